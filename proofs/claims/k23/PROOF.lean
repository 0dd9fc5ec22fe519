import PyProof.Rows.All
import Wide.All
import OpenK.AllK
import Wide.FinOn
import Lean
import PyProof.EqAt
import PyProof.EqKinds
import PyProof.TupleCall
import KE.KIsAll
import PyProof.ExcAttrAll.ValueError
import PyProof.NeKinds
import PyProof.InstStoreFacts
import KE.KUnpackStar
import KE.KSortTup
import PyProof.EnumFor
import PyProof.EnumStmt
import PyProof.ListRange
import PyProof.TupleKey
import PyProof.SetKind
import PyProof.Rows.SetFrom
import PyProof.SetRoads
import PyProof.CollectWalk
import PyProof.WalksMore
import PyProof.Rows.SortWalk
import PyProof.DictKinds
import PyProof.DictCompW
import PyProof.DictRoadsH
import PySem.Challenge.RW_pickalike_k23_orders_that_turn
noncomputable section
set_option Elab.async false
set_option linter.all false
set_option maxRecDepth 100000
namespace L2
open PySem PySem.Spec PyProof.Rows
abbrev Key:=Sum Int Str
def EL:Key→Value→Bool
 | .inl k,v=>Value.isInt k v
 | .inr x,v=>Value.isStrOf x v
def LL (w:World):Key→Int
 | .inl k=>hashInt k
 | .inr x=>hashStr w x
theorem dw:∀{k:Key}{v:Value},EL k v=true→(∃i t,k=Sum.inl i∧v=Value.int i t)∨(∃x t,k=Sum.inr x∧v=Value.str x t)
 | .inl i,v,h=>by
  obtain ⟨t,e⟩:=Value.isInt_shape (k:=i) (v:=v) h
  exact .inl ⟨i,t,rfl,e⟩
 | .inr x,v,h=>by
  obtain ⟨t,e⟩:=Value.isStrOf_shape (x:=x) (v:=v) h
  exact .inr ⟨x,t,rfl,e⟩
theorem Ii (a b:Int):decide ((Sum.inl a:Key)=Sum.inl b)=(a == b):=by
 by_cases e:a=b
 ·subst e;simp
 ·have h:¬(Sum.inl a:Key)=Sum.inl b:=fun q=>e (Sum.inl.inj q)
  rw [decide_eq_false h]
  exact (beq_eq_false_iff_ne.mpr e).symm
theorem Il (a b:Str):decide ((Sum.inr a:Key)=Sum.inr b)=decide (a=b):=by
 by_cases e:a=b
 ·subst e;simp
 ·have h:¬(Sum.inr a:Key)=Sum.inr b:=fun q=>e (Sum.inr.inj q)
  rw [decide_eq_false h,decide_eq_false e]
theorem Ij (a:Int) (b:Str):decide ((Sum.inl a:Key)=Sum.inr b)=false:=decide_eq_false (fun q=>nomatch q)
theorem Ik (a:Str) (b:Int):decide ((Sum.inr a:Key)=Sum.inl b)=false:=decide_eq_false (fun q=>nomatch q)
def sD (prog:Program) (w:World):PySem.KeyKind prog w Key where
 is:=EL
 hash:=LL w
 inj:=fun v a b ha hb=>by
  rcases dw ha with ⟨i,t,rfl,rfl⟩ | ⟨x,t,rfl,rfl⟩
  ·rcases dw hb with ⟨j,u,rfl,e⟩ | ⟨y,u,rfl,e⟩
   ·injection e with e1 _;rw [e1]
   ·exact nomatch e
  ·rcases dw hb with ⟨j,u,rfl,e⟩ | ⟨y,u,rfl,e⟩
   ·exact nomatch e
   ·injection e with e1 _;rw [e1]
 byValue:=fun k v h=>by
  rcases dw h with ⟨i,t,rfl,rfl⟩ | ⟨x,t,rfl,rfl⟩ <;> rfl
 pyHash:=fun hv h=>by
  rcases dw hv with ⟨i,t,rfl,rfl⟩ | ⟨x,t,rfl,rfl⟩
  ·exact wpAny_pyHash_int h
  ·exact wpAny_pyHash_str h
 eqBool:=fun hu hv h=>by
  rcases dw hu with ⟨i,t,rfl,rfl⟩ | ⟨x,t,rfl,rfl⟩
  ·rcases dw hv with ⟨j,u,rfl,rfl⟩ | ⟨y,u,rfl,rfl⟩
   ·rw [Ii] at h;exact wpAny_eqBool_int h
   ·rw [Ij] at h;exact SeqAt.EqAt.int_str i t y u _ _ _ _ h
  ·rcases dw hv with ⟨j,u,rfl,rfl⟩ | ⟨y,u,rfl,rfl⟩
   ·rw [Ik] at h;exact SeqAt.EqAt.str_int x t j u _ _ _ _ h
   ·rw [Il] at h;exact wpAny_eqBool_str h
 «strs»:=fun k x t v h=>by
  rcases dw h with ⟨i,u,rfl,e⟩ | ⟨y,u,rfl,e⟩
  ·exact nomatch e
  ·injection e with e1 _
   subst e1
   cases v <;> rfl
inductive V where
 | non | bl (b:Bool) | int (i:Int) | str (x:Str) | byt (b:Array UInt8) | flt (b:UInt64) | ref (a:Addr) | ty (n:String)
 deriving DecidableEq
def RelV:V→Value→Prop
 | .non,u=>u=Value.none
 | .bl b,u=>u=Value.bool b
 | .int i,u=>∃t,u=Value.int i t
 | .str x,u=>∃t,u=Value.str x t
 | .byt b,u=>∃t,u=Value.bytes b t
 | .flt b,u=>∃t,u=Value.float b t
 | .ref a,u=>u=Value.ref a
 | .ty n,u=>u=Value.type n
abbrev Vals:List V→List Value→Prop:=Paired RelV
theorem Vals.length {xs:List V}{us:List Value}(r:Vals xs us):xs.length=us.length:=Paired.length r
theorem Vals.get:∀{xs:List V}{us:List Value}{i:Nat}{x:V},Vals xs us→xs[i]?=some x→∃u,us[i]?=some u∧RelV x u
 | _,_,_,_,.nil,e=>by simp at e
 | _,_,0,_,.cons r _,e=>by simp at e;subst e;exact ⟨_,rfl,r⟩
 | _,_,i + 1,x,.cons _ t,e=>by
  obtain ⟨u,h1,h2⟩:=Vals.get (i:=i) (x:=x) t (by simpa using e)
  exact ⟨u,by simpa using h1,h2⟩
theorem Vals.set {x:V}{u:Value}(r:RelV x u):∀{xs:List V}{us:List Value}(i:Nat),Vals xs us→Vals (xs.set i x) (us.set i u)
 | _,_,_,.nil=>.nil
 | _,_,0,.cons _ t=>.cons r t
 | _,_,i + 1,.cons q t=>.cons q (Vals.set r i t)
theorem Vals.append:∀{xs ys:List V}{us ws:List Value},Vals xs us→Vals ys ws→Vals (xs++ys) (us++ws)
 | _,_,_,_,.nil,s=>s
 | _,_,_,_,.cons r t,s=>.cons r (Vals.append t s)
theorem Vals.take:∀{xs:List V}{us:List Value}(n:Nat),Vals xs us→Vals (xs.take n) (us.take n)
 | _,_,0,_=>.nil
 | _,_,_ + 1,.nil=>.nil
 | _,_,n + 1,.cons r t=>.cons r (Vals.take n t)
theorem Vals.drop:∀{xs:List V}{us:List Value}(n:Nat),Vals xs us→Vals (xs.drop n) (us.drop n)
 | _,_,0,r=>r
 | _,_,_ + 1,.nil=>.nil
 | _,_,n + 1,.cons _ t=>Vals.drop n t
def Hr:Option V→Option Value→Prop
 | some v,some u=>RelV v u
 | none,none=>True
 | _,_=>False
def KV {κ:Type}:List (κ×V)→List (κ×Value)→Prop:=Paired fun (p:κ×V) (q:κ×Value)=>p.1=q.1∧RelV p.2 q.2
def kV:Key→V
 | .inl i=>.int i
 | .inr x=>.str x
inductive HO where
  | lst (xs:List V)
  | tup (xs:List V)
  | dK (kvs:List (Key×V)) | dT (kvs:List (List Key×V))
  | set (S:Int→Bool) (n:Nat)
  | ins (C dx:Addr) (fs:List (Str×V))
  | own (x:Addr)
  | xd (fs:List (Str×V))
  | met (f x:Addr)
  | rng (lo hi:Int)
  | frz (o:Obj) (u:HO)
  | tbl (ps:Array Value)
  | ext (φ:Heap→Prop)
abbrev Hp:=Addr→Option HO
def upd (H:Hp) (a:Addr) (o:HO):Hp:=fun b=>if b=a then some o else H b
theorem b9 {H:Hp}{a:Addr}{o:HO}:upd H a o a=some o:=by unfold upd;rw [if_pos rfl]
theorem bC {H:Hp}{a b:Addr}{o:HO}(h:b≠a):upd H a o b=H b:=by unfold upd;rw [if_neg h]
theorem eT {H:Hp}{a b:Addr}{o:HO}(h:H a=some o) (h':H b=none):a≠b:=by
 intro e;subst e;rw [h] at h';cases h'
section
variable (P:Program) (w:World)
def cg (H:Hp) (h:Heap) (a:Addr):HO→Prop
 | .lst xs=>xs.length≤sizeLine∧∃(its:List Value) (n:Nat),Vals xs its∧h.get? a=some {cls:=.type "list",data:=.seq its.toArray n}
 | .tup xs=>xs.length≤sizeLine∧∃its:List Value,Vals xs its∧IsTup h a its.toArray
 | .dK kvs=>kvs.length≤sizeLine∧(a == sysModules)=false∧∃vs,KV kvs vs∧h.DictOf (sD P w) a vs
 | .dT kvs=>kvs.length≤sizeLine∧(a == sysModules)=false∧∃xs:List (List Key×Addr×Value),
   Paired (fun (p:List Key×V) (q:List Key×Addr×Value)=>p.1=q.1∧H q.2.1=some (.tup (p.1.map kV))∧RelV p.2 q.2.2) kvs xs∧
   ∃o es ep,h.get? a=some o∧o.ExactDict∧o.data=.dict es ep∧es.toList=xs.map (entryOfKey (tupleKind (sD P w)))∧(xs.map (·.1)).Nodup
 | .set S n=>h.SetOf (intKind P w) a S n
 | .ins C dx fs=>H dx=some (.own a)∧fs.length≤1000∧dx≠a∧h.get? a=some (PySem.W.instObj C dx)∧
   ∃mA,h.Ns1 dx mA∧(∀f,Hr (fs.lookup f) (mA f))∧PySem.Within mA (fs.map (·.1))
 | .own _=>∃o,h.get? a=some o
 | .xd fs=>∃mA,h.Ns1 a mA∧∀f,Hr (fs.lookup f) (mA f)
 | .rng lo hi=>∃t u v,h.get? a=some {cls:=.type "range",data:=.fields #[.int lo t,.int hi u,.int 1 v]}
 | .frz o u=>h.get? a=some o∧cg H h a u
 | .tbl ps=>h.get? a=some {cls:=.none,data:=.fields ps}
 | .met f x=>h.get? a=some (PySem.W.methodObj (.ref f) (.ref x))
 | .ext φ=>φ h∧(∃o,h.get? a=some o)∧∀h1 h2:Heap,φ h1→(∀o,h1.get? a=some o→h2.get? a=some o)→φ h2
def fM (H:Hp) (h:Heap):Prop:=∀a o,H a=some o→cg P w H h a o
end
section
variable {P:Program}{w:World}{H H':Hp}{h h':Heap}{a:Addr}{o:HO}
theorem cg.lt (x:cg P w H h a o):a < h.objs.size:=by
 cases o with
 | lst xs=>obtain ⟨_,_,_,_,e⟩:=x;exact Heap.lt_size e
 | tup xs=>obtain ⟨_,_,_,p⟩:=x;exact p.lt
 | dK kvs=>obtain ⟨_,_,_,_,o,_,_,e,_⟩:=x;exact Heap.lt_size e
 | dT kvs=>obtain ⟨_,_,_,_,o,_,_,e,_⟩:=x;exact Heap.lt_size e
 | set S n=>obtain ⟨o,_,_,_,e,_⟩:=x;exact Heap.lt_size e
 | ins C dx fs=>obtain ⟨_,_,_,e,_⟩:=x;exact Heap.lt_size e
 | own y=>obtain ⟨_,e⟩:=x;exact Heap.lt_size e
 | xd fs=>obtain ⟨_,⟨_,_,_,e,_⟩,_⟩:=x;exact Heap.lt_size e
 | rng lo hi=>obtain ⟨_,_,_,e⟩:=x;exact Heap.lt_size e
 | frz ob u=>obtain ⟨e,_⟩:=x;exact Heap.lt_size e
 | tbl ps=>exact Heap.lt_size (show h.get? a=some _ from x)
 | met f y=>exact Heap.lt_size (show h.get? a=some _ from x)
 | ext φ=>obtain ⟨_,⟨_,e⟩,_⟩:=x;exact Heap.lt_size e
theorem Paired.mapP {α β:Type}{F G:α→β→Prop}:∀{l₁:List α}{l₂:List β},Paired F l₁ l₂→(∀a b,F a b→G a b)→Paired G l₁ l₂
 | _,_,.nil,_=>.nil
 | _,_,.cons r t,f=>.cons (f _ _ r) (Paired.mapP t f)
theorem cg.stay (x:cg P w H h a o) (k:∀b u,(b=a∨H b=some (.own a))→h.get? b=some u→h'.get? b=some u)
  (ho:∀b,H b=some (.own a)→H' b=some (.own a)) (ht:∀b xs,H b=some (.tup xs)→H' b=some (.tup xs)):cg P w H' h' a o:=by
 induction o with
 | lst xs=>obtain ⟨z,its,n,r,e⟩:=x;exact ⟨z,its,n,r,k _ _ (.inl rfl) e⟩
 | tup xs=>obtain ⟨z,its,r,ob,e,c⟩:=x;exact ⟨z,its,r,ob,k _ _ (.inl rfl) e,c⟩
 | dK kvs=>obtain ⟨z,y,vs,r,ob,es,ep,e,c⟩:=x;exact ⟨z,y,vs,r,ob,es,ep,k _ _ (.inl rfl) e,c⟩
 | dT kvs=>
  obtain ⟨z,y,xs,r,ob,es,ep,e,c⟩:=x
  exact ⟨z,y,xs,Paired.mapP r fun p q z=>⟨z.1,ht _ _ z.2.1,z.2.2⟩,ob,es,ep,k _ _ (.inl rfl) e,c⟩
 | set S n=>obtain ⟨ob,es,ep,t,e,c⟩:=x;exact ⟨ob,es,ep,t,k _ _ (.inl rfl) e,c⟩
 | ins C dx fs=>
  obtain ⟨d,z,ne,e,mA,⟨od,es,ep,e2,c⟩,r⟩:=x
  exact ⟨ho _ d,z,ne,k _ _ (.inl rfl) e,mA,⟨od,es,ep,k _ _ (.inr d) e2,c⟩,r⟩
 | own y=>obtain ⟨ob,e⟩:=x;exact ⟨ob,k _ _ (.inl rfl) e⟩
 | xd fs=>obtain ⟨mA,⟨od,es,ep,e,c⟩,r⟩:=x;exact ⟨mA,⟨od,es,ep,k _ _ (.inl rfl) e,c⟩,r⟩
 | rng lo hi=>obtain ⟨t,u,v,e⟩:=x;exact ⟨t,u,v,k _ _ (.inl rfl) e⟩
 | frz ob u ih=>obtain ⟨e,q⟩:=x;exact ⟨k _ _ (.inl rfl) e,ih q⟩
 | tbl ps=>
  have e:h.get? a=some {cls:=.none,data:=.fields ps}:=x
  show h'.get? a=some {cls:=.none,data:=.fields ps}
  exact k a _ (.inl rfl) e
 | met f y=>
  have e:h.get? a=some (PySem.W.methodObj (.ref f) (.ref y)):=x
  show h'.get? a=some (PySem.W.methodObj (.ref f) (.ref y))
  exact k a _ (.inl rfl) e
 | ext φ=>obtain ⟨p,⟨o,e⟩,st⟩:=x;exact ⟨st _ _ p fun o q=>k _ _ (.inl rfl) q,⟨o,k _ _ (.inl rfl) e⟩,st⟩
theorem fM.lt (x:fM P w H h) (e:H a=some o):a < h.objs.size:=(x a o e).lt
theorem fM.fresh (x:fM P w H h) (e:h.objs.size≤a):H a=none:=by
 cases q:H a with
 | none=>rfl
 | some u=>exact absurd (Nat.lt_of_lt_of_le (x.lt q) e) (Nat.lt_irrefl _)
theorem fM.kept (x:fM P w H h) (k:∀b u,h.get? b=some u→h'.get? b=some u):fM P w H h':=fun a o e=>
 (x a o e).stay (fun b u _ q=>k b u q) (fun _ q=>q) fun _ _ q=>q
theorem fM.laid (x:fM P w H h) (k:∀b u,h.get? b=some u→h'.get? b=some u) (hp:h.objs.size≤a) (new:cg P w (upd H a o) h' a o):fM P w (upd H a o) h':=fun b u e=>by
 have hn:=x.fresh hp
 by_cases hb:b=a
 ·subst hb;rw [b9] at e;cases e;exact new
 ·rw [bC hb] at e
  exact (x b u e).stay (fun c v _ q=>k c v q) (fun c q=>by rw [bC (eT q hn)];exact q) fun c xs q=>by rw [bC (eT q hn)];exact q
end
def Rd (H:Hp) (a:Addr) (u:HO):Prop:=H a=some u∨∃o,H a=some (.frz o u)
theorem Rd.ok {P:Program}{w:World}{H:Hp}{h:Heap}{a:Addr}{u:HO}(r:Rd H a u) (x:fM P w H h):cg P w H h a u:=by
 rcases r with r | ⟨o,r⟩
 ·exact x a u r
 ·obtain ⟨_,q⟩:=x a _ r
  exact q
def ED:Option HO→Prop
 | some (.lst _)=>True
 | some (.dK _)=>True
 | some (.dT _)=>True
 | some (.set _ _)=>True
 | some (.ins _ _ _)=>True
 | some (.ext _)=>True
 | _=>False
section
variable {P:Program}{w:World}{H:Hp}{h h':Heap}{x e:Addr}{o':HO}
theorem fM.write (ok:fM P w H h) (mu:ED (H x)) (he:e=x∨H e=some (.own x)) (k:∀b u,b≠e→h.get? b=some u→h'.get? b=some u) (heo:∃u,h'.get? e=some u)
  (new:cg P w (upd H x o') h' x o'):fM P w (upd H x o') h':=fun b u q=>by
 have nown:∀c y,H c=some (.own y)→c≠x:=fun c y r z=>by subst z;rw [r] at mu;exact mu
 have ntup:∀c xs,H c=some (.tup xs)→c≠x:=fun c xs r z=>by subst z;rw [r] at mu;exact mu
 by_cases hb:b=x
 ·subst hb;rw [b9] at q;cases q;exact new
 ·rw [bC hb] at q
  by_cases hbe:b=e
  ·have q':H b=some (.own x):=by
    rcases he with z | z
    ·exact absurd (hbe.trans z) hb
    ·rw [hbe];exact z
   rw [q] at q';cases q'
   obtain ⟨v,hv⟩:=heo
   exact ⟨v,by rw [hbe];exact hv⟩
  ·refine (ok b u q).stay (fun c v hc r=>k c v ?_ r) (fun c r=>by rw [bC (nown c b r)];exact r) fun c xs r=>by rw [bC (ntup c xs r)];exact r
   rcases hc with rfl | hc
   ·exact hbe
   ·rintro rfl
    rcases he with z | z
    ·exact nown c b hc z
    ·rw [hc] at z;cases z;exact hb rfl
end
structure Un (fs ex:List Addr) (H H':Hp) (h h':Heap):Prop where
 keep:∀b o,h.get? b=some o→H b=none→b∉fs→b∉ex→h'.get? b=some o
 slot:∀b o,h.get? b=some o→H b=none→b∈fs→b∉ex→∃sl,h'.get? b=some {o with slots:=sl}
 free:∀b o,h.get? b=some o→H b=none→b∉ex→H' b=none
 there:∀b o,h.get? b=some o→b∉ex→∃o',h'.get? b=some o'
 tups:∀b xs,H b=some (.tup xs)→H' b=some (.tup xs)
 frzs:∀b o u,H b=some (.frz o u)→H' b=some (.frz o u)
 tbls:∀b ps,H b=some (.tbl ps)→∃more,H' b=some (.tbl (ps++more))
section
variable {fs fs' ex ex':List Addr}{H H1 H2:Hp}{h h1 h2 h':Heap}{a x e:Addr}{o:HO}
theorem Un.any (u:Un fs ex H H1 h h1){b:Addr}{ob:Obj}(q:h.get? b=some ob) (n:H b=none) (hx:b∉ex):∃sl,h1.get? b=some {ob with slots:=sl}:=by
 by_cases hb:b∈fs
 ·exact u.slot b ob q n hb hx
 ·exact ⟨ob.slots,u.keep b ob q n hb hx⟩
theorem Un.kept (k:∀b u,h.get? b=some u→h'.get? b=some u):Un fs ex H H h h':=
 ⟨fun b ob q _ _ _=>k b ob q,fun b ob q _ _ _=>⟨ob.slots,k b ob q⟩,fun _ _ _ n _=>n,fun b ob q _=>⟨ob,k b ob q⟩,fun _ _ q=>q,fun _ _ _ q=>q,fun _ ps q=>⟨#[],by rw [q];simp⟩⟩
theorem Un.refl:Un fs ex H H h h:=Un.kept fun _ _ q=>q
theorem Un.laid (k:∀b u,h.get? b=some u→h'.get? b=some u) (hp:h.objs.size≤a) (hn:H a=none):Un fs ex H (upd H a o) h h' where
 keep:=fun b u q _ _ _=>k b u q
 slot:=fun b u q _ _ _=>⟨u.slots,k b u q⟩
 free:=fun b u q n _=>by rw [bC (Nat.ne_of_lt (Nat.lt_of_lt_of_le (Heap.lt_size q) hp))];exact n
 there:=fun b u q _=>⟨u,k b u q⟩
 tups:=fun b xs q=>by rw [bC (eT q hn)];exact q
 frzs:=fun b u xs q=>by rw [bC (eT q hn)];exact q
 tbls:=fun b ps q=>⟨#[],by rw [bC (eT q hn),q];simp⟩
theorem Un.write (mu:ED (H x)) (he:e=x∨H e=some (.own x)) (k:∀b u,b≠e→h.get? b=some u→h'.get? b=some u) (heo:∃u,h'.get? e=some u):Un fs ex H (upd H x o) h h':=by
 have hx:∀b,H b=none→b≠x:=fun b n z=>by subst z;rw [n] at mu;exact mu
 have hb:∀b,H b=none→b≠e:=fun b n z=>by
  subst z
  rcases he with r | r
  ·exact hx b n r
  ·rw [n] at r;cases r
 have hm:∀b u,H b=some u→¬ED (some u)→b≠x:=fun b u q nm z=>by subst z;rw [q] at mu;exact nm mu
 refine ⟨fun b u q n _ _=>k b u (hb b n) q,fun b u q n _ _=>⟨u.slots,k b u (hb b n) q⟩,fun b u q n _=>by rw [bC (hx b n)];exact n,fun b u q _=>?_,
  fun b xs q=>by rw [bC (hm b _ q fun z=>z)];exact q,fun b u xs q=>by rw [bC (hm b _ q fun z=>z)];exact q,fun b ps q=>⟨#[],by rw [bC (hm b _ q fun z=>z),q];simp⟩⟩
 by_cases hbe:b=e
 ·subst hbe;exact heo
 ·exact ⟨u,k b u hbe q⟩
end
def Cy (h:Heap) (H:Hp):List Addr:=(List.range h.objs.size).filter fun a=>(H a).isSome
def mW (h:Heap) (H:Hp):Heap:=PySem.W.hideAll h (Cy h H)
theorem BH (h:Heap) (H:Hp):(mW h H).objs.size=h.objs.size:=PySem.W.hideAll_size _ _
theorem Dh {h:Heap}{H:Hp}{b:Addr}{o:Obj}(e:h.get? b=some o) (n:H b=none):(mW h H).get? b=some o:=
 PySem.W.hideAll_get _ e fun hm=>by
  have q:(H b).isSome=true:=(List.mem_filter.mp hm).2
  rw [n] at q;simp at q
theorem FU {h:Heap}{H:Hp}{b:Addr}{o:Obj}(e:(mW h H).get? b=some o):h.get? b=some o∧H b=none:=by
 have e':h.get? b=some o:=PySem.W.of_hideAll (Cy h H) e
 refine ⟨e',?_⟩
 cases q:H b with
 | none=>rfl
 | some x=>
  have hm:b∈Cy h H:=List.mem_filter.mpr ⟨List.mem_range.mpr (Heap.lt_size e'),by simp [q]⟩
  have z:(mW h H).get? b=none:=PySem.W.hideAll_none (Cy h H) hm
  rw [z] at e;cases e
def E8 (g h:Heap) (L:Addr):List (Addr×Obj):=(List.range h.objs.size).filterMap fun a=>if a=L∨(g.get? a).isSome=true then none else (h.get? a).map fun o=>(a,o)
def rest (g h:Heap) (L d:Addr):List (Addr×Obj):=(E8 g h L).filter fun p=>decide (p.1≠d)
structure Mod (K:PySem.W.Frag) (mg:Str→Option Value) (base:Heap):Prop where
 kin:K.In base
 glob:base.Ns mainGlobals mg
 blt:∃mb,base.Ns builtinsNs mb∧∀x:Str,x≠"__name__"→mb x=bootBuiltins x
 nolimit:base.NoLimit
structure Cx where
 prog:Program
 w:World
 K:PySem.W.Frag
 mg:Str→Option Value
 base:Heap
 A:Around
 N:List Str
 s₀:Shared
 H₀:Hp
 env:Env
 outer:List Env
 stack:List Env
 ex:List Addr
 fn:Str→Bool
 calm:Bool
 pn:List (Addr×Obj)
 xe:Value→Shared→Prop
def frs (l:List Env):List Addr:=l.filterMap (·.frame)
abbrev Cx.fs (X:Cx):List Addr:=frs X.outer
def nE (sc:Scope) (x:Str):Prop:=sc.names.lookup x=some .local∨sc.names.lookup x=some .cell∨sc.names.lookup x=some .free
def Loc (sc:Scope) (x:Str):Prop:=sc.names.lookup x=some .local∨sc.names.lookup x=some .cell
def Look (env:Env) (h:Heap) (m:Str→Option Value) (x:Str) (u:Value):Prop:=
 (env.kindOf x=some .local∧m x=some u)∨((env.kindOf x=some .cell∨env.kindOf x=some .free)∧∃c,env.cells.lookup x=some c∧h.IsCell c (some u))
structure Cx.Ok (X:Cx):Prop where
 mod:Mod X.K X.mg X.base
 kind:X.env.scope.kind=.function
 glob:X.env.globals=mainGlobals
 blt:X.env.builtins=builtinsNs
 above:X.s₀.heap.objs.size≤X.env.locals
 inj:∀x y c,X.env.cells.lookup x=some c→X.env.cells.lookup y=some c→x=y
 has:∀x,(X.env.kindOf x=some .cell∨X.env.kindOf x=some .free)→∃c,X.env.cells.lookup x=some c
 cab:∀x c,X.fn x=true→X.env.cells.lookup x=some c→X.s₀.heap.objs.size≤c
 hd:X.calm=true→X.A.handled=none
 frames:X.A.frames=some X.stack
 stk:X.stack=X.outer∨(X.stack=X.env::X.outer∧X.env.frame=some X.env.locals)
 exf:∀b∈X.ex,b≠X.env.locals∧∀x c,X.env.cells.lookup x=some c→c≠b
 bs:∀b o,X.base.get? b=some o→X.s₀.heap.get? b=some o∧X.H₀ b=none
 bsz:X.base.objs.size≤X.s₀.heap.objs.size
 noex:∀b o,X.base.get? b=some o→b∉X.ex
 exfs:∀b∈X.ex,b∉X.fs
 funs:X.s₀.heap.FunFrames X.base X.outer
 frf:∀b∈X.fs,X.H₀ b=none
structure Inv (X:Cx) (pins:List (Addr×Obj)) (σ:List (Option V)) (H:Hp) (s:Shared):Prop where
 ok:X.Ok
 os:s.os=X.s₀.os
 bare:AllBare s.gens
 base:Un X.fs X.ex X.H₀ H X.s₀.heap s.heap
 loc:∃m,s.heap.Ns X.env.locals m∧∀(i:Nat) (x:Str) (v:V),X.N[i]?=some x→σ[i]?=some (some v)→nE X.env.scope x→∃u,RelV v u∧Look X.env s.heap m x u
 cell:∀x c,X.env.cells.lookup x=some c→∃v,s.heap.IsCell c v
 free:H X.env.locals=none
 freeC:∀x c,X.env.cells.lookup x=some c→H c=none
 pin:∀p∈X.pn++pins,s.heap.get? p.1=some p.2∧H p.1=none∧p.1≠X.env.locals∧p.1∉X.fs∧∀v,p.2.data≠.cell v
 hok:fM X.prog X.w H s.heap
 len:σ.length=X.N.length
section
variable {X:Cx}{pins:List (Addr×Obj)}{σ:List (Option V)}{H H':Hp}{s:Shared}{h':Heap}
theorem Cx.Ok.nofr (ok:X.Ok){b:Addr}{o:Obj}(e:X.base.get? b=some o):b∉X.fs:=fun hb=>by
 have:=(ok.funs.mem hb).1
 rw [e] at this;cases this
theorem Inv.bs (I:Inv X pins σ H s):∀b o,X.base.get? b=some o→s.heap.get? b=some o∧H b=none:=fun b o e=>
 ⟨I.base.keep b o (I.ok.bs b o e).1 (I.ok.bs b o e).2 (I.ok.nofr e) (I.ok.noex b o e),I.base.free b o (I.ok.bs b o e).1 (I.ok.bs b o e).2 (I.ok.noex b o e)⟩
theorem Inv.bk (I:Inv X pins σ H s):∀b o,X.base.get? b=some o→s.heap.get? b=some o:=fun b o e=>(I.bs b o e).1
theorem Inv.mod (I:Inv X pins σ H s):Mod X.K X.mg X.base:=I.ok.mod
theorem Inv.kIn (I:Inv X pins σ H s):X.K.In s.heap:=I.ok.mod.kin.keeps I.bk
theorem Inv.lt (I:Inv X pins σ H s):X.env.locals < s.heap.objs.size:=let ⟨_,hn,_⟩:=I.loc;hn.lt
theorem Inv.sz (I:Inv X pins σ H s):X.s₀.heap.objs.size≤s.heap.objs.size:=Nat.le_trans I.ok.above (Nat.le_of_lt I.lt)
theorem Inv.nofs (I:Inv X pins σ H s){a:Addr}(h:s.heap.objs.size≤a):a∉X.fs:=fun hb=>by
 obtain ⟨_,o,ho,_⟩:=I.ok.funs.mem hb
 exact absurd (Nat.lt_of_lt_of_le (Heap.lt_size ho) (Nat.le_trans I.sz h)) (Nat.lt_irrefl _)
theorem Inv.cne (I:Inv X pins σ H s):∀x c,X.env.cells.lookup x=some c→c≠X.env.locals:=fun x c e z=>by
 obtain ⟨v,o,ho,hd⟩:=I.cell x c e
 obtain ⟨m,⟨o',es,ep,ho',hd',_⟩,_⟩:=I.loc
 rw [z,ho'] at ho;cases ho;rw [hd'] at hd;cases hd
theorem Inv.funs (I:Inv X pins σ H s):s.heap.FunFrames X.base X.outer:=by
 have all:∀(l:List Env),(∀b∈frs l,b∈X.fs)→X.s₀.heap.FunFrames X.base l→s.heap.FunFrames X.base l:=by
  intro l
  induction l with
  | nil=>intro _ _;trivial
  | cons env r ih=>
   intro hs hl
   obtain ⟨hk,⟨L,o,hf,hn,ho,hd⟩,hr⟩:=hl
   have hL:L∈X.fs:=hs L (by unfold frs;rw [List.filterMap_cons,hf];exact List.mem_cons_self)
   obtain ⟨sl,e⟩:=I.base.slot L o ho (I.ok.frf L hL) hL fun z=>I.ok.exfs L z hL
   exact ⟨hk,⟨L,_,hf,hn,e,hd⟩,ih (fun b hb=>hs b (by unfold frs;rw [List.filterMap_cons,hf];exact List.mem_cons_of_mem _ hb)) hr⟩
 exact all X.outer (fun _ hb=>hb) I.ok.funs
theorem Inv.stack (I:Inv X pins σ H s):s.heap.FunFrames X.base X.stack:=by
 rcases I.ok.stk with e | ⟨e,hf⟩
 ·rw [e];exact I.funs
 ·rw [e]
  obtain ⟨m,hn,_⟩:=I.loc
  refine .cons (by rw [I.ok.kind];decide) hf hn ?_ I.funs
  exact Heap.get?_none_of_le (Nat.le_trans I.ok.bsz I.ok.above)
theorem Inv.stkSub (I:Inv X pins σ H s):∀b∈frs X.stack,b∈X.env.locals::X.fs:=fun b hb=>by
 rcases I.ok.stk with e | ⟨e,hf⟩
 ·rw [e] at hb;exact List.mem_cons_of_mem _ hb
 ·rw [e] at hb
  unfold frs at hb
  rw [List.filterMap_cons,hf] at hb
  exact hb
theorem Inv.stkFree (I:Inv X pins σ H s):∀b∈frs X.stack,H b=none:=fun b hb=>by
 rcases List.mem_cons.mp (I.stkSub b hb) with e | hb
 ·rw [e];exact I.free
 ·obtain ⟨_,o,ho,_⟩:=I.ok.funs.mem hb
  exact I.base.free b o ho (I.ok.frf b hb) fun z=>I.ok.exfs b z hb
theorem Inv.step {g':Array GenState}{t':Nat}{d':Drawn}{ch:List Addr}(I:Inv X pins σ H s)
  (hch:∀b∈ch,(b∈X.ex∨X.s₀.heap.objs.size≤b)∧b≠X.env.locals∧(∀x c,X.env.cells.lookup x=some c→c≠b)∧∀p∈X.pn++pins,p.1≠b)
  (keep:∀b o,b≠X.env.locals→b∉X.fs→b∉ch→s.heap.get? b=some o→H b=none→h'.get? b=some o)
  (slot:∀b o,b≠X.env.locals→b∈X.fs→b∉ch→s.heap.get? b=some o→H b=none→∃sl,h'.get? b=some {o with slots:=sl}) (free:∀b o,b∉ch→s.heap.get? b=some o→H b=none→H' b=none)
  (there:∀b o,b∉ch→s.heap.get? b=some o→∃o',h'.get? b=some o')
  (tups:∀b xs,H b=some (.tup xs)→H' b=some (.tup xs)) (frzs:∀b o u,H b=some (.frz o u)→H' b=some (.frz o u)) (tbls:∀b ps,H b=some (.tbl ps)→∃more,H' b=some (.tbl (ps++more)))
  (ns:∀m,s.heap.Ns X.env.locals m→h'.Ns X.env.locals m) (hok:fM X.prog X.w H' h') (hg:AllBare g'):
  Inv X pins σ H' {s with heap:=h',gens:=g',drawn:=d',toks:=t'}:=by
 have neL:∀b o,X.s₀.heap.get? b=some o→b≠X.env.locals:=fun b o e=>Nat.ne_of_lt (Nat.lt_of_lt_of_le (Heap.lt_size e) I.ok.above)
 have neC:∀b o,X.s₀.heap.get? b=some o→b∉X.ex→b∉ch:=fun b o e hx hb=>by
  rcases (hch b hb).1 with z | z
  ·exact hx z
  ·exact absurd (Nat.lt_of_lt_of_le (Heap.lt_size e) z) (Nat.lt_irrefl _)
 have cellK:∀x c,X.env.cells.lookup x=some c→∀v,s.heap.IsCell c v→h'.IsCell c v:=fun x c e v ⟨o,ho,hd⟩=>by
  have nch:c∉ch:=fun z=>(hch c z).2.2.1 x c e rfl
  by_cases hc:c∈X.fs
  ·obtain ⟨sl,q⟩:=slot c o (I.cne x c e) hc nch ho (I.freeC x c e)
   exact ⟨_,q,hd⟩
  ·exact ⟨o,keep c o (I.cne x c e) hc nch ho (I.freeC x c e),hd⟩
 refine ⟨I.ok,I.os,hg,⟨fun b o e n hb hx=>?_,fun b o e n hb hx=>?_,fun b o e n hx=>?_,fun b o e hx=>?_,fun b xs e=>tups b xs (I.base.tups b xs e),fun b o xs e=>frzs b o xs (I.base.frzs b o xs e),fun b ps e=>?_⟩,?_,fun x c e=>?_,?_,fun x c e=>?_,fun p hp=>?_,hok,I.len⟩
 ·exact keep b o (neL b o e) hb (neC b o e hx) (I.base.keep b o e n hb hx) (I.base.free b o e n hx)
 ·obtain ⟨sl,e1⟩:=I.base.slot b o e n hb hx
  obtain ⟨sl',e2⟩:=slot b _ (neL b o e) hb (neC b o e hx) e1 (I.base.free b o e n hx)
  exact ⟨sl',e2⟩
 ·obtain ⟨o',e1⟩:=I.base.there b o e hx
  exact free b o' (neC b o e hx) e1 (I.base.free b o e n hx)
 ·obtain ⟨o',e1⟩:=I.base.there b o e hx
  exact there b o' (neC b o e hx) e1
 ·obtain ⟨m1,e1⟩:=I.base.tbls b ps e
  obtain ⟨m2,e2⟩:=tbls b _ e1
  exact ⟨m1++m2,by rw [e2,Array.append_assoc]⟩
 ·obtain ⟨m,hn,hl⟩:=I.loc
  refine ⟨m,ns m hn,fun i x v e1 e2 e3=>?_⟩
  obtain ⟨u,r,l⟩:=hl i x v e1 e2 e3
  refine ⟨u,r,?_⟩
  rcases l with l | ⟨k,c,e,z⟩
  ·exact .inl l
  ·exact .inr ⟨k,c,e,cellK x c e _ z⟩
 ·obtain ⟨v,z⟩:=I.cell x c e
  exact ⟨v,cellK x c e v z⟩
 ·obtain ⟨m,⟨o,_,_,ho,_⟩,_⟩:=I.loc
  exact free _ o (fun z=>(hch _ z).2.1 rfl) ho I.free
 ·obtain ⟨v,o,ho,hd⟩:=I.cell x c e
  exact free c o (fun z=>(hch c z).2.2.1 x c e rfl) ho (I.freeC x c e)
 ·obtain ⟨e,n,ne,nf,d⟩:=I.pin p hp
  have nch:p.1∉ch:=fun z=>(hch p.1 z).2.2.2 p hp rfl
  exact ⟨keep p.1 p.2 ne nf nch e n,free p.1 p.2 nch e n,ne,nf,d⟩
theorem Inv.un {t':Nat}(I:Inv X pins σ H s) (u:Un X.fs [] H H' s.heap h') (hok:fM X.prog X.w H' h'):Inv X pins σ H' {s with heap:=h',toks:=t'}:=by
 obtain ⟨m,⟨o,es,ep,ho,r⟩,_⟩:=id I.loc
 obtain ⟨sl,hL⟩:=u.any ho I.free (by simp)
 exact I.step (g':=s.gens) (d':=s.drawn) (ch:=[]) (fun _ z=>nomatch z) (fun b o _ hb _ e n=>u.keep b o e n hb (by simp)) (fun b o _ hb _ e n=>u.slot b o e n hb (by simp)) (fun b o _ e n=>u.free b o e n (by simp)) (fun b o _ e=>u.there b o e (by simp)) u.tups u.frzs u.tbls (fun m' hm=>by
  obtain ⟨o',es',ep',ho',r'⟩:=hm
  rw [ho] at ho';cases ho'
  exact ⟨_,es',ep',hL,r'⟩) hok I.bare
theorem Inv.call {g':Array GenState}{t':Nat}{d':Drawn}{ch:List Addr}(I:Inv X pins σ H s) (u:Un (frs X.stack) ch H H' s.heap h') (hok:fM X.prog X.w H' h') (hg:AllBare g')
  (hch:∀b∈ch,(b∈X.ex∨X.s₀.heap.objs.size≤b)∧b≠X.env.locals∧(∀x c,X.env.cells.lookup x=some c→c≠b)∧∀p∈X.pn++pins,p.1≠b):
  Inv X pins σ H' {s with heap:=h',gens:=g',drawn:=d',toks:=t'}:=by
 obtain ⟨m,⟨o,es,ep,ho,r⟩,_⟩:=id I.loc
 obtain ⟨sl,hL⟩:=u.any ho I.free fun z=>(hch _ z).2.1 rfl
 exact I.step (ch:=ch) hch (fun b o hL hb hc e n=>u.keep b o e n (fun z=>(List.mem_cons.mp (I.stkSub b z)).elim hL hb) hc) (fun b o _ _ hc e n=>u.any e n hc) (fun b o hc e n=>u.free b o e n hc) (fun b o hc e=>u.there b o e hc) u.tups u.frzs u.tbls (fun m' hm=>by
  obtain ⟨o',es',ep',ho',r'⟩:=hm
  rw [ho] at ho';cases ho'
  exact ⟨_,es',ep',hL,r'⟩) hok hg
theorem Inv.turned {t':Nat}{it:Addr}(I:Inv X pins σ H s) (k:∀b o,b≠it→s.heap.get? b=some o→h'.get? b=some o) (hn:H it=none) (hL:it≠X.env.locals)
  (h1:it∈X.ex∨X.s₀.heap.objs.size≤it) (h2:∀x c,X.env.cells.lookup x=some c→c≠it) (h3:∀p∈X.pn++pins,p.1≠it):Inv X pins σ H {s with heap:=h',toks:=t'}:=by
 have nit:∀b u,H b=some u→b≠it:=fun b u e z=>by rw [z,hn] at e;cases e
 refine I.step (g':=s.gens) (d':=s.drawn) (ch:=[it]) (fun b hb=>?_) (fun b o _ _ hc e _=>k b o (fun z=>hc (by simp [z])) e) (fun b o _ _ hc e _=>⟨o.slots,k b o (fun z=>hc (by simp [z])) e⟩) (fun _ _ _ _ n=>n)
  (fun b o hc e=>⟨o,k b o (fun z=>hc (by simp [z])) e⟩) (fun _ _ e=>e) (fun _ _ _ e=>e) (fun b ps e=>⟨#[],by rw [e];simp⟩) (fun m hm=>?_) (fun b u e=>?_) I.bare
 ·have e:b=it:=by simpa using hb
  subst e
  exact ⟨h1,hL,h2,h3⟩
 ·obtain ⟨o,es,ep,ho,r⟩:=hm
  exact ⟨o,es,ep,k _ o (Ne.symm hL) ho,r⟩
 ·refine (I.hok b u e).stay (fun c v hc q=>k c v ?_ q) (fun _ q=>q) fun _ _ q=>q
  rcases hc with z | z
  ·rw [z];exact nit b u e
  ·exact nit c _ z
theorem Inv.tok (I:Inv X pins σ H s) (t:Nat):Inv X pins σ H {s with toks:=t}:=I.un (h':=s.heap) (t':=t) Un.refl I.hok
theorem Inv.kept {t':Nat}(I:Inv X pins σ H s) (k:∀b u,s.heap.get? b=some u→h'.get? b=some u):Inv X pins σ H {s with heap:=h',toks:=t'}:=I.un (Un.kept k) (I.hok.kept k)
theorem Inv.laid {a:Addr}{o:HO}{t':Nat}(I:Inv X pins σ H s) (k:∀b u,s.heap.get? b=some u→h'.get? b=some u) (hp:s.heap.objs.size≤a) (new:cg X.prog X.w (upd H a o) h' a o):
  Inv X pins σ (upd H a o) {s with heap:=h',toks:=t'}:=I.un (Un.laid k hp (I.hok.fresh hp)) (I.hok.laid k hp new)
theorem Inv.write {x e:Addr}{o:HO}{t':Nat}(I:Inv X pins σ H s) (mu:ED (H x)) (he:e=x∨H e=some (.own x)) (k:∀b u,b≠e→s.heap.get? b=some u→h'.get? b=some u) (heo:∃u,h'.get? e=some u)
  (new:cg X.prog X.w (upd H x o) h' x o):Inv X pins σ (upd H x o) {s with heap:=h',toks:=t'}:=I.un (Un.write mu he k heo) (I.hok.write mu he k heo new)
theorem Inv.pins_of {pins':List (Addr×Obj)}(I:Inv X pins σ H s) (h:∀p∈pins',s.heap.get? p.1=some p.2∧H p.1=none∧p.1≠X.env.locals∧p.1∉X.fs∧∀v,p.2.data≠.cell v):Inv X pins' σ H s:=
 ⟨I.ok,I.os,I.bare,I.base,I.loc,I.cell,I.free,I.freeC,fun p hp=>(List.mem_append.mp hp).elim (fun z=>I.pin p (List.mem_append_left _ z)) (h p),I.hok,I.len⟩
theorem wQ {N:List Str}(hN:N.Nodup){i j:Nat}{x:Str}(a:N[i]?=some x) (b:N[j]?=some x):i=j:=by
 obtain ⟨h1,e1⟩:=List.getElem?_eq_some_iff.mp a
 obtain ⟨h2,e2⟩:=List.getElem?_eq_some_iff.mp b
 exact (List.getElem_inj hN).mp (e1.trans e2.symm)
theorem oO {M:Model}{A:Around}{E:Value→Shared→Prop}{i:Nat}{x:Str}{v:V}{u:Value}{Q:Unit→Shared→Prop}(I:Inv X pins σ H s) (hN:X.N.Nodup) (hi:X.N[i]?=some x) (hx:Loc X.env.scope x) (r:RelV v u)
  (h:∀s',Inv X pins (σ.set i (some v)) H s'→(∃a,Heap.SameBut a s.heap s'.heap∧(a=X.env.locals∨X.env.cells.lookup x=some a))→Q () s') (hf:X.fn x=true∨X.env.scope.names.lookup x=some .local:=by first | exact .inl rfl | exact .inr rfl | assumption):wpAny M A (storeName X.env x u) Q E s:=by
 obtain ⟨m,hn,hl⟩:=id I.loc
 have hcls:(X.env.scope.kind == .class || (X.env.scope.kind == .module && X.env.locals != X.env.globals))=false:=by rw [I.ok.kind];rfl
 have hiσ:i < σ.length:=by rw [I.len];exact (List.getElem?_eq_some_iff.mp hi).1
 have cne:=I.cne
 have tracked:∀{a:Addr}{h':Heap},(∃o,s.heap.get? a=some o∧H a=none)→Heap.SameBut a s.heap h'→fM X.prog X.w H h':=fun {a h'} ha hs b ob e=>by
  obtain ⟨_,_,hfree⟩:=ha
  refine (I.hok b ob e).stay (fun c w' hc q=>(hs.2 c ?_).trans q) (fun _ q=>q) fun _ _ q=>q
  rintro rfl
  rcases hc with rfl | hc
  ·rw [hfree] at e;cases e
  ·rw [hfree] at hc;cases hc
 rcases hx with hk | hk
 ·refine wpAny_storeName_local hk hn (fun h' hn' hs=>?_) hcls
  obtain ⟨oL,_,_,hoL,_⟩:=id hn
  refine h _ ⟨I.ok,I.os,I.bare,⟨fun b o e n hb hx=>?_,fun b o e n hb hx=>?_,I.base.free,fun b o e hx=>?_,I.base.tups,I.base.frzs,I.base.tbls⟩,⟨_,hn',fun j y v' e1 e2 e3=>?_⟩,fun y c e=>?_,I.free,I.freeC,fun p hp=>?_,tracked ⟨oL,hoL,I.free⟩ hs,by simpa using I.len⟩ ⟨_,hs,.inl rfl⟩
  ·exact (hs.2 b (Nat.ne_of_lt (Nat.lt_of_lt_of_le (Heap.lt_size e) I.ok.above))).trans (I.base.keep b o e n hb hx)
  ·obtain ⟨sl,e1⟩:=I.base.slot b o e n hb hx
   exact ⟨sl,(hs.2 b (Nat.ne_of_lt (Nat.lt_of_lt_of_le (Heap.lt_size e) I.ok.above))).trans e1⟩
  ·obtain ⟨o',e1⟩:=I.base.there b o e hx
   exact ⟨o',(hs.2 b (Nat.ne_of_lt (Nat.lt_of_lt_of_le (Heap.lt_size e) I.ok.above))).trans e1⟩
  ·by_cases hj:j=i
   ·subst hj
    rw [hi] at e1;cases e1
    rw [List.getElem?_set_self hiσ] at e2
    cases e2
    exact ⟨u,r,.inl ⟨hk,by simp⟩⟩
   ·rw [List.getElem?_set_ne (Ne.symm hj)] at e2
    obtain ⟨u',r',q⟩:=hl j y v' e1 e2 e3
    refine ⟨u',r',?_⟩
    rcases q with ⟨k,e⟩ | ⟨k,c,e,z⟩
    ·refine .inl ⟨k,?_⟩
     have:y≠x:=fun e=>hj (wQ hN e1 (e▸hi))
     simp [this,e]
    ·exact .inr ⟨k,c,e,z.sameBut hs (cne y c e)⟩
  ·obtain ⟨w',z⟩:=I.cell y c e
   exact ⟨w',z.sameBut hs (cne y c e)⟩
  ·obtain ⟨e,n,ne,nf,d⟩:=I.pin p hp
   exact ⟨(hs.2 p.1 ne).trans e,n,ne,nf,d⟩
 ·have hfn:X.fn x=true:=by
   rcases hf with z | z
   ·exact z
   ·rw [z] at hk;cases hk
  obtain ⟨c,hc⟩:=I.ok.has x (.inl hk)
  obtain ⟨w',z⟩:=I.cell x c hc
  refine wpAny_storeName_cell I.ok.kind hk hc z (fun h' hc' hs=>?_)
  obtain ⟨oc,hoc,hocd⟩:=id z
  refine h {s with heap:=h'} ⟨I.ok,I.os,I.bare,⟨fun b o e n hb hx=>?_,fun b o e n hb hx=>?_,I.base.free,fun b o e hx=>?_,I.base.tups,I.base.frzs,I.base.tbls⟩,⟨m,hn.sameBut hs (Ne.symm (cne x c hc)),fun j y v' e1 e2 e3=>?_⟩,fun y c' e=>?_,I.free,I.freeC,fun p hp=>?_,tracked ⟨oc,hoc,I.freeC x c hc⟩ hs,by simpa using I.len⟩ ⟨c,hs,.inr hc⟩
  ·exact (hs.2 b (Nat.ne_of_lt (Nat.lt_of_lt_of_le (Heap.lt_size e) (I.ok.cab x c hfn hc)))).trans (I.base.keep b o e n hb hx)
  ·obtain ⟨sl,e1⟩:=I.base.slot b o e n hb hx
   exact ⟨sl,(hs.2 b (Nat.ne_of_lt (Nat.lt_of_lt_of_le (Heap.lt_size e) (I.ok.cab x c hfn hc)))).trans e1⟩
  ·obtain ⟨o',e1⟩:=I.base.there b o e hx
   exact ⟨o',(hs.2 b (Nat.ne_of_lt (Nat.lt_of_lt_of_le (Heap.lt_size e) (I.ok.cab x c hfn hc)))).trans e1⟩
  ·by_cases hj:j=i
   ·subst hj
    rw [hi] at e1;cases e1
    rw [List.getElem?_set_self hiσ] at e2
    cases e2
    exact ⟨u,r,.inr ⟨.inl hk,c,hc,hc'⟩⟩
   ·rw [List.getElem?_set_ne (Ne.symm hj)] at e2
    obtain ⟨u',r',q⟩:=hl j y v' e1 e2 e3
    refine ⟨u',r',?_⟩
    rcases q with q | ⟨k,c',e,z'⟩
    ·exact .inl q
    ·refine .inr ⟨k,c',e,z'.sameBut hs ?_⟩
     rintro rfl
     exact hj (wQ hN e1 (I.ok.inj _ _ _ e hc▸hi))
  ·by_cases hcc:c'=c
   ·subst hcc;exact ⟨_,hc'⟩
   ·obtain ⟨w2,z2⟩:=I.cell y c' e
    exact ⟨w2,z2.sameBut hs hcc⟩
  ·obtain ⟨e,n,ne,nf,d⟩:=I.pin p hp
   refine ⟨(hs.2 p.1 ?_).trans e,n,ne,nf,d⟩
   intro q
   rw [q,hoc] at e
   have q':oc=p.2:=Option.some.inj e
   exact d w' (by rw [←q'];exact hocd)
theorem xO {M:Model}{A:Around}{E:Value→Shared→Prop}{i:Nat}{x:Str}{v:V}{u:Value}{Q:Unit→Shared→Prop}(I:Inv X pins σ H s) (hN:X.N.Nodup) (hi:X.N[i]?=some x) (hx:Loc X.env.scope x) (r:RelV v u)
  (h:∀s',Inv X pins (σ.set i (some v)) H s'→Q () s') (hf:X.fn x=true∨X.env.scope.names.lookup x=some .local:=by first | exact .inl rfl | exact .inr rfl | assumption):wpAny M A (storeName X.env x u) Q E s:=
 oO I hN hi hx r (fun s' I' _=>h s' I') hf
theorem Inv.call' {s':Shared}{ch:List Addr}(I:Inv X pins σ H s) (ho:s'.os=s.os) (u:Un (frs X.stack) ch H H' s.heap s'.heap) (hok:fM X.prog X.w H' s'.heap) (hg:AllBare s'.gens)
  (hch:∀b∈ch,(b∈X.ex∨X.s₀.heap.objs.size≤b)∧b≠X.env.locals∧(∀x c,X.env.cells.lookup x=some c→c≠b)∧∀p∈X.pn++pins,p.1≠b):Inv X pins σ H' s':=by
 obtain ⟨h',g',d',t',o'⟩:=s'
 have e:o'=s.os:=ho
 subst e
 exact I.call (g':=g') (t':=t') (d':=d') u hok hg hch
end
abbrev XK:=Value→Option Addr→Hp→Prop
abbrev St:=List (Option V)
abbrev VK:=V→Hp→Prop
abbrev TE:=St→Hp→VK→Prop
abbrev TT:=St→Hp→(Bool→Hp→Prop)→Prop
abbrev TA:=St→Hp→(List V→Hp→Prop)→Prop
structure Ends where
 nx:St→Hp→Prop
 rt:VK
 bk:St→Hp→Prop:=fun _ _=>False
 ct:St→Hp→Prop:=fun _ _=>False
abbrev TS:=Ends→St→Hp→Prop
def EP (X:Cx) (pins:List (Addr×Obj)) (σ:St) (Q:VK) (u:Value) (s':Shared):Prop:=∃v H',Inv X pins σ H' s'∧RelV v u∧Q v H'
def TP (X:Cx) (pins:List (Addr×Obj)) (σ:St) (Q:Bool→Hp→Prop) (b:Bool) (s':Shared):Prop:=∃H',Inv X pins σ H' s'∧Q b H'
def AP (X:Cx) (pins:List (Addr×Obj)) (σ:St) (Q:List V→Hp→Prop) (us:List Value) (s':Shared):Prop:=∃vs H',Inv X pins σ H' s'∧Vals vs us∧Q vs H'
def SP (X:Cx) (pins:List (Addr×Obj)) (D:Ends) (f:Flow) (s':Shared):Prop:=
 match f with
 | .next=>∃σ' H',Inv X pins σ' H' s'∧D.nx σ' H'
 | .brk=>∃σ' H',Inv X pins σ' H' s'∧D.bk σ' H'
 | .cont=>∃σ' H',Inv X pins σ' H' s'∧D.ct σ' H'
 | .ret u=>∃v σ' H',Inv X pins σ' H' s'∧RelV v u∧D.rt v H'
def PE (X:Cx) (e:Expr) (t:TE):Prop:=
 ∀(pins:List (Addr×Obj)) (s:Shared) (σ:St) (H:Hp) (Q:VK),Inv X pins σ H s→t σ H Q→wpAny (model X.prog X.w) X.A (eval e X.env) (EP X pins σ Q) X.xe s
def PT (X:Cx) (e:Expr) (t:TT):Prop:=
 ∀(pins:List (Addr×Obj)) (s:Shared) (σ:St) (H:Hp) (Q:Bool→Hp→Prop),Inv X pins σ H s→t σ H Q→wpAny (model X.prog X.w) X.A (isTrue e X.env (eval e X.env)) (TP X pins σ Q) X.xe s
def PW (X:Cx) (e:Expr) (t:TT):Prop:=
 ∀(whole:Sem Value) (pins:List (Addr×Obj)) (s:Shared) (σ:St) (H:Hp) (Q:Bool→Hp→Prop),Inv X pins σ H s→t σ H Q→wpAny (model X.prog X.w) X.A (isTrue e X.env whole) (TP X pins σ Q) X.xe s
theorem PW.pt {X:Cx}{e:Expr}{t:TT}(h:PW X e t):PT X e t:=h _
def PA (X:Cx) (es:List Expr) (t:TA):Prop:=
 ∀(pos:Pos) (pins:List (Addr×Obj)) (s:Shared) (σ:St) (H:Hp) (Q:List V→Hp→Prop),Inv X pins σ H s→t σ H Q→wpAny (model X.prog X.w) X.A (spliced (backTo pos (starEach es X.env))) (AP X pins σ Q) X.xe s
def PS (X:Cx) (st:Stmt) (t:TS):Prop:=
 ∀(pins:List (Addr×Obj)) (s:Shared) (σ:St) (H:Hp) (D:Ends),Inv X pins σ H s→t D σ H→wpAny (model X.prog X.w) X.A (exec st X.env) (SP X pins D) X.xe s
def kc (X:Cx) (st:List Stmt) (t:TS):Prop:=
 ∀(pins:List (Addr×Obj)) (s:Shared) (σ:St) (H:Hp) (D:Ends),Inv X pins σ H s→t D σ H→wpAny (model X.prog X.w) X.A (execs st X.env) (SP X pins D) X.xe s
theorem bV {α:Type}{t:Sem α}{Q Q':α→Shared→Prop}{M:Model}{A:Around}{E:Value→Shared→Prop}{s:Shared}(h:wpAny M A t Q E s) (hQ:∀a s,Q a s→Q' a s):wpAny M A t Q' E s:=wpAny_mono h hQ fun _ _ x=>x
section
variable {X:Cx}
theorem bin {a b:Expr}{ta tb:TE}(ha:PE X a ta) (hb:PE X b tb){pins:List (Addr×Obj)}{s:Shared}{σ:St}{H:Hp}{R:V→V→Hp→Prop}(I:Inv X pins σ H s) (h:ta σ H fun x H1=>tb σ H1 fun y H2=>R x y H2)
  {α:Type}{Q:α→Shared→Prop}{f:Value→Value→Sem α}
  (hf:∀v u s2 x y H2,Inv X pins σ H2 s2→RelV x v→RelV y u→R x y H2→wpAny (model X.prog X.w) X.A (f v u) Q X.xe s2):
  wpAny (model X.prog X.w) X.A (eval a X.env) (fun v s₁=>wpAny (model X.prog X.w) X.A (eval b X.env) (fun u s₂=>wpAny (model X.prog X.w) X.A (f v u) Q X.xe s₂) X.xe s₁) X.xe s:=by
 refine bV (ha pins s σ H _ I h) fun v s1 ⟨x,H1,I1,r1,q1⟩=>?_
 refine bV (hb pins s1 σ H1 _ I1 q1) fun u s2 ⟨y,H2,I2,r2,q2⟩=>?_
 exact hf v u s2 x y H2 I2 r1 r2 q2
def Kc (i:Nat):TE:=fun σ H Q=>∃v,σ[i]?=some (some v)∧Q v H
def tC (v:V):TE:=fun _ H Q=>Q v H
theorem oA {i:Nat}{x:Str}{pos:Pos}(hN:X.N[i]?=some x) (hv:nE X.env.scope x) (hd:(x == ("__debug__":Str))=false:=by decide) (hcd:(x == ("__classdict__":Str))=false:=by decide):PE X (.Name x pos) (Kc i):=by
 intro pins s σ H Q I h
 obtain ⟨v,e,h⟩:=h
 obtain ⟨m,hn,hl⟩:=I.loc
 obtain ⟨u,r,l⟩:=hl i x v hN e hv
 have fin:EP X pins σ Q u s:=⟨v,H,I,r,h⟩
 rcases l with ⟨hk,hm⟩ | ⟨hk,c,hc,hcell⟩
 ·exact wpAny_Name (wpAny_loadName_local I.ok.kind hk hn hm fin) hd
 ·rcases hk with hk | hk
  ·exact wpAny_Name (wpAny_loadName_cell I.ok.kind hk hc hcell fin) hd
  ·exact wpAny_Name (wpAny_loadName_free I.ok.kind hk hc hcell fin hcd) hd
theorem Jo {i j pos}:PE X (.Constant (.int i) j pos) (tC (.int i)):=fun _ _ _ H _ I h=>wpAny_Constant_int ⟨.int i,H,I.tok _,⟨_,rfl⟩,h⟩
theorem K1 {b j pos}:PE X (.Constant (.bool b) j pos) (tC (.bl b)):=fun _ _ _ H _ I h=>Constant_bool ⟨.bl b,H,I,rfl,h⟩
theorem Jq {j pos}:PE X (.Constant .none j pos) (tC .non):=fun _ _ _ H _ I h=>Constant_none ⟨.non,H,I,rfl,h⟩
theorem Jt {x j pos}:PE X (.Constant (.str x) j pos) (tC (.str x)):=fun _ _ _ H _ I h=>Calls.Constant_str ⟨.str x,H,I.tok _,⟨_,rfl⟩,h⟩
def Gl (X:Cx) (x:Str):Prop:=X.env.kindOf x=some .globalImplicit
theorem y_ {E:Value→Shared→Prop}{pins:List (Addr×Obj)}{s:Shared}{σ:St}{H:Hp}{x:Str}{u:Value}{pos:Pos}{Q:Value→Shared→Prop}(I:Inv X pins σ H s) (hg:Gl X x) (hm:X.mg x=some u) (h:Q u s)
  (hd:(x == ("__debug__":Str))=false:=by decide):wpAny (model X.prog X.w) X.A (eval (.Name x pos) X.env) Q E s:=
 Calls.Name_function_global I.ok.kind hg (Calls.loadGlobal_global (by rw [I.ok.glob];exact I.mod.glob.keeps I.bk) hm h) hd
theorem qR {E:Value→Shared→Prop}{pins:List (Addr×Obj)}{s:Shared}{σ:St}{H:Hp}{x:Str}{u:Value}{pos:Pos}{Q:Value→Shared→Prop}(I:Inv X pins σ H s) (hg:Gl X x) (hm:X.mg x=none) (hv:bootBuiltins x=some u) (h:Q u s)
  (hn:x≠"__name__":=by decide) (hd:(x == ("__debug__":Str))=false:=by decide):wpAny (model X.prog X.w) X.A (eval (.Name x pos) X.env) Q E s:=by
 obtain ⟨mb,h1,h2⟩:=I.mod.blt
 exact Calls.Name_function_global I.ok.kind hg (Calls.loadGlobal_builtin (by rw [I.ok.glob];exact I.mod.glob.keeps I.bk) hm (by rw [I.ok.blt];exact h1.keeps I.bk) ((h2 x hn).trans hv) h) hd
theorem Gy {x:Str}{v:V}{u:Value}{pos:Pos}(hg:Gl X x) (hm:X.mg x=some u) (r:RelV v u) (hd:(x == ("__debug__":Str))=false:=by decide):PE X (.Name x pos) (tC v):=
 fun _ _ _ H _ I h=>y_ I hg hm ⟨v,H,I,r,h⟩ hd
theorem Gw {x:Str}{v:V}{u:Value}{pos:Pos}(hg:Gl X x) (hm:X.mg x=none) (hv:bootBuiltins x=some u) (r:RelV v u) (hn:x≠"__name__":=by decide) (hd:(x == ("__debug__":Str))=false:=by decide):PE X (.Name x pos) (tC v):=
 fun _ _ _ H _ I h=>qR I hg hm hv ⟨v,H,I,r,h⟩ hn hd
variable {a b:Expr}{ta tb:TE}{pos:Pos}
def PC (X:Cx) (op:CmpOp) (a b:Expr) (t:TE):Prop:=
 ∀(pins:List (Addr×Obj)) (s:Shared) (σ:St) (H:Hp) (Q:VK),Inv X pins σ H s→t σ H Q→
  wpAny (model X.prog X.w) X.A (eval a X.env) (fun v s₁=>wpAny (model X.prog X.w) X.A (eval b X.env) (fun u s₂=>wpAny (model X.prog X.w) X.A (compareOp op v u) (EP X pins σ Q) X.xe s₂) X.xe s₁) X.xe s
theorem DB (b:Expr){op:CmpOp}(h:op≠.In) (h2:op≠.NotIn):behindInMarks op b=false:=by
 have e1:(op == CmpOp.In)=false:=by cases op <;> first | rfl | exact absurd rfl h
 have e2:(op == CmpOp.NotIn)=false:=by cases op <;> first | rfl | exact absurd rfl h2
 cases b <;> simp [behindInMarks,e1,e2]
def tB (t:TE):TT:=fun σ H Q=>t σ H fun x H1=>∃c,x=.bl c∧Q c H1
theorem Mq {op:CmpOp}{t:TE}(h:PC X op a b t) (h1:behindInMarks op b=false:=by first | exact DB _ (by decide) (by decide) | rfl):PT X (.Compare a [op] [b] pos) (tB t):=by
 intro pins s σ H Q I hw
 refine wpAny_isTrue_Compare1 (bV (h pins s σ H _ I hw) fun v s1 h1=>bV h1 fun u s2 h2=>bV h2 fun c s3 ⟨x,H1,I1,r1,q1⟩=>?_) h1
 obtain ⟨d,rfl,q⟩:=q1
 cases r1
 exact wpAny_truthy_bool ⟨H1,I1,q⟩
theorem JC {e:Expr}{t:TE}(h:PE X e t) (he:∀whole,isTrue e X.env whole=(do let v ←whole;standAt e.pos;holding [v] (truthy v)):=by intro _;rfl):PT X e (tB t):=by
 intro pins s σ H Q I hw
 refine isTrue_plain (bV (h pins s σ H _ I hw) fun v s1 ⟨x,H1,I1,r1,q1⟩=>?_) (he _)
 obtain ⟨d,rfl,q⟩:=q1
 cases r1
 exact wpAny_truthy_bool ⟨H1,I1,q⟩
variable {tA tB':TT}{rest:List Expr}
def L7 (t u:TT):TT:=fun σ H Q=>t σ H fun c H1=>if c=true then u σ H1 Q else Q false H1
def Mv (t u:TT):TT:=fun σ H Q=>t σ H fun c H1=>if c=true then Q true H1 else u σ H1 Q
def Mb (t:TT):TT:=fun σ H Q=>t σ H fun c H1=>Q (!c) H1
theorem GK (ha:PT X a tA):PW X (.BoolOp .And [a] pos) tA:=by
 intro wh pins s σ H Q I h
 refine isTrue_and (bV (ha pins s σ H Q I h) fun c s1 e=>?_)
 cases c with
 | true=>exact isTrue_and_nil e
 | false=>exact e
theorem JG (ha:PT X a tA):PW X (.BoolOp .Or [a] pos) tA:=by
 intro wh pins s σ H Q I h
 refine isTrue_or (bV (ha pins s σ H Q I h) fun c s1 e=>?_)
 cases c with
 | false=>exact isTrue_or_nil e
 | true=>exact e
theorem JF (ha:PT X a tA) (hb:PW X (.BoolOp .And (b::rest) pos) tB'):PW X (.BoolOp .And (a::b::rest) pos) (L7 tA tB'):=by
 intro wh pins s σ H Q I h
 refine isTrue_and (bV (ha pins s σ H _ I h) fun c s1 ⟨H1,I1,q1⟩=>?_)
 cases c with
 | true=>exact hb wh pins s1 σ H1 Q I1 q1
 | false=>exact ⟨H1,I1,q1⟩
theorem K6 (ha:PT X a tA) (hb:PW X (.BoolOp .Or (b::rest) pos) tB'):PW X (.BoolOp .Or (a::b::rest) pos) (Mv tA tB'):=by
 intro wh pins s σ H Q I h
 refine isTrue_or (bV (ha pins s σ H _ I h) fun c s1 ⟨H1,I1,q1⟩=>?_)
 cases c with
 | true=>exact ⟨H1,I1,q1⟩
 | false=>exact hb wh pins s1 σ H1 Q I1 q1
theorem JB (ha:PT X a tA):PT X (.UnaryOp .Not a pos) (Mb tA):=by
 intro pins s σ H Q I h
 exact isTrue_not (ha pins s σ H (fun c H1=>Q (!c) H1) I h)
def Ld (ta tb:TE):TE:=fun σ H Q=>ta σ H fun x H1=>∃c,x=.bl c∧if c=true then tb σ H1 Q else Q (.bl false) H1
def Li (ta:TE):TE:=fun σ H Q=>ta σ H fun x H1=>∃c,x=.bl c∧Q (.bl (!c)) H1
theorem Js {op}{t:TE}(h:PE X a t):PE X (.BoolOp op [a] pos) t:=fun pins s σ H Q I hw=>BoolOp_one (h pins s σ H Q I hw)
theorem Jm (ha:PE X a ta) (hb:PE X (.BoolOp .And (b::rest) pos) tb):PE X (.BoolOp .And (a::b::rest) pos) (Ld ta tb):=by
 intro pins s σ H Q I h
 refine BoolOp_and (bV (ha pins s σ H _ I h) fun v s1 ⟨x,H1,I1,r1,q1⟩=>?_)
 obtain ⟨c,rfl,q1⟩:=q1
 cases r1
 refine wpAny_truthy_bool ?_
 cases c with
 | true=>exact hb pins s1 σ H1 Q I1 q1
 | false=>exact ⟨.bl false,H1,I1,rfl,q1⟩
theorem Jr (ha:PE X a ta):PE X (.UnaryOp .Not a pos) (Li ta):=by
 intro pins s σ H Q I h
 refine UnaryOp_ (bV (ha pins s σ H _ I h) fun v s1 ⟨x,H1,I1,r1,q1⟩=>?_)
 obtain ⟨c,rfl,q1⟩:=q1
 cases r1
 exact not_of (wpAny_truthy_bool ⟨.bl (!c),H1,I1,rfl,q1⟩)
end
def cA (K:PySem.W.Frag) (H:Hp) (a:Addr) (xs:List V):Prop:=
 Rd H a (.lst xs)∨
  ∃(o:Obj) (its:Array Value) (n:Nat),K.lookup a=some o∧o.cls=.type "list"∧o.dict=none∧o.data=.seq its n∧its.size≤sizeLine∧Vals xs its.toList
def cT (K:PySem.W.Frag) (H:Hp) (a:Addr) (xs:List V):Prop:=
 Rd H a (.tup xs)∨
  ∃(o:Obj) (its:Array Value) (n:Nat),K.lookup a=some o∧o.cls=.type "tuple"∧o.data=.seq its n∧its.size≤sizeLine∧Vals xs its.toList
def LF:Value→Option V
 | .none=>some .non
 | .bool b=>some (.bl b)
 | .int i _=>some (.int i)
 | .str x _=>some (.str x)
 | .bytes b _=>some (.byt b)
 | .float b _=>some (.flt b)
 | .ref a=>some (.ref a)
 | .type n=>some (.ty n)
 | _=>none
theorem RelV.abs {x:V}{u:Value}(r:RelV x u):LF u=some x:=by
 cases x with
 | non=>cases r;rfl
 | bl _=>cases r;rfl
 | int _=>obtain ⟨t,rfl⟩:=r;rfl
 | str _=>obtain ⟨t,rfl⟩:=r;rfl
 | byt _=>obtain ⟨t,rfl⟩:=r;rfl
 | flt _=>obtain ⟨t,rfl⟩:=r;rfl
 | ref _=>cases r;rfl
 | ty _=>cases r;rfl
theorem RelV.inj {x y:V}{u:Value}(r:RelV x u) (q:RelV y u):x=y:=Option.some.inj (r.abs.symm.trans q.abs)
theorem Vals.inj:∀{xs ys:List V}{us:List Value},Vals xs us→Vals ys us→xs=ys
 | _,_,_,.nil,.nil=>rfl
 | _,_,_,.cons r t,.cons r' t'=>by rw [r.inj r',Vals.inj t t']
section
variable {X:Cx}{pins:List (Addr×Obj)}{σ:St}{H:Hp}{s:Shared}{a:Addr}{xs ys:List V}
theorem cA.of {K:PySem.W.Frag}(h:H a=some (.lst xs)):cA K H a xs:=.inl (.inl h)
theorem Inv.list (I:Inv X pins σ H s) (h:cA X.K H a xs):∃its:List Value,Vals xs its∧PlainL s.heap a its.toArray∧xs.length≤sizeLine:=by
 rcases h with h | ⟨o,its,n,hk,hc,hd,hs,hz,r⟩
 ·obtain ⟨z,its,n,r,e⟩:=h.ok I.hok
  exact ⟨its,r,⟨_,n,e,rfl,rfl,rfl⟩,z⟩
 ·refine ⟨its.toList,r,⟨o,n,I.kIn a o hk,hc,hd,by simpa using hs⟩,?_⟩
  have e:=r.length
  simp only [Array.length_toList] at e
  omega
theorem Inv.tuple (I:Inv X pins σ H s) (h:cT X.K H a xs):∃its:List Value,Vals xs its∧IsTup s.heap a its.toArray∧xs.length≤sizeLine:=by
 rcases h with h | ⟨o,its,n,hk,hc,hs,hz,r⟩
 ·obtain ⟨z,its,r,p⟩:=h.ok I.hok
  exact ⟨its,r,p,z⟩
 ·refine ⟨its.toList,r,⟨o,I.kIn a o hk,hc,n,by simpa using hs⟩,?_⟩
  have e:=r.length
  simp only [Array.length_toList] at e
  omega
theorem Inv.list_inj (I:Inv X pins σ H s) (h:cA X.K H a xs) (h':cA X.K H a ys):xs=ys:=by
 obtain ⟨its,r,⟨o,n,e,_,_,d⟩,_⟩:=I.list h
 obtain ⟨its',r',⟨o',n',e',_,_,d'⟩,_⟩:=I.list h'
 rw [e] at e';cases e'
 rw [d] at d'
 injection d' with d1 _
 have:its=its':=by simpa using congrArg Array.toList d1
 subst this
 exact r.inj r'
theorem Inv.tuple_inj (I:Inv X pins σ H s) (h:cT X.K H a xs) (h':cT X.K H a ys):xs=ys:=by
 obtain ⟨its,r,⟨o,e,_,n,d⟩,_⟩:=I.tuple h
 obtain ⟨its',r',⟨o',e',_,n',d'⟩,_⟩:=I.tuple h'
 rw [e] at e';cases e'
 rw [d] at d'
 injection d' with d1 _
 have:its=its':=by simpa using congrArg Array.toList d1
 subst this
 exact r.inj r'
end
abbrev Cx.wish (X:Cx) (E:Value→Shared→Prop):Cx:={X with xe:=E}
abbrev Cx.nox (X:Cx):Cx:=X.wish fun _ _=>False
theorem Cx.Ok.wish {X:Cx}(ok:X.Ok) (E:Value→Shared→Prop):(X.wish E).Ok:=
 ⟨ok.mod,ok.kind,ok.glob,ok.blt,ok.above,ok.inj,ok.has,ok.cab,ok.hd,ok.frames,ok.stk,ok.exf,ok.bs,ok.bsz,ok.noex,ok.exfs,ok.funs,ok.frf⟩
theorem Cx.Ok.unwish {X:Cx}{E:Value→Shared→Prop}(ok:(X.wish E).Ok):X.Ok:=
 ⟨ok.mod,ok.kind,ok.glob,ok.blt,ok.above,ok.inj,ok.has,ok.cab,ok.hd,ok.frames,ok.stk,ok.exf,ok.bs,ok.bsz,ok.noex,ok.exfs,ok.funs,ok.frf⟩
section
variable {X:Cx}{pins:List (Addr×Obj)}{σ:St}{H:Hp}{s:Shared}{E:Value→Shared→Prop}
theorem Inv.wish (I:Inv X pins σ H s) (E:Value→Shared→Prop):Inv (X.wish E) pins σ H s:=⟨I.ok.wish E,I.os,I.bare,I.base,I.loc,I.cell,I.free,I.freeC,I.pin,I.hok,I.len⟩
theorem Inv.unwish (I:Inv (X.wish E) pins σ H s):Inv X pins σ H s:=⟨I.ok.unwish,I.os,I.bare,I.base,I.loc,I.cell,I.free,I.freeC,I.pin,I.hok,I.len⟩
theorem SP.unwish {D:Ends}{f:Flow}{s':Shared}(h:SP (X.wish E) pins D f s'):SP X pins D f s':=by
 cases f with
 | next=>obtain ⟨σ',H',I,q⟩:=h;exact ⟨σ',H',I.unwish,q⟩
 | brk=>obtain ⟨σ',H',I,q⟩:=h;exact ⟨σ',H',I.unwish,q⟩
 | cont=>obtain ⟨σ',H',I,q⟩:=h;exact ⟨σ',H',I.unwish,q⟩
 | ret u=>obtain ⟨v,σ',H',I,r,q⟩:=h;exact ⟨v,σ',H',I.unwish,r,q⟩
theorem kc.nox {st:List Stmt}{t:TS}(h:kc X.nox st t):kc X st t:=fun pins s σ H D I hw=>
 wpAny_mono (h pins s σ H D (I.wish _) hw) (fun _ _ q=>q.unwish) fun _ _ z=>False.elim z
end
section
variable {X:Cx}{st:Stmt}{rest:List Stmt}{t u:TS}{e:Expr}{te:TE}{pos:Pos}
def Lh:TS:=fun D σ H=>D.nx σ H
def Me (t u:TS):TS:=fun D σ H=>t {D with nx:=u D} σ H
theorem GG:kc X [] Lh:=fun _ _ σ H _ I h=>wpAny_execs_nil ⟨σ,H,I,h⟩
theorem D9 (h1:PS X st t) (h2:kc X rest u):kc X (st::rest) (Me t u):=by
 intro pins s σ H D I h
 refine wpAny_execs_cons (bV (h1 pins s σ H {D with nx:=u D} I h) fun f s1 q=>?_)
 cases f with
 | next=>
  obtain ⟨σ',H',I',q⟩:=q
  exact h2 pins s1 σ' H' D I' q
 | ret v=>exact q
 | brk=>exact q
 | cont=>exact q
theorem GH (h1:PS X st t):kc X [st] t:=by
 intro pins s σ H D I h
 refine wpAny_execs_cons (bV (h1 pins s σ H D I h) fun f s1 q=>?_)
 cases f with
 | next=>exact wpAny_execs_nil q
 | ret v=>exact q
 | brk=>exact q
 | cont=>exact q
theorem Inv.quiet {pins:List (Addr×Obj)}{σ:St}{H:Hp}{s:Shared}(I:Inv X pins σ H s):interactive X.env=false:=by simp [interactive,I.ok.kind]
def Lg (te:TE):TS:=fun D σ H=>te σ H fun _ H1=>D.nx σ H1
theorem o7 (he:PE X e te) (hs:swapsWith e none pos.line X.env=pure false:=by rfl):PS X (.Expr e pos) (Lg te):=by
 intro pins s σ H D I h
 exact wpAny_Expr_any (bV (he pins s σ H _ I h) fun v s1 ⟨x,H1,I1,r1,q1⟩=>⟨σ,H1,I1,q1⟩) I.quiet hs
def Mc (te:TE):TS:=fun D σ H=>te σ H D.rt
theorem Jz (he:PE X e te):PS X (.Return (some e) pos) (Mc te):=by
 intro pins s σ H D I h
 exact wpAny_Return_some (bV (he pins s σ H _ I h) fun v s1 ⟨x,H1,I1,r1,q1⟩=>⟨x,σ,H1,I1,r1,q1⟩)
def L_ (c:TT) (t u:TS):TS:=fun D σ H=>c σ H fun b H1=>if b=true then t D σ H1 else u D σ H1
theorem K5 {c:Expr}{a b:List Stmt}{tc:TT}(hc:PT X c tc) (ha:kc X a t) (hb:kc X b u):PS X (.If c a b pos) (L_ tc t u):=by
 intro pins s σ H D I h
 refine wpAny_If (bV (hc pins s σ H _ I h) fun d s1 ⟨H1,I1,q1⟩=>?_)
 cases d with
 | true=>exact ha pins s1 σ H1 D I1 q1
 | false=>exact hb pins s1 σ H1 D I1 q1
end
abbrev TG:=V→St→Hp→(St→Hp→Prop)→Prop
abbrev qm:=List V→St→Hp→(St→Hp→Prop)→Prop
def PG (X:Cx) (target:Expr) (t:TG):Prop:=
 ∀(pins:List (Addr×Obj)) (s:Shared) (σ:St) (H:Hp) (v:V) (u:Value) (Q:St→Hp→Prop),Inv X pins σ H s→RelV v u→t v σ H Q→
  wpAny (model X.prog X.w) X.A (assign target X.env u) (fun _ s'=>∃σ' H',Inv X pins σ' H' s'∧Q σ' H') X.xe s
def vt (X:Cx) (ts:List Expr) (t:qm):Prop:=
 ∀(pins:List (Addr×Obj)) (s:Shared) (σ:St) (H:Hp) (vs:List V) (us:List Value) (Q:St→Hp→Prop),Inv X pins σ H s→Vals vs us→t vs σ H Q→
  wpAny (model X.prog X.w) X.A (assignInOrder ((assignEach ts X.env).map (·.2)) us) (fun _ s'=>∃σ' H',Inv X pins σ' H' s'∧Q σ' H') X.xe s
section
variable {X:Cx}{pos:Pos}
def EJ (i:Nat):TG:=fun v σ H Q=>Q (σ.set i (some v)) H
theorem Gz {i:Nat}{x:Str}(hN:X.N.Nodup) (hi:X.N[i]?=some x) (hx:Loc X.env.scope x) (hf:X.fn x=true∨X.env.scope.names.lookup x=some .local:=by first | exact .inl rfl | exact .inr rfl | assumption):PG X (.Name x pos) (EJ i):=by
 intro pins s σ H v u Q I r h
 exact wpAny_assign_Name (xO I hN hi hx r (fun s' I'=>⟨_,H,I',h⟩) hf)
def aD:qm:=fun vs σ H Q=>vs=[]∧Q σ H
def aq (t:TG) (u:qm):qm:=fun vs σ H Q=>∃v r,vs=v::r∧t v σ H fun σ' H'=>u r σ' H' Q
theorem GA:vt X [] aD:=by
 intro pins s σ H vs us Q I r h
 obtain ⟨e,h⟩:=h
 subst e
 cases r
 exact assignInOrder_nil ⟨σ,H,I,h⟩
theorem D3 {e:Expr}{es:List Expr}{t:TG}{u:qm}(h1:PG X e t) (h2:vt X es u)
  (hs:(assignEach (e::es) X.env).map (·.2)=assign e X.env::(assignEach es X.env).map (·.2):=by rfl):vt X (e::es) (aq t u):=by
 intro pins s σ H vs us Q I r h
 obtain ⟨v,vr,e1,h⟩:=h
 subst e1
 cases r with
 | cons r rr=>
  rw [hs]
  refine assignInOrder_cons (bV (h1 pins s σ H _ _ _ I r h) fun _ s1 ⟨σ1,H1,I1,q1⟩=>?_)
  exact h2 pins s1 σ1 H1 _ _ Q I1 rr q1
def bI (K:PySem.W.Frag) (n:Nat) (t:qm):TG:=fun v σ H Q=>∃a xs,v=.ref a∧cT K H a xs∧xs.length=n∧t xs σ H Q
theorem Jv {es:List Expr}{k:Nat}{t:qm}{n:Nat}(hc:X.calm=true) (h:vt X es t)
  (hn:(assignEach es X.env).length=n:=by rfl) (hst:(assignEach es X.env).findIdx? (·.1)=none:=by rfl):PG X (.Tuple es k pos) (bI X.K n t):=by
 intro pins s σ H v u Q I r hw
 obtain ⟨a,xs,e1,hq,hl,hw⟩:=hw
 subst e1
 cases r
 obtain ⟨its,rv,ht,hz⟩:=I.tuple hq
 refine assign_Tuple_tuple (I.ok.hd hc) ht (by simp [hn,←hl,rv.length]) hst fun h' hx=>?_
 have I1:Inv X pins σ H {s with heap:=h'}:=I.kept (t':=s.toks) fun b o e=>hx b o (Nat.ne_of_lt (Heap.lt_size e)) e
 exact h pins _ σ H xs _ Q I1 (by simpa using rv) hw
def Et (te:TE) (g:TG):TS:=fun D σ H=>te σ H fun x H1=>g x σ H1 D.nx
theorem Jx {tg e:Expr}{te:TE}{g:TG}(he:PE X e te) (hg:PG X tg g) (hs:swapsWithSole [tg] e pos.line X.env=pure false:=by rfl) (hw:swappedStores [tg] e X.env=pure none:=by rfl)
  (h1:(assignEach [tg] X.env).map (·.2)=[assign tg X.env]:=by rfl):PS X (.Assign [tg] e pos) (Et te g):=by
 intro pins s σ H D I h
 refine wpAny_Assign_stores (bV (he pins s σ H _ I h) fun v s1 ⟨x,H1,I1,r1,q1⟩=>?_) hs hw
 rw [h1]
 exact bV (hg pins s1 σ H1 x v _ I1 r1 q1) fun _ s2 q=>q
theorem JA {i:Nat}{x:Str}{e:Expr}{te:TE}{pos':Pos}(hN:X.N.Nodup) (hi:X.N[i]?=some x) (hx:Loc X.env.scope x) (he:PE X e te) (hs:swapsWith e (some (.Name x pos')) pos.line X.env=pure false:=by rfl) (hf:X.fn x=true∨X.env.scope.names.lookup x=some .local:=by first | exact .inl rfl | exact .inr rfl | assumption):
  PS X (.Assign [.Name x pos'] e pos) (Et te (EJ i)):=by
 intro pins s σ H D I h
 refine wpAny_Assign_Name (bV (he pins s σ H _ I h) fun v s1 ⟨y,H1,I1,r1,q1⟩=>?_) hs
 exact xO I1 hN hi hx r1 (fun s2 I2=>⟨_,H1,I2,q1⟩) hf
end
structure It where
 go:Nat→Hp→Prop
 yld:Nat→Hp→V→Hp→Prop
 stop:Nat→Hp→Prop
def jF (X:Cx) (pins:List (Addr×Obj)) (H:Hp) (b:Addr):Prop:=
 H b=none∧b≠X.env.locals∧b∉X.fs∧(b∈X.ex∨X.s₀.heap.objs.size≤b)∧(∀x c,X.env.cells.lookup x=some c→c≠b)∧∀p∈X.pn++pins,p.1≠b
theorem Inv.fpOk {X:Cx}{pins:List (Addr×Obj)}{σ:St}{H H':Hp}{s:Shared}{b:Addr}(I:Inv X pins σ H s) (hb:s.heap.objs.size≤b) (hn:H' b=none):jF X pins H' b:=by
 refine ⟨hn,Nat.ne_of_gt (Nat.lt_of_lt_of_le I.lt hb),I.nofs hb,.inr (Nat.le_trans I.sz hb),fun x c e z=>?_,fun p hp z=>?_⟩
 ·obtain ⟨v,q⟩:=I.cell x c e
  exact absurd (Nat.lt_of_lt_of_le q.lt (by rw [z];exact hb)) (Nat.lt_irrefl _)
 ·exact absurd (Nat.lt_of_lt_of_le (Heap.lt_size (I.pin p hp).1) (by rw [z];exact hb)) (Nat.lt_irrefl _)
structure Turn (P:Program) (w:World) (K:PySem.W.Frag) (tg:Expr) (J:It) (fp:List Addr) (it:Addr) (tn:Nat→Heap→Prop):Prop where
 mem:it∈fp
 obj:∀i h,tn i h→∀b∈fp,∃o,h.get? b=some o∧∀v,o.data≠.cell v
 keep:∀i h h',tn i h→(∀b∈fp,∀o,h.get? b=some o→h'.get? b=some o)→tn i h'
 item:∀(X:Cx),X.prog=P→X.w=w→X.K=K→X.calm=true→∀(i:Nat) (pins:List (Addr×Obj)) (s:Shared) (σ:St) (H:Hp) (E:Value→Shared→Prop),Inv X pins σ H s→(∀b∈fp,jF X pins H b)→tn i s.heap→J.go i H→
  wpAny (model P w) X.A (pyNext (.ref it)) (fun r s1=>∃u,r=some u∧
   wpAny (model P w) X.A (letOwnedTupleGo tg (.ref it) u) (fun _ s2=>∃x H',Inv X pins σ H' s2∧RelV x u∧J.yld i H x H'∧tn (i + 1) s2.heap∧∀b∈fp,H' b=none) E s1) E s
 done:∀(X:Cx),X.prog=P→X.w=w→X.K=K→X.calm=true→∀(i:Nat) (pins:List (Addr×Obj)) (s:Shared) (σ:St) (H:Hp) (E:Value→Shared→Prop),Inv X pins σ H s→(∀b∈fp,jF X pins H b)→tn i s.heap→J.stop i H→
  wpAny (model P w) X.A (pyNext (.ref it)) (fun r s1=>r=none∧Inv X pins σ H s1) E s
 self:∀(A:Around) (i:Nat) (s:Shared) (Q:Value→Shared→Prop) (E:Value→Shared→Prop),tn i s.heap→Q (.ref it) s→wpAny (model P w) A (pyIter (.ref it)) Q E s
abbrev TI:=St→Hp→(It→Hp→Prop)→Prop
def Lr (X:Cx) (pins:List (Addr×Obj)) (σ:St) (tg:Expr) (R:It→Hp→Prop) (itv:Value) (s2:Shared):Prop:=
 ∃(it:Addr) (fp:List Addr) (tn:Nat→Heap→Prop) (J:It) (H':Hp),itv=.ref it∧Inv X pins σ H' s2∧Turn X.prog X.w X.K tg J fp it tn∧tn 0 s2.heap∧(∀b∈fp,jF X pins H' b)∧R J H'
def PI (X:Cx) (tg iter:Expr) (wi:TI):Prop:=
 ∀(pins:List (Addr×Obj)) (s:Shared) (σ:St) (H:Hp) (R:It→Hp→Prop),Inv X pins σ H s→wi σ H R→
  wpAny (model X.prog X.w) X.A (eval iter X.env) (fun v s1=>wpAny (model X.prog X.w) X.A (pyIter v) (Lr X pins σ tg R) X.xe s1) X.xe s
theorem Ad {M:Model}{A:Around}{E:Value→Shared→Prop}{s:Shared}{tg:Expr}{it:Addr}{u:Value}{o:Obj}{n:String}{vs:Array Value}{Q:Unit→Shared→Prop}(ho:s.heap.get? it=some o) (hc:o.cls=.type n) (hd:o.data=.fields vs)
  (hn:["enumerate","zip","dict_itemiterator","dict_reverseitemiterator","odict_iterator","itertools.zip_longest","itertools.pairwise"].contains n=false) (hQ:Q () s):wpAny M A (letOwnedTupleGo tg (.ref it) u) Q E s:=by
 unfold letOwnedTupleGo
 cases tg <;> first
  | exact wpAny_pure hQ
  | (cases u <;> first
    | exact wpAny_pure hQ
    | (refine wpAny_bind (wpAny_load ho ?_);rw [hc,hd];show wpAny M A (if (["enumerate","zip","dict_itemiterator","dict_reverseitemiterator","odict_iterator","itertools.zip_longest","itertools.pairwise"].contains n && vs[0]? == some (rawInt _))=true then _ else _) Q E s;rw [if_neg (by intro h;rw [hn,Bool.false_and] at h;cases h)];exact wpAny_pure hQ))
def Ey (K:PySem.W.Frag) (a:Addr):It:=
 ⟨fun i H=>∃xs x,cA K H a xs∧xs[i]?=some x,fun i H x H'=>H'=H∧∀xs,cA K H a xs→xs[i]?=some x,fun i H=>∃xs,cA K H a xs∧xs.length≤i⟩
def EA (K:PySem.W.Frag) (a:Addr):It:=
 ⟨fun i H=>∃xs x,cT K H a xs∧xs[i]?=some x,fun i H x H'=>H'=H∧∀xs,cT K H a xs→xs[i]?=some x,fun i H=>∃xs,cT K H a xs∧xs.length≤i⟩
def Ez (lo:Int) (n:Nat):It:=⟨fun i _=>i < n,fun i H x H'=>H'=H∧x=.int (lo + i),fun i _=>n≤i⟩
theorem CB {P:Program}{w:World}{K:PySem.W.Frag}{tg:Expr}(a it:Addr):Turn P w K tg (Ey K a) [it] it (fun i h=>h.IsListIter it a i) where
 mem:=by simp
 obj:=fun i h st b hb=>by
  have e:b=it:=by simpa using hb
  subst e
  obtain ⟨o,e,c,d⟩:=st
  exact ⟨o,e,fun v z=>by rw [d] at z;cases z⟩
 keep:=fun i h h' st k=>st.at fun o e=>k it (by simp) o e
 item:=by
  intro X hP hw hK hc i pins s σ H E I hf st hg
  subst hP hw hK
  obtain ⟨xs,x,hq,hx⟩:=hg
  obtain ⟨its,rv,p,hz⟩:=I.list hq
  obtain ⟨u,hu,ru⟩:=rv.get hx
  obtain ⟨f0,f1,f2,f3,f4,f5⟩:=hf it (by simp)
  refine wpAny_pyNext_list_item st p.isList (x:=u) (by simpa using hu) fun h' st' sb=>?_
  have I1:Inv X pins σ H {s with heap:=h'}:=I.turned (t':=s.toks) (fun b o hb e=>(sb.2 b hb).trans e) f0 f1 f3 f4 f5
  obtain ⟨o,e,c,d⟩:=id st'
  exact ⟨u,rfl,Ad (s:={s with heap:=h'}) e c d (by decide) ⟨x,H,I1,ru,⟨rfl,fun ys hy=>by rw [I.list_inj hy hq];exact hx⟩,st',fun b hb=>(hf b hb).1⟩⟩
 done:=by
  intro X hP hw hK hc i pins s σ H E I hf st hg
  subst hP hw hK
  obtain ⟨xs,hq,hx⟩:=hg
  obtain ⟨its,rv,p,hz⟩:=I.list hq
  obtain ⟨f0,f1,f2,f3,f4,f5⟩:=hf it (by simp)
  have hl:=rv.length
  exact wpAny_pyNext_list_end (I.ok.hd hc) st p.isList (by simp;omega) fun h' eb=>⟨rfl,I.turned (t':=s.toks) (fun b o hb e=>eb b o hb e) f0 f1 f3 f4 f5⟩
 self:=fun _ _ _ _ _ st h=>wpAny_pyIter_listiter st h
theorem AV {P:Program}{w:World}{K:PySem.W.Frag}{tg:Expr}(a it:Addr):Turn P w K tg (EA K a) [it] it (fun i h=>h.IsTupleIter it a i) where
 mem:=by simp
 obj:=fun i h st b hb=>by
  have e:b=it:=by simpa using hb
  subst e
  obtain ⟨o,e,c,d⟩:=st
  exact ⟨o,e,fun v z=>by rw [d] at z;cases z⟩
 keep:=fun i h h' st k=>st.at fun o e=>k it (by simp) o e
 item:=by
  intro X hP hw hK hc i pins s σ H E I hf st hg
  subst hP hw hK
  obtain ⟨xs,x,hq,hx⟩:=hg
  obtain ⟨its,rv,p,hz⟩:=I.tuple hq
  obtain ⟨u,hu,ru⟩:=rv.get hx
  obtain ⟨f0,f1,f2,f3,f4,f5⟩:=hf it (by simp)
  refine wpAny_pyNext_tuple_item st (show s.heap.IsTuple a its.toArray from p) (x:=u) (by simpa using hu) fun h' st' sb=>?_
  have I1:Inv X pins σ H {s with heap:=h'}:=I.turned (t':=s.toks) (fun b o hb e=>(sb.2 b hb).trans e) f0 f1 f3 f4 f5
  obtain ⟨o,e,c,d⟩:=id st'
  exact ⟨u,rfl,Ad (s:={s with heap:=h'}) e c d (by decide) ⟨x,H,I1,ru,⟨rfl,fun ys hy=>by rw [I.tuple_inj hy hq];exact hx⟩,st',fun b hb=>(hf b hb).1⟩⟩
 done:=by
  intro X hP hw hK hc i pins s σ H E I hf st hg
  subst hP hw hK
  obtain ⟨xs,hq,hx⟩:=hg
  obtain ⟨its,rv,p,hz⟩:=I.tuple hq
  obtain ⟨f0,f1,f2,f3,f4,f5⟩:=hf it (by simp)
  have hl:=rv.length
  exact wpAny_pyNext_tuple_end (I.ok.hd hc) st (show s.heap.IsTuple a its.toArray from p) (by simp;omega) fun h' eb=>⟨rfl,I.turned (t':=s.toks) (fun b o hb e=>eb b o hb e) f0 f1 f3 f4 f5⟩
 self:=fun _ _ _ _ _ st h=>wpAny_pyIter_tupleiter st h
theorem AU {P:Program}{w:World}{K:PySem.W.Frag}{tg:Expr}(it:Addr) (lo:Int) (n:Nat):Turn P w K tg (Ez lo n) [it] it (fun i h=>IsRangeIter h it (lo + (i:Nat) * 1) ((n:Int) - (i:Nat)) 1) where
 mem:=by simp
 obj:=fun i h st b hb=>by
  have e:b=it:=by simpa using hb
  subst e
  exact ⟨_,st,fun v z=>by
   have z':Data.fields _=Data.cell v:=z
   cases z'⟩
 keep:=fun i h h' st k=>k it (by simp) _ st
 item:=by
  intro X hP hw hK hc i pins s σ H E I hf st hg
  subst hP hw hK
  obtain ⟨f0,f1,f2,f3,f4,f5⟩:=hf it (by simp)
  have W:=Walks.range (prog:=X.prog) (w:=X.w) (I.ok.hd hc) it lo 1 n
  refine W.item i s _ _ hg st fun v h' tk hv st' kk=>?_
  obtain ⟨t,rfl⟩:=hv
  have I1:Inv X pins σ H {s with heap:=h',toks:=tk}:=I.turned (fun b o hb e=>kk b o (by simpa using hb) e) f0 f1 f3 f4 f5
  refine ⟨_,rfl,Ad (s:={s with heap:=h',toks:=tk}) (n:="range_iterator") st' rfl rfl (by decide) ⟨.int (lo + i),H,I1,⟨t,?_⟩,⟨rfl,rfl⟩,st',fun b hb=>(hf b hb).1⟩⟩
  rw [Int.mul_one]
 done:=by
  intro X hP hw hK hc i pins s σ H E I hf st hg
  subst hP hw hK
  obtain ⟨f0,f1,f2,f3,f4,f5⟩:=hf it (by simp)
  exact wpAny_pyNext_range_end (I.ok.hd hc) st (by have:n≤i:=hg;omega) fun h' eb=>⟨rfl,I.turned (t':=s.toks) (fun b o hb e=>eb b o hb e) f0 f1 f3 f4 f5⟩
 self:=fun _ _ _ _ _ st h=>wpAny_pyIter_rangeiter st h
section
variable {X:Cx}{tg:Expr}
theorem Ej {pins:List (Addr×Obj)}{σ:St}{H:Hp}{s:Shared}{R:It→Hp→Prop}{E:Value→Shared→Prop}{lo hi:Int}{t u v:Tok}{tk:Nat}(I:Inv X pins σ H s) (h1:-(2 ^ 62)≤lo) (h2:lo < 2 ^ 62) (h3:-(2 ^ 62)≤hi) (h4:hi < 2 ^ 62)
  (q:R (Ez lo (hi - lo).toNat) H):wpAny (model X.prog X.w) X.A (pyIter (.ref s.heap.objs.size)) (Lr X pins σ tg R) E {s with heap:=s.heap.push {cls:=.type "range",data:=.fields #[.int lo t,.int hi u,.int 1 v]},toks:=tk}:=by
 refine wpAny_pyIter_range (IsRange.new ..) (small_one h1 h2 h3 h4) ?_
 have I1:Inv X pins σ H {s with heap:=s.heap.push {cls:=.type "range",data:=.fields #[.int lo t,.int hi u,.int 1 v]},toks:=tk}:=I.kept fun b o e=>Heap.get?_push_of_some _ e
 refine ⟨(s.heap.push {cls:=.type "range",data:=.fields #[.int lo t,.int hi u,.int 1 v]}).objs.size,[(s.heap.push {cls:=.type "range",data:=.fields #[.int lo t,.int hi u,.int 1 v]}).objs.size],_,_,H,rfl,
  I1.kept (t':=tk) fun b o e=>Heap.get?_push_of_some _ e,AU _ lo (hi - lo).toNat,?_,fun b hb=>?_,q⟩
 ·have e1:lo + ((0:Nat):Int) * 1=lo:=by simp
  have e2:(((hi - lo).toNat:Nat):Int) - ((0:Nat):Int)=Builtin.Range.rangeSize lo hi 1:=by rw [rangeSize_one];split <;> omega
  show IsRangeIter _ _ (lo + ((0:Nat):Int) * 1) ((((hi - lo).toNat:Nat):Int) - ((0:Nat):Int)) 1
  rw [e1,e2]
  exact Heap.get?_push_size _ rfl
 ·have e:b=(s.heap.push {cls:=.type "range",data:=.fields #[.int lo t,.int hi u,.int 1 v]}).objs.size:=by simpa using hb
  subst e
  exact I1.fpOk (Nat.le_refl _) (I1.hok.fresh (Nat.le_refl _))
def Kv (ta:TA):TI:=fun σ H R=>ta σ H fun vs H1=>∃j:Int,vs=[.int j]∧-(2 ^ 62)≤j∧j < 2 ^ 62∧R (Ez 0 j.toNat) H1
theorem Cd {a:Expr}{ta:TA}{p pos:Pos}(hg:Gl X "range") (hm:X.mg "range"=none) (ha:PA X [a] ta) (hs:starEach [a] X.env=[(false,eval a X.env)]:=by rfl):PI X tg (.Call (.Name "range" p) [a] [] pos) (Kv ta):=by
 intro pins s σ H R I h
 refine Call_ (qR I hg hm boot_range (PyProof.Rows.callWith_type1 (bV (ha pos pins s σ H _ I h) fun us s1 ⟨vs,H1,I1,r1,q1⟩=>?_) hs rfl))
 obtain ⟨j,e,q1,q2,q⟩:=q1
 subst e
 cases r1 with
 | cons r rr=>
  cases rr
  obtain ⟨t,rfl⟩:=r
  exact call_range_1 (Ej I1 (by omega) (by omega) q1 q2 (by simpa using q))
def L8 (wi:TI) (g:TG) (tb:TS):TS:=fun D σ H=>wi σ H fun J H1=>∃W:Nat→Nat→St→Hp→Prop,(∃m,W 0 m σ H1)∧∀i m σ H,W i m σ H→
 (J.stop i H∧D.nx σ H)∨(J.go i H∧∃N:St→Hp→Prop,(∀σ' H',N σ' H'→∃m',m' < m∧W (i + 1) m' σ' H')∧∀x H',J.yld i H x H'→g x σ H' fun σ2 H2=>tb {D with nx:=N,ct:=N,bk:=D.nx} σ2 H2)
def oB (fp:List Addr) (h:Heap):List (Addr×Obj):=fp.filterMap fun b=>(h.get? b).map fun o=>(b,o)
theorem jS {fp:List Addr}{h:Heap}{b:Addr}{o:Obj}(hb:b∈fp) (e:h.get? b=some o):(b,o)∈oB fp h:=List.mem_filterMap.mpr ⟨b,hb,by rw [e];rfl⟩
theorem BR {fp:List Addr}{h:Heap}{p:Addr×Obj}(hp:p∈oB fp h):p.1∈fp∧h.get? p.1=some p.2:=by
 obtain ⟨b,hb,e⟩:=List.mem_filterMap.mp hp
 cases q:h.get? b with
 | none=>rw [q] at e;cases e
 | some o=>
  rw [q] at e
  have e':(b,o)=p:=Option.some.inj e
  subst e'
  exact ⟨hb,q⟩
theorem Inv.pinned {pins:List (Addr×Obj)}{σ:St}{H:Hp}{s:Shared}{fp:List Addr}(I:Inv X pins σ H s) (hf:∀b∈fp,jF X pins H b) (ho:∀b∈fp,∃o,s.heap.get? b=some o∧∀v,o.data≠.cell v):Inv X (pins++oB fp s.heap) σ H s:=
 I.pins_of fun p hp=>(List.mem_append.mp hp).elim (fun z=>I.pin p (List.mem_append_right _ z)) fun z=>by
  obtain ⟨hb,e⟩:=BR z
  obtain ⟨f0,f1,f2,_⟩:=hf p.1 hb
  obtain ⟨o,e',d⟩:=ho p.1 hb
  rw [e] at e';cases e'
  exact ⟨e,f0,f1,f2,d⟩
theorem Inv.unpinned {pins pl:List (Addr×Obj)}{σ:St}{H:Hp}{s:Shared}(I:Inv X (pins++pl) σ H s):Inv X pins σ H s:=I.pins_of fun p hp=>I.pin p (List.mem_append_right _ (List.mem_append_left _ hp))
theorem Jy {iter:Expr}{body:List Stmt}{wi:TI}{g:TG}{tb:TS}{pos:Pos}(hp:PassesOwn (model X.prog X.w) X.A X.env X.xe) (hc:X.calm=true) (hi:PI X tg iter wi) (hg:PG X tg g) (hb:kc X body tb)
  (hs:∀x,foldedSetIterable iter X.env x=pure x:=by intro _;rfl):PS X (.For tg iter body [] pos) (L8 wi g tb):=by
 intro pins s σ H D I h
 refine wpAny_For (bV (hi pins s σ H _ I h) fun v s1 h1=>bV h1 fun itv s2 h2=>?_) hs
 obtain ⟨it,fp,tn,J,H2,e,I2,T,st2,f2,W,⟨m0,w0⟩,turn⟩:=h2
 subst e
 have stat:∀{H':Hp},(∀b∈fp,H' b=none)→∀b∈fp,jF X pins H' b:=fun hn b hb=>⟨hn b hb,(f2 b hb).2⟩
 refine codeAny_forLoop_any (fun n s'=>∃i σ' H',Inv X pins σ' H' s'∧tn i s'.heap∧(∀b∈fp,H' b=none)∧W i n σ' H') ?_ m0 ⟨0,σ,H2,I2,st2,fun b hb=>(f2 b hb).1,w0⟩
 rintro n s3 ⟨i,σ3,H3,I3,st3,fr3,w3⟩
 rcases turn i n σ3 H3 w3 with ⟨stop,qn⟩ | ⟨go,N,hN,step⟩
 ·refine wpAny_passesOwn hp (bV (T.done X rfl rfl rfl hc i pins s3 σ3 H3 X.xe I3 (stat fr3) st3 stop) fun r s4 ⟨hr,I4⟩=>?_)
  subst hr
  exact wpAny_execs_nil ⟨σ3,H3,I4,qn⟩
 ·refine wpAny_passesOwn hp (bV (T.item X rfl rfl rfl hc i pins s3 σ3 H3 X.xe I3 (stat fr3) st3 go) fun r s4 ⟨u,hr,h4⟩=>?_)
  subst hr
  refine wpAny_passesOwn hp (bV h4 fun _ s5 ⟨x,H5,I5,r5,y5,st5,fr5⟩=>?_)
  have I5':=I5.pinned (stat fr5) (T.obj _ _ st5)
  refine wpAny_passesOwn hp (bV (hg _ s5 σ3 H5 x u _ I5' r5 (step x H5 y5)) fun _ s6 ⟨σ6,H6,I6,q6⟩=>?_)
  refine wpAny_passesOwn hp (bV (hb _ s6 σ6 H6 _ I6 q6) fun f s7 q7=>?_)
  have again:∀{σ7:St}{H7:Hp},Inv X (pins++oB fp s5.heap) σ7 H7 s7→N σ7 H7→∃m,m < n∧∃i σ' H',Inv X pins σ' H' s7∧tn i s7.heap∧(∀b∈fp,H' b=none)∧W i m σ' H':=fun {σ7 H7} I7 n7=>by
   obtain ⟨m',hm,w7⟩:=hN σ7 H7 n7
   refine ⟨m',hm,i + 1,σ7,H7,I7.unpinned,T.keep _ _ _ st5 fun b hb o e=>(I7.pin (b,o) (List.mem_append_right _ (List.mem_append_right _ (jS hb e)))).1,fun b hb=>?_,w7⟩
   obtain ⟨o,e,d⟩:=T.obj _ _ st5 b hb
   exact (I7.pin (b,o) (List.mem_append_right _ (List.mem_append_right _ (jS hb e)))).2.1
  cases f with
  | next=>obtain ⟨σ7,H7,I7,n7⟩:=q7;exact again I7 n7
  | cont=>obtain ⟨σ7,H7,I7,n7⟩:=q7;exact again I7 n7
  | brk=>obtain ⟨σ7,H7,I7,q7⟩:=q7;exact ⟨σ7,H7,I7.unpinned,q7⟩
  | ret v=>obtain ⟨x7,σ7,H7,I7,r7,q7⟩:=q7;exact ⟨x7,σ7,H7,I7.unpinned,r7,q7⟩
end
abbrev R2:=V→V→Hp→VK→Prop
def cR (X:Cx) (f:Value→Value→Sem Value) (r:R2):Prop:=
 ∀(pins:List (Addr×Obj)) (s:Shared) (σ:St) (H:Hp) (x y:V) (v u:Value) (Q:VK),Inv X pins σ H s→RelV x v→RelV y u→r x y H Q→
  wpAny (model X.prog X.w) X.A (f v u) (EP X pins σ Q) X.xe s
def Ht (X:Cx) (f:Value→Sem Value) (r:V→Hp→VK→Prop):Prop:=
 ∀(pins:List (Addr×Obj)) (s:Shared) (σ:St) (H:Hp) (x:V) (v:Value) (Q:VK),Inv X pins σ H s→RelV x v→r x H Q→
  wpAny (model X.prog X.w) X.A (f v) (EP X pins σ Q) X.xe s
def bN (X:Cx) (f:Value) (r:List V→Hp→VK→Prop):Prop:=
 ∀(pins:List (Addr×Obj)) (s:Shared) (σ:St) (H:Hp) (xs:List V) (us:List Value) (Q:VK),Inv X pins σ H s→Vals xs us→r xs H Q→
  wpAny (model X.prog X.w) X.A (call f us) (EP X pins σ Q) X.xe s
def LC (X:Cx) (r:V→Hp→(Bool→Hp→Prop)→Prop):Prop:=
 ∀(pins:List (Addr×Obj)) (s:Shared) (σ:St) (H:Hp) (x:V) (v:Value) (Q:Bool→Hp→Prop),Inv X pins σ H s→RelV x v→r x H Q→
  wpAny (model X.prog X.w) X.A (truthy v) (TP X pins σ Q) X.xe s
def Cv (r:R2) (ta tb:TE):TE:=fun σ H Q=>ta σ H fun x H1=>tb σ H1 fun y H2=>r x y H2 Q
def My (r:V→Hp→VK→Prop) (ta:TE):TE:=fun σ H Q=>ta σ H fun x H1=>r x H1 Q
def rI (C:Int→Int→Prop) (g:Int→Int→V):R2:=fun x y H Q=>∃i j,x=.int i∧y=.int j∧C i j∧Q (g i j) H
def kG (g:Int→Int→V):R2:=fun x y H Q=>∃i j,x=.int i∧y=.int j∧Q (g i j) H
def rU (g:Int→V):V→Hp→VK→Prop:=fun x H Q=>∃i,x=.int i∧Q (g i) H
section
variable {X:Cx}{a b c:Expr}{ta tb tc:TE}{pos:Pos}
theorem CY (ha:PE X a ta) (hb:PE X b tb){pins:List (Addr×Obj)}{s:Shared}{σ:St}{H:Hp}{R:V→V→Hp→Prop}(I:Inv X pins σ H s)
  (h:ta σ H fun x H1=>tb σ H1 fun y H2=>R x y H2){Q:Value→Shared→Prop}{f:Value→Value→Sem Value}
  (hf:∀v u s2 x y H2,Inv X pins σ H2 s2→RelV x v→RelV y u→R x y H2→wpAny (model X.prog X.w) X.A (f v u) Q X.xe s2):
  wpAny (model X.prog X.w) X.A (eval a X.env) (fun v s₁=>wpAny (model X.prog X.w) X.A (eval b X.env) (fun u s₂=>wpAny (model X.prog X.w) X.A (f v u) Q X.xe s₂) X.xe s₁) X.xe s:=by
 refine bV (ha pins s σ H _ I h) fun v s1 ⟨x,H1,I1,r1,q1⟩=>?_
 refine bV (hb pins s1 σ H1 _ I1 q1) fun u s2 ⟨y,H2,I2,r2,q2⟩=>?_
 exact hf v u s2 x y H2 I2 r1 r2 q2
theorem K3 {op:Operator}{r:R2}(ho:cR X (binaryOp op) r) (ha:PE X a ta) (hb:PE X b tb):PE X (.BinOp a op b pos) (Cv r ta tb):=by
 intro pins s σ H Q I h
 exact wpAny_BinOp (CY ha hb I h fun v u s2 x y H2 I2 rx ry q=>ho pins s2 σ H2 x y v u Q I2 rx ry q)
theorem K4 {op:UnaryOp}{r:V→Hp→VK→Prop}(ho:Ht X (unaryOp op) r) (ha:PE X a ta):PE X (.UnaryOp op a pos) (My r ta):=by
 intro pins s σ H Q I h
 exact UnaryOp_ (bV (ha pins s σ H _ I h) fun v s1 ⟨x,H1,I1,r1,q1⟩=>ho pins s1 σ H1 x v Q I1 r1 q1)
theorem ES {f:Value→Value→Sem Value}{C:Int→Int→Prop}{g:Int→Int→Int}
  (rule:∀(i j:Int) (t u:Tok) (s:Shared) (Q:Value→Shared→Prop) (E:Value→Shared→Prop),C i j→Q (.int (g i j) s.toks) {s with toks:=s.toks + 1}→wpAny (model X.prog X.w) X.A (f (.int i t) (.int j u)) Q E s):
  cR X f (rI C fun i j=>.int (g i j)):=by
 intro pins s σ H x y v u Q I rx ry h
 obtain ⟨i,j,rfl,rfl,hc,q⟩:=h
 obtain ⟨t,rfl⟩:=rx
 obtain ⟨t',rfl⟩:=ry
 exact rule i j t t' s _ _ hc ⟨.int (g i j),H,I.tok _,⟨_,rfl⟩,q⟩
theorem Iv {f:Value→Value→Sem Value}{g:Int→Int→Int}
  (rule:∀(i j:Int) (t u:Tok) (s:Shared) (Q:Value→Shared→Prop) (E:Value→Shared→Prop),Q (.int (g i j) s.toks) {s with toks:=s.toks + 1}→wpAny (model X.prog X.w) X.A (f (.int i t) (.int j u)) Q E s):
  cR X f (kG fun i j=>.int (g i j)):=by
 intro pins s σ H x y v u Q I rx ry h
 obtain ⟨i,j,rfl,rfl,q⟩:=h
 obtain ⟨t,rfl⟩:=rx
 obtain ⟨t',rfl⟩:=ry
 exact rule i j t t' s _ _ ⟨.int (g i j),H,I.tok _,⟨_,rfl⟩,q⟩
theorem Aq {f:Value→Value→Sem Value}{g:Int→Int→Bool}
  (rule:∀(i j:Int) (t u:Tok) (s:Shared) (Q:Value→Shared→Prop) (E:Value→Shared→Prop),Q (.bool (g i j)) s→wpAny (model X.prog X.w) X.A (f (.int i t) (.int j u)) Q E s):
  cR X f (kG fun i j=>.bl (g i j)):=by
 intro pins s σ H x y v u Q I rx ry h
 obtain ⟨i,j,rfl,rfl,q⟩:=h
 obtain ⟨t,rfl⟩:=rx
 obtain ⟨t',rfl⟩:=ry
 exact rule i j t t' s _ _ ⟨.bl (g i j),H,I,rfl,q⟩
def Lx (i j:Int):Prop:=0 < j∧j < 1073741824
def Ly (i j:Int):Prop:=0≤j∧j≤1000000∧i.natAbs < 2 ^ 64
def zv (i j:Int):Prop:=(-(2 ^ 64) < i∧i < 2 ^ 64)∨(-(2 ^ 64) < j∧j < 2 ^ 64)
theorem zv.ok {i j:Int}(h:zv i j):IntMulOk i j:=by
 rcases h with ⟨h1,h2⟩ | ⟨h1,h2⟩
 ·exact .of_left (intBits_le_64 h1 h2)
 ·exact .of_right (intBits_le_64 h1 h2)
theorem BS:cR X (binaryOp .Add) (kG fun i j=>.int (i + j)):=Iv fun _ _ _ _ _ _ _ q=>add_int q
theorem IE:cR X (binaryOp .Sub) (kG fun i j=>.int (i - j)):=Iv fun _ _ _ _ _ _ _ q=>sub_int q
theorem IB:cR X (binaryOp .Mult) (rI zv fun i j=>.int (i * j)):=ES fun _ _ _ _ _ _ _ hc q=>mul_int q hc.ok
theorem FY:cR X (binaryOp .FloorDiv) (rI Lx fun i j=>.int (i / j)):=ES fun i j _ _ _ _ _ hc q=>by
 have h1:(0:Int) < j:=hc.1
 have h2:j < 1073741824:=hc.2
 exact floordiv_int (by omega) (by rw [Int.fdiv_eq_ediv_of_nonneg i (by omega)];exact q) (.inl (PyProof.noPylong_small (by omega)))
theorem IA:cR X (binaryOp .Mod) (rI (fun _ j=>0 < j) fun i j=>.int (i % j)):=ES fun i j _ _ _ _ _ hc q=>by
 have h1:(0:Int) < j:=hc
 exact mod_int' (by omega) (by rw [Int.fmod_eq_emod_of_nonneg i (by omega)];exact q)
theorem ID:cR X (binaryOp .Pow) (rI Ly fun i j=>.int (i ^ j.toNat)):=ES fun _ _ _ _ _ _ _ hc q=>pow_int_small hc.1 hc.2.1 hc.2.2 q
theorem mE {f:Value→Sem Value}{g:Int→Int}
  (rule:∀(i:Int) (t:Tok) (s:Shared) (Q:Value→Shared→Prop) (E:Value→Shared→Prop),Q (.int (g i) s.toks) {s with toks:=s.toks + 1}→wpAny (model X.prog X.w) X.A (f (.int i t)) Q E s):
  Ht X f (rU fun i=>.int (g i)):=by
 intro pins s σ H x v Q I rx h
 obtain ⟨i,rfl,q⟩:=h
 obtain ⟨t,rfl⟩:=rx
 exact rule i t s _ _ ⟨.int (g i),H,I.tok _,⟨_,rfl⟩,q⟩
theorem Km:Ht X (unaryOp .USub) (rU fun i=>.int (-i)):=mE fun _ _ _ _ _ q=>neg_int q
end
section
variable {X:Cx}{a b c:Expr}{ta tb tc:TE}{pos:Pos}
theorem uY:cR X (compareOp .Lt) (kG fun i j=>.bl (decide (i < j))):=Aq fun _ _ _ _ _ _ _ q=>lt_int q
theorem KJ:cR X (compareOp .LtE) (kG fun i j=>.bl (decide (i≤j))):=Aq fun _ _ _ _ _ _ _ q=>le_int q
theorem uX:cR X (compareOp .Gt) (kG fun i j=>.bl (decide (j < i))):=Aq fun _ _ _ _ _ _ _ q=>gt_int q
theorem KI:cR X (compareOp .GtE) (kG fun i j=>.bl (decide (j≤i))):=Aq fun _ _ _ _ _ _ _ q=>ge_int q
theorem cR.or {f:Value→Value→Sem Value}{r r':R2}(h:cR X f r) (h':cR X f r'):cR X f (fun x y H Q=>r x y H Q∨r' x y H Q):=by
 intro pins s σ H x y v u Q I rx ry q
 rcases q with q | q
 ·exact h pins s σ H x y v u Q I rx ry q
 ·exact h' pins s σ H x y v u Q I rx ry q
theorem wU (b:Expr){op:CmpOp}(h:op≠.In:=by decide) (h2:op≠.NotIn:=by decide):behindInMarks op b=false:=by
 have e1:(op == CmpOp.In)=false:=by cases op <;> first | rfl | exact absurd rfl h
 have e2:(op == CmpOp.NotIn)=false:=by cases op <;> first | rfl | exact absurd rfl h2
 cases b <;> simp [behindInMarks,e1,e2]
theorem Gx {op:CmpOp}{r:R2}(ho:cR X (compareOp op) r) (ha:PE X a ta) (hb:PE X b tb) (hm:behindInMarks op b=false):PE X (.Compare a [op] [b] pos) (Cv r ta tb):=by
 intro pins s σ H Q I h
 exact wpAny_Compare1 (CY ha hb I h fun v u s2 x y H2 I2 rx ry q=>ho pins s2 σ H2 x y v u Q I2 rx ry q) hm
def Lk (t:TE):TT:=fun σ H Q=>t σ H fun x H'=>∃k,x=.bl k∧Q k H'
theorem GI {op:CmpOp}{r:R2}(ho:cR X (compareOp op) r) (ha:PE X a ta) (hb:PE X b tb) (hm:behindInMarks op b=false):PT X (.Compare a [op] [b] pos) (Lk (Cv r ta tb)):=by
 intro pins s σ H Q I h
 refine wpAny_isTrue_Compare1 (bV (ha pins s σ H _ I h) fun v s1 ⟨x,H1,I1,r1,q1⟩=>bV (hb pins s1 σ H1 _ I1 q1) fun u s2 ⟨y,H2,I2,r2,q2⟩=>
  bV (ho pins s2 σ H2 x y v u _ I2 r1 r2 q2) fun c s3 ⟨z,H3,I3,r3,k,e,q3⟩=>?_) hm
 subst e
 cases r3
 exact wpAny_truthy_bool ⟨H3,I3,q3⟩
def Ka (r r':R2) (ta tb tc:TE):TE:=fun σ H Q=>ta σ H fun x H1=>tb σ H1 fun y H2=>r x y H2 fun z H3=>∃k,z=.bl k∧
 (if k=true then tc σ H3 fun w' H4=>r' y w' H4 Q else Q (.bl false) H3)
theorem DZ {op op':CmpOp}{r r':R2}(ho:cR X (compareOp op) r) (ho':cR X (compareOp op') r') (ha:PE X a ta) (hb:PE X b tb) (hc:PE X c tc)
  (hm:lastMarks [op,op'] [b,c]=false:=by with_unfolding_all rfl):PE X (.Compare a [op,op'] [b,c] pos) (Ka r r' ta tb tc):=by
 intro pins s σ H Q I h
 refine Compare_chain (bV (ha pins s σ H _ I h) fun v s1 ⟨x,H1,I1,r1,q1⟩=>chain_link (bV (hb pins s1 σ H1 _ I1 q1) fun u s2 ⟨y,H2,I2,r2,q2⟩=>
  bV (ho pins s2 σ H2 x y v u _ I2 r1 r2 q2) fun d s3 ⟨z,H3,I3,r3,k,e,q3⟩=>?_)) hm
 subst e
 cases r3
 refine wpAny_truthy_bool ?_
 cases k with
 | false=>exact ite_ff ⟨.bl false,H3,I3,rfl,q3⟩
 | true=>exact ite_tt (chain_last (bV (hc pins s3 σ H3 _ I3 q3) fun w' s4 ⟨z',H4,I4,r4,q4⟩=>ho' pins s4 σ H4 y z' u w' Q I4 r2 r4 q4))
def CU (K:PySem.W.Frag) (x:V) (H:Hp) (k:Bool):Prop:=
 match x with
 | .non=>k=false
 | .bl b=>k=b
 | .int i=>k=(i != 0)
 | .str y=>y.length≤sizeLine∧k=((y.length:Int) != 0)
 | .byt y=>y.size≤sizeLine∧k=((y.size:Int) != 0)
 | .ref p=>(∃xs,cA K H p xs∧k=!xs.isEmpty)∨(∃xs,cT K H p xs∧k=!xs.isEmpty)∨∃kvs,H p=some (.dK kvs)∧k=!kvs.isEmpty
 | _=>False
theorem Ae {κ:Type}{kvs:List (κ×V)}{vs:List (κ×Value)}(r:KV kvs vs):(!vs.isEmpty)=!kvs.isEmpty:=by
 cases r <;> rfl
theorem qQ {xs:List V}{its:List Value}(r:Vals xs its):(!its.toArray.isEmpty)=!xs.isEmpty:=by
 cases r <;> simp
theorem lQ:(sizeLine:Nat) < 2 ^ 63:=by rw [sizeLine_eq];decide
theorem Kd:LC X (fun x H Q=>∃k,CU X.K x H k∧Q k H):=by
 intro pins s σ H x v Q I rx h
 obtain ⟨k,e,q⟩:=h
 have hl:=lQ
 have hs:sizeLine=16777216:=sizeLine_eq
 cases x with
 | non=>
  cases rx
  have e':k=false:=e
  subst e'
  exact truthy_none ⟨H,I,q⟩
 | bl b=>
  cases rx
  have e':k=b:=e
  subst e'
  exact wpAny_truthy_bool ⟨H,I,q⟩
 | int i=>
  obtain ⟨t,rfl⟩:=rx
  have e':k=(i != 0):=e
  subst e'
  exact PySem.P.truthy_int ⟨H,I,q⟩
 | str y=>
  obtain ⟨t,rfl⟩:=rx
  obtain ⟨hy,e'⟩:y.length≤sizeLine∧k=((y.length:Int) != 0):=e
  subst e'
  exact PySem.P.truthy_str (by omega) ⟨H,I.tok _,q⟩
 | byt y=>
  obtain ⟨t,rfl⟩:=rx
  obtain ⟨hy,e'⟩:y.size≤sizeLine∧k=((y.size:Int) != 0):=e
  subst e'
  exact PySem.W.truthy_bytes (by omega) ⟨H,I.tok _,q⟩
 | ref p=>
  cases rx
  have e':(∃xs,cA X.K H p xs∧k=!xs.isEmpty)∨(∃xs,cT X.K H p xs∧k=!xs.isEmpty)∨∃kvs,H p=some (.dK kvs)∧k=!kvs.isEmpty:=e
  rcases e' with ⟨xs,hx,e'⟩ | ⟨xs,hx,e'⟩ | ⟨kvs,hx,e'⟩
  ·subst e'
   obtain ⟨its,r,pl,hz⟩:=I.list hx
   have hlen:=r.length
   exact wpAny_truthy_list pl.isList (by simp only [List.size_toArray];omega) ⟨H,I.tok _,by rw [qQ r];exact q⟩
  ·subst e'
   obtain ⟨its,r,pl,hz⟩:=I.tuple hx
   have hlen:=r.length
   exact truthy_tuple pl (by simp only [List.size_toArray];omega) ⟨H,I.tok _,by rw [qQ r];exact q⟩
  ·subst e'
   obtain ⟨hz,hS,vs,r,m⟩:kvs.length≤sizeLine∧(p == sysModules)=false∧∃vs,KV kvs vs∧s.heap.DictOf (sD X.prog X.w) p vs:=I.hok p _ hx
   have hlen:kvs.length=vs.length:=Paired.length r
   exact wpAny_truthy_dict hS m (by omega) ⟨H,I.tok _,by rw [Ae r];exact q⟩
 | _=>exact (show False from e).elim
theorem D_ (ha:PE X a ta) (he:∀whole,isTrue a X.env whole=(do let v ←whole;standAt a.pos;holding [v] (truthy v))):
  PT X a (fun σ H Q=>ta σ H fun x H'=>∃k,CU X.K x H' k∧Q k H'):=by
 intro pins s σ H Q I h
 exact isTrue_plain (bV (ha pins s σ H _ I h) fun v s1 ⟨x,H1,I1,r1,q1⟩=>Kd pins s1 σ H1 x v Q I1 r1 q1) (he _)
theorem qW:cR X (binaryOp .Add) (fun x y H Q=>∃i j,x=.str i∧y=.str j∧i.length + j.length≤sizeLine∧Q (.str (i++j)) H):=by
 intro pins s σ H x y v u Q I rx ry h
 obtain ⟨i,j,rfl,rfl,hz,q⟩:=h
 obtain ⟨t,rfl⟩:=rx
 obtain ⟨t',rfl⟩:=ry
 exact add_str (fun t' tk=>⟨.str (i++j),H,I.tok _,⟨_,rfl⟩,q⟩) hz
theorem vals1 {x:V}{us:List Value}(r:Vals [x] us):∃u,us=[u]∧RelV x u:=by
 cases r with
 | cons r1 r2=>cases r2;exact ⟨_,rfl,r1⟩
theorem vals2 {x y:V}{us:List Value}(r:Vals [x,y] us):∃u w',us=[u,w']∧RelV x u∧RelV y w':=by
 cases r with
 | cons r1 r2=>
  cases r2 with
  | cons r3 r4=>cases r4;exact ⟨_,_,rfl,r1,r3⟩
end
structure cV (k:Nat) (A:Around):Prop where
 hd:A.handled=none
 dp:A.depth + 3 * k + 5 < recursionLimit
 un:A.units + 16 * k + 200 < cLine
theorem cV.mono {j k:Nat}{A:Around}(r:cV k A) (h:j≤k):cV j A:=⟨r.hd,by have:=r.dp;omega,by have:=r.un;omega⟩
theorem cV.deeper {k:Nat}{A:Around}(r:cV (k + 1) A) (env:Env):cV k (A.deeper env):=
 ⟨r.hd,by have:=r.dp;show A.depth + 1 + 3 * k + 5 < _;omega,by have:=r.un;show A.units + 3 + 16 * k + 200 < _;omega⟩
theorem cV.depth {k:Nat}{A:Around}(r:cV k A):A.depth < recursionLimit:=by have:=r.dp;omega
theorem cV.units {k:Nat}{A:Around}(r:cV k A):A.units + 64 < cLine:=by have:=r.un;omega
def xP:TA:=fun _ H Q=>Q [] H
def Lf (ta:TE) (tr:TA):TA:=fun σ H Q=>ta σ H fun x H1=>tr σ H1 fun xs H2=>Q (x::xs) H2
section
variable {X:Cx}{e:Expr}{es:List Expr}{te:TE}{t:TA}{pos:Pos}
theorem ia:PA X [] xP:=fun _ _ _ _ H Q I h=>Calls.spliced_nil ⟨[],H,I,.nil,h⟩
theorem fD (ha:PE X e te) (hr:PA X es t) (hs:starEach (e::es) X.env=(false,eval e X.env)::starEach es X.env:=by rfl):PA X (e::es) (Lf te t):=by
 intro pos pins s σ H Q I h
 rw [hs]
 show wpAny _ _ (spliced ((false,eval e X.env)::backTo pos (starEach es X.env))) _ _ s
 refine Calls.spliced_cons (bV (ha pins s σ H _ I h) fun u s1 ⟨x,H1,I1,r1,q1⟩=>?_)
 exact bV (hr pos pins s1 σ H1 _ I1 q1) fun us s2 ⟨xs,H2,I2,r2,q2⟩=>⟨x::xs,H2,I2,.cons r1 r2,q2⟩
def Mf (t:TA):TE:=fun σ H Q=>t σ H fun xs H1=>xs.length≤sizeLine∧∀p,H1 p=none→Q (.ref p) (upd H1 p (.tup xs))
def Ma (t:TA):TE:=fun σ H Q=>t σ H fun xs H1=>xs.length≤sizeLine∧∀p,H1 p=none→Q (.ref p) (upd H1 p (.lst xs))
theorem Ju {x1}(h:PA X es t):PE X (.Tuple es x1 pos) (Mf t):=by
 intro pins s σ H Q I hq
 refine wpAny_Tuple_spliced (bV (h pos pins s σ H _ I hq) fun us s1 ⟨xs,H1,I1,r,z,q⟩=>⟨by rw [←r.length];exact z,?_⟩)
 have hf:H1 s1.heap.objs.size=none:=I1.hok.fresh (Nat.le_refl _)
 refine ⟨.ref s1.heap.objs.size,upd H1 s1.heap.objs.size (.tup xs),I1.laid (t':=s1.toks) (fun b u e=>Heap.get?_push_of_some _ e) (Nat.le_refl _) ?_,rfl,q _ hf⟩
 exact ⟨z,us,r,⟨_,Heap.get?_push_size _ rfl,rfl,_,rfl⟩⟩
theorem Jp (h:PA X es t):PE X (.List es pos) (Ma t):=by
 intro pins s σ H Q I hq
 refine wpAny_List_spliced (bV (h pos pins s σ H _ I hq) fun us s1 ⟨xs,H1,I1,r,z,q⟩=>⟨by rw [←r.length];exact z,?_⟩)
 have hf:H1 s1.heap.objs.size=none:=I1.hok.fresh (Nat.le_refl _)
 refine ⟨.ref s1.heap.objs.size,upd H1 s1.heap.objs.size (.lst xs),I1.laid (t':=s1.toks) (fun b u e=>Heap.get?_push_of_some _ e) (Nat.le_refl _) ?_,rfl,q _ hf⟩
 exact ⟨z,us,0,r,Heap.get?_push_size _ rfl⟩
end
abbrev Sp:=List V→Hp→VK→XK→Prop
abbrev nN:=List Env→Hp→Shared→XK→Value→Shared→Prop
structure zx (P:Program) (w:World) (K:PySem.W.Frag) (mg:Str→Option Value) (base:Heap) (A:Around) (outer:List Env) (s:Shared) (H:Hp):Prop where
 frames:A.frames=some outer
 mod:Mod K mg base
 bs:∀b o,base.get? b=some o→s.heap.get? b=some o∧H b=none
 bsz:base.objs.size≤s.heap.objs.size
 funs:s.heap.FunFrames base outer
 frf:∀b∈frs outer,H b=none
 hok:fM P w H s.heap
 bare:AllBare s.gens
def CE (outer:List Env) (P:Program) (w:World) (H:Hp) (s:Shared) (Q:VK) (u:Value) (s':Shared):Prop:=
 ∃v H',s'.os=s.os∧AllBare s'.gens∧Un (frs outer) [] H H' s.heap s'.heap∧fM P w H' s'.heap∧RelV v u∧Q v H'
def CR (CX:nN) (outer:List Env) (P:Program) (w:World) (H:Hp) (s:Shared) (Q:VK) (E:XK) (r:Result) (s':Shared):Prop:=
 match r with
 | .ok (.ret u)=>CE outer P w H s Q u s'
 | .ok _=>False
 | .error e=>CX outer H s E e s'
structure eY (P:Program) (w:World) (K:PySem.W.Frag) (mg:Str→Option Value) (base:Heap) (CX:nN) (k:Nat) (f:Addr) (fd:FuncData) (ps:List Str) (sp:Sp):Prop where
 len:∀vs H Q E,sp vs H Q E→vs.length=ps.length
 run:∀(A:Around) (outer:List Env) (s:Shared) (H:Hp) (args:Args) (us:List Value) (vs:List V) (Q:VK) (E:XK),cV k A→zx P w K mg base A outer s H→BindsTo s fd args (ps.zip us)→Vals vs us→sp vs H Q E→
  codeAny (model P w) A (.call (.ref f) args) (CR CX outer P w H s Q E) s
section
variable {X:Cx}{pins:List (Addr×Obj)}{σ:St}{H:Hp}{s s':Shared}
theorem Inv.env0 (I:Inv X pins σ H s):zx X.prog X.w X.K X.mg X.base X.A X.stack s H:=
 ⟨I.ok.frames,I.ok.mod,I.bs,Nat.le_trans I.ok.bsz I.sz,I.stack,I.stkFree,I.hok,I.bare⟩
theorem Inv.after {Q:VK}{u:Value}(I:Inv X pins σ H s) (h:CE X.stack X.prog X.w H s Q u s'):EP X pins σ Q u s':=by
 obtain ⟨v,H',os,bare,un,hok,r,q⟩:=h
 obtain ⟨hh,g,d,t,os'⟩:=s'
 obtain rfl:os'=s.os:=os
 exact ⟨v,H',I.call (h':=hh) (g':=g) (d':=d) (t':=t) (ch:=[]) un hok bare (fun b z=>absurd z (by simp)),r,q⟩
end
def Le (sp:Sp) (dvs:List V) (E:XK) (t:TA):TE:=fun σ H Q=>t σ H fun vs H1=>sp (vs++dvs) H1 Q E
def Binds (K:PySem.W.Frag) (fd:FuncData) (ps:List Str) (ds:List Value):Prop:=
 ∀(s:Shared) (us:List Value),K.In s.heap→(us++ds).length=ps.length→BindsTo s fd ⟨us,[]⟩ (ps.zip (us++ds))
theorem Binds.all {K:PySem.W.Frag}{fd:FuncData}{ps:List Str}(h:∀us:List Value,us.length=ps.length→bindArgs fd ⟨us,[]⟩=pure (ps.zip us)):Binds K fd ps []:=fun s us _ hl=>by
 rw [List.append_nil] at hl ⊢
 exact .of_eq (h us hl)
def Passes (CX:nN) (X:Cx) (E:XK):Prop:=∀(pins:List (Addr×Obj)) (σ:St) (H:Hp) (s:Shared) (e:Value) (s':Shared),Inv X pins σ H s→CX X.stack H s E e s'→X.xe e s'
section
variable {X:Cx}{CX:nN}{k:Nat}{f C:Addr}{fd:FuncData}{ps:List Str}{sp:Sp}{dvs:List V}{ds:List Value}{E:XK}{x m:Str}{p pos apos:Pos}{e o:Expr}{es:List Expr}{ta:TE}{t:TA}
theorem JV {pins:List (Addr×Obj)}{σ:St}{H:Hp}{s:Shared}{Q:VK}{us:List Value}{vs:List V}(F:eY X.prog X.w X.K X.mg X.base CX k f fd ps sp) (hr:cV k X.A) (hb:Binds X.K fd ps ds) (hd:Vals dvs ds) (hx:Passes CX X E)
  (I:Inv X pins σ H s) (r:Vals vs us) (h:sp (vs++dvs) H Q E):wpAny (model X.prog X.w) X.A (call (.ref f) us) (EP X pins σ Q) X.xe s:=by
 have r2:Vals (vs++dvs) (us++ds):=r.append hd
 have hl:(us++ds).length=ps.length:=by rw [←r2.length];exact F.len _ _ _ _ h
 refine wpAny_call (codeAny_mono (F.run X.A X.stack s H ⟨us,[]⟩ (us++ds) (vs++dvs) Q E hr I.env0 (hb s us I.kIn hl) r2 h) fun r s' hq=>?_)
 cases r with
 | error e=>exact hx pins σ H s e s' I hq
 | ok fl=>
  cases fl with
  | ret u=>exact I.after hq
  | next=>exact False.elim hq
  | brk=>exact False.elim hq
  | cont=>exact False.elim hq
theorem sE (F:eY X.prog X.w X.K X.mg X.base CX k f fd ps sp) (hr:cV k X.A) (hg:Gl X x) (hm:X.mg x=some (.ref f)) (hk:PySem.W.keepIn X.K (.ref f)=true) (hb:Binds X.K fd ps ds) (hd:Vals dvs ds) (hx:Passes CX X E)
  (ha:PA X (e::es) t) (hdb:(x == ("__debug__":Str))=false:=by decide) (he:starEach (e::es) X.env=(false,eval e X.env)::starEach es X.env:=by rfl) (hpl:(backTo pos (starEach es X.env)).any (·.1)=false:=by rfl):
  PE X (.Call (.Name x p) (e::es) [] pos) (Le sp dvs E t):=by
 intro pins s σ H Q I h
 refine wpAny_Call_Name_kw (y_ I hg hm ?_ hdb)
 refine PySem.W.callWith_K (h₀:=X.base) I.ok.mod.kin hk (bV (ha pos pins s σ H _ I h) fun us s1 ⟨vs,H1,I1,r,q⟩=>⟨I1.kIn,?_⟩) he hpl
 exact JV F hr hb hd hx I1 r q
end
structure bw (N P:List Str) (sc:Scope):Prop where
 kind:sc.kind=.function
 co:sc.isCoroutine=false
 gen:sc.isGenerator=false
 nd:N.Nodup
 pre:N.take P.length=P
 par:∀x∈P,sc.names.lookup x=some .local∨sc.names.lookup x=some .cell
 nofree:∀y∈sc.names,y.2≠.free
theorem sU {kindOf:Str→Option NameKind}{x:Str}:∀{binds:List (Str×Value)}{m:Str→Option Value},(∀v,(x,v)∉binds)→bindL kindOf binds m x=m x
 | [],_,_=>rfl
 | (n,v)::r,m,h=>by
  unfold bindL
  rw [sU fun w hw=>h w (List.mem_cons_of_mem _ hw)]
  split
  ·have:x≠n:=by rintro rfl;exact h v List.mem_cons_self
   simp [this]
  ·rfl
theorem sR {kindOf:Str→Option NameKind}{x:Str}:∀{binds:List (Str×Value)}{m:Str→Option Value},(∀v,(x,v)∉binds)→bindC kindOf binds m x=m x
 | [],_,_=>rfl
 | (n,v)::r,m,h=>by
  unfold bindC
  rw [sR fun w hw=>h w (List.mem_cons_of_mem _ hw)]
  split
  ·rfl
  ·have:x≠n:=by rintro rfl;exact h v List.mem_cons_self
   simp [this]
theorem sS {kindOf:Str→Option NameKind}{x:Str}{v:Value}:∀{P:List Str}{vs:List Value}{i:Nat}{m:Str→Option Value},P.Nodup→P[i]?=some x→vs[i]?=some v→kindOf x=some .local→
  bindL kindOf (P.zip vs) m x=some v
 | [],_,_,_,_,h,_,_=>by simp at h
 | _::_,[],_,_,_,_,h,_=>by simp at h
 | p::P,w::vs,0,m,nd,h1,h2,hk=>by
  simp at h1 h2;subst h1;subst h2
  show bindL kindOf ((p,w)::P.zip vs) m p=_
  unfold bindL
  rw [sU fun v hv=>(List.nodup_cons.mp nd).1 (List.of_mem_zip hv).1,if_pos hk]
  simp
 | p::P,w::vs,i + 1,m,nd,h1,h2,hk=>by
  show bindL kindOf ((p,w)::P.zip vs) m x=_
  unfold bindL
  exact sS (i:=i) (List.nodup_cons.mp nd).2 (by simpa using h1) (by simpa using h2) hk
theorem sQ {kindOf:Str→Option NameKind}{x:Str}{v:Value}:∀{P:List Str}{vs:List Value}{i:Nat}{m:Str→Option Value},P.Nodup→P[i]?=some x→vs[i]?=some v→kindOf x≠some .local→
  bindC kindOf (P.zip vs) m x=some v
 | [],_,_,_,_,h,_,_=>by simp at h
 | _::_,[],_,_,_,_,h,_=>by simp at h
 | p::P,w::vs,0,m,nd,h1,h2,hk=>by
  simp at h1 h2;subst h1;subst h2
  show bindC kindOf ((p,w)::P.zip vs) m p=_
  unfold bindC
  rw [sR fun v hv=>(List.nodup_cons.mp nd).1 (List.of_mem_zip hv).1,if_neg hk]
  simp
 | p::P,w::vs,i + 1,m,nd,h1,h2,hk=>by
  show bindC kindOf ((p,w)::P.zip vs) m x=_
  unfold bindC
  exact sQ (i:=i) (List.nodup_cons.mp nd).2 (by simpa using h1) (by simpa using h2) hk
def start (N:List Str) (vs:List V):St:=vs.map some++List.replicate (N.length - vs.length) none
def nW (CX:nN) (P:Program) (w:World) (K:PySem.W.Frag) (mg:Str→Option Value) (base:Heap) (N:List Str) (qual:Str) (scope:Scope) (f:Addr) (cd:Value) (A:Around) (outer:List Env) (s:Shared) (H:Hp) (E:XK):Cx where
 prog:=P
 w:=w
 K:=K
 mg:=mg
 base:=base
 A:=A.deeper (envOfC qual scope s.heap.objs.size f cd)
 N:=N
 s₀:=s
 H₀:=H
 env:=envOfC qual scope s.heap.objs.size f cd
 outer:=outer
 stack:=envOfC qual scope s.heap.objs.size f cd::outer
 ex:=[]
 calm:=true
 fn:=fun _=>true
 pn:=[]
 xe:=fun e s'=>wpAny (model P w) (A.deeper (envOfC qual scope s.heap.objs.size f cd)) (leaving (envOfC qual scope s.heap.objs.size f cd) e) (fun _ s''=>CX outer H s E e s'') (fun e' s''=>CX outer H s E e' s'') s'
theorem vW {sc:Scope}{n:Nat}{x:Str}(h:sc.names.lookup x=some .cell):∃c,(cellsFrom n sc.names []).lookup x=some c:=by
 have q:=PySem.W.cellsFrom_some sc.names n [] (.inl h)
 exact Option.isSome_iff_exists.mp q
theorem BI {CX:nN}{P:Program}{w:World}{K:PySem.W.Frag}{mg:Str→Option Value}{base:Heap}{N ps:List Str}{qual:Str}{scope:Scope}{f:Addr}{cd:Value}{A:Around}{outer:List Env}{s s1:Shared}{H:Hp}{E:XK}{us:List Value}{vs:List V}
  (S:bw N ps scope) (hd:A.handled=none) (e0:zx P w K mg base A outer s H) (hl:vs.length=ps.length) (r:Vals vs us)
  (x:InCallC s s.heap.objs.size (bindL (envOfC qual scope s.heap.objs.size f cd).kindOf (ps.zip us) fun _=>none) (cellsFrom (s.heap.objs.size + 1) scope.names []) (bindC (envOfC qual scope s.heap.objs.size f cd).kindOf (ps.zip us) fun _=>none) s1):
  Inv (nW CX P w K mg base N qual scope f cd A outer s H E) [] (start N vs) H s1:=by
 have hpl:ps.length≤N.length:=by have:=congrArg List.length S.pre;rw [List.length_take] at this;omega
 obtain ⟨h1,tk,rfl,hk⟩:=x.done
 have noA:∀b:Addr,b∉(nW CX P w K mg base N qual scope f cd A outer s H E).ex:=fun b z=>absurd (show b∈([]:List Addr) from z) (by simp)
 refine ⟨⟨e0.mod,S.kind,rfl,rfl,Nat.le_refl _,fun y z c h1 h2=>?_,fun y hy=>?_,fun y c _ h=>?_,fun _=>hd,Around.frames_deeper e0.frames,.inr ⟨rfl,rfl⟩,fun b z=>absurd z (noA b),e0.bs,e0.bsz,fun b _ _=>noA b,fun b z=>absurd z (noA b),e0.funs,e0.frf⟩,
  rfl,e0.bare,Un.kept hk,⟨_,x.toInCall.ns,fun i y v h1 h2 h3=>?_⟩,fun y c h=>⟨_,x.cell y c h⟩,e0.hok.fresh (Nat.le_refl _),fun y c h=>?_,fun p hp=>absurd (show p∈([]:List (Addr×Obj)) from hp) (by simp),e0.hok.kept hk,?_⟩
 ·exact name_of_addr x.apart (PySem.mem_of_lookup h1) (PySem.mem_of_lookup h2)
 ·have hy:scope.names.lookup y=some .cell∨scope.names.lookup y=some .free:=hy
  rcases hy with hy | hy
  ·exact vW hy
  ·exact absurd rfl (S.nofree _ (PySem.mem_of_lookup hy))
 ·exact Nat.le_of_lt (x.above y c (PySem.mem_of_lookup h))
 ·have hi:i < vs.length:=by
   unfold start at h2
   by_cases hi:i < vs.length
   ·exact hi
   ·rw [List.getElem?_append_right (by simpa using hi)] at h2
    rw [List.getElem?_replicate] at h2
    split at h2 <;> cases h2
  have ha:vs[i]?=some v:=by
   unfold start at h2
   rw [List.getElem?_append_left (by simpa using hi),List.getElem?_map] at h2
   cases e:vs[i]? with
   | none=>rw [e] at h2;cases h2
   | some a=>rw [e] at h2;cases h2;rfl
  obtain ⟨u,hu,rv⟩:=r.get ha
  have hp:ps[i]?=some y:=by
   rw [←S.pre,List.getElem?_take_of_lt (by omega)];exact h1
  have ndP:ps.Nodup:=by rw [←S.pre];exact S.nd.sublist (List.take_sublist _ _)
  refine ⟨u,rv,?_⟩
  rcases S.par y (List.mem_of_getElem? hp) with k | k
  ·exact .inl ⟨k,sS ndP hp hu k⟩
  ·obtain ⟨c,e⟩:=vW (n:=s.heap.objs.size + 1) k
   refine .inr ⟨.inl k,c,e,?_⟩
   have q:=x.cell y c e
   rw [sQ ndP hp hu (by show scope.names.lookup y≠_;rw [k];decide)] at q
   exact q
 ·exact e0.hok.fresh (Nat.le_of_lt (x.above y c (PySem.mem_of_lookup h)))
 ·unfold start
  show _=N.length
  rw [List.length_append,List.length_map,List.length_replicate]
  omega
theorem EI {CX:nN}{P:Program}{w:World}{K:PySem.W.Frag}{mg:Str→Option Value}{base:Heap}{k:Nat}{f:Addr}{name qual:Str}{params:Arguments}{body:List Stmt}{scope:Scope}{dV kV doc pm cdv ct oc:Value}{an od:Option Addr}
  {osl:Array (Option Value)}{N ps:List Str}{sp:Sp}(lk:K.lookup f=some ⟨oc,od,.func (PySem.W.fnOf name qual params body scope dV kV doc pm an cdv ct),osl⟩) (hcd:PySem.W.codeIn K cdv qual=true) (S:bw N ps scope)
  (len:∀vs H Q E,sp vs H Q E→vs.length=ps.length)
  (hbody:∀(A:Around) (outer:List Env) (s:Shared) (H:Hp) (vs:List V) (Q:VK) (E:XK),cV k (A.deeper (envOfC qual scope s.heap.objs.size f cdv))→sp vs H Q E→
   ∃t,kc (nW CX P w K mg base N qual scope f cdv A outer s H E) body t∧t {nx:=fun _ H'=>Q .non H',rt:=Q} (start N vs) H):
  eY P w K mg base CX (k + 1) f (PySem.W.fnOf name qual params body scope dV kV doc pm an cdv ct) ps sp:=by
 refine ⟨len,fun A outer s H args us vs Q E hr e0 hb r hsp=>?_⟩
 have hl:=len _ _ _ _ hsp
 have KX:K.In s.heap:=e0.mod.kin.keeps fun b o e=>(e0.bs b o e).1
 have lim:s.heap.NoLimit:=e0.mod.nolimit.keeps fun b o e=>(e0.bs b o e).1
 have hkind:∀y∈ps.zip us,scope.names.lookup y.1=some .local∨(scope.names.lookup y.1=some .cell∧((cellsFrom (s.heap.objs.size + 1) scope.names []).lookup y.1).isSome=true):=fun ⟨n,v⟩ hy=>by
  rcases S.par n (List.of_mem_zip hy).1 with q | q
  ·exact .inl q
  ·exact .inr ⟨q,PySem.W.cellsFrom_some _ _ _ (.inl q)⟩
 refine codeAny_call_function hr.depth (KX _ _ lk) rfl S.co S.gen rfl (PySem.W.codeRec_of KX hcd) (hb _ _ _ _ ?_)
 refine wpAny_newFunctionEnv_cells S.kind hkind fun env he s1 x=>?_
 subst he
 refine ⟨lim.keeps x.toInCall.keep,codeAny_func ?_⟩
 obtain ⟨t,ht,hq⟩:=hbody A outer s H vs Q E (hr.deeper _) hsp
 have I:Inv (nW CX P w K mg base N qual scope f cdv A outer s H E) [] (start N vs) H s1:=BI S hr.hd e0 hl r x
 refine wpAny_mono (ht [] s1 (start N vs) H _ I hq) (fun fl s' hs=>?_) fun e s' hs=>hs
 have fin:∀{σ':St}{H':Hp}{v:V}{u:Value},Inv (nW CX P w K mg base N qual scope f cdv A outer s H E) [] σ' H' s'→RelV v u→Q v H'→CE outer P w H s Q u s':=
  fun {σ' H' v u} J rv q=>⟨v,H',J.os,J.bare,J.base,J.hok,rv,q⟩
 cases fl with
 | ret u=>
  obtain ⟨v,σ',H',J,rv,q⟩:=hs
  exact fin J rv q
 | next=>
  obtain ⟨σ',H',J,q⟩:=hs
  exact fin (v:=V.non) (u:=Value.none) J rfl q
 | brk=>
  obtain ⟨_,_,_,q⟩:=hs
  exact False.elim q
 | cont=>
  obtain ⟨_,_,_,q⟩:=hs
  exact False.elim q
section
variable {X:Cx}{x:Str}{p pos:Pos}{e:Expr}{es:List Expr}{t:TA}{id T:String}{r:List V→Hp→VK→Prop}
def Lu (r:List V→Hp→VK→Prop) (t:TA):TE:=fun σ H Q=>t σ H fun vs H1=>r vs H1 Q
theorem nc (hc:bN X (.builtin id) r) (hg:Gl X x) (hm:X.mg x=none) (hv:bootBuiltins x=some (.builtin id)) (ha:PA X (e::es) t) (hn:x≠"__name__":=by decide) (hdb:(x == ("__debug__":Str))=false:=by decide)
  (he:starEach (e::es) X.env=(false,eval e X.env)::starEach es X.env:=by rfl) (hpl:(backTo pos (starEach es X.env)).any (·.1)=false:=by rfl):PE X (.Call (.Name x p) (e::es) [] pos) (Lu r t):=by
 intro pins s σ H Q I h
 refine wpAny_Call_Name_kw (qR I hg hm hv ?_ hn hdb)
 exact PyProof.Rows.callWith_builtin1 (bV (ha pos pins s σ H _ I h) fun us s1 ⟨vs,H1,I1,r1,q1⟩=>hc pins s1 σ H1 vs us Q I1 r1 q1) he hpl
theorem jA (hc:bN X (.type T) r) (hg:Gl X x) (hm:X.mg x=none) (hv:bootBuiltins x=some (.type T)) (ha:PA X (e::es) t) (hn:x≠"__name__":=by decide) (hdb:(x == ("__debug__":Str))=false:=by decide)
  (he:starEach (e::es) X.env=(false,eval e X.env)::starEach es X.env:=by rfl) (hpl:(backTo pos (starEach es X.env)).any (·.1)=false:=by rfl):PE X (.Call (.Name x p) (e::es) [] pos) (Lu r t):=by
 intro pins s σ H Q I h
 refine wpAny_Call_Name_kw (qR I hg hm hv ?_ hn hdb)
 exact PyProof.Rows.callWith_type1 (bV (ha pos pins s σ H _ I h) fun us s1 ⟨vs,H1,I1,r1,q1⟩=>hc pins s1 σ H1 vs us Q I1 r1 q1) he hpl
end
end L2
namespace HT
open PySem PyProof.Rows
theorem C7 (A:Around) (s:Shared) (a:Int) (t:Tok) (c:Int) (u:Tok):∃e,SeqAt.EqAt A s (.int a t) (.int c u) e∧(e=true↔a=c):=
 ⟨(a == c),SeqAt.EqAt.int_int a t c u,by simp⟩
section
open PySem.SeqAt
open PySem.AutoSeq1 (wpAny_loadPart')
open PySem.MeetsSeq PySem.MeetsSeq2 PySem.MeetsSeq3
end
section
variable {prog:Program}{w:World}{A:Around}{E:Value→Shared→Prop}{s:Shared}
theorem Fe {t b:Addr}{vs ws:List Value}{Q:Value→Shared→Prop}(ht:IsTup s.heap t vs.toArray) (hb:IsTup s.heap b ws.toArray) (hv:vs≠[])
  (h1:ws=[]→Q (.ref t) s) (h2:ws≠[]→Q (.ref s.heap.objs.size) {s with heap:=s.heap.push {cls:=.type "tuple",data:=.seq (vs++ws).toArray}})
  (hsz:vs.length + ws.length≤sizeLine):wpAny (model prog w) A (binaryOp .Add (.ref t) (.ref b)) Q E s:=by
 obtain ⟨⟨cls,dd,data,sl⟩,ho,hc,n,hd⟩:=id ht
 obtain ⟨⟨cls2,dd2,data2,sl2⟩,ho2,hc2,n2,hd2⟩:=id hb
 simp only at hc hd hc2 hd2
 subst hc hd hc2 hd2
 have e:vs.toArray++ws.toArray=(vs++ws).toArray:=by simp
 by_cases hw:ws=[]
 ·exact concat_meets ⟨_,ho,rfl⟩ ⟨_,ho2,rfl⟩ noFill_tuple_add seq_tuple_add PySem.F.slot_tuple_add PySem.F.entry_tuple_add (PySem.F.args_tuple_add_2 _ _)
   (tuple_addW1 t b vs.toArray ws.toArray n n2 dd dd2 sl sl2 (by simpa using hv) (by simp [hw])) ⟨ho,ho2,h1 hw⟩
 ·refine concat_meets ⟨_,ho,rfl⟩ ⟨_,ho2,rfl⟩ noFill_tuple_add seq_tuple_add PySem.F.slot_tuple_add PySem.F.entry_tuple_add (PySem.F.args_tuple_add_2 _ _)
   (tuple_addW2 t b vs.toArray ws.toArray n n2 dd dd2 sl sl2 (by simpa using hv) (by simpa using hw) (by rw [List.size_toArray,List.size_toArray];exact hsz)) ⟨ho,ho2,?_⟩
  rw [e]
  exact h2 hw
def bF (n d:Nat):Option Int→Nat
 | none=>d
 | some v=>if v < 0 then (v + (n:Int)).toNat else min v.toNat n
theorem xr (n d:Nat):bF n d none=d:=rfl
theorem zk (n d k:Nat):bF n d (some (k:Int))=min k n:=by
 show (if (k:Int) < 0 then ((k:Int) + (n:Int)).toNat else min (k:Int).toNat n)=min k n
 rw [if_neg (by omega),Int.toNat_natCast]
theorem JW (n d:Nat) (hd:d≤n) (o:Option Int):bF n d o≤n:=by
 cases o with
 | none=>exact hd
 | some v=>
  show (if v < 0 then (v + (n:Int)).toNat else min v.toNat n)≤n
  by_cases hv:v < 0
  ·rw [if_pos hv];omega
  ·rw [if_neg hv];exact Nat.min_le_right _ _
theorem yO (v:Int) (n d:Nat):(if v < 0 then max (v + (n:Int)) 0 else min v (n:Int))=((bF n d (some v):Nat):Int):=by
 show (if v < 0 then max (v + (n:Int)) 0 else min v (n:Int))=(((if v < 0 then (v + (n:Int)).toNat else min v.toNat n):Nat):Int)
 by_cases hv:v < 0
 ·simp only [if_pos hv];omega
 ·simp only [if_neg hv];omega
theorem zI (lo hi:Option Int) (n:Nat):Builtin.Slice.sliceAdjust lo hi 1 (n:Int)=(((bF n 0 lo:Nat):Int),((bF n n hi:Nat):Int)):=by
 have h1:¬((1:Int) < 0):=by omega
 unfold Builtin.Slice.sliceAdjust
 simp only [h1,if_false]
 refine Prod.ext ?_ ?_
 ·cases lo with
  | none=>rfl
  | some v=>exact yO v n 0
 ·cases hi with
  | none=>rfl
  | some v=>exact yO v n n
theorem Az (i j:Nat):Builtin.Slice.slicePlaces (i:Int) (j:Int) 1=j - i:=by
 unfold Builtin.Slice.slicePlaces
 have h1:(1:Int) > 0:=by omega
 simp only [h1,if_true,Int.ediv_one]
 split <;> omega
theorem rq {v:Value}{o:Option Int}{Q:Option Int→Shared→Prop}(p:IsPart v o) (h:Q o s):wpAny (model prog w) A (Builtin.Slice.slicePartIndex v) Q E s:=by
 cases p with
 | none=>exact slicePart_none h
 | int i t=>exact slicePart_int h
theorem kI {sl:Addr}{vl vu:Value}{lo hi:Option Int}{n:Nat}{Q:Int×Int×Nat→Shared→Prop}(hs:s.heap.IsSliceOf sl vl vu .none) (pl:IsPart vl lo) (pu:IsPart vu hi)
  (h:Q (((bF n 0 lo:Nat):Int),1,bF n n hi - bF n 0 lo) s):wpAny (model prog w) A (Builtin.Slice.sliceApplied (.ref sl) (pure (n:Int))) Q E s:=by
 obtain ⟨os,hos,hcs,hds⟩:=id hs
 unfold Builtin.Slice.sliceApplied Builtin.Slice.sliceFields
 refine wpAny_bind (wpAny_bind (wpAny_field hos hds (x:=vl) rfl (wpAny_bind (wpAny_field hos hds (x:=vu) rfl (wpAny_bind (wpAny_field hos hds (x:=.none) rfl (wpAny_pure ?_)))))))
 refine wpAny_bind (slicePart_none ?_)
 show wpAny _ _ (if ((1:Int) == 0)=true then _ else _) _ _ s
 rw [if_neg (by decide)]
 refine wpAny_bind (rq pl (wpAny_bind (rq pu (wpAny_bind (wpAny_pure ?_)))))
 show wpAny _ _ (match Builtin.Slice.sliceAdjust lo hi 1 (n:Int) with | (lo,hi)=>pure (lo,(1:Int),Builtin.Slice.slicePlaces lo hi 1)) _ _ s
 rw [zI lo hi n]
 show wpAny _ _ (pure (((bF n 0 lo:Nat):Int),(1:Int),Builtin.Slice.slicePlaces ((bF n 0 lo:Nat):Int) ((bF n n hi:Nat):Int) 1)) _ _ s
 rw [Az]
 exact wpAny_pure h
theorem D4 (xs:Array Value) (i k:Nat):((List.range k).filterMap fun (m:Nat)=>xs[((i:Int) + (m:Int) * 1).toNat]?).toArray=((xs.toList.drop i).take k).toArray:=by
 have e:(fun (m:Nat)=>xs[((i:Int) + (m:Int) * 1).toNat]?)=fun m=>xs[i + m]?:=by
  funext m
  have:((i:Int) + (m:Int) * 1).toNat=i + m:=by omega
  rw [this]
 rw [e]
 have:=pick_run xs i k
 rw [List.filterMap_map] at this
 have e2:((fun x=>xs[x]?) ∘ fun x=>i + x)=fun m=>xs[i + m]?:=rfl
 rw [e2] at this
 rw [this]
theorem pA {t sl:Addr}{items:Array Value}{vl vu:Value}{lo hi:Option Int}{Q:Value→Shared→Prop}(ht:IsTup s.heap t items) (hs:s.heap.IsSliceOf sl vl vu .none) (pl:IsPart vl lo) (pu:IsPart vu hi)
  (hw:¬(bF items.size 0 lo=0∧bF items.size items.size hi=items.size))
  (h:Q (.ref s.heap.objs.size) {s with heap:=s.heap.push {cls:=.type "tuple",data:=.seq ((items.toList.drop (bF items.size 0 lo)).take (bF items.size items.size hi - bF items.size 0 lo)).toArray}})
  (hsz:items.size≤sizeLine):wpAny (model prog w) A (getItem (.ref t) (.ref sl)) Q E s:=by
 have htake:sizeOk (.seq ((items.toList.drop (bF items.size 0 lo)).take (bF items.size items.size hi - bF items.size 0 lo)).toArray):=by
  show ((items.toList.drop (bF items.size 0 lo)).take (bF items.size items.size hi - bF items.size 0 lo)).toArray.size≤sizeLine
  rw [List.size_toArray,List.length_take,List.length_drop,Array.length_toList]
  omega
 have hj:bF items.size items.size hi≤items.size:=JW _ _ (Nat.le_refl _) hi
 obtain ⟨os,hos,hcs,hds⟩:=id hs
 have hTs:s.TypeIs (.ref sl) "slice":=⟨os,hos,hcs⟩
 unfold getItem
 try with_reducible refine wpAny_holding ?_
 first | refine wpAny_bind (wpAny_pure ?_) | skip
 refine wpAny_bind (wpAny_sequenceKey ht.typeIs (by decide) ?_)
 refine wpAny_bind (wpAny_callSpecial?_slot (name:=Str.ofString "__getitem__") ht.typeIs PyProof.Rows.slot_tuple_getitem
  (wpAny_call_entry PyProof.Rows.slot_tuple_getitem ht.typeIs entry_tuple_getitem ?_ (args_tuple_getitem _ _)))
 show wpAny _ _ (Builtin.Tuple.tupleItemsOf (.ref t) >>= _) _ _ s
 refine wpAny_bind (tupleItemsOf_ ht ?_)
 refine wpAny_bind (wpAny_typeOf hTs ?_)
 rw [if_pos (by decide)]
 refine wpAny_bind (kI hs pl pu ?_)
 have hno:¬((((bF items.size 0 lo:Nat):Int) == 0 && (1:Int) == 1 && (bF items.size items.size hi - bF items.size 0 lo) == items.size)=true):=by
  intro q
  rw [Bool.and_eq_true,Bool.and_eq_true] at q
  have q1:((bF items.size 0 lo:Nat):Int)=0:=eq_of_beq q.1.1
  have q2:bF items.size items.size hi - bF items.size 0 lo=items.size:=eq_of_beq q.2
  exact hw ⟨by omega,by omega⟩
 show wpAny _ _ (if (((bF items.size 0 lo:Nat):Int) == 0 && (1:Int) == 1 && (bF items.size items.size hi - bF items.size 0 lo) == items.size)=true then _ else _) _ _ s
 rw [if_neg hno,D4]
 first
  | exact wpAny_bind (m:=Builtin.Tuple.tupleExact _) (wpAny_newObj_type (wpAny_pure ⟨_,rfl,wpAny_pure h⟩) htake)
  | exact wpAny_bind (m:=Builtin.Tuple.tupleExact _) (wpAny_newObj_type (wpAny_bind (wpAny_pure (wpAny_pure ⟨_,rfl,wpAny_pure h⟩))) htake)
  | exact wpAny_bind (wpAny_bind (m:=Builtin.Tuple.tupleExact _) (wpAny_newObj_type (wpAny_pure (wpAny_pure ⟨_,rfl,wpAny_pure h⟩)) htake))
  | exact wpAny_bind (wpAny_bind (m:=Builtin.Tuple.tupleExact _) (wpAny_newObj_type (wpAny_pure ⟨_,rfl,wpAny_pure h⟩) htake))
end
end HT
namespace L2
open PySem PySem.Spec PyProof.Rows
abbrev TO:=St→Hp→(Option Int→Hp→Prop)→Prop
def PO (X:Cx) (e:Option Expr) (t:TO):Prop:=
 ∀(pins:List (Addr×Obj)) (s:Shared) (σ:St) (H:Hp) (Q:Option Int→Hp→Prop),Inv X pins σ H s→t σ H Q→
  wpAny (model X.prog X.w) X.A (evalPart e X.env) (fun u s'=>∃o H',Inv X pins σ H' s'∧IsPart u o∧Q o H') X.xe s
def G6:TO:=fun _ H Q=>Q none H
def Lj (t:TE):TO:=fun σ H Q=>t σ H fun x H1=>∃i,x=.int i∧Q (some i) H1
theorem intsAre_of {ns:List Int}:∀{us:List Value},Vals (ns.map V.int) us→IntsAre us ns:=by
 induction ns with
 | nil=>intro us r;rw [List.map_nil] at r;cases r;exact .nil
 | cons n ns ih=>
  intro us r
  rw [List.map_cons] at r
  cases r with
  | cons r1 r2=>
   obtain ⟨t,e⟩:=r1
   subst e
   exact .cons n t (ih r2)
section
variable {X:Cx}{e:Expr}{te:TE}{lo hi:Option Expr}{tl th:TO}{pos p2:Pos}
theorem GD:PO X none G6:=by
 intro pins s σ H Q I h
 rw [evalPart_none]
 exact wpAny_pure ⟨none,H,I,.none,h⟩
theorem GF (h:PE X e te):PO X (some e) (Lj te):=by
 intro pins s σ H Q I hw
 rw [evalPart_some]
 refine bV (h pins s σ H _ I hw) fun u s1 ⟨x,H1,I1,r1,q1⟩=>?_
 obtain ⟨i,rfl,q⟩:=q1
 obtain ⟨t,rfl⟩:=r1
 exact ⟨some i,H1,I1,.int i t,q⟩
def ql (X:Cx) (r:V→Option Int→Option Int→Hp→VK→Prop):Prop:=
 ∀(pins:List (Addr×Obj)) (s:Shared) (σ:St) (H:Hp) (x:V) (v vl vu:Value) (lo hi:Option Int) (sl:Addr) (Q:VK),Inv X pins σ H s→RelV x v→s.heap.IsSliceOf sl vl vu .none→IsPart vl lo→IsPart vu hi→r x lo hi H Q→
  ∃T id,typeLookup (.type T) "__getitem__"=pure (some (.builtin id))∧s.TypeIs v T∧wpAny (model X.prog X.w) X.A (getItem v (.ref sl)) (EP X pins σ Q) X.xe s
theorem ql.or {r r':V→Option Int→Option Int→Hp→VK→Prop}(h:ql X r) (h':ql X r'):ql X (fun x lo hi H Q=>r x lo hi H Q∨r' x lo hi H Q):=by
 intro pins s σ H x v vl vu lo hi sl Q I rx hs pl pu q
 rcases q with q | q
 ·exact h pins s σ H x v vl vu lo hi sl Q I rx hs pl pu q
 ·exact h' pins s σ H x v vl vu lo hi sl Q I rx hs pl pu q
def Mw (r:V→Option Int→Option Int→Hp→VK→Prop) (te:TE) (tl th:TO):TE:=fun σ H Q=>te σ H fun x H1=>tl σ H1 fun l H2=>th σ H2 fun u H3=>r x l u H3 Q
theorem D0 {r:V→Option Int→Option Int→Hp→VK→Prop}(hr:ql X r) (he:PE X e te) (hl:PO X lo tl) (hu:PO X hi th):PE X (.Subscript e (.Slice lo hi none p2) pos) (Mw r te tl th):=by
 intro pins s σ H Q I h
 refine Subscript_ (bV (he pins s σ H _ I h) fun v s1 ⟨x,H1,I1,r1,q1⟩=>?_)
 refine wpAny_Slice (bV (hl pins s1 σ H1 _ I1 q1) fun vl s2 ⟨l,H2,I2,pl,q2⟩=>bV (hu pins s2 σ H2 _ I2 q2) fun vu s3 ⟨u,H3,I3,pu,q3⟩=>?_)
 rw [evalPart_none]
 refine wpAny_pure ?_
 have I4:Inv X pins σ H3 {s3 with heap:=s3.heap.push {cls:=.type "slice",data:=.fields #[vl,vu,.none]}}:=I3.kept (t':=s3.toks) fun b ob q=>Heap.get?_push_of_some _ q
 obtain ⟨T,id,hT,ht,hg⟩:=hr pins {s3 with heap:=s3.heap.push {cls:=.type "slice",data:=.fields #[vl,vu,.none]}} σ H3 x v vl vu l u s3.heap.objs.size Q I4 r1 (Heap.IsSliceOf.new ..) pl pu q3
 show wpAny (model X.prog X.w) X.A (subscriptTail e (.Slice lo hi none p2) v (.ref s3.heap.objs.size)) (EP X pins σ Q) X.xe {s3 with heap:=s3.heap.push {cls:=.type "slice",data:=.fields #[vl,vu,.none]}}
 exact tail_any (ops:=[.ref s3.heap.objs.size,v]) ht hT hg (by with_unfolding_all rfl)
def k_ (xs:List V) (lo hi:Option Int):List V:=(xs.drop (HT.bF xs.length 0 lo)).take (HT.bF xs.length xs.length hi - HT.bF xs.length 0 lo)
theorem pJ (xs:List V) (lo hi:Option Int):(k_ xs lo hi).length≤xs.length:=by
 unfold k_
 rw [List.length_take,List.length_drop]
 omega
def LR (K:PySem.W.Frag):V→Option Int→Option Int→Hp→VK→Prop:=fun x lo hi H Q=>∃a xs,x=.ref a∧cT K H a xs∧
 ¬(HT.bF xs.length 0 lo=0∧HT.bF xs.length xs.length hi=xs.length)∧∀p,H p=none→Q (.ref p) (upd H p (.tup (k_ xs lo hi)))
theorem JZ:ql X (LR X.K):=by
 intro pins s σ H x v vl vu lo hi sl Q I rx hs pl pu h
 obtain ⟨a,xs,rfl,hx,hw,q⟩:=h
 cases rx
 obtain ⟨its,r,ht,hz⟩:=I.tuple hx
 have hlen:its.toArray.size=xs.length:=by rw [List.size_toArray];exact r.length.symm
 refine ⟨"tuple",_,PyProof.Rows.slot_tuple_getitem.lookup,ht.typeIs,?_⟩
 refine HT.pA ht hs pl pu (by rw [hlen];exact hw) ?_ (by rw [hlen];exact hz)
 rw [hlen]
 refine ⟨.ref s.heap.objs.size,_,I.laid (t':=s.toks) (o:=.tup (k_ xs lo hi)) (fun b ob q=>Heap.get?_push_of_some _ q) (Nat.le_refl _) ?_,rfl,q _ (I.hok.fresh (Nat.le_refl _))⟩
 exact ⟨Nat.le_trans (pJ xs lo hi) hz,_,(r.drop (HT.bF xs.length 0 lo)).take (HT.bF xs.length xs.length hi - HT.bF xs.length 0 lo),IsTup.new _ _⟩
def K7 (K:PySem.W.Frag):R2:=fun x y H Q=>∃a b xs ys,x=.ref a∧y=.ref b∧cT K H a xs∧cT K H b ys∧xs≠[]∧xs.length + ys.length≤sizeLine∧
 (ys=[]→Q (.ref a) H)∧(ys≠[]→∀p,H p=none→Q (.ref p) (upd H p (.tup (xs++ys))))
theorem Vals.nil_iff {xs:List V}{us:List Value}(r:Vals xs us):us=[]↔xs=[]:=by
 cases r with
 | nil=>simp
 | cons _ _=>simp
theorem FW:cR X (binaryOp .Add) (K7 X.K):=by
 intro pins s σ H x y v u Q I rx ry h
 obtain ⟨a,b,xs,ys,rfl,rfl,ha,hb,hx,hz,q1,q2⟩:=h
 cases rx
 cases ry
 obtain ⟨its,r1,p1,_⟩:=I.tuple ha
 obtain ⟨its2,r2,p2,_⟩:=I.tuple hb
 refine HT.Fe p1 p2 (fun z=>hx (r1.nil_iff.mp z)) (fun z=>⟨.ref a,H,I,rfl,q1 (r2.nil_iff.mp z)⟩) (fun z=>?_) (by rw [←r1.length,←r2.length];exact hz)
 refine ⟨.ref s.heap.objs.size,_,I.laid (t':=s.toks) (o:=.tup (xs++ys)) (fun b ob q=>Heap.get?_push_of_some _ q) (Nat.le_refl _) ?_,rfl,q2 (fun w=>z (r2.nil_iff.mpr w)) _ (I.hok.fresh (Nat.le_refl _))⟩
 exact ⟨by rw [List.length_append];exact hz,_,r1.append r2,IsTup.new _ _⟩
end
def wC (n:Nat) (i:Int):Option Nat:=if 0≤i then (if i < n then some i.toNat else none) else if -(n:Int)≤i then some (i + n).toNat else none
def kN {α:Type}(xs:List α) (i:Int):Option α:=(wC xs.length i).bind fun j=>xs[j]?
theorem Fy {n:Nat}{i:Int}{j:Nat}(h:wC n i=some j):seqIndex? i n=some j∧j < n∧-(n:Int)≤i∧i < n:=by
 unfold wC at h
 by_cases h0:0≤i
 ·rw [if_pos h0] at h
  by_cases h1:i < n
  ·rw [if_pos h1] at h
   have e:i.toNat=j:=Option.some.inj h
   exact ⟨by rw [seqIndex_of h0 h1,e],by omega,by omega,h1⟩
  ·rw [if_neg h1] at h;cases h
 ·rw [if_neg h0] at h
  by_cases h1:-(n:Int)≤i
  ·rw [if_pos h1] at h
   have e:(i + n).toNat=j:=Option.some.inj h
   exact ⟨by rw [seqIndex_neg (by omega) h1,e],by omega,h1,by omega⟩
  ·rw [if_neg h1] at h;cases h
theorem rQ {α:Type}{xs:List α}{i:Int}{v:α}(h:kN xs i=some v):∃j,seqIndex? i xs.length=some j∧xs[j]?=some v∧j < xs.length∧-(xs.length:Int)≤i∧i < xs.length:=by
 unfold kN at h
 cases e:wC xs.length i with
 | none=>rw [e] at h;cases h
 | some j=>
  rw [e] at h
  obtain ⟨h1,h2,h3,h4⟩:=Fy e
  exact ⟨j,h1,h,h2,h3,h4⟩
def jW (b:Expr):Prop:=∀o i,subscripted b false o i=operate [o,i] (getItem o i)
def nQ (X:Cx) (r:R2):Prop:=
 ∀(value slice:Expr) (pins:List (Addr×Obj)) (s:Shared) (σ:St) (H:Hp) (x y:V) (v u:Value) (Q:VK),Inv X pins σ H s→RelV x v→RelV y u→r x y H Q→
  subscripted slice false v u=operate [v,u] (getItem v u)→wpAny (model X.prog X.w) X.A (subscriptTail value slice v u) (EP X pins σ Q) X.xe s
def Mj (X:Cx) (id:String) (r:V→List V→Hp→VK→Prop):Prop:=
 ∀(pins:List (Addr×Obj)) (s:Shared) (σ:St) (H:Hp) (x:V) (xs:List V) (v:Value) (us:List Value) (Q:VK),Inv X pins σ H s→RelV x v→Vals xs us→r x xs H Q→
  wpAny (model X.prog X.w) X.A (call (.builtin id) (v::us)) (EP X pins σ Q) X.xe s
section
variable {X:Cx}{a b:Expr}{ta tb:TE}{pos:Pos}
theorem nQ.or {r r':R2}(h:nQ X r) (h':nQ X r'):nQ X (fun x y H Q=>r x y H Q∨r' x y H Q):=by
 intro value slice pins s σ H x y v u Q I rx ry q hs
 rcases q with q | q
 ·exact h value slice pins s σ H x y v u Q I rx ry q hs
 ·exact h' value slice pins s σ H x y v u Q I rx ry q hs
theorem K2 {r:R2}(hr:nQ X r) (ha:PE X a ta) (hb:PE X b tb) (hs:jW b):PE X (.Subscript a b pos) (Cv r ta tb):=by
 intro pins s σ H Q I h
 exact Subscript_ (CY ha hb I h fun v u s2 x y H2 I2 rx ry q=>hr a b pins s2 σ H2 x y v u Q I2 rx ry q (hs _ _))
def JJ (K:PySem.W.Frag):R2:=fun x y H Q=>∃p xs i v,x=.ref p∧y=.int i∧cA K H p xs∧kN xs i=some v∧Q v H
def JL (K:PySem.W.Frag):R2:=fun x y H Q=>∃p xs i v,x=.ref p∧y=.int i∧cT K H p xs∧kN xs i=some v∧Q v H
def JK:R2:=fun x y H Q=>∃z i c,x=.str z∧y=.int i∧z.length≤sizeLine∧kN z.cps.toList i=some c∧Q (.str ⟨#[c]⟩) H
theorem Fz:nQ X (JJ X.K):=by
 intro value slice pins s σ H x y v u Q I rx ry h hs
 obtain ⟨p,xs,i,z,rfl,rfl,hq,he,q⟩:=h
 cases rx
 obtain ⟨t,rfl⟩:=ry
 obtain ⟨its,r,pl,hz⟩:=I.list hq
 obtain ⟨j,h1,h2,h3,h4,h5⟩:=rQ he
 obtain ⟨w,ew,rw'⟩:=r.get h2
 have hl:=r.length
 have hn:=lQ
 have fin:EP X pins σ Q w s:=⟨z,H,I,rw',q⟩
 by_cases h0:0≤i
 ·have hj:i.toNat=j:=by
   rw [seqIndex_of h0 h5] at h1
   exact Option.some.inj h1
  exact item_listR pl.isList h0 (by omega) (by rw [hj];simpa using ew) fin hs
 ·have hj:(i + (its.toArray.size:Int)).toNat=j:=by
   rw [seqIndex_neg (by omega) h4] at h1
   rw [List.size_toArray,←hl]
   exact Option.some.inj h1
  exact subscriptTail_builtinR (x:=w) pl.isList.typeIs slot_list_getitem.lookup
   (wpAny_getItem_list_neg (Q:=fun r s'=>r=w∧EP X pins σ Q r s') pl.isList (by omega) (by rw [List.size_toArray] <;> omega) (by omega) (by rw [hj];simpa using ew) ⟨rfl,fin⟩) hs
theorem Ig:nQ X (JL X.K):=by
 intro value slice pins s σ H x y v u Q I rx ry h hs
 obtain ⟨p,xs,i,z,rfl,rfl,hq,he,q⟩:=h
 cases rx
 obtain ⟨t,rfl⟩:=ry
 obtain ⟨its,r,pl,hz⟩:=I.tuple hq
 obtain ⟨j,h1,h2,h3,h4,h5⟩:=rQ he
 obtain ⟨w,ew,rw'⟩:=r.get h2
 have hl:=r.length
 have hn:=lQ
 have fin:EP X pins σ Q w s:=⟨z,H,I,rw',q⟩
 exact subscriptTail_builtinR (x:=w) pl.typeIs slot_tuple_getitem.lookup
  (getItem_tuple (j:=j) (Q:=fun r s'=>r=w∧EP X pins σ Q r s') pl (by omega) (by omega) (by rw [List.size_toArray,←hl];exact h1) (by simpa using ew) ⟨rfl,fin⟩) hs
theorem Ie:nQ X JK:=by
 intro value slice pins s σ H x y v u Q I rx ry h hs
 obtain ⟨z,i,c,rfl,rfl,hz,he,q⟩:=h
 obtain ⟨t,rfl⟩:=rx
 obtain ⟨t',rfl⟩:=ry
 obtain ⟨j,h1,h2,h3,h4,h5⟩:=rQ he
 have hl:z.cps.toList.length=z.length:=by simp [Str.length]
 rw [hl] at h1 h4 h5
 have hn:=lQ
 exact tail_any (typeIs_str s z t) slot_str_getitem.lookup (getItem_str (c:=c) (by
  have e1:decide (i < -(2 ^ 63:Int))=false:=decide_eq_false (by omega)
  have e2:decide (i ≥ 2 ^ 63)=false:=decide_eq_false (by omega)
  rw [e1,e2,Bool.or_false]) (by rw [h1];simpa using h2) ⟨.str ⟨#[c]⟩,H,I.tok _,⟨_,rfl⟩,q⟩) hs
def Mr (K:PySem.W.Frag):R2:=fun x y H Q=>JJ K x y H Q∨JL K x y H Q∨JK x y H Q
theorem Ic:nQ X (Mr X.K):=Fz.or (Ig.or Ie)
theorem Inv.lst {pins:List (Addr×Obj)}{σ:St}{H:Hp}{s:Shared}{p:Addr}{xs:List V}(I:Inv X pins σ H s) (h:H p=some (.lst xs)):
  ∃(its:List Value) (n:Nat),Vals xs its∧s.heap.get? p=some {cls:=.type "list",data:=.seq its.toArray n}∧xs.length≤sizeLine:=by
 obtain ⟨z,its,n,r,e⟩:=I.hok p _ h
 exact ⟨its,n,r,e,z⟩
theorem xJ (lo hi:Option Int) (n:Nat):(sliceBounds lo hi none n).1=((HT.bF n 0 lo:Nat):Int)∧(sliceBounds lo hi none n).2.1=((HT.bF n n hi:Nat):Int)∧(sliceBounds lo hi none n).2.2=1:=by
 refine ⟨?_,?_,rfl⟩
 ·cases lo with
  | none=>simp [sliceBounds,HT.bF]
  | some i=>
   simp only [sliceBounds,HT.bF,Option.getD_none,show (1:Int) > 0 by decide,if_true]
   by_cases h:i < 0
   ·simp only [h,if_true] <;> omega
   ·simp only [h,if_false] <;> omega
 ·cases hi with
  | none=>simp [sliceBounds,HT.bF]
  | some i=>
   simp only [sliceBounds,HT.bF,Option.getD_none,show (1:Int) > 0 by decide,if_true]
   by_cases h:i < 0
   ·simp only [h,if_true] <;> omega
   ·simp only [h,if_false] <;> omega
theorem uI (its:List Value) (lo hi:Option Int):slicePick its.toArray lo hi none=((its.drop (HT.bF its.length 0 lo)).take (HT.bF its.length its.length hi - HT.bF its.length 0 lo)).toArray:=by
 obtain ⟨h1,h2,h3⟩:=xJ lo hi its.toArray.size
 unfold slicePick
 rw [h1,h2,h3]
 simp only [sliceRange_one,pick_run,List.size_toArray] <;> rfl
def LQ (K:PySem.W.Frag):V→Option Int→Option Int→Hp→VK→Prop:=fun x lo hi H Q=>∃a xs,x=.ref a∧cA K H a xs∧∀p,H p=none→Q (.ref p) (upd H p (.lst (k_ xs lo hi)))
theorem G2:ql X (LQ X.K):=by
 intro pins s σ H x v vl vu lo hi sl Q I rx hs pl pu h
 obtain ⟨a,xs,rfl,hx,q⟩:=h
 cases rx
 obtain ⟨its,r,ht,hz⟩:=I.list hx
 have hlen:=r.length
 refine ⟨"list",_,slot_list_getitem.lookup,ht.isList.typeIs,?_⟩
 refine wpAny_getItem_list_slice ht.isList hs pl pu .none (by simp) ?_ (by rw [List.size_toArray] <;> omega)
 rw [uI,←hlen]
 refine ⟨.ref s.heap.objs.size,_,I.laid (t':=s.toks) (o:=.lst (k_ xs lo hi)) (fun b ob q=>Heap.get?_push_of_some _ q) (Nat.le_refl _) ?_,rfl,q _ (I.hok.fresh (Nat.le_refl _))⟩
 exact ⟨Nat.le_trans (pJ xs lo hi) hz,_,0,(r.drop (HT.bF xs.length 0 lo)).take (HT.bF xs.length xs.length hi - HT.bF xs.length 0 lo),Heap.get?_push_size _ rfl⟩
def qE:V→Bool
 | .non=>true
 | .bl _=>true
 | .int _=>true
 | .str _=>true
 | _=>false
def HM:V→V→Bool
 | .non,.non=>true
 | .bl a,.bl b=>a == b
 | .bl a,.int b=>(if a then 1 else 0) == b
 | .int a,.bl b=>a == (if b then 1 else 0)
 | .int a,.int b=>a == b
 | .str a,.str b=>a == b
 | _,_=>false
theorem HL {A:Around}{s:Shared}{y x:V}{u v:Value}(ry:RelV y u) (rx:RelV x v) (fy:qE y=true) (fx:qE x=true):SeqAt.EqAt A s u v (HM y x):=by
 cases y with
 | non=>
  cases ry
  cases x with
  | non=>cases rx;exact SeqAt.EqAt.same _
  | bl b=>cases rx;exact SeqAt.EqAt.none_bool b
  | int b=>obtain ⟨t,rfl⟩:=rx;exact SeqAt.EqAt.none_int b t
  | str b=>obtain ⟨t,rfl⟩:=rx;exact SeqAt.EqAt.none_str b t
  | _=>exact absurd (show false=true from fx) Bool.false_ne_true
 | bl a=>
  cases ry
  cases x with
  | non=>cases rx;exact SeqAt.EqAt.bool_none a
  | bl b=>cases rx;exact SeqAt.EqAt.bool_bool a b
  | int b=>obtain ⟨t,rfl⟩:=rx;exact SeqAt.EqAt.bool_int a b t
  | str b=>obtain ⟨t,rfl⟩:=rx;exact SeqAt.EqAt.bool_str a b t
  | _=>exact absurd (show false=true from fx) Bool.false_ne_true
 | int a=>
  obtain ⟨t',rfl⟩:=ry
  cases x with
  | non=>cases rx;exact SeqAt.EqAt.int_none a t'
  | bl b=>cases rx;exact SeqAt.EqAt.int_bool a t' b
  | int b=>obtain ⟨t,rfl⟩:=rx;exact SeqAt.EqAt.int_int a t' b t
  | str b=>obtain ⟨t,rfl⟩:=rx;exact SeqAt.EqAt.int_str a t' b t
  | _=>exact absurd (show false=true from fx) Bool.false_ne_true
 | str a=>
  obtain ⟨t',rfl⟩:=ry
  cases x with
  | non=>cases rx;exact SeqAt.EqAt.str_none a t'
  | bl b=>cases rx;exact SeqAt.EqAt.str_bool a t' b
  | int b=>obtain ⟨t,rfl⟩:=rx;exact SeqAt.EqAt.str_int a t' b t
  | str b=>obtain ⟨t,rfl⟩:=rx;exact SeqAt.EqAt.str_str a t' b t
  | _=>exact absurd (show false=true from fx) Bool.false_ne_true
 | _=>exact absurd (show false=true from fy) Bool.false_ne_true
theorem vP:bN X (.builtin "len") (fun xs H Q=>∃p ys,xs=[.ref p]∧(cA X.K H p ys∨cT X.K H p ys)∧Q (.int ys.length) H):=by
 intro pins s σ H xs us Q I r h
 obtain ⟨p,ys,rfl,hq,q⟩:=h
 obtain ⟨u,rfl,rx⟩:=vals1 r
 cases rx
 have hn:=lQ
 rcases hq with hq | hq
 ·obtain ⟨its,r',pl,hz⟩:=I.list hq
  have hlen:=r'.length
  exact Calls.call_len_list pl.isList (by simp only [List.size_toArray] <;> omega) ⟨.int ys.length,H,I.tok _,⟨s.toks + 1,by rw [List.size_toArray,hlen]⟩,q⟩
 ·obtain ⟨its,r',pl,hz⟩:=I.tuple hq
  have hlen:=r'.length
  exact len_tuple pl (by simp only [List.size_toArray] <;> omega) ⟨.int ys.length,H,I.tok _,⟨s.toks + 1,by rw [List.size_toArray,hlen]⟩,q⟩
theorem vQ:bN X (.builtin "len") (fun xs H Q=>∃z,xs=[.str z]∧z.length≤sizeLine∧Q (.int z.length) H):=by
 intro pins s σ H xs us Q I r h
 obtain ⟨z,rfl,hz,q⟩:=h
 obtain ⟨u,rfl,t,rfl⟩:=vals1 r
 have hn:=lQ
 exact len_str (by omega) ⟨.int z.length,H,I.tok _,⟨_,rfl⟩,q⟩
theorem bN.or {f:Value}{r r':List V→Hp→VK→Prop}(h:bN X f r) (h':bN X f r'):bN X f (fun xs H Q=>r xs H Q∨r' xs H Q):=by
 intro pins s σ H xs us Q I rs q
 rcases q with q | q
 ·exact h pins s σ H xs us Q I rs q
 ·exact h' pins s σ H xs us Q I rs q
theorem ux:bN X (.type "tuple") (fun xs H Q=>∃p ys,xs=[.ref p]∧((cA X.K H p ys∧∀l,H l=none→Q (.ref l) (upd H l (.tup ys)))∨(cT X.K H p ys∧Q (.ref p) H))):=by
 intro pins s σ H xs us Q I r h
 obtain ⟨p,ys,rfl,h⟩:=h
 obtain ⟨u,rfl,rx⟩:=vals1 r
 cases rx
 rcases h with ⟨hq,q⟩ | ⟨hq,q⟩
 ·obtain ⟨its,r',pl,hz⟩:=I.list hq
  have hlen:=r'.length
  refine call_tuple_list pl.isList (fun h' kp=>?_) (by simp only [List.size_toArray] <;> omega)
  have I1:Inv X pins σ H {s with heap:=h'}:=I.kept (t':=s.toks) kp
  have I2:Inv X pins σ (upd H h'.objs.size (.tup ys)) {s with heap:=h'.push {cls:=.type "tuple",data:=.seq its.toArray}}:=
   I1.laid (t':=s.toks) (fun b o e=>Heap.get?_push_of_some _ e) (Nat.le_refl _) (show cg X.prog X.w _ _ _ (.tup ys) from ⟨hz,its,r',IsTup.new _ _⟩)
  exact ⟨.ref h'.objs.size,_,I2,rfl,q _ (I1.hok.fresh (Nat.le_refl _))⟩
 ·obtain ⟨its,r',pl,hz⟩:=I.tuple hq
  exact call_tuple_same pl ⟨.ref p,H,I,rfl,q⟩
def Lv (K:PySem.W.Frag) (T:String) (x:V) (H:Hp):Prop:=match x with
 | .str _=>T="str"
 | .int _=>T="int"
 | .ref p=>(T="list"∧∃xs,cA K H p xs)∨(T="tuple"∧∃o,K.lookup p=some o∧o.cls=.type "tuple"∧o.dict=none)∨
   (T="dict"∧((∃kvs,H p=some (.dK kvs))∨∃kvs,H p=some (.dT kvs)))∨(T="set"∧∃S n,H p=some (.set S n))
 | _=>False
theorem Kl {pins:List (Addr×Obj)}{σ:St}{H:Hp}{s:Shared}{T:String}{x:V}{v:Value}(I:Inv X pins σ H s) (r:RelV x v) (ty:Lv X.K T x H):
  s.TypeIs v T∧∀a,v=.ref a→∃ob,s.heap.get? a=some ob∧ob.dict=none:=by
 cases x with
 | str z=>
  obtain ⟨t,rfl⟩:=r
  cases (show T="str" from ty)
  exact ⟨typeIs_str s z t,fun _ e=>nomatch e⟩
 | int i=>
  obtain ⟨t,rfl⟩:=r
  cases (show T="int" from ty)
  exact ⟨typeIs_int s i t,fun _ e=>nomatch e⟩
 | ref p=>
  cases r
  rcases ty with ⟨rfl,xs,hq⟩ | ⟨rfl,o,hk,hc,hd⟩ | ⟨rfl,hk⟩ | ⟨rfl,S,n,hk⟩
  ·obtain ⟨its,_,pl,_⟩:=I.list hq
   refine ⟨pl.isList.typeIs,fun a e=>?_⟩
   cases e
   obtain ⟨o,n,e,c,hd,_⟩:=pl
   exact ⟨o,e,hd⟩
  ·refine ⟨⟨o,I.kIn p o hk,hc⟩,fun a e=>?_⟩
   cases e
   exact ⟨o,I.kIn _ o hk,hd⟩
  ·have z:∃o,s.heap.get? p=some o∧o.ExactDict:=by
    rcases hk with ⟨kvs,hk⟩ | ⟨kvs,hk⟩
    ·obtain ⟨_,_,_,_,o,_,_,e,ex,_⟩:=I.hok p _ hk
     exact ⟨o,e,ex⟩
    ·obtain ⟨_,_,_,_,o,_,_,e,ex,_⟩:=I.hok p _ hk
     exact ⟨o,e,ex⟩
   obtain ⟨o,e,ex⟩:=z
   refine ⟨⟨o,e,ex.1⟩,fun a e2=>?_⟩
   cases e2
   exact ⟨o,e,ex.2.1⟩
  ·obtain ⟨o,_,_,_,e,ex,_⟩:=I.hok p _ hk
   refine ⟨⟨o,e,ex.1⟩,fun a e2=>?_⟩
   cases e2
   exact ⟨o,e,ex.2.1⟩
 | _=>exact False.elim ty
def Mt (K:PySem.W.Frag) (T:String) (r:V→List V→Hp→VK→Prop) (to:TE) (t:TA):TE:=fun σ H Q=>to σ H fun x H1=>Lv K T x H1∧t σ H1 fun xs H2=>r x xs H2 Q
variable {o e:Expr}{es:List Expr}{to:TE}{t:TA}{name:Str}{apos cpos:Pos}{T id:String}{r:V→List V→Hp→VK→Prop}
theorem u5 (pa:PlainAttrs T) (slot:Slot T name id) (hty:typeOf (.builtin id)=pure (.type "method_descriptor")) (hm:Mj X id r) (ho:PE X o to) (ha:PA X (e::es) t)
  (hbase:attributeBase o name X.env (eval o X.env)=eval o X.env:=by rfl)
  (hfew:((backTo cpos (starEach (e::es) X.env)).all (fun x=>!x.1) && (backToKw cpos (keywordEach [] X.env)).all (fun x=>x.1.isSome)
   && decide ((e::es).length + ([]:List Keyword).length + (if ([]:List Keyword).isEmpty then 0 else 1) < 30))=true:=by rfl)
  (hline:(apos.endLine == cpos.line)=true:=by rfl) (hs:starEach (e::es) X.env=(false,eval e X.env)::starEach es X.env:=by rfl) (hplain:(backTo cpos (starEach es X.env)).any (·.1)=false:=by rfl):
  PE X (.Call (.Attribute o name apos) (e::es) [] cpos) (Mt X.K T r to t):=by
 intro pins s σ H Q I h
 refine wpAny_Call_method_late hbase hfew hline rfl (bV (ho pins s σ H _ I h) fun v s1 ⟨x,H1,I1,r1,ty,q1⟩=>?_)
 obtain ⟨h1,h2⟩:=Kl I1 r1 ty
 refine ⟨T,id,pa,slot,hty,h1,h2,?_⟩
 have hA:=ha cpos pins s1 σ H1 _ I1 q1
 rw [hs] at hA ⊢
 refine Calls.callWith_builtin (by show (false || (backTo cpos (starEach es X.env)).any (·.1))=false;rw [hplain] <;> rfl) (Calls.evalArgs_plain ?_)
 exact bV hA fun us s2 ⟨vs,H2,I2,r2,q2⟩=>hm pins s2 σ H2 x vs v us Q I2 r1 r2 q2
end
def EC (X:Cx) (id:String) (r:V→List V→Hp→VK→Prop):Prop:=
 ∀(pins:List (Addr×Obj)) (s:Shared) (σ:St) (H:Hp) (x:V) (xs:List V) (v:Value) (us:List Value) (Q:VK),Inv X pins σ H s→RelV x v→Vals xs us→r x xs H Q→
  wpAny (model X.prog X.w) X.A (call (.builtin id) (v::us)) (EP X pins σ Q) X.xe s
theorem Vals.one:∀{x:V}{us:List Value},Vals [x] us→∃u,us=[u]∧RelV x u
 | _,_,.cons r .nil=>⟨_,rfl,r⟩
theorem Vals.eraseIdx:∀{xs:List V}{us:List Value}(i:Nat),Vals xs us→Vals (xs.eraseIdx i) (us.eraseIdx i)
 | _,_,_,.nil=>.nil
 | _,_,0,.cons _ t=>t
 | _,_,i + 1,.cons r t=>.cons r (Vals.eraseIdx i t)
theorem tH {α:Type}:∀(l:List α) (i:Nat),(l.eraseIdx i).length≤l.length
 | [],_=>Nat.le_refl _
 | _::_,0=>Nat.le_succ _
 | _::r,i + 1=>Nat.succ_le_succ (tH r i)
section
variable {X:Cx}{pins:List (Addr×Obj)}{σ:St}{H:Hp}{s:Shared}{l b:Addr}{xs ys zs:List V}
theorem Inv.lset {its its':List Value}{n:Nat}{f:Array Value→Array Value}{t':Nat}(I:Inv X pins σ H s) (hH:H l=some (.lst xs))
  (e:s.heap.get? l=some {cls:=.type "list",data:=.seq its.toArray n}) (hf:f its.toArray=its'.toArray) (hv:Vals ys its') (hz:ys.length≤sizeLine):
  Inv X pins σ (upd H l (.lst ys)) {s with heap:=s.heap.update l (Obj.mapSeq f),toks:=t'}:=by
 have q:=PySem.IsL.update e f
 rw [hf] at q
 refine I.write (x:=l) (e:=l) (by rw [hH];exact trivial) (.inl rfl) (fun b' u hb hu=>(Heap.get?_update_other s.heap (Obj.mapSeq f) (Ne.symm hb)).trans hu) ⟨_,q⟩ ?_
 exact ⟨hz,its',_,hv,q⟩
theorem Inv.lnew {its:List Value}{t':Nat}(I:Inv X pins σ H s) (hv:Vals ys its) (hz:ys.length≤sizeLine):
  Inv X pins σ (upd H s.heap.objs.size (.lst ys)) {s with heap:=s.heap.push {cls:=.type "list",data:=.seq its.toArray},toks:=t'}:=
 I.laid (fun _ _ q=>Heap.get?_push_of_some _ q) (Nat.le_refl _) ⟨hz,its,0,hv,Heap.get?_push_size _ rfl⟩
theorem Inv.fresh (I:Inv X pins σ H s):H s.heap.objs.size=none:=I.hok.fresh (Nat.le_refl _)
theorem Inv.lstM (I:Inv X pins σ H s) (hH:H l=some (.lst xs)):xs.length≤sizeLine∧∃(its:List Value) (n:Nat),Vals xs its∧xs.length=its.length∧s.heap.get? l=some {cls:=.type "list",data:=.seq its.toArray n}:=by
 obtain ⟨z,its,n,r,e⟩:=I.hok l _ hH
 exact ⟨z,its,n,r,r.length,e⟩
theorem wV {n:Nat}(h:n≤sizeLine):Builtin.List.listTooLong n=false:=by
 unfold Builtin.List.listTooLong
 exact decide_eq_false (by omega)
end
section
variable {X:Cx}
def GU:V→List V→Hp→VK→Prop:=fun x vs H Q=>∃l xs y,x=.ref l∧vs=[y]∧H l=some (.lst xs)∧xs.length < sizeLine∧Q .non (upd H l (.lst (xs++[y])))
theorem ow:EC X "list.append" GU:=by
 intro pins s σ H x vs v us Q I rx rv h
 obtain ⟨l,xs,y,rfl,rfl,hH,hz,q⟩:=h
 cases rx
 obtain ⟨u,rfl,ru⟩:=rv.one
 obtain ⟨z,its,n,r,hl,e⟩:=I.lstM hH
 refine call_meets F.slot_list_append ⟨_,e,rfl⟩ F.entry_list_append (F.args_list_append_2 _ _) (PySem.list_append l its.toArray n u (by rw [List.size_toArray];omega)) ⟨e,?_⟩
 refine ⟨.non,_,I.lset (its':=its++[u]) hH e (by simp) (r.append (.cons ru .nil)) ?_,rfl,q⟩
 rw [List.length_append,List.length_singleton]
 omega
def GV:V→List V→Hp→VK→Prop:=fun x vs H Q=>∃l b xs zs,x=.ref l∧vs=[.ref b]∧H l=some (.lst xs)∧H b=some (.lst zs)∧xs.length + zs.length≤sizeLine∧Q .non (upd H l (.lst (xs++zs)))
theorem Ls:EC X "list.extend" GV:=by
 intro pins s σ H x vs v us Q I rx rv h
 obtain ⟨l,b,xs,zs,rfl,rfl,hH,hB,hz,q⟩:=h
 cases rx
 obtain ⟨u,rfl,ru⟩:=rv.one
 cases ru
 obtain ⟨z,its,n,r,hl,e⟩:=I.lstM hH
 obtain ⟨z2,its2,n2,r2,hl2,e2⟩:=I.lstM hB
 have hsz:its.toArray.size + its2.toArray.size≤sizeLine:=by rw [List.size_toArray,List.size_toArray];omega
 have hlong:¬(!its.toArray.isEmpty && Builtin.List.listTooLong (its.toArray.size + its2.toArray.size))=true:=by
  rw [wV hsz,Bool.and_false]
  exact Bool.false_ne_true
 refine call_meets F.slot_list_extend ⟨_,e,rfl⟩ F.entry_list_extend (F.args_list_extend_2 _ _)
  (AutoSeq1.list_extend_list_list_0 l its.toArray n b its2.toArray n2 hlong (by rw [List.size_toArray];omega) (by omega)) ⟨e,e2,?_⟩
 refine ⟨.non,_,I.lset (its':=its++its2) hH e (by simp) (r.append r2) ?_,rfl,q⟩
 rw [List.length_append]
 omega
def JN:V→List V→Hp→VK→Prop:=fun x vs H Q=>∃l xs i k y,x=.ref l∧vs=[.int i]∧H l=some (.lst xs)∧-(2 ^ 63)≤i∧i < 2 ^ 63∧seqIndex? i xs.length=some k∧xs[k]?=some y∧Q y (upd H l (.lst (xs.eraseIdx k)))
theorem Dz:EC X "list.pop" JN:=by
 intro pins s σ H x vs v us Q I rx rv h
 obtain ⟨l,xs,i,k,y,rfl,rfl,hH,h1,h2,hk,hy,q⟩:=h
 cases rx
 obtain ⟨u,rfl,ru⟩:=rv.one
 obtain ⟨t,rfl⟩:=ru
 obtain ⟨z,its,n,r,hl,e⟩:=I.lstM hH
 obtain ⟨w,hw,rw'⟩:=r.get hy
 refine call_meets F.slot_list_pop ⟨_,e,rfl⟩ F.entry_list_pop (F.args_list_pop_2 _ _)
  (MeetsSeq.list_pop_at l its.toArray n i t k w (fitsIndex_both h1 h2) (by rw [List.size_toArray,←hl];exact hk) (by rw [←Array.getElem?_toList];exact hw) (by rw [List.size_toArray];omega)) ⟨e,?_⟩
 refine ⟨y,_,I.lset (its':=its.eraseIdx k) hH e ?_ (r.eraseIdx k) ?_,rw',q⟩
 ·show its.toArray.eraseIdxIfInBounds k=(its.eraseIdx k).toArray
  rw [List.eraseIdxIfInBounds_toArray]
 ·have:=tH xs k
  omega
def LN:R2:=fun x y H Q=>∃l b xs zs,x=.ref l∧y=.ref b∧H l=some (.lst xs)∧H b=some (.lst zs)∧xs.length + zs.length≤sizeLine∧∀p,H p=none→Q (.ref p) (upd H p (.lst (xs++zs)))
theorem BU:cR X (binaryOp .Add) LN:=by
 intro pins s σ H x y v u Q I rx ry h
 obtain ⟨l,b,xs,zs,rfl,rfl,hH,hB,hz,q⟩:=h
 cases rx
 cases ry
 obtain ⟨z,its,n,r,hl,e⟩:=I.lstM hH
 obtain ⟨z2,its2,n2,r2,hl2,e2⟩:=I.lstM hB
 refine PySem.P.add_list e e2 ?_ (by rw [List.size_toArray,List.size_toArray];omega)
 have ea:its.toArray++its2.toArray=(its++its2).toArray:=by simp
 rw [ea]
 exact ⟨.ref _,_,I.lnew (t':=s.toks) (r.append r2) (by rw [List.length_append];omega),rfl,q _ I.fresh⟩
end
end L2
namespace Att
open PySem PySem.W PySem.Calls PyProof.Rows
theorem qP {P:Params}{h:Heap}:∀(ns:List Int) (vs:List Value),WellAll P h vs (ns.map WData.int)→IntsAre vs ns:=by
 intro ns
 induction ns with
 | nil=>
  intro vs w
  rw [List.map_nil] at w
  cases w
  exact .nil
 | cons n ns ih=>
  intro vs w
  rw [List.map_cons] at w
  cases w with
  | cons a b=>
   cases a
   exact .cons _ _ (ih _ b)
theorem Cs {l:OpenLaw}{n:Nat}(hn:l.most=some n){P:Params}{h:Heap}{args:List WData}{vals:List Value}
  (hpre:l.row.toRowW.claim.pre args=true) (hwl:WellAll P h vals args):
  ∃a vs ns,vals=[Value.ref a]∧args=[WData.list (ns.map WData.int)]∧h.get? a=some {cls:=.type "list",data:=.seq vs.toArray}∧IntsAre vs ns∧ns.length≤n:=by
 have hsh:WShape.hasAll [] args [.list .int]=true:=(pre_splitW hpre).1
 have hc:l.pre.holds [] {args:=args}=true:=(pre_splitW hpre).2
 obtain ⟨d,r,rfl,h1,h2⟩:=hasAllW_cons hsh
 obtain rfl:=hasAllW_nil h2
 obtain ⟨xs,rfl,h3⟩:=hasW_list h1
 obtain ⟨ns,rfl⟩:=items_int h3
 have hlen:ns.length≤n:=by
  unfold OpenLaw.pre at hc
  have h4:(WTm.not (.lt (.lit (.int (n:Int))) (.len (.arg 0)))).holds [] {args:=[.list (ns.map .int)]}=true:=by
   have h4:=(holds_andW hc).1
   rw [hn] at h4
   exact h4
  have h5:=condW_of h4 (w_not (w_lt w_lit (w_len_list (w_arg rfl))))
  rw [List.length_map] at h5
  refine Nat.le_of_not_lt fun q=>?_
  have q':(n:Int) < ((ns.length:Nat):Int):=by omega
  first
   | (rw [decide_eq_true q'] at h5;exact absurd h5 (by decide))
   | (simp at h5;omega)
 cases hwl with
 | cons w1 w2=>
  cases w2
  cases w1 with
  | list ho hall=>exact ⟨_,_,ns,rfl,rfl,ho,qP ns _ hall,hlen⟩
theorem Cf (l:OpenLaw) (args:List WData):l.row.toRowW.claim.post args (.bool true) args=true:=
 postW_of (r:=l.row.toRowW) (X:=(true == true))
  (show WShape.has [] (.bool true) .bool=true by first | rfl | decide | simp [WShape.has,WShape.arms,WShape.armsAll])
  (show (WTm.eq .res (.lit (.bool true))).value [] {args:=args,res:=some (.bool true),after:=args}=some (.bool (true == true)) from w_eq_bool (w_res rfl) w_lit) rfl
theorem yf {l:OpenLaw}{n:Nat}{q:Program}{loose:List Str}{XP:(Str→Option Value)→Heap→Prop}{YP:World→Heap→Prop}{d:DefRec}
  (hn:l.most=some n) (hdf:d.params.defaults=[])
  (call:∀(w:World) (s₀ s₁:Shared) (mg mb:Str→Option Value) (fa:Addr) (o:Obj) (pm cd doc:Value) (a:Addr) (vs:List Value) (ns:List Int),
   Ground q loose [] XP w s₀ mg mb s₁.heap→YP w s₁.heap→
   s₁.heap.get? fa=some o→o.data=.func (docDef d.name d.params d.body d.scope pm cd doc)→s₁.heap.CodeRec cd d.name→mg d.name=some (.ref fa)→
   s₁.heap.get? a=some {cls:=.type "list",data:=.seq vs.toArray}→IntsAre vs ns→ns.length≤n→s₁.gens=#[]→
   codeAny (model l.prog w) callerA (.call (.ref fa) ⟨[.ref a],[]⟩) (fun r s'=>r=.ok (.ret (.bool true))∧OldK s₁.heap s'.heap∧s'.os=s₁.os∧AllBare s'.gens) s₁):
  WalkO q loose XP YP l.row.toRowW d [] (fun f vs=>PySem.call f vs):=by
 intro w s₀ s₁ mg mb G Y fa o pm cd doc dV kV ho hd hcd hD hmg hg args vals as hpre hlay hrd hwl hlo
 obtain rfl:dV=.none:=Dflts.none hD hdf
 obtain rfl:kV=.none:=Dflts.noKw hD
 obtain ⟨a,vs,ns,rfl,rfl,hobj,hints,hlen⟩:=Cs hn hpre hwl
 refine enter_call (codeAny_mono (call w s₀ s₁ mg mb fa o pm cd doc a vs ns G Y ho (fd_plain hd) hcd hmg hobj hints hlen hg) fun r s' hq=>?_)
 obtain ⟨rfl,h2,h3,h4⟩:=hq
 exact ⟨.inl ⟨.bool true,.bool true,[],rfl,fun _=>rfl,.bool true,Cf l _,fun _=>⟨List.Pairwise.nil,fun _ hm=>(nomatch hm)⟩⟩,h2,h3,h4⟩
end Att
namespace L2
open PySem PySem.Spec PyProof.Rows
theorem ue:∀{vs:List Value}{ns:List Int},IntsAre vs ns→Vals (ns.map V.int) vs
 | _,_,.nil=>.nil
 | _,_,.cons n t h=>.cons ⟨t,rfl⟩ (ue h)
def zE (H:Hp):Prop:=∀b,H b=none∨∃o xs,H b=some (.frz o (.lst xs))
theorem Ds {P:Program}{w:World}{K:PySem.W.Frag}{mg mb:Str→Option Value}{CX:nN}{k:Nat}{fa a:Addr}{fd:FuncData}{x:Str}{sp:Sp}{s₁:Shared}{vs:List Value}{ns:List Int}
  (KX:K.In s₁.heap) (hns:s₁.heap.Ns mainGlobals mg) (hb:s₁.heap.Ns builtinsNs mb) (hbb:∀x:Str,x≠"__name__"→mb x=bootBuiltins x) (hlim:s₁.heap.NoLimit) (hg:s₁.gens=#[])
  (ha:s₁.heap.get? a=some {cls:=.type "list",data:=.seq vs.toArray}) (hi:IntsAre vs ns) (hl:ns.length≤sizeLine) (hr:cV k callerA)
  (F:∀base:Heap,K.In base→base.Ns mainGlobals mg→eY P w K mg base CX k fa fd [x] sp) (hbind:∀(s:Shared) (u:Value),BindsTo s fd ⟨[u],[]⟩ [(x,u)])
  (hsp:∀H:Hp,zE H→cA K H a (ns.map V.int)→sp [.ref a] H (fun v _=>v=.bl true) fun _ _ _=>False)
  (hCX:∀H e s',CX [] H s₁ (fun _ _ _=>False) e s'→False):
  codeAny (model P w) callerA (.call (.ref fa) ⟨[.ref a],[]⟩) (fun r s'=>r=.ok (.ret (.bool true))∧OldK s₁.heap s'.heap∧s'.os=s₁.os∧AllBare s'.gens) s₁:=by
 have rv:=ue hi
 have lenV:=hi.length
 have core:∀H:Hp,zE H→cA K H a (ns.map V.int)→fM P w H s₁.heap→(∀b,H b≠none→b=a)→(H a≠none→K.lookup a=none)→
   codeAny (model P w) callerA (.call (.ref fa) ⟨[.ref a],[]⟩) (fun r s'=>r=.ok (.ret (.bool true))∧OldK s₁.heap s'.heap∧s'.os=s₁.os∧AllBare s'.gens) s₁:=by
  intro H hO hS hok hA hK
  have base_of:∀{b:Addr}{o:Obj},s₁.heap.get? b=some o→H b=none→(mW s₁.heap H).get? b=some o:=fun e n=>Dh e n
  have noA:∀{b:Addr}{o:Obj}{es:Array DictEntry}{ep:Nat},s₁.heap.get? b=some o→o.data=.dict es ep→H b=none:=fun {b o es ep} e d=>by
   cases q:H b with
   | none=>rfl
   | some u=>
    have e':b=a:=hA b (by rw [q];simp)
    subst e'
    rw [ha] at e;cases e
    have d':Data.seq vs.toArray _=Data.dict es ep:=d
    cases d'
  have nsK:∀{b:Addr}{m:Str→Option Value},s₁.heap.Ns b m→(mW s₁.heap H).Ns b m:=fun {b m} ⟨o,es,ep,e,d,r⟩=>⟨o,es,ep,base_of e (noA e d),d,r⟩
  have hKb:K.In (mW s₁.heap H):=fun b o e=>base_of (KX b o e) (by
   cases q:H b with
   | none=>rfl
   | some u=>
    have e':b=a:=hA b (by rw [q];simp)
    subst e'
    rw [hK (by rw [q];simp)] at e;cases e)
  have hM:Mod K mg (mW s₁.heap H):=⟨hKb,nsK hns,⟨mb,nsK hb,hbb⟩,let ⟨mc,h1,h2⟩:=hlim;⟨mc,nsK h1,h2⟩⟩
  have e0:zx P w K mg (mW s₁.heap H) callerA [] s₁ H:=⟨rfl,hM,fun b o e=>FU e,Nat.le_of_eq (BH _ _),trivial,fun b hb=>absurd (show b∈([]:List Addr) from hb) (by simp),hok,.of_eq hg⟩
  refine codeAny_mono ((F _ hKb (nsK hns)).run callerA [] s₁ H ⟨[.ref a],[]⟩ [.ref a] [.ref a] _ _ hr e0 (hbind s₁ (.ref a)) (.cons rfl .nil) (hsp H hO hS)) fun r s' h=>?_
  cases r with
  | error e=>exact (hCX H e s' h).elim
  | ok fl=>
   cases fl with
   | next=>exact False.elim h
   | brk=>exact False.elim h
   | cont=>exact False.elim h
   | ret u=>
    obtain ⟨v,H',os,bare,un,hok',r',q⟩:=h
    have q':v=.bl true:=q
    subst q'
    obtain rfl:u=Value.bool true:=r'
    refine ⟨rfl,OldK.of_keep fun b o e=>?_,os,bare⟩
    cases q:H b with
    | none=>exact un.keep b o e q (by intro z;exact absurd (show b∈([]:List Addr) from z) (by simp)) (by simp)
    | some u=>
     rcases hO b with z | ⟨ob,xs,z⟩
     ·rw [q] at z;cases z
     ·have z2:=un.frzs b ob _ z
      obtain ⟨e1,_⟩:=hok b _ z
      obtain ⟨e2,_⟩:=hok' b _ z2
      rw [e] at e1;cases e1
      exact e2
 cases hk:K.lookup a with
 | some o=>
  have e:=KX a o hk
  rw [ha] at e
  cases e
  refine core (fun _=>none) (fun _=>.inl rfl) (.inr ⟨_,vs.toArray,_,hk,rfl,rfl,rfl,by rw [List.size_toArray,lenV];exact hl,by simpa using rv⟩) (fun b u z=>by have z':(none:Option HO)=some u:=z;cases z') (fun b z=>absurd rfl z) fun z=>absurd rfl z
 | none=>
  refine core (fun b=>if b=a then some (.frz {cls:=.type "list",data:=.seq vs.toArray} (.lst (ns.map V.int))) else none) (fun b=>?_) (.inl (.inr ⟨{cls:=.type "list",data:=.seq vs.toArray},if_pos rfl⟩)) (fun b u z=>?_) (fun b z=>?_) fun _=>hk
  ·by_cases hb:b=a
   ·exact .inr ⟨_,_,if_pos hb⟩
   ·exact .inl (if_neg hb)
  ·by_cases hb:b=a
   ·have z':=(if_pos hb).symm.trans z
    cases z'
    subst hb
    exact ⟨ha,by rw [List.length_map];exact hl,vs,_,rv,ha⟩
   ·have z':=(if_neg hb).symm.trans z
    cases z'
  ·by_cases hb:b=a
   ·exact hb
   ·exact absurd (if_neg hb) z
abbrev ME {K:PySem.W.Frag}{h:Heap}(_:K.In h):PySem.W.Frag:=K
theorem Hg {l:PySem.W.OpenLaw}{n k:Nat}{q:Program}{loose:List Str}{XP:(Str→Option Value)→Heap→Prop}{YP:World→Heap→Prop}{d:DefRec}{K:Params→PySem.W.Frag}{CX:World→nN}{sp:World→Sp}{x:Str}
  (hn:l.most=some n) (hn2:n≤sizeLine) (hdf:d.params.defaults=[]) (hr:cV k callerA)
  (hY:∀(w:World) (h:Heap),YP w h→(K w.params).In h)
  (F:∀(w:World) (mg:Str→Option Value) (fa:Addr) (h:Heap),(K w.params).In h→h.Ns mainGlobals mg→mg d.name=some (.ref fa)→
   ∃fd:FuncData,(∀(s:Shared) (u:Value),BindsTo s fd ⟨[u],[]⟩ [(x,u)])∧
    ∀base:Heap,(K w.params).In base→base.Ns mainGlobals mg→eY l.prog w (K w.params) mg base (CX w) k fa fd [x] (sp w))
  (hsp:∀(w:World) (H:Hp) (a:Addr) (ns:List Int),ns.length≤n→zE H→cA (K w.params) H a (ns.map V.int)→sp w [.ref a] H (fun v _=>v=.bl true) fun _ _ _=>False)
  (hCX:∀(w:World) (H:Hp) (s:Shared) (e:Value) (s':Shared),CX w [] H s (fun _ _ _=>False) e s'→False):
  PySem.W.WalkO q loose XP YP l.row.toRowW d [] (fun f vs=>PySem.call f vs):=by
 refine Att.yf hn hdf fun w s₀ s₁ mg mb fa o pm cd doc a vs ns G Y ho hd hcd hmg hobj hints hlen hg=>?_
 have KX:=hY w _ Y
 obtain ⟨fd,hb,hF⟩:=F w mg fa _ KX G.T.g hmg
 exact Ds KX G.T.g G.T.b G.T.builtins G.T.nolimit hg hobj hints (Nat.le_trans hlen hn2) hr hF hb (fun H hO hS=>hsp w H a ns hlen hO hS) fun H e s'=>hCX w H s₁ e s'
def aK (s:Stmt):Arguments:=match s with
 | .FunctionDef _ a _ _ _ _ _ _ _ _=>a
 | _=>{posonlyargs:=[],args:=[],vararg:=none,kwonlyargs:=[],kw_defaults:=[],kwarg:=none,defaults:=[]}
def aI (s:Stmt):List Stmt:=match s with
 | .FunctionDef _ _ b _ _ _ _ _ _ _=>b
 | _=>[]
def au (s:Stmt):Scope:=match s with
 | .FunctionDef _ _ _ _ _ _ sc _ _ _=>sc
 | _=>{kind:=.function,names:=[],isGenerator:=false,isCoroutine:=false}
abbrev nC:nN:=fun _ _ _ _ _ _=>False
abbrev E0:XK:=fun _ _ _=>False
theorem KL {X:Cx}:Passes nC X E0:=fun _ _ _ _ _ _ _ h=>h.elim
structure dB (K:PySem.W.Frag) (x qual:Str) (st:Stmt) (f:Addr) (fd:FuncData):Prop where
 ex:∃(oc:Value) (od:Option Addr) (kV doc pm:Value) (an:Option Addr) (cdv ct:Value) (osl:Array (Option Value)),
  fd=PySem.W.fnOf x qual (aK st) (aI st) (au st) .none kV doc pm an cdv ct∧K.lookup f=some ⟨oc,od,.func fd,osl⟩∧PySem.W.codeIn K cdv qual=true
 kp:PySem.W.keepIn K (.ref f)=true
section
variable {P:Program}{w:World}{K:PySem.W.Frag}{mg:Str→Option Value}{base:Heap}
theorem dB.ok {x qual:Str}{st:Stmt}{f:Addr}{fd:FuncData}{N ps:List Str}{k:Nat}{sp:Sp}(F:dB K x qual st f fd) (S:bw N ps (au st)) (len:∀vs H Q E,sp vs H Q E→vs.length=ps.length)
  (hbody:∀(cdv:Value) (A:Around) (outer:List Env) (s:Shared) (H:Hp) (vs:List V) (Q:VK) (E:XK),cV k (A.deeper (envOfC qual (au st) s.heap.objs.size f cdv))→sp vs H Q E→
   ∃t,kc (nW nC P w K mg base N qual (au st) f cdv A outer s H E).nox (aI st) t∧t {nx:=fun _ H'=>Q .non H',rt:=Q} (start N vs) H):eY P w K mg base nC (k + 1) f fd ps sp:=by
 obtain ⟨oc,od,kV,doc,pm,an,cdv,ct,osl,rfl,lk,hcd⟩:=F.ex
 refine EI lk hcd S len fun A outer s H vs Q E hr hsp=>?_
 obtain ⟨t,h,q⟩:=hbody cdv A outer s H vs Q E hr hsp
 exact ⟨t,h.nox,q⟩
theorem dB.binds {x qual:Str}{st:Stmt}{f:Addr}{fd:FuncData}{ps:List Str}(F:dB K x qual st f fd)
  (h:∀(kV doc pm:Value) (an:Option Addr) (cdv ct:Value) (us:List Value),us.length=ps.length→bindArgs (PySem.W.fnOf x qual (aK st) (aI st) (au st) .none kV doc pm an cdv ct) ⟨us,[]⟩=pure (ps.zip us)):Binds K fd ps []:=by
 obtain ⟨oc,od,kV,doc,pm,an,cdv,ct,osl,rfl,lk,hcd⟩:=F.ex
 exact .all (h kV doc pm an cdv ct)
theorem bX {x qual:Str}{st:Stmt}{f:Addr}{oc:Value}{od an:Option Addr}{osl:Array (Option Value)}{kV doc pm cdv ct:Value}(l:K.lookup f=some ⟨oc,od,.func (PySem.W.fnOf x qual (aK st) (aI st) (au st) .none kV doc pm an cdv ct),osl⟩)
  (c:PySem.W.codeIn K cdv qual=true) (k:PySem.W.keepIn K (.ref f)=true):dB K x qual st f (PySem.W.fnOf x qual (aK st) (aI st) (au st) .none kV doc pm an cdv ct):=⟨⟨oc,od,kV,doc,pm,an,cdv,ct,osl,rfl,l,c⟩,k⟩
end
theorem HZ {A B:Prop}(h:B):if false=true then A else B:=by
 rw [if_neg Bool.false_ne_true]
 exact h
theorem H_ {A B:Prop}(h:A):if true=true then A else B:=by
 rw [if_pos rfl]
 exact h
def aX (H H':Hp):Prop:=∀b o,H b=some o→H' b=some o
theorem aX.refl (H:Hp):aX H H:=fun _ _ h=>h
theorem aX.trans {H H1 H2:Hp}(a:aX H H1) (b:aX H1 H2):aX H H2:=fun c o h=>b c o (a c o h)
theorem aX.free {H H':Hp}(e:aX H H'){l:Addr}(h:H' l=Option.none):H l=Option.none:=by
 cases q:H l with
 | none=>rfl
 | some o=>
  rw [e l o q] at h
  cases h
theorem aX.seq {K:PySem.W.Frag}{H H':Hp}{a:Addr}{xs:List V}(e:aX H H') (h:cA K H a xs):cA K H' a xs:=by
 rcases h with (h | ⟨o,h⟩) | h
 ·exact .inl (.inl (e _ _ h))
 ·exact .inl (.inr ⟨o,e _ _ h⟩)
 ·exact .inr h
end L2
set_option maxHeartbeats 4000000
namespace K23
open PySem
def top (i:Nat):Stmt:=PySem.Challenge.pw_pickalike_k23_orders_that_turn.main.body.getD i (.Pass ⟨0,0,0,0⟩)
def topC (i j:Nat):Stmt:=match top i with
 | .ClassDef (body:=b) ..=>b.getD j (.Pass ⟨0,0,0,0⟩)
 | _=>.Pass ⟨0,0,0,0⟩
end K23
namespace K23
open PySem PySem.Spec PyProof.Rows L2
abbrev E (P:Params) (k:Str) (t:Nat) (v:Value):DictEntry:=⟨PyData.keyHash P k,.str k t,v⟩
def KF (P:Params):PySem.W.Frag:=
(nat_lit 2,⟨.none,none,(.dict #[] 0),#[]⟩)::
(nat_lit 3,⟨(.type "dict"),none,(.dict #[E P "__name__" 165 (.str "law_pickalike_k23_orders_that_turn" 381),E P "__doc__" 166 .none,E P "__package__" 167 .none,E P "__loader__" 168 (.builtin "__main__.__loader__#opaque"),E P "__spec__" 169 .none,E P "__annotations__" 170 (.ref 6),E P "__builtins__" 171 (.ref 4),E P "__file__" 173 (.str "/claim/cut.py" 172),E P "__cached__" 174 .none,E P "PickError" 206 (.ref 24),E P "NoTongue" 222 (.ref 37),E P "TooMany" 247 (.ref 56),E P "NoCount" 272 (.ref 75),E P "is_whole" 281 (.ref 84),E P "tongue_of" 287 (.ref 89),E P "need_tongue" 295 (.ref 96),E P "MOST_SMALL" 299 (.int 4 298),E P "need_few_points" 307 (.ref 103),E P "need_small" 315 (.ref 110),E P "need_count" 324 (.ref 117),E P "rising" 333 (.ref 124),E P "view" 339 (.ref 129),E P "views" 345 (.ref 134),E P "agree" 355 (.ref 141),E P "goes_behind" 366 (.ref 148),E P "pairings" 372 (.ref 153),E P "turning" 380 (.ref 159),E P "_law_cell" 390 (.ref 166),E P "_law_names" 405 (.ref 173),E P "_law_bits" 415 (.ref 180),E P "_law_world" 421 (.ref 185),E P "_law_order" 432 (.ref 192),E P "_law_turned" 438 (.ref 197),E P "_law_flipped" 444 (.ref 202),E P "_law_two" 450 (.ref 207),E P "_law_whole" 457 (.ref 214),E P "_law_orders" 463 (.ref 219),E P "_law_pairs" 479 (.ref 226),E P "_law_does" 485 (.ref 231),E P "_law_right" 491 (.ref 236),E P "law" 501 (.ref 243)] 41),#[]⟩)::
(nat_lit 15,⟨(.type "tuple"),none,(.seq #[(.type "ValueError")] 0),#[]⟩)::
(nat_lit 22,⟨(.type "tuple"),none,(.seq #[] 0),#[]⟩)::
(nat_lit 23,⟨(.type "dict"),none,(.dict #[E P "__module__" 196 (.str "pickalike.errors" 187),E P "__firstlineno__" 200 (.int 2 199),E P "__static_attributes__" 201 (.ref 22),E P "__weakref__" 203 (.ref 25),E P "__doc__" 204 .none] 3),#[]⟩)::
(nat_lit 24,⟨(.type "type"),none,(.cls ⟨"PickError",[(.type "ValueError")],[(.ref 24),(.type "ValueError"),(.type "Exception"),(.type "BaseException"),(.type "object")],23,"PickError",true,[],[(.ref 37),(.ref 56),(.ref 75)],false,none,false⟩),#[(some (.ref 15)),none,(some (.str "PickError" 189)),(some (.str "PickError" 197)),(some (.builtin "ValueError.__new__")),(some (.bool true))]⟩)::
(nat_lit 25,⟨(.type "getset_descriptor"),none,(.fields #[(.str "__weakref__" 202),(.ref 24),(.builtin "ExceptionGroup.__weakref__"),.none]),#[]⟩)::
(nat_lit 28,⟨(.type "tuple"),none,(.seq #[(.ref 24)] 0),#[]⟩)::
(nat_lit 35,⟨(.type "tuple"),none,(.seq #[] 0),#[]⟩)::
(nat_lit 36,⟨(.type "dict"),none,(.dict #[E P "__module__" 214 (.str "pickalike.errors" 187),E P "__firstlineno__" 218 (.int 4 217),E P "__static_attributes__" 219 (.ref 35),E P "__doc__" 220 .none] 2),#[]⟩)::
(nat_lit 37,⟨(.type "type"),none,(.cls ⟨"NoTongue",[(.ref 24)],[(.ref 37),(.ref 24),(.type "ValueError"),(.type "Exception"),(.type "BaseException"),(.type "object")],36,"NoTongue",true,[],[],false,none,false⟩),#[(some (.ref 28)),none,(some (.str "NoTongue" 207)),(some (.str "NoTongue" 215)),(some (.builtin "ValueError.__new__")),(some (.bool true))]⟩)::
(nat_lit 40,⟨(.type "tuple"),none,(.seq #[(.ref 24)] 0),#[]⟩)::
(nat_lit 47,⟨(.type "tuple"),none,(.seq #[] 0),#[]⟩)::
(nat_lit 49,⟨(.type "tuple"),none,(.seq #[(.str "self" 238),(.str "many" 239)] 0),#[]⟩)::
(nat_lit 50,⟨(.type "tuple"),none,(.seq #[] 0),#[]⟩)::
(nat_lit 52,⟨(.type "code"),none,(.fields #[(.str "__init__" 235),(.str "TooMany.__init__" 236),(.str "/claim/cut.py" 237),(.int 8 0),(.int 2 0),(.int 0 0),(.int 0 0),(.int 3 0),(.ref 47),(.bool true),(.int 181 0),(.ref 48),.none,(.ref 49),(.ref 50),(.ref 51),(.int 240 0),(.int 8 0),(.str "/claim/cut.py" 241)]),#[]⟩)::
(nat_lit 53,⟨(.type "function"),none,(.func (PySem.W.fnOf "__init__" "TooMany.__init__" (aK (topC 3 0)) (aI (topC 3 0)) (au (topC 3 0)) .none .none .none (.str "pickalike.errors" 187) none (.ref 52) .none)),#[]⟩)::
(nat_lit 54,⟨(.type "tuple"),none,(.seq #[(.str "many" 243)] 0),#[]⟩)::
(nat_lit 55,⟨(.type "dict"),none,(.dict #[E P "__module__" 230 (.str "pickalike.errors" 187),E P "__firstlineno__" 234 (.int 6 233),E P "__init__" 242 (.ref 53),E P "__static_attributes__" 244 (.ref 54),E P "__doc__" 245 .none] 2),#[]⟩)::
(nat_lit 56,⟨(.type "type"),none,(.cls ⟨"TooMany",[(.ref 24)],[(.ref 56),(.ref 24),(.type "ValueError"),(.type "Exception"),(.type "BaseException"),(.type "object")],55,"TooMany",true,[],[],false,none,false⟩),#[(some (.ref 40)),none,(some (.str "TooMany" 223)),(some (.str "TooMany" 231)),(some (.builtin "ValueError.__new__")),(some (.bool true))]⟩)::
(nat_lit 59,⟨(.type "tuple"),none,(.seq #[(.ref 24)] 0),#[]⟩)::
(nat_lit 66,⟨(.type "tuple"),none,(.seq #[] 0),#[]⟩)::
(nat_lit 68,⟨(.type "tuple"),none,(.seq #[(.str "self" 263),(.str "told" 264)] 0),#[]⟩)::
(nat_lit 69,⟨(.type "tuple"),none,(.seq #[] 0),#[]⟩)::
(nat_lit 71,⟨(.type "code"),none,(.fields #[(.str "__init__" 260),(.str "NoCount.__init__" 261),(.str "/claim/cut.py" 262),(.int 13 0),(.int 2 0),(.int 0 0),(.int 0 0),(.int 3 0),(.ref 66),(.bool true),(.int 181 0),(.ref 67),.none,(.ref 68),(.ref 69),(.ref 70),(.int 265 0),(.int 13 0),(.str "/claim/cut.py" 266)]),#[]⟩)::
(nat_lit 72,⟨(.type "function"),none,(.func (PySem.W.fnOf "__init__" "NoCount.__init__" (aK (topC 4 0)) (aI (topC 4 0)) (au (topC 4 0)) .none .none .none (.str "pickalike.errors" 187) none (.ref 71) .none)),#[]⟩)::
(nat_lit 73,⟨(.type "tuple"),none,(.seq #[(.str "told" 268)] 0),#[]⟩)::
(nat_lit 74,⟨(.type "dict"),none,(.dict #[E P "__module__" 255 (.str "pickalike.errors" 187),E P "__firstlineno__" 259 (.int 11 258),E P "__init__" 267 (.ref 72),E P "__static_attributes__" 269 (.ref 73),E P "__doc__" 270 .none] 2),#[]⟩)::
(nat_lit 75,⟨(.type "type"),none,(.cls ⟨"NoCount",[(.ref 24)],[(.ref 75),(.ref 24),(.type "ValueError"),(.type "Exception"),(.type "BaseException"),(.type "object")],74,"NoCount",true,[],[],false,none,false⟩),#[(some (.ref 59)),none,(some (.str "NoCount" 248)),(some (.str "NoCount" 256)),(some (.builtin "ValueError.__new__")),(some (.bool true))]⟩)::
(nat_lit 78,⟨(.type "tuple"),none,(.seq #[] 0),#[]⟩)::
(nat_lit 80,⟨(.type "tuple"),none,(.seq #[(.str "thing" 278)] 0),#[]⟩)::
(nat_lit 81,⟨(.type "tuple"),none,(.seq #[] 0),#[]⟩)::
(nat_lit 83,⟨(.type "code"),none,(.fields #[(.str "is_whole" 275),(.str "is_whole" 276),(.str "/claim/cut.py" 277),(.int 17 0),(.int 1 0),(.int 0 0),(.int 0 0),(.int 3 0),(.ref 78),(.bool true),(.int 181 0),(.ref 79),.none,(.ref 80),(.ref 81),(.ref 82),(.int 279 0),(.int 17 0),(.str "/claim/cut.py" 280)]),#[]⟩)::
(nat_lit 84,⟨(.type "function"),none,(.func (PySem.W.fnOf "is_whole" "is_whole" (aK (top 6)) (aI (top 6)) (au (top 6)) .none .none .none (.str "pickalike.worlds" 273) none (.ref 83) .none)),#[]⟩)::
(nat_lit 85,⟨(.type "tuple"),none,(.seq #[] 0),#[]⟩)::
(nat_lit 88,⟨(.type "code"),none,(.fields #[(.str "tongue_of" 282),(.str "tongue_of" 283),(.str "/claim/cut.py" 284),(.int 19 0),(.int 1 0),(.int 0 0),(.int 0 0),(.int 3 0),(.ref 85),(.bool true),(.int 181 0),(.ref 86),.none,.none,.none,(.ref 87),(.int 285 0),(.int 19 0),(.str "/claim/cut.py" 286)]),#[]⟩)::
(nat_lit 89,⟨(.type "function"),none,(.func (PySem.W.fnOf "tongue_of" "tongue_of" (aK (top 7)) (aI (top 7)) (au (top 7)) .none .none .none (.str "pickalike.worlds" 273) none (.ref 88) .none)),#[]⟩)::
(nat_lit 90,⟨(.type "tuple"),none,(.seq #[] 0),#[]⟩)::
(nat_lit 92,⟨(.type "tuple"),none,(.seq #[(.str "one" 291),(.str "other" 292)] 0),#[]⟩)::
(nat_lit 93,⟨(.type "tuple"),none,(.seq #[] 0),#[]⟩)::
(nat_lit 95,⟨(.type "code"),none,(.fields #[(.str "need_tongue" 288),(.str "need_tongue" 289),(.str "/claim/cut.py" 290),(.int 22 0),(.int 2 0),(.int 0 0),(.int 0 0),(.int 3 0),(.ref 90),(.bool true),(.int 181 0),(.ref 91),.none,(.ref 92),(.ref 93),(.ref 94),(.int 293 0),(.int 22 0),(.str "/claim/cut.py" 294)]),#[]⟩)::
(nat_lit 96,⟨(.type "function"),none,(.func (PySem.W.fnOf "need_tongue" "need_tongue" (aK (top 8)) (aI (top 8)) (au (top 8)) .none .none .none (.str "pickalike.worlds" 273) none (.ref 95) .none)),#[]⟩)::
(nat_lit 97,⟨(.type "tuple"),none,(.seq #[] 0),#[]⟩)::
(nat_lit 99,⟨(.type "tuple"),none,(.seq #[(.str "worlds" 303),(.str "world" 304)] 0),#[]⟩)::
(nat_lit 100,⟨(.type "tuple"),none,(.seq #[] 0),#[]⟩)::
(nat_lit 102,⟨(.type "code"),none,(.fields #[(.str "need_few_points" 300),(.str "need_few_points" 301),(.str "/claim/cut.py" 302),(.int 27 0),(.int 1 0),(.int 0 0),(.int 0 0),(.int 3 0),(.ref 97),(.bool true),(.int 181 0),(.ref 98),.none,(.ref 99),(.ref 100),(.ref 101),(.int 305 0),(.int 27 0),(.str "/claim/cut.py" 306)]),#[]⟩)::
(nat_lit 103,⟨(.type "function"),none,(.func (PySem.W.fnOf "need_few_points" "need_few_points" (aK (top 11)) (aI (top 11)) (au (top 11)) .none .none .none (.str "pickalike.checks" 296) none (.ref 102) .none)),#[]⟩)::
(nat_lit 104,⟨(.type "tuple"),none,(.seq #[] 0),#[]⟩)::
(nat_lit 106,⟨(.type "tuple"),none,(.seq #[(.str "one" 311),(.str "other" 312)] 0),#[]⟩)::
(nat_lit 107,⟨(.type "tuple"),none,(.seq #[] 0),#[]⟩)::
(nat_lit 109,⟨(.type "code"),none,(.fields #[(.str "need_small" 308),(.str "need_small" 309),(.str "/claim/cut.py" 310),(.int 31 0),(.int 2 0),(.int 0 0),(.int 0 0),(.int 3 0),(.ref 104),(.bool true),(.int 181 0),(.ref 105),.none,(.ref 106),(.ref 107),(.ref 108),(.int 313 0),(.int 31 0),(.str "/claim/cut.py" 314)]),#[]⟩)::
(nat_lit 110,⟨(.type "function"),none,(.func (PySem.W.fnOf "need_small" "need_small" (aK (top 12)) (aI (top 12)) (au (top 12)) .none .none .none (.str "pickalike.checks" 296) none (.ref 109) .none)),#[]⟩)::
(nat_lit 111,⟨(.type "tuple"),none,(.seq #[] 0),#[]⟩)::
(nat_lit 113,⟨(.type "tuple"),none,(.seq #[(.str "told" 319),(.str "least" 320),(.str "most" 321)] 0),#[]⟩)::
(nat_lit 114,⟨(.type "tuple"),none,(.seq #[] 0),#[]⟩)::
(nat_lit 116,⟨(.type "code"),none,(.fields #[(.str "need_count" 316),(.str "need_count" 317),(.str "/claim/cut.py" 318),(.int 34 0),(.int 3 0),(.int 0 0),(.int 0 0),(.int 3 0),(.ref 111),(.bool true),(.int 181 0),(.ref 112),.none,(.ref 113),(.ref 114),(.ref 115),(.int 322 0),(.int 34 0),(.str "/claim/cut.py" 323)]),#[]⟩)::
(nat_lit 117,⟨(.type "function"),none,(.func (PySem.W.fnOf "need_count" "need_count" (aK (top 13)) (aI (top 13)) (au (top 13)) .none .none .none (.str "pickalike.checks" 296) none (.ref 116) .none)),#[]⟩)::
(nat_lit 118,⟨(.type "tuple"),none,(.seq #[] 0),#[]⟩)::
(nat_lit 120,⟨(.type "tuple"),none,(.seq #[(.str "pairs" 330)] 0),#[]⟩)::
(nat_lit 121,⟨(.type "tuple"),none,(.seq #[] 0),#[]⟩)::
(nat_lit 123,⟨(.type "code"),none,(.fields #[(.str "rising" 327),(.str "rising" 328),(.str "/claim/cut.py" 329),(.int 38 0),(.int 1 0),(.int 0 0),(.int 0 0),(.int 3 0),(.ref 118),(.bool true),(.int 181 0),(.ref 119),.none,(.ref 120),(.ref 121),(.ref 122),(.int 331 0),(.int 38 0),(.str "/claim/cut.py" 332)]),#[]⟩)::
(nat_lit 124,⟨(.type "function"),none,(.func (PySem.W.fnOf "rising" "rising" (aK (top 15)) (aI (top 15)) (au (top 15)) .none .none .none (.str "pickalike.pairings" 325) none (.ref 123) .none)),#[]⟩)::
(nat_lit 125,⟨(.type "tuple"),none,(.seq #[] 0),#[]⟩)::
(nat_lit 128,⟨(.type "code"),none,(.fields #[(.str "view" 334),(.str "view" 335),(.str "/claim/cut.py" 336),(.int 42 0),(.int 3 0),(.int 0 0),(.int 0 0),(.int 3 0),(.ref 125),(.bool true),(.int 181 0),(.ref 126),.none,.none,.none,(.ref 127),(.int 337 0),(.int 42 0),(.str "/claim/cut.py" 338)]),#[]⟩)::
(nat_lit 129,⟨(.type "function"),none,(.func (PySem.W.fnOf "view" "view" (aK (top 16)) (aI (top 16)) (au (top 16)) .none .none .none (.str "pickalike.pairings" 325) none (.ref 128) .none)),#[]⟩)::
(nat_lit 130,⟨(.type "tuple"),none,(.seq #[] 0),#[]⟩)::
(nat_lit 133,⟨(.type "code"),none,(.fields #[(.str "views" 340),(.str "views" 341),(.str "/claim/cut.py" 342),(.int 47 0),(.int 1 0),(.int 0 0),(.int 0 0),(.int 3 0),(.ref 130),(.bool true),(.int 181 0),(.ref 131),.none,.none,.none,(.ref 132),(.int 343 0),(.int 47 0),(.str "/claim/cut.py" 344)]),#[]⟩)::
(nat_lit 134,⟨(.type "function"),none,(.func (PySem.W.fnOf "views" "views" (aK (top 17)) (aI (top 17)) (au (top 17)) .none .none .none (.str "pickalike.pairings" 325) none (.ref 133) .none)),#[]⟩)::
(nat_lit 135,⟨(.type "tuple"),none,(.seq #[] 0),#[]⟩)::
(nat_lit 137,⟨(.type "tuple"),none,(.seq #[(.str "first" 349),(.str "second" 350),(.str "pair" 351),(.str "again" 352)] 0),#[]⟩)::
(nat_lit 138,⟨(.type "tuple"),none,(.seq #[] 0),#[]⟩)::
(nat_lit 140,⟨(.type "code"),none,(.fields #[(.str "agree" 346),(.str "agree" 347),(.str "/claim/cut.py" 348),(.int 49 0),(.int 4 0),(.int 0 0),(.int 0 0),(.int 3 0),(.ref 135),(.bool true),(.int 181 0),(.ref 136),.none,(.ref 137),(.ref 138),(.ref 139),(.int 353 0),(.int 49 0),(.str "/claim/cut.py" 354)]),#[]⟩)::
(nat_lit 141,⟨(.type "function"),none,(.func (PySem.W.fnOf "agree" "agree" (aK (top 18)) (aI (top 18)) (au (top 18)) .none .none .none (.str "pickalike.pairings" 325) none (.ref 140) .none)),#[]⟩)::
(nat_lit 142,⟨(.type "tuple"),none,(.seq #[] 0),#[]⟩)::
(nat_lit 144,⟨(.type "tuple"),none,(.seq #[(.str "first" 359),(.str "second" 360),(.str "pairing" 361),(.str "pair" 362),(.str "again" 363)] 0),#[]⟩)::
(nat_lit 145,⟨(.type "tuple"),none,(.seq #[] 0),#[]⟩)::
(nat_lit 147,⟨(.type "code"),none,(.fields #[(.str "goes_behind" 356),(.str "goes_behind" 357),(.str "/claim/cut.py" 358),(.int 51 0),(.int 4 0),(.int 0 0),(.int 0 0),(.int 3 0),(.ref 142),(.bool true),(.int 181 0),(.ref 143),.none,(.ref 144),(.ref 145),(.ref 146),(.int 364 0),(.int 51 0),(.str "/claim/cut.py" 365)]),#[]⟩)::
(nat_lit 148,⟨(.type "function"),none,(.func (PySem.W.fnOf "goes_behind" "goes_behind" (aK (top 19)) (aI (top 19)) (au (top 19)) .none .none .none (.str "pickalike.pairings" 325) none (.ref 147) .none)),#[]⟩)::
(nat_lit 149,⟨(.type "tuple"),none,(.seq #[] 0),#[]⟩)::
(nat_lit 152,⟨(.type "code"),none,(.fields #[(.str "pairings" 367),(.str "pairings" 368),(.str "/claim/cut.py" 369),(.int 58 0),(.int 3 0),(.int 0 0),(.int 0 0),(.int 3 0),(.ref 149),(.bool true),(.int 181 0),(.ref 150),.none,.none,.none,(.ref 151),(.int 370 0),(.int 58 0),(.str "/claim/cut.py" 371)]),#[]⟩)::
(nat_lit 153,⟨(.type "function"),none,(.func (PySem.W.fnOf "pairings" "pairings" (aK (top 20)) (aI (top 20)) (au (top 20)) .none .none .none (.str "pickalike.pairings" 325) none (.ref 152) .none)),#[]⟩)::
(nat_lit 154,⟨(.type "tuple"),none,(.seq #[.none] 0),#[]⟩)::
(nat_lit 155,⟨(.type "tuple"),none,(.seq #[] 0),#[]⟩)::
(nat_lit 158,⟨(.type "code"),none,(.fields #[(.str "turning" 375),(.str "turning" 376),(.str "/claim/cut.py" 377),(.int 71 0),(.int 3 0),(.int 0 0),(.int 0 0),(.int 3 0),(.ref 155),(.bool true),(.int 181 0),(.ref 156),.none,.none,.none,(.ref 157),(.int 378 0),(.int 71 0),(.str "/claim/cut.py" 379)]),#[]⟩)::
(nat_lit 159,⟨(.type "function"),none,(.func (PySem.W.fnOf "turning" "turning" (aK (top 22)) (aI (top 22)) (au (top 22)) (.ref 154) .none .none (.str "pickalike.turns" 373) none (.ref 158) .none)),#[]⟩)::
(nat_lit 160,⟨(.type "tuple"),none,(.seq #[] 0),#[]⟩)::
(nat_lit 162,⟨(.type "tuple"),none,(.seq #[(.str "_law_script" 386),(.str "_law_k" 387)] 0),#[]⟩)::
(nat_lit 163,⟨(.type "tuple"),none,(.seq #[] 0),#[]⟩)::
(nat_lit 165,⟨(.type "code"),none,(.fields #[(.str "_law_cell" 383),(.str "_law_cell" 384),(.str "/claim/cut.py" 385),(.int 82 0),(.int 2 0),(.int 0 0),(.int 0 0),(.int 3 0),(.ref 160),(.bool true),(.int 181 0),(.ref 161),.none,(.ref 162),(.ref 163),(.ref 164),(.int 388 0),(.int 82 0),(.str "/claim/cut.py" 389)]),#[]⟩)::
(nat_lit 166,⟨(.type "function"),none,(.func (PySem.W.fnOf "_law_cell" "_law_cell" (aK (top 24)) (aI (top 24)) (au (top 24)) .none .none .none (.str "law_pickalike_k23_orders_that_turn" 381) none (.ref 165) .none)),#[]⟩)::
(nat_lit 167,⟨(.type "tuple"),none,(.seq #[] 0),#[]⟩)::
(nat_lit 169,⟨(.type "tuple"),none,(.seq #[(.str "_law_cell_here" 394),(.str "_law_many" 395),(.str "_law_letters" 396),(.str "_law_sign" 397),(.str "_law_stem" 398),(.str "_law_found" 399),(.str "_law_k" 400),(.str "_law_other" 401),(.str "_law_name" 402)] 0),#[]⟩)::
(nat_lit 170,⟨(.type "tuple"),none,(.seq #[] 0),#[]⟩)::
(nat_lit 172,⟨(.type "code"),none,(.fields #[(.str "_law_names" 391),(.str "_law_names" 392),(.str "/claim/cut.py" 393),(.int 86 0),(.int 2 0),(.int 0 0),(.int 0 0),(.int 3 0),(.ref 167),(.bool true),(.int 181 0),(.ref 168),.none,(.ref 169),(.ref 170),(.ref 171),(.int 403 0),(.int 86 0),(.str "/claim/cut.py" 404)]),#[]⟩)::
(nat_lit 173,⟨(.type "function"),none,(.func (PySem.W.fnOf "_law_names" "_law_names" (aK (top 25)) (aI (top 25)) (au (top 25)) .none .none .none (.str "law_pickalike_k23_orders_that_turn" 381) none (.ref 172) .none)),#[]⟩)::
(nat_lit 174,⟨(.type "tuple"),none,(.seq #[] 0),#[]⟩)::
(nat_lit 176,⟨(.type "tuple"),none,(.seq #[(.str "_law_cell_here" 409),(.str "_law_size" 410),(.str "_law_found" 411),(.str "_law_k" 412)] 0),#[]⟩)::
(nat_lit 177,⟨(.type "tuple"),none,(.seq #[] 0),#[]⟩)::
(nat_lit 179,⟨(.type "code"),none,(.fields #[(.str "_law_bits" 406),(.str "_law_bits" 407),(.str "/claim/cut.py" 408),(.int 98 0),(.int 2 0),(.int 0 0),(.int 0 0),(.int 3 0),(.ref 174),(.bool true),(.int 181 0),(.ref 175),.none,(.ref 176),(.ref 177),(.ref 178),(.int 413 0),(.int 98 0),(.str "/claim/cut.py" 414)]),#[]⟩)::
(nat_lit 180,⟨(.type "function"),none,(.func (PySem.W.fnOf "_law_bits" "_law_bits" (aK (top 26)) (aI (top 26)) (au (top 26)) .none .none .none (.str "law_pickalike_k23_orders_that_turn" 381) none (.ref 179) .none)),#[]⟩)::
(nat_lit 181,⟨(.type "tuple"),none,(.seq #[] 0),#[]⟩)::
(nat_lit 184,⟨(.type "code"),none,(.fields #[(.str "_law_world" 416),(.str "_law_world" 417),(.str "/claim/cut.py" 418),(.int 104 0),(.int 3 0),(.int 0 0),(.int 0 0),(.int 3 0),(.ref 181),(.bool true),(.int 181 0),(.ref 182),.none,.none,.none,(.ref 183),(.int 419 0),(.int 104 0),(.str "/claim/cut.py" 420)]),#[]⟩)::
(nat_lit 185,⟨(.type "function"),none,(.func (PySem.W.fnOf "_law_world" "_law_world" (aK (top 27)) (aI (top 27)) (au (top 27)) .none .none .none (.str "law_pickalike_k23_orders_that_turn" 381) none (.ref 184) .none)),#[]⟩)::
(nat_lit 186,⟨(.type "tuple"),none,(.seq #[] 0),#[]⟩)::
(nat_lit 188,⟨(.type "tuple"),none,(.seq #[(.str "_law_cell_here" 425),(.str "_law_many" 426),(.str "_law_left" 427),(.str "_law_found" 428),(.str "_law_k" 429)] 0),#[]⟩)::
(nat_lit 189,⟨(.type "tuple"),none,(.seq #[] 0),#[]⟩)::
(nat_lit 191,⟨(.type "code"),none,(.fields #[(.str "_law_order" 422),(.str "_law_order" 423),(.str "/claim/cut.py" 424),(.int 114 0),(.int 2 0),(.int 0 0),(.int 0 0),(.int 3 0),(.ref 186),(.bool true),(.int 181 0),(.ref 187),.none,(.ref 188),(.ref 189),(.ref 190),(.int 430 0),(.int 114 0),(.str "/claim/cut.py" 431)]),#[]⟩)::
(nat_lit 192,⟨(.type "function"),none,(.func (PySem.W.fnOf "_law_order" "_law_order" (aK (top 28)) (aI (top 28)) (au (top 28)) .none .none .none (.str "law_pickalike_k23_orders_that_turn" 381) none (.ref 191) .none)),#[]⟩)::
(nat_lit 193,⟨(.type "tuple"),none,(.seq #[] 0),#[]⟩)::
(nat_lit 196,⟨(.type "code"),none,(.fields #[(.str "_law_turned" 433),(.str "_law_turned" 434),(.str "/claim/cut.py" 435),(.int 121 0),(.int 2 0),(.int 0 0),(.int 0 0),(.int 3 0),(.ref 193),(.bool true),(.int 181 0),(.ref 194),.none,.none,.none,(.ref 195),(.int 436 0),(.int 121 0),(.str "/claim/cut.py" 437)]),#[]⟩)::
(nat_lit 197,⟨(.type "function"),none,(.func (PySem.W.fnOf "_law_turned" "_law_turned" (aK (top 29)) (aI (top 29)) (au (top 29)) .none .none .none (.str "law_pickalike_k23_orders_that_turn" 381) none (.ref 196) .none)),#[]⟩)::
(nat_lit 198,⟨(.type "tuple"),none,(.seq #[] 0),#[]⟩)::
(nat_lit 201,⟨(.type "code"),none,(.fields #[(.str "_law_flipped" 439),(.str "_law_flipped" 440),(.str "/claim/cut.py" 441),(.int 125 0),(.int 2 0),(.int 0 0),(.int 0 0),(.int 3 0),(.ref 198),(.bool true),(.int 181 0),(.ref 199),.none,.none,.none,(.ref 200),(.int 442 0),(.int 125 0),(.str "/claim/cut.py" 443)]),#[]⟩)::
(nat_lit 202,⟨(.type "function"),none,(.func (PySem.W.fnOf "_law_flipped" "_law_flipped" (aK (top 30)) (aI (top 30)) (au (top 30)) .none .none .none (.str "law_pickalike_k23_orders_that_turn" 381) none (.ref 201) .none)),#[]⟩)::
(nat_lit 203,⟨(.type "tuple"),none,(.seq #[] 0),#[]⟩)::
(nat_lit 206,⟨(.type "code"),none,(.fields #[(.str "_law_two" 445),(.str "_law_two" 446),(.str "/claim/cut.py" 447),(.int 144 0),(.int 2 0),(.int 0 0),(.int 0 0),(.int 3 0),(.ref 203),(.bool true),(.int 181 0),(.ref 204),.none,.none,.none,(.ref 205),(.int 448 0),(.int 144 0),(.str "/claim/cut.py" 449)]),#[]⟩)::
(nat_lit 207,⟨(.type "function"),none,(.func (PySem.W.fnOf "_law_two" "_law_two" (aK (top 31)) (aI (top 31)) (au (top 31)) .none .none .none (.str "law_pickalike_k23_orders_that_turn" 381) none (.ref 206) .none)),#[]⟩)::
(nat_lit 208,⟨(.type "tuple"),none,(.seq #[] 0),#[]⟩)::
(nat_lit 210,⟨(.type "tuple"),none,(.seq #[(.str "_law_found" 454)] 0),#[]⟩)::
(nat_lit 211,⟨(.type "tuple"),none,(.seq #[] 0),#[]⟩)::
(nat_lit 213,⟨(.type "code"),none,(.fields #[(.str "_law_whole" 451),(.str "_law_whole" 452),(.str "/claim/cut.py" 453),(.int 159 0),(.int 1 0),(.int 0 0),(.int 0 0),(.int 3 0),(.ref 208),(.bool true),(.int 181 0),(.ref 209),.none,(.ref 210),(.ref 211),(.ref 212),(.int 455 0),(.int 159 0),(.str "/claim/cut.py" 456)]),#[]⟩)::
(nat_lit 214,⟨(.type "function"),none,(.func (PySem.W.fnOf "_law_whole" "_law_whole" (aK (top 32)) (aI (top 32)) (au (top 32)) .none .none .none (.str "law_pickalike_k23_orders_that_turn" 381) none (.ref 213) .none)),#[]⟩)::
(nat_lit 215,⟨(.type "tuple"),none,(.seq #[] 0),#[]⟩)::
(nat_lit 218,⟨(.type "code"),none,(.fields #[(.str "_law_orders" 458),(.str "_law_orders" 459),(.str "/claim/cut.py" 460),(.int 161 0),(.int 1 0),(.int 0 0),(.int 0 0),(.int 3 0),(.ref 215),(.bool true),(.int 181 0),(.ref 216),.none,.none,.none,(.ref 217),(.int 461 0),(.int 161 0),(.str "/claim/cut.py" 462)]),#[]⟩)::
(nat_lit 219,⟨(.type "function"),none,(.func (PySem.W.fnOf "_law_orders" "_law_orders" (aK (top 33)) (aI (top 33)) (au (top 33)) .none .none .none (.str "law_pickalike_k23_orders_that_turn" 381) none (.ref 218) .none)),#[]⟩)::
(nat_lit 220,⟨(.type "tuple"),none,(.seq #[] 0),#[]⟩)::
(nat_lit 222,⟨(.type "tuple"),none,(.seq #[(.str "_law_script" 467),(.str "_law_one" 468),(.str "_law_other" 469),(.str "_law_first" 470),(.str "_law_order_here" 471),(.str "_law_found" 472),(.str "_law_k" 473),(.str "_law_cell_here" 474),(.str "_law_a" 475),(.str "_law_b" 476)] 0),#[]⟩)::
(nat_lit 223,⟨(.type "tuple"),none,(.seq #[] 0),#[]⟩)::
(nat_lit 225,⟨(.type "code"),none,(.fields #[(.str "_law_pairs" 464),(.str "_law_pairs" 465),(.str "/claim/cut.py" 466),(.int 169 0),(.int 3 0),(.int 0 0),(.int 0 0),(.int 3 0),(.ref 220),(.bool true),(.int 181 0),(.ref 221),.none,(.ref 222),(.ref 223),(.ref 224),(.int 477 0),(.int 169 0),(.str "/claim/cut.py" 478)]),#[]⟩)::
(nat_lit 226,⟨(.type "function"),none,(.func (PySem.W.fnOf "_law_pairs" "_law_pairs" (aK (top 34)) (aI (top 34)) (au (top 34)) .none .none .none (.str "law_pickalike_k23_orders_that_turn" 381) none (.ref 225) .none)),#[]⟩)::
(nat_lit 227,⟨(.type "tuple"),none,(.seq #[] 0),#[]⟩)::
(nat_lit 230,⟨(.type "code"),none,(.fields #[(.str "_law_does" 480),(.str "_law_does" 481),(.str "/claim/cut.py" 482),(.int 181 0),(.int 4 0),(.int 0 0),(.int 0 0),(.int 3 0),(.ref 227),(.bool true),(.int 181 0),(.ref 228),.none,.none,.none,(.ref 229),(.int 483 0),(.int 181 0),(.str "/claim/cut.py" 484)]),#[]⟩)::
(nat_lit 231,⟨(.type "function"),none,(.func (PySem.W.fnOf "_law_does" "_law_does" (aK (top 35)) (aI (top 35)) (au (top 35)) .none .none .none (.str "law_pickalike_k23_orders_that_turn" 381) none (.ref 230) .none)),#[]⟩)::
(nat_lit 232,⟨(.type "tuple"),none,(.seq #[] 0),#[]⟩)::
(nat_lit 235,⟨(.type "code"),none,(.fields #[(.str "_law_right" 486),(.str "_law_right" 487),(.str "/claim/cut.py" 488),(.int 183 0),(.int 4 0),(.int 0 0),(.int 0 0),(.int 3 0),(.ref 232),(.bool true),(.int 181 0),(.ref 233),.none,.none,.none,(.ref 234),(.int 489 0),(.int 183 0),(.str "/claim/cut.py" 490)]),#[]⟩)::
(nat_lit 236,⟨(.type "function"),none,(.func (PySem.W.fnOf "_law_right" "_law_right" (aK (top 36)) (aI (top 36)) (au (top 36)) .none .none .none (.str "law_pickalike_k23_orders_that_turn" 381) none (.ref 235) .none)),#[]⟩)::
(nat_lit 237,⟨(.type "tuple"),none,(.seq #[] 0),#[]⟩)::
(nat_lit 239,⟨(.type "tuple"),none,(.seq #[(.str "_law_script" 495),(.str "_law_one" 496),(.str "_law_other" 497),(.str "_law_pairs_here" 498)] 0),#[]⟩)::
(nat_lit 240,⟨(.type "tuple"),none,(.seq #[] 0),#[]⟩)::
(nat_lit 242,⟨(.type "code"),none,(.fields #[(.str "law" 492),(.str "law" 493),(.str "/claim/cut.py" 494),(.int 193 0),(.int 1 0),(.int 0 0),(.int 0 0),(.int 3 0),(.ref 237),(.bool true),(.int 181 0),(.ref 238),.none,(.ref 239),(.ref 240),(.ref 241),(.int 499 0),(.int 193 0),(.str "/claim/cut.py" 500)]),#[]⟩)::
(nat_lit 243,⟨(.type "function"),none,(.func (PySem.W.fnOf "law" "law" (aK (top 37)) (aI (top 37)) (au (top 37)) .none .none .none (.str "law_pickalike_k23_orders_that_turn" 381) none (.ref 242) .none)),#[]⟩)::[]
def VW:Program:={PySem.Challenge.pw_pickalike_k23_orders_that_turn with main:={PySem.Challenge.pw_pickalike_k23_orders_that_turn.main with body:=[top 1,top 2,top 3,top 4,top 6,top 7,top 8,top 10,top 11,top 12,top 13,top 15,top 16,top 17,top 18,top 19,top 20,top 24,top 25,top 26,top 27,top 28,top 29,top 30,top 31,top 32,top 33,top 34,top 35,top 36,top 37]}}
def HK:PySem.W.Hook:=PySem.W.kHook KF [2,3,15,22,23,24,25,28,35,36,37,40,47,49,50,52,53,54,55,56,59,66,68,69,71,72,73,74,75,78,80,81,83,84,85,88,89,90,92,93,95,96,97,99,100,102,103,104,106,107,109,110,111,113,114,116,117,118,120,121,123,124,125,128,129,130,133,134,135,137,138,140,141,142,144,145,147,148,149,152,153,154,155,158,159,160,162,163,165,166,167,169,170,172,173,174,176,177,179,180,181,184,185,186,188,189,191,192,193,196,197,198,201,202,203,206,207,208,210,211,213,214,215,218,219,220,222,223,225,226,227,230,231,232,235,236,237,239,240,242,243] (fun _=>by kernel_rfl)
def XT:Shared→Bool:=fun s=>PySem.W.xlAt VW [] s && PySem.W.recOk (PySem.W.RowW.records PySem.Challenge.rw_pickalike_k23_orders_that_turn.row.toRowW) s
theorem look:PySem.W.OpenLaw.wellSaid PySem.Challenge.rw_pickalike_k23_orders_that_turn=true:=by decide +kernel
theorem left:PySem.W.LeftO PySem.Challenge.rw_pickalike_k23_orders_that_turn.row.prog VW ["turning"] XT (PySem.W.Hook.obs HK) (PySem.W.Hook.val HK) 3606:=fun w=>by kernel_rfl
end K23
namespace DX
open PySem PySem.Spec
open Sem (wp)
abbrev Mm (C t:Addr) (dx:Option Addr):Obj:={cls:=.ref C,dict:=dx,data:=.fields #[.ref t,.none,.none,.none,.bool false,.none]}
end DX
namespace DX
open PySem PySem.Spec
section
variable {M:Model}{A:Around}{E:Value→Shared→Prop}{s:Shared}
def Mh (e C:Addr) (dx:Option Addr) (T:Addr) (h:Heap):Prop:=
 ∃oe vs oT ts,h.get? e=some oe∧oe.cls=.ref C∧oe.dict=dx∧oe.data=.fields vs∧vs[1]?=some (.ref T)∧T≠e∧h.get? T=some oT∧oT.data=.fields ts∧ts[3]?=some .none
end
end DX
namespace DX
open PySem PySem.Spec PyProof.Rows L2
def Kq (a C:Addr) (dx:Option Addr):Heap→Prop:=fun h=>∃oe vs,h.get? a=some oe∧oe.cls=.ref C∧oe.dict=dx∧oe.data=.fields vs
abbrev XO (a C:Addr) (dx:Option Addr):HO:=.ext (Kq a C dx)
def Fl (e C:Addr) (dx:Option Addr):Option Addr→Heap→Prop
 | none,h=>∃t,h.get? e=some (Mm C t dx)
 | some T,h=>Mh e C dx T h
structure LA (P:Program) (w:World) (fs ex:List Addr) (H:Hp) (s:Shared) (E:XK) (e C:Addr) (dx To:Option Addr) (H':Hp) (s':Shared):Prop where
 os:s'.os=s.os
 bare:AllBare s'.gens
 un:Un fs ex H H' s.heap s'.heap
 hok:fM P w H' s'.heap
 fl:Fl e C dx To s'.heap
 newE:s.heap.objs.size≤e
 newT:∀T∈To.toList,s.heap.objs.size≤T
 Cy:H' e=some (XO e C dx)
 free:∀T∈To.toList,H' T=none
 wish:E (.ref e) dx H'
def qc (P:Program) (w:World):nN:=fun outer H s E v s'=>∃e C dx T H',v=.ref e∧LA P w (frs outer) [] H s E e C dx (some T) H' s'
end DX
namespace DX
open PySem PySem.Spec PyProof.Rows
open Sem (wp)
section
variable {prog:Program}{w:World}{A:Around}{E:Value→Shared→Prop}{s:Shared}{K:PySem.W.Frag}{x C:Addr}{ox:Obj}{od:Option Obj}{name:Str}
theorem C2 {M:Model}{nameV:Value}{Q:Unit→Shared→Prop}(X:K.In s.heap) (I:PySem.W.InstAt s.heap x ox C od) (hm:PySem.W.mroIn K C (.type "BaseException")=some true) (hq:Q () s):wpAny M A (checkBuiltinCall "BaseException.__getattribute__" ⟨[.ref x,nameV],[]⟩) Q E s:=by
 have hk:builtinKind "BaseException.__getattribute__"=some .slot:=by decide +kernel
 have hsp:splitId "BaseException.__getattribute__"=some ("BaseException","__getattribute__"):=by decide +kernel
 have ha:=F.args_bexc_ga (.ref x) nameV
 have L1:=I.type (M:=M)
 have L2:=PySem.W.looks_mroIn (M:=M) X hm
 simp only [checkBuiltinCall,hk,hsp]
 have L:PySem.W.Looks M s.heap (isInstance (.ref x) (.type "BaseException")) true:=L1.andThen L2
 refine wpAny_bind (L.here ?_)
 obtain ⟨h,g,d,t,os⟩:=s
 repeat (any_goals (first | assumption | wp_step))
theorem entry_class {tk:Tok}{Q:Fin→Shared→Prop}(X:K.In s.heap) (I:PySem.W.InstAt s.heap x ox C od) (hf:PySem.W.findObj K C od "__class__"=some (.bind (.builtin "getset_descriptor.__get__") (.builtin "object.__class__"))) (hm:PySem.W.mroIn K C (.type "object")=some true) (h:Q (.done (.ret (.ref C))) s):
  wpAny (model prog w) A (Builtin.«object.__getattribute__» ⟨[.ref x,.str "__class__" tk],[]⟩) Q E s:=by
 obtain ⟨hh,g,d,t,os⟩:=s
 have L0:=I.type (M:=model prog w)
 have L1:=PySem.W.looks_find (M:=model prog w) X I hf
 refine wpAny_bind (wpAny_pure (wpAny_bind (wpAny_pure (wpAny_bind (L0.at (wpAny_bind (L1.at ?_)))))))
 show wpAny _ _ (holding [_] (call _ [_,.ref x,.ref C]) >>= ret) _ _ _
 exact wpAny_bind (wpAny_holding (wpAny_call (PySem.W.class_get (ox:=ox) (od:=od) X I hm (wpAny_pure h))))
theorem HQ {tk:Tok}{fill expr:Bool}{Q:Value→Shared→Prop}(X:K.In s.heap) (I:PySem.W.InstAt s.heap x ox C od) (hga:PySem.W.findIn K (.ref C) "__getattribute__"=some (some (.builtin "BaseException.__getattribute__"))) (hgt:PySem.W.findIn K (.ref C) "__getattr__"=some none)
  (h:codeAny (model prog w) A (.call (.builtin "BaseException.__getattribute__") ⟨[.ref x,.str name tk],[]⟩) (fun r s'=>match r with | .ok (.ret v)=>wpAny (model prog w) A (handedOut v) Q E s' | _=>False) s):wpAny (model prog w) A (getAttrBy (.ref x) (.str name tk) fill expr) Q E s:=by
 obtain ⟨hh,g,d,t,os⟩:=s
 have L0:=I.type (M:=model prog w)
 have L1:=PySem.W.looks_findIn (M:=model prog w) X hga
 have L2:=PySem.W.looks_findIn (M:=model prog w) X hgt
 have hx2:(Value.builtin "BaseException.__getattribute__" == Value.builtin "object.__getattribute__")=false:=by decide +kernel
 unfold getAttrBy
 refine wpAny_holding (wpAny_bind (L0.at (wpAny_bind (L1.at ?_))))
 dsimp only
 rw [hx2,Bool.and_false,if_neg (by decide)]
 unfold getAttrByItsOwn
 refine wpAny_bind (L2.at ?_)
 have h0:(expr && onTheHeap (Value.builtin "BaseException.__getattribute__"))=false:=by cases expr <;> rfl
 refine wpAny_bind (wpAny_attempt (wpAny_holding ?_))
 unfold callGetattribute
 rw [h0,if_neg (by decide)]
 unfold boundAndCalled
 rw [PySem.F.attrBase_ValueError.ga.bind (.ref x)]
 refine wpAny_bind (wpAny_pure (wpAny_call (codeAny_mono h fun r s' q=>?_)))
 match r,q with
 | .ok (.ret v),q=>exact q
theorem get_class {Q:Option Value→Shared→Prop}(X:K.In s.heap) (I:PySem.W.InstAt s.heap x ox C od) (hga:PySem.W.findIn K (.ref C) "__getattribute__"=some (some (.builtin "BaseException.__getattribute__"))) (hgt:PySem.W.findIn K (.ref C) "__getattr__"=some none)
  (hm:PySem.W.mroIn K C (.type "BaseException")=some true) (hf:PySem.W.findObj K C od "__class__"=some (.bind (.builtin "getset_descriptor.__get__") (.builtin "object.__class__"))) (ho:PySem.W.mroIn K C (.type "object")=some true) (h:Q (some (.ref C)) {s with toks:=s.toks + 1}):
  wpAny (model prog w) A (getAttr? (.ref x) "__class__") Q E s:=by
 obtain ⟨hp,g,d,t,os⟩:=s
 unfold getAttr? getAttrBy?
 refine wpAny_bind (wpAny_mkText (wpAny_bind (wpAny_attempt (HQ (s:=⟨hp,g,d,t + 1,os⟩) X I hga hgt ?_))))
 refine codeAny_call_builtin PySem.F.attrBase_ValueError.ga.plain F.entry_bexc_ga (C2 (s:=⟨hp,g,d,t + 1,os⟩) X I hm (entry_class (s:=⟨hp,g,d,t + 1,os⟩) X I hf ho ?_))
 exact wpAny_pure (wpAny_pure h)
end
end DX
namespace DX
open PySem PySem.Spec PyProof.Rows L2
abbrev xV:List Value:=[.type "ValueError",.type "Exception",.type "BaseException",.type "object"]
def quiet:List Str:=["__init__","__setattr__","name","letter","many","told","point","row"]
structure GX (K:PySem.W.Frag) (P:Addr):Prop where
 gt:PySem.W.specialIn K (.builtin "object.__class__") "__get__"=some (some (.builtin "getset_descriptor.__get__"))
 tk:PySem.W.takesIn K (.builtin "object.__class__")=some true
 lk:∃nm q N bs sn sub ab col dd k0 k1 k2 k3 k5,K.lookup P=some (excClassObj nm q P N bs xV true sn sub ab col dd k0 k1 k2 k3 k5 "ValueError.__new__")∧∀h,K.In h→∃m,h.Ns N m∧∀n∈quiet,m n=none
structure XE (K:PySem.W.Frag) (P C:Addr):Prop where
 lk:∃nm q N bs sn sub ab col dd k0 k1 k2 k3 k5,K.lookup C=some (excClassObj nm q C N bs (.ref P::xV) true sn sub ab col dd k0 k1 k2 k3 k5 "ValueError.__new__")
 ga:PySem.W.findIn K (.ref C) "__getattribute__"=some (some (.builtin "BaseException.__getattribute__"))
 gt:PySem.W.findIn K (.ref C) "__getattr__"=some none
 cl:PySem.W.findIn K (.ref C) "__class__"=some (some (.builtin "object.__class__"))
section
variable {K:PySem.W.Frag}{P C:Addr}
theorem Bo (X:XE K P C):∃cd,PySem.W.clsIn K C=some cd∧cd.mro=.ref C::.ref P::xV∧cd.hasDict=true∧PySem.W.typeIn K (.ref C)=some (.type "type"):=by
 obtain ⟨nm,q,N,bs,sn,sub,ab,col,dd,k0,k1,k2,k3,k5,l⟩:=X.lk
 have h1:PySem.W.clsIn K C=some {name:=nm,bases:=bs,mro:=.ref C::.ref P::xV,ns:=N,qualname:=q,hasDict:=true,slotNames:=sn,subclasses:=sub,abstract:=ab,collection:=col,hasDel:=false}:=by
  unfold PySem.W.clsIn
  rw [l]
 refine ⟨_,h1,rfl,rfl,?_⟩
 show (K.lookup C).map (·.cls)=_
 rw [l]
 rfl
theorem wO (X:XE K P C) (b:Value):PySem.W.mroIn K C b=some ((Value.ref C::.ref P::xV).contains b):=by
 obtain ⟨cd,h1,h2,_⟩:=Bo X
 unfold PySem.W.mroIn
 rw [h1,Option.bind_some,h2]
 rfl
end
theorem Im {K:PySem.W.Frag}{P C:Addr}(X:XE K P C){T:String}(h1:PySem.W.kitMeta T=true) (h2:xV.contains (.type T)=false):PySem.W.kitOne K (.ref C) (.type T)=some false:=by
 unfold PySem.W.kitOne PySem.W.kitCls
 rw [if_neg (by simp)]
 simp only [h1,if_true]
 show PySem.W.mroIn K C _=_
 rw [wO X,List.contains_cons,List.contains_cons,h2]
 rfl
theorem Ft {K:PySem.W.Frag}{C:Addr}{od:Option Obj}{name:Str}{a g:Value}(hc:(PySem.W.clsIn K C).isSome=true) (ha:PySem.W.findIn K (.ref C) name=some (some a)) (hg:PySem.W.specialIn K a "__get__"=some (some g)) (ht:PySem.W.takesIn K a=some true):PySem.W.findObj K C od name=some (.bind g a):=by
 obtain ⟨cd,hc⟩:=Option.isSome_iff_exists.mp hc
 unfold PySem.W.findObj
 rw [hc,Option.bind_some,ha,Option.bind_some]
 simp [hg,ht]
theorem Dn {K:PySem.W.Frag}{e P C:Addr}(G:GX K P) (E:XE K P C):PySem.W.KitX K (.ref e) (.ref C) (fun h=>∃ox od,PySem.W.InstAt h e ox C od):=by
 obtain ⟨cd,hc,hm,hd,ht⟩:=Bo E
 refine ⟨fun M h _ ⟨ox,od,I⟩=>I.type,fun M h X _=>?_,fun h tp dd its n sl X htp=>?_,fun X ⟨ox,od,I⟩ k=>?_⟩
 ·unfold PySem.W.clsIn at hc
  split at hc
  ·rename_i ho
   intro A' Q' E' s' k q
   unfold isType loadHead
   exact wpAny_bind (wpAny_loadPart (k _ _ (X _ _ ho)) (wpAny_pure q))
  ·cases hc
 ·refine Bool.eq_false_iff.mpr fun q=>?_
  obtain rfl:C=tp:=Value.ref.inj (beq_iff_eq.mp q)
  unfold PySem.W.clsIn at hc
  split at hc
  ·rename_i ho
   have z:=(X _ _ ho).symm.trans htp
   cases z
  ·cases hc
 ·exact get_class X I E.ga E.gt (by rw [wO E];simp) (Ft (by rw [hc];rfl) E.cl G.gt G.tk) (by rw [wO E];simp) k
end DX
namespace DL
open PySem PySem.Spec PyProof.Rows L2
inductive D where
 | non | bl (b:Bool) | int (i:Int) | str (x:Str) | tup (xs:List D) | lst (xs:List D) | emp
 | exn (cls:Str) (ns:List Str) (ds:List D)
  | dct (ks vs:List D)
mutual
def isKey:D→Bool
 | .int _=>true
 | .tup xs=>areKeys xs
 | _=>false
def areKeys:List D→Bool
 | []=>true
 | x::xs=>isKey x && areKeys xs
end
mutual
def bO:D→Int
 | .int i=>hashInt i
 | .tup xs=>reduceHash (Builtin.Tuple.tupleHashOf (cB xs))
 | _=>0
def cB:List D→List Int
 | []=>[]
 | x::xs=>bO x::cB xs
end
mutual
def dep:D→Nat
 | .tup xs=>deps xs + 1
 | .lst xs=>deps xs + 1
 | .emp=>5000
 | .exn _ _ _=>5000
 | .dct _ _=>5000
 | _=>0
def deps:List D→Nat
 | []=>0
 | x::xs=>max (dep x) (deps xs)
end
structure Hl (ks:List D):Prop where
 key:areKeys ks=true
 nd:ks.Nodup
 dp:deps ks≤8
 tp:∀k∈ks,∃xs,k=.tup xs
def vg (p:Int×V×V) (e:DictEntry):Prop:=e.hash=p.1∧RelV p.2.1 e.key∧RelV p.2.2 e.val
abbrev pK (a:Addr) (kvs:List (Int×V×V)):HO:=.ext fun h=>∃o es ep,h.get? a=some o∧o.ExactDict∧o.data=.dict es ep∧Paired vg kvs es.toList
def XF (J:Hp) (dx:Option Addr) (ns:List Str) (vs:List V):Prop:=(dx=none∧ns=[]∧vs=[])∨∃d,dx=some d∧ns.length=vs.length∧J d=some (.xd (ns.zip vs))
theorem XF.mono {J J':Hp}(e:aX J J'){dx:Option Addr}{ns:List Str}{vs:List V}(h:XF J dx ns vs):XF J' dx ns vs:=by
 rcases h with h | ⟨d,h1,h2,h3⟩
 ·exact .inl h
 ·exact .inr ⟨d,h1,h2,e _ _ h3⟩
mutual
inductive Rep (K:PySem.W.Frag) (J:Hp):D→V→Prop
 | non:Rep K J .non .non
 | bl (b:Bool):Rep K J (.bl b) (.bl b)
 | int (i:Int):Rep K J (.int i) (.int i)
 | str (x:Str):Rep K J (.str x) (.str x)
 | emp {a:Addr}:J a=some (.dK [])→Rep K J .emp (.ref a)
 | tup {a:Addr}{vs:List V}{ds:List D}:cT K J a vs→aG K J ds vs→Rep K J (.tup ds) (.ref a)
 | lst {a:Addr}{vs:List V}{ds:List D}:cA K J a vs→aG K J ds vs→Rep K J (.lst ds) (.ref a)
 | exn {a C:Addr}{dx:Option Addr}{cls:Str}{ns:List Str}{vs:List V}{ds:List D}:J a=some (DX.XO a C dx)→PySem.W.nsIn K mainGlobals cls=some (some (.ref C))→XF J dx ns vs→aG K J ds vs→(∃P,DX.GX K P∧DX.XE K P C)→Rep K J (.exn cls ns ds) (.ref a)
 | dct {a:Addr}{ks vs:List D}{us ws:List V}:J a=some (pK a ((cB ks).zip (us.zip ws)))→aG K J ks us→aG K J vs ws→Hl ks→(a == sysModules)=false∧ks.length=vs.length→Rep K J (.dct ks vs) (.ref a)
inductive aG (K:PySem.W.Frag) (J:Hp):List D→List V→Prop
 | nil:aG K J [] []
 | cons {d:D}{v:V}{ds:List D}{vs:List V}:Rep K J d v→aG K J ds vs→aG K J (d::ds) (v::vs)
end
theorem eU {K:PySem.W.Frag}{H H':Hp}{a:Addr}{xs:List V}(e:aX H H') (h:cT K H a xs):cT K H' a xs:=by
 rcases h with (h | ⟨o,h⟩) | h
 ·exact .inl (.inl (e _ _ h))
 ·exact .inl (.inr ⟨o,e _ _ h⟩)
 ·exact .inr h
mutual
theorem Rep.mono {K:PySem.W.Frag}{J J':Hp}(e:aX J J'):∀{d:D}{v:V},Rep K J d v→Rep K J' d v
 | _,_,.non=>.non
 | _,_,.bl b=>.bl b
 | _,_,.int i=>.int i
 | _,_,.str x=>.str x
 | _,_,.emp h=>.emp (e _ _ h)
 | _,_,.tup h hs=>.tup (eU e h) (aG.mono e hs)
 | _,_,.lst h hs=>.lst (e.seq h) (aG.mono e hs)
 | _,_,.exn h1 h2 h3 hs hx=>.exn (e _ _ h1) h2 (h3.mono e) (aG.mono e hs) hx
 | _,_,.dct h h1 h2 h3 h4=>.dct (e _ _ h) (aG.mono e h1) (aG.mono e h2) h3 h4
theorem aG.mono {K:PySem.W.Frag}{J J':Hp}(e:aX J J'):∀{ds:List D}{vs:List V},aG K J ds vs→aG K J' ds vs
 | _,_,.nil=>.nil
 | _,_,.cons h hs=>.cons (Rep.mono e h) (aG.mono e hs)
end
section
variable {K:PySem.W.Frag}{J:Hp}
theorem aG.length:∀{ds:List D}{vs:List V},aG K J ds vs→ds.length=vs.length
 | _,_,.nil=>rfl
 | _,_,.cons _ hs=>congrArg (· + 1) (aG.length hs)
theorem aG.get:∀{ds:List D}{vs:List V}{i:Nat}{d:D},aG K J ds vs→ds[i]?=some d→∃v,vs[i]?=some v∧Rep K J d v
 | _,_,_,_,.nil,e=>by simp at e
 | _,_,0,_,.cons r _,e=>by simp at e;subst e;exact ⟨_,rfl,r⟩
 | _,_,i + 1,d,.cons _ t,e=>by
  obtain ⟨v,h1,h2⟩:=aG.get (i:=i) (d:=d) t (by simpa using e)
  exact ⟨v,by simpa using h1,h2⟩
theorem aG.append:∀{ds es:List D}{vs us:List V},aG K J ds vs→aG K J es us→aG K J (ds++es) (vs++us)
 | _,_,_,_,.nil,s=>s
 | _,_,_,_,.cons r t,s=>.cons r (aG.append t s)
theorem aG.take:∀{ds:List D}{vs:List V}(n:Nat),aG K J ds vs→aG K J (ds.take n) (vs.take n)
 | _,_,0,_=>.nil
 | _,_,_ + 1,.nil=>.nil
 | _,_,n + 1,.cons r t=>.cons r (aG.take n t)
theorem aG.drop:∀{ds:List D}{vs:List V}(n:Nat),aG K J ds vs→aG K J (ds.drop n) (vs.drop n)
 | _,_,0,r=>r
 | _,_,_ + 1,.nil=>.nil
 | _,_,n + 1,.cons _ t=>aG.drop n t
end
structure Exc where
 cls:Str
 ns:List Str
 ds:List D
inductive M (α:Type) where
 | bad | ok (a:α) | exc (x:Exc)
def M.bind {α β:Type}:M α→(α→M β)→M β
 | .bad,_=>.bad
 | .ok a,f=>f a
 | .exc x,_=>.exc x
instance:Monad M where
 pure:=M.ok
 bind:=M.bind
@[simp] theorem aT {α β:Type}(a:α) (f:α→M β):(M.ok a >>= f)=f a:=rfl
def cO {α:Type}(m:M α) (Q:α→Prop) (T:Exc→Prop):Prop:=match m with
 | .bad=>False
 | .ok a=>Q a
 | .exc x=>T x
theorem aM {α β:Type}{m:M α}{f:α→M β}{Q:β→Prop}{T:Exc→Prop}(h:cO (m >>= f) Q T):cO m (fun a=>cO (f a) Q T) T:=by
 cases m with
 | bad=>exact h
 | ok a=>exact h
 | exc x=>exact h
theorem aE {α:Type}{m:M α}{Q Q':α→Prop}{T:Exc→Prop}(h:cO m Q T) (k:∀a,Q a→Q' a):cO m Q' T:=by
 cases m with
 | bad=>exact h
 | ok a=>exact k a h
 | exc x=>exact h
inductive Md where
 | fresh | own | bor
inductive R where
 | d (x:D) | l (m:Md) (xs:List D)
inductive S where
 | d (x:D) | own (xs:List D) | bor (xs:List D)
abbrev Ev:=List (Option S)
structure C where
 K:PySem.W.Frag
 H0:Hp
 J0:Hp
 T:Exc→Prop
structure HI (c:C) (J H:Hp):Prop where
 sub:aX J H
 ent:aX c.H0 H
 entJ:aX c.J0 J
 frz:∀a,c.H0 a≠none→c.J0 a=none→J a=none
structure Ext (J H J' H':Hp):Prop where
 h:aX H H'
 j:aX J J'
 sub:aX J' H'
 frz:∀a,H a≠none→J a=none→J' a=none
theorem aX.ne {H H':Hp}(e:aX H H'){a:Addr}(h:H a≠none):H' a≠none:=by
 cases q:H a with
 | none=>exact absurd q h
 | some o=>rw [e a o q];intro z;cases z
theorem Ext.refl {J H:Hp}(h:aX J H):Ext J H J H:=⟨aX.refl H,aX.refl J,h,fun _ _ q=>q⟩
theorem Ext.trans {J H J1 H1 J2 H2:Hp}(a:Ext J H J1 H1) (b:Ext J1 H1 J2 H2):Ext J H J2 H2:=
 ⟨a.h.trans b.h,a.j.trans b.j,b.sub,fun p h q=>b.frz p (aX.ne a.h h) (a.frz p h q)⟩
theorem HI.ext {c:C}{J H J' H':Hp}(h:HI c J H) (e:Ext J H J' H'):HI c J' H':=
 ⟨e.sub,h.ent.trans e.h,h.entJ.trans e.j,fun a h0 j0=>e.frz a (aX.ne h.ent h0) (h.frz a h0 j0)⟩
theorem gK {H:Hp}{p:Addr}(h:H p=none) (o:HO):aX H (upd H p o):=fun b u q=>by rw [bC (eT q h)];exact q
theorem Ext.new {J H:Hp}(h:aX J H){p:Addr}(e:H p=none) (o:HO):Ext J H J (upd H p o):=
 ⟨gK e o,aX.refl J,fun b u q=>gK e o b u (h b u q),fun _ _ q=>q⟩
theorem Ext.newJ {J H:Hp}(h:aX J H){p:Addr}(e:H p=none) (o:HO):Ext J H (upd J p o) (upd H p o):=
 ⟨gK e o,gK (h.free e) o,fun b u q=>by
  by_cases hb:b=p
  ·subst hb;rw [b9] at q ⊢;exact q
  ·rw [bC hb] at q ⊢;exact h b u q,fun a ha q=>by
  have:a≠p:=fun z=>ha (z▸e)
  rw [bC this];exact q⟩
def pV (c:C) (J H:Hp):S→V→Prop
 | .d x,v=>Rep c.K J x v
 | .own xs,v=>∃a vs,v=.ref a∧H a=some (.lst vs)∧J a=none∧c.H0 a=none∧aG c.K J xs vs
 | .bor xs,v=>∃a vs,v=.ref a∧cA c.K c.H0 a vs∧aG c.K J xs vs
theorem pV.ext {c:C}{J H J' H':Hp}(e:Ext J H J' H'):∀{x:S}{v:V},pV c J H x v→pV c J' H' x v
 | .d x,v,h=>Rep.mono e.j h
 | .own xs,v,⟨a,vs,h1,h2,h3,h4,h5⟩=>⟨a,vs,h1,e.h _ _ h2,e.frz a (by rw [h2];intro z;cases z) h3,h4,aG.mono e.j h5⟩
 | .bor xs,v,⟨a,vs,h1,h2,h3⟩=>⟨a,vs,h1,h2,aG.mono e.j h3⟩
structure SR (c:C) (J H:Hp) (σ:L2.St) (env:Ev):Prop where
 hp:HI c J H
 len:env.length=σ.length
 at_:∀(i:Nat) (x:S),env[i]?=some (some x)→∃v,σ[i]?=some (some v)∧pV c J H x v
 sep:∀(i j:Nat) (xs ys:List D) (v:V),i≠j→env[i]?=some (some (.own xs))→env[j]?=some (some (.own ys))→σ[i]?=some (some v)→σ[j]?≠some (some v)
theorem SR.ext {c:C}{J H J' H':Hp}{σ:L2.St}{env:Ev}(h:SR c J H σ env) (e:Ext J H J' H'):SR c J' H' σ env:=
 ⟨h.hp.ext e,h.len,fun i x q=>let ⟨v,q1,q2⟩:=h.at_ i x q;⟨v,q1,q2.ext e⟩,h.sep⟩
def RR (c:C) (He J H:Hp):R→V→Prop
 | .d x,v=>Rep c.K J x v
 | .l .fresh xs,v=>∃a vs,v=.ref a∧H a=some (.lst vs)∧J a=none∧He a=none∧aG c.K J xs vs
 | .l .own xs,v=>∃a vs,v=.ref a∧H a=some (.lst vs)∧J a=none∧c.H0 a=none∧aG c.K J xs vs
 | .l .bor xs,v=>∃a vs,v=.ref a∧cA c.K c.H0 a vs∧aG c.K J xs vs
theorem RR.ext {c:C}{He J H J' H':Hp}(e:Ext J H J' H'):∀{x:R}{v:V},RR c He J H x v→RR c He J' H' x v
 | .d x,v,h=>Rep.mono e.j h
 | .l .fresh xs,v,⟨a,vs,h1,h2,h3,h4,h5⟩=>⟨a,vs,h1,e.h _ _ h2,e.frz a (by rw [h2];intro z;cases z) h3,h4,aG.mono e.j h5⟩
 | .l .own xs,v,⟨a,vs,h1,h2,h3,h4,h5⟩=>⟨a,vs,h1,e.h _ _ h2,e.frz a (by rw [h2];intro z;cases z) h3,h4,aG.mono e.j h5⟩
 | .l .bor xs,v,⟨a,vs,h1,h2,h3⟩=>⟨a,vs,h1,h2,aG.mono e.j h3⟩
theorem RR.from {c:C}{He He' J H:Hp}(e:aX He He'):∀{x:R}{v:V},RR c He' J H x v→RR c He J H x v
 | .d x,v,h=>h
 | .l .fresh xs,v,⟨a,vs,h1,h2,h3,h4,h5⟩=>⟨a,vs,h1,h2,h3,e.free h4,h5⟩
 | .l .own xs,v,h=>h
 | .l .bor xs,v,h=>h
def jw:R→M (List D)
 | .d (.lst xs)=>.ok xs
 | .l _ xs=>.ok xs
 | _=>.bad
def toD:R→M D
 | .d x=>.ok x
 | .l .fresh xs=>.ok (.lst xs)
 | _=>.bad
theorem RR.list {c:C}{He J H:Hp}(hp:HI c J H):∀{r:R}{v:V}{xs:List D},RR c He J H r v→jw r=.ok xs→∃a vs,v=.ref a∧cA c.K H a vs∧aG c.K J xs vs
 | .d (.lst ys),v,xs,h,e=>by
  cases e
  cases h with
  | lst h hs=>exact ⟨_,_,rfl,hp.sub.seq h,hs⟩
 | .l .fresh ys,v,xs,⟨a,vs,h1,h2,h3,h4,h5⟩,e=>by cases e;exact ⟨a,vs,h1,cA.of h2,h5⟩
 | .l .own ys,v,xs,⟨a,vs,h1,h2,h3,h4,h5⟩,e=>by cases e;exact ⟨a,vs,h1,cA.of h2,h5⟩
 | .l .bor ys,v,xs,⟨a,vs,h1,h2,h3⟩,e=>by cases e;exact ⟨a,vs,h1,hp.ent.seq h2,h3⟩
 | .d .non,_,_,_,e=>nomatch e
 | .d (.bl _),_,_,_,e=>nomatch e
 | .d (.int _),_,_,_,e=>nomatch e
 | .d (.str _),_,_,_,e=>nomatch e
 | .d (.tup _),_,_,_,e=>nomatch e
 | .d .emp,_,_,_,e=>nomatch e
 | .d (.dct _ _),_,_,_,e=>nomatch e
theorem freeze {c:C}{Je He J H:Hp}(x:Ext Je He J H):∀{r:R}{v:V}{d:D},RR c He J H r v→toD r=.ok d→∃J',Ext Je He J' H∧aX J J'∧Rep c.K J' d v
 | .d y,v,d,h,e=>by cases e;exact ⟨J,x,aX.refl J,h⟩
 | .l .fresh ys,v,d,⟨a,vs,h1,h2,h3,h4,h5⟩,e=>by
  cases e
  subst h1
  have s1:aX J (upd J a (.lst vs)):=gK h3 _
  refine ⟨upd J a (.lst vs),⟨x.h,x.j.trans s1,fun b u q=>?_,fun b hb q=>?_⟩,s1,.lst (.inl (.inl b9)) (aG.mono s1 h5)⟩
  ·by_cases hb:b=a
   ·subst hb;rw [b9] at q;cases q;exact h2
   ·rw [bC hb] at q;exact x.sub b u q
  ·have:b≠a:=fun z=>hb (z▸h4)
   rw [bC this];exact x.frz b hb q
 | .l .own _,_,_,_,e=>nomatch e
 | .l .bor _,_,_,_,e=>nomatch e
abbrev G (α:Type):=Ev→M α
def tD (c:C) (g:G R):TE:=fun σ H Q=>∃J env,SR c J H σ env∧cO (g env) (fun r=>∀v J' H',Ext J H J' H'→RR c H J' H' r v→Q v H') c.T
def PD (X:Cx) (c:C) (e:Expr) (g:G R):Prop:=PE X e (tD c g)
def tB (c:C) (g:G Bool):TT:=fun σ H Q=>∃J env,SR c J H σ env∧cO (g env) (fun b=>∀J' H',Ext J H J' H'→Q b H') c.T
def PB (X:Cx) (c:C) (e:Expr) (g:G Bool):Prop:=PT X e (tB c g)
def lG (c:C) (He J H:Hp):List R→List V→Prop
 | [],vs=>vs=[]
 | r::rs,vs=>∃v us,vs=v::us∧RR c He J H r v∧lG c He J H rs us
def tA (c:C) (g:G (List R)):TA:=fun σ H Q=>∃J env,SR c J H σ env∧cO (g env) (fun rs=>∀vs J' H',Ext J H J' H'→lG c H J' H' rs vs→Q vs H') c.T
def iF (X:Cx) (c:C) (es:List Expr) (g:G (List R)):Prop:=PA X es (tA c g)
def Ms (c:C) (g:G (List D)):TA:=fun σ H Q=>∃J env,SR c J H σ env∧cO (g env) (fun ds=>∀vs J' H',Ext J H J' H'→aG c.K J' ds vs→Q vs H') c.T
def yE (X:Cx) (c:C) (es:List Expr) (g:G (List D)):Prop:=PA X es (Ms c g)
inductive O where
 | nx (e:Ev) | rt (r:R) | bk (e:Ev) | ct (e:Ev)
def RF (c:C) (J H:Hp):R→V→Prop
 | .d x,v=>Rep c.K J x v
 | .l _ xs,v=>∃a vs,v=.ref a∧H a=some (.lst vs)∧J a=none∧c.H0 a=none∧aG c.K J xs vs
def oP (c:C) (J:Hp) (E:Ends):O→Prop
 | .nx e=>∀σ' J' H',aX J J'→SR c J' H' σ' e→E.nx σ' H'
 | .rt r=>∀v J' H',aX J J'→HI c J' H'→RF c J' H' r v→E.rt v H'
 | .bk e=>∀σ' J' H',aX J J'→SR c J' H' σ' e→E.bk σ' H'
 | .ct e=>∀σ' J' H',aX J J'→SR c J' H' σ' e→E.ct σ' H'
def tS (c:C) (g:G O):TS:=fun E σ H=>∃J env,SR c J H σ env∧cO (g env) (oP c J E) c.T
def jd (X:Cx) (c:C) (st:Stmt) (g:G O):Prop:=PS X st (tS c g)
def nR (X:Cx) (c:C) (st:List Stmt) (g:G O):Prop:=kc X st (tS c g)
theorem oP.mono {c:C}{J J1:Hp}{E:Ends}(e:aX J J1):∀{o:O},oP c J E o→oP c J1 E o
 | .nx _,h=>fun σ' J' H' q r=>h σ' J' H' (e.trans q) r
 | .rt _,h=>fun σ' J' H' q r=>h σ' J' H' (e.trans q) r
 | .bk _,h=>fun σ' J' H' q r=>h σ' J' H' (e.trans q) r
 | .ct _,h=>fun σ' J' H' q r=>h σ' J' H' (e.trans q) r
theorem fk {X:Cx}{e:Expr}{t t':TE}(h:PE X e t) (k:∀σ H Q,t' σ H Q→t σ H Q):PE X e t':=fun pins s σ H Q I q=>h pins s σ H Q I (k σ H Q q)
theorem u7 {X:Cx}{e:Expr}{t t':TT}(h:PT X e t) (k:∀σ H Q,t' σ H Q→t σ H Q):PT X e t':=fun pins s σ H Q I q=>h pins s σ H Q I (k σ H Q q)
theorem uZ {X:Cx}{es:List Expr}{t t':TA}(h:PA X es t) (k:∀σ H Q,t' σ H Q→t σ H Q):PA X es t':=fun pos pins s σ H Q I q=>h pos pins s σ H Q I (k σ H Q q)
theorem jT {X:Cx}{st:Stmt}{t t':TS}(h:PS X st t) (k:∀D σ H,t' D σ H→t D σ H):PS X st t':=fun pins s σ H D I q=>h pins s σ H D I (k D σ H q)
theorem Ci {X:Cx}{st:List Stmt}{t t':TS}(h:kc X st t) (k:∀D σ H,t' D σ H→t D σ H):kc X st t':=fun pins s σ H D I q=>h pins s σ H D I (k D σ H q)
section
variable {X:Cx}{c:C}{e a b:Expr}{ga gb:G R}{pos:Pos}
def S.rd:S→R
 | .d x=>.d x
 | .own xs=>.l .own xs
 | .bor xs=>.l .bor xs
def af (i:Nat):G R:=fun env=>match env[i]? with
 | some (some x)=>.ok x.rd
 | _=>.bad
theorem pV.rd {He J H:Hp}:∀{x:S}{v:V},pV c J H x v→RR c He J H x.rd v
 | .d _,_,h=>h
 | .own _,_,h=>h
 | .bor _,_,h=>h
theorem Gr {x:Str}{i:Nat}(h:PE X (.Name x pos) (Kc i)):PD X c (.Name x pos) (af i):=fk h fun σ H Q ⟨J,env,sr,w⟩=>by
 unfold af at w
 cases q:env[i]? with
 | none=>rw [q] at w;exact w.elim
 | some o=>
  cases o with
  | none=>rw [q] at w;exact w.elim
  | some x=>
   rw [q] at w
   obtain ⟨v,h1,h2⟩:=sr.at_ i x q
   exact ⟨v,h1,w v J H (Ext.refl sr.hp.sub) h2.rd⟩
theorem Jl (i:Nat){x:Str}(hN:X.N[i]?=some x:=by rfl) (hv:nE X.env.scope x:=by first | exact Or.inl rfl | exact Or.inr (Or.inl rfl) | exact Or.inr (Or.inr rfl)) (hd:(x == ("__debug__":Str))=false:=by decide)
  (hcd:(x == ("__classdict__":Str))=false:=by decide):PD X c (.Name x pos) (af i):=Gr (oA hN hv hd hcd)
def gC (d:D):G R:=fun _=>.ok (.d d)
theorem qX {d:D}{v:V}(hr:∀J,Rep c.K J d v) (h:PE X e (tC v)):PD X c e (gC d):=fk h fun σ H Q ⟨J,env,sr,w⟩=>w v J H (Ext.refl sr.hp.sub) (hr J)
theorem I0 {i:Int}{j:Nat}:PD X c (.Constant (.int i) j pos) (gC (.int i)):=qX (fun _=>.int i) Jo
theorem KU {i:Bool}{j:Nat}:PD X c (.Constant (.bool i) j pos) (gC (.bl i)):=qX (fun _=>.bl i) K1
theorem Jd {j:Nat}:PD X c (.Constant .none j pos) (gC .non):=qX (fun _=>.non) Jq
theorem Ji {x:Str}{j:Nat}:PD X c (.Constant (.str x) j pos) (gC (.str x)):=qX (fun _=>.str x) Jt
def BD (c:C) (r:R2) (f:R→R→M R):Prop:=∀(He He' J H:Hp) (x y:R) (u v:V) (Q:VK),HI c J H→RR c He J H x u→RR c He' J H y v→
 cO (f x y) (fun z=>∀w J' H',Ext J H J' H'→RR c H J' H' z w→Q w H') c.T→r u v H Q
def g2 (f:R→R→M R) (ga gb:G R):G R:=fun env=>ga env >>= fun x=>gb env >>= fun y=>f x y
theorem two {P:R→R→M R}{σ:L2.St}{H:Hp}{k:V→V→Hp→Prop}{Q:VK}{J:Hp}{env:Ev}(sr:SR c J H σ env)
  (w:cO (g2 P ga gb env) (fun r=>∀v J' H',Ext J H J' H'→RR c H J' H' r v→Q v H') c.T)
  (hk:∀x y u v J2 H2,SR c J2 H2 σ env→Ext J H J2 H2→RR c H J2 H2 x u→RR c H J2 H2 y v→cO (P x y) (fun z=>∀w J' H',Ext J2 H2 J' H'→RR c H2 J' H' z w→Q w H') c.T→k u v H2):
  tD c ga σ H fun u H1=>tD c gb σ H1 fun v H2=>k u v H2:=by
 refine ⟨J,env,sr,aE (aM w) fun x wx u J1 H1 e1 r1=>?_⟩
 have sr1:=sr.ext e1
 refine ⟨J1,env,sr1,aE (aM wx) fun y wy v J2 H2 e2 r2=>?_⟩
 exact hk x y u v J2 H2 (sr1.ext e2) (e1.trans e2) (r1.ext e2) (RR.from e1.h r2) (aE wy fun z q w J' H' e3 r3=>q w J' H' ((e1.trans e2).trans e3) (RR.from (e1.h.trans e2.h) r3))
theorem DO {t:TE}{r:R2}{f:R→R→M R}(ht:PE X e t) (heq:t=Cv r (tD c ga) (tD c gb)) (hf:BD c r f):PD X c e (g2 f ga gb):=by
 subst heq
 exact fk ht fun σ H Q ⟨J,env,sr,w⟩=>two (k:=fun u v H2=>r u v H2 Q) sr w fun x y u v J2 H2 sr2 e2 r1 r2 q=>hf H H J2 H2 x y u v Q sr2.hp r1 r2 q
theorem m_ {op:Operator}{r:R2}{f:R→R→M R}(ho:cR X (binaryOp op) r) (hf:BD c r f) (ha:PD X c a ga) (hb:PD X c b gb):PD X c (.BinOp a op b pos) (g2 f ga gb):=DO (K3 ho ha hb) rfl hf
theorem B5 {op:CmpOp}{r:R2}{f:R→R→M R}(ho:cR X (compareOp op) r) (hf:BD c r f) (ha:PD X c a ga) (hb:PD X c b gb) (hm:behindInMarks op b=false:=by first | exact wU _ | rfl):PD X c (.Compare a [op] [b] pos) (g2 f ga gb):=DO (Gx ho ha hb hm) rfl hf
theorem ET {r:R2}{f:R→R→M R}(ho:nQ X r) (hf:BD c r f) (ha:PD X c a ga) (hb:PD X c b gb) (hs:jW b:=by exact fun _ _=>rfl):PD X c (.Subscript a b pos) (g2 f ga gb):=DO (K2 ho ha hb hs) rfl hf
theorem BD.or {r r':R2}{f f':R→R→M R}(p:R→R→Bool) (h:BD c r f) (h':BD c r' f'):BD c (fun x y H Q=>r x y H Q∨r' x y H Q) (fun x y=>if p x y then f x y else f' x y):=by
 intro He He' J H x y u v Q hp rx ry w
 simp only at w
 cases q:p x y with
 | true=>rw [q] at w;exact .inl (h He He' J H x y u v Q hp rx ry w)
 | false=>rw [q] at w;exact .inr (h' He He' J H x y u v Q hp rx ry w)
def fI (C:Int→Int→Bool) (f:Int→Int→D):R→R→M R
 | .d (.int i),.d (.int j)=>if C i j then .ok (.d (f i j)) else .bad
 | _,_=>.bad
def jM (f:Int→Int→D):R→R→M R
 | .d (.int i),.d (.int j)=>.ok (.d (f i j))
 | _,_=>.bad
theorem zM {P:Int→Int→Prop}{Cb:Int→Int→Bool}{g:Int→Int→V}{f:Int→Int→D}(hC:∀i j,Cb i j=true→P i j) (hr:∀i j J,Rep c.K J (f i j) (g i j)):BD c (rI P g) (fI Cb f):=by
 intro He He' J H x y u v Q hp rx ry w
 unfold fI at w
 split at w
 ·cases rx;cases ry
  rename_i i j
  cases q:Cb i j with
  | true=>rw [q] at w;exact ⟨i,j,rfl,rfl,hC i j q,w _ J H (Ext.refl hp.sub) (hr i j J)⟩
  | false=>rw [q] at w;exact w.elim
 ·exact w.elim
theorem iZ {g:Int→Int→V}{f:Int→Int→D}(hr:∀i j J,Rep c.K J (f i j) (g i j)):BD c (kG g) (jM f):=by
 intro He He' J H x y u v Q hp rx ry w
 unfold jM at w
 split at w
 ·cases rx;cases ry
  rename_i i j
  exact ⟨i,j,rfl,rfl,w _ J H (Ext.refl hp.sub) (hr i j J)⟩
 ·exact w.elim
def below (n:Nat) (j:Int):Bool:=Nat.blt j.natAbs n
theorem dX {n:Nat}{j:Int}:below n j=true↔-(n:Int) < j∧j < n:=by
 unfold below
 rw [Nat.blt_eq]
 omega
def Ag (_ j:Int):Bool:=decide (0 < j) && below 1073741824 j
def Ih (_ j:Int):Bool:=decide (0 < j)
def wG (i j:Int):Bool:=below 18446744073709551616 i || below 18446744073709551616 j
theorem FE {i j:Int}(h:wG i j=true):(-(2 ^ 64) < i∧i < 2 ^ 64)∨(-(2 ^ 64) < j∧j < 2 ^ 64):=by
 unfold wG at h
 rw [Bool.or_eq_true] at h
 exact h.imp dX.mp dX.mp
theorem FD {i j:Int}(h:Ag i j=true):0 < j∧j < 1073741824:=by
 unfold Ag at h
 rw [Bool.and_eq_true] at h
 exact ⟨of_decide_eq_true h.1,(dX.mp h.2).2⟩
def Dm (i j:Int):Bool:=decide (0≤j) && below 1000001 j && below 18446744073709551616 i
theorem FF {i j:Int}(h:Dm i j=true):0≤j∧j≤1000000∧i.natAbs < 2 ^ 64:=by
 unfold Dm at h
 rw [Bool.and_eq_true,Bool.and_eq_true] at h
 have h2:=dX.mp h.1.2
 have h3:=dX.mp h.2
 exact ⟨of_decide_eq_true h.1.1,by omega,by omega⟩
abbrev C_:R→R→M R:=jM fun i j=>.int (i + j)
abbrev De:R→R→M R:=jM fun i j=>.int (i - j)
abbrev HN:R→R→M R:=fI wG fun i j=>.int (i * j)
abbrev fT:R→R→M R:=fI Ag fun i j=>.int (i / j)
abbrev dF:R→R→M R:=fI Ih fun i j=>.int (i % j)
abbrev Dc:R→R→M R:=fI Dm fun i j=>.int (i ^ j.toNat)
theorem Jj (ha:PD X c a ga) (hb:PD X c b gb):PD X c (.BinOp a .Sub b pos) (g2 De ga gb):=m_ IE (iZ fun _ _ _=>.int _) ha hb
theorem IY (ha:PD X c a ga) (hb:PD X c b gb):PD X c (.BinOp a .FloorDiv b pos) (g2 fT ga gb):=m_ FY (zM (fun i j h=>FD h) fun _ _ _=>.int _) ha hb
theorem Jb (ha:PD X c a ga) (hb:PD X c b gb):PD X c (.BinOp a .Mod b pos) (g2 dF ga gb):=m_ IA (zM (fun i j h=>by unfold Ih at h;exact of_decide_eq_true h) fun _ _ _=>.int _) ha hb
theorem Jg (ha:PD X c a ga) (hb:PD X c b gb):PD X c (.BinOp a .Pow b pos) (g2 Dc ga gb):=m_ ID (zM (fun i j h=>FF h) fun _ _ _=>.int _) ha hb
def qA:R→R→M R
 | .d (.str i),.d (.str j)=>if i.length + j.length≤sizeLine then .ok (.d (.str (i++j))) else .bad
 | _,_=>.bad
theorem GZ {K:PySem.W.Frag}{J:Hp}{ds:List D}{vs:List V}{i:Int}{d:D}(h:aG K J ds vs) (e:kN ds i=some d):∃v,kN vs i=some v∧Rep K J d v:=by
 unfold kN at e ⊢
 rw [h.length] at e
 cases q:wC vs.length i with
 | none=>rw [q] at e;cases e
 | some j=>rw [q] at e;exact h.get e
theorem mH {x:R}{f:List D→M R}{Q:R→Prop}{T:Exc→Prop}(w:cO (jw x >>= f) Q T):∃xs,jw x=.ok xs∧cO (f xs) Q T:=by
 cases q:jw x with
 | bad=>rw [q] at w;exact w.elim
 | ok xs=>rw [q] at w;exact ⟨xs,rfl,w⟩
 | exc z=>unfold jw at q;split at q <;> cases q
def wB:R→Bool
 | .l .fresh _=>true
 | .l .own _=>true
 | _=>false
def qB (x y:R):M R:=if wB x && wB y then jw x >>= fun xs=>jw y >>= fun ys=>if xs.length + ys.length≤sizeLine then .ok (.l .fresh (xs++ys)) else .bad else .bad
theorem RR.made {He J H:Hp}:∀{r:R}{v:V},wB r=true→RR c He J H r v→∃a vs xs,jw r=.ok xs∧v=.ref a∧H a=some (.lst vs)∧aG c.K J xs vs
 | .l .fresh xs,v,_,⟨a,vs,h1,h2,h3,h4,h5⟩=>⟨a,vs,xs,rfl,h1,h2,h5⟩
 | .l .own xs,v,_,⟨a,vs,h1,h2,h3,h4,h5⟩=>⟨a,vs,xs,rfl,h1,h2,h5⟩
 | .l .bor _,_,e,_=>nomatch e
 | .d _,_,e,_=>nomatch e
theorem i9 {J H:Hp}{xs:List D}{vs:List V}{p:Addr}(hp:HI c J H) (e:H p=none) (h:aG c.K J xs vs):RR c H J (upd H p (.lst vs)) (.l .fresh xs) (.ref p):=
 ⟨p,vs,rfl,b9,hp.sub.free e,e,h⟩
def CD (c:C) (r:List V→Hp→VK→Prop) (f:List R→M R):Prop:=∀(He J H:Hp) (xs:List R) (vs:List V) (Q:VK),HI c J H→lG c He J H xs vs→
 cO (f xs) (fun z=>∀w J' H',Ext J H J' H'→RR c H J' H' z w→Q w H') c.T→r vs H Q
def gN (f:List R→M R) (gs:G (List R)):G R:=fun env=>gs env >>= f
theorem Ax {t:TE}{ta:TA}{r:List V→Hp→VK→Prop}{f:List R→M R}{gs:G (List R)}(ht:PE X e t) (heq:t=fun σ H Q=>tA c gs σ H fun vs H1=>r vs H1 Q) (hf:CD c r f):PD X c e (gN f gs):=by
 subst heq
 refine fk ht fun σ H Q ⟨J,env,sr,w⟩=>⟨J,env,sr,aE (aM w) fun rs w vs J1 H1 e1 r1=>?_⟩
 exact hf H J1 H1 rs vs Q (sr.hp.ext e1) r1 (aE w fun z q v J' H' e2 r2=>q v J' H' (e1.trans e2) (RR.from e1.h r2))
def aD:G (List R):=fun _=>.ok []
def aq (g:G R) (gs:G (List R)):G (List R):=fun env=>g env >>= fun x=>gs env >>= fun xs=>.ok (x::xs)
theorem Ga:iF X c [] aD:=uZ ia fun σ H Q ⟨J,env,sr,w⟩=>w [] J H (Ext.refl sr.hp.sub) rfl
theorem lG.from {He He' J H:Hp}(e:aX He He'):∀{xs:List R}{vs:List V},lG c He' J H xs vs→lG c He J H xs vs
 | [],_,h=>h
 | _::_,_,⟨v,us,h1,h2,h3⟩=>⟨v,us,h1,RR.from e h2,lG.from e h3⟩
theorem DI {es:List Expr}{g:G R}{gs:G (List R)}(h:PD X c e g) (hs:iF X c es gs) (hst:starEach (e::es) X.env=(false,eval e X.env)::starEach es X.env:=by rfl):iF X c (e::es) (aq g gs):=
 uZ (fD h hs hst) fun σ H Q ⟨J,env,sr,w⟩=>by
  refine ⟨J,env,sr,aE (aM w) fun x wx u J1 H1 e1 r1=>?_⟩
  refine ⟨J1,env,sr.ext e1,aE (aM wx) fun xs wy us J2 H2 e2 r2=>?_⟩
  exact wy (u::us) J2 H2 (e1.trans e2) ⟨u,us,rfl,r1.ext e2,lG.from e1.h r2⟩
theorem kC {id:String}{x:Str}{p:Pos}{es:List Expr}{r:List V→Hp→VK→Prop}{f:List R→M R}{gs:G (List R)}(hc:bN X (.builtin id) r) (hf:CD c r f) (hv:bootBuiltins x=some (.builtin id)) (hm:X.mg x=none) (ha:iF X c (e::es) gs)
  (hg:Gl X x:=by rfl) (hn:x≠"__name__":=by decide) (hdb:(x == ("__debug__":Str))=false:=by decide)
  (he:starEach (e::es) X.env=(false,eval e X.env)::starEach es X.env:=by rfl) (hpl:(backTo pos (starEach es X.env)).any (·.1)=false:=by rfl):PD X c (.Call (.Name x p) (e::es) [] pos) (gN f gs):=
 Ax (ta:=xP) (nc hc hg hm hv ha hn hdb he hpl) rfl hf
theorem B4 {T:String}{x:Str}{p:Pos}{es:List Expr}{r:List V→Hp→VK→Prop}{f:List R→M R}{gs:G (List R)}(hc:bN X (.type T) r) (hf:CD c r f) (hv:bootBuiltins x=some (.type T)) (hm:X.mg x=none) (ha:iF X c (e::es) gs)
  (hg:Gl X x:=by rfl) (hn:x≠"__name__":=by decide) (hdb:(x == ("__debug__":Str))=false:=by decide)
  (he:starEach (e::es) X.env=(false,eval e X.env)::starEach es X.env:=by rfl) (hpl:(backTo pos (starEach es X.env)).any (·.1)=false:=by rfl):PD X c (.Call (.Name x p) (e::es) [] pos) (gN f gs):=
 Ax (ta:=xP) (jA hc hg hm hv ha hn hdb he hpl) rfl hf
end
section
variable {X:Cx}{c:C}{e a b:Expr}{es:List Expr}{ga gb g:G R}{pos:Pos}
def aW:G (List D):=fun _=>.ok []
def aB (g:G R) (gs:G (List D)):G (List D):=fun env=>g env >>= fun x=>toD x >>= fun d=>gs env >>= fun ds=>.ok (d::ds)
theorem Gb:yE X c [] aW:=uZ ia fun σ H Q ⟨J,env,sr,w⟩=>w [] J H (Ext.refl sr.hp.sub) .nil
theorem j_ {α:Type}{x:R}{f:D→M α}{Q:α→Prop}{T:Exc→Prop}(w:cO (toD x >>= f) Q T):∃d,toD x=.ok d∧cO (f d) Q T:=by
 cases q:toD x with
 | bad=>rw [q] at w;exact w.elim
 | ok xs=>rw [q] at w;exact ⟨xs,rfl,w⟩
 | exc z=>unfold toD at q;split at q <;> cases q
theorem DJ {gs:G (List D)}(h:PD X c e g) (hs:yE X c es gs) (hst:starEach (e::es) X.env=(false,eval e X.env)::starEach es X.env:=by rfl):yE X c (e::es) (aB g gs):=
 uZ (fD h hs hst) fun σ H Q ⟨J,env,sr,w⟩=>by
  refine ⟨J,env,sr,aE (aM w) fun x wx u J1 H1 e1 r1=>?_⟩
  obtain ⟨d,q,wx⟩:=j_ wx
  obtain ⟨J1',e1',s1,rd⟩:=freeze e1 r1 q
  refine ⟨J1',env,sr.ext e1',aE (aM wx) fun xs wy us J2 H2 e2 r2=>?_⟩
  exact wy (u::us) J2 H2 (e1'.trans e2) (.cons (rd.mono e2.j) r2)
def bI (gs:G (List D)):G R:=fun env=>gs env >>= fun ds=>if ds.length≤sizeLine then .ok (.d (.tup ds)) else .bad
def fC (gs:G (List D)):G R:=fun env=>gs env >>= fun ds=>if ds.length≤sizeLine then .ok (.l .fresh ds) else .bad
theorem oG {J H:Hp}{xs:List D}{vs:List V}{p:Addr}(hp:HI c J H) (e:H p=none) (h:aG c.K J xs vs):Rep c.K (upd J p (.tup vs)) (.tup xs) (.ref p):=
 .tup (.inl (.inl b9)) (h.mono (gK (hp.sub.free e) _))
theorem Jk {k}{gs:G (List D)}(h:yE X c es gs):PD X c (.Tuple es k pos) (bI gs):=fk (Ju h) fun σ H Q ⟨J,env,sr,w⟩=>by
 refine ⟨J,env,sr,aE (aM w) fun ds wd vs J1 H1 e1 r1=>?_⟩
 split at wd
 ·rename_i hz
  rw [r1.length] at hz
  exact ⟨hz,fun p hp=>wd _ _ _ (e1.trans (Ext.newJ e1.sub hp _)) (oG (sr.hp.ext e1) hp r1)⟩
 ·exact wd.elim
theorem Ja {gs:G (List D)}(h:yE X c es gs):PD X c (.List es pos) (fC gs):=fk (Jp h) fun σ H Q ⟨J,env,sr,w⟩=>by
 refine ⟨J,env,sr,aE (aM w) fun ds wd vs J1 H1 e1 r1=>?_⟩
 split at wd
 ·rename_i hz
  rw [r1.length] at hz
  exact ⟨hz,fun p hp=>wd _ _ _ (e1.trans (Ext.new e1.sub hp _)) (RR.from e1.h (i9 (sr.hp.ext e1) hp r1))⟩
 ·exact wd.elim
def iX:R→M (List D)
 | .d (.tup xs)=>.ok xs
 | .d (.lst xs)=>.ok xs
 | .l _ xs=>.ok xs
 | _=>.bad
theorem oU {He J H:Hp}(hp:HI c J H):∀{r:R}{v:V}{xs:List D},RR c He J H r v→iX r=.ok xs→∃a vs,v=.ref a∧(cA c.K H a vs∨cT c.K H a vs)∧aG c.K J xs vs
 | .d (.tup ys),v,xs,h,e=>by
  cases e
  cases h with
  | tup h hs=>exact ⟨_,_,rfl,.inr (eU hp.sub h),hs⟩
 | .d (.lst ys),v,xs,h,e=>let ⟨a,vs,h1,h2,h3⟩:=RR.list hp h e;⟨a,vs,h1,.inl h2,h3⟩
 | .l m ys,v,xs,h,e=>let ⟨a,vs,h1,h2,h3⟩:=RR.list hp h e;⟨a,vs,h1,.inl h2,h3⟩
 | .d .non,_,_,_,e=>nomatch e
 | .d (.bl _),_,_,_,e=>nomatch e
 | .d (.int _),_,_,_,e=>nomatch e
 | .d (.str _),_,_,_,e=>nomatch e
 | .d .emp,_,_,_,e=>nomatch e
 | .d (.dct _ _),_,_,_,e=>nomatch e
theorem mJ {α:Type}{x:R}{f:List D→M α}{Q:α→Prop}{T:Exc→Prop}(w:cO (iX x >>= f) Q T):∃xs,iX x=.ok xs∧cO (f xs) Q T:=by
 cases q:iX x with
 | bad=>rw [q] at w;exact w.elim
 | ok xs=>rw [q] at w;exact ⟨xs,rfl,w⟩
 | exc z=>unfold iX at q;split at q <;> cases q
def fB:List R→M R
 | [.d (.str z)]=>if z.length≤sizeLine then .ok (.d (.int z.length)) else .bad
 | [r]=>iX r >>= fun xs=>.ok (.d (.int xs.length))
 | _=>.bad
theorem lG.one {He J H:Hp}{r:R}{vs:List V}(h:lG c He J H [r] vs):∃v,vs=[v]∧RR c He J H r v:=by
 obtain ⟨v,us,rfl,h1,h2⟩:=h
 cases h2
 exact ⟨v,rfl,h1⟩
theorem I_ {p:Pos}{gs:G (List R)}(ha:iF X c (e::es) gs) (hm:X.mg "len"=none) (hK:X.K=c.K:=by rfl) (hg:Gl X "len":=by rfl)
  (he:starEach (e::es) X.env=(false,eval e X.env)::starEach es X.env:=by rfl) (hpl:(backTo pos (starEach es X.env)).any (·.1)=false:=by rfl):PD X c (.Call (.Name "len" p) (e::es) [] pos) (gN fB gs):=
 kC (vQ.or vP) (by
  intro He J H xs vs Q hp rs w
  unfold fB at w
  split at w
  ·obtain ⟨v,rfl,r⟩:=rs.one
   cases r
   split at w
   ·rename_i hz;exact .inl ⟨_,rfl,hz,w _ J H (Ext.refl hp.sub) (.int _)⟩
   ·exact w.elim
  ·obtain ⟨v,rfl,r⟩:=rs.one
   obtain ⟨xs,q,w⟩:=mJ w
   obtain ⟨p,vs,rfl,hq,hs⟩:=oU hp r q
   have w':=w (.int vs.length) J H (Ext.refl hp.sub) (by rw [hs.length];exact .int _)
   exact .inr ⟨p,vs,rfl,by rw [hK];exact hq,w'⟩
  ·exact w.elim) PySem.boot_len hm ha hg (by decide) (by decide) he hpl
def b_:List R→M R
 | [r]=>iX r >>= fun xs=>.ok (.d (.tup xs))
 | _=>.bad
theorem yg:bootBuiltins "tuple"=some (.type "tuple"):=by decide +kernel
theorem zR:bootBuiltins "list"=some (.type "list"):=by decide +kernel
theorem DW {p:Pos}{gs:G (List R)}(ha:iF X c (e::es) gs) (hm:X.mg "tuple"=none) (hK:X.K=c.K:=by rfl) (hg:Gl X "tuple":=by rfl)
  (he:starEach (e::es) X.env=(false,eval e X.env)::starEach es X.env:=by rfl) (hpl:(backTo pos (starEach es X.env)).any (·.1)=false:=by rfl):PD X c (.Call (.Name "tuple" p) (e::es) [] pos) (gN b_ gs):=
 B4 ux (by
  intro He J H xs vs Q hp rs w
  unfold b_ at w
  split at w
  ·obtain ⟨v,rfl,r⟩:=rs.one
   rename_i r0
   obtain ⟨xs,q,w⟩:=mJ w
   cases r0 with
   | d y=>
    cases y with
    | tup ys=>
     cases q
     cases r with
     | tup h hs=>exact ⟨_,_,rfl,.inr ⟨by rw [hK];exact eU hp.sub h,w _ J H (Ext.refl hp.sub) (.tup h hs)⟩⟩
    | lst ys=>
     cases q
     obtain ⟨p,vs,rfl,hq,hs⟩:=RR.list hp r rfl
     exact ⟨p,vs,rfl,.inl ⟨by rw [hK];exact hq,fun l hl=>w _ _ _ (Ext.newJ hp.sub hl _) (oG hp hl hs)⟩⟩
    | _=>cases q
   | l m ys=>
    cases q
    obtain ⟨p,vs,rfl,hq,hs⟩:=RR.list hp r rfl
    exact ⟨p,vs,rfl,.inl ⟨by rw [hK];exact hq,fun l hl=>w _ _ _ (Ext.newJ hp.sub hl _) (oG hp hl hs)⟩⟩
  ·exact w.elim) yg hm ha hg (by decide) (by decide) he hpl
def bx (g:G R):G Bool:=fun env=>g env >>= fun r=>match r with
 | .d (.bl k)=>.ok k
 | _=>.bad
theorem IS (h:PD X c e g) (he:∀whole,isTrue e X.env whole=(do let v ←whole;standAt e.pos;holding [v] (truthy v)):=by intro _;rfl):PB X c e (bx g):=u7 (JC h he) fun σ H Q ⟨J,env,sr,w⟩=>by
 refine ⟨J,env,sr,aE (aM w) fun r wr v J1 H1 e1 r1=>?_⟩
 split at wr
 ·cases r1;exact ⟨_,rfl,wr J1 H1 e1⟩
 ·exact wr.elim
theorem kB {op:CmpOp}{r:R2}{f:R→R→M R}(ho:cR X (compareOp op) r) (hf:BD c r f) (ha:PD X c a ga) (hb:PD X c b gb) (hm:behindInMarks op b=false:=by first | exact wU _ | rfl):PB X c (.Compare a [op] [b] pos) (bx (g2 f ga gb)):=
 u7 (GI ho ha hb hm) fun σ H Q ⟨J,env,sr,w⟩=>by
  have w2:=aM w
  refine two (k:=fun u v H2=>r u v H2 fun z H3=>∃k,z=.bl k∧Q k H3) (Q:=fun z H3=>∃k,z=.bl k∧Q k H3) sr (aE w2 fun r0 wr v J1 H1 e1 r1=>?_)
   fun x y u v J2 H2 sr2 e2 r1 r2 q=>hf H H J2 H2 x y u v _ sr2.hp r1 r2 q
  split at wr
  ·cases r1;exact ⟨_,rfl,wr J1 H1 e1⟩
  ·exact wr.elim
def ji (g h:G Bool):G Bool:=fun env=>g env >>= fun k=>if k=true then h env else .ok false
def kr (g h:G Bool):G Bool:=fun env=>g env >>= fun k=>if k=true then .ok true else h env
def g7 (g:G Bool):G Bool:=fun env=>g env >>= fun k=>.ok (!k)
def pC (X:Cx) (c:C) (e:Expr) (g:G Bool):Prop:=PW X e (tB c g)
variable {t u:G Bool}{rest:List Expr}
theorem pC.pb (h:pC X c e t):PB X c e t:=PW.pt h
theorem Gd (h:PB X c a t):pC X c (.BoolOp .And [a] pos) t:=GK h
theorem IP (h:PB X c a t):pC X c (.BoolOp .Or [a] pos) t:=JG h
theorem EW {X:Cx}{e:Expr}{t t':TT}(h:PW X e t) (k:∀σ H Q,t' σ H Q→t σ H Q):PW X e t':=fun wh pins s σ H Q I q=>h wh pins s σ H Q I (k σ H Q q)
theorem IK (h:PB X c a t) (h':pC X c (.BoolOp .And (b::rest) pos) u):pC X c (.BoolOp .And (a::b::rest) pos) (ji t u):=EW (JF h h') fun σ H Q ⟨J,env,sr,w⟩=>by
 refine ⟨J,env,sr,aE (aM w) fun k wk J1 H1 e1=>?_⟩
 cases k with
 | true=>
  rw [if_pos rfl] at wk ⊢
  exact ⟨J1,env,sr.ext e1,aE wk fun k q J2 H2 e2=>q J2 H2 (e1.trans e2)⟩
 | false=>
  rw [if_neg (by decide)] at wk ⊢
  exact wk J1 H1 e1
theorem KS (h:PB X c a t) (h':pC X c (.BoolOp .Or (b::rest) pos) u):pC X c (.BoolOp .Or (a::b::rest) pos) (kr t u):=EW (K6 h h') fun σ H Q ⟨J,env,sr,w⟩=>by
 refine ⟨J,env,sr,aE (aM w) fun k wk J1 H1 e1=>?_⟩
 cases k with
 | true=>
  rw [if_pos rfl] at wk ⊢
  exact wk J1 H1 e1
 | false=>
  rw [if_neg (by decide)] at wk ⊢
  exact ⟨J1,env,sr.ext e1,aE wk fun k q J2 H2 e2=>q J2 H2 (e1.trans e2)⟩
theorem IM (h:PB X c a t):PB X c (.UnaryOp .Not a pos) (g7 t):=u7 (JB h) fun σ H Q ⟨J,env,sr,w⟩=>⟨J,env,sr,aE (aM w) fun k wk J1 H1 e1=>wk J1 H1 e1⟩
def i7 (g h:G R):G R:=fun env=>g env >>= fun r=>match r with
 | .d (.bl true)=>h env
 | .d (.bl false)=>.ok (.d (.bl false))
 | _=>.bad
def oW (g:G R):G R:=fun env=>g env >>= fun r=>match r with
 | .d (.bl k)=>.ok (.d (.bl (!k)))
 | _=>.bad
theorem Gm {op}(h:PD X c a ga):PD X c (.BoolOp op [a] pos) ga:=Js h
theorem IV (h:PD X c a ga) (h':PD X c (.BoolOp .And (b::rest) pos) gb):PD X c (.BoolOp .And (a::b::rest) pos) (i7 ga gb):=fk (Jm h h') fun σ H Q ⟨J,env,sr,w⟩=>by
 refine ⟨J,env,sr,aE (aM w) fun r wr v J1 H1 e1 r1=>?_⟩
 split at wr
 ·cases r1
  exact ⟨true,rfl,H_ ⟨J1,env,sr.ext e1,aE wr fun z q v J2 H2 e2 r2=>q v J2 H2 (e1.trans e2) (RR.from e1.h r2)⟩⟩
 ·cases r1
  exact ⟨false,rfl,HZ (wr _ J1 H1 e1 (.bl _))⟩
 ·exact wr.elim
theorem Jf (h:PD X c a ga):PD X c (.UnaryOp .Not a pos) (oW ga):=fk (Jr h) fun σ H Q ⟨J,env,sr,w⟩=>by
 refine ⟨J,env,sr,aE (aM w) fun r wr v J1 H1 e1 r1=>?_⟩
 split at wr
 ·cases r1
  exact ⟨_,rfl,wr _ J1 H1 e1 (.bl _)⟩
 ·exact wr.elim
end
section
variable {X:Cx}{c:C}{e a b tg:Expr}{es:List Expr}{ga gb g:G R}{pos:Pos}{st:Stmt}{rest:List Stmt}{t u:G O}{tb:G Bool}
def dG:G O:=fun env=>.ok (.nx env)
def aO (t u:G O):G O:=fun env=>t env >>= fun o=>match o with
 | .nx e=>u e
 | o=>.ok o
theorem Gu:nR X c [] dG:=Ci GG fun E σ H ⟨J,env,sr,w⟩=>w σ J H (aX.refl J) sr
theorem DY (h:jd X c st t) (h':nR X c rest u):nR X c (st::rest) (aO t u):=Ci (D9 h h') fun E σ H ⟨J,env,sr,w⟩=>by
 refine ⟨J,env,sr,aE (aM w) fun o wo=>?_⟩
 cases o with
 | nx e=>exact fun σ' J' H' s' sr'=>⟨J',e,sr',aE wo fun o q=>q.mono s'⟩
 | rt r=>exact wo
 | bk e=>exact wo
 | ct e=>exact wo
theorem Gv (h:jd X c st t):nR X c [st] t:=GH h
def jQ (g:G R):G O:=fun env=>g env >>= fun _=>.ok (.nx env)
theorem DM (h:PD X c e g) (hs:swapsWith e none pos.line X.env=pure false:=by rfl):jd X c (.Expr e pos) (jQ g):=jT (o7 h hs) fun E σ H ⟨J,env,sr,w⟩=>
 ⟨J,env,sr,aE (aM w) fun r wr v J1 H1 e1 r1=>wr σ J1 H1 e1.j (sr.ext e1)⟩
def rF:R→M R
 | .d x=>.ok (.d x)
 | .l .fresh xs=>.ok (.l .fresh xs)
 | .l .own xs=>.ok (.l .fresh xs)
 | .l .bor _=>.bad
def bM (g:G R):G O:=fun env=>g env >>= fun r=>rF r >>= fun r=>.ok (.rt r)
theorem RR.rf {J H J1 H1:Hp}(hp:HI c J H):∀{r r':R}{v:V},RR c H J1 H1 r v→rF r=.ok r'→RF c J1 H1 r' v
 | .d x,r',v,h,e=>by cases e;exact h
 | .l .fresh xs,r',v,⟨a,vs,h1,h2,h3,h4,h5⟩,e=>by cases e;exact ⟨a,vs,h1,h2,h3,hp.ent.free h4,h5⟩
 | .l .own xs,r',v,⟨a,vs,h1,h2,h3,h4,h5⟩,e=>by cases e;exact ⟨a,vs,h1,h2,h3,h4,h5⟩
 | .l .bor _,_,_,_,e=>nomatch e
theorem Gh (h:PD X c e g):jd X c (.Return (some e) pos) (bM g):=jT (Jz h) fun E σ H ⟨J,env,sr,w⟩=>by
 refine ⟨J,env,sr,aE (aM w) fun r wr v J1 H1 e1 r1=>?_⟩
 cases q:rF r with
 | bad=>rw [q] at wr;exact wr.elim
 | exc x=>cases r with
  | d _=>cases q
  | l m _=>cases m <;> cases q
 | ok r'=>rw [q] at wr;exact wr v J1 H1 e1.j (sr.hp.ext e1) (RR.rf sr.hp r1 q)
def bR (b:G Bool) (t u:G O):G O:=fun env=>b env >>= fun k=>if k=true then t env else u env
theorem IT {x:Expr}{as bs:List Stmt}(hx:PB X c x tb) (h:nR X c as t) (h':nR X c bs u):jd X c (.If x as bs pos) (bR tb t u):=jT (K5 hx h h') fun E σ H ⟨J,env,sr,w⟩=>by
 refine ⟨J,env,sr,aE (aM w) fun k wk J1 H1 e1=>?_⟩
 cases k with
 | true=>
  rw [if_pos rfl] at wk ⊢
  exact ⟨J1,env,sr.ext e1,aE wk fun o q=>q.mono e1.j⟩
 | false=>
  rw [if_neg (by decide)] at wk ⊢
  exact ⟨J1,env,sr.ext e1,aE wk fun o q=>q.mono e1.j⟩
def toS:R→M S
 | .d x=>.ok (.d x)
 | .l .fresh xs=>.ok (.own xs)
 | .l .bor xs=>.ok (.bor xs)
 | .l .own _=>.bad
theorem gg {α:Type}{l:List (Option α)}{i j:Nat}{x y:α}(h:(l.set i (some x))[j]?=some (some y)):(j=i∧i < l.length∧y=x)∨(j≠i∧l[j]?=some (some y)):=by
 by_cases e:j=i
 ·subst e
  have hj:j < l.length:=by
   have:=(List.getElem?_eq_some_iff.mp h).1
   simpa using this
  rw [List.getElem?_set_self hj] at h
  cases h
  exact .inl ⟨rfl,hj,rfl⟩
 ·rw [List.getElem?_set_ne (Ne.symm e)] at h
  exact .inr ⟨e,h⟩
theorem SR.setD {J H:Hp}{σ:L2.St}{env:Ev}(sr:SR c J H σ env){i:Nat}{x:S}{v:V}(h:pV c J H x v) (hx:∀xs,x≠.own xs):SR c J H (σ.set i (some v)) (env.set i (some x)):=by
 refine ⟨sr.hp,by simpa using sr.len,fun j y q=>?_,fun j k xs ys w hjk q1 q2 q3 q4=>?_⟩
 ·rcases gg q with ⟨rfl,hl,rfl⟩ | ⟨hj,q⟩
  ·exact ⟨v,by rw [List.getElem?_set_self (by rw [←sr.len];exact hl)],h⟩
  ·obtain ⟨w,h1,h2⟩:=sr.at_ j y q
   exact ⟨w,by rw [List.getElem?_set_ne (Ne.symm hj)];exact h1,h2⟩
 ·rcases gg q1 with ⟨rfl,hl,e⟩ | ⟨hj,q1⟩
  ·exact hx xs e.symm
  ·rcases gg q2 with ⟨rfl,hl,e⟩ | ⟨hk,q2⟩
   ·exact hx ys e.symm
   ·rw [List.getElem?_set_ne (Ne.symm hj)] at q3
    rw [List.getElem?_set_ne (Ne.symm hk)] at q4
    exact sr.sep j k xs ys w hjk q1 q2 q3 q4
theorem SR.set {J He:Hp}{σ:L2.St}{env:Ev}(sr:SR c J He σ env){J1 H1:Hp}(e1:Ext J He J1 H1){i:Nat}{r:R}{x:S}{v:V}(h:RR c He J1 H1 r v) (q:toS r=.ok x):SR c J1 H1 (σ.set i (some v)) (env.set i (some x)):=by
 have sr1:=sr.ext e1
 cases r with
 | d y=>cases q;exact sr1.setD h (fun _ z=>nomatch z)
 | l m xs=>
  cases m with
  | own=>cases q
  | bor=>cases q;exact sr1.setD h (fun _ z=>nomatch z)
  | fresh=>
   cases q
   obtain ⟨p,vs,rfl,h1,h2,h3,h4⟩:=h
   have old:∀(j:Nat) (ys:List D),env[j]?=some (some (.own ys))→σ[j]?≠some (some (.ref p)):=fun j ys qj z=>by
    obtain ⟨w,k1,a,us,k2,k3,_⟩:=sr.at_ j _ qj
    rw [z] at k1
    cases k1
    cases k2
    rw [h3] at k3
    cases k3
   refine ⟨sr1.hp,by simpa using sr.len,fun j y q=>?_,fun j k ys zs w hjk q1 q2 q3 q4=>?_⟩
   ·rcases gg q with ⟨rfl,hl,rfl⟩ | ⟨hj,q⟩
    ·exact ⟨.ref p,by rw [List.getElem?_set_self (by rw [←sr.len];exact hl)],p,vs,rfl,h1,h2,sr.hp.ent.free h3,h4⟩
    ·obtain ⟨w,k1,k2⟩:=sr1.at_ j y q
     exact ⟨w,by rw [List.getElem?_set_ne (Ne.symm hj)];exact k1,k2⟩
   ·rcases gg q1 with ⟨rfl,hl,e⟩ | ⟨hj,q1'⟩
    ·rcases gg q2 with ⟨rfl,_,_⟩ | ⟨hk,q2⟩
     ·exact hjk rfl
     ·rw [List.getElem?_set_self (by rw [←sr.len];exact hl)] at q3
      cases q3
      rw [List.getElem?_set_ne (Ne.symm hk)] at q4
      exact old k zs q2 q4
    ·rw [List.getElem?_set_ne (Ne.symm hj)] at q3
     rcases gg q2 with ⟨rfl,hl,e⟩ | ⟨hk,q2⟩
     ·rw [List.getElem?_set_self (by rw [←sr.len];exact hl)] at q4
      cases q4
      exact old j ys q1' q3
     ·rw [List.getElem?_set_ne (Ne.symm hk)] at q4
      exact sr.sep j k ys zs w hjk q1' q2 q3 q4
theorem sO {α:Type}{x:R}{f:S→M α}{Q:α→Prop}{T:Exc→Prop}(w:cO (toS x >>= f) Q T):∃d,toS x=.ok d∧cO (f d) Q T:=by
 cases q:toS x with
 | bad=>rw [q] at w;exact w.elim
 | ok xs=>rw [q] at w;exact ⟨xs,rfl,w⟩
 | exc z=>unfold toS at q;split at q <;> cases q
def bh (i:Nat) (g:G R):G O:=fun env=>g env >>= fun r=>toS r >>= fun x=>.ok (.nx (env.set i (some x)))
theorem Gi (i:Nat){x:Str}{pos':Pos}(hN:X.N.Nodup) (h:PD X c e g) (hi:X.N[i]?=some x:=by rfl) (hx:Loc X.env.scope x:=by first | exact Or.inl rfl | exact Or.inr rfl) (hs:swapsWith e (some (.Name x pos')) pos.line X.env=pure false:=by rfl)
  (hf:X.fn x=true∨X.env.scope.names.lookup x=some .local:=by first | exact .inl rfl | exact .inr rfl):jd X c (.Assign [.Name x pos'] e pos) (bh i g):=jT (JA hN hi hx h hs hf) fun E σ H ⟨J,env,sr,w⟩=>by
 refine ⟨J,env,sr,aE (aM w) fun r wr v J1 H1 e1 r1=>?_⟩
 obtain ⟨x,q,wr⟩:=sO wr
 exact wr (σ.set i (some v)) J1 H1 e1.j (sr.set e1 r1 q)
abbrev GT:=D→Ev→M Ev
def KO (env:Ev) (σ:L2.St) (e:Ev) (σ':L2.St):Prop:=∀(j:Nat) (xs:List D),e[j]?=some (some (.own xs))→env[j]?=some (some (.own xs))∧σ'[j]?=σ[j]?
theorem KO.refl {env:Ev}{σ:L2.St}:KO env σ env σ:=fun _ _ h=>⟨h,rfl⟩
theorem KO.trans {env e1 e2:Ev}{σ s1 s2:L2.St}(a:KO env σ e1 s1) (b:KO e1 s1 e2 s2):KO env σ e2 s2:=fun j xs h=>by
 obtain ⟨h1,h2⟩:=b j xs h
 obtain ⟨h3,h4⟩:=a j xs h1
 exact ⟨h3,h2.trans h4⟩
def tT (c:C) (g:GT):TG:=fun v σ H Q=>∃J env d,SR c J H σ env∧Rep c.K J d v∧cO (g d env) (fun e=>∀σ',SR c J H σ' e→KO env σ e σ'→Q σ' H) c.T
def gE (X:Cx) (c:C) (tg:Expr) (g:GT):Prop:=PG X tg (tT c g)
abbrev nP:=List D→Ev→M Ev
def Mx (c:C) (g:nP):qm:=fun vs σ H Q=>∃J env ds,SR c J H σ env∧aG c.K J ds vs∧cO (g ds env) (fun e=>∀σ',SR c J H σ' e→KO env σ e σ'→Q σ' H) c.T
def vA (X:Cx) (c:C) (tgs:List Expr) (g:nP):Prop:=vt X tgs (Mx c g)
theorem EU {X:Cx}{e:Expr}{t t':TG}(h:PG X e t) (k:∀v σ H Q,t' v σ H Q→t v σ H Q):PG X e t':=fun pins s σ H v u Q I r q=>h pins s σ H v u Q I r (k v σ H Q q)
theorem Ca {X:Cx}{e:List Expr}{t t':qm}(h:vt X e t) (k:∀v σ H Q,t' v σ H Q→t v σ H Q):vt X e t':=fun pins s σ H vs us Q I r q=>h pins s σ H vs us Q I r (k vs σ H Q q)
def aC (i:Nat):GT:=fun d env=>.ok (env.set i (some (.d d)))
theorem Ea (i:Nat){x:Str}(hN:X.N.Nodup) (hi:X.N[i]?=some x:=by rfl) (hx:Loc X.env.scope x:=by first | exact Or.inl rfl | exact Or.inr rfl) (hf:X.fn x=true∨X.env.scope.names.lookup x=some .local:=by first | exact .inl rfl | exact .inr rfl):gE X c (.Name x pos) (aC i):=
 EU (Gz hN hi hx hf) fun v σ H Q ⟨J,env,d,sr,rd,w⟩=>w _ (sr.setD (x:=.d d) rd fun _ z=>nomatch z) fun j xs q=>by
  rcases gg q with ⟨_,_,e⟩ | ⟨hj,q⟩
  ·cases e
  ·exact ⟨q,List.getElem?_set_ne (Ne.symm hj)⟩
def dz:nP:=fun ds env=>match ds with
 | []=>.ok env
 | _=>.bad
def br (t:GT) (u:nP):nP:=fun ds env=>match ds with
 | d::r=>t d env >>= fun e=>u r e
 | []=>.bad
theorem Eb:vA X c [] dz:=Ca GA fun vs σ H Q ⟨J,env,ds,sr,rd,w⟩=>by
 cases rd with
 | nil=>exact ⟨rfl,w σ sr KO.refl⟩
 | cons _ _=>exact w.elim
theorem Cj {t:GT}{u:nP}(h:gE X c e t) (h':vA X c es u) (hs:(assignEach (e::es) X.env).map (·.2)=assign e X.env::(assignEach es X.env).map (·.2):=by rfl):vA X c (e::es) (br t u):=
 Ca (D3 h h' hs) fun vs σ H Q ⟨J,env,ds,sr,rd,w⟩=>by
  cases rd with
  | nil=>exact w.elim
  | cons r rs=>
   refine ⟨_,_,rfl,J,env,_,sr,r,aE (aM w) fun e1 w1 σ' sr' ko=>?_⟩
   exact ⟨J,e1,_,sr',rs,aE w1 fun e2 q σ2 sr2 ko2=>q σ2 sr2 (ko.trans ko2)⟩
def cY (n:Nat) (u:nP):GT:=fun d env=>match d with
 | .tup ds=>if ds.length=n then u ds env else .bad
 | _=>.bad
theorem GJ {k:Nat}{u:nP}{n:Nat}(h:vA X c es u) (hc:X.calm=true:=by rfl) (hK:X.K=c.K:=by rfl) (hn:(assignEach es X.env).length=n:=by rfl) (hst:(assignEach es X.env).findIdx? (·.1)=none:=by rfl):gE X c (.Tuple es k pos) (cY n u):=
 EU (Jv hc h hn hst) fun v σ H Q ⟨J,env,d,sr,rd,w⟩=>by
  cases rd with
  | tup h1 h2=>
   unfold cY at w
   simp only at w
   split at w
   ·rename_i hl
    exact ⟨_,_,rfl,by rw [hK];exact eU sr.hp.sub h1,by rw [←h2.length];exact hl,J,env,_,sr,h2,w⟩
   ·exact w.elim
  | _=>exact w.elim
def kj (t:GT) (g:G R):G O:=fun env=>g env >>= fun r=>toD r >>= fun d=>t d env >>= fun e=>.ok (.nx e)
theorem Ge {t:GT}(h:PD X c e g) (ht:gE X c tg t)
  (hq:PS X (.Assign [tg] e pos) (Et (tD c g) (tT c t))):jd X c (.Assign [tg] e pos) (kj t g):=jT hq fun E σ H ⟨J,env,sr,w⟩=>by
 refine ⟨J,env,sr,aE (aM w) fun r wr v J1 H1 e1 r1=>?_⟩
 obtain ⟨d,q,wr⟩:=j_ wr
 obtain ⟨J1',e1',s1,rd⟩:=freeze e1 r1 q
 refine ⟨J1',env,d,sr.ext e1',rd,aE (aM wr) fun e2 w2 σ' sr' _=>?_⟩
 exact w2 σ' J1' H1 e1'.j sr'
def Walk (c:C) (It:It) (ds:List D) (J1:Hp) (U:Hp→Hp→Prop):Prop:=∀(i:Nat) (J H:Hp),HI c J H→U J H→
 (ds.length≤i→It.stop i H)∧∀d,ds[i]?=some d→It.go i H∧∀x H2,It.yld i H x H2→∃J2,Ext J H J2 H2∧Rep c.K J2 d x
def tI (c:C) (g:G (List D)):TI:=fun σ H Q=>∃J env,SR c J H σ env∧cO (g env) (fun ds=>∀It J1 H1,Ext J H J1 H1→Walk c It ds J1 (fun J' _=>aX J1 J')→Q It H1) c.T
def lE (X:Cx) (c:C) (tg iter:Expr) (g:G (List D)):Prop:=PI X tg iter (tI c g)
theorem u6 {X:Cx}{tg it:Expr}{t t':TI}(h:PI X tg it t) (k:∀σ H Q,t' σ H Q→t σ H Q):PI X tg it t':=fun pins s σ H Q I q=>h pins s σ H Q I (k σ H Q q)
def fj (t:GT) (u:G O):List D→Ev→M O
 | [],env=>.ok (.nx env)
 | d::ds,env=>t d env >>= fun e=>u e >>= fun o=>match o with
  | .nx e=>fj t u ds e
  | .ct e=>fj t u ds e
  | .bk e=>.ok (.nx e)
  | .rt r=>.ok (.rt r)
def eZ (g:G (List D)) (t:GT) (u:G O):G O:=fun env=>g env >>= fun ds=>fj t u ds env
theorem Gf {iter:Expr}{body:List Stmt}{gi:G (List D)}{t:GT}(hi:lE X c tg iter gi) (ht:gE X c tg t) (hb:nR X c body u) (hp:PassesOwn (model X.prog X.w) X.A X.env X.xe:=by first | exact PassesOwn.never | exact PassesOwn.leaving) (hc:X.calm=true:=by rfl)
  (hs:∀x,foldedSetIterable iter X.env x=pure x:=by intro _;rfl):jd X c (.For tg iter body [] pos) (eZ gi t u):=jT (Jy hp hc hi ht hb hs) fun E σ H ⟨J,env,sr,w⟩=>by
 refine ⟨J,env,sr,aE (aM w) fun ds wd It J1 H1 e1 wk=>?_⟩
 refine ⟨fun i m σ H=>m=ds.length - i∧∃J' env,aX J1 J'∧SR c J' H σ env∧cO (fj t u (ds.drop i) env) (oP c J' E) c.T,
  ⟨ds.length,by simp,J1,env,aX.refl J1,sr.ext e1,by rw [List.drop_zero];exact aE wd fun o q=>q.mono e1.j⟩,?_⟩
 rintro i m σ H ⟨rfl,J',env,s',sr',w'⟩
 obtain ⟨w1,w2⟩:=wk i J' H sr'.hp s'
 by_cases hlt:i < ds.length
 ·obtain ⟨g1,y1⟩:=w2 ds[i] (by simp [hlt])
  rw [List.drop_eq_getElem_cons hlt] at w'
  refine .inr ⟨g1,fun σ2 H2=>∃J2 env2,aX J' J2∧SR c J2 H2 σ2 env2∧cO (fj t u (ds.drop (i + 1)) env2) (oP c J2 E) c.T,?_,?_⟩
  ·rintro σ2 H2 ⟨J2,env2,s2,sr2,w2⟩
   exact ⟨ds.length - (i + 1),by omega,rfl,J2,env2,s'.trans s2,sr2,w2⟩
  ·intro x H2 hy
   obtain ⟨J2,e2,rx⟩:=y1 x H2 hy
   refine ⟨J2,env,ds[i],sr'.ext e2,rx,aE (aM w') fun env3 w3 σ3 sr3 _=>?_⟩
   refine ⟨J2,env3,sr3,aE (aM w3) fun o wo=>?_⟩
   cases o with
   | nx env4=>exact fun σ4 J4 H4 s4 sr4=>⟨J4,env4,e2.j.trans s4,sr4,aE wo fun o q=>q.mono (e2.j.trans s4)⟩
   | ct env4=>exact fun σ4 J4 H4 s4 sr4=>⟨J4,env4,e2.j.trans s4,sr4,aE wo fun o q=>q.mono (e2.j.trans s4)⟩
   | bk env4=>exact fun σ4 J4 H4 s4 sr4=>wo σ4 J4 H4 (e2.j.trans s4) sr4
   | rt r=>exact fun v J4 H4 s4 h4 r4=>wo v J4 H4 (e2.j.trans s4) h4 r4
 ·rw [List.drop_eq_nil_of_le (by omega)] at w'
  exact .inl ⟨w1 (by omega),w' σ J' H (aX.refl J') sr'⟩
def MC (g:G R):G (List D):=fun env=>g env >>= fun r=>match r with
 | .d (.tup xs)=>.ok xs
 | _=>.bad
theorem oR {J1:Hp}{a:Addr}{vs:List V}{ds:List D}(h:cA c.K J1 a vs∨cA c.K c.H0 a vs) (hs:aG c.K J1 ds vs):Walk c (Ey c.K a) ds J1 (fun J' _=>aX J1 J'):=by
 intro i J H hp u
 have h':cA c.K H a vs:=h.elim (fun h=>hp.sub.seq (u.seq h)) fun h=>hp.ent.seq h
 refine ⟨fun hl=>⟨vs,h',by rw [←hs.length];exact hl⟩,fun d hd=>?_⟩
 obtain ⟨v,h1,h2⟩:=hs.get hd
 refine ⟨⟨vs,v,h',h1⟩,fun x H2 ⟨e,hy⟩=>?_⟩
 subst e
 have:=hy vs h'
 rw [h1] at this
 cases this
 exact ⟨J,Ext.refl hp.sub,h2.mono u⟩
def fc (lo:Int) (n:Nat):List D:=(List.range n).map fun (k:Nat)=>.int (lo + (k:Int))
theorem AW {J1:Hp}{lo:Int}{n:Nat}{Ut:Hp→Hp→Prop}:Walk c (Ez lo n) (fc lo n) J1 Ut:=by
 intro i J H hp u
 refine ⟨fun hl=>(show n≤i by simpa [fc] using hl),fun d hd=>?_⟩
 have hi:i < n:=by
  have:=(List.getElem?_eq_some_iff.mp hd).1
  simpa [fc] using this
 have hd':d=.int (lo + i):=by
  unfold fc at hd
  rw [List.getElem?_map,List.getElem?_range hi] at hd
  exact (Option.some.inj hd).symm
 subst hd'
 exact ⟨hi,fun x H2 ⟨e,hx⟩=>by subst e hx;exact ⟨J,Ext.refl hp.sub,.int _⟩⟩
def cH (gs:G (List R)):G (List D):=fun env=>gs env >>= fun rs=>match rs with
 | [.d (.int j)]=>if below 4611686018427387904 j then .ok (fc 0 j.toNat) else .bad
 | _=>.bad
theorem Ay {p:Pos}{gs:G (List R)}(ha:iF X c [a] gs) (hm:X.mg "range"=none) (hg:Gl X "range":=by rfl) (hs:starEach [a] X.env=[(false,eval a X.env)]:=by rfl):lE X c tg (.Call (.Name "range" p) [a] [] pos) (cH gs):=
 u6 (Cd hg hm ha hs) fun σ H Q ⟨J,env,sr,w⟩=>by
  refine ⟨J,env,sr,aE (aM w) fun rs wr vs J1 H1 e1 r1=>?_⟩
  split at wr
  ·split at wr
   ·rename_i h
    obtain ⟨v,rfl,r⟩:=r1.one
    cases r
    have h:=dX.mp h
    exact ⟨_,rfl,Int.le_of_lt h.1,h.2,wr _ J1 H1 e1 AW⟩
   ·exact wr.elim
  ·exact wr.elim
def Mu (c:C) (g:G (List D)):TI:=fun σ H Q=>∃J env,SR c J H σ env∧cO (g env) (fun ds=>∀It J1 H1,Ext J H J1 H1→Walk c It ds J1 (fun J' H'=>aX J1 J'∧aX H1 H')→Q It H1) c.T
def nD (X:Cx) (c:C) (tg iter:Expr) (g:G (List D)):Prop:=PI X tg iter (Mu c g)
theorem lE.pic {gi:G (List D)}(h:lE X c tg e gi):nD X c tg e gi:=u6 h fun σ H Q ⟨J,env,sr,w⟩=>
 ⟨J,env,sr,aE w fun ds q It J1 H1 e1 wk=>q It J1 H1 e1 fun i J' H' hp u=>wk i J' H' hp u.1⟩
end
section
variable {X:Cx}{c:C}{e a b tg:Expr}{es:List Expr}{ga gb g:G R}{pos:Pos}
theorem SR.upd {J H:Hp}{σ:L2.St}{env:Ev}(sr:SR c J H σ env){i:Nat}{xs xs':List D}{p:Addr}{vs vs':List V}(hi:env[i]?=some (some (.own xs))) (hs:σ[i]?=some (some (.ref p))) (hH:H p=some (.lst vs)) (hJ:J p=none) (h0:c.H0 p=none)
  (h:aG c.K J xs' vs'):SR c J (L2.upd H p (.lst vs')) σ (env.set i (some (.own xs'))):=by
 have hil:i < env.length:=(List.getElem?_eq_some_iff.mp hi).1
 refine ⟨⟨fun b o q=>?_,fun b o q=>?_,sr.hp.entJ,sr.hp.frz⟩,by simpa using sr.len,fun j y q=>?_,fun j k ys zs w hjk q1 q2 q3 q4=>?_⟩
 ·have:b≠p:=fun z=>by rw [z,hJ] at q;cases q
  rw [bC this];exact sr.hp.sub b o q
 ·have:b≠p:=fun z=>by rw [z,h0] at q;cases q
  rw [bC this];exact sr.hp.ent b o q
 ·rcases gg q with ⟨rfl,hl,rfl⟩ | ⟨hj,q⟩
  ·exact ⟨.ref p,hs,p,vs',rfl,b9,hJ,h0,h⟩
  ·obtain ⟨w,k1,k2⟩:=sr.at_ j y q
   refine ⟨w,k1,?_⟩
   cases y with
   | d x=>exact k2
   | bor zs=>exact k2
   | own zs=>
    obtain ⟨p',us,rfl,m1,m2,m3,m4⟩:=k2
    have hne:p'≠p:=fun z=>sr.sep i j xs zs (.ref p) (Ne.symm hj) hi q hs (z▸k1)
    exact ⟨p',us,rfl,by rw [bC hne];exact m1,m2,m3,m4⟩
 ·have f:∀(k:Nat) (ys:List D),(env.set i (some (.own xs')))[k]?=some (some (.own ys))→∃ys',env[k]?=some (some (.own ys')):=fun k ys q=>by
   rcases gg q with ⟨rfl,_,_⟩ | ⟨_,q⟩
   ·exact ⟨xs,hi⟩
   ·exact ⟨ys,q⟩
  obtain ⟨ys',r1⟩:=f j ys q1
  obtain ⟨zs',r2⟩:=f k zs q2
  exact sr.sep j k ys' zs' w hjk r1 r2 q3 q4
def jH (i:Nat) (g:G R):G O:=fun env=>match env[i]? with
 | some (some (.own xs))=>g env >>= fun r=>toD r >>= fun d=>if xs.length < sizeLine then .ok (.nx (env.set i (some (.own (xs++[d]))))) else .bad
 | _=>.bad
theorem Av (i:Nat){x:Str}{p1 p2 pos':Pos}(h:PD X c e g) (hN:X.N[i]?=some x:=by rfl) (hv:nE X.env.scope x:=by first | exact Or.inl rfl | exact Or.inr (Or.inl rfl) | exact Or.inr (Or.inr rfl)) (hd:(x == ("__debug__":Str))=false:=by decide)
  (hcd:(x == ("__classdict__":Str))=false:=by decide)
  (hbase:attributeBase (.Name x p1) "append" X.env (eval (.Name x p1) X.env)=eval (.Name x p1) X.env:=by rfl)
  (hfew:((backTo pos' (starEach [e] X.env)).all (fun x=>!x.1) && (backToKw pos' (keywordEach [] X.env)).all (fun x=>x.1.isSome)
   && decide (([e]:List Expr).length + ([]:List Keyword).length + (if ([]:List Keyword).isEmpty then 0 else 1) < 30))=true:=by rfl)
  (hline:(p2.endLine == pos'.line)=true:=by rfl) (hst:starEach [e] X.env=(false,eval e X.env)::starEach [] X.env:=by rfl) (hplain:(backTo pos' (starEach [] X.env)).any (·.1)=false:=by rfl)
  (hs:swapsWith (.Call (.Attribute (.Name x p1) "append" p2) [e] [] pos') none pos.line X.env=pure false:=by rfl):
  jd X c (.Expr (.Call (.Attribute (.Name x p1) "append" p2) [e] [] pos') pos) (jH i g):=
 jT (o7 (u5 PySem.F.plainAttrs_list PySem.F.slot_list_append PySem.F.type_list_append ow (oA hN hv hd hcd) (fD h ia hst) hbase hfew hline hst hplain) hs) fun E σ H ⟨J,env,sr,w⟩=>by
  unfold jH at w
  split at w
  ·rename_i xs hi
   obtain ⟨v,h1,a,vs,rfl,h2,h3,h4,h5⟩:=sr.at_ i _ hi
   refine ⟨.ref a,h1,.inl ⟨rfl,vs,cA.of h2⟩,?_⟩
   refine ⟨J,env,sr,aE (aM w) fun r wr y J1 H1 e1 r1=>?_⟩
   obtain ⟨d,q,wr⟩:=j_ wr
   obtain ⟨J2,e2,s2,rd⟩:=freeze e1 r1 q
   split at wr
   ·rename_i hz
    refine ⟨a,vs,y,rfl,rfl,e2.h _ _ h2,by rw [←h5.length];exact hz,?_⟩
    refine wr σ J2 _ e2.j ?_
    exact (sr.ext e2).upd hi h1 (e2.h _ _ h2) (e2.frz a (by rw [h2];intro z;cases z) h3) h4 ((h5.mono e2.j).append (.cons rd .nil))
   ·exact wr.elim
  ·exact w.elim
def fh:R→S
 | .d x=>.d x
 | .l _ xs=>.bor xs
def jE (K:PySem.W.Frag) (J H:Hp):List S→List V→Prop
 | [],vs=>vs=[]
 | s::ss,vs=>∃v us,vs=v::us∧(match s with
  | .d x=>Rep K J x v
  | .bor xs=>∃a ws,v=.ref a∧cA K H a ws∧aG K J xs ws
  | .own _=>False)∧jE K J H ss us
theorem jE.length {K:PySem.W.Frag}{J H:Hp}:∀{ss:List S}{vs:List V},jE K J H ss vs→vs.length=ss.length
 | [],_,h=>by cases h;rfl
 | _::_,_,⟨_,_,h,_,h2⟩=>by subst h;exact congrArg (· + 1) h2.length
theorem jE.get {K:PySem.W.Frag}{J H:Hp}:∀{ss:List S}{vs:List V}{i:Nat}{s:S},jE K J H ss vs→ss[i]?=some s→∃v,vs[i]?=some v∧(match s with
  | .d x=>Rep K J x v
  | .bor xs=>∃a ws,v=.ref a∧cA K H a ws∧aG K J xs ws
  | .own _=>False)
 | [],_,_,_,_,e=>by simp at e
 | _::_,_,0,_,⟨v,us,h,h1,h2⟩,e=>by simp at e;subst e;subst h;exact ⟨v,rfl,h1⟩
 | _::_,_,i + 1,s,⟨v,us,h,h1,h2⟩,e=>by
  subst h
  obtain ⟨v,k1,k2⟩:=jE.get (i:=i) (s:=s) h2 (by simpa using e)
  exact ⟨v,by simpa using k1,k2⟩
def FR (K:PySem.W.Frag) (H J' H':Hp):R→V→Prop
 | .d x,v=>Rep K J' x v
 | .l _ xs,v=>∃a vs,v=.ref a∧H' a=some (.lst vs)∧J' a=none∧H a=none∧aG K J' xs vs
def rB (K:PySem.W.Frag) (n:Nat) (F:List S→M R):Sp:=fun vs H Q _=>∃J as,aX J H∧as.length=n∧jE K J H as vs∧cO (F as) (fun r=>∀v J' H',Ext J H J' H'→FR K H J' H' r v→Q v H') (fun _=>False)
def fin:M O→M R
 | .ok (.rt r)=>.ok r
 | .ok (.nx _)=>.ok (.d .non)
 | .exc x=>.exc x
 | _=>.bad
def bA (N:List Str) (as:List S):Ev:=as.map some++List.replicate (N.length - as.length) none
theorem ua {N:List Str}{as:List S}{i:Nat}{x:S}(h:(bA N as)[i]?=some (some x)):as[i]?=some x:=by
 unfold bA at h
 by_cases hi:i < as.length
 ·rw [List.getElem?_append_left (by simpa using hi),List.getElem?_map] at h
  cases q:as[i]? with
  | none=>rw [q] at h;cases h
  | some y=>rw [q] at h;cases h;rfl
 ·rw [List.getElem?_append_right (by simpa using hi),List.getElem?_replicate] at h
  split at h <;> cases h
theorem Es {N:List Str}{vs:List V}{i:Nat}{v:V}(h:vs[i]?=some v):(L2.start N vs)[i]?=some (some v):=by
 unfold L2.start
 have hi:i < vs.length:=(List.getElem?_eq_some_iff.mp h).1
 rw [List.getElem?_append_left (by simpa using hi),List.getElem?_map,h]
 rfl
theorem xN {K:PySem.W.Frag}{J H:Hp}{T:Exc→Prop}{N:List Str}{as:List S}{vs:List V}(hs:aX J H) (h:jE K J H as vs):SR ⟨K,H,J,T⟩ J H (L2.start N vs) (bA N as):=by
 have own:∀(i:Nat) (xs:List D),(bA N as)[i]?≠some (some (.own xs)):=fun i xs q=>by
  obtain ⟨v,_,k⟩:=h.get (ua q)
  exact k
 refine ⟨⟨hs,aX.refl H,aX.refl J,fun _ _ q=>q⟩,?_,fun i x q=>?_,fun i j xs ys v _ q=>absurd q (own i xs)⟩
 ·unfold bA L2.start
  rw [List.length_append,List.length_append,List.length_map,List.length_map,List.length_replicate,List.length_replicate,h.length]
 ·obtain ⟨v,k1,k2⟩:=h.get (ua q)
  refine ⟨v,Es k1,?_⟩
  cases x with
  | d y=>exact k2
  | own y=>exact k2.elim
  | bor y=>exact k2
abbrev EH (P:Program) (w:World) (K:PySem.W.Frag) (mg:Str→Option Value) (base:Heap) (N:List Str) (qual:Str) (sc:Scope) (f:Addr) (cd:Value) (A:Around) (outer:List Env) (s:Shared) (H:Hp) (E:XK):Cx:=(nW nC P w K mg base N qual sc f cd A outer s H E).nox
theorem By {P:Program}{w:World}{K:PySem.W.Frag}{mg:Str→Option Value}{base:Heap}{x qual:Str}{st:Stmt}{f:Addr}{fd:FuncData}{N ps:List Str}{k:Nat}{Fm:List S→M R}(F:dB K x qual st f fd) (Sc:bw N ps (au st)){gB:G O}
  (hb:∀(cdv:Value) (A:Around) (outer:List Env) (s:Shared) (H:Hp) (E:XK) (J:Hp) (T:Exc→Prop),cV k (A.deeper (envOfC qual (au st) s.heap.objs.size f cdv))→
   nR (EH P w K mg base N qual (au st) f cdv A outer s H E) ⟨K,H,J,T⟩ (aI st) gB)
  (hF:∀as r,as.length=ps.length→Fm as=.ok r→fin (gB (bA N as))=.ok r):eY P w K mg base nC (k + 1) f fd ps (rB K ps.length Fm):=by
 refine F.ok Sc (fun vs H Q E h=>?_) (fun cdv A outer s H vs Q E hr h=>?_)
 ·obtain ⟨J,as,h1,h2,h3,h4⟩:=h
  rw [h3.length,h2]
 ·obtain ⟨J,as,h1,h2,h3,h4⟩:=h
  refine ⟨_,hb cdv A outer s H E J (fun _=>False) hr,J,bA N as,xN h1 h3,?_⟩
  cases q:Fm as with
  | bad=>rw [q] at h4;exact h4.elim
  | exc x=>rw [q] at h4;exact h4.elim
  | ok r=>
   rw [q] at h4
   have z:=hF as r h2 q
   have ext:∀{J' H':Hp},HI ⟨K,H,J,fun _=>False⟩ J' H'→Ext J H J' H':=fun hp=>⟨hp.ent,hp.entJ,hp.sub,hp.frz⟩
   cases qg:gB (bA N as) with
   | bad=>rw [qg] at z;cases z
   | exc x=>rw [qg] at z;cases z
   | ok o=>
    rw [qg] at z
    cases o with
    | bk _=>cases z
    | ct _=>cases z
    | nx env=>cases z;exact fun σ' J' H' _ sr=>h4 .non J' H' (ext sr.hp) .non
    | rt r'=>
     cases z
     exact fun v J' H' _ hp rf=>h4 v J' H' (ext hp) (by
      cases r with
      | d x=>exact rf
      | l m xs=>exact rf)
def nZ:R→R
 | .d x=>.d x
 | .l _ xs=>.l .fresh xs
def aS (n:Nat) (F:List S→M R):List R→M R:=fun rs=>if rs.length=n then (match F (rs.map fh) with
 | .ok r=>.ok (nZ r)
 | _=>.bad) else .bad
theorem lG.args {He J H:Hp}(hp:HI c J H):∀{rs:List R}{vs:List V},lG c He J H rs vs→jE c.K J H (rs.map fh) vs
 | [],_,h=>h
 | r::rs,_,⟨v,us,h,h1,h2⟩=>by
  refine ⟨v,us,h,?_,lG.args hp h2⟩
  cases r with
  | d x=>exact h1
  | l m xs=>exact RR.list hp h1 rfl
theorem Gn {k n:Nat}{f:Addr}{fd:FuncData}{ps:List Str}{F:List S→M R}{x:Str}{p:Pos}{gs:G (List R)}(G:eY X.prog X.w X.K X.mg X.base nC k f fd ps (rB X.K n F)) (hr:cV k X.A) (hm:X.mg x=some (.ref f)) (hk:PySem.W.keepIn X.K (.ref f)=true)
  (hb:Binds X.K fd ps []) (ha:iF X c (e::es) gs) (hT:c.K=X.K:=by rfl) (hg:Gl X x:=by rfl) (hdb:(x == ("__debug__":Str))=false:=by decide) (he:starEach (e::es) X.env=(false,eval e X.env)::starEach es X.env:=by rfl)
  (hpl:(backTo pos (starEach es X.env)).any (·.1)=false:=by rfl):PD X c (.Call (.Name x p) (e::es) [] pos) (gN (aS n F) gs):=
 fk (sE (E:=E0) G hr hg hm hk hb .nil KL ha hdb he hpl) fun σ H Q ⟨J,env,sr,w⟩=>by
  refine ⟨J,env,sr,aE (aM w) fun rs wr vs J1 H1 e1 r1=>?_⟩
  unfold aS at wr
  split at wr
  ·rename_i hl
   have ar:=r1.args (sr.hp.ext e1)
   rw [hT] at ar
   refine ⟨J1,rs.map fh,e1.sub,by simpa using hl,by rw [List.append_nil];exact ar,?_⟩
   cases q:F (rs.map fh) with
   | bad=>rw [q] at wr;exact wr
   | exc x=>rw [q] at wr;exact wr
   | ok r=>
    rw [q] at wr
    intro v J' H' e2 fr
    refine wr v J' H' (e1.trans e2) ?_
    cases r with
    | d y=>exact (show Rep c.K J' y v from hT▸fr)
    | l m ys=>
     obtain ⟨a,us,h1,h2,h3,h4,h5⟩:=fr
     exact ⟨a,us,h1,h2,h3,e1.h.free h4,hT▸h5⟩
  ·exact wr.elim
end
def bG (cells:List (Str×Addr)):List (Str×NameKind)→List (Str×Addr)→Option (List (Str×Addr))
 | [],cs=>some cs
 | (n,k)::r,cs=>if k == .free then (match cells.lookup n with
  | some a=>bG cells r ((n,a)::cs)
  | none=>none) else bG cells r cs
theorem kZ {env:Env}:∀(names:List (Str×NameKind)) (cs cl:List (Str×Addr)),bG env.cells names cs=some cl→
  (forIn names cs fun (x:Str×NameKind) (r:List (Str×Addr))=>(if (x.2 == .free)=true then do let a ←cellOf env x.1;pure (ForInStep.yield ((x.1,a)::r)) else pure (ForInStep.yield r):Sem (ForInStep (List (Str×Addr)))))=(pure cl:Sem (List (Str×Addr)))
 | [],cs,cl,h=>by cases h;rfl
 | (n,k)::r,cs,cl,h=>by
  unfold bG at h
  rw [List.forIn_cons]
  cases hk:(k == NameKind.free) with
  | true=>
   rw [hk,if_pos rfl] at h
   cases hc:env.cells.lookup n with
   | none=>rw [hc] at h;cases h
   | some a=>
    rw [hc] at h
    have e:cellOf env n=pure a:=by unfold cellOf;rw [hc]
    simp only [hk,if_true,e]
    exact kZ r ((n,a)::cs) cl h
  | false=>
   rw [hk,if_neg (by decide)] at h
   simp only [hk]
   exact kZ r cs cl h
theorem uB {scope:Scope}{env:Env}{cl:List (Str×Addr)}(h:bG env.cells scope.names []=some cl):closureFor scope env=pure cl:=by
 have q:=kZ (env:=env) scope.names [] cl h
 unfold closureFor
 show ((forIn scope.names [] fun (x:Str×NameKind) (r:List (Str×Addr))=>(if (x.2 == .free)=true then do let a ←cellOf env x.1;pure (ForInStep.yield ((x.1,a)::r)) else pure (ForInStep.yield r):Sem (ForInStep (List (Str×Addr))))) >>= fun z=>pure z)=pure cl
 rw [q]
 rfl
theorem gG {cells:List (Str×Addr)}:∀(names:List (Str×NameKind)) (cs cl:List (Str×Addr)),bG cells names cs=some cl→(∀x c,cs.lookup x=some c→cells.lookup x=some c)→
  (∀x c,cl.lookup x=some c→cells.lookup x=some c)∧(∀x,((cs.lookup x).isSome=true∨(x,NameKind.free)∈names)→(cl.lookup x).isSome=true)
 | [],cs,cl,h,k=>by
  cases h
  exact ⟨k,fun x hx=>hx.elim id fun z=>by cases z⟩
 | (n,kd)::r,cs,cl,h,k=>by
  unfold bG at h
  cases hk:(kd == NameKind.free) with
  | true=>
   rw [hk,if_pos rfl] at h
   cases hc:cells.lookup n with
   | none=>rw [hc] at h;cases h
   | some a=>
    rw [hc] at h
    obtain ⟨h1,h2⟩:=gG r ((n,a)::cs) cl h (fun x c q=>by
     rw [List.lookup_cons] at q
     cases e:x == n with
     | true=>
      rw [e] at q
      cases q
      have:x=n:=by simpa using e
      rw [this];exact hc
     | false=>rw [e] at q;exact k x c q)
    refine ⟨h1,fun x hx=>h2 x ?_⟩
    by_cases e:x=n
    ·left;subst e;rw [List.lookup_cons];simp
    ·have e':(x == n)=false:=by simpa using e
     rcases hx with hx | hx
     ·left;rw [List.lookup_cons,e'];exact hx
     ·right
      rcases List.mem_cons.mp hx with z | z
      ·cases z;exact absurd rfl e
      ·exact z
  | false=>
   rw [hk,if_neg (by decide)] at h
   obtain ⟨h1,h2⟩:=gG r cs cl h k
   refine ⟨h1,fun x hx=>h2 x ?_⟩
   rcases hx with hx | hx
   ·exact .inl hx
   ·rcases List.mem_cons.mp hx with z | z
    ·cases z;simp at hk
    ·exact .inr z
section
variable {X:Cx}
def cN (X:Cx) (own:List Str) (cap:List Nat):List Str:=own++cap.map fun (j:Nat)=>(X.N[j]?).getD ("":Str)
def HE (X:Cx) (own:List Str) (cap:List Nat) (scope:Scope) (cl:List (Str×Addr)) (C:Addr) (s:Shared) (H:Hp) (fp:List Addr):Cx where
 prog:=X.prog
 w:=X.w
 K:=X.K
 mg:=X.mg
 base:=X.base
 A:=X.A
 N:=cN X own cap
 s₀:=s
 H₀:=H
 env:=compEnvC scope cl C X.env
 outer:=X.stack
 stack:=X.stack
 ex:=fp
 fn:=fun _=>false
 calm:=X.calm
 pn:=[]
 xe:=fun _ _=>False
def eE (X:Cx) (cap:List Nat):Bool:=cap.all fun j=>match X.N[j]? with
 | some x=>(match X.env.scope.names.lookup x with
  | some .cell=>true
  | some .free=>true
  | _=>false)
 | none=>false
theorem xm {scope:Scope}{env:Env}(hc:∀y∈scope.names,y.2≠.cell):∀{x:Str},((relabel scope env).names.lookup x=some .cell∨(relabel scope env).names.lookup x=some .free)→(x,NameKind.free)∈scope.names:=by
 unfold relabel
 have main:∀(names:List (Str×NameKind)),(∀y∈names,y.2≠.cell)→∀x,((names.map fun (n,k)=>if (k == NameKind.free && env.scope.kind == .function && env.kindOf n == some .cell) then (n,NameKind.cell) else (n,k)).lookup x=some .cell∨
   (names.map fun (n,k)=>if (k == NameKind.free && env.scope.kind == .function && env.kindOf n == some .cell) then (n,NameKind.cell) else (n,k)).lookup x=some .free)→(x,NameKind.free)∈names:=by
  intro names
  induction names with
  | nil=>intro _ x h;simp at h
  | cons p r ih=>
   obtain ⟨n,k⟩:=p
   intro hc x h
   rw [List.map_cons] at h
   simp only at h
   by_cases hx:x=n
   ·subst hx
    have hk:k≠.cell:=hc (x,k) List.mem_cons_self
    have:k=.free:=by
     by_cases q:(k == NameKind.free && env.scope.kind == .function && env.kindOf x == some .cell)=true
     ·rw [Bool.and_eq_true,Bool.and_eq_true] at q
      simpa using q.1.1
     ·rw [if_neg q,List.lookup_cons] at h
      simp at h
      rcases h with h | h
      ·exact absurd h hk
      ·exact h
    subst this
    exact List.mem_cons_self
   ·have hx':(x == n)=false:=by simpa using hx
    refine List.mem_cons_of_mem _ (ih (fun y hy=>hc y (List.mem_cons_of_mem _ hy)) x ?_)
    have red:∀(q:Str×NameKind) (l:List (Str×NameKind)),q.1=n→List.lookup x (q::l)=List.lookup x l:=fun q l hq=>by
     obtain ⟨q1,q2⟩:=q
     simp only at hq
     subst hq
     rw [List.lookup_cons,hx']
    have hq:(if (k == NameKind.free && env.scope.kind == .function && env.kindOf n == some .cell) then (n,NameKind.cell) else (n,k)).1=n:=by split <;> rfl
    rw [red _ _ hq] at h
    exact h
 intro x h
 exact main scope.names hc x h
end
section
variable {X:Cx}{c:C}
def fQ (X:Cx) (c:C) (ifs:List Expr) (g:G Bool):Prop:=
 ∀(pins:List (Addr×Obj)) (s:Shared) (σ:L2.St) (H:Hp) (Q:Bool→Hp→Prop),Inv X pins σ H s→tB c g σ H Q→
  wpAny (model X.prog X.w) X.A (forIn ifs true fun c r=>if r=true then do let ok ←isTrue c X.env (eval c X.env);pure (ForInStep.yield ok) else pure (ForInStep.yield r)) (TP X pins σ Q) X.xe s
def cU:G Bool:=fun _=>.ok true
theorem D5:fQ X c [] cU:=fun pins s σ H Q I ⟨J,env,sr,w⟩=>wpAny_tests_nil ⟨H,I,w J H (Ext.refl sr.hp.sub)⟩
theorem D6 {x:Expr}{g:G Bool}(h:PB X c x g):fQ X c [x] g:=fun pins s σ H Q I q=>wpAny_tests_one (h pins s σ H Q I q)
def cP (gt:GT) (gts:G Bool) (ge:G R):List D→Ev→M (List D)
 | [],_=>.ok []
 | d::ds,env=>gt d env >>= fun e=>gts e >>= fun k=>if k=true then ge e >>= fun r=>toD r >>= fun y=>cP gt gts ge ds e >>= fun ys=>.ok (y::ys) else cP gt gts ge ds e
def cE (n:Nat) (cap:List Nat) (env:Ev):Ev:=List.replicate n none++cap.map fun (j:Nat)=>(env[j]?).getD none
def bH (n:Nat) (cap:List Nat) (gi:G (List D)) (gt:GT) (gts:G Bool) (ge:G R):G R:=fun env=>gi env >>= fun ds=>if ds.length≤sizeLine then cP gt gts ge ds (cE n cap env) >>= fun ys=>.ok (.l .fresh ys) else .bad
theorem jN {α:Type}{n:Nat}{cap:List Nat}{env:List (Option α)}{i:Nat}{x:α}(h:(List.replicate n none++cap.map fun (j:Nat)=>(env[j]?).getD none)[i]?=some (some x)):∃j,n≤i∧cap[i - n]?=some j∧env[j]?=some (some x):=by
 by_cases hi:i < n
 ·rw [List.getElem?_append_left (by simpa using hi),List.getElem?_replicate] at h
  split at h <;> cases h
 ·rw [List.getElem?_append_right (by simpa using hi),List.length_replicate,List.getElem?_map] at h
  cases q:cap[i - n]? with
  | none=>rw [q] at h;cases h
  | some j=>
   rw [q] at h
   refine ⟨j,by omega,rfl,?_⟩
   have h':(env[j]?).getD none=some x:=Option.some.inj h
   cases z:env[j]? with
   | none=>rw [z] at h';cases h'
   | some o=>rw [z] at h';exact congrArg some h'
theorem Ks {α:Type}{n:Nat}{cap:List Nat}{env:List (Option α)}{i j:Nat}{x:α}(h1:n≤i) (h2:cap[i - n]?=some j) (h3:env[j]?=some (some x)):(List.replicate n none++cap.map fun (j:Nat)=>(env[j]?).getD none)[i]?=some (some x):=by
 rw [List.getElem?_append_right (by simpa using h1),List.length_replicate,List.getElem?_map,h2]
 simp [h3]
theorem SR.cap {J H:Hp}{σ:L2.St}{env:Ev}(sr:SR c J H σ env) (n:Nat) (cap:List Nat) (hnd:cap.Nodup):SR c J H (List.replicate n none++cap.map fun (j:Nat)=>(σ[j]?).getD none) (cE n cap env):=by
 refine ⟨sr.hp,by simp [cE],fun i x q=>?_,fun i j xs ys v hij q1 q2 q3 q4=>?_⟩
 ·obtain ⟨j,h1,h2,h3⟩:=jN q
  obtain ⟨v,k1,k2⟩:=sr.at_ j x h3
  exact ⟨v,Ks h1 h2 k1,k2⟩
 ·obtain ⟨a,h1,h2,h3⟩:=jN q1
  obtain ⟨b,h4,h5,h6⟩:=jN q2
  obtain ⟨a',h7,h8,h9⟩:=jN q3
  obtain ⟨b',h10,h11,h12⟩:=jN q4
  rw [h2] at h8;cases h8
  rw [h5] at h11;cases h11
  have hab:a≠b:=fun z=>by
   subst z
   have e1:=(List.getElem?_eq_some_iff.mp h2)
   have e2:=(List.getElem?_eq_some_iff.mp h5)
   have:=(List.getElem_inj hnd).mp (e1.2.trans e2.2.symm)
   omega
  exact sr.sep a b xs ys v hab h3 h6 h9 h12
theorem SR.other {J H:Hp}{σ:L2.St}{env:Ev}(sr:SR c J H σ env){p:Addr}{o:HO}(hJ:J p=none) (h0:c.H0 p=none) (hn:∀(j:Nat) (xs:List D),env[j]?=some (some (.own xs))→σ[j]?≠some (some (.ref p))):SR c J (L2.upd H p o) σ env:=by
 refine ⟨⟨fun b u q=>?_,fun b u q=>?_,sr.hp.entJ,sr.hp.frz⟩,sr.len,fun j y q=>?_,sr.sep⟩
 ·have:b≠p:=fun z=>by rw [z,hJ] at q;cases q
  rw [bC this];exact sr.hp.sub b u q
 ·have:b≠p:=fun z=>by rw [z,h0] at q;cases q
  rw [bC this];exact sr.hp.ent b u q
 ·obtain ⟨w,k1,k2⟩:=sr.at_ j y q
  refine ⟨w,k1,?_⟩
  cases y with
  | d x=>exact k2
  | bor zs=>exact k2
  | own zs=>
   obtain ⟨p',us,rfl,m1,m2,m3,m4⟩:=k2
   have hne:p'≠p:=fun z=>hn j zs q (z▸k1)
   exact ⟨p',us,rfl,by rw [bC hne];exact m1,m2,m3,m4⟩
theorem Ext.other {J H J' H':Hp}(e:Ext J H J' H'){p:Addr}{o:HO}(h:H p=none) (hJ:J' p=none):Ext J H J' (L2.upd H' p o):=
 ⟨fun b u q=>by rw [bC (eT q h)];exact e.h b u q,e.j,fun b u q=>by
  have:b≠p:=fun z=>by rw [z,hJ] at q;cases q
  rw [bC this];exact e.sub b u q,e.frz⟩
theorem yr {P:Program}{w:World}{H:Hp}{h h':Heap}{a:Addr}(x:fM P w H h) (hn:H a=none) (sb:Heap.SameBut a h h'):fM P w H h':=fun b u e=>by
 refine (x b u e).stay (fun d v hd q=>(sb.2 d ?_).trans q) (fun _ q=>q) fun _ _ q=>q
 rintro rfl
 rcases hd with rfl | hd
 ·rw [hn] at e;cases e
 ·rw [hn] at hd;cases hd
theorem Mg {pins:List (Addr×Obj)}{σ:L2.St}{H:Hp}{s:Shared}{own:List Str}{cap:List Nat}{scope:Scope}{cl:List (Str×Addr)}{fp:List Addr}{h1:Heap}{m:Str→Option Value}{tk:Nat}(I:Inv X pins σ H s) (ok:(HE X own cap scope cl s.heap.objs.size s H fp).Ok)
  (hcl:bG X.env.cells scope.names []=some cl) (hcell:∀y∈scope.names,y.2≠.cell) (hcap:eE X cap=true) (hlocal:∀j∈cap,∀x,X.N[j]?=some x→(relabel scope X.env).names.lookup x≠some .local)
  (hns:h1.Ns s.heap.objs.size m) (old:∀b o,s.heap.get? b=some o→h1.get? b=some o):
  Inv (HE X own cap scope cl s.heap.objs.size s H fp) [] (List.replicate own.length none++cap.map fun (j:Nat)=>(σ[j]?).getD none) H {s with heap:=h1,toks:=tk}:=by
 obtain ⟨m1,m2⟩:=gG scope.names [] cl hcl (fun x c h=>by simp at h)
 refine ⟨ok,rfl,I.bare,Un.kept old,⟨m,hns,fun i x v q1 q2 q3=>?_⟩,fun x d h=>?_,I.hok.fresh (Nat.le_refl _),fun x d h=>I.freeC x d (m1 x d h),fun p hp=>absurd (show p∈([]:List (Addr×Obj)) from hp) (by simp),I.hok.kept old,?_⟩
 ·obtain ⟨j,h2,h3,h4⟩:=jN q2
  have q1':(own++cap.map fun (j:Nat)=>(X.N[j]?).getD ("":Str))[i]?=some x:=q1
  rw [List.getElem?_append_right (by exact h2),List.getElem?_map,h3] at q1'
  have hj:j∈cap:=List.mem_of_getElem? h3
  have hc:(match X.N[j]? with
   | some x=>(match X.env.scope.names.lookup x with
    | some .cell=>true
    | some .free=>true
    | _=>false)
   | none=>false)=true:=by
   unfold eE at hcap
   exact List.all_eq_true.mp hcap j hj
  cases hx:X.N[j]? with
  | none=>rw [hx] at hc;cases hc
  | some y=>
   rw [Option.map_some,hx] at q1'
   rw [hx] at hc
   have e:y=x:=by simpa using q1'
   subst e
   have kd:X.env.kindOf y=some .cell∨X.env.kindOf y=some .free:=by
    unfold Env.kindOf
    simp only at hc
    split at hc
    ·rename_i z;exact .inl z
    ·rename_i z;exact .inr z
    ·cases hc
   obtain ⟨mX,nX,lX⟩:=I.loc
   obtain ⟨u,ru,lu⟩:=lX j y v hx h4 (kd.elim (fun z=>.inr (.inl z)) fun z=>.inr (.inr z))
   refine ⟨u,ru,.inr ?_⟩
   have kd':(relabel scope X.env).names.lookup y=some .cell∨(relabel scope X.env).names.lookup y=some .free:=by
    rcases q3 with z | z | z
    ·exact absurd z (hlocal j hj y hx)
    ·exact .inl z
    ·exact .inr z
   refine ⟨kd',?_⟩
   obtain ⟨d,hd⟩:=Option.isSome_iff_exists.mp (m2 y (.inr (xm hcell kd')))
   refine ⟨d,hd,?_⟩
   rcases lu with ⟨z,_⟩ | ⟨_,d',hd',z⟩
   ·rcases kd with k | k <;> (rw [k] at z;cases z)
   ·have:=m1 y d hd
    rw [hd'] at this
    cases this
    obtain ⟨o,ho,hod⟩:=z
    exact ⟨o,old _ _ ho,hod⟩
 ·obtain ⟨v,o,ho,hod⟩:=I.cell x d (m1 x d h)
  exact ⟨v,o,old _ _ ho,hod⟩
 ·show _=(own++cap.map fun (j:Nat)=>(X.N[j]?).getD ("":Str)).length
  simp
def eO (X:Cx) (cap:List Nat) (scope:Scope):Bool:=cap.all fun j=>match X.N[j]? with
 | some x=>!((relabel scope X.env).names.lookup x == some .local)
 | none=>true
def gI:List Nat→Bool
 | []=>true
 | x::r=>!(r.contains x) && gI r
theorem ze:∀{l:List Nat},gI l=true→l.Nodup
 | [],_=>List.nodup_nil
 | x::r,h=>by
  unfold gI at h
  rw [Bool.and_eq_true] at h
  refine List.nodup_cons.mpr ⟨fun z=>?_,ze h.2⟩
  have:=h.1
  simp [z] at this
theorem Hw {X:Cx}{pins:List (Addr×Obj)}{σ:L2.St}{H:Hp}{s:Shared}(I:L2.Inv X pins σ H s){T:Addr}(h:s.heap.objs.size≤T):(T∈X.ex∨X.s₀.heap.objs.size≤T)∧T≠X.env.locals∧(∀x c,X.env.cells.lookup x=some c→c≠T)∧∀p∈X.pn++pins,p.1≠T:=by
 have ne:∀b,b < s.heap.objs.size→b≠T:=fun b hb z=>absurd (Nat.lt_of_lt_of_le (z▸hb) h) (Nat.lt_irrefl _)
 refine ⟨.inr (Nat.le_trans I.sz h),(ne _ I.lt).symm,fun x c hc=>?_,fun p hp=>ne _ (Heap.lt_size (I.pin p hp).1)⟩
 obtain ⟨v,o,hv,_⟩:=I.cell x c hc
 exact ne _ (Heap.lt_size hv)
theorem tL {X:Cx}{pins:List (Addr×Obj)}{σ:L2.St}{H:Hp}{s:Shared}{C:Addr}{h':Heap}{o0:Obj}(I:L2.Inv X pins σ H s) (ap:(C∈X.ex∨X.s₀.heap.objs.size≤C)∧C≠X.env.locals∧(∀x c,X.env.cells.lookup x=some c→c≠C)∧∀p∈X.pn++pins,p.1≠C) (hf:H C=none) (sb:Heap.SameBut C s.heap h'):L2.Inv X pins σ H {s with heap:=h'}:=by
 refine I.call' (ch:=[C]) rfl ⟨fun b o hb hn _ hx=>?_,fun b o hb hn _ hx=>⟨o.slots,?_⟩,fun _ _ _ n _=>n,fun b o hb hx=>⟨o,?_⟩,fun _ _ q=>q,fun _ _ _ q=>q,fun _ ps q=>⟨#[],by rw [q];simp⟩⟩ (fun a o ha=>?_) I.bare (fun b hb=>by rw [List.mem_singleton.mp hb];exact ap)
 ·exact (sb.2 b fun z=>hx (by simp [z])).trans hb
 ·exact (sb.2 b fun z=>hx (by simp [z])).trans hb
 ·exact (sb.2 b fun z=>hx (by simp [z])).trans hb
 ·refine (I.hok a o ha).stay (fun b u hb q=>(sb.2 b fun z=>?_).trans q) (fun _ q=>q) fun _ _ q=>q
  rcases hb with rfl | hb
  ·rw [z,hf] at ha;cases ha
  ·rw [z,hf] at hb;cases hb
end
mutual
def bq:D→D→Bool
 | .non,.non=>true
 | .bl p,.bl q=>p == q
 | .bl p,.int q=>(if p then 1 else 0) == q
 | .int p,.bl q=>p == (if q then 1 else 0)
 | .int p,.int q=>p == q
 | .str p,.str q=>p == q
 | .tup p,.tup q=>cG p q
 | .lst p,.lst q=>cG p q
 | .emp,.emp=>true
 | .exn _ _ _,.exn _ _ _=>true
 | .dct _ _,.dct _ _=>true
 | _,_=>false
def cG:List D→List D→Bool
 | [],[]=>true
 | x::xs,y::ys=>bq x y && cG xs ys
 | _,_=>false
end
mutual
theorem fS:∀d:D,bq d d=true
 | .non=>by simp [bq]
 | .bl _=>by simp [bq]
 | .int _=>by simp [bq]
 | .str _=>by simp [bq]
 | .tup xs=>by simp only [bq];exact nY xs
 | .lst xs=>by simp only [bq];exact nY xs
 | .emp=>by simp [bq]
 | .exn _ _ _=>by simp [bq]
 | .dct _ _=>by simp [bq]
theorem nY:∀ds:List D,cG ds ds=true
 | []=>by simp [cG]
 | x::xs=>by simp only [cG,fS x,nY xs,Bool.and_self]
end
theorem mQ:∀{xs ys:List D},xs.length≠ys.length→cG xs ys=false
 | [],[],h=>absurd rfl h
 | [],_::_,_=>by simp [cG]
 | _::_,[],_=>by simp [cG]
 | x::xs,y::ys,h=>by
  simp only [cG,mQ (xs:=xs) (ys:=ys) (fun z=>h (congrArg (· + 1) z)),Bool.and_false]
def m9 (xs ys:List D) (j:Nat):Bool:=match xs[j]?,ys[j]? with
 | some x,some y=>bq x y
 | _,_=>false
theorem mR:∀{xs ys:List D},xs.length=ys.length→(List.range xs.length).all (m9 xs ys)=cG xs ys
 | [],[],_=>by simp [cG]
 | x::xs,y::ys,h=>by
  have ih:=mR (xs:=xs) (ys:=ys) (by simpa using h)
  rw [List.length_cons,List.range_succ_eq_map,List.all_cons,List.all_map]
  simp only [cG]
  rw [←ih]
  rfl
theorem v7 (xs ys:List D):((List.range (min xs.length ys.length)).all (m9 xs ys) && xs.length == ys.length)=cG xs ys:=by
 by_cases h:xs.length=ys.length
 ·rw [←h,Nat.min_self,mR h];simp
 ·rw [mQ h,beq_eq_false_iff_ne.mpr h,Bool.and_false]
section
structure HF (K:PySem.W.Frag) (J:Hp) (s:Shared):Prop where
 t:∀a xs,cT K J a xs→∃its:List Value,Vals xs its∧s.heap.IsTuple a its.toArray
 l:∀a xs,cA K J a xs→∃its:List Value,Vals xs its∧s.heap.IsList a its.toArray
 e:∀a,J a=some (.dK [])→∃o,s.heap.get? a=some o∧o.cls=.type "dict"
 d:∀a kvs,J a=some (pK a kvs)→∃o es ep,s.heap.get? a=some o∧o.ExactDict∧o.data=.dict es ep∧Paired vg kvs es.toList
variable {K:PySem.W.Frag}{J:Hp}{s:Shared}
theorem HF.of {X:Cx}{c:C}{pins:List (Addr×Obj)}{σ:L2.St}{H:Hp}(I:Inv X pins σ H s) (hs:aX J H):HF X.K J s:=
 ⟨fun a xs h=>let ⟨its,r,p,_⟩:=I.tuple (eU hs h);⟨its,r,p⟩,fun a xs h=>let ⟨its,r,p,_⟩:=I.list (hs.seq h);⟨its,r,p.isList⟩,fun a h=>by
  obtain ⟨_,_,vs,_,p⟩:=(show cg X.prog X.w H s.heap a (.dK []) from I.hok a _ (hs _ _ h))
  obtain ⟨o,es,ep,h1,h2,_⟩:=p
  exact ⟨o,h1,h2.1⟩,fun a kvs h=>(show cg X.prog X.w H s.heap a (pK a kvs) from I.hok a _ (hs _ _ h)).1⟩
theorem BK {a:Addr}{xs ys:List Value}(h:s.heap.IsTuple a xs.toArray) (h':s.heap.IsTuple a ys.toArray):xs=ys:=by
 obtain ⟨o,ho,_,n,hd⟩:=h
 obtain ⟨o',ho',_,n',hd'⟩:=h'
 rw [ho] at ho';cases ho'
 rw [hd] at hd'
 injection hd' with h1 _
 simpa using congrArg Array.toList h1
theorem Af {a:Addr}{xs ys:List Value}(h:s.heap.IsList a xs.toArray) (h':s.heap.IsList a ys.toArray):xs=ys:=by
 obtain ⟨o,ho,_,n,hd⟩:=h
 obtain ⟨o',ho',_,n',hd'⟩:=h'
 rw [ho] at ho';cases ho'
 rw [hd] at hd'
 injection hd' with h1 _
 simpa using congrArg Array.toList h1
mutual
theorem Rep.inj (F:HF K J s):∀{d e:D}{v:V},Rep K J d v→Rep K J e v→dep d≤1000→dep e≤1000→d=e
 | _,_,_,.emp _,_,h,_=>by unfold dep at h;omega
 | _,_,_,.exn _ _ _ _ _,_,h,_=>by unfold dep at h;omega
 | _,_,_,.dct _ _ _ _ _,_,h,_=>by unfold dep at h;omega
 | _,_,_,.non,.non,_,_=>rfl
 | _,_,_,.bl _,.bl _,_,_=>rfl
 | _,_,_,.int _,.int _,_,_=>rfl
 | _,_,_,.str _,.str _,_,_=>rfl
 | _,_,_,.tup _ _,.emp _,_,h=>by unfold dep at h;omega
 | _,_,_,.lst _ _,.emp _,_,h=>by unfold dep at h;omega
 | _,_,_,.tup _ _,.exn _ _ _ _ _,_,h=>by unfold dep at h;omega
 | _,_,_,.tup _ _,.dct _ _ _ _ _,_,h=>by unfold dep at h;omega
 | _,_,_,.lst _ _,.exn _ _ _ _ _,_,h=>by unfold dep at h;omega
 | _,_,_,.lst _ _,.dct _ _ _ _ _,_,h=>by unfold dep at h;omega
 | _,_,_,.tup h hs,.tup h' hs',k,k'=>by
  obtain ⟨its,r,p⟩:=F.t _ _ h
  obtain ⟨its',r',p'⟩:=F.t _ _ h'
  have:=BK p p'
  subst this
  have:=r.inj r'
  subst this
  rw [aG.inj F hs hs' (by unfold dep at k;omega) (by unfold dep at k';omega)]
 | _,_,_,.lst h hs,.lst h' hs',k,k'=>by
  obtain ⟨its,r,p⟩:=F.l _ _ h
  obtain ⟨its',r',p'⟩:=F.l _ _ h'
  have:=Af p p'
  subst this
  have:=r.inj r'
  subst this
  rw [aG.inj F hs hs' (by unfold dep at k;omega) (by unfold dep at k';omega)]
 | _,_,_,.tup h _,.lst h' _,_,_=>by
  obtain ⟨its,r,p⟩:=F.t _ _ h
  obtain ⟨its',r',p'⟩:=F.l _ _ h'
  exact absurd rfl (SeqAt.ne_of_list_tuple p' p)
 | _,_,_,.lst h _,.tup h' _,_,_=>by
  obtain ⟨its,r,p⟩:=F.l _ _ h
  obtain ⟨its',r',p'⟩:=F.t _ _ h'
  exact absurd rfl (SeqAt.ne_of_list_tuple p p')
theorem aG.inj (F:HF K J s):∀{ds es:List D}{vs:List V},aG K J ds vs→aG K J es vs→deps ds≤1000→deps es≤1000→ds=es
 | _,_,_,.nil,.nil,_,_=>rfl
 | _,_,_,.cons h hs,.cons h' hs',k,k'=>by rw [Rep.inj F h h' (by unfold deps at k;omega) (by unfold deps at k';omega),aG.inj F hs hs' (by unfold deps at k;omega) (by unfold deps at k';omega)]
end
theorem jb {A:Around}{a:Addr}{its:Array Value}{v:V}{u:Value}(h:s.heap.IsTuple a its) (r:RelV v u) (f:qE v=true) (hu:A.units < cLine):SeqAt.EqAt A s (.ref a) u false∧SeqAt.EqAt A s u (.ref a) false:=by
 cases v with
 | non=>cases r;exact ⟨.tuple_none h hu,.none_tuple h hu⟩
 | bl b=>cases r;exact ⟨.tuple_bool b h hu,.bool_tuple b h hu⟩
 | int i=>obtain ⟨t,rfl⟩:=r;exact ⟨.tuple_int i t h hu,.int_tuple i t h hu⟩
 | str x=>obtain ⟨t,rfl⟩:=r;exact ⟨.tuple_str x t h hu,.str_tuple x t h hu⟩
 | _=>exact absurd (show false=true from f) Bool.false_ne_true
theorem jz {A:Around}{a:Addr}{its:Array Value}{v:V}{u:Value}(h:s.heap.IsList a its) (r:RelV v u) (f:qE v=true) (hu:A.units < cLine):SeqAt.EqAt A s (.ref a) u false∧SeqAt.EqAt A s u (.ref a) false:=by
 cases v with
 | non=>cases r;exact ⟨.list_none h hu,.none_list h hu⟩
 | bl b=>cases r;exact ⟨.list_bool b h hu,.bool_list b h hu⟩
 | int i=>obtain ⟨t,rfl⟩:=r;exact ⟨.list_int i t h hu,.int_list i t h hu⟩
 | str x=>obtain ⟨t,rfl⟩:=r;exact ⟨.list_str x t h hu,.str_list x t h hu⟩
 | _=>exact absurd (show false=true from f) Bool.false_ne_true
def oi:D→Bool
 | .tup _=>false
 | .lst _=>false
 | .emp=>false
 | .exn _ _ _=>false
 | .dct _ _=>false
 | _=>true
theorem Rep.flat {d:D}{v:V}(h:Rep K J d v) (f:oi d=true):qE v=true:=by
 cases h <;> first | rfl | cases f
theorem C8 {d e:D}{v w:V}(h:Rep K J d v) (h':Rep K J e w) (f:oi d=true) (f':oi e=true):HM v w=bq d e:=by
 cases h <;> cases h' <;> first | rfl | cases f | cases f' | simp [HM,bq]
theorem in1_units (A:Around):A.in1.units=A.units + 1:=rfl
theorem qD (F:HF K J s){d e:D}{v w:V}{u u':Value}(A:Around) (hd:Rep K J d v) (he:Rep K J e w) (rv:RelV v u) (rw':RelV w u') (f:oi d=true) (hu:A.units < cLine) (hu':dep e≤1000):SeqAt.EqAt A s u u' (bq d e):=by
 cases q:oi e with
 | true=>rw [←C8 hd he f q];exact HL rv rw' (hd.flat f) (he.flat q)
 | false=>
  cases he with
  | tup h' hs'=>
   cases rw'
   obtain ⟨its',r',p'⟩:=F.t _ _ h'
   have:=(jb p' rv (hd.flat f) hu).2
   cases hd <;> first | exact this | cases f
  | lst h' hs'=>
   cases rw'
   obtain ⟨its',r',p'⟩:=F.l _ _ h'
   have:=(jz p' rv (hd.flat f) hu).2
   cases hd <;> first | exact this | cases f
  | emp _=>unfold dep at hu';omega
  | exn _ _ _ _ _=>unfold dep at hu';omega
  | dct _ _ _ _ _=>unfold dep at hu';omega
  | _=>cases q
mutual
theorem lM (F:HF K J s):∀{d e:D}{v w:V}{u u':Value}(A:Around),Rep K J d v→Rep K J e w→RelV v u→RelV w u'→A.units + dep d < cLine→dep d≤1000→dep e≤1000→SeqAt.EqAt A s u u' (bq d e)
 | .tup ds,e,_,w,u,u',A,.tup h hs,he,rv,rw',hu,hd1,hu'=>by
  cases rv
  obtain ⟨its,r,p⟩:=F.t _ _ h
  have hu0:A.units < cLine:=by unfold dep at hu;omega
  cases he with
  | tup h' hs'=>
   cases rw'
   obtain ⟨its',r',p'⟩:=F.t _ _ h'
   rename_i a vs b ws es
   by_cases q:a=b
   ·subst q
    have:=Rep.inj F (.tup h hs) (.tup h' hs') hd1 hu'
    rw [←this,fS]
    exact SeqAt.EqAt.same _
   ·have l1:its.length=ds.length:=by rw [←r.length,hs.length]
    have l2:its'.length=es.length:=by rw [←r'.length,hs'.length]
    simp only [bq]
    rw [←v7,←l1,←l2]
    refine SeqAt.EqAt.of_refs q ?_
    have:=SeqAt.RcAt.tuples (e:=m9 ds es) p p' hu0 fun j j1 j2=>by
     have k1:j < ds.length:=by rw [←l1];simpa using j1
     have k2:j < es.length:=by rw [←l2];simpa using j2
     have:=lN F A.in1 hs hs' r r' (by rw [in1_units];unfold dep at hu;omega) (by unfold dep at hd1;omega) (by unfold dep at hu';omega) j k1 k2
     have m1:j < its.length:=by simpa using j1
     have m2:j < its'.length:=by simpa using j2
     simpa [m1,m2] using this
    simpa using this
  | lst h' hs'=>
   cases rw'
   obtain ⟨its',r',p'⟩:=F.l _ _ h'
   exact SeqAt.EqAt.tuple_list p p' hu0
  | non=>exact (jb p rw' rfl hu0).1
  | bl _=>exact (jb p rw' rfl hu0).1
  | int _=>exact (jb p rw' rfl hu0).1
  | str _=>exact (jb p rw' rfl hu0).1
  | emp _=>unfold dep at hu';omega
  | exn _ _ _ _ _=>unfold dep at hu';omega
  | dct _ _ _ _ _=>unfold dep at hu';omega
 | .lst ds,e,_,w,u,u',A,.lst h hs,he,rv,rw',hu,hd1,hu'=>by
  cases rv
  obtain ⟨its,r,p⟩:=F.l _ _ h
  have hu0:A.units < cLine:=by unfold dep at hu;omega
  cases he with
  | lst h' hs'=>
   cases rw'
   obtain ⟨its',r',p'⟩:=F.l _ _ h'
   rename_i a vs b ws es
   by_cases q:a=b
   ·subst q
    have:=Rep.inj F (.lst h hs) (.lst h' hs') hd1 hu'
    rw [←this,fS]
    exact SeqAt.EqAt.same _
   ·have l1:its.length=ds.length:=by rw [←r.length,hs.length]
    have l2:its'.length=es.length:=by rw [←r'.length,hs'.length]
    simp only [bq]
    refine SeqAt.EqAt.of_refs q ?_
    by_cases z:ds.length=es.length
    ·rw [←mR z,←l1]
     have:=SeqAt.RcAt.lists (e:=m9 ds es) p p' (by simp;omega) hu0 fun j j1 j2=>by
      have k1:j < ds.length:=by rw [←l1];simpa using j1
      have k2:j < es.length:=by rw [←l2];simpa using j2
      have:=lN F A.in1 hs hs' r r' (by rw [in1_units];unfold dep at hu;omega) (by unfold dep at hd1;omega) (by unfold dep at hu';omega) j k1 k2
      have m1:j < its.length:=by simpa using j1
      have m2:j < its'.length:=by simpa using j2
      simpa [m1,m2] using this
     simpa using this
    ·rw [mQ z]
     exact SeqAt.RcAt.lists_lengths p p' (by simp;omega) hu0
  | tup h' hs'=>
   cases rw'
   obtain ⟨its',r',p'⟩:=F.t _ _ h'
   exact SeqAt.EqAt.list_tuple p p' hu0
  | non=>exact (jz p rw' rfl hu0).1
  | bl _=>exact (jz p rw' rfl hu0).1
  | int _=>exact (jz p rw' rfl hu0).1
  | str _=>exact (jz p rw' rfl hu0).1
  | emp _=>unfold dep at hu';omega
  | exn _ _ _ _ _=>unfold dep at hu';omega
  | dct _ _ _ _ _=>unfold dep at hu';omega
 | .non,e,v,w,u,u',A,hd,he,rv,rw',hu,_,hu'=>qD F A hd he rv rw' rfl (by omega) hu'
 | .bl _,e,v,w,u,u',A,hd,he,rv,rw',hu,_,hu'=>qD F A hd he rv rw' rfl (by omega) hu'
 | .int _,e,v,w,u,u',A,hd,he,rv,rw',hu,_,hu'=>qD F A hd he rv rw' rfl (by omega) hu'
 | .emp,e,v,w,u,u',A,hd,he,rv,rw',hu,hd1,hu'=>by unfold dep at hd1;omega
 | .exn _ _ _,e,v,w,u,u',A,hd,he,rv,rw',hu,hd1,hu'=>by unfold dep at hd1;omega
 | .dct _ _,e,v,w,u,u',A,hd,he,rv,rw',hu,hd1,hu'=>by unfold dep at hd1;omega
 | .str _,e,v,w,u,u',A,hd,he,rv,rw',hu,_,hu'=>qD F A hd he rv rw' rfl (by omega) hu'
theorem lN (F:HF K J s):∀{ds es:List D}{vs ws:List V}{us us':List Value}(A:Around),aG K J ds vs→aG K J es ws→Vals vs us→Vals ws us'→A.units + deps ds < cLine→deps ds≤1000→deps es≤1000→
  ∀(j:Nat) (h1:j < ds.length) (h2:j < es.length),SeqAt.EqAt A s (us.getD j .none) (us'.getD j .none) (m9 ds es j)
 | _,_,_,_,_,_,A,.cons h hs,.cons h' hs',.cons r rs,.cons r' rs',hu,k1,k2,0,_,_=>lM F A h h' r r' (by unfold deps at hu;omega) (by unfold deps at k1;omega) (by unfold deps at k2;omega)
 | _,_,_,_,_,_,A,.cons h hs,.cons h' hs',.cons r rs,.cons r' rs',hu,k1,k2,j + 1,h1,h2=>lN F A hs hs' rs rs' (by unfold deps at hu;omega) (by unfold deps at k1;omega) (by unfold deps at k2;omega) j (by simpa using h1) (by simpa using h2)
end
end
section
variable {K:PySem.W.Frag}{J:Hp}{s:Shared}
theorem Co (F:HF K J s){d e:D}{v w:V}{u u':Value}(A:Around) (hd:Rep K J d v) (he:Rep K J e w) (rv:RelV v u) (rw':RelV w u') (hu:A.units + dep d < cLine) (hd1:dep d≤1000) (hu':dep e≤1000):SeqAt.RcAt A s u u' (bq d e)∧SeqAt.RcNeAt A s u u' (!bq d e):=by
 have hu0:A.units < cLine:=by omega
 cases hd with
 | non=>
  cases rv
  cases he with
  | non=>cases rw';exact ⟨.none_none,.none_none⟩
  | bl b=>cases rw';exact ⟨.none_bool b,.none_bool b⟩
  | int i=>obtain ⟨t,rfl⟩:=rw';exact ⟨.none_int i t,.none_int i t⟩
  | str x=>obtain ⟨t,rfl⟩:=rw';exact ⟨.none_str x t,.none_str x t⟩
  | tup h hs=>cases rw';obtain ⟨its,r,p⟩:=F.t _ _ h;exact ⟨.none_tuple p hu0,.none_tuple p hu0⟩
  | lst h hs=>cases rw';obtain ⟨its,r,p⟩:=F.l _ _ h;exact ⟨.none_list p hu0,.none_list p hu0⟩
  | emp _=>unfold dep at hu';omega
  | exn _ _ _ _ _=>unfold dep at hu';omega
  | dct _ _ _ _ _=>unfold dep at hu';omega
 | bl a=>
  cases rv
  cases he with
  | non=>cases rw';exact ⟨.bool_none a,.bool_none a⟩
  | bl b=>cases rw';exact ⟨.bool_bool a b,.bool_bool a b⟩
  | int i=>obtain ⟨t,rfl⟩:=rw';exact ⟨.bool_int a i t,.bool_int a i t⟩
  | str x=>obtain ⟨t,rfl⟩:=rw';exact ⟨.bool_str a x t,.bool_str a x t⟩
  | tup h hs=>cases rw';obtain ⟨its,r,p⟩:=F.t _ _ h;exact ⟨.bool_tuple a p hu0,.bool_tuple a p hu0⟩
  | lst h hs=>cases rw';obtain ⟨its,r,p⟩:=F.l _ _ h;exact ⟨.bool_list a p hu0,.bool_list a p hu0⟩
  | emp _=>unfold dep at hu';omega
  | exn _ _ _ _ _=>unfold dep at hu';omega
  | dct _ _ _ _ _=>unfold dep at hu';omega
 | int a=>
  obtain ⟨t0,rfl⟩:=rv
  cases he with
  | non=>cases rw';exact ⟨.int_none a t0,.int_none a t0⟩
  | bl b=>cases rw';exact ⟨.int_bool a t0 b,.int_bool a t0 b⟩
  | int i=>obtain ⟨t,rfl⟩:=rw';exact ⟨.int_int a t0 i t,.int_int a t0 i t⟩
  | str x=>obtain ⟨t,rfl⟩:=rw';exact ⟨.int_str a t0 x t,.int_str a t0 x t⟩
  | tup h hs=>cases rw';obtain ⟨its,r,p⟩:=F.t _ _ h;exact ⟨.int_tuple a t0 p hu0,.int_tuple a t0 p hu0⟩
  | lst h hs=>cases rw';obtain ⟨its,r,p⟩:=F.l _ _ h;exact ⟨.int_list a t0 p hu0,.int_list a t0 p hu0⟩
  | emp _=>unfold dep at hu';omega
  | exn _ _ _ _ _=>unfold dep at hu';omega
  | dct _ _ _ _ _=>unfold dep at hu';omega
 | str a=>
  obtain ⟨t0,rfl⟩:=rv
  cases he with
  | non=>cases rw';exact ⟨.str_none a t0,.str_none a t0⟩
  | bl b=>cases rw';exact ⟨.str_bool a t0 b,.str_bool a t0 b⟩
  | int i=>obtain ⟨t,rfl⟩:=rw';exact ⟨.str_int a t0 i t,.str_int a t0 i t⟩
  | str x=>obtain ⟨t,rfl⟩:=rw';exact ⟨.str_str a t0 x t,.str_str a t0 x t⟩
  | tup h hs=>cases rw';obtain ⟨its,r,p⟩:=F.t _ _ h;exact ⟨.str_tuple a t0 p hu0,.str_tuple a t0 p hu0⟩
  | lst h hs=>cases rw';obtain ⟨its,r,p⟩:=F.l _ _ h;exact ⟨.str_list a t0 p hu0,.str_list a t0 p hu0⟩
  | emp _=>unfold dep at hu';omega
  | exn _ _ _ _ _=>unfold dep at hu';omega
  | dct _ _ _ _ _=>unfold dep at hu';omega
 | tup h hs=>
  cases rv
  obtain ⟨its,r,p⟩:=F.t _ _ h
  cases he with
  | non=>cases rw';exact ⟨.tuple_none p hu0,.tuple_none p hu0⟩
  | bl b=>cases rw';exact ⟨.tuple_bool b p hu0,.tuple_bool b p hu0⟩
  | int i=>obtain ⟨t,rfl⟩:=rw';exact ⟨.tuple_int i t p hu0,.tuple_int i t p hu0⟩
  | str x=>obtain ⟨t,rfl⟩:=rw';exact ⟨.tuple_str x t p hu0,.tuple_str x t p hu0⟩
  | lst h' hs'=>cases rw';obtain ⟨its',r',p'⟩:=F.l _ _ h';exact ⟨.tuple_list p p' hu0,.tuple_list p p' hu0⟩
  | emp _=>unfold dep at hu';omega
  | exn _ _ _ _ _=>unfold dep at hu';omega
  | dct _ _ _ _ _=>unfold dep at hu';omega
  | tup h' hs'=>
   cases rw'
   obtain ⟨its',r',p'⟩:=F.t _ _ h'
   rename_i a vs ds b ws es
   have l1:its.length=ds.length:=by rw [←r.length,hs.length]
   have l2:its'.length=es.length:=by rw [←r'.length,hs'.length]
   have it:∀(j:Nat) (j1:j < its.toArray.size) (j2:j < its'.toArray.size),SeqAt.EqAt A.in1 s its.toArray[j] its'.toArray[j] (m9 ds es j):=fun j j1 j2=>by
    have k1:j < ds.length:=by rw [←l1];simpa using j1
    have k2:j < es.length:=by rw [←l2];simpa using j2
    have:=lN F A.in1 hs hs' r r' (by rw [in1_units];unfold dep at hu;omega) (by unfold dep at hd1;omega) (by unfold dep at hu';omega) j k1 k2
    have m1:j < its.length:=by simpa using j1
    have m2:j < its'.length:=by simpa using j2
    simpa [m1,m2] using this
   simp only [bq]
   rw [←v7,←l1,←l2]
   have q1:=SeqAt.RcAt.tuples p p' hu0 it
   have q2:=SeqAt.RcNeAt.tuples p p' hu0 it
   exact ⟨by simpa using q1,by simpa using q2⟩
 | emp _=>unfold dep at hd1;omega
 | exn _ _ _ _ _=>unfold dep at hd1;omega
 | dct _ _ _ _ _=>unfold dep at hd1;omega
 | lst h hs=>
  cases rv
  obtain ⟨its,r,p⟩:=F.l _ _ h
  cases he with
  | non=>cases rw';exact ⟨.list_none p hu0,.list_none p hu0⟩
  | bl b=>cases rw';exact ⟨.list_bool b p hu0,.list_bool b p hu0⟩
  | int i=>obtain ⟨t,rfl⟩:=rw';exact ⟨.list_int i t p hu0,.list_int i t p hu0⟩
  | str x=>obtain ⟨t,rfl⟩:=rw';exact ⟨.list_str x t p hu0,.list_str x t p hu0⟩
  | tup h' hs'=>cases rw';obtain ⟨its',r',p'⟩:=F.t _ _ h';exact ⟨.list_tuple p p' hu0,.list_tuple p p' hu0⟩
  | emp _=>unfold dep at hu';omega
  | exn _ _ _ _ _=>unfold dep at hu';omega
  | dct _ _ _ _ _=>unfold dep at hu';omega
  | lst h' hs'=>
   cases rw'
   obtain ⟨its',r',p'⟩:=F.l _ _ h'
   rename_i a vs ds b ws es
   have l1:its.length=ds.length:=by rw [←r.length,hs.length]
   have l2:its'.length=es.length:=by rw [←r'.length,hs'.length]
   have it:∀(j:Nat) (j1:j < its.toArray.size) (j2:j < its'.toArray.size),SeqAt.EqAt A.in1 s its.toArray[j] its'.toArray[j] (m9 ds es j):=fun j j1 j2=>by
    have k1:j < ds.length:=by rw [←l1];simpa using j1
    have k2:j < es.length:=by rw [←l2];simpa using j2
    have:=lN F A.in1 hs hs' r r' (by rw [in1_units];unfold dep at hu;omega) (by unfold dep at hd1;omega) (by unfold dep at hu';omega) j k1 k2
    have m1:j < its.length:=by simpa using j1
    have m2:j < its'.length:=by simpa using j2
    simpa [m1,m2] using this
   simp only [bq]
   by_cases z:ds.length=es.length
   ·rw [←mR z,←l1]
    have q1:=SeqAt.RcAt.lists p p' (by simp;omega) hu0 it
    have q2:=SeqAt.RcNeAt.lists p p' (by simp;omega) hu0 it
    exact ⟨by simpa using q1,by simpa using q2⟩
   ·rw [mQ z]
    exact ⟨.lists_lengths p p' (by simp;omega) hu0,.lists_lengths p p' (by simp;omega) hu0⟩
end
section
variable {X:Cx}{c:C}{e a b tg:Expr}{es:List Expr}{ga gb g:G R}{pos:Pos}
theorem RR.rep {He J H:Hp}(hp:HI c J H):∀{r:R}{v:V}{d:D},RR c He J H r v→(∀xs,r=.l .fresh xs∨r=.l .own xs∨r=.l .bor xs→d=.lst xs)→(∀x,r=.d x→d=x)→Rep c.K H d v
 | .d x,v,d,h,_,k=>by rw [k x rfl];exact Rep.mono hp.sub h
 | .l m xs,v,d,h,k,_=>by
  have e:d=.lst xs:=k xs (by cases m;exact .inl rfl;exact .inr (.inl rfl);exact .inr (.inr rfl))
  obtain ⟨a,vs,rfl,h1,h2⟩:=RR.list hp h rfl
  rw [e]
  exact .lst h1 (h2.mono hp.sub)
def R.dat:R→D
 | .d x=>x
 | .l _ xs=>.lst xs
theorem RR.dat {He J H:Hp}(hp:HI c J H){r:R}{v:V}(h:RR c He J H r v):Rep c.K H r.dat v:=by
 refine h.rep hp (fun xs q=>?_) (fun x q=>by rw [q];rfl)
 rcases q with q | q | q <;> (rw [q];rfl)
def Ef (K:PySem.W.Frag) (neg:Bool):R2:=fun x y H Q=>∃d e,Rep K H d x∧Rep K H e y∧dep d≤60∧dep e≤60∧Q (.bl (if neg then !bq d e else bq d e)) H
theorem j5 {pins:List (Addr×Obj)}{σ:L2.St}{H:Hp}{s:Shared}(I:Inv X pins σ H s):HF X.K H s:=HF.of (c:=⟨X.K,H,H,fun _=>True⟩) I (aX.refl H)
theorem BW (hu:X.A.units + 64 < cLine):cR X (compareOp .Eq) (Ef X.K false):=by
 intro pins s σ H x y v u Q I rx ry h
 obtain ⟨d,e,h1,h2,h3,h4,q⟩:=h
 exact (Co (j5 I) X.A h1 h2 rx ry (by omega) (by omega) (by omega)).1 X.prog X.w X.xe _ ⟨.bl _,H,I,rfl,q⟩
theorem IC (hu:X.A.units + 64 < cLine):cR X (compareOp .NotEq) (Ef X.K true):=by
 intro pins s σ H x y v u Q I rx ry h
 obtain ⟨d,e,h1,h2,h3,h4,q⟩:=h
 exact (Co (j5 I) X.A h1 h2 rx ry (by omega) (by omega) (by omega)).2 X.prog X.w X.xe _ ⟨.bl _,H,I,rfl,q⟩
def cM (neg:Bool) (x y:R):M R:=if dep x.dat≤60∧dep y.dat≤60 then .ok (.d (.bl (if neg then !bq x.dat y.dat else bq x.dat y.dat))) else .bad
theorem zN (neg:Bool) (hK:X.K=c.K):BD c (Ef X.K neg) (cM neg):=by
 intro He He' J H x y u v Q hp rx ry w
 unfold cM at w
 split at w
 ·rename_i hd
  exact ⟨x.dat,y.dat,by rw [hK];exact rx.dat hp,by rw [hK];exact ry.dat hp,hd.1,hd.2,w _ J H (Ext.refl hp.sub) (.bl _)⟩
 ·exact w.elim
theorem KY (hu:X.A.units + 64 < cLine) (ha:PD X c a ga) (hb:PD X c b gb) (hK:X.K=c.K:=by rfl):PD X c (.Compare a [.Eq] [b] pos) (g2 (cM false) ga gb):=B5 (BW hu) (zN false hK) ha hb
theorem KN (hu:X.A.units + 64 < cLine) (ha:PD X c a ga) (hb:PD X c b gb) (hK:X.K=c.K:=by rfl):PB X c (.Compare a [.Eq] [b] pos) (bx (g2 (cM false) ga gb)):=kB (BW hu) (zN false hK) ha hb
theorem KR (hu:X.A.units + 64 < cLine) (ha:PD X c a ga) (hb:PD X c b gb) (hK:X.K=c.K:=by rfl):PB X c (.Compare a [.NotEq] [b] pos) (bx (g2 (cM true) ga gb)):=kB (IC hu) (zN true hK) ha hb
def inD (d:D) (xs:List D):Bool:=xs.any fun x=>bq x d
def Eg (K:PySem.W.Frag) (neg:Bool):R2:=fun x y H Q=>∃d p vs ds,Rep K H d x∧dep d≤60∧y=.ref p∧(cA K H p vs∨cT K H p vs)∧aG K H ds vs∧deps ds≤60∧Q (.bl (if neg then !inD d ds else inD d ds)) H
theorem tY {K:PySem.W.Frag}{H:Hp}{y:Value}:∀{ds:List D}{vs:List V}{us:List Value},aG K H ds vs→Vals vs us→deps ds≤60→y∈us→∃d' v',Rep K H d' v'∧RelV v' y∧dep d'≤60
 | _,_,_,.nil,.nil,_,hy=>nomatch hy
 | _,_,_,.cons r hs,.cons q rs,hd,hy=>by
  unfold deps at hd
  rcases List.mem_cons.mp hy with rfl | hy
  ·exact ⟨_,_,r,q,by omega⟩
  ·exact tY hs rs (by omega) hy
open Classical in
noncomputable def zJ (K:PySem.W.Frag) (H:Hp) (d:D) (y:Value):Bool:=decide (∃d' v',Rep K H d' v'∧RelV v' y∧dep d'≤1000∧bq d' d=true)
theorem yK {K:PySem.W.Frag}{H:Hp}{s:Shared}(F:HF K H s){d d':D}{v':V}{y:Value}(r':Rep K H d' v') (q':RelV v' y) (hd:dep d'≤1000):zJ K H d y=bq d' d:=by
 classical
 unfold zJ
 cases z:bq d' d with
 | true=>exact decide_eq_true ⟨d',v',r',q',hd,z⟩
 | false=>
  refine decide_eq_false ?_
  rintro ⟨d2,v2,r2,q2,hd2,z2⟩
  have:v2=v':=q2.inj q'
  subst this
  rw [Rep.inj F r2 r' hd2 hd] at z2
  rw [z] at z2
  cases z2
theorem vH {K:PySem.W.Frag}{H:Hp}{s:Shared}(F:HF K H s){d:D}:∀{ds:List D}{vs:List V}{us:List Value},aG K H ds vs→Vals vs us→deps ds≤1000→us.any (zJ K H d)=inD d ds
 | _,_,_,.nil,.nil,_=>rfl
 | _,_,_,.cons r hs,.cons q rs,hd=>by
  unfold deps at hd
  unfold inD
  rw [List.any_cons,List.any_cons,vH F hs rs (by omega),yK F r q (by omega)]
  rfl
theorem qo {A:Around}{s:Shared}{K:PySem.W.Frag}{H:Hp}(F:HF K H s){d:D}{x:V}{u:Value}(h:Rep K H d x) (rx:RelV x u) (hdd:dep d≤60) (hA:A.units + 60 < cLine){ds:List D}{vs:List V}{us:List Value}(hs:aG K H ds vs) (rs:Vals vs us) (hd:deps ds≤60):
  ∃e:Value→Bool,(∀y∈us,SeqAt.EqAt A s y u (e y))∧us.any e=inD d ds:=by
 refine ⟨zJ K H d,fun y hy=>?_,vH F hs rs (by omega)⟩
 obtain ⟨d',v',r',q',hd'⟩:=tY hs rs hd hy
 rw [yK F r' q' (by omega)]
 exact lM F A r' h q' rx (by omega) (by omega) (by omega)
theorem BX (hu:X.A.units + 64 < cLine):cR X (compareOp .In) (Eg X.K false):=by
 intro pins s σ H x y v u Q I rx ry h
 obtain ⟨d,p,vs,ds,h1,hdd,rfl,h2,h3,h4,q⟩:=h
 cases ry
 have F:=j5 I
 rcases h2 with h2 | h2
 ·obtain ⟨its,r,pl⟩:=F.l _ _ h2
  obtain ⟨e,he,hany⟩:=qo (A:=X.A.in1) F h1 rx hdd (by rw [in1_units];omega) h3 r h4
  exact SeqAt.in_listAt e pl (fun z hz=>he z (by simpa using hz)) ⟨.bl _,H,I,rfl,by rw [show its.toArray.any e=its.any e by simp,hany];exact q⟩
 ·obtain ⟨its,r,pl⟩:=F.t _ _ h2
  obtain ⟨e,he,hany⟩:=qo (A:=X.A.in1) F h1 rx hdd (by rw [in1_units];omega) h3 r h4
  exact SeqAt.in_tupleAt e pl (fun z hz=>he z (by simpa using hz)) ⟨.bl _,H,I,rfl,by rw [show its.toArray.any e=its.any e by simp,hany];exact q⟩
theorem BY (hu:X.A.units + 64 < cLine):cR X (compareOp .NotIn) (Eg X.K true):=by
 intro pins s σ H x y v u Q I rx ry h
 obtain ⟨d,p,vs,ds,h1,hdd,rfl,h2,h3,h4,q⟩:=h
 cases ry
 have F:=j5 I
 rcases h2 with h2 | h2
 ·obtain ⟨its,r,pl⟩:=F.l _ _ h2
  obtain ⟨e,he,hany⟩:=qo (A:=X.A.in1) F h1 rx hdd (by rw [in1_units];omega) h3 r h4
  exact SeqAt.notIn_listAt e pl (fun z hz=>he z (by simpa using hz)) ⟨.bl _,H,I,rfl,by rw [show its.toArray.any e=its.any e by simp,hany];exact q⟩
 ·obtain ⟨its,r,pl⟩:=F.t _ _ h2
  obtain ⟨e,he,hany⟩:=qo (A:=X.A.in1) F h1 rx hdd (by rw [in1_units];omega) h3 r h4
  exact SeqAt.notIn_tupleAt e pl (fun z hz=>he z (by simpa using hz)) ⟨.bl _,H,I,rfl,by rw [show its.toArray.any e=its.any e by simp,hany];exact q⟩
def gH (neg:Bool) (x y:R):M R:=iX y >>= fun ys=>if deps ys≤60∧dep x.dat≤60 then .ok (.d (.bl (if neg then !inD x.dat ys else inD x.dat ys))) else .bad
theorem zO (neg:Bool) (hK:X.K=c.K):BD c (Eg X.K neg) (gH neg):=by
 intro He He' J H x y u v Q hp rx ry w
 obtain ⟨ys,q,w⟩:=mJ w
 obtain ⟨p,vs,rfl,h1,h2⟩:=oU hp ry q
 split at w
 ·rename_i hd
  exact ⟨x.dat,p,vs,ys,by rw [hK];exact rx.dat hp,hd.2,rfl,by rw [hK];exact h1,by rw [hK];exact h2.mono hp.sub,hd.1,w _ J H (Ext.refl hp.sub) (.bl _)⟩
 ·exact w.elim
theorem KZ (hu:X.A.units + 64 < cLine) (ha:PD X c a ga) (hb:PD X c b gb) (hK:X.K=c.K:=by rfl) (hm:behindInMarks .In b=false:=by rfl):PD X c (.Compare a [.In] [b] pos) (g2 (gH false) ga gb):=B5 (BX hu) (zO false hK) ha hb hm
theorem KP (hu:X.A.units + 64 < cLine) (ha:PD X c a ga) (hb:PD X c b gb) (hK:X.K=c.K:=by rfl) (hm:behindInMarks .In b=false:=by rfl):PB X c (.Compare a [.In] [b] pos) (bx (g2 (gH false) ga gb)):=kB (BX hu) (zO false hK) ha hb hm
theorem DK (hu:X.A.units + 64 < cLine) (ha:PD X c a ga) (hb:PD X c b gb) (hK:X.K=c.K:=by rfl) (hm:behindInMarks .NotIn b=false:=by rfl):PB X c (.Compare a [.NotIn] [b] pos) (bx (g2 (gH true) ga gb)):=kB (BY hu) (zO true hK) ha hb hm
end
section
variable {X:Cx}{c:C}{e a b tg:Expr}{es:List Expr}{ga gb g:G R}{pos:Pos}
abbrev GO:=G (Option Int)
def tO (c:C) (g:GO):TO:=fun σ H Q=>∃J env,SR c J H σ env∧cO (g env) (fun o=>∀J' H',Ext J H J' H'→Q o H') c.T
def vz (X:Cx) (c:C) (e:Option Expr) (g:GO):Prop:=PO X e (tO c g)
theorem EV {X:Cx}{e:Option Expr}{t t':TO}(h:PO X e t) (k:∀σ H Q,t' σ H Q→t σ H Q):PO X e t':=fun pins s σ H Q I q=>h pins s σ H Q I (k σ H Q q)
def yT:GO:=fun _=>.ok none
def yU (g:G R):GO:=fun env=>g env >>= fun r=>match r with
 | .d (.int i)=>.ok (some i)
 | _=>.bad
theorem D7:vz X c none yT:=EV GD fun σ H Q ⟨J,env,sr,w⟩=>w J H (Ext.refl sr.hp.sub)
theorem D8 (h:PD X c e g):vz X c (some e) (yU g):=EV (GF h) fun σ H Q ⟨J,env,sr,w⟩=>by
 refine ⟨J,env,sr,aE (aM w) fun r wr v J1 H1 e1 r1=>?_⟩
 split at wr
 ·cases r1;exact ⟨_,rfl,wr J1 H1 e1⟩
 ·exact wr.elim
def cutD (xs:List D) (lo hi:Option Int):List D:=(xs.drop (HT.bF xs.length 0 lo)).take (HT.bF xs.length xs.length hi - HT.bF xs.length 0 lo)
theorem aG.cut {K:PySem.W.Frag}{J:Hp}{xs:List D}{vs:List V}(h:aG K J xs vs) (lo hi:Option Int):aG K J (cutD xs lo hi) (k_ vs lo hi):=by
 unfold cutD k_
 rw [h.length]
 exact (h.drop _).take _
def wg (f:R→Option Int→Option Int→M R) (g:G R) (lo hi:GO):G R:=fun env=>g env >>= fun x=>lo env >>= fun l=>hi env >>= fun u=>f x l u
theorem K0 {r:V→Option Int→Option Int→Hp→VK→Prop}{f:R→Option Int→Option Int→M R}{lo hi:Option Expr}{gl gh:GO}{p2:Pos}(hr:ql X r) (hf:∀(He J H:Hp) (x:R) (v:V) (l u:Option Int) (Q:VK),HI c J H→RR c He J H x v→
   cO (f x l u) (fun z=>∀w J' H',Ext J H J' H'→RR c H J' H' z w→Q w H') c.T→r v l u H Q) (h:PD X c e g) (hl:vz X c lo gl) (hh:vz X c hi gh):PD X c (.Subscript e (.Slice lo hi none p2) pos) (wg f g gl gh):=
 fk (D0 hr h hl hh) fun σ H Q ⟨J,env,sr,w⟩=>by
  refine ⟨J,env,sr,aE (aM w) fun x wx v J1 H1 e1 r1=>?_⟩
  refine ⟨J1,env,sr.ext e1,aE (aM wx) fun l wl J2 H2 e2=>?_⟩
  refine ⟨J2,env,(sr.ext e1).ext e2,aE (aM wl) fun u wu J3 H3 e3=>?_⟩
  have ee:=(e1.trans e2).trans e3
  exact hf H J3 H3 x v l u Q (sr.hp.ext ee) ((r1.ext e2).ext e3) (aE wu fun z q w J' H' e4 r4=>q w J' H' (ee.trans e4) (RR.from ee.h r4))
def LI (x:R) (l u:Option Int):M R:=jw x >>= fun xs=>.ok (.l .fresh (cutD xs l u))
theorem AR {ss:List Str}:∀{us:List Value},Vals (ss.map V.str) us→StrsAre us ss:=by
 induction ss with
 | nil=>intro us h;cases h;exact .nil
 | cons x r ih=>
  intro us h
  cases h with
  | cons q rs=>
   obtain ⟨t,rfl⟩:=q
   exact .cons x t (ih rs)
theorem uf:∀{us:List Value}{ss:List Str},StrsAre us ss→Vals (ss.map V.str) us
 | _,_,.nil=>.nil
 | _,_,.cons y t h=>.cons ⟨t,rfl⟩ (uf h)
def jy (x y:Str):Bool:=decide (x.cps.toList≤y.cps.toList)
def pe (ss:List Str):List Str:=ss.mergeSort jy
theorem tG (x y z:Str) (h1:jy x y=true) (h2:jy y z=true):jy x z=true:=by
 unfold jy at *
 exact decide_eq_true (List.le_trans (of_decide_eq_true h1) (of_decide_eq_true h2))
theorem BP (x y:Str):(jy x y || jy y x)=true:=by
 unfold jy
 rw [Bool.or_eq_true]
 rcases List.le_total x.cps.toList y.cps.toList with h | h
 ·exact .inl (decide_eq_true h)
 ·exact .inr (decide_eq_true h)
theorem Dt {x y:Str}(h1:jy x y=true) (h2:jy y x=true):x=y:=by
 unfold jy at *
 have:=List.le_antisymm (of_decide_eq_true h1) (of_decide_eq_true h2)
 obtain ⟨⟨cx⟩⟩:=x
 obtain ⟨⟨cy⟩⟩:=y
 simp only at this
 rw [this]
theorem xK (ss:List Str):(pe ss).Pairwise fun x y=>jy x y=true:=List.pairwise_mergeSort tG BP ss
theorem AQ (ss:List Str):(pe ss).Perm ss:=List.mergeSort_perm ss jy
theorem q9:∀(x:Str) (r:List Str),risingS x r=true→(x::r).Pairwise fun x y=>jy x y=true
 | x,[],_=>by simp
 | x,y::r,h=>by
  unfold risingS at h
  rw [Bool.and_eq_true] at h
  have hy:=q9 y r h.2
  have hxy:jy x y=true:=by
   have h1:=h.1
   rw [ltCps_eq] at h1
   unfold jy
   refine decide_eq_true ?_
   have:¬y.cps.toList < x.cps.toList:=by simpa using h1
   exact this
  refine List.pairwise_cons.mpr ⟨fun z hz=>?_,hy⟩
  rcases List.mem_cons.mp hz with rfl | hz
  ·exact hxy
  ·exact tG x y z hxy ((List.pairwise_cons.mp hy).1 z hz)
theorem AO {ss ss':List Str}(hp:ss'.Perm ss) (hs:sortedS ss'=true):ss'=pe ss:=by
 have pw:ss'.Pairwise fun x y=>jy x y=true:=by
  cases ss' with
  | nil=>exact List.Pairwise.nil
  | cons x r=>exact q9 x r hs
 exact (hp.trans (AQ ss).symm).eq_of_pairwise (fun x y _ _ h1 h2=>Dt h1 h2) pw (xK ss)
theorem vS:bN X (.builtin "sorted") (fun xs H Q=>∃p ss,xs=[.ref p]∧cA X.K H p (ss.map V.str)∧ss.length < 64∧∀ss',ss'.Perm ss→sortedS ss'=true→∀l,H l=none→Q (.ref l) (upd H l (.lst (ss'.map V.str)))):=by
 intro pins s σ H xs us Q I r h
 obtain ⟨p,ss,rfl,hq,hl,q⟩:=h
 obtain ⟨u,rfl,rx⟩:=vals1 r
 cases rx
 obtain ⟨its,r',pl,hz⟩:=I.list hq
 have hlen:=r'.length
 refine sorted_strs pl.isList (AR r') (by rw [←hlen,List.length_map];exact hl) fun out ss' a1 a2 a3=>?_
 obtain ⟨n,hn⟩:=sortedAll_at s.heap its out
 have kp:∀b o,s.heap.get? b=some o→(sortedAll s.heap its out).get? b=some o:=fun b o e=>sortedAll_old e
 have fr:H (s.heap.objs.size + 1)=none:=I.hok.fresh (Nat.le_succ _)
 have ll:(ss'.map V.str).length=(ss.map V.str).length:=by rw [List.length_map,List.length_map,a2.length_eq]
 refine ⟨.ref (s.heap.objs.size + 1),_,I.laid (t':=s.toks) kp (Nat.le_succ _) (show cg X.prog X.w _ _ _ (.lst (ss'.map V.str)) from ⟨by rw [ll];exact hz,out.toList,n,uf a1,by simpa [seqObj] using hn⟩),rfl,q ss' a2 a3 _ fr⟩
def strsOf:List D→Option (List Str)
 | []=>some []
 | .str x::r=>(strsOf r).map (x::·)
 | _::_=>none
theorem rC {K:PySem.W.Frag}{J:Hp}:∀{ds:List D}{vs:List V}{ss:List Str},strsOf ds=some ss→aG K J ds vs→vs=ss.map V.str
 | [],_,_,h,.nil=>by cases h;rfl
 | .str x::r,_,ss,h,.cons q rs=>by
  unfold strsOf at h
  cases z:strsOf r with
  | none=>rw [z] at h;cases h
  | some ss'=>
   rw [z] at h
   cases h
   cases q
   rw [rC z rs]
   rfl
theorem t6 {K:PySem.W.Frag}{J:Hp}:∀(ss:List Str),aG K J (ss.map D.str) (ss.map V.str)
 | []=>.nil
 | x::r=>.cons (.str x) (t6 r)
def j3:List R→M R
 | [r]=>jw r >>= fun xs=>match strsOf xs with
  | some ss=>if ss.length < 64 then .ok (.l .fresh ((pe ss).map .str)) else .bad
  | none=>.bad
 | _=>.bad
theorem kh:bootBuiltins "sorted"=some (.builtin "sorted"):=by decide +kernel
theorem B_ {p:Pos}{gs:G (List R)}(ha:iF X c (e::es) gs) (hm:X.mg "sorted"=none) (hK:X.K=c.K:=by rfl) (hg:Gl X "sorted":=by rfl)
  (he:starEach (e::es) X.env=(false,eval e X.env)::starEach es X.env:=by rfl) (hpl:(backTo pos (starEach es X.env)).any (·.1)=false:=by rfl):PD X c (.Call (.Name "sorted" p) (e::es) [] pos) (gN j3 gs):=
 kC vS (by
  intro He J H xs vs Q hp rs w
  unfold j3 at w
  split at w
  ·obtain ⟨v,rfl,r⟩:=rs.one
   obtain ⟨xs,q,w⟩:=mH w
   obtain ⟨p,vs,rfl,h1,h2⟩:=RR.list hp r q
   split at w
   ·rename_i ss z
    split at w
    ·rename_i hl
     have:=rC z h2
     subst this
     refine ⟨p,ss,rfl,by rw [hK];exact h1,hl,fun ss' hp' hs' l hl'=>?_⟩
     rw [AO hp' hs']
     exact w _ _ _ (Ext.new hp.sub hl' _) (i9 hp hl' (t6 _))
    ·exact w.elim
   ·exact w.elim
  ·exact w.elim) kh hm ha hg (by decide) (by decide) he hpl
theorem foldl_size (c:Array Nat):∀(k:Nat) (acc:Array Nat),((List.replicate k c).foldl (·++·) acc).size=acc.size + k * c.size
 | 0,acc=>by simp
 | k + 1,acc=>by
  rw [List.replicate_succ,List.foldl_cons,foldl_size c k,Array.size_append,Nat.succ_mul]
  omega
def iC (x:Str) (n:Nat):Str:=⟨(List.replicate n x.cps).foldl (·++·) #[]⟩
theorem yq (x:Str) (n:Nat):(iC x n).length=n * x.length:=by
 unfold iC Str.length
 simp only
 rw [foldl_size]
 simp
theorem FZ:cR X (binaryOp .Mult) (fun x y H Q=>∃z n,x=.str z∧y=.int n∧0≤n∧n≤1000∧z.length≤1000∧Q (.str (iC z n.toNat)) H):=by
 intro pins s σ H x y v u Q I rx ry h
 obtain ⟨z,n,rfl,rfl,h0,h1,h2,q⟩:=h
 obtain ⟨t,rfl⟩:=rx
 obtain ⟨t',rfl⟩:=ry
 have hz:Builtin.Str.tooLong (z.length * n.toNat)=false:=by
  have:z.length * n.toNat≤1000 * 1000:=Nat.mul_le_mul h2 (by omega)
  unfold Builtin.Str.tooLong
  exact decide_eq_false (by have:=sizeLine_eq;omega)
 refine PySem.P.mul_str (by
  rw [decide_eq_false (by omega:¬n < -(2 ^ 63:Int)),decide_eq_false (by omega:¬n ≥ 2 ^ 63)];rfl) (fun hn _=>?_) (fun _ _=>hz) ?_
 ·have:(2 ^ 63 - 1:Int) / 1000≤(2 ^ 63 - 1) / n:=by
   refine (Int.le_ediv_iff_mul_le (by omega)).mpr ?_
   have:(2 ^ 63 - 1:Int) / 1000 * n≤(2 ^ 63 - 1:Int) / 1000 * 1000:=Int.mul_le_mul_of_nonneg_left h1 (by decide)
   exact Int.le_trans this (by decide)
  have e:(2 ^ 63 - 1:Int) / 1000=9223372036854775:=by decide
  omega
 ·split
  ·rename_i hn
   have e:n=0:=by omega
   subst e
   exact ⟨by decide,.str _,H,I.tok _,⟨_,rfl⟩,q⟩
  ·split
   ·rename_i hn hc
    have e:iC z n.toNat=z:=by
     unfold iC
     rw [Bool.or_eq_true] at hc
     rcases hc with hc | hc
     ·have e:n=1:=by simpa using hc
      subst e
      simp
     ·have e:z.length=0:=by simpa using hc
      have e2:z.cps=#[]:=by
       unfold Str.length at e
       exact Array.eq_empty_of_size_eq_zero e
      obtain ⟨cz⟩:=z
      simp only at e2
      subst e2
      congr 1
      generalize n.toNat=k
      induction k with
      | zero=>rfl
      | succ k ih=>rw [List.replicate_succ,List.foldl_cons];exact ih
    rw [e] at q
    exact ⟨.str z,H,I,⟨_,rfl⟩,q⟩
   ·exact ⟨by
     have:=yq z n.toNat
     unfold iC at this
     rw [this,Nat.mul_comm]
     have:z.length * n.toNat≤1000 * 1000:=Nat.mul_le_mul h2 (by omega)
     rw [sizeLine_eq]
     omega,.str _,H,I.tok _,⟨_,rfl⟩,q⟩
def z_:R→R→M R
 | .d (.str z),.d (.int n)=>if 0≤n∧n≤1000∧z.length≤1000 then .ok (.d (.str (iC z n.toNat))) else .bad
 | _,_=>.bad
def kJ:D→String
 | .non=>"NoneType"
 | .bl _=>"bool"
 | .int _=>"int"
 | .str _=>"str"
 | .tup _=>"tuple"
 | .lst _=>"list"
 | .emp=>"dict"
 | .exn _ _ _=>"exc"
 | .dct _ _=>"dict"
def oQ (t T:String):Bool:=t == T || (t == "bool" && T == "int")
end
section
variable {X:Cx}{c:C}{e a b tg:Expr}{es:List Expr}{ga gb g:G R}{pos:Pos}
def BJ:R→Bool
 | .d (.int _)=>true
 | _=>false
def HX:R→Bool
 | .d (.str _)=>true
 | _=>false
def dH (x y:R):M R:=if BJ x then C_ x y else if HX x then qA x y else qB x y
theorem Gs (ha:PD X c a ga) (hb:PD X c b gb):PD X c (.BinOp a .Add b pos) (g2 dH ga gb):=by
 have h1:BD c (kG fun i j=>.int (i + j)) C_:=iZ fun _ _ _=>.int _
 have q:=m_ (pos:=pos) (BS.or (qW.or BU)) (BD.or (c:=c) (fun x _=>BJ x) h1 (BD.or (c:=c) (fun x _=>HX x) (f:=qA) (f':=qB) (by
  intro He He' J H x y u v Q hp rx ry w
  unfold qA at w
  split at w
  ·cases rx;cases ry
   split at w
   ·rename_i h;exact ⟨_,_,rfl,rfl,h,w _ J H (Ext.refl hp.sub) (.str _)⟩
   ·exact w.elim
  ·exact w.elim) (by
  intro He He' J H x y u v Q hp rx ry w
  unfold qB at w
  split at w
  ·rename_i hm
   rw [Bool.and_eq_true] at hm
   obtain ⟨p,vs,xs,e1,rfl,h1,s1⟩:=rx.made hm.1
   obtain ⟨p2,vs2,ys,e2,rfl,h2,s2⟩:=ry.made hm.2
   rw [e1,e2] at w
   simp only [aT] at w
   split at w
   ·rename_i hz
    rw [s1.length,s2.length] at hz
    exact ⟨p,p2,vs,vs2,rfl,rfl,h1,h2,hz,fun q hq=>w _ J _ (Ext.new hp.sub hq _) (i9 hp hq (s1.append s2))⟩
   ·exact w.elim
  ·exact w.elim))) ha hb
 exact q
def gf (x y:R):M R:=if BJ x then HN x y else z_ x y
theorem DV (ha:PD X c a ga) (hb:PD X c b gb):PD X c (.BinOp a .Mult b pos) (g2 gf ga gb):=by
 have h1:BD c (rI zv fun i j=>.int (i * j)) HN:=zM (fun i j h=>FE h) fun _ _ _=>.int _
 exact m_ (pos:=pos) (IB.or FZ) (BD.or (c:=c) (fun x _=>BJ x) h1 (f':=z_) (by
  intro He He' J H x y u v Q hp rx ry w
  unfold z_ at w
  split at w
  ·cases rx;cases ry
   split at w
   ·rename_i h;exact ⟨_,_,rfl,rfl,h.1,h.2.1,h.2.2,w _ J H (Ext.refl hp.sub) (.str _)⟩
   ·exact w.elim
  ·exact w.elim)) ha hb
def bf (x y:R):M R:=match x,y with
 | .d (.str z),.d (.int i)=>if z.length≤sizeLine then (match kN z.cps.toList i with
  | some k=>.ok (.d (.str ⟨#[k]⟩))
  | none=>.bad) else .bad
 | x,.d (.int i)=>iX x >>= fun xs=>(match kN xs i with
  | some d=>.ok (.d d)
  | none=>.bad)
 | _,_=>.bad
theorem DS (ha:PD X c a ga) (hb:PD X c b gb) (hK:X.K=c.K:=by rfl) (hs:jW b:=by exact fun _ _=>rfl):PD X c (.Subscript a b pos) (g2 bf ga gb):=ET Ic (by
 intro He He' J H x y u v Q hp rx ry w
 rw [hK]
 unfold bf at w
 split at w
 ·cases rx;cases ry
  split at w
  ·rename_i h
   split at w
   ·rename_i k hk;exact .inr (.inr ⟨_,_,k,rfl,rfl,h,hk,w _ J H (Ext.refl hp.sub) (.str _)⟩)
   ·exact w.elim
  ·exact w.elim
 ·cases ry
  obtain ⟨xs,q,w⟩:=mJ w
  obtain ⟨p,vs,rfl,hl,hs⟩:=oU hp rx q
  split at w
  ·rename_i d hd
   obtain ⟨z,h1,h2⟩:=GZ hs hd
   have fin:=w z J H (Ext.refl hp.sub) h2
   rcases hl with hl | hl
   ·exact .inl ⟨p,vs,_,z,rfl,rfl,hl,h1,fin⟩
   ·exact .inr (.inl ⟨p,vs,_,z,rfl,rfl,hl,h1,fin⟩)
  ·exact w.elim
 ·exact w.elim) ha hb hs
def bQ (P:Program) (w:World) (K:PySem.W.Frag) (mg:Str→Option Value) (base:Heap) (k n:Nat) (x:Str) (Fm:List S→M R):Prop:=
 ∃f fd ps,eY P w K mg base nC k f fd ps (rB K n Fm)∧mg x=some (.ref f)∧PySem.W.keepIn K (.ref f)=true∧Binds K fd ps []
theorem IX {k k' n:Nat}{F:List S→M R}{x:Str}{p:Pos}{gs:G (List R)}(G:bQ X.prog X.w X.K X.mg X.base k n x F) (hr:cV k' X.A) (ha:iF X c (e::es) gs) (hk:k≤k':=by decide) (hT:c.K=X.K:=by rfl) (hg:Gl X x:=by rfl) (hdb:(x == ("__debug__":Str))=false:=by decide)
  (he:starEach (e::es) X.env=(false,eval e X.env)::starEach es X.env:=by rfl) (hpl:(backTo pos (starEach es X.env)).any (·.1)=false:=by rfl):PD X c (.Call (.Name x p) (e::es) [] pos) (gN (aS n F) gs):=by
 obtain ⟨f,fd,ps,h1,h2,h3,h4⟩:=G
 exact Gn h1 (hr.mono hk) h2 h3 h4 ha hT hg hdb he hpl
theorem HB {P:Program}{w:World}{K:PySem.W.Frag}{mg:Str→Option Value}{base:Heap}{x qual:Str}{st:Stmt}{f:Addr}{fd:FuncData}{N ps:List Str}{k:Nat}{Fm:List S→M R}(F:dB K x qual st f fd) (hm:mg x=some (.ref f)) (Sc:bw N ps (au st))
  (hbi:∀(kV doc pm:Value) (an:Option Addr) (cdv ct:Value) (us:List Value),us.length=ps.length→bindArgs (PySem.W.fnOf x qual (aK st) (aI st) (au st) .none kV doc pm an cdv ct) ⟨us,[]⟩=pure (ps.zip us)){gB:G O}
  (hb:∀(cdv:Value) (A:Around) (outer:List Env) (s:Shared) (H:Hp) (E:XK) (J:Hp) (T:Exc→Prop),cV k (A.deeper (envOfC qual (au st) s.heap.objs.size f cdv))→
   nR (EH P w K mg base N qual (au st) f cdv A outer s H E) ⟨K,H,J,T⟩ (aI st) gB)
  (hF:∀as r,as.length=ps.length→Fm as=.ok r→fin (gB (bA N as))=.ok r):bQ P w K mg base (k + 1) ps.length x Fm:=
 ⟨f,fd,ps,By F Sc hb hF,hm,F.kp,F.binds hbi⟩
def DC:List Str→Bool
 | []=>true
 | x::r=>!(r.contains x) && DC r
theorem cC:∀{l:List Str},DC l=true→l.Nodup
 | [],_=>List.nodup_nil
 | x::r,h=>by
  unfold DC at h
  rw [Bool.and_eq_true] at h
  refine List.nodup_cons.mpr ⟨fun z=>?_,cC h.2⟩
  have:=h.1
  simp [z] at this
theorem Gj {t:GT}(h:PD X c e g) (ht:gE X c tg t) (hs:swapsWithSole [tg] e pos.line X.env=pure false:=by rfl) (hw:swappedStores [tg] e X.env=pure none:=by rfl)
  (h1:(assignEach [tg] X.env).map (·.2)=[assign tg X.env]:=by rfl):jd X c (.Assign [tg] e pos) (kj t g):=Ge h ht (Jx h ht hs hw h1)
end
section
variable {X:Cx}{c:C}{e a b tg:Expr}{es:List Expr}{ga gb g:G R}{pos:Pos}
theorem C9 {X:Cx}{pins:List (Addr×Obj)}{σ:L2.St}{H:Hp}{s:Shared}{a C:Addr}{dx:Option Addr}{ns:List Str}{vs:List V}(I:L2.Inv X pins σ H s) (h:H a=some (DX.XO a C dx)) (xf:XF H dx ns vs):∃ox od,PySem.W.InstAt s.heap a ox C od∧od.isSome=dx.isSome∧(∀d,dx=some d→∃o,od=some o∧s.heap.get? d=some o):=by
 obtain ⟨⟨oe,fs,h1,h2,h3,h4⟩,_⟩:=I.hok a _ h
 have hn:PySem.W.notCls oe=true:=by unfold PySem.W.notCls;rw [h4]
 rcases xf with ⟨rfl,_⟩ | ⟨d,rfl,_,hd⟩
 ·exact ⟨oe,none,⟨h1,h2,hn,by rw [h3];exact True.intro⟩,rfl,fun d z=>by cases z⟩
 ·obtain ⟨m,⟨o,es,ep,k1,_⟩,_⟩:=I.hok d _ hd
  exact ⟨oe,some o,⟨h1,h2,hn,by rw [h3];exact k1⟩,rfl,fun d' z=>by cases z;exact ⟨o,rfl,k1⟩⟩
def yD (T:String):Prop:=(∀(K:PySem.W.Frag) (t:String),t∈["NoneType","bool","int","str","tuple","list","dict"]→PySem.W.kitOne K (.type t) (.type T)=some (oQ t T))∧PySem.W.kitMeta T=true∧DX.xV.contains (.type T)=false∧oQ "exc" T=false
theorem y9:yD "int":=⟨fun K t h=>by
 simp only [List.mem_cons,List.not_mem_nil,or_false] at h
 rcases h with rfl | rfl | rfl | rfl | rfl | rfl | rfl <;> rfl,by decide +kernel,by decide,by decide⟩
theorem wJ:yD "bool":=⟨fun K t h=>by
 simp only [List.mem_cons,List.not_mem_nil,or_false] at h
 rcases h with rfl | rfl | rfl | rfl | rfl | rfl | rfl <;> rfl,by decide +kernel,by decide,by decide⟩
theorem kit_tuple:yD "tuple":=⟨fun K t h=>by
 simp only [List.mem_cons,List.not_mem_nil,or_false] at h
 rcases h with rfl | rfl | rfl | rfl | rfl | rfl | rfl <;> rfl,by decide +kernel,by decide,by decide⟩
theorem yk {T:String}(kit:yD T):
  bN X (.builtin "isinstance") (fun xs H Q=>∃d x,xs=[x,.ty T]∧Rep X.K H d x∧Q (.bl (oQ (kJ d) T)) H):=by
 intro pins s σ H xs us Q I r h
 obtain ⟨d,x,rfl,hd,q⟩:=h
 obtain ⟨u,w',rfl,rx,ry⟩:=vals2 r
 cases ry
 have fin:∀tk,EP X pins σ Q (.bool (oQ (kJ d) T)) {s with toks:=tk}:=fun tk=>⟨.bl _,H,I.tok tk,rfl,q⟩
 have F:=j5 I
 cases hd with
 | non=>cases rx;exact PySem.W.kia_one PySem.W.kitx_none I.kIn True.intro (kit.1 X.K _ (by simp [kJ])) (fun z=>nomatch z) fin
 | bl y=>cases rx;exact PySem.W.kia_one PySem.W.kitx_bool I.kIn True.intro (kit.1 X.K _ (by simp [kJ])) (fun z=>nomatch z) fin
 | int i=>obtain ⟨t,rfl⟩:=rx;exact PySem.W.kia_one PySem.W.kitx_int I.kIn True.intro (kit.1 X.K _ (by simp [kJ])) (fun z=>nomatch z) fin
 | str y=>obtain ⟨t,rfl⟩:=rx;exact PySem.W.kia_one PySem.W.kitx_str I.kIn True.intro (kit.1 X.K _ (by simp [kJ])) (fun z=>nomatch z) fin
 | tup h hs=>
  cases rx
  obtain ⟨its,r,o,h1,h2,_⟩:=F.t _ _ h
  exact PySem.W.kia_one PySem.W.kitx_tuple I.kIn ⟨o,h1,h2⟩ (kit.1 X.K _ (by simp [kJ])) (fun z=>nomatch z) fin
 | lst h hs=>
  cases rx
  obtain ⟨its,r,o,h1,h2,_⟩:=F.l _ _ h
  exact PySem.W.kia_one PySem.W.kitx_list I.kIn ⟨o,h1,h2⟩ (kit.1 X.K _ (by simp [kJ])) (fun z=>nomatch z) fin
 | emp h=>
  cases rx
  obtain ⟨o,h1,h2⟩:=F.e _ h
  exact PySem.W.kia_one PySem.W.kitx_dict I.kIn ⟨o,h1,h2⟩ (kit.1 X.K _ (by simp [kJ])) (fun z=>nomatch z) fin
 | dct h _ _ _ _=>
  cases rx
  obtain ⟨o,es,ep,h1,h2,_⟩:=F.d _ _ h
  exact PySem.W.kia_one PySem.W.kitx_dict I.kIn ⟨o,h1,h2.1⟩ (kit.1 X.K _ (by simp [kJ])) (fun z=>nomatch z) fin
 | exn h1 h2 h3 hs hx=>
  cases rx
  obtain ⟨P,G,E⟩:=hx
  obtain ⟨ox,od,J,_⟩:=C9 I h1 h3
  simp only [kJ,kit.2.2.2] at fin
  exact PySem.W.kia_one (DX.Dn G E) I.kIn ⟨ox,od,J⟩ (DX.Im E kit.2.1 kit.2.2.1) (fun z=>nomatch z) fin
def we (T:String) (g:G R):G R:=fun env=>g env >>= fun r=>.ok (.d (.bl (oQ (kJ r.dat) T)))
theorem B8 {T:String}{Ts:Str}{p p2:Pos}(kit:yD T) (hT:bootBuiltins Ts=some (.type T)) (mT:X.mg Ts=none)
  (h:PD X c a g) (hm:X.mg "isinstance"=none) (hK:X.K=c.K:=by rfl) (hg:Gl X "isinstance":=by rfl) (hgT:Gl X Ts:=by rfl) (hn:Ts≠"__name__":=by decide) (hdT:(Ts == ("__debug__":Str))=false:=by decide)
  (he:starEach [a,.Name Ts p2] X.env=(false,eval a X.env)::starEach [.Name Ts p2] X.env:=by rfl) (he2:starEach [.Name Ts p2] X.env=(false,eval (.Name Ts p2) X.env)::starEach [] X.env:=by rfl)
  (hpl:(backTo pos (starEach [.Name Ts p2] X.env)).any (·.1)=false:=by rfl):PD X c (.Call (.Name "isinstance" p) [a,.Name Ts p2] [] pos) (we T g):=
 fk (nc (yk kit) hg hm (by decide +kernel) (fD h (fD (Gw hgT mT hT (v:=.ty T) rfl hn hdT) ia he2) he) (by decide) (by decide) he hpl) fun σ H Q ⟨J,env,sr,w⟩=>by
  refine ⟨J,env,sr,aE (aM w) fun r wr v J1 H1 e1 r1=>?_⟩
  exact ⟨r.dat,v,rfl,by rw [hK];exact r1.dat (sr.hp.ext e1),wr _ J1 H1 e1 (.bl _)⟩
def jr:List D→Option (List Bool)
 | []=>some []
 | .bl k::r=>(jr r).map (k::·)
 | _::_=>none
theorem nU {K:PySem.W.Frag}{J:Hp}:∀{ds:List D}{vs:List V}{ks:List Bool},jr ds=some ks→aG K J ds vs→vs=ks.map V.bl
 | [],_,_,h,.nil=>by cases h;rfl
 | .bl x::r,_,ks,h,.cons q rs=>by
  unfold jr at h
  cases z:jr r with
  | none=>rw [z] at h;cases h
  | some ks'=>
   rw [z] at h
   cases h
   cases q
   rw [nU z rs]
   rfl
theorem qb:∀{ks:List Bool}{us:List Value},Vals (ks.map V.bl) us→us=ks.map Value.bool
 | [],_,.nil=>rfl
 | k::ks,_,.cons r rs=>by
  cases r
  rw [qb rs]
  rfl
theorem all_range (ks:List Bool):(List.range ks.length).all (fun i=>ks.getD i true)=ks.all id:=by
 induction ks with
 | nil=>rfl
 | cons k r ih=>
  rw [List.length_cons,List.range_succ_eq_map,List.all_cons,List.all_map,List.all_cons]
  simp only [List.getD_cons_zero]
  rw [←ih]
  rfl
theorem Bg (hc:X.calm=true):bN X (.builtin "all") (fun xs H Q=>∃(p:Addr) (ks:List Bool),xs=[.ref p]∧cA X.K H p (ks.map V.bl)∧Q (.bl (ks.all id)) H):=by
 intro pins s σ H xs us Q I r h
 obtain ⟨p,ks,rfl,hq,q⟩:=h
 obtain ⟨u,rfl,rx⟩:=vals1 r
 cases rx
 obtain ⟨its,r',pl,hz⟩:=I.list hq
 have hi:=qb r'
 subst hi
 have hpn:p≠s.heap.objs.size:=by
  obtain ⟨o,h1,_⟩:=pl.isList
  exact Nat.ne_of_lt (Heap.lt_size h1)
 refine call_all_walk (wpAny_pyIter_list pl.isList ⟨s.heap.objs.size,_,_,_,_,_,(fun i=>ks.getD i true),rfl,Walks.list (A:=X.A.in1) (show X.A.in1.handled=none from I.ok.hd hc) s.heap.objs.size p hpn (ks.map Value.bool).toArray,⟨⟨_,Heap.get?_push_size _ rfl,rfl,rfl⟩,Heap.IsList.push pl.isList _⟩,?_,fun h' tk k=>?_⟩)
 ·intro i v s' Q' E' hP hQ
  have e:∃k,ks[i]?=some k∧v=.bool k:=by
   have hP':(ks.map Value.bool)[i]?=some v:=by simpa using hP
   rw [List.getElem?_map] at hP'
   cases z:ks[i]? with
   | none=>rw [z] at hP';cases hP'
   | some k=>rw [z] at hP';cases hP';exact ⟨k,rfl,rfl⟩
  obtain ⟨k,e1,rfl⟩:=e
  simp only at hQ
  rw [List.getD_eq_getElem?_getD,e1] at hQ
  exact wpAny_truthy_bool hQ
 ·have sz:(ks.map Value.bool).toArray.size=ks.length:=by simp
  rw [sz,all_range]
  refine ⟨.bl (ks.all id),H,?_,rfl,q⟩
  refine I.kept fun b o e=>k b o (fun z=>?_) (Heap.get?_push_of_some _ e)
  have:b=s.heap.objs.size:=by simpa using z
  exact absurd (this▸Heap.lt_size e) (Nat.lt_irrefl _)
def i6:List R→M R
 | [r]=>jw r >>= fun xs=>match jr xs with
  | some ks=>.ok (.d (.bl (ks.all id)))
  | none=>.bad
 | _=>.bad
theorem Bc:bootBuiltins "all"=some (.builtin "all"):=by decide +kernel
theorem IU {p:Pos}{gs:G (List R)}(ha:iF X c (e::es) gs) (hm:X.mg "all"=none) (hK:X.K=c.K:=by rfl) (hc:X.calm=true:=by rfl) (hg:Gl X "all":=by rfl)
  (he:starEach (e::es) X.env=(false,eval e X.env)::starEach es X.env:=by rfl) (hpl:(backTo pos (starEach es X.env)).any (·.1)=false:=by rfl):PD X c (.Call (.Name "all" p) (e::es) [] pos) (gN i6 gs):=
 kC (Bg hc) (by
  intro He J H xs vs Q hp rs w
  unfold i6 at w
  split at w
  ·obtain ⟨v,rfl,r⟩:=rs.one
   obtain ⟨xs,q,w⟩:=mH w
   obtain ⟨p,vs,rfl,h1,h2⟩:=RR.list hp r q
   split at w
   ·rename_i ks z
    have:=nU z h2
    subst this
    exact ⟨p,ks,rfl,by rw [hK];exact h1,w _ J H (Ext.refl hp.sub) (.bl _)⟩
   ·exact w.elim
  ·exact w.elim) Bc hm ha hg (by decide) (by decide) he hpl
def MA (neg:Bool):R→R→M R
 | .d (.str i),.d (.str j)=>.ok (.d (.bl (if neg then !(!(Builtin.Str.occurrences j i 0 j.length 1).isEmpty) else !(Builtin.Str.occurrences j i 0 j.length 1).isEmpty)))
 | _,_=>.bad
def BB (p q:Int→Int→Bool) (ga gb gc:G R):G R:=fun env=>ga env >>= fun x=>gb env >>= fun y=>match x,y with
 | .d (.int i),.d (.int j)=>if p i j then (gc env >>= fun z=>match z with
  | .d (.int k)=>.ok (.d (.bl (q j k)))
  | _=>.bad) else .ok (.d (.bl false))
 | _,_=>.bad
theorem KW {op op':CmpOp}{p q:Int→Int→Bool}{x:Expr}{gc:G R}(ho:cR X (compareOp op) (kG fun i j=>.bl (p i j))) (ho':cR X (compareOp op') (kG fun i j=>.bl (q i j))) (ha:PD X c a ga) (hb:PD X c b gb) (hc:PD X c x gc)
  (hm:lastMarks [op,op'] [b,x]=false:=by with_unfolding_all rfl):PD X c (.Compare a [op,op'] [b,x] pos) (BB p q ga gb gc):=fk (DZ ho ho' ha hb hc hm) fun σ H Q ⟨J,env,sr,w⟩=>by
 refine ⟨J,env,sr,aE (aM w) fun r1 w1 v1 J1 H1 e1 q1=>?_⟩
 refine ⟨J1,env,sr.ext e1,aE (aM w1) fun r2 w2 v2 J2 H2 e2 q2=>?_⟩
 split at w2
 ·rename_i i j
  cases q1
  cases q2
  refine ⟨i,j,rfl,rfl,p i j,rfl,?_⟩
  cases hp:p i j with
  | true=>
   rw [hp] at w2
   refine H_ ⟨J2,env,(sr.ext e1).ext e2,aE (aM w2) fun r3 w3 v3 J3 H3 e3 q3=>?_⟩
   split at w3
   ·cases q3
    exact ⟨j,_,rfl,rfl,w3 _ J3 H3 ((e1.trans e2).trans e3) (.bl _)⟩
   ·exact w3.elim
  | false=>
   rw [hp] at w2
   exact HZ (w2 _ J2 H2 (e1.trans e2) (.bl _))
 ·exact w2.elim
end
section
variable {X:Cx}{c:C}{e a b tg:Expr}{es:List Expr}{ga gb g:G R}{pos:Pos}
theorem Gp {d:D}{v:V}{x:Str}{u:Value}(hm:X.mg x=some u) (r:RelV v u) (hr:∀J,Rep c.K J d v) (hg:Gl X x:=by rfl) (hd:(x == ("__debug__":Str))=false:=by decide):PD X c (.Name x pos) (gC d):=qX hr (Gy hg hm r hd)
theorem Hy {pins:List (Addr×Obj)}{σ:L2.St}{H:Hp}{s:Shared}(I:Inv X pins σ H s):sysModules < s.heap.objs.size:=by
 have h:mainGlobals < s.heap.objs.size:=(I.mod.glob.keeps I.bk).lt
 exact Nat.lt_trans (by decide) h
theorem BV:cR X (binaryOp .Add) (fun x y H Q=>∃a b xs ys,x=.ref a∧y=.ref b∧cT X.K H a xs∧cT X.K H b ys∧xs.length + ys.length≤sizeLine∧
  (xs=[]→Q (.ref b) H)∧(ys=[]→Q (.ref a) H)∧∀p,H p=none→Q (.ref p) (upd H p (.tup (xs++ys)))):=by
 intro pins s σ H x y v u Q I rx ry h
 obtain ⟨a,b,xs,ys,rfl,rfl,ha,hb,hz,q0,q1,q2⟩:=h
 by_cases hx:xs=[]
 ·cases rx
  cases ry
  obtain ⟨its,r1,p1,_⟩:=I.tuple ha
  obtain ⟨its2,r2,p2,_⟩:=I.tuple hb
  have he:its=[]:=r1.nil_iff.mpr hx
  subst he
  obtain ⟨⟨cls,dd,data,sl⟩,ho,hc,n,hd⟩:=id p1
  obtain ⟨⟨cls2,dd2,data2,sl2⟩,ho2,hc2,n2,hd2⟩:=id p2
  simp only at hc hd hc2 hd2
  subst hc hd hc2 hd2
  exact concat_meets ⟨_,ho,rfl⟩ ⟨_,ho2,rfl⟩ noFill_tuple_add seq_tuple_add PySem.F.slot_tuple_add PySem.F.entry_tuple_add (PySem.F.args_tuple_add_2 _ _) (tuple_addW0 a b _ _ n n2 dd dd2 sl sl2 rfl) ⟨ho,ho2,⟨.ref b,H,I,rfl,q0 hx⟩⟩
 ·exact FW pins s σ H (.ref a) (.ref b) v u Q I rx ry ⟨a,b,xs,ys,rfl,rfl,ha,hb,hx,hz,q1,fun _=>q2⟩
def zY:R→R→M R
 | .d (.tup xs),.d (.tup ys)=>if xs.length + ys.length≤sizeLine then .ok (.d (.tup (xs++ys))) else .bad
 | _,_=>.bad
theorem Fb (hK:X.K=c.K):BD c (fun x y H Q=>∃a b xs ys,x=.ref a∧y=.ref b∧cT X.K H a xs∧cT X.K H b ys∧xs.length + ys.length≤sizeLine∧
  (xs=[]→Q (.ref b) H)∧(ys=[]→Q (.ref a) H)∧∀p,H p=none→Q (.ref p) (upd H p (.tup (xs++ys)))) zY:=by
 intro He He' J H x y u v Q hp rx ry w
 unfold zY at w
 split at w
 ·rename_i ds es
  cases rx with
  | tup h1 s1=>
   cases ry with
   | tup h2 s2=>
    split at w
    ·rename_i hz
     rw [s1.length,s2.length] at hz
     refine ⟨_,_,_,_,rfl,rfl,by rw [hK];exact eU hp.sub h1,by rw [hK];exact eU hp.sub h2,hz,fun e=>?_,fun e=>?_,fun p hp'=>w _ _ _ (Ext.newJ hp.sub hp' _) (oG hp hp' (s1.append s2))⟩
     ·have e':ds=[]:=List.eq_nil_of_length_eq_zero (by rw [s1.length,e];rfl)
      subst e'
      exact w _ J H (Ext.refl hp.sub) (.tup h2 s2)
     ·have e':es=[]:=List.eq_nil_of_length_eq_zero (by rw [s2.length,e];rfl)
      subst e'
      rw [List.append_nil] at w
      exact w _ J H (Ext.refl hp.sub) (.tup h1 s1)
    ·exact w.elim
 ·exact w.elim
def HY:R→Bool
 | .d (.tup _)=>true
 | _=>false
def dh (x y:R):M R:=if HY x then zY x y else dH x y
theorem Gk (ha:PD X c a ga) (hb:PD X c b gb) (hK:X.K=c.K:=by rfl):PD X c (.BinOp a .Add b pos) (g2 dh ga gb):=by
 have h1:BD c (kG fun i j=>.int (i + j)) C_:=iZ fun _ _ _=>.int _
 exact m_ (pos:=pos) (BV.or (BS.or (qW.or BU))) (BD.or (c:=c) (fun x _=>HY x) (Fb hK) (BD.or (c:=c) (fun x _=>BJ x) h1 (BD.or (c:=c) (fun x _=>HX x) (f:=qA) (f':=qB) (by
  intro He He' J H x y u v Q hp rx ry w
  unfold qA at w
  split at w
  ·cases rx;cases ry
   split at w
   ·rename_i h;exact ⟨_,_,rfl,rfl,h,w _ J H (Ext.refl hp.sub) (.str _)⟩
   ·exact w.elim
  ·exact w.elim) (by
  intro He He' J H x y u v Q hp rx ry w
  unfold qB at w
  split at w
  ·rename_i hm
   rw [Bool.and_eq_true] at hm
   obtain ⟨p,vs,xs,e1,rfl,h1,s1⟩:=rx.made hm.1
   obtain ⟨p2,vs2,ys,e2,rfl,h2,s2⟩:=ry.made hm.2
   rw [e1,e2] at w
   simp only [aT] at w
   split at w
   ·rename_i hz
    rw [s1.length,s2.length] at hz
    exact ⟨p,p2,vs,vs2,rfl,rfl,h1,h2,hz,fun q hq=>w _ J _ (Ext.new hp.sub hq _) (i9 hp hq (s1.append s2))⟩
   ·exact w.elim
  ·exact w.elim)))) ha hb
def intsOf:List D→Option (List Int)
 | []=>some []
 | .int i::r=>(intsOf r).map (i::·)
 | _::_=>none
theorem mY {K:PySem.W.Frag}{J:Hp}:∀{ds:List D}{vs:List V}{ns:List Int},intsOf ds=some ns→aG K J ds vs→vs=ns.map V.int
 | [],_,_,h,.nil=>by cases h;rfl
 | .int x::r,_,ks,h,.cons q rs=>by
  unfold intsOf at h
  cases z:intsOf r with
  | none=>rw [z] at h;cases h
  | some ks'=>
   rw [z] at h
   cases h
   cases q
   rw [mY z rs]
   rfl
end
section
variable {X:Cx}{c:C}{e a b tg:Expr}{es:List Expr}{ga gb g:G R}{pos:Pos}
def signs (x:Str):List D:=x.cps.toList.map fun k=>.str ⟨#[k]⟩
def MB (g:G R):G (List D):=fun env=>g env >>= fun r=>match r with
 | .d (.str x)=>.ok (signs x)
 | _=>.bad
theorem yx {prog:Program}{w:World}{A:Around}{E:Value→Shared→Prop}{s:Shared}{t sl:Addr}{items:Array Value}{vl vu:Value}{lo hi:Option Int}{Q:Value→Shared→Prop}(ht:IsTup s.heap t items) (hs:s.heap.IsSliceOf sl vl vu .none) (pl:IsPart vl lo) (pu:IsPart vu hi)
  (hw:HT.bF items.size 0 lo=0∧HT.bF items.size items.size hi=items.size) (h:Q (.ref t) s):wpAny (model prog w) A (getItem (.ref t) (.ref sl)) Q E s:=by
 obtain ⟨os,hos,hcs,hds⟩:=id hs
 have hTs:s.TypeIs (.ref sl) "slice":=⟨os,hos,hcs⟩
 unfold getItem
 try with_reducible refine wpAny_holding ?_
 first | refine wpAny_bind (wpAny_pure ?_) | skip
 refine wpAny_bind (wpAny_sequenceKey ht.typeIs (by decide) ?_)
 refine wpAny_bind (wpAny_callSpecial?_slot (name:=Str.ofString "__getitem__") ht.typeIs PyProof.Rows.slot_tuple_getitem
  (wpAny_call_entry PyProof.Rows.slot_tuple_getitem ht.typeIs entry_tuple_getitem ?_ (args_tuple_getitem _ _)))
 show wpAny _ _ (Builtin.Tuple.tupleItemsOf (.ref t) >>= _) _ _ s
 refine wpAny_bind (tupleItemsOf_ ht ?_)
 refine wpAny_bind (wpAny_typeOf hTs ?_)
 rw [if_pos (by decide)]
 refine wpAny_bind (HT.kI hs pl pu ?_)
 have hyes:(((HT.bF items.size 0 lo:Nat):Int) == 0 && (1:Int) == 1 && (HT.bF items.size items.size hi - HT.bF items.size 0 lo) == items.size)=true:=by
  rw [hw.1,hw.2]
  simp
 show wpAny _ _ (if (((HT.bF items.size 0 lo:Nat):Int) == 0 && (1:Int) == 1 && (HT.bF items.size items.size hi - HT.bF items.size 0 lo) == items.size)=true then _ else _) _ _ s
 rw [if_pos hyes]
 unfold Builtin.Tuple.tupleIsExact
 refine wpAny_bind (wpAny_bind (wpAny_typeOf ht.typeIs (wpAny_pure ?_)))
 rw [if_pos (by decide)]
 exact wpAny_bind (wpAny_rule (wpAny_pure ⟨_,rfl,wpAny_pure h⟩))
theorem Cu:ql X (fun x lo hi H Q=>∃a xs,x=.ref a∧cT X.K H a xs∧((HT.bF xs.length 0 lo=0∧HT.bF xs.length xs.length hi=xs.length)→Q (.ref a) H)∧∀p,H p=none→Q (.ref p) (upd H p (.tup (k_ xs lo hi)))):=by
 intro pins s σ H x v vl vu lo hi sl Q I rx hs pl pu h
 obtain ⟨a,xs,rfl,hx,q0,q1⟩:=h
 by_cases hw:HT.bF xs.length 0 lo=0∧HT.bF xs.length xs.length hi=xs.length
 ·cases rx
  obtain ⟨its,r,ht,hz⟩:=I.tuple hx
  have hlen:its.toArray.size=xs.length:=by rw [List.size_toArray];exact r.length.symm
  exact ⟨"tuple",_,PyProof.Rows.slot_tuple_getitem.lookup,ht.typeIs,yx ht hs pl pu (by rw [hlen];exact hw) ⟨.ref a,H,I,rfl,q0 hw⟩⟩
 ·exact JZ pins s σ H (.ref a) v vl vu lo hi sl Q I rx hs pl pu ⟨a,xs,rfl,hx,hw,q1⟩
theorem zW {xs:List D}{lo hi:Option Int}(h:HT.bF xs.length 0 lo=0∧HT.bF xs.length xs.length hi=xs.length):cutD xs lo hi=xs:=by
 unfold cutD
 rw [h.1,h.2]
 simp
def Dd:R→Option Int→Option Int→M R
 | .d (.tup xs),l,u=>.ok (.d (.tup (cutD xs l u)))
 | _,_,_=>.bad
theorem L6 (hK:X.K=c.K) (He J H:Hp) (x:R) (v:V) (l u:Option Int) (Q:VK) (hp:HI c J H) (rx:RR c He J H x v) (w:cO (Dd x l u) (fun z=>∀w J' H',Ext J H J' H'→RR c H J' H' z w→Q w H') c.T):
  ∃a xs,v=.ref a∧cT X.K H a xs∧((HT.bF xs.length 0 l=0∧HT.bF xs.length xs.length u=xs.length)→Q (.ref a) H)∧∀p,H p=none→Q (.ref p) (upd H p (.tup (k_ xs l u))):=by
 unfold Dd at w
 split at w
 ·rename_i ds
  cases rx with
  | tup h1 s1=>
   refine ⟨_,_,rfl,by rw [hK];exact eU hp.sub h1,fun hw=>?_,fun p hp'=>w _ _ _ (Ext.newJ hp.sub hp' _) (oG hp hp' (s1.cut _ _))⟩
   rw [←s1.length] at hw
   rw [zW hw] at w
   exact w _ J H (Ext.refl hp.sub) (.tup h1 s1)
 ·exact w.elim
def pZ (x:R) (l u:Option Int):M R:=if HY x then Dd x l u else LI x l u
theorem Jh {lo hi:Option Expr}{gl gh:GO}{p2:Pos}(h:PD X c e g) (hl:vz X c lo gl) (hh:vz X c hi gh) (hK:X.K=c.K:=by rfl):PD X c (.Subscript e (.Slice lo hi none p2) pos) (wg pZ g gl gh):=K0 (Cu.or G2) (by
 intro He J H x v l u Q hp rx w
 unfold pZ at w
 split at w
 ·exact .inl (L6 hK He J H x v l u Q hp rx w)
 ·obtain ⟨xs,q,w⟩:=mH w
  obtain ⟨p,vs,rfl,h1,h2⟩:=rx.list hp q
  exact .inr ⟨p,vs,rfl,by rw [hK];exact h1,fun p' hp'=>w _ _ _ (Ext.new hp.sub hp' _) (i9 hp hp' (h2.cut l u))⟩) h hl hh
end
section
variable {X:Cx}{c:C}{e a b tg:Expr}{es:List Expr}{ga gb g:G R}{pos:Pos}
def zy (K:PySem.W.Frag) (mg:Str→Option Value) (x:Str) (d:D):Prop:=∃u v,mg x=some u∧RelV v u∧∀J,Rep K J d v
theorem DR {d:D}{x:Str}(h:zy X.K X.mg x d) (hK:X.K=c.K:=by rfl) (hg:Gl X x:=by rfl) (hd:(x == ("__debug__":Str))=false:=by decide):PD X c (.Name x pos) (gC d):=by
 obtain ⟨u,v,h1,h2,h3⟩:=h
 exact Gp h1 h2 (fun J=>hK▸h3 J) hg hd
theorem sV:bootBuiltins "int"=some (.type "int"):=by decide +kernel
theorem qq:bootBuiltins "bool"=some (.type "bool"):=by decide +kernel
theorem pI:bootBuiltins "tuple"=some (.type "tuple"):=by decide +kernel
end
section
variable {X:Cx}{c:C}{e a b tg:Expr}{es:List Expr}{ga gb g:G R}{pos:Pos}{st:Stmt}{t u:G O}{tb:G Bool}
def qH:G O:=fun _=>.bad
theorem BZ:jd X c st qH:=fun pins s σ H D I ⟨J,env,sr,w⟩=>w.elim
def Ac (g:G R):G R:=fun env=>g env >>= fun r=>match r with
 | .d (.int i)=>.ok (.d (.int (-i)))
 | _=>.bad
theorem Jc (h:PD X c a g):PD X c (.UnaryOp .USub a pos) (Ac g):=fk (K4 Km h) fun σ H Q ⟨J,env,sr,w⟩=>by
 refine ⟨J,env,sr,aE (aM w) fun r wr v J1 H1 e1 r1=>?_⟩
 split at wr
 ·cases r1
  exact ⟨_,rfl,wr _ J1 H1 e1 (.int _)⟩
 ·exact wr.elim
def xT:R→M Bool
 | .d .non=>.ok false
 | .d (.bl b)=>.ok b
 | .d (.int i)=>.ok (i != 0)
 | .d (.str y)=>if y.length≤sizeLine then .ok ((y.length:Int) != 0) else .bad
 | .d (.tup xs)=>.ok (!xs.isEmpty)
 | .d (.lst xs)=>.ok (!xs.isEmpty)
 | .d .emp=>.ok false
 | .d (.exn _ _ _)=>.bad
 | .d (.dct _ _)=>.bad
 | .l _ xs=>.ok (!xs.isEmpty)
theorem HW {K:PySem.W.Frag}{J:Hp}{ds:List D}{vs:List V}(h:aG K J ds vs):ds.isEmpty=vs.isEmpty:=by
 cases h <;> rfl
theorem G9 {He J H:Hp}(hp:HI c J H){Q:Bool→Prop}{T:Exc→Prop}:∀{r:R}{v:V},RR c He J H r v→cO (xT r) Q T→∃k,CU c.K v H k∧Q k
 | .d .non,_,h,w=>by cases h;exact ⟨_,rfl,w⟩
 | .d (.bl b),_,h,w=>by cases h;exact ⟨_,rfl,w⟩
 | .d (.int i),_,h,w=>by cases h;exact ⟨_,rfl,w⟩
 | .d (.str y),_,h,w=>by
  cases h
  unfold xT at w
  simp only at w
  split at w
  ·rename_i hz;exact ⟨_,⟨hz,rfl⟩,w⟩
  ·exact w.elim
 | .d (.tup xs),_,h,w=>by
  cases h with
  | tup h1 h2=>exact ⟨_,.inr (.inl ⟨_,eU hp.sub h1,rfl⟩),by rw [←HW h2];exact w⟩
 | .d (.lst xs),_,h,w=>by
  cases h with
  | lst h1 h2=>exact ⟨_,.inl ⟨_,hp.sub.seq h1,rfl⟩,by rw [←HW h2];exact w⟩
 | .d .emp,_,h,w=>by
  cases h with
  | emp h1=>exact ⟨_,.inr (.inr ⟨_,hp.sub _ _ h1,rfl⟩),w⟩
 | .d (.exn _ _ _),_,_,w=>w.elim
 | .d (.dct _ _),_,_,w=>w.elim
 | .l m xs,_,h,w=>by
  obtain ⟨a,vs,rfl,h1,h2⟩:=RR.list hp h rfl
  exact ⟨_,.inl ⟨_,h1,rfl⟩,by rw [←HW h2];exact w⟩
def se (g:G R):G Bool:=fun env=>g env >>= xT
theorem IQ (h:PD X c e g) (hK:X.K=c.K:=by rfl) (he:∀whole,isTrue e X.env whole=(do let v ←whole;standAt e.pos;holding [v] (truthy v)):=by intro _;rfl):PB X c e (se g):=u7 (D_ h he) fun σ H Q ⟨J,env,sr,w⟩=>by
 refine ⟨J,env,sr,aE (aM w) fun r wr v J1 H1 e1 r1=>?_⟩
 rw [hK]
 obtain ⟨k,k1,k2⟩:=G9 (sr.hp.ext e1) r1 wr
 exact ⟨k,k1,k2 J1 H1 e1⟩
theorem aG.eraseIdx {K:PySem.W.Frag}{J:Hp}:∀{ds:List D}{vs:List V}(k:Nat),aG K J ds vs→aG K J (ds.eraseIdx k) (vs.eraseIdx k)
 | _,_,_,.nil=>by rw [List.eraseIdx_nil,List.eraseIdx_nil];exact .nil
 | _,_,0,.cons _ t=>t
 | _,_,k + 1,.cons r t=>.cons r (aG.eraseIdx k t)
def MD (i j:Nat):G O:=fun env=>match env[j]? with
 | some (some (.own xs))=>(match xs[xs.length - 1]? with
  | some d=>.ok (.nx ((env.set j (some (.own xs.dropLast))).set i (some (.d d))))
  | none=>.bad)
 | _=>.bad
def j4 (i j:Nat) (g:G R):G O:=fun env=>match env[i]?,env[j]? with
 | some (some (.own zs)),some (some (.own xs))=>if i=j then .bad else g env >>= fun r=>(match r with
  | .d (.int k)=>if 0≤k∧k.toNat < xs.length∧zs.length < sizeLine∧xs.length≤sizeLine then (match xs[k.toNat]? with
   | some d=>.ok (.nx ((env.set j (some (.own (xs.eraseIdx k.toNat)))).set i (some (.own (zs++[d])))))
   | none=>.bad) else .bad
  | _=>.bad)
 | _,_=>.bad
end
section
variable {X:Cx}{c:C}{e a b tg:Expr}{es:List Expr}{ga gb g:G R}{pos:Pos}{st:Stmt}{t u:G O}{tb:G Bool}
theorem Lb {k:Int}{n:Nat}(h0:0≤k) (h:k.toNat < n):seqIndex? k n=some k.toNat:=by
 unfold seqIndex?
 have h1:¬k < 0:=by omega
 have h2:k < n:=by omega
 simp [h1,h0,h2]
theorem II {J H:Hp}{σ:L2.St}{env:Ev}(sr:SR c J H σ env){i j:Nat}{xs ys:List D}{p q:Addr}(hij:i≠j) (hi:env[i]?=some (some (.own xs))) (hj:env[j]?=some (some (.own ys))) (h1:σ[i]?=some (some (.ref p))) (h2:σ[j]?=some (some (.ref q))):p≠q:=fun z=>
 sr.sep i j xs ys (.ref p) hij hi hj h1 (z▸h2)
theorem Au (i j:Nat){x y:Str}{p1 p2 pos' q1 q2 q3:Pos}(h:PD X c e g) (hi:X.N[i]?=some x:=by rfl) (hvx:nE X.env.scope x:=by first | exact Or.inl rfl | exact Or.inr (Or.inl rfl) | exact Or.inr (Or.inr rfl)) (hdx:(x == ("__debug__":Str))=false:=by decide) (hcx:(x == ("__classdict__":Str))=false:=by decide)
  (hj:X.N[j]?=some y:=by rfl) (hvy:nE X.env.scope y:=by first | exact Or.inl rfl | exact Or.inr (Or.inl rfl) | exact Or.inr (Or.inr rfl)) (hdy:(y == ("__debug__":Str))=false:=by decide) (hcy:(y == ("__classdict__":Str))=false:=by decide)
  (hbase:attributeBase (.Name x p1) "append" X.env (eval (.Name x p1) X.env)=eval (.Name x p1) X.env:=by rfl)
  (hfew:((backTo pos' (starEach [.Call (.Attribute (.Name y q1) "pop" q2) [e] [] q3] X.env)).all (fun x=>!x.1) && (backToKw pos' (keywordEach [] X.env)).all (fun x=>x.1.isSome)
   && decide (([.Call (.Attribute (.Name y q1) "pop" q2) [e] [] q3]:List Expr).length + ([]:List Keyword).length + (if ([]:List Keyword).isEmpty then 0 else 1) < 30))=true:=by rfl)
  (hline:(p2.endLine == pos'.line)=true:=by rfl)
  (hst:starEach [.Call (.Attribute (.Name y q1) "pop" q2) [e] [] q3] X.env=(false,eval (.Call (.Attribute (.Name y q1) "pop" q2) [e] [] q3) X.env)::starEach [] X.env:=by rfl) (hplain:(backTo pos' (starEach [] X.env)).any (·.1)=false:=by rfl)
  (hbase2:attributeBase (.Name y q1) "pop" X.env (eval (.Name y q1) X.env)=eval (.Name y q1) X.env:=by rfl)
  (hfew2:((backTo q3 (starEach [e] X.env)).all (fun x=>!x.1) && (backToKw q3 (keywordEach [] X.env)).all (fun x=>x.1.isSome)
   && decide (([e]:List Expr).length + ([]:List Keyword).length + (if ([]:List Keyword).isEmpty then 0 else 1) < 30))=true:=by rfl)
  (hline2:(q2.endLine == q3.line)=true:=by rfl) (hst2:starEach [e] X.env=(false,eval e X.env)::starEach [] X.env:=by rfl) (hplain2:(backTo q3 (starEach [] X.env)).any (·.1)=false:=by rfl)
  (hs:swapsWith (.Call (.Attribute (.Name x p1) "append" p2) [.Call (.Attribute (.Name y q1) "pop" q2) [e] [] q3] [] pos') none pos.line X.env=pure false:=by rfl):
  jd X c (.Expr (.Call (.Attribute (.Name x p1) "append" p2) [.Call (.Attribute (.Name y q1) "pop" q2) [e] [] q3] [] pos') pos) (j4 i j g):=
 jT (o7 (u5 PySem.F.plainAttrs_list PySem.F.slot_list_append PySem.F.type_list_append ow (oA hi hvx hdx hcx) (fD (u5 PySem.F.plainAttrs_list PySem.F.slot_list_pop PySem.F.type_list_pop Dz (oA hj hvy hdy hcy) (fD h ia hst2) hbase2 hfew2 hline2 hst2 hplain2) ia hst) hbase hfew hline hst hplain) hs) fun E σ H ⟨J,env,sr,w⟩=>by
  unfold j4 at w
  split at w
  ·rename_i zs xs hii hjj
   split at w
   ·exact w.elim
   ·rename_i hij
    obtain ⟨_,k1,p,us,rfl,k2,k3,k4,k5⟩:=sr.at_ i _ hii
    obtain ⟨_,l1,q,vs,rfl,l2,l3,l4,l5⟩:=sr.at_ j _ hjj
    refine ⟨.ref p,k1,.inl ⟨rfl,us,cA.of k2⟩,?_⟩
    refine ⟨.ref q,l1,.inl ⟨rfl,vs,cA.of l2⟩,?_⟩
    refine ⟨J,env,sr,aE (aM w) fun r wr v J1 H1 e1 r1=>?_⟩
    split at wr
    ·rename_i k
     cases r1
     split at wr
     ·rename_i hk
      split at wr
      ·rename_i d hd
       obtain ⟨z,hz,rz⟩:=l5.get hd
       have m2:=e1.h _ _ l2
       have n2:=e1.h _ _ k2
       have hpq:q≠p:=fun zz=>II sr hij hii hjj k1 l1 zz.symm
       refine ⟨q,vs,k,k.toNat,z,rfl,rfl,m2,by omega,?_,Lb hk.1 (by rw [←l5.length];exact hk.2.1),hz,?_⟩
       ·have z1:=hk.2.1
        have z2:=hk.2.2.2
        have z3:sizeLine=16777216:=sizeLine_eq
        omega
       ·refine ⟨p,us,z,rfl,rfl,by rw [bC (Ne.symm hpq)];exact n2,by rw [←k5.length];exact hk.2.2.1,?_⟩
        have sr1:=sr.ext e1
        have J1p:J1 p=none:=e1.frz p (by rw [k2];intro z;cases z) k3
        have J1q:J1 q=none:=e1.frz q (by rw [l2];intro z;cases z) l3
        have sr2:=sr1.upd (xs':=xs.eraseIdx k.toNat) (vs':=vs.eraseIdx k.toNat) hjj l1 m2 J1q l4 ((l5.mono e1.j).eraseIdx _)
        have hii2:(env.set j (some (.own (xs.eraseIdx k.toNat))))[i]?=some (some (.own zs)):=by rw [List.getElem?_set_ne (Ne.symm hij)];exact hii
        have sr3:=sr2.upd (xs':=zs++[d]) (vs':=us++[z]) hii2 k1 (by rw [bC (Ne.symm hpq)];exact n2) J1p k4 ((k5.mono e1.j).append (.cons (rz.mono e1.j) .nil))
        exact wr σ J1 _ e1.j sr3
      ·exact wr.elim
     ·exact wr.elim
    ·exact wr.elim
  ·exact w.elim
end
open PySem.AutoSeq1 in
theorem Bw (T:String) (hT:T="tuple"∨T="list") (l b:Addr) (xs ys:Array Value) (n m:Nat) (dd:Option Addr) (sl:Array (Option Value)) (z0:¬(!xs.isEmpty && Builtin.List.listTooLong (xs.size + ys.size))=true) (z1:xs.size≤sizeLine) (z2:xs.size + ys.size≤sizeLine + 1):
  Meets (Builtin.«list.extend» ⟨[.ref l,.ref b],[]⟩) fun _ R s=>s.heap.get? l=some {cls:=.type "list",dict:=none,data:=.seq xs n,slots:=#[]}∧
   s.heap.get? b=some {cls:=.type T,dict:=dd,data:=.seq ys m,slots:=sl}∧R (.ok (.ret Value.none)) {s with heap:=s.heap.update l (Obj.mapSeq fun x=>x++ys),toks:=s.toks}:=
 .of_wp fun prog w A R s h=>by
  obtain ⟨hp,gs,dr,tk,os⟩:=s
  obtain ⟨h1,h2,h3⟩:=h
  have t1:=AutoSeq1.idx_int
  have t2:=AutoSeq1.sub_tuple_tuple
  have t3:=AutoSeq1.sub_list_list
  have t4:=AutoSeq1.sub_tuple_list
  have t5:=AutoSeq1.sub_list_tuple
  have z3:(xs++ys).size≤sizeLine + 1:=by
   rw [Array.size_append]
   exact z2
  rcases hT with rfl | rfl
  ·wp_walk using (wpAny_updateSeq h1 rfl (hz:=z1) (_hz':=z3)),wpAny_loadPart' h1,wpAny_loadPart' h2
   exact ⟨_,rfl,h3⟩
  ·wp_walk using (wpAny_updateSeq h1 rfl (hz:=z1) (_hz':=z3)),wpAny_loadPart' h1,wpAny_loadPart' h2
   exact ⟨_,rfl,h3⟩
section
variable {X:Cx}{c:C}{e a b tg:Expr}{es:List Expr}{ga gb g:G R}{pos:Pos}
def LO (K:PySem.W.Frag):V→List V→Hp→VK→Prop:=fun x vs H Q=>∃l b xs zs,x=.ref l∧vs=[.ref b]∧H l=some (.lst xs)∧(cA K H b zs∨cT K H b zs)∧xs.length + zs.length≤sizeLine∧Q .non (upd H l (.lst (xs++zs)))
theorem Ir:EC X "list.extend" (LO X.K):=by
 intro pins s σ H x vs v us Q I rx rv h
 obtain ⟨l,b,xs,zs,rfl,rfl,hH,hB,hz,q⟩:=h
 cases rx
 obtain ⟨u,rfl,ru⟩:=rv.one
 cases ru
 obtain ⟨z,its,n,r,hl,e⟩:=I.lstM hH
 have obj:∃T its2,(T="tuple"∨T="list")∧Vals zs its2∧∃dd m sl,s.heap.get? b=some {cls:=.type T,dict:=dd,data:=.seq its2.toArray m,slots:=sl}:=by
  rcases hB with hB | hB
  ·obtain ⟨its2,r2,pl,_⟩:=I.list hB
   obtain ⟨⟨cls,dd,data,sl⟩,ho,hc,m,hd⟩:=pl.isList
   simp only at hc hd
   subst hc hd
   exact ⟨"list",its2,.inr rfl,r2,dd,m,sl,ho⟩
  ·obtain ⟨its2,r2,pl,_⟩:=I.tuple hB
   obtain ⟨⟨cls,dd,data,sl⟩,ho,hc,m,hd⟩:=pl
   simp only at hc hd
   subst hc hd
   exact ⟨"tuple",its2,.inl rfl,r2,dd,m,sl,ho⟩
 obtain ⟨T,its2,hT,r2,dd,m,sl,e2⟩:=obj
 have hl2:=r2.length
 have hsz:its.toArray.size + its2.toArray.size≤sizeLine:=by rw [List.size_toArray,List.size_toArray];omega
 have hlong:¬(!its.toArray.isEmpty && Builtin.List.listTooLong (its.toArray.size + its2.toArray.size))=true:=by
  rw [wV hsz,Bool.and_false]
  exact Bool.false_ne_true
 refine call_meets F.slot_list_extend ⟨_,e,rfl⟩ F.entry_list_extend (F.args_list_extend_2 _ _) (Bw T hT l b its.toArray its2.toArray n m dd sl hlong (by rw [List.size_toArray];omega) (by omega)) ⟨e,e2,?_⟩
 refine ⟨.non,_,I.lset (its':=its++its2) hH e (by simp) (r.append r2) ?_,rfl,q⟩
 rw [List.length_append]
 omega
def mV (i:Nat) (g:G R):G O:=fun env=>match env[i]? with
 | some (some (.own xs))=>g env >>= fun r=>iX r >>= fun ys=>if xs.length + ys.length≤sizeLine then .ok (.nx (env.set i (some (.own (xs++ys))))) else .bad
 | _=>.bad
theorem Aw (i:Nat){x:Str}{p1 p2 pos':Pos}(h:PD X c e g) (hN:X.N[i]?=some x:=by rfl) (hv:nE X.env.scope x:=by first | exact Or.inl rfl | exact Or.inr (Or.inl rfl) | exact Or.inr (Or.inr rfl)) (hd:(x == ("__debug__":Str))=false:=by decide)
  (hcd:(x == ("__classdict__":Str))=false:=by decide)
  (hbase:attributeBase (.Name x p1) "extend" X.env (eval (.Name x p1) X.env)=eval (.Name x p1) X.env:=by rfl)
  (hfew:((backTo pos' (starEach [e] X.env)).all (fun x=>!x.1) && (backToKw pos' (keywordEach [] X.env)).all (fun x=>x.1.isSome)
   && decide (([e]:List Expr).length + ([]:List Keyword).length + (if ([]:List Keyword).isEmpty then 0 else 1) < 30))=true:=by rfl)
  (hline:(p2.endLine == pos'.line)=true:=by rfl) (hst:starEach [e] X.env=(false,eval e X.env)::starEach [] X.env:=by rfl) (hplain:(backTo pos' (starEach [] X.env)).any (·.1)=false:=by rfl)
  (hs:swapsWith (.Call (.Attribute (.Name x p1) "extend" p2) [e] [] pos') none pos.line X.env=pure false:=by rfl) (hK:X.K=c.K:=by rfl):
  jd X c (.Expr (.Call (.Attribute (.Name x p1) "extend" p2) [e] [] pos') pos) (mV i g):=
 jT (o7 (u5 PySem.F.plainAttrs_list PySem.F.slot_list_extend PySem.F.type_list_extend Ir (oA hN hv hd hcd) (fD h ia hst) hbase hfew hline hst hplain) hs) fun E σ H ⟨J,env,sr,w⟩=>by
  unfold mV at w
  split at w
  ·rename_i xs hi
   obtain ⟨v,h1,a,vs,rfl,h2,h3,h4,h5⟩:=sr.at_ i _ hi
   refine ⟨.ref a,h1,.inl ⟨rfl,vs,cA.of h2⟩,?_⟩
   refine ⟨J,env,sr,aE (aM w) fun r wr y J1 H1 e1 r1=>?_⟩
   obtain ⟨ys,q,wr⟩:=mJ wr
   split at wr
   ·rename_i hz
    obtain ⟨p,ws,rfl,hq,hs⟩:=oU (sr.hp.ext e1) r1 q
    refine ⟨a,p,vs,ws,rfl,rfl,e1.h _ _ h2,by rw [hK];exact hq,by rw [←h5.length,←hs.length];exact hz,?_⟩
    refine wr σ J1 _ e1.j ?_
    exact (sr.ext e1).upd hi h1 (e1.h _ _ h2) (e1.frz a (by rw [h2];intro z;cases z) h3) h4 ((h5.mono e1.j).append hs)
   ·exact wr.elim
  ·exact w.elim
end
section
variable {X:Cx}{c:C}{e a b tg:Expr}{es:List Expr}{ga gb g:G R}{pos:Pos}
def wY:V→Option (Option Bool)
 | .non=>some none
 | .bl k=>some (some k)
 | _=>none
theorem Eo {x y:V}{v u:Value}{o:Option Bool}(rx:RelV x v) (ry:RelV y u) (h:wY y=some o):isSame v u=pure (wY x == some o):=by
 cases y with
 | non=>
  cases h
  cases ry
  cases x with
  | non=>cases rx;rfl
  | bl k=>cases rx;rfl
  | int i=>obtain ⟨t,rfl⟩:=rx;rfl
  | str z=>obtain ⟨t,rfl⟩:=rx;rfl
  | byt z=>obtain ⟨t,rfl⟩:=rx;rfl
  | flt z=>obtain ⟨t,rfl⟩:=rx;rfl
  | ref p=>cases rx;rfl
  | ty n=>cases rx;rfl
 | bl k'=>
  cases h
  cases ry
  cases x with
  | non=>cases rx;rfl
  | bl k=>cases rx;cases k <;> cases k' <;> rfl
  | int i=>obtain ⟨t,rfl⟩:=rx;rfl
  | str z=>obtain ⟨t,rfl⟩:=rx;rfl
  | byt z=>obtain ⟨t,rfl⟩:=rx;rfl
  | flt z=>obtain ⟨t,rfl⟩:=rx;rfl
  | ref p=>cases rx;rfl
  | ty n=>cases rx;rfl
 | _=>cases h
theorem Iw:cR X (compareOp .Is) (fun x y H Q=>∃o,wY y=some o∧Q (.bl (wY x == some o)) H):=by
 intro pins s σ H x y v u Q I rx ry h
 obtain ⟨o,ho,q⟩:=h
 show wpAny _ _ (do return Value.bool (←isSame v u)) _ _ s
 rw [Eo rx ry ho]
 exact wpAny_bind (wpAny_pure (wpAny_pure ⟨.bl _,H,I,rfl,q⟩))
def Ao:R→Option (Option Bool)
 | .d .non=>some none
 | .d (.bl k)=>some (some k)
 | _=>none
def Bx (neg:Bool) (x y:R):M R:=match Ao y with
 | some o=>.ok (.d (.bl (if neg then !(Ao x == some o) else Ao x == some o)))
 | none=>.bad
theorem zf {He J H:Hp}:∀{r:R}{v:V},RR c He J H r v→wY v=Ao r
 | .d .non,_,h=>by cases h;rfl
 | .d (.bl _),_,h=>by cases h;rfl
 | .d (.int _),_,h=>by cases h;rfl
 | .d (.str _),_,h=>by cases h;rfl
 | .d (.tup _),_,h=>by cases h;rfl
 | .d (.lst _),_,h=>by cases h;rfl
 | .d .emp,_,h=>by cases h;rfl
 | .d (.exn _ _ _),_,h=>by cases h;rfl
 | .d (.dct _ _),_,h=>by cases h;rfl
 | .l .fresh _,_,h=>by obtain ⟨_,_,rfl,_⟩:=h;rfl
 | .l .own _,_,h=>by obtain ⟨_,_,rfl,_⟩:=h;rfl
 | .l .bor _,_,h=>by obtain ⟨_,_,rfl,_⟩:=h;rfl
theorem KQ (ha:PD X c a ga) (hb:PD X c b gb):PB X c (.Compare a [.Is] [b] pos) (bx (g2 (Bx false) ga gb)):=kB Iw (by
 intro He He' J H x y u v Q hp rx ry w
 unfold Bx at w
 split at w
 ·rename_i o ho
  refine ⟨o,by rw [zf ry];exact ho,?_⟩
  rw [zf rx]
  exact w _ J H (Ext.refl hp.sub) (.bl _)
 ·exact w.elim) ha hb
end
section
variable {X:Cx}{c:C}{e a b d tg:Expr}{es:List Expr}{ga gb g:G R}{pos:Pos}
def LJ (K:PySem.W.Frag) (tl:TE):TI:=fun σ H R=>tl σ H fun x H1=>∃a,x=.ref a∧(((∃xs,cA K H1 a xs)∧R (Ey K a) H1)∨((∃xs,cT K H1 a xs)∧R (EA K a) H1))
theorem Cc {tl:TE}(hl:PE X e tl):PI X tg e (LJ X.K tl):=fun pins s σ H R I h=>bV (hl pins s σ H _ I h) fun v s1 ⟨x,H1,I1,r1,a,ex,q1⟩=>by
 subst ex
 cases r1
 have fp:∀b∈[s1.heap.objs.size],jF X pins H1 b:=fun b hb=>by
  rw [List.mem_singleton] at hb
  subst hb
  exact I1.fpOk (Nat.le_refl _) (I1.hok.fresh (Nat.le_refl _))
 rcases q1 with ⟨⟨xs,hq⟩,q⟩ | ⟨⟨xs,hq⟩,q⟩
 ·obtain ⟨its,rv,p,hz⟩:=I1.list hq
  exact wpAny_pyIter_list p.isList ⟨s1.heap.objs.size,[s1.heap.objs.size],_,_,H1,rfl,I1.kept (t':=s1.toks) (fun b o e=>Heap.get?_push_of_some _ e),CB a _,⟨_,Heap.get?_push_size _ rfl,rfl,rfl⟩,fp,q⟩
 ·obtain ⟨its,rv,p,hz⟩:=I1.tuple hq
  exact wpAny_pyIter_tuple (show s1.heap.IsTuple a its.toArray from p) ⟨s1.heap.objs.size,[s1.heap.objs.size],_,_,H1,rfl,I1.kept (t':=s1.toks) (fun b o e=>Heap.get?_push_of_some _ e),AV a _,⟨_,Heap.get?_push_size _ rfl,rfl,rfl⟩,fp,q⟩
theorem ug {J1:Hp}{a:Addr}{vs:List V}{ds:List D}{U:Hp→Hp→Prop}(hU:∀J H,U J H→aX J1 J) (h:cT c.K J1 a vs) (hs:aG c.K J1 ds vs):Walk c (EA c.K a) ds J1 U:=by
 intro i J H hp u
 have h':=eU hp.sub (eU (hU J H u) h)
 refine ⟨fun hl=>⟨vs,h',by rw [←hs.length];exact hl⟩,fun d hd=>?_⟩
 obtain ⟨v,k1,k2⟩:=hs.get hd
 refine ⟨⟨vs,v,h',k1⟩,fun x H2 ⟨e,hy⟩=>?_⟩
 subst e
 have:=hy vs h'
 rw [k1] at this
 cases this
 exact ⟨J,Ext.refl hp.sub,k2.mono (hU J _ u)⟩
def lg (g:G R):G (List D):=fun env=>g env >>= fun r=>match r with
 | .d (.tup xs)=>.ok xs
 | .d (.lst xs)=>.ok xs
 | .l .fresh xs=>.ok xs
 | .l .bor xs=>.ok xs
 | _=>.bad
theorem GC (h:PD X c e g) (hK:X.K=c.K:=by rfl):lE X c tg e (lg g):=u6 (Cc h) fun σ H Q ⟨J,env,sr,w⟩=>by
 refine ⟨J,env,sr,aE (aM w) fun r wr v J1 H1 e1 r1=>?_⟩
 rw [hK]
 split at wr
 ·cases r1 with
  | tup h1 h2=>exact ⟨_,rfl,.inr ⟨⟨_,eU e1.sub h1⟩,wr _ J1 H1 e1 (ug (fun J H u=>u) h1 h2)⟩⟩
 ·cases r1 with
  | lst h1 h2=>exact ⟨_,rfl,.inl ⟨⟨_,e1.sub.seq h1⟩,wr _ J1 H1 e1 (oR (.inl h1) h2)⟩⟩
 ·obtain ⟨J2,e2,s2,rd⟩:=freeze e1 r1 rfl
  cases rd with
  | lst h1 h2=>exact ⟨_,rfl,.inl ⟨⟨_,e2.sub.seq h1⟩,wr _ J2 H1 e2 (oR (.inl h1) h2)⟩⟩
 ·obtain ⟨a,vs,rfl,h1,h2⟩:=r1
  exact ⟨_,rfl,.inl ⟨⟨_,(sr.hp.ext e1).ent.seq h1⟩,wr _ J1 H1 e1 (oR (.inr h1) h2)⟩⟩
 ·exact wr.elim
def dO (g:G R):G (List D):=fun env=>g env >>= iX
theorem GB (h:PD X c e g) (hK:X.K=c.K:=by rfl):nD X c tg e (dO g):=u6 (Cc h) fun σ H Q ⟨J,env,sr,w⟩=>by
 refine ⟨J,env,sr,aE (aM w) fun r wr v J1 H1 e1 r1=>?_⟩
 rw [hK]
 have lst:∀{xs:List D},jw r=.ok xs→(∀It J1' H1',Ext J H J1' H1'→Walk c It xs J1' (fun J' H'=>aX J1' J'∧aX H1' H')→Q It H1')→∃a,v=.ref a∧(((∃xs,cA c.K H1 a xs)∧Q (Ey c.K a) H1)∨((∃xs,cT c.K H1 a xs)∧Q (EA c.K a) H1)):=fun {xs} q wr=>by
  obtain ⟨a,vs,rfl,h1,h2⟩:=RR.list (sr.hp.ext e1) r1 q
  refine ⟨a,rfl,.inl ⟨⟨_,h1⟩,wr _ J1 H1 e1 fun i J' H' hp u=>?_⟩⟩
  have h':=u.2.seq h1
  refine ⟨fun hl=>⟨vs,h',by rw [←h2.length];exact hl⟩,fun d hd=>?_⟩
  obtain ⟨v,k1,k2⟩:=h2.get hd
  refine ⟨⟨vs,v,h',k1⟩,fun x H2 ⟨e,hy⟩=>?_⟩
  subst e
  have:=hy vs h'
  rw [k1] at this
  cases this
  exact ⟨J',Ext.refl hp.sub,k2.mono u.1⟩
 cases r with
 | d y=>
  cases y with
  | tup xs=>
   cases r1 with
   | tup h1 h2=>exact ⟨_,rfl,.inr ⟨⟨_,eU e1.sub h1⟩,wr _ J1 H1 e1 (ug (fun J H u=>u.1) h1 h2)⟩⟩
  | lst xs=>exact lst rfl wr
  | _=>exact wr.elim
 | l m xs=>exact lst rfl wr
end
section
variable {X:Cx}{c:C}{st:Stmt}{g:G O}
theorem SR.frz {J H:Hp}{σ:L2.St}{env:Ev}(sr:SR c J H σ env){i:Nat}{xs:List D}(hi:env[i]?=some (some (.own xs))):∃J',aX J J'∧SR c J' H σ (env.set i (some (.d (.lst xs)))):=by
 obtain ⟨v,h1,a,vs,rfl,h2,h3,h4,h5⟩:=sr.at_ i _ hi
 have hil:i < env.length:=(List.getElem?_eq_some_iff.mp hi).1
 have s1:aX J (L2.upd J a (.lst vs)):=gK h3 _
 refine ⟨L2.upd J a (.lst vs),s1,⟨⟨fun b o q=>?_,sr.hp.ent,sr.hp.entJ.trans s1,fun b k1 k2=>?_⟩,by simpa using sr.len,fun j y q=>?_,fun j k ys zs w hjk q1 q2 q3 q4=>?_⟩⟩
 ·by_cases hb:b=a
  ·subst hb;rw [b9] at q;cases q;exact h2
  ·rw [bC hb] at q;exact sr.hp.sub b o q
 ·have:b≠a:=fun z=>k1 (z▸h4)
  rw [bC this];exact sr.hp.frz b k1 k2
 ·rcases gg q with ⟨rfl,hl,rfl⟩ | ⟨hj,q⟩
  ·exact ⟨.ref a,h1,.lst (.inl (.inl b9)) (h5.mono s1)⟩
  ·obtain ⟨w,k1,k2⟩:=sr.at_ j y q
   refine ⟨w,k1,?_⟩
   cases y with
   | d x=>exact Rep.mono s1 k2
   | bor zs=>obtain ⟨p,us,m1,m2,m3⟩:=k2;exact ⟨p,us,m1,m2,m3.mono s1⟩
   | own zs=>
    obtain ⟨p,us,rfl,m1,m2,m3,m4⟩:=k2
    have hne:p≠a:=fun z=>sr.sep i j xs zs (.ref a) (Ne.symm hj) hi q h1 (z▸k1)
    exact ⟨p,us,rfl,m1,by rw [bC hne];exact m2,m3,m4.mono s1⟩
 ·have f:∀(k:Nat) (ys:List D),(env.set i (some (.d (.lst xs))))[k]?=some (some (.own ys))→env[k]?=some (some (.own ys)):=fun k ys q=>by
   rcases gg q with ⟨rfl,_,z⟩ | ⟨_,q⟩
   ·cases z
   ·exact q
  exact sr.sep j k ys zs w hjk (f j ys q1) (f k zs q2) q3 q4
def fU (i:Nat) (g:G O):G O:=fun env=>match env[i]? with
 | some (some (.own xs))=>g (env.set i (some (.d (.lst xs))))
 | _=>g env
theorem Gg (i:Nat) (h:jd X c st g):jd X c st (fU i g):=fun pins s σ H D I ⟨J,env,sr,w⟩=>by
 unfold fU at w
 split at w
 ·rename_i xs hi
  obtain ⟨J',s1,sr'⟩:=sr.frz hi
  exact h pins s σ H D I ⟨J',_,sr',aE w fun o q=>q.mono s1⟩
 ·exact h pins s σ H D I ⟨J,env,sr,w⟩
end
structure QD (X:Cx) (c:C) (x0:Expr) (x1:G R):Prop where
 h:PD X c x0 x1
structure QB (X:Cx) (c:C) (x0:Expr) (x1:G Bool):Prop where
 h:PB X c x0 x1
structure jK (X:Cx) (c:C) (x0:List Expr) (x1:G (List R)):Prop where
 h:iF X c x0 x1
structure A8 (X:Cx) (c:C) (x0:List Expr) (x1:G (List D)):Prop where
 h:yE X c x0 x1
structure jL (X:Cx) (c:C) (x0:Stmt) (x1:G O):Prop where
 h:jd X c x0 x1
structure pD (X:Cx) (c:C) (x0:List Stmt) (x1:G O):Prop where
 h:nR X c x0 x1
structure vB (X:Cx) (c:C) (x0:Expr) (x1:G Bool):Prop where
 h:pC X c x0 x1
structure lF (X:Cx) (c:C) (x0:Expr) (x1:GT):Prop where
 h:gE X c x0 x1
structure zF (X:Cx) (c:C) (x0:List Expr) (x1:nP):Prop where
 h:vA X c x0 x1
structure vD (X:Cx) (c:C) (x0:Expr) (x1:Expr) (x2:G (List D)):Prop where
 h:lE X c x0 x1 x2
structure vC (X:Cx) (c:C) (x0:Expr) (x1:Expr) (x2:G (List D)):Prop where
 h:nD X c x0 x1 x2
structure kY (X:Cx) (c:C) (x0:List Expr) (x1:G Bool):Prop where
 h:fQ X c x0 x1
structure EE (X:Cx) (c:C) (x0:Option Expr) (x1:GO):Prop where
 h:vz X c x0 x1
section
variable {X:Cx}{c:C}{e a b:Expr}{ga gb:G R}{pos:Pos}
theorem aa (i:Nat){x:Str}(hN:X.N[i]?=some x:=by rfl) (hv:nE X.env.scope x:=by first | exact Or.inl rfl | exact Or.inr (Or.inl rfl) | exact Or.inr (Or.inr rfl)) (hd:(x == ("__debug__":Str))=false:=by decide)
  (hcd:(x == ("__classdict__":Str))=false:=by decide):QD X c (.Name x pos) (af i):=⟨Jl i hN hv hd hcd⟩
theorem aA {i:Int}{j:Nat}:QD X c (.Constant (.int i) j pos) (gC (.int i)):=⟨I0⟩
theorem jC {i:Bool}{j:Nat}:QD X c (.Constant (.bool i) j pos) (gC (.bl i)):=⟨KU⟩
theorem lZ {j:Nat}:QD X c (.Constant .none j pos) (gC .non):=⟨Jd⟩
theorem sJ {x:Str}{j:Nat}:QD X c (.Constant (.str x) j pos) (gC (.str x)):=⟨Ji⟩
theorem GS (ha:QD X c a ga) (hb:QD X c b gb):QD X c (.BinOp a .Sub b pos) (g2 De ga gb):=⟨Jj ha.h hb.h⟩
theorem dJ (ha:QD X c a ga) (hb:QD X c b gb):QD X c (.BinOp a .FloorDiv b pos) (g2 fT ga gb):=⟨IY ha.h hb.h⟩
theorem cj (ha:QD X c a ga) (hb:QD X c b gb):QD X c (.BinOp a .Mod b pos) (g2 dF ga gb):=⟨Jb ha.h hb.h⟩
theorem GR (ha:QD X c a ga) (hb:QD X c b gb):QD X c (.BinOp a .Pow b pos) (g2 Dc ga gb):=⟨Jg ha.h hb.h⟩
theorem av:jK X c [] aD:=⟨Ga⟩
theorem ao {es:List Expr}{g:G R}{gs:G (List R)}(h:QD X c e g) (hs:jK X c es gs) (hst:starEach (e::es) X.env=(false,eval e X.env)::starEach es X.env:=by rfl):jK X c (e::es) (aq g gs):=⟨DI h.h hs.h hst⟩
end
section
variable {X:Cx}{c:C}{e a b:Expr}{es:List Expr}{ga gb g:G R}{pos:Pos}
theorem aQ:A8 X c [] aW:=⟨Gb⟩
theorem az {gs:G (List D)}(h:QD X c e g) (hs:A8 X c es gs) (hst:starEach (e::es) X.env=(false,eval e X.env)::starEach es X.env:=by rfl):A8 X c (e::es) (aB g gs):=⟨DJ h.h hs.h hst⟩
theorem bu {k}{gs:G (List D)}(h:A8 X c es gs):QD X c (.Tuple es k pos) (bI gs):=⟨Jk h.h⟩
theorem dM {gs:G (List D)}(h:A8 X c es gs):QD X c (.List es pos) (fC gs):=⟨Ja h.h⟩
theorem d7 {p:Pos}{gs:G (List R)}(ha:jK X c (e::es) gs) (hm:X.mg "len"=none) (hK:X.K=c.K:=by rfl) (hg:Gl X "len":=by rfl)
  (he:starEach (e::es) X.env=(false,eval e X.env)::starEach es X.env:=by rfl) (hpl:(backTo pos (starEach es X.env)).any (·.1)=false:=by rfl):QD X c (.Call (.Name "len" p) (e::es) [] pos) (gN fB gs):=⟨I_ ha.h hm hK hg he hpl⟩
theorem bU {p:Pos}{gs:G (List R)}(ha:jK X c (e::es) gs) (hm:X.mg "tuple"=none) (hK:X.K=c.K:=by rfl) (hg:Gl X "tuple":=by rfl)
  (he:starEach (e::es) X.env=(false,eval e X.env)::starEach es X.env:=by rfl) (hpl:(backTo pos (starEach es X.env)).any (·.1)=false:=by rfl):QD X c (.Call (.Name "tuple" p) (e::es) [] pos) (gN b_ gs):=⟨DW ha.h hm hK hg he hpl⟩
theorem fE (h:QD X c e g) (he:∀whole,isTrue e X.env whole=(do let v ←whole;standAt e.pos;holding [v] (truthy v)):=by intro _;rfl):QB X c e (bx g):=⟨IS h.h he⟩
theorem iJ {op:CmpOp}{r:R2}{f:R→R→M R}(ho:cR X (compareOp op) r) (hf:BD c r f) (ha:QD X c a ga) (hb:QD X c b gb) (hm:behindInMarks op b=false:=by first | exact wU _ | rfl):QB X c (.Compare a [op] [b] pos) (bx (g2 f ga gb)):=⟨kB ho hf ha.h hb.h hm⟩
variable {t u:G Bool}{rest:List Expr}
theorem jl (h:vB X c e t):QB X c e t:=⟨pC.pb h.h⟩
theorem qa (h:QB X c a t):vB X c (.BoolOp .And [a] pos) t:=⟨Gd h.h⟩
theorem o8 (h:QB X c a t):vB X c (.BoolOp .Or [a] pos) t:=⟨IP h.h⟩
theorem sF (h:QB X c a t) (h':vB X c (.BoolOp .And (b::rest) pos) u):vB X c (.BoolOp .And (a::b::rest) pos) (ji t u):=⟨IK h.h h'.h⟩
theorem lY (h:QB X c a t) (h':vB X c (.BoolOp .Or (b::rest) pos) u):vB X c (.BoolOp .Or (a::b::rest) pos) (kr t u):=⟨KS h.h h'.h⟩
theorem jm (h:QB X c a t):QB X c (.UnaryOp .Not a pos) (g7 t):=⟨IM h.h⟩
theorem nh {op}(h:QD X c a ga):QD X c (.BoolOp op [a] pos) ga:=⟨Gm h.h⟩
theorem o9 (h:QD X c a ga) (h':QD X c (.BoolOp .And (b::rest) pos) gb):QD X c (.BoolOp .And (a::b::rest) pos) (i7 ga gb):=⟨IV h.h h'.h⟩
theorem sI (h:QD X c a ga):QD X c (.UnaryOp .Not a pos) (oW ga):=⟨Jf h.h⟩
end
section
variable {X:Cx}{c:C}{e a b tg:Expr}{es:List Expr}{ga gb g:G R}{pos:Pos}{st:Stmt}{rest:List Stmt}{t u:G O}{tb:G Bool}
theorem bK:pD X c [] dG:=⟨Gu⟩
theorem ay (h:jL X c st t) (h':pD X c rest u):pD X c (st::rest) (aO t u):=⟨DY h.h h'.h⟩
theorem aJ (h:jL X c st t):pD X c [st] t:=⟨Gv h.h⟩
theorem jB (h:QD X c e g) (hs:swapsWith e none pos.line X.env=pure false:=by rfl):jL X c (.Expr e pos) (jQ g):=⟨DM h.h hs⟩
theorem a_ (h:QD X c e g):jL X c (.Return (some e) pos) (bM g):=⟨Gh h.h⟩
theorem bT {x:Expr}{as bs:List Stmt}(hx:QB X c x tb) (h:pD X c as t) (h':pD X c bs u):jL X c (.If x as bs pos) (bR tb t u):=⟨IT hx.h h.h h'.h⟩
theorem aP (i:Nat){x:Str}{pos':Pos}(hN:X.N.Nodup) (h:QD X c e g) (hi:X.N[i]?=some x:=by rfl) (hx:Loc X.env.scope x:=by first | exact Or.inl rfl | exact Or.inr rfl) (hs:swapsWith e (some (.Name x pos')) pos.line X.env=pure false:=by rfl)
  (hf:X.fn x=true∨X.env.scope.names.lookup x=some .local:=by first | exact .inl rfl | exact .inr rfl):jL X c (.Assign [.Name x pos'] e pos) (bh i g):=⟨Gi i hN h.h hi hx hs hf⟩
theorem aH (i:Nat){x:Str}(hN:X.N.Nodup) (hi:X.N[i]?=some x:=by rfl) (hx:Loc X.env.scope x:=by first | exact Or.inl rfl | exact Or.inr rfl) (hf:X.fn x=true∨X.env.scope.names.lookup x=some .local:=by first | exact .inl rfl | exact .inr rfl):lF X c (.Name x pos) (aC i):=⟨Ea i hN hi hx hf⟩
theorem cL:zF X c [] dz:=⟨Eb⟩
theorem aY {t:GT}{u:nP}(h:lF X c e t) (h':zF X c es u) (hs:(assignEach (e::es) X.env).map (·.2)=assign e X.env::(assignEach es X.env).map (·.2):=by rfl):zF X c (e::es) (br t u):=⟨Cj h.h h'.h hs⟩
theorem cW {k:Nat}{u:nP}{n:Nat}(h:zF X c es u) (hc:X.calm=true:=by rfl) (hK:X.K=c.K:=by rfl) (hn:(assignEach es X.env).length=n:=by rfl) (hst:(assignEach es X.env).findIdx? (·.1)=none:=by rfl):lF X c (.Tuple es k pos) (cY n u):=⟨GJ h.h hc hK hn hst⟩
theorem dQ {iter:Expr}{body:List Stmt}{gi:G (List D)}{t:GT}(hi:vD X c tg iter gi) (ht:lF X c tg t) (hb:pD X c body u) (hp:PassesOwn (model X.prog X.w) X.A X.env X.xe:=by first | exact PassesOwn.never | exact PassesOwn.leaving) (hc:X.calm=true:=by rfl)
  (hs:∀x,foldedSetIterable iter X.env x=pure x:=by intro _;rfl):jL X c (.For tg iter body [] pos) (eZ gi t u):=⟨Gf hi.h ht.h hb.h hp hc hs⟩
theorem bL {p:Pos}{gs:G (List R)}(ha:jK X c [a] gs) (hm:X.mg "range"=none) (hg:Gl X "range":=by rfl) (hs:starEach [a] X.env=[(false,eval a X.env)]:=by rfl):vD X c tg (.Call (.Name "range" p) [a] [] pos) (cH gs):=⟨Ay ha.h hm hg hs⟩
theorem iA {gi:G (List D)}(h:vD X c tg e gi):vC X c tg e gi:=⟨lE.pic h.h⟩
end
section
variable {X:Cx}{c:C}{e a b tg:Expr}{es:List Expr}{ga gb g:G R}{pos:Pos}
theorem ic (i:Nat){x:Str}{p1 p2 pos':Pos}(h:QD X c e g) (hN:X.N[i]?=some x:=by rfl) (hv:nE X.env.scope x:=by first | exact Or.inl rfl | exact Or.inr (Or.inl rfl) | exact Or.inr (Or.inr rfl)) (hd:(x == ("__debug__":Str))=false:=by decide)
  (hcd:(x == ("__classdict__":Str))=false:=by decide)
  (hbase:attributeBase (.Name x p1) "append" X.env (eval (.Name x p1) X.env)=eval (.Name x p1) X.env:=by rfl)
  (hfew:((backTo pos' (starEach [e] X.env)).all (fun x=>!x.1) && (backToKw pos' (keywordEach [] X.env)).all (fun x=>x.1.isSome)
   && decide (([e]:List Expr).length + ([]:List Keyword).length + (if ([]:List Keyword).isEmpty then 0 else 1) < 30))=true:=by rfl)
  (hline:(p2.endLine == pos'.line)=true:=by rfl) (hst:starEach [e] X.env=(false,eval e X.env)::starEach [] X.env:=by rfl) (hplain:(backTo pos' (starEach [] X.env)).any (·.1)=false:=by rfl)
  (hs:swapsWith (.Call (.Attribute (.Name x p1) "append" p2) [e] [] pos') none pos.line X.env=pure false:=by rfl):jL X c (.Expr (.Call (.Attribute (.Name x p1) "append" p2) [e] [] pos') pos) (jH i g):=⟨Av i h.h hN hv hd hcd hbase hfew hline hst hplain hs⟩
end
section
variable {X:Cx}{c:C}
theorem bS:kY X c [] cU:=⟨D5⟩
theorem iK {x:Expr}{g:G Bool}(h:QB X c x g):kY X c [x] g:=⟨D6 h.h⟩
end
section
variable {K:PySem.W.Frag}{J:Hp}{s:Shared}
variable {X:Cx}{c:C}{e a b tg:Expr}{es:List Expr}{ga gb g:G R}{pos:Pos}
theorem oF (hu:X.A.units + 64 < cLine) (ha:QD X c a ga) (hb:QD X c b gb) (hK:X.K=c.K:=by rfl):QD X c (.Compare a [.Eq] [b] pos) (g2 (cM false) ga gb):=⟨KY hu ha.h hb.h hK⟩
theorem oE (hu:X.A.units + 64 < cLine) (ha:QD X c a ga) (hb:QD X c b gb) (hK:X.K=c.K:=by rfl):QB X c (.Compare a [.Eq] [b] pos) (bx (g2 (cM false) ga gb)):=⟨KN hu ha.h hb.h hK⟩
theorem kD (hu:X.A.units + 64 < cLine) (ha:QD X c a ga) (hb:QD X c b gb) (hK:X.K=c.K:=by rfl):QB X c (.Compare a [.NotEq] [b] pos) (bx (g2 (cM true) ga gb)):=⟨KR hu ha.h hb.h hK⟩
theorem xg (hu:X.A.units + 64 < cLine) (ha:QD X c a ga) (hb:QD X c b gb) (hK:X.K=c.K:=by rfl) (hm:behindInMarks .In b=false:=by rfl):QD X c (.Compare a [.In] [b] pos) (g2 (gH false) ga gb):=⟨KZ hu ha.h hb.h hK hm⟩
theorem JH (hu:X.A.units + 64 < cLine) (ha:QD X c a ga) (hb:QD X c b gb) (hK:X.K=c.K:=by rfl) (hm:behindInMarks .In b=false:=by rfl):QB X c (.Compare a [.In] [b] pos) (bx (g2 (gH false) ga gb)):=⟨KP hu ha.h hb.h hK hm⟩
theorem Cm (hu:X.A.units + 64 < cLine) (ha:QD X c a ga) (hb:QD X c b gb) (hK:X.K=c.K:=by rfl) (hm:behindInMarks .NotIn b=false:=by rfl):QB X c (.Compare a [.NotIn] [b] pos) (bx (g2 (gH true) ga gb)):=⟨DK hu ha.h hb.h hK hm⟩
end
section
variable {X:Cx}{c:C}{e a b tg:Expr}{es:List Expr}{ga gb g:G R}{pos:Pos}
theorem tU:EE X c none yT:=⟨D7⟩
theorem tV (h:QD X c e g):EE X c (some e) (yU g):=⟨D8 h.h⟩
theorem AG {p:Pos}{gs:G (List R)}(ha:jK X c (e::es) gs) (hm:X.mg "sorted"=none) (hK:X.K=c.K:=by rfl) (hg:Gl X "sorted":=by rfl)
  (he:starEach (e::es) X.env=(false,eval e X.env)::starEach es X.env:=by rfl) (hpl:(backTo pos (starEach es X.env)).any (·.1)=false:=by rfl):QD X c (.Call (.Name "sorted" p) (e::es) [] pos) (gN j3 gs):=⟨B_ ha.h hm hK hg he hpl⟩
end
section
variable {X:Cx}{c:C}{e a b tg:Expr}{es:List Expr}{ga gb g:G R}{pos:Pos}
theorem fW (ha:QD X c a ga) (hb:QD X c b gb):QD X c (.BinOp a .Add b pos) (g2 dH ga gb):=⟨Gs ha.h hb.h⟩
theorem jD (ha:QD X c a ga) (hb:QD X c b gb):QD X c (.BinOp a .Mult b pos) (g2 gf ga gb):=⟨DV ha.h hb.h⟩
theorem aN (ha:QD X c a ga) (hb:QD X c b gb) (hK:X.K=c.K:=by rfl) (hs:jW b:=by exact fun _ _=>rfl):QD X c (.Subscript a b pos) (g2 bf ga gb):=⟨DS ha.h hb.h hK hs⟩
theorem aU {k k' n:Nat}{F:List S→M R}{x:Str}{p:Pos}{gs:G (List R)}(G:bQ X.prog X.w X.K X.mg X.base k n x F) (hr:cV k' X.A) (ha:jK X c (e::es) gs) (hk:k≤k':=by decide) (hT:c.K=X.K:=by rfl) (hg:Gl X x:=by rfl) (hdb:(x == ("__debug__":Str))=false:=by decide)
  (he:starEach (e::es) X.env=(false,eval e X.env)::starEach es X.env:=by rfl) (hpl:(backTo pos (starEach es X.env)).any (·.1)=false:=by rfl):QD X c (.Call (.Name x p) (e::es) [] pos) (gN (aS n F) gs):=⟨IX G hr ha.h hk hT hg hdb he hpl⟩
theorem kE {t:GT}(h:QD X c e g) (ht:lF X c tg t) (hs:swapsWithSole [tg] e pos.line X.env=pure false:=by rfl) (hw:swappedStores [tg] e X.env=pure none:=by rfl)
  (h1:(assignEach [tg] X.env).map (·.2)=[assign tg X.env]:=by rfl):jL X c (.Assign [tg] e pos) (kj t g):=⟨Gj h.h ht.h hs hw h1⟩
end
section
variable {X:Cx}{c:C}{e a b tg:Expr}{es:List Expr}{ga gb g:G R}{pos:Pos}
theorem gS {T:String}{Ts:Str}{p p2:Pos}(kit:yD T) (hT:bootBuiltins Ts=some (.type T)) (mT:X.mg Ts=none)
  (h:QD X c a g) (hm:X.mg "isinstance"=none) (hK:X.K=c.K:=by rfl) (hg:Gl X "isinstance":=by rfl) (hgT:Gl X Ts:=by rfl) (hn:Ts≠"__name__":=by decide) (hdT:(Ts == ("__debug__":Str))=false:=by decide)
  (he:starEach [a,.Name Ts p2] X.env=(false,eval a X.env)::starEach [.Name Ts p2] X.env:=by rfl) (he2:starEach [.Name Ts p2] X.env=(false,eval (.Name Ts p2) X.env)::starEach [] X.env:=by rfl)
  (hpl:(backTo pos (starEach [.Name Ts p2] X.env)).any (·.1)=false:=by rfl):QD X c (.Call (.Name "isinstance" p) [a,.Name Ts p2] [] pos) (we T g):=⟨B8 kit hT mT h.h hm hK hg hgT hn hdT he he2 hpl⟩
theorem sH {p:Pos}{gs:G (List R)}(ha:jK X c (e::es) gs) (hm:X.mg "all"=none) (hK:X.K=c.K:=by rfl) (hc:X.calm=true:=by rfl) (hg:Gl X "all":=by rfl)
  (he:starEach (e::es) X.env=(false,eval e X.env)::starEach es X.env:=by rfl) (hpl:(backTo pos (starEach es X.env)).any (·.1)=false:=by rfl):QD X c (.Call (.Name "all" p) (e::es) [] pos) (gN i6 gs):=⟨IU ha.h hm hK hc hg he hpl⟩
theorem JI {op op':CmpOp}{p q:Int→Int→Bool}{x:Expr}{gc:G R}(ho:cR X (compareOp op) (kG fun i j=>.bl (p i j))) (ho':cR X (compareOp op') (kG fun i j=>.bl (q i j))) (ha:QD X c a ga) (hb:QD X c b gb) (hc:QD X c x gc)
  (hm:lastMarks [op,op'] [b,x]=false:=by with_unfolding_all rfl):QD X c (.Compare a [op,op'] [b,x] pos) (BB p q ga gb gc):=⟨KW ho ho' ha.h hb.h hc.h hm⟩
end
section
variable {X:Cx}{c:C}{e a b tg:Expr}{es:List Expr}{ga gb g:G R}{pos:Pos}
theorem gJ (ha:QD X c a ga) (hb:QD X c b gb) (hK:X.K=c.K:=by rfl):QD X c (.BinOp a .Add b pos) (g2 dh ga gb):=⟨Gk ha.h hb.h hK⟩
end
section
variable {X:Cx}{c:C}{e a b tg:Expr}{es:List Expr}{ga gb g:G R}{pos:Pos}
theorem zj {lo hi:Option Expr}{gl gh:GO}{p2:Pos}(h:QD X c e g) (hl:EE X c lo gl) (hh:EE X c hi gh) (hK:X.K=c.K:=by rfl):QD X c (.Subscript e (.Slice lo hi none p2) pos) (wg pZ g gl gh):=⟨Jh h.h hl.h hh.h hK⟩
end
section
variable {X:Cx}{c:C}{e a b tg:Expr}{es:List Expr}{ga gb g:G R}{pos:Pos}
theorem tP {d:D}{x:Str}(h:zy X.K X.mg x d) (hK:X.K=c.K:=by rfl) (hg:Gl X x:=by rfl) (hd:(x == ("__debug__":Str))=false:=by decide):QD X c (.Name x pos) (gC d):=⟨DR h hK hg hd⟩
end
section
variable {X:Cx}{c:C}{e a b tg:Expr}{es:List Expr}{ga gb g:G R}{pos:Pos}{st:Stmt}{t u:G O}{tb:G Bool}
theorem ng:jL X c st qH:=⟨BZ⟩
theorem GQ (h:QD X c a g):QD X c (.UnaryOp .USub a pos) (Ac g):=⟨Jc h.h⟩
theorem sG (h:QD X c e g) (hK:X.K=c.K:=by rfl) (he:∀whole,isTrue e X.env whole=(do let v ←whole;standAt e.pos;holding [v] (truthy v)):=by intro _;rfl):QB X c e (se g):=⟨IQ h.h hK he⟩
end
section
variable {X:Cx}{c:C}{e a b tg:Expr}{es:List Expr}{ga gb g:G R}{pos:Pos}{st:Stmt}{t u:G O}{tb:G Bool}
theorem yp (i j:Nat){x y:Str}{p1 p2 pos' q1 q2 q3:Pos}(h:QD X c e g) (hi:X.N[i]?=some x:=by rfl) (hvx:nE X.env.scope x:=by first | exact Or.inl rfl | exact Or.inr (Or.inl rfl) | exact Or.inr (Or.inr rfl)) (hdx:(x == ("__debug__":Str))=false:=by decide) (hcx:(x == ("__classdict__":Str))=false:=by decide)
  (hj:X.N[j]?=some y:=by rfl) (hvy:nE X.env.scope y:=by first | exact Or.inl rfl | exact Or.inr (Or.inl rfl) | exact Or.inr (Or.inr rfl)) (hdy:(y == ("__debug__":Str))=false:=by decide) (hcy:(y == ("__classdict__":Str))=false:=by decide)
  (hbase:attributeBase (.Name x p1) "append" X.env (eval (.Name x p1) X.env)=eval (.Name x p1) X.env:=by rfl)
  (hfew:((backTo pos' (starEach [.Call (.Attribute (.Name y q1) "pop" q2) [e] [] q3] X.env)).all (fun x=>!x.1) && (backToKw pos' (keywordEach [] X.env)).all (fun x=>x.1.isSome)
   && decide (([.Call (.Attribute (.Name y q1) "pop" q2) [e] [] q3]:List Expr).length + ([]:List Keyword).length + (if ([]:List Keyword).isEmpty then 0 else 1) < 30))=true:=by rfl)
  (hline:(p2.endLine == pos'.line)=true:=by rfl)
  (hst:starEach [.Call (.Attribute (.Name y q1) "pop" q2) [e] [] q3] X.env=(false,eval (.Call (.Attribute (.Name y q1) "pop" q2) [e] [] q3) X.env)::starEach [] X.env:=by rfl) (hplain:(backTo pos' (starEach [] X.env)).any (·.1)=false:=by rfl)
  (hbase2:attributeBase (.Name y q1) "pop" X.env (eval (.Name y q1) X.env)=eval (.Name y q1) X.env:=by rfl)
  (hfew2:((backTo q3 (starEach [e] X.env)).all (fun x=>!x.1) && (backToKw q3 (keywordEach [] X.env)).all (fun x=>x.1.isSome)
   && decide (([e]:List Expr).length + ([]:List Keyword).length + (if ([]:List Keyword).isEmpty then 0 else 1) < 30))=true:=by rfl)
  (hline2:(q2.endLine == q3.line)=true:=by rfl) (hst2:starEach [e] X.env=(false,eval e X.env)::starEach [] X.env:=by rfl) (hplain2:(backTo q3 (starEach [] X.env)).any (·.1)=false:=by rfl)
  (hs:swapsWith (.Call (.Attribute (.Name x p1) "append" p2) [.Call (.Attribute (.Name y q1) "pop" q2) [e] [] q3] [] pos') none pos.line X.env=pure false:=by rfl):jL X c (.Expr (.Call (.Attribute (.Name x p1) "append" p2) [.Call (.Attribute (.Name y q1) "pop" q2) [e] [] q3] [] pos') pos) (j4 i j g):=⟨Au i j h.h hi hvx hdx hcx hj hvy hdy hcy hbase hfew hline hst hplain hbase2 hfew2 hline2 hst2 hplain2 hs⟩
end
section
variable {X:Cx}{c:C}{e a b tg:Expr}{es:List Expr}{ga gb g:G R}{pos:Pos}
theorem pT (i:Nat){x:Str}{p1 p2 pos':Pos}(h:QD X c e g) (hN:X.N[i]?=some x:=by rfl) (hv:nE X.env.scope x:=by first | exact Or.inl rfl | exact Or.inr (Or.inl rfl) | exact Or.inr (Or.inr rfl)) (hd:(x == ("__debug__":Str))=false:=by decide)
  (hcd:(x == ("__classdict__":Str))=false:=by decide)
  (hbase:attributeBase (.Name x p1) "extend" X.env (eval (.Name x p1) X.env)=eval (.Name x p1) X.env:=by rfl)
  (hfew:((backTo pos' (starEach [e] X.env)).all (fun x=>!x.1) && (backToKw pos' (keywordEach [] X.env)).all (fun x=>x.1.isSome)
   && decide (([e]:List Expr).length + ([]:List Keyword).length + (if ([]:List Keyword).isEmpty then 0 else 1) < 30))=true:=by rfl)
  (hline:(p2.endLine == pos'.line)=true:=by rfl) (hst:starEach [e] X.env=(false,eval e X.env)::starEach [] X.env:=by rfl) (hplain:(backTo pos' (starEach [] X.env)).any (·.1)=false:=by rfl)
  (hs:swapsWith (.Call (.Attribute (.Name x p1) "extend" p2) [e] [] pos') none pos.line X.env=pure false:=by rfl) (hK:X.K=c.K:=by rfl):jL X c (.Expr (.Call (.Attribute (.Name x p1) "extend" p2) [e] [] pos') pos) (mV i g):=⟨Aw i h.h hN hv hd hcd hbase hfew hline hst hplain hs hK⟩
end
section
variable {X:Cx}{c:C}{e a b tg:Expr}{es:List Expr}{ga gb g:G R}{pos:Pos}
theorem Ck (ha:QD X c a ga) (hb:QD X c b gb):QB X c (.Compare a [.Is] [b] pos) (bx (g2 (Bx false) ga gb)):=⟨KQ ha.h hb.h⟩
end
section
variable {X:Cx}{c:C}{e a b d tg:Expr}{es:List Expr}{ga gb g:G R}{pos:Pos}
theorem kF (h:QD X c e g) (hK:X.K=c.K:=by rfl):vD X c tg e (lg g):=⟨GC h.h hK⟩
theorem cQ (h:QD X c e g) (hK:X.K=c.K:=by rfl):vC X c tg e (dO g):=⟨GB h.h hK⟩
end
section
variable {X:Cx}{c:C}{st:Stmt}{g:G O}
theorem jn (i:Nat) (h:jL X c st g):jL X c st (fU i g):=⟨Gg i h.h⟩
end
section
variable {X:Cx}{c:C}
theorem bP {P:Program}{w:World}{K:PySem.W.Frag}{mg:Str→Option Value}{base:Heap}{x qual:Str}{st:Stmt}{f:Addr}{fd:FuncData}{N ps:List Str}{k:Nat}{Fm:List S→M R}(F:dB K x qual st f fd) (hm:mg x=some (.ref f)) (Sc:bw N ps (au st))
  (hbi:∀(kV doc pm:Value) (an:Option Addr) (cdv ct:Value) (us:List Value),us.length=ps.length→bindArgs (PySem.W.fnOf x qual (aK st) (aI st) (au st) .none kV doc pm an cdv ct) ⟨us,[]⟩=pure (ps.zip us)){gB:G O}
  (hb:∀(cdv:Value) (A:Around) (outer:List Env) (s:Shared) (H:Hp) (E:XK) (J:Hp) (T:Exc→Prop),cV k (A.deeper (envOfC qual (au st) s.heap.objs.size f cdv))→
   pD (EH P w K mg base N qual (au st) f cdv A outer s H E) ⟨K,H,J,T⟩ (aI st) gB)
  (hF:∀as r,as.length=ps.length→Fm as=.ok r→fin (gB (bA N as))=.ok r):bQ P w K mg base (k + 1) ps.length x Fm:=
 HB F hm Sc hbi (fun cdv A outer s H E J T hr=>(hb cdv A outer s H E J T hr).h) hF
theorem GL {P:Program}{w:World}{K:PySem.W.Frag}{mg:Str→Option Value}{base:Heap}{x qual:Str}{st:Stmt}{f:Addr}{fd:FuncData}{N ps:List Str}{k:Nat}{Fm:List S→M R}(F:dB K x qual st f fd) (Sc:bw N ps (au st)){gB:G O}
  (hb:∀(cdv:Value) (A:Around) (outer:List Env) (s:Shared) (H:Hp) (E:XK) (J:Hp) (T:Exc→Prop),cV k (A.deeper (envOfC qual (au st) s.heap.objs.size f cdv))→
   pD (EH P w K mg base N qual (au st) f cdv A outer s H E) ⟨K,H,J,T⟩ (aI st) gB)
  (hF:∀as r,as.length=ps.length→Fm as=.ok r→fin (gB (bA N as))=.ok r):eY P w K mg base nC (k + 1) f fd ps (rB K ps.length Fm):=
 By F Sc (fun cdv A outer s H E J T hr=>(hb cdv A outer s H E J T hr).h) hF
end
end DL
namespace K01
open PySem DL
def A6:List Str:=["thing"]
def n9:G O:=(bM (i7 (we "int" (af 0)) (oW (we "bool" (af 0)))))
def dW (as:List S):M R:=fin (n9 (bA A6 as))
theorem e_ {n:Nat}(h:n≤1000):n≤sizeLine:=Nat.le_trans h (by decide)
def Lw:D→Bool
 | .int _=>true
 | _=>false
theorem yN (f:D→Bool):∀(ds:List D),jr (ds.map fun d=>.bl (f d))=some (ds.map f)
 | []=>rfl
 | d::r=>by
  simp only [List.map_cons,jr,yN f r]
  rfl
theorem all_map (f:D→Bool) (ds:List D):i6 [.l .fresh (ds.map fun d=>.bl (f d))]=.ok (.d (.bl (ds.all f))):=by
 unfold i6
 simp only [jw,aT,yN]
 congr 3
 simp [List.all_map]
theorem E2 (d:D):dW [.d d]=.ok (.d (.bl (Lw d))):=by cases d <;> rfl
theorem jX {α:Type}{xs:List α}{k:Nat}{x:α}(h:xs[k]?=some x):L2.kN xs (k:Int)=some x:=by
 have hk:k < xs.length:=(List.getElem?_eq_some_iff.mp h).1
 unfold L2.kN L2.wC
 rw [if_pos (by omega),if_pos (by omega)]
 simpa using h
theorem jZ {xs:List D}{k:Nat}{x:D}(h:xs[k]?=some x):bf (.d (.tup xs)) (.d (.int k))=.ok (.d x):=by
 unfold bf
 simp only [iX,aT,jX h]
theorem uT {m:Md}{xs:List D}{k:Nat}{x:D}(h:xs[k]?=some x):bf (.l m xs) (.d (.int k))=.ok (.d x):=by
 unfold bf
 simp only [iX,aT,jX h]
theorem Fo {z:Str}{k:Nat}{c:Nat}(hz:z.length≤1000) (h:z.cps.toList[k]?=some c):bf (.d (.str z)) (.d (.int k))=.ok (.d (.str ⟨#[c]⟩)):=by
 unfold bf
 simp only [e_ hz,if_true,jX h]
theorem eq_int (neg:Bool) (i j:Int):cM neg (.d (.int i)) (.d (.int j))=.ok (.d (.bl (if neg then !(i == j) else i == j))):=rfl
theorem fN (a:D) (r:List D):bf (.d (.tup (a::r))) (.d (.int 0))=.ok (.d a):=jZ (k:=0) rfl
theorem Ia (a b:D) (r:List D):bf (.d (.tup (a::b::r))) (.d (.int 1))=.ok (.d b):=jZ (k:=1) rfl
theorem Mn (a b c:D) (r:List D):bf (.d (.tup (a::b::c::r))) (.d (.int 2))=.ok (.d c):=jZ (k:=2) rfl
theorem LS (n:Nat) (h:n≤1000):below 4611686018427387904 (n:Int)=true:=dX.mpr ⟨by omega,by omega⟩
def EX (j:Int):M (List D):=if below 4611686018427387904 j then .ok (fc 0 j.toNat) else .bad
theorem JU (j:Int) (h:below 4611686018427387904 j=true):EX j=.ok (fc 0 j.toNat):=by unfold EX;exact if_pos h
theorem JT {gs:G (List R)}{env:Ev}{j:Int}(hg:gs env=.ok [.d (.int j)]):cH gs env=EX j:=by
 unfold cH EX
 rw [hg]
 rfl
theorem ni {gs:G (List R)}{env:Ev}{n:Nat}(hg:gs env=.ok [.d (.int (n:Int))]) (h:n≤1000):cH gs env=.ok (fc 0 n):=by
 rw [JT hg,JU _ (LS n h)]
 exact congrArg (fun k=>M.ok (fc 0 k)) (Int.toNat_natCast n)
theorem HP {g:G (List D)}{t:GT}{u:G O}{env:Ev}{ds:List D}(h:g env=.ok ds):eZ g t u env=fj t u ds env:=by
 unfold eZ
 rw [h]
 rfl
theorem rE (i j:Int):dH (.d (.int i)) (.d (.int j))=.ok (.d (.int (i + j))):=rfl
theorem zZ {C:Int→Int→Bool}{f:Int→Int→D}{i j:Int}(h:C i j=true):fI C f (.d (.int i)) (.d (.int j))=.ok (.d (f i j)):=by
 show (if C i j=true then M.ok (R.d (f i j)) else M.bad)=_
 rw [if_pos h]
theorem G7 (i j:Int) (h1:-(2 ^ 64) < j) (h2:j < 2 ^ 64):gf (.d (.int i)) (.d (.int j))=.ok (.d (.int (i * j))):=zZ (C:=wG) (f:=fun i j=>.int (i * j)) (by unfold wG;rw [Bool.or_eq_true];exact Or.inr (dX.mpr ⟨h1,h2⟩))
theorem kU (i j:Int) (h1:0 < j) (h2:j < 1073741824):fT (.d (.int i)) (.d (.int j))=.ok (.d (.int (i / j))):=zZ (by
 unfold Ag
 rw [Bool.and_eq_true]
 exact ⟨decide_eq_true h1,dX.mpr ⟨by omega,h2⟩⟩)
theorem fX (i j:Int) (h1:0 < j):dF (.d (.int i)) (.d (.int j))=.ok (.d (.int (i % j))):=zZ (decide_eq_true h1)
theorem E1 (x y:Str) (h:x.length + y.length≤1000):dH (.d (.str x)) (.d (.str y))=.ok (.d (.str (x++y))):=by
 show (if x.length + y.length≤sizeLine then M.ok (R.d (D.str (x++y))) else M.bad)=_
 rw [if_pos (e_ h)]
theorem EZ (x:Str) (n:Int) (h0:0≤n) (h:n≤1000) (hx:x.length≤1000):gf (.d (.str x)) (.d (.int n))=.ok (.d (.str (iC x n.toNat))):=by
 show (if 0≤n∧n≤1000∧x.length≤1000 then M.ok (R.d (D.str (iC x n.toNat))) else M.bad)=_
 rw [if_pos ⟨h0,h,hx⟩]
def Hu:Str:="abcdefghijklmnopqrstuvwxyz"
theorem Hv:∀k:Fin 26,Hu.cps.toList[k.val]?=some (97 + k.val):=by decide +kernel
theorem E4:Hu.length≤1000:=by decide +kernel
theorem BL (i:Int) (h0:0≤i) (h:i < 26):bf (.d (.str "abcdefghijklmnopqrstuvwxyz")) (.d (.int i))=.ok (.d (.str ⟨#[97 + i.toNat]⟩)):=by
 have e:i=((i.toNat:Nat):Int):=by omega
 have:=Fo (z:=Hu) (k:=i.toNat) E4 (Hv ⟨i.toNat,by omega⟩)
 rw [e]
 exact this
theorem qG (c:Array Nat):∀(k:Nat) (acc:Array Nat),((List.replicate k c).foldl (·++·) acc).toList=acc.toList++(List.replicate k c.toList).flatten
 | 0,acc=>by simp
 | k + 1,acc=>by
  rw [List.replicate_succ,List.foldl_cons,qG c k]
  simp [List.replicate_succ]
theorem Fg (b n:Nat):(iC ⟨#[b]⟩ n).cps.toList=List.replicate n b:=by
 unfold iC
 simp only
 rw [qG]
 induction n with
 | zero=>rfl
 | succ n ih=>simpa [List.replicate_succ] using ih
theorem FJ (x:Str):x.length=x.cps.toList.length:=by
 show x.cps.size=_
 simp
theorem strs_map:∀(ss:List Str),strsOf (ss.map .str)=some ss
 | []=>rfl
 | s::r=>by
  simp only [List.map_cons,strsOf,strs_map r]
  rfl
theorem sorted_strs (m:Md) (ss:List Str) (h:ss.length < 64):j3 [.l m (ss.map .str)]=.ok (.l .fresh ((pe ss).map .str)):=by
 unfold j3
 simp only [jw,aT,strs_map,h,if_true]
theorem qO {b:G Bool}{t u:G O}{env:Ev}(h:b env=.ok false):bR b t u env=u env:=by
 unfold bR
 rw [h]
 rfl
theorem sq {b:G Bool}{t u:G O}{env:Ev}(h:b env=.ok true):bR b t u env=t env:=by
 unfold bR
 rw [h]
 rfl
theorem KA {g:G R}{f:List R→M R}{env:Ev}{r r':R}(h:g env=.ok r) (hf:f [r]=.ok r'):gN f (aq g aD) env=.ok r':=by
 unfold gN aq
 rw [h]
 exact hf
theorem Cq {g:G R}{env:Ev}{r r':R}(h:g env=.ok r) (h2:rF r=.ok r'):bM g env=.ok (.rt r'):=by
 unfold bM
 rw [h,aT,h2]
 rfl
abbrev dN (k:Nat):D:=.int k
abbrev dP (p:Nat×Nat):D:=.tup [.int p.1,.int p.2]
def nL (p q:Nat×Nat):Prop:=p.1 < q.1∨(p.1=q.1∧p.2 < q.2)
def uO (m:Nat) (xs:List Nat):Prop:=xs.length≤8∧xs.Pairwise (· < ·)∧∀x∈xs,x < m
def qk (m:Nat) (ps:List (Nat×Nat)):Prop:=ps.length≤64∧ps.Pairwise nL∧∀p∈ps,p.1 < m∧p.2 < m
structure Wd where
 m:Nat
 ms:List (Str×List Nat)
 ar:List (Str×List (Nat×Nat))
abbrev jJ (r:Str×List Nat):D:=.tup [.str r.1,.tup (r.2.map dN)]
abbrev nk (r:Str×List (Nat×Nat)):D:=.tup [.str r.1,.tup (r.2.map dP)]
def Wd.d (w:Wd):D:=.tup [.int w.m,.tup (w.ms.map jJ),.tup (w.ar.map nk)]
theorem tZ {K:PySem.W.Frag}{J:L2.Hp}:∀(ns:List Int),aG K J (ns.map D.int) (ns.map L2.V.int)
 | []=>.nil
 | n::r=>.cons (.int n) (tZ r)
end K01
namespace DX
open PySem PySem.Spec
open Builtin Builtin.ObjectAttr
end DX
namespace DX
open PySem PySem.Spec
end DX
namespace DX
open PySem PySem.Spec PyProof.Rows L2
end DX
namespace DL
open PySem PySem.Spec PyProof.Rows L2 DX
def LD (K:PySem.W.Frag) (J:Hp) (x:Exc) (v:Value) (dx:Option Addr):Prop:=
 ∃a C vs,v=.ref a∧J a=some (XO a C dx)∧PySem.W.nsIn K mainGlobals x.cls=some (some (.ref C))∧XF J dx x.ns vs∧aG K J x.ds vs∧∃P,GX K P∧XE K P C
def XW (K:PySem.W.Frag) (J H:Hp) (E:XK) (x:Exc):Prop:=∀v dx J' H',Ext J H J' H'→LD K J' x v dx→E v dx H'
def t_ (K:PySem.W.Frag) (n:Nat) (F:List S→M R):Sp:=fun vs H Q E=>∃J as,aX J H∧as.length=n∧jE K J H as vs∧cO (F as) (fun r=>∀v J' H',Ext J H J' H'→FR K H J' H' r v→Q v H') (XW K J H E)
abbrev Ml (P:Program) (w:World) (K:PySem.W.Frag) (mg:Str→Option Value) (base:Heap) (N:List Str) (qual:Str) (sc:Scope) (f:Addr) (cd:Value) (A:Around) (outer:List Env) (s:Shared) (H:Hp) (E:XK):Cx:=nW (qc P w) P w K mg base N qual sc f cd A outer s H E
end DL
namespace DX
open PySem PySem.Spec PyProof.Rows L2
end DX
namespace DL
open PySem PySem.Spec PyProof.Rows L2 DX
end DL
namespace DX
open PySem PySem.Spec PyProof.Rows L2
end DX
namespace DL
open PySem PySem.Spec PyProof.Rows L2 DX
end DL
namespace DX
open PySem PySem.Spec PyProof.Rows L2
open Sem (wp)
end DX
namespace DL
open PySem PySem.Spec PyProof.Rows L2 DX
def CN (P:Program) (w:World) (K:PySem.W.Frag) (mg:Str→Option Value) (base:Heap) (k n:Nat) (x:Str) (Fm:List S→M R):Prop:=
 ∃f fd ps,eY P w K mg base (qc P w) k f fd ps (t_ K n Fm)∧mg x=some (.ref f)∧PySem.W.keepIn K (.ref f)=true∧Binds K fd ps []
section
variable {X:Cx}{c:C}{e a:Expr}{es:List Expr}{pos:Pos}{g:G R}{L:List Str}
theorem DP {k n:Nat}{f:Addr}{fd:FuncData}{ps:List Str}{F:List S→M R}{x:Str}{p:Pos}{gs:G (List R)}(G:eY X.prog X.w X.K X.mg X.base (qc X.prog X.w) k f fd ps (t_ X.K n F)) (hr:cV k X.A) (hm:X.mg x=some (.ref f)) (hk:PySem.W.keepIn X.K (.ref f)=true)
  (hb:Binds X.K fd ps []) (ha:iF X c (e::es) gs) (hT:c.K=X.K:=by rfl) (hg:Gl X x:=by rfl) (hdb:(x == ("__debug__":Str))=false:=by decide) (he:starEach (e::es) X.env=(false,eval e X.env)::starEach es X.env:=by rfl)
  (hpl:(backTo pos (starEach es X.env)).any (·.1)=false:=by rfl):PD X c (.Call (.Name x p) (e::es) [] pos) (gN (aS n F) gs):=by
 refine fk (sE (E:=fun _ _ _=>False) G hr hg hm hk hb .nil (fun pins σ H s v s' I ⟨e,C,dx,T,H',ev,f⟩=>f.wish.elim) ha hdb he hpl) fun σ H Q ⟨J,env,sr,w⟩=>?_
 refine ⟨J,env,sr,aE (aM w) fun rs wr vs J1 H1 e1 r1=>?_⟩
 unfold aS at wr
 split at wr
 ·rename_i hl
  have h1:=sr.hp.ext e1
  have ar:=r1.args h1
  rw [hT] at ar
  refine ⟨J1,rs.map fh,e1.sub,by simpa using hl,by rw [List.append_nil];exact ar,?_⟩
  cases q:F (rs.map fh) with
  | bad=>rw [q] at wr;exact wr
  | exc x=>rw [q] at wr;exact wr.elim
  | ok r=>
   rw [q] at wr
   intro v J' H' e2 fr
   refine wr v J' H' (e1.trans e2) ?_
   cases r with
   | d y=>exact (show Rep c.K J' y v from hT▸fr)
   | l m ys=>
    obtain ⟨a,us,h1,h2,h3,h4,h5⟩:=fr
    exact ⟨a,us,h1,h2,h3,e1.h.free h4,hT▸h5⟩
 ·exact wr.elim
theorem w_ {k k' n:Nat}{F:List S→M R}{x:Str}{p:Pos}{gs:G (List R)}(G:CN X.prog X.w X.K X.mg X.base k n x F) (hr:cV k' X.A) (ha:jK X c (e::es) gs) (hk:k≤k':=by decide) (hT:c.K=X.K:=by rfl) (hg:Gl X x:=by rfl) (hdb:(x == ("__debug__":Str))=false:=by decide)
  (he:starEach (e::es) X.env=(false,eval e X.env)::starEach es X.env:=by rfl) (hpl:(backTo pos (starEach es X.env)).any (·.1)=false:=by rfl):QD X c (.Call (.Name x p) (e::es) [] pos) (gN (aS n F) gs):=by
 obtain ⟨f,fd,ps,h1,h2,h3,h4⟩:=G
 exact ⟨DP h1 (hr.mono hk) h2 h3 h4 ha.h hT hg hdb he hpl⟩
end
structure mK (K:PySem.W.Frag) (x qual:Str) (st:Stmt) (f:Addr) (fd:FuncData):Prop where
 ex:∃(oc:Value) (od:Option Addr) (T:Addr) (o:Obj) (n:Nat) (kV doc pm:Value) (an:Option Addr) (cdv ct:Value) (osl:Array (Option Value)),
  fd=PySem.W.fnOf x qual (aK st) (aI st) (au st) (.ref T) kV doc pm an cdv ct∧K.lookup f=some ⟨oc,od,.func fd,osl⟩∧PySem.W.codeIn K cdv qual=true∧K.lookup T=some o∧o.data=.seq #[.none] n
 kp:PySem.W.keepIn K (.ref f)=true
theorem vI {K:PySem.W.Frag}{J H:Hp}:∀{as:List S}{vs:List V},jE K J H as vs→jE K J H (as++[.d .non]) (vs++[.non])
 | [],_,h=>by
  cases h
  exact ⟨.non,[],rfl,.non,rfl⟩
 | a::as,_,h=>by
  obtain ⟨v,us,rfl,h1,h2⟩:=h
  exact ⟨v,us++[.non],rfl,h1,vI h2⟩
section
variable {P:Program}{w:World}{K:PySem.W.Frag}{mg:Str→Option Value}{base:Heap}
theorem Fq {x qual:Str}{st:Stmt}{f:Addr}{fd:FuncData}{N ps:List Str}{k:Nat}{Fm:List S→M R}(F:mK K x qual st f fd) (Sc:bw N ps (au st)){gB:G O}
  (hb:∀(cdv:Value) (A:Around) (outer:List Env) (s:Shared) (H:Hp) (E:XK) (J:Hp),cV k (A.deeper (envOfC qual (au st) s.heap.objs.size f cdv))→nR (Ml P w K mg base N qual (au st) f cdv A outer s H E) ⟨K,H,J,XW K J H E⟩ (aI st) gB)
  (hF:∀as,as.length=ps.length→Fm as≠.bad→fin (gB (bA N as))=Fm as):eY P w K mg base (qc P w) (k + 1) f fd ps (t_ K ps.length Fm):=by
 obtain ⟨oc,od,T,o,n,kV,doc,pm,an,cdv,ct,osl,rfl,lk,hcd,lT,dT⟩:=F.ex
 refine EI lk hcd Sc (fun vs H Q E ⟨J,as,h1,h2,h3,h4⟩=>by rw [h3.length,h2]) fun A outer s H vs Q E hr ⟨J,as,h1,h2,h3,h4⟩=>?_
 refine ⟨_,hb cdv A outer s H E J hr,J,bA N as,xN h1 h3,?_⟩
 have z:=hF as h2 (fun q=>by rw [q] at h4;exact h4)
 rw [←z] at h4
 have ext:∀{J' H':Hp},HI ⟨K,H,J,XW K J H E⟩ J' H'→Ext J H J' H':=fun hp=>⟨hp.ent,hp.entJ,hp.sub,hp.frz⟩
 cases qg:gB (bA N as) with
 | bad=>rw [qg] at h4;exact h4
 | exc x=>rw [qg] at h4;exact h4
 | ok o=>
  rw [qg] at h4
  cases o with
  | bk _=>exact h4.elim
  | ct _=>exact h4.elim
  | nx env=>exact fun σ' J' H' _ sr=>h4 .non J' H' (ext sr.hp) .non
  | rt r=>exact fun v J' H' _ hp rf=>h4 v J' H' (ext hp) (by
    cases r with
    | d x=>exact rf
    | l m xs=>exact rf)
def CM (P:Program) (w:World) (K:PySem.W.Frag) (mg:Str→Option Value) (base:Heap) (k n:Nat) (x:Str) (Fm:List S→M R):Prop:=
 ∃f fd ps,eY P w K mg base (qc P w) k f fd ps (t_ K (n + 1) Fm)∧mg x=some (.ref f)∧PySem.W.keepIn K (.ref f)=true∧Binds K fd ps [.none]
theorem mK.bindsAll {x qual:Str}{st:Stmt}{f:Addr}{fd:FuncData}{ps:List Str}(F:mK K x qual st f fd)
  (h:∀(T:Addr) (kV doc pm:Value) (an:Option Addr) (cdv ct:Value) (us:List Value),us.length=ps.length→∃k:Option (Array Value)→Sem (List (Str×Value)),
   bindArgs (PySem.W.fnOf x qual (aK st) (aI st) (au st) (.ref T) kV doc pm an cdv ct) ⟨us,[]⟩=seqItems? (.ref T) >>= k∧k (some #[.none])=pure (ps.zip us)):Binds K fd ps []:=by
 obtain ⟨oc,od,T,o,n,kV,doc,pm,an,cdv,ct,osl,rfl,lk,hcd,lT,dT⟩:=F.ex
 intro s us hK hl
 rw [List.append_nil] at hl ⊢
 obtain ⟨k,h1,h2⟩:=h T kV doc pm an cdv ct us hl
 exact .of_defaults (T:=T) (items:=#[.none]) rfl (hK _ _ lT) dT h1 h2
theorem mK.bindsOne {x qual:Str}{st:Stmt}{f:Addr}{fd:FuncData}{ps:List Str}(F:mK K x qual st f fd)
  (h:∀(T:Addr) (kV doc pm:Value) (an:Option Addr) (cdv ct:Value) (us:List Value),us.length + 1=ps.length→∃k:Option (Array Value)→Sem (List (Str×Value)),
   bindArgs (PySem.W.fnOf x qual (aK st) (aI st) (au st) (.ref T) kV doc pm an cdv ct) ⟨us,[]⟩=seqItems? (.ref T) >>= k∧k (some #[.none])=pure (ps.zip (us++[.none]))):Binds K fd ps [.none]:=by
 obtain ⟨oc,od,T,o,n,kV,doc,pm,an,cdv,ct,osl,rfl,lk,hcd,lT,dT⟩:=F.ex
 intro s us hK hl
 obtain ⟨k,h1,h2⟩:=h T kV doc pm an cdv ct us (by simpa using hl)
 exact .of_defaults (T:=T) (items:=#[.none]) rfl (hK _ _ lT) dT h1 h2
end
section
variable {X:Cx}{c:C}{e:Expr}{es:List Expr}{pos:Pos}
theorem B3 {k n:Nat}{f:Addr}{fd:FuncData}{ps:List Str}{F:List S→M R}{x:Str}{p:Pos}{gs:G (List R)}(G:eY X.prog X.w X.K X.mg X.base (qc X.prog X.w) k f fd ps (t_ X.K (n + 1) F)) (hr:cV k X.A) (hm:X.mg x=some (.ref f)) (hk:PySem.W.keepIn X.K (.ref f)=true)
  (hb:Binds X.K fd ps [.none]) (ha:iF X c (e::es) gs) (hT:c.K=X.K:=by rfl) (hg:Gl X x:=by rfl) (hdb:(x == ("__debug__":Str))=false:=by decide) (he:starEach (e::es) X.env=(false,eval e X.env)::starEach es X.env:=by rfl)
  (hpl:(backTo pos (starEach es X.env)).any (·.1)=false:=by rfl):PD X c (.Call (.Name x p) (e::es) [] pos) (gN (aS n (fun as=>F (as++[.d .non]))) gs):=by
 refine fk (sE (E:=fun _ _ _=>False) G hr hg hm hk hb (dvs:=[.non]) (.cons rfl .nil) (fun pins σ H s v s' I ⟨e,C,dx,T,H',ev,f⟩=>f.wish.elim) ha hdb he hpl) fun σ H Q ⟨J,env,sr,w⟩=>?_
 refine ⟨J,env,sr,aE (aM w) fun rs wr vs J1 H1 e1 r1=>?_⟩
 unfold aS at wr
 split at wr
 ·rename_i hl
  have h1:=sr.hp.ext e1
  have ar:=r1.args h1
  rw [hT] at ar
  refine ⟨J1,rs.map fh++[.d .non],e1.sub,by simpa using hl,vI ar,?_⟩
  dsimp only at wr
  cases q:F (rs.map fh++[.d .non]) with
  | bad=>rw [q] at wr;exact wr
  | exc x=>rw [q] at wr;exact wr.elim
  | ok r=>
   rw [q] at wr
   intro v J' H' e2 fr
   refine wr v J' H' (e1.trans e2) ?_
   cases r with
   | d y=>exact (show Rep c.K J' y v from hT▸fr)
   | l m ys=>
    obtain ⟨a,us,h1,h2,h3,h4,h5⟩:=fr
    exact ⟨a,us,h1,h2,h3,e1.h.free h4,hT▸h5⟩
 ·exact wr.elim
theorem Ec {k k' n:Nat}{F:List S→M R}{x:Str}{p:Pos}{gs:G (List R)}(G:CM X.prog X.w X.K X.mg X.base k n x F) (hr:cV k' X.A) (ha:jK X c (e::es) gs) (hk:k≤k':=by decide) (hT:c.K=X.K:=by rfl) (hg:Gl X x:=by rfl) (hdb:(x == ("__debug__":Str))=false:=by decide)
  (he:starEach (e::es) X.env=(false,eval e X.env)::starEach es X.env:=by rfl) (hpl:(backTo pos (starEach es X.env)).any (·.1)=false:=by rfl):QD X c (.Call (.Name x p) (e::es) [] pos) (gN (aS n (fun as=>F (as++[.d .non]))) gs):=by
 obtain ⟨f,fd,ps,h1,h2,h3,h4⟩:=G
 exact ⟨B3 h1 (hr.mono hk) h2 h3 h4 ha.h hT hg hdb he hpl⟩
end
end DL
namespace DL
open PySem PySem.Spec PyProof.Rows L2
def rN (A:Around) (s:Shared) (y x:Value) (b:Bool):Prop:=
 ∀(prog:Program) (w:World) (E:Value→Shared→Prop) (Q:Value→Shared→Prop),Q (.bool b) s→wpAny (model prog w) A (richCompare .Lt y x) Q E s
inductive gn (A:Around) (s:Shared) (fin:Bool):List (Value×Value)→Bool→Prop
 | nil:gn A s fin [] fin
 | yes {x y:Value}{r:List (Value×Value)}{b:Bool}:SeqAt.EqAt A s x y true→gn A s fin r b→gn A s fin ((x,y)::r) b
 | no {x y:Value}{r:List (Value×Value)}{b:Bool}:SeqAt.EqAt A s x y false→rN A s x y b→gn A s fin ((x,y)::r) b
section
open PySem.SeqAt
open PySem.AutoSeq1 (wpAny_loadPart')
open PySem.MeetsSeq PySem.MeetsSeq2 PySem.MeetsSeq3
theorem CA (l b:Addr) (items items2:Array Value) (n n2:Nat) (dd dd2:Option Addr) (sl sl2:Array (Option Value)) (ans:Bool):
  Meets (Builtin.«tuple.__lt__» ⟨[.ref l,.ref b],[]⟩)
   (fun A R s=>s.heap.get? l=some {cls:=.type "tuple",dict:=dd,data:=.seq items n,slots:=sl}∧s.heap.get? b=some {cls:=.type "tuple",dict:=dd2,data:=.seq items2 n2,slots:=sl2}∧
    gn A.in1 s (decide (items.size < items2.size)) (items.toList.zip items2.toList) ans∧R (.ok (.ret (.bool ans))) s):=
 .of_wp fun prog w A R s h=>by
  obtain ⟨hp,g,d,tk,os⟩:=s;obtain ⟨hl,hb,hP,h⟩:=h
  have f2:=AutoSeq1.sub_tuple_tuple
  wp_walk using wpAny_loadPart' hl,wpAny_loadPart' hb,wpAny_forIn_list _ (fun rest b s'=>b.1=none∧s'=⟨hp,g,d,tk,os⟩∧gn A.in1 ⟨hp,g,d,tk,os⟩ (decide (items.size < items2.size)) rest ans) _
  case turn=>
   rintro ⟨y,x⟩ rest b s' ⟨hb',rfl,hq⟩
   cases hq with
   | yes he hr=>
    refine wpAny_bind (he prog w _ _ ?_)
    wp_walk
    exact ⟨rfl,rfl,hr⟩
   | no he hlt=>
    refine wpAny_bind (he prog w _ _ ?_)
    have hri:=hlt prog w
    wp_walk using hri
    exact ⟨_,rfl,by simpa using h⟩
  case fin=>
   rintro ⟨b1,b2⟩ s' ⟨hb',rfl,hq⟩
   simp only at hb'
   subst hb'
   cases hq
   wp_walk
   exact ⟨_,rfl,by simpa [Builtin.Tuple.tupleCompareSizes] using h⟩
  case h=>
   exact ⟨rfl,rfl,hP⟩
end
section
variable {K:PySem.W.Frag}{J:Hp}{s:Shared}
theorem FO {A:Around}{l b:Addr}{items items2:Array Value}{ans:Bool}(hl:s.heap.IsTuple l items) (hb:s.heap.IsTuple b items2) (hP:gn A.in1 s (decide (items.size < items2.size)) (items.toList.zip items2.toList) ans)
  (hu:A.units < cLine):rN A s (.ref l) (.ref b) ans:=fun prog w E Q h=>by
 obtain ⟨⟨cls,dd,data,sl⟩,ho,hc,n,hd⟩:=id hl
 obtain ⟨⟨cls2,dd2,data2,sl2⟩,ho2,hc2,n2,hd2⟩:=id hb
 simp only at hc hd hc2 hd2
 subst hc hd hc2 hd2
 exact richCompare_meets_room (op:=.Lt) ⟨_,ho,rfl⟩ ⟨_,ho2,rfl⟩ PySem.F.slot_tuple_lt PySem.F.entry_tuple_lt (PySem.F.args_tuple_lt_2 _ _) (CA l b items items2 n n2 dd dd2 sl sl2 ans)
  ⟨ho,ho2,hP,show Value.bool ans≠Value.notImplemented∧Q (.bool ans) s from ⟨(fun x=>nomatch x),h⟩⟩ hu
end
section
variable {K:PySem.W.Frag}{J:Hp}{s:Shared}
mutual
def dI:D→D→Option Bool
 | .bl p,y=>match y with
  | .bl q=>some (!p && q)
  | _=>none
 | .int i,y=>match y with
  | .int j=>some (decide (i < j))
  | _=>none
 | .str x,y=>match y with
  | .str z=>some (decide (x.cps.toList < z.cps.toList))
  | _=>none
 | .tup xs,y=>match y with
  | .tup ys=>jI xs ys
  | _=>none
 | _,_=>none
def jI:List D→List D→Option Bool
 | [],ys=>some (!ys.isEmpty)
 | x::xs,ys=>match ys with
  | []=>some false
  | y::ys=>if bq x y=true then jI xs ys else dI x y
end
theorem FN (A:Around){p:Bool}{e:D}{w:V}{u':Value}{b:Bool}(h:dI (.bl p) e=some b) (re:Rep K J e w) (rw':RelV w u'):rN A s (.bool p) u' b:=by
 unfold dI at h
 cases e with
 | bl q=>
  cases re
  cases rw'
  simp only [Option.some.injEq] at h
  subst h
  intro prog w E Q hq
  refine (lt_bool (p:=p) (q:=q) ?_:wpAny (model prog w) A (compareOp .Lt (.bool p) (.bool q)) Q E s)
  cases p <;> cases q <;> exact hq
 | _=>cases h
theorem Dv (A:Around){p:Int}{t:Tok}{e:D}{w:V}{u':Value}{b:Bool}(h:dI (.int p) e=some b) (re:Rep K J e w) (rw':RelV w u'):rN A s (.int p t) u' b:=by
 unfold dI at h
 cases e with
 | int q=>
  cases re
  obtain ⟨t',rfl⟩:=rw'
  simp only [Option.some.injEq] at h
  subst h
  intro prog w E Q hq
  exact (PyProof.Rows.lt_int hq:wpAny (model prog w) A (compareOp .Lt (.int p t) (.int q t')) Q E s)
 | _=>cases h
theorem Dw (A:Around){p:Str}{t:Tok}{e:D}{w:V}{u':Value}{b:Bool}(h:dI (.str p) e=some b) (re:Rep K J e w) (rw':RelV w u'):rN A s (.str p t) u' b:=by
 unfold dI at h
 cases e with
 | str q=>
  cases re
  obtain ⟨t',rfl⟩:=rw'
  simp only [Option.some.injEq] at h
  subst h
  intro prog w E Q hq
  exact (PyProof.Rows.lt_str hq:wpAny (model prog w) A (compareOp .Lt (.str p t) (.str q t')) Q E s)
 | _=>cases h
def CS (K:PySem.W.Frag) (J:Hp) (s:Shared) (d:D):Prop:=∀{e:D}{v w:V}{u u':Value}{b:Bool}(A:Around),dI d e=some b→Rep K J d v→Rep K J e w→RelV v u→RelV w u'→A.units + dep d < cLine→dep d≤1000→dep e≤1000→rN A s u u' b
def qh (K:PySem.W.Frag) (J:Hp) (s:Shared) (ds:List D):Prop:=∀{es:List D}{vs ws:List V}{us us':List Value}{b:Bool}{n1 n2:Nat}(A:Around),jI ds es=some b→aG K J ds vs→aG K J es ws→Vals vs us→Vals ws us'→A.units + deps ds < cLine→deps ds≤1000→deps es≤1000→
  us.length + n2=us'.length + n1→gn A s (decide (n1 < n2)) (us.zip us') b
theorem Dy (F:HF K J s){ds:List D}(ih:qh K J s ds):CS K J s (.tup ds):=by
 intro e v w u u' b A h rd re rv rw' hu k1 k2
 unfold dI at h
 cases e with
 | tup es=>
  simp only at h
  cases rd with
  | tup h1 hs=>
   cases re with
   | tup h2 hs'=>
    cases rv;cases rw'
    obtain ⟨its,r,p⟩:=F.t _ _ h1
    obtain ⟨its',r',p'⟩:=F.t _ _ h2
    refine FO p p' ?_ (by unfold dep at hu;omega)
    have:=ih A.in1 (n1:=its.length) (n2:=its'.length) h hs hs' r r' (by rw [in1_units];unfold dep at hu;omega) (by unfold dep at k1;omega) (by unfold dep at k2;omega) (by omega)
    simpa using this
 | _=>cases h
theorem BQ:qh K J s []:=by
 intro es vs ws us us' b n1 n2 A h rd re rv rw' hu k1 k2 hl
 cases rd;cases rv
 cases re with
 | nil=>
  cases rw'
  simp only [jI,List.isEmpty_nil,Bool.not_true,Option.some.injEq] at h
  subst h
  have:decide (n1 < n2)=false:=decide_eq_false (by simp at hl;omega)
  rw [this]
  exact .nil
 | cons _ _=>
  cases rw'
  simp only [jI,List.isEmpty_cons,Bool.not_false,Option.some.injEq] at h
  subst h
  have:decide (n1 < n2)=true:=decide_eq_true (by simp at hl;omega)
  rw [this]
  exact .nil
theorem Ak (F:HF K J s){x:D}{xs:List D}(ix:CS K J s x) (ih:qh K J s xs):qh K J s (x::xs):=by
 intro es vs ws us us' b n1 n2 A h rd re rv rw' hu k1 k2 hl
 cases rd with
 | cons q1 r1=>
  cases rv with
  | cons t1 u1=>
   cases re with
   | nil=>
    cases rw'
    simp only [jI,Option.some.injEq] at h
    subst h
    have:decide (n1 < n2)=false:=decide_eq_false (by simp at hl;omega)
    rw [this]
    exact .nil
   | cons q2 r2=>
    cases rw' with
    | cons t2 u2=>
     unfold deps at hu k1 k2
     rename_i y v' ys ws' u0 us0
     have he:=lM F A q1 q2 t1 t2 (by omega) (by omega) (by omega)
     simp only [jI] at h
     cases z:bq x y with
     | true=>
      rw [z,if_pos rfl] at h
      rw [z] at he
      exact .yes he (ih A h r1 r2 u1 u2 (by omega) (by omega) (by omega) (by simp at hl;omega))
     | false=>
      rw [z,if_neg Bool.false_ne_true] at h
      rw [z] at he
      exact .no he (ix A h q1 q2 t1 t2 (by omega) (by omega) (by omega))
mutual
theorem LM (F:HF K J s):∀d:D,CS K J s d
 | .bl p=>fun A h rd re rv rw' _ _ _=>by cases rd;cases rv;exact FN A h re rw'
 | .int p=>fun A h rd re rv rw' _ _ _=>by cases rd;obtain ⟨t,rfl⟩:=rv;exact Dv A h re rw'
 | .str p=>fun A h rd re rv rw' _ _ _=>by cases rd;obtain ⟨t,rfl⟩:=rv;exact Dw A h re rw'
 | .tup ds=>Dy F (uV F ds)
 | .non=>fun A h _ _ _ _ _ _ _=>by unfold dI at h;cases h
 | .lst _=>fun A h _ _ _ _ _ _ _=>by unfold dI at h;cases h
 | .emp=>fun A h _ _ _ _ _ _ _=>by unfold dI at h;cases h
 | .exn _ _ _=>fun A h _ _ _ _ _ _ _=>by unfold dI at h;cases h
 | .dct _ _=>fun A h _ _ _ _ _ _ _=>by unfold dI at h;cases h
theorem uV (F:HF K J s):∀ds:List D,qh K J s ds
 | []=>BQ
 | x::xs=>Ak F (LM F x) (uV F xs)
end
end
end DL
namespace DL
open PySem PySem.Spec PyProof.Rows L2
open PySem.W (KasT kas_sort kas_asc kas_desc kas_rev kas_tail3 kas_descPart kas_count kas_place kas_bin)
def aV {α:Type}(q:Nat→Nat→Bool):KasT α→α
 | .ret a=>a
 | .ask i j k=>aV q (k (q i j))
inductive fq (n:Nat){α:Type}(P:α→Prop):KasT α→Prop
 | ret {a:α}:P a→fq n P (.ret a)
 | ask {i j:Nat}{k:Bool→KasT α}:i < n→j < n→(∀b,fq n P (k b))→fq n P (.ask i j k)
theorem fq.bind {n:Nat}{α β:Type}{P:α→Prop}{R:β→Prop}{f:α→KasT β}{t:KasT α}(h:fq n P t) (hf:∀a,P a→fq n R (f a)):fq n R (t.bind f):=by
 induction h with
 | ret p=>exact hf _ p
 | ask h1 h2 _ ih=>exact .ask h1 h2 ih
theorem fq.run {n:Nat}{α:Type}{P:α→Prop}{t:KasT α}(q:Nat→Nat→Bool) (h:fq n P t):P (aV q t):=by
 induction h with
 | ret p=>exact p
 | ask _ _ _ ih=>exact ih _
theorem fq.wp {n:Nat}{α:Type}{P:α→Prop}{t:KasT α}{q:Nat→Nat→Bool}{cmp:Nat→Nat→(Bool→Shared→Prop)→Shared→Prop}{s:Shared}{G:α→Shared→Prop}(h:fq n P t)
  (hc:∀i j C,i < n→j < n→C (q i j) s→cmp i j C s) (hG:G (aV q t) s):t.kasWp cmp G s:=by
 induction h with
 | ret p=>exact hG
 | ask h1 h2 _ ih=>exact hc _ _ _ h1 h2 (ih _ hG)
def d9 (n:Nat) (p:Array Nat):Prop:=p.Perm (List.range n).toArray
theorem d9.lt {n:Nat}{p:Array Nat}(h:d9 n p) (hn:0 < n) (k:Nat):p.getD k 0 < n:=by
 by_cases hk:k < p.size
 ·have e:p.getD k 0=p[k]:=by simp [Array.getD,hk]
  rw [e]
  have hm:p[k]∈p:=Array.getElem_mem hk
  have:=(Array.Perm.mem_iff h).mp hm
  simpa using this
 ·have e:p.getD k 0=0:=by simp [Array.getD,hk]
  rw [e];exact hn
theorem d9.rev {n:Nat}{p:Array Nat}(h:d9 n p) (i j:Nat):d9 n (kas_rev p i j):=(mirror_perm _ _ _ _).trans h
theorem d9.bub {n:Nat}{p:Array Nat}(h:d9 n p) (i j:Nat):d9 n (bubble p i j):=(bubble_perm _ _ _).trans h
variable {n:Nat}
theorem zL {p:Array Nat}(hn:0 < n) (h:d9 n p):∀f m,fq n (fun _:Nat=>True) (kas_asc p f m)
 | 0,m=>.ret trivial
 | f + 1,m=>.ask (h.lt hn _) (h.lt hn _) fun b=>by cases b with
  | true=>exact .ret trivial
  | false=>exact zL hn h f (m + 1)
theorem qp (hn:0 < n):∀f {p:Array Nat} m q,d9 n p→fq n (fun r:Array Nat×Nat×Nat=>d9 n r.1) (kas_desc f p m q)
 | 0,p,m,q,h=>.ret h
 | f + 1,p,m,q,h=>.ask (h.lt hn _) (h.lt hn _) fun b=>by
  cases b with
  | true=>
   simp only [if_true]
   by_cases hq:q > 0
   ·rw [if_pos hq];exact qp hn f _ _ (h.rev _ _)
   ·rw [if_neg hq];exact qp hn f _ _ h
  | false=>
   simp only [Bool.false_eq_true,if_false]
   refine .ask (h.lt hn _) (h.lt hn _) fun b=>?_
   cases b with
   | true=>exact .ret h
   | false=>exact qp hn f _ _ h
theorem Ba (hn:0 < n){p:Array Nat}(h:d9 n p) (m k:Nat):fq n (fun r:Nat×Array Nat=>d9 n r.2) (kas_tail3 m k p):=(zL hn (h.rev 0 m) _ _).bind fun a _=>.ret (h.rev _ _)
theorem yL (hn:0 < n){p:Array Nat}(h:d9 n p) (m k:Nat):fq n (fun r:Nat×Array Nat=>d9 n r.2) (kas_descPart m k p):=(qp hn _ _ _ h).bind fun r hr=>by
 split
 ·exact Ba hn (hr.rev _ _) _ _
 ·exact Ba hn hr _ _
theorem E_ (hn:0 < n){p:Array Nat}(h:d9 n p) (k:Nat):fq n (fun r:Nat×Array Nat=>d9 n r.2) (kas_count k p):=(zL hn h _ _).bind fun m _=>by
 split
 ·exact .ret h
 ·split
  ·refine .ask (h.lt hn _) (h.lt hn _) fun b=>?_
   cases b with
   | true=>exact .ret h
   | false=>exact yL hn (h.rev _ _) _ _
  ·exact yL hn h _ _
theorem rR (hn:0 < n){p:Array Nat}(h:d9 n p) (k:Nat):∀f l r,fq n (fun _:Nat=>True) (kas_place p k f l r)
 | 0,l,r=>.ret trivial
 | f + 1,l,r=>by
  unfold kas_place
  split
  ·exact .ret trivial
  ·refine .ask (h.lt hn _) (h.lt hn _) fun b=>?_
   cases b with
   | true=>exact rR hn h k f _ _
   | false=>exact rR hn h k f _ _
theorem EF (hn:0 < n):∀f {p:Array Nat} k,d9 n p→fq n (d9 n) (kas_bin f p k)
 | 0,p,k,h=>.ret h
 | f + 1,p,k,h=>(rR hn h k _ _ _).bind fun l _=>EF hn f _ (h.bub _ _)
theorem d_ (hn:0 < n):fq n (d9 n) (kas_sort n):=(E_ hn (show d9 n _ from Array.Perm.refl _) n).bind fun r hr=>by
 split
 ·exact EF hn _ _ hr
 ·exact .ret hr
end DL
namespace DL
open PySem PySem.Spec PyProof.Rows L2
open PySem.W (KasT kas_sort kas_ask kas_item kat_run kat_snds KatLex kat_cons kat_yes kat_no kat_lt kat_one KatTups kat_kind Looks)
section
variable {prog:Program}{w:World}{A:Around}{E:Value→Shared→Prop}{s:Shared}
def iz (q:Nat→Nat→Bool) (vs:List Value):List Value:=(aV q (kas_sort vs.length)).toList.map fun i=>vs.getD i Value.none
theorem DH (q:Nat→Nat→Bool){vs:List Value}(h:0 < vs.length):(iz q vs).length=vs.length:=by
 unfold iz
 rw [List.length_map,Array.length_toList]
 have:=((d_ h).run q:d9 _ _).size_eq
 simpa using this
theorem qT {a:Addr}{vs:List Value}{n:Nat}{κ:SortKind}{q:Nat→Nat→Bool}{P:PySem.Fin→Shared→Prop}(ho:s.heap.get? a=some (seqObj "list" vs.toArray n)) (h2:2≤vs.length) (h64:vs.length < 64)
  (hk:∀h' C,(∀b o,b≠a→s.heap.get? b=some o→h'.get? b=some o)→C κ {s with heap:=h'}→wpAny (model prog w) A (keyKind' vs.toArray) C (fun _ _=>False) {s with heap:=h'})
  (hc:∀h',(∀b o,b≠a→s.heap.get? b=some o→h'.get? b=some o)→∀i j C,i < vs.length→j < vs.length→C (q i j) {s with heap:=h'}→kas_ask prog w A κ vs i j C {s with heap:=h'})
  (h:P (.done (.ret .none)) {s with heap:=sortedHeap s.heap a vs (iz q vs).toArray}):wpAny (model prog w) A (Builtin.«list.sort» ⟨[.ref a],[]⟩) P E s:=by
 have la:a < s.heap.objs.size:=Heap.lt_size ho
 have sl:vs.length≤sizeLine:=by rw [sizeLine_eq];omega
 obtain ⟨e1,g1⟩:∃e1,(s.heap.update a (Obj.mapSeq fun _=>(#[]:Array Value))).get? a=some (seqObj "list" #[] e1):=⟨_,(get?_update_seq ho fun _=>#[])⟩
 have z1:(s.heap.update a (Obj.mapSeq fun _=>(#[]:Array Value))).objs.size=s.heap.objs.size:=(Heap.size_update _ _ _)
 have g3:(((s.heap.update a (Obj.mapSeq fun _=>(#[]:Array Value))).push (seqObj "tuple" vs.toArray 0)).push (seqObj "list" #[] 0)).get? a=some (seqObj "list" #[] e1):=(Heap.get?_push_of_some _ ((Heap.get?_push_of_some _ g1)))
 have kp:∀b o,b≠a→s.heap.get? b=some o→(((s.heap.update a (Obj.mapSeq fun _=>(#[]:Array Value))).push (seqObj "tuple" vs.toArray 0)).push (seqObj "list" #[] 0)).get? b=some o:=fun b o nb q=>
  Heap.get?_push_of_some _ (Heap.get?_push_of_some _ (by rw [Heap.get?_update_ne _ _ _ _ nb];exact q))
 rw [list_sort_plain]
 refine wpAny_bind ((listItems_at ho rfl ?_))
 refine wpAny_bind (listUpdate_at ho rfl ?_ (by rw [List.size_toArray];exact sl) (Nat.zero_le _))
 refine wpAny_bind ((seqEpoch_at g1 rfl ?_))
 refine wpAny_bind (wpAny_newTuple ?_ (show vs.length≤_ from sl))
 refine wpAny_bind ((wpAny_newList ?_ (Nat.zero_le _)))
 refine (wpAny_holding ?_)
 dsimp only
 have n2:¬vs.toArray.size < 2:=by (rw [List.size_toArray]);omega
 rw [if_neg n2,if_neg n2]
 refine wpAny_bind (wpAny_mono (hk _ (fun k s'=>k=κ∧s'=_) kp ⟨rfl,rfl⟩) ?_ fun _ _ x=>x.elim)
 rintro _ _ ⟨rfl,rfl⟩
 refine wpAny_bind (wpAny_mono (kat_run (E:=E) (Q:=fun st' s'=>∃p:Array Nat,p.size=vs.length∧arrOf st'=p.map (kas_item (vs.toArray.zip vs.toArray))∧failedOf st'=none∧p=aV q (kas_sort vs.length)∧s'=_)
  rfl h2 h64 (fun p' st' s' a1 a2 a3 a4=>⟨p',a1,a2,a3,a4⟩) ((d_ (by omega)).wp (q:=q) (hc _ kp) ⟨rfl,rfl⟩)) ?_ fun _ _ e=>e)
 rintro ⟨⟨⟩,st'⟩ s' ⟨p,hp,har,hf,rfl,rfl⟩
 dsimp only
 have ou:(arrOf st').map (·.2)=(iz q vs).toArray:=kat_snds rfl har
 rw [ou]
 refine wpAny_bind ((seqEpoch_at g3 rfl ?_))
 refine wpAny_bind (listUpdate_at g3 rfl ?_ (Nat.zero_le _) (Nat.le_trans (Nat.le_of_eq (List.size_toArray.trans (DH q (Nat.lt_of_lt_of_le Nat.zero_lt_two h2)))) (Nat.le_succ_of_le sl)))
 rw [hf]
 simp only [bne_self_eq_false,Bool.false_eq_true,if_false]
 exact wpAny_pure h
theorem zm {l:Addr}{vs:List Value}{κ:SortKind}{q:Nat→Nat→Bool}{Q:Value→Shared→Prop}(hl:s.heap.IsList l vs.toArray) (h2:2≤vs.length) (h64:vs.length < 64)
  (hk:∀h' C,(∀b o,s.heap.get? b=some o→h'.get? b=some o)→C κ {s with heap:=h'}→wpAny (model prog w) A.in1.in1 (keyKind' vs.toArray) C (fun _ _=>False) {s with heap:=h'})
  (hc:∀h',(∀b o,s.heap.get? b=some o→h'.get? b=some o)→∀i j C,i < vs.length→j < vs.length→C (q i j) {s with heap:=h'}→kas_ask prog w A.in1.in1 κ vs i j C {s with heap:=h'})
  (h:Q (.ref (s.heap.objs.size + 1)) {s with heap:=sortedAll s.heap vs (iz q vs).toArray}):wpAny (model prog w) A (call (.builtin "sorted") [.ref l]) Q E s:=by
 have sl:vs.length≤sizeLine:=by rw [sizeLine_eq];omega
 refine (Calls.call_function_entry kind_sorted plain_sorted entry_sorted (args_sorted1 _) ?_)
 unfold Builtin.«sorted»
 refine wpAny_bind (m:=checkCount "sorted" 1 1 _) ((wpAny_pure ?_))
 refine wpAny_bind (collect_list hl ?_ sl)
 refine wpAny_bind (wpAny_newList ?_ sl)
 have z:((s.heap.push (seqObj "list" #[] 0)).update s.heap.objs.size (Obj.mapSeq (·++vs.toArray))).objs.size=s.heap.objs.size + 1:=(by rw [Heap.size_update,size_push'])
 have gL:(((s.heap.push (seqObj "list" #[] 0)).update s.heap.objs.size (Obj.mapSeq (·++vs.toArray))).push (seqObj "list" vs.toArray 0)).get? (s.heap.objs.size + 1)=some (seqObj "list" vs.toArray 0):=(by rw [←z];exact Heap.get?_push_size _ rfl)
 have kp:∀b o,s.heap.get? b=some o→b≠s.heap.objs.size + 1∧(((s.heap.push (seqObj "list" #[] 0)).update s.heap.objs.size (Obj.mapSeq (·++vs.toArray))).push (seqObj "list" vs.toArray 0)).get? b=some o:=fun b o e=>by
  have lb:b < s.heap.objs.size:=Heap.lt_size e
  refine ⟨Nat.ne_of_lt (Nat.lt_succ_of_lt lb),?_⟩
  rw [Heap.get?_push_ne _ _ _ (z▸Nat.ne_of_lt (Nat.lt_succ_of_lt lb)),Heap.get?_update_ne _ _ _ _ (Nat.ne_of_lt lb),Heap.get?_push_ne _ _ _ ((Nat.ne_of_lt lb))]
  exact e
 dsimp only
 rw [z]
 refine wpAny_bind (wpAny_holding (wpAny_call_entry slot_list_sort ⟨_,gL,rfl⟩ entry_list_sort (qT (κ:=κ) (q:=q) gL h2 h64 (fun h' C k c=>?_) (fun h' k i j C hi hj c=>?_) ⟨_,rfl,?_⟩) (args_list_sort _)))
 ·exact hk h' C (fun b o e=>k b o (kp b o e).1 (kp b o e).2) c
 ·exact hc h' (fun b o e=>k b o (kp b o e).1 (kp b o e).2) i j C hi hj c
 ·exact wpAny_pure ⟨_,rfl,h⟩
end
end DL
namespace DL
open PySem PySem.Spec PyProof.Rows L2
open PySem.W (KasT kas_sort kas_ask KatLex kat_nil kat_cons kat_yes kat_no kat_lt kat_one KatTups kat_kind Looks)
section
variable {prog:Program}{w:World}{A:Around}{E:Value→Shared→Prop}{s:Shared}{K:PySem.W.Frag}{J:Hp}
theorem tE {fin ans:Bool}{Q:Bool→Shared→Prop}{zs:List (Value×Value)}{b:Bool}(h:gn A s fin zs ans) (hq:Q ans s):∀{i:Nat},(b && i == 0)=false→KatLex prog w A b fin Q zs i s:=by
 induction h with
 | nil=>intro i _;exact kat_nil hq
 | yes he _ ih=>intro i _;exact kat_cons (he prog w _ _ (kat_yes (ih hq (by cases b <;> rfl))))
 | no he hl=>
  intro i hb
  refine kat_cons (he prog w _ _ (kat_no ?_))
  rw [hb]
  exact kat_one _ _ (hl prog w _ _ hq)
theorem FG {fin ans e:Bool}{Q:Bool→Shared→Prop}{u u':Value}{zs:List (Value×Value)}(he:SeqAt.EqAt A s u u' e) (h1:e=true→gn A s fin zs ans)
  (h2:e=false→wpAny (model prog w) A (oneLt' true u u') Q (fun _ _=>False) s) (hq:Q ans s):KatLex prog w A true fin Q ((u,u')::zs) 0 s:=by
 cases e with
 | true=>exact kat_cons (he prog w _ _ (kat_yes (tE (h1 rfl) hq rfl)))
 | false=>exact kat_cons (he prog w _ _ (kat_no (h2 rfl)))
inductive Hd where
 | t | i | x
def g8:D→Option Hd
 | .tup (.tup _::_)=>some .t
 | .tup (.int _::_)=>some .i
 | .tup (.str _::_)=>some .x
 | _=>none
def Hd.flag:Hd→Bool
 | .t=>false
 | _=>true
def Hd.ty:Hd→Value
 | .t=>.type "tuple"
 | .i=>.type "int"
 | .x=>.type "str"
theorem DG {x y:D}{v v':V}{u u':Value}{k:Hd}{b:Bool}{C:Bool→Shared→Prop}{xs ys:List D}(hd:g8 (.tup (x::xs))=some k) (he:g8 (.tup (y::ys))=some k) (hf:k.flag=true) (h:dI x y=some b) (rd:Rep K J x v) (re:Rep K J y v') (rv:RelV v u) (rv':RelV v' u') (c:C b s):
  wpAny (model prog w) A (oneLt' true u u') C E s:=by
 cases x with
 | int x=>
  cases hd
  cases y with
  | int y=>
   cases rd;cases re
   obtain ⟨tk,rfl⟩:=rv
   obtain ⟨tk',rfl⟩:=rv'
   unfold dI at h
   simp only [Option.some.injEq] at h
   refine oneLt_int ?_
   rw [h];exact c
  | _=>cases he
 | str x=>
  cases hd
  cases y with
  | str y=>
   cases rd;cases re
   obtain ⟨tk,rfl⟩:=rv
   obtain ⟨tk',rfl⟩:=rv'
   unfold dI at h
   simp only [Option.some.injEq] at h
   refine oneLt_str ?_
   rw [h];exact c
  | _=>cases he
 | tup _=>cases hd;cases hf
 | _=>cases hd
theorem yZ (F:HF K J s){d e:D}{v v':V}{u u':Value}{k:Hd}{b:Bool}{C:Bool→Shared→Prop}(hd:g8 d=some k) (he:g8 e=some k) (h:dI d e=some b) (rd:Rep K J d v) (re:Rep K J e v') (rv:RelV v u) (rv':RelV v' u')
  (hu:A.units + dep d < cLine) (k1:dep d≤1000) (k2:dep e≤1000) (c:C b s):wpAny (model prog w) A (keyLt' (tuples' k.flag) u u') C E s:=by
 cases d with
 | tup ds=>
  cases e with
  | tup es=>
   unfold dI at h
   simp only at h
   cases rd with
   | tup h1 hs=>
    cases re with
    | tup h2 hs'=>
     cases rv;cases rv'
     obtain ⟨its,r,p⟩:=F.t _ _ h1
     obtain ⟨its',r',p'⟩:=F.t _ _ h2
     obtain ⟨o,ho,hc,m,dm⟩:=id p
     obtain ⟨o',ho',hc',m',dm'⟩:=id p'
     refine kat_lt ho dm ho' dm' ?_
     simp only [List.size_toArray]
     cases hf:k.flag with
     | false=>
      exact tE (uV F ds A (n1:=its.length) (n2:=its'.length) h hs hs' r r' (by unfold dep at hu;omega) (by unfold dep at k1;omega) (by unfold dep at k2;omega) (by omega)) c rfl
     | true=>
      cases hs with
      | nil=>cases hd
      | cons q1 t1=>
       cases hs' with
       | nil=>cases he
       | cons q2 t2=>
        cases r with
        | cons a1 b1=>
         cases r' with
         | cons a2 b2=>
          unfold dep deps at hu k1 k2
          rw [List.zip_cons_cons]
          unfold jI at h
          simp only at h
          refine FG (ans:=b) (lM F A q1 q2 a1 a2 (by omega) (by omega) (by omega)) (fun z=>?_) (fun z=>?_) c
          ·rw [z,if_pos rfl] at h
           exact uV F _ A h t1 t2 b1 b2 (by omega) (by omega) (by omega) (by simp;omega)
          ·rw [z,if_neg Bool.false_ne_true] at h
           exact DG hd he hf h q1 q2 a1 a2 c
  | _=>cases he
 | _=>cases hd
def gQ (k:Hd):List D→Bool
 | []=>true
 | d::r=>(match g8 d,k with
  | some .t,.t=>true
  | some .i,.i=>true
  | some .x,.x=>true
  | _,_=>false) && gQ k r
theorem jv {k:Hd}:∀{ds:List D},gQ k ds=true→∀d∈ds,g8 d=some k
 | [],_,_,hm=>nomatch hm
 | x::r,h,d,hm=>by
  unfold gQ at h
  rw [Bool.and_eq_true] at h
  rcases List.mem_cons.mp hm with rfl | hm
  ·cases q:g8 d with
   | none=>rw [q] at h;cases h.1
   | some k'=>rw [q] at h;cases k' <;> cases k <;> first | rfl | cases h.1
  ·exact jv h.2 d hm
theorem BG (F:HF K J s){d:D}{v:V}{u:Value}{k:Hd}(hd:g8 d=some k) (rd:Rep K J d v) (rv:RelV v u):∃a o xs n f,u=.ref a∧s.heap.get? a=some o∧o.cls=.type "tuple"∧o.data=.seq xs n∧xs[0]?=some f∧Looks (model prog w) s.heap (typeOf f) k.ty:=by
 cases d with
 | tup ds=>
  cases rd with
  | tup h1 hs=>
   cases rv
   obtain ⟨its,r,p⟩:=F.t _ _ h1
   obtain ⟨o,ho,hc,m,dm⟩:=id p
   cases hs with
   | nil=>cases hd
   | cons q1 t1=>
    cases r with
    | cons a1 b1=>
     refine ⟨_,o,_,m,_,rfl,ho,hc,dm,rfl,?_⟩
     rename_i x v' ds' vs' u us
     cases x with
     | tup _=>
      cases hd
      cases q1 with
      | tup h2 _=>
       cases a1
       obtain ⟨its2,_,p2⟩:=F.t _ _ h2
       obtain ⟨o2,ho2,hc2,_,_⟩:=id p2
       have:=(Looks.ld (M:=model prog w) (part:=none) ho2).andThen (f:=fun o=>pure o.cls) (b:=o2.cls) .now
       rw [hc2] at this
       exact this
     | int _=>
      cases hd
      cases q1
      obtain ⟨tk,rfl⟩:=a1
      exact .now
     | str _=>
      cases hd
      cases q1
      obtain ⟨tk,rfl⟩:=a1
      exact .now
     | _=>cases hd
 | _=>cases hd
theorem qN (F:HF K J s){k:Hd}:∀{ds:List D}{vs:List V}{us:List Value},gQ k ds=true→aG K J ds vs→Vals vs us→∃fs,KatTups s.heap us fs∧fs.length=us.length∧∀v∈fs,Looks (model prog w) s.heap (typeOf v) k.ty
 | _,_,_,_,.nil,.nil=>⟨[],trivial,rfl,fun _ h=>nomatch h⟩
 | d::ds,_,_,h,.cons q rs,.cons a b=>by
  have hd:=jv h d (List.mem_cons_self ..)
  unfold gQ at h
  rw [Bool.and_eq_true] at h
  obtain ⟨fs,h1,h2,h3⟩:=qN F h.2 rs b
  obtain ⟨p,o,xs,n,f,rfl,e1,e2,e3,e4,e5⟩:=BG (prog:=prog) (w:=w) F hd q a
  refine ⟨f::fs,⟨⟨p,o,xs,n,rfl,e1,e2,e3,e4⟩,h1⟩,by simp [h2],fun v hv=>?_⟩
  rcases List.mem_cons.mp hv with rfl | hv
  ·exact e5
  ·exact h3 v hv
theorem Fp (k:Hd):(k.ty != Value.type "tuple")=k.flag:=by cases k <;> decide
theorem tF (F:HF K J s){k:Hd}{ds:List D}{vs:List V}{us:List Value}(h:gQ k ds=true) (rs:aG K J ds vs) (rv:Vals vs us) (hl:0 < us.length){C:SortKind→Shared→Prop}(c:C (tuples' k.flag) s):wpAny (model prog w) A (keyKind' us.toArray) C E s:=by
 obtain ⟨fs,h1,h2,h3⟩:=qN (prog:=prog) (w:=w) F h rs rv
 refine kat_kind h1 (by omega) h3 (by cases k <;> decide) ?_
 rw [Fp]
 exact c
end
end DL
namespace DL
open PySem PySem.Spec PyProof.Rows L2
open PySem.W (KasT kas_sort kas_ask)
section
variable {prog:Program}{w:World}{A:Around}{E:Value→Shared→Prop}{s:Shared}
theorem qS {a:Addr}{vs:List Value}{n:Nat}{P:PySem.Fin→Shared→Prop}(ho:s.heap.get? a=some (seqObj "list" vs.toArray n)) (h2:vs.length < 2)
  (h:P (.done (.ret .none)) {s with heap:=sortedHeap s.heap a vs vs.toArray}):wpAny (model prog w) A (Builtin.«list.sort» ⟨[.ref a],[]⟩) P E s:=by
 have sl:vs.length≤sizeLine:=by rw [sizeLine_eq];omega
 obtain ⟨e1,g1⟩:∃e1,(s.heap.update a (Obj.mapSeq fun _=>(#[]:Array Value))).get? a=some (seqObj "list" #[] e1):=⟨_,(get?_update_seq ho fun _=>#[])⟩
 have g3:(((s.heap.update a (Obj.mapSeq fun _=>(#[]:Array Value))).push (seqObj "tuple" vs.toArray 0)).push (seqObj "list" #[] 0)).get? a=some (seqObj "list" #[] e1):=(Heap.get?_push_of_some _ ((Heap.get?_push_of_some _ g1)))
 rw [list_sort_plain]
 refine wpAny_bind ((listItems_at ho rfl ?_))
 refine wpAny_bind (listUpdate_at ho rfl ?_ (by rw [List.size_toArray];exact sl) (Nat.zero_le _))
 refine wpAny_bind ((seqEpoch_at g1 rfl ?_))
 refine wpAny_bind (wpAny_newTuple ?_ (show vs.length≤_ from sl))
 refine wpAny_bind ((wpAny_newList ?_ (Nat.zero_le _)))
 refine (wpAny_holding ?_)
 dsimp only
 have n2:vs.toArray.size < 2:=by (rw [List.size_toArray]);omega
 rw [if_pos n2,if_pos n2]
 refine (wpAny_bind (wpAny_pure ?_))
 rw [StateT.run_pure]
 refine (wpAny_bind (wpAny_pure ?_))
 dsimp only
 have ou:(arrOf (SortSt.mk' general' (vs.toArray.zip vs.toArray) #[] 7 none)).map (·.2)=vs.toArray:=by
  show (vs.toArray.zip vs.toArray).map (·.2)=vs.toArray
  match vs,h2 with
  | [],_=>simp
  | [_],_=>simp
 rw [ou]
 refine wpAny_bind ((seqEpoch_at g3 rfl ?_))
 refine wpAny_bind (listUpdate_at g3 rfl ?_ (Nat.zero_le _) (by rw [List.size_toArray];omega))
 simp only [bne_self_eq_false,Bool.false_eq_true,if_false]
 exact wpAny_pure h
theorem zl {l:Addr}{vs:List Value}{Q:Value→Shared→Prop}(hl:s.heap.IsList l vs.toArray) (h2:vs.length < 2)
  (h:Q (.ref (s.heap.objs.size + 1)) {s with heap:=sortedAll s.heap vs vs.toArray}):wpAny (model prog w) A (call (.builtin "sorted") [.ref l]) Q E s:=by
 have sl:vs.length≤sizeLine:=by rw [sizeLine_eq];omega
 refine (Calls.call_function_entry kind_sorted plain_sorted entry_sorted (args_sorted1 _) ?_)
 unfold Builtin.«sorted»
 refine wpAny_bind (m:=checkCount "sorted" 1 1 _) ((wpAny_pure ?_))
 refine wpAny_bind (collect_list hl ?_ sl)
 refine wpAny_bind (wpAny_newList ?_ sl)
 have z:((s.heap.push (seqObj "list" #[] 0)).update s.heap.objs.size (Obj.mapSeq (·++vs.toArray))).objs.size=s.heap.objs.size + 1:=(by rw [Heap.size_update,size_push'])
 have gL:(((s.heap.push (seqObj "list" #[] 0)).update s.heap.objs.size (Obj.mapSeq (·++vs.toArray))).push (seqObj "list" vs.toArray 0)).get? (s.heap.objs.size + 1)=some (seqObj "list" vs.toArray 0):=(by rw [←z];exact Heap.get?_push_size _ rfl)
 dsimp only
 rw [z]
 refine wpAny_bind (wpAny_holding (wpAny_call_entry slot_list_sort ⟨_,gL,rfl⟩ entry_list_sort (qS gL h2 ⟨_,rfl,?_⟩) (args_list_sort _)))
 exact wpAny_pure ⟨_,rfl,h⟩
end
def cK (ds:List D) (i:Nat):D:=ds.getD i .non
def ltB (ds:List D) (i j:Nat):Bool:=(dI (cK ds i) (cK ds j)).getD false
def bg (ds:List D):List D:=if ds.length < 2 then ds else (aV (ltB ds) (kas_sort ds.length)).toList.map (cK ds)
def qw (ds:List D):Bool:=ds.all fun x=>ds.all fun y=>(dI x y).isSome
def DF (ds:List D):Bool:=match ds with
 | []=>false
 | d::_=>match g8 d with
  | some k=>gQ k ds
  | none=>false
def wX (ds:List D):Bool:=decide (ds.length < 2) || (decide (ds.length < 64) && (decide (deps ds≤60) && (DF ds && qw ds)))
section
variable {K:PySem.W.Frag}{J:Hp}
theorem ez {ds:List D}{vs:List V}(h:aG K J ds vs):∀{i:Nat},i < ds.length→Rep K J (cK ds i) (vs.getD i V.non):=by
 induction ds generalizing vs with
 | nil=>intro i hi;exact absurd hi (Nat.not_lt_zero _)
 | cons x r ih=>
  intro i hi
  cases h with
  | cons q rs=>
   cases i with
   | zero=>simpa [cK] using q
   | succ i=>simpa [cK] using ih rs (i:=i) (by simpa using hi)
theorem eB {vs:List V}{us:List Value}(h:Vals vs us):∀{i:Nat},i < vs.length→RelV (vs.getD i V.non) (us.getD i Value.none):=by
 induction vs generalizing us with
 | nil=>intro i hi;exact absurd hi (Nat.not_lt_zero _)
 | cons x r ih=>
  intro i hi
  cases h with
  | cons q rs=>
   cases i with
   | zero=>simpa using q
   | succ i=>simpa using ih rs (i:=i) (by simpa using hi)
theorem mh {ds:List D}{vs:List V}(h:aG K J ds vs):∀ix:List Nat,(∀i∈ix,i < ds.length)→aG K J (ix.map (cK ds)) (ix.map fun i=>vs.getD i V.non)
 | [],_=>.nil
 | i::r,hi=>.cons (ez h (hi i (List.mem_cons_self ..))) (mh h r fun j hj=>hi j (List.mem_cons_of_mem _ hj))
theorem mG {vs:List V}{us:List Value}(h:Vals vs us):∀ix:List Nat,(∀i∈ix,i < vs.length)→Vals (ix.map fun i=>vs.getD i V.non) (ix.map fun i=>us.getD i Value.none)
 | [],_=>.nil
 | i::r,hi=>.cons (eB h (hi i (List.mem_cons_self ..))) (mG h r fun j hj=>hi j (List.mem_cons_of_mem _ hj))
theorem yR {ds:List D}:∀{i:Nat},i < ds.length→dep (cK ds i)≤deps ds:=by
 induction ds with
 | nil=>intro i hi;exact absurd hi (Nat.not_lt_zero _)
 | cons x r ih=>
  intro i hi
  unfold deps
  cases i with
  | zero=>show dep x≤_;omega
  | succ i=>
   have:=ih (i:=i) (by simpa using hi)
   have e:cK (x::r) (i + 1)=cK r i:=rfl
   rw [e];omega
theorem dZ {ds:List D}{i:Nat}(hi:i < ds.length):cK ds i∈ds:=by
 have e:cK ds i=ds[i]:=by simp [cK,hi]
 rw [e];exact List.getElem_mem hi
theorem HF.keeps {s:Shared}{h':Heap}(F:HF K J s) (k:∀b o,s.heap.get? b=some o→h'.get? b=some o):HF K J {s with heap:=h'}:=
 ⟨fun a xs h=>let ⟨its,r,o,ho,q⟩:=F.t a xs h;⟨its,r,o,k _ _ ho,q⟩,fun a xs h=>let ⟨its,r,o,ho,q⟩:=F.l a xs h;⟨its,r,o,k _ _ ho,q⟩,fun a h=>let ⟨o,ho,q⟩:=F.e a h;⟨o,k _ _ ho,q⟩,fun a kvs h=>let ⟨o,es,ep,ho,q⟩:=F.d a kvs h;⟨o,es,ep,k _ _ ho,q⟩⟩
end
section
variable {X:Cx}{c:C}{e:Expr}{es:List Expr}{pos:Pos}
theorem vU (hu:X.A.units + 64 < cLine):bN X (.builtin "sorted") (fun xs H Q=>∃p vs ds,xs=[.ref p]∧cA X.K H p vs∧aG X.K H ds vs∧wX ds=true∧∀l vs',H l=none→(∀J,aG X.K J ds vs→aG X.K J (bg ds) vs')→Q (.ref l) (upd H l (.lst vs'))):=by
 intro pins s σ H xs us Q I r h
 obtain ⟨p,vs,ds,rfl,hq,rs,ok,q⟩:=h
 obtain ⟨u,rfl,rx⟩:=vals1 r
 cases rx
 obtain ⟨its,r',pl,hz⟩:=I.list hq
 have l1:vs.length=its.length:=r'.length
 have l2:ds.length=vs.length:=rs.length
 have fr:H (s.heap.objs.size + 1)=none:=I.hok.fresh (Nat.le_succ _)
 have fin:∀(out:List Value) (vs':List V),vs'.length=vs.length→Vals vs' out→(∀J,aG X.K J ds vs→aG X.K J (bg ds) vs')→∃v H',Inv X pins σ H' {s with heap:=sortedAll s.heap its out.toArray}∧RelV v (.ref (s.heap.objs.size + 1))∧Q v H':=fun out vs' lv rv rr=>by
  obtain ⟨n,hn⟩:=sortedAll_at s.heap its out.toArray
  exact ⟨.ref (s.heap.objs.size + 1),_,I.laid (t':=s.toks) (fun b o e=>sortedAll_old e) (Nat.le_succ _) (show cg X.prog X.w _ _ _ (.lst vs') from ⟨by rw [lv];exact hz,out,n,rv,by simpa [seqObj] using hn⟩),rfl,q _ vs' fr rr⟩
 by_cases h2:ds.length < 2
 ·refine zl pl.isList (by omega) (fin its vs rfl r' ?_)
  intro J rj
  unfold bg
  rw [if_pos h2]
  exact rj
 ·unfold wX at ok
  rw [decide_eq_false h2,Bool.false_or,Bool.and_eq_true,Bool.and_eq_true,Bool.and_eq_true] at ok
  obtain ⟨o1,o2,o3,o4⟩:=ok
  have o1:=of_decide_eq_true o1
  have o2:=of_decide_eq_true o2
  obtain ⟨k,hk⟩:∃k,gQ k ds=true:=by
   unfold DF at o3
   cases ds with
   | nil=>cases o3
   | cons d r=>
    simp only at o3
    cases z:g8 d with
    | none=>rw [z] at o3;cases o3
    | some k=>rw [z] at o3;exact ⟨k,o3⟩
  have F:HF X.K H s:=j5 I
  have un:X.A.in1.in1.units=X.A.units + 2:=rfl
  have ib:∀i∈(aV (ltB ds) (kas_sort ds.length)).toList,i < ds.length:=fun i hi=>by
   have:=((d_ (n:=ds.length) (by omega)).run (ltB ds):d9 _ _)
   have:=(Array.Perm.mem_iff this).mp (Array.mem_toList_iff.mp hi)
   simpa using this
  refine zm (κ:=tuples' k.flag) (q:=ltB ds) pl.isList (by omega) (by omega) (fun h' C kp cc=>?_) (fun h' kp i j C hi hj cc=>?_) ?_
  ·exact tF (F.keeps kp) hk rs r' (by omega) cc
  ·have hi':i < ds.length:=by omega
   have hj':j < ds.length:=by omega
   have hb:dI (cK ds i) (cK ds j)=some (ltB ds i j):=by
    unfold qw at o4
    have:=List.all_eq_true.mp (List.all_eq_true.mp o4 _ (dZ hi')) _ (dZ hj')
    unfold ltB
    cases z:dI (cK ds i) (cK ds j) with
    | none=>rw [z] at this;cases this
    | some b=>rfl
   have d1:=yR hi'
   have d2:=yR hj'
   exact yZ (F.keeps kp) (jv hk _ (dZ hi')) (jv hk _ (dZ hj')) hb (ez rs hi') (ez rs hj') (eB r' (by omega)) (eB r' (by omega)) (by rw [un];omega) (by omega) (by omega) cc
  ·have e1:iz (ltB ds) its=(aV (ltB ds) (kas_sort ds.length)).toList.map fun i=>its.getD i Value.none:=by unfold iz;rw [l2,l1]
   rw [e1]
   refine fin _ _ ?_ (mG r' _ fun i hi=>l2▸ib i hi) ?_
   ·rw [List.length_map,←l2]
    have:=((d_ (n:=ds.length) (by omega)).run (ltB ds):d9 _ _).size_eq
    simpa using this
   ·intro J rj
    unfold bg
    rw [if_neg h2]
    exact mh rj _ ib
end
end DL
namespace DL
open PySem PySem.Spec PyProof.Rows L2
end DL
namespace DL
open PySem PySem.Spec PyProof.Rows L2 DX
section
variable {M:Model}{A:Around}{E:Value→Shared→Prop}{s:Shared}
theorem Al {scope:Scope}{globals:Addr}{closure:List (Str×Addr)}{qual:Str}{func:Option Addr}{code:Value}{outer:Env}{builtins:Addr}{Q:Env→Shared→Prop}
  (hQ:Q (newEnv scope s.heap.objs.size globals (cellsFrom (s.heap.objs.size + 1) scope.names closure) qual func code (some outer) builtins) {s with heap:=pushCells (s.heap.push {cls:=.type "dict",data:=.dict #[]}) scope.names}):
  wpAny M A (newFunctionEnv scope globals closure [] qual func code (some outer) builtins) Q E s:=by
 simp only [newFunctionEnv,Option.isSome_some,if_true]
 refine wpAny_bind (wpAny_alloc ?_)
 refine wpAny_bind (wpAny_layCells _ (fun name kind cells=>by cases hkc:kind == NameKind.cell <;> simp [hkc]) _ _ _ _ ?_)
 rw [show ({s with heap:=s.heap.push {cls:=.type "dict",data:=.dict #[]}}:Shared).heap.objs.size=s.heap.objs.size + 1 from Heap.size_push ..]
 simp only [List.forIn_nil]
 exact wpAny_bind (wpAny_pure (wpAny_pure hQ))
theorem jh:∀(names:List (Str×NameKind)) (n:Nat) (acc:List (Str×Addr)) (x:Str),(∀y∈names,y.2=.cell→y.1≠x)→(cellsFrom n names acc).lookup x=acc.lookup x
 | [],_,_,_,_=>by unfold cellsFrom;rfl
 | (y,k)::r,n,acc,x,h=>by
  have hr:∀z∈r,z.2=.cell→z.1≠x:=fun z hz=>h z (List.mem_cons_of_mem _ hz)
  unfold cellsFrom
  split
  ·rename_i hk
   rw [jh r _ _ x hr]
   have hy:y≠x:=h (y,k) (List.mem_cons_self ..) (by simpa using hk)
   have:(x == y)=false:=by
    cases q:x == y with
    | false=>rfl
    | true=>exact absurd (eq_of_beq q).symm hy
   rw [List.lookup_cons,this]
  ·exact jh r _ _ x hr
end
theorem uA:∀(names:List (Str×NameKind)) (n:Nat) (acc:List (Str×Addr)),cellsFrom n names acc=cellsFrom n names []++acc:=by
 intro names
 suffices ∀(n:Nat) (a b:List (Str×Addr)),cellsFrom n names (a++b)=cellsFrom n names a++b by
  intro n acc
  exact this n [] acc
 induction names with
 | nil=>intro n a b;unfold cellsFrom;rfl
 | cons p r ih=>
  obtain ⟨y,k⟩:=p
  intro n a b
  unfold cellsFrom
  split
  ·exact ih _ (_::a) b
  ·exact ih _ a b
def cS (names:List (Str×NameKind)) (x:Str):Bool:=names.any fun y=>y.1 == x && y.2 == .cell
theorem fZ:∀(names:List (Str×NameKind)) (n:Nat) (acc:List (Str×Addr)) (x:Str),((acc.lookup x).isSome=true∨cS names x=true)→((cellsFrom n names acc).lookup x).isSome=true
 | [],_,_,_,h=>by
  unfold cellsFrom
  rcases h with h | h
  ·exact h
  ·cases h
 | (y,k)::r,n,acc,x,h=>by
  unfold cellsFrom
  have e:cS ((y,k)::r) x=((y == x && k == .cell) || cS r x):=rfl
  rw [e] at h
  split
  ·rename_i hk
   refine fZ r _ _ x ?_
   by_cases hx:x=y
   ·left;subst hx;rw [List.lookup_cons];simp
   ·rcases h with h | h
    ·left
     rw [List.lookup_cons]
     cases q:x == y with
     | true=>exact absurd (eq_of_beq q) hx
     | false=>exact h
    ·rw [Bool.or_eq_true,Bool.and_eq_true] at h
     rcases h with h | h
     ·exact absurd (eq_of_beq h.1).symm hx
     ·exact .inr h
  ·rename_i hk
   refine fZ r _ _ x ?_
   rcases h with h | h
   ·exact .inl h
   ·rw [Bool.or_eq_true,Bool.and_eq_true] at h
    rcases h with h | h
    ·exact absurd h.2 hk
    ·exact .inr h
theorem fO {names:List (Str×NameKind)}{n:Nat}{cl:List (Str×Addr)}{x:Str}{d:Addr}(h:(cellsFrom n names cl).lookup x=some d):
  (cellsFrom n names []).lookup x=some d∨(cS names x=false∧cl.lookup x=some d):=by
 rw [uA,List.lookup_append] at h
 cases q:(cellsFrom n names []).lookup x with
 | some e=>rw [q] at h;left;simpa using h
 | none=>
  rw [q] at h
  right
  refine ⟨?_,by simpa using h⟩
  cases z:cS names x with
  | false=>rfl
  | true=>
   have:=fZ names n [] x (.inr z)
   rw [q] at this
   cases this
theorem nM {scope:Scope}{env:Env}{x:Str}(h:(relabel scope env).names.lookup x=some .cell∨(relabel scope env).names.lookup x=some .free):(x,NameKind.free)∈scope.names∨cS scope.names x=true:=by
 unfold relabel at h
 revert h
 generalize scope.names=names
 induction names with
 | nil=>intro h;simp at h
 | cons p r ih=>
  obtain ⟨n,k⟩:=p
  intro h
  rw [List.map_cons] at h
  simp only at h
  by_cases hx:x=n
  ·subst hx
   cases k with
   | free=>exact .inl (List.mem_cons_self ..)
   | cell=>right;unfold cS;simp
   | _=>simp [List.lookup_cons] at h
  ·have e:(x == n)=false:=by simpa using hx
   have h':(r.map fun (n,k)=>if (k == NameKind.free && env.scope.kind == .function && env.kindOf n == some .cell) then (n,NameKind.cell) else (n,k)).lookup x=some .cell∨(r.map fun (n,k)=>if (k == NameKind.free && env.scope.kind == .function && env.kindOf n == some .cell) then (n,NameKind.cell) else (n,k)).lookup x=some .free:=by
    split at h <;> simpa [List.lookup_cons,e] using h
   rcases ih h' with z | z
   ·exact .inl (List.mem_cons_of_mem _ z)
   ·right
    unfold cS at z ⊢
    rw [List.any_cons,z,Bool.or_true]
section
variable {X:Cx}
def aZ (X:Cx) (own:List Str) (cap:List Nat) (scope:Scope) (cl:List (Str×Addr)) (C:Addr) (s:Shared) (H:Hp) (fp:List Addr):Cx:=
 {HE X own cap scope (cellsFrom (C + 1) scope.names cl) C s H fp with fn:=cS scope.names}
theorem Fi {pins:List (Addr×Obj)}{σ:L2.St}{H:Hp}{s:Shared}{own:List Str}{cap:List Nat}{scope:Scope}{cl:List (Str×Addr)}{fp:List Addr}{h1:Heap}(I:Inv X pins σ H s) (hk:scope.kind=.function)
  (hcl:bG X.env.cells scope.names []=some cl) (ck:CellsOk h1 (s.heap.objs.size + 1) (cellsFrom (s.heap.objs.size + 1) scope.names [])) (hfp:∀b∈fp,jF X pins H b) (hin:∀b∈fp,b < s.heap.objs.size):(aZ X own cap scope cl s.heap.objs.size s H fp).Ok:=by
 obtain ⟨m1,m2⟩:=gG scope.names [] cl hcl (fun x c h=>by simp at h)
 have lo:∀{x:Str}{d:Addr},(cellsFrom (s.heap.objs.size + 1) scope.names []).lookup x=some d→s.heap.objs.size + 1≤d:=fun {x d} h=>(ck.empty _ _ (mem_of_lookup h)).2
 have old:∀{x:Str}{d:Addr},cl.lookup x=some d→d < s.heap.objs.size:=fun {x d} h=>by
  obtain ⟨v,z⟩:=I.cell x d (m1 x d h)
  exact z.lt
 refine ⟨I.ok.mod,hk,I.ok.glob,I.ok.blt,Nat.le_refl _,fun x y d h1 h2=>?_,fun x hx=>?_,fun x d hf h=>?_,fun hc=>I.ok.hd hc,I.ok.frames,.inl rfl,fun b hb=>⟨Nat.ne_of_lt (hin b hb),fun x d h=>?_⟩,
  I.bs,Nat.le_trans I.ok.bsz I.sz,fun b o h hb=>?_,fun b hb hf=>?_,I.stack,I.stkFree⟩
 ·rcases fO h1 with h1 | ⟨_,h1⟩
  ·rcases fO h2 with h2 | ⟨_,h2⟩
   ·exact name_of_addr ck.apart (mem_of_lookup h1) (mem_of_lookup h2)
   ·exact absurd (Nat.lt_of_lt_of_le (old h2) (Nat.le_of_succ_le (lo h1))) (Nat.lt_irrefl _)
  ·rcases fO h2 with h2 | ⟨_,h2⟩
   ·exact absurd (Nat.lt_of_lt_of_le (old h1) (Nat.le_of_succ_le (lo h2))) (Nat.lt_irrefl _)
   ·exact I.ok.inj x y d (m1 x d h1) (m1 y d h2)
 ·refine Option.isSome_iff_exists.mp (fZ _ _ _ x ?_)
  rcases nM hx with z | z
  ·exact .inl (m2 x (.inr z))
  ·exact .inr z
 ·rcases fO h with h | ⟨z,h⟩
  ·exact Nat.le_of_succ_le (lo h)
  ·have hf':cS scope.names x=true:=hf
   rw [z] at hf'
   cases hf'
 ·rcases fO h with h | ⟨_,h⟩
  ·exact Nat.ne_of_gt (Nat.lt_of_lt_of_le (hin b hb) (Nat.le_of_succ_le (lo h)))
  ·exact (hfp b hb).2.2.2.2.1 x d (m1 x d h)
 ·rcases (hfp b hb).2.2.2.1 with z | z
  ·exact I.ok.noex b o h z
  ·exact absurd (Nat.lt_of_lt_of_le (Heap.lt_size (I.ok.bs b o h).1) z) (Nat.lt_irrefl _)
 ·rcases List.mem_cons.mp (I.stkSub b hf) with e | e
  ·exact (hfp b hb).2.1 e
  ·exact (hfp b hb).2.2.1 e
end
theorem wM {names:List (Str×NameKind)}{n:Nat}{cl:List (Str×Addr)}{x:Str}(h:cS names x=false):(cellsFrom n names cl).lookup x=cl.lookup x:=
 jh names n cl x fun y hy hk e=>by
  unfold cS at h
  have:=List.any_eq_false.mp h y hy
  simp [hk,e] at this
section
variable {X:Cx}
theorem C5 {pins:List (Addr×Obj)}{σ:L2.St}{H:Hp}{s:Shared}{own:List Str}{cap:List Nat}{scope:Scope}{cl:List (Str×Addr)}{fp:List Addr}{h1:Heap}{m:Str→Option Value}{tk:Nat}(I:Inv X pins σ H s) (ok:(aZ X own cap scope cl s.heap.objs.size s H fp).Ok)
  (hcl:bG X.env.cells scope.names []=some cl) (ck:CellsOk h1 (s.heap.objs.size + 1) (cellsFrom (s.heap.objs.size + 1) scope.names [])) (hcap:eE X cap=true) (hlocal:∀j∈cap,∀x,X.N[j]?=some x→(relabel scope X.env).names.lookup x≠some .local)
  (hno:∀j∈cap,∀x,X.N[j]?=some x→cS scope.names x=false) (hns:h1.Ns s.heap.objs.size m) (old:∀b o,s.heap.get? b=some o→h1.get? b=some o):
  Inv (aZ X own cap scope cl s.heap.objs.size s H fp) [] (List.replicate own.length none++cap.map fun (j:Nat)=>(σ[j]?).getD none) H {s with heap:=h1,toks:=tk}:=by
 obtain ⟨m1,m2⟩:=gG scope.names [] cl hcl (fun x c h=>by simp at h)
 refine ⟨ok,rfl,I.bare,Un.kept old,⟨m,hns,fun i x v q1 q2 q3=>?_⟩,fun x d h=>?_,I.hok.fresh (Nat.le_refl _),fun x d h=>?_,fun p hp=>absurd (show p∈([]:List (Addr×Obj)) from hp) (by simp),I.hok.kept old,?_⟩
 ·obtain ⟨j,h2,h3,h4⟩:=jN q2
  have q1':(own++cap.map fun (j:Nat)=>(X.N[j]?).getD ("":Str))[i]?=some x:=q1
  rw [List.getElem?_append_right (by exact h2),List.getElem?_map,h3] at q1'
  have hj:j∈cap:=List.mem_of_getElem? h3
  have hc:(match X.N[j]? with
   | some x=>(match X.env.scope.names.lookup x with
    | some .cell=>true
    | some .free=>true
    | _=>false)
   | none=>false)=true:=by
   unfold eE at hcap
   exact List.all_eq_true.mp hcap j hj
  cases hx:X.N[j]? with
  | none=>rw [hx] at hc;cases hc
  | some y=>
   rw [Option.map_some,hx] at q1'
   rw [hx] at hc
   have e:y=x:=by simpa using q1'
   subst e
   have kd:X.env.kindOf y=some .cell∨X.env.kindOf y=some .free:=by
    unfold Env.kindOf
    simp only at hc
    split at hc
    ·rename_i z;exact .inl z
    ·rename_i z;exact .inr z
    ·cases hc
   obtain ⟨mX,nX,lX⟩:=I.loc
   obtain ⟨u,ru,lu⟩:=lX j y v hx h4 (kd.elim (fun z=>.inr (.inl z)) fun z=>.inr (.inr z))
   refine ⟨u,ru,.inr ?_⟩
   have kd':(relabel scope X.env).names.lookup y=some .cell∨(relabel scope X.env).names.lookup y=some .free:=by
    rcases q3 with z | z | z
    ·exact absurd z (hlocal j hj y hx)
    ·exact .inl z
    ·exact .inr z
   refine ⟨kd',?_⟩
   have no:=hno j hj y hx
   have fr:(y,NameKind.free)∈scope.names:=by
    rcases nM kd' with z | z
    ·exact z
    ·rw [no] at z;cases z
   obtain ⟨d,hd⟩:=Option.isSome_iff_exists.mp (m2 y (.inr fr))
   refine ⟨d,(wM no).trans hd,?_⟩
   rcases lu with ⟨z,_⟩ | ⟨_,d',hd',z⟩
   ·rcases kd with k | k <;> (rw [k] at z;cases z)
   ·have:=m1 y d hd
    rw [hd'] at this
    cases this
    obtain ⟨o,ho,hod⟩:=z
    exact ⟨o,old _ _ ho,hod⟩
 ·rcases fO h with h | ⟨_,h⟩
  ·exact ⟨none,(ck.empty _ _ (mem_of_lookup h)).1⟩
  ·obtain ⟨v,o,ho,hod⟩:=I.cell x d (m1 x d h)
   exact ⟨v,o,old _ _ ho,hod⟩
 ·rcases fO h with h | ⟨_,h⟩
  ·exact I.hok.fresh (Nat.le_of_succ_le (ck.empty _ _ (mem_of_lookup h)).2)
  ·exact I.freeC x d (m1 x d h)
 ·show _=(own++cap.map fun (j:Nat)=>(X.N[j]?).getD ("":Str)).length
  simp
end
theorem Iu (h:Heap) (names:List (Str×NameKind)):(pushCells (h.push {cls:=.type "dict",data:=.dict #[]}) names).Ns h.objs.size (fun _=>none):=
 (Heap.Ns.new h (.type "dict")).keeps fun b o e=>pushCells_keeps _ _ _ _ e
theorem Bl (h:Heap) (names:List (Str×NameKind)):CellsOk (pushCells (h.push {cls:=.type "dict",data:=.dict #[]}) names) (h.objs.size + 1) (cellsFrom (h.objs.size + 1) names []):=by
 have:=cellsFrom_ok names (h.push {cls:=.type "dict",data:=.dict #[]}) (h.objs.size + 1) [] ⟨fun _ _ hm=>(nomatch hm),List.Pairwise.nil⟩ (by rw [Heap.size_push];exact Nat.le_refl _)
 rw [Heap.size_push] at this
 exact this
def gD (X:Cx) (cap:List Nat) (scope:Scope):Bool:=cap.all fun j=>match X.N[j]? with
 | some x=>!cS scope.names x
 | none=>true
section
variable {X:Cx}{c:C}
theorem yP {cells:List (Str×Addr)}{names names2:List (Str×NameKind)}{cl:List (Str×Addr)}{n:Nat}(h:bG cells names []=some cl)
  (hn:(names2.all fun y=>!(y.2 == .free) || ((names.any fun z=>z.1 == y.1 && z.2 == .free) || cS names y.1))=true):(bG (cellsFrom n names cl) names2 []).isSome=true:=by
 obtain ⟨_,m2⟩:=gG names [] cl h (fun x c h=>by simp at h)
 have go:∀(l:List (Str×NameKind)) (cs:List (Str×Addr)),(l.all fun y=>!(y.2 == .free) || ((names.any fun z=>z.1 == y.1 && z.2 == .free) || cS names y.1))=true→(bG (cellsFrom n names cl) l cs).isSome=true:=by
  intro l
  induction l with
  | nil=>intro cs _;rfl
  | cons y r ih=>
   obtain ⟨y,k⟩:=y
   intro cs hl
   rw [List.all_cons,Bool.and_eq_true] at hl
   unfold bG
   split
   ·rename_i hk
    have h1:=hl.1
    simp only [hk,Bool.not_true,Bool.false_or,Bool.or_eq_true] at h1
    have:((cellsFrom n names cl).lookup y).isSome=true:=by
     refine fZ names n cl y ?_
     rcases h1 with z | z
     ·obtain ⟨q,hq,e⟩:=List.any_eq_true.mp z
      rw [Bool.and_eq_true] at e
      have e1:q=(y,NameKind.free):=by
       obtain ⟨q1,q2⟩:=q
       have a1:q1=y:=eq_of_beq e.1
       have a2:q2=NameKind.free:=by simpa using e.2
       rw [a1,a2]
      exact .inl (m2 y (.inr (e1▸hq)))
     ·exact .inr z
    obtain ⟨a,ha⟩:=Option.isSome_iff_exists.mp this
    rw [ha]
    exact ih _ hl.2
   ·exact ih _ hl.2
 exact go names2 [] hn
end
section
variable {X:Cx}{c:C}{e:Expr}{es:List Expr}{g:G R}{pos:Pos}
theorem Fw {K:PySem.W.Frag}{x qual:Str}{st:Stmt}{f T:Addr}{oc oT:Value}{od an dT:Option Addr}{osl sT:Array (Option Value)}{kV doc pm cdv ct:Value}{n:Nat}(l:K.lookup f=some ⟨oc,od,.func (PySem.W.fnOf x qual (aK st) (aI st) (au st) (.ref T) kV doc pm an cdv ct),osl⟩)
  (cd:PySem.W.codeIn K cdv qual=true) (k:PySem.W.keepIn K (.ref f)=true) (lT:K.lookup T=some ⟨oT,dT,.seq #[.none] n,sT⟩):mK K x qual st f (PySem.W.fnOf x qual (aK st) (aI st) (au st) (.ref T) kV doc pm an cdv ct):=
 ⟨⟨oc,od,T,_,n,kV,doc,pm,an,cdv,ct,osl,rfl,l,cd,lT,rfl⟩,k⟩
end
end DL
namespace K51
open PySem DL
def zB:List Str:=["_law_script","_law_k"]
def qJ:G O:=(aO (bR (bx (g2 (jM fun i j=>.bl (decide (i < j))) (af 1) (gN fB (aq (af 0) aD)))) (bM (g2 dF (g2 bf (af 0) (af 1)) (g2 Dc (gC (.int 10)) (gC (.int 64))))) dG)
 (bM (gC (.int 0))))
def bW (as:List S):M R:=fin (qJ (bA zB as))
def xZ:List Str:=["_law_cell_here","_law_many","_law_letters","_law_sign","_law_stem","_law_found","_law_k","_law_other","_law_name"]
def pL:G O:=(aO (bh 2 (gC (.str "abcdefghijklmnopqrstuvwxyz")))
 (aO (bh 3 (g2 bf (af 2) (g2 dF (g2 fT (af 0) (gC (.int 3))) (gC (.int 26)))))
 (aO (bh 4 (g2 gf (af 3) (g2 dH (gC (.int 1)) (g2 dF (g2 fT (af 0) (gC (.int 78))) (gC (.int 7))))))
 (aO (bh 5 (fC aW))
 (aO (eZ (cH (aq (af 1) aD)) (aC 6) (aO (bh 7 (g2 bf (af 2) (g2 dF (g2 dH (g2 fT (af 0) (gC (.int 546))) (g2 gf (gC (.int 9)) (af 6))) (gC (.int 26)))))
 (aO (bh 8 (g2 bf (fC (aB (g2 dH (af 4) (af 7)) (aB (g2 dH (af 7) (af 4)) (aB (g2 gf (af 3) (g2 dH (af 6) (gC (.int 2)))) aW)))) (g2 dF (af 0) (gC (.int 3)))))
 (aO (bR (bx (g2 (cM false) (af 8) (gC (.str "or")))) (bh 8 (gC (.str "orx"))) dG)
 (jH 5 (af 8))))))
 (bM (gN j3 (aq (af 5) aD))))))))
def gj (as:List S):M R:=fin (pL (bA xZ as))
def zA:List Str:=["_law_cell_here","_law_size","_law_found","_law_k"]
def qI:G O:=(aO (bh 2 (fC aW))
 (aO (eZ (cH (aq (af 1) aD)) (aC 3) (aO (jH 2 (g2 (cM false) (g2 dF (af 0) (gC (.int 2))) (gC (.int 1))))
 (bh 0 (g2 fT (af 0) (gC (.int 2))))))
 (bM (af 2))))
def gP (as:List S):M R:=fin (qI (bA zA as))
def yc:List Str:=["_law_names_here","_law_many","_law_cells","_law_marks","_law_k","_law_bits_here","_law_arrows"]
def pP:G O:=(aO (bh 3 (fC aW))
 (aO (eZ (cH (aq (gN fB (aq (g2 bf (af 0) (gC (.int 0))) aD)) aD)) (aC 4) (aO (bh 5 (gN (aS 2 K51.gP) (aq (g2 bf (af 2) (af 4)) (aq (af 1) aD))))
 (jH 3 (bI (aB (g2 bf (g2 bf (af 0) (gC (.int 0))) (af 4)) (aB (gN b_ (aq (bH 1 [5] (cH (aq (af 1) aD)) (aC 0) (se (g2 bf (af 1) (af 0))) (af 0)) aD)) aW))))))
 (aO (bh 6 (fC aW))
 (aO (eZ (cH (aq (gN fB (aq (g2 bf (af 0) (gC (.int 1))) aD)) aD)) (aC 4) (aO (bh 5 (gN (aS 2 K51.gP) (aq (g2 bf (af 2) (g2 dH (gC (.int 3)) (af 4))) (aq (g2 gf (af 1) (af 1)) aD))))
 (jH 6 (bI (aB (g2 bf (g2 bf (af 0) (gC (.int 1))) (af 4)) (aB (gN b_ (aq (bH 1 [5,1] (cH (aq (g2 gf (af 1) (af 1)) aD)) (aC 0) (se (g2 bf (af 1) (af 0))) (bI (aB (g2 fT (af 0) (af 2)) (aB (g2 dF (af 0) (af 2)) aW)))) aD)) aW))))))
 (bM (bI (aB (af 1) (aB (gN b_ (aq (af 3) aD)) (aB (gN b_ (aq (af 6) aD)) aW)))))))))
def eX (as:List S):M R:=fin (pP (bA yc as))
end K51
namespace WP
open PySem DL K01
def Wp {α:Type}(m:M α) (P:α→Prop):Prop:=∃a,m=.ok a∧P a
section
variable {α β:Type}{m:M α}{P P':α→Prop}{a:α}{env:Ev}{Q:O→Prop}{t u:G O}{g:G R}{r r':R}{i:Nat}{b:G Bool}
theorem Wp.of (h:m=.ok a) (p:P a):Wp m P:=⟨a,h,p⟩
theorem Wp.mono (h:Wp m P) (k:∀a,P a→P' a):Wp m P':=let ⟨a,h1,h2⟩:=h;⟨a,h1,k a h2⟩
theorem Wp.eq (h:Wp m (·=a)):m=.ok a:=let ⟨_,h1,h2⟩:=h;h2▸h1
theorem nB {P:R→Prop}(h:Wp (t env) fun o=>∃r,o=.rt r∧P r):Wp (fin (t env)) P:=by
 obtain ⟨_,h1,r,rfl,h2⟩:=h
 exact ⟨r,by rw [h1];rfl,h2⟩
theorem rJ (h:Wp (t env) fun o=>∃e,o=.nx e):fin (t env)=.ok (.d .non):=by
 obtain ⟨_,h1,r,rfl⟩:=h
 rw [h1];rfl
theorem dR (h:Wp (t env) (·=.rt r)):fin (t env)=.ok r:=by
 rw [h.eq];rfl
theorem cI (h:Wp (t env) fun o=>match o with
 | .nx e=>Wp (u e) Q
 | o=>Q o):Wp (aO t u env) Q:=by
 obtain ⟨o,h1,h2⟩:=h
 show Wp (t env >>= _) Q
 rw [h1]
 cases o with
 | nx e=>exact h2
 | rt r=>exact ⟨_,rfl,h2⟩
 | bk e=>exact ⟨_,rfl,h2⟩
 | ct e=>exact ⟨_,rfl,h2⟩
theorem fV {x:S}(h:g env=.ok r) (h2:toS r=.ok x) (k:Q (.nx (env.set i (some x)))):Wp (bh i g env) Q:=⟨_,by show (g env >>= _)=_;rw [h,aT,h2];rfl,k⟩
theorem bD {x:S}(h:g env=.ok r) (h2:toS r=.ok x) (k:Wp (u (env.set i (some x))) Q):Wp (aO (bh i g) u env) Q:=cI (fV h h2 k)
theorem b8 (h:g env=.ok r) (h2:rF r=.ok r') (k:Q (.rt r')):Wp (bM g env) Q:=⟨_,Cq h h2,k⟩
theorem om (k:Q (.nx env)):Wp (dG env) Q:=⟨_,rfl,k⟩
theorem L5 (k:Wp (u env) Q):Wp (aO dG u env) Q:=cI (om k)
theorem gR (h:b env=.ok true) (k:Wp (t env) Q):Wp (bR b t u env) Q:=by rw [sq h];exact k
theorem wK (h:b env=.ok false) (k:Wp (u env) Q):Wp (bR b t u env) Q:=by rw [qO h];exact k
theorem Dq {c:Bool}(h:b env=.ok c) (k1:c=true→Wp (t env) Q) (k2:c=false→Wp (u env) Q):Wp (bR b t u env) Q:=by
 cases c with
 | true=>exact gR h (k1 rfl)
 | false=>exact wK h (k2 rfl)
theorem L4 {v:G O}(h:b env=.ok false) (k:Wp (aO u v env) Q):Wp (aO (bR b t u) v env) Q:=by
 have:aO (bR b t u) v env=aO u v env:=by unfold aO;rw [qO h]
 rw [this];exact k
theorem cZ {v:G O}(h:b env=.ok false) (k:Wp (v env) Q):Wp (aO (bR b t dG) v env) Q:=L4 h (L5 k)
theorem oY {xs:List D}{d:D}(h0:env[i]?=some (some (.own xs))) (h:g env=.ok r) (h2:toD r=.ok d) (hl:xs.length≤1000) (k:Q (.nx (env.set i (some (.own (xs++[d])))))):Wp (jH i g env) Q:=by
 refine ⟨_,?_,k⟩
 unfold jH
 rw [h0]
 show (g env >>= _)=_
 rw [h,aT,h2,aT,if_pos (Nat.lt_of_le_of_lt hl (by decide))]
theorem K_ {xs:List D}{d:D}(h0:env[i]?=some (some (.own xs))) (h:g env=.ok r) (h2:toD r=.ok d) (hl:xs.length≤1000) (k:Wp (u (env.set i (some (.own (xs++[d]))))) Q):Wp (aO (jH i g) u env) Q:=cI (oY h0 h h2 hl k)
theorem Ah {gi:G (List D)}{tg:GT}{ds:List D}(h:gi env=.ok ds) (k:Wp (fj tg u ds env) Q):Wp (eZ gi tg u env) Q:=by rw [HP h];exact k
theorem jt {gi:G (List D)}{tg:GT}{ds:List D}{v:G O}(h:gi env=.ok ds) (k:Wp (fj tg t ds env) fun o=>match o with
 | .nx e=>Wp (v e) Q
 | o=>Q o):Wp (aO (eZ gi tg t) v env) Q:=cI (Ah h k)
theorem xX {tg:GT}(I:Nat→Ev→Prop) (ds:List D) (h0:I 0 env) (step:∀(k:Nat) (hk:k < ds.length) (env:Ev),I k env→∃e,tg ds[k] env=.ok e∧Wp (u e) fun o=>∃e,o=.nx e∧I (k + 1) e)
  (k:∀e,I ds.length e→Q (.nx e)):Wp (fj tg u ds env) Q:=by
 have key:∀(es:List D) (i:Nat) (env:Ev),ds.drop i=es→i≤ds.length→I i env→Wp (fj tg u es env) Q:=by
  intro es
  induction es with
  | nil=>
   intro i env hd hi hI
   have:i=ds.length:=by
    have:=congrArg List.length hd
    rw [List.length_drop] at this
    simp at this;omega
   subst this
   exact ⟨_,rfl,k _ hI⟩
  | cons d es ih=>
   intro i env hd hi hI
   have hlt:i < ds.length:=by
    have:=congrArg List.length hd
    rw [List.length_drop] at this
    simp at this;omega
   have e1:=List.drop_eq_getElem_cons hlt
   rw [hd] at e1
   obtain ⟨q1,q2⟩:=List.cons.inj e1
   obtain ⟨e,h1,_,h2,e2,rfl,h3⟩:=step i hlt env hI
   unfold fj
   rw [q1,h1,aT,h2,aT]
   exact ih (i + 1) e2 q2.symm (by omega) h3
 exact key ds 0 env rfl (Nat.zero_le _) h0
theorem kX {tg:GT}{n:Nat}(I:Nat→Ev→Prop) (h0:I 0 env) (step:∀(k:Nat),k < n→∀env,I k env→∃e,tg (.int k) env=.ok e∧Wp (u e) fun o=>∃e,o=.nx e∧I (k + 1) e)
  (k:∀e,I n e→Q (.nx e)):Wp (fj tg u (fc 0 n) env) Q:=by
 have hl:(fc 0 n).length=n:=by simp [fc]
 refine xX I (fc 0 n) h0 (fun j hj env hI=>?_) (by rw [hl];exact k)
 obtain ⟨e,h1,h2⟩:=step j (by rw [hl] at hj;exact hj) env hI
 refine ⟨e,?_,h2⟩
 rw [←h1]
 simp [fc]
theorem n1 {f:List R→M R}{x z:R}(hx:g env=.ok x) (hf:f [x]=.ok z):gN f (aq g aD) env=.ok z:=KA hx hf
theorem two {f:R→R→M R}{h:G R}{x y z:R}(hx:g env=.ok x) (hy:h env=.ok y) (hf:f x y=.ok z):g2 f g h env=.ok z:=by
 show (g env >>= _)=_
 rw [hx,aT,hy,aT,hf]
theorem c1 {F:List S→M R}{x z:R}(hx:g env=.ok x) (hF:F [fh x]=.ok z):gN (aS 1 F) (aq g aD) env=.ok (nZ z):=by
 show (aq g aD env >>= _)=_
 unfold aq aD
 rw [hx]
 show (match F [fh x] with | .ok r=>M.ok (nZ r) | _=>M.bad)=_
 rw [hF]
theorem c2 {F:List S→M R}{h:G R}{x y z:R}(hx:g env=.ok x) (hy:h env=.ok y) (hF:F [fh x,fh y]=.ok z):gN (aS 2 F) (aq g (aq h aD)) env=.ok (nZ z):=by
 show (aq g (aq h aD) env >>= _)=_
 unfold aq aD
 rw [hx,hy]
 show (match F [fh x,fh y] with | .ok r=>M.ok (nZ r) | _=>M.bad)=_
 rw [hF]
theorem c3 {F:List S→M R}{h k:G R}{x y w z:R}(hx:g env=.ok x) (hy:h env=.ok y) (hw:k env=.ok w) (hF:F [fh x,fh y,fh w]=.ok z):gN (aS 3 F) (aq g (aq h (aq k aD))) env=.ok (nZ z):=by
 show (aq g (aq h (aq k aD)) env >>= _)=_
 unfold aq aD
 rw [hx,hy,hw]
 show (match F [fh x,fh y,fh w] with | .ok r=>M.ok (nZ r) | _=>M.bad)=_
 rw [hF]
theorem c4 {F:List S→M R}{h k l:G R}{x y w v z:R}(hx:g env=.ok x) (hy:h env=.ok y) (hw:k env=.ok w) (hv:l env=.ok v) (hF:F [fh x,fh y,fh w,fh v]=.ok z):gN (aS 4 F) (aq g (aq h (aq k (aq l aD)))) env=.ok (nZ z):=by
 show (aq g (aq h (aq k (aq l aD))) env >>= _)=_
 unfold aq aD
 rw [hx,hy,hw,hv]
 show (match F [fh x,fh y,fh w,fh v] with | .ok r=>M.ok (nZ r) | _=>M.bad)=_
 rw [hF]
theorem lK (h:g env=.ok r) (k:Wp (u env) Q):Wp (aO (jQ g) u env) Q:=cI ⟨.nx env,by show (g env >>= _)=_;rw [h];rfl,k⟩
theorem jO {cap:List Nat}{gi:G (List D)}{ge:G R}{α:Type}{xs:List α}(a b:α→D) (f:α→D) (hi:gi env=.ok (xs.map fun x=>.tup [a x,b x])) (hl:xs.length≤1000)
  (h:∀x∈xs,∃r,ge (some (.d (a x))::some (.d (b x))::cE 0 cap env)=.ok r∧toD r=.ok (f x)):bH 2 cap gi (cY 2 (br (aC 0) (br (aC 1) dz))) cU ge env=.ok (.l .fresh (xs.map f)):=by
 have key:∀(es:List α) (x y:Option S),(∀d∈es,d∈xs)→cP (cY 2 (br (aC 0) (br (aC 1) dz))) cU ge (es.map fun x=>.tup [a x,b x]) (x::y::cE 0 cap env)=.ok (es.map f):=by
  intro es
  induction es with
  | nil=>exact fun _ _ _=>rfl
  | cons d es ih=>
   intro x y hm
   obtain ⟨r,h1,h2⟩:=h d (hm d List.mem_cons_self)
   rw [List.map_cons]
   unfold cP
   show (ge (some (.d (a d))::some (.d (b d))::cE 0 cap env) >>= _)=_
   rw [h1,aT,h2,aT]
   show (cP _ cU ge _ (some (.d (a d))::some (.d (b d))::cE 0 cap env) >>= _)=_
   rw [ih _ _ fun e he=>hm e (List.mem_cons_of_mem _ he)]
   rfl
 unfold bH
 rw [hi,aT,if_pos (e_ (by rw [List.length_map];exact hl))]
 show (cP _ cU ge _ (none::none::cE 0 cap env) >>= _)=_
 rw [key xs none none fun _ h=>h]
 rfl
theorem JS (n:Nat):fc 0 n=(List.range n).map dN:=by simp [fc]
theorem nj {gs:G (List R)}{n:Nat}(hg:gs env=.ok [.d (.int (n:Int))]) (h:n≤1000):cH gs env=.ok ((List.range n).map dN):=by rw [ni hg h,JS]
theorem rY {cap:List Nat}{gi:G (List D)}{ge:G R}{α:Type}{xs:List α}{h:α→D}(f:α→D) (hi:gi env=.ok (xs.map h)) (hl:xs.length≤1000)
  (hb:∀x∈xs,∃r,ge (some (.d (h x))::cE 0 cap env)=.ok r∧toD r=.ok (f x)):bH 1 cap gi (aC 0) cU ge env=.ok (.l .fresh (xs.map f)):=by
 have key:∀(es:List α) (x:Option S),(∀d∈es,d∈xs)→cP (aC 0) cU ge (es.map h) (x::cE 0 cap env)=.ok (es.map f):=by
  intro es
  induction es with
  | nil=>exact fun _ _=>rfl
  | cons d es ih=>
   intro x hm
   obtain ⟨r,h1,h2⟩:=hb d (hm d List.mem_cons_self)
   rw [List.map_cons]
   unfold cP
   show (ge (some (.d (h d))::cE 0 cap env) >>= _)=_
   rw [h1,aT,h2,aT]
   show (cP (aC 0) cU ge _ (some (.d (h d))::cE 0 cap env) >>= _)=_
   rw [ih _ fun e he=>hm e (List.mem_cons_of_mem _ he)]
   rfl
 unfold bH
 rw [hi,aT,if_pos (e_ (by rw [List.length_map];exact hl))]
 show (cP (aC 0) cU ge _ (none::cE 0 cap env) >>= _)=_
 rw [key xs none fun _ h=>h]
 rfl
theorem uP {cap:List Nat}{gi:G (List D)}{ge:G R}{gts:G Bool}{α:Type}{xs:List α}{h:α→D}(p:α→Bool) (f:α→D) (hi:gi env=.ok (xs.map h)) (hl:xs.length≤1000)
  (hb:∀x∈xs,gts (some (.d (h x))::cE 0 cap env)=.ok (p x)∧(p x=true→∃r,ge (some (.d (h x))::cE 0 cap env)=.ok r∧toD r=.ok (f x))):bH 1 cap gi (aC 0) gts ge env=.ok (.l .fresh ((xs.filter p).map f)):=by
 have key:∀(es:List α) (x:Option S),(∀d∈es,d∈xs)→cP (aC 0) gts ge (es.map h) (x::cE 0 cap env)=.ok ((es.filter p).map f):=by
  intro es
  induction es with
  | nil=>exact fun _ _=>rfl
  | cons d es ih=>
   intro x hm
   obtain ⟨h0,h1⟩:=hb d (hm d List.mem_cons_self)
   rw [List.map_cons]
   unfold cP
   show (gts (some (.d (h d))::cE 0 cap env) >>= _)=_
   rw [h0,aT]
   cases q:p d with
   | true=>
    obtain ⟨r,h1,h2⟩:=h1 q
    rw [if_pos rfl]
    show (ge (some (.d (h d))::cE 0 cap env) >>= _)=_
    rw [h1,aT,h2,aT]
    show (cP (aC 0) gts ge _ (some (.d (h d))::cE 0 cap env) >>= _)=_
    rw [ih _ fun e he=>hm e (List.mem_cons_of_mem _ he),List.filter_cons_of_pos q]
    rfl
   | false=>
    rw [if_neg (by decide),List.filter_cons_of_neg (by simp [q])]
    exact ih _ fun e he=>hm e (List.mem_cons_of_mem _ he)
 unfold bH
 rw [hi,aT,if_pos (e_ (by rw [List.length_map];exact hl))]
 show (cP (aC 0) gts ge _ (none::cE 0 cap env) >>= _)=_
 rw [key xs none fun _ h=>h]
 rfl
theorem iI {x:R}(h:g env=.ok x):aq g aD env=.ok [x]:=by
 show (g env >>= _)=_
 rw [h]
 rfl
theorem bz:aW env=.ok []:=rfl
theorem aL {gs:G (List D)}{d:D}{ds:List D}(h:g env=.ok r) (h2:toD r=.ok d) (k:gs env=.ok ds):aB g gs env=.ok (d::ds):=by
 show (g env >>= _)=_
 rw [h,aT,h2,aT,k]
 rfl
theorem bE {gs:G (List D)}{ds:List D}(h:gs env=.ok ds) (hl:ds.length≤1000):bI gs env=.ok (.d (.tup ds)):=by
 show (gs env >>= _)=_
 rw [h,aT,if_pos (e_ hl)]
theorem lR {gs:G (List D)}{ds:List D}(h:gs env=.ok ds) (hl:ds.length≤1000):fC gs env=.ok (.l .fresh ds):=by
 show (gs env >>= _)=_
 rw [h,aT,if_pos (e_ hl)]
theorem lP {α:Type}{xs:List α}{h:α→D}(f:R) (hf:iX f=.ok (xs.map h)) (i:Int) (h0:0≤i) (hi:i < xs.length):∃x∈xs,bf f (.d (.int i))=.ok (.d (h x)):=by
 obtain ⟨k,rfl⟩:=Int.eq_ofNat_of_zero_le h0
 have hk:k < xs.length:=by omega
 refine ⟨xs[k],List.getElem_mem hk,?_⟩
 have h1:(xs.map h)[k]?=some (h xs[k]):=by rw [List.getElem?_map,List.getElem?_eq_getElem hk];rfl
 cases f with
 | d x=>
  cases x with
  | tup ys=>cases hf;exact jZ h1
  | lst ys=>cases hf;unfold bf;simp only [iX,aT,jX h1]
  | _=>cases hf
 | l m x=>cases hf;exact uT h1
theorem u_ {xs:List D}(h:env[i]?=some (some (.own xs))) (k:Wp (t (env.set i (some (.d (.lst xs))))) Q):Wp (fU i t env) Q:=by
 have:fU i t env=t (env.set i (some (.d (.lst xs)))):=by unfold fU;rw [h]
 rw [this];exact k
theorem Ky {tg:GT}{d:D}{e:Ev}(h:g env=.ok r) (h2:toD r=.ok d) (h3:tg d env=.ok e) (k:Q (.nx e)):Wp (kj tg g env) Q:=⟨_,by show (g env >>= _)=_;rw [h,aT,h2,aT,h3];rfl,k⟩
theorem ri {tg:GT}{d:D}{e:Ev}(h:g env=.ok r) (h2:toD r=.ok d) (h3:tg d env=.ok e) (k:Wp (u e) Q):Wp (aO (kj tg g) u env) Q:=cI (Ky h h2 h3 k)
theorem CW {α:Type}(xs:List α) (z:α):L2.kN (xs++[z]) (-1)=some z:=by
 unfold L2.kN L2.wC
 rw [if_neg (by decide),if_pos (by simp;omega)]
 rw [show ((-1:Int) + ((xs++[z]).length:Nat)).toNat=xs.length by simp;omega]
 simp
theorem FA (xs:List D) (z:D):bf (.d (.tup (xs++[z]))) (.d (.int (-1)))=.ok (.d z):=by
 unfold bf
 simp only [iX,aT,CW]
theorem uU (neg:Bool) (x:D) (ys:List D) (h:deps ys≤60) (hx:dep x≤60):gH neg (.d x) (.d (.tup ys))=.ok (.d (.bl (if neg then !inD x ys else inD x ys))):=by
 show (if deps ys≤60∧dep x≤60 then M.ok (R.d (.bl (if neg then !inD x ys else inD x ys))) else M.bad)=_
 rw [if_pos ⟨h,hx⟩]
theorem uS (neg:Bool) (x y:R) (h:dep x.dat≤60) (hx:dep y.dat≤60):cM neg x y=.ok (.d (.bl (if neg then !bq x.dat y.dat else bq x.dat y.dat))):=by
 unfold cM
 rw [if_pos ⟨h,hx⟩]
theorem iG {n:Nat}:∀{xs:List D},(∀x∈xs,dep x≤n)→deps xs≤n
 | [],_=>Nat.zero_le _
 | x::xs,h=>by
  have h1:=h x List.mem_cons_self
  have h2:=iG (xs:=xs) fun y hy=>h y (List.mem_cons_of_mem _ hy)
  simp only [deps]
  omega
theorem Bs (xs:List Nat):deps (xs.map dN)≤60:=iG fun x hx=>by
 obtain ⟨k,_,rfl⟩:=List.mem_map.mp hx
 exact Nat.zero_le _
theorem Bt (xs:List (Nat×Nat)):deps (xs.map dP)≤60:=iG fun x hx=>by
 obtain ⟨k,_,rfl⟩:=List.mem_map.mp hx
 exact (by decide:(1:Nat)≤60)
end
end WP
namespace K51
open PySem DL K01 WP
def bJ (ns:List Int) (k:Nat):Int:=(ns.map fun x=>x % 10 ^ 64).getD k 0
theorem iw (ns:List Int) (k:Nat):0≤bJ ns k:=by
 unfold bJ
 rw [List.getD_eq_getElem?_getD,List.getElem?_map]
 cases ns[k]? with
 | none=>exact Int.le_refl _
 | some x=>exact Int.emod_nonneg _ (by decide)
theorem AZ (ns:List Int) (k:Nat):bW [.bor (ns.map D.int),.d (.int k)]=.ok (.d (.int (bJ ns k))):=by
 refine dR (cI (Dq (c:=decide ((k:Int) < ((ns.map D.int).length:Nat))) rfl (fun h=>?_) fun h=>?_))
 ·have h:k < ns.length:=by simpa using h
  have e:(ns.map D.int)[k]?=some (.int ns[k]):=by rw [List.getElem?_map,List.getElem?_eq_getElem h];rfl
  refine b8 (two (two rfl rfl (uT e)) rfl (fX _ _ (by decide))) rfl ?_
  unfold bJ
  rw [List.getD_eq_getElem?_getD,List.getElem?_map,List.getElem?_eq_getElem h]
  rfl
 ·have h:ns.length≤k:=by simpa using h
  refine om (b8 rfl rfl ?_)
  unfold bJ
  rw [List.getD_eq_getElem?_getD,List.getElem?_map,List.getElem?_eq_none (by omega)]
  rfl
theorem GY (b n:Nat):(iC ⟨#[b]⟩ n).length=n:=by
 rw [FJ,Fg,List.length_replicate]
theorem yy (c:Int) (hc:0≤c) (m:Nat) (hm:m≤3):∃ss:List Str,gj [.d (.int c),.d (.int m)]=.ok (.l .fresh (ss.map .str))∧ss.length=m:=by
 have key:Wp (gj [.d (.int c),.d (.int m)]) fun r=>∃ss:List Str,r=.l .fresh (ss.map .str)∧ss.length=m:=by
  refine nB (bD rfl rfl (bD (two rfl rfl (BL (c / 3 % 26) (by omega) (by omega))) rfl ?_))
  generalize 97 + (c / 3 % 26).toNat=b
  refine bD (two rfl rfl (EZ _ (1 + c / 78 % 7) (by omega) (by omega) (show 1≤1000 by decide))) rfl ?_
  have hst:(iC ⟨#[b]⟩ (1 + c / 78 % 7).toNat).length≤8:=by rw [GY];omega
  generalize iC ⟨#[b]⟩ (1 + c / 78 % 7).toNat=stem at hst
  refine bD rfl rfl (jt (ni (n:=m) rfl (by omega)) ?_)
  refine kX (n:=m) (fun k env=>∃(ss:List Str) (x y z:Option S),env=[some (.d (.int c)),some (.d (.int m)),some (.d (.str "abcdefghijklmnopqrstuvwxyz")),some (.d (.str ⟨#[b]⟩)),some (.d (.str stem)),some (.own (ss.map .str)),x,y,z]∧ss.length=k) ⟨[],none,none,none,rfl,rfl⟩ ?_ ?_
  ·rintro k hk _ ⟨ss,x,y,z,rfl,hl⟩
   refine ⟨_,rfl,?_⟩
   refine bD (two rfl rfl (BL ((c / 546 + 9 * k) % 26) (by omega) (by omega))) rfl ?_
   generalize 97 + ((c / 546 + 9 * k) % 26).toNat=o
   obtain ⟨nm,hnm⟩:∃nm:Str,g2 bf (fC (aB (g2 dH (af 4) (af 7)) (aB (g2 dH (af 7) (af 4)) (aB (g2 gf (af 3) (g2 dH (af 6) (gC (.int 2)))) aW)))) (g2 dF (af 0) (gC (.int 3))) [some (.d (.int c)),some (.d (.int m)),some (.d (.str "abcdefghijklmnopqrstuvwxyz")),some (.d (.str ⟨#[b]⟩)),some (.d (.str stem)),some (.own (ss.map .str)),some (.d (.int k)),some (.d (.str ⟨#[o]⟩)),z]=.ok (.d (.str nm)):=by
    have h1:=E1 stem ⟨#[o]⟩ (by show _ + 1≤1000;omega)
    have h2:=E1 ⟨#[o]⟩ stem (by show 1 + _≤1000;omega)
    have h3:=EZ ⟨#[b]⟩ (k + 2) (by omega) (by omega) (show 1≤1000 by decide)
    have hg:fC (aB (g2 dH (af 4) (af 7)) (aB (g2 dH (af 7) (af 4)) (aB (g2 gf (af 3) (g2 dH (af 6) (gC (.int 2)))) aW))) [some (.d (.int c)),some (.d (.int m)),some (.d (.str "abcdefghijklmnopqrstuvwxyz")),some (.d (.str ⟨#[b]⟩)),some (.d (.str stem)),some (.own (ss.map .str)),some (.d (.int k)),some (.d (.str ⟨#[o]⟩)),z]=.ok (.l .fresh [.str (stem++⟨#[o]⟩),.str (⟨#[o]⟩++stem),.str (iC ⟨#[b]⟩ ((k:Int) + 2).toNat)]):=by
     have l3:(3:Nat)≤sizeLine:=by decide
     simp only [fC,aB,aW,g2,af,gC,S.rd,List.getElem?_cons_zero,List.getElem?_cons_succ,aT,h1,h2,rE,h3,toD,List.length_cons,List.length_nil,l3,if_true]
    have hcs:c % 3=0∨c % 3=1∨c % 3=2:=by omega
    rcases hcs with h | h | h
    ·exact ⟨_,two hg (fX c 3 (by decide)) (by rw [h];rfl)⟩
    ·exact ⟨_,two hg (fX c 3 (by decide)) (by rw [h];rfl)⟩
    ·exact ⟨_,two hg (fX c 3 (by decide)) (by rw [h];rfl)⟩
   refine bD hnm rfl (cI (Dq (c:=bq (.str nm) (.str "or")) rfl (fun h=>fV rfl rfl ?_) fun h=>om ?_))
   ·exact oY rfl rfl rfl (by rw [List.length_map];omega) ⟨_,rfl,ss++[("orx":Str)],_,_,_,by rw [List.map_append];rfl,by rw [List.length_append,hl];rfl⟩
   ·exact oY rfl rfl rfl (by rw [List.length_map];omega) ⟨_,rfl,ss++[nm],_,_,_,by rw [List.map_append];rfl,by rw [List.length_append,hl];rfl⟩
  ·rintro _ ⟨ss,x,y,z,rfl,hl⟩
   refine b8 (n1 rfl (sorted_strs _ _ (by omega))) rfl ⟨_,rfl,_,rfl,?_⟩
   unfold pe
   simp [hl]
 obtain ⟨_,h,ss,rfl,hl⟩:=key
 exact ⟨ss,h,hl⟩
theorem AY (c:Int) (m:Nat) (hm:m≤64):∃bs:List Bool,gP [.d (.int c),.d (.int m)]=.ok (.l .fresh (bs.map .bl))∧bs.length=m:=by
 have key:Wp (gP [.d (.int c),.d (.int m)]) fun r=>∃bs:List Bool,r=.l .fresh (bs.map .bl)∧bs.length=m:=by
  refine nB (bD rfl rfl (jt (ni (n:=m) rfl (by omega)) ?_))
  refine kX (n:=m) (fun k env=>∃(bs:List Bool) (c:Int) (x:Option S),env=[some (.d (.int c)),some (.d (.int m)),some (.own (bs.map .bl)),x]∧bs.length=k) ⟨[],c,none,rfl,rfl⟩ ?_ ?_
  ·rintro k hk _ ⟨bs,c,x,rfl,hl⟩
   refine ⟨_,rfl,K_ rfl rfl rfl (by rw [List.length_map];omega) (fV rfl rfl ⟨_,rfl,bs++[c % 2 == 1],c / 2,_,by rw [List.map_append];rfl,by rw [List.length_append,hl];rfl⟩)⟩
  ·rintro _ ⟨ss,x,y,rfl,hl⟩
   exact b8 rfl rfl ⟨_,rfl,_,rfl,hl⟩
 obtain ⟨_,h,ss,rfl,hl⟩:=key
 exact ⟨ss,h,hl⟩
theorem JD (bs:List Bool) (m:Nat) (hm:m≤8):uO m ((List.range m).filter fun p=>bs.getD p false):=by
 refine ⟨?_,List.Pairwise.filter _ List.pairwise_lt_range,fun x hx=>?_⟩
 ·exact Nat.le_trans (List.length_filter_le _ _) (by simpa using hm)
 ·simpa using (List.mem_filter.mp hx).1
theorem Jw (bs:List Bool) (m:Nat) (h1:1≤m) (hm:m≤8):qk m (((List.range (m * m)).filter fun p=>bs.getD p false).map fun p=>(p / m,p % m)):=by
 have hmm:m * m≤64:=Nat.mul_le_mul hm hm
 refine ⟨?_,?_,fun x hx=>?_⟩
 ·rw [List.length_map]
  refine Nat.le_trans (List.length_filter_le _ _) (by simpa using hmm)
 ·rw [List.pairwise_map]
  refine List.Pairwise.imp ?_ (List.Pairwise.filter _ List.pairwise_lt_range)
  intro p q hpq
  have e1:=Nat.div_add_mod p m
  have e2:=Nat.div_add_mod q m
  have h3:p / m≤q / m:=Nat.div_le_div_right (by omega)
  by_cases h:p / m < q / m
  ·exact .inl h
  ·have e:p / m=q / m:=by omega
   refine .inr ⟨e,?_⟩
   rw [e] at e1
   show p % m < q % m
   omega
 ·obtain ⟨p,hp,rfl⟩:=List.mem_map.mp hx
  have:p < m * m:=by simpa using (List.mem_filter.mp hp).1
  exact ⟨Nat.div_lt_of_lt_mul this,Nat.mod_lt _ (by omega)⟩
theorem Mk (bs:List Bool) (m k:Nat) (hl:bs.length=m) (hk:k < m):bf (.l .bor (bs.map D.bl)) (.d (.int k))=.ok (.d (.bl (bs.getD k false))):=by
 refine uT ?_
 rw [List.getElem?_map,List.getElem?_eq_getElem (by omega),List.getD_eq_getElem?_getD,List.getElem?_eq_getElem (by omega)]
 rfl
theorem yM (bs:List Bool) (m k:Nat) (hl:bs.length=m) (hk:k < m):bf (.l .own (bs.map D.bl)) (.d (.int k))=.ok (.d (.bl (bs.getD k false))):=by
 refine uT ?_
 rw [List.getElem?_map,List.getElem?_eq_getElem (by omega),List.getD_eq_getElem?_getD,List.getElem?_eq_getElem (by omega)]
 rfl
theorem Hj (m:Nat) (h1:1≤m) (hm:m≤8) (A B:List Str) (hA:A.length≤3) (hB:B.length≤3) (cs:List Int) (hc:cs.length=6):
  ∃ms rs,eX [.d (.tup [.lst (A.map .str),.lst (B.map .str)]),.d (.int m),.bor (cs.map .int)]=.ok (.d (Wd.d ⟨m,ms,rs⟩))∧ms.map Prod.fst=A∧rs.map Prod.fst=B∧(∀r∈ms,uO m r.2)∧∀r∈rs,qk m r.2:=by
 have key:Wp (eX [.d (.tup [.lst (A.map .str),.lst (B.map .str)]),.d (.int m),.bor (cs.map .int)]) fun r=>∃ms rs,r=.d (Wd.d ⟨m,ms,rs⟩)∧ms.map Prod.fst=A∧rs.map Prod.fst=B∧(∀r∈ms,uO m r.2)∧∀r∈rs,qk m r.2:=by
  have hmm:m * m≤64:=Nat.mul_le_mul hm hm
  have tm:gf (.d (.int m)) (.d (.int m))=.ok (.d (.int ((m * m:Nat):Int))):=by rw [G7 _ _ (by omega) (by omega)];simp
  refine nB (bD rfl rfl (jt (ni (n:=(A.map D.str).length) rfl (by rw [List.length_map];omega)) ?_))
  refine kX (n:=(A.map D.str).length) (fun k env=>∃(ms:List (Str×List Nat)) (x y:Option S),env=[some (.d (.tup [.lst (A.map .str),.lst (B.map .str)])),some (.d (.int m)),some (.bor (cs.map .int)),some (.own (ms.map jJ)),x,y,none]∧ms.map Prod.fst=A.take k∧∀r∈ms,uO m r.2) ⟨[],none,none,rfl,rfl,fun _ h=>by cases h⟩ ?_ ?_
  ·rintro k hk _ ⟨ms,x,y,rfl,hf,hp⟩
   rw [List.length_map] at hk
   refine ⟨_,rfl,?_⟩
   obtain ⟨c,_,hcc⟩:=lP (xs:=cs) (h:=D.int) (.l .bor (cs.map .int)) rfl k (by omega) (by omega)
   obtain ⟨bs,hb,hbl⟩:=AY c m (by omega)
   have hlen:ms.length≤3:=by
    have:=congrArg List.length hf
    rw [List.length_map,List.length_take] at this
    omega
   refine bD (c2 (two rfl rfl hcc) rfl hb) rfl ?_
   refine oY rfl (bE (aL (two rfl rfl (show bf (.d (.lst (A.map D.str))) _=.ok (.d (.str A[k])) from ?_)) rfl (aL (n1 (uP (xs:=List.range m) (h:=dN) (fun p=>bs.getD p false) dN (nj rfl (by omega)) (by simp;omega) ?_) rfl) rfl bz)) (by show 2≤1000;decide)) rfl (by rw [List.length_map];omega) ?_
   ·show bf (.d (.lst (A.map D.str))) (.d (.int k))=_
    unfold bf
    have:(A.map D.str)[k]?=some (.str A[k]):=by rw [List.getElem?_map,List.getElem?_eq_getElem hk];rfl
    simp only [iX,aT,jX this]
   ·intro p hp'
    have hp':p < m:=by simpa using hp'
    have hb:=yM bs m p hbl hp'
    refine ⟨?_,fun _=>⟨_,rfl,rfl⟩⟩
    show (g2 bf (af 1) (af 0) [some (.d (dN p)),some (.own (bs.map D.bl))] >>= xT)=_
    rw [two (x:=.l .own (bs.map D.bl)) (y:=.d (dN p)) rfl rfl hb]
    rfl
   ·refine ⟨_,rfl,ms++[(A[k],(List.range m).filter fun p=>bs.getD p false)],_,_,by rw [List.map_append];rfl,?_,fun r hr=>?_⟩
    ·rw [List.map_append,hf,List.take_succ,List.getElem?_eq_getElem hk]
     rfl
    ·rw [List.mem_append,List.mem_singleton] at hr
     rcases hr with h | h
     ·exact hp r h
     ·rw [h];exact JD bs m hm
  ·rintro _ ⟨ms,x,y,rfl,hf,hp⟩
   refine bD rfl rfl (jt (ni (n:=(B.map D.str).length) rfl (by rw [List.length_map];omega)) ?_)
   refine kX (n:=(B.map D.str).length) (fun k env=>∃(rs:List (Str×List (Nat×Nat))) (x y:Option S),env=[some (.d (.tup [.lst (A.map .str),.lst (B.map .str)])),some (.d (.int m)),some (.bor (cs.map .int)),some (.own (ms.map jJ)),x,y,some (.own (rs.map nk))]∧rs.map Prod.fst=B.take k∧∀r∈rs,qk m r.2) ⟨[],_,_,rfl,rfl,fun _ h=>by cases h⟩ ?_ ?_
   ·rintro k hk _ ⟨rs,x,y,rfl,hf,hp⟩
    rw [List.length_map] at hk
    refine ⟨_,rfl,?_⟩
    obtain ⟨c,_,hcc⟩:=lP (xs:=cs) (h:=D.int) (.l .bor (cs.map .int)) rfl (3 + k) (by omega) (by omega)
    obtain ⟨bs,hb,hbl⟩:=AY c (m * m) (by omega)
    have hlen:rs.length≤3:=by
     have:=congrArg List.length hf
     rw [List.length_map,List.length_take] at this
     omega
    refine bD (c2 (two rfl rfl hcc) (two rfl rfl tm) hb) rfl ?_
    refine oY rfl (bE (aL (two rfl rfl (show bf (.d (.lst (B.map D.str))) _=.ok (.d (.str B[k])) from ?_)) rfl (aL (n1 (uP (xs:=List.range (m * m)) (h:=dN) (fun p=>bs.getD p false) (fun p=>dP (p / m,p % m)) (nj (iI (two rfl rfl tm)) (by omega)) (by simp;omega) ?_) rfl) rfl bz)) (by show 2≤1000;decide)) rfl (by rw [List.length_map];omega) ?_
    ·show bf (.d (.lst (B.map D.str))) (.d (.int k))=_
     unfold bf
     have:(B.map D.str)[k]?=some (.str B[k]):=by rw [List.getElem?_map,List.getElem?_eq_getElem hk];rfl
     simp only [iX,aT,jX this]
    ·intro p hp'
     have hp':p < m * m:=by simpa using hp'
     have hb:=yM bs (m * m) p hbl hp'
     refine ⟨?_,fun _=>⟨_,bE (aL (two rfl rfl (kU p m (by omega) (by omega))) rfl (aL (two rfl rfl (fX p m (by omega))) rfl bz)) (by show 2≤1000;decide),?_⟩⟩
     ·show (g2 bf (af 1) (af 0) [some (.d (dN p)),some (.own (bs.map D.bl)),some (.d (.int m))] >>= xT)=_
      rw [two (x:=.l .own (bs.map D.bl)) (y:=.d (dN p)) rfl rfl hb]
      rfl
     ·simp [toD,dP]
    ·refine ⟨_,rfl,rs++[(B[k],((List.range (m * m)).filter fun p=>bs.getD p false).map fun p=>(p / m,p % m))],_,_,by rw [List.map_append,List.map_singleton,nk,List.map_map];rfl,?_,fun r hr=>?_⟩
     ·rw [List.map_append,hf,List.take_succ,List.getElem?_eq_getElem hk]
      rfl
     ·rw [List.mem_append,List.mem_singleton] at hr
      rcases hr with h | h
      ·exact hp r h
      ·rw [h];exact Jw bs m h1 hm
   ·rintro _ ⟨rs,x,y,rfl,hf2,hp2⟩
    rw [List.length_map] at hf hf2
    refine b8 (bE (aL rfl rfl (aL rfl rfl (aL rfl rfl bz))) (by show 3≤1000;decide)) rfl ⟨_,rfl,ms,rs,rfl,by rw [hf,List.take_length],by rw [hf2,List.take_length],hp,hp2⟩
 obtain ⟨_,h,ms,rs,rfl,hk⟩:=key
 exact ⟨ms,rs,h,hk⟩
theorem fu (ns:List Int) (i:Int) (k:Nat) (h:i=k):bW [.bor (ns.map D.int),.d (.int i)]=.ok (.d (.int (bJ ns k))):=by
 rw [h];exact AZ ns k
structure lI (w:Wd):Prop where
 lo:1≤w.m
 hi:w.m≤8
 ml:w.ms.length≤3
 al:w.ar.length≤3
theorem rD (xs ys:List D) (h:xs.length + ys.length≤1000):dh (.d (.tup xs)) (.d (.tup ys))=.ok (.d (.tup (xs++ys))):=by
 show (if xs.length + ys.length≤sizeLine then M.ok (R.d (.tup (xs++ys))) else M.bad)=_
 rw [if_pos (e_ h)]
theorem LK (l:Nat) (xs:List Nat):gH false (.d (dN l)) (.d (.tup (xs.map dN)))=.ok (.d (.bl (inD (dN l) (xs.map dN)))):=uU false _ _ (Bs xs) (Nat.zero_le _)
theorem HV (l:Nat×Nat) (xs:List (Nat×Nat)):gH false (.d (dP l)) (.d (.tup (xs.map dP)))=.ok (.d (.bl (inD (dP l) (xs.map dP)))):=uU false _ _ (Bt xs) (by show (1:Nat)≤60;decide)
theorem t2:(2:Nat)≤1000:=by decide
end K51
namespace K51
open PySem DL K01 WP
open PySem.W (kas_sort)
theorem oK (ds:List D):(bg ds).length=ds.length:=by
 unfold bg
 by_cases h:ds.length < 2
 ·rw [if_pos h]
 ·rw [if_neg h,List.length_map]
  have:=(d_ (n:=ds.length) (by omega)).run (ltB ds)
  have:=this.size_eq
  simpa using this
theorem kT {ds:List D}{x:D}(hx:x∈bg ds):x∈ds:=by
 unfold bg at hx
 by_cases h:ds.length < 2
 ·rwa [if_pos h] at hx
 ·rw [if_neg h] at hx
  have hp:=(d_ (n:=ds.length) (by omega)).run (ltB ds)
  obtain ⟨i,hi,rfl⟩:=List.mem_map.mp hx
  have hi:i∈aV (ltB ds) (kas_sort ds.length):=by simpa using hi
  have:=(Array.Perm.mem_iff hp).mp hi
  exact dZ (by simpa using this)
end K51
namespace K51
open PySem DL K01 WP
end K51
namespace DL
open PySem PySem.Spec PyProof.Rows L2
open PySem.W (KasT kas_sort kas_asc kas_desc kas_rev kas_tail3 kas_descPart kas_count kas_place kas_bin)
theorem run_bind {α β:Type}(q:Nat→Nat→Bool) (f:α→KasT β):∀t:KasT α,aV q (t.bind f)=aV q (f (aV q t))
 | .ret _=>rfl
 | .ask i j k=>run_bind q f (k (q i j))
theorem En {n:Nat}{α:Type}{P:α→Prop}{t:KasT α}{q q':Nat→Nat→Bool}(h:fq n P t) (e:∀i j,i < n→j < n→q i j=q' i j):aV q t=aV q' t:=by
 induction h with
 | ret _=>rfl
 | @ask i j k h1 h2 _ ih=>
  show aV q (k (q i j))=aV q' (k (q' i j))
  rw [e _ _ h1 h2]
  exact ih _
structure Ord (q:Nat→Nat→Bool):Prop where
 asy:∀a b,q a b=true→q b a=false
 tra:∀a b c,q b a=false→q c b=false→q c a=false
section
variable {q:Nat→Nat→Bool}{n:Nat}
abbrev bB (p:Array Nat) (k:Nat):Nat:=p.getD k 0
def Up (q:Nat→Nat→Bool) (p:Array Nat) (k:Nat):Prop:=∀i j,i≤j→j < k→q (bB p j) (bB p i)=false
def Down (q:Nat→Nat→Bool) (p:Array Nat) (k:Nat):Prop:=∀i j,i≤j→j < k→q (bB p i) (bB p j)=false
theorem Ord.irr (O:Ord q) (a:Nat):q a a=false:=by
 cases h:q a a with
 | false=>rfl
 | true=>rw [←h];exact (O.asy a a h)
theorem getD_eq {p p':Array Nat}{i j:Nat}(h:p[i]?=p'[j]?):bB p i=bB p' j:=by
 show p.getD i 0=p'.getD j 0
 rw [Array.getD_eq_getD_getElem?,Array.getD_eq_getD_getElem?,h]
theorem iY {p:Array Nat}{i j:Nat}(hj:j≤p.size) (k:Nat):bB (kas_rev p i j) k=if i≤k∧k < j then bB p (i + j - 1 - k) else bB p k:=by
 have e:=getElem?_mirror_all (xs:=p) (i:=i) hj k
 by_cases c:i≤k∧k < j
 ·rw [if_pos c] at e ⊢;exact getD_eq e
 ·rw [if_neg c] at e ⊢;exact getD_eq e
theorem A_ {p:Array Nat}{src d:Nat}(hs:src < p.size) (hd:d≤src) (k:Nat):bB (bubble p src d) k=if k=src - d then bB p src else if src - d < k∧k≤src then bB p (k - 1) else bB p k:=by
 have e:=getElem?_bubble hs d hd k
 by_cases c:k=src - d
 ·rw [if_pos c] at e ⊢;exact getD_eq e
 ·rw [if_neg c] at e ⊢
  by_cases c':src - d < k∧k≤src
  ·rw [if_pos c'] at e ⊢;exact getD_eq e
  ·rw [if_neg c'] at e ⊢;exact getD_eq e
theorem iD (p:Array Nat) (i j:Nat):(kas_rev p i j).size=p.size:=mirror_size _ _ _ _
theorem Up.one (O:Ord q) (p:Array Nat):Up q p 1:=fun i j h1 h2=>by
 have:i=j:=by omega
 rw [this];exact O.irr _
theorem Up.more (O:Ord q){p:Array Nat}{k:Nat}(h:Up q p k) (h1:1≤k) (e:q (bB p k) (bB p (k - 1))=false):Up q p (k + 1):=fun i j hi hj=>by
 by_cases c:j < k
 ·exact h i j hi c
 ·have:j=k:=by omega
  subst this
  by_cases c':i=j
  ·rw [c'];exact O.irr _
  ·exact O.tra _ _ _ (h i (j - 1) (by omega) (by omega)) e
theorem Down.more (O:Ord q){p:Array Nat}{k:Nat}(h:Down q p k) (h1:1≤k) (e:q (bB p (k - 1)) (bB p k)=false):Down q p (k + 1):=fun i j hi hj=>by
 by_cases c:j < k
 ·exact h i j hi c
 ·have:j=k:=by omega
  subst this
  by_cases c':i=j
  ·rw [c'];exact O.irr _
  ·exact O.tra _ _ _ e (h i (j - 1) (by omega) (by omega))
theorem vK (O:Ord q) (p:Array Nat):∀(f m:Nat),1≤m→Up q p m→m≤aV q (kas_asc p f m)∧aV q (kas_asc p f m)≤m + f∧Up q p (aV q (kas_asc p f m))∧(aV q (kas_asc p f m)=m + f∨q (bB p (aV q (kas_asc p f m))) (bB p (aV q (kas_asc p f m) - 1))=true)
 | 0,m,h1,h=>⟨Nat.le_refl _,Nat.le_refl _,h,.inl rfl⟩
 | f + 1,m,h1,h=>by
  have e:aV q (kas_asc p (f + 1) m)=if q (bB p m) (bB p (m - 1))=true then m else aV q (kas_asc p f (m + 1)):=by
   show aV q (if q (bB p m) (bB p (m - 1))=true then KasT.ret m else kas_asc p f (m + 1))=_
   by_cases c:q (bB p m) (bB p (m - 1))=true
   ·rw [if_pos c,if_pos c];rfl
   ·rw [if_neg c,if_neg c]
  rw [e]
  by_cases c:q (bB p m) (bB p (m - 1))=true
  ·rw [if_pos c]
   exact ⟨Nat.le_refl _,by omega,h,.inr c⟩
  ·rw [if_neg c]
   obtain ⟨a1,a2,a3,a4⟩:=vK O p f (m + 1) (by omega) (h.more O h1 (by simpa using c))
   refine ⟨by omega,by omega,a3,?_⟩
   rcases a4 with a4 | a4
   ·exact .inl (by omega)
   ·exact .inr a4
def Alike (q:Nat→Nat→Bool) (p:Array Nat) (i j:Nat):Prop:=∀a b,i≤a→a < j→i≤b→b < j→q (bB p a) (bB p b)=false
theorem t7 {p:Array Nat}{i j k:Nat}(hj:j≤p.size) (ha:Alike q p i j) (hd:Down q p j) (O:Ord q):Down q (kas_rev p i j) j:=fun a b h1 h2=>by
 rw [iY hj,iY hj]
 by_cases c:i≤a∧a < j
 ·rw [if_pos c]
  by_cases c':i≤b∧b < j
  ·rw [if_pos c'];exact ha _ _ (by omega) (by omega) (by omega) (by omega)
  ·omega
 ·rw [if_neg c]
  by_cases c':i≤b∧b < j
  ·rw [if_pos c']
   exact hd _ _ (by omega) (by omega)
  ·rw [if_neg c'];exact hd _ _ h1 h2
theorem JR {p:Array Nat}{j:Nat}(hj:j≤p.size) (hd:Down q p j):Up q (kas_rev p 0 j) j:=fun a b h1 h2=>by
 rw [iY hj,iY hj,if_pos (by omega),if_pos (by omega)]
 exact hd _ _ (by omega) (by omega)
theorem qZ {p:Array Nat}{i j k:Nat}(hj:j≤p.size) (h:j≤k):bB (kas_rev p i j) k=bB p k:=by
 rw [iY hj,if_neg (by omega)]
theorem kO (O:Ord q):∀(f:Nat) (p:Array Nat) (m e:Nat),1≤m→e + 1≤m→m + f≤p.size→Down q p m→Alike q p (m - (e + 1)) m→
  (aV q (kas_desc f p m e)).1.size=p.size∧m≤(aV q (kas_desc f p m e)).2.1∧(aV q (kas_desc f p m e)).2.1≤m + f∧(aV q (kas_desc f p m e)).2.2 + 1≤(aV q (kas_desc f p m e)).2.1∧
  Down q (aV q (kas_desc f p m e)).1 (aV q (kas_desc f p m e)).2.1∧Alike q (aV q (kas_desc f p m e)).1 ((aV q (kas_desc f p m e)).2.1 - ((aV q (kas_desc f p m e)).2.2 + 1)) (aV q (kas_desc f p m e)).2.1
 | 0,p,m,e,h1,h2,h3,h4,h5=>⟨rfl,Nat.le_refl _,Nat.le_refl _,h2,h4,h5⟩
 | f + 1,p,m,e,h1,h2,h3,h4,h5=>by
  have solo:∀(p:Array Nat) (m:Nat),Alike q p (m + 1 - (0 + 1)) (m + 1):=fun p m a b c1 c2 c3 c4=>by
   have:a=b:=by omega
   rw [this];exact O.irr _
  cases c:q (bB p m) (bB p (m - 1)) with
  | true=>
   have c2:=O.asy _ _ c
   by_cases he:e > 0
   ·have er:aV q (kas_desc (f + 1) p m e)=aV q (kas_desc f (kas_rev p (m - (e + 1)) m) (m + 1) 0):=by
     show aV q (if q (bB p m) (bB p (m - 1))=true then _ else _)=_
     rw [if_pos c,if_pos he]
    rw [er]
    have hr:=t7 (k:=0) (i:=m - (e + 1)) (by omega:m≤p.size) h5 h4 O
    have hl:bB (kas_rev p (m - (e + 1)) m) (m - 1)=bB p (m - (e + 1)):=by
     rw [iY (by omega),if_pos (by omega)]
     congr 1;omega
    obtain ⟨a0,a1,a2,a3,a4,a5⟩:=kO O f (kas_rev p (m - (e + 1)) m) (m + 1) 0 (by omega) (by omega) (by rw [iD];omega)
     (hr.more O h1 (by
      rw [hl,qZ (by omega) (Nat.le_refl _)]
      exact O.tra _ _ _ c2 (h5 _ _ (by omega) (by omega) (by omega) (by omega)))) (solo _ _)
    rw [iD] at a0
    exact ⟨a0,by omega,by omega,a3,a4,a5⟩
   ·have er:aV q (kas_desc (f + 1) p m e)=aV q (kas_desc f p (m + 1) 0):=by
     show aV q (if q (bB p m) (bB p (m - 1))=true then _ else _)=_
     rw [if_pos c,if_neg he]
    rw [er]
    obtain ⟨a0,a1,a2,a3,a4,a5⟩:=kO O f p (m + 1) 0 (by omega) (by omega) (by omega) (h4.more O h1 c2) (solo _ _)
    exact ⟨a0,by omega,by omega,a3,a4,a5⟩
  | false=>
   cases c2:q (bB p (m - 1)) (bB p m) with
   | true=>
    have er:aV q (kas_desc (f + 1) p m e)=(p,m,e):=by
     show aV q (if q (bB p m) (bB p (m - 1))=true then _ else _)=_
     rw [if_neg (by rw [c];decide)]
     show aV q (if q (bB p (m - 1)) (bB p m)=true then _ else _)=_
     rw [if_pos c2]
     rfl
    rw [er]
    exact ⟨rfl,Nat.le_refl _,Nat.le_add_right _ _,h2,h4,h5⟩
   | false=>
    have er:aV q (kas_desc (f + 1) p m e)=aV q (kas_desc f p (m + 1) (e + 1)):=by
     show aV q (if q (bB p m) (bB p (m - 1))=true then _ else _)=_
     rw [if_neg (by rw [c];decide)]
     show aV q (if q (bB p (m - 1)) (bB p m)=true then _ else _)=_
     rw [if_neg (by rw [c2];decide)]
    rw [er]
    have hal:Alike q p (m + 1 - (e + 1 + 1)) (m + 1):=fun a b d1 d2 d3 d4=>by
     by_cases ea:a=m
     ·subst ea
      by_cases eb:b=a
      ·rw [eb];exact O.irr _
      ·exact O.tra _ _ _ (h5 (a - 1) b (by omega) (by omega) (by omega) (by omega)) c
     ·by_cases eb:b=m
      ·subst eb
       exact O.tra _ _ _ c2 (h5 a (b - 1) (by omega) (by omega) (by omega) (by omega))
      ·exact h5 a b (by omega) (by omega) (by omega) (by omega)
    obtain ⟨a0,a1,a2,a3,a4,a5⟩:=kO O f p (m + 1) (e + 1) (by omega) (by omega) (by omega) (h4.more O h1 c2) hal
    exact ⟨a0,by omega,by omega,a3,a4,a5⟩
def Got (q:Nat→Nat→Bool) (N s:Nat) (r:Nat×Array Nat):Prop:=r.2.size=s∧1≤r.1∧r.1≤N∧Up q r.2 r.1
theorem zo (O:Ord q){p:Array Nat}{m N:Nat}(h1:1≤m) (hm:m≤N) (hN:N≤p.size) (hd:Down q p m):Got q N p.size (aV q (kas_tail3 m N p)):=by
 unfold kas_tail3
 rw [run_bind]
 obtain ⟨a1,a2,a3,_⟩:=vK O (kas_rev p 0 m) (N - m) m h1 (JR (by omega) hd)
 exact ⟨iD _ _ _,by show 1≤aV q (kas_asc _ _ _);omega,by show aV q (kas_asc _ _ _)≤N;omega,a3⟩
theorem zg (O:Ord q){p:Array Nat}{m N:Nat}(h1:1≤m) (hm:m + 1≤N) (hN:N≤p.size) (hd:Down q p (m + 1)):Got q N p.size (aV q (kas_descPart m N p)):=by
 unfold kas_descPart
 rw [run_bind]
 obtain ⟨a0,a1,a2,a3,a4,a5⟩:=kO O (N - (m + 1)) p (m + 1) 0 (by omega) (by omega) (by omega) hd (fun a b c1 c2 c3 c4=>by
  have:a=b:=by omega
  rw [this];exact O.irr _)
 generalize aV q (kas_desc (N - (m + 1)) p (m + 1) 0)=r at *
 obtain ⟨p',m',e'⟩:=r
 simp only at *
 by_cases c:e' > 0
 ·rw [if_pos c]
  have:=zo (N:=N) O (p:=kas_rev p' (m' - (e' + 1)) m') (m:=m') (by omega) (by omega) (by rw [iD];omega) (t7 (k:=0) (by omega) a5 a4 O)
  rw [iD,a0] at this
  exact this
 ·rw [if_neg c]
  have:=zo (N:=N) O (p:=p') (m:=m') (by omega) (by omega) (by omega) a4
  rw [a0] at this
  exact this
theorem C3 (O:Ord q){p:Array Nat}{N:Nat}(h1:1≤N) (hN:N≤p.size):Got q N p.size (aV q (kas_count N p)):=by
 unfold kas_count
 rw [run_bind]
 obtain ⟨a1,a2,a3,a4⟩:=vK O p (N - 1) 1 (Nat.le_refl _) (Up.one O p)
 generalize aV q (kas_asc p (N - 1) 1)=m at *
 by_cases c:(m == N)=true
 ·rw [if_pos c]
  exact ⟨rfl,a1,by show m≤N;omega,a3⟩
 ·rw [if_neg c]
  have hm:m + 1≤N:=by
   have:m≠N:=by simpa using c
   omega
  have a4:q (bB p m) (bB p (m - 1))=true:=by
   rcases a4 with h | h
   ·omega
   ·exact h
  have a5:=O.asy _ _ a4
  by_cases c':m > 1
  ·rw [if_pos c']
   show Got q N p.size (aV q (if q (bB p 0) (bB p (m - 1))=true then _ else _))
   by_cases d:q (bB p 0) (bB p (m - 1))=true
   ·rw [if_pos d]
    exact ⟨rfl,a1,by show m≤N;omega,a3⟩
   ·rw [if_neg d]
    have d:q (bB p 0) (bB p (m - 1))=false:=by simpa using d
    have all:∀a b,a < m→b < m→q (bB p a) (bB p b)=false:=fun a b ha hb=>O.tra _ _ _ (O.tra _ _ _ (a3 b (m - 1) (by omega) (by omega)) d) (a3 0 a (by omega) (by omega))
    have hd:Down q (kas_rev p 0 m) m:=fun a b h1 h2=>by
     rw [iY (by omega),iY (by omega),if_pos (by omega),if_pos (by omega)]
     exact all _ _ (by omega) (by omega)
    have:=zg O (p:=kas_rev p 0 m) (m:=m) (N:=N) (by omega) hm (by rw [iD];exact hN) (hd.more O (by omega) (by
     rw [qZ (by omega) (Nat.le_refl _),iY (by omega),if_pos (by omega),show 0 + m - 1 - (m - 1)=0 by omega]
     exact O.tra _ _ _ a5 d))
    rw [iD] at this
    exact this
  ·rw [if_neg c']
   have:m=1:=by omega
   subst this
   refine zg O (Nat.le_refl _) hm hN ?_
   exact Down.more O (fun i j h1 h2=>by
    have:i=j:=by omega
    rw [this];exact O.irr _) (Nat.le_refl _) a5
theorem p_ (O:Ord q){p:Array Nat}{k:Nat}(hs:Up q p k):∀(f l r:Nat),l≤r→r≤k→r - l≤f→(∀i,i < l→q (bB p k) (bB p i)=false)→(∀i,r≤i→i < k→q (bB p k) (bB p i)=true)→
  aV q (kas_place p k f l r)≤k∧(∀i,i < aV q (kas_place p k f l r)→q (bB p k) (bB p i)=false)∧∀i,aV q (kas_place p k f l r)≤i→i < k→q (bB p k) (bB p i)=true
 | 0,l,r,h1,h2,h3,h4,h5=>⟨by show l≤k;omega,h4,fun i hi=>h5 i (by show r≤i;have:l≤i:=hi;omega)⟩
 | f + 1,l,r,h1,h2,h3,h4,h5=>by
  by_cases c:l ≥ r
  ·have e:aV q (kas_place p k (f + 1) l r)=l:=by
    unfold kas_place
    rw [if_pos c]
    rfl
   rw [e]
   exact ⟨by omega,h4,fun i hi=>h5 i (by omega)⟩
  ·cases d:q (bB p k) (bB p ((l + r) / 2)) with
   | true=>
    have e:aV q (kas_place p k (f + 1) l r)=aV q (kas_place p k f l ((l + r) / 2)):=by
     rw [kas_place,if_neg c]
     show aV q (if q (bB p k) (bB p ((l + r) / 2))=true then _ else _)=_
     rw [if_pos d]
    rw [e]
    refine p_ O hs f l ((l + r) / 2) (by omega) (by omega) (by omega) h4 fun i i1 i2=>?_
    by_cases ci:r≤i
    ·exact h5 i ci i2
    ·cases dd:q (bB p k) (bB p i) with
     | true=>rfl
     | false=>
      have:=O.tra _ _ _ (hs ((l + r) / 2) i i1 i2) dd
      rw [d] at this
      cases this
   | false=>
    have e:aV q (kas_place p k (f + 1) l r)=aV q (kas_place p k f ((l + r) / 2 + 1) r):=by
     rw [kas_place,if_neg c]
     show aV q (if q (bB p k) (bB p ((l + r) / 2))=true then _ else _)=_
     rw [if_neg (by rw [d];decide)]
    rw [e]
    refine p_ O hs f ((l + r) / 2 + 1) r (by omega) (by omega) (by omega) (fun i hi=>?_) h5
    exact O.tra _ _ _ (hs i ((l + r) / 2) (by omega) (by omega)) d
theorem HA (O:Ord q){p:Array Nat}{k l:Nat}(hk:k < p.size) (hl:l≤k) (hs:Up q p k) (h1:∀i,i < l→q (bB p k) (bB p i)=false) (h2:∀i,l≤i→i < k→q (bB p k) (bB p i)=true):Up q (bubble p k (k - l)) (k + 1):=fun i j hi hj=>by
 rw [A_ hk (by omega),A_ hk (by omega),show k - (k - l)=l by omega]
 by_cases a:i=l
 ·rw [if_pos a]
  by_cases b:j=l
  ·rw [if_pos b];exact O.irr _
  ·rw [if_neg b,if_pos (by omega)]
   exact O.asy _ _ (h2 (j - 1) (by omega) (by omega))
 ·rw [if_neg a]
  by_cases b:j=l
  ·rw [if_pos b,if_neg (by omega)]
   exact h1 i (by omega)
  ·rw [if_neg b]
   by_cases a':l < i∧i≤k
   ·rw [if_pos a',if_pos (by omega)]
    exact hs _ _ (by omega) (by omega)
   ·rw [if_neg a']
    by_cases b':l < j∧j≤k
    ·rw [if_pos b']
     exact hs _ _ (by omega) (by omega)
    ·rw [if_neg b']
     exact hs _ _ hi (by omega)
theorem Bb (O:Ord q):∀(f:Nat) (p:Array Nat) (k:Nat),k + f≤p.size→Up q p k→Up q (aV q (kas_bin f p k)) (k + f)
 | 0,p,k,_,h=>h
 | f + 1,p,k,hs,h=>by
  have e:aV q (kas_bin (f + 1) p k)=aV q (kas_bin f (bubble p k (k - aV q (kas_place p k k 0 k))) (k + 1)):=by
   rw [kas_bin,run_bind]
  rw [e]
  obtain ⟨a1,a2,a3⟩:=p_ O h k 0 k (Nat.zero_le _) (Nat.le_refl _) (by omega) (fun i hi=>by omega) (fun i h1 h2=>by omega)
  have:=Bb O f (bubble p k (k - aV q (kas_place p k k 0 k))) (k + 1) (by rw [bubble_size];omega) (HA O (by omega) a1 h a2 a3)
  rw [show k + (f + 1)=k + 1 + f by omega]
  exact this
theorem G3 (O:Ord q) (n:Nat) (hn:1≤n):Up q (aV q (kas_sort n)) n:=by
 unfold kas_sort
 rw [run_bind]
 obtain ⟨a0,a1,a2,a3⟩:=C3 O (p:=(List.range n).toArray) (N:=n) hn (by simp)
 generalize aV q (kas_count n (List.range n).toArray)=r at *
 have a0:r.2.size=n:=by simpa using a0
 by_cases c:r.1 < n
 ·rw [if_pos c]
  have:=Bb O (n - max r.1 1) r.2 (max r.1 1) (by omega) (by rw [show max r.1 1=r.1 by omega];exact a3)
  rwa [show max r.1 1 + (n - max r.1 1)=n by omega] at this
 ·rw [if_neg c]
  have:r.1=n:=by omega
  rw [this] at a3
  exact a3
end
end DL
namespace DL
open PySem PySem.Spec PyProof.Rows L2
open PySem.W (kas_sort)
def dY (x y:D):Bool:=(dI x y).getD false
structure fR (P:D→Prop):Prop where
 eq:∀x y,P x→P y→(bq x y=true↔x=y)
 lt:∀x y,P x→P y→(dI x y).isSome=true
 asy:∀x y,P x→P y→dY x y=true→dY y x=false
 tri:∀x y,P x→P y→dY x y=false→dY y x=false→x=y
 tra:∀x y z,P x→P y→P z→dY x y=true→dY y z=true→dY x z=true
def g_ (xs ys:List D):Bool:=dY (.tup xs) (.tup ys)
theorem jj (x y:D) (xs ys:List D):g_ (x::xs) (y::ys)=if bq x y=true then g_ xs ys else dY x y:=by
 show (if bq x y=true then jI xs ys else dI x y).getD false=_
 by_cases h:bq x y=true
 ·rw [if_pos h,if_pos h];rfl
 ·rw [if_neg h,if_neg h];rfl
variable {P R:D→Prop}
theorem jY (xs ys:List D):bq (.tup xs) (.tup ys)=cG xs ys:=by rw [bq]
theorem iH (x y:D) (xs ys:List D):cG (x::xs) (y::ys)=(bq x y && cG xs ys):=by rw [cG]
structure kg (Q:List D→Prop):Prop where
 eq:∀x y,Q x→Q y→(cG x y=true↔x=y)
 lt:∀x y,Q x→Q y→(jI x y).isSome=true
 asy:∀x y,Q x→Q y→g_ x y=true→g_ y x=false
 tri:∀x y,Q x→Q y→g_ x y=false→g_ y x=false→x=y
 tra:∀x y z,Q x→Q y→Q z→g_ x y=true→g_ y z=true→g_ x z=true
theorem kg.tot {Q:List D→Prop}(h:kg Q):fR fun d=>∃xs,d=.tup xs∧Q xs where
 eq:=by
  rintro _ _ ⟨x,rfl,hx⟩ ⟨y,rfl,hy⟩
  rw [jY,h.eq x y hx hy]
  exact ⟨fun e=>e▸rfl,fun e=>by cases e;rfl⟩
 lt:=by
  rintro _ _ ⟨x,rfl,hx⟩ ⟨y,rfl,hy⟩
  exact h.lt x y hx hy
 asy:=by
  rintro _ _ ⟨x,rfl,hx⟩ ⟨y,rfl,hy⟩
  exact h.asy x y hx hy
 tri:=by
  rintro _ _ ⟨x,rfl,hx⟩ ⟨y,rfl,hy⟩ h1 h2
  rw [h.tri x y hx hy h1 h2]
 tra:=by
  rintro _ _ _ ⟨x,rfl,hx⟩ ⟨y,rfl,hy⟩ ⟨z,rfl,hz⟩
  exact h.tra x y z hx hy hz
theorem za (p:fR P){x y z:D}{r s t:List D}(px:P x) (py:P y) (pz:P z) (h:g_ r s=true→g_ s t=true→g_ r t=true) (h1:g_ (x::r) (y::s)=true) (h2:g_ (y::s) (z::t)=true):g_ (x::r) (z::t)=true:=by
 rw [jj] at h1 h2 ⊢
 by_cases e:x=y
 ·subst e
  rw [if_pos ((p.eq x x px px).mpr rfl)] at h1
  by_cases f:x=z
  ·subst f
   rw [if_pos ((p.eq x x px px).mpr rfl)] at h2 ⊢
   exact h h1 h2
  ·rw [if_neg fun q=>f ((p.eq x z px pz).mp q)] at h2 ⊢
   exact h2
 ·rw [if_neg fun q=>e ((p.eq x y px py).mp q)] at h1
  by_cases f:y=z
  ·subst f
   rw [if_neg fun q=>e ((p.eq x y px py).mp q)]
   exact h1
  ·rw [if_neg fun q=>f ((p.eq y z py pz).mp q)] at h2
   have h3:=p.tra x y z px py pz h1 h2
   by_cases g:x=z
   ·subst g
    have:=p.asy x x px px h3
    rw [h3] at this
    cases this
   ·rw [if_neg fun q=>g ((p.eq x z px pz).mp q)]
    exact h3
theorem kg.cons {Q:List D→Prop}(p:fR P) (h:kg Q):kg fun xs=>∃x r,xs=x::r∧P x∧Q r where
 eq:=by
  rintro _ _ ⟨x,r,rfl,px,qr⟩ ⟨y,s,rfl,py,qs⟩
  rw [iH,Bool.and_eq_true,p.eq x y px py,h.eq r s qr qs]
  exact ⟨fun e=>by rw [e.1,e.2],fun e=>by cases e;exact ⟨rfl,rfl⟩⟩
 lt:=by
  rintro _ _ ⟨x,r,rfl,px,qr⟩ ⟨y,s,rfl,py,qs⟩
  show (if bq x y=true then jI r s else dI x y).isSome=true
  split
  ·exact h.lt r s qr qs
  ·exact p.lt x y px py
 asy:=by
  rintro _ _ ⟨x,r,rfl,px,qr⟩ ⟨y,s,rfl,py,qs⟩ hl
  rw [jj] at hl ⊢
  by_cases e:x=y
  ·subst e
   rw [if_pos ((p.eq x x px px).mpr rfl)] at hl ⊢
   exact h.asy r s qr qs hl
  ·rw [if_neg fun z=>e ((p.eq x y px py).mp z)] at hl
   rw [if_neg fun z=>e ((p.eq y x py px).mp z).symm]
   exact p.asy x y px py hl
 tri:=by
  rintro _ _ ⟨x,r,rfl,px,qr⟩ ⟨y,s,rfl,py,qs⟩ h1 h2
  rw [jj] at h1 h2
  by_cases e:x=y
  ·subst e
   rw [if_pos ((p.eq x x px px).mpr rfl)] at h1 h2
   rw [h.tri r s qr qs h1 h2]
  ·rw [if_neg fun z=>e ((p.eq x y px py).mp z)] at h1
   rw [if_neg fun z=>e ((p.eq y x py px).mp z).symm] at h2
   exact absurd (p.tri x y px py h1 h2) e
 tra:=by
  rintro _ _ _ ⟨x,r,rfl,px,qr⟩ ⟨y,s,rfl,py,qs⟩ ⟨z,t,rfl,pz,qt⟩ h1 h2
  exact za p px py pz (h.tra r s t qr qs qt) h1 h2
theorem kg.nil:kg fun xs=>xs=[] where
 eq:=by rintro _ _ rfl rfl;simp [cG]
 lt:=by rintro _ _ rfl rfl;rfl
 asy:=by rintro _ _ rfl rfl h;cases h
 tri:=by rintro _ _ rfl rfl _ _;rfl
 tra:=by rintro _ _ _ rfl rfl rfl h;cases h
theorem fR.list (p:fR P):kg fun xs=>∀x∈xs,P x where
 eq:=by
  intro xs
  induction xs with
  | nil=>intro ys _ _;cases ys <;> simp [cG]
  | cons x xs ih=>
   intro ys hx hy
   cases ys with
   | nil=>simp [cG]
   | cons y ys=>
    rw [iH,Bool.and_eq_true,p.eq x y (hx x List.mem_cons_self) (hy y List.mem_cons_self),ih ys (fun z hz=>hx z (List.mem_cons_of_mem _ hz)) fun z hz=>hy z (List.mem_cons_of_mem _ hz)]
    exact ⟨fun e=>by rw [e.1,e.2],fun e=>by cases e;exact ⟨rfl,rfl⟩⟩
 lt:=by
  intro xs
  induction xs with
  | nil=>intro ys _ _;rfl
  | cons x xs ih=>
   intro ys hx hy
   cases ys with
   | nil=>rfl
   | cons y ys=>
    show (if bq x y=true then jI xs ys else dI x y).isSome=true
    split
    ·exact ih ys (fun z hz=>hx z (List.mem_cons_of_mem _ hz)) fun z hz=>hy z (List.mem_cons_of_mem _ hz)
    ·exact p.lt x y (hx x List.mem_cons_self) (hy y List.mem_cons_self)
 asy:=by
  intro xs
  induction xs with
  | nil=>
   intro ys _ _ h
   cases ys with
   | nil=>cases h
   | cons y ys=>rfl
  | cons x xs ih=>
   intro ys hx hy hl
   cases ys with
   | nil=>cases hl
   | cons y ys=>
    have px:=hx x List.mem_cons_self
    have py:=hy y List.mem_cons_self
    rw [jj] at hl ⊢
    by_cases e:x=y
    ·subst e
     rw [if_pos ((p.eq x x px px).mpr rfl)] at hl ⊢
     exact ih ys (fun z hz=>hx z (List.mem_cons_of_mem _ hz)) (fun z hz=>hy z (List.mem_cons_of_mem _ hz)) hl
    ·rw [if_neg fun z=>e ((p.eq x y px py).mp z)] at hl
     rw [if_neg fun z=>e ((p.eq y x py px).mp z).symm]
     exact p.asy x y px py hl
 tri:=by
  intro xs
  induction xs with
  | nil=>
   intro ys _ _ h1 h2
   cases ys with
   | nil=>rfl
   | cons y ys=>cases h1
  | cons x xs ih=>
   intro ys hx hy h1 h2
   cases ys with
   | nil=>cases h2
   | cons y ys=>
    have px:=hx x List.mem_cons_self
    have py:=hy y List.mem_cons_self
    rw [jj] at h1 h2
    by_cases e:x=y
    ·subst e
     rw [if_pos ((p.eq x x px px).mpr rfl)] at h1 h2
     rw [ih ys (fun z hz=>hx z (List.mem_cons_of_mem _ hz)) (fun z hz=>hy z (List.mem_cons_of_mem _ hz)) h1 h2]
    ·rw [if_neg fun z=>e ((p.eq x y px py).mp z)] at h1
     rw [if_neg fun z=>e ((p.eq y x py px).mp z).symm] at h2
     exact absurd (p.tri x y px py h1 h2) e
 tra:=by
  intro xs
  induction xs with
  | nil=>
   intro ys zs _ _ _ h1 h2
   cases ys with
   | nil=>cases h1
   | cons y ys=>
    cases zs with
    | nil=>cases h2
    | cons z zs=>rfl
  | cons x xs ih=>
   intro ys zs hx hy hz h1 h2
   cases ys with
   | nil=>cases h1
   | cons y ys=>
    cases zs with
    | nil=>cases h2
    | cons z zs=>
     have px:=hx x List.mem_cons_self
     have py:=hy y List.mem_cons_self
     have pz:=hz z List.mem_cons_self
     exact za p px py pz (ih ys zs (fun z hz=>hx z (List.mem_cons_of_mem _ hz)) (fun z hz=>hy z (List.mem_cons_of_mem _ hz)) fun w hw=>hz w (List.mem_cons_of_mem _ hw)) h1 h2
theorem Ll:fR fun d=>∃k,d=.bl k where
 eq:=by rintro _ _ ⟨x,rfl⟩ ⟨y,rfl⟩;simp [bq]
 lt:=by rintro _ _ ⟨x,rfl⟩ ⟨y,rfl⟩;rfl
 asy:=by rintro _ _ ⟨x,rfl⟩ ⟨y,rfl⟩;revert x y;decide
 tri:=by
  rintro _ _ ⟨x,rfl⟩ ⟨y,rfl⟩ h1 h2
  revert h1 h2
  cases x <;> cases y <;> intro h1 h2
  ·rfl
  ·exact absurd h1 (by decide)
  ·exact absurd h2 (by decide)
  ·rfl
 tra:=by rintro _ _ _ ⟨x,rfl⟩ ⟨y,rfl⟩ ⟨z,rfl⟩;revert x y z;decide
theorem lS (x y:Int):dY (.int x) (.int y)=decide (x < y):=rfl
theorem Lm:fR fun d=>∃k,d=.int k where
 eq:=by rintro _ _ ⟨x,rfl⟩ ⟨y,rfl⟩;simp [bq]
 lt:=by rintro _ _ ⟨x,rfl⟩ ⟨y,rfl⟩;rfl
 asy:=by
  rintro _ _ ⟨x,rfl⟩ ⟨y,rfl⟩ h
  rw [lS,decide_eq_true_eq] at h
  rw [lS,decide_eq_false_iff_not]
  omega
 tri:=by
  rintro _ _ ⟨x,rfl⟩ ⟨y,rfl⟩ h1 h2
  rw [lS,decide_eq_false_iff_not] at h1 h2
  rw [show x=y by omega]
 tra:=by
  rintro _ _ _ ⟨x,rfl⟩ ⟨y,rfl⟩ ⟨z,rfl⟩ h1 h2
  rw [lS,decide_eq_true_eq] at h1 h2 ⊢
  omega
theorem oZ (x y:Str):dY (.str x) (.str y)=decide (x.cps.toList < y.cps.toList):=rfl
theorem G5 {x y:Str}(h:x.cps.toList=y.cps.toList):x=y:=by
 obtain ⟨⟨cx⟩⟩:=x
 obtain ⟨⟨cy⟩⟩:=y
 simp only at h
 rw [h]
theorem Ln:fR fun d=>∃k,d=.str k where
 eq:=by rintro _ _ ⟨x,rfl⟩ ⟨y,rfl⟩;simp [bq]
 lt:=by rintro _ _ ⟨x,rfl⟩ ⟨y,rfl⟩;rfl
 asy:=by
  rintro _ _ ⟨x,rfl⟩ ⟨y,rfl⟩ h
  rw [oZ,decide_eq_true_eq] at h
  rw [oZ,decide_eq_false_iff_not]
  exact List.lt_asymm h
 tri:=by
  rintro _ _ ⟨x,rfl⟩ ⟨y,rfl⟩ h1 h2
  rw [oZ,decide_eq_false_iff_not] at h1 h2
  rw [G5 (List.le_antisymm h2 h1)]
 tra:=by
  rintro _ _ _ ⟨x,rfl⟩ ⟨y,rfl⟩ ⟨z,rfl⟩ h1 h2
  rw [oZ,decide_eq_true_eq] at h1 h2 ⊢
  exact List.lt_trans h1 h2
inductive Fm where
 | b | i | s | hom (t:Fm) | tn | tc (x r:Fm)
def ir:Fm→D→Prop
 | .b,d=>∃k,d=.bl k
 | .i,d=>∃k,d=.int k
 | .s,d=>∃k,d=.str k
 | .hom t,d=>∃xs,d=.tup xs∧∀x∈xs,ir t x
 | .tn,d=>∃xs,d=.tup xs∧xs=[]
 | .tc x r,d=>∃xs,d=.tup xs∧∃y ys,xs=y::ys∧ir x y∧ir r (.tup ys)
theorem fR.tail {Q:List D→Prop}(h:fR R) (k:∀xs,Q xs→R (.tup xs)):kg Q where
 eq:=fun x y hx hy=>by
  have:=h.eq _ _ (k x hx) (k y hy)
  rw [jY] at this
  rw [this]
  exact ⟨fun e=>by cases e;rfl,fun e=>e▸rfl⟩
 lt:=fun x y hx hy=>h.lt _ _ (k x hx) (k y hy)
 asy:=fun x y hx hy=>h.asy _ _ (k x hx) (k y hy)
 tri:=fun x y hx hy h1 h2=>by
  have:=h.tri _ _ (k x hx) (k y hy) h1 h2
  cases this;rfl
 tra:=fun x y z hx hy hz=>h.tra _ _ _ (k x hx) (k y hy) (k z hz)
theorem fY:∀t:Fm,fR (ir t)
 | .b=>Ll
 | .i=>Lm
 | .s=>Ln
 | .hom t=>(fY t).list.tot
 | .tn=>kg.nil.tot
 | .tc x r=>(kg.cons (fY x) (fR.tail (Q:=fun ys=>ir r (.tup ys)) (fY r) fun _ h=>h)).tot
def pY:Fm→Nat
 | .hom t=>pY t + 1
 | .tc x r=>max (pY x + 1) (pY r)
 | .tn=>1
 | _=>0
theorem vZ {n:Nat}:∀{xs:List D},(∀x∈xs,dep x≤n)→deps xs≤n
 | [],_=>Nat.zero_le _
 | x::xs,h=>by
  have h1:=h x List.mem_cons_self
  have h2:=vZ (xs:=xs) fun y hy=>h y (List.mem_cons_of_mem _ hy)
  simp only [deps]
  omega
theorem uR:∀{t:Fm}{d:D},ir t d→dep d≤pY t
 | .b,_,⟨_,e⟩=>by subst e;exact Nat.zero_le _
 | .i,_,⟨_,e⟩=>by subst e;exact Nat.zero_le _
 | .s,_,⟨_,e⟩=>by subst e;exact Nat.zero_le _
 | .hom t,_,⟨xs,e,h⟩=>by
  subst e
  have:=vZ fun x hx=>uR (h x hx)
  simp only [dep,pY]
  omega
 | .tn,_,⟨xs,e,h⟩=>by subst e h;exact Nat.le_refl 1
 | .tc x r,_,⟨xs,e,y,ys,e',h1,h2⟩=>by
  subst e e'
  have h1:=uR h1
  have h2:=uR h2
  simp only [dep,deps,pY] at *
  omega
theorem Lc (ds:List D):(bg ds).length=ds.length:=by
 unfold bg
 by_cases h:ds.length < 2
 ·rw [if_pos h]
 ·rw [if_neg h,List.length_map]
  have:=((d_ (n:=ds.length) (by omega)).run (ltB ds)).size_eq
  simpa using this
theorem FQ (ds:List D):(List.range ds.length).map (cK ds)=ds:=by
 refine List.ext_getElem (by simp) fun i h1 h2=>?_
 rw [List.getElem_map,List.getElem_range]
 unfold cK
 rw [List.getD_eq_getElem?_getD,List.getElem?_eq_getElem h2]
 rfl
theorem gW (ds:List D):(bg ds).Perm ds:=by
 unfold bg
 by_cases h:ds.length < 2
 ·rw [if_pos h]
 ·rw [if_neg h]
  have hp:=(d_ (n:=ds.length) (by omega)).run (ltB ds)
  have hq:(aV (ltB ds) (kas_sort ds.length)).toList.Perm (List.range ds.length):=by
   have:=Array.perm_iff_toList_perm.mp hp
   simpa using this
  have:=hq.map (cK ds)
  rwa [FQ] at this
theorem Er (p:fR P) (ds:List D) (h:∀x∈ds,P x):(bg ds).Pairwise fun x y=>dY y x=false:=by
 unfold bg
 by_cases h2:ds.length < 2
 ·rw [if_pos h2]
  match ds,h2 with
  | [],_=>exact .nil
  | [x],_=>exact List.pairwise_singleton _ _
 ·rw [if_neg h2]
  have hn:0 < ds.length:=by omega
  have hb:=d_ (n:=ds.length) hn
  have at_P:∀i,i < ds.length→P (cK ds i):=fun i hi=>h _ (dZ hi)
  let q':Nat→Nat→Bool:=fun i j=>if i < ds.length then (if j < ds.length then ltB ds i j else true) else false
  have hq:aV (ltB ds) (kas_sort ds.length)=aV q' (kas_sort ds.length):=En hb fun i j hi hj=>by simp [q',hi,hj]
  have O:Ord q':=by
   constructor
   ·intro a b hab
    by_cases ha:a < ds.length <;> by_cases hb:b < ds.length <;> simp [q',ha,hb] at hab ⊢
    exact p.asy _ _ (at_P a ha) (at_P b hb) hab
   ·intro a b c hab hbc
    by_cases ha:a < ds.length <;> by_cases hb:b < ds.length <;> by_cases hc:c < ds.length <;> simp [q',ha,hb,hc] at hab hbc ⊢
    have h1:dY (cK ds b) (cK ds a)=false:=hab
    have h2:dY (cK ds c) (cK ds b)=false:=hbc
    show dY (cK ds c) (cK ds a)=false
    cases g:dY (cK ds c) (cK ds a) with
    | false=>rfl
    | true=>
     have pa:=at_P a ha
     have pb:=at_P b hb
     have pc:=at_P c hc
     cases g2:dY (cK ds a) (cK ds b) with
     | true=>
      have:=p.tra _ _ _ pc pa pb g g2
      rw [this] at h2;cases h2
     | false=>
      rw [←p.tri _ _ pb pa h1 g2] at g
      rw [g] at h2;cases h2
  have up:=G3 O ds.length (by omega)
  have hs:=(hb.run (ltB ds))
  rw [hq] at hs ⊢
  have hsz:(aV q' (kas_sort ds.length)).size=ds.length:=by simpa using hs.size_eq
  generalize aV q' (kas_sort ds.length)=A at *
  rw [List.pairwise_map,List.pairwise_iff_getElem]
  intro i j hi hj hij
  rw [Array.length_toList] at hi hj
  have:=up i j (by omega) (by omega)
  have e:∀k (hk:k < A.size),bB A k=A.toList[k]'(by rw [Array.length_toList];exact hk):=fun k hk=>by
   show A.getD k 0=_
   simp [Array.getD,hk]
  rw [e i hi,e j hj] at this
  have l:∀k (hk:k < A.size),A.toList[k]'(by rw [Array.length_toList];exact hk) < ds.length:=fun k hk=>by
   rw [←e k hk];exact hs.lt hn k
  have li:=l i hi
  have lj:=l j hj
  simp only [q',li,lj,if_true] at this
  exact this
end DL
namespace K52
open PySem DL
end K52
namespace K52
open PySem DL K01 WP K51
variable {P:D→Prop}
end K52
namespace DL
open PySem PySem.Spec PyProof.Rows L2
section
variable {X:Cx}{c:C}{e a b:Expr}{es elts:List Expr}{pos tp:Pos}{kk:Nat}
def Hx:R→M (List D)
 | .d (.tup xs)=>.ok xs
 | .d (.lst xs)=>.ok xs
 | _=>.bad
def Mz (gs:G (List R)):G (List D):=fun env=>gs env >>= fun rs=>match rs with
 | [x,y]=>Hx x >>= fun xs=>Hx y >>= fun ys=>.ok (List.zipWith (fun a b=>.tup [a,b]) xs ys)
 | _=>.bad
theorem C0:bN X (.type "range") (fun xs H Q=>∃j:Int,xs=[.int j]∧∀p,H p=none→Q (.ref p) (upd H p (.rng 0 j))):=by
 intro pins s σ H xs us Q I r h
 obtain ⟨j,rfl,q⟩:=h
 obtain ⟨u,rfl,t,rfl⟩:=vals1 r
 refine call_range_1 ⟨.ref s.heap.objs.size,_,I.laid (fun b o e=>Heap.get?_push_of_some _ e) (Nat.le_refl _) (show cg X.prog X.w _ _ _ (.rng 0 j) from ⟨_,_,_,Heap.get?_push_size _ rfl⟩),rfl,q _ (I.hok.fresh (Nat.le_refl _))⟩
def kP (n:Nat):List V:=(List.range n).map fun (k:Nat)=>V.int k
theorem Ex {n:Nat}{acc:Array Value}(h:ItemsOf (fun i v=>∃t,v=.int (0 + (i:Int) * 1) t) acc n):Vals (kP n) acc.toList:=by
 have key:∀(us:List Value) (i:Nat),(∀j v,us[j]?=some v→∃t:Tok,v=Value.int ((i + j:Nat):Int) t)→Vals ((List.range' i us.length).map fun (k:Nat)=>V.int k) us:=by
  intro us
  induction us with
  | nil=>exact fun i _=>.nil
  | cons u us ih=>
   intro i hj
   obtain ⟨t,e⟩:=hj 0 u rfl
   rw [List.length_cons,List.range'_succ,List.map_cons]
   refine .cons ⟨t,by rw [e];rfl⟩ (ih (i + 1) fun j v hv=>?_)
   obtain ⟨t,e⟩:=hj (j + 1) v (by simpa using hv)
   exact ⟨t,by rw [e];congr 2;omega⟩
 have e:acc.toList.length=n:=by rw [Array.length_toList];exact h.1
 unfold kP
 rw [List.range_eq_range',←e]
 refine key acc.toList 0 fun j v hv=>?_
 obtain ⟨t,q⟩:=h.2 j v (by simpa using hv)
 exact ⟨t,by rw [q];congr 1;omega⟩
theorem uw (hc:X.calm=true):bN X (.type "list") (fun xs H Q=>∃(p:Addr) (j:Int),xs=[.ref p]∧H p=some (.rng 0 j)∧-(2 ^ 24)≤j∧j≤2 ^ 24∧∀l,H l=none→Q (.ref l) (upd H l (.lst (kP j.toNat)))):=by
 intro pins s σ H xs us Q I r h
 obtain ⟨p,j,rfl,hp,h0,h1,q⟩:=h
 obtain ⟨u,rfl,rx⟩:=vals1 r
 cases rx
 obtain ⟨t,u,v,ho⟩:=I.hok p _ hp
 have hn:Builtin.Range.rangeSize 0 j 1=(j.toNat:Int):=by rw [rangeSize_one];split <;> omega
 refine call_list_range (I.ok.hd hc) ho (small_one (by decide) (by decide) (by omega) (by omega)) hn (by omega) fun h' tk acc' c' kp e hi=>?_
 have hv:=Ex hi
 refine ⟨.ref s.heap.objs.size,_,I.laid kp (Nat.le_refl _) (show cg X.prog X.w _ h' _ (.lst (kP j.toNat)) from ⟨?_,acc'.toList,c',hv,e⟩),rfl,q _ (I.hok.fresh (Nat.le_refl _))⟩
 unfold kP
 rw [List.length_map,List.length_range]
 show j.toNat≤2 ^ 24
 omega
def Ab (gs:G (List R)):G R:=fun env=>gs env >>= fun rs=>match rs with
 | [.d (.int j)]=>if below 16777216 j then .ok (.l .fresh (fc 0 j.toNat)) else .bad
 | _=>.bad
theorem Em {K:PySem.W.Frag}{J:Hp}(n:Nat):aG K J (fc 0 n) (kP n):=by
 unfold fc kP
 generalize List.range n=ks
 induction ks with
 | nil=>exact .nil
 | cons k ks ih=>
  rw [List.map_cons,List.map_cons,Int.zero_add]
  exact .cons (.int _) ih
theorem B9 {p p2 pos2:Pos}{gs:G (List R)}(ha:iF X c [a] gs) (hm:X.mg "range"=none) (hm2:X.mg "list"=none) (hc:X.calm=true:=by rfl) (hK:X.K=c.K:=by rfl) (hg:Gl X "range":=by rfl) (hg2:Gl X "list":=by rfl)
  (hs:starEach [a] X.env=(false,eval a X.env)::starEach [] X.env:=by rfl) (hs0:(backTo pos (starEach [] X.env)).any (·.1)=false:=by rfl) (hs2:starEach [Expr.Call (.Name "range" p) [a] [] pos] X.env=(false,eval (Expr.Call (.Name "range" p) [a] [] pos) X.env)::starEach [] X.env:=by rfl) (hs3:(backTo pos2 (starEach [] X.env)).any (·.1)=false:=by rfl):
  PD X c (.Call (.Name "list" p2) [.Call (.Name "range" p) [a] [] pos] [] pos2) (Ab gs):=by
 have h1:=jA (p:=p) (pos:=pos) C0 hg hm boot_range ha (by decide) (by decide) hs hs0
 have h2:=jA (p:=p2) (pos:=pos2) (uw hc) hg2 hm2 zR (fD h1 ia hs2) (by decide) (by decide) hs2 hs3
 refine fk h2 fun σ H Q ⟨J,env,sr,w⟩=>?_
 refine ⟨J,env,sr,aE (aM w) fun rs wr vs J1 H1 e1 r1=>?_⟩
 split at wr
 ·rename_i j
  obtain ⟨v,rfl,r⟩:=r1.one
  cases r
  split at wr
  ·rename_i hb
   obtain ⟨b1,b2⟩:=dX.mp hb
   refine ⟨j,rfl,fun q hq=>?_⟩
   refine ⟨q,j,rfl,b9,by omega,by omega,fun l hl=>?_⟩
   have hp1:=sr.hp.ext e1
   have e2:=Ext.new hp1.sub hq (.rng 0 j)
   have hp2:=hp1.ext e2
   have hr:RR c H1 J1 (upd (upd H1 q (.rng 0 j)) l (.lst (kP j.toNat))) (.l .fresh (fc 0 j.toNat)) (.ref l):=by
    obtain ⟨a,us,x1,x2,x3,x4,x5⟩:=i9 (c:=c) hp2 hl (Em j.toNat)
    exact ⟨a,us,x1,x2,x3,e2.h.free x4,x5⟩
   exact wr _ _ _ ((e1.trans e2).trans (Ext.new hp2.sub hl _)) (by
    obtain ⟨a,us,x1,x2,x3,x4,x5⟩:=hr
    exact ⟨a,us,x1,x2,x3,e1.h.free x4,x5⟩)
  ·exact wr.elim
 ·exact wr.elim
end
end DL
namespace DL
open PySem PySem.Spec PyProof.Rows L2 DX
section
variable {X:Cx}{c:C}{e a:Expr}{es:List Expr}{ga g:G R}{pos:Pos}{L:List Str}{T:Str→Bool}
theorem AF {p p2 pos2:Pos}{gs:G (List R)}(ha:jK X c [a] gs) (hm:X.mg "range"=none) (hm2:X.mg "list"=none) (hc:X.calm=true:=by rfl) (hK:X.K=c.K:=by rfl) (hg:Gl X "range":=by rfl) (hg2:Gl X "list":=by rfl)
  (hs:starEach [a] X.env=(false,eval a X.env)::starEach [] X.env:=by rfl) (hs0:(backTo pos (starEach [] X.env)).any (·.1)=false:=by rfl) (hs2:starEach [Expr.Call (.Name "range" p) [a] [] pos] X.env=(false,eval (Expr.Call (.Name "range" p) [a] [] pos) X.env)::starEach [] X.env:=by rfl) (hs3:(backTo pos2 (starEach [] X.env)).any (·.1)=false:=by rfl):
  QD X c (.Call (.Name "list" p2) [.Call (.Name "range" p) [a] [] pos] [] pos2) (Ab gs):=⟨B9 ha.h hm hm2 hc hK hg hg2 hs hs0 hs2 hs3⟩
end
end DL
namespace DL
open PySem PySem.Spec PyProof.Rows L2
end DL
namespace DL
open PySem PySem.Spec PyProof.Rows L2 DX
open PySem.W (KasT kas_sort kas_ask)
def isInt:D→Bool
 | .int _=>true
 | _=>false
def lW (ds:List D):Bool:=decide (ds.length < 64) && ds.all isInt
theorem yX {K:PySem.W.Frag}{J:Hp}:∀{ds:List D}{vs:List V}{us:List Value},ds.all isInt=true→aG K J ds vs→Vals vs us→∃ns,IntsAre us ns
 | _,_,_,_,.nil,.nil=>⟨[],.nil⟩
 | d::ds,_,_,h,.cons r rs,.cons v vs=>by
  (rw [List.all_cons,Bool.and_eq_true] at h)
  obtain ⟨ns,hn⟩:=yX h.2 rs vs
  cases d with
  | int i=>
   cases r
   obtain ⟨t,rfl⟩:=v
   exact ⟨i::ns,.cons i t hn⟩
  | _=>cases h.1
section
variable {X:Cx}{c:C}{e:Expr}{es:List Expr}{pos:Pos}
theorem vR:bN X (.builtin "sorted") (fun xs H Q=>∃p vs ds,xs=[.ref p]∧cA X.K H p vs∧aG X.K H ds vs∧lW ds=true∧∀l vs',H l=none→(∀J,aG X.K J ds vs→aG X.K J (bg ds) vs')→Q (.ref l) (upd H l (.lst vs'))):=by
 intro pins s σ H xs us Q I r h
 obtain ⟨p,vs,ds,rfl,hq,rs,ok,q⟩:=h
 obtain ⟨u,rfl,rx⟩:=vals1 r
 cases rx
 obtain ⟨its,r',pl,hz⟩:=I.list hq
 have l1:vs.length=its.length:=r'.length
 have l2:ds.length=vs.length:=rs.length
 have fr:H (s.heap.objs.size + 1)=none:=I.hok.fresh (Nat.le_succ _)
 have fin:∀(out:List Value) (vs':List V),vs'.length=vs.length→Vals vs' out→(∀J,aG X.K J ds vs→aG X.K J (bg ds) vs')→∃v H',Inv X pins σ H' {s with heap:=sortedAll s.heap its out.toArray}∧RelV v (.ref (s.heap.objs.size + 1))∧Q v H':=fun out vs' lv rv rr=>by
  obtain ⟨n,hn⟩:=sortedAll_at s.heap its out.toArray
  exact ⟨.ref (s.heap.objs.size + 1),_,I.laid (t':=s.toks) (fun b o e=>sortedAll_old e) (Nat.le_succ _) (show cg X.prog X.w _ _ _ (.lst vs') from ⟨by rw [lv];exact hz,out,n,rv,by simpa [seqObj] using hn⟩),rfl,q _ vs' fr rr⟩
 unfold lW at ok
 rw [Bool.and_eq_true] at ok
 obtain ⟨o1,o2⟩:=ok
 have o1:=of_decide_eq_true o1
 by_cases h2:ds.length < 2
 ·refine zl pl.isList (by omega) (fin its vs rfl r' ?_)
  intro J rj
  unfold bg
  rw [if_pos h2]
  exact rj
 ·have ib:∀i∈(aV (ltB ds) (kas_sort ds.length)).toList,i < ds.length:=fun i hi=>by
   have:=((d_ (n:=ds.length) (by omega)).run (ltB ds):d9 _ _)
   have:=(Array.Perm.mem_iff this).mp (Array.mem_toList_iff.mp hi)
   simpa using this
  obtain ⟨ns,hI⟩:=yX o2 rs r'
  refine zm (κ:=oneType') (q:=ltB ds) pl.isList (by omega) (by omega) (fun h' C kp cc=>?_) (fun h' kp i j C hi hj cc=>?_) ?_
  ·have hl:2≤its.length:=by omega
   clear fin l1 r' pl
   match its,hI,hl with
   | v1::v2::r,hI,_=>rw [keyKind_ints hI];exact wpAny_pure cc
  ·have hi':i < ds.length:=by omega
   have hj':j < ds.length:=by omega
   have ai:=List.all_eq_true.mp o2 _ (dZ hi')
   have aj:=List.all_eq_true.mp o2 _ (dZ hj')
   have r1:=ez rs hi'
   have r2:=ez rs hj'
   have v1:=eB r' (i:=i) (by omega)
   have v2:=eB r' (i:=j) (by omega)
   show wpAny _ _ (keyLt' oneType' (its.getD i Value.none) (its.getD j Value.none)) _ _ _
   rw [keyLt'_oneType]
   have e:ltB ds i j=(dI (cK ds i) (cK ds j)).getD false:=rfl
   rw [e] at cc
   generalize cK ds i=di at ai r1 cc
   generalize cK ds j=dj at aj r2 cc
   generalize vs.getD i V.non=wi at r1 v1
   generalize vs.getD j V.non=wj at r2 v2
   cases di with
   | int a=>
    cases dj with
    | int b=>
     cases r1;cases r2
     obtain ⟨t1,q1⟩:=v1
     obtain ⟨t2,q2⟩:=v2
     rw [q1,q2]
     refine oneLt_int ?_
     unfold dI at cc
     exact cc
    | _=>cases aj
   | _=>cases ai
  ·have e1:iz (ltB ds) its=(aV (ltB ds) (kas_sort ds.length)).toList.map fun i=>its.getD i Value.none:=by unfold iz;rw [l2,l1]
   rw [e1]
   refine fin _ _ ?_ (mG r' _ fun i hi=>l2▸ib i hi) ?_
   ·rw [List.length_map,←l2]
    have:=((d_ (n:=ds.length) (by omega)).run (ltB ds):d9 _ _).size_eq
    simpa using this
   ·intro J rj
    unfold bg
    rw [if_neg h2]
    exact mh rj _ ib
def ki:List R→M R
 | [r]=>jw r >>= fun xs=>if wX xs=true then .ok (.l .fresh (bg xs)) else if lW xs=true then .ok (.l .fresh (bg xs)) else .bad
 | _=>.bad
theorem bN.or {f:Value}{r1 r2:List V→Hp→VK→Prop}(h1:bN X f r1) (h2:bN X f r2):bN X f (fun xs H Q=>r1 xs H Q∨r2 xs H Q):=fun pins s σ H xs us Q I rv h=>h.elim (h1 pins s σ H xs us Q I rv) (h2 pins s σ H xs us Q I rv)
theorem DT {p:Pos}{gs:G (List R)}(hu:X.A.units + 64 < cLine) (ha:iF X c (e::es) gs) (hm:X.mg "sorted"=none) (hK:X.K=c.K:=by rfl) (hg:Gl X "sorted":=by rfl)
  (he:starEach (e::es) X.env=(false,eval e X.env)::starEach es X.env:=by rfl) (hpl:(backTo pos (starEach es X.env)).any (·.1)=false:=by rfl):PD X c (.Call (.Name "sorted" p) (e::es) [] pos) (gN ki gs):=
 kC (bN.or (vU hu) vR) (by
  intro He J H xs vs Q hp rs w
  unfold ki at w
  split at w
  ·obtain ⟨v,rfl,r⟩:=rs.one
   obtain ⟨xs,q,w⟩:=mH w
   obtain ⟨p,vs,rfl,h1,h2⟩:=RR.list hp r q
   rw [hK]
   split at w
   ·rename_i ok
    exact .inl ⟨p,vs,xs,rfl,h1,h2.mono hp.sub,ok,fun l vs' hl rr=>w _ _ _ (Ext.new hp.sub hl _) (i9 hp hl (rr _ h2))⟩
   ·split at w
    ·rename_i ok
     exact .inr ⟨p,vs,xs,rfl,h1,h2.mono hp.sub,ok,fun l vs' hl rr=>w _ _ _ (Ext.new hp.sub hl _) (i9 hp hl (rr _ h2))⟩
    ·exact w.elim
  ·exact w.elim) kh hm ha hg (by decide) (by decide) he hpl
theorem tQ {p:Pos}{gs:G (List R)}(hu:X.A.units + 64 < cLine) (ha:jK X c (e::es) gs) (hm:X.mg "sorted"=none) (hK:X.K=c.K:=by rfl) (hg:Gl X "sorted":=by rfl)
  (he:starEach (e::es) X.env=(false,eval e X.env)::starEach es X.env:=by rfl) (hpl:(backTo pos (starEach es X.env)).any (·.1)=false:=by rfl):QD X c (.Call (.Name "sorted" p) (e::es) [] pos) (gN ki gs):=⟨DT hu ha.h hm hK hg he hpl⟩
end
end DL
namespace DL
open PySem PySem.Spec PyProof.Rows L2 DX
section
variable {X:Cx}{c:C}{e:Expr}{es:List Expr}{pos:Pos}
theorem any_range (ks:List Bool):(List.range ks.length).any (fun i=>ks.getD i false)=ks.any id:=by
 induction ks with
 | nil=>rfl
 | cons k r ih=>
  rw [List.length_cons,List.range_succ_eq_map,List.any_cons,List.any_map,List.any_cons]
  simp only [List.getD_cons_zero]
  rw [←ih]
  rfl
theorem Bh (hc:X.calm=true):bN X (.builtin "any") (fun xs H Q=>∃(p:Addr) (ks:List Bool),xs=[.ref p]∧cA X.K H p (ks.map V.bl)∧Q (.bl (ks.any id)) H):=by
 intro pins s σ H xs us Q I r h
 obtain ⟨p,ks,rfl,hq,q⟩:=h
 obtain ⟨u,rfl,rx⟩:=vals1 r
 cases rx
 obtain ⟨its,r',pl,hz⟩:=I.list hq
 have hi:=qb r'
 subst hi
 have hpn:p≠s.heap.objs.size:=by
  obtain ⟨o,h1,_⟩:=pl.isList
  exact Nat.ne_of_lt (Heap.lt_size h1)
 refine call_any_walk (wpAny_pyIter_list pl.isList ⟨s.heap.objs.size,_,_,_,_,_,(fun i=>ks.getD i false),rfl,Walks.list (A:=X.A.in1) (show X.A.in1.handled=none from I.ok.hd hc) s.heap.objs.size p hpn (ks.map Value.bool).toArray,⟨⟨_,Heap.get?_push_size _ rfl,rfl,rfl⟩,Heap.IsList.push pl.isList _⟩,?_,fun h' tk k=>?_⟩)
 ·intro i v s' Q' E' hP hQ
  have e:∃k,ks[i]?=some k∧v=.bool k:=by
   have hP':(ks.map Value.bool)[i]?=some v:=by simpa using hP
   rw [List.getElem?_map] at hP'
   cases z:ks[i]? with
   | none=>rw [z] at hP';cases hP'
   | some k=>rw [z] at hP';cases hP';exact ⟨k,rfl,rfl⟩
  obtain ⟨k,e1,rfl⟩:=e
  simp only at hQ
  rw [List.getD_eq_getElem?_getD,e1] at hQ
  exact wpAny_truthy_bool hQ
 ·have sz:(ks.map Value.bool).toArray.size=ks.length:=by simp
  rw [sz,any_range]
  refine ⟨.bl (ks.any id),H,?_,rfl,q⟩
  refine I.kept fun b o e=>k b o (fun z=>?_) (Heap.get?_push_of_some _ e)
  have:b=s.heap.objs.size:=by simpa using z
  exact absurd (this▸Heap.lt_size e) (Nat.lt_irrefl _)
def r6:List R→M R
 | [r]=>jw r >>= fun xs=>match jr xs with
  | some ks=>.ok (.d (.bl (ks.any id)))
  | none=>.bad
 | _=>.bad
theorem Bd:bootBuiltins "any"=some (.builtin "any"):=by decide +kernel
theorem IW {p:Pos}{gs:G (List R)}(ha:iF X c (e::es) gs) (hm:X.mg "any"=none) (hK:X.K=c.K:=by rfl) (hc:X.calm=true:=by rfl) (hg:Gl X "any":=by rfl)
  (he:starEach (e::es) X.env=(false,eval e X.env)::starEach es X.env:=by rfl) (hpl:(backTo pos (starEach es X.env)).any (·.1)=false:=by rfl):PD X c (.Call (.Name "any" p) (e::es) [] pos) (gN r6 gs):=
 kC (Bh hc) (by
  intro He J H xs vs Q hp rs w
  unfold r6 at w
  split at w
  ·obtain ⟨v,rfl,r⟩:=rs.one
   obtain ⟨xs,q,w⟩:=mH w
   obtain ⟨p,vs,rfl,h1,h2⟩:=RR.list hp r q
   split at w
   ·rename_i ks z
    have:=nU z h2
    subst this
    exact ⟨p,ks,rfl,by rw [hK];exact h1,w _ J H (Ext.refl hp.sub) (.bl _)⟩
   ·exact w.elim
  ·exact w.elim) Bd hm ha hg (by decide) (by decide) he hpl
theorem GP {p:Pos}{gs:G (List R)}(ha:jK X c (e::es) gs) (hm:X.mg "any"=none) (hK:X.K=c.K:=by rfl) (hc:X.calm=true:=by rfl) (hg:Gl X "any":=by rfl)
  (he:starEach (e::es) X.env=(false,eval e X.env)::starEach es X.env:=by rfl) (hpl:(backTo pos (starEach es X.env)).any (·.1)=false:=by rfl):QD X c (.Call (.Name "any" p) (e::es) [] pos) (gN r6 gs):=⟨IW ha.h hm hK hc hg he hpl⟩
end
end DL
namespace ST
open PySem PySem.SetTable
theorem sf (xs:Array Nat) (j:Nat) (hs:xs.toList.Pairwise (· < ·)):∀(f lo hi:Nat),hi≤xs.size→lo≤hi→hi - lo≤f→(∀i,i < lo→xs.getD i 0 < j)→(∀i,hi≤i→i < xs.size→j≤xs.getD i 0)→
  below.go xs j f lo hi≤xs.size∧(∀i,i < below.go xs j f lo hi→xs.getD i 0 < j)∧∀i,below.go xs j f lo hi≤i→i < xs.size→j≤xs.getD i 0
 | 0,lo,hi,h1,h2,h3,h4,h5=>by
  have:lo=hi:=by omega
  subst this
  exact ⟨h1,h4,h5⟩
 | f + 1,lo,hi,h1,h2,h3,h4,h5=>by
  have mono:∀a b,a≤b→b < xs.size→xs.getD a 0≤xs.getD b 0:=fun a b hab hb=>by
   rcases Nat.lt_or_eq_of_le hab with h | h
   ·have:=List.pairwise_iff_getElem.mp hs a b (by simpa using Nat.lt_trans h hb) (by simpa using hb) h
    simp [Array.getD,Nat.lt_trans h hb,hb] at this ⊢
    omega
   ·rw [h];exact Nat.le_refl _
  unfold below.go
  by_cases c:lo < hi
  ·rw [if_pos c]
   have hm:(lo + hi) / 2 < xs.size:=by omega
   have e:xs.getD ((lo + hi) / 2) j=xs.getD ((lo + hi) / 2) 0:=by simp [Array.getD,hm]
   by_cases d:xs.getD ((lo + hi) / 2) j < j
   ·simp only [d,if_true]
    rw [e] at d
    exact sf xs j hs f _ hi h1 (by omega) (by omega) (fun i hi'=>Nat.lt_of_le_of_lt (mono i ((lo + hi) / 2) (by omega) hm) d) h5
   ·simp only [d,if_false]
    rw [e] at d
    exact sf xs j hs f lo _ (by omega) (by omega) (by omega) h4 (fun i hi' hs'=>Nat.le_trans (by omega) (mono ((lo + hi) / 2) i hi' hs'))
  ·rw [if_neg c]
   have:lo=hi:=by omega
   subst this
   exact ⟨h1,h4,h5⟩
theorem mO (xs:Array Nat) (j:Nat) (hs:xs.toList.Pairwise (· < ·)):below xs j≤xs.size∧(∀i,i < below xs j→xs.getD i 0 < j)∧∀i,below xs j≤i→i < xs.size→j≤xs.getD i 0:=
 sf xs j hs xs.size 0 xs.size (Nat.le_refl _) (Nat.zero_le _) (by omega) (fun i h=>absurd h (Nat.not_lt_zero _)) (fun i h1 h2=>by omega)
theorem below_at {xs:Array Nat}{i j:Nat}(hs:xs.toList.Pairwise (· < ·)) (h:xs[i]?=some j):below xs j=i:=by
 obtain ⟨hi,e⟩:=Array.getElem?_eq_some_iff.mp h
 obtain ⟨b1,b2,b3⟩:=mO xs j hs
 have g:xs.getD i 0=j:=by simp [Array.getD,hi,e]
 rcases Nat.lt_trichotomy (below xs j) i with c | c | c
 ·have h1:=b3 (below xs j) (Nat.le_refl _) (by omega)
  have:=List.pairwise_iff_getElem.mp hs (below xs j) i (by simpa using Nat.lt_trans c hi) (by simpa using hi) c
  simp [Array.getD,Nat.lt_trans c hi] at h1
  simp at this
  omega
 ·exact c
 ·have:=b2 i c
  omega
theorem oH {t:SetTable}{i j:Nat}(hs:t.place.toList.Pairwise (· < ·)) (h:t.place[i]?=some j):t.slot j=.live i:=by
 unfold slot
 rw [below_at hs h]
 show (if (t.place[i]? == some j)=true then Slot.live i else _)=_
 rw [h]
 simp
theorem rA {t:SetTable}{j:Nat}(hd:t.dummies=#[]) (h:j∉t.place.toList):t.slot j=.empty:=by
 unfold slot
 have h1:(t.place[below t.place j]? == some j)=false:=by
  rw [beq_eq_false_iff_ne]
  intro z
  exact h (by
   obtain ⟨hi,e⟩:=Array.getElem?_eq_some_iff.mp z
   rw [←e]
   simp)
 have h2:has t.dummies j=false:=by rw [hd];rfl
 simp only [h1,h2,Bool.false_eq_true,if_false]
def st (mask:Nat) (h:Int):Nat→Probe
 | 0=>({mask:=mask,place:=#[],dummies:=#[],finger:=0,led:=true,moves:=0,plain:=true}:SetTable).probeStart h
 | n + 1=>({mask:=mask,place:=#[],dummies:=#[],finger:=0,led:=true,moves:=0,plain:=true}:SetTable).advance (st mask h n)
abbrev pos (mask:Nat) (h:Int) (n:Nat):Nat:=(st mask h n).j
theorem nv (mask:Nat) (h:Int):∀n,(st mask h n).dummy=none
 | 0=>rfl
 | n + 1=>by
  unfold st advance
  split
  ·exact nv mask h n
  ·exact nv mask h n
def tn (mask:Nat) (h:Int):Nat→Nat×Nat
 | 0=>(bits h % (mask + 1),bits h)
 | k + 1=>leap mask (tn mask h k).1 (tn mask h k).2
theorem t8 (mask:Nat) (h:Int):∀(m n:Nat) (i p j:Nat),st mask h n={j:=j,more:=m,i:=i,perturb:=p,dummy:=none}→st mask h (n + m)={j:=j + m,more:=0,i:=i,perturb:=p,dummy:=none}
 | 0,n,i,p,j,e=>e
 | m + 1,n,i,p,j,e=>by
  have e1:st mask h (n + 1)={j:=j + 1,more:=m,i:=i,perturb:=p,dummy:=none}:=by
   show advance _ (st mask h n)=_
   rw [e]
   unfold advance
   simp
  have:=t8 mask h m (n + 1) i p (j + 1) e1
  rw [show n + (m + 1)=n + 1 + m by omega,this]
  congr 1;omega
theorem zq (mask:Nat) (h:Int):∀k,∃n,n≤10 * k∧st mask h n={j:=(tn mask h k).1,more:=runEnd mask (tn mask h k).1 - (tn mask h k).1,i:=(tn mask h k).1,perturb:=(tn mask h k).2,dummy:=none}
 | 0=>⟨0,Nat.le_refl _,rfl⟩
 | k + 1=>by
  obtain ⟨n,hn,e⟩:=zq mask h k
  have hm:runEnd mask (tn mask h k).1 - (tn mask h k).1≤9:=by unfold runEnd;split <;> omega
  have:=t8 mask h _ n _ _ _ e
  refine ⟨n + (runEnd mask (tn mask h k).1 - (tn mask h k).1) + 1,by omega,?_⟩
  show advance _ (st mask h (n + (runEnd mask (tn mask h k).1 - (tn mask h k).1)))=_
  rw [this]
  unfold advance
  simp
  exact ⟨rfl,rfl,rfl,rfl⟩
theorem rG (mask:Nat) (h:Int):∀k,(tn mask h k).2=bits h / 32 ^ k
 | 0=>by simp [tn]
 | k + 1=>by
  show (tn mask h k).2 / 32=_
  rw [rG mask h k,Nat.div_div_eq_div_mul,Nat.pow_succ]
theorem Fc (h:Int):bits h < 2 ^ 64:=by
 unfold bits
 have:=Int.emod_lt_of_pos h (b:=2 ^ 64) (by decide)
 omega
def BO (mask i:Nat):Nat:=(i * 5 + 1) % (mask + 1)
def g9 (mask:Nat):Nat→Nat→Nat
 | 0,i=>i
 | r + 1,i=>BO mask (g9 mask r i)
theorem xQ (mask:Nat) (h:Int):∀r,(tn mask h (12 + r)).1=g9 mask r (tn mask h 12).1
 | 0=>rfl
 | r + 1=>by
  show (leap mask (tn mask h (12 + r)).1 (tn mask h (12 + r)).2).1=BO mask (g9 mask r (tn mask h 12).1)
  rw [←xQ mask h r,rG]
  unfold leap BO
  have:bits h / 32 ^ (12 + r) / 32=0:=by
   rw [Nat.div_div_eq_div_mul,←Nat.pow_succ]
   refine Nat.div_eq_of_lt (Nat.lt_of_lt_of_le (Fc h) ?_)
   refine Nat.le_trans (show 2 ^ 64≤32 ^ 13 by decide) (Nat.pow_le_pow_right (by decide) (by omega))
  rw [this]
theorem LH:∀i:Fin 8,∀j:Fin 8,(List.range 8).any (fun r=>g9 7 r i.val == j.val)=true:=by decide +kernel
theorem Ku:∀i:Fin 32,∀j:Fin 32,(List.range 32).any (fun r=>g9 31 r i.val == j.val)=true:=by decide +kernel
def HG:List Nat:=(List.range 128).map fun r=>g9 127 r 0
theorem yQ:∀j:Fin 128,HG.contains j.val=true:=by decide +kernel
theorem Ff:g9 127 128 0=0:=by decide +kernel
theorem mZ (mask:Nat):∀a b i,g9 mask (a + b) i=g9 mask a (g9 mask b i)
 | 0,b,i=>by rw [Nat.zero_add];rfl
 | a + 1,b,i=>by
  rw [show a + 1 + b=(a + b) + 1 by omega]
  show BO mask (g9 mask (a + b) i)=BO mask (g9 mask a (g9 mask b i))
  rw [mZ mask a b i]
def kM (mask:Nat):Prop:=mask=7∨mask=31∨mask=127
theorem Br {mask:Nat}(hm:kM mask) (i j:Nat) (hi:i≤mask) (hj:j≤mask):∃r,r≤mask∧g9 mask r i=j:=by
 rcases hm with rfl | rfl | rfl
 ·have:=LH ⟨i,by omega⟩ ⟨j,by omega⟩
  rw [List.any_eq_true] at this
  obtain ⟨r,h1,h2⟩:=this
  exact ⟨r,by have:=List.mem_range.mp h1;omega,by simpa using h2⟩
 ·have:=Ku ⟨i,by omega⟩ ⟨j,by omega⟩
  rw [List.any_eq_true] at this
  obtain ⟨r,h1,h2⟩:=this
  exact ⟨r,by have:=List.mem_range.mp h1;omega,by simpa using h2⟩
 ·have hi':=yQ ⟨i,by omega⟩
  have hj':=yQ ⟨j,by omega⟩
  rw [List.contains_iff_mem] at hi' hj'
  obtain ⟨a,ha,ea⟩:=List.mem_map.mp hi'
  obtain ⟨b,hb,eb⟩:=List.mem_map.mp hj'
  have ha:=List.mem_range.mp ha
  have hb:=List.mem_range.mp hb
  have ea:g9 127 a 0=i:=ea
  have eb:g9 127 b 0=j:=eb
  by_cases c:a≤b
  ·refine ⟨b - a,by omega,?_⟩
   rw [←ea,←mZ,show b - a + a=b by omega]
   exact eb
  ·refine ⟨128 + b - a,by omega,?_⟩
   rw [←ea,←mZ,show 128 + b - a + a=b + 128 by omega,mZ,Ff]
   exact eb
theorem AS (mask:Nat) (h:Int) (k:Nat):(tn mask h k).1≤mask:=by
 cases k with
 | zero=>exact Nat.le_of_lt_succ (Nat.mod_lt _ (by omega))
 | succ k=>exact Nat.le_of_lt_succ (Nat.mod_lt _ (by omega))
theorem visits {mask:Nat}(hm:kM mask) (h:Int) (j:Nat) (hj:j≤mask):∃n,n≤10 * (mask + 12)∧pos mask h n=j:=by
 obtain ⟨r,hr,e⟩:=Br hm (tn mask h 12).1 j (AS mask h 12) hj
 obtain ⟨n,hn,q⟩:=zq mask h (12 + r)
 refine ⟨n,by omega,?_⟩
 show (st mask h n).j=j
 rw [q]
 show (tn mask h (12 + r)).1=j
 rw [xQ,e]
theorem qC {mask:Nat}(hm:kM mask) (h:Int) (P:List Nat) (hP:P.length≤mask):∃n,n≤10 * (mask + 12)∧pos mask h n∉P∧∀m,m < n→pos mask h m∈P:=by
 have ex:∃j,j≤mask∧j∉P:=by
  by_cases c:∀j,j≤mask→j∈P
  ·exfalso
   have:(List.range (mask + 1)).length≤P.length:=List.Nodup.length_le_of_subset List.nodup_range fun j hj=>c j (by have:=List.mem_range.mp hj;omega)
   rw [List.length_range] at this
   omega
  ·exact Classical.byContradiction fun z=>c fun j hj=>Classical.byContradiction fun y=>z ⟨j,hj,y⟩
 obtain ⟨j,hj,hn⟩:=ex
 obtain ⟨n,hn1,hn2⟩:=visits hm h j hj
 have key:∀k,k≤n→(∃m,m≤k∧pos mask h m∉P∧∀m',m' < m→pos mask h m'∈P)∨∀m,m≤k→pos mask h m∈P:=by
  intro k
  induction k with
  | zero=>
   intro _
   by_cases c:pos mask h 0∈P
   ·exact .inr fun m hm=>by rw [show m=0 by omega];exact c
   ·exact .inl ⟨0,Nat.le_refl _,c,fun m' h'=>absurd h' (Nat.not_lt_zero _)⟩
  | succ k ih=>
   intro hk
   rcases ih (by omega) with ⟨m,h1,h2⟩ | h1
   ·exact .inl ⟨m,by omega,h2⟩
   ·by_cases c:pos mask h (k + 1)∈P
    ·exact .inr fun m hm=>by
      by_cases d:m≤k
      ·exact h1 m d
      ·rw [show m=k + 1 by omega];exact c
    ·exact .inl ⟨k + 1,Nat.le_refl _,c,fun m' h'=>h1 m' (by omega)⟩
 rcases key n (Nat.le_refl _) with ⟨m,h1,h2,h3⟩ | h1
 ·exact ⟨m,by omega,h2,h3⟩
 ·exact absurd (h1 n (Nat.le_refl _)) (by rw [hn2];exact hn)
def Reach (mask:Nat) (P:List Nat) (h:Int) (j:Nat):Prop:=∃n,pos mask h n=j∧∀m,m < n→pos mask h m∈P
theorem Reach.mono {mask:Nat}{P P':List Nat}{h:Int}{j:Nat}(r:Reach mask P h j) (s:∀x∈P,x∈P'):Reach mask P' h j:=
 let ⟨n,h1,h2⟩:=r;⟨n,h1,fun m hm=>s _ (h2 m hm)⟩
structure Tab (t:SetTable) (es:Array (Int×Value)) (L:List (Nat×Int×Value)):Prop where
 dm:t.dummies=#[]
 pl:t.place.toList=L.map (·.1)
 en:es.toList=L.map (·.2)
 so:(L.map (·.1)).Pairwise (· < ·)
 bd:∀e∈L,e.1≤t.mask
 mo:kM t.mask
 fl:L.length≤t.mask
 pr:∀e∈L,Reach t.mask (L.map (·.1)) e.2.1 e.1
section
variable {t:SetTable}{es:Array (Int×Value)}{L:List (Nat×Int×Value)}
theorem Tab.at_ (T:Tab t es L){i:Nat}{e:Nat×Int×Value}(h:L[i]?=some e):t.place[i]?=some e.1∧es[i]?=some e.2:=by
 constructor
 ·rw [←Array.getElem?_toList,T.pl,List.getElem?_map,h];rfl
 ·rw [←Array.getElem?_toList,T.en,List.getElem?_map,h];rfl
theorem Tab.sop (T:Tab t es L):t.place.toList.Pairwise (· < ·):=by rw [T.pl];exact T.so
theorem w5 (T:Tab t es L) (hashAt:Nat→Int) (hA:∀i e,es[i]?=some e→hashAt i=e.1) (h:Int) (n0:Nat) (hf:pos t.mask h n0∉L.map (·.1)) (hb:∀m,m < n0→pos t.mask h m∈L.map (·.1)):
  ∀(d n F:Nat),n0 - n=d→n≤n0→d < F→∃m,n≤m∧m≤n0∧(∀k,n≤k→k < m→∀e∈L,e.1=pos t.mask h k→e.2.1≠h)∧
   ((m=n0∧probe.go t hashAt h F (st t.mask h n)=some (.empty (pos t.mask h n0) none))∨(m < n0∧∃i e,L[i]?=some e∧e.1=pos t.mask h m∧e.2.1=h∧probe.go t hashAt h F (st t.mask h n)=some (.candidate (pos t.mask h m) i (st t.mask h (m + 1)))))
 | d,n,0,_,_,h=>absurd h (Nat.not_lt_zero _)
 | d,n,F + 1,hd,hn,hF=>by
  by_cases c:n=n0
  ·subst c
   refine ⟨n,Nat.le_refl _,Nat.le_refl _,fun k h1 h2=>by omega,.inl ⟨rfl,?_⟩⟩
   unfold probe.go
   rw [rA T.dm (by rw [T.pl];exact hf)]
   show some (Met.empty _ (st t.mask h n).dummy)=_
   rw [nv]
  ·obtain ⟨e,he,ej⟩:=List.mem_map.mp (hb n (by omega))
   obtain ⟨i,hi,rfl⟩:=List.mem_iff_getElem.mp he
   have hL:L[i]?=some L[i]:=List.getElem?_eq_getElem hi
   obtain ⟨p1,p2⟩:=T.at_ hL
   have hs:t.slot (pos t.mask h n)=.live i:=oH T.sop (by rw [p1,ej])
   have hh:=hA i _ p2
   have uniq:∀e∈L,e.1=pos t.mask h n→e=L[i]:=fun e he q=>by
    obtain ⟨k,hk,rfl⟩:=List.mem_iff_getElem.mp he
    have:k=i:=by
     have sw:=List.pairwise_iff_getElem.mp T.so
     rcases Nat.lt_trichotomy k i with c | c | c
     ·have:=sw k i (by simpa using hk) (by simpa using hi) c
      simp at this
      omega
     ·exact c
     ·have:=sw i k (by simpa using hi) (by simpa using hk) c
      simp at this
      omega
    subst this;rfl
   by_cases q:L[i].2.1=h
   ·refine ⟨n,Nat.le_refl _,by omega,fun k h1 h2=>by omega,.inr ⟨by omega,i,L[i],hL,ej,q,?_⟩⟩
    unfold probe.go
    rw [hs]
    show (if (hashAt i == h)=true then _ else _)=_
    rw [hh,q,if_pos (by simp)]
    rfl
   ·obtain ⟨m,m1,m2,m3,m4⟩:=w5 T hashAt hA h n0 hf hb (n0 - (n + 1)) (n + 1) F rfl (by omega) (by omega)
    have eg:probe.go t hashAt h (F + 1) (st t.mask h n)=probe.go t hashAt h F (st t.mask h (n + 1)):=by
     rw [probe.go,hs]
     show (if (hashAt i == h)=true then _ else _)=_
     rw [hh,if_neg (by simpa using q)]
     rfl
    rw [eg]
    refine ⟨m,by omega,m2,fun k h1 h2 e he' ek=>?_,m4⟩
    by_cases z:k=n
    ·subst z
     rw [uniq e he' ek];exact q
    ·exact m3 k (by omega) h2 e he' ek
theorem nI {α:Type}(xs:Array α) (p:Nat) (x:α) (hp:p≤xs.size):(insertAt xs p x).toList=xs.toList.take p++x::xs.toList.drop p:=by
 unfold insertAt
 simp
 (exact List.take_of_length_le (by simp))
theorem Tab.put (T:Tab t es L) (h:Int) (x:Value) (n0:Nat) (hf:pos t.mask h n0∉L.map (·.1)) (hb:∀m,m < n0→pos t.mask h m∈L.map (·.1)) (hj:pos t.mask h n0≤t.mask) (hl:L.length + 1≤t.mask):
  ∃L',Tab (t.put (pos t.mask h n0)).1 (insertAt es (t.put (pos t.mask h n0)).2 (h,x)) L'∧L'.Perm ((pos t.mask h n0,h,x)::L):=by
 obtain ⟨b1,b2,b3⟩:=mO t.place (pos t.mask h n0) T.sop
 generalize hp:below t.place (pos t.mask h n0)=p at b1 b2 b3
 have hsz:t.place.size=L.length:=by rw [←Array.length_toList,T.pl,List.length_map]
 have hes:es.size=L.length:=by rw [←Array.length_toList,T.en,List.length_map]
 have perm:(L.take p++(pos t.mask h n0,h,x)::L.drop p).Perm ((pos t.mask h n0,h,x)::L):=by
  have:=List.perm_middle (a:=(pos t.mask h n0,h,x)) (l₁:=L.take p) (l₂:=L.drop p)
  rwa [List.take_append_drop] at this
 have e1:(t.put (pos t.mask h n0))=({t with place:=insertAt t.place p (pos t.mask h n0),dummies:=#[]},p):=by
  unfold SetTable.put
  rw [hp,T.dm]
  rfl
 rw [e1]
 have getP:∀i (hi:i < L.length),t.place.getD i 0=L[i].1:=fun i hi=>by
  have:=(T.at_ (List.getElem?_eq_getElem hi)).1
  have hi':i < t.place.size:=by omega
  simp [Array.getD,hi']
  rw [Array.getElem?_eq_getElem hi'] at this
  exact Option.some.inj this
 refine ⟨L.take p++(pos t.mask h n0,h,x)::L.drop p,⟨rfl,?_,?_,?_,fun e he=>?_,T.mo,?_,fun e he=>?_⟩,perm⟩
 ·show (insertAt t.place p (pos t.mask h n0)).toList=_
  rw [nI _ _ _ b1,T.pl]
  simp [List.map_take,List.map_drop]
 ·show (insertAt es p (h,x)).toList=_
  rw [nI _ _ _ (by omega),T.en]
  simp [List.map_take,List.map_drop]
 ·rw [List.map_append,List.map_cons,List.pairwise_append]
  refine ⟨?_,?_,?_⟩
  ·rw [List.map_take]
   exact T.so.sublist (List.take_sublist _ _)
  ·rw [List.pairwise_cons]
   refine ⟨fun a ha=>?_,?_⟩
   ·obtain ⟨e,he,rfl⟩:=List.mem_map.mp ha
    obtain ⟨i,hi,rfl⟩:=List.mem_iff_getElem.mp he
    rw [List.getElem_drop]
    rw [List.length_drop] at hi
    have:=b3 (p + i) (by omega) (by omega)
    rw [getP _ (by omega)] at this
    rcases Nat.lt_or_eq_of_le this with c | c
    ·exact c
    ·exact absurd (List.mem_map.mpr ⟨L[p + i],List.getElem_mem _,c.symm⟩) hf
   ·rw [List.map_drop]
    exact T.so.sublist (List.drop_sublist _ _)
  ·intro a ha b hb
   obtain ⟨e,he,rfl⟩:=List.mem_map.mp ha
   obtain ⟨i,hi,rfl⟩:=List.mem_iff_getElem.mp he
   rw [List.getElem_take]
   rw [List.length_take] at hi
   have h1:=b2 i (by omega)
   rw [getP _ (by omega)] at h1
   (rcases List.mem_cons.mp hb with rfl | hb)
   ·exact h1
   ·obtain ⟨e,he,rfl⟩:=List.mem_map.mp hb
    obtain ⟨k,hk,rfl⟩:=List.mem_iff_getElem.mp he
    rw [List.getElem_drop]
    rw [List.length_drop] at hk
    have:=b3 (p + k) (by omega) (by omega)
    rw [getP _ (by omega)] at this
    omega
 ·rcases List.mem_cons.mp (perm.mem_iff.mp he) with rfl | he
  ·exact hj
  ·exact T.bd e he
 ·rw [perm.length_eq];exact hl
 ·have sub:∀y∈L.map (·.1),y∈(L.take p++(pos t.mask h n0,h,x)::L.drop p).map (·.1):=fun y hy=>by
   obtain ⟨e,he,rfl⟩:=List.mem_map.mp hy
   exact List.mem_map.mpr ⟨e,perm.mem_iff.mpr (List.mem_cons_of_mem _ he),rfl⟩
  rcases List.mem_cons.mp (perm.mem_iff.mp he) with rfl | he
  ·exact ⟨n0,rfl,fun m hm=>sub _ (hb m hm)⟩
  ·exact (T.pr e he).mono sub
end
theorem mq (mask:Nat) (h:Int) (n i p m:Nat) (e:st mask h n={j:=i,more:=m,i:=i,perturb:=p,dummy:=none}):∀r,r≤m→st mask h (n + r)={j:=i + r,more:=m - r,i:=i,perturb:=p,dummy:=none}
 | 0,_=>e
 | r + 1,hr=>by
  show advance _ (st mask h (n + r))=_
  rw [mq mask h n i p m e r (by omega)]
  unfold advance
  rw [if_pos (by show m - r > 0;omega)]
  show Probe.mk _ _ _ _ _=_
  congr 1
theorem CC (mask:Nat) (h:Int) (k n:Nat) (e:st mask h n={j:=(tn mask h k).1,more:=runEnd mask (tn mask h k).1 - (tn mask h k).1,i:=(tn mask h k).1,perturb:=(tn mask h k).2,dummy:=none}):
  st mask h (n + (runEnd mask (tn mask h k).1 - (tn mask h k).1) + 1)={j:=(tn mask h (k + 1)).1,more:=runEnd mask (tn mask h (k + 1)).1 - (tn mask h (k + 1)).1,i:=(tn mask h (k + 1)).1,perturb:=(tn mask h (k + 1)).2,dummy:=none}:=by
 show advance _ (st mask h (n + (runEnd mask (tn mask h k).1 - (tn mask h k).1)))=_
 rw [mq mask h n _ _ _ e _ (Nat.le_refl _)]
 unfold advance
 simp
 exact ⟨rfl,rfl,rfl,rfl⟩
theorem sZ (mask:Nat) (h:Int) (owner:Array (Option Nat)) (G:List Nat) (ho:∀j,j≤mask→((owner.getD j (some 0)).isNone=true↔j∉G)):
  ∀(f k n:Nat),st mask h n={j:=(tn mask h k).1,more:=runEnd mask (tn mask h k).1 - (tn mask h k).1,i:=(tn mask h k).1,perturb:=(tn mask h k).2,dummy:=none}→(∀m,m < n→pos mask h m∈G)→
   (∃n',layClean.free mask owner f (tn mask h k).1 (tn mask h k).2=some (pos mask h n')∧pos mask h n'≤mask∧pos mask h n'∉G∧∀m,m < n'→pos mask h m∈G)∨(layClean.free mask owner f (tn mask h k).1 (tn mask h k).2=none∧∀r,r < f→(tn mask h (k + r)).1∈G)
 | 0,k,n,e,hb=>.inr ⟨rfl,fun r hr=>absurd hr (Nat.not_lt_zero _)⟩
 | f + 1,k,n,e,hb=>by
  have hi:=AS mask h k
  have re:runEnd mask (tn mask h k).1≤mask∧(tn mask h k).1≤runEnd mask (tn mask h k).1:=by unfold runEnd;split <;> omega
  unfold layClean.free
  cases q:(List.range (runEnd mask (tn mask h k).1 + 1 - (tn mask h k).1)).find? fun r=>(owner.getD ((tn mask h k).1 + r) (some 0)).isNone with
  | some r=>
   have h1:=List.find?_some q
   have h2:=List.mem_range.mp (List.mem_of_find?_eq_some q)
   have h3:pos mask h (n + r)=(tn mask h k).1 + r:=by
    show (st mask h (n + r)).j=_
    rw [mq mask h n _ _ _ e r (by omega)]
   refine .inl ⟨n + r,?_,?_,?_,?_⟩
   ·show some _=_
    rw [h3]
   ·rw [h3];omega
   ·rw [h3];exact (ho _ (by omega)).mp h1
   ·intro m hm
    by_cases c:m < n
    ·exact hb m c
    ·obtain ⟨s,rfl⟩:∃s,m=n + s:=⟨m - n,by omega⟩
     have h4:pos mask h (n + s)=(tn mask h k).1 + s:=by
      show (st mask h (n + s)).j=_
      rw [mq mask h n _ _ _ e s (by omega)]
     rw [h4]
     refine Classical.byContradiction fun z=>?_
     have z':=(ho ((tn mask h k).1 + s) (by omega)).mpr z
     rw [List.find?_eq_some_iff_append] at q
     obtain ⟨_,as,bs,eq,hall⟩:=q
     have hs:s∈as:=by
      have hlen:as.length=r:=by
       have hl:as.length < (List.range (runEnd mask (tn mask h k).1 + 1 - (tn mask h k).1)).length:=by rw [eq];simp
       have e3:(List.range (runEnd mask (tn mask h k).1 + 1 - (tn mask h k).1))[as.length]?=some r:=by rw [eq];simp
       rw [List.length_range] at hl
       rw [List.getElem?_range hl] at e3
       exact Option.some.inj e3
      have e4:(List.range (runEnd mask (tn mask h k).1 + 1 - (tn mask h k).1))[s]?=some s:=List.getElem?_range (by omega)
      rw [eq,List.getElem?_append_left (by omega)] at e4
      exact List.mem_of_getElem? e4
     have:=hall s hs
     rw [z'] at this
     exact absurd this (by decide)
  | none=>
   have hall:=List.find?_eq_none.mp q
   have occ:∀s,s≤runEnd mask (tn mask h k).1 - (tn mask h k).1→(tn mask h k).1 + s∈G:=fun s hs=>Classical.byContradiction fun z=>by
    have z':=(ho ((tn mask h k).1 + s) (by omega)).mpr z
    exact hall s (List.mem_range.mpr (by omega)) z'
   have nb:∀m,m < n + (runEnd mask (tn mask h k).1 - (tn mask h k).1) + 1→pos mask h m∈G:=fun m hm=>by
    by_cases c:m < n
    ·exact hb m c
    ·obtain ⟨s,rfl⟩:∃s,m=n + s:=⟨m - n,by omega⟩
     have h4:pos mask h (n + s)=(tn mask h k).1 + s:=by
      show (st mask h (n + s)).j=_
      rw [mq mask h n _ _ _ e s (by omega)]
     rw [h4]
     exact occ s (by omega)
   rcases sZ mask h owner G ho f (k + 1) _ (CC mask h k n e) nb with ⟨n',g1,g2',g3⟩ | ⟨g1,g2'⟩
   ·exact .inl ⟨n',g1,g2',g3⟩
   ·refine .inr ⟨g1,fun r hr=>?_⟩
    cases r with
    | zero=>have:=occ 0 (Nat.zero_le _);exact this
    | succ r=>have:=g2' r (by omega);rwa [show k + (r + 1)=k + 1 + r by omega]
theorem Fv {mask:Nat}(hm:kM mask) (h:Int) (owner:Array (Option Nat)) (G:List Nat) (hG:G.length≤mask) (ho:∀j,j≤mask→((owner.getD j (some 0)).isNone=true↔j∉G)):
  ∃n',layClean.free mask owner (turns mask) (bits h % (mask + 1)) (bits h)=some (pos mask h n')∧pos mask h n'≤mask∧pos mask h n'∉G∧∀m,m < n'→pos mask h m∈G:=by
 rcases sZ mask h owner G ho (turns mask) 0 0 rfl (fun m hm=>absurd hm (Nat.not_lt_zero _)) with a | ⟨_,b⟩
 ·exact a
 ·exfalso
  have all:∀j,j≤mask→j∈G:=fun j hj=>by
   obtain ⟨r,hr,e⟩:=Br hm (tn mask h 12).1 j (AS mask h 12) hj
   have:=b (12 + r) (by unfold turns;omega)
   rw [Nat.zero_add,xQ,e] at this
   exact this
  have:(List.range (mask + 1)).length≤G.length:=List.Nodup.length_le_of_subset List.nodup_range fun j hj=>all j (by have:=List.mem_range.mp hj;omega)
  rw [List.length_range] at this
  omega
structure Own (mask:Nat) (owner:Array (Option Nat)) (G:List Nat) (hs:List Int):Prop where
 sz:owner.size=mask + 1
 ln:G.length=hs.length
 nd:G.Nodup
 bd:∀j∈G,j≤mask
 at_:∀j,j≤mask→owner.getD j none=if j∈G then some (G.idxOf j) else none
 pr:∀k (h1:k < G.length) (h2:k < hs.length),Reach mask G hs[k] G[k]
theorem Own.occ {mask:Nat}{owner:Array (Option Nat)}{G:List Nat}{hs:List Int}(O:Own mask owner G hs):∀j,j≤mask→((owner.getD j (some 0)).isNone=true↔j∉G):=fun j hj=>by
 have e:owner.getD j (some 0)=owner.getD j none:=by
  have:j < owner.size:=by rw [O.sz];omega
  simp [Array.getD,this]
 rw [e,O.at_ j hj]
 split <;> simp_all
theorem Own.step {mask:Nat}{owner:Array (Option Nat)}{G:List Nat}{hs:List Int}(O:Own mask owner G hs) (hm:kM mask) (hl:hs.length≤mask) (h:Int):
  ∃j,layClean.free mask owner (turns mask) (bits h % (mask + 1)) (bits h)=some j∧Own mask (owner.setIfInBounds j (some hs.length)) (G++[j]) (hs++[h]):=by
 obtain ⟨n',e,b,f,r⟩:=Fv hm h owner G (by rw [O.ln];exact hl) O.occ
 refine ⟨_,e,⟨by rw [Array.size_setIfInBounds,O.sz],by simp [O.ln],?_,fun j hj=>?_,fun j hj=>?_,fun k h1 h2=>?_⟩⟩
 ·rw [List.nodup_append]
  refine ⟨O.nd,by simp,fun a ha b hb=>?_⟩
  rw [List.mem_singleton] at hb
  subst hb
  intro z;subst z;exact f ha
 ·rcases List.mem_append.mp hj with h1 | h1
  ·exact O.bd j h1
  ·rw [List.mem_singleton.mp h1];exact b
 ·have hsz:j < owner.size:=by rw [O.sz];omega
  by_cases c:j=pos mask h n'
  ·subst c
   rw [if_pos (by simp)]
   simp [Array.getD,hsz]
   rw [List.idxOf_append,if_neg f]
   simp [O.ln]
  ·have e1:(owner.setIfInBounds (pos mask h n') (some hs.length)).getD j none=owner.getD j none:=by
    simp [Array.getD,hsz]
    rw [Array.getElem_setIfInBounds_ne]
    exact fun z=>c z.symm
   rw [e1,O.at_ j hj]
   by_cases d:j∈G
   ·rw [if_pos d,if_pos (List.mem_append_left _ d),List.idxOf_append,if_pos d]
   ·rw [if_neg d,if_neg (by simp [d,c])]
 ·have sub:∀x∈G,x∈G++[pos mask h n']:=fun x hx=>List.mem_append_left _ hx
  by_cases c:k < G.length
  ·have:=(O.pr k c (by rw [←O.ln];exact c)).mono sub
   rw [List.getElem_append_left c,List.getElem_append_left (by rw [←O.ln];exact c)]
   exact this
  ·have hk:k=G.length:=by simp at h1;omega
   subst hk
   have e1:(G++[pos mask h n'])[G.length]=pos mask h n':=by simp
   have e2:(hs++[h])[G.length]=h:=by simp [O.ln]
   rw [e1,e2]
   exact ⟨n',rfl,fun m hm=>sub _ (r m hm)⟩
theorem wL {mask:Nat}(hm:kM mask):∀(rest hs:List Int) (owner:Array (Option Nat)) (G:List Nat),Own mask owner G hs→(hs++rest).length≤mask→∃owner' G',rest.foldl (fun acc h=>do
  let (owner,k) ←acc
  let j ←layClean.free mask owner (turns mask) (bits h % (mask + 1)) (bits h)
  pure (owner.setIfInBounds j (some k),k + 1)) (some (owner,hs.length))=some (owner',(hs++rest).length)∧Own mask owner' G' (hs++rest)
 | [],hs,owner,G,O,_=>⟨owner,G,by simp,by simpa using O⟩
 | h::rest,hs,owner,G,O,hl=>by
  obtain ⟨j,e,O'⟩:=O.step hm (by simp at hl;omega) h
  obtain ⟨owner',G',e2,O2⟩:=wL hm rest (hs++[h]) _ _ O' (by simpa using hl)
  refine ⟨owner',G',?_,by simpa using O2⟩
  rw [List.foldl_cons]
  have e3:(do
   let (owner,k) ←some (owner,hs.length)
   let j ←layClean.free mask owner (turns mask) (bits h % (mask + 1)) (bits h)
   pure (owner.setIfInBounds j (some k),k + 1):Option (Array (Option Nat)×Nat))=some (owner.setIfInBounds j (some hs.length),(hs++[h]).length):=by
   show Option.bind (layClean.free mask owner (turns mask) (bits h % (mask + 1)) (bits h)) _=_
   rw [e]
   simp
  rw [e3]
  simpa using e2
theorem F_ (mask:Nat):Own mask (Array.replicate (mask + 1) none) [] []:=
 ⟨by simp,rfl,List.nodup_nil,fun j h=>absurd h (by simp),fun j hj=>by simp [Array.getD],fun k h1=>absurd h1 (by simp)⟩
theorem BN {mask:Nat}(hm:kM mask) (hs:Array Int) (hl:hs.size≤mask):∃owner G,layClean mask hs=some owner∧Own mask owner G hs.toList:=by
 obtain ⟨owner,G,e,O⟩:=wL hm hs.toList [] _ [] (F_ mask) (by simpa using hl)
 refine ⟨owner,G,?_,by simpa using O⟩
 unfold layClean
 rw [←Array.foldl_toList]
 have e':=congrArg (Option.map (·.1)) e
 exact e'
theorem FH {t:SetTable}{es:Array (Int×Value)}{mask:Nat}(hm:kM mask) (finger moves:Nat) (led plain:Bool) (hl:es.size≤mask):
  ∃t' order L',laid mask finger moves led plain (es.map (·.1))=some (t',order)∧t'.mask=mask∧t'.led=led∧t'.plain=plain∧Tab t' (order.filterMap (es[·]?)) L'∧(order.filterMap (es[·]?)).toList.Perm es.toList:=by
 obtain ⟨owner,G,e,O⟩:=BN hm (es.map (·.1)) (by simpa using hl)
 have hlen:G.length=es.size:=by rw [O.ln];simp
 (let live:=(List.range (mask + 1)).filterMap fun j=>(owner.getD j none).map (j,·))
 have lv:∀p,p∈live↔p.1∈G∧p.2=G.idxOf p.1:=fun p=>by
  show p∈(List.range (mask + 1)).filterMap _↔_
  rw [List.mem_filterMap]
  constructor
  ·rintro ⟨j,hj,q⟩
   have hj':j≤mask:=by have:=List.mem_range.mp hj;omega
   rw [O.at_ j hj'] at q
   by_cases c:j∈G
   ·rw [if_pos c] at q
    have q:(j,G.idxOf j)=p:=by simpa using q
    subst q
    exact ⟨c,rfl⟩
   ·rw [if_neg c] at q;exact absurd q (by simp)
  ·rintro ⟨h1,h2⟩
   refine ⟨p.1,List.mem_range.mpr (by have:=O.bd _ h1;omega),?_⟩
   rw [O.at_ _ (O.bd _ h1),if_pos h1]
   show some (p.1,G.idxOf p.1)=some p
   rw [←h2]
 have so1:live.Pairwise fun a b=>a.1 < b.1:=by
  show ((List.range (mask + 1)).filterMap _).Pairwise _
  rw [List.pairwise_filterMap]
  refine List.pairwise_lt_range.imp ?_
  intro a b hab x hx y hy
  cases q1:owner.getD a none with
  | none=>rw [q1] at hx;exact absurd hx (by simp)
  | some k1=>cases q2:owner.getD b none with
   | none=>rw [q2] at hy;exact absurd hy (by simp)
   | some k2=>
    rw [q1] at hx;rw [q2] at hy
    have hx:(a,k1)=x:=by simpa using hx
    have hy:(b,k2)=y:=by simpa using hy
    subst hx;subst hy;exact hab
 have ord:(live.map (·.2)).Perm (List.range es.size):=by
  rw [List.perm_ext_iff_of_nodup _ List.nodup_range]
  ·intro k
   rw [List.mem_map,List.mem_range]
   constructor
   ·rintro ⟨p,hp,rfl⟩
    obtain ⟨h1,h2⟩:=(lv p).mp hp
    rw [h2,←hlen]
    exact List.idxOf_lt_length_of_mem h1
   ·intro hk
    rw [←hlen] at hk
    exact ⟨(G[k],k),(lv _).mpr ⟨List.getElem_mem _,(O.nd.idxOf_getElem k hk).symm⟩,rfl⟩
  ·show (live.map (·.2)).Pairwise _
   rw [List.pairwise_map]
   refine (List.Pairwise.and_mem.mp so1).imp ?_
   rintro a b ⟨ha,hb,hab⟩ z
   obtain ⟨a1,a2⟩:=(lv a).mp ha
   obtain ⟨b1,b2⟩:=(lv b).mp hb
   rw [a2,b2] at z
   have ga:=List.getElem_idxOf (List.idxOf_lt_length_of_mem a1)
   have gb:=List.getElem_idxOf (List.idxOf_lt_length_of_mem b1)
   have:a.1=b.1:=by
    rw [←ga,←gb]
    congr 1
   omega
 have inR:∀p∈live,∃h:p.2 < es.size,True:=fun p hp=>by
  have:p.2∈live.map (·.2):=List.mem_map.mpr ⟨p,hp,rfl⟩
  exact ⟨List.mem_range.mp (ord.mem_iff.mp this),trivial⟩
 let L':=live.map fun p=>(p.1,es.getD p.2 default)
 have eL:(live.map (·.2)).toArray.filterMap (es[·]?)=(L'.map (·.2)).toArray:=by
  rw [List.filterMap_toArray]
  congr 1
  show List.filterMap _ (live.map _)=(live.map _).map _
  rw [List.filterMap_map,List.map_map]
  have:∀(l:List (Nat×Nat)),(∀p∈l,p∈live)→List.filterMap ((fun x=>es[x]?) ∘ fun x=>x.snd) l=List.map ((fun x=>x.snd) ∘ fun p=>(p.fst,es.getD p.snd default)) l:=by
   intro l
   induction l with
   | nil=>intro _;rfl
   | cons p l ih=>
    intro hl
    obtain ⟨hp,_⟩:=inR p (hl p (by simp))
    rw [List.filterMap_cons_some (b:=es.getD p.2 default)]
    ·rw [List.map_cons,ih fun q hq=>hl q (by simp [hq])]
     rfl
    ·show es[p.2]?=_
     simp [Array.getD,hp]
  exact this live fun p hp=>hp
 have eP:L'.map (·.1)=live.map (·.1):=by
  show (live.map _).map _=_
  rw [List.map_map];rfl
 have memP:∀j,j∈live.map (·.1)↔j∈G:=fun j=>by
  rw [List.mem_map]
  constructor
  ·rintro ⟨p,hp,rfl⟩;exact ((lv p).mp hp).1
  ·intro h;exact ⟨(j,G.idxOf j),(lv _).mpr ⟨h,rfl⟩,rfl⟩
 have lenL:L'.length=es.size:=by
  have:=ord.length_eq
  rw [List.length_map,List.length_range] at this
  show (live.map _).length=_
  rw [List.length_map,this]
 refine ⟨{mask,place:=(live.map (·.1)).toArray,dummies:=#[],finger,led,moves,plain},(live.map (·.2)).toArray,L',?_,rfl,rfl,rfl,⟨rfl,?_,?_,?_,fun x hx=>?_,hm,?_,fun x hx=>?_⟩,?_⟩
 ·unfold laid
  rw [e]
  rfl
 ·show (live.map (·.1)).toArray.toList=_
  rw [eP]
 ·rw [eL]
 ·rw [eP,List.pairwise_map];exact so1
 ·obtain ⟨p,hp,rfl⟩:=List.mem_map.mp hx
  exact O.bd _ ((lv p).mp hp).1
 ·show L'.length≤mask
  rw [lenL];exact hl
 ·obtain ⟨p,hp,rfl⟩:=List.mem_map.mp hx
  obtain ⟨h1,h2⟩:=(lv p).mp hp
  obtain ⟨hs,_⟩:=inR p hp
  have r:=O.pr p.2 (by omega) (by simpa using hs)
  have e1:G[p.2]'(by omega)=p.1:=by
   have:=List.getElem_idxOf (List.idxOf_lt_length_of_mem h1)
   rw [←this]
   congr 1
  have e2:((es.map (·.1)).toList[p.2]'(by simpa using hs))=(es.getD p.2 default).1:=by
   simp [Array.getD,hs]
  rw [e1,e2] at r
  show Reach mask (L'.map (·.1)) (es.getD p.2 default).1 p.1
  refine r.mono fun y hy=>?_
  rw [eP]
  exact (memP y).mpr hy
 ·rw [eL]
  show (L'.map (·.2)).Perm es.toList
  have e1:(live.map (·.2)).map (fun k=>es.getD k default)=L'.map (·.2):=by
   show _=(live.map _).map _
   rw [List.map_map,List.map_map];rfl
  rw [←e1]
  refine (ord.map _).trans ?_
  have:(List.range es.size).map (fun k=>es.getD k default)=es.toList:=by
   refine List.ext_getElem (by simp) fun i h1 h2=>?_
   simp at h1
   simp [Array.getD,h1]
  rw [this]
theorem tX {t:SetTable}{es:Array (Int×Value)}{w:Nat}(hm:kM (sizeAbove w - 1)) (hl:es.size≤sizeAbove w - 1):
  ∃t' order L',t.relaid (es.map (·.1)) w=some (t',order)∧t'.mask=sizeAbove w - 1∧t'.led=t.led∧t'.plain=t.plain∧Tab t' (order.filterMap (es[·]?)) L'∧(order.filterMap (es[·]?)).toList.Perm es.toList:=
 FH (t:=t) hm t.finger (t.movedTo (sizeAbove w - 1)) t.led t.plain hl
end ST
namespace DL
open PySem PySem.Spec PyProof.Rows L2
mutual
def jP:D→Nat
 | .int _=>1
 | .tup xs=>eS xs + 1
 | _=>0
def eS:List D→Nat
 | []=>0
 | x::xs=>jP x + eS xs
end
theorem pH:∀{ds:List D},areKeys ds=true→∀d∈ds,isKey d=true
 | [],_,_,h=>nomatch h
 | x::xs,h,d,hm=>by
  unfold areKeys at h
  rw [Bool.and_eq_true] at h
  (rcases List.mem_cons.mp hm with rfl | hm)
  ·exact h.1
  ·exact pH h.2 d hm
mutual
theorem wI:∀{d e:D},isKey d=true→isKey e=true→bq d e=true→d=e
 | .int i,.int j,_,_,h=>by simp [bq] at h;rw [h]
 | .tup xs,.tup ys,hd,he,h=>by
  unfold isKey at hd he
  simp only [bq] at h
  rw [keys_eq hd he h]
 | .int _,.tup _,_,_,h=>by simp [bq] at h
 | .tup _,.int _,_,_,h=>by simp [bq] at h
theorem keys_eq:∀{ds es:List D},areKeys ds=true→areKeys es=true→cG ds es=true→ds=es
 | [],[],_,_,_=>rfl
 | x::xs,y::ys,hd,he,h=>by
  unfold areKeys at hd he
  rw [Bool.and_eq_true] at hd he
  simp only [cG,Bool.and_eq_true] at h
  rw [wI hd.1 he.1 h.1,keys_eq hd.2 he.2 h.2]
 | [],_::_,_,_,h=>by simp [cG] at h
 | _::_,[],_,_,h=>by simp [cG] at h
end
theorem su {d e:D}(hd:isKey d=true) (he:isKey e=true):bq d e=true↔d=e:=⟨wI hd he,fun h=>by rw [h];exact fS _⟩
theorem HF.keep {K:PySem.W.Frag}{J:Hp}{s s':Shared}(F:HF K J s) (k:∀b o,s.heap.get? b=some o→s'.heap.get? b=some o):HF K J s':=
 ⟨fun a xs h=>let ⟨its,r,o,ho,p⟩:=F.t a xs h;⟨its,r,o,k _ _ ho,p⟩,fun a xs h=>let ⟨its,r,o,ho,p⟩:=F.l a xs h;⟨its,r,o,k _ _ ho,p⟩,fun a h=>let ⟨o,ho,p⟩:=F.e a h;⟨o,k _ _ ho,p⟩,fun a kvs h=>let ⟨o,es,ep,ho,p⟩:=F.d a kvs h;⟨o,es,ep,k _ _ ho,p⟩⟩
section
variable {prog:Program}{w:World}{E:Value→Shared→Prop}{K:PySem.W.Frag}{J:Hp}
def A4 (prog:Program) (w:World) (A:Around) (K:PySem.W.Frag) (J:Hp) (d:D) (u:Value):Prop:=
 ∀(E:Value→Shared→Prop) (s:Shared) (Q:Int→Shared→Prop),HF K J s→Q (bO d) {s with toks:=s.toks + jP d}→wpAny (model prog w) A (pyHash u) Q E s
inductive jV (prog:Program) (w:World) (A:Around) (K:PySem.W.Frag) (J:Hp):List D→List Value→Prop
 | nil:jV prog w A K J [] []
 | cons {d:D}{u:Value}{ds:List D}{us:List Value}:A4 prog w A K J d u→jV prog w A K J ds us→jV prog w A K J (d::ds) (u::us)
theorem qM:∀(a b:List D),cB (a++b)=cB a++cB b
 | [],b=>rfl
 | x::a,b=>by show bO x::cB (a++b)=_;rw [qM a b];rfl
theorem qy:∀(a b:List D),eS (a++b)=eS a + eS b
 | [],b=>by show eS b=0 + _;omega
 | x::a,b=>by show jP x + eS (a++b)=jP x + eS a + eS b;rw [qy a b];omega
theorem Dg {A:Around}{s:Shared}{a:Addr}{o:Obj}{its:List Value}{n:Nat}{ds:List D}{Q:Int→Shared→Prop}(N:HF K J s) (ho:s.heap.get? a=some o) (hc:o.cls=.type "tuple") (hd:o.data=.seq its.toArray n) (hu:A.units < cLine)
  (hl:jV prog w A.in1 K J ds its) (h:Q (reduceHash (Builtin.Tuple.tupleHashOf (cB ds))) {s with toks:=s.toks + (eS ds + 1)}):wpAny (model prog w) A (pyHash (.ref a)) Q E s:=by
 have hT:s.TypeIs (.ref a) "tuple":=⟨o,ho,hc⟩
 unfold pyHash
 (first | unfold pyHashByItsType | skip)
 (first | refine wpAny_bind (wpAny_cRoomFor_or (.inr hu) ?_) | skip)
 (refine wpAny_bind (wpAny_specialOf hT F.slot_tuple_hash.lookup ?_))
 (show wpAny _ _ (if (some (Value.builtin "tuple.__hash__") == some Value.none)=true then _ else _) Q E s)
 (rw [if_neg (by rw [beq_builtin_none];exact Bool.false_ne_true)])
 (refine wpAny_bind (wpAny_specialOf hT F.slot_tuple_hash.lookup ?_))
 (show wpAny _ _ (callSpecialIfBoundUnlessNone? (.ref a) "__hash__" _ >>= _) Q E s)
 (refine wpAny_bind (wpAny_callSpecialIfBoundUnlessNone?_slot hT F.slot_tuple_hash (wpAny_call_entry F.slot_tuple_hash hT F.entry_tuple_hash ?_ (F.args_tuple_hash_1 _))))
 (show wpAny _ _ (Builtin.Tuple.tupleItemsOf (.ref a) >>= _) _ _ s)
 (refine wpAny_bind (wpAny_tupleItemsOf ho hd ?_))
 refine wpAny_bind ?_
 rw [←Array.forIn_toList]
 refine wpAny_forIn_list _
  (fun rest (b:Array Int) s'=>∃done left,ds=done++left∧jV prog w A.in1 K J left rest∧b.toList=cB done∧s'={s with toks:=s.toks + eS done})
  _ ?_ ?_ _ _ ⟨[],ds,rfl,hl,rfl,rfl⟩
 ·(rintro x rest b s' ⟨done,left,rfl,hl,hb,rfl⟩)
  cases hl with
  | @cons k _ ks' _ h1 hl'=>
   refine wpAny_bind (h1 _ _ _ ⟨N.t,N.l,N.e,N.d⟩ ?_)
   have e1:(b.push (bO k)).toList=cB (done++[k]):=by rw [Array.toList_push,qM,hb];rfl
   have e2:s.toks + eS done + jP k=s.toks + eS (done++[k]):=by rw [qy];show _=s.toks + (eS done + (jP k + 0));omega
   first
    | exact wpAny_pure ⟨done++[k],ks',by simp,hl',e1,by rw [e2]⟩
    | exact wpAny_bind (wpAny_pure (wpAny_pure ⟨done++[k],ks',by simp,hl',e1,by rw [e2]⟩))
 ·(rintro b s' ⟨done,left,rfl,hl,hb,rfl⟩)
  cases hl
  rw [List.append_nil] at h
  (show wpAny _ _ (retInt (Builtin.Tuple.tupleHashOf b.toList)) _ _ _)
  rw [hb]
  refine wpAny_ret_mkInt ?_
  show wpAny _ _ (if (decide (-(2:Int) ^ 63≤Builtin.Tuple.tupleHashOf (cB done)) && decide (Builtin.Tuple.tupleHashOf (cB done) < 2 ^ 63))=true then _ else _) Q E _
  unfold reduceHash at h
  by_cases hr:(decide (-(2:Int) ^ 63≤Builtin.Tuple.tupleHashOf (cB done)) && decide (Builtin.Tuple.tupleHashOf (cB done) < 2 ^ 63))=true
  ·rw [if_pos hr]
   rw [if_pos hr] at h
   (exact wpAny_pure (by simpa [Nat.add_assoc] using h))
  ·rw [if_neg hr]
   rw [if_neg hr] at h
   (exact wpAny_bind (wpAny_rule (wpAny_pure (by simpa [Nat.add_assoc] using h))))
mutual
theorem sP:∀(d:D) (v:V) (u:Value) (A:Around) (s:Shared),HF K J s→isKey d=true→Rep K J d v→RelV v u→A.units + dep d < cLine→A4 prog w A K J d u
 | .int i,v,u,A,s,N,hk,hr,rv,hu=>fun E s' Q N' h=>by
  cases hr
  obtain ⟨t,rfl⟩:=rv
  exact wpAny_pyHash_int h
 | .tup ds,v,u,A,s,N,hk,hr,rv,hu=>fun E s' Q N' h=>by
  cases hr with
  | tup h1 hs=>
   cases rv
   obtain ⟨its,r,o,ho,hc,n,hd⟩:=N'.t _ _ h1
   exact Dg N' ho hc hd (by unfold dep at hu;omega) (xY ds _ _ A.in1 s N hk hs r (by rw [in1_units];unfold dep at hu;omega)) h
 | .non,v,u,A,s,N,hk,hr,rv,hu=>nomatch hk
 | .bl _,v,u,A,s,N,hk,hr,rv,hu=>nomatch hk
 | .str _,v,u,A,s,N,hk,hr,rv,hu=>nomatch hk
 | .lst _,v,u,A,s,N,hk,hr,rv,hu=>nomatch hk
 | .emp,v,u,A,s,N,hk,hr,rv,hu=>nomatch hk
 | .exn _ _ _,v,u,A,s,N,hk,hr,rv,hu=>nomatch hk
 | .dct _ _,v,u,A,s,N,hk,hr,rv,hu=>nomatch hk
theorem xY:∀(ds:List D) (vs:List V) (us:List Value) (A:Around) (s:Shared),HF K J s→areKeys ds=true→aG K J ds vs→Vals vs us→A.units + deps ds < cLine→jV prog w A K J ds us
 | [],vs,us,A,s,N,hk,hr,rv,hu=>by
  cases hr;cases rv;exact .nil
 | d::ds,vs,us,A,s,N,hk,hr,rv,hu=>by
  unfold areKeys at hk
  rw [Bool.and_eq_true] at hk
  unfold deps at hu
  cases hr with
  | cons a b=>
   cases rv with
   | cons c e=>exact .cons (sP d _ _ A s N hk.1 a c (by omega)) (xY ds _ _ A s N hk.2 b e (by omega))
end
end
def iu (K:PySem.W.Frag) (J:Hp) (n:Nat) (u:Value):Prop:=∃d v,isKey d=true∧dep d≤n∧Rep K J d v∧RelV v u
section
variable {prog:Program}{w:World}{E:Value→Shared→Prop}{K:PySem.W.Frag}{J:Hp}{A:Around}{s:Shared}
theorem wH {n:Nat}:∀{ds:List D}{vs:List V}{us:List Value},areKeys ds=true→deps ds≤n→aG K J ds vs→Vals vs us→∀u∈us,iu K J n u
 | _,_,_,_,_,.nil,.nil=>fun u h=>nomatch h
 | d::ds,_,_,hk,hn,.cons a b,.cons c e=>fun u h=>by
  unfold areKeys at hk
  rw [Bool.and_eq_true] at hk
  unfold deps at hn
  (rcases List.mem_cons.mp h with rfl | h)
  ·exact ⟨d,_,hk.1,by omega,a,c⟩
  ·exact wH hk.2 (by omega) b e u h
theorem iu.cases' {n:Nat}{u:Value}(N:HF K J s) (h:iu K J n u):(∃i t,u=.int i t)∨∃a o its m k,u=.ref a∧s.heap.get? a=some o∧o.cls=.type "tuple"∧o.data=.seq its m∧n=k + 1∧∀y∈its.toList,iu K J k y:=by
 obtain ⟨d,v,hk,hn,hr,rv⟩:=h
 cases d with
 | int i=>
  cases hr
  obtain ⟨t,rfl⟩:=rv
  exact .inl ⟨_,_,rfl⟩
 | tup ds=>
  cases hr with
  | tup h1 hs=>
   cases rv
   obtain ⟨its,r,o,ho,hc,m,hd⟩:=N.t _ _ h1
   unfold dep at hn
   obtain ⟨k,rfl⟩:∃k,n=k + 1:=⟨n - 1,by omega⟩
   exact .inr ⟨_,o,_,m,k,rfl,ho,hc,hd,rfl,wH hk (by omega) hs r⟩
 | _=>cases hk
theorem l_:∀(n:Nat){u:Value}{Q:Bool→Shared→Prop},HF K J s→iu K J n u→Q true s→wpAny (model prog w) A (eqIsQuiet n u) Q E s
 | n,u,Q,N,hk,h=>by
  rcases hk.cases' N with ⟨i,t,rfl⟩ | ⟨a,o,its,m,k,rfl,ho,hc,hd,rfl,hi⟩
  ·rw [eqIsQuiet_byValue _ rfl]
   exact wpAny_pure h
  ·have hT:s.TypeIs (.ref a) "tuple":=⟨o,ho,hc⟩
   unfold eqIsQuiet
   (refine wpAny_bind (wpAny_specialOf hT F.slot_tuple_eq.lookup ?_))
   (show wpAny _ _ (isInstance (.ref a) (.type "tuple") >>= _) _ _ s)
   (refine wpAny_bind (wpAny_isInstance hT isSubtype_tuple_tuple ?_))
   (simp only [Bool.not_true,Bool.false_eq_true,if_false])
   (refine wpAny_bind (wpAny_seqItems ho hd ?_))
   refine wpAny_bind ?_
   show wpAny _ _ (forIn its _ _) _ _ s
   rw [←Array.forIn_toList]
   refine wpAny_forIn_list _ (fun rest r s'=>r.1=none∧s=s'∧∀v∈rest,iu K J k v) _ ?_ ?_ _ _ ⟨rfl,rfl,hi⟩
   ·(rintro v rest r s' ⟨hr,rfl,hall⟩)
    refine wpAny_bind (l_ k N (hall v List.mem_cons_self) ?_)
    (simp only [Bool.not_true,Bool.false_eq_true,if_false])
    (exact wpAny_pure ⟨rfl,rfl,fun u hu'=>hall u (List.mem_cons_of_mem _ hu')⟩)
   ·(rintro ⟨r1,r2⟩ s' ⟨hr,rfl,_⟩)
    simp only at hr
    subst hr
    exact wpAny_pure h
theorem Ce:∀(n:Nat){u:Value}{Q:Bool→Shared→Prop},HF K J s→iu K J n u→Q true s→wpAny (model prog w) A (hashByValue n u) Q E s
 | n,u,Q,N,hk,h=>by
  rcases hk.cases' N with ⟨i,t,rfl⟩ | ⟨a,o,its,m,k,rfl,ho,hc,hd,rfl,hi⟩
  ·cases n <;> exact wpAny_pure h
  ·have hT:s.TypeIs (.ref a) "tuple":=⟨o,ho,hc⟩
   unfold hashByValue
   (refine wpAny_bind (wpAny_specialOf hT F.slot_tuple_hash.lookup ?_))
   show wpAny _ _ (seqItems? (.ref a) >>= _) _ _ s
   (refine wpAny_bind (wpAny_seqItems ho hd ?_))
   refine wpAny_bind ?_
   show wpAny _ _ (forIn its _ _) _ _ s
   rw [←Array.forIn_toList]
   refine wpAny_forIn_list _ (fun rest r s'=>r.1=none∧s=s'∧∀v∈rest,iu K J k v) _ ?_ ?_ _ _ ⟨rfl,rfl,hi⟩
   ·(rintro v rest r s' ⟨hr,rfl,hall⟩)
    refine wpAny_bind (Ce k N (hall v List.mem_cons_self) ?_)
    (simp only [Bool.not_true,Bool.false_eq_true,if_false])
    (exact wpAny_pure ⟨rfl,rfl,fun u hu'=>hall u (List.mem_cons_of_mem _ hu')⟩)
   ·(rintro ⟨r1,r2⟩ s' ⟨hr,rfl,_⟩)
    simp only at hr
    subst hr
    exact wpAny_pure h
theorem lV:∀(n:Nat){u:Value}{Q:Bool→Shared→Prop},HF K J s→iu K J n u→Q false s→wpAny (model prog w) A (ofAClassStatement n u) Q E s
 | n,u,Q,N,hk,h=>by
  rcases hk.cases' N with ⟨i,t,rfl⟩ | ⟨a,o,its,m,k,rfl,ho,hc,hd,rfl,hi⟩
  ·cases n <;> exact wpAny_pure h
  ·have hT:s.TypeIs (.ref a) "tuple":=⟨o,ho,hc⟩
   unfold ofAClassStatement
   (refine wpAny_bind (wpAny_typeOf hT ?_))
   dsimp only
   (refine wpAny_bind (wpAny_pure ?_))
   (simp only [Bool.not_true,Bool.false_eq_true,if_false])
   (refine wpAny_bind (wpAny_seqItems ho hd ?_))
   dsimp only
   refine wpAny_bind ?_
   show wpAny _ _ (forIn its _ _) _ _ s
   rw [←Array.forIn_toList]
   refine wpAny_forIn_list _ (fun rest r s'=>r.1=none∧s=s'∧∀v∈rest,iu K J k v) _ ?_ ?_ _ _ ⟨rfl,rfl,hi⟩
   ·(rintro v rest r s' ⟨hr,rfl,hall⟩)
    refine wpAny_bind (lV k N (hall v List.mem_cons_self) ?_)
    (simp only [Bool.false_eq_true,if_false])
    (exact wpAny_pure ⟨rfl,rfl,fun u hu'=>hall u (List.mem_cons_of_mem _ hu')⟩)
   ·(rintro ⟨r1,r2⟩ s' ⟨hr,rfl,_⟩)
    simp only at hr
    subst hr
    exact wpAny_pure h
theorem Kn {x:Value}{ys:List Value}{Q:Bool→Shared→Prop}(N:HF K J s) (hx:iu K J 8 x) (hy:∀y∈ys,iu K J 8 y) (h:Q false s):wpAny (model prog w) A (searchCouldBeSeen x ys) Q E s:=by
 unfold searchCouldBeSeen
 refine wpAny_bind ?_
 refine wpAny_forIn_list _ (fun rest r s'=>r.1=none∧s=s'∧∀v∈rest,iu K J 8 v) _ ?_ ?_ _ _ ⟨rfl,rfl,hy⟩
 ·(rintro v rest r s' ⟨hr,rfl,hall⟩)
  have nx:∀u∈rest,iu K J 8 u:=fun u hu'=>hall u (List.mem_cons_of_mem _ hu')
  dsimp only
  have hv:=hall v List.mem_cons_self
  split
  ·split
   ·exact wpAny_pure ⟨rfl,rfl,nx⟩
   ·refine wpAny_bind (l_ 8 N hx ?_)
    (simp only [Bool.not_true,Bool.false_eq_true,if_false])
    refine wpAny_bind (l_ 8 N hv ?_)
    (simp only [Bool.not_true,Bool.false_eq_true,if_false])
    refine wpAny_bind (lV 8 N hx ?_)
    (simp only [Bool.false_eq_true,if_false])
    refine wpAny_bind (lV 8 N hv ?_)
    (simp only [Bool.false_eq_true,if_false])
    exact wpAny_pure ⟨rfl,rfl,nx⟩
  ·split
   ·exact wpAny_pure ⟨rfl,rfl,nx⟩
   ·refine wpAny_bind (l_ 8 N hx ?_)
    (simp only [Bool.not_true,Bool.false_eq_true,if_false])
    refine wpAny_bind (l_ 8 N hv ?_)
    (simp only [Bool.not_true,Bool.false_eq_true,if_false])
    refine wpAny_bind (lV 8 N hx ?_)
    (simp only [Bool.false_eq_true,if_false])
    refine wpAny_bind (lV 8 N hv ?_)
    (simp only [Bool.false_eq_true,if_false])
    exact wpAny_pure ⟨rfl,rfl,nx⟩
 ·(rintro ⟨r1,r2⟩ s' ⟨hr,rfl,_⟩)
  simp only at hr
  subst hr
  exact wpAny_pure h
end
end DL
namespace DL
open PySem PySem.Spec PyProof.Rows L2 ST
def KV (K:PySem.W.Frag) (J:Hp) (u:Value) (d:D):Prop:=(∃a,u=.ref a)∧isKey d=true∧dep d≤8∧∃v,Rep K J d v∧RelV v u
theorem KV.key {K:PySem.W.Frag}{J:Hp}{u:Value}{d:D}(h:KV K J u d):iu K J 8 u:=let ⟨_,a,b,v,c,e⟩:=h;⟨d,v,a,b,c,e⟩
inductive eV (K:PySem.W.Frag) (J:Hp):List (Int×Value)→List D→Prop
 | nil:eV K J [] []
 | cons {h:Int}{x:Value}{d:D}{es:List (Int×Value)}{ks:List D}:h=bO d→KV K J x d→eV K J es ks→eV K J ((h,x)::es) (d::ks)
section
variable {K:PySem.W.Frag}{J:Hp}
theorem eV.length {es:List (Int×Value)}{ks:List D}(h:eV K J es ks):es.length=ks.length:=by
 induction h with
 | nil=>rfl
 | cons _ _ _ ih=>simp [ih]
theorem eV.at_ {es:List (Int×Value)}{ks:List D}(h:eV K J es ks):∀{i:Nat}{e:Int×Value},es[i]?=some e→∃d,ks[i]?=some d∧KV K J e.2 d∧e.1=bO d:=by
 induction h with
 | nil=>intro i e q;simp at q
 | @cons hh x d es ks h1 h2 _ ih=>
  intro i e q
  cases i with
  | zero=>simp at q;subst q;exact ⟨d,rfl,h2,h1⟩
  | succ i=>simp at q;obtain ⟨d',a,b⟩:=ih q;exact ⟨d',by simpa using a,b⟩
theorem eV.mem {es:List (Int×Value)}{ks:List D}(h:eV K J es ks):∀e∈es,∃d∈ks,KV K J e.2 d∧e.1=bO d:=fun e he=>by
 obtain ⟨i,hi⟩:=List.mem_iff_getElem?.mp he
 obtain ⟨d,h1,h2⟩:=h.at_ hi
 exact ⟨d,List.mem_of_getElem? h1,h2⟩
theorem eV.back {es:List (Int×Value)}{ks:List D}(h:eV K J es ks){i:Nat}{d:D}(q:ks[i]?=some d):∃e,es[i]?=some e∧KV K J e.2 d∧e.1=bO d:=by
 have hi:i < es.length:=by rw [h.length];exact (List.getElem?_eq_some_iff.mp q).1
 obtain ⟨d',h1,h2⟩:=h.at_ (List.getElem?_eq_getElem hi)
 rw [q] at h1;cases h1
 exact ⟨_,List.getElem?_eq_getElem hi,h2⟩
theorem eV.perm {es es':List (Int×Value)}(p:es.Perm es'):∀{ks:List D},eV K J es ks→∃ks',ks.Perm ks'∧eV K J es' ks':=by
 induction p with
 | nil=>intro ks h;exact ⟨ks,.refl _,h⟩
 | cons x _ ih=>
  intro ks h
  cases h with
  | cons h1 h2 h3=>obtain ⟨ks',a,b⟩:=ih h3;exact ⟨_,a.cons _,.cons h1 h2 b⟩
 | swap x y l=>
  intro ks h
  cases h with
  | cons h1 h2 h3=>cases h3 with
   | cons h4 h5 h6=>exact ⟨_,.swap _ _ _,.cons h4 h5 (.cons h1 h2 h6)⟩
 | trans _ _ ih1 ih2=>
  intro ks h
  obtain ⟨k1,a,b⟩:=ih1 h
  obtain ⟨k2,c,d⟩:=ih2 b
  exact ⟨k2,a.trans c,d⟩
end
theorem cD {t:SetTable}{es:Array (Int×Value)}{L:List (Nat×Int×Value)}(T:Tab t es L):t.fits es.size=true:=by
 have h1:t.place.size=L.length:=by rw [←Array.length_toList,T.pl,List.length_map]
 have h2:es.size=L.length:=by rw [←Array.length_toList,T.en,List.length_map]
 have h3:t.fill=L.length:=by unfold SetTable.fill;rw [T.dm,h1];rfl
 unfold SetTable.fits
 rw [h1,h2,h3]
 simp [T.fl]
theorem G8 {t:SetTable}{es:Array (Int×Value)}{L:List (Nat×Int×Value)}(T:Tab t es L):t.gaveWay=false:=by
 unfold SetTable.gaveWay
 rcases T.mo with h | h | h <;> rw [h] <;> rfl
section
variable {prog:Program}{w:World}{E:Value→Shared→Prop}{K:PySem.W.Frag}{J:Hp}{A:Around}{s:Shared}
theorem search {a:Addr}{o:Obj}{es:Array (Int×Value)}{ep:Nat}{t:SetTable}{L:List (Nat×Int×Value)}{ks:List D}{x:Value}{d:D}{Q:SetFound→Shared→Prop}(N:HF K J s) (ho:s.heap.get? a=some o) (hd:o.data=.set es ep t) (T:Tab t es L) (en:eV K J es.toList ks)
  (hx:KV K J x d) (hu:A.units + 8 < cLine) (n0:Nat) (hf:pos t.mask (bO d) n0∉L.map (·.1)) (hb:∀m,m < n0→pos t.mask (bO d) m∈L.map (·.1)) (hn0:n0≤10 * (t.mask + 12))
  (q1:d∈ks→Q (.there none) s) (q2:d∉ks→Q (.free (pos t.mask (bO d) n0) false) s):
  ∀(fuel n:Nat) (stand:Option SetTable.Probe),n≤n0→n0 - n < fuel→stand.getD (t.probeStart (bO d))=st t.mask (bO d) n→(∀k,k < n→∀(i:Nat) (e:Nat×Int×Value),L[i]?=some e→e.1=pos t.mask (bO d) k→ks[i]?≠some d)→
   wpAny (model prog w) A (setSearchFrom a x (bO d) true fuel stand) Q E s
 | 0,n,stand,h1,h2,h3,h4=>absurd h2 (Nat.not_lt_zero _)
 | fuel + 1,n,stand,h1,h2,h3,h4=>by
  have esL:∀i,es[i]?=(L[i]?).map (fun e:Nat×Int×Value=>e.2):=fun i=>by rw [←Array.getElem?_toList,T.en,List.getElem?_map]
  unfold setSearchFrom
  refine wpAny_bind (wpAny_setState_of ho hd (cD T) ?_)
  dsimp only
  rw [G8 T]
  (simp only [Bool.false_eq_true,if_false])
  rw [h3]
  obtain ⟨m,m1,m2,m3,m4⟩:=w5 T (fun i=>(es[i]?.map (·.1)).getD 0) (fun i e q=>by rw [q];rfl) (bO d) n0 hf hb (n0 - n) n (10 * SetTable.turns t.mask) rfl h1 (by unfold SetTable.turns;omega)
  generalize hP:SetTable.probe t _ (bO d) (st t.mask (bO d) n)=r
  rcases m4 with ⟨rfl,m4⟩ | ⟨m5,i,e,m6,m7,m8,m4⟩
  ·have:r=_:=hP.symm.trans m4
   subst this
   dsimp only
   refine wpAny_pure (q2 fun hm=>?_)
   obtain ⟨i,hi⟩:=List.mem_iff_getElem?.mp hm
   obtain ⟨e,e1,e2,e3⟩:=en.back hi
   rw [Array.getElem?_toList,esL] at e1
   obtain ⟨e',e4,rfl⟩:=Option.map_eq_some_iff.mp e1
   have hm':=List.mem_of_getElem? e4
   obtain ⟨k,k1,k2⟩:=T.pr _ hm'
   rw [e3] at k1 k2
   have kl:k < m:=by
    rcases Nat.lt_trichotomy k m with c | c | c
    ·exact c
    ·subst c;rw [k1] at hf;exact absurd (List.mem_map.mpr ⟨_,hm',rfl⟩) hf
    ·exact absurd (k2 m c) hf
   by_cases c:k < n
   ·exact h4 k c i e' e4 k1.symm hi
   ·exact m3 k (by omega) kl e' hm' k1.symm e3
  ·have:r=_:=hP.symm.trans m4
   subst this
   dsimp only
   have hei:es[i]?=some e.2:=by rw [esL,m6];rfl
   obtain ⟨d',f1,f2,f3⟩:=en.at_ (by rw [Array.getElem?_toList];exact hei)
   obtain ⟨⟨ya,g0⟩,g1,g2',v',g3,g4⟩:=id f2
   obtain ⟨_,x1,x2,v,x3,x4⟩:=id hx
   obtain ⟨j,hh,y⟩:=e
   dsimp only at g0 g4 m7 m8 hei
   subst g0
   have cmp:=lM N A g3 x3 g4 x4 (by omega) (by omega) (by omega)
   have pass:∀(k:Sem SetFound),wpAny (model prog w) A k Q E s→wpAny (model prog w) A (if (!t.led)=true then do
     let c ←searchCouldBeSeen x (List.map (fun x=>x.snd) (Array.filter (fun x=>x.fst == bO d) es).toList)
     if c=true then do unsupported "set:the-search-would-show-the-table";k else k
     else k) Q E s:=fun k hk=>by
    split
    ·refine wpAny_bind (Kn N hx.key (fun y hy=>?_) ?_)
     ·obtain ⟨e',he',rfl⟩:=List.mem_map.mp hy
      have:e'∈es.toList:=by
       rw [Array.toList_filter] at he'
       exact (List.mem_filter.mp he').1
      obtain ⟨d2,_,h2,_⟩:=en.mem e' this
      exact h2.key
     ·(simp only [Bool.false_eq_true,if_false])
      exact hk
    ·exact hk
   refine pass _ ?_
   rw [hei]
   dsimp only
   refine wpAny_bind (wpAny_holding (cmp _ _ _ _ ?_))
   refine wpAny_bind (wpAny_setState_of ho hd (cD T) ?_)
   dsimp only
   by_cases c:bq d' d=true
   ·rw [c]
    (simp only [Bool.and_self,if_true])
    refine wpAny_pure (q1 ?_)
    rw [←wI g1 x1 c]
    exact List.mem_of_getElem? f1
   ·rw [Bool.not_eq_true] at c
    rw [c]
    have sm:t.sameMemory t.moves t.mask=some true:=by unfold SetTable.sameMemory;simp
    have sl:t.slot (pos t.mask (bO d) m)=.live i:=oH T.sop (by rw [←m7];exact (T.at_ m6).1)
    rw [sm]
    simp only [Bool.and_false,Bool.false_eq_true,if_false,if_true]
    rw [sl]
    dsimp only
    rw [hei]
    dsimp only
    refine wpAny_bind (wpAny_isSame_ref_self ?_)
    simp only [if_true]
    (refine wpAny_bind (wpAny_pure ?_))
    dsimp only
    refine search N ho hd T en hx hu n0 hf hb hn0 q1 q2 fuel (m + 1) _ (by omega) (by omega) rfl fun k hk i2 e2 z1 z2 z3=>?_
    by_cases c1:k < n
    ·exact h4 k c1 i2 e2 z1 z2 z3
    ·by_cases c2:k < m
     ·obtain ⟨dd,w1,_,w3⟩:=en.at_ (i:=i2) (e:=e2.2) (by rw [Array.getElem?_toList,esL,z1];rfl)
      rw [z3] at w1;cases w1
      exact m3 k (by omega) c2 e2 (List.mem_of_getElem? z1) z2 w3
     ·obtain rfl:k=m:=by omega
      have hi2:i2=i:=by
       obtain ⟨p1,p2⟩:=List.getElem?_eq_some_iff.mp z1
       obtain ⟨p3,p4⟩:=List.getElem?_eq_some_iff.mp m6
       have sw:=List.pairwise_iff_getElem.mp T.so
       rcases Nat.lt_trichotomy i2 i with c | c | c
       ·have:=sw i2 i (by simpa using p1) (by simpa using p3) c
        simp [p2,p4] at this
        omega
       ·exact c
       ·have:=sw i i2 (by simpa using p3) (by simpa using p1) c
        simp [p2,p4] at this
        omega
      subst hi2
      rw [f1] at z3
      cases z3
      rw [fS] at c
      exact absurd c (by decide)
end
structure iU (K:PySem.W.Frag) (J:Hp) (h:Heap) (a:Addr) (led:Bool) (ks:List D) (es:Array (Int×Value)) (ep:Nat) (t:SetTable):Prop where
 at_:h.get? a=some {cls:=.type "set",dict:=none,data:=.set es ep t}
 tab:∃L,Tab t es L
 pl:t.plain=true
 ld:t.led=led
 rm:ks.length * 5 < t.mask * 3
 en:eV K J es.toList ks
 nd:ks.Nodup
theorem Bu (mask i:Nat) (h:i≤mask):i + (SetTable.runEnd mask i - i)≤mask:=by unfold SetTable.runEnd;split <;> omega
theorem EY (mask:Nat) (h:Int):∀n,(ST.st mask h n).j + (ST.st mask h n).more≤mask
 | 0=>Bu mask _ (Nat.le_of_lt_succ (Nat.mod_lt _ (by omega)))
 | n + 1=>by
  have ih:=EY mask h n
  show (SetTable.advance _ (ST.st mask h n)).j + (SetTable.advance _ (ST.st mask h n)).more≤mask
  unfold SetTable.advance
  split
  ·dsimp only;omega
  ·exact Bu mask _ (Nat.le_of_lt_succ (Nat.mod_lt _ (by omega)))
theorem wZ (mask:Nat) (h:Int) (n:Nat):ST.pos mask h n≤mask:=by have:=EY mask h n;show (ST.st mask h n).j≤mask;omega
theorem yF:SetTable.sizeAbove 20=32:=by decide +kernel
theorem yG:SetTable.sizeAbove 76=128:=by decide +kernel
theorem mD {t:SetTable}{es:Array (Int×Value)}{L:List (Nat×Int×Value)}(T:Tab t es L):L.length=es.size:=by rw [←Array.length_toList,T.en,List.length_map]
section
variable {prog:Program}{w:World}{E:Value→Shared→Prop}{K:PySem.W.Frag}{J:Hp}{A:Around}{s:Shared}
theorem K8 {a:Addr}{es:Array (Int×Value)}{ep:Nat}{t:SetTable}{led:Bool}{L:List (Nat×Int×Value)}{ks:List D}{Q:Unit→Shared→Prop}(ho:s.heap.get? a=some {cls:=.type "set",dict:=none,data:=.set es ep t}) (T:Tab t es L) (hp:t.plain=true) (hl:t.led=led)
  (en:eV K J es.toList ks) (nd:ks.Nodup) (W:Nat) (hW:(SetTable.sizeAbove W=32∧ks.length=5)∨(SetTable.sizeAbove W=128∧ks.length=19))
  (h:∀(h':Heap) ks' es' ep' t',Heap.SameBut a s.heap h'→ks.Perm ks'→iU K J h' a led ks' es' ep' t'→Q () {s with heap:=h'}):wpAny (model prog w) A (setRelay a W) Q E s:=by
 have hsz:es.size=ks.length:=by rw [←Array.length_toList,en.length]
 have hm:kM (SetTable.sizeAbove W - 1):=by rcases hW with ⟨h,_⟩ | ⟨h,_⟩ <;> rw [h];exact .inr (.inl rfl);exact .inr (.inr rfl)
 obtain ⟨t',order,L',e1,e2,e3,e4,e5,e6⟩:=tX (t:=t) (es:=es) hm (by rcases hW with ⟨h,_⟩ | ⟨h,_⟩ <;> rw [h] <;> omega)
 unfold setRelay
 refine wpAny_bind (wpAny_setState_of ho rfl (cD T) ?_)
 dsimp only
 rw [if_neg (by rw [sizeLine_eq];rcases hW with ⟨h,_⟩ | ⟨h,_⟩ <;> rw [h] <;> omega)]
 have sz':(order.filterMap (es[·]?)).size=es.size:=by
  rw [←Array.length_toList,e6.length_eq,Array.length_toList]
 rw [e1]
 have cnd:((order.filterMap (es[·]?)).size != es.size)=false:=by rw [sz'];simp
 refine wpAny_bind (wpAny_of_eq (a:=(order.filterMap (es[·]?),t')) ?_ ?_)
 ·show (if ((order.filterMap (es[·]?)).size != es.size)=true then _ else pure (order.filterMap (es[·]?),t'))=_
  rw [cnd]
  rfl
 ·dsimp only
  obtain ⟨ks',p1,p2⟩:=en.perm e6.symm
  refine wpAny_storeSet_of ho rfl ?_ (by rw [sz',sizeLine_eq];rcases hW with ⟨_,h⟩ | ⟨_,h⟩ <;> omega)
  have hg:=Heap.get?_update_self (Obj.putSet (order.filterMap (es[·]?)) t') ho rfl
  refine h _ ks' _ _ _ (Heap.SameBut.update _ _ _) p1 ⟨hg,⟨L',e5⟩,e4.trans hp,e3.trans hl,?_,p2,p1.nodup_iff.mp nd⟩
  rw [←p1.length_eq,e2]
  rcases hW with ⟨h,h'⟩ | ⟨h,h'⟩ <;> rw [h,h'] <;> omega
theorem E7 {a:Addr}{es:Array (Int×Value)}{ep:Nat}{t:SetTable}{led:Bool}{ks:List D}{x:Value}{d:D}{Q:Bool→Shared→Prop}(N:HF K J s) (S:iU K J s.heap a led ks es ep t) (hx:KV K J x d) (hu:A.units + 8 < cLine) (hl:ks.length < 76)
  (q1:d∈ks→Q false s) (q2:d∉ks→∀(h':Heap) ks' es' ep' t',Heap.SameBut a s.heap h'→(d::ks).Perm ks'→iU K J h' a led ks' es' ep' t'→Q true {s with heap:=h'}):
  wpAny (model prog w) A (setAddHashed a x (bO d)) Q E s:=by
 obtain ⟨L,T⟩:=S.tab
 have lenL:L.length=ks.length:=by rw [mD T,←Array.length_toList,S.en.length]
 obtain ⟨n0,b1,b2,b3⟩:=qC T.mo (bO d) (L.map (·.1)) (by rw [List.length_map];exact T.fl)
 have hj:pos t.mask (bO d) n0≤t.mask:=wZ _ _ _
 (unfold setAddHashed setAddHashedIn)
 refine wpAny_holding (wpAny_bind (wpAny_setState_of S.at_ rfl (cD T) ?_))
 dsimp only
 have ns:byScan x es=false:=by
  obtain ⟨⟨xa,rfl⟩,_⟩:=hx
  rfl
 rw [ns]
 (simp only [Bool.false_eq_true,if_false])
 unfold setSearch
 refine wpAny_bind (search N S.at_ rfl T S.en hx hu n0 b2 b3 b1 (fun hm=>?_) (fun hm=>?_) 100000 0 none (Nat.zero_le _) (by rcases T.mo with h | h | h <;> rw [h] at b1 <;> omega) rfl (fun k hk=>absurd hk (Nat.not_lt_zero _)))
 ·exact wpAny_pure (q1 hm)
 ·dsimp only
  refine wpAny_bind (wpAny_setState_of S.at_ rfl (cD T) ?_)
  dsimp only
  obtain ⟨L',T',pm⟩:=T.put (bO d) x n0 b2 b3 hj (by have:=S.rm;rcases T.mo with h | h | h <;> rw [h] at this <;> omega)
  have fl:(t.put (pos t.mask (bO d) n0)).1.mask=t.mask∧(t.put (pos t.mask (bO d) n0)).1.plain=t.plain∧(t.put (pos t.mask (bO d) n0)).1.led=t.led:=⟨rfl,rfl,rfl⟩
  generalize t.put (pos t.mask (bO d) n0)=tp at T' fl ⊢
  obtain ⟨t',p⟩:=tp
  dsimp only at T' fl ⊢
  obtain ⟨f1,f2,f3⟩:=fl
  have en':∃ks',(d::ks).Perm ks'∧eV K J (SetTable.insertAt es p (bO d,x)).toList ks':=by
   refine eV.perm (es:=(bO d,x)::es.toList) ?_ (.cons rfl hx S.en)
   rw [T'.en,T.en]
   have:=pm.map (·.2)
   exact this.symm
  obtain ⟨ks',p1,p2⟩:=en'
  have nd':ks'.Nodup:=p1.nodup_iff.mp (List.nodup_cons.mpr ⟨hm,S.nd⟩)
  have lk:ks'.length=ks.length + 1:=by rw [←p1.length_eq];rfl
  rw [f2,S.pl]
  simp only [if_true]
  refine wpAny_bind (Ce 8 N hx.key ?_)
  simp only [if_true]
  have esz:(SetTable.insertAt es p (bO d,x)).size=ks'.length:=by rw [←Array.length_toList,p2.length]
  refine wpAny_bind (wpAny_storeSet_of S.at_ rfl ?_ (by rw [esz,sizeLine_eq];omega))
  have hg:=Heap.get?_update_self (Obj.putSet (SetTable.insertAt es p (bO d,x)) t') S.at_ rfl
  have hfill:t'.fill=ks'.length:=by
   unfold SetTable.fill
   rw [T'.dm,←Array.length_toList,T'.pl,List.length_map,mD T',esz]
   rfl
  have hes:es.size=ks.length:=by rw [←Array.length_toList,S.en.length]
  split
  ·rename_i c
   simp only [Bool.not_false,Bool.true_and] at c
   unfold SetTable.tooFull at c
   rw [hfill,f1,decide_eq_true_eq] at c
   have rm:=S.rm
   refine wpAny_bind (K8 (s:={s with heap:=s.heap.update a (Obj.putSet (SetTable.insertAt es p (bO d,x)) t')}) hg T' (f2.trans S.pl) (f3.trans S.ld) p2 nd' _ ?_ fun h' ks2 es2 ep2 t2 g1 g2' g3=>?_)
   ·rw [hes]
    unfold SetTable.grown
    rw [if_neg (by omega)]
    rcases T.mo with h | h | h
    ·rw [h] at c rm
     have:ks.length + 1=5:=by omega
     rw [this]
     exact .inl ⟨yF,by omega⟩
    ·rw [h] at c rm
     have:ks.length + 1=19:=by omega
     rw [this]
     exact .inr ⟨yG,by omega⟩
    ·rw [h] at c;omega
   ·exact wpAny_pure (q2 hm h' ks2 es2 ep2 t2 ((Heap.SameBut.update _ _ _).trans g1) (p1.trans g2') g3)
  ·rename_i c
   simp only [Bool.not_false,Bool.true_and] at c
   unfold SetTable.tooFull at c
   rw [hfill,f1,decide_eq_true_eq] at c
   exact wpAny_pure (q2 hm _ ks' _ _ _ (Heap.SameBut.update _ _ _) p1 ⟨hg,⟨L',T'⟩,f2.trans S.pl,f3.trans S.ld,by rw [f1];omega,p2,nd'⟩)
end
theorem iU.keep {K:PySem.W.Frag}{J:Hp}{h h':Heap}{a:Addr}{led:Bool}{ks:List D}{es:Array (Int×Value)}{ep:Nat}{t:SetTable}(S:iU K J h a led ks es ep t) (e:∀o,h.get? a=some o→h'.get? a=some o):iU K J h' a led ks es ep t:=
 ⟨e _ S.at_,S.tab,S.pl,S.ld,S.rm,S.en,S.nd⟩
section
variable {prog:Program}{w:World}{A:Around}{R:Result→Shared→Prop}{I:Addr}{fp wr:List Addr}{G:Array GenState→Array GenState→Prop}{n:Nat}{P:Nat→Value→Prop}{St:Nat→Shared→Prop}{K:PySem.W.Frag}{J:Hp}
theorem Ew (W:WalksS prog w A.in1 I fp wr G n P St) (S:Addr) (hSf:S∉fp) (val:Nat→D) (hval:∀i v,P i v→KV K J v (val i)){s0:Shared}(N0:HF K J s0) (hnew:∀b∈S::wr,s0.heap.get? b=none) (hu:A.in1.units + 8 < cLine) (hn:n≤76){led:Bool}:
  ∀(k i:Nat) (s:Shared) (ks:List D) (es:Array (Int×Value)) (ep:Nat) (t:SetTable),n - i=k→i≤n→St i s→(∀b o,s0.heap.get? b=some o→s.heap.get? b=some o)→iU K J s.heap S led ks es ep t→(∀d,d∈ks↔d∈(List.range i).map val)→
   (∀s' ks' es' ep' t',Moved (S::wr) G s s'→iU K J s'.heap S led ks' es' ep' t'→(∀d,d∈ks'↔d∈(List.range n).map val)→R (.ok (.ret .none)) s')→
   (codeAny (model prog w) A (.builtin "set.update.loop" ⟨[.ref S,.ref I],[]⟩) R s):=by
 (have hSw:S∉wr:=fun h=>hSf (W.sub _ h))
 (have hsub:∀b∈wr,b∈S::wr:=fun b hb=>List.mem_cons_of_mem _ hb)
 have old:∀b o,s0.heap.get? b=some o→b∉S::wr:=fun b o e hm=>by rw [hnew b hm] at e;cases e
 intro k
 induction k with
 | zero=>
  intro i s ks es ep t hk hi hst hb hS hm hR
  have hin:i=n:=by omega
  subst hin
  refine codeAny_builtin PyProof.Rows.F.entry_set_update_loop ?_
  rw [Around.under_plainId PyProof.Rows.F.plain_set_update_loop _]
  (show wpAny _ A.in1 (pyNext (.ref I) >>= _) _ _ s)
  refine wpAny_bind (W.done s _ _ hst fun s' hmv=>?_)
  (show wpAny _ A.in1 (ret Value.none) _ _ s')
  exact wpAny_pure (hR s' ks es ep t (hmv.mono hsub) (hS.keep fun o e=>hmv.heap S o hSw e) hm)
 | succ k ih=>
  intro i s ks es ep t hk hi hst hb hS hm hR
  have hlt:i < n:=by omega
  have hlen:ks.length≤i:=by
   have:=List.Nodup.length_le_of_subset hS.nd (fun d hd=>(hm d).mp hd)
   simpa using this
  refine codeAny_builtin PyProof.Rows.F.entry_set_update_loop ?_
  rw [Around.under_plainId PyProof.Rows.F.plain_set_update_loop _]
  (show wpAny _ A.in1 (pyNext (.ref I) >>= _) _ _ s)
  refine wpAny_bind (W.item i s _ _ hlt hst fun v s' hP hst' hmv=>?_)
  have hx:=hval i v hP
  obtain ⟨_,x1,x2,vv,x3,x4⟩:=id hx
  have hS':=hS.keep (h':=s'.heap) fun o e=>hmv.heap S o hSw e
  have hb':∀b o,s0.heap.get? b=some o→s'.heap.get? b=some o:=fun b o e=>hmv.heap b o (fun hm=>old b o e (hsub b hm)) (hb b o e)
  have N':HF K J s':=N0.keep hb'
  have mem':∀(ks':List D),(∀d,d∈ks'↔d=val i∨d∈ks)→∀d,d∈ks'↔d∈(List.range (i + 1)).map val:=fun ks' h d=>by
   rw [h d,hm d,List.range_succ,List.map_append,List.mem_append]
   simp only [List.map_cons,List.map_nil,List.mem_singleton]
   exact Or.comm
  show wpAny _ A.in1 (holding [v] (setAdd S v) >>= _) _ _ s'
  (refine wpAny_bind (wpAny_holding ?_))
  unfold setAdd
  refine wpAny_holding ?_
  refine wpAny_bind (sP (val i) vv v A.in1 s' N' x1 x3 x4 (by omega) _ _ _ N' ?_)
  refine E7 (s:={s' with toks:=s'.toks + jP (val i)}) (⟨N'.t,N'.l,N'.e,N'.d⟩:HF K J {s' with toks:=s'.toks + jP (val i)}) hS' hx hu (by omega) (fun hin=>?_) (fun hin h' ks' es' ep' t' hsb hpm hS2=>?_)
  ·refine wpAny_pure ⟨plainId_quiet PyProof.Rows.F.plain_set_update_loop _,ih (i + 1) _ ks es ep t (by omega) hlt (W.frame _ s' _ _ hst' (Nat.le_add_right _ _) fun b hb o e=>e) hb' hS' (mem' ks fun d=>⟨.inr,fun h=>h.elim (fun h=>h▸hin) id⟩) fun s'' ks'' es'' ep'' t'' hm'' hS'' hmm=>?_⟩
   exact hR s'' ks'' es'' ep'' t'' (Moved.trans W.gtrans ((hmv.mono hsub).then_heap (Nat.le_add_right _ _) fun b o hb e=>e) hm'') hS'' hmm
  ·refine wpAny_pure ⟨plainId_quiet PyProof.Rows.F.plain_set_update_loop _,ih (i + 1) _ ks' es' ep' t' (by omega) hlt (W.frame _ s' _ _ hst' (Nat.le_add_right _ _) fun b hb o e=>?_) (fun b o e=>?_) hS2 (mem' ks' fun d=>?_) fun s'' ks'' es'' ep'' t'' hm'' hS'' hmm=>?_⟩
   ·(rw [hsb.2 b (fun h:b=S=>hSf (by rw [←h];exact hb))];exact e)
   ·show h'.get? b=some o
    rw [hsb.2 b (fun h:b=S=>old b o e (by rw [h];exact List.mem_cons_self))]
    exact hb' b o e
   ·rw [←hpm.mem_iff,List.mem_cons]
   ·refine hR s'' ks'' es'' ep'' t'' (Moved.trans W.gtrans ((hmv.mono hsub).then_heap (Nat.le_add_right _ _) fun b o hb e=>?_) hm'') hS'' hmm
    (rw [hsb.2 b (fun h:b=S=>hb (by rw [h];exact List.mem_cons_self))];exact e)
end
theorem AM {K:PySem.W.Frag}{J:Hp}{h:Heap}{a:Addr}{led:Bool}(e:h.get? a=some {cls:=.type "set",dict:=none,data:=.set #[] 0 (.fresh 0 0 led)}):iU K J h a led [] #[] 0 (.fresh 0 0 led):=
 ⟨e,⟨[],⟨rfl,rfl,rfl,List.Pairwise.nil,(fun _ h=>nomatch h),.inl rfl,Nat.zero_le _,(fun _ h=>nomatch h)⟩⟩,rfl,rfl,(show 0 * 5 < 7 * 3 by decide),.nil,List.nodup_nil⟩
end DL
namespace ST
open PySem PySem.SetTable
theorem vL {xs:Array Nat}{i j:Nat}(hs:xs.toList.Pairwise (· < ·)) (hi:i≤xs.size) (h1:∀k,k < i→xs.getD k 0 < j) (h2:∀k,i≤k→k < xs.size→j≤xs.getD k 0):below xs j=i:=by
 obtain ⟨b1,b2,b3⟩:=mO xs j hs
 rcases Nat.lt_trichotomy (below xs j) i with c | c | c
 ·have:=h1 _ c
  have:=b3 _ (Nat.le_refl _) (by omega)
  omega
 ·exact c
 ·have:=b2 _ c
  have:=h2 i (Nat.le_refl _) (by omega)
  omega
theorem zQ {xs:Array Nat}(hs:xs.toList.Pairwise (· < ·)):below xs 0=0:=vL hs (Nat.zero_le _) (fun k h=>absurd h (Nat.not_lt_zero _)) fun k _ _=>Nat.zero_le _
theorem zP {xs:Array Nat}{i j:Nat}(hs:xs.toList.Pairwise (· < ·)) (h:xs[i]?=some j):below xs (j + 1)=i + 1:=by
 obtain ⟨hi,e⟩:=Array.getElem?_eq_some_iff.mp h
 have sw:=List.pairwise_iff_getElem.mp hs
 have gd:∀k (hk:k < xs.size),xs.getD k 0=xs[k]:=fun k hk=>by simp [Array.getD,hk]
 refine vL hs (by omega) (fun k hk=>?_) (fun k h1 h2=>?_)
 ·rw [gd k (by omega)]
  by_cases c:k=i
  ·subst c;omega
  ·have:=sw k i (by simp;omega) (by simpa using hi) (by omega)
   simp at this
   omega
 ·rw [gd k h2]
  have:=sw i k (by simpa using hi) (by simpa using h2) (by omega)
  simp at this
  omega
theorem tM {α:Type}(next:Nat→Nat):∀(f k:Nat) (left:List α) (out:Array α),f=left.length→(pickOrder.go next f k left out).toList.Perm (out.toList++left)
 | 0,k,left,out,h=>by
  have:left=[]:=List.length_eq_zero_iff.mp h.symm
  subst this
  unfold pickOrder.go
  simp
 | f + 1,k,left,out,h=>by
  have hl:next k % left.length < left.length:=Nat.mod_lt _ (by omega)
  unfold pickOrder.go
  rw [List.getElem?_eq_getElem hl]
  dsimp only
  refine (tM next f (k + 1) _ _ (by rw [List.length_eraseIdx];simp [hl];omega)).trans ?_
  rw [Array.toList_push,List.append_assoc]
  (refine List.Perm.append_left _ ?_)
  have e1:left.eraseIdx (next k % left.length)=left.take (next k % left.length)++left.drop (next k % left.length + 1):=List.eraseIdx_eq_take_drop_succ _ _
  have e2:left=left.take (next k % left.length)++left[next k % left.length]::left.drop (next k % left.length + 1):=by
   rw [List.getElem_cons_drop,List.take_append_drop]
  rw [e1,List.singleton_append]
  exact (List.perm_middle.symm).trans (List.Perm.of_eq e2.symm)
theorem As {α:Type}(next:Nat→Nat) (xs:Array α):(pickOrder next xs).toList.Perm xs.toList:=by
 have h:=tM next xs.size 0 xs.toList #[] (by simp)
 rw [show (#[]:Array α).toList++xs.toList=xs.toList from rfl] at h
 exact h
end ST
namespace DL
open PySem PySem.Spec PyProof.Rows L2 ST
structure iV (h:Heap) (a:Addr) (led:Bool) (es:Array (Int×Value)) (ep:Nat) (t:SetTable):Prop where
 at_:h.get? a=some {cls:=.type "set",dict:=none,data:=.set es ep t}
 tab:∃L,Tab t es L
 pl:t.plain=true
 ld:t.led=led
theorem iV.keep {h h':Heap}{a:Addr}{led:Bool}{es:Array (Int×Value)}{ep:Nat}{t:SetTable}(S:iV h a led es ep t) (e:∀o,h.get? a=some o→h'.get? a=some o):iV h' a led es ep t:=⟨e _ S.at_,S.tab,S.pl,S.ld⟩
theorem iU.wk {K:PySem.W.Frag}{J:Hp}{h:Heap}{a:Addr}{led:Bool}{ks:List D}{es:Array (Int×Value)}{ep:Nat}{t:SetTable}(S:iU K J h a led ks es ep t):iV h a led es ep t:=⟨S.at_,S.tab,S.pl,S.ld⟩
abbrev kQ (w:World):Bool:=!w.params.followText "set-order"
def fL (w:World) (a ep:Nat) (es:Array (Int×Value)):Array (Int×Value):=if w.params.followText "set-order"=true then pickOrder (w.params.setOrder a ep) es else es
theorem ly (w:World) (a ep:Nat) (es:Array (Int×Value)):(fL w a ep es).toList.Perm es.toList:=by
 unfold fL
 split
 ·exact As _ _
 ·exact .refl _
theorem lC (w:World) (a ep:Nat) (es:Array (Int×Value)):(fL w a ep es).size=es.size:=by
 rw [←Array.length_toList,(ly w a ep es).length_eq,Array.length_toList]
abbrev nJ (a:Addr) (slot i n ep:Nat):Obj:={cls:=.type "set_iterator",data:=.fields #[.int slot 0,.int i 0,.ref a,.int n 0,.int ep 0]}
theorem qz:entryFor table "set.__iter__"=some Builtin.«frozenset.__iter__»:=
 (entryFor_alias (id':="frozenset.__iter__") (by kernel_rfl) rfl (by decide +kernel) (by kernel_rfl))
theorem fJ:Slot "set_iterator" "__next__" "set_iterator.__next__":=
 (.of (owner:="set_iterator") (n:="__next__") (by rw [typeLookup_type,builtinLookup_eq_fast];kernel_rfl) (by decide +kernel) (by decide +kernel) (by decide +kernel)
  (by first | exact .inl (by decide +kernel) | exact .inr (by decide +kernel)) (by rw [isSubtype_type];kernel_rfl))
theorem nF:entryFor table "set_iterator.__next__"=some Builtin.«set_iterator.__next__»:=(entryFor_of_tree (by kernel_rfl))
theorem nT (a:Value):argsOk "set_iterator.__next__" ⟨[a],[]⟩:=by unfold argsOk;kernel_rfl
section
variable {prog:Program}{w:World}{A:Around}{E:Value→Shared→Prop}{s:Shared}
theorem Dl {a:Addr}{led:Bool}{es:Array (Int×Value)}{ep:Nat}{t:SetTable}{Q:Value→Shared→Prop}(S:iV s.heap a led es ep t)
  (hQ:Q (.ref s.heap.objs.size) {s with heap:=s.heap.push (nJ a 0 0 es.size ep)}):wpAny (model prog w) A (pyIter (.ref a)) Q E s:=by
 obtain ⟨L,T⟩:=S.tab
 have hT:s.TypeIs (.ref a) "set":=⟨_,S.at_,rfl⟩
 refine wpAny_pyIter_slot hT F.slot_set_iter (wpAny_call_entry F.slot_set_iter hT qz ?_ (F.args_set_iter_1 _))
 show wpAny _ _ (Builtin.Frozenset.sizeOf a >>= _) _ _ s
 unfold Builtin.Frozenset.sizeOf
 refine wpAny_bind (wpAny_bind (wpAny_setEntries_of S.at_ rfl (cD T) (wpAny_pure ?_)))
 unfold setDrawn setsByText
 refine wpAny_bind (wpAny_bind (wpAny_setState_of S.at_ rfl (cD T) (wpAny_bind (wpAny_bind (wpAny_askSetting (wpAny_pure (wpAny_pure ?_)))))))
 dsimp only
 split
 ·rename_i c
  have c:(!w.params.followText "set-order" && (!t.plain && decide (es.size > 1)))=true:=c
  rw [S.pl] at c
  simp at c
 ·(refine wpAny_bind (wpAny_pure ?_))
  refine wpAny_bind (wpAny_setEpoch_of S.at_ rfl (cD T) ?_)
  (refine wpAny_bind (wpAny_newObj_type ?_))
  exact wpAny_pure ⟨_,rfl,"set_iterator",_,⟨_,Heap.get?_push_size _ rfl,rfl⟩,fJ.lookup,hQ⟩
theorem xG {a:Addr}{es:Array (Int×Value)}{ep:Nat}{t:SetTable}{slot i:Nat}{Q:Option (Value×Nat)→Shared→Prop}(S:iV s.heap a (kQ w) es ep t) (hb:w.params.followText "set-order"=false→SetTable.below t.place slot=i)
  (q1:∀e slot',(fL w a ep es)[i]?=some e→(w.params.followText "set-order"=false→SetTable.below t.place slot'=i + 1)→Q (some (e.2,slot')) s) (q2:(fL w a ep es)[i]?=none→Q none s):
  wpAny (model prog w) A (setNext a slot i ep) Q E s:=by
 obtain ⟨L,T⟩:=S.tab
 unfold setNext setsByText
 refine wpAny_bind (wpAny_setState_of S.at_ rfl (cD T) ?_)
 dsimp only
 (refine wpAny_bind (wpAny_bind (wpAny_askSetting (wpAny_pure ?_))))
 dsimp only
 cases bt:w.params.followText "set-order" with
 | true=>
  rw [show (model prog w).w.params.followText "set-order"=true from bt]
  simp only [if_true,bne_self_eq_false,Bool.false_eq_true,if_false]
  unfold setWalk setsByText
  refine wpAny_bind (wpAny_bind (wpAny_setState_of S.at_ rfl (cD T) ?_))
  dsimp only
  (refine wpAny_bind (wpAny_bind (wpAny_askSetting (wpAny_pure ?_))))
  dsimp only
  rw [show (model prog w).w.params.followText "set-order"=true from bt]
  simp only [if_true]
  refine wpAny_bind (wpAny_askSetting (wpAny_pure ?_))
  dsimp only
  have ew:fL w a ep es=pickOrder ((model prog w).w.params.setOrder a ep) es:=by unfold fL;rw [if_pos bt];rfl
  rw [ew] at q1 q2
  cases q:(pickOrder ((model prog w).w.params.setOrder a ep) es)[i]? with
  | none=>exact wpAny_pure (q2 q)
  | some e=>exact wpAny_pure (q1 e slot q fun z=>absurd (bt.symm.trans z) (by decide))
 | false=>
  rw [show (model prog w).w.params.followText "set-order"=false from bt]
  (simp only [Bool.false_eq_true,if_false])
  have ew:fL w a ep es=es:=by unfold fL;rw [if_neg (by rw [bt];decide)]
  rw [ew] at q1 q2
  have hled:t.led=true:=by rw [S.ld];show (!w.params.followText "set-order")=true;rw [bt];rfl
  split
  ·rename_i c
   have c:(!t.plain && decide (es.size > 1))=true:=c
   rw [S.pl] at c
   simp at c
  ·refine wpAny_bind (wpAny_of_eq (a:=()) ?_ ?_)
   ·show (if (!t.led && !es.isEmpty)=true then _ else pure ())=pure ()
    rw [hled]
    rfl
   ·rw [hb bt]
    cases q:es[i]? with
    | none=>exact wpAny_pure (q2 q)
    | some e=>
     have hlen:i < t.place.size:=by
      have h1:=(Array.getElem?_eq_some_iff.mp q).1
      have h2:t.place.size=es.size:=by rw [←Array.length_toList,T.pl,List.length_map,mD T]
      omega
     have ep':t.place[i]?=some t.place[i]:=Array.getElem?_eq_getElem hlen
     rw [ep']
     exact wpAny_pure (q1 e _ q fun _=>zP T.sop ep')
theorem DA {I a:Addr}{es:Array (Int×Value)}{ep:Nat}{t:SetTable}{slot i:Nat}{Q:Option Value→Shared→Prop}(hne:a≠I) (S:iV s.heap a (kQ w) es ep t) (hI:s.heap.get? I=some (nJ a slot i es.size ep)) (hb:w.params.followText "set-order"=false→SetTable.below t.place slot=i) (hi:i < es.size)
  (hQ:∀h' slot' e,(fL w a ep es)[i]?=some e→h'.get? I=some (nJ a slot' (i + 1) es.size ep)→(w.params.followText "set-order"=false→SetTable.below t.place slot'=i + 1)→Heap.SameBut I s.heap h'→Q (some e.2) {s with heap:=h'}):
  wpAny (model prog w) A (pyNext (.ref I)) Q E s:=by
 obtain ⟨L,T⟩:=S.tab
 have hT:s.TypeIs (.ref I) "set_iterator":=⟨_,hI,rfl⟩
 unfold pyNext
 refine wpAny_bind (wpAny_attempt (wpAny_callSpecial?_slot (name:=Str.ofString "__next__") hT fJ (wpAny_call_entry fJ hT nF ?_ (nT _))))
 show wpAny _ _ (fieldsOf (.ref I) >>= _) _ _ s
 refine wpAny_bind (wpAny_fieldsOf hI rfl ?_)
 dsimp only
 refine wpAny_bind (wpAny_setEntries_of S.at_ rfl (cD T) ?_)
 simp only [bne_self_eq_false,Bool.false_eq_true,if_false,Int.toNat_natCast]
 refine wpAny_bind (xG S hb (fun e slot' q1 q2=>?_) fun q=>?_)
 ·dsimp only
  refine wpAny_bind (wpAny_setField_rec hI (by simp) fun h1 g1 b1=>?_)
  refine wpAny_bind (wpAny_setField_rec (s:={s with heap:=h1}) g1 (by simp) fun h2 g2' b2=>?_)
  exact wpAny_pure ⟨_,rfl,wpAny_pure (hQ h2 slot' e q1 (g2'.trans (by simp [rawInt])) q2 (b1.trans b2))⟩
 ·exfalso
  have:=(Array.getElem?_eq_none_iff.mp q)
  rw [lC] at this
  omega
theorem Fj {I a:Addr}{es:Array (Int×Value)}{ep:Nat}{t:SetTable}{slot:Nat}{Q:Option Value→Shared→Prop}(hh:A.handled=none) (S:iV s.heap a (kQ w) es ep t) (hI:s.heap.get? I=some (nJ a slot es.size es.size ep)) (hb:w.params.followText "set-order"=false→SetTable.below t.place slot=es.size)
  (hQ:∀h',Heap.ExtBut I s.heap h'→Q none {s with heap:=h'}):wpAny (model prog w) A (pyNext (.ref I)) Q E s:=by
 obtain ⟨L,T⟩:=S.tab
 have hT:s.TypeIs (.ref I) "set_iterator":=⟨_,hI,rfl⟩
 unfold pyNext
 refine wpAny_bind (wpAny_attempt (wpAny_callSpecial?_slot (name:=Str.ofString "__next__") hT fJ (wpAny_call_entry fJ hT nF ?_ (nT _))))
 show wpAny _ _ (fieldsOf (.ref I) >>= _) _ _ s
 refine wpAny_bind (wpAny_fieldsOf hI rfl ?_)
 dsimp only
 refine wpAny_bind (wpAny_setEntries_of S.at_ rfl (cD T) ?_)
 simp only [bne_self_eq_false,Bool.false_eq_true,if_false,Int.toNat_natCast]
 refine wpAny_bind (xG S hb (fun e slot' q1 q2=>?_) fun q=>?_)
 ·exfalso
  have:=(Array.getElem?_eq_some_iff.mp q1).1
  rw [lC] at this
  omega
 ·dsimp only
  refine wpAny_bind (wpAny_setField_rec hI (by simp) fun h1 g1 b1=>?_)
  refine wpAny_bind ?_
  simp only [newExc,newTuple]
  (refine wpAny_bind (wpAny_newObj_type ?_ (by size_fits)))
  (refine wpAny_bind (m:=firstArgMember _ _) (wpAny_of_eq (a:=Value.none) (by first | rfl | (simp only [firstArgMember];rfl)) ?_))
  (refine wpAny_newObj_type ?_ (by size_fits))
  simp only [raiseNew]
  (refine wpAny_bind (wpAny_handled ?_))
  (first | rw [show A.in1.handled=none from hh] | rw [hh])
  (refine wpAny_bind (wpAny_pure (wpAny_throw ?_)))
  (refine wpAny_bind (wpAny_isInstance (T:="StopIteration") (b:=true) ⟨_,Heap.get?_push_size _ rfl,rfl⟩ isSubtype_stop ?_))
  exact wpAny_pure (hQ _ ((b1.extBut.push _).push _))
end
theorem uJ:typeLookup (.type "set") "__len__"=pure (some (.builtin "set.__len__")):=by rw [typeLookup_type,builtinLookup_eq_fast];kernel_rfl
theorem CL {M:Model}{A:Around}{E:Value→Shared→Prop}{s:Shared}{α:Type}{c:Prop} [Decidable c] {m1 m2:Sem α}{Q:α→Shared→Prop}(hc:c) (h:wpAny M A m1 Q E s):wpAny M A (if c then m1 else m2) Q E s:=by rw [if_pos hc];exact h
theorem Di {prog:Program}{w:World}{A:Around}{E:Value→Shared→Prop}{s:Shared}{a:Addr}{Q:Bool→Shared→Prop}(hT:s.TypeIs (.ref a) "set") (hQ:Q false s):wpAny (model prog w) A (Builtin.List.listLengthHint (.ref a)) Q E s:=by
 have sp:splitId "set.__len__"=some ("set","__len__"):=by decide +kernel
 (unfold Builtin.List.listLengthHint)
 refine wpAny_bind (wpAny_specialOf hT uJ ?_)
 dsimp -zeta only
 rw [sp]
 dsimp -zeta only
 refine wpAny_bind (m:=isInstance (.ref a) (.type "set")) (wpAny_isInstance hT sub_set_self ?_)
 (show wpAny _ _ (if (!true)=true then _ else _) _ _ _)
 rw [if_neg (by decide)]
 refine CL (by decide +kernel) ?_
 (refine wpAny_bind (wpAny_typeOf hT ?_))
 exact wpAny_pure hQ
theorem oJ:Slot "set_iterator" "__iter__" "set_iterator.__iter__":=
 ((.of (owner:="set_iterator") (n:="__iter__") (by rw [typeLookup_type,builtinLookup_eq_fast];kernel_rfl) (by decide +kernel) (by decide +kernel) (by decide +kernel)
  ((by first | exact .inl (by decide +kernel) | exact .inr (by decide +kernel))) (by rw [isSubtype_type];kernel_rfl)))
theorem uC:entryFor table "set_iterator.__iter__"=some Builtin.«dict_keyiterator.__iter__»:=
 (entryFor_alias (id':="dict_keyiterator.__iter__") (by kernel_rfl) rfl (by decide +kernel) (by kernel_rfl))
theorem vJ (a:Value):argsOk "set_iterator.__iter__" ⟨[a],[]⟩:=by unfold argsOk;kernel_rfl
section
variable {prog:Program}{w:World}{A:Around}{E:Value→Shared→Prop}{s:Shared}
def ig (w:World) (a ep:Nat) (es:Array (Int×Value)):List Value:=(fL w a ep es).toList.map (·.2)
theorem CJ (hh:A.handled=none) (I a:Addr) (hne:a≠I){es:Array (Int×Value)}{ep:Nat}{t:SetTable}:
  Walks prog w A I [I,a] [I] es.size (fun i v=>(ig w a ep es)[i]?=some v) (fun i h=>∃slot,h.get? I=some (nJ a slot i es.size ep)∧iV h a (kQ w) es ep t∧(w.params.followText "set-order"=false→SetTable.below t.place slot=i)) where
 sub:=fun _ hb=>by simp at hb;simp [hb]
 frame:=fun _ _ _ ⟨slot,h1,h2,h3⟩ hk=>⟨slot,hk I (by simp) _ h1,h2.keep fun o e=>hk a (by simp) o e,h3⟩
 item:=fun i s Q E hi ⟨slot,h1,h2,h3⟩ hQ=>by
  refine DA hne h2 h1 h3 hi fun h' slot' e q1 q2 q3 q4=>?_
  refine hQ e.2 h' s.toks ?_ ⟨slot',q2,h2.keep fun o e=>?_,q3⟩ fun b o hb e=>?_
  ·unfold ig;rw [List.getElem?_map,Array.getElem?_toList,q1];rfl
  ·rw [q4.2 a hne];exact e
  ·exact q4.extBut b o (fun h=>hb (by simp [h])) e
 done:=fun s Q E ⟨slot,h1,h2,h3⟩ hQ=>Fj hh h2 h1 h3 fun h' he=>hQ h' s.toks fun b o hb e=>he b o (fun h=>hb (by simp [h])) e
 self:=fun i s Q E ⟨slot,h1,h2,h3⟩ hQ=>by
  have hT:s.TypeIs (.ref I) "set_iterator":=⟨_,h1,rfl⟩
  refine wpAny_pyIter_slot hT oJ (wpAny_call_entry oJ hT uC ?_ (vJ _))
  show wpAny _ _ (ret (.ref I)) _ _ s
  exact wpAny_pure ⟨_,rfl,"set_iterator",_,hT,fJ.lookup,hQ⟩
theorem yo {a:Addr}{es:Array (Int×Value)}{ep:Nat}{t:SetTable}{Q:List Value→Shared→Prop}(hh:A.handled=none) (S:iV s.heap a (kQ w) es ep t) (hn:es.size≤76)
  (hQ:∀(h':Heap) (tk:Nat),(∀b o,s.heap.get? b=some o→h'.get? b=some o)→s.heap.objs.size < h'.objs.size→Q (ig w a ep es) {s with heap:=h',toks:=tk}):wpAny (model prog w) A (collect (.ref a)) Q E s:=by
 have ha:a < s.heap.objs.size:=Heap.lt_size S.at_
 have hT:s.TypeIs (.ref a) "set":=⟨_,S.at_,rfl⟩
 unfold collect
 (refine wpAny_bind (wpAny_runValue (codeAny_builtin F.entry_proto_collect ?_)))
 (rw [Around.under_plainId F.plain_proto_collect _])
 show wpAny _ A.in1 (newList [] >>= fun l=>again (.builtin "list.__iadd__" ⟨[l,.ref a],[]⟩)) _ _ s
 (refine wpAny_bind (wpAny_newObj_type ?_))
 (refine wpAny_pure ⟨plainId_quiet F.plain_list_iadd _,codeAny_builtin F.entry_list_iadd ?_⟩)
 (rw [Around.under_plainId F.plain_list_iadd _])
 generalize hl0:({cls:=.type "list",data:=.seq ([]:List Value).toArray}:Obj)=l0
 have S1:iV (s.heap.push l0) a (kQ w) es ep t:=S.keep fun o e=>Heap.get?_push_of_some _ e
 have hT1:Shared.TypeIs {s with heap:=s.heap.push l0} (.ref a) "set":=⟨_,S1.at_,rfl⟩
 show wpAny _ A.in1 (Builtin.List.listExtendWith (.ref s.heap.objs.size) (.ref a) (.ref s.heap.objs.size)) _ _ _
 (unfold Builtin.List.listExtendWith)
 refine wpAny_bind (wpAny_typeOf hT1 ?_)
 have h1:Builtin.List.listSameRef (.ref s.heap.objs.size) (.ref a)=false:=by
  show (s.heap.objs.size == a)=false
  exact beq_eq_false_iff_ne.mpr (Nat.ne_of_gt ha)
 have h2:(Value.type "set" == Value.type "list")=false:=by decide
 have h3:(Value.type "set" == Value.type "tuple")=false:=by decide
 (simp only [h1,h2,h3,Bool.or_false,Bool.false_eq_true,if_false])
 refine wpAny_bind (Dl S1 ?_)
 (refine wpAny_bind (wpAny_holding ?_))
 have z1:(s.heap.push l0).objs.size=s.heap.objs.size + 1:=Heap.size_push _ _
 rw [z1]
 have S2:iV ((s.heap.push l0).push (nJ a 0 0 es.size ep)) a (kQ w) es ep t:=S1.keep fun o e=>Heap.get?_push_of_some _ e
 have hT2:Shared.TypeIs {s with heap:=(s.heap.push l0).push (nJ a 0 0 es.size ep)} (.ref a) "set":=⟨_,S2.at_,rfl⟩
 refine Di hT2 ?_
 refine CL (by decide +kernel) ?_
 (refine wpAny_bind (wpAny_rule ?_))
 subst hl0
 have hI:((s.heap.push {cls:=.type "list",data:=.seq ([]:List Value).toArray}).push (nJ a 0 0 es.size ep)).get? (s.heap.objs.size + 1)=some (nJ a 0 0 es.size ep):=by rw [←z1];exact Heap.get?_push_size _ rfl
 have hS₁:((s.heap.push {cls:=.type "list",data:=.seq ([]:List Value).toArray}).push (nJ a 0 0 es.size ep)).get? s.heap.objs.size=some {cls:=.type "list",data:=.seq ([]:List Value).toArray}:=Heap.get?_push_of_some _ (Heap.get?_push_size _ rfl)
 refine wpAny_bind ?_
 (show wpAny _ A.in1 (updateSeq s.heap.objs.size (·.push .none) >>= fun _=>updateSeq s.heap.objs.size (·.pop)) _ _ _)
 (refine wpAny_bind (wpAny_updateSeq hS₁ rfl ?_))
 (have hS₂:=Heap.get?_update_self (Obj.mapSeq (·.push Value.none)) hS₁ rfl)
 (refine wpAny_updateSeq hS₂ rfl ?_)
 (have hS₃:=Heap.get?_update_self (Obj.mapSeq (·.pop)) hS₂ rfl)
 have oth:∀b o,b≠s.heap.objs.size→((s.heap.push {cls:=.type "list",data:=.seq ([]:List Value).toArray}).push (nJ a 0 0 es.size ep)).get? b=some o→
   ((((s.heap.push {cls:=.type "list",data:=.seq ([]:List Value).toArray}).push (nJ a 0 0 es.size ep)).update s.heap.objs.size (Obj.mapSeq (·.push Value.none))).update s.heap.objs.size (Obj.mapSeq (·.pop))).get? b=some o:=
  (fun b o hb e=>(Heap.get?_update_other _ _ (Ne.symm hb)).trans ((Heap.get?_update_other _ _ (Ne.symm hb)).trans e))
 have hne:a≠s.heap.objs.size + 1:=Nat.ne_of_lt (Nat.lt_succ_of_lt ha)
 have hSf:s.heap.objs.size∉[s.heap.objs.size + 1,a]:=by
  simp only [List.mem_cons,List.not_mem_nil,or_false,not_or]
  exact ⟨Nat.ne_of_lt (Nat.lt_succ_self _),Nat.ne_of_gt ha⟩
 obtain ⟨L,T⟩:=S.tab
 refine wpAny_pure ⟨plainId_quiet F.plain_extend_loop _,codeAny_extend_loopS ((CJ (A:=A.in1) (prog:=prog) (w:=w) (es:=es) (ep:=ep) (t:=t) hh (s.heap.objs.size + 1) a hne).toS) (by rw [sizeLine_eq];omega) _ hSf _ es.size 0 _ _ _ rfl (Nat.zero_le _)
  ⟨0,oth _ _ (Nat.ne_of_gt (Nat.lt_succ_self _)) hI,S2.keep fun o e=>oth _ _ (Nat.ne_of_lt ha) e,fun _=>zQ T.sop⟩ hS₃ (ItemsOf.nil _) fun s' acc' c' hm hS' hacc=>?_⟩
 (show wpAny _ A (load s.heap.objs.size >>= _) _ _ s')
 (refine wpAny_bind (wpAny_load hS' ?_))
 have eacc:acc'.toList=ig w a ep es:=by
  obtain ⟨z,q⟩:=hacc
  have lw:(ig w a ep es).length=es.size:=by unfold ig;rw [List.length_map,Array.length_toList,lC]
  refine List.ext_getElem (by rw [Array.length_toList,z,lw]) fun i x1 x2=>?_
  have this:(ig w a ep es)[i]?=some (acc'[i]'(by simpa using x1)):=q i _ (Array.getElem?_eq_getElem (by simpa using x1))
  rw [List.getElem?_eq_getElem x2] at this
  (exact (Option.some.inj this).symm)
 refine wpAny_pure ?_
 rw [eacc]
 (obtain ⟨h',g',d',tk',os'⟩:=s')
 (have eg:g'=s.gens:=hm.gens)
 (have ed:d'=s.drawn:=hm.drawn)
 have eo:os'=s.os:=hm.os
 subst eg;subst ed;subst eo
 refine hQ h' tk' (fun b o e=>?_) (Heap.lt_size hS')
 have lb:=Heap.lt_size e
 refine hm.heap b o ?_ (oth b o (Nat.ne_of_lt lb) (Heap.get?_push_of_some _ (Heap.get?_push_of_some _ e)))
 simp only [List.mem_cons,List.not_mem_nil,or_false,not_or]
 exact ⟨Nat.ne_of_lt lb,Nat.ne_of_lt (Nat.lt_succ_of_lt lb)⟩
end
theorem ud:isSubtype (.type "tuple") (.type "set")=pure false:=by rw [isSubtype_type];kernel_rfl
theorem uc:isSubtype (.type "tuple") (.type "frozenset")=pure false:=by rw [isSubtype_type];kernel_rfl
abbrev eu (led:Bool):Obj:={cls:=.type "set",dict:=none,data:=.set #[] 0 (.fresh 0 0 led)}
abbrev cJ (w:World):Bool:=!w.params.followText "set-order"
section
variable {prog:Program}{w:World}{A:Around}{E:Value→Shared→Prop}{s:Shared}{K:PySem.W.Frag}{J:Hp}
theorem xF (a:Value){Q₁:Value→Shared→Prop}(h:Q₁ (.ref s.heap.objs.size) {s with heap:=s.heap.push (eu (cJ w))}):
  (codeAny (model prog w) A (.call (.builtin "set.__new__") ⟨[.type "set",a],[]⟩) (wants Q₁ E) s):=by
 refine (codeAny_of_tree ?_)
 (show wpAny _ A.in1 (do checkBuiltinCall "set.__new__" ⟨[.type "set",a],[]⟩;again (.builtin "set.__new__" ⟨[.type "set",a],[]⟩)) _ _ s)
 refine wpAny_bind (wpAny_of_eq (PySem.F.newCall_set_1 a) (wpAny_pure ⟨plainId_quiet F.plain_set_new _,codeAny_builtin F.entry_set_new ?_⟩))
 (rw [Around.under_plainId F.plain_set_new _])
 (unfold Builtin.«set.__new__» Builtin.Frozenset.newClass)
 have hsub:=sub_set_self
 (obtain ⟨hp,g,d,tk,os⟩:=s)
 dsimp only
 wp_walk
 (refine wpAny_askSetting (wpAny_pure ?_))
 dsimp only
 simp only [newObj]
 (refine wpAny_bind (wpAny_alloc (wpAny_pure ?_)))
 exact wpAny_pure h
theorem xH {l:Addr}{items:Array Value}{ds:List D}{Q:Value→Shared→Prop}(N:HF K J s) (hh:A.handled=none) (hl:s.heap.IsTuple l items) (hz:items.size=ds.length) (hi:∀i v,items[i]?=some v→KV K J v (ds.getD i .non)) (hn:ds.length≤76) (hu:A.units + 16 < cLine)
  (h:∀(h':Heap) (tk:Nat) ks es ep t,iU K J h' s.heap.objs.size (cJ w) ks es ep t→(∀d,d∈ks↔d∈ds)→(∀b o,b < s.heap.objs.size→s.heap.get? b=some o→h'.get? b=some o)→Q (.ref s.heap.objs.size) {s with heap:=h',toks:=tk}):
  (wpAny (model prog w) A (call (.type "set") [.ref l]) Q E s):=by
 (obtain ⟨c,tl,hmro⟩:=F.called_set.mro)
 (have hmade:=F.called_set.made)
 have hsub:=F.called_set.sub
 (refine wpAny_call (codeAny_of_tree ?_))
 (show wpAny _ _ (callAny (.type "set") _) _ _ _)
 (refine wpAny_pure ⟨Code.quiet_builtin _ (by decide +kernel),codeAny_builtin F.entry_type_call ?_⟩)
 (rw [Around.under_plain (weight_type_call_type "set" [.ref l] []) rfl])
 (have h1:=F.called_set.notType)
 (have h2:=F.called_set.canCreate)
 have hct:=PySem.F.typeCall_set_1 (.ref l)
 (repeat (any_goals (first | assumption | wp_step)))
 refine codeAny_mono (xF (.ref l) (E:=E) (Q₁:=fun obj s₁=>obj=.ref s.heap.objs.size∧s₁={s with heap:=s.heap.push (eu (cJ w))}) ⟨rfl,rfl⟩) fun r s₁ hr=>?_
 cases r with
 | error e=>exact hr
 | ok fl=>
  cases fl with
  | ret obj=>
   obtain ⟨rfl,rfl⟩:=hr
   have hS:(s.heap.push (eu (cJ w))).get? s.heap.objs.size=some (eu (cJ w)):=Heap.get?_push_size _ rfl
   have hT:Shared.TypeIs {s with heap:=s.heap.push (eu (cJ w))} (.ref s.heap.objs.size) "set":=⟨_,hS,rfl⟩
   (have hli:=F.called_set.init.lookup)
   (have hbi:=F.called_set.init.bind (.ref s.heap.objs.size))
   (repeat (any_goals (first | assumption | wp_step)))
   refine codeAny_mono (codeAny_call_builtin (R:=wants (fun r s₂=>r=.none∧∃h' tk ks es ep t,s₂={s with heap:=h',toks:=tk}∧iU K J h' s.heap.objs.size (cJ w) ks es ep t∧(∀d,d∈ks↔d∈ds)∧
     (∀b o,b < s.heap.objs.size→s.heap.get? b=some o→h'.get? b=some o)) E) F.called_set.init.plain F.entry_set_init ((check_set_init_1 hT ?_))) fun r₂ s₂ hr₂=>?_
   ·obtain ⟨ol,hol,hcl,nl,hdl⟩:=id hl
    have hol':(s.heap.push (eu (cJ w))).get? l=some ol:=Heap.get?_push_of_some _ hol
    have hsls:=ud
    have hslf:=uc
    have hne:(Value.type "tuple" == Value.type "dict")=false:=by decide
    have hl1:(s.heap.push (eu (cJ w))).IsTuple l items:=⟨_,hol',hcl,nl,hdl⟩
    have hTl:Shared.TypeIs {s with heap:=s.heap.push (eu (cJ w))} (.ref l) "tuple":=⟨_,hol',hcl⟩
    (unfold Builtin.«set.__init__» noKeywords Builtin.Frozenset.updateFrom)
    generalize hPI:pyIter=PI
    wp_walk
    subst hPI
    refine (wpAny_pyIter_tuple hl1 ?_)
    refine (wpAny_bind (wpAny_runValue ?_))
    (have hlS:l < s.heap.objs.size:=Heap.lt_size hol)
    have z1:(s.heap.push (eu (cJ w))).objs.size=s.heap.objs.size + 1:=Heap.size_push _ _
    have hne1:l≠(s.heap.push (eu (cJ w))).objs.size:=by rw [z1];exact Nat.ne_of_lt (Nat.lt_succ_of_lt hlS)
    have hSf:s.heap.objs.size∉[(s.heap.push (eu (cJ w))).objs.size,l]:=by
     rw [z1]
     simp only [List.mem_cons,List.not_mem_nil,or_false,not_or]
     (exact ⟨Nat.ne_of_lt (Nat.lt_succ_self _),Nat.ne_of_gt hlS⟩)
    have hno:∀b,s.heap.objs.size≤b→s.heap.get? b=none:=fun b hb=>by
     cases q:s.heap.get? b with
     | none=>rfl
     | some o=>exact absurd (Heap.lt_size q) (Nat.not_lt.mpr hb)
    have hval:∀(i:Nat) (v:Value),items[i]?=some v→KV K J v (ds.getD i .non):=hi
    have all:(List.range items.size).map (fun i=>ds.getD i .non)=ds:=by
     refine List.ext_getElem (by simp [hz]) fun i a b=>?_
     simp [b]
    refine Ew (A:=A.in1.in1) (K:=K) (J:=J) (s0:=s) (led:=cJ w) ((Walks.tuple (A:=A.in1.in1.in1) (by simp [hh]) (s.heap.push (eu (cJ w))).objs.size l hne1 items).toS) s.heap.objs.size hSf (fun i=>ds.getD i .non) hval N (fun b hb=>hno b ?_) (by simp only [in1_units];omega) (by omega) items.size 0 _ [] #[] 0 (.fresh 0 0 (cJ w)) (by omega) (Nat.zero_le _) ⟨⟨_,Heap.get?_push_size _ rfl,rfl,rfl⟩,hl1.push _⟩ (fun b o e=>Heap.get?_push_of_some _ (Heap.get?_push_of_some _ e)) (AM (Heap.get?_push_of_some _ hS)) (fun d=>by simp) fun s' ks es ep t hm hS' hmem=>?_
    ·(rcases List.mem_cons.mp hb with rfl | hb)
     ·exact Nat.le_refl _
     ·rw [List.mem_singleton.mp hb,z1];exact Nat.le_succ _
    ·rw [all] at hmem
     (obtain ⟨h',g',d',tk',os'⟩:=s')
     (have eg:g'=s.gens:=hm.gens)
     (have ed:d'=s.drawn:=hm.drawn)
     have eo:os'=s.os:=hm.os
     subst eg;subst ed;subst eo
     show wpAny _ _ _ _ _ _
     refine wpAny_pure ?_
     (show wpAny _ _ (ret Value.none) _ _ _)
     refine wpAny_pure ⟨rfl,h',tk',ks,es,ep,t,rfl,hS',hmem,fun b o hb e=>?_⟩
     refine hm.heap b o ?_ (Heap.get?_push_of_some _ (Heap.get?_push_of_some _ e))
     rw [z1]
     simp only [List.mem_cons,List.not_mem_nil,or_false,not_or]
     exact ⟨Nat.ne_of_lt hb,Nat.ne_of_lt (Nat.lt_succ_of_lt hb)⟩
   ·cases r₂ with
    | error e=>exact hr₂
    | ok fl₂=>
     cases fl₂ with
     | ret r=>
      obtain ⟨rfl,h',tk,ks,es,ep,t,rfl,hS',hm',hk'⟩:=hr₂
      (repeat (any_goals (first | assumption | wp_step)))
      exact h _ _ _ _ _ _ hS' hm' hk'
     | _=>exact hr₂.elim
  | _=>exact hr.elim
end
end DL
namespace DL
open PySem PySem.Spec PyProof.Rows L2 ST
open PySem.W (KasT kas_sort kas_ask)
section
variable {prog:Program}{w:World}{A:Around}{E:Value→Shared→Prop}{s:Shared}
theorem sortedS {a:Addr}{es:Array (Int×Value)}{ep:Nat}{t:SetTable}{κ:SortKind}{q:Nat→Nat→Bool}{Q:Value→Shared→Prop}{vs:List Value}(hv:ig w a ep es=vs) (hh:A.handled=none) (S:iV s.heap a (kQ w) es ep t) (hn:es.size≤76)
  (hs:vs.length < 2∨(2≤vs.length∧vs.length < 64∧
   (∀h' tk C,(∀b o,s.heap.get? b=some o→h'.get? b=some o)→C κ {s with heap:=h',toks:=tk}→wpAny (model prog w) A.in1.in1 (keyKind' vs.toArray) C (fun _ _=>False) {s with heap:=h',toks:=tk})∧
   ∀h' tk,(∀b o,s.heap.get? b=some o→h'.get? b=some o)→∀i j C,i < vs.length→j < vs.length→C (q i j) {s with heap:=h',toks:=tk}→kas_ask prog w A.in1.in1 κ vs i j C {s with heap:=h',toks:=tk}))
  (h:∀h' tk l n,(∀b o,s.heap.get? b=some o→h'.get? b=some o)→s.heap.objs.size≤l→h'.get? l=some (seqObj "list" (if vs.length < 2 then vs else iz q vs).toArray n)→Q (.ref l) {s with heap:=h',toks:=tk}):wpAny (model prog w) A (call (.builtin "sorted") [.ref a]) Q E s:=by
 have sl:vs.length≤sizeLine:=by rcases hs with h | ⟨_,h,_⟩ <;> rw [sizeLine_eq] <;> omega
 refine (Calls.call_function_entry kind_sorted plain_sorted entry_sorted (args_sorted1 _) ?_)
 unfold Builtin.«sorted»
 refine wpAny_bind (m:=checkCount "sorted" 1 1 _) ((wpAny_pure ?_))
 refine wpAny_bind (yo hh S hn fun h1 tk1 k1 le0=>?_)
 rw [hv]
 refine wpAny_bind (wpAny_newList ?_ sl)
 have le1:s.heap.objs.size≤h1.objs.size:=Nat.le_of_lt le0
 have gL:(h1.push (seqObj "list" vs.toArray 0)).get? h1.objs.size=some (seqObj "list" vs.toArray 0):=Heap.get?_push_size _ rfl
 have kp:∀b o,s.heap.get? b=some o→b≠h1.objs.size∧(h1.push (seqObj "list" vs.toArray 0)).get? b=some o:=fun b o e=>by
  have e1:=k1 b o e
  exact ⟨Nat.ne_of_lt (Heap.lt_size e1),Heap.get?_push_of_some _ e1⟩
 have kend:∀out b o,s.heap.get? b=some o→(sortedHeap (h1.push (seqObj "list" vs.toArray 0)) h1.objs.size vs out).get? b=some o:=fun out b o e=>by
  obtain ⟨g1,g2'⟩:=kp b o e
  rw [sortedHeap_old g1 (Heap.lt_size g2')]
  exact g2'
 dsimp only
 rcases hs with h2 | ⟨h2,h64,hk,hc⟩
 ·refine wpAny_bind (wpAny_holding (wpAny_call_entry slot_list_sort ⟨_,gL,rfl⟩ entry_list_sort (qS gL h2 ⟨_,rfl,?_⟩) (args_list_sort _)))
  obtain ⟨n,hn'⟩:=sortedHeap_at (out:=vs.toArray) gL
  rw [if_pos h2] at h
  exact wpAny_pure ⟨_,rfl,h _ tk1 _ n (kend _) le1 hn'⟩
 ·refine wpAny_bind (wpAny_holding (wpAny_call_entry slot_list_sort ⟨_,gL,rfl⟩ entry_list_sort (qT (κ:=κ) (q:=q) gL h2 h64 (fun h' C k c=>?_) (fun h' k i j C hi hj c=>?_) ⟨_,rfl,?_⟩) (args_list_sort _)))
  ·exact hk h' tk1 C (fun b o e=>k b o (kp b o e).1 (kp b o e).2) c
  ·exact hc h' tk1 (fun b o e=>k b o (kp b o e).1 (kp b o e).2) i j C hi hj c
  ·obtain ⟨n,hn'⟩:=sortedHeap_at (out:=(iz q vs).toArray) gL
   rw [if_neg (by omega)] at h
   exact wpAny_pure ⟨_,rfl,h _ tk1 _ n (kend _) le1 hn'⟩
end
mutual
def formOf:D→Fm
 | .int _=>.i
 | .tup xs=>yS xs
 | _=>.b
def yS:List D→Fm
 | []=>.tn
 | x::xs=>.tc (formOf x) (yS xs)
end
def oX:Fm→D→Bool
 | .i,.int _=>true
 | .tn,.tup xs=>xs.isEmpty
 | .tc x r,.tup (y::ys)=>oX x y && oX r (.tup ys)
 | _,_=>false
theorem p6:∀(f:Fm) (d:D),oX f d=true→ir f d
 | .i,.int k,_=>⟨k,rfl⟩
 | .tn,.tup [],_=>⟨[],rfl,rfl⟩
 | .tc x r,.tup (y::ys),h=>by
  unfold oX at h
  rw [Bool.and_eq_true] at h
  exact ⟨_,rfl,y,ys,rfl,p6 x y h.1,p6 r (.tup ys) h.2⟩
def ER:List D→Bool
 | []=>true
 | d::r=>(match g8 d with
  | some k=>gQ k (d::r)
  | none=>false) && (d::r).all (oX (formOf d))
def oz (ds:List D):Bool:=decide (ds.length < 64) && (areKeys ds && (decide (deps ds≤8) && ER ds))
theorem DE {ds:List D}(h:ER ds=true):∃k f,∀d∈ds,g8 d=some k∧ir f d:=by
 cases ds with
 | nil=>exact ⟨.i,.i,fun _ h=>nomatch h⟩
 | cons d r=>
  unfold ER at h
  rw [Bool.and_eq_true] at h
  cases q:g8 d with
  | none=>rw [q] at h;cases h.1
  | some k=>
   rw [q] at h
   exact ⟨k,formOf d,fun x hx=>⟨jv h.1 x hx,p6 _ _ (List.all_eq_true.mp h.2 x hx)⟩⟩
theorem mP {n:Nat}:∀{ds:List D},deps ds≤n→∀d∈ds,dep d≤n
 | [],_,_,h=>nomatch h
 | x::r,hn,d,h=>by
  unfold deps at hn
  (rcases List.mem_cons.mp h with rfl | h)
  ·omega
  ·exact mP (ds:=r) (by omega) d h
theorem mL {k:Hd}:∀{ds:List D},(∀d∈ds,g8 d=some k)→gQ k ds=true
 | [],_=>rfl
 | x::r,h=>by
  unfold gQ
  rw [h x (List.mem_cons_self ..),mL fun d hd=>h d (List.mem_cons_of_mem _ hd)]
  cases k <;> rfl
structure Lq (ds:List D) (k:Hd) (f:Fm):Prop where
 ln:ds.length < 64
 ky:areKeys ds=true
 dp:deps ds≤8
 al:∀d∈ds,g8 d=some k∧ir f d
theorem wW {ds:List D}(h:oz ds=true):∃k f,Lq ds k f:=by
 unfold oz at h
 rw [Bool.and_eq_true,Bool.and_eq_true,Bool.and_eq_true] at h
 obtain ⟨h1,h2,h3,h4⟩:=h
 obtain ⟨k,f,h5⟩:=DE h4
 exact ⟨k,f,of_decide_eq_true h1,h2,of_decide_eq_true h3,h5⟩
abbrev nq (X:Cx) (H0:Hp) (a:Addr) (ds:List D):HO:=.ext fun h=>∃ks es ep t,iU X.K H0 h a (cJ X.w) ks es ep t∧∀d,d∈ks↔d∈ds
section
variable {X:Cx}
theorem Kw {K:PySem.W.Frag}{J:Hp}{k:Hd}{f:Fm}{ds:List D}{vs:List V}{us:List Value}(o:Lq ds k f) (rs:aG K J ds vs) (rv:Vals vs us):∀i v,us.toArray[i]?=some v→KV K J v (ds.getD i .non):=fun i v q=>by
 have l1:vs.length=us.length:=rv.length
 have l2:ds.length=vs.length:=rs.length
 have hi:i < us.length:=by
  have:=(Array.getElem?_eq_some_iff.mp q).1
  simpa using this
 have e:us.getD i Value.none=v:=by
  simp at q
  simp [List.getD,q]
 have r1:=ez rs (i:=i) (by omega)
 have r2:=eB rv (i:=i) (by omega)
 rw [e] at r2
 have m:=dZ (ds:=ds) (i:=i) (by omega)
 refine ⟨?_,pH o.ky _ m,mP o.dp _ m,_,r1,r2⟩
 have hh:=(o.al _ m).1
 generalize cK ds i=d at r1 hh
 generalize vs.getD i V.non=vv at r1 r2
 cases d with
 | tup xs=>cases r1 with
  | tup _ _=>cases r2;exact ⟨_,rfl⟩
 | _=>cases hh
theorem Bj (hu:X.A.units + 64 < cLine) (hc:X.calm=true):bN X (.type "set") (fun xs H Q=>∃p vs ds J0,xs=[.ref p]∧cT X.K H p vs∧aX J0 H∧aG X.K J0 ds vs∧oz ds=true∧∀l,H l=none→Q (.ref l) (upd H l (nq X J0 l ds))):=by
 intro pins s σ H xs us Q I r h
 obtain ⟨p,vs,ds,J0,rfl,hq,sm,rs,oks,q⟩:=h
 obtain ⟨u,rfl,rx⟩:=vals1 r
 cases rx
 obtain ⟨k,f,o⟩:=wW oks
 have N:HF X.K J0 s:=HF.of (c:=⟨X.K,H,H,fun _=>True⟩) I sm
 obtain ⟨its,r',pt,hz⟩:=I.tuple hq
 refine xH N (I.ok.hd hc) pt (by simp [←r'.length,rs.length]) (Kw o rs r') (by have:=o.ln;omega) (by omega) fun h' tk ks es ep t S hm kp=>?_
 exact ⟨.ref s.heap.objs.size,_,I.laid (t':=tk) (fun b o e=>kp b o (Heap.lt_size e) e) (Nat.le_refl _) (show cg X.prog X.w _ _ _ (nq X J0 s.heap.objs.size ds) from ⟨⟨ks,es,ep,t,S,hm⟩,⟨_,S.at_⟩,fun h1 h2 ⟨ks,es,ep,t,S,hm⟩ e=>⟨ks,es,ep,t,S.keep e,hm⟩⟩),rfl,q _ (I.hok.fresh (Nat.le_refl _))⟩
end
def dd:List D→List D
 | []=>[]
 | x::xs=>if (dd xs).any (bq x)=true then dd xs else x::dd xs
def cu (ds:List D):List D:=bg (dd ds)
section
variable {P:D→Prop}
theorem uQ (p:fR P):∀(ds:List D),(∀x∈ds,P x)→(dd ds).Nodup∧∀y,y∈dd ds↔y∈ds
 | [],_=>⟨List.nodup_nil,fun _=>.rfl⟩
 | x::xs,h=>by
  obtain ⟨h1,h2⟩:=uQ p xs fun y hy=>h y (List.mem_cons_of_mem _ hy)
  have px:=h x (List.mem_cons_self ..)
  have eqv:(dd xs).any (bq x)=true↔x∈xs:=by
   rw [List.any_eq_true]
   constructor
   ·rintro ⟨z,hz,e⟩
    have hz':=(h2 z).mp hz
    rw [(p.eq x z px (h z (List.mem_cons_of_mem _ hz'))).mp e]
    exact hz'
   ·intro hx
    exact ⟨x,(h2 x).mpr hx,(p.eq x x px px).mpr rfl⟩
  unfold dd
  by_cases c:(dd xs).any (bq x)=true
  ·rw [if_pos c]
   refine ⟨h1,fun y=>?_⟩
   rw [h2 y,List.mem_cons]
   exact ⟨.inr,fun z=>z.elim (fun e=>e▸eqv.mp c) id⟩
  ·rw [if_neg c]
   refine ⟨List.nodup_cons.mpr ⟨fun z=>c (eqv.mpr ((h2 x).mp z)),h1⟩,fun y=>?_⟩
   rw [List.mem_cons,List.mem_cons,h2 y]
theorem CG (p:fR P):∀{A B:List D},(∀x∈A,P x)→A.Pairwise (fun a b=>dY a b=true)→B.Pairwise (fun a b=>dY a b=true)→(∀y,y∈A↔y∈B)→A=B
 | [],[],_,_,_,_=>rfl
 | [],b::B,_,_,_,h=>by cases (h b).mpr List.mem_cons_self
 | a::A,[],_,_,_,h=>by cases (h a).mp List.mem_cons_self
 | a::A,b::B,hp,hA,hB,h=>by
  obtain ⟨a1,a2⟩:=List.pairwise_cons.mp hA
  obtain ⟨b1,b2⟩:=List.pairwise_cons.mp hB
  have pa:=hp a List.mem_cons_self
  have pb:=hp b ((h b).mpr List.mem_cons_self)
  have no:∀z,P z→dY z z=true→False:=fun z pz q=>by
   have:=p.asy z z pz pz q
   rw [q] at this;cases this
  have e:a=b:=by
   rcases List.mem_cons.mp ((h a).mp List.mem_cons_self) with e | e
   ·exact e
   ·rcases List.mem_cons.mp ((h b).mpr List.mem_cons_self) with f | f
    ·exact f.symm
    ·exact (no a pa (p.tra _ _ _ pa pb pa (a1 b f) (b1 a e))).elim
  subst e
  have:A=B:=by
   refine CG p (fun x hx=>hp x (List.mem_cons_of_mem _ hx)) a2 b2 fun y=>⟨fun hy=>?_,fun hy=>?_⟩
   ·rcases List.mem_cons.mp ((h y).mp (List.mem_cons_of_mem _ hy)) with e | e
    ·subst e;exact (no y pa (a1 y hy)).elim
    ·exact e
   ·rcases List.mem_cons.mp ((h y).mpr (List.mem_cons_of_mem _ hy)) with e | e
    ·subst e;exact (no y pa (b1 y hy)).elim
    ·exact e
  rw [this]
theorem mz (p:fR P){ds:List D}(h:∀x∈ds,P x) (nd:ds.Nodup):(bg ds).Pairwise fun a b=>dY a b=true:=by
 have up:=Er p ds h
 have pm:=gW ds
 have nd':(bg ds).Nodup:=pm.nodup_iff.mpr nd
 have both:=List.Pairwise.and up nd'
 refine (List.Pairwise.and_mem.mp both).imp ?_
 rintro a b ⟨ha,hb,h1,h2⟩
 cases q:dY a b with
 | true=>rfl
 | false=>exact absurd (p.tri a b (h a (pm.mem_iff.mp ha)) (h b (pm.mem_iff.mp hb)) q h1) h2
theorem xM (p:fR P){ds ks:List D}(h:∀x∈ds,P x) (nd:ks.Nodup) (hm:∀d,d∈ks↔d∈ds):bg ks=cu ds:=by
 obtain ⟨h1,h2⟩:=uQ p ds h
 have hk:∀x∈ks,P x:=fun x hx=>h x ((hm x).mp hx)
 have hd:∀x∈dd ds,P x:=fun x hx=>h x ((h2 x).mp hx)
 exact CG p (fun x hx=>hk x ((gW ks).mem_iff.mp hx)) (mz p hk nd) (mz p hd h1) fun y=>by
  rw [(gW ks).mem_iff,hm y]
  show _↔y∈bg (dd ds)
  rw [(gW (dd ds)).mem_iff,h2 y]
theorem nu (p:fR P){ds:List D}(h:∀x∈ds,P x):(cu ds).Pairwise (fun a b=>dY a b=true)∧∀d,d∈cu ds↔d∈ds:=by
 obtain ⟨h1,h2⟩:=uQ p ds h
 exact ⟨mz p (fun x hx=>h x ((h2 x).mp hx)) h1,fun d=>by show d∈bg (dd ds)↔_;rw [(gW (dd ds)).mem_iff,h2 d]⟩
end
theorem eV.reps {K:PySem.W.Frag}{J:Hp}{es:List (Int×Value)}{ks:List D}(h:eV K J es ks):∃vs,aG K J ks vs∧Vals vs (es.map (·.2)):=by
 induction h with
 | nil=>exact ⟨_,.nil,.nil⟩
 | cons _ hk _ ih=>
  obtain ⟨vs,h1,h2⟩:=ih
  obtain ⟨_,_,_,v,r,rv⟩:=hk
  exact ⟨v::vs,.cons r h1,.cons rv h2⟩
section
variable {X:Cx}
theorem zT (hu:X.A.units + 64 < cLine) (hc:X.calm=true):bN X (.builtin "sorted") (fun xs H Q=>∃p ds J0,xs=[.ref p]∧H p=some (nq X J0 p ds)∧aX J0 H∧oz ds=true∧∀l vs',H l=none→aG X.K J0 (cu ds) vs'→Q (.ref l) (upd H l (.lst vs'))):=by
 intro pins s σ H xs us Q I r h
 obtain ⟨p,ds,J0,rfl,hp,sm,oks,q⟩:=h
 obtain ⟨u,rfl,rx⟩:=vals1 r
 cases rx
 obtain ⟨k,f,o⟩:=wW oks
 have hh:X.A.handled=none:=I.ok.hd hc
 have N:HF X.K J0 s:=HF.of (c:=⟨X.K,H,H,fun _=>True⟩) I sm
 obtain ⟨⟨ks,es,ep,t,S,hm⟩,_⟩:=(show cg X.prog X.w H s.heap p (nq X J0 p ds) from I.hok p _ hp)
 obtain ⟨ks',pm,en'⟩:=S.en.perm (ly X.w p ep es).symm
 have nd':ks'.Nodup:=pm.nodup_iff.mp S.nd
 have hm':∀d,d∈ks'↔d∈ds:=fun d=>by rw [←pm.mem_iff,hm d]
 obtain ⟨vs,rs,rv⟩:=en'.reps
 have hv:ig X.w p ep es=(fL X.w p ep es).toList.map (·.2):=rfl
 rw [←hv] at rv
 generalize hits:ig X.w p ep es=its at rv
 have l1:vs.length=its.length:=rv.length
 have l2:ks'.length=vs.length:=rs.length
 have len:ks'.length≤ds.length:=List.Nodup.length_le_of_subset nd' fun d hd=>(hm' d).mp hd
 have l64:=o.ln
 have les:es.size=ks'.length:=by rw [←Array.length_toList,S.en.length,pm.length_eq]
 have tot:=fY f
 have out:=xM tot (fun x hx=>(o.al x hx).2) nd' hm'
 have fin:∀(h':Heap) (tk:Nat) (l:Addr) (n:Nat) (ot:List Value) (vs':List V),vs'.length=vs.length→Vals vs' ot→aG X.K J0 (bg ks') vs'→(∀b o,s.heap.get? b=some o→h'.get? b=some o)→s.heap.objs.size≤l→h'.get? l=some (seqObj "list" ot.toArray n)→EP X pins σ Q (.ref l) {s with heap:=h',toks:=tk}:=fun h' tk l n ot vs' lv rv' rr kp hl hg=>by
  refine ⟨.ref l,_,I.laid (t':=tk) kp hl (show cg X.prog X.w _ _ _ (.lst vs') from ⟨by rw [lv,sizeLine_eq];omega,ot,n,rv',by simpa [seqObj] using hg⟩),rfl,q l vs' (I.hok.fresh hl) (by rw [←out];exact rr)⟩
 have un:X.A.in1.in1.units=X.A.units + 2:=rfl
 refine sortedS (κ:=tuples' k.flag) (q:=ltB ks') (vs:=its) hits hh S.wk (by omega) ?_ fun h' tk l n kp hl hg=>?_
 ·by_cases h2:its.length < 2
  ·exact .inl h2
  ·refine .inr ⟨by omega,by omega,fun h' tk C kp cc=>?_,fun h' tk kp i j C hi hj cc=>?_⟩
   ·exact tF (N.keep kp) (mL fun d hd=>(o.al d ((hm' d).mp hd)).1) rs rv (by omega) cc
   ·have hi':i < ks'.length:=by omega
    have hj':j < ks'.length:=by omega
    have mi:=(hm' _).mp (dZ hi')
    have mj:=(hm' _).mp (dZ hj')
    have hb:dI (cK ks' i) (cK ks' j)=some (ltB ks' i j):=by
     have:=tot.lt _ _ (o.al _ mi).2 (o.al _ mj).2
     unfold ltB
     cases z:dI (cK ks' i) (cK ks' j) with
     | none=>rw [z] at this;cases this
     | some b=>rfl
    have d1:=mP o.dp _ mi
    have d2:=mP o.dp _ mj
    exact yZ (N.keep kp) (o.al _ mi).1 (o.al _ mj).1 hb (ez rs hi') (ez rs hj') (eB rv (by omega)) (eB rv (by omega)) (by rw [un];omega) (by omega) (by omega) cc
 ·by_cases h2:its.length < 2
  ·rw [if_pos h2] at hg
   refine fin h' tk l n its vs rfl rv ?_ kp hl hg
   unfold bg
   rw [if_pos (by omega)]
   exact rs
  ·rw [if_neg h2] at hg
   have ib:∀i∈(aV (ltB ks') (kas_sort ks'.length)).toList,i < ks'.length:=fun i hi=>by
    have:=((d_ (n:=ks'.length) (by omega)).run (ltB ks'):d9 _ _)
    have:=(Array.Perm.mem_iff this).mp (Array.mem_toList_iff.mp hi)
    simpa using this
   have e1:iz (ltB ks') its=(aV (ltB ks') (kas_sort ks'.length)).toList.map fun i=>its.getD i Value.none:=by unfold iz;rw [l2,l1]
   rw [e1] at hg
   refine fin h' tk l n _ _ ?_ (mG rv _ fun i hi=>l2▸ib i hi) ?_ kp hl hg
   ·rw [List.length_map,←l2]
    have:=((d_ (n:=ks'.length) (by omega)).run (ltB ks'):d9 _ _).size_eq
    simpa using this
   ·unfold bg
    rw [if_neg (by omega)]
    exact mh rs _ ib
end
end DL
namespace DL
open PySem PySem.Spec PyProof.Rows L2 ST
end DL
namespace DL
open PySem PySem.Spec PyProof.Rows L2 DX
end DL
namespace DL
open PySem PySem.Spec PyProof.Rows L2 ST PySem.SetTable
section
variable {t:SetTable}{es:Array (Int×Value)}{L:List (Nat×Int×Value)}
theorem qY (T:Tab t es L) (h:Int) (n0:Nat) (hf:pos t.mask h n0∉L.map (·.1)) (hb:∀m,m < n0→pos t.mask h m∈L.map (·.1)):
  ∀(d n F:Nat),n0 - n=d→n≤n0→d < F→probe.go t (fun _=>h + 1) h F (st t.mask h n)=some (.empty (pos t.mask h n0) none)
 | d,n,0,_,_,h=>absurd h (Nat.not_lt_zero _)
 | d,n,F + 1,hd,hn,hF=>by
  by_cases c:n=n0
  ·subst c
   unfold probe.go
   rw [rA T.dm (by rw [T.pl];exact hf)]
   show some (Met.empty _ (st t.mask h n).dummy)=_
   rw [nv]
  ·obtain ⟨e,he,ej⟩:=List.mem_map.mp (hb n (by omega))
   obtain ⟨i,hi,rfl⟩:=List.mem_iff_getElem.mp he
   have hs:t.slot (pos t.mask h n)=.live i:=oH T.sop (by rw [(T.at_ (List.getElem?_eq_getElem hi)).1,ej])
   have eg:probe.go t (fun _=>h + 1) h (F + 1) (st t.mask h n)=probe.go t (fun _=>h + 1) h F (st t.mask h (n + 1)):=by
    rw [probe.go,hs]
    show (if (h + 1 == h)=true then _ else _)=_
    rw [if_neg (by rw [beq_iff_eq];omega)]
    rfl
   rw [eg]
   exact qY T h n0 hf hb (n0 - (n + 1)) (n + 1) F rfl (by omega) (by omega)
theorem BA (T:Tab t es L) (h:Int) (n0:Nat) (hf:pos t.mask h n0∉L.map (·.1)) (hb:∀m,m < n0→pos t.mask h m∈L.map (·.1)) (hn0:n0≤10 * (t.mask + 12)):t.freeSlot h=some (pos t.mask h n0,false):=by
 have e:t.probe (fun _=>h + 1) h (t.probeStart h)=some (.empty (pos t.mask h n0) none):=qY T h n0 hf hb n0 0 (10 * turns t.mask) rfl (Nat.zero_le _) (by unfold turns;omega)
 unfold SetTable.freeSlot
 rw [e]
 rfl
theorem FI (T:Tab t es L) (h:Int) (x:Value) (n0:Nat) (hf:pos t.mask h n0∉L.map (·.1)) (hb:∀m,m < n0→pos t.mask h m∈L.map (·.1)) (hn0:n0≤10 * (t.mask + 12)) (hl:L.length + 1≤t.mask):
  layNew t es h x=(insertAt es (t.put (pos t.mask h n0)).2 (h,x),(t.put (pos t.mask h n0)).1,false,false):=by
 obtain ⟨L',T',_⟩:=T.put h x n0 hf hb (wZ _ _ _) hl
 have fit:=cD T'
 unfold layNew
 rw [BA T h n0 hf hb hn0]
 dsimp only
 unfold SetTable.orStandIn
 rw [fit]
 rfl
theorem Dr {mask finger moves:Nat}{led plain:Bool}{t':SetTable}{order:Array Nat}(hm:kM mask) (hl:es.size≤mask) (e:laid mask finger moves led plain (es.map (·.1))=some (t',order)):order.toList.Perm (List.range es.size):=by
 obtain ⟨owner,G,e0,O⟩:=BN hm (es.map (·.1)) (by simpa using hl)
 have hlen:G.length=es.size:=by rw [O.ln];simp
 (let live:=(List.range (mask + 1)).filterMap fun j=>(owner.getD j none).map (j,·))
 have lv:∀p,p∈live↔p.1∈G∧p.2=G.idxOf p.1:=fun p=>by
  show p∈(List.range (mask + 1)).filterMap _↔_
  rw [List.mem_filterMap]
  constructor
  ·rintro ⟨j,hj,q⟩
   have hj':j≤mask:=by have:=List.mem_range.mp hj;omega
   rw [O.at_ j hj'] at q
   by_cases c:j∈G
   ·rw [if_pos c] at q
    have q:(j,G.idxOf j)=p:=by simpa using q
    subst q
    exact ⟨c,rfl⟩
   ·rw [if_neg c] at q;exact absurd q (by simp)
  ·rintro ⟨h1,h2⟩
   refine ⟨p.1,List.mem_range.mpr (by have:=O.bd _ h1;omega),?_⟩
   rw [O.at_ _ (O.bd _ h1),if_pos h1]
   show some (p.1,G.idxOf p.1)=some p
   rw [←h2]
 have so1:live.Pairwise fun a b=>a.1 < b.1:=by
  show ((List.range (mask + 1)).filterMap _).Pairwise _
  rw [List.pairwise_filterMap]
  refine List.pairwise_lt_range.imp ?_
  intro a b hab x hx y hy
  cases q1:owner.getD a none with
  | none=>rw [q1] at hx;exact absurd hx (by simp)
  | some k1=>cases q2:owner.getD b none with
   | none=>rw [q2] at hy;exact absurd hy (by simp)
   | some k2=>
    rw [q1] at hx;rw [q2] at hy
    have hx:(a,k1)=x:=by simpa using hx
    have hy:(b,k2)=y:=by simpa using hy
    subst hx;subst hy;exact hab
 have ord:(live.map (·.2)).Perm (List.range es.size):=by
  rw [List.perm_ext_iff_of_nodup _ List.nodup_range]
  ·intro k
   rw [List.mem_map,List.mem_range]
   constructor
   ·rintro ⟨p,hp,rfl⟩
    obtain ⟨h1,h2⟩:=(lv p).mp hp
    rw [h2,←hlen]
    exact List.idxOf_lt_length_of_mem h1
   ·intro hk
    rw [←hlen] at hk
    exact ⟨(G[k],k),(lv _).mpr ⟨List.getElem_mem _,(O.nd.idxOf_getElem k hk).symm⟩,rfl⟩
  ·show (live.map (·.2)).Pairwise _
   rw [List.pairwise_map]
   refine (List.Pairwise.and_mem.mp so1).imp ?_
   rintro a b ⟨ha,hb,hab⟩ z
   obtain ⟨a1,a2⟩:=(lv a).mp ha
   obtain ⟨b1,b2⟩:=(lv b).mp hb
   rw [a2,b2] at z
   have ga:=List.getElem_idxOf (List.idxOf_lt_length_of_mem a1)
   have gb:=List.getElem_idxOf (List.idxOf_lt_length_of_mem b1)
   have:a.1=b.1:=by
    rw [←ga,←gb]
    congr 1
   omega
 unfold laid at e
 rw [e0] at e
 have e1:(live.map (·.2)).toArray=order:=by
  have:=Option.some.inj e
  exact congrArg Prod.snd this
 rw [←e1]
 exact ord
theorem Cp {w:Nat}(hm:kM (sizeAbove w - 1)) (hl:es.size≤sizeAbove w - 1):∃t' es' L',relayAll t es w=(es',t',false)∧t'.mask=sizeAbove w - 1∧t'.led=t.led∧t'.plain=t.plain∧Tab t' es' L'∧es'.toList.Perm es.toList:=by
 obtain ⟨t',order,L',e1,e2,e3,e4,e5,e6⟩:=tX (t:=t) (es:=es) hm hl
 have od:order.toList.Perm (List.range es.size):=Dr hm hl e1
 refine ⟨t',order.filterMap (es[·]?),L',?_,e2,e3,e4,e5,e6⟩
 unfold relayAll
 rw [e1]
 dsimp only
 have c1:coversAll order es.size=true:=by unfold coversAll;exact List.isPerm_iff.mpr od
 rw [c1,cD e5]
 rfl
end
end DL
namespace DL
open PySem PySem.Spec PyProof.Rows L2 ST
inductive eK:List (Int×Value)→List Int→Prop
 | nil:eK [] []
 | cons {i:Int}{k:Tok}{es:List (Int×Value)}{ns:List Int}:eK es ns→eK ((hashInt i,.int i k)::es) (i::ns)
theorem eK.perm {es es':List (Int×Value)}(p:es.Perm es'):∀{ns:List Int},eK es ns→∃ns',ns.Perm ns'∧eK es' ns':=by
 induction p with
 | nil=>intro ns h;exact ⟨ns,.refl _,h⟩
 | cons x _ ih=>
  intro ns h
  cases h with
  | cons h3=>obtain ⟨ns',a,b⟩:=ih h3;exact ⟨_,a.cons _,.cons b⟩
 | swap x y l=>
  intro ns h
  cases h with
  | cons h3=>cases h3 with
   | cons h6=>exact ⟨_,.swap _ _ _,.cons (.cons h6)⟩
 | trans _ _ ih1 ih2=>
  intro ns h
  obtain ⟨k1,a,b⟩:=ih1 h
  obtain ⟨k2,c,d⟩:=ih2 b
  exact ⟨k2,a.trans c,d⟩
theorem eK.length {es:List (Int×Value)}{ns:List Int}(h:eK es ns):es.length=ns.length:=by
 induction h with
 | nil=>rfl
 | cons _ ih=>simp [ih]
structure jg (h:Heap) (a:Addr) (led:Bool) (ns:List Int) (es:Array (Int×Value)) (ep:Nat) (t:SetTable):Prop where
 at_:h.get? a=some {cls:=.type "set",dict:=none,data:=.set es ep t}
 tab:∃L,Tab t es L
 pl:t.plain=true
 ld:t.led=led
 rm:ns.length * 5 < t.mask * 3
 en:eK es.toList ns
 nd:ns.Nodup
section
variable {w:World}{prog:Program}{E:Value→Shared→Prop}{A:Around}{s:Shared}
theorem eK.elems {es:List (Int×Value)}{ns:List Int}(h:eK es ns):ElemsOf (intKind prog w) es:=by
 induction h with
 | nil=>exact fun e he=>nomatch he
 | @cons i k es ns _ ih=>
  intro e he
  (rcases List.mem_cons.mp he with rfl | he)
  ·exact ⟨⟨i,intKind_is _ _ _ _,rfl⟩,rfl⟩
  ·exact ih e he
theorem eK.find {es:List (Int×Value)}{ns:List Int}(h:eK es ns) (i:Int):(es.findIdx? fun e=>(intKind prog w).is i e.2)=none↔i∉ns:=by
 rw [List.findIdx?_eq_none_iff]
 induction h with
 | nil=>simp
 | @cons j k es ns _ ih=>
  rw [List.mem_cons,not_or,←ih]
  have e:(intKind prog w).is i (.int j k)=decide (i=j):=KeyKind.is_eq_decide (intKind_is prog w j k) i
  constructor
  ·intro h
   refine ⟨fun z=>?_,fun x hx=>h x (List.mem_cons_of_mem _ hx)⟩
   have:=h _ List.mem_cons_self
   rw [e,z] at this
   simp at this
  ·rintro ⟨h1,h2⟩ x hx
   (rcases List.mem_cons.mp hx with rfl | hx)
   ·rw [e];simpa using h1
   ·exact h2 x hx
theorem add_int {a:Addr}{es:Array (Int×Value)}{ep:Nat}{t:SetTable}{led:Bool}{ns:List Int}{i:Int}{k:Tok}{Q:Bool→Shared→Prop}(S:jg s.heap a led ns es ep t) (hl:ns.length < 76)
  (q1:i∈ns→Q false s) (q2:i∉ns→∀(h':Heap) ns' es' ep' t',Heap.SameBut a s.heap h'→(i::ns).Perm ns'→jg h' a led ns' es' ep' t'→Q true {s with heap:=h'}):
  wpAny (model prog w) A (setAddHashed a (.int i k) (hashInt i)) Q E s:=by
 obtain ⟨L,T⟩:=S.tab
 have lenL:L.length=ns.length:=by rw [mD T,←Array.length_toList,S.en.length]
 have hes:es.size=ns.length:=by rw [←Array.length_toList,S.en.length]
 obtain ⟨n0,b1,b2,b3⟩:=qC T.mo (hashInt i) (L.map (·.1)) (by rw [List.length_map];exact T.fl)
 (unfold setAddHashed setAddHashedIn)
 refine wpAny_holding (wpAny_bind (wpAny_setState_of S.at_ rfl (cD T) ?_))
 dsimp only
 have sc:byScan (.int i k) es=true:=byScan_of (prog:=prog) (w:=w) (knd:=intKind prog w) rfl (by unfold scanBound;omega) S.en.elems
 rw [sc]
 simp only [if_true]
 unfold setAddByScan
 refine wpAny_bind ?_
 (refine wpAny_bind (wpAny_rule ?_))
 refine wpAny_bind (wpAny_setScan_of (knd:=intKind prog w) (k:=i) (intKind_is _ _ _ _) S.at_ rfl (cD T) S.en.elems ?_)
 cases hr:List.findIdx? (fun e=>(intKind prog w).is i e.2) es.toList with
 | some j=>
  dsimp only
  have hin:i∈ns:=Classical.byContradiction fun z=>by
   have:=(S.en.find (prog:=prog) (w:=w) i).mpr z
   rw [hr] at this;cases this
  exact wpAny_pure (wpAny_pure (q1 hin))
 | none=>
  dsimp only
  have hm:i∉ns:=(S.en.find i).mp hr
  have rm:=S.rm
  have ln:=FI T (hashInt i) (.int i k) n0 b2 b3 b1 (by rcases T.mo with h | h | h <;> rw [h] at rm ⊢ <;> omega)
  rw [ln]
  dsimp only
  (refine wpAny_bind (wpAny_of_eq (a:=()) rfl ?_))
  obtain ⟨L',T',pm⟩:=T.put (hashInt i) (.int i k) n0 b2 b3 (wZ _ _ _) (by rcases T.mo with h | h | h <;> rw [h] at rm ⊢ <;> omega)
  have fl:(t.put (pos t.mask (hashInt i) n0)).1.mask=t.mask∧(t.put (pos t.mask (hashInt i) n0)).1.plain=t.plain∧(t.put (pos t.mask (hashInt i) n0)).1.led=t.led:=⟨rfl,rfl,rfl⟩
  generalize t.put (pos t.mask (hashInt i) n0)=tp at T' fl ⊢
  obtain ⟨t',p⟩:=tp
  dsimp only at T' fl ⊢
  obtain ⟨f1,f2,f3⟩:=fl
  obtain ⟨ns',p1,p2⟩:∃ns',(i::ns).Perm ns'∧eK (SetTable.insertAt es p (hashInt i,.int i k)).toList ns':=by
   refine eK.perm (es:=(hashInt i,.int i k)::es.toList) ?_ (.cons S.en)
   rw [T'.en,T.en]
   exact (pm.map (·.2)).symm
  have nd':ns'.Nodup:=p1.nodup_iff.mp (List.nodup_cons.mpr ⟨hm,S.nd⟩)
  have lk:ns'.length=ns.length + 1:=by rw [←p1.length_eq];rfl
  rw [f2,S.pl]
  simp only [if_true]
  (refine wpAny_bind (wpAny_of_eq (a:=true) rfl ?_))
  simp only [if_true]
  have esz:(SetTable.insertAt es p (hashInt i,Value.int i k)).size=ns'.length:=by rw [←Array.length_toList,p2.length]
  refine wpAny_bind (wpAny_storeSet_of S.at_ rfl ?_ (by rw [esz,sizeLine_eq];omega))
  have hg:=Heap.get?_update_self (Obj.putSet (SetTable.insertAt es p (hashInt i,.int i k)) t') S.at_ rfl
  have hfill:t'.fill=ns'.length:=by
   unfold SetTable.fill
   rw [T'.dm,←Array.length_toList,T'.pl,List.length_map,mD T',esz]
   rfl
  split
  ·rename_i c
   simp only [Bool.not_false,Bool.true_and] at c
   unfold SetTable.tooFull at c
   rw [hfill,f1,decide_eq_true_eq] at c
   have hW:(SetTable.sizeAbove (SetTable.grown ns'.length)=32∧ns'.length=5)∨(SetTable.sizeAbove (SetTable.grown ns'.length)=128∧ns'.length=19):=by
    unfold SetTable.grown
    rw [if_neg (by omega)]
    rcases T.mo with h | h | h
    ·rw [h] at c rm
     have:ns'.length=5:=by omega
     rw [this]
     exact .inl ⟨yF,rfl⟩
    ·rw [h] at c rm
     have:ns'.length=19:=by omega
     rw [this]
     exact .inr ⟨yG,rfl⟩
    ·rw [h] at c;omega
   have hmo:kM (SetTable.sizeAbove (SetTable.grown ns'.length) - 1):=by rcases hW with ⟨h,_⟩ | ⟨h,_⟩ <;> rw [h];exact .inr (.inl rfl);exact .inr (.inr rfl)
   rw [esz]
   obtain ⟨t2,es2,L2,g1,g2',g3,g4,g5,g6⟩:=Cp (t:=t') (es:=SetTable.insertAt es p (hashInt i,.int i k)) hmo (by rw [esz];rcases hW with ⟨h,h'⟩ | ⟨h,h'⟩ <;> rw [h] <;> omega)
   rw [g1]
   dsimp only
   (refine wpAny_bind (wpAny_of_eq (a:=()) rfl ?_))
   obtain ⟨ns2,r1,r2⟩:=p2.perm g6.symm
   have es2z:es2.size=ns'.length:=by rw [←Array.length_toList,r2.length,r1.length_eq]
   refine wpAny_bind (wpAny_storeSet_of (s:={s with heap:=s.heap.update a (Obj.putSet (SetTable.insertAt es p (hashInt i,.int i k)) t')}) hg rfl ?_ (by rw [es2z,sizeLine_eq];omega))
   have hg2:=Heap.get?_update_self (Obj.putSet es2 t2) hg rfl
   refine wpAny_pure (wpAny_pure (q2 hm _ ns2 _ _ _ ((Heap.SameBut.update _ _ _).trans (Heap.SameBut.update _ _ _)) (p1.trans r1) ⟨hg2,⟨L2,g5⟩,g4.trans (f2.trans S.pl),g3.trans (f3.trans S.ld),?_,r2,r1.nodup_iff.mp nd'⟩))
   rw [←r1.length_eq,g2']
   rcases hW with ⟨h,h'⟩ | ⟨h,h'⟩ <;> rw [h,h'] <;> omega
  ·rename_i c
   simp only [Bool.not_false,Bool.true_and] at c
   unfold SetTable.tooFull at c
   rw [hfill,f1,decide_eq_true_eq] at c
   exact wpAny_pure (wpAny_pure (q2 hm _ ns' _ _ _ (Heap.SameBut.update _ _ _) p1 ⟨hg,⟨L',T'⟩,f2.trans S.pl,f3.trans S.ld,by rw [f1];omega,p2,nd'⟩))
end
theorem jg.keep {h h':Heap}{a:Addr}{led:Bool}{ns:List Int}{es:Array (Int×Value)}{ep:Nat}{t:SetTable}(S:jg h a led ns es ep t) (e:∀o,h.get? a=some o→h'.get? a=some o):jg h' a led ns es ep t:=
 ⟨e _ S.at_,S.tab,S.pl,S.ld,S.rm,S.en,S.nd⟩
section
variable {w:World}{prog:Program}{R:Result→Shared→Prop}{A:Around}{I:Addr}{fp wr:List Addr}{G:Array GenState→Array GenState→Prop}{n:Nat}{P:Nat→Value→Prop}{St:Nat→Shared→Prop}
theorem CH (W:WalksS prog w A.in1 I fp wr G n P St) (S:Addr) (hSf:S∉fp) (val:Nat→Int) (hval:∀i v,P i v→∃t,v=.int (val i) t) (hn:n≤76){led:Bool}:
  ∀(k i:Nat) (s:Shared) (ns:List Int) (es:Array (Int×Value)) (ep:Nat) (t:SetTable),n - i=k→i≤n→St i s→jg s.heap S led ns es ep t→(∀d,d∈ns↔d∈(List.range i).map val)→
   (∀s' ns' es' ep' t',Moved (S::wr) G s s'→jg s'.heap S led ns' es' ep' t'→(∀d,d∈ns'↔d∈(List.range n).map val)→R (.ok (.ret .none)) s')→
   (codeAny (model prog w) A (.builtin "set.update.loop" ⟨[.ref S,.ref I],[]⟩) R s):=by
 (have hSw:S∉wr:=fun h=>hSf (W.sub _ h))
 (have hsub:∀b∈wr,b∈S::wr:=fun b hb=>List.mem_cons_of_mem _ hb)
 intro k
 induction k with
 | zero=>
  intro i s ns es ep t hk hi hst hS hm hR
  have hin:i=n:=by omega
  subst hin
  refine codeAny_builtin PyProof.Rows.F.entry_set_update_loop ?_
  rw [Around.under_plainId PyProof.Rows.F.plain_set_update_loop _]
  (show wpAny _ A.in1 (pyNext (.ref I) >>= _) _ _ s)
  refine wpAny_bind (W.done s _ _ hst fun s' hmv=>?_)
  (show wpAny _ A.in1 (ret Value.none) _ _ s')
  exact wpAny_pure (hR s' ns es ep t (hmv.mono hsub) (hS.keep fun o e=>hmv.heap S o hSw e) hm)
 | succ k ih=>
  intro i s ns es ep t hk hi hst hS hm hR
  have hlt:i < n:=by omega
  have hlen:ns.length≤i:=by
   have:=List.Nodup.length_le_of_subset hS.nd (fun d hd=>(hm d).mp hd)
   simpa using this
  refine codeAny_builtin PyProof.Rows.F.entry_set_update_loop ?_
  rw [Around.under_plainId PyProof.Rows.F.plain_set_update_loop _]
  (show wpAny _ A.in1 (pyNext (.ref I) >>= _) _ _ s)
  refine wpAny_bind (W.item i s _ _ hlt hst fun v s' hP hst' hmv=>?_)
  obtain ⟨tk,rfl⟩:=hval i v hP
  have hS':=hS.keep (h':=s'.heap) fun o e=>hmv.heap S o hSw e
  have mem':∀(ns':List Int),(∀d,d∈ns'↔d=val i∨d∈ns)→∀d,d∈ns'↔d∈(List.range (i + 1)).map val:=fun ns' h d=>by
   rw [h d,hm d,List.range_succ,List.map_append,List.mem_append]
   simp only [List.map_cons,List.map_nil,List.mem_singleton]
   exact Or.comm
  show wpAny _ A.in1 (holding [.int (val i) tk] (setAdd S (.int (val i) tk)) >>= _) _ _ s'
  (refine wpAny_bind (wpAny_holding ?_))
  unfold setAdd
  refine wpAny_holding ?_
  (refine wpAny_bind (wpAny_pyHash_int ?_))
  refine add_int (s:={s' with toks:=s'.toks + 1}) hS' (by omega) (fun hin=>?_) (fun hin h' ns' es' ep' t' hsb hpm hS2=>?_)
  ·refine wpAny_pure ⟨plainId_quiet PyProof.Rows.F.plain_set_update_loop _,ih (i + 1) _ ns es ep t (by omega) hlt (W.frame _ s' _ _ hst' (Nat.le_succ _) fun b hb o e=>e) hS' (mem' ns fun d=>⟨.inr,fun h=>h.elim (fun h=>h▸hin) id⟩) fun s'' ns'' es'' ep'' t'' hm'' hS'' hmm=>?_⟩
   exact hR s'' ns'' es'' ep'' t'' (Moved.trans W.gtrans ((hmv.mono hsub).then_heap (Nat.le_succ _) fun b o hb e=>e) hm'') hS'' hmm
  ·refine wpAny_pure ⟨plainId_quiet PyProof.Rows.F.plain_set_update_loop _,ih (i + 1) _ ns' es' ep' t' (by omega) hlt (W.frame _ s' _ _ hst' (Nat.le_succ _) fun b hb o e=>?_) hS2 (mem' ns' fun d=>?_) fun s'' ns'' es'' ep'' t'' hm'' hS'' hmm=>?_⟩
   ·(rw [hsb.2 b (fun h:b=S=>hSf (by rw [←h];exact hb))];exact e)
   ·rw [←hpm.mem_iff,List.mem_cons]
   ·refine hR s'' ns'' es'' ep'' t'' (Moved.trans W.gtrans ((hmv.mono hsub).then_heap (Nat.le_succ _) fun b o hb e=>?_) hm'') hS'' hmm
    (rw [hsb.2 b (fun h:b=S=>hb (by rw [h];exact List.mem_cons_self))];exact e)
end
theorem AN {h:Heap}{a:Addr}{led:Bool}(e:h.get? a=some {cls:=.type "set",dict:=none,data:=.set #[] 0 (.fresh 0 0 led)}):jg h a led [] #[] 0 (.fresh 0 0 led):=
 ⟨e,⟨[],⟨rfl,rfl,rfl,List.Pairwise.nil,(fun _ h=>nomatch h),.inl rfl,Nat.zero_le _,(fun _ h=>nomatch h)⟩⟩,rfl,rfl,(show 0 * 5 < 7 * 3 by decide),.nil,List.nodup_nil⟩
section
variable {w:World}{prog:Program}{A:Around}{s:Shared}{E:Value→Shared→Prop}
theorem uH {l:Addr}{items:Array Value}{ds:List Int}{Q:Value→Shared→Prop}(hh:A.handled=none) (hl:s.heap.IsTuple l items) (hz:items.size=ds.length) (hi:∀(i:Nat) (v:Value),items[i]?=some v→∃t,v=.int (ds.getD i 0) t) (hn:ds.length≤76)
  (h:∀(h':Heap) (tk:Nat) ks es ep t,jg h' s.heap.objs.size (cJ w) ks es ep t→(∀d,d∈ks↔d∈ds)→(∀b o,b < s.heap.objs.size→s.heap.get? b=some o→h'.get? b=some o)→Q (.ref s.heap.objs.size) {s with heap:=h',toks:=tk}):
  (wpAny (model prog w) A (call (.type "set") [.ref l]) Q E s):=by
 (obtain ⟨c,tl,hmro⟩:=F.called_set.mro)
 (have hmade:=F.called_set.made)
 have hsub:=F.called_set.sub
 (refine wpAny_call (codeAny_of_tree ?_))
 (show wpAny _ _ (callAny (.type "set") _) _ _ _)
 (refine wpAny_pure ⟨Code.quiet_builtin _ (by decide +kernel),codeAny_builtin F.entry_type_call ?_⟩)
 (rw [Around.under_plain (weight_type_call_type "set" [.ref l] []) rfl])
 (have h1:=F.called_set.notType)
 (have h2:=F.called_set.canCreate)
 have hct:=PySem.F.typeCall_set_1 (.ref l)
 (repeat (any_goals (first | assumption | wp_step)))
 refine codeAny_mono (xF (.ref l) (E:=E) (Q₁:=fun obj s₁=>obj=.ref s.heap.objs.size∧s₁={s with heap:=s.heap.push (eu (cJ w))}) ⟨rfl,rfl⟩) fun r s₁ hr=>?_
 cases r with
 | error e=>exact hr
 | ok fl=>
  cases fl with
  | ret obj=>
   obtain ⟨rfl,rfl⟩:=hr
   have hS:(s.heap.push (eu (cJ w))).get? s.heap.objs.size=some (eu (cJ w)):=Heap.get?_push_size _ rfl
   have hT:Shared.TypeIs {s with heap:=s.heap.push (eu (cJ w))} (.ref s.heap.objs.size) "set":=⟨_,hS,rfl⟩
   (have hli:=F.called_set.init.lookup)
   (have hbi:=F.called_set.init.bind (.ref s.heap.objs.size))
   (repeat (any_goals (first | assumption | wp_step)))
   refine codeAny_mono (codeAny_call_builtin (R:=wants (fun r s₂=>r=.none∧∃h' tk ks es ep t,s₂={s with heap:=h',toks:=tk}∧jg h' s.heap.objs.size (cJ w) ks es ep t∧(∀d,d∈ks↔d∈ds)∧
     (∀b o,b < s.heap.objs.size→s.heap.get? b=some o→h'.get? b=some o)) E) F.called_set.init.plain F.entry_set_init ((check_set_init_1 hT ?_))) fun r₂ s₂ hr₂=>?_
   ·obtain ⟨ol,hol,hcl,nl,hdl⟩:=id hl
    have hol':(s.heap.push (eu (cJ w))).get? l=some ol:=Heap.get?_push_of_some _ hol
    have hsls:=ud
    have hslf:=uc
    have hne:(Value.type "tuple" == Value.type "dict")=false:=by decide
    have hl1:(s.heap.push (eu (cJ w))).IsTuple l items:=⟨_,hol',hcl,nl,hdl⟩
    have hTl:Shared.TypeIs {s with heap:=s.heap.push (eu (cJ w))} (.ref l) "tuple":=⟨_,hol',hcl⟩
    (unfold Builtin.«set.__init__» noKeywords Builtin.Frozenset.updateFrom)
    generalize hPI:pyIter=PI
    wp_walk
    subst hPI
    refine (wpAny_pyIter_tuple hl1 ?_)
    refine (wpAny_bind (wpAny_runValue ?_))
    (have hlS:l < s.heap.objs.size:=Heap.lt_size hol)
    have z1:(s.heap.push (eu (cJ w))).objs.size=s.heap.objs.size + 1:=Heap.size_push _ _
    have hne1:l≠(s.heap.push (eu (cJ w))).objs.size:=by rw [z1];exact Nat.ne_of_lt (Nat.lt_succ_of_lt hlS)
    have hSf:s.heap.objs.size∉[(s.heap.push (eu (cJ w))).objs.size,l]:=by
     rw [z1]
     simp only [List.mem_cons,List.not_mem_nil,or_false,not_or]
     (exact ⟨Nat.ne_of_lt (Nat.lt_succ_self _),Nat.ne_of_gt hlS⟩)
    have hno:∀b,s.heap.objs.size≤b→s.heap.get? b=none:=fun b hb=>by
     cases q:s.heap.get? b with
     | none=>rfl
     | some o=>exact absurd (Heap.lt_size q) (Nat.not_lt.mpr hb)
    have hval:∀(i:Nat) (v:Value),items[i]?=some v→∃t,v=.int (ds.getD i 0) t:=hi
    have all:(List.range items.size).map (fun i=>ds.getD i 0)=ds:=by
     refine List.ext_getElem (by simp [hz]) fun i a b=>?_
     simp [b]
    refine CH (A:=A.in1.in1) (led:=cJ w) ((Walks.tuple (A:=A.in1.in1.in1) (by simp [hh]) (s.heap.push (eu (cJ w))).objs.size l hne1 items).toS) s.heap.objs.size hSf (fun i=>ds.getD i 0) hval (by omega) items.size 0 _ [] #[] 0 (.fresh 0 0 (cJ w)) (by omega) (Nat.zero_le _) ⟨⟨_,Heap.get?_push_size _ rfl,rfl,rfl⟩,hl1.push _⟩ (AN (Heap.get?_push_of_some _ hS)) (fun d=>by simp) fun s' ks es ep t hm hS' hmem=>?_
    ·rw [all] at hmem
     (obtain ⟨h',g',d',tk',os'⟩:=s')
     (have eg:g'=s.gens:=hm.gens)
     (have ed:d'=s.drawn:=hm.drawn)
     have eo:os'=s.os:=hm.os
     subst eg;subst ed;subst eo
     show wpAny _ _ _ _ _ _
     refine wpAny_pure ?_
     (show wpAny _ _ (ret Value.none) _ _ _)
     refine wpAny_pure ⟨rfl,h',tk',ks,es,ep,t,rfl,hS',hmem,fun b o hb e=>?_⟩
     refine hm.heap b o ?_ (Heap.get?_push_of_some _ (Heap.get?_push_of_some _ e))
     rw [z1]
     simp only [List.mem_cons,List.not_mem_nil,or_false,not_or]
     exact ⟨Nat.ne_of_lt hb,Nat.ne_of_lt (Nat.lt_succ_of_lt hb)⟩
   ·cases r₂ with
    | error e=>exact hr₂
    | ok fl₂=>
     cases fl₂ with
     | ret r=>
      obtain ⟨rfl,h',tk,ks,es,ep,t,rfl,hS',hm',hk'⟩:=hr₂
      (repeat (any_goals (first | assumption | wp_step)))
      exact h _ _ _ _ _ _ hS' hm' hk'
     | _=>exact hr₂.elim
  | _=>exact hr.elim
end
end DL
namespace DL
open PySem PySem.Spec PyProof.Rows L2 ST DX
open PySem.W (KasT kas_sort kas_ask)
theorem jg.wk {h:Heap}{a:Addr}{led:Bool}{ns:List Int}{es:Array (Int×Value)}{ep:Nat}{t:SetTable}(S:jg h a led ns es ep t):iV h a led es ep t:=⟨S.at_,S.tab,S.pl,S.ld⟩
def mE:D→Int
 | .int i=>i
 | _=>0
theorem CF {ds:List D}(h:ds.all isInt=true):ds=(ds.map mE).map .int:=by
 induction ds with
 | nil=>rfl
 | cons d r ih=>
  rw [List.all_cons,Bool.and_eq_true] at h
  cases d with
  | int i=>rw [List.map_cons,List.map_cons,←ih h.2];rfl
  | _=>cases h.1
abbrev i_ (X:Cx) (a:Addr) (ms:List Int):HO:=.ext fun h=>∃ns es ep t,jg h a (cJ X.w) ns es ep t∧∀d,d∈ns↔d∈ms
theorem int_at {K:PySem.W.Frag}{J:Hp}{ms:List Int}{vs:List V}{us:List Value}(rs:aG K J (ms.map .int) vs) (rv:Vals vs us):∀(i:Nat) (v:Value),us.toArray[i]?=some v→∃t,v=.int (ms.getD i 0) t:=fun i v q=>by
 have l1:vs.length=us.length:=rv.length
 have l2:(ms.map D.int).length=vs.length:=rs.length
 have hi:i < us.length:=by
  have:=(Array.getElem?_eq_some_iff.mp q).1
  simpa using this
 have e:us.getD i Value.none=v:=by
  simp at q
  simp [List.getD,q]
 have r1:=ez rs (i:=i) (by omega)
 have r2:=eB rv (i:=i) (by omega)
 rw [e] at r2
 have lm:i < ms.length:=by rw [List.length_map] at l2;omega
 have e2:cK (ms.map D.int) i=.int (ms.getD i 0):=by
  unfold cK
  simp [List.getD,lm]
 rw [e2] at r1
 generalize vs.getD i V.non=vv at r1 r2
 cases r1
 exact r2
section
variable {X:Cx}
theorem sW (hc:X.calm=true):bN X (.type "set") (fun xs H Q=>∃p vs ms J0,xs=[.ref p]∧cT X.K H p vs∧aG X.K J0 (ms.map .int) vs∧ms.length < 64∧∀l,H l=none→Q (.ref l) (upd H l (i_ X l ms))):=by
 intro pins s σ H xs us Q I r h
 obtain ⟨p,vs,ms,J0,rfl,hq,rs,l64,q⟩:=h
 obtain ⟨u,rfl,rx⟩:=vals1 r
 cases rx
 have hh:X.A.handled=none:=I.ok.hd hc
 have fr:H s.heap.objs.size=none:=I.hok.fresh (Nat.le_refl _)
 obtain ⟨its,r',pt,hz⟩:=I.tuple hq
 have lm:(ms.map D.int).length=vs.length:=rs.length
 rw [List.length_map] at lm
 refine uH hh pt (by simp [←r'.length,lm]) (int_at rs r') (by omega) fun h' tk ks es ep t S hm kp=>?_
 exact ⟨.ref s.heap.objs.size,_,I.laid (t':=tk) (fun b o e=>kp b o (Heap.lt_size e) e) (Nat.le_refl _) (show cg X.prog X.w _ _ _ (i_ X s.heap.objs.size ms) from ⟨⟨ks,es,ep,t,S,hm⟩,⟨_,S.at_⟩,fun h1 h2 ⟨ks,es,ep,t,S,hm⟩ e=>⟨ks,es,ep,t,S.keep e,hm⟩⟩),rfl,q _ fr⟩
theorem eK.reps {es:List (Int×Value)}{ns:List Int}(h:eK es ns):∃vs,(∀(K:PySem.W.Frag) (J:Hp),aG K J (ns.map .int) vs)∧Vals vs (es.map (·.2))∧IntsAre (es.map (·.2)) ns:=by
 induction h with
 | nil=>exact ⟨[],fun K J=>.nil,.nil,.nil⟩
 | @cons i k es ns _ ih=>
  obtain ⟨vs,h1,h2,h3⟩:=ih
  exact ⟨.int i::vs,fun K J=>.cons (.int _) (h1 K J),.cons ⟨k,rfl⟩ h2,.cons i k h3⟩
theorem yl (hc:X.calm=true):bN X (.builtin "sorted") (fun xs H Q=>∃p ms,xs=[.ref p]∧H p=some (i_ X p ms)∧ms.length < 64∧∀l vs',H l=none→(∀J0,aG X.K J0 (cu (ms.map .int)) vs')→Q (.ref l) (upd H l (.lst vs'))):=by
 intro pins s σ H xs us Q I r h
 obtain ⟨p,ms,rfl,hp,l64,q⟩:=h
 obtain ⟨u,rfl,rx⟩:=vals1 r
 cases rx
 have hh:X.A.handled=none:=I.ok.hd hc
 obtain ⟨⟨ns,es,ep,t,S,hm⟩,_⟩:=(show cg X.prog X.w H s.heap p (i_ X p ms) from I.hok p _ hp)
 obtain ⟨ns',pm,en'⟩:=S.en.perm (ly X.w p ep es).symm
 have nd':ns'.Nodup:=pm.nodup_iff.mp S.nd
 have hm':∀d,d∈ns'↔d∈ms:=fun d=>by rw [←pm.mem_iff,hm d]
 obtain ⟨vs,rs,rv,hI⟩:=en'.reps
 have hv:ig X.w p ep es=(fL X.w p ep es).toList.map (·.2):=rfl
 rw [←hv] at rv hI
 generalize hits:ig X.w p ep es=its at rv hI
 have l1:vs.length=its.length:=rv.length
 have l2:(ns'.map D.int).length=vs.length:=(rs X.K H).length
 have len:ns'.length≤ms.length:=List.Nodup.length_le_of_subset nd' fun d hd=>(hm' d).mp hd
 have les:es.size=ns'.length:=by rw [←Array.length_toList,S.en.length,pm.length_eq]
 have ndD:(ns'.map D.int).Nodup:=List.pairwise_map.mpr (List.Pairwise.imp (fun h e=>h (by cases e;rfl)) nd')
 have hmD:∀d,d∈ns'.map D.int↔d∈ms.map D.int:=fun d=>by simp only [List.mem_map,hm']
 have allI:∀d∈ms.map D.int,ir .i d:=fun d hd=>by obtain ⟨i,_,rfl⟩:=List.mem_map.mp hd;exact ⟨i,rfl⟩
 have out:=xM (fY .i) allI ndD hmD
 have lm:(ns'.map D.int).length=ns'.length:=List.length_map _
 generalize hk:ns'.map D.int=ks' at *
 have fin:∀(h':Heap) (tk:Nat) (l:Addr) (n:Nat) (ot:List Value) (vs':List V),vs'.length=vs.length→Vals vs' ot→(∀J0,aG X.K J0 (bg ks') vs')→(∀b o,s.heap.get? b=some o→h'.get? b=some o)→s.heap.objs.size≤l→h'.get? l=some (seqObj "list" ot.toArray n)→EP X pins σ Q (.ref l) {s with heap:=h',toks:=tk}:=fun h' tk l n ot vs' lv rv' rr kp hl hg=>by
  refine ⟨.ref l,_,I.laid (t':=tk) kp hl (show cg X.prog X.w _ _ _ (.lst vs') from ⟨by rw [lv,sizeLine_eq];omega,ot,n,rv',by simpa [seqObj] using hg⟩),rfl,q l vs' (I.hok.fresh hl) (by rw [←out];exact rr)⟩
 refine sortedS (κ:=oneType') (q:=ltB ks') (vs:=its) hits hh S.wk (by omega) ?_ fun h' tk l n kp hl hg=>?_
 ·by_cases h2:its.length < 2
  ·exact .inl h2
  ·refine .inr ⟨by omega,by omega,fun h' tk C kp cc=>?_,fun h' tk kp i j C hi hj cc=>?_⟩
   ·have hl:2≤its.length:=by omega
    clear fin l1 rv hits
    match its,hI,hl with
    | v1::v2::r,hI,_=>rw [keyKind_ints hI];exact wpAny_pure cc
   ·have hi':i < ks'.length:=by omega
    have hj':j < ks'.length:=by omega
    have ai:=allI _ ((hmD _).mp (dZ hi'))
    have aj:=allI _ ((hmD _).mp (dZ hj'))
    have r1:=ez (rs X.K H) hi'
    have r2:=ez (rs X.K H) hj'
    have v1:=eB rv (i:=i) (by omega)
    have v2:=eB rv (i:=j) (by omega)
    show wpAny _ _ (keyLt' oneType' (its.getD i Value.none) (its.getD j Value.none)) _ _ _
    rw [keyLt'_oneType]
    have e:ltB ks' i j=(dI (cK ks' i) (cK ks' j)).getD false:=rfl
    rw [e] at cc
    obtain ⟨a,ea⟩:=ai
    obtain ⟨b,eb⟩:=aj
    rw [ea] at r1 cc
    rw [eb] at r2 cc
    generalize vs.getD i V.non=wi at r1 v1
    generalize vs.getD j V.non=wj at r2 v2
    cases r1;cases r2
    obtain ⟨t1,q1⟩:=v1
    obtain ⟨t2,q2⟩:=v2
    rw [q1,q2]
    refine oneLt_int ?_
    unfold dI at cc
    exact cc
 ·by_cases h2:its.length < 2
  ·rw [if_pos h2] at hg
   refine fin h' tk l n its vs rfl rv ?_ kp hl hg
   unfold bg
   rw [if_pos (by omega)]
   exact fun J0=>rs _ J0
  ·rw [if_neg h2] at hg
   have ib:∀i∈(aV (ltB ks') (kas_sort ks'.length)).toList,i < ks'.length:=fun i hi=>by
    have:=((d_ (n:=ks'.length) (by omega)).run (ltB ks'):d9 _ _)
    have:=(Array.Perm.mem_iff this).mp (Array.mem_toList_iff.mp hi)
    simpa using this
   have e1:iz (ltB ks') its=(aV (ltB ks') (kas_sort ks'.length)).toList.map fun i=>its.getD i Value.none:=by unfold iz;rw [l2,l1]
   rw [e1] at hg
   refine fin h' tk l n _ _ ?_ (mG rv _ fun i hi=>l2▸ib i hi) ?_ kp hl hg
   ·rw [List.length_map,←l2]
    have:=((d_ (n:=ks'.length) (by omega)).run (ltB ks'):d9 _ _).size_eq
    simpa using this
   ·unfold bg
    rw [if_neg (by omega)]
    exact fun J0=>mh (rs _ J0) _ ib
end
end DL
namespace DL
open PySem PySem.Spec PyProof.Rows L2 ST DX
theorem Be:bootBuiltins "set"=some (.type "set"):=by decide +kernel
section
variable {X:Cx}{c:C}{e:Expr}{pos pos2:Pos}
def f_:List R→M R
 | [.d (.tup ys)]=>if oz ys=true then .ok (.l .fresh (cu ys)) else if lW ys=true then .ok (.l .fresh (cu ys)) else .bad
 | _=>.bad
def JO (X:Cx):List V→Hp→VK→Prop:=fun xs H Q=>∃p vs ms J0,xs=[.ref p]∧cT X.K H p vs∧aG X.K J0 (ms.map .int) vs∧ms.length < 64∧∀l,H l=none→Q (.ref l) (upd H l (i_ X l ms))
def JP (X:Cx):List V→Hp→VK→Prop:=fun xs H Q=>∃p vs ds J0,xs=[.ref p]∧cT X.K H p vs∧aX J0 H∧aG X.K J0 ds vs∧oz ds=true∧∀l,H l=none→Q (.ref l) (upd H l (nq X J0 l ds))
def Eh (X:Cx):List V→Hp→VK→Prop:=fun xs H Q=>∃p ms,xs=[.ref p]∧H p=some (i_ X p ms)∧ms.length < 64∧∀l vs',H l=none→(∀J0,aG X.K J0 (cu (ms.map .int)) vs')→Q (.ref l) (upd H l (.lst vs'))
def Ei (X:Cx):List V→Hp→VK→Prop:=fun xs H Q=>∃p ds J0,xs=[.ref p]∧H p=some (nq X J0 p ds)∧aX J0 H∧oz ds=true∧∀l vs',H l=none→aG X.K J0 (cu ds) vs'→Q (.ref l) (upd H l (.lst vs'))
theorem DU {p p2:Pos}{gs:G (List R)}(hu:X.A.units + 64 < cLine) (ha:iF X c [e] gs) (hm:X.mg "sorted"=none) (hm2:X.mg "set"=none) (hK:X.K=c.K:=by rfl) (hc:X.calm=true:=by rfl) (hg:Gl X "sorted":=by rfl) (hg2:Gl X "set":=by rfl)
  (he:starEach [.Call (.Name "set" p2) [e] [] pos2] X.env=(false,eval (.Call (.Name "set" p2) [e] [] pos2) X.env)::starEach [] X.env:=by rfl) (hpl:(backTo pos (starEach [] X.env)).any (·.1)=false:=by rfl)
  (he2:starEach [e] X.env=(false,eval e X.env)::starEach [] X.env:=by rfl) (hpl2:(backTo pos2 (starEach [] X.env)).any (·.1)=false:=by rfl):
  PD X c (.Call (.Name "sorted" p) [.Call (.Name "set" p2) [e] [] pos2] [] pos) (gN f_ gs):=by
 have h1:=jA (p:=p2) (pos:=pos2) (bN.or (show bN X (.type "set") (JP X) from Bj hu hc) (show bN X (.type "set") (JO X) from sW hc)) hg2 hm2 Be ha (by decide) (by decide) he2 hpl2
 have h2:=nc (p:=p) (pos:=pos) (bN.or (show bN X (.builtin "sorted") (Ei X) from zT hu hc) (show bN X (.builtin "sorted") (Eh X) from yl hc)) hg hm kh (fD h1 ia he) (by decide) (by decide) he hpl
 refine Ax (ta:=xP) (f:=f_) (r:=fun vs H1 Q=>(JP X vs H1 fun v H2=>Ei X [v] H2 Q∨Eh X [v] H2 Q)∨(JO X vs H1 fun v H2=>Ei X [v] H2 Q∨Eh X [v] H2 Q)) h2 rfl ?_
 intro He J H xs vs Q hp rs w
 unfold f_ at w
 split at w
 ·rename_i ys
  obtain ⟨v,rfl,r⟩:=rs.one
  cases r with
  | tup h hs=>
   have hT:∀{p:Addr}{us:List V},cT c.K J p us→cT X.K H p us:=fun h=>by rw [hK];exact eU hp.sub h
   have fin:∀(o:Addr→HO) (w:∀w J' H',Ext J H J' H'→RR c H J' H' (.l .fresh (cu ys)) w→Q w H') (l l2:Addr) (vs':List V),H l=none→upd H l (o l) l2=none→aG X.K J (cu ys) vs'→Q (.ref l2) (upd (upd H l (o l)) l2 (.lst vs')):=fun o w l l2 vs' hl h2 rr=>by
    rw [hK] at rr
    have e1:=Ext.new hp.sub hl (o l)
    have e2:=Ext.new e1.sub h2 (.lst vs')
    exact w _ _ _ (e1.trans e2) (RR.from e1.h (i9 (hp.ext e1) h2 rr))
   split at w
   ·rename_i ok
    exact .inl ⟨_,_,ys,J,rfl,hT h,hp.sub,by rw [hK];exact hs,ok,fun l hl=>.inl ⟨l,ys,J,rfl,b9,(Ext.new hp.sub hl _).sub,ok,fun l2 vs' h2 rr=>fin (fun l=>nq X J l ys) w l l2 vs' hl h2 rr⟩⟩
   ·split at w
    ·rename_i ok
     unfold lW at ok
     rw [Bool.and_eq_true] at ok
     have o1:=of_decide_eq_true ok.1
     have ey:=CF ok.2
     refine .inr ⟨_,_,ys.map mE,J,rfl,hT h,by rw [hK,←ey];exact hs,by rw [List.length_map];exact o1,fun l hl=>.inr ⟨l,ys.map mE,rfl,b9,by rw [List.length_map];exact o1,fun l2 vs' h2 rr=>?_⟩⟩
     rw [←ey] at rr
     exact fin (fun l=>i_ X l (ys.map mE)) w l l2 vs' hl h2 (rr _)
    ·exact w.elim
 ·exact w.elim
theorem tR {p p2:Pos}{gs:G (List R)}(hu:X.A.units + 64 < cLine) (ha:jK X c [e] gs) (hm:X.mg "sorted"=none) (hm2:X.mg "set"=none) (hK:X.K=c.K:=by rfl) (hc:X.calm=true:=by rfl) (hg:Gl X "sorted":=by rfl) (hg2:Gl X "set":=by rfl)
  (he:starEach [.Call (.Name "set" p2) [e] [] pos2] X.env=(false,eval (.Call (.Name "set" p2) [e] [] pos2) X.env)::starEach [] X.env:=by rfl) (hpl:(backTo pos (starEach [] X.env)).any (·.1)=false:=by rfl)
  (he2:starEach [e] X.env=(false,eval e X.env)::starEach [] X.env:=by rfl) (hpl2:(backTo pos2 (starEach [] X.env)).any (·.1)=false:=by rfl):
  QD X c (.Call (.Name "sorted" p) [.Call (.Name "set" p2) [e] [] pos2] [] pos) (gN f_ gs):=⟨DU hu ha.h hm hm2 hK hc hg hg2 he hpl he2 hpl2⟩
end
end DL
namespace DL
open PySem PySem.Spec PyProof.Rows L2 DX
end DL
namespace K55
open PySem DL
def yd:List Str:=["told","least","most"]
def pQ:G O:=(bR (kr (g7 (bx (gN (aS 1 K01.dW) (aq (af 0) aD)))) (kr (bx (g2 (jM fun i j=>.bl (decide (i < j))) (af 0) (af 1))) (bx (g2 (jM fun i j=>.bl (decide (j < i))) (af 0) (af 2))))) qH dG)
def jq (as:List S):M R:=fin (pQ (bA yd as))
def x6:List Str:=["_law_cell_here","_law_many","_law_left","_law_found","_law_k"]
def pM:G O:=(aO (bh 2 (Ab (aq (af 1) aD)))
 (aO (bh 3 (fC aW))
 (aO (eZ (cH (aq (af 1) aD)) (aC 4) (aO (j4 3 2 (g2 dF (af 0) (gN fB (aq (af 2) aD))))
 (bh 0 (g2 fT (af 0) (gC (.int 9))))))
 (bM (gN b_ (aq (af 3) aD))))))
def eW (as:List S):M R:=fin (pM (bA x6 as))
def vj:List Str:=["_law_world_here","_law_order_here","_law_marks","_law_arrows"]
def n6:G O:=(aO (bh 2 (bH 2 [1] (dO (g2 bf (af 0) (gC (.int 1)))) (cY 2 (br (aC 0) (br (aC 1) dz))) cU (bI (aB (af 0) (aB (gN b_ (aq (gN ki (aq (bH 1 [2] (dO (af 1)) (aC 0) cU (g2 bf (af 1) (af 0))) aD)) aD)) aW)))))
 (aO (bh 3 (bH 2 [1] (dO (g2 bf (af 0) (gC (.int 2)))) (cY 2 (br (aC 0) (br (aC 1) dz))) cU (bI (aB (af 0) (aB (gN b_ (aq (gN ki (aq (bH 2 [2] (dO (af 1)) (cY 2 (br (aC 0) (br (aC 1) dz))) cU (bI (aB (g2 bf (af 2) (af 0)) (aB (g2 bf (af 2) (af 1)) aW)))) aD)) aD)) aW)))))
 (bM (bI (aB (g2 bf (af 0) (gC (.int 0))) (aB (gN b_ (aq (af 2) aD)) (aB (gN b_ (aq (af 3) aD)) aW)))))))
def d8 (as:List S):M R:=fin (n6 (bA vj as))
def uh:List Str:=["_law_world_here","_law_cell_here","_law_many","_law_marks","_law_arrows","_law_at","_law_thing","_law_some","_law_name","_law_had","_law_now"]
def nG:G O:=(aO (kj (cY 3 (br (aC 2) (br (aC 3) (br (aC 4) dz)))) (af 0))
 (aO (bR (bx (g2 (cM false) (g2 dh (gN fB (aq (af 3) aD)) (gN fB (aq (af 4) aD))) (gC (.int 0)))) (bM (af 0)) dG)
 (aO (bh 5 (g2 dF (af 1) (g2 dh (gN fB (aq (af 3) aD)) (gN fB (aq (af 4) aD)))))
 (aO (bh 6 (g2 dF (g2 fT (af 1) (gC (.int 6))) (af 2)))
 (aO (bh 7 (af 3))
 (aO (bR (bx (g2 (jM fun i j=>.bl (decide (j≤i))) (af 5) (gN fB (aq (af 3) aD)))) (aO (bh 5 (g2 De (af 5) (gN fB (aq (af 3) aD))))
 (aO (bh 6 (bI (aB (af 6) (aB (g2 dF (g2 fT (af 1) (gC (.int 48))) (af 2)) aW))))
 (bh 7 (af 4)))) dG)
 (aO (kj (cY 2 (br (aC 8) (br (aC 9) dz))) (g2 bf (af 7) (af 5)))
 (aO (bh 10 (gN b_ (aq (gN f_ (aq (g2 dh (af 9) (bI (aB (af 6) aW))) aD)) aD)))
 (aO (bR (bx (g2 (gH false) (af 6) (af 9))) (bh 10 (gN b_ (aq (bH 1 [6] (dO (af 9)) (aC 0) (bx (g2 (cM true) (af 0) (af 1))) (af 0)) aD))) dG)
 (aO (bh 7 (g2 dh (g2 dh (wg pZ (af 7) yT (yU (af 5))) (bI (aB (bI (aB (af 8) (aB (af 10) aW))) aW))) (wg pZ (af 7) (yU (g2 dh (af 5) (gC (.int 1)))) yT)))
 (aO (bR (bx (we "tuple" (af 6))) (bM (bI (aB (af 2) (aB (af 3) (aB (af 7) aW))))) dG)
 (bM (bI (aB (af 2) (aB (af 7) (aB (af 4) aW))))))))))))))))
def eG (as:List S):M R:=fin (nG (bA uh as))
def A5:List Str:=["_law_script","_law_sizes","_law_first","_law_second","_law_marks","_law_names_here","_law_one","_law_way","_law_other"]
def s_:G O:=(aO (bh 2 (gN (aS 2 K51.bW) (aq (af 0) (aq (gC (.int 0)) aD))))
 (aO (bh 3 (gN (aS 2 K51.bW) (aq (af 0) (aq (gC (.int 1)) aD))))
 (aO (bh 4 (gN (aS 2 K51.gj) (aq (g2 fT (af 3) (gC (.int 20))) (aq (g2 bf (fC (aB (gC (.int 1)) (aB (gC (.int 0)) (aB (gC (.int 2)) (aB (gC (.int 3)) aW))))) (g2 dF (af 3) (gC (.int 4)))) aD))))
 (aO (fU 4 (bh 5 (bI (aB (af 4) (aB (gN (aS 2 K51.gj) (aq (gN (aS 2 K51.bW) (aq (af 0) (aq (gC (.int 2)) aD))) (aq (g2 bf (fC (aB (gC (.int 1)) (aB (gC (.int 2)) (aB (gC (.int 0)) (aB (gC (.int 1)) (aB (gC (.int 3)) aW)))))) (g2 dF (g2 fT (af 3) (gC (.int 4))) (gC (.int 5)))) aD))) aW)))))
 (aO (bh 6 (gN (aS 3 K51.eX) (aq (af 5) (aq (g2 bf (af 1) (g2 dF (af 2) (gC (.int 8)))) (aq (bH 1 [0] (cH (aq (gC (.int 6)) aD)) (aC 0) cU (gN (aS 2 K51.bW) (aq (af 1) (aq (g2 dH (gC (.int 3)) (af 0)) aD)))) aD)))))
 (aO (bh 7 (g2 dF (g2 fT (af 2) (gC (.int 8))) (gC (.int 4))))
 (aO (bR (bx (g2 (cM false) (af 7) (gC (.int 0)))) (bM (bI (aB (af 6) (aB (gN (aS 3 K51.eX) (aq (af 5) (aq (g2 bf (af 1) (g2 dF (g2 fT (af 2) (gC (.int 32))) (gC (.int 8)))) (aq (bH 1 [0] (cH (aq (gC (.int 6)) aD)) (aC 0) cU (gN (aS 2 K51.bW) (aq (af 1) (aq (g2 dH (gC (.int 9)) (af 0)) aD)))) aD)))) aW)))) dG)
 (aO (bh 8 (gN (aS 2 K55.d8) (aq (af 6) (aq (gN (aS 2 K55.eW) (aq (gN (aS 2 K51.bW) (aq (af 0) (aq (gC (.int 15)) aD))) (aq (g2 bf (af 6) (gC (.int 0))) aD))) aD))))
 (aO (bR (bx (g2 (jM fun i j=>.bl (decide (j < i))) (af 7) (gC (.int 1)))) (bh 8 (gN (aS 2 K55.eG) (aq (af 8) (aq (gN (aS 2 K51.bW) (aq (af 0) (aq (gC (.int 9)) aD))) aD)))) dG)
 (aO (bR (bx (g2 (cM false) (af 7) (gC (.int 3)))) (bh 8 (gN (aS 2 K55.eG) (aq (af 8) (aq (gN (aS 2 K51.bW) (aq (af 0) (aq (gC (.int 10)) aD))) aD)))) dG)
 (bM (bI (aB (af 6) (aB (af 8) aW))))))))))))))
def ju (as:List S):M R:=fin (s_ (bA A5 as))
end K55
namespace K55
open PySem DL K01 WP K51 K52
theorem sY (a b:Nat):bq (dN a) (dN b)=(a == b):=by
 show ((a:Int) == (b:Int))=_
 by_cases h:a=b
 ·subst h;simp
 ·rw [beq_eq_false_iff_ne.mpr h,beq_eq_false_iff_ne.mpr (by omega)]
structure iT (n:Nat) (w:Wd):Prop where
 mp:∀r∈w.ms,r.2.length≤n∧∀p∈r.2,p < w.m
 ap:∀r∈w.ar,r.2.length≤n∧∀p∈r.2,p.1 < w.m∧p.2 < w.m
abbrev Mi (w:Wd):Prop:=iT 30 w
def em (m:Nat) (x:Nat×Nat):Nat:=if x.1=0 then x.2 else x.2 + m
theorem inN (l:Nat) (xs:List Nat):inD (dN l) (xs.map dN)=decide (l∈xs):=by
 unfold inD
 rw [List.any_map,Bool.eq_iff_iff,List.any_eq_true,decide_eq_true_eq]
 constructor
 ·rintro ⟨x,hx,e⟩
  have e:bq (dN x) (dN l)=true:=e
  rw [sY] at e
  rw [←eq_of_beq e];exact hx
 ·intro h
  exact ⟨l,h,by show bq (dN l) (dN l)=true;rw [sY];simp⟩
theorem Bv (a b:Nat×Nat):bq (dP a) (dP b)=decide (a=b):=by
 have:bq (dP a) (dP b)=(bq (dN a.1) (dN b.1) && (bq (dN a.2) (dN b.2) && true)):=by
  show bq (.tup [dN a.1,dN a.2]) (.tup [dN b.1,dN b.2])=_
  rw [jY,iH,iH,cG]
 rw [this,sY,sY,Bool.eq_iff_iff]
 obtain ⟨a1,a2⟩:=a
 obtain ⟨b1,b2⟩:=b
 simp
theorem HU (l:Nat×Nat) (xs:List (Nat×Nat)):inD (dP l) (xs.map dP)=decide (l∈xs):=by
 unfold inD
 rw [List.any_map,Bool.eq_iff_iff,List.any_eq_true,decide_eq_true_eq]
 constructor
 ·rintro ⟨x,hx,e⟩
  have e:bq (dP x) (dP l)=true:=e
  rw [Bv,decide_eq_true_eq] at e
  rw [←e];exact hx
 ·intro h
  exact ⟨l,h,by show bq (dP l) (dP l)=true;rw [Bv];simp⟩
theorem fp (i j:Int):dh (.d (.int i)) (.d (.int j))=.ok (.d (.int (i + j))):=rfl
theorem Dp {env:Ev}{Q:O→Prop}{g:G R}{i j k:Nat}{xs zs:List D}(h1:env[i]?=some (some (.own zs))) (h2:env[j]?=some (some (.own xs))) (hij:i≠j) (h:g env=.ok (.d (.int k))) (hk:k < xs.length) (lz:zs.length < 1000) (lx:xs.length≤1000)
  (c:Q (.nx ((env.set j (some (.own (xs.eraseIdx k)))).set i (some (.own (zs++[xs[k]])))))):Wp (j4 i j g env) Q:=by
 refine ⟨_,?_,c⟩
 unfold j4
 rw [h1,h2]
 show (if i=j then M.bad else (g env >>= _))=_
 rw [if_neg hij,h,aT]
 show (if 0≤(k:Int)∧(k:Int).toNat < xs.length∧zs.length < sizeLine∧xs.length≤sizeLine then _ else _)=_
 rw [if_pos ⟨by omega,by simpa using hk,Nat.lt_of_lt_of_le lz (e_ (Nat.le_refl _)),e_ lx⟩]
 rw [Int.toNat_natCast,List.getElem?_eq_getElem hk]
def jc:D→Nat
 | .int i=>i.toNat
 | _=>0
def ie:D→Nat×Nat
 | .tup [x,y]=>(jc x,jc y)
 | _=>(0,0)
theorem nA (n:Nat):jc (dN n)=n:=rfl
theorem kW (n:Nat×Nat):ie (dP n)=n:=rfl
theorem back {α:Type}(h:α→D) (u:D→α) (hu:∀x,u (h x)=x){l:List D}(hl:∀d∈l,∃x,d=h x):(l.map u).map h=l:=by
 rw [List.map_map]
 refine (List.map_congr_left (g:=id) fun d hd=>?_).trans (List.map_id _)
 obtain ⟨x,rfl⟩:=hl d hd
 show h (u (h x))=h x
 rw [hu]
theorem t9 {α:Type}(h:α→D) (u:D→α) (hu:∀x,u (h x)=x) (xs:List α):((bg (xs.map h)).map u).map h=bg (xs.map h):=back h u hu fun d hd=>by
 obtain ⟨x,_,rfl⟩:=List.mem_map.mp (kT hd)
 exact ⟨x,rfl⟩
theorem sM {α:Type}(h:α→D) (u:D→α) (hu:∀x,u (h x)=x) (xs:List α):∀y∈(bg (xs.map h)).map u,y∈xs:=fun y hy=>by
 obtain ⟨d,hd,rfl⟩:=List.mem_map.mp hy
 obtain ⟨x,hx,rfl⟩:=List.mem_map.mp (kT hd)
 rw [hu];exact hx
def pF:Fm:=.tc .i (.tc .i .tn)
theorem lO (p:Nat×Nat):ir pF (dP p):=⟨_,rfl,_,_,rfl,⟨_,rfl⟩,_,rfl,_,_,rfl,⟨_,rfl⟩,[],rfl,rfl⟩
theorem An (xs:List Nat) (hl:xs.length < 64):lW (xs.map dN)=true:=by
 unfold lW
 rw [List.length_map,decide_eq_true hl,Bool.true_and,List.all_eq_true]
 intro d hd
 obtain ⟨x,_,rfl⟩:=List.mem_map.mp hd
 rfl
theorem HS (xs:List (Nat×Nat)):∀d∈xs.map dP,g8 d=some .i:=fun d hd=>by
 obtain ⟨x,_,rfl⟩:=List.mem_map.mp hd
 rfl
theorem KG (xs:List (Nat×Nat)) (hl:xs.length < 64):wX (xs.map dP)=true:=by
 have hdp:=Bt xs
 have hc:qw (xs.map dP)=true:=by
  unfold qw
  rw [List.all_eq_true]
  intro x hx
  rw [List.all_eq_true]
  intro y hy
  obtain ⟨a,_,rfl⟩:=List.mem_map.mp hx
  obtain ⟨b,_,rfl⟩:=List.mem_map.mp hy
  exact (fY pF).lt _ _ (lO a) (lO b)
 unfold wX
 rw [hc,decide_eq_true hdp,List.length_map,decide_eq_true hl]
 cases xs with
 | nil=>rfl
 | cons x xs=>
  have hh:DF ((x::xs).map dP)=true:=by
   show gQ .i ((x::xs).map dP)=true
   exact mL (HS (x::xs))
  rw [hh]
  simp
theorem LU (xs:List Nat) (hl:xs.length < 64):ki [.l .fresh (xs.map dN)]=.ok (.l .fresh (bg (xs.map dN))):=by
 show (if wX (xs.map dN)=true then M.ok (R.l .fresh (bg (xs.map dN))) else if lW (xs.map dN)=true then M.ok (R.l .fresh (bg (xs.map dN))) else .bad)=_
 rw [if_pos (An xs hl)]
 split <;> rfl
theorem LV (xs:List (Nat×Nat)) (hl:xs.length < 64):ki [.l .fresh (xs.map dP)]=.ok (.l .fresh (bg (xs.map dP))):=by
 show (if wX (xs.map dP)=true then M.ok (R.l .fresh (bg (xs.map dP))) else if lW (xs.map dP)=true then M.ok (R.l .fresh (bg (xs.map dP))) else .bad)=_
 rw [if_pos (KG xs hl)]
theorem wD {ps:List Nat}{p:Nat}(hp:p < ps.length):bf (.d (.tup (ps.map dN))) (.d (dN p))=.ok (.d (dN (ps.getD p 0))):=by
 have h1:(ps.map dN)[p]?=some (dN (ps.getD p 0)):=by rw [List.getElem?_map,List.getElem?_eq_getElem hp];simp [List.getD,hp]
 exact jZ h1
def gO (w:Wd) (ps:List Nat):Wd:=⟨w.m,w.ms.map fun r=>(r.1,(bg ((r.2.map fun p=>ps.getD p 0).map dN)).map jc),w.ar.map fun r=>(r.1,(bg ((r.2.map fun p=>(ps.getD p.1 0,ps.getD p.2 0)).map dP)).map ie)⟩
theorem vf (w:Wd) (hw:lI w) (n:Nat) (hn:n≤40) (hb:iT n w) (ps:List Nat) (hl:ps.length=w.m):d8 [.d w.d,.d (.tup (ps.map dN))]=.ok (.d (gO w ps).d):=by
 have ml:=hw.ml
 have al:=hw.al
 refine dR (bD (jO (xs:=w.ms) (fun r=>.str r.1) (fun r=>.tup (r.2.map dN)) (fun r=>jJ (r.1,(bg ((r.2.map fun p=>ps.getD p 0).map dN)).map jc)) ?_ (by omega) fun r hr=>?_) rfl ?_)
 ·show (g2 bf (af 0) (gC (.int 1)) _ >>= _)=_
  rw [two (x:=.d w.d) rfl rfl (Ia _ _ _)]
  rfl
 ·obtain ⟨h1,h2⟩:=hb.mp r hr
  refine ⟨_,bE (aL rfl rfl (aL (n1 (n1 (rY (xs:=r.2) (h:=dN) (fun p=>dN (ps.getD p 0)) rfl (by omega) fun p hp=>⟨_,two rfl rfl (wD (by rw [hl];exact h2 p hp)),rfl⟩) (x:=.l .fresh (r.2.map fun p=>dN (ps.getD p 0))) (z:=.l .fresh (bg ((r.2.map fun p=>ps.getD p 0).map dN))) ?_) rfl) rfl bz)) t2,?_⟩
  ·have:=LU (r.2.map fun p=>ps.getD p 0) (by simp;omega)
   rw [List.map_map] at this ⊢
   exact this
  ·unfold jJ
   rw [t9 dN jc nA]
   rfl
 refine bD (jO (xs:=w.ar) (fun r=>.str r.1) (fun r=>.tup (r.2.map dP)) (fun r=>nk (r.1,(bg ((r.2.map fun p=>(ps.getD p.1 0,ps.getD p.2 0)).map dP)).map ie)) ?_ (by omega) fun r hr=>?_) rfl ?_
 ·show (g2 bf (af 0) (gC (.int 2)) _ >>= _)=_
  rw [two (x:=.d w.d) rfl rfl (Mn _ _ _ _)]
  rfl
 ·obtain ⟨h1,h2⟩:=hb.ap r hr
  refine ⟨_,bE (aL rfl rfl (aL (n1 (n1 (jO (xs:=r.2) (fun p=>dN p.1) (fun p=>dN p.2) (fun p=>dP (ps.getD p.1 0,ps.getD p.2 0)) rfl (by omega) fun p hp=>⟨_,bE (aL (two rfl rfl (wD (by rw [hl];exact (h2 p hp).1))) rfl (aL (two rfl rfl (wD (by rw [hl];exact (h2 p hp).2))) rfl bz)) t2,rfl⟩) (x:=.l .fresh (r.2.map fun p=>dP (ps.getD p.1 0,ps.getD p.2 0))) (z:=.l .fresh (bg ((r.2.map fun p=>(ps.getD p.1 0,ps.getD p.2 0)).map dP))) ?_) rfl) rfl bz)) t2,?_⟩
  ·have:=LV (r.2.map fun p=>(ps.getD p.1 0,ps.getD p.2 0)) (by simp;omega)
   rw [List.map_map] at this ⊢
   exact this
  ·unfold nk
   rw [t9 dP ie kW]
   rfl
 refine b8 (bE (aL (two rfl rfl (fN _ _)) rfl (aL rfl rfl (aL rfl rfl bz))) (by show 3≤1000;decide)) rfl ?_
 unfold gO Wd.d
 simp only [List.map_map]
 rfl
theorem Lo (w:Wd) (hw:lI w) (n:Nat) (hb:iT n w) (ps:List Nat) (hl:ps.length=w.m) (hp:∀p∈ps,p < w.m):lI (gO w ps)∧iT n (gO w ps)∧(gO w ps).m=w.m∧(gO w ps).ms.length=w.ms.length∧(gO w ps).ar.length=w.ar.length:=by
 have gd:∀p,p < w.m→ps.getD p 0 < w.m:=fun p h=>by
  have h':p < ps.length:=by omega
  rw [show ps.getD p 0=ps[p] by simp [List.getD,h']]
  exact hp _ (List.getElem_mem h')
 refine ⟨⟨hw.lo,hw.hi,?_,?_⟩,⟨fun r hr=>?_,fun r hr=>?_⟩,rfl,List.length_map _,List.length_map _⟩
 ·show (w.ms.map _).length≤3
  rw [List.length_map];exact hw.ml
 ·show (w.ar.map _).length≤3
  rw [List.length_map];exact hw.al
 ·obtain ⟨q,hq,rfl⟩:=List.mem_map.mp (show r∈w.ms.map _ from hr)
  obtain ⟨h1,h2⟩:=hb.mp q hq
  refine ⟨?_,fun p hp'=>?_⟩
  ·show ((bg _).map jc).length≤n
   rw [List.length_map,oK,List.length_map,List.length_map];exact h1
  ·have:=sM dN jc nA _ p hp'
   obtain ⟨z,hz,rfl⟩:=List.mem_map.mp this
   exact gd z (h2 z hz)
 ·obtain ⟨q,hq,rfl⟩:=List.mem_map.mp (show r∈w.ar.map _ from hr)
  obtain ⟨h1,h2⟩:=hb.ap q hq
  refine ⟨?_,fun p hp'=>?_⟩
  ·show ((bg _).map ie).length≤n
   rw [List.length_map,oK,List.length_map,List.length_map];exact h1
  ·have:=sM dP ie kW _ p hp'
   obtain ⟨z,hz,rfl⟩:=List.mem_map.mp this
   exact ⟨gd _ (h2 z hz).1,gd _ (h2 z hz).2⟩
theorem L3 (xs:List Nat) (hl:xs.length < 64):f_ [.d (.tup (xs.map dN))]=.ok (.l .fresh (cu (xs.map dN))):=by
 show (if oz (xs.map dN)=true then M.ok (R.l .fresh (cu (xs.map dN))) else if lW (xs.map dN)=true then M.ok (R.l .fresh (cu (xs.map dN))) else .bad)=_
 rw [if_pos (An xs hl)]
 split <;> rfl
theorem KC (xs:List (Nat×Nat)) (hl:xs.length < 64):oz (xs.map dP)=true:=by
 have h1:areKeys (xs.map dP)=true:=by
  induction xs with
  | nil=>rfl
  | cons x xs ih=>
   rw [List.map_cons]
   show (isKey (dP x) && areKeys (xs.map dP))=true
   rw [ih (by simp at hl;omega)]
   rfl
 have h2:deps (xs.map dP)≤8:=iG fun d hd=>by
  obtain ⟨x,_,rfl⟩:=List.mem_map.mp hd
  exact (by decide:(1:Nat)≤8)
 have h3:ER (xs.map dP)=true:=by
  cases xs with
  | nil=>rfl
  | cons x xs=>
   show (gQ .i ((x::xs).map dP) && ((x::xs).map dP).all (oX pF))=true
   rw [mL (HS (x::xs)),Bool.true_and,List.all_eq_true]
   intro d hd
   obtain ⟨y,_,rfl⟩:=List.mem_map.mp hd
   rfl
 unfold oz
 rw [h1,h3,decide_eq_true h2,List.length_map,decide_eq_true hl]
 rfl
theorem JX (xs:List (Nat×Nat)) (hl:xs.length < 64):f_ [.d (.tup (xs.map dP))]=.ok (.l .fresh (cu (xs.map dP))):=by
 show (if oz (xs.map dP)=true then M.ok (R.l .fresh (cu (xs.map dP))) else _)=_
 rw [if_pos (KC xs hl)]
theorem oM {P:D→Prop}(p:fR P){ds:List D}(h:∀x∈ds,P x):(cu ds).length≤ds.length∧∀d∈cu ds,d∈ds:=by
 obtain ⟨h1,h2⟩:=uQ p ds h
 refine ⟨?_,fun d hd=>((nu p h).2 d).mp hd⟩
 show (bg (dd ds)).length≤_
 rw [oK]
 exact List.Nodup.length_le_of_subset h1 fun d hd=>(h2 d).mp hd
theorem HD (xs:List D) (k:Nat) (hk:k≤xs.length):cutD xs none (some (k:Int))=xs.take k:=by
 unfold cutD
 rw [HT.xr,HT.zk,Nat.min_eq_left hk]
 simp
theorem C4 (xs:List D) (k:Nat) (hk:k≤xs.length):cutD xs (some (k:Int)) none=xs.drop k:=by
 unfold cutD
 rw [HT.xr,HT.zk,Nat.min_eq_left hk]
 rw [List.take_of_length_le (by simp)]
abbrev K9:G O:=(aO (kj (cY 2 (br (aC 8) (br (aC 9) dz))) (g2 bf (af 7) (af 5)))
 (aO (bh 10 (gN b_ (aq (gN f_ (aq (g2 dh (af 9) (bI (aB (af 6) aW))) aD)) aD)))
 (aO (bR (bx (g2 (gH false) (af 6) (af 9))) (bh 10 (gN b_ (aq (bH 1 [6] (dO (af 9)) (aC 0) (bx (g2 (cM true) (af 0) (af 1))) (af 0)) aD))) dG)
 (aO (bh 7 (g2 dh (g2 dh (wg pZ (af 7) yT (yU (af 5))) (bI (aB (bI (aB (af 8) (aB (af 10) aW))) aW))) (wg pZ (af 7) (yU (g2 dh (af 5) (gC (.int 1)))) yT)))
 (aO (bR (bx (we "tuple" (af 6))) (bM (bI (aB (af 2) (aB (af 3) (aB (af 7) aW))))) dG)
 (bM (bI (aB (af 2) (aB (af 7) (aB (af 4) aW))))))))))
abbrev cX {α:Type}(h:α→D) (r:Str×List α):D:=.tup [.str r.1,.tup (r.2.map h)]
structure A9 {α:Type}(P:α→Prop) (n:Nat) (L:List (Str×List α)):Prop where
 all:∀r∈L,r.2.length≤n∧∀p∈r.2,P p
theorem lU {i:Int}(h:0≤i):∃k:Nat,i=k:=⟨i.toNat,by omega⟩
theorem o6 {m:Nat}{ps:List (Nat×Nat)}(h:qk m ps) (hm:m≤4):ps.length≤16:=by
 obtain ⟨_,h2,h3⟩:=h
 have nd:ps.Nodup:=h2.imp fun {a b} hab e=>by subst e;unfold nL at hab;omega
 have sub:∀p∈ps,p∈(List.range 16).map fun k=>(k / 4,k % 4):=fun p hp=>by
  obtain ⟨a,b⟩:=h3 p hp
  refine List.mem_map.mpr ⟨p.1 * 4 + p.2,by rw [List.mem_range];omega,?_⟩
  obtain ⟨x,y⟩:=p
  simp only at a b ⊢
  rw [Prod.mk.injEq]
  omega
 have:=List.Nodup.length_le_of_subset nd sub
 simpa using this
end K55
namespace DL
open PySem PySem.Spec PyProof.Rows L2 DX
def bZ (gt:GT) (gts:G Bool) (act:Ev→M (List D×Ev)):List D→Ev→M (List D×Ev)
 | [],env=>.ok ([],env)
 | d::ds,env=>gt d env >>= fun e=>gts e >>= fun k=>if k=true then act e >>= fun r=>bZ gt gts act ds r.2 >>= fun z=>.ok (r.1++z.1,z.2) else bZ gt gts act ds e
def vq (env:Ev) (σ:L2.St) (p:Addr):Prop:=∀(j:Nat) (xs:List D),env[j]?=some (some (.own xs))→σ[j]?≠some (some (.ref p))
structure vc (Acc:Hp→Hp→List D→Prop):Prop where
 ext:∀{J H J' H':Hp}{ys:List D},Acc J H ys→Ext J H J' H'→Acc J' H' ys
def rO (X:Cx) (c:C) (p:Addr) (Acc:Hp→Hp→List D→Prop) (J2 H2:Hp) (N:Nat) (m:Sem Unit) (act:Ev→M (List D×Ev)):Prop:=
 ∀(pins:List (Addr×Obj)) (s:Shared) (σ:L2.St) (H J:Hp) (env:Ev) (ys:List D) (Qf:List D×Ev→Prop),Inv X pins σ H s→Ext J2 H2 J H→SR c J H σ env→vq env σ p→Acc J H ys→ys.length + N≤sizeLine→cO (act env) Qf c.T→
  wpAny (model X.prog X.w) X.A m (fun _ s'=>∃σ' H' J' r,Inv X pins σ' H' s'∧Ext J2 H2 J' H'∧aX J J'∧SR c J' H' σ' r.2∧vq r.2 σ' p∧Acc J' H' (ys++r.1)∧r.1.length≤N∧Qf r) (fun _ _=>False) s
abbrev Cw (ifs:List Expr) (env:Env):Sem Bool:=forIn ifs true fun c r=>if r=true then do let ok ←isTrue c env (eval c env);pure (ForInStep.yield ok) else pure (ForInStep.yield r)
abbrev ny (target iter:Expr) (ifs:List Expr) (it:Value) (env:Env) (act:Sem Unit) (again':Sem Fin):Sem Fin:=do
 standAt iter.pos
 match ←pyNext it with
 | none=>pure (.done .next)
 | some v=>
  letOwnedTupleGo target it v
  assign target env v
  let mut ok:=true
  for c in ifs do
   if ok then ok ←isTrue c env (eval c env)
  if ok then
   act
  again'
def qf (prog:Program) (w:World) (A:Around) (e:Expr) (depth:Nat) (it acc:Value) (env:Env) (target:Expr) (ifs:List Expr) (m:Sem Unit):Prop:=
 ∀(R:Result→Shared→Prop) (I:Nat→Shared→Prop),(∀n s,I n s→wpAny (model prog w) A (pyNext it) (fun r s₁=>match r with
   | none=>R (.ok .next) s₁
   | some v=>wpAny (model prog w) A (letOwnedTupleGo target it v) (fun _ s₁=>wpAny (model prog w) A (assign target env v) (fun _ s₂=>
     wpAny (model prog w) A (Cw ifs env) (fun ok s₃=>if ok=true then wpAny (model prog w) A m (fun _ s₅=>∃m,m < n∧I m s₅) (fun _ _=>False) s₃ else ∃m,m < n∧I m s₃) (fun _ _=>False) s₂) (fun _ _=>False) s₁) (fun _ _=>False) s₁) (fun _ _=>False) s)→
  ∀(n:Nat) (s:Shared),I n s→codeAny (model prog w) A (.compLoop e depth it acc env) R s
section
variable {prog:Program}{w:World}{A:Around}{target iter:Expr}{ifs:List Expr}{scope:Scope}{pos:Pos}{it acc:Value}{env:Env}{depth:Nat}{gens:List Comprehension}{act:Sem Unit}
theorem xU {R:Result→Shared→Prop}{I:Nat→Shared→Prop}{E:Value→Shared→Prop}{code:Code}{n:Nat}{s:Shared}{Q:Fin→Shared→Prop}
  (hQ1:∀s,R (.ok .next) s→Q (.done .next) s) (hQ2:∀s,(∃m,m < n∧I m s)→wpAny (model prog w) A (again code) Q E s)
  (t:wpAny (model prog w) A (pyNext it) (fun r s₁=>match r with
   | none=>R (.ok .next) s₁
   | some v=>wpAny (model prog w) A (letOwnedTupleGo target it v) (fun _ s₁=>wpAny (model prog w) A (assign target env v) (fun _ s₂=>
     wpAny (model prog w) A (Cw ifs env) (fun ok s₃=>if ok=true then wpAny (model prog w) A act (fun _ s₅=>∃m,m < n∧I m s₅) (fun _ _=>False) s₃ else ∃m,m < n∧I m s₃) (fun _ _=>False) s₂) (fun _ _=>False) s₁) (fun _ _=>False) s₁) (fun _ _=>False) s):
  wpAny (model prog w) A (ny target iter ifs it env act (again code)) Q E s:=by
 refine wpAny_bind (wpAny_standAt (wpAny_bind (wpAny_mono t (fun r s₁ h₁=>?_) fun _ _ f=>f.elim)))
 cases r with
 | none=>exact wpAny_pure (hQ1 _ h₁)
 | some v=>
  refine wpAny_bind (wpAny_mono h₁ (fun _ s₁' h₁'=>?_) fun _ _ f=>f.elim)
  refine wpAny_bind (wpAny_mono h₁' (fun _ s₂ h₂=>wpAny_bind (wpAny_mono h₂ (fun ok s₃ h₃=>?_) fun _ _ f=>f.elim)) fun _ _ f=>f.elim)
  cases ok with
  | false=>exact hQ2 _ h₃
  | true=>exact wpAny_bind (wpAny_mono h₃ (fun _ s₅ h₅=>hQ2 _ h₅) fun _ _ f=>f.elim)
theorem Aj {elt:Expr}(ht:compTurn (.ListComp elt gens scope pos) depth it acc env=ny target iter ifs it env act (again (.compLoop (.ListComp elt gens scope pos) depth it acc env))):qf prog w A (.ListComp elt gens scope pos) depth it acc env target ifs act:=by
 intro R I turn n s h
 refine codeAny_loop rfl I (fun n s hI=>?_) n h
 show wpAny _ A ((compTurn (.ListComp elt gens scope pos) depth it acc env).onRaise (fun x=>do noteFrame x env;theTreesLotGoes x)) _ _ s
 refine wpAny_noted ?_
 rw [ht]
 exact xU (fun _ h=>h) (fun _ h=>wpAny_pure ⟨rfl,h⟩) (turn n s hI)
theorem EN {kx vx:Expr}(ht:compTurn (.DictComp kx vx gens scope pos) depth it acc env=ny target iter ifs it env act (again (.compLoop (.DictComp kx vx gens scope pos) depth it acc env))):qf prog w A (.DictComp kx vx gens scope pos) depth it acc env target ifs act:=by
 intro R I turn n s h
 refine codeAny_loop rfl I (fun n s hI=>?_) n h
 show wpAny _ A ((compTurn (.DictComp kx vx gens scope pos) depth it acc env).onRaise (fun x=>do noteFrame x env;theTreesLotGoes x)) _ _ s
 refine wpAny_noted ?_
 rw [ht]
 exact xU (fun _ h=>h) (fun _ h=>wpAny_pure ⟨rfl,h⟩) (turn n s hI)
end
section
variable {X:Cx}{c:C}{p:Addr}{Acc:Hp→Hp→List D→Prop}{J2 H2:Hp}{N:Nat}{m:Sem Unit}{act:Ev→M (List D×Ev)}{target:Expr}{ifs:List Expr}{gt:GT}{gts:G Bool}{e:Expr}{depth:Nat}{acc:Value}{it:Addr}{fp:List Addr}{tn:Nat→Heap→Prop}{It:It}{ds:List D}{J1:Hp}
theorem wN (aR:vc Acc) (hc:X.calm=true) (hx:∀v s,X.xe v s→False) (LP:qf X.prog X.w X.A e depth (.ref it) acc X.env target ifs m) (hT:gE X c target gt) (hIf:fQ X c ifs gts) (hA:rO X c p Acc J2 H2 N m act) (T:Turn X.prog X.w X.K target It fp it tn)
  (U:Hp→Hp→Prop) (wk:Walk c It ds J1 U){pins:List (Addr×Obj)}{s:Shared}{σ:L2.St}{H J:Hp}{env:Ev}{ys:List D}{Qf:List D×Ev→Prop}(hU:∀J' H',Ext J2 H2 J' H'→aX J J'→U J' H') (I:Inv X pins σ H s) (st:tn 0 s.heap) (fr:∀b∈fp,jF X pins H b) (e2:Ext J2 H2 J H) (sr:SR c J H σ env) (no:vq env σ p) (ac:Acc J H ys)
  (hl:ys.length + ds.length * N≤sizeLine) (w:cO (bZ gt gts act ds env) Qf c.T):
  codeAny (model X.prog X.w) X.A (.compLoop e depth (.ref it) acc X.env) (fun r s'=>r=.ok .next∧∃σ' H' J' r',Inv X pins σ' H' s'∧Ext J2 H2 J' H'∧aX J J'∧SR c J' H' σ' r'.2∧vq r'.2 σ' p∧Acc J' H' (ys++r'.1)∧r'.1.length≤ds.length * N∧Qf r') s:=by
 refine LP _ (fun n s'=>∃(i:Nat) (σ':L2.St) (H' J':Hp) (env':Ev) (zs:List D),n=ds.length - i∧i≤ds.length∧Inv X pins σ' H' s'∧tn i s'.heap∧(∀b∈fp,H' b=none)∧Ext J2 H2 J' H'∧aX J J'∧SR c J' H' σ' env'∧vq env' σ' p∧Acc J' H' (ys++zs)∧zs.length≤i * N∧
  cO (bZ gt gts act (ds.drop i) env') (fun r=>Qf (zs++r.1,r.2)) c.T) ?_ ds.length s ⟨0,σ,H,J,env,[],rfl,Nat.zero_le _,I,st,fun b hb=>(fr b hb).1,e2,aX.refl J,sr,no,by rw [List.append_nil];exact ac,by simp,by rw [List.drop_zero];exact w⟩
 rintro n s' ⟨i,σ',H',J',env',zs,rfl,hi,I',st',fr',e',sj,sr',no',ac',hz,w'⟩
 have stat:∀{H':Hp},(∀b∈fp,H' b=none)→∀b∈fp,jF X pins H' b:=fun hn b hb=>⟨hn b hb,(fr b hb).2⟩
 obtain ⟨wk1,wk2⟩:=wk i J' H' sr'.hp (hU J' H' e' sj)
 by_cases hlt:i < ds.length
 ·obtain ⟨g1,y1⟩:=wk2 ds[i] (by simp [hlt])
  rw [List.drop_eq_getElem_cons hlt] at w'
  refine wpAny_mono (T.item X rfl rfl rfl hc i pins s' σ' H' (fun _ _=>False) I' (stat fr') st' g1) (fun r s4 ⟨u,hr,h4⟩=>?_) fun _ _ f=>f.elim
  subst hr
  refine wpAny_mono h4 (fun _ s5 ⟨x,H5,I5,r5,y5,st5,fr5⟩=>?_) fun _ _ f=>f.elim
  obtain ⟨J5,e5,rx⟩:=y1 x H5 y5
  have I5':=I5.pinned (stat fr5) (T.obj _ _ st5)
  have again:∀{σ7:L2.St}{H7:Hp}{s7:Shared},Inv X (pins++oB fp s5.heap) σ7 H7 s7→Inv X pins σ7 H7 s7∧tn (i + 1) s7.heap∧(∀b∈fp,H7 b=none):=fun {σ7 H7 s7} I7=>by
   refine ⟨I7.unpinned,T.keep _ _ _ st5 fun b hb o e=>(I7.pin (b,o) (List.mem_append_right _ (List.mem_append_right _ (jS hb e)))).1,fun b hb=>?_⟩
   obtain ⟨o,e,d⟩:=T.obj _ _ st5 b hb
   exact (I7.pin (b,o) (List.mem_append_right _ (List.mem_append_right _ (jS hb e)))).2.1
  refine wpAny_mono (hT _ s5 σ' H5 x u (fun σ6 H6=>∃e6,H6=H5∧SR c J5 H5 σ6 e6∧KO env' σ' e6 σ6∧cO (gts e6 >>= fun k=>if k=true then act e6 >>= fun r=>bZ gt gts act (ds.drop (i + 1)) r.2 >>= fun z=>.ok (r.1++z.1,z.2) else bZ gt gts act (ds.drop (i + 1)) e6)
   (fun r=>Qf (zs++r.1,r.2)) c.T) I5' r5 ⟨J5,env',ds[i],sr'.ext e5,rx,aE (aM w') fun e6 w6 σ6 sr6 ko=>⟨e6,rfl,sr6,ko,w6⟩⟩) (fun _ s6 ⟨σ6,H6,I6,e6,hH6,sr6,ko,w6⟩=>?_) fun _ _ f=>(hx _ _ f).elim
  subst hH6
  have no6:vq e6 σ6 p:=fun j xs q z=>by
   obtain ⟨k1,k2⟩:=ko j xs q
   exact no' j xs k1 (k2▸z)
  refine wpAny_mono (hIf _ s6 σ6 H6 (fun k H7=>∃J7,Ext J5 H6 J7 H7∧cO (if k=true then act e6 >>= fun r=>bZ gt gts act (ds.drop (i + 1)) r.2 >>= fun z=>.ok (r.1++z.1,z.2) else bZ gt gts act (ds.drop (i + 1)) e6)
   (fun r=>Qf (zs++r.1,r.2)) c.T) I6 ⟨J5,e6,sr6,aE (aM w6) fun k wk J7 H7 e7=>⟨J7,e7,wk⟩⟩) (fun k s7 ⟨H7,I7,J7,e7,w7⟩=>?_) fun _ _ f=>(hx _ _ f).elim
  have sr7:=sr6.ext e7
  have ac7:=aR.ext (aR.ext ac' e5) e7
  have x7:=(e'.trans e5).trans e7
  have j7:=(sj.trans e5.j).trans e7.j
  have hm:(i + 1) * N=i * N + N:=by rw [Nat.add_mul,Nat.one_mul]
  cases k with
  | false=>
   rw [if_neg (by decide)] at w7 ⊢
   obtain ⟨a1,a2,a3⟩:=again I7
   exact ⟨ds.length - (i + 1),by omega,i + 1,σ6,H7,J7,e6,zs,rfl,hlt,a1,a2,a3,x7,j7,sr7,no6,ac7,by omega,w7⟩
  | true=>
   rw [if_pos rfl] at w7 ⊢
   have hN:(i + 1) * N≤ds.length * N:=Nat.mul_le_mul_right N hlt
   refine wpAny_mono (hA _ s7 σ6 H7 J7 e6 (ys++zs) _ I7 x7 sr7 no6 ac7 (by rw [List.length_append];omega) (aM w7)) (fun _ s8 ⟨σ8,H8,J8,r,I8,x8,j8,sr8,no8,ac8,l8,w8⟩=>?_) fun _ _ f=>f.elim
   obtain ⟨a1,a2,a3⟩:=again I8
   refine ⟨ds.length - (i + 1),by omega,i + 1,σ8,H8,J8,r.2,zs++r.1,rfl,hlt,a1,a2,a3,x8,j7.trans j8,sr8,no8,by rw [←List.append_assoc];exact ac8,by rw [List.length_append];omega,?_⟩
   refine aE (aM w8) fun z q=>?_
   rw [List.append_assoc]
   exact q
 ·have hie:i=ds.length:=by omega
  subst hie
  rw [List.drop_eq_nil_of_le (Nat.le_refl _)] at w'
  refine wpAny_mono (T.done X rfl rfl rfl hc _ pins s' σ' H' (fun _ _=>False) I' (stat fr') st' (wk1 (Nat.le_refl _))) (fun r s4 ⟨hr,I9⟩=>?_) fun _ _ f=>f.elim
  subst hr
  have w9:Qf (zs++[],env'):=w'
  rw [List.append_nil] at w9
  exact ⟨rfl,σ',H',J',(zs,env'),I9,e',sj,sr',no',ac',hz,w9⟩
end
section
variable {prog:Program}{w:World}{A:Around}{R:Result→Shared→Prop}{s:Shared}{it acc:Value}{env:Env}{scope:Scope}{pos:Pos}{g0:Comprehension}{target iter:Expr}{ifs:List Expr}{rest:List Comprehension}
theorem J_ {elt:Expr}(h0:codeAny (model prog w) A (.compLoop (.ListComp elt (g0::⟨target,iter,ifs,0⟩::rest) scope pos) 1 it acc env) R s)
  (h:wpAny (model prog w) A (pyIter it) (fun it' s'=>codeAny (model prog w) A (.compLoop (.ListComp elt (g0::⟨target,iter,ifs,0⟩::rest) scope pos) 1 it' acc env) R s') (fun _ _=>False) s):
  codeAny (model prog w) A (.compStart (.ListComp elt (g0::⟨target,iter,ifs,0⟩::rest) scope pos) 1 it acc env) R s:=by
 refine codeAny_of_tree ?_
 show wpAny _ _ ((compStart (.ListComp elt (g0::⟨target,iter,ifs,0⟩::rest) scope pos) 1 it acc env).onRaise (fun x=>do noteFrame x env;standAt theWindowsPlace)) _ _ s
 refine wpAny_notedAt ?_
 unfold compStart
 show wpAny _ _ (ask >>= _) _ _ s
 refine wpAny_bind (wpAny_askSetting (wpAny_ite ?_))
 split
 ·first
   | exact wpAny_bind (wpAny_pure (wpAny_pure (And.intro rfl h0)))
   | exact wpAny_pure (And.intro rfl h0)
 ·refine wpAny_bind (wpAny_rule ?_)
  show wpAny _ _ (standAt iter.pos >>= _) _ _ s
  exact wpAny_bind (wpAny_standAt (wpAny_bind (wpAny_mono h (fun it' s' h'=>wpAny_pure (And.intro rfl h')) fun _ _ x=>x.elim)))
theorem J6 {kx vx:Expr}(h0:codeAny (model prog w) A (.compLoop (.DictComp kx vx (g0::⟨target,iter,ifs,0⟩::rest) scope pos) 1 it acc env) R s)
  (h:wpAny (model prog w) A (pyIter it) (fun it' s'=>codeAny (model prog w) A (.compLoop (.DictComp kx vx (g0::⟨target,iter,ifs,0⟩::rest) scope pos) 1 it' acc env) R s') (fun _ _=>False) s):
  codeAny (model prog w) A (.compStart (.DictComp kx vx (g0::⟨target,iter,ifs,0⟩::rest) scope pos) 1 it acc env) R s:=by
 refine codeAny_of_tree ?_
 show wpAny _ _ ((compStart (.DictComp kx vx (g0::⟨target,iter,ifs,0⟩::rest) scope pos) 1 it acc env).onRaise (fun x=>do noteFrame x env;standAt theWindowsPlace)) _ _ s
 refine wpAny_notedAt ?_
 unfold compStart
 show wpAny _ _ (ask >>= _) _ _ s
 refine wpAny_bind (wpAny_askSetting (wpAny_ite ?_))
 split
 ·first
   | exact wpAny_bind (wpAny_pure (wpAny_pure (And.intro rfl h0)))
   | exact wpAny_pure (And.intro rfl h0)
 ·refine wpAny_bind (wpAny_rule ?_)
  show wpAny _ _ (standAt iter.pos >>= _) _ _ s
  exact wpAny_bind (wpAny_standAt (wpAny_bind (wpAny_mono h (fun it' s' h'=>wpAny_pure (And.intro rfl h')) fun _ _ x=>x.elim)))
end
def iW (gi:G (List D)) (gt:GT) (gts:G Bool) (act:Ev→M (List D×Ev)):Ev→M (List D×Ev):=fun env=>gi env >>= fun ds=>if ds.length≤1000 then bZ gt gts act ds env else .bad
abbrev p5 (e iter:Expr) (acc:Value) (env:Env):Sem Unit:=do
 let x ←eval iter env
 standAt iter.pos
 let x ←foldedSetIterable iter env x
 let _ ←runOwn (.compStart e 1 (←holding [x] (pyIter x)) acc env) env
section
variable {X:Cx}{c:C}{p:Addr}{Acc:Hp→Hp→List D→Prop}{J2 H2:Hp}{N:Nat}{m:Sem Unit}{act:Ev→M (List D×Ev)}{target iter:Expr}{ifs:List Expr}{gi:G (List D)}{gt:GT}{gts:G Bool}{e:Expr}{acc:Value}
theorem yJ (aR:vc Acc) (hc:X.calm=true) (hx:∀v s,X.xe v s→False) (hs:∀x,foldedSetIterable iter X.env x=pure x)
  (start:∀(it:Addr) (R:Result→Shared→Prop) (s:Shared),codeAny (model X.prog X.w) X.A (.compLoop e 1 (.ref it) acc X.env) R s→wpAny (model X.prog X.w) X.A (pyIter (.ref it)) (fun it' s'=>codeAny (model X.prog X.w) X.A (.compLoop e 1 it' acc X.env) R s') (fun _ _=>False) s→codeAny (model X.prog X.w) X.A (.compStart e 1 (.ref it) acc X.env) R s)
  (LP:∀it:Addr,qf X.prog X.w X.A e 1 (.ref it) acc X.env target ifs m) (hi:lE X c target iter gi) (hT:gE X c target gt) (hIf:fQ X c ifs gts) (hA:rO X c p Acc J2 H2 N m act):
  rO X c p Acc J2 H2 (1000 * N) (p5 e iter acc X.env) (iW gi gt gts act):=by
 intro pins s σ H J env ys Qf I x2 sr no ac hl w
 refine wpAny_bind (wpAny_mono (hi pins s σ H (fun It H1=>∃ds J1,Ext J H J1 H1∧Walk c It ds J1 (fun J' _=>aX J1 J')∧cO (if ds.length≤1000 then bZ gt gts act ds env else .bad) Qf c.T) I ⟨J,env,sr,aE (aM w) fun ds wd It J1 H1 e1 wk=>⟨ds,J1,e1,wk,wd⟩⟩) (fun xv s1 h1=>?_) fun v s f=>(hx v s f).elim)
 refine wpAny_bind (wpAny_standAt ?_)
 rw [hs xv]
 refine wpAny_bind (wpAny_pure (wpAny_bind (wpAny_holding (wpAny_mono h1 (fun itv s2 h2=>?_) fun v s f=>(hx v s f).elim))))
 obtain ⟨it,fp,tn,It,H1,rfl,I1,T,st1,f1,ds,J1,e1,wk,w1⟩:=h2
 have hsz:ds.length≤1000:=by
  by_cases z:ds.length≤1000
  ·exact z
  ·rw [if_neg z] at w1;exact w1.elim
 rw [if_pos hsz] at w1
 have hm:ds.length * N≤1000 * N:=Nat.mul_le_mul_right N hsz
 have hb:ys.length + ds.length * N≤sizeLine:=Nat.le_trans (Nat.add_le_add_left hm _) hl
 have run:=wN aR hc hx (LP it) hT hIf hA T (fun J' _=>aX J1 J') wk (fun _ _ _ h=>h) I1 st1 f1 (x2.trans e1) (sr.ext e1) no (aR.ext ac e1) hb w1
 have run':codeAny (model X.prog X.w) X.A (.compLoop e 1 (.ref it) acc X.env) (fun r s'=>match r with | .ok f=>wpAny (model X.prog X.w) X.A (pure ()) (fun _ s'=>∃σ' H' J' r,Inv X pins σ' H' s'∧Ext J2 H2 J' H'∧aX J J'∧SR c J' H' σ' r.2∧vq r.2 σ' p∧Acc J' H' (ys++r.1)∧r.1.length≤1000 * N∧Qf r) (fun _ _=>False) s' | .error e=>cameBackBy (model X.prog X.w) X.A X.env (fun _ _=>False) e s') s2:=codeAny_mono run fun r s' ⟨hr,σ',H',J',r',q1,q2,q3,q4,q5,q6,q7,q8⟩=>by
  subst hr
  exact wpAny_pure ⟨σ',H',J',r',q1,q2,e1.j.trans q3,q4,q5,q6,Nat.le_trans q7 hm,q8⟩
 exact wpAny_bind (wpAny_runOwn (h:=none) (start it _ _ run' (T.self _ 0 _ _ _ st1 run')))
end
def gF (ge:G R):Ev→M (List D×Ev):=fun e=>ge e >>= fun r=>toD r >>= fun y=>.ok ([y],e)
def zG (c:C) (p:Addr):Hp→Hp→List D→Prop:=fun J H ys=>∃us,H p=some (.lst us)∧J p=none∧aG c.K J ys us
theorem pW {c:C}{p:Addr}:vc (zG c p):=⟨fun {J H J' H' ys} ⟨us,h1,h2,h3⟩ e=>⟨us,e.h _ _ h1,e.frz _ (by rw [h1];intro z;cases z) h2,h3.mono e.j⟩⟩
section
variable {X:Cx}{c:C}{p:Addr}{J2 H2:Hp}{elt:Expr}{ge:G R}
theorem yI (hx:∀v s,X.xe v s→False) (hp2:H2 p=none) (hp0:c.H0 p=none) (hE:PD X c elt ge):rO X c p (zG c p) J2 H2 1 (do let _ ←call (.builtin "list.append") [.ref p,←eval elt X.env]) (gF ge):=by
 intro pins s σ H J env ys Qf I x2 sr no ⟨us,h1,h2,h3⟩ hl w
 have hlen:ys.length=us.length:=h3.length
 refine wpAny_bind (wpAny_mono (hE _ s σ H (fun v H8=>∃J8 y,Ext J H J8 H8∧Rep c.K J8 y v∧Qf ([y],env)) I ⟨J,env,sr,aE (aM w) fun r wr v J8 H8 e8 r8=>?_⟩) (fun u8 s8 ⟨v8,H8,I8,r8,J8,y,e8,ry,w8⟩=>?_) fun v s f=>(hx v s f).elim)
 ·obtain ⟨y,q,wr⟩:=j_ wr
  obtain ⟨J9,e9,_,ry⟩:=freeze e8 r8 q
  exact ⟨J9,y,e9,ry,wr⟩
 have p8:H8 p=some (.lst us):=e8.h _ _ h1
 have J8p:J8 p=none:=e8.frz _ (by rw [h1];intro z;cases z) h2
 refine wpAny_bind (wpAny_mono (ow (X:=X) _ s8 σ H8 (.ref p) [v8] (.ref p) [u8] (fun _ H9=>H9=L2.upd H8 p (.lst (us++[v8]))) I8 rfl (.cons r8 .nil) ⟨_,us,v8,rfl,rfl,p8,by omega,rfl⟩) (fun _ s9 ⟨_,H9,I9,_,h9⟩=>?_) fun v s f=>(hx v s f).elim)
 subst h9
 exact wpAny_pure ⟨σ,_,J8,([y],env),I9,(x2.trans e8).other hp2 J8p,e8.j,(sr.ext e8).other J8p hp0 no,no,⟨us++[v8],b9,J8p,(h3.mono e8.j).append (.cons ry .nil)⟩,Nat.le_refl _,w8⟩
end
def kq (lim n:Nat) (cap:List Nat) (gi:G (List D)) (gt:GT) (gts:G Bool) (act:Ev→M (List D×Ev)) (fin:List D→M R):G R:=fun env=>gi env >>= fun ds=>if ds.length≤lim then bZ gt gts act ds (cE n cap env) >>= fun r=>fin r.1 else .bad
section
variable {X:Cx}{c:C}
theorem pX (own:List Str) (cap:List Nat){e target iter:Expr}{ifs:List Expr}{gs:List Comprehension}{scope:Scope}{gi:G (List D)}{gt:GT}{gts:G Bool}{act:Ev→M (List D×Ev)}{fin:List D→M R}{newAcc:Sem Value}{ob:Obj}{o0:Addr→HO}{Acc:Addr→Hp→Hp→List D→Prop}{N lim:Nat}{m:Addr→Env→Sem Unit}
  (hcls:clausesOf e=⟨target,iter,ifs,0⟩::gs) (hi:nD X c target iter gi)
  (hnew:∀(s:Shared) (Q:Value→Shared→Prop) (E:Value→Shared→Prop),Q (.ref s.heap.objs.size) {s with heap:=s.heap.push ob}→wpAny (model X.prog X.w) X.A newAcc Q E s)
  (hob:∀(h:Heap) (H:Hp),cg X.prog X.w H (h.push ob) h.objs.size (o0 h.objs.size))
  (aR:∀p,vc (Acc p)) (a0:∀(p:Addr) (J H:Hp),sysModules < p→H p=some (o0 p)→J p=none→Acc p J H [])
  (hN:lim * N≤sizeLine) (LP:∀(it p:Addr) (env:Env),qf X.prog X.w X.A e 0 (.ref it) (.ref p) env target ifs (m p env))
  (start:∀(it:Addr) (acc:Value) (env:Env) (R:Result→Shared→Prop) (s:Shared),codeAny (model X.prog X.w) X.A (.compLoop e 0 (.ref it) acc env) R s→wpAny (model X.prog X.w) X.A (pyIter (.ref it)) (fun it' s'=>codeAny (model X.prog X.w) X.A (.compLoop e 0 it' acc env) R s') (notedBy (model X.prog X.w) X.A env fun x s'=>R (.error x) s') s→codeAny (model X.prog X.w) X.A (.compStart e 0 (.ref it) acc env) R s)
  (nofin:∀ys z,fin ys≠.exc z) (hend:∀{p:Addr}{J H J' H':Hp}{ys:List D}{r:R},H p=none→Ext J H J' H'→Acc p J' H' ys→fin ys=.ok r→∃J'',Ext J H J'' H'∧RR c H J'' H' r (.ref p))
  (hbody:∀(cl:List (Str×Addr)) (C:Addr) (s:Shared) (H:Hp) (fp:List Addr),bG X.env.cells scope.names []=some cl→gE (aZ X own cap scope cl C s H fp) c target gt∧fQ (aZ X own cap scope cl C s H fp) c ifs gts∧∀(p:Addr) (J2 H2:Hp),H2 p=none→c.H0 p=none→rO (aZ X own cap scope cl C s H fp) c p (Acc p) J2 H2 N (m p (aZ X own cap scope cl C s H fp).env) act)
  (hk:scope.kind=.function) (hno:gD X cap scope=true) (hnames:(scope.names.all fun x=>!(x.2 == .local) || (scope.names.lookup x.1 == some .local))=true)
  (hcl:(bG X.env.cells scope.names []).isSome=true) (hcap:eE X cap=true) (hloc:eO X cap scope=true) (hnd:gI cap=true) (hcalm:X.calm=true)
  (hs:∀x,foldedSetIterable iter X.env x=pure x)
  {pins:List (Addr×Obj)}{s:Shared}{σ:L2.St}{H:Hp}{Q:VK}{use:Option (Value→Sem Unit)}{Q0:Value→Shared→Prop}{pos':Pos}(I:Inv X pins σ H s) (h:tD c (kq lim own.length cap gi gt gts act fin) σ H Q)
  (hfin:∀(acc C:Addr) (m:Str→Option Value) (s':Shared) (H':Hp) (fl:Flow),s'.heap.Ns C m→((C∈X.ex∨X.s₀.heap.objs.size≤C)∧C≠X.env.locals∧(∀x c,X.env.cells.lookup x=some c→c≠C)∧∀p∈X.pn++pins,p.1≠C)→H' C=none→(∀h'',Heap.SameBut C s'.heap h''→Inv X pins σ H' {s' with heap:=h''})→Q (.ref acc) H'→compPost (model X.prog X.w) X.A X.xe use Q0 (.ref acc) C (.ok fl) s'):
  wpAny (model X.prog X.w) X.A (comprehension e scope X.env pos' newAcc false (eval iter X.env) use) Q0 X.xe s:=by
 obtain ⟨J,env,sr,w⟩:=h
 obtain ⟨cl,hcl⟩:=Option.isSome_iff_exists.mp hcl
 have hno':∀j∈cap,∀x,X.N[j]?=some x→cS scope.names x=false:=fun j hj x hx=>by
  have:=List.all_eq_true.mp hno j hj
  rw [hx] at this
  simpa using this
 have hnames':∀x∈scope.names,x.2=.local→scope.names.lookup x.1=some .local:=fun y hy z=>by
  have:=List.all_eq_true.mp hnames y hy
  rw [z] at this
  simpa using this
 have hloc':∀j∈cap,∀x,X.N[j]?=some x→(relabel scope X.env).names.lookup x≠some .local:=fun j hj x hx z=>by
  have:=List.all_eq_true.mp hloc j hj
  rw [hx] at this
  simp only at this
  rw [z] at this
  cases this
 refine wpAny_comprehension_free (use:=use) hcls hs (uB hcl) hk hnames' ?_
 refine bV (hi pins s σ H (fun It H1=>∃ds J1,Ext J H J1 H1∧Walk c It ds J1 (fun J' H'=>aX J1 J'∧aX H1 H')∧
  cO (if ds.length≤lim then bZ gt gts act ds (cE own.length cap env) >>= fun r=>fin r.1 else .bad) (fun r=>∀v J' H',Ext J H J' H'→RR c H J' H' r v→Q v H') c.T) I ⟨J,env,sr,aE (aM w) fun ds wd It J1 H1 e1 wk=>⟨ds,J1,e1,wk,wd⟩⟩) fun xv s1 h1=>bV h1 fun itv s2 h2=>?_
 obtain ⟨it,fp,tn,It,H2,rfl,I2,T,st2,f2,ds,J2,e2,wk,w2⟩:=h2
 have hsz:ds.length≤lim:=by
  by_cases z:ds.length≤lim
  ·exact z
  ·rw [if_neg z] at w2;exact w2.elim
 rw [if_pos hsz] at w2
 have w3:=aM w2
 refine hnew s2 _ _ (Al ?_)
 dsimp only
 generalize hHs:s2.heap.push ob=Hs
 have hC:Hs.objs.size=s2.heap.objs.size + 1:=by rw [←hHs,Heap.size_push]
 have hp2:H2 s2.heap.objs.size=none:=I2.hok.fresh (Nat.le_refl _)
 have kHs:∀b o,s2.heap.get? b=some o→Hs.get? b=some o:=fun b o e=>by rw [←hHs];exact Heap.get?_push_of_some _ e
 have I3:Inv X pins σ (L2.upd H2 s2.heap.objs.size (o0 s2.heap.objs.size)) {s2 with heap:=Hs,toks:=s2.toks}:=I2.laid (t':=s2.toks) kHs (Nat.le_refl _) (by rw [←hHs];exact hob _ _)
 have f3:∀b∈fp,jF X pins (L2.upd H2 s2.heap.objs.size (o0 s2.heap.objs.size)) b:=fun b hb=>by
  obtain ⟨o,ho,_⟩:=T.obj _ _ st2 b hb
  exact ⟨by rw [bC (Nat.ne_of_lt (Heap.lt_size ho))];exact (f2 b hb).1,(f2 b hb).2⟩
 have hin:∀b∈fp,b < Hs.objs.size:=fun b hb=>by
  obtain ⟨o,ho,_⟩:=T.obj _ _ st2 b hb
  exact Nat.lt_trans (Heap.lt_size ho) (by rw [hC];exact Nat.lt_succ_self _)
 obtain ⟨h₁,eh₁⟩:∃h₁,h₁=pushCells (Hs.push {cls:=.type "dict",data:=.dict #[]}) scope.names:=⟨_,rfl⟩
 rw [←eh₁]
 have hns₁:h₁.Ns Hs.objs.size (fun _=>none):=by rw [eh₁];exact Iu Hs scope.names
 have ck:CellsOk h₁ (Hs.objs.size + 1) (cellsFrom (Hs.objs.size + 1) scope.names []):=by rw [eh₁];exact Bl Hs scope.names
 have okC:=Fi (own:=own) (cap:=cap) I3 hk hcl ck f3 hin
 have old1:∀b o,Hs.get? b=some o→h₁.get? b=some o:=fun b o e=>by rw [eh₁];exact pushCells_keeps _ _ _ _ (Heap.get?_push_of_some _ e)
 have I4:=C5 (tk:=s2.toks) I3 okC hcl ck hcap hloc' hno' hns₁ old1
 have sr2:=sr.ext e2
 have srA:SR c J2 (L2.upd H2 s2.heap.objs.size (o0 s2.heap.objs.size)) σ env:=sr2.ext (Ext.new e2.sub hp2 _)
 have J2p:J2 s2.heap.objs.size=none:=e2.sub.free hp2
 have H0p:c.H0 s2.heap.objs.size=none:=sr2.hp.ent.free hp2
 have nown:∀(j:Nat) (xs:List D),(cE own.length cap env)[j]?=some (some (.own xs))→(List.replicate own.length none++cap.map fun (j:Nat)=>(σ[j]?).getD none)[j]?≠some (some (.ref s2.heap.objs.size)):=fun j xs q z=>by
  obtain ⟨a,h1,h2,h3⟩:=jN q
  obtain ⟨a',h4,h5,h6⟩:=jN z
  rw [h2] at h5;cases h5
  obtain ⟨v,k1,p,vs,rfl,k2,_⟩:=sr2.at_ a _ h3
  rw [h6] at k1
  cases k1
  rw [hp2] at k2
  cases k2
 obtain ⟨hT,hIf,hE⟩:=hbody cl Hs.objs.size {s2 with heap:=Hs,toks:=s2.toks} (L2.upd H2 s2.heap.objs.size (o0 s2.heap.objs.size)) fp hcl
 have fpC:∀{H':Hp},(∀b∈fp,H' b=none)→∀b∈fp,jF (aZ X own cap scope cl Hs.objs.size {s2 with heap:=Hs,toks:=s2.toks} (L2.upd H2 s2.heap.objs.size (o0 s2.heap.objs.size)) fp) [] H' b:=fun {H'} hn b hb=>by
  obtain ⟨m1,_⟩:=gG scope.names [] cl hcl (fun x c h=>by simp at h)
  refine ⟨hn b hb,Nat.ne_of_lt (hin b hb),fun z=>?_,.inl hb,fun x d h=>(fO h).elim (fun h=>Nat.ne_of_gt (Nat.lt_of_lt_of_le (hin b hb) (Nat.le_of_succ_le (ck.empty _ _ (mem_of_lookup h)).2))) (fun h=>(f2 b hb).2.2.2.2.1 x d (m1 x d h.2)),fun p hp=>absurd (show p∈([]:List (Addr×Obj)) from hp) (by simp)⟩
  rcases List.mem_cons.mp (I2.stkSub b z) with e | e
  ·exact (f2 b hb).2.1 e
  ·exact (f2 b hb).2.2.1 e
 have back:∀{pi:List (Addr×Obj)}{σ':L2.St}{H':Hp}{s':Shared}{h'':Heap},Inv (aZ X own cap scope cl Hs.objs.size {s2 with heap:=Hs,toks:=s2.toks} (L2.upd H2 s2.heap.objs.size (o0 s2.heap.objs.size)) fp) pi σ' H' s'→Heap.SameBut Hs.objs.size s'.heap h''→Inv X pins σ H' {s' with heap:=h''}:=fun {pi σ' H' s' h''} I' sb=>by
  have B:Un (frs X.stack) fp (L2.upd H2 s2.heap.objs.size (o0 s2.heap.objs.size)) H' Hs s'.heap:=I'.base
  have ne2:∀{b:Addr}{o:Obj},s2.heap.get? b=some o→b≠s2.heap.objs.size∧b≠Hs.objs.size:=fun {b o} e=>
   ⟨Nat.ne_of_lt (Heap.lt_size e),Nat.ne_of_lt (Nat.lt_trans (Heap.lt_size e) (by rw [hC];exact Nat.lt_succ_self _))⟩
  have nH:∀{b:Addr}{o:HO},H2 b=some o→L2.upd H2 s2.heap.objs.size (o0 s2.heap.objs.size) b=some o:=fun {b o} e=>by rw [bC (eT e hp2)];exact e
  refine Inv.call' (ch:=fp) (s':={s' with heap:=h''}) I2 I'.os ⟨fun b o e n hf hx=>?_,fun b o e n hf hx=>?_,fun b o e n hx=>?_,fun b o e hx=>?_,fun b xs e=>B.tups b xs (nH e),fun b o u e=>B.frzs b o u (nH e),fun b ps e=>B.tbls b ps (nH e)⟩ (yr I'.hok I'.free sb) I'.bare fun b hb=>⟨(f2 b hb).2.2.2.1,(f2 b hb).2.1,(f2 b hb).2.2.2.2.1,(f2 b hb).2.2.2.2.2⟩
  ·exact (sb.2 b (ne2 e).2).trans (B.keep b o (kHs b o e) (by rw [bC (ne2 e).1];exact n) hf hx)
  ·obtain ⟨sl,z⟩:=B.slot b o (kHs b o e) (by rw [bC (ne2 e).1];exact n) hf hx
   exact ⟨sl,(sb.2 b (ne2 e).2).trans z⟩
  ·exact B.free b o (kHs b o e) (by rw [bC (ne2 e).1];exact n) hx
  ·obtain ⟨o',z⟩:=B.there b o (kHs b o e) hx
   exact ⟨o',(sb.2 b (ne2 e).2).trans z⟩
 have run:=fun (s4:Shared) (I4:Inv (aZ X own cap scope cl Hs.objs.size {s2 with heap:=Hs,toks:=s2.toks} (L2.upd H2 s2.heap.objs.size (o0 s2.heap.objs.size)) fp) [] _ _ s4) (st4:tn 0 s4.heap)=>wN (X:=aZ X own cap scope cl Hs.objs.size {s2 with heap:=Hs,toks:=s2.toks} (L2.upd H2 s2.heap.objs.size (o0 s2.heap.objs.size)) fp) (e:=e) (depth:=0) (acc:=.ref s2.heap.objs.size) (aR _) hcalm (fun _ _ f=>f) (LP it _ _) hT hIf (hE s2.heap.objs.size J2 H2 hp2 H0p) T (fun J' H'=>aX J2 J'∧aX H2 H') wk (fun J' H' x _=>⟨x.j,x.h⟩) I4 st4 (fpC fun b hb=>(f3 b hb).1) (Ext.new e2.sub hp2 _) (srA.cap own.length cap (ze hnd)) nown (a0 _ _ _ (Hy I2) b9 J2p) (Nat.le_trans (by rw [List.length_nil,Nat.zero_add];exact Nat.mul_le_mul_right N hsz) hN) w3
 have st4:=T.keep _ _ _ st2 (fun b hb o e=>old1 b o (kHs b o e))
 have go:=codeAny_mono (run _ I4 st4) (R':=compPost (model X.prog X.w) X.A X.xe use Q0 (.ref s2.heap.objs.size) Hs.objs.size) fun r s' ⟨hr,σ',H',J',r',I9,x9,j9,sr9,no9,ac9,l9,w9⟩=>by
  subst hr
  obtain ⟨mm,hm,_⟩:=I9.loc
  refine hfin s2.heap.objs.size Hs.objs.size mm _ H' _ hm (Hw I2 (by rw [hC];exact Nat.le_succ _)) I9.free (fun h'' sb=>back I9 sb) ?_
  cases q:fin r'.1 with
  | bad=>rw [q] at w9;exact w9.elim
  | exc z=>rw [q] at w9;exact (nofin _ z q).elim
  | ok z=>
   rw [q] at w9
   obtain ⟨J9,x10,rr⟩:=hend (e2.h.free hp2) (e2.trans x9) ac9 q
   exact w9 _ J9 H' x10 rr
 exact start it _ _ _ _ go (T.self _ 0 _ _ _ st4 go)
end
def jx (n:Nat) (cap:List Nat) (gi0:G (List D)) (gt0:GT) (gts0:G Bool) (gi1:G (List D)) (gt1:GT) (gts1:G Bool) (ge:G R):G R:=kq 10000 n cap gi0 gt0 gts0 (iW gi1 gt1 gts1 (gF ge)) (fun ys=>.ok (.l .fresh ys))
theorem Hf (elt t0 i0 t1 i1:Expr) (f0 f1:List Expr) (scope:Scope) (pos:Pos) (it acc:Value) (env:Env):
  compTurn (.ListComp elt [⟨t0,i0,f0,0⟩,⟨t1,i1,f1,0⟩] scope pos) 0 it acc env=(do
   standAt i0.pos
   match ←pyNext it with
   | none=>pure (.done .next)
   | some v=>
    letOwnedTupleGo t0 it v
    assign t0 env v
    let mut ok:=true
    for c in f0 do
     if ok then ok ←isTrue c env (eval c env)
    if ok then
     let x ←eval i1 env
     standAt i1.pos
     let x ←foldedSetIterable i1 env x
     let _ ←runOwn (.compStart (.ListComp elt [⟨t0,i0,f0,0⟩,⟨t1,i1,f1,0⟩] scope pos) 1 (←holding [x] (pyIter x)) acc env) env
    again (.compLoop (.ListComp elt [⟨t0,i0,f0,0⟩,⟨t1,i1,f1,0⟩] scope pos) 0 it acc env)):=by rfl
theorem Kg (elt t0 i0 t1 i1:Expr) (f0 f1:List Expr) (scope:Scope) (pos:Pos) (it acc:Value) (env:Env):
  compTurn (.ListComp elt [⟨t0,i0,f0,0⟩,⟨t1,i1,f1,0⟩] scope pos) 0 it acc env=ny t0 i0 f0 it env (p5 (.ListComp elt [⟨t0,i0,f0,0⟩,⟨t1,i1,f1,0⟩] scope pos) i1 acc env) (again (.compLoop (.ListComp elt [⟨t0,i0,f0,0⟩,⟨t1,i1,f1,0⟩] scope pos) 0 it acc env)):=by
 rw [Hf]
 refine bind_congr fun _=>bind_congr fun r=>?_
 cases r with
 | none=>rfl
 | some v=>
  refine bind_congr fun _=>bind_congr fun _=>bind_congr fun ok=>?_
  cases ok with
  | false=>rfl
  | true=>simp only [p5,bind_assoc,pure_bind,if_true]
theorem Kh (elt t0 i0 t1 i1:Expr) (f0 f1:List Expr) (scope:Scope) (pos:Pos) (it acc:Value) (env:Env):
  compTurn (.ListComp elt [⟨t0,i0,f0,0⟩,⟨t1,i1,f1,0⟩] scope pos) 1 it acc env=ny t1 i1 f1 it env (do let _ ←call (.builtin "list.append") [acc,←eval elt env]) (again (.compLoop (.ListComp elt [⟨t0,i0,f0,0⟩,⟨t1,i1,f1,0⟩] scope pos) 1 it acc env)):=by rfl
section
variable {X:Cx}{c:C}
theorem Bq (own:List Str) (cap:List Nat){elt t0 i0 t1 i1:Expr}{f0 f1:List Expr}{scope:Scope}{pos:Pos}{gi0 gi1:G (List D)}{gt0 gt1:GT}{gts0 gts1:G Bool}{ge:G R}(hi:nD X c t0 i0 gi0)
  (hbody:∀(cl:List (Str×Addr)) (C:Addr) (s:Shared) (H:Hp) (fp:List Addr),bG X.env.cells scope.names []=some cl→gE (aZ X own cap scope cl C s H fp) c t0 gt0∧fQ (aZ X own cap scope cl C s H fp) c f0 gts0∧lE (aZ X own cap scope cl C s H fp) c t1 i1 gi1∧gE (aZ X own cap scope cl C s H fp) c t1 gt1∧fQ (aZ X own cap scope cl C s H fp) c f1 gts1∧PD (aZ X own cap scope cl C s H fp) c elt ge)
  (hk:scope.kind=.function:=by rfl) (hno:gD X cap scope=true:=by rfl) (hnames:(scope.names.all fun x=>!(x.2 == .local) || (scope.names.lookup x.1 == some .local))=true:=by rfl)
  (hcl:(bG X.env.cells scope.names []).isSome=true:=by rfl) (hcap:eE X cap=true:=by rfl) (hloc:eO X cap scope=true:=by rfl) (hnd:gI cap=true:=by rfl) (hcalm:X.calm=true:=by rfl)
  (hs:∀x,foldedSetIterable i0 X.env x=pure x:=by intro _;rfl) (hs1:∀(en:Env) x,foldedSetIterable i1 en x=pure x:=by intro _ _;rfl)
  {pins:List (Addr×Obj)}{s:Shared}{σ:L2.St}{H:Hp}{Q:VK}{use:Option (Value→Sem Unit)}{Q0:Value→Shared→Prop}{pos':Pos}(I:Inv X pins σ H s) (h:tD c (jx own.length cap gi0 gt0 gts0 gi1 gt1 gts1 ge) σ H Q)
  (hfin:∀(acc C:Addr) (m:Str→Option Value) (s':Shared) (H':Hp) (fl:Flow),s'.heap.Ns C m→((C∈X.ex∨X.s₀.heap.objs.size≤C)∧C≠X.env.locals∧(∀x c,X.env.cells.lookup x=some c→c≠C)∧∀p∈X.pn++pins,p.1≠C)→H' C=none→(∀h'',Heap.SameBut C s'.heap h''→Inv X pins σ H' {s' with heap:=h''})→Q (.ref acc) H'→compPost (model X.prog X.w) X.A X.xe use Q0 (.ref acc) C (.ok fl) s'):
  wpAny (model X.prog X.w) X.A (comprehension (.ListComp elt [⟨t0,i0,f0,0⟩,⟨t1,i1,f1,0⟩] scope pos) scope X.env pos' (newList []) false (eval i0 X.env) use) Q0 X.xe s:=by
 refine pX (e:=.ListComp elt [⟨t0,i0,f0,0⟩,⟨t1,i1,f1,0⟩] scope pos) (ob:={cls:=.type "list",dict:=none,data:=.seq ([]:List Value).toArray}) (o0:=fun _=>.lst []) (Acc:=zG c) (N:=1000 * 1) (lim:=10000) (m:=fun p env=>p5 (.ListComp elt [⟨t0,i0,f0,0⟩,⟨t1,i1,f1,0⟩] scope pos) i1 (.ref p) env) own cap rfl hi
  (fun s Q E q=>wpAny_newObj_type q) (fun h H=>⟨Nat.zero_le _,[],0,.nil,Heap.get?_push_size _ rfl⟩) (fun p=>pW) (fun p J H _ h1 h2=>⟨[],h1,h2,.nil⟩) (by decide) (fun it p env=>Aj (Kg ..)) (fun it acc env R s h0 h=>codeAny_compStart_list h0 h) (fun ys z q=>by cases q)
  (fun {p J H J' H' ys r} hp e ⟨us,h1,h2,h3⟩ q=>by cases q;exact ⟨J',e,⟨p,us,rfl,h1,h2,hp,h3⟩⟩) (fun cl C s H fp hcc=>?_) hk hno hnames hcl hcap hloc hnd hcalm hs I h hfin
 obtain ⟨b1,b2,b3,b4,b5,b6⟩:=hbody cl C s H fp hcc
 refine ⟨b1,b2,fun p J2 H2 hp2 hp0=>?_⟩
 exact yJ pW hcalm (fun _ _ f=>f) (fun x=>hs1 _ x) (fun it R s h0 h=>J_ h0 h) (fun it=>Aj (Kh ..)) b3 b4 b5 (yI (fun _ _ f=>f) hp2 hp0 b6)
theorem B7 (own:List Str) (cap:List Nat){elt t0 i0 t1 i1:Expr}{f0 f1:List Expr}{scope:Scope}{pos:Pos}{gi0 gi1:G (List D)}{gt0 gt1:GT}{gts0 gts1:G Bool}{ge:G R}(hi:nD X c t0 i0 gi0)
  (hbody:∀(cl:List (Str×Addr)) (C:Addr) (s:Shared) (H:Hp) (fp:List Addr),bG X.env.cells scope.names []=some cl→gE (aZ X own cap scope cl C s H fp) c t0 gt0∧fQ (aZ X own cap scope cl C s H fp) c f0 gts0∧lE (aZ X own cap scope cl C s H fp) c t1 i1 gi1∧gE (aZ X own cap scope cl C s H fp) c t1 gt1∧fQ (aZ X own cap scope cl C s H fp) c f1 gts1∧PD (aZ X own cap scope cl C s H fp) c elt ge)
  (hk:scope.kind=.function:=by rfl) (hno:gD X cap scope=true:=by rfl) (hnames:(scope.names.all fun x=>!(x.2 == .local) || (scope.names.lookup x.1 == some .local))=true:=by rfl)
  (hcl:(bG X.env.cells scope.names []).isSome=true:=by rfl) (hcap:eE X cap=true:=by rfl) (hloc:eO X cap scope=true:=by rfl) (hnd:gI cap=true:=by rfl) (hcalm:X.calm=true:=by rfl)
  (hs:∀x,foldedSetIterable i0 X.env x=pure x:=by intro _;rfl) (hs1:∀(en:Env) x,foldedSetIterable i1 en x=pure x:=by intro _ _;rfl):PD X c (.ListComp elt [⟨t0,i0,f0,0⟩,⟨t1,i1,f1,0⟩] scope pos) (jx own.length cap gi0 gt0 gts0 gi1 gt1 gts1 ge):=by
 intro pins s σ H Q I h
 rw [eval_ListComp]
 exact Bq own cap hi hbody hk hno hnames hcl hcap hloc hnd hcalm hs hs1 I h fun acc C m s' H' fl hm hz hf hb q=>⟨m,hm,fun h'' sb=>⟨.ref acc,H',hb h'' sb,rfl,q⟩⟩
theorem B0 (i:Nat) (own:List Str) (cap:List Nat){elt t0 i0 t1 i1:Expr}{f0 f1:List Expr}{scope:Scope}{pos:Pos}{gi0 gi1:G (List D)}{gt0 gt1:GT}{gts0 gts1:G Bool}{ge:G R}{pos' pos2:Pos}{x:Str}(hN:X.N.Nodup) (hi:nD X c t0 i0 gi0)
  (hbody:∀(cl:List (Str×Addr)) (C:Addr) (s:Shared) (H:Hp) (fp:List Addr),bG X.env.cells scope.names []=some cl→gE (aZ X own cap scope cl C s H fp) c t0 gt0∧fQ (aZ X own cap scope cl C s H fp) c f0 gts0∧lE (aZ X own cap scope cl C s H fp) c t1 i1 gi1∧gE (aZ X own cap scope cl C s H fp) c t1 gt1∧fQ (aZ X own cap scope cl C s H fp) c f1 gts1∧PD (aZ X own cap scope cl C s H fp) c elt ge)
  (hk:scope.kind=.function:=by rfl) (hno:gD X cap scope=true:=by rfl) (hnames:(scope.names.all fun x=>!(x.2 == .local) || (scope.names.lookup x.1 == some .local))=true:=by rfl)
  (hcl:(bG X.env.cells scope.names []).isSome=true:=by rfl) (hcap:eE X cap=true:=by rfl) (hloc:eO X cap scope=true:=by rfl) (hnd:gI cap=true:=by rfl) (hcalm:X.calm=true:=by rfl)
  (hs:∀x,foldedSetIterable i0 X.env x=pure x:=by intro _;rfl) (hs1:∀(en:Env) x,foldedSetIterable i1 en x=pure x:=by intro _ _;rfl) (hx:X.N[i]?=some x:=by rfl) (hxl:X.env.scope.names.lookup x=some .local:=by rfl)
  (hsw:swapsWith (.ListComp elt [⟨t0,i0,f0,0⟩,⟨t1,i1,f1,0⟩] scope pos) (some (.Name x pos')) pos2.line X.env=pure true:=by rfl):jd X c (.Assign [.Name x pos'] (.ListComp elt [⟨t0,i0,f0,0⟩,⟨t1,i1,f1,0⟩] scope pos) pos2) (bh i (jx own.length cap gi0 gt0 gts0 gi1 gt1 gts1 ge)):=by
 intro pins s σ H D I ⟨J,env,sr,w⟩
 rw [arm_exec_Assign]
 refine wpAny_bind (wpAny_standAt ?_)
 rw [show swapsWithSole [.Name x pos'] (.ListComp elt [⟨t0,i0,f0,0⟩,⟨t1,i1,f1,0⟩] scope pos) pos2.line X.env=pure true from hsw]
 refine wpAny_bind (wpAny_pure ?_)
 rw [if_pos rfl,arm_evalThenUse_ListComp]
 refine wpAny_bind (wpAny_bind (Bq own cap hi hbody hk hno hnames hcl hcap hloc hnd hcalm hs hs1 (Q:=fun v H1=>∃J1 r xx,Ext J H J1 H1∧RR c H J1 H1 r v∧toS r=.ok xx∧oP c J D (.nx (env.set i (some xx)))) I ⟨J,env,sr,aE (aM w) fun r wr v J1 H1 e1 r1=>?_⟩ fun acc C m s' H' fl hm ap hf hb ⟨J1,r,xx,e1,r1,q1,w1⟩=>?_))
 ·obtain ⟨xx,q,wr⟩:=sO wr
  exact ⟨J1,r,xx,e1,r1,q,wr⟩
 ·have I1:L2.Inv X pins σ H' s':=hb s'.heap (Heap.SameBut.refl ..)
  show wpAny _ _ (do standAt pos';bindName X.env x (.ref acc)) _ _ _
  refine wpAny_bind (wpAny_standAt (wpAny_bindName ?_))
  refine oO I1 hN hx (.inl hxl) (v:=.ref acc) (u:=.ref acc) rfl (fun s2 I2 ⟨a,sb,ha⟩=>?_) (.inr hxl)
  have hac:C≠a:=fun z=>by
   rcases ha with e | e
   ·exact ap.2.1 (z.trans e)
   ·exact ap.2.2.1 _ _ e z.symm
  refine ⟨m,hm.sameBut sb hac,fun h2 sb2=>?_⟩
  refine wpAny_pure (wpAny_pure ⟨σ.set i (some (.ref acc)),H',tL I2 ap hf sb2 (o0:=default),?_⟩)
  exact w1 _ J1 H' e1.j (sr.set e1 r1 q1)
theorem AE (own:List Str) (cap:List Nat){elt t0 i0 t1 i1:Expr}{f0 f1:List Expr}{scope:Scope}{pos:Pos}{gi0 gi1:G (List D)}{gt0 gt1:GT}{gts0 gts1:G Bool}{ge:G R}(hi:vC X c t0 i0 gi0)
  (hbody:∀(cl:List (Str×Addr)) (C:Addr) (s:Shared) (H:Hp) (fp:List Addr),bG X.env.cells scope.names []=some cl→lF (aZ X own cap scope cl C s H fp) c t0 gt0∧kY (aZ X own cap scope cl C s H fp) c f0 gts0∧vD (aZ X own cap scope cl C s H fp) c t1 i1 gi1∧lF (aZ X own cap scope cl C s H fp) c t1 gt1∧kY (aZ X own cap scope cl C s H fp) c f1 gts1∧QD (aZ X own cap scope cl C s H fp) c elt ge)
  (hk:scope.kind=.function:=by rfl) (hno:gD X cap scope=true:=by rfl) (hnames:(scope.names.all fun x=>!(x.2 == .local) || (scope.names.lookup x.1 == some .local))=true:=by rfl)
  (hcl:(bG X.env.cells scope.names []).isSome=true:=by rfl) (hcap:eE X cap=true:=by rfl) (hloc:eO X cap scope=true:=by rfl) (hnd:gI cap=true:=by rfl) (hcalm:X.calm=true:=by rfl)
  (hs:∀x,foldedSetIterable i0 X.env x=pure x:=by intro _;rfl) (hs1:∀(en:Env) x,foldedSetIterable i1 en x=pure x:=by intro _ _;rfl):QD X c (.ListComp elt [⟨t0,i0,f0,0⟩,⟨t1,i1,f1,0⟩] scope pos) (jx own.length cap gi0 gt0 gts0 gi1 gt1 gts1 ge):=
 ⟨B7 own cap hi.h (fun cl C s H fp hc=>let ⟨a,b,d,e,f,g⟩:=hbody cl C s H fp hc;⟨a.h,b.h,d.h,e.h,f.h,g.h⟩) hk hno hnames hcl hcap hloc hnd hcalm hs hs1⟩
theorem AB (i:Nat) (own:List Str) (cap:List Nat){elt t0 i0 t1 i1:Expr}{f0 f1:List Expr}{scope:Scope}{pos:Pos}{gi0 gi1:G (List D)}{gt0 gt1:GT}{gts0 gts1:G Bool}{ge:G R}{pos' pos2:Pos}{x:Str}(hN:X.N.Nodup) (hi:vC X c t0 i0 gi0)
  (hbody:∀(cl:List (Str×Addr)) (C:Addr) (s:Shared) (H:Hp) (fp:List Addr),bG X.env.cells scope.names []=some cl→lF (aZ X own cap scope cl C s H fp) c t0 gt0∧kY (aZ X own cap scope cl C s H fp) c f0 gts0∧vD (aZ X own cap scope cl C s H fp) c t1 i1 gi1∧lF (aZ X own cap scope cl C s H fp) c t1 gt1∧kY (aZ X own cap scope cl C s H fp) c f1 gts1∧QD (aZ X own cap scope cl C s H fp) c elt ge)
  (hk:scope.kind=.function:=by rfl) (hno:gD X cap scope=true:=by rfl) (hnames:(scope.names.all fun x=>!(x.2 == .local) || (scope.names.lookup x.1 == some .local))=true:=by rfl)
  (hcl:(bG X.env.cells scope.names []).isSome=true:=by rfl) (hcap:eE X cap=true:=by rfl) (hloc:eO X cap scope=true:=by rfl) (hnd:gI cap=true:=by rfl) (hcalm:X.calm=true:=by rfl)
  (hs:∀x,foldedSetIterable i0 X.env x=pure x:=by intro _;rfl) (hs1:∀(en:Env) x,foldedSetIterable i1 en x=pure x:=by intro _ _;rfl) (hx:X.N[i]?=some x:=by rfl) (hxl:X.env.scope.names.lookup x=some .local:=by rfl)
  (hsw:swapsWith (.ListComp elt [⟨t0,i0,f0,0⟩,⟨t1,i1,f1,0⟩] scope pos) (some (.Name x pos')) pos2.line X.env=pure true:=by rfl):jL X c (.Assign [.Name x pos'] (.ListComp elt [⟨t0,i0,f0,0⟩,⟨t1,i1,f1,0⟩] scope pos) pos2) (bh i (jx own.length cap gi0 gt0 gts0 gi1 gt1 gts1 ge)):=
 ⟨B0 i own cap hN hi.h (fun cl C s H fp hc=>let ⟨a,b,d,e,f,g⟩:=hbody cl C s H fp hc;⟨a.h,b.h,d.h,e.h,f.h,g.h⟩) hk hno hnames hcl hcap hloc hnd hcalm hs hs1 hx hxl hsw⟩
end
def AH:Value→Option V
 | .int i _=>some (.int i)
 | .ref a=>some (.ref a)
 | _=>none
def jU:List Value→Option (List V)
 | []=>some []
 | u::us=>match AH u,jU us with
  | some v,some vs=>some (v::vs)
  | _,_=>none
open Classical in
noncomputable def kH (h:Heap):Hp:=fun a=>match h.get? a with
 | some o=>if o.cls=.type "tuple" then (match o.data with
  | .seq its _=>(jU its.toList).map .tup
  | _=>none) else none
 | none=>none
theorem Ek {u:Value}{v:V}(h:AH u=some v):RelV v u:=by
 cases u with
 | int i t=>cases h;exact ⟨t,rfl⟩
 | ref a=>cases h;exact rfl
 | _=>cases h
theorem tW:∀{us:List Value}{vs:List V},jU us=some vs→Vals vs us
 | [],vs,h=>by cases h;exact .nil
 | u::us,vs,h=>by
  unfold jU at h
  cases q:AH u with
  | none=>rw [q] at h;cases h
  | some v=>
   cases q2:jU us with
   | none=>rw [q,q2] at h;cases h
   | some ws=>rw [q,q2] at h;cases h;exact .cons (Ek q) (tW q2)
theorem iB {h:Heap}{a:Addr}{o:HO}(q:kH h a=some o):∃vs ob its n,o=.tup vs∧h.get? a=some ob∧ob.cls=.type "tuple"∧ob.data=.seq its n∧Vals vs its.toList:=by
 unfold kH at q
 split at q
 ·rename_i ob hob
  split at q
  ·rename_i hc
   split at q
   ·rename_i its n hd
    cases z:jU its.toList with
    | none=>rw [z] at q;cases q
    | some vs=>rw [z] at q;cases q;exact ⟨vs,ob,its,n,rfl,hob,hc,hd,tW z⟩
   ·cases q
  ·cases q
 ·cases q
theorem GW {h:Heap}{a:Addr}{its:List Value}{vs:List V}(p:h.IsTuple a its.toArray) (q:jU its=some vs):kH h a=some (.tup vs):=by
 obtain ⟨o,ho,hc,n,hd⟩:=p
 unfold kH
 rw [ho]
 simp only [hc,if_true,hd]
 rw [q];rfl
theorem oh {s:Shared}:HF [] (kH s.heap) s:=by
 refine ⟨fun a xs h=>?_,fun a xs h=>?_,fun a h=>?_,fun a kvs h=>?_⟩
 ·rcases h with (h | ⟨o,h⟩) | ⟨o,its,n,h,_⟩
  ·obtain ⟨vs,ob,its,n,e,h1,h2,h3,h4⟩:=iB h
   cases e
   exact ⟨its.toList,h4,ob,h1,h2,n,by rw [h3]⟩
  ·obtain ⟨vs,ob,its,n,e,_⟩:=iB h;cases e
  ·cases h
 ·rcases h with (h | ⟨o,h⟩) | ⟨o,its,n,h,_⟩
  ·obtain ⟨vs,ob,its,n,e,_⟩:=iB h;cases e
  ·obtain ⟨vs,ob,its,n,e,_⟩:=iB h;cases e
  ·cases h
 ·obtain ⟨vs,ob,its,n,e,_⟩:=iB h;cases e
 ·obtain ⟨vs,ob,its,n,e,_⟩:=iB h;cases e
theorem xh {K:PySem.W.Frag}{J:Hp}:∀{ds:List D}{vs:List V}{us:List Value},areKeys ds=true→aG K J ds vs→Vals vs us→jU us=some vs
 | _,_,_,_,.nil,.nil=>rfl
 | d::ds,v::vs,u::us,h,.cons r rs,.cons q qs=>by
  unfold areKeys at h
  rw [Bool.and_eq_true] at h
  have ih:=xh h.2 rs qs
  have e:AH u=some v:=by
   cases d with
   | int i=>cases r;obtain ⟨t,rfl⟩:=q;rfl
   | tup xs=>cases r;cases q;rfl
   | _=>cases h.1
  unfold jU
  rw [e,ih]
mutual
theorem o_ {K:PySem.W.Frag}{J:Hp}{s:Shared}(F:HF K J s):∀{d:D}{v:V},isKey d=true→Rep K J d v→Rep [] (kH s.heap) d v
 | .int i,_,_,.int _=>.int i
 | .tup ds,_,hk,.tup (a:=a) (vs:=vs) h hs=>by
  obtain ⟨its,r,p⟩:=F.t _ _ h
  exact .tup (.inl (.inl (GW p (xh hk hs r)))) (xj F hk hs)
 | .non,_,hk,_=>nomatch hk
 | .bl _,_,hk,_=>nomatch hk
 | .str _,_,hk,_=>nomatch hk
 | .lst _,_,hk,_=>nomatch hk
 | .emp,_,hk,_=>nomatch hk
 | .exn _ _ _,_,hk,_=>nomatch hk
 | .dct _ _,_,hk,_=>nomatch hk
theorem xj {K:PySem.W.Frag}{J:Hp}{s:Shared}(F:HF K J s):∀{ds:List D}{vs:List V},areKeys ds=true→aG K J ds vs→aG [] (kH s.heap) ds vs
 | [],_,_,.nil=>.nil
 | d::ds,_,h,.cons r rs=>by
  unfold areKeys at h
  rw [Bool.and_eq_true] at h
  exact .cons (o_ F h.1 r) (xj F h.2 rs)
end
theorem Cn {h h':Heap}{d:Addr}{o:Obj} {es ep}(ho:h.get? d=some o) (hd:o.data=.dict es ep) (sb:Heap.SameBut d h h'):aX (kH h) (kH h'):=fun a x q=>by
 obtain ⟨vs,ob,its,n,rfl,h1,h2,h3,h4⟩:=iB q
 have hne:a≠d:=by
  rintro rfl
  rw [ho] at h1;cases h1
  rw [hd] at h3;cases h3
 unfold kH at q ⊢
 rw [sb.2 a hne]
 exact q
def KD:Type:={d:D // isKey d=true∧dep d≤8}
noncomputable instance:DecidableEq KD:=fun a b=>Classical.propDecidable (a=b)
def AI (A:Around):Prop:=A.units + 16 < cLine
noncomputable def oj (prog:Program) (w:World):HeapKind prog w KD where
 is:=fun h k a=>Rep [] (kH h) k.1 (.ref a)
 hash:=fun k=>bO k.1
 draws:=fun k=>jP k.1
 room:=AI
 inj:=fun {h a x y} hx hy=>Subtype.ext (Rep.inj (s:=({heap:=h}:Shared)) oh hx hy (by have:=x.2.2;omega) (by have:=y.2.2;omega))
 keeps:=fun hx ho hd sb=>Rep.mono (Cn ho hd sb) hx
 pyHash:=fun {A E s k a Q} hu hx q=>sP k.1 (.ref a) (.ref a) A s oh k.2.1 hx rfl (by have:=k.2.2;unfold AI at hu;omega) E s Q oh q
 eqBool:=fun {A E s x y a b Q} hu hx hy q=>by
  have h:=lM (s:=s) oh A hx hy rfl rfl (u:=.ref a) (u':=.ref b) (by have:=x.2.2;unfold AI at hu;omega) (by have:=x.2.2;omega) (by have:=y.2.2;omega)
  refine h _ _ _ _ ?_
  have e:bq x.1 y.1=decide (x=y):=by
   rw [Bool.eq_iff_iff,su x.2.1 y.2.1,decide_eq_true_eq]
   exact ⟨fun z=>Subtype.ext z,fun z=>congrArg Subtype.val z⟩
  rw [e];exact q
 quiet:=fun {A E s k a Q} hx q=>l_ 8 oh ⟨k.1,.ref a,k.2.1,k.2.2,hx,rfl⟩ q
def kR:List D→List D→D→Option D
 | k::ks,v::vs,x=>if bq k x=true then some v else kR ks vs x
 | _,_,_=>none
section
variable {K:PySem.W.Frag}{J:Hp}{s:Shared}{P:Program}{w:World}
theorem rZ (F:HF K J s):∀{ks:List D}{us ws:List V}{es:List DictEntry},areKeys ks=true→(∀k∈ks,∃xs,k=.tup xs)→deps ks≤8→aG K J ks us→ws.length=us.length→Paired vg ((cB ks).zip (us.zip ws)) es→
  ∃xs:List (KD×Addr×Value),es=xs.map (entryOfKey (oj P w))∧xs.map (fun x=>x.1.1)=ks∧(∀x∈xs,(oj P w).is s.heap x.1 x.2.1)∧Vals ws (xs.map fun x=>x.2.2)∧Vals us (xs.map fun x=>Value.ref x.2.1)
 | _,_,[],_,_,_,_,.nil,_,h=>by
  cases h
  exact ⟨[],rfl,rfl,fun _ h=>(nomatch h),.nil,.nil⟩
 | k::ks,u::us,v::ws,es,hk,ht,hd,.cons r rs,hl,h=>by
  unfold areKeys at hk
  rw [Bool.and_eq_true] at hk
  unfold deps at hd
  have h:Paired vg ((bO k,u,v)::(cB ks).zip (us.zip ws)) es:=h
  cases h with
  | @cons _ e _ es' h1 h2=>
   obtain ⟨xs,e1,e2,e3,e4,e5⟩:=rZ F hk.2 (fun k hk=>ht k (List.mem_cons_of_mem _ hk)) (by omega) rs (by simpa using hl) h2
   obtain ⟨xs',rfl⟩:=ht k List.mem_cons_self
   obtain ⟨q1,q2,q3⟩:=h1
   obtain ⟨eh,ek,ev⟩:=e
   cases r with
   | tup t1 t2=>
    rename_i a vs
    have q2:ek=.ref a:=q2
    have q1:eh=bO (.tup xs'):=q1
    subst q2;subst q1
    refine ⟨(⟨.tup xs',hk.1,by omega⟩,a,ev)::xs,by rw [e1];rfl,by rw [List.map_cons,e2],fun x hx=>?_,.cons q3 e4,.cons rfl e5⟩
    (rcases List.mem_cons.mp hx with rfl | hx)
    ·exact o_ F hk.1 (.tup t1 t2)
    ·exact e3 x hx
 | [],us,v::ws,_,_,_,_,rs,hl,_=>by cases rs;cases hl
 | k::ks,us,[],_,_,_,_,rs,hl,_=>by cases rs;cases hl
theorem wR {xs:List (KD×Addr×Value)}{ks:List D}(e:xs.map (fun x=>x.1.1)=ks) (nd:ks.Nodup):(xs.map (·.1)).Nodup:=by
 rw [←e] at nd
 have this:((xs.map (·.1)).map (fun k:KD=>k.1)).Nodup:=by rw [List.map_map];exact nd
 exact List.Pairwise.of_map (fun k:KD=>k.1) (fun a b h e=>h (congrArg (fun k:KD=>k.1) e)) this
theorem zK:∀{xs:List (KD×Addr×Value)}{ks vs:List D}{ws:List V}(k:KD),xs.map (fun x=>x.1.1)=ks→aG K J vs ws→Vals ws (xs.map fun x=>x.2.2)→
  (∀d,kR ks vs k.1=some d→∃p v,atKey xs k=some p∧RelV v p.2∧Rep K J d v)∧(kR ks vs k.1=none→atKey xs k=none)
 | [],_,vs,ws,k,e,rs,rv=>by
  subst e
  exact ⟨fun d h=>(nomatch h),fun _=>rfl⟩
 | x::xs,_,_,_,k,e,.cons r rs,.cons q rv=>by
  subst e
  obtain ⟨i1,i2⟩:=zK (xs:=xs) k rfl rs rv
  rw [List.map_cons]
  unfold kR
  by_cases c:x.1=k
  ·have:bq x.1.1 k.1=true:=by rw [c];exact fS _
   rw [if_pos this]
   have ek:atKey (x::xs) k=some x.2:=by unfold atKey;rw [List.find?_cons_of_pos (by simpa using c)];rfl
   exact ⟨fun d h=>by cases h;exact ⟨x.2,_,ek,q,r⟩,fun h=>nomatch h⟩
  ·have:¬bq x.1.1 k.1=true:=fun h=>c (Subtype.ext ((su x.1.2.1 k.2.1).mp h))
   rw [if_neg this]
   have ek:atKey (x::xs) k=atKey xs k:=by unfold atKey;rw [List.find?_cons_of_neg (by simpa using c)]
   rw [ek]
   exact ⟨i1,i2⟩
theorem C6 (F:HF K J s){ks vs:List D}{a:Addr}(h:Rep K J (.dct ks vs) (.ref a)):∃(xs:List (KD×Addr×Value)) (ws:List V),s.heap.DictOfH (oj P w) a xs∧xs.map (fun x=>x.1.1)=ks∧aG K J vs ws∧Vals ws (xs.map fun x=>x.2.2)∧(a == sysModules)=false:=by
 cases h with
 | dct h hk hv ok hs=>
  rename_i us ws
  obtain ⟨o,es,ep,h1,h2,h3,h4⟩:=F.d _ _ h
  obtain ⟨xs,e1,e2,e3,e4,e5⟩:=rZ (P:=P) (w:=w) F ok.key ok.tp ok.dp hk (by rw [←hv.length,←hk.length,hs.2]) h4
  exact ⟨xs,ws,⟨o,es,ep,h1,h2,h3,e1,e3,wR e2 ok.nd⟩,e2,hv,e4,hs.1⟩
end
def i8:D→Bool
 | .tup xs=>areKeys xs && decide (deps xs + 1≤8)
 | _=>false
theorem qV {k:D}(h:i8 k=true):∃xs,k=.tup xs∧isKey k=true∧dep k≤8:=by
 cases k with
 | tup xs=>
  unfold i8 at h
  rw [Bool.and_eq_true] at h
  exact ⟨xs,rfl,h.1,of_decide_eq_true h.2⟩
 | _=>cases h
def r_:R→R→M R
 | .d (.dct ks vs),.d k=>if i8 k=true then (match kR ks vs k with
  | some d=>.ok (.d d)
  | none=>.bad) else .bad
 | _,_=>.bad
section
variable {X:Cx}{c:C}{a b:Expr}{ga gb:G R}{pos:Pos}
theorem Ib (hu:X.A.units + 64 < cLine):nQ X (fun x y H Q=>∃J ks vs k d,aX J H∧Rep X.K J (.dct ks vs) x∧Rep X.K J k y∧i8 k=true∧kR ks vs k=some d∧∀v,Rep X.K J d v→Q v H):=by
 intro value slice pins s σ H x y v u Q I rx ry h hs
 obtain ⟨J,ks,vs,k,d,sm,hd,hk,ok,lk,q⟩:=h
 have F:HF X.K J s:=HF.of (c:=⟨X.K,H,H,fun _=>True⟩) I sm
 obtain ⟨kx,rfl,k1,k2⟩:=qV ok
 obtain ⟨p,rfl⟩:∃p,x=.ref p:=by cases hd;exact ⟨_,rfl⟩
 obtain ⟨r,rfl⟩:∃r,y=.ref r:=by cases hk;exact ⟨_,rfl⟩
 cases rx
 cases ry
 obtain ⟨xs,ws,hm,e2,hv,e4,hsm⟩:=C6 (P:=X.prog) (w:=X.w) F hd
 obtain ⟨pp,v,ea,rv,rd⟩:=(zK ⟨.tup kx,k1,k2⟩ e2 hv e4).1 d lk
 have room:(oj X.prog X.w).room X.A.in1:=by show X.A.units + 1 + 16 < cLine;omega
 exact subscriptTail_builtinR (x:=pp.2) hm.typeIs slot_dict_getitem.lookup (wpAny_getItem_heap (Q:=fun r s'=>r=pp.2∧EP X pins σ Q r s') room (o_ F k1 hk) hm ea ⟨rfl,v,H,I.tok _,rv,q v rd⟩) hs
theorem IZ (hu:X.A.units + 64 < cLine) (ha:PD X c a ga) (hb:PD X c b gb) (hK:X.K=c.K:=by rfl) (hs:jW b:=by exact fun _ _=>rfl):PD X c (.Subscript a b pos) (g2 r_ ga gb):=ET (Ib hu) (by
 intro He He' J H x y u v Q hp rx ry w
 unfold r_ at w
 split at w
 ·split at w
  ·rename_i ok
   split at w
   ·rename_i d hd
    exact ⟨J,_,_,_,d,hp.sub,by rw [hK];exact rx,by rw [hK];exact ry,ok,hd,fun v rd=>w v J H (Ext.refl hp.sub) (by rw [hK] at rd;exact rd)⟩
   ·exact w.elim
  ·exact w.elim
 ·exact w.elim) ha hb hs
theorem zh (hu:X.A.units + 64 < cLine) (ha:QD X c a ga) (hb:QD X c b gb) (hK:X.K=c.K:=by rfl) (hs:jW b:=by exact fun _ _=>rfl):QD X c (.Subscript a b pos) (g2 r_ ga gb):=⟨IZ hu ha.h hb.h hK hs⟩
end
def AA:List D→List D→D→D→List D
 | k::ks,v::vs,x,d=>(if bq k x=true then d else v)::AA ks vs x d
 | _,vs,_,_=>vs
def dput (z:List D×List D) (k d:D):List D×List D:=if (kR z.1 z.2 k).isSome=true then (z.1,AA z.1 z.2 k d) else (z.1++[k],z.2++[d])
def dD (ys:List D):List D×List D:=ys.foldl (fun z y=>match y with
 | .tup [k,d]=>dput z k d
 | _=>z) ([],[])
theorem iy (ys:List D) (k d:D):dD (ys++[.tup [k,d]])=dput (dD ys) k d:=by unfold dD;rw [List.foldl_append];rfl
inductive cF (K:PySem.W.Frag) (J:Hp):List (KD×Addr×Value)→List D→List V→List D→List V→Prop
 | nil:cF K J [] [] [] [] []
 | cons {x:KD×Addr×Value}{xs:List (KD×Addr×Value)}{ks vs:List D}{us ws:List V}{d:D}{v:V}:RelV v x.2.2→Rep K J d v→cF K J xs ks us vs ws→cF K J (x::xs) (x.1.1::ks) (.ref x.2.1::us) (d::vs) (v::ws)
section
variable {K:PySem.W.Frag}{J:Hp}{P:Program}{w:World}
theorem cF.of:∀{xs:List (KD×Addr×Value)}{us:List V}{vs:List D}{ws:List V},aG K J vs ws→Vals ws (xs.map fun x=>x.2.2)→Vals us (xs.map fun x=>Value.ref x.2.1)→cF K J xs (xs.map fun x=>x.1.1) us vs ws
 | [],_,_,_,.nil,.nil,.nil=>.nil
 | x::xs,u::us,_,_,.cons r rs,.cons q qs,.cons p ps=>by
  have:u=.ref x.2.1:=by
   cases u with
   | ref a=>cases p;rfl
   | int i=>obtain ⟨t,h⟩:=p;cases h
   | str i=>obtain ⟨t,h⟩:=p;cases h
   | byt i=>obtain ⟨t,h⟩:=p;cases h
   | flt i=>obtain ⟨t,h⟩:=p;cases h
   | non=>cases p
   | bl b=>cases p
   | ty n=>cases p
  subst this
  exact .cons q r (cF.of rs qs ps)
theorem cF.put {k:KD}{u:Value}{d:D}{v:V}(rv:RelV v u) (rd:Rep K J d v):∀{xs:List (KD×Addr×Value)}{ks vs:List D}{us ws:List V},cF K J xs ks us vs ws→∃ws',cF K J (xs.map (putAt k u)) ks us (AA ks vs k.1 d) ws'
 | _,_,_,_,_,.nil=>⟨[],.nil⟩
 | x::xs,_,_,_,_,.cons q r t=>by
  obtain ⟨ws',ih⟩:=cF.put rv rd t
  rw [List.map_cons]
  unfold AA
  by_cases c:x.1=k
  ·have:bq x.1.1 k.1=true:=by rw [c];exact fS _
   rw [if_pos this]
   have e:putAt k u x=(x.1,x.2.1,u):=by unfold putAt;rw [if_pos c]
   rw [e]
   exact ⟨v::ws',.cons (x:=(x.1,x.2.1,u)) rv rd ih⟩
  ·have:¬bq x.1.1 k.1=true:=fun h=>c (Subtype.ext ((su x.1.2.1 k.2.1).mp h))
   rw [if_neg this]
   have e:putAt k u x=x:=by unfold putAt;rw [if_neg c]
   rw [e]
   exact ⟨_,.cons q r ih⟩
theorem cF.snoc {k:KD}{a:Addr}{u:Value}{d:D}{v:V}(rv:RelV v u) (rd:Rep K J d v):∀{xs:List (KD×Addr×Value)}{ks vs:List D}{us ws:List V},cF K J xs ks us vs ws→cF K J (xs++[(k,a,u)]) (ks++[k.1]) (us++[.ref a]) (vs++[d]) (ws++[v])
 | _,_,_,_,_,.nil=>.cons (x:=(k,a,u)) rv rd .nil
 | _,_,_,_,_,.cons q r t=>.cons q r (cF.snoc rv rd t)
theorem cF.ents:∀{xs:List (KD×Addr×Value)}{ks vs:List D}{us ws:List V},cF K J xs ks us vs ws→Paired vg ((cB ks).zip (us.zip ws)) (xs.map (entryOfKey (oj P w)))
 | _,_,_,_,_,.nil=>.nil
 | _,_,_,_,_,.cons q r t=>.cons ⟨rfl,rfl,q⟩ t.ents
theorem cF.reps:∀{xs:List (KD×Addr×Value)}{ks vs:List D}{us ws:List V},cF K J xs ks us vs ws→aG K J vs ws
 | _,_,_,_,_,.nil=>.nil
 | _,_,_,_,_,.cons q r t=>.cons r t.reps
theorem cF.keys:∀{xs:List (KD×Addr×Value)}{ks vs:List D}{us ws:List V},cF K J xs ks us vs ws→xs.map (fun x=>x.1.1)=ks
 | _,_,_,_,_,.nil=>rfl
 | _,_,_,_,_,.cons q r t=>by rw [List.map_cons,t.keys]
theorem cF.len:∀{xs:List (KD×Addr×Value)}{ks vs:List D}{us ws:List V},cF K J xs ks us vs ws→ks.length=vs.length
 | _,_,_,_,_,.nil=>rfl
 | _,_,_,_,_,.cons q r t=>by rw [List.length_cons,List.length_cons,t.len]
theorem pG:∀{xs ys:List D},areKeys (xs++ys)=(areKeys xs && areKeys ys)
 | [],_=>rfl
 | x::xs,ys=>by
  show (isKey x && areKeys (xs++ys))=((isKey x && areKeys xs) && areKeys ys)
  rw [pG,Bool.and_assoc]
theorem vY:∀{xs ys:List D}{n:Nat},deps xs≤n→deps ys≤n→deps (xs++ys)≤n
 | [],_,_,_,h=>h
 | x::xs,ys,n,h1,h2=>by
  unfold deps at h1
  have:=vY (xs:=xs) (ys:=ys) (n:=n) (by omega) h2
  show max (dep x) (deps (xs++ys))≤n
  omega
theorem aG.snoc {ds:List D}{vs:List V}{d:D}{v:V}(h:aG K J ds vs) (r:Rep K J d v):aG K J (ds++[d]) (vs++[v]):=h.append (.cons r .nil)
end
def CV (c:C) (p:Addr):Hp→Hp→List D→Prop:=fun J H ys=>∃us ws,H p=some (pK p ((cB (dD ys).1).zip (us.zip ws)))∧J p=none∧aG c.K J (dD ys).1 us∧aG c.K J (dD ys).2 ws∧Hl (dD ys).1∧(dD ys).1.length=(dD ys).2.length∧(p == sysModules)=false∧(dD ys).1.length≤ys.length
theorem vE {c:C}{p:Addr}:vc (CV c p):=⟨fun {J H J' H' ys} ⟨us,ws,h1,h2,h3,h4,h5⟩ e=>⟨us,ws,e.h _ _ h1,e.frz _ (by rw [h1];intro z;cases z) h2,h3.mono e.j,h4.mono e.j,h5⟩⟩
def zH (gk gv:G R):Ev→M (List D×Ev):=fun e=>gk e >>= fun r=>toD r >>= fun k=>gv e >>= fun r2=>toD r2 >>= fun d=>if i8 k=true then .ok ([.tup [k,d]],e) else .bad
abbrev JE (kx vx:Expr) (p:Addr) (env:Env):Sem Unit:=do
 let kv ←eval kx env
 let vv ←holding [kv] (eval vx env)
 standAt {kx.pos with endLine:=vx.pos.endLine,endCol:=vx.pos.endCol}
 holding [kv,vv] (dictSet p kv vv)
section
variable {X:Cx}{c:C}{p:Addr}{J2 H2:Hp}{kx vx:Expr}{gk gv:G R}
theorem E6 (hu:X.A.units + 64 < cLine) (hK:X.K=c.K) (hx:∀v s,X.xe v s→False) (hp2:H2 p=none) (hp0:c.H0 p=none) (hk:PD X c kx gk) (hv:PD X c vx gv):rO X c p (CV c p) J2 H2 1 (JE kx vx p X.env) (zH gk gv):=by
 intro pins s σ H J env ys Qf I x2 sr no ⟨us,ws,h1,h2,h3,h4,h5,h6,h7,h8⟩ hl w
 refine wpAny_bind (wpAny_mono (hk _ s σ H (fun v H8=>∃J8 k,Ext J H J8 H8∧Rep c.K J8 k v∧cO (gv env >>= fun r2=>toD r2 >>= fun d=>if i8 k=true then M.ok ([.tup [k,d]],env) else .bad) Qf c.T) I ⟨J,env,sr,aE (aM w) fun r wr v J8 H8 e8 r8=>?_⟩) (fun u8 s8 ⟨v8,H8,I8,r8,J8,k,e8,rk,w8⟩=>?_) fun v s f=>(hx v s f).elim)
 ·obtain ⟨y,q,wr⟩:=j_ wr
  obtain ⟨J9,e9,_,ry⟩:=freeze e8 r8 q
  exact ⟨J9,y,e9,ry,wr⟩
 refine wpAny_bind (wpAny_holding (wpAny_mono (hv _ s8 σ H8 (fun v H9=>∃J9 d,Ext J8 H8 J9 H9∧Rep c.K J9 d v∧cO (if i8 k=true then M.ok ([.tup [k,d]],env) else .bad) Qf c.T) I8 ⟨J8,env,sr.ext e8,aE (aM w8) fun r wr v J9 H9 e9 r9=>?_⟩) (fun u9 s9 ⟨v9,H9,I9,r9,J9,d,e9,rd,w9⟩=>?_) fun v s f=>(hx v s f).elim))
 ·obtain ⟨y,q,wr⟩:=j_ wr
  obtain ⟨J9',e9',_,ry⟩:=freeze e9 r9 q
  exact ⟨J9',y,e9',ry,wr⟩
 refine wpAny_bind (wpAny_standAt (wpAny_holding ?_))
 by_cases ok:i8 k=true
 case neg=>rw [if_neg ok] at w9;exact w9.elim
 rw [if_pos ok] at w9
 have w9:Qf ([.tup [k,d]],env):=w9
 obtain ⟨kxs,rfl,k1,k2⟩:=qV ok
 have ee:=e8.trans e9
 have rk9:=rk.mono e9.j
 obtain ⟨a,rfl⟩:∃a,v8=.ref a:=by cases rk;exact ⟨_,rfl⟩
 cases r8
 have p9:H9 p=some (pK p ((cB (dD ys).1).zip (us.zip ws))):=ee.h _ _ h1
 have J9p:J9 p=none:=ee.frz _ (by rw [h1];intro z;cases z) h2
 have sub9:aX J9 H9:=ee.sub
 have F:HF X.K J9 s9:=HF.of (c:=⟨X.K,H9,H9,fun _=>True⟩) I9 sub9
 rw [←hK] at h3 h4 rk9 rd
 obtain ⟨o,es,ep,g1,g2',g3,g4⟩:=(show cg X.prog X.w H9 s9.heap p (pK p ((cB (dD ys).1).zip (us.zip ws))) from I9.hok p _ p9).1
 obtain ⟨xs,q1,q2,q3,q4,q5⟩:=rZ (P:=X.prog) (w:=X.w) F h5.key h5.tp h5.dp (h3.mono ee.j) (by rw [←h4.length,←h3.length,h6]) g4
 have hm:s9.heap.DictOfH (oj X.prog X.w) p xs:=⟨o,es,ep,g1,g2',g3,q1,q3,wR q2 h5.nd⟩
 have lx:xs.length=(dD ys).1.length:=by rw [←q2,List.length_map]
 have rows:cF X.K J9 xs (dD ys).1 us (dD ys).2 ws:=by
  have:=cF.of (h4.mono ee.j) q4 q5
  rw [q2] at this
  exact this
 refine wpAny_dictSet_heap (knd:=oj X.prog X.w) (k:=⟨.tup kxs,k1,k2⟩) (show X.A.units + 16 < cLine by omega) (o_ F k1 rk9) hm (fun h' hm' sb=>?_) (by rw [lx];omega)
 obtain ⟨o',es',ep',g1',g2'',g3',g4',g5',g6'⟩:=hm'
 obtain ⟨l1,l2⟩:=zK (K:=X.K) (J:=J9) ⟨.tup kxs,k1,k2⟩ q2 (h4.mono ee.j) q4
 have key:∃us' ws',cF X.K J9 (storedH xs ⟨.tup kxs,k1,k2⟩ a u9) (dput (dD ys) (.tup kxs) d).1 us' (dput (dD ys) (.tup kxs) d).2 ws'∧aG X.K J9 (dput (dD ys) (.tup kxs) d).1 us'∧areKeys (dput (dD ys) (.tup kxs) d).1=true∧deps (dput (dD ys) (.tup kxs) d).1≤8∧(∀k∈(dput (dD ys) (.tup kxs) d).1,∃xs,k=.tup xs)∧(dput (dD ys) (.tup kxs) d).1.length≤(dD ys).1.length + 1:=by
  unfold dput
  cases lk:kR (dD ys).1 (dD ys).2 (.tup kxs) with
  | some z=>
   obtain ⟨pp,v,ea,_,_⟩:=l1 z lk
   rw [storedH_old ea]
   obtain ⟨ws',t⟩:=cF.put (k:=⟨.tup kxs,k1,k2⟩) r9 rd rows
   exact ⟨us,ws',t,h3.mono ee.j,h5.key,h5.dp,h5.tp,Nat.le_succ _⟩
  | none=>
   rw [storedH_new (l2 lk)]
   refine ⟨us++[.ref a],ws++[v9],cF.snoc (k:=⟨.tup kxs,k1,k2⟩) r9 rd rows,(h3.mono ee.j).snoc rk9,?_,vY h5.dp (by show max (dep (.tup kxs)) 0≤8;omega),fun k hk=>?_,by simp⟩
   ·show areKeys ((dD ys).1++[.tup kxs])=true
    rw [pG,h5.key]
    show (true && (isKey (.tup kxs) && true))=true
    rw [k1];rfl
   ·rcases List.mem_append.mp hk with h | h
    ·exact h5.tp k h
    ·exact ⟨kxs,List.mem_singleton.mp h⟩
 obtain ⟨us',ws',t,tk',kk,kd,kt,kl⟩:=key
 have nd':(dput (dD ys) (.tup kxs) d).1.Nodup:=by
  rw [←t.keys]
  have:((storedH xs ⟨.tup kxs,k1,k2⟩ a u9).map (·.1)).Nodup:=g6'
  have h:=List.Pairwise.map (S:=(·≠·)) (fun k:KD=>k.1) (fun a b (h:a≠b) e=>h (Subtype.ext e)) this
  rw [List.map_map] at h
  exact h
 have W:Inv X pins σ (upd H9 p (pK p ((cB (dput (dD ys) (.tup kxs) d).1).zip (us'.zip ws')))) {s9 with heap:=h',toks:=s9.toks + (oj X.prog X.w).draws ⟨.tup kxs,k1,k2⟩}:=by
  refine I9.write (e:=p) (by rw [p9];trivial) (.inl rfl) (fun b u hb q=>by rw [sb.2 b hb];exact q) ⟨_,g1'⟩ ?_
  refine ⟨⟨o',es',ep',g1',g2'',g3',by rw [g4'];exact t.ents⟩,⟨_,g1'⟩,?_⟩
  rintro h1 h2 ⟨o,es,ep,a1,a2⟩ e
  exact ⟨o,es,ep,e o a1,a2⟩
 refine ⟨σ,_,J9,([.tup [.tup kxs,d]],env),W,(x2.trans ee).other hp2 J9p,ee.j,(sr.ext ee).other J9p hp0 no,no,⟨us',ws',?_,J9p,?_,?_,?_,?_,h7,?_⟩,Nat.le_refl _,w9⟩
 ·rw [iy];exact b9
 ·rw [iy,←hK];exact tk'
 ·rw [iy,←hK];exact t.reps
 ·rw [iy];exact ⟨kk,nd',kd,kt⟩
 ·rw [iy];exact t.len
 ·rw [iy,List.length_append];exact Nat.le_trans kl (Nat.add_le_add_right h8 1)
end
def oV (n:Nat) (cap:List Nat) (gi0:G (List D)) (gt0:GT) (gts0:G Bool) (gi1:G (List D)) (gt1:GT) (gts1:G Bool) (gk gv:G R):G R:=kq 10000 n cap gi0 gt0 gts0 (iW gi1 gt1 gts1 (zH gk gv)) (fun ys=>.ok (.d (.dct (dD ys).1 (dD ys).2)))
theorem G_ (kx vx t0 i0 t1 i1:Expr) (f0 f1:List Expr) (scope:Scope) (pos:Pos) (it acc:Value) (env:Env):
  compTurn (.DictComp kx vx [⟨t0,i0,f0,0⟩,⟨t1,i1,f1,0⟩] scope pos) 0 it acc env=(do
   standAt i0.pos
   match ←pyNext it with
   | none=>pure (.done .next)
   | some v=>
    letOwnedTupleGo t0 it v
    assign t0 env v
    let mut ok:=true
    for c in f0 do
     if ok then ok ←isTrue c env (eval c env)
    if ok then
     let x ←eval i1 env
     standAt i1.pos
     let x ←foldedSetIterable i1 env x
     let _ ←runOwn (.compStart (.DictComp kx vx [⟨t0,i0,f0,0⟩,⟨t1,i1,f1,0⟩] scope pos) 1 (←holding [x] (pyIter x)) acc env) env
    again (.compLoop (.DictComp kx vx [⟨t0,i0,f0,0⟩,⟨t1,i1,f1,0⟩] scope pos) 0 it acc env)):=by rfl
theorem Ke (kx vx t0 i0 t1 i1:Expr) (f0 f1:List Expr) (scope:Scope) (pos:Pos) (it acc:Value) (env:Env):
  compTurn (.DictComp kx vx [⟨t0,i0,f0,0⟩,⟨t1,i1,f1,0⟩] scope pos) 0 it acc env=ny t0 i0 f0 it env (p5 (.DictComp kx vx [⟨t0,i0,f0,0⟩,⟨t1,i1,f1,0⟩] scope pos) i1 acc env) (again (.compLoop (.DictComp kx vx [⟨t0,i0,f0,0⟩,⟨t1,i1,f1,0⟩] scope pos) 0 it acc env)):=by
 rw [G_]
 refine bind_congr fun _=>bind_congr fun r=>?_
 cases r with
 | none=>rfl
 | some v=>
  refine bind_congr fun _=>bind_congr fun _=>bind_congr fun ok=>?_
  cases ok with
  | false=>rfl
  | true=>simp only [p5,bind_assoc,pure_bind,if_true]
theorem Kf (kx vx t0 i0 t1 i1:Expr) (f0 f1:List Expr) (scope:Scope) (pos:Pos) (it:Value) (p:Addr) (env:Env):
  compTurn (.DictComp kx vx [⟨t0,i0,f0,0⟩,⟨t1,i1,f1,0⟩] scope pos) 1 it (.ref p) env=ny t1 i1 f1 it env (JE kx vx p env) (again (.compLoop (.DictComp kx vx [⟨t0,i0,f0,0⟩,⟨t1,i1,f1,0⟩] scope pos) 1 it (.ref p) env)):=by rfl
section
variable {X:Cx}{c:C}
theorem HC (hu:X.A.units + 64 < cLine) (hK:X.K=c.K) (own:List Str) (cap:List Nat){kx vx t0 i0 t1 i1:Expr}{f0 f1:List Expr}{scope:Scope}{pos:Pos}{gi0 gi1:G (List D)}{gt0 gt1:GT}{gts0 gts1:G Bool}{gk gv:G R}(hi:nD X c t0 i0 gi0)
  (hbody:∀(cl:List (Str×Addr)) (C:Addr) (s:Shared) (H:Hp) (fp:List Addr),bG X.env.cells scope.names []=some cl→gE (aZ X own cap scope cl C s H fp) c t0 gt0∧fQ (aZ X own cap scope cl C s H fp) c f0 gts0∧lE (aZ X own cap scope cl C s H fp) c t1 i1 gi1∧gE (aZ X own cap scope cl C s H fp) c t1 gt1∧fQ (aZ X own cap scope cl C s H fp) c f1 gts1∧PD (aZ X own cap scope cl C s H fp) c kx gk∧PD (aZ X own cap scope cl C s H fp) c vx gv)
  (hk:scope.kind=.function:=by rfl) (hno:gD X cap scope=true:=by rfl) (hnames:(scope.names.all fun x=>!(x.2 == .local) || (scope.names.lookup x.1 == some .local))=true:=by rfl)
  (hcl:(bG X.env.cells scope.names []).isSome=true:=by rfl) (hcap:eE X cap=true:=by rfl) (hloc:eO X cap scope=true:=by rfl) (hnd:gI cap=true:=by rfl) (hcalm:X.calm=true:=by rfl)
  (hs:∀x,foldedSetIterable i0 X.env x=pure x:=by intro _;rfl) (hs1:∀(en:Env) x,foldedSetIterable i1 en x=pure x:=by intro _ _;rfl)
  {pins:List (Addr×Obj)}{s:Shared}{σ:L2.St}{H:Hp}{Q:VK}{use:Option (Value→Sem Unit)}{Q0:Value→Shared→Prop}{pos':Pos}(I:Inv X pins σ H s) (h:tD c (oV own.length cap gi0 gt0 gts0 gi1 gt1 gts1 gk gv) σ H Q)
  (hfin:∀(acc C:Addr) (m:Str→Option Value) (s':Shared) (H':Hp) (fl:Flow),s'.heap.Ns C m→((C∈X.ex∨X.s₀.heap.objs.size≤C)∧C≠X.env.locals∧(∀x c,X.env.cells.lookup x=some c→c≠C)∧∀p∈X.pn++pins,p.1≠C)→H' C=none→(∀h'',Heap.SameBut C s'.heap h''→Inv X pins σ H' {s' with heap:=h''})→Q (.ref acc) H'→compPost (model X.prog X.w) X.A X.xe use Q0 (.ref acc) C (.ok fl) s'):
  wpAny (model X.prog X.w) X.A (comprehension (.DictComp kx vx [⟨t0,i0,f0,0⟩,⟨t1,i1,f1,0⟩] scope pos) scope X.env pos' newDict false (eval i0 X.env) use) Q0 X.xe s:=by
 refine pX (e:=.DictComp kx vx [⟨t0,i0,f0,0⟩,⟨t1,i1,f1,0⟩] scope pos) (ob:={cls:=.type "dict",data:=.dict #[]}) (o0:=fun a=>pK a []) (Acc:=CV c) (N:=1000 * 1) (lim:=10000) (m:=fun p env=>p5 (.DictComp kx vx [⟨t0,i0,f0,0⟩,⟨t1,i1,f1,0⟩] scope pos) i1 (.ref p) env) own cap rfl hi
  (fun s Q E q=>wpAny_newObj_type q) (fun h H=>⟨⟨_,#[],0,Heap.get?_push_size _ rfl,⟨rfl,rfl,rfl⟩,rfl,.nil⟩,⟨_,Heap.get?_push_size _ rfl⟩,fun h1 h2 ⟨o,es,ep,a1,a2⟩ e=>⟨o,es,ep,e o a1,a2⟩⟩) (fun p=>vE) (fun p J H hsm h1 h2=>⟨[],[],h1,h2,.nil,.nil,⟨rfl,List.nodup_nil,Nat.zero_le _,fun _ h=>(nomatch h)⟩,rfl,beq_eq_false_iff_ne.mpr (Ne.symm (Nat.ne_of_lt hsm)),Nat.le_refl _⟩) (by decide) (fun it p env=>EN (Ke ..)) (fun it acc env R s h0 h=>codeAny_compStart_dict h0 h) (fun ys z q=>by cases q)
  (fun {p J H J' H' ys r} hp e ⟨us,ws,h1,h2,h3,h4,h5,h6,h7,h8⟩ q=>by
   cases q
   have s1:aX J' (upd J' p (pK p ((cB (dD ys).1).zip (us.zip ws)))):=gK h2 _
   refine ⟨upd J' p (pK p ((cB (dD ys).1).zip (us.zip ws))),⟨e.h,e.j.trans s1,fun a o q=>?_,fun a ha ja=>?_⟩,.dct b9 (h3.mono s1) (h4.mono s1) h5 ⟨h7,h6⟩⟩
   ·by_cases z:a=p
    ·subst z;rw [b9] at q;cases q;exact h1
    ·rw [bC z] at q;exact e.sub _ _ q
   ·have:a≠p:=fun z=>ha (z▸hp)
    rw [bC this];exact e.frz a ha ja) (fun cl C s H fp hcc=>?_) hk hno hnames hcl hcap hloc hnd hcalm hs I h hfin
 obtain ⟨b1,b2,b3,b4,b5,b6,b7⟩:=hbody cl C s H fp hcc
 refine ⟨b1,b2,fun p J2 H2 hp2 hp0=>?_⟩
 exact yJ vE hcalm (fun _ _ f=>f) (fun x=>hs1 _ x) (fun it R s h0 h=>J6 h0 h) (fun it=>EN (Kf ..)) b3 b4 b5 (E6 hu hK (fun _ _ f=>f) hp2 hp0 b6 b7)
theorem B6 (hu:X.A.units + 64 < cLine) (own:List Str) (cap:List Nat){kx vx t0 i0 t1 i1:Expr}{f0 f1:List Expr}{scope:Scope}{pos:Pos}{gi0 gi1:G (List D)}{gt0 gt1:GT}{gts0 gts1:G Bool}{gk gv:G R}(hi:nD X c t0 i0 gi0)
  (hbody:∀(cl:List (Str×Addr)) (C:Addr) (s:Shared) (H:Hp) (fp:List Addr),bG X.env.cells scope.names []=some cl→gE (aZ X own cap scope cl C s H fp) c t0 gt0∧fQ (aZ X own cap scope cl C s H fp) c f0 gts0∧lE (aZ X own cap scope cl C s H fp) c t1 i1 gi1∧gE (aZ X own cap scope cl C s H fp) c t1 gt1∧fQ (aZ X own cap scope cl C s H fp) c f1 gts1∧PD (aZ X own cap scope cl C s H fp) c kx gk∧PD (aZ X own cap scope cl C s H fp) c vx gv)
  (hk:scope.kind=.function:=by rfl) (hno:gD X cap scope=true:=by rfl) (hnames:(scope.names.all fun x=>!(x.2 == .local) || (scope.names.lookup x.1 == some .local))=true:=by rfl)
  (hcl:(bG X.env.cells scope.names []).isSome=true:=by rfl) (hcap:eE X cap=true:=by rfl) (hloc:eO X cap scope=true:=by rfl) (hnd:gI cap=true:=by rfl) (hcalm:X.calm=true:=by rfl)
  (hs:∀x,foldedSetIterable i0 X.env x=pure x:=by intro _;rfl) (hs1:∀(en:Env) x,foldedSetIterable i1 en x=pure x:=by intro _ _;rfl) (hK:X.K=c.K:=by rfl):PD X c (.DictComp kx vx [⟨t0,i0,f0,0⟩,⟨t1,i1,f1,0⟩] scope pos) (oV own.length cap gi0 gt0 gts0 gi1 gt1 gts1 gk gv):=by
 intro pins s σ H Q I h
 rw [arm_eval_DictComp]
 exact HC hu hK own cap hi hbody hk hno hnames hcl hcap hloc hnd hcalm hs hs1 I h fun acc C m s' H' fl hm hz hf hb q=>⟨m,hm,fun h'' sb=>⟨.ref acc,H',hb h'' sb,rfl,q⟩⟩
theorem AD (hu:X.A.units + 64 < cLine) (own:List Str) (cap:List Nat){kx vx t0 i0 t1 i1:Expr}{f0 f1:List Expr}{scope:Scope}{pos:Pos}{gi0 gi1:G (List D)}{gt0 gt1:GT}{gts0 gts1:G Bool}{gk gv:G R}(hi:vC X c t0 i0 gi0)
  (hbody:∀(cl:List (Str×Addr)) (C:Addr) (s:Shared) (H:Hp) (fp:List Addr),bG X.env.cells scope.names []=some cl→lF (aZ X own cap scope cl C s H fp) c t0 gt0∧kY (aZ X own cap scope cl C s H fp) c f0 gts0∧vD (aZ X own cap scope cl C s H fp) c t1 i1 gi1∧lF (aZ X own cap scope cl C s H fp) c t1 gt1∧kY (aZ X own cap scope cl C s H fp) c f1 gts1∧QD (aZ X own cap scope cl C s H fp) c kx gk∧QD (aZ X own cap scope cl C s H fp) c vx gv)
  (hk:scope.kind=.function:=by rfl) (hno:gD X cap scope=true:=by rfl) (hnames:(scope.names.all fun x=>!(x.2 == .local) || (scope.names.lookup x.1 == some .local))=true:=by rfl)
  (hcl:(bG X.env.cells scope.names []).isSome=true:=by rfl) (hcap:eE X cap=true:=by rfl) (hloc:eO X cap scope=true:=by rfl) (hnd:gI cap=true:=by rfl) (hcalm:X.calm=true:=by rfl)
  (hs:∀x,foldedSetIterable i0 X.env x=pure x:=by intro _;rfl) (hs1:∀(en:Env) x,foldedSetIterable i1 en x=pure x:=by intro _ _;rfl) (hK:X.K=c.K:=by rfl):QD X c (.DictComp kx vx [⟨t0,i0,f0,0⟩,⟨t1,i1,f1,0⟩] scope pos) (oV own.length cap gi0 gt0 gts0 gi1 gt1 gts1 gk gv):=
 ⟨B6 hu own cap hi.h (fun cl C s H fp hc=>let ⟨a,b,d,e,f,g,h⟩:=hbody cl C s H fp hc;⟨a.h,b.h,d.h,e.h,f.h,g.h,h.h⟩) hk hno hnames hcl hcap hloc hnd hcalm hs hs1 hK⟩
end
def lexLe:List Int→List Int→Bool
 | [],_=>true
 | _::_,[]=>false
 | x::xs,y::ys=>if x=y then lexLe xs ys else decide (x≤y)
theorem jR (x y:Int) (xs ys:List Int):lexLe (x::xs) (y::ys)=if x=y then lexLe xs ys else decide (x≤y):=rfl
theorem nK:lexLe [] []=true:=rfl
theorem sC (y:Int) (ys:List Int):lexLe [] (y::ys)=true:=rfl
theorem sA (x:Int) (xs:List Int):lexLe (x::xs) []=false:=rfl
theorem El (A:Around) (s:Shared) (a:Int) (t:Tok) (c:Int) (u:Tok) (prog:Program) (w:World) (E:Value→Shared→Prop) (Q:Value→Shared→Prop) (h:Q (.bool (decide (a≤c))) s):
  wpAny (model prog w) A (richCompare .LtE (.int a t) (.int c u)) Q E s:=
 (PyProof.Rows.le_int h:wpAny (model prog w) A (compareOp .LtE (.int a t) (.int c u)) Q E s)
section
open PySem.SeqAt
open PySem.AutoSeq1 (wpAny_loadPart')
open PySem.MeetsSeq PySem.MeetsSeq2 PySem.MeetsSeq3
theorem uK (l b:Addr) (items items2:Array Value) (n n2:Nat) (dd dd2:Option Addr) (sl sl2:Array (Option Value)) (ns ms:List Int) (hi:IntsAre items.toList ns) (hj:IntsAre items2.toList ms):
  Meets (Builtin.«tuple.__le__» ⟨[.ref l,.ref b],[]⟩)
   (fun _ R s=>s.heap.get? l=some {cls:=.type "tuple",dict:=dd,data:=.seq items n,slots:=sl}∧s.heap.get? b=some {cls:=.type "tuple",dict:=dd2,data:=.seq items2 n2,slots:=sl2}∧
    R (.ok (.ret (.bool (lexLe ns ms)))) s):=
 .of_wp fun prog w A R s h=>by
  obtain ⟨hp,g,d,tk,os⟩:=s;obtain ⟨hl,hb,h⟩:=h
  have f2:=AutoSeq1.sub_tuple_tuple
  have z1:items.size=ns.length:=by rw [←hi.length];simp
  have z2:items2.size=ms.length:=by rw [←hj.length];simp
  wp_walk using wpAny_loadPart' hl,wpAny_loadPart' hb,wpAny_forIn_list _ (fun rest b s'=>b.1=none∧s'=⟨hp,g,d,tk,os⟩∧∃(vs ws:List Value) (ns' ms':List Int),rest=vs.zip ws∧
   IntsAre vs ns'∧IntsAre ws ms'∧ns'.length + items2.size=ms'.length + items.size∧R (.ok (.ret (.bool (lexLe ns' ms')))) ⟨hp,g,d,tk,os⟩) _
  case turn=>
   rintro ⟨y,x⟩ rest b s' ⟨hb',rfl,vs,ws,ns',ms',hz,hvi,hwi,hlen,hR⟩
   cases hvi with
   | nil=>rw [List.zip_nil_left] at hz;cases hz
   | cons a t hvi'=>
    cases hwi with
    | nil=>rw [List.zip_nil_right] at hz;cases hz
    | cons c u hwi'=>
     rw [List.zip_cons_cons] at hz
     injection hz with hyx hrest
     injection hyx with hy hx
     subst hy hx
     rw [jR] at hR
     simp only [List.length_cons] at hlen
     obtain ⟨e,he,hiff⟩:=HT.C7 A.in1 ⟨hp,g,d,tk,os⟩ a t c u
     refine wpAny_bind (he prog w _ _ ?_)
     cases e with
     | true=>
      rw [if_pos (hiff.mp rfl)] at hR
      wp_walk
      exact ⟨rfl,rfl,_,_,_,_,hrest,hvi',hwi',by omega,hR⟩
     | false=>
      rw [if_neg (fun q=>absurd (hiff.mpr q) Bool.false_ne_true)] at hR
      have hri:=El A.in1 ⟨hp,g,d,tk,os⟩ a t c u prog w
      wp_walk using hri
      exact ⟨_,rfl,by simpa using hR⟩
  case fin=>
   rintro ⟨b1,b2⟩ s' ⟨hb',rfl,vs,ws,ns',ms',hz,hvi,hwi,hlen,hR⟩
   simp only at hb'
   subst hb'
   have hv:lexLe ns' ms'=decide (items.size≤items2.size):=by
    cases hvi with
    | nil=>
     cases hwi with
     | nil=>
      simp only [List.length_nil] at hlen
      rw [nK]
      exact (decide_eq_true (by omega)).symm
     | cons c u hw=>
      simp only [List.length_nil,List.length_cons] at hlen
      rw [sC]
      exact (decide_eq_true (by omega)).symm
    | cons a t hv=>
     cases hwi with
     | nil=>
      simp only [List.length_nil,List.length_cons] at hlen
      rw [sA]
      exact (decide_eq_false (by omega)).symm
     | cons c u hw=>
      rw [List.zip_cons_cons] at hz
      cases hz
   rw [hv] at hR
   wp_walk
   exact ⟨_,rfl,by simpa [Builtin.Tuple.tupleCompareSizes] using hR⟩
  case h=>
   exact ⟨rfl,rfl,items.toList,items2.toList,ns,ms,rfl,hi,hj,by omega,h⟩
end
section
variable {prog:Program}{w:World}{A:Around}{E:Value→Shared→Prop}{s:Shared}
theorem Ai {l b:Addr}{items items2:Array Value}{ns ms:List Int}{Q:Value→Shared→Prop}(hl:IsTup s.heap l items) (hb:IsTup s.heap b items2) (hi:IntsAre items.toList ns) (hj:IntsAre items2.toList ms)
  (hu:A.units < cLine) (h:Q (.bool (lexLe ns ms)) s):wpAny (model prog w) A (compareOp .LtE (.ref l) (.ref b)) Q E s:=by
 obtain ⟨⟨cls,dd,data,sl⟩,ho,hc,n,hd⟩:=id hl
 obtain ⟨⟨cls2,dd2,data2,sl2⟩,ho2,hc2,n2,hd2⟩:=id hb
 simp only at hc hd hc2 hd2
 subst hc hd hc2 hd2
 exact richCompare_meets_room (op:=.LtE) ⟨_,ho,rfl⟩ ⟨_,ho2,rfl⟩ PySem.F.slot_tuple_le PySem.F.entry_tuple_le (PySem.F.args_tuple_le_2 _ _) (uK l b items items2 n n2 dd dd2 sl sl2 ns ms hi hj)
  ⟨ho,ho2,show Value.bool (lexLe ns ms)≠Value.notImplemented∧Q (.bool (lexLe ns ms)) s from ⟨(fun x=>nomatch x),h⟩⟩ hu
end
section
variable {X:Cx}{c:C}{a b e:Expr}{ga gb:G R}{pos pos2:Pos}
theorem Iz (hu:X.A.units < cLine):cR X (compareOp .LtE) (fun x y H Q=>∃a b ns ms,x=.ref a∧y=.ref b∧cT X.K H a (ns.map V.int)∧cT X.K H b (ms.map V.int)∧Q (.bl (lexLe ns ms)) H):=by
 intro pins s σ H x y v u Q I rx ry h
 obtain ⟨a,b,ns,ms,rfl,rfl,ha,hb,q⟩:=h
 cases rx
 cases ry
 obtain ⟨its,r1,p1,_⟩:=I.tuple ha
 obtain ⟨its2,r2,p2,_⟩:=I.tuple hb
 exact Ai p1 p2 (L2.intsAre_of r1:IntsAre its.toArray.toList ns) (L2.intsAre_of r2:IntsAre its2.toArray.toList ms) hu ⟨.bl (lexLe ns ms),H,I,rfl,q⟩
def sd:R→R→M R
 | .d (.tup xs),.d (.tup ys)=>match intsOf xs,intsOf ys with
  | some ns,some ms=>.ok (.d (.bl (lexLe ns ms)))
  | _,_=>.bad
 | _,_=>.bad
theorem IL (hu:X.A.units + 64 < cLine) (ha:PD X c a ga) (hb:PD X c b gb) (hK:X.K=c.K:=by rfl):PB X c (.Compare a [.LtE] [b] pos) (bx (g2 sd ga gb)):=kB (Iz (by omega)) (by
 intro He He' J H x y u v Q hp rx ry w
 unfold sd at w
 split at w
 ·cases rx with
  | tup h1 s1=>
   cases ry with
   | tup h2 s2=>
    split at w
    ·rename_i ns ms z1 z2
     have e1:=mY z1 s1
     have e2:=mY z2 s2
     subst e1 e2
     exact ⟨_,_,ns,ms,rfl,rfl,by rw [hK];exact eU hp.sub h1,by rw [hK];exact eU hp.sub h2,w _ J H (Ext.refl hp.sub) (.bl _)⟩
    ·exact w.elim
 ·exact w.elim) ha hb
theorem GN (hu:X.A.units + 64 < cLine) (ha:QD X c a ga) (hb:QD X c b gb) (hK:X.K=c.K:=by rfl):QB X c (.Compare a [.LtE] [b] pos) (bx (g2 sd ga gb)):=⟨IL hu ha.h hb.h hK⟩
theorem zS:bN X (.builtin "len") (fun xs H Q=>∃p ms,xs=[.ref p]∧H p=some (i_ X p ms)∧ms.length < 64∧∀n:Nat,(∃ns:List Int,ns.Nodup∧(∀d,d∈ns↔d∈ms)∧n=ns.length)→Q (.int (n:Nat)) H):=by
 intro pins s σ H xs us Q I r h
 obtain ⟨p,ms,rfl,hp,l64,q⟩:=h
 obtain ⟨u,rfl,rx⟩:=vals1 r
 cases rx
 obtain ⟨⟨ns,es,ep,t,S,hm⟩,_⟩:=(show cg X.prog X.w H s.heap p (i_ X p ms) from I.hok p _ hp)
 obtain ⟨L,T⟩:=S.tab
 have len:ns.length≤ms.length:=List.Nodup.length_le_of_subset S.nd fun d hd=>(hm d).mp hd
 have les:es.size=ns.length:=by rw [←Array.length_toList,S.en.length]
 refine call_len_set S.at_ ⟨rfl,rfl,rfl⟩ rfl (cD T) (by omega) ⟨.int es.size,H,I.tok _,⟨_,rfl⟩,?_⟩
 rw [les]
 exact q _ ⟨ns,S.nd,hm,rfl⟩
def qx:List Int→List Int
 | []=>[]
 | x::xs=>if x∈qx xs then qx xs else x::qx xs
theorem vX:∀ns:List Int,(qx ns).Nodup∧∀d,d∈qx ns↔d∈ns
 | []=>⟨List.nodup_nil,fun _=>.rfl⟩
 | x::xs=>by
  obtain ⟨h1,h2⟩:=vX xs
  unfold qx
  by_cases c:x∈qx xs
  ·rw [if_pos c]
   refine ⟨h1,fun d=>?_⟩
   rw [h2,List.mem_cons]
   exact ⟨.inr,fun z=>z.elim (fun e=>e▸(h2 x).mp c) id⟩
  ·rw [if_neg c]
   refine ⟨List.nodup_cons.mpr ⟨c,h1⟩,fun d=>?_⟩
   rw [List.mem_cons,List.mem_cons,h2]
theorem tK {as bs:List Int}(ha:as.Nodup) (hb:bs.Nodup) (h:∀d,d∈as↔d∈bs):as.length=bs.length:=
 Nat.le_antisymm (List.Nodup.length_le_of_subset ha fun d hd=>(h d).mp hd) (List.Nodup.length_le_of_subset hb fun d hd=>(h d).mpr hd)
def mS:List R→M R
 | [.d (.tup ys)]=>if lW ys=true then .ok (.d (.int (qx (ys.map mE)).length)) else .bad
 | _=>.bad
def JQ (X:Cx):List V→Hp→VK→Prop:=fun xs H Q=>∃p vs ms J0,xs=[.ref p]∧cT X.K H p vs∧aG X.K J0 (ms.map .int) vs∧ms.length < 64∧∀l,H l=none→Q (.ref l) (upd H l (i_ X l ms))
def JM (X:Cx):List V→Hp→VK→Prop:=fun xs H Q=>∃p ms,xs=[.ref p]∧H p=some (i_ X p ms)∧ms.length < 64∧∀n:Nat,(∃ns:List Int,ns.Nodup∧(∀d,d∈ns↔d∈ms)∧n=ns.length)→Q (.int (n:Nat)) H
theorem Bf:bootBuiltins "set"=some (.type "set"):=by decide +kernel
theorem Gq {p p2:Pos}{gs:G (List R)}(ha:iF X c [e] gs) (hm:X.mg "len"=none) (hm2:X.mg "set"=none) (hK:X.K=c.K:=by rfl) (hc:X.calm=true:=by rfl) (hg:Gl X "len":=by rfl) (hg2:Gl X "set":=by rfl)
  (he:starEach [.Call (.Name "set" p2) [e] [] pos2] X.env=(false,eval (.Call (.Name "set" p2) [e] [] pos2) X.env)::starEach [] X.env:=by rfl) (hpl:(backTo pos (starEach [] X.env)).any (·.1)=false:=by rfl)
  (he2:starEach [e] X.env=(false,eval e X.env)::starEach [] X.env:=by rfl) (hpl2:(backTo pos2 (starEach [] X.env)).any (·.1)=false:=by rfl):
  PD X c (.Call (.Name "len" p) [.Call (.Name "set" p2) [e] [] pos2] [] pos) (gN mS gs):=by
 have h1:=jA (p:=p2) (pos:=pos2) (show bN X (.type "set") (JQ X) from sW hc) hg2 hm2 Bf ha (by decide) (by decide) he2 hpl2
 have h2:=nc (p:=p) (pos:=pos) (show bN X (.builtin "len") (JM X) from zS) hg hm PySem.boot_len (fD h1 ia he) (by decide) (by decide) he hpl
 refine Ax (ta:=xP) (f:=mS) (r:=fun vs H1 Q=>JQ X vs H1 fun v H2=>JM X [v] H2 Q) h2 rfl ?_
 intro He J H xs vs Q hp rs w
 unfold mS at w
 split at w
 ·rename_i ys
  obtain ⟨v,rfl,r⟩:=rs.one
  split at w
  ·rename_i ok
   unfold lW at ok
   rw [Bool.and_eq_true] at ok
   have o1:=of_decide_eq_true ok.1
   have ey:=CF ok.2
   cases r with
   | tup h hs=>
    refine ⟨_,_,ys.map mE,J,rfl,by rw [hK];exact eU hp.sub h,by rw [hK,←ey];exact hs,by rw [List.length_map];exact o1,fun l hl=>⟨l,ys.map mE,rfl,b9,by rw [List.length_map];exact o1,fun n ⟨ns,n1,n2,n3⟩=>?_⟩⟩
    obtain ⟨d1,d2⟩:=vX (ys.map mE)
    rw [n3,tK n1 d1 fun d=>by rw [n2,d2]]
    exact w _ _ _ (Ext.new hp.sub hl _) (.int _)
  ·exact w.elim
 ·exact w.elim
theorem Ed {p p2:Pos}{gs:G (List R)}(ha:jK X c [e] gs) (hm:X.mg "len"=none) (hm2:X.mg "set"=none) (hK:X.K=c.K:=by rfl) (hc:X.calm=true:=by rfl) (hg:Gl X "len":=by rfl) (hg2:Gl X "set":=by rfl)
  (he:starEach [.Call (.Name "set" p2) [e] [] pos2] X.env=(false,eval (.Call (.Name "set" p2) [e] [] pos2) X.env)::starEach [] X.env:=by rfl) (hpl:(backTo pos (starEach [] X.env)).any (·.1)=false:=by rfl)
  (he2:starEach [e] X.env=(false,eval e X.env)::starEach [] X.env:=by rfl) (hpl2:(backTo pos2 (starEach [] X.env)).any (·.1)=false:=by rfl):
  QD X c (.Call (.Name "len" p) [.Call (.Name "set" p2) [e] [] pos2] [] pos) (gN mS gs):=⟨Gq ha.h hm hm2 hK hc hg hg2 he hpl he2 hpl2⟩
end
theorem rX (gt:GT) (gts:G Bool) (ge:G R):∀(ds:List D) (env:Ev) (k:List D→M R),(bZ gt gts (gF ge) ds env >>= fun r=>k r.1)=(cP gt gts ge ds env >>= k)
 | [],env,k=>rfl
 | d::ds,env,k=>by
  unfold bZ cP
  cases gt d env with
  | bad=>rfl
  | exc z=>rfl
  | ok e=>
   show ((gts e >>= fun k=>if k=true then gF ge e >>= fun r=>bZ gt gts (gF ge) ds r.2 >>= fun z=>.ok (r.1++z.1,z.2) else bZ gt gts (gF ge) ds e) >>= _)=((gts e >>= fun k=>if k=true then ge e >>= fun r=>toD r >>= fun y=>cP gt gts ge ds e >>= fun ys=>.ok (y::ys) else cP gt gts ge ds e) >>= _)
   cases gts e with
   | bad=>rfl
   | exc z=>rfl
   | ok b=>
    cases b with
    | false=>exact rX gt gts ge ds e k
    | true=>
     show ((gF ge e >>= fun r=>bZ gt gts (gF ge) ds r.2 >>= fun z=>.ok (r.1++z.1,z.2)) >>= _)=((ge e >>= fun r=>toD r >>= fun y=>cP gt gts ge ds e >>= fun ys=>.ok (y::ys)) >>= _)
     unfold gF
     cases ge e with
     | bad=>rfl
     | exc z=>rfl
     | ok r=>
      show (((toD r >>= fun y=>M.ok ([y],e)) >>= fun r=>bZ gt gts (gF ge) ds r.2 >>= fun z=>.ok (r.1++z.1,z.2)) >>= _)=((toD r >>= fun y=>cP gt gts ge ds e >>= fun ys=>.ok (y::ys)) >>= _)
      cases toD r with
      | bad=>rfl
      | exc z=>rfl
      | ok y=>
       have ih:=rX gt gts ge ds e fun ys=>k (y::ys)
       show ((bZ gt gts (gF ge) ds e >>= fun z=>.ok ([y]++z.1,z.2)) >>= fun r=>k r.1)=((cP gt gts ge ds e >>= fun ys=>M.ok (y::ys)) >>= k)
       have e1:((bZ gt gts (gF ge) ds e >>= fun z=>M.ok ([y]++z.1,z.2)) >>= fun r=>k r.1)=(bZ gt gts (gF ge) ds e >>= fun r=>k (y::r.1)):=by cases bZ gt gts (gF ge) ds e <;> rfl
       have e2:((cP gt gts ge ds e >>= fun ys=>M.ok (y::ys)) >>= k)=(cP gt gts ge ds e >>= fun ys=>k (y::ys)):=by cases cP gt gts ge ds e <;> rfl
       rw [e1,e2,ih]
theorem Fx (n:Nat) (cap:List Nat) (gi:G (List D)) (gt:GT) (gts:G Bool) (ge:G R):bH n cap gi gt gts ge=kq sizeLine n cap gi gt gts (gF ge) (fun ys=>.ok (.l .fresh ys)):=by
 funext env
 unfold bH kq
 cases gi env with
 | bad=>rfl
 | exc z=>rfl
 | ok ds=>
  show (if ds.length≤sizeLine then _ else _)=(if ds.length≤sizeLine then _ else _)
  by_cases c:ds.length≤sizeLine
  ·rw [if_pos c,if_pos c]
   exact (rX gt gts ge ds _ fun ys=>.ok (.l .fresh ys)).symm
  ·rw [if_neg c,if_neg c]
section
variable {X:Cx}{c:C}
theorem Bp (own:List Str) (cap:List Nat){elt target iter:Expr}{ifs:List Expr}{scope:Scope}{pos:Pos}{gi:G (List D)}{gt:GT}{gts:G Bool}{ge:G R}(hi:nD X c target iter gi)
  (hbody:∀(cl:List (Str×Addr)) (C:Addr) (s:Shared) (H:Hp) (fp:List Addr),bG X.env.cells scope.names []=some cl→gE (aZ X own cap scope cl C s H fp) c target gt∧fQ (aZ X own cap scope cl C s H fp) c ifs gts∧PD (aZ X own cap scope cl C s H fp) c elt ge)
  (hk:scope.kind=.function:=by rfl) (hno:gD X cap scope=true:=by rfl) (hnames:(scope.names.all fun x=>!(x.2 == .local) || (scope.names.lookup x.1 == some .local))=true:=by rfl)
  (hcl:(bG X.env.cells scope.names []).isSome=true:=by rfl) (hcap:eE X cap=true:=by rfl) (hloc:eO X cap scope=true:=by rfl) (hnd:gI cap=true:=by rfl) (hcalm:X.calm=true:=by rfl)
  (hs:∀x,foldedSetIterable iter X.env x=pure x:=by intro _;rfl)
  {pins:List (Addr×Obj)}{s:Shared}{σ:L2.St}{H:Hp}{Q:VK}{use:Option (Value→Sem Unit)}{Q0:Value→Shared→Prop}{pos':Pos}(I:Inv X pins σ H s) (h:tD c (bH own.length cap gi gt gts ge) σ H Q)
  (hfin:∀(acc C:Addr) (m:Str→Option Value) (s':Shared) (H':Hp) (fl:Flow),s'.heap.Ns C m→((C∈X.ex∨X.s₀.heap.objs.size≤C)∧C≠X.env.locals∧(∀x c,X.env.cells.lookup x=some c→c≠C)∧∀p∈X.pn++pins,p.1≠C)→H' C=none→(∀h'',Heap.SameBut C s'.heap h''→Inv X pins σ H' {s' with heap:=h''})→Q (.ref acc) H'→compPost (model X.prog X.w) X.A X.xe use Q0 (.ref acc) C (.ok fl) s'):
  wpAny (model X.prog X.w) X.A (comprehension (.ListComp elt [⟨target,iter,ifs,0⟩] scope pos) scope X.env pos' (newList []) false (eval iter X.env) use) Q0 X.xe s:=by
 rw [Fx] at h
 refine pX (e:=.ListComp elt [⟨target,iter,ifs,0⟩] scope pos) (ob:={cls:=.type "list",dict:=none,data:=.seq ([]:List Value).toArray}) (o0:=fun _=>.lst []) (Acc:=zG c) (N:=1) (lim:=sizeLine) (m:=fun p env=>do let _ ←call (.builtin "list.append") [.ref p,←eval elt env]) own cap rfl hi
  (fun s Q E q=>wpAny_newObj_type q) (fun h H=>⟨Nat.zero_le _,[],0,.nil,Heap.get?_push_size _ rfl⟩) (fun p=>pW) (fun p J H _ h1 h2=>⟨[],h1,h2,.nil⟩) (by rw [Nat.mul_one];exact Nat.le_refl _) (fun it p env=>Aj (compTurn_list ..)) (fun it acc env R s h0 h=>codeAny_compStart_list h0 h) (fun ys z q=>by cases q)
  (fun {p J H J' H' ys r} hp e ⟨us,h1,h2,h3⟩ q=>by cases q;exact ⟨J',e,⟨p,us,rfl,h1,h2,hp,h3⟩⟩) (fun cl C s H fp hcc=>?_) hk hno hnames hcl hcap hloc hnd hcalm hs I h hfin
 obtain ⟨b1,b2,b3⟩:=hbody cl C s H fp hcc
 exact ⟨b1,b2,fun p J2 H2 hp2 hp0=>yI (fun _ _ f=>f) hp2 hp0 b3⟩
theorem DQ (own:List Str) (cap:List Nat){elt target iter:Expr}{ifs:List Expr}{scope:Scope}{pos:Pos}{gi:G (List D)}{gt:GT}{gts:G Bool}{ge:G R}(hi:nD X c target iter gi)
  (hbody:∀(cl:List (Str×Addr)) (C:Addr) (s:Shared) (H:Hp) (fp:List Addr),bG X.env.cells scope.names []=some cl→gE (aZ X own cap scope cl C s H fp) c target gt∧fQ (aZ X own cap scope cl C s H fp) c ifs gts∧PD (aZ X own cap scope cl C s H fp) c elt ge)
  (hk:scope.kind=.function:=by rfl) (hno:gD X cap scope=true:=by rfl) (hnames:(scope.names.all fun x=>!(x.2 == .local) || (scope.names.lookup x.1 == some .local))=true:=by rfl)
  (hcl:(bG X.env.cells scope.names []).isSome=true:=by rfl) (hcap:eE X cap=true:=by rfl) (hloc:eO X cap scope=true:=by rfl) (hnd:gI cap=true:=by rfl) (hcalm:X.calm=true:=by rfl)
  (hs:∀x,foldedSetIterable iter X.env x=pure x:=by intro _;rfl):PD X c (.ListComp elt [⟨target,iter,ifs,0⟩] scope pos) (bH own.length cap gi gt gts ge):=by
 intro pins s σ H Q I h
 rw [eval_ListComp]
 exact Bp own cap hi hbody hk hno hnames hcl hcap hloc hnd hcalm hs I h fun acc C m s' H' fl hm hz hf hb q=>⟨m,hm,fun h'' sb=>⟨.ref acc,H',hb h'' sb,rfl,q⟩⟩
theorem DN (i:Nat) (own:List Str) (cap:List Nat){elt target iter:Expr}{ifs:List Expr}{scope:Scope}{pos pos' pos2:Pos}{x:Str}{gi:G (List D)}{gt:GT}{gts:G Bool}{ge:G R}(hN:X.N.Nodup) (hi:nD X c target iter gi)
  (hbody:∀(cl:List (Str×Addr)) (C:Addr) (s:Shared) (H:Hp) (fp:List Addr),bG X.env.cells scope.names []=some cl→gE (aZ X own cap scope cl C s H fp) c target gt∧fQ (aZ X own cap scope cl C s H fp) c ifs gts∧PD (aZ X own cap scope cl C s H fp) c elt ge)
  (hk:scope.kind=.function:=by rfl) (hno:gD X cap scope=true:=by rfl) (hnames:(scope.names.all fun x=>!(x.2 == .local) || (scope.names.lookup x.1 == some .local))=true:=by rfl)
  (hcl:(bG X.env.cells scope.names []).isSome=true:=by rfl) (hcap:eE X cap=true:=by rfl) (hloc:eO X cap scope=true:=by rfl) (hnd:gI cap=true:=by rfl) (hcalm:X.calm=true:=by rfl)
  (hs:∀x,foldedSetIterable iter X.env x=pure x:=by intro _;rfl) (hx:X.N[i]?=some x:=by rfl) (hxl:X.env.scope.names.lookup x=some .local:=by rfl)
  (hsw:swapsWith (.ListComp elt [⟨target,iter,ifs,0⟩] scope pos) (some (.Name x pos')) pos2.line X.env=pure true:=by rfl):jd X c (.Assign [.Name x pos'] (.ListComp elt [⟨target,iter,ifs,0⟩] scope pos) pos2) (bh i (bH own.length cap gi gt gts ge)):=by
 intro pins s σ H D I ⟨J,env,sr,w⟩
 rw [arm_exec_Assign]
 refine wpAny_bind (wpAny_standAt ?_)
 rw [show swapsWithSole [.Name x pos'] (.ListComp elt [⟨target,iter,ifs,0⟩] scope pos) pos2.line X.env=pure true from hsw]
 refine wpAny_bind (wpAny_pure ?_)
 rw [if_pos rfl,arm_evalThenUse_ListComp]
 refine wpAny_bind (wpAny_bind (Bp own cap hi hbody hk hno hnames hcl hcap hloc hnd hcalm hs (Q:=fun v H1=>∃J1 r xx,Ext J H J1 H1∧RR c H J1 H1 r v∧toS r=.ok xx∧oP c J D (.nx (env.set i (some xx)))) I ⟨J,env,sr,aE (aM w) fun r wr v J1 H1 e1 r1=>?_⟩ fun acc C m s' H' fl hm ap hf hb ⟨J1,r,xx,e1,r1,q1,w1⟩=>?_))
 ·obtain ⟨xx,q,wr⟩:=sO wr
  exact ⟨J1,r,xx,e1,r1,q,wr⟩
 ·have I1:L2.Inv X pins σ H' s':=hb s'.heap (Heap.SameBut.refl ..)
  show wpAny _ _ (do standAt pos';bindName X.env x (.ref acc)) _ _ _
  refine wpAny_bind (wpAny_standAt (wpAny_bindName ?_))
  refine oO I1 hN hx (.inl hxl) (v:=.ref acc) (u:=.ref acc) rfl (fun s2 I2 ⟨a,sb,ha⟩=>?_) (.inr hxl)
  have hac:C≠a:=fun z=>by
   rcases ha with e | e
   ·exact ap.2.1 (z.trans e)
   ·exact ap.2.2.1 _ _ e z.symm
  refine ⟨m,hm.sameBut sb hac,fun h2 sb2=>?_⟩
  refine wpAny_pure (wpAny_pure ⟨σ.set i (some (.ref acc)),H',tL I2 ap hf sb2 (o0:=default),?_⟩)
  exact w1 _ J1 H' e1.j (sr.set e1 r1 q1)
theorem bY (own:List Str) (cap:List Nat){elt target iter:Expr}{ifs:List Expr}{scope:Scope}{pos:Pos}{gi:G (List D)}{gt:GT}{gts:G Bool}{ge:G R}(hi:vC X c target iter gi)
  (hbody:∀(cl:List (Str×Addr)) (C:Addr) (s:Shared) (H:Hp) (fp:List Addr),bG X.env.cells scope.names []=some cl→lF (aZ X own cap scope cl C s H fp) c target gt∧kY (aZ X own cap scope cl C s H fp) c ifs gts∧QD (aZ X own cap scope cl C s H fp) c elt ge)
  (hk:scope.kind=.function:=by rfl) (hno:gD X cap scope=true:=by rfl) (hnames:(scope.names.all fun x=>!(x.2 == .local) || (scope.names.lookup x.1 == some .local))=true:=by rfl)
  (hcl:(bG X.env.cells scope.names []).isSome=true:=by rfl) (hcap:eE X cap=true:=by rfl) (hloc:eO X cap scope=true:=by rfl) (hnd:gI cap=true:=by rfl) (hcalm:X.calm=true:=by rfl)
  (hs:∀x,foldedSetIterable iter X.env x=pure x:=by intro _;rfl):QD X c (.ListComp elt [⟨target,iter,ifs,0⟩] scope pos) (bH own.length cap gi gt gts ge):=
 ⟨DQ own cap hi.h (fun cl C s H fp hc=>let ⟨a,b,d⟩:=hbody cl C s H fp hc;⟨a.h,b.h,d.h⟩) hk hno hnames hcl hcap hloc hnd hcalm hs⟩
theorem tN (i:Nat) (own:List Str) (cap:List Nat){elt target iter:Expr}{ifs:List Expr}{scope:Scope}{pos pos' pos2:Pos}{x:Str}{gi:G (List D)}{gt:GT}{gts:G Bool}{ge:G R}(hN:X.N.Nodup) (hi:vC X c target iter gi)
  (hbody:∀(cl:List (Str×Addr)) (C:Addr) (s:Shared) (H:Hp) (fp:List Addr),bG X.env.cells scope.names []=some cl→lF (aZ X own cap scope cl C s H fp) c target gt∧kY (aZ X own cap scope cl C s H fp) c ifs gts∧QD (aZ X own cap scope cl C s H fp) c elt ge)
  (hk:scope.kind=.function:=by rfl) (hno:gD X cap scope=true:=by rfl) (hnames:(scope.names.all fun x=>!(x.2 == .local) || (scope.names.lookup x.1 == some .local))=true:=by rfl)
  (hcl:(bG X.env.cells scope.names []).isSome=true:=by rfl) (hcap:eE X cap=true:=by rfl) (hloc:eO X cap scope=true:=by rfl) (hnd:gI cap=true:=by rfl) (hcalm:X.calm=true:=by rfl)
  (hs:∀x,foldedSetIterable iter X.env x=pure x:=by intro _;rfl) (hx:X.N[i]?=some x:=by rfl) (hxl:X.env.scope.names.lookup x=some .local:=by rfl)
  (hsw:swapsWith (.ListComp elt [⟨target,iter,ifs,0⟩] scope pos) (some (.Name x pos')) pos2.line X.env=pure true:=by rfl):jL X c (.Assign [.Name x pos'] (.ListComp elt [⟨target,iter,ifs,0⟩] scope pos) pos2) (bh i (bH own.length cap gi gt gts ge)):=
 ⟨DN i own cap hN hi.h (fun cl C s H fp hc=>let ⟨a,b,d⟩:=hbody cl C s H fp hc;⟨a.h,b.h,d.h⟩) hk hno hnames hcl hcap hloc hnd hcalm hs hx hxl hsw⟩
end
end DL
namespace K23
open PySem DL
def zD:List Str:=["world","many","marks","arrows"]
def qL:G O:=(aO (kj (cY 3 (br (aC 1) (br (aC 2) (br (aC 3) dz)))) (af 0))
 (bM (bI (aB (gN b_ (aq (bH 2 [] (dO (af 2)) (cY 2 (br (aC 0) (br (aC 1) dz))) cU (af 0)) aD)) (aB (gN b_ (aq (bH 2 [] (dO (af 3)) (cY 2 (br (aC 0) (br (aC 1) dz))) cU (af 0)) aD)) aW)))))
def iS (as:List S):M R:=fin (qL (bA zD as))
def vp:List Str:=["one","other"]
def n_:G O:=(bR (bx (g2 (cM true) (gN (aS 1 K23.iS) (aq (af 0) aD)) (gN (aS 1 K23.iS) (aq (af 1) aD)))) qH dG)
def iR (as:List S):M R:=fin (n_ (bA vp as))
def pU:List Str:=["worlds","world"]
def ku:G O:=(eZ (lg (af 0)) (aC 1) (bR (bx (g2 (jM fun i j=>.bl (decide (j < i))) (g2 bf (af 1) (gC (.int 0))) (gC (.int 4)))) qH dG))
def fP (as:List S):M R:=fin (ku (bA pU as))
def ye:List Str:=["one","other"]
def pR:G O:=(aO (jQ (gN (aS 2 K23.iR) (aq (af 0) (aq (af 1) aD))))
 (jQ (gN (aS 1 K23.fP) (aq (bI (aB (af 0) (aB (af 1) aW))) aD))))
def gm (as:List S):M R:=fin (pR (bA ye as))
def E3:List Str:=["pairs"]
def yV:G O:=(aO (bR (bx (g2 (Bx false) (af 0) (gC .non))) (bM (bI aW)) dG)
 (bM (gN b_ (aq (gN f_ (aq (af 0) aD)) aD))))
def jf (as:List S):M R:=fin (yV (bA E3 as))
def Kr:List Str:=["world","one","other","many","marks","arrows","bearing","leading"]
def EK:G O:=(aO (kj (cY 3 (br (aC 3) (br (aC 4) (br (aC 5) dz)))) (af 0))
 (aO (bh 6 (gN b_ (aq (bH 2 [1] (dO (af 4)) (cY 2 (br (aC 0) (br (aC 1) dz))) cU (g2 (gH false) (af 2) (af 1))) aD)))
 (aO (bh 7 (gN b_ (aq (bH 2 [1,2] (dO (af 5)) (cY 2 (br (aC 0) (br (aC 1) dz))) cU (g2 (gH false) (bI (aB (af 2) (aB (af 3) aW))) (af 1))) aD)))
 (bM (bI (aB (g2 (cM false) (af 1) (af 2)) (aB (af 6) (aB (af 7) aW))))))))
def uL (as:List S):M R:=fin (EK (bA Kr as))
def Hq:List Str:=["world"]
def BF:G O:=(bM (oV 2 [0] (cH (aq (g2 bf (af 0) (gC (.int 0))) aD)) (aC 0) cU (cH (aq (g2 bf (af 2) (gC (.int 0))) aD)) (aC 1) cU (bI (aB (af 0) (aB (af 1) aW))) (gN (aS 3 K23.uL) (aq (af 2) (aq (af 0) (aq (af 1) aD))))))
def nO (as:List S):M R:=fin (BF (bA Hq as))
def Ho:List Str:=["first","second","pair","again"]
def BC:G O:=(bM (g2 (cM false) (g2 r_ (af 0) (bI (aB (g2 bf (af 2) (gC (.int 0))) (aB (g2 bf (af 3) (gC (.int 0))) aW)))) (g2 r_ (af 1) (bI (aB (g2 bf (af 2) (gC (.int 1))) (aB (g2 bf (af 3) (gC (.int 1))) aW))))))
def eN (as:List S):M R:=fin (BC (bA Ho as))
def vn:List Str:=["first","second","pairing","pair","again"]
def n8:G O:=(aO (bR (ji (se (af 2)) (bx (g2 sd (af 3) (g2 bf (af 2) (Ac (gC (.int 1))))))) (bM (gC (.bl false))) dG)
 (aO (eZ (lg (af 2)) (aC 4) (bR (kr (g7 (bx (gN (aS 4 K23.eN) (aq (af 0) (aq (af 1) (aq (af 3) (aq (af 4) aD))))))) (g7 (bx (gN (aS 4 K23.eN) (aq (af 0) (aq (af 1) (aq (af 4) (aq (af 3) aD)))))))) (bM (gC (.bl false))) dG))
 (bM (gC (.bl true)))))
def iQ (as:List S):M R:=fin (n8 (bA vn as))
def A7:List Str:=["one","other","most","first","second","pairs","longest","told","step"]
def tw:G O:=(aO (jQ (gN (aS 2 K23.gm) (aq (af 0) (aq (af 1) aD))))
 (aO (jQ (gN (aS 3 K55.jq) (aq (af 2) (aq (gC (.int 0)) (aq (gC (.int 4)) aD)))))
 (aO (bh 3 (gN (aS 1 K23.nO) (aq (af 0) aD)))
 (aO (bh 4 (gN (aS 1 K23.nO) (aq (af 1) aD)))
 (aO (bh 5 (jx 2 [1,3,4] (cH (aq (g2 bf (af 0) (gC (.int 0))) aD)) (aC 0) cU (cH (aq (g2 bf (af 2) (gC (.int 0))) aD)) (aC 1) (bx (gN (aS 4 K23.eN) (aq (af 3) (aq (af 4) (aq (bI (aB (af 0) (aB (af 1) aW))) (aq (bI (aB (af 0) (aB (af 1) aW))) aD)))))) (bI (aB (af 0) (aB (af 1) aW)))))
 (aO (fU 5 (bh 6 (fC (aB (bI aW) aW))))
 (aO (bh 7 (fC (aB (bI aW) aW)))
 (aO (eZ (cH (aq (af 2) aD)) (aC 8) (aO (fU 5 (bh 6 (jx 2 [5,3,4] (dO (af 6)) (aC 0) cU (lg (af 2)) (aC 1) (bx (gN (aS 4 K23.iQ) (aq (af 3) (aq (af 4) (aq (af 0) (aq (af 1) aD)))))) (g2 dh (af 0) (bI (aB (af 1) aW))))))
 (mV 7 (af 6))))
 (bM (af 7))))))))))
def kL (as:List S):M R:=fin (tw (bA A7 as))
def CT:List Str:=["one","other","pairs","many","wanted","pairing"]
def wz:G O:=(aO (jQ (gN (aS 2 K23.gm) (aq (af 0) (aq (af 1) aD))))
 (aO (bh 3 (g2 bf (af 0) (gC (.int 0))))
 (aO (bR (bx (g2 (cM true) (g2 bf (af 1) (gC (.int 0))) (af 3))) (bM (gC .non)) dG)
 (aO (bh 4 (gN (aS 1 K23.jf) (aq (af 2) aD)))
 (aO (eZ (lg (gN (aS 3 K23.kL) (aq (af 0) (aq (af 1) (aq (af 3) aD))))) (aC 5) (bR (ji (bx (g2 (cM false) (gN fB (aq (af 5) aD)) (af 3))) (bx (gN i6 (aq (bH 1 [5] (dO (af 4)) (aC 0) cU (g2 (gH false) (af 0) (af 1))) aD)))) (bM (gN b_ (aq (bH 2 [] (dO (af 5)) (cY 2 (br (aC 0) (br (aC 1) dz))) cU (af 1)) aD))) dG))
 (bM (gC .non)))))))
def c_ (as:List S):M R:=fin (wz (bA CT as))
def vh:List Str:=["_law_many","_law_found","_law_k","_law_more","_law_order_here"]
def n5:G O:=(aO (fU 3 (bh 1 (fC (aB (bI aW) aW))))
 (aO (eZ (cH (aq (af 0) aD)) (aC 2) (aO (bh 3 (fC aW))
 (aO (fU 1 (eZ (lg (af 1)) (aC 4) (mV 3 (bH 1 [4] (cH (aq (af 0) aD)) (aC 0) (bx (g2 (gH true) (af 0) (af 1))) (g2 dh (af 1) (bI (aB (af 0) aW)))))))
 (fU 3 (bh 1 (af 3))))))
 (bM (af 1))))
def iP (as:List S):M R:=fin (n5 (bA vh as))
def x_:List Str:=["_law_script","_law_one","_law_other","_law_first","_law_order_here","_law_found","_law_k","_law_cell_here","_law_a","_law_b"]
def pN:G O:=(aO (bh 3 (gN (aS 2 K51.bW) (aq (af 0) (aq (gC (.int 16)) aD))))
 (aO (bh 4 (gN (aS 2 K55.eW) (aq (gN (aS 2 K51.bW) (aq (af 0) (aq (gC (.int 15)) aD))) (aq (g2 bf (af 1) (gC (.int 0))) aD))))
 (aO (bh 5 (fC aW))
 (aO (eZ (cH (aq (g2 dF (af 3) (gC (.int 4))) aD)) (aC 6) (aO (bh 7 (gN (aS 2 K51.bW) (aq (af 0) (aq (g2 dH (gC (.int 17)) (af 6)) aD))))
 (aO (bh 8 (g2 dF (af 7) (g2 bf (af 1) (gC (.int 0)))))
 (aO (bh 9 (g2 dF (g2 fT (af 7) (gC (.int 8))) (g2 bf (af 2) (gC (.int 0)))))
 (aO (bR (ji (bx (g2 (jM fun i j=>.bl (decide (j < i))) (g2 dF (g2 fT (af 3) (gC (.int 4))) (gC (.int 3))) (gC (.int 0)))) (bx (g2 (jM fun i j=>.bl (decide (i < j))) (g2 bf (af 4) (af 8)) (g2 bf (af 2) (gC (.int 0)))))) (bh 9 (g2 bf (af 4) (af 8))) dG)
 (jH 5 (bI (aB (af 8) (aB (af 9) aW)))))))))
 (bM (gN b_ (aq (af 5) aD)))))))
def h_ (as:List S):M R:=fin (pN (bA x_ as))
def zC:List Str:=["_law_one","_law_other","_law_pairs_here","_law_order_here"]
def qK:G O:=(bM (i7 (gN i6 (aq (bH 2 [3] (dO (af 2)) (cY 2 (br (aC 0) (br (aC 1) dz))) cU (g2 (cM false) (g2 bf (af 2) (af 0)) (af 1))) aD)) (g2 (cM false) (gN (aS 2 K55.d8) (aq (af 0) (aq (af 3) aD))) (af 1))))
def iO (as:List S):M R:=fin (qK (bA zC as))
def yb:List Str:=["_law_found","_law_one","_law_other","_law_pairs_here"]
def pO:G O:=(aO (bR (bx (g2 (Bx false) (af 0) (gC .non))) (aO (bR (bx (g2 (cM true) (g2 bf (af 1) (gC (.int 0))) (g2 bf (af 2) (gC (.int 0))))) (bM (gC (.bl true))) dG)
 (bM (oW (gN r6 (aq (bH 1 [1,2,3] (dO (gN (aS 1 K23.iP) (aq (g2 bf (af 1) (gC (.int 0))) aD))) (aC 0) cU (gN (aS 4 K23.iO) (aq (af 1) (aq (af 2) (aq (af 3) (aq (af 0) aD)))))) aD))))) dG)
 (aO (bR (kr (g7 (bx (we "tuple" (af 0)))) (kr (bx (g2 (cM true) (gN fB (aq (af 0) aD)) (g2 bf (af 1) (gC (.int 0))))) (bx (g2 (cM true) (g2 bf (af 1) (gC (.int 0))) (g2 bf (af 2) (gC (.int 0))))))) (bM (gC (.bl false))) dG)
 (aO (bR (kr (g7 (bx (gN i6 (aq (bH 1 [1] (dO (af 0)) (aC 0) cU (i7 (gN (aS 1 K01.dW) (aq (af 0) aD)) (BB (fun i j=>decide (i≤j)) (fun i j=>decide (i < j)) (gC (.int 0)) (af 0) (g2 bf (af 1) (gC (.int 0)))))) aD)))) (bx (g2 (cM true) (gN mS (aq (af 0) aD)) (gN fB (aq (af 0) aD))))) (bM (gC (.bl false))) dG)
 (bM (gN (aS 4 K23.iO) (aq (af 1) (aq (af 2) (aq (af 3) (aq (af 0) aD)))))))))
def dU (as:List S):M R:=fin (pO (bA yb as))
def LB:List Str:=["_law_script","_law_one","_law_other","_law_pairs_here"]
def HR:G O:=(aO (kj (cY 2 (br (aC 1) (br (aC 2) dz))) (gN (aS 2 K55.ju) (aq (af 0) (aq (fC (aB (gC (.int 2)) (aB (gC (.int 3)) (aB (gC (.int 1)) (aB (gC (.int 3)) (aB (gC (.int 2)) (aB (gC (.int 3)) (aB (gC (.int 2)) (aB (gC (.int 4)) aW))))))))) aD))))
 (aO (bh 3 (gN (aS 3 K23.h_) (aq (af 0) (aq (af 1) (aq (af 2) aD)))))
 (aO (bR (g7 (bx (gN (aS 4 K23.dU) (aq (gN (aS 3 K23.c_) (aq (af 1) (aq (af 2) (aq (af 3) aD)))) (aq (af 1) (aq (af 2) (aq (af 3) aD))))))) (bM (gC (.bl false))) dG)
 (aO (bR (g7 (bx (gN (aS 4 K23.dU) (aq (gN (aS 3 K23.c_) (aq (af 1) (aq (af 2) (aq (gC .non) aD)))) (aq (af 1) (aq (af 2) (aq (bI aW) aD))))))) (bM (gC (.bl false))) dG)
 (bM (gN (aS 4 K23.dU) (aq (gN (aS 2 (fun as=>K23.c_ (as++[.d .non]))) (aq (af 1) (aq (af 2) aD))) (aq (af 1) (aq (af 2) (aq (bI aW) aD))))))))))
def rM (as:List S):M R:=fin (HR (bA LB as))
end K23
namespace K23
open PySem PySem.Spec PyProof.Rows L2 DL DX
structure ff (w:World) (K:PySem.W.Frag) (mg:Str→Option Value):Prop where
 all:mg "all"=none
 any:mg "any"=none
 bool:mg "bool"=none
 int:mg "int"=none
 isinstance:mg "isinstance"=none
 len:mg "len"=none
 list:mg "list"=none
 range:mg "range"=none
 set:mg "set"=none
 sorted:mg "sorted"=none
 tuple:mg "tuple"=none
 MOST_SMALL:zy K mg "MOST_SMALL" (.int 4)
section
variable {P:Program}{w:World}{K:PySem.W.Frag}{mg:Str→Option Value}{base:Heap}{f:Addr}{fd:FuncData}
abbrev iM:Stmt:=top 6
theorem AK:bw ["thing"] ["thing"] (au iM):=⟨rfl,rfl,rfl,by decide +kernel,rfl,by decide +kernel,by decide +kernel⟩
theorem yj (m:ff w K mg) (F:dB K "is_whole" "is_whole" iM f fd) (hm:mg "is_whole"=some (.ref f)):bQ P w K mg base 1 1 "is_whole" K01.dW:=
 have sc:=AK
 bP (k:=0) (gB:=K01.n9) F hm sc (fun _ _ _ _ _ _ us hl=>match us,hl with | [_],_=>rfl) (fun cdv A outer s H E J T hr=>
 (aJ (a_ (o9 (gS y9 sV m.int (aa 0) m.isinstance) (nh (sI (gS wJ qq m.bool (aa 0) m.isinstance))))))) (fun as r _ h=>h)
end
section
variable {P:Program}{w:World}{K:PySem.W.Frag}{mg:Str→Option Value}{base:Heap}{f:Addr}{fd:FuncData}
abbrev gX:Stmt:=top 7
theorem yw:bw ["world","many","marks","arrows"] ["world"] (au gX):=⟨rfl,rfl,rfl,by decide +kernel,rfl,by decide +kernel,by decide +kernel⟩
theorem vV (m:ff w K mg) (F:dB K "tongue_of" "tongue_of" gX f fd) (hm:mg "tongue_of"=some (.ref f)):bQ P w K mg base 1 1 "tongue_of" K23.iS:=
 have sc:=yw
 bP (k:=0) (gB:=K23.qL) F hm sc (fun _ _ _ _ _ _ us hl=>match us,hl with | [_],_=>rfl) (fun cdv A outer s H E J T hr=>
 (ay (kE (aa 0) (cW (aY (aH 1 sc.nd) (aY (aH 2 sc.nd) (aY (aH 3 sc.nd) cL)))))
 (aJ (a_ (bu (az (bU (ao (bY ["name","points"] [] (cQ (aa 2)) (fun _ _ _ _ _ hc=>⟨(cW (aY (aH 0 (cC rfl)) (aY (aH 1 (cC rfl)) cL))),bS,(aa 0)⟩)) av) m.tuple) (az (bU (ao (bY ["name","pairs"] [] (cQ (aa 3)) (fun _ _ _ _ _ hc=>⟨(cW (aY (aH 0 (cC rfl)) (aY (aH 1 (cC rfl)) cL))),bS,(aa 0)⟩)) av) m.tuple) aQ))))))) (fun as r _ h=>h)
end
section
variable {P:Program}{w:World}{K:PySem.W.Frag}{mg:Str→Option Value}{base:Heap}{f:Addr}{fd:FuncData}
abbrev fK:Stmt:=top 8
theorem uG:bw ["one","other"] ["one","other"] (au fK):=⟨rfl,rfl,rfl,by decide +kernel,rfl,by decide +kernel,by decide +kernel⟩
theorem rW (m:ff w K mg) (htongue_of:bQ P w K mg base 1 1 "tongue_of" K23.iS) (F:dB K "need_tongue" "need_tongue" fK f fd) (hm:mg "need_tongue"=some (.ref f)):bQ P w K mg base 2 2 "need_tongue" K23.iR:=
 have sc:=uG
 bP (k:=1) (gB:=K23.n_) F hm sc (fun _ _ _ _ _ _ us hl=>match us,hl with | [_,_],_=>rfl) (fun cdv A outer s H E J T hr=>
 (aJ (bT (kD hr.units (aU htongue_of hr (ao (aa 0) av)) (aU htongue_of hr (ao (aa 1) av))) (aJ ng) bK))) (fun as r _ h=>h)
end
section
variable {P:Program}{w:World}{K:PySem.W.Frag}{mg:Str→Option Value}{base:Heap}{f:Addr}{fd:FuncData}
abbrev dc:Stmt:=top 11
theorem pB:bw ["worlds","world"] ["worlds"] (au dc):=⟨rfl,rfl,rfl,by decide +kernel,rfl,by decide +kernel,by decide +kernel⟩
theorem nV (m:ff w K mg) (F:dB K "need_few_points" "need_few_points" dc f fd) (hm:mg "need_few_points"=some (.ref f)):bQ P w K mg base 1 1 "need_few_points" K23.fP:=
 have sc:=pB
 bP (k:=0) (gB:=K23.ku) F hm sc (fun _ _ _ _ _ _ us hl=>match us,hl with | [_],_=>rfl) (fun cdv A outer s H E J T hr=>
 (aJ (dQ (kF (aa 0)) (aH 1 sc.nd) (aJ (bT (iJ uX (iZ fun _ _ _=>.bl _) (aN (aa 1) aA) (tP m.MOST_SMALL)) (aJ ng) bK))))) (fun as r _ h=>h)
end
section
variable {P:Program}{w:World}{K:PySem.W.Frag}{mg:Str→Option Value}{base:Heap}{f:Addr}{fd:FuncData}
abbrev gz:Stmt:=top 12
theorem xE:bw ["one","other"] ["one","other"] (au gz):=⟨rfl,rfl,rfl,by decide +kernel,rfl,by decide +kernel,by decide +kernel⟩
theorem uz (m:ff w K mg) (hneed_tongue:bQ P w K mg base 2 2 "need_tongue" K23.iR) (hneed_few_points:bQ P w K mg base 1 1 "need_few_points" K23.fP) (F:dB K "need_small" "need_small" gz f fd) (hm:mg "need_small"=some (.ref f)):bQ P w K mg base 3 2 "need_small" K23.gm:=
 have sc:=xE
 bP (k:=2) (gB:=K23.pR) F hm sc (fun _ _ _ _ _ _ us hl=>match us,hl with | [_,_],_=>rfl) (fun cdv A outer s H E J T hr=>
 (ay (jB (aU hneed_tongue hr (ao (aa 0) (ao (aa 1) av))))
 (aJ (jB (aU hneed_few_points hr (ao (bu (az (aa 0) (az (aa 1) aQ))) av)))))) (fun as r _ h=>h)
end
section
variable {P:Program}{w:World}{K:PySem.W.Frag}{mg:Str→Option Value}{base:Heap}{f:Addr}{fd:FuncData}
abbrev gy:Stmt:=top 13
theorem xD:bw ["told","least","most"] ["told","least","most"] (au gy):=⟨rfl,rfl,rfl,by decide +kernel,rfl,by decide +kernel,by decide +kernel⟩
theorem uy (m:ff w K mg) (his_whole:bQ P w K mg base 1 1 "is_whole" K01.dW) (F:dB K "need_count" "need_count" gy f fd) (hm:mg "need_count"=some (.ref f)):bQ P w K mg base 2 3 "need_count" K55.jq:=
 have sc:=xD
 bP (k:=1) (gB:=K55.pQ) F hm sc (fun _ _ _ _ _ _ us hl=>match us,hl with | [_,_,_],_=>rfl) (fun cdv A outer s H E J T hr=>
 (aJ (bT (jl (lY (jm (fE (aU his_whole hr (ao (aa 0) av)))) (lY (iJ uY (iZ fun _ _ _=>.bl _) (aa 0) (aa 1)) (o8 (iJ uX (iZ fun _ _ _=>.bl _) (aa 0) (aa 2)))))) (aJ ng) bK))) (fun as r _ h=>h)
end
section
variable {P:Program}{w:World}{K:PySem.W.Frag}{mg:Str→Option Value}{base:Heap}{f:Addr}{fd:FuncData}
abbrev j6:Stmt:=top 15
theorem Ep:bw ["pairs"] ["pairs"] (au j6):=⟨rfl,rfl,rfl,by decide +kernel,rfl,by decide +kernel,by decide +kernel⟩
theorem Bk (m:ff w K mg) (F:dB K "rising" "rising" j6 f fd) (hm:mg "rising"=some (.ref f)):bQ P w K mg base 1 1 "rising" K23.jf:=
 have sc:=Ep
 bP (k:=0) (gB:=K23.yV) F hm sc (fun _ _ _ _ _ _ us hl=>match us,hl with | [_],_=>rfl) (fun cdv A outer s H E J T hr=>
 (ay (bT (Ck (aa 0) lZ) (aJ (a_ (bu aQ))) bK)
 (aJ (a_ (bU (ao (tR hr.units (ao (aa 0) av) m.sorted m.set) av) m.tuple))))) (fun as r _ h=>h)
end
section
variable {P:Program}{w:World}{K:PySem.W.Frag}{mg:Str→Option Value}{base:Heap}{f:Addr}{fd:FuncData}
abbrev pg:Stmt:=top 16
theorem JY:bw ["world","one","other","many","marks","arrows","bearing","leading"] ["world","one","other"] (au pg):=⟨rfl,rfl,rfl,by decide +kernel,rfl,by decide +kernel,by decide +kernel⟩
theorem Fd (m:ff w K mg) (F:dB K "view" "view" pg f fd) (hm:mg "view"=some (.ref f)):bQ P w K mg base 1 3 "view" K23.uL:=
 have sc:=JY
 bP (k:=0) (gB:=K23.EK) F hm sc (fun _ _ _ _ _ _ us hl=>match us,hl with | [_,_,_],_=>rfl) (fun cdv A outer s H E J T hr=>
 (ay (kE (aa 0) (cW (aY (aH 3 sc.nd) (aY (aH 4 sc.nd) (aY (aH 5 sc.nd) cL)))))
 (ay (aP 6 sc.nd (bU (ao (bY ["name","points"] [1] (cQ (aa 4)) (fun _ _ _ _ _ hc=>⟨(cW (aY (aH 0 (cC rfl)) (aY (aH 1 (cC rfl)) cL))),bS,(xg hr.units (aa 2) (aa 1))⟩)) av) m.tuple))
 (ay (aP 7 sc.nd (bU (ao (bY ["name","pairs"] [1,2] (cQ (aa 5)) (fun _ _ _ _ _ hc=>⟨(cW (aY (aH 0 (cC rfl)) (aY (aH 1 (cC rfl)) cL))),bS,(xg hr.units (bu (az (aa 2) (az (aa 3) aQ))) (aa 1))⟩)) av) m.tuple))
 (aJ (a_ (bu (az (oF hr.units (aa 1) (aa 2)) (az (aa 6) (az (aa 7) aQ)))))))))) (fun as r _ h=>h)
end
section
variable {P:Program}{w:World}{K:PySem.W.Frag}{mg:Str→Option Value}{base:Heap}{f:Addr}{fd:FuncData}
abbrev mC:Stmt:=top 17
theorem G1:bw ["world"] ["world"] (au mC):=⟨rfl,rfl,rfl,by decide +kernel,rfl,by decide +kernel,by decide +kernel⟩
theorem C1 (m:ff w K mg) (hview:bQ P w K mg base 1 3 "view" K23.uL) (F:dB K "views" "views" mC f fd) (hm:mg "views"=some (.ref f)):bQ P w K mg base 2 1 "views" K23.nO:=
 have sc:=G1
 bP (k:=1) (gB:=K23.BF) F hm sc (fun _ _ _ _ _ _ us hl=>match us,hl with | [_],_=>rfl) (fun cdv A outer s H E J T hr=>
 (aJ (a_ (AD hr.units ["one","other"] [0] (iA (bL (ao (aN (aa 0) aA) av) m.range)) (fun _ _ _ _ _ hc=>⟨(aH 0 (cC rfl)),bS,(bL (ao (aN (aa 2) aA) av) m.range),(aH 1 (cC rfl)),bS,(bu (az (aa 0) (az (aa 1) aQ))),(aU hview hr (ao (aa 2) (ao (aa 0) (ao (aa 1) av))))⟩))))) (fun as r _ h=>h)
end
section
variable {P:Program}{w:World}{K:PySem.W.Frag}{mg:Str→Option Value}{base:Heap}{f:Addr}{fd:FuncData}
abbrev mw:Stmt:=top 18
theorem G0:bw ["first","second","pair","again"] ["first","second","pair","again"] (au mw):=⟨rfl,rfl,rfl,by decide +kernel,rfl,by decide +kernel,by decide +kernel⟩
theorem CZ (m:ff w K mg) (F:dB K "agree" "agree" mw f fd) (hm:mg "agree"=some (.ref f)):bQ P w K mg base 1 4 "agree" K23.eN:=
 have sc:=G0
 bP (k:=0) (gB:=K23.BC) F hm sc (fun _ _ _ _ _ _ us hl=>match us,hl with | [_,_,_,_],_=>rfl) (fun cdv A outer s H E J T hr=>
 (aJ (a_ (oF hr.units (zh hr.units (aa 0) (bu (az (aN (aa 2) aA) (az (aN (aa 3) aA) aQ)))) (zh hr.units (aa 1) (bu (az (aN (aa 2) aA) (az (aN (aa 3) aA) aQ)))))))) (fun as r _ h=>h)
end
section
variable {P:Program}{w:World}{K:PySem.W.Frag}{mg:Str→Option Value}{base:Heap}{f:Addr}{fd:FuncData}
abbrev fH:Stmt:=top 19
theorem uF:bw ["first","second","pairing","pair","again"] ["first","second","pairing","pair"] (au fH):=⟨rfl,rfl,rfl,by decide +kernel,rfl,by decide +kernel,by decide +kernel⟩
theorem rV (m:ff w K mg) (hagree:bQ P w K mg base 1 4 "agree" K23.eN) (F:dB K "goes_behind" "goes_behind" fH f fd) (hm:mg "goes_behind"=some (.ref f)):bQ P w K mg base 2 4 "goes_behind" K23.iQ:=
 have sc:=uF
 bP (k:=1) (gB:=K23.n8) F hm sc (fun _ _ _ _ _ _ us hl=>match us,hl with | [_,_,_,_],_=>rfl) (fun cdv A outer s H E J T hr=>
 (ay (bT (jl (sF (sG (aa 2)) (qa (GN hr.units (aa 3) (aN (aa 2) (GQ aA)))))) (aJ (a_ jC)) bK)
 (ay (dQ (kF (aa 2)) (aH 4 sc.nd) (aJ (bT (jl (lY (jm (fE (aU hagree hr (ao (aa 0) (ao (aa 1) (ao (aa 3) (ao (aa 4) av))))))) (o8 (jm (fE (aU hagree hr (ao (aa 0) (ao (aa 1) (ao (aa 4) (ao (aa 3) av)))))))))) (aJ (a_ jC)) bK)))
 (aJ (a_ jC))))) (fun as r _ h=>h)
end
section
variable {P:Program}{w:World}{K:PySem.W.Frag}{mg:Str→Option Value}{base:Heap}{f:Addr}{fd:FuncData}
abbrev iN:Stmt:=top 20
theorem AL:bw ["one","other","most","first","second","pairs","longest","told","step"] ["one","other","most"] (au iN):=⟨rfl,rfl,rfl,by decide +kernel,rfl,by decide +kernel,by decide +kernel⟩
theorem ym (m:ff w K mg) (hneed_small:bQ P w K mg base 3 2 "need_small" K23.gm) (hneed_count:bQ P w K mg base 2 3 "need_count" K55.jq) (hviews:bQ P w K mg base 2 1 "views" K23.nO) (hagree:bQ P w K mg base 1 4 "agree" K23.eN) (hgoes_behind:bQ P w K mg base 2 4 "goes_behind" K23.iQ) (F:dB K "pairings" "pairings" iN f fd) (hm:mg "pairings"=some (.ref f)):bQ P w K mg base 4 3 "pairings" K23.kL:=
 have sc:=AL
 bP (k:=3) (gB:=K23.tw) F hm sc (fun _ _ _ _ _ _ us hl=>match us,hl with | [_,_,_],_=>rfl) (fun cdv A outer s H E J T hr=>
 (ay (jB (aU hneed_small hr (ao (aa 0) (ao (aa 1) av))))
 (ay (jB (aU hneed_count hr (ao (aa 2) (ao aA (ao (tP m.MOST_SMALL) av)))))
 (ay (aP 3 sc.nd (aU hviews hr (ao (aa 0) av)))
 (ay (aP 4 sc.nd (aU hviews hr (ao (aa 1) av)))
 (ay (aP 5 sc.nd (AE ["a","b"] [1,3,4] (iA (bL (ao (aN (aa 0) aA) av) m.range)) (fun _ _ _ _ _ hc=>⟨(aH 0 (cC rfl)),bS,(bL (ao (aN (aa 2) aA) av) m.range),(aH 1 (cC rfl)),(iK (fE (aU hagree hr (ao (aa 3) (ao (aa 4) (ao (bu (az (aa 0) (az (aa 1) aQ))) (ao (bu (az (aa 0) (az (aa 1) aQ))) av))))))),(bu (az (aa 0) (az (aa 1) aQ)))⟩)))
 (ay (jn 5 (aP 6 sc.nd (dM (az (bu aQ) aQ))))
 (ay (aP 7 sc.nd (dM (az (bu aQ) aQ)))
 (ay (dQ (bL (ao (aa 2) av) m.range) (aH 8 sc.nd) (ay (jn 5 (AB 6 ["ahead","pair"] [5,3,4] sc.nd (cQ (aa 6)) (fun _ _ _ _ _ hc=>⟨(aH 0 (cC rfl)),bS,(kF (aa 2)),(aH 1 (cC rfl)),(iK (fE (aU hgoes_behind hr (ao (aa 3) (ao (aa 4) (ao (aa 0) (ao (aa 1) av))))))),(gJ (aa 0) (bu (az (aa 1) aQ)))⟩)))
 (aJ (pT 7 (aa 6)))))
 (aJ (a_ (aa 7)))))))))))) (fun as r _ h=>h)
end
section
variable {P:Program}{w:World}{K:PySem.W.Frag}{mg:Str→Option Value}{base:Heap}{f:Addr}{fd:FuncData}
abbrev gM:Stmt:=top 22
theorem Ct:bw ["one","other","pairs","many","wanted","pairing"] ["one","other","pairs"] (au gM):=⟨rfl,rfl,rfl,by decide +kernel,rfl,by decide +kernel,by decide +kernel⟩
theorem Aa (m:ff w K mg) (hneed_small:bQ P w K mg base 3 2 "need_small" K23.gm) (hrising:bQ P w K mg base 1 1 "rising" K23.jf) (hpairings:bQ P w K mg base 4 3 "pairings" K23.kL) (F:mK K "turning" "turning" gM f fd):eY P w K mg base (qc P w) 5 f fd ["one","other","pairs"] (t_ K 3 K23.c_):=
 have sc:=Ct
 Fq (k:=4) (gB:=K23.wz) F sc (fun cdv A outer s H E J hr=>pD.h (
 (ay (jB (aU hneed_small hr (ao (aa 0) (ao (aa 1) av))))
 (ay (aP 3 sc.nd (aN (aa 0) aA))
 (ay (bT (kD hr.units (aN (aa 1) aA) (aa 3)) (aJ (a_ lZ)) bK)
 (ay (aP 4 sc.nd (aU hrising hr (ao (aa 2) av)))
 (ay (dQ (kF (aU hpairings hr (ao (aa 0) (ao (aa 1) (ao (aa 3) av))))) (aH 5 sc.nd) (aJ (bT (jl (sF (oE hr.units (d7 (ao (aa 5) av) m.len) (aa 3)) (qa (fE (sH (ao (bY ["pair"] [5] (cQ (aa 4)) (fun _ _ _ _ _ hc=>⟨(aH 0 (cC rfl)),bS,(xg hr.units (aa 0) (aa 1))⟩)) av) m.all))))) (aJ (a_ (bU (ao (bY ["a","b"] [] (cQ (aa 5)) (fun _ _ _ _ _ hc=>⟨(cW (aY (aH 0 (cC rfl)) (aY (aH 1 (cC rfl)) cL))),bS,(aa 1)⟩)) av) m.tuple))) bK)))
 (aJ (a_ lZ))))))))) (fun _ _ _=>rfl)
theorem zU (G:eY P w K mg base (qc P w) 5 f fd ["one","other","pairs"] (t_ K 3 K23.c_)) (F:mK K "turning" "turning" gM f fd) (hm:mg "turning"=some (.ref f)):CN P w K mg base 5 3 "turning" K23.c_:=⟨f,fd,["one","other","pairs"],G,hm,F.kp,F.bindsAll (fun T kV doc pm an cdv ct us hl=>match us,hl with | [_,_,_],_=>⟨_,rfl,rfl⟩)⟩
theorem yi (G:eY P w K mg base (qc P w) 5 f fd ["one","other","pairs"] (t_ K 3 K23.c_)) (F:mK K "turning" "turning" gM f fd) (hm:mg "turning"=some (.ref f)):CM P w K mg base 5 2 "turning" K23.c_:=⟨f,fd,["one","other","pairs"],G,hm,F.kp,F.bindsOne (fun T kV doc pm an cdv ct us hl=>match us,hl with | [_,_],_=>⟨_,rfl,rfl⟩)⟩
end
section
variable {P:Program}{w:World}{K:PySem.W.Frag}{mg:Str→Option Value}{base:Heap}{f:Addr}{fd:FuncData}
abbrev gU:Stmt:=top 24
theorem yu:bw ["_law_script","_law_k"] ["_law_script","_law_k"] (au gU):=⟨rfl,rfl,rfl,by decide +kernel,rfl,by decide +kernel,by decide +kernel⟩
theorem vN (m:ff w K mg) (F:dB K "_law_cell" "_law_cell" gU f fd) (hm:mg "_law_cell"=some (.ref f)):bQ P w K mg base 1 2 "_law_cell" K51.bW:=
 have sc:=yu
 bP (k:=0) (gB:=K51.qJ) F hm sc (fun _ _ _ _ _ _ us hl=>match us,hl with | [_,_],_=>rfl) (fun cdv A outer s H E J T hr=>
 (ay (bT (iJ uY (iZ fun _ _ _=>.bl _) (aa 1) (d7 (ao (aa 0) av) m.len)) (aJ (a_ (cj (aN (aa 0) (aa 1)) (GR aA aA)))) bK)
 (aJ (a_ aA)))) (fun as r _ h=>h)
end
section
variable {P:Program}{w:World}{K:PySem.W.Frag}{mg:Str→Option Value}{base:Heap}{f:Addr}{fd:FuncData}
abbrev gp:Stmt:=top 25
theorem xu:bw ["_law_cell_here","_law_many","_law_letters","_law_sign","_law_stem","_law_found","_law_k","_law_other","_law_name"] ["_law_cell_here","_law_many"] (au gp):=⟨rfl,rfl,rfl,by decide +kernel,rfl,by decide +kernel,by decide +kernel⟩
theorem um (m:ff w K mg) (F:dB K "_law_names" "_law_names" gp f fd) (hm:mg "_law_names"=some (.ref f)):bQ P w K mg base 1 2 "_law_names" K51.gj:=
 have sc:=xu
 bP (k:=0) (gB:=K51.pL) F hm sc (fun _ _ _ _ _ _ us hl=>match us,hl with | [_,_],_=>rfl) (fun cdv A outer s H E J T hr=>
 (ay (aP 2 sc.nd sJ)
 (ay (aP 3 sc.nd (aN (aa 2) (cj (dJ (aa 0) aA) aA)))
 (ay (aP 4 sc.nd (jD (aa 3) (fW aA (cj (dJ (aa 0) aA) aA))))
 (ay (aP 5 sc.nd (dM aQ))
 (ay (dQ (bL (ao (aa 1) av) m.range) (aH 6 sc.nd) (ay (aP 7 sc.nd (aN (aa 2) (cj (fW (dJ (aa 0) aA) (jD aA (aa 6))) aA)))
 (ay (aP 8 sc.nd (aN (dM (az (fW (aa 4) (aa 7)) (az (fW (aa 7) (aa 4)) (az (jD (aa 3) (fW (aa 6) aA)) aQ)))) (cj (aa 0) aA)))
 (ay (bT (oE hr.units (aa 8) sJ) (aJ (aP 8 sc.nd sJ)) bK)
 (aJ (ic 5 (aa 8)))))))
 (aJ (a_ (AG (ao (aa 5) av) m.sorted))))))))) (fun as r _ h=>h)
end
section
variable {P:Program}{w:World}{K:PySem.W.Frag}{mg:Str→Option Value}{base:Heap}{f:Addr}{fd:FuncData}
abbrev gT:Stmt:=top 26
theorem yt:bw ["_law_cell_here","_law_size","_law_found","_law_k"] ["_law_cell_here","_law_size"] (au gT):=⟨rfl,rfl,rfl,by decide +kernel,rfl,by decide +kernel,by decide +kernel⟩
theorem vM (m:ff w K mg) (F:dB K "_law_bits" "_law_bits" gT f fd) (hm:mg "_law_bits"=some (.ref f)):bQ P w K mg base 1 2 "_law_bits" K51.gP:=
 have sc:=yt
 bP (k:=0) (gB:=K51.qI) F hm sc (fun _ _ _ _ _ _ us hl=>match us,hl with | [_,_],_=>rfl) (fun cdv A outer s H E J T hr=>
 (ay (aP 2 sc.nd (dM aQ))
 (ay (dQ (bL (ao (aa 1) av) m.range) (aH 3 sc.nd) (ay (ic 2 (oF hr.units (cj (aa 0) aA) aA))
 (aJ (aP 0 sc.nd (dJ (aa 0) aA)))))
 (aJ (a_ (aa 2)))))) (fun as r _ h=>h)
end
section
variable {P:Program}{w:World}{K:PySem.W.Frag}{mg:Str→Option Value}{base:Heap}{f:Addr}{fd:FuncData}
abbrev gx:Stmt:=top 27
theorem xC:bw ["_law_names_here","_law_many","_law_cells","_law_marks","_law_k","_law_bits_here","_law_arrows"] ["_law_names_here","_law_many","_law_cells"] (au gx):=⟨rfl,rfl,rfl,by decide +kernel,rfl,by decide +kernel,by decide +kernel⟩
theorem uv (m:ff w K mg) (h_law_bits:bQ P w K mg base 1 2 "_law_bits" K51.gP) (F:dB K "_law_world" "_law_world" gx f fd) (hm:mg "_law_world"=some (.ref f)):bQ P w K mg base 2 3 "_law_world" K51.eX:=
 have sc:=xC
 bP (k:=1) (gB:=K51.pP) F hm sc (fun _ _ _ _ _ _ us hl=>match us,hl with | [_,_,_],_=>rfl) (fun cdv A outer s H E J T hr=>
 (ay (aP 3 sc.nd (dM aQ))
 (ay (dQ (bL (ao (d7 (ao (aN (aa 0) aA) av) m.len) av) m.range) (aH 4 sc.nd) (ay (aP 5 sc.nd (aU h_law_bits hr (ao (aN (aa 2) (aa 4)) (ao (aa 1) av))))
 (aJ (ic 3 (bu (az (aN (aN (aa 0) aA) (aa 4)) (az (bU (ao (bY ["_law_p"] [5] (iA (bL (ao (aa 1) av) m.range)) (fun _ _ _ _ _ hc=>⟨(aH 0 (cC rfl)),(iK (sG (aN (aa 1) (aa 0)))),(aa 0)⟩)) av) m.tuple) aQ)))))))
 (ay (aP 6 sc.nd (dM aQ))
 (ay (dQ (bL (ao (d7 (ao (aN (aa 0) aA) av) m.len) av) m.range) (aH 4 sc.nd) (ay (aP 5 sc.nd (aU h_law_bits hr (ao (aN (aa 2) (fW aA (aa 4))) (ao (jD (aa 1) (aa 1)) av))))
 (aJ (ic 6 (bu (az (aN (aN (aa 0) aA) (aa 4)) (az (bU (ao (bY ["_law_p"] [5,1] (iA (bL (ao (jD (aa 1) (aa 1)) av) m.range)) (fun _ _ _ _ _ hc=>⟨(aH 0 (cC rfl)),(iK (sG (aN (aa 1) (aa 0)))),(bu (az (dJ (aa 0) (aa 2)) (az (cj (aa 0) (aa 2)) aQ)))⟩)) av) m.tuple) aQ)))))))
 (aJ (a_ (bu (az (aa 1) (az (bU (ao (aa 3) av) m.tuple) (az (bU (ao (aa 6) av) m.tuple) aQ))))))))))) (fun as r _ h=>h)
end
section
variable {P:Program}{w:World}{K:PySem.W.Frag}{mg:Str→Option Value}{base:Heap}{f:Addr}{fd:FuncData}
abbrev gq:Stmt:=top 28
theorem xw:bw ["_law_cell_here","_law_many","_law_left","_law_found","_law_k"] ["_law_cell_here","_law_many"] (au gq):=⟨rfl,rfl,rfl,by decide +kernel,rfl,by decide +kernel,by decide +kernel⟩
theorem uo (m:ff w K mg) (F:dB K "_law_order" "_law_order" gq f fd) (hm:mg "_law_order"=some (.ref f)):bQ P w K mg base 1 2 "_law_order" K55.eW:=
 have sc:=xw
 bP (k:=0) (gB:=K55.pM) F hm sc (fun _ _ _ _ _ _ us hl=>match us,hl with | [_,_],_=>rfl) (fun cdv A outer s H E J T hr=>
 (ay (aP 2 sc.nd (AF (ao (aa 1) av) m.range m.list))
 (ay (aP 3 sc.nd (dM aQ))
 (ay (dQ (bL (ao (aa 1) av) m.range) (aH 4 sc.nd) (ay (yp 3 2 (cj (aa 0) (d7 (ao (aa 2) av) m.len)))
 (aJ (aP 0 sc.nd (dJ (aa 0) aA)))))
 (aJ (a_ (bU (ao (aa 3) av) m.tuple))))))) (fun as r _ h=>h)
end
section
variable {P:Program}{w:World}{K:PySem.W.Frag}{mg:Str→Option Value}{base:Heap}{f:Addr}{fd:FuncData}
abbrev fG:Stmt:=top 29
theorem uE:bw ["_law_world_here","_law_order_here","_law_marks","_law_arrows"] ["_law_world_here","_law_order_here"] (au fG):=⟨rfl,rfl,rfl,by decide +kernel,rfl,by decide +kernel,by decide +kernel⟩
theorem rT (m:ff w K mg) (F:dB K "_law_turned" "_law_turned" fG f fd) (hm:mg "_law_turned"=some (.ref f)):bQ P w K mg base 1 2 "_law_turned" K55.d8:=
 have sc:=uE
 bP (k:=0) (gB:=K55.n6) F hm sc (fun _ _ _ _ _ _ us hl=>match us,hl with | [_,_],_=>rfl) (fun cdv A outer s H E J T hr=>
 (ay (tN 2 ["_law_name","_law_points"] [1] sc.nd (cQ (aN (aa 0) aA)) (fun _ _ _ _ _ hc=>⟨(cW (aY (aH 0 (cC rfl)) (aY (aH 1 (cC rfl)) cL))),bS,(bu (az (aa 0) (az (bU (ao (tQ hr.units (ao (bY ["_law_p"] [2] (cQ (aa 1)) (fun _ _ _ _ _ hc=>⟨(aH 0 (cC rfl)),bS,(aN (aa 1) (aa 0))⟩) (hcl:=yP hc rfl)) av) m.sorted) av) m.tuple) aQ)))⟩))
 (ay (tN 3 ["_law_name","_law_some"] [1] sc.nd (cQ (aN (aa 0) aA)) (fun _ _ _ _ _ hc=>⟨(cW (aY (aH 0 (cC rfl)) (aY (aH 1 (cC rfl)) cL))),bS,(bu (az (aa 0) (az (bU (ao (tQ hr.units (ao (bY ["_law_p","_law_q"] [2] (cQ (aa 1)) (fun _ _ _ _ _ hc=>⟨(cW (aY (aH 0 (cC rfl)) (aY (aH 1 (cC rfl)) cL))),bS,(bu (az (aN (aa 2) (aa 0)) (az (aN (aa 2) (aa 1)) aQ)))⟩) (hcl:=yP hc rfl)) av) m.sorted) av) m.tuple) aQ)))⟩))
 (aJ (a_ (bu (az (aN (aa 0) aA) (az (bU (ao (aa 2) av) m.tuple) (az (bU (ao (aa 3) av) m.tuple) aQ))))))))) (fun as r _ h=>h)
end
section
variable {P:Program}{w:World}{K:PySem.W.Frag}{mg:Str→Option Value}{base:Heap}{f:Addr}{fd:FuncData}
abbrev eH:Stmt:=top 30
theorem sL:bw ["_law_world_here","_law_cell_here","_law_many","_law_marks","_law_arrows","_law_at","_law_thing","_law_some","_law_name","_law_had","_law_now"] ["_law_world_here","_law_cell_here"] (au eH):=⟨rfl,rfl,rfl,by decide +kernel,rfl,by decide +kernel,by decide +kernel⟩
theorem qu (m:ff w K mg) (F:dB K "_law_flipped" "_law_flipped" eH f fd) (hm:mg "_law_flipped"=some (.ref f)):bQ P w K mg base 1 2 "_law_flipped" K55.eG:=
 have sc:=sL
 bP (k:=0) (gB:=K55.nG) F hm sc (fun _ _ _ _ _ _ us hl=>match us,hl with | [_,_],_=>rfl) (fun cdv A outer s H E J T hr=>
 (ay (kE (aa 0) (cW (aY (aH 2 sc.nd) (aY (aH 3 sc.nd) (aY (aH 4 sc.nd) cL)))))
 (ay (bT (oE hr.units (gJ (d7 (ao (aa 3) av) m.len) (d7 (ao (aa 4) av) m.len)) aA) (aJ (a_ (aa 0))) bK)
 (ay (aP 5 sc.nd (cj (aa 1) (gJ (d7 (ao (aa 3) av) m.len) (d7 (ao (aa 4) av) m.len))))
 (ay (aP 6 sc.nd (cj (dJ (aa 1) aA) (aa 2)))
 (ay (aP 7 sc.nd (aa 3))
 (ay (bT (iJ KI (iZ fun _ _ _=>.bl _) (aa 5) (d7 (ao (aa 3) av) m.len)) (ay (aP 5 sc.nd (GS (aa 5) (d7 (ao (aa 3) av) m.len)))
 (ay (aP 6 sc.nd (bu (az (aa 6) (az (cj (dJ (aa 1) aA) (aa 2)) aQ))))
 (aJ (aP 7 sc.nd (aa 4))))) bK)
 (ay (kE (aN (aa 7) (aa 5)) (cW (aY (aH 8 sc.nd) (aY (aH 9 sc.nd) cL))))
 (ay (aP 10 sc.nd (bU (ao (tR hr.units (ao (gJ (aa 9) (bu (az (aa 6) aQ))) av) m.sorted m.set) av) m.tuple))
 (ay (bT (JH hr.units (aa 6) (aa 9)) (aJ (aP 10 sc.nd (bU (ao (bY ["_law_one"] [6] (cQ (aa 9)) (fun _ _ _ _ _ hc=>⟨(aH 0 (cC rfl)),(iK (kD hr.units (aa 0) (aa 1))),(aa 0)⟩)) av) m.tuple))) bK)
 (ay (aP 7 sc.nd (gJ (gJ (zj (aa 7) tU (tV (aa 5))) (bu (az (bu (az (aa 8) (az (aa 10) aQ))) aQ))) (zj (aa 7) (tV (gJ (aa 5) aA)) tU)))
 (ay (bT (fE (gS kit_tuple pI m.tuple (aa 6) m.isinstance)) (aJ (a_ (bu (az (aa 2) (az (aa 3) (az (aa 7) aQ)))))) bK)
 (aJ (a_ (bu (az (aa 2) (az (aa 7) (az (aa 4) aQ)))))))))))))))))) (fun as r _ h=>h)
end
section
variable {P:Program}{w:World}{K:PySem.W.Frag}{mg:Str→Option Value}{base:Heap}{f:Addr}{fd:FuncData}
abbrev iL:Stmt:=top 31
theorem AJ:bw ["_law_script","_law_sizes","_law_first","_law_second","_law_marks","_law_names_here","_law_one","_law_way","_law_other"] ["_law_script","_law_sizes"] (au iL):=⟨rfl,rfl,rfl,by decide +kernel,rfl,by decide +kernel,by decide +kernel⟩
theorem yh (m:ff w K mg) (h_law_cell:bQ P w K mg base 1 2 "_law_cell" K51.bW) (h_law_names:bQ P w K mg base 1 2 "_law_names" K51.gj) (h_law_world:bQ P w K mg base 2 3 "_law_world" K51.eX) (h_law_order:bQ P w K mg base 1 2 "_law_order" K55.eW) (h_law_turned:bQ P w K mg base 1 2 "_law_turned" K55.d8) (h_law_flipped:bQ P w K mg base 1 2 "_law_flipped" K55.eG) (F:dB K "_law_two" "_law_two" iL f fd) (hm:mg "_law_two"=some (.ref f)):bQ P w K mg base 3 2 "_law_two" K55.ju:=
 have sc:=AJ
 bP (k:=2) (gB:=K55.s_) F hm sc (fun _ _ _ _ _ _ us hl=>match us,hl with | [_,_],_=>rfl) (fun cdv A outer s H E J T hr=>
 (ay (aP 2 sc.nd (aU h_law_cell hr (ao (aa 0) (ao aA av))))
 (ay (aP 3 sc.nd (aU h_law_cell hr (ao (aa 0) (ao aA av))))
 (ay (aP 4 sc.nd (aU h_law_names hr (ao (dJ (aa 3) aA) (ao (aN (dM (az aA (az aA (az aA (az aA aQ))))) (cj (aa 3) aA)) av))))
 (ay (jn 4 (aP 5 sc.nd (bu (az (aa 4) (az (aU h_law_names hr (ao (aU h_law_cell hr (ao (aa 0) (ao aA av))) (ao (aN (dM (az aA (az aA (az aA (az aA (az aA aQ)))))) (cj (dJ (aa 3) aA) aA)) av))) aQ)))))
 (ay (aP 6 sc.nd (aU h_law_world hr (ao (aa 5) (ao (aN (aa 1) (cj (aa 2) aA)) (ao (bY ["_law_k"] [0] (iA (bL (ao aA av) m.range)) (fun _ _ _ _ _ hc=>⟨(aH 0 (cC rfl)),bS,(aU h_law_cell hr (ao (aa 1) (ao (fW aA (aa 0)) av)))⟩)) av)))))
 (ay (aP 7 sc.nd (cj (dJ (aa 2) aA) aA))
 (ay (bT (oE hr.units (aa 7) aA) (aJ (a_ (bu (az (aa 6) (az (aU h_law_world hr (ao (aa 5) (ao (aN (aa 1) (cj (dJ (aa 2) aA) aA)) (ao (bY ["_law_k"] [0] (iA (bL (ao aA av) m.range)) (fun _ _ _ _ _ hc=>⟨(aH 0 (cC rfl)),bS,(aU h_law_cell hr (ao (aa 1) (ao (fW aA (aa 0)) av)))⟩)) av)))) aQ))))) bK)
 (ay (aP 8 sc.nd (aU h_law_turned hr (ao (aa 6) (ao (aU h_law_order hr (ao (aU h_law_cell hr (ao (aa 0) (ao aA av))) (ao (aN (aa 6) aA) av))) av))))
 (ay (bT (iJ uX (iZ fun _ _ _=>.bl _) (aa 7) aA) (aJ (aP 8 sc.nd (aU h_law_flipped hr (ao (aa 8) (ao (aU h_law_cell hr (ao (aa 0) (ao aA av))) av))))) bK)
 (ay (bT (oE hr.units (aa 7) aA) (aJ (aP 8 sc.nd (aU h_law_flipped hr (ao (aa 8) (ao (aU h_law_cell hr (ao (aa 0) (ao aA av))) av))))) bK)
 (aJ (a_ (bu (az (aa 6) (az (aa 8) aQ)))))))))))))))) (fun as r _ h=>h)
end
section
variable {P:Program}{w:World}{K:PySem.W.Frag}{mg:Str→Option Value}{base:Heap}{f:Addr}{fd:FuncData}
abbrev gw:Stmt:=top 32
theorem xB:bw ["_law_found"] ["_law_found"] (au gw):=⟨rfl,rfl,rfl,by decide +kernel,rfl,by decide +kernel,by decide +kernel⟩
theorem uu (m:ff w K mg) (F:dB K "_law_whole" "_law_whole" gw f fd) (hm:mg "_law_whole"=some (.ref f)):bQ P w K mg base 1 1 "_law_whole" K01.dW:=
 have sc:=xB
 bP (k:=0) (gB:=K01.n9) F hm sc (fun _ _ _ _ _ _ us hl=>match us,hl with | [_],_=>rfl) (fun cdv A outer s H E J T hr=>
 (aJ (a_ (o9 (gS y9 sV m.int (aa 0) m.isinstance) (nh (sI (gS wJ qq m.bool (aa 0) m.isinstance))))))) (fun as r _ h=>h)
end
section
variable {P:Program}{w:World}{K:PySem.W.Frag}{mg:Str→Option Value}{base:Heap}{f:Addr}{fd:FuncData}
abbrev fF:Stmt:=top 33
theorem uD:bw ["_law_many","_law_found","_law_k","_law_more","_law_order_here"] ["_law_many"] (au fF):=⟨rfl,rfl,rfl,by decide +kernel,rfl,by decide +kernel,by decide +kernel⟩
theorem rS (m:ff w K mg) (F:dB K "_law_orders" "_law_orders" fF f fd) (hm:mg "_law_orders"=some (.ref f)):bQ P w K mg base 1 1 "_law_orders" K23.iP:=
 have sc:=uD
 bP (k:=0) (gB:=K23.n5) F hm sc (fun _ _ _ _ _ _ us hl=>match us,hl with | [_],_=>rfl) (fun cdv A outer s H E J T hr=>
 (ay (jn 3 (aP 1 sc.nd (dM (az (bu aQ) aQ))))
 (ay (dQ (bL (ao (aa 0) av) m.range) (aH 2 sc.nd) (ay (aP 3 sc.nd (dM aQ))
 (ay (jn 1 (dQ (kF (aa 1)) (aH 4 sc.nd) (aJ (pT 3 (bY ["_law_p"] [4] (iA (bL (ao (aa 0) av) m.range)) (fun _ _ _ _ _ hc=>⟨(aH 0 (cC rfl)),(iK (Cm hr.units (aa 0) (aa 1))),(gJ (aa 1) (bu (az (aa 0) aQ)))⟩))))))
 (aJ (jn 3 (aP 1 sc.nd (aa 3)))))))
 (aJ (a_ (aa 1)))))) (fun as r _ h=>h)
end
section
variable {P:Program}{w:World}{K:PySem.W.Frag}{mg:Str→Option Value}{base:Heap}{f:Addr}{fd:FuncData}
abbrev gr:Stmt:=top 34
theorem xy:bw ["_law_script","_law_one","_law_other","_law_first","_law_order_here","_law_found","_law_k","_law_cell_here","_law_a","_law_b"] ["_law_script","_law_one","_law_other"] (au gr):=⟨rfl,rfl,rfl,by decide +kernel,rfl,by decide +kernel,by decide +kernel⟩
theorem uq (m:ff w K mg) (h_law_cell:bQ P w K mg base 1 2 "_law_cell" K51.bW) (h_law_order:bQ P w K mg base 1 2 "_law_order" K55.eW) (F:dB K "_law_pairs" "_law_pairs" gr f fd) (hm:mg "_law_pairs"=some (.ref f)):bQ P w K mg base 2 3 "_law_pairs" K23.h_:=
 have sc:=xy
 bP (k:=1) (gB:=K23.pN) F hm sc (fun _ _ _ _ _ _ us hl=>match us,hl with | [_,_,_],_=>rfl) (fun cdv A outer s H E J T hr=>
 (ay (aP 3 sc.nd (aU h_law_cell hr (ao (aa 0) (ao aA av))))
 (ay (aP 4 sc.nd (aU h_law_order hr (ao (aU h_law_cell hr (ao (aa 0) (ao aA av))) (ao (aN (aa 1) aA) av))))
 (ay (aP 5 sc.nd (dM aQ))
 (ay (dQ (bL (ao (cj (aa 3) aA) av) m.range) (aH 6 sc.nd) (ay (aP 7 sc.nd (aU h_law_cell hr (ao (aa 0) (ao (fW aA (aa 6)) av))))
 (ay (aP 8 sc.nd (cj (aa 7) (aN (aa 1) aA)))
 (ay (aP 9 sc.nd (cj (dJ (aa 7) aA) (aN (aa 2) aA)))
 (ay (bT (jl (sF (iJ uX (iZ fun _ _ _=>.bl _) (cj (dJ (aa 3) aA) aA) aA) (qa (iJ uY (iZ fun _ _ _=>.bl _) (aN (aa 4) (aa 8)) (aN (aa 2) aA))))) (aJ (aP 9 sc.nd (aN (aa 4) (aa 8)))) bK)
 (aJ (ic 5 (bu (az (aa 8) (az (aa 9) aQ))))))))))
 (aJ (a_ (bU (ao (aa 5) av) m.tuple)))))))) (fun as r _ h=>h)
end
section
variable {P:Program}{w:World}{K:PySem.W.Frag}{mg:Str→Option Value}{base:Heap}{f:Addr}{fd:FuncData}
abbrev gV:Stmt:=top 35
theorem yv:bw ["_law_one","_law_other","_law_pairs_here","_law_order_here"] ["_law_one","_law_other","_law_pairs_here","_law_order_here"] (au gV):=⟨rfl,rfl,rfl,by decide +kernel,rfl,by decide +kernel,by decide +kernel⟩
theorem vO (m:ff w K mg) (h_law_turned:bQ P w K mg base 1 2 "_law_turned" K55.d8) (F:dB K "_law_does" "_law_does" gV f fd) (hm:mg "_law_does"=some (.ref f)):bQ P w K mg base 2 4 "_law_does" K23.iO:=
 have sc:=yv
 bP (k:=1) (gB:=K23.qK) F hm sc (fun _ _ _ _ _ _ us hl=>match us,hl with | [_,_,_,_],_=>rfl) (fun cdv A outer s H E J T hr=>
 (aJ (a_ (o9 (sH (ao (bY ["_law_a","_law_b"] [3] (cQ (aa 2)) (fun _ _ _ _ _ hc=>⟨(cW (aY (aH 0 (cC rfl)) (aY (aH 1 (cC rfl)) cL))),bS,(oF hr.units (aN (aa 2) (aa 0)) (aa 1))⟩)) av) m.all) (nh (oF hr.units (aU h_law_turned hr (ao (aa 0) (ao (aa 3) av))) (aa 1))))))) (fun as r _ h=>h)
end
section
variable {P:Program}{w:World}{K:PySem.W.Frag}{mg:Str→Option Value}{base:Heap}{f:Addr}{fd:FuncData}
abbrev gu:Stmt:=top 36
theorem xA:bw ["_law_found","_law_one","_law_other","_law_pairs_here"] ["_law_found","_law_one","_law_other","_law_pairs_here"] (au gu):=⟨rfl,rfl,rfl,by decide +kernel,rfl,by decide +kernel,by decide +kernel⟩
theorem ur (m:ff w K mg) (h_law_orders:bQ P w K mg base 1 1 "_law_orders" K23.iP) (h_law_does:bQ P w K mg base 2 4 "_law_does" K23.iO) (h_law_whole:bQ P w K mg base 1 1 "_law_whole" K01.dW) (F:dB K "_law_right" "_law_right" gu f fd) (hm:mg "_law_right"=some (.ref f)):bQ P w K mg base 3 4 "_law_right" K23.dU:=
 have sc:=xA
 bP (k:=2) (gB:=K23.pO) F hm sc (fun _ _ _ _ _ _ us hl=>match us,hl with | [_,_,_,_],_=>rfl) (fun cdv A outer s H E J T hr=>
 (ay (bT (Ck (aa 0) lZ) (ay (bT (kD hr.units (aN (aa 1) aA) (aN (aa 2) aA)) (aJ (a_ jC)) bK)
 (aJ (a_ (sI (GP (ao (bY ["_law_order_here"] [1,2,3] (cQ (aU h_law_orders hr (ao (aN (aa 1) aA) av))) (fun _ _ _ _ _ hc=>⟨(aH 0 (cC rfl)),bS,(aU h_law_does hr (ao (aa 1) (ao (aa 2) (ao (aa 3) (ao (aa 0) av)))))⟩)) av) m.any))))) bK)
 (ay (bT (jl (lY (jm (fE (gS kit_tuple pI m.tuple (aa 0) m.isinstance))) (lY (kD hr.units (d7 (ao (aa 0) av) m.len) (aN (aa 1) aA)) (o8 (kD hr.units (aN (aa 1) aA) (aN (aa 2) aA)))))) (aJ (a_ jC)) bK)
 (ay (bT (jl (lY (jm (fE (sH (ao (bY ["_law_p"] [1] (cQ (aa 0)) (fun _ _ _ _ _ hc=>⟨(aH 0 (cC rfl)),bS,(o9 (aU h_law_whole hr (ao (aa 0) av)) (nh (JI KJ uY aA (aa 0) (aN (aa 1) aA))))⟩)) av) m.all))) (o8 (kD hr.units (Ed (ao (aa 0) av) m.len m.set) (d7 (ao (aa 0) av) m.len))))) (aJ (a_ jC)) bK)
 (aJ (a_ (aU h_law_does hr (ao (aa 1) (ao (aa 2) (ao (aa 3) (ao (aa 0) av))))))))))) (fun as r _ h=>h)
end
section
variable {P:Program}{w:World}{K:PySem.W.Frag}{mg:Str→Option Value}{base:Heap}{f:Addr}{fd:FuncData}
abbrev nt:Stmt:=top 37
theorem La:bw ["_law_script","_law_one","_law_other","_law_pairs_here"] ["_law_script"] (au nt):=⟨rfl,rfl,rfl,by decide +kernel,rfl,by decide +kernel,by decide +kernel⟩
theorem KH (m:ff w K mg) (h_law_two:bQ P w K mg base 3 2 "_law_two" K55.ju) (h_law_pairs:bQ P w K mg base 2 3 "_law_pairs" K23.h_) (hturning:CN P w K mg base 5 3 "turning" K23.c_) (h_law_right:bQ P w K mg base 3 4 "_law_right" K23.dU) (hdturning:CM P w K mg base 5 2 "turning" K23.c_) (F:dB K "law" "law" nt f fd):eY P w K mg base nC 6 f fd ["_law_script"] (rB K 1 K23.rM):=
 have sc:=La
 GL (k:=5) (gB:=K23.HR) F sc (fun cdv A outer s H E J T hr=>
 (ay (kE (aU h_law_two hr (ao (aa 0) (ao (dM (az aA (az aA (az aA (az aA (az aA (az aA (az aA (az aA aQ))))))))) av))) (cW (aY (aH 1 sc.nd) (aY (aH 2 sc.nd) cL))))
 (ay (aP 3 sc.nd (aU h_law_pairs hr (ao (aa 0) (ao (aa 1) (ao (aa 2) av)))))
 (ay (bT (jm (fE (aU h_law_right hr (ao (w_ hturning hr (ao (aa 1) (ao (aa 2) (ao (aa 3) av)))) (ao (aa 1) (ao (aa 2) (ao (aa 3) av))))))) (aJ (a_ jC)) bK)
 (ay (bT (jm (fE (aU h_law_right hr (ao (w_ hturning hr (ao (aa 1) (ao (aa 2) (ao lZ av)))) (ao (aa 1) (ao (aa 2) (ao (bu aQ) av))))))) (aJ (a_ jC)) bK)
 (aJ (a_ (aU h_law_right hr (ao (Ec hdturning hr (ao (aa 1) (ao (aa 2) av))) (ao (aa 1) (ao (aa 2) (ao (bu aQ) av)))))))))))) (fun as r _ h=>h)
end
end K23
namespace K23
open PySem DL K01 WP K51 K52 K55
section
variable {α β:Type}
theorem EG {gts:G Bool}{act:Ev→M (List D×Ev)}{h':β→D}{a0:Option S}{rest:Ev}(p:β→Bool) (f:β→D):∀(ys:List β),(∀y∈ys,gts (a0::some (.d (h' y))::rest)=.ok (p y)∧(p y=true→act (a0::some (.d (h' y))::rest)=.ok ([f y],a0::some (.d (h' y))::rest)))→
  ∀z:Option S,∃z',bZ (aC 1) gts act (ys.map h') (a0::z::rest)=.ok ((ys.filter p).map f,a0::z'::rest)
 | [],_,z=>⟨z,rfl⟩
 | y::ys,H,z=>by
  obtain ⟨h1,h2⟩:=H y List.mem_cons_self
  obtain ⟨z',ih⟩:=EG p f ys (fun y hy=>H y (List.mem_cons_of_mem _ hy)) (some (.d (h' y)))
  refine ⟨z',?_⟩
  rw [List.map_cons]
  unfold bZ
  show (gts (a0::some (.d (h' y))::rest) >>= fun k=>if k=true then act (a0::some (.d (h' y))::rest) >>= fun r=>bZ (aC 1) gts act (ys.map h') r.2 >>= fun z=>.ok (r.1++z.1,z.2) else bZ (aC 1) gts act (ys.map h') (a0::some (.d (h' y))::rest))=_
  rw [h1,aT]
  cases q:p y with
  | true=>
   rw [if_pos rfl,h2 q,aT]
   show (bZ (aC 1) gts act (ys.map h') (a0::some (.d (h' y))::rest) >>= _)=_
   rw [ih,aT,List.filter_cons_of_pos q]
   rfl
  | false=>
   rw [if_neg (by decide),ih,List.filter_cons_of_neg (by simp [q])]
theorem Bm {gi1:G (List D)}{gts:G Bool}{act:Ev→M (List D×Ev)}{h:α→D}{h':β→D}{rest:Ev}(ys:α→List β) (p:α→β→Bool) (f:α→β→D):∀(xs:List α),(∀x∈xs,(ys x).length≤1000∧(∀z:Option S,gi1 (some (.d (h x))::z::rest)=.ok ((ys x).map h'))∧∀y∈ys x,gts (some (.d (h x))::some (.d (h' y))::rest)=.ok (p x y)∧(p x y=true→act (some (.d (h x))::some (.d (h' y))::rest)=.ok ([f x y],some (.d (h x))::some (.d (h' y))::rest)))→
  ∀z0 z:Option S,∃z0' z',bZ (aC 0) cU (iW gi1 (aC 1) gts act) (xs.map h) (z0::z::rest)=.ok (xs.flatMap fun x=>((ys x).filter (p x)).map (f x),z0'::z'::rest)
 | [],_,z0,z=>⟨z0,z,rfl⟩
 | x::xs,H,z0,z=>by
  obtain ⟨h1,h2,h3⟩:=H x List.mem_cons_self
  obtain ⟨z1,e1⟩:=EG (a0:=some (.d (h x))) (p x) (f x) (ys x) h3 z
  obtain ⟨z0',z',ih⟩:=Bm ys p f xs (fun y hy=>H y (List.mem_cons_of_mem _ hy)) (some (.d (h x))) z1
  refine ⟨z0',z',?_⟩
  rw [List.map_cons]
  unfold bZ
  show (iW gi1 (aC 1) gts act (some (.d (h x))::z::rest) >>= _)=_
  unfold iW
  rw [h2 z,aT,if_pos (by rw [List.length_map];exact h1),e1,aT]
  show (bZ (aC 0) cU (iW gi1 (aC 1) gts act) (xs.map h) (some (.d (h x))::z1::rest) >>= _)=_
  rw [ih]
  rfl
theorem zV {env:Ev}{cap:List Nat}{gi0 gi1:G (List D)}{gts:G Bool}{act:Ev→M (List D×Ev)}{fin:List D→M R}{h:α→D}{h':β→D}{xs:List α}(ys:α→List β) (p:α→β→Bool) (f:α→β→D) (hi:gi0 env=.ok (xs.map h)) (hl:xs.length≤10000)
  (H:∀x∈xs,(ys x).length≤1000∧(∀z:Option S,gi1 (some (.d (h x))::z::cE 0 cap env)=.ok ((ys x).map h'))∧∀y∈ys x,gts (some (.d (h x))::some (.d (h' y))::cE 0 cap env)=.ok (p x y)∧(p x y=true→act (some (.d (h x))::some (.d (h' y))::cE 0 cap env)=.ok ([f x y],some (.d (h x))::some (.d (h' y))::cE 0 cap env))):
  kq 10000 2 cap gi0 (aC 0) cU (iW gi1 (aC 1) gts act) fin env=fin (xs.flatMap fun x=>((ys x).filter (p x)).map (f x)):=by
 unfold kq
 rw [hi,aT,if_pos (by rw [List.length_map];exact hl)]
 obtain ⟨z0',z',e⟩:=Bm ys p f xs H none none
 show (bZ (aC 0) cU (iW gi1 (aC 1) gts act) (xs.map h) (none::none::cE 0 cap env) >>= _)=_
 rw [e]
 rfl
theorem yH {ge:G R}{env:Ev}{r:R}{d:D}(h:ge env=.ok r) (h2:toD r=.ok d):gF ge env=.ok ([d],env):=by
 unfold gF
 rw [h,aT,h2]
 rfl
theorem E5 {gk gv:G R}{env:Ev}{r r2:R}{k d:D}(h:gk env=.ok r) (h2:toD r=.ok k) (h3:gv env=.ok r2) (h4:toD r2=.ok d) (ok:i8 k=true):zH gk gv env=.ok ([.tup [k,d]],env):=by
 unfold zH
 rw [h,aT,h2,aT,h3,aT,h4,aT,if_pos ok]
end
def eF (u:Wd) (a c:Nat):D:=.tup [.bl (bq (dN a) (dN c)),.tup (u.ms.map fun r=>.bl (inD (dN a) (r.2.map dN))),.tup (u.ar.map fun r=>.bl (inD (dP (a,c)) (r.2.map dP)))]
theorem Hi (u:Wd) (hu:lI u) (a c:Nat):uL [.d u.d,.d (dN a),.d (dN c)]=.ok (.d (eF u a c)):=by
 have ml:=hu.ml
 have al:=hu.al
 refine dR (ri rfl rfl rfl ?_)
 refine bD (n1 (jO (xs:=u.ms) (fun r=>.str r.1) (fun r=>.tup (r.2.map dN)) (fun r=>.bl (inD (dN a) (r.2.map dN))) rfl (by omega) fun r _=>⟨_,two rfl rfl (LK a r.2),rfl⟩) rfl) rfl ?_
 refine bD (n1 (jO (xs:=u.ar) (fun r=>.str r.1) (fun r=>.tup (r.2.map dP)) (fun r=>.bl (inD (dP (a,c)) (r.2.map dP))) rfl (by omega) fun r _=>⟨_,two (bE (aL rfl rfl (aL rfl rfl bz)) t2) rfl (HV (a,c) r.2),rfl⟩) rfl) rfl ?_
 exact b8 (bE (aL rfl rfl (aL rfl rfl (aL rfl rfl bz))) (by show 3≤1000;decide)) rfl rfl
def gA (m n:Nat):List (Nat×Nat):=(List.range m).flatMap fun a=>(List.range n).map fun b=>(a,b)
theorem p7 {m n:Nat}{p:Nat×Nat}:p∈gA m n↔p.1 < m∧p.2 < n:=by
 unfold gA
 simp only [List.mem_flatMap,List.mem_range,List.mem_map]
 constructor
 ·rintro ⟨a,ha,b,hb,rfl⟩;exact ⟨ha,hb⟩
 ·rintro ⟨h1,h2⟩;exact ⟨p.1,h1,p.2,h2,rfl⟩
theorem Am (m n:Nat):(gA m n).Nodup:=by
 unfold gA
 refine List.pairwise_flatMap.mpr ⟨fun a _=>List.pairwise_map.mpr (List.Pairwise.imp (fun h e=>h (by cases e;rfl)) (List.nodup_range (n:=n))),?_⟩
 refine List.Pairwise.imp ?_ (List.nodup_range (n:=m))
 intro a b hab p h1 q h2 e
 subst e
 obtain ⟨x,_,rfl⟩:=List.mem_map.mp h1
 obtain ⟨y,_,e⟩:=List.mem_map.mp h2
 cases e
 exact hab rfl
theorem Du (m n:Nat):(gA m n).length=m * n:=by
 induction m with
 | zero=>simp [gA]
 | succ m ih=>
  unfold gA at ih ⊢
  rw [List.range_succ,List.flatMap_append,List.length_append,ih,Nat.add_mul]
  simp
theorem FL {ks vs:List D}{k:D}(h:∀x∈ks,bq x k=false):kR ks vs k=none:=by
 induction ks generalizing vs with
 | nil=>cases vs <;> rfl
 | cons x ks ih=>
  cases vs with
  | nil=>rfl
  | cons v vs=>
   unfold kR
   rw [h x List.mem_cons_self,if_neg (by decide)]
   exact ih fun y hy=>h y (List.mem_cons_of_mem _ hy)
theorem sX (f:Nat×Nat→D):∀(n:Nat) (ps:List (Nat×Nat)),ps.length=n→ps.Nodup→dD (ps.map fun p=>D.tup [dP p,f p])=(ps.map dP,ps.map f)
 | 0,ps,h,_=>by
  have:=List.length_eq_zero_iff.mp h
  subst this
  rfl
 | n + 1,ps,h,nd=>by
  rcases List.eq_nil_or_concat ps with rfl | ⟨qs,p,rfl⟩
  ·cases h
  ·rw [List.concat_eq_append] at h nd ⊢
   have nd':=List.nodup_append.mp nd
   have ih:=sX f n qs (by simpa using h) nd'.1
   have hn:kR (qs.map dP) (qs.map f) (dP p)=none:=FL fun x hx=>by
    obtain ⟨q,hq,rfl⟩:=List.mem_map.mp hx
    rw [Bv,decide_eq_false_iff_not]
    rintro rfl
    exact nd'.2.2 q hq q List.mem_cons_self rfl
   rw [List.map_append,List.map_singleton,iy,ih]
   unfold dput
   rw [hn]
   simp
abbrev gY (u:Wd):List D:=(gA u.m u.m).map dP
abbrev gZ (u:Wd):List D:=(gA u.m u.m).map fun p=>eF u p.1 p.2
theorem yz (u:Wd) (hu:lI u):nO [.d u.d]=.ok (.d (.dct (gY u) (gZ u))):=by
 have hi:=hu.hi
 refine dR (b8 (r:=.d (.dct (gY u) (gZ u))) ?_ rfl rfl)
 refine (zV (xs:=List.range u.m) (h:=dN) (h':=dN) (fun _=>List.range u.m) (fun _ _=>true) (fun a b=>.tup [dP (a,b),eF u a b]) ?_ (by simp;omega) fun a _=>⟨by simp;omega,fun z=>?_,fun b _=>⟨rfl,fun _=>E5 (bE (aL rfl rfl (aL rfl rfl bz)) t2) rfl (c3 rfl rfl rfl (Hi u hu a b)) rfl rfl⟩⟩).trans ?_
 ·exact nj (iI (two rfl rfl (fN _ _))) (by omega)
 ·exact nj (iI (two rfl rfl (fN _ _))) (by omega)
 ·have ef:(List.range u.m).filter (fun _=>true)=List.range u.m:=List.filter_eq_self.mpr fun _ _=>rfl
  have e:((List.range u.m).flatMap fun a=>((List.range u.m).filter fun _=>true).map fun b=>D.tup [dP (a,b),eF u a b])=(gA u.m u.m).map fun p=>D.tup [dP p,eF u p.1 p.2]:=by
   rw [ef]
   unfold gA
   rw [List.map_flatMap]
   simp [List.map_map,Function.comp_def]
  rw [e]
  have h:=sX (fun p=>eF u p.1 p.2) _ (gA u.m u.m) rfl (Am _ _)
  show M.ok (R.d (.dct (dD ((gA u.m u.m).map fun p=>D.tup [dP p,eF u p.1 p.2])).1 (dD ((gA u.m u.m).map fun p=>D.tup [dP p,eF u p.1 p.2])).2))=_
  rw [h]
theorem zb (u:Wd):∀(ps:List (Nat×Nat)) (p:Nat×Nat),p∈ps→kR (ps.map dP) (ps.map fun p=>eF u p.1 p.2) (dP p)=some (eF u p.1 p.2)
 | q::ps,p,h=>by
  rw [List.map_cons,List.map_cons]
  unfold kR
  by_cases c:q=p
  ·subst c
   rw [if_pos (by rw [Bv];simp)]
  ·rw [if_neg (by rw [Bv];simpa using c)]
   rcases List.mem_cons.mp h with e | e
   ·exact absurd e.symm c
   ·exact zb u ps p e
theorem v5 (u:Wd) (a c:Nat) (ha:a < u.m) (hc:c < u.m):r_ (.d (.dct (gY u) (gZ u))) (.d (dP (a,c)))=.ok (.d (eF u a c)):=by
 show (if i8 (dP (a,c))=true then (match kR (gY u) (gZ u) (dP (a,c)) with
  | some d=>M.ok (R.d d)
  | none=>.bad) else .bad)=_
 rw [if_pos (show i8 (dP (a,c))=true from rfl),zb u (gA u.m u.m) (a,c) (p7.mpr ⟨ha,hc⟩)]
theorem xW (u:Wd) (a c:Nat):dep (eF u a c)≤60:=by
 have h1:deps (u.ms.map fun r=>D.bl (inD (dN a) (r.2.map dN)))≤0:=iG fun x hx=>by obtain ⟨r,_,rfl⟩:=List.mem_map.mp hx;exact Nat.zero_le _
 have h2:deps (u.ar.map fun r=>D.bl (inD (dP (a,c)) (r.2.map dP)))≤0:=iG fun x hx=>by obtain ⟨r,_,rfl⟩:=List.mem_map.mp hx;exact Nat.zero_le _
 unfold eF
 simp only [dep,deps]
 omega
def je (v w:Wd) (p q:Nat×Nat):Bool:=bq (eF v p.1 q.1) (eF w p.2 q.2)
def lD (v w:Wd) (p:Nat×Nat):Prop:=p.1 < v.m∧p.2 < w.m
theorem rK (v w:Wd) (p q:Nat×Nat) (hp:lD v w p) (hq:lD v w q):eN [.d (.dct (gY v) (gZ v)),.d (.dct (gY w) (gZ w)),.d (dP p),.d (dP q)]=.ok (.d (.bl (je v w p q))):=by
 refine dR (b8 (two (x:=.d (eF v p.1 q.1)) (y:=.d (eF w p.2 q.2)) (two rfl (bE (aL (two rfl rfl (fN _ _)) rfl (aL (two rfl rfl (fN _ _)) rfl bz)) t2) (v5 v p.1 q.1 hp.1 hq.1)) (two rfl (bE (aL (two rfl rfl (Ia _ _ _)) rfl (aL (two rfl rfl (Ia _ _ _)) rfl bz)) t2) (v5 w p.2 q.2 hp.2 hq.2)) (uS _ _ _ (xW v p.1 q.1) (xW w p.2 q.2))) rfl rfl)
def pS (p q:Nat×Nat):Bool:=lexLe [p.1,p.2] [q.1,q.2]
theorem Mp (p q:Nat×Nat):sd (.d (dP p)) (.d (dP q))=.ok (.d (.bl (pS p q))):=rfl
def gb (v w:Wd) (ps:List (Nat×Nat)) (q:Nat×Nat):Bool:=(match ps.getLast? with
 | some l=>!pS q l
 | none=>true) && ps.all fun r=>je v w q r && je v w r q
theorem xS {env:Ev}{g:G R}{b:Bool}(h:g env=.ok (.d (.bl b))):bx g env=.ok b:=by
 show (g env >>= _)=_
 rw [h]
 rfl
theorem sN {env:Ev}{g:G R}{b:Bool}(h:g env=.ok (nZ (.d (.bl b)))):bx g env=.ok b:=xS h
theorem dS {env:Ev}{f:R→R→M R}{g h:G R}{x y:R}{b:Bool}(hx:g env=.ok x) (hy:h env=.ok y) (hf:f x y=.ok (.d (.bl b))):bx (g2 f g h) env=.ok b:=xS (two hx hy hf)
theorem o5 {env:Ev}{g:G Bool}{b:Bool}(h:g env=.ok b):g7 g env=.ok (!b):=by
 show (g env >>= _)=_
 rw [h]
 rfl
theorem vG {env:Ev}{a b:G Bool}(h:a env=.ok false):ji a b env=.ok false:=by
 unfold ji
 rw [h]
 rfl
theorem rP {env:Ev}{a b:G Bool}{k:Bool}(h:a env=.ok true) (h2:b env=.ok k):ji a b env=.ok k:=by
 unfold ji
 rw [h]
 exact h2
theorem IF {env:Ev}{a b:G Bool}{x y:Bool}(h:a env=.ok (!x)) (h2:b env=.ok (!y)):kr a b env=.ok (!(x && y)):=by
 unfold kr
 rw [h]
 cases x with
 | true=>exact h2
 | false=>rfl
theorem Lz (v w:Wd) (ps:List (Nat×Nat)) (q:Nat×Nat) (hp:∀p∈ps,lD v w p) (hq:lD v w q):iQ [.d (.dct (gY v) (gZ v)),.d (.dct (gY w) (gZ w)),.d (.tup (ps.map dP)),.d (dP q)]=.ok (.d (.bl (gb v w ps q))):=by
 have loop:(match ps.getLast? with
   | some l=>!pS q l
   | none=>true)=true→Wp (aO (eZ (lg (af 2)) (aC 4) (bR (kr (g7 (bx (gN (aS 4 K23.eN) (aq (af 0) (aq (af 1) (aq (af 3) (aq (af 4) aD))))))) (g7 (bx (gN (aS 4 K23.eN) (aq (af 0) (aq (af 1) (aq (af 4) (aq (af 3) aD)))))))) (bM (gC (.bl false))) dG))
 (bM (gC (.bl true))) [some (.d (.dct (gY v) (gZ v))),some (.d (.dct (gY w) (gZ w))),some (.d (.tup (ps.map dP))),some (.d (dP q)),none]) (·=.rt (.d (.bl (gb v w ps q)))):=by
  intro hl
  refine jt (ds:=ps.map dP) rfl ?_
  have key:∀(rs:List (Nat×Nat)),(∀p∈rs,lD v w p)→∀x:Option S,Wp (fj (aC 4) (bR (kr (g7 (bx (gN (aS 4 K23.eN) (aq (af 0) (aq (af 1) (aq (af 3) (aq (af 4) aD))))))) (g7 (bx (gN (aS 4 K23.eN) (aq (af 0) (aq (af 1) (aq (af 4) (aq (af 3) aD)))))))) (bM (gC (.bl false))) dG) (rs.map dP) [some (.d (.dct (gY v) (gZ v))),some (.d (.dct (gY w) (gZ w))),some (.d (.tup (ps.map dP))),some (.d (dP q)),x])
    (fun o=>((∃e,o=.nx e)∧(rs.all fun r=>je v w q r && je v w r q)=true)∨(o=.rt (.d (.bl false))∧(rs.all fun r=>je v w q r && je v w r q)=false)):=by
   intro rs
   induction rs with
   | nil=>intro _ x;exact ⟨_,rfl,.inl ⟨⟨_,rfl⟩,rfl⟩⟩
   | cons r rs ih=>
    intro hr x
    have h1:=rK v w q r hq (hr r List.mem_cons_self)
    have h2:=rK v w r q (hr r List.mem_cons_self) hq
    have ht:(kr (g7 (bx (gN (aS 4 K23.eN) (aq (af 0) (aq (af 1) (aq (af 3) (aq (af 4) aD))))))) (g7 (bx (gN (aS 4 K23.eN) (aq (af 0) (aq (af 1) (aq (af 4) (aq (af 3) aD)))))))) [some (.d (.dct (gY v) (gZ v))),some (.d (.dct (gY w) (gZ w))),some (.d (.tup (ps.map dP))),some (.d (dP q)),some (.d (dP r))]=.ok (!(je v w q r && je v w r q)):=IF (o5 (sN (c4 rfl rfl rfl rfl h1))) (o5 (sN (c4 rfl rfl rfl rfl h2)))
    rw [List.map_cons,List.all_cons]
    unfold fj
    show Wp ((bR _ _ _ [some (.d (.dct (gY v) (gZ v))),some (.d (.dct (gY w) (gZ w))),some (.d (.tup (ps.map dP))),some (.d (dP q)),some (.d (dP r))]) >>= _) _
    cases hc:(je v w q r && je v w r q) with
    | true=>
     rw [hc] at ht
     rw [qO ht]
     exact ih (fun p hp=>hr p (List.mem_cons_of_mem _ hp)) _
    | false=>
     rw [hc] at ht
     rw [sq ht]
     exact ⟨_,rfl,.inr ⟨rfl,rfl⟩⟩
  refine (key ps hp none).mono ?_
  rintro o (⟨⟨e,rfl⟩,h⟩ | ⟨rfl,h⟩)
  ·refine b8 rfl rfl ?_
   unfold gb
   rw [hl,h]
   rfl
  ·show O.rt _=_
   unfold gb
   rw [h,Bool.and_false]
 refine dR ?_
 cases q':ps.getLast? with
 | none=>
  have:ps=[]:=List.getLast?_eq_none_iff.mp q'
  subst this
  exact cZ (vG rfl) (loop rfl)
 | some l=>
  obtain ⟨rs,rfl⟩:∃rs,ps=rs++[l]:=by
   rcases List.eq_nil_or_concat ps with rfl | ⟨ys,y,rfl⟩
   ·cases q'
   ·rw [List.concat_eq_append] at q' ⊢
    rw [List.getLast?_concat] at q'
    cases q'
    exact ⟨ys,rfl⟩
  have hix:bf (.d (.tup ((rs++[l]).map dP))) (.d (.int (-1)))=.ok (.d (dP l)):=by rw [List.map_append];exact FA _ _
  have ht:ji (se (af 2)) (bx (g2 sd (af 3) (g2 bf (af 2) (Ac (gC (.int 1)))))) [some (.d (.dct (gY v) (gZ v))),some (.d (.dct (gY w) (gZ w))),some (.d (.tup ((rs++[l]).map dP))),some (.d (dP q)),none]=.ok (pS q l):=by
   refine rP ?_ (xS (two rfl (two rfl rfl hix) (Mp q l)))
   show M.ok (!((rs++[l]).map dP).isEmpty)=_
   simp
  cases hc:pS q l with
  | true=>
   rw [hc] at ht
   refine cI (gR ht (b8 rfl rfl ?_))
   show O.rt _=_
   unfold gb
   rw [q']
   simp [hc]
  | false=>
   rw [hc] at ht
   exact cZ ht (loop (by rw [q'];simp [hc]))
section
variable {env:Ev}{Q:O→Prop}{g:G R}{t:G O}{r:R}{i:Nat}
theorem EM {xs ys:List D}(h0:env[i]?=some (some (.own xs))) (h:g env=.ok r) (h2:iX r=.ok ys) (hl:xs.length + ys.length≤16777216) (k:Q (.nx (env.set i (some (.own (xs++ys)))))):Wp (mV i g env) Q:=by
 refine ⟨_,?_,k⟩
 unfold mV
 rw [h0]
 show (g env >>= _)=_
 rw [h,aT,h2,aT,if_pos (by rw [sizeLine_eq];exact hl)]
theorem Io (h:g env=.ok r) (k:Q (.nx env)):Wp (jQ g env) Q:=⟨.nx env,by show (g env >>= _)=_;rw [h];rfl,k⟩
theorem CI {d:D}(h:env[i]?=some (some (.d d))) (k:Wp (t env) Q):Wp (fU i t env) Q:=by
 have:fU i t env=t env:=by unfold fU;rw [h]
 rw [this];exact k
theorem Ko (h:env[i]?=some none) (k:Wp (t env) Q):Wp (fU i t env) Q:=by
 have:fU i t env=t env:=by unfold fU;rw [h]
 rw [this];exact k
end
structure Pr (v w:Wd):Prop where
 vo:lI v
 wo:lI w
 v4:v.m≤4
 w4:w.m≤4
 mn:v.ms.map Prod.fst=w.ms.map Prod.fst
 an:v.ar.map Prod.fst=w.ar.map Prod.fst
def jo (u:Wd):D:=.tup [.tup ((u.ms.map Prod.fst).map .str),.tup ((u.ar.map Prod.fst).map .str)]
theorem ve (u:Wd) (hu:lI u):iS [.d u.d]=.ok (.d (jo u)):=by
 have ml:=hu.ml
 have al:=hu.al
 refine dR (ri rfl rfl rfl (b8 (bE (aL (n1 (jO (xs:=u.ms) (fun r=>.str r.1) (fun r=>.tup (r.2.map dN)) (fun r=>.str r.1) rfl (by omega) fun r _=>⟨_,rfl,rfl⟩) rfl) rfl (aL (n1 (jO (xs:=u.ar) (fun r=>.str r.1) (fun r=>.tup (r.2.map dP)) (fun r=>.str r.1) rfl (by omega) fun r _=>⟨_,rfl,rfl⟩) rfl) rfl bz)) t2) rfl ?_))
 unfold jo
 rw [List.map_map,List.map_map]
 rfl
theorem zp (u:Wd):dep (jo u)≤60:=by
 have h:∀ss:List Str,deps (ss.map D.str)≤0:=fun ss=>iG fun x hx=>by obtain ⟨r,_,rfl⟩:=List.mem_map.mp hx;exact Nat.zero_le _
 have h1:=h (u.ms.map Prod.fst)
 have h2:=h (u.ar.map Prod.fst)
 unfold jo
 simp only [dep,deps]
 omega
theorem rL {v w:Wd}(t:Pr v w):gm [.d v.d,.d w.d]=.ok (.d .non):=by
 have ht:iR [.d v.d,.d w.d]=.ok (.d .non):=by
  refine rJ (wK (dS (b:=false) (c1 rfl (ve v t.vo)) (c1 rfl (ve w t.wo)) ?_) (om ⟨_,rfl⟩))
  show cM true (.d (jo v)) (.d (jo w))=_
  rw [uS true (.d (jo v)) (.d (jo w)) (zp v) (zp w)]
  have e:jo v=jo w:=by unfold jo;rw [t.mn,t.an]
  show M.ok (R.d (.bl (!bq (jo v) (jo w))))=_
  rw [e,fS]
  rfl
 have hf:fP [.d (.tup [v.d,w.d])]=.ok (.d .non):=by
  have v4:=t.v4
  have w4:=t.w4
  have one:∀(u:Wd),u.m≤4→bx (g2 (jM fun i j=>.bl (decide (j < i))) (g2 bf (af 1) (gC (.int 0))) (gC (.int 4))) [some (.d (.tup [v.d,w.d])),some (.d u.d)]=.ok false:=fun u hu=>by
   refine dS (two rfl rfl (fN _ _)) rfl ?_
   show M.ok (R.d (.bl (decide ((4:Int) < (u.m:Int)))))=_
   rw [decide_eq_false (by omega)]
  refine rJ (Ah (ds:=[v.d,w.d]) rfl (xX (fun k env=>∃x,env=[some (.d (.tup [v.d,w.d])),x]) [v.d,w.d] ⟨none,rfl⟩ ?_ fun e _=>⟨e,rfl⟩))
  rintro k hk _ ⟨x,rfl⟩
  match k,hk with
  | 0,_=>exact ⟨_,rfl,wK (one v v4) (om ⟨_,rfl,_,rfl⟩)⟩
  | 1,_=>exact ⟨_,rfl,wK (one w w4) (om ⟨_,rfl,_,rfl⟩)⟩
 refine rJ (lK (c2 rfl rfl ht) ?_)
 exact Io (c1 (bE (aL rfl rfl (aL rfl rfl bz)) t2) hf) ⟨_,rfl⟩
theorem Kp (d:Nat) (hd:d≤4):K55.jq [.d (.int d),.d (.int 0),.d (.int 4)]=.ok (.d .non):=by
 refine rJ (wK ?_ (om ⟨_,rfl⟩))
 show (if decide ((d:Int) < 0)=true then M.ok true else M.ok (decide ((4:Int) < d)))=M.ok false
 rw [decide_eq_false (show ¬(d:Int) < 0 by omega),decide_eq_false (show ¬(4:Int) < d by omega)]
 rfl
def prs (v w:Wd):List (Nat×Nat):=(gA v.m w.m).filter fun p=>je v w p p
def LG (v w:Wd):Nat→List (List (Nat×Nat))
 | 0=>[[]]
 | j + 1=>(LG v w j).flatMap fun ah=>((prs v w).filter (gb v w ah)).map fun q=>ah++[q]
def told (v w:Wd):Nat→List (List (Nat×Nat))
 | 0=>[[]]
 | j + 1=>told v w j++LG v w (j + 1)
abbrev dg (ps:List (Nat×Nat)):D:=.tup (ps.map dP)
theorem Cg {v w:Wd}{p:Nat×Nat}(h:p∈prs v w):lD v w p:=p7.mp (List.mem_filter.mp h).1
theorem o6 {v w:Wd}(t:Pr v w):(prs v w).length≤16:=by
 have h1:=List.length_filter_le (fun p=>je v w p p) (gA v.m w.m)
 rw [Du] at h1
 have h2:=Nat.mul_le_mul t.v4 t.w4
 unfold prs
 omega
theorem uM {v w:Wd}:∀(j:Nat){ps:List (Nat×Nat)},ps∈LG v w j→ps.length=j∧∀p∈ps,lD v w p
 | 0,ps,h=>by
  rw [show ps=[] from List.mem_singleton.mp h]
  exact ⟨rfl,fun _ h=>by cases h⟩
 | j + 1,ps,h=>by
  obtain ⟨ah,h1,h2⟩:=List.mem_flatMap.mp h
  obtain ⟨q,h3,rfl⟩:=List.mem_map.mp h2
  obtain ⟨l,k⟩:=uM j h1
  refine ⟨by rw [List.length_append,l];rfl,fun p hp=>?_⟩
  rcases List.mem_append.mp hp with h | h
  ·exact k p h
  ·rw [List.mem_singleton.mp h];exact Cg (List.mem_filter.mp h3).1
theorem mU {α β:Type}(f:α→List β) (n:Nat):∀(xs:List α),(∀x∈xs,(f x).length≤n)→(xs.flatMap f).length≤xs.length * n
 | [],_=>by simp
 | x::xs,h=>by
  have h1:=h x List.mem_cons_self
  have h2:=mU f n xs fun y hy=>h y (List.mem_cons_of_mem _ hy)
  rw [List.flatMap_cons,List.length_append,List.length_cons,Nat.add_mul]
  omega
theorem qe {v w:Wd}(t:Pr v w):∀j,(LG v w j).length≤16 ^ j
 | 0=>Nat.le_refl _
 | j + 1=>by
  have h:=mU (fun ah=>((prs v w).filter (gb v w ah)).map fun q=>ah++[q]) 16 (LG v w j) fun ah _=>by
   rw [List.length_map]
   exact Nat.le_trans (List.length_filter_le _ _) (o6 t)
  have h2:=Nat.mul_le_mul_right 16 (qe t j)
  rw [Nat.pow_succ]
  exact Nat.le_trans h h2
theorem xR {v w:Wd}(t:Pr v w):∀j,j≤4→(told v w j).length≤(j + 1) * 65536
 | 0,_=>by show 1≤_;omega
 | j + 1,h=>by
  have h1:=xR t j (by omega)
  have h2:=qe t (j + 1)
  have h3:(16:Nat) ^ (j + 1)≤16 ^ 4:=Nat.pow_le_pow_right (by decide) h
  have h4:(16:Nat) ^ 4=65536:=by decide
  show (told v w j++LG v w (j + 1)).length≤_
  rw [List.length_append]
  omega
theorem pq {v w:Wd}:∀(n:Nat){ps:List (Nat×Nat)},ps∈told v w n↔∃j,j≤n∧ps∈LG v w j
 | 0,ps=>by
  constructor
  ·exact fun h=>⟨0,Nat.le_refl _,h⟩
  ·rintro ⟨j,hj,h⟩
   have:j=0:=by omega
   subst this
   exact h
 | n + 1,ps=>by
  show ps∈told v w n++LG v w (n + 1)↔_
  rw [List.mem_append,pq n]
  constructor
  ·rintro (⟨j,hj,h⟩ | h)
   ·exact ⟨j,by omega,h⟩
   ·exact ⟨n + 1,Nat.le_refl _,h⟩
  ·rintro ⟨j,hj,h⟩
   by_cases c:j=n + 1
   ·subst c;exact .inr h
   ·exact .inl ⟨j,by omega,h⟩
theorem zw {v w:Wd}(t:Pr v w) (n:Nat) (hn:n≤4):kL [.d v.d,.d w.d,.d (.int n)]=.ok (.l .fresh ((told v w n).map dg)):=by
 have v4:=t.v4
 have w4:=t.w4
 refine dR (lK (c2 rfl rfl (rL t)) (lK (c3 rfl rfl rfl (Kp n hn)) (bD (c1 rfl (yz v t.vo)) rfl (bD (c1 rfl (yz w t.wo)) rfl ?_))))
 have hp:jx 2 [1,3,4] (cH (aq (g2 bf (af 0) (gC (.int 0))) aD)) (aC 0) cU (cH (aq (g2 bf (af 2) (gC (.int 0))) aD)) (aC 1) (bx (gN (aS 4 K23.eN) (aq (af 3) (aq (af 4) (aq (bI (aB (af 0) (aB (af 1) aW))) (aq (bI (aB (af 0) (aB (af 1) aW))) aD)))))) (bI (aB (af 0) (aB (af 1) aW)))
   [some (.d v.d),some (.d w.d),some (.d (.int n)),some (.d (.dct (gY v) (gZ v))),some (.d (.dct (gY w) (gZ w))),none,none,none,none]=.ok (.l .fresh ((prs v w).map dP)):=by
  refine (zV (xs:=List.range v.m) (h:=dN) (h':=dN) (fun _=>List.range w.m) (fun a b=>je v w (a,b) (a,b)) (fun a b=>dP (a,b)) (nj (iI (two rfl rfl (fN _ _))) (by omega)) (by simp;omega) fun a ha=>⟨by simp;omega,fun z=>nj (iI (two rfl rfl (fN _ _))) (by omega),fun b hb=>⟨?_,fun _=>yH (bE (aL rfl rfl (aL rfl rfl bz)) t2) rfl⟩⟩).trans ?_
  ·have ha:a < v.m:=by simpa using ha
   have hb:b < w.m:=by simpa using hb
   exact sN (c4 rfl rfl (bE (aL rfl rfl (aL rfl rfl bz)) t2) (bE (aL rfl rfl (aL rfl rfl bz)) t2) (rK v w (a,b) (a,b) ⟨ha,hb⟩ ⟨ha,hb⟩))
  ·have e:((List.range v.m).flatMap fun a=>((List.range w.m).filter fun b=>je v w (a,b) (a,b)).map fun b=>dP (a,b))=(prs v w).map dP:=by
    unfold prs gA
    rw [List.filter_flatMap,List.map_flatMap]
    congr 1
    funext a
    rw [List.filter_map,List.map_map]
    rfl
   rw [e]
 refine bD hp rfl ?_
 refine cI (u_ rfl (fV (lR (aL (bE bz (by decide)) rfl bz) (by show 1≤1000;decide)) rfl ?_))
 refine bD (lR (aL (bE bz (by decide)) rfl bz) (by show 1≤1000;decide)) rfl ?_
 refine jt (ni (n:=n) rfl (by omega)) ?_
 refine kX (fun k env=>∃x:Option S,env=[some (.d v.d),some (.d w.d),some (.d (.int n)),some (.d (.dct (gY v) (gZ v))),some (.d (.dct (gY w) (gZ w))),some (.d (.lst ((prs v w).map dP))),some (.own ((LG v w k).map dg)),some (.own ((told v w k).map dg)),x]) ⟨none,rfl⟩ ?_ ?_
 ·rintro k hk _ ⟨x,rfl⟩
  have l1:=qe t k
  have l2:=qe t (k + 1)
  have l3:=xR t k (by omega)
  have p1:(16:Nat) ^ k≤16 ^ 3:=Nat.pow_le_pow_right (by decide) (by omega)
  have p2:(16:Nat) ^ (k + 1)≤16 ^ 4:=Nat.pow_le_pow_right (by decide) (by omega)
  have p3:(16:Nat) ^ 3=4096:=by decide
  have p4:(16:Nat) ^ 4=65536:=by decide
  refine ⟨_,rfl,cI (CI rfl (fV (r:=.l .fresh ((LG v w (k + 1)).map dg)) ?_ rfl (EM rfl rfl rfl (by simp only [List.length_map];omega) ⟨_,rfl,some (.d (.int k)),?_⟩)))⟩
  ·refine (zV (xs:=LG v w k) (h:=dg) (h':=dP) (fun _=>prs v w) (fun ah q=>gb v w ah q) (fun ah q=>dg (ah++[q])) rfl (by omega) fun ah hah=>⟨by have:=o6 t;omega,fun z=>rfl,fun q hq=>⟨?_,fun _=>yH (two rfl (bE (aL rfl rfl bz) (by show 1≤1000;decide)) (rD _ _ ?_)) ?_⟩⟩).trans ?_
   ·exact sN (c4 rfl rfl rfl rfl (Lz v w ah q (uM k hah).2 (Cg hq)))
   ·have:=(uM k hah).1
    simp;omega
   ·show M.ok (D.tup (ah.map dP++[dP q]))=M.ok (D.tup ((ah++[q]).map dP))
    rw [List.map_append]
    rfl
   ·show M.ok (R.l .fresh _)=_
    show _=M.ok (R.l .fresh (((LG v w k).flatMap fun ah=>((prs v w).filter (gb v w ah)).map fun q=>ah++[q]).map dg))
    rw [List.map_flatMap]
    simp only [List.map_map]
    rfl
  ·show _=[_,_,_,_,_,_,_,some (S.own ((told v w k++LG v w (k + 1)).map dg)),_]
   rw [List.map_append]
   rfl
 ·rintro _ ⟨x,rfl⟩
  exact b8 rfl rfl rfl
theorem allM {α:Type}(f:α→Bool) (xs:List α):i6 [.l .fresh (xs.map fun x=>.bl (f x))]=.ok (.d (.bl (xs.all f))):=by
 have:=all_map (fun d=>match d with
  | .bl b=>b
  | _=>false) (xs.map fun x=>.bl (f x))
 rw [List.map_map,List.all_map] at this
 exact this
theorem CQ (ps:List (Nat×Nat)) (hl:ps.length < 64):∃qs:List (Nat×Nat),jf [.d (dg ps)]=.ok (.d (dg qs))∧(∀q,q∈qs↔q∈ps)∧qs.length≤ps.length:=by
 have tot:∀d∈ps.map dP,ir pF d:=fun d hd=>by obtain ⟨x,_,rfl⟩:=List.mem_map.mp hd;exact lO x
 obtain ⟨h1,h2⟩:=oM (fY pF) tot
 have h3:=(nu (fY pF) tot).2
 have e:((cu (ps.map dP)).map ie).map dP=cu (ps.map dP):=back dP ie kW fun d hd=>by obtain ⟨x,_,rfl⟩:=List.mem_map.mp (h2 d hd);exact ⟨x,rfl⟩
 refine ⟨(cu (ps.map dP)).map ie,?_,fun q=>?_,by simpa using h1⟩
 ·refine dR (cZ (dS (b:=false) rfl rfl rfl) (b8 (n1 (n1 (x:=.d (dg ps)) (z:=.l .fresh (cu (ps.map dP))) rfl ?_) rfl) rfl ?_))
  ·exact JX ps hl
  ·show O.rt (.d (.tup (cu (ps.map dP))))=O.rt (.d (.tup (((cu (ps.map dP)).map ie).map dP)))
   rw [e]
 ·constructor
  ·intro h
   obtain ⟨d,hd,rfl⟩:=List.mem_map.mp h
   obtain ⟨x,hx,rfl⟩:=List.mem_map.mp (h2 d hd)
   exact hx
  ·intro h
   exact List.mem_map.mpr ⟨dP q,(h3 _).mpr (List.mem_map.mpr ⟨q,h,rfl⟩),rfl⟩
theorem A1:jf [.d .non]=.ok (.d (dg [])):=rfl
def qv (m:Nat) (qs ps:List (Nat×Nat)):Bool:=(ps.length == m) && qs.all fun q=>inD (dP q) (ps.map dP)
def IG (ps:List (Nat×Nat)):D:=.tup (ps.map fun p=>dN p.2)
theorem A2 {v w:Wd}(t:Pr v w) (hm:w.m≠v.m) (d:D):c_ [.d v.d,.d w.d,.d d]=.ok (.d .non):=by
 refine dR (lK (c2 rfl rfl (rL t)) (bD (two rfl rfl (fN _ _)) rfl (cI (gR (dS (two rfl rfl (fN _ _)) rfl ?_) (b8 rfl rfl rfl)))))
 show M.ok (R.d (.bl (!((w.m:Int) == (v.m:Int)))))=_
 rw [beq_eq_false_iff_ne.mpr (by omega)]
 rfl
theorem A3 {v w:Wd}(t:Pr v w) (hm:w.m=v.m) (d:D) (qs:List (Nat×Nat)) (hq:qs.length≤100) (hr:jf [.d d]=.ok (.d (dg qs))):c_ [.d v.d,.d w.d,.d d]=.ok (.d (match (told v w v.m).find? (qv v.m qs) with
  | some ps=>IG ps
  | none=>.non)):=by
 have v4:=t.v4
 refine dR (lK (c2 rfl rfl (rL t)) (bD (two rfl rfl (fN _ _)) rfl (cZ (dS (two rfl rfl (fN _ _)) rfl ?_) (bD (c1 rfl hr) rfl ?_))))
 ·show M.ok (R.d (.bl (!((w.m:Int) == (v.m:Int)))))=_
  rw [hm]
  simp
 refine jt (ds:=(told v w v.m).map dg) ?_ ?_
 ·show (gN _ _ _ >>= _)=_
  rw [c3 rfl rfl rfl (zw t v.m v4)]
  rfl
 have small:∀ps∈told v w v.m,ps.length≤4:=fun ps hp=>by
  obtain ⟨j,hj,h⟩:=(pq v.m).mp hp
  rw [(uM j h).1];omega
 generalize told v w v.m=L at small
 have key:∀(L:List (List (Nat×Nat))),(∀ps∈L,ps.length≤4)→∀x:Option S,Wp (fj (aC 5) (bR (ji (bx (g2 (cM false) (gN fB (aq (af 5) aD)) (af 3))) (bx (gN i6 (aq (bH 1 [5] (dO (af 4)) (aC 0) cU (g2 (gH false) (af 0) (af 1))) aD)))) (bM (gN b_ (aq (bH 2 [] (dO (af 5)) (cY 2 (br (aC 0) (br (aC 1) dz))) cU (af 1)) aD))) dG) (L.map dg) [some (.d v.d),some (.d w.d),some (.d d),some (.d (.int v.m)),some (.d (dg qs)),x])
   (fun o=>(match L.find? (qv v.m qs) with
    | some ps=>o=.rt (.d (IG ps))
    | none=>∃e,o=.nx e)):=by
  intro L
  induction L with
  | nil=>intro _ x;exact ⟨_,rfl,_,rfl⟩
  | cons ps L ih=>
   intro hs x
   have hps:=hs ps List.mem_cons_self
   have ht:(ji (bx (g2 (cM false) (gN fB (aq (af 5) aD)) (af 3))) (bx (gN i6 (aq (bH 1 [5] (dO (af 4)) (aC 0) cU (g2 (gH false) (af 0) (af 1))) aD)))) [some (.d v.d),some (.d w.d),some (.d d),some (.d (.int v.m)),some (.d (dg qs)),some (.d (dg ps))]=.ok (qv v.m qs ps):=by
    have h1:bx (g2 (cM false) (gN fB (aq (af 5) aD)) (af 3)) [some (.d v.d),some (.d w.d),some (.d d),some (.d (.int v.m)),some (.d (dg qs)),some (.d (dg ps))]=.ok (ps.length == v.m):=by
     refine dS (n1 rfl rfl) rfl ?_
     show M.ok (R.d (.bl ((((ps.map dP).length:Nat):Int) == (v.m:Int))))=_
     rw [List.length_map,show ((ps.length:Int) == (v.m:Int))=(ps.length == v.m) by rw [Bool.eq_iff_iff,beq_iff_eq,beq_iff_eq];omega]
    have h2:bx (gN i6 (aq (bH 1 [5] (dO (af 4)) (aC 0) cU (g2 (gH false) (af 0) (af 1))) aD)) [some (.d v.d),some (.d w.d),some (.d d),some (.d (.int v.m)),some (.d (dg qs)),some (.d (dg ps))]=.ok (qs.all fun q=>inD (dP q) (ps.map dP)):=
     xS (n1 (rY (xs:=qs) (h:=dP) (fun q=>.bl (inD (dP q) (ps.map dP))) rfl (by omega) fun q _=>⟨_,two rfl rfl (HV q ps),rfl⟩) (allM _ qs))
    unfold qv
    cases hc:(ps.length == v.m) with
    | true=>rw [hc] at h1;exact rP h1 h2
    | false=>rw [hc] at h1;exact vG h1
   rw [List.map_cons,List.find?_cons]
   unfold fj
   show Wp ((bR _ _ _ [some (.d v.d),some (.d w.d),some (.d d),some (.d (.int v.m)),some (.d (dg qs)),some (.d (dg ps))]) >>= _) _
   cases hc:qv v.m qs ps with
   | true=>
    rw [hc] at ht
    rw [sq ht,Cq (n1 (jO (xs:=ps) (fun p=>dN p.1) (fun p=>dN p.2) (fun p=>dN p.2) rfl (by omega) fun p _=>⟨_,rfl,rfl⟩) rfl) rfl]
    exact ⟨_,rfl,rfl⟩
   | false=>
    rw [hc] at ht
    rw [qO ht]
    exact ih (fun p hp=>hs p (List.mem_cons_of_mem _ hp)) _
 obtain ⟨o,h1,h2⟩:=key L small none
 refine ⟨o,h1,?_⟩
 cases q:L.find? (qv v.m qs) with
 | some ps=>
  rw [q] at h2
  subst h2
  rfl
 | none=>
  rw [q] at h2
  obtain ⟨e,rfl⟩:=h2
  exact b8 rfl rfl rfl
theorem v_:∀{xs ys:List Bool},cG (xs.map D.bl) (ys.map D.bl)=true↔xs=ys
 | [],[]=>by simp [cG]
 | [],_::_=>by simp [cG]
 | _::_,[]=>by simp [cG]
 | x::xs,y::ys=>by
  rw [List.map_cons,List.map_cons,iH,Bool.and_eq_true,v_]
  simp [bq]
structure AX (v w:Wd) (p q:Nat×Nat):Prop where
 eq:p.1=q.1↔p.2=q.2
 ms:v.ms.map (fun r=>decide (p.1∈r.2))=w.ms.map fun r=>decide (p.2∈r.2)
 ar:v.ar.map (fun r=>decide ((p.1,q.1)∈r.2))=w.ar.map fun r=>decide ((p.2,q.2)∈r.2)
theorem lJ (v w:Wd) (p q:Nat×Nat):je v w p q=true↔AX v w p q:=by
 have e:je v w p q=((p.1 == q.1) == (p.2 == q.2) && (cG ((v.ms.map fun r=>decide (p.1∈r.2)).map D.bl) ((w.ms.map fun r=>decide (p.2∈r.2)).map D.bl) && (cG ((v.ar.map fun r=>decide ((p.1,q.1)∈r.2)).map D.bl) ((w.ar.map fun r=>decide ((p.2,q.2)∈r.2)).map D.bl) && true))):=by
  unfold je eF
  rw [jY,iH,iH,iH,jY,jY,cG]
  simp only [K55.inN,K55.HU,List.map_map,K55.sY]
  rfl
 rw [e,Bool.and_eq_true,Bool.and_eq_true,Bool.and_eq_true,v_,v_]
 have e1:((p.1 == q.1) == (p.2 == q.2))=true↔(p.1=q.1↔p.2=q.2):=by
  rw [beq_iff_eq,Bool.eq_iff_iff,beq_iff_eq,beq_iff_eq]
 rw [e1]
 exact ⟨fun ⟨a,b,c,_⟩=>⟨a,b,c⟩,fun ⟨a,b,c⟩=>⟨a,b,c,rfl⟩⟩
theorem Iq {p q:Nat×Nat}(h:pS p q=false):q.1 < p.1∨(q.1=p.1∧q.2 < p.2):=by
 unfold pS at h
 rw [jR] at h
 by_cases c:(p.1:Int)=q.1
 ·rw [if_pos c,jR] at h
  by_cases c2:(p.2:Int)=q.2
  ·rw [if_pos c2,nK] at h;cases h
  ·rw [if_neg c2,decide_eq_false_iff_not] at h
   exact .inr ⟨by omega,by omega⟩
 ·rw [if_neg c,decide_eq_false_iff_not] at h
  exact .inl (by omega)
theorem Ip {p q:Nat×Nat}(h:q.1 < p.1):pS p q=false:=by
 unfold pS
 rw [jR,if_neg (by omega),decide_eq_false_iff_not]
 omega
structure Good (v w:Wd) (ps:List (Nat×Nat)):Prop where
 up:ps.Pairwise fun p q=>p.1 < q.1
 ag:∀p∈ps,∀q∈ps,AX v w p q
 rg:∀p∈ps,lD v w p
theorem sy {α:Type}{ps:List α}{l:α}(h:ps.getLast?=some l):∃rs,ps=rs++[l]:=by
 rcases List.eq_nil_or_concat ps with rfl | ⟨ys,y,rfl⟩
 ·cases h
 ·rw [List.concat_eq_append] at h ⊢
  rw [List.getLast?_concat] at h
  cases h
  exact ⟨ys,rfl⟩
theorem zc {v w:Wd}{p:Nat×Nat}:p∈prs v w↔lD v w p∧AX v w p p:=by
 unfold prs
 rw [List.mem_filter,p7,lJ]
 exact Iff.rfl
theorem BE {v w:Wd}{ps:List (Nat×Nat)}(g:Good v w ps){q:Nat×Nat}(hq:q∈prs v w):gb v w ps q=true↔Good v w (ps++[q]):=by
 obtain ⟨h1,h2⟩:=zc.mp hq
 unfold gb
 rw [Bool.and_eq_true,List.all_eq_true]
 constructor
 ·rintro ⟨a,b⟩
  have ag:∀r∈ps,AX v w q r∧AX v w r q:=fun r hr=>by
   have:=b r hr
   rw [Bool.and_eq_true,lJ,lJ] at this
   exact this
  have lt:∀r∈ps,r.1 < q.1:=by
   cases e:ps.getLast? with
   | none=>rw [List.getLast?_eq_none_iff.mp e];exact fun _ h=>by cases h
   | some l=>
    rw [e] at a
    have hl:l.1 < q.1:=by
     obtain ⟨rs,rfl⟩:=sy e
     rcases Iq (by simpa using a) with h | ⟨h,h'⟩
     ·exact h
     ·have:=(ag l (by simp)).1.eq
      omega
    obtain ⟨rs,rfl⟩:=sy e
    intro r hr
    rcases List.mem_append.mp hr with h | h
    ·have:=(List.pairwise_append.mp g.up).2.2 r h l (by simp)
     omega
    ·rw [List.mem_singleton.mp h];exact hl
  refine ⟨List.pairwise_append.mpr ⟨g.up,List.pairwise_singleton _ _,fun r hr x hx=>by rw [List.mem_singleton.mp hx];exact lt r hr⟩,fun r hr x hx=>?_,fun r hr=>?_⟩
  ·rcases List.mem_append.mp hr with hr | hr <;> rcases List.mem_append.mp hx with hx | hx
   ·exact g.ag r hr x hx
   ·rw [List.mem_singleton.mp hx];exact (ag r hr).2
   ·rw [List.mem_singleton.mp hr];exact (ag x hx).1
   ·rw [List.mem_singleton.mp hr,List.mem_singleton.mp hx];exact h2
  ·rcases List.mem_append.mp hr with hr | hr
   ·exact g.rg r hr
   ·rw [List.mem_singleton.mp hr];exact h1
 ·intro h
  refine ⟨?_,fun r hr=>?_⟩
  ·cases e:ps.getLast? with
   | none=>rfl
   | some l=>
    have hl:l∈ps:=by obtain ⟨rs,rfl⟩:=sy e;simp
    have:=(List.pairwise_append.mp h.up).2.2 l hl q (by simp)
    show (!pS q l)=true
    rw [Ip this]
    rfl
  ·rw [Bool.and_eq_true,lJ,lJ]
   exact ⟨h.ag q (by simp) r (by simp [hr]),h.ag r (by simp [hr]) q (by simp)⟩
theorem qU {v w:Wd}:∀(j:Nat){ps:List (Nat×Nat)},ps∈LG v w j↔ps.length=j∧Good v w ps
 | 0,ps=>by
  constructor
  ·intro h
   rw [show ps=[] from List.mem_singleton.mp h]
   exact ⟨rfl,.nil,(fun _ h=>nomatch h),(fun _ h=>nomatch h)⟩
  ·rintro ⟨h,_⟩
   rw [List.length_eq_zero_iff.mp h]
   exact List.mem_singleton.mpr rfl
 | j + 1,ps=>by
  constructor
  ·intro h
   obtain ⟨ah,h1,h2⟩:=List.mem_flatMap.mp h
   obtain ⟨q,h3,rfl⟩:=List.mem_map.mp h2
   obtain ⟨l,g⟩:=(qU j).mp h1
   obtain ⟨h4,h5⟩:=List.mem_filter.mp h3
   exact ⟨by rw [List.length_append,l];rfl,(BE g h4).mp h5⟩
  ·rintro ⟨h,g⟩
   rcases List.eq_nil_or_concat ps with rfl | ⟨ah,q,rfl⟩
   ·cases h
   ·rw [List.concat_eq_append] at h g ⊢
    have ga:Good v w ah:=⟨(List.pairwise_append.mp g.up).1,fun p hp x hx=>g.ag p (by simp [hp]) x (by simp [hx]),fun p hp=>g.rg p (by simp [hp])⟩
    have hq:q∈prs v w:=zc.mpr ⟨g.rg q (by simp),g.ag q (by simp) q (by simp)⟩
    exact List.mem_flatMap.mpr ⟨ah,(qU j).mpr ⟨by simpa using h,ga⟩,List.mem_map.mpr ⟨q,List.mem_filter.mpr ⟨hq,(BE ga hq).mpr g⟩,rfl⟩⟩
theorem Eu {l:List Nat}{m:Nat}(hu:l.Pairwise (· < ·)) (hl:l.length=m) (hm:∀x∈l,x < m):l=List.range m:=by
 have st:=List.pairwise_iff_getElem.mp hu
 have lo:∀k (hk:k < l.length),k≤l[k]:=by
  intro k
  induction k with
  | zero=>intro _;exact Nat.zero_le _
  | succ k ih=>
   intro hk
   have:=st k (k + 1) (by omega) hk (by omega)
   have:=ih (by omega)
   omega
 have hi:∀d k (hk:k < l.length),l.length - 1 - k=d→l[k]≤k:=by
  intro d
  induction d with
  | zero=>
   intro k hk e
   have:=hm l[k] (List.getElem_mem hk)
   omega
  | succ d ih=>
   intro k hk e
   have h1:=ih (k + 1) (by omega) (by omega)
   have h2:=st k (k + 1) hk (by omega) (by omega)
   omega
 refine List.ext_getElem (by simp [hl]) fun k h1 h2=>?_
 rw [List.getElem_range]
 exact Nat.le_antisymm (hi _ k h1 rfl) (lo k h1)
structure yC (v w:Wd) (σ:List Nat):Prop where
 len:σ.length=v.m
 rg:∀y∈σ,y < v.m
 nd:σ.Nodup
 ms:∀k (hk:k < σ.length),v.ms.map (fun r=>decide (k∈r.2))=w.ms.map fun r=>decide (σ[k]∈r.2)
 ar:∀j k (hj:j < σ.length) (hk:k < σ.length),v.ar.map (fun r=>decide ((j,k)∈r.2))=w.ar.map fun r=>decide ((σ[j],σ[k])∈r.2)
def iE (σ:List Nat):List (Nat×Nat):=(List.range σ.length).zip σ
theorem zu {σ:List Nat}{k:Nat}(hk:k < σ.length):(iE σ)[k]?=some (k,σ[k]):=by
 unfold iE
 rw [List.getElem?_zip_eq_some]
 exact ⟨by simp [hk],by simp [hk]⟩
theorem kK {σ:List Nat}{p:Nat×Nat}:p∈iE σ↔∃hk:p.1 < σ.length,σ[p.1]=p.2:=by
 constructor
 ·intro h
  obtain ⟨k,hk,e⟩:=List.mem_iff_getElem.mp h
  have hk':k < σ.length:=by simpa [iE] using hk
  have:=zu hk'
  rw [List.getElem?_eq_getElem hk,e] at this
  cases this
  exact ⟨hk',rfl⟩
 ·rintro ⟨hk,e⟩
  have:=zu hk
  rw [e] at this
  exact List.mem_of_getElem? this
theorem Dj {v w:Wd}(hm:w.m=v.m){σ:List Nat}(i:yC v w σ):Good v w (iE σ):=by
 refine ⟨?_,fun p hp q hq=>?_,fun p hp=>?_⟩
 ·have h:((iE σ).map Prod.fst).Pairwise (· < ·):=by
   unfold iE
   rw [List.map_fst_zip (by simp)]
   exact List.pairwise_lt_range
  exact List.pairwise_map.mp h
 ·obtain ⟨h1,e1⟩:=kK.mp hp
  obtain ⟨h2,e2⟩:=kK.mp hq
  refine ⟨⟨fun e=>?_,fun e=>?_⟩,?_,?_⟩
  ·rw [←e1,←e2];simp only [e]
  ·rw [←e1,←e2] at e
   exact (List.getElem_inj i.nd).mp e
  ·rw [←e1];exact i.ms p.1 h1
  ·rw [←e1,←e2];exact i.ar p.1 q.1 h1 h2
 ·obtain ⟨h1,e1⟩:=kK.mp hp
  refine ⟨by rw [←i.len];exact h1,?_⟩
  rw [hm,←e1]
  exact i.rg _ (List.getElem_mem h1)
theorem Df {v w:Wd}(hm:w.m=v.m){ps:List (Nat×Nat)}(g:Good v w ps) (hl:ps.length=v.m):ps=iE (ps.map Prod.snd)∧yC v w (ps.map Prod.snd):=by
 have f:ps.map Prod.fst=List.range v.m:=Eu (List.pairwise_map.mpr g.up) (by rw [List.length_map,hl]) fun x hx=>by
  obtain ⟨p,hp,rfl⟩:=List.mem_map.mp hx
  exact (g.rg p hp).1
 have at_:∀k (hk:k < ps.length),ps[k]=(k,(ps.map Prod.snd)[k]'(by rw [List.length_map];exact hk)):=fun k hk=>by
  have h1:(ps.map Prod.fst)[k]?=some ps[k].1:=by rw [List.getElem?_map,List.getElem?_eq_getElem hk];rfl
  rw [f,List.getElem?_range (by omega)] at h1
  rw [List.getElem_map]
  exact Prod.ext (Option.some.inj h1).symm rfl
 refine ⟨?_,⟨by rw [List.length_map,hl],fun y hy=>?_,?_,fun k hk=>?_,fun j k hj hk=>?_⟩⟩
 ·unfold iE
  rw [List.length_map,hl,←f]
  refine List.ext_getElem (by simp) fun k h1 h2=>?_
  simp
 ·obtain ⟨p,hp,rfl⟩:=List.mem_map.mp hy
  rw [←hm]
  exact (g.rg p hp).2
 ·refine List.pairwise_map.mpr ((List.Pairwise.and_mem.mp g.up).imp ?_)
  rintro p q ⟨hp,hq,h⟩ e
  have:=(g.ag p hp q hq).eq
  omega
 ·have hk':k < ps.length:=by rw [List.length_map] at hk;exact hk
  have h:=(g.ag ps[k] (List.getElem_mem hk') ps[k] (List.getElem_mem hk')).ms
  have e1:=congrArg Prod.fst (at_ k hk')
  have e2:=congrArg Prod.snd (at_ k hk')
  rw [e1,e2] at h
  exact h
 ·have hk':k < ps.length:=by rw [List.length_map] at hk;exact hk
  have hj':j < ps.length:=by rw [List.length_map] at hj;exact hj
  have h:=(g.ag ps[j] (List.getElem_mem hj') ps[k] (List.getElem_mem hk')).ar
  have e1:=congrArg Prod.fst (at_ k hk')
  have e2:=congrArg Prod.snd (at_ k hk')
  have e3:=congrArg Prod.fst (at_ j hj')
  have e4:=congrArg Prod.snd (at_ j hj')
  rw [e1,e2,e3,e4] at h
  exact h
theorem uW (a b:Nat):dY (dN a) (dN b)=true↔a < b:=by
 rw [lS,decide_eq_true_eq]
 omega
theorem EO (a b:Nat×Nat):dY (dP a) (dP b)=true↔nL a b:=by
 have e:dY (dP a) (dP b)=g_ [dN a.1,dN a.2] [dN b.1,dN b.2]:=rfl
 rw [e,jj,K55.sY]
 unfold nL
 by_cases c:a.1=b.1
 ·rw [if_pos (by simpa using c),jj,K55.sY]
  by_cases c2:a.2=b.2
  ·rw [if_pos (by simpa using c2)]
   constructor
   ·intro h;cases h
   ·intro h;omega
  ·rw [if_neg (by simpa using c2)]
   rw [show dY (D.int a.2) (D.int b.2)=dY (dN a.2) (dN b.2) from rfl,uW]
   omega
 ·rw [if_neg (by simpa using c)]
  rw [show dY (D.int a.1) (D.int b.1)=dY (dN a.1) (dN b.1) from rfl,uW]
  omega
theorem rH {α:Type}(h:α→D) (u:D→α) (hu:∀x,u (h x)=x) (R:α→α→Prop) (hR:∀a b,dY (h a) (h b)=true→R a b){l:List D}(hl:∀d∈l,∃x,d=h x) (up:l.Pairwise fun a b=>dY a b=true):(l.map u).Pairwise R:=by
 refine List.pairwise_map.mpr ((List.Pairwise.and_mem.mp up).imp ?_)
 rintro a b ⟨ha,hb,h1⟩
 obtain ⟨x,rfl⟩:=hl a ha
 obtain ⟨y,rfl⟩:=hl b hb
 rw [hu,hu]
 exact hR x y h1
theorem LY (xs:List Nat) (hl:xs.length < 64):∃ys:List Nat,f_ [.d (.tup (xs.map dN))]=.ok (.l .fresh (ys.map dN))∧ys.length≤xs.length∧(∀y∈ys,y∈xs)∧ys.Pairwise (· < ·):=by
 have tot:∀d∈xs.map dN,ir .i d:=fun d hd=>by obtain ⟨x,_,rfl⟩:=List.mem_map.mp hd;exact ⟨_,rfl⟩
 obtain ⟨h1,h2⟩:=oM (fY .i) tot
 have fm:∀d∈cu (xs.map dN),∃x,d=dN x:=fun d hd=>by obtain ⟨x,_,rfl⟩:=List.mem_map.mp (h2 d hd);exact ⟨x,rfl⟩
 refine ⟨(cu (xs.map dN)).map jc,?_,by simpa using h1,fun y hy=>?_,rH dN jc nA _ (fun a b h=>(uW a b).mp h) fm (nu (fY .i) tot).1⟩
 ·rw [L3 xs hl,back dN jc nA fm]
 ·obtain ⟨d,hd,rfl⟩:=List.mem_map.mp hy
  obtain ⟨x,hx,rfl⟩:=List.mem_map.mp (h2 d hd)
  exact hx
theorem LZ (xs:List (Nat×Nat)) (hl:xs.length < 64):∃ys:List (Nat×Nat),f_ [.d (.tup (xs.map dP))]=.ok (.l .fresh (ys.map dP))∧ys.length≤xs.length∧(∀y∈ys,y∈xs)∧ys.Pairwise nL:=by
 have tot:∀d∈xs.map dP,ir pF d:=fun d hd=>by obtain ⟨x,_,rfl⟩:=List.mem_map.mp hd;exact lO x
 obtain ⟨h1,h2⟩:=oM (fY pF) tot
 have fm:∀d∈cu (xs.map dP),∃x,d=dP x:=fun d hd=>by obtain ⟨x,_,rfl⟩:=List.mem_map.mp (h2 d hd);exact ⟨x,rfl⟩
 refine ⟨(cu (xs.map dP)).map ie,?_,by simpa using h1,fun y hy=>?_,rH dP ie kW _ (fun a b h=>(EO a b).mp h) fm (nu (fY pF) tot).1⟩
 ·rw [JX xs hl,back dP ie kW fm]
 ·obtain ⟨d,hd,rfl⟩:=List.mem_map.mp hy
  obtain ⟨x,hx,rfl⟩:=List.mem_map.mp (h2 d hd)
  exact hx
theorem qF {α:Type}(h:α→D) (P:α→Prop) (Sr:List α→Prop) (hf:∀xs p,Sr xs→Sr (xs.filter p)) (n:Nat) (hn:n≤40) (hd:∀x,dep (h x)≤1) (b:Bool) (hb:∀x,oQ (kJ (h x)) "tuple"=b)
  (hs:∀xs:List α,xs.length < 64→∃ys:List α,f_ [.d (.tup (xs.map h))]=.ok (.l .fresh (ys.map h))∧ys.length≤xs.length∧(∀y∈ys,y∈xs)∧Sr ys)
  (L:List (Str×List α)) (hL:A9 P n L) (hS:∀r∈L,Sr r.2) (l3:L.length≤3) (k:Nat) (hk:k < L.length) (th:α) (ht:P th) (w c:Option S) (m:D) (ms ar:D):
  ∃L':List (Str×List α),A9 P (n + 1) L'∧(∀r∈L',Sr r.2)∧L'.map Prod.fst=L.map Prod.fst∧L'.length=L.length∧K9 [w,c,some (.d m),some (.d ms),some (.d ar),some (.d (.int k)),some (.d (h th)),some (.d (.tup (L.map (cX h)))),none,none,none]=.ok (.rt (.d (if b=true then .tup [m,ms,.tup (L'.map (cX h))] else .tup [m,.tup (L'.map (cX h)),ar]))):=by
 obtain ⟨a1,a2⟩:=hL.all L[k] (List.getElem_mem hk)
 obtain ⟨ys,e1,e2,e3,e4⟩:=hs (L[k].2++[th]) (by simp;omega)
 rw [List.length_append] at e2
 have e2:ys.length≤n + 1:=by simp at e2;omega
 have e3:∀y∈ys,P y:=fun y hy=>by
  rcases List.mem_append.mp (e3 y hy) with h | h
  ·exact a2 y h
  ·rw [List.mem_singleton.mp h];exact ht
 have dp:deps (L[k].2.map h)≤60:=iG fun d hd'=>by
  obtain ⟨x,_,rfl⟩:=List.mem_map.mp hd'
  have:=hd x;omega
 have dt:=hd th
 have nx:∃now:List α,now.length≤n + 1∧(∀y∈now,P y)∧Sr now∧∀(Q:O→Prop) (u:G O),Wp (u [w,c,some (.d m),some (.d ms),some (.d ar),some (.d (.int k)),some (.d (h th)),some (.d (.tup (L.map (cX h)))),some (.d (.str L[k].1)),some (.d (.tup (L[k].2.map h))),some (.d (.tup (now.map h)))]) Q→
   Wp (aO (bR (bx (g2 (gH false) (af 6) (af 9))) (bh 10 (gN b_ (aq (bH 1 [6] (dO (af 9)) (aC 0) (bx (g2 (cM true) (af 0) (af 1))) (af 0)) aD))) dG) u [w,c,some (.d m),some (.d ms),some (.d ar),some (.d (.int k)),some (.d (h th)),some (.d (.tup (L.map (cX h)))),some (.d (.str L[k].1)),some (.d (.tup (L[k].2.map h))),some (.d (.tup (ys.map h)))]) Q:=by
  have hin:bx (g2 (gH false) (af 6) (af 9)) [w,c,some (.d m),some (.d ms),some (.d ar),some (.d (.int k)),some (.d (h th)),some (.d (.tup (L.map (cX h)))),some (.d (.str L[k].1)),some (.d (.tup (L[k].2.map h))),some (.d (.tup (ys.map h)))]=.ok (inD (h th) (L[k].2.map h)):=by
   show (g2 _ _ _ _ >>= _)=_
   rw [two (x:=.d (h th)) rfl rfl (uU false _ _ dp (by omega))]
   rfl
  cases q:inD (h th) (L[k].2.map h) with
  | true=>
   rw [q] at hin
   refine ⟨L[k].2.filter (fun x=>!bq (h x) (h th)),Nat.le_trans (List.length_filter_le _ _) (by omega),fun y hy=>a2 y (List.mem_filter.mp hy).1,hf _ _ (hS _ (List.getElem_mem hk)),fun Q u hu=>?_⟩
   refine cI (gR hin (fV (n1 (uP (xs:=L[k].2) (h:=h) (fun x=>!bq (h x) (h th)) h rfl (by omega) fun x _=>⟨?_,fun _=>⟨_,rfl,rfl⟩⟩) rfl) rfl hu))
   have:=hd x
   show (g2 _ _ _ _ >>= _)=_
   rw [two (x:=.d (h x)) (y:=.d (h th)) rfl rfl (uS _ _ _ (by show dep (h x)≤60;omega) (by show dep (h th)≤60;omega))]
   rfl
  | false=>
   rw [q] at hin
   exact ⟨ys,e2,e3,e4,fun Q u hu=>cZ hin hu⟩
 obtain ⟨now,n1',n2,nS,n3⟩:=nx
 refine ⟨L.take k++[(L[k].1,now)]++L.drop (k + 1),⟨fun r hr=>?_⟩,fun r hr=>?_,?_,?_,?_⟩
 ·simp only [List.mem_append,List.mem_singleton] at hr
  rcases hr with (hr | hr) | hr
  ·have:=hL.all r (List.mem_of_mem_take hr)
   exact ⟨by omega,this.2⟩
  ·rw [hr];exact ⟨n1',n2⟩
  ·have:=hL.all r (List.mem_of_mem_drop hr)
   exact ⟨by omega,this.2⟩
 ·simp only [List.mem_append,List.mem_singleton] at hr
  rcases hr with (hr | hr) | hr
  ·exact hS r (List.mem_of_mem_take hr)
  ·rw [hr];exact nS
  ·exact hS r (List.mem_of_mem_drop hr)
 ·have e:L=L.take k++[L[k]]++L.drop (k + 1):=by
   rw [List.append_assoc,List.singleton_append,List.getElem_cons_drop,List.take_append_drop]
  conv=>rhs;rw [e]
  simp only [List.map_append,List.map_cons,List.map_nil]
 ·simp;omega
 ·have ix:bf (.d (.tup (L.map (cX h)))) (.d (.int k))=.ok (.d (cX h L[k])):=jZ (by rw [List.getElem?_map,List.getElem?_eq_getElem hk];rfl)
  have hc1:dh (.d (.tup ((L.map (cX h)).take k))) (.d (.tup [cX h (L[k].1,now)]))=.ok (.d (.tup ((L.map (cX h)).take k++[cX h (L[k].1,now)]))):=rD _ _ (by simp;omega)
  have hc2:dh (.d (.tup ((L.map (cX h)).take k++[cX h (L[k].1,now)]))) (.d (.tup ((L.map (cX h)).drop (k + 1))))=.ok (.d (.tup ((L.map (cX h)).take k++[cX h (L[k].1,now)]++(L.map (cX h)).drop (k + 1)))):=rD _ _ (by simp;omega)
  have hm:(L.map (cX h)).take k++[cX h (L[k].1,now)]++(L.map (cX h)).drop (k + 1)=(L.take k++[(L[k].1,now)]++L.drop (k + 1)).map (cX h):=by
   rw [List.map_append,List.map_append,List.map_take,List.map_drop];rfl
  rw [hm] at hc2
  refine Wp.eq (ri (two rfl rfl ix) rfl rfl (bD (n1 (n1 (two rfl (bE (aL rfl rfl bz) (by show 1≤1000;decide)) (rD _ _ (by simp;omega))) (by rw [show L[k].2.map h++[h th]=(L[k].2++[th]).map h by rw [List.map_append];rfl];exact e1)) rfl) rfl (n3 _ _ ?_)))
  refine bD (two (x:=.d (.tup ((L.map (cX h)).take k++[cX h (L[k].1,now)]))) (y:=.d (.tup ((L.map (cX h)).drop (k + 1)))) (two (x:=.d (.tup ((L.map (cX h)).take k))) ?_ (bE (aL (bE (aL rfl rfl (aL rfl rfl bz)) t2) rfl bz) (by show 1≤1000;decide)) hc1) ?_ hc2) rfl ?_
  ·show M.ok (R.d (.tup (cutD (L.map (cX h)) none (some (k:Int)))))=_
   rw [HD _ _ (by simp;omega)]
  ·show M.ok (R.d (.tup (cutD (L.map (cX h)) (some ((k:Int) + 1)) none)))=_
   rw [show ((k:Int) + 1)=((k + 1:Nat):Int) by omega,C4 _ _ (by simp;omega)]
  ·have hb':=hb th
   cases b with
   | true=>exact cI (gR (by show M.ok (oQ (kJ (h th)) "tuple")=_;rw [hb']) (b8 (bE (aL rfl rfl (aL rfl rfl (aL rfl rfl bz))) (by show 3≤1000;decide)) rfl rfl))
   | false=>exact cZ (by show M.ok (oQ (kJ (h th)) "tuple")=_;rw [hb']) (b8 (bE (aL rfl rfl (aL rfl rfl (aL rfl rfl bz))) (by show 3≤1000;decide)) rfl rfl)
structure lH (u:Wd):Prop where
 mp:∀r∈u.ms,r.2.Pairwise (· < ·)
 ap:∀r∈u.ar,r.2.Pairwise nL
structure EB (n:Nat) (w u:Wd):Prop where
 ok:lI u
 inn:iT n u
 srt:lH u
 m:u.m=w.m
 mn:u.ms.map Prod.fst=w.ms.map Prod.fst
 an:u.ar.map Prod.fst=w.ar.map Prod.fst
theorem zX {α:Type}{l:List α}{j:Nat}(h:j < l.length):(l[j]::l.eraseIdx j).Perm l:=by
 have e2:l=l.take j++l[j]::l.drop (j + 1):=by rw [List.getElem_cons_drop,List.take_append_drop]
 rw [List.eraseIdx_eq_take_drop_succ]
 exact List.perm_middle.symm.trans (List.Perm.of_eq e2.symm)
theorem vd (c:Int) (m:Nat) (hm:m≤8):∃ps:List Nat,eW [.d (.int c),.d (.int m)]=.ok (.d (.tup (ps.map dN)))∧ps.Perm (List.range m):=by
 have key:Wp (eW [.d (.int c),.d (.int m)]) fun r=>∃ps:List Nat,r=.d (.tup (ps.map dN))∧ps.Perm (List.range m):=by
  refine nB (bD (r:=.l .fresh ((List.range m).map dN)) ?_ rfl (bD rfl rfl (jt (ni (n:=m) rfl (by omega)) ?_)))
  ·show (if below 16777216 (m:Int) then M.ok (R.l .fresh (fc 0 (m:Int).toNat)) else .bad)=_
   rw [if_pos (by unfold below;simp;omega),Int.toNat_natCast,JS]
  ·refine kX (fun k env=>∃(c:Int) (ls ps:List Nat) (x:Option S),env=[some (.d (.int c)),some (.d (.int m)),some (.own (ls.map dN)),some (.own (ps.map dN)),x]∧ls.length + k=m∧ps.length=k∧(ps++ls).Perm (List.range m)) ⟨c,List.range m,[],none,rfl,by simp,rfl,.refl _⟩ ?_ ?_
   ·rintro k hk _ ⟨c,ls,ps,x,rfl,l1,l2,m1⟩
    have hlen:(0:Int) < ((ls.map dN).length:Nat):=by simp;omega
    obtain ⟨j,hj⟩:∃j:Nat,c % ((ls.map dN).length:Nat)=j:=⟨(c % ((ls.map dN).length:Nat)).toNat,by have:=Int.emod_nonneg c (b:=((ls.map dN).length:Nat)) (by omega);omega⟩
    have hjl:j < (ls.map dN).length:=by
     have:=Int.emod_lt_of_pos c hlen
     omega
    have hjl':j < ls.length:=by simpa using hjl
    refine ⟨_,rfl,cI (Dp (k:=j) rfl rfl (by decide) ((two rfl (n1 rfl rfl) (fX _ _ hlen)).trans (by rw [hj])) hjl (by simp;omega) (by simp;omega) ?_)⟩
    refine fV (two rfl rfl (kU _ 9 (by decide) (by decide))) rfl ⟨_,rfl,c / 9,ls.eraseIdx j,ps++[ls[j]],some (.d (.int k)),?_,?_,?_,?_⟩
    ·rw [List.map_append,List.getElem_map,show (ls.eraseIdx j).map dN=(ls.map dN).eraseIdx j by simp [List.eraseIdx_eq_take_drop_succ,List.map_take,List.map_drop]]
     rfl
    ·rw [List.length_eraseIdx,if_pos hjl'];omega
    ·rw [List.length_append];simp;omega
    ·rw [List.append_assoc,List.singleton_append]
     exact ((zX hjl').append_left ps).trans m1
   ·rintro _ ⟨c,ls,ps,x,rfl,l1,l2,m1⟩
    have l0:ls=[]:=List.length_eq_zero_iff.mp (by omega)
    rw [l0,List.append_nil] at m1
    exact b8 rfl rfl ⟨_,rfl,ps,rfl,m1⟩
 obtain ⟨_,h,ps,rfl,hk⟩:=key
 exact ⟨ps,h,hk⟩
theorem getD_at {ps:List Nat}{k:Nat}(h:k < ps.length):ps.getD k 0=ps[k]:=by simp [List.getD,h]
theorem oq {α β:Type}{f:α→β}{xs:List α}(nd:xs.Nodup) (inj:∀a∈xs,∀b∈xs,f a=f b→a=b):(xs.map f).Nodup:=by
 refine List.pairwise_map.mpr ((List.Pairwise.and_mem.mp nd).imp ?_)
 rintro a b ⟨ha,hb,h⟩ e
 exact h (inj a ha b hb e)
theorem Kz {xs:List Nat}(h:xs.Pairwise (· < ·)):xs.Nodup:=h.imp fun h e=>by omega
theorem IJ {xs:List (Nat×Nat)}(h:xs.Pairwise nL):xs.Nodup:=h.imp fun {a b} h e=>by subst e;unfold nL at h;omega
theorem jk {ps:List Nat}{m:Nat}(pm:ps.Perm (List.range m)){a b:Nat}(ha:a < m) (hb:b < m) (e:ps.getD a 0=ps.getD b 0):a=b:=by
 have l:ps.length=m:=by rw [pm.length_eq,List.length_range]
 rw [getD_at (by omega),getD_at (by omega)] at e
 exact (List.getElem_inj (pm.nodup_iff.mpr List.nodup_range)).mp e
theorem LW {xs:List Nat}(nd:xs.Nodup):((bg (xs.map dN)).map jc).Pairwise (· < ·):=
 rH dN jc nA _ (fun a b h=>(uW a b).mp h) (fun d hd=>by obtain ⟨x,_,rfl⟩:=List.mem_map.mp (kT hd);exact ⟨x,rfl⟩) (mz (fY .i) (fun d hd=>by obtain ⟨x,_,rfl⟩:=List.mem_map.mp hd;exact ⟨_,rfl⟩) (oq nd fun a _ b _ e=>by have:=congrArg jc e;exact this))
theorem LX {xs:List (Nat×Nat)}(nd:xs.Nodup):((bg (xs.map dP)).map ie).Pairwise nL:=
 rH dP ie kW _ (fun a b h=>(EO a b).mp h) (fun d hd=>by obtain ⟨x,_,rfl⟩:=List.mem_map.mp (kT hd);exact ⟨x,rfl⟩) (mz (fY pF) (fun d hd=>by obtain ⟨x,_,rfl⟩:=List.mem_map.mp hd;exact lO x) (oq nd fun a _ b _ e=>by have:=congrArg ie e;exact this))
theorem Cz (w:Wd) (hw:lI w) (n:Nat) (hb:iT n w) (hs:lH w) (ps:List Nat) (pm:ps.Perm (List.range w.m)):lI (gO w ps)∧iT n (gO w ps)∧lH (gO w ps)∧(gO w ps).m=w.m∧(gO w ps).ms.map Prod.fst=w.ms.map Prod.fst∧(gO w ps).ar.map Prod.fst=w.ar.map Prod.fst:=by
 have l:ps.length=w.m:=by rw [pm.length_eq,List.length_range]
 obtain ⟨h1,h2,h3,h4,h5⟩:=Lo w hw n hb ps l fun p hp=>by simpa using pm.mem_iff.mp hp
 refine ⟨h1,h2,⟨fun r hr=>?_,fun r hr=>?_⟩,h3,?_,?_⟩
 ·obtain ⟨q,hq,rfl⟩:=List.mem_map.mp (show r∈w.ms.map _ from hr)
  exact LW (oq (Kz (hs.mp q hq)) fun a ha b hb' e=>jk pm ((hb.mp q hq).2 a ha) ((hb.mp q hq).2 b hb') e)
 ·obtain ⟨q,hq,rfl⟩:=List.mem_map.mp (show r∈w.ar.map _ from hr)
  refine LX (oq (IJ (hs.ap q hq)) fun a ha b hb' e=>?_)
  have ra:=(hb.ap q hq).2 a ha
  have rb:=(hb.ap q hq).2 b hb'
  exact Prod.ext (jk pm ra.1 rb.1 (congrArg Prod.fst e)) (jk pm ra.2 rb.2 (congrArg Prod.snd e))
 ·show (w.ms.map _).map _=_
  rw [List.map_map]
  rfl
 ·show (w.ar.map _).map _=_
  rw [List.map_map]
  rfl
theorem qd (w:Wd) (hw:lI w) (n:Nat) (hn:n≤40) (hb:iT n w) (hs:lH w) (c:Int) (hc:0≤c):∃u:Wd,eG [.d w.d,.d (.int c)]=.ok (.d u.d)∧EB (n + 1) w u:=by
 have ml:=hw.ml
 have al:=hw.al
 have lo:=hw.lo
 have key:Wp (eG [.d w.d,.d (.int c)]) fun r=>∃u:Wd,r=.d u.d∧EB (n + 1) w u:=by
  refine nB (ri rfl rfl rfl ?_)
  have hadd:dh (.d (.int ((w.ms.map jJ).length:Nat))) (.d (.int ((w.ar.map nk).length:Nat)))=.ok (.d (.int ((w.ms.length + w.ar.length:Nat):Int))):=by rw [fp,List.length_map,List.length_map,←Int.natCast_add]
  by_cases c0:w.ms.length + w.ar.length=0
  ·refine cI (gR ?_ (b8 rfl rfl ⟨_,rfl,w,rfl,hw,⟨fun r hr=>⟨by have:=(hb.mp r hr).1;omega,(hb.mp r hr).2⟩,fun r hr=>⟨by have:=(hb.ap r hr).1;omega,(hb.ap r hr).2⟩⟩,hs,rfl,rfl,rfl⟩))
   show (g2 _ _ _ _ >>= _)=_
   rw [two (two (n1 rfl rfl) (n1 rfl rfl) hadd) rfl (eq_int _ _ _),c0]
   rfl
  ·have hs':(0:Int) < ((w.ms.length + w.ar.length:Nat):Int):=by omega
   have hm:(0:Int) < (w.m:Int):=by omega
   refine cZ ?_ (bD (two rfl (two (n1 rfl rfl) (n1 rfl rfl) hadd) (fX _ _ hs')) rfl (bD (two (two rfl rfl (kU _ 6 (by decide) (by decide))) rfl (fX _ _ hm)) rfl (bD rfl rfl ?_)))
   ·show (g2 _ _ _ _ >>= _)=_
    rw [two (two (n1 rfl rfl) (n1 rfl rfl) hadd) rfl (eq_int _ _ _)]
    show M.ok ((((w.ms.length + w.ar.length:Nat):Int)) == 0)=_
    rw [beq_eq_false_iff_ne.mpr (by omega)]
   obtain ⟨k,hk⟩:=lU (Int.emod_nonneg c (b:=((w.ms.length + w.ar.length:Nat):Int)) (by omega))
   have hkl:=Int.emod_lt_of_pos c hs'
   obtain ⟨p,hp⟩:=lU (Int.emod_nonneg (c / 6) (b:=(w.m:Int)) (by omega))
   have hpl:=Int.emod_lt_of_pos (c / 6) hm
   obtain ⟨q,hq⟩:=lU (Int.emod_nonneg (c / 48) (b:=(w.m:Int)) (by omega))
   have hql:=Int.emod_lt_of_pos (c / 48) hm
   rw [hk] at hkl
   rw [hp] at hpl
   rw [hq] at hql
   rw [hk,hp]
   by_cases ck:k < w.ms.length
   ·obtain ⟨L',o1,oS,oN,o2,o3⟩:=qF dN (fun p=>p < w.m) (fun xs=>xs.Pairwise (· < ·)) (fun xs p h=>h.filter p) n hn (fun _=>Nat.zero_le _) false (fun _=>rfl) LY w.ms ⟨hb.mp⟩ hs.mp ml k ck p (by show p < w.m;omega) (some (.d w.d)) (some (.d (.int c))) (.int w.m) (.tup (w.ms.map jJ)) (.tup (w.ar.map nk))
    refine cZ ?_ (Wp.of o3 ⟨_,rfl,⟨w.m,L',w.ar⟩,rfl,⟨lo,hw.hi,by show L'.length≤3;omega,al⟩,⟨o1.all,fun r hr=>⟨by have:=(hb.ap r hr).1;omega,(hb.ap r hr).2⟩⟩,⟨oS,hs.ap⟩,rfl,oN,rfl⟩)
    show M.ok (decide ((((w.ms.map jJ).length:Nat):Int)≤(k:Int)))=_
    rw [decide_eq_false (by simp;omega)]
   ·obtain ⟨L',o1,oS,oN,o2,o3⟩:=qF dP (fun p=>p.1 < w.m∧p.2 < w.m) (fun xs=>xs.Pairwise nL) (fun xs p h=>h.filter p) n hn (fun _=>(by decide:(1:Nat)≤1)) true (fun _=>rfl) LZ w.ar ⟨hb.ap⟩ hs.ap al (k - w.ms.length) (by omega) (p,q) (by show p < w.m∧q < w.m;omega) (some (.d w.d)) (some (.d (.int c))) (.int w.m) (.tup (w.ms.map jJ)) (.tup (w.ar.map nk))
    refine cI (gR ?_ (bD (x:=.d (.int ((k - w.ms.length:Nat):Int))) (two rfl (n1 rfl rfl) rfl) ?_ (bD (x:=.d (dP (p,q))) (bE (aL rfl rfl (aL (two (two rfl rfl (kU _ 48 (by decide) (by decide))) rfl (fX _ _ hm)) rfl bz)) t2) ?_ (fV rfl rfl (Wp.of o3 ⟨_,rfl,⟨w.m,w.ms,L'⟩,rfl,⟨lo,hw.hi,ml,by show L'.length≤3;omega⟩,⟨fun r hr=>⟨by have:=(hb.mp r hr).1;omega,(hb.mp r hr).2⟩,o1.all⟩,⟨hs.mp,oS⟩,rfl,rfl,oN⟩)))))
    ·show M.ok (decide ((((w.ms.map jJ).length:Nat):Int)≤(k:Int)))=_
     rw [decide_eq_true (by simp;omega)]
    ·show M.ok (S.d (.int ((k:Int) - (((w.ms.map jJ).length:Nat):Int))))=_
     rw [List.length_map,show (k:Int) - (w.ms.length:Int)=((k - w.ms.length:Nat):Int) by omega]
    ·show M.ok (S.d (.tup [.int p,.int (c / 48 % w.m)]))=_
     rw [hq]
 obtain ⟨_,h,u,rfl,hu⟩:=key
 exact ⟨u,h,hu⟩
theorem Hh (ns:List Int) (sz:List Nat) (hz:sz.length=8) (hs:∀n∈sz,1≤n∧n≤4):∃v w:Wd,ju [.bor (ns.map D.int),.bor (sz.map dN)]=.ok (.d (.tup [v.d,w.d]))∧Pr v w∧iT 30 v∧iT 30 w∧lH v∧lH w:=by
 have c0:=K51.iw ns 0
 have c1':=K51.iw ns 1
 have c2':=K51.iw ns 2
 have c9:=K51.iw ns 9
 have c10:=K51.iw ns 10
 have key:Wp (ju [.bor (ns.map D.int),.bor (sz.map dN)]) fun r=>∃v w:Wd,r=.d (.tup [v.d,w.d])∧Pr v w∧iT 30 v∧iT 30 w∧lH v∧lH w:=by
  refine nB (bD (c2 rfl rfl (K51.AZ ns 0)) rfl (bD (c2 rfl rfl (fu ns _ 1 rfl)) rfl ?_))
  obtain ⟨a,ha,ea⟩:=lP (xs:=[1,0,2,3]) (h:=dN) (.l .fresh ([1,0,2,3].map dN)) rfl (K51.bJ ns 1 % 4) (by omega) (by show _ < (4:Int);omega)
  obtain ⟨b,hb,eb⟩:=lP (xs:=[1,2,0,1,3]) (h:=dN) (.l .fresh ([1,2,0,1,3].map dN)) rfl (K51.bJ ns 1 / 4 % 5) (by omega) (by show _ < (5:Int);omega)
  have ha:a≤3:=by simp at ha;omega
  have hb:b≤3:=by simp at hb;omega
  obtain ⟨A,hA,lA⟩:=K51.yy (K51.bJ ns 1 / 20) (by omega) a ha
  obtain ⟨B,hB,lB⟩:=K51.yy (K51.bJ ns 2) (by omega) b hb
  refine bD (c2 rfl (two (lR rfl (by show 4≤1000;decide)) rfl ea) hA) rfl ?_
  refine cI (u_ rfl (fV (bE (aL rfl rfl (aL (c2 (c2 rfl rfl (fu ns _ 2 rfl)) (two (lR rfl (by show 5≤1000;decide)) rfl eb) hB) rfl bz)) (by show 2≤1000;decide)) rfl ?_))
  have mk:∀(m:Nat),1≤m∧m≤4→∀(j:Nat),∃w:Wd,K51.eX [.d (.tup [.lst (A.map .str),.lst (B.map .str)]),.d (.int m),.bor ((List.range 6).map fun k=>.int (K51.bJ ns (j + k)))]=.ok (.d w.d)∧lI w∧iT 16 w∧lH w∧w.m=m∧w.ms.map Prod.fst=A∧w.ar.map Prod.fst=B:=fun m hm j=>by
   obtain ⟨ms,rs,hw,h1,h2,h3,h4⟩:=K51.Hj m hm.1 (by omega) A B (by omega) (by omega) ((List.range 6).map fun k=>K51.bJ ns (j + k)) rfl
   rw [List.map_map] at hw
   have l1:=congrArg List.length h1
   have l2:=congrArg List.length h2
   rw [List.length_map] at l1 l2
   exact ⟨⟨m,ms,rs⟩,hw,⟨hm.1,by show m≤8;omega,by show ms.length≤3;omega,by show rs.length≤3;omega⟩,⟨fun r hr=>⟨by have:=(h3 r hr).1;omega,(h3 r hr).2.2⟩,fun r hr=>⟨K55.o6 (h4 r hr) hm.2,(h4 r hr).2.2⟩⟩,⟨fun r hr=>(h3 r hr).2.1,fun r hr=>(h4 r hr).2.1⟩,rfl,h1,h2⟩
  obtain ⟨m,hm,em⟩:=lP (xs:=sz) (h:=dN) (.l .bor (sz.map dN)) rfl (K51.bJ ns 0 % 8) (by omega) (by omega)
  obtain ⟨v,hv,vo,vb,vs,vm,vl,va⟩:=mk m (hs m hm) 3
  refine bD (c3 rfl (two rfl rfl em) (rY (xs:=List.range 6) (h:=dN) (fun k=>.int (K51.bJ ns (3 + k))) (nj rfl (by decide)) (by decide) fun k hk=>⟨_,c2 rfl (two rfl rfl (rE _ _)) (fu ns _ (3 + k) (by simp)),rfl⟩) hv) rfl ?_
  refine bD (two (two rfl rfl (kU _ 8 (by decide) (by decide))) rfl (fX _ 4 (by decide))) rfl ?_
  have up:∀{n:Nat}{w:Wd},n≤30→iT n w→Mi w:=fun hn h=>⟨fun r hr=>⟨by have:=(h.mp r hr).1;omega,(h.mp r hr).2⟩,fun r hr=>⟨by have:=(h.ap r hr).1;omega,(h.ap r hr).2⟩⟩
  have vm4:=(hs m hm).2
  have hw2:=Int.emod_nonneg (K51.bJ ns 0 / 8) (b:=4) (by decide)
  have hw3:=Int.emod_lt_of_pos (K51.bJ ns 0 / 8) (b:=4) (by decide)
  generalize K51.bJ ns 0 / 8 % 4=wy at hw2 hw3
  by_cases cw:wy=0
  ·subst cw
   obtain ⟨m2,hm2,em2⟩:=lP (xs:=sz) (h:=dN) (.l .bor (sz.map dN)) rfl (K51.bJ ns 0 / 32 % 8) (by omega) (by omega)
   obtain ⟨w,hw,wo,wb,ws,wm,wl,wa⟩:=mk m2 (hs m2 hm2) 9
   have:=(hs m2 hm2).2
   exact cI (gR rfl (b8 (bE (aL rfl rfl (aL (c3 rfl (two rfl (two (two rfl rfl (kU _ 32 (by decide) (by decide))) rfl (fX _ 8 (by decide))) em2) (rY (xs:=List.range 6) (h:=dN) (fun k=>.int (K51.bJ ns (9 + k))) (nj rfl (by decide)) (by decide) fun k hk=>⟨_,c2 rfl (two rfl rfl (rE _ _)) (fu ns _ (9 + k) (by simp)),rfl⟩) hw) rfl bz)) t2) rfl ⟨_,rfl,v,w,rfl,⟨vo,wo,by omega,by omega,by rw [vl,wl],by rw [va,wa]⟩,up (by decide) vb,up (by decide) wb,vs,ws⟩))
  ·refine cZ ?_ ?_
   ·show M.ok (wy == 0)=_
    rw [beq_eq_false_iff_ne.mpr cw]
   obtain ⟨ps,hps,pm⟩:=vd (K51.bJ ns 15) v.m vo.hi
   have lps:ps.length=v.m:=by rw [pm.length_eq,List.length_range]
   have ht:=vf v vo 16 (by decide) vb ps lps
   obtain ⟨to,tb,ts,tm,tl,ta⟩:=Cz v vo 16 vb vs ps pm
   refine bD (c2 rfl (c2 (c2 rfl rfl (fu ns _ 15 rfl)) (two rfl rfl (fN _ _)) hps) ht) rfl ?_
   obtain ⟨u1,f1,k1⟩:=qd (gO v ps) to 16 (by decide) tb ts (K51.bJ ns 9) c9
   obtain ⟨u2,f2,k2⟩:=qd u1 k1.ok 17 (by decide) k1.inn k1.srt (K51.bJ ns 10) c10
   have a1:=k1.m
   have a2:=k1.mn
   have a3:=k1.an
   have b1:=k2.m
   have b2:=k2.mn
   have b3:=k2.an
   have w3:wy=1∨wy=2∨wy=3:=by omega
   rcases w3 with rfl | rfl | rfl
   ·exact cZ rfl (cZ rfl (b8 (bE (aL rfl rfl (aL rfl rfl bz)) t2) rfl ⟨_,rfl,v,gO v ps,rfl,⟨vo,to,by omega,by omega,tl.symm,ta.symm⟩,up (by decide) vb,up (by decide) tb,vs,ts⟩))
   ·exact cI (gR rfl (fV (c2 rfl (c2 rfl rfl (fu ns _ 9 rfl)) f1) rfl (cZ rfl (b8 (bE (aL rfl rfl (aL rfl rfl bz)) t2) rfl ⟨_,rfl,v,u1,rfl,⟨vo,k1.ok,by omega,by omega,by rw [a2,tl],by rw [a3,ta]⟩,up (by decide) vb,up (by decide) k1.inn,vs,k1.srt⟩))))
   ·exact cI (gR rfl (fV (c2 rfl (c2 rfl rfl (fu ns _ 9 rfl)) f1) rfl (cI (gR rfl (fV (c2 rfl (c2 rfl rfl (fu ns _ 10 rfl)) f2) rfl (b8 (bE (aL rfl rfl (aL rfl rfl bz)) t2) rfl ⟨_,rfl,v,u2,rfl,⟨vo,k2.ok,by omega,by omega,by rw [b2,a2,tl],by rw [b3,a3,ta]⟩,up (by decide) vb,up (by decide) k2.inn,vs,k2.srt⟩))))))
 obtain ⟨_,h,v,w,rfl,hk⟩:=key
 exact ⟨v,w,h,hk⟩
theorem map_inj {α β:Type}{f:α→β}(hf:∀a b,f a=f b→a=b):∀{xs ys:List α},xs.map f=ys.map f→xs=ys
 | [],[],_=>rfl
 | [],_::_,h=>by cases h
 | _::_,[],h=>by cases h
 | x::xs,y::ys,h=>by
  rw [List.map_cons,List.map_cons] at h
  obtain ⟨h1,h2⟩:=List.cons.inj h
  rw [hf x y h1,map_inj hf h2]
def mF:Fm:=.tc .s (.tc (.hom .i) .tn)
def aF:Fm:=.tc .s (.tc (.hom pF) .tn)
def wF:Fm:=.tc .i (.tc (.hom mF) (.tc (.hom aF) .tn))
theorem wA (u:Wd):ir wF u.d:=by
 refine ⟨_,rfl,_,_,rfl,⟨_,rfl⟩,_,rfl,_,_,rfl,⟨_,rfl,fun x hx=>?_⟩,_,rfl,_,_,rfl,⟨_,rfl,fun x hx=>?_⟩,_,rfl,rfl⟩
 ·obtain ⟨r,_,rfl⟩:=List.mem_map.mp hx
  exact ⟨_,rfl,_,_,rfl,⟨_,rfl⟩,_,rfl,_,_,rfl,⟨_,rfl,fun y hy=>by obtain ⟨z,_,rfl⟩:=List.mem_map.mp hy;exact ⟨_,rfl⟩⟩,_,rfl,rfl⟩
 ·obtain ⟨r,_,rfl⟩:=List.mem_map.mp hx
  exact ⟨_,rfl,_,_,rfl,⟨_,rfl⟩,_,rfl,_,_,rfl,⟨_,rfl,fun y hy=>by obtain ⟨z,_,rfl⟩:=List.mem_map.mp hy;exact lO z⟩,_,rfl,rfl⟩
theorem CK (u:Wd):dep u.d≤60:=by
 have:=uR (wA u)
 have:pY wF≤10:=by decide
 omega
theorem HH (a b:Nat) (h:dN a=dN b):a=b:=congrArg jc h
theorem HJ (a b:Nat×Nat) (h:dP a=dP b):a=b:=congrArg ie h
theorem Lp {u w:Wd}:bq u.d w.d=true↔u=w:=by
 rw [(fY wF).eq _ _ (wA u) (wA w)]
 constructor
 ·intro h
  obtain ⟨m,ms,ar⟩:=u
  obtain ⟨m',ms',ar'⟩:=w
  unfold Wd.d at h
  simp only [D.tup.injEq,List.cons.injEq,D.int.injEq,and_true] at h
  obtain ⟨h1,h2,h3⟩:=h
  have e1:m=m':=by omega
  have e2:ms=ms':=map_inj (fun a b h=>by
   simp only [jJ,D.tup.injEq,List.cons.injEq,D.str.injEq,and_true] at h
   exact Prod.ext h.1 (map_inj HH h.2)) h2
  have e3:ar=ar':=map_inj (fun a b h=>by
   simp only [nk,D.tup.injEq,List.cons.injEq,D.str.injEq,and_true] at h
   exact Prod.ext h.1 (map_inj HJ h.2)) h3
  rw [e1,e2,e3]
 ·exact fun h=>by rw [h]
theorem wc {α:Type}{R:α→α→Prop}(as:∀a b,R a b→¬R b a):∀{A B:List α},A.Pairwise R→B.Pairwise R→(∀y,y∈A↔y∈B)→A=B
 | [],[],_,_,_=>rfl
 | [],b::B,_,_,h=>by have:=(h b).mpr List.mem_cons_self;cases this
 | a::A,[],_,_,h=>by have:=(h a).mp List.mem_cons_self;cases this
 | a::A,b::B,hA,hB,h=>by
  obtain ⟨a1,a2⟩:=List.pairwise_cons.mp hA
  obtain ⟨b1,b2⟩:=List.pairwise_cons.mp hB
  have e:a=b:=by
   rcases List.mem_cons.mp ((h a).mp List.mem_cons_self) with e | e
   ·exact e
   ·rcases List.mem_cons.mp ((h b).mpr List.mem_cons_self) with f | f
    ·exact f.symm
    ·exact absurd (b1 a e) (as a b (a1 b f))
  subst e
  have:A=B:=wc as a2 b2 fun y=>⟨fun hy=>by
    rcases List.mem_cons.mp ((h y).mp (List.mem_cons_of_mem _ hy)) with e | e
    ·subst e;exact absurd (a1 y hy) (as y y (a1 y hy))
    ·exact e,fun hy=>by
    rcases List.mem_cons.mp ((h y).mpr (List.mem_cons_of_mem _ hy)) with e | e
    ·subst e;exact absurd (b1 y hy) (as y y (b1 y hy))
    ·exact e⟩
  rw [this]
theorem q_ {α:Type}(h:α→D) (u:D→α) (hu:∀x,u (h x)=x) (xs:List α) (y:α):y∈(bg (xs.map h)).map u↔y∈xs:=by
 constructor
 ·exact sM h u hu xs y
 ·intro hy
  exact List.mem_map.mpr ⟨h y,(gW _).mem_iff.mpr (List.mem_map.mpr ⟨y,hy,rfl⟩),hu y⟩
theorem yY {v w:Wd}(t:Pr v w) (hm:w.m=v.m) (vb:iT 30 v) (wb:iT 30 w) (vs:lH v) (ws:lH w){σ:List Nat}(pm:σ.Perm (List.range v.m)):gO v σ=w↔yC v w σ:=by
 have l:σ.length=v.m:=by rw [pm.length_eq,List.length_range]
 have nd:σ.Nodup:=pm.nodup_iff.mpr List.nodup_range
 have rg:∀y∈σ,y < v.m:=fun y hy=>by simpa using pm.mem_iff.mp hy
 have mk:∀r∈v.ms,∀k (hk:k < σ.length),(k∈r.2↔σ[k]∈(bg ((r.2.map fun p=>σ.getD p 0).map dN)).map jc):=fun r hr k hk=>by
  rw [q_ dN jc nA,List.mem_map]
  constructor
  ·exact fun h=>⟨k,h,getD_at hk⟩
  ·rintro ⟨p,hp,e⟩
   rw [←getD_at hk] at e
   rw [←jk pm ((vb.mp r hr).2 p hp) (by omega) e]
   exact hp
 have ak:∀r∈v.ar,∀j k (hj:j < σ.length) (hk:k < σ.length),((j,k)∈r.2↔(σ[j],σ[k])∈(bg ((r.2.map fun p=>(σ.getD p.1 0,σ.getD p.2 0)).map dP)).map ie):=fun r hr j k hj hk=>by
  rw [q_ dP ie kW,List.mem_map]
  constructor
  ·exact fun h=>⟨(j,k),h,by rw [getD_at hj,getD_at hk]⟩
  ·rintro ⟨p,hp,e⟩
   have b:=(vb.ap r hr).2 p hp
   have e1:=congrArg Prod.fst e
   have e2:=congrArg Prod.snd e
   simp only at e1 e2
   rw [←getD_at hj] at e1
   rw [←getD_at hk] at e2
   rw [←jk pm b.1 (by omega) e1,←jk pm b.2 (by omega) e2]
   exact hp
 have tu:=Cz v t.vo 30 vb vs σ pm
 constructor
 ·intro e
  refine ⟨l,rg,nd,fun k hk=>?_,fun j k hj hk=>?_⟩
  ·rw [←e]
   show _=List.map _ (v.ms.map _)
   rw [List.map_map]
   exact List.map_congr_left fun r hr=>decide_eq_decide.mpr (mk r hr k hk)
  ·rw [←e]
   show _=List.map _ (v.ar.map _)
   rw [List.map_map]
   exact List.map_congr_left fun r hr=>decide_eq_decide.mpr (ak r hr j k hj hk)
 ·intro i
  have sur:∀y,y < v.m→∃k,∃hk:k < σ.length,σ[k]=y:=fun y hy=>by
   have:y∈σ:=pm.mem_iff.mpr (by simpa using hy)
   obtain ⟨k,hk,e⟩:=List.mem_iff_getElem.mp this
   exact ⟨k,hk,e⟩
  have e1:v.ms.map (fun r=>(r.1,(bg ((r.2.map fun p=>σ.getD p 0).map dN)).map jc))=w.ms:=by
   have lm:v.ms.length=w.ms.length:=by have:=congrArg List.length t.mn;simpa using this
   refine List.ext_getElem (by rw [List.length_map];exact lm) fun x h1 h2=>?_
   have hx:x < v.ms.length:=by omega
   rw [List.getElem_map]
   have n1:v.ms[x].1=w.ms[x].1:=by
    have h:(v.ms.map Prod.fst)[x]?=(w.ms.map Prod.fst)[x]?:=by rw [t.mn]
    rw [List.getElem?_map,List.getElem?_map,List.getElem?_eq_getElem hx,List.getElem?_eq_getElem h2] at h
    exact Option.some.inj h
   refine Prod.ext n1 (wc (R:=(· < ·)) (fun a b h h'=>by omega) ?_ (ws.mp _ (List.getElem_mem h2)) fun y=>?_)
   ·exact tu.2.2.1.mp _ (List.mem_map.mpr ⟨v.ms[x],List.getElem_mem hx,rfl⟩)
   ·have hin:∀k (hk:k < σ.length),(k∈v.ms[x].2↔σ[k]∈w.ms[x].2):=fun k hk=>by
     have h:(v.ms.map fun r=>decide (k∈r.2))[x]?=(w.ms.map fun r=>decide (σ[k]∈r.2))[x]?:=by rw [i.ms k hk]
     rw [List.getElem?_map,List.getElem?_map,List.getElem?_eq_getElem hx,List.getElem?_eq_getElem h2] at h
     exact decide_eq_decide.mp (Option.some.inj h)
    constructor
    ·intro hy
     have hy':=(q_ dN jc nA _ y).mp hy
     obtain ⟨p,hp,rfl⟩:=List.mem_map.mp hy'
     have hpm:=(vb.mp _ (List.getElem_mem hx)).2 p hp
     rw [getD_at (by omega)]
     exact (hin p (by omega)).mp hp
    ·intro hy
     have hym:=(wb.mp _ (List.getElem_mem h2)).2 y hy
     obtain ⟨k,hk,rfl⟩:=sur y (by omega)
     exact (mk _ (List.getElem_mem hx) k hk).mp ((hin k hk).mpr hy)
  have e2:v.ar.map (fun r=>(r.1,(bg ((r.2.map fun p=>(σ.getD p.1 0,σ.getD p.2 0)).map dP)).map ie))=w.ar:=by
   have lm:v.ar.length=w.ar.length:=by have:=congrArg List.length t.an;simpa using this
   refine List.ext_getElem (by rw [List.length_map];exact lm) fun x h1 h2=>?_
   have hx:x < v.ar.length:=by omega
   rw [List.getElem_map]
   have n1:v.ar[x].1=w.ar[x].1:=by
    have h:(v.ar.map Prod.fst)[x]?=(w.ar.map Prod.fst)[x]?:=by rw [t.an]
    rw [List.getElem?_map,List.getElem?_map,List.getElem?_eq_getElem hx,List.getElem?_eq_getElem h2] at h
    exact Option.some.inj h
   refine Prod.ext n1 (wc (R:=nL) (fun a b h h'=>by unfold nL at h h';omega) ?_ (ws.ap _ (List.getElem_mem h2)) fun y=>?_)
   ·exact tu.2.2.1.ap _ (List.mem_map.mpr ⟨v.ar[x],List.getElem_mem hx,rfl⟩)
   ·have hin:∀j k (hj:j < σ.length) (hk:k < σ.length),((j,k)∈v.ar[x].2↔(σ[j],σ[k])∈w.ar[x].2):=fun j k hj hk=>by
     have h:(v.ar.map fun r=>decide ((j,k)∈r.2))[x]?=(w.ar.map fun r=>decide ((σ[j],σ[k])∈r.2))[x]?:=by rw [i.ar j k hj hk]
     rw [List.getElem?_map,List.getElem?_map,List.getElem?_eq_getElem hx,List.getElem?_eq_getElem h2] at h
     exact decide_eq_decide.mp (Option.some.inj h)
    constructor
    ·intro hy
     have hy':=(q_ dP ie kW _ y).mp hy
     obtain ⟨p,hp,rfl⟩:=List.mem_map.mp hy'
     have hpm:=(vb.ap _ (List.getElem_mem hx)).2 p hp
     rw [getD_at (by omega),getD_at (by omega)]
     exact (hin p.1 p.2 (by omega) (by omega)).mp hp
    ·intro hy
     have hym:=(wb.ap _ (List.getElem_mem h2)).2 y hy
     obtain ⟨j,hj,ej⟩:=sur y.1 (by omega)
     obtain ⟨k,hk,ek⟩:=sur y.2 (by omega)
     have ey:y=(σ[j],σ[k]):=Prod.ext ej.symm ek.symm
     rw [ey] at hy ⊢
     exact (ak _ (List.getElem_mem hx) j k hj hk).mp ((hin j k hj hk).mpr hy)
  unfold gO
  rw [e1,e2,←hm]
theorem Hz {α:Type}(f:α→Bool):∀xs:List α,jr (xs.map fun x=>D.bl (f x))=some (xs.map f)
 | []=>rfl
 | x::xs=>by
  rw [List.map_cons]
  simp only [jr,Hz f xs]
  rfl
theorem anyM {α:Type}(f:α→Bool) (xs:List α):r6 [.l .fresh (xs.map fun x=>.bl (f x))]=.ok (.d (.bl (xs.any f))):=by
 unfold r6
 simp only [jw,aT,Hz]
 congr 3
 simp [List.any_map]
theorem vF {env:Ev}{a b:G R}{r:R}(h:a env=.ok (.d (.bl true))) (h2:b env=.ok r):i7 a b env=.ok r:=by
 unfold i7
 rw [h]
 exact h2
theorem E9 {env:Ev}{a b:G R}(h:a env=.ok (.d (.bl false))):i7 a b env=.ok (.d (.bl false)):=by
 unfold i7
 rw [h]
 rfl
theorem FT {env:Ev}{a:G R}{k:Bool}(h:a env=.ok (.d (.bl k))):oW a env=.ok (.d (.bl (!k))):=by
 unfold oW
 rw [h]
 rfl
def has (σ:List Nat) (ps:List (Nat×Nat)):Bool:=ps.all fun p=>σ.getD p.1 0 == p.2
theorem A0 {v w:Wd}(t:Pr v w) (vb:iT 30 v) (ps:List (Nat×Nat)) (hp:∀p∈ps,p.1 < v.m) (hl:ps.length≤100) (σ:List Nat) (hσ:σ.length=v.m):iO [.d v.d,.d w.d,.d (dg ps),.d (.tup (σ.map dN))]=.ok (.d (.bl (has σ ps && bq (gO v σ).d w.d))):=by
 have h1:gN i6 (aq (bH 2 [3] (dO (af 2)) (cY 2 (br (aC 0) (br (aC 1) dz))) cU (g2 (cM false) (g2 bf (af 2) (af 0)) (af 1))) aD) [some (.d v.d),some (.d w.d),some (.d (dg ps)),some (.d (.tup (σ.map dN)))]=.ok (.d (.bl (has σ ps))):=by
  refine n1 (jO (xs:=ps) (fun p=>dN p.1) (fun p=>dN p.2) (fun p=>.bl (σ.getD p.1 0 == p.2)) rfl (by omega) fun p hp'=>⟨_,two (two rfl rfl (wD (by rw [hσ];exact hp p hp'))) rfl rfl,?_⟩) (allM _ ps)
  show M.ok (D.bl (bq (dN (σ.getD p.1 0)) (dN p.2)))=_
  rw [K55.sY]
 have h2:g2 (cM false) (gN (aS 2 K55.d8) (aq (af 0) (aq (af 3) aD))) (af 1) [some (.d v.d),some (.d w.d),some (.d (dg ps)),some (.d (.tup (σ.map dN)))]=.ok (.d (.bl (bq (gO v σ).d w.d))):=
  two (c2 rfl rfl (vf v t.vo 30 (by decide) vb σ hσ)) rfl (uS false (.d (gO v σ).d) (.d w.d) (CK _) (CK _))
 refine dR (b8 (r:=.d (.bl (has σ ps && bq (gO v σ).d w.d))) ?_ rfl rfl)
 cases hc:has σ ps with
 | true=>rw [hc] at h1;exact vF h1 h2
 | false=>rw [hc] at h1;exact E9 h1
abbrev oD (o:List Nat):D:=.tup (o.map dN)
def jG (m:Nat) (o:List Nat):List (List Nat):=((List.range m).filter fun p=>!inD (dN p) (o.map dN)).map fun p=>o++[p]
def OR (m:Nat):Nat→List (List Nat)
 | 0=>[[]]
 | k + 1=>(OR m k).flatMap (jG m)
theorem uN {m:Nat}:∀(k:Nat){o:List Nat},o∈OR m k→o.length=k∧o.Nodup∧∀p∈o,p < m
 | 0,o,h=>by
  rw [show o=[] from List.mem_singleton.mp h]
  exact ⟨rfl,List.nodup_nil,fun _ h=>nomatch h⟩
 | k + 1,o,h=>by
  obtain ⟨a,h1,h2⟩:=List.mem_flatMap.mp h
  obtain ⟨p,h3,rfl⟩:=List.mem_map.mp h2
  obtain ⟨l,nd,rg⟩:=uN k h1
  obtain ⟨h4,h5⟩:=List.mem_filter.mp h3
  rw [K55.inN] at h5
  have hp:p∉a:=by simpa using h5
  refine ⟨by rw [List.length_append,l];rfl,List.nodup_append.mpr ⟨nd,List.pairwise_singleton _ _,fun x hx y hy e=>?_⟩,fun x hx=>?_⟩
  ·rw [List.mem_singleton.mp hy] at e
   exact hp (e▸hx)
  ·rcases List.mem_append.mp hx with h | h
   ·exact rg x h
   ·rw [List.mem_singleton.mp h];simpa using h4
theorem qi {m:Nat}(hm:m≤4):∀k,(OR m k).length≤4 ^ k
 | 0=>Nat.le_refl _
 | k + 1=>by
  have h:=mU (jG m) 4 (OR m k) fun o _=>by
   unfold jG
   rw [List.length_map]
   have:=List.length_filter_le (fun p=>!inD (dN p) (o.map dN)) (List.range m)
   rw [List.length_range] at this
   omega
  have h2:=Nat.mul_le_mul_right 4 (qi hm k)
  rw [Nat.pow_succ]
  exact Nat.le_trans h h2
def fs (k:Nat) (L:List D):S:=match k with
 | 0=>.own L
 | _ + 1=>.d (.lst L)
theorem CP (m:Nat) (h1:1≤m) (hm:m≤4):iP [.d (.int m)]=.ok (.d (.lst ((OR m m).map oD))):=by
 refine dR (cI (Ko rfl (fV (lR (aL (bE bz (by decide)) rfl bz) (by show 1≤1000;decide)) rfl ?_)))
 refine jt (ni (n:=m) rfl (by omega)) ?_
 refine kX (fun k env=>∃x y z:Option S,env=[some (.d (.int m)),some (fs k ((OR m k).map oD)),x,y,z]) ⟨none,none,none,rfl⟩ ?_ ?_
 ·rintro k hk _ ⟨x,y,z,rfl⟩
  refine ⟨_,rfl,bD rfl rfl ?_⟩
  have l0:=qi hm k
  have l1:=qi hm (k + 1)
  have p0:(4:Nat) ^ k≤4 ^ 4:=Nat.pow_le_pow_right (by decide) (by omega)
  have p1:(4:Nat) ^ (k + 1)≤4 ^ 4:=Nat.pow_le_pow_right (by decide) (by omega)
  have p2:(4:Nat) ^ 4=256:=by decide
  have loop:Wp (eZ (lg (af 1)) (aC 4) (mV 3 (bH 1 [4] (cH (aq (af 0) aD)) (aC 0) (bx (g2 (gH true) (af 0) (af 1))) (g2 dh (af 1) (bI (aB (af 0) aW))))) [some (.d (.int m)),some (.d (.lst ((OR m k).map oD))),some (.d (.int k)),some (.own []),z])
    (fun o=>∃e,o=.nx e∧∃z,e=[some (.d (.int m)),some (.d (.lst ((OR m k).map oD))),some (.d (.int k)),some (.own ((OR m (k + 1)).map oD)),z]):=by
   refine Ah (ds:=(OR m k).map oD) rfl ?_
   refine xX (fun j env=>∃z,env=[some (.d (.int m)),some (.d (.lst ((OR m k).map oD))),some (.d (.int k)),some (.own ((((OR m k).take j).flatMap (jG m)).map oD)),z]) _ ⟨z,rfl⟩ ?_ ?_
   ·rintro j hj _ ⟨z,rfl⟩
    rw [List.length_map] at hj
    rw [List.getElem_map]
    obtain ⟨lo,_,ro⟩:=uN k (List.getElem_mem hj)
    generalize ho:(OR m k)[j]=o at lo ro
    have lt:(((OR m k).take j).flatMap (jG m)).length≤1024:=by
     have:=mU (jG m) 4 ((OR m k).take j) fun o _=>by
      unfold jG
      rw [List.length_map]
      have:=List.length_filter_le (fun p=>!inD (dN p) (o.map dN)) (List.range m)
      rw [List.length_range] at this
      omega
     have h2:((OR m k).take j).length≤256:=by rw [List.length_take];omega
     omega
    have le:(jG m o).length≤4:=by
     unfold jG
     rw [List.length_map]
     have:=List.length_filter_le (fun p=>!inD (dN p) (o.map dN)) (List.range m)
     rw [List.length_range] at this
     omega
    refine ⟨_,rfl,EM (ys:=(jG m o).map oD) rfl (uP (xs:=List.range m) (h:=dN) (fun p=>!inD (dN p) (o.map dN)) (fun p=>oD (o++[p])) (nj rfl (by omega)) (by simp;omega) fun p hp=>⟨dS rfl rfl (uU true (dN p) (o.map dN) (Bs o) (Nat.zero_le _)),fun _=>⟨_,two rfl (bE (aL rfl rfl bz) (by show 1≤1000;decide)) (rD _ _ (by simp;omega)),?_⟩⟩) ?_ (by simp only [List.length_map];omega) ⟨_,rfl,some (.d (oD o)),?_⟩⟩
    ·show M.ok (D.tup (o.map dN++[dN p]))=M.ok (D.tup ((o++[p]).map dN))
     rw [List.map_append]
     rfl
    ·show M.ok _=M.ok _
     unfold jG
     rw [List.map_map]
     rfl
    ·rw [List.take_succ,List.getElem?_eq_getElem hj,ho,List.flatMap_append,List.map_append]
     show _=[_,_,_,some (S.own (_++((([o]:List (List Nat)).flatMap (jG m)).map oD))),_]
     rw [List.flatMap_singleton]
     rfl
   ·rintro _ ⟨z,rfl⟩
    rw [List.length_map,List.take_length]
    exact ⟨_,rfl,z,rfl⟩
  have fz:Wp (fU 1 (eZ (lg (af 1)) (aC 4) (mV 3 (bH 1 [4] (cH (aq (af 0) aD)) (aC 0) (bx (g2 (gH true) (af 0) (af 1))) (g2 dh (af 1) (bI (aB (af 0) aW)))))) [some (.d (.int m)),some (fs k ((OR m k).map oD)),some (.d (.int k)),some (.own []),z])
    (fun o=>∃e,o=.nx e∧∃z,e=[some (.d (.int m)),some (.d (.lst ((OR m k).map oD))),some (.d (.int k)),some (.own ((OR m (k + 1)).map oD)),z]):=by
   cases k with
   | zero=>exact u_ rfl loop
   | succ k=>exact CI rfl loop
  refine cI (fz.mono ?_)
  rintro o ⟨e,rfl,z',rfl⟩
  exact u_ rfl (fV rfl rfl ⟨_,rfl,_,_,z',rfl⟩)
 ·rintro _ ⟨x,y,z,rfl⟩
  obtain ⟨n,rfl⟩:∃n,m=n + 1:=⟨m - 1,by omega⟩
  exact b8 rfl rfl rfl
theorem CO (ns:List Int){v w:Wd}(t:Pr v w):∃ps:List (Nat×Nat),h_ [.bor (ns.map D.int),.d v.d,.d w.d]=.ok (.d (dg ps))∧(∀p∈ps,lD v w p)∧ps.length≤3:=by
 have vlo:=t.vo.lo
 have wlo:=t.wo.lo
 have c16:=K51.iw ns 16
 have key:Wp (h_ [.bor (ns.map D.int),.d v.d,.d w.d]) fun r=>∃ps:List (Nat×Nat),r=.d (dg ps)∧(∀p∈ps,lD v w p)∧ps.length≤3:=by
  obtain ⟨os,ho,pm⟩:=vd (K51.bJ ns 15) v.m t.vo.hi
  have lo:os.length=v.m:=by rw [pm.length_eq,List.length_range]
  refine nB (bD (c2 rfl rfl (K51.fu ns _ 16 rfl)) rfl (bD (c2 (c2 rfl rfl (K51.fu ns _ 15 rfl)) (two rfl rfl (fN _ _)) ho) rfl (bD rfl rfl ?_)))
  obtain ⟨n,hn⟩:=lU (Int.emod_nonneg (K51.bJ ns 16) (b:=4) (by decide))
  have hn4:=Int.emod_lt_of_pos (K51.bJ ns 16) (b:=4) (by decide)
  rw [hn] at hn4
  refine jt (ni (n:=n) (iI ((two rfl rfl (fX _ 4 (by decide))).trans (by rw [hn]))) (by omega)) ?_
  refine kX (fun k env=>∃(ps:List (Nat×Nat)) (a b c d:Option S),env=[some (.bor (ns.map D.int)),some (.d v.d),some (.d w.d),some (.d (.int (K51.bJ ns 16))),some (.d (.tup (os.map dN))),some (.own (ps.map dP)),a,b,c,d]∧(∀p∈ps,lD v w p)∧ps.length=k) ⟨[],none,none,none,none,rfl,fun _ h=>(nomatch h),rfl⟩ ?_ ?_
  ·rintro k hk _ ⟨ps,a,b,c,d,rfl,hr,hl⟩
   have ck:=K51.iw ns (17 + k)
   have hv:(0:Int) < (v.m:Int):=by omega
   have hw:(0:Int) < (w.m:Int):=by omega
   refine ⟨_,rfl,bD (c2 rfl (two rfl rfl (rE _ _)) (K51.fu ns _ (17 + k) (by simp))) rfl (bD (two rfl (two rfl rfl (fN _ _)) (fX _ _ hv)) rfl (bD (two (two rfl rfl (kU _ 8 (by decide) (by decide))) (two rfl rfl (fN _ _)) (fX _ _ hw)) rfl ?_))⟩
   obtain ⟨x,hx⟩:=lU (Int.emod_nonneg (K51.bJ ns (17 + k)) (b:=(v.m:Int)) (by omega))
   obtain ⟨y,hy⟩:=lU (Int.emod_nonneg (K51.bJ ns (17 + k) / 8) (b:=(w.m:Int)) (by omega))
   have hxl:=Int.emod_lt_of_pos (K51.bJ ns (17 + k)) hv
   have hyl:=Int.emod_lt_of_pos (K51.bJ ns (17 + k) / 8) hw
   rw [hx] at hxl ⊢
   rw [hy] at hyl ⊢
   have hix:=wD (ps:=os) (p:=x) (by omega)
   have app:∀(z:Nat),z < w.m→Wp (jH 5 (bI (aB (af 8) (aB (af 9) aW))) [some (.bor (ns.map D.int)),some (.d v.d),some (.d w.d),some (.d (.int (K51.bJ ns 16))),some (.d (.tup (os.map dN))),some (.own (ps.map dP)),some (.d (.int k)),some (.d (.int (K51.bJ ns (17 + k)))),some (.d (.int x)),some (.d (.int z))])
     (fun o=>∃e,o=.nx e∧∃(ps:List (Nat×Nat)) (a b c d:Option S),e=[some (.bor (ns.map D.int)),some (.d v.d),some (.d w.d),some (.d (.int (K51.bJ ns 16))),some (.d (.tup (os.map dN))),some (.own (ps.map dP)),a,b,c,d]∧(∀p∈ps,lD v w p)∧ps.length=k + 1):=fun z hz=>by
    refine oY rfl (bE (aL rfl rfl (aL rfl rfl bz)) t2) rfl (by rw [List.length_map];omega) ⟨_,rfl,ps++[(x,z)],_,_,_,_,by rw [List.map_append];rfl,fun p hp=>?_,by rw [List.length_append,hl];rfl⟩
    rcases List.mem_append.mp hp with h | h
    ·exact hr p h
    ·rw [List.mem_singleton.mp h];exact ⟨by show x < v.m;omega,hz⟩
   have ht:∃b,ji (bx (g2 (jM fun i j=>.bl (decide (j < i))) (g2 dF (g2 fT (af 3) (gC (.int 4))) (gC (.int 3))) (gC (.int 0)))) (bx (g2 (jM fun i j=>.bl (decide (i < j))) (g2 bf (af 4) (af 8)) (g2 bf (af 2) (gC (.int 0))))) [some (.bor (ns.map D.int)),some (.d v.d),some (.d w.d),some (.d (.int (K51.bJ ns 16))),some (.d (.tup (os.map dN))),some (.own (ps.map dP)),some (.d (.int k)),some (.d (.int (K51.bJ ns (17 + k)))),some (.d (.int x)),some (.d (.int y))]=.ok b∧(b=true→os.getD x 0 < w.m):=by
    have h1:bx (g2 (jM fun i j=>.bl (decide (j < i))) (g2 dF (g2 fT (af 3) (gC (.int 4))) (gC (.int 3))) (gC (.int 0))) [some (.bor (ns.map D.int)),some (.d v.d),some (.d w.d),some (.d (.int (K51.bJ ns 16))),some (.d (.tup (os.map dN))),some (.own (ps.map dP)),some (.d (.int k)),some (.d (.int (K51.bJ ns (17 + k)))),some (.d (.int x)),some (.d (.int y))]=.ok (decide (0 < K51.bJ ns 16 / 4 % 3)):=dS (two (two rfl rfl (kU _ 4 (by decide) (by decide))) rfl (fX _ 3 (by decide))) rfl rfl
    cases hc:decide (0 < K51.bJ ns 16 / 4 % 3) with
    | false=>rw [hc] at h1;exact ⟨false,vG h1,fun h=>nomatch h⟩
    | true=>
     rw [hc] at h1
     refine ⟨decide ((os.getD x 0:Int) < (w.m:Int)),rP h1 (dS (two rfl rfl hix) (two rfl rfl (fN _ _)) rfl),fun h=>?_⟩
     have:=of_decide_eq_true h
     omega
   obtain ⟨bb,hb1,hb2⟩:=ht
   refine cI (Dq hb1 (fun hc=>fV (two rfl rfl hix) rfl ?_) fun _=>om (app y (by omega)))
   exact app (os.getD x 0) (hb2 hc)
  ·rintro _ ⟨ps,a,b,c,d,rfl,hr,hl⟩
   exact b8 rfl rfl ⟨_,rfl,ps,rfl,hr,by omega⟩
 obtain ⟨_,h,ps,rfl,hk⟩:=key
 exact ⟨ps,h,hk⟩
structure All (v w:Wd):Prop where
 t:Pr v w
 vb:iT 30 v
 wb:iT 30 w
 vs:lH v
 ws:lH w
theorem yW {σ:List Nat}{ps:List (Nat×Nat)}(h:∀p∈ps,p.1 < σ.length):has σ ps=true↔∀p∈ps,p∈iE σ:=by
 unfold has
 rw [List.all_eq_true]
 constructor
 ·intro a p hp
  have:=a p hp
  rw [getD_at (h p hp)] at this
  exact kK.mpr ⟨h p hp,eq_of_beq this⟩
 ·intro a p hp
  obtain ⟨hk,e⟩:=kK.mp (a p hp)
  rw [getD_at hk,e]
  simp
theorem ne_int (a b:Nat):cM true (.d (.int a)) (.d (.int b))=.ok (.d (.bl (!(a == b)))):=by
 show M.ok (R.d (.bl (!((a:Int) == (b:Int)))))=_
 rw [show ((a:Int) == (b:Int))=(a == b) by rw [Bool.eq_iff_iff,beq_iff_eq,beq_iff_eq];omega]
theorem Ar {env:Ev}{a b:G Bool}{k:Bool}(h1:a env=.ok false) (h2:b env=.ok k):kr a b env=.ok k:=by
 unfold kr
 rw [h1]
 exact h2
theorem zd {σ:List Nat}{m:Nat}(nd:σ.Nodup) (l:σ.length=m) (rg:∀p∈σ,p < m):σ.Perm (List.range m):=
 (List.perm_ext_iff_of_nodup nd List.nodup_range).mpr fun y=>⟨fun h=>List.mem_range.mpr (rg y h),fun hy=>Classical.byContradiction fun hn=>by
  have:=List.Nodup.length_le_of_subset (List.nodup_cons.mpr ⟨hn,nd⟩) (l₂:=List.range m) fun z hz=>by
   rcases List.mem_cons.mp hz with rfl | hz
   ·exact hy
   ·exact List.mem_range.mpr (rg z hz)
  rw [List.length_cons,List.length_range] at this
  omega⟩
theorem xo {v w:Wd}(A:All v w) (ps:List (Nat×Nat)) (hp:∀p∈ps,p.1 < v.m) (hl:ps.length≤100) (hno:w.m=v.m→∀σ:List Nat,yC v w σ→¬∀p∈ps,p∈iE σ):dU [.d .non,.d v.d,.d w.d,.d (dg ps)]=.ok (.d (.bl true)):=by
 have t:=A.t
 refine dR (cI (gR (dS (b:=true) rfl rfl rfl) ?_))
 by_cases hm:v.m=w.m
 ·refine cZ (dS (b:=false) (two rfl rfl (fN _ _)) (two rfl rfl (fN _ _)) ?_) ?_
  ·show cM true (.d (.int (v.m:Nat))) (.d (.int (w.m:Nat)))=_
   rw [ne_int,hm]
   simp
  ·have lo:=qi t.v4 v.m
   have p1:(4:Nat) ^ v.m≤4 ^ 4:=Nat.pow_le_pow_right (by decide) t.v4
   have p2:(4:Nat) ^ 4=256:=by decide
   have hany:(OR v.m v.m).any (fun σ=>has σ ps && bq (gO v σ).d w.d)=false:=by
    rw [List.any_eq_false]
    intro σ hσ h
    obtain ⟨l,nd,rg⟩:=uN v.m hσ
    rw [Bool.and_eq_true,Lp] at h
    have pm:=zd nd l rg
    exact hno hm.symm σ ((yY t hm.symm A.vb A.wb A.vs A.ws pm).mp h.2) ((yW fun p hq=>by rw [l];exact hp p hq).mp h.1)
   refine b8 (FT (n1 (rY (xs:=OR v.m v.m) (h:=oD) (fun σ=>.bl (has σ ps && bq (gO v σ).d w.d)) ?_ (by omega) fun σ hσ=>⟨_,c4 rfl rfl rfl rfl (A0 t A.vb ps hp hl σ (uN v.m hσ).1),rfl⟩) (anyM _ _))) rfl ?_
   ·show (gN _ _ _ >>= _)=_
    rw [c1 (two rfl rfl (fN _ _)) (CP v.m t.vo.lo t.v4)]
    rfl
   ·rw [hany]
    rfl
 ·refine cI (gR (dS (b:=true) (two rfl rfl (fN _ _)) (two rfl rfl (fN _ _)) ?_) (b8 rfl rfl rfl))
  show cM true (.d (.int (v.m:Nat))) (.d (.int (w.m:Nat)))=_
  rw [ne_int,beq_eq_false_iff_ne.mpr hm]
  rfl
theorem Dk {v w:Wd}{σ:List Nat}(i:yC v w σ):σ.Perm (List.range v.m):=zd i.nd i.len i.rg
theorem Cr {v w:Wd}(A:All v w) (ps:List (Nat×Nat)) (hp:∀p∈ps,p.1 < v.m) (hl:ps.length≤100) (hm:w.m=v.m) (σ:List Nat) (i:yC v w σ) (hz:∀p∈ps,p∈iE σ):dU [.d (.tup (σ.map dN)),.d v.d,.d w.d,.d (dg ps)]=.ok (.d (.bl true)):=by
 have t:=A.t
 have v4:=t.v4
 have ln:=i.len
 have whole:∀y∈σ,i7 (gN (aS 1 K01.dW) (aq (af 0) aD)) (BB (fun i j=>decide (i≤j)) (fun i j=>decide (i < j)) (gC (.int 0)) (af 0) (g2 bf (af 1) (gC (.int 0)))) [some (.d (dN y)),some (.d v.d)]=.ok (.d (.bl true)):=fun y hy=>by
  have hy':=i.rg y hy
  have hw1:gN (aS 1 K01.dW) (aq (af 0) aD) [some (.d (dN y)),some (.d v.d)]=.ok (nZ (.d (.bl (Lw (dN y))))):=c1 rfl (E2 (dN y))
  refine vF hw1 ?_
  show (if decide ((0:Int)≤(y:Int))=true then (g2 bf (af 1) (gC (.int 0)) [some (.d (dN y)),some (.d v.d)] >>= fun z=>match z with
   | .d (.int k)=>M.ok (R.d (.bl (decide ((y:Int) < k))))
   | _=>.bad) else M.ok (R.d (.bl false)))=_
  rw [decide_eq_true (by omega),if_pos rfl,two (x:=.d v.d) rfl rfl (fN _ _)]
  show M.ok (R.d (.bl (decide ((y:Int) < (v.m:Int)))))=_
  rw [decide_eq_true (by omega)]
 have hall:bx (gN i6 (aq (bH 1 [1] (dO (af 0)) (aC 0) cU (i7 (gN (aS 1 K01.dW) (aq (af 0) aD)) (BB (fun i j=>decide (i≤j)) (fun i j=>decide (i < j)) (gC (.int 0)) (af 0) (g2 bf (af 1) (gC (.int 0)))))) aD)) [some (.d (.tup (σ.map dN))),some (.d v.d),some (.d w.d),some (.d (dg ps))]=.ok true:=by
  have e:σ.all (fun _=>true)=true:=by simp
  have:=allM (fun _:Nat=>true) σ
  rw [e] at this
  exact xS (n1 (rY (xs:=σ) (h:=dN) (fun _=>.bl true) rfl (by omega) fun y hy=>⟨_,whole y hy,rfl⟩) this)
 have hlen:bx (g2 (cM true) (gN mS (aq (af 0) aD)) (gN fB (aq (af 0) aD))) [some (.d (.tup (σ.map dN))),some (.d v.d),some (.d w.d),some (.d (dg ps))]=.ok false:=by
  have hu:mS [.d (.tup (σ.map dN))]=.ok (.d (.int (σ.length:Nat))):=by
   show (if lW (σ.map dN)=true then M.ok (R.d (.int (qx ((σ.map dN).map mE)).length)) else .bad)=_
   rw [if_pos (An σ (by omega))]
   obtain ⟨d1,d2⟩:=vX ((σ.map dN).map mE)
   have nd:((σ.map dN).map mE).Nodup:=by
    rw [List.map_map]
    exact oq i.nd fun a _ b _ e=>by
     have e:(a:Int)=(b:Int):=e
     omega
   rw [tK d1 nd d2,List.length_map,List.length_map]
  refine dS (n1 rfl hu) (n1 rfl rfl) ?_
  show cM true (.d (.int (σ.length:Nat))) (.d (.int ((σ.map dN).length:Nat)))=_
  rw [ne_int,List.length_map]
  simp
 refine dR (cZ (dS (b:=false) rfl rfl rfl) (cZ (Ar (o5 (b:=true) rfl) (Ar (dS (b:=false) (n1 rfl rfl) (two rfl rfl (fN _ _)) ?_) (dS (b:=false) (two rfl rfl (fN _ _)) (two rfl rfl (fN _ _)) ?_))) (cZ (Ar (o5 hall) hlen) ?_)))
 ·show cM true (.d (.int ((σ.map dN).length:Nat))) (.d (.int (v.m:Nat)))=_
  rw [ne_int,List.length_map,ln]
  simp
 ·show cM true (.d (.int (v.m:Nat))) (.d (.int (w.m:Nat)))=_
  rw [ne_int,hm]
  simp
 ·have e:=(yY t hm A.vb A.wb A.vs A.ws (Dk i)).mpr i
  have hh:=(yW fun p hq=>by rw [ln];exact hp p hq).mpr hz
  refine b8 (c4 rfl rfl rfl rfl (A0 t A.vb ps hp hl σ ln)) rfl ?_
  rw [hh,e,fS]
  rfl
theorem xq {v w:Wd}(A:All v w) (d:D) (qs ps:List (Nat×Nat)) (hr:jf [.d d]=.ok (.d (dg qs))) (hq:∀p,p∈qs↔p∈ps) (lq:qs.length≤100) (hp:∀p∈ps,p.1 < v.m) (lp:ps.length≤100):∃x:D,c_ [.d v.d,.d w.d,.d d]=.ok (.d x)∧dU [.d x,.d v.d,.d w.d,.d (dg ps)]=.ok (.d (.bl true)):=by
 by_cases hm:w.m=v.m
 ·have e:=A3 A.t hm d qs lq hr
  cases f:(told v w v.m).find? (qv v.m qs) with
  | some rs=>
   rw [f] at e
   refine ⟨_,e,?_⟩
   have h1:=List.mem_of_find?_eq_some f
   have h2:=List.find?_some f
   unfold qv at h2
   rw [Bool.and_eq_true,beq_iff_eq,List.all_eq_true] at h2
   obtain ⟨j,hj,hL⟩:=(pq v.m).mp h1
   obtain ⟨lj,g⟩:=(qU j).mp hL
   obtain ⟨z,i⟩:=Df hm g h2.1
   have:=Cr A ps hp lp hm (rs.map Prod.snd) i fun p hp'=>by
    have:=h2.2 p ((hq p).mpr hp')
    rw [K55.HU,decide_eq_true_eq] at this
    rw [←z];exact this
   rw [List.map_map] at this
   exact this
  | none=>
   rw [f] at e
   refine ⟨_,e,xo A ps hp lp fun _ σ i hz=>?_⟩
   rw [List.find?_eq_none] at f
   have hmem:iE σ∈told v w v.m:=(pq v.m).mpr ⟨v.m,Nat.le_refl _,(qU v.m).mpr ⟨by unfold iE;simp [i.len],Dj hm i⟩⟩
   refine f _ hmem ?_
   unfold qv
   rw [Bool.and_eq_true,beq_iff_eq,List.all_eq_true]
   refine ⟨by unfold iE;simp [i.len],fun q hq'=>?_⟩
   rw [K55.HU,decide_eq_true_eq]
   exact hz q ((hq q).mp hq')
 ·exact ⟨.non,A2 A.t hm d,xo A ps hp lp fun h=>absurd h hm⟩
theorem FP (ns:List Int) (h:ns.length≤63):rM [.bor (ns.map .int)]=.ok (.d (.bl true)):=by
 obtain ⟨v,w,hw,t,vb,wb,vs,ws⟩:=Hh ns [2,3,1,3,2,3,2,4] rfl (by decide)
 have A:All v w:=⟨t,vb,wb,vs,ws⟩
 obtain ⟨ps,hps,hr,hl⟩:=CO ns t
 obtain ⟨qs,h1,h2,h3⟩:=CQ ps (by omega)
 obtain ⟨x1,a1,b1⟩:=xq A (dg ps) qs ps h1 h2 (by omega) (fun p hp=>(hr p hp).1) (by omega)
 obtain ⟨x2,a2,b2⟩:=xq A .non [] [] A1 (fun p=>Iff.rfl) (by decide) (fun p hp=>by cases hp) (by decide)
 refine dR (ri (c2 rfl (lR rfl (by show 8≤1000;decide)) hw) rfl rfl (bD (c3 rfl rfl rfl hps) rfl ?_))
 refine cZ (o5 (b:=true) (sN (c4 (c3 rfl rfl rfl a1) rfl rfl rfl b1))) ?_
 refine cZ (o5 (b:=true) (sN (c4 (c3 rfl rfl rfl a2) rfl rfl (bE bz (by decide)) b2))) ?_
 exact b8 (c4 (c2 rfl rfl a2) rfl rfl (bE bz (by decide)) b2) rfl rfl
end K23
namespace K23
open PySem PySem.Spec PyProof.Rows L2 DL DX
theorem all_mk {l:PySem.W.OpenLaw}{w:World}{K:PySem.W.Frag}{h:Heap}{mg:Str→Option Value}{fa:Addr}(X:K.In h) (G:h.Ns mainGlobals mg) (hfa:mg "law"=some (.ref fa))
  {f0:Addr}{od0 an0:Option Addr}{sl0:Array (Option Value)}{oc0 kV0 dc0 pm0 cd0 ct0:Value}
  {f1:Addr}{od1 an1:Option Addr}{sl1:Array (Option Value)}{oc1 kV1 dc1 pm1 cd1 ct1:Value}
  {f2:Addr}{od2 an2:Option Addr}{sl2:Array (Option Value)}{oc2 kV2 dc2 pm2 cd2 ct2:Value}
  {f3:Addr}{od3 an3:Option Addr}{sl3:Array (Option Value)}{oc3 kV3 dc3 pm3 cd3 ct3:Value}
  {f4:Addr}{od4 an4:Option Addr}{sl4:Array (Option Value)}{oc4 kV4 dc4 pm4 cd4 ct4:Value}
  {f5:Addr}{od5 an5:Option Addr}{sl5:Array (Option Value)}{oc5 kV5 dc5 pm5 cd5 ct5:Value}
  {f6:Addr}{od6 an6:Option Addr}{sl6:Array (Option Value)}{oc6 kV6 dc6 pm6 cd6 ct6:Value}
  {f7:Addr}{od7 an7:Option Addr}{sl7:Array (Option Value)}{oc7 kV7 dc7 pm7 cd7 ct7:Value}
  {f8:Addr}{od8 an8:Option Addr}{sl8:Array (Option Value)}{oc8 kV8 dc8 pm8 cd8 ct8:Value}
  {f9:Addr}{od9 an9:Option Addr}{sl9:Array (Option Value)}{oc9 kV9 dc9 pm9 cd9 ct9:Value}
  {f10:Addr}{od10 an10:Option Addr}{sl10:Array (Option Value)}{oc10 kV10 dc10 pm10 cd10 ct10:Value}
  {f11:Addr}{od11 an11:Option Addr}{sl11:Array (Option Value)}{oc11 kV11 dc11 pm11 cd11 ct11:Value}
  {T12:Addr}{oT12:Value}{dT12:Option Addr}{nT12:Nat}{sT12:Array (Option Value)}
  {f12:Addr}{od12 an12:Option Addr}{sl12:Array (Option Value)}{oc12 kV12 dc12 pm12 cd12 ct12:Value}
  {f13:Addr}{od13 an13:Option Addr}{sl13:Array (Option Value)}{oc13 kV13 dc13 pm13 cd13 ct13:Value}
  {f14:Addr}{od14 an14:Option Addr}{sl14:Array (Option Value)}{oc14 kV14 dc14 pm14 cd14 ct14:Value}
  {f15:Addr}{od15 an15:Option Addr}{sl15:Array (Option Value)}{oc15 kV15 dc15 pm15 cd15 ct15:Value}
  {f16:Addr}{od16 an16:Option Addr}{sl16:Array (Option Value)}{oc16 kV16 dc16 pm16 cd16 ct16:Value}
  {f17:Addr}{od17 an17:Option Addr}{sl17:Array (Option Value)}{oc17 kV17 dc17 pm17 cd17 ct17:Value}
  {f18:Addr}{od18 an18:Option Addr}{sl18:Array (Option Value)}{oc18 kV18 dc18 pm18 cd18 ct18:Value}
  {f19:Addr}{od19 an19:Option Addr}{sl19:Array (Option Value)}{oc19 kV19 dc19 pm19 cd19 ct19:Value}
  {f20:Addr}{od20 an20:Option Addr}{sl20:Array (Option Value)}{oc20 kV20 dc20 pm20 cd20 ct20:Value}
  {f21:Addr}{od21 an21:Option Addr}{sl21:Array (Option Value)}{oc21 kV21 dc21 pm21 cd21 ct21:Value}
  {f22:Addr}{od22 an22:Option Addr}{sl22:Array (Option Value)}{oc22 kV22 dc22 pm22 cd22 ct22:Value}
  {f23:Addr}{od23 an23:Option Addr}{sl23:Array (Option Value)}{oc23 kV23 dc23 pm23 cd23 ct23:Value}
  {f24:Addr}{od24 an24:Option Addr}{sl24:Array (Option Value)}{oc24 kV24 dc24 pm24 cd24 ct24:Value}
  {f25:Addr}{od25 an25:Option Addr}{sl25:Array (Option Value)}{oc25 kV25 dc25 pm25 cd25 ct25:Value}
  {f26:Addr}{od26 an26:Option Addr}{sl26:Array (Option Value)}{oc26 kV26 dc26 pm26 cd26 ct26:Value}
  {t1:Tok}
  (a0:PySem.W.nsIn K mainGlobals "is_whole"=some (some (.ref f0)))
  (l0:K.lookup f0=some ⟨oc0,od0,.func (PySem.W.fnOf "is_whole" "is_whole" (aK iM) (aI iM) (au iM) .none kV0 dc0 pm0 an0 cd0 ct0),sl0⟩)
  (c0:PySem.W.codeIn K cd0 "is_whole"=true)
  (k0:PySem.W.keepIn K (.ref f0)=true)
  (a1:PySem.W.nsIn K mainGlobals "tongue_of"=some (some (.ref f1)))
  (l1:K.lookup f1=some ⟨oc1,od1,.func (PySem.W.fnOf "tongue_of" "tongue_of" (aK gX) (aI gX) (au gX) .none kV1 dc1 pm1 an1 cd1 ct1),sl1⟩)
  (c1:PySem.W.codeIn K cd1 "tongue_of"=true)
  (k1:PySem.W.keepIn K (.ref f1)=true)
  (a2:PySem.W.nsIn K mainGlobals "need_tongue"=some (some (.ref f2)))
  (l2:K.lookup f2=some ⟨oc2,od2,.func (PySem.W.fnOf "need_tongue" "need_tongue" (aK fK) (aI fK) (au fK) .none kV2 dc2 pm2 an2 cd2 ct2),sl2⟩)
  (c2:PySem.W.codeIn K cd2 "need_tongue"=true)
  (k2:PySem.W.keepIn K (.ref f2)=true)
  (a3:PySem.W.nsIn K mainGlobals "need_few_points"=some (some (.ref f3)))
  (l3:K.lookup f3=some ⟨oc3,od3,.func (PySem.W.fnOf "need_few_points" "need_few_points" (aK dc) (aI dc) (au dc) .none kV3 dc3 pm3 an3 cd3 ct3),sl3⟩)
  (c3:PySem.W.codeIn K cd3 "need_few_points"=true)
  (k3:PySem.W.keepIn K (.ref f3)=true)
  (a4:PySem.W.nsIn K mainGlobals "need_small"=some (some (.ref f4)))
  (l4:K.lookup f4=some ⟨oc4,od4,.func (PySem.W.fnOf "need_small" "need_small" (aK gz) (aI gz) (au gz) .none kV4 dc4 pm4 an4 cd4 ct4),sl4⟩)
  (c4:PySem.W.codeIn K cd4 "need_small"=true)
  (k4:PySem.W.keepIn K (.ref f4)=true)
  (a5:PySem.W.nsIn K mainGlobals "need_count"=some (some (.ref f5)))
  (l5:K.lookup f5=some ⟨oc5,od5,.func (PySem.W.fnOf "need_count" "need_count" (aK gy) (aI gy) (au gy) .none kV5 dc5 pm5 an5 cd5 ct5),sl5⟩)
  (c5:PySem.W.codeIn K cd5 "need_count"=true)
  (k5:PySem.W.keepIn K (.ref f5)=true)
  (a6:PySem.W.nsIn K mainGlobals "rising"=some (some (.ref f6)))
  (l6:K.lookup f6=some ⟨oc6,od6,.func (PySem.W.fnOf "rising" "rising" (aK j6) (aI j6) (au j6) .none kV6 dc6 pm6 an6 cd6 ct6),sl6⟩)
  (c6:PySem.W.codeIn K cd6 "rising"=true)
  (k6:PySem.W.keepIn K (.ref f6)=true)
  (a7:PySem.W.nsIn K mainGlobals "view"=some (some (.ref f7)))
  (l7:K.lookup f7=some ⟨oc7,od7,.func (PySem.W.fnOf "view" "view" (aK pg) (aI pg) (au pg) .none kV7 dc7 pm7 an7 cd7 ct7),sl7⟩)
  (c7:PySem.W.codeIn K cd7 "view"=true)
  (k7:PySem.W.keepIn K (.ref f7)=true)
  (a8:PySem.W.nsIn K mainGlobals "views"=some (some (.ref f8)))
  (l8:K.lookup f8=some ⟨oc8,od8,.func (PySem.W.fnOf "views" "views" (aK mC) (aI mC) (au mC) .none kV8 dc8 pm8 an8 cd8 ct8),sl8⟩)
  (c8:PySem.W.codeIn K cd8 "views"=true)
  (k8:PySem.W.keepIn K (.ref f8)=true)
  (a9:PySem.W.nsIn K mainGlobals "agree"=some (some (.ref f9)))
  (l9:K.lookup f9=some ⟨oc9,od9,.func (PySem.W.fnOf "agree" "agree" (aK mw) (aI mw) (au mw) .none kV9 dc9 pm9 an9 cd9 ct9),sl9⟩)
  (c9:PySem.W.codeIn K cd9 "agree"=true)
  (k9:PySem.W.keepIn K (.ref f9)=true)
  (a10:PySem.W.nsIn K mainGlobals "goes_behind"=some (some (.ref f10)))
  (l10:K.lookup f10=some ⟨oc10,od10,.func (PySem.W.fnOf "goes_behind" "goes_behind" (aK fH) (aI fH) (au fH) .none kV10 dc10 pm10 an10 cd10 ct10),sl10⟩)
  (c10:PySem.W.codeIn K cd10 "goes_behind"=true)
  (k10:PySem.W.keepIn K (.ref f10)=true)
  (a11:PySem.W.nsIn K mainGlobals "pairings"=some (some (.ref f11)))
  (l11:K.lookup f11=some ⟨oc11,od11,.func (PySem.W.fnOf "pairings" "pairings" (aK iN) (aI iN) (au iN) .none kV11 dc11 pm11 an11 cd11 ct11),sl11⟩)
  (c11:PySem.W.codeIn K cd11 "pairings"=true)
  (k11:PySem.W.keepIn K (.ref f11)=true)
  (a12:PySem.W.nsIn K mainGlobals "turning"=some (some (.ref f12)))
  (l12:K.lookup f12=some ⟨oc12,od12,.func (PySem.W.fnOf "turning" "turning" (aK gM) (aI gM) (au gM) (.ref T12) kV12 dc12 pm12 an12 cd12 ct12),sl12⟩)
  (c12:PySem.W.codeIn K cd12 "turning"=true)
  (k12:PySem.W.keepIn K (.ref f12)=true)
  (lT12:K.lookup T12=some ⟨oT12,dT12,.seq #[.none] nT12,sT12⟩)
  (a13:PySem.W.nsIn K mainGlobals "_law_cell"=some (some (.ref f13)))
  (l13:K.lookup f13=some ⟨oc13,od13,.func (PySem.W.fnOf "_law_cell" "_law_cell" (aK gU) (aI gU) (au gU) .none kV13 dc13 pm13 an13 cd13 ct13),sl13⟩)
  (c13:PySem.W.codeIn K cd13 "_law_cell"=true)
  (k13:PySem.W.keepIn K (.ref f13)=true)
  (a14:PySem.W.nsIn K mainGlobals "_law_names"=some (some (.ref f14)))
  (l14:K.lookup f14=some ⟨oc14,od14,.func (PySem.W.fnOf "_law_names" "_law_names" (aK gp) (aI gp) (au gp) .none kV14 dc14 pm14 an14 cd14 ct14),sl14⟩)
  (c14:PySem.W.codeIn K cd14 "_law_names"=true)
  (k14:PySem.W.keepIn K (.ref f14)=true)
  (a15:PySem.W.nsIn K mainGlobals "_law_bits"=some (some (.ref f15)))
  (l15:K.lookup f15=some ⟨oc15,od15,.func (PySem.W.fnOf "_law_bits" "_law_bits" (aK gT) (aI gT) (au gT) .none kV15 dc15 pm15 an15 cd15 ct15),sl15⟩)
  (c15:PySem.W.codeIn K cd15 "_law_bits"=true)
  (k15:PySem.W.keepIn K (.ref f15)=true)
  (a16:PySem.W.nsIn K mainGlobals "_law_world"=some (some (.ref f16)))
  (l16:K.lookup f16=some ⟨oc16,od16,.func (PySem.W.fnOf "_law_world" "_law_world" (aK gx) (aI gx) (au gx) .none kV16 dc16 pm16 an16 cd16 ct16),sl16⟩)
  (c16:PySem.W.codeIn K cd16 "_law_world"=true)
  (k16:PySem.W.keepIn K (.ref f16)=true)
  (a17:PySem.W.nsIn K mainGlobals "_law_order"=some (some (.ref f17)))
  (l17:K.lookup f17=some ⟨oc17,od17,.func (PySem.W.fnOf "_law_order" "_law_order" (aK gq) (aI gq) (au gq) .none kV17 dc17 pm17 an17 cd17 ct17),sl17⟩)
  (c17:PySem.W.codeIn K cd17 "_law_order"=true)
  (k17:PySem.W.keepIn K (.ref f17)=true)
  (a18:PySem.W.nsIn K mainGlobals "_law_turned"=some (some (.ref f18)))
  (l18:K.lookup f18=some ⟨oc18,od18,.func (PySem.W.fnOf "_law_turned" "_law_turned" (aK fG) (aI fG) (au fG) .none kV18 dc18 pm18 an18 cd18 ct18),sl18⟩)
  (c18:PySem.W.codeIn K cd18 "_law_turned"=true)
  (k18:PySem.W.keepIn K (.ref f18)=true)
  (a19:PySem.W.nsIn K mainGlobals "_law_flipped"=some (some (.ref f19)))
  (l19:K.lookup f19=some ⟨oc19,od19,.func (PySem.W.fnOf "_law_flipped" "_law_flipped" (aK eH) (aI eH) (au eH) .none kV19 dc19 pm19 an19 cd19 ct19),sl19⟩)
  (c19:PySem.W.codeIn K cd19 "_law_flipped"=true)
  (k19:PySem.W.keepIn K (.ref f19)=true)
  (a20:PySem.W.nsIn K mainGlobals "_law_two"=some (some (.ref f20)))
  (l20:K.lookup f20=some ⟨oc20,od20,.func (PySem.W.fnOf "_law_two" "_law_two" (aK iL) (aI iL) (au iL) .none kV20 dc20 pm20 an20 cd20 ct20),sl20⟩)
  (c20:PySem.W.codeIn K cd20 "_law_two"=true)
  (k20:PySem.W.keepIn K (.ref f20)=true)
  (a21:PySem.W.nsIn K mainGlobals "_law_whole"=some (some (.ref f21)))
  (l21:K.lookup f21=some ⟨oc21,od21,.func (PySem.W.fnOf "_law_whole" "_law_whole" (aK gw) (aI gw) (au gw) .none kV21 dc21 pm21 an21 cd21 ct21),sl21⟩)
  (c21:PySem.W.codeIn K cd21 "_law_whole"=true)
  (k21:PySem.W.keepIn K (.ref f21)=true)
  (a22:PySem.W.nsIn K mainGlobals "_law_orders"=some (some (.ref f22)))
  (l22:K.lookup f22=some ⟨oc22,od22,.func (PySem.W.fnOf "_law_orders" "_law_orders" (aK fF) (aI fF) (au fF) .none kV22 dc22 pm22 an22 cd22 ct22),sl22⟩)
  (c22:PySem.W.codeIn K cd22 "_law_orders"=true)
  (k22:PySem.W.keepIn K (.ref f22)=true)
  (a23:PySem.W.nsIn K mainGlobals "_law_pairs"=some (some (.ref f23)))
  (l23:K.lookup f23=some ⟨oc23,od23,.func (PySem.W.fnOf "_law_pairs" "_law_pairs" (aK gr) (aI gr) (au gr) .none kV23 dc23 pm23 an23 cd23 ct23),sl23⟩)
  (c23:PySem.W.codeIn K cd23 "_law_pairs"=true)
  (k23:PySem.W.keepIn K (.ref f23)=true)
  (a24:PySem.W.nsIn K mainGlobals "_law_does"=some (some (.ref f24)))
  (l24:K.lookup f24=some ⟨oc24,od24,.func (PySem.W.fnOf "_law_does" "_law_does" (aK gV) (aI gV) (au gV) .none kV24 dc24 pm24 an24 cd24 ct24),sl24⟩)
  (c24:PySem.W.codeIn K cd24 "_law_does"=true)
  (k24:PySem.W.keepIn K (.ref f24)=true)
  (a25:PySem.W.nsIn K mainGlobals "_law_right"=some (some (.ref f25)))
  (l25:K.lookup f25=some ⟨oc25,od25,.func (PySem.W.fnOf "_law_right" "_law_right" (aK gu) (aI gu) (au gu) .none kV25 dc25 pm25 an25 cd25 ct25),sl25⟩)
  (c25:PySem.W.codeIn K cd25 "_law_right"=true)
  (k25:PySem.W.keepIn K (.ref f25)=true)
  (a26:PySem.W.nsIn K mainGlobals "law"=some (some (.ref f26)))
  (l26:K.lookup f26=some ⟨oc26,od26,.func (PySem.W.fnOf "law" "law" (aK nt) (aI nt) (au nt) .none kV26 dc26 pm26 an26 cd26 ct26),sl26⟩)
  (c26:PySem.W.codeIn K cd26 "law"=true)
  (k26:PySem.W.keepIn K (.ref f26)=true)
  (z0:PySem.W.nsIn K mainGlobals "all"=some none)
  (z1:PySem.W.nsIn K mainGlobals "any"=some none)
  (z2:PySem.W.nsIn K mainGlobals "bool"=some none)
  (z3:PySem.W.nsIn K mainGlobals "int"=some none)
  (z4:PySem.W.nsIn K mainGlobals "isinstance"=some none)
  (z5:PySem.W.nsIn K mainGlobals "len"=some none)
  (z6:PySem.W.nsIn K mainGlobals "list"=some none)
  (z7:PySem.W.nsIn K mainGlobals "range"=some none)
  (z8:PySem.W.nsIn K mainGlobals "set"=some none)
  (z9:PySem.W.nsIn K mainGlobals "sorted"=some none)
  (z10:PySem.W.nsIn K mainGlobals "tuple"=some none)
  (gMOST_SMALL:PySem.W.nsIn K mainGlobals "MOST_SMALL"=some (some (.int 4 t1))):
  ∃fd:FuncData,(∀(s:Shared) (v:Value),BindsTo s fd ⟨[v],[]⟩ [("_law_script",v)])∧∀base:Heap,K.In base→base.Ns mainGlobals mg→eY l.prog w K mg base nC 6 fa fd ["_law_script"] (rB K 1 K23.rM):=by
 have e:=hfa.symm.trans (PySem.W.mg_of X G a26)
 cases e
 have F0:=bX (st:=iM) l0 c0 k0
 have F1:=bX (st:=gX) l1 c1 k1
 have F2:=bX (st:=fK) l2 c2 k2
 have F3:=bX (st:=dc) l3 c3 k3
 have F4:=bX (st:=gz) l4 c4 k4
 have F5:=bX (st:=gy) l5 c5 k5
 have F6:=bX (st:=j6) l6 c6 k6
 have F7:=bX (st:=pg) l7 c7 k7
 have F8:=bX (st:=mC) l8 c8 k8
 have F9:=bX (st:=mw) l9 c9 k9
 have F10:=bX (st:=fH) l10 c10 k10
 have F11:=bX (st:=iN) l11 c11 k11
 have F12:=Fw (st:=gM) l12 c12 k12 lT12
 have F13:=bX (st:=gU) l13 c13 k13
 have F14:=bX (st:=gp) l14 c14 k14
 have F15:=bX (st:=gT) l15 c15 k15
 have F16:=bX (st:=gx) l16 c16 k16
 have F17:=bX (st:=gq) l17 c17 k17
 have F18:=bX (st:=fG) l18 c18 k18
 have F19:=bX (st:=eH) l19 c19 k19
 have F20:=bX (st:=iL) l20 c20 k20
 have F21:=bX (st:=gw) l21 c21 k21
 have F22:=bX (st:=fF) l22 c22 k22
 have F23:=bX (st:=gr) l23 c23 k23
 have F24:=bX (st:=gV) l24 c24 k24
 have F25:=bX (st:=gu) l25 c25 k25
 have F26:=bX (st:=nt) l26 c26 k26
 have m:ff w K mg:=⟨PySem.W.mg_none_of X G z0,
   PySem.W.mg_none_of X G z1,
   PySem.W.mg_none_of X G z2,
   PySem.W.mg_none_of X G z3,
   PySem.W.mg_none_of X G z4,
   PySem.W.mg_none_of X G z5,
   PySem.W.mg_none_of X G z6,
   PySem.W.mg_none_of X G z7,
   PySem.W.mg_none_of X G z8,
   PySem.W.mg_none_of X G z9,
   PySem.W.mg_none_of X G z10,
   ⟨_,(.int 4),PySem.W.mg_of X G gMOST_SMALL,⟨_,rfl⟩,fun _=>(.int _)⟩⟩
 refine ⟨PySem.W.fnOf "law" "law" (aK nt) (aI nt) (au nt) .none kV26 dc26 pm26 an26 cd26 ct26,fun s v=>.of_eq rfl,fun base _ _=>?_⟩
 have C_is_whole:=yj (P:=l.prog) (w:=w) (base:=base) m F0 (PySem.W.mg_of X G a0)
 have C_tongue_of:=vV (P:=l.prog) (w:=w) (base:=base) m F1 (PySem.W.mg_of X G a1)
 have C_need_tongue:=rW (P:=l.prog) (w:=w) (base:=base) m C_tongue_of F2 (PySem.W.mg_of X G a2)
 have C_need_few_points:=nV (P:=l.prog) (w:=w) (base:=base) m F3 (PySem.W.mg_of X G a3)
 have C_need_small:=uz (P:=l.prog) (w:=w) (base:=base) m C_need_tongue C_need_few_points F4 (PySem.W.mg_of X G a4)
 have C_need_count:=uy (P:=l.prog) (w:=w) (base:=base) m C_is_whole F5 (PySem.W.mg_of X G a5)
 have C_rising:=Bk (P:=l.prog) (w:=w) (base:=base) m F6 (PySem.W.mg_of X G a6)
 have C_view:=Fd (P:=l.prog) (w:=w) (base:=base) m F7 (PySem.W.mg_of X G a7)
 have C_views:=C1 (P:=l.prog) (w:=w) (base:=base) m C_view F8 (PySem.W.mg_of X G a8)
 have C_agree:=CZ (P:=l.prog) (w:=w) (base:=base) m F9 (PySem.W.mg_of X G a9)
 have C_goes_behind:=rV (P:=l.prog) (w:=w) (base:=base) m C_agree F10 (PySem.W.mg_of X G a10)
 have C_pairings:=ym (P:=l.prog) (w:=w) (base:=base) m C_need_small C_need_count C_views C_agree C_goes_behind F11 (PySem.W.mg_of X G a11)
 have O_turning:=Aa (P:=l.prog) (w:=w) (base:=base) m C_need_small C_rising C_pairings F12
 have C_turning:=zU O_turning F12 (PySem.W.mg_of X G a12)
 have D_turning:=yi O_turning F12 (PySem.W.mg_of X G a12)
 have C__law_cell:=vN (P:=l.prog) (w:=w) (base:=base) m F13 (PySem.W.mg_of X G a13)
 have C__law_names:=um (P:=l.prog) (w:=w) (base:=base) m F14 (PySem.W.mg_of X G a14)
 have C__law_bits:=vM (P:=l.prog) (w:=w) (base:=base) m F15 (PySem.W.mg_of X G a15)
 have C__law_world:=uv (P:=l.prog) (w:=w) (base:=base) m C__law_bits F16 (PySem.W.mg_of X G a16)
 have C__law_order:=uo (P:=l.prog) (w:=w) (base:=base) m F17 (PySem.W.mg_of X G a17)
 have C__law_turned:=rT (P:=l.prog) (w:=w) (base:=base) m F18 (PySem.W.mg_of X G a18)
 have C__law_flipped:=qu (P:=l.prog) (w:=w) (base:=base) m F19 (PySem.W.mg_of X G a19)
 have C__law_two:=yh (P:=l.prog) (w:=w) (base:=base) m C__law_cell C__law_names C__law_world C__law_order C__law_turned C__law_flipped F20 (PySem.W.mg_of X G a20)
 have C__law_whole:=uu (P:=l.prog) (w:=w) (base:=base) m F21 (PySem.W.mg_of X G a21)
 have C__law_orders:=rS (P:=l.prog) (w:=w) (base:=base) m F22 (PySem.W.mg_of X G a22)
 have C__law_pairs:=uq (P:=l.prog) (w:=w) (base:=base) m C__law_cell C__law_order F23 (PySem.W.mg_of X G a23)
 have C__law_does:=vO (P:=l.prog) (w:=w) (base:=base) m C__law_turned F24 (PySem.W.mg_of X G a24)
 have C__law_right:=ur (P:=l.prog) (w:=w) (base:=base) m C__law_orders C__law_does C__law_whole F25 (PySem.W.mg_of X G a25)
 exact KH m C__law_two C__law_pairs C_turning C__law_right D_turning F26
theorem G4 (K:PySem.W.Frag) (H:Hp) (a:Addr) (ns:List Int) (hl:ns.length≤63) (hO:zE H) (hS:cA K H a (ns.map V.int)):rB K 1 K23.rM [.ref a] H (fun v _=>v=.bl true) fun _ _ _=>False:=by
 refine ⟨fun _=>none,[.bor (ns.map D.int)],fun _ _ z=>(by cases z),rfl,⟨_,[],rfl,⟨a,_,rfl,hS,?_⟩,rfl⟩,?_⟩
 ·exact K01.tZ ns
 ·rw [FP ns hl]
  intro v J H2 _ r
  cases r
  rfl
theorem walk {l:PySem.W.OpenLaw}{q:Program}{loose:List Str}{XP:(Str→Option Value)→Heap→Prop}{YP:World→Heap→Prop}{d:DefRec}{K:Params→PySem.W.Frag}(hn:l.most=some 63) (hdf:d.params.defaults=[])
  (hY:∀(w:World) (h:Heap),YP w h→(K w.params).In h)
  (F:∀(w:World) (mg:Str→Option Value) (fa:Addr) (h:Heap),(K w.params).In h→h.Ns mainGlobals mg→mg d.name=some (.ref fa)→
   ∃fd:FuncData,(∀(s:Shared) (u:Value),BindsTo s fd ⟨[u],[]⟩ [("_law_script",u)])∧∀base:Heap,(K w.params).In base→base.Ns mainGlobals mg→eY l.prog w (K w.params) mg base nC 6 fa fd ["_law_script"] (rB (K w.params) 1 K23.rM)):
  PySem.W.WalkO q loose XP YP l.row.toRowW d [] (fun f vs=>PySem.call f vs):=
 L2.Hg (n:=63) (k:=6) (x:="_law_script") (CX:=fun _=>nC) (sp:=fun w=>rB (K w.params) 1 K23.rM) hn (by decide) hdf ⟨rfl,by decide,by decide⟩ hY F (fun w H a ns hl hO hS=>G4 _ H a ns hl hO hS) fun _ _ _ _ _ z=>z
end K23
open PySem PySem.W PyProof.Rows
set_option maxRecDepth 100000 in
set_option maxHeartbeats 0 in
theorem PySem.Challenge.cw_pickalike_k23_orders_that_turn_holds : PySem.Challenge.rw_pickalike_k23_orders_that_turn.Holds := by
 refine holds_law K23.look fun said=>?_
 refine holds_open (q:=K23.VW) (XP:=XL K23.VW []) (YP:=Hook.says K23.HK) K23.left (Hook.of K23.HK) (Hook.keeps K23.HK) (fun s e=>xl_of s (Bool.and_eq_true_iff.mp e).1) XL.keeps (by rfl) (by rfl) (by rfl) (fun s e=>recFacts_of (Bool.and_eq_true_iff.mp e).2) (by rfl) said (by decide +kernel) ⟨rfl,rfl,rfl,rfl,rfl,by decide +kernel⟩ ?hw ?hc
 (case hw=>w_witness2)
 delta K23.HK
 k_fill
 refine K23.walk (l:=PySem.Challenge.rw_pickalike_k23_orders_that_turn) rfl rfl (K:=K23.KF) (fun w h Y=>PySem.W.kIn_of Y) ?F
 case F=>
  intro w mg fa h KX G hmg
  refine' K23.all_mk KX G hmg ?a0 ?l0 ?c0 ?k0 ?a1 ?l1 ?c1 ?k1 ?a2 ?l2 ?c2 ?k2 ?a3 ?l3 ?c3 ?k3 ?a4 ?l4 ?c4 ?k4 ?a5 ?l5 ?c5 ?k5 ?a6 ?l6 ?c6 ?k6 ?a7 ?l7 ?c7 ?k7 ?a8 ?l8 ?c8 ?k8 ?a9 ?l9 ?c9 ?k9 ?a10 ?l10 ?c10 ?k10 ?a11 ?l11 ?c11 ?k11 ?a12 ?l12 ?c12 ?k12 ?lT12 ?a13 ?l13 ?c13 ?k13 ?a14 ?l14 ?c14 ?k14 ?a15 ?l15 ?c15 ?k15 ?a16 ?l16 ?c16 ?k16 ?a17 ?l17 ?c17 ?k17 ?a18 ?l18 ?c18 ?k18 ?a19 ?l19 ?c19 ?k19 ?a20 ?l20 ?c20 ?k20 ?a21 ?l21 ?c21 ?k21 ?a22 ?l22 ?c22 ?k22 ?a23 ?l23 ?c23 ?k23 ?a24 ?l24 ?c24 ?k24 ?a25 ?l25 ?c25 ?k25 ?a26 ?l26 ?c26 ?k26 ?z0 ?z1 ?z2 ?z3 ?z4 ?z5 ?z6 ?z7 ?z8 ?z9 ?z10 ?gMOST_SMALL
  (case a0=>k_is)
  (case l0=>k_is)
  (case c0=>k_is)
  (case k0=>k_is)
  (case a1=>k_is)
  (case l1=>k_is)
  (case c1=>k_is)
  (case k1=>k_is)
  (case a2=>k_is)
  (case l2=>k_is)
  (case c2=>k_is)
  (case k2=>k_is)
  (case a3=>k_is)
  (case l3=>k_is)
  (case c3=>k_is)
  (case k3=>k_is)
  (case a4=>k_is)
  (case l4=>k_is)
  (case c4=>k_is)
  (case k4=>k_is)
  (case a5=>k_is)
  (case l5=>k_is)
  (case c5=>k_is)
  (case k5=>k_is)
  (case a6=>k_is)
  (case l6=>k_is)
  (case c6=>k_is)
  (case k6=>k_is)
  (case a7=>k_is)
  (case l7=>k_is)
  (case c7=>k_is)
  (case k7=>k_is)
  (case a8=>k_is)
  (case l8=>k_is)
  (case c8=>k_is)
  (case k8=>k_is)
  (case a9=>k_is)
  (case l9=>k_is)
  (case c9=>k_is)
  (case k9=>k_is)
  (case a10=>k_is)
  (case l10=>k_is)
  (case c10=>k_is)
  (case k10=>k_is)
  (case a11=>k_is)
  (case l11=>k_is)
  (case c11=>k_is)
  (case k11=>k_is)
  (case a12=>k_is)
  (case l12=>k_is)
  (case c12=>k_is)
  (case k12=>k_is)
  (case lT12=>k_is)
  (case a13=>k_is)
  (case l13=>k_is)
  (case c13=>k_is)
  (case k13=>k_is)
  (case a14=>k_is)
  (case l14=>k_is)
  (case c14=>k_is)
  (case k14=>k_is)
  (case a15=>k_is)
  (case l15=>k_is)
  (case c15=>k_is)
  (case k15=>k_is)
  (case a16=>k_is)
  (case l16=>k_is)
  (case c16=>k_is)
  (case k16=>k_is)
  (case a17=>k_is)
  (case l17=>k_is)
  (case c17=>k_is)
  (case k17=>k_is)
  (case a18=>k_is)
  (case l18=>k_is)
  (case c18=>k_is)
  (case k18=>k_is)
  (case a19=>k_is)
  (case l19=>k_is)
  (case c19=>k_is)
  (case k19=>k_is)
  (case a20=>k_is)
  (case l20=>k_is)
  (case c20=>k_is)
  (case k20=>k_is)
  (case a21=>k_is)
  (case l21=>k_is)
  (case c21=>k_is)
  (case k21=>k_is)
  (case a22=>k_is)
  (case l22=>k_is)
  (case c22=>k_is)
  (case k22=>k_is)
  (case a23=>k_is)
  (case l23=>k_is)
  (case c23=>k_is)
  (case k23=>k_is)
  (case a24=>k_is)
  (case l24=>k_is)
  (case c24=>k_is)
  (case k24=>k_is)
  (case a25=>k_is)
  (case l25=>k_is)
  (case c25=>k_is)
  (case k25=>k_is)
  (case a26=>k_is)
  (case l26=>k_is)
  (case c26=>k_is)
  (case k26=>k_is)
  (case z0=>k_is)
  (case z1=>k_is)
  (case z2=>k_is)
  (case z3=>k_is)
  (case z4=>k_is)
  (case z5=>k_is)
  (case z6=>k_is)
  (case z7=>k_is)
  (case z8=>k_is)
  (case z9=>k_is)
  (case z10=>k_is)
  (case gMOST_SMALL=>k_is)
