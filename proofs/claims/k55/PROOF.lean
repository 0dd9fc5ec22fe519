import PyProof.Rows.All
import Wide.All
import OpenK.AllK
import Wide.FinOn
import Lean
import PyProof.EqAt
import PyProof.EqKinds
import PyProof.TupleCall
import KE.KIsAll
import PyProof.ExcAttrAll.ValueError
import PyProof.NeKinds
import PyProof.InstStoreFacts
import KE.KUnpackStar
import KE.KSortTup
import PyProof.EnumFor
import PyProof.EnumStmt
import PyProof.ListRange
import PyProof.TupleKey
import PyProof.SetKind
import PyProof.Rows.SetFrom
import PyProof.SetRoads
import PyProof.CollectWalk
import PyProof.WalksMore
import PyProof.Rows.SortWalk
import PyProof.DictKinds
import PySem.Challenge.RW_pickalike_k55_whole_kinds_side_by_side
noncomputable section
set_option Elab.async false
set_option linter.all false
set_option maxRecDepth 100000
namespace L2
open PySem PySem.Spec PyProof.Rows
abbrev Key:=Sum Int Str
def Dy:Key→Value→Bool
 | .inl k,v=>Value.isInt k v
 | .inr x,v=>Value.isStrOf x v
def KL (w:World):Key→Int
 | .inl k=>hashInt k
 | .inr x=>hashStr w x
theorem dz:∀{k:Key}{v:Value},Dy k v=true→(∃i t,k=Sum.inl i∧v=Value.int i t)∨(∃x t,k=Sum.inr x∧v=Value.str x t)
 | .inl i,v,h=>by
  obtain ⟨t,e⟩:=Value.isInt_shape (k:=i) (v:=v) h
  exact .inl ⟨i,t,rfl,e⟩
 | .inr x,v,h=>by
  obtain ⟨t,e⟩:=Value.isStrOf_shape (x:=x) (v:=v) h
  exact .inr ⟨x,t,rfl,e⟩
theorem GR (a b:Int):decide ((Sum.inl a:Key)=Sum.inl b)=(a == b):=by
 by_cases e:a=b
 ·subst e;simp
 ·have h:¬(Sum.inl a:Key)=Sum.inl b:=fun q=>e (Sum.inl.inj q)
  rw [decide_eq_false h]
  exact (beq_eq_false_iff_ne.mpr e).symm
theorem GV (a b:Str):decide ((Sum.inr a:Key)=Sum.inr b)=decide (a=b):=by
 by_cases e:a=b
 ·subst e;simp
 ·have h:¬(Sum.inr a:Key)=Sum.inr b:=fun q=>e (Sum.inr.inj q)
  rw [decide_eq_false h,decide_eq_false e]
theorem GS (a:Int) (b:Str):decide ((Sum.inl a:Key)=Sum.inr b)=false:=decide_eq_false (fun q=>nomatch q)
theorem GU (a:Str) (b:Int):decide ((Sum.inr a:Key)=Sum.inl b)=false:=decide_eq_false (fun q=>nomatch q)
def q8 (prog:Program) (w:World):PySem.KeyKind prog w Key where
 is:=Dy
 hash:=KL w
 inj:=fun v a b ha hb=>by
  rcases dz ha with ⟨i,t,rfl,rfl⟩ | ⟨x,t,rfl,rfl⟩
  ·rcases dz hb with ⟨j,u,rfl,e⟩ | ⟨y,u,rfl,e⟩
   ·injection e with e1 _;rw [e1]
   ·exact nomatch e
  ·rcases dz hb with ⟨j,u,rfl,e⟩ | ⟨y,u,rfl,e⟩
   ·exact nomatch e
   ·injection e with e1 _;rw [e1]
 byValue:=fun k v h=>by
  rcases dz h with ⟨i,t,rfl,rfl⟩ | ⟨x,t,rfl,rfl⟩ <;> rfl
 pyHash:=fun hv h=>by
  rcases dz hv with ⟨i,t,rfl,rfl⟩ | ⟨x,t,rfl,rfl⟩
  ·exact wpAny_pyHash_int h
  ·exact wpAny_pyHash_str h
 eqBool:=fun hu hv h=>by
  rcases dz hu with ⟨i,t,rfl,rfl⟩ | ⟨x,t,rfl,rfl⟩
  ·rcases dz hv with ⟨j,u,rfl,rfl⟩ | ⟨y,u,rfl,rfl⟩
   ·rw [GR] at h;exact wpAny_eqBool_int h
   ·rw [GS] at h;exact SeqAt.EqAt.int_str i t y u _ _ _ _ h
  ·rcases dz hv with ⟨j,u,rfl,rfl⟩ | ⟨y,u,rfl,rfl⟩
   ·rw [GU] at h;exact SeqAt.EqAt.str_int x t j u _ _ _ _ h
   ·rw [GV] at h;exact wpAny_eqBool_str h
 «strs»:=fun k x t v h=>by
  rcases dz h with ⟨i,u,rfl,e⟩ | ⟨y,u,rfl,e⟩
  ·exact nomatch e
  ·injection e with e1 _
   subst e1
   cases v <;> rfl
inductive V where
 | non | bl (b:Bool) | int (i:Int) | str (x:Str) | byt (b:Array UInt8) | flt (b:UInt64) | ref (a:Addr) | ty (n:String)
 deriving DecidableEq
def RelV:V→Value→Prop
 | .non,u=>u=Value.none
 | .bl b,u=>u=Value.bool b
 | .int i,u=>∃t,u=Value.int i t
 | .str x,u=>∃t,u=Value.str x t
 | .byt b,u=>∃t,u=Value.bytes b t
 | .flt b,u=>∃t,u=Value.float b t
 | .ref a,u=>u=Value.ref a
 | .ty n,u=>u=Value.type n
abbrev Vals:List V→List Value→Prop:=Paired RelV
theorem Vals.length {xs:List V}{us:List Value}(r:Vals xs us):xs.length=us.length:=Paired.length r
theorem Vals.get:∀{xs:List V}{us:List Value}{i:Nat}{x:V},Vals xs us→xs[i]?=some x→∃u,us[i]?=some u∧RelV x u
 | _,_,_,_,.nil,e=>by simp at e
 | _,_,0,_,.cons r _,e=>by simp at e;subst e;exact ⟨_,rfl,r⟩
 | _,_,i + 1,x,.cons _ t,e=>by
  obtain ⟨u,h1,h2⟩:=Vals.get (i:=i) (x:=x) t (by simpa using e)
  exact ⟨u,by simpa using h1,h2⟩
theorem Vals.set {x:V}{u:Value}(r:RelV x u):∀{xs:List V}{us:List Value}(i:Nat),Vals xs us→Vals (xs.set i x) (us.set i u)
 | _,_,_,.nil=>.nil
 | _,_,0,.cons _ t=>.cons r t
 | _,_,i + 1,.cons q t=>.cons q (Vals.set r i t)
theorem Vals.append:∀{xs ys:List V}{us ws:List Value},Vals xs us→Vals ys ws→Vals (xs++ys) (us++ws)
 | _,_,_,_,.nil,s=>s
 | _,_,_,_,.cons r t,s=>.cons r (Vals.append t s)
theorem Vals.take:∀{xs:List V}{us:List Value}(n:Nat),Vals xs us→Vals (xs.take n) (us.take n)
 | _,_,0,_=>.nil
 | _,_,_ + 1,.nil=>.nil
 | _,_,n + 1,.cons r t=>.cons r (Vals.take n t)
theorem Vals.drop:∀{xs:List V}{us:List Value}(n:Nat),Vals xs us→Vals (xs.drop n) (us.drop n)
 | _,_,0,r=>r
 | _,_,_ + 1,.nil=>.nil
 | _,_,n + 1,.cons _ t=>Vals.drop n t
def Gg:Option V→Option Value→Prop
 | some v,some u=>RelV v u
 | none,none=>True
 | _,_=>False
def KV {κ:Type}:List (κ×V)→List (κ×Value)→Prop:=Paired fun (p:κ×V) (q:κ×Value)=>p.1=q.1∧RelV p.2 q.2
def kV:Key→V
 | .inl i=>.int i
 | .inr x=>.str x
inductive HO where
  | lst (xs:List V)
  | tup (xs:List V)
  | dK (kvs:List (Key×V)) | dT (kvs:List (List Key×V))
  | set (S:Int→Bool) (n:Nat)
  | ins (C dx:Addr) (fs:List (Str×V))
  | own (x:Addr)
  | xd (fs:List (Str×V))
  | met (f x:Addr)
  | rng (lo hi:Int)
  | frz (o:Obj) (u:HO)
  | tbl (ps:Array Value)
  | ext (φ:Heap→Prop)
abbrev Hp:=Addr→Option HO
def upd (H:Hp) (a:Addr) (o:HO):Hp:=fun b=>if b=a then some o else H b
theorem bS {H:Hp}{a:Addr}{o:HO}:upd H a o a=some o:=by unfold upd;rw [if_pos rfl]
theorem br {H:Hp}{a b:Addr}{o:HO}(h:b≠a):upd H a o b=H b:=by unfold upd;rw [if_neg h]
theorem dB {H:Hp}{a b:Addr}{o:HO}(h:H a=some o) (h':H b=none):a≠b:=by
 intro e;subst e;rw [h] at h';cases h'
section
variable (P:Program) (w:World)
def cF (H:Hp) (h:Heap) (a:Addr):HO→Prop
 | .lst xs=>xs.length≤sizeLine∧∃(its:List Value) (n:Nat),Vals xs its∧h.get? a=some {cls:=.type "list",data:=.seq its.toArray n}
 | .tup xs=>xs.length≤sizeLine∧∃its:List Value,Vals xs its∧IsTup h a its.toArray
 | .dK kvs=>kvs.length≤sizeLine∧(a == sysModules)=false∧∃vs,KV kvs vs∧h.DictOf (q8 P w) a vs
 | .dT kvs=>kvs.length≤sizeLine∧(a == sysModules)=false∧∃xs:List (List Key×Addr×Value),
   Paired (fun (p:List Key×V) (q:List Key×Addr×Value)=>p.1=q.1∧H q.2.1=some (.tup (p.1.map kV))∧RelV p.2 q.2.2) kvs xs∧
   ∃o es ep,h.get? a=some o∧o.ExactDict∧o.data=.dict es ep∧es.toList=xs.map (entryOfKey (tupleKind (q8 P w)))∧(xs.map (·.1)).Nodup
 | .set S n=>h.SetOf (intKind P w) a S n
 | .ins C dx fs=>H dx=some (.own a)∧fs.length≤1000∧dx≠a∧h.get? a=some (PySem.W.instObj C dx)∧
   ∃mA,h.Ns1 dx mA∧(∀f,Gg (fs.lookup f) (mA f))∧PySem.Within mA (fs.map (·.1))
 | .own _=>∃o,h.get? a=some o
 | .xd fs=>∃mA,h.Ns1 a mA∧∀f,Gg (fs.lookup f) (mA f)
 | .rng lo hi=>∃t u v,h.get? a=some {cls:=.type "range",data:=.fields #[.int lo t,.int hi u,.int 1 v]}
 | .frz o u=>h.get? a=some o∧cF H h a u
 | .tbl ps=>h.get? a=some {cls:=.none,data:=.fields ps}
 | .met f x=>h.get? a=some (PySem.W.methodObj (.ref f) (.ref x))
 | .ext φ=>φ h∧(∃o,h.get? a=some o)∧∀h1 h2:Heap,φ h1→(∀o,h1.get? a=some o→h2.get? a=some o)→φ h2
def fN (H:Hp) (h:Heap):Prop:=∀a o,H a=some o→cF P w H h a o
end
section
variable {P:Program}{w:World}{H H':Hp}{h h':Heap}{a:Addr}{o:HO}
theorem cF.lt (x:cF P w H h a o):a < h.objs.size:=by
 cases o with
 | lst xs=>obtain ⟨_,_,_,_,e⟩:=x;exact Heap.lt_size e
 | tup xs=>obtain ⟨_,_,_,p⟩:=x;exact p.lt
 | dK kvs=>obtain ⟨_,_,_,_,o,_,_,e,_⟩:=x;exact Heap.lt_size e
 | dT kvs=>obtain ⟨_,_,_,_,o,_,_,e,_⟩:=x;exact Heap.lt_size e
 | set S n=>obtain ⟨o,_,_,_,e,_⟩:=x;exact Heap.lt_size e
 | ins C dx fs=>obtain ⟨_,_,_,e,_⟩:=x;exact Heap.lt_size e
 | own y=>obtain ⟨_,e⟩:=x;exact Heap.lt_size e
 | xd fs=>obtain ⟨_,⟨_,_,_,e,_⟩,_⟩:=x;exact Heap.lt_size e
 | rng lo hi=>obtain ⟨_,_,_,e⟩:=x;exact Heap.lt_size e
 | frz ob u=>obtain ⟨e,_⟩:=x;exact Heap.lt_size e
 | tbl ps=>exact Heap.lt_size (show h.get? a=some _ from x)
 | met f y=>exact Heap.lt_size (show h.get? a=some _ from x)
 | ext φ=>obtain ⟨_,⟨_,e⟩,_⟩:=x;exact Heap.lt_size e
theorem Paired.mapP {α β:Type}{F G:α→β→Prop}:∀{l₁:List α}{l₂:List β},Paired F l₁ l₂→(∀a b,F a b→G a b)→Paired G l₁ l₂
 | _,_,.nil,_=>.nil
 | _,_,.cons r t,f=>.cons (f _ _ r) (Paired.mapP t f)
theorem cF.stay (x:cF P w H h a o) (k:∀b u,(b=a∨H b=some (.own a))→h.get? b=some u→h'.get? b=some u)
  (ho:∀b,H b=some (.own a)→H' b=some (.own a)) (ht:∀b xs,H b=some (.tup xs)→H' b=some (.tup xs)):cF P w H' h' a o:=by
 induction o with
 | lst xs=>obtain ⟨z,its,n,r,e⟩:=x;exact ⟨z,its,n,r,k _ _ (.inl rfl) e⟩
 | tup xs=>obtain ⟨z,its,r,ob,e,c⟩:=x;exact ⟨z,its,r,ob,k _ _ (.inl rfl) e,c⟩
 | dK kvs=>obtain ⟨z,y,vs,r,ob,es,ep,e,c⟩:=x;exact ⟨z,y,vs,r,ob,es,ep,k _ _ (.inl rfl) e,c⟩
 | dT kvs=>
  obtain ⟨z,y,xs,r,ob,es,ep,e,c⟩:=x
  exact ⟨z,y,xs,Paired.mapP r fun p q z=>⟨z.1,ht _ _ z.2.1,z.2.2⟩,ob,es,ep,k _ _ (.inl rfl) e,c⟩
 | set S n=>obtain ⟨ob,es,ep,t,e,c⟩:=x;exact ⟨ob,es,ep,t,k _ _ (.inl rfl) e,c⟩
 | ins C dx fs=>
  obtain ⟨d,z,ne,e,mA,⟨od,es,ep,e2,c⟩,r⟩:=x
  exact ⟨ho _ d,z,ne,k _ _ (.inl rfl) e,mA,⟨od,es,ep,k _ _ (.inr d) e2,c⟩,r⟩
 | own y=>obtain ⟨ob,e⟩:=x;exact ⟨ob,k _ _ (.inl rfl) e⟩
 | xd fs=>obtain ⟨mA,⟨od,es,ep,e,c⟩,r⟩:=x;exact ⟨mA,⟨od,es,ep,k _ _ (.inl rfl) e,c⟩,r⟩
 | rng lo hi=>obtain ⟨t,u,v,e⟩:=x;exact ⟨t,u,v,k _ _ (.inl rfl) e⟩
 | frz ob u ih=>obtain ⟨e,q⟩:=x;exact ⟨k _ _ (.inl rfl) e,ih q⟩
 | tbl ps=>
  have e:h.get? a=some {cls:=.none,data:=.fields ps}:=x
  show h'.get? a=some {cls:=.none,data:=.fields ps}
  exact k a _ (.inl rfl) e
 | met f y=>
  have e:h.get? a=some (PySem.W.methodObj (.ref f) (.ref y)):=x
  show h'.get? a=some (PySem.W.methodObj (.ref f) (.ref y))
  exact k a _ (.inl rfl) e
 | ext φ=>obtain ⟨p,⟨o,e⟩,st⟩:=x;exact ⟨st _ _ p fun o q=>k _ _ (.inl rfl) q,⟨o,k _ _ (.inl rfl) e⟩,st⟩
theorem fN.lt (x:fN P w H h) (e:H a=some o):a < h.objs.size:=(x a o e).lt
theorem fN.fresh (x:fN P w H h) (e:h.objs.size≤a):H a=none:=by
 cases q:H a with
 | none=>rfl
 | some u=>exact absurd (Nat.lt_of_lt_of_le (x.lt q) e) (Nat.lt_irrefl _)
theorem fN.kept (x:fN P w H h) (k:∀b u,h.get? b=some u→h'.get? b=some u):fN P w H h':=fun a o e=>
 (x a o e).stay (fun b u _ q=>k b u q) (fun _ q=>q) fun _ _ q=>q
theorem fN.laid (x:fN P w H h) (k:∀b u,h.get? b=some u→h'.get? b=some u) (hp:h.objs.size≤a) (new:cF P w (upd H a o) h' a o):fN P w (upd H a o) h':=fun b u e=>by
 have hn:=x.fresh hp
 by_cases hb:b=a
 ·subst hb;rw [bS] at e;cases e;exact new
 ·rw [br hb] at e
  exact (x b u e).stay (fun c v _ q=>k c v q) (fun c q=>by rw [br (dB q hn)];exact q) fun c xs q=>by rw [br (dB q hn)];exact q
end
def Rd (H:Hp) (a:Addr) (u:HO):Prop:=H a=some u∨∃o,H a=some (.frz o u)
theorem Rd.ok {P:Program}{w:World}{H:Hp}{h:Heap}{a:Addr}{u:HO}(r:Rd H a u) (x:fN P w H h):cF P w H h a u:=by
 rcases r with r | ⟨o,r⟩
 ·exact x a u r
 ·obtain ⟨_,q⟩:=x a _ r
  exact q
def Di:Option HO→Prop
 | some (.lst _)=>True
 | some (.dK _)=>True
 | some (.dT _)=>True
 | some (.set _ _)=>True
 | some (.ins _ _ _)=>True
 | some (.ext _)=>True
 | _=>False
section
variable {P:Program}{w:World}{H:Hp}{h h':Heap}{x e:Addr}{o':HO}
theorem fN.write (ok:fN P w H h) (mu:Di (H x)) (he:e=x∨H e=some (.own x)) (k:∀b u,b≠e→h.get? b=some u→h'.get? b=some u) (heo:∃u,h'.get? e=some u)
  (new:cF P w (upd H x o') h' x o'):fN P w (upd H x o') h':=fun b u q=>by
 have nown:∀c y,H c=some (.own y)→c≠x:=fun c y r z=>by subst z;rw [r] at mu;exact mu
 have ntup:∀c xs,H c=some (.tup xs)→c≠x:=fun c xs r z=>by subst z;rw [r] at mu;exact mu
 by_cases hb:b=x
 ·subst hb;rw [bS] at q;cases q;exact new
 ·rw [br hb] at q
  by_cases hbe:b=e
  ·have q':H b=some (.own x):=by
    rcases he with z | z
    ·exact absurd (hbe.trans z) hb
    ·rw [hbe];exact z
   rw [q] at q';cases q'
   obtain ⟨v,hv⟩:=heo
   exact ⟨v,by rw [hbe];exact hv⟩
  ·refine (ok b u q).stay (fun c v hc r=>k c v ?_ r) (fun c r=>by rw [br (nown c b r)];exact r) fun c xs r=>by rw [br (ntup c xs r)];exact r
   rcases hc with rfl | hc
   ·exact hbe
   ·rintro rfl
    rcases he with z | z
    ·exact nown c b hc z
    ·rw [hc] at z;cases z;exact hb rfl
end
structure Un (fs ex:List Addr) (H H':Hp) (h h':Heap):Prop where
 keep:∀b o,h.get? b=some o→H b=none→b∉fs→b∉ex→h'.get? b=some o
 slot:∀b o,h.get? b=some o→H b=none→b∈fs→b∉ex→∃sl,h'.get? b=some {o with slots:=sl}
 free:∀b o,h.get? b=some o→H b=none→b∉ex→H' b=none
 there:∀b o,h.get? b=some o→b∉ex→∃o',h'.get? b=some o'
 tups:∀b xs,H b=some (.tup xs)→H' b=some (.tup xs)
 frzs:∀b o u,H b=some (.frz o u)→H' b=some (.frz o u)
 tbls:∀b ps,H b=some (.tbl ps)→∃more,H' b=some (.tbl (ps++more))
section
variable {fs fs' ex ex':List Addr}{H H1 H2:Hp}{h h1 h2 h':Heap}{a x e:Addr}{o:HO}
theorem Un.any (u:Un fs ex H H1 h h1){b:Addr}{ob:Obj}(q:h.get? b=some ob) (n:H b=none) (hx:b∉ex):∃sl,h1.get? b=some {ob with slots:=sl}:=by
 by_cases hb:b∈fs
 ·exact u.slot b ob q n hb hx
 ·exact ⟨ob.slots,u.keep b ob q n hb hx⟩
theorem Un.kept (k:∀b u,h.get? b=some u→h'.get? b=some u):Un fs ex H H h h':=
 ⟨fun b ob q _ _ _=>k b ob q,fun b ob q _ _ _=>⟨ob.slots,k b ob q⟩,fun _ _ _ n _=>n,fun b ob q _=>⟨ob,k b ob q⟩,fun _ _ q=>q,fun _ _ _ q=>q,fun _ ps q=>⟨#[],by rw [q];simp⟩⟩
theorem Un.refl:Un fs ex H H h h:=Un.kept fun _ _ q=>q
theorem Un.laid (k:∀b u,h.get? b=some u→h'.get? b=some u) (hp:h.objs.size≤a) (hn:H a=none):Un fs ex H (upd H a o) h h' where
 keep:=fun b u q _ _ _=>k b u q
 slot:=fun b u q _ _ _=>⟨u.slots,k b u q⟩
 free:=fun b u q n _=>by rw [br (Nat.ne_of_lt (Nat.lt_of_lt_of_le (Heap.lt_size q) hp))];exact n
 there:=fun b u q _=>⟨u,k b u q⟩
 tups:=fun b xs q=>by rw [br (dB q hn)];exact q
 frzs:=fun b u xs q=>by rw [br (dB q hn)];exact q
 tbls:=fun b ps q=>⟨#[],by rw [br (dB q hn),q];simp⟩
theorem Un.write (mu:Di (H x)) (he:e=x∨H e=some (.own x)) (k:∀b u,b≠e→h.get? b=some u→h'.get? b=some u) (heo:∃u,h'.get? e=some u):Un fs ex H (upd H x o) h h':=by
 have hx:∀b,H b=none→b≠x:=fun b n z=>by subst z;rw [n] at mu;exact mu
 have hb:∀b,H b=none→b≠e:=fun b n z=>by
  subst z
  rcases he with r | r
  ·exact hx b n r
  ·rw [n] at r;cases r
 have hm:∀b u,H b=some u→¬Di (some u)→b≠x:=fun b u q nm z=>by subst z;rw [q] at mu;exact nm mu
 refine ⟨fun b u q n _ _=>k b u (hb b n) q,fun b u q n _ _=>⟨u.slots,k b u (hb b n) q⟩,fun b u q n _=>by rw [br (hx b n)];exact n,fun b u q _=>?_,
  fun b xs q=>by rw [br (hm b _ q fun z=>z)];exact q,fun b u xs q=>by rw [br (hm b _ q fun z=>z)];exact q,fun b ps q=>⟨#[],by rw [br (hm b _ q fun z=>z),q];simp⟩⟩
 by_cases hbe:b=e
 ·subst hbe;exact heo
 ·exact ⟨u,k b u hbe q⟩
end
def Ba (h:Heap) (H:Hp):List Addr:=(List.range h.objs.size).filter fun a=>(H a).isSome
def lF (h:Heap) (H:Hp):Heap:=PySem.W.hideAll h (Ba h H)
theorem Ag (h:Heap) (H:Hp):(lF h H).objs.size=h.objs.size:=PySem.W.hideAll_size _ _
theorem BP {h:Heap}{H:Hp}{b:Addr}{o:Obj}(e:h.get? b=some o) (n:H b=none):(lF h H).get? b=some o:=
 PySem.W.hideAll_get _ e fun hm=>by
  have q:(H b).isSome=true:=(List.mem_filter.mp hm).2
  rw [n] at q;simp at q
theorem EC {h:Heap}{H:Hp}{b:Addr}{o:Obj}(e:(lF h H).get? b=some o):h.get? b=some o∧H b=none:=by
 have e':h.get? b=some o:=PySem.W.of_hideAll (Ba h H) e
 refine ⟨e',?_⟩
 cases q:H b with
 | none=>rfl
 | some x=>
  have hm:b∈Ba h H:=List.mem_filter.mpr ⟨List.mem_range.mpr (Heap.lt_size e'),by simp [q]⟩
  have z:(lF h H).get? b=none:=PySem.W.hideAll_none (Ba h H) hm
  rw [z] at e;cases e
def DU (g h:Heap) (L:Addr):List (Addr×Obj):=(List.range h.objs.size).filterMap fun a=>if a=L∨(g.get? a).isSome=true then none else (h.get? a).map fun o=>(a,o)
def rest (g h:Heap) (L d:Addr):List (Addr×Obj):=(DU g h L).filter fun p=>decide (p.1≠d)
structure Mod (K:PySem.W.Frag) (mg:Str→Option Value) (base:Heap):Prop where
 kin:K.In base
 glob:base.Ns mainGlobals mg
 blt:∃mb,base.Ns builtinsNs mb∧∀x:Str,x≠"__name__"→mb x=bootBuiltins x
 nolimit:base.NoLimit
structure Cx where
 prog:Program
 w:World
 K:PySem.W.Frag
 mg:Str→Option Value
 base:Heap
 A:Around
 N:List Str
 s₀:Shared
 H₀:Hp
 env:Env
 outer:List Env
 stack:List Env
 ex:List Addr
 fn:Str→Bool
 calm:Bool
 pn:List (Addr×Obj)
 xe:Value→Shared→Prop
def frs (l:List Env):List Addr:=l.filterMap (·.frame)
abbrev Cx.fs (X:Cx):List Addr:=frs X.outer
def kC (sc:Scope) (x:Str):Prop:=sc.names.lookup x=some .local∨sc.names.lookup x=some .cell∨sc.names.lookup x=some .free
def Loc (sc:Scope) (x:Str):Prop:=sc.names.lookup x=some .local∨sc.names.lookup x=some .cell
def Look (env:Env) (h:Heap) (m:Str→Option Value) (x:Str) (u:Value):Prop:=
 (env.kindOf x=some .local∧m x=some u)∨((env.kindOf x=some .cell∨env.kindOf x=some .free)∧∃c,env.cells.lookup x=some c∧h.IsCell c (some u))
structure Cx.Ok (X:Cx):Prop where
 mod:Mod X.K X.mg X.base
 kind:X.env.scope.kind=.function
 glob:X.env.globals=mainGlobals
 blt:X.env.builtins=builtinsNs
 above:X.s₀.heap.objs.size≤X.env.locals
 inj:∀x y c,X.env.cells.lookup x=some c→X.env.cells.lookup y=some c→x=y
 has:∀x,(X.env.kindOf x=some .cell∨X.env.kindOf x=some .free)→∃c,X.env.cells.lookup x=some c
 cab:∀x c,X.fn x=true→X.env.cells.lookup x=some c→X.s₀.heap.objs.size≤c
 hd:X.calm=true→X.A.handled=none
 frames:X.A.frames=some X.stack
 stk:X.stack=X.outer∨(X.stack=X.env::X.outer∧X.env.frame=some X.env.locals)
 exf:∀b∈X.ex,b≠X.env.locals∧∀x c,X.env.cells.lookup x=some c→c≠b
 bs:∀b o,X.base.get? b=some o→X.s₀.heap.get? b=some o∧X.H₀ b=none
 bsz:X.base.objs.size≤X.s₀.heap.objs.size
 noex:∀b o,X.base.get? b=some o→b∉X.ex
 exfs:∀b∈X.ex,b∉X.fs
 funs:X.s₀.heap.FunFrames X.base X.outer
 frf:∀b∈X.fs,X.H₀ b=none
structure Inv (X:Cx) (pins:List (Addr×Obj)) (σ:List (Option V)) (H:Hp) (s:Shared):Prop where
 ok:X.Ok
 os:s.os=X.s₀.os
 bare:AllBare s.gens
 base:Un X.fs X.ex X.H₀ H X.s₀.heap s.heap
 loc:∃m,s.heap.Ns X.env.locals m∧∀(i:Nat) (x:Str) (v:V),X.N[i]?=some x→σ[i]?=some (some v)→kC X.env.scope x→∃u,RelV v u∧Look X.env s.heap m x u
 cell:∀x c,X.env.cells.lookup x=some c→∃v,s.heap.IsCell c v
 free:H X.env.locals=none
 freeC:∀x c,X.env.cells.lookup x=some c→H c=none
 pin:∀p∈X.pn++pins,s.heap.get? p.1=some p.2∧H p.1=none∧p.1≠X.env.locals∧p.1∉X.fs∧∀v,p.2.data≠.cell v
 hok:fN X.prog X.w H s.heap
 len:σ.length=X.N.length
section
variable {X:Cx}{pins:List (Addr×Obj)}{σ:List (Option V)}{H H':Hp}{s:Shared}{h':Heap}
theorem Cx.Ok.nofr (ok:X.Ok){b:Addr}{o:Obj}(e:X.base.get? b=some o):b∉X.fs:=fun hb=>by
 have:=(ok.funs.mem hb).1
 rw [e] at this;cases this
theorem Inv.bs (I:Inv X pins σ H s):∀b o,X.base.get? b=some o→s.heap.get? b=some o∧H b=none:=fun b o e=>
 ⟨I.base.keep b o (I.ok.bs b o e).1 (I.ok.bs b o e).2 (I.ok.nofr e) (I.ok.noex b o e),I.base.free b o (I.ok.bs b o e).1 (I.ok.bs b o e).2 (I.ok.noex b o e)⟩
theorem Inv.bk (I:Inv X pins σ H s):∀b o,X.base.get? b=some o→s.heap.get? b=some o:=fun b o e=>(I.bs b o e).1
theorem Inv.mod (I:Inv X pins σ H s):Mod X.K X.mg X.base:=I.ok.mod
theorem Inv.kIn (I:Inv X pins σ H s):X.K.In s.heap:=I.ok.mod.kin.keeps I.bk
theorem Inv.lt (I:Inv X pins σ H s):X.env.locals < s.heap.objs.size:=let ⟨_,hn,_⟩:=I.loc;hn.lt
theorem Inv.sz (I:Inv X pins σ H s):X.s₀.heap.objs.size≤s.heap.objs.size:=Nat.le_trans I.ok.above (Nat.le_of_lt I.lt)
theorem Inv.nofs (I:Inv X pins σ H s){a:Addr}(h:s.heap.objs.size≤a):a∉X.fs:=fun hb=>by
 obtain ⟨_,o,ho,_⟩:=I.ok.funs.mem hb
 exact absurd (Nat.lt_of_lt_of_le (Heap.lt_size ho) (Nat.le_trans I.sz h)) (Nat.lt_irrefl _)
theorem Inv.cne (I:Inv X pins σ H s):∀x c,X.env.cells.lookup x=some c→c≠X.env.locals:=fun x c e z=>by
 obtain ⟨v,o,ho,hd⟩:=I.cell x c e
 obtain ⟨m,⟨o',es,ep,ho',hd',_⟩,_⟩:=I.loc
 rw [z,ho'] at ho;cases ho;rw [hd'] at hd;cases hd
theorem Inv.funs (I:Inv X pins σ H s):s.heap.FunFrames X.base X.outer:=by
 have all:∀(l:List Env),(∀b∈frs l,b∈X.fs)→X.s₀.heap.FunFrames X.base l→s.heap.FunFrames X.base l:=by
  intro l
  induction l with
  | nil=>intro _ _;trivial
  | cons env r ih=>
   intro hs hl
   obtain ⟨hk,⟨L,o,hf,hn,ho,hd⟩,hr⟩:=hl
   have hL:L∈X.fs:=hs L (by unfold frs;rw [List.filterMap_cons,hf];exact List.mem_cons_self)
   obtain ⟨sl,e⟩:=I.base.slot L o ho (I.ok.frf L hL) hL fun z=>I.ok.exfs L z hL
   exact ⟨hk,⟨L,_,hf,hn,e,hd⟩,ih (fun b hb=>hs b (by unfold frs;rw [List.filterMap_cons,hf];exact List.mem_cons_of_mem _ hb)) hr⟩
 exact all X.outer (fun _ hb=>hb) I.ok.funs
theorem Inv.stack (I:Inv X pins σ H s):s.heap.FunFrames X.base X.stack:=by
 rcases I.ok.stk with e | ⟨e,hf⟩
 ·rw [e];exact I.funs
 ·rw [e]
  obtain ⟨m,hn,_⟩:=I.loc
  refine .cons (by rw [I.ok.kind];decide) hf hn ?_ I.funs
  exact Heap.get?_none_of_le (Nat.le_trans I.ok.bsz I.ok.above)
theorem Inv.stkSub (I:Inv X pins σ H s):∀b∈frs X.stack,b∈X.env.locals::X.fs:=fun b hb=>by
 rcases I.ok.stk with e | ⟨e,hf⟩
 ·rw [e] at hb;exact List.mem_cons_of_mem _ hb
 ·rw [e] at hb
  unfold frs at hb
  rw [List.filterMap_cons,hf] at hb
  exact hb
theorem Inv.stkFree (I:Inv X pins σ H s):∀b∈frs X.stack,H b=none:=fun b hb=>by
 rcases List.mem_cons.mp (I.stkSub b hb) with e | hb
 ·rw [e];exact I.free
 ·obtain ⟨_,o,ho,_⟩:=I.ok.funs.mem hb
  exact I.base.free b o ho (I.ok.frf b hb) fun z=>I.ok.exfs b z hb
theorem Inv.step {g':Array GenState}{t':Nat}{d':Drawn}{ch:List Addr}(I:Inv X pins σ H s)
  (hch:∀b∈ch,(b∈X.ex∨X.s₀.heap.objs.size≤b)∧b≠X.env.locals∧(∀x c,X.env.cells.lookup x=some c→c≠b)∧∀p∈X.pn++pins,p.1≠b)
  (keep:∀b o,b≠X.env.locals→b∉X.fs→b∉ch→s.heap.get? b=some o→H b=none→h'.get? b=some o)
  (slot:∀b o,b≠X.env.locals→b∈X.fs→b∉ch→s.heap.get? b=some o→H b=none→∃sl,h'.get? b=some {o with slots:=sl}) (free:∀b o,b∉ch→s.heap.get? b=some o→H b=none→H' b=none)
  (there:∀b o,b∉ch→s.heap.get? b=some o→∃o',h'.get? b=some o')
  (tups:∀b xs,H b=some (.tup xs)→H' b=some (.tup xs)) (frzs:∀b o u,H b=some (.frz o u)→H' b=some (.frz o u)) (tbls:∀b ps,H b=some (.tbl ps)→∃more,H' b=some (.tbl (ps++more)))
  (ns:∀m,s.heap.Ns X.env.locals m→h'.Ns X.env.locals m) (hok:fN X.prog X.w H' h') (hg:AllBare g'):
  Inv X pins σ H' {s with heap:=h',gens:=g',drawn:=d',toks:=t'}:=by
 have neL:∀b o,X.s₀.heap.get? b=some o→b≠X.env.locals:=fun b o e=>Nat.ne_of_lt (Nat.lt_of_lt_of_le (Heap.lt_size e) I.ok.above)
 have neC:∀b o,X.s₀.heap.get? b=some o→b∉X.ex→b∉ch:=fun b o e hx hb=>by
  rcases (hch b hb).1 with z | z
  ·exact hx z
  ·exact absurd (Nat.lt_of_lt_of_le (Heap.lt_size e) z) (Nat.lt_irrefl _)
 have cellK:∀x c,X.env.cells.lookup x=some c→∀v,s.heap.IsCell c v→h'.IsCell c v:=fun x c e v ⟨o,ho,hd⟩=>by
  have nch:c∉ch:=fun z=>(hch c z).2.2.1 x c e rfl
  by_cases hc:c∈X.fs
  ·obtain ⟨sl,q⟩:=slot c o (I.cne x c e) hc nch ho (I.freeC x c e)
   exact ⟨_,q,hd⟩
  ·exact ⟨o,keep c o (I.cne x c e) hc nch ho (I.freeC x c e),hd⟩
 refine ⟨I.ok,I.os,hg,⟨fun b o e n hb hx=>?_,fun b o e n hb hx=>?_,fun b o e n hx=>?_,fun b o e hx=>?_,fun b xs e=>tups b xs (I.base.tups b xs e),fun b o xs e=>frzs b o xs (I.base.frzs b o xs e),fun b ps e=>?_⟩,?_,fun x c e=>?_,?_,fun x c e=>?_,fun p hp=>?_,hok,I.len⟩
 ·exact keep b o (neL b o e) hb (neC b o e hx) (I.base.keep b o e n hb hx) (I.base.free b o e n hx)
 ·obtain ⟨sl,e1⟩:=I.base.slot b o e n hb hx
  obtain ⟨sl',e2⟩:=slot b _ (neL b o e) hb (neC b o e hx) e1 (I.base.free b o e n hx)
  exact ⟨sl',e2⟩
 ·obtain ⟨o',e1⟩:=I.base.there b o e hx
  exact free b o' (neC b o e hx) e1 (I.base.free b o e n hx)
 ·obtain ⟨o',e1⟩:=I.base.there b o e hx
  exact there b o' (neC b o e hx) e1
 ·obtain ⟨m1,e1⟩:=I.base.tbls b ps e
  obtain ⟨m2,e2⟩:=tbls b _ e1
  exact ⟨m1++m2,by rw [e2,Array.append_assoc]⟩
 ·obtain ⟨m,hn,hl⟩:=I.loc
  refine ⟨m,ns m hn,fun i x v e1 e2 e3=>?_⟩
  obtain ⟨u,r,l⟩:=hl i x v e1 e2 e3
  refine ⟨u,r,?_⟩
  rcases l with l | ⟨k,c,e,z⟩
  ·exact .inl l
  ·exact .inr ⟨k,c,e,cellK x c e _ z⟩
 ·obtain ⟨v,z⟩:=I.cell x c e
  exact ⟨v,cellK x c e v z⟩
 ·obtain ⟨m,⟨o,_,_,ho,_⟩,_⟩:=I.loc
  exact free _ o (fun z=>(hch _ z).2.1 rfl) ho I.free
 ·obtain ⟨v,o,ho,hd⟩:=I.cell x c e
  exact free c o (fun z=>(hch c z).2.2.1 x c e rfl) ho (I.freeC x c e)
 ·obtain ⟨e,n,ne,nf,d⟩:=I.pin p hp
  have nch:p.1∉ch:=fun z=>(hch p.1 z).2.2.2 p hp rfl
  exact ⟨keep p.1 p.2 ne nf nch e n,free p.1 p.2 nch e n,ne,nf,d⟩
theorem Inv.un {t':Nat}(I:Inv X pins σ H s) (u:Un X.fs [] H H' s.heap h') (hok:fN X.prog X.w H' h'):Inv X pins σ H' {s with heap:=h',toks:=t'}:=by
 obtain ⟨m,⟨o,es,ep,ho,r⟩,_⟩:=id I.loc
 obtain ⟨sl,hL⟩:=u.any ho I.free (by simp)
 exact I.step (g':=s.gens) (d':=s.drawn) (ch:=[]) (fun _ z=>nomatch z) (fun b o _ hb _ e n=>u.keep b o e n hb (by simp)) (fun b o _ hb _ e n=>u.slot b o e n hb (by simp)) (fun b o _ e n=>u.free b o e n (by simp)) (fun b o _ e=>u.there b o e (by simp)) u.tups u.frzs u.tbls (fun m' hm=>by
  obtain ⟨o',es',ep',ho',r'⟩:=hm
  rw [ho] at ho';cases ho'
  exact ⟨_,es',ep',hL,r'⟩) hok I.bare
theorem Inv.call {g':Array GenState}{t':Nat}{d':Drawn}{ch:List Addr}(I:Inv X pins σ H s) (u:Un (frs X.stack) ch H H' s.heap h') (hok:fN X.prog X.w H' h') (hg:AllBare g')
  (hch:∀b∈ch,(b∈X.ex∨X.s₀.heap.objs.size≤b)∧b≠X.env.locals∧(∀x c,X.env.cells.lookup x=some c→c≠b)∧∀p∈X.pn++pins,p.1≠b):
  Inv X pins σ H' {s with heap:=h',gens:=g',drawn:=d',toks:=t'}:=by
 obtain ⟨m,⟨o,es,ep,ho,r⟩,_⟩:=id I.loc
 obtain ⟨sl,hL⟩:=u.any ho I.free fun z=>(hch _ z).2.1 rfl
 exact I.step (ch:=ch) hch (fun b o hL hb hc e n=>u.keep b o e n (fun z=>(List.mem_cons.mp (I.stkSub b z)).elim hL hb) hc) (fun b o _ _ hc e n=>u.any e n hc) (fun b o hc e n=>u.free b o e n hc) (fun b o hc e=>u.there b o e hc) u.tups u.frzs u.tbls (fun m' hm=>by
  obtain ⟨o',es',ep',ho',r'⟩:=hm
  rw [ho] at ho';cases ho'
  exact ⟨_,es',ep',hL,r'⟩) hok hg
theorem Inv.turned {t':Nat}{it:Addr}(I:Inv X pins σ H s) (k:∀b o,b≠it→s.heap.get? b=some o→h'.get? b=some o) (hn:H it=none) (hL:it≠X.env.locals)
  (h1:it∈X.ex∨X.s₀.heap.objs.size≤it) (h2:∀x c,X.env.cells.lookup x=some c→c≠it) (h3:∀p∈X.pn++pins,p.1≠it):Inv X pins σ H {s with heap:=h',toks:=t'}:=by
 have nit:∀b u,H b=some u→b≠it:=fun b u e z=>by rw [z,hn] at e;cases e
 refine I.step (g':=s.gens) (d':=s.drawn) (ch:=[it]) (fun b hb=>?_) (fun b o _ _ hc e _=>k b o (fun z=>hc (by simp [z])) e) (fun b o _ _ hc e _=>⟨o.slots,k b o (fun z=>hc (by simp [z])) e⟩) (fun _ _ _ _ n=>n)
  (fun b o hc e=>⟨o,k b o (fun z=>hc (by simp [z])) e⟩) (fun _ _ e=>e) (fun _ _ _ e=>e) (fun b ps e=>⟨#[],by rw [e];simp⟩) (fun m hm=>?_) (fun b u e=>?_) I.bare
 ·have e:b=it:=by simpa using hb
  subst e
  exact ⟨h1,hL,h2,h3⟩
 ·obtain ⟨o,es,ep,ho,r⟩:=hm
  exact ⟨o,es,ep,k _ o (Ne.symm hL) ho,r⟩
 ·refine (I.hok b u e).stay (fun c v hc q=>k c v ?_ q) (fun _ q=>q) fun _ _ q=>q
  rcases hc with z | z
  ·rw [z];exact nit b u e
  ·exact nit c _ z
theorem Inv.tok (I:Inv X pins σ H s) (t:Nat):Inv X pins σ H {s with toks:=t}:=I.un (h':=s.heap) (t':=t) Un.refl I.hok
theorem Inv.kept {t':Nat}(I:Inv X pins σ H s) (k:∀b u,s.heap.get? b=some u→h'.get? b=some u):Inv X pins σ H {s with heap:=h',toks:=t'}:=I.un (Un.kept k) (I.hok.kept k)
theorem Inv.laid {a:Addr}{o:HO}{t':Nat}(I:Inv X pins σ H s) (k:∀b u,s.heap.get? b=some u→h'.get? b=some u) (hp:s.heap.objs.size≤a) (new:cF X.prog X.w (upd H a o) h' a o):
  Inv X pins σ (upd H a o) {s with heap:=h',toks:=t'}:=I.un (Un.laid k hp (I.hok.fresh hp)) (I.hok.laid k hp new)
theorem Inv.write {x e:Addr}{o:HO}{t':Nat}(I:Inv X pins σ H s) (mu:Di (H x)) (he:e=x∨H e=some (.own x)) (k:∀b u,b≠e→s.heap.get? b=some u→h'.get? b=some u) (heo:∃u,h'.get? e=some u)
  (new:cF X.prog X.w (upd H x o) h' x o):Inv X pins σ (upd H x o) {s with heap:=h',toks:=t'}:=I.un (Un.write mu he k heo) (I.hok.write mu he k heo new)
theorem Inv.pins_of {pins':List (Addr×Obj)}(I:Inv X pins σ H s) (h:∀p∈pins',s.heap.get? p.1=some p.2∧H p.1=none∧p.1≠X.env.locals∧p.1∉X.fs∧∀v,p.2.data≠.cell v):Inv X pins' σ H s:=
 ⟨I.ok,I.os,I.bare,I.base,I.loc,I.cell,I.free,I.freeC,fun p hp=>(List.mem_append.mp hp).elim (fun z=>I.pin p (List.mem_append_left _ z)) (h p),I.hok,I.len⟩
theorem vd {N:List Str}(hN:N.Nodup){i j:Nat}{x:Str}(a:N[i]?=some x) (b:N[j]?=some x):i=j:=by
 obtain ⟨h1,e1⟩:=List.getElem?_eq_some_iff.mp a
 obtain ⟨h2,e2⟩:=List.getElem?_eq_some_iff.mp b
 exact (List.getElem_inj hN).mp (e1.trans e2.symm)
theorem sI {M:Model}{A:Around}{E:Value→Shared→Prop}{i:Nat}{x:Str}{v:V}{u:Value}{Q:Unit→Shared→Prop}(I:Inv X pins σ H s) (hN:X.N.Nodup) (hi:X.N[i]?=some x) (hx:Loc X.env.scope x) (r:RelV v u)
  (h:∀s',Inv X pins (σ.set i (some v)) H s'→(∃a,Heap.SameBut a s.heap s'.heap∧(a=X.env.locals∨X.env.cells.lookup x=some a))→Q () s') (hf:X.fn x=true∨X.env.scope.names.lookup x=some .local:=by first | exact .inl rfl | exact .inr rfl | assumption):wpAny M A (storeName X.env x u) Q E s:=by
 obtain ⟨m,hn,hl⟩:=id I.loc
 have hcls:(X.env.scope.kind == .class || (X.env.scope.kind == .module && X.env.locals != X.env.globals))=false:=by rw [I.ok.kind];rfl
 have hiσ:i < σ.length:=by rw [I.len];exact (List.getElem?_eq_some_iff.mp hi).1
 have cne:=I.cne
 have tracked:∀{a:Addr}{h':Heap},(∃o,s.heap.get? a=some o∧H a=none)→Heap.SameBut a s.heap h'→fN X.prog X.w H h':=fun {a h'} ha hs b ob e=>by
  obtain ⟨_,_,hfree⟩:=ha
  refine (I.hok b ob e).stay (fun c w' hc q=>(hs.2 c ?_).trans q) (fun _ q=>q) fun _ _ q=>q
  rintro rfl
  rcases hc with rfl | hc
  ·rw [hfree] at e;cases e
  ·rw [hfree] at hc;cases hc
 rcases hx with hk | hk
 ·refine wpAny_storeName_local hk hn (fun h' hn' hs=>?_) hcls
  obtain ⟨oL,_,_,hoL,_⟩:=id hn
  refine h _ ⟨I.ok,I.os,I.bare,⟨fun b o e n hb hx=>?_,fun b o e n hb hx=>?_,I.base.free,fun b o e hx=>?_,I.base.tups,I.base.frzs,I.base.tbls⟩,⟨_,hn',fun j y v' e1 e2 e3=>?_⟩,fun y c e=>?_,I.free,I.freeC,fun p hp=>?_,tracked ⟨oL,hoL,I.free⟩ hs,by simpa using I.len⟩ ⟨_,hs,.inl rfl⟩
  ·exact (hs.2 b (Nat.ne_of_lt (Nat.lt_of_lt_of_le (Heap.lt_size e) I.ok.above))).trans (I.base.keep b o e n hb hx)
  ·obtain ⟨sl,e1⟩:=I.base.slot b o e n hb hx
   exact ⟨sl,(hs.2 b (Nat.ne_of_lt (Nat.lt_of_lt_of_le (Heap.lt_size e) I.ok.above))).trans e1⟩
  ·obtain ⟨o',e1⟩:=I.base.there b o e hx
   exact ⟨o',(hs.2 b (Nat.ne_of_lt (Nat.lt_of_lt_of_le (Heap.lt_size e) I.ok.above))).trans e1⟩
  ·by_cases hj:j=i
   ·subst hj
    rw [hi] at e1;cases e1
    rw [List.getElem?_set_self hiσ] at e2
    cases e2
    exact ⟨u,r,.inl ⟨hk,by simp⟩⟩
   ·rw [List.getElem?_set_ne (Ne.symm hj)] at e2
    obtain ⟨u',r',q⟩:=hl j y v' e1 e2 e3
    refine ⟨u',r',?_⟩
    rcases q with ⟨k,e⟩ | ⟨k,c,e,z⟩
    ·refine .inl ⟨k,?_⟩
     have:y≠x:=fun e=>hj (vd hN e1 (e▸hi))
     simp [this,e]
    ·exact .inr ⟨k,c,e,z.sameBut hs (cne y c e)⟩
  ·obtain ⟨w',z⟩:=I.cell y c e
   exact ⟨w',z.sameBut hs (cne y c e)⟩
  ·obtain ⟨e,n,ne,nf,d⟩:=I.pin p hp
   exact ⟨(hs.2 p.1 ne).trans e,n,ne,nf,d⟩
 ·have hfn:X.fn x=true:=by
   rcases hf with z | z
   ·exact z
   ·rw [z] at hk;cases hk
  obtain ⟨c,hc⟩:=I.ok.has x (.inl hk)
  obtain ⟨w',z⟩:=I.cell x c hc
  refine wpAny_storeName_cell I.ok.kind hk hc z (fun h' hc' hs=>?_)
  obtain ⟨oc,hoc,hocd⟩:=id z
  refine h {s with heap:=h'} ⟨I.ok,I.os,I.bare,⟨fun b o e n hb hx=>?_,fun b o e n hb hx=>?_,I.base.free,fun b o e hx=>?_,I.base.tups,I.base.frzs,I.base.tbls⟩,⟨m,hn.sameBut hs (Ne.symm (cne x c hc)),fun j y v' e1 e2 e3=>?_⟩,fun y c' e=>?_,I.free,I.freeC,fun p hp=>?_,tracked ⟨oc,hoc,I.freeC x c hc⟩ hs,by simpa using I.len⟩ ⟨c,hs,.inr hc⟩
  ·exact (hs.2 b (Nat.ne_of_lt (Nat.lt_of_lt_of_le (Heap.lt_size e) (I.ok.cab x c hfn hc)))).trans (I.base.keep b o e n hb hx)
  ·obtain ⟨sl,e1⟩:=I.base.slot b o e n hb hx
   exact ⟨sl,(hs.2 b (Nat.ne_of_lt (Nat.lt_of_lt_of_le (Heap.lt_size e) (I.ok.cab x c hfn hc)))).trans e1⟩
  ·obtain ⟨o',e1⟩:=I.base.there b o e hx
   exact ⟨o',(hs.2 b (Nat.ne_of_lt (Nat.lt_of_lt_of_le (Heap.lt_size e) (I.ok.cab x c hfn hc)))).trans e1⟩
  ·by_cases hj:j=i
   ·subst hj
    rw [hi] at e1;cases e1
    rw [List.getElem?_set_self hiσ] at e2
    cases e2
    exact ⟨u,r,.inr ⟨.inl hk,c,hc,hc'⟩⟩
   ·rw [List.getElem?_set_ne (Ne.symm hj)] at e2
    obtain ⟨u',r',q⟩:=hl j y v' e1 e2 e3
    refine ⟨u',r',?_⟩
    rcases q with q | ⟨k,c',e,z'⟩
    ·exact .inl q
    ·refine .inr ⟨k,c',e,z'.sameBut hs ?_⟩
     rintro rfl
     exact hj (vd hN e1 (I.ok.inj _ _ _ e hc▸hi))
  ·by_cases hcc:c'=c
   ·subst hcc;exact ⟨_,hc'⟩
   ·obtain ⟨w2,z2⟩:=I.cell y c' e
    exact ⟨w2,z2.sameBut hs hcc⟩
  ·obtain ⟨e,n,ne,nf,d⟩:=I.pin p hp
   refine ⟨(hs.2 p.1 ?_).trans e,n,ne,nf,d⟩
   intro q
   rw [q,hoc] at e
   have q':oc=p.2:=Option.some.inj e
   exact d w' (by rw [←q'];exact hocd)
theorem pq {M:Model}{A:Around}{E:Value→Shared→Prop}{i:Nat}{x:Str}{v:V}{u:Value}{Q:Unit→Shared→Prop}(I:Inv X pins σ H s) (hN:X.N.Nodup) (hi:X.N[i]?=some x) (hx:Loc X.env.scope x) (r:RelV v u)
  (h:∀s',Inv X pins (σ.set i (some v)) H s'→Q () s') (hf:X.fn x=true∨X.env.scope.names.lookup x=some .local:=by first | exact .inl rfl | exact .inr rfl | assumption):wpAny M A (storeName X.env x u) Q E s:=
 sI I hN hi hx r (fun s' I' _=>h s' I') hf
theorem Inv.call' {s':Shared}{ch:List Addr}(I:Inv X pins σ H s) (ho:s'.os=s.os) (u:Un (frs X.stack) ch H H' s.heap s'.heap) (hok:fN X.prog X.w H' s'.heap) (hg:AllBare s'.gens)
  (hch:∀b∈ch,(b∈X.ex∨X.s₀.heap.objs.size≤b)∧b≠X.env.locals∧(∀x c,X.env.cells.lookup x=some c→c≠b)∧∀p∈X.pn++pins,p.1≠b):Inv X pins σ H' s':=by
 obtain ⟨h',g',d',t',o'⟩:=s'
 have e:o'=s.os:=ho
 subst e
 exact I.call (g':=g') (t':=t') (d':=d') u hok hg hch
end
abbrev XK:=Value→Option Addr→Hp→Prop
abbrev St:=List (Option V)
abbrev VK:=V→Hp→Prop
abbrev TE:=St→Hp→VK→Prop
abbrev TT:=St→Hp→(Bool→Hp→Prop)→Prop
abbrev TA:=St→Hp→(List V→Hp→Prop)→Prop
structure Ends where
 nx:St→Hp→Prop
 rt:VK
 bk:St→Hp→Prop:=fun _ _=>False
 ct:St→Hp→Prop:=fun _ _=>False
abbrev TS:=Ends→St→Hp→Prop
def EP (X:Cx) (pins:List (Addr×Obj)) (σ:St) (Q:VK) (u:Value) (s':Shared):Prop:=∃v H',Inv X pins σ H' s'∧RelV v u∧Q v H'
def TP (X:Cx) (pins:List (Addr×Obj)) (σ:St) (Q:Bool→Hp→Prop) (b:Bool) (s':Shared):Prop:=∃H',Inv X pins σ H' s'∧Q b H'
def AP (X:Cx) (pins:List (Addr×Obj)) (σ:St) (Q:List V→Hp→Prop) (us:List Value) (s':Shared):Prop:=∃vs H',Inv X pins σ H' s'∧Vals vs us∧Q vs H'
def SP (X:Cx) (pins:List (Addr×Obj)) (D:Ends) (f:Flow) (s':Shared):Prop:=
 match f with
 | .next=>∃σ' H',Inv X pins σ' H' s'∧D.nx σ' H'
 | .brk=>∃σ' H',Inv X pins σ' H' s'∧D.bk σ' H'
 | .cont=>∃σ' H',Inv X pins σ' H' s'∧D.ct σ' H'
 | .ret u=>∃v σ' H',Inv X pins σ' H' s'∧RelV v u∧D.rt v H'
def PE (X:Cx) (e:Expr) (t:TE):Prop:=
 ∀(pins:List (Addr×Obj)) (s:Shared) (σ:St) (H:Hp) (Q:VK),Inv X pins σ H s→t σ H Q→wpAny (model X.prog X.w) X.A (eval e X.env) (EP X pins σ Q) X.xe s
def PT (X:Cx) (e:Expr) (t:TT):Prop:=
 ∀(pins:List (Addr×Obj)) (s:Shared) (σ:St) (H:Hp) (Q:Bool→Hp→Prop),Inv X pins σ H s→t σ H Q→wpAny (model X.prog X.w) X.A (isTrue e X.env (eval e X.env)) (TP X pins σ Q) X.xe s
def PW (X:Cx) (e:Expr) (t:TT):Prop:=
 ∀(whole:Sem Value) (pins:List (Addr×Obj)) (s:Shared) (σ:St) (H:Hp) (Q:Bool→Hp→Prop),Inv X pins σ H s→t σ H Q→wpAny (model X.prog X.w) X.A (isTrue e X.env whole) (TP X pins σ Q) X.xe s
theorem PW.pt {X:Cx}{e:Expr}{t:TT}(h:PW X e t):PT X e t:=h _
def PA (X:Cx) (es:List Expr) (t:TA):Prop:=
 ∀(pos:Pos) (pins:List (Addr×Obj)) (s:Shared) (σ:St) (H:Hp) (Q:List V→Hp→Prop),Inv X pins σ H s→t σ H Q→wpAny (model X.prog X.w) X.A (spliced (backTo pos (starEach es X.env))) (AP X pins σ Q) X.xe s
def PS (X:Cx) (st:Stmt) (t:TS):Prop:=
 ∀(pins:List (Addr×Obj)) (s:Shared) (σ:St) (H:Hp) (D:Ends),Inv X pins σ H s→t D σ H→wpAny (model X.prog X.w) X.A (exec st X.env) (SP X pins D) X.xe s
def jj (X:Cx) (st:List Stmt) (t:TS):Prop:=
 ∀(pins:List (Addr×Obj)) (s:Shared) (σ:St) (H:Hp) (D:Ends),Inv X pins σ H s→t D σ H→wpAny (model X.prog X.w) X.A (execs st X.env) (SP X pins D) X.xe s
theorem bI {α:Type}{t:Sem α}{Q Q':α→Shared→Prop}{M:Model}{A:Around}{E:Value→Shared→Prop}{s:Shared}(h:wpAny M A t Q E s) (hQ:∀a s,Q a s→Q' a s):wpAny M A t Q' E s:=wpAny_mono h hQ fun _ _ x=>x
section
variable {X:Cx}
theorem bin {a b:Expr}{ta tb:TE}(ha:PE X a ta) (hb:PE X b tb){pins:List (Addr×Obj)}{s:Shared}{σ:St}{H:Hp}{R:V→V→Hp→Prop}(I:Inv X pins σ H s) (h:ta σ H fun x H1=>tb σ H1 fun y H2=>R x y H2)
  {α:Type}{Q:α→Shared→Prop}{f:Value→Value→Sem α}
  (hf:∀v u s2 x y H2,Inv X pins σ H2 s2→RelV x v→RelV y u→R x y H2→wpAny (model X.prog X.w) X.A (f v u) Q X.xe s2):
  wpAny (model X.prog X.w) X.A (eval a X.env) (fun v s₁=>wpAny (model X.prog X.w) X.A (eval b X.env) (fun u s₂=>wpAny (model X.prog X.w) X.A (f v u) Q X.xe s₂) X.xe s₁) X.xe s:=by
 refine bI (ha pins s σ H _ I h) fun v s1 ⟨x,H1,I1,r1,q1⟩=>?_
 refine bI (hb pins s1 σ H1 _ I1 q1) fun u s2 ⟨y,H2,I2,r2,q2⟩=>?_
 exact hf v u s2 x y H2 I2 r1 r2 q2
def IF (i:Nat):TE:=fun σ H Q=>∃v,σ[i]?=some (some v)∧Q v H
def tC (v:V):TE:=fun _ H Q=>Q v H
theorem nD {i:Nat}{x:Str}{pos:Pos}(hN:X.N[i]?=some x) (hv:kC X.env.scope x) (hd:(x == ("__debug__":Str))=false:=by decide) (hcd:(x == ("__classdict__":Str))=false:=by decide):PE X (.Name x pos) (IF i):=by
 intro pins s σ H Q I h
 obtain ⟨v,e,h⟩:=h
 obtain ⟨m,hn,hl⟩:=I.loc
 obtain ⟨u,r,l⟩:=hl i x v hN e hv
 have fin:EP X pins σ Q u s:=⟨v,H,I,r,h⟩
 rcases l with ⟨hk,hm⟩ | ⟨hk,c,hc,hcell⟩
 ·exact wpAny_Name (wpAny_loadName_local I.ok.kind hk hn hm fin) hd
 ·rcases hk with hk | hk
  ·exact wpAny_Name (wpAny_loadName_cell I.ok.kind hk hc hcell fin) hd
  ·exact wpAny_Name (wpAny_loadName_free I.ok.kind hk hc hcell fin hcd) hd
theorem HG {i j pos}:PE X (.Constant (.int i) j pos) (tC (.int i)):=fun _ _ _ H _ I h=>wpAny_Constant_int ⟨.int i,H,I.tok _,⟨_,rfl⟩,h⟩
theorem JA {b j pos}:PE X (.Constant (.bool b) j pos) (tC (.bl b)):=fun _ _ _ H _ I h=>Constant_bool ⟨.bl b,H,I,rfl,h⟩
theorem HJ {j pos}:PE X (.Constant .none j pos) (tC .non):=fun _ _ _ H _ I h=>Constant_none ⟨.non,H,I,rfl,h⟩
theorem HN {x j pos}:PE X (.Constant (.str x) j pos) (tC (.str x)):=fun _ _ _ H _ I h=>Calls.Constant_str ⟨.str x,H,I.tok _,⟨_,rfl⟩,h⟩
def Gl (X:Cx) (x:Str):Prop:=X.env.kindOf x=some .globalImplicit
theorem xD {E:Value→Shared→Prop}{pins:List (Addr×Obj)}{s:Shared}{σ:St}{H:Hp}{x:Str}{u:Value}{pos:Pos}{Q:Value→Shared→Prop}(I:Inv X pins σ H s) (hg:Gl X x) (hm:X.mg x=some u) (h:Q u s)
  (hd:(x == ("__debug__":Str))=false:=by decide):wpAny (model X.prog X.w) X.A (eval (.Name x pos) X.env) Q E s:=
 Calls.Name_function_global I.ok.kind hg (Calls.loadGlobal_global (by rw [I.ok.glob];exact I.mod.glob.keeps I.bk) hm h) hd
theorem kM {E:Value→Shared→Prop}{pins:List (Addr×Obj)}{s:Shared}{σ:St}{H:Hp}{x:Str}{u:Value}{pos:Pos}{Q:Value→Shared→Prop}(I:Inv X pins σ H s) (hg:Gl X x) (hm:X.mg x=none) (hv:bootBuiltins x=some u) (h:Q u s)
  (hn:x≠"__name__":=by decide) (hd:(x == ("__debug__":Str))=false:=by decide):wpAny (model X.prog X.w) X.A (eval (.Name x pos) X.env) Q E s:=by
 obtain ⟨mb,h1,h2⟩:=I.mod.blt
 exact Calls.Name_function_global I.ok.kind hg (Calls.loadGlobal_builtin (by rw [I.ok.glob];exact I.mod.glob.keeps I.bk) hm (by rw [I.ok.blt];exact h1.keeps I.bk) ((h2 x hn).trans hv) h) hd
theorem E4 {x:Str}{v:V}{u:Value}{pos:Pos}(hg:Gl X x) (hm:X.mg x=some u) (r:RelV v u) (hd:(x == ("__debug__":Str))=false:=by decide):PE X (.Name x pos) (tC v):=
 fun _ _ _ H _ I h=>xD I hg hm ⟨v,H,I,r,h⟩ hd
theorem E2 {x:Str}{v:V}{u:Value}{pos:Pos}(hg:Gl X x) (hm:X.mg x=none) (hv:bootBuiltins x=some u) (r:RelV v u) (hn:x≠"__name__":=by decide) (hd:(x == ("__debug__":Str))=false:=by decide):PE X (.Name x pos) (tC v):=
 fun _ _ _ H _ I h=>kM I hg hm hv ⟨v,H,I,r,h⟩ hn hd
variable {a b:Expr}{ta tb:TE}{pos:Pos}
def PC (X:Cx) (op:CmpOp) (a b:Expr) (t:TE):Prop:=
 ∀(pins:List (Addr×Obj)) (s:Shared) (σ:St) (H:Hp) (Q:VK),Inv X pins σ H s→t σ H Q→
  wpAny (model X.prog X.w) X.A (eval a X.env) (fun v s₁=>wpAny (model X.prog X.w) X.A (eval b X.env) (fun u s₂=>wpAny (model X.prog X.w) X.A (compareOp op v u) (EP X pins σ Q) X.xe s₂) X.xe s₁) X.xe s
theorem B_ (b:Expr){op:CmpOp}(h:op≠.In) (h2:op≠.NotIn):behindInMarks op b=false:=by
 have e1:(op == CmpOp.In)=false:=by cases op <;> first | rfl | exact absurd rfl h
 have e2:(op == CmpOp.NotIn)=false:=by cases op <;> first | rfl | exact absurd rfl h2
 cases b <;> simp [behindInMarks,e1,e2]
def tB (t:TE):TT:=fun σ H Q=>t σ H fun x H1=>∃c,x=.bl c∧Q c H1
theorem Lk {op:CmpOp}{t:TE}(h:PC X op a b t) (h1:behindInMarks op b=false:=by first | exact B_ _ (by decide) (by decide) | rfl):PT X (.Compare a [op] [b] pos) (tB t):=by
 intro pins s σ H Q I hw
 refine wpAny_isTrue_Compare1 (bI (h pins s σ H _ I hw) fun v s1 h1=>bI h1 fun u s2 h2=>bI h2 fun c s3 ⟨x,H1,I1,r1,q1⟩=>?_) h1
 obtain ⟨d,rfl,q⟩:=q1
 cases r1
 exact wpAny_truthy_bool ⟨H1,I1,q⟩
theorem H_ {e:Expr}{t:TE}(h:PE X e t) (he:∀whole,isTrue e X.env whole=(do let v ←whole;standAt e.pos;holding [v] (truthy v)):=by intro _;rfl):PT X e (tB t):=by
 intro pins s σ H Q I hw
 refine isTrue_plain (bI (h pins s σ H _ I hw) fun v s1 ⟨x,H1,I1,r1,q1⟩=>?_) (he _)
 obtain ⟨d,rfl,q⟩:=q1
 cases r1
 exact wpAny_truthy_bool ⟨H1,I1,q⟩
variable {tA tB':TT}{rest:List Expr}
def Lu (t u:TT):TT:=fun σ H Q=>t σ H fun c H1=>if c=true then Q true H1 else u σ H1 Q
def K9 (t:TT):TT:=fun σ H Q=>t σ H fun c H1=>Q (!c) H1
theorem Ib (ha:PT X a tA):PW X (.BoolOp .Or [a] pos) tA:=by
 intro wh pins s σ H Q I h
 refine isTrue_or (bI (ha pins s σ H Q I h) fun c s1 e=>?_)
 cases c with
 | false=>exact isTrue_or_nil e
 | true=>exact e
theorem JG (ha:PT X a tA) (hb:PW X (.BoolOp .Or (b::rest) pos) tB'):PW X (.BoolOp .Or (a::b::rest) pos) (Lu tA tB'):=by
 intro wh pins s σ H Q I h
 refine isTrue_or (bI (ha pins s σ H _ I h) fun c s1 ⟨H1,I1,q1⟩=>?_)
 cases c with
 | true=>exact ⟨H1,I1,q1⟩
 | false=>exact hb wh pins s1 σ H1 Q I1 q1
theorem HZ (ha:PT X a tA):PT X (.UnaryOp .Not a pos) (K9 tA):=by
 intro pins s σ H Q I h
 exact isTrue_not (ha pins s σ H (fun c H1=>Q (!c) H1) I h)
def JP (ta tb:TE):TE:=fun σ H Q=>ta σ H fun x H1=>∃c,x=.bl c∧if c=true then tb σ H1 Q else Q (.bl false) H1
def JU (ta:TE):TE:=fun σ H Q=>ta σ H fun x H1=>∃c,x=.bl c∧Q (.bl (!c)) H1
theorem HM {op}{t:TE}(h:PE X a t):PE X (.BoolOp op [a] pos) t:=fun pins s σ H Q I hw=>BoolOp_one (h pins s σ H Q I hw)
theorem HE (ha:PE X a ta) (hb:PE X (.BoolOp .And (b::rest) pos) tb):PE X (.BoolOp .And (a::b::rest) pos) (JP ta tb):=by
 intro pins s σ H Q I h
 refine BoolOp_and (bI (ha pins s σ H _ I h) fun v s1 ⟨x,H1,I1,r1,q1⟩=>?_)
 obtain ⟨c,rfl,q1⟩:=q1
 cases r1
 refine wpAny_truthy_bool ?_
 cases c with
 | true=>exact hb pins s1 σ H1 Q I1 q1
 | false=>exact ⟨.bl false,H1,I1,rfl,q1⟩
theorem HL (ha:PE X a ta):PE X (.UnaryOp .Not a pos) (JU ta):=by
 intro pins s σ H Q I h
 refine UnaryOp_ (bI (ha pins s σ H _ I h) fun v s1 ⟨x,H1,I1,r1,q1⟩=>?_)
 obtain ⟨c,rfl,q1⟩:=q1
 cases r1
 exact not_of (wpAny_truthy_bool ⟨.bl (!c),H1,I1,rfl,q1⟩)
def Lr (t:TT) (ta tb:TE):TE:=fun σ H Q=>t σ H fun c H1=>if c=true then ta σ H1 Q else tb σ H1 Q
theorem CG {c:Expr}(hc:PT X c tA) (ha:PE X a ta) (hb:PE X b tb):PE X (.IfExp c a b pos) (Lr tA ta tb):=by
 intro pins s σ H Q I h
 refine wpAny_IfExp (bI (hc pins s σ H _ I h) fun d s1 ⟨H1,I1,q1⟩=>?_)
 cases d with
 | true=>exact ha pins s1 σ H1 Q I1 q1
 | false=>exact hb pins s1 σ H1 Q I1 q1
end
def cG (K:PySem.W.Frag) (H:Hp) (a:Addr) (xs:List V):Prop:=
 Rd H a (.lst xs)∨
  ∃(o:Obj) (its:Array Value) (n:Nat),K.lookup a=some o∧o.cls=.type "list"∧o.dict=none∧o.data=.seq its n∧its.size≤sizeLine∧Vals xs its.toList
def cX (K:PySem.W.Frag) (H:Hp) (a:Addr) (xs:List V):Prop:=
 Rd H a (.tup xs)∨
  ∃(o:Obj) (its:Array Value) (n:Nat),K.lookup a=some o∧o.cls=.type "tuple"∧o.data=.seq its n∧its.size≤sizeLine∧Vals xs its.toList
def Kv:Value→Option V
 | .none=>some .non
 | .bool b=>some (.bl b)
 | .int i _=>some (.int i)
 | .str x _=>some (.str x)
 | .bytes b _=>some (.byt b)
 | .float b _=>some (.flt b)
 | .ref a=>some (.ref a)
 | .type n=>some (.ty n)
 | _=>none
theorem RelV.abs {x:V}{u:Value}(r:RelV x u):Kv u=some x:=by
 cases x with
 | non=>cases r;rfl
 | bl _=>cases r;rfl
 | int _=>obtain ⟨t,rfl⟩:=r;rfl
 | str _=>obtain ⟨t,rfl⟩:=r;rfl
 | byt _=>obtain ⟨t,rfl⟩:=r;rfl
 | flt _=>obtain ⟨t,rfl⟩:=r;rfl
 | ref _=>cases r;rfl
 | ty _=>cases r;rfl
theorem RelV.inj {x y:V}{u:Value}(r:RelV x u) (q:RelV y u):x=y:=Option.some.inj (r.abs.symm.trans q.abs)
theorem Vals.inj:∀{xs ys:List V}{us:List Value},Vals xs us→Vals ys us→xs=ys
 | _,_,_,.nil,.nil=>rfl
 | _,_,_,.cons r t,.cons r' t'=>by rw [r.inj r',Vals.inj t t']
section
variable {X:Cx}{pins:List (Addr×Obj)}{σ:St}{H:Hp}{s:Shared}{a:Addr}{xs ys:List V}
theorem cG.of {K:PySem.W.Frag}(h:H a=some (.lst xs)):cG K H a xs:=.inl (.inl h)
theorem Inv.list (I:Inv X pins σ H s) (h:cG X.K H a xs):∃its:List Value,Vals xs its∧PlainL s.heap a its.toArray∧xs.length≤sizeLine:=by
 rcases h with h | ⟨o,its,n,hk,hc,hd,hs,hz,r⟩
 ·obtain ⟨z,its,n,r,e⟩:=h.ok I.hok
  exact ⟨its,r,⟨_,n,e,rfl,rfl,rfl⟩,z⟩
 ·refine ⟨its.toList,r,⟨o,n,I.kIn a o hk,hc,hd,by simpa using hs⟩,?_⟩
  have e:=r.length
  simp only [Array.length_toList] at e
  omega
theorem Inv.tuple (I:Inv X pins σ H s) (h:cX X.K H a xs):∃its:List Value,Vals xs its∧IsTup s.heap a its.toArray∧xs.length≤sizeLine:=by
 rcases h with h | ⟨o,its,n,hk,hc,hs,hz,r⟩
 ·obtain ⟨z,its,r,p⟩:=h.ok I.hok
  exact ⟨its,r,p,z⟩
 ·refine ⟨its.toList,r,⟨o,I.kIn a o hk,hc,n,by simpa using hs⟩,?_⟩
  have e:=r.length
  simp only [Array.length_toList] at e
  omega
theorem Inv.list_inj (I:Inv X pins σ H s) (h:cG X.K H a xs) (h':cG X.K H a ys):xs=ys:=by
 obtain ⟨its,r,⟨o,n,e,_,_,d⟩,_⟩:=I.list h
 obtain ⟨its',r',⟨o',n',e',_,_,d'⟩,_⟩:=I.list h'
 rw [e] at e';cases e'
 rw [d] at d'
 injection d' with d1 _
 have:its=its':=by simpa using congrArg Array.toList d1
 subst this
 exact r.inj r'
theorem Inv.tuple_inj (I:Inv X pins σ H s) (h:cX X.K H a xs) (h':cX X.K H a ys):xs=ys:=by
 obtain ⟨its,r,⟨o,e,_,n,d⟩,_⟩:=I.tuple h
 obtain ⟨its',r',⟨o',e',_,n',d'⟩,_⟩:=I.tuple h'
 rw [e] at e';cases e'
 rw [d] at d'
 injection d' with d1 _
 have:its=its':=by simpa using congrArg Array.toList d1
 subst this
 exact r.inj r'
end
abbrev Cx.wish (X:Cx) (E:Value→Shared→Prop):Cx:={X with xe:=E}
abbrev Cx.nox (X:Cx):Cx:=X.wish fun _ _=>False
theorem Cx.Ok.wish {X:Cx}(ok:X.Ok) (E:Value→Shared→Prop):(X.wish E).Ok:=
 ⟨ok.mod,ok.kind,ok.glob,ok.blt,ok.above,ok.inj,ok.has,ok.cab,ok.hd,ok.frames,ok.stk,ok.exf,ok.bs,ok.bsz,ok.noex,ok.exfs,ok.funs,ok.frf⟩
theorem Cx.Ok.unwish {X:Cx}{E:Value→Shared→Prop}(ok:(X.wish E).Ok):X.Ok:=
 ⟨ok.mod,ok.kind,ok.glob,ok.blt,ok.above,ok.inj,ok.has,ok.cab,ok.hd,ok.frames,ok.stk,ok.exf,ok.bs,ok.bsz,ok.noex,ok.exfs,ok.funs,ok.frf⟩
section
variable {X:Cx}{pins:List (Addr×Obj)}{σ:St}{H:Hp}{s:Shared}{E:Value→Shared→Prop}
theorem Inv.wish (I:Inv X pins σ H s) (E:Value→Shared→Prop):Inv (X.wish E) pins σ H s:=⟨I.ok.wish E,I.os,I.bare,I.base,I.loc,I.cell,I.free,I.freeC,I.pin,I.hok,I.len⟩
theorem Inv.unwish (I:Inv (X.wish E) pins σ H s):Inv X pins σ H s:=⟨I.ok.unwish,I.os,I.bare,I.base,I.loc,I.cell,I.free,I.freeC,I.pin,I.hok,I.len⟩
theorem SP.unwish {D:Ends}{f:Flow}{s':Shared}(h:SP (X.wish E) pins D f s'):SP X pins D f s':=by
 cases f with
 | next=>obtain ⟨σ',H',I,q⟩:=h;exact ⟨σ',H',I.unwish,q⟩
 | brk=>obtain ⟨σ',H',I,q⟩:=h;exact ⟨σ',H',I.unwish,q⟩
 | cont=>obtain ⟨σ',H',I,q⟩:=h;exact ⟨σ',H',I.unwish,q⟩
 | ret u=>obtain ⟨v,σ',H',I,r,q⟩:=h;exact ⟨v,σ',H',I.unwish,r,q⟩
theorem jj.nox {st:List Stmt}{t:TS}(h:jj X.nox st t):jj X st t:=fun pins s σ H D I hw=>
 wpAny_mono (h pins s σ H D (I.wish _) hw) (fun _ _ q=>q.unwish) fun _ _ z=>False.elim z
end
section
variable {X:Cx}{st:Stmt}{rest:List Stmt}{t u:TS}{e:Expr}{te:TE}{pos:Pos}
def JT:TS:=fun D σ H=>D.nx σ H
def La (t u:TS):TS:=fun D σ H=>t {D with nx:=u D} σ H
theorem Ff:jj X [] JT:=fun _ _ σ H _ I h=>wpAny_execs_nil ⟨σ,H,I,h⟩
theorem CQ (h1:PS X st t) (h2:jj X rest u):jj X (st::rest) (La t u):=by
 intro pins s σ H D I h
 refine wpAny_execs_cons (bI (h1 pins s σ H {D with nx:=u D} I h) fun f s1 q=>?_)
 cases f with
 | next=>
  obtain ⟨σ',H',I',q⟩:=q
  exact h2 pins s1 σ' H' D I' q
 | ret v=>exact q
 | brk=>exact q
 | cont=>exact q
theorem Fg (h1:PS X st t):jj X [st] t:=by
 intro pins s σ H D I h
 refine wpAny_execs_cons (bI (h1 pins s σ H D I h) fun f s1 q=>?_)
 cases f with
 | next=>exact wpAny_execs_nil q
 | ret v=>exact q
 | brk=>exact q
 | cont=>exact q
theorem Inv.quiet {pins:List (Addr×Obj)}{σ:St}{H:Hp}{s:Shared}(I:Inv X pins σ H s):interactive X.env=false:=by simp [interactive,I.ok.kind]
def JS (te:TE):TS:=fun D σ H=>te σ H fun _ H1=>D.nx σ H1
theorem q9 (he:PE X e te) (hs:swapsWith e none pos.line X.env=pure false:=by rfl):PS X (.Expr e pos) (JS te):=by
 intro pins s σ H D I h
 exact wpAny_Expr_any (bI (he pins s σ H _ I h) fun v s1 ⟨x,H1,I1,r1,q1⟩=>⟨σ,H1,I1,q1⟩) I.quiet hs
def K_ (te:TE):TS:=fun D σ H=>te σ H D.rt
theorem HX (he:PE X e te):PS X (.Return (some e) pos) (K_ te):=by
 intro pins s σ H D I h
 exact wpAny_Return_some (bI (he pins s σ H _ I h) fun v s1 ⟨x,H1,I1,r1,q1⟩=>⟨x,σ,H1,I1,r1,q1⟩)
def K7 (c:TT) (t u:TS):TS:=fun D σ H=>c σ H fun b H1=>if b=true then t D σ H1 else u D σ H1
theorem JE {c:Expr}{a b:List Stmt}{tc:TT}(hc:PT X c tc) (ha:jj X a t) (hb:jj X b u):PS X (.If c a b pos) (K7 tc t u):=by
 intro pins s σ H D I h
 refine wpAny_If (bI (hc pins s σ H _ I h) fun d s1 ⟨H1,I1,q1⟩=>?_)
 cases d with
 | true=>exact ha pins s1 σ H1 D I1 q1
 | false=>exact hb pins s1 σ H1 D I1 q1
end
abbrev TG:=V→St→Hp→(St→Hp→Prop)→Prop
abbrev mK:=List V→St→Hp→(St→Hp→Prop)→Prop
def PG (X:Cx) (target:Expr) (t:TG):Prop:=
 ∀(pins:List (Addr×Obj)) (s:Shared) (σ:St) (H:Hp) (v:V) (u:Value) (Q:St→Hp→Prop),Inv X pins σ H s→RelV v u→t v σ H Q→
  wpAny (model X.prog X.w) X.A (assign target X.env u) (fun _ s'=>∃σ' H',Inv X pins σ' H' s'∧Q σ' H') X.xe s
def rH (X:Cx) (ts:List Expr) (t:mK):Prop:=
 ∀(pins:List (Addr×Obj)) (s:Shared) (σ:St) (H:Hp) (vs:List V) (us:List Value) (Q:St→Hp→Prop),Inv X pins σ H s→Vals vs us→t vs σ H Q→
  wpAny (model X.prog X.w) X.A (assignInOrder ((assignEach ts X.env).map (·.2)) us) (fun _ s'=>∃σ' H',Inv X pins σ' H' s'∧Q σ' H') X.xe s
abbrev Bv:=V→V→V→Hp→(Hp→Prop)→Prop
def Gf (X:Cx) (t:Bv):Prop:=
 ∀(pins:List (Addr×Obj)) (s:Shared) (σ:St) (H:Hp) (o i v:V) (ov iv u:Value) (Q:Hp→Prop),Inv X pins σ H s→RelV o ov→RelV i iv→RelV v u→t o i v H Q→
  wpAny (model X.prog X.w) X.A (setItem ov iv u) (fun _ s'=>∃H',Inv X pins σ H' s'∧Q H') X.xe s
abbrev Gh:=V→V→Hp→VK→Prop
def Lf (X:Cx) (op:Operator) (t:Gh):Prop:=
 ∀(pins:List (Addr×Obj)) (s:Shared) (σ:St) (H:Hp) (x y:V) (v u:Value) (Q:VK),Inv X pins σ H s→RelV x v→RelV y u→t x y H Q→
  wpAny (model X.prog X.w) X.A (inplaceOp op v u) (EP X pins σ Q) X.xe s
section
variable {X:Cx}{pos:Pos}
def Dv (i:Nat):TG:=fun v σ H Q=>Q (σ.set i (some v)) H
theorem E5 {i:Nat}{x:Str}(hN:X.N.Nodup) (hi:X.N[i]?=some x) (hx:Loc X.env.scope x) (hf:X.fn x=true∨X.env.scope.names.lookup x=some .local:=by first | exact .inl rfl | exact .inr rfl | assumption):PG X (.Name x pos) (Dv i):=by
 intro pins s σ H v u Q I r h
 exact wpAny_assign_Name (pq I hN hi hx r (fun s' I'=>⟨_,H,I',h⟩) hf)
def aE:mK:=fun vs σ H Q=>vs=[]∧Q σ H
def ao (t:TG) (u:mK):mK:=fun vs σ H Q=>∃v r,vs=v::r∧t v σ H fun σ' H'=>u r σ' H' Q
theorem E7:rH X [] aE:=by
 intro pins s σ H vs us Q I r h
 obtain ⟨e,h⟩:=h
 subst e
 cases r
 exact assignInOrder_nil ⟨σ,H,I,h⟩
theorem CI {e:Expr}{es:List Expr}{t:TG}{u:mK}(h1:PG X e t) (h2:rH X es u)
  (hs:(assignEach (e::es) X.env).map (·.2)=assign e X.env::(assignEach es X.env).map (·.2):=by rfl):rH X (e::es) (ao t u):=by
 intro pins s σ H vs us Q I r h
 obtain ⟨v,vr,e1,h⟩:=h
 subst e1
 cases r with
 | cons r rr=>
  rw [hs]
  refine assignInOrder_cons (bI (h1 pins s σ H _ _ _ I r h) fun _ s1 ⟨σ1,H1,I1,q1⟩=>?_)
  exact h2 pins s1 σ1 H1 _ _ Q I1 rr q1
def bC (K:PySem.W.Frag) (n:Nat) (t:mK):TG:=fun v σ H Q=>∃a xs,v=.ref a∧cX K H a xs∧xs.length=n∧t xs σ H Q
theorem HR {es:List Expr}{k:Nat}{t:mK}{n:Nat}(hc:X.calm=true) (h:rH X es t)
  (hn:(assignEach es X.env).length=n:=by rfl) (hst:(assignEach es X.env).findIdx? (·.1)=none:=by rfl):PG X (.Tuple es k pos) (bC X.K n t):=by
 intro pins s σ H v u Q I r hw
 obtain ⟨a,xs,e1,hq,hl,hw⟩:=hw
 subst e1
 cases r
 obtain ⟨its,rv,ht,hz⟩:=I.tuple hq
 refine assign_Tuple_tuple (I.ok.hd hc) ht (by simp [hn,←hl,rv.length]) hst fun h' hx=>?_
 have I1:Inv X pins σ H {s with heap:=h'}:=I.kept (t':=s.toks) fun b o e=>hx b o (Nat.ne_of_lt (Heap.lt_size e)) e
 exact h pins _ σ H xs _ Q I1 (by simpa using rv) hw
def KC (to ti:TE) (t:Bv):TG:=fun v σ H Q=>to σ H fun o H1=>ti σ H1 fun i H2=>t o i v H2 fun H3=>Q σ H3
theorem HQ {o i:Expr}{to ti:TE}{t:Bv}(ho:PE X o to) (hi:PE X i ti) (hs:Gf X t)
  (ha:∀v,assign (.Subscript o i pos) X.env v=(do
   let ov ←holding [v] (eval o X.env)
   let iv ←holding [v,ov] (eval i X.env)
   standAt pos
   holding [v,ov,iv] (setItem ov iv v)
   release [v,ov,iv] []):=by intro _;rfl):PG X (.Subscript o i pos) (KC to ti t):=by
 intro pins s σ H v u Q I r h
 rw [ha]
 refine wpAny_bind (wpAny_holding (bI (ho pins s σ H _ I h) fun ov s1 ⟨x,H1,I1,r1,q1⟩=>?_))
 refine wpAny_bind (wpAny_holding (bI (hi pins s1 σ H1 _ I1 q1) fun iv s2 ⟨y,H2,I2,r2,q2⟩=>?_))
 refine wpAny_bind (wpAny_standAt (wpAny_bind (wpAny_holding (bI (hs pins s2 σ H2 x y v ov iv u _ I2 r1 r2 r q2) fun _ s3 ⟨H3,I3,q3⟩=>?_))))
 exact wpAny_release ⟨σ,H3,I3,q3⟩
def C_ (te:TE) (g:TG):TS:=fun D σ H=>te σ H fun x H1=>g x σ H1 D.nx
theorem vp {tg e:Expr}{te:TE}{g:TG}(he:PE X e te) (hg:PG X tg g) (hs:swapsWithSole [tg] e pos.line X.env=pure false:=by rfl) (hw:swappedStores [tg] e X.env=pure none:=by rfl)
  (h1:(assignEach [tg] X.env).map (·.2)=[assign tg X.env]:=by rfl):PS X (.Assign [tg] e pos) (C_ te g):=by
 intro pins s σ H D I h
 refine wpAny_Assign_stores (bI (he pins s σ H _ I h) fun v s1 ⟨x,H1,I1,r1,q1⟩=>?_) hs hw
 rw [h1]
 exact bI (hg pins s1 σ H1 x v _ I1 r1 q1) fun _ s2 q=>q
theorem HY {i:Nat}{x:Str}{e:Expr}{te:TE}{pos':Pos}(hN:X.N.Nodup) (hi:X.N[i]?=some x) (hx:Loc X.env.scope x) (he:PE X e te) (hs:swapsWith e (some (.Name x pos')) pos.line X.env=pure false:=by rfl) (hf:X.fn x=true∨X.env.scope.names.lookup x=some .local:=by first | exact .inl rfl | exact .inr rfl | assumption):
  PS X (.Assign [.Name x pos'] e pos) (C_ te (Dv i)):=by
 intro pins s σ H D I h
 refine wpAny_Assign_Name (bI (he pins s σ H _ I h) fun v s1 ⟨y,H1,I1,r1,q1⟩=>?_) hs
 exact pq I1 hN hi hx r1 (fun s2 I2=>⟨_,H1,I2,q1⟩) hf
def K5 (i:Nat) (te:TE) (ti:Gh):TS:=fun D σ H=>∃x,σ[i]?=some (some x)∧te σ H fun y H1=>ti x y H1 fun z H2=>D.nx (σ.set i (some z)) H2
theorem HV {i:Nat}{x:Str}{e:Expr}{te:TE}{op:Operator}{ti:Gh}{pos':Pos}(hN:X.N.Nodup) (hi:X.N[i]?=some x) (hx:Loc X.env.scope x) (he:PE X e te) (ho:Lf X op ti) (hf:X.fn x=true∨X.env.scope.names.lookup x=some .local:=by first | exact .inl rfl | exact .inr rfl | assumption):
  PS X (.AugAssign (.Name x pos') op e pos) (K5 i te ti):=by
 intro pins s σ H D I h
 obtain ⟨v,e1,h⟩:=h
 obtain ⟨m,hn,hl⟩:=I.loc
 have vis:kC X.env.scope x:=by rcases hx with k | k;exact .inl k;exact .inr (.inl k)
 obtain ⟨u,r,l⟩:=hl i x v hi e1 vis
 refine wpAny_AugAssign_Name ?_
 have go:wpAny (model X.prog X.w) X.A (eval e X.env) (fun w s₂=>wpAny (model X.prog X.w) X.A (inplaceOp op u w) (fun r s₃=>wpAny (model X.prog X.w) X.A (storeName X.env x r) (fun _=>SP X pins D .next) X.xe s₃) X.xe s₂) X.xe s:=by
  refine bI (he pins s σ H _ I h) fun w s1 ⟨y,H1,I1,r1,q1⟩=>?_
  refine bI (ho pins s1 σ H1 v y u w _ I1 r r1 q1) fun z s2 ⟨zv,H2,I2,r2,q2⟩=>?_
  exact pq I2 hN hi hx r2 (fun s3 I3=>⟨_,H2,I3,q2⟩) hf
 rcases l with ⟨hk,hm⟩ | ⟨hk,c,hc,hcell⟩
 ·exact wpAny_loadName_local I.ok.kind hk hn hm go
 ·rcases hk with hk | hk
  ·exact wpAny_loadName_cell I.ok.kind hk hc hcell go
  ·rcases hx with k | k
   ·have:X.env.scope.names.lookup x=some .free:=hk
    rw [k] at this;cases this
   ·have:X.env.scope.names.lookup x=some .free:=hk
    rw [k] at this;cases this
end
section
variable {X:Cx}{pos:Pos}
def IG (c:TT) (tb:TS):TS:=fun D σ H=>∃W:Nat→St→Hp→Prop,(∃m,W m σ H)∧∀m σ H,W m σ H→
 c σ H fun b H1=>if b=true then ∃N:St→Hp→Prop,(∀σ' H',N σ' H'→∃m',m' < m∧W m' σ' H')∧tb {D with nx:=N,ct:=N,bk:=D.nx} σ H1 else D.nx σ H1
theorem CP {c:Expr}{body:List Stmt}{tc:TT}{tb:TS}(hp:PassesOwn (model X.prog X.w) X.A X.env X.xe) (hc:PT X c tc) (hb:jj X body tb):PS X (.While c body [] pos) (IG tc tb):=by
 intro pins s σ H D I h
 obtain ⟨W,⟨m0,w0⟩,turn⟩:=h
 refine wpAny_While (codeAny_whileLoop (fun n s'=>∃σ' H',Inv X pins σ' H' s'∧W n σ' H') ?_ m0 ⟨σ,H,I,w0⟩)
 rintro n s1 ⟨σ1,H1,I1,w1⟩
 refine wpAny_passesOwn hp (bI (hc pins s1 σ1 H1 _ I1 (turn n σ1 H1 w1)) fun b s2 ⟨H2,I2,q2⟩=>?_)
 cases b with
 | true=>
  obtain ⟨N,hN,q2⟩:=q2
  rw [if_pos rfl]
  refine wpAny_passesOwn hp (bI (hb pins s2 σ1 H2 _ I2 q2) fun f s3 q3=>?_)
  cases f with
  | next=>
   obtain ⟨σ3,H3,I3,n3⟩:=q3
   obtain ⟨m',hm,w3⟩:=hN σ3 H3 n3
   exact ⟨m',hm,σ3,H3,I3,w3⟩
  | cont=>
   obtain ⟨σ3,H3,I3,n3⟩:=q3
   obtain ⟨m',hm,w3⟩:=hN σ3 H3 n3
   exact ⟨m',hm,σ3,H3,I3,w3⟩
  | brk=>exact q3
  | ret v=>exact q3
 | false=>
  rw [if_neg Bool.false_ne_true]
  exact wpAny_execs_nil ⟨σ1,H2,I2,q2⟩
end
structure It where
 go:Nat→Hp→Prop
 yld:Nat→Hp→V→Hp→Prop
 stop:Nat→Hp→Prop
def iT (X:Cx) (pins:List (Addr×Obj)) (H:Hp) (b:Addr):Prop:=
 H b=none∧b≠X.env.locals∧b∉X.fs∧(b∈X.ex∨X.s₀.heap.objs.size≤b)∧(∀x c,X.env.cells.lookup x=some c→c≠b)∧∀p∈X.pn++pins,p.1≠b
theorem Inv.fpOk {X:Cx}{pins:List (Addr×Obj)}{σ:St}{H H':Hp}{s:Shared}{b:Addr}(I:Inv X pins σ H s) (hb:s.heap.objs.size≤b) (hn:H' b=none):iT X pins H' b:=by
 refine ⟨hn,Nat.ne_of_gt (Nat.lt_of_lt_of_le I.lt hb),I.nofs hb,.inr (Nat.le_trans I.sz hb),fun x c e z=>?_,fun p hp z=>?_⟩
 ·obtain ⟨v,q⟩:=I.cell x c e
  exact absurd (Nat.lt_of_lt_of_le q.lt (by rw [z];exact hb)) (Nat.lt_irrefl _)
 ·exact absurd (Nat.lt_of_lt_of_le (Heap.lt_size (I.pin p hp).1) (by rw [z];exact hb)) (Nat.lt_irrefl _)
structure Turn (P:Program) (w:World) (K:PySem.W.Frag) (tg:Expr) (J:It) (fp:List Addr) (it:Addr) (tn:Nat→Heap→Prop):Prop where
 mem:it∈fp
 obj:∀i h,tn i h→∀b∈fp,∃o,h.get? b=some o∧∀v,o.data≠.cell v
 keep:∀i h h',tn i h→(∀b∈fp,∀o,h.get? b=some o→h'.get? b=some o)→tn i h'
 item:∀(X:Cx),X.prog=P→X.w=w→X.K=K→X.calm=true→∀(i:Nat) (pins:List (Addr×Obj)) (s:Shared) (σ:St) (H:Hp) (E:Value→Shared→Prop),Inv X pins σ H s→(∀b∈fp,iT X pins H b)→tn i s.heap→J.go i H→
  wpAny (model P w) X.A (pyNext (.ref it)) (fun r s1=>∃u,r=some u∧
   wpAny (model P w) X.A (letOwnedTupleGo tg (.ref it) u) (fun _ s2=>∃x H',Inv X pins σ H' s2∧RelV x u∧J.yld i H x H'∧tn (i + 1) s2.heap∧∀b∈fp,H' b=none) E s1) E s
 done:∀(X:Cx),X.prog=P→X.w=w→X.K=K→X.calm=true→∀(i:Nat) (pins:List (Addr×Obj)) (s:Shared) (σ:St) (H:Hp) (E:Value→Shared→Prop),Inv X pins σ H s→(∀b∈fp,iT X pins H b)→tn i s.heap→J.stop i H→
  wpAny (model P w) X.A (pyNext (.ref it)) (fun r s1=>r=none∧Inv X pins σ H s1) E s
 self:∀(A:Around) (i:Nat) (s:Shared) (Q:Value→Shared→Prop) (E:Value→Shared→Prop),tn i s.heap→Q (.ref it) s→wpAny (model P w) A (pyIter (.ref it)) Q E s
abbrev TI:=St→Hp→(It→Hp→Prop)→Prop
def Kd (X:Cx) (pins:List (Addr×Obj)) (σ:St) (tg:Expr) (R:It→Hp→Prop) (itv:Value) (s2:Shared):Prop:=
 ∃(it:Addr) (fp:List Addr) (tn:Nat→Heap→Prop) (J:It) (H':Hp),itv=.ref it∧Inv X pins σ H' s2∧Turn X.prog X.w X.K tg J fp it tn∧tn 0 s2.heap∧(∀b∈fp,iT X pins H' b)∧R J H'
def PI (X:Cx) (tg iter:Expr) (wi:TI):Prop:=
 ∀(pins:List (Addr×Obj)) (s:Shared) (σ:St) (H:Hp) (R:It→Hp→Prop),Inv X pins σ H s→wi σ H R→
  wpAny (model X.prog X.w) X.A (eval iter X.env) (fun v s1=>wpAny (model X.prog X.w) X.A (pyIter v) (Kd X pins σ tg R) X.xe s1) X.xe s
theorem yH {M:Model}{A:Around}{E:Value→Shared→Prop}{s:Shared}{tg:Expr}{it:Addr}{u:Value}{o:Obj}{n:String}{vs:Array Value}{Q:Unit→Shared→Prop}(ho:s.heap.get? it=some o) (hc:o.cls=.type n) (hd:o.data=.fields vs)
  (hn:["enumerate","zip","dict_itemiterator","dict_reverseitemiterator","odict_iterator","itertools.zip_longest","itertools.pairwise"].contains n=false) (hQ:Q () s):wpAny M A (letOwnedTupleGo tg (.ref it) u) Q E s:=by
 unfold letOwnedTupleGo
 cases tg <;> first
  | exact wpAny_pure hQ
  | (cases u <;> first
    | exact wpAny_pure hQ
    | (refine wpAny_bind (wpAny_load ho ?_);rw [hc,hd];show wpAny M A (if (["enumerate","zip","dict_itemiterator","dict_reverseitemiterator","odict_iterator","itertools.zip_longest","itertools.pairwise"].contains n && vs[0]? == some (rawInt _))=true then _ else _) Q E s;rw [if_neg (by intro h;rw [hn,Bool.false_and] at h;cases h)];exact wpAny_pure hQ))
def Df (K:PySem.W.Frag) (a:Addr):It:=
 ⟨fun i H=>∃xs x,cG K H a xs∧xs[i]?=some x,fun i H x H'=>H'=H∧∀xs,cG K H a xs→xs[i]?=some x,fun i H=>∃xs,cG K H a xs∧xs.length≤i⟩
def Dh (K:PySem.W.Frag) (a:Addr):It:=
 ⟨fun i H=>∃xs x,cX K H a xs∧xs[i]?=some x,fun i H x H'=>H'=H∧∀xs,cX K H a xs→xs[i]?=some x,fun i H=>∃xs,cX K H a xs∧xs.length≤i⟩
def Dg (lo:Int) (n:Nat):It:=⟨fun i _=>i < n,fun i H x H'=>H'=H∧x=.int (lo + i),fun i _=>n≤i⟩
theorem Bd {P:Program}{w:World}{K:PySem.W.Frag}{tg:Expr}(a it:Addr):Turn P w K tg (Df K a) [it] it (fun i h=>h.IsListIter it a i) where
 mem:=by simp
 obj:=fun i h st b hb=>by
  have e:b=it:=by simpa using hb
  subst e
  obtain ⟨o,e,c,d⟩:=st
  exact ⟨o,e,fun v z=>by rw [d] at z;cases z⟩
 keep:=fun i h h' st k=>st.at fun o e=>k it (by simp) o e
 item:=by
  intro X hP hw hK hc i pins s σ H E I hf st hg
  subst hP hw hK
  obtain ⟨xs,x,hq,hx⟩:=hg
  obtain ⟨its,rv,p,hz⟩:=I.list hq
  obtain ⟨u,hu,ru⟩:=rv.get hx
  obtain ⟨f0,f1,f2,f3,f4,f5⟩:=hf it (by simp)
  refine wpAny_pyNext_list_item st p.isList (x:=u) (by simpa using hu) fun h' st' sb=>?_
  have I1:Inv X pins σ H {s with heap:=h'}:=I.turned (t':=s.toks) (fun b o hb e=>(sb.2 b hb).trans e) f0 f1 f3 f4 f5
  obtain ⟨o,e,c,d⟩:=id st'
  exact ⟨u,rfl,yH (s:={s with heap:=h'}) e c d (by decide) ⟨x,H,I1,ru,⟨rfl,fun ys hy=>by rw [I.list_inj hy hq];exact hx⟩,st',fun b hb=>(hf b hb).1⟩⟩
 done:=by
  intro X hP hw hK hc i pins s σ H E I hf st hg
  subst hP hw hK
  obtain ⟨xs,hq,hx⟩:=hg
  obtain ⟨its,rv,p,hz⟩:=I.list hq
  obtain ⟨f0,f1,f2,f3,f4,f5⟩:=hf it (by simp)
  have hl:=rv.length
  exact wpAny_pyNext_list_end (I.ok.hd hc) st p.isList (by simp;omega) fun h' eb=>⟨rfl,I.turned (t':=s.toks) (fun b o hb e=>eb b o hb e) f0 f1 f3 f4 f5⟩
 self:=fun _ _ _ _ _ st h=>wpAny_pyIter_listiter st h
theorem zl {P:Program}{w:World}{K:PySem.W.Frag}{tg:Expr}(a it:Addr):Turn P w K tg (Dh K a) [it] it (fun i h=>h.IsTupleIter it a i) where
 mem:=by simp
 obj:=fun i h st b hb=>by
  have e:b=it:=by simpa using hb
  subst e
  obtain ⟨o,e,c,d⟩:=st
  exact ⟨o,e,fun v z=>by rw [d] at z;cases z⟩
 keep:=fun i h h' st k=>st.at fun o e=>k it (by simp) o e
 item:=by
  intro X hP hw hK hc i pins s σ H E I hf st hg
  subst hP hw hK
  obtain ⟨xs,x,hq,hx⟩:=hg
  obtain ⟨its,rv,p,hz⟩:=I.tuple hq
  obtain ⟨u,hu,ru⟩:=rv.get hx
  obtain ⟨f0,f1,f2,f3,f4,f5⟩:=hf it (by simp)
  refine wpAny_pyNext_tuple_item st (show s.heap.IsTuple a its.toArray from p) (x:=u) (by simpa using hu) fun h' st' sb=>?_
  have I1:Inv X pins σ H {s with heap:=h'}:=I.turned (t':=s.toks) (fun b o hb e=>(sb.2 b hb).trans e) f0 f1 f3 f4 f5
  obtain ⟨o,e,c,d⟩:=id st'
  exact ⟨u,rfl,yH (s:={s with heap:=h'}) e c d (by decide) ⟨x,H,I1,ru,⟨rfl,fun ys hy=>by rw [I.tuple_inj hy hq];exact hx⟩,st',fun b hb=>(hf b hb).1⟩⟩
 done:=by
  intro X hP hw hK hc i pins s σ H E I hf st hg
  subst hP hw hK
  obtain ⟨xs,hq,hx⟩:=hg
  obtain ⟨its,rv,p,hz⟩:=I.tuple hq
  obtain ⟨f0,f1,f2,f3,f4,f5⟩:=hf it (by simp)
  have hl:=rv.length
  exact wpAny_pyNext_tuple_end (I.ok.hd hc) st (show s.heap.IsTuple a its.toArray from p) (by simp;omega) fun h' eb=>⟨rfl,I.turned (t':=s.toks) (fun b o hb e=>eb b o hb e) f0 f1 f3 f4 f5⟩
 self:=fun _ _ _ _ _ st h=>wpAny_pyIter_tupleiter st h
theorem zk {P:Program}{w:World}{K:PySem.W.Frag}{tg:Expr}(it:Addr) (lo:Int) (n:Nat):Turn P w K tg (Dg lo n) [it] it (fun i h=>IsRangeIter h it (lo + (i:Nat) * 1) ((n:Int) - (i:Nat)) 1) where
 mem:=by simp
 obj:=fun i h st b hb=>by
  have e:b=it:=by simpa using hb
  subst e
  exact ⟨_,st,fun v z=>by
   have z':Data.fields _=Data.cell v:=z
   cases z'⟩
 keep:=fun i h h' st k=>k it (by simp) _ st
 item:=by
  intro X hP hw hK hc i pins s σ H E I hf st hg
  subst hP hw hK
  obtain ⟨f0,f1,f2,f3,f4,f5⟩:=hf it (by simp)
  have W:=Walks.range (prog:=X.prog) (w:=X.w) (I.ok.hd hc) it lo 1 n
  refine W.item i s _ _ hg st fun v h' tk hv st' kk=>?_
  obtain ⟨t,rfl⟩:=hv
  have I1:Inv X pins σ H {s with heap:=h',toks:=tk}:=I.turned (fun b o hb e=>kk b o (by simpa using hb) e) f0 f1 f3 f4 f5
  refine ⟨_,rfl,yH (s:={s with heap:=h',toks:=tk}) (n:="range_iterator") st' rfl rfl (by decide) ⟨.int (lo + i),H,I1,⟨t,?_⟩,⟨rfl,rfl⟩,st',fun b hb=>(hf b hb).1⟩⟩
  rw [Int.mul_one]
 done:=by
  intro X hP hw hK hc i pins s σ H E I hf st hg
  subst hP hw hK
  obtain ⟨f0,f1,f2,f3,f4,f5⟩:=hf it (by simp)
  exact wpAny_pyNext_range_end (I.ok.hd hc) st (by have:n≤i:=hg;omega) fun h' eb=>⟨rfl,I.turned (t':=s.toks) (fun b o hb e=>eb b o hb e) f0 f1 f3 f4 f5⟩
 self:=fun _ _ _ _ _ st h=>wpAny_pyIter_rangeiter st h
section
variable {X:Cx}{tg:Expr}
theorem C1 {pins:List (Addr×Obj)}{σ:St}{H:Hp}{s:Shared}{R:It→Hp→Prop}{E:Value→Shared→Prop}{lo hi:Int}{t u v:Tok}{tk:Nat}(I:Inv X pins σ H s) (h1:-(2 ^ 62)≤lo) (h2:lo < 2 ^ 62) (h3:-(2 ^ 62)≤hi) (h4:hi < 2 ^ 62)
  (q:R (Dg lo (hi - lo).toNat) H):wpAny (model X.prog X.w) X.A (pyIter (.ref s.heap.objs.size)) (Kd X pins σ tg R) E {s with heap:=s.heap.push {cls:=.type "range",data:=.fields #[.int lo t,.int hi u,.int 1 v]},toks:=tk}:=by
 refine wpAny_pyIter_range (IsRange.new ..) (small_one h1 h2 h3 h4) ?_
 have I1:Inv X pins σ H {s with heap:=s.heap.push {cls:=.type "range",data:=.fields #[.int lo t,.int hi u,.int 1 v]},toks:=tk}:=I.kept fun b o e=>Heap.get?_push_of_some _ e
 refine ⟨(s.heap.push {cls:=.type "range",data:=.fields #[.int lo t,.int hi u,.int 1 v]}).objs.size,[(s.heap.push {cls:=.type "range",data:=.fields #[.int lo t,.int hi u,.int 1 v]}).objs.size],_,_,H,rfl,
  I1.kept (t':=tk) fun b o e=>Heap.get?_push_of_some _ e,zk _ lo (hi - lo).toNat,?_,fun b hb=>?_,q⟩
 ·have e1:lo + ((0:Nat):Int) * 1=lo:=by simp
  have e2:(((hi - lo).toNat:Nat):Int) - ((0:Nat):Int)=Builtin.Range.rangeSize lo hi 1:=by rw [rangeSize_one];split <;> omega
  show IsRangeIter _ _ (lo + ((0:Nat):Int) * 1) ((((hi - lo).toNat:Nat):Int) - ((0:Nat):Int)) 1
  rw [e1,e2]
  exact Heap.get?_push_size _ rfl
 ·have e:b=(s.heap.push {cls:=.type "range",data:=.fields #[.int lo t,.int hi u,.int 1 v]}).objs.size:=by simpa using hb
  subst e
  exact I1.fpOk (Nat.le_refl _) (I1.hok.fresh (Nat.le_refl _))
def Jc (ta:TA):TI:=fun σ H R=>ta σ H fun vs H1=>∃j:Int,vs=[.int j]∧-(2 ^ 62)≤j∧j < 2 ^ 62∧R (Dg 0 j.toNat) H1
theorem AN {a:Expr}{ta:TA}{p pos:Pos}(hg:Gl X "range") (hm:X.mg "range"=none) (ha:PA X [a] ta) (hs:starEach [a] X.env=[(false,eval a X.env)]:=by rfl):PI X tg (.Call (.Name "range" p) [a] [] pos) (Jc ta):=by
 intro pins s σ H R I h
 refine Call_ (kM I hg hm boot_range (PyProof.Rows.callWith_type1 (bI (ha pos pins s σ H _ I h) fun us s1 ⟨vs,H1,I1,r1,q1⟩=>?_) hs rfl))
 obtain ⟨j,e,q1,q2,q⟩:=q1
 subst e
 cases r1 with
 | cons r rr=>
  cases rr
  obtain ⟨t,rfl⟩:=r
  exact call_range_1 (C1 I1 (by omega) (by omega) q1 q2 (by simpa using q))
def K6 (wi:TI) (g:TG) (tb:TS):TS:=fun D σ H=>wi σ H fun J H1=>∃W:Nat→Nat→St→Hp→Prop,(∃m,W 0 m σ H1)∧∀i m σ H,W i m σ H→
 (J.stop i H∧D.nx σ H)∨(J.go i H∧∃N:St→Hp→Prop,(∀σ' H',N σ' H'→∃m',m' < m∧W (i + 1) m' σ' H')∧∀x H',J.yld i H x H'→g x σ H' fun σ2 H2=>tb {D with nx:=N,ct:=N,bk:=D.nx} σ2 H2)
def nE (fp:List Addr) (h:Heap):List (Addr×Obj):=fp.filterMap fun b=>(h.get? b).map fun o=>(b,o)
theorem jt {fp:List Addr}{h:Heap}{b:Addr}{o:Obj}(hb:b∈fp) (e:h.get? b=some o):(b,o)∈nE fp h:=List.mem_filterMap.mpr ⟨b,hb,by rw [e];rfl⟩
theorem Au {fp:List Addr}{h:Heap}{p:Addr×Obj}(hp:p∈nE fp h):p.1∈fp∧h.get? p.1=some p.2:=by
 obtain ⟨b,hb,e⟩:=List.mem_filterMap.mp hp
 cases q:h.get? b with
 | none=>rw [q] at e;cases e
 | some o=>
  rw [q] at e
  have e':(b,o)=p:=Option.some.inj e
  subst e'
  exact ⟨hb,q⟩
theorem Inv.pinned {pins:List (Addr×Obj)}{σ:St}{H:Hp}{s:Shared}{fp:List Addr}(I:Inv X pins σ H s) (hf:∀b∈fp,iT X pins H b) (ho:∀b∈fp,∃o,s.heap.get? b=some o∧∀v,o.data≠.cell v):Inv X (pins++nE fp s.heap) σ H s:=
 I.pins_of fun p hp=>(List.mem_append.mp hp).elim (fun z=>I.pin p (List.mem_append_right _ z)) fun z=>by
  obtain ⟨hb,e⟩:=Au z
  obtain ⟨f0,f1,f2,_⟩:=hf p.1 hb
  obtain ⟨o,e',d⟩:=ho p.1 hb
  rw [e] at e';cases e'
  exact ⟨e,f0,f1,f2,d⟩
theorem Inv.unpinned {pins pl:List (Addr×Obj)}{σ:St}{H:Hp}{s:Shared}(I:Inv X (pins++pl) σ H s):Inv X pins σ H s:=I.pins_of fun p hp=>I.pin p (List.mem_append_right _ (List.mem_append_left _ hp))
theorem HW {iter:Expr}{body:List Stmt}{wi:TI}{g:TG}{tb:TS}{pos:Pos}(hp:PassesOwn (model X.prog X.w) X.A X.env X.xe) (hc:X.calm=true) (hi:PI X tg iter wi) (hg:PG X tg g) (hb:jj X body tb)
  (hs:∀x,foldedSetIterable iter X.env x=pure x:=by intro _;rfl):PS X (.For tg iter body [] pos) (K6 wi g tb):=by
 intro pins s σ H D I h
 refine wpAny_For (bI (hi pins s σ H _ I h) fun v s1 h1=>bI h1 fun itv s2 h2=>?_) hs
 obtain ⟨it,fp,tn,J,H2,e,I2,T,st2,f2,W,⟨m0,w0⟩,turn⟩:=h2
 subst e
 have stat:∀{H':Hp},(∀b∈fp,H' b=none)→∀b∈fp,iT X pins H' b:=fun hn b hb=>⟨hn b hb,(f2 b hb).2⟩
 refine codeAny_forLoop_any (fun n s'=>∃i σ' H',Inv X pins σ' H' s'∧tn i s'.heap∧(∀b∈fp,H' b=none)∧W i n σ' H') ?_ m0 ⟨0,σ,H2,I2,st2,fun b hb=>(f2 b hb).1,w0⟩
 rintro n s3 ⟨i,σ3,H3,I3,st3,fr3,w3⟩
 rcases turn i n σ3 H3 w3 with ⟨stop,qn⟩ | ⟨go,N,hN,step⟩
 ·refine wpAny_passesOwn hp (bI (T.done X rfl rfl rfl hc i pins s3 σ3 H3 X.xe I3 (stat fr3) st3 stop) fun r s4 ⟨hr,I4⟩=>?_)
  subst hr
  exact wpAny_execs_nil ⟨σ3,H3,I4,qn⟩
 ·refine wpAny_passesOwn hp (bI (T.item X rfl rfl rfl hc i pins s3 σ3 H3 X.xe I3 (stat fr3) st3 go) fun r s4 ⟨u,hr,h4⟩=>?_)
  subst hr
  refine wpAny_passesOwn hp (bI h4 fun _ s5 ⟨x,H5,I5,r5,y5,st5,fr5⟩=>?_)
  have I5':=I5.pinned (stat fr5) (T.obj _ _ st5)
  refine wpAny_passesOwn hp (bI (hg _ s5 σ3 H5 x u _ I5' r5 (step x H5 y5)) fun _ s6 ⟨σ6,H6,I6,q6⟩=>?_)
  refine wpAny_passesOwn hp (bI (hb _ s6 σ6 H6 _ I6 q6) fun f s7 q7=>?_)
  have again:∀{σ7:St}{H7:Hp},Inv X (pins++nE fp s5.heap) σ7 H7 s7→N σ7 H7→∃m,m < n∧∃i σ' H',Inv X pins σ' H' s7∧tn i s7.heap∧(∀b∈fp,H' b=none)∧W i m σ' H':=fun {σ7 H7} I7 n7=>by
   obtain ⟨m',hm,w7⟩:=hN σ7 H7 n7
   refine ⟨m',hm,i + 1,σ7,H7,I7.unpinned,T.keep _ _ _ st5 fun b hb o e=>(I7.pin (b,o) (List.mem_append_right _ (List.mem_append_right _ (jt hb e)))).1,fun b hb=>?_,w7⟩
   obtain ⟨o,e,d⟩:=T.obj _ _ st5 b hb
   exact (I7.pin (b,o) (List.mem_append_right _ (List.mem_append_right _ (jt hb e)))).2.1
  cases f with
  | next=>obtain ⟨σ7,H7,I7,n7⟩:=q7;exact again I7 n7
  | cont=>obtain ⟨σ7,H7,I7,n7⟩:=q7;exact again I7 n7
  | brk=>obtain ⟨σ7,H7,I7,q7⟩:=q7;exact ⟨σ7,H7,I7.unpinned,q7⟩
  | ret v=>obtain ⟨x7,σ7,H7,I7,r7,q7⟩:=q7;exact ⟨x7,σ7,H7,I7.unpinned,r7,q7⟩
end
abbrev R2:=V→V→Hp→VK→Prop
def dg (X:Cx) (f:Value→Value→Sem Value) (r:R2):Prop:=
 ∀(pins:List (Addr×Obj)) (s:Shared) (σ:St) (H:Hp) (x y:V) (v u:Value) (Q:VK),Inv X pins σ H s→RelV x v→RelV y u→r x y H Q→
  wpAny (model X.prog X.w) X.A (f v u) (EP X pins σ Q) X.xe s
def Gi (X:Cx) (f:Value→Sem Value) (r:V→Hp→VK→Prop):Prop:=
 ∀(pins:List (Addr×Obj)) (s:Shared) (σ:St) (H:Hp) (x:V) (v:Value) (Q:VK),Inv X pins σ H s→RelV x v→r x H Q→
  wpAny (model X.prog X.w) X.A (f v) (EP X pins σ Q) X.xe s
def bP (X:Cx) (f:Value) (r:List V→Hp→VK→Prop):Prop:=
 ∀(pins:List (Addr×Obj)) (s:Shared) (σ:St) (H:Hp) (xs:List V) (us:List Value) (Q:VK),Inv X pins σ H s→Vals xs us→r xs H Q→
  wpAny (model X.prog X.w) X.A (call f us) (EP X pins σ Q) X.xe s
def Ks (X:Cx) (r:V→Hp→(Bool→Hp→Prop)→Prop):Prop:=
 ∀(pins:List (Addr×Obj)) (s:Shared) (σ:St) (H:Hp) (x:V) (v:Value) (Q:Bool→Hp→Prop),Inv X pins σ H s→RelV x v→r x H Q→
  wpAny (model X.prog X.w) X.A (truthy v) (TP X pins σ Q) X.xe s
def A_ (r:R2) (ta tb:TE):TE:=fun σ H Q=>ta σ H fun x H1=>tb σ H1 fun y H2=>r x y H2 Q
def Lx (r:V→Hp→VK→Prop) (ta:TE):TE:=fun σ H Q=>ta σ H fun x H1=>r x H1 Q
def rI (C:Int→Int→Prop) (g:Int→Int→V):R2:=fun x y H Q=>∃i j,x=.int i∧y=.int j∧C i j∧Q (g i j) H
def nI (g:Int→Int→V):R2:=fun x y H Q=>∃i j,x=.int i∧y=.int j∧Q (g i j) H
def rU (g:Int→V):V→Hp→VK→Prop:=fun x H Q=>∃i,x=.int i∧Q (g i) H
section
variable {X:Cx}{a b c:Expr}{ta tb tc:TE}{pos:Pos}
theorem By (ha:PE X a ta) (hb:PE X b tb){pins:List (Addr×Obj)}{s:Shared}{σ:St}{H:Hp}{R:V→V→Hp→Prop}(I:Inv X pins σ H s)
  (h:ta σ H fun x H1=>tb σ H1 fun y H2=>R x y H2){Q:Value→Shared→Prop}{f:Value→Value→Sem Value}
  (hf:∀v u s2 x y H2,Inv X pins σ H2 s2→RelV x v→RelV y u→R x y H2→wpAny (model X.prog X.w) X.A (f v u) Q X.xe s2):
  wpAny (model X.prog X.w) X.A (eval a X.env) (fun v s₁=>wpAny (model X.prog X.w) X.A (eval b X.env) (fun u s₂=>wpAny (model X.prog X.w) X.A (f v u) Q X.xe s₂) X.xe s₁) X.xe s:=by
 refine bI (ha pins s σ H _ I h) fun v s1 ⟨x,H1,I1,r1,q1⟩=>?_
 refine bI (hb pins s1 σ H1 _ I1 q1) fun u s2 ⟨y,H2,I2,r2,q2⟩=>?_
 exact hf v u s2 x y H2 I2 r1 r2 q2
theorem JC {op:Operator}{r:R2}(ho:dg X (binaryOp op) r) (ha:PE X a ta) (hb:PE X b tb):PE X (.BinOp a op b pos) (A_ r ta tb):=by
 intro pins s σ H Q I h
 exact wpAny_BinOp (By ha hb I h fun v u s2 x y H2 I2 rx ry q=>ho pins s2 σ H2 x y v u Q I2 rx ry q)
theorem JD {op:UnaryOp}{r:V→Hp→VK→Prop}(ho:Gi X (unaryOp op) r) (ha:PE X a ta):PE X (.UnaryOp op a pos) (Lx r ta):=by
 intro pins s σ H Q I h
 exact UnaryOp_ (bI (ha pins s σ H _ I h) fun v s1 ⟨x,H1,I1,r1,q1⟩=>ho pins s1 σ H1 x v Q I1 r1 q1)
theorem Kw {op:Operator}{r:R2}(ho:dg X (inplaceOp op) r){pins:List (Addr×Obj)}{s:Shared}{σ:St}{H:Hp}{x y:V}{v u:Value}{Q:VK}(I:Inv X pins σ H s)
  (rx:RelV x v) (ry:RelV y u) (q:r x y H Q):wpAny (model X.prog X.w) X.A (inplaceOp op v u) (EP X pins σ Q) X.xe s:=ho pins s σ H x y v u Q I rx ry q
theorem Av {f:Value→Value→Sem Value}{C:Int→Int→Prop}{g:Int→Int→Int}
  (rule:∀(i j:Int) (t u:Tok) (s:Shared) (Q:Value→Shared→Prop) (E:Value→Shared→Prop),C i j→Q (.int (g i j) s.toks) {s with toks:=s.toks + 1}→wpAny (model X.prog X.w) X.A (f (.int i t) (.int j u)) Q E s):
  dg X f (rI C fun i j=>.int (g i j)):=by
 intro pins s σ H x y v u Q I rx ry h
 obtain ⟨i,j,rfl,rfl,hc,q⟩:=h
 obtain ⟨t,rfl⟩:=rx
 obtain ⟨t',rfl⟩:=ry
 exact rule i j t t' s _ _ hc ⟨.int (g i j),H,I.tok _,⟨_,rfl⟩,q⟩
theorem Ci {f:Value→Value→Sem Value}{g:Int→Int→Int}
  (rule:∀(i j:Int) (t u:Tok) (s:Shared) (Q:Value→Shared→Prop) (E:Value→Shared→Prop),Q (.int (g i j) s.toks) {s with toks:=s.toks + 1}→wpAny (model X.prog X.w) X.A (f (.int i t) (.int j u)) Q E s):
  dg X f (nI fun i j=>.int (g i j)):=by
 intro pins s σ H x y v u Q I rx ry h
 obtain ⟨i,j,rfl,rfl,q⟩:=h
 obtain ⟨t,rfl⟩:=rx
 obtain ⟨t',rfl⟩:=ry
 exact rule i j t t' s _ _ ⟨.int (g i j),H,I.tok _,⟨_,rfl⟩,q⟩
theorem Cg {f:Value→Value→Sem Value}{g:Int→Int→Bool}
  (rule:∀(i j:Int) (t u:Tok) (s:Shared) (Q:Value→Shared→Prop) (E:Value→Shared→Prop),Q (.bool (g i j)) s→wpAny (model X.prog X.w) X.A (f (.int i t) (.int j u)) Q E s):
  dg X f (nI fun i j=>.bl (g i j)):=by
 intro pins s σ H x y v u Q I rx ry h
 obtain ⟨i,j,rfl,rfl,q⟩:=h
 obtain ⟨t,rfl⟩:=rx
 obtain ⟨t',rfl⟩:=ry
 exact rule i j t t' s _ _ ⟨.bl (g i j),H,I,rfl,q⟩
def Ko (i j:Int):Prop:=0 < j∧j < 1073741824
def Kp (i j:Int):Prop:=0≤j∧j≤1000000∧i.natAbs < 2 ^ 64
def uc (i j:Int):Prop:=(-(2 ^ 64) < i∧i < 2 ^ 64)∨(-(2 ^ 64) < j∧j < 2 ^ 64)
theorem uc.ok {i j:Int}(h:uc i j):IntMulOk i j:=by
 rcases h with ⟨h1,h2⟩ | ⟨h1,h2⟩
 ·exact .of_left (intBits_le_64 h1 h2)
 ·exact .of_right (intBits_le_64 h1 h2)
theorem Aw:dg X (binaryOp .Add) (nI fun i j=>.int (i + j)):=Ci fun _ _ _ _ _ _ _ q=>add_int q
theorem G6:dg X (binaryOp .Sub) (nI fun i j=>.int (i - j)):=Ci fun _ _ _ _ _ _ _ q=>sub_int q
theorem G3:dg X (binaryOp .Mult) (rI uc fun i j=>.int (i * j)):=Av fun _ _ _ _ _ _ _ hc q=>mul_int q hc.ok
theorem EF:dg X (binaryOp .FloorDiv) (rI Ko fun i j=>.int (i / j)):=Av fun i j _ _ _ _ _ hc q=>by
 have h1:(0:Int) < j:=hc.1
 have h2:j < 1073741824:=hc.2
 exact floordiv_int (by omega) (by rw [Int.fdiv_eq_ediv_of_nonneg i (by omega)];exact q) (.inl (PyProof.noPylong_small (by omega)))
theorem G2:dg X (binaryOp .Mod) (rI (fun _ j=>0 < j) fun i j=>.int (i % j)):=Av fun i j _ _ _ _ _ hc q=>by
 have h1:(0:Int) < j:=hc
 exact mod_int' (by omega) (by rw [Int.fmod_eq_emod_of_nonneg i (by omega)];exact q)
theorem G5:dg X (binaryOp .Pow) (rI Kp fun i j=>.int (i ^ j.toNat)):=Av fun _ _ _ _ _ _ _ hc q=>pow_int_small hc.1 hc.2.1 hc.2.2 q
theorem El:dg X (inplaceOp .Add) (nI fun i j=>.int (i + j)):=Ci fun _ _ _ _ _ _ _ q=>iadd_int q
theorem Em:dg X (inplaceOp .Mult) (rI uc fun i j=>.int (i * j)):=Av fun _ _ _ _ _ _ _ hc q=>imul_int q hc.ok
theorem xZ {f:Value→Sem Value}{g:Int→Int}
  (rule:∀(i:Int) (t:Tok) (s:Shared) (Q:Value→Shared→Prop) (E:Value→Shared→Prop),Q (.int (g i) s.toks) {s with toks:=s.toks + 1}→wpAny (model X.prog X.w) X.A (f (.int i t)) Q E s):
  Gi X f (rU fun i=>.int (g i)):=by
 intro pins s σ H x v Q I rx h
 obtain ⟨i,rfl,q⟩:=h
 obtain ⟨t,rfl⟩:=rx
 exact rule i t s _ _ ⟨.int (g i),H,I.tok _,⟨_,rfl⟩,q⟩
theorem IT:Gi X (unaryOp .USub) (rU fun i=>.int (-i)):=xZ fun _ _ _ _ _ q=>neg_int q
end
section
variable {X:Cx}{a b c:Expr}{ta tb tc:TE}{pos:Pos}
theorem DC:dg X (compareOp .Lt) (nI fun i j=>.bl (decide (i < j))):=Cg fun _ _ _ _ _ _ _ q=>lt_int q
theorem qh:dg X (compareOp .Gt) (nI fun i j=>.bl (decide (j < i))):=Cg fun _ _ _ _ _ _ _ q=>gt_int q
theorem Jo:dg X (compareOp .GtE) (nI fun i j=>.bl (decide (j≤i))):=Cg fun _ _ _ _ _ _ _ q=>ge_int q
theorem dg.or {f:Value→Value→Sem Value}{r r':R2}(h:dg X f r) (h':dg X f r'):dg X f (fun x y H Q=>r x y H Q∨r' x y H Q):=by
 intro pins s σ H x y v u Q I rx ry q
 rcases q with q | q
 ·exact h pins s σ H x y v u Q I rx ry q
 ·exact h' pins s σ H x y v u Q I rx ry q
theorem ve (b:Expr){op:CmpOp}(h:op≠.In:=by decide) (h2:op≠.NotIn:=by decide):behindInMarks op b=false:=by
 have e1:(op == CmpOp.In)=false:=by cases op <;> first | rfl | exact absurd rfl h
 have e2:(op == CmpOp.NotIn)=false:=by cases op <;> first | rfl | exact absurd rfl h2
 cases b <;> simp [behindInMarks,e1,e2]
theorem E3 {op:CmpOp}{r:R2}(ho:dg X (compareOp op) r) (ha:PE X a ta) (hb:PE X b tb) (hm:behindInMarks op b=false):PE X (.Compare a [op] [b] pos) (A_ r ta tb):=by
 intro pins s σ H Q I h
 exact wpAny_Compare1 (By ha hb I h fun v u s2 x y H2 I2 rx ry q=>ho pins s2 σ H2 x y v u Q I2 rx ry q) hm
def JW (t:TE):TT:=fun σ H Q=>t σ H fun x H'=>∃k,x=.bl k∧Q k H'
theorem Fi {op:CmpOp}{r:R2}(ho:dg X (compareOp op) r) (ha:PE X a ta) (hb:PE X b tb) (hm:behindInMarks op b=false):PT X (.Compare a [op] [b] pos) (JW (A_ r ta tb)):=by
 intro pins s σ H Q I h
 refine wpAny_isTrue_Compare1 (bI (ha pins s σ H _ I h) fun v s1 ⟨x,H1,I1,r1,q1⟩=>bI (hb pins s1 σ H1 _ I1 q1) fun u s2 ⟨y,H2,I2,r2,q2⟩=>
  bI (ho pins s2 σ H2 x y v u _ I2 r1 r2 q2) fun c s3 ⟨z,H3,I3,r3,k,e,q3⟩=>?_) hm
 subst e
 cases r3
 exact wpAny_truthy_bool ⟨H3,I3,q3⟩
def Bw (K:PySem.W.Frag) (x:V) (H:Hp) (k:Bool):Prop:=
 match x with
 | .non=>k=false
 | .bl b=>k=b
 | .int i=>k=(i != 0)
 | .str y=>y.length≤sizeLine∧k=((y.length:Int) != 0)
 | .byt y=>y.size≤sizeLine∧k=((y.size:Int) != 0)
 | .ref p=>(∃xs,cG K H p xs∧k=!xs.isEmpty)∨(∃xs,cX K H p xs∧k=!xs.isEmpty)∨∃kvs,H p=some (.dK kvs)∧k=!kvs.isEmpty
 | _=>False
theorem yJ {κ:Type}{kvs:List (κ×V)}{vs:List (κ×Value)}(r:KV kvs vs):(!vs.isEmpty)=!kvs.isEmpty:=by
 cases r <;> rfl
theorem qa {xs:List V}{its:List Value}(r:Vals xs its):(!its.toArray.isEmpty)=!xs.isEmpty:=by
 cases r <;> simp
theorem jN:(sizeLine:Nat) < 2 ^ 63:=by rw [sizeLine_eq];decide
theorem IM:Ks X (fun x H Q=>∃k,Bw X.K x H k∧Q k H):=by
 intro pins s σ H x v Q I rx h
 obtain ⟨k,e,q⟩:=h
 have hl:=jN
 have hs:sizeLine=16777216:=sizeLine_eq
 cases x with
 | non=>
  cases rx
  have e':k=false:=e
  subst e'
  exact truthy_none ⟨H,I,q⟩
 | bl b=>
  cases rx
  have e':k=b:=e
  subst e'
  exact wpAny_truthy_bool ⟨H,I,q⟩
 | int i=>
  obtain ⟨t,rfl⟩:=rx
  have e':k=(i != 0):=e
  subst e'
  exact PySem.P.truthy_int ⟨H,I,q⟩
 | str y=>
  obtain ⟨t,rfl⟩:=rx
  obtain ⟨hy,e'⟩:y.length≤sizeLine∧k=((y.length:Int) != 0):=e
  subst e'
  exact PySem.P.truthy_str (by omega) ⟨H,I.tok _,q⟩
 | byt y=>
  obtain ⟨t,rfl⟩:=rx
  obtain ⟨hy,e'⟩:y.size≤sizeLine∧k=((y.size:Int) != 0):=e
  subst e'
  exact PySem.W.truthy_bytes (by omega) ⟨H,I.tok _,q⟩
 | ref p=>
  cases rx
  have e':(∃xs,cG X.K H p xs∧k=!xs.isEmpty)∨(∃xs,cX X.K H p xs∧k=!xs.isEmpty)∨∃kvs,H p=some (.dK kvs)∧k=!kvs.isEmpty:=e
  rcases e' with ⟨xs,hx,e'⟩ | ⟨xs,hx,e'⟩ | ⟨kvs,hx,e'⟩
  ·subst e'
   obtain ⟨its,r,pl,hz⟩:=I.list hx
   have hlen:=r.length
   exact wpAny_truthy_list pl.isList (by simp only [List.size_toArray];omega) ⟨H,I.tok _,by rw [qa r];exact q⟩
  ·subst e'
   obtain ⟨its,r,pl,hz⟩:=I.tuple hx
   have hlen:=r.length
   exact truthy_tuple pl (by simp only [List.size_toArray];omega) ⟨H,I.tok _,by rw [qa r];exact q⟩
  ·subst e'
   obtain ⟨hz,hS,vs,r,m⟩:kvs.length≤sizeLine∧(p == sysModules)=false∧∃vs,KV kvs vs∧s.heap.DictOf (q8 X.prog X.w) p vs:=I.hok p _ hx
   have hlen:kvs.length=vs.length:=Paired.length r
   exact wpAny_truthy_dict hS m (by omega) ⟨H,I.tok _,by rw [yJ r];exact q⟩
 | _=>exact (show False from e).elim
theorem CS (ha:PE X a ta) (he:∀whole,isTrue a X.env whole=(do let v ←whole;standAt a.pos;holding [v] (truthy v))):
  PT X a (fun σ H Q=>ta σ H fun x H'=>∃k,Bw X.K x H' k∧Q k H'):=by
 intro pins s σ H Q I h
 exact isTrue_plain (bI (ha pins s σ H _ I h) fun v s1 ⟨x,H1,I1,r1,q1⟩=>IM pins s1 σ H1 x v Q I1 r1 q1) (he _)
theorem qf:dg X (binaryOp .Add) (fun x y H Q=>∃i j,x=.str i∧y=.str j∧i.length + j.length≤sizeLine∧Q (.str (i++j)) H):=by
 intro pins s σ H x y v u Q I rx ry h
 obtain ⟨i,j,rfl,rfl,hz,q⟩:=h
 obtain ⟨t,rfl⟩:=rx
 obtain ⟨t',rfl⟩:=ry
 exact add_str (fun t' tk=>⟨.str (i++j),H,I.tok _,⟨_,rfl⟩,q⟩) hz
theorem vals1 {x:V}{us:List Value}(r:Vals [x] us):∃u,us=[u]∧RelV x u:=by
 cases r with
 | cons r1 r2=>cases r2;exact ⟨_,rfl,r1⟩
theorem vals2 {x y:V}{us:List Value}(r:Vals [x,y] us):∃u w',us=[u,w']∧RelV x u∧RelV y w':=by
 cases r with
 | cons r1 r2=>
  cases r2 with
  | cons r3 r4=>cases r4;exact ⟨_,_,rfl,r1,r3⟩
theorem zO:bP X (.type "int") (fun xs H Q=>(∃i,xs=[.int i]∧Q (.int i) H)∨∃k,xs=[.bl k]∧Q (.int (if k then 1 else 0)) H):=by
 intro pins s σ H xs us Q I r h
 rcases h with ⟨i,rfl,q⟩ | ⟨k,rfl,q⟩
 ·obtain ⟨u,rfl,t,rfl⟩:=vals1 r
  exact call_int_int ⟨.int i,H,I,⟨_,rfl⟩,q⟩
 ·obtain ⟨u,rfl,r1⟩:=vals1 r
  cases r1
  exact call_int_bool ⟨.int (if k then 1 else 0),H,I.tok _,⟨_,rfl⟩,q⟩
end
structure c_ (k:Nat) (A:Around):Prop where
 hd:A.handled=none
 dp:A.depth + 3 * k + 5 < recursionLimit
 un:A.units + 16 * k + 200 < cLine
theorem c_.mono {j k:Nat}{A:Around}(r:c_ k A) (h:j≤k):c_ j A:=⟨r.hd,by have:=r.dp;omega,by have:=r.un;omega⟩
theorem c_.deeper {k:Nat}{A:Around}(r:c_ (k + 1) A) (env:Env):c_ k (A.deeper env):=
 ⟨r.hd,by have:=r.dp;show A.depth + 1 + 3 * k + 5 < _;omega,by have:=r.un;show A.units + 3 + 16 * k + 200 < _;omega⟩
theorem c_.depth {k:Nat}{A:Around}(r:c_ k A):A.depth < recursionLimit:=by have:=r.dp;omega
theorem c_.units {k:Nat}{A:Around}(r:c_ k A):A.units + 64 < cLine:=by have:=r.un;omega
def zh:TA:=fun _ H Q=>Q [] H
def JR (ta:TE) (tr:TA):TA:=fun σ H Q=>ta σ H fun x H1=>tr σ H1 fun xs H2=>Q (x::xs) H2
section
variable {X:Cx}{e:Expr}{es:List Expr}{te:TE}{t:TA}{pos:Pos}
theorem jg:PA X [] zh:=fun _ _ _ _ H Q I h=>Calls.spliced_nil ⟨[],H,I,.nil,h⟩
theorem gG (ha:PE X e te) (hr:PA X es t) (hs:starEach (e::es) X.env=(false,eval e X.env)::starEach es X.env:=by rfl):PA X (e::es) (JR te t):=by
 intro pos pins s σ H Q I h
 rw [hs]
 show wpAny _ _ (spliced ((false,eval e X.env)::backTo pos (starEach es X.env))) _ _ s
 refine Calls.spliced_cons (bI (ha pins s σ H _ I h) fun u s1 ⟨x,H1,I1,r1,q1⟩=>?_)
 exact bI (hr pos pins s1 σ H1 _ I1 q1) fun us s2 ⟨xs,H2,I2,r2,q2⟩=>⟨x::xs,H2,I2,.cons r1 r2,q2⟩
def Lb (t:TA):TE:=fun σ H Q=>t σ H fun xs H1=>xs.length≤sizeLine∧∀p,H1 p=none→Q (.ref p) (upd H1 p (.tup xs))
def K8 (t:TA):TE:=fun σ H Q=>t σ H fun xs H1=>xs.length≤sizeLine∧∀p,H1 p=none→Q (.ref p) (upd H1 p (.lst xs))
theorem HP {x1}(h:PA X es t):PE X (.Tuple es x1 pos) (Lb t):=by
 intro pins s σ H Q I hq
 refine wpAny_Tuple_spliced (bI (h pos pins s σ H _ I hq) fun us s1 ⟨xs,H1,I1,r,z,q⟩=>⟨by rw [←r.length];exact z,?_⟩)
 have hf:H1 s1.heap.objs.size=none:=I1.hok.fresh (Nat.le_refl _)
 refine ⟨.ref s1.heap.objs.size,upd H1 s1.heap.objs.size (.tup xs),I1.laid (t':=s1.toks) (fun b u e=>Heap.get?_push_of_some _ e) (Nat.le_refl _) ?_,rfl,q _ hf⟩
 exact ⟨z,us,r,⟨_,Heap.get?_push_size _ rfl,rfl,_,rfl⟩⟩
theorem HH (h:PA X es t):PE X (.List es pos) (K8 t):=by
 intro pins s σ H Q I hq
 refine wpAny_List_spliced (bI (h pos pins s σ H _ I hq) fun us s1 ⟨xs,H1,I1,r,z,q⟩=>⟨by rw [←r.length];exact z,?_⟩)
 have hf:H1 s1.heap.objs.size=none:=I1.hok.fresh (Nat.le_refl _)
 refine ⟨.ref s1.heap.objs.size,upd H1 s1.heap.objs.size (.lst xs),I1.laid (t':=s1.toks) (fun b u e=>Heap.get?_push_of_some _ e) (Nat.le_refl _) ?_,rfl,q _ hf⟩
 exact ⟨z,us,0,r,Heap.get?_push_size _ rfl⟩
end
abbrev Sp:=List V→Hp→VK→XK→Prop
abbrev mG:=List Env→Hp→Shared→XK→Value→Shared→Prop
structure yc (P:Program) (w:World) (K:PySem.W.Frag) (mg:Str→Option Value) (base:Heap) (A:Around) (outer:List Env) (s:Shared) (H:Hp):Prop where
 frames:A.frames=some outer
 mod:Mod K mg base
 bs:∀b o,base.get? b=some o→s.heap.get? b=some o∧H b=none
 bsz:base.objs.size≤s.heap.objs.size
 funs:s.heap.FunFrames base outer
 frf:∀b∈frs outer,H b=none
 hok:fN P w H s.heap
 bare:AllBare s.gens
def CE (outer:List Env) (P:Program) (w:World) (H:Hp) (s:Shared) (Q:VK) (u:Value) (s':Shared):Prop:=
 ∃v H',s'.os=s.os∧AllBare s'.gens∧Un (frs outer) [] H H' s.heap s'.heap∧fN P w H' s'.heap∧RelV v u∧Q v H'
def CR (CX:mG) (outer:List Env) (P:Program) (w:World) (H:Hp) (s:Shared) (Q:VK) (E:XK) (r:Result) (s':Shared):Prop:=
 match r with
 | .ok (.ret u)=>CE outer P w H s Q u s'
 | .ok _=>False
 | .error e=>CX outer H s E e s'
structure gj (P:Program) (w:World) (K:PySem.W.Frag) (mg:Str→Option Value) (base:Heap) (CX:mG) (k:Nat) (f:Addr) (fd:FuncData) (ps:List Str) (sp:Sp):Prop where
 len:∀vs H Q E,sp vs H Q E→vs.length=ps.length
 run:∀(A:Around) (outer:List Env) (s:Shared) (H:Hp) (args:Args) (us:List Value) (vs:List V) (Q:VK) (E:XK),c_ k A→yc P w K mg base A outer s H→BindsTo s fd args (ps.zip us)→Vals vs us→sp vs H Q E→
  codeAny (model P w) A (.call (.ref f) args) (CR CX outer P w H s Q E) s
section
variable {X:Cx}{pins:List (Addr×Obj)}{σ:St}{H:Hp}{s s':Shared}
theorem Inv.env0 (I:Inv X pins σ H s):yc X.prog X.w X.K X.mg X.base X.A X.stack s H:=
 ⟨I.ok.frames,I.ok.mod,I.bs,Nat.le_trans I.ok.bsz I.sz,I.stack,I.stkFree,I.hok,I.bare⟩
theorem Inv.after {Q:VK}{u:Value}(I:Inv X pins σ H s) (h:CE X.stack X.prog X.w H s Q u s'):EP X pins σ Q u s':=by
 obtain ⟨v,H',os,bare,un,hok,r,q⟩:=h
 obtain ⟨hh,g,d,t,os'⟩:=s'
 obtain rfl:os'=s.os:=os
 exact ⟨v,H',I.call (h':=hh) (g':=g) (d':=d) (t':=t) (ch:=[]) un hok bare (fun b z=>absurd z (by simp)),r,q⟩
end
def JQ (sp:Sp) (dvs:List V) (E:XK) (t:TA):TE:=fun σ H Q=>t σ H fun vs H1=>sp (vs++dvs) H1 Q E
def Binds (K:PySem.W.Frag) (fd:FuncData) (ps:List Str) (ds:List Value):Prop:=
 ∀(s:Shared) (us:List Value),K.In s.heap→(us++ds).length=ps.length→BindsTo s fd ⟨us,[]⟩ (ps.zip (us++ds))
theorem Binds.all {K:PySem.W.Frag}{fd:FuncData}{ps:List Str}(h:∀us:List Value,us.length=ps.length→bindArgs fd ⟨us,[]⟩=pure (ps.zip us)):Binds K fd ps []:=fun s us _ hl=>by
 rw [List.append_nil] at hl ⊢
 exact .of_eq (h us hl)
def Passes (CX:mG) (X:Cx) (E:XK):Prop:=∀(pins:List (Addr×Obj)) (σ:St) (H:Hp) (s:Shared) (e:Value) (s':Shared),Inv X pins σ H s→CX X.stack H s E e s'→X.xe e s'
section
variable {X:Cx}{CX:mG}{k:Nat}{f C:Addr}{fd:FuncData}{ps:List Str}{sp:Sp}{dvs:List V}{ds:List Value}{E:XK}{x m:Str}{p pos apos:Pos}{e o:Expr}{es:List Expr}{ta:TE}{t:TA}
theorem Iv {pins:List (Addr×Obj)}{σ:St}{H:Hp}{s:Shared}{Q:VK}{us:List Value}{vs:List V}(F:gj X.prog X.w X.K X.mg X.base CX k f fd ps sp) (hr:c_ k X.A) (hb:Binds X.K fd ps ds) (hd:Vals dvs ds) (hx:Passes CX X E)
  (I:Inv X pins σ H s) (r:Vals vs us) (h:sp (vs++dvs) H Q E):wpAny (model X.prog X.w) X.A (call (.ref f) us) (EP X pins σ Q) X.xe s:=by
 have r2:Vals (vs++dvs) (us++ds):=r.append hd
 have hl:(us++ds).length=ps.length:=by rw [←r2.length];exact F.len _ _ _ _ h
 refine wpAny_call (codeAny_mono (F.run X.A X.stack s H ⟨us,[]⟩ (us++ds) (vs++dvs) Q E hr I.env0 (hb s us I.kIn hl) r2 h) fun r s' hq=>?_)
 cases r with
 | error e=>exact hx pins σ H s e s' I hq
 | ok fl=>
  cases fl with
  | ret u=>exact I.after hq
  | next=>exact False.elim hq
  | brk=>exact False.elim hq
  | cont=>exact False.elim hq
theorem xN (F:gj X.prog X.w X.K X.mg X.base CX k f fd ps sp) (hr:c_ k X.A) (hg:Gl X x) (hm:X.mg x=some (.ref f)) (hk:PySem.W.keepIn X.K (.ref f)=true) (hb:Binds X.K fd ps ds) (hd:Vals dvs ds) (hx:Passes CX X E)
  (ha:PA X (e::es) t) (hdb:(x == ("__debug__":Str))=false:=by decide) (he:starEach (e::es) X.env=(false,eval e X.env)::starEach es X.env:=by rfl) (hpl:(backTo pos (starEach es X.env)).any (·.1)=false:=by rfl):
  PE X (.Call (.Name x p) (e::es) [] pos) (JQ sp dvs E t):=by
 intro pins s σ H Q I h
 refine wpAny_Call_Name_kw (xD I hg hm ?_ hdb)
 refine PySem.W.callWith_K (h₀:=X.base) I.ok.mod.kin hk (bI (ha pos pins s σ H _ I h) fun us s1 ⟨vs,H1,I1,r,q⟩=>⟨I1.kIn,?_⟩) he hpl
 exact Iv F hr hb hd hx I1 r q
end
structure bE (N P:List Str) (sc:Scope):Prop where
 kind:sc.kind=.function
 co:sc.isCoroutine=false
 gen:sc.isGenerator=false
 nd:N.Nodup
 pre:N.take P.length=P
 par:∀x∈P,sc.names.lookup x=some .local∨sc.names.lookup x=some .cell
 nofree:∀y∈sc.names,y.2≠.free
theorem rN {kindOf:Str→Option NameKind}{x:Str}:∀{binds:List (Str×Value)}{m:Str→Option Value},(∀v,(x,v)∉binds)→bindL kindOf binds m x=m x
 | [],_,_=>rfl
 | (n,v)::r,m,h=>by
  unfold bindL
  rw [rN fun w hw=>h w (List.mem_cons_of_mem _ hw)]
  split
  ·have:x≠n:=by rintro rfl;exact h v List.mem_cons_self
   simp [this]
  ·rfl
theorem rL {kindOf:Str→Option NameKind}{x:Str}:∀{binds:List (Str×Value)}{m:Str→Option Value},(∀v,(x,v)∉binds)→bindC kindOf binds m x=m x
 | [],_,_=>rfl
 | (n,v)::r,m,h=>by
  unfold bindC
  rw [rL fun w hw=>h w (List.mem_cons_of_mem _ hw)]
  split
  ·rfl
  ·have:x≠n:=by rintro rfl;exact h v List.mem_cons_self
   simp [this]
theorem rM {kindOf:Str→Option NameKind}{x:Str}{v:Value}:∀{P:List Str}{vs:List Value}{i:Nat}{m:Str→Option Value},P.Nodup→P[i]?=some x→vs[i]?=some v→kindOf x=some .local→
  bindL kindOf (P.zip vs) m x=some v
 | [],_,_,_,_,h,_,_=>by simp at h
 | _::_,[],_,_,_,_,h,_=>by simp at h
 | p::P,w::vs,0,m,nd,h1,h2,hk=>by
  simp at h1 h2;subst h1;subst h2
  show bindL kindOf ((p,w)::P.zip vs) m p=_
  unfold bindL
  rw [rN fun v hv=>(List.nodup_cons.mp nd).1 (List.of_mem_zip hv).1,if_pos hk]
  simp
 | p::P,w::vs,i + 1,m,nd,h1,h2,hk=>by
  show bindL kindOf ((p,w)::P.zip vs) m x=_
  unfold bindL
  exact rM (i:=i) (List.nodup_cons.mp nd).2 (by simpa using h1) (by simpa using h2) hk
theorem rK {kindOf:Str→Option NameKind}{x:Str}{v:Value}:∀{P:List Str}{vs:List Value}{i:Nat}{m:Str→Option Value},P.Nodup→P[i]?=some x→vs[i]?=some v→kindOf x≠some .local→
  bindC kindOf (P.zip vs) m x=some v
 | [],_,_,_,_,h,_,_=>by simp at h
 | _::_,[],_,_,_,_,h,_=>by simp at h
 | p::P,w::vs,0,m,nd,h1,h2,hk=>by
  simp at h1 h2;subst h1;subst h2
  show bindC kindOf ((p,w)::P.zip vs) m p=_
  unfold bindC
  rw [rL fun v hv=>(List.nodup_cons.mp nd).1 (List.of_mem_zip hv).1,if_neg hk]
  simp
 | p::P,w::vs,i + 1,m,nd,h1,h2,hk=>by
  show bindC kindOf ((p,w)::P.zip vs) m x=_
  unfold bindC
  exact rK (i:=i) (List.nodup_cons.mp nd).2 (by simpa using h1) (by simpa using h2) hk
def start (N:List Str) (vs:List V):St:=vs.map some++List.replicate (N.length - vs.length) none
def mR (CX:mG) (P:Program) (w:World) (K:PySem.W.Frag) (mg:Str→Option Value) (base:Heap) (N:List Str) (qual:Str) (scope:Scope) (f:Addr) (cd:Value) (A:Around) (outer:List Env) (s:Shared) (H:Hp) (E:XK):Cx where
 prog:=P
 w:=w
 K:=K
 mg:=mg
 base:=base
 A:=A.deeper (envOfC qual scope s.heap.objs.size f cd)
 N:=N
 s₀:=s
 H₀:=H
 env:=envOfC qual scope s.heap.objs.size f cd
 outer:=outer
 stack:=envOfC qual scope s.heap.objs.size f cd::outer
 ex:=[]
 calm:=true
 fn:=fun _=>true
 pn:=[]
 xe:=fun e s'=>wpAny (model P w) (A.deeper (envOfC qual scope s.heap.objs.size f cd)) (leaving (envOfC qual scope s.heap.objs.size f cd) e) (fun _ s''=>CX outer H s E e s'') (fun e' s''=>CX outer H s E e' s'') s'
theorem uR {sc:Scope}{n:Nat}{x:Str}(h:sc.names.lookup x=some .cell):∃c,(cellsFrom n sc.names []).lookup x=some c:=by
 have q:=PySem.W.cellsFrom_some sc.names n [] (.inl h)
 exact Option.isSome_iff_exists.mp q
theorem Ai {CX:mG}{P:Program}{w:World}{K:PySem.W.Frag}{mg:Str→Option Value}{base:Heap}{N ps:List Str}{qual:Str}{scope:Scope}{f:Addr}{cd:Value}{A:Around}{outer:List Env}{s s1:Shared}{H:Hp}{E:XK}{us:List Value}{vs:List V}
  (S:bE N ps scope) (hd:A.handled=none) (e0:yc P w K mg base A outer s H) (hl:vs.length=ps.length) (r:Vals vs us)
  (x:InCallC s s.heap.objs.size (bindL (envOfC qual scope s.heap.objs.size f cd).kindOf (ps.zip us) fun _=>none) (cellsFrom (s.heap.objs.size + 1) scope.names []) (bindC (envOfC qual scope s.heap.objs.size f cd).kindOf (ps.zip us) fun _=>none) s1):
  Inv (mR CX P w K mg base N qual scope f cd A outer s H E) [] (start N vs) H s1:=by
 have hpl:ps.length≤N.length:=by have:=congrArg List.length S.pre;rw [List.length_take] at this;omega
 obtain ⟨h1,tk,rfl,hk⟩:=x.done
 have noA:∀b:Addr,b∉(mR CX P w K mg base N qual scope f cd A outer s H E).ex:=fun b z=>absurd (show b∈([]:List Addr) from z) (by simp)
 refine ⟨⟨e0.mod,S.kind,rfl,rfl,Nat.le_refl _,fun y z c h1 h2=>?_,fun y hy=>?_,fun y c _ h=>?_,fun _=>hd,Around.frames_deeper e0.frames,.inr ⟨rfl,rfl⟩,fun b z=>absurd z (noA b),e0.bs,e0.bsz,fun b _ _=>noA b,fun b z=>absurd z (noA b),e0.funs,e0.frf⟩,
  rfl,e0.bare,Un.kept hk,⟨_,x.toInCall.ns,fun i y v h1 h2 h3=>?_⟩,fun y c h=>⟨_,x.cell y c h⟩,e0.hok.fresh (Nat.le_refl _),fun y c h=>?_,fun p hp=>absurd (show p∈([]:List (Addr×Obj)) from hp) (by simp),e0.hok.kept hk,?_⟩
 ·exact name_of_addr x.apart (PySem.mem_of_lookup h1) (PySem.mem_of_lookup h2)
 ·have hy:scope.names.lookup y=some .cell∨scope.names.lookup y=some .free:=hy
  rcases hy with hy | hy
  ·exact uR hy
  ·exact absurd rfl (S.nofree _ (PySem.mem_of_lookup hy))
 ·exact Nat.le_of_lt (x.above y c (PySem.mem_of_lookup h))
 ·have hi:i < vs.length:=by
   unfold start at h2
   by_cases hi:i < vs.length
   ·exact hi
   ·rw [List.getElem?_append_right (by simpa using hi)] at h2
    rw [List.getElem?_replicate] at h2
    split at h2 <;> cases h2
  have ha:vs[i]?=some v:=by
   unfold start at h2
   rw [List.getElem?_append_left (by simpa using hi),List.getElem?_map] at h2
   cases e:vs[i]? with
   | none=>rw [e] at h2;cases h2
   | some a=>rw [e] at h2;cases h2;rfl
  obtain ⟨u,hu,rv⟩:=r.get ha
  have hp:ps[i]?=some y:=by
   rw [←S.pre,List.getElem?_take_of_lt (by omega)];exact h1
  have ndP:ps.Nodup:=by rw [←S.pre];exact S.nd.sublist (List.take_sublist _ _)
  refine ⟨u,rv,?_⟩
  rcases S.par y (List.mem_of_getElem? hp) with k | k
  ·exact .inl ⟨k,rM ndP hp hu k⟩
  ·obtain ⟨c,e⟩:=uR (n:=s.heap.objs.size + 1) k
   refine .inr ⟨.inl k,c,e,?_⟩
   have q:=x.cell y c e
   rw [rK ndP hp hu (by show scope.names.lookup y≠_;rw [k];decide)] at q
   exact q
 ·exact e0.hok.fresh (Nat.le_of_lt (x.above y c (PySem.mem_of_lookup h)))
 ·unfold start
  show _=N.length
  rw [List.length_append,List.length_map,List.length_replicate]
  omega
theorem Du {CX:mG}{P:Program}{w:World}{K:PySem.W.Frag}{mg:Str→Option Value}{base:Heap}{k:Nat}{f:Addr}{name qual:Str}{params:Arguments}{body:List Stmt}{scope:Scope}{dV kV doc pm cdv ct oc:Value}{an od:Option Addr}
  {osl:Array (Option Value)}{N ps:List Str}{sp:Sp}(lk:K.lookup f=some ⟨oc,od,.func (PySem.W.fnOf name qual params body scope dV kV doc pm an cdv ct),osl⟩) (hcd:PySem.W.codeIn K cdv qual=true) (S:bE N ps scope)
  (len:∀vs H Q E,sp vs H Q E→vs.length=ps.length)
  (hbody:∀(A:Around) (outer:List Env) (s:Shared) (H:Hp) (vs:List V) (Q:VK) (E:XK),c_ k (A.deeper (envOfC qual scope s.heap.objs.size f cdv))→sp vs H Q E→
   ∃t,jj (mR CX P w K mg base N qual scope f cdv A outer s H E) body t∧t {nx:=fun _ H'=>Q .non H',rt:=Q} (start N vs) H):
  gj P w K mg base CX (k + 1) f (PySem.W.fnOf name qual params body scope dV kV doc pm an cdv ct) ps sp:=by
 refine ⟨len,fun A outer s H args us vs Q E hr e0 hb r hsp=>?_⟩
 have hl:=len _ _ _ _ hsp
 have KX:K.In s.heap:=e0.mod.kin.keeps fun b o e=>(e0.bs b o e).1
 have lim:s.heap.NoLimit:=e0.mod.nolimit.keeps fun b o e=>(e0.bs b o e).1
 have hkind:∀y∈ps.zip us,scope.names.lookup y.1=some .local∨(scope.names.lookup y.1=some .cell∧((cellsFrom (s.heap.objs.size + 1) scope.names []).lookup y.1).isSome=true):=fun ⟨n,v⟩ hy=>by
  rcases S.par n (List.of_mem_zip hy).1 with q | q
  ·exact .inl q
  ·exact .inr ⟨q,PySem.W.cellsFrom_some _ _ _ (.inl q)⟩
 refine codeAny_call_function hr.depth (KX _ _ lk) rfl S.co S.gen rfl (PySem.W.codeRec_of KX hcd) (hb _ _ _ _ ?_)
 refine wpAny_newFunctionEnv_cells S.kind hkind fun env he s1 x=>?_
 subst he
 refine ⟨lim.keeps x.toInCall.keep,codeAny_func ?_⟩
 obtain ⟨t,ht,hq⟩:=hbody A outer s H vs Q E (hr.deeper _) hsp
 have I:Inv (mR CX P w K mg base N qual scope f cdv A outer s H E) [] (start N vs) H s1:=Ai S hr.hd e0 hl r x
 refine wpAny_mono (ht [] s1 (start N vs) H _ I hq) (fun fl s' hs=>?_) fun e s' hs=>hs
 have fin:∀{σ':St}{H':Hp}{v:V}{u:Value},Inv (mR CX P w K mg base N qual scope f cdv A outer s H E) [] σ' H' s'→RelV v u→Q v H'→CE outer P w H s Q u s':=
  fun {σ' H' v u} J rv q=>⟨v,H',J.os,J.bare,J.base,J.hok,rv,q⟩
 cases fl with
 | ret u=>
  obtain ⟨v,σ',H',J,rv,q⟩:=hs
  exact fin J rv q
 | next=>
  obtain ⟨σ',H',J,q⟩:=hs
  exact fin (v:=V.non) (u:=Value.none) J rfl q
 | brk=>
  obtain ⟨_,_,_,q⟩:=hs
  exact False.elim q
 | cont=>
  obtain ⟨_,_,_,q⟩:=hs
  exact False.elim q
section
variable {X:Cx}{x:Str}{p pos:Pos}{e:Expr}{es:List Expr}{t:TA}{id T:String}{r:List V→Hp→VK→Prop}
def Kh (r:List V→Hp→VK→Prop) (t:TA):TE:=fun σ H Q=>t σ H fun vs H1=>r vs H1 Q
theorem o9 (hc:bP X (.builtin id) r) (hg:Gl X x) (hm:X.mg x=none) (hv:bootBuiltins x=some (.builtin id)) (ha:PA X (e::es) t) (hn:x≠"__name__":=by decide) (hdb:(x == ("__debug__":Str))=false:=by decide)
  (he:starEach (e::es) X.env=(false,eval e X.env)::starEach es X.env:=by rfl) (hpl:(backTo pos (starEach es X.env)).any (·.1)=false:=by rfl):PE X (.Call (.Name x p) (e::es) [] pos) (Kh r t):=by
 intro pins s σ H Q I h
 refine wpAny_Call_Name_kw (kM I hg hm hv ?_ hn hdb)
 exact PyProof.Rows.callWith_builtin1 (bI (ha pos pins s σ H _ I h) fun us s1 ⟨vs,H1,I1,r1,q1⟩=>hc pins s1 σ H1 vs us Q I1 r1 q1) he hpl
theorem j9 (hc:bP X (.type T) r) (hg:Gl X x) (hm:X.mg x=none) (hv:bootBuiltins x=some (.type T)) (ha:PA X (e::es) t) (hn:x≠"__name__":=by decide) (hdb:(x == ("__debug__":Str))=false:=by decide)
  (he:starEach (e::es) X.env=(false,eval e X.env)::starEach es X.env:=by rfl) (hpl:(backTo pos (starEach es X.env)).any (·.1)=false:=by rfl):PE X (.Call (.Name x p) (e::es) [] pos) (Kh r t):=by
 intro pins s σ H Q I h
 refine wpAny_Call_Name_kw (kM I hg hm hv ?_ hn hdb)
 exact PyProof.Rows.callWith_type1 (bI (ha pos pins s σ H _ I h) fun us s1 ⟨vs,H1,I1,r1,q1⟩=>hc pins s1 σ H1 vs us Q I1 r1 q1) he hpl
end
end L2
namespace HT
open PySem PyProof.Rows
section
open PySem.SeqAt
open PySem.AutoSeq1 (wpAny_loadPart')
open PySem.MeetsSeq PySem.MeetsSeq2 PySem.MeetsSeq3
end
section
variable {prog:Program}{w:World}{A:Around}{E:Value→Shared→Prop}{s:Shared}
theorem DZ {t b:Addr}{vs ws:List Value}{Q:Value→Shared→Prop}(ht:IsTup s.heap t vs.toArray) (hb:IsTup s.heap b ws.toArray) (hv:vs≠[])
  (h1:ws=[]→Q (.ref t) s) (h2:ws≠[]→Q (.ref s.heap.objs.size) {s with heap:=s.heap.push {cls:=.type "tuple",data:=.seq (vs++ws).toArray}})
  (hsz:vs.length + ws.length≤sizeLine):wpAny (model prog w) A (binaryOp .Add (.ref t) (.ref b)) Q E s:=by
 obtain ⟨⟨cls,dd,data,sl⟩,ho,hc,n,hd⟩:=id ht
 obtain ⟨⟨cls2,dd2,data2,sl2⟩,ho2,hc2,n2,hd2⟩:=id hb
 simp only at hc hd hc2 hd2
 subst hc hd hc2 hd2
 have e:vs.toArray++ws.toArray=(vs++ws).toArray:=by simp
 by_cases hw:ws=[]
 ·exact concat_meets ⟨_,ho,rfl⟩ ⟨_,ho2,rfl⟩ noFill_tuple_add seq_tuple_add PySem.F.slot_tuple_add PySem.F.entry_tuple_add (PySem.F.args_tuple_add_2 _ _)
   (tuple_addW1 t b vs.toArray ws.toArray n n2 dd dd2 sl sl2 (by simpa using hv) (by simp [hw])) ⟨ho,ho2,h1 hw⟩
 ·refine concat_meets ⟨_,ho,rfl⟩ ⟨_,ho2,rfl⟩ noFill_tuple_add seq_tuple_add PySem.F.slot_tuple_add PySem.F.entry_tuple_add (PySem.F.args_tuple_add_2 _ _)
   (tuple_addW2 t b vs.toArray ws.toArray n n2 dd dd2 sl sl2 (by simpa using hv) (by simpa using hw) (by rw [List.size_toArray,List.size_toArray];exact hsz)) ⟨ho,ho2,?_⟩
  rw [e]
  exact h2 hw
def bF (n d:Nat):Option Int→Nat
 | none=>d
 | some v=>if v < 0 then (v + (n:Int)).toNat else min v.toNat n
theorem vE (n d:Nat):bF n d none=d:=rfl
theorem xS (n d k:Nat):bF n d (some (k:Int))=min k n:=by
 show (if (k:Int) < 0 then ((k:Int) + (n:Int)).toNat else min (k:Int).toNat n)=min k n
 rw [if_neg (by omega),Int.toNat_natCast]
theorem Iw (n d:Nat) (hd:d≤n) (o:Option Int):bF n d o≤n:=by
 cases o with
 | none=>exact hd
 | some v=>
  show (if v < 0 then (v + (n:Int)).toNat else min v.toNat n)≤n
  by_cases hv:v < 0
  ·rw [if_pos hv];omega
  ·rw [if_neg hv];exact Nat.min_le_right _ _
theorem xg (v:Int) (n d:Nat):(if v < 0 then max (v + (n:Int)) 0 else min v (n:Int))=((bF n d (some v):Nat):Int):=by
 show (if v < 0 then max (v + (n:Int)) 0 else min v (n:Int))=(((if v < 0 then (v + (n:Int)).toNat else min v.toNat n):Nat):Int)
 by_cases hv:v < 0
 ·simp only [if_pos hv];omega
 ·simp only [if_neg hv];omega
theorem yi (lo hi:Option Int) (n:Nat):Builtin.Slice.sliceAdjust lo hi 1 (n:Int)=(((bF n 0 lo:Nat):Int),((bF n n hi:Nat):Int)):=by
 have h1:¬((1:Int) < 0):=by omega
 unfold Builtin.Slice.sliceAdjust
 simp only [h1,if_false]
 refine Prod.ext ?_ ?_
 ·cases lo with
  | none=>rfl
  | some v=>exact xg v n 0
 ·cases hi with
  | none=>rfl
  | some v=>exact xg v n n
theorem yY (i j:Nat):Builtin.Slice.slicePlaces (i:Int) (j:Int) 1=j - i:=by
 unfold Builtin.Slice.slicePlaces
 have h1:(1:Int) > 0:=by omega
 simp only [h1,if_true,Int.ediv_one]
 split <;> omega
theorem qy {v:Value}{o:Option Int}{Q:Option Int→Shared→Prop}(p:IsPart v o) (h:Q o s):wpAny (model prog w) A (Builtin.Slice.slicePartIndex v) Q E s:=by
 cases p with
 | none=>exact slicePart_none h
 | int i t=>exact slicePart_int h
theorem jR {sl:Addr}{vl vu:Value}{lo hi:Option Int}{n:Nat}{Q:Int×Int×Nat→Shared→Prop}(hs:s.heap.IsSliceOf sl vl vu .none) (pl:IsPart vl lo) (pu:IsPart vu hi)
  (h:Q (((bF n 0 lo:Nat):Int),1,bF n n hi - bF n 0 lo) s):wpAny (model prog w) A (Builtin.Slice.sliceApplied (.ref sl) (pure (n:Int))) Q E s:=by
 obtain ⟨os,hos,hcs,hds⟩:=id hs
 unfold Builtin.Slice.sliceApplied Builtin.Slice.sliceFields
 refine wpAny_bind (wpAny_bind (wpAny_field hos hds (x:=vl) rfl (wpAny_bind (wpAny_field hos hds (x:=vu) rfl (wpAny_bind (wpAny_field hos hds (x:=.none) rfl (wpAny_pure ?_)))))))
 refine wpAny_bind (slicePart_none ?_)
 show wpAny _ _ (if ((1:Int) == 0)=true then _ else _) _ _ s
 rw [if_neg (by decide)]
 refine wpAny_bind (qy pl (wpAny_bind (qy pu (wpAny_bind (wpAny_pure ?_)))))
 show wpAny _ _ (match Builtin.Slice.sliceAdjust lo hi 1 (n:Int) with | (lo,hi)=>pure (lo,(1:Int),Builtin.Slice.slicePlaces lo hi 1)) _ _ s
 rw [yi lo hi n]
 show wpAny _ _ (pure (((bF n 0 lo:Nat):Int),(1:Int),Builtin.Slice.slicePlaces ((bF n 0 lo:Nat):Int) ((bF n n hi:Nat):Int) 1)) _ _ s
 rw [yY]
 exact wpAny_pure h
theorem CK (xs:Array Value) (i k:Nat):((List.range k).filterMap fun (m:Nat)=>xs[((i:Int) + (m:Int) * 1).toNat]?).toArray=((xs.toList.drop i).take k).toArray:=by
 have e:(fun (m:Nat)=>xs[((i:Int) + (m:Int) * 1).toNat]?)=fun m=>xs[i + m]?:=by
  funext m
  have:((i:Int) + (m:Int) * 1).toNat=i + m:=by omega
  rw [this]
 rw [e]
 have:=pick_run xs i k
 rw [List.filterMap_map] at this
 have e2:((fun x=>xs[x]?) ∘ fun x=>i + x)=fun m=>xs[i + m]?:=rfl
 rw [e2] at this
 rw [this]
theorem oz {t sl:Addr}{items:Array Value}{vl vu:Value}{lo hi:Option Int}{Q:Value→Shared→Prop}(ht:IsTup s.heap t items) (hs:s.heap.IsSliceOf sl vl vu .none) (pl:IsPart vl lo) (pu:IsPart vu hi)
  (hw:¬(bF items.size 0 lo=0∧bF items.size items.size hi=items.size))
  (h:Q (.ref s.heap.objs.size) {s with heap:=s.heap.push {cls:=.type "tuple",data:=.seq ((items.toList.drop (bF items.size 0 lo)).take (bF items.size items.size hi - bF items.size 0 lo)).toArray}})
  (hsz:items.size≤sizeLine):wpAny (model prog w) A (getItem (.ref t) (.ref sl)) Q E s:=by
 have htake:sizeOk (.seq ((items.toList.drop (bF items.size 0 lo)).take (bF items.size items.size hi - bF items.size 0 lo)).toArray):=by
  show ((items.toList.drop (bF items.size 0 lo)).take (bF items.size items.size hi - bF items.size 0 lo)).toArray.size≤sizeLine
  rw [List.size_toArray,List.length_take,List.length_drop,Array.length_toList]
  omega
 have hj:bF items.size items.size hi≤items.size:=Iw _ _ (Nat.le_refl _) hi
 obtain ⟨os,hos,hcs,hds⟩:=id hs
 have hTs:s.TypeIs (.ref sl) "slice":=⟨os,hos,hcs⟩
 unfold getItem
 try with_reducible refine wpAny_holding ?_
 first | refine wpAny_bind (wpAny_pure ?_) | skip
 refine wpAny_bind (wpAny_sequenceKey ht.typeIs (by decide) ?_)
 refine wpAny_bind (wpAny_callSpecial?_slot (name:=Str.ofString "__getitem__") ht.typeIs PyProof.Rows.slot_tuple_getitem
  (wpAny_call_entry PyProof.Rows.slot_tuple_getitem ht.typeIs entry_tuple_getitem ?_ (args_tuple_getitem _ _)))
 show wpAny _ _ (Builtin.Tuple.tupleItemsOf (.ref t) >>= _) _ _ s
 refine wpAny_bind (tupleItemsOf_ ht ?_)
 refine wpAny_bind (wpAny_typeOf hTs ?_)
 rw [if_pos (by decide)]
 refine wpAny_bind (jR hs pl pu ?_)
 have hno:¬((((bF items.size 0 lo:Nat):Int) == 0 && (1:Int) == 1 && (bF items.size items.size hi - bF items.size 0 lo) == items.size)=true):=by
  intro q
  rw [Bool.and_eq_true,Bool.and_eq_true] at q
  have q1:((bF items.size 0 lo:Nat):Int)=0:=eq_of_beq q.1.1
  have q2:bF items.size items.size hi - bF items.size 0 lo=items.size:=eq_of_beq q.2
  exact hw ⟨by omega,by omega⟩
 show wpAny _ _ (if (((bF items.size 0 lo:Nat):Int) == 0 && (1:Int) == 1 && (bF items.size items.size hi - bF items.size 0 lo) == items.size)=true then _ else _) _ _ s
 rw [if_neg hno,CK]
 first
  | exact wpAny_bind (m:=Builtin.Tuple.tupleExact _) (wpAny_newObj_type (wpAny_pure ⟨_,rfl,wpAny_pure h⟩) htake)
  | exact wpAny_bind (m:=Builtin.Tuple.tupleExact _) (wpAny_newObj_type (wpAny_bind (wpAny_pure (wpAny_pure ⟨_,rfl,wpAny_pure h⟩))) htake)
  | exact wpAny_bind (wpAny_bind (m:=Builtin.Tuple.tupleExact _) (wpAny_newObj_type (wpAny_pure (wpAny_pure ⟨_,rfl,wpAny_pure h⟩)) htake))
  | exact wpAny_bind (wpAny_bind (m:=Builtin.Tuple.tupleExact _) (wpAny_newObj_type (wpAny_pure ⟨_,rfl,wpAny_pure h⟩) htake))
end
end HT
namespace L2
open PySem PySem.Spec PyProof.Rows
abbrev TO:=St→Hp→(Option Int→Hp→Prop)→Prop
def PO (X:Cx) (e:Option Expr) (t:TO):Prop:=
 ∀(pins:List (Addr×Obj)) (s:Shared) (σ:St) (H:Hp) (Q:Option Int→Hp→Prop),Inv X pins σ H s→t σ H Q→
  wpAny (model X.prog X.w) X.A (evalPart e X.env) (fun u s'=>∃o H',Inv X pins σ H' s'∧IsPart u o∧Q o H') X.xe s
def FN:TO:=fun _ H Q=>Q none H
def JV (t:TE):TO:=fun σ H Q=>t σ H fun x H1=>∃i,x=.int i∧Q (some i) H1
section
variable {X:Cx}{e:Expr}{te:TE}{lo hi:Option Expr}{tl th:TO}{pos p2:Pos}
theorem Fc:PO X none FN:=by
 intro pins s σ H Q I h
 rw [evalPart_none]
 exact wpAny_pure ⟨none,H,I,.none,h⟩
theorem Fd (h:PE X e te):PO X (some e) (JV te):=by
 intro pins s σ H Q I hw
 rw [evalPart_some]
 refine bI (h pins s σ H _ I hw) fun u s1 ⟨x,H1,I1,r1,q1⟩=>?_
 obtain ⟨i,rfl,q⟩:=q1
 obtain ⟨t,rfl⟩:=r1
 exact ⟨some i,H1,I1,.int i t,q⟩
def pD (X:Cx) (r:V→Option Int→Option Int→Hp→VK→Prop):Prop:=
 ∀(pins:List (Addr×Obj)) (s:Shared) (σ:St) (H:Hp) (x:V) (v vl vu:Value) (lo hi:Option Int) (sl:Addr) (Q:VK),Inv X pins σ H s→RelV x v→s.heap.IsSliceOf sl vl vu .none→IsPart vl lo→IsPart vu hi→r x lo hi H Q→
  ∃T id,typeLookup (.type T) "__getitem__"=pure (some (.builtin id))∧s.TypeIs v T∧wpAny (model X.prog X.w) X.A (getItem v (.ref sl)) (EP X pins σ Q) X.xe s
theorem pD.or {r r':V→Option Int→Option Int→Hp→VK→Prop}(h:pD X r) (h':pD X r'):pD X (fun x lo hi H Q=>r x lo hi H Q∨r' x lo hi H Q):=by
 intro pins s σ H x v vl vu lo hi sl Q I rx hs pl pu q
 rcases q with q | q
 ·exact h pins s σ H x v vl vu lo hi sl Q I rx hs pl pu q
 ·exact h' pins s σ H x v vl vu lo hi sl Q I rx hs pl pu q
def Lv (r:V→Option Int→Option Int→Hp→VK→Prop) (te:TE) (tl th:TO):TE:=fun σ H Q=>te σ H fun x H1=>tl σ H1 fun l H2=>th σ H2 fun u H3=>r x l u H3 Q
theorem CH {r:V→Option Int→Option Int→Hp→VK→Prop}(hr:pD X r) (he:PE X e te) (hl:PO X lo tl) (hu:PO X hi th):PE X (.Subscript e (.Slice lo hi none p2) pos) (Lv r te tl th):=by
 intro pins s σ H Q I h
 refine Subscript_ (bI (he pins s σ H _ I h) fun v s1 ⟨x,H1,I1,r1,q1⟩=>?_)
 refine wpAny_Slice (bI (hl pins s1 σ H1 _ I1 q1) fun vl s2 ⟨l,H2,I2,pl,q2⟩=>bI (hu pins s2 σ H2 _ I2 q2) fun vu s3 ⟨u,H3,I3,pu,q3⟩=>?_)
 rw [evalPart_none]
 refine wpAny_pure ?_
 have I4:Inv X pins σ H3 {s3 with heap:=s3.heap.push {cls:=.type "slice",data:=.fields #[vl,vu,.none]}}:=I3.kept (t':=s3.toks) fun b ob q=>Heap.get?_push_of_some _ q
 obtain ⟨T,id,hT,ht,hg⟩:=hr pins {s3 with heap:=s3.heap.push {cls:=.type "slice",data:=.fields #[vl,vu,.none]}} σ H3 x v vl vu l u s3.heap.objs.size Q I4 r1 (Heap.IsSliceOf.new ..) pl pu q3
 show wpAny (model X.prog X.w) X.A (subscriptTail e (.Slice lo hi none p2) v (.ref s3.heap.objs.size)) (EP X pins σ Q) X.xe {s3 with heap:=s3.heap.push {cls:=.type "slice",data:=.fields #[vl,vu,.none]}}
 exact tail_any (ops:=[.ref s3.heap.objs.size,v]) ht hT hg (by with_unfolding_all rfl)
def ki (xs:List V) (lo hi:Option Int):List V:=(xs.drop (HT.bF xs.length 0 lo)).take (HT.bF xs.length xs.length hi - HT.bF xs.length 0 lo)
theorem oF (xs:List V) (lo hi:Option Int):(ki xs lo hi).length≤xs.length:=by
 unfold ki
 rw [List.length_take,List.length_drop]
 omega
def KS (K:PySem.W.Frag):V→Option Int→Option Int→Hp→VK→Prop:=fun x lo hi H Q=>∃a xs,x=.ref a∧cX K H a xs∧
 ¬(HT.bF xs.length 0 lo=0∧HT.bF xs.length xs.length hi=xs.length)∧∀p,H p=none→Q (.ref p) (upd H p (.tup (ki xs lo hi)))
theorem IB:pD X (KS X.K):=by
 intro pins s σ H x v vl vu lo hi sl Q I rx hs pl pu h
 obtain ⟨a,xs,rfl,hx,hw,q⟩:=h
 cases rx
 obtain ⟨its,r,ht,hz⟩:=I.tuple hx
 have hlen:its.toArray.size=xs.length:=by rw [List.size_toArray];exact r.length.symm
 refine ⟨"tuple",_,PyProof.Rows.slot_tuple_getitem.lookup,ht.typeIs,?_⟩
 refine HT.oz ht hs pl pu (by rw [hlen];exact hw) ?_ (by rw [hlen];exact hz)
 rw [hlen]
 refine ⟨.ref s.heap.objs.size,_,I.laid (t':=s.toks) (o:=.tup (ki xs lo hi)) (fun b ob q=>Heap.get?_push_of_some _ q) (Nat.le_refl _) ?_,rfl,q _ (I.hok.fresh (Nat.le_refl _))⟩
 exact ⟨Nat.le_trans (oF xs lo hi) hz,_,(r.drop (HT.bF xs.length 0 lo)).take (HT.bF xs.length xs.length hi - HT.bF xs.length 0 lo),IsTup.new _ _⟩
def JH (K:PySem.W.Frag):R2:=fun x y H Q=>∃a b xs ys,x=.ref a∧y=.ref b∧cX K H a xs∧cX K H b ys∧xs≠[]∧xs.length + ys.length≤sizeLine∧
 (ys=[]→Q (.ref a) H)∧(ys≠[]→∀p,H p=none→Q (.ref p) (upd H p (.tup (xs++ys))))
theorem Vals.nil_iff {xs:List V}{us:List Value}(r:Vals xs us):us=[]↔xs=[]:=by
 cases r with
 | nil=>simp
 | cons _ _=>simp
theorem EE:dg X (binaryOp .Add) (JH X.K):=by
 intro pins s σ H x y v u Q I rx ry h
 obtain ⟨a,b,xs,ys,rfl,rfl,ha,hb,hx,hz,q1,q2⟩:=h
 cases rx
 cases ry
 obtain ⟨its,r1,p1,_⟩:=I.tuple ha
 obtain ⟨its2,r2,p2,_⟩:=I.tuple hb
 refine HT.DZ p1 p2 (fun z=>hx (r1.nil_iff.mp z)) (fun z=>⟨.ref a,H,I,rfl,q1 (r2.nil_iff.mp z)⟩) (fun z=>?_) (by rw [←r1.length,←r2.length];exact hz)
 refine ⟨.ref s.heap.objs.size,_,I.laid (t':=s.toks) (o:=.tup (xs++ys)) (fun b ob q=>Heap.get?_push_of_some _ q) (Nat.le_refl _) ?_,rfl,q2 (fun w=>z (r2.nil_iff.mpr w)) _ (I.hok.fresh (Nat.le_refl _))⟩
 exact ⟨by rw [List.length_append];exact hz,_,r1.append r2,IsTup.new _ _⟩
end
def mE (n:Nat) (i:Int):Option Nat:=if 0≤i then (if i < n then some i.toNat else none) else if -(n:Int)≤i then some (i + n).toNat else none
def jX {α:Type}(xs:List α) (i:Int):Option α:=(mE xs.length i).bind fun j=>xs[j]?
theorem xA {n:Nat}{i:Int}{j:Nat}(h:mE n i=some j):seqIndex? i n=some j∧j < n∧-(n:Int)≤i∧i < n:=by
 unfold mE at h
 by_cases h0:0≤i
 ·rw [if_pos h0] at h
  by_cases h1:i < n
  ·rw [if_pos h1] at h
   have e:i.toNat=j:=Option.some.inj h
   exact ⟨by rw [seqIndex_of h0 h1,e],by omega,by omega,h1⟩
  ·rw [if_neg h1] at h;cases h
 ·rw [if_neg h0] at h
  by_cases h1:-(n:Int)≤i
  ·rw [if_pos h1] at h
   have e:(i + n).toNat=j:=Option.some.inj h
   exact ⟨by rw [seqIndex_neg (by omega) h1,e],by omega,h1,by omega⟩
  ·rw [if_neg h1] at h;cases h
theorem qO {α:Type}{xs:List α}{i:Int}{v:α}(h:jX xs i=some v):∃j,seqIndex? i xs.length=some j∧xs[j]?=some v∧j < xs.length∧-(xs.length:Int)≤i∧i < xs.length:=by
 unfold jX at h
 cases e:mE xs.length i with
 | none=>rw [e] at h;cases h
 | some j=>
  rw [e] at h
  obtain ⟨h1,h2,h3,h4⟩:=xA e
  exact ⟨j,h1,h,h2,h3,h4⟩
def nQ (b:Expr):Prop:=∀o i,subscripted b false o i=operate [o,i] (getItem o i)
def oA (X:Cx) (r:R2):Prop:=
 ∀(value slice:Expr) (pins:List (Addr×Obj)) (s:Shared) (σ:St) (H:Hp) (x y:V) (v u:Value) (Q:VK),Inv X pins σ H s→RelV x v→RelV y u→r x y H Q→
  subscripted slice false v u=operate [v,u] (getItem v u)→wpAny (model X.prog X.w) X.A (subscriptTail value slice v u) (EP X pins σ Q) X.xe s
def Le (X:Cx) (id:String) (r:V→List V→Hp→VK→Prop):Prop:=
 ∀(pins:List (Addr×Obj)) (s:Shared) (σ:St) (H:Hp) (x:V) (xs:List V) (v:Value) (us:List Value) (Q:VK),Inv X pins σ H s→RelV x v→Vals xs us→r x xs H Q→
  wpAny (model X.prog X.w) X.A (call (.builtin id) (v::us)) (EP X pins σ Q) X.xe s
section
variable {X:Cx}{a b:Expr}{ta tb:TE}{pos:Pos}
theorem oA.or {r r':R2}(h:oA X r) (h':oA X r'):oA X (fun x y H Q=>r x y H Q∨r' x y H Q):=by
 intro value slice pins s σ H x y v u Q I rx ry q hs
 rcases q with q | q
 ·exact h value slice pins s σ H x y v u Q I rx ry q hs
 ·exact h' value slice pins s σ H x y v u Q I rx ry q hs
theorem JB {r:R2}(hr:oA X r) (ha:PE X a ta) (hb:PE X b tb) (hs:nQ b):PE X (.Subscript a b pos) (A_ r ta tb):=by
 intro pins s σ H Q I h
 exact Subscript_ (By ha hb I h fun v u s2 x y H2 I2 rx ry q=>hr a b pins s2 σ H2 x y v u Q I2 rx ry q (hs _ _))
def Ih (K:PySem.W.Frag):R2:=fun x y H Q=>∃p xs i v,x=.ref p∧y=.int i∧cG K H p xs∧jX xs i=some v∧Q v H
def Ij (K:PySem.W.Frag):R2:=fun x y H Q=>∃p xs i v,x=.ref p∧y=.int i∧cX K H p xs∧jX xs i=some v∧Q v H
def Ii:R2:=fun x y H Q=>∃z i c,x=.str z∧y=.int i∧z.length≤sizeLine∧jX z.cps.toList i=some c∧Q (.str ⟨#[c]⟩) H
theorem En:oA X (Ih X.K):=by
 intro value slice pins s σ H x y v u Q I rx ry h hs
 obtain ⟨p,xs,i,z,rfl,rfl,hq,he,q⟩:=h
 cases rx
 obtain ⟨t,rfl⟩:=ry
 obtain ⟨its,r,pl,hz⟩:=I.list hq
 obtain ⟨j,h1,h2,h3,h4,h5⟩:=qO he
 obtain ⟨w,ew,rw'⟩:=r.get h2
 have hl:=r.length
 have hn:=jN
 have fin:EP X pins σ Q w s:=⟨z,H,I,rw',q⟩
 by_cases h0:0≤i
 ·have hj:i.toNat=j:=by
   rw [seqIndex_of h0 h5] at h1
   exact Option.some.inj h1
  exact item_listR pl.isList h0 (by omega) (by rw [hj];simpa using ew) fin hs
 ·have hj:(i + (its.toArray.size:Int)).toNat=j:=by
   rw [seqIndex_neg (by omega) h4] at h1
   rw [List.size_toArray,←hl]
   exact Option.some.inj h1
  exact subscriptTail_builtinR (x:=w) pl.isList.typeIs slot_list_getitem.lookup
   (wpAny_getItem_list_neg (Q:=fun r s'=>r=w∧EP X pins σ Q r s') pl.isList (by omega) (by rw [List.size_toArray] <;> omega) (by omega) (by rw [hj];simpa using ew) ⟨rfl,fin⟩) hs
theorem GN:oA X (Ij X.K):=by
 intro value slice pins s σ H x y v u Q I rx ry h hs
 obtain ⟨p,xs,i,z,rfl,rfl,hq,he,q⟩:=h
 cases rx
 obtain ⟨t,rfl⟩:=ry
 obtain ⟨its,r,pl,hz⟩:=I.tuple hq
 obtain ⟨j,h1,h2,h3,h4,h5⟩:=qO he
 obtain ⟨w,ew,rw'⟩:=r.get h2
 have hl:=r.length
 have hn:=jN
 have fin:EP X pins σ Q w s:=⟨z,H,I,rw',q⟩
 exact subscriptTail_builtinR (x:=w) pl.typeIs slot_tuple_getitem.lookup
  (getItem_tuple (j:=j) (Q:=fun r s'=>r=w∧EP X pins σ Q r s') pl (by omega) (by omega) (by rw [List.size_toArray,←hl];exact h1) (by simpa using ew) ⟨rfl,fin⟩) hs
theorem GL:oA X Ii:=by
 intro value slice pins s σ H x y v u Q I rx ry h hs
 obtain ⟨z,i,c,rfl,rfl,hz,he,q⟩:=h
 obtain ⟨t,rfl⟩:=rx
 obtain ⟨t',rfl⟩:=ry
 obtain ⟨j,h1,h2,h3,h4,h5⟩:=qO he
 have hl:z.cps.toList.length=z.length:=by simp [Str.length]
 rw [hl] at h1 h4 h5
 have hn:=jN
 exact tail_any (typeIs_str s z t) slot_str_getitem.lookup (getItem_str (c:=c) (by
  have e1:decide (i < -(2 ^ 63:Int))=false:=decide_eq_false (by omega)
  have e2:decide (i ≥ 2 ^ 63)=false:=decide_eq_false (by omega)
  rw [e1,e2,Bool.or_false]) (by rw [h1];simpa using h2) ⟨.str ⟨#[c]⟩,H,I.tok _,⟨_,rfl⟩,q⟩) hs
def Ll (K:PySem.W.Frag):R2:=fun x y H Q=>Ih K x y H Q∨Ij K x y H Q∨Ii x y H Q
theorem GK:oA X (Ll X.K):=En.or (GN.or GL)
theorem yP (its:List Value) (n j:Nat) (u:Value):Obj.mapSeq (·.setIfInBounds j u) {cls:=.type "list",data:=.seq its.toArray n}={cls:=.type "list",data:=.seq (its.set j u).toArray n}:=by
 simp [Obj.mapSeq]
theorem Inv.lst {pins:List (Addr×Obj)}{σ:St}{H:Hp}{s:Shared}{p:Addr}{xs:List V}(I:Inv X pins σ H s) (h:H p=some (.lst xs)):
  ∃(its:List Value) (n:Nat),Vals xs its∧s.heap.get? p=some {cls:=.type "list",data:=.seq its.toArray n}∧xs.length≤sizeLine:=by
 obtain ⟨z,its,n,r,e⟩:=I.hok p _ h
 exact ⟨its,n,r,e,z⟩
theorem Inv.lstUpd {pins:List (Addr×Obj)}{σ:St}{H:Hp}{s:Shared}{p:Addr}{xs ys:List V}{its its':List Value}{n n':Nat}{f:Obj→Obj}(I:Inv X pins σ H s) (h:H p=some (.lst xs))
  (ho:s.heap.get? p=some {cls:=.type "list",data:=.seq its.toArray n}) (hf:f {cls:=.type "list",data:=.seq its.toArray n}={cls:=.type "list",data:=.seq its'.toArray n'}) (r:Vals ys its') (hz:ys.length≤sizeLine) (t:Nat):
  Inv X pins σ (upd H p (.lst ys)) {s with heap:=s.heap.update p f,toks:=t}:=by
 have e:(s.heap.update p f).get? p=some {cls:=.type "list",data:=.seq its'.toArray n'}:=by
  rw [Heap.get?_update_self f ho (by rw [hf] <;> rfl),hf]
 refine I.write (x:=p) (e:=p) (by rw [h];trivial) (.inl rfl) (fun b u hb q=>(Heap.get?_update_other _ _ (Ne.symm hb)).trans q) ⟨_,e⟩ ?_
 exact ⟨hz,its',n',r,e⟩
def JI:V→V→V→Hp→(Hp→Prop)→Prop:=fun o i v H Q=>∃p xs k j,o=.ref p∧i=.int k∧H p=some (.lst xs)∧mE xs.length k=some j∧Q (upd H p (.lst (xs.set j v)))
theorem set_list:Gf X JI:=by
 intro pins s σ H o i v ov iv u Q I ro ri rv h
 obtain ⟨p,xs,k,j,rfl,rfl,hp,hj,q⟩:=h
 cases ro
 obtain ⟨t,rfl⟩:=ri
 obtain ⟨its,n,r,ho,hz⟩:=I.lst hp
 obtain ⟨h1,h2,h3,h4⟩:=xA hj
 have hl:=r.length
 have hn:=jN
 have I':Inv X pins σ (upd H p (.lst (xs.set j v))) {s with heap:=s.heap.update p (Obj.mapSeq (·.setIfInBounds j u))}:=
  I.lstUpd hp ho (yP its n j u) (r.set rv j) (by rw [List.length_set];exact hz) s.toks
 by_cases h0:0≤k
 ·have hk:k.toNat=j:=by
   rw [seqIndex_of h0 h4] at h1
   exact Option.some.inj h1
  exact PySem.W.ki_setAt ho h0 (by omega) (by rw [List.size_toArray,←hl];exact h4) (by rw [hk];exact ⟨_,I',q⟩)
 ·have hk:(k + (its.toArray.size:Int)).toNat=j:=by
   rw [seqIndex_neg (by omega) h3] at h1
   rw [List.size_toArray,←hl]
   exact Option.some.inj h1
  exact PySem.W.ki_setBack ho (by omega) (by rw [List.size_toArray,←hl];exact h3) (by omega) (by rw [hk];exact ⟨_,I',q⟩)
theorem vN (lo hi:Option Int) (n:Nat):(sliceBounds lo hi none n).1=((HT.bF n 0 lo:Nat):Int)∧(sliceBounds lo hi none n).2.1=((HT.bF n n hi:Nat):Int)∧(sliceBounds lo hi none n).2.2=1:=by
 refine ⟨?_,?_,rfl⟩
 ·cases lo with
  | none=>simp [sliceBounds,HT.bF]
  | some i=>
   simp only [sliceBounds,HT.bF,Option.getD_none,show (1:Int) > 0 by decide,if_true]
   by_cases h:i < 0
   ·simp only [h,if_true] <;> omega
   ·simp only [h,if_false] <;> omega
 ·cases hi with
  | none=>simp [sliceBounds,HT.bF]
  | some i=>
   simp only [sliceBounds,HT.bF,Option.getD_none,show (1:Int) > 0 by decide,if_true]
   by_cases h:i < 0
   ·simp only [h,if_true] <;> omega
   ·simp only [h,if_false] <;> omega
theorem tQ (its:List Value) (lo hi:Option Int):slicePick its.toArray lo hi none=((its.drop (HT.bF its.length 0 lo)).take (HT.bF its.length its.length hi - HT.bF its.length 0 lo)).toArray:=by
 obtain ⟨h1,h2,h3⟩:=vN lo hi its.toArray.size
 unfold slicePick
 rw [h1,h2,h3]
 simp only [sliceRange_one,pick_run,List.size_toArray] <;> rfl
def KR (K:PySem.W.Frag):V→Option Int→Option Int→Hp→VK→Prop:=fun x lo hi H Q=>∃a xs,x=.ref a∧cG K H a xs∧∀p,H p=none→Q (.ref p) (upd H p (.lst (ki xs lo hi)))
theorem FH:pD X (KR X.K):=by
 intro pins s σ H x v vl vu lo hi sl Q I rx hs pl pu h
 obtain ⟨a,xs,rfl,hx,q⟩:=h
 cases rx
 obtain ⟨its,r,ht,hz⟩:=I.list hx
 have hlen:=r.length
 refine ⟨"list",_,slot_list_getitem.lookup,ht.isList.typeIs,?_⟩
 refine wpAny_getItem_list_slice ht.isList hs pl pu .none (by simp) ?_ (by rw [List.size_toArray] <;> omega)
 rw [tQ,←hlen]
 refine ⟨.ref s.heap.objs.size,_,I.laid (t':=s.toks) (o:=.lst (ki xs lo hi)) (fun b ob q=>Heap.get?_push_of_some _ q) (Nat.le_refl _) ?_,rfl,q _ (I.hok.fresh (Nat.le_refl _))⟩
 exact ⟨Nat.le_trans (oF xs lo hi) hz,_,0,(r.drop (HT.bF xs.length 0 lo)).take (HT.bF xs.length xs.length hi - HT.bF xs.length 0 lo),Heap.get?_push_size _ rfl⟩
def pT:V→Bool
 | .non=>true
 | .bl _=>true
 | .int _=>true
 | .str _=>true
 | _=>false
def Gy:V→V→Bool
 | .non,.non=>true
 | .bl a,.bl b=>a == b
 | .bl a,.int b=>(if a then 1 else 0) == b
 | .int a,.bl b=>a == (if b then 1 else 0)
 | .int a,.int b=>a == b
 | .str a,.str b=>a == b
 | _,_=>false
theorem Gx {A:Around}{s:Shared}{y x:V}{u v:Value}(ry:RelV y u) (rx:RelV x v) (fy:pT y=true) (fx:pT x=true):SeqAt.EqAt A s u v (Gy y x):=by
 cases y with
 | non=>
  cases ry
  cases x with
  | non=>cases rx;exact SeqAt.EqAt.same _
  | bl b=>cases rx;exact SeqAt.EqAt.none_bool b
  | int b=>obtain ⟨t,rfl⟩:=rx;exact SeqAt.EqAt.none_int b t
  | str b=>obtain ⟨t,rfl⟩:=rx;exact SeqAt.EqAt.none_str b t
  | _=>exact absurd (show false=true from fx) Bool.false_ne_true
 | bl a=>
  cases ry
  cases x with
  | non=>cases rx;exact SeqAt.EqAt.bool_none a
  | bl b=>cases rx;exact SeqAt.EqAt.bool_bool a b
  | int b=>obtain ⟨t,rfl⟩:=rx;exact SeqAt.EqAt.bool_int a b t
  | str b=>obtain ⟨t,rfl⟩:=rx;exact SeqAt.EqAt.bool_str a b t
  | _=>exact absurd (show false=true from fx) Bool.false_ne_true
 | int a=>
  obtain ⟨t',rfl⟩:=ry
  cases x with
  | non=>cases rx;exact SeqAt.EqAt.int_none a t'
  | bl b=>cases rx;exact SeqAt.EqAt.int_bool a t' b
  | int b=>obtain ⟨t,rfl⟩:=rx;exact SeqAt.EqAt.int_int a t' b t
  | str b=>obtain ⟨t,rfl⟩:=rx;exact SeqAt.EqAt.int_str a t' b t
  | _=>exact absurd (show false=true from fx) Bool.false_ne_true
 | str a=>
  obtain ⟨t',rfl⟩:=ry
  cases x with
  | non=>cases rx;exact SeqAt.EqAt.str_none a t'
  | bl b=>cases rx;exact SeqAt.EqAt.str_bool a t' b
  | int b=>obtain ⟨t,rfl⟩:=rx;exact SeqAt.EqAt.str_int a t' b t
  | str b=>obtain ⟨t,rfl⟩:=rx;exact SeqAt.EqAt.str_str a t' b t
  | _=>exact absurd (show false=true from fx) Bool.false_ne_true
 | _=>exact absurd (show false=true from fy) Bool.false_ne_true
theorem uN:bP X (.builtin "len") (fun xs H Q=>∃p ys,xs=[.ref p]∧(cG X.K H p ys∨cX X.K H p ys)∧Q (.int ys.length) H):=by
 intro pins s σ H xs us Q I r h
 obtain ⟨p,ys,rfl,hq,q⟩:=h
 obtain ⟨u,rfl,rx⟩:=vals1 r
 cases rx
 have hn:=jN
 rcases hq with hq | hq
 ·obtain ⟨its,r',pl,hz⟩:=I.list hq
  have hlen:=r'.length
  exact Calls.call_len_list pl.isList (by simp only [List.size_toArray] <;> omega) ⟨.int ys.length,H,I.tok _,⟨s.toks + 1,by rw [List.size_toArray,hlen]⟩,q⟩
 ·obtain ⟨its,r',pl,hz⟩:=I.tuple hq
  have hlen:=r'.length
  exact len_tuple pl (by simp only [List.size_toArray] <;> omega) ⟨.int ys.length,H,I.tok _,⟨s.toks + 1,by rw [List.size_toArray,hlen]⟩,q⟩
theorem uO:bP X (.builtin "len") (fun xs H Q=>∃z,xs=[.str z]∧z.length≤sizeLine∧Q (.int z.length) H):=by
 intro pins s σ H xs us Q I r h
 obtain ⟨z,rfl,hz,q⟩:=h
 obtain ⟨u,rfl,t,rfl⟩:=vals1 r
 have hn:=jN
 exact len_str (by omega) ⟨.int z.length,H,I.tok _,⟨_,rfl⟩,q⟩
theorem bP.or {f:Value}{r r':List V→Hp→VK→Prop}(h:bP X f r) (h':bP X f r'):bP X f (fun xs H Q=>r xs H Q∨r' xs H Q):=by
 intro pins s σ H xs us Q I rs q
 rcases q with q | q
 ·exact h pins s σ H xs us Q I rs q
 ·exact h' pins s σ H xs us Q I rs q
theorem sZ:bP X (.type "tuple") (fun xs H Q=>∃p ys,xs=[.ref p]∧((cG X.K H p ys∧∀l,H l=none→Q (.ref l) (upd H l (.tup ys)))∨(cX X.K H p ys∧Q (.ref p) H))):=by
 intro pins s σ H xs us Q I r h
 obtain ⟨p,ys,rfl,h⟩:=h
 obtain ⟨u,rfl,rx⟩:=vals1 r
 cases rx
 rcases h with ⟨hq,q⟩ | ⟨hq,q⟩
 ·obtain ⟨its,r',pl,hz⟩:=I.list hq
  have hlen:=r'.length
  refine call_tuple_list pl.isList (fun h' kp=>?_) (by simp only [List.size_toArray] <;> omega)
  have I1:Inv X pins σ H {s with heap:=h'}:=I.kept (t':=s.toks) kp
  have I2:Inv X pins σ (upd H h'.objs.size (.tup ys)) {s with heap:=h'.push {cls:=.type "tuple",data:=.seq its.toArray}}:=
   I1.laid (t':=s.toks) (fun b o e=>Heap.get?_push_of_some _ e) (Nat.le_refl _) (show cF X.prog X.w _ _ _ (.tup ys) from ⟨hz,its,r',IsTup.new _ _⟩)
  exact ⟨.ref h'.objs.size,_,I2,rfl,q _ (I1.hok.fresh (Nat.le_refl _))⟩
 ·obtain ⟨its,r',pl,hz⟩:=I.tuple hq
  exact call_tuple_same pl ⟨.ref p,H,I,rfl,q⟩
def Kn (K:PySem.W.Frag) (T:String) (x:V) (H:Hp):Prop:=match x with
 | .str _=>T="str"
 | .int _=>T="int"
 | .ref p=>(T="list"∧∃xs,cG K H p xs)∨(T="tuple"∧∃o,K.lookup p=some o∧o.cls=.type "tuple"∧o.dict=none)∨
   (T="dict"∧((∃kvs,H p=some (.dK kvs))∨∃kvs,H p=some (.dT kvs)))∨(T="set"∧∃S n,H p=some (.set S n))
 | _=>False
theorem IP {pins:List (Addr×Obj)}{σ:St}{H:Hp}{s:Shared}{T:String}{x:V}{v:Value}(I:Inv X pins σ H s) (r:RelV x v) (ty:Kn X.K T x H):
  s.TypeIs v T∧∀a,v=.ref a→∃ob,s.heap.get? a=some ob∧ob.dict=none:=by
 cases x with
 | str z=>
  obtain ⟨t,rfl⟩:=r
  cases (show T="str" from ty)
  exact ⟨typeIs_str s z t,fun _ e=>nomatch e⟩
 | int i=>
  obtain ⟨t,rfl⟩:=r
  cases (show T="int" from ty)
  exact ⟨typeIs_int s i t,fun _ e=>nomatch e⟩
 | ref p=>
  cases r
  rcases ty with ⟨rfl,xs,hq⟩ | ⟨rfl,o,hk,hc,hd⟩ | ⟨rfl,hk⟩ | ⟨rfl,S,n,hk⟩
  ·obtain ⟨its,_,pl,_⟩:=I.list hq
   refine ⟨pl.isList.typeIs,fun a e=>?_⟩
   cases e
   obtain ⟨o,n,e,c,hd,_⟩:=pl
   exact ⟨o,e,hd⟩
  ·refine ⟨⟨o,I.kIn p o hk,hc⟩,fun a e=>?_⟩
   cases e
   exact ⟨o,I.kIn _ o hk,hd⟩
  ·have z:∃o,s.heap.get? p=some o∧o.ExactDict:=by
    rcases hk with ⟨kvs,hk⟩ | ⟨kvs,hk⟩
    ·obtain ⟨_,_,_,_,o,_,_,e,ex,_⟩:=I.hok p _ hk
     exact ⟨o,e,ex⟩
    ·obtain ⟨_,_,_,_,o,_,_,e,ex,_⟩:=I.hok p _ hk
     exact ⟨o,e,ex⟩
   obtain ⟨o,e,ex⟩:=z
   refine ⟨⟨o,e,ex.1⟩,fun a e2=>?_⟩
   cases e2
   exact ⟨o,e,ex.2.1⟩
  ·obtain ⟨o,_,_,_,e,ex,_⟩:=I.hok p _ hk
   refine ⟨⟨o,e,ex.1⟩,fun a e2=>?_⟩
   cases e2
   exact ⟨o,e,ex.2.1⟩
 | _=>exact False.elim ty
def Lp (K:PySem.W.Frag) (T:String) (r:V→List V→Hp→VK→Prop) (to:TE) (t:TA):TE:=fun σ H Q=>to σ H fun x H1=>Kn K T x H1∧t σ H1 fun xs H2=>r x xs H2 Q
variable {o e:Expr}{es:List Expr}{to:TE}{t:TA}{name:Str}{apos cpos:Pos}{T id:String}{r:V→List V→Hp→VK→Prop}
theorem yW (pa:PlainAttrs T) (slot:Slot T name id) (hty:typeOf (.builtin id)=pure (.type "method_descriptor")) (hm:Le X id r) (ho:PE X o to) (ha:PA X (e::es) t)
  (hbase:attributeBase o name X.env (eval o X.env)=eval o X.env:=by rfl)
  (hfew:((backTo cpos (starEach (e::es) X.env)).all (fun x=>!x.1) && (backToKw cpos (keywordEach [] X.env)).all (fun x=>x.1.isSome)
   && decide ((e::es).length + ([]:List Keyword).length + (if ([]:List Keyword).isEmpty then 0 else 1) < 30))=true:=by rfl)
  (hline:(apos.endLine == cpos.line)=true:=by rfl) (hs:starEach (e::es) X.env=(false,eval e X.env)::starEach es X.env:=by rfl) (hplain:(backTo cpos (starEach es X.env)).any (·.1)=false:=by rfl):
  PE X (.Call (.Attribute o name apos) (e::es) [] cpos) (Lp X.K T r to t):=by
 intro pins s σ H Q I h
 refine wpAny_Call_method_late hbase hfew hline rfl (bI (ho pins s σ H _ I h) fun v s1 ⟨x,H1,I1,r1,ty,q1⟩=>?_)
 obtain ⟨h1,h2⟩:=IP I1 r1 ty
 refine ⟨T,id,pa,slot,hty,h1,h2,?_⟩
 have hA:=ha cpos pins s1 σ H1 _ I1 q1
 rw [hs] at hA ⊢
 refine Calls.callWith_builtin (by show (false || (backTo cpos (starEach es X.env)).any (·.1))=false;rw [hplain] <;> rfl) (Calls.evalArgs_plain ?_)
 exact bI hA fun us s2 ⟨vs,H2,I2,r2,q2⟩=>hm pins s2 σ H2 x vs v us Q I2 r1 r2 q2
end
def Gd (X:Cx) (id:String) (r:V→List V→Hp→VK→Prop):Prop:=
 ∀(pins:List (Addr×Obj)) (s:Shared) (σ:St) (H:Hp) (x:V) (xs:List V) (v:Value) (us:List Value) (Q:VK),Inv X pins σ H s→RelV x v→Vals xs us→r x xs H Q→
  wpAny (model X.prog X.w) X.A (call (.builtin id) (v::us)) (EP X pins σ Q) X.xe s
theorem Vals.one:∀{x:V}{us:List Value},Vals [x] us→∃u,us=[u]∧RelV x u
 | _,_,.cons r .nil=>⟨_,rfl,r⟩
theorem Vals.eraseIdx:∀{xs:List V}{us:List Value}(i:Nat),Vals xs us→Vals (xs.eraseIdx i) (us.eraseIdx i)
 | _,_,_,.nil=>.nil
 | _,_,0,.cons _ t=>t
 | _,_,i + 1,.cons r t=>.cons r (Vals.eraseIdx i t)
theorem rZ {α:Type}:∀(l:List α) (i:Nat),(l.eraseIdx i).length≤l.length
 | [],_=>Nat.le_refl _
 | _::_,0=>Nat.le_succ _
 | _::r,i + 1=>Nat.succ_le_succ (rZ r i)
section
variable {X:Cx}{pins:List (Addr×Obj)}{σ:St}{H:Hp}{s:Shared}{l b:Addr}{xs ys zs:List V}
theorem Inv.lset {its its':List Value}{n:Nat}{f:Array Value→Array Value}{t':Nat}(I:Inv X pins σ H s) (hH:H l=some (.lst xs))
  (e:s.heap.get? l=some {cls:=.type "list",data:=.seq its.toArray n}) (hf:f its.toArray=its'.toArray) (hv:Vals ys its') (hz:ys.length≤sizeLine):
  Inv X pins σ (upd H l (.lst ys)) {s with heap:=s.heap.update l (Obj.mapSeq f),toks:=t'}:=by
 have q:=PySem.IsL.update e f
 rw [hf] at q
 refine I.write (x:=l) (e:=l) (by rw [hH];exact trivial) (.inl rfl) (fun b' u hb hu=>(Heap.get?_update_other s.heap (Obj.mapSeq f) (Ne.symm hb)).trans hu) ⟨_,q⟩ ?_
 exact ⟨hz,its',_,hv,q⟩
theorem Inv.lnew {its:List Value}{t':Nat}(I:Inv X pins σ H s) (hv:Vals ys its) (hz:ys.length≤sizeLine):
  Inv X pins σ (upd H s.heap.objs.size (.lst ys)) {s with heap:=s.heap.push {cls:=.type "list",data:=.seq its.toArray},toks:=t'}:=
 I.laid (fun _ _ q=>Heap.get?_push_of_some _ q) (Nat.le_refl _) ⟨hz,its,0,hv,Heap.get?_push_size _ rfl⟩
theorem Inv.fresh (I:Inv X pins σ H s):H s.heap.objs.size=none:=I.hok.fresh (Nat.le_refl _)
theorem Inv.lstM (I:Inv X pins σ H s) (hH:H l=some (.lst xs)):xs.length≤sizeLine∧∃(its:List Value) (n:Nat),Vals xs its∧xs.length=its.length∧s.heap.get? l=some {cls:=.type "list",data:=.seq its.toArray n}:=by
 obtain ⟨z,its,n,r,e⟩:=I.hok l _ hH
 exact ⟨z,its,n,r,r.length,e⟩
theorem Cc {n:Nat}(h:n≤sizeLine):Builtin.List.listTooLong n=false:=by
 unfold Builtin.List.listTooLong
 exact decide_eq_false (by omega)
end
section
variable {X:Cx}
def Fx:V→List V→Hp→VK→Prop:=fun x vs H Q=>∃l xs y,x=.ref l∧vs=[y]∧H l=some (.lst xs)∧xs.length < sizeLine∧Q .non (upd H l (.lst (xs++[y])))
theorem ny:Gd X "list.append" Fx:=by
 intro pins s σ H x vs v us Q I rx rv h
 obtain ⟨l,xs,y,rfl,rfl,hH,hz,q⟩:=h
 cases rx
 obtain ⟨u,rfl,ru⟩:=rv.one
 obtain ⟨z,its,n,r,hl,e⟩:=I.lstM hH
 refine call_meets F.slot_list_append ⟨_,e,rfl⟩ F.entry_list_append (F.args_list_append_2 _ _) (PySem.list_append l its.toArray n u (by rw [List.size_toArray];omega)) ⟨e,?_⟩
 refine ⟨.non,_,I.lset (its':=its++[u]) hH e (by simp) (r.append (.cons ru .nil)) ?_,rfl,q⟩
 rw [List.length_append,List.length_singleton]
 omega
def Fy:V→List V→Hp→VK→Prop:=fun x vs H Q=>∃l b xs zs,x=.ref l∧vs=[.ref b]∧H l=some (.lst xs)∧H b=some (.lst zs)∧xs.length + zs.length≤sizeLine∧Q .non (upd H l (.lst (xs++zs)))
theorem Kf:Gd X "list.extend" Fy:=by
 intro pins s σ H x vs v us Q I rx rv h
 obtain ⟨l,b,xs,zs,rfl,rfl,hH,hB,hz,q⟩:=h
 cases rx
 obtain ⟨u,rfl,ru⟩:=rv.one
 cases ru
 obtain ⟨z,its,n,r,hl,e⟩:=I.lstM hH
 obtain ⟨z2,its2,n2,r2,hl2,e2⟩:=I.lstM hB
 have hsz:its.toArray.size + its2.toArray.size≤sizeLine:=by rw [List.size_toArray,List.size_toArray];omega
 have hlong:¬(!its.toArray.isEmpty && Builtin.List.listTooLong (its.toArray.size + its2.toArray.size))=true:=by
  rw [Cc hsz,Bool.and_false]
  exact Bool.false_ne_true
 refine call_meets F.slot_list_extend ⟨_,e,rfl⟩ F.entry_list_extend (F.args_list_extend_2 _ _)
  (AutoSeq1.list_extend_list_list_0 l its.toArray n b its2.toArray n2 hlong (by rw [List.size_toArray];omega) (by omega)) ⟨e,e2,?_⟩
 refine ⟨.non,_,I.lset (its':=its++its2) hH e (by simp) (r.append r2) ?_,rfl,q⟩
 rw [List.length_append]
 omega
def Ik:V→List V→Hp→VK→Prop:=fun x vs H Q=>∃l xs i k y,x=.ref l∧vs=[.int i]∧H l=some (.lst xs)∧-(2 ^ 63)≤i∧i < 2 ^ 63∧seqIndex? i xs.length=some k∧xs[k]?=some y∧Q y (upd H l (.lst (xs.eraseIdx k)))
theorem B8:Gd X "list.pop" Ik:=by
 intro pins s σ H x vs v us Q I rx rv h
 obtain ⟨l,xs,i,k,y,rfl,rfl,hH,h1,h2,hk,hy,q⟩:=h
 cases rx
 obtain ⟨u,rfl,ru⟩:=rv.one
 obtain ⟨t,rfl⟩:=ru
 obtain ⟨z,its,n,r,hl,e⟩:=I.lstM hH
 obtain ⟨w,hw,rw'⟩:=r.get hy
 refine call_meets F.slot_list_pop ⟨_,e,rfl⟩ F.entry_list_pop (F.args_list_pop_2 _ _)
  (MeetsSeq.list_pop_at l its.toArray n i t k w (fitsIndex_both h1 h2) (by rw [List.size_toArray,←hl];exact hk) (by rw [←Array.getElem?_toList];exact hw) (by rw [List.size_toArray];omega)) ⟨e,?_⟩
 refine ⟨y,_,I.lset (its':=its.eraseIdx k) hH e ?_ (r.eraseIdx k) ?_,rw',q⟩
 ·show its.toArray.eraseIdxIfInBounds k=(its.eraseIdx k).toArray
  rw [List.eraseIdxIfInBounds_toArray]
 ·have:=rZ xs k
  omega
def KQ:R2:=fun x y H Q=>∃l b xs zs,x=.ref l∧y=.ref b∧H l=some (.lst xs)∧H b=some (.lst zs)∧xs.length + zs.length≤sizeLine∧∀p,H p=none→Q (.ref p) (upd H p (.lst (xs++zs)))
theorem Ax:dg X (binaryOp .Add) KQ:=by
 intro pins s σ H x y v u Q I rx ry h
 obtain ⟨l,b,xs,zs,rfl,rfl,hH,hB,hz,q⟩:=h
 cases rx
 cases ry
 obtain ⟨z,its,n,r,hl,e⟩:=I.lstM hH
 obtain ⟨z2,its2,n2,r2,hl2,e2⟩:=I.lstM hB
 refine PySem.P.add_list e e2 ?_ (by rw [List.size_toArray,List.size_toArray];omega)
 have ea:its.toArray++its2.toArray=(its++its2).toArray:=by simp
 rw [ea]
 exact ⟨.ref _,_,I.lnew (t':=s.toks) (r.append r2) (by rw [List.length_append];omega),rfl,q _ I.fresh⟩
end
end L2
namespace Att
open PySem PySem.W PySem.Calls PyProof.Rows
theorem p_ {P:Params}{h:Heap}:∀(ns:List Int) (vs:List Value),WellAll P h vs (ns.map WData.int)→IntsAre vs ns:=by
 intro ns
 induction ns with
 | nil=>
  intro vs w
  rw [List.map_nil] at w
  cases w
  exact .nil
 | cons n ns ih=>
  intro vs w
  rw [List.map_cons] at w
  cases w with
  | cons a b=>
   cases a
   exact .cons _ _ (ih _ b)
theorem A6 {l:OpenLaw}{n:Nat}(hn:l.most=some n){P:Params}{h:Heap}{args:List WData}{vals:List Value}
  (hpre:l.row.toRowW.claim.pre args=true) (hwl:WellAll P h vals args):
  ∃a vs ns,vals=[Value.ref a]∧args=[WData.list (ns.map WData.int)]∧h.get? a=some {cls:=.type "list",data:=.seq vs.toArray}∧IntsAre vs ns∧ns.length≤n:=by
 have hsh:WShape.hasAll [] args [.list .int]=true:=(pre_splitW hpre).1
 have hc:l.pre.holds [] {args:=args}=true:=(pre_splitW hpre).2
 obtain ⟨d,r,rfl,h1,h2⟩:=hasAllW_cons hsh
 obtain rfl:=hasAllW_nil h2
 obtain ⟨xs,rfl,h3⟩:=hasW_list h1
 obtain ⟨ns,rfl⟩:=items_int h3
 have hlen:ns.length≤n:=by
  unfold OpenLaw.pre at hc
  have h4:(WTm.not (.lt (.lit (.int (n:Int))) (.len (.arg 0)))).holds [] {args:=[.list (ns.map .int)]}=true:=by
   have h4:=(holds_andW hc).1
   rw [hn] at h4
   exact h4
  have h5:=condW_of h4 (w_not (w_lt w_lit (w_len_list (w_arg rfl))))
  rw [List.length_map] at h5
  refine Nat.le_of_not_lt fun q=>?_
  have q':(n:Int) < ((ns.length:Nat):Int):=by omega
  first
   | (rw [decide_eq_true q'] at h5;exact absurd h5 (by decide))
   | (simp at h5;omega)
 cases hwl with
 | cons w1 w2=>
  cases w2
  cases w1 with
  | list ho hall=>exact ⟨_,_,ns,rfl,rfl,ho,p_ ns _ hall,hlen⟩
theorem AQ (l:OpenLaw) (args:List WData):l.row.toRowW.claim.post args (.bool true) args=true:=
 postW_of (r:=l.row.toRowW) (X:=(true == true))
  (show WShape.has [] (.bool true) .bool=true by first | rfl | decide | simp [WShape.has,WShape.arms,WShape.armsAll])
  (show (WTm.eq .res (.lit (.bool true))).value [] {args:=args,res:=some (.bool true),after:=args}=some (.bool (true == true)) from w_eq_bool (w_res rfl) w_lit) rfl
theorem we {l:OpenLaw}{n:Nat}{q:Program}{loose:List Str}{XP:(Str→Option Value)→Heap→Prop}{YP:World→Heap→Prop}{d:DefRec}
  (hn:l.most=some n) (hdf:d.params.defaults=[])
  (call:∀(w:World) (s₀ s₁:Shared) (mg mb:Str→Option Value) (fa:Addr) (o:Obj) (pm cd doc:Value) (a:Addr) (vs:List Value) (ns:List Int),
   Ground q loose [] XP w s₀ mg mb s₁.heap→YP w s₁.heap→
   s₁.heap.get? fa=some o→o.data=.func (docDef d.name d.params d.body d.scope pm cd doc)→s₁.heap.CodeRec cd d.name→mg d.name=some (.ref fa)→
   s₁.heap.get? a=some {cls:=.type "list",data:=.seq vs.toArray}→IntsAre vs ns→ns.length≤n→s₁.gens=#[]→
   codeAny (model l.prog w) callerA (.call (.ref fa) ⟨[.ref a],[]⟩) (fun r s'=>r=.ok (.ret (.bool true))∧OldK s₁.heap s'.heap∧s'.os=s₁.os∧AllBare s'.gens) s₁):
  WalkO q loose XP YP l.row.toRowW d [] (fun f vs=>PySem.call f vs):=by
 intro w s₀ s₁ mg mb G Y fa o pm cd doc dV kV ho hd hcd hD hmg hg args vals as hpre hlay hrd hwl hlo
 obtain rfl:dV=.none:=Dflts.none hD hdf
 obtain rfl:kV=.none:=Dflts.noKw hD
 obtain ⟨a,vs,ns,rfl,rfl,hobj,hints,hlen⟩:=A6 hn hpre hwl
 refine enter_call (codeAny_mono (call w s₀ s₁ mg mb fa o pm cd doc a vs ns G Y ho (fd_plain hd) hcd hmg hobj hints hlen hg) fun r s' hq=>?_)
 obtain ⟨rfl,h2,h3,h4⟩:=hq
 exact ⟨.inl ⟨.bool true,.bool true,[],rfl,fun _=>rfl,.bool true,AQ l _,fun _=>⟨List.Pairwise.nil,fun _ hm=>(nomatch hm)⟩⟩,h2,h3,h4⟩
end Att
namespace L2
open PySem PySem.Spec PyProof.Rows
theorem sO:∀{vs:List Value}{ns:List Int},IntsAre vs ns→Vals (ns.map V.int) vs
 | _,_,.nil=>.nil
 | _,_,.cons n t h=>.cons ⟨t,rfl⟩ (sO h)
def yg (H:Hp):Prop:=∀b,H b=none∨∃o xs,H b=some (.frz o (.lst xs))
theorem B3 {P:Program}{w:World}{K:PySem.W.Frag}{mg mb:Str→Option Value}{CX:mG}{k:Nat}{fa a:Addr}{fd:FuncData}{x:Str}{sp:Sp}{s₁:Shared}{vs:List Value}{ns:List Int}
  (KX:K.In s₁.heap) (hns:s₁.heap.Ns mainGlobals mg) (hb:s₁.heap.Ns builtinsNs mb) (hbb:∀x:Str,x≠"__name__"→mb x=bootBuiltins x) (hlim:s₁.heap.NoLimit) (hg:s₁.gens=#[])
  (ha:s₁.heap.get? a=some {cls:=.type "list",data:=.seq vs.toArray}) (hi:IntsAre vs ns) (hl:ns.length≤sizeLine) (hr:c_ k callerA)
  (F:∀base:Heap,K.In base→base.Ns mainGlobals mg→gj P w K mg base CX k fa fd [x] sp) (hbind:∀(s:Shared) (u:Value),BindsTo s fd ⟨[u],[]⟩ [(x,u)])
  (hsp:∀H:Hp,yg H→cG K H a (ns.map V.int)→sp [.ref a] H (fun v _=>v=.bl true) fun _ _ _=>False)
  (hCX:∀H e s',CX [] H s₁ (fun _ _ _=>False) e s'→False):
  codeAny (model P w) callerA (.call (.ref fa) ⟨[.ref a],[]⟩) (fun r s'=>r=.ok (.ret (.bool true))∧OldK s₁.heap s'.heap∧s'.os=s₁.os∧AllBare s'.gens) s₁:=by
 have rv:=sO hi
 have lenV:=hi.length
 have core:∀H:Hp,yg H→cG K H a (ns.map V.int)→fN P w H s₁.heap→(∀b,H b≠none→b=a)→(H a≠none→K.lookup a=none)→
   codeAny (model P w) callerA (.call (.ref fa) ⟨[.ref a],[]⟩) (fun r s'=>r=.ok (.ret (.bool true))∧OldK s₁.heap s'.heap∧s'.os=s₁.os∧AllBare s'.gens) s₁:=by
  intro H hO hS hok hA hK
  have base_of:∀{b:Addr}{o:Obj},s₁.heap.get? b=some o→H b=none→(lF s₁.heap H).get? b=some o:=fun e n=>BP e n
  have noA:∀{b:Addr}{o:Obj}{es:Array DictEntry}{ep:Nat},s₁.heap.get? b=some o→o.data=.dict es ep→H b=none:=fun {b o es ep} e d=>by
   cases q:H b with
   | none=>rfl
   | some u=>
    have e':b=a:=hA b (by rw [q];simp)
    subst e'
    rw [ha] at e;cases e
    have d':Data.seq vs.toArray _=Data.dict es ep:=d
    cases d'
  have nsK:∀{b:Addr}{m:Str→Option Value},s₁.heap.Ns b m→(lF s₁.heap H).Ns b m:=fun {b m} ⟨o,es,ep,e,d,r⟩=>⟨o,es,ep,base_of e (noA e d),d,r⟩
  have hKb:K.In (lF s₁.heap H):=fun b o e=>base_of (KX b o e) (by
   cases q:H b with
   | none=>rfl
   | some u=>
    have e':b=a:=hA b (by rw [q];simp)
    subst e'
    rw [hK (by rw [q];simp)] at e;cases e)
  have hM:Mod K mg (lF s₁.heap H):=⟨hKb,nsK hns,⟨mb,nsK hb,hbb⟩,let ⟨mc,h1,h2⟩:=hlim;⟨mc,nsK h1,h2⟩⟩
  have e0:yc P w K mg (lF s₁.heap H) callerA [] s₁ H:=⟨rfl,hM,fun b o e=>EC e,Nat.le_of_eq (Ag _ _),trivial,fun b hb=>absurd (show b∈([]:List Addr) from hb) (by simp),hok,.of_eq hg⟩
  refine codeAny_mono ((F _ hKb (nsK hns)).run callerA [] s₁ H ⟨[.ref a],[]⟩ [.ref a] [.ref a] _ _ hr e0 (hbind s₁ (.ref a)) (.cons rfl .nil) (hsp H hO hS)) fun r s' h=>?_
  cases r with
  | error e=>exact (hCX H e s' h).elim
  | ok fl=>
   cases fl with
   | next=>exact False.elim h
   | brk=>exact False.elim h
   | cont=>exact False.elim h
   | ret u=>
    obtain ⟨v,H',os,bare,un,hok',r',q⟩:=h
    have q':v=.bl true:=q
    subst q'
    obtain rfl:u=Value.bool true:=r'
    refine ⟨rfl,OldK.of_keep fun b o e=>?_,os,bare⟩
    cases q:H b with
    | none=>exact un.keep b o e q (by intro z;exact absurd (show b∈([]:List Addr) from z) (by simp)) (by simp)
    | some u=>
     rcases hO b with z | ⟨ob,xs,z⟩
     ·rw [q] at z;cases z
     ·have z2:=un.frzs b ob _ z
      obtain ⟨e1,_⟩:=hok b _ z
      obtain ⟨e2,_⟩:=hok' b _ z2
      rw [e] at e1;cases e1
      exact e2
 cases hk:K.lookup a with
 | some o=>
  have e:=KX a o hk
  rw [ha] at e
  cases e
  refine core (fun _=>none) (fun _=>.inl rfl) (.inr ⟨_,vs.toArray,_,hk,rfl,rfl,rfl,by rw [List.size_toArray,lenV];exact hl,by simpa using rv⟩) (fun b u z=>by have z':(none:Option HO)=some u:=z;cases z') (fun b z=>absurd rfl z) fun z=>absurd rfl z
 | none=>
  refine core (fun b=>if b=a then some (.frz {cls:=.type "list",data:=.seq vs.toArray} (.lst (ns.map V.int))) else none) (fun b=>?_) (.inl (.inr ⟨{cls:=.type "list",data:=.seq vs.toArray},if_pos rfl⟩)) (fun b u z=>?_) (fun b z=>?_) fun _=>hk
  ·by_cases hb:b=a
   ·exact .inr ⟨_,_,if_pos hb⟩
   ·exact .inl (if_neg hb)
  ·by_cases hb:b=a
   ·have z':=(if_pos hb).symm.trans z
    cases z'
    subst hb
    exact ⟨ha,by rw [List.length_map];exact hl,vs,_,rv,ha⟩
   ·have z':=(if_neg hb).symm.trans z
    cases z'
  ·by_cases hb:b=a
   ·exact hb
   ·exact absurd (if_neg hb) z
abbrev LB {K:PySem.W.Frag}{h:Heap}(_:K.In h):PySem.W.Frag:=K
theorem FQ {l:PySem.W.OpenLaw}{n k:Nat}{q:Program}{loose:List Str}{XP:(Str→Option Value)→Heap→Prop}{YP:World→Heap→Prop}{d:DefRec}{K:Params→PySem.W.Frag}{CX:World→mG}{sp:World→Sp}{x:Str}
  (hn:l.most=some n) (hn2:n≤sizeLine) (hdf:d.params.defaults=[]) (hr:c_ k callerA)
  (hY:∀(w:World) (h:Heap),YP w h→(K w.params).In h)
  (F:∀(w:World) (mg:Str→Option Value) (fa:Addr) (h:Heap),(K w.params).In h→h.Ns mainGlobals mg→mg d.name=some (.ref fa)→
   ∃fd:FuncData,(∀(s:Shared) (u:Value),BindsTo s fd ⟨[u],[]⟩ [(x,u)])∧
    ∀base:Heap,(K w.params).In base→base.Ns mainGlobals mg→gj l.prog w (K w.params) mg base (CX w) k fa fd [x] (sp w))
  (hsp:∀(w:World) (H:Hp) (a:Addr) (ns:List Int),ns.length≤n→yg H→cG (K w.params) H a (ns.map V.int)→sp w [.ref a] H (fun v _=>v=.bl true) fun _ _ _=>False)
  (hCX:∀(w:World) (H:Hp) (s:Shared) (e:Value) (s':Shared),CX w [] H s (fun _ _ _=>False) e s'→False):
  PySem.W.WalkO q loose XP YP l.row.toRowW d [] (fun f vs=>PySem.call f vs):=by
 refine Att.we hn hdf fun w s₀ s₁ mg mb fa o pm cd doc a vs ns G Y ho hd hcd hmg hobj hints hlen hg=>?_
 have KX:=hY w _ Y
 obtain ⟨fd,hb,hF⟩:=F w mg fa _ KX G.T.g hmg
 exact B3 KX G.T.g G.T.b G.T.builtins G.T.nolimit hg hobj hints (Nat.le_trans hlen hn2) hr hF hb (fun H hO hS=>hsp w H a ns hlen hO hS) fun H e s'=>hCX w H s₁ e s'
def aO (s:Stmt):Arguments:=match s with
 | .FunctionDef _ a _ _ _ _ _ _ _ _=>a
 | _=>{posonlyargs:=[],args:=[],vararg:=none,kwonlyargs:=[],kw_defaults:=[],kwarg:=none,defaults:=[]}
def aJ (s:Stmt):List Stmt:=match s with
 | .FunctionDef _ _ b _ _ _ _ _ _ _=>b
 | _=>[]
def ay (s:Stmt):Scope:=match s with
 | .FunctionDef _ _ _ _ _ _ sc _ _ _=>sc
 | _=>{kind:=.function,names:=[],isGenerator:=false,isCoroutine:=false}
abbrev lZ:mG:=fun _ _ _ _ _ _=>False
abbrev E0:XK:=fun _ _ _=>False
theorem Jp {X:Cx}:Passes lZ X E0:=fun _ _ _ _ _ _ _ h=>h.elim
structure dQ (K:PySem.W.Frag) (x qual:Str) (st:Stmt) (f:Addr) (fd:FuncData):Prop where
 ex:∃(oc:Value) (od:Option Addr) (kV doc pm:Value) (an:Option Addr) (cdv ct:Value) (osl:Array (Option Value)),
  fd=PySem.W.fnOf x qual (aO st) (aJ st) (ay st) .none kV doc pm an cdv ct∧K.lookup f=some ⟨oc,od,.func fd,osl⟩∧PySem.W.codeIn K cdv qual=true
 kp:PySem.W.keepIn K (.ref f)=true
section
variable {P:Program}{w:World}{K:PySem.W.Frag}{mg:Str→Option Value}{base:Heap}
theorem dQ.ok {x qual:Str}{st:Stmt}{f:Addr}{fd:FuncData}{N ps:List Str}{k:Nat}{sp:Sp}(F:dQ K x qual st f fd) (S:bE N ps (ay st)) (len:∀vs H Q E,sp vs H Q E→vs.length=ps.length)
  (hbody:∀(cdv:Value) (A:Around) (outer:List Env) (s:Shared) (H:Hp) (vs:List V) (Q:VK) (E:XK),c_ k (A.deeper (envOfC qual (ay st) s.heap.objs.size f cdv))→sp vs H Q E→
   ∃t,jj (mR lZ P w K mg base N qual (ay st) f cdv A outer s H E).nox (aJ st) t∧t {nx:=fun _ H'=>Q .non H',rt:=Q} (start N vs) H):gj P w K mg base lZ (k + 1) f fd ps sp:=by
 obtain ⟨oc,od,kV,doc,pm,an,cdv,ct,osl,rfl,lk,hcd⟩:=F.ex
 refine Du lk hcd S len fun A outer s H vs Q E hr hsp=>?_
 obtain ⟨t,h,q⟩:=hbody cdv A outer s H vs Q E hr hsp
 exact ⟨t,h.nox,q⟩
theorem dQ.binds {x qual:Str}{st:Stmt}{f:Addr}{fd:FuncData}{ps:List Str}(F:dQ K x qual st f fd)
  (h:∀(kV doc pm:Value) (an:Option Addr) (cdv ct:Value) (us:List Value),us.length=ps.length→bindArgs (PySem.W.fnOf x qual (aO st) (aJ st) (ay st) .none kV doc pm an cdv ct) ⟨us,[]⟩=pure (ps.zip us)):Binds K fd ps []:=by
 obtain ⟨oc,od,kV,doc,pm,an,cdv,ct,osl,rfl,lk,hcd⟩:=F.ex
 exact .all (h kV doc pm an cdv ct)
theorem bZ {x qual:Str}{st:Stmt}{f:Addr}{oc:Value}{od an:Option Addr}{osl:Array (Option Value)}{kV doc pm cdv ct:Value}(l:K.lookup f=some ⟨oc,od,.func (PySem.W.fnOf x qual (aO st) (aJ st) (ay st) .none kV doc pm an cdv ct),osl⟩)
  (c:PySem.W.codeIn K cdv qual=true) (k:PySem.W.keepIn K (.ref f)=true):dQ K x qual st f (PySem.W.fnOf x qual (aO st) (aJ st) (ay st) .none kV doc pm an cdv ct):=⟨⟨oc,od,kV,doc,pm,an,cdv,ct,osl,rfl,l,c⟩,k⟩
end
theorem KI {A B:Prop}(h:B):if false=true then A else B:=by
 rw [if_neg Bool.false_ne_true]
 exact h
theorem KJ {A B:Prop}(h:A):if true=true then A else B:=by
 rw [if_pos rfl]
 exact h
def a_ (H H':Hp):Prop:=∀b o,H b=some o→H' b=some o
theorem a_.refl (H:Hp):a_ H H:=fun _ _ h=>h
theorem a_.trans {H H1 H2:Hp}(a:a_ H H1) (b:a_ H1 H2):a_ H H2:=fun c o h=>b c o (a c o h)
theorem a_.free {H H':Hp}(e:a_ H H'){l:Addr}(h:H' l=Option.none):H l=Option.none:=by
 cases q:H l with
 | none=>rfl
 | some o=>
  rw [e l o q] at h
  cases h
theorem a_.seq {K:PySem.W.Frag}{H H':Hp}{a:Addr}{xs:List V}(e:a_ H H') (h:cG K H a xs):cG K H' a xs:=by
 rcases h with (h | ⟨o,h⟩) | h
 ·exact .inl (.inl (e _ _ h))
 ·exact .inl (.inr ⟨o,e _ _ h⟩)
 ·exact .inr h
end L2
set_option maxHeartbeats 4000000
namespace K55
open PySem
def top (i:Nat):Stmt:=PySem.Challenge.pw_pickalike_k55_whole_kinds_side_by_side.main.body.getD i (.Pass ⟨0,0,0,0⟩)
def topC (i j:Nat):Stmt:=match top i with
 | .ClassDef (body:=b) ..=>b.getD j (.Pass ⟨0,0,0,0⟩)
 | _=>.Pass ⟨0,0,0,0⟩
end K55
namespace K55
open PySem PySem.Spec PyProof.Rows L2
abbrev E (P:Params) (k:Str) (t:Nat) (v:Value):DictEntry:=⟨PyData.keyHash P k,.str k t,v⟩
def KF (P:Params):PySem.W.Frag:=
(nat_lit 2,⟨.none,none,(.dict #[] 0),#[]⟩)::
(nat_lit 3,⟨(.type "dict"),none,(.dict #[E P "__name__" 165 (.str "law_pickalike_k55_whole_kinds_side_by_side" 366),E P "__doc__" 166 .none,E P "__package__" 167 .none,E P "__loader__" 168 (.builtin "__main__.__loader__#opaque"),E P "__spec__" 169 .none,E P "__annotations__" 170 (.ref 6),E P "__builtins__" 171 (.ref 4),E P "__file__" 173 (.str "/claim/cut.py" 172),E P "__cached__" 174 .none,E P "PickError" 206 (.ref 24),E P "TooMany" 231 (.ref 44),E P "NoCount" 256 (.ref 63),E P "is_whole" 265 (.ref 72),E P "need_count" 276 (.ref 79),E P "MOST_DEPTH" 278 (.int 6 277),E P "MOST_POWER" 282 (.int 600 281),E P "power" 292 (.ref 86),E P "sorted_once" 301 (.ref 93),E P "face_of" 307 (.ref 98),E P "kind_of" 313 (.ref 103),E P "kind" 323 (.ref 111),E P "depth_of_kind" 331 (.ref 118),E P "spread" 337 (.ref 123),E P "spread_face" 343 (.ref 128),E P "kind_beside" 357 (.ref 135),E P "beside_kind" 365 (.ref 142),E P "_law_cell" 375 (.ref 149),E P "_law_names" 390 (.ref 156),E P "_law_bits" 400 (.ref 163),E P "_law_world" 406 (.ref 168),E P "_law_order" 417 (.ref 175),E P "_law_turned" 423 (.ref 180),E P "_law_flipped" 429 (.ref 185),E P "_law_two" 435 (.ref 190),E P "_law_power" 445 (.ref 197),E P "_law_deep" 455 (.ref 204),E P "_law_beside" 461 (.ref 209),E P "law" 476 (.ref 216)] 38),#[]⟩)::
(nat_lit 15,⟨(.type "tuple"),none,(.seq #[(.type "ValueError")] 0),#[]⟩)::
(nat_lit 22,⟨(.type "tuple"),none,(.seq #[] 0),#[]⟩)::
(nat_lit 23,⟨(.type "dict"),none,(.dict #[E P "__module__" 196 (.str "pickalike.errors" 187),E P "__firstlineno__" 200 (.int 2 199),E P "__static_attributes__" 201 (.ref 22),E P "__weakref__" 203 (.ref 25),E P "__doc__" 204 .none] 3),#[]⟩)::
(nat_lit 24,⟨(.type "type"),none,(.cls ⟨"PickError",[(.type "ValueError")],[(.ref 24),(.type "ValueError"),(.type "Exception"),(.type "BaseException"),(.type "object")],23,"PickError",true,[],[(.ref 44),(.ref 63)],false,none,false⟩),#[(some (.ref 15)),none,(some (.str "PickError" 189)),(some (.str "PickError" 197)),(some (.builtin "ValueError.__new__")),(some (.bool true))]⟩)::
(nat_lit 25,⟨(.type "getset_descriptor"),none,(.fields #[(.str "__weakref__" 202),(.ref 24),(.builtin "ExceptionGroup.__weakref__"),.none]),#[]⟩)::
(nat_lit 28,⟨(.type "tuple"),none,(.seq #[(.ref 24)] 0),#[]⟩)::
(nat_lit 35,⟨(.type "tuple"),none,(.seq #[] 0),#[]⟩)::
(nat_lit 37,⟨(.type "tuple"),none,(.seq #[(.str "self" 222),(.str "many" 223)] 0),#[]⟩)::
(nat_lit 38,⟨(.type "tuple"),none,(.seq #[] 0),#[]⟩)::
(nat_lit 40,⟨(.type "code"),none,(.fields #[(.str "__init__" 219),(.str "TooMany.__init__" 220),(.str "/claim/cut.py" 221),(.int 6 0),(.int 2 0),(.int 0 0),(.int 0 0),(.int 3 0),(.ref 35),(.bool true),(.int 181 0),(.ref 36),.none,(.ref 37),(.ref 38),(.ref 39),(.int 224 0),(.int 6 0),(.str "/claim/cut.py" 225)]),#[]⟩)::
(nat_lit 41,⟨(.type "function"),none,(.func (PySem.W.fnOf "__init__" "TooMany.__init__" (aO (topC 2 0)) (aJ (topC 2 0)) (ay (topC 2 0)) .none .none .none (.str "pickalike.errors" 187) none (.ref 40) .none)),#[]⟩)::
(nat_lit 42,⟨(.type "tuple"),none,(.seq #[(.str "many" 227)] 0),#[]⟩)::
(nat_lit 43,⟨(.type "dict"),none,(.dict #[E P "__module__" 214 (.str "pickalike.errors" 187),E P "__firstlineno__" 218 (.int 4 217),E P "__init__" 226 (.ref 41),E P "__static_attributes__" 228 (.ref 42),E P "__doc__" 229 .none] 2),#[]⟩)::
(nat_lit 44,⟨(.type "type"),none,(.cls ⟨"TooMany",[(.ref 24)],[(.ref 44),(.ref 24),(.type "ValueError"),(.type "Exception"),(.type "BaseException"),(.type "object")],43,"TooMany",true,[],[],false,none,false⟩),#[(some (.ref 28)),none,(some (.str "TooMany" 207)),(some (.str "TooMany" 215)),(some (.builtin "ValueError.__new__")),(some (.bool true))]⟩)::
(nat_lit 47,⟨(.type "tuple"),none,(.seq #[(.ref 24)] 0),#[]⟩)::
(nat_lit 54,⟨(.type "tuple"),none,(.seq #[] 0),#[]⟩)::
(nat_lit 56,⟨(.type "tuple"),none,(.seq #[(.str "self" 247),(.str "told" 248)] 0),#[]⟩)::
(nat_lit 57,⟨(.type "tuple"),none,(.seq #[] 0),#[]⟩)::
(nat_lit 59,⟨(.type "code"),none,(.fields #[(.str "__init__" 244),(.str "NoCount.__init__" 245),(.str "/claim/cut.py" 246),(.int 11 0),(.int 2 0),(.int 0 0),(.int 0 0),(.int 3 0),(.ref 54),(.bool true),(.int 181 0),(.ref 55),.none,(.ref 56),(.ref 57),(.ref 58),(.int 249 0),(.int 11 0),(.str "/claim/cut.py" 250)]),#[]⟩)::
(nat_lit 60,⟨(.type "function"),none,(.func (PySem.W.fnOf "__init__" "NoCount.__init__" (aO (topC 3 0)) (aJ (topC 3 0)) (ay (topC 3 0)) .none .none .none (.str "pickalike.errors" 187) none (.ref 59) .none)),#[]⟩)::
(nat_lit 61,⟨(.type "tuple"),none,(.seq #[(.str "told" 252)] 0),#[]⟩)::
(nat_lit 62,⟨(.type "dict"),none,(.dict #[E P "__module__" 239 (.str "pickalike.errors" 187),E P "__firstlineno__" 243 (.int 9 242),E P "__init__" 251 (.ref 60),E P "__static_attributes__" 253 (.ref 61),E P "__doc__" 254 .none] 2),#[]⟩)::
(nat_lit 63,⟨(.type "type"),none,(.cls ⟨"NoCount",[(.ref 24)],[(.ref 63),(.ref 24),(.type "ValueError"),(.type "Exception"),(.type "BaseException"),(.type "object")],62,"NoCount",true,[],[],false,none,false⟩),#[(some (.ref 47)),none,(some (.str "NoCount" 232)),(some (.str "NoCount" 240)),(some (.builtin "ValueError.__new__")),(some (.bool true))]⟩)::
(nat_lit 66,⟨(.type "tuple"),none,(.seq #[] 0),#[]⟩)::
(nat_lit 68,⟨(.type "tuple"),none,(.seq #[(.str "thing" 262)] 0),#[]⟩)::
(nat_lit 69,⟨(.type "tuple"),none,(.seq #[] 0),#[]⟩)::
(nat_lit 71,⟨(.type "code"),none,(.fields #[(.str "is_whole" 259),(.str "is_whole" 260),(.str "/claim/cut.py" 261),(.int 15 0),(.int 1 0),(.int 0 0),(.int 0 0),(.int 3 0),(.ref 66),(.bool true),(.int 181 0),(.ref 67),.none,(.ref 68),(.ref 69),(.ref 70),(.int 263 0),(.int 15 0),(.str "/claim/cut.py" 264)]),#[]⟩)::
(nat_lit 72,⟨(.type "function"),none,(.func (PySem.W.fnOf "is_whole" "is_whole" (aO (top 5)) (aJ (top 5)) (ay (top 5)) .none .none .none (.str "pickalike.worlds" 257) none (.ref 71) .none)),#[]⟩)::
(nat_lit 73,⟨(.type "tuple"),none,(.seq #[] 0),#[]⟩)::
(nat_lit 75,⟨(.type "tuple"),none,(.seq #[(.str "told" 271),(.str "least" 272),(.str "most" 273)] 0),#[]⟩)::
(nat_lit 76,⟨(.type "tuple"),none,(.seq #[] 0),#[]⟩)::
(nat_lit 78,⟨(.type "code"),none,(.fields #[(.str "need_count" 268),(.str "need_count" 269),(.str "/claim/cut.py" 270),(.int 18 0),(.int 3 0),(.int 0 0),(.int 0 0),(.int 3 0),(.ref 73),(.bool true),(.int 181 0),(.ref 74),.none,(.ref 75),(.ref 76),(.ref 77),(.int 274 0),(.int 18 0),(.str "/claim/cut.py" 275)]),#[]⟩)::
(nat_lit 79,⟨(.type "function"),none,(.func (PySem.W.fnOf "need_count" "need_count" (aO (top 7)) (aJ (top 7)) (ay (top 7)) .none .none .none (.str "pickalike.checks" 266) none (.ref 78) .none)),#[]⟩)::
(nat_lit 80,⟨(.type "tuple"),none,(.seq #[] 0),#[]⟩)::
(nat_lit 82,⟨(.type "tuple"),none,(.seq #[(.str "many" 286),(.str "depth" 287),(.str "told" 288),(.str "step" 289)] 0),#[]⟩)::
(nat_lit 83,⟨(.type "tuple"),none,(.seq #[] 0),#[]⟩)::
(nat_lit 85,⟨(.type "code"),none,(.fields #[(.str "power" 283),(.str "power" 284),(.str "/claim/cut.py" 285),(.int 24 0),(.int 2 0),(.int 0 0),(.int 0 0),(.int 3 0),(.ref 80),(.bool true),(.int 181 0),(.ref 81),.none,(.ref 82),(.ref 83),(.ref 84),(.int 290 0),(.int 24 0),(.str "/claim/cut.py" 291)]),#[]⟩)::
(nat_lit 86,⟨(.type "function"),none,(.func (PySem.W.fnOf "power" "power" (aO (top 11)) (aJ (top 11)) (ay (top 11)) .none .none .none (.str "pickalike.kinds" 279) none (.ref 85) .none)),#[]⟩)::
(nat_lit 87,⟨(.type "tuple"),none,(.seq #[] 0),#[]⟩)::
(nat_lit 89,⟨(.type "tuple"),none,(.seq #[(.str "told" 296),(.str "kept" 297),(.str "one" 298)] 0),#[]⟩)::
(nat_lit 90,⟨(.type "tuple"),none,(.seq #[] 0),#[]⟩)::
(nat_lit 92,⟨(.type "code"),none,(.fields #[(.str "sorted_once" 293),(.str "sorted_once" 294),(.str "/claim/cut.py" 295),(.int 29 0),(.int 1 0),(.int 0 0),(.int 0 0),(.int 3 0),(.ref 87),(.bool true),(.int 181 0),(.ref 88),.none,(.ref 89),(.ref 90),(.ref 91),(.int 299 0),(.int 29 0),(.str "/claim/cut.py" 300)]),#[]⟩)::
(nat_lit 93,⟨(.type "function"),none,(.func (PySem.W.fnOf "sorted_once" "sorted_once" (aO (top 12)) (aJ (top 12)) (ay (top 12)) .none .none .none (.str "pickalike.kinds" 279) none (.ref 92) .none)),#[]⟩)::
(nat_lit 94,⟨(.type "tuple"),none,(.seq #[] 0),#[]⟩)::
(nat_lit 97,⟨(.type "code"),none,(.fields #[(.str "face_of" 302),(.str "face_of" 303),(.str "/claim/cut.py" 304),(.int 35 0),(.int 2 0),(.int 0 0),(.int 0 0),(.int 3 0),(.ref 94),(.bool true),(.int 181 0),(.ref 95),.none,.none,.none,(.ref 96),(.int 305 0),(.int 35 0),(.str "/claim/cut.py" 306)]),#[]⟩)::
(nat_lit 98,⟨(.type "function"),none,(.func (PySem.W.fnOf "face_of" "face_of" (aO (top 13)) (aJ (top 13)) (ay (top 13)) .none .none .none (.str "pickalike.kinds" 279) none (.ref 97) .none)),#[]⟩)::
(nat_lit 99,⟨(.type "tuple"),none,(.seq #[] 0),#[]⟩)::
(nat_lit 102,⟨(.type "code"),none,(.fields #[(.str "kind_of" 308),(.str "kind_of" 309),(.str "/claim/cut.py" 310),(.int 46 0),(.int 3 0),(.int 0 0),(.int 0 0),(.int 3 0),(.ref 99),(.bool true),(.int 181 0),(.ref 100),.none,.none,.none,(.ref 101),(.int 311 0),(.int 46 0),(.str "/claim/cut.py" 312)]),#[]⟩)::
(nat_lit 103,⟨(.type "function"),none,(.func (PySem.W.fnOf "kind_of" "kind_of" (aO (top 14)) (aJ (top 14)) (ay (top 14)) .none .none .none (.str "pickalike.kinds" 279) none (.ref 102) .none)),#[]⟩)::
(nat_lit 104,⟨(.type "tuple"),none,(.seq #[.none] 0),#[]⟩)::
(nat_lit 105,⟨(.type "tuple"),none,(.seq #[] 0),#[]⟩)::
(nat_lit 107,⟨(.type "tuple"),none,(.seq #[(.str "world" 317),(.str "depth" 318),(.str "row" 319),(.str "many" 320)] 0),#[]⟩)::
(nat_lit 108,⟨(.type "tuple"),none,(.seq #[] 0),#[]⟩)::
(nat_lit 110,⟨(.type "code"),none,(.fields #[(.str "kind" 314),(.str "kind" 315),(.str "/claim/cut.py" 316),(.int 51 0),(.int 3 0),(.int 0 0),(.int 0 0),(.int 3 0),(.ref 105),(.bool true),(.int 181 0),(.ref 106),.none,(.ref 107),(.ref 108),(.ref 109),(.int 321 0),(.int 51 0),(.str "/claim/cut.py" 322)]),#[]⟩)::
(nat_lit 111,⟨(.type "function"),none,(.func (PySem.W.fnOf "kind" "kind" (aO (top 15)) (aJ (top 15)) (ay (top 15)) (.ref 104) .none .none (.str "pickalike.kinds" 279) none (.ref 110) .none)),#[]⟩)::
(nat_lit 112,⟨(.type "tuple"),none,(.seq #[] 0),#[]⟩)::
(nat_lit 114,⟨(.type "tuple"),none,(.seq #[(.str "told" 327),(.str "depth" 328)] 0),#[]⟩)::
(nat_lit 115,⟨(.type "tuple"),none,(.seq #[] 0),#[]⟩)::
(nat_lit 117,⟨(.type "code"),none,(.fields #[(.str "depth_of_kind" 324),(.str "depth_of_kind" 325),(.str "/claim/cut.py" 326),(.int 57 0),(.int 1 0),(.int 0 0),(.int 0 0),(.int 3 0),(.ref 112),(.bool true),(.int 181 0),(.ref 113),.none,(.ref 114),(.ref 115),(.ref 116),(.int 329 0),(.int 57 0),(.str "/claim/cut.py" 330)]),#[]⟩)::
(nat_lit 118,⟨(.type "function"),none,(.func (PySem.W.fnOf "depth_of_kind" "depth_of_kind" (aO (top 16)) (aJ (top 16)) (ay (top 16)) .none .none .none (.str "pickalike.kinds" 279) none (.ref 117) .none)),#[]⟩)::
(nat_lit 119,⟨(.type "tuple"),none,(.seq #[] 0),#[]⟩)::
(nat_lit 122,⟨(.type "code"),none,(.fields #[(.str "spread" 332),(.str "spread" 333),(.str "/claim/cut.py" 334),(.int 63 0),(.int 3 0),(.int 0 0),(.int 0 0),(.int 3 0),(.ref 119),(.bool true),(.int 181 0),(.ref 120),.none,.none,.none,(.ref 121),(.int 335 0),(.int 63 0),(.str "/claim/cut.py" 336)]),#[]⟩)::
(nat_lit 123,⟨(.type "function"),none,(.func (PySem.W.fnOf "spread" "spread" (aO (top 17)) (aJ (top 17)) (ay (top 17)) .none .none .none (.str "pickalike.kinds" 279) none (.ref 122) .none)),#[]⟩)::
(nat_lit 124,⟨(.type "tuple"),none,(.seq #[] 0),#[]⟩)::
(nat_lit 127,⟨(.type "code"),none,(.fields #[(.str "spread_face" 338),(.str "spread_face" 339),(.str "/claim/cut.py" 340),(.int 69 0),(.int 3 0),(.int 0 0),(.int 0 0),(.int 3 0),(.ref 124),(.bool true),(.int 181 0),(.ref 125),.none,.none,.none,(.ref 126),(.int 341 0),(.int 69 0),(.str "/claim/cut.py" 342)]),#[]⟩)::
(nat_lit 128,⟨(.type "function"),none,(.func (PySem.W.fnOf "spread_face" "spread_face" (aO (top 18)) (aJ (top 18)) (ay (top 18)) .none .none .none (.str "pickalike.kinds" 279) none (.ref 127) .none)),#[]⟩)::
(nat_lit 129,⟨(.type "tuple"),none,(.seq #[] 0),#[]⟩)::
(nat_lit 131,⟨(.type "tuple"),none,(.seq #[(.str "face" 347),(.str "both" 348),(.str "sides" 349),(.str "depth" 350),(.str "told" 351),(.str "side" 352),(.str "one" 353),(.str "grown" 354)] 0),#[]⟩)::
(nat_lit 132,⟨(.type "tuple"),none,(.seq #[] 0),#[]⟩)::
(nat_lit 134,⟨(.type "code"),none,(.fields #[(.str "kind_beside" 344),(.str "kind_beside" 345),(.str "/claim/cut.py" 346),(.int 74 0),(.int 4 0),(.int 0 0),(.int 0 0),(.int 3 0),(.ref 129),(.bool true),(.int 181 0),(.ref 130),.none,(.ref 131),(.ref 132),(.ref 133),(.int 355 0),(.int 74 0),(.str "/claim/cut.py" 356)]),#[]⟩)::
(nat_lit 135,⟨(.type "function"),none,(.func (PySem.W.fnOf "kind_beside" "kind_beside" (aO (top 19)) (aJ (top 19)) (ay (top 19)) .none .none .none (.str "pickalike.kinds" 279) none (.ref 134) .none)),#[]⟩)::
(nat_lit 136,⟨(.type "tuple"),none,(.seq #[] 0),#[]⟩)::
(nat_lit 138,⟨(.type "tuple"),none,(.seq #[(.str "one" 361),(.str "other" 362)] 0),#[]⟩)::
(nat_lit 139,⟨(.type "tuple"),none,(.seq #[] 0),#[]⟩)::
(nat_lit 141,⟨(.type "code"),none,(.fields #[(.str "beside_kind" 358),(.str "beside_kind" 359),(.str "/claim/cut.py" 360),(.int 83 0),(.int 2 0),(.int 0 0),(.int 0 0),(.int 3 0),(.ref 136),(.bool true),(.int 181 0),(.ref 137),.none,(.ref 138),(.ref 139),(.ref 140),(.int 363 0),(.int 83 0),(.str "/claim/cut.py" 364)]),#[]⟩)::
(nat_lit 142,⟨(.type "function"),none,(.func (PySem.W.fnOf "beside_kind" "beside_kind" (aO (top 20)) (aJ (top 20)) (ay (top 20)) .none .none .none (.str "pickalike.kinds" 279) none (.ref 141) .none)),#[]⟩)::
(nat_lit 143,⟨(.type "tuple"),none,(.seq #[] 0),#[]⟩)::
(nat_lit 145,⟨(.type "tuple"),none,(.seq #[(.str "_law_script" 371),(.str "_law_k" 372)] 0),#[]⟩)::
(nat_lit 146,⟨(.type "tuple"),none,(.seq #[] 0),#[]⟩)::
(nat_lit 148,⟨(.type "code"),none,(.fields #[(.str "_law_cell" 368),(.str "_law_cell" 369),(.str "/claim/cut.py" 370),(.int 86 0),(.int 2 0),(.int 0 0),(.int 0 0),(.int 3 0),(.ref 143),(.bool true),(.int 181 0),(.ref 144),.none,(.ref 145),(.ref 146),(.ref 147),(.int 373 0),(.int 86 0),(.str "/claim/cut.py" 374)]),#[]⟩)::
(nat_lit 149,⟨(.type "function"),none,(.func (PySem.W.fnOf "_law_cell" "_law_cell" (aO (top 22)) (aJ (top 22)) (ay (top 22)) .none .none .none (.str "law_pickalike_k55_whole_kinds_side_by_side" 366) none (.ref 148) .none)),#[]⟩)::
(nat_lit 150,⟨(.type "tuple"),none,(.seq #[] 0),#[]⟩)::
(nat_lit 152,⟨(.type "tuple"),none,(.seq #[(.str "_law_cell_here" 379),(.str "_law_many" 380),(.str "_law_letters" 381),(.str "_law_sign" 382),(.str "_law_stem" 383),(.str "_law_found" 384),(.str "_law_k" 385),(.str "_law_other" 386),(.str "_law_name" 387)] 0),#[]⟩)::
(nat_lit 153,⟨(.type "tuple"),none,(.seq #[] 0),#[]⟩)::
(nat_lit 155,⟨(.type "code"),none,(.fields #[(.str "_law_names" 376),(.str "_law_names" 377),(.str "/claim/cut.py" 378),(.int 90 0),(.int 2 0),(.int 0 0),(.int 0 0),(.int 3 0),(.ref 150),(.bool true),(.int 181 0),(.ref 151),.none,(.ref 152),(.ref 153),(.ref 154),(.int 388 0),(.int 90 0),(.str "/claim/cut.py" 389)]),#[]⟩)::
(nat_lit 156,⟨(.type "function"),none,(.func (PySem.W.fnOf "_law_names" "_law_names" (aO (top 23)) (aJ (top 23)) (ay (top 23)) .none .none .none (.str "law_pickalike_k55_whole_kinds_side_by_side" 366) none (.ref 155) .none)),#[]⟩)::
(nat_lit 157,⟨(.type "tuple"),none,(.seq #[] 0),#[]⟩)::
(nat_lit 159,⟨(.type "tuple"),none,(.seq #[(.str "_law_cell_here" 394),(.str "_law_size" 395),(.str "_law_found" 396),(.str "_law_k" 397)] 0),#[]⟩)::
(nat_lit 160,⟨(.type "tuple"),none,(.seq #[] 0),#[]⟩)::
(nat_lit 162,⟨(.type "code"),none,(.fields #[(.str "_law_bits" 391),(.str "_law_bits" 392),(.str "/claim/cut.py" 393),(.int 102 0),(.int 2 0),(.int 0 0),(.int 0 0),(.int 3 0),(.ref 157),(.bool true),(.int 181 0),(.ref 158),.none,(.ref 159),(.ref 160),(.ref 161),(.int 398 0),(.int 102 0),(.str "/claim/cut.py" 399)]),#[]⟩)::
(nat_lit 163,⟨(.type "function"),none,(.func (PySem.W.fnOf "_law_bits" "_law_bits" (aO (top 24)) (aJ (top 24)) (ay (top 24)) .none .none .none (.str "law_pickalike_k55_whole_kinds_side_by_side" 366) none (.ref 162) .none)),#[]⟩)::
(nat_lit 164,⟨(.type "tuple"),none,(.seq #[] 0),#[]⟩)::
(nat_lit 167,⟨(.type "code"),none,(.fields #[(.str "_law_world" 401),(.str "_law_world" 402),(.str "/claim/cut.py" 403),(.int 108 0),(.int 3 0),(.int 0 0),(.int 0 0),(.int 3 0),(.ref 164),(.bool true),(.int 181 0),(.ref 165),.none,.none,.none,(.ref 166),(.int 404 0),(.int 108 0),(.str "/claim/cut.py" 405)]),#[]⟩)::
(nat_lit 168,⟨(.type "function"),none,(.func (PySem.W.fnOf "_law_world" "_law_world" (aO (top 25)) (aJ (top 25)) (ay (top 25)) .none .none .none (.str "law_pickalike_k55_whole_kinds_side_by_side" 366) none (.ref 167) .none)),#[]⟩)::
(nat_lit 169,⟨(.type "tuple"),none,(.seq #[] 0),#[]⟩)::
(nat_lit 171,⟨(.type "tuple"),none,(.seq #[(.str "_law_cell_here" 410),(.str "_law_many" 411),(.str "_law_left" 412),(.str "_law_found" 413),(.str "_law_k" 414)] 0),#[]⟩)::
(nat_lit 172,⟨(.type "tuple"),none,(.seq #[] 0),#[]⟩)::
(nat_lit 174,⟨(.type "code"),none,(.fields #[(.str "_law_order" 407),(.str "_law_order" 408),(.str "/claim/cut.py" 409),(.int 118 0),(.int 2 0),(.int 0 0),(.int 0 0),(.int 3 0),(.ref 169),(.bool true),(.int 181 0),(.ref 170),.none,(.ref 171),(.ref 172),(.ref 173),(.int 415 0),(.int 118 0),(.str "/claim/cut.py" 416)]),#[]⟩)::
(nat_lit 175,⟨(.type "function"),none,(.func (PySem.W.fnOf "_law_order" "_law_order" (aO (top 26)) (aJ (top 26)) (ay (top 26)) .none .none .none (.str "law_pickalike_k55_whole_kinds_side_by_side" 366) none (.ref 174) .none)),#[]⟩)::
(nat_lit 176,⟨(.type "tuple"),none,(.seq #[] 0),#[]⟩)::
(nat_lit 179,⟨(.type "code"),none,(.fields #[(.str "_law_turned" 418),(.str "_law_turned" 419),(.str "/claim/cut.py" 420),(.int 125 0),(.int 2 0),(.int 0 0),(.int 0 0),(.int 3 0),(.ref 176),(.bool true),(.int 181 0),(.ref 177),.none,.none,.none,(.ref 178),(.int 421 0),(.int 125 0),(.str "/claim/cut.py" 422)]),#[]⟩)::
(nat_lit 180,⟨(.type "function"),none,(.func (PySem.W.fnOf "_law_turned" "_law_turned" (aO (top 27)) (aJ (top 27)) (ay (top 27)) .none .none .none (.str "law_pickalike_k55_whole_kinds_side_by_side" 366) none (.ref 179) .none)),#[]⟩)::
(nat_lit 181,⟨(.type "tuple"),none,(.seq #[] 0),#[]⟩)::
(nat_lit 184,⟨(.type "code"),none,(.fields #[(.str "_law_flipped" 424),(.str "_law_flipped" 425),(.str "/claim/cut.py" 426),(.int 129 0),(.int 2 0),(.int 0 0),(.int 0 0),(.int 3 0),(.ref 181),(.bool true),(.int 181 0),(.ref 182),.none,.none,.none,(.ref 183),(.int 427 0),(.int 129 0),(.str "/claim/cut.py" 428)]),#[]⟩)::
(nat_lit 185,⟨(.type "function"),none,(.func (PySem.W.fnOf "_law_flipped" "_law_flipped" (aO (top 28)) (aJ (top 28)) (ay (top 28)) .none .none .none (.str "law_pickalike_k55_whole_kinds_side_by_side" 366) none (.ref 184) .none)),#[]⟩)::
(nat_lit 186,⟨(.type "tuple"),none,(.seq #[] 0),#[]⟩)::
(nat_lit 189,⟨(.type "code"),none,(.fields #[(.str "_law_two" 430),(.str "_law_two" 431),(.str "/claim/cut.py" 432),(.int 148 0),(.int 2 0),(.int 0 0),(.int 0 0),(.int 3 0),(.ref 186),(.bool true),(.int 181 0),(.ref 187),.none,.none,.none,(.ref 188),(.int 433 0),(.int 148 0),(.str "/claim/cut.py" 434)]),#[]⟩)::
(nat_lit 190,⟨(.type "function"),none,(.func (PySem.W.fnOf "_law_two" "_law_two" (aO (top 29)) (aJ (top 29)) (ay (top 29)) .none .none .none (.str "law_pickalike_k55_whole_kinds_side_by_side" 366) none (.ref 189) .none)),#[]⟩)::
(nat_lit 191,⟨(.type "tuple"),none,(.seq #[] 0),#[]⟩)::
(nat_lit 193,⟨(.type "tuple"),none,(.seq #[(.str "_law_many" 439),(.str "_law_depth" 440),(.str "_law_found" 441),(.str "_law_k" 442)] 0),#[]⟩)::
(nat_lit 194,⟨(.type "tuple"),none,(.seq #[] 0),#[]⟩)::
(nat_lit 196,⟨(.type "code"),none,(.fields #[(.str "_law_power" 436),(.str "_law_power" 437),(.str "/claim/cut.py" 438),(.int 163 0),(.int 2 0),(.int 0 0),(.int 0 0),(.int 3 0),(.ref 191),(.bool true),(.int 181 0),(.ref 192),.none,(.ref 193),(.ref 194),(.ref 195),(.int 443 0),(.int 163 0),(.str "/claim/cut.py" 444)]),#[]⟩)::
(nat_lit 197,⟨(.type "function"),none,(.func (PySem.W.fnOf "_law_power" "_law_power" (aO (top 30)) (aJ (top 30)) (ay (top 30)) .none .none .none (.str "law_pickalike_k55_whole_kinds_side_by_side" 366) none (.ref 196) .none)),#[]⟩)::
(nat_lit 198,⟨(.type "tuple"),none,(.seq #[] 0),#[]⟩)::
(nat_lit 200,⟨(.type "tuple"),none,(.seq #[(.str "_law_cell_here" 449),(.str "_law_many" 450),(.str "_law_most" 451),(.str "_law_depth" 452)] 0),#[]⟩)::
(nat_lit 201,⟨(.type "tuple"),none,(.seq #[] 0),#[]⟩)::
(nat_lit 203,⟨(.type "code"),none,(.fields #[(.str "_law_deep" 446),(.str "_law_deep" 447),(.str "/claim/cut.py" 448),(.int 168 0),(.int 3 0),(.int 0 0),(.int 0 0),(.int 3 0),(.ref 198),(.bool true),(.int 181 0),(.ref 199),.none,(.ref 200),(.ref 201),(.ref 202),(.int 453 0),(.int 168 0),(.str "/claim/cut.py" 454)]),#[]⟩)::
(nat_lit 204,⟨(.type "function"),none,(.func (PySem.W.fnOf "_law_deep" "_law_deep" (aO (top 31)) (aJ (top 31)) (ay (top 31)) .none .none .none (.str "law_pickalike_k55_whole_kinds_side_by_side" 366) none (.ref 203) .none)),#[]⟩)::
(nat_lit 205,⟨(.type "tuple"),none,(.seq #[] 0),#[]⟩)::
(nat_lit 208,⟨(.type "code"),none,(.fields #[(.str "_law_beside" 456),(.str "_law_beside" 457),(.str "/claim/cut.py" 458),(.int 173 0),(.int 2 0),(.int 0 0),(.int 0 0),(.int 3 0),(.ref 205),(.bool true),(.int 181 0),(.ref 206),.none,.none,.none,(.ref 207),(.int 459 0),(.int 173 0),(.str "/claim/cut.py" 460)]),#[]⟩)::
(nat_lit 209,⟨(.type "function"),none,(.func (PySem.W.fnOf "_law_beside" "_law_beside" (aO (top 32)) (aJ (top 32)) (ay (top 32)) .none .none .none (.str "law_pickalike_k55_whole_kinds_side_by_side" 366) none (.ref 208) .none)),#[]⟩)::
(nat_lit 210,⟨(.type "tuple"),none,(.seq #[] 0),#[]⟩)::
(nat_lit 212,⟨(.type "tuple"),none,(.seq #[(.str "_law_script" 465),(.str "_law_one" 466),(.str "_law_other" 467),(.str "_law_cell_here" 468),(.str "_law_depth" 469),(.str "_law_here" 470),(.str "_law_there" 471),(.str "_law_found" 472),(.str "_law_turned_here" 473)] 0),#[]⟩)::
(nat_lit 213,⟨(.type "tuple"),none,(.seq #[] 0),#[]⟩)::
(nat_lit 215,⟨(.type "code"),none,(.fields #[(.str "law" 462),(.str "law" 463),(.str "/claim/cut.py" 464),(.int 182 0),(.int 1 0),(.int 0 0),(.int 0 0),(.int 3 0),(.ref 210),(.bool true),(.int 181 0),(.ref 211),.none,(.ref 212),(.ref 213),(.ref 214),(.int 474 0),(.int 182 0),(.str "/claim/cut.py" 475)]),#[]⟩)::
(nat_lit 216,⟨(.type "function"),none,(.func (PySem.W.fnOf "law" "law" (aO (top 33)) (aJ (top 33)) (ay (top 33)) .none .none .none (.str "law_pickalike_k55_whole_kinds_side_by_side" 366) none (.ref 215) .none)),#[]⟩)::[]
def VW:Program:={PySem.Challenge.pw_pickalike_k55_whole_kinds_side_by_side with main:={PySem.Challenge.pw_pickalike_k55_whole_kinds_side_by_side.main with body:=[top 1,top 2,top 3,top 5,top 7,top 8,top 10,top 11,top 12,top 13,top 14,top 16,top 17,top 18,top 19,top 20,top 22,top 23,top 24,top 25,top 26,top 27,top 28,top 29,top 30,top 31,top 32,top 33]}}
def HK:PySem.W.Hook:=PySem.W.kHook KF [2,3,15,22,23,24,25,28,35,37,38,40,41,42,43,44,47,54,56,57,59,60,61,62,63,66,68,69,71,72,73,75,76,78,79,80,82,83,85,86,87,89,90,92,93,94,97,98,99,102,103,104,105,107,108,110,111,112,114,115,117,118,119,122,123,124,127,128,129,131,132,134,135,136,138,139,141,142,143,145,146,148,149,150,152,153,155,156,157,159,160,162,163,164,167,168,169,171,172,174,175,176,179,180,181,184,185,186,189,190,191,193,194,196,197,198,200,201,203,204,205,208,209,210,212,213,215,216] (fun _=>by kernel_rfl)
def XT:Shared→Bool:=fun s=>PySem.W.xlAt VW [] s && PySem.W.recOk (PySem.W.RowW.records PySem.Challenge.rw_pickalike_k55_whole_kinds_side_by_side.row.toRowW) s
theorem look:PySem.W.OpenLaw.wellSaid PySem.Challenge.rw_pickalike_k55_whole_kinds_side_by_side=true:=by decide +kernel
theorem left:PySem.W.LeftO PySem.Challenge.rw_pickalike_k55_whole_kinds_side_by_side.row.prog VW ["kind"] XT (PySem.W.Hook.obs HK) (PySem.W.Hook.val HK) 3042:=fun w=>by kernel_rfl
end K55
namespace DX
open PySem PySem.Spec
open Sem (wp)
abbrev Li (C t:Addr) (dx:Option Addr):Obj:={cls:=.ref C,dict:=dx,data:=.fields #[.ref t,.none,.none,.none,.bool false,.none]}
end DX
namespace DX
open PySem PySem.Spec
section
variable {M:Model}{A:Around}{E:Value→Shared→Prop}{s:Shared}
def Ld (e C:Addr) (dx:Option Addr) (T:Addr) (h:Heap):Prop:=
 ∃oe vs oT ts,h.get? e=some oe∧oe.cls=.ref C∧oe.dict=dx∧oe.data=.fields vs∧vs[1]?=some (.ref T)∧T≠e∧h.get? T=some oT∧oT.data=.fields ts∧ts[3]?=some .none
end
end DX
namespace DX
open PySem PySem.Spec PyProof.Rows L2
def IX (a C:Addr) (dx:Option Addr):Heap→Prop:=fun h=>∃oe vs,h.get? a=some oe∧oe.cls=.ref C∧oe.dict=dx∧oe.data=.fields vs
abbrev XO (a C:Addr) (dx:Option Addr):HO:=.ext (IX a C dx)
def Fl (e C:Addr) (dx:Option Addr):Option Addr→Heap→Prop
 | none,h=>∃t,h.get? e=some (Li C t dx)
 | some T,h=>Ld e C dx T h
structure Kq (P:Program) (w:World) (fs ex:List Addr) (H:Hp) (s:Shared) (E:XK) (e C:Addr) (dx To:Option Addr) (H':Hp) (s':Shared):Prop where
 os:s'.os=s.os
 bare:AllBare s'.gens
 un:Un fs ex H H' s.heap s'.heap
 hok:fN P w H' s'.heap
 fl:Fl e C dx To s'.heap
 newE:s.heap.objs.size≤e
 newT:∀T∈To.toList,s.heap.objs.size≤T
 Ba:H' e=some (XO e C dx)
 free:∀T∈To.toList,H' T=none
 wish:E (.ref e) dx H'
def wQ (P:Program) (w:World):mG:=fun outer H s E v s'=>∃e C dx T H',v=.ref e∧Kq P w (frs outer) [] H s E e C dx (some T) H' s'
end DX
namespace DX
open PySem PySem.Spec PyProof.Rows
open Sem (wp)
section
variable {prog:Program}{w:World}{A:Around}{E:Value→Shared→Prop}{s:Shared}{K:PySem.W.Frag}{x C:Addr}{ox:Obj}{od:Option Obj}{name:Str}
theorem BE {M:Model}{nameV:Value}{Q:Unit→Shared→Prop}(X:K.In s.heap) (I:PySem.W.InstAt s.heap x ox C od) (hm:PySem.W.mroIn K C (.type "BaseException")=some true) (hq:Q () s):wpAny M A (checkBuiltinCall "BaseException.__getattribute__" ⟨[.ref x,nameV],[]⟩) Q E s:=by
 have hk:builtinKind "BaseException.__getattribute__"=some .slot:=by decide +kernel
 have hsp:splitId "BaseException.__getattribute__"=some ("BaseException","__getattribute__"):=by decide +kernel
 have ha:=F.args_bexc_ga (.ref x) nameV
 have L1:=I.type (M:=M)
 have L2:=PySem.W.looks_mroIn (M:=M) X hm
 simp only [checkBuiltinCall,hk,hsp]
 have L:PySem.W.Looks M s.heap (isInstance (.ref x) (.type "BaseException")) true:=L1.andThen L2
 refine wpAny_bind (L.here ?_)
 obtain ⟨h,g,d,t,os⟩:=s
 repeat (any_goals (first | assumption | wp_step))
theorem entry_class {tk:Tok}{Q:Fin→Shared→Prop}(X:K.In s.heap) (I:PySem.W.InstAt s.heap x ox C od) (hf:PySem.W.findObj K C od "__class__"=some (.bind (.builtin "getset_descriptor.__get__") (.builtin "object.__class__"))) (hm:PySem.W.mroIn K C (.type "object")=some true) (h:Q (.done (.ret (.ref C))) s):
  wpAny (model prog w) A (Builtin.«object.__getattribute__» ⟨[.ref x,.str "__class__" tk],[]⟩) Q E s:=by
 obtain ⟨hh,g,d,t,os⟩:=s
 have L0:=I.type (M:=model prog w)
 have L1:=PySem.W.looks_find (M:=model prog w) X I hf
 refine wpAny_bind (wpAny_pure (wpAny_bind (wpAny_pure (wpAny_bind (L0.at (wpAny_bind (L1.at ?_)))))))
 show wpAny _ _ (holding [_] (call _ [_,.ref x,.ref C]) >>= ret) _ _ _
 exact wpAny_bind (wpAny_holding (wpAny_call (PySem.W.class_get (ox:=ox) (od:=od) X I hm (wpAny_pure h))))
theorem GC {tk:Tok}{fill expr:Bool}{Q:Value→Shared→Prop}(X:K.In s.heap) (I:PySem.W.InstAt s.heap x ox C od) (hga:PySem.W.findIn K (.ref C) "__getattribute__"=some (some (.builtin "BaseException.__getattribute__"))) (hgt:PySem.W.findIn K (.ref C) "__getattr__"=some none)
  (h:codeAny (model prog w) A (.call (.builtin "BaseException.__getattribute__") ⟨[.ref x,.str name tk],[]⟩) (fun r s'=>match r with | .ok (.ret v)=>wpAny (model prog w) A (handedOut v) Q E s' | _=>False) s):wpAny (model prog w) A (getAttrBy (.ref x) (.str name tk) fill expr) Q E s:=by
 obtain ⟨hh,g,d,t,os⟩:=s
 have L0:=I.type (M:=model prog w)
 have L1:=PySem.W.looks_findIn (M:=model prog w) X hga
 have L2:=PySem.W.looks_findIn (M:=model prog w) X hgt
 have hx2:(Value.builtin "BaseException.__getattribute__" == Value.builtin "object.__getattribute__")=false:=by decide +kernel
 unfold getAttrBy
 refine wpAny_holding (wpAny_bind (L0.at (wpAny_bind (L1.at ?_))))
 dsimp only
 rw [hx2,Bool.and_false,if_neg (by decide)]
 unfold getAttrByItsOwn
 refine wpAny_bind (L2.at ?_)
 have h0:(expr && onTheHeap (Value.builtin "BaseException.__getattribute__"))=false:=by cases expr <;> rfl
 refine wpAny_bind (wpAny_attempt (wpAny_holding ?_))
 unfold callGetattribute
 rw [h0,if_neg (by decide)]
 unfold boundAndCalled
 rw [PySem.F.attrBase_ValueError.ga.bind (.ref x)]
 refine wpAny_bind (wpAny_pure (wpAny_call (codeAny_mono h fun r s' q=>?_)))
 match r,q with
 | .ok (.ret v),q=>exact q
theorem get_class {Q:Option Value→Shared→Prop}(X:K.In s.heap) (I:PySem.W.InstAt s.heap x ox C od) (hga:PySem.W.findIn K (.ref C) "__getattribute__"=some (some (.builtin "BaseException.__getattribute__"))) (hgt:PySem.W.findIn K (.ref C) "__getattr__"=some none)
  (hm:PySem.W.mroIn K C (.type "BaseException")=some true) (hf:PySem.W.findObj K C od "__class__"=some (.bind (.builtin "getset_descriptor.__get__") (.builtin "object.__class__"))) (ho:PySem.W.mroIn K C (.type "object")=some true) (h:Q (some (.ref C)) {s with toks:=s.toks + 1}):
  wpAny (model prog w) A (getAttr? (.ref x) "__class__") Q E s:=by
 obtain ⟨hp,g,d,t,os⟩:=s
 unfold getAttr? getAttrBy?
 refine wpAny_bind (wpAny_mkText (wpAny_bind (wpAny_attempt (GC (s:=⟨hp,g,d,t + 1,os⟩) X I hga hgt ?_))))
 refine codeAny_call_builtin PySem.F.attrBase_ValueError.ga.plain F.entry_bexc_ga (BE (s:=⟨hp,g,d,t + 1,os⟩) X I hm (entry_class (s:=⟨hp,g,d,t + 1,os⟩) X I hf ho ?_))
 exact wpAny_pure (wpAny_pure h)
end
end DX
namespace DX
open PySem PySem.Spec PyProof.Rows L2
abbrev vX:List Value:=[.type "ValueError",.type "Exception",.type "BaseException",.type "object"]
def quiet:List Str:=["__init__","__setattr__","name","letter","many","told","point","row"]
structure GX (K:PySem.W.Frag) (P:Addr):Prop where
 gt:PySem.W.specialIn K (.builtin "object.__class__") "__get__"=some (some (.builtin "getset_descriptor.__get__"))
 tk:PySem.W.takesIn K (.builtin "object.__class__")=some true
 lk:∃nm q N bs sn sub ab col dd k0 k1 k2 k3 k5,K.lookup P=some (excClassObj nm q P N bs vX true sn sub ab col dd k0 k1 k2 k3 k5 "ValueError.__new__")∧∀h,K.In h→∃m,h.Ns N m∧∀n∈quiet,m n=none
structure XE (K:PySem.W.Frag) (P C:Addr):Prop where
 lk:∃nm q N bs sn sub ab col dd k0 k1 k2 k3 k5,K.lookup C=some (excClassObj nm q C N bs (.ref P::vX) true sn sub ab col dd k0 k1 k2 k3 k5 "ValueError.__new__")
 ga:PySem.W.findIn K (.ref C) "__getattribute__"=some (some (.builtin "BaseException.__getattribute__"))
 gt:PySem.W.findIn K (.ref C) "__getattr__"=some none
 cl:PySem.W.findIn K (.ref C) "__class__"=some (some (.builtin "object.__class__"))
section
variable {K:PySem.W.Frag}{P C:Addr}
theorem zU (X:XE K P C):∃cd,PySem.W.clsIn K C=some cd∧cd.mro=.ref C::.ref P::vX∧cd.hasDict=true∧PySem.W.typeIn K (.ref C)=some (.type "type"):=by
 obtain ⟨nm,q,N,bs,sn,sub,ab,col,dd,k0,k1,k2,k3,k5,l⟩:=X.lk
 have h1:PySem.W.clsIn K C=some {name:=nm,bases:=bs,mro:=.ref C::.ref P::vX,ns:=N,qualname:=q,hasDict:=true,slotNames:=sn,subclasses:=sub,abstract:=ab,collection:=col,hasDel:=false}:=by
  unfold PySem.W.clsIn
  rw [l]
 refine ⟨_,h1,rfl,rfl,?_⟩
 show (K.lookup C).map (·.cls)=_
 rw [l]
 rfl
theorem u_ (X:XE K P C) (b:Value):PySem.W.mroIn K C b=some ((Value.ref C::.ref P::vX).contains b):=by
 obtain ⟨cd,h1,h2,_⟩:=zU X
 unfold PySem.W.mroIn
 rw [h1,Option.bind_some,h2]
 rfl
end
theorem GW {K:PySem.W.Frag}{P C:Addr}(X:XE K P C){T:String}(h1:PySem.W.kitMeta T=true) (h2:vX.contains (.type T)=false):PySem.W.kitOne K (.ref C) (.type T)=some false:=by
 unfold PySem.W.kitOne PySem.W.kitCls
 rw [if_neg (by simp)]
 simp only [h1,if_true]
 show PySem.W.mroIn K C _=_
 rw [u_ X,List.contains_cons,List.contains_cons,h2]
 rfl
theorem Ef {K:PySem.W.Frag}{C:Addr}{od:Option Obj}{name:Str}{a g:Value}(hc:(PySem.W.clsIn K C).isSome=true) (ha:PySem.W.findIn K (.ref C) name=some (some a)) (hg:PySem.W.specialIn K a "__get__"=some (some g)) (ht:PySem.W.takesIn K a=some true):PySem.W.findObj K C od name=some (.bind g a):=by
 obtain ⟨cd,hc⟩:=Option.isSome_iff_exists.mp hc
 unfold PySem.W.findObj
 rw [hc,Option.bind_some,ha,Option.bind_some]
 simp [hg,ht]
theorem BX {K:PySem.W.Frag}{e P C:Addr}(G:GX K P) (E:XE K P C):PySem.W.KitX K (.ref e) (.ref C) (fun h=>∃ox od,PySem.W.InstAt h e ox C od):=by
 obtain ⟨cd,hc,hm,hd,ht⟩:=zU E
 refine ⟨fun M h _ ⟨ox,od,I⟩=>I.type,fun M h X _=>?_,fun h tp dd its n sl X htp=>?_,fun X ⟨ox,od,I⟩ k=>?_⟩
 ·unfold PySem.W.clsIn at hc
  split at hc
  ·rename_i ho
   intro A' Q' E' s' k q
   unfold isType loadHead
   exact wpAny_bind (wpAny_loadPart (k _ _ (X _ _ ho)) (wpAny_pure q))
  ·cases hc
 ·refine Bool.eq_false_iff.mpr fun q=>?_
  obtain rfl:C=tp:=Value.ref.inj (beq_iff_eq.mp q)
  unfold PySem.W.clsIn at hc
  split at hc
  ·rename_i ho
   have z:=(X _ _ ho).symm.trans htp
   cases z
  ·cases hc
 ·exact get_class X I E.ga E.gt (by rw [u_ E];simp) (Ef (by rw [hc];rfl) E.cl G.gt G.tk) (by rw [u_ E];simp) k
end DX
namespace DL
open PySem PySem.Spec PyProof.Rows L2
inductive D where
 | non | bl (b:Bool) | int (i:Int) | str (x:Str) | tup (xs:List D) | lst (xs:List D) | emp
 | exn (cls:Str) (ns:List Str) (ds:List D)
def XF (J:Hp) (dx:Option Addr) (ns:List Str) (vs:List V):Prop:=(dx=none∧ns=[]∧vs=[])∨∃d,dx=some d∧ns.length=vs.length∧J d=some (.xd (ns.zip vs))
theorem XF.mono {J J':Hp}(e:a_ J J'){dx:Option Addr}{ns:List Str}{vs:List V}(h:XF J dx ns vs):XF J' dx ns vs:=by
 rcases h with h | ⟨d,h1,h2,h3⟩
 ·exact .inl h
 ·exact .inr ⟨d,h1,h2,e _ _ h3⟩
mutual
inductive Rep (K:PySem.W.Frag) (J:Hp):D→V→Prop
 | non:Rep K J .non .non
 | bl (b:Bool):Rep K J (.bl b) (.bl b)
 | int (i:Int):Rep K J (.int i) (.int i)
 | str (x:Str):Rep K J (.str x) (.str x)
 | emp {a:Addr}:J a=some (.dK [])→Rep K J .emp (.ref a)
 | tup {a:Addr}{vs:List V}{ds:List D}:cX K J a vs→aG K J ds vs→Rep K J (.tup ds) (.ref a)
 | lst {a:Addr}{vs:List V}{ds:List D}:cG K J a vs→aG K J ds vs→Rep K J (.lst ds) (.ref a)
 | exn {a C:Addr}{dx:Option Addr}{cls:Str}{ns:List Str}{vs:List V}{ds:List D}:J a=some (DX.XO a C dx)→PySem.W.nsIn K mainGlobals cls=some (some (.ref C))→XF J dx ns vs→aG K J ds vs→(∃P,DX.GX K P∧DX.XE K P C)→Rep K J (.exn cls ns ds) (.ref a)
inductive aG (K:PySem.W.Frag) (J:Hp):List D→List V→Prop
 | nil:aG K J [] []
 | cons {d:D}{v:V}{ds:List D}{vs:List V}:Rep K J d v→aG K J ds vs→aG K J (d::ds) (v::vs)
end
theorem eB {K:PySem.W.Frag}{H H':Hp}{a:Addr}{xs:List V}(e:a_ H H') (h:cX K H a xs):cX K H' a xs:=by
 rcases h with (h | ⟨o,h⟩) | h
 ·exact .inl (.inl (e _ _ h))
 ·exact .inl (.inr ⟨o,e _ _ h⟩)
 ·exact .inr h
mutual
theorem Rep.mono {K:PySem.W.Frag}{J J':Hp}(e:a_ J J'):∀{d:D}{v:V},Rep K J d v→Rep K J' d v
 | _,_,.non=>.non
 | _,_,.bl b=>.bl b
 | _,_,.int i=>.int i
 | _,_,.str x=>.str x
 | _,_,.emp h=>.emp (e _ _ h)
 | _,_,.tup h hs=>.tup (eB e h) (aG.mono e hs)
 | _,_,.lst h hs=>.lst (e.seq h) (aG.mono e hs)
 | _,_,.exn h1 h2 h3 hs hx=>.exn (e _ _ h1) h2 (h3.mono e) (aG.mono e hs) hx
theorem aG.mono {K:PySem.W.Frag}{J J':Hp}(e:a_ J J'):∀{ds:List D}{vs:List V},aG K J ds vs→aG K J' ds vs
 | _,_,.nil=>.nil
 | _,_,.cons h hs=>.cons (Rep.mono e h) (aG.mono e hs)
end
section
variable {K:PySem.W.Frag}{J:Hp}
theorem aG.length:∀{ds:List D}{vs:List V},aG K J ds vs→ds.length=vs.length
 | _,_,.nil=>rfl
 | _,_,.cons _ hs=>congrArg (· + 1) (aG.length hs)
theorem aG.get:∀{ds:List D}{vs:List V}{i:Nat}{d:D},aG K J ds vs→ds[i]?=some d→∃v,vs[i]?=some v∧Rep K J d v
 | _,_,_,_,.nil,e=>by simp at e
 | _,_,0,_,.cons r _,e=>by simp at e;subst e;exact ⟨_,rfl,r⟩
 | _,_,i + 1,d,.cons _ t,e=>by
  obtain ⟨v,h1,h2⟩:=aG.get (i:=i) (d:=d) t (by simpa using e)
  exact ⟨v,by simpa using h1,h2⟩
theorem aG.append:∀{ds es:List D}{vs us:List V},aG K J ds vs→aG K J es us→aG K J (ds++es) (vs++us)
 | _,_,_,_,.nil,s=>s
 | _,_,_,_,.cons r t,s=>.cons r (aG.append t s)
theorem aG.take:∀{ds:List D}{vs:List V}(n:Nat),aG K J ds vs→aG K J (ds.take n) (vs.take n)
 | _,_,0,_=>.nil
 | _,_,_ + 1,.nil=>.nil
 | _,_,n + 1,.cons r t=>.cons r (aG.take n t)
theorem aG.drop:∀{ds:List D}{vs:List V}(n:Nat),aG K J ds vs→aG K J (ds.drop n) (vs.drop n)
 | _,_,0,r=>r
 | _,_,_ + 1,.nil=>.nil
 | _,_,n + 1,.cons _ t=>aG.drop n t
end
structure Exc where
 cls:Str
 ns:List Str
 ds:List D
inductive M (α:Type) where
 | bad | ok (a:α) | exc (x:Exc)
def M.bind {α β:Type}:M α→(α→M β)→M β
 | .bad,_=>.bad
 | .ok a,f=>f a
 | .exc x,_=>.exc x
instance:Monad M where
 pure:=M.ok
 bind:=M.bind
@[simp] theorem aU {α β:Type}(a:α) (f:α→M β):(M.ok a >>= f)=f a:=rfl
def cA {α:Type}(m:M α) (Q:α→Prop) (T:Exc→Prop):Prop:=match m with
 | .bad=>False
 | .ok a=>Q a
 | .exc x=>T x
theorem aL {α β:Type}{m:M α}{f:α→M β}{Q:β→Prop}{T:Exc→Prop}(h:cA (m >>= f) Q T):cA m (fun a=>cA (f a) Q T) T:=by
 cases m with
 | bad=>exact h
 | ok a=>exact h
 | exc x=>exact h
theorem aB {α:Type}{m:M α}{Q Q':α→Prop}{T:Exc→Prop}(h:cA m Q T) (k:∀a,Q a→Q' a):cA m Q' T:=by
 cases m with
 | bad=>exact h
 | ok a=>exact k a h
 | exc x=>exact h
inductive Md where
 | fresh | own | bor
inductive R where
 | d (x:D) | l (m:Md) (xs:List D)
inductive S where
 | d (x:D) | own (xs:List D) | bor (xs:List D)
abbrev Ev:=List (Option S)
structure C where
 K:PySem.W.Frag
 H0:Hp
 J0:Hp
 T:Exc→Prop
structure HI (c:C) (J H:Hp):Prop where
 sub:a_ J H
 ent:a_ c.H0 H
 entJ:a_ c.J0 J
 frz:∀a,c.H0 a≠none→c.J0 a=none→J a=none
structure Ext (J H J' H':Hp):Prop where
 h:a_ H H'
 j:a_ J J'
 sub:a_ J' H'
 frz:∀a,H a≠none→J a=none→J' a=none
theorem a_.ne {H H':Hp}(e:a_ H H'){a:Addr}(h:H a≠none):H' a≠none:=by
 cases q:H a with
 | none=>exact absurd q h
 | some o=>rw [e a o q];intro z;cases z
theorem Ext.refl {J H:Hp}(h:a_ J H):Ext J H J H:=⟨a_.refl H,a_.refl J,h,fun _ _ q=>q⟩
theorem Ext.trans {J H J1 H1 J2 H2:Hp}(a:Ext J H J1 H1) (b:Ext J1 H1 J2 H2):Ext J H J2 H2:=
 ⟨a.h.trans b.h,a.j.trans b.j,b.sub,fun p h q=>b.frz p (a_.ne a.h h) (a.frz p h q)⟩
theorem HI.ext {c:C}{J H J' H':Hp}(h:HI c J H) (e:Ext J H J' H'):HI c J' H':=
 ⟨e.sub,h.ent.trans e.h,h.entJ.trans e.j,fun a h0 j0=>e.frz a (a_.ne h.ent h0) (h.frz a h0 j0)⟩
theorem fR {H:Hp}{p:Addr}(h:H p=none) (o:HO):a_ H (upd H p o):=fun b u q=>by rw [br (dB q h)];exact q
theorem Ext.new {J H:Hp}(h:a_ J H){p:Addr}(e:H p=none) (o:HO):Ext J H J (upd H p o):=
 ⟨fR e o,a_.refl J,fun b u q=>fR e o b u (h b u q),fun _ _ q=>q⟩
theorem Ext.newJ {J H:Hp}(h:a_ J H){p:Addr}(e:H p=none) (o:HO):Ext J H (upd J p o) (upd H p o):=
 ⟨fR e o,fR (h.free e) o,fun b u q=>by
  by_cases hb:b=p
  ·subst hb;rw [bS] at q ⊢;exact q
  ·rw [br hb] at q ⊢;exact h b u q,fun a ha q=>by
  have:a≠p:=fun z=>ha (z▸e)
  rw [br this];exact q⟩
def oR (c:C) (J H:Hp):S→V→Prop
 | .d x,v=>Rep c.K J x v
 | .own xs,v=>∃a vs,v=.ref a∧H a=some (.lst vs)∧J a=none∧c.H0 a=none∧aG c.K J xs vs
 | .bor xs,v=>∃a vs,v=.ref a∧cG c.K c.H0 a vs∧aG c.K J xs vs
theorem oR.ext {c:C}{J H J' H':Hp}(e:Ext J H J' H'):∀{x:S}{v:V},oR c J H x v→oR c J' H' x v
 | .d x,v,h=>Rep.mono e.j h
 | .own xs,v,⟨a,vs,h1,h2,h3,h4,h5⟩=>⟨a,vs,h1,e.h _ _ h2,e.frz a (by rw [h2];intro z;cases z) h3,h4,aG.mono e.j h5⟩
 | .bor xs,v,⟨a,vs,h1,h2,h3⟩=>⟨a,vs,h1,h2,aG.mono e.j h3⟩
structure SR (c:C) (J H:Hp) (σ:L2.St) (env:Ev):Prop where
 hp:HI c J H
 len:env.length=σ.length
 at_:∀(i:Nat) (x:S),env[i]?=some (some x)→∃v,σ[i]?=some (some v)∧oR c J H x v
 sep:∀(i j:Nat) (xs ys:List D) (v:V),i≠j→env[i]?=some (some (.own xs))→env[j]?=some (some (.own ys))→σ[i]?=some (some v)→σ[j]?≠some (some v)
theorem SR.ext {c:C}{J H J' H':Hp}{σ:L2.St}{env:Ev}(h:SR c J H σ env) (e:Ext J H J' H'):SR c J' H' σ env:=
 ⟨h.hp.ext e,h.len,fun i x q=>let ⟨v,q1,q2⟩:=h.at_ i x q;⟨v,q1,q2.ext e⟩,h.sep⟩
def RR (c:C) (He J H:Hp):R→V→Prop
 | .d x,v=>Rep c.K J x v
 | .l .fresh xs,v=>∃a vs,v=.ref a∧H a=some (.lst vs)∧J a=none∧He a=none∧aG c.K J xs vs
 | .l .own xs,v=>∃a vs,v=.ref a∧H a=some (.lst vs)∧J a=none∧c.H0 a=none∧aG c.K J xs vs
 | .l .bor xs,v=>∃a vs,v=.ref a∧cG c.K c.H0 a vs∧aG c.K J xs vs
theorem RR.ext {c:C}{He J H J' H':Hp}(e:Ext J H J' H'):∀{x:R}{v:V},RR c He J H x v→RR c He J' H' x v
 | .d x,v,h=>Rep.mono e.j h
 | .l .fresh xs,v,⟨a,vs,h1,h2,h3,h4,h5⟩=>⟨a,vs,h1,e.h _ _ h2,e.frz a (by rw [h2];intro z;cases z) h3,h4,aG.mono e.j h5⟩
 | .l .own xs,v,⟨a,vs,h1,h2,h3,h4,h5⟩=>⟨a,vs,h1,e.h _ _ h2,e.frz a (by rw [h2];intro z;cases z) h3,h4,aG.mono e.j h5⟩
 | .l .bor xs,v,⟨a,vs,h1,h2,h3⟩=>⟨a,vs,h1,h2,aG.mono e.j h3⟩
theorem RR.from {c:C}{He He' J H:Hp}(e:a_ He He'):∀{x:R}{v:V},RR c He' J H x v→RR c He J H x v
 | .d x,v,h=>h
 | .l .fresh xs,v,⟨a,vs,h1,h2,h3,h4,h5⟩=>⟨a,vs,h1,h2,h3,e.free h4,h5⟩
 | .l .own xs,v,h=>h
 | .l .bor xs,v,h=>h
def jW:R→M (List D)
 | .d (.lst xs)=>.ok xs
 | .l _ xs=>.ok xs
 | _=>.bad
def toD:R→M D
 | .d x=>.ok x
 | .l .fresh xs=>.ok (.lst xs)
 | _=>.bad
theorem RR.list {c:C}{He J H:Hp}(hp:HI c J H):∀{r:R}{v:V}{xs:List D},RR c He J H r v→jW r=.ok xs→∃a vs,v=.ref a∧cG c.K H a vs∧aG c.K J xs vs
 | .d (.lst ys),v,xs,h,e=>by
  cases e
  cases h with
  | lst h hs=>exact ⟨_,_,rfl,hp.sub.seq h,hs⟩
 | .l .fresh ys,v,xs,⟨a,vs,h1,h2,h3,h4,h5⟩,e=>by cases e;exact ⟨a,vs,h1,cG.of h2,h5⟩
 | .l .own ys,v,xs,⟨a,vs,h1,h2,h3,h4,h5⟩,e=>by cases e;exact ⟨a,vs,h1,cG.of h2,h5⟩
 | .l .bor ys,v,xs,⟨a,vs,h1,h2,h3⟩,e=>by cases e;exact ⟨a,vs,h1,hp.ent.seq h2,h3⟩
 | .d .non,_,_,_,e=>nomatch e
 | .d (.bl _),_,_,_,e=>nomatch e
 | .d (.int _),_,_,_,e=>nomatch e
 | .d (.str _),_,_,_,e=>nomatch e
 | .d (.tup _),_,_,_,e=>nomatch e
 | .d .emp,_,_,_,e=>nomatch e
theorem freeze {c:C}{Je He J H:Hp}(x:Ext Je He J H):∀{r:R}{v:V}{d:D},RR c He J H r v→toD r=.ok d→∃J',Ext Je He J' H∧a_ J J'∧Rep c.K J' d v
 | .d y,v,d,h,e=>by cases e;exact ⟨J,x,a_.refl J,h⟩
 | .l .fresh ys,v,d,⟨a,vs,h1,h2,h3,h4,h5⟩,e=>by
  cases e
  subst h1
  have s1:a_ J (upd J a (.lst vs)):=fR h3 _
  refine ⟨upd J a (.lst vs),⟨x.h,x.j.trans s1,fun b u q=>?_,fun b hb q=>?_⟩,s1,.lst (.inl (.inl bS)) (aG.mono s1 h5)⟩
  ·by_cases hb:b=a
   ·subst hb;rw [bS] at q;cases q;exact h2
   ·rw [br hb] at q;exact x.sub b u q
  ·have:b≠a:=fun z=>hb (z▸h4)
   rw [br this];exact x.frz b hb q
 | .l .own _,_,_,_,e=>nomatch e
 | .l .bor _,_,_,_,e=>nomatch e
abbrev G (α:Type):=Ev→M α
def tD (c:C) (g:G R):TE:=fun σ H Q=>∃J env,SR c J H σ env∧cA (g env) (fun r=>∀v J' H',Ext J H J' H'→RR c H J' H' r v→Q v H') c.T
def PD (X:Cx) (c:C) (e:Expr) (g:G R):Prop:=PE X e (tD c g)
def tB (c:C) (g:G Bool):TT:=fun σ H Q=>∃J env,SR c J H σ env∧cA (g env) (fun b=>∀J' H',Ext J H J' H'→Q b H') c.T
def PB (X:Cx) (c:C) (e:Expr) (g:G Bool):Prop:=PT X e (tB c g)
def jG (c:C) (He J H:Hp):List R→List V→Prop
 | [],vs=>vs=[]
 | r::rs,vs=>∃v us,vs=v::us∧RR c He J H r v∧jG c He J H rs us
def tA (c:C) (g:G (List R)):TA:=fun σ H Q=>∃J env,SR c J H σ env∧cA (g env) (fun rs=>∀vs J' H',Ext J H J' H'→jG c H J' H' rs vs→Q vs H') c.T
def iy (X:Cx) (c:C) (es:List Expr) (g:G (List R)):Prop:=PA X es (tA c g)
def Lo (c:C) (g:G (List D)):TA:=fun σ H Q=>∃J env,SR c J H σ env∧cA (g env) (fun ds=>∀vs J' H',Ext J H J' H'→aG c.K J' ds vs→Q vs H') c.T
def wW (X:Cx) (c:C) (es:List Expr) (g:G (List D)):Prop:=PA X es (Lo c g)
inductive O where
 | nx (e:Ev) | rt (r:R) | bk (e:Ev) | ct (e:Ev)
def RF (c:C) (J H:Hp):R→V→Prop
 | .d x,v=>Rep c.K J x v
 | .l _ xs,v=>∃a vs,v=.ref a∧H a=some (.lst vs)∧J a=none∧c.H0 a=none∧aG c.K J xs vs
def oP (c:C) (J:Hp) (E:Ends):O→Prop
 | .nx e=>∀σ' J' H',a_ J J'→SR c J' H' σ' e→E.nx σ' H'
 | .rt r=>∀v J' H',a_ J J'→HI c J' H'→RF c J' H' r v→E.rt v H'
 | .bk e=>∀σ' J' H',a_ J J'→SR c J' H' σ' e→E.bk σ' H'
 | .ct e=>∀σ' J' H',a_ J J'→SR c J' H' σ' e→E.ct σ' H'
def tS (c:C) (g:G O):TS:=fun E σ H=>∃J env,SR c J H σ env∧cA (g env) (oP c J E) c.T
def gP (X:Cx) (c:C) (st:Stmt) (g:G O):Prop:=PS X st (tS c g)
def l_ (X:Cx) (c:C) (st:List Stmt) (g:G O):Prop:=jj X st (tS c g)
theorem oP.mono {c:C}{J J1:Hp}{E:Ends}(e:a_ J J1):∀{o:O},oP c J E o→oP c J1 E o
 | .nx _,h=>fun σ' J' H' q r=>h σ' J' H' (e.trans q) r
 | .rt _,h=>fun σ' J' H' q r=>h σ' J' H' (e.trans q) r
 | .bk _,h=>fun σ' J' H' q r=>h σ' J' H' (e.trans q) r
 | .ct _,h=>fun σ' J' H' q r=>h σ' J' H' (e.trans q) r
theorem fP {X:Cx}{e:Expr}{t t':TE}(h:PE X e t) (k:∀σ H Q,t' σ H Q→t σ H Q):PE X e t':=fun pins s σ H Q I q=>h pins s σ H Q I (k σ H Q q)
theorem t_ {X:Cx}{e:Expr}{t t':TT}(h:PT X e t) (k:∀σ H Q,t' σ H Q→t σ H Q):PT X e t':=fun pins s σ H Q I q=>h pins s σ H Q I (k σ H Q q)
theorem t9 {X:Cx}{es:List Expr}{t t':TA}(h:PA X es t) (k:∀σ H Q,t' σ H Q→t σ H Q):PA X es t':=fun pos pins s σ H Q I q=>h pos pins s σ H Q I (k σ H Q q)
theorem g9 {X:Cx}{st:Stmt}{t t':TS}(h:PS X st t) (k:∀D σ H,t' D σ H→t D σ H):PS X st t':=fun pins s σ H D I q=>h pins s σ H D I (k D σ H q)
theorem AR {X:Cx}{st:List Stmt}{t t':TS}(h:jj X st t) (k:∀D σ H,t' D σ H→t D σ H):jj X st t':=fun pins s σ H D I q=>h pins s σ H D I (k D σ H q)
section
variable {X:Cx}{c:C}{e a b:Expr}{ga gb:G R}{pos:Pos}
def S.rd:S→R
 | .d x=>.d x
 | .own xs=>.l .own xs
 | .bor xs=>.l .bor xs
def af (i:Nat):G R:=fun env=>match env[i]? with
 | some (some x)=>.ok x.rd
 | _=>.bad
theorem oR.rd {He J H:Hp}:∀{x:S}{v:V},oR c J H x v→RR c He J H x.rd v
 | .d _,_,h=>h
 | .own _,_,h=>h
 | .bor _,_,h=>h
theorem EX {x:Str}{i:Nat}(h:PE X (.Name x pos) (IF i)):PD X c (.Name x pos) (af i):=fP h fun σ H Q ⟨J,env,sr,w⟩=>by
 unfold af at w
 cases q:env[i]? with
 | none=>rw [q] at w;exact w.elim
 | some o=>
  cases o with
  | none=>rw [q] at w;exact w.elim
  | some x=>
   rw [q] at w
   obtain ⟨v,h1,h2⟩:=sr.at_ i x q
   exact ⟨v,h1,w v J H (Ext.refl sr.hp.sub) h2.rd⟩
theorem HD (i:Nat){x:Str}(hN:X.N[i]?=some x:=by rfl) (hv:kC X.env.scope x:=by first | exact Or.inl rfl | exact Or.inr (Or.inl rfl) | exact Or.inr (Or.inr rfl)) (hd:(x == ("__debug__":Str))=false:=by decide)
  (hcd:(x == ("__classdict__":Str))=false:=by decide):PD X c (.Name x pos) (af i):=EX (nD hN hv hd hcd)
def gC (d:D):G R:=fun _=>.ok (.d d)
theorem qi {d:D}{v:V}(hr:∀J,Rep c.K J d v) (h:PE X e (tC v)):PD X c e (gC d):=fP h fun σ H Q ⟨J,env,sr,w⟩=>w v J H (Ext.refl sr.hp.sub) (hr J)
theorem Hq {i:Int}{j:Nat}:PD X c (.Constant (.int i) j pos) (gC (.int i)):=qi (fun _=>.int i) HG
theorem Jv {i:Bool}{j:Nat}:PD X c (.Constant (.bool i) j pos) (gC (.bl i)):=qi (fun _=>.bl i) JA
theorem Hw {j:Nat}:PD X c (.Constant .none j pos) (gC .non):=qi (fun _=>.non) HJ
theorem HA {x:Str}{j:Nat}:PD X c (.Constant (.str x) j pos) (gC (.str x)):=qi (fun _=>.str x) HN
def BD (c:C) (r:R2) (f:R→R→M R):Prop:=∀(He He' J H:Hp) (x y:R) (u v:V) (Q:VK),HI c J H→RR c He J H x u→RR c He' J H y v→
 cA (f x y) (fun z=>∀w J' H',Ext J H J' H'→RR c H J' H' z w→Q w H') c.T→r u v H Q
def g2 (f:R→R→M R) (ga gb:G R):G R:=fun env=>ga env >>= fun x=>gb env >>= fun y=>f x y
theorem two {P:R→R→M R}{σ:L2.St}{H:Hp}{k:V→V→Hp→Prop}{Q:VK}{J:Hp}{env:Ev}(sr:SR c J H σ env)
  (w:cA (g2 P ga gb env) (fun r=>∀v J' H',Ext J H J' H'→RR c H J' H' r v→Q v H') c.T)
  (hk:∀x y u v J2 H2,SR c J2 H2 σ env→Ext J H J2 H2→RR c H J2 H2 x u→RR c H J2 H2 y v→cA (P x y) (fun z=>∀w J' H',Ext J2 H2 J' H'→RR c H2 J' H' z w→Q w H') c.T→k u v H2):
  tD c ga σ H fun u H1=>tD c gb σ H1 fun v H2=>k u v H2:=by
 refine ⟨J,env,sr,aB (aL w) fun x wx u J1 H1 e1 r1=>?_⟩
 have sr1:=sr.ext e1
 refine ⟨J1,env,sr1,aB (aL wx) fun y wy v J2 H2 e2 r2=>?_⟩
 exact hk x y u v J2 H2 (sr1.ext e2) (e1.trans e2) (r1.ext e2) (RR.from e1.h r2) (aB wy fun z q w J' H' e3 r3=>q w J' H' ((e1.trans e2).trans e3) (RR.from (e1.h.trans e2.h) r3))
theorem Cr {t:TE}{r:R2}{f:R→R→M R}(ht:PE X e t) (heq:t=A_ r (tD c ga) (tD c gb)) (hf:BD c r f):PD X c e (g2 f ga gb):=by
 subst heq
 exact fP ht fun σ H Q ⟨J,env,sr,w⟩=>two (k:=fun u v H2=>r u v H2 Q) sr w fun x y u v J2 H2 sr2 e2 r1 r2 q=>hf H H J2 H2 x y u v Q sr2.hp r1 r2 q
theorem lK {op:Operator}{r:R2}{f:R→R→M R}(ho:dg X (binaryOp op) r) (hf:BD c r f) (ha:PD X c a ga) (hb:PD X c b gb):PD X c (.BinOp a op b pos) (g2 f ga gb):=Cr (JC ho ha hb) rfl hf
theorem AH {op:CmpOp}{r:R2}{f:R→R→M R}(ho:dg X (compareOp op) r) (hf:BD c r f) (ha:PD X c a ga) (hb:PD X c b gb) (hm:behindInMarks op b=false:=by first | exact ve _ | rfl):PD X c (.Compare a [op] [b] pos) (g2 f ga gb):=Cr (E3 ho ha hb hm) rfl hf
theorem Jy {r:R2}{f:R→R→M R}(ho:oA X r) (hf:BD c r f) (ha:PD X c a ga) (hb:PD X c b gb) (hs:nQ b:=by exact fun _ _=>rfl):PD X c (.Subscript a b pos) (g2 f ga gb):=Cr (JB ho ha hb hs) rfl hf
theorem BD.or {r r':R2}{f f':R→R→M R}(p:R→R→Bool) (h:BD c r f) (h':BD c r' f'):BD c (fun x y H Q=>r x y H Q∨r' x y H Q) (fun x y=>if p x y then f x y else f' x y):=by
 intro He He' J H x y u v Q hp rx ry w
 simp only at w
 cases q:p x y with
 | true=>rw [q] at w;exact .inl (h He He' J H x y u v Q hp rx ry w)
 | false=>rw [q] at w;exact .inr (h' He He' J H x y u v Q hp rx ry w)
def fI (C:Int→Int→Bool) (f:Int→Int→D):R→R→M R
 | .d (.int i),.d (.int j)=>if C i j then .ok (.d (f i j)) else .bad
 | _,_=>.bad
def j4 (f:Int→Int→D):R→R→M R
 | .d (.int i),.d (.int j)=>.ok (.d (f i j))
 | _,_=>.bad
theorem uH {P:Int→Int→Prop}{Cb:Int→Int→Bool}{g:Int→Int→V}{f:Int→Int→D}(hC:∀i j,Cb i j=true→P i j) (hr:∀i j J,Rep c.K J (f i j) (g i j)):BD c (rI P g) (fI Cb f):=by
 intro He He' J H x y u v Q hp rx ry w
 unfold fI at w
 split at w
 ·cases rx;cases ry
  rename_i i j
  cases q:Cb i j with
  | true=>rw [q] at w;exact ⟨i,j,rfl,rfl,hC i j q,w _ J H (Ext.refl hp.sub) (hr i j J)⟩
  | false=>rw [q] at w;exact w.elim
 ·exact w.elim
theorem gY {g:Int→Int→V}{f:Int→Int→D}(hr:∀i j J,Rep c.K J (f i j) (g i j)):BD c (nI g) (j4 f):=by
 intro He He' J H x y u v Q hp rx ry w
 unfold j4 at w
 split at w
 ·cases rx;cases ry
  rename_i i j
  exact ⟨i,j,rfl,rfl,w _ J H (Ext.refl hp.sub) (hr i j J)⟩
 ·exact w.elim
def below (n:Nat) (j:Int):Bool:=Nat.blt j.natAbs n
theorem dG {n:Nat}{j:Int}:below n j=true↔-(n:Int) < j∧j < n:=by
 unfold below
 rw [Nat.blt_eq]
 omega
def yL (_ j:Int):Bool:=decide (0 < j) && below 1073741824 j
def GP (_ j:Int):Bool:=decide (0 < j)
def o8 (i j:Int):Bool:=below 18446744073709551616 i || below 18446744073709551616 j
theorem xB {i j:Int}(h:o8 i j=true):(-(2 ^ 64) < i∧i < 2 ^ 64)∨(-(2 ^ 64) < j∧j < 2 ^ 64):=by
 unfold o8 at h
 rw [Bool.or_eq_true] at h
 exact h.imp dG.mp dG.mp
theorem Ep {i j:Int}(h:yL i j=true):0 < j∧j < 1073741824:=by
 unfold yL at h
 rw [Bool.and_eq_true] at h
 exact ⟨of_decide_eq_true h.1,(dG.mp h.2).2⟩
def BV (i j:Int):Bool:=decide (0≤j) && below 1000001 j && below 18446744073709551616 i
theorem Er {i j:Int}(h:BV i j=true):0≤j∧j≤1000000∧i.natAbs < 2 ^ 64:=by
 unfold BV at h
 rw [Bool.and_eq_true,Bool.and_eq_true] at h
 have h2:=dG.mp h.1.2
 have h3:=dG.mp h.2
 exact ⟨of_decide_eq_true h.1.1,by omega,by omega⟩
abbrev qW:R→R→M R:=j4 fun i j=>.int (i + j)
abbrev mV:R→R→M R:=j4 fun i j=>.int (i - j)
abbrev oV:R→R→M R:=fI o8 fun i j=>.int (i * j)
abbrev gT:R→R→M R:=fI yL fun i j=>.int (i / j)
abbrev eF:R→R→M R:=fI GP fun i j=>.int (i % j)
abbrev BL:R→R→M R:=fI BV fun i j=>.int (i ^ j.toNat)
theorem HB (ha:PD X c a ga) (hb:PD X c b gb):PD X c (.BinOp a .Sub b pos) (g2 mV ga gb):=lK G6 (gY fun _ _ _=>.int _) ha hb
theorem Hl (ha:PD X c a ga) (hb:PD X c b gb):PD X c (.BinOp a .FloorDiv b pos) (g2 gT ga gb):=lK EF (uH (fun i j h=>Ep h) fun _ _ _=>.int _) ha hb
theorem Hu (ha:PD X c a ga) (hb:PD X c b gb):PD X c (.BinOp a .Mod b pos) (g2 eF ga gb):=lK G2 (uH (fun i j h=>by unfold GP at h;exact of_decide_eq_true h) fun _ _ _=>.int _) ha hb
theorem Hy (ha:PD X c a ga) (hb:PD X c b gb):PD X c (.BinOp a .Pow b pos) (g2 BL ga gb):=lK G5 (uH (fun i j h=>Er h) fun _ _ _=>.int _) ha hb
def pP:R→R→M R
 | .d (.str i),.d (.str j)=>if i.length + j.length≤sizeLine then .ok (.d (.str (i++j))) else .bad
 | _,_=>.bad
theorem FA {K:PySem.W.Frag}{J:Hp}{ds:List D}{vs:List V}{i:Int}{d:D}(h:aG K J ds vs) (e:jX ds i=some d):∃v,jX vs i=some v∧Rep K J d v:=by
 unfold jX at e ⊢
 rw [h.length] at e
 cases q:mE vs.length i with
 | none=>rw [q] at e;cases e
 | some j=>rw [q] at e;exact h.get e
theorem om {x:R}{f:List D→M R}{Q:R→Prop}{T:Exc→Prop}(w:cA (jW x >>= f) Q T):∃xs,jW x=.ok xs∧cA (f xs) Q T:=by
 cases q:jW x with
 | bad=>rw [q] at w;exact w.elim
 | ok xs=>rw [q] at w;exact ⟨xs,rfl,w⟩
 | exc z=>unfold jW at q;split at q <;> cases q
def uZ:R→Bool
 | .l .fresh _=>true
 | .l .own _=>true
 | _=>false
def pQ (x y:R):M R:=if uZ x && uZ y then jW x >>= fun xs=>jW y >>= fun ys=>if xs.length + ys.length≤sizeLine then .ok (.l .fresh (xs++ys)) else .bad else .bad
theorem RR.made {He J H:Hp}:∀{r:R}{v:V},uZ r=true→RR c He J H r v→∃a vs xs,jW r=.ok xs∧v=.ref a∧H a=some (.lst vs)∧aG c.K J xs vs
 | .l .fresh xs,v,_,⟨a,vs,h1,h2,h3,h4,h5⟩=>⟨a,vs,xs,rfl,h1,h2,h5⟩
 | .l .own xs,v,_,⟨a,vs,h1,h2,h3,h4,h5⟩=>⟨a,vs,xs,rfl,h1,h2,h5⟩
 | .l .bor _,_,e,_=>nomatch e
 | .d _,_,e,_=>nomatch e
theorem gW {J H:Hp}{xs:List D}{vs:List V}{p:Addr}(hp:HI c J H) (e:H p=none) (h:aG c.K J xs vs):RR c H J (upd H p (.lst vs)) (.l .fresh xs) (.ref p):=
 ⟨p,vs,rfl,bS,hp.sub.free e,e,h⟩
def CD (c:C) (r:List V→Hp→VK→Prop) (f:List R→M R):Prop:=∀(He J H:Hp) (xs:List R) (vs:List V) (Q:VK),HI c J H→jG c He J H xs vs→
 cA (f xs) (fun z=>∀w J' H',Ext J H J' H'→RR c H J' H' z w→Q w H') c.T→r vs H Q
def gN (f:List R→M R) (gs:G (List R)):G R:=fun env=>gs env >>= f
theorem Cs {t:TE}{ta:TA}{r:List V→Hp→VK→Prop}{f:List R→M R}{gs:G (List R)}(ht:PE X e t) (heq:t=fun σ H Q=>tA c gs σ H fun vs H1=>r vs H1 Q) (hf:CD c r f):PD X c e (gN f gs):=by
 subst heq
 refine fP ht fun σ H Q ⟨J,env,sr,w⟩=>⟨J,env,sr,aB (aL w) fun rs w vs J1 H1 e1 r1=>?_⟩
 exact hf H J1 H1 rs vs Q (sr.hp.ext e1) r1 (aB w fun z q v J' H' e2 r2=>q v J' H' (e1.trans e2) (RR.from e1.h r2))
def aE:G (List R):=fun _=>.ok []
def ao (g:G R) (gs:G (List R)):G (List R):=fun env=>g env >>= fun x=>gs env >>= fun xs=>.ok (x::xs)
theorem EI:iy X c [] aE:=t9 jg fun σ H Q ⟨J,env,sr,w⟩=>w [] J H (Ext.refl sr.hp.sub) rfl
theorem jG.from {He He' J H:Hp}(e:a_ He He'):∀{xs:List R}{vs:List V},jG c He' J H xs vs→jG c He J H xs vs
 | [],_,h=>h
 | _::_,_,⟨v,us,h1,h2,h3⟩=>⟨v,us,h1,RR.from e h2,jG.from e h3⟩
theorem Ck {es:List Expr}{g:G R}{gs:G (List R)}(h:PD X c e g) (hs:iy X c es gs) (hst:starEach (e::es) X.env=(false,eval e X.env)::starEach es X.env:=by rfl):iy X c (e::es) (ao g gs):=
 t9 (gG h hs hst) fun σ H Q ⟨J,env,sr,w⟩=>by
  refine ⟨J,env,sr,aB (aL w) fun x wx u J1 H1 e1 r1=>?_⟩
  refine ⟨J1,env,sr.ext e1,aB (aL wx) fun xs wy us J2 H2 e2 r2=>?_⟩
  exact wy (u::us) J2 H2 (e1.trans e2) ⟨u,us,rfl,r1.ext e2,jG.from e1.h r2⟩
theorem lJ {id:String}{x:Str}{p:Pos}{es:List Expr}{r:List V→Hp→VK→Prop}{f:List R→M R}{gs:G (List R)}(hc:bP X (.builtin id) r) (hf:CD c r f) (hv:bootBuiltins x=some (.builtin id)) (hm:X.mg x=none) (ha:iy X c (e::es) gs)
  (hg:Gl X x:=by rfl) (hn:x≠"__name__":=by decide) (hdb:(x == ("__debug__":Str))=false:=by decide)
  (he:starEach (e::es) X.env=(false,eval e X.env)::starEach es X.env:=by rfl) (hpl:(backTo pos (starEach es X.env)).any (·.1)=false:=by rfl):PD X c (.Call (.Name x p) (e::es) [] pos) (gN f gs):=
 Cs (ta:=zh) (o9 hc hg hm hv ha hn hdb he hpl) rfl hf
theorem r6 {T:String}{x:Str}{p:Pos}{es:List Expr}{r:List V→Hp→VK→Prop}{f:List R→M R}{gs:G (List R)}(hc:bP X (.type T) r) (hf:CD c r f) (hv:bootBuiltins x=some (.type T)) (hm:X.mg x=none) (ha:iy X c (e::es) gs)
  (hg:Gl X x:=by rfl) (hn:x≠"__name__":=by decide) (hdb:(x == ("__debug__":Str))=false:=by decide)
  (he:starEach (e::es) X.env=(false,eval e X.env)::starEach es X.env:=by rfl) (hpl:(backTo pos (starEach es X.env)).any (·.1)=false:=by rfl):PD X c (.Call (.Name x p) (e::es) [] pos) (gN f gs):=
 Cs (ta:=zh) (j9 hc hg hm hv ha hn hdb he hpl) rfl hf
end
section
variable {X:Cx}{c:C}{e a b:Expr}{es:List Expr}{ga gb g:G R}{pos:Pos}
def aR:G (List D):=fun _=>.ok []
def aA (g:G R) (gs:G (List D)):G (List D):=fun env=>g env >>= fun x=>toD x >>= fun d=>gs env >>= fun ds=>.ok (d::ds)
theorem EJ:wW X c [] aR:=t9 jg fun σ H Q ⟨J,env,sr,w⟩=>w [] J H (Ext.refl sr.hp.sub) .nil
theorem jE {α:Type}{x:R}{f:D→M α}{Q:α→Prop}{T:Exc→Prop}(w:cA (toD x >>= f) Q T):∃d,toD x=.ok d∧cA (f d) Q T:=by
 cases q:toD x with
 | bad=>rw [q] at w;exact w.elim
 | ok xs=>rw [q] at w;exact ⟨xs,rfl,w⟩
 | exc z=>unfold toD at q;split at q <;> cases q
theorem Cm {gs:G (List D)}(h:PD X c e g) (hs:wW X c es gs) (hst:starEach (e::es) X.env=(false,eval e X.env)::starEach es X.env:=by rfl):wW X c (e::es) (aA g gs):=
 t9 (gG h hs hst) fun σ H Q ⟨J,env,sr,w⟩=>by
  refine ⟨J,env,sr,aB (aL w) fun x wx u J1 H1 e1 r1=>?_⟩
  obtain ⟨d,q,wx⟩:=jE wx
  obtain ⟨J1',e1',s1,rd⟩:=freeze e1 r1 q
  refine ⟨J1',env,sr.ext e1',aB (aL wx) fun xs wy us J2 H2 e2 r2=>?_⟩
  exact wy (u::us) J2 H2 (e1'.trans e2) (.cons (rd.mono e2.j) r2)
def bC (gs:G (List D)):G R:=fun env=>gs env >>= fun ds=>if ds.length≤sizeLine then .ok (.d (.tup ds)) else .bad
def fB (gs:G (List D)):G R:=fun env=>gs env >>= fun ds=>if ds.length≤sizeLine then .ok (.l .fresh ds) else .bad
theorem nL {J H:Hp}{xs:List D}{vs:List V}{p:Addr}(hp:HI c J H) (e:H p=none) (h:aG c.K J xs vs):Rep c.K (upd J p (.tup vs)) (.tup xs) (.ref p):=
 .tup (.inl (.inl bS)) (h.mono (fR (hp.sub.free e) _))
theorem HC {k}{gs:G (List D)}(h:wW X c es gs):PD X c (.Tuple es k pos) (bC gs):=fP (HP h) fun σ H Q ⟨J,env,sr,w⟩=>by
 refine ⟨J,env,sr,aB (aL w) fun ds wd vs J1 H1 e1 r1=>?_⟩
 split at wd
 ·rename_i hz
  rw [r1.length] at hz
  exact ⟨hz,fun p hp=>wd _ _ _ (e1.trans (Ext.newJ e1.sub hp _)) (nL (sr.hp.ext e1) hp r1)⟩
 ·exact wd.elim
theorem Ht {gs:G (List D)}(h:wW X c es gs):PD X c (.List es pos) (fB gs):=fP (HH h) fun σ H Q ⟨J,env,sr,w⟩=>by
 refine ⟨J,env,sr,aB (aL w) fun ds wd vs J1 H1 e1 r1=>?_⟩
 split at wd
 ·rename_i hz
  rw [r1.length] at hz
  exact ⟨hz,fun p hp=>wd _ _ _ (e1.trans (Ext.new e1.sub hp _)) (RR.from e1.h (gW (sr.hp.ext e1) hp r1))⟩
 ·exact wd.elim
def jc:R→M (List D)
 | .d (.tup xs)=>.ok xs
 | .d (.lst xs)=>.ok xs
 | .l _ xs=>.ok xs
 | _=>.bad
theorem qN {He J H:Hp}(hp:HI c J H):∀{r:R}{v:V}{xs:List D},RR c He J H r v→jc r=.ok xs→∃a vs,v=.ref a∧(cG c.K H a vs∨cX c.K H a vs)∧aG c.K J xs vs
 | .d (.tup ys),v,xs,h,e=>by
  cases e
  cases h with
  | tup h hs=>exact ⟨_,_,rfl,.inr (eB hp.sub h),hs⟩
 | .d (.lst ys),v,xs,h,e=>let ⟨a,vs,h1,h2,h3⟩:=RR.list hp h e;⟨a,vs,h1,.inl h2,h3⟩
 | .l m ys,v,xs,h,e=>let ⟨a,vs,h1,h2,h3⟩:=RR.list hp h e;⟨a,vs,h1,.inl h2,h3⟩
 | .d .non,_,_,_,e=>nomatch e
 | .d (.bl _),_,_,_,e=>nomatch e
 | .d (.int _),_,_,_,e=>nomatch e
 | .d (.str _),_,_,_,e=>nomatch e
 | .d .emp,_,_,_,e=>nomatch e
theorem oq {α:Type}{x:R}{f:List D→M α}{Q:α→Prop}{T:Exc→Prop}(w:cA (jc x >>= f) Q T):∃xs,jc x=.ok xs∧cA (f xs) Q T:=by
 cases q:jc x with
 | bad=>rw [q] at w;exact w.elim
 | ok xs=>rw [q] at w;exact ⟨xs,rfl,w⟩
 | exc z=>unfold jc at q;split at q <;> cases q
def iL:List R→M R
 | [.d (.str z)]=>if z.length≤sizeLine then .ok (.d (.int z.length)) else .bad
 | [r]=>jc r >>= fun xs=>.ok (.d (.int xs.length))
 | _=>.bad
theorem jG.one {He J H:Hp}{r:R}{vs:List V}(h:jG c He J H [r] vs):∃v,vs=[v]∧RR c He J H r v:=by
 obtain ⟨v,us,rfl,h1,h2⟩:=h
 cases h2
 exact ⟨v,rfl,h1⟩
theorem jG.two {He J H:Hp}{r r':R}{vs:List V}(h:jG c He J H [r,r'] vs):∃v v',vs=[v,v']∧RR c He J H r v∧RR c He J H r' v':=by
 obtain ⟨v,us,rfl,h1,v2,us2,rfl,h2,h3⟩:=h
 cases h3
 exact ⟨v,v2,rfl,h1,h2⟩
theorem Hr {p:Pos}{gs:G (List R)}(ha:iy X c (e::es) gs) (hm:X.mg "len"=none) (hK:X.K=c.K:=by rfl) (hg:Gl X "len":=by rfl)
  (he:starEach (e::es) X.env=(false,eval e X.env)::starEach es X.env:=by rfl) (hpl:(backTo pos (starEach es X.env)).any (·.1)=false:=by rfl):PD X c (.Call (.Name "len" p) (e::es) [] pos) (gN iL gs):=
 lJ (uO.or uN) (by
  intro He J H xs vs Q hp rs w
  unfold iL at w
  split at w
  ·obtain ⟨v,rfl,r⟩:=rs.one
   cases r
   split at w
   ·rename_i hz;exact .inl ⟨_,rfl,hz,w _ J H (Ext.refl hp.sub) (.int _)⟩
   ·exact w.elim
  ·obtain ⟨v,rfl,r⟩:=rs.one
   obtain ⟨xs,q,w⟩:=oq w
   obtain ⟨p,vs,rfl,hq,hs⟩:=qN hp r q
   have w':=w (.int vs.length) J H (Ext.refl hp.sub) (by rw [hs.length];exact .int _)
   exact .inr ⟨p,vs,rfl,by rw [hK];exact hq,w'⟩
  ·exact w.elim) PySem.boot_len hm ha hg (by decide) (by decide) he hpl
def bG:List R→M R
 | [r]=>jc r >>= fun xs=>.ok (.d (.tup xs))
 | _=>.bad
theorem wg:bootBuiltins "tuple"=some (.type "tuple"):=by decide +kernel
theorem yr:bootBuiltins "list"=some (.type "list"):=by decide +kernel
theorem CC {p:Pos}{gs:G (List R)}(ha:iy X c (e::es) gs) (hm:X.mg "tuple"=none) (hK:X.K=c.K:=by rfl) (hg:Gl X "tuple":=by rfl)
  (he:starEach (e::es) X.env=(false,eval e X.env)::starEach es X.env:=by rfl) (hpl:(backTo pos (starEach es X.env)).any (·.1)=false:=by rfl):PD X c (.Call (.Name "tuple" p) (e::es) [] pos) (gN bG gs):=
 r6 sZ (by
  intro He J H xs vs Q hp rs w
  unfold bG at w
  split at w
  ·obtain ⟨v,rfl,r⟩:=rs.one
   rename_i r0
   obtain ⟨xs,q,w⟩:=oq w
   cases r0 with
   | d y=>
    cases y with
    | tup ys=>
     cases q
     cases r with
     | tup h hs=>exact ⟨_,_,rfl,.inr ⟨by rw [hK];exact eB hp.sub h,w _ J H (Ext.refl hp.sub) (.tup h hs)⟩⟩
    | lst ys=>
     cases q
     obtain ⟨p,vs,rfl,hq,hs⟩:=RR.list hp r rfl
     exact ⟨p,vs,rfl,.inl ⟨by rw [hK];exact hq,fun l hl=>w _ _ _ (Ext.newJ hp.sub hl _) (nL hp hl hs)⟩⟩
    | _=>cases q
   | l m ys=>
    cases q
    obtain ⟨p,vs,rfl,hq,hs⟩:=RR.list hp r rfl
    exact ⟨p,vs,rfl,.inl ⟨by rw [hK];exact hq,fun l hl=>w _ _ _ (Ext.newJ hp.sub hl _) (nL hp hl hs)⟩⟩
  ·exact w.elim) wg hm ha hg (by decide) (by decide) he hpl
def bN (g:G R):G Bool:=fun env=>g env >>= fun r=>match r with
 | .d (.bl k)=>.ok k
 | _=>.bad
theorem Hg (h:PD X c e g) (he:∀whole,isTrue e X.env whole=(do let v ←whole;standAt e.pos;holding [v] (truthy v)):=by intro _;rfl):PB X c e (bN g):=t_ (H_ h he) fun σ H Q ⟨J,env,sr,w⟩=>by
 refine ⟨J,env,sr,aB (aL w) fun r wr v J1 H1 e1 r1=>?_⟩
 split at wr
 ·cases r1;exact ⟨_,rfl,wr J1 H1 e1⟩
 ·exact wr.elim
theorem nC {op:CmpOp}{r:R2}{f:R→R→M R}(ho:dg X (compareOp op) r) (hf:BD c r f) (ha:PD X c a ga) (hb:PD X c b gb) (hm:behindInMarks op b=false:=by first | exact ve _ | rfl):PB X c (.Compare a [op] [b] pos) (bN (g2 f ga gb)):=
 t_ (Fi ho ha hb hm) fun σ H Q ⟨J,env,sr,w⟩=>by
  have w2:=aL w
  refine two (k:=fun u v H2=>r u v H2 fun z H3=>∃k,z=.bl k∧Q k H3) (Q:=fun z H3=>∃k,z=.bl k∧Q k H3) sr (aB w2 fun r0 wr v J1 H1 e1 r1=>?_)
   fun x y u v J2 H2 sr2 e2 r1 r2 q=>hf H H J2 H2 x y u v _ sr2.hp r1 r2 q
  split at wr
  ·cases r1;exact ⟨_,rfl,wr J1 H1 e1⟩
  ·exact wr.elim
def mw (g h:G Bool):G Bool:=fun env=>g env >>= fun k=>if k=true then .ok true else h env
def o6 (g:G Bool):G Bool:=fun env=>g env >>= fun k=>.ok (!k)
def uv (X:Cx) (c:C) (e:Expr) (g:G Bool):Prop:=PW X e (tB c g)
variable {t u:G Bool}{rest:List Expr}
theorem uv.pb (h:uv X c e t):PB X c e t:=PW.pt h
theorem G_ (h:PB X c a t):uv X c (.BoolOp .Or [a] pos) t:=Ib h
theorem JF {X:Cx}{e:Expr}{t t':TT}(h:PW X e t) (k:∀σ H Q,t' σ H Q→t σ H Q):PW X e t':=fun wh pins s σ H Q I q=>h wh pins s σ H Q I (k σ H Q q)
theorem Ju (h:PB X c a t) (h':uv X c (.BoolOp .Or (b::rest) pos) u):uv X c (.BoolOp .Or (a::b::rest) pos) (mw t u):=JF (JG h h') fun σ H Q ⟨J,env,sr,w⟩=>by
 refine ⟨J,env,sr,aB (aL w) fun k wk J1 H1 e1=>?_⟩
 cases k with
 | true=>
  rw [if_pos rfl] at wk ⊢
  exact wk J1 H1 e1
 | false=>
  rw [if_neg (by decide)] at wk ⊢
  exact ⟨J1,env,sr.ext e1,aB wk fun k q J2 H2 e2=>q J2 H2 (e1.trans e2)⟩
theorem G9 (h:PB X c a t):PB X c (.UnaryOp .Not a pos) (o6 t):=t_ (HZ h) fun σ H Q ⟨J,env,sr,w⟩=>⟨J,env,sr,aB (aL w) fun k wk J1 H1 e1=>wk J1 H1 e1⟩
def yC (g h:G R):G R:=fun env=>g env >>= fun r=>match r with
 | .d (.bl true)=>h env
 | .d (.bl false)=>.ok (.d (.bl false))
 | _=>.bad
def yG (g:G R):G R:=fun env=>g env >>= fun r=>match r with
 | .d (.bl k)=>.ok (.d (.bl (!k)))
 | _=>.bad
theorem EU {op}(h:PD X c a ga):PD X c (.BoolOp op [a] pos) ga:=HM h
theorem Hi (h:PD X c a ga) (h':PD X c (.BoolOp .And (b::rest) pos) gb):PD X c (.BoolOp .And (a::b::rest) pos) (yC ga gb):=fP (HE h h') fun σ H Q ⟨J,env,sr,w⟩=>by
 refine ⟨J,env,sr,aB (aL w) fun r wr v J1 H1 e1 r1=>?_⟩
 split at wr
 ·cases r1
  exact ⟨true,rfl,KJ ⟨J1,env,sr.ext e1,aB wr fun z q v J2 H2 e2 r2=>q v J2 H2 (e1.trans e2) (RR.from e1.h r2)⟩⟩
 ·cases r1
  exact ⟨false,rfl,KI (wr _ J1 H1 e1 (.bl _))⟩
 ·exact wr.elim
theorem Hx (h:PD X c a ga):PD X c (.UnaryOp .Not a pos) (yG ga):=fP (HL h) fun σ H Q ⟨J,env,sr,w⟩=>by
 refine ⟨J,env,sr,aB (aL w) fun r wr v J1 H1 e1 r1=>?_⟩
 split at wr
 ·cases r1
  exact ⟨_,rfl,wr _ J1 H1 e1 (.bl _)⟩
 ·exact wr.elim
def oG (t:G Bool) (g h:G R):G R:=fun env=>t env >>= fun k=>if k=true then g env else h env
theorem Ho {x:Expr}(hx:PB X c x t) (h:PD X c a ga) (h':PD X c b gb):PD X c (.IfExp x a b pos) (oG t ga gb):=fP (CG hx h h') fun σ H Q ⟨J,env,sr,w⟩=>by
 refine ⟨J,env,sr,aB (aL w) fun k wk J1 H1 e1=>?_⟩
 cases k with
 | true=>
  rw [if_pos rfl] at wk ⊢
  exact ⟨J1,env,sr.ext e1,aB wk fun z q v J2 H2 e2 r2=>q v J2 H2 (e1.trans e2) (RR.from e1.h r2)⟩
 | false=>
  rw [if_neg (by decide)] at wk ⊢
  exact ⟨J1,env,sr.ext e1,aB wk fun z q v J2 H2 e2 r2=>q v J2 H2 (e1.trans e2) (RR.from e1.h r2)⟩
end
section
variable {X:Cx}{c:C}{e a b tg:Expr}{es:List Expr}{ga gb g:G R}{pos:Pos}{st:Stmt}{rest:List Stmt}{t u:G O}{tb:G Bool}
def fV:G O:=fun env=>.ok (.nx env)
def aK (t u:G O):G O:=fun env=>t env >>= fun o=>match o with
 | .nx e=>u e
 | o=>.ok o
theorem EZ:l_ X c [] fV:=AR Ff fun E σ H ⟨J,env,sr,w⟩=>w σ J H (a_.refl J) sr
theorem CF (h:gP X c st t) (h':l_ X c rest u):l_ X c (st::rest) (aK t u):=AR (CQ h h') fun E σ H ⟨J,env,sr,w⟩=>by
 refine ⟨J,env,sr,aB (aL w) fun o wo=>?_⟩
 cases o with
 | nx e=>exact fun σ' J' H' s' sr'=>⟨J',e,sr',aB wo fun o q=>q.mono s'⟩
 | rt r=>exact wo
 | bk e=>exact wo
 | ct e=>exact wo
theorem E1 (h:gP X c st t):l_ X c [st] t:=Fg h
def t6 (g:G R):G O:=fun env=>g env >>= fun _=>.ok (.nx env)
theorem Cp (h:PD X c e g) (hs:swapsWith e none pos.line X.env=pure false:=by rfl):gP X c (.Expr e pos) (t6 g):=g9 (q9 h hs) fun E σ H ⟨J,env,sr,w⟩=>
 ⟨J,env,sr,aB (aL w) fun r wr v J1 H1 e1 r1=>wr σ J1 H1 e1.j (sr.ext e1)⟩
def rF:R→M R
 | .d x=>.ok (.d x)
 | .l .fresh xs=>.ok (.l .fresh xs)
 | .l .own xs=>.ok (.l .fresh xs)
 | .l .bor _=>.bad
def bU (g:G R):G O:=fun env=>g env >>= fun r=>rF r >>= fun r=>.ok (.rt r)
theorem RR.rf {J H J1 H1:Hp}(hp:HI c J H):∀{r r':R}{v:V},RR c H J1 H1 r v→rF r=.ok r'→RF c J1 H1 r' v
 | .d x,r',v,h,e=>by cases e;exact h
 | .l .fresh xs,r',v,⟨a,vs,h1,h2,h3,h4,h5⟩,e=>by cases e;exact ⟨a,vs,h1,h2,h3,hp.ent.free h4,h5⟩
 | .l .own xs,r',v,⟨a,vs,h1,h2,h3,h4,h5⟩,e=>by cases e;exact ⟨a,vs,h1,h2,h3,h4,h5⟩
 | .l .bor _,_,_,_,e=>nomatch e
theorem EN (h:PD X c e g):gP X c (.Return (some e) pos) (bU g):=g9 (HX h) fun E σ H ⟨J,env,sr,w⟩=>by
 refine ⟨J,env,sr,aB (aL w) fun r wr v J1 H1 e1 r1=>?_⟩
 cases q:rF r with
 | bad=>rw [q] at wr;exact wr.elim
 | exc x=>cases r with
  | d _=>cases q
  | l m _=>cases m <;> cases q
 | ok r'=>rw [q] at wr;exact wr v J1 H1 e1.j (sr.hp.ext e1) (RR.rf sr.hp r1 q)
def cL (b:G Bool) (t u:G O):G O:=fun env=>b env >>= fun k=>if k=true then t env else u env
theorem Hh {x:Expr}{as bs:List Stmt}(hx:PB X c x tb) (h:l_ X c as t) (h':l_ X c bs u):gP X c (.If x as bs pos) (cL tb t u):=g9 (JE hx h h') fun E σ H ⟨J,env,sr,w⟩=>by
 refine ⟨J,env,sr,aB (aL w) fun k wk J1 H1 e1=>?_⟩
 cases k with
 | true=>
  rw [if_pos rfl] at wk ⊢
  exact ⟨J1,env,sr.ext e1,aB wk fun o q=>q.mono e1.j⟩
 | false=>
  rw [if_neg (by decide)] at wk ⊢
  exact ⟨J1,env,sr.ext e1,aB wk fun o q=>q.mono e1.j⟩
def toS:R→M S
 | .d x=>.ok (.d x)
 | .l .fresh xs=>.ok (.own xs)
 | .l .bor xs=>.ok (.bor xs)
 | .l .own _=>.bad
theorem fW {α:Type}{l:List (Option α)}{i j:Nat}{x y:α}(h:(l.set i (some x))[j]?=some (some y)):(j=i∧i < l.length∧y=x)∨(j≠i∧l[j]?=some (some y)):=by
 by_cases e:j=i
 ·subst e
  have hj:j < l.length:=by
   have:=(List.getElem?_eq_some_iff.mp h).1
   simpa using this
  rw [List.getElem?_set_self hj] at h
  cases h
  exact .inl ⟨rfl,hj,rfl⟩
 ·rw [List.getElem?_set_ne (Ne.symm e)] at h
  exact .inr ⟨e,h⟩
theorem SR.setD {J H:Hp}{σ:L2.St}{env:Ev}(sr:SR c J H σ env){i:Nat}{x:S}{v:V}(h:oR c J H x v) (hx:∀xs,x≠.own xs):SR c J H (σ.set i (some v)) (env.set i (some x)):=by
 refine ⟨sr.hp,by simpa using sr.len,fun j y q=>?_,fun j k xs ys w hjk q1 q2 q3 q4=>?_⟩
 ·rcases fW q with ⟨rfl,hl,rfl⟩ | ⟨hj,q⟩
  ·exact ⟨v,by rw [List.getElem?_set_self (by rw [←sr.len];exact hl)],h⟩
  ·obtain ⟨w,h1,h2⟩:=sr.at_ j y q
   exact ⟨w,by rw [List.getElem?_set_ne (Ne.symm hj)];exact h1,h2⟩
 ·rcases fW q1 with ⟨rfl,hl,e⟩ | ⟨hj,q1⟩
  ·exact hx xs e.symm
  ·rcases fW q2 with ⟨rfl,hl,e⟩ | ⟨hk,q2⟩
   ·exact hx ys e.symm
   ·rw [List.getElem?_set_ne (Ne.symm hj)] at q3
    rw [List.getElem?_set_ne (Ne.symm hk)] at q4
    exact sr.sep j k xs ys w hjk q1 q2 q3 q4
theorem SR.set {J He:Hp}{σ:L2.St}{env:Ev}(sr:SR c J He σ env){J1 H1:Hp}(e1:Ext J He J1 H1){i:Nat}{r:R}{x:S}{v:V}(h:RR c He J1 H1 r v) (q:toS r=.ok x):SR c J1 H1 (σ.set i (some v)) (env.set i (some x)):=by
 have sr1:=sr.ext e1
 cases r with
 | d y=>cases q;exact sr1.setD h (fun _ z=>nomatch z)
 | l m xs=>
  cases m with
  | own=>cases q
  | bor=>cases q;exact sr1.setD h (fun _ z=>nomatch z)
  | fresh=>
   cases q
   obtain ⟨p,vs,rfl,h1,h2,h3,h4⟩:=h
   have old:∀(j:Nat) (ys:List D),env[j]?=some (some (.own ys))→σ[j]?≠some (some (.ref p)):=fun j ys qj z=>by
    obtain ⟨w,k1,a,us,k2,k3,_⟩:=sr.at_ j _ qj
    rw [z] at k1
    cases k1
    cases k2
    rw [h3] at k3
    cases k3
   refine ⟨sr1.hp,by simpa using sr.len,fun j y q=>?_,fun j k ys zs w hjk q1 q2 q3 q4=>?_⟩
   ·rcases fW q with ⟨rfl,hl,rfl⟩ | ⟨hj,q⟩
    ·exact ⟨.ref p,by rw [List.getElem?_set_self (by rw [←sr.len];exact hl)],p,vs,rfl,h1,h2,sr.hp.ent.free h3,h4⟩
    ·obtain ⟨w,k1,k2⟩:=sr1.at_ j y q
     exact ⟨w,by rw [List.getElem?_set_ne (Ne.symm hj)];exact k1,k2⟩
   ·rcases fW q1 with ⟨rfl,hl,e⟩ | ⟨hj,q1'⟩
    ·rcases fW q2 with ⟨rfl,_,_⟩ | ⟨hk,q2⟩
     ·exact hjk rfl
     ·rw [List.getElem?_set_self (by rw [←sr.len];exact hl)] at q3
      cases q3
      rw [List.getElem?_set_ne (Ne.symm hk)] at q4
      exact old k zs q2 q4
    ·rw [List.getElem?_set_ne (Ne.symm hj)] at q3
     rcases fW q2 with ⟨rfl,hl,e⟩ | ⟨hk,q2⟩
     ·rw [List.getElem?_set_self (by rw [←sr.len];exact hl)] at q4
      cases q4
      exact old j ys q1' q3
     ·rw [List.getElem?_set_ne (Ne.symm hk)] at q4
      exact sr.sep j k ys zs w hjk q1' q2 q3 q4
theorem rD {α:Type}{x:R}{f:S→M α}{Q:α→Prop}{T:Exc→Prop}(w:cA (toS x >>= f) Q T):∃d,toS x=.ok d∧cA (f d) Q T:=by
 cases q:toS x with
 | bad=>rw [q] at w;exact w.elim
 | ok xs=>rw [q] at w;exact ⟨xs,rfl,w⟩
 | exc z=>unfold toS at q;split at q <;> cases q
def aX (i:Nat) (g:G R):G O:=fun env=>g env >>= fun r=>toS r >>= fun x=>.ok (.nx (env.set i (some x)))
theorem EO (i:Nat){x:Str}{pos':Pos}(hN:X.N.Nodup) (h:PD X c e g) (hi:X.N[i]?=some x:=by rfl) (hx:Loc X.env.scope x:=by first | exact Or.inl rfl | exact Or.inr rfl) (hs:swapsWith e (some (.Name x pos')) pos.line X.env=pure false:=by rfl)
  (hf:X.fn x=true∨X.env.scope.names.lookup x=some .local:=by first | exact .inl rfl | exact .inr rfl):gP X c (.Assign [.Name x pos'] e pos) (aX i g):=g9 (HY hN hi hx h hs hf) fun E σ H ⟨J,env,sr,w⟩=>by
 refine ⟨J,env,sr,aB (aL w) fun r wr v J1 H1 e1 r1=>?_⟩
 obtain ⟨x,q,wr⟩:=rD wr
 exact wr (σ.set i (some v)) J1 H1 e1.j (sr.set e1 r1 q)
abbrev GT:=D→Ev→M Ev
def KO (env:Ev) (σ:L2.St) (e:Ev) (σ':L2.St):Prop:=∀(j:Nat) (xs:List D),e[j]?=some (some (.own xs))→env[j]?=some (some (.own xs))∧σ'[j]?=σ[j]?
theorem KO.refl {env:Ev}{σ:L2.St}:KO env σ env σ:=fun _ _ h=>⟨h,rfl⟩
theorem KO.trans {env e1 e2:Ev}{σ s1 s2:L2.St}(a:KO env σ e1 s1) (b:KO e1 s1 e2 s2):KO env σ e2 s2:=fun j xs h=>by
 obtain ⟨h1,h2⟩:=b j xs h
 obtain ⟨h3,h4⟩:=a j xs h1
 exact ⟨h3,h2.trans h4⟩
def tT (c:C) (g:GT):TG:=fun v σ H Q=>∃J env d,SR c J H σ env∧Rep c.K J d v∧cA (g d env) (fun e=>∀σ',SR c J H σ' e→KO env σ e σ'→Q σ' H) c.T
def oB (X:Cx) (c:C) (tg:Expr) (g:GT):Prop:=PG X tg (tT c g)
abbrev jF:=List D→Ev→M Ev
def Lw (c:C) (g:jF):mK:=fun vs σ H Q=>∃J env ds,SR c J H σ env∧aG c.K J ds vs∧cA (g ds env) (fun e=>∀σ',SR c J H σ' e→KO env σ e σ'→Q σ' H) c.T
def qL (X:Cx) (c:C) (tgs:List Expr) (g:jF):Prop:=rH X tgs (Lw c g)
theorem DE {X:Cx}{e:Expr}{t t':TG}(h:PG X e t) (k:∀v σ H Q,t' v σ H Q→t v σ H Q):PG X e t':=fun pins s σ H v u Q I r q=>h pins s σ H v u Q I r (k v σ H Q q)
theorem AL {X:Cx}{e:List Expr}{t t':mK}(h:rH X e t) (k:∀v σ H Q,t' v σ H Q→t v σ H Q):rH X e t':=fun pins s σ H vs us Q I r q=>h pins s σ H vs us Q I r (k vs σ H Q q)
def aF (i:Nat):GT:=fun d env=>.ok (env.set i (some (.d d)))
theorem CT (i:Nat){x:Str}(hN:X.N.Nodup) (hi:X.N[i]?=some x:=by rfl) (hx:Loc X.env.scope x:=by first | exact Or.inl rfl | exact Or.inr rfl) (hf:X.fn x=true∨X.env.scope.names.lookup x=some .local:=by first | exact .inl rfl | exact .inr rfl):oB X c (.Name x pos) (aF i):=
 DE (E5 hN hi hx hf) fun v σ H Q ⟨J,env,d,sr,rd,w⟩=>w _ (sr.setD (x:=.d d) rd fun _ z=>nomatch z) fun j xs q=>by
  rcases fW q with ⟨_,_,e⟩ | ⟨hj,q⟩
  ·cases e
  ·exact ⟨q,List.getElem?_set_ne (Ne.symm hj)⟩
def cM:jF:=fun ds env=>match ds with
 | []=>.ok env
 | _=>.bad
def aV (t:GT) (u:jF):jF:=fun ds env=>match ds with
 | d::r=>t d env >>= fun e=>u r e
 | []=>.bad
theorem CU:qL X c [] cM:=AL E7 fun vs σ H Q ⟨J,env,ds,sr,rd,w⟩=>by
 cases rd with
 | nil=>exact ⟨rfl,w σ sr KO.refl⟩
 | cons _ _=>exact w.elim
theorem AS {t:GT}{u:jF}(h:oB X c e t) (h':qL X c es u) (hs:(assignEach (e::es) X.env).map (·.2)=assign e X.env::(assignEach es X.env).map (·.2):=by rfl):qL X c (e::es) (aV t u):=
 AL (CI h h' hs) fun vs σ H Q ⟨J,env,ds,sr,rd,w⟩=>by
  cases rd with
  | nil=>exact w.elim
  | cons r rs=>
   refine ⟨_,_,rfl,J,env,_,sr,r,aB (aL w) fun e1 w1 σ' sr' ko=>?_⟩
   exact ⟨J,e1,_,sr',rs,aB w1 fun e2 q σ2 sr2 ko2=>q σ2 sr2 (ko.trans ko2)⟩
def cO (n:Nat) (u:jF):GT:=fun d env=>match d with
 | .tup ds=>if ds.length=n then u ds env else .bad
 | _=>.bad
theorem Fj {k:Nat}{u:jF}{n:Nat}(h:qL X c es u) (hc:X.calm=true:=by rfl) (hK:X.K=c.K:=by rfl) (hn:(assignEach es X.env).length=n:=by rfl) (hst:(assignEach es X.env).findIdx? (·.1)=none:=by rfl):oB X c (.Tuple es k pos) (cO n u):=
 DE (HR hc h hn hst) fun v σ H Q ⟨J,env,d,sr,rd,w⟩=>by
  cases rd with
  | tup h1 h2=>
   unfold cO at w
   simp only at w
   split at w
   ·rename_i hl
    exact ⟨_,_,rfl,by rw [hK];exact eB sr.hp.sub h1,by rw [←h2.length];exact hl,J,env,_,sr,h2,w⟩
   ·exact w.elim
  | _=>exact w.elim
def jL (t:GT) (g:G R):G O:=fun env=>g env >>= fun r=>toD r >>= fun d=>t d env >>= fun e=>.ok (.nx e)
theorem EK {t:GT}(h:PD X c e g) (ht:oB X c tg t)
  (hq:PS X (.Assign [tg] e pos) (C_ (tD c g) (tT c t))):gP X c (.Assign [tg] e pos) (jL t g):=g9 hq fun E σ H ⟨J,env,sr,w⟩=>by
 refine ⟨J,env,sr,aB (aL w) fun r wr v J1 H1 e1 r1=>?_⟩
 obtain ⟨d,q,wr⟩:=jE wr
 obtain ⟨J1',e1',s1,rd⟩:=freeze e1 r1 q
 refine ⟨J1',env,d,sr.ext e1',rd,aB (aL wr) fun e2 w2 σ' sr' _=>?_⟩
 exact w2 σ' J1' H1 e1'.j sr'
def Walk (c:C) (It:It) (ds:List D) (J1:Hp) (U:Hp→Hp→Prop):Prop:=∀(i:Nat) (J H:Hp),HI c J H→U J H→
 (ds.length≤i→It.stop i H)∧∀d,ds[i]?=some d→It.go i H∧∀x H2,It.yld i H x H2→∃J2,Ext J H J2 H2∧Rep c.K J2 d x
def tI (c:C) (g:G (List D)):TI:=fun σ H Q=>∃J env,SR c J H σ env∧cA (g env) (fun ds=>∀It J1 H1,Ext J H J1 H1→Walk c It ds J1 (fun J' _=>a_ J1 J')→Q It H1) c.T
def rJ (X:Cx) (c:C) (tg iter:Expr) (g:G (List D)):Prop:=PI X tg iter (tI c g)
theorem nY {X:Cx}{tg it:Expr}{t t':TI}(h:PI X tg it t) (k:∀σ H Q,t' σ H Q→t σ H Q):PI X tg it t':=fun pins s σ H Q I q=>h pins s σ H Q I (k σ H Q q)
def gZ (t:GT) (u:G O):List D→Ev→M O
 | [],env=>.ok (.nx env)
 | d::ds,env=>t d env >>= fun e=>u e >>= fun o=>match o with
  | .nx e=>gZ t u ds e
  | .ct e=>gZ t u ds e
  | .bk e=>.ok (.nx e)
  | .rt r=>.ok (.rt r)
def fz (g:G (List D)) (t:GT) (u:G O):G O:=fun env=>g env >>= fun ds=>gZ t u ds env
theorem EL {iter:Expr}{body:List Stmt}{gi:G (List D)}{t:GT}(hi:rJ X c tg iter gi) (ht:oB X c tg t) (hb:l_ X c body u) (hp:PassesOwn (model X.prog X.w) X.A X.env X.xe:=by first | exact PassesOwn.never | exact PassesOwn.leaving) (hc:X.calm=true:=by rfl)
  (hs:∀x,foldedSetIterable iter X.env x=pure x:=by intro _;rfl):gP X c (.For tg iter body [] pos) (fz gi t u):=g9 (HW hp hc hi ht hb hs) fun E σ H ⟨J,env,sr,w⟩=>by
 refine ⟨J,env,sr,aB (aL w) fun ds wd It J1 H1 e1 wk=>?_⟩
 refine ⟨fun i m σ H=>m=ds.length - i∧∃J' env,a_ J1 J'∧SR c J' H σ env∧cA (gZ t u (ds.drop i) env) (oP c J' E) c.T,
  ⟨ds.length,by simp,J1,env,a_.refl J1,sr.ext e1,by rw [List.drop_zero];exact aB wd fun o q=>q.mono e1.j⟩,?_⟩
 rintro i m σ H ⟨rfl,J',env,s',sr',w'⟩
 obtain ⟨w1,w2⟩:=wk i J' H sr'.hp s'
 by_cases hlt:i < ds.length
 ·obtain ⟨g1,y1⟩:=w2 ds[i] (by simp [hlt])
  rw [List.drop_eq_getElem_cons hlt] at w'
  refine .inr ⟨g1,fun σ2 H2=>∃J2 env2,a_ J' J2∧SR c J2 H2 σ2 env2∧cA (gZ t u (ds.drop (i + 1)) env2) (oP c J2 E) c.T,?_,?_⟩
  ·rintro σ2 H2 ⟨J2,env2,s2,sr2,w2⟩
   exact ⟨ds.length - (i + 1),by omega,rfl,J2,env2,s'.trans s2,sr2,w2⟩
  ·intro x H2 hy
   obtain ⟨J2,e2,rx⟩:=y1 x H2 hy
   refine ⟨J2,env,ds[i],sr'.ext e2,rx,aB (aL w') fun env3 w3 σ3 sr3 _=>?_⟩
   refine ⟨J2,env3,sr3,aB (aL w3) fun o wo=>?_⟩
   cases o with
   | nx env4=>exact fun σ4 J4 H4 s4 sr4=>⟨J4,env4,e2.j.trans s4,sr4,aB wo fun o q=>q.mono (e2.j.trans s4)⟩
   | ct env4=>exact fun σ4 J4 H4 s4 sr4=>⟨J4,env4,e2.j.trans s4,sr4,aB wo fun o q=>q.mono (e2.j.trans s4)⟩
   | bk env4=>exact fun σ4 J4 H4 s4 sr4=>wo σ4 J4 H4 (e2.j.trans s4) sr4
   | rt r=>exact fun v J4 H4 s4 h4 r4=>wo v J4 H4 (e2.j.trans s4) h4 r4
 ·rw [List.drop_eq_nil_of_le (by omega)] at w'
  exact .inl ⟨w1 (by omega),w' σ J' H (a_.refl J') sr'⟩
def Lz (g:G R):G (List D):=fun env=>g env >>= fun r=>match r with
 | .d (.tup xs)=>.ok xs
 | _=>.bad
theorem nP {J1:Hp}{a:Addr}{vs:List V}{ds:List D}(h:cG c.K J1 a vs∨cG c.K c.H0 a vs) (hs:aG c.K J1 ds vs):Walk c (Df c.K a) ds J1 (fun J' _=>a_ J1 J'):=by
 intro i J H hp u
 have h':cG c.K H a vs:=h.elim (fun h=>hp.sub.seq (u.seq h)) fun h=>hp.ent.seq h
 refine ⟨fun hl=>⟨vs,h',by rw [←hs.length];exact hl⟩,fun d hd=>?_⟩
 obtain ⟨v,h1,h2⟩:=hs.get hd
 refine ⟨⟨vs,v,h',h1⟩,fun x H2 ⟨e,hy⟩=>?_⟩
 subst e
 have:=hy vs h'
 rw [h1] at this
 cases this
 exact ⟨J,Ext.refl hp.sub,h2.mono u⟩
def eZ (lo:Int) (n:Nat):List D:=(List.range n).map fun (k:Nat)=>.int (lo + (k:Int))
theorem zp {J1:Hp}{lo:Int}{n:Nat}{Ut:Hp→Hp→Prop}:Walk c (Dg lo n) (eZ lo n) J1 Ut:=by
 intro i J H hp u
 refine ⟨fun hl=>(show n≤i by simpa [eZ] using hl),fun d hd=>?_⟩
 have hi:i < n:=by
  have:=(List.getElem?_eq_some_iff.mp hd).1
  simpa [eZ] using this
 have hd':d=.int (lo + i):=by
  unfold eZ at hd
  rw [List.getElem?_map,List.getElem?_range hi] at hd
  exact (Option.some.inj hd).symm
 subst hd'
 exact ⟨hi,fun x H2 ⟨e,hx⟩=>by subst e hx;exact ⟨J,Ext.refl hp.sub,.int _⟩⟩
def ez (gs:G (List R)):G (List D):=fun env=>gs env >>= fun rs=>match rs with
 | [.d (.int j)]=>if below 4611686018427387904 j then .ok (eZ 0 j.toNat) else .bad
 | _=>.bad
theorem yX {p:Pos}{gs:G (List R)}(ha:iy X c [a] gs) (hm:X.mg "range"=none) (hg:Gl X "range":=by rfl) (hs:starEach [a] X.env=[(false,eval a X.env)]:=by rfl):rJ X c tg (.Call (.Name "range" p) [a] [] pos) (ez gs):=
 nY (AN hg hm ha hs) fun σ H Q ⟨J,env,sr,w⟩=>by
  refine ⟨J,env,sr,aB (aL w) fun rs wr vs J1 H1 e1 r1=>?_⟩
  split at wr
  ·split at wr
   ·rename_i h
    obtain ⟨v,rfl,r⟩:=r1.one
    cases r
    have h:=dG.mp h
    exact ⟨_,rfl,Int.le_of_lt h.1,h.2,wr _ J1 H1 e1 zp⟩
   ·exact wr.elim
  ·exact wr.elim
def Lq (c:C) (g:G (List D)):TI:=fun σ H Q=>∃J env,SR c J H σ env∧cA (g env) (fun ds=>∀It J1 H1,Ext J H J1 H1→Walk c It ds J1 (fun J' H'=>a_ J1 J'∧a_ H1 H')→Q It H1) c.T
def uw (X:Cx) (c:C) (tg iter:Expr) (g:G (List D)):Prop:=PI X tg iter (Lq c g)
theorem rJ.pic {gi:G (List D)}(h:rJ X c tg e gi):uw X c tg e gi:=nY h fun σ H Q ⟨J,env,sr,w⟩=>
 ⟨J,env,sr,aB w fun ds q It J1 H1 e1 wk=>q It J1 H1 e1 fun i J' H' hp u=>wk i J' H' hp u.1⟩
end
section
variable {X:Cx}{c:C}{e a b tg:Expr}{es:List Expr}{ga gb g:G R}{pos:Pos}
theorem SR.upd {J H:Hp}{σ:L2.St}{env:Ev}(sr:SR c J H σ env){i:Nat}{xs xs':List D}{p:Addr}{vs vs':List V}(hi:env[i]?=some (some (.own xs))) (hs:σ[i]?=some (some (.ref p))) (hH:H p=some (.lst vs)) (hJ:J p=none) (h0:c.H0 p=none)
  (h:aG c.K J xs' vs'):SR c J (L2.upd H p (.lst vs')) σ (env.set i (some (.own xs'))):=by
 have hil:i < env.length:=(List.getElem?_eq_some_iff.mp hi).1
 refine ⟨⟨fun b o q=>?_,fun b o q=>?_,sr.hp.entJ,sr.hp.frz⟩,by simpa using sr.len,fun j y q=>?_,fun j k ys zs w hjk q1 q2 q3 q4=>?_⟩
 ·have:b≠p:=fun z=>by rw [z,hJ] at q;cases q
  rw [br this];exact sr.hp.sub b o q
 ·have:b≠p:=fun z=>by rw [z,h0] at q;cases q
  rw [br this];exact sr.hp.ent b o q
 ·rcases fW q with ⟨rfl,hl,rfl⟩ | ⟨hj,q⟩
  ·exact ⟨.ref p,hs,p,vs',rfl,bS,hJ,h0,h⟩
  ·obtain ⟨w,k1,k2⟩:=sr.at_ j y q
   refine ⟨w,k1,?_⟩
   cases y with
   | d x=>exact k2
   | bor zs=>exact k2
   | own zs=>
    obtain ⟨p',us,rfl,m1,m2,m3,m4⟩:=k2
    have hne:p'≠p:=fun z=>sr.sep i j xs zs (.ref p) (Ne.symm hj) hi q hs (z▸k1)
    exact ⟨p',us,rfl,by rw [br hne];exact m1,m2,m3,m4⟩
 ·have f:∀(k:Nat) (ys:List D),(env.set i (some (.own xs')))[k]?=some (some (.own ys))→∃ys',env[k]?=some (some (.own ys')):=fun k ys q=>by
   rcases fW q with ⟨rfl,_,_⟩ | ⟨_,q⟩
   ·exact ⟨xs,hi⟩
   ·exact ⟨ys,q⟩
  obtain ⟨ys',r1⟩:=f j ys q1
  obtain ⟨zs',r2⟩:=f k zs q2
  exact sr.sep j k ys' zs' w hjk r1 r2 q3 q4
def ie (i:Nat) (g:G R):G O:=fun env=>match env[i]? with
 | some (some (.own xs))=>g env >>= fun r=>toD r >>= fun d=>if xs.length < sizeLine then .ok (.nx (env.set i (some (.own (xs++[d]))))) else .bad
 | _=>.bad
theorem yV (i:Nat){x:Str}{p1 p2 pos':Pos}(h:PD X c e g) (hN:X.N[i]?=some x:=by rfl) (hv:kC X.env.scope x:=by first | exact Or.inl rfl | exact Or.inr (Or.inl rfl) | exact Or.inr (Or.inr rfl)) (hd:(x == ("__debug__":Str))=false:=by decide)
  (hcd:(x == ("__classdict__":Str))=false:=by decide)
  (hbase:attributeBase (.Name x p1) "append" X.env (eval (.Name x p1) X.env)=eval (.Name x p1) X.env:=by rfl)
  (hfew:((backTo pos' (starEach [e] X.env)).all (fun x=>!x.1) && (backToKw pos' (keywordEach [] X.env)).all (fun x=>x.1.isSome)
   && decide (([e]:List Expr).length + ([]:List Keyword).length + (if ([]:List Keyword).isEmpty then 0 else 1) < 30))=true:=by rfl)
  (hline:(p2.endLine == pos'.line)=true:=by rfl) (hst:starEach [e] X.env=(false,eval e X.env)::starEach [] X.env:=by rfl) (hplain:(backTo pos' (starEach [] X.env)).any (·.1)=false:=by rfl)
  (hs:swapsWith (.Call (.Attribute (.Name x p1) "append" p2) [e] [] pos') none pos.line X.env=pure false:=by rfl):
  gP X c (.Expr (.Call (.Attribute (.Name x p1) "append" p2) [e] [] pos') pos) (ie i g):=
 g9 (q9 (yW PySem.F.plainAttrs_list PySem.F.slot_list_append PySem.F.type_list_append ny (nD hN hv hd hcd) (gG h jg hst) hbase hfew hline hst hplain) hs) fun E σ H ⟨J,env,sr,w⟩=>by
  unfold ie at w
  split at w
  ·rename_i xs hi
   obtain ⟨v,h1,a,vs,rfl,h2,h3,h4,h5⟩:=sr.at_ i _ hi
   refine ⟨.ref a,h1,.inl ⟨rfl,vs,cG.of h2⟩,?_⟩
   refine ⟨J,env,sr,aB (aL w) fun r wr y J1 H1 e1 r1=>?_⟩
   obtain ⟨d,q,wr⟩:=jE wr
   obtain ⟨J2,e2,s2,rd⟩:=freeze e1 r1 q
   split at wr
   ·rename_i hz
    refine ⟨a,vs,y,rfl,rfl,e2.h _ _ h2,by rw [←h5.length];exact hz,?_⟩
    refine wr σ J2 _ e2.j ?_
    exact (sr.ext e2).upd hi h1 (e2.h _ _ h2) (e2.frz a (by rw [h2];intro z;cases z) h3) h4 ((h5.mono e2.j).append (.cons rd .nil))
   ·exact wr.elim
  ·exact w.elim
def dR:R→S
 | .d x=>.d x
 | .l _ xs=>.bor xs
def jh (K:PySem.W.Frag) (J H:Hp):List S→List V→Prop
 | [],vs=>vs=[]
 | s::ss,vs=>∃v us,vs=v::us∧(match s with
  | .d x=>Rep K J x v
  | .bor xs=>∃a ws,v=.ref a∧cG K H a ws∧aG K J xs ws
  | .own _=>False)∧jh K J H ss us
theorem jh.length {K:PySem.W.Frag}{J H:Hp}:∀{ss:List S}{vs:List V},jh K J H ss vs→vs.length=ss.length
 | [],_,h=>by cases h;rfl
 | _::_,_,⟨_,_,h,_,h2⟩=>by subst h;exact congrArg (· + 1) h2.length
theorem jh.get {K:PySem.W.Frag}{J H:Hp}:∀{ss:List S}{vs:List V}{i:Nat}{s:S},jh K J H ss vs→ss[i]?=some s→∃v,vs[i]?=some v∧(match s with
  | .d x=>Rep K J x v
  | .bor xs=>∃a ws,v=.ref a∧cG K H a ws∧aG K J xs ws
  | .own _=>False)
 | [],_,_,_,_,e=>by simp at e
 | _::_,_,0,_,⟨v,us,h,h1,h2⟩,e=>by simp at e;subst e;subst h;exact ⟨v,rfl,h1⟩
 | _::_,_,i + 1,s,⟨v,us,h,h1,h2⟩,e=>by
  subst h
  obtain ⟨v,k1,k2⟩:=jh.get (i:=i) (s:=s) h2 (by simpa using e)
  exact ⟨v,by simpa using k1,k2⟩
def FR (K:PySem.W.Frag) (H J' H':Hp):R→V→Prop
 | .d x,v=>Rep K J' x v
 | .l _ xs,v=>∃a vs,v=.ref a∧H' a=some (.lst vs)∧J' a=none∧H a=none∧aG K J' xs vs
def qA (K:PySem.W.Frag) (n:Nat) (F:List S→M R):Sp:=fun vs H Q _=>∃J as,a_ J H∧as.length=n∧jh K J H as vs∧cA (F as) (fun r=>∀v J' H',Ext J H J' H'→FR K H J' H' r v→Q v H') (fun _=>False)
def fin:M O→M R
 | .ok (.rt r)=>.ok r
 | .ok (.nx _)=>.ok (.d .non)
 | .exc x=>.exc x
 | _=>.bad
def bD (N:List Str) (as:List S):Ev:=as.map some++List.replicate (N.length - as.length) none
theorem sH {N:List Str}{as:List S}{i:Nat}{x:S}(h:(bD N as)[i]?=some (some x)):as[i]?=some x:=by
 unfold bD at h
 by_cases hi:i < as.length
 ·rw [List.getElem?_append_left (by simpa using hi),List.getElem?_map] at h
  cases q:as[i]? with
  | none=>rw [q] at h;cases h
  | some y=>rw [q] at h;cases h;rfl
 ·rw [List.getElem?_append_right (by simpa using hi),List.getElem?_replicate] at h
  split at h <;> cases h
theorem C8 {N:List Str}{vs:List V}{i:Nat}{v:V}(h:vs[i]?=some v):(L2.start N vs)[i]?=some (some v):=by
 unfold L2.start
 have hi:i < vs.length:=(List.getElem?_eq_some_iff.mp h).1
 rw [List.getElem?_append_left (by simpa using hi),List.getElem?_map,h]
 rfl
theorem vR {K:PySem.W.Frag}{J H:Hp}{T:Exc→Prop}{N:List Str}{as:List S}{vs:List V}(hs:a_ J H) (h:jh K J H as vs):SR ⟨K,H,J,T⟩ J H (L2.start N vs) (bD N as):=by
 have own:∀(i:Nat) (xs:List D),(bD N as)[i]?≠some (some (.own xs)):=fun i xs q=>by
  obtain ⟨v,_,k⟩:=h.get (sH q)
  exact k
 refine ⟨⟨hs,a_.refl H,a_.refl J,fun _ _ q=>q⟩,?_,fun i x q=>?_,fun i j xs ys v _ q=>absurd q (own i xs)⟩
 ·unfold bD L2.start
  rw [List.length_append,List.length_append,List.length_map,List.length_map,List.length_replicate,List.length_replicate,h.length]
 ·obtain ⟨v,k1,k2⟩:=h.get (sH q)
  refine ⟨v,C8 k1,?_⟩
  cases x with
  | d y=>exact k2
  | own y=>exact k2.elim
  | bor y=>exact k2
abbrev Dp (P:Program) (w:World) (K:PySem.W.Frag) (mg:Str→Option Value) (base:Heap) (N:List Str) (qual:Str) (sc:Scope) (f:Addr) (cd:Value) (A:Around) (outer:List Env) (s:Shared) (H:Hp) (E:XK):Cx:=(mR lZ P w K mg base N qual sc f cd A outer s H E).nox
theorem Ab {P:Program}{w:World}{K:PySem.W.Frag}{mg:Str→Option Value}{base:Heap}{x qual:Str}{st:Stmt}{f:Addr}{fd:FuncData}{N ps:List Str}{k:Nat}{Fm:List S→M R}(F:dQ K x qual st f fd) (Sc:bE N ps (ay st)){gB:G O}
  (hb:∀(cdv:Value) (A:Around) (outer:List Env) (s:Shared) (H:Hp) (E:XK) (J:Hp) (T:Exc→Prop),c_ k (A.deeper (envOfC qual (ay st) s.heap.objs.size f cdv))→
   l_ (Dp P w K mg base N qual (ay st) f cdv A outer s H E) ⟨K,H,J,T⟩ (aJ st) gB)
  (hF:∀as r,as.length=ps.length→Fm as=.ok r→fin (gB (bD N as))=.ok r):gj P w K mg base lZ (k + 1) f fd ps (qA K ps.length Fm):=by
 refine F.ok Sc (fun vs H Q E h=>?_) (fun cdv A outer s H vs Q E hr h=>?_)
 ·obtain ⟨J,as,h1,h2,h3,h4⟩:=h
  rw [h3.length,h2]
 ·obtain ⟨J,as,h1,h2,h3,h4⟩:=h
  refine ⟨_,hb cdv A outer s H E J (fun _=>False) hr,J,bD N as,vR h1 h3,?_⟩
  cases q:Fm as with
  | bad=>rw [q] at h4;exact h4.elim
  | exc x=>rw [q] at h4;exact h4.elim
  | ok r=>
   rw [q] at h4
   have z:=hF as r h2 q
   have ext:∀{J' H':Hp},HI ⟨K,H,J,fun _=>False⟩ J' H'→Ext J H J' H':=fun hp=>⟨hp.ent,hp.entJ,hp.sub,hp.frz⟩
   cases qg:gB (bD N as) with
   | bad=>rw [qg] at z;cases z
   | exc x=>rw [qg] at z;cases z
   | ok o=>
    rw [qg] at z
    cases o with
    | bk _=>cases z
    | ct _=>cases z
    | nx env=>cases z;exact fun σ' J' H' _ sr=>h4 .non J' H' (ext sr.hp) .non
    | rt r'=>
     cases z
     exact fun v J' H' _ hp rf=>h4 v J' H' (ext hp) (by
      cases r with
      | d x=>exact rf
      | l m xs=>exact rf)
def mq:R→R
 | .d x=>.d x
 | .l _ xs=>.l .fresh xs
def aW (n:Nat) (F:List S→M R):List R→M R:=fun rs=>if rs.length=n then (match F (rs.map dR) with
 | .ok r=>.ok (mq r)
 | _=>.bad) else .bad
theorem jG.args {He J H:Hp}(hp:HI c J H):∀{rs:List R}{vs:List V},jG c He J H rs vs→jh c.K J H (rs.map dR) vs
 | [],_,h=>h
 | r::rs,_,⟨v,us,h,h1,h2⟩=>by
  refine ⟨v,us,h,?_,jG.args hp h2⟩
  cases r with
  | d x=>exact h1
  | l m xs=>exact RR.list hp h1 rfl
theorem EV {k n:Nat}{f:Addr}{fd:FuncData}{ps:List Str}{F:List S→M R}{x:Str}{p:Pos}{gs:G (List R)}(G:gj X.prog X.w X.K X.mg X.base lZ k f fd ps (qA X.K n F)) (hr:c_ k X.A) (hm:X.mg x=some (.ref f)) (hk:PySem.W.keepIn X.K (.ref f)=true)
  (hb:Binds X.K fd ps []) (ha:iy X c (e::es) gs) (hT:c.K=X.K:=by rfl) (hg:Gl X x:=by rfl) (hdb:(x == ("__debug__":Str))=false:=by decide) (he:starEach (e::es) X.env=(false,eval e X.env)::starEach es X.env:=by rfl)
  (hpl:(backTo pos (starEach es X.env)).any (·.1)=false:=by rfl):PD X c (.Call (.Name x p) (e::es) [] pos) (gN (aW n F) gs):=
 fP (xN (E:=E0) G hr hg hm hk hb .nil Jp ha hdb he hpl) fun σ H Q ⟨J,env,sr,w⟩=>by
  refine ⟨J,env,sr,aB (aL w) fun rs wr vs J1 H1 e1 r1=>?_⟩
  unfold aW at wr
  split at wr
  ·rename_i hl
   have ar:=r1.args (sr.hp.ext e1)
   rw [hT] at ar
   refine ⟨J1,rs.map dR,e1.sub,by simpa using hl,by rw [List.append_nil];exact ar,?_⟩
   cases q:F (rs.map dR) with
   | bad=>rw [q] at wr;exact wr
   | exc x=>rw [q] at wr;exact wr
   | ok r=>
    rw [q] at wr
    intro v J' H' e2 fr
    refine wr v J' H' (e1.trans e2) ?_
    cases r with
    | d y=>exact (show Rep c.K J' y v from hT▸fr)
    | l m ys=>
     obtain ⟨a,us,h1,h2,h3,h4,h5⟩:=fr
     exact ⟨a,us,h1,h2,h3,e1.h.free h4,hT▸h5⟩
  ·exact wr.elim
end
def cR (cells:List (Str×Addr)):List (Str×NameKind)→List (Str×Addr)→Option (List (Str×Addr))
 | [],cs=>some cs
 | (n,k)::r,cs=>if k == .free then (match cells.lookup n with
  | some a=>cR cells r ((n,a)::cs)
  | none=>none) else cR cells r cs
theorem kh {env:Env}:∀(names:List (Str×NameKind)) (cs cl:List (Str×Addr)),cR env.cells names cs=some cl→
  (forIn names cs fun (x:Str×NameKind) (r:List (Str×Addr))=>(if (x.2 == .free)=true then do let a ←cellOf env x.1;pure (ForInStep.yield ((x.1,a)::r)) else pure (ForInStep.yield r):Sem (ForInStep (List (Str×Addr)))))=(pure cl:Sem (List (Str×Addr)))
 | [],cs,cl,h=>by cases h;rfl
 | (n,k)::r,cs,cl,h=>by
  unfold cR at h
  rw [List.forIn_cons]
  cases hk:(k == NameKind.free) with
  | true=>
   rw [hk,if_pos rfl] at h
   cases hc:env.cells.lookup n with
   | none=>rw [hc] at h;cases h
   | some a=>
    rw [hc] at h
    have e:cellOf env n=pure a:=by unfold cellOf;rw [hc]
    simp only [hk,if_true,e]
    exact kh r ((n,a)::cs) cl h
  | false=>
   rw [hk,if_neg (by decide)] at h
   simp only [hk]
   exact kh r cs cl h
theorem tw {scope:Scope}{env:Env}{cl:List (Str×Addr)}(h:cR env.cells scope.names []=some cl):closureFor scope env=pure cl:=by
 have q:=kh (env:=env) scope.names [] cl h
 unfold closureFor
 show ((forIn scope.names [] fun (x:Str×NameKind) (r:List (Str×Addr))=>(if (x.2 == .free)=true then do let a ←cellOf env x.1;pure (ForInStep.yield ((x.1,a)::r)) else pure (ForInStep.yield r):Sem (ForInStep (List (Str×Addr))))) >>= fun z=>pure z)=pure cl
 rw [q]
 rfl
theorem gu {cells:List (Str×Addr)}:∀(names:List (Str×NameKind)) (cs cl:List (Str×Addr)),cR cells names cs=some cl→(∀x c,cs.lookup x=some c→cells.lookup x=some c)→
  (∀x c,cl.lookup x=some c→cells.lookup x=some c)∧(∀x,((cs.lookup x).isSome=true∨(x,NameKind.free)∈names)→(cl.lookup x).isSome=true)
 | [],cs,cl,h,k=>by
  cases h
  exact ⟨k,fun x hx=>hx.elim id fun z=>by cases z⟩
 | (n,kd)::r,cs,cl,h,k=>by
  unfold cR at h
  cases hk:(kd == NameKind.free) with
  | true=>
   rw [hk,if_pos rfl] at h
   cases hc:cells.lookup n with
   | none=>rw [hc] at h;cases h
   | some a=>
    rw [hc] at h
    obtain ⟨h1,h2⟩:=gu r ((n,a)::cs) cl h (fun x c q=>by
     rw [List.lookup_cons] at q
     cases e:x == n with
     | true=>
      rw [e] at q
      cases q
      have:x=n:=by simpa using e
      rw [this];exact hc
     | false=>rw [e] at q;exact k x c q)
    refine ⟨h1,fun x hx=>h2 x ?_⟩
    by_cases e:x=n
    ·left;subst e;rw [List.lookup_cons];simp
    ·have e':(x == n)=false:=by simpa using e
     rcases hx with hx | hx
     ·left;rw [List.lookup_cons,e'];exact hx
     ·right
      rcases List.mem_cons.mp hx with z | z
      ·cases z;exact absurd rfl e
      ·exact z
  | false=>
   rw [hk,if_neg (by decide)] at h
   obtain ⟨h1,h2⟩:=gu r cs cl h k
   refine ⟨h1,fun x hx=>h2 x ?_⟩
   rcases hx with hx | hx
   ·exact .inl hx
   ·rcases List.mem_cons.mp hx with z | z
    ·cases z;simp at hk
    ·exact .inr z
section
variable {X:Cx}
def cN (X:Cx) (own:List Str) (cap:List Nat):List Str:=own++cap.map fun (j:Nat)=>(X.N[j]?).getD ("":Str)
def Gr (X:Cx) (own:List Str) (cap:List Nat) (scope:Scope) (cl:List (Str×Addr)) (C:Addr) (s:Shared) (H:Hp) (fp:List Addr):Cx where
 prog:=X.prog
 w:=X.w
 K:=X.K
 mg:=X.mg
 base:=X.base
 A:=X.A
 N:=cN X own cap
 s₀:=s
 H₀:=H
 env:=compEnvC scope cl C X.env
 outer:=X.stack
 stack:=X.stack
 ex:=fp
 fn:=fun _=>false
 calm:=X.calm
 pn:=[]
 xe:=fun _ _=>False
def jo (X:Cx) (cap:List Nat):Bool:=cap.all fun j=>match X.N[j]? with
 | some x=>(match X.env.scope.names.lookup x with
  | some .cell=>true
  | some .free=>true
  | _=>false)
 | none=>false
theorem vA {scope:Scope}{env:Env}(hc:∀y∈scope.names,y.2≠.cell):∀{x:Str},((relabel scope env).names.lookup x=some .cell∨(relabel scope env).names.lookup x=some .free)→(x,NameKind.free)∈scope.names:=by
 unfold relabel
 have main:∀(names:List (Str×NameKind)),(∀y∈names,y.2≠.cell)→∀x,((names.map fun (n,k)=>if (k == NameKind.free && env.scope.kind == .function && env.kindOf n == some .cell) then (n,NameKind.cell) else (n,k)).lookup x=some .cell∨
   (names.map fun (n,k)=>if (k == NameKind.free && env.scope.kind == .function && env.kindOf n == some .cell) then (n,NameKind.cell) else (n,k)).lookup x=some .free)→(x,NameKind.free)∈names:=by
  intro names
  induction names with
  | nil=>intro _ x h;simp at h
  | cons p r ih=>
   obtain ⟨n,k⟩:=p
   intro hc x h
   rw [List.map_cons] at h
   simp only at h
   by_cases hx:x=n
   ·subst hx
    have hk:k≠.cell:=hc (x,k) List.mem_cons_self
    have:k=.free:=by
     by_cases q:(k == NameKind.free && env.scope.kind == .function && env.kindOf x == some .cell)=true
     ·rw [Bool.and_eq_true,Bool.and_eq_true] at q
      simpa using q.1.1
     ·rw [if_neg q,List.lookup_cons] at h
      simp at h
      rcases h with h | h
      ·exact absurd h hk
      ·exact h
    subst this
    exact List.mem_cons_self
   ·have hx':(x == n)=false:=by simpa using hx
    refine List.mem_cons_of_mem _ (ih (fun y hy=>hc y (List.mem_cons_of_mem _ hy)) x ?_)
    have red:∀(q:Str×NameKind) (l:List (Str×NameKind)),q.1=n→List.lookup x (q::l)=List.lookup x l:=fun q l hq=>by
     obtain ⟨q1,q2⟩:=q
     simp only at hq
     subst hq
     rw [List.lookup_cons,hx']
    have hq:(if (k == NameKind.free && env.scope.kind == .function && env.kindOf n == some .cell) then (n,NameKind.cell) else (n,k)).1=n:=by split <;> rfl
    rw [red _ _ hq] at h
    exact h
 intro x h
 exact main scope.names hc x h
end
section
variable {prog:Program}{w:World}{A:Around}{R:Result→Shared→Prop}{s:Shared}
theorem uS {elt target iter:Expr}{ifs:List Expr}{scope:Scope}{pos:Pos}{it acc:Value}{env:Env}(I:Nat→Shared→Prop)
  (turn:∀n s,I n s→wpAny (model prog w) A (pyNext it) (fun r s₁=>match r with
   | none=>R (.ok .next) s₁
   | some v=>wpAny (model prog w) A (letOwnedTupleGo target it v) (fun _ s₁=>wpAny (model prog w) A (assign target env v) (fun _ s₂=>
     wpAny (model prog w) A (forIn ifs true fun c r=>if r=true then do let ok ←isTrue c env (eval c env);pure (ForInStep.yield ok) else pure (ForInStep.yield r)) (fun ok s₃=>
      if ok=true then wpAny (model prog w) A (eval elt env) (fun x s₄=>
       wpAny (model prog w) A (call (.builtin "list.append") [acc,x]) (fun _ s₅=>∃m,m < n∧I m s₅) (notedBy (model prog w) A env fun e s'=>R (.error e) s') s₄) (notedBy (model prog w) A env fun e s'=>R (.error e) s') s₃
      else ∃m,m < n∧I m s₃) (notedBy (model prog w) A env fun e s'=>R (.error e) s') s₂) (notedBy (model prog w) A env fun e s'=>R (.error e) s') s₁) (notedBy (model prog w) A env fun e s'=>R (.error e) s') s₁) (notedBy (model prog w) A env fun e s'=>R (.error e) s') s)
  (n:Nat) (h:I n s):
  codeAny (model prog w) A (.compLoop (.ListComp elt [⟨target,iter,ifs,0⟩] scope pos) 0 it acc env) R s:=by
 refine codeAny_loop rfl I (fun n s hI=>?_) n h
 show wpAny _ A ((compTurn (.ListComp elt [⟨target,iter,ifs,0⟩] scope pos) 0 it acc env).onRaise (fun x=>do noteFrame x env;theTreesLotGoes x)) _ _ s
 refine wpAny_noted ?_
 rw [compTurn_list]
 refine wpAny_bind (wpAny_standAt (wpAny_bind (wpAny_mono (turn n s hI) (fun r s₁ h₁=>?_) fun _ _ h'=>h')))
 cases r with
 | none=>exact wpAny_pure h₁
 | some v=>
  refine wpAny_bind (wpAny_mono h₁ (fun _ s₁' h₁'=>?_) fun _ _ h'=>h')
  refine wpAny_bind (wpAny_mono h₁' (fun _ s₂ h₂=>wpAny_bind (wpAny_mono h₂ (fun ok s₃ h₃=>?_) fun _ _ h'=>h')) fun _ _ h'=>h')
  cases ok with
  | false=>exact wpAny_pure ⟨rfl,h₃⟩
  | true=>
   exact wpAny_bind (wpAny_bind (wpAny_mono h₃ (fun x s₄ h₄=>wpAny_bind (wpAny_mono h₄ (fun _ s₅ h₅=>wpAny_pure (wpAny_pure ⟨rfl,h₅⟩)) fun _ _ h'=>h')) fun _ _ h'=>h'))
end
section
variable {X:Cx}{c:C}
def qK (X:Cx) (c:C) (ifs:List Expr) (g:G Bool):Prop:=
 ∀(pins:List (Addr×Obj)) (s:Shared) (σ:L2.St) (H:Hp) (Q:Bool→Hp→Prop),Inv X pins σ H s→tB c g σ H Q→
  wpAny (model X.prog X.w) X.A (forIn ifs true fun c r=>if r=true then do let ok ←isTrue c X.env (eval c X.env);pure (ForInStep.yield ok) else pure (ForInStep.yield r)) (TP X pins σ Q) X.xe s
def eU:G Bool:=fun _=>.ok true
theorem CL:qK X c [] eU:=fun pins s σ H Q I ⟨J,env,sr,w⟩=>wpAny_tests_nil ⟨H,I,w J H (Ext.refl sr.hp.sub)⟩
theorem CM {x:Expr}{g:G Bool}(h:PB X c x g):qK X c [x] g:=fun pins s σ H Q I q=>wpAny_tests_one (h pins s σ H Q I q)
def cI (gt:GT) (gts:G Bool) (ge:G R):List D→Ev→M (List D)
 | [],_=>.ok []
 | d::ds,env=>gt d env >>= fun e=>gts e >>= fun k=>if k=true then ge e >>= fun r=>toD r >>= fun y=>cI gt gts ge ds e >>= fun ys=>.ok (y::ys) else cI gt gts ge ds e
def cE (n:Nat) (cap:List Nat) (env:Ev):Ev:=List.replicate n none++cap.map fun (j:Nat)=>(env[j]?).getD none
def bH (n:Nat) (cap:List Nat) (gi:G (List D)) (gt:GT) (gts:G Bool) (ge:G R):G R:=fun env=>gi env >>= fun ds=>if ds.length≤sizeLine then cI gt gts ge ds (cE n cap env) >>= fun ys=>.ok (.l .fresh ys) else .bad
theorem jn {α:Type}{n:Nat}{cap:List Nat}{env:List (Option α)}{i:Nat}{x:α}(h:(List.replicate n none++cap.map fun (j:Nat)=>(env[j]?).getD none)[i]?=some (some x)):∃j,n≤i∧cap[i - n]?=some j∧env[j]?=some (some x):=by
 by_cases hi:i < n
 ·rw [List.getElem?_append_left (by simpa using hi),List.getElem?_replicate] at h
  split at h <;> cases h
 ·rw [List.getElem?_append_right (by simpa using hi),List.length_replicate,List.getElem?_map] at h
  cases q:cap[i - n]? with
  | none=>rw [q] at h;cases h
  | some j=>
   rw [q] at h
   refine ⟨j,by omega,rfl,?_⟩
   have h':(env[j]?).getD none=some x:=Option.some.inj h
   cases z:env[j]? with
   | none=>rw [z] at h';cases h'
   | some o=>rw [z] at h';exact congrArg some h'
theorem IZ {α:Type}{n:Nat}{cap:List Nat}{env:List (Option α)}{i j:Nat}{x:α}(h1:n≤i) (h2:cap[i - n]?=some j) (h3:env[j]?=some (some x)):(List.replicate n none++cap.map fun (j:Nat)=>(env[j]?).getD none)[i]?=some (some x):=by
 rw [List.getElem?_append_right (by simpa using h1),List.length_replicate,List.getElem?_map,h2]
 simp [h3]
theorem SR.cap {J H:Hp}{σ:L2.St}{env:Ev}(sr:SR c J H σ env) (n:Nat) (cap:List Nat) (hnd:cap.Nodup):SR c J H (List.replicate n none++cap.map fun (j:Nat)=>(σ[j]?).getD none) (cE n cap env):=by
 refine ⟨sr.hp,by simp [cE],fun i x q=>?_,fun i j xs ys v hij q1 q2 q3 q4=>?_⟩
 ·obtain ⟨j,h1,h2,h3⟩:=jn q
  obtain ⟨v,k1,k2⟩:=sr.at_ j x h3
  exact ⟨v,IZ h1 h2 k1,k2⟩
 ·obtain ⟨a,h1,h2,h3⟩:=jn q1
  obtain ⟨b,h4,h5,h6⟩:=jn q2
  obtain ⟨a',h7,h8,h9⟩:=jn q3
  obtain ⟨b',h10,h11,h12⟩:=jn q4
  rw [h2] at h8;cases h8
  rw [h5] at h11;cases h11
  have hab:a≠b:=fun z=>by
   subst z
   have e1:=(List.getElem?_eq_some_iff.mp h2)
   have e2:=(List.getElem?_eq_some_iff.mp h5)
   have:=(List.getElem_inj hnd).mp (e1.2.trans e2.2.symm)
   omega
  exact sr.sep a b xs ys v hab h3 h6 h9 h12
theorem SR.other {J H:Hp}{σ:L2.St}{env:Ev}(sr:SR c J H σ env){p:Addr}{o:HO}(hJ:J p=none) (h0:c.H0 p=none) (hn:∀(j:Nat) (xs:List D),env[j]?=some (some (.own xs))→σ[j]?≠some (some (.ref p))):SR c J (L2.upd H p o) σ env:=by
 refine ⟨⟨fun b u q=>?_,fun b u q=>?_,sr.hp.entJ,sr.hp.frz⟩,sr.len,fun j y q=>?_,sr.sep⟩
 ·have:b≠p:=fun z=>by rw [z,hJ] at q;cases q
  rw [br this];exact sr.hp.sub b u q
 ·have:b≠p:=fun z=>by rw [z,h0] at q;cases q
  rw [br this];exact sr.hp.ent b u q
 ·obtain ⟨w,k1,k2⟩:=sr.at_ j y q
  refine ⟨w,k1,?_⟩
  cases y with
  | d x=>exact k2
  | bor zs=>exact k2
  | own zs=>
   obtain ⟨p',us,rfl,m1,m2,m3,m4⟩:=k2
   have hne:p'≠p:=fun z=>hn j zs q (z▸k1)
   exact ⟨p',us,rfl,by rw [br hne];exact m1,m2,m3,m4⟩
theorem Ext.other {J H J' H':Hp}(e:Ext J H J' H'){p:Addr}{o:HO}(h:H p=none) (hJ:J' p=none):Ext J H J' (L2.upd H' p o):=
 ⟨fun b u q=>by rw [br (dB q h)];exact e.h b u q,e.j,fun b u q=>by
  have:b≠p:=fun z=>by rw [z,hJ] at q;cases q
  rw [br this];exact e.sub b u q,e.frz⟩
theorem wJ {P:Program}{w:World}{H:Hp}{h h':Heap}{a:Addr}(x:fN P w H h) (hn:H a=none) (sb:Heap.SameBut a h h'):fN P w H h':=fun b u e=>by
 refine (x b u e).stay (fun d v hd q=>(sb.2 d ?_).trans q) (fun _ q=>q) fun _ _ q=>q
 rintro rfl
 rcases hd with rfl | hd
 ·rw [hn] at e;cases e
 ·rw [hn] at hd;cases hd
theorem Lc {pins:List (Addr×Obj)}{σ:L2.St}{H:Hp}{s:Shared}{own:List Str}{cap:List Nat}{scope:Scope}{cl:List (Str×Addr)}{fp:List Addr}{h1:Heap}{m:Str→Option Value}{tk:Nat}(I:Inv X pins σ H s) (ok:(Gr X own cap scope cl s.heap.objs.size s H fp).Ok)
  (hcl:cR X.env.cells scope.names []=some cl) (hcell:∀y∈scope.names,y.2≠.cell) (hcap:jo X cap=true) (hlocal:∀j∈cap,∀x,X.N[j]?=some x→(relabel scope X.env).names.lookup x≠some .local)
  (hns:h1.Ns s.heap.objs.size m) (old:∀b o,s.heap.get? b=some o→h1.get? b=some o):
  Inv (Gr X own cap scope cl s.heap.objs.size s H fp) [] (List.replicate own.length none++cap.map fun (j:Nat)=>(σ[j]?).getD none) H {s with heap:=h1,toks:=tk}:=by
 obtain ⟨m1,m2⟩:=gu scope.names [] cl hcl (fun x c h=>by simp at h)
 refine ⟨ok,rfl,I.bare,Un.kept old,⟨m,hns,fun i x v q1 q2 q3=>?_⟩,fun x d h=>?_,I.hok.fresh (Nat.le_refl _),fun x d h=>I.freeC x d (m1 x d h),fun p hp=>absurd (show p∈([]:List (Addr×Obj)) from hp) (by simp),I.hok.kept old,?_⟩
 ·obtain ⟨j,h2,h3,h4⟩:=jn q2
  have q1':(own++cap.map fun (j:Nat)=>(X.N[j]?).getD ("":Str))[i]?=some x:=q1
  rw [List.getElem?_append_right (by exact h2),List.getElem?_map,h3] at q1'
  have hj:j∈cap:=List.mem_of_getElem? h3
  have hc:(match X.N[j]? with
   | some x=>(match X.env.scope.names.lookup x with
    | some .cell=>true
    | some .free=>true
    | _=>false)
   | none=>false)=true:=by
   unfold jo at hcap
   exact List.all_eq_true.mp hcap j hj
  cases hx:X.N[j]? with
  | none=>rw [hx] at hc;cases hc
  | some y=>
   rw [Option.map_some,hx] at q1'
   rw [hx] at hc
   have e:y=x:=by simpa using q1'
   subst e
   have kd:X.env.kindOf y=some .cell∨X.env.kindOf y=some .free:=by
    unfold Env.kindOf
    simp only at hc
    split at hc
    ·rename_i z;exact .inl z
    ·rename_i z;exact .inr z
    ·cases hc
   obtain ⟨mX,nX,lX⟩:=I.loc
   obtain ⟨u,ru,lu⟩:=lX j y v hx h4 (kd.elim (fun z=>.inr (.inl z)) fun z=>.inr (.inr z))
   refine ⟨u,ru,.inr ?_⟩
   have kd':(relabel scope X.env).names.lookup y=some .cell∨(relabel scope X.env).names.lookup y=some .free:=by
    rcases q3 with z | z | z
    ·exact absurd z (hlocal j hj y hx)
    ·exact .inl z
    ·exact .inr z
   refine ⟨kd',?_⟩
   obtain ⟨d,hd⟩:=Option.isSome_iff_exists.mp (m2 y (.inr (vA hcell kd')))
   refine ⟨d,hd,?_⟩
   rcases lu with ⟨z,_⟩ | ⟨_,d',hd',z⟩
   ·rcases kd with k | k <;> (rw [k] at z;cases z)
   ·have:=m1 y d hd
    rw [hd'] at this
    cases this
    obtain ⟨o,ho,hod⟩:=z
    exact ⟨o,old _ _ ho,hod⟩
 ·obtain ⟨v,o,ho,hod⟩:=I.cell x d (m1 x d h)
  exact ⟨v,o,old _ _ ho,hod⟩
 ·show _=(own++cap.map fun (j:Nat)=>(X.N[j]?).getD ("":Str)).length
  simp
def mQ (X:Cx) (cap:List Nat) (scope:Scope):Bool:=cap.all fun j=>match X.N[j]? with
 | some x=>!((relabel scope X.env).names.lookup x == some .local)
 | none=>true
def nA:List Nat→Bool
 | []=>true
 | x::r=>!(r.contains x) && nA r
theorem xG:∀{l:List Nat},nA l=true→l.Nodup
 | [],_=>List.nodup_nil
 | x::r,h=>by
  unfold nA at h
  rw [Bool.and_eq_true] at h
  refine List.nodup_cons.mpr ⟨fun z=>?_,xG h.2⟩
  have:=h.1
  simp [z] at this
theorem Gm {X:Cx}{pins:List (Addr×Obj)}{σ:L2.St}{H:Hp}{s:Shared}(I:L2.Inv X pins σ H s){T:Addr}(h:s.heap.objs.size≤T):(T∈X.ex∨X.s₀.heap.objs.size≤T)∧T≠X.env.locals∧(∀x c,X.env.cells.lookup x=some c→c≠T)∧∀p∈X.pn++pins,p.1≠T:=by
 have ne:∀b,b < s.heap.objs.size→b≠T:=fun b hb z=>absurd (Nat.lt_of_lt_of_le (z▸hb) h) (Nat.lt_irrefl _)
 refine ⟨.inr (Nat.le_trans I.sz h),(ne _ I.lt).symm,fun x c hc=>?_,fun p hp=>ne _ (Heap.lt_size (I.pin p hp).1)⟩
 obtain ⟨v,o,hv,_⟩:=I.cell x c hc
 exact ne _ (Heap.lt_size hv)
theorem AB {X:Cx}{pins:List (Addr×Obj)}{σ:L2.St}{H:Hp}{s:Shared}{C:Addr}{h':Heap}{o0:Obj}(I:L2.Inv X pins σ H s) (ap:(C∈X.ex∨X.s₀.heap.objs.size≤C)∧C≠X.env.locals∧(∀x c,X.env.cells.lookup x=some c→c≠C)∧∀p∈X.pn++pins,p.1≠C) (hf:H C=none) (sb:Heap.SameBut C s.heap h'):L2.Inv X pins σ H {s with heap:=h'}:=by
 refine I.call' (ch:=[C]) rfl ⟨fun b o hb hn _ hx=>?_,fun b o hb hn _ hx=>⟨o.slots,?_⟩,fun _ _ _ n _=>n,fun b o hb hx=>⟨o,?_⟩,fun _ _ q=>q,fun _ _ _ q=>q,fun _ ps q=>⟨#[],by rw [q];simp⟩⟩ (fun a o ha=>?_) I.bare (fun b hb=>by rw [List.mem_singleton.mp hb];exact ap)
 ·exact (sb.2 b fun z=>hx (by simp [z])).trans hb
 ·exact (sb.2 b fun z=>hx (by simp [z])).trans hb
 ·exact (sb.2 b fun z=>hx (by simp [z])).trans hb
 ·refine (I.hok a o ha).stay (fun b u hb q=>(sb.2 b fun z=>?_).trans q) (fun _ q=>q) fun _ _ q=>q
  rcases hb with rfl | hb
  ·rw [z,hf] at ha;cases ha
  ·rw [z,hf] at hb;cases hb
end
mutual
def bh:D→D→Bool
 | .non,.non=>true
 | .bl p,.bl q=>p == q
 | .bl p,.int q=>(if p then 1 else 0) == q
 | .int p,.bl q=>p == (if q then 1 else 0)
 | .int p,.int q=>p == q
 | .str p,.str q=>p == q
 | .tup p,.tup q=>cY p q
 | .lst p,.lst q=>cY p q
 | .emp,.emp=>true
 | .exn _ _ _,.exn _ _ _=>true
 | _,_=>false
def cY:List D→List D→Bool
 | [],[]=>true
 | x::xs,y::ys=>bh x y && cY xs ys
 | _,_=>false
end
mutual
def dep:D→Nat
 | .tup xs=>deps xs + 1
 | .lst xs=>deps xs + 1
 | .emp=>5000
 | .exn _ _ _=>5000
 | _=>0
def deps:List D→Nat
 | []=>0
 | x::xs=>max (dep x) (deps xs)
end
mutual
theorem iX:∀d:D,bh d d=true
 | .non=>by simp [bh]
 | .bl _=>by simp [bh]
 | .int _=>by simp [bh]
 | .str _=>by simp [bh]
 | .tup xs=>by simp only [bh];exact mU xs
 | .lst xs=>by simp only [bh];exact mU xs
 | .emp=>by simp [bh]
 | .exn _ _ _=>by simp [bh]
theorem mU:∀ds:List D,cY ds ds=true
 | []=>by simp [cY]
 | x::xs=>by simp only [cY,iX x,mU xs,Bool.and_self]
end
theorem lD:∀{xs ys:List D},xs.length≠ys.length→cY xs ys=false
 | [],[],h=>absurd rfl h
 | [],_::_,_=>by simp [cY]
 | _::_,[],_=>by simp [cY]
 | x::xs,y::ys,h=>by
  simp only [cY,lD (xs:=xs) (ys:=ys) (fun z=>h (congrArg (· + 1) z)),Bool.and_false]
def lI (xs ys:List D) (j:Nat):Bool:=match xs[j]?,ys[j]? with
 | some x,some y=>bh x y
 | _,_=>false
theorem lE:∀{xs ys:List D},xs.length=ys.length→(List.range xs.length).all (lI xs ys)=cY xs ys
 | [],[],_=>by simp [cY]
 | x::xs,y::ys,h=>by
  have ih:=lE (xs:=xs) (ys:=ys) (by simpa using h)
  rw [List.length_cons,List.range_succ_eq_map,List.all_cons,List.all_map]
  simp only [cY]
  rw [←ih]
  rfl
theorem uT (xs ys:List D):((List.range (min xs.length ys.length)).all (lI xs ys) && xs.length == ys.length)=cY xs ys:=by
 by_cases h:xs.length=ys.length
 ·rw [←h,Nat.min_self,lE h];simp
 ·rw [lD h,beq_eq_false_iff_ne.mpr h,Bool.and_false]
section
structure HF (K:PySem.W.Frag) (J:Hp) (s:Shared):Prop where
 t:∀a xs,cX K J a xs→∃its:List Value,Vals xs its∧s.heap.IsTuple a its.toArray
 l:∀a xs,cG K J a xs→∃its:List Value,Vals xs its∧s.heap.IsList a its.toArray
 e:∀a,J a=some (.dK [])→∃o,s.heap.get? a=some o∧o.cls=.type "dict"
variable {K:PySem.W.Frag}{J:Hp}{s:Shared}
theorem HF.of {X:Cx}{c:C}{pins:List (Addr×Obj)}{σ:L2.St}{H:Hp}(I:Inv X pins σ H s) (hs:a_ J H):HF X.K J s:=
 ⟨fun a xs h=>let ⟨its,r,p,_⟩:=I.tuple (eB hs h);⟨its,r,p⟩,fun a xs h=>let ⟨its,r,p,_⟩:=I.list (hs.seq h);⟨its,r,p.isList⟩,fun a h=>by
  obtain ⟨_,_,vs,_,p⟩:=(show cF X.prog X.w H s.heap a (.dK []) from I.hok a _ (hs _ _ h))
  obtain ⟨o,es,ep,h1,h2,_⟩:=p
  exact ⟨o,h1,h2.1⟩⟩
theorem Ak {a:Addr}{xs ys:List Value}(h:s.heap.IsTuple a xs.toArray) (h':s.heap.IsTuple a ys.toArray):xs=ys:=by
 obtain ⟨o,ho,_,n,hd⟩:=h
 obtain ⟨o',ho',_,n',hd'⟩:=h'
 rw [ho] at ho';cases ho'
 rw [hd] at hd'
 injection hd' with h1 _
 simpa using congrArg Array.toList h1
theorem yK {a:Addr}{xs ys:List Value}(h:s.heap.IsList a xs.toArray) (h':s.heap.IsList a ys.toArray):xs=ys:=by
 obtain ⟨o,ho,_,n,hd⟩:=h
 obtain ⟨o',ho',_,n',hd'⟩:=h'
 rw [ho] at ho';cases ho'
 rw [hd] at hd'
 injection hd' with h1 _
 simpa using congrArg Array.toList h1
mutual
theorem Rep.inj (F:HF K J s):∀{d e:D}{v:V},Rep K J d v→Rep K J e v→dep d≤1000→dep e≤1000→d=e
 | _,_,_,.emp _,_,h,_=>by unfold dep at h;omega
 | _,_,_,.exn _ _ _ _ _,_,h,_=>by unfold dep at h;omega
 | _,_,_,.non,.non,_,_=>rfl
 | _,_,_,.bl _,.bl _,_,_=>rfl
 | _,_,_,.int _,.int _,_,_=>rfl
 | _,_,_,.str _,.str _,_,_=>rfl
 | _,_,_,.tup _ _,.emp _,_,h=>by unfold dep at h;omega
 | _,_,_,.lst _ _,.emp _,_,h=>by unfold dep at h;omega
 | _,_,_,.tup _ _,.exn _ _ _ _ _,_,h=>by unfold dep at h;omega
 | _,_,_,.lst _ _,.exn _ _ _ _ _,_,h=>by unfold dep at h;omega
 | _,_,_,.tup h hs,.tup h' hs',k,k'=>by
  obtain ⟨its,r,p⟩:=F.t _ _ h
  obtain ⟨its',r',p'⟩:=F.t _ _ h'
  have:=Ak p p'
  subst this
  have:=r.inj r'
  subst this
  rw [aG.inj F hs hs' (by unfold dep at k;omega) (by unfold dep at k';omega)]
 | _,_,_,.lst h hs,.lst h' hs',k,k'=>by
  obtain ⟨its,r,p⟩:=F.l _ _ h
  obtain ⟨its',r',p'⟩:=F.l _ _ h'
  have:=yK p p'
  subst this
  have:=r.inj r'
  subst this
  rw [aG.inj F hs hs' (by unfold dep at k;omega) (by unfold dep at k';omega)]
 | _,_,_,.tup h _,.lst h' _,_,_=>by
  obtain ⟨its,r,p⟩:=F.t _ _ h
  obtain ⟨its',r',p'⟩:=F.l _ _ h'
  exact absurd rfl (SeqAt.ne_of_list_tuple p' p)
 | _,_,_,.lst h _,.tup h' _,_,_=>by
  obtain ⟨its,r,p⟩:=F.l _ _ h
  obtain ⟨its',r',p'⟩:=F.t _ _ h'
  exact absurd rfl (SeqAt.ne_of_list_tuple p p')
theorem aG.inj (F:HF K J s):∀{ds es:List D}{vs:List V},aG K J ds vs→aG K J es vs→deps ds≤1000→deps es≤1000→ds=es
 | _,_,_,.nil,.nil,_,_=>rfl
 | _,_,_,.cons h hs,.cons h' hs',k,k'=>by rw [Rep.inj F h h' (by unfold deps at k;omega) (by unfold deps at k';omega),aG.inj F hs hs' (by unfold deps at k;omega) (by unfold deps at k';omega)]
end
theorem iR {A:Around}{a:Addr}{its:Array Value}{v:V}{u:Value}(h:s.heap.IsTuple a its) (r:RelV v u) (f:pT v=true) (hu:A.units < cLine):SeqAt.EqAt A s (.ref a) u false∧SeqAt.EqAt A s u (.ref a) false:=by
 cases v with
 | non=>cases r;exact ⟨.tuple_none h hu,.none_tuple h hu⟩
 | bl b=>cases r;exact ⟨.tuple_bool b h hu,.bool_tuple b h hu⟩
 | int i=>obtain ⟨t,rfl⟩:=r;exact ⟨.tuple_int i t h hu,.int_tuple i t h hu⟩
 | str x=>obtain ⟨t,rfl⟩:=r;exact ⟨.tuple_str x t h hu,.str_tuple x t h hu⟩
 | _=>exact absurd (show false=true from f) Bool.false_ne_true
theorem jf {A:Around}{a:Addr}{its:Array Value}{v:V}{u:Value}(h:s.heap.IsList a its) (r:RelV v u) (f:pT v=true) (hu:A.units < cLine):SeqAt.EqAt A s (.ref a) u false∧SeqAt.EqAt A s u (.ref a) false:=by
 cases v with
 | non=>cases r;exact ⟨.list_none h hu,.none_list h hu⟩
 | bl b=>cases r;exact ⟨.list_bool b h hu,.bool_list b h hu⟩
 | int i=>obtain ⟨t,rfl⟩:=r;exact ⟨.list_int i t h hu,.int_list i t h hu⟩
 | str x=>obtain ⟨t,rfl⟩:=r;exact ⟨.list_str x t h hu,.str_list x t h hu⟩
 | _=>exact absurd (show false=true from f) Bool.false_ne_true
def nu:D→Bool
 | .tup _=>false
 | .lst _=>false
 | .emp=>false
 | .exn _ _ _=>false
 | _=>true
theorem Rep.flat {d:D}{v:V}(h:Rep K J d v) (f:nu d=true):pT v=true:=by
 cases h <;> first | rfl | cases f
theorem BJ {d e:D}{v w:V}(h:Rep K J d v) (h':Rep K J e w) (f:nu d=true) (f':nu e=true):Gy v w=bh d e:=by
 cases h <;> cases h' <;> first | rfl | cases f | cases f' | simp [Gy,bh]
theorem in1_units (A:Around):A.in1.units=A.units + 1:=rfl
theorem pS (F:HF K J s){d e:D}{v w:V}{u u':Value}(A:Around) (hd:Rep K J d v) (he:Rep K J e w) (rv:RelV v u) (rw':RelV w u') (f:nu d=true) (hu:A.units < cLine) (hu':dep e≤1000):SeqAt.EqAt A s u u' (bh d e):=by
 cases q:nu e with
 | true=>rw [←BJ hd he f q];exact Gx rv rw' (hd.flat f) (he.flat q)
 | false=>
  cases he with
  | tup h' hs'=>
   cases rw'
   obtain ⟨its',r',p'⟩:=F.t _ _ h'
   have:=(iR p' rv (hd.flat f) hu).2
   cases hd <;> first | exact this | cases f
  | lst h' hs'=>
   cases rw'
   obtain ⟨its',r',p'⟩:=F.l _ _ h'
   have:=(jf p' rv (hd.flat f) hu).2
   cases hd <;> first | exact this | cases f
  | emp _=>unfold dep at hu';omega
  | exn _ _ _ _ _=>unfold dep at hu';omega
  | _=>cases q
mutual
theorem mS (F:HF K J s):∀{d e:D}{v w:V}{u u':Value}(A:Around),Rep K J d v→Rep K J e w→RelV v u→RelV w u'→A.units + dep d < cLine→dep d≤1000→dep e≤1000→SeqAt.EqAt A s u u' (bh d e)
 | .tup ds,e,_,w,u,u',A,.tup h hs,he,rv,rw',hu,hd1,hu'=>by
  cases rv
  obtain ⟨its,r,p⟩:=F.t _ _ h
  have hu0:A.units < cLine:=by unfold dep at hu;omega
  cases he with
  | tup h' hs'=>
   cases rw'
   obtain ⟨its',r',p'⟩:=F.t _ _ h'
   rename_i a vs b ws es
   by_cases q:a=b
   ·subst q
    have:=Rep.inj F (.tup h hs) (.tup h' hs') hd1 hu'
    rw [←this,iX]
    exact SeqAt.EqAt.same _
   ·have l1:its.length=ds.length:=by rw [←r.length,hs.length]
    have l2:its'.length=es.length:=by rw [←r'.length,hs'.length]
    simp only [bh]
    rw [←uT,←l1,←l2]
    refine SeqAt.EqAt.of_refs q ?_
    have:=SeqAt.RcAt.tuples (e:=lI ds es) p p' hu0 fun j j1 j2=>by
     have k1:j < ds.length:=by rw [←l1];simpa using j1
     have k2:j < es.length:=by rw [←l2];simpa using j2
     have:=kG F A.in1 hs hs' r r' (by rw [in1_units];unfold dep at hu;omega) (by unfold dep at hd1;omega) (by unfold dep at hu';omega) j k1 k2
     have m1:j < its.length:=by simpa using j1
     have m2:j < its'.length:=by simpa using j2
     simpa [m1,m2] using this
    simpa using this
  | lst h' hs'=>
   cases rw'
   obtain ⟨its',r',p'⟩:=F.l _ _ h'
   exact SeqAt.EqAt.tuple_list p p' hu0
  | non=>exact (iR p rw' rfl hu0).1
  | bl _=>exact (iR p rw' rfl hu0).1
  | int _=>exact (iR p rw' rfl hu0).1
  | str _=>exact (iR p rw' rfl hu0).1
  | emp _=>unfold dep at hu';omega
  | exn _ _ _ _ _=>unfold dep at hu';omega
 | .lst ds,e,_,w,u,u',A,.lst h hs,he,rv,rw',hu,hd1,hu'=>by
  cases rv
  obtain ⟨its,r,p⟩:=F.l _ _ h
  have hu0:A.units < cLine:=by unfold dep at hu;omega
  cases he with
  | lst h' hs'=>
   cases rw'
   obtain ⟨its',r',p'⟩:=F.l _ _ h'
   rename_i a vs b ws es
   by_cases q:a=b
   ·subst q
    have:=Rep.inj F (.lst h hs) (.lst h' hs') hd1 hu'
    rw [←this,iX]
    exact SeqAt.EqAt.same _
   ·have l1:its.length=ds.length:=by rw [←r.length,hs.length]
    have l2:its'.length=es.length:=by rw [←r'.length,hs'.length]
    simp only [bh]
    refine SeqAt.EqAt.of_refs q ?_
    by_cases z:ds.length=es.length
    ·rw [←lE z,←l1]
     have:=SeqAt.RcAt.lists (e:=lI ds es) p p' (by simp;omega) hu0 fun j j1 j2=>by
      have k1:j < ds.length:=by rw [←l1];simpa using j1
      have k2:j < es.length:=by rw [←l2];simpa using j2
      have:=kG F A.in1 hs hs' r r' (by rw [in1_units];unfold dep at hu;omega) (by unfold dep at hd1;omega) (by unfold dep at hu';omega) j k1 k2
      have m1:j < its.length:=by simpa using j1
      have m2:j < its'.length:=by simpa using j2
      simpa [m1,m2] using this
     simpa using this
    ·rw [lD z]
     exact SeqAt.RcAt.lists_lengths p p' (by simp;omega) hu0
  | tup h' hs'=>
   cases rw'
   obtain ⟨its',r',p'⟩:=F.t _ _ h'
   exact SeqAt.EqAt.list_tuple p p' hu0
  | non=>exact (jf p rw' rfl hu0).1
  | bl _=>exact (jf p rw' rfl hu0).1
  | int _=>exact (jf p rw' rfl hu0).1
  | str _=>exact (jf p rw' rfl hu0).1
  | emp _=>unfold dep at hu';omega
  | exn _ _ _ _ _=>unfold dep at hu';omega
 | .non,e,v,w,u,u',A,hd,he,rv,rw',hu,_,hu'=>pS F A hd he rv rw' rfl (by omega) hu'
 | .bl _,e,v,w,u,u',A,hd,he,rv,rw',hu,_,hu'=>pS F A hd he rv rw' rfl (by omega) hu'
 | .int _,e,v,w,u,u',A,hd,he,rv,rw',hu,_,hu'=>pS F A hd he rv rw' rfl (by omega) hu'
 | .emp,e,v,w,u,u',A,hd,he,rv,rw',hu,hd1,hu'=>by unfold dep at hd1;omega
 | .exn _ _ _,e,v,w,u,u',A,hd,he,rv,rw',hu,hd1,hu'=>by unfold dep at hd1;omega
 | .str _,e,v,w,u,u',A,hd,he,rv,rw',hu,_,hu'=>pS F A hd he rv rw' rfl (by omega) hu'
theorem kG (F:HF K J s):∀{ds es:List D}{vs ws:List V}{us us':List Value}(A:Around),aG K J ds vs→aG K J es ws→Vals vs us→Vals ws us'→A.units + deps ds < cLine→deps ds≤1000→deps es≤1000→
  ∀(j:Nat) (h1:j < ds.length) (h2:j < es.length),SeqAt.EqAt A s (us.getD j .none) (us'.getD j .none) (lI ds es j)
 | _,_,_,_,_,_,A,.cons h hs,.cons h' hs',.cons r rs,.cons r' rs',hu,k1,k2,0,_,_=>mS F A h h' r r' (by unfold deps at hu;omega) (by unfold deps at k1;omega) (by unfold deps at k2;omega)
 | _,_,_,_,_,_,A,.cons h hs,.cons h' hs',.cons r rs,.cons r' rs',hu,k1,k2,j + 1,h1,h2=>kG F A hs hs' rs rs' (by unfold deps at hu;omega) (by unfold deps at k1;omega) (by unfold deps at k2;omega) j (by simpa using h1) (by simpa using h2)
end
end
section
variable {K:PySem.W.Frag}{J:Hp}{s:Shared}
theorem A2 (F:HF K J s){d e:D}{v w:V}{u u':Value}(A:Around) (hd:Rep K J d v) (he:Rep K J e w) (rv:RelV v u) (rw':RelV w u') (hu:A.units + dep d < cLine) (hd1:dep d≤1000) (hu':dep e≤1000):SeqAt.RcAt A s u u' (bh d e)∧SeqAt.RcNeAt A s u u' (!bh d e):=by
 have hu0:A.units < cLine:=by omega
 cases hd with
 | non=>
  cases rv
  cases he with
  | non=>cases rw';exact ⟨.none_none,.none_none⟩
  | bl b=>cases rw';exact ⟨.none_bool b,.none_bool b⟩
  | int i=>obtain ⟨t,rfl⟩:=rw';exact ⟨.none_int i t,.none_int i t⟩
  | str x=>obtain ⟨t,rfl⟩:=rw';exact ⟨.none_str x t,.none_str x t⟩
  | tup h hs=>cases rw';obtain ⟨its,r,p⟩:=F.t _ _ h;exact ⟨.none_tuple p hu0,.none_tuple p hu0⟩
  | lst h hs=>cases rw';obtain ⟨its,r,p⟩:=F.l _ _ h;exact ⟨.none_list p hu0,.none_list p hu0⟩
  | emp _=>unfold dep at hu';omega
  | exn _ _ _ _ _=>unfold dep at hu';omega
 | bl a=>
  cases rv
  cases he with
  | non=>cases rw';exact ⟨.bool_none a,.bool_none a⟩
  | bl b=>cases rw';exact ⟨.bool_bool a b,.bool_bool a b⟩
  | int i=>obtain ⟨t,rfl⟩:=rw';exact ⟨.bool_int a i t,.bool_int a i t⟩
  | str x=>obtain ⟨t,rfl⟩:=rw';exact ⟨.bool_str a x t,.bool_str a x t⟩
  | tup h hs=>cases rw';obtain ⟨its,r,p⟩:=F.t _ _ h;exact ⟨.bool_tuple a p hu0,.bool_tuple a p hu0⟩
  | lst h hs=>cases rw';obtain ⟨its,r,p⟩:=F.l _ _ h;exact ⟨.bool_list a p hu0,.bool_list a p hu0⟩
  | emp _=>unfold dep at hu';omega
  | exn _ _ _ _ _=>unfold dep at hu';omega
 | int a=>
  obtain ⟨t0,rfl⟩:=rv
  cases he with
  | non=>cases rw';exact ⟨.int_none a t0,.int_none a t0⟩
  | bl b=>cases rw';exact ⟨.int_bool a t0 b,.int_bool a t0 b⟩
  | int i=>obtain ⟨t,rfl⟩:=rw';exact ⟨.int_int a t0 i t,.int_int a t0 i t⟩
  | str x=>obtain ⟨t,rfl⟩:=rw';exact ⟨.int_str a t0 x t,.int_str a t0 x t⟩
  | tup h hs=>cases rw';obtain ⟨its,r,p⟩:=F.t _ _ h;exact ⟨.int_tuple a t0 p hu0,.int_tuple a t0 p hu0⟩
  | lst h hs=>cases rw';obtain ⟨its,r,p⟩:=F.l _ _ h;exact ⟨.int_list a t0 p hu0,.int_list a t0 p hu0⟩
  | emp _=>unfold dep at hu';omega
  | exn _ _ _ _ _=>unfold dep at hu';omega
 | str a=>
  obtain ⟨t0,rfl⟩:=rv
  cases he with
  | non=>cases rw';exact ⟨.str_none a t0,.str_none a t0⟩
  | bl b=>cases rw';exact ⟨.str_bool a t0 b,.str_bool a t0 b⟩
  | int i=>obtain ⟨t,rfl⟩:=rw';exact ⟨.str_int a t0 i t,.str_int a t0 i t⟩
  | str x=>obtain ⟨t,rfl⟩:=rw';exact ⟨.str_str a t0 x t,.str_str a t0 x t⟩
  | tup h hs=>cases rw';obtain ⟨its,r,p⟩:=F.t _ _ h;exact ⟨.str_tuple a t0 p hu0,.str_tuple a t0 p hu0⟩
  | lst h hs=>cases rw';obtain ⟨its,r,p⟩:=F.l _ _ h;exact ⟨.str_list a t0 p hu0,.str_list a t0 p hu0⟩
  | emp _=>unfold dep at hu';omega
  | exn _ _ _ _ _=>unfold dep at hu';omega
 | tup h hs=>
  cases rv
  obtain ⟨its,r,p⟩:=F.t _ _ h
  cases he with
  | non=>cases rw';exact ⟨.tuple_none p hu0,.tuple_none p hu0⟩
  | bl b=>cases rw';exact ⟨.tuple_bool b p hu0,.tuple_bool b p hu0⟩
  | int i=>obtain ⟨t,rfl⟩:=rw';exact ⟨.tuple_int i t p hu0,.tuple_int i t p hu0⟩
  | str x=>obtain ⟨t,rfl⟩:=rw';exact ⟨.tuple_str x t p hu0,.tuple_str x t p hu0⟩
  | lst h' hs'=>cases rw';obtain ⟨its',r',p'⟩:=F.l _ _ h';exact ⟨.tuple_list p p' hu0,.tuple_list p p' hu0⟩
  | emp _=>unfold dep at hu';omega
  | exn _ _ _ _ _=>unfold dep at hu';omega
  | tup h' hs'=>
   cases rw'
   obtain ⟨its',r',p'⟩:=F.t _ _ h'
   rename_i a vs ds b ws es
   have l1:its.length=ds.length:=by rw [←r.length,hs.length]
   have l2:its'.length=es.length:=by rw [←r'.length,hs'.length]
   have it:∀(j:Nat) (j1:j < its.toArray.size) (j2:j < its'.toArray.size),SeqAt.EqAt A.in1 s its.toArray[j] its'.toArray[j] (lI ds es j):=fun j j1 j2=>by
    have k1:j < ds.length:=by rw [←l1];simpa using j1
    have k2:j < es.length:=by rw [←l2];simpa using j2
    have:=kG F A.in1 hs hs' r r' (by rw [in1_units];unfold dep at hu;omega) (by unfold dep at hd1;omega) (by unfold dep at hu';omega) j k1 k2
    have m1:j < its.length:=by simpa using j1
    have m2:j < its'.length:=by simpa using j2
    simpa [m1,m2] using this
   simp only [bh]
   rw [←uT,←l1,←l2]
   have q1:=SeqAt.RcAt.tuples p p' hu0 it
   have q2:=SeqAt.RcNeAt.tuples p p' hu0 it
   exact ⟨by simpa using q1,by simpa using q2⟩
 | emp _=>unfold dep at hd1;omega
 | exn _ _ _ _ _=>unfold dep at hd1;omega
 | lst h hs=>
  cases rv
  obtain ⟨its,r,p⟩:=F.l _ _ h
  cases he with
  | non=>cases rw';exact ⟨.list_none p hu0,.list_none p hu0⟩
  | bl b=>cases rw';exact ⟨.list_bool b p hu0,.list_bool b p hu0⟩
  | int i=>obtain ⟨t,rfl⟩:=rw';exact ⟨.list_int i t p hu0,.list_int i t p hu0⟩
  | str x=>obtain ⟨t,rfl⟩:=rw';exact ⟨.list_str x t p hu0,.list_str x t p hu0⟩
  | tup h' hs'=>cases rw';obtain ⟨its',r',p'⟩:=F.t _ _ h';exact ⟨.list_tuple p p' hu0,.list_tuple p p' hu0⟩
  | emp _=>unfold dep at hu';omega
  | exn _ _ _ _ _=>unfold dep at hu';omega
  | lst h' hs'=>
   cases rw'
   obtain ⟨its',r',p'⟩:=F.l _ _ h'
   rename_i a vs ds b ws es
   have l1:its.length=ds.length:=by rw [←r.length,hs.length]
   have l2:its'.length=es.length:=by rw [←r'.length,hs'.length]
   have it:∀(j:Nat) (j1:j < its.toArray.size) (j2:j < its'.toArray.size),SeqAt.EqAt A.in1 s its.toArray[j] its'.toArray[j] (lI ds es j):=fun j j1 j2=>by
    have k1:j < ds.length:=by rw [←l1];simpa using j1
    have k2:j < es.length:=by rw [←l2];simpa using j2
    have:=kG F A.in1 hs hs' r r' (by rw [in1_units];unfold dep at hu;omega) (by unfold dep at hd1;omega) (by unfold dep at hu';omega) j k1 k2
    have m1:j < its.length:=by simpa using j1
    have m2:j < its'.length:=by simpa using j2
    simpa [m1,m2] using this
   simp only [bh]
   by_cases z:ds.length=es.length
   ·rw [←lE z,←l1]
    have q1:=SeqAt.RcAt.lists p p' (by simp;omega) hu0 it
    have q2:=SeqAt.RcNeAt.lists p p' (by simp;omega) hu0 it
    exact ⟨by simpa using q1,by simpa using q2⟩
   ·rw [lD z]
    exact ⟨.lists_lengths p p' (by simp;omega) hu0,.lists_lengths p p' (by simp;omega) hu0⟩
end
section
variable {X:Cx}{c:C}{e a b tg:Expr}{es:List Expr}{ga gb g:G R}{pos:Pos}
theorem RR.rep {He J H:Hp}(hp:HI c J H):∀{r:R}{v:V}{d:D},RR c He J H r v→(∀xs,r=.l .fresh xs∨r=.l .own xs∨r=.l .bor xs→d=.lst xs)→(∀x,r=.d x→d=x)→Rep c.K H d v
 | .d x,v,d,h,_,k=>by rw [k x rfl];exact Rep.mono hp.sub h
 | .l m xs,v,d,h,k,_=>by
  have e:d=.lst xs:=k xs (by cases m;exact .inl rfl;exact .inr (.inl rfl);exact .inr (.inr rfl))
  obtain ⟨a,vs,rfl,h1,h2⟩:=RR.list hp h rfl
  rw [e]
  exact .lst h1 (h2.mono hp.sub)
def R.dat:R→D
 | .d x=>x
 | .l _ xs=>.lst xs
theorem RR.dat {He J H:Hp}(hp:HI c J H){r:R}{v:V}(h:RR c He J H r v):Rep c.K H r.dat v:=by
 refine h.rep hp (fun xs q=>?_) (fun x q=>by rw [q];rfl)
 rcases q with q | q | q <;> (rw [q];rfl)
def CY (K:PySem.W.Frag) (neg:Bool):R2:=fun x y H Q=>∃d e,Rep K H d x∧Rep K H e y∧dep d≤60∧dep e≤60∧Q (.bl (if neg then !bh d e else bh d e)) H
theorem kK {pins:List (Addr×Obj)}{σ:L2.St}{H:Hp}{s:Shared}(I:Inv X pins σ H s):HF X.K H s:=HF.of (c:=⟨X.K,H,H,fun _=>True⟩) I (a_.refl H)
theorem Az (hu:X.A.units + 64 < cLine):dg X (compareOp .Eq) (CY X.K false):=by
 intro pins s σ H x y v u Q I rx ry h
 obtain ⟨d,e,h1,h2,h3,h4,q⟩:=h
 exact (A2 (kK I) X.A h1 h2 rx ry (by omega) (by omega) (by omega)).1 X.prog X.w X.xe _ ⟨.bl _,H,I,rfl,q⟩
theorem G4 (hu:X.A.units + 64 < cLine):dg X (compareOp .NotEq) (CY X.K true):=by
 intro pins s σ H x y v u Q I rx ry h
 obtain ⟨d,e,h1,h2,h3,h4,q⟩:=h
 exact (A2 (kK I) X.A h1 h2 rx ry (by omega) (by omega) (by omega)).2 X.prog X.w X.xe _ ⟨.bl _,H,I,rfl,q⟩
def cU (neg:Bool) (x y:R):M R:=if dep x.dat≤60∧dep y.dat≤60 then .ok (.d (.bl (if neg then !bh x.dat y.dat else bh x.dat y.dat))) else .bad
theorem yl (neg:Bool) (hK:X.K=c.K):BD c (CY X.K neg) (cU neg):=by
 intro He He' J H x y u v Q hp rx ry w
 unfold cU at w
 split at w
 ·rename_i hd
  exact ⟨x.dat,y.dat,by rw [hK];exact rx.dat hp,by rw [hK];exact ry.dat hp,hd.1,hd.2,w _ J H (Ext.refl hp.sub) (.bl _)⟩
 ·exact w.elim
theorem Jw (hu:X.A.units + 64 < cLine) (ha:PD X c a ga) (hb:PD X c b gb) (hK:X.K=c.K:=by rfl):PD X c (.Compare a [.Eq] [b] pos) (g2 (cU false) ga gb):=AH (Az hu) (yl false hK) ha hb
theorem Jq (hu:X.A.units + 64 < cLine) (ha:PD X c a ga) (hb:PD X c b gb) (hK:X.K=c.K:=by rfl):PB X c (.Compare a [.Eq] [b] pos) (bN (g2 (cU false) ga gb)):=nC (Az hu) (yl false hK) ha hb
theorem Jt (hu:X.A.units + 64 < cLine) (ha:PD X c a ga) (hb:PD X c b gb) (hK:X.K=c.K:=by rfl):PB X c (.Compare a [.NotEq] [b] pos) (bN (g2 (cU true) ga gb)):=nC (G4 hu) (yl true hK) ha hb
def inD (d:D) (xs:List D):Bool:=xs.any fun x=>bh x d
def Ig (K:PySem.W.Frag) (neg:Bool):R2:=fun x y H Q=>∃d p vs ds,Rep K H d x∧dep d≤60∧y=.ref p∧(cG K H p vs∨cX K H p vs)∧aG K H ds vs∧deps ds≤60∧Q (.bl (if neg then !inD d ds else inD d ds)) H
theorem su {K:PySem.W.Frag}{H:Hp}{y:Value}:∀{ds:List D}{vs:List V}{us:List Value},aG K H ds vs→Vals vs us→deps ds≤60→y∈us→∃d' v',Rep K H d' v'∧RelV v' y∧dep d'≤60
 | _,_,_,.nil,.nil,_,hy=>nomatch hy
 | _,_,_,.cons r hs,.cons q rs,hd,hy=>by
  unfold deps at hd
  rcases List.mem_cons.mp hy with rfl | hy
  ·exact ⟨_,_,r,q,by omega⟩
  ·exact su hs rs (by omega) hy
open Classical in
noncomputable def yj (K:PySem.W.Frag) (H:Hp) (d:D) (y:Value):Bool:=decide (∃d' v',Rep K H d' v'∧RelV v' y∧dep d'≤1000∧bh d' d=true)
theorem wZ {K:PySem.W.Frag}{H:Hp}{s:Shared}(F:HF K H s){d d':D}{v':V}{y:Value}(r':Rep K H d' v') (q':RelV v' y) (hd:dep d'≤1000):yj K H d y=bh d' d:=by
 classical
 unfold yj
 cases z:bh d' d with
 | true=>exact decide_eq_true ⟨d',v',r',q',hd,z⟩
 | false=>
  refine decide_eq_false ?_
  rintro ⟨d2,v2,r2,q2,hd2,z2⟩
  have:v2=v':=q2.inj q'
  subst this
  rw [Rep.inj F r2 r' hd2 hd] at z2
  rw [z] at z2
  cases z2
theorem uC {K:PySem.W.Frag}{H:Hp}{s:Shared}(F:HF K H s){d:D}:∀{ds:List D}{vs:List V}{us:List Value},aG K H ds vs→Vals vs us→deps ds≤1000→us.any (yj K H d)=inD d ds
 | _,_,_,.nil,.nil,_=>rfl
 | _,_,_,.cons r hs,.cons q rs,hd=>by
  unfold deps at hd
  unfold inD
  rw [List.any_cons,List.any_cons,uC F hs rs (by omega),wZ F r q (by omega)]
  rfl
theorem zG {A:Around}{s:Shared}{K:PySem.W.Frag}{H:Hp}(F:HF K H s){d:D}{x:V}{u:Value}(h:Rep K H d x) (rx:RelV x u) (hdd:dep d≤60) (hA:A.units + 60 < cLine){ds:List D}{vs:List V}{us:List Value}(hs:aG K H ds vs) (rs:Vals vs us) (hd:deps ds≤60):
  ∃e:Value→Bool,(∀y∈us,SeqAt.EqAt A s y u (e y))∧us.any e=inD d ds:=by
 refine ⟨yj K H d,fun y hy=>?_,uC F hs rs (by omega)⟩
 obtain ⟨d',v',r',q',hd'⟩:=su hs rs hd hy
 rw [wZ F r' q' (by omega)]
 exact mS F A r' h q' rx (by omega) (by omega) (by omega)
theorem AA (hu:X.A.units + 64 < cLine):dg X (compareOp .In) (Ig X.K false):=by
 intro pins s σ H x y v u Q I rx ry h
 obtain ⟨d,p,vs,ds,h1,hdd,rfl,h2,h3,h4,q⟩:=h
 cases ry
 have F:=kK I
 rcases h2 with h2 | h2
 ·obtain ⟨its,r,pl⟩:=F.l _ _ h2
  obtain ⟨e,he,hany⟩:=zG (A:=X.A.in1) F h1 rx hdd (by rw [in1_units];omega) h3 r h4
  exact SeqAt.in_listAt e pl (fun z hz=>he z (by simpa using hz)) ⟨.bl _,H,I,rfl,by rw [show its.toArray.any e=its.any e by simp,hany];exact q⟩
 ·obtain ⟨its,r,pl⟩:=F.t _ _ h2
  obtain ⟨e,he,hany⟩:=zG (A:=X.A.in1) F h1 rx hdd (by rw [in1_units];omega) h3 r h4
  exact SeqAt.in_tupleAt e pl (fun z hz=>he z (by simpa using hz)) ⟨.bl _,H,I,rfl,by rw [show its.toArray.any e=its.any e by simp,hany];exact q⟩
def jm (neg:Bool) (x y:R):M R:=jc y >>= fun ys=>if deps ys≤60∧dep x.dat≤60 then .ok (.d (.bl (if neg then !inD x.dat ys else inD x.dat ys))) else .bad
theorem Dm (neg:Bool) (hK:X.K=c.K):BD c (Ig X.K neg) (jm neg):=by
 intro He He' J H x y u v Q hp rx ry w
 obtain ⟨ys,q,w⟩:=oq w
 obtain ⟨p,vs,rfl,h1,h2⟩:=qN hp ry q
 split at w
 ·rename_i hd
  exact ⟨x.dat,p,vs,ys,by rw [hK];exact rx.dat hp,hd.2,rfl,by rw [hK];exact h1,by rw [hK];exact h2.mono hp.sub,hd.1,w _ J H (Ext.refl hp.sub) (.bl _)⟩
 ·exact w.elim
theorem Jx (hu:X.A.units + 64 < cLine) (ha:PD X c a ga) (hb:PD X c b gb) (hK:X.K=c.K:=by rfl) (hm:behindInMarks .In b=false:=by rfl):PD X c (.Compare a [.In] [b] pos) (g2 (jm false) ga gb):=AH (AA hu) (Dm false hK) ha hb hm
theorem Jr (hu:X.A.units + 64 < cLine) (ha:PD X c a ga) (hb:PD X c b gb) (hK:X.K=c.K:=by rfl) (hm:behindInMarks .In b=false:=by rfl):PB X c (.Compare a [.In] [b] pos) (bN (g2 (jm false) ga gb)):=nC (AA hu) (Dm false hK) ha hb hm
end
section
variable {X:Cx}{c:C}{e a b tg:Expr}{es:List Expr}{ga gb g:G R}{pos:Pos}
abbrev GO:=G (Option Int)
def tO (c:C) (g:GO):TO:=fun σ H Q=>∃J env,SR c J H σ env∧cA (g env) (fun o=>∀J' H',Ext J H J' H'→Q o H') c.T
def uz (X:Cx) (c:C) (e:Option Expr) (g:GO):Prop:=PO X e (tO c g)
theorem DF {X:Cx}{e:Option Expr}{t t':TO}(h:PO X e t) (k:∀σ H Q,t' σ H Q→t σ H Q):PO X e t':=fun pins s σ H Q I q=>h pins s σ H Q I (k σ H Q q)
def xq:GO:=fun _=>.ok none
def xr (g:G R):GO:=fun env=>g env >>= fun r=>match r with
 | .d (.int i)=>.ok (some i)
 | _=>.bad
theorem CN:uz X c none xq:=DF Fc fun σ H Q ⟨J,env,sr,w⟩=>w J H (Ext.refl sr.hp.sub)
theorem CO (h:PD X c e g):uz X c (some e) (xr g):=DF (Fd h) fun σ H Q ⟨J,env,sr,w⟩=>by
 refine ⟨J,env,sr,aB (aL w) fun r wr v J1 H1 e1 r1=>?_⟩
 split at wr
 ·cases r1;exact ⟨_,rfl,wr J1 H1 e1⟩
 ·exact wr.elim
def cutD (xs:List D) (lo hi:Option Int):List D:=(xs.drop (HT.bF xs.length 0 lo)).take (HT.bF xs.length xs.length hi - HT.bF xs.length 0 lo)
theorem aG.cut {K:PySem.W.Frag}{J:Hp}{xs:List D}{vs:List V}(h:aG K J xs vs) (lo hi:Option Int):aG K J (cutD xs lo hi) (ki vs lo hi):=by
 unfold cutD ki
 rw [h.length]
 exact (h.drop _).take _
def uV (f:R→Option Int→Option Int→M R) (g:G R) (lo hi:GO):G R:=fun env=>g env >>= fun x=>lo env >>= fun l=>hi env >>= fun u=>f x l u
theorem Jz {r:V→Option Int→Option Int→Hp→VK→Prop}{f:R→Option Int→Option Int→M R}{lo hi:Option Expr}{gl gh:GO}{p2:Pos}(hr:pD X r) (hf:∀(He J H:Hp) (x:R) (v:V) (l u:Option Int) (Q:VK),HI c J H→RR c He J H x v→
   cA (f x l u) (fun z=>∀w J' H',Ext J H J' H'→RR c H J' H' z w→Q w H') c.T→r v l u H Q) (h:PD X c e g) (hl:uz X c lo gl) (hh:uz X c hi gh):PD X c (.Subscript e (.Slice lo hi none p2) pos) (uV f g gl gh):=
 fP (CH hr h hl hh) fun σ H Q ⟨J,env,sr,w⟩=>by
  refine ⟨J,env,sr,aB (aL w) fun x wx v J1 H1 e1 r1=>?_⟩
  refine ⟨J1,env,sr.ext e1,aB (aL wx) fun l wl J2 H2 e2=>?_⟩
  refine ⟨J2,env,(sr.ext e1).ext e2,aB (aL wl) fun u wu J3 H3 e3=>?_⟩
  have ee:=(e1.trans e2).trans e3
  exact hf H J3 H3 x v l u Q (sr.hp.ext ee) ((r1.ext e2).ext e3) (aB wu fun z q w J' H' e4 r4=>q w J' H' (ee.trans e4) (RR.from ee.h r4))
def KA (x:R) (l u:Option Int):M R:=jW x >>= fun xs=>.ok (.l .fresh (cutD xs l u))
theorem zg {ss:List Str}:∀{us:List Value},Vals (ss.map V.str) us→StrsAre us ss:=by
 induction ss with
 | nil=>intro us h;cases h;exact .nil
 | cons x r ih=>
  intro us h
  cases h with
  | cons q rs=>
   obtain ⟨t,rfl⟩:=q
   exact .cons x t (ih rs)
theorem sQ:∀{us:List Value}{ss:List Str},StrsAre us ss→Vals (ss.map V.str) us
 | _,_,.nil=>.nil
 | _,_,.cons y t h=>.cons ⟨t,rfl⟩ (sQ h)
def je (x y:Str):Bool:=decide (x.cps.toList≤y.cps.toList)
def oj (ss:List Str):List Str:=ss.mergeSort je
theorem rY (x y z:Str) (h1:je x y=true) (h2:je y z=true):je x z=true:=by
 unfold je at *
 exact decide_eq_true (List.le_trans (of_decide_eq_true h1) (of_decide_eq_true h2))
theorem Aq (x y:Str):(je x y || je y x)=true:=by
 unfold je
 rw [Bool.or_eq_true]
 rcases List.le_total x.cps.toList y.cps.toList with h | h
 ·exact .inl (decide_eq_true h)
 ·exact .inr (decide_eq_true h)
theorem B4 {x y:Str}(h1:je x y=true) (h2:je y x=true):x=y:=by
 unfold je at *
 have:=List.le_antisymm (of_decide_eq_true h1) (of_decide_eq_true h2)
 obtain ⟨⟨cx⟩⟩:=x
 obtain ⟨⟨cy⟩⟩:=y
 simp only at this
 rw [this]
theorem vO (ss:List Str):(oj ss).Pairwise fun x y=>je x y=true:=List.pairwise_mergeSort rY Aq ss
theorem ze (ss:List Str):(oj ss).Perm ss:=List.mergeSort_perm ss je
theorem qv:∀(x:Str) (r:List Str),risingS x r=true→(x::r).Pairwise fun x y=>je x y=true
 | x,[],_=>by simp
 | x,y::r,h=>by
  unfold risingS at h
  rw [Bool.and_eq_true] at h
  have hy:=qv y r h.2
  have hxy:je x y=true:=by
   have h1:=h.1
   rw [ltCps_eq] at h1
   unfold je
   refine decide_eq_true ?_
   have:¬y.cps.toList < x.cps.toList:=by simpa using h1
   exact this
  refine List.pairwise_cons.mpr ⟨fun z hz=>?_,hy⟩
  rcases List.mem_cons.mp hz with rfl | hz
  ·exact hxy
  ·exact rY x y z hxy ((List.pairwise_cons.mp hy).1 z hz)
theorem zd {ss ss':List Str}(hp:ss'.Perm ss) (hs:sortedS ss'=true):ss'=oj ss:=by
 have pw:ss'.Pairwise fun x y=>je x y=true:=by
  cases ss' with
  | nil=>exact List.Pairwise.nil
  | cons x r=>exact qv x r hs
 exact (hp.trans (ze ss).symm).eq_of_pairwise (fun x y _ _ h1 h2=>B4 h1 h2) pw (vO ss)
theorem uQ:bP X (.builtin "sorted") (fun xs H Q=>∃p ss,xs=[.ref p]∧cG X.K H p (ss.map V.str)∧ss.length < 64∧∀ss',ss'.Perm ss→sortedS ss'=true→∀l,H l=none→Q (.ref l) (upd H l (.lst (ss'.map V.str)))):=by
 intro pins s σ H xs us Q I r h
 obtain ⟨p,ss,rfl,hq,hl,q⟩:=h
 obtain ⟨u,rfl,rx⟩:=vals1 r
 cases rx
 obtain ⟨its,r',pl,hz⟩:=I.list hq
 have hlen:=r'.length
 refine sorted_strs pl.isList (zg r') (by rw [←hlen,List.length_map];exact hl) fun out ss' a1 a2 a3=>?_
 obtain ⟨n,hn⟩:=sortedAll_at s.heap its out
 have kp:∀b o,s.heap.get? b=some o→(sortedAll s.heap its out).get? b=some o:=fun b o e=>sortedAll_old e
 have fr:H (s.heap.objs.size + 1)=none:=I.hok.fresh (Nat.le_succ _)
 have ll:(ss'.map V.str).length=(ss.map V.str).length:=by rw [List.length_map,List.length_map,a2.length_eq]
 refine ⟨.ref (s.heap.objs.size + 1),_,I.laid (t':=s.toks) kp (Nat.le_succ _) (show cF X.prog X.w _ _ _ (.lst (ss'.map V.str)) from ⟨by rw [ll];exact hz,out.toList,n,sQ a1,by simpa [seqObj] using hn⟩),rfl,q ss' a2 a3 _ fr⟩
def strsOf:List D→Option (List Str)
 | []=>some []
 | .str x::r=>(strsOf r).map (x::·)
 | _::_=>none
theorem qC {K:PySem.W.Frag}{J:Hp}:∀{ds:List D}{vs:List V}{ss:List Str},strsOf ds=some ss→aG K J ds vs→vs=ss.map V.str
 | [],_,_,h,.nil=>by cases h;rfl
 | .str x::r,_,ss,h,.cons q rs=>by
  unfold strsOf at h
  cases z:strsOf r with
  | none=>rw [z] at h;cases h
  | some ss'=>
   rw [z] at h
   cases h
   cases q
   rw [qC z rs]
   rfl
theorem sC {K:PySem.W.Frag}{J:Hp}:∀(ss:List Str),aG K J (ss.map D.str) (ss.map V.str)
 | []=>.nil
 | x::r=>.cons (.str x) (sC r)
def jz:List R→M R
 | [r]=>jW r >>= fun xs=>match strsOf xs with
  | some ss=>if ss.length < 64 then .ok (.l .fresh ((oj ss).map .str)) else .bad
  | none=>.bad
 | _=>.bad
theorem iK:bootBuiltins "sorted"=some (.builtin "sorted"):=by decide +kernel
theorem AK {p:Pos}{gs:G (List R)}(ha:iy X c (e::es) gs) (hm:X.mg "sorted"=none) (hK:X.K=c.K:=by rfl) (hg:Gl X "sorted":=by rfl)
  (he:starEach (e::es) X.env=(false,eval e X.env)::starEach es X.env:=by rfl) (hpl:(backTo pos (starEach es X.env)).any (·.1)=false:=by rfl):PD X c (.Call (.Name "sorted" p) (e::es) [] pos) (gN jz gs):=
 lJ uQ (by
  intro He J H xs vs Q hp rs w
  unfold jz at w
  split at w
  ·obtain ⟨v,rfl,r⟩:=rs.one
   obtain ⟨xs,q,w⟩:=om w
   obtain ⟨p,vs,rfl,h1,h2⟩:=RR.list hp r q
   split at w
   ·rename_i ss z
    split at w
    ·rename_i hl
     have:=qC z h2
     subst this
     refine ⟨p,ss,rfl,by rw [hK];exact h1,hl,fun ss' hp' hs' l hl'=>?_⟩
     rw [zd hp' hs']
     exact w _ _ _ (Ext.new hp.sub hl' _) (gW hp hl' (sC _))
    ·exact w.elim
   ·exact w.elim
  ·exact w.elim) iK hm ha hg (by decide) (by decide) he hpl
theorem foldl_size (c:Array Nat):∀(k:Nat) (acc:Array Nat),((List.replicate k c).foldl (·++·) acc).size=acc.size + k * c.size
 | 0,acc=>by simp
 | k + 1,acc=>by
  rw [List.replicate_succ,List.foldl_cons,foldl_size c k,Array.size_append,Nat.succ_mul]
  omega
def iu (x:Str) (n:Nat):Str:=⟨(List.replicate n x.cps).foldl (·++·) #[]⟩
theorem wI (x:Str) (n:Nat):(iu x n).length=n * x.length:=by
 unfold iu Str.length
 simp only
 rw [foldl_size]
 simp
theorem EG:dg X (binaryOp .Mult) (fun x y H Q=>∃z n,x=.str z∧y=.int n∧0≤n∧n≤1000∧z.length≤1000∧Q (.str (iu z n.toNat)) H):=by
 intro pins s σ H x y v u Q I rx ry h
 obtain ⟨z,n,rfl,rfl,h0,h1,h2,q⟩:=h
 obtain ⟨t,rfl⟩:=rx
 obtain ⟨t',rfl⟩:=ry
 have hz:Builtin.Str.tooLong (z.length * n.toNat)=false:=by
  have:z.length * n.toNat≤1000 * 1000:=Nat.mul_le_mul h2 (by omega)
  unfold Builtin.Str.tooLong
  exact decide_eq_false (by have:=sizeLine_eq;omega)
 refine PySem.P.mul_str (by
  rw [decide_eq_false (by omega:¬n < -(2 ^ 63:Int)),decide_eq_false (by omega:¬n ≥ 2 ^ 63)];rfl) (fun hn _=>?_) (fun _ _=>hz) ?_
 ·have:(2 ^ 63 - 1:Int) / 1000≤(2 ^ 63 - 1) / n:=by
   refine (Int.le_ediv_iff_mul_le (by omega)).mpr ?_
   have:(2 ^ 63 - 1:Int) / 1000 * n≤(2 ^ 63 - 1:Int) / 1000 * 1000:=Int.mul_le_mul_of_nonneg_left h1 (by decide)
   exact Int.le_trans this (by decide)
  have e:(2 ^ 63 - 1:Int) / 1000=9223372036854775:=by decide
  omega
 ·split
  ·rename_i hn
   have e:n=0:=by omega
   subst e
   exact ⟨by decide,.str _,H,I.tok _,⟨_,rfl⟩,q⟩
  ·split
   ·rename_i hn hc
    have e:iu z n.toNat=z:=by
     unfold iu
     rw [Bool.or_eq_true] at hc
     rcases hc with hc | hc
     ·have e:n=1:=by simpa using hc
      subst e
      simp
     ·have e:z.length=0:=by simpa using hc
      have e2:z.cps=#[]:=by
       unfold Str.length at e
       exact Array.eq_empty_of_size_eq_zero e
      obtain ⟨cz⟩:=z
      simp only at e2
      subst e2
      congr 1
      generalize n.toNat=k
      induction k with
      | zero=>rfl
      | succ k ih=>rw [List.replicate_succ,List.foldl_cons];exact ih
    rw [e] at q
    exact ⟨.str z,H,I,⟨_,rfl⟩,q⟩
   ·exact ⟨by
     have:=wI z n.toNat
     unfold iu at this
     rw [this,Nat.mul_comm]
     have:z.length * n.toNat≤1000 * 1000:=Nat.mul_le_mul h2 (by omega)
     rw [sizeLine_eq]
     omega,.str _,H,I.tok _,⟨_,rfl⟩,q⟩
def yz:R→R→M R
 | .d (.str z),.d (.int n)=>if 0≤n∧n≤1000∧z.length≤1000 then .ok (.d (.str (iu z n.toNat))) else .bad
 | _,_=>.bad
def kg:D→String
 | .non=>"NoneType"
 | .bl _=>"bool"
 | .int _=>"int"
 | .str _=>"str"
 | .tup _=>"tuple"
 | .lst _=>"list"
 | .emp=>"dict"
 | .exn _ _ _=>"exc"
def nO (t T:String):Bool:=t == T || (t == "bool" && T == "int")
end
section
variable {X:Cx}{c:C}{e a b tg:Expr}{es:List Expr}{ga gb g:G R}{pos:Pos}
def Aj:R→Bool
 | .d (.int _)=>true
 | _=>false
def GI:R→Bool
 | .d (.str _)=>true
 | _=>false
def dJ (x y:R):M R:=if Aj x then qW x y else if GI x then pP x y else pQ x y
theorem EY (ha:PD X c a ga) (hb:PD X c b gb):PD X c (.BinOp a .Add b pos) (g2 dJ ga gb):=by
 have h1:BD c (nI fun i j=>.int (i + j)) qW:=gY fun _ _ _=>.int _
 have q:=lK (pos:=pos) (Aw.or (qf.or Ax)) (BD.or (c:=c) (fun x _=>Aj x) h1 (BD.or (c:=c) (fun x _=>GI x) (f:=pP) (f':=pQ) (by
  intro He He' J H x y u v Q hp rx ry w
  unfold pP at w
  split at w
  ·cases rx;cases ry
   split at w
   ·rename_i h;exact ⟨_,_,rfl,rfl,h,w _ J H (Ext.refl hp.sub) (.str _)⟩
   ·exact w.elim
  ·exact w.elim) (by
  intro He He' J H x y u v Q hp rx ry w
  unfold pQ at w
  split at w
  ·rename_i hm
   rw [Bool.and_eq_true] at hm
   obtain ⟨p,vs,xs,e1,rfl,h1,s1⟩:=rx.made hm.1
   obtain ⟨p2,vs2,ys,e2,rfl,h2,s2⟩:=ry.made hm.2
   rw [e1,e2] at w
   simp only [aU] at w
   split at w
   ·rename_i hz
    rw [s1.length,s2.length] at hz
    exact ⟨p,p2,vs,vs2,rfl,rfl,h1,h2,hz,fun q hq=>w _ J _ (Ext.new hp.sub hq _) (gW hp hq (s1.append s2))⟩
   ·exact w.elim
  ·exact w.elim))) ha hb
 exact q
def d8 (x y:R):M R:=if Aj x then oV x y else yz x y
theorem CA (ha:PD X c a ga) (hb:PD X c b gb):PD X c (.BinOp a .Mult b pos) (g2 d8 ga gb):=by
 have h1:BD c (rI uc fun i j=>.int (i * j)) oV:=uH (fun i j h=>xB h) fun _ _ _=>.int _
 exact lK (pos:=pos) (G3.or EG) (BD.or (c:=c) (fun x _=>Aj x) h1 (f':=yz) (by
  intro He He' J H x y u v Q hp rx ry w
  unfold yz at w
  split at w
  ·cases rx;cases ry
   split at w
   ·rename_i h;exact ⟨_,_,rfl,rfl,h.1,h.2.1,h.2.2,w _ J H (Ext.refl hp.sub) (.str _)⟩
   ·exact w.elim
  ·exact w.elim)) ha hb
def bg (x y:R):M R:=match x,y with
 | .d (.str z),.d (.int i)=>if z.length≤sizeLine then (match jX z.cps.toList i with
  | some k=>.ok (.d (.str ⟨#[k]⟩))
  | none=>.bad) else .bad
 | x,.d (.int i)=>jc x >>= fun xs=>(match jX xs i with
  | some d=>.ok (.d d)
  | none=>.bad)
 | _,_=>.bad
theorem Cv (ha:PD X c a ga) (hb:PD X c b gb) (hK:X.K=c.K:=by rfl) (hs:nQ b:=by exact fun _ _=>rfl):PD X c (.Subscript a b pos) (g2 bg ga gb):=Jy GK (by
 intro He He' J H x y u v Q hp rx ry w
 rw [hK]
 unfold bg at w
 split at w
 ·cases rx;cases ry
  split at w
  ·rename_i h
   split at w
   ·rename_i k hk;exact .inr (.inr ⟨_,_,k,rfl,rfl,h,hk,w _ J H (Ext.refl hp.sub) (.str _)⟩)
   ·exact w.elim
  ·exact w.elim
 ·cases ry
  obtain ⟨xs,q,w⟩:=oq w
  obtain ⟨p,vs,rfl,hl,hs⟩:=qN hp rx q
  split at w
  ·rename_i d hd
   obtain ⟨z,h1,h2⟩:=FA hs hd
   have fin:=w z J H (Ext.refl hp.sub) h2
   rcases hl with hl | hl
   ·exact .inl ⟨p,vs,_,z,rfl,rfl,hl,h1,fin⟩
   ·exact .inr (.inl ⟨p,vs,_,z,rfl,rfl,hl,h1,fin⟩)
  ·exact w.elim
 ·exact w.elim) ha hb hs
def bW (P:Program) (w:World) (K:PySem.W.Frag) (mg:Str→Option Value) (base:Heap) (k n:Nat) (x:Str) (Fm:List S→M R):Prop:=
 ∃f fd ps,gj P w K mg base lZ k f fd ps (qA K n Fm)∧mg x=some (.ref f)∧PySem.W.keepIn K (.ref f)=true∧Binds K fd ps []
theorem Hj {k k' n:Nat}{F:List S→M R}{x:Str}{p:Pos}{gs:G (List R)}(G:bW X.prog X.w X.K X.mg X.base k n x F) (hr:c_ k' X.A) (ha:iy X c (e::es) gs) (hk:k≤k':=by decide) (hT:c.K=X.K:=by rfl) (hg:Gl X x:=by rfl) (hdb:(x == ("__debug__":Str))=false:=by decide)
  (he:starEach (e::es) X.env=(false,eval e X.env)::starEach es X.env:=by rfl) (hpl:(backTo pos (starEach es X.env)).any (·.1)=false:=by rfl):PD X c (.Call (.Name x p) (e::es) [] pos) (gN (aW n F) gs):=by
 obtain ⟨f,fd,ps,h1,h2,h3,h4⟩:=G
 exact EV h1 (hr.mono hk) h2 h3 h4 ha hT hg hdb he hpl
theorem Gp {P:Program}{w:World}{K:PySem.W.Frag}{mg:Str→Option Value}{base:Heap}{x qual:Str}{st:Stmt}{f:Addr}{fd:FuncData}{N ps:List Str}{k:Nat}{Fm:List S→M R}(F:dQ K x qual st f fd) (hm:mg x=some (.ref f)) (Sc:bE N ps (ay st))
  (hbi:∀(kV doc pm:Value) (an:Option Addr) (cdv ct:Value) (us:List Value),us.length=ps.length→bindArgs (PySem.W.fnOf x qual (aO st) (aJ st) (ay st) .none kV doc pm an cdv ct) ⟨us,[]⟩=pure (ps.zip us)){gB:G O}
  (hb:∀(cdv:Value) (A:Around) (outer:List Env) (s:Shared) (H:Hp) (E:XK) (J:Hp) (T:Exc→Prop),c_ k (A.deeper (envOfC qual (ay st) s.heap.objs.size f cdv))→
   l_ (Dp P w K mg base N qual (ay st) f cdv A outer s H E) ⟨K,H,J,T⟩ (aJ st) gB)
  (hF:∀as r,as.length=ps.length→Fm as=.ok r→fin (gB (bD N as))=.ok r):bW P w K mg base (k + 1) ps.length x Fm:=
 ⟨f,fd,ps,Ab F Sc hb hF,hm,F.kp,F.binds hbi⟩
def Ca:List Str→Bool
 | []=>true
 | x::r=>!(r.contains x) && Ca r
theorem cC:∀{l:List Str},Ca l=true→l.Nodup
 | [],_=>List.nodup_nil
 | x::r,h=>by
  unfold Ca at h
  rw [Bool.and_eq_true] at h
  refine List.nodup_cons.mpr ⟨fun z=>?_,cC h.2⟩
  have:=h.1
  simp [z] at this
theorem ES {t:GT}(h:PD X c e g) (ht:oB X c tg t) (hs:swapsWithSole [tg] e pos.line X.env=pure false:=by rfl) (hw:swappedStores [tg] e X.env=pure none:=by rfl)
  (h1:(assignEach [tg] X.env).map (·.2)=[assign tg X.env]:=by rfl):gP X c (.Assign [tg] e pos) (jL t g):=EK h ht (vp h ht hs hw h1)
end
section
variable {X:Cx}{c:C}{e a b tg:Expr}{es:List Expr}{ga gb g:G R}{pos:Pos}
theorem BK {X:Cx}{pins:List (Addr×Obj)}{σ:L2.St}{H:Hp}{s:Shared}{a C:Addr}{dx:Option Addr}{ns:List Str}{vs:List V}(I:L2.Inv X pins σ H s) (h:H a=some (DX.XO a C dx)) (xf:XF H dx ns vs):∃ox od,PySem.W.InstAt s.heap a ox C od∧od.isSome=dx.isSome∧(∀d,dx=some d→∃o,od=some o∧s.heap.get? d=some o):=by
 obtain ⟨⟨oe,fs,h1,h2,h3,h4⟩,_⟩:=I.hok a _ h
 have hn:PySem.W.notCls oe=true:=by unfold PySem.W.notCls;rw [h4]
 rcases xf with ⟨rfl,_⟩ | ⟨d,rfl,_,hd⟩
 ·exact ⟨oe,none,⟨h1,h2,hn,by rw [h3];exact True.intro⟩,rfl,fun d z=>by cases z⟩
 ·obtain ⟨m,⟨o,es,ep,k1,_⟩,_⟩:=I.hok d _ hd
  exact ⟨oe,some o,⟨h1,h2,hn,by rw [h3];exact k1⟩,rfl,fun d' z=>by cases z;exact ⟨o,rfl,k1⟩⟩
def wV (T:String):Prop:=(∀(K:PySem.W.Frag) (t:String),t∈["NoneType","bool","int","str","tuple","list","dict"]→PySem.W.kitOne K (.type t) (.type T)=some (nO t T))∧PySem.W.kitMeta T=true∧DX.vX.contains (.type T)=false∧nO "exc" T=false
theorem Et:wV "int":=⟨fun K t h=>by
 simp only [List.mem_cons,List.not_mem_nil,or_false] at h
 rcases h with rfl | rfl | rfl | rfl | rfl | rfl | rfl <;> rfl,by decide +kernel,by decide,by decide⟩
theorem BW:wV "bool":=⟨fun K t h=>by
 simp only [List.mem_cons,List.not_mem_nil,or_false] at h
 rcases h with rfl | rfl | rfl | rfl | rfl | rfl | rfl <;> rfl,by decide +kernel,by decide,by decide⟩
theorem kit_tuple:wV "tuple":=⟨fun K t h=>by
 simp only [List.mem_cons,List.not_mem_nil,or_false] at h
 rcases h with rfl | rfl | rfl | rfl | rfl | rfl | rfl <;> rfl,by decide +kernel,by decide,by decide⟩
theorem wD {T:String}(kit:wV T):
  bP X (.builtin "isinstance") (fun xs H Q=>∃d x,xs=[x,.ty T]∧Rep X.K H d x∧Q (.bl (nO (kg d) T)) H):=by
 intro pins s σ H xs us Q I r h
 obtain ⟨d,x,rfl,hd,q⟩:=h
 obtain ⟨u,w',rfl,rx,ry⟩:=vals2 r
 cases ry
 have fin:∀tk,EP X pins σ Q (.bool (nO (kg d) T)) {s with toks:=tk}:=fun tk=>⟨.bl _,H,I.tok tk,rfl,q⟩
 have F:=kK I
 cases hd with
 | non=>cases rx;exact PySem.W.kia_one PySem.W.kitx_none I.kIn True.intro (kit.1 X.K _ (by simp [kg])) (fun z=>nomatch z) fin
 | bl y=>cases rx;exact PySem.W.kia_one PySem.W.kitx_bool I.kIn True.intro (kit.1 X.K _ (by simp [kg])) (fun z=>nomatch z) fin
 | int i=>obtain ⟨t,rfl⟩:=rx;exact PySem.W.kia_one PySem.W.kitx_int I.kIn True.intro (kit.1 X.K _ (by simp [kg])) (fun z=>nomatch z) fin
 | str y=>obtain ⟨t,rfl⟩:=rx;exact PySem.W.kia_one PySem.W.kitx_str I.kIn True.intro (kit.1 X.K _ (by simp [kg])) (fun z=>nomatch z) fin
 | tup h hs=>
  cases rx
  obtain ⟨its,r,o,h1,h2,_⟩:=F.t _ _ h
  exact PySem.W.kia_one PySem.W.kitx_tuple I.kIn ⟨o,h1,h2⟩ (kit.1 X.K _ (by simp [kg])) (fun z=>nomatch z) fin
 | lst h hs=>
  cases rx
  obtain ⟨its,r,o,h1,h2,_⟩:=F.l _ _ h
  exact PySem.W.kia_one PySem.W.kitx_list I.kIn ⟨o,h1,h2⟩ (kit.1 X.K _ (by simp [kg])) (fun z=>nomatch z) fin
 | emp h=>
  cases rx
  obtain ⟨o,h1,h2⟩:=F.e _ h
  exact PySem.W.kia_one PySem.W.kitx_dict I.kIn ⟨o,h1,h2⟩ (kit.1 X.K _ (by simp [kg])) (fun z=>nomatch z) fin
 | exn h1 h2 h3 hs hx=>
  cases rx
  obtain ⟨P,G,E⟩:=hx
  obtain ⟨ox,od,J,_⟩:=BK I h1 h3
  simp only [kg,kit.2.2.2] at fin
  exact PySem.W.kia_one (DX.BX G E) I.kIn ⟨ox,od,J⟩ (DX.GW E kit.2.1 kit.2.2.1) (fun z=>nomatch z) fin
def xo (T:String) (g:G R):G R:=fun env=>g env >>= fun r=>.ok (.d (.bl (nO (kg r.dat) T)))
theorem AI {T:String}{Ts:Str}{p p2:Pos}(kit:wV T) (hT:bootBuiltins Ts=some (.type T)) (mT:X.mg Ts=none)
  (h:PD X c a g) (hm:X.mg "isinstance"=none) (hK:X.K=c.K:=by rfl) (hg:Gl X "isinstance":=by rfl) (hgT:Gl X Ts:=by rfl) (hn:Ts≠"__name__":=by decide) (hdT:(Ts == ("__debug__":Str))=false:=by decide)
  (he:starEach [a,.Name Ts p2] X.env=(false,eval a X.env)::starEach [.Name Ts p2] X.env:=by rfl) (he2:starEach [.Name Ts p2] X.env=(false,eval (.Name Ts p2) X.env)::starEach [] X.env:=by rfl)
  (hpl:(backTo pos (starEach [.Name Ts p2] X.env)).any (·.1)=false:=by rfl):PD X c (.Call (.Name "isinstance" p) [a,.Name Ts p2] [] pos) (xo T g):=
 fP (o9 (wD kit) hg hm (by decide +kernel) (gG h (gG (E2 hgT mT hT (v:=.ty T) rfl hn hdT) jg he2) he) (by decide) (by decide) he hpl) fun σ H Q ⟨J,env,sr,w⟩=>by
  refine ⟨J,env,sr,aB (aL w) fun r wr v J1 H1 e1 r1=>?_⟩
  exact ⟨r.dat,v,rfl,by rw [hK];exact r1.dat (sr.hp.ext e1),wr _ J1 H1 e1 (.bl _)⟩
end
section
variable {X:Cx}{c:C}{e a b tg:Expr}{es:List Expr}{ga gb g:G R}{pos:Pos}
theorem EW {d:D}{v:V}{x:Str}{u:Value}(hm:X.mg x=some u) (r:RelV v u) (hr:∀J,Rep c.K J d v) (hg:Gl X x:=by rfl) (hd:(x == ("__debug__":Str))=false:=by decide):PD X c (.Name x pos) (gC d):=qi hr (E4 hg hm r hd)
theorem Ay:dg X (binaryOp .Add) (fun x y H Q=>∃a b xs ys,x=.ref a∧y=.ref b∧cX X.K H a xs∧cX X.K H b ys∧xs.length + ys.length≤sizeLine∧
  (xs=[]→Q (.ref b) H)∧(ys=[]→Q (.ref a) H)∧∀p,H p=none→Q (.ref p) (upd H p (.tup (xs++ys)))):=by
 intro pins s σ H x y v u Q I rx ry h
 obtain ⟨a,b,xs,ys,rfl,rfl,ha,hb,hz,q0,q1,q2⟩:=h
 by_cases hx:xs=[]
 ·cases rx
  cases ry
  obtain ⟨its,r1,p1,_⟩:=I.tuple ha
  obtain ⟨its2,r2,p2,_⟩:=I.tuple hb
  have he:its=[]:=r1.nil_iff.mpr hx
  subst he
  obtain ⟨⟨cls,dd,data,sl⟩,ho,hc,n,hd⟩:=id p1
  obtain ⟨⟨cls2,dd2,data2,sl2⟩,ho2,hc2,n2,hd2⟩:=id p2
  simp only at hc hd hc2 hd2
  subst hc hd hc2 hd2
  exact concat_meets ⟨_,ho,rfl⟩ ⟨_,ho2,rfl⟩ noFill_tuple_add seq_tuple_add PySem.F.slot_tuple_add PySem.F.entry_tuple_add (PySem.F.args_tuple_add_2 _ _) (tuple_addW0 a b _ _ n n2 dd dd2 sl sl2 rfl) ⟨ho,ho2,⟨.ref b,H,I,rfl,q0 hx⟩⟩
 ·exact EE pins s σ H (.ref a) (.ref b) v u Q I rx ry ⟨a,b,xs,ys,rfl,rfl,ha,hb,hx,hz,q1,fun _=>q2⟩
def yx:R→R→M R
 | .d (.tup xs),.d (.tup ys)=>if xs.length + ys.length≤sizeLine then .ok (.d (.tup (xs++ys))) else .bad
 | _,_=>.bad
theorem DW (hK:X.K=c.K):BD c (fun x y H Q=>∃a b xs ys,x=.ref a∧y=.ref b∧cX X.K H a xs∧cX X.K H b ys∧xs.length + ys.length≤sizeLine∧
  (xs=[]→Q (.ref b) H)∧(ys=[]→Q (.ref a) H)∧∀p,H p=none→Q (.ref p) (upd H p (.tup (xs++ys)))) yx:=by
 intro He He' J H x y u v Q hp rx ry w
 unfold yx at w
 split at w
 ·rename_i ds es
  cases rx with
  | tup h1 s1=>
   cases ry with
   | tup h2 s2=>
    split at w
    ·rename_i hz
     rw [s1.length,s2.length] at hz
     refine ⟨_,_,_,_,rfl,rfl,by rw [hK];exact eB hp.sub h1,by rw [hK];exact eB hp.sub h2,hz,fun e=>?_,fun e=>?_,fun p hp'=>w _ _ _ (Ext.newJ hp.sub hp' _) (nL hp hp' (s1.append s2))⟩
     ·have e':ds=[]:=List.eq_nil_of_length_eq_zero (by rw [s1.length,e];rfl)
      subst e'
      exact w _ J H (Ext.refl hp.sub) (.tup h2 s2)
     ·have e':es=[]:=List.eq_nil_of_length_eq_zero (by rw [s2.length,e];rfl)
      subst e'
      rw [List.append_nil] at w
      exact w _ J H (Ext.refl hp.sub) (.tup h1 s1)
    ·exact w.elim
 ·exact w.elim
def GJ:R→Bool
 | .d (.tup _)=>true
 | _=>false
def cu (x y:R):M R:=if GJ x then yx x y else dJ x y
theorem ET (ha:PD X c a ga) (hb:PD X c b gb) (hK:X.K=c.K:=by rfl):PD X c (.BinOp a .Add b pos) (g2 cu ga gb):=by
 have h1:BD c (nI fun i j=>.int (i + j)) qW:=gY fun _ _ _=>.int _
 exact lK (pos:=pos) (Ay.or (Aw.or (qf.or Ax))) (BD.or (c:=c) (fun x _=>GJ x) (DW hK) (BD.or (c:=c) (fun x _=>Aj x) h1 (BD.or (c:=c) (fun x _=>GI x) (f:=pP) (f':=pQ) (by
  intro He He' J H x y u v Q hp rx ry w
  unfold pP at w
  split at w
  ·cases rx;cases ry
   split at w
   ·rename_i h;exact ⟨_,_,rfl,rfl,h,w _ J H (Ext.refl hp.sub) (.str _)⟩
   ·exact w.elim
  ·exact w.elim) (by
  intro He He' J H x y u v Q hp rx ry w
  unfold pQ at w
  split at w
  ·rename_i hm
   rw [Bool.and_eq_true] at hm
   obtain ⟨p,vs,xs,e1,rfl,h1,s1⟩:=rx.made hm.1
   obtain ⟨p2,vs2,ys,e2,rfl,h2,s2⟩:=ry.made hm.2
   rw [e1,e2] at w
   simp only [aU] at w
   split at w
   ·rename_i hz
    rw [s1.length,s2.length] at hz
    exact ⟨p,p2,vs,vs2,rfl,rfl,h1,h2,hz,fun q hq=>w _ J _ (Ext.new hp.sub hq _) (gW hp hq (s1.append s2))⟩
   ·exact w.elim
  ·exact w.elim)))) ha hb
end
section
variable {X:Cx}{c:C}{e a b tg:Expr}{es:List Expr}{ga gb g:G R}{pos:Pos}
def signs (x:Str):List D:=x.cps.toList.map fun k=>.str ⟨#[k]⟩
def Ly (g:G R):G (List D):=fun env=>g env >>= fun r=>match r with
 | .d (.str x)=>.ok (signs x)
 | _=>.bad
theorem wN {prog:Program}{w:World}{A:Around}{E:Value→Shared→Prop}{s:Shared}{t sl:Addr}{items:Array Value}{vl vu:Value}{lo hi:Option Int}{Q:Value→Shared→Prop}(ht:IsTup s.heap t items) (hs:s.heap.IsSliceOf sl vl vu .none) (pl:IsPart vl lo) (pu:IsPart vu hi)
  (hw:HT.bF items.size 0 lo=0∧HT.bF items.size items.size hi=items.size) (h:Q (.ref t) s):wpAny (model prog w) A (getItem (.ref t) (.ref sl)) Q E s:=by
 obtain ⟨os,hos,hcs,hds⟩:=id hs
 have hTs:s.TypeIs (.ref sl) "slice":=⟨os,hos,hcs⟩
 unfold getItem
 try with_reducible refine wpAny_holding ?_
 first | refine wpAny_bind (wpAny_pure ?_) | skip
 refine wpAny_bind (wpAny_sequenceKey ht.typeIs (by decide) ?_)
 refine wpAny_bind (wpAny_callSpecial?_slot (name:=Str.ofString "__getitem__") ht.typeIs PyProof.Rows.slot_tuple_getitem
  (wpAny_call_entry PyProof.Rows.slot_tuple_getitem ht.typeIs entry_tuple_getitem ?_ (args_tuple_getitem _ _)))
 show wpAny _ _ (Builtin.Tuple.tupleItemsOf (.ref t) >>= _) _ _ s
 refine wpAny_bind (tupleItemsOf_ ht ?_)
 refine wpAny_bind (wpAny_typeOf hTs ?_)
 rw [if_pos (by decide)]
 refine wpAny_bind (HT.jR hs pl pu ?_)
 have hyes:(((HT.bF items.size 0 lo:Nat):Int) == 0 && (1:Int) == 1 && (HT.bF items.size items.size hi - HT.bF items.size 0 lo) == items.size)=true:=by
  rw [hw.1,hw.2]
  simp
 show wpAny _ _ (if (((HT.bF items.size 0 lo:Nat):Int) == 0 && (1:Int) == 1 && (HT.bF items.size items.size hi - HT.bF items.size 0 lo) == items.size)=true then _ else _) _ _ s
 rw [if_pos hyes]
 unfold Builtin.Tuple.tupleIsExact
 refine wpAny_bind (wpAny_bind (wpAny_typeOf ht.typeIs (wpAny_pure ?_)))
 rw [if_pos (by decide)]
 exact wpAny_bind (wpAny_rule (wpAny_pure ⟨_,rfl,wpAny_pure h⟩))
theorem A7:pD X (fun x lo hi H Q=>∃a xs,x=.ref a∧cX X.K H a xs∧((HT.bF xs.length 0 lo=0∧HT.bF xs.length xs.length hi=xs.length)→Q (.ref a) H)∧∀p,H p=none→Q (.ref p) (upd H p (.tup (ki xs lo hi)))):=by
 intro pins s σ H x v vl vu lo hi sl Q I rx hs pl pu h
 obtain ⟨a,xs,rfl,hx,q0,q1⟩:=h
 by_cases hw:HT.bF xs.length 0 lo=0∧HT.bF xs.length xs.length hi=xs.length
 ·cases rx
  obtain ⟨its,r,ht,hz⟩:=I.tuple hx
  have hlen:its.toArray.size=xs.length:=by rw [List.size_toArray];exact r.length.symm
  exact ⟨"tuple",_,PyProof.Rows.slot_tuple_getitem.lookup,ht.typeIs,wN ht hs pl pu (by rw [hlen];exact hw) ⟨.ref a,H,I,rfl,q0 hw⟩⟩
 ·exact IB pins s σ H (.ref a) v vl vu lo hi sl Q I rx hs pl pu ⟨a,xs,rfl,hx,hw,q1⟩
theorem yw {xs:List D}{lo hi:Option Int}(h:HT.bF xs.length 0 lo=0∧HT.bF xs.length xs.length hi=xs.length):cutD xs lo hi=xs:=by
 unfold cutD
 rw [h.1,h.2]
 simp
def BN:R→Option Int→Option Int→M R
 | .d (.tup xs),l,u=>.ok (.d (.tup (cutD xs l u)))
 | _,_,_=>.bad
theorem K4 (hK:X.K=c.K) (He J H:Hp) (x:R) (v:V) (l u:Option Int) (Q:VK) (hp:HI c J H) (rx:RR c He J H x v) (w:cA (BN x l u) (fun z=>∀w J' H',Ext J H J' H'→RR c H J' H' z w→Q w H') c.T):
  ∃a xs,v=.ref a∧cX X.K H a xs∧((HT.bF xs.length 0 l=0∧HT.bF xs.length xs.length u=xs.length)→Q (.ref a) H)∧∀p,H p=none→Q (.ref p) (upd H p (.tup (ki xs l u))):=by
 unfold BN at w
 split at w
 ·rename_i ds
  cases rx with
  | tup h1 s1=>
   refine ⟨_,_,rfl,by rw [hK];exact eB hp.sub h1,fun hw=>?_,fun p hp'=>w _ _ _ (Ext.newJ hp.sub hp' _) (nL hp hp' (s1.cut _ _))⟩
   rw [←s1.length] at hw
   rw [yw hw] at w
   exact w _ J H (Ext.refl hp.sub) (.tup h1 s1)
 ·exact w.elim
def oW (x:R) (l u:Option Int):M R:=if GJ x then BN x l u else KA x l u
theorem Hz {lo hi:Option Expr}{gl gh:GO}{p2:Pos}(h:PD X c e g) (hl:uz X c lo gl) (hh:uz X c hi gh) (hK:X.K=c.K:=by rfl):PD X c (.Subscript e (.Slice lo hi none p2) pos) (uV oW g gl gh):=Jz (A7.or FH) (by
 intro He J H x v l u Q hp rx w
 unfold oW at w
 split at w
 ·exact .inl (K4 hK He J H x v l u Q hp rx w)
 ·obtain ⟨xs,q,w⟩:=om w
  obtain ⟨p,vs,rfl,h1,h2⟩:=rx.list hp q
  exact .inr ⟨p,vs,rfl,by rw [hK];exact h1,fun p' hp'=>w _ _ _ (Ext.new hp.sub hp' _) (gW hp hp' (h2.cut l u))⟩) h hl hh
end
structure gR (prog:Program) (w:World) (it src:Addr) (vals:Array Value) (St:Nat→Heap→Prop):Prop where
 keep:∀(k:Nat) (h h':Heap),St k h→(∀o,h.get? it=some o→h'.get? it=some o)→(∀o,h.get? src=some o→h'.get? src=some o)→St k h'
 there:∀(k:Nat) (h:Heap),St k h→∃o,h.get? it=some o∧∀v,o.data≠.cell v
 item:∀(A:Around) (s:Shared) (k:Nat) (x:Value) (Q:Value→Shared→Prop) (E:Value→Shared→Prop),St k s.heap→vals[k]?=some x→(∀h',St (k + 1) h'→Heap.SameBut it s.heap h'→Q x {s with heap:=h'})→
  wpAny (model prog w) A (Builtin.SmallTypes.nextOf (.ref it)) Q E s
 fin:∀(A:Around) (s:Shared) (k:Nat) (Q:Value→Shared→Prop) (E:Value→Shared→Prop),A.handled=none→St k s.heap→vals[k]?=none→
  (∀h' e,Heap.ExtBut it s.heap h'→(∃o,h'.get? e=some o∧o.cls=.type "StopIteration")→E (.ref e) {s with heap:=h'})→wpAny (model prog w) A (Builtin.SmallTypes.nextOf (.ref it)) Q E s
theorem j5 (prog:Program) (w:World) (it l:Addr) (vals:Array Value) (hne:l≠it):gR prog w it l vals (fun k h=>h.IsListIter it l k∧h.IsList l vals) where
 keep:=fun k h h' st k1 k2=>⟨st.1.at fun o e=>k1 o e,st.2.at fun o e=>k2 o e⟩
 there:=fun k h st=>by
  obtain ⟨⟨o,e,_,d⟩,_⟩:=st
  exact ⟨o,e,fun v z=>by rw [d] at z;cases z⟩
 item:=fun A s k x Q E st hx hQ=>wpAny_nextOf_list_item st.1 st.2 hx fun h' a1 a2=>hQ h' ⟨a1,st.2.extBut a2.extBut hne⟩ a2
 fin:=fun A s k Q E hh st hx hE=>wpAny_nextOf_list_end hh st.1 st.2 hx hE
theorem next_tuple_item {prog:Program}{w:World}{A:Around}{E:Value→Shared→Prop}{s:Shared}{it t:Addr}{k:Nat}{vals:Array Value}{x:Value}{Q:Value→Shared→Prop}(hit:s.heap.IsTupleIter it t k) (ht:s.heap.IsTuple t vals) (hx:vals[k]?=some x)
  (hQ:∀h',h'.IsTupleIter it t (k + 1)→Heap.SameBut it s.heap h'→Q x {s with heap:=h'}):wpAny (model prog w) A (Builtin.SmallTypes.nextOf (.ref it)) Q E s:=by
 obtain ⟨oi,hoi,hci,hdi⟩:=id hit
 obtain ⟨ot,hot,_,nt,hdt⟩:=ht
 unfold Builtin.SmallTypes.nextOf
 refine wpAny_bind (wpAny_callSpecial?_slot (name:=Str.ofString "__next__") hit.typeIs F.slot_tuple_iterator_next (wpAny_call_entry F.slot_tuple_iterator_next hit.typeIs F.entry_tuple_iterator_next ?_ (F.args_tuple_iterator_next_1 _)))
 show wpAny _ _ (field (.ref it) 0 >>= _) _ _ s
 refine wpAny_bind (wpAny_field hoi hdi (x:=.ref t) rfl ?_)
 show wpAny _ _ (if (Value.ref t == Value.none)=true then _ else _) _ _ s
 rw [if_neg (show ¬(Value.ref t == Value.none)=true from fun z=>Bool.false_ne_true z)]
 show wpAny _ _ (field (.ref it) 1 >>= _) _ _ s
 refine wpAny_bind (wpAny_field hoi hdi (x:=.int k 0) rfl ?_)
 show wpAny _ _ (seqItems? (.ref t) >>= _) _ _ s
 refine wpAny_bind (wpAny_seqItems hot hdt ?_)
 simp only [Int.toNat_natCast,hx]
 refine wpAny_bind (wpAny_setField hoi hdi (by simp) (wpAny_pure ⟨x,rfl,wpAny_pure (hQ _ ?_ (Heap.SameBut.update ..))⟩))
 exact ⟨_,Heap.get?_update_self _ hoi (Obj.isFreed_of_fields (Obj.data_mapFields hdi _)),(Obj.cls_mapFields ..).trans hci,by rw [Obj.data_mapFields hdi] <;> simp [rawInt]⟩
theorem next_tuple_end {prog:Program}{w:World}{A:Around}{E:Value→Shared→Prop}{s:Shared}{it t:Addr}{k:Nat}{vals:Array Value}{Q:Value→Shared→Prop}(hh:A.handled=none) (hit:s.heap.IsTupleIter it t k) (ht:s.heap.IsTuple t vals) (hx:vals[k]?=none)
  (hE:∀h' e,Heap.ExtBut it s.heap h'→(∃o,h'.get? e=some o∧o.cls=.type "StopIteration")→E (.ref e) {s with heap:=h'}):wpAny (model prog w) A (Builtin.SmallTypes.nextOf (.ref it)) Q E s:=by
 obtain ⟨oi,hoi,hci,hdi⟩:=id hit
 obtain ⟨ot,hot,_,nt,hdt⟩:=ht
 unfold Builtin.SmallTypes.nextOf
 refine wpAny_bind (wpAny_callSpecial?_slot (name:=Str.ofString "__next__") hit.typeIs F.slot_tuple_iterator_next (wpAny_call_entry F.slot_tuple_iterator_next hit.typeIs F.entry_tuple_iterator_next ?_ (F.args_tuple_iterator_next_1 _)))
 show wpAny _ _ (field (.ref it) 0 >>= _) _ _ s
 refine wpAny_bind (wpAny_field hoi hdi (x:=.ref t) rfl ?_)
 show wpAny _ _ (if (Value.ref t == Value.none)=true then _ else _) _ _ s
 rw [if_neg (show ¬(Value.ref t == Value.none)=true from fun z=>Bool.false_ne_true z)]
 show wpAny _ _ (field (.ref it) 1 >>= _) _ _ s
 refine wpAny_bind (wpAny_field hoi hdi (x:=.int k 0) rfl ?_)
 show wpAny _ _ (seqItems? (.ref t) >>= _) _ _ s
 refine wpAny_bind (wpAny_seqItems hot hdt ?_)
 simp only [Int.toNat_natCast,hx]
 refine wpAny_bind (wpAny_rule (wpAny_bind (wpAny_setField hoi hdi (by simp) ?_)))
 show wpAny _ _ (newExc (.type "StopIteration") [] >>= _) _ _ _
 refine wpAny_bind ?_
 simp only [newExc,newTuple]
 refine wpAny_bind (wpAny_newObj_type ?_ (by size_fits))
 refine wpAny_bind (m:=firstArgMember _ _) (wpAny_of_eq (a:=Value.none) (by first | rfl | (simp only [firstArgMember];rfl)) ?_)
 refine wpAny_newObj_type ?_ (by size_fits)
 simp only [raiseNew]
 refine wpAny_bind (wpAny_handled ?_)
 first | rw [show A.in1.handled=none from hh] | rw [hh]
 refine wpAny_bind (wpAny_pure (wpAny_throw ?_))
 exact hE _ _ (((Heap.SameBut.update ..).extBut.push _).push _) ⟨_,Heap.get?_push_size _ rfl,rfl⟩
theorem jq (prog:Program) (w:World) (it t:Addr) (vals:Array Value) (hne:t≠it):gR prog w it t vals (fun k h=>h.IsTupleIter it t k∧h.IsTuple t vals) where
 keep:=fun k h h' st k1 k2=>by
  obtain ⟨⟨o,e,r⟩,⟨o2,e2,r2⟩⟩:=st
  exact ⟨⟨o,k1 o e,r⟩,⟨o2,k2 o2 e2,r2⟩⟩
 there:=fun k h st=>by
  obtain ⟨⟨o,e,_,d⟩,_⟩:=st
  exact ⟨o,e,fun v z=>by rw [d] at z;cases z⟩
 item:=fun A s k x Q E st hx hQ=>next_tuple_item st.1 st.2 hx fun h' a1 a2=>hQ h' ⟨a1,st.2.extBut a2.extBut hne⟩ a2
 fin:=fun A s k Q E hh st hx hE=>next_tuple_end hh st.1 st.2 hx hE
section
variable {prog:Program}{w:World}{A:Around}{E:Value→Shared→Prop}{s:Shared}
theorem wO {z TI TO i1 i2 l1 l2:Addr}{k:Nat}{xs ys:Array Value}{x y a b:Value}{S1 S2:Nat→Heap→Prop}{Q:Value→Shared→Prop}(N1:gR prog w i1 l1 xs S1) (N2:gR prog w i2 l2 ys S2) (D:ZipApart z TI TO i1 i2 l1 l2)
  (hz:IsZip s.heap z TI TO .none) (hTI:IsPair s.heap TI (.ref i1) (.ref i2)) (hTO:IsPair s.heap TO a b) (st1:S1 k s.heap) (st2:S2 k s.heap) (hx:xs[k]?=some x) (hy:ys[k]?=some y)
  (hQ:∀h',IsZip h' z TI TO (rawInt s.heap.objs.size)→IsPair h' TO x y→S1 (k + 1) h'→S2 (k + 1) h'→IsPair h' s.heap.objs.size x y→h'.objs.size=s.heap.objs.size + 1→
   (∀q o,q≠z→q≠TO→q≠i1→q≠i2→s.heap.get? q=some o→h'.get? q=some o)→Q (.ref s.heap.objs.size) {s with heap:=h'}):
  wpAny (model prog w) A (Builtin.«zip.__next__» ⟨[.ref z],[]⟩) (fun fin s'=>∃v,fin=.done (.ret v)∧Q v s') E s:=by
 have move:∀{S:Nat→Heap→Prop}{it src q:Addr}{vals:Array Value}{m:Nat}{h h':Heap},gR prog w it src vals S→S m h→Heap.SameBut q h h'→it≠q→src≠q→S m h':=fun N st sb n1 n2=>N.keep _ _ _ st (fun o e=>sb.extBut _ _ n1 e) fun o e=>sb.extBut _ _ n2 e
 show wpAny _ _ (field (.ref z) 2 >>= _) _ _ _
 refine wpAny_bind (wpAny_field hz rfl (x:=.bool false) rfl ?_)
 show wpAny _ _ (field (.ref z) 3 >>= _) _ _ _
 refine wpAny_bind (wpAny_field hz rfl (x:=.ref TI) rfl ?_)
 refine wpAny_bind (wpAny_seqItems hTI rfl ?_)
 show wpAny _ _ (Builtin.SmallTypes.ownedTupleIsFree (.ref z) >>= _) _ _ _
 refine wpAny_bind ?_
 unfold Builtin.SmallTypes.ownedTupleIsFree
 refine wpAny_bind (wpAny_field hz rfl (x:=.none) rfl (wpAny_pure ?_))
 simp only [if_true]
 refine wpAny_bind (wpAny_rule ?_)
 refine wpAny_bind (wpAny_field hz rfl (x:=.ref TO) rfl ?_)
 refine wpAny_bind (wpAny_setField_rec hz (by simp) fun g1 z1 b1=>?_)
 replace z1:IsZip g1 z TI TO .ellipsis:=z1
 refine wpAny_bind ?_
 simp only [List.zipIdx_cons,List.zipIdx_nil,List.forIn_cons,List.forIn_nil]
 refine wpAny_bind (wpAny_bind (wpAny_onRaise ?_))
 show wpAny _ _ (Builtin.SmallTypes.nextOf (.ref i1) >>= _) _ _ _
 refine wpAny_bind (N1.item _ _ k x _ _ (move N1 st1 b1 D.i1z D.l1z) hx fun g2 p1 b2=>wpAny_pure ?_)
 have o2:IsPair g2 TO a b:=b2.extBut _ _ D.TOi1 (b1.extBut _ _ D.TOz hTO)
 refine wpAny_bind (wpAny_seqItems o2 rfl ?_)
 refine wpAny_bind (wpAny_updateSeq_pair o2 fun g3 o3 b3=>?_)
 replace o3:IsPair g3 TO x b:=o3
 refine wpAny_bind (wpAny_letGo (wpAny_pure ?_))
 refine wpAny_bind (wpAny_bind (wpAny_onRaise ?_))
 show wpAny _ _ (Builtin.SmallTypes.nextOf (.ref i2) >>= _) _ _ _
 have q2:=move N2 (move N2 (move N2 st2 b1 D.i2z D.l2z) b2 D.i12.symm D.l2i1) b3 D.TOi2.symm D.l2TO
 refine wpAny_bind (N2.item _ _ k y _ _ q2 hy fun g4 p2 b4=>wpAny_pure ?_)
 have o4:IsPair g4 TO x b:=b4.extBut _ _ D.TOi2 o3
 refine wpAny_bind (wpAny_seqItems o4 rfl ?_)
 refine wpAny_bind (wpAny_updateSeq_pair o4 fun g5 o5 b5=>?_)
 replace o5:IsPair g5 TO x y:=o5
 refine wpAny_bind (wpAny_letGo (wpAny_pure (wpAny_pure ?_)))
 refine wpAny_bind (wpAny_seqItems o5 rfl ?_)
 refine wpAny_bind (wpAny_newTuple ?_)
 have sz5:g5.objs.size=s.heap.objs.size:=by rw [b5.1,b4.1,b3.1,b2.1,b1.1]
 have z5:IsZip g5 z TI TO .ellipsis:=b5.extBut _ _ D.TOz.symm (b4.extBut _ _ D.i2z.symm (b3.extBut _ _ D.TOz.symm (b2.extBut _ _ D.i1z.symm z1)))
 have k5:∀q o,q≠z→q≠TO→q≠i1→q≠i2→s.heap.get? q=some o→g5.get? q=some o:=fun q o c1 c2 c3 c4 e=>b5.extBut _ _ c2 (b4.extBut _ _ c4 (b3.extBut _ _ c2 (b2.extBut _ _ c3 (b1.extBut _ _ c1 e))))
 have p15:S1 (k + 1) g5:=move N1 (move N1 (move N1 p1 b3 D.TOi1.symm D.l1TO) b4 D.i12 D.l1i2) b5 D.TOi1.symm D.l1TO
 have p25:S2 (k + 1) g5:=move N2 p2 b5 D.TOi2.symm D.l2TO
 have zlt:z < g5.objs.size:=Heap.lt_size z5
 show wpAny _ _ (Builtin.SmallTypes.ownedTupleHandOut (.ref z) (.ref g5.objs.size) >>= _) _ _ _
 refine wpAny_bind ?_
 unfold Builtin.SmallTypes.ownedTupleHandOut
 have z6:IsZip (g5.push {cls:=.type "tuple",data:=.seq #[x,y]}) z TI TO .ellipsis:=Heap.get?_push_of_some _ z5
 refine wpAny_bind (wpAny_setField_rec z6 (by simp) fun g7 z7 b7=>?_)
 replace z7:IsZip g7 z TI TO (rawInt g5.objs.size):=z7
 refine wpAny_setField_rec z7 (by simp) fun g8 z8 b8=>?_
 replace z8:IsZip g8 z TI TO (rawInt g5.objs.size):=z8
 have up:∀q o,q≠z→g5.get? q=some o→g8.get? q=some o:=fun q o c1 e=>b8.extBut _ _ c1 (b7.extBut _ _ c1 (Heap.get?_push_of_some _ e))
 have t8:IsPair g8 g5.objs.size x y:=b8.extBut _ _ (Nat.ne_of_gt zlt) (b7.extBut _ _ (Nat.ne_of_gt zlt) (Heap.get?_push_size _ rfl))
 have sz8:g8.objs.size=g5.objs.size + 1:=by rw [b8.1,b7.1,Heap.size_push]
 rw [sz5] at z8 t8 sz8
 refine wpAny_pure ⟨_,rfl,?_⟩
 show Q (.ref g5.objs.size) _
 rw [sz5]
 exact hQ g8 z8 (up _ _ D.TOz o5) (N1.keep _ _ _ p15 (fun o e=>up _ o D.i1z e) fun o e=>up _ o D.l1z e) (N2.keep _ _ _ p25 (fun o e=>up _ o D.i2z e) fun o e=>up _ o D.l2z e) t8 sz8 fun q o c1 c2 c3 c4 e=>up q o c1 (k5 q o c1 c2 c3 c4 e)
theorem zq {z TI TO i1 i2 l1 l2:Addr}{k:Nat}{xs ys:Array Value}{a b:Value}{S1 S2:Nat→Heap→Prop}{Q:Fin→Shared→Prop}(hh:A.handled=none) (N1:gR prog w i1 l1 xs S1) (N2:gR prog w i2 l2 ys S2) (D:ZipApart z TI TO i1 i2 l1 l2)
  (hz:IsZip s.heap z TI TO .none) (hTI:IsPair s.heap TI (.ref i1) (.ref i2)) (hTO:IsPair s.heap TO a b) (st1:S1 k s.heap) (st2:S2 k s.heap) (hend:xs[k]?=none∨ys[k]?=none)
  (hE:∀h' e,(∀q o,q≠z→q≠TO→q≠i1→q≠i2→s.heap.get? q=some o→h'.get? q=some o)→(∃o,h'.get? e=some o∧o.cls=.type "StopIteration")→E (.ref e) {s with heap:=h'}):
  wpAny (model prog w) A (Builtin.«zip.__next__» ⟨[.ref z],[]⟩) Q E s:=by
 have move:∀{S:Nat→Heap→Prop}{it src q:Addr}{vals:Array Value}{m:Nat}{h h':Heap},gR prog w it src vals S→S m h→Heap.SameBut q h h'→it≠q→src≠q→S m h':=fun N st sb n1 n2=>N.keep _ _ _ st (fun o e=>sb.extBut _ _ n1 e) fun o e=>sb.extBut _ _ n2 e
 show wpAny _ _ (field (.ref z) 2 >>= _) _ _ _
 refine wpAny_bind (wpAny_field hz rfl (x:=.bool false) rfl ?_)
 show wpAny _ _ (field (.ref z) 3 >>= _) _ _ _
 refine wpAny_bind (wpAny_field hz rfl (x:=.ref TI) rfl ?_)
 refine wpAny_bind (wpAny_seqItems hTI rfl ?_)
 show wpAny _ _ (Builtin.SmallTypes.ownedTupleIsFree (.ref z) >>= _) _ _ _
 refine wpAny_bind ?_
 unfold Builtin.SmallTypes.ownedTupleIsFree
 refine wpAny_bind (wpAny_field hz rfl (x:=.none) rfl (wpAny_pure ?_))
 simp only [if_true]
 refine wpAny_bind (wpAny_rule ?_)
 refine wpAny_bind (wpAny_field hz rfl (x:=.ref TO) rfl ?_)
 refine wpAny_bind (wpAny_setField_rec hz (by simp) fun g1 z1 b1=>?_)
 replace z1:IsZip g1 z TI TO .ellipsis:=z1
 refine wpAny_bind ?_
 simp only [List.zipIdx_cons,List.zipIdx_nil,List.forIn_cons,List.forIn_nil]
 refine wpAny_bind (wpAny_bind (wpAny_onRaise ?_))
 show wpAny _ _ (Builtin.SmallTypes.nextOf (.ref i1) >>= _) _ _ _
 cases hx:xs[k]? with
 | none=>
  refine wpAny_bind (N1.fin _ _ k _ _ hh (move N1 st1 b1 D.i1z D.l1z) hx fun g2 e b2 he=>?_)
  obtain ⟨oe,hoe,hce⟩:=he
  have z2:IsZip g2 z TI TO .ellipsis:=b2 _ _ D.i1z.symm z1
  have hez:e≠z:=fun q=>by subst q;rw [z2] at hoe;cases hoe;simp at hce
  refine wpAny_setField_rec z2 (by simp) fun g3 _ b3=>hE g3 e (fun q o c1 _ c3 _ u=>b3.extBut _ _ c1 (b2 _ _ c3 (b1.extBut _ _ c1 u))) ⟨oe,b3.extBut _ _ hez hoe,hce⟩
 | some x=>
  have hy:ys[k]?=none:=by rcases hend with h | h;rw [hx] at h;cases h;exact h
  refine wpAny_bind (N1.item _ _ k x _ _ (move N1 st1 b1 D.i1z D.l1z) hx fun g2 p1 b2=>wpAny_pure ?_)
  have o2:IsPair g2 TO a b:=b2.extBut _ _ D.TOi1 (b1.extBut _ _ D.TOz hTO)
  refine wpAny_bind (wpAny_seqItems o2 rfl ?_)
  refine wpAny_bind (wpAny_updateSeq_pair o2 fun g3 o3 b3=>?_)
  refine wpAny_bind (wpAny_letGo (wpAny_pure ?_))
  refine wpAny_bind (wpAny_bind (wpAny_onRaise ?_))
  show wpAny _ _ (Builtin.SmallTypes.nextOf (.ref i2) >>= _) _ _ _
  have q2:=move N2 (move N2 (move N2 st2 b1 D.i2z D.l2z) b2 D.i12.symm D.l2i1) b3 D.TOi2.symm D.l2TO
  refine wpAny_bind (N2.fin _ _ k _ _ hh q2 hy fun g4 e b4 he=>?_)
  obtain ⟨oe,hoe,hce⟩:=he
  have z4:IsZip g4 z TI TO .ellipsis:=b4 _ _ D.i2z.symm (b3.extBut _ _ D.TOz.symm (b2.extBut _ _ D.i1z.symm z1))
  have hez:e≠z:=fun q=>by subst q;rw [z4] at hoe;cases hoe;simp at hce
  refine wpAny_setField_rec z4 (by simp) fun g5 _ b5=>hE g5 e (fun q o c1 c2 c3 c4 u=>b5.extBut _ _ c1 (b4 _ _ c4 (b3.extBut _ _ c2 (b2.extBut _ _ c3 (b1.extBut _ _ c1 u))))) ⟨oe,b5.extBut _ _ hez hoe,hce⟩
theorem tF {z TI TO i1 i2 l1 l2:Addr}{k:Nat}{xs ys:Array Value}{x y a b:Value}{S1 S2:Nat→Heap→Prop}{Q:Option Value→Shared→Prop}(N1:gR prog w i1 l1 xs S1) (N2:gR prog w i2 l2 ys S2) (D:ZipApart z TI TO i1 i2 l1 l2)
  (hz:IsZip s.heap z TI TO .none) (hTI:IsPair s.heap TI (.ref i1) (.ref i2)) (hTO:IsPair s.heap TO a b) (st1:S1 k s.heap) (st2:S2 k s.heap) (hx:xs[k]?=some x) (hy:ys[k]?=some y)
  (hQ:∀h',IsZip h' z TI TO (rawInt s.heap.objs.size)→IsPair h' TO x y→S1 (k + 1) h'→S2 (k + 1) h'→IsPair h' s.heap.objs.size x y→h'.objs.size=s.heap.objs.size + 1→
   (∀q o,q≠z→q≠TO→q≠i1→q≠i2→s.heap.get? q=some o→h'.get? q=some o)→Q (some (.ref s.heap.objs.size)) {s with heap:=h'}):wpAny (model prog w) A (pyNext (.ref z)) Q E s:=by
 have zt:s.TypeIs (.ref z) "zip":=⟨_,hz,rfl⟩
 unfold pyNext
 exact wpAny_bind (wpAny_attempt (wpAny_callSpecial?_slot (name:=Str.ofString "__next__") zt F.slot_zip_next (wpAny_call_entry F.slot_zip_next zt F.entry_zip_next
   (wO N1 N2 D hz hTI hTO st1 st2 hx hy fun h' a1 a2 a3 a4 a5 a6 a7=>wpAny_pure (hQ h' a1 a2 a3 a4 a5 a6 a7)) (F.args_zip_next_1 _))))
theorem ql {z TI TO i1 i2 l1 l2:Addr}{k:Nat}{xs ys:Array Value}{a b:Value}{S1 S2:Nat→Heap→Prop}{Q:Option Value→Shared→Prop}(hh:A.handled=none) (N1:gR prog w i1 l1 xs S1) (N2:gR prog w i2 l2 ys S2) (D:ZipApart z TI TO i1 i2 l1 l2)
  (hz:IsZip s.heap z TI TO .none) (hTI:IsPair s.heap TI (.ref i1) (.ref i2)) (hTO:IsPair s.heap TO a b) (st1:S1 k s.heap) (st2:S2 k s.heap) (hend:xs[k]?=none∨ys[k]?=none)
  (hQ:∀h',(∀q o,q≠z→q≠TO→q≠i1→q≠i2→s.heap.get? q=some o→h'.get? q=some o)→Q none {s with heap:=h'}):wpAny (model prog w) A (pyNext (.ref z)) Q E s:=by
 have zt:s.TypeIs (.ref z) "zip":=⟨_,hz,rfl⟩
 unfold pyNext
 refine wpAny_bind (wpAny_attempt (wpAny_callSpecial?_slot (name:=Str.ofString "__next__") zt F.slot_zip_next (wpAny_call_entry F.slot_zip_next zt F.entry_zip_next (zq hh N1 N2 D hz hTI hTO st1 st2 hend fun h' e hk he=>?_) (F.args_zip_next_1 _))))
 obtain ⟨o,ho,hc⟩:=he
 exact wpAny_bind (wpAny_isInstance (T:="StopIteration") (b:=true) ⟨o,ho,hc⟩ isSubtype_stop (wpAny_pure (hQ _ hk)))
end
abbrev Bl (h:Heap) (o1 o2:Obj):Heap:=((h.push o1).push o2).push {cls:=.type "tuple",data:=.seq #[.ref h.objs.size,.ref (h.push o1).objs.size]}
abbrev Bm (h:Heap) (o1 o2:Obj):Heap:=(Bl h o1 o2).push {cls:=.type "tuple",data:=.seq #[.none,.none]}
abbrev Bo (h:Heap) (o1 o2:Obj):Heap:=(Bm h o1 o2).push {cls:=.type "zip",data:=.fields #[.none,.bool false,.bool false,.ref ((h.push o1).push o2).objs.size,.ref (Bl h o1 o2).objs.size]}
def bR (k:String) (l:Addr):Obj:={cls:=.type k,data:=.fields #[.ref l,.int 0 0]}
def kB (k:String) (h:Heap) (l:Addr) (vals:Array Value):Prop:=(k="list_iterator"∧h.IsList l vals)∨(k="tuple_iterator"∧h.IsTuple l vals)
theorem kB.push {k:String}{h:Heap}{l:Addr}{vals:Array Value}(x:kB k h l vals) (o:Obj):kB k (h.push o) l vals:=x.elim (fun x=>.inl ⟨x.1,Heap.IsList.push x.2 _⟩) fun x=>.inr ⟨x.1,Heap.IsTuple.push x.2 _⟩
theorem iZ {prog:Program}{w:World}{A:Around}{E:Value→Shared→Prop}{s:Shared}{k:String}{l:Addr}{vals:Array Value}{Q:Value→Shared→Prop}(x:kB k s.heap l vals) (h:Q (.ref s.heap.objs.size) {s with heap:=s.heap.push (bR k l)}):wpAny (model prog w) A (pyIter (.ref l)) Q E s:=by
 rcases x with ⟨rfl,x⟩ | ⟨rfl,x⟩
 ·exact wpAny_pyIter_list x h
 ·exact wpAny_pyIter_tuple x h
theorem FU (k1 k2:String) (l1 l2:Addr) (xs ys:Array Value):
  Meets (Builtin.«zip.__new__» ⟨[.type "zip",.ref l1,.ref l2],[]⟩) (fun _ R s=>kB k1 s.heap l1 xs∧kB k2 s.heap l2 ys∧
   R (.ok (.ret (.ref (Bm s.heap (bR k1 l1) (bR k2 l2)).objs.size))) {s with heap:=Bo s.heap (bR k1 l1) (bR k2 l2)}):=
 .of_wp fun prog w A R s h=>by
  obtain ⟨hp,g,d,tk,os⟩:=s;obtain ⟨q1,q2,h⟩:=h
  have hsub:=sub_zip
  have L1:kB k1 (Shared.heap ⟨hp,g,d,tk,os⟩) l1 xs:=q1
  have L2:kB k2 (Shared.heap ⟨hp.push (bR k1 l1),g,d,tk,os⟩) l2 ys:=kB.push q2 _
  wp_walk using iZ L1,iZ L2
  exact ⟨_,rfl,h⟩
def SQ (k:String) (it l:Addr) (vals:Array Value) (m:Nat) (h:Heap):Prop:=(k="list_iterator"∧h.IsListIter it l m∧h.IsList l vals)∨(k="tuple_iterator"∧h.IsTupleIter it l m∧h.IsTuple l vals)
def IQ (k:String) (it l:Addr) (m:Nat) (h:Heap):Prop:=(k="list_iterator"∧h.IsListIter it l m)∨(k="tuple_iterator"∧h.IsTupleIter it l m)
theorem SQ.iq {k:String}{it l:Addr}{vals:Array Value}{m:Nat}{h:Heap}(x:SQ k it l vals m h):IQ k it l m h:=x.elim (fun x=>.inl ⟨x.1,x.2.1⟩) fun x=>.inr ⟨x.1,x.2.1⟩
theorem kI (prog:Program) (w:World) (k:String) (it l:Addr) (vals:Array Value) (hne:l≠it):gR prog w it l vals (SQ k it l vals) where
 keep:=fun m h h' st k1 k2=>by
  rcases st with ⟨e,st⟩ | ⟨e,st⟩
  ·exact .inl ⟨e,(j5 prog w it l vals hne).keep m h h' st k1 k2⟩
  ·exact .inr ⟨e,(jq prog w it l vals hne).keep m h h' st k1 k2⟩
 there:=fun m h st=>by
  rcases st with ⟨e,st⟩ | ⟨e,st⟩
  ·exact (j5 prog w it l vals hne).there m h st
  ·exact (jq prog w it l vals hne).there m h st
 item:=fun A s m x Q E st hx hQ=>by
  rcases st with ⟨e,st⟩ | ⟨e,st⟩
  ·exact (j5 prog w it l vals hne).item A s m x Q E st hx fun h' a1 a2=>hQ h' (.inl ⟨e,a1⟩) a2
  ·exact (jq prog w it l vals hne).item A s m x Q E st hx fun h' a1 a2=>hQ h' (.inr ⟨e,a1⟩) a2
 fin:=fun A s m Q E hh st hx hE=>by
  rcases st with ⟨e,st⟩ | ⟨e,st⟩
  ·exact (j5 prog w it l vals hne).fin A s m Q E hh st hx hE
  ·exact (jq prog w it l vals hne).fin A s m Q E hh st hx hE
def eE (k:String) (K:PySem.W.Frag) (H:Hp) (l:Addr) (xs:List V):Prop:=(k="list_iterator"∧cG K H l xs)∨(k="tuple_iterator"∧cX K H l xs)
section
variable {X:Cx}{pins:List (Addr×Obj)}{σ:L2.St}{H:Hp}{s:Shared}
theorem eE.get {k:String}{l:Addr}{xs:List V}(I:Inv X pins σ H s) (h:eE k X.K H l xs):∃its:List Value,Vals xs its∧kB k s.heap l its.toArray:=by
 rcases h with ⟨e,h⟩ | ⟨e,h⟩
 ·obtain ⟨its,r,p,_⟩:=I.list h
  exact ⟨its,r,.inl ⟨e,p.isList⟩⟩
 ·obtain ⟨its,r,p,_⟩:=I.tuple h
  exact ⟨its,r,.inr ⟨e,p⟩⟩
theorem eE.inj {k:String}{l:Addr}{xs ys:List V}(I:Inv X pins σ H s) (h:eE k X.K H l xs) (h':eE k X.K H l ys):xs=ys:=by
 rcases h with ⟨e,h⟩ | ⟨e,h⟩ <;> rcases h' with ⟨e',h'⟩ | ⟨e',h'⟩
 ·exact I.list_inj h h'
 ·rw [e] at e';exact absurd e' (by decide)
 ·rw [e] at e';exact absurd e' (by decide)
 ·exact I.tuple_inj h h'
theorem eE.ne {k:String}{l b:Addr}{xs:List V}(I:Inv X pins σ H s) (h:eE k X.K H l xs) (f:iT X pins H b):l≠b:=by
 have t:(∃o,H l=some o)∨∃o,X.K.lookup l=some o:=by
  rcases h with ⟨_,h⟩ | ⟨_,h⟩ <;> rcases h with (h | ⟨o,h⟩) | ⟨o,_,_,h,_⟩
  ·exact .inl ⟨_,h⟩
  ·exact .inl ⟨_,h⟩
  ·exact .inr ⟨o,h⟩
  ·exact .inl ⟨_,h⟩
  ·exact .inl ⟨_,h⟩
  ·exact .inr ⟨o,h⟩
 rintro rfl
 rcases t with ⟨o,t⟩ | ⟨o,t⟩
 ·rw [f.1] at t;cases t
 ·have hb:X.base.get? l=some o:=I.ok.mod.kin l o t
  rcases f.2.2.2.1 with z | z
  ·exact I.ok.noex l o hb z
  ·exact absurd (Nat.lt_of_lt_of_le (Heap.lt_size (I.ok.bs l o hb).1) z) (Nat.lt_irrefl _)
end
def Ka (K:PySem.W.Frag) (k1:String) (l1:Addr) (k2:String) (l2:Addr):It:=
 ⟨fun i H=>∃xs ys x y,eE k1 K H l1 xs∧eE k2 K H l2 ys∧xs[i]?=some x∧ys[i]?=some y,
  fun i H v H'=>∃p,H p=none∧v=.ref p∧∀xs ys x y,eE k1 K H l1 xs→eE k2 K H l2 ys→xs[i]?=some x→ys[i]?=some y→H'=upd H p (.tup [x,y]),
  fun i H=>∃xs ys,eE k1 K H l1 xs∧eE k2 K H l2 ys∧(xs.length≤i∨ys.length≤i)⟩
def Km (k1 k2:String) (l1 l2 z TI TO i1 i2:Addr) (i:Nat) (h:Heap):Prop:=IsZip h z TI TO .none∧IsPair h TI (.ref i1) (.ref i2)∧(∃a b,IsPair h TO a b)∧IQ k1 i1 l1 i h∧IQ k2 i2 l2 i h
theorem IQ.keep {k:String}{it l:Addr}{m:Nat}{h h':Heap}(x:IQ k it l m h) (kp:∀o,h.get? it=some o→h'.get? it=some o):IQ k it l m h':=by
 rcases x with ⟨e,o,h1,r⟩ | ⟨e,o,h1,r⟩
 ·exact .inl ⟨e,o,kp o h1,r⟩
 ·exact .inr ⟨e,o,kp o h1,r⟩
theorem IQ.obj {k:String}{it l:Addr}{m:Nat}{h:Heap}(x:IQ k it l m h):∃o,h.get? it=some o∧∀v,o.data≠.cell v:=by
 rcases x with ⟨e,o,h1,_,d⟩ | ⟨e,o,h1,_,d⟩ <;> exact ⟨o,h1,fun v z=>by rw [d] at z;cases z⟩
theorem IQ.sq {k:String}{it l:Addr}{m:Nat}{h:Heap}{vals:Array Value}(x:IQ k it l m h) (q:kB k h l vals):SQ k it l vals m h:=by
 rcases x with ⟨e,x⟩ | ⟨e,x⟩ <;> rcases q with ⟨e',q⟩ | ⟨e',q⟩
 ·exact .inl ⟨e,x,q⟩
 ·rw [e] at e';exact absurd e' (by decide)
 ·rw [e] at e';exact absurd e' (by decide)
 ·exact .inr ⟨e,x,q⟩
theorem Dc {P:Program}{w:World}{K:PySem.W.Frag}{elts:List Expr}{kk:Nat}{tp:Pos}(k1 k2:String) (l1 l2 z TI TO i1 i2:Addr) (n1:TI≠z) (n2:TO≠z) (n3:i1≠z) (n4:i2≠z) (n5:TI≠TO) (n6:TI≠i1) (n7:TI≠i2) (n8:TO≠i1) (n9:TO≠i2) (n10:i1≠i2):
  Turn P w K (.Tuple elts kk tp) (Ka K k1 l1 k2 l2) [z,TI,TO,i1,i2] z (Km k1 k2 l1 l2 z TI TO i1 i2) where
 mem:=by simp
 obj:=fun i h st b hb=>by
  obtain ⟨hz,hTI,⟨a,c,hTO⟩,q1,q2⟩:=st
  simp only [List.mem_cons,List.not_mem_nil,or_false] at hb
  rcases hb with rfl | rfl | rfl | rfl | rfl
  ·exact ⟨_,hz,fun v q=>by cases (show Data.fields _=Data.cell v from q)⟩
  ·exact ⟨_,hTI,fun v q=>by cases (show Data.seq _ _=Data.cell v from q)⟩
  ·exact ⟨_,hTO,fun v q=>by cases (show Data.seq _ _=Data.cell v from q)⟩
  ·exact q1.obj
  ·exact q2.obj
 keep:=fun i h h' st kp=>by
  obtain ⟨hz,hTI,⟨a,c,hTO⟩,q1,q2⟩:=st
  exact ⟨kp z (by simp) _ hz,kp TI (by simp) _ hTI,⟨a,c,kp TO (by simp) _ hTO⟩,q1.keep fun o e=>kp i1 (by simp) o e,q2.keep fun o e=>kp i2 (by simp) o e⟩
 item:=by
  intro X hP hw hK hc i pins s σ H E I hf st hg
  subst hP hw hK
  obtain ⟨hz,hTI,⟨a,c,hTO⟩,q1,q2⟩:=st
  obtain ⟨xs,ys,x,y,s1,s2,hx,hy⟩:=hg
  obtain ⟨its,r1,p1⟩:=s1.get I
  obtain ⟨its2,r2,p2⟩:=s2.get I
  obtain ⟨u,hu,ru⟩:=r1.get hx
  obtain ⟨v,hv,rv⟩:=r2.get hy
  have ne1:∀b∈[z,TI,TO,i1,i2],l1≠b:=fun b hb=>s1.ne I (hf b hb)
  have ne2:∀b∈[z,TI,TO,i1,i2],l2≠b:=fun b hb=>s2.ne I (hf b hb)
  have Dz:ZipApart z TI TO i1 i2 l1 l2:=⟨n1,n2,n3,n4,n5,n6,n7,n8,n9,n10,ne1 z (by simp),ne1 TO (by simp),ne1 i1 (by simp),ne1 i2 (by simp),ne2 z (by simp),ne2 TO (by simp),ne2 i1 (by simp),ne2 i2 (by simp)⟩
  refine tF (kI X.prog X.w k1 i1 l1 its.toArray (ne1 i1 (by simp))) (kI X.prog X.w k2 i2 l2 its2.toArray (ne2 i2 (by simp))) Dz hz hTI hTO (q1.sq p1) (q2.sq p2) (by simpa using hu) (by simpa using hv) fun h' a1 a2 a3 a4 a5 a6 hk=>?_
  refine ⟨_,rfl,wpAny_letOwnedTupleGo_zip (s:={s with heap:=h'}) a1 fun h'' z'' sb=>?_⟩
  have fT:H s.heap.objs.size=none:=I.hok.fresh (Nat.le_refl _)
  have old:∀{b:Addr}{o:Obj},s.heap.get? b=some o→b≠s.heap.objs.size:=fun e=>Nat.ne_of_lt (Heap.lt_size e)
  have zT:z≠s.heap.objs.size:=old hz
  have kk':∀b o,b∉[z,TO,i1,i2]→s.heap.get? b=some o→h''.get? b=some o:=fun b o hb e=>by
   simp only [List.mem_cons,List.not_mem_nil,or_false,not_or] at hb
   exact sb.extBut _ _ hb.1 (hk b o hb.1 hb.2.1 hb.2.2.1 hb.2.2.2 e)
  have ff:∀b∈[z,TO,i1,i2],iT X pins H b:=fun b hb=>hf b (by
   simp only [List.mem_cons,List.not_mem_nil,or_false] at hb ⊢
   rcases hb with rfl | rfl | rfl | rfl <;> simp)
  have Tn:∀b∈[z,TI,TO,i1,i2],b≠s.heap.objs.size:=fun b hb=>by
   simp only [List.mem_cons,List.not_mem_nil,or_false] at hb
   rcases hb with rfl | rfl | rfl | rfl | rfl
   ·exact old hz
   ·exact old hTI
   ·exact old hTO
   ·exact old q1.obj.choose_spec.1
   ·exact old q2.obj.choose_spec.1
  have up':∀{b:Addr}{o:HO},H b=some o→upd H s.heap.objs.size (.tup [x,y]) b=some o:=fun e=>by rw [br (dB e fT)];exact e
  have I2:Inv X pins σ (upd H s.heap.objs.size (.tup [x,y])) {s with heap:=h'',gens:=s.gens,drawn:=s.drawn,toks:=s.toks}:=by
   refine I.step (ch:=[z,TO,i1,i2]) (fun b hb=>⟨(ff b hb).2.2.2.1,(ff b hb).2.1,(ff b hb).2.2.2.2.1,(ff b hb).2.2.2.2.2⟩) (fun b o _ _ hb e _=>kk' b o hb e) (fun b o _ _ hb e _=>⟨o.slots,kk' b o hb e⟩) (fun b o hb e n=>by rw [br (old e)];exact n)
    (fun b o hb e=>⟨o,kk' b o hb e⟩) (fun b xs e=>up' e) (fun b o q e=>up' e) (fun b ps e=>⟨#[],by rw [Array.append_empty];exact up' e⟩) (fun m hm=>?_) (fun b q e=>?_) I.bare
   ·obtain ⟨o,es,ep,ho,r⟩:=hm
    exact ⟨o,es,ep,kk' _ o (fun hb=>(ff _ hb).2.1 rfl) ho,r⟩
   ·by_cases hb:b=s.heap.objs.size
    ·subst hb
     rw [bS] at e
     cases e
     refine ⟨(by show 2≤sizeLine;decide),[u,v],.cons ru (.cons rv .nil),⟨_,sb.extBut _ _ (Ne.symm zT) a5,rfl,0,rfl⟩⟩
    ·rw [br hb] at e
     have nch:∀d,(d=b∨H d=some (.own b))→d∉[z,TO,i1,i2]:=fun d hd hm=>by
      have:=(ff d hm).1
      rcases hd with rfl | hd
      ·rw [this] at e;cases e
      ·rw [this] at hd;cases hd
     exact (I.hok b q e).stay (fun d o hd ho=>kk' d o (nch d hd) ho) (fun _ h=>up' h) fun _ _ h=>up' h
  refine ⟨.ref s.heap.objs.size,_,I2,rfl,⟨s.heap.objs.size,fT,rfl,fun xs' ys' x' y' c1 c2 c3 c4=>?_⟩,⟨z'',sb.extBut _ _ n1 (hk TI _ n1 n5 n6 n7 hTI),⟨_,_,sb.extBut _ _ n2 a2⟩,a3.iq.keep fun o e=>sb.extBut _ _ n3 e,a4.iq.keep fun o e=>sb.extBut _ _ n4 e⟩,fun b hb=>by rw [br (Tn b hb)];exact (hf b hb).1⟩
  have e1:=eE.inj I c1 s1
  have e2:=eE.inj I c2 s2
  subst e1 e2
  rw [hx] at c3;rw [hy] at c4
  cases c3;cases c4
  rfl
 done:=by
  intro X hP hw hK hc i pins s σ H E I hf st hg
  subst hP hw hK
  obtain ⟨hz,hTI,⟨a,c,hTO⟩,q1,q2⟩:=st
  obtain ⟨xs,ys,s1,s2,hend⟩:=hg
  obtain ⟨its,r1,p1⟩:=s1.get I
  obtain ⟨its2,r2,p2⟩:=s2.get I
  have ne1:∀b∈[z,TI,TO,i1,i2],l1≠b:=fun b hb=>s1.ne I (hf b hb)
  have ne2:∀b∈[z,TI,TO,i1,i2],l2≠b:=fun b hb=>s2.ne I (hf b hb)
  have Dz:ZipApart z TI TO i1 i2 l1 l2:=⟨n1,n2,n3,n4,n5,n6,n7,n8,n9,n10,ne1 z (by simp),ne1 TO (by simp),ne1 i1 (by simp),ne1 i2 (by simp),ne2 z (by simp),ne2 TO (by simp),ne2 i1 (by simp),ne2 i2 (by simp)⟩
  have hend':its.toArray[i]?=none∨its2.toArray[i]?=none:=by
   have e1:=r1.length
   have e2:=r2.length
   rcases hend with h | h
   ·left;simp;omega
   ·right;simp;omega
  refine ql (I.ok.hd hc) (kI X.prog X.w k1 i1 l1 its.toArray (ne1 i1 (by simp))) (kI X.prog X.w k2 i2 l2 its2.toArray (ne2 i2 (by simp))) Dz hz hTI hTO (q1.sq p1) (q2.sq p2) hend' fun h' hk=>⟨rfl,?_⟩
  have ff:∀b∈[z,TO,i1,i2],iT X pins H b:=fun b hb=>hf b (by
   simp only [List.mem_cons,List.not_mem_nil,or_false] at hb ⊢
   rcases hb with rfl | rfl | rfl | rfl <;> simp)
  have kk':∀b o,b∉[z,TO,i1,i2]→s.heap.get? b=some o→h'.get? b=some o:=fun b o hb e=>by
   simp only [List.mem_cons,List.not_mem_nil,or_false,not_or] at hb
   exact hk b o hb.1 hb.2.1 hb.2.2.1 hb.2.2.2 e
  refine I.step (ch:=[z,TO,i1,i2]) (g':=s.gens) (d':=s.drawn) (t':=s.toks) (fun b hb=>⟨(ff b hb).2.2.2.1,(ff b hb).2.1,(ff b hb).2.2.2.2.1,(ff b hb).2.2.2.2.2⟩) (fun b o _ _ hb e _=>kk' b o hb e) (fun b o _ _ hb e _=>⟨o.slots,kk' b o hb e⟩) (fun b o hb e n=>n)
    (fun b o hb e=>⟨o,kk' b o hb e⟩) (fun b xs e=>e) (fun b o q e=>e) (fun b ps e=>⟨#[],by rw [Array.append_empty];exact e⟩) (fun m hm=>?_) (fun b q e=>?_) I.bare
  ·obtain ⟨o,es,ep,ho,r⟩:=hm
   exact ⟨o,es,ep,kk' _ o (fun hb=>(ff _ hb).2.1 rfl) ho,r⟩
  ·have nch:∀d,(d=b∨H d=some (.own b))→d∉[z,TO,i1,i2]:=fun d hd hm=>by
    have:=(ff d hm).1
    rcases hd with rfl | hd
    ·rw [this] at e;cases e
    ·rw [this] at hd;cases hd
   exact (I.hok b q e).stay (fun d o hd ho=>kk' d o (nch d hd) ho) (fun _ h=>h) fun _ _ h=>h
 self:=fun A i s Q E st h=>wpAny_pyIter_zip st.1 h
section
variable {X:Cx}{c:C}{e a b:Expr}{es:List Expr}{ga gb g:G R}{pos:Pos}{elts:List Expr}{kk:Nat}{tp:Pos}
def KG (K:PySem.W.Frag) (ta:TA):TI:=fun σ H Q=>ta σ H fun vs H1=>∃k1 l1 xs k2 l2 ys,vs=[.ref l1,.ref l2]∧eE k1 K H1 l1 xs∧eE k2 K H1 l2 ys∧Q (Ka K k1 l1 k2 l2) H1
theorem HS {ta:TA}{p:Pos}(hg:Gl X "zip") (hm:X.mg "zip"=none) (ha:PA X [a,b] ta) (hs:starEach [a,b] X.env=[(false,eval a X.env),(false,eval b X.env)]:=by rfl) (hs2:starEach [b] X.env=[(false,eval b X.env)]:=by rfl):
  PI X (.Tuple elts kk tp) (.Call (.Name "zip" p) [a,b] [] pos) (KG X.K ta):=by
 intro pins s σ H R I h
 refine Call_ (kM I hg hm boot_zip (PyProof.Rows.callWith_type1 (bI (ha pos pins s σ H _ I h) fun us s1 ⟨vs,H1,I1,r1,q1⟩=>?_) (by rw [hs,hs2]) (by rw [hs2];rfl)))
 obtain ⟨k1,l1,xs,k2,l2,ys,e,s1',s2',q⟩:=q1
 subst e
 obtain ⟨its,v1,p1⟩:=s1'.get I1
 obtain ⟨its2,v2,p2⟩:=s2'.get I1
 cases r1 with
 | cons r rr=>
  cases rr with
  | cons r' rr=>
   cases rr
   cases r
   cases r'
   refine callType_new F.called_zip (by decide) (F.typeCall_zip_2 _ _) (F.newCall_zip_2 _ _) (fun _=>by first | exact F.args_object_init _ | rfl | decide) F.entry_zip_new (FU k1 k2 l1 l2 its.toArray its2.toArray) ?_
   refine ⟨p1,p2,?_⟩
   have f0:∀{h:Heap}{o:Obj},o.isFreed=false→(h.push o).get? h.objs.size=some o:=fun ho=>Heap.get?_push_size _ ho
   have gp:∀{h:Heap}{q:Addr}{u:Obj}(o:Obj),h.get? q=some u→(h.push o).get? q=some u:=fun o e=>Heap.get?_push_of_some _ e
   refine ⟨⟨_,Heap.get?_push_size _ rfl,rfl⟩,wpAny_pyIter_zip (f0:=.none) (Heap.get?_push_size _ rfl) ?_⟩
   have e1:(s1.heap.push (bR k1 l1)).objs.size=s1.heap.objs.size + 1:=Heap.size_push ..
   have e2:((s1.heap.push (bR k1 l1)).push (bR k2 l2)).objs.size=s1.heap.objs.size + 2:=by rw [Heap.size_push,e1]
   have e3:(Bl s1.heap (bR k1 l1) (bR k2 l2)).objs.size=s1.heap.objs.size + 3:=by unfold Bl;rw [Heap.size_push,e2]
   have e4:(Bm s1.heap (bR k1 l1) (bR k2 l2)).objs.size=s1.heap.objs.size + 4:=by unfold Bm;rw [Heap.size_push,e3]
   have up5:∀b o,s1.heap.get? b=some o→(Bo s1.heap (bR k1 l1) (bR k2 l2)).get? b=some o:=fun b o h=>gp _ (gp _ (gp _ (gp _ (gp _ h))))
   have I5:Inv X pins σ H1 {s1 with heap:=Bo s1.heap (bR k1 l1) (bR k2 l2)}:=I1.kept (t':=s1.toks) up5
   refine ⟨_,[(Bm s1.heap (bR k1 l1) (bR k2 l2)).objs.size,((s1.heap.push (bR k1 l1)).push (bR k2 l2)).objs.size,(Bl s1.heap (bR k1 l1) (bR k2 l2)).objs.size,s1.heap.objs.size,(s1.heap.push (bR k1 l1)).objs.size],
    Km k1 k2 l1 l2 _ _ _ _ _,_,H1,rfl,I5,Dc k1 k2 l1 l2 _ _ _ _ _ (by rw [e2,e4];simp [Addr]) (by rw [e3,e4];simp) (by rw [e4];simp) (by rw [e1,e4];simp) (by rw [e2,e3];simp) (by rw [e2];simp) (by rw [e2,e1];simp) (by rw [e3];simp) (by rw [e3,e1];simp) (by rw [e1];simp),?_,?_,q⟩
   ·refine ⟨Heap.get?_push_size _ rfl,gp _ (gp _ (Heap.get?_push_size _ rfl)),⟨.none,.none,gp _ (Heap.get?_push_size _ rfl)⟩,?_,?_⟩
    ·have h1:(Bo s1.heap (bR k1 l1) (bR k2 l2)).get? s1.heap.objs.size=some (bR k1 l1):=gp _ (gp _ (gp _ (gp _ (Heap.get?_push_size _ rfl))))
     rcases p1 with ⟨rfl,_⟩ | ⟨rfl,_⟩
     ·exact .inl ⟨rfl,_,h1,rfl,rfl⟩
     ·exact .inr ⟨rfl,_,h1,rfl,rfl⟩
    ·have h1:(Bo s1.heap (bR k1 l1) (bR k2 l2)).get? (s1.heap.push (bR k1 l1)).objs.size=some (bR k2 l2):=gp _ (gp _ (gp _ (Heap.get?_push_size _ rfl)))
     rcases p2 with ⟨rfl,_⟩ | ⟨rfl,_⟩
     ·exact .inl ⟨rfl,_,h1,rfl,rfl⟩
     ·exact .inr ⟨rfl,_,h1,rfl,rfl⟩
   ·intro b hb
    have hle:s1.heap.objs.size≤b:=by
     simp only [List.mem_cons,List.not_mem_nil,or_false] at hb
     rcases hb with rfl | rfl | rfl | rfl | rfl
     ·rw [e4];exact Nat.le_add_right _ _
     ·rw [e2];exact Nat.le_add_right _ _
     ·rw [e3];exact Nat.le_add_right _ _
     ·exact Nat.le_refl _
     ·rw [e1];exact Nat.le_add_right _ _
    have fp:=I1.fpOk hle (I1.hok.fresh hle)
    exact fp
def uF:R→M (List D)
 | .d (.tup xs)=>.ok xs
 | .d (.lst xs)=>.ok xs
 | .l _ xs=>.ok xs
 | _=>.bad
theorem eE.same {k:String}{K:PySem.W.Frag}{H H':Hp}{l:Addr}{xs:List V}(e:a_ H H') (h:eE k K H l xs):eE k K H' l xs:=h.elim (fun h=>.inl ⟨h.1,e.seq h.2⟩) fun h=>.inr ⟨h.1,eB e h.2⟩
theorem IC {He J1 H1:Hp}{r:R}{v:V}{xs:List D}(hp:HI c J1 H1) (h:RR c He J1 H1 r v) (q:uF r=.ok xs):∃k l vs,v=.ref l∧aG c.K J1 xs vs∧eE k c.K H1 l vs:=by
 unfold uF at q
 split at q
 ·cases q
  cases h with
  | tup h1 h2=>exact ⟨"tuple_iterator",_,_,rfl,h2,.inr ⟨rfl,eB hp.sub h1⟩⟩
 ·cases q
  cases h with
  | lst h1 h2=>exact ⟨"list_iterator",_,_,rfl,h2,.inl ⟨rfl,hp.sub.seq h1⟩⟩
 ·cases q
  obtain ⟨a,vs,rfl,h1,h2⟩:=RR.list hp h rfl
  exact ⟨"list_iterator",_,_,rfl,h2,.inl ⟨rfl,h1⟩⟩
 ·cases q
theorem FT {α:Type}{x:R}{f:List D→M α}{Q:α→Prop}{T:Exc→Prop}(w:cA (uF x >>= f) Q T):∃xs,uF x=.ok xs∧cA (f xs) Q T:=by
 cases q:uF x with
 | bad=>rw [q] at w;exact w.elim
 | ok xs=>rw [q] at w;exact ⟨xs,rfl,w⟩
 | exc z=>unfold uF at q;split at q <;> cases q
theorem C3 {K:PySem.W.Frag}{J:Hp}{xs ys:List D}{us vs:List V}{i:Nat}{d:D}(h1:aG K J xs us) (h2:aG K J ys vs) (e:(List.zipWith (fun a b=>D.tup [a,b]) xs ys)[i]?=some d):∃x y u v,d=.tup [x,y]∧us[i]?=some u∧vs[i]?=some v∧Rep K J x u∧Rep K J y v:=by
 rw [List.getElem?_zipWith] at e
 cases q1:xs[i]? with
 | none=>rw [q1] at e;simp at e
 | some x=>
  cases q2:ys[i]? with
  | none=>rw [q1,q2] at e;simp at e
  | some y=>
   rw [q1,q2] at e
   simp at e
   obtain ⟨u,a1,a2⟩:=h1.get q1
   obtain ⟨v,b1,b2⟩:=h2.get q2
   exact ⟨x,y,u,v,e.symm,a1,b1,a2,b2⟩
end
section
variable {X:Cx}{c:C}{e a b tg:Expr}{es:List Expr}{ga gb g:G R}{pos:Pos}
def tU (K:PySem.W.Frag) (mg:Str→Option Value) (x:Str) (d:D):Prop:=∃u v,mg x=some u∧RelV v u∧∀J,Rep K J d v
theorem Cu {d:D}{x:Str}(h:tU X.K X.mg x d) (hK:X.K=c.K:=by rfl) (hg:Gl X x:=by rfl) (hd:(x == ("__debug__":Str))=false:=by decide):PD X c (.Name x pos) (gC d):=by
 obtain ⟨u,v,h1,h2,h3⟩:=h
 exact EW h1 h2 (fun J=>hK▸h3 J) hg hd
theorem zM:bootBuiltins "int"=some (.type "int"):=by decide +kernel
theorem yq:bootBuiltins "bool"=some (.type "bool"):=by decide +kernel
theorem wA:bootBuiltins "tuple"=some (.type "tuple"):=by decide +kernel
end
section
variable {X:Cx}{c:C}{e a b tg:Expr}{es:List Expr}{ga gb g:G R}{pos:Pos}{st:Stmt}{t u:G O}{tb:G Bool}
def tZ:G O:=fun _=>.bad
theorem AD:gP X c st tZ:=fun pins s σ H D I ⟨J,env,sr,w⟩=>w.elim
def yF (g:G R):G R:=fun env=>g env >>= fun r=>match r with
 | .d (.int i)=>.ok (.d (.int (-i)))
 | _=>.bad
theorem Hv (h:PD X c a g):PD X c (.UnaryOp .USub a pos) (yF g):=fP (JD IT h) fun σ H Q ⟨J,env,sr,w⟩=>by
 refine ⟨J,env,sr,aB (aL w) fun r wr v J1 H1 e1 r1=>?_⟩
 split at wr
 ·cases r1
  exact ⟨_,rfl,wr _ J1 H1 e1 (.int _)⟩
 ·exact wr.elim
def vW:R→M Bool
 | .d .non=>.ok false
 | .d (.bl b)=>.ok b
 | .d (.int i)=>.ok (i != 0)
 | .d (.str y)=>if y.length≤sizeLine then .ok ((y.length:Int) != 0) else .bad
 | .d (.tup xs)=>.ok (!xs.isEmpty)
 | .d (.lst xs)=>.ok (!xs.isEmpty)
 | .d .emp=>.ok false
 | .d (.exn _ _ _)=>.bad
 | .l _ xs=>.ok (!xs.isEmpty)
theorem GH {K:PySem.W.Frag}{J:Hp}{ds:List D}{vs:List V}(h:aG K J ds vs):ds.isEmpty=vs.isEmpty:=by
 cases h <;> rfl
theorem FP {He J H:Hp}(hp:HI c J H){Q:Bool→Prop}{T:Exc→Prop}:∀{r:R}{v:V},RR c He J H r v→cA (vW r) Q T→∃k,Bw c.K v H k∧Q k
 | .d .non,_,h,w=>by cases h;exact ⟨_,rfl,w⟩
 | .d (.bl b),_,h,w=>by cases h;exact ⟨_,rfl,w⟩
 | .d (.int i),_,h,w=>by cases h;exact ⟨_,rfl,w⟩
 | .d (.str y),_,h,w=>by
  cases h
  unfold vW at w
  simp only at w
  split at w
  ·rename_i hz;exact ⟨_,⟨hz,rfl⟩,w⟩
  ·exact w.elim
 | .d (.tup xs),_,h,w=>by
  cases h with
  | tup h1 h2=>exact ⟨_,.inr (.inl ⟨_,eB hp.sub h1,rfl⟩),by rw [←GH h2];exact w⟩
 | .d (.lst xs),_,h,w=>by
  cases h with
  | lst h1 h2=>exact ⟨_,.inl ⟨_,hp.sub.seq h1,rfl⟩,by rw [←GH h2];exact w⟩
 | .d .emp,_,h,w=>by
  cases h with
  | emp h1=>exact ⟨_,.inr (.inr ⟨_,hp.sub _ _ h1,rfl⟩),w⟩
 | .d (.exn _ _ _),_,_,w=>w.elim
 | .l m xs,_,h,w=>by
  obtain ⟨a,vs,rfl,h1,h2⟩:=RR.list hp h rfl
  exact ⟨_,.inl ⟨_,h1,rfl⟩,by rw [←GH h2];exact w⟩
def mZ (g:G R):G Bool:=fun env=>g env >>= vW
theorem Hf (h:PD X c e g) (hK:X.K=c.K:=by rfl) (he:∀whole,isTrue e X.env whole=(do let v ←whole;standAt e.pos;holding [v] (truthy v)):=by intro _;rfl):PB X c e (mZ g):=t_ (CS h he) fun σ H Q ⟨J,env,sr,w⟩=>by
 refine ⟨J,env,sr,aB (aL w) fun r wr v J1 H1 e1 r1=>?_⟩
 rw [hK]
 obtain ⟨k,k1,k2⟩:=FP (sr.hp.ext e1) r1 wr
 exact ⟨k,k1,k2 J1 H1 e1⟩
def gX (tb:G Bool) (u:G O):Nat→Ev→M O
 | 0,_=>.bad
 | n + 1,env=>tb env >>= fun k=>if k=true then u env >>= fun o=>(match o with
  | .nx e=>gX tb u n e
  | .ct e=>gX tb u n e
  | .bk e=>.ok (.nx e)
  | .rt r=>.ok (.rt r)) else .ok (.nx env)
def m9 (n:Nat) (tb:G Bool) (u:G O):G O:=fun env=>gX tb u n env
theorem AF (n:Nat){body:List Stmt}(ht:PB X c e tb) (hb:l_ X c body u) (hp:PassesOwn (model X.prog X.w) X.A X.env X.xe:=by first | exact PassesOwn.never | exact PassesOwn.leaving):gP X c (.While e body [] pos) (m9 n tb u):=g9 (CP hp ht hb) fun E σ H ⟨J,env,sr,w⟩=>by
 refine ⟨fun m σ H=>∃J' env,a_ J J'∧SR c J' H σ env∧cA (gX tb u m env) (oP c J' E) c.T,⟨n,J,env,a_.refl J,sr,w⟩,?_⟩
 rintro m σ H ⟨J',env,s',sr',w'⟩
 cases m with
 | zero=>exact w'.elim
 | succ m=>
  refine ⟨J',env,sr',aB (aL w') fun k wk J1 H1 e1=>?_⟩
  cases k with
  | false=>
   rw [if_neg (by decide)] at wk ⊢
   exact wk σ J1 H1 e1.j (sr'.ext e1)
  | true=>
   rw [if_pos rfl] at wk ⊢
   refine ⟨fun σ2 H2=>∃J2 env2,a_ J1 J2∧SR c J2 H2 σ2 env2∧cA (gX tb u m env2) (oP c J2 E) c.T,?_,?_⟩
   ·rintro σ2 H2 ⟨J2,env2,s2,sr2,w2⟩
    exact ⟨m,Nat.lt_succ_self m,J2,env2,(s'.trans e1.j).trans s2,sr2,w2⟩
   ·refine ⟨J1,env,sr'.ext e1,aB (aL wk) fun o wo=>?_⟩
    cases o with
    | nx env4=>exact fun σ4 J4 H4 s4 sr4=>⟨J4,env4,s4,sr4,aB wo fun o q=>q.mono (e1.j.trans s4)⟩
    | ct env4=>exact fun σ4 J4 H4 s4 sr4=>⟨J4,env4,s4,sr4,aB wo fun o q=>q.mono (e1.j.trans s4)⟩
    | bk env4=>exact fun σ4 J4 H4 s4 sr4=>wo σ4 J4 H4 (e1.j.trans s4) sr4
    | rt r=>exact fun v J4 H4 s4 h4 r4=>wo v J4 H4 (e1.j.trans s4) h4 r4
theorem aG.eraseIdx {K:PySem.W.Frag}{J:Hp}:∀{ds:List D}{vs:List V}(k:Nat),aG K J ds vs→aG K J (ds.eraseIdx k) (vs.eraseIdx k)
 | _,_,_,.nil=>by rw [List.eraseIdx_nil,List.eraseIdx_nil];exact .nil
 | _,_,0,.cons _ t=>t
 | _,_,k + 1,.cons r t=>.cons r (aG.eraseIdx k t)
def LA (i j:Nat):G O:=fun env=>match env[j]? with
 | some (some (.own xs))=>(match xs[xs.length - 1]? with
  | some d=>.ok (.nx ((env.set j (some (.own xs.dropLast))).set i (some (.d d))))
  | none=>.bad)
 | _=>.bad
def jA (i j:Nat) (g:G R):G O:=fun env=>match env[i]?,env[j]? with
 | some (some (.own zs)),some (some (.own xs))=>if i=j then .bad else g env >>= fun r=>(match r with
  | .d (.int k)=>if 0≤k∧k.toNat < xs.length∧zs.length < sizeLine∧xs.length≤sizeLine then (match xs[k.toNat]? with
   | some d=>.ok (.nx ((env.set j (some (.own (xs.eraseIdx k.toNat)))).set i (some (.own (zs++[d])))))
   | none=>.bad) else .bad
  | _=>.bad)
 | _,_=>.bad
end
section
variable {X:Cx}{c:C}{e a b tg:Expr}{es:List Expr}{ga gb g:G R}{pos:Pos}{st:Stmt}{t u:G O}{tb:G Bool}
theorem JN {k:Int}{n:Nat}(h0:0≤k) (h:k.toNat < n):seqIndex? k n=some k.toNat:=by
 unfold seqIndex?
 have h1:¬k < 0:=by omega
 have h2:k < n:=by omega
 simp [h1,h0,h2]
theorem G8 {J H:Hp}{σ:L2.St}{env:Ev}(sr:SR c J H σ env){i j:Nat}{xs ys:List D}{p q:Addr}(hij:i≠j) (hi:env[i]?=some (some (.own xs))) (hj:env[j]?=some (some (.own ys))) (h1:σ[i]?=some (some (.ref p))) (h2:σ[j]?=some (some (.ref q))):p≠q:=fun z=>
 sr.sep i j xs ys (.ref p) hij hi hj h1 (z▸h2)
theorem yU (i j:Nat){x y:Str}{p1 p2 pos' q1 q2 q3:Pos}(h:PD X c e g) (hi:X.N[i]?=some x:=by rfl) (hvx:kC X.env.scope x:=by first | exact Or.inl rfl | exact Or.inr (Or.inl rfl) | exact Or.inr (Or.inr rfl)) (hdx:(x == ("__debug__":Str))=false:=by decide) (hcx:(x == ("__classdict__":Str))=false:=by decide)
  (hj:X.N[j]?=some y:=by rfl) (hvy:kC X.env.scope y:=by first | exact Or.inl rfl | exact Or.inr (Or.inl rfl) | exact Or.inr (Or.inr rfl)) (hdy:(y == ("__debug__":Str))=false:=by decide) (hcy:(y == ("__classdict__":Str))=false:=by decide)
  (hbase:attributeBase (.Name x p1) "append" X.env (eval (.Name x p1) X.env)=eval (.Name x p1) X.env:=by rfl)
  (hfew:((backTo pos' (starEach [.Call (.Attribute (.Name y q1) "pop" q2) [e] [] q3] X.env)).all (fun x=>!x.1) && (backToKw pos' (keywordEach [] X.env)).all (fun x=>x.1.isSome)
   && decide (([.Call (.Attribute (.Name y q1) "pop" q2) [e] [] q3]:List Expr).length + ([]:List Keyword).length + (if ([]:List Keyword).isEmpty then 0 else 1) < 30))=true:=by rfl)
  (hline:(p2.endLine == pos'.line)=true:=by rfl)
  (hst:starEach [.Call (.Attribute (.Name y q1) "pop" q2) [e] [] q3] X.env=(false,eval (.Call (.Attribute (.Name y q1) "pop" q2) [e] [] q3) X.env)::starEach [] X.env:=by rfl) (hplain:(backTo pos' (starEach [] X.env)).any (·.1)=false:=by rfl)
  (hbase2:attributeBase (.Name y q1) "pop" X.env (eval (.Name y q1) X.env)=eval (.Name y q1) X.env:=by rfl)
  (hfew2:((backTo q3 (starEach [e] X.env)).all (fun x=>!x.1) && (backToKw q3 (keywordEach [] X.env)).all (fun x=>x.1.isSome)
   && decide (([e]:List Expr).length + ([]:List Keyword).length + (if ([]:List Keyword).isEmpty then 0 else 1) < 30))=true:=by rfl)
  (hline2:(q2.endLine == q3.line)=true:=by rfl) (hst2:starEach [e] X.env=(false,eval e X.env)::starEach [] X.env:=by rfl) (hplain2:(backTo q3 (starEach [] X.env)).any (·.1)=false:=by rfl)
  (hs:swapsWith (.Call (.Attribute (.Name x p1) "append" p2) [.Call (.Attribute (.Name y q1) "pop" q2) [e] [] q3] [] pos') none pos.line X.env=pure false:=by rfl):
  gP X c (.Expr (.Call (.Attribute (.Name x p1) "append" p2) [.Call (.Attribute (.Name y q1) "pop" q2) [e] [] q3] [] pos') pos) (jA i j g):=
 g9 (q9 (yW PySem.F.plainAttrs_list PySem.F.slot_list_append PySem.F.type_list_append ny (nD hi hvx hdx hcx) (gG (yW PySem.F.plainAttrs_list PySem.F.slot_list_pop PySem.F.type_list_pop B8 (nD hj hvy hdy hcy) (gG h jg hst2) hbase2 hfew2 hline2 hst2 hplain2) jg hst) hbase hfew hline hst hplain) hs) fun E σ H ⟨J,env,sr,w⟩=>by
  unfold jA at w
  split at w
  ·rename_i zs xs hii hjj
   split at w
   ·exact w.elim
   ·rename_i hij
    obtain ⟨_,k1,p,us,rfl,k2,k3,k4,k5⟩:=sr.at_ i _ hii
    obtain ⟨_,l1,q,vs,rfl,l2,l3,l4,l5⟩:=sr.at_ j _ hjj
    refine ⟨.ref p,k1,.inl ⟨rfl,us,cG.of k2⟩,?_⟩
    refine ⟨.ref q,l1,.inl ⟨rfl,vs,cG.of l2⟩,?_⟩
    refine ⟨J,env,sr,aB (aL w) fun r wr v J1 H1 e1 r1=>?_⟩
    split at wr
    ·rename_i k
     cases r1
     split at wr
     ·rename_i hk
      split at wr
      ·rename_i d hd
       obtain ⟨z,hz,rz⟩:=l5.get hd
       have m2:=e1.h _ _ l2
       have n2:=e1.h _ _ k2
       have hpq:q≠p:=fun zz=>G8 sr hij hii hjj k1 l1 zz.symm
       refine ⟨q,vs,k,k.toNat,z,rfl,rfl,m2,by omega,?_,JN hk.1 (by rw [←l5.length];exact hk.2.1),hz,?_⟩
       ·have z1:=hk.2.1
        have z2:=hk.2.2.2
        have z3:sizeLine=16777216:=sizeLine_eq
        omega
       ·refine ⟨p,us,z,rfl,rfl,by rw [br (Ne.symm hpq)];exact n2,by rw [←k5.length];exact hk.2.2.1,?_⟩
        have sr1:=sr.ext e1
        have J1p:J1 p=none:=e1.frz p (by rw [k2];intro z;cases z) k3
        have J1q:J1 q=none:=e1.frz q (by rw [l2];intro z;cases z) l3
        have sr2:=sr1.upd (xs':=xs.eraseIdx k.toNat) (vs':=vs.eraseIdx k.toNat) hjj l1 m2 J1q l4 ((l5.mono e1.j).eraseIdx _)
        have hii2:(env.set j (some (.own (xs.eraseIdx k.toNat))))[i]?=some (some (.own zs)):=by rw [List.getElem?_set_ne (Ne.symm hij)];exact hii
        have sr3:=sr2.upd (xs':=zs++[d]) (vs':=us++[z]) hii2 k1 (by rw [br (Ne.symm hpq)];exact n2) J1p k4 ((k5.mono e1.j).append (.cons (rz.mono e1.j) .nil))
        exact wr σ J1 _ e1.j sr3
      ·exact wr.elim
     ·exact wr.elim
    ·exact wr.elim
  ·exact w.elim
end
open PySem.AutoSeq1 in
section
variable {X:Cx}{c:C}{e a b tg:Expr}{es:List Expr}{ga gb g:G R}{pos:Pos}
def vh:V→Option (Option Bool)
 | .non=>some none
 | .bl k=>some (some k)
 | _=>none
theorem C5 {x y:V}{v u:Value}{o:Option Bool}(rx:RelV x v) (ry:RelV y u) (h:vh y=some o):isSame v u=pure (vh x == some o):=by
 cases y with
 | non=>
  cases h
  cases ry
  cases x with
  | non=>cases rx;rfl
  | bl k=>cases rx;rfl
  | int i=>obtain ⟨t,rfl⟩:=rx;rfl
  | str z=>obtain ⟨t,rfl⟩:=rx;rfl
  | byt z=>obtain ⟨t,rfl⟩:=rx;rfl
  | flt z=>obtain ⟨t,rfl⟩:=rx;rfl
  | ref p=>cases rx;rfl
  | ty n=>cases rx;rfl
 | bl k'=>
  cases h
  cases ry
  cases x with
  | non=>cases rx;rfl
  | bl k=>cases rx;cases k <;> cases k' <;> rfl
  | int i=>obtain ⟨t,rfl⟩:=rx;rfl
  | str z=>obtain ⟨t,rfl⟩:=rx;rfl
  | byt z=>obtain ⟨t,rfl⟩:=rx;rfl
  | flt z=>obtain ⟨t,rfl⟩:=rx;rfl
  | ref p=>cases rx;rfl
  | ty n=>cases rx;rfl
 | _=>cases h
theorem G1:dg X (compareOp .Is) (fun x y H Q=>∃o,vh y=some o∧Q (.bl (vh x == some o)) H):=by
 intro pins s σ H x y v u Q I rx ry h
 obtain ⟨o,ho,q⟩:=h
 show wpAny _ _ (do return Value.bool (←isSame v u)) _ _ s
 rw [C5 rx ry ho]
 exact wpAny_bind (wpAny_pure (wpAny_pure ⟨.bl _,H,I,rfl,q⟩))
def yR:R→Option (Option Bool)
 | .d .non=>some none
 | .d (.bl k)=>some (some k)
 | _=>none
def Dt (neg:Bool) (x y:R):M R:=match yR y with
 | some o=>.ok (.d (.bl (if neg then !(yR x == some o) else yR x == some o)))
 | none=>.bad
theorem xJ {He J H:Hp}:∀{r:R}{v:V},RR c He J H r v→vh v=yR r
 | .d .non,_,h=>by cases h;rfl
 | .d (.bl _),_,h=>by cases h;rfl
 | .d (.int _),_,h=>by cases h;rfl
 | .d (.str _),_,h=>by cases h;rfl
 | .d (.tup _),_,h=>by cases h;rfl
 | .d (.lst _),_,h=>by cases h;rfl
 | .d .emp,_,h=>by cases h;rfl
 | .d (.exn _ _ _),_,h=>by cases h;rfl
 | .l .fresh _,_,h=>by obtain ⟨_,_,rfl,_⟩:=h;rfl
 | .l .own _,_,h=>by obtain ⟨_,_,rfl,_⟩:=h;rfl
 | .l .bor _,_,h=>by obtain ⟨_,_,rfl,_⟩:=h;rfl
theorem Js (ha:PD X c a ga) (hb:PD X c b gb):PB X c (.Compare a [.Is] [b] pos) (bN (g2 (Dt false) ga gb)):=nC G1 (by
 intro He He' J H x y u v Q hp rx ry w
 unfold Dt at w
 split at w
 ·rename_i o ho
  refine ⟨o,by rw [xJ ry];exact ho,?_⟩
  rw [xJ rx]
  exact w _ J H (Ext.refl hp.sub) (.bl _)
 ·exact w.elim) ha hb
end
theorem w_ {P:Program}{w:World}{K:PySem.W.Frag}{mg:Str→Option Value}{base:Heap}{x qual:Str}{st:Stmt}{f:Addr}{fd:FuncData}{ps:List Str}{k:Nat}{Fm:List S→M R}(F:dQ K x qual st f fd) (hm:mg x=some (.ref f))
  (hbi:∀(kV doc pm:Value) (an:Option Addr) (cdv ct:Value) (us:List Value),us.length=ps.length→bindArgs (PySem.W.fnOf x qual (aO st) (aJ st) (ay st) .none kV doc pm an cdv ct) ⟨us,[]⟩=pure (ps.zip us))
  (hF:∀as,Fm as=.bad):bW P w K mg base k ps.length x Fm:=
 ⟨f,fd,ps,⟨fun vs H Q E ⟨J,as,_,_,_,h⟩=>(by rw [hF as] at h;exact h.elim),fun A outer s H args us vs Q E _ _ _ _ ⟨J,as,_,_,_,h⟩=>(by rw [hF as] at h;exact h.elim)⟩,hm,F.kp,F.binds hbi⟩
section
variable {X:Cx}{c:C}{e a b d tg:Expr}{es:List Expr}{ga gb g:G R}{pos:Pos}
def KD (K:PySem.W.Frag) (tl:TE):TI:=fun σ H R=>tl σ H fun x H1=>∃a,x=.ref a∧(((∃xs,cG K H1 a xs)∧R (Df K a) H1)∨((∃xs,cX K H1 a xs)∧R (Dh K a) H1))
theorem AM {tl:TE}(hl:PE X e tl):PI X tg e (KD X.K tl):=fun pins s σ H R I h=>bI (hl pins s σ H _ I h) fun v s1 ⟨x,H1,I1,r1,a,ex,q1⟩=>by
 subst ex
 cases r1
 have fp:∀b∈[s1.heap.objs.size],iT X pins H1 b:=fun b hb=>by
  rw [List.mem_singleton] at hb
  subst hb
  exact I1.fpOk (Nat.le_refl _) (I1.hok.fresh (Nat.le_refl _))
 rcases q1 with ⟨⟨xs,hq⟩,q⟩ | ⟨⟨xs,hq⟩,q⟩
 ·obtain ⟨its,rv,p,hz⟩:=I1.list hq
  exact wpAny_pyIter_list p.isList ⟨s1.heap.objs.size,[s1.heap.objs.size],_,_,H1,rfl,I1.kept (t':=s1.toks) (fun b o e=>Heap.get?_push_of_some _ e),Bd a _,⟨_,Heap.get?_push_size _ rfl,rfl,rfl⟩,fp,q⟩
 ·obtain ⟨its,rv,p,hz⟩:=I1.tuple hq
  exact wpAny_pyIter_tuple (show s1.heap.IsTuple a its.toArray from p) ⟨s1.heap.objs.size,[s1.heap.objs.size],_,_,H1,rfl,I1.kept (t':=s1.toks) (fun b o e=>Heap.get?_push_of_some _ e),zl a _,⟨_,Heap.get?_push_size _ rfl,rfl,rfl⟩,fp,q⟩
theorem sR {J1:Hp}{a:Addr}{vs:List V}{ds:List D}{U:Hp→Hp→Prop}(hU:∀J H,U J H→a_ J1 J) (h:cX c.K J1 a vs) (hs:aG c.K J1 ds vs):Walk c (Dh c.K a) ds J1 U:=by
 intro i J H hp u
 have h':=eB hp.sub (eB (hU J H u) h)
 refine ⟨fun hl=>⟨vs,h',by rw [←hs.length];exact hl⟩,fun d hd=>?_⟩
 obtain ⟨v,k1,k2⟩:=hs.get hd
 refine ⟨⟨vs,v,h',k1⟩,fun x H2 ⟨e,hy⟩=>?_⟩
 subst e
 have:=hy vs h'
 rw [k1] at this
 cases this
 exact ⟨J,Ext.refl hp.sub,k2.mono (hU J _ u)⟩
def qX (g:G R):G (List D):=fun env=>g env >>= fun r=>match r with
 | .d (.tup xs)=>.ok xs
 | .d (.lst xs)=>.ok xs
 | .l .fresh xs=>.ok xs
 | .l .bor xs=>.ok xs
 | _=>.bad
theorem E_ (h:PD X c e g) (hK:X.K=c.K:=by rfl):rJ X c tg e (qX g):=nY (AM h) fun σ H Q ⟨J,env,sr,w⟩=>by
 refine ⟨J,env,sr,aB (aL w) fun r wr v J1 H1 e1 r1=>?_⟩
 rw [hK]
 split at wr
 ·cases r1 with
  | tup h1 h2=>exact ⟨_,rfl,.inr ⟨⟨_,eB e1.sub h1⟩,wr _ J1 H1 e1 (sR (fun J H u=>u) h1 h2)⟩⟩
 ·cases r1 with
  | lst h1 h2=>exact ⟨_,rfl,.inl ⟨⟨_,e1.sub.seq h1⟩,wr _ J1 H1 e1 (nP (.inl h1) h2)⟩⟩
 ·obtain ⟨J2,e2,s2,rd⟩:=freeze e1 r1 rfl
  cases rd with
  | lst h1 h2=>exact ⟨_,rfl,.inl ⟨⟨_,e2.sub.seq h1⟩,wr _ J2 H1 e2 (nP (.inl h1) h2)⟩⟩
 ·obtain ⟨a,vs,rfl,h1,h2⟩:=r1
  exact ⟨_,rfl,.inl ⟨⟨_,(sr.hp.ext e1).ent.seq h1⟩,wr _ J1 H1 e1 (nP (.inr h1) h2)⟩⟩
 ·exact wr.elim
def eY (g:G R):G (List D):=fun env=>g env >>= jc
theorem E9 (h:PD X c e g) (hK:X.K=c.K:=by rfl):uw X c tg e (eY g):=nY (AM h) fun σ H Q ⟨J,env,sr,w⟩=>by
 refine ⟨J,env,sr,aB (aL w) fun r wr v J1 H1 e1 r1=>?_⟩
 rw [hK]
 have lst:∀{xs:List D},jW r=.ok xs→(∀It J1' H1',Ext J H J1' H1'→Walk c It xs J1' (fun J' H'=>a_ J1' J'∧a_ H1' H')→Q It H1')→∃a,v=.ref a∧(((∃xs,cG c.K H1 a xs)∧Q (Df c.K a) H1)∨((∃xs,cX c.K H1 a xs)∧Q (Dh c.K a) H1)):=fun {xs} q wr=>by
  obtain ⟨a,vs,rfl,h1,h2⟩:=RR.list (sr.hp.ext e1) r1 q
  refine ⟨a,rfl,.inl ⟨⟨_,h1⟩,wr _ J1 H1 e1 fun i J' H' hp u=>?_⟩⟩
  have h':=u.2.seq h1
  refine ⟨fun hl=>⟨vs,h',by rw [←h2.length];exact hl⟩,fun d hd=>?_⟩
  obtain ⟨v,k1,k2⟩:=h2.get hd
  refine ⟨⟨vs,v,h',k1⟩,fun x H2 ⟨e,hy⟩=>?_⟩
  subst e
  have:=hy vs h'
  rw [k1] at this
  cases this
  exact ⟨J',Ext.refl hp.sub,k2.mono u.1⟩
 cases r with
 | d y=>
  cases y with
  | tup xs=>
   cases r1 with
   | tup h1 h2=>exact ⟨_,rfl,.inr ⟨⟨_,eB e1.sub h1⟩,wr _ J1 H1 e1 (sR (fun J H u=>u.1) h1 h2)⟩⟩
  | lst xs=>exact lst rfl wr
  | _=>exact wr.elim
 | l m xs=>exact lst rfl wr
end
section
variable {X:Cx}{c:C}{st:Stmt}{g:G O}
theorem SR.frz {J H:Hp}{σ:L2.St}{env:Ev}(sr:SR c J H σ env){i:Nat}{xs:List D}(hi:env[i]?=some (some (.own xs))):∃J',a_ J J'∧SR c J' H σ (env.set i (some (.d (.lst xs)))):=by
 obtain ⟨v,h1,a,vs,rfl,h2,h3,h4,h5⟩:=sr.at_ i _ hi
 have hil:i < env.length:=(List.getElem?_eq_some_iff.mp hi).1
 have s1:a_ J (L2.upd J a (.lst vs)):=fR h3 _
 refine ⟨L2.upd J a (.lst vs),s1,⟨⟨fun b o q=>?_,sr.hp.ent,sr.hp.entJ.trans s1,fun b k1 k2=>?_⟩,by simpa using sr.len,fun j y q=>?_,fun j k ys zs w hjk q1 q2 q3 q4=>?_⟩⟩
 ·by_cases hb:b=a
  ·subst hb;rw [bS] at q;cases q;exact h2
  ·rw [br hb] at q;exact sr.hp.sub b o q
 ·have:b≠a:=fun z=>k1 (z▸h4)
  rw [br this];exact sr.hp.frz b k1 k2
 ·rcases fW q with ⟨rfl,hl,rfl⟩ | ⟨hj,q⟩
  ·exact ⟨.ref a,h1,.lst (.inl (.inl bS)) (h5.mono s1)⟩
  ·obtain ⟨w,k1,k2⟩:=sr.at_ j y q
   refine ⟨w,k1,?_⟩
   cases y with
   | d x=>exact Rep.mono s1 k2
   | bor zs=>obtain ⟨p,us,m1,m2,m3⟩:=k2;exact ⟨p,us,m1,m2,m3.mono s1⟩
   | own zs=>
    obtain ⟨p,us,rfl,m1,m2,m3,m4⟩:=k2
    have hne:p≠a:=fun z=>sr.sep i j xs zs (.ref a) (Ne.symm hj) hi q h1 (z▸k1)
    exact ⟨p,us,rfl,m1,by rw [br hne];exact m2,m3,m4.mono s1⟩
 ·have f:∀(k:Nat) (ys:List D),(env.set i (some (.d (.lst xs))))[k]?=some (some (.own ys))→env[k]?=some (some (.own ys)):=fun k ys q=>by
   rcases fW q with ⟨rfl,_,z⟩ | ⟨_,q⟩
   ·cases z
   ·exact q
  exact sr.sep j k ys zs w hjk (f j ys q1) (f k zs q2) q3 q4
def mY (i:Nat) (g:G O):G O:=fun env=>match env[i]? with
 | some (some (.own xs))=>g (env.set i (some (.d (.lst xs))))
 | _=>g env
theorem EM (i:Nat) (h:gP X c st g):gP X c st (mY i g):=fun pins s σ H D I ⟨J,env,sr,w⟩=>by
 unfold mY at w
 split at w
 ·rename_i xs hi
  obtain ⟨J',s1,sr'⟩:=sr.frz hi
  exact h pins s σ H D I ⟨J',_,sr',aB w fun o q=>q.mono s1⟩
 ·exact h pins s σ H D I ⟨J,env,sr,w⟩
end
structure QD (X:Cx) (c:C) (x0:Expr) (x1:G R):Prop where
 h:PD X c x0 x1
structure QB (X:Cx) (c:C) (x0:Expr) (x1:G Bool):Prop where
 h:PB X c x0 x1
structure jk (X:Cx) (c:C) (x0:List Expr) (x1:G (List R)):Prop where
 h:iy X c x0 x1
structure zC (X:Cx) (c:C) (x0:List Expr) (x1:G (List D)):Prop where
 h:wW X c x0 x1
structure iG (X:Cx) (c:C) (x0:Stmt) (x1:G O):Prop where
 h:gP X c x0 x1
structure mJ (X:Cx) (c:C) (x0:List Stmt) (x1:G O):Prop where
 h:l_ X c x0 x1
structure Dj (X:Cx) (c:C) (x0:Expr) (x1:G Bool):Prop where
 h:uv X c x0 x1
structure uA (X:Cx) (c:C) (x0:Expr) (x1:GT):Prop where
 h:oB X c x0 x1
structure uB (X:Cx) (c:C) (x0:List Expr) (x1:jF):Prop where
 h:qL X c x0 x1
structure zE (X:Cx) (c:C) (x0:Expr) (x1:Expr) (x2:G (List D)):Prop where
 h:rJ X c x0 x1 x2
structure zD (X:Cx) (c:C) (x0:Expr) (x1:Expr) (x2:G (List D)):Prop where
 h:uw X c x0 x1 x2
structure yh (X:Cx) (c:C) (x0:List Expr) (x1:G Bool):Prop where
 h:qK X c x0 x1
structure Dk (X:Cx) (c:C) (x0:Option Expr) (x1:GO):Prop where
 h:uz X c x0 x1
section
variable {X:Cx}{c:C}{e a b:Expr}{ga gb:G R}{pos:Pos}
theorem aa (i:Nat){x:Str}(hN:X.N[i]?=some x:=by rfl) (hv:kC X.env.scope x:=by first | exact Or.inl rfl | exact Or.inr (Or.inl rfl) | exact Or.inr (Or.inr rfl)) (hd:(x == ("__debug__":Str))=false:=by decide)
  (hcd:(x == ("__classdict__":Str))=false:=by decide):QD X c (.Name x pos) (af i):=⟨HD i hN hv hd hcd⟩
theorem az {i:Int}{j:Nat}:QD X c (.Constant (.int i) j pos) (gC (.int i)):=⟨Hq⟩
theorem vt {i:Bool}{j:Nat}:QD X c (.Constant (.bool i) j pos) (gC (.bl i)):=⟨Jv⟩
theorem Ft {j:Nat}:QD X c (.Constant .none j pos) (gC .non):=⟨Hw⟩
theorem rq {x:Str}{j:Nat}:QD X c (.Constant (.str x) j pos) (gC (.str x)):=⟨HA⟩
theorem oh (ha:QD X c a ga) (hb:QD X c b gb):QD X c (.BinOp a .Sub b pos) (g2 mV ga gb):=⟨HB ha.h hb.h⟩
theorem dX (ha:QD X c a ga) (hb:QD X c b gb):QD X c (.BinOp a .FloorDiv b pos) (g2 gT ga gb):=⟨Hl ha.h hb.h⟩
theorem cK (ha:QD X c a ga) (hb:QD X c b gb):QD X c (.BinOp a .Mod b pos) (g2 eF ga gb):=⟨Hu ha.h hb.h⟩
theorem Fw (ha:QD X c a ga) (hb:QD X c b gb):QD X c (.BinOp a .Pow b pos) (g2 BL ga gb):=⟨Hy ha.h hb.h⟩
theorem au:jk X c [] aE:=⟨EI⟩
theorem ak {es:List Expr}{g:G R}{gs:G (List R)}(h:QD X c e g) (hs:jk X c es gs) (hst:starEach (e::es) X.env=(false,eval e X.env)::starEach es X.env:=by rfl):jk X c (e::es) (ao g gs):=⟨Ck h.h hs.h hst⟩
end
section
variable {X:Cx}{c:C}{e a b:Expr}{es:List Expr}{ga gb g:G R}{pos:Pos}
theorem aM:zC X c [] aR:=⟨EJ⟩
theorem aq {gs:G (List D)}(h:QD X c e g) (hs:zC X c es gs) (hst:starEach (e::es) X.env=(false,eval e X.env)::starEach es X.env:=by rfl):zC X c (e::es) (aA g gs):=⟨Cm h.h hs.h hst⟩
theorem aZ {k}{gs:G (List D)}(h:zC X c es gs):QD X c (.Tuple es k pos) (bC gs):=⟨HC h.h⟩
theorem dM {gs:G (List D)}(h:zC X c es gs):QD X c (.List es pos) (fB gs):=⟨Ht h.h⟩
theorem fD {p:Pos}{gs:G (List R)}(ha:jk X c (e::es) gs) (hm:X.mg "len"=none) (hK:X.K=c.K:=by rfl) (hg:Gl X "len":=by rfl)
  (he:starEach (e::es) X.env=(false,eval e X.env)::starEach es X.env:=by rfl) (hpl:(backTo pos (starEach es X.env)).any (·.1)=false:=by rfl):QD X c (.Call (.Name "len" p) (e::es) [] pos) (gN iL gs):=⟨Hr ha.h hm hK hg he hpl⟩
theorem bB {p:Pos}{gs:G (List R)}(ha:jk X c (e::es) gs) (hm:X.mg "tuple"=none) (hK:X.K=c.K:=by rfl) (hg:Gl X "tuple":=by rfl)
  (he:starEach (e::es) X.env=(false,eval e X.env)::starEach es X.env:=by rfl) (hpl:(backTo pos (starEach es X.env)).any (·.1)=false:=by rfl):QD X c (.Call (.Name "tuple" p) (e::es) [] pos) (gN bG gs):=⟨CC ha.h hm hK hg he hpl⟩
theorem xP (h:QD X c e g) (he:∀whole,isTrue e X.env whole=(do let v ←whole;standAt e.pos;holding [v] (truthy v)):=by intro _;rfl):QB X c e (bN g):=⟨Hg h.h he⟩
theorem iA {op:CmpOp}{r:R2}{f:R→R→M R}(ho:dg X (compareOp op) r) (hf:BD c r f) (ha:QD X c a ga) (hb:QD X c b gb) (hm:behindInMarks op b=false:=by first | exact ve _ | rfl):QB X c (.Compare a [op] [b] pos) (bN (g2 f ga gb)):=⟨nC ho hf ha.h hb.h hm⟩
variable {t u:G Bool}{rest:List Expr}
theorem nZ (h:Dj X c e t):QB X c e t:=⟨uv.pb h.h⟩
theorem n_ (h:QB X c a t):Dj X c (.BoolOp .Or [a] pos) t:=⟨G_ h.h⟩
theorem nF (h:QB X c a t) (h':Dj X c (.BoolOp .Or (b::rest) pos) u):Dj X c (.BoolOp .Or (a::b::rest) pos) (mw t u):=⟨Ju h.h h'.h⟩
theorem xO (h:QB X c a t):QB X c (.UnaryOp .Not a pos) (o6 t):=⟨G9 h.h⟩
theorem CW {op}(h:QD X c a ga):QD X c (.BoolOp op [a] pos) ga:=⟨EU h.h⟩
theorem Fp (h:QD X c a ga) (h':QD X c (.BoolOp .And (b::rest) pos) gb):QD X c (.BoolOp .And (a::b::rest) pos) (yC ga gb):=⟨Hi h.h h'.h⟩
theorem Fv (h:QD X c a ga):QD X c (.UnaryOp .Not a pos) (yG ga):=⟨Hx h.h⟩
theorem xQ {x:Expr}(hx:QB X c x t) (h:QD X c a ga) (h':QD X c b gb):QD X c (.IfExp x a b pos) (oG t ga gb):=⟨Ho hx.h h.h h'.h⟩
end
section
variable {X:Cx}{c:C}{e a b tg:Expr}{es:List Expr}{ga gb g:G R}{pos:Pos}{st:Stmt}{rest:List Stmt}{t u:G O}{tb:G Bool}
theorem b9:mJ X c [] fV:=⟨EZ⟩
theorem av (h:iG X c st t) (h':mJ X c rest u):mJ X c (st::rest) (aK t u):=⟨CF h.h h'.h⟩
theorem aN (h:iG X c st t):mJ X c [st] t:=⟨E1 h.h⟩
theorem AW (h:QD X c e g) (hs:swapsWith e none pos.line X.env=pure false:=by rfl):iG X c (.Expr e pos) (t6 g):=⟨Cp h.h hs⟩
theorem bu (h:QD X c e g):iG X c (.Return (some e) pos) (bU g):=⟨EN h.h⟩
theorem cQ {x:Expr}{as bs:List Stmt}(hx:QB X c x tb) (h:mJ X c as t) (h':mJ X c bs u):iG X c (.If x as bs pos) (cL tb t u):=⟨Hh hx.h h.h h'.h⟩
theorem aH (i:Nat){x:Str}{pos':Pos}(hN:X.N.Nodup) (h:QD X c e g) (hi:X.N[i]?=some x:=by rfl) (hx:Loc X.env.scope x:=by first | exact Or.inl rfl | exact Or.inr rfl) (hs:swapsWith e (some (.Name x pos')) pos.line X.env=pure false:=by rfl)
  (hf:X.fn x=true∨X.env.scope.names.lookup x=some .local:=by first | exact .inl rfl | exact .inr rfl):iG X c (.Assign [.Name x pos'] e pos) (aX i g):=⟨EO i hN h.h hi hx hs hf⟩
theorem aC (i:Nat){x:Str}(hN:X.N.Nodup) (hi:X.N[i]?=some x:=by rfl) (hx:Loc X.env.scope x:=by first | exact Or.inl rfl | exact Or.inr rfl) (hf:X.fn x=true∨X.env.scope.names.lookup x=some .local:=by first | exact .inl rfl | exact .inr rfl):uA X c (.Name x pos) (aF i):=⟨CT i hN hi hx hf⟩
theorem bO:uB X c [] cM:=⟨CU⟩
theorem aP {t:GT}{u:jF}(h:uA X c e t) (h':uB X c es u) (hs:(assignEach (e::es) X.env).map (·.2)=assign e X.env::(assignEach es X.env).map (·.2):=by rfl):uB X c (e::es) (aV t u):=⟨AS h.h h'.h hs⟩
theorem cg {k:Nat}{u:jF}{n:Nat}(h:uB X c es u) (hc:X.calm=true:=by rfl) (hK:X.K=c.K:=by rfl) (hn:(assignEach es X.env).length=n:=by rfl) (hst:(assignEach es X.env).findIdx? (·.1)=none:=by rfl):uA X c (.Tuple es k pos) (cO n u):=⟨Fj h.h hc hK hn hst⟩
theorem dc {iter:Expr}{body:List Stmt}{gi:G (List D)}{t:GT}(hi:zE X c tg iter gi) (ht:uA X c tg t) (hb:mJ X c body u) (hp:PassesOwn (model X.prog X.w) X.A X.env X.xe:=by first | exact PassesOwn.never | exact PassesOwn.leaving) (hc:X.calm=true:=by rfl)
  (hs:∀x,foldedSetIterable iter X.env x=pure x:=by intro _;rfl):iG X c (.For tg iter body [] pos) (fz gi t u):=⟨EL hi.h ht.h hb.h hp hc hs⟩
theorem cj {p:Pos}{gs:G (List R)}(ha:jk X c [a] gs) (hm:X.mg "range"=none) (hg:Gl X "range":=by rfl) (hs:starEach [a] X.env=[(false,eval a X.env)]:=by rfl):zE X c tg (.Call (.Name "range" p) [a] [] pos) (ez gs):=⟨yX ha.h hm hg hs⟩
theorem jO {gi:G (List D)}(h:zE X c tg e gi):zD X c tg e gi:=⟨rJ.pic h.h⟩
end
section
variable {X:Cx}{c:C}{e a b tg:Expr}{es:List Expr}{ga gb g:G R}{pos:Pos}
theorem dU (i:Nat){x:Str}{p1 p2 pos':Pos}(h:QD X c e g) (hN:X.N[i]?=some x:=by rfl) (hv:kC X.env.scope x:=by first | exact Or.inl rfl | exact Or.inr (Or.inl rfl) | exact Or.inr (Or.inr rfl)) (hd:(x == ("__debug__":Str))=false:=by decide)
  (hcd:(x == ("__classdict__":Str))=false:=by decide)
  (hbase:attributeBase (.Name x p1) "append" X.env (eval (.Name x p1) X.env)=eval (.Name x p1) X.env:=by rfl)
  (hfew:((backTo pos' (starEach [e] X.env)).all (fun x=>!x.1) && (backToKw pos' (keywordEach [] X.env)).all (fun x=>x.1.isSome)
   && decide (([e]:List Expr).length + ([]:List Keyword).length + (if ([]:List Keyword).isEmpty then 0 else 1) < 30))=true:=by rfl)
  (hline:(p2.endLine == pos'.line)=true:=by rfl) (hst:starEach [e] X.env=(false,eval e X.env)::starEach [] X.env:=by rfl) (hplain:(backTo pos' (starEach [] X.env)).any (·.1)=false:=by rfl)
  (hs:swapsWith (.Call (.Attribute (.Name x p1) "append" p2) [e] [] pos') none pos.line X.env=pure false:=by rfl):iG X c (.Expr (.Call (.Attribute (.Name x p1) "append" p2) [e] [] pos') pos) (ie i g):=⟨yV i h.h hN hv hd hcd hbase hfew hline hst hplain hs⟩
end
section
variable {X:Cx}{c:C}
theorem bK:yh X c [] eU:=⟨CL⟩
theorem j_ {x:Expr}{g:G Bool}(h:QB X c x g):yh X c [x] g:=⟨CM h.h⟩
end
section
variable {K:PySem.W.Frag}{J:Hp}{s:Shared}
variable {X:Cx}{c:C}{e a b tg:Expr}{es:List Expr}{ga gb g:G R}{pos:Pos}
theorem qp (hu:X.A.units + 64 < cLine) (ha:QD X c a ga) (hb:QD X c b gb) (hK:X.K=c.K:=by rfl):QD X c (.Compare a [.Eq] [b] pos) (g2 (cU false) ga gb):=⟨Jw hu ha.h hb.h hK⟩
theorem iO (hu:X.A.units + 64 < cLine) (ha:QD X c a ga) (hb:QD X c b gb) (hK:X.K=c.K:=by rfl):QB X c (.Compare a [.Eq] [b] pos) (bN (g2 (cU false) ga gb)):=⟨Jq hu ha.h hb.h hK⟩
theorem kQ (hu:X.A.units + 64 < cLine) (ha:QD X c a ga) (hb:QD X c b gb) (hK:X.K=c.K:=by rfl):QB X c (.Compare a [.NotEq] [b] pos) (bN (g2 (cU true) ga gb)):=⟨Jt hu ha.h hb.h hK⟩
theorem qq (hu:X.A.units + 64 < cLine) (ha:QD X c a ga) (hb:QD X c b gb) (hK:X.K=c.K:=by rfl) (hm:behindInMarks .In b=false:=by rfl):QD X c (.Compare a [.In] [b] pos) (g2 (jm false) ga gb):=⟨Jx hu ha.h hb.h hK hm⟩
theorem Ic (hu:X.A.units + 64 < cLine) (ha:QD X c a ga) (hb:QD X c b gb) (hK:X.K=c.K:=by rfl) (hm:behindInMarks .In b=false:=by rfl):QB X c (.Compare a [.In] [b] pos) (bN (g2 (jm false) ga gb)):=⟨Jr hu ha.h hb.h hK hm⟩
end
section
variable {X:Cx}{c:C}{e a b tg:Expr}{es:List Expr}{ga gb g:G R}{pos:Pos}
theorem se:Dk X c none xq:=⟨CN⟩
theorem sf (h:QD X c e g):Dk X c (some e) (xr g):=⟨CO h.h⟩
theorem y9 {p:Pos}{gs:G (List R)}(ha:jk X c (e::es) gs) (hm:X.mg "sorted"=none) (hK:X.K=c.K:=by rfl) (hg:Gl X "sorted":=by rfl)
  (he:starEach (e::es) X.env=(false,eval e X.env)::starEach es X.env:=by rfl) (hpl:(backTo pos (starEach es X.env)).any (·.1)=false:=by rfl):QD X c (.Call (.Name "sorted" p) (e::es) [] pos) (gN jz gs):=⟨AK ha.h hm hK hg he hpl⟩
end
section
variable {X:Cx}{c:C}{e a b tg:Expr}{es:List Expr}{ga gb g:G R}{pos:Pos}
theorem fQ (ha:QD X c a ga) (hb:QD X c b gb):QD X c (.BinOp a .Add b pos) (g2 dJ ga gb):=⟨EY ha.h hb.h⟩
theorem gw (ha:QD X c a ga) (hb:QD X c b gb):QD X c (.BinOp a .Mult b pos) (g2 d8 ga gb):=⟨CA ha.h hb.h⟩
theorem aI (ha:QD X c a ga) (hb:QD X c b gb) (hK:X.K=c.K:=by rfl) (hs:nQ b:=by exact fun _ _=>rfl):QD X c (.Subscript a b pos) (g2 bg ga gb):=⟨Cv ha.h hb.h hK hs⟩
theorem aY {k k' n:Nat}{F:List S→M R}{x:Str}{p:Pos}{gs:G (List R)}(G:bW X.prog X.w X.K X.mg X.base k n x F) (hr:c_ k' X.A) (ha:jk X c (e::es) gs) (hk:k≤k':=by decide) (hT:c.K=X.K:=by rfl) (hg:Gl X x:=by rfl) (hdb:(x == ("__debug__":Str))=false:=by decide)
  (he:starEach (e::es) X.env=(false,eval e X.env)::starEach es X.env:=by rfl) (hpl:(backTo pos (starEach es X.env)).any (·.1)=false:=by rfl):QD X c (.Call (.Name x p) (e::es) [] pos) (gN (aW n F) gs):=⟨Hj G hr ha.h hk hT hg hdb he hpl⟩
theorem jP {t:GT}(h:QD X c e g) (ht:uA X c tg t) (hs:swapsWithSole [tg] e pos.line X.env=pure false:=by rfl) (hw:swappedStores [tg] e X.env=pure none:=by rfl)
  (h1:(assignEach [tg] X.env).map (·.2)=[assign tg X.env]:=by rfl):iG X c (.Assign [tg] e pos) (jL t g):=⟨ES h.h ht.h hs hw h1⟩
end
section
variable {X:Cx}{c:C}{e a b tg:Expr}{es:List Expr}{ga gb g:G R}{pos:Pos}
theorem lM {T:String}{Ts:Str}{p p2:Pos}(kit:wV T) (hT:bootBuiltins Ts=some (.type T)) (mT:X.mg Ts=none)
  (h:QD X c a g) (hm:X.mg "isinstance"=none) (hK:X.K=c.K:=by rfl) (hg:Gl X "isinstance":=by rfl) (hgT:Gl X Ts:=by rfl) (hn:Ts≠"__name__":=by decide) (hdT:(Ts == ("__debug__":Str))=false:=by decide)
  (he:starEach [a,.Name Ts p2] X.env=(false,eval a X.env)::starEach [.Name Ts p2] X.env:=by rfl) (he2:starEach [.Name Ts p2] X.env=(false,eval (.Name Ts p2) X.env)::starEach [] X.env:=by rfl)
  (hpl:(backTo pos (starEach [.Name Ts p2] X.env)).any (·.1)=false:=by rfl):QD X c (.Call (.Name "isinstance" p) [a,.Name Ts p2] [] pos) (xo T g):=⟨AI kit hT mT h.h hm hK hg hgT hn hdT he he2 hpl⟩
end
section
variable {X:Cx}{c:C}{e a b tg:Expr}{es:List Expr}{ga gb g:G R}{pos:Pos}
theorem cW (ha:QD X c a ga) (hb:QD X c b gb) (hK:X.K=c.K:=by rfl):QD X c (.BinOp a .Add b pos) (g2 cu ga gb):=⟨ET ha.h hb.h hK⟩
end
section
variable {X:Cx}{c:C}{e a b tg:Expr}{es:List Expr}{ga gb g:G R}{pos:Pos}
theorem xR {lo hi:Option Expr}{gl gh:GO}{p2:Pos}(h:QD X c e g) (hl:Dk X c lo gl) (hh:Dk X c hi gh) (hK:X.K=c.K:=by rfl):QD X c (.Subscript e (.Slice lo hi none p2) pos) (uV oW g gl gh):=⟨Hz h.h hl.h hh.h hK⟩
end
section
variable {X:Cx}{c:C}{e a b tg:Expr}{es:List Expr}{ga gb g:G R}{pos:Pos}
theorem r_ {d:D}{x:Str}(h:tU X.K X.mg x d) (hK:X.K=c.K:=by rfl) (hg:Gl X x:=by rfl) (hd:(x == ("__debug__":Str))=false:=by decide):QD X c (.Name x pos) (gC d):=⟨Cu h hK hg hd⟩
end
section
variable {X:Cx}{c:C}{e a b tg:Expr}{es:List Expr}{ga gb g:G R}{pos:Pos}{st:Stmt}{t u:G O}{tb:G Bool}
theorem qm:iG X c st tZ:=⟨AD⟩
theorem Fq (h:QD X c a g):QD X c (.UnaryOp .USub a pos) (yF g):=⟨Hv h.h⟩
theorem q_ (h:QD X c e g) (hK:X.K=c.K:=by rfl) (he:∀whole,isTrue e X.env whole=(do let v ←whole;standAt e.pos;holding [v] (truthy v)):=by intro _;rfl):QB X c e (mZ g):=⟨Hf h.h hK he⟩
theorem qo (n:Nat){body:List Stmt}(ht:QB X c e tb) (hb:mJ X c body u) (hp:PassesOwn (model X.prog X.w) X.A X.env X.xe:=by first | exact PassesOwn.never | exact PassesOwn.leaving):iG X c (.While e body [] pos) (m9 n tb u):=⟨AF n ht.h hb.h hp⟩
end
section
variable {X:Cx}{c:C}{e a b tg:Expr}{es:List Expr}{ga gb g:G R}{pos:Pos}{st:Stmt}{t u:G O}{tb:G Bool}
theorem wH (i j:Nat){x y:Str}{p1 p2 pos' q1 q2 q3:Pos}(h:QD X c e g) (hi:X.N[i]?=some x:=by rfl) (hvx:kC X.env.scope x:=by first | exact Or.inl rfl | exact Or.inr (Or.inl rfl) | exact Or.inr (Or.inr rfl)) (hdx:(x == ("__debug__":Str))=false:=by decide) (hcx:(x == ("__classdict__":Str))=false:=by decide)
  (hj:X.N[j]?=some y:=by rfl) (hvy:kC X.env.scope y:=by first | exact Or.inl rfl | exact Or.inr (Or.inl rfl) | exact Or.inr (Or.inr rfl)) (hdy:(y == ("__debug__":Str))=false:=by decide) (hcy:(y == ("__classdict__":Str))=false:=by decide)
  (hbase:attributeBase (.Name x p1) "append" X.env (eval (.Name x p1) X.env)=eval (.Name x p1) X.env:=by rfl)
  (hfew:((backTo pos' (starEach [.Call (.Attribute (.Name y q1) "pop" q2) [e] [] q3] X.env)).all (fun x=>!x.1) && (backToKw pos' (keywordEach [] X.env)).all (fun x=>x.1.isSome)
   && decide (([.Call (.Attribute (.Name y q1) "pop" q2) [e] [] q3]:List Expr).length + ([]:List Keyword).length + (if ([]:List Keyword).isEmpty then 0 else 1) < 30))=true:=by rfl)
  (hline:(p2.endLine == pos'.line)=true:=by rfl)
  (hst:starEach [.Call (.Attribute (.Name y q1) "pop" q2) [e] [] q3] X.env=(false,eval (.Call (.Attribute (.Name y q1) "pop" q2) [e] [] q3) X.env)::starEach [] X.env:=by rfl) (hplain:(backTo pos' (starEach [] X.env)).any (·.1)=false:=by rfl)
  (hbase2:attributeBase (.Name y q1) "pop" X.env (eval (.Name y q1) X.env)=eval (.Name y q1) X.env:=by rfl)
  (hfew2:((backTo q3 (starEach [e] X.env)).all (fun x=>!x.1) && (backToKw q3 (keywordEach [] X.env)).all (fun x=>x.1.isSome)
   && decide (([e]:List Expr).length + ([]:List Keyword).length + (if ([]:List Keyword).isEmpty then 0 else 1) < 30))=true:=by rfl)
  (hline2:(q2.endLine == q3.line)=true:=by rfl) (hst2:starEach [e] X.env=(false,eval e X.env)::starEach [] X.env:=by rfl) (hplain2:(backTo q3 (starEach [] X.env)).any (·.1)=false:=by rfl)
  (hs:swapsWith (.Call (.Attribute (.Name x p1) "append" p2) [.Call (.Attribute (.Name y q1) "pop" q2) [e] [] q3] [] pos') none pos.line X.env=pure false:=by rfl):iG X c (.Expr (.Call (.Attribute (.Name x p1) "append" p2) [.Call (.Attribute (.Name y q1) "pop" q2) [e] [] q3] [] pos') pos) (jA i j g):=⟨yU i j h.h hi hvx hdx hcx hj hvy hdy hcy hbase hfew hline hst hplain hbase2 hfew2 hline2 hst2 hplain2 hs⟩
end
section
variable {X:Cx}{c:C}{e a b tg:Expr}{es:List Expr}{ga gb g:G R}{pos:Pos}
theorem Ie (ha:QD X c a ga) (hb:QD X c b gb):QB X c (.Compare a [.Is] [b] pos) (bN (g2 (Dt false) ga gb)):=⟨Js ha.h hb.h⟩
end
section
variable {X:Cx}{c:C}{e a b d tg:Expr}{es:List Expr}{ga gb g:G R}{pos:Pos}
theorem pe (h:QD X c e g) (hK:X.K=c.K:=by rfl):zE X c tg e (qX g):=⟨E_ h.h hK⟩
theorem b_ (h:QD X c e g) (hK:X.K=c.K:=by rfl):zD X c tg e (eY g):=⟨E9 h.h hK⟩
end
section
variable {X:Cx}{c:C}{st:Stmt}{g:G O}
theorem vq (i:Nat) (h:iG X c st g):iG X c st (mY i g):=⟨EM i h.h⟩
end
section
variable {X:Cx}{c:C}
theorem bV {P:Program}{w:World}{K:PySem.W.Frag}{mg:Str→Option Value}{base:Heap}{x qual:Str}{st:Stmt}{f:Addr}{fd:FuncData}{N ps:List Str}{k:Nat}{Fm:List S→M R}(F:dQ K x qual st f fd) (hm:mg x=some (.ref f)) (Sc:bE N ps (ay st))
  (hbi:∀(kV doc pm:Value) (an:Option Addr) (cdv ct:Value) (us:List Value),us.length=ps.length→bindArgs (PySem.W.fnOf x qual (aO st) (aJ st) (ay st) .none kV doc pm an cdv ct) ⟨us,[]⟩=pure (ps.zip us)){gB:G O}
  (hb:∀(cdv:Value) (A:Around) (outer:List Env) (s:Shared) (H:Hp) (E:XK) (J:Hp) (T:Exc→Prop),c_ k (A.deeper (envOfC qual (ay st) s.heap.objs.size f cdv))→
   mJ (Dp P w K mg base N qual (ay st) f cdv A outer s H E) ⟨K,H,J,T⟩ (aJ st) gB)
  (hF:∀as r,as.length=ps.length→Fm as=.ok r→fin (gB (bD N as))=.ok r):bW P w K mg base (k + 1) ps.length x Fm:=
 Gp F hm Sc hbi (fun cdv A outer s H E J T hr=>(hb cdv A outer s H E J T hr).h) hF
theorem Fo {P:Program}{w:World}{K:PySem.W.Frag}{mg:Str→Option Value}{base:Heap}{x qual:Str}{st:Stmt}{f:Addr}{fd:FuncData}{N ps:List Str}{k:Nat}{Fm:List S→M R}(F:dQ K x qual st f fd) (Sc:bE N ps (ay st)){gB:G O}
  (hb:∀(cdv:Value) (A:Around) (outer:List Env) (s:Shared) (H:Hp) (E:XK) (J:Hp) (T:Exc→Prop),c_ k (A.deeper (envOfC qual (ay st) s.heap.objs.size f cdv))→
   mJ (Dp P w K mg base N qual (ay st) f cdv A outer s H E) ⟨K,H,J,T⟩ (aJ st) gB)
  (hF:∀as r,as.length=ps.length→Fm as=.ok r→fin (gB (bD N as))=.ok r):gj P w K mg base lZ (k + 1) f fd ps (qA K ps.length Fm):=
 Ab F Sc (fun cdv A outer s H E J T hr=>(hb cdv A outer s H E J T hr).h) hF
end
end DL
namespace K01
open PySem DL
def zB:List Str:=["thing"]
def rS:G O:=(bU (yC (xo "int" (af 0)) (yG (xo "bool" (af 0)))))
def mH (as:List S):M R:=fin (rS (bD zB as))
theorem d9 {n:Nat}(h:n≤1000):n≤sizeLine:=Nat.le_trans h (by decide)
theorem jx {α:Type}{xs:List α}{k:Nat}{x:α}(h:xs[k]?=some x):L2.jX xs (k:Int)=some x:=by
 have hk:k < xs.length:=(List.getElem?_eq_some_iff.mp h).1
 unfold L2.jX L2.mE
 rw [if_pos (by omega),if_pos (by omega)]
 simpa using h
theorem jy {xs:List D}{k:Nat}{x:D}(h:xs[k]?=some x):bg (.d (.tup xs)) (.d (.int k))=.ok (.d x):=by
 unfold bg
 simp only [jc,aU,jx h]
theorem tY {m:Md}{xs:List D}{k:Nat}{x:D}(h:xs[k]?=some x):bg (.l m xs) (.d (.int k))=.ok (.d x):=by
 unfold bg
 simp only [jc,aU,jx h]
theorem Eb {z:Str}{k:Nat}{c:Nat}(hz:z.length≤1000) (h:z.cps.toList[k]?=some c):bg (.d (.str z)) (.d (.int k))=.ok (.d (.str ⟨#[c]⟩)):=by
 unfold bg
 simp only [d9 hz,if_true,jx h]
theorem eq_int (neg:Bool) (i j:Int):cU neg (.d (.int i)) (.d (.int j))=.ok (.d (.bl (if neg then !(i == j) else i == j))):=rfl
theorem jM (a:D) (r:List D):bg (.d (.tup (a::r))) (.d (.int 0))=.ok (.d a):=jy (k:=0) rfl
theorem rT (a b:D) (r:List D):bg (.d (.tup (a::b::r))) (.d (.int 1))=.ok (.d b):=jy (k:=1) rfl
theorem Lj (a b c:D) (r:List D):bg (.d (.tup (a::b::c::r))) (.d (.int 2))=.ok (.d c):=jy (k:=2) rfl
theorem KU (n:Nat) (h:n≤1000):below 4611686018427387904 (n:Int)=true:=dG.mpr ⟨by omega,by omega⟩
def DG (j:Int):M (List D):=if below 4611686018427387904 j then .ok (eZ 0 j.toNat) else .bad
theorem Iu (j:Int) (h:below 4611686018427387904 j=true):DG j=.ok (eZ 0 j.toNat):=by unfold DG;exact if_pos h
theorem Ir {gs:G (List R)}{env:Ev}{j:Int}(hg:gs env=.ok [.d (.int j)]):ez gs env=DG j:=by
 unfold ez DG
 rw [hg]
 rfl
theorem nJ {gs:G (List R)}{env:Ev}{n:Nat}(hg:gs env=.ok [.d (.int (n:Int))]) (h:n≤1000):ez gs env=.ok (eZ 0 n):=by
 rw [Ir hg,Iu _ (KU n h)]
 exact congrArg (fun k=>M.ok (eZ 0 k)) (Int.toNat_natCast n)
theorem Gz {g:G (List D)}{t:GT}{u:G O}{env:Ev}{ds:List D}(h:g env=.ok ds):fz g t u env=gZ t u ds env:=by
 unfold fz
 rw [h]
 rfl
theorem qD (i j:Int):dJ (.d (.int i)) (.d (.int j))=.ok (.d (.int (i + j))):=rfl
theorem tX {C:Int→Int→Bool}{f:Int→Int→D}{i j:Int}(h:C i j=true):fI C f (.d (.int i)) (.d (.int j))=.ok (.d (f i j)):=by
 show (if C i j=true then M.ok (R.d (f i j)) else M.bad)=_
 rw [if_pos h]
theorem rC (i j:Int) (h1:-(2 ^ 64) < j) (h2:j < 2 ^ 64):d8 (.d (.int i)) (.d (.int j))=.ok (.d (.int (i * j))):=tX (C:=o8) (f:=fun i j=>.int (i * j)) (by unfold o8;rw [Bool.or_eq_true];exact Or.inr (dG.mpr ⟨h1,h2⟩))
theorem vU (i j:Int) (h1:-(2 ^ 64) < i) (h2:i < 2 ^ 64):d8 (.d (.int i)) (.d (.int j))=.ok (.d (.int (i * j))):=tX (C:=o8) (f:=fun i j=>.int (i * j)) (by unfold o8;rw [Bool.or_eq_true];exact Or.inl (dG.mpr ⟨h1,h2⟩))
theorem lV (i j:Int) (h1:0 < j) (h2:j < 1073741824):gT (.d (.int i)) (.d (.int j))=.ok (.d (.int (i / j))):=tX (by
 unfold yL
 rw [Bool.and_eq_true]
 exact ⟨decide_eq_true h1,dG.mpr ⟨by omega,h2⟩⟩)
theorem gM (i j:Int) (h1:0 < j):eF (.d (.int i)) (.d (.int j))=.ok (.d (.int (i % j))):=tX (decide_eq_true h1)
theorem DJ (x y:Str) (h:x.length + y.length≤1000):dJ (.d (.str x)) (.d (.str y))=.ok (.d (.str (x++y))):=by
 show (if x.length + y.length≤sizeLine then M.ok (R.d (D.str (x++y))) else M.bad)=_
 rw [if_pos (d9 h)]
theorem DI (x:Str) (n:Int) (h0:0≤n) (h:n≤1000) (hx:x.length≤1000):d8 (.d (.str x)) (.d (.int n))=.ok (.d (.str (iu x n.toNat))):=by
 show (if 0≤n∧n≤1000∧x.length≤1000 then M.ok (R.d (D.str (iu x n.toNat))) else M.bad)=_
 rw [if_pos ⟨h0,h,hx⟩]
def Gj:Str:="abcdefghijklmnopqrstuvwxyz"
theorem Gk:∀k:Fin 26,Gj.cps.toList[k.val]?=some (97 + k.val):=by decide +kernel
theorem DS:Gj.length≤1000:=by decide +kernel
theorem Al (i:Int) (h0:0≤i) (h:i < 26):bg (.d (.str "abcdefghijklmnopqrstuvwxyz")) (.d (.int i))=.ok (.d (.str ⟨#[97 + i.toNat]⟩)):=by
 have e:i=((i.toNat:Nat):Int):=by omega
 have:=Eb (z:=Gj) (k:=i.toNat) DS (Gk ⟨i.toNat,by omega⟩)
 rw [e]
 exact this
theorem pU (c:Array Nat):∀(k:Nat) (acc:Array Nat),((List.replicate k c).foldl (·++·) acc).toList=acc.toList++(List.replicate k c.toList).flatten
 | 0,acc=>by simp
 | k + 1,acc=>by
  rw [List.replicate_succ,List.foldl_cons,pU c k]
  simp [List.replicate_succ]
theorem D3 (b n:Nat):(iu ⟨#[b]⟩ n).cps.toList=List.replicate n b:=by
 unfold iu
 simp only
 rw [pU]
 induction n with
 | zero=>rfl
 | succ n ih=>simpa [List.replicate_succ] using ih
theorem Ex (x:Str):x.length=x.cps.toList.length:=by
 show x.cps.size=_
 simp
theorem strs_map:∀(ss:List Str),strsOf (ss.map .str)=some ss
 | []=>rfl
 | s::r=>by
  simp only [List.map_cons,strsOf,strs_map r]
  rfl
theorem sorted_strs (m:Md) (ss:List Str) (h:ss.length < 64):jz [.l m (ss.map .str)]=.ok (.l .fresh ((oj ss).map .str)):=by
 unfold jz
 simp only [jW,aU,strs_map,h,if_true]
theorem Ah {b:G Bool}{t u:G O}{env:Ev}(h:b env=.ok false):cL b t u env=u env:=by
 unfold cL
 rw [h]
 rfl
theorem Ek {b:G Bool}{t u:G O}{env:Ev}(h:b env=.ok true):cL b t u env=t env:=by
 unfold cL
 rw [h]
 rfl
theorem Jj {g:G R}{f:List R→M R}{env:Ev}{r r':R}(h:g env=.ok r) (hf:f [r]=.ok r'):gN f (ao g aE) env=.ok r':=by
 unfold gN ao
 rw [h]
 exact hf
theorem Io {g:G R}{env:Ev}{r r':R}(h:g env=.ok r) (h2:rF r=.ok r'):bU g env=.ok (.rt r'):=by
 unfold bU
 rw [h,aU,h2]
 rfl
abbrev dN (k:Nat):D:=.int k
abbrev dP (p:Nat×Nat):D:=.tup [.int p.1,.int p.2]
def Kg (p q:Nat×Nat):Prop:=p.1 < q.1∨(p.1=q.1∧p.2 < q.2)
def tV (m:Nat) (xs:List Nat):Prop:=xs.length≤8∧xs.Pairwise (· < ·)∧∀x∈xs,x < m
def pC (m:Nat) (ps:List (Nat×Nat)):Prop:=ps.length≤64∧ps.Pairwise Kg∧∀p∈ps,p.1 < m∧p.2 < m
structure Wd where
 m:Nat
 ms:List (Str×List Nat)
 ar:List (Str×List (Nat×Nat))
abbrev e_ (r:Str×List Nat):D:=.tup [.str r.1,.tup (r.2.map dN)]
abbrev gx (r:Str×List (Nat×Nat)):D:=.tup [.str r.1,.tup (r.2.map dP)]
def Wd.d (w:Wd):D:=.tup [.int w.m,.tup (w.ms.map e_),.tup (w.ar.map gx)]
theorem sy {K:PySem.W.Frag}{J:L2.Hp}:∀(ns:List Int),aG K J (ns.map D.int) (ns.map L2.V.int)
 | []=>.nil
 | n::r=>.cons (.int n) (sy r)
end K01
namespace DX
open PySem PySem.Spec
open Builtin Builtin.ObjectAttr
end DX
namespace DX
open PySem PySem.Spec
end DX
namespace DX
open PySem PySem.Spec PyProof.Rows L2
end DX
namespace DL
open PySem PySem.Spec PyProof.Rows L2 DX
def Ku (K:PySem.W.Frag) (J:Hp) (x:Exc) (v:Value) (dx:Option Addr):Prop:=
 ∃a C vs,v=.ref a∧J a=some (XO a C dx)∧PySem.W.nsIn K mainGlobals x.cls=some (some (.ref C))∧XF J dx x.ns vs∧aG K J x.ds vs∧∃P,GX K P∧XE K P C
def XW (K:PySem.W.Frag) (J H:Hp) (E:XK) (x:Exc):Prop:=∀v dx J' H',Ext J H J' H'→Ku K J' x v dx→E v dx H'
def A8 (K:PySem.W.Frag) (n:Nat) (F:List S→M R):Sp:=fun vs H Q E=>∃J as,a_ J H∧as.length=n∧jh K J H as vs∧cA (F as) (fun r=>∀v J' H',Ext J H J' H'→FR K H J' H' r v→Q v H') (XW K J H E)
abbrev Lh (P:Program) (w:World) (K:PySem.W.Frag) (mg:Str→Option Value) (base:Heap) (N:List Str) (qual:Str) (sc:Scope) (f:Addr) (cd:Value) (A:Around) (outer:List Env) (s:Shared) (H:Hp) (E:XK):Cx:=mR (wQ P w) P w K mg base N qual sc f cd A outer s H E
def GA (n:Nat) (F:List S→M R):List R→M R:=fun rs=>if rs.length=n then (match F (rs.map dR) with
 | .ok r=>.ok (mq r)
 | .exc x=>.exc x
 | .bad=>.bad) else .bad
end DL
namespace DX
open PySem PySem.Spec PyProof.Rows L2
end DX
namespace DL
open PySem PySem.Spec PyProof.Rows L2 DX
end DL
namespace DX
open PySem PySem.Spec PyProof.Rows L2
end DX
namespace DL
open PySem PySem.Spec PyProof.Rows L2 DX
end DL
namespace DX
open PySem PySem.Spec PyProof.Rows L2
open Sem (wp)
end DX
namespace DL
open PySem PySem.Spec PyProof.Rows L2 DX
structure qH (K:PySem.W.Frag) (x qual:Str) (st:Stmt) (f:Addr) (fd:FuncData):Prop where
 ex:∃(oc:Value) (od:Option Addr) (T:Addr) (o:Obj) (n:Nat) (kV doc pm:Value) (an:Option Addr) (cdv ct:Value) (osl:Array (Option Value)),
  fd=PySem.W.fnOf x qual (aO st) (aJ st) (ay st) (.ref T) kV doc pm an cdv ct∧K.lookup f=some ⟨oc,od,.func fd,osl⟩∧PySem.W.codeIn K cdv qual=true∧K.lookup T=some o∧o.data=.seq #[.none] n
 kp:PySem.W.keepIn K (.ref f)=true
theorem uD {K:PySem.W.Frag}{J H:Hp}:∀{as:List S}{vs:List V},jh K J H as vs→jh K J H (as++[.d .non]) (vs++[.non])
 | [],_,h=>by
  cases h
  exact ⟨.non,[],rfl,.non,rfl⟩
 | a::as,_,h=>by
  obtain ⟨v,us,rfl,h1,h2⟩:=h
  exact ⟨v,us++[.non],rfl,h1,uD h2⟩
section
variable {P:Program}{w:World}{K:PySem.W.Frag}{mg:Str→Option Value}{base:Heap}
theorem Ed {x qual:Str}{st:Stmt}{f:Addr}{fd:FuncData}{N ps:List Str}{k:Nat}{Fm:List S→M R}(F:qH K x qual st f fd) (Sc:bE N ps (ay st)){gB:G O}
  (hb:∀(cdv:Value) (A:Around) (outer:List Env) (s:Shared) (H:Hp) (E:XK) (J:Hp),c_ k (A.deeper (envOfC qual (ay st) s.heap.objs.size f cdv))→l_ (Lh P w K mg base N qual (ay st) f cdv A outer s H E) ⟨K,H,J,XW K J H E⟩ (aJ st) gB)
  (hF:∀as,as.length=ps.length→Fm as≠.bad→fin (gB (bD N as))=Fm as):gj P w K mg base (wQ P w) (k + 1) f fd ps (A8 K ps.length Fm):=by
 obtain ⟨oc,od,T,o,n,kV,doc,pm,an,cdv,ct,osl,rfl,lk,hcd,lT,dT⟩:=F.ex
 refine Du lk hcd Sc (fun vs H Q E ⟨J,as,h1,h2,h3,h4⟩=>by rw [h3.length,h2]) fun A outer s H vs Q E hr ⟨J,as,h1,h2,h3,h4⟩=>?_
 refine ⟨_,hb cdv A outer s H E J hr,J,bD N as,vR h1 h3,?_⟩
 have z:=hF as h2 (fun q=>by rw [q] at h4;exact h4)
 rw [←z] at h4
 have ext:∀{J' H':Hp},HI ⟨K,H,J,XW K J H E⟩ J' H'→Ext J H J' H':=fun hp=>⟨hp.ent,hp.entJ,hp.sub,hp.frz⟩
 cases qg:gB (bD N as) with
 | bad=>rw [qg] at h4;exact h4
 | exc x=>rw [qg] at h4;exact h4
 | ok o=>
  rw [qg] at h4
  cases o with
  | bk _=>exact h4.elim
  | ct _=>exact h4.elim
  | nx env=>exact fun σ' J' H' _ sr=>h4 .non J' H' (ext sr.hp) .non
  | rt r=>exact fun v J' H' _ hp rf=>h4 v J' H' (ext hp) (by
    cases r with
    | d x=>exact rf
    | l m xs=>exact rf)
def Bp (P:Program) (w:World) (K:PySem.W.Frag) (mg:Str→Option Value) (base:Heap) (k n:Nat) (x:Str) (Fm:List S→M R):Prop:=
 ∃f fd ps,gj P w K mg base (wQ P w) k f fd ps (A8 K (n + 1) Fm)∧mg x=some (.ref f)∧PySem.W.keepIn K (.ref f)=true∧Binds K fd ps [.none]
theorem qH.bindsOne {x qual:Str}{st:Stmt}{f:Addr}{fd:FuncData}{ps:List Str}(F:qH K x qual st f fd)
  (h:∀(T:Addr) (kV doc pm:Value) (an:Option Addr) (cdv ct:Value) (us:List Value),us.length + 1=ps.length→∃k:Option (Array Value)→Sem (List (Str×Value)),
   bindArgs (PySem.W.fnOf x qual (aO st) (aJ st) (ay st) (.ref T) kV doc pm an cdv ct) ⟨us,[]⟩=seqItems? (.ref T) >>= k∧k (some #[.none])=pure (ps.zip (us++[.none]))):Binds K fd ps [.none]:=by
 obtain ⟨oc,od,T,o,n,kV,doc,pm,an,cdv,ct,osl,rfl,lk,hcd,lT,dT⟩:=F.ex
 intro s us hK hl
 obtain ⟨k,h1,h2⟩:=h T kV doc pm an cdv ct us (by simpa using hl)
 exact .of_defaults (T:=T) (items:=#[.none]) rfl (hK _ _ lT) dT h1 h2
end
section
variable {X:Cx}{c:C}{e:Expr}{es:List Expr}{pos:Pos}
theorem AG {k n:Nat}{f:Addr}{fd:FuncData}{ps:List Str}{F:List S→M R}{x:Str}{p:Pos}{gs:G (List R)}(G:gj X.prog X.w X.K X.mg X.base (wQ X.prog X.w) k f fd ps (A8 X.K (n + 1) F)) (hr:c_ k X.A) (hm:X.mg x=some (.ref f)) (hk:PySem.W.keepIn X.K (.ref f)=true)
  (hb:Binds X.K fd ps [.none]) (ha:iy X c (e::es) gs) (hT:c.K=X.K:=by rfl) (hg:Gl X x:=by rfl) (hdb:(x == ("__debug__":Str))=false:=by decide) (he:starEach (e::es) X.env=(false,eval e X.env)::starEach es X.env:=by rfl)
  (hpl:(backTo pos (starEach es X.env)).any (·.1)=false:=by rfl):PD X c (.Call (.Name x p) (e::es) [] pos) (gN (aW n (fun as=>F (as++[.d .non]))) gs):=by
 refine fP (xN (E:=fun _ _ _=>False) G hr hg hm hk hb (dvs:=[.non]) (.cons rfl .nil) (fun pins σ H s v s' I ⟨e,C,dx,T,H',ev,f⟩=>f.wish.elim) ha hdb he hpl) fun σ H Q ⟨J,env,sr,w⟩=>?_
 refine ⟨J,env,sr,aB (aL w) fun rs wr vs J1 H1 e1 r1=>?_⟩
 unfold aW at wr
 split at wr
 ·rename_i hl
  have h1:=sr.hp.ext e1
  have ar:=r1.args h1
  rw [hT] at ar
  refine ⟨J1,rs.map dR++[.d .non],e1.sub,by simpa using hl,uD ar,?_⟩
  dsimp only at wr
  cases q:F (rs.map dR++[.d .non]) with
  | bad=>rw [q] at wr;exact wr
  | exc x=>rw [q] at wr;exact wr.elim
  | ok r=>
   rw [q] at wr
   intro v J' H' e2 fr
   refine wr v J' H' (e1.trans e2) ?_
   cases r with
   | d y=>exact (show Rep c.K J' y v from hT▸fr)
   | l m ys=>
    obtain ⟨a,us,h1,h2,h3,h4,h5⟩:=fr
    exact ⟨a,us,h1,h2,h3,e1.h.free h4,hT▸h5⟩
 ·exact wr.elim
theorem jQ {k k' n:Nat}{F:List S→M R}{x:Str}{p:Pos}{gs:G (List R)}(G:Bp X.prog X.w X.K X.mg X.base k n x F) (hr:c_ k' X.A) (ha:jk X c (e::es) gs) (hk:k≤k':=by decide) (hT:c.K=X.K:=by rfl) (hg:Gl X x:=by rfl) (hdb:(x == ("__debug__":Str))=false:=by decide)
  (he:starEach (e::es) X.env=(false,eval e X.env)::starEach es X.env:=by rfl) (hpl:(backTo pos (starEach es X.env)).any (·.1)=false:=by rfl):QD X c (.Call (.Name x p) (e::es) [] pos) (gN (aW n (fun as=>F (as++[.d .non]))) gs):=by
 obtain ⟨f,fd,ps,h1,h2,h3,h4⟩:=G
 exact ⟨AG h1 (hr.mono hk) h2 h3 h4 ha.h hT hg hdb he hpl⟩
end
section
variable {prog:Program}{w:World}{A:Around}{E:Value→Shared→Prop}{s:Shared}
theorem ID {l:Addr}{items:Array Value}{Q:List Value→Shared→Prop}(hl:IsTup s.heap l items) (hh:A.handled=none) (h1:1≤items.size) (hz:items.size≤2000)
  (h:∀(h':Heap) (tk:Nat),(∀b o,s.heap.get? b=some o→h'.get? b=some o)→Q (.ref h'.objs.size::items.toList.drop (items.size - 1)) {s with heap:=h'.push (seqObj "list" (items.toList.take (items.size - 1)).toArray 0),toks:=tk}):
  wpAny (model prog w) A (unpackItems (.ref l) 2 (some 0)) Q E s:=by
 have la:l < s.heap.objs.size:=by obtain ⟨o,ho,_⟩:=hl;exact Heap.lt_size ho
 unfold unpackItems
 refine (wpAny_bind ?_)
 unfold notIterableAtAll
 refine wpAny_bind ((wpAny_specialOf hl.typeIs slot_tuple_iter.lookup ?_))
 refine (wpAny_pure ?_)
 simp only [Bool.false_eq_true,if_false]
 refine wpAny_bind ((wpAny_holding (iter_tuple hl ?_)))
 refine wpAny_bind (wpAny_holding (show wpAny _ _ (pure []) _ _ _ from wpAny_pure ?_))
 rw [if_neg (by simp)]
 have hit:IsTupIter (s.heap.push {cls:=.type "tuple_iterator",data:=.fields #[.ref l,.int 0 0]}) s.heap.objs.size l 0:=⟨_,Heap.get?_push_size _ rfl,rfl,rfl⟩
 have hl1:=hl.push {cls:=.type "tuple_iterator",data:=.fields #[.ref l,.int 0 0]}
 have z0:s.heap.objs.size < (s.heap.push {cls:=.type "tuple_iterator",data:=.fields #[.ref l,.int 0 0]}).objs.size:=by obtain ⟨o,ho,_⟩:=hit;exact Heap.lt_size ho
 refine wpAny_bind (wpAny_holding (PySem.W.kun_collect (s:={s with heap:=s.heap.push {cls:=.type "tuple_iterator",data:=.fields #[.ref l,.int 0 0]}}) (T:="tuple_iterator") (.inr (.inr (.inr rfl))) (Walks.tuple (A:=A.in1) hh s.heap.objs.size l (Nat.ne_of_lt la) items) (fun j u st=>st.1.typeIs) (k:=0)
  (Nat.zero_le _) ⟨hit,hl1⟩ z0 (Nat.lt_trans la z0) (fun h2 tk hk=>?_) (by rw [sizeLine_eq];omega)))
 rw [List.drop_zero]
 have hrl:items.toList.length=items.size:=Array.length_toList
 show wpAny _ _ (if items.toList.length < 2 - 1 - 0 then _ else _) _ _ _
 rw [if_neg (by rw [hrl];omega)]
 show wpAny _ _ (newList (items.toList.take (items.toList.length - (2 - 1 - 0))) >>= fun d=>pure ([]++[d]++items.toList.drop (items.toList.length - (2 - 1 - 0)))) _ _ _
 rw [hrl]
 refine wpAny_bind (wpAny_newList (wpAny_pure (h h2 tk fun b o e=>hk b o (Nat.ne_of_lt (Heap.lt_size e)) (Heap.get?_push_of_some _ e))) ?_)
 rw [List.length_take,hrl,sizeLine_eq];omega
end
section
variable {X:Cx}{c:C}{e:Expr}{g:G R}{pos:Pos}
theorem sP {z:V}:∀{xs:List V}{us:List Value},Vals (xs++[z]) us→∃u us',us=us'++[u]∧Vals xs us'∧RelV z u
 | [],_,h=>by
  cases h with
  | cons q r=>cases r;exact ⟨_,[],rfl,.nil,q⟩
 | x::xs,_,h=>by
  cases h with
  | cons q r=>
   obtain ⟨u,us',rfl,h1,h2⟩:=sP r
   exact ⟨u,_::us',rfl,.cons q h1,h2⟩
def GB (K:PySem.W.Frag) (t:mK):TG:=fun v σ H Q=>∃a xs z,v=.ref a∧cX K H a (xs++[z])∧xs.length≤1000∧∀p,H p=none→t [.ref p,z] σ (upd H p (.lst xs)) Q
theorem E6 {es es':List Expr}{k:Nat}{t:mK}(hc:X.calm=true) (h:rH X es' t) (hn:(assignEach es X.env).length=2:=by rfl) (hst:(assignEach es X.env).findIdx? (·.1)=some 0:=by rfl)
  (hm:(assignEach es X.env).map (·.2)=(assignEach es' X.env).map (·.2):=by rfl):PG X (.Tuple es k pos) (GB X.K t):=by
 intro pins s σ H v u Q I r ⟨a,xs,z,e1,hq,hl,hw⟩
 subst e1
 cases r
 obtain ⟨its,rv,ht,hz⟩:=I.tuple hq
 obtain ⟨u,us,rfl,r1,r2⟩:=sP rv
 have lu:us.length=xs.length:=r1.length.symm
 rw [assign_Tuple]
 refine wpAny_bind ((wpAny_standAt ?_))
 unfold unpack
 rw [hn,hst]
 refine wpAny_bind (wpAny_holding (ID ht (I.ok.hd hc) (by simp) (by simp;omega) fun h' tk kp=>?_))
 have I1:Inv X pins σ H {s with heap:=h',toks:=tk}:=I.kept (t':=tk) kp
 have fr:H h'.objs.size=none:=I1.hok.fresh (Nat.le_refl _)
 have e1:(us++[u]).toArray.toList.drop ((us++[u]).toArray.size - 1)=[u]:=by simp
 have e2:(us++[u]).toArray.toList.take ((us++[u]).toArray.size - 1)=us:=by simp
 rw [e1,e2,hm]
 have I2:=I1.laid (a:=h'.objs.size) (o:=.lst xs) (h':=h'.push (seqObj "list" us.toArray 0)) (t':=tk) (fun _ _ q=>Heap.get?_push_of_some _ q) (Nat.le_refl _) (show cF X.prog X.w _ _ _ (.lst xs) from ⟨by rw [sizeLine_eq];omega,us,0,r1,by simpa [seqObj] using Heap.get?_push_size h' (o:=seqObj "list" us.toArray 0) rfl⟩)
 exact h pins _ σ _ _ _ Q I2 (.cons (show RelV (.ref h'.objs.size) (.ref h'.objs.size) from rfl) (.cons r2 .nil)) (hw _ fr)
def pV (t:jF) (g:G R):G O:=fun env=>g env >>= fun r=>toD r >>= fun d=>match d with
 | .tup xs=>match xs.getLast? with
  | some z=>if xs.length≤1000 then t [.lst xs.dropLast,z] env >>= fun e=>.ok (.nx e) else .bad
  | none=>.bad
 | _=>.bad
theorem sA {K:PySem.W.Frag}{J:Hp}:∀{ds:List D}{vs:List V}{z:D},ds.getLast?=some z→aG K J ds vs→∃xs v,vs=xs++[v]∧aG K J ds.dropLast xs∧Rep K J z v
 | [],_,_,h,_=>by simp at h
 | [d],_,_,h,.cons q .nil=>by
  simp at h
  subst h
  exact ⟨[],_,rfl,.nil,q⟩
 | d::d'::ds,_,z,h,.cons q rs=>by
  obtain ⟨xs,v,rfl,h1,h2⟩:=sA (ds:=d'::ds) (by simpa using h) rs
  exact ⟨_::xs,v,rfl,.cons q h1,h2⟩
theorem Cq {es es':List Expr}{k:Nat}{pos':Pos}{t:jF}(h:PD X c e g) (ht:qL X c es' t) (hcm:X.calm=true:=by rfl) (hK:X.K=c.K:=by rfl) (hn:(assignEach es X.env).length=2:=by rfl) (hst:(assignEach es X.env).findIdx? (·.1)=some 0:=by rfl)
  (hm:(assignEach es X.env).map (·.2)=(assignEach es' X.env).map (·.2):=by rfl) (hs:swapsWithSole [.Tuple es k pos'] e pos.line X.env=pure false:=by rfl) (hw:swappedStores [.Tuple es k pos'] e X.env=pure none:=by rfl)
  (h1:(assignEach [.Tuple es k pos'] X.env).map (·.2)=[assign (.Tuple es k pos') X.env]:=by rfl):gP X c (.Assign [.Tuple es k pos'] e pos) (pV t g):=g9 (vp h (E6 hcm ht hn hst hm) hs hw h1) fun E σ H ⟨J,env,sr,w⟩=>by
 refine ⟨J,env,sr,aB (aL w) fun r wr v J1 H1 e1 r1=>?_⟩
 obtain ⟨d,q,wr⟩:=jE wr
 obtain ⟨J1',e1',s1,rd⟩:=freeze e1 r1 q
 split at wr
 ·rename_i xs
  split at wr
  ·rename_i z hz
   split at wr
   ·rename_i hl
    cases rd with
    | tup h1 hs=>
     obtain ⟨vs,vz,rfl,k1,k2⟩:=sA hz hs
     have sr1:=sr.ext e1'
     have ln:vs.length≤1000:=by
      have:=hs.length
      rw [List.length_append] at this
      simp at this
      omega
     refine ⟨_,vs,vz,rfl,by rw [hK];exact eB sr1.hp.sub h1,ln,fun p hp=>?_⟩
     have e2:Ext J1' H1 (upd J1' p (.lst vs)) (upd H1 p (.lst vs)):=Ext.newJ sr1.hp.sub hp _
     refine ⟨_,env,_,sr1.ext e2,.cons (.lst (.inl (.inl bS)) (k1.mono e2.j)) (.cons (k2.mono e2.j) .nil),aB (aL wr) fun ev w2 σ' sr' _=>?_⟩
     exact w2 σ' _ _ (e1'.j.trans e2.j) sr'
   ·exact wr.elim
  ·exact wr.elim
 ·exact wr.elim
end
end DL
namespace DL
open PySem PySem.Spec PyProof.Rows L2
def qI (A:Around) (s:Shared) (y x:Value) (b:Bool):Prop:=
 ∀(prog:Program) (w:World) (E:Value→Shared→Prop) (Q:Value→Shared→Prop),Q (.bool b) s→wpAny (model prog w) A (richCompare .Lt y x) Q E s
inductive fY (A:Around) (s:Shared) (fin:Bool):List (Value×Value)→Bool→Prop
 | nil:fY A s fin [] fin
 | yes {x y:Value}{r:List (Value×Value)}{b:Bool}:SeqAt.EqAt A s x y true→fY A s fin r b→fY A s fin ((x,y)::r) b
 | no {x y:Value}{r:List (Value×Value)}{b:Bool}:SeqAt.EqAt A s x y false→qI A s x y b→fY A s fin ((x,y)::r) b
section
open PySem.SeqAt
open PySem.AutoSeq1 (wpAny_loadPart')
open PySem.MeetsSeq PySem.MeetsSeq2 PySem.MeetsSeq3
theorem Bb (l b:Addr) (items items2:Array Value) (n n2:Nat) (dd dd2:Option Addr) (sl sl2:Array (Option Value)) (ans:Bool):
  Meets (Builtin.«tuple.__lt__» ⟨[.ref l,.ref b],[]⟩)
   (fun A R s=>s.heap.get? l=some {cls:=.type "tuple",dict:=dd,data:=.seq items n,slots:=sl}∧s.heap.get? b=some {cls:=.type "tuple",dict:=dd2,data:=.seq items2 n2,slots:=sl2}∧
    fY A.in1 s (decide (items.size < items2.size)) (items.toList.zip items2.toList) ans∧R (.ok (.ret (.bool ans))) s):=
 .of_wp fun prog w A R s h=>by
  obtain ⟨hp,g,d,tk,os⟩:=s;obtain ⟨hl,hb,hP,h⟩:=h
  have f2:=AutoSeq1.sub_tuple_tuple
  wp_walk using wpAny_loadPart' hl,wpAny_loadPart' hb,wpAny_forIn_list _ (fun rest b s'=>b.1=none∧s'=⟨hp,g,d,tk,os⟩∧fY A.in1 ⟨hp,g,d,tk,os⟩ (decide (items.size < items2.size)) rest ans) _
  case turn=>
   rintro ⟨y,x⟩ rest b s' ⟨hb',rfl,hq⟩
   cases hq with
   | yes he hr=>
    refine wpAny_bind (he prog w _ _ ?_)
    wp_walk
    exact ⟨rfl,rfl,hr⟩
   | no he hlt=>
    refine wpAny_bind (he prog w _ _ ?_)
    have hri:=hlt prog w
    wp_walk using hri
    exact ⟨_,rfl,by simpa using h⟩
  case fin=>
   rintro ⟨b1,b2⟩ s' ⟨hb',rfl,hq⟩
   simp only at hb'
   subst hb'
   cases hq
   wp_walk
   exact ⟨_,rfl,by simpa [Builtin.Tuple.tupleCompareSizes] using h⟩
  case h=>
   exact ⟨rfl,rfl,hP⟩
end
section
variable {K:PySem.W.Frag}{J:Hp}{s:Shared}
theorem Ez {A:Around}{l b:Addr}{items items2:Array Value}{ans:Bool}(hl:s.heap.IsTuple l items) (hb:s.heap.IsTuple b items2) (hP:fY A.in1 s (decide (items.size < items2.size)) (items.toList.zip items2.toList) ans)
  (hu:A.units < cLine):qI A s (.ref l) (.ref b) ans:=fun prog w E Q h=>by
 obtain ⟨⟨cls,dd,data,sl⟩,ho,hc,n,hd⟩:=id hl
 obtain ⟨⟨cls2,dd2,data2,sl2⟩,ho2,hc2,n2,hd2⟩:=id hb
 simp only at hc hd hc2 hd2
 subst hc hd hc2 hd2
 exact richCompare_meets_room (op:=.Lt) ⟨_,ho,rfl⟩ ⟨_,ho2,rfl⟩ PySem.F.slot_tuple_lt PySem.F.entry_tuple_lt (PySem.F.args_tuple_lt_2 _ _) (Bb l b items items2 n n2 dd dd2 sl sl2 ans)
  ⟨ho,ho2,hP,show Value.bool ans≠Value.notImplemented∧Q (.bool ans) s from ⟨(fun x=>nomatch x),h⟩⟩ hu
end
section
variable {K:PySem.W.Frag}{J:Hp}{s:Shared}
mutual
def cV:D→D→Option Bool
 | .bl p,y=>match y with
  | .bl q=>some (!p && q)
  | _=>none
 | .int i,y=>match y with
  | .int j=>some (decide (i < j))
  | _=>none
 | .str x,y=>match y with
  | .str z=>some (decide (x.cps.toList < z.cps.toList))
  | _=>none
 | .tup xs,y=>match y with
  | .tup ys=>iN xs ys
  | _=>none
 | _,_=>none
def iN:List D→List D→Option Bool
 | [],ys=>some (!ys.isEmpty)
 | x::xs,ys=>match ys with
  | []=>some false
  | y::ys=>if bh x y=true then iN xs ys else cV x y
end
theorem Ey (A:Around){p:Bool}{e:D}{w:V}{u':Value}{b:Bool}(h:cV (.bl p) e=some b) (re:Rep K J e w) (rw':RelV w u'):qI A s (.bool p) u' b:=by
 unfold cV at h
 cases e with
 | bl q=>
  cases re
  cases rw'
  simp only [Option.some.injEq] at h
  subst h
  intro prog w E Q hq
  refine (lt_bool (p:=p) (q:=q) ?_:wpAny (model prog w) A (compareOp .Lt (.bool p) (.bool q)) Q E s)
  cases p <;> cases q <;> exact hq
 | _=>cases h
theorem B5 (A:Around){p:Int}{t:Tok}{e:D}{w:V}{u':Value}{b:Bool}(h:cV (.int p) e=some b) (re:Rep K J e w) (rw':RelV w u'):qI A s (.int p t) u' b:=by
 unfold cV at h
 cases e with
 | int q=>
  cases re
  obtain ⟨t',rfl⟩:=rw'
  simp only [Option.some.injEq] at h
  subst h
  intro prog w E Q hq
  exact (PyProof.Rows.lt_int hq:wpAny (model prog w) A (compareOp .Lt (.int p t) (.int q t')) Q E s)
 | _=>cases h
theorem B6 (A:Around){p:Str}{t:Tok}{e:D}{w:V}{u':Value}{b:Bool}(h:cV (.str p) e=some b) (re:Rep K J e w) (rw':RelV w u'):qI A s (.str p t) u' b:=by
 unfold cV at h
 cases e with
 | str q=>
  cases re
  obtain ⟨t',rfl⟩:=rw'
  simp only [Option.some.injEq] at h
  subst h
  intro prog w E Q hq
  exact (PyProof.Rows.lt_str hq:wpAny (model prog w) A (compareOp .Lt (.str p t) (.str q t')) Q E s)
 | _=>cases h
def Bs (K:PySem.W.Frag) (J:Hp) (s:Shared) (d:D):Prop:=∀{e:D}{v w:V}{u u':Value}{b:Bool}(A:Around),cV d e=some b→Rep K J d v→Rep K J e w→RelV v u→RelV w u'→A.units + dep d < cLine→dep d≤1000→dep e≤1000→qI A s u u' b
def pB (K:PySem.W.Frag) (J:Hp) (s:Shared) (ds:List D):Prop:=∀{es:List D}{vs ws:List V}{us us':List Value}{b:Bool}{n1 n2:Nat}(A:Around),iN ds es=some b→aG K J ds vs→aG K J es ws→Vals vs us→Vals ws us'→A.units + deps ds < cLine→deps ds≤1000→deps es≤1000→
  us.length + n2=us'.length + n1→fY A s (decide (n1 < n2)) (us.zip us') b
theorem B7 (F:HF K J s){ds:List D}(ih:pB K J s ds):Bs K J s (.tup ds):=by
 intro e v w u u' b A h rd re rv rw' hu k1 k2
 unfold cV at h
 cases e with
 | tup es=>
  simp only at h
  cases rd with
  | tup h1 hs=>
   cases re with
   | tup h2 hs'=>
    cases rv;cases rw'
    obtain ⟨its,r,p⟩:=F.t _ _ h1
    obtain ⟨its',r',p'⟩:=F.t _ _ h2
    refine Ez p p' ?_ (by unfold dep at hu;omega)
    have:=ih A.in1 (n1:=its.length) (n2:=its'.length) h hs hs' r r' (by rw [in1_units];unfold dep at hu;omega) (by unfold dep at k1;omega) (by unfold dep at k2;omega) (by omega)
    simpa using this
 | _=>cases h
theorem Ar:pB K J s []:=by
 intro es vs ws us us' b n1 n2 A h rd re rv rw' hu k1 k2 hl
 cases rd;cases rv
 cases re with
 | nil=>
  cases rw'
  simp only [iN,List.isEmpty_nil,Bool.not_true,Option.some.injEq] at h
  subst h
  have:decide (n1 < n2)=false:=decide_eq_false (by simp at hl;omega)
  rw [this]
  exact .nil
 | cons _ _=>
  cases rw'
  simp only [iN,List.isEmpty_cons,Bool.not_false,Option.some.injEq] at h
  subst h
  have:decide (n1 < n2)=true:=decide_eq_true (by simp at hl;omega)
  rw [this]
  exact .nil
theorem yO (F:HF K J s){x:D}{xs:List D}(ix:Bs K J s x) (ih:pB K J s xs):pB K J s (x::xs):=by
 intro es vs ws us us' b n1 n2 A h rd re rv rw' hu k1 k2 hl
 cases rd with
 | cons q1 r1=>
  cases rv with
  | cons t1 u1=>
   cases re with
   | nil=>
    cases rw'
    simp only [iN,Option.some.injEq] at h
    subst h
    have:decide (n1 < n2)=false:=decide_eq_false (by simp at hl;omega)
    rw [this]
    exact .nil
   | cons q2 r2=>
    cases rw' with
    | cons t2 u2=>
     unfold deps at hu k1 k2
     rename_i y v' ys ws' u0 us0
     have he:=mS F A q1 q2 t1 t2 (by omega) (by omega) (by omega)
     simp only [iN] at h
     cases z:bh x y with
     | true=>
      rw [z,if_pos rfl] at h
      rw [z] at he
      exact .yes he (ih A h r1 r2 u1 u2 (by omega) (by omega) (by omega) (by simp at hl;omega))
     | false=>
      rw [z,if_neg Bool.false_ne_true] at h
      rw [z] at he
      exact .no he (ix A h q1 q2 t1 t2 (by omega) (by omega) (by omega))
mutual
theorem KN (F:HF K J s):∀d:D,Bs K J s d
 | .bl p=>fun A h rd re rv rw' _ _ _=>by cases rd;cases rv;exact Ey A h re rw'
 | .int p=>fun A h rd re rv rw' _ _ _=>by cases rd;obtain ⟨t,rfl⟩:=rv;exact B5 A h re rw'
 | .str p=>fun A h rd re rv rw' _ _ _=>by cases rd;obtain ⟨t,rfl⟩:=rv;exact B6 A h re rw'
 | .tup ds=>B7 F (t7 F ds)
 | .non=>fun A h _ _ _ _ _ _ _=>by unfold cV at h;cases h
 | .lst _=>fun A h _ _ _ _ _ _ _=>by unfold cV at h;cases h
 | .emp=>fun A h _ _ _ _ _ _ _=>by unfold cV at h;cases h
 | .exn _ _ _=>fun A h _ _ _ _ _ _ _=>by unfold cV at h;cases h
theorem t7 (F:HF K J s):∀ds:List D,pB K J s ds
 | []=>Ar
 | x::xs=>yO F (KN F x) (t7 F xs)
end
end
end DL
namespace DL
open PySem PySem.Spec PyProof.Rows L2
open PySem.W (KasT kas_sort kas_asc kas_desc kas_rev kas_tail3 kas_descPart kas_count kas_place kas_bin)
def aT {α:Type}(q:Nat→Nat→Bool):KasT α→α
 | .ret a=>a
 | .ask i j k=>aT q (k (q i j))
inductive fh (n:Nat){α:Type}(P:α→Prop):KasT α→Prop
 | ret {a:α}:P a→fh n P (.ret a)
 | ask {i j:Nat}{k:Bool→KasT α}:i < n→j < n→(∀b,fh n P (k b))→fh n P (.ask i j k)
theorem fh.bind {n:Nat}{α β:Type}{P:α→Prop}{R:β→Prop}{f:α→KasT β}{t:KasT α}(h:fh n P t) (hf:∀a,P a→fh n R (f a)):fh n R (t.bind f):=by
 induction h with
 | ret p=>exact hf _ p
 | ask h1 h2 _ ih=>exact .ask h1 h2 ih
theorem fh.run {n:Nat}{α:Type}{P:α→Prop}{t:KasT α}(q:Nat→Nat→Bool) (h:fh n P t):P (aT q t):=by
 induction h with
 | ret p=>exact p
 | ask _ _ _ ih=>exact ih _
theorem fh.wp {n:Nat}{α:Type}{P:α→Prop}{t:KasT α}{q:Nat→Nat→Bool}{cmp:Nat→Nat→(Bool→Shared→Prop)→Shared→Prop}{s:Shared}{G:α→Shared→Prop}(h:fh n P t)
  (hc:∀i j C,i < n→j < n→C (q i j) s→cmp i j C s) (hG:G (aT q t) s):t.kasWp cmp G s:=by
 induction h with
 | ret p=>exact hG
 | ask h1 h2 _ ih=>exact hc _ _ _ h1 h2 (ih _ hG)
def dZ (n:Nat) (p:Array Nat):Prop:=p.Perm (List.range n).toArray
theorem dZ.lt {n:Nat}{p:Array Nat}(h:dZ n p) (hn:0 < n) (k:Nat):p.getD k 0 < n:=by
 by_cases hk:k < p.size
 ·have e:p.getD k 0=p[k]:=by simp [Array.getD,hk]
  rw [e]
  have hm:p[k]∈p:=Array.getElem_mem hk
  have:=(Array.Perm.mem_iff h).mp hm
  simpa using this
 ·have e:p.getD k 0=0:=by simp [Array.getD,hk]
  rw [e];exact hn
theorem dZ.rev {n:Nat}{p:Array Nat}(h:dZ n p) (i j:Nat):dZ n (kas_rev p i j):=(mirror_perm _ _ _ _).trans h
theorem dZ.bub {n:Nat}{p:Array Nat}(h:dZ n p) (i j:Nat):dZ n (bubble p i j):=(bubble_perm _ _ _).trans h
variable {n:Nat}
theorem yk {p:Array Nat}(hn:0 < n) (h:dZ n p):∀f m,fh n (fun _:Nat=>True) (kas_asc p f m)
 | 0,m=>.ret trivial
 | f + 1,m=>.ask (h.lt hn _) (h.lt hn _) fun b=>by cases b with
  | true=>exact .ret trivial
  | false=>exact yk hn h f (m + 1)
theorem pG (hn:0 < n):∀f {p:Array Nat} m q,dZ n p→fh n (fun r:Array Nat×Nat×Nat=>dZ n r.1) (kas_desc f p m q)
 | 0,p,m,q,h=>.ret h
 | f + 1,p,m,q,h=>.ask (h.lt hn _) (h.lt hn _) fun b=>by
  cases b with
  | true=>
   simp only [if_true]
   by_cases hq:q > 0
   ·rw [if_pos hq];exact pG hn f _ _ (h.rev _ _)
   ·rw [if_neg hq];exact pG hn f _ _ h
  | false=>
   simp only [Bool.false_eq_true,if_false]
   refine .ask (h.lt hn _) (h.lt hn _) fun b=>?_
   cases b with
   | true=>exact .ret h
   | false=>exact pG hn f _ _ h
theorem zI (hn:0 < n){p:Array Nat}(h:dZ n p) (m k:Nat):fh n (fun r:Nat×Array Nat=>dZ n r.2) (kas_tail3 m k p):=(yk hn (h.rev 0 m) _ _).bind fun a _=>.ret (h.rev _ _)
theorem w4 (hn:0 < n){p:Array Nat}(h:dZ n p) (m k:Nat):fh n (fun r:Nat×Array Nat=>dZ n r.2) (kas_descPart m k p):=(pG hn _ _ _ h).bind fun r hr=>by
 split
 ·exact zI hn (hr.rev _ _) _ _
 ·exact zI hn hr _ _
theorem DV (hn:0 < n){p:Array Nat}(h:dZ n p) (k:Nat):fh n (fun r:Nat×Array Nat=>dZ n r.2) (kas_count k p):=(yk hn h _ _).bind fun m _=>by
 split
 ·exact .ret h
 ·split
  ·refine .ask (h.lt hn _) (h.lt hn _) fun b=>?_
   cases b with
   | true=>exact .ret h
   | false=>exact w4 hn (h.rev _ _) _ _
  ·exact w4 hn h _ _
theorem qP (hn:0 < n){p:Array Nat}(h:dZ n p) (k:Nat):∀f l r,fh n (fun _:Nat=>True) (kas_place p k f l r)
 | 0,l,r=>.ret trivial
 | f + 1,l,r=>by
  unfold kas_place
  split
  ·exact .ret trivial
  ·refine .ask (h.lt hn _) (h.lt hn _) fun b=>?_
   cases b with
   | true=>exact qP hn h k f _ _
   | false=>exact qP hn h k f _ _
theorem Dl (hn:0 < n):∀f {p:Array Nat} k,dZ n p→fh n (dZ n) (kas_bin f p k)
 | 0,p,k,h=>.ret h
 | f + 1,p,k,h=>(qP hn h k _ _ _).bind fun l _=>Dl hn f _ (h.bub _ _)
theorem d7 (hn:0 < n):fh n (dZ n) (kas_sort n):=(DV hn (show dZ n _ from Array.Perm.refl _) n).bind fun r hr=>by
 split
 ·exact Dl hn _ _ hr
 ·exact .ret hr
end DL
namespace DL
open PySem PySem.Spec PyProof.Rows L2
open PySem.W (KasT kas_sort kas_ask kas_item kat_run kat_snds KatLex kat_cons kat_yes kat_no kat_lt kat_one KatTups kat_kind Looks)
section
variable {prog:Program}{w:World}{A:Around}{E:Value→Shared→Prop}{s:Shared}
def ir (q:Nat→Nat→Bool) (vs:List Value):List Value:=(aT q (kas_sort vs.length)).toList.map fun i=>vs.getD i Value.none
theorem Cj (q:Nat→Nat→Bool){vs:List Value}(h:0 < vs.length):(ir q vs).length=vs.length:=by
 unfold ir
 rw [List.length_map,Array.length_toList]
 have:=((d7 h).run q:dZ _ _).size_eq
 simpa using this
theorem qd {a:Addr}{vs:List Value}{n:Nat}{κ:SortKind}{q:Nat→Nat→Bool}{P:PySem.Fin→Shared→Prop}(ho:s.heap.get? a=some (seqObj "list" vs.toArray n)) (h2:2≤vs.length) (h64:vs.length < 64)
  (hk:∀h' C,(∀b o,b≠a→s.heap.get? b=some o→h'.get? b=some o)→C κ {s with heap:=h'}→wpAny (model prog w) A (keyKind' vs.toArray) C (fun _ _=>False) {s with heap:=h'})
  (hc:∀h',(∀b o,b≠a→s.heap.get? b=some o→h'.get? b=some o)→∀i j C,i < vs.length→j < vs.length→C (q i j) {s with heap:=h'}→kas_ask prog w A κ vs i j C {s with heap:=h'})
  (h:P (.done (.ret .none)) {s with heap:=sortedHeap s.heap a vs (ir q vs).toArray}):wpAny (model prog w) A (Builtin.«list.sort» ⟨[.ref a],[]⟩) P E s:=by
 have la:a < s.heap.objs.size:=Heap.lt_size ho
 have sl:vs.length≤sizeLine:=by rw [sizeLine_eq];omega
 obtain ⟨e1,g1⟩:∃e1,(s.heap.update a (Obj.mapSeq fun _=>(#[]:Array Value))).get? a=some (seqObj "list" #[] e1):=⟨_,(get?_update_seq ho fun _=>#[])⟩
 have z1:(s.heap.update a (Obj.mapSeq fun _=>(#[]:Array Value))).objs.size=s.heap.objs.size:=(Heap.size_update _ _ _)
 have g3:(((s.heap.update a (Obj.mapSeq fun _=>(#[]:Array Value))).push (seqObj "tuple" vs.toArray 0)).push (seqObj "list" #[] 0)).get? a=some (seqObj "list" #[] e1):=(Heap.get?_push_of_some _ ((Heap.get?_push_of_some _ g1)))
 have kp:∀b o,b≠a→s.heap.get? b=some o→(((s.heap.update a (Obj.mapSeq fun _=>(#[]:Array Value))).push (seqObj "tuple" vs.toArray 0)).push (seqObj "list" #[] 0)).get? b=some o:=fun b o nb q=>
  Heap.get?_push_of_some _ (Heap.get?_push_of_some _ (by rw [Heap.get?_update_ne _ _ _ _ nb];exact q))
 rw [list_sort_plain]
 refine wpAny_bind ((listItems_at ho rfl ?_))
 refine wpAny_bind (listUpdate_at ho rfl ?_ (by rw [List.size_toArray];exact sl) (Nat.zero_le _))
 refine wpAny_bind ((seqEpoch_at g1 rfl ?_))
 refine wpAny_bind (wpAny_newTuple ?_ (show vs.length≤_ from sl))
 refine wpAny_bind ((wpAny_newList ?_ (Nat.zero_le _)))
 refine (wpAny_holding ?_)
 dsimp only
 have n2:¬vs.toArray.size < 2:=by (rw [List.size_toArray]);omega
 rw [if_neg n2,if_neg n2]
 refine wpAny_bind (wpAny_mono (hk _ (fun k s'=>k=κ∧s'=_) kp ⟨rfl,rfl⟩) ?_ fun _ _ x=>x.elim)
 rintro _ _ ⟨rfl,rfl⟩
 refine wpAny_bind (wpAny_mono (kat_run (E:=E) (Q:=fun st' s'=>∃p:Array Nat,p.size=vs.length∧arrOf st'=p.map (kas_item (vs.toArray.zip vs.toArray))∧failedOf st'=none∧p=aT q (kas_sort vs.length)∧s'=_)
  rfl h2 h64 (fun p' st' s' a1 a2 a3 a4=>⟨p',a1,a2,a3,a4⟩) ((d7 (by omega)).wp (q:=q) (hc _ kp) ⟨rfl,rfl⟩)) ?_ fun _ _ e=>e)
 rintro ⟨⟨⟩,st'⟩ s' ⟨p,hp,har,hf,rfl,rfl⟩
 dsimp only
 have ou:(arrOf st').map (·.2)=(ir q vs).toArray:=kat_snds rfl har
 rw [ou]
 refine wpAny_bind ((seqEpoch_at g3 rfl ?_))
 refine wpAny_bind (listUpdate_at g3 rfl ?_ (Nat.zero_le _) (Nat.le_trans (Nat.le_of_eq (List.size_toArray.trans (Cj q (Nat.lt_of_lt_of_le Nat.zero_lt_two h2)))) (Nat.le_succ_of_le sl)))
 rw [hf]
 simp only [bne_self_eq_false,Bool.false_eq_true,if_false]
 exact wpAny_pure h
theorem xV {l:Addr}{vs:List Value}{κ:SortKind}{q:Nat→Nat→Bool}{Q:Value→Shared→Prop}(hl:s.heap.IsList l vs.toArray) (h2:2≤vs.length) (h64:vs.length < 64)
  (hk:∀h' C,(∀b o,s.heap.get? b=some o→h'.get? b=some o)→C κ {s with heap:=h'}→wpAny (model prog w) A.in1.in1 (keyKind' vs.toArray) C (fun _ _=>False) {s with heap:=h'})
  (hc:∀h',(∀b o,s.heap.get? b=some o→h'.get? b=some o)→∀i j C,i < vs.length→j < vs.length→C (q i j) {s with heap:=h'}→kas_ask prog w A.in1.in1 κ vs i j C {s with heap:=h'})
  (h:Q (.ref (s.heap.objs.size + 1)) {s with heap:=sortedAll s.heap vs (ir q vs).toArray}):wpAny (model prog w) A (call (.builtin "sorted") [.ref l]) Q E s:=by
 have sl:vs.length≤sizeLine:=by rw [sizeLine_eq];omega
 refine (Calls.call_function_entry kind_sorted plain_sorted entry_sorted (args_sorted1 _) ?_)
 unfold Builtin.«sorted»
 refine wpAny_bind (m:=checkCount "sorted" 1 1 _) ((wpAny_pure ?_))
 refine wpAny_bind (collect_list hl ?_ sl)
 refine wpAny_bind (wpAny_newList ?_ sl)
 have z:((s.heap.push (seqObj "list" #[] 0)).update s.heap.objs.size (Obj.mapSeq (·++vs.toArray))).objs.size=s.heap.objs.size + 1:=(by rw [Heap.size_update,size_push'])
 have gL:(((s.heap.push (seqObj "list" #[] 0)).update s.heap.objs.size (Obj.mapSeq (·++vs.toArray))).push (seqObj "list" vs.toArray 0)).get? (s.heap.objs.size + 1)=some (seqObj "list" vs.toArray 0):=(by rw [←z];exact Heap.get?_push_size _ rfl)
 have kp:∀b o,s.heap.get? b=some o→b≠s.heap.objs.size + 1∧(((s.heap.push (seqObj "list" #[] 0)).update s.heap.objs.size (Obj.mapSeq (·++vs.toArray))).push (seqObj "list" vs.toArray 0)).get? b=some o:=fun b o e=>by
  have lb:b < s.heap.objs.size:=Heap.lt_size e
  refine ⟨Nat.ne_of_lt (Nat.lt_succ_of_lt lb),?_⟩
  rw [Heap.get?_push_ne _ _ _ (z▸Nat.ne_of_lt (Nat.lt_succ_of_lt lb)),Heap.get?_update_ne _ _ _ _ (Nat.ne_of_lt lb),Heap.get?_push_ne _ _ _ ((Nat.ne_of_lt lb))]
  exact e
 dsimp only
 rw [z]
 refine wpAny_bind (wpAny_holding (wpAny_call_entry slot_list_sort ⟨_,gL,rfl⟩ entry_list_sort (qd (κ:=κ) (q:=q) gL h2 h64 (fun h' C k c=>?_) (fun h' k i j C hi hj c=>?_) ⟨_,rfl,?_⟩) (args_list_sort _)))
 ·exact hk h' C (fun b o e=>k b o (kp b o e).1 (kp b o e).2) c
 ·exact hc h' (fun b o e=>k b o (kp b o e).1 (kp b o e).2) i j C hi hj c
 ·exact wpAny_pure ⟨_,rfl,h⟩
end
end DL
namespace DL
open PySem PySem.Spec PyProof.Rows L2
open PySem.W (KasT kas_sort kas_ask KatLex kat_nil kat_cons kat_yes kat_no kat_lt kat_one KatTups kat_kind Looks)
section
variable {prog:Program}{w:World}{A:Around}{E:Value→Shared→Prop}{s:Shared}{K:PySem.W.Frag}{J:Hp}
theorem rV {fin ans:Bool}{Q:Bool→Shared→Prop}{zs:List (Value×Value)}{b:Bool}(h:fY A s fin zs ans) (hq:Q ans s):∀{i:Nat},(b && i == 0)=false→KatLex prog w A b fin Q zs i s:=by
 induction h with
 | nil=>intro i _;exact kat_nil hq
 | yes he _ ih=>intro i _;exact kat_cons (he prog w _ _ (kat_yes (ih hq (by cases b <;> rfl))))
 | no he hl=>
  intro i hb
  refine kat_cons (he prog w _ _ (kat_no ?_))
  rw [hb]
  exact kat_one _ _ (hl prog w _ _ hq)
theorem Es {fin ans e:Bool}{Q:Bool→Shared→Prop}{u u':Value}{zs:List (Value×Value)}(he:SeqAt.EqAt A s u u' e) (h1:e=true→fY A s fin zs ans)
  (h2:e=false→wpAny (model prog w) A (oneLt' true u u') Q (fun _ _=>False) s) (hq:Q ans s):KatLex prog w A true fin Q ((u,u')::zs) 0 s:=by
 cases e with
 | true=>exact kat_cons (he prog w _ _ (kat_yes (rV (h1 rfl) hq rfl)))
 | false=>exact kat_cons (he prog w _ _ (kat_no (h2 rfl)))
inductive Hd where
 | t | i | x
def eG:D→Option Hd
 | .tup (.tup _::_)=>some .t
 | .tup (.int _::_)=>some .i
 | .tup (.str _::_)=>some .x
 | _=>none
def Hd.flag:Hd→Bool
 | .t=>false
 | _=>true
def Hd.ty:Hd→Value
 | .t=>.type "tuple"
 | .i=>.type "int"
 | .x=>.type "str"
theorem Cf {x y:D}{v v':V}{u u':Value}{k:Hd}{b:Bool}{C:Bool→Shared→Prop}{xs ys:List D}(hd:eG (.tup (x::xs))=some k) (he:eG (.tup (y::ys))=some k) (hf:k.flag=true) (h:cV x y=some b) (rd:Rep K J x v) (re:Rep K J y v') (rv:RelV v u) (rv':RelV v' u') (c:C b s):
  wpAny (model prog w) A (oneLt' true u u') C E s:=by
 cases x with
 | int x=>
  cases hd
  cases y with
  | int y=>
   cases rd;cases re
   obtain ⟨tk,rfl⟩:=rv
   obtain ⟨tk',rfl⟩:=rv'
   unfold cV at h
   simp only [Option.some.injEq] at h
   refine oneLt_int ?_
   rw [h];exact c
  | _=>cases he
 | str x=>
  cases hd
  cases y with
  | str y=>
   cases rd;cases re
   obtain ⟨tk,rfl⟩:=rv
   obtain ⟨tk',rfl⟩:=rv'
   unfold cV at h
   simp only [Option.some.injEq] at h
   refine oneLt_str ?_
   rw [h];exact c
  | _=>cases he
 | tup _=>cases hd;cases hf
 | _=>cases hd
theorem xC (F:HF K J s){d e:D}{v v':V}{u u':Value}{k:Hd}{b:Bool}{C:Bool→Shared→Prop}(hd:eG d=some k) (he:eG e=some k) (h:cV d e=some b) (rd:Rep K J d v) (re:Rep K J e v') (rv:RelV v u) (rv':RelV v' u')
  (hu:A.units + dep d < cLine) (k1:dep d≤1000) (k2:dep e≤1000) (c:C b s):wpAny (model prog w) A (keyLt' (tuples' k.flag) u u') C E s:=by
 cases d with
 | tup ds=>
  cases e with
  | tup es=>
   unfold cV at h
   simp only at h
   cases rd with
   | tup h1 hs=>
    cases re with
    | tup h2 hs'=>
     cases rv;cases rv'
     obtain ⟨its,r,p⟩:=F.t _ _ h1
     obtain ⟨its',r',p'⟩:=F.t _ _ h2
     obtain ⟨o,ho,hc,m,dm⟩:=id p
     obtain ⟨o',ho',hc',m',dm'⟩:=id p'
     refine kat_lt ho dm ho' dm' ?_
     simp only [List.size_toArray]
     cases hf:k.flag with
     | false=>
      exact rV (t7 F ds A (n1:=its.length) (n2:=its'.length) h hs hs' r r' (by unfold dep at hu;omega) (by unfold dep at k1;omega) (by unfold dep at k2;omega) (by omega)) c rfl
     | true=>
      cases hs with
      | nil=>cases hd
      | cons q1 t1=>
       cases hs' with
       | nil=>cases he
       | cons q2 t2=>
        cases r with
        | cons a1 b1=>
         cases r' with
         | cons a2 b2=>
          unfold dep deps at hu k1 k2
          rw [List.zip_cons_cons]
          unfold iN at h
          simp only at h
          refine Es (ans:=b) (mS F A q1 q2 a1 a2 (by omega) (by omega) (by omega)) (fun z=>?_) (fun z=>?_) c
          ·rw [z,if_pos rfl] at h
           exact t7 F _ A h t1 t2 b1 b2 (by omega) (by omega) (by omega) (by simp;omega)
          ·rw [z,if_neg Bool.false_ne_true] at h
           exact Cf hd he hf h q1 q2 a1 a2 c
  | _=>cases he
 | _=>cases hd
def eO (k:Hd):List D→Bool
 | []=>true
 | d::r=>(match eG d,k with
  | some .t,.t=>true
  | some .i,.i=>true
  | some .x,.x=>true
  | _,_=>false) && eO k r
theorem jb {k:Hd}:∀{ds:List D},eO k ds=true→∀d∈ds,eG d=some k
 | [],_,_,hm=>nomatch hm
 | x::r,h,d,hm=>by
  unfold eO at h
  rw [Bool.and_eq_true] at h
  rcases List.mem_cons.mp hm with rfl | hm
  ·cases q:eG d with
   | none=>rw [q] at h;cases h.1
   | some k'=>rw [q] at h;cases k' <;> cases k <;> first | rfl | cases h.1
  ·exact jb h.2 d hm
theorem Af (F:HF K J s){d:D}{v:V}{u:Value}{k:Hd}(hd:eG d=some k) (rd:Rep K J d v) (rv:RelV v u):∃a o xs n f,u=.ref a∧s.heap.get? a=some o∧o.cls=.type "tuple"∧o.data=.seq xs n∧xs[0]?=some f∧Looks (model prog w) s.heap (typeOf f) k.ty:=by
 cases d with
 | tup ds=>
  cases rd with
  | tup h1 hs=>
   cases rv
   obtain ⟨its,r,p⟩:=F.t _ _ h1
   obtain ⟨o,ho,hc,m,dm⟩:=id p
   cases hs with
   | nil=>cases hd
   | cons q1 t1=>
    cases r with
    | cons a1 b1=>
     refine ⟨_,o,_,m,_,rfl,ho,hc,dm,rfl,?_⟩
     rename_i x v' ds' vs' u us
     cases x with
     | tup _=>
      cases hd
      cases q1 with
      | tup h2 _=>
       cases a1
       obtain ⟨its2,_,p2⟩:=F.t _ _ h2
       obtain ⟨o2,ho2,hc2,_,_⟩:=id p2
       have:=(Looks.ld (M:=model prog w) (part:=none) ho2).andThen (f:=fun o=>pure o.cls) (b:=o2.cls) .now
       rw [hc2] at this
       exact this
     | int _=>
      cases hd
      cases q1
      obtain ⟨tk,rfl⟩:=a1
      exact .now
     | str _=>
      cases hd
      cases q1
      obtain ⟨tk,rfl⟩:=a1
      exact .now
     | _=>cases hd
 | _=>cases hd
theorem p9 (F:HF K J s){k:Hd}:∀{ds:List D}{vs:List V}{us:List Value},eO k ds=true→aG K J ds vs→Vals vs us→∃fs,KatTups s.heap us fs∧fs.length=us.length∧∀v∈fs,Looks (model prog w) s.heap (typeOf v) k.ty
 | _,_,_,_,.nil,.nil=>⟨[],trivial,rfl,fun _ h=>nomatch h⟩
 | d::ds,_,_,h,.cons q rs,.cons a b=>by
  have hd:=jb h d (List.mem_cons_self ..)
  unfold eO at h
  rw [Bool.and_eq_true] at h
  obtain ⟨fs,h1,h2,h3⟩:=p9 F h.2 rs b
  obtain ⟨p,o,xs,n,f,rfl,e1,e2,e3,e4,e5⟩:=Af (prog:=prog) (w:=w) F hd q a
  refine ⟨f::fs,⟨⟨p,o,xs,n,rfl,e1,e2,e3,e4⟩,h1⟩,by simp [h2],fun v hv=>?_⟩
  rcases List.mem_cons.mp hv with rfl | hv
  ·exact e5
  ·exact h3 v hv
theorem Ec (k:Hd):(k.ty != Value.type "tuple")=k.flag:=by cases k <;> decide
theorem rW (F:HF K J s){k:Hd}{ds:List D}{vs:List V}{us:List Value}(h:eO k ds=true) (rs:aG K J ds vs) (rv:Vals vs us) (hl:0 < us.length){C:SortKind→Shared→Prop}(c:C (tuples' k.flag) s):wpAny (model prog w) A (keyKind' us.toArray) C E s:=by
 obtain ⟨fs,h1,h2,h3⟩:=p9 (prog:=prog) (w:=w) F h rs rv
 refine kat_kind h1 (by omega) h3 (by cases k <;> decide) ?_
 rw [Ec]
 exact c
end
end DL
namespace DL
open PySem PySem.Spec PyProof.Rows L2
open PySem.W (KasT kas_sort kas_ask)
section
variable {prog:Program}{w:World}{A:Around}{E:Value→Shared→Prop}{s:Shared}
theorem qc {a:Addr}{vs:List Value}{n:Nat}{P:PySem.Fin→Shared→Prop}(ho:s.heap.get? a=some (seqObj "list" vs.toArray n)) (h2:vs.length < 2)
  (h:P (.done (.ret .none)) {s with heap:=sortedHeap s.heap a vs vs.toArray}):wpAny (model prog w) A (Builtin.«list.sort» ⟨[.ref a],[]⟩) P E s:=by
 have sl:vs.length≤sizeLine:=by rw [sizeLine_eq];omega
 obtain ⟨e1,g1⟩:∃e1,(s.heap.update a (Obj.mapSeq fun _=>(#[]:Array Value))).get? a=some (seqObj "list" #[] e1):=⟨_,(get?_update_seq ho fun _=>#[])⟩
 have g3:(((s.heap.update a (Obj.mapSeq fun _=>(#[]:Array Value))).push (seqObj "tuple" vs.toArray 0)).push (seqObj "list" #[] 0)).get? a=some (seqObj "list" #[] e1):=(Heap.get?_push_of_some _ ((Heap.get?_push_of_some _ g1)))
 rw [list_sort_plain]
 refine wpAny_bind ((listItems_at ho rfl ?_))
 refine wpAny_bind (listUpdate_at ho rfl ?_ (by rw [List.size_toArray];exact sl) (Nat.zero_le _))
 refine wpAny_bind ((seqEpoch_at g1 rfl ?_))
 refine wpAny_bind (wpAny_newTuple ?_ (show vs.length≤_ from sl))
 refine wpAny_bind ((wpAny_newList ?_ (Nat.zero_le _)))
 refine (wpAny_holding ?_)
 dsimp only
 have n2:vs.toArray.size < 2:=by (rw [List.size_toArray]);omega
 rw [if_pos n2,if_pos n2]
 refine (wpAny_bind (wpAny_pure ?_))
 rw [StateT.run_pure]
 refine (wpAny_bind (wpAny_pure ?_))
 dsimp only
 have ou:(arrOf (SortSt.mk' general' (vs.toArray.zip vs.toArray) #[] 7 none)).map (·.2)=vs.toArray:=by
  show (vs.toArray.zip vs.toArray).map (·.2)=vs.toArray
  match vs,h2 with
  | [],_=>simp
  | [_],_=>simp
 rw [ou]
 refine wpAny_bind ((seqEpoch_at g3 rfl ?_))
 refine wpAny_bind (listUpdate_at g3 rfl ?_ (Nat.zero_le _) (by rw [List.size_toArray];omega))
 simp only [bne_self_eq_false,Bool.false_eq_true,if_false]
 exact wpAny_pure h
theorem xU {l:Addr}{vs:List Value}{Q:Value→Shared→Prop}(hl:s.heap.IsList l vs.toArray) (h2:vs.length < 2)
  (h:Q (.ref (s.heap.objs.size + 1)) {s with heap:=sortedAll s.heap vs vs.toArray}):wpAny (model prog w) A (call (.builtin "sorted") [.ref l]) Q E s:=by
 have sl:vs.length≤sizeLine:=by rw [sizeLine_eq];omega
 refine (Calls.call_function_entry kind_sorted plain_sorted entry_sorted (args_sorted1 _) ?_)
 unfold Builtin.«sorted»
 refine wpAny_bind (m:=checkCount "sorted" 1 1 _) ((wpAny_pure ?_))
 refine wpAny_bind (collect_list hl ?_ sl)
 refine wpAny_bind (wpAny_newList ?_ sl)
 have z:((s.heap.push (seqObj "list" #[] 0)).update s.heap.objs.size (Obj.mapSeq (·++vs.toArray))).objs.size=s.heap.objs.size + 1:=(by rw [Heap.size_update,size_push'])
 have gL:(((s.heap.push (seqObj "list" #[] 0)).update s.heap.objs.size (Obj.mapSeq (·++vs.toArray))).push (seqObj "list" vs.toArray 0)).get? (s.heap.objs.size + 1)=some (seqObj "list" vs.toArray 0):=(by rw [←z];exact Heap.get?_push_size _ rfl)
 dsimp only
 rw [z]
 refine wpAny_bind (wpAny_holding (wpAny_call_entry slot_list_sort ⟨_,gL,rfl⟩ entry_list_sort (qc gL h2 ⟨_,rfl,?_⟩) (args_list_sort _)))
 exact wpAny_pure ⟨_,rfl,h⟩
end
def cH (ds:List D) (i:Nat):D:=ds.getD i .non
def ltB (ds:List D) (i j:Nat):Bool:=(cV (cH ds i) (cH ds j)).getD false
def aQ (ds:List D):List D:=if ds.length < 2 then ds else (aT (ltB ds) (kas_sort ds.length)).toList.map (cH ds)
def jd (ds:List D):Bool:=ds.all fun x=>ds.all fun y=>(cV x y).isSome
def vf (ds:List D):Bool:=match ds with
 | []=>false
 | d::_=>match eG d with
  | some k=>eO k ds
  | none=>false
def j8 (ds:List D):Bool:=decide (ds.length < 2) || (decide (ds.length < 64) && (decide (deps ds≤60) && (vf ds && jd ds)))
section
variable {K:PySem.W.Frag}{J:Hp}
theorem ef {ds:List D}{vs:List V}(h:aG K J ds vs):∀{i:Nat},i < ds.length→Rep K J (cH ds i) (vs.getD i V.non):=by
 induction ds generalizing vs with
 | nil=>intro i hi;exact absurd hi (Nat.not_lt_zero _)
 | cons x r ih=>
  intro i hi
  cases h with
  | cons q rs=>
   cases i with
   | zero=>simpa [cH] using q
   | succ i=>simpa [cH] using ih rs (i:=i) (by simpa using hi)
theorem eu {vs:List V}{us:List Value}(h:Vals vs us):∀{i:Nat},i < vs.length→RelV (vs.getD i V.non) (us.getD i Value.none):=by
 induction vs generalizing us with
 | nil=>intro i hi;exact absurd hi (Nat.not_lt_zero _)
 | cons x r ih=>
  intro i hi
  cases h with
  | cons q rs=>
   cases i with
   | zero=>simpa using q
   | succ i=>simpa using ih rs (i:=i) (by simpa using hi)
theorem kR {ds:List D}{vs:List V}(h:aG K J ds vs):∀ix:List Nat,(∀i∈ix,i < ds.length)→aG K J (ix.map (cH ds)) (ix.map fun i=>vs.getD i V.non)
 | [],_=>.nil
 | i::r,hi=>.cons (ef h (hi i (List.mem_cons_self ..))) (kR h r fun j hj=>hi j (List.mem_cons_of_mem _ hj))
theorem kY {vs:List V}{us:List Value}(h:Vals vs us):∀ix:List Nat,(∀i∈ix,i < vs.length)→Vals (ix.map fun i=>vs.getD i V.non) (ix.map fun i=>us.getD i Value.none)
 | [],_=>.nil
 | i::r,hi=>.cons (eu h (hi i (List.mem_cons_self ..))) (kY h r fun j hj=>hi j (List.mem_cons_of_mem _ hj))
theorem xj {ds:List D}:∀{i:Nat},i < ds.length→dep (cH ds i)≤deps ds:=by
 induction ds with
 | nil=>intro i hi;exact absurd hi (Nat.not_lt_zero _)
 | cons x r ih=>
  intro i hi
  unfold deps
  cases i with
  | zero=>show dep x≤_;omega
  | succ i=>
   have:=ih (i:=i) (by simpa using hi)
   have e:cH (x::r) (i + 1)=cH r i:=rfl
   rw [e];omega
theorem dW {ds:List D}{i:Nat}(hi:i < ds.length):cH ds i∈ds:=by
 have e:cH ds i=ds[i]:=by simp [cH,hi]
 rw [e];exact List.getElem_mem hi
theorem HF.keeps {s:Shared}{h':Heap}(F:HF K J s) (k:∀b o,s.heap.get? b=some o→h'.get? b=some o):HF K J {s with heap:=h'}:=
 ⟨fun a xs h=>let ⟨its,r,o,ho,q⟩:=F.t a xs h;⟨its,r,o,k _ _ ho,q⟩,fun a xs h=>let ⟨its,r,o,ho,q⟩:=F.l a xs h;⟨its,r,o,k _ _ ho,q⟩,fun a h=>let ⟨o,ho,q⟩:=F.e a h;⟨o,k _ _ ho,q⟩⟩
end
section
variable {X:Cx}{c:C}{e:Expr}{es:List Expr}{pos:Pos}
theorem mP (hu:X.A.units + 64 < cLine):bP X (.builtin "sorted") (fun xs H Q=>∃p vs ds,xs=[.ref p]∧cG X.K H p vs∧aG X.K H ds vs∧j8 ds=true∧∀l vs',H l=none→(∀J,aG X.K J ds vs→aG X.K J (aQ ds) vs')→Q (.ref l) (upd H l (.lst vs'))):=by
 intro pins s σ H xs us Q I r h
 obtain ⟨p,vs,ds,rfl,hq,rs,ok,q⟩:=h
 obtain ⟨u,rfl,rx⟩:=vals1 r
 cases rx
 obtain ⟨its,r',pl,hz⟩:=I.list hq
 have l1:vs.length=its.length:=r'.length
 have l2:ds.length=vs.length:=rs.length
 have fr:H (s.heap.objs.size + 1)=none:=I.hok.fresh (Nat.le_succ _)
 have fin:∀(out:List Value) (vs':List V),vs'.length=vs.length→Vals vs' out→(∀J,aG X.K J ds vs→aG X.K J (aQ ds) vs')→∃v H',Inv X pins σ H' {s with heap:=sortedAll s.heap its out.toArray}∧RelV v (.ref (s.heap.objs.size + 1))∧Q v H':=fun out vs' lv rv rr=>by
  obtain ⟨n,hn⟩:=sortedAll_at s.heap its out.toArray
  exact ⟨.ref (s.heap.objs.size + 1),_,I.laid (t':=s.toks) (fun b o e=>sortedAll_old e) (Nat.le_succ _) (show cF X.prog X.w _ _ _ (.lst vs') from ⟨by rw [lv];exact hz,out,n,rv,by simpa [seqObj] using hn⟩),rfl,q _ vs' fr rr⟩
 by_cases h2:ds.length < 2
 ·refine xU pl.isList (by omega) (fin its vs rfl r' ?_)
  intro J rj
  unfold aQ
  rw [if_pos h2]
  exact rj
 ·unfold j8 at ok
  rw [decide_eq_false h2,Bool.false_or,Bool.and_eq_true,Bool.and_eq_true,Bool.and_eq_true] at ok
  obtain ⟨o1,o2,o3,o4⟩:=ok
  have o1:=of_decide_eq_true o1
  have o2:=of_decide_eq_true o2
  obtain ⟨k,hk⟩:∃k,eO k ds=true:=by
   unfold vf at o3
   cases ds with
   | nil=>cases o3
   | cons d r=>
    simp only at o3
    cases z:eG d with
    | none=>rw [z] at o3;cases o3
    | some k=>rw [z] at o3;exact ⟨k,o3⟩
  have F:HF X.K H s:=kK I
  have un:X.A.in1.in1.units=X.A.units + 2:=rfl
  have ib:∀i∈(aT (ltB ds) (kas_sort ds.length)).toList,i < ds.length:=fun i hi=>by
   have:=((d7 (n:=ds.length) (by omega)).run (ltB ds):dZ _ _)
   have:=(Array.Perm.mem_iff this).mp (Array.mem_toList_iff.mp hi)
   simpa using this
  refine xV (κ:=tuples' k.flag) (q:=ltB ds) pl.isList (by omega) (by omega) (fun h' C kp cc=>?_) (fun h' kp i j C hi hj cc=>?_) ?_
  ·exact rW (F.keeps kp) hk rs r' (by omega) cc
  ·have hi':i < ds.length:=by omega
   have hj':j < ds.length:=by omega
   have hb:cV (cH ds i) (cH ds j)=some (ltB ds i j):=by
    unfold jd at o4
    have:=List.all_eq_true.mp (List.all_eq_true.mp o4 _ (dW hi')) _ (dW hj')
    unfold ltB
    cases z:cV (cH ds i) (cH ds j) with
    | none=>rw [z] at this;cases this
    | some b=>rfl
   have d1:=xj hi'
   have d2:=xj hj'
   exact xC (F.keeps kp) (jb hk _ (dW hi')) (jb hk _ (dW hj')) hb (ef rs hi') (ef rs hj') (eu r' (by omega)) (eu r' (by omega)) (by rw [un];omega) (by omega) (by omega) cc
  ·have e1:ir (ltB ds) its=(aT (ltB ds) (kas_sort ds.length)).toList.map fun i=>its.getD i Value.none:=by unfold ir;rw [l2,l1]
   rw [e1]
   refine fin _ _ ?_ (kY r' _ fun i hi=>l2▸ib i hi) ?_
   ·rw [List.length_map,←l2]
    have:=((d7 (n:=ds.length) (by omega)).run (ltB ds):dZ _ _).size_eq
    simpa using this
   ·intro J rj
    unfold aQ
    rw [if_neg h2]
    exact kR rj _ ib
def kH:List R→M R
 | [r]=>jW r >>= fun xs=>if j8 xs=true then .ok (.l .fresh (aQ xs)) else .bad
 | _=>.bad
theorem Cy {p:Pos}{gs:G (List R)}(hu:X.A.units + 64 < cLine) (ha:iy X c (e::es) gs) (hm:X.mg "sorted"=none) (hK:X.K=c.K:=by rfl) (hg:Gl X "sorted":=by rfl)
  (he:starEach (e::es) X.env=(false,eval e X.env)::starEach es X.env:=by rfl) (hpl:(backTo pos (starEach es X.env)).any (·.1)=false:=by rfl):PD X c (.Call (.Name "sorted" p) (e::es) [] pos) (gN kH gs):=
 lJ (mP hu) (by
  intro He J H xs vs Q hp rs w
  unfold kH at w
  split at w
  ·obtain ⟨v,rfl,r⟩:=rs.one
   obtain ⟨xs,q,w⟩:=om w
   obtain ⟨p,vs,rfl,h1,h2⟩:=RR.list hp r q
   split at w
   ·rename_i ok
    rw [hK]
    exact ⟨p,vs,xs,rfl,h1,h2.mono hp.sub,ok,fun l vs' hl rr=>w _ _ _ (Ext.new hp.sub hl _) (gW hp hl (rr _ h2))⟩
   ·exact w.elim
  ·exact w.elim) iK hm ha hg (by decide) (by decide) he hpl
end
end DL
namespace DL
open PySem PySem.Spec PyProof.Rows L2
section
variable {X:Cx}{c:C}{e:Expr}{g:G R}{pos:Pos}
def kj (i:Nat) (f:R→R→M R) (g:G R):G O:=fun env=>match env[i]? with
 | some (some (.d d))=>g env >>= fun y=>f (.d d) y >>= fun z=>toS z >>= fun x=>.ok (.nx (env.set i (some x)))
 | _=>.bad
theorem xM (i:Nat){x:Str}{pos':Pos}{op:Operator}{r:R2}{f:R→R→M R}(hN:X.N.Nodup) (ho:dg X (inplaceOp op) r) (hb:BD c r f) (h:PD X c e g) (hi:X.N[i]?=some x:=by rfl) (hx:Loc X.env.scope x:=by first | exact Or.inl rfl | exact Or.inr rfl)
  (hf:X.fn x=true∨X.env.scope.names.lookup x=some .local:=by first | exact .inl rfl | exact .inr rfl):gP X c (.AugAssign (.Name x pos') op e pos) (kj i f g):=
 g9 (HV hN hi hx h (fun pins s σ H x y v u Q I rx ry q=>Kw ho I rx ry q) hf) fun E σ H ⟨J,env,sr,w⟩=>by
 unfold kj at w
 split at w
 ·rename_i d hd
  obtain ⟨v,h1,h2⟩:=sr.at_ i _ hd
  refine ⟨v,h1,J,env,sr,aB (aL w) fun y wr v' J1 H1 e1 r1=>?_⟩
  have sr1:=sr.ext e1
  refine hb H H J1 H1 (.d d) y v v' _ sr1.hp (Rep.mono e1.j h2) r1 (aB (aL wr) fun z wz w' J2 H2 e2 r2=>?_)
  obtain ⟨x,q,wz⟩:=rD wz
  exact wz (σ.set i (some w')) J2 H2 (e1.j.trans e2.j) (sr1.set e2 r2 q)
 ·exact w.elim
theorem Co (i:Nat){x:Str}{pos':Pos}(hN:X.N.Nodup) (h:PD X c e g) (hi:X.N[i]?=some x:=by rfl) (hx:Loc X.env.scope x:=by first | exact Or.inl rfl | exact Or.inr rfl) (hf:X.fn x=true∨X.env.scope.names.lookup x=some .local:=by first | exact .inl rfl | exact .inr rfl):
  gP X c (.AugAssign (.Name x pos') .Mult e pos) (kj i oV g):=xM i hN Em (uH (fun i j h=>xB h) fun _ _ _=>.int _) h hi hx hf
theorem Cn (i:Nat){x:Str}{pos':Pos}(hN:X.N.Nodup) (h:PD X c e g) (hi:X.N[i]?=some x:=by rfl) (hx:Loc X.env.scope x:=by first | exact Or.inl rfl | exact Or.inr rfl) (hf:X.fn x=true∨X.env.scope.names.lookup x=some .local:=by first | exact .inl rfl | exact .inr rfl):
  gP X c (.AugAssign (.Name x pos') .Add e pos) (kj i qW g):=xM i hN El (gY fun _ _ _=>.int _) h hi hx hf
end
section
variable {X:Cx}{c:C}{e:Expr}{es:List Expr}{pos:Pos}
def yy:List R→M R
 | [.d (.int i)]=>.ok (.d (.int i))
 | [.d (.bl k)]=>.ok (.d (.int (if k then 1 else 0)))
 | _=>.bad
theorem zL:bootBuiltins "int"=some (.type "int"):=by decide +kernel
theorem CB {p:Pos}{gs:G (List R)}(ha:iy X c (e::es) gs) (hm:X.mg "int"=none) (hg:Gl X "int":=by rfl)
  (he:starEach (e::es) X.env=(false,eval e X.env)::starEach es X.env:=by rfl) (hpl:(backTo pos (starEach es X.env)).any (·.1)=false:=by rfl):PD X c (.Call (.Name "int" p) (e::es) [] pos) (gN yy gs):=
 r6 zO (by
  intro He J H xs vs Q hp rs w
  unfold yy at w
  split at w
  ·obtain ⟨v,rfl,r⟩:=rs.one
   cases r
   exact .inl ⟨_,rfl,w _ J H (Ext.refl hp.sub) (.int _)⟩
  ·obtain ⟨v,rfl,r⟩:=rs.one
   cases r
   exact .inr ⟨_,rfl,w _ J H (Ext.refl hp.sub) (.int _)⟩
  ·exact w.elim) zL hm ha hg (by decide) (by decide) he hpl
end
end DL
namespace DL
open PySem PySem.Spec PyProof.Rows L2 DX
section
variable {M:Model}{A:Around}{E:Value→Shared→Prop}{s:Shared}
theorem yQ {scope:Scope}{globals:Addr}{closure:List (Str×Addr)}{qual:Str}{func:Option Addr}{code:Value}{outer:Env}{builtins:Addr}{Q:Env→Shared→Prop}
  (hQ:Q (newEnv scope s.heap.objs.size globals (cellsFrom (s.heap.objs.size + 1) scope.names closure) qual func code (some outer) builtins) {s with heap:=pushCells (s.heap.push {cls:=.type "dict",data:=.dict #[]}) scope.names}):
  wpAny M A (newFunctionEnv scope globals closure [] qual func code (some outer) builtins) Q E s:=by
 simp only [newFunctionEnv,Option.isSome_some,if_true]
 refine wpAny_bind (wpAny_alloc ?_)
 refine wpAny_bind (wpAny_layCells _ (fun name kind cells=>by cases hkc:kind == NameKind.cell <;> simp [hkc]) _ _ _ _ ?_)
 rw [show ({s with heap:=s.heap.push {cls:=.type "dict",data:=.dict #[]}}:Shared).heap.objs.size=s.heap.objs.size + 1 from Heap.size_push ..]
 simp only [List.forIn_nil]
 exact wpAny_bind (wpAny_pure (wpAny_pure hQ))
theorem iV:∀(names:List (Str×NameKind)) (n:Nat) (acc:List (Str×Addr)) (x:Str),(∀y∈names,y.2=.cell→y.1≠x)→(cellsFrom n names acc).lookup x=acc.lookup x
 | [],_,_,_,_=>by unfold cellsFrom;rfl
 | (y,k)::r,n,acc,x,h=>by
  have hr:∀z∈r,z.2=.cell→z.1≠x:=fun z hz=>h z (List.mem_cons_of_mem _ hz)
  unfold cellsFrom
  split
  ·rename_i hk
   rw [iV r _ _ x hr]
   have hy:y≠x:=h (y,k) (List.mem_cons_self ..) (by simpa using hk)
   have:(x == y)=false:=by
    cases q:x == y with
    | false=>rfl
    | true=>exact absurd (eq_of_beq q).symm hy
   rw [List.lookup_cons,this]
  ·exact iV r _ _ x hr
end
theorem tu:∀(names:List (Str×NameKind)) (n:Nat) (acc:List (Str×Addr)),cellsFrom n names acc=cellsFrom n names []++acc:=by
 intro names
 suffices ∀(n:Nat) (a b:List (Str×Addr)),cellsFrom n names (a++b)=cellsFrom n names a++b by
  intro n acc
  exact this n [] acc
 induction names with
 | nil=>intro n a b;unfold cellsFrom;rfl
 | cons p r ih=>
  obtain ⟨y,k⟩:=p
  intro n a b
  unfold cellsFrom
  split
  ·exact ih _ (_::a) b
  ·exact ih _ a b
def cP (names:List (Str×NameKind)) (x:Str):Bool:=names.any fun y=>y.1 == x && y.2 == .cell
theorem fU:∀(names:List (Str×NameKind)) (n:Nat) (acc:List (Str×Addr)) (x:Str),((acc.lookup x).isSome=true∨cP names x=true)→((cellsFrom n names acc).lookup x).isSome=true
 | [],_,_,_,h=>by
  unfold cellsFrom
  rcases h with h | h
  ·exact h
  ·cases h
 | (y,k)::r,n,acc,x,h=>by
  unfold cellsFrom
  have e:cP ((y,k)::r) x=((y == x && k == .cell) || cP r x):=rfl
  rw [e] at h
  split
  ·rename_i hk
   refine fU r _ _ x ?_
   by_cases hx:x=y
   ·left;subst hx;rw [List.lookup_cons];simp
   ·rcases h with h | h
    ·left
     rw [List.lookup_cons]
     cases q:x == y with
     | true=>exact absurd (eq_of_beq q) hx
     | false=>exact h
    ·rw [Bool.or_eq_true,Bool.and_eq_true] at h
     rcases h with h | h
     ·exact absurd (eq_of_beq h.1).symm hx
     ·exact .inr h
  ·rename_i hk
   refine fU r _ _ x ?_
   rcases h with h | h
   ·exact .inl h
   ·rw [Bool.or_eq_true,Bool.and_eq_true] at h
    rcases h with h | h
    ·exact absurd h.2 hk
    ·exact .inr h
theorem fO {names:List (Str×NameKind)}{n:Nat}{cl:List (Str×Addr)}{x:Str}{d:Addr}(h:(cellsFrom n names cl).lookup x=some d):
  (cellsFrom n names []).lookup x=some d∨(cP names x=false∧cl.lookup x=some d):=by
 rw [tu,List.lookup_append] at h
 cases q:(cellsFrom n names []).lookup x with
 | some e=>rw [q] at h;left;simpa using h
 | none=>
  rw [q] at h
  right
  refine ⟨?_,by simpa using h⟩
  cases z:cP names x with
  | false=>rfl
  | true=>
   have:=fU names n [] x (.inr z)
   rw [q] at this
   cases this
theorem mF {scope:Scope}{env:Env}{x:Str}(h:(relabel scope env).names.lookup x=some .cell∨(relabel scope env).names.lookup x=some .free):(x,NameKind.free)∈scope.names∨cP scope.names x=true:=by
 unfold relabel at h
 revert h
 generalize scope.names=names
 induction names with
 | nil=>intro h;simp at h
 | cons p r ih=>
  obtain ⟨n,k⟩:=p
  intro h
  rw [List.map_cons] at h
  simp only at h
  by_cases hx:x=n
  ·subst hx
   cases k with
   | free=>exact .inl (List.mem_cons_self ..)
   | cell=>right;unfold cP;simp
   | _=>simp [List.lookup_cons] at h
  ·have e:(x == n)=false:=by simpa using hx
   have h':(r.map fun (n,k)=>if (k == NameKind.free && env.scope.kind == .function && env.kindOf n == some .cell) then (n,NameKind.cell) else (n,k)).lookup x=some .cell∨(r.map fun (n,k)=>if (k == NameKind.free && env.scope.kind == .function && env.kindOf n == some .cell) then (n,NameKind.cell) else (n,k)).lookup x=some .free:=by
    split at h <;> simpa [List.lookup_cons,e] using h
   rcases ih h' with z | z
   ·exact .inl (List.mem_cons_of_mem _ z)
   ·right
    unfold cP at z ⊢
    rw [List.any_cons,z,Bool.or_true]
section
variable {X:Cx}
def dH (X:Cx) (own:List Str) (cap:List Nat) (scope:Scope) (cl:List (Str×Addr)) (C:Addr) (s:Shared) (H:Hp) (fp:List Addr):Cx:=
 {Gr X own cap scope (cellsFrom (C + 1) scope.names cl) C s H fp with fn:=cP scope.names}
theorem D4 {pins:List (Addr×Obj)}{σ:L2.St}{H:Hp}{s:Shared}{own:List Str}{cap:List Nat}{scope:Scope}{cl:List (Str×Addr)}{fp:List Addr}{h1:Heap}(I:Inv X pins σ H s) (hk:scope.kind=.function)
  (hcl:cR X.env.cells scope.names []=some cl) (ck:CellsOk h1 (s.heap.objs.size + 1) (cellsFrom (s.heap.objs.size + 1) scope.names [])) (hfp:∀b∈fp,iT X pins H b) (hin:∀b∈fp,b < s.heap.objs.size):(dH X own cap scope cl s.heap.objs.size s H fp).Ok:=by
 obtain ⟨m1,m2⟩:=gu scope.names [] cl hcl (fun x c h=>by simp at h)
 have lo:∀{x:Str}{d:Addr},(cellsFrom (s.heap.objs.size + 1) scope.names []).lookup x=some d→s.heap.objs.size + 1≤d:=fun {x d} h=>(ck.empty _ _ (mem_of_lookup h)).2
 have old:∀{x:Str}{d:Addr},cl.lookup x=some d→d < s.heap.objs.size:=fun {x d} h=>by
  obtain ⟨v,z⟩:=I.cell x d (m1 x d h)
  exact z.lt
 refine ⟨I.ok.mod,hk,I.ok.glob,I.ok.blt,Nat.le_refl _,fun x y d h1 h2=>?_,fun x hx=>?_,fun x d hf h=>?_,fun hc=>I.ok.hd hc,I.ok.frames,.inl rfl,fun b hb=>⟨Nat.ne_of_lt (hin b hb),fun x d h=>?_⟩,
  I.bs,Nat.le_trans I.ok.bsz I.sz,fun b o h hb=>?_,fun b hb hf=>?_,I.stack,I.stkFree⟩
 ·rcases fO h1 with h1 | ⟨_,h1⟩
  ·rcases fO h2 with h2 | ⟨_,h2⟩
   ·exact name_of_addr ck.apart (mem_of_lookup h1) (mem_of_lookup h2)
   ·exact absurd (Nat.lt_of_lt_of_le (old h2) (Nat.le_of_succ_le (lo h1))) (Nat.lt_irrefl _)
  ·rcases fO h2 with h2 | ⟨_,h2⟩
   ·exact absurd (Nat.lt_of_lt_of_le (old h1) (Nat.le_of_succ_le (lo h2))) (Nat.lt_irrefl _)
   ·exact I.ok.inj x y d (m1 x d h1) (m1 y d h2)
 ·refine Option.isSome_iff_exists.mp (fU _ _ _ x ?_)
  rcases mF hx with z | z
  ·exact .inl (m2 x (.inr z))
  ·exact .inr z
 ·rcases fO h with h | ⟨z,h⟩
  ·exact Nat.le_of_succ_le (lo h)
  ·have hf':cP scope.names x=true:=hf
   rw [z] at hf'
   cases hf'
 ·rcases fO h with h | ⟨_,h⟩
  ·exact Nat.ne_of_gt (Nat.lt_of_lt_of_le (hin b hb) (Nat.le_of_succ_le (lo h)))
  ·exact (hfp b hb).2.2.2.2.1 x d (m1 x d h)
 ·rcases (hfp b hb).2.2.2.1 with z | z
  ·exact I.ok.noex b o h z
  ·exact absurd (Nat.lt_of_lt_of_le (Heap.lt_size (I.ok.bs b o h).1) z) (Nat.lt_irrefl _)
 ·rcases List.mem_cons.mp (I.stkSub b hf) with e | e
  ·exact (hfp b hb).2.1 e
  ·exact (hfp b hb).2.2.1 e
end
theorem u9 {names:List (Str×NameKind)}{n:Nat}{cl:List (Str×Addr)}{x:Str}(h:cP names x=false):(cellsFrom n names cl).lookup x=cl.lookup x:=
 iV names n cl x fun y hy hk e=>by
  unfold cP at h
  have:=List.any_eq_false.mp h y hy
  simp [hk,e] at this
section
variable {X:Cx}
theorem BH {pins:List (Addr×Obj)}{σ:L2.St}{H:Hp}{s:Shared}{own:List Str}{cap:List Nat}{scope:Scope}{cl:List (Str×Addr)}{fp:List Addr}{h1:Heap}{m:Str→Option Value}{tk:Nat}(I:Inv X pins σ H s) (ok:(dH X own cap scope cl s.heap.objs.size s H fp).Ok)
  (hcl:cR X.env.cells scope.names []=some cl) (ck:CellsOk h1 (s.heap.objs.size + 1) (cellsFrom (s.heap.objs.size + 1) scope.names [])) (hcap:jo X cap=true) (hlocal:∀j∈cap,∀x,X.N[j]?=some x→(relabel scope X.env).names.lookup x≠some .local)
  (hno:∀j∈cap,∀x,X.N[j]?=some x→cP scope.names x=false) (hns:h1.Ns s.heap.objs.size m) (old:∀b o,s.heap.get? b=some o→h1.get? b=some o):
  Inv (dH X own cap scope cl s.heap.objs.size s H fp) [] (List.replicate own.length none++cap.map fun (j:Nat)=>(σ[j]?).getD none) H {s with heap:=h1,toks:=tk}:=by
 obtain ⟨m1,m2⟩:=gu scope.names [] cl hcl (fun x c h=>by simp at h)
 refine ⟨ok,rfl,I.bare,Un.kept old,⟨m,hns,fun i x v q1 q2 q3=>?_⟩,fun x d h=>?_,I.hok.fresh (Nat.le_refl _),fun x d h=>?_,fun p hp=>absurd (show p∈([]:List (Addr×Obj)) from hp) (by simp),I.hok.kept old,?_⟩
 ·obtain ⟨j,h2,h3,h4⟩:=jn q2
  have q1':(own++cap.map fun (j:Nat)=>(X.N[j]?).getD ("":Str))[i]?=some x:=q1
  rw [List.getElem?_append_right (by exact h2),List.getElem?_map,h3] at q1'
  have hj:j∈cap:=List.mem_of_getElem? h3
  have hc:(match X.N[j]? with
   | some x=>(match X.env.scope.names.lookup x with
    | some .cell=>true
    | some .free=>true
    | _=>false)
   | none=>false)=true:=by
   unfold jo at hcap
   exact List.all_eq_true.mp hcap j hj
  cases hx:X.N[j]? with
  | none=>rw [hx] at hc;cases hc
  | some y=>
   rw [Option.map_some,hx] at q1'
   rw [hx] at hc
   have e:y=x:=by simpa using q1'
   subst e
   have kd:X.env.kindOf y=some .cell∨X.env.kindOf y=some .free:=by
    unfold Env.kindOf
    simp only at hc
    split at hc
    ·rename_i z;exact .inl z
    ·rename_i z;exact .inr z
    ·cases hc
   obtain ⟨mX,nX,lX⟩:=I.loc
   obtain ⟨u,ru,lu⟩:=lX j y v hx h4 (kd.elim (fun z=>.inr (.inl z)) fun z=>.inr (.inr z))
   refine ⟨u,ru,.inr ?_⟩
   have kd':(relabel scope X.env).names.lookup y=some .cell∨(relabel scope X.env).names.lookup y=some .free:=by
    rcases q3 with z | z | z
    ·exact absurd z (hlocal j hj y hx)
    ·exact .inl z
    ·exact .inr z
   refine ⟨kd',?_⟩
   have no:=hno j hj y hx
   have fr:(y,NameKind.free)∈scope.names:=by
    rcases mF kd' with z | z
    ·exact z
    ·rw [no] at z;cases z
   obtain ⟨d,hd⟩:=Option.isSome_iff_exists.mp (m2 y (.inr fr))
   refine ⟨d,(u9 no).trans hd,?_⟩
   rcases lu with ⟨z,_⟩ | ⟨_,d',hd',z⟩
   ·rcases kd with k | k <;> (rw [k] at z;cases z)
   ·have:=m1 y d hd
    rw [hd'] at this
    cases this
    obtain ⟨o,ho,hod⟩:=z
    exact ⟨o,old _ _ ho,hod⟩
 ·rcases fO h with h | ⟨_,h⟩
  ·exact ⟨none,(ck.empty _ _ (mem_of_lookup h)).1⟩
  ·obtain ⟨v,o,ho,hod⟩:=I.cell x d (m1 x d h)
   exact ⟨v,o,old _ _ ho,hod⟩
 ·rcases fO h with h | ⟨_,h⟩
  ·exact I.hok.fresh (Nat.le_of_succ_le (ck.empty _ _ (mem_of_lookup h)).2)
  ·exact I.freeC x d (m1 x d h)
 ·show _=(own++cap.map fun (j:Nat)=>(X.N[j]?).getD ("":Str)).length
  simp
end
theorem GZ (h:Heap) (names:List (Str×NameKind)):(pushCells (h.push {cls:=.type "dict",data:=.dict #[]}) names).Ns h.objs.size (fun _=>none):=
 (Heap.Ns.new h (.type "dict")).keeps fun b o e=>pushCells_keeps _ _ _ _ e
theorem zS (h:Heap) (names:List (Str×NameKind)):CellsOk (pushCells (h.push {cls:=.type "dict",data:=.dict #[]}) names) (h.objs.size + 1) (cellsFrom (h.objs.size + 1) names []):=by
 have:=cellsFrom_ok names (h.push {cls:=.type "dict",data:=.dict #[]}) (h.objs.size + 1) [] ⟨fun _ _ hm=>(nomatch hm),List.Pairwise.nil⟩ (by rw [Heap.size_push];exact Nat.le_refl _)
 rw [Heap.size_push] at this
 exact this
def pK (X:Cx) (cap:List Nat) (scope:Scope):Bool:=cap.all fun j=>match X.N[j]? with
 | some x=>!cP scope.names x
 | none=>true
section
variable {X:Cx}{c:C}
theorem pL (own:List Str) (cap:List Nat){elt target iter:Expr}{ifs:List Expr}{scope:Scope}{pos:Pos}{gi:G (List D)}{gt:GT}{gts:G Bool}{ge:G R}(hi:uw X c target iter gi)
  (hbody:∀(cl:List (Str×Addr)) (C:Addr) (s:Shared) (H:Hp) (fp:List Addr),cR X.env.cells scope.names []=some cl→oB (dH X own cap scope cl C s H fp) c target gt∧qK (dH X own cap scope cl C s H fp) c ifs gts∧PD (dH X own cap scope cl C s H fp) c elt ge)
  (hk:scope.kind=.function:=by rfl) (hno:pK X cap scope=true:=by rfl) (hnames:(scope.names.all fun x=>!(x.2 == .local) || (scope.names.lookup x.1 == some .local))=true:=by rfl)
  (hcl:(cR X.env.cells scope.names []).isSome=true:=by rfl) (hcap:jo X cap=true:=by rfl) (hloc:mQ X cap scope=true:=by rfl) (hnd:nA cap=true:=by rfl) (hcalm:X.calm=true:=by rfl)
  (hs:∀x,foldedSetIterable iter X.env x=pure x:=by intro _;rfl)
  {pins:List (Addr×Obj)}{s:Shared}{σ:L2.St}{H:Hp}{Q:VK}{use:Option (Value→Sem Unit)}{Q0:Value→Shared→Prop}{pos':Pos}(I:Inv X pins σ H s) (h:tD c (bH own.length cap gi gt gts ge) σ H Q)
  (hfin:∀(acc C:Addr) (m:Str→Option Value) (s':Shared) (H':Hp) (fl:Flow),s'.heap.Ns C m→((C∈X.ex∨X.s₀.heap.objs.size≤C)∧C≠X.env.locals∧(∀x c,X.env.cells.lookup x=some c→c≠C)∧∀p∈X.pn++pins,p.1≠C)→H' C=none→(∀h'',Heap.SameBut C s'.heap h''→Inv X pins σ H' {s' with heap:=h''})→Q (.ref acc) H'→compPost (model X.prog X.w) X.A X.xe use Q0 (.ref acc) C (.ok fl) s'):
  wpAny (model X.prog X.w) X.A (comprehension (.ListComp elt [⟨target,iter,ifs,0⟩] scope pos) scope X.env pos' (newList []) false (eval iter X.env) use) Q0 X.xe s:=by
 obtain ⟨J,env,sr,w⟩:=h
 obtain ⟨cl,hcl⟩:=Option.isSome_iff_exists.mp hcl
 have hno':∀j∈cap,∀x,X.N[j]?=some x→cP scope.names x=false:=fun j hj x hx=>by
  have:=List.all_eq_true.mp hno j hj
  rw [hx] at this
  simpa using this
 have hnames':∀x∈scope.names,x.2=.local→scope.names.lookup x.1=some .local:=fun y hy z=>by
  have:=List.all_eq_true.mp hnames y hy
  rw [z] at this
  simpa using this
 have hloc':∀j∈cap,∀x,X.N[j]?=some x→(relabel scope X.env).names.lookup x≠some .local:=fun j hj x hx z=>by
  have:=List.all_eq_true.mp hloc j hj
  rw [hx] at this
  simp only at this
  rw [z] at this
  cases this
 refine wpAny_comprehension_free (use:=use) rfl hs (tw hcl) hk hnames' ?_
 refine bI (hi pins s σ H (fun It H1=>∃ds J1,Ext J H J1 H1∧Walk c It ds J1 (fun J' H'=>a_ J1 J'∧a_ H1 H')∧
  cA (if ds.length≤sizeLine then cI gt gts ge ds (cE own.length cap env) >>= fun ys=>.ok (R.l .fresh ys) else .bad) (fun r=>∀v J' H',Ext J H J' H'→RR c H J' H' r v→Q v H') c.T) I ⟨J,env,sr,aB (aL w) fun ds wd It J1 H1 e1 wk=>⟨ds,J1,e1,wk,wd⟩⟩) fun xv s1 h1=>bI h1 fun itv s2 h2=>?_
 obtain ⟨it,fp,tn,It,H2,rfl,I2,T,st2,f2,ds,J2,e2,wk,w2⟩:=h2
 have hsz:ds.length≤sizeLine:=by
  by_cases z:ds.length≤sizeLine
  ·exact z
  ·rw [if_neg z] at w2;exact w2.elim
 rw [if_pos hsz] at w2
 have w3:=aL w2
 refine wpAny_newObj_type (yQ ?_)
 dsimp only
 generalize hHs:s2.heap.push {cls:=.type "list",dict:=none,data:=.seq ([]:List Value).toArray}=Hs
 have hC:Hs.objs.size=s2.heap.objs.size + 1:=by rw [←hHs,Heap.size_push]
 have hp2:H2 s2.heap.objs.size=none:=I2.hok.fresh (Nat.le_refl _)
 have kHs:∀b o,s2.heap.get? b=some o→Hs.get? b=some o:=fun b o e=>by rw [←hHs];exact Heap.get?_push_of_some _ e
 have I3:Inv X pins σ (L2.upd H2 s2.heap.objs.size (.lst [])) {s2 with heap:=Hs,toks:=s2.toks}:=I2.laid (t':=s2.toks) kHs (Nat.le_refl _) ⟨Nat.zero_le _,[],0,.nil,by rw [←hHs];exact Heap.get?_push_size _ rfl⟩
 have f3:∀b∈fp,iT X pins (L2.upd H2 s2.heap.objs.size (.lst [])) b:=fun b hb=>by
  obtain ⟨o,ho,_⟩:=T.obj _ _ st2 b hb
  exact ⟨by rw [br (Nat.ne_of_lt (Heap.lt_size ho))];exact (f2 b hb).1,(f2 b hb).2⟩
 have hin:∀b∈fp,b < Hs.objs.size:=fun b hb=>by
  obtain ⟨o,ho,_⟩:=T.obj _ _ st2 b hb
  exact Nat.lt_trans (Heap.lt_size ho) (by rw [hC];exact Nat.lt_succ_self _)
 obtain ⟨h₁,eh₁⟩:∃h₁,h₁=pushCells (Hs.push {cls:=.type "dict",data:=.dict #[]}) scope.names:=⟨_,rfl⟩
 rw [←eh₁]
 have hns₁:h₁.Ns Hs.objs.size (fun _=>none):=by rw [eh₁];exact GZ Hs scope.names
 have ck:CellsOk h₁ (Hs.objs.size + 1) (cellsFrom (Hs.objs.size + 1) scope.names []):=by rw [eh₁];exact zS Hs scope.names
 have okC:=D4 (own:=own) (cap:=cap) I3 hk hcl ck f3 hin
 have old1:∀b o,Hs.get? b=some o→h₁.get? b=some o:=fun b o e=>by rw [eh₁];exact pushCells_keeps _ _ _ _ (Heap.get?_push_of_some _ e)
 have I4:=BH (tk:=s2.toks) I3 okC hcl ck hcap hloc' hno' hns₁ old1
 have sr2:=sr.ext e2
 have srA:SR c J2 (L2.upd H2 s2.heap.objs.size (.lst [])) σ env:=sr2.ext (Ext.new e2.sub hp2 _)
 have J2p:J2 s2.heap.objs.size=none:=e2.sub.free hp2
 have H0p:c.H0 s2.heap.objs.size=none:=sr2.hp.ent.free hp2
 have nown:∀(j:Nat) (xs:List D),(cE own.length cap env)[j]?=some (some (.own xs))→(List.replicate own.length none++cap.map fun (j:Nat)=>(σ[j]?).getD none)[j]?≠some (some (.ref s2.heap.objs.size)):=fun j xs q z=>by
  obtain ⟨a,h1,h2,h3⟩:=jn q
  obtain ⟨a',h4,h5,h6⟩:=jn z
  rw [h2] at h5;cases h5
  obtain ⟨v,k1,p,vs,rfl,k2,_⟩:=sr2.at_ a _ h3
  rw [h6] at k1
  cases k1
  rw [hp2] at k2
  cases k2
 obtain ⟨hT,hIf,hE⟩:=hbody cl Hs.objs.size {s2 with heap:=Hs,toks:=s2.toks} (L2.upd H2 s2.heap.objs.size (.lst [])) fp hcl
 have fpC:∀{H':Hp},(∀b∈fp,H' b=none)→∀b∈fp,iT (dH X own cap scope cl Hs.objs.size {s2 with heap:=Hs,toks:=s2.toks} (L2.upd H2 s2.heap.objs.size (.lst [])) fp) [] H' b:=fun {H'} hn b hb=>by
  obtain ⟨m1,_⟩:=gu scope.names [] cl hcl (fun x c h=>by simp at h)
  refine ⟨hn b hb,Nat.ne_of_lt (hin b hb),fun z=>?_,.inl hb,fun x d h=>(fO h).elim (fun h=>Nat.ne_of_gt (Nat.lt_of_lt_of_le (hin b hb) (Nat.le_of_succ_le (ck.empty _ _ (mem_of_lookup h)).2))) (fun h=>(f2 b hb).2.2.2.2.1 x d (m1 x d h.2)),fun p hp=>absurd (show p∈([]:List (Addr×Obj)) from hp) (by simp)⟩
  rcases List.mem_cons.mp (I2.stkSub b z) with e | e
  ·exact (f2 b hb).2.1 e
  ·exact (f2 b hb).2.2.1 e
 have back:∀{pi:List (Addr×Obj)}{σ':L2.St}{H':Hp}{s':Shared}{h'':Heap},Inv (dH X own cap scope cl Hs.objs.size {s2 with heap:=Hs,toks:=s2.toks} (L2.upd H2 s2.heap.objs.size (.lst [])) fp) pi σ' H' s'→Heap.SameBut Hs.objs.size s'.heap h''→Inv X pins σ H' {s' with heap:=h''}:=fun {pi σ' H' s' h''} I' sb=>by
  have B:Un (frs X.stack) fp (L2.upd H2 s2.heap.objs.size (.lst [])) H' Hs s'.heap:=I'.base
  have ne2:∀{b:Addr}{o:Obj},s2.heap.get? b=some o→b≠s2.heap.objs.size∧b≠Hs.objs.size:=fun {b o} e=>
   ⟨Nat.ne_of_lt (Heap.lt_size e),Nat.ne_of_lt (Nat.lt_trans (Heap.lt_size e) (by rw [hC];exact Nat.lt_succ_self _))⟩
  have nH:∀{b:Addr}{o:HO},H2 b=some o→L2.upd H2 s2.heap.objs.size (.lst []) b=some o:=fun {b o} e=>by rw [br (dB e hp2)];exact e
  refine Inv.call' (ch:=fp) (s':={s' with heap:=h''}) I2 I'.os ⟨fun b o e n hf hx=>?_,fun b o e n hf hx=>?_,fun b o e n hx=>?_,fun b o e hx=>?_,fun b xs e=>B.tups b xs (nH e),fun b o u e=>B.frzs b o u (nH e),fun b ps e=>B.tbls b ps (nH e)⟩ (wJ I'.hok I'.free sb) I'.bare fun b hb=>⟨(f2 b hb).2.2.2.1,(f2 b hb).2.1,(f2 b hb).2.2.2.2.1,(f2 b hb).2.2.2.2.2⟩
  ·exact (sb.2 b (ne2 e).2).trans (B.keep b o (kHs b o e) (by rw [br (ne2 e).1];exact n) hf hx)
  ·obtain ⟨sl,z⟩:=B.slot b o (kHs b o e) (by rw [br (ne2 e).1];exact n) hf hx
   exact ⟨sl,(sb.2 b (ne2 e).2).trans z⟩
  ·exact B.free b o (kHs b o e) (by rw [br (ne2 e).1];exact n) hx
  ·obtain ⟨o',z⟩:=B.there b o (kHs b o e) hx
   exact ⟨o',(sb.2 b (ne2 e).2).trans z⟩
 have loop:∀s4:Shared,s4={s2 with heap:=h₁,toks:=s2.toks}→
   codeAny (model X.prog X.w) X.A (.compLoop (.ListComp elt [⟨target,iter,ifs,0⟩] scope pos) 0 (.ref it) (.ref s2.heap.objs.size) (compEnvC scope (cellsFrom (Hs.objs.size + 1) scope.names cl) Hs.objs.size X.env))
    (compPost (model X.prog X.w) X.A X.xe use Q0 (.ref s2.heap.objs.size) Hs.objs.size) s4:=by
  rintro s4 rfl
  refine uS (fun n s'=>∃(i:Nat) (σ':L2.St) (H' J':Hp) (env':Ev) (us:List V) (ys0:List D),n=ds.length - i∧i≤ds.length∧Inv (dH X own cap scope cl Hs.objs.size {s2 with heap:=Hs,toks:=s2.toks} (L2.upd H2 s2.heap.objs.size (.lst [])) fp) [] σ' H' s'∧tn i s'.heap∧(∀b∈fp,H' b=none)∧
   Ext J2 H2 J' H'∧SR c J' H' σ' env'∧(∀(j:Nat) (xs:List D),env'[j]?=some (some (.own xs))→σ'[j]?≠some (some (.ref s2.heap.objs.size)))∧H' s2.heap.objs.size=some (.lst us)∧J' s2.heap.objs.size=none∧aG c.K J' ys0 us∧us.length≤i∧
   cA (cI gt gts ge (ds.drop i) env') (fun ys=>∀v J' H',Ext J H J' H'→RR c H J' H' (.l .fresh (ys0++ys)) v→Q v H') c.T) ?_ ds.length
   ⟨0,_,_,J2,_,[],[],rfl,Nat.zero_le _,I4,T.keep _ _ _ st2 (fun b hb o e=>old1 b o (kHs b o e)),fun b hb=>(f3 b hb).1,Ext.new e2.sub hp2 _,srA.cap own.length cap (xG hnd),nown,bS,J2p,.nil,Nat.le_refl _,by rw [List.drop_zero];exact w3⟩
  rintro n s' ⟨i,σ',H',J',env',us,ys0,rfl,hi',I',st',fr',e',sr',no',hp',Jp',rs',hl',w'⟩
  obtain ⟨wk1,wk2⟩:=wk i J' H' sr'.hp ⟨e'.j,e'.h⟩
  by_cases hlt:i < ds.length
  ·obtain ⟨g1,y1⟩:=wk2 ds[i] (by simp [hlt])
   rw [List.drop_eq_getElem_cons hlt] at w'
   refine wpAny_mono (T.item (dH X own cap scope cl Hs.objs.size {s2 with heap:=Hs,toks:=s2.toks} (L2.upd H2 s2.heap.objs.size (.lst [])) fp) rfl rfl rfl hcalm i [] s' σ' H' (fun _ _=>False) I' (fpC fr') st' g1) (fun r s4 ⟨u,hr,h4⟩=>?_) fun _ _ f=>f.elim
   subst hr
   refine wpAny_mono h4 (fun _ s5 ⟨x,H5,I5,r5,y5,st5,fr5⟩=>?_) fun _ _ f=>f.elim
   obtain ⟨J5,e5,rx⟩:=y1 x H5 y5
   have I5':=I5.pinned (fpC fr5) (T.obj _ _ st5)
   have again:∀{σ7:L2.St}{H7:Hp}{s7:Shared},Inv (dH X own cap scope cl Hs.objs.size {s2 with heap:=Hs,toks:=s2.toks} (L2.upd H2 s2.heap.objs.size (.lst [])) fp) ([]++nE fp s5.heap) σ7 H7 s7→
     Inv (dH X own cap scope cl Hs.objs.size {s2 with heap:=Hs,toks:=s2.toks} (L2.upd H2 s2.heap.objs.size (.lst [])) fp) [] σ7 H7 s7∧tn (i + 1) s7.heap∧(∀b∈fp,H7 b=none):=fun {σ7 H7 s7} I7=>by
    refine ⟨I7.unpinned,T.keep _ _ _ st5 fun b hb o e=>(I7.pin (b,o) (List.mem_append_right _ (List.mem_append_right _ (jt hb e)))).1,fun b hb=>?_⟩
    obtain ⟨o,e,d⟩:=T.obj _ _ st5 b hb
    exact (I7.pin (b,o) (List.mem_append_right _ (List.mem_append_right _ (jt hb e)))).2.1
   have p5:H5 s2.heap.objs.size=some (.lst us):=e5.h _ _ hp'
   have pn:∀{J H:Hp},H s2.heap.objs.size=some (.lst us)→H s2.heap.objs.size≠none:=fun h z=>by rw [h] at z;cases z
   refine wpAny_mono (hT _ s5 σ' H5 x u (fun σ6 H6=>∃e6,H6=H5∧SR c J5 H5 σ6 e6∧KO env' σ' e6 σ6∧cA (gts e6 >>= fun k=>if k=true then ge e6 >>= fun r=>toD r >>= fun y=>cI gt gts ge (ds.drop (i + 1)) e6 >>= fun ys=>.ok (y::ys) else cI gt gts ge (ds.drop (i + 1)) e6)
    (fun ys=>∀v J' H',Ext J H J' H'→RR c H J' H' (.l .fresh (ys0++ys)) v→Q v H') c.T) I5' r5 ⟨J5,env',ds[i],sr'.ext e5,rx,aB (aL w') fun e6 w6 σ6 sr6 ko=>⟨e6,rfl,sr6,ko,w6⟩⟩) (fun _ s6 ⟨σ6,H6,I6,e6,hH6,sr6,ko,w6⟩=>?_) fun _ _ f=>f.elim
   subst hH6
   have no6:∀(j:Nat) (xs:List D),e6[j]?=some (some (.own xs))→σ6[j]?≠some (some (.ref s2.heap.objs.size)):=fun j xs q z=>by
    obtain ⟨k1,k2⟩:=ko j xs q
    exact no' j xs k1 (k2▸z)
   have J5p:J5 s2.heap.objs.size=none:=e5.frz _ (by rw [hp'];intro z;cases z) Jp'
   refine wpAny_mono (hIf _ s6 σ6 H6 (fun k H7=>∃J7,Ext J5 H6 J7 H7∧cA (if k=true then ge e6 >>= fun r=>toD r >>= fun y=>cI gt gts ge (ds.drop (i + 1)) e6 >>= fun ys=>.ok (y::ys) else cI gt gts ge (ds.drop (i + 1)) e6)
    (fun ys=>∀v J' H',Ext J H J' H'→RR c H J' H' (.l .fresh (ys0++ys)) v→Q v H') c.T) I6 ⟨J5,e6,sr6,aB (aL w6) fun k wk J7 H7 e7=>⟨J7,e7,wk⟩⟩) (fun k s7 ⟨H7,I7,J7,e7,w7⟩=>?_) fun _ _ f=>f.elim
   have p7:H7 s2.heap.objs.size=some (.lst us):=e7.h _ _ p5
   have J7p:J7 s2.heap.objs.size=none:=e7.frz _ (by rw [p5];intro z;cases z) J5p
   have sr7:=sr6.ext e7
   cases k with
   | false=>
    rw [if_neg (by decide)] at w7 ⊢
    obtain ⟨a1,a2,a3⟩:=again I7
    exact ⟨ds.length - (i + 1),by omega,i + 1,σ6,H7,J7,e6,us,ys0,rfl,hlt,a1,a2,a3,(e'.trans e5).trans e7,sr7,no6,p7,J7p,rs'.mono (e5.j.trans e7.j),by omega,w7⟩
   | true=>
    rw [if_pos rfl] at w7 ⊢
    refine wpAny_mono (hE _ s7 σ6 H7 (fun v H8=>∃J8 y,Ext J7 H7 J8 H8∧Rep c.K J8 y v∧cA (cI gt gts ge (ds.drop (i + 1)) e6 >>= fun ys=>.ok (y::ys)) (fun ys=>∀v J' H',Ext J H J' H'→RR c H J' H' (.l .fresh (ys0++ys)) v→Q v H') c.T) I7
     ⟨J7,e6,sr7,aB (aL w7) fun r wr v J8 H8 e8 r8=>?_⟩) (fun u8 s8 ⟨v8,H8,I8,r8,J8,y,e8,ry,w8⟩=>?_) fun _ _ f=>f.elim
    ·obtain ⟨y,q,wr⟩:=jE wr
     obtain ⟨J9,e9,_,ry⟩:=freeze e8 r8 q
     exact ⟨J9,y,e9,ry,wr⟩
    have p8:H8 s2.heap.objs.size=some (.lst us):=e8.h _ _ p7
    have J8p:J8 s2.heap.objs.size=none:=e8.frz _ (by rw [p7];intro z;cases z) J7p
    refine wpAny_mono (ny (X:=(dH X own cap scope cl Hs.objs.size {s2 with heap:=Hs,toks:=s2.toks} (L2.upd H2 s2.heap.objs.size (.lst [])) fp)) _ s8 σ6 H8 (.ref s2.heap.objs.size) [v8] (.ref s2.heap.objs.size) [u8] (fun _ H9=>H9=L2.upd H8 s2.heap.objs.size (.lst (us++[v8]))) I8 rfl (.cons r8 .nil) ⟨_,us,v8,rfl,rfl,p8,by omega,rfl⟩) (fun _ s9 ⟨_,H9,I9,_,h9⟩=>?_) fun _ _ f=>f.elim
    subst h9
    obtain ⟨a1,a2,a3⟩:=again I9
    refine ⟨ds.length - (i + 1),by omega,i + 1,σ6,_,J8,e6,us++[v8],ys0++[y],rfl,hlt,a1,a2,a3,(((e'.trans e5).trans e7).trans e8).other hp2 J8p,(sr7.ext e8).other J8p H0p no6,no6,bS,J8p,(rs'.mono ((e5.j.trans e7.j).trans e8.j)).append (.cons ry .nil),by simp;omega,?_⟩
    refine aB (aL w8) fun ys q v J' H' ee rr=>q v J' H' ee ?_
    rw [List.append_assoc] at rr
    exact rr
  ·have hie:i=ds.length:=by omega
   rw [List.drop_eq_nil_of_le (by omega)] at w'
   refine wpAny_mono (T.done (dH X own cap scope cl Hs.objs.size {s2 with heap:=Hs,toks:=s2.toks} (L2.upd H2 s2.heap.objs.size (.lst [])) fp) rfl rfl rfl hcalm i [] s' σ' H' (fun _ _=>False) I' (fpC fr') st' (wk1 (by omega))) (fun r s4 ⟨hr,I9⟩=>?_) fun _ _ f=>f.elim
   subst hr
   obtain ⟨m,hm,_⟩:=I9.loc
   refine hfin s2.heap.objs.size Hs.objs.size m _ H' _ hm (Gm I2 (by rw [hC];exact Nat.le_succ _)) I9.free (fun h'' sb=>back I9 sb) ?_
   have w9:∀v J' H',Ext J H J' H'→RR c H J' H' (.l .fresh (ys0++[])) v→Q v H':=w'
   rw [List.append_nil] at w9
   exact w9 _ J' H' (e2.trans e') ⟨_,us,rfl,hp',Jp',e2.h.free hp2,rs'⟩
 exact codeAny_compStart_list (loop _ rfl) (T.self _ 0 _ _ _ (T.keep _ _ _ st2 (fun b hb o e=>old1 b o (kHs b o e))) (loop _ rfl))
theorem Ct (own:List Str) (cap:List Nat){elt target iter:Expr}{ifs:List Expr}{scope:Scope}{pos:Pos}{gi:G (List D)}{gt:GT}{gts:G Bool}{ge:G R}(hi:uw X c target iter gi)
  (hbody:∀(cl:List (Str×Addr)) (C:Addr) (s:Shared) (H:Hp) (fp:List Addr),cR X.env.cells scope.names []=some cl→oB (dH X own cap scope cl C s H fp) c target gt∧qK (dH X own cap scope cl C s H fp) c ifs gts∧PD (dH X own cap scope cl C s H fp) c elt ge)
  (hk:scope.kind=.function:=by rfl) (hno:pK X cap scope=true:=by rfl) (hnames:(scope.names.all fun x=>!(x.2 == .local) || (scope.names.lookup x.1 == some .local))=true:=by rfl)
  (hcl:(cR X.env.cells scope.names []).isSome=true:=by rfl) (hcap:jo X cap=true:=by rfl) (hloc:mQ X cap scope=true:=by rfl) (hnd:nA cap=true:=by rfl) (hcalm:X.calm=true:=by rfl)
  (hs:∀x,foldedSetIterable iter X.env x=pure x:=by intro _;rfl):PD X c (.ListComp elt [⟨target,iter,ifs,0⟩] scope pos) (bH own.length cap gi gt gts ge):=by
 intro pins s σ H Q I h
 rw [eval_ListComp]
 exact pL own cap hi hbody hk hno hnames hcl hcap hloc hnd hcalm hs I h fun acc C m s' H' fl hm hz hf hb q=>⟨m,hm,fun h'' sb=>⟨.ref acc,H',hb h'' sb,rfl,q⟩⟩
theorem nR {cells:List (Str×Addr)}{names names2:List (Str×NameKind)}{cl:List (Str×Addr)}{n:Nat}(h:cR cells names []=some cl)
  (hn:(names2.all fun y=>!(y.2 == .free) || ((names.any fun z=>z.1 == y.1 && z.2 == .free) || cP names y.1))=true):(cR (cellsFrom n names cl) names2 []).isSome=true:=by
 obtain ⟨_,m2⟩:=gu names [] cl h (fun x c h=>by simp at h)
 have go:∀(l:List (Str×NameKind)) (cs:List (Str×Addr)),(l.all fun y=>!(y.2 == .free) || ((names.any fun z=>z.1 == y.1 && z.2 == .free) || cP names y.1))=true→(cR (cellsFrom n names cl) l cs).isSome=true:=by
  intro l
  induction l with
  | nil=>intro cs _;rfl
  | cons y r ih=>
   obtain ⟨y,k⟩:=y
   intro cs hl
   rw [List.all_cons,Bool.and_eq_true] at hl
   unfold cR
   split
   ·rename_i hk
    have h1:=hl.1
    simp only [hk,Bool.not_true,Bool.false_or,Bool.or_eq_true] at h1
    have:((cellsFrom n names cl).lookup y).isSome=true:=by
     refine fU names n cl y ?_
     rcases h1 with z | z
     ·obtain ⟨q,hq,e⟩:=List.any_eq_true.mp z
      rw [Bool.and_eq_true] at e
      have e1:q=(y,NameKind.free):=by
       obtain ⟨q1,q2⟩:=q
       have a1:q1=y:=eq_of_beq e.1
       have a2:q2=NameKind.free:=by simpa using e.2
       rw [a1,a2]
      exact .inl (m2 y (.inr (e1▸hq)))
     ·exact .inr z
    obtain ⟨a,ha⟩:=Option.isSome_iff_exists.mp this
    rw [ha]
    exact ih _ hl.2
   ·exact ih _ hl.2
 exact go names2 [] hn
end
section
variable {X:Cx}{c:C}{e:Expr}{es:List Expr}{g:G R}{pos:Pos}
theorem AY {p:Pos}{gs:G (List R)}(hu:X.A.units + 64 < cLine) (ha:jk X c (e::es) gs) (hm:X.mg "sorted"=none) (hK:X.K=c.K:=by rfl) (hg:Gl X "sorted":=by rfl)
  (he:starEach (e::es) X.env=(false,eval e X.env)::starEach es X.env:=by rfl) (hpl:(backTo pos (starEach es X.env)).any (·.1)=false:=by rfl):QD X c (.Call (.Name "sorted" p) (e::es) [] pos) (gN kH gs):=⟨Cy hu ha.h hm hK hg he hpl⟩
theorem A0 {p:Pos}{gs:G (List R)}(ha:jk X c (e::es) gs) (hm:X.mg "int"=none) (hg:Gl X "int":=by rfl)
  (he:starEach (e::es) X.env=(false,eval e X.env)::starEach es X.env:=by rfl) (hpl:(backTo pos (starEach es X.env)).any (·.1)=false:=by rfl):QD X c (.Call (.Name "int" p) (e::es) [] pos) (gN yy gs):=⟨CB ha.h hm hg he hpl⟩
theorem AV (i:Nat){x:Str}{pos':Pos}(hN:X.N.Nodup) (h:QD X c e g) (hi:X.N[i]?=some x:=by rfl) (hx:Loc X.env.scope x:=by first | exact Or.inl rfl | exact Or.inr rfl) (hf:X.fn x=true∨X.env.scope.names.lookup x=some .local:=by first | exact .inl rfl | exact .inr rfl):
  iG X c (.AugAssign (.Name x pos') .Mult e pos) (kj i oV g):=⟨Co i hN h.h hi hx hf⟩
theorem AU (i:Nat){x:Str}{pos':Pos}(hN:X.N.Nodup) (h:QD X c e g) (hi:X.N[i]?=some x:=by rfl) (hx:Loc X.env.scope x:=by first | exact Or.inl rfl | exact Or.inr rfl) (hf:X.fn x=true∨X.env.scope.names.lookup x=some .local:=by first | exact .inl rfl | exact .inr rfl):
  iG X c (.AugAssign (.Name x pos') .Add e pos) (kj i qW g):=⟨Cn i hN h.h hi hx hf⟩
theorem AX {x y:Str}{px p1 py:Pos}{k:Nat}{pos':Pos}{t:jF}(h:QD X c e g) (ht:uB X c [.Name x px,.Name y py] t) (hcm:X.calm=true:=by rfl) (hK:X.K=c.K:=by rfl)
  (hm:(assignEach [.Starred (.Name x px) p1,.Name y py] X.env).map (·.2)=(assignEach [.Name x px,.Name y py] X.env).map (·.2):=by rfl) (hs:swapsWithSole [.Tuple [.Starred (.Name x px) p1,.Name y py] k pos'] e pos.line X.env=pure false:=by rfl) (hw:swappedStores [.Tuple [.Starred (.Name x px) p1,.Name y py] k pos'] e X.env=pure none:=by rfl)
  (h1:(assignEach [.Tuple [.Starred (.Name x px) p1,.Name y py] k pos'] X.env).map (·.2)=[assign (.Tuple [.Starred (.Name x px) p1,.Name y py] k pos') X.env]:=by rfl):iG X c (.Assign [.Tuple [.Starred (.Name x px) p1,.Name y py] k pos'] e pos) (pV t g):=⟨Cq h.h ht.h hcm hK rfl rfl hm hs hw h1⟩
theorem bJ (own:List Str) (cap:List Nat){elt target iter:Expr}{ifs:List Expr}{scope:Scope}{pos:Pos}{gi:G (List D)}{gt:GT}{gts:G Bool}{ge:G R}(hi:zD X c target iter gi)
  (hbody:∀(cl:List (Str×Addr)) (C:Addr) (s:Shared) (H:Hp) (fp:List Addr),cR X.env.cells scope.names []=some cl→uA (dH X own cap scope cl C s H fp) c target gt∧yh (dH X own cap scope cl C s H fp) c ifs gts∧QD (dH X own cap scope cl C s H fp) c elt ge)
  (hk:scope.kind=.function:=by rfl) (hno:pK X cap scope=true:=by rfl) (hnames:(scope.names.all fun x=>!(x.2 == .local) || (scope.names.lookup x.1 == some .local))=true:=by rfl)
  (hcl:(cR X.env.cells scope.names []).isSome=true:=by rfl) (hcap:jo X cap=true:=by rfl) (hloc:mQ X cap scope=true:=by rfl) (hnd:nA cap=true:=by rfl) (hcalm:X.calm=true:=by rfl)
  (hs:∀x,foldedSetIterable iter X.env x=pure x:=by intro _;rfl):QD X c (.ListComp elt [⟨target,iter,ifs,0⟩] scope pos) (bH own.length cap gi gt gts ge):=
 ⟨Ct own cap hi.h (fun cl C s H fp hc=>let ⟨a,b,d⟩:=hbody cl C s H fp hc;⟨a.h,b.h,d.h⟩) hk hno hnames hcl hcap hloc hnd hcalm hs⟩
theorem Ei {K:PySem.W.Frag}{x qual:Str}{st:Stmt}{f T:Addr}{oc oT:Value}{od an dT:Option Addr}{osl sT:Array (Option Value)}{kV doc pm cdv ct:Value}{n:Nat}(l:K.lookup f=some ⟨oc,od,.func (PySem.W.fnOf x qual (aO st) (aJ st) (ay st) (.ref T) kV doc pm an cdv ct),osl⟩)
  (cd:PySem.W.codeIn K cdv qual=true) (k:PySem.W.keepIn K (.ref f)=true) (lT:K.lookup T=some ⟨oT,dT,.seq #[.none] n,sT⟩):qH K x qual st f (PySem.W.fnOf x qual (aO st) (aJ st) (ay st) (.ref T) kV doc pm an cdv ct):=
 ⟨⟨oc,od,T,_,n,kV,doc,pm,an,cdv,ct,osl,rfl,l,cd,lT,rfl⟩,k⟩
end
end DL
namespace K51
open PySem DL
def Ge:List Str:=["many","depth","told","step"]
def Ae:G O:=(aK (aX 2 (gC (.int 1)))
 (aK (fz (ez (ao (af 1) aE)) (aF 3) (kj 2 oV (af 0)))
 (bU (af 2))))
def pA (as:List S):M R:=fin (Ae (bD Ge as))
def ur:List Str:=["told","kept","one"]
def ni:G O:=(aK (aX 1 (fB aR))
 (aK (fz (qX (gN kH (ao (af 0) aE))) (aF 2) (cL (mw (o6 (mZ (af 1))) (bN (g2 (cU true) (g2 bg (af 1) (yF (gC (.int 1)))) (af 2)))) (ie 1 (af 2)) fV))
 (bU (gN bG (ao (af 1) aE)))))
def dD (as:List S):M R:=fin (ni (bD ur as))
def Bt:List Str:=["world","row","ahead","last","many","marks","arrows","same","bearing","loops","outward","inward"]
def uW:G O:=(aK (cL (bN (g2 (cU false) (gN iL (ao (af 1) aE)) (gC (.int 0)))) (bU (bC aR)) fV)
 (aK (pV (aV (aF 2) (aV (aF 3) cM)) (af 1))
 (aK (jL (cO 3 (aV (aF 4) (aV (aF 5) (aV (aF 6) cM)))) (af 0))
 (aK (aX 7 (gN bG (ao (bH 1 [3] (eY (af 2)) (aF 0) eU (g2 (cU false) (af 0) (af 1))) aE)))
 (aK (aX 8 (gN bG (ao (bH 2 [3] (eY (af 5)) (cO 2 (aV (aF 0) (aV (aF 1) cM))) eU (g2 (jm false) (af 2) (af 1))) aE)))
 (aK (aX 9 (gN bG (ao (bH 2 [3] (eY (af 6)) (cO 2 (aV (aF 0) (aV (aF 1) cM))) eU (g2 (jm false) (bC (aA (af 2) (aA (af 2) aR))) (af 1))) aE)))
 (aK (aX 10 (gN bG (ao (bH 2 [2,3] (eY (af 6)) (cO 2 (aV (aF 0) (aV (aF 1) cM))) eU (gN bG (ao (bH 1 [3,1] (eY (af 2)) (aF 0) eU (g2 (jm false) (bC (aA (af 1) (aA (af 0) aR))) (af 2))) aE))) aE)))
 (aK (aX 11 (gN bG (ao (bH 2 [2,3] (eY (af 6)) (cO 2 (aV (aF 0) (aV (aF 1) cM))) eU (gN bG (ao (bH 1 [3,1] (eY (af 2)) (aF 0) eU (g2 (jm false) (bC (aA (af 0) (aA (af 1) aR))) (af 2))) aE))) aE)))
 (bU (bC (aA (af 7) (aA (af 8) (aA (af 9) (aA (af 10) (aA (af 11) aR)))))))))))))))
def iS (as:List S):M R:=fin (uW (bD Bt as))
def Bu:List Str:=["world","depth","row","face"]
def uX (Fr:List S→M R):G O:=(aK (aX 3 (gN (aW 2 K51.iS) (ao (af 0) (ao (af 2) aE))))
 (aK (cL (bN (g2 (cU false) (af 1) (gC (.int 0)))) (bU (bC (aA (af 3) (aA (bC aR) aR)))) fV)
 (bU (bC (aA (af 3) (aA (gN (aW 1 K51.dD) (ao (bH 1 [0,1,2] (ez (ao (g2 bg (af 0) (gC (.int 0))) aE)) (aF 0) eU (gN (aW 3 Fr) (ao (af 1) (ao (g2 mV (af 2) (gC (.int 1))) (ao (g2 cu (af 3) (bC (aA (af 0) aR))) aE))))) aE)) aR))))))
def h_:Nat→List S→M R
 | 0,_=>.bad
 | k + 1,as=>fin (uX (h_ k) (bD Bu as))
def ye:List Str:=["_law_script","_law_k"]
def pY:G O:=(aK (cL (bN (g2 (j4 fun i j=>.bl (decide (i < j))) (af 1) (gN iL (ao (af 0) aE)))) (bU (g2 eF (g2 bg (af 0) (af 1)) (g2 BL (gC (.int 10)) (gC (.int 64))))) fV)
 (bU (gC (.int 0))))
def bX (as:List S):M R:=fin (pY (bD ye as))
def v5:List Str:=["_law_cell_here","_law_many","_law_letters","_law_sign","_law_stem","_law_found","_law_k","_law_other","_law_name"]
def oH:G O:=(aK (aX 2 (gC (.str "abcdefghijklmnopqrstuvwxyz")))
 (aK (aX 3 (g2 bg (af 2) (g2 eF (g2 gT (af 0) (gC (.int 3))) (gC (.int 26)))))
 (aK (aX 4 (g2 d8 (af 3) (g2 dJ (gC (.int 1)) (g2 eF (g2 gT (af 0) (gC (.int 78))) (gC (.int 7))))))
 (aK (aX 5 (fB aR))
 (aK (fz (ez (ao (af 1) aE)) (aF 6) (aK (aX 7 (g2 bg (af 2) (g2 eF (g2 dJ (g2 gT (af 0) (gC (.int 546))) (g2 d8 (gC (.int 9)) (af 6))) (gC (.int 26)))))
 (aK (aX 8 (g2 bg (fB (aA (g2 dJ (af 4) (af 7)) (aA (g2 dJ (af 7) (af 4)) (aA (g2 d8 (af 3) (g2 dJ (af 6) (gC (.int 2)))) aR)))) (g2 eF (af 0) (gC (.int 3)))))
 (aK (cL (bN (g2 (cU false) (af 8) (gC (.str "or")))) (aX 8 (gC (.str "orx"))) fV)
 (ie 5 (af 8))))))
 (bU (gN jz (ao (af 5) aE))))))))
def fX (as:List S):M R:=fin (oH (bD v5 as))
def yd:List Str:=["_law_cell_here","_law_size","_law_found","_law_k"]
def pX:G O:=(aK (aX 2 (fB aR))
 (aK (fz (ez (ao (af 1) aE)) (aF 3) (aK (ie 2 (g2 (cU false) (g2 eF (af 0) (gC (.int 2))) (gC (.int 1))))
 (aX 0 (g2 gT (af 0) (gC (.int 2))))))
 (bU (af 2))))
def gz (as:List S):M R:=fin (pX (bD yd as))
def v_:List Str:=["_law_names_here","_law_many","_law_cells","_law_marks","_law_k","_law_bits_here","_law_arrows"]
def oM:G O:=(aK (aX 3 (fB aR))
 (aK (fz (ez (ao (gN iL (ao (g2 bg (af 0) (gC (.int 0))) aE)) aE)) (aF 4) (aK (aX 5 (gN (aW 2 K51.gz) (ao (g2 bg (af 2) (af 4)) (ao (af 1) aE))))
 (ie 3 (bC (aA (g2 bg (g2 bg (af 0) (gC (.int 0))) (af 4)) (aA (gN bG (ao (bH 1 [5] (ez (ao (af 1) aE)) (aF 0) (mZ (g2 bg (af 1) (af 0))) (af 0)) aE)) aR))))))
 (aK (aX 6 (fB aR))
 (aK (fz (ez (ao (gN iL (ao (g2 bg (af 0) (gC (.int 1))) aE)) aE)) (aF 4) (aK (aX 5 (gN (aW 2 K51.gz) (ao (g2 bg (af 2) (g2 dJ (gC (.int 3)) (af 4))) (ao (g2 d8 (af 1) (af 1)) aE))))
 (ie 6 (bC (aA (g2 bg (g2 bg (af 0) (gC (.int 1))) (af 4)) (aA (gN bG (ao (bH 1 [5,1] (ez (ao (g2 d8 (af 1) (af 1)) aE)) (aF 0) (mZ (g2 bg (af 1) (af 0))) (bC (aA (g2 gT (af 0) (af 2)) (aA (g2 eF (af 0) (af 2)) aR)))) aE)) aR))))))
 (bU (bC (aA (af 1) (aA (gN bG (ao (af 3) aE)) (aA (gN bG (ao (af 6) aE)) aR)))))))))
def eX (as:List S):M R:=fin (oM (bD v_ as))
def v9:List Str:=["_law_many","_law_depth","_law_found","_law_k"]
def oK:G O:=(aK (aX 2 (gC (.int 1)))
 (aK (fz (ez (ao (af 1) aE)) (aF 3) (aX 2 (g2 d8 (af 2) (af 0))))
 (bU (af 2))))
def dw (as:List S):M R:=fin (oK (bD v9 as))
def yf:List Str:=["_law_cell_here","_law_many","_law_most","_law_depth"]
def pZ:G O:=(aK (aX 3 (g2 eF (af 0) (gC (.int 7))))
 (aK (m9 200 (bN (g2 (j4 fun i j=>.bl (decide (j < i))) (gN (aW 2 K51.dw) (ao (af 1) (ao (af 3) aE))) (af 2))) (aX 3 (g2 mV (af 3) (gC (.int 1)))))
 (bU (af 3))))
def gA (as:List S):M R:=fin (pZ (bD yf as))
end K51
namespace WP
open PySem DL K01
def Wp {α:Type}(m:M α) (P:α→Prop):Prop:=∃a,m=.ok a∧P a
section
variable {α β:Type}{m:M α}{P P':α→Prop}{a:α}{env:Ev}{Q:O→Prop}{t u:G O}{g:G R}{r r':R}{i:Nat}{b:G Bool}
theorem Wp.of (h:m=.ok a) (p:P a):Wp m P:=⟨a,h,p⟩
theorem Wp.mono (h:Wp m P) (k:∀a,P a→P' a):Wp m P':=let ⟨a,h1,h2⟩:=h;⟨a,h1,k a h2⟩
theorem Wp.eq (h:Wp m (·=a)):m=.ok a:=let ⟨_,h1,h2⟩:=h;h2▸h1
theorem lW {P:R→Prop}(h:Wp (t env) fun o=>∃r,o=.rt r∧P r):Wp (fin (t env)) P:=by
 obtain ⟨_,h1,r,rfl,h2⟩:=h
 exact ⟨r,by rw [h1];rfl,h2⟩
theorem IV (h:Wp (t env) fun o=>∃e,o=.nx e):fin (t env)=.ok (.d .non):=by
 obtain ⟨_,h1,r,rfl⟩:=h
 rw [h1];rfl
theorem dI (h:Wp (t env) (·=.rt r)):fin (t env)=.ok r:=by
 rw [h.eq];rfl
theorem cJ (h:Wp (t env) fun o=>match o with
 | .nx e=>Wp (u e) Q
 | o=>Q o):Wp (aK t u env) Q:=by
 obtain ⟨o,h1,h2⟩:=h
 show Wp (t env >>= _) Q
 rw [h1]
 cases o with
 | nx e=>exact h2
 | rt r=>exact ⟨_,rfl,h2⟩
 | bk e=>exact ⟨_,rfl,h2⟩
 | ct e=>exact ⟨_,rfl,h2⟩
theorem iM {x:S}(h:g env=.ok r) (h2:toS r=.ok x) (k:Q (.nx (env.set i (some x)))):Wp (aX i g env) Q:=⟨_,by show (g env >>= _)=_;rw [h,aU,h2];rfl,k⟩
theorem bq {x:S}(h:g env=.ok r) (h2:toS r=.ok x) (k:Wp (u (env.set i (some x))) Q):Wp (aK (aX i g) u env) Q:=cJ (iM h h2 k)
theorem bT (h:g env=.ok r) (h2:rF r=.ok r') (k:Q (.rt r')):Wp (bU g env) Q:=⟨_,Io h h2,k⟩
theorem u6 (k:Q (.nx env)):Wp (fV env) Q:=⟨_,rfl,k⟩
theorem K3 (k:Wp (u env) Q):Wp (aK fV u env) Q:=cJ (u6 k)
theorem gF (h:b env=.ok true) (k:Wp (t env) Q):Wp (cL b t u env) Q:=by rw [Ek h];exact k
theorem GY (h:b env=.ok false) (k:Wp (u env) Q):Wp (cL b t u env) Q:=by rw [Ah h];exact k
theorem BZ {c:Bool}(h:b env=.ok c) (k1:c=true→Wp (t env) Q) (k2:c=false→Wp (u env) Q):Wp (cL b t u env) Q:=by
 cases c with
 | true=>exact gF h (k1 rfl)
 | false=>exact GY h (k2 rfl)
theorem K2 {v:G O}(h:b env=.ok false) (k:Wp (aK u v env) Q):Wp (aK (cL b t u) v env) Q:=by
 have:aK (cL b t u) v env=aK u v env:=by unfold aK;rw [Ah h]
 rw [this];exact k
theorem eV {v:G O}(h:b env=.ok false) (k:Wp (v env) Q):Wp (aK (cL b t fV) v env) Q:=K2 h (K3 k)
theorem jr {xs:List D}{d:D}(h0:env[i]?=some (some (.own xs))) (h:g env=.ok r) (h2:toD r=.ok d) (hl:xs.length≤1000) (k:Q (.nx (env.set i (some (.own (xs++[d])))))):Wp (ie i g env) Q:=by
 refine ⟨_,?_,k⟩
 unfold ie
 rw [h0]
 show (g env >>= _)=_
 rw [h,aU,h2,aU,if_pos (Nat.lt_of_le_of_lt hl (by decide))]
theorem JL {xs:List D}{d:D}(h0:env[i]?=some (some (.own xs))) (h:g env=.ok r) (h2:toD r=.ok d) (hl:xs.length≤1000) (k:Wp (u (env.set i (some (.own (xs++[d]))))) Q):Wp (aK (ie i g) u env) Q:=cJ (jr h0 h h2 hl k)
theorem yN {gi:G (List D)}{tg:GT}{ds:List D}(h:gi env=.ok ds) (k:Wp (gZ tg u ds env) Q):Wp (fz gi tg u env) Q:=by rw [Gz h];exact k
theorem iP {gi:G (List D)}{tg:GT}{ds:List D}{v:G O}(h:gi env=.ok ds) (k:Wp (gZ tg t ds env) fun o=>match o with
 | .nx e=>Wp (v e) Q
 | o=>Q o):Wp (aK (fz gi tg t) v env) Q:=cJ (yN h k)
theorem jT {tg:GT}(I:Nat→Ev→Prop) (ds:List D) (h0:I 0 env) (step:∀(k:Nat) (hk:k < ds.length) (env:Ev),I k env→∃e,tg ds[k] env=.ok e∧Wp (u e) fun o=>∃e,o=.nx e∧I (k + 1) e)
  (k:∀e,I ds.length e→Q (.nx e)):Wp (gZ tg u ds env) Q:=by
 have key:∀(es:List D) (i:Nat) (env:Ev),ds.drop i=es→i≤ds.length→I i env→Wp (gZ tg u es env) Q:=by
  intro es
  induction es with
  | nil=>
   intro i env hd hi hI
   have:i=ds.length:=by
    have:=congrArg List.length hd
    rw [List.length_drop] at this
    simp at this;omega
   subst this
   exact ⟨_,rfl,k _ hI⟩
  | cons d es ih=>
   intro i env hd hi hI
   have hlt:i < ds.length:=by
    have:=congrArg List.length hd
    rw [List.length_drop] at this
    simp at this;omega
   have e1:=List.drop_eq_getElem_cons hlt
   rw [hd] at e1
   obtain ⟨q1,q2⟩:=List.cons.inj e1
   obtain ⟨e,h1,_,h2,e2,rfl,h3⟩:=step i hlt env hI
   unfold gZ
   rw [q1,h1,aU,h2,aU]
   exact ih (i + 1) e2 q2.symm (by omega) h3
 exact key ds 0 env rfl (Nat.zero_le _) h0
theorem lY {tg:GT}{n:Nat}(I:Nat→Ev→Prop) (h0:I 0 env) (step:∀(k:Nat),k < n→∀env,I k env→∃e,tg (.int k) env=.ok e∧Wp (u e) fun o=>∃e,o=.nx e∧I (k + 1) e)
  (k:∀e,I n e→Q (.nx e)):Wp (gZ tg u (eZ 0 n) env) Q:=by
 have hl:(eZ 0 n).length=n:=by simp [eZ]
 refine jT I (eZ 0 n) h0 (fun j hj env hI=>?_) (by rw [hl];exact k)
 obtain ⟨e,h1,h2⟩:=step j (by rw [hl] at hj;exact hj) env hI
 refine ⟨e,?_,h2⟩
 rw [←h1]
 simp [eZ]
theorem n1 {f:List R→M R}{x z:R}(hx:g env=.ok x) (hf:f [x]=.ok z):gN f (ao g aE) env=.ok z:=Jj hx hf
theorem two {f:R→R→M R}{h:G R}{x y z:R}(hx:g env=.ok x) (hy:h env=.ok y) (hf:f x y=.ok z):g2 f g h env=.ok z:=by
 show (g env >>= _)=_
 rw [hx,aU,hy,aU,hf]
theorem c1 {F:List S→M R}{x z:R}(hx:g env=.ok x) (hF:F [dR x]=.ok z):gN (aW 1 F) (ao g aE) env=.ok (mq z):=by
 show (ao g aE env >>= _)=_
 unfold ao aE
 rw [hx]
 show (match F [dR x] with | .ok r=>M.ok (mq r) | _=>M.bad)=_
 rw [hF]
theorem c2 {F:List S→M R}{h:G R}{x y z:R}(hx:g env=.ok x) (hy:h env=.ok y) (hF:F [dR x,dR y]=.ok z):gN (aW 2 F) (ao g (ao h aE)) env=.ok (mq z):=by
 show (ao g (ao h aE) env >>= _)=_
 unfold ao aE
 rw [hx,hy]
 show (match F [dR x,dR y] with | .ok r=>M.ok (mq r) | _=>M.bad)=_
 rw [hF]
theorem c3 {F:List S→M R}{h k:G R}{x y w z:R}(hx:g env=.ok x) (hy:h env=.ok y) (hw:k env=.ok w) (hF:F [dR x,dR y,dR w]=.ok z):gN (aW 3 F) (ao g (ao h (ao k aE))) env=.ok (mq z):=by
 show (ao g (ao h (ao k aE)) env >>= _)=_
 unfold ao aE
 rw [hx,hy,hw]
 show (match F [dR x,dR y,dR w] with | .ok r=>M.ok (mq r) | _=>M.bad)=_
 rw [hF]
theorem c4 {F:List S→M R}{h k l:G R}{x y w v z:R}(hx:g env=.ok x) (hy:h env=.ok y) (hw:k env=.ok w) (hv:l env=.ok v) (hF:F [dR x,dR y,dR w,dR v]=.ok z):gN (aW 4 F) (ao g (ao h (ao k (ao l aE)))) env=.ok (mq z):=by
 show (ao g (ao h (ao k (ao l aE))) env >>= _)=_
 unfold ao aE
 rw [hx,hy,hw,hv]
 show (match F [dR x,dR y,dR w,dR v] with | .ok r=>M.ok (mq r) | _=>M.bad)=_
 rw [hF]
theorem x3 {F:List S→M R}{h k:G R}{x y w z:R}(hx:g env=.ok x) (hy:h env=.ok y) (hw:k env=.ok w) (hF:F [dR x,dR y,dR w]=.ok z):gN (GA 3 F) (ao g (ao h (ao k aE))) env=.ok (mq z):=by
 show (ao g (ao h (ao k aE)) env >>= _)=_
 unfold ao aE
 rw [hx,hy,hw]
 show (match F [dR x,dR y,dR w] with | .ok r=>M.ok (mq r) | .exc x=>.exc x | .bad=>M.bad)=_
 rw [hF]
theorem D7 (h:g env=.ok r) (k:Wp (u env) Q):Wp (aK (t6 g) u env) Q:=cJ ⟨.nx env,by show (g env >>= _)=_;rw [h];rfl,k⟩
theorem jY {cap:List Nat}{gi:G (List D)}{ge:G R}{α:Type}{xs:List α}(a b:α→D) (f:α→D) (hi:gi env=.ok (xs.map fun x=>.tup [a x,b x])) (hl:xs.length≤1000)
  (h:∀x∈xs,∃r,ge (some (.d (a x))::some (.d (b x))::cE 0 cap env)=.ok r∧toD r=.ok (f x)):bH 2 cap gi (cO 2 (aV (aF 0) (aV (aF 1) cM))) eU ge env=.ok (.l .fresh (xs.map f)):=by
 have key:∀(es:List α) (x y:Option S),(∀d∈es,d∈xs)→cI (cO 2 (aV (aF 0) (aV (aF 1) cM))) eU ge (es.map fun x=>.tup [a x,b x]) (x::y::cE 0 cap env)=.ok (es.map f):=by
  intro es
  induction es with
  | nil=>exact fun _ _ _=>rfl
  | cons d es ih=>
   intro x y hm
   obtain ⟨r,h1,h2⟩:=h d (hm d List.mem_cons_self)
   rw [List.map_cons]
   unfold cI
   show (ge (some (.d (a d))::some (.d (b d))::cE 0 cap env) >>= _)=_
   rw [h1,aU,h2,aU]
   show (cI _ eU ge _ (some (.d (a d))::some (.d (b d))::cE 0 cap env) >>= _)=_
   rw [ih _ _ fun e he=>hm e (List.mem_cons_of_mem _ he)]
   rfl
 unfold bH
 rw [hi,aU,if_pos (d9 (by rw [List.length_map];exact hl))]
 show (cI _ eU ge _ (none::none::cE 0 cap env) >>= _)=_
 rw [key xs none none fun _ h=>h]
 rfl
theorem Iq (n:Nat):eZ 0 n=(List.range n).map dN:=by simp [eZ]
theorem vC {gs:G (List R)}{n:Nat}(hg:gs env=.ok [.d (.int (n:Int))]) (h:n≤1000):ez gs env=.ok ((List.range n).map dN):=by rw [nJ hg h,Iq]
theorem jJ {cap:List Nat}{gi:G (List D)}{ge:G R}{α:Type}{xs:List α}{h:α→D}(f:α→D) (hi:gi env=.ok (xs.map h)) (hl:xs.length≤1000)
  (hb:∀x∈xs,∃r,ge (some (.d (h x))::cE 0 cap env)=.ok r∧toD r=.ok (f x)):bH 1 cap gi (aF 0) eU ge env=.ok (.l .fresh (xs.map f)):=by
 have key:∀(es:List α) (x:Option S),(∀d∈es,d∈xs)→cI (aF 0) eU ge (es.map h) (x::cE 0 cap env)=.ok (es.map f):=by
  intro es
  induction es with
  | nil=>exact fun _ _=>rfl
  | cons d es ih=>
   intro x hm
   obtain ⟨r,h1,h2⟩:=hb d (hm d List.mem_cons_self)
   rw [List.map_cons]
   unfold cI
   show (ge (some (.d (h d))::cE 0 cap env) >>= _)=_
   rw [h1,aU,h2,aU]
   show (cI (aF 0) eU ge _ (some (.d (h d))::cE 0 cap env) >>= _)=_
   rw [ih _ fun e he=>hm e (List.mem_cons_of_mem _ he)]
   rfl
 unfold bH
 rw [hi,aU,if_pos (d9 (by rw [List.length_map];exact hl))]
 show (cI (aF 0) eU ge _ (none::cE 0 cap env) >>= _)=_
 rw [key xs none fun _ h=>h]
 rfl
theorem yv {cap:List Nat}{gi:G (List D)}{ge:G R}{gts:G Bool}{α:Type}{xs:List α}{h:α→D}(p:α→Bool) (f:α→D) (hi:gi env=.ok (xs.map h)) (hl:xs.length≤1000)
  (hb:∀x∈xs,gts (some (.d (h x))::cE 0 cap env)=.ok (p x)∧(p x=true→∃r,ge (some (.d (h x))::cE 0 cap env)=.ok r∧toD r=.ok (f x))):bH 1 cap gi (aF 0) gts ge env=.ok (.l .fresh ((xs.filter p).map f)):=by
 have key:∀(es:List α) (x:Option S),(∀d∈es,d∈xs)→cI (aF 0) gts ge (es.map h) (x::cE 0 cap env)=.ok ((es.filter p).map f):=by
  intro es
  induction es with
  | nil=>exact fun _ _=>rfl
  | cons d es ih=>
   intro x hm
   obtain ⟨h0,h1⟩:=hb d (hm d List.mem_cons_self)
   rw [List.map_cons]
   unfold cI
   show (gts (some (.d (h d))::cE 0 cap env) >>= _)=_
   rw [h0,aU]
   cases q:p d with
   | true=>
    obtain ⟨r,h1,h2⟩:=h1 q
    rw [if_pos rfl]
    show (ge (some (.d (h d))::cE 0 cap env) >>= _)=_
    rw [h1,aU,h2,aU]
    show (cI (aF 0) gts ge _ (some (.d (h d))::cE 0 cap env) >>= _)=_
    rw [ih _ fun e he=>hm e (List.mem_cons_of_mem _ he),List.filter_cons_of_pos q]
    rfl
   | false=>
    rw [if_neg (by decide),List.filter_cons_of_neg (by simp [q])]
    exact ih _ fun e he=>hm e (List.mem_cons_of_mem _ he)
 unfold bH
 rw [hi,aU,if_pos (d9 (by rw [List.length_map];exact hl))]
 show (cI (aF 0) gts ge _ (none::cE 0 cap env) >>= _)=_
 rw [key xs none fun _ h=>h]
 rfl
theorem Ad {x:R}(h:g env=.ok x):ao g aE env=.ok [x]:=by
 show (g env >>= _)=_
 rw [h]
 rfl
theorem bw:aR env=.ok []:=rfl
theorem aD {gs:G (List D)}{d:D}{ds:List D}(h:g env=.ok r) (h2:toD r=.ok d) (k:gs env=.ok ds):aA g gs env=.ok (d::ds):=by
 show (g env >>= _)=_
 rw [h,aU,h2,aU,k]
 rfl
theorem bx {gs:G (List D)}{ds:List D}(h:gs env=.ok ds) (hl:ds.length≤1000):bC gs env=.ok (.d (.tup ds)):=by
 show (gs env >>= _)=_
 rw [h,aU,if_pos (d9 hl)]
theorem qe {gs:G (List D)}{ds:List D}(h:gs env=.ok ds) (hl:ds.length≤1000):fB gs env=.ok (.l .fresh ds):=by
 show (gs env >>= _)=_
 rw [h,aU,if_pos (d9 hl)]
theorem kL {α:Type}{xs:List α}{h:α→D}(f:R) (hf:jc f=.ok (xs.map h)) (i:Int) (h0:0≤i) (hi:i < xs.length):∃x∈xs,bg f (.d (.int i))=.ok (.d (h x)):=by
 obtain ⟨k,rfl⟩:=Int.eq_ofNat_of_zero_le h0
 have hk:k < xs.length:=by omega
 refine ⟨xs[k],List.getElem_mem hk,?_⟩
 have h1:(xs.map h)[k]?=some (h xs[k]):=by rw [List.getElem?_map,List.getElem?_eq_getElem hk];rfl
 cases f with
 | d x=>
  cases x with
  | tup ys=>cases hf;exact jy h1
  | lst ys=>cases hf;unfold bg;simp only [jc,aU,jx h1]
  | _=>cases hf
 | l m x=>cases hf;exact tY h1
theorem DK {xs:List D}(h:env[i]?=some (some (.own xs))) (k:Wp (t (env.set i (some (.d (.lst xs))))) Q):Wp (mY i t env) Q:=by
 have:mY i t env=t (env.set i (some (.d (.lst xs)))):=by unfold mY;rw [h]
 rw [this];exact k
theorem Jf {tg:GT}{d:D}{e:Ev}(h:g env=.ok r) (h2:toD r=.ok d) (h3:tg d env=.ok e) (k:Q (.nx e)):Wp (jL tg g env) Q:=⟨_,by show (g env >>= _)=_;rw [h,aU,h2,aU,h3];rfl,k⟩
theorem qw {tg:GT}{d:D}{e:Ev}(h:g env=.ok r) (h2:toD r=.ok d) (h3:tg d env=.ok e) (k:Wp (u e) Q):Wp (aK (jL tg g) u env) Q:=cJ (Jf h h2 h3 k)
theorem Iz {tg:jF}{xs:List D}{z:D}{e:Ev}(h:g env=.ok (.d (.tup (xs++[z])))) (hl:xs.length + 1≤1000) (h3:tg [.lst xs,z] env=.ok e) (k:Wp (u e) Q):Wp (aK (pV tg g) u env) Q:=by
 refine cJ ⟨.nx e,?_,k⟩
 unfold pV
 rw [h]
 simp only [aU,toD,List.getLast?_concat,List.dropLast_concat,List.length_append,List.length_singleton,hl,if_true,h3]
theorem Bx {α:Type}(xs:List α) (z:α):L2.jX (xs++[z]) (-1)=some z:=by
 unfold L2.jX L2.mE
 rw [if_neg (by decide),if_pos (by simp;omega)]
 rw [show ((-1:Int) + ((xs++[z]).length:Nat)).toNat=xs.length by simp;omega]
 simp
theorem Eo (m:Md) (xs:List D) (z:D):bg (.l m (xs++[z])) (.d (.int (-1)))=.ok (.d z):=by
 unfold bg
 simp only [jc,aU,Bx]
theorem yI (neg:Bool) (x:D) (ys:List D) (h:deps ys≤60) (hx:dep x≤60):jm neg (.d x) (.d (.tup ys))=.ok (.d (.bl (if neg then !inD x ys else inD x ys))):=by
 show (if deps ys≤60∧dep x≤60 then M.ok (R.d (.bl (if neg then !inD x ys else inD x ys))) else M.bad)=_
 rw [if_pos ⟨h,hx⟩]
theorem nT (neg:Bool) (x y:R) (h:dep x.dat≤60) (hx:dep y.dat≤60):cU neg x y=.ok (.d (.bl (if neg then !bh x.dat y.dat else bh x.dat y.dat))):=by
 unfold cU
 rw [if_pos ⟨h,hx⟩]
theorem fm {n:Nat}:∀{xs:List D},(∀x∈xs,dep x≤n)→deps xs≤n
 | [],_=>Nat.zero_le _
 | x::xs,h=>by
  have h1:=h x List.mem_cons_self
  have h2:=fm (xs:=xs) fun y hy=>h y (List.mem_cons_of_mem _ hy)
  simp only [deps]
  omega
theorem Gu (xs:List Nat):deps (xs.map dN)≤60:=fm fun x hx=>by
 obtain ⟨k,_,rfl⟩:=List.mem_map.mp hx
 exact Nat.zero_le _
theorem zY (xs:List (Nat×Nat)):deps (xs.map dP)≤60:=fm fun x hx=>by
 obtain ⟨k,_,rfl⟩:=List.mem_map.mp hx
 exact (by decide:(1:Nat)≤60)
theorem x6 {tb:G Bool}(I:Nat→Ev→Prop) (step:∀d env,I d env→(tb env=.ok false∧Q (.nx env))∨(tb env=.ok true∧Wp (t env) fun o=>match o with
  | .nx e=>∃d',d' < d∧I d' e
  | .rt r=>Q (.rt r)
  | _=>False)):∀(n d:Nat) (env:Ev),I d env→d < n→Wp (gX tb t n env) Q
 | 0,d,env,_,h=>absurd h (Nat.not_lt_zero _)
 | n + 1,d,env,hI,h=>by
  unfold gX
  rcases step d env hI with ⟨h1,h2⟩ | ⟨h1,o,h2,h3⟩
  ·rw [h1]
   exact ⟨_,rfl,h2⟩
  ·rw [h1,aU,if_pos rfl,h2,aU]
   cases o with
   | nx e=>
    obtain ⟨d',hd,hI'⟩:=h3
    exact x6 I step n d' e hI' (by omega)
   | rt r=>exact ⟨_,rfl,h3⟩
   | bk e=>exact h3.elim
   | ct e=>exact h3.elim
theorem FD {tb:G Bool}{n:Nat}(I:Nat→Ev→Prop) (d:Nat) (hd:d < n) (h0:I d env) (step:∀d env,I d env→(tb env=.ok false∧Wp (u env) Q)∨(tb env=.ok true∧Wp (t env) fun o=>match o with
  | .nx e=>∃d',d' < d∧I d' e
  | .rt r=>Q (.rt r)
  | _=>False)):Wp (aK (m9 n tb t) u env) Q:=cJ (x6 I (fun d env h=>by
  rcases step d env h with h | ⟨h1,h2⟩
  ·exact .inl h
  ·refine .inr ⟨h1,h2.mono fun o ho=>?_⟩
   cases o <;> exact ho) n d env h0 hd)
theorem Jg {d:D}{f:R→R→M R}{y z:R}{x:S}(h0:env[i]?=some (some (.d d))) (h:g env=.ok y) (hf:f (.d d) y=.ok z) (h2:toS z=.ok x) (k:Q (.nx (env.set i (some x)))):Wp (kj i f g env) Q:=by
 refine ⟨_,?_,k⟩
 unfold kj
 rw [h0]
 show (g env >>= _)=_
 rw [h,aU,hf,aU,h2]
 rfl
end
end WP
namespace K51
open PySem DL K01 WP
def cT (ns:List Int) (k:Nat):Int:=(ns.map fun x=>x % 10 ^ 64).getD k 0
theorem jI (ns:List Int) (k:Nat):0≤cT ns k:=by
 unfold cT
 rw [List.getD_eq_getElem?_getD,List.getElem?_map]
 cases ns[k]? with
 | none=>exact Int.le_refl _
 | some x=>exact Int.emod_nonneg _ (by decide)
theorem zw (ns:List Int) (k:Nat):bX [.bor (ns.map D.int),.d (.int k)]=.ok (.d (.int (cT ns k))):=by
 refine dI (cJ (BZ (c:=decide ((k:Int) < ((ns.map D.int).length:Nat))) rfl (fun h=>?_) fun h=>?_))
 ·have h:k < ns.length:=by simpa using h
  have e:(ns.map D.int)[k]?=some (.int ns[k]):=by rw [List.getElem?_map,List.getElem?_eq_getElem h];rfl
  refine bT (two (two rfl rfl (tY e)) rfl (gM _ _ (by decide))) rfl ?_
  unfold cT
  rw [List.getD_eq_getElem?_getD,List.getElem?_map,List.getElem?_eq_getElem h]
  rfl
 ·have h:ns.length≤k:=by simpa using h
  refine u6 (bT rfl rfl ?_)
  unfold cT
  rw [List.getD_eq_getElem?_getD,List.getElem?_map,List.getElem?_eq_none (by omega)]
  rfl
theorem Fz (b n:Nat):(iu ⟨#[b]⟩ n).length=n:=by
 rw [Ex,D3,List.length_replicate]
theorem wU (c:Int) (hc:0≤c) (m:Nat) (hm:m≤3):∃ss:List Str,fX [.d (.int c),.d (.int m)]=.ok (.l .fresh (ss.map .str))∧ss.length=m:=by
 have key:Wp (fX [.d (.int c),.d (.int m)]) fun r=>∃ss:List Str,r=.l .fresh (ss.map .str)∧ss.length=m:=by
  refine lW (bq rfl rfl (bq (two rfl rfl (Al (c / 3 % 26) (by omega) (by omega))) rfl ?_))
  generalize 97 + (c / 3 % 26).toNat=b
  refine bq (two rfl rfl (DI _ (1 + c / 78 % 7) (by omega) (by omega) (show 1≤1000 by decide))) rfl ?_
  have hst:(iu ⟨#[b]⟩ (1 + c / 78 % 7).toNat).length≤8:=by rw [Fz];omega
  generalize iu ⟨#[b]⟩ (1 + c / 78 % 7).toNat=stem at hst
  refine bq rfl rfl (iP (nJ (n:=m) rfl (by omega)) ?_)
  refine lY (n:=m) (fun k env=>∃(ss:List Str) (x y z:Option S),env=[some (.d (.int c)),some (.d (.int m)),some (.d (.str "abcdefghijklmnopqrstuvwxyz")),some (.d (.str ⟨#[b]⟩)),some (.d (.str stem)),some (.own (ss.map .str)),x,y,z]∧ss.length=k) ⟨[],none,none,none,rfl,rfl⟩ ?_ ?_
  ·rintro k hk _ ⟨ss,x,y,z,rfl,hl⟩
   refine ⟨_,rfl,?_⟩
   refine bq (two rfl rfl (Al ((c / 546 + 9 * k) % 26) (by omega) (by omega))) rfl ?_
   generalize 97 + ((c / 546 + 9 * k) % 26).toNat=o
   obtain ⟨nm,hnm⟩:∃nm:Str,g2 bg (fB (aA (g2 dJ (af 4) (af 7)) (aA (g2 dJ (af 7) (af 4)) (aA (g2 d8 (af 3) (g2 dJ (af 6) (gC (.int 2)))) aR)))) (g2 eF (af 0) (gC (.int 3))) [some (.d (.int c)),some (.d (.int m)),some (.d (.str "abcdefghijklmnopqrstuvwxyz")),some (.d (.str ⟨#[b]⟩)),some (.d (.str stem)),some (.own (ss.map .str)),some (.d (.int k)),some (.d (.str ⟨#[o]⟩)),z]=.ok (.d (.str nm)):=by
    have h1:=DJ stem ⟨#[o]⟩ (by show _ + 1≤1000;omega)
    have h2:=DJ ⟨#[o]⟩ stem (by show 1 + _≤1000;omega)
    have h3:=DI ⟨#[b]⟩ (k + 2) (by omega) (by omega) (show 1≤1000 by decide)
    have hg:fB (aA (g2 dJ (af 4) (af 7)) (aA (g2 dJ (af 7) (af 4)) (aA (g2 d8 (af 3) (g2 dJ (af 6) (gC (.int 2)))) aR))) [some (.d (.int c)),some (.d (.int m)),some (.d (.str "abcdefghijklmnopqrstuvwxyz")),some (.d (.str ⟨#[b]⟩)),some (.d (.str stem)),some (.own (ss.map .str)),some (.d (.int k)),some (.d (.str ⟨#[o]⟩)),z]=.ok (.l .fresh [.str (stem++⟨#[o]⟩),.str (⟨#[o]⟩++stem),.str (iu ⟨#[b]⟩ ((k:Int) + 2).toNat)]):=by
     have l3:(3:Nat)≤sizeLine:=by decide
     simp only [fB,aA,aR,g2,af,gC,S.rd,List.getElem?_cons_zero,List.getElem?_cons_succ,aU,h1,h2,qD,h3,toD,List.length_cons,List.length_nil,l3,if_true]
    have hcs:c % 3=0∨c % 3=1∨c % 3=2:=by omega
    rcases hcs with h | h | h
    ·exact ⟨_,two hg (gM c 3 (by decide)) (by rw [h];rfl)⟩
    ·exact ⟨_,two hg (gM c 3 (by decide)) (by rw [h];rfl)⟩
    ·exact ⟨_,two hg (gM c 3 (by decide)) (by rw [h];rfl)⟩
   refine bq hnm rfl (cJ (BZ (c:=bh (.str nm) (.str "or")) rfl (fun h=>iM rfl rfl ?_) fun h=>u6 ?_))
   ·exact jr rfl rfl rfl (by rw [List.length_map];omega) ⟨_,rfl,ss++[("orx":Str)],_,_,_,by rw [List.map_append];rfl,by rw [List.length_append,hl];rfl⟩
   ·exact jr rfl rfl rfl (by rw [List.length_map];omega) ⟨_,rfl,ss++[nm],_,_,_,by rw [List.map_append];rfl,by rw [List.length_append,hl];rfl⟩
  ·rintro _ ⟨ss,x,y,z,rfl,hl⟩
   refine bT (n1 rfl (sorted_strs _ _ (by omega))) rfl ⟨_,rfl,_,rfl,?_⟩
   unfold oj
   simp [hl]
 obtain ⟨_,h,ss,rfl,hl⟩:=key
 exact ⟨ss,h,hl⟩
theorem zu (c:Int) (m:Nat) (hm:m≤64):∃bs:List Bool,gz [.d (.int c),.d (.int m)]=.ok (.l .fresh (bs.map .bl))∧bs.length=m:=by
 have key:Wp (gz [.d (.int c),.d (.int m)]) fun r=>∃bs:List Bool,r=.l .fresh (bs.map .bl)∧bs.length=m:=by
  refine lW (bq rfl rfl (iP (nJ (n:=m) rfl (by omega)) ?_))
  refine lY (n:=m) (fun k env=>∃(bs:List Bool) (c:Int) (x:Option S),env=[some (.d (.int c)),some (.d (.int m)),some (.own (bs.map .bl)),x]∧bs.length=k) ⟨[],c,none,rfl,rfl⟩ ?_ ?_
  ·rintro k hk _ ⟨bs,c,x,rfl,hl⟩
   refine ⟨_,rfl,JL rfl rfl rfl (by rw [List.length_map];omega) (iM rfl rfl ⟨_,rfl,bs++[c % 2 == 1],c / 2,_,by rw [List.map_append];rfl,by rw [List.length_append,hl];rfl⟩)⟩
  ·rintro _ ⟨ss,x,y,rfl,hl⟩
   exact bT rfl rfl ⟨_,rfl,_,rfl,hl⟩
 obtain ⟨_,h,ss,rfl,hl⟩:=key
 exact ⟨ss,h,hl⟩
theorem Ia (bs:List Bool) (m:Nat) (hm:m≤8):tV m ((List.range m).filter fun p=>bs.getD p false):=by
 refine ⟨?_,List.Pairwise.filter _ List.pairwise_lt_range,fun x hx=>?_⟩
 ·exact Nat.le_trans (List.length_filter_le _ _) (by simpa using hm)
 ·simpa using (List.mem_filter.mp hx).1
theorem HU (bs:List Bool) (m:Nat) (h1:1≤m) (hm:m≤8):pC m (((List.range (m * m)).filter fun p=>bs.getD p false).map fun p=>(p / m,p % m)):=by
 have hmm:m * m≤64:=Nat.mul_le_mul hm hm
 refine ⟨?_,?_,fun x hx=>?_⟩
 ·rw [List.length_map]
  refine Nat.le_trans (List.length_filter_le _ _) (by simpa using hmm)
 ·rw [List.pairwise_map]
  refine List.Pairwise.imp ?_ (List.Pairwise.filter _ List.pairwise_lt_range)
  intro p q hpq
  have e1:=Nat.div_add_mod p m
  have e2:=Nat.div_add_mod q m
  have h3:p / m≤q / m:=Nat.div_le_div_right (by omega)
  by_cases h:p / m < q / m
  ·exact .inl h
  ·have e:p / m=q / m:=by omega
   refine .inr ⟨e,?_⟩
   rw [e] at e1
   show p % m < q % m
   omega
 ·obtain ⟨p,hp,rfl⟩:=List.mem_map.mp hx
  have:p < m * m:=by simpa using (List.mem_filter.mp hp).1
  exact ⟨Nat.div_lt_of_lt_mul this,Nat.mod_lt _ (by omega)⟩
theorem Lg (bs:List Bool) (m k:Nat) (hl:bs.length=m) (hk:k < m):bg (.l .bor (bs.map D.bl)) (.d (.int k))=.ok (.d (.bl (bs.getD k false))):=by
 refine tY ?_
 rw [List.getElem?_map,List.getElem?_eq_getElem (by omega),List.getD_eq_getElem?_getD,List.getElem?_eq_getElem (by omega)]
 rfl
theorem w5 (bs:List Bool) (m k:Nat) (hl:bs.length=m) (hk:k < m):bg (.l .own (bs.map D.bl)) (.d (.int k))=.ok (.d (.bl (bs.getD k false))):=by
 refine tY ?_
 rw [List.getElem?_map,List.getElem?_eq_getElem (by omega),List.getD_eq_getElem?_getD,List.getElem?_eq_getElem (by omega)]
 rfl
theorem F_ (m:Nat) (h1:1≤m) (hm:m≤8) (A B:List Str) (hA:A.length≤3) (hB:B.length≤3) (cs:List Int) (hc:cs.length=6):
  ∃ms rs,eX [.d (.tup [.lst (A.map .str),.lst (B.map .str)]),.d (.int m),.bor (cs.map .int)]=.ok (.d (Wd.d ⟨m,ms,rs⟩))∧ms.map Prod.fst=A∧rs.map Prod.fst=B∧(∀r∈ms,tV m r.2)∧∀r∈rs,pC m r.2:=by
 have key:Wp (eX [.d (.tup [.lst (A.map .str),.lst (B.map .str)]),.d (.int m),.bor (cs.map .int)]) fun r=>∃ms rs,r=.d (Wd.d ⟨m,ms,rs⟩)∧ms.map Prod.fst=A∧rs.map Prod.fst=B∧(∀r∈ms,tV m r.2)∧∀r∈rs,pC m r.2:=by
  have hmm:m * m≤64:=Nat.mul_le_mul hm hm
  have tm:d8 (.d (.int m)) (.d (.int m))=.ok (.d (.int ((m * m:Nat):Int))):=by rw [rC _ _ (by omega) (by omega)];simp
  refine lW (bq rfl rfl (iP (nJ (n:=(A.map D.str).length) rfl (by rw [List.length_map];omega)) ?_))
  refine lY (n:=(A.map D.str).length) (fun k env=>∃(ms:List (Str×List Nat)) (x y:Option S),env=[some (.d (.tup [.lst (A.map .str),.lst (B.map .str)])),some (.d (.int m)),some (.bor (cs.map .int)),some (.own (ms.map e_)),x,y,none]∧ms.map Prod.fst=A.take k∧∀r∈ms,tV m r.2) ⟨[],none,none,rfl,rfl,fun _ h=>by cases h⟩ ?_ ?_
  ·rintro k hk _ ⟨ms,x,y,rfl,hf,hp⟩
   rw [List.length_map] at hk
   refine ⟨_,rfl,?_⟩
   obtain ⟨c,_,hcc⟩:=kL (xs:=cs) (h:=D.int) (.l .bor (cs.map .int)) rfl k (by omega) (by omega)
   obtain ⟨bs,hb,hbl⟩:=zu c m (by omega)
   have hlen:ms.length≤3:=by
    have:=congrArg List.length hf
    rw [List.length_map,List.length_take] at this
    omega
   refine bq (c2 (two rfl rfl hcc) rfl hb) rfl ?_
   refine jr rfl (bx (aD (two rfl rfl (show bg (.d (.lst (A.map D.str))) _=.ok (.d (.str A[k])) from ?_)) rfl (aD (n1 (yv (xs:=List.range m) (h:=dN) (fun p=>bs.getD p false) dN (vC rfl (by omega)) (by simp;omega) ?_) rfl) rfl bw)) (by show 2≤1000;decide)) rfl (by rw [List.length_map];omega) ?_
   ·show bg (.d (.lst (A.map D.str))) (.d (.int k))=_
    unfold bg
    have:(A.map D.str)[k]?=some (.str A[k]):=by rw [List.getElem?_map,List.getElem?_eq_getElem hk];rfl
    simp only [jc,aU,jx this]
   ·intro p hp'
    have hp':p < m:=by simpa using hp'
    have hb:=w5 bs m p hbl hp'
    refine ⟨?_,fun _=>⟨_,rfl,rfl⟩⟩
    show (g2 bg (af 1) (af 0) [some (.d (dN p)),some (.own (bs.map D.bl))] >>= vW)=_
    rw [two (x:=.l .own (bs.map D.bl)) (y:=.d (dN p)) rfl rfl hb]
    rfl
   ·refine ⟨_,rfl,ms++[(A[k],(List.range m).filter fun p=>bs.getD p false)],_,_,by rw [List.map_append];rfl,?_,fun r hr=>?_⟩
    ·rw [List.map_append,hf,List.take_succ,List.getElem?_eq_getElem hk]
     rfl
    ·rw [List.mem_append,List.mem_singleton] at hr
     rcases hr with h | h
     ·exact hp r h
     ·rw [h];exact Ia bs m hm
  ·rintro _ ⟨ms,x,y,rfl,hf,hp⟩
   refine bq rfl rfl (iP (nJ (n:=(B.map D.str).length) rfl (by rw [List.length_map];omega)) ?_)
   refine lY (n:=(B.map D.str).length) (fun k env=>∃(rs:List (Str×List (Nat×Nat))) (x y:Option S),env=[some (.d (.tup [.lst (A.map .str),.lst (B.map .str)])),some (.d (.int m)),some (.bor (cs.map .int)),some (.own (ms.map e_)),x,y,some (.own (rs.map gx))]∧rs.map Prod.fst=B.take k∧∀r∈rs,pC m r.2) ⟨[],_,_,rfl,rfl,fun _ h=>by cases h⟩ ?_ ?_
   ·rintro k hk _ ⟨rs,x,y,rfl,hf,hp⟩
    rw [List.length_map] at hk
    refine ⟨_,rfl,?_⟩
    obtain ⟨c,_,hcc⟩:=kL (xs:=cs) (h:=D.int) (.l .bor (cs.map .int)) rfl (3 + k) (by omega) (by omega)
    obtain ⟨bs,hb,hbl⟩:=zu c (m * m) (by omega)
    have hlen:rs.length≤3:=by
     have:=congrArg List.length hf
     rw [List.length_map,List.length_take] at this
     omega
    refine bq (c2 (two rfl rfl hcc) (two rfl rfl tm) hb) rfl ?_
    refine jr rfl (bx (aD (two rfl rfl (show bg (.d (.lst (B.map D.str))) _=.ok (.d (.str B[k])) from ?_)) rfl (aD (n1 (yv (xs:=List.range (m * m)) (h:=dN) (fun p=>bs.getD p false) (fun p=>dP (p / m,p % m)) (vC (Ad (two rfl rfl tm)) (by omega)) (by simp;omega) ?_) rfl) rfl bw)) (by show 2≤1000;decide)) rfl (by rw [List.length_map];omega) ?_
    ·show bg (.d (.lst (B.map D.str))) (.d (.int k))=_
     unfold bg
     have:(B.map D.str)[k]?=some (.str B[k]):=by rw [List.getElem?_map,List.getElem?_eq_getElem hk];rfl
     simp only [jc,aU,jx this]
    ·intro p hp'
     have hp':p < m * m:=by simpa using hp'
     have hb:=w5 bs (m * m) p hbl hp'
     refine ⟨?_,fun _=>⟨_,bx (aD (two rfl rfl (lV p m (by omega) (by omega))) rfl (aD (two rfl rfl (gM p m (by omega))) rfl bw)) (by show 2≤1000;decide),?_⟩⟩
     ·show (g2 bg (af 1) (af 0) [some (.d (dN p)),some (.own (bs.map D.bl)),some (.d (.int m))] >>= vW)=_
      rw [two (x:=.l .own (bs.map D.bl)) (y:=.d (dN p)) rfl rfl hb]
      rfl
     ·simp [toD,dP]
    ·refine ⟨_,rfl,rs++[(B[k],((List.range (m * m)).filter fun p=>bs.getD p false).map fun p=>(p / m,p % m))],_,_,by rw [List.map_append,List.map_singleton,gx,List.map_map];rfl,?_,fun r hr=>?_⟩
     ·rw [List.map_append,hf,List.take_succ,List.getElem?_eq_getElem hk]
      rfl
     ·rw [List.mem_append,List.mem_singleton] at hr
      rcases hr with h | h
      ·exact hp r h
      ·rw [h];exact HU bs m h1 hm
   ·rintro _ ⟨rs,x,y,rfl,hf2,hp2⟩
    rw [List.length_map] at hf hf2
    refine bT (bx (aD rfl rfl (aD rfl rfl (aD rfl rfl bw))) (by show 3≤1000;decide)) rfl ⟨_,rfl,ms,rs,rfl,by rw [hf,List.take_length],by rw [hf2,List.take_length],hp,hp2⟩
 obtain ⟨_,h,ms,rs,rfl,hk⟩:=key
 exact ⟨ms,rs,h,hk⟩
theorem gy (ns:List Int) (i:Int) (k:Nat) (h:i=k):bX [.bor (ns.map D.int),.d (.int i)]=.ok (.d (.int (cT ns k))):=by
 rw [h];exact zw ns k
structure fk (w:Wd):Prop where
 lo:1≤w.m
 hi:w.m≤8
 ml:w.ms.length≤3
 al:w.ar.length≤3
theorem lU (xs ys:List D) (h:xs.length + ys.length≤1000):cu (.d (.tup xs)) (.d (.tup ys))=.ok (.d (.tup (xs++ys))):=by
 show (if xs.length + ys.length≤sizeLine then M.ok (R.d (.tup (xs++ys))) else M.bad)=_
 rw [if_pos (d9 h)]
theorem DQ (m d:Nat) (hm:m≤8) (hd:d≤6):pA [.d (.int m),.d (.int d)]=.ok (.d (.int ((m ^ d:Nat):Int))):=by
 refine dI (bq rfl rfl (iP (nJ (n:=d) rfl (by omega)) ?_))
 refine lY (fun k env=>∃x:Option S,env=[some (.d (.int m)),some (.d (.int d)),some (.d (.int ((m ^ k:Nat):Int))),x]) ⟨none,rfl⟩ ?_ ?_
 ·rintro k hk _ ⟨x,rfl⟩
  refine ⟨_,rfl,_,?_,_,rfl,some (.d (.int k)),rfl⟩
  show (oV (.d (.int ((m ^ k:Nat):Int))) (.d (.int m)) >>= _)=_
  rw [show oV (.d (.int ((m ^ k:Nat):Int))) (.d (.int m))=.ok (.d (.int (((m ^ k:Nat):Int) * m))) from rC _ _ (by omega) (by omega)]
  rw [Nat.pow_succ,Int.natCast_mul]
  rfl
 ·rintro _ ⟨x,rfl⟩
  exact bT rfl rfl rfl
theorem uf (m d:Nat) (hm:m≤8) (hd:d≤6):dw [.d (.int m),.d (.int d)]=.ok (.d (.int ((m ^ d:Nat):Int))):=by
 refine dI (bq rfl rfl (iP (nJ (n:=d) rfl (by omega)) ?_))
 refine lY (fun k env=>∃x:Option S,env=[some (.d (.int m)),some (.d (.int d)),some (.d (.int ((m ^ k:Nat):Int))),x]) ⟨none,rfl⟩ ?_ ?_
 ·rintro k hk _ ⟨x,rfl⟩
  refine ⟨_,rfl,iM (two rfl rfl (rC _ _ (by omega) (by omega))) rfl ⟨_,rfl,some (.d (.int k)),?_⟩⟩
  rw [Nat.pow_succ,Int.natCast_mul]
  rfl
 ·rintro _ ⟨x,rfl⟩
  exact bT rfl rfl rfl
theorem FW (c:Int) (m:Nat) (h1:1≤m) (hm:m≤8) (most:Nat) (hmo:1≤most):∃d:Nat,gA [.d (.int c),.d (.int m),.d (.int most)]=.ok (.d (.int d))∧d≤6∧m ^ d≤most:=by
 have key:∀(n:Nat) (d:Nat),d≤6→d < n→Wp (gX (bN (g2 (j4 fun i j=>.bl (decide (j < i))) (gN (aW 2 K51.dw) (ao (af 1) (ao (af 3) aE))) (af 2))) (aX 3 (g2 mV (af 3) (gC (.int 1)))) n [some (.d (.int c)),some (.d (.int m)),some (.d (.int most)),some (.d (.int d))]) fun o=>∃d:Nat,o=.nx [some (.d (.int c)),some (.d (.int m)),some (.d (.int most)),some (.d (.int d))]∧d≤6∧m ^ d≤most:=by
  intro n
  induction n with
  | zero=>intro d _ h;omega
  | succ n ih=>
   intro d hd hn
   have ht:bN (g2 (j4 fun i j=>.bl (decide (j < i))) (gN (aW 2 K51.dw) (ao (af 1) (ao (af 3) aE))) (af 2)) [some (.d (.int c)),some (.d (.int m)),some (.d (.int most)),some (.d (.int d))]=.ok (decide ((most:Int) < ((m ^ d:Nat):Int))):=by
    show (g2 _ _ _ _ >>= _)=_
    rw [two (c2 rfl rfl (uf m d hm hd)) rfl rfl]
    rfl
   unfold gX
   rw [ht,aU]
   by_cases h:most < m ^ d
   ·have h':(most:Int) < ((m ^ d:Nat):Int):=by omega
    rw [decide_eq_true h',if_pos rfl]
    obtain ⟨d,rfl⟩:∃e,d=e + 1:=by
     cases d with
     | zero=>simp at h;omega
     | succ e=>exact ⟨e,rfl⟩
    have:=ih d (by omega) (by omega)
    show Wp (gX _ _ n [some (.d (.int c)),some (.d (.int m)),some (.d (.int most)),some (.d (.int (((d + 1:Nat):Int) - 1)))]) _
    rw [show ((d + 1:Nat):Int) - 1=(d:Int) by omega]
    exact this
   ·have h':¬(most:Int) < ((m ^ d:Nat):Int):=by omega
    rw [decide_eq_false h',if_neg (by decide)]
    exact ⟨_,rfl,d,rfl,hd,by omega⟩
 have:Wp (gA [.d (.int c),.d (.int m),.d (.int most)]) fun r=>∃d:Nat,r=.d (.int d)∧d≤6∧m ^ d≤most:=by
  refine lW (bq (two rfl rfl (gM c 7 (by decide))) rfl ?_)
  obtain ⟨d,hd⟩:∃d:Nat,c % 7=d:=⟨(c % 7).toNat,by omega⟩
  rw [hd]
  exact cJ ((key 200 d (by omega) (by omega)).mono fun o ⟨e,h1,h2⟩=>by subst h1;exact bT rfl rfl ⟨_,rfl,e,rfl,h2⟩)
 obtain ⟨_,h,w,rfl,hk⟩:=this
 exact ⟨w,h,hk⟩
def gE (w:Wd) (ah:List Nat) (l:Nat):D:=.tup [.tup (ah.map fun p=>.bl (bh (dN p) (dN l))),.tup (w.ms.map fun r=>.bl (inD (dN l) (r.2.map dN))),.tup (w.ar.map fun r=>.bl (inD (dP (l,l)) (r.2.map dP))),
 .tup (w.ar.map fun r=>.tup (ah.map fun p=>.bl (inD (dP (l,p)) (r.2.map dP)))),.tup (w.ar.map fun r=>.tup (ah.map fun p=>.bl (inD (dP (p,l)) (r.2.map dP))))]
theorem KH (l:Nat) (xs:List Nat):jm false (.d (dN l)) (.d (.tup (xs.map dN)))=.ok (.d (.bl (inD (dN l) (xs.map dN)))):=yI false _ _ (Gu xs) (Nat.zero_le _)
theorem BR (l:Nat×Nat) (xs:List (Nat×Nat)):jm false (.d (dP l)) (.d (.tup (xs.map dP)))=.ok (.d (.bl (inD (dP l) (xs.map dP)))):=yI false _ _ (zY xs) (by show (1:Nat)≤60;decide)
theorem t5:(5:Nat)≤1000:=by decide
theorem t2:(2:Nat)≤1000:=by decide
theorem FY (w:Wd) (hw:fk w) (ah:List Nat) (l:Nat) (hl:ah.length≤100):iS [.d w.d,.d (.tup ((ah++[l]).map dN))]=.ok (.d (gE w ah l)):=by
 have ml:=hw.ml
 have al:=hw.al
 refine dI (eV (b:=bN _) (show M.ok (bh (.int ((((ah++[l]).map dN).length:Nat):Int)) (.int 0))=.ok false from ?_) ?_)
 ·simp [bh];omega
 refine Iz (xs:=ah.map dN) (z:=dN l) (show M.ok (R.d (.tup ((ah++[l]).map dN)))=_ from by rw [List.map_append];rfl) (by rw [List.length_map];omega) rfl ?_
 refine qw rfl rfl rfl ?_
 refine bq (n1 (jJ (xs:=ah) (h:=dN) (fun p=>.bl (bh (dN p) (dN l))) rfl (by omega) fun p _=>⟨_,rfl,rfl⟩) rfl) rfl ?_
 refine bq (n1 (jY (xs:=w.ms) (fun r=>.str r.1) (fun r=>.tup (r.2.map dN)) (fun r=>.bl (inD (dN l) (r.2.map dN))) rfl (by omega) fun r _=>⟨_,two rfl rfl (KH l r.2),rfl⟩) rfl) rfl ?_
 refine bq (n1 (jY (xs:=w.ar) (fun r=>.str r.1) (fun r=>.tup (r.2.map dP)) (fun r=>.bl (inD (dP (l,l)) (r.2.map dP))) rfl (by omega) fun r _=>⟨_,two (bx (aD rfl rfl (aD rfl rfl bw)) t2) rfl (BR (l,l) r.2),rfl⟩) rfl) rfl ?_
 refine bq (n1 (jY (xs:=w.ar) (fun r=>.str r.1) (fun r=>.tup (r.2.map dP)) (fun r=>.tup (ah.map fun p=>.bl (inD (dP (l,p)) (r.2.map dP)))) rfl (by omega) fun r _=>⟨_,n1 (jJ (xs:=ah) (h:=dN) (fun p=>.bl (inD (dP (l,p)) (r.2.map dP))) rfl (by omega) fun p _=>⟨_,two (bx (aD rfl rfl (aD rfl rfl bw)) t2) rfl (BR (l,p) r.2),rfl⟩) rfl,rfl⟩) rfl) rfl ?_
 refine bq (n1 (jY (xs:=w.ar) (fun r=>.str r.1) (fun r=>.tup (r.2.map dP)) (fun r=>.tup (ah.map fun p=>.bl (inD (dP (p,l)) (r.2.map dP)))) rfl (by omega) fun r _=>⟨_,n1 (jJ (xs:=ah) (h:=dN) (fun p=>.bl (inD (dP (p,l)) (r.2.map dP))) rfl (by omega) fun p _=>⟨_,two (bx (aD rfl rfl (aD rfl rfl bw)) t2) rfl (BR (p,l) r.2),rfl⟩) rfl,rfl⟩) rfl) rfl ?_
 exact bT (bx (aD rfl rfl (aD rfl rfl (aD rfl rfl (aD rfl rfl (aD rfl rfl bw))))) t5) rfl rfl
theorem DN (w:Wd):iS [.d w.d,.d (.tup [])]=.ok (.d (.tup [])):=rfl
inductive Ty where
 | b | hom (t:Ty) | pr (s t:Ty) | fc
def gS:Ty→D→Prop
 | .b,d=>∃k,d=.bl k
 | .hom t,d=>∃xs,d=.tup xs∧xs.length≤1000∧∀x∈xs,gS t x
 | .pr s t,d=>∃x y,d=.tup [x,y]∧gS s x∧gS t y
 | .fc,d=>∃(a b c:List Bool) (e f:List D),d=.tup [.tup (a.map D.bl),.tup (b.map D.bl),.tup (c.map D.bl),.tup e,.tup f]∧a.length≤1000∧b.length≤1000∧c.length≤1000∧e.length≤1000∧f.length≤1000∧(∀x∈e,∃y:List Bool,x=.tup (y.map D.bl)∧y.length≤1000)∧∀x∈f,∃y:List Bool,x=.tup (y.map D.bl)∧y.length≤1000
def iW:Ty→Nat
 | .b=>0
 | .hom t=>iW t + 1
 | .pr s t=>max (iW s) (iW t) + 1
 | .fc=>3
theorem kF (ys:List Bool):dep (.tup (ys.map D.bl))≤1:=by
 have:deps (ys.map D.bl)≤0:=fm fun x hx=>by
  obtain ⟨k,_,rfl⟩:=List.mem_map.mp hx
  exact Nat.zero_le _
 simp only [dep]
 omega
theorem iz:∀{t:Ty}{d:D},gS t d→dep d≤iW t
 | .b,_,⟨k,e⟩=>by subst e;exact Nat.zero_le _
 | .hom t,_,⟨xs,e,_,h⟩=>by
  subst e
  have:=fm fun x hx=>iz (h x hx)
  simp only [dep,iW]
  omega
 | .pr s t,_,⟨x,y,e,h1,h2⟩=>by
  subst e
  have h1:=iz h1
  have h2:=iz h2
  simp only [dep,deps,iW]
  omega
 | .fc,_,⟨a,b,c,e,f,q,_,_,_,_,_,h1,h2⟩=>by
  subst q
  have ha:=kF a
  have hb:=kF b
  have hc:=kF c
  have he:deps e≤1:=fm fun x hx=>by obtain ⟨y,rfl,_⟩:=h1 x hx;exact kF y
  have hf:deps f≤1:=fm fun x hx=>by obtain ⟨y,rfl,_⟩:=h2 x hx;exact kF y
  simp only [dep,deps,iW] at *
  omega
theorem As:∀{xs ys:List D},(∀x∈xs.zip ys,(cV x.1 x.2).isSome=true)→(iN xs ys).isSome=true
 | [],_,_=>rfl
 | _::_,[],_=>rfl
 | x::xs,y::ys,h=>by
  show (if bh x y=true then iN xs ys else cV x y).isSome=true
  by_cases q:bh x y=true
  ·rw [if_pos q]
   exact As fun z hz=>h z (by rw [List.zip_cons_cons];exact List.mem_cons_of_mem _ hz)
  ·rw [if_neg q]
   exact h (x,y) (by rw [List.zip_cons_cons];exact List.mem_cons_self)
theorem jB {xs ys:List D}(h:∀x∈xs.zip ys,(cV x.1 x.2).isSome=true):(cV (.tup xs) (.tup ys)).isSome=true:=As h
theorem nv (xs ys:List Bool):(cV (.tup (xs.map D.bl)) (.tup (ys.map D.bl))).isSome=true:=jB fun z hz=>by
 obtain ⟨h1,h2⟩:=List.of_mem_zip (a:=z.1) (b:=z.2) hz
 obtain ⟨a,_,h1⟩:=List.mem_map.mp h1
 obtain ⟨b,_,h2⟩:=List.mem_map.mp h2
 rw [←h1,←h2]
 rfl
theorem nk:∀{t:Ty}{x y:D},gS t x→gS t y→(cV x y).isSome=true
 | .b,_,_,⟨k,e⟩,⟨k',e'⟩=>by subst e e';rfl
 | .hom t,_,_,⟨xs,e,_,h⟩,⟨ys,e',_,h'⟩=>by
  subst e e'
  refine jB fun z hz=>?_
  obtain ⟨h1,h2⟩:=List.of_mem_zip (a:=z.1) (b:=z.2) hz
  exact nk (h _ h1) (h' _ h2)
 | .pr s t,_,_,⟨x,y,e,h1,h2⟩,⟨x',y',e',h1',h2'⟩=>by
  subst e e'
  refine jB fun z hz=>?_
  simp only [List.zip_cons_cons,List.zip_nil_right,List.mem_cons,List.not_mem_nil,or_false] at hz
  rcases hz with rfl | rfl
  ·exact nk h1 h1'
  ·exact nk h2 h2'
 | .fc,_,_,⟨a,b,c,e,f,q,_,_,_,_,_,h1,h2⟩,⟨a',b',c',e',f',q',_,_,_,_,_,h1',h2'⟩=>by
  subst q q'
  refine jB fun z hz=>?_
  simp only [List.zip_cons_cons,List.zip_nil_right,List.mem_cons,List.not_mem_nil,or_false] at hz
  rcases hz with rfl | rfl | rfl | rfl | rfl
  ·exact nv _ _
  ·exact nv _ _
  ·exact nv _ _
  ·refine jB fun z hz=>?_
   obtain ⟨k1,k2⟩:=List.of_mem_zip (a:=z.1) (b:=z.2) hz
   obtain ⟨y,e1,_⟩:=h1 _ k1
   obtain ⟨y',e2,_⟩:=h1' _ k2
   rw [e1,e2]
   exact nv _ _
  ·refine jB fun z hz=>?_
   obtain ⟨k1,k2⟩:=List.of_mem_zip (a:=z.1) (b:=z.2) hz
   obtain ⟨y,e1,_⟩:=h2 _ k1
   obtain ⟨y',e2,_⟩:=h2' _ k2
   rw [e1,e2]
   exact nv _ _
end K51
namespace K51
open PySem DL K01 WP
open PySem.W (kas_sort)
theorem iE (ds:List D):(aQ ds).length=ds.length:=by
 unfold aQ
 by_cases h:ds.length < 2
 ·rw [if_pos h]
 ·rw [if_neg h,List.length_map]
  have:=(d7 (n:=ds.length) (by omega)).run (ltB ds)
  have:=this.size_eq
  simpa using this
theorem kc {ds:List D}{x:D}(hx:x∈aQ ds):x∈ds:=by
 unfold aQ at hx
 by_cases h:ds.length < 2
 ·rwa [if_pos h] at hx
 ·rw [if_neg h] at hx
  have hp:=(d7 (n:=ds.length) (by omega)).run (ltB ds)
  obtain ⟨i,hi,rfl⟩:=List.mem_map.mp hx
  have hi:i∈aT (ltB ds) (kas_sort ds.length):=by simpa using hi
  have:=(Array.Perm.mem_iff hp).mp hi
  exact dW (by simpa using this)
def gQ (kept:List D) (one:D):List D:=match kept.getLast? with
 | none=>kept++[one]
 | some z=>if bh z one=true then kept else kept++[one]
def dedup (xs:List D):List D:=xs.foldl gQ []
theorem D5 (k:List D) (x:D):(gQ k x).length≤k.length + 1:=by
 unfold gQ
 split
 ·simp
 ·split <;> simp
theorem D6 {k:List D}{x y:D}(h:y∈gQ k x):y∈k∨y=x:=by
 unfold gQ at h
 split at h
 ·simpa using h
 ·split at h
  ·exact .inl h
  ·simpa using h
theorem oY:∀(xs k:List D),(xs.foldl gQ k).length≤k.length + xs.length
 | [],k=>by simp
 | x::xs,k=>by
  have h1:=oY xs (gQ k x)
  have h2:=D5 k x
  simp only [List.foldl_cons,List.length_cons]
  omega
theorem oZ {y:D}:∀{xs k:List D},y∈xs.foldl gQ k→y∈k∨y∈xs
 | [],k,h=>.inl h
 | x::xs,k,h=>by
  rcases oZ (xs:=xs) h with h | h
  ·rcases D6 h with h | h
   ·exact .inl h
   ·exact .inr (h▸List.mem_cons_self)
  ·exact .inr (List.mem_cons_of_mem _ h)
theorem zX {y:D}{xs:List D}(h:y∈dedup xs):y∈xs:=by
 rcases oZ h with h | h
 ·cases h
 ·exact h
theorem rO (xs:List D):(dedup xs).length≤xs.length:=by
 have:=oY xs []
 rw [List.length_nil,Nat.zero_add] at this
 exact this
theorem zW {k:List D}{x:D}(h:k.getLast?=none∨∃z,k.getLast?=some z∧bh z x=false):gQ k x=k++[x]:=by
 unfold gQ
 rcases h with h | ⟨z,h,q⟩
 ·rw [h]
 ·rw [h];simp [q]
theorem Dr {k:List D}{x z:D}(h:k.getLast?=some z) (q:bh z x=true):gQ k x=k:=by
 unfold gQ
 rw [h];simp [q]
abbrev KP:G Bool:=mw (o6 (mZ (af 1))) (bN (g2 (cU true) (g2 bg (af 1) (yF (gC (.int 1)))) (af 2)))
theorem rX {k:List D}{z:D}(h:k.getLast?=some z):∃ys,k=ys++[z]:=by
 rcases List.eq_nil_or_concat k with rfl | ⟨ys,y,rfl⟩
 ·cases h
 ·rw [List.concat_eq_append] at h ⊢
  rw [List.getLast?_concat] at h
  cases h
  exact ⟨ys,rfl⟩
theorem ED {k:List D}{x a:D}{a0:Option S}(hk:∀z∈k,dep z≤60) (hx:dep x≤60):∃c,KP [a0,some (.own k),some (.d x)]=.ok c∧gQ k x=if c=true then k++[x] else k:=by
 cases q:k.getLast? with
 | none=>
  have:k=[]:=List.getLast?_eq_none_iff.mp q
  subst this
  exact ⟨true,rfl,rfl⟩
 | some z=>
  obtain ⟨ys,rfl⟩:=rX q
  refine ⟨!bh z x,?_,?_⟩
  ·show (o6 (mZ (af 1)) _ >>= _)=_
   rw [show o6 (mZ (af 1)) [a0,some (.own (ys++[z])),some (.d x)]=.ok false from by
    show M.ok (!(!(ys++[z]).isEmpty))=_
    simp]
   show (g2 _ _ _ _ >>= _)=_
   rw [two (x:=.d z) (y:=.d x) (two (x:=.l .own (ys++[z])) (y:=.d (.int (-1))) rfl rfl (Eo _ _ _)) rfl (nT _ _ _ (hk z (by simp)) hx)]
   rfl
  ·cases r:bh z x with
   | true=>rw [Dr q r];rfl
   | false=>rw [zW (.inr ⟨z,q,r⟩)];rfl
theorem sM (xs:List D) (k:Nat) (hk:k < xs.length):(xs.take (k + 1)).foldl gQ []=gQ ((xs.take k).foldl gQ []) xs[k]:=by
 rw [List.take_succ,List.getElem?_eq_getElem hk,List.foldl_append]
 rfl
theorem zx (xs:List D) (h:j8 xs=true) (hl:xs.length≤63) (hd:∀x∈xs,dep x≤50):dD [.bor xs]=.ok (.d (.tup (dedup (aQ xs)))):=by
 have sl:=iE xs
 have sm:∀x∈aQ xs,dep x≤50:=fun x hx=>hd x (kc hx)
 have hs:kH [.l .bor xs]=.ok (.l .fresh (aQ xs)):=by
  show (if j8 xs=true then M.ok (R.l .fresh (aQ xs)) else M.bad)=_
  rw [if_pos h]
 refine dI (bq rfl rfl (iP (ds:=aQ xs) ?_ ?_))
 ·show (gN kH (ao (af 0) aE) _ >>= _)=_
  rw [n1 (x:=.l .bor xs) rfl hs]
  rfl
 ·refine jT (fun k env=>∃x:Option S,env=[some (.bor xs),some (.own (((aQ xs).take k).foldl gQ [])),x]) (aQ xs) ⟨none,rfl⟩ ?_ ?_
  ·rintro k hk _ ⟨x,rfl⟩
   refine ⟨_,rfl,?_⟩
   have hb:∀z∈((aQ xs).take k).foldl gQ [],dep z≤50:=fun z hz=>by
    rcases oZ hz with h | h
    ·cases h
    ·exact sm z (List.mem_of_mem_take h)
   have hlen:=oY ((aQ xs).take k) []
   rw [List.length_take,List.length_nil] at hlen
   obtain ⟨c,h1,h2⟩:=ED (a:=.non) (a0:=some (.bor xs)) (fun z hz=>Nat.le_trans (hb z hz) (by decide)) (Nat.le_trans (sm _ (List.getElem_mem hk)) (by decide))
   refine BZ h1 (fun hc=>?_) fun hc=>?_
   ·rw [hc,if_pos rfl] at h2
    exact jr rfl rfl rfl (by omega) ⟨_,rfl,_,by rw [sM _ _ hk,h2];rfl⟩
   ·rw [hc,if_neg (by decide)] at h2
    exact u6 ⟨_,rfl,some (.d (aQ xs)[k]),by rw [sM _ _ hk,h2];rfl⟩
  ·rintro _ ⟨x,rfl⟩
   refine bT (r:=.d (.tup (dedup (aQ xs)))) (n1 rfl ?_) rfl rfl
   rw [List.take_length]
   rfl
end K51
namespace K51
open PySem DL K01 WP
def dS (w:Wd) (row:List Nat):D:=match row.getLast? with
 | none=>.tup []
 | some l=>gE w row.dropLast l
theorem fq (w:Wd) (ah:List Nat) (l:Nat):dS w (ah++[l])=gE w ah l:=by
 unfold dS
 rw [List.getLast?_concat,List.dropLast_concat]
theorem vD (row:List Nat):row=[]∨∃ah l,row=ah++[l]:=by
 rcases List.eq_nil_or_concat row with rfl | ⟨ys,y,rfl⟩
 ·exact .inl rfl
 ·exact .inr ⟨ys,y,List.concat_eq_append⟩
theorem wR (w:Wd) (hw:fk w) (row:List Nat) (hl:row.length≤100):iS [.d w.d,.d (.tup (row.map dN))]=.ok (.d (dS w row)):=by
 rcases vD row with rfl | ⟨ah,l,rfl⟩
 ·exact DN w
 ·rw [fq];exact FY w hw ah l (by simp at hl;omega)
def aS (w:Wd):Nat→List Nat→D
 | 0,row=>.tup [dS w row,.tup []]
 | d + 1,row=>.tup [dS w row,.tup (dedup (aQ ((List.range w.m).map fun p=>aS w d (row++[p]))))]
def subs (w:Wd) (d:Nat) (row:List Nat):List D:=(List.range w.m).map fun p=>aS w d (row++[p])
def mO (w:Wd):Nat→List Nat→D
 | 0,_=>.tup []
 | d + 1,row=>.tup (dedup (aQ (subs w d row)))
theorem iY (w:Wd) (d:Nat) (row:List Nat):aS w d row=.tup [dS w row,mO w d row]:=by
 cases d <;> rfl
def KT (f:Ty):Nat→Ty
 | 0=>.pr f (.hom .b)
 | d + 1=>.pr f (.hom (KT .fc d))
theorem pM (f:Ty) (hf:iW f≤3):∀d,iW (KT f d)≤2 * d + 4
 | 0=>by simp only [KT,iW];omega
 | d + 1=>by
  have:=pM .fc (Nat.le_refl _) d
  simp only [KT,iW]
  omega
theorem oX (w:Wd) (hw:fk w) (ah:List Nat) (l:Nat) (hl:ah.length≤100):gS .fc (gE w ah l):=by
 have ml:=hw.ml
 have al:=hw.al
 refine ⟨ah.map fun p=>bh (dN p) (dN l),w.ms.map fun r=>inD (dN l) (r.2.map dN),w.ar.map fun r=>inD (dP (l,l)) (r.2.map dP),w.ar.map fun r=>.tup (ah.map fun p=>.bl (inD (dP (l,p)) (r.2.map dP))),w.ar.map fun r=>.tup (ah.map fun p=>.bl (inD (dP (p,l)) (r.2.map dP))),?_,?_,?_,?_,?_,?_,?_,?_⟩
 ·unfold gE
  simp only [List.map_map]
  rfl
 ·simp;omega
 ·simp;omega
 ·simp;omega
 ·simp;omega
 ·simp;omega
 ·intro x hx
  obtain ⟨r,_,rfl⟩:=List.mem_map.mp hx
  exact ⟨ah.map fun p=>inD (dP (l,p)) (r.2.map dP),by rw [List.map_map];rfl,by simp;omega⟩
 ·intro x hx
  obtain ⟨r,_,rfl⟩:=List.mem_map.mp hx
  exact ⟨ah.map fun p=>inD (dP (p,l)) (r.2.map dP),by rw [List.map_map];rfl,by simp;omega⟩
theorem lG (w:Wd) (hw:fk w):∀(d:Nat) (row:List Nat) (f:Ty),row.length + d≤90→gS f (dS w row)→gS (KT f d) (aS w d row)
 | 0,row,f,_,h=>⟨_,_,rfl,h,[],rfl,by simp,fun _ h=>by cases h⟩
 | d + 1,row,f,hl,h=>by
  have hi:=hw.hi
  refine ⟨_,_,rfl,h,_,rfl,?_,fun x hx=>?_⟩
  ·have h1:=rO (aQ (subs w d row))
   rw [iE] at h1
   have h2:(subs w d row).length=w.m:=by simp [subs]
   show (dedup (aQ (subs w d row))).length≤1000
   omega
  ·obtain ⟨p,_,rfl⟩:=List.mem_map.mp (kc (zX hx))
   refine lG w hw d (row++[p]) .fc (by simp;omega) ?_
   rw [fq]
   exact oX w hw row p (by omega)
theorem i7 (w:Wd) (hw:fk w) (d:Nat) (row:List Nat) (hl:row.length + d≤80){x:D}(hx:x∈subs w d row):gS (KT .fc d) x:=by
 obtain ⟨p,_,rfl⟩:=List.mem_map.mp hx
 refine lG w hw d (row++[p]) .fc (by simp;omega) ?_
 rw [fq]
 exact oX w hw row p (by omega)
theorem qM:∀(ds:List D),(∀d∈ds,eG d=some .t)→eO .t ds=true
 | [],_=>rfl
 | d::r,h=>by
  unfold eO
  rw [h d List.mem_cons_self,qM r fun e he=>h e (List.mem_cons_of_mem _ he)]
  rfl
theorem vS (w:Wd) (d:Nat) (row:List Nat):∀x∈subs w d row,eG x=some .t:=fun x hx=>by
 obtain ⟨p,_,rfl⟩:=List.mem_map.mp hx
 show eG (aS w d (row++[p]))=some .t
 rw [iY,fq]
 rfl
theorem IE (w:Wd) (hw:fk w) (d:Nat) (row:List Nat) (hd:d≤6) (hl:row.length + d≤80):j8 (subs w d row)=true:=by
 have hi:=hw.hi
 have lo:=hw.lo
 have hn:(subs w d row).length=w.m:=by simp [subs]
 have hdp:deps (subs w d row)≤60:=fm fun x hx=>by
  have h1:=iz (i7 w hw d row hl hx)
  have h2:=pM .fc (Nat.le_refl _) d
  omega
 have hc:jd (subs w d row)=true:=by
  unfold jd
  rw [List.all_eq_true]
  intro x hx
  rw [List.all_eq_true]
  intro y hy
  exact nk (i7 w hw d row hl hx) (i7 w hw d row hl hy)
 have hh:vf (subs w d row)=true:=by
  have ha:=qM _ (vS w d row)
  have hs:=vS w d row
  generalize subs w d row=L at *
  cases L with
  | nil=>simp at hn;omega
  | cons x L=>
   show (match eG x with | some k=>eO k (x::L) | none=>false)=true
   rw [hs x List.mem_cons_self]
   exact ha
 unfold j8
 rw [hc,hh,decide_eq_true hdp,decide_eq_true (show (subs w d row).length < 64 by omega)]
 simp
theorem C9 (w:Wd) (hw:fk w) (d:Nat) (row:List Nat) (hd:d≤6) (hl:row.length + d≤80):dD [.bor (subs w d row)]=.ok (.d (.tup (dedup (aQ (subs w d row))))):=by
 have hi:=hw.hi
 refine zx _ (IE w hw d row hd hl) (by simp [subs];omega) fun x hx=>?_
 have h1:=iz (i7 w hw d row hl hx)
 have h2:=pM .fc (Nat.le_refl _) d
 omega
theorem ud (w:Wd) (hw:fk w):∀(k d:Nat) (row:List Nat),d < k→d≤6→row.length + d≤80→h_ k [.d w.d,.d (.int d),.d (.tup (row.map dN))]=.ok (.d (aS w d row))
 | 0,d,row,h,_,_=>by omega
 | k + 1,0,row,_,_,hl=>by
  refine dI (bq (c2 rfl rfl (wR w hw row (by omega))) rfl (cJ (gF rfl (bT (bx (aD rfl rfl (aD (bx bw (by decide)) rfl bw)) t2) rfl rfl))))
 | k + 1,d + 1,row,hk,h6,hl=>by
  have hi:=hw.hi
  have ih:=fun p=>ud w hw k d (row++[p]) (by omega) (by omega) (by simp;omega)
  have ih':∀p,h_ k [.d w.d,.d (.int (((d + 1:Nat):Int) - 1)),.d (.tup (row.map dN++[dN p]))]=.ok (.d (aS w d (row++[p]))):=fun p=>by
   have:=ih p
   rw [List.map_append] at this
   rw [show ((d + 1:Nat):Int) - 1=(d:Int) by omega]
   exact this
  refine dI (bq (c2 rfl rfl (wR w hw row (by omega))) rfl (eV (b:=bN _) (show M.ok (bh (.int ((d + 1:Nat):Int)) (.int 0))=.ok false from ?_) ?_))
  ·simp [bh];omega
  refine bT (bx (aD rfl rfl (aD (c1 (jJ (xs:=List.range w.m) (h:=dN) (fun p=>aS w d (row++[p])) (vC rfl (by omega)) (by simp;omega) fun p _=>⟨_,c3 rfl (two rfl rfl rfl) (two rfl (bx (aD rfl rfl bw) (by show 1≤1000;decide)) (lU _ _ (by simp;omega))) (ih' p),rfl⟩) (C9 w hw d row (by omega) (by omega))) rfl bw)) t2) rfl rfl
theorem KW (w:Wd) (hw:fk w) (row:List Nat) (hl:row.length≤60):∃f,gS f (dS w row)∧iW f≤3:=by
 rcases vD row with rfl | ⟨ah,l,rfl⟩
 ·exact ⟨.hom .b,⟨[],rfl,by decide,fun _ h=>by cases h⟩,by decide⟩
 ·exact ⟨.fc,by rw [fq];exact oX w hw ah l (by simp at hl;omega),Nat.le_refl _⟩
end K51
namespace DL
open PySem PySem.Spec PyProof.Rows L2
open PySem.W (KasT kas_sort kas_asc kas_desc kas_rev kas_tail3 kas_descPart kas_count kas_place kas_bin)
theorem run_bind {α β:Type}(q:Nat→Nat→Bool) (f:α→KasT β):∀t:KasT α,aT q (t.bind f)=aT q (f (aT q t))
 | .ret _=>rfl
 | .ask i j k=>run_bind q f (k (q i j))
theorem C4 {n:Nat}{α:Type}{P:α→Prop}{t:KasT α}{q q':Nat→Nat→Bool}(h:fh n P t) (e:∀i j,i < n→j < n→q i j=q' i j):aT q t=aT q' t:=by
 induction h with
 | ret _=>rfl
 | @ask i j k h1 h2 _ ih=>
  show aT q (k (q i j))=aT q' (k (q' i j))
  rw [e _ _ h1 h2]
  exact ih _
structure Ord (q:Nat→Nat→Bool):Prop where
 asy:∀a b,q a b=true→q b a=false
 tra:∀a b c,q b a=false→q c b=false→q c a=false
section
variable {q:Nat→Nat→Bool}{n:Nat}
abbrev bz (p:Array Nat) (k:Nat):Nat:=p.getD k 0
def Up (q:Nat→Nat→Bool) (p:Array Nat) (k:Nat):Prop:=∀i j,i≤j→j < k→q (bz p j) (bz p i)=false
def Down (q:Nat→Nat→Bool) (p:Array Nat) (k:Nat):Prop:=∀i j,i≤j→j < k→q (bz p i) (bz p j)=false
theorem Ord.nq (O:Ord q) (a:Nat):q a a=false:=by
 cases h:q a a with
 | false=>rfl
 | true=>rw [←h];exact (O.asy a a h)
theorem getD_eq {p p':Array Nat}{i j:Nat}(h:p[i]?=p'[j]?):bz p i=bz p' j:=by
 show p.getD i 0=p'.getD j 0
 rw [Array.getD_eq_getD_getElem?,Array.getD_eq_getD_getElem?,h]
theorem iJ {p:Array Nat}{i j:Nat}(hj:j≤p.size) (k:Nat):bz (kas_rev p i j) k=if i≤k∧k < j then bz p (i + j - 1 - k) else bz p k:=by
 have e:=getElem?_mirror_all (xs:=p) (i:=i) hj k
 by_cases c:i≤k∧k < j
 ·rw [if_pos c] at e ⊢;exact getD_eq e
 ·rw [if_neg c] at e ⊢;exact getD_eq e
theorem zH {p:Array Nat}{src d:Nat}(hs:src < p.size) (hd:d≤src) (k:Nat):bz (bubble p src d) k=if k=src - d then bz p src else if src - d < k∧k≤src then bz p (k - 1) else bz p k:=by
 have e:=getElem?_bubble hs d hd k
 by_cases c:k=src - d
 ·rw [if_pos c] at e ⊢;exact getD_eq e
 ·rw [if_neg c] at e ⊢
  by_cases c':src - d < k∧k≤src
  ·rw [if_pos c'] at e ⊢;exact getD_eq e
  ·rw [if_neg c'] at e ⊢;exact getD_eq e
theorem iw (p:Array Nat) (i j:Nat):(kas_rev p i j).size=p.size:=mirror_size _ _ _ _
theorem Up.one (O:Ord q) (p:Array Nat):Up q p 1:=fun i j h1 h2=>by
 have:i=j:=by omega
 rw [this];exact O.nq _
theorem Up.more (O:Ord q){p:Array Nat}{k:Nat}(h:Up q p k) (h1:1≤k) (e:q (bz p k) (bz p (k - 1))=false):Up q p (k + 1):=fun i j hi hj=>by
 by_cases c:j < k
 ·exact h i j hi c
 ·have:j=k:=by omega
  subst this
  by_cases c':i=j
  ·rw [c'];exact O.nq _
  ·exact O.tra _ _ _ (h i (j - 1) (by omega) (by omega)) e
theorem Down.more (O:Ord q){p:Array Nat}{k:Nat}(h:Down q p k) (h1:1≤k) (e:q (bz p (k - 1)) (bz p k)=false):Down q p (k + 1):=fun i j hi hj=>by
 by_cases c:j < k
 ·exact h i j hi c
 ·have:j=k:=by omega
  subst this
  by_cases c':i=j
  ·rw [c'];exact O.nq _
  ·exact O.tra _ _ _ e (h i (j - 1) (by omega) (by omega))
theorem uG (O:Ord q) (p:Array Nat):∀(f m:Nat),1≤m→Up q p m→m≤aT q (kas_asc p f m)∧aT q (kas_asc p f m)≤m + f∧Up q p (aT q (kas_asc p f m))∧(aT q (kas_asc p f m)=m + f∨q (bz p (aT q (kas_asc p f m))) (bz p (aT q (kas_asc p f m) - 1))=true)
 | 0,m,h1,h=>⟨Nat.le_refl _,Nat.le_refl _,h,.inl rfl⟩
 | f + 1,m,h1,h=>by
  have e:aT q (kas_asc p (f + 1) m)=if q (bz p m) (bz p (m - 1))=true then m else aT q (kas_asc p f (m + 1)):=by
   show aT q (if q (bz p m) (bz p (m - 1))=true then KasT.ret m else kas_asc p f (m + 1))=_
   by_cases c:q (bz p m) (bz p (m - 1))=true
   ·rw [if_pos c,if_pos c];rfl
   ·rw [if_neg c,if_neg c]
  rw [e]
  by_cases c:q (bz p m) (bz p (m - 1))=true
  ·rw [if_pos c]
   exact ⟨Nat.le_refl _,by omega,h,.inr c⟩
  ·rw [if_neg c]
   obtain ⟨a1,a2,a3,a4⟩:=uG O p f (m + 1) (by omega) (h.more O h1 (by simpa using c))
   refine ⟨by omega,by omega,a3,?_⟩
   rcases a4 with a4 | a4
   ·exact .inl (by omega)
   ·exact .inr a4
def Alike (q:Nat→Nat→Bool) (p:Array Nat) (i j:Nat):Prop:=∀a b,i≤a→a < j→i≤b→b < j→q (bz p a) (bz p b)=false
theorem sD {p:Array Nat}{i j k:Nat}(hj:j≤p.size) (ha:Alike q p i j) (hd:Down q p j) (O:Ord q):Down q (kas_rev p i j) j:=fun a b h1 h2=>by
 rw [iJ hj,iJ hj]
 by_cases c:i≤a∧a < j
 ·rw [if_pos c]
  by_cases c':i≤b∧b < j
  ·rw [if_pos c'];exact ha _ _ (by omega) (by omega) (by omega) (by omega)
  ·omega
 ·rw [if_neg c]
  by_cases c':i≤b∧b < j
  ·rw [if_pos c']
   exact hd _ _ (by omega) (by omega)
  ·rw [if_neg c'];exact hd _ _ h1 h2
theorem Ip {p:Array Nat}{j:Nat}(hj:j≤p.size) (hd:Down q p j):Up q (kas_rev p 0 j) j:=fun a b h1 h2=>by
 rw [iJ hj,iJ hj,if_pos (by omega),if_pos (by omega)]
 exact hd _ _ (by omega) (by omega)
theorem qu {p:Array Nat}{i j k:Nat}(hj:j≤p.size) (h:j≤k):bz (kas_rev p i j) k=bz p k:=by
 rw [iJ hj,if_neg (by omega)]
theorem jZ (O:Ord q):∀(f:Nat) (p:Array Nat) (m e:Nat),1≤m→e + 1≤m→m + f≤p.size→Down q p m→Alike q p (m - (e + 1)) m→
  (aT q (kas_desc f p m e)).1.size=p.size∧m≤(aT q (kas_desc f p m e)).2.1∧(aT q (kas_desc f p m e)).2.1≤m + f∧(aT q (kas_desc f p m e)).2.2 + 1≤(aT q (kas_desc f p m e)).2.1∧
  Down q (aT q (kas_desc f p m e)).1 (aT q (kas_desc f p m e)).2.1∧Alike q (aT q (kas_desc f p m e)).1 ((aT q (kas_desc f p m e)).2.1 - ((aT q (kas_desc f p m e)).2.2 + 1)) (aT q (kas_desc f p m e)).2.1
 | 0,p,m,e,h1,h2,h3,h4,h5=>⟨rfl,Nat.le_refl _,Nat.le_refl _,h2,h4,h5⟩
 | f + 1,p,m,e,h1,h2,h3,h4,h5=>by
  have solo:∀(p:Array Nat) (m:Nat),Alike q p (m + 1 - (0 + 1)) (m + 1):=fun p m a b c1 c2 c3 c4=>by
   have:a=b:=by omega
   rw [this];exact O.nq _
  cases c:q (bz p m) (bz p (m - 1)) with
  | true=>
   have c2:=O.asy _ _ c
   by_cases he:e > 0
   ·have er:aT q (kas_desc (f + 1) p m e)=aT q (kas_desc f (kas_rev p (m - (e + 1)) m) (m + 1) 0):=by
     show aT q (if q (bz p m) (bz p (m - 1))=true then _ else _)=_
     rw [if_pos c,if_pos he]
    rw [er]
    have hr:=sD (k:=0) (i:=m - (e + 1)) (by omega:m≤p.size) h5 h4 O
    have hl:bz (kas_rev p (m - (e + 1)) m) (m - 1)=bz p (m - (e + 1)):=by
     rw [iJ (by omega),if_pos (by omega)]
     congr 1;omega
    obtain ⟨a0,a1,a2,a3,a4,a5⟩:=jZ O f (kas_rev p (m - (e + 1)) m) (m + 1) 0 (by omega) (by omega) (by rw [iw];omega)
     (hr.more O h1 (by
      rw [hl,qu (by omega) (Nat.le_refl _)]
      exact O.tra _ _ _ c2 (h5 _ _ (by omega) (by omega) (by omega) (by omega)))) (solo _ _)
    rw [iw] at a0
    exact ⟨a0,by omega,by omega,a3,a4,a5⟩
   ·have er:aT q (kas_desc (f + 1) p m e)=aT q (kas_desc f p (m + 1) 0):=by
     show aT q (if q (bz p m) (bz p (m - 1))=true then _ else _)=_
     rw [if_pos c,if_neg he]
    rw [er]
    obtain ⟨a0,a1,a2,a3,a4,a5⟩:=jZ O f p (m + 1) 0 (by omega) (by omega) (by omega) (h4.more O h1 c2) (solo _ _)
    exact ⟨a0,by omega,by omega,a3,a4,a5⟩
  | false=>
   cases c2:q (bz p (m - 1)) (bz p m) with
   | true=>
    have er:aT q (kas_desc (f + 1) p m e)=(p,m,e):=by
     show aT q (if q (bz p m) (bz p (m - 1))=true then _ else _)=_
     rw [if_neg (by rw [c];decide)]
     show aT q (if q (bz p (m - 1)) (bz p m)=true then _ else _)=_
     rw [if_pos c2]
     rfl
    rw [er]
    exact ⟨rfl,Nat.le_refl _,Nat.le_add_right _ _,h2,h4,h5⟩
   | false=>
    have er:aT q (kas_desc (f + 1) p m e)=aT q (kas_desc f p (m + 1) (e + 1)):=by
     show aT q (if q (bz p m) (bz p (m - 1))=true then _ else _)=_
     rw [if_neg (by rw [c];decide)]
     show aT q (if q (bz p (m - 1)) (bz p m)=true then _ else _)=_
     rw [if_neg (by rw [c2];decide)]
    rw [er]
    have hal:Alike q p (m + 1 - (e + 1 + 1)) (m + 1):=fun a b d1 d2 d3 d4=>by
     by_cases ea:a=m
     ·subst ea
      by_cases eb:b=a
      ·rw [eb];exact O.nq _
      ·exact O.tra _ _ _ (h5 (a - 1) b (by omega) (by omega) (by omega) (by omega)) c
     ·by_cases eb:b=m
      ·subst eb
       exact O.tra _ _ _ c2 (h5 a (b - 1) (by omega) (by omega) (by omega) (by omega))
      ·exact h5 a b (by omega) (by omega) (by omega) (by omega)
    obtain ⟨a0,a1,a2,a3,a4,a5⟩:=jZ O f p (m + 1) (e + 1) (by omega) (by omega) (by omega) (h4.more O h1 c2) hal
    exact ⟨a0,by omega,by omega,a3,a4,a5⟩
def Got (q:Nat→Nat→Bool) (N s:Nat) (r:Nat×Array Nat):Prop:=r.2.size=s∧1≤r.1∧r.1≤N∧Up q r.2 r.1
theorem xW (O:Ord q){p:Array Nat}{m N:Nat}(h1:1≤m) (hm:m≤N) (hN:N≤p.size) (hd:Down q p m):Got q N p.size (aT q (kas_tail3 m N p)):=by
 unfold kas_tail3
 rw [run_bind]
 obtain ⟨a1,a2,a3,_⟩:=uG O (kas_rev p 0 m) (N - m) m h1 (Ip (by omega) hd)
 exact ⟨iw _ _ _,by show 1≤aT q (kas_asc _ _ _);omega,by show aT q (kas_asc _ _ _)≤N;omega,a3⟩
theorem xK (O:Ord q){p:Array Nat}{m N:Nat}(h1:1≤m) (hm:m + 1≤N) (hN:N≤p.size) (hd:Down q p (m + 1)):Got q N p.size (aT q (kas_descPart m N p)):=by
 unfold kas_descPart
 rw [run_bind]
 obtain ⟨a0,a1,a2,a3,a4,a5⟩:=jZ O (N - (m + 1)) p (m + 1) 0 (by omega) (by omega) (by omega) hd (fun a b c1 c2 c3 c4=>by
  have:a=b:=by omega
  rw [this];exact O.nq _)
 generalize aT q (kas_desc (N - (m + 1)) p (m + 1) 0)=r at *
 obtain ⟨p',m',e'⟩:=r
 simp only at *
 by_cases c:e' > 0
 ·rw [if_pos c]
  have:=xW (N:=N) O (p:=kas_rev p' (m' - (e' + 1)) m') (m:=m') (by omega) (by omega) (by rw [iw];omega) (sD (k:=0) (by omega) a5 a4 O)
  rw [iw,a0] at this
  exact this
 ·rw [if_neg c]
  have:=xW (N:=N) O (p:=p') (m:=m') (by omega) (by omega) (by omega) a4
  rw [a0] at this
  exact this
theorem BF (O:Ord q){p:Array Nat}{N:Nat}(h1:1≤N) (hN:N≤p.size):Got q N p.size (aT q (kas_count N p)):=by
 unfold kas_count
 rw [run_bind]
 obtain ⟨a1,a2,a3,a4⟩:=uG O p (N - 1) 1 (Nat.le_refl _) (Up.one O p)
 generalize aT q (kas_asc p (N - 1) 1)=m at *
 by_cases c:(m == N)=true
 ·rw [if_pos c]
  exact ⟨rfl,a1,by show m≤N;omega,a3⟩
 ·rw [if_neg c]
  have hm:m + 1≤N:=by
   have:m≠N:=by simpa using c
   omega
  have a4:q (bz p m) (bz p (m - 1))=true:=by
   rcases a4 with h | h
   ·omega
   ·exact h
  have a5:=O.asy _ _ a4
  by_cases c':m > 1
  ·rw [if_pos c']
   show Got q N p.size (aT q (if q (bz p 0) (bz p (m - 1))=true then _ else _))
   by_cases d:q (bz p 0) (bz p (m - 1))=true
   ·rw [if_pos d]
    exact ⟨rfl,a1,by show m≤N;omega,a3⟩
   ·rw [if_neg d]
    have d:q (bz p 0) (bz p (m - 1))=false:=by simpa using d
    have all:∀a b,a < m→b < m→q (bz p a) (bz p b)=false:=fun a b ha hb=>O.tra _ _ _ (O.tra _ _ _ (a3 b (m - 1) (by omega) (by omega)) d) (a3 0 a (by omega) (by omega))
    have hd:Down q (kas_rev p 0 m) m:=fun a b h1 h2=>by
     rw [iJ (by omega),iJ (by omega),if_pos (by omega),if_pos (by omega)]
     exact all _ _ (by omega) (by omega)
    have:=xK O (p:=kas_rev p 0 m) (m:=m) (N:=N) (by omega) hm (by rw [iw];exact hN) (hd.more O (by omega) (by
     rw [qu (by omega) (Nat.le_refl _),iJ (by omega),if_pos (by omega),show 0 + m - 1 - (m - 1)=0 by omega]
     exact O.tra _ _ _ a5 d))
    rw [iw] at this
    exact this
  ·rw [if_neg c']
   have:m=1:=by omega
   subst this
   refine xK O (Nat.le_refl _) hm hN ?_
   exact Down.more O (fun i j h1 h2=>by
    have:i=j:=by omega
    rw [this];exact O.nq _) (Nat.le_refl _) a5
theorem o_ (O:Ord q){p:Array Nat}{k:Nat}(hs:Up q p k):∀(f l r:Nat),l≤r→r≤k→r - l≤f→(∀i,i < l→q (bz p k) (bz p i)=false)→(∀i,r≤i→i < k→q (bz p k) (bz p i)=true)→
  aT q (kas_place p k f l r)≤k∧(∀i,i < aT q (kas_place p k f l r)→q (bz p k) (bz p i)=false)∧∀i,aT q (kas_place p k f l r)≤i→i < k→q (bz p k) (bz p i)=true
 | 0,l,r,h1,h2,h3,h4,h5=>⟨by show l≤k;omega,h4,fun i hi=>h5 i (by show r≤i;have:l≤i:=hi;omega)⟩
 | f + 1,l,r,h1,h2,h3,h4,h5=>by
  by_cases c:l ≥ r
  ·have e:aT q (kas_place p k (f + 1) l r)=l:=by
    unfold kas_place
    rw [if_pos c]
    rfl
   rw [e]
   exact ⟨by omega,h4,fun i hi=>h5 i (by omega)⟩
  ·cases d:q (bz p k) (bz p ((l + r) / 2)) with
   | true=>
    have e:aT q (kas_place p k (f + 1) l r)=aT q (kas_place p k f l ((l + r) / 2)):=by
     rw [kas_place,if_neg c]
     show aT q (if q (bz p k) (bz p ((l + r) / 2))=true then _ else _)=_
     rw [if_pos d]
    rw [e]
    refine o_ O hs f l ((l + r) / 2) (by omega) (by omega) (by omega) h4 fun i i1 i2=>?_
    by_cases ci:r≤i
    ·exact h5 i ci i2
    ·cases dd:q (bz p k) (bz p i) with
     | true=>rfl
     | false=>
      have:=O.tra _ _ _ (hs ((l + r) / 2) i i1 i2) dd
      rw [d] at this
      cases this
   | false=>
    have e:aT q (kas_place p k (f + 1) l r)=aT q (kas_place p k f ((l + r) / 2 + 1) r):=by
     rw [kas_place,if_neg c]
     show aT q (if q (bz p k) (bz p ((l + r) / 2))=true then _ else _)=_
     rw [if_neg (by rw [d];decide)]
    rw [e]
    refine o_ O hs f ((l + r) / 2 + 1) r (by omega) (by omega) (by omega) (fun i hi=>?_) h5
    exact O.tra _ _ _ (hs i ((l + r) / 2) (by omega) (by omega)) d
theorem Gn (O:Ord q){p:Array Nat}{k l:Nat}(hk:k < p.size) (hl:l≤k) (hs:Up q p k) (h1:∀i,i < l→q (bz p k) (bz p i)=false) (h2:∀i,l≤i→i < k→q (bz p k) (bz p i)=true):Up q (bubble p k (k - l)) (k + 1):=fun i j hi hj=>by
 rw [zH hk (by omega),zH hk (by omega),show k - (k - l)=l by omega]
 by_cases a:i=l
 ·rw [if_pos a]
  by_cases b:j=l
  ·rw [if_pos b];exact O.nq _
  ·rw [if_neg b,if_pos (by omega)]
   exact O.asy _ _ (h2 (j - 1) (by omega) (by omega))
 ·rw [if_neg a]
  by_cases b:j=l
  ·rw [if_pos b,if_neg (by omega)]
   exact h1 i (by omega)
  ·rw [if_neg b]
   by_cases a':l < i∧i≤k
   ·rw [if_pos a',if_pos (by omega)]
    exact hs _ _ (by omega) (by omega)
   ·rw [if_neg a']
    by_cases b':l < j∧j≤k
    ·rw [if_pos b']
     exact hs _ _ (by omega) (by omega)
    ·rw [if_neg b']
     exact hs _ _ hi (by omega)
theorem zJ (O:Ord q):∀(f:Nat) (p:Array Nat) (k:Nat),k + f≤p.size→Up q p k→Up q (aT q (kas_bin f p k)) (k + f)
 | 0,p,k,_,h=>h
 | f + 1,p,k,hs,h=>by
  have e:aT q (kas_bin (f + 1) p k)=aT q (kas_bin f (bubble p k (k - aT q (kas_place p k k 0 k))) (k + 1)):=by
   rw [kas_bin,run_bind]
  rw [e]
  obtain ⟨a1,a2,a3⟩:=o_ O h k 0 k (Nat.zero_le _) (Nat.le_refl _) (by omega) (fun i hi=>by omega) (fun i h1 h2=>by omega)
  have:=zJ O f (bubble p k (k - aT q (kas_place p k k 0 k))) (k + 1) (by rw [bubble_size];omega) (Gn O (by omega) a1 h a2 a3)
  rw [show k + (f + 1)=k + 1 + f by omega]
  exact this
theorem FI (O:Ord q) (n:Nat) (hn:1≤n):Up q (aT q (kas_sort n)) n:=by
 unfold kas_sort
 rw [run_bind]
 obtain ⟨a0,a1,a2,a3⟩:=BF O (p:=(List.range n).toArray) (N:=n) hn (by simp)
 generalize aT q (kas_count n (List.range n).toArray)=r at *
 have a0:r.2.size=n:=by simpa using a0
 by_cases c:r.1 < n
 ·rw [if_pos c]
  have:=zJ O (n - max r.1 1) r.2 (max r.1 1) (by omega) (by rw [show max r.1 1=r.1 by omega];exact a3)
  rwa [show max r.1 1 + (n - max r.1 1)=n by omega] at this
 ·rw [if_neg c]
  have:r.1=n:=by omega
  rw [this] at a3
  exact a3
end
end DL
namespace DL
open PySem PySem.Spec PyProof.Rows L2
open PySem.W (kas_sort)
def dh (x y:D):Bool:=(cV x y).getD false
structure dF (P:D→Prop):Prop where
 eq:∀x y,P x→P y→(bh x y=true↔x=y)
 lt:∀x y,P x→P y→(cV x y).isSome=true
 asy:∀x y,P x→P y→dh x y=true→dh y x=false
 tri:∀x y,P x→P y→dh x y=false→dh y x=false→x=y
 tra:∀x y z,P x→P y→P z→dh x y=true→dh y z=true→dh x z=true
def ig (xs ys:List D):Bool:=dh (.tup xs) (.tup ys)
theorem kN (x y:D) (xs ys:List D):ig (x::xs) (y::ys)=if bh x y=true then ig xs ys else dh x y:=by
 show (if bh x y=true then iN xs ys else cV x y).getD false=_
 by_cases h:bh x y=true
 ·rw [if_pos h,if_pos h];rfl
 ·rw [if_neg h,if_neg h];rfl
variable {P R:D→Prop}
theorem qV (xs ys:List D):bh (.tup xs) (.tup ys)=cY xs ys:=by rw [bh]
theorem nS (x y:D) (xs ys:List D):cY (x::xs) (y::ys)=(bh x y && cY xs ys):=by rw [cY]
structure jH (Q:List D→Prop):Prop where
 eq:∀x y,Q x→Q y→(cY x y=true↔x=y)
 lt:∀x y,Q x→Q y→(iN x y).isSome=true
 asy:∀x y,Q x→Q y→ig x y=true→ig y x=false
 tri:∀x y,Q x→Q y→ig x y=false→ig y x=false→x=y
 tra:∀x y z,Q x→Q y→Q z→ig x y=true→ig y z=true→ig x z=true
theorem jH.tot {Q:List D→Prop}(h:jH Q):dF fun d=>∃xs,d=.tup xs∧Q xs where
 eq:=by
  rintro _ _ ⟨x,rfl,hx⟩ ⟨y,rfl,hy⟩
  rw [qV,h.eq x y hx hy]
  exact ⟨fun e=>e▸rfl,fun e=>by cases e;rfl⟩
 lt:=by
  rintro _ _ ⟨x,rfl,hx⟩ ⟨y,rfl,hy⟩
  exact h.lt x y hx hy
 asy:=by
  rintro _ _ ⟨x,rfl,hx⟩ ⟨y,rfl,hy⟩
  exact h.asy x y hx hy
 tri:=by
  rintro _ _ ⟨x,rfl,hx⟩ ⟨y,rfl,hy⟩ h1 h2
  rw [h.tri x y hx hy h1 h2]
 tra:=by
  rintro _ _ _ ⟨x,rfl,hx⟩ ⟨y,rfl,hy⟩ ⟨z,rfl,hz⟩
  exact h.tra x y z hx hy hz
theorem xE (p:dF P){x y z:D}{r s t:List D}(px:P x) (py:P y) (pz:P z) (h:ig r s=true→ig s t=true→ig r t=true) (h1:ig (x::r) (y::s)=true) (h2:ig (y::s) (z::t)=true):ig (x::r) (z::t)=true:=by
 rw [kN] at h1 h2 ⊢
 by_cases e:x=y
 ·subst e
  rw [if_pos ((p.eq x x px px).mpr rfl)] at h1
  by_cases f:x=z
  ·subst f
   rw [if_pos ((p.eq x x px px).mpr rfl)] at h2 ⊢
   exact h h1 h2
  ·rw [if_neg fun q=>f ((p.eq x z px pz).mp q)] at h2 ⊢
   exact h2
 ·rw [if_neg fun q=>e ((p.eq x y px py).mp q)] at h1
  by_cases f:y=z
  ·subst f
   rw [if_neg fun q=>e ((p.eq x y px py).mp q)]
   exact h1
  ·rw [if_neg fun q=>f ((p.eq y z py pz).mp q)] at h2
   have h3:=p.tra x y z px py pz h1 h2
   by_cases g:x=z
   ·subst g
    have:=p.asy x x px px h3
    rw [h3] at this
    cases this
   ·rw [if_neg fun q=>g ((p.eq x z px pz).mp q)]
    exact h3
theorem jH.cons {Q:List D→Prop}(p:dF P) (h:jH Q):jH fun xs=>∃x r,xs=x::r∧P x∧Q r where
 eq:=by
  rintro _ _ ⟨x,r,rfl,px,qr⟩ ⟨y,s,rfl,py,qs⟩
  rw [nS,Bool.and_eq_true,p.eq x y px py,h.eq r s qr qs]
  exact ⟨fun e=>by rw [e.1,e.2],fun e=>by cases e;exact ⟨rfl,rfl⟩⟩
 lt:=by
  rintro _ _ ⟨x,r,rfl,px,qr⟩ ⟨y,s,rfl,py,qs⟩
  show (if bh x y=true then iN r s else cV x y).isSome=true
  split
  ·exact h.lt r s qr qs
  ·exact p.lt x y px py
 asy:=by
  rintro _ _ ⟨x,r,rfl,px,qr⟩ ⟨y,s,rfl,py,qs⟩ hl
  rw [kN] at hl ⊢
  by_cases e:x=y
  ·subst e
   rw [if_pos ((p.eq x x px px).mpr rfl)] at hl ⊢
   exact h.asy r s qr qs hl
  ·rw [if_neg fun z=>e ((p.eq x y px py).mp z)] at hl
   rw [if_neg fun z=>e ((p.eq y x py px).mp z).symm]
   exact p.asy x y px py hl
 tri:=by
  rintro _ _ ⟨x,r,rfl,px,qr⟩ ⟨y,s,rfl,py,qs⟩ h1 h2
  rw [kN] at h1 h2
  by_cases e:x=y
  ·subst e
   rw [if_pos ((p.eq x x px px).mpr rfl)] at h1 h2
   rw [h.tri r s qr qs h1 h2]
  ·rw [if_neg fun z=>e ((p.eq x y px py).mp z)] at h1
   rw [if_neg fun z=>e ((p.eq y x py px).mp z).symm] at h2
   exact absurd (p.tri x y px py h1 h2) e
 tra:=by
  rintro _ _ _ ⟨x,r,rfl,px,qr⟩ ⟨y,s,rfl,py,qs⟩ ⟨z,t,rfl,pz,qt⟩ h1 h2
  exact xE p px py pz (h.tra r s t qr qs qt) h1 h2
theorem jH.nil:jH fun xs=>xs=[] where
 eq:=by rintro _ _ rfl rfl;simp [cY]
 lt:=by rintro _ _ rfl rfl;rfl
 asy:=by rintro _ _ rfl rfl h;cases h
 tri:=by rintro _ _ rfl rfl _ _;rfl
 tra:=by rintro _ _ _ rfl rfl rfl h;cases h
theorem dF.list (p:dF P):jH fun xs=>∀x∈xs,P x where
 eq:=by
  intro xs
  induction xs with
  | nil=>intro ys _ _;cases ys <;> simp [cY]
  | cons x xs ih=>
   intro ys hx hy
   cases ys with
   | nil=>simp [cY]
   | cons y ys=>
    rw [nS,Bool.and_eq_true,p.eq x y (hx x List.mem_cons_self) (hy y List.mem_cons_self),ih ys (fun z hz=>hx z (List.mem_cons_of_mem _ hz)) fun z hz=>hy z (List.mem_cons_of_mem _ hz)]
    exact ⟨fun e=>by rw [e.1,e.2],fun e=>by cases e;exact ⟨rfl,rfl⟩⟩
 lt:=by
  intro xs
  induction xs with
  | nil=>intro ys _ _;rfl
  | cons x xs ih=>
   intro ys hx hy
   cases ys with
   | nil=>rfl
   | cons y ys=>
    show (if bh x y=true then iN xs ys else cV x y).isSome=true
    split
    ·exact ih ys (fun z hz=>hx z (List.mem_cons_of_mem _ hz)) fun z hz=>hy z (List.mem_cons_of_mem _ hz)
    ·exact p.lt x y (hx x List.mem_cons_self) (hy y List.mem_cons_self)
 asy:=by
  intro xs
  induction xs with
  | nil=>
   intro ys _ _ h
   cases ys with
   | nil=>cases h
   | cons y ys=>rfl
  | cons x xs ih=>
   intro ys hx hy hl
   cases ys with
   | nil=>cases hl
   | cons y ys=>
    have px:=hx x List.mem_cons_self
    have py:=hy y List.mem_cons_self
    rw [kN] at hl ⊢
    by_cases e:x=y
    ·subst e
     rw [if_pos ((p.eq x x px px).mpr rfl)] at hl ⊢
     exact ih ys (fun z hz=>hx z (List.mem_cons_of_mem _ hz)) (fun z hz=>hy z (List.mem_cons_of_mem _ hz)) hl
    ·rw [if_neg fun z=>e ((p.eq x y px py).mp z)] at hl
     rw [if_neg fun z=>e ((p.eq y x py px).mp z).symm]
     exact p.asy x y px py hl
 tri:=by
  intro xs
  induction xs with
  | nil=>
   intro ys _ _ h1 h2
   cases ys with
   | nil=>rfl
   | cons y ys=>cases h1
  | cons x xs ih=>
   intro ys hx hy h1 h2
   cases ys with
   | nil=>cases h2
   | cons y ys=>
    have px:=hx x List.mem_cons_self
    have py:=hy y List.mem_cons_self
    rw [kN] at h1 h2
    by_cases e:x=y
    ·subst e
     rw [if_pos ((p.eq x x px px).mpr rfl)] at h1 h2
     rw [ih ys (fun z hz=>hx z (List.mem_cons_of_mem _ hz)) (fun z hz=>hy z (List.mem_cons_of_mem _ hz)) h1 h2]
    ·rw [if_neg fun z=>e ((p.eq x y px py).mp z)] at h1
     rw [if_neg fun z=>e ((p.eq y x py px).mp z).symm] at h2
     exact absurd (p.tri x y px py h1 h2) e
 tra:=by
  intro xs
  induction xs with
  | nil=>
   intro ys zs _ _ _ h1 h2
   cases ys with
   | nil=>cases h1
   | cons y ys=>
    cases zs with
    | nil=>cases h2
    | cons z zs=>rfl
  | cons x xs ih=>
   intro ys zs hx hy hz h1 h2
   cases ys with
   | nil=>cases h1
   | cons y ys=>
    cases zs with
    | nil=>cases h2
    | cons z zs=>
     have px:=hx x List.mem_cons_self
     have py:=hy y List.mem_cons_self
     have pz:=hz z List.mem_cons_self
     exact xE p px py pz (ih ys zs (fun z hz=>hx z (List.mem_cons_of_mem _ hz)) (fun z hz=>hy z (List.mem_cons_of_mem _ hz)) fun w hw=>hz w (List.mem_cons_of_mem _ hw)) h1 h2
theorem JX:dF fun d=>∃k,d=.bl k where
 eq:=by rintro _ _ ⟨x,rfl⟩ ⟨y,rfl⟩;simp [bh]
 lt:=by rintro _ _ ⟨x,rfl⟩ ⟨y,rfl⟩;rfl
 asy:=by rintro _ _ ⟨x,rfl⟩ ⟨y,rfl⟩;revert x y;decide
 tri:=by
  rintro _ _ ⟨x,rfl⟩ ⟨y,rfl⟩ h1 h2
  revert h1 h2
  cases x <;> cases y <;> intro h1 h2
  ·rfl
  ·exact absurd h1 (by decide)
  ·exact absurd h2 (by decide)
  ·rfl
 tra:=by rintro _ _ _ ⟨x,rfl⟩ ⟨y,rfl⟩ ⟨z,rfl⟩;revert x y z;decide
theorem nV (x y:Int):dh (.int x) (.int y)=decide (x < y):=rfl
theorem JY:dF fun d=>∃k,d=.int k where
 eq:=by rintro _ _ ⟨x,rfl⟩ ⟨y,rfl⟩;simp [bh]
 lt:=by rintro _ _ ⟨x,rfl⟩ ⟨y,rfl⟩;rfl
 asy:=by
  rintro _ _ ⟨x,rfl⟩ ⟨y,rfl⟩ h
  rw [nV,decide_eq_true_eq] at h
  rw [nV,decide_eq_false_iff_not]
  omega
 tri:=by
  rintro _ _ ⟨x,rfl⟩ ⟨y,rfl⟩ h1 h2
  rw [nV,decide_eq_false_iff_not] at h1 h2
  rw [show x=y by omega]
 tra:=by
  rintro _ _ _ ⟨x,rfl⟩ ⟨y,rfl⟩ ⟨z,rfl⟩ h1 h2
  rw [nV,decide_eq_true_eq] at h1 h2 ⊢
  omega
theorem nW (x y:Str):dh (.str x) (.str y)=decide (x.cps.toList < y.cps.toList):=rfl
theorem FL {x y:Str}(h:x.cps.toList=y.cps.toList):x=y:=by
 obtain ⟨⟨cx⟩⟩:=x
 obtain ⟨⟨cy⟩⟩:=y
 simp only at h
 rw [h]
theorem JZ:dF fun d=>∃k,d=.str k where
 eq:=by rintro _ _ ⟨x,rfl⟩ ⟨y,rfl⟩;simp [bh]
 lt:=by rintro _ _ ⟨x,rfl⟩ ⟨y,rfl⟩;rfl
 asy:=by
  rintro _ _ ⟨x,rfl⟩ ⟨y,rfl⟩ h
  rw [nW,decide_eq_true_eq] at h
  rw [nW,decide_eq_false_iff_not]
  exact List.lt_asymm h
 tri:=by
  rintro _ _ ⟨x,rfl⟩ ⟨y,rfl⟩ h1 h2
  rw [nW,decide_eq_false_iff_not] at h1 h2
  rw [FL (List.le_antisymm h2 h1)]
 tra:=by
  rintro _ _ _ ⟨x,rfl⟩ ⟨y,rfl⟩ ⟨z,rfl⟩ h1 h2
  rw [nW,decide_eq_true_eq] at h1 h2 ⊢
  exact List.lt_trans h1 h2
inductive Fm where
 | b | i | s | hom (t:Fm) | tn | tc (x r:Fm)
def ji:Fm→D→Prop
 | .b,d=>∃k,d=.bl k
 | .i,d=>∃k,d=.int k
 | .s,d=>∃k,d=.str k
 | .hom t,d=>∃xs,d=.tup xs∧∀x∈xs,ji t x
 | .tn,d=>∃xs,d=.tup xs∧xs=[]
 | .tc x r,d=>∃xs,d=.tup xs∧∃y ys,xs=y::ys∧ji x y∧ji r (.tup ys)
theorem dF.tail {Q:List D→Prop}(h:dF R) (k:∀xs,Q xs→R (.tup xs)):jH Q where
 eq:=fun x y hx hy=>by
  have:=h.eq _ _ (k x hx) (k y hy)
  rw [qV] at this
  rw [this]
  exact ⟨fun e=>by cases e;rfl,fun e=>e▸rfl⟩
 lt:=fun x y hx hy=>h.lt _ _ (k x hx) (k y hy)
 asy:=fun x y hx hy=>h.asy _ _ (k x hx) (k y hy)
 tri:=fun x y hx hy h1 h2=>by
  have:=h.tri _ _ (k x hx) (k y hy) h1 h2
  cases this;rfl
 tra:=fun x y z hx hy hz=>h.tra _ _ _ (k x hx) (k y hy) (k z hz)
theorem gO:∀t:Fm,dF (ji t)
 | .b=>JX
 | .i=>JY
 | .s=>JZ
 | .hom t=>(gO t).list.tot
 | .tn=>jH.nil.tot
 | .tc x r=>(jH.cons (gO x) (dF.tail (Q:=fun ys=>ji r (.tup ys)) (gO r) fun _ h=>h)).tot
theorem JO (ds:List D):(aQ ds).length=ds.length:=by
 unfold aQ
 by_cases h:ds.length < 2
 ·rw [if_pos h]
 ·rw [if_neg h,List.length_map]
  have:=((d7 (n:=ds.length) (by omega)).run (ltB ds)).size_eq
  simpa using this
theorem EB (ds:List D):(List.range ds.length).map (cH ds)=ds:=by
 refine List.ext_getElem (by simp) fun i h1 h2=>?_
 rw [List.getElem_map,List.getElem_range]
 unfold cH
 rw [List.getD_eq_getElem?_getD,List.getElem?_eq_getElem h2]
 rfl
theorem gK (ds:List D):(aQ ds).Perm ds:=by
 unfold aQ
 by_cases h:ds.length < 2
 ·rw [if_pos h]
 ·rw [if_neg h]
  have hp:=(d7 (n:=ds.length) (by omega)).run (ltB ds)
  have hq:(aT (ltB ds) (kas_sort ds.length)).toList.Perm (List.range ds.length):=by
   have:=Array.perm_iff_toList_perm.mp hp
   simpa using this
  have:=hq.map (cH ds)
  rwa [EB] at this
theorem vP (p:dF P) (ds:List D) (h:∀x∈ds,P x):(aQ ds).Pairwise fun x y=>dh y x=false:=by
 unfold aQ
 by_cases h2:ds.length < 2
 ·rw [if_pos h2]
  match ds,h2 with
  | [],_=>exact .nil
  | [x],_=>exact List.pairwise_singleton _ _
 ·rw [if_neg h2]
  have hn:0 < ds.length:=by omega
  have hb:=d7 (n:=ds.length) hn
  have at_P:∀i,i < ds.length→P (cH ds i):=fun i hi=>h _ (dW hi)
  let q':Nat→Nat→Bool:=fun i j=>if i < ds.length then (if j < ds.length then ltB ds i j else true) else false
  have hq:aT (ltB ds) (kas_sort ds.length)=aT q' (kas_sort ds.length):=C4 hb fun i j hi hj=>by simp [q',hi,hj]
  have O:Ord q':=by
   constructor
   ·intro a b hab
    by_cases ha:a < ds.length <;> by_cases hb:b < ds.length <;> simp [q',ha,hb] at hab ⊢
    exact p.asy _ _ (at_P a ha) (at_P b hb) hab
   ·intro a b c hab hbc
    by_cases ha:a < ds.length <;> by_cases hb:b < ds.length <;> by_cases hc:c < ds.length <;> simp [q',ha,hb,hc] at hab hbc ⊢
    have h1:dh (cH ds b) (cH ds a)=false:=hab
    have h2:dh (cH ds c) (cH ds b)=false:=hbc
    show dh (cH ds c) (cH ds a)=false
    cases g:dh (cH ds c) (cH ds a) with
    | false=>rfl
    | true=>
     have pa:=at_P a ha
     have pb:=at_P b hb
     have pc:=at_P c hc
     cases g2:dh (cH ds a) (cH ds b) with
     | true=>
      have:=p.tra _ _ _ pc pa pb g g2
      rw [this] at h2;cases h2
     | false=>
      rw [←p.tri _ _ pb pa h1 g2] at g
      rw [g] at h2;cases h2
  have up:=FI O ds.length (by omega)
  have hs:=(hb.run (ltB ds))
  rw [hq] at hs ⊢
  have hsz:(aT q' (kas_sort ds.length)).size=ds.length:=by simpa using hs.size_eq
  generalize aT q' (kas_sort ds.length)=A at *
  rw [List.pairwise_map,List.pairwise_iff_getElem]
  intro i j hi hj hij
  rw [Array.length_toList] at hi hj
  have:=up i j (by omega) (by omega)
  have e:∀k (hk:k < A.size),bz A k=A.toList[k]'(by rw [Array.length_toList];exact hk):=fun k hk=>by
   show A.getD k 0=_
   simp [Array.getD,hk]
  rw [e i hi,e j hj] at this
  have l:∀k (hk:k < A.size),A.toList[k]'(by rw [Array.length_toList];exact hk) < ds.length:=fun k hk=>by
   rw [←e k hk];exact hs.lt hn k
  have li:=l i hi
  have lj:=l j hj
  simp only [q',li,lj,if_true] at this
  exact this
end DL
namespace K52
open PySem DL
def qJ:List Str:=["told","depth"]
def kJ:G O:=(aK (aX 1 (gC (.int 0)))
 (aK (m9 200 (bN (g2 (cU true) (g2 bg (af 0) (gC (.int 1))) (bC aR))) (aK (aX 0 (g2 bg (g2 bg (af 0) (gC (.int 1))) (gC (.int 0))))
 (kj 1 qW (gC (.int 1)))))
 (bU (af 1))))
def gD (as:List S):M R:=fin (kJ (bD qJ as))
end K52
namespace K52
open PySem DL K01 WP K51
variable {P:D→Prop}
theorem Ji (p:dF P){x y:D}(px:P x) (py:P y) (h:dh y x=false) (n:x≠y):dh x y=true:=by
 cases g:dh x y with
 | true=>rfl
 | false=>exact absurd (p.tri x y px py g h) n
theorem nq (p:dF P){x:D}(px:P x):dh x x=false:=by
 cases g:dh x x with
 | false=>rfl
 | true=>have:=p.asy x x px px g;rw [g] at this;cases this
theorem i_ (p:dF P):∀(xs k:List D),(∀x∈k,P x)→(∀x∈xs,P x)→k.Pairwise (fun a b=>dh a b=true)→(∀a∈k,∀x∈xs,dh x a=false)→xs.Pairwise (fun a b=>dh b a=false)→
  (xs.foldl gQ k).Pairwise (fun a b=>dh a b=true)∧∀y,y∈xs.foldl gQ k↔y∈k∨y∈xs
 | [],k,_,_,hs,_,_=>⟨hs,fun y=>by simp⟩
 | x::xs,k,hk,hx,hs,hc,hp=>by
  have px:=hx x List.mem_cons_self
  have hx':∀y∈xs,P y:=fun y hy=>hx y (List.mem_cons_of_mem _ hy)
  obtain ⟨p1,p2⟩:=List.pairwise_cons.mp hp
  rw [List.foldl_cons]
  cases q:k.getLast? with
  | none=>
   have hk0:k=[]:=List.getLast?_eq_none_iff.mp q
   subst hk0
   obtain ⟨a1,a2⟩:=i_ p xs [x] (fun y hy=>by rw [List.mem_singleton.mp hy];exact px) hx' (List.pairwise_singleton _ _) (fun a ha y hy=>by rw [List.mem_singleton.mp ha];exact p1 y hy) p2
   exact ⟨a1,fun y=>by rw [show gQ [] x=[x] from rfl,a2];simp⟩
  | some z=>
   obtain ⟨ys,rfl⟩:=rX q
   have pz:=hk z (by simp)
   by_cases e:z=x
   ·subst e
    rw [Dr q ((p.eq z z pz pz).mpr rfl)]
    obtain ⟨a1,a2⟩:=i_ p xs (ys++[z]) hk hx' hs (fun a ha y hy=>hc a ha y (List.mem_cons_of_mem _ hy)) p2
    refine ⟨a1,fun y=>?_⟩
    rw [a2]
    simp only [List.mem_append,List.mem_cons,List.not_mem_nil,or_false]
    constructor
    ·rintro (h | h)
     ·exact .inl h
     ·exact .inr (.inr h)
    ·rintro (h | h | h)
     ·exact .inl h
     ·exact .inl (.inr h)
     ·exact .inr h
   ·have hne:bh z x=false:=by
     cases g:bh z x with
     | false=>rfl
     | true=>exact absurd ((p.eq z x pz px).mp g) e
    rw [zW (.inr ⟨z,q,hne⟩)]
    have hzx:=Ji p pz px (hc z (by simp) x List.mem_cons_self) e
    have hall:∀a∈ys++[z],dh a x=true:=fun a ha=>by
     rcases List.mem_append.mp ha with h | h
     ·have:=(List.pairwise_append.mp hs).2.2 a h z (by simp)
      exact p.tra a z x (hk a ha) pz px this hzx
     ·rw [List.mem_singleton.mp h];exact hzx
    obtain ⟨a1,a2⟩:=i_ p xs (ys++[z]++[x]) (fun y hy=>by
      rcases List.mem_append.mp hy with h | h
      ·exact hk y h
      ·rw [List.mem_singleton.mp h];exact px) hx' (List.pairwise_append.mpr ⟨hs,List.pairwise_singleton _ _,fun a ha b hb=>by rw [List.mem_singleton.mp hb];exact hall a ha⟩)
     (fun a ha y hy=>by
      rcases List.mem_append.mp ha with h | h
      ·exact hc a h y (List.mem_cons_of_mem _ hy)
      ·rw [List.mem_singleton.mp h];exact p1 y hy) p2
    refine ⟨a1,fun y=>?_⟩
    rw [a2]
    simp only [List.mem_append,List.mem_cons,List.not_mem_nil,or_false]
    constructor
    ·rintro ((h | h) | h)
     ·exact .inl h
     ·exact .inr (.inl h)
     ·exact .inr (.inr h)
    ·rintro (h | h | h)
     ·exact .inl (.inl h)
     ·exact .inl (.inr h)
     ·exact .inr h
theorem lq (p:dF P) (L:List D) (h:∀x∈L,P x):(dedup (aQ L)).Pairwise (fun a b=>dh a b=true)∧∀y,y∈dedup (aQ L)↔y∈L:=by
 have hm:∀x,x∈aQ L↔x∈L:=fun x=>(gK L).mem_iff
 obtain ⟨a1,a2⟩:=i_ p (aQ L) [] (fun _ z=>by cases z) (fun x hx=>h x ((hm x).mp hx)) .nil (fun _ z=>by cases z) (vP p L h)
 exact ⟨a1,fun y=>by rw [show dedup (aQ L)=(aQ L).foldl gQ [] from rfl,a2,hm];simp⟩
theorem qB (p:dF P):∀{A B:List D},(∀x∈A,P x)→A.Pairwise (fun a b=>dh a b=true)→B.Pairwise (fun a b=>dh a b=true)→(∀y,y∈A↔y∈B)→A=B
 | [],[],_,_,_,_=>rfl
 | [],b::B,_,_,_,h=>by have:=(h b).mpr List.mem_cons_self;cases this
 | a::A,[],_,_,_,h=>by have:=(h a).mp List.mem_cons_self;cases this
 | a::A,b::B,hp,hA,hB,h=>by
  obtain ⟨a1,a2⟩:=List.pairwise_cons.mp hA
  obtain ⟨b1,b2⟩:=List.pairwise_cons.mp hB
  have pa:=hp a List.mem_cons_self
  have pb:=hp b ((h b).mpr List.mem_cons_self)
  have e:a=b:=by
   rcases List.mem_cons.mp ((h a).mp List.mem_cons_self) with e | e
   ·exact e
   ·rcases List.mem_cons.mp ((h b).mpr List.mem_cons_self) with f | f
    ·exact f.symm
    ·have:=p.asy _ _ pa pb (a1 b f)
     rw [b1 a e] at this
     cases this
  subst e
  have:A=B:=by
   refine qB p (fun x hx=>hp x (List.mem_cons_of_mem _ hx)) a2 b2 fun y=>⟨fun hy=>?_,fun hy=>?_⟩
   ·rcases List.mem_cons.mp ((h y).mp (List.mem_cons_of_mem _ hy)) with e | e
    ·subst e
     have:=a1 y hy
     rw [nq p pa] at this;cases this
    ·exact e
   ·rcases List.mem_cons.mp ((h y).mpr (List.mem_cons_of_mem _ hy)) with e | e
    ·subst e
     have:=b1 y hy
     rw [nq p pa] at this;cases this
    ·exact e
  rw [this]
theorem Ce (p:dF P){A B:List D}(hA:∀x∈A,P x) (h:∀y,y∈A↔y∈B):dedup (aQ A)=dedup (aQ B):=by
 obtain ⟨a1,a2⟩:=lq p A hA
 obtain ⟨b1,b2⟩:=lq p B fun x hx=>hA x ((h x).mpr hx)
 exact qB p (fun x hx=>hA x ((a2 x).mp hx)) a1 b1 fun y=>by rw [a2,b2,h]
def toF:Ty→Fm
 | .b=>.b
 | .hom t=>.hom (toF t)
 | .pr s t=>.tc (toF s) (.tc (toF t) .tn)
 | .fc=>.tc (.hom .b) (.tc (.hom .b) (.tc (.hom .b) (.tc (.hom (.hom .b)) (.tc (.hom (.hom .b)) .tn))))
theorem pH (ys:List Bool):ji (.hom .b) (.tup (ys.map D.bl)):=⟨_,rfl,fun x hx=>by
 obtain ⟨k,_,rfl⟩:=List.mem_map.mp hx
 exact ⟨k,rfl⟩⟩
theorem gm:∀{t:Ty}{d:D},gS t d→ji (toF t) d
 | .b,_,h=>h
 | .hom t,_,⟨xs,e,_,h⟩=>⟨xs,e,fun x hx=>gm (h x hx)⟩
 | .pr s t,_,⟨x,y,e,h1,h2⟩=>⟨_,e,x,[y],rfl,gm h1,_,rfl,y,[],rfl,gm h2,[],rfl,rfl⟩
 | .fc,_,⟨a,b,c,e,f,q,_,_,_,_,_,h1,h2⟩=>⟨_,q,_,_,rfl,pH a,_,rfl,_,_,rfl,pH b,_,rfl,_,_,rfl,pH c,_,rfl,_,_,rfl,⟨_,rfl,fun x hx=>by
   obtain ⟨y,rfl,_⟩:=h1 x hx;exact pH y⟩,_,rfl,_,_,rfl,⟨_,rfl,fun x hx=>by
   obtain ⟨y,rfl,_⟩:=h2 x hx;exact pH y⟩,[],rfl,rfl⟩
theorem ua (t:Ty):dF (gS t) where
 eq:=fun x y hx hy=>(gO (toF t)).eq x y (gm hx) (gm hy)
 lt:=fun x y hx hy=>(gO (toF t)).lt x y (gm hx) (gm hy)
 asy:=fun x y hx hy=>(gO (toF t)).asy x y (gm hx) (gm hy)
 tri:=fun x y hx hy=>(gO (toF t)).tri x y (gm hx) (gm hy)
 tra:=fun x y z hx hy hz=>(gO (toF t)).tra x y z (gm hx) (gm hy) (gm hz)
theorem G0 {t:Ty}{L:List D}(h:∀x∈L,gS t x) (hd:∀x∈L,eG x=some .t) (hl:L.length < 64) (ht:iW t≤60):j8 L=true:=by
 have hdp:deps L≤60:=fm fun x hx=>Nat.le_trans (iz (h x hx)) ht
 have hc:jd L=true:=by
  unfold jd
  rw [List.all_eq_true]
  intro x hx
  rw [List.all_eq_true]
  intro y hy
  exact nk (h x hx) (h y hy)
 unfold j8
 rw [hc,decide_eq_true hdp,decide_eq_true hl]
 cases L with
 | nil=>rfl
 | cons x L=>
  have hh:vf (x::L)=true:=by
   show (match eG x with | some k=>eO k (x::L) | none=>false)=true
   rw [hd x List.mem_cons_self]
   exact qM _ hd
  rw [hh]
  simp
theorem xF {α:Type}(Q:α→Prop) (g:α→D):∀{L:List D},(∀x∈L,∃p,Q p∧x=g p)→∃ps:List α,L=ps.map g∧∀p∈ps,Q p
 | [],_=>⟨[],rfl,fun _ h=>by cases h⟩
 | x::L,h=>by
  obtain ⟨p,hp,e⟩:=h x List.mem_cons_self
  obtain ⟨ps,e2,h2⟩:=xF Q g (L:=L) fun y hy=>h y (List.mem_cons_of_mem _ hy)
  exact ⟨p::ps,by rw [e,e2];rfl,fun q hq=>by
   rcases List.mem_cons.mp hq with rfl | hq
   ·exact hp
   ·exact h2 q hq⟩
theorem uI (w:Wd) (hw:fk w) (d:Nat) (row:List Nat) (hl:row.length + d≤80):∃p ps,dedup (aQ (subs w d row))=(p::ps).map (fun p=>aS w d (row++[p]))∧∀q∈p::ps,q < w.m:=by
 obtain ⟨_,hm⟩:=lq (ua (KT .fc d)) (subs w d row) fun x hx=>i7 w hw d row hl hx
 obtain ⟨ps,e,h⟩:=xF (fun p=>p < w.m) (fun p=>aS w d (row++[p])) (L:=dedup (aQ (subs w d row))) fun x hx=>by
  obtain ⟨p,hp,rfl⟩:=List.mem_map.mp ((hm x).mp hx)
  exact ⟨p,by simpa using hp,rfl⟩
 cases ps with
 | nil=>
  have lo:=hw.lo
  have:=(hm (aS w d (row++[0]))).mpr (List.mem_map.mpr ⟨0,by simp;omega,rfl⟩)
  rw [e] at this
  cases this
 | cons p ps=>exact ⟨p,ps,e,h⟩
theorem GQ (w:Wd) (hw:fk w) (d:Nat) (row:List Nat) (hd:d≤6) (hl:row.length≤60):dep (aS w d row)≤30:=by
 obtain ⟨f,hf,df⟩:=KW w hw row hl
 have h1:=iz (lG w hw d row f (by omega) hf)
 have h2:=pM f df d
 omega
theorem Ky (w:Wd) (hw:fk w) (d:Nat) (row:List Nat) (hd:d≤6) (hl:row.length≤60):dep (mO w d row)≤30:=by
 have:=GQ w hw d row hd hl
 rw [iY] at this
 simp only [dep,deps] at this
 omega
theorem DM (w:Wd) (hw:fk w) (d:Nat) (row:List Nat) (hd:d≤6) (hl:row.length≤40):gD [.d (aS w d row)]=.ok (.d (.int d)):=by
 refine dI (bq rfl rfl (FD (fun k env=>∃(row:List Nat) (e:Nat),env=[some (.d (aS w k row)),some (.d (.int e))]∧e + k=d∧k≤6∧row.length + k≤50) d (by omega) ⟨row,0,rfl,by omega,hd,by omega⟩ ?_))
 rintro k _ ⟨row,e,rfl,he,hk,hl⟩
 have hb:=Ky w hw k row hk (by omega)
 rw [iY]
 have ht:bN (g2 (cU true) (g2 bg (af 0) (gC (.int 1))) (bC aR)) [some (.d (.tup [dS w row,mO w k row])),some (.d (.int e))]=.ok (!bh (mO w k row) (.tup [])):=by
  show (g2 _ _ _ _ >>= _)=_
  rw [two (x:=.d (mO w k row)) (y:=.d (.tup [])) (two rfl rfl (rT _ _ _)) rfl (nT _ _ _ (by show dep (mO w k row)≤60;omega) (by show (1:Nat)≤60;decide))]
  rfl
 cases k with
 | zero=>exact .inl ⟨ht,bT rfl rfl (by rw [←he];rfl)⟩
 | succ k=>
  obtain ⟨p,ps,e1,_⟩:=uI w hw k row (by omega)
  have eb:mO w (k + 1) row=.tup (aS w k (row++[p])::ps.map fun p=>aS w k (row++[p])):=by
   show D.tup (dedup (aQ (subs w k row)))=_
   rw [e1];rfl
  rw [eb] at ht ⊢
  rw [show bh (.tup (aS w k (row++[p])::ps.map fun p=>aS w k (row++[p]))) (.tup [])=false by rw [bh,cY];all_goals simp] at ht
  refine .inr ⟨ht,bq (two (two rfl rfl (rT _ _ _)) rfl (jM _ _)) rfl (Jg rfl rfl rfl rfl ⟨k,Nat.lt_succ_self k,row++[p],e + 1,rfl,by omega,by omega,by simp;omega⟩)⟩
end K52
namespace DL
open PySem PySem.Spec PyProof.Rows L2
section
variable {w:World}{prog:Program}{A:Around}{s:Shared}{E:Value→Shared→Prop}
theorem D9 {e it l:Addr}{k:Nat}{vals:Array Value}{x old:Value}{S:Nat→Heap→Prop}{Q:Value→Shared→Prop}(N:gR prog w it l vals S) (he:IsEnum s.heap e it k old) (st:S k s.heap) (hx:vals[k]?=some x) (hne:e≠it) (hle:l≠e)
  (hQ:∀h',IsEnumOut h' e it ((k:Int) + 1) x s.heap.objs.size→S (k + 1) h'→h'.get? s.heap.objs.size=some {cls:=.type "tuple",data:=.seq #[.int k s.toks,x]}→
   (∀(b:Addr) o,b≠e→b≠it→s.heap.get? b=some o→h'.get? b=some o)→Q (.ref s.heap.objs.size) {s with heap:=h',toks:=s.toks + 1}):
  (wpAny (model prog w) A (Builtin.«enumerate.__next__» ⟨[.ref e],[]⟩) (fun fin s'=>∃v,fin=.done (.ret v)∧Q v s') E s):=by
 have move:∀{m:Nat}{h h':Heap},S m h→Heap.SameBut e h h'→S m h':=fun st sb=>N.keep _ _ _ st (fun o z=>sb.extBut _ _ (Ne.symm hne) z) fun o z=>sb.extBut _ _ hle z
 (obtain ⟨hp,g,d,tk,os⟩:=s)
 (show wpAny _ _ (field (.ref e) 2 >>= _) _ _ _)
 (refine wpAny_bind (wpAny_field he rfl (x:=.ref it) rfl ?_))
 refine wpAny_bind (N.item _ _ k x _ _ st hx fun g1 st1 b1=>?_)
 replace b1:Heap.SameBut it hp g1:=b1
 have e1:IsEnum g1 e it k old:=(b1.2 e hne).trans he
 show wpAny _ _ (field (.ref e) 3 >>= _) _ _ ⟨g1,g,d,tk,os⟩
 refine wpAny_bind (wpAny_field e1 rfl (x:=rawInt k) rfl ?_)
 show wpAny _ _ (field (.ref e) 4 >>= _) _ _ ⟨g1,g,d,tk,os⟩
 refine wpAny_bind (wpAny_field e1 rfl (x:=.none) rfl ?_)
 show wpAny _ _ (mkInt k >>= _) _ _ ⟨g1,g,d,tk,os⟩
 (refine wpAny_bind (wpAny_mkInt ?_))
 show wpAny _ _ (setField (.ref e) 3 (rawInt ((k:Int) + 1)) >>= _) _ _ ⟨g1,g,d,tk + 1,os⟩
 refine wpAny_bind (wpAny_setField_rec e1 (by simp) fun g2 e2 b2=>?_)
 replace b2:Heap.SameBut e g1 g2:=b2
 replace e2:IsEnum g2 e it ((k:Int) + 1) old:=e2
 show wpAny _ _ (setField (.ref e) 4 .none >>= _) _ _ ⟨g2,g,d,tk + 1,os⟩
 refine wpAny_bind (wpAny_setField_rec e2 (by simp) fun g3 e3 b3=>?_)
 replace b3:Heap.SameBut e g2 g3:=b3
 replace e3:IsEnum g3 e it ((k:Int) + 1) old:=e3
 show wpAny _ _ (newTuple [.int k tk,x] >>= _) _ _ ⟨g3,g,d,tk + 1,os⟩
 (refine wpAny_bind (wpAny_newTuple ?_))
 have e4:IsEnum (g3.push {cls:=.type "tuple",data:=.seq #[.int k tk,x]}) e it ((k:Int) + 1) old:=Heap.get?_push_of_some _ e3
 have z3:g3.objs.size=hp.objs.size:=by rw [b3.1,b2.1,b1.1]
 (have hel:e < hp.objs.size:=Heap.lt_size he)
 have t4:(g3.push {cls:=.type "tuple",data:=.seq #[.int k tk,x]}).get? hp.objs.size=some {cls:=.type "tuple",data:=.seq #[.int k tk,x]}:=by rw [←z3];exact Heap.get?_push_size _ rfl
 have k4:∀b o,b≠e→b≠it→hp.get? b=some o→(g3.push {cls:=.type "tuple",data:=.seq #[.int k tk,x]}).get? b=some o:=fun b o c1 c2 z=>Heap.get?_push_of_some _ (b3.extBut b o c1 (b2.extBut b o c1 (b1.extBut b o c2 z)))
 have st4:S (k + 1) (g3.push {cls:=.type "tuple",data:=.seq #[.int k tk,x]}):=N.keep _ _ _ (move (move st1 b2) b3) (fun o z=>Heap.get?_push_of_some _ z) fun o z=>Heap.get?_push_of_some _ z
 show wpAny _ _ (Builtin.SmallTypes.ownedTupleIsFree (.ref e) >>= _) _ _ ⟨g3.push {cls:=.type "tuple",data:=.seq #[.int k tk,x]},g,d,tk + 1,os⟩
 rw [z3]
 refine wpAny_bind ?_
 (unfold Builtin.SmallTypes.ownedTupleIsFree)
 refine wpAny_bind (wpAny_field e4 rfl (x:=.none) rfl (wpAny_pure ?_))
 simp only [if_true]
 (refine wpAny_bind (wpAny_rule ?_))
 refine wpAny_bind (wpAny_field e4 rfl (x:=old) rfl ?_)
 refine wpAny_bind (wpAny_setField_rec e4 (by simp) fun g5 e5 b5=>?_)
 replace b5:Heap.SameBut e _ g5:=b5
 replace e5:IsEnum g5 e it ((k:Int) + 1) x:=e5
 show wpAny _ _ (Builtin.SmallTypes.ownedTupleHandOut (.ref e) (.ref hp.objs.size) >>= _) _ _ ⟨g5,g,d,tk + 1,os⟩
 refine wpAny_bind ?_
 (unfold Builtin.SmallTypes.ownedTupleHandOut)
 refine wpAny_bind (wpAny_setField_rec e5 (by simp) fun g6 e6 b6=>?_)
 replace b6:Heap.SameBut e g5 g6:=b6
 replace e6:IsEnumOut g6 e it ((k:Int) + 1) x hp.objs.size:=e6
 refine wpAny_setField_rec e6 (by simp) fun g7 e7 b7=>?_
 replace b7:Heap.SameBut e g6 g7:=b7
 replace e7:IsEnumOut g7 e it ((k:Int) + 1) x hp.objs.size:=e7
 refine wpAny_bind (wpAny_letGo (wpAny_pure ⟨_,rfl,hQ g7 e7 (move (move (move st4 b5) b6) b7) ?_ ?_⟩))
 ·exact b7.extBut _ _ (Nat.ne_of_gt hel) (b6.extBut _ _ (Nat.ne_of_gt hel) (b5.extBut _ _ (Nat.ne_of_gt hel) t4))
 ·exact fun b o c1 c2 z=>b7.extBut b o c1 (b6.extBut b o c1 (b5.extBut b o c1 (k4 b o c1 c2 z)))
theorem D_ {e it l:Addr}{k:Nat}{vals:Array Value}{x old:Value}{S:Nat→Heap→Prop}{Q:Option Value→Shared→Prop}(N:gR prog w it l vals S) (he:IsEnum s.heap e it k old) (st:S k s.heap) (hx:vals[k]?=some x) (hne:e≠it) (hle:l≠e)
  (hQ:∀h',IsEnumOut h' e it ((k:Int) + 1) x s.heap.objs.size→S (k + 1) h'→h'.get? s.heap.objs.size=some {cls:=.type "tuple",data:=.seq #[.int k s.toks,x]}→
   (∀b o,b≠e→b≠it→s.heap.get? b=some o→h'.get? b=some o)→Q (some (.ref s.heap.objs.size)) {s with heap:=h',toks:=s.toks + 1}):wpAny (model prog w) A (pyNext (.ref e)) Q E s:=by
 have zt:s.TypeIs (.ref e) "enumerate":=⟨_,he,rfl⟩
 unfold pyNext
 exact wpAny_bind (wpAny_attempt (wpAny_callSpecial?_slot (name:=Str.ofString "__next__") zt F.slot_enumerate_next (wpAny_call_entry F.slot_enumerate_next zt F.entry_enumerate_next
  (D9 N he st hx hne hle fun h' a1 a2 a3 a4=>wpAny_pure (hQ h' a1 a2 a3 a4)) (F.args_enumerate_next_1 _))))
theorem D8 {e it l:Addr}{k:Nat}{vals:Array Value}{old:Value}{S:Nat→Heap→Prop}{Q:Option Value→Shared→Prop}(hh:A.handled=none) (N:gR prog w it l vals S) (he:IsEnum s.heap e it k old) (st:S k s.heap) (hx:vals[k]?=none)
  (hQ:∀h',Heap.ExtBut it s.heap h'→Q none {s with heap:=h'}):(wpAny (model prog w) A (pyNext (.ref e)) Q E s):=by
 have zt:s.TypeIs (.ref e) "enumerate":=⟨_,he,rfl⟩
 unfold pyNext
 refine wpAny_bind (wpAny_attempt (wpAny_callSpecial?_slot (name:=Str.ofString "__next__") zt F.slot_enumerate_next (wpAny_call_entry F.slot_enumerate_next zt F.entry_enumerate_next ?_ (F.args_enumerate_next_1 _))))
 (show wpAny _ _ (field (.ref e) 2 >>= _) _ _ _)
 (refine wpAny_bind (wpAny_field he rfl (x:=.ref it) rfl ?_))
 refine wpAny_bind (N.fin _ _ k _ _ hh st hx fun h' x he' ⟨o,ho,hc⟩=>?_)
 exact wpAny_bind (wpAny_isInstance (T:="StopIteration") (b:=true) ⟨o,ho,hc⟩ isSubtype_stop (wpAny_pure (hQ _ he')))
end
abbrev Ds (h:Heap) (k:String) (l:Addr):Heap:=h.push (bR k l)
abbrev Gv (h:Heap) (k:String) (l:Addr):Heap:=(Ds h k l).push {cls:=.type "enumerate",data:=.fields #[.none,.bool false,.ref h.objs.size,rawInt 0,.none,.none]}
theorem Gw (k:String) (l:Addr) (xs:Array Value):
  Meets (Builtin.«enumerate.__new__» ⟨[.type "enumerate",.ref l],[]⟩) (fun _ R s=>kB k s.heap l xs∧R (.ok (.ret (.ref (Ds s.heap k l).objs.size))) {s with heap:=Gv s.heap k l}):=
 .of_wp fun prog w A (R:Result→Shared→Prop) s h=>by
  obtain ⟨hp,g,d,tk,os⟩:=s;obtain ⟨q1,h⟩:=h
  have hsub:=sub_enumerate
  have L1:kB k (Shared.heap ⟨hp,g,d,tk,os⟩) l xs:=q1
  wp_walk using iZ L1
  (refine wpAny_stack_any fun st=>wpAny_pure ?_)
  split
  ·rename_i c _ _ _ _ _
   (cases (c == Value.type "enumerate"))
   ·wp_walk using iZ L1
    exact ⟨_,rfl,h⟩
   ·wp_walk using iZ L1
    exact ⟨_,rfl,h⟩
  ·wp_walk using iZ L1
   exact ⟨_,rfl,h⟩
def J_ (K:PySem.W.Frag) (k:String) (l:Addr):It:=
 ⟨fun i H=>∃xs x,eE k K H l xs∧xs[i]?=some x,
  fun i H v H'=>∃p,H p=none∧v=.ref p∧∀xs x,eE k K H l xs→xs[i]?=some x→H'=upd H p (.tup [.int i,x]),
  fun i H=>∃xs,eE k K H l xs∧xs.length≤i⟩
def Kl (k:String) (l e it:Addr) (i:Nat) (h:Heap):Prop:=(∃old,IsEnum h e it i old)∧IQ k it l i h
theorem Bc {P:Program}{w:World}{K:PySem.W.Frag}{elts:List Expr}{kk:Nat}{tp:Pos}(k:String) (l e it:Addr) (n1:e≠it):
  Turn P w K (.Tuple elts kk tp) (J_ K k l) [e,it] e (Kl k l e it) where
 mem:=by simp
 obj:=fun i h st b hb=>by
  obtain ⟨⟨old,he⟩,q1⟩:=st
  (simp only [List.mem_cons,List.not_mem_nil,or_false] at hb)
  rcases hb with rfl | rfl
  ·exact ⟨_,he,fun v q=>by cases (show Data.fields _=Data.cell v from q)⟩
  ·exact q1.obj
 keep:=fun i h h' st kp=>by
  obtain ⟨⟨old,he⟩,q1⟩:=st
  exact ⟨⟨old,kp e (by simp) _ he⟩,q1.keep fun o z=>kp it (by simp) o z⟩
 item:=by
  intro X hP hw hK hc i pins s σ H E I hf st hg
  subst hP hw hK
  obtain ⟨⟨old,he⟩,q1⟩:=st
  obtain ⟨xs,x,s1,hx⟩:=hg
  obtain ⟨its,r1,p1⟩:=s1.get I
  obtain ⟨u,hu,ru⟩:=r1.get hx
  have ne1:∀b∈[e,it],l≠b:=fun b hb=>s1.ne I (hf b hb)
  refine D_ (kI X.prog X.w k it l its.toArray (ne1 it (by simp))) he (q1.sq p1) (by simpa using hu) n1 (ne1 e (by simp)) fun h' a1 a3 a5 hk=>?_
  refine ⟨_,rfl,wpAny_letOwnedTupleGo_enum (s:={s with heap:=h',toks:=s.toks + 1}) a1 fun h'' z'' sb=>?_⟩
  have fT:H s.heap.objs.size=none:=I.hok.fresh (Nat.le_refl _)
  have old':∀{b:Addr}{o:Obj},s.heap.get? b=some o→b≠s.heap.objs.size:=fun e=>Nat.ne_of_lt (Heap.lt_size e)
  have eT:e≠s.heap.objs.size:=old' he
  have kk':∀b o,b∉[e,it]→s.heap.get? b=some o→h''.get? b=some o:=fun b o hb z=>by
   simp only [List.mem_cons,List.not_mem_nil,or_false,not_or] at hb
   exact sb.extBut _ _ hb.1 (hk b o hb.1 hb.2 z)
  have Tn:∀b∈[e,it],b≠s.heap.objs.size:=fun b hb=>by
   (simp only [List.mem_cons,List.not_mem_nil,or_false] at hb)
   rcases hb with rfl | rfl
   ·exact old' he
   ·exact old' q1.obj.choose_spec.1
  have up':∀{b:Addr}{o:HO},H b=some o→upd H s.heap.objs.size (.tup [.int i,x]) b=some o:=fun z=>by rw [br (dB z fT)];exact z
  have I2:Inv X pins σ (upd H s.heap.objs.size (.tup [.int i,x])) {s with heap:=h'',gens:=s.gens,drawn:=s.drawn,toks:=s.toks + 1}:=by
   refine I.step (ch:=[e,it]) (fun b hb=>⟨(hf b hb).2.2.2.1,(hf b hb).2.1,(hf b hb).2.2.2.2.1,(hf b hb).2.2.2.2.2⟩) (fun b o _ _ hb z _=>kk' b o hb z) (fun b o _ _ hb z _=>⟨o.slots,kk' b o hb z⟩) (fun b o hb z n=>by rw [br (old' z)];exact n)
    (fun b o hb z=>⟨o,kk' b o hb z⟩) (fun b xs z=>up' z) (fun b o q z=>up' z) (fun b ps z=>⟨#[],by rw [Array.append_empty];exact up' z⟩) (fun m hm=>?_) (fun b q z=>?_) I.bare
   ·obtain ⟨o,es,ep,ho,r⟩:=hm
    exact ⟨o,es,ep,kk' _ o (fun hb=>(hf _ hb).2.1 rfl) ho,r⟩
   ·by_cases hb:b=s.heap.objs.size
    ·subst hb
     rw [bS] at z
     cases z
     refine ⟨(by show 2≤sizeLine;decide),[.int i s.toks,u],.cons ⟨_,rfl⟩ (.cons ru .nil),⟨_,sb.extBut _ _ (Ne.symm eT) a5,rfl,0,rfl⟩⟩
    ·rw [br hb] at z
     have nch:∀d,(d=b∨H d=some (.own b))→d∉[e,it]:=fun d hd hm=>by
      have:=(hf d hm).1
      rcases hd with rfl | hd
      ·rw [this] at z;cases z
      ·rw [this] at hd;cases hd
     exact (I.hok b q z).stay (fun d o hd ho=>kk' d o (nch d hd) ho) (fun _ h=>up' h) fun _ _ h=>up' h
  refine ⟨.ref s.heap.objs.size,_,I2,rfl,⟨s.heap.objs.size,fT,rfl,fun xs' x' c1 c3=>?_⟩,⟨⟨_,by simpa using z''⟩,a3.iq.keep fun o z=>sb.extBut _ _ (Ne.symm n1) z⟩,fun b hb=>by rw [br (Tn b hb)];exact (hf b hb).1⟩
  have e1:=eE.inj I c1 s1
  subst e1
  rw [hx] at c3
  cases c3
  rfl
 done:=by
  intro X hP hw hK hc i pins s σ H E I hf st hg
  subst hP hw hK
  obtain ⟨⟨old,he⟩,q1⟩:=st
  obtain ⟨xs,s1,hend⟩:=hg
  obtain ⟨its,r1,p1⟩:=s1.get I
  have ne1:∀b∈[e,it],l≠b:=fun b hb=>s1.ne I (hf b hb)
  have hend':its.toArray[i]?=none:=by
   have e1:=r1.length
   simp;omega
  refine D8 (I.ok.hd hc) (kI X.prog X.w k it l its.toArray (ne1 it (by simp))) he (q1.sq p1) hend' fun h' hk=>⟨rfl,?_⟩
  have kk':∀b o,b∉[e,it]→s.heap.get? b=some o→h'.get? b=some o:=fun b o hb z=>by
   simp only [List.mem_cons,List.not_mem_nil,or_false,not_or] at hb
   exact hk b o hb.2 z
  refine I.step (ch:=[e,it]) (g':=s.gens) (d':=s.drawn) (t':=s.toks) (fun b hb=>⟨(hf b hb).2.2.2.1,(hf b hb).2.1,(hf b hb).2.2.2.2.1,(hf b hb).2.2.2.2.2⟩) (fun b o _ _ hb z _=>kk' b o hb z) (fun b o _ _ hb z _=>⟨o.slots,kk' b o hb z⟩) (fun b o hb z n=>n)
    (fun b o hb z=>⟨o,kk' b o hb z⟩) (fun b xs z=>z) (fun b o q z=>z) (fun b ps z=>⟨#[],by rw [Array.append_empty];exact z⟩) (fun m hm=>?_) (fun b q z=>?_) I.bare
  ·obtain ⟨o,es,ep,ho,r⟩:=hm
   exact ⟨o,es,ep,kk' _ o (fun hb=>(hf _ hb).2.1 rfl) ho,r⟩
  ·have nch:∀d,(d=b∨H d=some (.own b))→d∉[e,it]:=fun d hd hm=>by
    have:=(hf d hm).1
    rcases hd with rfl | hd
    ·rw [this] at z;cases z
    ·rw [this] at hd;cases hd
   exact (I.hok b q z).stay (fun d o hd ho=>kk' d o (nch d hd) ho) (fun _ h=>h) fun _ _ h=>h
 self:=fun A i s Q E st h=>by
  obtain ⟨⟨old,he⟩,_⟩:=st
  exact wpAny_pyIter_enum he h
section
variable {X:Cx}{c:C}{a:Expr}{pos:Pos}{elts:List Expr}{kk:Nat}{tp:Pos}
theorem zK:bootBuiltins "enumerate"=some (.type "enumerate"):=by decide +kernel
def Jb (K:PySem.W.Frag) (ta:TA):TI:=fun σ H Q=>ta σ H fun vs H1=>∃k l xs,vs=[.ref l]∧eE k K H1 l xs∧Q (J_ K k l) H1
theorem E8 {ta:TA}{p:Pos}(hg:Gl X "enumerate") (hm:X.mg "enumerate"=none) (ha:PA X [a] ta) (hs:starEach [a] X.env=[(false,eval a X.env)]:=by rfl) (hs2:starEach [] X.env=[]:=by rfl):
  PI X (.Tuple elts kk tp) (.Call (.Name "enumerate" p) [a] [] pos) (Jb X.K ta):=by
 intro pins s σ H R I h
 refine Call_ (kM I hg hm zK (PyProof.Rows.callWith_type1 (bI (ha pos pins s σ H _ I h) fun us s1 ⟨vs,H1,I1,r1,q1⟩=>?_) (by rw [hs,hs2]) (by rw [hs2];rfl)))
 obtain ⟨k,l,xs,e,s1',q⟩:=q1
 subst e
 obtain ⟨its,v1,p1⟩:=s1'.get I1
 cases r1 with
 | cons r rr=>
  cases rr
  cases r
  refine callType_new F.called_enumerate (by decide) (F.typeCall_enumerate_1 _) (F.newCall_enumerate_1 _) (fun _=>by first | exact F.args_object_init _ | rfl | decide) F.entry_enumerate_new (Gw k l its.toArray) ?_
  refine ⟨p1,?_⟩
  have gp:∀{h:Heap}{q:Addr}{u:Obj}(o:Obj),h.get? q=some u→(h.push o).get? q=some u:=fun o e=>Heap.get?_push_of_some _ e
  refine ⟨⟨_,Heap.get?_push_size _ rfl,rfl⟩,wpAny_pyIter_enum (old:=.none) (i:=0) (Heap.get?_push_size _ rfl) ?_⟩
  have e1:(Ds s1.heap k l).objs.size=s1.heap.objs.size + 1:=Heap.size_push ..
  have I5:Inv X pins σ H1 {s1 with heap:=Gv s1.heap k l}:=I1.kept (t':=s1.toks) fun b o h=>gp _ (gp _ h)
  refine ⟨_,[(Ds s1.heap k l).objs.size,s1.heap.objs.size],Kl k l _ _,_,H1,rfl,I5,Bc k l _ _ (by rw [e1];exact Nat.ne_of_gt (Nat.lt_succ_self _)),?_,?_,q⟩
  ·refine ⟨⟨.none,Heap.get?_push_size _ rfl⟩,?_⟩
   have h1:(Gv s1.heap k l).get? s1.heap.objs.size=some (bR k l):=gp _ (Heap.get?_push_size _ rfl)
   rcases p1 with ⟨rfl,_⟩ | ⟨rfl,_⟩
   ·exact .inl ⟨rfl,_,h1,rfl,rfl⟩
   ·exact .inr ⟨rfl,_,h1,rfl,rfl⟩
  ·intro b hb
   have hle:s1.heap.objs.size≤b:=by
    (simp only [List.mem_cons,List.not_mem_nil,or_false] at hb)
    rcases hb with rfl | rfl
    ·rw [e1];exact Nat.le_succ _
    ·exact Nat.le_refl _
   exact I1.fpOk hle (I1.hok.fresh hle)
end
section
variable {X:Cx}{c:C}{e a b:Expr}{es elts:List Expr}{pos tp:Pos}{kk:Nat}
def oS:R→M (List D)
 | .d (.tup xs)=>.ok xs
 | .d (.lst xs)=>.ok xs
 | _=>.bad
theorem vY {β:Type}{x:R}{k:List D→M β}{Q:β→Prop}{T:Exc→Prop}(w:cA (oS x >>= k) Q T):∃xs,oS x=.ok xs∧cA (k xs) Q T:=by
 cases q:oS x with
 | bad=>rw [q] at w;exact w.elim
 | ok xs=>rw [q] at w;exact ⟨xs,rfl,w⟩
 | exc z=>unfold oS at q;split at q <;> cases q
def pW (gs:G (List R)):G (List D):=fun env=>gs env >>= fun rs=>match rs with
 | [x,y]=>oS x >>= fun xs=>oS y >>= fun ys=>.ok (List.zipWith (fun a b=>.tup [a,b]) xs ys)
 | _=>.bad
theorem A9 {c:C}{He J H:Hp}{x:R}{v:V}{xs:List D}(r:RR c He J H x v) (q:oS x=.ok xs):∃k l us,v=.ref l∧aG c.K J xs us∧eE k c.K J l us:=by
 cases x with
 | l m ys=>cases q
 | d y=>
  cases y with
  | tup ys=>
   cases q
   cases r with
   | tup h1 h2=>exact ⟨"tuple_iterator",_,_,rfl,h2,.inr ⟨rfl,h1⟩⟩
  | lst ys=>
   cases q
   cases r with
   | lst h1 h2=>exact ⟨"list_iterator",_,_,rfl,h2,.inl ⟨rfl,h1⟩⟩
  | _=>cases q
theorem eE.via {k:String}{K:PySem.W.Frag}{J H:Hp}{l:Addr}{xs:List V}(h:eE k K J l xs) (s:a_ J H):eE k K H l xs:=by
 rcases h with ⟨e,h⟩ | ⟨e,h⟩
 ·exact .inl ⟨e,s.seq h⟩
 ·exact .inr ⟨e,eB s h⟩
theorem Fb {p:Pos}{gs:G (List R)}(ha:iy X c [a,b] gs) (hm:X.mg "zip"=none) (hK:X.K=c.K:=by rfl) (hg:Gl X "zip":=by rfl) (hs:starEach [a,b] X.env=[(false,eval a X.env),(false,eval b X.env)]:=by rfl) (hs2:starEach [b] X.env=[(false,eval b X.env)]:=by rfl):
  rJ X c (.Tuple elts kk tp) (.Call (.Name "zip" p) [a,b] [] pos) (pW gs):=
 nY (HS hg hm ha hs hs2) fun σ H Q ⟨J,env,sr,w⟩=>by
  refine ⟨J,env,sr,aB (aL w) fun rs wr vs J1 H1 e1 r1=>?_⟩
  split at wr
  ·obtain ⟨v,v2,rfl,r,r2⟩:=r1.two
   obtain ⟨xs,q1,wr⟩:=vY wr
   obtain ⟨ys,q2,wr⟩:=vY wr
   have hp1:=sr.hp.ext e1
   obtain ⟨k1,l1,us1,rfl,a1,s1⟩:=A9 r q1
   obtain ⟨k2,l2,us2,rfl,a2,s2⟩:=A9 r2 q2
   refine ⟨k1,l1,us1,k2,l2,us2,rfl,by rw [hK];exact s1.via hp1.sub,by rw [hK];exact s2.via hp1.sub,?_⟩
   rw [hK]
   refine wr _ J1 H1 e1 fun i J' H' hp u=>?_
   have t1:=(s1.via u).via hp.sub
   have t2:=(s2.via u).via hp.sub
   refine ⟨fun hl=>⟨us1,us2,t1,t2,?_⟩,fun d hd=>?_⟩
   ·rw [List.length_zipWith,a1.length,a2.length] at hl
    omega
   ·obtain ⟨x,y,ux,uy,rfl,b1,b2,c1,c2⟩:=C3 a1 a2 hd
    refine ⟨⟨us1,us2,ux,uy,t1,t2,b1,b2⟩,fun z H2 ⟨q,hq,e,hy⟩=>?_⟩
    have:=hy us1 us2 ux uy t1 t2 b1 b2
    subst this e
    have s':a_ J' (upd J' q (.tup [ux,uy])):=fR (hp.sub.free hq) _
    exact ⟨_,Ext.newJ hp.sub hq _,.tup (.inl (.inl bS)) (.cons ((c1.mono u).mono s') (.cons ((c2.mono u).mono s') .nil))⟩
  ·exact wr.elim
theorem BB:bP X (.type "range") (fun xs H Q=>∃j:Int,xs=[.int j]∧∀p,H p=none→Q (.ref p) (upd H p (.rng 0 j))):=by
 intro pins s σ H xs us Q I r h
 obtain ⟨j,rfl,q⟩:=h
 obtain ⟨u,rfl,t,rfl⟩:=vals1 r
 refine call_range_1 ⟨.ref s.heap.objs.size,_,I.laid (fun b o e=>Heap.get?_push_of_some _ e) (Nat.le_refl _) (show cF X.prog X.w _ _ _ (.rng 0 j) from ⟨_,_,_,Heap.get?_push_size _ rfl⟩),rfl,q _ (I.hok.fresh (Nat.le_refl _))⟩
def j6 (n:Nat):List V:=(List.range n).map fun (k:Nat)=>V.int k
theorem De {n:Nat}{acc:Array Value}(h:ItemsOf (fun i v=>∃t,v=.int (0 + (i:Int) * 1) t) acc n):Vals (j6 n) acc.toList:=by
 have key:∀(us:List Value) (i:Nat),(∀j v,us[j]?=some v→∃t:Tok,v=Value.int ((i + j:Nat):Int) t)→Vals ((List.range' i us.length).map fun (k:Nat)=>V.int k) us:=by
  intro us
  induction us with
  | nil=>exact fun i _=>.nil
  | cons u us ih=>
   intro i hj
   obtain ⟨t,e⟩:=hj 0 u rfl
   rw [List.length_cons,List.range'_succ,List.map_cons]
   refine .cons ⟨t,by rw [e];rfl⟩ (ih (i + 1) fun j v hv=>?_)
   obtain ⟨t,e⟩:=hj (j + 1) v (by simpa using hv)
   exact ⟨t,by rw [e];congr 2;omega⟩
 have e:acc.toList.length=n:=by rw [Array.length_toList];exact h.1
 unfold j6
 rw [List.range_eq_range',←e]
 refine key acc.toList 0 fun j v hv=>?_
 obtain ⟨t,q⟩:=h.2 j v (by simpa using hv)
 exact ⟨t,by rw [q];congr 1;omega⟩
theorem sY (hc:X.calm=true):bP X (.type "list") (fun xs H Q=>∃(p:Addr) (j:Int),xs=[.ref p]∧H p=some (.rng 0 j)∧-(2 ^ 24)≤j∧j≤2 ^ 24∧∀l,H l=none→Q (.ref l) (upd H l (.lst (j6 j.toNat)))):=by
 intro pins s σ H xs us Q I r h
 obtain ⟨p,j,rfl,hp,h0,h1,q⟩:=h
 obtain ⟨u,rfl,rx⟩:=vals1 r
 cases rx
 obtain ⟨t,u,v,ho⟩:=I.hok p _ hp
 have hn:Builtin.Range.rangeSize 0 j 1=(j.toNat:Int):=by rw [rangeSize_one];split <;> omega
 refine call_list_range (I.ok.hd hc) ho (small_one (by decide) (by decide) (by omega) (by omega)) hn (by omega) fun h' tk acc' c' kp e hi=>?_
 have hv:=De hi
 refine ⟨.ref s.heap.objs.size,_,I.laid kp (Nat.le_refl _) (show cF X.prog X.w _ h' _ (.lst (j6 j.toNat)) from ⟨?_,acc'.toList,c',hv,e⟩),rfl,q _ (I.hok.fresh (Nat.le_refl _))⟩
 unfold j6
 rw [List.length_map,List.length_range]
 show j.toNat≤2 ^ 24
 omega
def yE (gs:G (List R)):G R:=fun env=>gs env >>= fun rs=>match rs with
 | [.d (.int j)]=>if below 16777216 j then .ok (.l .fresh (eZ 0 j.toNat)) else .bad
 | _=>.bad
theorem C2 {K:PySem.W.Frag}{J:Hp}(n:Nat):aG K J (eZ 0 n) (j6 n):=by
 unfold eZ j6
 generalize List.range n=ks
 induction ks with
 | nil=>exact .nil
 | cons k ks ih=>
  rw [List.map_cons,List.map_cons,Int.zero_add]
  exact .cons (.int _) ih
theorem AJ {p p2 pos2:Pos}{gs:G (List R)}(ha:iy X c [a] gs) (hm:X.mg "range"=none) (hm2:X.mg "list"=none) (hc:X.calm=true:=by rfl) (hK:X.K=c.K:=by rfl) (hg:Gl X "range":=by rfl) (hg2:Gl X "list":=by rfl)
  (hs:starEach [a] X.env=(false,eval a X.env)::starEach [] X.env:=by rfl) (hs0:(backTo pos (starEach [] X.env)).any (·.1)=false:=by rfl) (hs2:starEach [Expr.Call (.Name "range" p) [a] [] pos] X.env=(false,eval (Expr.Call (.Name "range" p) [a] [] pos) X.env)::starEach [] X.env:=by rfl) (hs3:(backTo pos2 (starEach [] X.env)).any (·.1)=false:=by rfl):
  PD X c (.Call (.Name "list" p2) [.Call (.Name "range" p) [a] [] pos] [] pos2) (yE gs):=by
 have h1:=j9 (p:=p) (pos:=pos) BB hg hm boot_range ha (by decide) (by decide) hs hs0
 have h2:=j9 (p:=p2) (pos:=pos2) (sY hc) hg2 hm2 yr (gG h1 jg hs2) (by decide) (by decide) hs2 hs3
 refine fP h2 fun σ H Q ⟨J,env,sr,w⟩=>?_
 refine ⟨J,env,sr,aB (aL w) fun rs wr vs J1 H1 e1 r1=>?_⟩
 split at wr
 ·rename_i j
  obtain ⟨v,rfl,r⟩:=r1.one
  cases r
  split at wr
  ·rename_i hb
   obtain ⟨b1,b2⟩:=dG.mp hb
   refine ⟨j,rfl,fun q hq=>?_⟩
   refine ⟨q,j,rfl,bS,by omega,by omega,fun l hl=>?_⟩
   have hp1:=sr.hp.ext e1
   have e2:=Ext.new hp1.sub hq (.rng 0 j)
   have hp2:=hp1.ext e2
   have hr:RR c H1 J1 (upd (upd H1 q (.rng 0 j)) l (.lst (j6 j.toNat))) (.l .fresh (eZ 0 j.toNat)) (.ref l):=by
    obtain ⟨a,us,x1,x2,x3,x4,x5⟩:=gW (c:=c) hp2 hl (C2 j.toNat)
    exact ⟨a,us,x1,x2,x3,e2.h.free x4,x5⟩
   exact wr _ _ _ ((e1.trans e2).trans (Ext.new hp2.sub hl _)) (by
    obtain ⟨a,us,x1,x2,x3,x4,x5⟩:=hr
    exact ⟨a,us,x1,x2,x3,e1.h.free x4,x5⟩)
  ·exact wr.elim
 ·exact wr.elim
end
end DL
namespace DL
open PySem PySem.Spec PyProof.Rows L2 DX
section
variable {X:Cx}{c:C}{e a:Expr}{es:List Expr}{ga g:G R}{pos:Pos}{L:List Str}{T:Str→Bool}
theorem pg {b:Expr}{elts:List Expr}{kk:Nat}{tp p:Pos}{gs:G (List R)}(ha:jk X c [a,b] gs) (hm:X.mg "zip"=none) (hK:X.K=c.K:=by rfl) (hg:Gl X "zip":=by rfl) (hs:starEach [a,b] X.env=[(false,eval a X.env),(false,eval b X.env)]:=by rfl) (hs2:starEach [b] X.env=[(false,eval b X.env)]:=by rfl):
  zE X c (.Tuple elts kk tp) (.Call (.Name "zip" p) [a,b] [] pos) (pW gs):=⟨Fb ha.h hm hK hg hs hs2⟩
theorem yZ {p p2 pos2:Pos}{gs:G (List R)}(ha:jk X c [a] gs) (hm:X.mg "range"=none) (hm2:X.mg "list"=none) (hc:X.calm=true:=by rfl) (hK:X.K=c.K:=by rfl) (hg:Gl X "range":=by rfl) (hg2:Gl X "list":=by rfl)
  (hs:starEach [a] X.env=(false,eval a X.env)::starEach [] X.env:=by rfl) (hs0:(backTo pos (starEach [] X.env)).any (·.1)=false:=by rfl) (hs2:starEach [Expr.Call (.Name "range" p) [a] [] pos] X.env=(false,eval (Expr.Call (.Name "range" p) [a] [] pos) X.env)::starEach [] X.env:=by rfl) (hs3:(backTo pos2 (starEach [] X.env)).any (·.1)=false:=by rfl):
  QD X c (.Call (.Name "list" p2) [.Call (.Name "range" p) [a] [] pos] [] pos2) (yE gs):=⟨AJ ha.h hm hm2 hc hK hg hg2 hs hs0 hs2 hs3⟩
end
end DL
namespace DL
open PySem PySem.Spec PyProof.Rows L2
section
variable {X:Cx}{c:C}{a:Expr}{pos:Pos}{elts:List Expr}{kk:Nat}{tp:Pos}
def lC (xs:List D):List D:=xs.zipIdx.map fun p=>.tup [.int p.2,p.1]
theorem BI {xs:List D}{i:Nat}{d:D}(h:(lC xs)[i]?=some d):∃x,xs[i]?=some x∧d=.tup [.int i,x]:=by
 unfold lC at h
 rw [List.getElem?_map,List.getElem?_zipIdx] at h
 cases q:xs[i]? with
 | none=>rw [q] at h;simp at h
 | some x=>rw [q] at h;simp at h;exact ⟨x,rfl,h.symm⟩
theorem z_ (xs:List D):(lC xs).length=xs.length:=by unfold lC;simp
def yD (gs:G (List R)):G (List D):=fun env=>gs env >>= fun rs=>match rs with
 | [x]=>uF x >>= fun xs=>.ok (lC xs)
 | _=>.bad
theorem CJ {p:Pos}{gs:G (List R)}(ha:iy X c [a] gs) (hm:X.mg "enumerate"=none) (hK:X.K=c.K:=by rfl) (hg:Gl X "enumerate":=by rfl) (hs:starEach [a] X.env=[(false,eval a X.env)]:=by rfl) (hs2:starEach [] X.env=[]:=by rfl):
  uw X c (.Tuple elts kk tp) (.Call (.Name "enumerate" p) [a] [] pos) (yD gs):=
 nY (E8 hg hm ha hs hs2) fun σ H Q ⟨J,env,sr,w⟩=>by
  refine ⟨J,env,sr,aB (aL w) fun rs wr vs J1 H1 e1 r1=>?_⟩
  split at wr
  ·obtain ⟨v,rfl,r⟩:=r1.one
   obtain ⟨xs,q1,wr⟩:=FT wr
   have hp1:=sr.hp.ext e1
   obtain ⟨k1,l1,us1,rfl,a1,s1⟩:=IC hp1 r q1
   refine ⟨k1,l1,us1,rfl,by rw [hK];exact s1,?_⟩
   rw [hK]
   refine wr _ J1 H1 e1 fun i J' H' hp u=>?_
   have t1:=s1.same u.2
   refine ⟨fun hl=>⟨us1,t1,?_⟩,fun d hd=>?_⟩
   ·rw [z_,a1.length] at hl
    exact hl
   ·obtain ⟨x,b0,rfl⟩:=BI hd
    obtain ⟨ux,b1,c1⟩:=a1.get b0
    refine ⟨⟨us1,ux,t1,b1⟩,fun z H2 ⟨q,hq,e,hy⟩=>?_⟩
    have:=hy us1 ux t1 b1
    subst this e
    have s':a_ J' (upd J' q (.tup [.int i,ux])):=fR (hp.sub.free hq) _
    exact ⟨_,Ext.newJ hp.sub hq _,.tup (.inl (.inl bS)) (.cons (.int _) (.cons ((c1.mono u.1).mono s') .nil))⟩
  ·exact wr.elim
end
theorem vB {K:PySem.W.Frag}{J:Hp}{d:D}{v:V}(r:Rep K J d v):∀{ds:List D}{vs:List V}(j:Nat),aG K J ds vs→aG K J (ds.set j d) (vs.set j v)
 | _,_,_,.nil=>.nil
 | _,_,0,.cons _ hs=>.cons r hs
 | _,_,j + 1,.cons h hs=>.cons h (vB r j hs)
section
variable {X:Cx}{c:C}{e ke:Expr}{g gk:G R}{pos:Pos}
def qY (i:Nat) (gk g:G R):G O:=fun env=>match env[i]? with
 | some (some (.own xs))=>g env >>= fun r=>toD r >>= fun d=>gk env >>= fun k=>match k with
  | .d (.int n)=>match mE xs.length n with
   | some j=>.ok (.nx (env.set i (some (.own (xs.set j d)))))
   | none=>.bad
  | _=>.bad
 | _=>.bad
theorem ER (i:Nat){x:Str}{p1 p2:Pos}(h:PD X c e g) (hk:PD X c ke gk) (hN:X.N[i]?=some x:=by rfl) (hv:kC X.env.scope x:=by first | exact Or.inl rfl | exact Or.inr (Or.inl rfl) | exact Or.inr (Or.inr rfl)) (hd:(x == ("__debug__":Str))=false:=by decide)
  (hcd:(x == ("__classdict__":Str))=false:=by decide)
  (ha:∀v,assign (.Subscript (.Name x p1) ke p2) X.env v=(do
   let ov ←holding [v] (eval (.Name x p1) X.env)
   let iv ←holding [v,ov] (eval ke X.env)
   standAt p2
   (holding [v,ov,iv] (setItem ov iv v))
   release [v,ov,iv] []):=by intro _;rfl)
  (hs:swapsWithSole [.Subscript (.Name x p1) ke p2] e pos.line X.env=pure false:=by rfl) (hw:swappedStores [.Subscript (.Name x p1) ke p2] e X.env=pure none:=by rfl)
  (h1:(assignEach [.Subscript (.Name x p1) ke p2] X.env).map (·.2)=[assign (.Subscript (.Name x p1) ke p2) X.env]:=by rfl):
  gP X c (.Assign [.Subscript (.Name x p1) ke p2] e pos) (qY i gk g):=
 g9 (vp h (HQ (nD hN hv hd hcd) hk set_list ha) hs hw h1) fun E σ H ⟨J,env,sr,w⟩=>by
  unfold qY at w
  split at w
  ·rename_i xs hi
   obtain ⟨v,q1,a,vs,rfl,h2,h3,h4,h5⟩:=sr.at_ i _ hi
   refine ⟨J,env,sr,aB (aL w) fun r wr y J1 H1 e1 r1=>?_⟩
   obtain ⟨d,q,wr⟩:=jE wr
   obtain ⟨J2,e2,s2,rd⟩:=freeze e1 r1 q
   refine ⟨.ref a,q1,?_⟩
   refine ⟨J2,env,sr.ext e2,aB (aL wr) fun rk wk vk J3 H3 e3 r3=>?_⟩
   have e4:=e2.trans e3
   split at wk
   ·rename_i n
    split at wk
    ·rename_i j hj
     cases r3
     have hj':mE vs.length n=some j:=by rw [←h5.length];exact hj
     refine ⟨a,vs,n,j,rfl,rfl,e4.h _ _ h2,hj',?_⟩
     refine wk σ J3 _ e4.j ?_
     exact (sr.ext e4).upd hi q1 (e4.h _ _ h2) (e4.frz a (by rw [h2];intro z;cases z) h3) h4 (vB (rd.mono e3.j) j (h5.mono e4.j))
    ·exact wk.elim
   ·exact wk.elim
  ·exact w.elim
end
end DL
namespace DL
open PySem PySem.Spec PyProof.Rows L2 DX
open PySem.W (KasT kas_sort kas_ask)
def isInt:D→Bool
 | .int _=>true
 | _=>false
def oO (ds:List D):Bool:=decide (ds.length < 64) && ds.all isInt
theorem xy {K:PySem.W.Frag}{J:Hp}:∀{ds:List D}{vs:List V}{us:List Value},ds.all isInt=true→aG K J ds vs→Vals vs us→∃ns,IntsAre us ns
 | _,_,_,_,.nil,.nil=>⟨[],.nil⟩
 | d::ds,_,_,h,.cons r rs,.cons v vs=>by
  (rw [List.all_cons,Bool.and_eq_true] at h)
  obtain ⟨ns,hn⟩:=xy h.2 rs vs
  cases d with
  | int i=>
   cases r
   obtain ⟨t,rfl⟩:=v
   exact ⟨i::ns,.cons i t hn⟩
  | _=>cases h.1
section
variable {X:Cx}{c:C}{e:Expr}{es:List Expr}{pos:Pos}
theorem uP:bP X (.builtin "sorted") (fun xs H Q=>∃p vs ds,xs=[.ref p]∧cG X.K H p vs∧aG X.K H ds vs∧oO ds=true∧∀l vs',H l=none→(∀J,aG X.K J ds vs→aG X.K J (aQ ds) vs')→Q (.ref l) (upd H l (.lst vs'))):=by
 intro pins s σ H xs us Q I r h
 obtain ⟨p,vs,ds,rfl,hq,rs,ok,q⟩:=h
 obtain ⟨u,rfl,rx⟩:=vals1 r
 cases rx
 obtain ⟨its,r',pl,hz⟩:=I.list hq
 have l1:vs.length=its.length:=r'.length
 have l2:ds.length=vs.length:=rs.length
 have fr:H (s.heap.objs.size + 1)=none:=I.hok.fresh (Nat.le_succ _)
 have fin:∀(out:List Value) (vs':List V),vs'.length=vs.length→Vals vs' out→(∀J,aG X.K J ds vs→aG X.K J (aQ ds) vs')→∃v H',Inv X pins σ H' {s with heap:=sortedAll s.heap its out.toArray}∧RelV v (.ref (s.heap.objs.size + 1))∧Q v H':=fun out vs' lv rv rr=>by
  obtain ⟨n,hn⟩:=sortedAll_at s.heap its out.toArray
  exact ⟨.ref (s.heap.objs.size + 1),_,I.laid (t':=s.toks) (fun b o e=>sortedAll_old e) (Nat.le_succ _) (show cF X.prog X.w _ _ _ (.lst vs') from ⟨by rw [lv];exact hz,out,n,rv,by simpa [seqObj] using hn⟩),rfl,q _ vs' fr rr⟩
 unfold oO at ok
 rw [Bool.and_eq_true] at ok
 obtain ⟨o1,o2⟩:=ok
 have o1:=of_decide_eq_true o1
 by_cases h2:ds.length < 2
 ·refine xU pl.isList (by omega) (fin its vs rfl r' ?_)
  intro J rj
  unfold aQ
  rw [if_pos h2]
  exact rj
 ·have ib:∀i∈(aT (ltB ds) (kas_sort ds.length)).toList,i < ds.length:=fun i hi=>by
   have:=((d7 (n:=ds.length) (by omega)).run (ltB ds):dZ _ _)
   have:=(Array.Perm.mem_iff this).mp (Array.mem_toList_iff.mp hi)
   simpa using this
  obtain ⟨ns,hI⟩:=xy o2 rs r'
  refine xV (κ:=oneType') (q:=ltB ds) pl.isList (by omega) (by omega) (fun h' C kp cc=>?_) (fun h' kp i j C hi hj cc=>?_) ?_
  ·have hl:2≤its.length:=by omega
   clear fin l1 r' pl
   match its,hI,hl with
   | v1::v2::r,hI,_=>rw [keyKind_ints hI];exact wpAny_pure cc
  ·have hi':i < ds.length:=by omega
   have hj':j < ds.length:=by omega
   have ai:=List.all_eq_true.mp o2 _ (dW hi')
   have aj:=List.all_eq_true.mp o2 _ (dW hj')
   have r1:=ef rs hi'
   have r2:=ef rs hj'
   have v1:=eu r' (i:=i) (by omega)
   have v2:=eu r' (i:=j) (by omega)
   show wpAny _ _ (keyLt' oneType' (its.getD i Value.none) (its.getD j Value.none)) _ _ _
   rw [keyLt'_oneType]
   have e:ltB ds i j=(cV (cH ds i) (cH ds j)).getD false:=rfl
   rw [e] at cc
   generalize cH ds i=di at ai r1 cc
   generalize cH ds j=dj at aj r2 cc
   generalize vs.getD i V.non=wi at r1 v1
   generalize vs.getD j V.non=wj at r2 v2
   cases di with
   | int a=>
    cases dj with
    | int b=>
     cases r1;cases r2
     obtain ⟨t1,q1⟩:=v1
     obtain ⟨t2,q2⟩:=v2
     rw [q1,q2]
     refine oneLt_int ?_
     unfold cV at cc
     exact cc
    | _=>cases aj
   | _=>cases ai
  ·have e1:ir (ltB ds) its=(aT (ltB ds) (kas_sort ds.length)).toList.map fun i=>its.getD i Value.none:=by unfold ir;rw [l2,l1]
   rw [e1]
   refine fin _ _ ?_ (kY r' _ fun i hi=>l2▸ib i hi) ?_
   ·rw [List.length_map,←l2]
    have:=((d7 (n:=ds.length) (by omega)).run (ltB ds):dZ _ _).size_eq
    simpa using this
   ·intro J rj
    unfold aQ
    rw [if_neg h2]
    exact kR rj _ ib
def jK:List R→M R
 | [r]=>jW r >>= fun xs=>if j8 xs=true then .ok (.l .fresh (aQ xs)) else if oO xs=true then .ok (.l .fresh (aQ xs)) else .bad
 | _=>.bad
theorem bP.or {f:Value}{r1 r2:List V→Hp→VK→Prop}(h1:bP X f r1) (h2:bP X f r2):bP X f (fun xs H Q=>r1 xs H Q∨r2 xs H Q):=fun pins s σ H xs us Q I rv h=>h.elim (h1 pins s σ H xs us Q I rv) (h2 pins s σ H xs us Q I rv)
theorem Cw {p:Pos}{gs:G (List R)}(hu:X.A.units + 64 < cLine) (ha:iy X c (e::es) gs) (hm:X.mg "sorted"=none) (hK:X.K=c.K:=by rfl) (hg:Gl X "sorted":=by rfl)
  (he:starEach (e::es) X.env=(false,eval e X.env)::starEach es X.env:=by rfl) (hpl:(backTo pos (starEach es X.env)).any (·.1)=false:=by rfl):PD X c (.Call (.Name "sorted" p) (e::es) [] pos) (gN jK gs):=
 lJ (bP.or (mP hu) uP) (by
  intro He J H xs vs Q hp rs w
  unfold jK at w
  split at w
  ·obtain ⟨v,rfl,r⟩:=rs.one
   obtain ⟨xs,q,w⟩:=om w
   obtain ⟨p,vs,rfl,h1,h2⟩:=RR.list hp r q
   rw [hK]
   split at w
   ·rename_i ok
    exact .inl ⟨p,vs,xs,rfl,h1,h2.mono hp.sub,ok,fun l vs' hl rr=>w _ _ _ (Ext.new hp.sub hl _) (gW hp hl (rr _ h2))⟩
   ·split at w
    ·rename_i ok
     exact .inr ⟨p,vs,xs,rfl,h1,h2.mono hp.sub,ok,fun l vs' hl rr=>w _ _ _ (Ext.new hp.sub hl _) (gW hp hl (rr _ h2))⟩
    ·exact w.elim
  ·exact w.elim) iK hm ha hg (by decide) (by decide) he hpl
theorem sd {p:Pos}{gs:G (List R)}(hu:X.A.units + 64 < cLine) (ha:jk X c (e::es) gs) (hm:X.mg "sorted"=none) (hK:X.K=c.K:=by rfl) (hg:Gl X "sorted":=by rfl)
  (he:starEach (e::es) X.env=(false,eval e X.env)::starEach es X.env:=by rfl) (hpl:(backTo pos (starEach es X.env)).any (·.1)=false:=by rfl):QD X c (.Call (.Name "sorted" p) (e::es) [] pos) (gN jK gs):=⟨Cw hu ha.h hm hK hg he hpl⟩
end
end DL
namespace DL
open PySem PySem.Spec PyProof.Rows L2 DX
end DL
namespace ST
open PySem PySem.SetTable
theorem qZ (xs:Array Nat) (j:Nat) (hs:xs.toList.Pairwise (· < ·)):∀(f lo hi:Nat),hi≤xs.size→lo≤hi→hi - lo≤f→(∀i,i < lo→xs.getD i 0 < j)→(∀i,hi≤i→i < xs.size→j≤xs.getD i 0)→
  below.go xs j f lo hi≤xs.size∧(∀i,i < below.go xs j f lo hi→xs.getD i 0 < j)∧∀i,below.go xs j f lo hi≤i→i < xs.size→j≤xs.getD i 0
 | 0,lo,hi,h1,h2,h3,h4,h5=>by
  have:lo=hi:=by omega
  subst this
  exact ⟨h1,h4,h5⟩
 | f + 1,lo,hi,h1,h2,h3,h4,h5=>by
  have mono:∀a b,a≤b→b < xs.size→xs.getD a 0≤xs.getD b 0:=fun a b hab hb=>by
   rcases Nat.lt_or_eq_of_le hab with h | h
   ·have:=List.pairwise_iff_getElem.mp hs a b (by simpa using Nat.lt_trans h hb) (by simpa using hb) h
    simp [Array.getD,Nat.lt_trans h hb,hb] at this ⊢
    omega
   ·rw [h];exact Nat.le_refl _
  unfold below.go
  by_cases c:lo < hi
  ·rw [if_pos c]
   have hm:(lo + hi) / 2 < xs.size:=by omega
   have e:xs.getD ((lo + hi) / 2) j=xs.getD ((lo + hi) / 2) 0:=by simp [Array.getD,hm]
   by_cases d:xs.getD ((lo + hi) / 2) j < j
   ·simp only [d,if_true]
    rw [e] at d
    exact qZ xs j hs f _ hi h1 (by omega) (by omega) (fun i hi'=>Nat.lt_of_le_of_lt (mono i ((lo + hi) / 2) (by omega) hm) d) h5
   ·simp only [d,if_false]
    rw [e] at d
    exact qZ xs j hs f lo _ (by omega) (by omega) (by omega) h4 (fun i hi' hs'=>Nat.le_trans (by omega) (mono ((lo + hi) / 2) i hi' hs'))
  ·rw [if_neg c]
   have:lo=hi:=by omega
   subst this
   exact ⟨h1,h4,h5⟩
theorem lg (xs:Array Nat) (j:Nat) (hs:xs.toList.Pairwise (· < ·)):below xs j≤xs.size∧(∀i,i < below xs j→xs.getD i 0 < j)∧∀i,below xs j≤i→i < xs.size→j≤xs.getD i 0:=
 qZ xs j hs xs.size 0 xs.size (Nat.le_refl _) (Nat.zero_le _) (by omega) (fun i h=>absurd h (Nat.not_lt_zero _)) (fun i h1 h2=>by omega)
theorem below_at {xs:Array Nat}{i j:Nat}(hs:xs.toList.Pairwise (· < ·)) (h:xs[i]?=some j):below xs j=i:=by
 obtain ⟨hi,e⟩:=Array.getElem?_eq_some_iff.mp h
 obtain ⟨b1,b2,b3⟩:=lg xs j hs
 have g:xs.getD i 0=j:=by simp [Array.getD,hi,e]
 rcases Nat.lt_trichotomy (below xs j) i with c | c | c
 ·have h1:=b3 (below xs j) (Nat.le_refl _) (by omega)
  have:=List.pairwise_iff_getElem.mp hs (below xs j) i (by simpa using Nat.lt_trans c hi) (by simpa using hi) c
  simp [Array.getD,Nat.lt_trans c hi] at h1
  simp at this
  omega
 ·exact c
 ·have:=b2 i c
  omega
theorem nM {t:SetTable}{i j:Nat}(hs:t.place.toList.Pairwise (· < ·)) (h:t.place[i]?=some j):t.slot j=.live i:=by
 unfold slot
 rw [below_at hs h]
 show (if (t.place[i]? == some j)=true then Slot.live i else _)=_
 rw [h]
 simp
theorem qz {t:SetTable}{j:Nat}(hd:t.dummies=#[]) (h:j∉t.place.toList):t.slot j=.empty:=by
 unfold slot
 have h1:(t.place[below t.place j]? == some j)=false:=by
  rw [beq_eq_false_iff_ne]
  intro z
  exact h (by
   obtain ⟨hi,e⟩:=Array.getElem?_eq_some_iff.mp z
   rw [←e]
   simp)
 have h2:has t.dummies j=false:=by rw [hd];rfl
 simp only [h1,h2,Bool.false_eq_true,if_false]
def st (mask:Nat) (h:Int):Nat→Probe
 | 0=>({mask:=mask,place:=#[],dummies:=#[],finger:=0,led:=true,moves:=0,plain:=true}:SetTable).probeStart h
 | n + 1=>({mask:=mask,place:=#[],dummies:=#[],finger:=0,led:=true,moves:=0,plain:=true}:SetTable).advance (st mask h n)
abbrev pos (mask:Nat) (h:Int) (n:Nat):Nat:=(st mask h n).j
theorem lS (mask:Nat) (h:Int):∀n,(st mask h n).dummy=none
 | 0=>rfl
 | n + 1=>by
  unfold st advance
  split
  ·exact lS mask h n
  ·exact lS mask h n
def tn (mask:Nat) (h:Int):Nat→Nat×Nat
 | 0=>(bits h % (mask + 1),bits h)
 | k + 1=>leap mask (tn mask h k).1 (tn mask h k).2
theorem sE (mask:Nat) (h:Int):∀(m n:Nat) (i p j:Nat),st mask h n={j:=j,more:=m,i:=i,perturb:=p,dummy:=none}→st mask h (n + m)={j:=j + m,more:=0,i:=i,perturb:=p,dummy:=none}
 | 0,n,i,p,j,e=>e
 | m + 1,n,i,p,j,e=>by
  have e1:st mask h (n + 1)={j:=j + 1,more:=m,i:=i,perturb:=p,dummy:=none}:=by
   show advance _ (st mask h n)=_
   rw [e]
   unfold advance
   simp
  have:=sE mask h m (n + 1) i p (j + 1) e1
  rw [show n + (m + 1)=n + 1 + m by omega,this]
  congr 1;omega
theorem xY (mask:Nat) (h:Int):∀k,∃n,n≤10 * k∧st mask h n={j:=(tn mask h k).1,more:=runEnd mask (tn mask h k).1 - (tn mask h k).1,i:=(tn mask h k).1,perturb:=(tn mask h k).2,dummy:=none}
 | 0=>⟨0,Nat.le_refl _,rfl⟩
 | k + 1=>by
  obtain ⟨n,hn,e⟩:=xY mask h k
  have hm:runEnd mask (tn mask h k).1 - (tn mask h k).1≤9:=by unfold runEnd;split <;> omega
  have:=sE mask h _ n _ _ _ e
  refine ⟨n + (runEnd mask (tn mask h k).1 - (tn mask h k).1) + 1,by omega,?_⟩
  show advance _ (st mask h (n + (runEnd mask (tn mask h k).1 - (tn mask h k).1)))=_
  rw [this]
  unfold advance
  simp
  exact ⟨rfl,rfl,rfl,rfl⟩
theorem qE (mask:Nat) (h:Int):∀k,(tn mask h k).2=bits h / 32 ^ k
 | 0=>by simp [tn]
 | k + 1=>by
  show (tn mask h k).2 / 32=_
  rw [qE mask h k,Nat.div_div_eq_div_mul,Nat.pow_succ]
theorem DY (h:Int):bits h < 2 ^ 64:=by
 unfold bits
 have:=Int.emod_lt_of_pos h (b:=2 ^ 64) (by decide)
 omega
def Ao (mask i:Nat):Nat:=(i * 5 + 1) % (mask + 1)
def gU (mask:Nat):Nat→Nat→Nat
 | 0,i=>i
 | r + 1,i=>Ao mask (gU mask r i)
theorem vV (mask:Nat) (h:Int):∀r,(tn mask h (12 + r)).1=gU mask r (tn mask h 12).1
 | 0=>rfl
 | r + 1=>by
  show (leap mask (tn mask h (12 + r)).1 (tn mask h (12 + r)).2).1=Ao mask (gU mask r (tn mask h 12).1)
  rw [←vV mask h r,qE]
  unfold leap Ao
  have:bits h / 32 ^ (12 + r) / 32=0:=by
   rw [Nat.div_div_eq_div_mul,←Nat.pow_succ]
   refine Nat.div_eq_of_lt (Nat.lt_of_lt_of_le (DY h) ?_)
   refine Nat.le_trans (show 2 ^ 64≤32 ^ 13 by decide) (Nat.pow_le_pow_right (by decide) (by omega))
  rw [this]
theorem Kz:∀i:Fin 8,∀j:Fin 8,(List.range 8).any (fun r=>gU 7 r i.val == j.val)=true:=by decide +kernel
theorem I_:∀i:Fin 32,∀j:Fin 32,(List.range 32).any (fun r=>gU 31 r i.val == j.val)=true:=by decide +kernel
def Gs:List Nat:=(List.range 128).map fun r=>gU 127 r 0
theorem xh:∀j:Fin 128,Gs.contains j.val=true:=by decide +kernel
theorem D0:gU 127 128 0=0:=by decide +kernel
theorem lH (mask:Nat):∀a b i,gU mask (a + b) i=gU mask a (gU mask b i)
 | 0,b,i=>by rw [Nat.zero_add];rfl
 | a + 1,b,i=>by
  rw [show a + 1 + b=(a + b) + 1 by omega]
  show Ao mask (gU mask (a + b) i)=Ao mask (gU mask a (gU mask b i))
  rw [lH mask a b i]
def jV (mask:Nat):Prop:=mask=7∨mask=31∨mask=127
theorem zV {mask:Nat}(hm:jV mask) (i j:Nat) (hi:i≤mask) (hj:j≤mask):∃r,r≤mask∧gU mask r i=j:=by
 rcases hm with rfl | rfl | rfl
 ·have:=Kz ⟨i,by omega⟩ ⟨j,by omega⟩
  rw [List.any_eq_true] at this
  obtain ⟨r,h1,h2⟩:=this
  exact ⟨r,by have:=List.mem_range.mp h1;omega,by simpa using h2⟩
 ·have:=I_ ⟨i,by omega⟩ ⟨j,by omega⟩
  rw [List.any_eq_true] at this
  obtain ⟨r,h1,h2⟩:=this
  exact ⟨r,by have:=List.mem_range.mp h1;omega,by simpa using h2⟩
 ·have hi':=xh ⟨i,by omega⟩
  have hj':=xh ⟨j,by omega⟩
  rw [List.contains_iff_mem] at hi' hj'
  obtain ⟨a,ha,ea⟩:=List.mem_map.mp hi'
  obtain ⟨b,hb,eb⟩:=List.mem_map.mp hj'
  have ha:=List.mem_range.mp ha
  have hb:=List.mem_range.mp hb
  have ea:gU 127 a 0=i:=ea
  have eb:gU 127 b 0=j:=eb
  by_cases c:a≤b
  ·refine ⟨b - a,by omega,?_⟩
   rw [←ea,←lH,show b - a + a=b by omega]
   exact eb
  ·refine ⟨128 + b - a,by omega,?_⟩
   rw [←ea,←lH,show 128 + b - a + a=b + 128 by omega,lH,D0]
   exact eb
theorem zj (mask:Nat) (h:Int) (k:Nat):(tn mask h k).1≤mask:=by
 cases k with
 | zero=>exact Nat.le_of_lt_succ (Nat.mod_lt _ (by omega))
 | succ k=>exact Nat.le_of_lt_succ (Nat.mod_lt _ (by omega))
theorem visits {mask:Nat}(hm:jV mask) (h:Int) (j:Nat) (hj:j≤mask):∃n,n≤10 * (mask + 12)∧pos mask h n=j:=by
 obtain ⟨r,hr,e⟩:=zV hm (tn mask h 12).1 j (zj mask h 12) hj
 obtain ⟨n,hn,q⟩:=xY mask h (12 + r)
 refine ⟨n,by omega,?_⟩
 show (st mask h n).j=j
 rw [q]
 show (tn mask h (12 + r)).1=j
 rw [vV,e]
theorem pR {mask:Nat}(hm:jV mask) (h:Int) (P:List Nat) (hP:P.length≤mask):∃n,n≤10 * (mask + 12)∧pos mask h n∉P∧∀m,m < n→pos mask h m∈P:=by
 have ex:∃j,j≤mask∧j∉P:=by
  by_cases c:∀j,j≤mask→j∈P
  ·exfalso
   have:(List.range (mask + 1)).length≤P.length:=List.Nodup.length_le_of_subset List.nodup_range fun j hj=>c j (by have:=List.mem_range.mp hj;omega)
   rw [List.length_range] at this
   omega
  ·exact Classical.byContradiction fun z=>c fun j hj=>Classical.byContradiction fun y=>z ⟨j,hj,y⟩
 obtain ⟨j,hj,hn⟩:=ex
 obtain ⟨n,hn1,hn2⟩:=visits hm h j hj
 have key:∀k,k≤n→(∃m,m≤k∧pos mask h m∉P∧∀m',m' < m→pos mask h m'∈P)∨∀m,m≤k→pos mask h m∈P:=by
  intro k
  induction k with
  | zero=>
   intro _
   by_cases c:pos mask h 0∈P
   ·exact .inr fun m hm=>by rw [show m=0 by omega];exact c
   ·exact .inl ⟨0,Nat.le_refl _,c,fun m' h'=>absurd h' (Nat.not_lt_zero _)⟩
  | succ k ih=>
   intro hk
   rcases ih (by omega) with ⟨m,h1,h2⟩ | h1
   ·exact .inl ⟨m,by omega,h2⟩
   ·by_cases c:pos mask h (k + 1)∈P
    ·exact .inr fun m hm=>by
      by_cases d:m≤k
      ·exact h1 m d
      ·rw [show m=k + 1 by omega];exact c
    ·exact .inl ⟨k + 1,Nat.le_refl _,c,fun m' h'=>h1 m' (by omega)⟩
 rcases key n (Nat.le_refl _) with ⟨m,h1,h2,h3⟩ | h1
 ·exact ⟨m,by omega,h2,h3⟩
 ·exact absurd (h1 n (Nat.le_refl _)) (by rw [hn2];exact hn)
def Reach (mask:Nat) (P:List Nat) (h:Int) (j:Nat):Prop:=∃n,pos mask h n=j∧∀m,m < n→pos mask h m∈P
theorem Reach.mono {mask:Nat}{P P':List Nat}{h:Int}{j:Nat}(r:Reach mask P h j) (s:∀x∈P,x∈P'):Reach mask P' h j:=
 let ⟨n,h1,h2⟩:=r;⟨n,h1,fun m hm=>s _ (h2 m hm)⟩
structure Tab (t:SetTable) (es:Array (Int×Value)) (L:List (Nat×Int×Value)):Prop where
 dm:t.dummies=#[]
 pl:t.place.toList=L.map (·.1)
 en:es.toList=L.map (·.2)
 so:(L.map (·.1)).Pairwise (· < ·)
 bd:∀e∈L,e.1≤t.mask
 mo:jV t.mask
 fl:L.length≤t.mask
 pr:∀e∈L,Reach t.mask (L.map (·.1)) e.2.1 e.1
section
variable {t:SetTable}{es:Array (Int×Value)}{L:List (Nat×Int×Value)}
theorem Tab.at_ (T:Tab t es L){i:Nat}{e:Nat×Int×Value}(h:L[i]?=some e):t.place[i]?=some e.1∧es[i]?=some e.2:=by
 constructor
 ·rw [←Array.getElem?_toList,T.pl,List.getElem?_map,h];rfl
 ·rw [←Array.getElem?_toList,T.en,List.getElem?_map,h];rfl
theorem Tab.sop (T:Tab t es L):t.place.toList.Pairwise (· < ·):=by rw [T.pl];exact T.so
theorem vn (T:Tab t es L) (hashAt:Nat→Int) (hA:∀i e,es[i]?=some e→hashAt i=e.1) (h:Int) (n0:Nat) (hf:pos t.mask h n0∉L.map (·.1)) (hb:∀m,m < n0→pos t.mask h m∈L.map (·.1)):
  ∀(d n F:Nat),n0 - n=d→n≤n0→d < F→∃m,n≤m∧m≤n0∧(∀k,n≤k→k < m→∀e∈L,e.1=pos t.mask h k→e.2.1≠h)∧
   ((m=n0∧probe.go t hashAt h F (st t.mask h n)=some (.empty (pos t.mask h n0) none))∨(m < n0∧∃i e,L[i]?=some e∧e.1=pos t.mask h m∧e.2.1=h∧probe.go t hashAt h F (st t.mask h n)=some (.candidate (pos t.mask h m) i (st t.mask h (m + 1)))))
 | d,n,0,_,_,h=>absurd h (Nat.not_lt_zero _)
 | d,n,F + 1,hd,hn,hF=>by
  by_cases c:n=n0
  ·subst c
   refine ⟨n,Nat.le_refl _,Nat.le_refl _,fun k h1 h2=>by omega,.inl ⟨rfl,?_⟩⟩
   unfold probe.go
   rw [qz T.dm (by rw [T.pl];exact hf)]
   show some (Met.empty _ (st t.mask h n).dummy)=_
   rw [lS]
  ·obtain ⟨e,he,ej⟩:=List.mem_map.mp (hb n (by omega))
   obtain ⟨i,hi,rfl⟩:=List.mem_iff_getElem.mp he
   have hL:L[i]?=some L[i]:=List.getElem?_eq_getElem hi
   obtain ⟨p1,p2⟩:=T.at_ hL
   have hs:t.slot (pos t.mask h n)=.live i:=nM T.sop (by rw [p1,ej])
   have hh:=hA i _ p2
   have uniq:∀e∈L,e.1=pos t.mask h n→e=L[i]:=fun e he q=>by
    obtain ⟨k,hk,rfl⟩:=List.mem_iff_getElem.mp he
    have:k=i:=by
     have sw:=List.pairwise_iff_getElem.mp T.so
     rcases Nat.lt_trichotomy k i with c | c | c
     ·have:=sw k i (by simpa using hk) (by simpa using hi) c
      simp at this
      omega
     ·exact c
     ·have:=sw i k (by simpa using hi) (by simpa using hk) c
      simp at this
      omega
    subst this;rfl
   by_cases q:L[i].2.1=h
   ·refine ⟨n,Nat.le_refl _,by omega,fun k h1 h2=>by omega,.inr ⟨by omega,i,L[i],hL,ej,q,?_⟩⟩
    unfold probe.go
    rw [hs]
    show (if (hashAt i == h)=true then _ else _)=_
    rw [hh,q,if_pos (by simp)]
    rfl
   ·obtain ⟨m,m1,m2,m3,m4⟩:=vn T hashAt hA h n0 hf hb (n0 - (n + 1)) (n + 1) F rfl (by omega) (by omega)
    have eg:probe.go t hashAt h (F + 1) (st t.mask h n)=probe.go t hashAt h F (st t.mask h (n + 1)):=by
     rw [probe.go,hs]
     show (if (hashAt i == h)=true then _ else _)=_
     rw [hh,if_neg (by simpa using q)]
     rfl
    rw [eg]
    refine ⟨m,by omega,m2,fun k h1 h2 e he' ek=>?_,m4⟩
    by_cases z:k=n
    ·subst z
     rw [uniq e he' ek];exact q
    ·exact m3 k (by omega) h2 e he' ek
theorem mC {α:Type}(xs:Array α) (p:Nat) (x:α) (hp:p≤xs.size):(insertAt xs p x).toList=xs.toList.take p++x::xs.toList.drop p:=by
 unfold insertAt
 simp
 (exact List.take_of_length_le (by simp))
theorem Tab.put (T:Tab t es L) (h:Int) (x:Value) (n0:Nat) (hf:pos t.mask h n0∉L.map (·.1)) (hb:∀m,m < n0→pos t.mask h m∈L.map (·.1)) (hj:pos t.mask h n0≤t.mask) (hl:L.length + 1≤t.mask):
  ∃L',Tab (t.put (pos t.mask h n0)).1 (insertAt es (t.put (pos t.mask h n0)).2 (h,x)) L'∧L'.Perm ((pos t.mask h n0,h,x)::L):=by
 obtain ⟨b1,b2,b3⟩:=lg t.place (pos t.mask h n0) T.sop
 generalize hp:below t.place (pos t.mask h n0)=p at b1 b2 b3
 have hsz:t.place.size=L.length:=by rw [←Array.length_toList,T.pl,List.length_map]
 have hes:es.size=L.length:=by rw [←Array.length_toList,T.en,List.length_map]
 have perm:(L.take p++(pos t.mask h n0,h,x)::L.drop p).Perm ((pos t.mask h n0,h,x)::L):=by
  have:=List.perm_middle (a:=(pos t.mask h n0,h,x)) (l₁:=L.take p) (l₂:=L.drop p)
  rwa [List.take_append_drop] at this
 have e1:(t.put (pos t.mask h n0))=({t with place:=insertAt t.place p (pos t.mask h n0),dummies:=#[]},p):=by
  unfold SetTable.put
  rw [hp,T.dm]
  rfl
 rw [e1]
 have getP:∀i (hi:i < L.length),t.place.getD i 0=L[i].1:=fun i hi=>by
  have:=(T.at_ (List.getElem?_eq_getElem hi)).1
  have hi':i < t.place.size:=by omega
  simp [Array.getD,hi']
  rw [Array.getElem?_eq_getElem hi'] at this
  exact Option.some.inj this
 refine ⟨L.take p++(pos t.mask h n0,h,x)::L.drop p,⟨rfl,?_,?_,?_,fun e he=>?_,T.mo,?_,fun e he=>?_⟩,perm⟩
 ·show (insertAt t.place p (pos t.mask h n0)).toList=_
  rw [mC _ _ _ b1,T.pl]
  simp [List.map_take,List.map_drop]
 ·show (insertAt es p (h,x)).toList=_
  rw [mC _ _ _ (by omega),T.en]
  simp [List.map_take,List.map_drop]
 ·rw [List.map_append,List.map_cons,List.pairwise_append]
  refine ⟨?_,?_,?_⟩
  ·rw [List.map_take]
   exact T.so.sublist (List.take_sublist _ _)
  ·rw [List.pairwise_cons]
   refine ⟨fun a ha=>?_,?_⟩
   ·obtain ⟨e,he,rfl⟩:=List.mem_map.mp ha
    obtain ⟨i,hi,rfl⟩:=List.mem_iff_getElem.mp he
    rw [List.getElem_drop]
    rw [List.length_drop] at hi
    have:=b3 (p + i) (by omega) (by omega)
    rw [getP _ (by omega)] at this
    rcases Nat.lt_or_eq_of_le this with c | c
    ·exact c
    ·exact absurd (List.mem_map.mpr ⟨L[p + i],List.getElem_mem _,c.symm⟩) hf
   ·rw [List.map_drop]
    exact T.so.sublist (List.drop_sublist _ _)
  ·intro a ha b hb
   obtain ⟨e,he,rfl⟩:=List.mem_map.mp ha
   obtain ⟨i,hi,rfl⟩:=List.mem_iff_getElem.mp he
   rw [List.getElem_take]
   rw [List.length_take] at hi
   have h1:=b2 i (by omega)
   rw [getP _ (by omega)] at h1
   (rcases List.mem_cons.mp hb with rfl | hb)
   ·exact h1
   ·obtain ⟨e,he,rfl⟩:=List.mem_map.mp hb
    obtain ⟨k,hk,rfl⟩:=List.mem_iff_getElem.mp he
    rw [List.getElem_drop]
    rw [List.length_drop] at hk
    have:=b3 (p + k) (by omega) (by omega)
    rw [getP _ (by omega)] at this
    omega
 ·rcases List.mem_cons.mp (perm.mem_iff.mp he) with rfl | he
  ·exact hj
  ·exact T.bd e he
 ·rw [perm.length_eq];exact hl
 ·have sub:∀y∈L.map (·.1),y∈(L.take p++(pos t.mask h n0,h,x)::L.drop p).map (·.1):=fun y hy=>by
   obtain ⟨e,he,rfl⟩:=List.mem_map.mp hy
   exact List.mem_map.mpr ⟨e,perm.mem_iff.mpr (List.mem_cons_of_mem _ he),rfl⟩
  rcases List.mem_cons.mp (perm.mem_iff.mp he) with rfl | he
  ·exact ⟨n0,rfl,fun m hm=>sub _ (hb m hm)⟩
  ·exact (T.pr e he).mono sub
end
theorem kU (mask:Nat) (h:Int) (n i p m:Nat) (e:st mask h n={j:=i,more:=m,i:=i,perturb:=p,dummy:=none}):∀r,r≤m→st mask h (n + r)={j:=i + r,more:=m - r,i:=i,perturb:=p,dummy:=none}
 | 0,_=>e
 | r + 1,hr=>by
  show advance _ (st mask h (n + r))=_
  rw [kU mask h n i p m e r (by omega)]
  unfold advance
  rw [if_pos (by show m - r > 0;omega)]
  show Probe.mk _ _ _ _ _=_
  congr 1
theorem Be (mask:Nat) (h:Int) (k n:Nat) (e:st mask h n={j:=(tn mask h k).1,more:=runEnd mask (tn mask h k).1 - (tn mask h k).1,i:=(tn mask h k).1,perturb:=(tn mask h k).2,dummy:=none}):
  st mask h (n + (runEnd mask (tn mask h k).1 - (tn mask h k).1) + 1)={j:=(tn mask h (k + 1)).1,more:=runEnd mask (tn mask h (k + 1)).1 - (tn mask h (k + 1)).1,i:=(tn mask h (k + 1)).1,perturb:=(tn mask h (k + 1)).2,dummy:=none}:=by
 show advance _ (st mask h (n + (runEnd mask (tn mask h k).1 - (tn mask h k).1)))=_
 rw [kU mask h n _ _ _ e _ (Nat.le_refl _)]
 unfold advance
 simp
 exact ⟨rfl,rfl,rfl,rfl⟩
theorem rQ (mask:Nat) (h:Int) (owner:Array (Option Nat)) (G:List Nat) (ho:∀j,j≤mask→((owner.getD j (some 0)).isNone=true↔j∉G)):
  ∀(f k n:Nat),st mask h n={j:=(tn mask h k).1,more:=runEnd mask (tn mask h k).1 - (tn mask h k).1,i:=(tn mask h k).1,perturb:=(tn mask h k).2,dummy:=none}→(∀m,m < n→pos mask h m∈G)→
   (∃n',layClean.free mask owner f (tn mask h k).1 (tn mask h k).2=some (pos mask h n')∧pos mask h n'≤mask∧pos mask h n'∉G∧∀m,m < n'→pos mask h m∈G)∨(layClean.free mask owner f (tn mask h k).1 (tn mask h k).2=none∧∀r,r < f→(tn mask h (k + r)).1∈G)
 | 0,k,n,e,hb=>.inr ⟨rfl,fun r hr=>absurd hr (Nat.not_lt_zero _)⟩
 | f + 1,k,n,e,hb=>by
  have hi:=zj mask h k
  have re:runEnd mask (tn mask h k).1≤mask∧(tn mask h k).1≤runEnd mask (tn mask h k).1:=by unfold runEnd;split <;> omega
  unfold layClean.free
  cases q:(List.range (runEnd mask (tn mask h k).1 + 1 - (tn mask h k).1)).find? fun r=>(owner.getD ((tn mask h k).1 + r) (some 0)).isNone with
  | some r=>
   have h1:=List.find?_some q
   have h2:=List.mem_range.mp (List.mem_of_find?_eq_some q)
   have h3:pos mask h (n + r)=(tn mask h k).1 + r:=by
    show (st mask h (n + r)).j=_
    rw [kU mask h n _ _ _ e r (by omega)]
   refine .inl ⟨n + r,?_,?_,?_,?_⟩
   ·show some _=_
    rw [h3]
   ·rw [h3];omega
   ·rw [h3];exact (ho _ (by omega)).mp h1
   ·intro m hm
    by_cases c:m < n
    ·exact hb m c
    ·obtain ⟨s,rfl⟩:∃s,m=n + s:=⟨m - n,by omega⟩
     have h4:pos mask h (n + s)=(tn mask h k).1 + s:=by
      show (st mask h (n + s)).j=_
      rw [kU mask h n _ _ _ e s (by omega)]
     rw [h4]
     refine Classical.byContradiction fun z=>?_
     have z':=(ho ((tn mask h k).1 + s) (by omega)).mpr z
     rw [List.find?_eq_some_iff_append] at q
     obtain ⟨_,as,bs,eq,hall⟩:=q
     have hs:s∈as:=by
      have hlen:as.length=r:=by
       have hl:as.length < (List.range (runEnd mask (tn mask h k).1 + 1 - (tn mask h k).1)).length:=by rw [eq];simp
       have e3:(List.range (runEnd mask (tn mask h k).1 + 1 - (tn mask h k).1))[as.length]?=some r:=by rw [eq];simp
       rw [List.length_range] at hl
       rw [List.getElem?_range hl] at e3
       exact Option.some.inj e3
      have e4:(List.range (runEnd mask (tn mask h k).1 + 1 - (tn mask h k).1))[s]?=some s:=List.getElem?_range (by omega)
      rw [eq,List.getElem?_append_left (by omega)] at e4
      exact List.mem_of_getElem? e4
     have:=hall s hs
     rw [z'] at this
     exact absurd this (by decide)
  | none=>
   have hall:=List.find?_eq_none.mp q
   have occ:∀s,s≤runEnd mask (tn mask h k).1 - (tn mask h k).1→(tn mask h k).1 + s∈G:=fun s hs=>Classical.byContradiction fun z=>by
    have z':=(ho ((tn mask h k).1 + s) (by omega)).mpr z
    exact hall s (List.mem_range.mpr (by omega)) z'
   have nb:∀m,m < n + (runEnd mask (tn mask h k).1 - (tn mask h k).1) + 1→pos mask h m∈G:=fun m hm=>by
    by_cases c:m < n
    ·exact hb m c
    ·obtain ⟨s,rfl⟩:∃s,m=n + s:=⟨m - n,by omega⟩
     have h4:pos mask h (n + s)=(tn mask h k).1 + s:=by
      show (st mask h (n + s)).j=_
      rw [kU mask h n _ _ _ e s (by omega)]
     rw [h4]
     exact occ s (by omega)
   rcases rQ mask h owner G ho f (k + 1) _ (Be mask h k n e) nb with ⟨n',g1,g2',g3⟩ | ⟨g1,g2'⟩
   ·exact .inl ⟨n',g1,g2',g3⟩
   ·refine .inr ⟨g1,fun r hr=>?_⟩
    cases r with
    | zero=>have:=occ 0 (Nat.zero_le _);exact this
    | succ r=>have:=g2' r (by omega);rwa [show k + (r + 1)=k + 1 + r by omega]
theorem Eh {mask:Nat}(hm:jV mask) (h:Int) (owner:Array (Option Nat)) (G:List Nat) (hG:G.length≤mask) (ho:∀j,j≤mask→((owner.getD j (some 0)).isNone=true↔j∉G)):
  ∃n',layClean.free mask owner (turns mask) (bits h % (mask + 1)) (bits h)=some (pos mask h n')∧pos mask h n'≤mask∧pos mask h n'∉G∧∀m,m < n'→pos mask h m∈G:=by
 rcases rQ mask h owner G ho (turns mask) 0 0 rfl (fun m hm=>absurd hm (Nat.not_lt_zero _)) with a | ⟨_,b⟩
 ·exact a
 ·exfalso
  have all:∀j,j≤mask→j∈G:=fun j hj=>by
   obtain ⟨r,hr,e⟩:=zV hm (tn mask h 12).1 j (zj mask h 12) hj
   have:=b (12 + r) (by unfold turns;omega)
   rw [Nat.zero_add,vV,e] at this
   exact this
  have:(List.range (mask + 1)).length≤G.length:=List.Nodup.length_le_of_subset List.nodup_range fun j hj=>all j (by have:=List.mem_range.mp hj;omega)
  rw [List.length_range] at this
  omega
structure Own (mask:Nat) (owner:Array (Option Nat)) (G:List Nat) (hs:List Int):Prop where
 sz:owner.size=mask + 1
 ln:G.length=hs.length
 nd:G.Nodup
 bd:∀j∈G,j≤mask
 at_:∀j,j≤mask→owner.getD j none=if j∈G then some (G.idxOf j) else none
 pr:∀k (h1:k < G.length) (h2:k < hs.length),Reach mask G hs[k] G[k]
theorem Own.occ {mask:Nat}{owner:Array (Option Nat)}{G:List Nat}{hs:List Int}(O:Own mask owner G hs):∀j,j≤mask→((owner.getD j (some 0)).isNone=true↔j∉G):=fun j hj=>by
 have e:owner.getD j (some 0)=owner.getD j none:=by
  have:j < owner.size:=by rw [O.sz];omega
  simp [Array.getD,this]
 rw [e,O.at_ j hj]
 split <;> simp_all
theorem Own.step {mask:Nat}{owner:Array (Option Nat)}{G:List Nat}{hs:List Int}(O:Own mask owner G hs) (hm:jV mask) (hl:hs.length≤mask) (h:Int):
  ∃j,layClean.free mask owner (turns mask) (bits h % (mask + 1)) (bits h)=some j∧Own mask (owner.setIfInBounds j (some hs.length)) (G++[j]) (hs++[h]):=by
 obtain ⟨n',e,b,f,r⟩:=Eh hm h owner G (by rw [O.ln];exact hl) O.occ
 refine ⟨_,e,⟨by rw [Array.size_setIfInBounds,O.sz],by simp [O.ln],?_,fun j hj=>?_,fun j hj=>?_,fun k h1 h2=>?_⟩⟩
 ·rw [List.nodup_append]
  refine ⟨O.nd,by simp,fun a ha b hb=>?_⟩
  rw [List.mem_singleton] at hb
  subst hb
  intro z;subst z;exact f ha
 ·rcases List.mem_append.mp hj with h1 | h1
  ·exact O.bd j h1
  ·rw [List.mem_singleton.mp h1];exact b
 ·have hsz:j < owner.size:=by rw [O.sz];omega
  by_cases c:j=pos mask h n'
  ·subst c
   rw [if_pos (by simp)]
   simp [Array.getD,hsz]
   rw [List.idxOf_append,if_neg f]
   simp [O.ln]
  ·have e1:(owner.setIfInBounds (pos mask h n') (some hs.length)).getD j none=owner.getD j none:=by
    simp [Array.getD,hsz]
    rw [Array.getElem_setIfInBounds_ne]
    exact fun z=>c z.symm
   rw [e1,O.at_ j hj]
   by_cases d:j∈G
   ·rw [if_pos d,if_pos (List.mem_append_left _ d),List.idxOf_append,if_pos d]
   ·rw [if_neg d,if_neg (by simp [d,c])]
 ·have sub:∀x∈G,x∈G++[pos mask h n']:=fun x hx=>List.mem_append_left _ hx
  by_cases c:k < G.length
  ·have:=(O.pr k c (by rw [←O.ln];exact c)).mono sub
   rw [List.getElem_append_left c,List.getElem_append_left (by rw [←O.ln];exact c)]
   exact this
  ·have hk:k=G.length:=by simp at h1;omega
   subst hk
   have e1:(G++[pos mask h n'])[G.length]=pos mask h n':=by simp
   have e2:(hs++[h])[G.length]=h:=by simp [O.ln]
   rw [e1,e2]
   exact ⟨n',rfl,fun m hm=>sub _ (r m hm)⟩
theorem u7 {mask:Nat}(hm:jV mask):∀(rest hs:List Int) (owner:Array (Option Nat)) (G:List Nat),Own mask owner G hs→(hs++rest).length≤mask→∃owner' G',rest.foldl (fun acc h=>do
  let (owner,k) ←acc
  let j ←layClean.free mask owner (turns mask) (bits h % (mask + 1)) (bits h)
  pure (owner.setIfInBounds j (some k),k + 1)) (some (owner,hs.length))=some (owner',(hs++rest).length)∧Own mask owner' G' (hs++rest)
 | [],hs,owner,G,O,_=>⟨owner,G,by simp,by simpa using O⟩
 | h::rest,hs,owner,G,O,hl=>by
  obtain ⟨j,e,O'⟩:=O.step hm (by simp at hl;omega) h
  obtain ⟨owner',G',e2,O2⟩:=u7 hm rest (hs++[h]) _ _ O' (by simpa using hl)
  refine ⟨owner',G',?_,by simpa using O2⟩
  rw [List.foldl_cons]
  have e3:(do
   let (owner,k) ←some (owner,hs.length)
   let j ←layClean.free mask owner (turns mask) (bits h % (mask + 1)) (bits h)
   pure (owner.setIfInBounds j (some k),k + 1):Option (Array (Option Nat)×Nat))=some (owner.setIfInBounds j (some hs.length),(hs++[h]).length):=by
   show Option.bind (layClean.free mask owner (turns mask) (bits h % (mask + 1)) (bits h)) _=_
   rw [e]
   simp
  rw [e3]
  simpa using e2
theorem EH (mask:Nat):Own mask (Array.replicate (mask + 1) none) [] []:=
 ⟨by simp,rfl,List.nodup_nil,fun j h=>absurd h (by simp),fun j hj=>by simp [Array.getD],fun k h1=>absurd h1 (by simp)⟩
theorem An {mask:Nat}(hm:jV mask) (hs:Array Int) (hl:hs.size≤mask):∃owner G,layClean mask hs=some owner∧Own mask owner G hs.toList:=by
 obtain ⟨owner,G,e,O⟩:=u7 hm hs.toList [] _ [] (EH mask) (by simpa using hl)
 refine ⟨owner,G,?_,by simpa using O⟩
 unfold layClean
 rw [←Array.foldl_toList]
 have e':=congrArg (Option.map (·.1)) e
 exact e'
theorem Eu {t:SetTable}{es:Array (Int×Value)}{mask:Nat}(hm:jV mask) (finger moves:Nat) (led plain:Bool) (hl:es.size≤mask):
  ∃t' order L',laid mask finger moves led plain (es.map (·.1))=some (t',order)∧t'.mask=mask∧t'.led=led∧t'.plain=plain∧Tab t' (order.filterMap (es[·]?)) L'∧(order.filterMap (es[·]?)).toList.Perm es.toList:=by
 obtain ⟨owner,G,e,O⟩:=An hm (es.map (·.1)) (by simpa using hl)
 have hlen:G.length=es.size:=by rw [O.ln];simp
 (let live:=(List.range (mask + 1)).filterMap fun j=>(owner.getD j none).map (j,·))
 have lv:∀p,p∈live↔p.1∈G∧p.2=G.idxOf p.1:=fun p=>by
  show p∈(List.range (mask + 1)).filterMap _↔_
  rw [List.mem_filterMap]
  constructor
  ·rintro ⟨j,hj,q⟩
   have hj':j≤mask:=by have:=List.mem_range.mp hj;omega
   rw [O.at_ j hj'] at q
   by_cases c:j∈G
   ·rw [if_pos c] at q
    have q:(j,G.idxOf j)=p:=by simpa using q
    subst q
    exact ⟨c,rfl⟩
   ·rw [if_neg c] at q;exact absurd q (by simp)
  ·rintro ⟨h1,h2⟩
   refine ⟨p.1,List.mem_range.mpr (by have:=O.bd _ h1;omega),?_⟩
   rw [O.at_ _ (O.bd _ h1),if_pos h1]
   show some (p.1,G.idxOf p.1)=some p
   rw [←h2]
 have so1:live.Pairwise fun a b=>a.1 < b.1:=by
  show ((List.range (mask + 1)).filterMap _).Pairwise _
  rw [List.pairwise_filterMap]
  refine List.pairwise_lt_range.imp ?_
  intro a b hab x hx y hy
  cases q1:owner.getD a none with
  | none=>rw [q1] at hx;exact absurd hx (by simp)
  | some k1=>cases q2:owner.getD b none with
   | none=>rw [q2] at hy;exact absurd hy (by simp)
   | some k2=>
    rw [q1] at hx;rw [q2] at hy
    have hx:(a,k1)=x:=by simpa using hx
    have hy:(b,k2)=y:=by simpa using hy
    subst hx;subst hy;exact hab
 have ord:(live.map (·.2)).Perm (List.range es.size):=by
  rw [List.perm_ext_iff_of_nodup _ List.nodup_range]
  ·intro k
   rw [List.mem_map,List.mem_range]
   constructor
   ·rintro ⟨p,hp,rfl⟩
    obtain ⟨h1,h2⟩:=(lv p).mp hp
    rw [h2,←hlen]
    exact List.idxOf_lt_length_of_mem h1
   ·intro hk
    rw [←hlen] at hk
    exact ⟨(G[k],k),(lv _).mpr ⟨List.getElem_mem _,(O.nd.idxOf_getElem k hk).symm⟩,rfl⟩
  ·show (live.map (·.2)).Pairwise _
   rw [List.pairwise_map]
   refine (List.Pairwise.and_mem.mp so1).imp ?_
   rintro a b ⟨ha,hb,hab⟩ z
   obtain ⟨a1,a2⟩:=(lv a).mp ha
   obtain ⟨b1,b2⟩:=(lv b).mp hb
   rw [a2,b2] at z
   have ga:=List.getElem_idxOf (List.idxOf_lt_length_of_mem a1)
   have gb:=List.getElem_idxOf (List.idxOf_lt_length_of_mem b1)
   have:a.1=b.1:=by
    rw [←ga,←gb]
    congr 1
   omega
 have inR:∀p∈live,∃h:p.2 < es.size,True:=fun p hp=>by
  have:p.2∈live.map (·.2):=List.mem_map.mpr ⟨p,hp,rfl⟩
  exact ⟨List.mem_range.mp (ord.mem_iff.mp this),trivial⟩
 let L':=live.map fun p=>(p.1,es.getD p.2 default)
 have eL:(live.map (·.2)).toArray.filterMap (es[·]?)=(L'.map (·.2)).toArray:=by
  rw [List.filterMap_toArray]
  congr 1
  show List.filterMap _ (live.map _)=(live.map _).map _
  rw [List.filterMap_map,List.map_map]
  have:∀(l:List (Nat×Nat)),(∀p∈l,p∈live)→List.filterMap ((fun x=>es[x]?) ∘ fun x=>x.snd) l=List.map ((fun x=>x.snd) ∘ fun p=>(p.fst,es.getD p.snd default)) l:=by
   intro l
   induction l with
   | nil=>intro _;rfl
   | cons p l ih=>
    intro hl
    obtain ⟨hp,_⟩:=inR p (hl p (by simp))
    rw [List.filterMap_cons_some (b:=es.getD p.2 default)]
    ·rw [List.map_cons,ih fun q hq=>hl q (by simp [hq])]
     rfl
    ·show es[p.2]?=_
     simp [Array.getD,hp]
  exact this live fun p hp=>hp
 have eP:L'.map (·.1)=live.map (·.1):=by
  show (live.map _).map _=_
  rw [List.map_map];rfl
 have memP:∀j,j∈live.map (·.1)↔j∈G:=fun j=>by
  rw [List.mem_map]
  constructor
  ·rintro ⟨p,hp,rfl⟩;exact ((lv p).mp hp).1
  ·intro h;exact ⟨(j,G.idxOf j),(lv _).mpr ⟨h,rfl⟩,rfl⟩
 have lenL:L'.length=es.size:=by
  have:=ord.length_eq
  rw [List.length_map,List.length_range] at this
  show (live.map _).length=_
  rw [List.length_map,this]
 refine ⟨{mask,place:=(live.map (·.1)).toArray,dummies:=#[],finger,led,moves,plain},(live.map (·.2)).toArray,L',?_,rfl,rfl,rfl,⟨rfl,?_,?_,?_,fun x hx=>?_,hm,?_,fun x hx=>?_⟩,?_⟩
 ·unfold laid
  rw [e]
  rfl
 ·show (live.map (·.1)).toArray.toList=_
  rw [eP]
 ·rw [eL]
 ·rw [eP,List.pairwise_map];exact so1
 ·obtain ⟨p,hp,rfl⟩:=List.mem_map.mp hx
  exact O.bd _ ((lv p).mp hp).1
 ·show L'.length≤mask
  rw [lenL];exact hl
 ·obtain ⟨p,hp,rfl⟩:=List.mem_map.mp hx
  obtain ⟨h1,h2⟩:=(lv p).mp hp
  obtain ⟨hs,_⟩:=inR p hp
  have r:=O.pr p.2 (by omega) (by simpa using hs)
  have e1:G[p.2]'(by omega)=p.1:=by
   have:=List.getElem_idxOf (List.idxOf_lt_length_of_mem h1)
   rw [←this]
   congr 1
  have e2:((es.map (·.1)).toList[p.2]'(by simpa using hs))=(es.getD p.2 default).1:=by
   simp [Array.getD,hs]
  rw [e1,e2] at r
  show Reach mask (L'.map (·.1)) (es.getD p.2 default).1 p.1
  refine r.mono fun y hy=>?_
  rw [eP]
  exact (memP y).mpr hy
 ·rw [eL]
  show (L'.map (·.2)).Perm es.toList
  have e1:(live.map (·.2)).map (fun k=>es.getD k default)=L'.map (·.2):=by
   show _=(live.map _).map _
   rw [List.map_map,List.map_map];rfl
  rw [←e1]
  refine (ord.map _).trans ?_
  have:(List.range es.size).map (fun k=>es.getD k default)=es.toList:=by
   refine List.ext_getElem (by simp) fun i h1 h2=>?_
   simp at h1
   simp [Array.getD,h1]
  rw [this]
theorem sj {t:SetTable}{es:Array (Int×Value)}{w:Nat}(hm:jV (sizeAbove w - 1)) (hl:es.size≤sizeAbove w - 1):
  ∃t' order L',t.relaid (es.map (·.1)) w=some (t',order)∧t'.mask=sizeAbove w - 1∧t'.led=t.led∧t'.plain=t.plain∧Tab t' (order.filterMap (es[·]?)) L'∧(order.filterMap (es[·]?)).toList.Perm es.toList:=
 Eu (t:=t) hm t.finger (t.movedTo (sizeAbove w - 1)) t.led t.plain hl
end ST
namespace DL
open PySem PySem.Spec PyProof.Rows L2
mutual
def isKey:D→Bool
 | .int _=>true
 | .tup xs=>areKeys xs
 | _=>false
def areKeys:List D→Bool
 | []=>true
 | x::xs=>isKey x && areKeys xs
end
mutual
def bQ:D→Int
 | .int i=>hashInt i
 | .tup xs=>reduceHash (Builtin.Tuple.tupleHashOf (fC xs))
 | _=>0
def fC:List D→List Int
 | []=>[]
 | x::xs=>bQ x::fC xs
end
mutual
def j3:D→Nat
 | .int _=>1
 | .tup xs=>eS xs + 1
 | _=>0
def eS:List D→Nat
 | []=>0
 | x::xs=>j3 x + eS xs
end
theorem oE:∀{ds:List D},areKeys ds=true→∀d∈ds,isKey d=true
 | [],_,_,h=>nomatch h
 | x::xs,h,d,hm=>by
  unfold areKeys at h
  rw [Bool.and_eq_true] at h
  (rcases List.mem_cons.mp hm with rfl | hm)
  ·exact h.1
  ·exact oE h.2 d hm
mutual
theorem Am:∀{d e:D},isKey d=true→isKey e=true→bh d e=true→d=e
 | .int i,.int j,_,_,h=>by simp [bh] at h;rw [h]
 | .tup xs,.tup ys,hd,he,h=>by
  unfold isKey at hd he
  simp only [bh] at h
  rw [keys_eq hd he h]
 | .int _,.tup _,_,_,h=>by simp [bh] at h
 | .tup _,.int _,_,_,h=>by simp [bh] at h
theorem keys_eq:∀{ds es:List D},areKeys ds=true→areKeys es=true→cY ds es=true→ds=es
 | [],[],_,_,_=>rfl
 | x::xs,y::ys,hd,he,h=>by
  unfold areKeys at hd he
  rw [Bool.and_eq_true] at hd he
  simp only [cY,Bool.and_eq_true] at h
  rw [Am hd.1 he.1 h.1,keys_eq hd.2 he.2 h.2]
 | [],_::_,_,_,h=>by simp [cY] at h
 | _::_,[],_,_,h=>by simp [cY] at h
end
theorem HF.keep {K:PySem.W.Frag}{J:Hp}{s s':Shared}(F:HF K J s) (k:∀b o,s.heap.get? b=some o→s'.heap.get? b=some o):HF K J s':=
 ⟨fun a xs h=>let ⟨its,r,o,ho,p⟩:=F.t a xs h;⟨its,r,o,k _ _ ho,p⟩,fun a xs h=>let ⟨its,r,o,ho,p⟩:=F.l a xs h;⟨its,r,o,k _ _ ho,p⟩,fun a h=>let ⟨o,ho,p⟩:=F.e a h;⟨o,k _ _ ho,p⟩⟩
section
variable {prog:Program}{w:World}{E:Value→Shared→Prop}{K:PySem.W.Frag}{J:Hp}
def zy (prog:Program) (w:World) (A:Around) (K:PySem.W.Frag) (J:Hp) (d:D) (u:Value):Prop:=
 ∀(E:Value→Shared→Prop) (s:Shared) (Q:Int→Shared→Prop),HF K J s→Q (bQ d) {s with toks:=s.toks + j3 d}→wpAny (model prog w) A (pyHash u) Q E s
inductive jw (prog:Program) (w:World) (A:Around) (K:PySem.W.Frag) (J:Hp):List D→List Value→Prop
 | nil:jw prog w A K J [] []
 | cons {d:D}{u:Value}{ds:List D}{us:List Value}:zy prog w A K J d u→jw prog w A K J ds us→jw prog w A K J (d::ds) (u::us)
theorem p6:∀(a b:List D),fC (a++b)=fC a++fC b
 | [],b=>rfl
 | x::a,b=>by show bQ x::fC (a++b)=_;rw [p6 a b];rfl
theorem pN:∀(a b:List D),eS (a++b)=eS a + eS b
 | [],b=>by show eS b=0 + _;omega
 | x::a,b=>by show j3 x + eS (a++b)=j3 x + eS a + eS b;rw [pN a b];omega
theorem BO {A:Around}{s:Shared}{a:Addr}{o:Obj}{its:List Value}{n:Nat}{ds:List D}{Q:Int→Shared→Prop}(N:HF K J s) (ho:s.heap.get? a=some o) (hc:o.cls=.type "tuple") (hd:o.data=.seq its.toArray n) (hu:A.units < cLine)
  (hl:jw prog w A.in1 K J ds its) (h:Q (reduceHash (Builtin.Tuple.tupleHashOf (fC ds))) {s with toks:=s.toks + (eS ds + 1)}):wpAny (model prog w) A (pyHash (.ref a)) Q E s:=by
 have hT:s.TypeIs (.ref a) "tuple":=⟨o,ho,hc⟩
 unfold pyHash
 (first | unfold pyHashByItsType | skip)
 (first | refine wpAny_bind (wpAny_cRoomFor_or (.inr hu) ?_) | skip)
 (refine wpAny_bind (wpAny_specialOf hT F.slot_tuple_hash.lookup ?_))
 (show wpAny _ _ (if (some (Value.builtin "tuple.__hash__") == some Value.none)=true then _ else _) Q E s)
 (rw [if_neg (by rw [beq_builtin_none];exact Bool.false_ne_true)])
 (refine wpAny_bind (wpAny_specialOf hT F.slot_tuple_hash.lookup ?_))
 (show wpAny _ _ (callSpecialIfBoundUnlessNone? (.ref a) "__hash__" _ >>= _) Q E s)
 (refine wpAny_bind (wpAny_callSpecialIfBoundUnlessNone?_slot hT F.slot_tuple_hash (wpAny_call_entry F.slot_tuple_hash hT F.entry_tuple_hash ?_ (F.args_tuple_hash_1 _))))
 (show wpAny _ _ (Builtin.Tuple.tupleItemsOf (.ref a) >>= _) _ _ s)
 (refine wpAny_bind (wpAny_tupleItemsOf ho hd ?_))
 refine wpAny_bind ?_
 rw [←Array.forIn_toList]
 refine wpAny_forIn_list _
  (fun rest (b:Array Int) s'=>∃done left,ds=done++left∧jw prog w A.in1 K J left rest∧b.toList=fC done∧s'={s with toks:=s.toks + eS done})
  _ ?_ ?_ _ _ ⟨[],ds,rfl,hl,rfl,rfl⟩
 ·(rintro x rest b s' ⟨done,left,rfl,hl,hb,rfl⟩)
  cases hl with
  | @cons k _ ks' _ h1 hl'=>
   refine wpAny_bind (h1 _ _ _ ⟨N.t,N.l,N.e⟩ ?_)
   have e1:(b.push (bQ k)).toList=fC (done++[k]):=by rw [Array.toList_push,p6,hb];rfl
   have e2:s.toks + eS done + j3 k=s.toks + eS (done++[k]):=by rw [pN];show _=s.toks + (eS done + (j3 k + 0));omega
   first
    | exact wpAny_pure ⟨done++[k],ks',by simp,hl',e1,by rw [e2]⟩
    | exact wpAny_bind (wpAny_pure (wpAny_pure ⟨done++[k],ks',by simp,hl',e1,by rw [e2]⟩))
 ·(rintro b s' ⟨done,left,rfl,hl,hb,rfl⟩)
  cases hl
  rw [List.append_nil] at h
  (show wpAny _ _ (retInt (Builtin.Tuple.tupleHashOf b.toList)) _ _ _)
  rw [hb]
  refine wpAny_ret_mkInt ?_
  show wpAny _ _ (if (decide (-(2:Int) ^ 63≤Builtin.Tuple.tupleHashOf (fC done)) && decide (Builtin.Tuple.tupleHashOf (fC done) < 2 ^ 63))=true then _ else _) Q E _
  unfold reduceHash at h
  by_cases hr:(decide (-(2:Int) ^ 63≤Builtin.Tuple.tupleHashOf (fC done)) && decide (Builtin.Tuple.tupleHashOf (fC done) < 2 ^ 63))=true
  ·rw [if_pos hr]
   rw [if_pos hr] at h
   (exact wpAny_pure (by simpa [Nat.add_assoc] using h))
  ·rw [if_neg hr]
   rw [if_neg hr] at h
   (exact wpAny_bind (wpAny_rule (wpAny_pure (by simpa [Nat.add_assoc] using h))))
mutual
theorem x8:∀(d:D) (v:V) (u:Value) (A:Around) (s:Shared),HF K J s→isKey d=true→Rep K J d v→RelV v u→A.units + dep d < cLine→zy prog w A K J d u
 | .int i,v,u,A,s,N,hk,hr,rv,hu=>fun E s' Q N' h=>by
  cases hr
  obtain ⟨t,rfl⟩:=rv
  exact wpAny_pyHash_int h
 | .tup ds,v,u,A,s,N,hk,hr,rv,hu=>fun E s' Q N' h=>by
  cases hr with
  | tup h1 hs=>
   cases rv
   obtain ⟨its,r,o,ho,hc,n,hd⟩:=N'.t _ _ h1
   exact BO N' ho hc hd (by unfold dep at hu;omega) (vZ ds _ _ A.in1 s N hk hs r (by rw [in1_units];unfold dep at hu;omega)) h
 | .non,v,u,A,s,N,hk,hr,rv,hu=>nomatch hk
 | .bl _,v,u,A,s,N,hk,hr,rv,hu=>nomatch hk
 | .str _,v,u,A,s,N,hk,hr,rv,hu=>nomatch hk
 | .lst _,v,u,A,s,N,hk,hr,rv,hu=>nomatch hk
 | .emp,v,u,A,s,N,hk,hr,rv,hu=>nomatch hk
 | .exn _ _ _,v,u,A,s,N,hk,hr,rv,hu=>nomatch hk
theorem vZ:∀(ds:List D) (vs:List V) (us:List Value) (A:Around) (s:Shared),HF K J s→areKeys ds=true→aG K J ds vs→Vals vs us→A.units + deps ds < cLine→jw prog w A K J ds us
 | [],vs,us,A,s,N,hk,hr,rv,hu=>by
  cases hr;cases rv;exact .nil
 | d::ds,vs,us,A,s,N,hk,hr,rv,hu=>by
  unfold areKeys at hk
  rw [Bool.and_eq_true] at hk
  unfold deps at hu
  cases hr with
  | cons a b=>
   cases rv with
   | cons c e=>exact .cons (x8 d _ _ A s N hk.1 a c (by omega)) (vZ ds _ _ A s N hk.2 b e (by omega))
end
end
def ia (K:PySem.W.Frag) (J:Hp) (n:Nat) (u:Value):Prop:=∃d v,isKey d=true∧dep d≤n∧Rep K J d v∧RelV v u
section
variable {prog:Program}{w:World}{E:Value→Shared→Prop}{K:PySem.W.Frag}{J:Hp}{A:Around}{s:Shared}
theorem u5 {n:Nat}:∀{ds:List D}{vs:List V}{us:List Value},areKeys ds=true→deps ds≤n→aG K J ds vs→Vals vs us→∀u∈us,ia K J n u
 | _,_,_,_,_,.nil,.nil=>fun u h=>nomatch h
 | d::ds,_,_,hk,hn,.cons a b,.cons c e=>fun u h=>by
  unfold areKeys at hk
  rw [Bool.and_eq_true] at hk
  unfold deps at hn
  (rcases List.mem_cons.mp h with rfl | h)
  ·exact ⟨d,_,hk.1,by omega,a,c⟩
  ·exact u5 hk.2 (by omega) b e u h
theorem ia.cases' {n:Nat}{u:Value}(N:HF K J s) (h:ia K J n u):(∃i t,u=.int i t)∨∃a o its m k,u=.ref a∧s.heap.get? a=some o∧o.cls=.type "tuple"∧o.data=.seq its m∧n=k + 1∧∀y∈its.toList,ia K J k y:=by
 obtain ⟨d,v,hk,hn,hr,rv⟩:=h
 cases d with
 | int i=>
  cases hr
  obtain ⟨t,rfl⟩:=rv
  exact .inl ⟨_,_,rfl⟩
 | tup ds=>
  cases hr with
  | tup h1 hs=>
   cases rv
   obtain ⟨its,r,o,ho,hc,m,hd⟩:=N.t _ _ h1
   unfold dep at hn
   obtain ⟨k,rfl⟩:∃k,n=k + 1:=⟨n - 1,by omega⟩
   exact .inr ⟨_,o,_,m,k,rfl,ho,hc,hd,rfl,u5 hk (by omega) hs r⟩
 | _=>cases hk
theorem nG:∀(n:Nat){u:Value}{Q:Bool→Shared→Prop},HF K J s→ia K J n u→Q true s→wpAny (model prog w) A (eqIsQuiet n u) Q E s
 | n,u,Q,N,hk,h=>by
  rcases hk.cases' N with ⟨i,t,rfl⟩ | ⟨a,o,its,m,k,rfl,ho,hc,hd,rfl,hi⟩
  ·rw [eqIsQuiet_byValue _ rfl]
   exact wpAny_pure h
  ·have hT:s.TypeIs (.ref a) "tuple":=⟨o,ho,hc⟩
   unfold eqIsQuiet
   (refine wpAny_bind (wpAny_specialOf hT F.slot_tuple_eq.lookup ?_))
   (show wpAny _ _ (isInstance (.ref a) (.type "tuple") >>= _) _ _ s)
   (refine wpAny_bind (wpAny_isInstance hT isSubtype_tuple_tuple ?_))
   (simp only [Bool.not_true,Bool.false_eq_true,if_false])
   (refine wpAny_bind (wpAny_seqItems ho hd ?_))
   refine wpAny_bind ?_
   show wpAny _ _ (forIn its _ _) _ _ s
   rw [←Array.forIn_toList]
   refine wpAny_forIn_list _ (fun rest r s'=>r.1=none∧s=s'∧∀v∈rest,ia K J k v) _ ?_ ?_ _ _ ⟨rfl,rfl,hi⟩
   ·(rintro v rest r s' ⟨hr,rfl,hall⟩)
    refine wpAny_bind (nG k N (hall v List.mem_cons_self) ?_)
    (simp only [Bool.not_true,Bool.false_eq_true,if_false])
    (exact wpAny_pure ⟨rfl,rfl,fun u hu'=>hall u (List.mem_cons_of_mem _ hu')⟩)
   ·(rintro ⟨r1,r2⟩ s' ⟨hr,rfl,_⟩)
    simp only at hr
    subst hr
    exact wpAny_pure h
theorem AO:∀(n:Nat){u:Value}{Q:Bool→Shared→Prop},HF K J s→ia K J n u→Q true s→wpAny (model prog w) A (hashByValue n u) Q E s
 | n,u,Q,N,hk,h=>by
  rcases hk.cases' N with ⟨i,t,rfl⟩ | ⟨a,o,its,m,k,rfl,ho,hc,hd,rfl,hi⟩
  ·cases n <;> exact wpAny_pure h
  ·have hT:s.TypeIs (.ref a) "tuple":=⟨o,ho,hc⟩
   unfold hashByValue
   (refine wpAny_bind (wpAny_specialOf hT F.slot_tuple_hash.lookup ?_))
   show wpAny _ _ (seqItems? (.ref a) >>= _) _ _ s
   (refine wpAny_bind (wpAny_seqItems ho hd ?_))
   refine wpAny_bind ?_
   show wpAny _ _ (forIn its _ _) _ _ s
   rw [←Array.forIn_toList]
   refine wpAny_forIn_list _ (fun rest r s'=>r.1=none∧s=s'∧∀v∈rest,ia K J k v) _ ?_ ?_ _ _ ⟨rfl,rfl,hi⟩
   ·(rintro v rest r s' ⟨hr,rfl,hall⟩)
    refine wpAny_bind (AO k N (hall v List.mem_cons_self) ?_)
    (simp only [Bool.not_true,Bool.false_eq_true,if_false])
    (exact wpAny_pure ⟨rfl,rfl,fun u hu'=>hall u (List.mem_cons_of_mem _ hu')⟩)
   ·(rintro ⟨r1,r2⟩ s' ⟨hr,rfl,_⟩)
    simp only at hr
    subst hr
    exact wpAny_pure h
theorem kO:∀(n:Nat){u:Value}{Q:Bool→Shared→Prop},HF K J s→ia K J n u→Q false s→wpAny (model prog w) A (ofAClassStatement n u) Q E s
 | n,u,Q,N,hk,h=>by
  rcases hk.cases' N with ⟨i,t,rfl⟩ | ⟨a,o,its,m,k,rfl,ho,hc,hd,rfl,hi⟩
  ·cases n <;> exact wpAny_pure h
  ·have hT:s.TypeIs (.ref a) "tuple":=⟨o,ho,hc⟩
   unfold ofAClassStatement
   (refine wpAny_bind (wpAny_typeOf hT ?_))
   dsimp only
   (refine wpAny_bind (wpAny_pure ?_))
   (simp only [Bool.not_true,Bool.false_eq_true,if_false])
   (refine wpAny_bind (wpAny_seqItems ho hd ?_))
   dsimp only
   refine wpAny_bind ?_
   show wpAny _ _ (forIn its _ _) _ _ s
   rw [←Array.forIn_toList]
   refine wpAny_forIn_list _ (fun rest r s'=>r.1=none∧s=s'∧∀v∈rest,ia K J k v) _ ?_ ?_ _ _ ⟨rfl,rfl,hi⟩
   ·(rintro v rest r s' ⟨hr,rfl,hall⟩)
    refine wpAny_bind (kO k N (hall v List.mem_cons_self) ?_)
    (simp only [Bool.false_eq_true,if_false])
    (exact wpAny_pure ⟨rfl,rfl,fun u hu'=>hall u (List.mem_cons_of_mem _ hu')⟩)
   ·(rintro ⟨r1,r2⟩ s' ⟨hr,rfl,_⟩)
    simp only at hr
    subst hr
    exact wpAny_pure h
theorem IU {x:Value}{ys:List Value}{Q:Bool→Shared→Prop}(N:HF K J s) (hx:ia K J 8 x) (hy:∀y∈ys,ia K J 8 y) (h:Q false s):wpAny (model prog w) A (searchCouldBeSeen x ys) Q E s:=by
 unfold searchCouldBeSeen
 refine wpAny_bind ?_
 refine wpAny_forIn_list _ (fun rest r s'=>r.1=none∧s=s'∧∀v∈rest,ia K J 8 v) _ ?_ ?_ _ _ ⟨rfl,rfl,hy⟩
 ·(rintro v rest r s' ⟨hr,rfl,hall⟩)
  have nx:∀u∈rest,ia K J 8 u:=fun u hu'=>hall u (List.mem_cons_of_mem _ hu')
  dsimp only
  have hv:=hall v List.mem_cons_self
  split
  ·split
   ·exact wpAny_pure ⟨rfl,rfl,nx⟩
   ·refine wpAny_bind (nG 8 N hx ?_)
    (simp only [Bool.not_true,Bool.false_eq_true,if_false])
    refine wpAny_bind (nG 8 N hv ?_)
    (simp only [Bool.not_true,Bool.false_eq_true,if_false])
    refine wpAny_bind (kO 8 N hx ?_)
    (simp only [Bool.false_eq_true,if_false])
    refine wpAny_bind (kO 8 N hv ?_)
    (simp only [Bool.false_eq_true,if_false])
    exact wpAny_pure ⟨rfl,rfl,nx⟩
  ·split
   ·exact wpAny_pure ⟨rfl,rfl,nx⟩
   ·refine wpAny_bind (nG 8 N hx ?_)
    (simp only [Bool.not_true,Bool.false_eq_true,if_false])
    refine wpAny_bind (nG 8 N hv ?_)
    (simp only [Bool.not_true,Bool.false_eq_true,if_false])
    refine wpAny_bind (kO 8 N hx ?_)
    (simp only [Bool.false_eq_true,if_false])
    refine wpAny_bind (kO 8 N hv ?_)
    (simp only [Bool.false_eq_true,if_false])
    exact wpAny_pure ⟨rfl,rfl,nx⟩
 ·(rintro ⟨r1,r2⟩ s' ⟨hr,rfl,_⟩)
  simp only at hr
  subst hr
  exact wpAny_pure h
end
end DL
namespace DL
open PySem PySem.Spec PyProof.Rows L2 ST
def KV (K:PySem.W.Frag) (J:Hp) (u:Value) (d:D):Prop:=(∃a,u=.ref a)∧isKey d=true∧dep d≤8∧∃v,Rep K J d v∧RelV v u
theorem KV.key {K:PySem.W.Frag}{J:Hp}{u:Value}{d:D}(h:KV K J u d):ia K J 8 u:=let ⟨_,a,b,v,c,e⟩:=h;⟨d,v,a,b,c,e⟩
inductive eW (K:PySem.W.Frag) (J:Hp):List (Int×Value)→List D→Prop
 | nil:eW K J [] []
 | cons {h:Int}{x:Value}{d:D}{es:List (Int×Value)}{ks:List D}:h=bQ d→KV K J x d→eW K J es ks→eW K J ((h,x)::es) (d::ks)
section
variable {K:PySem.W.Frag}{J:Hp}
theorem eW.length {es:List (Int×Value)}{ks:List D}(h:eW K J es ks):es.length=ks.length:=by
 induction h with
 | nil=>rfl
 | cons _ _ _ ih=>simp [ih]
theorem eW.at_ {es:List (Int×Value)}{ks:List D}(h:eW K J es ks):∀{i:Nat}{e:Int×Value},es[i]?=some e→∃d,ks[i]?=some d∧KV K J e.2 d∧e.1=bQ d:=by
 induction h with
 | nil=>intro i e q;simp at q
 | @cons hh x d es ks h1 h2 _ ih=>
  intro i e q
  cases i with
  | zero=>simp at q;subst q;exact ⟨d,rfl,h2,h1⟩
  | succ i=>simp at q;obtain ⟨d',a,b⟩:=ih q;exact ⟨d',by simpa using a,b⟩
theorem eW.mem {es:List (Int×Value)}{ks:List D}(h:eW K J es ks):∀e∈es,∃d∈ks,KV K J e.2 d∧e.1=bQ d:=fun e he=>by
 obtain ⟨i,hi⟩:=List.mem_iff_getElem?.mp he
 obtain ⟨d,h1,h2⟩:=h.at_ hi
 exact ⟨d,List.mem_of_getElem? h1,h2⟩
theorem eW.back {es:List (Int×Value)}{ks:List D}(h:eW K J es ks){i:Nat}{d:D}(q:ks[i]?=some d):∃e,es[i]?=some e∧KV K J e.2 d∧e.1=bQ d:=by
 have hi:i < es.length:=by rw [h.length];exact (List.getElem?_eq_some_iff.mp q).1
 obtain ⟨d',h1,h2⟩:=h.at_ (List.getElem?_eq_getElem hi)
 rw [q] at h1;cases h1
 exact ⟨_,List.getElem?_eq_getElem hi,h2⟩
theorem eW.perm {es es':List (Int×Value)}(p:es.Perm es'):∀{ks:List D},eW K J es ks→∃ks',ks.Perm ks'∧eW K J es' ks':=by
 induction p with
 | nil=>intro ks h;exact ⟨ks,.refl _,h⟩
 | cons x _ ih=>
  intro ks h
  cases h with
  | cons h1 h2 h3=>obtain ⟨ks',a,b⟩:=ih h3;exact ⟨_,a.cons _,.cons h1 h2 b⟩
 | swap x y l=>
  intro ks h
  cases h with
  | cons h1 h2 h3=>cases h3 with
   | cons h4 h5 h6=>exact ⟨_,.swap _ _ _,.cons h4 h5 (.cons h1 h2 h6)⟩
 | trans _ _ ih1 ih2=>
  intro ks h
  obtain ⟨k1,a,b⟩:=ih1 h
  obtain ⟨k2,c,d⟩:=ih2 b
  exact ⟨k2,a.trans c,d⟩
end
theorem cD {t:SetTable}{es:Array (Int×Value)}{L:List (Nat×Int×Value)}(T:Tab t es L):t.fits es.size=true:=by
 have h1:t.place.size=L.length:=by rw [←Array.length_toList,T.pl,List.length_map]
 have h2:es.size=L.length:=by rw [←Array.length_toList,T.en,List.length_map]
 have h3:t.fill=L.length:=by unfold SetTable.fill;rw [T.dm,h1];rfl
 unfold SetTable.fits
 rw [h1,h2,h3]
 simp [T.fl]
theorem FO {t:SetTable}{es:Array (Int×Value)}{L:List (Nat×Int×Value)}(T:Tab t es L):t.gaveWay=false:=by
 unfold SetTable.gaveWay
 rcases T.mo with h | h | h <;> rw [h] <;> rfl
section
variable {prog:Program}{w:World}{E:Value→Shared→Prop}{K:PySem.W.Frag}{J:Hp}{A:Around}{s:Shared}
theorem search {a:Addr}{o:Obj}{es:Array (Int×Value)}{ep:Nat}{t:SetTable}{L:List (Nat×Int×Value)}{ks:List D}{x:Value}{d:D}{Q:SetFound→Shared→Prop}(N:HF K J s) (ho:s.heap.get? a=some o) (hd:o.data=.set es ep t) (T:Tab t es L) (en:eW K J es.toList ks)
  (hx:KV K J x d) (hu:A.units + 8 < cLine) (n0:Nat) (hf:pos t.mask (bQ d) n0∉L.map (·.1)) (hb:∀m,m < n0→pos t.mask (bQ d) m∈L.map (·.1)) (hn0:n0≤10 * (t.mask + 12))
  (q1:d∈ks→Q (.there none) s) (q2:d∉ks→Q (.free (pos t.mask (bQ d) n0) false) s):
  ∀(fuel n:Nat) (stand:Option SetTable.Probe),n≤n0→n0 - n < fuel→stand.getD (t.probeStart (bQ d))=st t.mask (bQ d) n→(∀k,k < n→∀(i:Nat) (e:Nat×Int×Value),L[i]?=some e→e.1=pos t.mask (bQ d) k→ks[i]?≠some d)→
   wpAny (model prog w) A (setSearchFrom a x (bQ d) true fuel stand) Q E s
 | 0,n,stand,h1,h2,h3,h4=>absurd h2 (Nat.not_lt_zero _)
 | fuel + 1,n,stand,h1,h2,h3,h4=>by
  have esL:∀i,es[i]?=(L[i]?).map (fun e:Nat×Int×Value=>e.2):=fun i=>by rw [←Array.getElem?_toList,T.en,List.getElem?_map]
  unfold setSearchFrom
  refine wpAny_bind (wpAny_setState_of ho hd (cD T) ?_)
  dsimp only
  rw [FO T]
  (simp only [Bool.false_eq_true,if_false])
  rw [h3]
  obtain ⟨m,m1,m2,m3,m4⟩:=vn T (fun i=>(es[i]?.map (·.1)).getD 0) (fun i e q=>by rw [q];rfl) (bQ d) n0 hf hb (n0 - n) n (10 * SetTable.turns t.mask) rfl h1 (by unfold SetTable.turns;omega)
  generalize hP:SetTable.probe t _ (bQ d) (st t.mask (bQ d) n)=r
  rcases m4 with ⟨rfl,m4⟩ | ⟨m5,i,e,m6,m7,m8,m4⟩
  ·have:r=_:=hP.symm.trans m4
   subst this
   dsimp only
   refine wpAny_pure (q2 fun hm=>?_)
   obtain ⟨i,hi⟩:=List.mem_iff_getElem?.mp hm
   obtain ⟨e,e1,e2,e3⟩:=en.back hi
   rw [Array.getElem?_toList,esL] at e1
   obtain ⟨e',e4,rfl⟩:=Option.map_eq_some_iff.mp e1
   have hm':=List.mem_of_getElem? e4
   obtain ⟨k,k1,k2⟩:=T.pr _ hm'
   rw [e3] at k1 k2
   have kl:k < m:=by
    rcases Nat.lt_trichotomy k m with c | c | c
    ·exact c
    ·subst c;rw [k1] at hf;exact absurd (List.mem_map.mpr ⟨_,hm',rfl⟩) hf
    ·exact absurd (k2 m c) hf
   by_cases c:k < n
   ·exact h4 k c i e' e4 k1.symm hi
   ·exact m3 k (by omega) kl e' hm' k1.symm e3
  ·have:r=_:=hP.symm.trans m4
   subst this
   dsimp only
   have hei:es[i]?=some e.2:=by rw [esL,m6];rfl
   obtain ⟨d',f1,f2,f3⟩:=en.at_ (by rw [Array.getElem?_toList];exact hei)
   obtain ⟨⟨ya,g0⟩,g1,g2',v',g3,g4⟩:=id f2
   obtain ⟨_,x1,x2,v,x3,x4⟩:=id hx
   obtain ⟨j,hh,y⟩:=e
   dsimp only at g0 g4 m7 m8 hei
   subst g0
   have cmp:=mS N A g3 x3 g4 x4 (by omega) (by omega) (by omega)
   have pass:∀(k:Sem SetFound),wpAny (model prog w) A k Q E s→wpAny (model prog w) A (if (!t.led)=true then do
     let c ←searchCouldBeSeen x (List.map (fun x=>x.snd) (Array.filter (fun x=>x.fst == bQ d) es).toList)
     if c=true then do unsupported "set:the-search-would-show-the-table";k else k
     else k) Q E s:=fun k hk=>by
    split
    ·refine wpAny_bind (IU N hx.key (fun y hy=>?_) ?_)
     ·obtain ⟨e',he',rfl⟩:=List.mem_map.mp hy
      have:e'∈es.toList:=by
       rw [Array.toList_filter] at he'
       exact (List.mem_filter.mp he').1
      obtain ⟨d2,_,h2,_⟩:=en.mem e' this
      exact h2.key
     ·(simp only [Bool.false_eq_true,if_false])
      exact hk
    ·exact hk
   refine pass _ ?_
   rw [hei]
   dsimp only
   refine wpAny_bind (wpAny_holding (cmp _ _ _ _ ?_))
   refine wpAny_bind (wpAny_setState_of ho hd (cD T) ?_)
   dsimp only
   by_cases c:bh d' d=true
   ·rw [c]
    (simp only [Bool.and_self,if_true])
    refine wpAny_pure (q1 ?_)
    rw [←Am g1 x1 c]
    exact List.mem_of_getElem? f1
   ·rw [Bool.not_eq_true] at c
    rw [c]
    have sm:t.sameMemory t.moves t.mask=some true:=by unfold SetTable.sameMemory;simp
    have sl:t.slot (pos t.mask (bQ d) m)=.live i:=nM T.sop (by rw [←m7];exact (T.at_ m6).1)
    rw [sm]
    simp only [Bool.and_false,Bool.false_eq_true,if_false,if_true]
    rw [sl]
    dsimp only
    rw [hei]
    dsimp only
    refine wpAny_bind (wpAny_isSame_ref_self ?_)
    simp only [if_true]
    (refine wpAny_bind (wpAny_pure ?_))
    dsimp only
    refine search N ho hd T en hx hu n0 hf hb hn0 q1 q2 fuel (m + 1) _ (by omega) (by omega) rfl fun k hk i2 e2 z1 z2 z3=>?_
    by_cases c1:k < n
    ·exact h4 k c1 i2 e2 z1 z2 z3
    ·by_cases c2:k < m
     ·obtain ⟨dd,w1,_,w3⟩:=en.at_ (i:=i2) (e:=e2.2) (by rw [Array.getElem?_toList,esL,z1];rfl)
      rw [z3] at w1;cases w1
      exact m3 k (by omega) c2 e2 (List.mem_of_getElem? z1) z2 w3
     ·obtain rfl:k=m:=by omega
      have hi2:i2=i:=by
       obtain ⟨p1,p2⟩:=List.getElem?_eq_some_iff.mp z1
       obtain ⟨p3,p4⟩:=List.getElem?_eq_some_iff.mp m6
       have sw:=List.pairwise_iff_getElem.mp T.so
       rcases Nat.lt_trichotomy i2 i with c | c | c
       ·have:=sw i2 i (by simpa using p1) (by simpa using p3) c
        simp [p2,p4] at this
        omega
       ·exact c
       ·have:=sw i i2 (by simpa using p3) (by simpa using p1) c
        simp [p2,p4] at this
        omega
      subst hi2
      rw [f1] at z3
      cases z3
      rw [iX] at c
      exact absurd c (by decide)
end
structure iH (K:PySem.W.Frag) (J:Hp) (h:Heap) (a:Addr) (led:Bool) (ks:List D) (es:Array (Int×Value)) (ep:Nat) (t:SetTable):Prop where
 at_:h.get? a=some {cls:=.type "set",dict:=none,data:=.set es ep t}
 tab:∃L,Tab t es L
 pl:t.plain=true
 ld:t.led=led
 rm:ks.length * 5 < t.mask * 3
 en:eW K J es.toList ks
 nd:ks.Nodup
theorem zZ (mask i:Nat) (h:i≤mask):i + (SetTable.runEnd mask i - i)≤mask:=by unfold SetTable.runEnd;split <;> omega
theorem DH (mask:Nat) (h:Int):∀n,(ST.st mask h n).j + (ST.st mask h n).more≤mask
 | 0=>zZ mask _ (Nat.le_of_lt_succ (Nat.mod_lt _ (by omega)))
 | n + 1=>by
  have ih:=DH mask h n
  show (SetTable.advance _ (ST.st mask h n)).j + (SetTable.advance _ (ST.st mask h n)).more≤mask
  unfold SetTable.advance
  split
  ·dsimp only;omega
  ·exact zZ mask _ (Nat.le_of_lt_succ (Nat.mod_lt _ (by omega)))
theorem vj (mask:Nat) (h:Int) (n:Nat):ST.pos mask h n≤mask:=by have:=DH mask h n;show (ST.st mask h n).j≤mask;omega
theorem wX:SetTable.sizeAbove 20=32:=by decide +kernel
theorem wY:SetTable.sizeAbove 76=128:=by decide +kernel
theorem kX {t:SetTable}{es:Array (Int×Value)}{L:List (Nat×Int×Value)}(T:Tab t es L):L.length=es.size:=by rw [←Array.length_toList,T.en,List.length_map]
section
variable {prog:Program}{w:World}{E:Value→Shared→Prop}{K:PySem.W.Frag}{J:Hp}{A:Around}{s:Shared}
theorem JJ {a:Addr}{es:Array (Int×Value)}{ep:Nat}{t:SetTable}{led:Bool}{L:List (Nat×Int×Value)}{ks:List D}{Q:Unit→Shared→Prop}(ho:s.heap.get? a=some {cls:=.type "set",dict:=none,data:=.set es ep t}) (T:Tab t es L) (hp:t.plain=true) (hl:t.led=led)
  (en:eW K J es.toList ks) (nd:ks.Nodup) (W:Nat) (hW:(SetTable.sizeAbove W=32∧ks.length=5)∨(SetTable.sizeAbove W=128∧ks.length=19))
  (h:∀(h':Heap) ks' es' ep' t',Heap.SameBut a s.heap h'→ks.Perm ks'→iH K J h' a led ks' es' ep' t'→Q () {s with heap:=h'}):wpAny (model prog w) A (setRelay a W) Q E s:=by
 have hsz:es.size=ks.length:=by rw [←Array.length_toList,en.length]
 have hm:jV (SetTable.sizeAbove W - 1):=by rcases hW with ⟨h,_⟩ | ⟨h,_⟩ <;> rw [h];exact .inr (.inl rfl);exact .inr (.inr rfl)
 obtain ⟨t',order,L',e1,e2,e3,e4,e5,e6⟩:=sj (t:=t) (es:=es) hm (by rcases hW with ⟨h,_⟩ | ⟨h,_⟩ <;> rw [h] <;> omega)
 unfold setRelay
 refine wpAny_bind (wpAny_setState_of ho rfl (cD T) ?_)
 dsimp only
 rw [if_neg (by rw [sizeLine_eq];rcases hW with ⟨h,_⟩ | ⟨h,_⟩ <;> rw [h] <;> omega)]
 have sz':(order.filterMap (es[·]?)).size=es.size:=by
  rw [←Array.length_toList,e6.length_eq,Array.length_toList]
 rw [e1]
 have cnd:((order.filterMap (es[·]?)).size != es.size)=false:=by rw [sz'];simp
 refine wpAny_bind (wpAny_of_eq (a:=(order.filterMap (es[·]?),t')) ?_ ?_)
 ·show (if ((order.filterMap (es[·]?)).size != es.size)=true then _ else pure (order.filterMap (es[·]?),t'))=_
  rw [cnd]
  rfl
 ·dsimp only
  obtain ⟨ks',p1,p2⟩:=en.perm e6.symm
  refine wpAny_storeSet_of ho rfl ?_ (by rw [sz',sizeLine_eq];rcases hW with ⟨_,h⟩ | ⟨_,h⟩ <;> omega)
  have hg:=Heap.get?_update_self (Obj.putSet (order.filterMap (es[·]?)) t') ho rfl
  refine h _ ks' _ _ _ (Heap.SameBut.update _ _ _) p1 ⟨hg,⟨L',e5⟩,e4.trans hp,e3.trans hl,?_,p2,p1.nodup_iff.mp nd⟩
  rw [←p1.length_eq,e2]
  rcases hW with ⟨h,h'⟩ | ⟨h,h'⟩ <;> rw [h,h'] <;> omega
theorem DT {a:Addr}{es:Array (Int×Value)}{ep:Nat}{t:SetTable}{led:Bool}{ks:List D}{x:Value}{d:D}{Q:Bool→Shared→Prop}(N:HF K J s) (S:iH K J s.heap a led ks es ep t) (hx:KV K J x d) (hu:A.units + 8 < cLine) (hl:ks.length < 76)
  (q1:d∈ks→Q false s) (q2:d∉ks→∀(h':Heap) ks' es' ep' t',Heap.SameBut a s.heap h'→(d::ks).Perm ks'→iH K J h' a led ks' es' ep' t'→Q true {s with heap:=h'}):
  wpAny (model prog w) A (setAddHashed a x (bQ d)) Q E s:=by
 obtain ⟨L,T⟩:=S.tab
 have lenL:L.length=ks.length:=by rw [kX T,←Array.length_toList,S.en.length]
 obtain ⟨n0,b1,b2,b3⟩:=pR T.mo (bQ d) (L.map (·.1)) (by rw [List.length_map];exact T.fl)
 have hj:pos t.mask (bQ d) n0≤t.mask:=vj _ _ _
 (unfold setAddHashed setAddHashedIn)
 refine wpAny_holding (wpAny_bind (wpAny_setState_of S.at_ rfl (cD T) ?_))
 dsimp only
 have ns:byScan x es=false:=by
  obtain ⟨⟨xa,rfl⟩,_⟩:=hx
  rfl
 rw [ns]
 (simp only [Bool.false_eq_true,if_false])
 unfold setSearch
 refine wpAny_bind (search N S.at_ rfl T S.en hx hu n0 b2 b3 b1 (fun hm=>?_) (fun hm=>?_) 100000 0 none (Nat.zero_le _) (by rcases T.mo with h | h | h <;> rw [h] at b1 <;> omega) rfl (fun k hk=>absurd hk (Nat.not_lt_zero _)))
 ·exact wpAny_pure (q1 hm)
 ·dsimp only
  refine wpAny_bind (wpAny_setState_of S.at_ rfl (cD T) ?_)
  dsimp only
  obtain ⟨L',T',pm⟩:=T.put (bQ d) x n0 b2 b3 hj (by have:=S.rm;rcases T.mo with h | h | h <;> rw [h] at this <;> omega)
  have fl:(t.put (pos t.mask (bQ d) n0)).1.mask=t.mask∧(t.put (pos t.mask (bQ d) n0)).1.plain=t.plain∧(t.put (pos t.mask (bQ d) n0)).1.led=t.led:=⟨rfl,rfl,rfl⟩
  generalize t.put (pos t.mask (bQ d) n0)=tp at T' fl ⊢
  obtain ⟨t',p⟩:=tp
  dsimp only at T' fl ⊢
  obtain ⟨f1,f2,f3⟩:=fl
  have en':∃ks',(d::ks).Perm ks'∧eW K J (SetTable.insertAt es p (bQ d,x)).toList ks':=by
   refine eW.perm (es:=(bQ d,x)::es.toList) ?_ (.cons rfl hx S.en)
   rw [T'.en,T.en]
   have:=pm.map (·.2)
   exact this.symm
  obtain ⟨ks',p1,p2⟩:=en'
  have nd':ks'.Nodup:=p1.nodup_iff.mp (List.nodup_cons.mpr ⟨hm,S.nd⟩)
  have lk:ks'.length=ks.length + 1:=by rw [←p1.length_eq];rfl
  rw [f2,S.pl]
  simp only [if_true]
  refine wpAny_bind (AO 8 N hx.key ?_)
  simp only [if_true]
  have esz:(SetTable.insertAt es p (bQ d,x)).size=ks'.length:=by rw [←Array.length_toList,p2.length]
  refine wpAny_bind (wpAny_storeSet_of S.at_ rfl ?_ (by rw [esz,sizeLine_eq];omega))
  have hg:=Heap.get?_update_self (Obj.putSet (SetTable.insertAt es p (bQ d,x)) t') S.at_ rfl
  have hfill:t'.fill=ks'.length:=by
   unfold SetTable.fill
   rw [T'.dm,←Array.length_toList,T'.pl,List.length_map,kX T',esz]
   rfl
  have hes:es.size=ks.length:=by rw [←Array.length_toList,S.en.length]
  split
  ·rename_i c
   simp only [Bool.not_false,Bool.true_and] at c
   unfold SetTable.tooFull at c
   rw [hfill,f1,decide_eq_true_eq] at c
   have rm:=S.rm
   refine wpAny_bind (JJ (s:={s with heap:=s.heap.update a (Obj.putSet (SetTable.insertAt es p (bQ d,x)) t')}) hg T' (f2.trans S.pl) (f3.trans S.ld) p2 nd' _ ?_ fun h' ks2 es2 ep2 t2 g1 g2' g3=>?_)
   ·rw [hes]
    unfold SetTable.grown
    rw [if_neg (by omega)]
    rcases T.mo with h | h | h
    ·rw [h] at c rm
     have:ks.length + 1=5:=by omega
     rw [this]
     exact .inl ⟨wX,by omega⟩
    ·rw [h] at c rm
     have:ks.length + 1=19:=by omega
     rw [this]
     exact .inr ⟨wY,by omega⟩
    ·rw [h] at c;omega
   ·exact wpAny_pure (q2 hm h' ks2 es2 ep2 t2 ((Heap.SameBut.update _ _ _).trans g1) (p1.trans g2') g3)
  ·rename_i c
   simp only [Bool.not_false,Bool.true_and] at c
   unfold SetTable.tooFull at c
   rw [hfill,f1,decide_eq_true_eq] at c
   exact wpAny_pure (q2 hm _ ks' _ _ _ (Heap.SameBut.update _ _ _) p1 ⟨hg,⟨L',T'⟩,f2.trans S.pl,f3.trans S.ld,by rw [f1];omega,p2,nd'⟩)
end
theorem iH.keep {K:PySem.W.Frag}{J:Hp}{h h':Heap}{a:Addr}{led:Bool}{ks:List D}{es:Array (Int×Value)}{ep:Nat}{t:SetTable}(S:iH K J h a led ks es ep t) (e:∀o,h.get? a=some o→h'.get? a=some o):iH K J h' a led ks es ep t:=
 ⟨e _ S.at_,S.tab,S.pl,S.ld,S.rm,S.en,S.nd⟩
section
variable {prog:Program}{w:World}{A:Around}{R:Result→Shared→Prop}{I:Addr}{fp wr:List Addr}{G:Array GenState→Array GenState→Prop}{n:Nat}{P:Nat→Value→Prop}{St:Nat→Shared→Prop}{K:PySem.W.Frag}{J:Hp}
theorem Dd (W:WalksS prog w A.in1 I fp wr G n P St) (S:Addr) (hSf:S∉fp) (val:Nat→D) (hval:∀i v,P i v→KV K J v (val i)){s0:Shared}(N0:HF K J s0) (hnew:∀b∈S::wr,s0.heap.get? b=none) (hu:A.in1.units + 8 < cLine) (hn:n≤76){led:Bool}:
  ∀(k i:Nat) (s:Shared) (ks:List D) (es:Array (Int×Value)) (ep:Nat) (t:SetTable),n - i=k→i≤n→St i s→(∀b o,s0.heap.get? b=some o→s.heap.get? b=some o)→iH K J s.heap S led ks es ep t→(∀d,d∈ks↔d∈(List.range i).map val)→
   (∀s' ks' es' ep' t',Moved (S::wr) G s s'→iH K J s'.heap S led ks' es' ep' t'→(∀d,d∈ks'↔d∈(List.range n).map val)→R (.ok (.ret .none)) s')→
   (codeAny (model prog w) A (.builtin "set.update.loop" ⟨[.ref S,.ref I],[]⟩) R s):=by
 (have hSw:S∉wr:=fun h=>hSf (W.sub _ h))
 (have hsub:∀b∈wr,b∈S::wr:=fun b hb=>List.mem_cons_of_mem _ hb)
 have old:∀b o,s0.heap.get? b=some o→b∉S::wr:=fun b o e hm=>by rw [hnew b hm] at e;cases e
 intro k
 induction k with
 | zero=>
  intro i s ks es ep t hk hi hst hb hS hm hR
  have hin:i=n:=by omega
  subst hin
  refine codeAny_builtin PyProof.Rows.F.entry_set_update_loop ?_
  rw [Around.under_plainId PyProof.Rows.F.plain_set_update_loop _]
  (show wpAny _ A.in1 (pyNext (.ref I) >>= _) _ _ s)
  refine wpAny_bind (W.done s _ _ hst fun s' hmv=>?_)
  (show wpAny _ A.in1 (ret Value.none) _ _ s')
  exact wpAny_pure (hR s' ks es ep t (hmv.mono hsub) (hS.keep fun o e=>hmv.heap S o hSw e) hm)
 | succ k ih=>
  intro i s ks es ep t hk hi hst hb hS hm hR
  have hlt:i < n:=by omega
  have hlen:ks.length≤i:=by
   have:=List.Nodup.length_le_of_subset hS.nd (fun d hd=>(hm d).mp hd)
   simpa using this
  refine codeAny_builtin PyProof.Rows.F.entry_set_update_loop ?_
  rw [Around.under_plainId PyProof.Rows.F.plain_set_update_loop _]
  (show wpAny _ A.in1 (pyNext (.ref I) >>= _) _ _ s)
  refine wpAny_bind (W.item i s _ _ hlt hst fun v s' hP hst' hmv=>?_)
  have hx:=hval i v hP
  obtain ⟨_,x1,x2,vv,x3,x4⟩:=id hx
  have hS':=hS.keep (h':=s'.heap) fun o e=>hmv.heap S o hSw e
  have hb':∀b o,s0.heap.get? b=some o→s'.heap.get? b=some o:=fun b o e=>hmv.heap b o (fun hm=>old b o e (hsub b hm)) (hb b o e)
  have N':HF K J s':=N0.keep hb'
  have mem':∀(ks':List D),(∀d,d∈ks'↔d=val i∨d∈ks)→∀d,d∈ks'↔d∈(List.range (i + 1)).map val:=fun ks' h d=>by
   rw [h d,hm d,List.range_succ,List.map_append,List.mem_append]
   simp only [List.map_cons,List.map_nil,List.mem_singleton]
   exact Or.comm
  show wpAny _ A.in1 (holding [v] (setAdd S v) >>= _) _ _ s'
  (refine wpAny_bind (wpAny_holding ?_))
  unfold setAdd
  refine wpAny_holding ?_
  refine wpAny_bind (x8 (val i) vv v A.in1 s' N' x1 x3 x4 (by omega) _ _ _ N' ?_)
  refine DT (s:={s' with toks:=s'.toks + j3 (val i)}) (⟨N'.t,N'.l,N'.e⟩:HF K J {s' with toks:=s'.toks + j3 (val i)}) hS' hx hu (by omega) (fun hin=>?_) (fun hin h' ks' es' ep' t' hsb hpm hS2=>?_)
  ·refine wpAny_pure ⟨plainId_quiet PyProof.Rows.F.plain_set_update_loop _,ih (i + 1) _ ks es ep t (by omega) hlt (W.frame _ s' _ _ hst' (Nat.le_add_right _ _) fun b hb o e=>e) hb' hS' (mem' ks fun d=>⟨.inr,fun h=>h.elim (fun h=>h▸hin) id⟩) fun s'' ks'' es'' ep'' t'' hm'' hS'' hmm=>?_⟩
   exact hR s'' ks'' es'' ep'' t'' (Moved.trans W.gtrans ((hmv.mono hsub).then_heap (Nat.le_add_right _ _) fun b o hb e=>e) hm'') hS'' hmm
  ·refine wpAny_pure ⟨plainId_quiet PyProof.Rows.F.plain_set_update_loop _,ih (i + 1) _ ks' es' ep' t' (by omega) hlt (W.frame _ s' _ _ hst' (Nat.le_add_right _ _) fun b hb o e=>?_) (fun b o e=>?_) hS2 (mem' ks' fun d=>?_) fun s'' ks'' es'' ep'' t'' hm'' hS'' hmm=>?_⟩
   ·(rw [hsb.2 b (fun h:b=S=>hSf (by rw [←h];exact hb))];exact e)
   ·show h'.get? b=some o
    rw [hsb.2 b (fun h:b=S=>old b o e (by rw [h];exact List.mem_cons_self))]
    exact hb' b o e
   ·rw [←hpm.mem_iff,List.mem_cons]
   ·refine hR s'' ks'' es'' ep'' t'' (Moved.trans W.gtrans ((hmv.mono hsub).then_heap (Nat.le_add_right _ _) fun b o hb e=>?_) hm'') hS'' hmm
    (rw [hsb.2 b (fun h:b=S=>hb (by rw [h];exact List.mem_cons_self))];exact e)
end
theorem zb {K:PySem.W.Frag}{J:Hp}{h:Heap}{a:Addr}{led:Bool}(e:h.get? a=some {cls:=.type "set",dict:=none,data:=.set #[] 0 (.fresh 0 0 led)}):iH K J h a led [] #[] 0 (.fresh 0 0 led):=
 ⟨e,⟨[],⟨rfl,rfl,rfl,List.Pairwise.nil,(fun _ h=>nomatch h),.inl rfl,Nat.zero_le _,(fun _ h=>nomatch h)⟩⟩,rfl,rfl,(show 0 * 5 < 7 * 3 by decide),.nil,List.nodup_nil⟩
end DL
namespace ST
open PySem PySem.SetTable
theorem uJ {xs:Array Nat}{i j:Nat}(hs:xs.toList.Pairwise (· < ·)) (hi:i≤xs.size) (h1:∀k,k < i→xs.getD k 0 < j) (h2:∀k,i≤k→k < xs.size→j≤xs.getD k 0):below xs j=i:=by
 obtain ⟨b1,b2,b3⟩:=lg xs j hs
 rcases Nat.lt_trichotomy (below xs j) i with c | c | c
 ·have:=h1 _ c
  have:=b3 _ (Nat.le_refl _) (by omega)
  omega
 ·exact c
 ·have:=b2 _ c
  have:=h2 i (Nat.le_refl _) (by omega)
  omega
theorem yo {xs:Array Nat}(hs:xs.toList.Pairwise (· < ·)):below xs 0=0:=uJ hs (Nat.zero_le _) (fun k h=>absurd h (Nat.not_lt_zero _)) fun k _ _=>Nat.zero_le _
theorem ym {xs:Array Nat}{i j:Nat}(hs:xs.toList.Pairwise (· < ·)) (h:xs[i]?=some j):below xs (j + 1)=i + 1:=by
 obtain ⟨hi,e⟩:=Array.getElem?_eq_some_iff.mp h
 have sw:=List.pairwise_iff_getElem.mp hs
 have gd:∀k (hk:k < xs.size),xs.getD k 0=xs[k]:=fun k hk=>by simp [Array.getD,hk]
 refine uJ hs (by omega) (fun k hk=>?_) (fun k h1 h2=>?_)
 ·rw [gd k (by omega)]
  by_cases c:k=i
  ·subst c;omega
  ·have:=sw k i (by simp;omega) (by simpa using hi) (by omega)
   simp at this
   omega
 ·rw [gd k h2]
  have:=sw i k (by simpa using hi) (by simpa using h2) (by omega)
  simp at this
  omega
theorem r9 {α:Type}(next:Nat→Nat):∀(f k:Nat) (left:List α) (out:Array α),f=left.length→(pickOrder.go next f k left out).toList.Perm (out.toList++left)
 | 0,k,left,out,h=>by
  have:left=[]:=List.length_eq_zero_iff.mp h.symm
  subst this
  unfold pickOrder.go
  simp
 | f + 1,k,left,out,h=>by
  have hl:next k % left.length < left.length:=Nat.mod_lt _ (by omega)
  unfold pickOrder.go
  rw [List.getElem?_eq_getElem hl]
  dsimp only
  refine (r9 next f (k + 1) _ _ (by rw [List.length_eraseIdx];simp [hl];omega)).trans ?_
  rw [Array.toList_push,List.append_assoc]
  (refine List.Perm.append_left _ ?_)
  have e1:left.eraseIdx (next k % left.length)=left.take (next k % left.length)++left.drop (next k % left.length + 1):=List.eraseIdx_eq_take_drop_succ _ _
  have e2:left=left.take (next k % left.length)++left[next k % left.length]::left.drop (next k % left.length + 1):=by
   rw [List.getElem_cons_drop,List.take_append_drop]
  rw [e1,List.singleton_append]
  exact (List.perm_middle.symm).trans (List.Perm.of_eq e2.symm)
theorem yT {α:Type}(next:Nat→Nat) (xs:Array α):(pickOrder next xs).toList.Perm xs.toList:=by
 have h:=r9 next xs.size 0 xs.toList #[] (by simp)
 rw [show (#[]:Array α).toList++xs.toList=xs.toList from rfl] at h
 exact h
end ST
namespace DL
open PySem PySem.Spec PyProof.Rows L2 ST
structure iI (h:Heap) (a:Addr) (led:Bool) (es:Array (Int×Value)) (ep:Nat) (t:SetTable):Prop where
 at_:h.get? a=some {cls:=.type "set",dict:=none,data:=.set es ep t}
 tab:∃L,Tab t es L
 pl:t.plain=true
 ld:t.led=led
theorem iI.keep {h h':Heap}{a:Addr}{led:Bool}{es:Array (Int×Value)}{ep:Nat}{t:SetTable}(S:iI h a led es ep t) (e:∀o,h.get? a=some o→h'.get? a=some o):iI h' a led es ep t:=⟨e _ S.at_,S.tab,S.pl,S.ld⟩
theorem iH.wk {K:PySem.W.Frag}{J:Hp}{h:Heap}{a:Addr}{led:Bool}{ks:List D}{es:Array (Int×Value)}{ep:Nat}{t:SetTable}(S:iH K J h a led ks es ep t):iI h a led es ep t:=⟨S.at_,S.tab,S.pl,S.ld⟩
abbrev j7 (w:World):Bool:=!w.params.followText "set-order"
def fM (w:World) (a ep:Nat) (es:Array (Int×Value)):Array (Int×Value):=if w.params.followText "set-order"=true then pickOrder (w.params.setOrder a ep) es else es
theorem kq (w:World) (a ep:Nat) (es:Array (Int×Value)):(fM w a ep es).toList.Perm es.toList:=by
 unfold fM
 split
 ·exact yT _ _
 ·exact .refl _
theorem kr (w:World) (a ep:Nat) (es:Array (Int×Value)):(fM w a ep es).size=es.size:=by
 rw [←Array.length_toList,(kq w a ep es).length_eq,Array.length_toList]
abbrev mD (a:Addr) (slot i n ep:Nat):Obj:={cls:=.type "set_iterator",data:=.fields #[.int slot 0,.int i 0,.ref a,.int n 0,.int ep 0]}
theorem pO:entryFor table "set.__iter__"=some Builtin.«frozenset.__iter__»:=
 (entryFor_alias (id':="frozenset.__iter__") (by kernel_rfl) rfl (by decide +kernel) (by kernel_rfl))
theorem fJ:Slot "set_iterator" "__next__" "set_iterator.__next__":=
 (.of (owner:="set_iterator") (n:="__next__") (by rw [typeLookup_type,builtinLookup_eq_fast];kernel_rfl) (by decide +kernel) (by decide +kernel) (by decide +kernel)
  (by first | exact .inl (by decide +kernel) | exact .inr (by decide +kernel)) (by rw [isSubtype_type];kernel_rfl))
theorem mh:entryFor table "set_iterator.__next__"=some Builtin.«set_iterator.__next__»:=(entryFor_of_tree (by kernel_rfl))
theorem mL (a:Value):argsOk "set_iterator.__next__" ⟨[a],[]⟩:=by unfold argsOk;kernel_rfl
section
variable {prog:Program}{w:World}{A:Around}{E:Value→Shared→Prop}{s:Shared}
theorem BS {a:Addr}{led:Bool}{es:Array (Int×Value)}{ep:Nat}{t:SetTable}{Q:Value→Shared→Prop}(S:iI s.heap a led es ep t)
  (hQ:Q (.ref s.heap.objs.size) {s with heap:=s.heap.push (mD a 0 0 es.size ep)}):wpAny (model prog w) A (pyIter (.ref a)) Q E s:=by
 obtain ⟨L,T⟩:=S.tab
 have hT:s.TypeIs (.ref a) "set":=⟨_,S.at_,rfl⟩
 refine wpAny_pyIter_slot hT F.slot_set_iter (wpAny_call_entry F.slot_set_iter hT pO ?_ (F.args_set_iter_1 _))
 show wpAny _ _ (Builtin.Frozenset.sizeOf a >>= _) _ _ s
 unfold Builtin.Frozenset.sizeOf
 refine wpAny_bind (wpAny_bind (wpAny_setEntries_of S.at_ rfl (cD T) (wpAny_pure ?_)))
 unfold setDrawn setsByText
 refine wpAny_bind (wpAny_bind (wpAny_setState_of S.at_ rfl (cD T) (wpAny_bind (wpAny_bind (wpAny_askSetting (wpAny_pure (wpAny_pure ?_)))))))
 dsimp only
 split
 ·rename_i c
  have c:(!w.params.followText "set-order" && (!t.plain && decide (es.size > 1)))=true:=c
  rw [S.pl] at c
  simp at c
 ·(refine wpAny_bind (wpAny_pure ?_))
  refine wpAny_bind (wpAny_setEpoch_of S.at_ rfl (cD T) ?_)
  (refine wpAny_bind (wpAny_newObj_type ?_))
  exact wpAny_pure ⟨_,rfl,"set_iterator",_,⟨_,Heap.get?_push_size _ rfl,rfl⟩,fJ.lookup,hQ⟩
theorem vL {a:Addr}{es:Array (Int×Value)}{ep:Nat}{t:SetTable}{slot i:Nat}{Q:Option (Value×Nat)→Shared→Prop}(S:iI s.heap a (j7 w) es ep t) (hb:w.params.followText "set-order"=false→SetTable.below t.place slot=i)
  (q1:∀e slot',(fM w a ep es)[i]?=some e→(w.params.followText "set-order"=false→SetTable.below t.place slot'=i + 1)→Q (some (e.2,slot')) s) (q2:(fM w a ep es)[i]?=none→Q none s):
  wpAny (model prog w) A (setNext a slot i ep) Q E s:=by
 obtain ⟨L,T⟩:=S.tab
 unfold setNext setsByText
 refine wpAny_bind (wpAny_setState_of S.at_ rfl (cD T) ?_)
 dsimp only
 (refine wpAny_bind (wpAny_bind (wpAny_askSetting (wpAny_pure ?_))))
 dsimp only
 cases bt:w.params.followText "set-order" with
 | true=>
  rw [show (model prog w).w.params.followText "set-order"=true from bt]
  simp only [if_true,bne_self_eq_false,Bool.false_eq_true,if_false]
  unfold setWalk setsByText
  refine wpAny_bind (wpAny_bind (wpAny_setState_of S.at_ rfl (cD T) ?_))
  dsimp only
  (refine wpAny_bind (wpAny_bind (wpAny_askSetting (wpAny_pure ?_))))
  dsimp only
  rw [show (model prog w).w.params.followText "set-order"=true from bt]
  simp only [if_true]
  refine wpAny_bind (wpAny_askSetting (wpAny_pure ?_))
  dsimp only
  have ew:fM w a ep es=pickOrder ((model prog w).w.params.setOrder a ep) es:=by unfold fM;rw [if_pos bt];rfl
  rw [ew] at q1 q2
  cases q:(pickOrder ((model prog w).w.params.setOrder a ep) es)[i]? with
  | none=>exact wpAny_pure (q2 q)
  | some e=>exact wpAny_pure (q1 e slot q fun z=>absurd (bt.symm.trans z) (by decide))
 | false=>
  rw [show (model prog w).w.params.followText "set-order"=false from bt]
  (simp only [Bool.false_eq_true,if_false])
  have ew:fM w a ep es=es:=by unfold fM;rw [if_neg (by rw [bt];decide)]
  rw [ew] at q1 q2
  have hled:t.led=true:=by rw [S.ld];show (!w.params.followText "set-order")=true;rw [bt];rfl
  split
  ·rename_i c
   have c:(!t.plain && decide (es.size > 1))=true:=c
   rw [S.pl] at c
   simp at c
  ·refine wpAny_bind (wpAny_of_eq (a:=()) ?_ ?_)
   ·show (if (!t.led && !es.isEmpty)=true then _ else pure ())=pure ()
    rw [hled]
    rfl
   ·rw [hb bt]
    cases q:es[i]? with
    | none=>exact wpAny_pure (q2 q)
    | some e=>
     have hlen:i < t.place.size:=by
      have h1:=(Array.getElem?_eq_some_iff.mp q).1
      have h2:t.place.size=es.size:=by rw [←Array.length_toList,T.pl,List.length_map,kX T]
      omega
     have ep':t.place[i]?=some t.place[i]:=Array.getElem?_eq_getElem hlen
     rw [ep']
     exact wpAny_pure (q1 e _ q fun _=>ym T.sop ep')
theorem B9 {I a:Addr}{es:Array (Int×Value)}{ep:Nat}{t:SetTable}{slot i:Nat}{Q:Option Value→Shared→Prop}(hne:a≠I) (S:iI s.heap a (j7 w) es ep t) (hI:s.heap.get? I=some (mD a slot i es.size ep)) (hb:w.params.followText "set-order"=false→SetTable.below t.place slot=i) (hi:i < es.size)
  (hQ:∀h' slot' e,(fM w a ep es)[i]?=some e→h'.get? I=some (mD a slot' (i + 1) es.size ep)→(w.params.followText "set-order"=false→SetTable.below t.place slot'=i + 1)→Heap.SameBut I s.heap h'→Q (some e.2) {s with heap:=h'}):
  wpAny (model prog w) A (pyNext (.ref I)) Q E s:=by
 obtain ⟨L,T⟩:=S.tab
 have hT:s.TypeIs (.ref I) "set_iterator":=⟨_,hI,rfl⟩
 unfold pyNext
 refine wpAny_bind (wpAny_attempt (wpAny_callSpecial?_slot (name:=Str.ofString "__next__") hT fJ (wpAny_call_entry fJ hT mh ?_ (mL _))))
 show wpAny _ _ (fieldsOf (.ref I) >>= _) _ _ s
 refine wpAny_bind (wpAny_fieldsOf hI rfl ?_)
 dsimp only
 refine wpAny_bind (wpAny_setEntries_of S.at_ rfl (cD T) ?_)
 simp only [bne_self_eq_false,Bool.false_eq_true,if_false,Int.toNat_natCast]
 refine wpAny_bind (vL S hb (fun e slot' q1 q2=>?_) fun q=>?_)
 ·dsimp only
  refine wpAny_bind (wpAny_setField_rec hI (by simp) fun h1 g1 b1=>?_)
  refine wpAny_bind (wpAny_setField_rec (s:={s with heap:=h1}) g1 (by simp) fun h2 g2' b2=>?_)
  exact wpAny_pure ⟨_,rfl,wpAny_pure (hQ h2 slot' e q1 (g2'.trans (by simp [rawInt])) q2 (b1.trans b2))⟩
 ·exfalso
  have:=(Array.getElem?_eq_none_iff.mp q)
  rw [kr] at this
  omega
theorem Ea {I a:Addr}{es:Array (Int×Value)}{ep:Nat}{t:SetTable}{slot:Nat}{Q:Option Value→Shared→Prop}(hh:A.handled=none) (S:iI s.heap a (j7 w) es ep t) (hI:s.heap.get? I=some (mD a slot es.size es.size ep)) (hb:w.params.followText "set-order"=false→SetTable.below t.place slot=es.size)
  (hQ:∀h',Heap.ExtBut I s.heap h'→Q none {s with heap:=h'}):wpAny (model prog w) A (pyNext (.ref I)) Q E s:=by
 obtain ⟨L,T⟩:=S.tab
 have hT:s.TypeIs (.ref I) "set_iterator":=⟨_,hI,rfl⟩
 unfold pyNext
 refine wpAny_bind (wpAny_attempt (wpAny_callSpecial?_slot (name:=Str.ofString "__next__") hT fJ (wpAny_call_entry fJ hT mh ?_ (mL _))))
 show wpAny _ _ (fieldsOf (.ref I) >>= _) _ _ s
 refine wpAny_bind (wpAny_fieldsOf hI rfl ?_)
 dsimp only
 refine wpAny_bind (wpAny_setEntries_of S.at_ rfl (cD T) ?_)
 simp only [bne_self_eq_false,Bool.false_eq_true,if_false,Int.toNat_natCast]
 refine wpAny_bind (vL S hb (fun e slot' q1 q2=>?_) fun q=>?_)
 ·exfalso
  have:=(Array.getElem?_eq_some_iff.mp q1).1
  rw [kr] at this
  omega
 ·dsimp only
  refine wpAny_bind (wpAny_setField_rec hI (by simp) fun h1 g1 b1=>?_)
  refine wpAny_bind ?_
  simp only [newExc,newTuple]
  (refine wpAny_bind (wpAny_newObj_type ?_ (by size_fits)))
  (refine wpAny_bind (m:=firstArgMember _ _) (wpAny_of_eq (a:=Value.none) (by first | rfl | (simp only [firstArgMember];rfl)) ?_))
  (refine wpAny_newObj_type ?_ (by size_fits))
  simp only [raiseNew]
  (refine wpAny_bind (wpAny_handled ?_))
  (first | rw [show A.in1.handled=none from hh] | rw [hh])
  (refine wpAny_bind (wpAny_pure (wpAny_throw ?_)))
  (refine wpAny_bind (wpAny_isInstance (T:="StopIteration") (b:=true) ⟨_,Heap.get?_push_size _ rfl,rfl⟩ isSubtype_stop ?_))
  exact wpAny_pure (hQ _ ((b1.extBut.push _).push _))
end
theorem tR:typeLookup (.type "set") "__len__"=pure (some (.builtin "set.__len__")):=by rw [typeLookup_type,builtinLookup_eq_fast];kernel_rfl
theorem Bj {M:Model}{A:Around}{E:Value→Shared→Prop}{s:Shared}{α:Type}{c:Prop} [Decidable c] {m1 m2:Sem α}{Q:α→Shared→Prop}(hc:c) (h:wpAny M A m1 Q E s):wpAny M A (if c then m1 else m2) Q E s:=by rw [if_pos hc];exact h
theorem BQ {prog:Program}{w:World}{A:Around}{E:Value→Shared→Prop}{s:Shared}{a:Addr}{Q:Bool→Shared→Prop}(hT:s.TypeIs (.ref a) "set") (hQ:Q false s):wpAny (model prog w) A (Builtin.List.listLengthHint (.ref a)) Q E s:=by
 have sp:splitId "set.__len__"=some ("set","__len__"):=by decide +kernel
 (unfold Builtin.List.listLengthHint)
 refine wpAny_bind (wpAny_specialOf hT tR ?_)
 dsimp -zeta only
 rw [sp]
 dsimp -zeta only
 refine wpAny_bind (m:=isInstance (.ref a) (.type "set")) (wpAny_isInstance hT sub_set_self ?_)
 (show wpAny _ _ (if (!true)=true then _ else _) _ _ _)
 rw [if_neg (by decide)]
 refine Bj (by decide +kernel) ?_
 (refine wpAny_bind (wpAny_typeOf hT ?_))
 exact wpAny_pure hQ
theorem nN:Slot "set_iterator" "__iter__" "set_iterator.__iter__":=
 ((.of (owner:="set_iterator") (n:="__iter__") (by rw [typeLookup_type,builtinLookup_eq_fast];kernel_rfl) (by decide +kernel) (by decide +kernel) (by decide +kernel)
  ((by first | exact .inl (by decide +kernel) | exact .inr (by decide +kernel))) (by rw [isSubtype_type];kernel_rfl)))
theorem tE:entryFor table "set_iterator.__iter__"=some Builtin.«dict_keyiterator.__iter__»:=
 (entryFor_alias (id':="dict_keyiterator.__iter__") (by kernel_rfl) rfl (by decide +kernel) (by kernel_rfl))
theorem uE (a:Value):argsOk "set_iterator.__iter__" ⟨[a],[]⟩:=by unfold argsOk;kernel_rfl
section
variable {prog:Program}{w:World}{A:Around}{E:Value→Shared→Prop}{s:Shared}
def g_ (w:World) (a ep:Nat) (es:Array (Int×Value)):List Value:=(fM w a ep es).toList.map (·.2)
theorem Bh (hh:A.handled=none) (I a:Addr) (hne:a≠I){es:Array (Int×Value)}{ep:Nat}{t:SetTable}:
  Walks prog w A I [I,a] [I] es.size (fun i v=>(g_ w a ep es)[i]?=some v) (fun i h=>∃slot,h.get? I=some (mD a slot i es.size ep)∧iI h a (j7 w) es ep t∧(w.params.followText "set-order"=false→SetTable.below t.place slot=i)) where
 sub:=fun _ hb=>by simp at hb;simp [hb]
 frame:=fun _ _ _ ⟨slot,h1,h2,h3⟩ hk=>⟨slot,hk I (by simp) _ h1,h2.keep fun o e=>hk a (by simp) o e,h3⟩
 item:=fun i s Q E hi ⟨slot,h1,h2,h3⟩ hQ=>by
  refine B9 hne h2 h1 h3 hi fun h' slot' e q1 q2 q3 q4=>?_
  refine hQ e.2 h' s.toks ?_ ⟨slot',q2,h2.keep fun o e=>?_,q3⟩ fun b o hb e=>?_
  ·unfold g_;rw [List.getElem?_map,Array.getElem?_toList,q1];rfl
  ·rw [q4.2 a hne];exact e
  ·exact q4.extBut b o (fun h=>hb (by simp [h])) e
 done:=fun s Q E ⟨slot,h1,h2,h3⟩ hQ=>Ea hh h2 h1 h3 fun h' he=>hQ h' s.toks fun b o hb e=>he b o (fun h=>hb (by simp [h])) e
 self:=fun i s Q E ⟨slot,h1,h2,h3⟩ hQ=>by
  have hT:s.TypeIs (.ref I) "set_iterator":=⟨_,h1,rfl⟩
  refine wpAny_pyIter_slot hT nN (wpAny_call_entry nN hT tE ?_ (uE _))
  show wpAny _ _ (ret (.ref I)) _ _ s
  exact wpAny_pure ⟨_,rfl,"set_iterator",_,hT,fJ.lookup,hQ⟩
theorem wG {a:Addr}{es:Array (Int×Value)}{ep:Nat}{t:SetTable}{Q:List Value→Shared→Prop}(hh:A.handled=none) (S:iI s.heap a (j7 w) es ep t) (hn:es.size≤76)
  (hQ:∀(h':Heap) (tk:Nat),(∀b o,s.heap.get? b=some o→h'.get? b=some o)→s.heap.objs.size < h'.objs.size→Q (g_ w a ep es) {s with heap:=h',toks:=tk}):wpAny (model prog w) A (collect (.ref a)) Q E s:=by
 have ha:a < s.heap.objs.size:=Heap.lt_size S.at_
 have hT:s.TypeIs (.ref a) "set":=⟨_,S.at_,rfl⟩
 unfold collect
 (refine wpAny_bind (wpAny_runValue (codeAny_builtin F.entry_proto_collect ?_)))
 (rw [Around.under_plainId F.plain_proto_collect _])
 show wpAny _ A.in1 (newList [] >>= fun l=>again (.builtin "list.__iadd__" ⟨[l,.ref a],[]⟩)) _ _ s
 (refine wpAny_bind (wpAny_newObj_type ?_))
 (refine wpAny_pure ⟨plainId_quiet F.plain_list_iadd _,codeAny_builtin F.entry_list_iadd ?_⟩)
 (rw [Around.under_plainId F.plain_list_iadd _])
 generalize hl0:({cls:=.type "list",data:=.seq ([]:List Value).toArray}:Obj)=l0
 have S1:iI (s.heap.push l0) a (j7 w) es ep t:=S.keep fun o e=>Heap.get?_push_of_some _ e
 have hT1:Shared.TypeIs {s with heap:=s.heap.push l0} (.ref a) "set":=⟨_,S1.at_,rfl⟩
 show wpAny _ A.in1 (Builtin.List.listExtendWith (.ref s.heap.objs.size) (.ref a) (.ref s.heap.objs.size)) _ _ _
 (unfold Builtin.List.listExtendWith)
 refine wpAny_bind (wpAny_typeOf hT1 ?_)
 have h1:Builtin.List.listSameRef (.ref s.heap.objs.size) (.ref a)=false:=by
  show (s.heap.objs.size == a)=false
  exact beq_eq_false_iff_ne.mpr (Nat.ne_of_gt ha)
 have h2:(Value.type "set" == Value.type "list")=false:=by decide
 have h3:(Value.type "set" == Value.type "tuple")=false:=by decide
 (simp only [h1,h2,h3,Bool.or_false,Bool.false_eq_true,if_false])
 refine wpAny_bind (BS S1 ?_)
 (refine wpAny_bind (wpAny_holding ?_))
 have z1:(s.heap.push l0).objs.size=s.heap.objs.size + 1:=Heap.size_push _ _
 rw [z1]
 have S2:iI ((s.heap.push l0).push (mD a 0 0 es.size ep)) a (j7 w) es ep t:=S1.keep fun o e=>Heap.get?_push_of_some _ e
 have hT2:Shared.TypeIs {s with heap:=(s.heap.push l0).push (mD a 0 0 es.size ep)} (.ref a) "set":=⟨_,S2.at_,rfl⟩
 refine BQ hT2 ?_
 refine Bj (by decide +kernel) ?_
 (refine wpAny_bind (wpAny_rule ?_))
 subst hl0
 have hI:((s.heap.push {cls:=.type "list",data:=.seq ([]:List Value).toArray}).push (mD a 0 0 es.size ep)).get? (s.heap.objs.size + 1)=some (mD a 0 0 es.size ep):=by rw [←z1];exact Heap.get?_push_size _ rfl
 have hS₁:((s.heap.push {cls:=.type "list",data:=.seq ([]:List Value).toArray}).push (mD a 0 0 es.size ep)).get? s.heap.objs.size=some {cls:=.type "list",data:=.seq ([]:List Value).toArray}:=Heap.get?_push_of_some _ (Heap.get?_push_size _ rfl)
 refine wpAny_bind ?_
 (show wpAny _ A.in1 (updateSeq s.heap.objs.size (·.push .none) >>= fun _=>updateSeq s.heap.objs.size (·.pop)) _ _ _)
 (refine wpAny_bind (wpAny_updateSeq hS₁ rfl ?_))
 (have hS₂:=Heap.get?_update_self (Obj.mapSeq (·.push Value.none)) hS₁ rfl)
 (refine wpAny_updateSeq hS₂ rfl ?_)
 (have hS₃:=Heap.get?_update_self (Obj.mapSeq (·.pop)) hS₂ rfl)
 have oth:∀b o,b≠s.heap.objs.size→((s.heap.push {cls:=.type "list",data:=.seq ([]:List Value).toArray}).push (mD a 0 0 es.size ep)).get? b=some o→
   ((((s.heap.push {cls:=.type "list",data:=.seq ([]:List Value).toArray}).push (mD a 0 0 es.size ep)).update s.heap.objs.size (Obj.mapSeq (·.push Value.none))).update s.heap.objs.size (Obj.mapSeq (·.pop))).get? b=some o:=
  (fun b o hb e=>(Heap.get?_update_other _ _ (Ne.symm hb)).trans ((Heap.get?_update_other _ _ (Ne.symm hb)).trans e))
 have hne:a≠s.heap.objs.size + 1:=Nat.ne_of_lt (Nat.lt_succ_of_lt ha)
 have hSf:s.heap.objs.size∉[s.heap.objs.size + 1,a]:=by
  simp only [List.mem_cons,List.not_mem_nil,or_false,not_or]
  exact ⟨Nat.ne_of_lt (Nat.lt_succ_self _),Nat.ne_of_gt ha⟩
 obtain ⟨L,T⟩:=S.tab
 refine wpAny_pure ⟨plainId_quiet F.plain_extend_loop _,codeAny_extend_loopS ((Bh (A:=A.in1) (prog:=prog) (w:=w) (es:=es) (ep:=ep) (t:=t) hh (s.heap.objs.size + 1) a hne).toS) (by rw [sizeLine_eq];omega) _ hSf _ es.size 0 _ _ _ rfl (Nat.zero_le _)
  ⟨0,oth _ _ (Nat.ne_of_gt (Nat.lt_succ_self _)) hI,S2.keep fun o e=>oth _ _ (Nat.ne_of_lt ha) e,fun _=>yo T.sop⟩ hS₃ (ItemsOf.nil _) fun s' acc' c' hm hS' hacc=>?_⟩
 (show wpAny _ A (load s.heap.objs.size >>= _) _ _ s')
 (refine wpAny_bind (wpAny_load hS' ?_))
 have eacc:acc'.toList=g_ w a ep es:=by
  obtain ⟨z,q⟩:=hacc
  have lw:(g_ w a ep es).length=es.size:=by unfold g_;rw [List.length_map,Array.length_toList,kr]
  refine List.ext_getElem (by rw [Array.length_toList,z,lw]) fun i x1 x2=>?_
  have this:(g_ w a ep es)[i]?=some (acc'[i]'(by simpa using x1)):=q i _ (Array.getElem?_eq_getElem (by simpa using x1))
  rw [List.getElem?_eq_getElem x2] at this
  (exact (Option.some.inj this).symm)
 refine wpAny_pure ?_
 rw [eacc]
 (obtain ⟨h',g',d',tk',os'⟩:=s')
 (have eg:g'=s.gens:=hm.gens)
 (have ed:d'=s.drawn:=hm.drawn)
 have eo:os'=s.os:=hm.os
 subst eg;subst ed;subst eo
 refine hQ h' tk' (fun b o e=>?_) (Heap.lt_size hS')
 have lb:=Heap.lt_size e
 refine hm.heap b o ?_ (oth b o (Nat.ne_of_lt lb) (Heap.get?_push_of_some _ (Heap.get?_push_of_some _ e)))
 simp only [List.mem_cons,List.not_mem_nil,or_false,not_or]
 exact ⟨Nat.ne_of_lt lb,Nat.ne_of_lt (Nat.lt_succ_of_lt lb)⟩
end
theorem sL:isSubtype (.type "tuple") (.type "set")=pure false:=by rw [isSubtype_type];kernel_rfl
theorem sJ:isSubtype (.type "tuple") (.type "frozenset")=pure false:=by rw [isSubtype_type];kernel_rfl
abbrev d_ (led:Bool):Obj:={cls:=.type "set",dict:=none,data:=.set #[] 0 (.fresh 0 0 led)}
abbrev cB (w:World):Bool:=!w.params.followText "set-order"
section
variable {prog:Program}{w:World}{A:Around}{E:Value→Shared→Prop}{s:Shared}{K:PySem.W.Frag}{J:Hp}
theorem vK (a:Value){Q₁:Value→Shared→Prop}(h:Q₁ (.ref s.heap.objs.size) {s with heap:=s.heap.push (d_ (cB w))}):
  (codeAny (model prog w) A (.call (.builtin "set.__new__") ⟨[.type "set",a],[]⟩) (wants Q₁ E) s):=by
 refine (codeAny_of_tree ?_)
 (show wpAny _ A.in1 (do checkBuiltinCall "set.__new__" ⟨[.type "set",a],[]⟩;again (.builtin "set.__new__" ⟨[.type "set",a],[]⟩)) _ _ s)
 refine wpAny_bind (wpAny_of_eq (PySem.F.newCall_set_1 a) (wpAny_pure ⟨plainId_quiet F.plain_set_new _,codeAny_builtin F.entry_set_new ?_⟩))
 (rw [Around.under_plainId F.plain_set_new _])
 (unfold Builtin.«set.__new__» Builtin.Frozenset.newClass)
 have hsub:=sub_set_self
 (obtain ⟨hp,g,d,tk,os⟩:=s)
 dsimp only
 wp_walk
 (refine wpAny_askSetting (wpAny_pure ?_))
 dsimp only
 simp only [newObj]
 (refine wpAny_bind (wpAny_alloc (wpAny_pure ?_)))
 exact wpAny_pure h
theorem vM {l:Addr}{items:Array Value}{ds:List D}{Q:Value→Shared→Prop}(N:HF K J s) (hh:A.handled=none) (hl:s.heap.IsTuple l items) (hz:items.size=ds.length) (hi:∀i v,items[i]?=some v→KV K J v (ds.getD i .non)) (hn:ds.length≤76) (hu:A.units + 16 < cLine)
  (h:∀(h':Heap) (tk:Nat) ks es ep t,iH K J h' s.heap.objs.size (cB w) ks es ep t→(∀d,d∈ks↔d∈ds)→(∀b o,b < s.heap.objs.size→s.heap.get? b=some o→h'.get? b=some o)→Q (.ref s.heap.objs.size) {s with heap:=h',toks:=tk}):
  (wpAny (model prog w) A (call (.type "set") [.ref l]) Q E s):=by
 (obtain ⟨c,tl,hmro⟩:=F.called_set.mro)
 (have hmade:=F.called_set.made)
 have hsub:=F.called_set.sub
 (refine wpAny_call (codeAny_of_tree ?_))
 (show wpAny _ _ (callAny (.type "set") _) _ _ _)
 (refine wpAny_pure ⟨Code.quiet_builtin _ (by decide +kernel),codeAny_builtin F.entry_type_call ?_⟩)
 (rw [Around.under_plain (weight_type_call_type "set" [.ref l] []) rfl])
 (have h1:=F.called_set.notType)
 (have h2:=F.called_set.canCreate)
 have hct:=PySem.F.typeCall_set_1 (.ref l)
 (repeat (any_goals (first | assumption | wp_step)))
 refine codeAny_mono (vK (.ref l) (E:=E) (Q₁:=fun obj s₁=>obj=.ref s.heap.objs.size∧s₁={s with heap:=s.heap.push (d_ (cB w))}) ⟨rfl,rfl⟩) fun r s₁ hr=>?_
 cases r with
 | error e=>exact hr
 | ok fl=>
  cases fl with
  | ret obj=>
   obtain ⟨rfl,rfl⟩:=hr
   have hS:(s.heap.push (d_ (cB w))).get? s.heap.objs.size=some (d_ (cB w)):=Heap.get?_push_size _ rfl
   have hT:Shared.TypeIs {s with heap:=s.heap.push (d_ (cB w))} (.ref s.heap.objs.size) "set":=⟨_,hS,rfl⟩
   (have hli:=F.called_set.init.lookup)
   (have hbi:=F.called_set.init.bind (.ref s.heap.objs.size))
   (repeat (any_goals (first | assumption | wp_step)))
   refine codeAny_mono (codeAny_call_builtin (R:=wants (fun r s₂=>r=.none∧∃h' tk ks es ep t,s₂={s with heap:=h',toks:=tk}∧iH K J h' s.heap.objs.size (cB w) ks es ep t∧(∀d,d∈ks↔d∈ds)∧
     (∀b o,b < s.heap.objs.size→s.heap.get? b=some o→h'.get? b=some o)) E) F.called_set.init.plain F.entry_set_init ((check_set_init_1 hT ?_))) fun r₂ s₂ hr₂=>?_
   ·obtain ⟨ol,hol,hcl,nl,hdl⟩:=id hl
    have hol':(s.heap.push (d_ (cB w))).get? l=some ol:=Heap.get?_push_of_some _ hol
    have hsls:=sL
    have hslf:=sJ
    have hne:(Value.type "tuple" == Value.type "dict")=false:=by decide
    have hl1:(s.heap.push (d_ (cB w))).IsTuple l items:=⟨_,hol',hcl,nl,hdl⟩
    have hTl:Shared.TypeIs {s with heap:=s.heap.push (d_ (cB w))} (.ref l) "tuple":=⟨_,hol',hcl⟩
    (unfold Builtin.«set.__init__» noKeywords Builtin.Frozenset.updateFrom)
    generalize hPI:pyIter=PI
    wp_walk
    subst hPI
    refine (wpAny_pyIter_tuple hl1 ?_)
    refine (wpAny_bind (wpAny_runValue ?_))
    (have hlS:l < s.heap.objs.size:=Heap.lt_size hol)
    have z1:(s.heap.push (d_ (cB w))).objs.size=s.heap.objs.size + 1:=Heap.size_push _ _
    have hne1:l≠(s.heap.push (d_ (cB w))).objs.size:=by rw [z1];exact Nat.ne_of_lt (Nat.lt_succ_of_lt hlS)
    have hSf:s.heap.objs.size∉[(s.heap.push (d_ (cB w))).objs.size,l]:=by
     rw [z1]
     simp only [List.mem_cons,List.not_mem_nil,or_false,not_or]
     (exact ⟨Nat.ne_of_lt (Nat.lt_succ_self _),Nat.ne_of_gt hlS⟩)
    have hno:∀b,s.heap.objs.size≤b→s.heap.get? b=none:=fun b hb=>by
     cases q:s.heap.get? b with
     | none=>rfl
     | some o=>exact absurd (Heap.lt_size q) (Nat.not_lt.mpr hb)
    have hval:∀(i:Nat) (v:Value),items[i]?=some v→KV K J v (ds.getD i .non):=hi
    have all:(List.range items.size).map (fun i=>ds.getD i .non)=ds:=by
     refine List.ext_getElem (by simp [hz]) fun i a b=>?_
     simp [b]
    refine Dd (A:=A.in1.in1) (K:=K) (J:=J) (s0:=s) (led:=cB w) ((Walks.tuple (A:=A.in1.in1.in1) (by simp [hh]) (s.heap.push (d_ (cB w))).objs.size l hne1 items).toS) s.heap.objs.size hSf (fun i=>ds.getD i .non) hval N (fun b hb=>hno b ?_) (by simp only [in1_units];omega) (by omega) items.size 0 _ [] #[] 0 (.fresh 0 0 (cB w)) (by omega) (Nat.zero_le _) ⟨⟨_,Heap.get?_push_size _ rfl,rfl,rfl⟩,hl1.push _⟩ (fun b o e=>Heap.get?_push_of_some _ (Heap.get?_push_of_some _ e)) (zb (Heap.get?_push_of_some _ hS)) (fun d=>by simp) fun s' ks es ep t hm hS' hmem=>?_
    ·(rcases List.mem_cons.mp hb with rfl | hb)
     ·exact Nat.le_refl _
     ·rw [List.mem_singleton.mp hb,z1];exact Nat.le_succ _
    ·rw [all] at hmem
     (obtain ⟨h',g',d',tk',os'⟩:=s')
     (have eg:g'=s.gens:=hm.gens)
     (have ed:d'=s.drawn:=hm.drawn)
     have eo:os'=s.os:=hm.os
     subst eg;subst ed;subst eo
     show wpAny _ _ _ _ _ _
     refine wpAny_pure ?_
     (show wpAny _ _ (ret Value.none) _ _ _)
     refine wpAny_pure ⟨rfl,h',tk',ks,es,ep,t,rfl,hS',hmem,fun b o hb e=>?_⟩
     refine hm.heap b o ?_ (Heap.get?_push_of_some _ (Heap.get?_push_of_some _ e))
     rw [z1]
     simp only [List.mem_cons,List.not_mem_nil,or_false,not_or]
     exact ⟨Nat.ne_of_lt hb,Nat.ne_of_lt (Nat.lt_succ_of_lt hb)⟩
   ·cases r₂ with
    | error e=>exact hr₂
    | ok fl₂=>
     cases fl₂ with
     | ret r=>
      obtain ⟨rfl,h',tk,ks,es,ep,t,rfl,hS',hm',hk'⟩:=hr₂
      (repeat (any_goals (first | assumption | wp_step)))
      exact h _ _ _ _ _ _ hS' hm' hk'
     | _=>exact hr₂.elim
  | _=>exact hr.elim
end
end DL
namespace DL
open PySem PySem.Spec PyProof.Rows L2 ST
open PySem.W (KasT kas_sort kas_ask)
section
variable {prog:Program}{w:World}{A:Around}{E:Value→Shared→Prop}{s:Shared}
theorem sortedS {a:Addr}{es:Array (Int×Value)}{ep:Nat}{t:SetTable}{κ:SortKind}{q:Nat→Nat→Bool}{Q:Value→Shared→Prop}{vs:List Value}(hv:g_ w a ep es=vs) (hh:A.handled=none) (S:iI s.heap a (j7 w) es ep t) (hn:es.size≤76)
  (hs:vs.length < 2∨(2≤vs.length∧vs.length < 64∧
   (∀h' tk C,(∀b o,s.heap.get? b=some o→h'.get? b=some o)→C κ {s with heap:=h',toks:=tk}→wpAny (model prog w) A.in1.in1 (keyKind' vs.toArray) C (fun _ _=>False) {s with heap:=h',toks:=tk})∧
   ∀h' tk,(∀b o,s.heap.get? b=some o→h'.get? b=some o)→∀i j C,i < vs.length→j < vs.length→C (q i j) {s with heap:=h',toks:=tk}→kas_ask prog w A.in1.in1 κ vs i j C {s with heap:=h',toks:=tk}))
  (h:∀h' tk l n,(∀b o,s.heap.get? b=some o→h'.get? b=some o)→s.heap.objs.size≤l→h'.get? l=some (seqObj "list" (if vs.length < 2 then vs else ir q vs).toArray n)→Q (.ref l) {s with heap:=h',toks:=tk}):wpAny (model prog w) A (call (.builtin "sorted") [.ref a]) Q E s:=by
 have sl:vs.length≤sizeLine:=by rcases hs with h | ⟨_,h,_⟩ <;> rw [sizeLine_eq] <;> omega
 refine (Calls.call_function_entry kind_sorted plain_sorted entry_sorted (args_sorted1 _) ?_)
 unfold Builtin.«sorted»
 refine wpAny_bind (m:=checkCount "sorted" 1 1 _) ((wpAny_pure ?_))
 refine wpAny_bind (wG hh S hn fun h1 tk1 k1 le0=>?_)
 rw [hv]
 refine wpAny_bind (wpAny_newList ?_ sl)
 have le1:s.heap.objs.size≤h1.objs.size:=Nat.le_of_lt le0
 have gL:(h1.push (seqObj "list" vs.toArray 0)).get? h1.objs.size=some (seqObj "list" vs.toArray 0):=Heap.get?_push_size _ rfl
 have kp:∀b o,s.heap.get? b=some o→b≠h1.objs.size∧(h1.push (seqObj "list" vs.toArray 0)).get? b=some o:=fun b o e=>by
  have e1:=k1 b o e
  exact ⟨Nat.ne_of_lt (Heap.lt_size e1),Heap.get?_push_of_some _ e1⟩
 have kend:∀out b o,s.heap.get? b=some o→(sortedHeap (h1.push (seqObj "list" vs.toArray 0)) h1.objs.size vs out).get? b=some o:=fun out b o e=>by
  obtain ⟨g1,g2'⟩:=kp b o e
  rw [sortedHeap_old g1 (Heap.lt_size g2')]
  exact g2'
 dsimp only
 rcases hs with h2 | ⟨h2,h64,hk,hc⟩
 ·refine wpAny_bind (wpAny_holding (wpAny_call_entry slot_list_sort ⟨_,gL,rfl⟩ entry_list_sort (qc gL h2 ⟨_,rfl,?_⟩) (args_list_sort _)))
  obtain ⟨n,hn'⟩:=sortedHeap_at (out:=vs.toArray) gL
  rw [if_pos h2] at h
  exact wpAny_pure ⟨_,rfl,h _ tk1 _ n (kend _) le1 hn'⟩
 ·refine wpAny_bind (wpAny_holding (wpAny_call_entry slot_list_sort ⟨_,gL,rfl⟩ entry_list_sort (qd (κ:=κ) (q:=q) gL h2 h64 (fun h' C k c=>?_) (fun h' k i j C hi hj c=>?_) ⟨_,rfl,?_⟩) (args_list_sort _)))
  ·exact hk h' tk1 C (fun b o e=>k b o (kp b o e).1 (kp b o e).2) c
  ·exact hc h' tk1 (fun b o e=>k b o (kp b o e).1 (kp b o e).2) i j C hi hj c
  ·obtain ⟨n,hn'⟩:=sortedHeap_at (out:=(ir q vs).toArray) gL
   rw [if_neg (by omega)] at h
   exact wpAny_pure ⟨_,rfl,h _ tk1 _ n (kend _) le1 hn'⟩
end
mutual
def formOf:D→Fm
 | .int _=>.i
 | .tup xs=>xm xs
 | _=>.b
def xm:List D→Fm
 | []=>.tn
 | x::xs=>.tc (formOf x) (xm xs)
end
def nU:Fm→D→Bool
 | .i,.int _=>true
 | .tn,.tup xs=>xs.isEmpty
 | .tc x r,.tup (y::ys)=>nU x y && nU r (.tup ys)
 | _,_=>false
theorem o7:∀(f:Fm) (d:D),nU f d=true→ji f d
 | .i,.int k,_=>⟨k,rfl⟩
 | .tn,.tup [],_=>⟨[],rfl,rfl⟩
 | .tc x r,.tup (y::ys),h=>by
  unfold nU at h
  rw [Bool.and_eq_true] at h
  exact ⟨_,rfl,y,ys,rfl,o7 x y h.1,o7 r (.tup ys) h.2⟩
def DA:List D→Bool
 | []=>true
 | d::r=>(match eG d with
  | some k=>eO k (d::r)
  | none=>false) && (d::r).all (nU (formOf d))
def nB (ds:List D):Bool:=decide (ds.length < 64) && (areKeys ds && (decide (deps ds≤8) && DA ds))
theorem Cd {ds:List D}(h:DA ds=true):∃k f,∀d∈ds,eG d=some k∧ji f d:=by
 cases ds with
 | nil=>exact ⟨.i,.i,fun _ h=>nomatch h⟩
 | cons d r=>
  unfold DA at h
  rw [Bool.and_eq_true] at h
  cases q:eG d with
  | none=>rw [q] at h;cases h.1
  | some k=>
   rw [q] at h
   exact ⟨k,formOf d,fun x hx=>⟨jb h.1 x hx,o7 _ _ (List.all_eq_true.mp h.2 x hx)⟩⟩
theorem ly {n:Nat}:∀{ds:List D},deps ds≤n→∀d∈ds,dep d≤n
 | [],_,_,h=>nomatch h
 | x::r,hn,d,h=>by
  unfold deps at hn
  (rcases List.mem_cons.mp h with rfl | h)
  ·omega
  ·exact ly (ds:=r) (by omega) d h
theorem k_ {k:Hd}:∀{ds:List D},(∀d∈ds,eG d=some k)→eO k ds=true
 | [],_=>rfl
 | x::r,h=>by
  unfold eO
  rw [h x (List.mem_cons_self ..),k_ fun d hd=>h d (List.mem_cons_of_mem _ hd)]
  cases k <;> rfl
structure Kc (ds:List D) (k:Hd) (f:Fm):Prop where
 ln:ds.length < 64
 ky:areKeys ds=true
 dp:deps ds≤8
 al:∀d∈ds,eG d=some k∧ji f d
theorem vg {ds:List D}(h:nB ds=true):∃k f,Kc ds k f:=by
 unfold nB at h
 rw [Bool.and_eq_true,Bool.and_eq_true,Bool.and_eq_true] at h
 obtain ⟨h1,h2,h3,h4⟩:=h
 obtain ⟨k,f,h5⟩:=Cd h4
 exact ⟨k,f,of_decide_eq_true h1,h2,of_decide_eq_true h3,h5⟩
abbrev lO (X:Cx) (H0:Hp) (a:Addr) (ds:List D):HO:=.ext fun h=>∃ks es ep t,iH X.K H0 h a (cB X.w) ks es ep t∧∀d,d∈ks↔d∈ds
section
variable {X:Cx}
theorem Jd {K:PySem.W.Frag}{J:Hp}{k:Hd}{f:Fm}{ds:List D}{vs:List V}{us:List Value}(o:Kc ds k f) (rs:aG K J ds vs) (rv:Vals vs us):∀i v,us.toArray[i]?=some v→KV K J v (ds.getD i .non):=fun i v q=>by
 have l1:vs.length=us.length:=rv.length
 have l2:ds.length=vs.length:=rs.length
 have hi:i < us.length:=by
  have:=(Array.getElem?_eq_some_iff.mp q).1
  simpa using this
 have e:us.getD i Value.none=v:=by
  simp at q
  simp [List.getD,q]
 have r1:=ef rs (i:=i) (by omega)
 have r2:=eu rv (i:=i) (by omega)
 rw [e] at r2
 have m:=dW (ds:=ds) (i:=i) (by omega)
 refine ⟨?_,oE o.ky _ m,ly o.dp _ m,_,r1,r2⟩
 have hh:=(o.al _ m).1
 generalize cH ds i=d at r1 hh
 generalize vs.getD i V.non=vv at r1 r2
 cases d with
 | tup xs=>cases r1 with
  | tup _ _=>cases r2;exact ⟨_,rfl⟩
 | _=>cases hh
theorem zQ (hu:X.A.units + 64 < cLine) (hc:X.calm=true):bP X (.type "set") (fun xs H Q=>∃p vs ds J0,xs=[.ref p]∧cX X.K H p vs∧a_ J0 H∧aG X.K J0 ds vs∧nB ds=true∧∀l,H l=none→Q (.ref l) (upd H l (lO X J0 l ds))):=by
 intro pins s σ H xs us Q I r h
 obtain ⟨p,vs,ds,J0,rfl,hq,sm,rs,oks,q⟩:=h
 obtain ⟨u,rfl,rx⟩:=vals1 r
 cases rx
 obtain ⟨k,f,o⟩:=vg oks
 have N:HF X.K J0 s:=HF.of (c:=⟨X.K,H,H,fun _=>True⟩) I sm
 obtain ⟨its,r',pt,hz⟩:=I.tuple hq
 refine vM N (I.ok.hd hc) pt (by simp [←r'.length,rs.length]) (Jd o rs r') (by have:=o.ln;omega) (by omega) fun h' tk ks es ep t S hm kp=>?_
 exact ⟨.ref s.heap.objs.size,_,I.laid (t':=tk) (fun b o e=>kp b o (Heap.lt_size e) e) (Nat.le_refl _) (show cF X.prog X.w _ _ _ (lO X J0 s.heap.objs.size ds) from ⟨⟨ks,es,ep,t,S,hm⟩,⟨_,S.at_⟩,fun h1 h2 ⟨ks,es,ep,t,S,hm⟩ e=>⟨ks,es,ep,t,S.keep e,hm⟩⟩),rfl,q _ (I.hok.fresh (Nat.le_refl _))⟩
end
def dd:List D→List D
 | []=>[]
 | x::xs=>if (dd xs).any (bh x)=true then dd xs else x::dd xs
def dO (ds:List D):List D:=aQ (dd ds)
section
variable {P:D→Prop}
theorem tW (p:dF P):∀(ds:List D),(∀x∈ds,P x)→(dd ds).Nodup∧∀y,y∈dd ds↔y∈ds
 | [],_=>⟨List.nodup_nil,fun _=>.rfl⟩
 | x::xs,h=>by
  obtain ⟨h1,h2⟩:=tW p xs fun y hy=>h y (List.mem_cons_of_mem _ hy)
  have px:=h x (List.mem_cons_self ..)
  have eqv:(dd xs).any (bh x)=true↔x∈xs:=by
   rw [List.any_eq_true]
   constructor
   ·rintro ⟨z,hz,e⟩
    have hz':=(h2 z).mp hz
    rw [(p.eq x z px (h z (List.mem_cons_of_mem _ hz'))).mp e]
    exact hz'
   ·intro hx
    exact ⟨x,(h2 x).mpr hx,(p.eq x x px px).mpr rfl⟩
  unfold dd
  by_cases c:(dd xs).any (bh x)=true
  ·rw [if_pos c]
   refine ⟨h1,fun y=>?_⟩
   rw [h2 y,List.mem_cons]
   exact ⟨.inr,fun z=>z.elim (fun e=>e▸eqv.mp c) id⟩
  ·rw [if_neg c]
   refine ⟨List.nodup_cons.mpr ⟨fun z=>c (eqv.mpr ((h2 x).mp z)),h1⟩,fun y=>?_⟩
   rw [List.mem_cons,List.mem_cons,h2 y]
theorem Bf (p:dF P):∀{A B:List D},(∀x∈A,P x)→A.Pairwise (fun a b=>dh a b=true)→B.Pairwise (fun a b=>dh a b=true)→(∀y,y∈A↔y∈B)→A=B
 | [],[],_,_,_,_=>rfl
 | [],b::B,_,_,_,h=>by cases (h b).mpr List.mem_cons_self
 | a::A,[],_,_,_,h=>by cases (h a).mp List.mem_cons_self
 | a::A,b::B,hp,hA,hB,h=>by
  obtain ⟨a1,a2⟩:=List.pairwise_cons.mp hA
  obtain ⟨b1,b2⟩:=List.pairwise_cons.mp hB
  have pa:=hp a List.mem_cons_self
  have pb:=hp b ((h b).mpr List.mem_cons_self)
  have no:∀z,P z→dh z z=true→False:=fun z pz q=>by
   have:=p.asy z z pz pz q
   rw [q] at this;cases this
  have e:a=b:=by
   rcases List.mem_cons.mp ((h a).mp List.mem_cons_self) with e | e
   ·exact e
   ·rcases List.mem_cons.mp ((h b).mpr List.mem_cons_self) with f | f
    ·exact f.symm
    ·exact (no a pa (p.tra _ _ _ pa pb pa (a1 b f) (b1 a e))).elim
  subst e
  have:A=B:=by
   refine Bf p (fun x hx=>hp x (List.mem_cons_of_mem _ hx)) a2 b2 fun y=>⟨fun hy=>?_,fun hy=>?_⟩
   ·rcases List.mem_cons.mp ((h y).mp (List.mem_cons_of_mem _ hy)) with e | e
    ·subst e;exact (no y pa (a1 y hy)).elim
    ·exact e
   ·rcases List.mem_cons.mp ((h y).mpr (List.mem_cons_of_mem _ hy)) with e | e
    ·subst e;exact (no y pa (b1 y hy)).elim
    ·exact e
  rw [this]
theorem rB (p:dF P){ds:List D}(h:∀x∈ds,P x) (nd:ds.Nodup):(aQ ds).Pairwise fun a b=>dh a b=true:=by
 have up:=vP p ds h
 have pm:=gK ds
 have nd':(aQ ds).Nodup:=pm.nodup_iff.mpr nd
 have both:=List.Pairwise.and up nd'
 refine (List.Pairwise.and_mem.mp both).imp ?_
 rintro a b ⟨ha,hb,h1,h2⟩
 cases q:dh a b with
 | true=>rfl
 | false=>exact absurd (p.tri a b (h a (pm.mem_iff.mp ha)) (h b (pm.mem_iff.mp hb)) q h1) h2
theorem vQ (p:dF P){ds ks:List D}(h:∀x∈ds,P x) (nd:ks.Nodup) (hm:∀d,d∈ks↔d∈ds):aQ ks=dO ds:=by
 obtain ⟨h1,h2⟩:=tW p ds h
 have hk:∀x∈ks,P x:=fun x hx=>h x ((hm x).mp hx)
 have hd:∀x∈dd ds,P x:=fun x hx=>h x ((h2 x).mp hx)
 exact Bf p (fun x hx=>hk x ((gK ks).mem_iff.mp hx)) (rB p hk nd) (rB p hd h1) fun y=>by
  rw [(gK ks).mem_iff,hm y]
  show _↔y∈aQ (dd ds)
  rw [(gK (dd ds)).mem_iff,h2 y]
theorem C7 (p:dF P){ds:List D}(h:∀x∈ds,P x):(dO ds).Pairwise (fun a b=>dh a b=true)∧∀d,d∈dO ds↔d∈ds:=by
 obtain ⟨h1,h2⟩:=tW p ds h
 exact ⟨rB p (fun x hx=>h x ((h2 x).mp hx)) h1,fun d=>by show d∈aQ (dd ds)↔_;rw [(gK (dd ds)).mem_iff,h2 d]⟩
end
theorem eW.reps {K:PySem.W.Frag}{J:Hp}{es:List (Int×Value)}{ks:List D}(h:eW K J es ks):∃vs,aG K J ks vs∧Vals vs (es.map (·.2)):=by
 induction h with
 | nil=>exact ⟨_,.nil,.nil⟩
 | cons _ hk _ ih=>
  obtain ⟨vs,h1,h2⟩:=ih
  obtain ⟨_,_,_,v,r,rv⟩:=hk
  exact ⟨v::vs,.cons r h1,.cons rv h2⟩
section
variable {X:Cx}
theorem yu (hu:X.A.units + 64 < cLine) (hc:X.calm=true):bP X (.builtin "sorted") (fun xs H Q=>∃p ds J0,xs=[.ref p]∧H p=some (lO X J0 p ds)∧a_ J0 H∧nB ds=true∧∀l vs',H l=none→aG X.K J0 (dO ds) vs'→Q (.ref l) (upd H l (.lst vs'))):=by
 intro pins s σ H xs us Q I r h
 obtain ⟨p,ds,J0,rfl,hp,sm,oks,q⟩:=h
 obtain ⟨u,rfl,rx⟩:=vals1 r
 cases rx
 obtain ⟨k,f,o⟩:=vg oks
 have hh:X.A.handled=none:=I.ok.hd hc
 have N:HF X.K J0 s:=HF.of (c:=⟨X.K,H,H,fun _=>True⟩) I sm
 obtain ⟨⟨ks,es,ep,t,S,hm⟩,_⟩:=(show cF X.prog X.w H s.heap p (lO X J0 p ds) from I.hok p _ hp)
 obtain ⟨ks',pm,en'⟩:=S.en.perm (kq X.w p ep es).symm
 have nd':ks'.Nodup:=pm.nodup_iff.mp S.nd
 have hm':∀d,d∈ks'↔d∈ds:=fun d=>by rw [←pm.mem_iff,hm d]
 obtain ⟨vs,rs,rv⟩:=en'.reps
 have hv:g_ X.w p ep es=(fM X.w p ep es).toList.map (·.2):=rfl
 rw [←hv] at rv
 generalize hits:g_ X.w p ep es=its at rv
 have l1:vs.length=its.length:=rv.length
 have l2:ks'.length=vs.length:=rs.length
 have len:ks'.length≤ds.length:=List.Nodup.length_le_of_subset nd' fun d hd=>(hm' d).mp hd
 have l64:=o.ln
 have les:es.size=ks'.length:=by rw [←Array.length_toList,S.en.length,pm.length_eq]
 have tot:=gO f
 have out:=vQ tot (fun x hx=>(o.al x hx).2) nd' hm'
 have fin:∀(h':Heap) (tk:Nat) (l:Addr) (n:Nat) (ot:List Value) (vs':List V),vs'.length=vs.length→Vals vs' ot→aG X.K J0 (aQ ks') vs'→(∀b o,s.heap.get? b=some o→h'.get? b=some o)→s.heap.objs.size≤l→h'.get? l=some (seqObj "list" ot.toArray n)→EP X pins σ Q (.ref l) {s with heap:=h',toks:=tk}:=fun h' tk l n ot vs' lv rv' rr kp hl hg=>by
  refine ⟨.ref l,_,I.laid (t':=tk) kp hl (show cF X.prog X.w _ _ _ (.lst vs') from ⟨by rw [lv,sizeLine_eq];omega,ot,n,rv',by simpa [seqObj] using hg⟩),rfl,q l vs' (I.hok.fresh hl) (by rw [←out];exact rr)⟩
 have un:X.A.in1.in1.units=X.A.units + 2:=rfl
 refine sortedS (κ:=tuples' k.flag) (q:=ltB ks') (vs:=its) hits hh S.wk (by omega) ?_ fun h' tk l n kp hl hg=>?_
 ·by_cases h2:its.length < 2
  ·exact .inl h2
  ·refine .inr ⟨by omega,by omega,fun h' tk C kp cc=>?_,fun h' tk kp i j C hi hj cc=>?_⟩
   ·exact rW (N.keep kp) (k_ fun d hd=>(o.al d ((hm' d).mp hd)).1) rs rv (by omega) cc
   ·have hi':i < ks'.length:=by omega
    have hj':j < ks'.length:=by omega
    have mi:=(hm' _).mp (dW hi')
    have mj:=(hm' _).mp (dW hj')
    have hb:cV (cH ks' i) (cH ks' j)=some (ltB ks' i j):=by
     have:=tot.lt _ _ (o.al _ mi).2 (o.al _ mj).2
     unfold ltB
     cases z:cV (cH ks' i) (cH ks' j) with
     | none=>rw [z] at this;cases this
     | some b=>rfl
    have d1:=ly o.dp _ mi
    have d2:=ly o.dp _ mj
    exact xC (N.keep kp) (o.al _ mi).1 (o.al _ mj).1 hb (ef rs hi') (ef rs hj') (eu rv (by omega)) (eu rv (by omega)) (by rw [un];omega) (by omega) (by omega) cc
 ·by_cases h2:its.length < 2
  ·rw [if_pos h2] at hg
   refine fin h' tk l n its vs rfl rv ?_ kp hl hg
   unfold aQ
   rw [if_pos (by omega)]
   exact rs
  ·rw [if_neg h2] at hg
   have ib:∀i∈(aT (ltB ks') (kas_sort ks'.length)).toList,i < ks'.length:=fun i hi=>by
    have:=((d7 (n:=ks'.length) (by omega)).run (ltB ks'):dZ _ _)
    have:=(Array.Perm.mem_iff this).mp (Array.mem_toList_iff.mp hi)
    simpa using this
   have e1:ir (ltB ks') its=(aT (ltB ks') (kas_sort ks'.length)).toList.map fun i=>its.getD i Value.none:=by unfold ir;rw [l2,l1]
   rw [e1] at hg
   refine fin h' tk l n _ _ ?_ (kY rv _ fun i hi=>l2▸ib i hi) ?_ kp hl hg
   ·rw [List.length_map,←l2]
    have:=((d7 (n:=ks'.length) (by omega)).run (ltB ks'):dZ _ _).size_eq
    simpa using this
   ·unfold aQ
    rw [if_neg (by omega)]
    exact kR rs _ ib
end
end DL
namespace DL
open PySem PySem.Spec PyProof.Rows L2 ST
end DL
namespace DL
open PySem PySem.Spec PyProof.Rows L2 DX
section
variable {X:Cx}{c:C}{a e ke:Expr}{g gk:G R}{pos:Pos}{elts:List Expr}{kk:Nat}{tp:Pos}
theorem A1 {p:Pos}{gs:G (List R)}(ha:jk X c [a] gs) (hm:X.mg "enumerate"=none) (hK:X.K=c.K:=by rfl) (hg:Gl X "enumerate":=by rfl) (hs:starEach [a] X.env=[(false,eval a X.env)]:=by rfl) (hs2:starEach [] X.env=[]:=by rfl):
  zD X c (.Tuple elts kk tp) (.Call (.Name "enumerate" p) [a] [] pos) (yD gs):=⟨CJ ha.h hm hK hg hs hs2⟩
theorem CV (i:Nat){x:Str}{p1 p2:Pos}(h:QD X c e g) (hk:QD X c ke gk) (hN:X.N[i]?=some x:=by rfl) (hv:kC X.env.scope x:=by first | exact Or.inl rfl | exact Or.inr (Or.inl rfl) | exact Or.inr (Or.inr rfl)) (hd:(x == ("__debug__":Str))=false:=by decide)
  (hcd:(x == ("__classdict__":Str))=false:=by decide)
  (ha:∀v,assign (.Subscript (.Name x p1) ke p2) X.env v=(do
   let ov ←holding [v] (eval (.Name x p1) X.env)
   let iv ←holding [v,ov] (eval ke X.env)
   standAt p2
   (holding [v,ov,iv] (setItem ov iv v))
   release [v,ov,iv] []):=by intro _;rfl)
  (hs:swapsWithSole [.Subscript (.Name x p1) ke p2] e pos.line X.env=pure false:=by rfl) (hw:swappedStores [.Subscript (.Name x p1) ke p2] e X.env=pure none:=by rfl)
  (h1:(assignEach [.Subscript (.Name x p1) ke p2] X.env).map (·.2)=[assign (.Subscript (.Name x p1) ke p2) X.env]:=by rfl):
  iG X c (.Assign [.Subscript (.Name x p1) ke p2] e pos) (qY i gk g):=⟨ER i h.h hk.h hN hv hd hcd ha hs hw h1⟩
end
end DL
namespace DL
open PySem PySem.Spec PyProof.Rows L2 ST PySem.SetTable
section
variable {t:SetTable}{es:Array (Int×Value)}{L:List (Nat×Int×Value)}
theorem qk (T:Tab t es L) (h:Int) (n0:Nat) (hf:pos t.mask h n0∉L.map (·.1)) (hb:∀m,m < n0→pos t.mask h m∈L.map (·.1)):
  ∀(d n F:Nat),n0 - n=d→n≤n0→d < F→probe.go t (fun _=>h + 1) h F (st t.mask h n)=some (.empty (pos t.mask h n0) none)
 | d,n,0,_,_,h=>absurd h (Nat.not_lt_zero _)
 | d,n,F + 1,hd,hn,hF=>by
  by_cases c:n=n0
  ·subst c
   unfold probe.go
   rw [qz T.dm (by rw [T.pl];exact hf)]
   show some (Met.empty _ (st t.mask h n).dummy)=_
   rw [lS]
  ·obtain ⟨e,he,ej⟩:=List.mem_map.mp (hb n (by omega))
   obtain ⟨i,hi,rfl⟩:=List.mem_iff_getElem.mp he
   have hs:t.slot (pos t.mask h n)=.live i:=nM T.sop (by rw [(T.at_ (List.getElem?_eq_getElem hi)).1,ej])
   have eg:probe.go t (fun _=>h + 1) h (F + 1) (st t.mask h n)=probe.go t (fun _=>h + 1) h F (st t.mask h (n + 1)):=by
    rw [probe.go,hs]
    show (if (h + 1 == h)=true then _ else _)=_
    rw [if_neg (by rw [beq_iff_eq];omega)]
    rfl
   rw [eg]
   exact qk T h n0 hf hb (n0 - (n + 1)) (n + 1) F rfl (by omega) (by omega)
theorem Ac (T:Tab t es L) (h:Int) (n0:Nat) (hf:pos t.mask h n0∉L.map (·.1)) (hb:∀m,m < n0→pos t.mask h m∈L.map (·.1)) (hn0:n0≤10 * (t.mask + 12)):t.freeSlot h=some (pos t.mask h n0,false):=by
 have e:t.probe (fun _=>h + 1) h (t.probeStart h)=some (.empty (pos t.mask h n0) none):=qk T h n0 hf hb n0 0 (10 * turns t.mask) rfl (Nat.zero_le _) (by unfold turns;omega)
 unfold SetTable.freeSlot
 rw [e]
 rfl
theorem Ew (T:Tab t es L) (h:Int) (x:Value) (n0:Nat) (hf:pos t.mask h n0∉L.map (·.1)) (hb:∀m,m < n0→pos t.mask h m∈L.map (·.1)) (hn0:n0≤10 * (t.mask + 12)) (hl:L.length + 1≤t.mask):
  layNew t es h x=(insertAt es (t.put (pos t.mask h n0)).2 (h,x),(t.put (pos t.mask h n0)).1,false,false):=by
 obtain ⟨L',T',_⟩:=T.put h x n0 hf hb (vj _ _ _) hl
 have fit:=cD T'
 unfold layNew
 rw [Ac T h n0 hf hb hn0]
 dsimp only
 unfold SetTable.orStandIn
 rw [fit]
 rfl
theorem B0 {mask finger moves:Nat}{led plain:Bool}{t':SetTable}{order:Array Nat}(hm:jV mask) (hl:es.size≤mask) (e:laid mask finger moves led plain (es.map (·.1))=some (t',order)):order.toList.Perm (List.range es.size):=by
 obtain ⟨owner,G,e0,O⟩:=An hm (es.map (·.1)) (by simpa using hl)
 have hlen:G.length=es.size:=by rw [O.ln];simp
 (let live:=(List.range (mask + 1)).filterMap fun j=>(owner.getD j none).map (j,·))
 have lv:∀p,p∈live↔p.1∈G∧p.2=G.idxOf p.1:=fun p=>by
  show p∈(List.range (mask + 1)).filterMap _↔_
  rw [List.mem_filterMap]
  constructor
  ·rintro ⟨j,hj,q⟩
   have hj':j≤mask:=by have:=List.mem_range.mp hj;omega
   rw [O.at_ j hj'] at q
   by_cases c:j∈G
   ·rw [if_pos c] at q
    have q:(j,G.idxOf j)=p:=by simpa using q
    subst q
    exact ⟨c,rfl⟩
   ·rw [if_neg c] at q;exact absurd q (by simp)
  ·rintro ⟨h1,h2⟩
   refine ⟨p.1,List.mem_range.mpr (by have:=O.bd _ h1;omega),?_⟩
   rw [O.at_ _ (O.bd _ h1),if_pos h1]
   show some (p.1,G.idxOf p.1)=some p
   rw [←h2]
 have so1:live.Pairwise fun a b=>a.1 < b.1:=by
  show ((List.range (mask + 1)).filterMap _).Pairwise _
  rw [List.pairwise_filterMap]
  refine List.pairwise_lt_range.imp ?_
  intro a b hab x hx y hy
  cases q1:owner.getD a none with
  | none=>rw [q1] at hx;exact absurd hx (by simp)
  | some k1=>cases q2:owner.getD b none with
   | none=>rw [q2] at hy;exact absurd hy (by simp)
   | some k2=>
    rw [q1] at hx;rw [q2] at hy
    have hx:(a,k1)=x:=by simpa using hx
    have hy:(b,k2)=y:=by simpa using hy
    subst hx;subst hy;exact hab
 have ord:(live.map (·.2)).Perm (List.range es.size):=by
  rw [List.perm_ext_iff_of_nodup _ List.nodup_range]
  ·intro k
   rw [List.mem_map,List.mem_range]
   constructor
   ·rintro ⟨p,hp,rfl⟩
    obtain ⟨h1,h2⟩:=(lv p).mp hp
    rw [h2,←hlen]
    exact List.idxOf_lt_length_of_mem h1
   ·intro hk
    rw [←hlen] at hk
    exact ⟨(G[k],k),(lv _).mpr ⟨List.getElem_mem _,(O.nd.idxOf_getElem k hk).symm⟩,rfl⟩
  ·show (live.map (·.2)).Pairwise _
   rw [List.pairwise_map]
   refine (List.Pairwise.and_mem.mp so1).imp ?_
   rintro a b ⟨ha,hb,hab⟩ z
   obtain ⟨a1,a2⟩:=(lv a).mp ha
   obtain ⟨b1,b2⟩:=(lv b).mp hb
   rw [a2,b2] at z
   have ga:=List.getElem_idxOf (List.idxOf_lt_length_of_mem a1)
   have gb:=List.getElem_idxOf (List.idxOf_lt_length_of_mem b1)
   have:a.1=b.1:=by
    rw [←ga,←gb]
    congr 1
   omega
 unfold laid at e
 rw [e0] at e
 have e1:(live.map (·.2)).toArray=order:=by
  have:=Option.some.inj e
  exact congrArg Prod.snd this
 rw [←e1]
 exact ord
theorem A3 {w:Nat}(hm:jV (sizeAbove w - 1)) (hl:es.size≤sizeAbove w - 1):∃t' es' L',relayAll t es w=(es',t',false)∧t'.mask=sizeAbove w - 1∧t'.led=t.led∧t'.plain=t.plain∧Tab t' es' L'∧es'.toList.Perm es.toList:=by
 obtain ⟨t',order,L',e1,e2,e3,e4,e5,e6⟩:=sj (t:=t) (es:=es) hm hl
 have od:order.toList.Perm (List.range es.size):=B0 hm hl e1
 refine ⟨t',order.filterMap (es[·]?),L',?_,e2,e3,e4,e5,e6⟩
 unfold relayAll
 rw [e1]
 dsimp only
 have c1:coversAll order es.size=true:=by unfold coversAll;exact List.isPerm_iff.mpr od
 rw [c1,cD e5]
 rfl
end
end DL
namespace DL
open PySem PySem.Spec PyProof.Rows L2 ST
inductive eN:List (Int×Value)→List Int→Prop
 | nil:eN [] []
 | cons {i:Int}{k:Tok}{es:List (Int×Value)}{ns:List Int}:eN es ns→eN ((hashInt i,.int i k)::es) (i::ns)
theorem eN.perm {es es':List (Int×Value)}(p:es.Perm es'):∀{ns:List Int},eN es ns→∃ns',ns.Perm ns'∧eN es' ns':=by
 induction p with
 | nil=>intro ns h;exact ⟨ns,.refl _,h⟩
 | cons x _ ih=>
  intro ns h
  cases h with
  | cons h3=>obtain ⟨ns',a,b⟩:=ih h3;exact ⟨_,a.cons _,.cons b⟩
 | swap x y l=>
  intro ns h
  cases h with
  | cons h3=>cases h3 with
   | cons h6=>exact ⟨_,.swap _ _ _,.cons (.cons h6)⟩
 | trans _ _ ih1 ih2=>
  intro ns h
  obtain ⟨k1,a,b⟩:=ih1 h
  obtain ⟨k2,c,d⟩:=ih2 b
  exact ⟨k2,a.trans c,d⟩
theorem eN.length {es:List (Int×Value)}{ns:List Int}(h:eN es ns):es.length=ns.length:=by
 induction h with
 | nil=>rfl
 | cons _ ih=>simp [ih]
structure iU (h:Heap) (a:Addr) (led:Bool) (ns:List Int) (es:Array (Int×Value)) (ep:Nat) (t:SetTable):Prop where
 at_:h.get? a=some {cls:=.type "set",dict:=none,data:=.set es ep t}
 tab:∃L,Tab t es L
 pl:t.plain=true
 ld:t.led=led
 rm:ns.length * 5 < t.mask * 3
 en:eN es.toList ns
 nd:ns.Nodup
section
variable {w:World}{prog:Program}{E:Value→Shared→Prop}{A:Around}{s:Shared}
theorem eN.elems {es:List (Int×Value)}{ns:List Int}(h:eN es ns):ElemsOf (intKind prog w) es:=by
 induction h with
 | nil=>exact fun e he=>nomatch he
 | @cons i k es ns _ ih=>
  intro e he
  (rcases List.mem_cons.mp he with rfl | he)
  ·exact ⟨⟨i,intKind_is _ _ _ _,rfl⟩,rfl⟩
  ·exact ih e he
theorem eN.find {es:List (Int×Value)}{ns:List Int}(h:eN es ns) (i:Int):(es.findIdx? fun e=>(intKind prog w).is i e.2)=none↔i∉ns:=by
 rw [List.findIdx?_eq_none_iff]
 induction h with
 | nil=>simp
 | @cons j k es ns _ ih=>
  rw [List.mem_cons,not_or,←ih]
  have e:(intKind prog w).is i (.int j k)=decide (i=j):=KeyKind.is_eq_decide (intKind_is prog w j k) i
  constructor
  ·intro h
   refine ⟨fun z=>?_,fun x hx=>h x (List.mem_cons_of_mem _ hx)⟩
   have:=h _ List.mem_cons_self
   rw [e,z] at this
   simp at this
  ·rintro ⟨h1,h2⟩ x hx
   (rcases List.mem_cons.mp hx with rfl | hx)
   ·rw [e];simpa using h1
   ·exact h2 x hx
theorem add_int {a:Addr}{es:Array (Int×Value)}{ep:Nat}{t:SetTable}{led:Bool}{ns:List Int}{i:Int}{k:Tok}{Q:Bool→Shared→Prop}(S:iU s.heap a led ns es ep t) (hl:ns.length < 76)
  (q1:i∈ns→Q false s) (q2:i∉ns→∀(h':Heap) ns' es' ep' t',Heap.SameBut a s.heap h'→(i::ns).Perm ns'→iU h' a led ns' es' ep' t'→Q true {s with heap:=h'}):
  wpAny (model prog w) A (setAddHashed a (.int i k) (hashInt i)) Q E s:=by
 obtain ⟨L,T⟩:=S.tab
 have lenL:L.length=ns.length:=by rw [kX T,←Array.length_toList,S.en.length]
 have hes:es.size=ns.length:=by rw [←Array.length_toList,S.en.length]
 obtain ⟨n0,b1,b2,b3⟩:=pR T.mo (hashInt i) (L.map (·.1)) (by rw [List.length_map];exact T.fl)
 (unfold setAddHashed setAddHashedIn)
 refine wpAny_holding (wpAny_bind (wpAny_setState_of S.at_ rfl (cD T) ?_))
 dsimp only
 have sc:byScan (.int i k) es=true:=byScan_of (prog:=prog) (w:=w) (knd:=intKind prog w) rfl (by unfold scanBound;omega) S.en.elems
 rw [sc]
 simp only [if_true]
 unfold setAddByScan
 refine wpAny_bind ?_
 (refine wpAny_bind (wpAny_rule ?_))
 refine wpAny_bind (wpAny_setScan_of (knd:=intKind prog w) (k:=i) (intKind_is _ _ _ _) S.at_ rfl (cD T) S.en.elems ?_)
 cases hr:List.findIdx? (fun e=>(intKind prog w).is i e.2) es.toList with
 | some j=>
  dsimp only
  have hin:i∈ns:=Classical.byContradiction fun z=>by
   have:=(S.en.find (prog:=prog) (w:=w) i).mpr z
   rw [hr] at this;cases this
  exact wpAny_pure (wpAny_pure (q1 hin))
 | none=>
  dsimp only
  have hm:i∉ns:=(S.en.find i).mp hr
  have rm:=S.rm
  have ln:=Ew T (hashInt i) (.int i k) n0 b2 b3 b1 (by rcases T.mo with h | h | h <;> rw [h] at rm ⊢ <;> omega)
  rw [ln]
  dsimp only
  (refine wpAny_bind (wpAny_of_eq (a:=()) rfl ?_))
  obtain ⟨L',T',pm⟩:=T.put (hashInt i) (.int i k) n0 b2 b3 (vj _ _ _) (by rcases T.mo with h | h | h <;> rw [h] at rm ⊢ <;> omega)
  have fl:(t.put (pos t.mask (hashInt i) n0)).1.mask=t.mask∧(t.put (pos t.mask (hashInt i) n0)).1.plain=t.plain∧(t.put (pos t.mask (hashInt i) n0)).1.led=t.led:=⟨rfl,rfl,rfl⟩
  generalize t.put (pos t.mask (hashInt i) n0)=tp at T' fl ⊢
  obtain ⟨t',p⟩:=tp
  dsimp only at T' fl ⊢
  obtain ⟨f1,f2,f3⟩:=fl
  obtain ⟨ns',p1,p2⟩:∃ns',(i::ns).Perm ns'∧eN (SetTable.insertAt es p (hashInt i,.int i k)).toList ns':=by
   refine eN.perm (es:=(hashInt i,.int i k)::es.toList) ?_ (.cons S.en)
   rw [T'.en,T.en]
   exact (pm.map (·.2)).symm
  have nd':ns'.Nodup:=p1.nodup_iff.mp (List.nodup_cons.mpr ⟨hm,S.nd⟩)
  have lk:ns'.length=ns.length + 1:=by rw [←p1.length_eq];rfl
  rw [f2,S.pl]
  simp only [if_true]
  (refine wpAny_bind (wpAny_of_eq (a:=true) rfl ?_))
  simp only [if_true]
  have esz:(SetTable.insertAt es p (hashInt i,Value.int i k)).size=ns'.length:=by rw [←Array.length_toList,p2.length]
  refine wpAny_bind (wpAny_storeSet_of S.at_ rfl ?_ (by rw [esz,sizeLine_eq];omega))
  have hg:=Heap.get?_update_self (Obj.putSet (SetTable.insertAt es p (hashInt i,.int i k)) t') S.at_ rfl
  have hfill:t'.fill=ns'.length:=by
   unfold SetTable.fill
   rw [T'.dm,←Array.length_toList,T'.pl,List.length_map,kX T',esz]
   rfl
  split
  ·rename_i c
   simp only [Bool.not_false,Bool.true_and] at c
   unfold SetTable.tooFull at c
   rw [hfill,f1,decide_eq_true_eq] at c
   have hW:(SetTable.sizeAbove (SetTable.grown ns'.length)=32∧ns'.length=5)∨(SetTable.sizeAbove (SetTable.grown ns'.length)=128∧ns'.length=19):=by
    unfold SetTable.grown
    rw [if_neg (by omega)]
    rcases T.mo with h | h | h
    ·rw [h] at c rm
     have:ns'.length=5:=by omega
     rw [this]
     exact .inl ⟨wX,rfl⟩
    ·rw [h] at c rm
     have:ns'.length=19:=by omega
     rw [this]
     exact .inr ⟨wY,rfl⟩
    ·rw [h] at c;omega
   have hmo:jV (SetTable.sizeAbove (SetTable.grown ns'.length) - 1):=by rcases hW with ⟨h,_⟩ | ⟨h,_⟩ <;> rw [h];exact .inr (.inl rfl);exact .inr (.inr rfl)
   rw [esz]
   obtain ⟨t2,es2,L2,g1,g2',g3,g4,g5,g6⟩:=A3 (t:=t') (es:=SetTable.insertAt es p (hashInt i,.int i k)) hmo (by rw [esz];rcases hW with ⟨h,h'⟩ | ⟨h,h'⟩ <;> rw [h] <;> omega)
   rw [g1]
   dsimp only
   (refine wpAny_bind (wpAny_of_eq (a:=()) rfl ?_))
   obtain ⟨ns2,r1,r2⟩:=p2.perm g6.symm
   have es2z:es2.size=ns'.length:=by rw [←Array.length_toList,r2.length,r1.length_eq]
   refine wpAny_bind (wpAny_storeSet_of (s:={s with heap:=s.heap.update a (Obj.putSet (SetTable.insertAt es p (hashInt i,.int i k)) t')}) hg rfl ?_ (by rw [es2z,sizeLine_eq];omega))
   have hg2:=Heap.get?_update_self (Obj.putSet es2 t2) hg rfl
   refine wpAny_pure (wpAny_pure (q2 hm _ ns2 _ _ _ ((Heap.SameBut.update _ _ _).trans (Heap.SameBut.update _ _ _)) (p1.trans r1) ⟨hg2,⟨L2,g5⟩,g4.trans (f2.trans S.pl),g3.trans (f3.trans S.ld),?_,r2,r1.nodup_iff.mp nd'⟩))
   rw [←r1.length_eq,g2']
   rcases hW with ⟨h,h'⟩ | ⟨h,h'⟩ <;> rw [h,h'] <;> omega
  ·rename_i c
   simp only [Bool.not_false,Bool.true_and] at c
   unfold SetTable.tooFull at c
   rw [hfill,f1,decide_eq_true_eq] at c
   exact wpAny_pure (wpAny_pure (q2 hm _ ns' _ _ _ (Heap.SameBut.update _ _ _) p1 ⟨hg,⟨L',T'⟩,f2.trans S.pl,f3.trans S.ld,by rw [f1];omega,p2,nd'⟩))
end
theorem iU.keep {h h':Heap}{a:Addr}{led:Bool}{ns:List Int}{es:Array (Int×Value)}{ep:Nat}{t:SetTable}(S:iU h a led ns es ep t) (e:∀o,h.get? a=some o→h'.get? a=some o):iU h' a led ns es ep t:=
 ⟨e _ S.at_,S.tab,S.pl,S.ld,S.rm,S.en,S.nd⟩
section
variable {w:World}{prog:Program}{R:Result→Shared→Prop}{A:Around}{I:Addr}{fp wr:List Addr}{G:Array GenState→Array GenState→Prop}{n:Nat}{P:Nat→Value→Prop}{St:Nat→Shared→Prop}
theorem Bg (W:WalksS prog w A.in1 I fp wr G n P St) (S:Addr) (hSf:S∉fp) (val:Nat→Int) (hval:∀i v,P i v→∃t,v=.int (val i) t) (hn:n≤76){led:Bool}:
  ∀(k i:Nat) (s:Shared) (ns:List Int) (es:Array (Int×Value)) (ep:Nat) (t:SetTable),n - i=k→i≤n→St i s→iU s.heap S led ns es ep t→(∀d,d∈ns↔d∈(List.range i).map val)→
   (∀s' ns' es' ep' t',Moved (S::wr) G s s'→iU s'.heap S led ns' es' ep' t'→(∀d,d∈ns'↔d∈(List.range n).map val)→R (.ok (.ret .none)) s')→
   (codeAny (model prog w) A (.builtin "set.update.loop" ⟨[.ref S,.ref I],[]⟩) R s):=by
 (have hSw:S∉wr:=fun h=>hSf (W.sub _ h))
 (have hsub:∀b∈wr,b∈S::wr:=fun b hb=>List.mem_cons_of_mem _ hb)
 intro k
 induction k with
 | zero=>
  intro i s ns es ep t hk hi hst hS hm hR
  have hin:i=n:=by omega
  subst hin
  refine codeAny_builtin PyProof.Rows.F.entry_set_update_loop ?_
  rw [Around.under_plainId PyProof.Rows.F.plain_set_update_loop _]
  (show wpAny _ A.in1 (pyNext (.ref I) >>= _) _ _ s)
  refine wpAny_bind (W.done s _ _ hst fun s' hmv=>?_)
  (show wpAny _ A.in1 (ret Value.none) _ _ s')
  exact wpAny_pure (hR s' ns es ep t (hmv.mono hsub) (hS.keep fun o e=>hmv.heap S o hSw e) hm)
 | succ k ih=>
  intro i s ns es ep t hk hi hst hS hm hR
  have hlt:i < n:=by omega
  have hlen:ns.length≤i:=by
   have:=List.Nodup.length_le_of_subset hS.nd (fun d hd=>(hm d).mp hd)
   simpa using this
  refine codeAny_builtin PyProof.Rows.F.entry_set_update_loop ?_
  rw [Around.under_plainId PyProof.Rows.F.plain_set_update_loop _]
  (show wpAny _ A.in1 (pyNext (.ref I) >>= _) _ _ s)
  refine wpAny_bind (W.item i s _ _ hlt hst fun v s' hP hst' hmv=>?_)
  obtain ⟨tk,rfl⟩:=hval i v hP
  have hS':=hS.keep (h':=s'.heap) fun o e=>hmv.heap S o hSw e
  have mem':∀(ns':List Int),(∀d,d∈ns'↔d=val i∨d∈ns)→∀d,d∈ns'↔d∈(List.range (i + 1)).map val:=fun ns' h d=>by
   rw [h d,hm d,List.range_succ,List.map_append,List.mem_append]
   simp only [List.map_cons,List.map_nil,List.mem_singleton]
   exact Or.comm
  show wpAny _ A.in1 (holding [.int (val i) tk] (setAdd S (.int (val i) tk)) >>= _) _ _ s'
  (refine wpAny_bind (wpAny_holding ?_))
  unfold setAdd
  refine wpAny_holding ?_
  (refine wpAny_bind (wpAny_pyHash_int ?_))
  refine add_int (s:={s' with toks:=s'.toks + 1}) hS' (by omega) (fun hin=>?_) (fun hin h' ns' es' ep' t' hsb hpm hS2=>?_)
  ·refine wpAny_pure ⟨plainId_quiet PyProof.Rows.F.plain_set_update_loop _,ih (i + 1) _ ns es ep t (by omega) hlt (W.frame _ s' _ _ hst' (Nat.le_succ _) fun b hb o e=>e) hS' (mem' ns fun d=>⟨.inr,fun h=>h.elim (fun h=>h▸hin) id⟩) fun s'' ns'' es'' ep'' t'' hm'' hS'' hmm=>?_⟩
   exact hR s'' ns'' es'' ep'' t'' (Moved.trans W.gtrans ((hmv.mono hsub).then_heap (Nat.le_succ _) fun b o hb e=>e) hm'') hS'' hmm
  ·refine wpAny_pure ⟨plainId_quiet PyProof.Rows.F.plain_set_update_loop _,ih (i + 1) _ ns' es' ep' t' (by omega) hlt (W.frame _ s' _ _ hst' (Nat.le_succ _) fun b hb o e=>?_) hS2 (mem' ns' fun d=>?_) fun s'' ns'' es'' ep'' t'' hm'' hS'' hmm=>?_⟩
   ·(rw [hsb.2 b (fun h:b=S=>hSf (by rw [←h];exact hb))];exact e)
   ·rw [←hpm.mem_iff,List.mem_cons]
   ·refine hR s'' ns'' es'' ep'' t'' (Moved.trans W.gtrans ((hmv.mono hsub).then_heap (Nat.le_succ _) fun b o hb e=>?_) hm'') hS'' hmm
    (rw [hsb.2 b (fun h:b=S=>hb (by rw [h];exact List.mem_cons_self))];exact e)
end
theorem zc {h:Heap}{a:Addr}{led:Bool}(e:h.get? a=some {cls:=.type "set",dict:=none,data:=.set #[] 0 (.fresh 0 0 led)}):iU h a led [] #[] 0 (.fresh 0 0 led):=
 ⟨e,⟨[],⟨rfl,rfl,rfl,List.Pairwise.nil,(fun _ h=>nomatch h),.inl rfl,Nat.zero_le _,(fun _ h=>nomatch h)⟩⟩,rfl,rfl,(show 0 * 5 < 7 * 3 by decide),.nil,List.nodup_nil⟩
section
variable {w:World}{prog:Program}{A:Around}{s:Shared}{E:Value→Shared→Prop}
theorem tP {l:Addr}{items:Array Value}{ds:List Int}{Q:Value→Shared→Prop}(hh:A.handled=none) (hl:s.heap.IsTuple l items) (hz:items.size=ds.length) (hi:∀(i:Nat) (v:Value),items[i]?=some v→∃t,v=.int (ds.getD i 0) t) (hn:ds.length≤76)
  (h:∀(h':Heap) (tk:Nat) ks es ep t,iU h' s.heap.objs.size (cB w) ks es ep t→(∀d,d∈ks↔d∈ds)→(∀b o,b < s.heap.objs.size→s.heap.get? b=some o→h'.get? b=some o)→Q (.ref s.heap.objs.size) {s with heap:=h',toks:=tk}):
  (wpAny (model prog w) A (call (.type "set") [.ref l]) Q E s):=by
 (obtain ⟨c,tl,hmro⟩:=F.called_set.mro)
 (have hmade:=F.called_set.made)
 have hsub:=F.called_set.sub
 (refine wpAny_call (codeAny_of_tree ?_))
 (show wpAny _ _ (callAny (.type "set") _) _ _ _)
 (refine wpAny_pure ⟨Code.quiet_builtin _ (by decide +kernel),codeAny_builtin F.entry_type_call ?_⟩)
 (rw [Around.under_plain (weight_type_call_type "set" [.ref l] []) rfl])
 (have h1:=F.called_set.notType)
 (have h2:=F.called_set.canCreate)
 have hct:=PySem.F.typeCall_set_1 (.ref l)
 (repeat (any_goals (first | assumption | wp_step)))
 refine codeAny_mono (vK (.ref l) (E:=E) (Q₁:=fun obj s₁=>obj=.ref s.heap.objs.size∧s₁={s with heap:=s.heap.push (d_ (cB w))}) ⟨rfl,rfl⟩) fun r s₁ hr=>?_
 cases r with
 | error e=>exact hr
 | ok fl=>
  cases fl with
  | ret obj=>
   obtain ⟨rfl,rfl⟩:=hr
   have hS:(s.heap.push (d_ (cB w))).get? s.heap.objs.size=some (d_ (cB w)):=Heap.get?_push_size _ rfl
   have hT:Shared.TypeIs {s with heap:=s.heap.push (d_ (cB w))} (.ref s.heap.objs.size) "set":=⟨_,hS,rfl⟩
   (have hli:=F.called_set.init.lookup)
   (have hbi:=F.called_set.init.bind (.ref s.heap.objs.size))
   (repeat (any_goals (first | assumption | wp_step)))
   refine codeAny_mono (codeAny_call_builtin (R:=wants (fun r s₂=>r=.none∧∃h' tk ks es ep t,s₂={s with heap:=h',toks:=tk}∧iU h' s.heap.objs.size (cB w) ks es ep t∧(∀d,d∈ks↔d∈ds)∧
     (∀b o,b < s.heap.objs.size→s.heap.get? b=some o→h'.get? b=some o)) E) F.called_set.init.plain F.entry_set_init ((check_set_init_1 hT ?_))) fun r₂ s₂ hr₂=>?_
   ·obtain ⟨ol,hol,hcl,nl,hdl⟩:=id hl
    have hol':(s.heap.push (d_ (cB w))).get? l=some ol:=Heap.get?_push_of_some _ hol
    have hsls:=sL
    have hslf:=sJ
    have hne:(Value.type "tuple" == Value.type "dict")=false:=by decide
    have hl1:(s.heap.push (d_ (cB w))).IsTuple l items:=⟨_,hol',hcl,nl,hdl⟩
    have hTl:Shared.TypeIs {s with heap:=s.heap.push (d_ (cB w))} (.ref l) "tuple":=⟨_,hol',hcl⟩
    (unfold Builtin.«set.__init__» noKeywords Builtin.Frozenset.updateFrom)
    generalize hPI:pyIter=PI
    wp_walk
    subst hPI
    refine (wpAny_pyIter_tuple hl1 ?_)
    refine (wpAny_bind (wpAny_runValue ?_))
    (have hlS:l < s.heap.objs.size:=Heap.lt_size hol)
    have z1:(s.heap.push (d_ (cB w))).objs.size=s.heap.objs.size + 1:=Heap.size_push _ _
    have hne1:l≠(s.heap.push (d_ (cB w))).objs.size:=by rw [z1];exact Nat.ne_of_lt (Nat.lt_succ_of_lt hlS)
    have hSf:s.heap.objs.size∉[(s.heap.push (d_ (cB w))).objs.size,l]:=by
     rw [z1]
     simp only [List.mem_cons,List.not_mem_nil,or_false,not_or]
     (exact ⟨Nat.ne_of_lt (Nat.lt_succ_self _),Nat.ne_of_gt hlS⟩)
    have hno:∀b,s.heap.objs.size≤b→s.heap.get? b=none:=fun b hb=>by
     cases q:s.heap.get? b with
     | none=>rfl
     | some o=>exact absurd (Heap.lt_size q) (Nat.not_lt.mpr hb)
    have hval:∀(i:Nat) (v:Value),items[i]?=some v→∃t,v=.int (ds.getD i 0) t:=hi
    have all:(List.range items.size).map (fun i=>ds.getD i 0)=ds:=by
     refine List.ext_getElem (by simp [hz]) fun i a b=>?_
     simp [b]
    refine Bg (A:=A.in1.in1) (led:=cB w) ((Walks.tuple (A:=A.in1.in1.in1) (by simp [hh]) (s.heap.push (d_ (cB w))).objs.size l hne1 items).toS) s.heap.objs.size hSf (fun i=>ds.getD i 0) hval (by omega) items.size 0 _ [] #[] 0 (.fresh 0 0 (cB w)) (by omega) (Nat.zero_le _) ⟨⟨_,Heap.get?_push_size _ rfl,rfl,rfl⟩,hl1.push _⟩ (zc (Heap.get?_push_of_some _ hS)) (fun d=>by simp) fun s' ks es ep t hm hS' hmem=>?_
    ·rw [all] at hmem
     (obtain ⟨h',g',d',tk',os'⟩:=s')
     (have eg:g'=s.gens:=hm.gens)
     (have ed:d'=s.drawn:=hm.drawn)
     have eo:os'=s.os:=hm.os
     subst eg;subst ed;subst eo
     show wpAny _ _ _ _ _ _
     refine wpAny_pure ?_
     (show wpAny _ _ (ret Value.none) _ _ _)
     refine wpAny_pure ⟨rfl,h',tk',ks,es,ep,t,rfl,hS',hmem,fun b o hb e=>?_⟩
     refine hm.heap b o ?_ (Heap.get?_push_of_some _ (Heap.get?_push_of_some _ e))
     rw [z1]
     simp only [List.mem_cons,List.not_mem_nil,or_false,not_or]
     exact ⟨Nat.ne_of_lt hb,Nat.ne_of_lt (Nat.lt_succ_of_lt hb)⟩
   ·cases r₂ with
    | error e=>exact hr₂
    | ok fl₂=>
     cases fl₂ with
     | ret r=>
      obtain ⟨rfl,h',tk,ks,es,ep,t,rfl,hS',hm',hk'⟩:=hr₂
      (repeat (any_goals (first | assumption | wp_step)))
      exact h _ _ _ _ _ _ hS' hm' hk'
     | _=>exact hr₂.elim
  | _=>exact hr.elim
end
end DL
namespace DL
open PySem PySem.Spec PyProof.Rows L2 ST DX
open PySem.W (KasT kas_sort kas_ask)
theorem iU.wk {h:Heap}{a:Addr}{led:Bool}{ns:List Int}{es:Array (Int×Value)}{ep:Nat}{t:SetTable}(S:iU h a led ns es ep t):iI h a led es ep t:=⟨S.at_,S.tab,S.pl,S.ld⟩
def xZ:D→Int
 | .int i=>i
 | _=>0
theorem IS {ds:List D}(h:ds.all isInt=true):ds=(ds.map xZ).map .int:=by
 induction ds with
 | nil=>rfl
 | cons d r ih=>
  rw [List.all_cons,Bool.and_eq_true] at h
  cases d with
  | int i=>rw [List.map_cons,List.map_cons,←ih h.2];rfl
  | _=>cases h.1
abbrev lN (X:Cx) (a:Addr) (ms:List Int):HO:=.ext fun h=>∃ns es ep t,iU h a (cB X.w) ns es ep t∧∀d,d∈ns↔d∈ms
theorem int_at {K:PySem.W.Frag}{J:Hp}{ms:List Int}{vs:List V}{us:List Value}(rs:aG K J (ms.map .int) vs) (rv:Vals vs us):∀(i:Nat) (v:Value),us.toArray[i]?=some v→∃t,v=.int (ms.getD i 0) t:=fun i v q=>by
 have l1:vs.length=us.length:=rv.length
 have l2:(ms.map D.int).length=vs.length:=rs.length
 have hi:i < us.length:=by
  have:=(Array.getElem?_eq_some_iff.mp q).1
  simpa using this
 have e:us.getD i Value.none=v:=by
  simp at q
  simp [List.getD,q]
 have r1:=ef rs (i:=i) (by omega)
 have r2:=eu rv (i:=i) (by omega)
 rw [e] at r2
 have lm:i < ms.length:=by rw [List.length_map] at l2;omega
 have e2:cH (ms.map D.int) i=.int (ms.getD i 0):=by
  unfold cH
  simp [List.getD,lm]
 rw [e2] at r1
 generalize vs.getD i V.non=vv at r1 r2
 cases r1
 exact r2
section
variable {X:Cx}
theorem zP (hc:X.calm=true):bP X (.type "set") (fun xs H Q=>∃p vs ms J0,xs=[.ref p]∧cX X.K H p vs∧aG X.K J0 (ms.map .int) vs∧ms.length < 64∧∀l,H l=none→Q (.ref l) (upd H l (lN X l ms))):=by
 intro pins s σ H xs us Q I r h
 obtain ⟨p,vs,ms,J0,rfl,hq,rs,l64,q⟩:=h
 obtain ⟨u,rfl,rx⟩:=vals1 r
 cases rx
 have hh:X.A.handled=none:=I.ok.hd hc
 have fr:H s.heap.objs.size=none:=I.hok.fresh (Nat.le_refl _)
 obtain ⟨its,r',pt,hz⟩:=I.tuple hq
 have lm:(ms.map D.int).length=vs.length:=rs.length
 rw [List.length_map] at lm
 refine tP hh pt (by simp [←r'.length,lm]) (int_at rs r') (by omega) fun h' tk ks es ep t S hm kp=>?_
 exact ⟨.ref s.heap.objs.size,_,I.laid (t':=tk) (fun b o e=>kp b o (Heap.lt_size e) e) (Nat.le_refl _) (show cF X.prog X.w _ _ _ (lN X s.heap.objs.size ms) from ⟨⟨ks,es,ep,t,S,hm⟩,⟨_,S.at_⟩,fun h1 h2 ⟨ks,es,ep,t,S,hm⟩ e=>⟨ks,es,ep,t,S.keep e,hm⟩⟩),rfl,q _ fr⟩
theorem eN.reps {es:List (Int×Value)}{ns:List Int}(h:eN es ns):∃vs,(∀(K:PySem.W.Frag) (J:Hp),aG K J (ns.map .int) vs)∧Vals vs (es.map (·.2))∧IntsAre (es.map (·.2)) ns:=by
 induction h with
 | nil=>exact ⟨[],fun K J=>.nil,.nil,.nil⟩
 | @cons i k es ns _ ih=>
  obtain ⟨vs,h1,h2,h3⟩:=ih
  exact ⟨.int i::vs,fun K J=>.cons (.int _) (h1 K J),.cons ⟨k,rfl⟩ h2,.cons i k h3⟩
theorem wF (hc:X.calm=true):bP X (.builtin "sorted") (fun xs H Q=>∃p ms,xs=[.ref p]∧H p=some (lN X p ms)∧ms.length < 64∧∀l vs',H l=none→(∀J0,aG X.K J0 (dO (ms.map .int)) vs')→Q (.ref l) (upd H l (.lst vs'))):=by
 intro pins s σ H xs us Q I r h
 obtain ⟨p,ms,rfl,hp,l64,q⟩:=h
 obtain ⟨u,rfl,rx⟩:=vals1 r
 cases rx
 have hh:X.A.handled=none:=I.ok.hd hc
 obtain ⟨⟨ns,es,ep,t,S,hm⟩,_⟩:=(show cF X.prog X.w H s.heap p (lN X p ms) from I.hok p _ hp)
 obtain ⟨ns',pm,en'⟩:=S.en.perm (kq X.w p ep es).symm
 have nd':ns'.Nodup:=pm.nodup_iff.mp S.nd
 have hm':∀d,d∈ns'↔d∈ms:=fun d=>by rw [←pm.mem_iff,hm d]
 obtain ⟨vs,rs,rv,hI⟩:=en'.reps
 have hv:g_ X.w p ep es=(fM X.w p ep es).toList.map (·.2):=rfl
 rw [←hv] at rv hI
 generalize hits:g_ X.w p ep es=its at rv hI
 have l1:vs.length=its.length:=rv.length
 have l2:(ns'.map D.int).length=vs.length:=(rs X.K H).length
 have len:ns'.length≤ms.length:=List.Nodup.length_le_of_subset nd' fun d hd=>(hm' d).mp hd
 have les:es.size=ns'.length:=by rw [←Array.length_toList,S.en.length,pm.length_eq]
 have ndD:(ns'.map D.int).Nodup:=List.pairwise_map.mpr (List.Pairwise.imp (fun h e=>h (by cases e;rfl)) nd')
 have hmD:∀d,d∈ns'.map D.int↔d∈ms.map D.int:=fun d=>by simp only [List.mem_map,hm']
 have allI:∀d∈ms.map D.int,ji .i d:=fun d hd=>by obtain ⟨i,_,rfl⟩:=List.mem_map.mp hd;exact ⟨i,rfl⟩
 have out:=vQ (gO .i) allI ndD hmD
 have lm:(ns'.map D.int).length=ns'.length:=List.length_map _
 generalize hk:ns'.map D.int=ks' at *
 have fin:∀(h':Heap) (tk:Nat) (l:Addr) (n:Nat) (ot:List Value) (vs':List V),vs'.length=vs.length→Vals vs' ot→(∀J0,aG X.K J0 (aQ ks') vs')→(∀b o,s.heap.get? b=some o→h'.get? b=some o)→s.heap.objs.size≤l→h'.get? l=some (seqObj "list" ot.toArray n)→EP X pins σ Q (.ref l) {s with heap:=h',toks:=tk}:=fun h' tk l n ot vs' lv rv' rr kp hl hg=>by
  refine ⟨.ref l,_,I.laid (t':=tk) kp hl (show cF X.prog X.w _ _ _ (.lst vs') from ⟨by rw [lv,sizeLine_eq];omega,ot,n,rv',by simpa [seqObj] using hg⟩),rfl,q l vs' (I.hok.fresh hl) (by rw [←out];exact rr)⟩
 refine sortedS (κ:=oneType') (q:=ltB ks') (vs:=its) hits hh S.wk (by omega) ?_ fun h' tk l n kp hl hg=>?_
 ·by_cases h2:its.length < 2
  ·exact .inl h2
  ·refine .inr ⟨by omega,by omega,fun h' tk C kp cc=>?_,fun h' tk kp i j C hi hj cc=>?_⟩
   ·have hl:2≤its.length:=by omega
    clear fin l1 rv hits
    match its,hI,hl with
    | v1::v2::r,hI,_=>rw [keyKind_ints hI];exact wpAny_pure cc
   ·have hi':i < ks'.length:=by omega
    have hj':j < ks'.length:=by omega
    have ai:=allI _ ((hmD _).mp (dW hi'))
    have aj:=allI _ ((hmD _).mp (dW hj'))
    have r1:=ef (rs X.K H) hi'
    have r2:=ef (rs X.K H) hj'
    have v1:=eu rv (i:=i) (by omega)
    have v2:=eu rv (i:=j) (by omega)
    show wpAny _ _ (keyLt' oneType' (its.getD i Value.none) (its.getD j Value.none)) _ _ _
    rw [keyLt'_oneType]
    have e:ltB ks' i j=(cV (cH ks' i) (cH ks' j)).getD false:=rfl
    rw [e] at cc
    obtain ⟨a,ea⟩:=ai
    obtain ⟨b,eb⟩:=aj
    rw [ea] at r1 cc
    rw [eb] at r2 cc
    generalize vs.getD i V.non=wi at r1 v1
    generalize vs.getD j V.non=wj at r2 v2
    cases r1;cases r2
    obtain ⟨t1,q1⟩:=v1
    obtain ⟨t2,q2⟩:=v2
    rw [q1,q2]
    refine oneLt_int ?_
    unfold cV at cc
    exact cc
 ·by_cases h2:its.length < 2
  ·rw [if_pos h2] at hg
   refine fin h' tk l n its vs rfl rv ?_ kp hl hg
   unfold aQ
   rw [if_pos (by omega)]
   exact fun J0=>rs _ J0
  ·rw [if_neg h2] at hg
   have ib:∀i∈(aT (ltB ks') (kas_sort ks'.length)).toList,i < ks'.length:=fun i hi=>by
    have:=((d7 (n:=ks'.length) (by omega)).run (ltB ks'):dZ _ _)
    have:=(Array.Perm.mem_iff this).mp (Array.mem_toList_iff.mp hi)
    simpa using this
   have e1:ir (ltB ks') its=(aT (ltB ks') (kas_sort ks'.length)).toList.map fun i=>its.getD i Value.none:=by unfold ir;rw [l2,l1]
   rw [e1] at hg
   refine fin h' tk l n _ _ ?_ (kY rv _ fun i hi=>l2▸ib i hi) ?_ kp hl hg
   ·rw [List.length_map,←l2]
    have:=((d7 (n:=ks'.length) (by omega)).run (ltB ks'):dZ _ _).size_eq
    simpa using this
   ·unfold aQ
    rw [if_neg (by omega)]
    exact fun J0=>kR (rs _ J0) _ ib
end
end DL
namespace DL
open PySem PySem.Spec PyProof.Rows L2 ST DX
theorem zN:bootBuiltins "set"=some (.type "set"):=by decide +kernel
section
variable {X:Cx}{c:C}{e:Expr}{pos pos2:Pos}
def gv:List R→M R
 | [.d (.tup ys)]=>if nB ys=true then .ok (.l .fresh (dO ys)) else if oO ys=true then .ok (.l .fresh (dO ys)) else .bad
 | _=>.bad
def Il (X:Cx):List V→Hp→VK→Prop:=fun xs H Q=>∃p vs ms J0,xs=[.ref p]∧cX X.K H p vs∧aG X.K J0 (ms.map .int) vs∧ms.length < 64∧∀l,H l=none→Q (.ref l) (upd H l (lN X l ms))
def Im (X:Cx):List V→Hp→VK→Prop:=fun xs H Q=>∃p vs ds J0,xs=[.ref p]∧cX X.K H p vs∧a_ J0 H∧aG X.K J0 ds vs∧nB ds=true∧∀l,H l=none→Q (.ref l) (upd H l (lO X J0 l ds))
def CZ (X:Cx):List V→Hp→VK→Prop:=fun xs H Q=>∃p ms,xs=[.ref p]∧H p=some (lN X p ms)∧ms.length < 64∧∀l vs',H l=none→(∀J0,aG X.K J0 (dO (ms.map .int)) vs')→Q (.ref l) (upd H l (.lst vs'))
def C0 (X:Cx):List V→Hp→VK→Prop:=fun xs H Q=>∃p ds J0,xs=[.ref p]∧H p=some (lO X J0 p ds)∧a_ J0 H∧nB ds=true∧∀l vs',H l=none→aG X.K J0 (dO ds) vs'→Q (.ref l) (upd H l (.lst vs'))
theorem Cz {p p2:Pos}{gs:G (List R)}(hu:X.A.units + 64 < cLine) (ha:iy X c [e] gs) (hm:X.mg "sorted"=none) (hm2:X.mg "set"=none) (hK:X.K=c.K:=by rfl) (hc:X.calm=true:=by rfl) (hg:Gl X "sorted":=by rfl) (hg2:Gl X "set":=by rfl)
  (he:starEach [.Call (.Name "set" p2) [e] [] pos2] X.env=(false,eval (.Call (.Name "set" p2) [e] [] pos2) X.env)::starEach [] X.env:=by rfl) (hpl:(backTo pos (starEach [] X.env)).any (·.1)=false:=by rfl)
  (he2:starEach [e] X.env=(false,eval e X.env)::starEach [] X.env:=by rfl) (hpl2:(backTo pos2 (starEach [] X.env)).any (·.1)=false:=by rfl):
  PD X c (.Call (.Name "sorted" p) [.Call (.Name "set" p2) [e] [] pos2] [] pos) (gN gv gs):=by
 have h1:=j9 (p:=p2) (pos:=pos2) (bP.or (show bP X (.type "set") (Im X) from zQ hu hc) (show bP X (.type "set") (Il X) from zP hc)) hg2 hm2 zN ha (by decide) (by decide) he2 hpl2
 have h2:=o9 (p:=p) (pos:=pos) (bP.or (show bP X (.builtin "sorted") (C0 X) from yu hu hc) (show bP X (.builtin "sorted") (CZ X) from wF hc)) hg hm iK (gG h1 jg he) (by decide) (by decide) he hpl
 refine Cs (ta:=zh) (f:=gv) (r:=fun vs H1 Q=>(Im X vs H1 fun v H2=>C0 X [v] H2 Q∨CZ X [v] H2 Q)∨(Il X vs H1 fun v H2=>C0 X [v] H2 Q∨CZ X [v] H2 Q)) h2 rfl ?_
 intro He J H xs vs Q hp rs w
 unfold gv at w
 split at w
 ·rename_i ys
  obtain ⟨v,rfl,r⟩:=rs.one
  cases r with
  | tup h hs=>
   have hT:∀{p:Addr}{us:List V},cX c.K J p us→cX X.K H p us:=fun h=>by rw [hK];exact eB hp.sub h
   have fin:∀(o:Addr→HO) (w:∀w J' H',Ext J H J' H'→RR c H J' H' (.l .fresh (dO ys)) w→Q w H') (l l2:Addr) (vs':List V),H l=none→upd H l (o l) l2=none→aG X.K J (dO ys) vs'→Q (.ref l2) (upd (upd H l (o l)) l2 (.lst vs')):=fun o w l l2 vs' hl h2 rr=>by
    rw [hK] at rr
    have e1:=Ext.new hp.sub hl (o l)
    have e2:=Ext.new e1.sub h2 (.lst vs')
    exact w _ _ _ (e1.trans e2) (RR.from e1.h (gW (hp.ext e1) h2 rr))
   split at w
   ·rename_i ok
    exact .inl ⟨_,_,ys,J,rfl,hT h,hp.sub,by rw [hK];exact hs,ok,fun l hl=>.inl ⟨l,ys,J,rfl,bS,(Ext.new hp.sub hl _).sub,ok,fun l2 vs' h2 rr=>fin (fun l=>lO X J l ys) w l l2 vs' hl h2 rr⟩⟩
   ·split at w
    ·rename_i ok
     unfold oO at ok
     rw [Bool.and_eq_true] at ok
     have o1:=of_decide_eq_true ok.1
     have ey:=IS ok.2
     refine .inr ⟨_,_,ys.map xZ,J,rfl,hT h,by rw [hK,←ey];exact hs,by rw [List.length_map];exact o1,fun l hl=>.inr ⟨l,ys.map xZ,rfl,bS,by rw [List.length_map];exact o1,fun l2 vs' h2 rr=>?_⟩⟩
     rw [←ey] at rr
     exact fin (fun l=>lN X l (ys.map xZ)) w l l2 vs' hl h2 (rr _)
    ·exact w.elim
 ·exact w.elim
theorem AZ {p p2:Pos}{gs:G (List R)}(hu:X.A.units + 64 < cLine) (ha:jk X c [e] gs) (hm:X.mg "sorted"=none) (hm2:X.mg "set"=none) (hK:X.K=c.K:=by rfl) (hc:X.calm=true:=by rfl) (hg:Gl X "sorted":=by rfl) (hg2:Gl X "set":=by rfl)
  (he:starEach [.Call (.Name "set" p2) [e] [] pos2] X.env=(false,eval (.Call (.Name "set" p2) [e] [] pos2) X.env)::starEach [] X.env:=by rfl) (hpl:(backTo pos (starEach [] X.env)).any (·.1)=false:=by rfl)
  (he2:starEach [e] X.env=(false,eval e X.env)::starEach [] X.env:=by rfl) (hpl2:(backTo pos2 (starEach [] X.env)).any (·.1)=false:=by rfl):
  QD X c (.Call (.Name "sorted" p) [.Call (.Name "set" p2) [e] [] pos2] [] pos) (gN gv gs):=⟨Cz hu ha.h hm hm2 hK hc hg hg2 he hpl he2 hpl2⟩
end
end DL
namespace DL
open PySem PySem.Spec PyProof.Rows L2 DX
section
variable {X:Cx}{c:C}
theorem AE (i:Nat) (own:List Str) (cap:List Nat){elt target iter:Expr}{ifs:List Expr}{scope:Scope}{pos pos' pos2:Pos}{x:Str}{gi:G (List D)}{gt:GT}{gts:G Bool}{ge:G R}(hN:X.N.Nodup) (hi:uw X c target iter gi)
  (hbody:∀(cl:List (Str×Addr)) (C:Addr) (s:Shared) (H:Hp) (fp:List Addr),cR X.env.cells scope.names []=some cl→oB (dH X own cap scope cl C s H fp) c target gt∧qK (dH X own cap scope cl C s H fp) c ifs gts∧PD (dH X own cap scope cl C s H fp) c elt ge)
  (hk:scope.kind=.function:=by rfl) (hno:pK X cap scope=true:=by rfl) (hnames:(scope.names.all fun x=>!(x.2 == .local) || (scope.names.lookup x.1 == some .local))=true:=by rfl)
  (hcl:(cR X.env.cells scope.names []).isSome=true:=by rfl) (hcap:jo X cap=true:=by rfl) (hloc:mQ X cap scope=true:=by rfl) (hnd:nA cap=true:=by rfl) (hcalm:X.calm=true:=by rfl)
  (hs:∀x,foldedSetIterable iter X.env x=pure x:=by intro _;rfl) (hx:X.N[i]?=some x:=by rfl) (hxl:X.env.scope.names.lookup x=some .local:=by rfl)
  (hsw:swapsWith (.ListComp elt [⟨target,iter,ifs,0⟩] scope pos) (some (.Name x pos')) pos2.line X.env=pure true:=by rfl):gP X c (.Assign [.Name x pos'] (.ListComp elt [⟨target,iter,ifs,0⟩] scope pos) pos2) (aX i (bH own.length cap gi gt gts ge)):=by
 intro pins s σ H D I ⟨J,env,sr,w⟩
 rw [arm_exec_Assign]
 refine wpAny_bind (wpAny_standAt ?_)
 rw [show swapsWithSole [.Name x pos'] (.ListComp elt [⟨target,iter,ifs,0⟩] scope pos) pos2.line X.env=pure true from hsw]
 refine wpAny_bind (wpAny_pure ?_)
 rw [if_pos rfl,arm_evalThenUse_ListComp]
 refine wpAny_bind (wpAny_bind (pL own cap hi hbody hk hno hnames hcl hcap hloc hnd hcalm hs (Q:=fun v H1=>∃J1 r xx,Ext J H J1 H1∧RR c H J1 H1 r v∧toS r=.ok xx∧oP c J D (.nx (env.set i (some xx)))) I ⟨J,env,sr,aB (aL w) fun r wr v J1 H1 e1 r1=>?_⟩ fun acc C m s' H' fl hm ap hf hb ⟨J1,r,xx,e1,r1,q1,w1⟩=>?_))
 ·obtain ⟨xx,q,wr⟩:=rD wr
  exact ⟨J1,r,xx,e1,r1,q,wr⟩
 ·have I1:L2.Inv X pins σ H' s':=hb s'.heap (Heap.SameBut.refl ..)
  show wpAny _ _ (do standAt pos';bindName X.env x (.ref acc)) _ _ _
  refine wpAny_bind (wpAny_standAt (wpAny_bindName ?_))
  refine sI I1 hN hx (.inl hxl) (v:=.ref acc) (u:=.ref acc) rfl (fun s2 I2 ⟨a,sb,ha⟩=>?_) (.inr hxl)
  have hac:C≠a:=fun z=>by
   rcases ha with e | e
   ·exact ap.2.1 (z.trans e)
   ·exact ap.2.2.1 _ _ e z.symm
  refine ⟨m,hm.sameBut sb hac,fun h2 sb2=>?_⟩
  refine wpAny_pure (wpAny_pure ⟨σ.set i (some (.ref acc)),H',AB I2 ap hf sb2 (o0:=default),?_⟩)
  exact w1 _ J1 H' e1.j (sr.set e1 r1 q1)
theorem ju (i:Nat) (own:List Str) (cap:List Nat){elt target iter:Expr}{ifs:List Expr}{scope:Scope}{pos pos' pos2:Pos}{x:Str}{gi:G (List D)}{gt:GT}{gts:G Bool}{ge:G R}(hN:X.N.Nodup) (hi:zD X c target iter gi)
  (hbody:∀(cl:List (Str×Addr)) (C:Addr) (s:Shared) (H:Hp) (fp:List Addr),cR X.env.cells scope.names []=some cl→uA (dH X own cap scope cl C s H fp) c target gt∧yh (dH X own cap scope cl C s H fp) c ifs gts∧QD (dH X own cap scope cl C s H fp) c elt ge)
  (hk:scope.kind=.function:=by rfl) (hno:pK X cap scope=true:=by rfl) (hnames:(scope.names.all fun x=>!(x.2 == .local) || (scope.names.lookup x.1 == some .local))=true:=by rfl)
  (hcl:(cR X.env.cells scope.names []).isSome=true:=by rfl) (hcap:jo X cap=true:=by rfl) (hloc:mQ X cap scope=true:=by rfl) (hnd:nA cap=true:=by rfl) (hcalm:X.calm=true:=by rfl)
  (hs:∀x,foldedSetIterable iter X.env x=pure x:=by intro _;rfl) (hx:X.N[i]?=some x:=by rfl) (hxl:X.env.scope.names.lookup x=some .local:=by rfl)
  (hsw:swapsWith (.ListComp elt [⟨target,iter,ifs,0⟩] scope pos) (some (.Name x pos')) pos2.line X.env=pure true:=by rfl):iG X c (.Assign [.Name x pos'] (.ListComp elt [⟨target,iter,ifs,0⟩] scope pos) pos2) (aX i (bH own.length cap gi gt gts ge)):=
 ⟨AE i own cap hN hi.h (fun cl C s H fp hc=>let ⟨a,b,d⟩:=hbody cl C s H fp hc;⟨a.h,b.h,d.h⟩) hk hno hnames hcl hcap hloc hnd hcalm hs hx hxl hsw⟩
end
end DL
namespace K55
open PySem DL
def wc:List Str:=["told","least","most"]
def oN:G O:=(cL (mw (o6 (bN (gN (aW 1 K01.mH) (ao (af 0) aE)))) (mw (bN (g2 (j4 fun i j=>.bl (decide (i < j))) (af 0) (af 1))) (bN (g2 (j4 fun i j=>.bl (decide (j < i))) (af 0) (af 2))))) tZ fV)
def i9 (as:List S):M R:=fin (oN (bD wc as))
def IY:List Str:=["world","depth","row","many"]
def Dw:G O:=(aK (t6 (gN (aW 3 K55.i9) (ao (af 1) (ao (gC (.int 0)) (ao (gC (.int 6)) aE)))))
 (aK (aX 3 (gN (aW 2 K51.pA) (ao (g2 bg (af 0) (gC (.int 0))) (ao (af 1) aE))))
 (aK (cL (bN (g2 (j4 fun i j=>.bl (decide (j < i))) (af 3) (gC (.int 600)))) tZ fV)
 (bU (gN (aW 3 (K51.h_ 10)) (ao (af 0) (ao (af 1) (ao (oG (bN (g2 (Dt false) (af 2) (gC .non))) (bC aR) (af 2)) aE))))))))
def i8 (as:List S):M R:=fin (Dw (bD IY as))
def DR:List Str:=["truths","sides","side","told","places","at","truth"]
def xu:G O:=(aK (aX 3 (bH 1 [] (eY (af 1)) (aF 0) eU (gC (.bl false))))
 (aK (aX 4 (bH 2 [2] (yD (ao (af 1) aE)) (cO 2 (aV (aF 0) (aV (aF 1) cM))) (bN (g2 (cU false) (af 1) (af 2))) (af 0)))
 (aK (mY 4 (fz (pW (ao (af 4) (ao (af 0) aE))) (cO 2 (aV (aF 5) (aV (aF 6) cM))) (qY 3 (af 5) (af 6))))
 (bU (gN bG (ao (af 3) aE))))))
def jv (as:List S):M R:=fin (xu (bD DR as))
def uu:List Str:=["face","sides","side","same","bearing","loops","outward","inward","out","back"]
def nj:G O:=(aK (jL (cO 5 (aV (aF 3) (aV (aF 4) (aV (aF 5) (aV (aF 6) (aV (aF 7) cM)))))) (af 0))
 (aK (aX 8 (gN bG (ao (bH 1 [1,2] (eY (af 6)) (aF 0) eU (gN (aW 3 K55.jv) (ao (af 0) (ao (af 1) (ao (af 2) aE))))) aE)))
 (aK (aX 9 (gN bG (ao (bH 1 [1,2] (eY (af 7)) (aF 0) eU (gN (aW 3 K55.jv) (ao (af 0) (ao (af 1) (ao (af 2) aE))))) aE)))
 (bU (bC (aA (gN (aW 3 K55.jv) (ao (af 3) (ao (af 1) (ao (af 2) aE)))) (aA (af 4) (aA (af 5) (aA (af 8) (aA (af 9) aR))))))))))
def gq (as:List S):M R:=fin (nj (bD uu as))
def uq:List Str:=["face","both","sides","depth","told","side","one","grown"]
def nh (Fr:List S→M R):G O:=(aK (cL (bN (g2 (cU false) (af 3) (gC (.int 0)))) (bU (bC (aA (af 0) (aA (bC aR) aR)))) fV)
 (aK (aX 4 (fB aR))
 (aK (fz (qX (bC (aA (gC (.int 0)) (aA (gC (.int 1)) aR)))) (aF 5) (fz (qX (g2 bg (g2 bg (af 1) (af 5)) (gC (.int 1)))) (aF 6) (aK (aX 7 (oG (bN (g2 (cU false) (af 5) (gC (.int 0)))) (bC (aA (af 6) (aA (g2 bg (af 1) (gC (.int 1))) aR))) (bC (aA (g2 bg (af 1) (gC (.int 0))) (aA (af 6) aR)))))
 (ie 4 (gN (aW 4 Fr) (ao (gN (aW 3 K55.gq) (ao (g2 bg (af 6) (gC (.int 0))) (ao (af 2) (ao (af 5) aE)))) (ao (af 7) (ao (g2 cu (af 2) (bC (aA (af 5) aR))) (ao (g2 mV (af 3) (gC (.int 1))) aE)))))))))
 (bU (bC (aA (af 0) (aA (gN (aW 1 K51.dD) (ao (af 4) aE)) aR)))))))
def cS:Nat→List S→M R
 | 0,_=>.bad
 | k + 1,as=>fin (nh (cS k) (bD uq as))
def uo:List Str:=["one","other"]
def ng:G O:=(bU (gN (aW 4 (K55.cS 10)) (ao (bC aR) (ao (bC (aA (af 0) (aA (af 1) aR))) (ao (bC aR) (ao (gN (aW 1 K52.gD) (ao (af 0) aE)) aE))))))
def gn (as:List S):M R:=fin (ng (bD uo as))
def v7:List Str:=["_law_cell_here","_law_many","_law_left","_law_found","_law_k"]
def oJ:G O:=(aK (aX 2 (yE (ao (af 1) aE)))
 (aK (aX 3 (fB aR))
 (aK (fz (ez (ao (af 1) aE)) (aF 4) (aK (jA 3 2 (g2 eF (af 0) (gN iL (ao (af 2) aE))))
 (aX 0 (g2 gT (af 0) (gC (.int 9))))))
 (bU (gN bG (ao (af 3) aE))))))
def gV (as:List S):M R:=fin (oJ (bD v7 as))
def um:List Str:=["_law_world_here","_law_order_here","_law_marks","_law_arrows"]
def nc:G O:=(aK (aX 2 (bH 2 [1] (eY (g2 bg (af 0) (gC (.int 1)))) (cO 2 (aV (aF 0) (aV (aF 1) cM))) eU (bC (aA (af 0) (aA (gN bG (ao (gN jK (ao (bH 1 [2] (eY (af 1)) (aF 0) eU (g2 bg (af 1) (af 0))) aE)) aE)) aR)))))
 (aK (aX 3 (bH 2 [1] (eY (g2 bg (af 0) (gC (.int 2)))) (cO 2 (aV (aF 0) (aV (aF 1) cM))) eU (bC (aA (af 0) (aA (gN bG (ao (gN jK (ao (bH 2 [2] (eY (af 1)) (cO 2 (aV (aF 0) (aV (aF 1) cM))) eU (bC (aA (g2 bg (af 2) (af 0)) (aA (g2 bg (af 2) (af 1)) aR)))) aE)) aE)) aR)))))
 (bU (bC (aA (g2 bg (af 0) (gC (.int 0))) (aA (gN bG (ao (af 2) aE)) (aA (gN bG (ao (af 3) aE)) aR)))))))
def iF (as:List S):M R:=fin (nc (bD um as))
def sS:List Str:=["_law_world_here","_law_cell_here","_law_many","_law_marks","_law_arrows","_law_at","_law_thing","_law_some","_law_name","_law_had","_law_now"]
def mz:G O:=(aK (jL (cO 3 (aV (aF 2) (aV (aF 3) (aV (aF 4) cM)))) (af 0))
 (aK (cL (bN (g2 (cU false) (g2 cu (gN iL (ao (af 3) aE)) (gN iL (ao (af 4) aE))) (gC (.int 0)))) (bU (af 0)) fV)
 (aK (aX 5 (g2 eF (af 1) (g2 cu (gN iL (ao (af 3) aE)) (gN iL (ao (af 4) aE)))))
 (aK (aX 6 (g2 eF (g2 gT (af 1) (gC (.int 6))) (af 2)))
 (aK (aX 7 (af 3))
 (aK (cL (bN (g2 (j4 fun i j=>.bl (decide (j≤i))) (af 5) (gN iL (ao (af 3) aE)))) (aK (aX 5 (g2 mV (af 5) (gN iL (ao (af 3) aE))))
 (aK (aX 6 (bC (aA (af 6) (aA (g2 eF (g2 gT (af 1) (gC (.int 48))) (af 2)) aR))))
 (aX 7 (af 4)))) fV)
 (aK (jL (cO 2 (aV (aF 8) (aV (aF 9) cM))) (g2 bg (af 7) (af 5)))
 (aK (aX 10 (gN bG (ao (gN gv (ao (g2 cu (af 9) (bC (aA (af 6) aR))) aE)) aE)))
 (aK (cL (bN (g2 (jm false) (af 6) (af 9))) (aX 10 (gN bG (ao (bH 1 [6] (eY (af 9)) (aF 0) (bN (g2 (cU true) (af 0) (af 1))) (af 0)) aE))) fV)
 (aK (aX 7 (g2 cu (g2 cu (uV oW (af 7) xq (xr (af 5))) (bC (aA (bC (aA (af 8) (aA (af 10) aR))) aR))) (uV oW (af 7) (xr (g2 cu (af 5) (gC (.int 1)))) xq)))
 (aK (cL (bN (xo "tuple" (af 6))) (bU (bC (aA (af 2) (aA (af 3) (aA (af 7) aR))))) fV)
 (bU (bC (aA (af 2) (aA (af 7) (aA (af 4) aR))))))))))))))))
def eH (as:List S):M R:=fin (mz (bD sS as))
def zA:List Str:=["_law_script","_law_sizes","_law_first","_law_second","_law_marks","_law_names_here","_law_one","_law_way","_law_other"]
def rR:G O:=(aK (aX 2 (gN (aW 2 K51.bX) (ao (af 0) (ao (gC (.int 0)) aE))))
 (aK (aX 3 (gN (aW 2 K51.bX) (ao (af 0) (ao (gC (.int 1)) aE))))
 (aK (aX 4 (gN (aW 2 K51.fX) (ao (g2 gT (af 3) (gC (.int 20))) (ao (g2 bg (fB (aA (gC (.int 1)) (aA (gC (.int 0)) (aA (gC (.int 2)) (aA (gC (.int 3)) aR))))) (g2 eF (af 3) (gC (.int 4)))) aE))))
 (aK (mY 4 (aX 5 (bC (aA (af 4) (aA (gN (aW 2 K51.fX) (ao (gN (aW 2 K51.bX) (ao (af 0) (ao (gC (.int 2)) aE))) (ao (g2 bg (fB (aA (gC (.int 1)) (aA (gC (.int 2)) (aA (gC (.int 0)) (aA (gC (.int 1)) (aA (gC (.int 3)) aR)))))) (g2 eF (g2 gT (af 3) (gC (.int 4))) (gC (.int 5)))) aE))) aR)))))
 (aK (aX 6 (gN (aW 3 K51.eX) (ao (af 5) (ao (g2 bg (af 1) (g2 eF (af 2) (gC (.int 8)))) (ao (bH 1 [0] (ez (ao (gC (.int 6)) aE)) (aF 0) eU (gN (aW 2 K51.bX) (ao (af 1) (ao (g2 dJ (gC (.int 3)) (af 0)) aE)))) aE)))))
 (aK (aX 7 (g2 eF (g2 gT (af 2) (gC (.int 8))) (gC (.int 4))))
 (aK (cL (bN (g2 (cU false) (af 7) (gC (.int 0)))) (bU (bC (aA (af 6) (aA (gN (aW 3 K51.eX) (ao (af 5) (ao (g2 bg (af 1) (g2 eF (g2 gT (af 2) (gC (.int 32))) (gC (.int 8)))) (ao (bH 1 [0] (ez (ao (gC (.int 6)) aE)) (aF 0) eU (gN (aW 2 K51.bX) (ao (af 1) (ao (g2 dJ (gC (.int 9)) (af 0)) aE)))) aE)))) aR)))) fV)
 (aK (aX 8 (gN (aW 2 K55.iF) (ao (af 6) (ao (gN (aW 2 K55.gV) (ao (gN (aW 2 K51.bX) (ao (af 0) (ao (gC (.int 15)) aE))) (ao (g2 bg (af 6) (gC (.int 0))) aE))) aE))))
 (aK (cL (bN (g2 (j4 fun i j=>.bl (decide (j < i))) (af 7) (gC (.int 1)))) (aX 8 (gN (aW 2 K55.eH) (ao (af 8) (ao (gN (aW 2 K51.bX) (ao (af 0) (ao (gC (.int 9)) aE))) aE)))) fV)
 (aK (cL (bN (g2 (cU false) (af 7) (gC (.int 3)))) (aX 8 (gN (aW 2 K55.eH) (ao (af 8) (ao (gN (aW 2 K51.bX) (ao (af 0) (ao (gC (.int 10)) aE))) aE)))) fV)
 (bU (bC (aA (af 6) (aA (af 8) aR))))))))))))))
def ja (as:List S):M R:=fin (rR (bD zA as))
def uh:List Str:=["_law_one","_law_other","_law_far","_law_marks","_law_here","_law_there","_law_arrows"]
def m_:G O:=(aK (aX 2 (g2 bg (af 0) (gC (.int 0))))
 (aK (aX 3 (fB aR))
 (aK (fz (pW (ao (g2 bg (af 0) (gC (.int 1))) (ao (g2 bg (af 1) (gC (.int 1))) aE))) (cO 2 (aV (aF 4) (aV (aF 5) cM))) (ie 3 (bC (aA (g2 bg (af 4) (gC (.int 0))) (aA (g2 cu (g2 bg (af 4) (gC (.int 1))) (gN bG (ao (bH 1 [2] (eY (g2 bg (af 5) (gC (.int 1)))) (aF 0) eU (g2 cu (af 0) (af 1))) aE))) aR)))))
 (aK (aX 6 (fB aR))
 (aK (fz (pW (ao (g2 bg (af 0) (gC (.int 2))) (ao (g2 bg (af 1) (gC (.int 2))) aE))) (cO 2 (aV (aF 4) (aV (aF 5) cM))) (ie 6 (bC (aA (g2 bg (af 4) (gC (.int 0))) (aA (g2 cu (g2 bg (af 4) (gC (.int 1))) (gN bG (ao (bH 2 [2] (eY (g2 bg (af 5) (gC (.int 1)))) (cO 2 (aV (aF 0) (aV (aF 1) cM))) eU (bC (aA (g2 cu (af 0) (af 2)) (aA (g2 cu (af 1) (af 2)) aR)))) aE))) aR)))))
 (bU (bC (aA (g2 cu (af 2) (g2 bg (af 1) (gC (.int 0)))) (aA (gN bG (ao (af 3) aE)) (aA (gN bG (ao (af 6) aE)) aR))))))))))
def fj (as:List S):M R:=fin (m_ (bD uh as))
def Kr:List Str:=["_law_script","_law_one","_law_other","_law_cell_here","_law_depth","_law_here","_law_there","_law_found","_law_turned_here"]
def GF:G O:=(aK (jL (cO 2 (aV (aF 1) (aV (aF 2) cM))) (gN (aW 2 K55.ja) (ao (af 0) (ao (fB (aA (gC (.int 2)) (aA (gC (.int 3)) (aA (gC (.int 1)) (aA (gC (.int 2)) (aA (gC (.int 1)) (aA (gC (.int 3)) (aA (gC (.int 2)) (aA (gC (.int 4)) aR))))))))) aE))))
 (aK (aX 3 (gN (aW 2 K51.bX) (ao (af 0) (ao (gC (.int 16)) aE))))
 (aK (aX 4 (gN (aW 3 K51.gA) (ao (af 3) (ao (g2 dJ (g2 bg (af 1) (gC (.int 0))) (g2 bg (af 2) (gC (.int 0)))) (ao (g2 bg (fB (aA (gC (.int 130)) (aA (gC (.int 600)) aR))) (gN yy (ao (g2 (cU false) (g2 eF (g2 gT (af 3) (gC (.int 7))) (gC (.int 8))) (gC (.int 1))) aE))) aE)))))
 (aK (aX 5 (gN (aW 2 (fun as=>K55.i8 (as++[.d .non]))) (ao (af 1) (ao (af 4) aE))))
 (aK (aX 6 (gN (aW 2 (fun as=>K55.i8 (as++[.d .non]))) (ao (af 2) (ao (af 4) aE))))
 (aK (aX 7 (gN (aW 2 K55.gn) (ao (af 5) (ao (af 6) aE))))
 (aK (aX 8 (gN (aW 2 K55.gn) (ao (af 6) (ao (af 5) aE))))
 (aK (cL (mw (bN (g2 (cU true) (af 7) (gN (aW 2 (fun as=>K55.i8 (as++[.d .non]))) (ao (gN (aW 2 K55.fj) (ao (af 1) (ao (af 2) aE))) (ao (af 4) aE))))) (bN (g2 (cU true) (af 8) (gN (aW 2 (fun as=>K55.i8 (as++[.d .non]))) (ao (gN (aW 2 K55.fj) (ao (af 2) (ao (af 1) aE))) (ao (af 4) aE)))))) (bU (gC (.bl false))) fV)
 (aK (cL (mw (bN (g2 (cU true) (af 5) (af 6))) (bN (g2 (j4 fun i j=>.bl (decide (j < i))) (gN (aW 2 K51.dw) (ao (g2 d8 (gC (.int 2)) (g2 bg (af 1) (gC (.int 0)))) (ao (af 4) aE))) (gC (.int 130))))) (bU (gC (.bl true))) fV)
 (bU (g2 (cU false) (af 7) (gN (aW 2 (fun as=>K55.i8 (as++[.d .non]))) (ao (gN (aW 2 K55.fj) (ao (af 1) (ao (af 1) aE))) (ao (af 4) aE))))))))))))))
def qG (as:List S):M R:=fin (GF (bD Kr as))
end K55
namespace K55
open PySem PySem.Spec PyProof.Rows L2 DL DX
structure fS (w:World) (K:PySem.W.Frag) (mg:Str→Option Value):Prop where
 bool:mg "bool"=none
 enumerate:mg "enumerate"=none
 int:mg "int"=none
 isinstance:mg "isinstance"=none
 len:mg "len"=none
 list:mg "list"=none
 range:mg "range"=none
 set:mg "set"=none
 sorted:mg "sorted"=none
 tuple:mg "tuple"=none
 zip:mg "zip"=none
 MOST_DEPTH:tU K mg "MOST_DEPTH" (.int 6)
 MOST_POWER:tU K mg "MOST_POWER" (.int 600)
section
variable {P:Program}{w:World}{K:PySem.W.Frag}{mg:Str→Option Value}{base:Heap}{f:Addr}{fd:FuncData}
abbrev iD:Stmt:=top 5
theorem za:bE ["thing"] ["thing"] (ay iD):=⟨rfl,rfl,rfl,by decide +kernel,rfl,by decide +kernel,by decide +kernel⟩
theorem wC (m:fS w K mg) (F:dQ K "is_whole" "is_whole" iD f fd) (hm:mg "is_whole"=some (.ref f)):bW P w K mg base 1 1 "is_whole" K01.mH:=
 have sc:=za
 bV (k:=0) (gB:=K01.rS) F hm sc (fun _ _ _ _ _ _ us hl=>match us,hl with | [_],_=>rfl) (fun cdv A outer s H E J T hr=>
 (aN (bu (Fp (lM Et zM m.int (aa 0) m.isinstance) (CW (Fv (lM BW yq m.bool (aa 0) m.isinstance))))))) (fun as r _ h=>h)
end
section
variable {P:Program}{w:World}{K:PySem.W.Frag}{mg:Str→Option Value}{base:Heap}{f:Addr}{fd:FuncData}
abbrev gg:Stmt:=top 7
theorem vJ:bE ["told","least","most"] ["told","least","most"] (ay gg):=⟨rfl,rfl,rfl,by decide +kernel,rfl,by decide +kernel,by decide +kernel⟩
theorem s_ (m:fS w K mg) (his_whole:bW P w K mg base 1 1 "is_whole" K01.mH) (F:dQ K "need_count" "need_count" gg f fd) (hm:mg "need_count"=some (.ref f)):bW P w K mg base 2 3 "need_count" K55.i9:=
 have sc:=vJ
 bV (k:=1) (gB:=K55.oN) F hm sc (fun _ _ _ _ _ _ us hl=>match us,hl with | [_,_,_],_=>rfl) (fun cdv A outer s H E J T hr=>
 (aN (cQ (nZ (nF (xO (xP (aY his_whole hr (ak (aa 0) au)))) (nF (iA DC (gY fun _ _ _=>.bl _) (aa 0) (aa 1)) (n_ (iA qh (gY fun _ _ _=>.bl _) (aa 0) (aa 2)))))) (aN qm) b9))) (fun as r _ h=>h)
end
section
variable {P:Program}{w:World}{K:PySem.W.Frag}{mg:Str→Option Value}{base:Heap}{f:Addr}{fd:FuncData}
abbrev kW:Stmt:=top 11
theorem FE:bE ["many","depth","told","step"] ["many","depth"] (ay kW):=⟨rfl,rfl,rfl,by decide +kernel,rfl,by decide +kernel,by decide +kernel⟩
theorem BC (m:fS w K mg) (F:dQ K "power" "power" kW f fd) (hm:mg "power"=some (.ref f)):bW P w K mg base 1 2 "power" K51.pA:=
 have sc:=FE
 bV (k:=0) (gB:=K51.Ae) F hm sc (fun _ _ _ _ _ _ us hl=>match us,hl with | [_,_],_=>rfl) (fun cdv A outer s H E J T hr=>
 (av (aH 2 sc.nd az)
 (av (dc (cj (ak (aa 1) au) m.range) (aC 3 sc.nd) (aN (AV 2 sc.nd (aa 0))))
 (aN (bu (aa 2)))))) (fun as r _ h=>h)
end
section
variable {P:Program}{w:World}{K:PySem.W.Frag}{mg:Str→Option Value}{base:Heap}{f:Addr}{fd:FuncData}
abbrev fK:Stmt:=top 12
theorem tM:bE ["told","kept","one"] ["told"] (ay fK):=⟨rfl,rfl,rfl,by decide +kernel,rfl,by decide +kernel,by decide +kernel⟩
theorem qT (m:fS w K mg) (F:dQ K "sorted_once" "sorted_once" fK f fd) (hm:mg "sorted_once"=some (.ref f)):bW P w K mg base 1 1 "sorted_once" K51.dD:=
 have sc:=tM
 bV (k:=0) (gB:=K51.ni) F hm sc (fun _ _ _ _ _ _ us hl=>match us,hl with | [_],_=>rfl) (fun cdv A outer s H E J T hr=>
 (av (aH 1 sc.nd (dM aM))
 (av (dc (pe (AY hr.units (ak (aa 0) au) m.sorted)) (aC 2 sc.nd) (aN (cQ (nZ (nF (xO (q_ (aa 1))) (n_ (kQ hr.units (aI (aa 1) (Fq az)) (aa 2))))) (aN (dU 1 (aa 2))) b9)))
 (aN (bu (bB (ak (aa 1) au) m.tuple)))))) (fun as r _ h=>h)
end
section
variable {P:Program}{w:World}{K:PySem.W.Frag}{mg:Str→Option Value}{base:Heap}{f:Addr}{fd:FuncData}
abbrev i0:Stmt:=top 13
theorem A4:bE ["world","row","ahead","last","many","marks","arrows","same","bearing","loops","outward","inward"] ["world","row"] (ay i0):=⟨rfl,rfl,rfl,by decide +kernel,rfl,by decide +kernel,by decide +kernel⟩
theorem yt (m:fS w K mg) (F:dQ K "face_of" "face_of" i0 f fd) (hm:mg "face_of"=some (.ref f)):bW P w K mg base 1 2 "face_of" K51.iS:=
 have sc:=A4
 bV (k:=0) (gB:=K51.uW) F hm sc (fun _ _ _ _ _ _ us hl=>match us,hl with | [_,_],_=>rfl) (fun cdv A outer s H E J T hr=>
 (av (cQ (iO hr.units (fD (ak (aa 1) au) m.len) az) (aN (bu (aZ aM))) b9)
 (av (AX (aa 1) (aP (aC 2 sc.nd) (aP (aC 3 sc.nd) bO)))
 (av (jP (aa 0) (cg (aP (aC 4 sc.nd) (aP (aC 5 sc.nd) (aP (aC 6 sc.nd) bO)))))
 (av (aH 7 sc.nd (bB (ak (bJ ["point"] [3] (b_ (aa 2)) (fun _ _ _ _ _ hc=>⟨(aC 0 (cC rfl)),bK,(qp hr.units (aa 0) (aa 1))⟩)) au) m.tuple))
 (av (aH 8 sc.nd (bB (ak (bJ ["name","points"] [3] (b_ (aa 5)) (fun _ _ _ _ _ hc=>⟨(cg (aP (aC 0 (cC rfl)) (aP (aC 1 (cC rfl)) bO))),bK,(qq hr.units (aa 2) (aa 1))⟩)) au) m.tuple))
 (av (aH 9 sc.nd (bB (ak (bJ ["name","pairs"] [3] (b_ (aa 6)) (fun _ _ _ _ _ hc=>⟨(cg (aP (aC 0 (cC rfl)) (aP (aC 1 (cC rfl)) bO))),bK,(qq hr.units (aZ (aq (aa 2) (aq (aa 2) aM))) (aa 1))⟩)) au) m.tuple))
 (av (aH 10 sc.nd (bB (ak (bJ ["name","pairs"] [2,3] (b_ (aa 6)) (fun _ _ _ _ _ hc=>⟨(cg (aP (aC 0 (cC rfl)) (aP (aC 1 (cC rfl)) bO))),bK,(bB (ak (bJ ["point"] [3,1] (b_ (aa 2)) (fun _ _ _ _ _ hc=>⟨(aC 0 (cC rfl)),bK,(qq hr.units (aZ (aq (aa 1) (aq (aa 0) aM))) (aa 2))⟩) (hcl:=nR hc rfl)) au) m.tuple)⟩)) au) m.tuple))
 (av (aH 11 sc.nd (bB (ak (bJ ["name","pairs"] [2,3] (b_ (aa 6)) (fun _ _ _ _ _ hc=>⟨(cg (aP (aC 0 (cC rfl)) (aP (aC 1 (cC rfl)) bO))),bK,(bB (ak (bJ ["point"] [3,1] (b_ (aa 2)) (fun _ _ _ _ _ hc=>⟨(aC 0 (cC rfl)),bK,(qq hr.units (aZ (aq (aa 0) (aq (aa 1) aM))) (aa 2))⟩) (hcl:=nR hc rfl)) au) m.tuple)⟩)) au) m.tuple))
 (aN (bu (aZ (aq (aa 7) (aq (aa 8) (aq (aa 9) (aq (aa 10) (aq (aa 11) aM))))))))))))))))) (fun as r _ h=>h)
end
section
variable {P:Program}{w:World}{K:PySem.W.Frag}{mg:Str→Option Value}{base:Heap}{f:Addr}{fd:FuncData}
abbrev i6:Stmt:=top 14
theorem A5:bE ["world","depth","row","face"] ["world","depth","row"] (ay i6):=⟨rfl,rfl,rfl,by decide +kernel,rfl,by decide +kernel,by decide +kernel⟩
theorem pJ (m:fS w K mg) (hface_of:bW P w K mg base 1 2 "face_of" K51.iS) (hsorted_once:bW P w K mg base 1 1 "sorted_once" K51.dD) (F:dQ K "kind_of" "kind_of" i6 f fd) (hm:mg "kind_of"=some (.ref f)):∀fu:Nat,bW P w K mg base (1 + fu) 3 "kind_of" (K51.h_ fu)
 | 0=>w_ (ps:=["world","depth","row"]) F hm (fun _ _ _ _ _ _ us hl=>match us,hl with | [_,_,_],_=>rfl) (fun _=>rfl)
 | fu + 1=>
  have sc:=A5
  have hself:=pJ m hface_of hsorted_once F hm fu
  bV (k:=1 + fu) (gB:=K51.uX (K51.h_ fu)) F hm sc (fun _ _ _ _ _ _ us hl=>match us,hl with | [_,_,_],_=>rfl) (fun cdv A outer s H E J T hr=>
 (av (aH 3 sc.nd (aY hface_of hr (ak (aa 0) (ak (aa 2) au)) (by omega)))
 (av (cQ (iO hr.units (aa 1) az) (aN (bu (aZ (aq (aa 3) (aq (aZ aM) aM))))) b9)
 (aN (bu (aZ (aq (aa 3) (aq (aY hsorted_once hr (ak (bJ ["point"] [0,1,2] (jO (cj (ak (aI (aa 0) az) au) m.range)) (fun _ _ _ _ _ hc=>⟨(aC 0 (cC rfl)),bK,(aY hself hr (ak (aa 1) (ak (oh (aa 2) az) (ak (cW (aa 3) (aZ (aq (aa 0) aM))) au))) (by omega))⟩)) au) (by omega)) aM)))))))) (fun as r _ h=>h)
end
section
variable {P:Program}{w:World}{K:PySem.W.Frag}{mg:Str→Option Value}{base:Heap}{f:Addr}{fd:FuncData}
abbrev lQ:Stmt:=top 15
theorem IA:bE ["world","depth","row","many"] ["world","depth","row"] (ay lQ):=⟨rfl,rfl,rfl,by decide +kernel,rfl,by decide +kernel,by decide +kernel⟩
theorem Eg (m:fS w K mg) (hneed_count:bW P w K mg base 2 3 "need_count" K55.i9) (hpower:bW P w K mg base 1 2 "power" K51.pA) (hkind_of:bW P w K mg base 11 3 "kind_of" (K51.h_ 10)) (F:qH K "kind" "kind" lQ f fd):gj P w K mg base (wQ P w) 12 f fd ["world","depth","row"] (A8 K 3 K55.i8):=
 have sc:=IA
 Ed (k:=11) (gB:=K55.Dw) F sc (fun cdv A outer s H E J hr=>mJ.h (
 (av (AW (aY hneed_count hr (ak (aa 1) (ak az (ak (r_ m.MOST_DEPTH) au)))))
 (av (aH 3 sc.nd (aY hpower hr (ak (aI (aa 0) az) (ak (aa 1) au))))
 (av (cQ (iA qh (gY fun _ _ _=>.bl _) (aa 3) (r_ m.MOST_POWER)) (aN qm) b9)
 (aN (bu (aY hkind_of hr (ak (aa 0) (ak (aa 1) (ak (xQ (Ie (aa 2) Ft) (aZ aM) (aa 2)) au))))))))))) (fun _ _ _=>rfl)
theorem BA (G:gj P w K mg base (wQ P w) 12 f fd ["world","depth","row"] (A8 K 3 K55.i8)) (F:qH K "kind" "kind" lQ f fd) (hm:mg "kind"=some (.ref f)):Bp P w K mg base 12 2 "kind" K55.i8:=⟨f,fd,["world","depth","row"],G,hm,F.kp,F.bindsOne (fun T kV doc pm an cdv ct us hl=>match us,hl with | [_,_],_=>⟨_,rfl,rfl⟩)⟩
end
section
variable {P:Program}{w:World}{K:PySem.W.Frag}{mg:Str→Option Value}{base:Heap}{f:Addr}{fd:FuncData}
abbrev dY:Stmt:=top 16
theorem qx:bE ["told","depth"] ["told"] (ay dY):=⟨rfl,rfl,rfl,by decide +kernel,rfl,by decide +kernel,by decide +kernel⟩
theorem oU (m:fS w K mg) (F:dQ K "depth_of_kind" "depth_of_kind" dY f fd) (hm:mg "depth_of_kind"=some (.ref f)):bW P w K mg base 1 1 "depth_of_kind" K52.gD:=
 have sc:=qx
 bV (k:=0) (gB:=K52.kJ) F hm sc (fun _ _ _ _ _ _ us hl=>match us,hl with | [_],_=>rfl) (fun cdv A outer s H E J T hr=>
 (av (aH 1 sc.nd az)
 (av (qo 200 (kQ hr.units (aI (aa 0) az) (aZ aM)) (av (aH 0 sc.nd (aI (aI (aa 0) az) az))
 (aN (AU 1 sc.nd az))))
 (aN (bu (aa 1)))))) (fun as r _ h=>h)
end
section
variable {P:Program}{w:World}{K:PySem.W.Frag}{mg:Str→Option Value}{base:Heap}{f:Addr}{fd:FuncData}
abbrev jD:Stmt:=top 17
theorem C6:bE ["truths","sides","side","told","places","at","truth"] ["truths","sides","side"] (ay jD):=⟨rfl,rfl,rfl,by decide +kernel,rfl,by decide +kernel,by decide +kernel⟩
theorem zR (m:fS w K mg) (F:dQ K "spread" "spread" jD f fd) (hm:mg "spread"=some (.ref f)):bW P w K mg base 1 3 "spread" K55.jv:=
 have sc:=C6
 bV (k:=0) (gB:=K55.xu) F hm sc (fun _ _ _ _ _ _ us hl=>match us,hl with | [_,_,_],_=>rfl) (fun cdv A outer s H E J T hr=>
 (av (ju 3 ["one"] [] sc.nd (b_ (aa 1)) (fun _ _ _ _ _ hc=>⟨(aC 0 (cC rfl)),bK,vt⟩))
 (av (ju 4 ["at","one"] [2] sc.nd (A1 (ak (aa 1) au) m.enumerate) (fun _ _ _ _ _ hc=>⟨(cg (aP (aC 0 (cC rfl)) (aP (aC 1 (cC rfl)) bO))),(j_ (iO hr.units (aa 1) (aa 2))),(aa 0)⟩))
 (av (vq 4 (dc (pg (ak (aa 4) (ak (aa 0) au)) m.zip) (cg (aP (aC 5 sc.nd) (aP (aC 6 sc.nd) bO))) (aN (CV 3 (aa 6) (aa 5)))))
 (aN (bu (bB (ak (aa 3) au) m.tuple))))))) (fun as r _ h=>h)
end
section
variable {P:Program}{w:World}{K:PySem.W.Frag}{mg:Str→Option Value}{base:Heap}{f:Addr}{fd:FuncData}
abbrev fL:Stmt:=top 18
theorem tN:bE ["face","sides","side","same","bearing","loops","outward","inward","out","back"] ["face","sides","side"] (ay fL):=⟨rfl,rfl,rfl,by decide +kernel,rfl,by decide +kernel,by decide +kernel⟩
theorem qU (m:fS w K mg) (hspread:bW P w K mg base 1 3 "spread" K55.jv) (F:dQ K "spread_face" "spread_face" fL f fd) (hm:mg "spread_face"=some (.ref f)):bW P w K mg base 2 3 "spread_face" K55.gq:=
 have sc:=tN
 bV (k:=1) (gB:=K55.nj) F hm sc (fun _ _ _ _ _ _ us hl=>match us,hl with | [_,_,_],_=>rfl) (fun cdv A outer s H E J T hr=>
 (av (jP (aa 0) (cg (aP (aC 3 sc.nd) (aP (aC 4 sc.nd) (aP (aC 5 sc.nd) (aP (aC 6 sc.nd) (aP (aC 7 sc.nd) bO)))))))
 (av (aH 8 sc.nd (bB (ak (bJ ["truths"] [1,2] (b_ (aa 6)) (fun _ _ _ _ _ hc=>⟨(aC 0 (cC rfl)),bK,(aY hspread hr (ak (aa 0) (ak (aa 1) (ak (aa 2) au))))⟩)) au) m.tuple))
 (av (aH 9 sc.nd (bB (ak (bJ ["truths"] [1,2] (b_ (aa 7)) (fun _ _ _ _ _ hc=>⟨(aC 0 (cC rfl)),bK,(aY hspread hr (ak (aa 0) (ak (aa 1) (ak (aa 2) au))))⟩)) au) m.tuple))
 (aN (bu (aZ (aq (aY hspread hr (ak (aa 3) (ak (aa 1) (ak (aa 2) au)))) (aq (aa 4) (aq (aa 5) (aq (aa 8) (aq (aa 9) aM)))))))))))) (fun as r _ h=>h)
end
section
variable {P:Program}{w:World}{K:PySem.W.Frag}{mg:Str→Option Value}{base:Heap}{f:Addr}{fd:FuncData}
abbrev fH:Stmt:=top 19
theorem tL:bE ["face","both","sides","depth","told","side","one","grown"] ["face","both","sides","depth"] (ay fH):=⟨rfl,rfl,rfl,by decide +kernel,rfl,by decide +kernel,by decide +kernel⟩
theorem kE (m:fS w K mg) (hspread_face:bW P w K mg base 2 3 "spread_face" K55.gq) (hsorted_once:bW P w K mg base 1 1 "sorted_once" K51.dD) (F:dQ K "kind_beside" "kind_beside" fH f fd) (hm:mg "kind_beside"=some (.ref f)):∀fu:Nat,bW P w K mg base (2 + fu) 4 "kind_beside" (K55.cS fu)
 | 0=>w_ (ps:=["face","both","sides","depth"]) F hm (fun _ _ _ _ _ _ us hl=>match us,hl with | [_,_,_,_],_=>rfl) (fun _=>rfl)
 | fu + 1=>
  have sc:=tL
  have hself:=kE m hspread_face hsorted_once F hm fu
  bV (k:=2 + fu) (gB:=K55.nh (K55.cS fu)) F hm sc (fun _ _ _ _ _ _ us hl=>match us,hl with | [_,_,_,_],_=>rfl) (fun cdv A outer s H E J T hr=>
 (av (cQ (iO hr.units (aa 3) az) (aN (bu (aZ (aq (aa 0) (aq (aZ aM) aM))))) b9)
 (av (aH 4 sc.nd (dM aM))
 (av (dc (pe (aZ (aq az (aq az aM)))) (aC 5 sc.nd) (aN (dc (pe (aI (aI (aa 1) (aa 5)) az)) (aC 6 sc.nd) (av (aH 7 sc.nd (xQ (iO hr.units (aa 5) az) (aZ (aq (aa 6) (aq (aI (aa 1) az) aM))) (aZ (aq (aI (aa 1) az) (aq (aa 6) aM)))))
 (aN (dU 4 (aY hself hr (ak (aY hspread_face hr (ak (aI (aa 6) az) (ak (aa 2) (ak (aa 5) au))) (by omega)) (ak (aa 7) (ak (cW (aa 2) (aZ (aq (aa 5) aM))) (ak (oh (aa 3) az) au)))) (by omega))))))))
 (aN (bu (aZ (aq (aa 0) (aq (aY hsorted_once hr (ak (aa 4) au) (by omega)) aM))))))))) (fun as r _ h=>h)
end
section
variable {P:Program}{w:World}{K:PySem.W.Frag}{mg:Str→Option Value}{base:Heap}{f:Addr}{fd:FuncData}
abbrev fG:Stmt:=top 20
theorem tK:bE ["one","other"] ["one","other"] (ay fG):=⟨rfl,rfl,rfl,by decide +kernel,rfl,by decide +kernel,by decide +kernel⟩
theorem qS (m:fS w K mg) (hdepth_of_kind:bW P w K mg base 1 1 "depth_of_kind" K52.gD) (hkind_beside:bW P w K mg base 12 4 "kind_beside" (K55.cS 10)) (F:dQ K "beside_kind" "beside_kind" fG f fd) (hm:mg "beside_kind"=some (.ref f)):bW P w K mg base 13 2 "beside_kind" K55.gn:=
 have sc:=tK
 bV (k:=12) (gB:=K55.ng) F hm sc (fun _ _ _ _ _ _ us hl=>match us,hl with | [_,_],_=>rfl) (fun cdv A outer s H E J T hr=>
 (aN (bu (aY hkind_beside hr (ak (aZ aM) (ak (aZ (aq (aa 0) (aq (aa 1) aM))) (ak (aZ aM) (ak (aY hdepth_of_kind hr (ak (aa 0) au)) au)))))))) (fun as r _ h=>h)
end
section
variable {P:Program}{w:World}{K:PySem.W.Frag}{mg:Str→Option Value}{base:Heap}{f:Addr}{fd:FuncData}
abbrev gI:Stmt:=top 22
theorem wL:bE ["_law_script","_law_k"] ["_law_script","_law_k"] (ay gI):=⟨rfl,rfl,rfl,by decide +kernel,rfl,by decide +kernel,by decide +kernel⟩
theorem uL (m:fS w K mg) (F:dQ K "_law_cell" "_law_cell" gI f fd) (hm:mg "_law_cell"=some (.ref f)):bW P w K mg base 1 2 "_law_cell" K51.bX:=
 have sc:=wL
 bV (k:=0) (gB:=K51.pY) F hm sc (fun _ _ _ _ _ _ us hl=>match us,hl with | [_,_],_=>rfl) (fun cdv A outer s H E J T hr=>
 (av (cQ (iA DC (gY fun _ _ _=>.bl _) (aa 1) (fD (ak (aa 0) au) m.len)) (aN (bu (cK (aI (aa 0) (aa 1)) (Fw az az)))) b9)
 (aN (bu az)))) (fun as r _ h=>h)
end
section
variable {P:Program}{w:World}{K:PySem.W.Frag}{mg:Str→Option Value}{base:Heap}{f:Addr}{fd:FuncData}
abbrev fZ:Stmt:=top 23
theorem vF:bE ["_law_cell_here","_law_many","_law_letters","_law_sign","_law_stem","_law_found","_law_k","_law_other","_law_name"] ["_law_cell_here","_law_many"] (ay fZ):=⟨rfl,rfl,rfl,by decide +kernel,rfl,by decide +kernel,by decide +kernel⟩
theorem sU (m:fS w K mg) (F:dQ K "_law_names" "_law_names" fZ f fd) (hm:mg "_law_names"=some (.ref f)):bW P w K mg base 1 2 "_law_names" K51.fX:=
 have sc:=vF
 bV (k:=0) (gB:=K51.oH) F hm sc (fun _ _ _ _ _ _ us hl=>match us,hl with | [_,_],_=>rfl) (fun cdv A outer s H E J T hr=>
 (av (aH 2 sc.nd rq)
 (av (aH 3 sc.nd (aI (aa 2) (cK (dX (aa 0) az) az)))
 (av (aH 4 sc.nd (gw (aa 3) (fQ az (cK (dX (aa 0) az) az))))
 (av (aH 5 sc.nd (dM aM))
 (av (dc (cj (ak (aa 1) au) m.range) (aC 6 sc.nd) (av (aH 7 sc.nd (aI (aa 2) (cK (fQ (dX (aa 0) az) (gw az (aa 6))) az)))
 (av (aH 8 sc.nd (aI (dM (aq (fQ (aa 4) (aa 7)) (aq (fQ (aa 7) (aa 4)) (aq (gw (aa 3) (fQ (aa 6) az)) aM)))) (cK (aa 0) az)))
 (av (cQ (iO hr.units (aa 8) rq) (aN (aH 8 sc.nd rq)) b9)
 (aN (dU 5 (aa 8)))))))
 (aN (bu (y9 (ak (aa 5) au) m.sorted))))))))) (fun as r _ h=>h)
end
section
variable {P:Program}{w:World}{K:PySem.W.Frag}{mg:Str→Option Value}{base:Heap}{f:Addr}{fd:FuncData}
abbrev gH:Stmt:=top 24
theorem wK:bE ["_law_cell_here","_law_size","_law_found","_law_k"] ["_law_cell_here","_law_size"] (ay gH):=⟨rfl,rfl,rfl,by decide +kernel,rfl,by decide +kernel,by decide +kernel⟩
theorem uK (m:fS w K mg) (F:dQ K "_law_bits" "_law_bits" gH f fd) (hm:mg "_law_bits"=some (.ref f)):bW P w K mg base 1 2 "_law_bits" K51.gz:=
 have sc:=wK
 bV (k:=0) (gB:=K51.pX) F hm sc (fun _ _ _ _ _ _ us hl=>match us,hl with | [_,_],_=>rfl) (fun cdv A outer s H E J T hr=>
 (av (aH 2 sc.nd (dM aM))
 (av (dc (cj (ak (aa 1) au) m.range) (aC 3 sc.nd) (av (dU 2 (qp hr.units (cK (aa 0) az) az))
 (aN (aH 0 sc.nd (dX (aa 0) az)))))
 (aN (bu (aa 2)))))) (fun as r _ h=>h)
end
section
variable {P:Program}{w:World}{K:PySem.W.Frag}{mg:Str→Option Value}{base:Heap}{f:Addr}{fd:FuncData}
abbrev gf:Stmt:=top 25
theorem vI:bE ["_law_names_here","_law_many","_law_cells","_law_marks","_law_k","_law_bits_here","_law_arrows"] ["_law_names_here","_law_many","_law_cells"] (ay gf):=⟨rfl,rfl,rfl,by decide +kernel,rfl,by decide +kernel,by decide +kernel⟩
theorem sX (m:fS w K mg) (h_law_bits:bW P w K mg base 1 2 "_law_bits" K51.gz) (F:dQ K "_law_world" "_law_world" gf f fd) (hm:mg "_law_world"=some (.ref f)):bW P w K mg base 2 3 "_law_world" K51.eX:=
 have sc:=vI
 bV (k:=1) (gB:=K51.oM) F hm sc (fun _ _ _ _ _ _ us hl=>match us,hl with | [_,_,_],_=>rfl) (fun cdv A outer s H E J T hr=>
 (av (aH 3 sc.nd (dM aM))
 (av (dc (cj (ak (fD (ak (aI (aa 0) az) au) m.len) au) m.range) (aC 4 sc.nd) (av (aH 5 sc.nd (aY h_law_bits hr (ak (aI (aa 2) (aa 4)) (ak (aa 1) au))))
 (aN (dU 3 (aZ (aq (aI (aI (aa 0) az) (aa 4)) (aq (bB (ak (bJ ["_law_p"] [5] (jO (cj (ak (aa 1) au) m.range)) (fun _ _ _ _ _ hc=>⟨(aC 0 (cC rfl)),(j_ (q_ (aI (aa 1) (aa 0)))),(aa 0)⟩)) au) m.tuple) aM)))))))
 (av (aH 6 sc.nd (dM aM))
 (av (dc (cj (ak (fD (ak (aI (aa 0) az) au) m.len) au) m.range) (aC 4 sc.nd) (av (aH 5 sc.nd (aY h_law_bits hr (ak (aI (aa 2) (fQ az (aa 4))) (ak (gw (aa 1) (aa 1)) au))))
 (aN (dU 6 (aZ (aq (aI (aI (aa 0) az) (aa 4)) (aq (bB (ak (bJ ["_law_p"] [5,1] (jO (cj (ak (gw (aa 1) (aa 1)) au) m.range)) (fun _ _ _ _ _ hc=>⟨(aC 0 (cC rfl)),(j_ (q_ (aI (aa 1) (aa 0)))),(aZ (aq (dX (aa 0) (aa 2)) (aq (cK (aa 0) (aa 2)) aM)))⟩)) au) m.tuple) aM)))))))
 (aN (bu (aZ (aq (aa 1) (aq (bB (ak (aa 3) au) m.tuple) (aq (bB (ak (aa 6) au) m.tuple) aM))))))))))) (fun as r _ h=>h)
end
section
variable {P:Program}{w:World}{K:PySem.W.Frag}{mg:Str→Option Value}{base:Heap}{f:Addr}{fd:FuncData}
abbrev f_:Stmt:=top 26
theorem vG:bE ["_law_cell_here","_law_many","_law_left","_law_found","_law_k"] ["_law_cell_here","_law_many"] (ay f_):=⟨rfl,rfl,rfl,by decide +kernel,rfl,by decide +kernel,by decide +kernel⟩
theorem sV (m:fS w K mg) (F:dQ K "_law_order" "_law_order" f_ f fd) (hm:mg "_law_order"=some (.ref f)):bW P w K mg base 1 2 "_law_order" K55.gV:=
 have sc:=vG
 bV (k:=0) (gB:=K55.oJ) F hm sc (fun _ _ _ _ _ _ us hl=>match us,hl with | [_,_],_=>rfl) (fun cdv A outer s H E J T hr=>
 (av (aH 2 sc.nd (yZ (ak (aa 1) au) m.range m.list))
 (av (aH 3 sc.nd (dM aM))
 (av (dc (cj (ak (aa 1) au) m.range) (aC 4 sc.nd) (av (wH 3 2 (cK (aa 0) (fD (ak (aa 2) au) m.len)))
 (aN (aH 0 sc.nd (dX (aa 0) az)))))
 (aN (bu (bB (ak (aa 3) au) m.tuple))))))) (fun as r _ h=>h)
end
section
variable {P:Program}{w:World}{K:PySem.W.Frag}{mg:Str→Option Value}{base:Heap}{f:Addr}{fd:FuncData}
abbrev fF:Stmt:=top 27
theorem tH:bE ["_law_world_here","_law_order_here","_law_marks","_law_arrows"] ["_law_world_here","_law_order_here"] (ay fF):=⟨rfl,rfl,rfl,by decide +kernel,rfl,by decide +kernel,by decide +kernel⟩
theorem qR (m:fS w K mg) (F:dQ K "_law_turned" "_law_turned" fF f fd) (hm:mg "_law_turned"=some (.ref f)):bW P w K mg base 1 2 "_law_turned" K55.iF:=
 have sc:=tH
 bV (k:=0) (gB:=K55.nc) F hm sc (fun _ _ _ _ _ _ us hl=>match us,hl with | [_,_],_=>rfl) (fun cdv A outer s H E J T hr=>
 (av (ju 2 ["_law_name","_law_points"] [1] sc.nd (b_ (aI (aa 0) az)) (fun _ _ _ _ _ hc=>⟨(cg (aP (aC 0 (cC rfl)) (aP (aC 1 (cC rfl)) bO))),bK,(aZ (aq (aa 0) (aq (bB (ak (sd hr.units (ak (bJ ["_law_p"] [2] (b_ (aa 1)) (fun _ _ _ _ _ hc=>⟨(aC 0 (cC rfl)),bK,(aI (aa 1) (aa 0))⟩) (hcl:=nR hc rfl)) au) m.sorted) au) m.tuple) aM)))⟩))
 (av (ju 3 ["_law_name","_law_some"] [1] sc.nd (b_ (aI (aa 0) az)) (fun _ _ _ _ _ hc=>⟨(cg (aP (aC 0 (cC rfl)) (aP (aC 1 (cC rfl)) bO))),bK,(aZ (aq (aa 0) (aq (bB (ak (sd hr.units (ak (bJ ["_law_p","_law_q"] [2] (b_ (aa 1)) (fun _ _ _ _ _ hc=>⟨(cg (aP (aC 0 (cC rfl)) (aP (aC 1 (cC rfl)) bO))),bK,(aZ (aq (aI (aa 2) (aa 0)) (aq (aI (aa 2) (aa 1)) aM)))⟩) (hcl:=nR hc rfl)) au) m.sorted) au) m.tuple) aM)))⟩))
 (aN (bu (aZ (aq (aI (aa 0) az) (aq (bB (ak (aa 2) au) m.tuple) (aq (bB (ak (aa 3) au) m.tuple) aM))))))))) (fun as r _ h=>h)
end
section
variable {P:Program}{w:World}{K:PySem.W.Frag}{mg:Str→Option Value}{base:Heap}{f:Addr}{fd:FuncData}
abbrev eK:Stmt:=top 28
theorem rA:bE ["_law_world_here","_law_cell_here","_law_many","_law_marks","_law_arrows","_law_at","_law_thing","_law_some","_law_name","_law_had","_law_now"] ["_law_world_here","_law_cell_here"] (ay eK):=⟨rfl,rfl,rfl,by decide +kernel,rfl,by decide +kernel,by decide +kernel⟩
theorem pI (m:fS w K mg) (F:dQ K "_law_flipped" "_law_flipped" eK f fd) (hm:mg "_law_flipped"=some (.ref f)):bW P w K mg base 1 2 "_law_flipped" K55.eH:=
 have sc:=rA
 bV (k:=0) (gB:=K55.mz) F hm sc (fun _ _ _ _ _ _ us hl=>match us,hl with | [_,_],_=>rfl) (fun cdv A outer s H E J T hr=>
 (av (jP (aa 0) (cg (aP (aC 2 sc.nd) (aP (aC 3 sc.nd) (aP (aC 4 sc.nd) bO)))))
 (av (cQ (iO hr.units (cW (fD (ak (aa 3) au) m.len) (fD (ak (aa 4) au) m.len)) az) (aN (bu (aa 0))) b9)
 (av (aH 5 sc.nd (cK (aa 1) (cW (fD (ak (aa 3) au) m.len) (fD (ak (aa 4) au) m.len))))
 (av (aH 6 sc.nd (cK (dX (aa 1) az) (aa 2)))
 (av (aH 7 sc.nd (aa 3))
 (av (cQ (iA Jo (gY fun _ _ _=>.bl _) (aa 5) (fD (ak (aa 3) au) m.len)) (av (aH 5 sc.nd (oh (aa 5) (fD (ak (aa 3) au) m.len)))
 (av (aH 6 sc.nd (aZ (aq (aa 6) (aq (cK (dX (aa 1) az) (aa 2)) aM))))
 (aN (aH 7 sc.nd (aa 4))))) b9)
 (av (jP (aI (aa 7) (aa 5)) (cg (aP (aC 8 sc.nd) (aP (aC 9 sc.nd) bO))))
 (av (aH 10 sc.nd (bB (ak (AZ hr.units (ak (cW (aa 9) (aZ (aq (aa 6) aM))) au) m.sorted m.set) au) m.tuple))
 (av (cQ (Ic hr.units (aa 6) (aa 9)) (aN (aH 10 sc.nd (bB (ak (bJ ["_law_one"] [6] (b_ (aa 9)) (fun _ _ _ _ _ hc=>⟨(aC 0 (cC rfl)),(j_ (kQ hr.units (aa 0) (aa 1))),(aa 0)⟩)) au) m.tuple))) b9)
 (av (aH 7 sc.nd (cW (cW (xR (aa 7) se (sf (aa 5))) (aZ (aq (aZ (aq (aa 8) (aq (aa 10) aM))) aM))) (xR (aa 7) (sf (cW (aa 5) az)) se)))
 (av (cQ (xP (lM kit_tuple wA m.tuple (aa 6) m.isinstance)) (aN (bu (aZ (aq (aa 2) (aq (aa 3) (aq (aa 7) aM)))))) b9)
 (aN (bu (aZ (aq (aa 2) (aq (aa 7) (aq (aa 4) aM)))))))))))))))))) (fun as r _ h=>h)
end
section
variable {P:Program}{w:World}{K:PySem.W.Frag}{mg:Str→Option Value}{base:Heap}{f:Addr}{fd:FuncData}
abbrev iB:Stmt:=top 29
theorem y_:bE ["_law_script","_law_sizes","_law_first","_law_second","_law_marks","_law_names_here","_law_one","_law_way","_law_other"] ["_law_script","_law_sizes"] (ay iB):=⟨rfl,rfl,rfl,by decide +kernel,rfl,by decide +kernel,by decide +kernel⟩
theorem wB (m:fS w K mg) (h_law_cell:bW P w K mg base 1 2 "_law_cell" K51.bX) (h_law_names:bW P w K mg base 1 2 "_law_names" K51.fX) (h_law_world:bW P w K mg base 2 3 "_law_world" K51.eX) (h_law_order:bW P w K mg base 1 2 "_law_order" K55.gV) (h_law_turned:bW P w K mg base 1 2 "_law_turned" K55.iF) (h_law_flipped:bW P w K mg base 1 2 "_law_flipped" K55.eH) (F:dQ K "_law_two" "_law_two" iB f fd) (hm:mg "_law_two"=some (.ref f)):bW P w K mg base 3 2 "_law_two" K55.ja:=
 have sc:=y_
 bV (k:=2) (gB:=K55.rR) F hm sc (fun _ _ _ _ _ _ us hl=>match us,hl with | [_,_],_=>rfl) (fun cdv A outer s H E J T hr=>
 (av (aH 2 sc.nd (aY h_law_cell hr (ak (aa 0) (ak az au))))
 (av (aH 3 sc.nd (aY h_law_cell hr (ak (aa 0) (ak az au))))
 (av (aH 4 sc.nd (aY h_law_names hr (ak (dX (aa 3) az) (ak (aI (dM (aq az (aq az (aq az (aq az aM))))) (cK (aa 3) az)) au))))
 (av (vq 4 (aH 5 sc.nd (aZ (aq (aa 4) (aq (aY h_law_names hr (ak (aY h_law_cell hr (ak (aa 0) (ak az au))) (ak (aI (dM (aq az (aq az (aq az (aq az (aq az aM)))))) (cK (dX (aa 3) az) az)) au))) aM)))))
 (av (aH 6 sc.nd (aY h_law_world hr (ak (aa 5) (ak (aI (aa 1) (cK (aa 2) az)) (ak (bJ ["_law_k"] [0] (jO (cj (ak az au) m.range)) (fun _ _ _ _ _ hc=>⟨(aC 0 (cC rfl)),bK,(aY h_law_cell hr (ak (aa 1) (ak (fQ az (aa 0)) au)))⟩)) au)))))
 (av (aH 7 sc.nd (cK (dX (aa 2) az) az))
 (av (cQ (iO hr.units (aa 7) az) (aN (bu (aZ (aq (aa 6) (aq (aY h_law_world hr (ak (aa 5) (ak (aI (aa 1) (cK (dX (aa 2) az) az)) (ak (bJ ["_law_k"] [0] (jO (cj (ak az au) m.range)) (fun _ _ _ _ _ hc=>⟨(aC 0 (cC rfl)),bK,(aY h_law_cell hr (ak (aa 1) (ak (fQ az (aa 0)) au)))⟩)) au)))) aM))))) b9)
 (av (aH 8 sc.nd (aY h_law_turned hr (ak (aa 6) (ak (aY h_law_order hr (ak (aY h_law_cell hr (ak (aa 0) (ak az au))) (ak (aI (aa 6) az) au))) au))))
 (av (cQ (iA qh (gY fun _ _ _=>.bl _) (aa 7) az) (aN (aH 8 sc.nd (aY h_law_flipped hr (ak (aa 8) (ak (aY h_law_cell hr (ak (aa 0) (ak az au))) au))))) b9)
 (av (cQ (iO hr.units (aa 7) az) (aN (aH 8 sc.nd (aY h_law_flipped hr (ak (aa 8) (ak (aY h_law_cell hr (ak (aa 0) (ak az au))) au))))) b9)
 (aN (bu (aZ (aq (aa 6) (aq (aa 8) aM)))))))))))))))) (fun as r _ h=>h)
end
section
variable {P:Program}{w:World}{K:PySem.W.Frag}{mg:Str→Option Value}{base:Heap}{f:Addr}{fd:FuncData}
abbrev gc:Stmt:=top 30
theorem vH:bE ["_law_many","_law_depth","_law_found","_law_k"] ["_law_many","_law_depth"] (ay gc):=⟨rfl,rfl,rfl,by decide +kernel,rfl,by decide +kernel,by decide +kernel⟩
theorem sW (m:fS w K mg) (F:dQ K "_law_power" "_law_power" gc f fd) (hm:mg "_law_power"=some (.ref f)):bW P w K mg base 1 2 "_law_power" K51.dw:=
 have sc:=vH
 bV (k:=0) (gB:=K51.oK) F hm sc (fun _ _ _ _ _ _ us hl=>match us,hl with | [_,_],_=>rfl) (fun cdv A outer s H E J T hr=>
 (av (aH 2 sc.nd az)
 (av (dc (cj (ak (aa 1) au) m.range) (aC 3 sc.nd) (aN (aH 2 sc.nd (gw (aa 2) (aa 0)))))
 (aN (bu (aa 2)))))) (fun as r _ h=>h)
end
section
variable {P:Program}{w:World}{K:PySem.W.Frag}{mg:Str→Option Value}{base:Heap}{f:Addr}{fd:FuncData}
abbrev gJ:Stmt:=top 31
theorem wM:bE ["_law_cell_here","_law_many","_law_most","_law_depth"] ["_law_cell_here","_law_many","_law_most"] (ay gJ):=⟨rfl,rfl,rfl,by decide +kernel,rfl,by decide +kernel,by decide +kernel⟩
theorem uM (m:fS w K mg) (h_law_power:bW P w K mg base 1 2 "_law_power" K51.dw) (F:dQ K "_law_deep" "_law_deep" gJ f fd) (hm:mg "_law_deep"=some (.ref f)):bW P w K mg base 2 3 "_law_deep" K51.gA:=
 have sc:=wM
 bV (k:=1) (gB:=K51.pZ) F hm sc (fun _ _ _ _ _ _ us hl=>match us,hl with | [_,_,_],_=>rfl) (fun cdv A outer s H E J T hr=>
 (av (aH 3 sc.nd (cK (aa 0) az))
 (av (qo 200 (iA qh (gY fun _ _ _=>.bl _) (aY h_law_power hr (ak (aa 1) (ak (aa 3) au))) (aa 2)) (aN (aH 3 sc.nd (oh (aa 3) az))))
 (aN (bu (aa 3)))))) (fun as r _ h=>h)
end
section
variable {P:Program}{w:World}{K:PySem.W.Frag}{mg:Str→Option Value}{base:Heap}{f:Addr}{fd:FuncData}
abbrev fE:Stmt:=top 32
theorem tG:bE ["_law_one","_law_other","_law_far","_law_marks","_law_here","_law_there","_law_arrows"] ["_law_one","_law_other"] (ay fE):=⟨rfl,rfl,rfl,by decide +kernel,rfl,by decide +kernel,by decide +kernel⟩
theorem qQ (m:fS w K mg) (F:dQ K "_law_beside" "_law_beside" fE f fd) (hm:mg "_law_beside"=some (.ref f)):bW P w K mg base 1 2 "_law_beside" K55.fj:=
 have sc:=tG
 bV (k:=0) (gB:=K55.m_) F hm sc (fun _ _ _ _ _ _ us hl=>match us,hl with | [_,_],_=>rfl) (fun cdv A outer s H E J T hr=>
 (av (aH 2 sc.nd (aI (aa 0) az))
 (av (aH 3 sc.nd (dM aM))
 (av (dc (pg (ak (aI (aa 0) az) (ak (aI (aa 1) az) au)) m.zip) (cg (aP (aC 4 sc.nd) (aP (aC 5 sc.nd) bO))) (aN (dU 3 (aZ (aq (aI (aa 4) az) (aq (cW (aI (aa 4) az) (bB (ak (bJ ["_law_p"] [2] (b_ (aI (aa 5) az)) (fun _ _ _ _ _ hc=>⟨(aC 0 (cC rfl)),bK,(cW (aa 0) (aa 1))⟩)) au) m.tuple)) aM))))))
 (av (aH 6 sc.nd (dM aM))
 (av (dc (pg (ak (aI (aa 0) az) (ak (aI (aa 1) az) au)) m.zip) (cg (aP (aC 4 sc.nd) (aP (aC 5 sc.nd) bO))) (aN (dU 6 (aZ (aq (aI (aa 4) az) (aq (cW (aI (aa 4) az) (bB (ak (bJ ["_law_p","_law_q"] [2] (b_ (aI (aa 5) az)) (fun _ _ _ _ _ hc=>⟨(cg (aP (aC 0 (cC rfl)) (aP (aC 1 (cC rfl)) bO))),bK,(aZ (aq (cW (aa 0) (aa 2)) (aq (cW (aa 1) (aa 2)) aM)))⟩)) au) m.tuple)) aM))))))
 (aN (bu (aZ (aq (cW (aa 2) (aI (aa 1) az)) (aq (bB (ak (aa 3) au) m.tuple) (aq (bB (ak (aa 6) au) m.tuple) aM)))))))))))) (fun as r _ h=>h)
end
section
variable {P:Program}{w:World}{K:PySem.W.Frag}{mg:Str→Option Value}{base:Heap}{f:Addr}{fd:FuncData}
abbrev lR:Stmt:=top 33
theorem JM:bE ["_law_script","_law_one","_law_other","_law_cell_here","_law_depth","_law_here","_law_there","_law_found","_law_turned_here"] ["_law_script"] (ay lR):=⟨rfl,rfl,rfl,by decide +kernel,rfl,by decide +kernel,by decide +kernel⟩
theorem Jm (m:fS w K mg) (h_law_two:bW P w K mg base 3 2 "_law_two" K55.ja) (h_law_cell:bW P w K mg base 1 2 "_law_cell" K51.bX) (h_law_deep:bW P w K mg base 2 3 "_law_deep" K51.gA) (hbeside_kind:bW P w K mg base 13 2 "beside_kind" K55.gn) (h_law_beside:bW P w K mg base 1 2 "_law_beside" K55.fj) (h_law_power:bW P w K mg base 1 2 "_law_power" K51.dw) (hdkind:Bp P w K mg base 12 2 "kind" K55.i8) (F:dQ K "law" "law" lR f fd):gj P w K mg base lZ 14 f fd ["_law_script"] (qA K 1 K55.qG):=
 have sc:=JM
 Fo (k:=13) (gB:=K55.GF) F sc (fun cdv A outer s H E J T hr=>
 (av (jP (aY h_law_two hr (ak (aa 0) (ak (dM (aq az (aq az (aq az (aq az (aq az (aq az (aq az (aq az aM))))))))) au))) (cg (aP (aC 1 sc.nd) (aP (aC 2 sc.nd) bO))))
 (av (aH 3 sc.nd (aY h_law_cell hr (ak (aa 0) (ak az au))))
 (av (aH 4 sc.nd (aY h_law_deep hr (ak (aa 3) (ak (fQ (aI (aa 1) az) (aI (aa 2) az)) (ak (aI (dM (aq az (aq az aM))) (A0 (ak (qp hr.units (cK (dX (aa 3) az) az) az) au) m.int)) au)))))
 (av (aH 5 sc.nd (jQ hdkind hr (ak (aa 1) (ak (aa 4) au))))
 (av (aH 6 sc.nd (jQ hdkind hr (ak (aa 2) (ak (aa 4) au))))
 (av (aH 7 sc.nd (aY hbeside_kind hr (ak (aa 5) (ak (aa 6) au))))
 (av (aH 8 sc.nd (aY hbeside_kind hr (ak (aa 6) (ak (aa 5) au))))
 (av (cQ (nZ (nF (kQ hr.units (aa 7) (jQ hdkind hr (ak (aY h_law_beside hr (ak (aa 1) (ak (aa 2) au))) (ak (aa 4) au)))) (n_ (kQ hr.units (aa 8) (jQ hdkind hr (ak (aY h_law_beside hr (ak (aa 2) (ak (aa 1) au))) (ak (aa 4) au))))))) (aN (bu vt)) b9)
 (av (cQ (nZ (nF (kQ hr.units (aa 5) (aa 6)) (n_ (iA qh (gY fun _ _ _=>.bl _) (aY h_law_power hr (ak (gw az (aI (aa 1) az)) (ak (aa 4) au))) az)))) (aN (bu vt)) b9)
 (aN (bu (qp hr.units (aa 7) (jQ hdkind hr (ak (aY h_law_beside hr (ak (aa 1) (ak (aa 1) au))) (ak (aa 4) au)))))))))))))))) (fun as r _ h=>h)
end
end K55
namespace K55
open PySem DL K01 WP K51 K52
section
variable {env:Ev}{Q:O→Prop}{g gk:G R}{r:R}{i:Nat}
theorem I0 {cap:List Nat}{gi:G (List D)}{ge:G R}{gts:G Bool}{α:Type}{xs:List α}(a b:α→D) (p:α→Bool) (f:α→D) (hi:gi env=.ok (xs.map fun x=>.tup [a x,b x])) (hl:xs.length≤1000)
  (h:∀x∈xs,gts (some (.d (a x))::some (.d (b x))::cE 0 cap env)=.ok (p x)∧(p x=true→∃r,ge (some (.d (a x))::some (.d (b x))::cE 0 cap env)=.ok r∧toD r=.ok (f x))):
  bH 2 cap gi (cO 2 (aV (aF 0) (aV (aF 1) cM))) gts ge env=.ok (.l .fresh ((xs.filter p).map f)):=by
 have key:∀(es:List α) (x y:Option S),(∀d∈es,d∈xs)→cI (cO 2 (aV (aF 0) (aV (aF 1) cM))) gts ge (es.map fun x=>.tup [a x,b x]) (x::y::cE 0 cap env)=.ok ((es.filter p).map f):=by
  intro es
  induction es with
  | nil=>exact fun _ _ _=>rfl
  | cons d es ih=>
   intro x y hm
   obtain ⟨h0,h1⟩:=h d (hm d List.mem_cons_self)
   rw [List.map_cons]
   unfold cI
   show (gts (some (.d (a d))::some (.d (b d))::cE 0 cap env) >>= _)=_
   rw [h0,aU]
   cases q:p d with
   | true=>
    obtain ⟨r,h1,h2⟩:=h1 q
    rw [if_pos rfl]
    show (ge (some (.d (a d))::some (.d (b d))::cE 0 cap env) >>= _)=_
    rw [h1,aU,h2,aU]
    show (cI _ gts ge _ (some (.d (a d))::some (.d (b d))::cE 0 cap env) >>= _)=_
    rw [ih _ _ fun e he=>hm e (List.mem_cons_of_mem _ he),List.filter_cons_of_pos q]
    rfl
   | false=>
    rw [if_neg (by decide),List.filter_cons_of_neg (by simp [q])]
    exact ih _ _ fun e he=>hm e (List.mem_cons_of_mem _ he)
 unfold bH
 rw [hi,aU,if_pos (d9 (by rw [List.length_map];exact hl))]
 show (cI _ gts ge _ (none::none::cE 0 cap env) >>= _)=_
 rw [key xs none none fun _ h=>h]
 rfl
theorem Jh {xs:List D}{d:D}{n:Nat}(h0:env[i]?=some (some (.own xs))) (h:g env=.ok r) (h2:toD r=.ok d) (hk:gk env=.ok (.d (.int n))) (hn:n < xs.length) (k:Q (.nx (env.set i (some (.own (xs.set n d)))))):Wp (qY i gk g env) Q:=by
 refine ⟨_,?_,k⟩
 unfold qY
 rw [h0]
 show (g env >>= _)=_
 rw [h,aU,h2,aU,hk,aU]
 have:L2.mE xs.length (n:Int)=some n:=by
  unfold L2.mE
  rw [if_pos (by omega),if_pos (by omega)]
  rfl
 simp only [this]
end
theorem uU (a b:Nat):bh (dN a) (dN b)=(a == b):=by
 show ((a:Int) == (b:Int))=_
 by_cases h:a=b
 ·subst h;simp
 ·rw [beq_eq_false_iff_ne.mpr h,beq_eq_false_iff_ne.mpr (by omega)]
abbrev Rw:=List (Nat×Nat)
def iC (R:Rw):D:=.tup (R.map fun x=>dN x.1)
def iQ (R:Rw) (s:Nat) (f:Nat→Bool):D:=.tup (R.map fun x=>.bl (x.1 == s && f x.2))
def bY (R:Rw) (s:Nat):List Nat:=(R.filter fun x=>x.1 == s).map Prod.snd
def tk (R:Rw) (f:Nat→Bool) (xs:List ((Nat×Nat)×Nat)):List D:=(List.range R.length).map fun i=>.bl (xs.any (fun y=>y.2 == i) && f (R.getD i (0,0)).2)
theorem IJ (R:Rw) (f:Nat→Bool) (xs:List ((Nat×Nat)×Nat)):(tk R f xs).length=R.length:=by simp [tk]
theorem IL {R:Rw}{f:Nat→Bool}{xs:List ((Nat×Nat)×Nat)}{x:(Nat×Nat)×Nat}(hx:R[x.2]?=some x.1):(tk R f xs).set x.2 (.bl (f x.1.2))=tk R f (xs++[x]):=by
 refine List.ext_getElem (by simp [tk]) fun i h1 h2=>?_
 rw [List.getElem_set]
 simp only [tk,List.getElem_map,List.getElem_range]
 by_cases c:x.2=i
 ·subst c
  rw [if_pos rfl]
  have:(R.getD x.2 (0,0))=x.1:=by rw [List.getD_eq_getElem?_getD,hx];rfl
  rw [this]
  simp
 ·rw [if_neg c]
  have c':(x.2 == i)=false:=beq_eq_false_iff_ne.mpr c
  rw [List.any_append]
  simp [c']
theorem IK (R:Rw) (f:Nat→Bool):tk R f []=R.map fun _=>.bl false:=by
 refine List.ext_getElem (by simp [tk]) fun i h1 h2=>?_
 simp [tk]
theorem II (R:Rw) (f:Nat→Bool) (s:Nat):tk R f (R.zipIdx.filter fun x=>x.1.1 == s)=R.map fun x=>.bl (x.1 == s && f x.2):=by
 refine List.ext_getElem (by simp [tk]) fun i h1 h2=>?_
 have hi:i < R.length:=by simpa [tk] using h1
 simp only [tk,List.getElem_map,List.getElem_range]
 have e:R.getD i (0,0)=R[i]:=by simp [List.getD,hi]
 rw [e]
 congr 2
 rw [Bool.eq_iff_iff,List.any_eq_true]
 constructor
 ·rintro ⟨y,hy,c⟩
  rw [List.mem_filter] at hy
  have h3:=List.mem_zipIdx_iff_getElem?.mp hy.1
  have c:=eq_of_beq c
  rw [c,List.getElem?_eq_getElem hi] at h3
  rw [Option.some.inj h3]
  exact hy.2
 ·intro h
  refine ⟨(R[i],i),?_,by simp⟩
  rw [List.mem_filter]
  exact ⟨List.mem_zipIdx_iff_getElem?.mpr (List.getElem?_eq_getElem hi),h⟩
theorem x9 (q:Nat×Nat→Bool):∀(R:Rw) (n:Nat),((R.zipIdx n).filter fun x=>q x.1).map Prod.fst=R.filter q
 | [],_=>rfl
 | x::R,n=>by
  rw [List.zipIdx_cons,List.filter_cons,List.filter_cons]
  have ih:=x9 q R (n + 1)
  by_cases c:q x=true
  ·rw [if_pos c,if_pos c,List.map_cons,ih]
  ·rw [if_neg c,if_neg c,ih]
theorem x_ {α:Type}(a b:α→D):∀(xs:List α),List.zipWith (fun x y=>D.tup [x,y]) (xs.map a) (xs.map b)=xs.map fun x=>.tup [a x,b x]
 | []=>rfl
 | x::xs=>by rw [List.map_cons,List.map_cons,List.zipWith_cons_cons,x_ a b xs];rfl
theorem Bq (R:Rw) (hl:R.length≤100) (s:Nat) (f:Nat→Bool):jv [.d (.tup ((bY R s).map fun p=>.bl (f p))),.d (iC R),.d (.int s)]=.ok (.d (iQ R s f)):=by
 have hz:(R.zipIdx).length≤1000:=by rw [List.length_zipIdx];omega
 refine dI (bq (jJ (xs:=R) (h:=fun x=>dN x.1) (fun _=>.bl false) rfl (by omega) fun x _=>⟨_,rfl,rfl⟩) rfl ?_)
 refine bq (I0 (xs:=R.zipIdx) (fun x=>.int x.2) (fun x=>dN x.1.1) (fun x=>x.1.1 == s) (fun x=>.int x.2) ?_ hz fun x _=>⟨?_,fun _=>⟨_,rfl,rfl⟩⟩) rfl ?_
 ·show M.ok (lC (R.map fun x=>dN x.1))=_
  unfold lC
  rw [List.zipIdx_map,List.map_map]
  rfl
 ·show M.ok (bh (dN x.1.1) (dN s))=_
  rw [uU]
 generalize hF:R.zipIdx.filter (fun x=>x.1.1 == s)=F
 have hmem:∀x∈F,R[x.2]?=some x.1:=fun x hx=>by
  rw [←hF,List.mem_filter] at hx
  exact List.mem_zipIdx_iff_getElem?.mp hx.1
 have hlen:F.length≤1000:=by
  rw [←hF]
  exact Nat.le_trans (List.length_filter_le _ _) hz
 have etr:(bY R s).map (fun p=>D.bl (f p))=F.map fun x=>.bl (f x.1.2):=by
  unfold bY
  rw [←x9 (fun x=>x.1 == s) R 0,hF,List.map_map,List.map_map]
  rfl
 rw [etr]
 refine cJ (DK rfl (yN (ds:=F.map fun x=>.tup [.int x.2,.bl (f x.1.2)]) ?_ ?_))
 ·show M.ok (List.zipWith (fun x y=>D.tup [x,y]) (F.map fun x=>.int x.2) (F.map fun x=>.bl (f x.1.2)))=_
  rw [x_]
 refine jT (fun k env=>∃x y:Option S,env=[some (.d (.tup (F.map fun x=>.bl (f x.1.2)))),some (.d (iC R)),some (.d (.int s)),some (.own (tk R f (F.take k))),some (.d (.lst (F.map fun x=>.int x.2))),x,y]) _ ⟨none,none,by rw [List.take_zero,IK];rfl⟩ ?_ ?_
 ·rintro k hk _ ⟨x,y,rfl⟩
  rw [List.length_map] at hk
  rw [List.getElem_map]
  have hm:=hmem F[k] (List.getElem_mem hk)
  refine ⟨_,rfl,Jh (n:=F[k].2) rfl rfl rfl rfl ?_ ⟨_,rfl,some (.d (.int F[k].2)),some (.d (.bl (f F[k].1.2))),?_⟩⟩
  ·rw [IJ]
   exact (List.getElem?_eq_some_iff.mp hm).1
  ·rw [List.take_succ,List.getElem?_eq_getElem hk]
   rw [show (F.take k++(some F[k]).toList)=F.take k++[F[k]] from rfl,←IL hm]
   rfl
 ·rintro _ ⟨x,y,rfl⟩
  rw [List.length_map,List.take_length,←hF,II]
  exact bT rfl rfl rfl
def bL (v w:Wd):Wd:=⟨v.m + w.m,List.zipWith (fun a b=>(a.1,a.2++b.2.map fun p=>p + v.m)) v.ms w.ms,List.zipWith (fun a b=>(a.1,a.2++b.2.map fun p=>(p.1 + v.m,p.2 + v.m))) v.ar w.ar⟩
structure rG (n:Nat) (w:Wd):Prop where
 mp:∀r∈w.ms,r.2.length≤n∧∀p∈r.2,p < w.m
 ap:∀r∈w.ar,r.2.length≤n∧∀p∈r.2,p.1 < w.m∧p.2 < w.m
abbrev Ga (w:Wd):Prop:=rG 30 w
def em (m:Nat) (x:Nat×Nat):Nat:=if x.1=0 then x.2 else x.2 + m
def wv (v w:Wd) (s:Nat):Wd:=if s=0 then v else w
structure ic (v w:Wd) (x:Nat×Nat):Prop where
 s:x.1 < 2
 p:x.2 < (wv v w x.1).m
theorem inN (l:Nat) (xs:List Nat):inD (dN l) (xs.map dN)=decide (l∈xs):=by
 unfold inD
 rw [List.any_map,Bool.eq_iff_iff,List.any_eq_true,decide_eq_true_eq]
 constructor
 ·rintro ⟨x,hx,e⟩
  have e:bh (dN x) (dN l)=true:=e
  rw [uU] at e
  rw [←eq_of_beq e];exact hx
 ·intro h
  exact ⟨l,h,by show bh (dN l) (dN l)=true;rw [uU];simp⟩
theorem Ke (a b:Nat×Nat):bh (dP a) (dP b)=decide (a=b):=by
 have:bh (dP a) (dP b)=(bh (dN a.1) (dN b.1) && (bh (dN a.2) (dN b.2) && true)):=by
  show bh (.tup [dN a.1,dN a.2]) (.tup [dN b.1,dN b.2])=_
  rw [qV,nS,nS,cY]
 rw [this,uU,uU,Bool.eq_iff_iff]
 obtain ⟨a1,a2⟩:=a
 obtain ⟨b1,b2⟩:=b
 simp
theorem xw (l:Nat×Nat) (xs:List (Nat×Nat)):inD (dP l) (xs.map dP)=decide (l∈xs):=by
 unfold inD
 rw [List.any_map,Bool.eq_iff_iff,List.any_eq_true,decide_eq_true_eq]
 constructor
 ·rintro ⟨x,hx,e⟩
  have e:bh (dP x) (dP l)=true:=e
  rw [Ke,decide_eq_true_eq] at e
  rw [←e];exact hx
 ·intro h
  exact ⟨l,h,by show bh (dP l) (dP l)=true;rw [Ke];simp⟩
theorem kZ {α β γ δ:Type}{h:α→β→γ}{g:γ→δ}{g':α→δ}:∀{as:List α}{bs:List β},as.length=bs.length→(∀a∈as,∀b∈bs,g (h a b)=g' a)→(List.zipWith h as bs).map g=as.map g'
 | [],[],_,_=>rfl
 | a::as,b::bs,hl,e=>by
  rw [List.zipWith_cons_cons,List.map_cons,List.map_cons,e a List.mem_cons_self b List.mem_cons_self,kZ (by simpa using hl) fun x hx y hy=>e x (List.mem_cons_of_mem _ hx) y (List.mem_cons_of_mem _ hy)]
theorem jU {α β γ δ:Type}{h:α→β→γ}{g:γ→δ}{g':β→δ}:∀{as:List α}{bs:List β},as.length=bs.length→(∀a∈as,∀b∈bs,g (h a b)=g' b)→(List.zipWith h as bs).map g=bs.map g'
 | [],[],_,_=>rfl
 | a::as,b::bs,hl,e=>by
  rw [List.zipWith_cons_cons,List.map_cons,List.map_cons,e a List.mem_cons_self b List.mem_cons_self,jU (by simpa using hl) fun x hx y hy=>e x (List.mem_cons_of_mem _ hx) y (List.mem_cons_of_mem _ hy)]
def zf (w:Wd) (R:Rw) (s l:Nat):D:=.tup [iQ R s fun p=>bh (dN p) (dN l),.tup (w.ms.map fun r=>.bl (inD (dN l) (r.2.map dN))),.tup (w.ar.map fun r=>.bl (inD (dP (l,l)) (r.2.map dP))),
 .tup (w.ar.map fun r=>iQ R s fun p=>inD (dP (l,p)) (r.2.map dP)),.tup (w.ar.map fun r=>iQ R s fun p=>inD (dP (p,l)) (r.2.map dP))]
theorem ug (w:Wd) (hw:fk w) (R:Rw) (s l:Nat) (hl:R.length≤100):gq [.d (gE w (bY R s) l),.d (iC R),.d (.int s)]=.ok (.d (zf w R s l)):=by
 have al:=hw.al
 have sp:=fun f=>Bq R hl s f
 refine dI (qw rfl rfl rfl ?_)
 refine bq (n1 (jJ (xs:=w.ar) (h:=fun r=>.tup ((bY R s).map fun p=>.bl (inD (dP (l,p)) (r.2.map dP)))) (fun r=>iQ R s fun p=>inD (dP (l,p)) (r.2.map dP)) rfl (by omega) fun r _=>⟨_,c3 rfl rfl rfl (sp _),rfl⟩) rfl) rfl ?_
 refine bq (n1 (jJ (xs:=w.ar) (h:=fun r=>.tup ((bY R s).map fun p=>.bl (inD (dP (p,l)) (r.2.map dP)))) (fun r=>iQ R s fun p=>inD (dP (p,l)) (r.2.map dP)) rfl (by omega) fun r _=>⟨_,c3 rfl rfl rfl (sp _),rfl⟩) rfl) rfl ?_
 exact bT (bx (aD (c3 rfl rfl rfl (sp _)) rfl (aD rfl rfl (aD rfl rfl (aD rfl rfl (aD rfl rfl bw))))) t5) rfl rfl
theorem jC {R:Rw}{s:Nat}{f:Nat→Bool}{m:Nat}{g:Nat→D}(h:∀x∈R,g (em m x)=.bl (x.1 == s && f x.2)):D.tup ((R.map (em m)).map g)=iQ R s f:=by
 unfold iQ
 rw [List.map_map]
 congr 1
 exact List.map_congr_left fun x hx=>h x hx
structure jl (v w:Wd):Prop where
 vo:fk v
 wo:fk w
 vb:Ga v
 wb:Ga w
 ml:v.ms.length=w.ms.length
 al:v.ar.length=w.ar.length
 hi:v.m + w.m≤8
theorem lP {v w:Wd}{x:Nat×Nat}(h:ic v w x):(x.1=0∧x.2 < v.m∧em v.m x=x.2)∨(x.1=1∧x.2 < w.m∧em v.m x=x.2 + v.m):=by
 obtain ⟨s,p⟩:=x
 have h1:=h.s
 have h2:=h.p
 simp only at h1 h2
 match s,h1,h2 with
 | 0,_,h2=>exact .inl ⟨rfl,h2,rfl⟩
 | 1,_,h2=>exact .inr ⟨rfl,h2,rfl⟩
theorem mW {v w:Wd}(t:jl v w) (R:Rw) (hR:∀x∈R,ic v w x) (s l:Nat) (hs:ic v w (s,l)):gE (bL v w) (R.map (em v.m)) (em v.m (s,l))=zf (wv v w s) R s l:=by
 have key:∀x∈R,(x.1=0∧x.2 < v.m∧em v.m x=x.2)∨(x.1=1∧x.2 < w.m∧em v.m x=x.2 + v.m):=fun x hx=>lP (hR x hx)
 rcases lP hs with ⟨e,hl,e2⟩ | ⟨e,hl,e2⟩
 ·simp only at e hl e2
  subst e
  rw [e2]
  unfold gE zf
  have c1:D.tup ((R.map (em v.m)).map fun p=>.bl (bh (dN p) (dN l)))=iQ R 0 fun p=>bh (dN p) (dN l):=jC fun x hx=>by
   simp only [uU]
   congr 1
   rcases key x hx with ⟨a,b,c⟩ | ⟨a,b,c⟩ <;> rw [a,c]
   ·simp
   ·have:(x.2 + v.m == l)=false:=beq_eq_false_iff_ne.mpr (by omega)
    rw [this];rfl
  have c2:(bL v w).ms.map (fun r=>D.bl (inD (dN l) (r.2.map dN)))=v.ms.map fun r=>.bl (inD (dN l) (r.2.map dN)):=kZ t.ml fun a ha b hb=>by
   simp only [inN,List.mem_append,List.mem_map]
   congr 1
   refine decide_eq_decide.mpr ⟨fun h=>h.elim id ?_,.inl⟩
   rintro ⟨p,_,h⟩
   omega
  have c3:(bL v w).ar.map (fun r=>D.bl (inD (dP (l,l)) (r.2.map dP)))=v.ar.map fun r=>.bl (inD (dP (l,l)) (r.2.map dP)):=kZ t.al fun a ha b hb=>by
   simp only [xw,List.mem_append,List.mem_map]
   congr 1
   refine decide_eq_decide.mpr ⟨fun h=>h.elim id ?_,.inl⟩
   rintro ⟨p,_,h⟩
   have:=congrArg Prod.fst h
   simp only at this
   omega
  have c4:(bL v w).ar.map (fun r=>D.tup ((R.map (em v.m)).map fun p=>.bl (inD (dP (l,p)) (r.2.map dP))))=v.ar.map fun r=>iQ R 0 fun p=>inD (dP (l,p)) (r.2.map dP):=kZ t.al fun a ha b hb=>jC fun x hx=>by
   simp only [xw,List.mem_append,List.mem_map]
   congr 1
   rcases key x hx with ⟨x1,x2,x3⟩ | ⟨x1,x2,x3⟩ <;> rw [x1,x3,Bool.eq_iff_iff] <;> simp
   ·intro p q _ h
    omega
   ·refine ⟨fun h=>?_,fun p _ h=>?_⟩
    ·have:=((t.vb.ap a ha).2 _ h).2
     simp only at this
     omega
    ·omega
  have c5:(bL v w).ar.map (fun r=>D.tup ((R.map (em v.m)).map fun p=>.bl (inD (dP (p,l)) (r.2.map dP))))=v.ar.map fun r=>iQ R 0 fun p=>inD (dP (p,l)) (r.2.map dP):=kZ t.al fun a ha b hb=>jC fun x hx=>by
   simp only [xw,List.mem_append,List.mem_map]
   congr 1
   rcases key x hx with ⟨x1,x2,x3⟩ | ⟨x1,x2,x3⟩ <;> rw [x1,x3,Bool.eq_iff_iff] <;> simp
   ·intro p q _ h
    omega
   ·refine ⟨fun h=>?_,fun p q _ h=>?_⟩
    ·have:=((t.vb.ap a ha).2 _ h).1
     simp only at this
     omega
    ·omega
  rw [c1,c2,c3,c4,c5]
  rfl
 ·simp only at e hl e2
  subst e
  rw [e2]
  unfold gE zf
  have c1:D.tup ((R.map (em v.m)).map fun p=>.bl (bh (dN p) (dN (l + v.m))))=iQ R 1 fun p=>bh (dN p) (dN l):=jC fun x hx=>by
   simp only [uU]
   congr 1
   rcases key x hx with ⟨a,b,c⟩ | ⟨a,b,c⟩ <;> rw [a,c]
   ·have:(x.2 == l + v.m)=false:=beq_eq_false_iff_ne.mpr (by omega)
    rw [this];rfl
   ·have:(x.2 + v.m == l + v.m)=(x.2 == l):=by rw [Bool.eq_iff_iff,beq_iff_eq,beq_iff_eq];omega
    rw [this];simp
  have c2:(bL v w).ms.map (fun r=>D.bl (inD (dN (l + v.m)) (r.2.map dN)))=w.ms.map fun r=>.bl (inD (dN l) (r.2.map dN)):=jU t.ml fun a ha b hb=>by
   simp only [inN,List.mem_append,List.mem_map]
   congr 1
   refine decide_eq_decide.mpr ⟨fun h=>h.elim (fun h=>?_) ?_,fun h=>.inr ⟨l,h,rfl⟩⟩
   ·have:=(t.vb.mp a ha).2 _ h
    omega
   ·rintro ⟨p,h1,h⟩
    have:p=l:=by omega
    rw [←this];exact h1
  have c3:(bL v w).ar.map (fun r=>D.bl (inD (dP (l + v.m,l + v.m)) (r.2.map dP)))=w.ar.map fun r=>.bl (inD (dP (l,l)) (r.2.map dP)):=jU t.al fun a ha b hb=>by
   simp only [xw,List.mem_append,List.mem_map]
   congr 1
   refine decide_eq_decide.mpr ⟨fun h=>h.elim (fun h=>?_) ?_,fun h=>.inr ⟨(l,l),h,rfl⟩⟩
   ·have:=((t.vb.ap a ha).2 _ h).1
    simp only at this
    omega
   ·rintro ⟨⟨p,q⟩,h1,h⟩
    have e1:=congrArg Prod.fst h
    have e2:=congrArg Prod.snd h
    simp only at e1 e2
    have:p=l:=by omega
    have:q=l:=by omega
    subst p q
    exact h1
  have c4:(bL v w).ar.map (fun r=>D.tup ((R.map (em v.m)).map fun p=>.bl (inD (dP (l + v.m,p)) (r.2.map dP))))=w.ar.map fun r=>iQ R 1 fun p=>inD (dP (l,p)) (r.2.map dP):=jU t.al fun a ha b hb=>jC fun x hx=>by
   simp only [xw,List.mem_append,List.mem_map]
   congr 1
   rcases key x hx with ⟨x1,x2,x3⟩ | ⟨x1,x2,x3⟩ <;> rw [x1,x3,Bool.eq_iff_iff] <;> simp
   ·refine ⟨fun h=>?_,fun p q _ h=>?_⟩
    ·have:=((t.vb.ap a ha).2 _ h).1
     simp only at this
     omega
    ·omega
   ·intro h
    have:=((t.vb.ap a ha).2 _ h).1
    simp only at this
    omega
  have c5:(bL v w).ar.map (fun r=>D.tup ((R.map (em v.m)).map fun p=>.bl (inD (dP (p,l + v.m)) (r.2.map dP))))=w.ar.map fun r=>iQ R 1 fun p=>inD (dP (p,l)) (r.2.map dP):=jU t.al fun a ha b hb=>jC fun x hx=>by
   simp only [xw,List.mem_append,List.mem_map]
   congr 1
   rcases key x hx with ⟨x1,x2,x3⟩ | ⟨x1,x2,x3⟩ <;> rw [x1,x3,Bool.eq_iff_iff] <;> simp
   ·refine ⟨fun h=>?_,fun p _ h=>?_⟩
    ·have:=((t.vb.ap a ha).2 _ h).2
     simp only at this
     omega
    ·omega
   ·intro h
    have:=((t.vb.ap a ha).2 _ h).2
    simp only at this
    omega
  rw [c1,c2,c3,c4,c5]
  rfl
theorem kP (R:Rw) (s t p:Nat):bY (R++[(s,p)]) t=if s=t then bY R t++[p] else bY R t:=by
 unfold bY
 rw [List.filter_append,List.map_append]
 by_cases c:s=t
 ·rw [if_pos c]
  subst c
  simp
 ·rw [if_neg c]
  simp [c]
theorem xH (R:Rw) (s:Nat):(bY R s).length≤R.length:=by
 unfold bY
 rw [List.length_map]
 exact List.length_filter_le _ _
theorem ow {v w:Wd}(t:jl v w) (s:Nat):fk (wv v w s):=by
 unfold wv
 split
 ·exact t.vo
 ·exact t.wo
theorem kD {v w:Wd}(t:jl v w):fk (bL v w):=by
 have:=t.vo.lo
 refine ⟨by show 1≤v.m + w.m;omega,t.hi,?_,?_⟩
 ·show (List.zipWith _ v.ms w.ms).length≤3
  have:=t.vo.ml
  rw [List.length_zipWith];omega
 ·show (List.zipWith _ v.ar w.ar).length≤3
  have:=t.vo.al
  rw [List.length_zipWith];omega
abbrev kv (v w:Wd) (R:Rw) (d:Nat→Nat) (s:Nat):D:=aS (wv v w s) (d s) (bY R s)
theorem Ja {v w:Wd}{x:Nat×Nat}(h:ic v w x):em v.m x < (bL v w).m:=by
 show _ < v.m + w.m
 rcases lP h with ⟨_,a,b⟩ | ⟨_,a,b⟩ <;> omega
theorem nK (v:Wd) (R:Rw) (x:Nat×Nat):(R++[x]).map (em v.m)=R.map (em v.m)++[em v.m x]:=by rw [List.map_append];rfl
def grow (d:Nat→Nat) (s:Nat):Nat→Nat:=fun t=>if t=s then d t - 1 else d t
abbrev Dn (Fr:List S→M R):G O:=aK (aX 7 (oG (bN (g2 (cU false) (af 5) (gC (.int 0)))) (bC (aA (af 6) (aA (g2 bg (af 1) (gC (.int 1))) aR))) (bC (aA (g2 bg (af 1) (gC (.int 0))) (aA (af 6) aR)))))
 (ie 4 (gN (aW 4 Fr) (ao (gN (aW 3 K55.gq) (ao (g2 bg (af 6) (gC (.int 0))) (ao (af 2) (ao (af 5) aE)))) (ao (af 7) (ao (g2 cu (af 2) (bC (aA (af 5) aR))) (ao (g2 mV (af 3) (gC (.int 1))) aE))))))
theorem Ej {t:G Bool}{g h:G R}{env:Ev}(q:t env=.ok true):oG t g h env=g env:=by
 unfold oG
 rw [q]
 rfl
theorem GD {t:G Bool}{g h:G R}{env:Ev}(q:t env=.ok false):oG t g h env=h env:=by
 unfold oG
 rw [q]
 rfl
theorem FG (R:Rw) (s p:Nat) (hl:R.length≤50):cu (.d (iC R)) (.d (.tup [dN s]))=.ok (.d (iC (R++[(s,p)]))):=by
 unfold iC
 rw [lU _ _ (by simp;omega),List.map_append]
 rfl
theorem inner {v w:Wd}(t:jl v w) (Fr:List S→M R) (R:Rw) (hR:∀x∈R,ic v w x) (dv:Nat→Nat) (d:Nat) (hl:R.length≤40) (s p:Nat) (hs:ic v w (s,p)) (hd:0 < dv s) (hF:Fr [.d (dS (bL v w) ((R++[(s,p)]).map (em v.m))),.d (.tup [kv v w (R++[(s,p)]) (grow dv s) 0,kv v w (R++[(s,p)]) (grow dv s) 1]),.d (iC (R++[(s,p)])),.d (.int d)]=.ok (.d (aS (bL v w) d ((R++[(s,p)]).map (em v.m)))))
  (f:D) (T:List D) (hT:T.length≤100) (z:Option S) (Q:O→Prop)
  (k:∀z,Q (.nx [some (.d f),some (.d (.tup [kv v w R dv 0,kv v w R dv 1])),some (.d (iC R)),some (.d (.int ((d + 1:Nat):Int))),some (.own (T++[aS (bL v w) d ((R++[(s,p)]).map (em v.m))])),some (.d (.int s)),some (.d (aS (wv v w s) (dv s - 1) (bY R s++[p]))),z])):
  Wp (Dn Fr [some (.d f),some (.d (.tup [kv v w R dv 0,kv v w R dv 1])),some (.d (iC R)),some (.d (.int ((d + 1:Nat):Int))),some (.own T),some (.d (.int s)),some (.d (aS (wv v w s) (dv s - 1) (bY R s++[p]))),z]) Q:=by
 have sp:=ug (wv v w s) (ow t s) R s p (by omega)
 rw [←mW t R hR s p hs,←fq,←fq,←nK] at sp
 have hg:(oG (bN (g2 (cU false) (af 5) (gC (.int 0)))) (bC (aA (af 6) (aA (g2 bg (af 1) (gC (.int 1))) aR))) (bC (aA (g2 bg (af 1) (gC (.int 0))) (aA (af 6) aR)))) [some (.d f),some (.d (.tup [kv v w R dv 0,kv v w R dv 1])),some (.d (iC R)),some (.d (.int ((d + 1:Nat):Int))),some (.own T),some (.d (.int s)),some (.d (aS (wv v w s) (dv s - 1) (bY R s++[p]))),z]=.ok (.d (.tup [kv v w (R++[(s,p)]) (grow dv s) 0,kv v w (R++[(s,p)]) (grow dv s) 1])):=by
  have h2:=hs.s
  simp only at h2
  match s,h2 with
  | 0,_=>
   have e0:kv v w (R++[(0,p)]) (grow dv 0) 0=aS (wv v w 0) (dv 0 - 1) (bY R 0++[p]):=by show aS _ _ (bY (R++[(0,p)]) 0)=_;rw [kP];rfl
   have e1:kv v w (R++[(0,p)]) (grow dv 0) 1=kv v w R dv 1:=by show aS _ _ (bY (R++[(0,p)]) 1)=_;rw [kP];rfl
   rw [e0,e1,Ej rfl]
   exact bx (aD rfl rfl (aD (two rfl rfl (rT _ _ _)) rfl bw)) t2
  | 1,_=>
   have e0:kv v w (R++[(1,p)]) (grow dv 1) 0=kv v w R dv 0:=by show aS _ _ (bY (R++[(1,p)]) 0)=_;rw [kP];rfl
   have e1:kv v w (R++[(1,p)]) (grow dv 1) 1=aS (wv v w 1) (dv 1 - 1) (bY R 1++[p]):=by show aS _ _ (bY (R++[(1,p)]) 1)=_;rw [kP];rfl
   rw [e0,e1,GD rfl]
   exact bx (aD (two rfl rfl (jM _ _)) rfl (aD rfl rfl bw)) t2
 refine bq hg rfl ?_
 have h1:bg (.d (aS (wv v w s) (dv s - 1) (bY R s++[p]))) (.d (.int 0))=.ok (.d (dS (wv v w s) (bY R s++[p]))):=by rw [iY];exact jM _ _
 have hF':Fr [.d (dS (bL v w) ((R++[(s,p)]).map (em v.m))),.d (.tup [kv v w (R++[(s,p)]) (grow dv s) 0,kv v w (R++[(s,p)]) (grow dv s) 1]),.d (iC (R++[(s,p)])),.d (.int (((d + 1:Nat):Int) - 1))]=.ok (.d (aS (bL v w) d ((R++[(s,p)]).map (em v.m)))):=by
  rw [show ((d + 1:Nat):Int) - 1=(d:Int) by omega]
  exact hF
 exact jr rfl (c4 (c3 (two rfl rfl h1) rfl rfl sp) rfl (two rfl (bx (aD rfl rfl bw) (by show 1≤1000;decide)) (FG R s p (by omega))) (two rfl rfl rfl) hF') rfl (by omega) (k _)
theorem qb (v w:Wd) (R:Rw) (dv:Nat→Nat) (s p u:Nat):kv v w (R++[(s,p)]) (grow dv s) u=if s=u then aS (wv v w u) (dv u - 1) (bY R u++[p]) else kv v w R dv u:=by
 show aS (wv v w u) (if u=s then dv u - 1 else dv u) (bY (R++[(s,p)]) u)=_
 rw [kP]
 by_cases c:s=u
 ·rw [if_pos c,if_pos c,if_pos c.symm]
 ·rw [if_neg c,if_neg c,if_neg (Ne.symm c)]
theorem FF (R:Rw) (s p p':Nat):iC (R++[(s,p)])=iC (R++[(s,p')]):=by simp [iC]
theorem Aa {v w:Wd}(t:jl v w) (R:Rw) (hR:∀x∈R,ic v w x) (hl:R.length≤100) (s p p':Nat) (hp:ic v w (s,p)) (hp':ic v w (s,p')) (e:gE (wv v w s) (bY R s) p=gE (wv v w s) (bY R s) p'):
  dS (bL v w) ((R++[(s,p)]).map (em v.m))=dS (bL v w) ((R++[(s,p')]).map (em v.m)):=by
 have h1:=ug (wv v w s) (ow t s) R s p hl
 have h2:=ug (wv v w s) (ow t s) R s p' hl
 rw [e,h2] at h1
 simp only [M.ok.injEq,DL.R.d.injEq] at h1
 rw [nK,nK,fq,fq,mW t R hR s p hp,mW t R hR s p' hp',h1]
theorem FZ {v w:Wd}(t:jl v w):∀(k d:Nat) (R:Rw) (dv:Nat→Nat),d < k→d≤dv 0→d≤dv 1→dv 0≤6→dv 1≤6→(∀x∈R,ic v w x)→R.length + d≤30→
  cS k [.d (dS (bL v w) (R.map (em v.m))),.d (.tup [kv v w R dv 0,kv v w R dv 1]),.d (iC R),.d (.int d)]=.ok (.d (aS (bL v w) d (R.map (em v.m))))
 | 0,d,R,dv,h,_,_,_,_,_,_=>by omega
 | k + 1,0,R,dv,_,_,_,_,_,_,_=>dI (cJ (gF rfl (bT (bx (aD rfl rfl (aD (bx bw (by decide)) rfl bw)) t2) rfl rfl)))
 | k + 1,d + 1,R,dv,hk,h0,h1,g0,g1,hR,hl=>by
  have ih:∀s p,ic v w (s,p)→cS k [.d (dS (bL v w) ((R++[(s,p)]).map (em v.m))),.d (.tup [kv v w (R++[(s,p)]) (grow dv s) 0,kv v w (R++[(s,p)]) (grow dv s) 1]),.d (iC (R++[(s,p)])),.d (.int d)]=.ok (.d (aS (bL v w) d ((R++[(s,p)]).map (em v.m)))):=fun s p hs=>by
   have gr:∀u,(u=0∨u=1)→d≤grow dv s u∧grow dv s u≤6:=fun u hu=>by
    unfold grow
    rcases hu with rfl | rfl <;> split <;> omega
   refine FZ t k d (R++[(s,p)]) (grow dv s) (by omega) (gr 0 (.inl rfl)).1 (gr 1 (.inr rfl)).1 (gr 0 (.inl rfl)).2 (gr 1 (.inr rfl)).2 (fun x hx=>?_) (by simp;omega)
   rcases List.mem_append.mp hx with h | h
   ·exact hR x h
   ·rw [List.mem_singleton.mp h];exact hs
  have d6:∀s,s < 2→0 < dv s∧dv s≤6:=fun s hs=>by
   match s,hs with
   | 0,_=>omega
   | 1,_=>omega
  have bf:∀s,∃qs:List Nat,s < 2→(dedup (aQ (subs (wv v w s) (dv s - 1) (bY R s)))=qs.map (fun p=>aS (wv v w s) (dv s - 1) (bY R s++[p]))∧(∀q∈qs,q < (wv v w s).m)∧qs.length≤(wv v w s).m):=fun s=>by
   by_cases hs:s < 2
   ·have l1:=xH R s
    have l2:=d6 s hs
    obtain ⟨p,ps,e,h⟩:=uI (wv v w s) (ow t s) (dv s - 1) (bY R s) (by omega)
    refine ⟨p::ps,fun _=>⟨e,h,?_⟩⟩
    have l3:=rO (aQ (subs (wv v w s) (dv s - 1) (bY R s)))
    rw [e,iE,List.length_map] at l3
    have l4:(subs (wv v w s) (dv s - 1) (bY R s)).length=(wv v w s).m:=by simp [subs]
    omega
   ·exact ⟨[],fun h=>absurd h hs⟩
  obtain ⟨qs,hq⟩:∃qs:Nat→List Nat,∀s,s < 2→(dedup (aQ (subs (wv v w s) (dv s - 1) (bY R s)))=(qs s).map (fun p=>aS (wv v w s) (dv s - 1) (bY R s++[p]))∧(∀q∈qs s,q < (wv v w s).m)∧(qs s).length≤(wv v w s).m):=⟨fun s=>Classical.choose (bf s),fun s=>Classical.choose_spec (bf s)⟩
  let Ls:Nat→List D:=fun s=>(qs s).map fun p=>aS (bL v w) d ((R++[(s,p)]).map (em v.m))
  have walk:∀(f:D) (s:Nat),s < 2→∀(T:List D) (x z:Option S),T.length≤50→Wp (fz (qX (g2 bg (g2 bg (af 1) (af 5)) (gC (.int 1)))) (aF 6) (Dn (cS k)) [some (.d f),some (.d (.tup [kv v w R dv 0,kv v w R dv 1])),some (.d (iC R)),some (.d (.int ((d + 1:Nat):Int))),some (.own T),some (.d (.int s)),x,z])
    (fun o=>∃x z,o=.nx [some (.d f),some (.d (.tup [kv v w R dv 0,kv v w R dv 1])),some (.d (iC R)),some (.d (.int ((d + 1:Nat):Int))),some (.own (T++Ls s)),some (.d (.int s)),x,z]):=by
   intro f s hs T x z hT
   obtain ⟨e,hm,hn⟩:=hq s hs
   have ws:=(ow t s).hi
   have d6:=d6 s hs
   refine yN (ds:=(qs s).map fun p=>aS (wv v w s) (dv s - 1) (bY R s++[p])) ?_ ?_
   ·have i1:bg (.d (.tup [kv v w R dv 0,kv v w R dv 1])) (.d (.int s))=.ok (.d (kv v w R dv s)):=by
     match s,hs with
     | 0,_=>exact jM _ _
     | 1,_=>exact rT _ _ _
    have i2:bg (.d (kv v w R dv s)) (.d (.int 1))=.ok (.d (.tup ((qs s).map fun p=>aS (wv v w s) (dv s - 1) (bY R s++[p])))):=by
     show bg (.d (aS (wv v w s) (dv s) (bY R s))) _=_
     obtain ⟨n,hn⟩:∃n,dv s=n + 1:=⟨dv s - 1,by omega⟩
     rw [hn] at e ⊢
     rw [iY,show mO (wv v w s) (n + 1) (bY R s)=.tup (dedup (aQ (subs (wv v w s) n (bY R s)))) from rfl]
     rw [show n + 1 - 1=n from rfl] at e ⊢
     rw [e]
     exact rT _ _ _
    show (g2 _ _ _ _ >>= _)=_
    rw [two (two rfl rfl i1) rfl i2]
    rfl
   ·refine jT (fun k env=>∃x z,env=[some (.d f),some (.d (.tup [kv v w R dv 0,kv v w R dv 1])),some (.d (iC R)),some (.d (.int ((d + 1:Nat):Int))),some (.own (T++(Ls s).take k)),some (.d (.int s)),x,z]) _ ⟨x,z,by rw [List.take_zero,List.append_nil]⟩ ?_ ?_
    ·rintro j hj _ ⟨x,z,rfl⟩
     rw [List.length_map] at hj
     rw [List.getElem_map]
     have hr:ic v w (s,(qs s)[j]):=⟨hs,hm _ (List.getElem_mem hj)⟩
     refine ⟨_,rfl,inner t (cS k) R hR dv d (by omega) s (qs s)[j] hr (by omega) (ih _ _ hr) f _ (by rw [List.length_append,List.length_take];simp only [Ls,List.length_map];omega) z _ fun z'=>⟨_,rfl,some (.d (aS (wv v w s) (dv s - 1) (bY R s++[(qs s)[j]]))),z',?_⟩⟩
     have:(Ls s).take (j + 1)=(Ls s).take j++[aS (bL v w) d ((R++[(s,(qs s)[j])]).map (em v.m))]:=by
      rw [List.take_succ,List.getElem?_map,List.getElem?_eq_getElem hj]
      rfl
     rw [this,List.append_assoc]
    ·rintro _ ⟨x,z,rfl⟩
     refine ⟨x,z,?_⟩
     rw [List.length_map,List.take_of_length_le (by simp [Ls])]
  have hset:∀y,y∈Ls 0++Ls 1↔y∈subs (bL v w) d (R.map (em v.m)):=fun y=>by
   constructor
   ·intro hy
    have:∃s p,ic v w (s,p)∧y=aS (bL v w) d ((R++[(s,p)]).map (em v.m)):=by
     rcases List.mem_append.mp hy with h | h
     ·obtain ⟨p,hp,rfl⟩:=List.mem_map.mp h
      exact ⟨0,p,⟨Nat.zero_lt_two,(hq 0 (by decide)).2.1 p hp⟩,rfl⟩
     ·obtain ⟨p,hp,rfl⟩:=List.mem_map.mp h
      exact ⟨1,p,⟨Nat.one_lt_two,(hq 1 (by decide)).2.1 p hp⟩,rfl⟩
    obtain ⟨s,p,hr,rfl⟩:=this
    exact List.mem_map.mpr ⟨em v.m (s,p),by rw [List.mem_range];exact Ja hr,by rw [nK]⟩
   ·intro hy
    obtain ⟨q,hq',rfl⟩:=List.mem_map.mp hy
    rw [List.mem_range] at hq'
    have hq':q < v.m + w.m:=hq'
    obtain ⟨s,p,hs,hr,rfl⟩:∃s p,s < 2∧ic v w (s,p)∧em v.m (s,p)=q:=by
     by_cases c:q < v.m
     ·exact ⟨0,q,by decide,⟨Nat.zero_lt_two,c⟩,rfl⟩
     ·exact ⟨1,q - v.m,by decide,⟨Nat.one_lt_two,show q - v.m < w.m by omega⟩,show q - v.m + v.m=q by omega⟩
    obtain ⟨e,hm,_⟩:=hq s hs
    have l1:=xH R s
    have d6:=d6 s hs
    obtain ⟨_,hdm⟩:=lq (ua (KT .fc (dv s - 1))) (subs (wv v w s) (dv s - 1) (bY R s)) fun x hx=>i7 (wv v w s) (ow t s) (dv s - 1) (bY R s) (by omega) hx
    have:=(hdm (aS (wv v w s) (dv s - 1) (bY R s++[p]))).mpr (List.mem_map.mpr ⟨p,by rw [List.mem_range];exact hr.p,rfl⟩)
    rw [e] at this
    obtain ⟨p',hp',ee⟩:=List.mem_map.mp this
    have hr':ic v w (s,p'):=⟨hs,hm p' hp'⟩
    have fe:gE (wv v w s) (bY R s) p'=gE (wv v w s) (bY R s) p:=by
     have e2:=ee
     rw [iY,iY,fq,fq] at e2
     simp only [D.tup.injEq,List.cons.injEq] at e2
     exact e2.1
    have i1:=ih s p hr
    have i2:=ih s p' hr'
    rw [Aa t R hR (by omega) s p' p hr' hr fe,FF R s p' p,qb,qb] at i2
    rw [qb,qb] at i1
    have z:∀u,(if s=u then aS (wv v w u) (dv u - 1) (bY R u++[p']) else kv v w R dv u)=if s=u then aS (wv v w u) (dv u - 1) (bY R u++[p]) else kv v w R dv u:=fun u=>by
     by_cases c:s=u
     ·subst c;rw [if_pos rfl,if_pos rfl,ee]
     ·rw [if_neg c,if_neg c]
    rw [z,z,i1] at i2
    simp only [M.ok.injEq,DL.R.d.injEq] at i2
    rw [←nK,i2]
    have:aS (bL v w) d ((R++[(s,p')]).map (em v.m))∈Ls s:=List.mem_map.mpr ⟨p',hp',rfl⟩
    match s,hs,this with
    | 0,_,h=>exact List.mem_append.mpr (.inl h)
    | 1,_,h=>exact List.mem_append.mpr (.inr h)
  have wb:=kD t
  have hlen:(Ls 0++Ls 1).length≤8:=by
   have a0:=(hq 0 (by decide)).2.2
   have a1:=(hq 1 (by decide)).2.2
   have:=t.hi
   have b0:(wv v w 0).m=v.m:=rfl
   have b1:(wv v w 1).m=w.m:=rfl
   rw [List.length_append]
   simp only [Ls,List.length_map]
   omega
  have hon:dD [.bor (Ls 0++Ls 1)]=.ok (.d (.tup (dedup (aQ (subs (bL v w) d (R.map (em v.m))))))):=by
   have hh:∀x∈Ls 0++Ls 1,gS (KT .fc d) x:=fun x hx=>i7 (bL v w) wb d (R.map (em v.m)) (by simp;omega) ((hset x).mp hx)
   have hd:=pM .fc (Nat.le_refl _) d
   rw [←Ce (ua (KT .fc d)) hh hset]
   refine zx _ (G0 hh (fun x hx=>vS (bL v w) d (R.map (em v.m)) x ((hset x).mp hx)) (by omega) (by omega)) (by omega) fun x hx=>?_
   have:=iz (hh x hx)
   omega
  refine dI (eV (b:=bN _) (show M.ok (bh (.int ((d + 1:Nat):Int)) (.int 0))=.ok false from ?_) ?_)
  ·simp [bh];omega
  refine bq rfl rfl (iP (ds:=[.int 0,.int 1]) rfl ?_)
  refine jT (fun k env=>∃x y z,env=[some (.d (dS (bL v w) (R.map (em v.m)))),some (.d (.tup [kv v w R dv 0,kv v w R dv 1])),some (.d (iC R)),some (.d (.int ((d + 1:Nat):Int))),some (.own ([Ls 0,Ls 1].take k).flatten),x,y,z]) _ ⟨none,none,none,rfl⟩ ?_ ?_
  ·rintro j hj _ ⟨x,y,z,rfl⟩
   match j,hj with
   | 0,_=>
    obtain ⟨o,h1,x,z,rfl⟩:=walk (dS (bL v w) (R.map (em v.m))) 0 (by decide) [] y z (by decide)
    exact ⟨_,rfl,_,h1,_,rfl,some (.d (.int 0)),x,z,by rw [show ([Ls 0,Ls 1].take (0 + 1)).flatten=[]++Ls 0 by simp];rfl⟩
   | 1,_=>
    obtain ⟨o,h1,x,z,rfl⟩:=walk (dS (bL v w) (R.map (em v.m))) 1 (by decide) (Ls 0) y z (by rw [List.length_append] at hlen;omega)
    rw [show ([Ls 0,Ls 1].take 1).flatten=Ls 0 by simp]
    exact ⟨_,rfl,_,h1,_,rfl,some (.d (.int 1)),x,z,by rw [show ([Ls 0,Ls 1].take (1 + 1)).flatten=Ls 0++Ls 1 by simp];rfl⟩
  ·rintro _ ⟨x,y,z,rfl⟩
   show Wp (bU _ [_,_,_,_,some (S.own (Ls 0++(Ls 1++[]))),_,_,_]) _
   rw [List.append_nil]
   exact bT (bx (aD rfl rfl (aD (c1 rfl hon) rfl bw)) t2) rfl rfl
theorem yb {v w:Wd}(t:jl v w) (d:Nat) (hd:d≤6):gn [.d (aS v d []),.d (aS w d [])]=.ok (.d (aS (bL v w) d [])):=by
 have h:=FZ t 10 d [] (fun _=>d) (by omega) (Nat.le_refl _) (Nat.le_refl _) hd hd (fun _ h=>by cases h) (by simp;omega)
 refine dI (bT (c4 (bx bw (by decide)) (bx (aD rfl rfl (aD rfl rfl bw)) t2) (bx bw (by decide)) (c1 rfl (DM v t.vo d [] hd (by decide))) h) rfl rfl)
theorem fp (i j:Int):cu (.d (.int i)) (.d (.int j))=.ok (.d (.int (i + j))):=rfl
theorem Dq (a b:Nat):D.int ((a:Int) + (b:Int))=dN (a + b):=by rw [dN,Int.natCast_add]
def bM (v:Wd) (a b:Str×List Nat):Str×List Nat:=(a.1,a.2++b.2.map fun p=>p + v.m)
def bA (v:Wd) (a b:Str×List (Nat×Nat)):Str×List (Nat×Nat):=(a.1,a.2++b.2.map fun p=>(p.1 + v.m,p.2 + v.m))
theorem Bk {α β:Type}(h:α→D) (h':β→D){as:List α}{bs:List β}{k:Nat}(hk:k < (List.zipWith (fun a b=>D.tup [a,b]) (as.map h) (bs.map h')).length):∃(h1:k < as.length) (h2:k < bs.length),(List.zipWith (fun a b=>D.tup [a,b]) (as.map h) (bs.map h'))[k]=.tup [h as[k],h' bs[k]]:=by
 have h1:k < as.length:=by simp at hk;omega
 have h2:k < bs.length:=by simp at hk;omega
 exact ⟨h1,h2,by simp⟩
theorem xX {α β γ:Type}(f:α→β→γ){as:List α}{bs:List β}{k:Nat}(h1:k < as.length) (h2:k < bs.length):(List.zipWith f as bs).take (k + 1)=(List.zipWith f as bs).take k++[f as[k] bs[k]]:=by
 rw [List.take_succ,List.getElem?_zipWith,List.getElem?_eq_getElem h1,List.getElem?_eq_getElem h2]
 rfl
theorem ue {v w:Wd}(t:jl v w):fj [.d v.d,.d w.d]=.ok (.d (bL v w).d):=by
 have ml:=t.vo.ml
 have al:=t.vo.al
 refine dI (bq (two rfl rfl (jM _ _)) rfl (bq rfl rfl (iP (ds:=List.zipWith (fun a b=>D.tup [a,b]) (v.ms.map e_) (w.ms.map e_)) rfl ?_)))
 refine jT (fun k env=>∃x y:Option S,env=[some (.d v.d),some (.d w.d),some (.d (.int v.m)),some (.own (((List.zipWith (bM v) v.ms w.ms).take k).map e_)),x,y,none]) _ ⟨none,none,rfl⟩ ?_ ?_
 ·rintro k hk _ ⟨x,y,rfl⟩
  obtain ⟨h1,h2,e⟩:=Bk e_ e_ hk
  rw [e]
  have lb:=(t.wb.mp _ (List.getElem_mem h2)).1
  have lv:=(t.vb.mp _ (List.getElem_mem h1)).1
  refine ⟨_,rfl,jr rfl (bx (aD (two rfl rfl (jM _ _)) rfl (aD (two (two rfl rfl (rT _ _ _)) (n1 (jJ (xs:=(w.ms[k]).2) (h:=dN) (fun p=>dN (p + v.m)) rfl (by omega) fun p _=>⟨_,two rfl rfl (fp _ _),by rw [Dq];rfl⟩) rfl) (lU _ _ (by simp;omega))) rfl bw)) t2) rfl (by rw [List.length_map,List.length_take];simp;omega) ⟨_,rfl,some (.d (e_ v.ms[k])),some (.d (e_ w.ms[k])),?_⟩⟩
  rw [xX (bM v) h1 h2,List.map_append]
  show _=[_,_,_,some (S.own (_++[e_ (bM v v.ms[k] w.ms[k])])),_,_,_]
  unfold e_ bM
  rw [List.map_append,List.map_map]
  rfl
 ·rintro _ ⟨x,y,rfl⟩
  rw [List.take_of_length_le (by simp)]
  refine bq rfl rfl (iP (ds:=List.zipWith (fun a b=>D.tup [a,b]) (v.ar.map gx) (w.ar.map gx)) rfl ?_)
  refine jT (fun k env=>∃x y:Option S,env=[some (.d v.d),some (.d w.d),some (.d (.int v.m)),some (.own ((List.zipWith (bM v) v.ms w.ms).map e_)),x,y,some (.own (((List.zipWith (bA v) v.ar w.ar).take k).map gx))]) _ ⟨_,_,rfl⟩ ?_ ?_
  ·rintro k hk _ ⟨x,y,rfl⟩
   obtain ⟨h1,h2,e⟩:=Bk gx gx hk
   rw [e]
   have lb:=(t.wb.ap _ (List.getElem_mem h2)).1
   have lv:=(t.vb.ap _ (List.getElem_mem h1)).1
   refine ⟨_,rfl,jr rfl (bx (aD (two rfl rfl (jM _ _)) rfl (aD (two (two rfl rfl (rT _ _ _)) (n1 (jY (xs:=(w.ar[k]).2) (fun p=>dN p.1) (fun p=>dN p.2) (fun p=>dP (p.1 + v.m,p.2 + v.m)) rfl (by omega) fun p _=>⟨_,bx (aD (two rfl rfl (fp _ _)) rfl (aD (two rfl rfl (fp _ _)) rfl bw)) t2,by rw [Dq,Dq];rfl⟩) rfl) (lU _ _ (by simp;omega))) rfl bw)) t2) rfl (by rw [List.length_map,List.length_take];simp;omega) ⟨_,rfl,some (.d (gx v.ar[k])),some (.d (gx w.ar[k])),?_⟩⟩
   rw [xX (bA v) h1 h2,List.map_append]
   show _=[_,_,_,_,_,_,some (S.own (_++[gx (bA v v.ar[k] w.ar[k])]))]
   unfold gx bA
   rw [List.map_append,List.map_map]
   rfl
  ·rintro _ ⟨x,y,rfl⟩
   rw [List.take_of_length_le (by simp)]
   refine bT (bx (aD (two rfl (two rfl rfl (jM _ _)) (fp _ _)) rfl (aD rfl rfl (aD rfl rfl bw))) (by show 3≤1000;decide)) rfl ?_
   rw [Dq]
   rfl
theorem BY {env:Ev}{Q:O→Prop}{g:G R}{i j k:Nat}{xs zs:List D}(h1:env[i]?=some (some (.own zs))) (h2:env[j]?=some (some (.own xs))) (hij:i≠j) (h:g env=.ok (.d (.int k))) (hk:k < xs.length) (lz:zs.length < 1000) (lx:xs.length≤1000)
  (c:Q (.nx ((env.set j (some (.own (xs.eraseIdx k)))).set i (some (.own (zs++[xs[k]])))))):Wp (jA i j g env) Q:=by
 refine ⟨_,?_,c⟩
 unfold jA
 rw [h1,h2]
 show (if i=j then M.bad else (g env >>= _))=_
 rw [if_neg hij,h,aU]
 show (if 0≤(k:Int)∧(k:Int).toNat < xs.length∧zs.length < sizeLine∧xs.length≤sizeLine then _ else _)=_
 rw [if_pos ⟨by omega,by simpa using hk,Nat.lt_of_lt_of_le lz (d9 (Nat.le_refl _)),d9 lx⟩]
 rw [Int.toNat_natCast,List.getElem?_eq_getElem hk]
theorem DP (c:Int) (m:Nat) (hm:m≤8):∃ps:List Nat,gV [.d (.int c),.d (.int m)]=.ok (.d (.tup (ps.map dN)))∧ps.length=m∧∀p∈ps,p < m:=by
 have key:Wp (gV [.d (.int c),.d (.int m)]) fun r=>∃ps:List Nat,r=.d (.tup (ps.map dN))∧ps.length=m∧∀p∈ps,p < m:=by
  refine lW (bq (r:=.l .fresh ((List.range m).map dN)) ?_ rfl (bq rfl rfl (iP (nJ (n:=m) rfl (by omega)) ?_)))
  ·show (if below 16777216 (m:Int) then M.ok (R.l .fresh (eZ 0 (m:Int).toNat)) else .bad)=_
   rw [if_pos (by unfold below;simp;omega),Int.toNat_natCast,Iq]
  ·refine lY (fun k env=>∃(c:Int) (ls ps:List Nat) (x:Option S),env=[some (.d (.int c)),some (.d (.int m)),some (.own (ls.map dN)),some (.own (ps.map dN)),x]∧ls.length + k=m∧ps.length=k∧(∀p∈ls,p < m)∧∀p∈ps,p < m) ⟨c,List.range m,[],none,rfl,by simp,rfl,fun p hp=>by simpa using hp,fun _ h=>by cases h⟩ ?_ ?_
   ·rintro k hk _ ⟨c,ls,ps,x,rfl,l1,l2,m1,m2⟩
    have hlen:(0:Int) < ((ls.map dN).length:Nat):=by simp;omega
    obtain ⟨j,hj⟩:∃j:Nat,c % ((ls.map dN).length:Nat)=j:=⟨(c % ((ls.map dN).length:Nat)).toNat,by have:=Int.emod_nonneg c (b:=((ls.map dN).length:Nat)) (by omega);omega⟩
    have hjl:j < (ls.map dN).length:=by
     have:=Int.emod_lt_of_pos c hlen
     omega
    have hjl':j < ls.length:=by simpa using hjl
    refine ⟨_,rfl,cJ (BY (k:=j) rfl rfl (by decide) ((two rfl (n1 rfl rfl) (gM _ _ hlen)).trans (by rw [hj])) hjl (by simp;omega) (by simp;omega) ?_)⟩
    refine iM (two rfl rfl (lV _ 9 (by decide) (by decide))) rfl ⟨_,rfl,c / 9,ls.eraseIdx j,ps++[ls[j]],some (.d (.int k)),?_,?_,?_,fun p hp=>m1 p (List.mem_of_mem_eraseIdx hp),fun p hp=>?_⟩
    ·rw [List.map_append,List.getElem_map,show (ls.eraseIdx j).map dN=(ls.map dN).eraseIdx j by simp [List.eraseIdx_eq_take_drop_succ,List.map_take,List.map_drop]]
     rfl
    ·rw [List.length_eraseIdx,if_pos hjl'];omega
    ·rw [List.length_append];simp;omega
    ·rcases List.mem_append.mp hp with h | h
     ·exact m2 p h
     ·rw [List.mem_singleton.mp h];exact m1 _ (List.getElem_mem hjl')
   ·rintro _ ⟨c,ls,ps,x,rfl,l1,l2,m1,m2⟩
    exact bT rfl rfl ⟨_,rfl,ps,rfl,l2,m2⟩
 obtain ⟨_,h,ps,rfl,hk⟩:=key
 exact ⟨ps,h,hk⟩
def oQ:D→Nat
 | .int i=>i.toNat
 | _=>0
def sN:D→Nat×Nat
 | .tup [x,y]=>(oQ x,oQ y)
 | _=>(0,0)
theorem zm (n:Nat):oQ (dN n)=n:=rfl
theorem zo (n:Nat×Nat):sN (dP n)=n:=rfl
theorem back {α:Type}(h:α→D) (u:D→α) (hu:∀x,u (h x)=x){l:List D}(hl:∀d∈l,∃x,d=h x):(l.map u).map h=l:=by
 rw [List.map_map]
 refine (List.map_congr_left (g:=id) fun d hd=>?_).trans (List.map_id _)
 obtain ⟨x,rfl⟩:=hl d hd
 show h (u (h x))=h x
 rw [hu]
theorem sG {α:Type}(h:α→D) (u:D→α) (hu:∀x,u (h x)=x) (xs:List α):((aQ (xs.map h)).map u).map h=aQ (xs.map h):=back h u hu fun d hd=>by
 obtain ⟨x,_,rfl⟩:=List.mem_map.mp (kc hd)
 exact ⟨x,rfl⟩
theorem xT {α:Type}(h:α→D) (u:D→α) (hu:∀x,u (h x)=x) (xs:List α):∀y∈(aQ (xs.map h)).map u,y∈xs:=fun y hy=>by
 obtain ⟨d,hd,rfl⟩:=List.mem_map.mp hy
 obtain ⟨x,hx,rfl⟩:=List.mem_map.mp (kc hd)
 rw [hu];exact hx
def pF:Fm:=.tc .i (.tc .i .tn)
theorem uY (p:Nat×Nat):ji pF (dP p):=⟨_,rfl,_,_,rfl,⟨_,rfl⟩,_,rfl,_,_,rfl,⟨_,rfl⟩,[],rfl,rfl⟩
theorem DB (xs:List Nat) (hl:xs.length < 64):oO (xs.map dN)=true:=by
 unfold oO
 rw [List.length_map,decide_eq_true hl,Bool.true_and,List.all_eq_true]
 intro d hd
 obtain ⟨x,_,rfl⟩:=List.mem_map.mp hd
 rfl
theorem GG (xs:List (Nat×Nat)):∀d∈xs.map dP,eG d=some .i:=fun d hd=>by
 obtain ⟨x,_,rfl⟩:=List.mem_map.mp hd
 rfl
theorem Jl (xs:List (Nat×Nat)) (hl:xs.length < 64):j8 (xs.map dP)=true:=by
 have hdp:=zY xs
 have hc:jd (xs.map dP)=true:=by
  unfold jd
  rw [List.all_eq_true]
  intro x hx
  rw [List.all_eq_true]
  intro y hy
  obtain ⟨a,_,rfl⟩:=List.mem_map.mp hx
  obtain ⟨b,_,rfl⟩:=List.mem_map.mp hy
  exact (gO pF).lt _ _ (uY a) (uY b)
 unfold j8
 rw [hc,decide_eq_true hdp,List.length_map,decide_eq_true hl]
 cases xs with
 | nil=>rfl
 | cons x xs=>
  have hh:vf ((x::xs).map dP)=true:=by
   show eO .i ((x::xs).map dP)=true
   exact k_ (GG (x::xs))
  rw [hh]
  simp
theorem KY (xs:List Nat) (hl:xs.length < 64):jK [.l .fresh (xs.map dN)]=.ok (.l .fresh (aQ (xs.map dN))):=by
 show (if j8 (xs.map dN)=true then M.ok (R.l .fresh (aQ (xs.map dN))) else if oO (xs.map dN)=true then M.ok (R.l .fresh (aQ (xs.map dN))) else .bad)=_
 rw [if_pos (DB xs hl)]
 split <;> rfl
theorem KZ (xs:List (Nat×Nat)) (hl:xs.length < 64):jK [.l .fresh (xs.map dP)]=.ok (.l .fresh (aQ (xs.map dP))):=by
 show (if j8 (xs.map dP)=true then M.ok (R.l .fresh (aQ (xs.map dP))) else if oO (xs.map dP)=true then M.ok (R.l .fresh (aQ (xs.map dP))) else .bad)=_
 rw [if_pos (Jl xs hl)]
theorem BU {ps:List Nat}{p:Nat}(hp:p < ps.length):bg (.d (.tup (ps.map dN))) (.d (dN p))=.ok (.d (dN (ps.getD p 0))):=by
 have h1:(ps.map dN)[p]?=some (dN (ps.getD p 0)):=by rw [List.getElem?_map,List.getElem?_eq_getElem hp];simp [List.getD,hp]
 exact jy h1
def qF (w:Wd) (ps:List Nat):Wd:=⟨w.m,w.ms.map fun r=>(r.1,(aQ ((r.2.map fun p=>ps.getD p 0).map dN)).map oQ),w.ar.map fun r=>(r.1,(aQ ((r.2.map fun p=>(ps.getD p.1 0,ps.getD p.2 0)).map dP)).map sN)⟩
theorem Br (w:Wd) (hw:fk w) (n:Nat) (hn:n≤40) (hb:rG n w) (ps:List Nat) (hl:ps.length=w.m):iF [.d w.d,.d (.tup (ps.map dN))]=.ok (.d (qF w ps).d):=by
 have ml:=hw.ml
 have al:=hw.al
 refine dI (bq (jY (xs:=w.ms) (fun r=>.str r.1) (fun r=>.tup (r.2.map dN)) (fun r=>e_ (r.1,(aQ ((r.2.map fun p=>ps.getD p 0).map dN)).map oQ)) ?_ (by omega) fun r hr=>?_) rfl ?_)
 ·show (g2 bg (af 0) (gC (.int 1)) _ >>= _)=_
  rw [two (x:=.d w.d) rfl rfl (rT _ _ _)]
  rfl
 ·obtain ⟨h1,h2⟩:=hb.mp r hr
  refine ⟨_,bx (aD rfl rfl (aD (n1 (n1 (jJ (xs:=r.2) (h:=dN) (fun p=>dN (ps.getD p 0)) rfl (by omega) fun p hp=>⟨_,two rfl rfl (BU (by rw [hl];exact h2 p hp)),rfl⟩) (x:=.l .fresh (r.2.map fun p=>dN (ps.getD p 0))) (z:=.l .fresh (aQ ((r.2.map fun p=>ps.getD p 0).map dN))) ?_) rfl) rfl bw)) t2,?_⟩
  ·have:=KY (r.2.map fun p=>ps.getD p 0) (by simp;omega)
   rw [List.map_map] at this ⊢
   exact this
  ·unfold e_
   rw [sG dN oQ zm]
   rfl
 refine bq (jY (xs:=w.ar) (fun r=>.str r.1) (fun r=>.tup (r.2.map dP)) (fun r=>gx (r.1,(aQ ((r.2.map fun p=>(ps.getD p.1 0,ps.getD p.2 0)).map dP)).map sN)) ?_ (by omega) fun r hr=>?_) rfl ?_
 ·show (g2 bg (af 0) (gC (.int 2)) _ >>= _)=_
  rw [two (x:=.d w.d) rfl rfl (Lj _ _ _ _)]
  rfl
 ·obtain ⟨h1,h2⟩:=hb.ap r hr
  refine ⟨_,bx (aD rfl rfl (aD (n1 (n1 (jY (xs:=r.2) (fun p=>dN p.1) (fun p=>dN p.2) (fun p=>dP (ps.getD p.1 0,ps.getD p.2 0)) rfl (by omega) fun p hp=>⟨_,bx (aD (two rfl rfl (BU (by rw [hl];exact (h2 p hp).1))) rfl (aD (two rfl rfl (BU (by rw [hl];exact (h2 p hp).2))) rfl bw)) t2,rfl⟩) (x:=.l .fresh (r.2.map fun p=>dP (ps.getD p.1 0,ps.getD p.2 0))) (z:=.l .fresh (aQ ((r.2.map fun p=>(ps.getD p.1 0,ps.getD p.2 0)).map dP))) ?_) rfl) rfl bw)) t2,?_⟩
  ·have:=KZ (r.2.map fun p=>(ps.getD p.1 0,ps.getD p.2 0)) (by simp;omega)
   rw [List.map_map] at this ⊢
   exact this
  ·unfold gx
   rw [sG dP sN zo]
   rfl
 refine bT (bx (aD (two rfl rfl (jM _ _)) rfl (aD rfl rfl (aD rfl rfl bw))) (by show 3≤1000;decide)) rfl ?_
 unfold qF Wd.d
 simp only [List.map_map]
 rfl
theorem J6 (w:Wd) (hw:fk w) (n:Nat) (hb:rG n w) (ps:List Nat) (hl:ps.length=w.m) (hp:∀p∈ps,p < w.m):fk (qF w ps)∧rG n (qF w ps)∧(qF w ps).m=w.m∧(qF w ps).ms.length=w.ms.length∧(qF w ps).ar.length=w.ar.length:=by
 have gd:∀p,p < w.m→ps.getD p 0 < w.m:=fun p h=>by
  have h':p < ps.length:=by omega
  rw [show ps.getD p 0=ps[p] by simp [List.getD,h']]
  exact hp _ (List.getElem_mem h')
 refine ⟨⟨hw.lo,hw.hi,?_,?_⟩,⟨fun r hr=>?_,fun r hr=>?_⟩,rfl,List.length_map _,List.length_map _⟩
 ·show (w.ms.map _).length≤3
  rw [List.length_map];exact hw.ml
 ·show (w.ar.map _).length≤3
  rw [List.length_map];exact hw.al
 ·obtain ⟨q,hq,rfl⟩:=List.mem_map.mp (show r∈w.ms.map _ from hr)
  obtain ⟨h1,h2⟩:=hb.mp q hq
  refine ⟨?_,fun p hp'=>?_⟩
  ·show ((aQ _).map oQ).length≤n
   rw [List.length_map,iE,List.length_map,List.length_map];exact h1
  ·have:=xT dN oQ zm _ p hp'
   obtain ⟨z,hz,rfl⟩:=List.mem_map.mp this
   exact gd z (h2 z hz)
 ·obtain ⟨q,hq,rfl⟩:=List.mem_map.mp (show r∈w.ar.map _ from hr)
  obtain ⟨h1,h2⟩:=hb.ap q hq
  refine ⟨?_,fun p hp'=>?_⟩
  ·show ((aQ _).map sN).length≤n
   rw [List.length_map,iE,List.length_map,List.length_map];exact h1
  ·have:=xT dP sN zo _ p hp'
   obtain ⟨z,hz,rfl⟩:=List.mem_map.mp this
   exact ⟨gd _ (h2 z hz).1,gd _ (h2 z hz).2⟩
theorem K0 (xs:List Nat) (hl:xs.length < 64):gv [.d (.tup (xs.map dN))]=.ok (.l .fresh (dO (xs.map dN))):=by
 show (if nB (xs.map dN)=true then M.ok (R.l .fresh (dO (xs.map dN))) else if oO (xs.map dN)=true then M.ok (R.l .fresh (dO (xs.map dN))) else .bad)=_
 rw [if_pos (DB xs hl)]
 split <;> rfl
theorem Jk (xs:List (Nat×Nat)) (hl:xs.length < 64):nB (xs.map dP)=true:=by
 have h1:areKeys (xs.map dP)=true:=by
  induction xs with
  | nil=>rfl
  | cons x xs ih=>
   rw [List.map_cons]
   show (isKey (dP x) && areKeys (xs.map dP))=true
   rw [ih (by simp at hl;omega)]
   rfl
 have h2:deps (xs.map dP)≤8:=fm fun d hd=>by
  obtain ⟨x,_,rfl⟩:=List.mem_map.mp hd
  exact (by decide:(1:Nat)≤8)
 have h3:DA (xs.map dP)=true:=by
  cases xs with
  | nil=>rfl
  | cons x xs=>
   show (eO .i ((x::xs).map dP) && ((x::xs).map dP).all (nU pF))=true
   rw [k_ (GG (x::xs)),Bool.true_and,List.all_eq_true]
   intro d hd
   obtain ⟨y,_,rfl⟩:=List.mem_map.mp hd
   rfl
 unfold nB
 rw [h1,h3,decide_eq_true h2,List.length_map,decide_eq_true hl]
 rfl
theorem K1 (xs:List (Nat×Nat)) (hl:xs.length < 64):gv [.d (.tup (xs.map dP))]=.ok (.l .fresh (dO (xs.map dP))):=by
 show (if nB (xs.map dP)=true then M.ok (R.l .fresh (dO (xs.map dP))) else _)=_
 rw [if_pos (Jk xs hl)]
theorem sF {P:D→Prop}(p:dF P){ds:List D}(h:∀x∈ds,P x):(dO ds).length≤ds.length∧∀d∈dO ds,d∈ds:=by
 obtain ⟨h1,h2⟩:=tW p ds h
 refine ⟨?_,fun d hd=>((C7 p h).2 d).mp hd⟩
 show (aQ (dd ds)).length≤_
 rw [iE]
 exact List.Nodup.length_le_of_subset h1 fun d hd=>(h2 d).mp hd
theorem Gq (xs:List D) (k:Nat) (hk:k≤xs.length):cutD xs none (some (k:Int))=xs.take k:=by
 unfold cutD
 rw [HT.vE,HT.xS,Nat.min_eq_left hk]
 simp
theorem BG (xs:List D) (k:Nat) (hk:k≤xs.length):cutD xs (some (k:Int)) none=xs.drop k:=by
 unfold cutD
 rw [HT.vE,HT.xS,Nat.min_eq_left hk]
 rw [List.take_of_length_le (by simp)]
abbrev JK:G O:=(aK (jL (cO 2 (aV (aF 8) (aV (aF 9) cM))) (g2 bg (af 7) (af 5)))
 (aK (aX 10 (gN bG (ao (gN gv (ao (g2 cu (af 9) (bC (aA (af 6) aR))) aE)) aE)))
 (aK (cL (bN (g2 (jm false) (af 6) (af 9))) (aX 10 (gN bG (ao (bH 1 [6] (eY (af 9)) (aF 0) (bN (g2 (cU true) (af 0) (af 1))) (af 0)) aE))) fV)
 (aK (aX 7 (g2 cu (g2 cu (uV oW (af 7) xq (xr (af 5))) (bC (aA (bC (aA (af 8) (aA (af 10) aR))) aR))) (uV oW (af 7) (xr (g2 cu (af 5) (gC (.int 1)))) xq)))
 (aK (cL (bN (xo "tuple" (af 6))) (bU (bC (aA (af 2) (aA (af 3) (aA (af 7) aR))))) fV)
 (bU (bC (aA (af 2) (aA (af 7) (aA (af 4) aR))))))))))
abbrev cZ {α:Type}(h:α→D) (r:Str×List α):D:=.tup [.str r.1,.tup (r.2.map h)]
structure zF {α:Type}(P:α→Prop) (n:Nat) (L:List (Str×List α)):Prop where
 all:∀r∈L,r.2.length≤n∧∀p∈r.2,P p
theorem rP {α:Type}(h:α→D) (P:α→Prop) (n:Nat) (hn:n≤40) (hd:∀x,dep (h x)≤1) (b:Bool) (hb:∀x,nO (kg (h x)) "tuple"=b)
  (hs:∀xs:List α,xs.length < 64→∃ys:List α,gv [.d (.tup (xs.map h))]=.ok (.l .fresh (ys.map h))∧ys.length≤xs.length∧∀y∈ys,y∈xs)
  (L:List (Str×List α)) (hL:zF P n L) (l3:L.length≤3) (k:Nat) (hk:k < L.length) (th:α) (ht:P th) (w c:Option S) (m:D) (ms ar:D):
  ∃L':List (Str×List α),zF P (n + 1) L'∧L'.length=L.length∧JK [w,c,some (.d m),some (.d ms),some (.d ar),some (.d (.int k)),some (.d (h th)),some (.d (.tup (L.map (cZ h)))),none,none,none]=.ok (.rt (.d (if b=true then .tup [m,ms,.tup (L'.map (cZ h))] else .tup [m,.tup (L'.map (cZ h)),ar]))):=by
 obtain ⟨a1,a2⟩:=hL.all L[k] (List.getElem_mem hk)
 obtain ⟨ys,e1,e2,e3⟩:=hs (L[k].2++[th]) (by simp;omega)
 rw [List.length_append] at e2
 have e2:ys.length≤n + 1:=by simp at e2;omega
 have e3:∀y∈ys,P y:=fun y hy=>by
  rcases List.mem_append.mp (e3 y hy) with h | h
  ·exact a2 y h
  ·rw [List.mem_singleton.mp h];exact ht
 have dp:deps (L[k].2.map h)≤60:=fm fun d hd'=>by
  obtain ⟨x,_,rfl⟩:=List.mem_map.mp hd'
  have:=hd x;omega
 have dt:=hd th
 have nx:∃now:List α,now.length≤n + 1∧(∀y∈now,P y)∧∀(Q:O→Prop) (u:G O),Wp (u [w,c,some (.d m),some (.d ms),some (.d ar),some (.d (.int k)),some (.d (h th)),some (.d (.tup (L.map (cZ h)))),some (.d (.str L[k].1)),some (.d (.tup (L[k].2.map h))),some (.d (.tup (now.map h)))]) Q→
   Wp (aK (cL (bN (g2 (jm false) (af 6) (af 9))) (aX 10 (gN bG (ao (bH 1 [6] (eY (af 9)) (aF 0) (bN (g2 (cU true) (af 0) (af 1))) (af 0)) aE))) fV) u [w,c,some (.d m),some (.d ms),some (.d ar),some (.d (.int k)),some (.d (h th)),some (.d (.tup (L.map (cZ h)))),some (.d (.str L[k].1)),some (.d (.tup (L[k].2.map h))),some (.d (.tup (ys.map h)))]) Q:=by
  have hin:bN (g2 (jm false) (af 6) (af 9)) [w,c,some (.d m),some (.d ms),some (.d ar),some (.d (.int k)),some (.d (h th)),some (.d (.tup (L.map (cZ h)))),some (.d (.str L[k].1)),some (.d (.tup (L[k].2.map h))),some (.d (.tup (ys.map h)))]=.ok (inD (h th) (L[k].2.map h)):=by
   show (g2 _ _ _ _ >>= _)=_
   rw [two (x:=.d (h th)) rfl rfl (yI false _ _ dp (by omega))]
   rfl
  cases q:inD (h th) (L[k].2.map h) with
  | true=>
   rw [q] at hin
   refine ⟨L[k].2.filter (fun x=>!bh (h x) (h th)),Nat.le_trans (List.length_filter_le _ _) (by omega),fun y hy=>a2 y (List.mem_filter.mp hy).1,fun Q u hu=>?_⟩
   refine cJ (gF hin (iM (n1 (yv (xs:=L[k].2) (h:=h) (fun x=>!bh (h x) (h th)) h rfl (by omega) fun x _=>⟨?_,fun _=>⟨_,rfl,rfl⟩⟩) rfl) rfl hu))
   have:=hd x
   show (g2 _ _ _ _ >>= _)=_
   rw [two (x:=.d (h x)) (y:=.d (h th)) rfl rfl (nT _ _ _ (by show dep (h x)≤60;omega) (by show dep (h th)≤60;omega))]
   rfl
  | false=>
   rw [q] at hin
   exact ⟨ys,e2,e3,fun Q u hu=>eV hin hu⟩
 obtain ⟨now,n1',n2,n3⟩:=nx
 refine ⟨L.take k++[(L[k].1,now)]++L.drop (k + 1),⟨fun r hr=>?_⟩,?_,?_⟩
 ·simp only [List.mem_append,List.mem_singleton] at hr
  rcases hr with (hr | hr) | hr
  ·have:=hL.all r (List.mem_of_mem_take hr)
   exact ⟨by omega,this.2⟩
  ·rw [hr];exact ⟨n1',n2⟩
  ·have:=hL.all r (List.mem_of_mem_drop hr)
   exact ⟨by omega,this.2⟩
 ·simp;omega
 ·have ix:bg (.d (.tup (L.map (cZ h)))) (.d (.int k))=.ok (.d (cZ h L[k])):=jy (by rw [List.getElem?_map,List.getElem?_eq_getElem hk];rfl)
  have hc1:cu (.d (.tup ((L.map (cZ h)).take k))) (.d (.tup [cZ h (L[k].1,now)]))=.ok (.d (.tup ((L.map (cZ h)).take k++[cZ h (L[k].1,now)]))):=lU _ _ (by simp;omega)
  have hc2:cu (.d (.tup ((L.map (cZ h)).take k++[cZ h (L[k].1,now)]))) (.d (.tup ((L.map (cZ h)).drop (k + 1))))=.ok (.d (.tup ((L.map (cZ h)).take k++[cZ h (L[k].1,now)]++(L.map (cZ h)).drop (k + 1)))):=lU _ _ (by simp;omega)
  have hm:(L.map (cZ h)).take k++[cZ h (L[k].1,now)]++(L.map (cZ h)).drop (k + 1)=(L.take k++[(L[k].1,now)]++L.drop (k + 1)).map (cZ h):=by
   rw [List.map_append,List.map_append,List.map_take,List.map_drop];rfl
  rw [hm] at hc2
  refine Wp.eq (qw (two rfl rfl ix) rfl rfl (bq (n1 (n1 (two rfl (bx (aD rfl rfl bw) (by show 1≤1000;decide)) (lU _ _ (by simp;omega))) (by rw [show L[k].2.map h++[h th]=(L[k].2++[th]).map h by rw [List.map_append];rfl];exact e1)) rfl) rfl (n3 _ _ ?_)))
  refine bq (two (x:=.d (.tup ((L.map (cZ h)).take k++[cZ h (L[k].1,now)]))) (y:=.d (.tup ((L.map (cZ h)).drop (k + 1)))) (two (x:=.d (.tup ((L.map (cZ h)).take k))) ?_ (bx (aD (bx (aD rfl rfl (aD rfl rfl bw)) t2) rfl bw) (by show 1≤1000;decide)) hc1) ?_ hc2) rfl ?_
  ·show M.ok (R.d (.tup (cutD (L.map (cZ h)) none (some (k:Int)))))=_
   rw [Gq _ _ (by simp;omega)]
  ·show M.ok (R.d (.tup (cutD (L.map (cZ h)) (some ((k:Int) + 1)) none)))=_
   rw [show ((k:Int) + 1)=((k + 1:Nat):Int) by omega,BG _ _ (by simp;omega)]
  ·have hb':=hb th
   cases b with
   | true=>exact cJ (gF (by show M.ok (nO (kg (h th)) "tuple")=_;rw [hb']) (bT (bx (aD rfl rfl (aD rfl rfl (aD rfl rfl bw))) (by show 3≤1000;decide)) rfl rfl))
   | false=>exact eV (by show M.ok (nO (kg (h th)) "tuple")=_;rw [hb']) (bT (bx (aD rfl rfl (aD rfl rfl (aD rfl rfl bw))) (by show 3≤1000;decide)) rfl rfl)
theorem Lm (xs:List Nat) (hl:xs.length < 64):∃ys:List Nat,gv [.d (.tup (xs.map dN))]=.ok (.l .fresh (ys.map dN))∧ys.length≤xs.length∧∀y∈ys,y∈xs:=by
 obtain ⟨h1,h2⟩:=sF (gO .i) (ds:=xs.map dN) fun d hd=>by obtain ⟨x,_,rfl⟩:=List.mem_map.mp hd;exact ⟨_,rfl⟩
 refine ⟨(dO (xs.map dN)).map oQ,?_,by simpa using h1,fun y hy=>?_⟩
 ·rw [K0 xs hl,back dN oQ zm fun d hd=>by obtain ⟨x,_,rfl⟩:=List.mem_map.mp (h2 d hd);exact ⟨x,rfl⟩]
 ·obtain ⟨d,hd,rfl⟩:=List.mem_map.mp hy
  obtain ⟨x,hx,rfl⟩:=List.mem_map.mp (h2 d hd)
  exact hx
theorem Ln (xs:List (Nat×Nat)) (hl:xs.length < 64):∃ys:List (Nat×Nat),gv [.d (.tup (xs.map dP))]=.ok (.l .fresh (ys.map dP))∧ys.length≤xs.length∧∀y∈ys,y∈xs:=by
 obtain ⟨h1,h2⟩:=sF (gO pF) (ds:=xs.map dP) fun d hd=>by obtain ⟨x,_,rfl⟩:=List.mem_map.mp hd;exact uY x
 refine ⟨(dO (xs.map dP)).map sN,?_,by simpa using h1,fun y hy=>?_⟩
 ·rw [K1 xs hl,back dP sN zo fun d hd=>by obtain ⟨x,_,rfl⟩:=List.mem_map.mp (h2 d hd);exact ⟨x,rfl⟩]
 ·obtain ⟨d,hd,rfl⟩:=List.mem_map.mp hy
  obtain ⟨x,hx,rfl⟩:=List.mem_map.mp (h2 d hd)
  exact hx
theorem vc {i:Int}(h:0≤i):∃k:Nat,i=k:=⟨i.toNat,by omega⟩
structure Gb (n:Nat) (w u:Wd):Prop where
 ok:fk u
 inn:rG n u
 m:u.m=w.m
 ml:u.ms.length=w.ms.length
 al:u.ar.length=w.ar.length
theorem rE (w:Wd) (hw:fk w) (n:Nat) (hn:n≤40) (hb:rG n w) (c:Int) (hc:0≤c):∃u:Wd,eH [.d w.d,.d (.int c)]=.ok (.d u.d)∧Gb (n + 1) w u:=by
 have ml:=hw.ml
 have al:=hw.al
 have lo:=hw.lo
 have key:Wp (eH [.d w.d,.d (.int c)]) fun r=>∃u:Wd,r=.d u.d∧Gb (n + 1) w u:=by
  refine lW (qw rfl rfl rfl ?_)
  have hadd:cu (.d (.int ((w.ms.map e_).length:Nat))) (.d (.int ((w.ar.map gx).length:Nat)))=.ok (.d (.int ((w.ms.length + w.ar.length:Nat):Int))):=by rw [fp,List.length_map,List.length_map,←Int.natCast_add]
  by_cases c0:w.ms.length + w.ar.length=0
  ·refine cJ (gF ?_ (bT rfl rfl ⟨_,rfl,w,rfl,hw,⟨fun r hr=>⟨by have:=(hb.mp r hr).1;omega,(hb.mp r hr).2⟩,fun r hr=>⟨by have:=(hb.ap r hr).1;omega,(hb.ap r hr).2⟩⟩,rfl,rfl,rfl⟩))
   show (g2 _ _ _ _ >>= _)=_
   rw [two (two (n1 rfl rfl) (n1 rfl rfl) hadd) rfl (eq_int _ _ _),c0]
   rfl
  ·have hs:(0:Int) < ((w.ms.length + w.ar.length:Nat):Int):=by omega
   have hm:(0:Int) < (w.m:Int):=by omega
   refine eV ?_ (bq (two rfl (two (n1 rfl rfl) (n1 rfl rfl) hadd) (gM _ _ hs)) rfl (bq (two (two rfl rfl (lV _ 6 (by decide) (by decide))) rfl (gM _ _ hm)) rfl (bq rfl rfl ?_)))
   ·show (g2 _ _ _ _ >>= _)=_
    rw [two (two (n1 rfl rfl) (n1 rfl rfl) hadd) rfl (eq_int _ _ _)]
    show M.ok ((((w.ms.length + w.ar.length:Nat):Int)) == 0)=_
    rw [beq_eq_false_iff_ne.mpr (by omega)]
   obtain ⟨k,hk⟩:=vc (Int.emod_nonneg c (b:=((w.ms.length + w.ar.length:Nat):Int)) (by omega))
   have hkl:=Int.emod_lt_of_pos c hs
   obtain ⟨p,hp⟩:=vc (Int.emod_nonneg (c / 6) (b:=(w.m:Int)) (by omega))
   have hpl:=Int.emod_lt_of_pos (c / 6) hm
   obtain ⟨q,hq⟩:=vc (Int.emod_nonneg (c / 48) (b:=(w.m:Int)) (by omega))
   have hql:=Int.emod_lt_of_pos (c / 48) hm
   rw [hk] at hkl
   rw [hp] at hpl
   rw [hq] at hql
   rw [hk,hp]
   by_cases ck:k < w.ms.length
   ·obtain ⟨L',o1,o2,o3⟩:=rP dN (fun p=>p < w.m) n hn (fun _=>Nat.zero_le _) false (fun _=>rfl) Lm w.ms ⟨hb.mp⟩ ml k ck p (by show p < w.m;omega) (some (.d w.d)) (some (.d (.int c))) (.int w.m) (.tup (w.ms.map e_)) (.tup (w.ar.map gx))
    refine eV ?_ (Wp.of o3 ⟨_,rfl,⟨w.m,L',w.ar⟩,rfl,⟨lo,hw.hi,by show L'.length≤3;omega,al⟩,⟨o1.all,fun r hr=>⟨by have:=(hb.ap r hr).1;omega,(hb.ap r hr).2⟩⟩,rfl,o2,rfl⟩)
    show M.ok (decide ((((w.ms.map e_).length:Nat):Int)≤(k:Int)))=_
    rw [decide_eq_false (by simp;omega)]
   ·obtain ⟨L',o1,o2,o3⟩:=rP dP (fun p=>p.1 < w.m∧p.2 < w.m) n hn (fun _=>(by decide:(1:Nat)≤1)) true (fun _=>rfl) Ln w.ar ⟨hb.ap⟩ al (k - w.ms.length) (by omega) (p,q) (by show p < w.m∧q < w.m;omega) (some (.d w.d)) (some (.d (.int c))) (.int w.m) (.tup (w.ms.map e_)) (.tup (w.ar.map gx))
    refine cJ (gF ?_ (bq (x:=.d (.int ((k - w.ms.length:Nat):Int))) (two rfl (n1 rfl rfl) rfl) ?_ (bq (x:=.d (dP (p,q))) (bx (aD rfl rfl (aD (two (two rfl rfl (lV _ 48 (by decide) (by decide))) rfl (gM _ _ hm)) rfl bw)) t2) ?_ (iM rfl rfl (Wp.of o3 ⟨_,rfl,⟨w.m,w.ms,L'⟩,rfl,⟨lo,hw.hi,ml,by show L'.length≤3;omega⟩,⟨fun r hr=>⟨by have:=(hb.mp r hr).1;omega,(hb.mp r hr).2⟩,o1.all⟩,rfl,rfl,o2⟩)))))
    ·show M.ok (decide ((((w.ms.map e_).length:Nat):Int)≤(k:Int)))=_
     rw [decide_eq_true (by simp;omega)]
    ·show M.ok (S.d (.int ((k:Int) - (((w.ms.map e_).length:Nat):Int))))=_
     rw [List.length_map,show (k:Int) - (w.ms.length:Int)=((k - w.ms.length:Nat):Int) by omega]
    ·show M.ok (S.d (.tup [.int p,.int (c / 48 % w.m)]))=_
     rw [hq]
 obtain ⟨_,h,u,rfl,hu⟩:=key
 exact ⟨u,h,hu⟩
theorem Fe {m:Nat}{ps:List (Nat×Nat)}(h:pC m ps) (hm:m≤4):ps.length≤16:=by
 obtain ⟨_,h2,h3⟩:=h
 have nd:ps.Nodup:=h2.imp fun {a b} hab e=>by subst e;unfold Kg at hab;omega
 have sub:∀p∈ps,p∈(List.range 16).map fun k=>(k / 4,k % 4):=fun p hp=>by
  obtain ⟨a,b⟩:=h3 p hp
  refine List.mem_map.mpr ⟨p.1 * 4 + p.2,by rw [List.mem_range];omega,?_⟩
  obtain ⟨x,y⟩:=p
  simp only at a b ⊢
  rw [Prod.mk.injEq]
  omega
 have:=List.Nodup.length_le_of_subset nd sub
 simpa using this
theorem IW (ns:List Int) (sz:List Nat) (hz:sz.length=8) (hs:∀n∈sz,1≤n∧n≤4):∃v w:Wd,ja [.bor (ns.map D.int),.bor (sz.map dN)]=.ok (.d (.tup [v.d,w.d]))∧jl v w∧v.m≤4:=by
 have c0:=K51.jI ns 0
 have c1':=K51.jI ns 1
 have c2':=K51.jI ns 2
 have c9:=K51.jI ns 9
 have c10:=K51.jI ns 10
 have key:Wp (ja [.bor (ns.map D.int),.bor (sz.map dN)]) fun r=>∃v w:Wd,r=.d (.tup [v.d,w.d])∧jl v w∧v.m≤4:=by
  refine lW (bq (c2 rfl rfl (K51.zw ns 0)) rfl (bq (c2 rfl rfl (gy ns _ 1 rfl)) rfl ?_))
  obtain ⟨a,ha,ea⟩:=kL (xs:=[1,0,2,3]) (h:=dN) (.l .fresh ([1,0,2,3].map dN)) rfl (K51.cT ns 1 % 4) (by omega) (by show _ < (4:Int);omega)
  obtain ⟨b,hb,eb⟩:=kL (xs:=[1,2,0,1,3]) (h:=dN) (.l .fresh ([1,2,0,1,3].map dN)) rfl (K51.cT ns 1 / 4 % 5) (by omega) (by show _ < (5:Int);omega)
  have ha:a≤3:=by simp at ha;omega
  have hb:b≤3:=by simp at hb;omega
  obtain ⟨A,hA,lA⟩:=K51.wU (K51.cT ns 1 / 20) (by omega) a ha
  obtain ⟨B,hB,lB⟩:=K51.wU (K51.cT ns 2) (by omega) b hb
  refine bq (c2 rfl (two (qe rfl (by show 4≤1000;decide)) rfl ea) hA) rfl ?_
  refine cJ (DK rfl (iM (bx (aD rfl rfl (aD (c2 (c2 rfl rfl (gy ns _ 2 rfl)) (two (qe rfl (by show 5≤1000;decide)) rfl eb) hB) rfl bw)) (by show 2≤1000;decide)) rfl ?_))
  have mk:∀(m:Nat),1≤m∧m≤4→∀(j:Nat),∃w:Wd,K51.eX [.d (.tup [.lst (A.map .str),.lst (B.map .str)]),.d (.int m),.bor ((List.range 6).map fun k=>.int (K51.cT ns (j + k)))]=.ok (.d w.d)∧fk w∧rG 16 w∧w.m=m∧w.ms.length=a∧w.ar.length=b:=fun m hm j=>by
   obtain ⟨ms,rs,hw,h1,h2,h3,h4⟩:=K51.F_ m hm.1 (by omega) A B (by omega) (by omega) ((List.range 6).map fun k=>K51.cT ns (j + k)) rfl
   rw [List.map_map] at hw
   have l1:=congrArg List.length h1
   have l2:=congrArg List.length h2
   rw [List.length_map] at l1 l2
   exact ⟨⟨m,ms,rs⟩,hw,⟨hm.1,by show m≤8;omega,by show ms.length≤3;omega,by show rs.length≤3;omega⟩,⟨fun r hr=>⟨by have:=(h3 r hr).1;omega,(h3 r hr).2.2⟩,fun r hr=>⟨Fe (h4 r hr) hm.2,(h4 r hr).2.2⟩⟩,rfl,by show ms.length=a;omega,by show rs.length=b;omega⟩
  obtain ⟨m,hm,em⟩:=kL (xs:=sz) (h:=dN) (.l .bor (sz.map dN)) rfl (K51.cT ns 0 % 8) (by omega) (by omega)
  obtain ⟨v,hv,vo,vb,vm,vl,va⟩:=mk m (hs m hm) 3
  refine bq (c3 rfl (two rfl rfl em) (jJ (xs:=List.range 6) (h:=dN) (fun k=>.int (K51.cT ns (3 + k))) (vC rfl (by decide)) (by decide) fun k hk=>⟨_,c2 rfl (two rfl rfl (qD _ _)) (gy ns _ (3 + k) (by simp)),rfl⟩) hv) rfl ?_
  refine bq (two (two rfl rfl (lV _ 8 (by decide) (by decide))) rfl (gM _ 4 (by decide))) rfl ?_
  have up:∀{n:Nat}{w:Wd},n≤30→rG n w→Ga w:=fun hn h=>⟨fun r hr=>⟨by have:=(h.mp r hr).1;omega,(h.mp r hr).2⟩,fun r hr=>⟨by have:=(h.ap r hr).1;omega,(h.ap r hr).2⟩⟩
  have vm4:=(hs m hm).2
  have hw2:=Int.emod_nonneg (K51.cT ns 0 / 8) (b:=4) (by decide)
  have hw3:=Int.emod_lt_of_pos (K51.cT ns 0 / 8) (b:=4) (by decide)
  generalize K51.cT ns 0 / 8 % 4=wy at hw2 hw3
  by_cases cw:wy=0
  ·subst cw
   obtain ⟨m2,hm2,em2⟩:=kL (xs:=sz) (h:=dN) (.l .bor (sz.map dN)) rfl (K51.cT ns 0 / 32 % 8) (by omega) (by omega)
   obtain ⟨w,hw,wo,wb,wm,wl,wa⟩:=mk m2 (hs m2 hm2) 9
   have:=(hs m2 hm2).2
   exact cJ (gF rfl (bT (bx (aD rfl rfl (aD (c3 rfl (two rfl (two (two rfl rfl (lV _ 32 (by decide) (by decide))) rfl (gM _ 8 (by decide))) em2) (jJ (xs:=List.range 6) (h:=dN) (fun k=>.int (K51.cT ns (9 + k))) (vC rfl (by decide)) (by decide) fun k hk=>⟨_,c2 rfl (two rfl rfl (qD _ _)) (gy ns _ (9 + k) (by simp)),rfl⟩) hw) rfl bw)) t2) rfl ⟨_,rfl,v,w,rfl,⟨vo,wo,up (by decide) vb,up (by decide) wb,by omega,by omega,by omega⟩,by omega⟩))
  ·refine eV ?_ ?_
   ·show M.ok (wy == 0)=_
    rw [beq_eq_false_iff_ne.mpr cw]
   obtain ⟨ps,hps,lps,pps⟩:=DP (K51.cT ns 15) v.m vo.hi
   have ht:=Br v vo 16 (by decide) vb ps lps
   obtain ⟨to,tb,tm,tl,ta⟩:=J6 v vo 16 vb ps lps pps
   refine bq (c2 rfl (c2 (c2 rfl rfl (gy ns _ 15 rfl)) (two rfl rfl (jM _ _)) hps) ht) rfl ?_
   obtain ⟨u1,f1,k1⟩:=rE (qF v ps) to 16 (by decide) tb (K51.cT ns 9) c9
   obtain ⟨u2,f2,k2⟩:=rE u1 k1.ok 17 (by decide) k1.inn (K51.cT ns 10) c10
   have a1:=k1.m
   have a2:=k1.ml
   have a3:=k1.al
   have b1:=k2.m
   have b2:=k2.ml
   have b3:=k2.al
   have w3:wy=1∨wy=2∨wy=3:=by omega
   rcases w3 with rfl | rfl | rfl
   ·exact eV rfl (eV rfl (bT (bx (aD rfl rfl (aD rfl rfl bw)) t2) rfl ⟨_,rfl,v,qF v ps,rfl,⟨vo,to,up (by decide) vb,up (by decide) tb,by omega,by omega,by omega⟩,by omega⟩))
   ·exact cJ (gF rfl (iM (c2 rfl (c2 rfl rfl (gy ns _ 9 rfl)) f1) rfl (eV rfl (bT (bx (aD rfl rfl (aD rfl rfl bw)) t2) rfl ⟨_,rfl,v,u1,rfl,⟨vo,k1.ok,up (by decide) vb,up (by decide) k1.inn,by omega,by omega,by omega⟩,by omega⟩))))
   ·exact cJ (gF rfl (iM (c2 rfl (c2 rfl rfl (gy ns _ 9 rfl)) f1) rfl (cJ (gF rfl (iM (c2 rfl (c2 rfl rfl (gy ns _ 10 rfl)) f2) rfl (bT (bx (aD rfl rfl (aD rfl rfl bw)) t2) rfl ⟨_,rfl,v,u2,rfl,⟨vo,k2.ok,up (by decide) vb,up (by decide) k2.inn,by omega,by omega,by omega⟩,by omega⟩))))))
 obtain ⟨_,h,v,w,rfl,hk⟩:=key
 exact ⟨v,w,h,hk⟩
theorem jl.symm {v w:Wd}(t:jl v w):jl w v:=⟨t.wo,t.vo,t.wb,t.vb,t.ml.symm,t.al.symm,by have:=t.hi;omega⟩
theorem jl.self {v w:Wd}(t:jl v w) (h:v.m≤4):jl v v:=⟨t.vo,t.vo,t.vb,t.vb,rfl,rfl,by omega⟩
theorem yM (w:Wd) (hw:fk w) (d:Nat) (hd:d≤6):dep (aS w d [])≤60:=by
 have:=GQ w hw d [] hd (by decide)
 omega
theorem kT (w:Wd) (hw:fk w) (d:Nat) (hd:d≤6):gS (KT (.hom .b) d) (aS w d []):=lG w hw d [] (.hom .b) (by simp;omega) ⟨[],rfl,by decide,fun _ h=>by cases h⟩
theorem jS {env:Ev}{f:R→R→M R}{g h:G R}{x y:R}{b:Bool}(hx:g env=.ok x) (hy:h env=.ok y) (hf:f x y=.ok (.d (.bl b))):bN (g2 f g h) env=.ok b:=by
 show (g2 f g h env >>= _)=_
 rw [two hx hy hf]
 rfl
theorem yS {env:Ev}{a b:G Bool}{k:Bool}(h1:a env=.ok false) (h2:b env=.ok k):mw a b env=.ok k:=by
 unfold mw
 rw [h1]
 exact h2
theorem G7 {env:Ev}{a b:G Bool}(h1:a env=.ok true):mw a b env=.ok true:=by
 unfold mw
 rw [h1]
 rfl
theorem DO (d:Nat) (hd:d≤6):K55.i9 [.d (.int d),.d (.int 0),.d (.int 6)]=.ok (.d .non):=by
 refine IV (GY ?_ (u6 ⟨_,rfl⟩))
 show (if decide ((d:Int) < 0)=true then M.ok true else M.ok (decide ((6:Int) < d)))=M.ok false
 rw [decide_eq_false (show ¬(d:Int) < 0 by omega),decide_eq_false (show ¬(6:Int) < d by omega)]
 rfl
theorem ku (w:Wd) (hw:fk w) (d:Nat) (hd:d≤6) (hp:w.m ^ d≤600):K55.i8 [.d w.d,.d (.int d),.d .non]=.ok (.d (aS w d [])):=by
 refine dI (D7 (c3 rfl rfl rfl (DO d hd)) (bq (c2 (two rfl rfl (jM _ _)) rfl (DQ w.m d hw.hi hd)) rfl (eV (b:=bN _) (show M.ok (decide ((600:Int) < ((w.m ^ d:Nat):Int)))=.ok false from ?_) ?_)))
 ·rw [decide_eq_false (by omega)]
 ·exact bT (c3 rfl rfl rfl (ud w hw 10 d [] (by omega) hd (by simp;omega))) rfl rfl
theorem yp (v w:Wd):(bL w v).m=w.m + v.m:=rfl
theorem EA (ns:List Int) (h:ns.length≤63):qG [.bor (ns.map .int)]=.ok (.d (.bl true)):=by
 obtain ⟨v,w,hw,t,v4⟩:=IW ns [2,3,1,2,1,3,2,4] rfl (by decide)
 have hi:=t.hi
 have vlo:=t.vo.lo
 have wlo:=t.wo.lo
 refine dI (qw (c2 rfl (qe rfl (by show 8≤1000;decide)) hw) rfl rfl ?_)
 have hc:=K51.gy ns 16 16 rfl
 refine bq (c2 rfl rfl hc) rfl ?_
 generalize K51.cT ns 16=c
 obtain ⟨mo,hmo,h1,h6⟩:∃mo:Nat,bg (.l .fresh [.int 130,.int 600]) (.d (.int (if c / 7 % 8 == 1 then 1 else 0)))=.ok (.d (.int mo))∧1≤mo∧mo≤600:=by
  cases c / 7 % 8 == 1 with
  | true=>exact ⟨600,rfl,by decide,by decide⟩
  | false=>exact ⟨130,rfl,by decide,by decide⟩
 obtain ⟨d,hd,d6,dp⟩:=K51.FW c (v.m + w.m) (by omega) hi mo h1
 have hd':K51.gA [.d (.int c),.d (.int ((v.m:Int) + (w.m:Int))),.d (.int mo)]=.ok (.d (.int d)):=by rw [←Int.natCast_add];exact hd
 refine bq (c3 rfl (two (two rfl rfl (jM _ _)) (two rfl rfl (jM _ _)) (qD _ _)) (two (qe rfl t2) (n1 (two (two (two rfl rfl (lV _ 7 (by decide) (by decide))) rfl (gM _ 8 (by decide))) rfl (eq_int _ _ _)) rfl) hmo) hd') rfl ?_
 have pv:v.m ^ d≤600:=Nat.le_trans (Nat.pow_le_pow_left (by omega) d) (Nat.le_trans dp h6)
 have pw:w.m ^ d≤600:=Nat.le_trans (Nat.pow_le_pow_left (by omega) d) (Nat.le_trans dp h6)
 have pb:(bL v w).m ^ d≤600:=Nat.le_trans dp h6
 have pb':(bL w v).m ^ d≤600:=by rw [yp,Nat.add_comm];exact Nat.le_trans dp h6
 have ts:=t.symm
 have kv:=ku v t.vo d d6 pv
 have kw:=ku w t.wo d d6 pw
 refine bq (c2 rfl rfl kv) rfl (bq (c2 rfl rfl kw) rfl (bq (c2 rfl rfl (yb t d d6)) rfl (bq (c2 rfl rfl (yb ts d d6)) rfl ?_)))
 have q1:=yM (bL v w) (kD t) d d6
 have q2:=yM (bL w v) (kD ts) d d6
 have q3:=yM v t.vo d d6
 have q4:=yM w t.wo d d6
 have ne:∀(x:D),dep x≤60→cU true (.d x) (.d x)=.ok (.d (.bl false)):=fun x hx=>by
  rw [nT true (.d x) (.d x) hx hx]
  show M.ok (R.d (.bl (!bh x x)))=_
  rw [iX]
  rfl
 refine eV (yS (jS rfl (c2 (c2 rfl rfl (ue t)) rfl (ku _ (kD t) d d6 pb)) (ne _ q1)) (jS rfl (c2 (c2 rfl rfl (ue ts)) rfl (ku _ (kD ts) d d6 pb')) (ne _ q2))) ?_
 have hpw:=K51.uf (2 * v.m) d (by omega) d6
 have hpw':K51.dw [.d (.int (2 * (v.m:Int))),.d (.int d)]=.ok (.d (.int (((2 * v.m) ^ d:Nat):Int))):=by
  rw [←hpw,Int.natCast_mul];rfl
 by_cases ce:aS v d []=aS w d []
 ·have e1:cU true (.d (aS v d [])) (.d (aS w d []))=.ok (.d (.bl false)):=by rw [←ce];exact ne _ q3
  have tt:=t.self v4
  by_cases cp:130 < (2 * v.m) ^ d
  ·refine cJ (gF (yS (jS rfl rfl e1) (jS (c2 (two rfl (two rfl rfl (jM _ _)) (vU _ _ (by decide) (by decide))) rfl hpw') rfl ?_)) (bT rfl rfl rfl))
   show M.ok (R.d (.bl (decide ((130:Int) < (((2 * v.m) ^ d:Nat):Int)))))=_
   rw [decide_eq_true (by omega)]
  ·refine eV (yS (jS rfl rfl e1) (jS (c2 (two rfl (two rfl rfl (jM _ _)) (vU _ _ (by decide) (by decide))) rfl hpw') rfl ?_)) ?_
   ·show M.ok (R.d (.bl (decide ((130:Int) < (((2 * v.m) ^ d:Nat):Int)))))=_
    rw [decide_eq_false (by omega)]
   have pbb:(bL v v).m ^ d≤600:=by
    show (v.m + v.m) ^ d≤600
    rw [show v.m + v.m=2 * v.m by omega];omega
   have b1:=yb t d d6
   have b2:=yb tt d d6
   rw [←ce,b2] at b1
   simp only [M.ok.injEq,DL.R.d.injEq] at b1
   refine bT (two rfl (c2 (c2 rfl rfl (ue tt)) rfl (ku _ (kD tt) d d6 pbb)) (nT _ _ _ q1 (by rw [b1];exact q1))) rfl ?_
   show O.rt (.d (.bl (bh (aS (bL v w) d []) (aS (bL v v) d []))))=_
   rw [b1,iX]
 ·refine cJ (gF (G7 (jS (b:=true) rfl rfl ?_)) (bT rfl rfl rfl))
  show cU true (.d (aS v d [])) (.d (aS w d []))=_
  rw [nT true (.d (aS v d [])) (.d (aS w d [])) q3 q4]
  show M.ok (R.d (.bl (!bh (aS v d []) (aS w d []))))=_
  cases q:bh (aS v d []) (aS w d []) with
  | true=>exact absurd (((ua (KT (.hom .b) d)).eq _ _ (kT v t.vo d d6) (kT w t.wo d d6)).mp q) ce
  | false=>rfl
end K55
namespace K55
open PySem PySem.Spec PyProof.Rows L2 DL DX
theorem all_mk {l:PySem.W.OpenLaw}{w:World}{K:PySem.W.Frag}{h:Heap}{mg:Str→Option Value}{fa:Addr}(X:K.In h) (G:h.Ns mainGlobals mg) (hfa:mg "law"=some (.ref fa))
  {f0:Addr}{od0 an0:Option Addr}{sl0:Array (Option Value)}{oc0 kV0 dc0 pm0 cd0 ct0:Value}
  {f1:Addr}{od1 an1:Option Addr}{sl1:Array (Option Value)}{oc1 kV1 dc1 pm1 cd1 ct1:Value}
  {f2:Addr}{od2 an2:Option Addr}{sl2:Array (Option Value)}{oc2 kV2 dc2 pm2 cd2 ct2:Value}
  {f3:Addr}{od3 an3:Option Addr}{sl3:Array (Option Value)}{oc3 kV3 dc3 pm3 cd3 ct3:Value}
  {f4:Addr}{od4 an4:Option Addr}{sl4:Array (Option Value)}{oc4 kV4 dc4 pm4 cd4 ct4:Value}
  {f5:Addr}{od5 an5:Option Addr}{sl5:Array (Option Value)}{oc5 kV5 dc5 pm5 cd5 ct5:Value}
  {T6:Addr}{oT6:Value}{dT6:Option Addr}{nT6:Nat}{sT6:Array (Option Value)}
  {f6:Addr}{od6 an6:Option Addr}{sl6:Array (Option Value)}{oc6 kV6 dc6 pm6 cd6 ct6:Value}
  {f7:Addr}{od7 an7:Option Addr}{sl7:Array (Option Value)}{oc7 kV7 dc7 pm7 cd7 ct7:Value}
  {f8:Addr}{od8 an8:Option Addr}{sl8:Array (Option Value)}{oc8 kV8 dc8 pm8 cd8 ct8:Value}
  {f9:Addr}{od9 an9:Option Addr}{sl9:Array (Option Value)}{oc9 kV9 dc9 pm9 cd9 ct9:Value}
  {f10:Addr}{od10 an10:Option Addr}{sl10:Array (Option Value)}{oc10 kV10 dc10 pm10 cd10 ct10:Value}
  {f11:Addr}{od11 an11:Option Addr}{sl11:Array (Option Value)}{oc11 kV11 dc11 pm11 cd11 ct11:Value}
  {f12:Addr}{od12 an12:Option Addr}{sl12:Array (Option Value)}{oc12 kV12 dc12 pm12 cd12 ct12:Value}
  {f13:Addr}{od13 an13:Option Addr}{sl13:Array (Option Value)}{oc13 kV13 dc13 pm13 cd13 ct13:Value}
  {f14:Addr}{od14 an14:Option Addr}{sl14:Array (Option Value)}{oc14 kV14 dc14 pm14 cd14 ct14:Value}
  {f15:Addr}{od15 an15:Option Addr}{sl15:Array (Option Value)}{oc15 kV15 dc15 pm15 cd15 ct15:Value}
  {f16:Addr}{od16 an16:Option Addr}{sl16:Array (Option Value)}{oc16 kV16 dc16 pm16 cd16 ct16:Value}
  {f17:Addr}{od17 an17:Option Addr}{sl17:Array (Option Value)}{oc17 kV17 dc17 pm17 cd17 ct17:Value}
  {f18:Addr}{od18 an18:Option Addr}{sl18:Array (Option Value)}{oc18 kV18 dc18 pm18 cd18 ct18:Value}
  {f19:Addr}{od19 an19:Option Addr}{sl19:Array (Option Value)}{oc19 kV19 dc19 pm19 cd19 ct19:Value}
  {f20:Addr}{od20 an20:Option Addr}{sl20:Array (Option Value)}{oc20 kV20 dc20 pm20 cd20 ct20:Value}
  {f21:Addr}{od21 an21:Option Addr}{sl21:Array (Option Value)}{oc21 kV21 dc21 pm21 cd21 ct21:Value}
  {f22:Addr}{od22 an22:Option Addr}{sl22:Array (Option Value)}{oc22 kV22 dc22 pm22 cd22 ct22:Value}
  {f23:Addr}{od23 an23:Option Addr}{sl23:Array (Option Value)}{oc23 kV23 dc23 pm23 cd23 ct23:Value}
  {t1:Tok}
  {t2:Tok}
  (a0:PySem.W.nsIn K mainGlobals "is_whole"=some (some (.ref f0)))
  (l0:K.lookup f0=some ⟨oc0,od0,.func (PySem.W.fnOf "is_whole" "is_whole" (aO iD) (aJ iD) (ay iD) .none kV0 dc0 pm0 an0 cd0 ct0),sl0⟩)
  (c0:PySem.W.codeIn K cd0 "is_whole"=true)
  (k0:PySem.W.keepIn K (.ref f0)=true)
  (a1:PySem.W.nsIn K mainGlobals "need_count"=some (some (.ref f1)))
  (l1:K.lookup f1=some ⟨oc1,od1,.func (PySem.W.fnOf "need_count" "need_count" (aO gg) (aJ gg) (ay gg) .none kV1 dc1 pm1 an1 cd1 ct1),sl1⟩)
  (c1:PySem.W.codeIn K cd1 "need_count"=true)
  (k1:PySem.W.keepIn K (.ref f1)=true)
  (a2:PySem.W.nsIn K mainGlobals "power"=some (some (.ref f2)))
  (l2:K.lookup f2=some ⟨oc2,od2,.func (PySem.W.fnOf "power" "power" (aO kW) (aJ kW) (ay kW) .none kV2 dc2 pm2 an2 cd2 ct2),sl2⟩)
  (c2:PySem.W.codeIn K cd2 "power"=true)
  (k2:PySem.W.keepIn K (.ref f2)=true)
  (a3:PySem.W.nsIn K mainGlobals "sorted_once"=some (some (.ref f3)))
  (l3:K.lookup f3=some ⟨oc3,od3,.func (PySem.W.fnOf "sorted_once" "sorted_once" (aO fK) (aJ fK) (ay fK) .none kV3 dc3 pm3 an3 cd3 ct3),sl3⟩)
  (c3:PySem.W.codeIn K cd3 "sorted_once"=true)
  (k3:PySem.W.keepIn K (.ref f3)=true)
  (a4:PySem.W.nsIn K mainGlobals "face_of"=some (some (.ref f4)))
  (l4:K.lookup f4=some ⟨oc4,od4,.func (PySem.W.fnOf "face_of" "face_of" (aO i0) (aJ i0) (ay i0) .none kV4 dc4 pm4 an4 cd4 ct4),sl4⟩)
  (c4:PySem.W.codeIn K cd4 "face_of"=true)
  (k4:PySem.W.keepIn K (.ref f4)=true)
  (a5:PySem.W.nsIn K mainGlobals "kind_of"=some (some (.ref f5)))
  (l5:K.lookup f5=some ⟨oc5,od5,.func (PySem.W.fnOf "kind_of" "kind_of" (aO i6) (aJ i6) (ay i6) .none kV5 dc5 pm5 an5 cd5 ct5),sl5⟩)
  (c5:PySem.W.codeIn K cd5 "kind_of"=true)
  (k5:PySem.W.keepIn K (.ref f5)=true)
  (a6:PySem.W.nsIn K mainGlobals "kind"=some (some (.ref f6)))
  (l6:K.lookup f6=some ⟨oc6,od6,.func (PySem.W.fnOf "kind" "kind" (aO lQ) (aJ lQ) (ay lQ) (.ref T6) kV6 dc6 pm6 an6 cd6 ct6),sl6⟩)
  (c6:PySem.W.codeIn K cd6 "kind"=true)
  (k6:PySem.W.keepIn K (.ref f6)=true)
  (lT6:K.lookup T6=some ⟨oT6,dT6,.seq #[.none] nT6,sT6⟩)
  (a7:PySem.W.nsIn K mainGlobals "depth_of_kind"=some (some (.ref f7)))
  (l7:K.lookup f7=some ⟨oc7,od7,.func (PySem.W.fnOf "depth_of_kind" "depth_of_kind" (aO dY) (aJ dY) (ay dY) .none kV7 dc7 pm7 an7 cd7 ct7),sl7⟩)
  (c7:PySem.W.codeIn K cd7 "depth_of_kind"=true)
  (k7:PySem.W.keepIn K (.ref f7)=true)
  (a8:PySem.W.nsIn K mainGlobals "spread"=some (some (.ref f8)))
  (l8:K.lookup f8=some ⟨oc8,od8,.func (PySem.W.fnOf "spread" "spread" (aO jD) (aJ jD) (ay jD) .none kV8 dc8 pm8 an8 cd8 ct8),sl8⟩)
  (c8:PySem.W.codeIn K cd8 "spread"=true)
  (k8:PySem.W.keepIn K (.ref f8)=true)
  (a9:PySem.W.nsIn K mainGlobals "spread_face"=some (some (.ref f9)))
  (l9:K.lookup f9=some ⟨oc9,od9,.func (PySem.W.fnOf "spread_face" "spread_face" (aO fL) (aJ fL) (ay fL) .none kV9 dc9 pm9 an9 cd9 ct9),sl9⟩)
  (c9:PySem.W.codeIn K cd9 "spread_face"=true)
  (k9:PySem.W.keepIn K (.ref f9)=true)
  (a10:PySem.W.nsIn K mainGlobals "kind_beside"=some (some (.ref f10)))
  (l10:K.lookup f10=some ⟨oc10,od10,.func (PySem.W.fnOf "kind_beside" "kind_beside" (aO fH) (aJ fH) (ay fH) .none kV10 dc10 pm10 an10 cd10 ct10),sl10⟩)
  (c10:PySem.W.codeIn K cd10 "kind_beside"=true)
  (k10:PySem.W.keepIn K (.ref f10)=true)
  (a11:PySem.W.nsIn K mainGlobals "beside_kind"=some (some (.ref f11)))
  (l11:K.lookup f11=some ⟨oc11,od11,.func (PySem.W.fnOf "beside_kind" "beside_kind" (aO fG) (aJ fG) (ay fG) .none kV11 dc11 pm11 an11 cd11 ct11),sl11⟩)
  (c11:PySem.W.codeIn K cd11 "beside_kind"=true)
  (k11:PySem.W.keepIn K (.ref f11)=true)
  (a12:PySem.W.nsIn K mainGlobals "_law_cell"=some (some (.ref f12)))
  (l12:K.lookup f12=some ⟨oc12,od12,.func (PySem.W.fnOf "_law_cell" "_law_cell" (aO gI) (aJ gI) (ay gI) .none kV12 dc12 pm12 an12 cd12 ct12),sl12⟩)
  (c12:PySem.W.codeIn K cd12 "_law_cell"=true)
  (k12:PySem.W.keepIn K (.ref f12)=true)
  (a13:PySem.W.nsIn K mainGlobals "_law_names"=some (some (.ref f13)))
  (l13:K.lookup f13=some ⟨oc13,od13,.func (PySem.W.fnOf "_law_names" "_law_names" (aO fZ) (aJ fZ) (ay fZ) .none kV13 dc13 pm13 an13 cd13 ct13),sl13⟩)
  (c13:PySem.W.codeIn K cd13 "_law_names"=true)
  (k13:PySem.W.keepIn K (.ref f13)=true)
  (a14:PySem.W.nsIn K mainGlobals "_law_bits"=some (some (.ref f14)))
  (l14:K.lookup f14=some ⟨oc14,od14,.func (PySem.W.fnOf "_law_bits" "_law_bits" (aO gH) (aJ gH) (ay gH) .none kV14 dc14 pm14 an14 cd14 ct14),sl14⟩)
  (c14:PySem.W.codeIn K cd14 "_law_bits"=true)
  (k14:PySem.W.keepIn K (.ref f14)=true)
  (a15:PySem.W.nsIn K mainGlobals "_law_world"=some (some (.ref f15)))
  (l15:K.lookup f15=some ⟨oc15,od15,.func (PySem.W.fnOf "_law_world" "_law_world" (aO gf) (aJ gf) (ay gf) .none kV15 dc15 pm15 an15 cd15 ct15),sl15⟩)
  (c15:PySem.W.codeIn K cd15 "_law_world"=true)
  (k15:PySem.W.keepIn K (.ref f15)=true)
  (a16:PySem.W.nsIn K mainGlobals "_law_order"=some (some (.ref f16)))
  (l16:K.lookup f16=some ⟨oc16,od16,.func (PySem.W.fnOf "_law_order" "_law_order" (aO f_) (aJ f_) (ay f_) .none kV16 dc16 pm16 an16 cd16 ct16),sl16⟩)
  (c16:PySem.W.codeIn K cd16 "_law_order"=true)
  (k16:PySem.W.keepIn K (.ref f16)=true)
  (a17:PySem.W.nsIn K mainGlobals "_law_turned"=some (some (.ref f17)))
  (l17:K.lookup f17=some ⟨oc17,od17,.func (PySem.W.fnOf "_law_turned" "_law_turned" (aO fF) (aJ fF) (ay fF) .none kV17 dc17 pm17 an17 cd17 ct17),sl17⟩)
  (c17:PySem.W.codeIn K cd17 "_law_turned"=true)
  (k17:PySem.W.keepIn K (.ref f17)=true)
  (a18:PySem.W.nsIn K mainGlobals "_law_flipped"=some (some (.ref f18)))
  (l18:K.lookup f18=some ⟨oc18,od18,.func (PySem.W.fnOf "_law_flipped" "_law_flipped" (aO eK) (aJ eK) (ay eK) .none kV18 dc18 pm18 an18 cd18 ct18),sl18⟩)
  (c18:PySem.W.codeIn K cd18 "_law_flipped"=true)
  (k18:PySem.W.keepIn K (.ref f18)=true)
  (a19:PySem.W.nsIn K mainGlobals "_law_two"=some (some (.ref f19)))
  (l19:K.lookup f19=some ⟨oc19,od19,.func (PySem.W.fnOf "_law_two" "_law_two" (aO iB) (aJ iB) (ay iB) .none kV19 dc19 pm19 an19 cd19 ct19),sl19⟩)
  (c19:PySem.W.codeIn K cd19 "_law_two"=true)
  (k19:PySem.W.keepIn K (.ref f19)=true)
  (a20:PySem.W.nsIn K mainGlobals "_law_power"=some (some (.ref f20)))
  (l20:K.lookup f20=some ⟨oc20,od20,.func (PySem.W.fnOf "_law_power" "_law_power" (aO gc) (aJ gc) (ay gc) .none kV20 dc20 pm20 an20 cd20 ct20),sl20⟩)
  (c20:PySem.W.codeIn K cd20 "_law_power"=true)
  (k20:PySem.W.keepIn K (.ref f20)=true)
  (a21:PySem.W.nsIn K mainGlobals "_law_deep"=some (some (.ref f21)))
  (l21:K.lookup f21=some ⟨oc21,od21,.func (PySem.W.fnOf "_law_deep" "_law_deep" (aO gJ) (aJ gJ) (ay gJ) .none kV21 dc21 pm21 an21 cd21 ct21),sl21⟩)
  (c21:PySem.W.codeIn K cd21 "_law_deep"=true)
  (k21:PySem.W.keepIn K (.ref f21)=true)
  (a22:PySem.W.nsIn K mainGlobals "_law_beside"=some (some (.ref f22)))
  (l22:K.lookup f22=some ⟨oc22,od22,.func (PySem.W.fnOf "_law_beside" "_law_beside" (aO fE) (aJ fE) (ay fE) .none kV22 dc22 pm22 an22 cd22 ct22),sl22⟩)
  (c22:PySem.W.codeIn K cd22 "_law_beside"=true)
  (k22:PySem.W.keepIn K (.ref f22)=true)
  (a23:PySem.W.nsIn K mainGlobals "law"=some (some (.ref f23)))
  (l23:K.lookup f23=some ⟨oc23,od23,.func (PySem.W.fnOf "law" "law" (aO lR) (aJ lR) (ay lR) .none kV23 dc23 pm23 an23 cd23 ct23),sl23⟩)
  (c23:PySem.W.codeIn K cd23 "law"=true)
  (k23:PySem.W.keepIn K (.ref f23)=true)
  (z0:PySem.W.nsIn K mainGlobals "bool"=some none)
  (z1:PySem.W.nsIn K mainGlobals "enumerate"=some none)
  (z2:PySem.W.nsIn K mainGlobals "int"=some none)
  (z3:PySem.W.nsIn K mainGlobals "isinstance"=some none)
  (z4:PySem.W.nsIn K mainGlobals "len"=some none)
  (z5:PySem.W.nsIn K mainGlobals "list"=some none)
  (z6:PySem.W.nsIn K mainGlobals "range"=some none)
  (z7:PySem.W.nsIn K mainGlobals "set"=some none)
  (z8:PySem.W.nsIn K mainGlobals "sorted"=some none)
  (z9:PySem.W.nsIn K mainGlobals "tuple"=some none)
  (z10:PySem.W.nsIn K mainGlobals "zip"=some none)
  (gMOST_DEPTH:PySem.W.nsIn K mainGlobals "MOST_DEPTH"=some (some (.int 6 t1)))
  (gMOST_POWER:PySem.W.nsIn K mainGlobals "MOST_POWER"=some (some (.int 600 t2))):
  ∃fd:FuncData,(∀(s:Shared) (v:Value),BindsTo s fd ⟨[v],[]⟩ [("_law_script",v)])∧∀base:Heap,K.In base→base.Ns mainGlobals mg→gj l.prog w K mg base lZ 14 fa fd ["_law_script"] (qA K 1 K55.qG):=by
 have e:=hfa.symm.trans (PySem.W.mg_of X G a23)
 cases e
 have F0:=bZ (st:=iD) l0 c0 k0
 have F1:=bZ (st:=gg) l1 c1 k1
 have F2:=bZ (st:=kW) l2 c2 k2
 have F3:=bZ (st:=fK) l3 c3 k3
 have F4:=bZ (st:=i0) l4 c4 k4
 have F5:=bZ (st:=i6) l5 c5 k5
 have F6:=Ei (st:=lQ) l6 c6 k6 lT6
 have F7:=bZ (st:=dY) l7 c7 k7
 have F8:=bZ (st:=jD) l8 c8 k8
 have F9:=bZ (st:=fL) l9 c9 k9
 have F10:=bZ (st:=fH) l10 c10 k10
 have F11:=bZ (st:=fG) l11 c11 k11
 have F12:=bZ (st:=gI) l12 c12 k12
 have F13:=bZ (st:=fZ) l13 c13 k13
 have F14:=bZ (st:=gH) l14 c14 k14
 have F15:=bZ (st:=gf) l15 c15 k15
 have F16:=bZ (st:=f_) l16 c16 k16
 have F17:=bZ (st:=fF) l17 c17 k17
 have F18:=bZ (st:=eK) l18 c18 k18
 have F19:=bZ (st:=iB) l19 c19 k19
 have F20:=bZ (st:=gc) l20 c20 k20
 have F21:=bZ (st:=gJ) l21 c21 k21
 have F22:=bZ (st:=fE) l22 c22 k22
 have F23:=bZ (st:=lR) l23 c23 k23
 have m:fS w K mg:=⟨PySem.W.mg_none_of X G z0,
   PySem.W.mg_none_of X G z1,
   PySem.W.mg_none_of X G z2,
   PySem.W.mg_none_of X G z3,
   PySem.W.mg_none_of X G z4,
   PySem.W.mg_none_of X G z5,
   PySem.W.mg_none_of X G z6,
   PySem.W.mg_none_of X G z7,
   PySem.W.mg_none_of X G z8,
   PySem.W.mg_none_of X G z9,
   PySem.W.mg_none_of X G z10,
   ⟨_,(.int 6),PySem.W.mg_of X G gMOST_DEPTH,⟨_,rfl⟩,fun _=>(.int _)⟩,
   ⟨_,(.int 600),PySem.W.mg_of X G gMOST_POWER,⟨_,rfl⟩,fun _=>(.int _)⟩⟩
 refine ⟨PySem.W.fnOf "law" "law" (aO lR) (aJ lR) (ay lR) .none kV23 dc23 pm23 an23 cd23 ct23,fun s v=>.of_eq rfl,fun base _ _=>?_⟩
 have C_is_whole:=wC (P:=l.prog) (w:=w) (base:=base) m F0 (PySem.W.mg_of X G a0)
 have C_need_count:=s_ (P:=l.prog) (w:=w) (base:=base) m C_is_whole F1 (PySem.W.mg_of X G a1)
 have C_power:=BC (P:=l.prog) (w:=w) (base:=base) m F2 (PySem.W.mg_of X G a2)
 have C_sorted_once:=qT (P:=l.prog) (w:=w) (base:=base) m F3 (PySem.W.mg_of X G a3)
 have C_face_of:=yt (P:=l.prog) (w:=w) (base:=base) m F4 (PySem.W.mg_of X G a4)
 have C_kind_of:=pJ (P:=l.prog) (w:=w) (base:=base) m C_face_of C_sorted_once F5 (PySem.W.mg_of X G a5) 10
 have O_kind:=Eg (P:=l.prog) (w:=w) (base:=base) m C_need_count C_power C_kind_of F6
 have D_kind:=BA O_kind F6 (PySem.W.mg_of X G a6)
 have C_depth_of_kind:=oU (P:=l.prog) (w:=w) (base:=base) m F7 (PySem.W.mg_of X G a7)
 have C_spread:=zR (P:=l.prog) (w:=w) (base:=base) m F8 (PySem.W.mg_of X G a8)
 have C_spread_face:=qU (P:=l.prog) (w:=w) (base:=base) m C_spread F9 (PySem.W.mg_of X G a9)
 have C_kind_beside:=kE (P:=l.prog) (w:=w) (base:=base) m C_spread_face C_sorted_once F10 (PySem.W.mg_of X G a10) 10
 have C_beside_kind:=qS (P:=l.prog) (w:=w) (base:=base) m C_depth_of_kind C_kind_beside F11 (PySem.W.mg_of X G a11)
 have C__law_cell:=uL (P:=l.prog) (w:=w) (base:=base) m F12 (PySem.W.mg_of X G a12)
 have C__law_names:=sU (P:=l.prog) (w:=w) (base:=base) m F13 (PySem.W.mg_of X G a13)
 have C__law_bits:=uK (P:=l.prog) (w:=w) (base:=base) m F14 (PySem.W.mg_of X G a14)
 have C__law_world:=sX (P:=l.prog) (w:=w) (base:=base) m C__law_bits F15 (PySem.W.mg_of X G a15)
 have C__law_order:=sV (P:=l.prog) (w:=w) (base:=base) m F16 (PySem.W.mg_of X G a16)
 have C__law_turned:=qR (P:=l.prog) (w:=w) (base:=base) m F17 (PySem.W.mg_of X G a17)
 have C__law_flipped:=pI (P:=l.prog) (w:=w) (base:=base) m F18 (PySem.W.mg_of X G a18)
 have C__law_two:=wB (P:=l.prog) (w:=w) (base:=base) m C__law_cell C__law_names C__law_world C__law_order C__law_turned C__law_flipped F19 (PySem.W.mg_of X G a19)
 have C__law_power:=sW (P:=l.prog) (w:=w) (base:=base) m F20 (PySem.W.mg_of X G a20)
 have C__law_deep:=uM (P:=l.prog) (w:=w) (base:=base) m C__law_power F21 (PySem.W.mg_of X G a21)
 have C__law_beside:=qQ (P:=l.prog) (w:=w) (base:=base) m F22 (PySem.W.mg_of X G a22)
 exact Jm m C__law_two C__law_cell C__law_deep C_beside_kind C__law_beside C__law_power D_kind F23
theorem FJ (K:PySem.W.Frag) (H:Hp) (a:Addr) (ns:List Int) (hl:ns.length≤63) (hO:yg H) (hS:cG K H a (ns.map V.int)):qA K 1 K55.qG [.ref a] H (fun v _=>v=.bl true) fun _ _ _=>False:=by
 refine ⟨fun _=>none,[.bor (ns.map D.int)],fun _ _ z=>(by cases z),rfl,⟨_,[],rfl,⟨a,_,rfl,hS,?_⟩,rfl⟩,?_⟩
 ·exact K01.sy ns
 ·rw [EA ns hl]
  intro v J H2 _ r
  cases r
  rfl
theorem walk {l:PySem.W.OpenLaw}{q:Program}{loose:List Str}{XP:(Str→Option Value)→Heap→Prop}{YP:World→Heap→Prop}{d:DefRec}{K:Params→PySem.W.Frag}(hn:l.most=some 63) (hdf:d.params.defaults=[])
  (hY:∀(w:World) (h:Heap),YP w h→(K w.params).In h)
  (F:∀(w:World) (mg:Str→Option Value) (fa:Addr) (h:Heap),(K w.params).In h→h.Ns mainGlobals mg→mg d.name=some (.ref fa)→
   ∃fd:FuncData,(∀(s:Shared) (u:Value),BindsTo s fd ⟨[u],[]⟩ [("_law_script",u)])∧∀base:Heap,(K w.params).In base→base.Ns mainGlobals mg→gj l.prog w (K w.params) mg base lZ 14 fa fd ["_law_script"] (qA (K w.params) 1 K55.qG)):
  PySem.W.WalkO q loose XP YP l.row.toRowW d [] (fun f vs=>PySem.call f vs):=
 L2.FQ (n:=63) (k:=14) (x:="_law_script") (CX:=fun _=>lZ) (sp:=fun w=>qA (K w.params) 1 K55.qG) hn (by decide) hdf ⟨rfl,by decide,by decide⟩ hY F (fun w H a ns hl hO hS=>FJ _ H a ns hl hO hS) fun _ _ _ _ _ z=>z
end K55
open PySem PySem.W PyProof.Rows
set_option maxRecDepth 100000 in
set_option maxHeartbeats 0 in
theorem PySem.Challenge.cw_pickalike_k55_whole_kinds_side_by_side_holds : PySem.Challenge.rw_pickalike_k55_whole_kinds_side_by_side.Holds := by
 refine holds_law K55.look fun said=>?_
 refine holds_open (q:=K55.VW) (XP:=XL K55.VW []) (YP:=Hook.says K55.HK) K55.left (Hook.of K55.HK) (Hook.keeps K55.HK) (fun s e=>xl_of s (Bool.and_eq_true_iff.mp e).1) XL.keeps (by rfl) (by rfl) (by rfl) (fun s e=>recFacts_of (Bool.and_eq_true_iff.mp e).2) (by rfl) said (by decide +kernel) ⟨rfl,rfl,rfl,rfl,rfl,by decide +kernel⟩ ?hw ?hc
 (case hw=>w_witness2)
 delta K55.HK
 k_fill
 refine K55.walk (l:=PySem.Challenge.rw_pickalike_k55_whole_kinds_side_by_side) rfl rfl (K:=K55.KF) (fun w h Y=>PySem.W.kIn_of Y) ?F
 case F=>
  intro w mg fa h KX G hmg
  refine' K55.all_mk KX G hmg ?a0 ?l0 ?c0 ?k0 ?a1 ?l1 ?c1 ?k1 ?a2 ?l2 ?c2 ?k2 ?a3 ?l3 ?c3 ?k3 ?a4 ?l4 ?c4 ?k4 ?a5 ?l5 ?c5 ?k5 ?a6 ?l6 ?c6 ?k6 ?lT6 ?a7 ?l7 ?c7 ?k7 ?a8 ?l8 ?c8 ?k8 ?a9 ?l9 ?c9 ?k9 ?a10 ?l10 ?c10 ?k10 ?a11 ?l11 ?c11 ?k11 ?a12 ?l12 ?c12 ?k12 ?a13 ?l13 ?c13 ?k13 ?a14 ?l14 ?c14 ?k14 ?a15 ?l15 ?c15 ?k15 ?a16 ?l16 ?c16 ?k16 ?a17 ?l17 ?c17 ?k17 ?a18 ?l18 ?c18 ?k18 ?a19 ?l19 ?c19 ?k19 ?a20 ?l20 ?c20 ?k20 ?a21 ?l21 ?c21 ?k21 ?a22 ?l22 ?c22 ?k22 ?a23 ?l23 ?c23 ?k23 ?z0 ?z1 ?z2 ?z3 ?z4 ?z5 ?z6 ?z7 ?z8 ?z9 ?z10 ?gMOST_DEPTH ?gMOST_POWER
  (case a0=>k_is)
  (case l0=>k_is)
  (case c0=>k_is)
  (case k0=>k_is)
  (case a1=>k_is)
  (case l1=>k_is)
  (case c1=>k_is)
  (case k1=>k_is)
  (case a2=>k_is)
  (case l2=>k_is)
  (case c2=>k_is)
  (case k2=>k_is)
  (case a3=>k_is)
  (case l3=>k_is)
  (case c3=>k_is)
  (case k3=>k_is)
  (case a4=>k_is)
  (case l4=>k_is)
  (case c4=>k_is)
  (case k4=>k_is)
  (case a5=>k_is)
  (case l5=>k_is)
  (case c5=>k_is)
  (case k5=>k_is)
  (case a6=>k_is)
  (case l6=>k_is)
  (case c6=>k_is)
  (case k6=>k_is)
  (case lT6=>k_is)
  (case a7=>k_is)
  (case l7=>k_is)
  (case c7=>k_is)
  (case k7=>k_is)
  (case a8=>k_is)
  (case l8=>k_is)
  (case c8=>k_is)
  (case k8=>k_is)
  (case a9=>k_is)
  (case l9=>k_is)
  (case c9=>k_is)
  (case k9=>k_is)
  (case a10=>k_is)
  (case l10=>k_is)
  (case c10=>k_is)
  (case k10=>k_is)
  (case a11=>k_is)
  (case l11=>k_is)
  (case c11=>k_is)
  (case k11=>k_is)
  (case a12=>k_is)
  (case l12=>k_is)
  (case c12=>k_is)
  (case k12=>k_is)
  (case a13=>k_is)
  (case l13=>k_is)
  (case c13=>k_is)
  (case k13=>k_is)
  (case a14=>k_is)
  (case l14=>k_is)
  (case c14=>k_is)
  (case k14=>k_is)
  (case a15=>k_is)
  (case l15=>k_is)
  (case c15=>k_is)
  (case k15=>k_is)
  (case a16=>k_is)
  (case l16=>k_is)
  (case c16=>k_is)
  (case k16=>k_is)
  (case a17=>k_is)
  (case l17=>k_is)
  (case c17=>k_is)
  (case k17=>k_is)
  (case a18=>k_is)
  (case l18=>k_is)
  (case c18=>k_is)
  (case k18=>k_is)
  (case a19=>k_is)
  (case l19=>k_is)
  (case c19=>k_is)
  (case k19=>k_is)
  (case a20=>k_is)
  (case l20=>k_is)
  (case c20=>k_is)
  (case k20=>k_is)
  (case a21=>k_is)
  (case l21=>k_is)
  (case c21=>k_is)
  (case k21=>k_is)
  (case a22=>k_is)
  (case l22=>k_is)
  (case c22=>k_is)
  (case k22=>k_is)
  (case a23=>k_is)
  (case l23=>k_is)
  (case c23=>k_is)
  (case k23=>k_is)
  (case z0=>k_is)
  (case z1=>k_is)
  (case z2=>k_is)
  (case z3=>k_is)
  (case z4=>k_is)
  (case z5=>k_is)
  (case z6=>k_is)
  (case z7=>k_is)
  (case z8=>k_is)
  (case z9=>k_is)
  (case z10=>k_is)
  (case gMOST_DEPTH=>k_is)
  (case gMOST_POWER=>k_is)
