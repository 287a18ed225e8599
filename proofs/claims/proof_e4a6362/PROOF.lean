import PyProof.Rows.All
import Wide.All
import OpenK.AllK
import Wide.FinOn
import PyProof.EqAt
import PyProof.EqKinds
import PyProof.TupleCall
import KE.BitLaws
import Open.SpecLaws
import KE.OsHead
import KE.OsGo
import VbecapSpec
import PySem.Challenge.RW_homeranges_s01_answers
import KE.IntBitsLaws
import KE.KSortTupG
set_option Elab.async false
set_option linter.all false
set_option maxRecDepth 100000
set_option maxHeartbeats 4000000
namespace L2
open PySem PySem.Spec PyProof.Rows
abbrev Key:=Sum Int Str
def keyIs:Key->Value->Bool
 | .inl k,v=>Value.isInt k v
 | .inr x,v=>Value.isStrOf x v
def keyH (w:World):Key->Int
 | .inl k=>hashInt k
 | .inr x=>hashStr w x
theorem keyIs_shape:∀ {k:Key} {v:Value},keyIs k v=true->(∃ i t,k=Sum.inl i/\v=Value.int i t)\/(∃ x t,k=Sum.inr x/\v=Value.str x t)
 | .inl i,v,h=>by
  obtain ⟨t,e⟩:=Value.isInt_shape (k:=i) (v:=v) h
  exact .inl ⟨i,t,rfl,e⟩
 | .inr x,v,h=>by
  obtain ⟨t,e⟩:=Value.isStrOf_shape (x:=x) (v:=v) h
  exact .inr ⟨x,t,rfl,e⟩
theorem key_ll (a b:Int):decide ((Sum.inl a:Key)=Sum.inl b)=(a == b):=by
 by_cases e:a=b
 ·subst e;simp
 ·have h:¬ (Sum.inl a:Key)=Sum.inl b:=fun q=>e (Sum.inl.inj q)
  rw [decide_eq_false h]
  exact (beq_eq_false_iff_ne.mpr e).symm
theorem key_rr (a b:Str):decide ((Sum.inr a:Key)=Sum.inr b)=decide (a=b):=by
 by_cases e:a=b
 ·subst e;simp
 ·have h:¬ (Sum.inr a:Key)=Sum.inr b:=fun q=>e (Sum.inr.inj q)
  rw [decide_eq_false h,decide_eq_false e]
theorem key_lr (a:Int)(b:Str):decide ((Sum.inl a:Key)=Sum.inr b)=false:=decide_eq_false (fun q=>nomatch q)
theorem key_rl (a:Str)(b:Int):decide ((Sum.inr a:Key)=Sum.inl b)=false:=decide_eq_false (fun q=>nomatch q)
def mixKind (prog:Program)(w:World):PySem.KeyKind prog w Key where
 is:=keyIs
 hash:=keyH w
 inj:=fun v a b ha hb=>by
  rcases keyIs_shape ha with ⟨i,t,rfl,rfl⟩ | ⟨x,t,rfl,rfl⟩
  ·rcases keyIs_shape hb with ⟨j,u,rfl,e⟩ | ⟨y,u,rfl,e⟩
   ·injection e with e1 _;rw [e1]
   ·exact nomatch e
  ·rcases keyIs_shape hb with ⟨j,u,rfl,e⟩ | ⟨y,u,rfl,e⟩
   ·exact nomatch e
   ·injection e with e1 _;rw [e1]
 byValue:=fun k v h=>by
  rcases keyIs_shape h with ⟨i,t,rfl,rfl⟩ | ⟨x,t,rfl,rfl⟩<;>rfl
 pyHash:=fun hv h=>by
  rcases keyIs_shape hv with ⟨i,t,rfl,rfl⟩ | ⟨x,t,rfl,rfl⟩
  ·exact wpAny_pyHash_int h
  ·exact wpAny_pyHash_str h
 eqBool:=fun hu hv h=>by
  rcases keyIs_shape hu with ⟨i,t,rfl,rfl⟩ | ⟨x,t,rfl,rfl⟩
  ·rcases keyIs_shape hv with ⟨j,u,rfl,rfl⟩ | ⟨y,u,rfl,rfl⟩
   ·rw [key_ll] at h;exact wpAny_eqBool_int h
   ·rw [key_lr] at h;exact SeqAt.EqAt.int_str i t y u _ _ _ _ h
  ·rcases keyIs_shape hv with ⟨j,u,rfl,rfl⟩ | ⟨y,u,rfl,rfl⟩
   ·rw [key_rl] at h;exact SeqAt.EqAt.str_int x t j u _ _ _ _ h
   ·rw [key_rr] at h;exact wpAny_eqBool_str h
 «strs»:=fun k x t v h=>by
  rcases keyIs_shape h with ⟨i,u,rfl,e⟩ | ⟨y,u,rfl,e⟩
  ·exact nomatch e
  ·injection e with e1 _
   subst e1
   cases v<;>rfl
end L2
namespace L2
open PySem PySem.Spec PyProof.Rows
inductive V where
 | non | bl (b:Bool) | int (i:Int) | str (x:Str) | byt (b:Array UInt8) | flt (b:UInt64) | ref (a:Addr) | ty (n:String)
 deriving DecidableEq
def RelV:V->Value->Prop
 | .non,u=>u=Value.none
 | .bl b,u=>u=Value.bool b
 | .int i,u=>∃ t,u=Value.int i t
 | .str x,u=>∃ t,u=Value.str x t
 | .byt b,u=>∃ t,u=Value.bytes b t
 | .flt b,u=>∃ t,u=Value.float b t
 | .ref a,u=>u=Value.ref a
 | .ty n,u=>u=Value.type n
abbrev Vals:List V->List Value->Prop:=Paired RelV
theorem Vals.length {xs:List V}{us:List Value}(r:Vals xs us):xs.length=us.length:=Paired.length r
theorem Vals.get:∀ {xs:List V} {us:List Value} {i:Nat} {x:V},Vals xs us->xs[i]?=some x->∃ u,us[i]?=some u/\RelV x u
 | _,_,_,_,.nil,e=>by simp at e
 | _,_,0,_,.cons r _,e=>by simp at e;subst e;exact ⟨_,rfl,r⟩
 | _,_,i+1,x,.cons _ t,e=>by
  obtain ⟨u,h1,h2⟩:=Vals.get (i:=i) (x:=x) t (by simpa using e)
  exact ⟨u,by simpa using h1,h2⟩
theorem Vals.set {x:V}{u:Value}(r:RelV x u):∀ {xs:List V} {us:List Value} (i:Nat),Vals xs us->Vals (xs.set i x) (us.set i u)
 | _,_,_,.nil=>.nil
 | _,_,0,.cons _ t=>.cons r t
 | _,_,i+1,.cons q t=>.cons q (Vals.set r i t)
theorem Vals.append:∀ {xs ys:List V} {us ws:List Value},Vals xs us->Vals ys ws->Vals (xs++ys) (us++ws)
 | _,_,_,_,.nil,s=>s
 | _,_,_,_,.cons r t,s=>.cons r (Vals.append t s)
theorem Vals.take:∀ {xs:List V} {us:List Value} (n:Nat),Vals xs us->Vals (xs.take n) (us.take n)
 | _,_,0,_=>.nil
 | _,_,_+1,.nil=>.nil
 | _,_,n+1,.cons r t=>.cons r (Vals.take n t)
theorem Vals.drop:∀ {xs:List V} {us:List Value} (n:Nat),Vals xs us->Vals (xs.drop n) (us.drop n)
 | _,_,0,r=>r
 | _,_,_+1,.nil=>.nil
 | _,_,n+1,.cons _ t=>Vals.drop n t
def RelO:Option V->Option Value->Prop
 | some v,some u=>RelV v u
 | none,none=>True
 | _,_=>False
def KV {κ:Type}:List (κ×V)->List (κ×Value)->Prop:=Paired fun (p:κ×V) (q:κ×Value)=>p.1=q.1/\RelV p.2 q.2
def kV:Key->V
 | .inl i=>.int i
 | .inr x=>.str x
inductive HO where
 | lst (xs:List V)
 | tup (xs:List V)
 | dK (kvs:List (Key×V)) | dT (kvs:List (List Key×V))
 | set (S:Int->Bool) (n:Nat)
 | ins (C dx:Addr) (fs:List (Str×V))
 | own (x:Addr)
 | xd (fs:List (Str×V))
 | met (f x:Addr)
 | rng (lo hi:Int)
 | frz (o:Obj) (u:HO)
 | tbl (ps:Array Value)
 | ext (φ:Heap->Prop)
abbrev Hp:=Addr->Option HO
def upd (H:Hp)(a:Addr)(o:HO):Hp:=fun b=>if b=a then some o else H b
theorem upd_same {H:Hp}{a:Addr}{o:HO}:upd H a o a=some o:=by unfold upd;rw [if_pos rfl]
theorem upd_ne {H:Hp}{a b:Addr}{o:HO}(h:b≠a):upd H a o b=H b:=by unfold upd;rw [if_neg h]
theorem upd_upd {H:Hp}{a:Addr}{o u:HO}:upd (upd H a o) a u=upd H a u:=by
 funext b;unfold upd;split<;>rfl
theorem ne_of {H:Hp}{a b:Addr}{o u:HO}(h:H a=some o)(h':H b=some u)(d:o≠u):a≠b:=by
 intro e;subst e;rw [h] at h';exact d (Option.some.inj h')
theorem ne_of_none {H:Hp}{a b:Addr}{o:HO}(h:H a=some o)(h':H b=none):a≠b:=by
 intro e;subst e;rw [h] at h';cases h'
section
variable (P:Program) (w:World)
def ObjOk (H:Hp)(h:Heap)(a:Addr):HO->Prop
 | .lst xs=>xs.length<=sizeLine/\∃ (its:List Value) (n:Nat),Vals xs its/\h.get? a=some {cls:=.type "list",data:=.seq its.toArray n}
 | .tup xs=>xs.length<=sizeLine/\∃ its:List Value,Vals xs its/\IsTup h a its.toArray
 | .dK kvs=>kvs.length<=sizeLine/\(a == sysModules)=false/\∃ vs,KV kvs vs/\h.DictOf (mixKind P w) a vs
 | .dT kvs=>kvs.length<=sizeLine/\(a == sysModules)=false/\∃ xs:List (List Key×Addr×Value),
   Paired (fun (p:List Key×V) (q:List Key×Addr×Value)=>p.1=q.1/\H q.2.1=some (.tup (p.1.map kV))/\RelV p.2 q.2.2) kvs xs /\
   ∃ o es ep,h.get? a=some o/\o.ExactDict/\o.data=.dict es ep/\es.toList=xs.map (entryOfKey (tupleKind (mixKind P w)))/\(xs.map (·.1)).Nodup
 | .set S n=>h.SetOf (intKind P w) a S n
 | .ins C dx fs=>H dx=some (.own a)/\fs.length<=1000/\dx≠a/\h.get? a=some (PySem.W.instObj C dx) /\
   ∃ mA,h.Ns1 dx mA/\(∀ f,RelO (fs.lookup f) (mA f))/\PySem.Within mA (fs.map (·.1))
 | .own _=>∃ o,h.get? a=some o
 | .xd fs=>∃ mA,h.Ns1 a mA/\∀ f,RelO (fs.lookup f) (mA f)
 | .rng lo hi=>∃ t u v,h.get? a=some {cls:=.type "range",data:=.fields #[.int lo t,.int hi u,.int 1 v]}
 | .frz o u=>h.get? a=some o/\ObjOk H h a u
 | .tbl ps=>h.get? a=some {cls:=.none,data:=.fields ps}
 | .met f x=>h.get? a=some (PySem.W.methodObj (.ref f) (.ref x))
 | .ext φ=>φ h/\(∃ o,h.get? a=some o)/\∀ h1 h2:Heap,φ h1->(∀ o,h1.get? a=some o->h2.get? a=some o)->φ h2
def HOk (H:Hp)(h:Heap):Prop:=∀ a o,H a=some o->ObjOk P w H h a o
end
section
variable {P:Program} {w:World} {H H':Hp} {h h':Heap} {a:Addr} {o:HO}
theorem ObjOk.lt (x:ObjOk P w H h a o):a < h.objs.size:=by
 cases o with
 | lst xs=>obtain ⟨_,_,_,_,e⟩:=x;exact Heap.lt_size e
 | tup xs=>obtain ⟨_,_,_,p⟩:=x;exact p.lt
 | dK kvs=>obtain ⟨_,_,_,_,o,_,_,e,_⟩:=x;exact Heap.lt_size e
 | dT kvs=>obtain ⟨_,_,_,_,o,_,_,e,_⟩:=x;exact Heap.lt_size e
 | set S n=>obtain ⟨o,_,_,_,e,_⟩:=x;exact Heap.lt_size e
 | ins C dx fs=>obtain ⟨_,_,_,e,_⟩:=x;exact Heap.lt_size e
 | own y=>obtain ⟨_,e⟩:=x;exact Heap.lt_size e
 | xd fs=>obtain ⟨_,⟨_,_,_,e,_⟩,_⟩:=x;exact Heap.lt_size e
 | rng lo hi=>obtain ⟨_,_,_,e⟩:=x;exact Heap.lt_size e
 | frz ob u=>obtain ⟨e,_⟩:=x;exact Heap.lt_size e
 | tbl ps=>exact Heap.lt_size (show h.get? a=some _ from x)
 | met f y=>exact Heap.lt_size (show h.get? a=some _ from x)
 | ext φ=>obtain ⟨_,⟨_,e⟩,_⟩:=x;exact Heap.lt_size e
theorem Paired.mapP {α β:Type}{F G:α->β->Prop}:∀ {l₁:List α} {l₂:List β},Paired F l₁ l₂->(∀ a b,F a b->G a b)->Paired G l₁ l₂
 | _,_,.nil,_=>.nil
 | _,_,.cons r t,f=>.cons (f _ _ r) (Paired.mapP t f)
theorem ObjOk.stay (x:ObjOk P w H h a o)(k:∀ b u,(b=a\/H b=some (.own a))->h.get? b=some u->h'.get? b=some u)
  (ho:∀ b,H b=some (.own a)->H' b=some (.own a)) (ht:∀ b xs,H b=some (.tup xs)->H' b=some (.tup xs)):ObjOk P w H' h' a o:=by
 induction o with
 | lst xs=>obtain ⟨z,its,n,r,e⟩:=x;exact ⟨z,its,n,r,k _ _ (.inl rfl) e⟩
 | tup xs=>obtain ⟨z,its,r,ob,e,c⟩:=x;exact ⟨z,its,r,ob,k _ _ (.inl rfl) e,c⟩
 | dK kvs=>obtain ⟨z,y,vs,r,ob,es,ep,e,c⟩:=x;exact ⟨z,y,vs,r,ob,es,ep,k _ _ (.inl rfl) e,c⟩
 | dT kvs =>
  obtain ⟨z,y,xs,r,ob,es,ep,e,c⟩:=x
  exact ⟨z,y,xs,Paired.mapP r fun p q z=>⟨z.1,ht _ _ z.2.1,z.2.2⟩,ob,es,ep,k _ _ (.inl rfl) e,c⟩
 | set S n=>obtain ⟨ob,es,ep,t,e,c⟩:=x;exact ⟨ob,es,ep,t,k _ _ (.inl rfl) e,c⟩
 | ins C dx fs =>
  obtain ⟨d,z,ne,e,mA,⟨od,es,ep,e2,c⟩,r⟩:=x
  exact ⟨ho _ d,z,ne,k _ _ (.inl rfl) e,mA,⟨od,es,ep,k _ _ (.inr d) e2,c⟩,r⟩
 | own y=>obtain ⟨ob,e⟩:=x;exact ⟨ob,k _ _ (.inl rfl) e⟩
 | xd fs=>obtain ⟨mA,⟨od,es,ep,e,c⟩,r⟩:=x;exact ⟨mA,⟨od,es,ep,k _ _ (.inl rfl) e,c⟩,r⟩
 | rng lo hi=>obtain ⟨t,u,v,e⟩:=x;exact ⟨t,u,v,k _ _ (.inl rfl) e⟩
 | frz ob u ih=>obtain ⟨e,q⟩:=x;exact ⟨k _ _ (.inl rfl) e,ih q⟩
 | tbl ps =>
  have e:h.get? a=some {cls:=.none,data:=.fields ps}:=x
  show h'.get? a=some {cls:=.none,data:=.fields ps}
  exact k a _ (.inl rfl) e
 | met f y =>
  have e:h.get? a=some (PySem.W.methodObj (.ref f) (.ref y)):=x
  show h'.get? a=some (PySem.W.methodObj (.ref f) (.ref y))
  exact k a _ (.inl rfl) e
 | ext φ=>obtain ⟨p,⟨o,e⟩,st⟩:=x;exact ⟨st _ _ p fun o q=>k _ _ (.inl rfl) q,⟨o,k _ _ (.inl rfl) e⟩,st⟩
theorem HOk.lt (x:HOk P w H h)(e:H a=some o):a < h.objs.size:=(x a o e).lt
theorem HOk.fresh (x:HOk P w H h)(e:h.objs.size<=a):H a=none:=by
 cases q:H a with
 | none=>rfl
 | some u=>exact absurd (Nat.lt_of_lt_of_le (x.lt q) e) (Nat.lt_irrefl _)
theorem HOk.kept (x:HOk P w H h)(k:∀ b u,h.get? b=some u->h'.get? b=some u):HOk P w H h':=fun a o e =>
 (x a o e).stay (fun b u _ q=>k b u q) (fun _ q=>q) fun _ _ q=>q
theorem HOk.laid (x:HOk P w H h)(k:∀ b u,h.get? b=some u->h'.get? b=some u)(hp:h.objs.size<=a)(new:ObjOk P w (upd H a o) h' a o):HOk P w (upd H a o) h':=fun b u e=>by
 have hn:=x.fresh hp
 by_cases hb:b=a
 ·subst hb;rw [upd_same] at e;cases e;exact new
 ·rw [upd_ne hb] at e
  exact (x b u e).stay (fun c v _ q=>k c v q) (fun c q=>by rw [upd_ne (ne_of_none q hn)];exact q) fun c xs q=>by rw [upd_ne (ne_of_none q hn)];exact q
end
def Rd (H:Hp)(a:Addr)(u:HO):Prop:=H a=some u\/∃ o,H a=some (.frz o u)
theorem Rd.ok {P:Program}{w:World}{H:Hp}{h:Heap}{a:Addr}{u:HO}(r:Rd H a u)(x:HOk P w H h):ObjOk P w H h a u:=by
 rcases r with r | ⟨o,r⟩
 ·exact x a u r
 ·obtain ⟨_,q⟩:=x a _ r
  exact q
def Mut:Option HO->Prop
 | some (.lst _)=>True
 | some (.dK _)=>True
 | some (.dT _)=>True
 | some (.set _ _)=>True
 | some (.ins _ _ _)=>True
 | some (.ext _)=>True
 | _=>False
section
variable {P:Program} {w:World} {H:Hp} {h h':Heap} {x e:Addr} {o':HO}
theorem HOk.write (ok:HOk P w H h)(mu:Mut (H x))(he:e=x\/H e=some (.own x))(k:∀ b u,b≠e->h.get? b=some u->h'.get? b=some u)(heo:∃ u,h'.get? e=some u)
  (new:ObjOk P w (upd H x o') h' x o'):HOk P w (upd H x o') h':=fun b u q=>by
 have nown:∀ c y,H c=some (.own y)->c≠x:=fun c y r z=>by subst z;rw [r] at mu;exact mu
 have ntup:∀ c xs,H c=some (.tup xs)->c≠x:=fun c xs r z=>by subst z;rw [r] at mu;exact mu
 by_cases hb:b=x
 ·subst hb;rw [upd_same] at q;cases q;exact new
 ·rw [upd_ne hb] at q
  by_cases hbe:b=e
  ·have q':H b=some (.own x):=by
    rcases he with z | z
    ·exact absurd (hbe.trans z) hb
    ·rw [hbe];exact z
   rw [q] at q';cases q'
   obtain ⟨v,hv⟩:=heo
   exact ⟨v,by rw [hbe];exact hv⟩
  ·refine (ok b u q).stay (fun c v hc r=>k c v ?_ r) (fun c r=>by rw [upd_ne (nown c b r)];exact r) fun c xs r=>by rw [upd_ne (ntup c xs r)];exact r
   rcases hc with rfl | hc
   ·exact hbe
   ·rintro rfl
    rcases he with z | z
    ·exact nown c b hc z
    ·rw [hc] at z;cases z;exact hb rfl
end
structure Un (fs ex:List Addr)(H H':Hp)(h h':Heap):Prop where
 keep:∀ b o,h.get? b=some o->H b=none->b ∉ fs->b ∉ ex->h'.get? b=some o
 slot:∀ b o,h.get? b=some o->H b=none->b∈fs->b ∉ ex->∃ sl,h'.get? b=some {o with slots:=sl}
 free:∀ b o,h.get? b=some o->H b=none->b ∉ ex->H' b=none
 there:∀ b o,h.get? b=some o->b ∉ ex->∃ o',h'.get? b=some o'
 tups:∀ b xs,H b=some (.tup xs)->H' b=some (.tup xs)
 frzs:∀ b o u,H b=some (.frz o u)->H' b=some (.frz o u)
 tbls:∀ b ps,H b=some (.tbl ps)->∃ more,H' b=some (.tbl (ps++more))
section
variable {fs fs' ex ex':List Addr} {H H1 H2:Hp} {h h1 h2 h':Heap} {a x e:Addr} {o:HO}
theorem Un.any (u:Un fs ex H H1 h h1){b:Addr}{ob:Obj}(q:h.get? b=some ob)(n:H b=none)(hx:b ∉ ex):∃ sl,h1.get? b=some {ob with slots:=sl}:=by
 by_cases hb:b∈fs
 ·exact u.slot b ob q n hb hx
 ·exact ⟨ob.slots,u.keep b ob q n hb hx⟩
theorem Un.kept (k:∀ b u,h.get? b=some u->h'.get? b=some u):Un fs ex H H h h' :=
 ⟨fun b ob q _ _ _=>k b ob q,fun b ob q _ _ _=>⟨ob.slots,k b ob q⟩,fun _ _ _ n _=>n,fun b ob q _=>⟨ob,k b ob q⟩,fun _ _ q=>q,fun _ _ _ q=>q,fun _ ps q=>⟨#[],by rw [q];simp⟩⟩
theorem Un.refl:Un fs ex H H h h:=Un.kept fun _ _ q=>q
theorem Un.laid (k:∀ b u,h.get? b=some u->h'.get? b=some u)(hp:h.objs.size<=a)(hn:H a=none):Un fs ex H (upd H a o) h h' where
 keep:=fun b u q _ _ _=>k b u q
 slot:=fun b u q _ _ _=>⟨u.slots,k b u q⟩
 free:=fun b u q n _=>by rw [upd_ne (Nat.ne_of_lt (Nat.lt_of_lt_of_le (Heap.lt_size q) hp))];exact n
 there:=fun b u q _=>⟨u,k b u q⟩
 tups:=fun b xs q=>by rw [upd_ne (ne_of_none q hn)];exact q
 frzs:=fun b u xs q=>by rw [upd_ne (ne_of_none q hn)];exact q
 tbls:=fun b ps q=>⟨#[],by rw [upd_ne (ne_of_none q hn),q];simp⟩
theorem Un.write (mu:Mut (H x))(he:e=x\/H e=some (.own x))(k:∀ b u,b≠e->h.get? b=some u->h'.get? b=some u)(heo:∃ u,h'.get? e=some u):Un fs ex H (upd H x o) h h':=by
 have hx:∀ b,H b=none->b≠x:=fun b n z=>by subst z;rw [n] at mu;exact mu
 have hb:∀ b,H b=none->b≠e:=fun b n z=>by
  subst z
  rcases he with r | r
  ·exact hx b n r
  ·rw [n] at r;cases r
 have hm:∀ b u,H b=some u->¬ Mut (some u)->b≠x:=fun b u q nm z=>by subst z;rw [q] at mu;exact nm mu
 refine ⟨fun b u q n _ _=>k b u (hb b n) q,fun b u q n _ _=>⟨u.slots,k b u (hb b n) q⟩,fun b u q n _=>by rw [upd_ne (hx b n)];exact n,fun b u q _=>?_,
  fun b xs q=>by rw [upd_ne (hm b _ q fun z=>z)];exact q,fun b u xs q=>by rw [upd_ne (hm b _ q fun z=>z)];exact q,fun b ps q=>⟨#[],by rw [upd_ne (hm b _ q fun z=>z),q];simp⟩⟩
 by_cases hbe:b=e
 ·subst hbe;exact heo
 ·exact ⟨u,k b u hbe q⟩
end
def trk (h:Heap)(H:Hp):List Addr:=(List.range h.objs.size).filter fun a=>(H a).isSome
def hidT (h:Heap)(H:Hp):Heap:=PySem.W.hideAll h (trk h H)
theorem hidT_size (h:Heap)(H:Hp):(hidT h H).objs.size=h.objs.size:=PySem.W.hideAll_size _ _
theorem hidT_get {h:Heap}{H:Hp}{b:Addr}{o:Obj}(e:h.get? b=some o)(n:H b=none):(hidT h H).get? b=some o :=
 PySem.W.hideAll_get _ e fun hm=>by
  have q:(H b).isSome=true:=(List.mem_filter.mp hm).2
  rw [n] at q;simp at q
theorem of_hidT {h:Heap}{H:Hp}{b:Addr}{o:Obj}(e:(hidT h H).get? b=some o):h.get? b=some o/\H b=none:=by
 have e':h.get? b=some o:=PySem.W.of_hideAll (trk h H) e
 refine ⟨e',?_⟩
 cases q:H b with
 | none=>rfl
 | some x =>
  have hm:b∈trk h H:=List.mem_filter.mpr ⟨List.mem_range.mpr (Heap.lt_size e'),by simp [q]⟩
  have z:(hidT h H).get? b=none:=PySem.W.hideAll_none (trk h H) hm
  rw [z] at e;cases e
end L2
namespace L2
open PySem PySem.Spec PyProof.Rows
structure Mod (K:PySem.W.Frag)(mg:Str->Option Value)(base:Heap):Prop where
 kin:K.In base
 glob:base.Ns mainGlobals mg
 blt:∃ mb,base.Ns builtinsNs mb/\∀ x:Str,x≠"__name__"->mb x=bootBuiltins x
 nolimit:base.NoLimit
structure Cx where
 prog:Program
 w:World
 K:PySem.W.Frag
 mg:Str->Option Value
 base:Heap
 A:Around
 N:List Str
 s_0:Shared
 H_0:Hp
 env:Env
 outer:List Env
 stack:List Env
 ex:List Addr
 fn:Str->Bool
 calm:Bool
 pn:List (Addr×Obj)
 xe:Value->Shared->Prop
def frs (l:List Env):List Addr:=l.filterMap (·.frame)
abbrev Cx.fs (X:Cx):List Addr:=frs X.outer
def Vis (sc:Scope)(x:Str):Prop:=sc.names.lookup x=some .local\/sc.names.lookup x=some .cell\/sc.names.lookup x=some .free
def Loc (sc:Scope)(x:Str):Prop:=sc.names.lookup x=some .local\/sc.names.lookup x=some .cell
def Look (env:Env)(h:Heap)(m:Str->Option Value)(x:Str)(u:Value):Prop :=
 (env.kindOf x=some .local/\m x=some u)\/((env.kindOf x=some .cell\/env.kindOf x=some .free)/\∃ c,env.cells.lookup x=some c/\h.IsCell c (some u))
structure Cx.Ok (X:Cx):Prop where
 mod:Mod X.K X.mg X.base
 kind:X.env.scope.kind=.function
 glob:X.env.globals=mainGlobals
 blt:X.env.builtins=builtinsNs
 above:X.s_0.heap.objs.size<=X.env.locals
 inj:∀ x y c,X.env.cells.lookup x=some c->X.env.cells.lookup y=some c->x=y
 has:∀ x,(X.env.kindOf x=some .cell\/X.env.kindOf x=some .free)->∃ c,X.env.cells.lookup x=some c
 cab:∀ x c,X.fn x=true->X.env.cells.lookup x=some c->X.s_0.heap.objs.size<=c
 hd:X.calm=true->X.A.handled=none
 frames:X.A.frames=some X.stack
 stk:X.stack=X.outer\/(X.stack=X.env::X.outer/\X.env.frame=some X.env.locals)
 exf:∀ b∈X.ex,b≠X.env.locals/\∀ x c,X.env.cells.lookup x=some c->c≠b
 bs:∀ b o,X.base.get? b=some o->X.s_0.heap.get? b=some o/\X.H_0 b=none
 bsz:X.base.objs.size<=X.s_0.heap.objs.size
 noex:∀ b o,X.base.get? b=some o->b ∉ X.ex
 exfs:∀ b∈X.ex,b ∉ X.fs
 funs:X.s_0.heap.FunFrames X.base X.outer
 frf:∀ b∈X.fs,X.H_0 b=none
structure Inv (X:Cx)(pins:List (Addr×Obj))(σ:List (Option V))(H:Hp)(s:Shared):Prop where
 ok:X.Ok
 os:s.os=X.s_0.os
 bare:AllBare s.gens
 base:Un X.fs X.ex X.H_0 H X.s_0.heap s.heap
 loc:∃ m,s.heap.Ns X.env.locals m/\∀ (i:Nat) (x:Str) (v:V),X.N[i]?=some x->σ[i]?=some (some v)->Vis X.env.scope x->∃ u,RelV v u/\Look X.env s.heap m x u
 cell:∀ x c,X.env.cells.lookup x=some c->∃ v,s.heap.IsCell c v
 free:H X.env.locals=none
 freeC:∀ x c,X.env.cells.lookup x=some c->H c=none
 pin:∀ p∈X.pn++pins,s.heap.get? p.1=some p.2/\H p.1=none/\p.1≠X.env.locals/\p.1 ∉ X.fs/\∀ v,p.2.data≠.cell v
 hok:HOk X.prog X.w H s.heap
 len:σ.length=X.N.length
section
variable {X:Cx} {pins:List (Addr×Obj)} {σ:List (Option V)} {H H':Hp} {s:Shared} {h':Heap}
theorem Cx.Ok.nofr (ok:X.Ok){b:Addr}{o:Obj}(e:X.base.get? b=some o):b ∉ X.fs:=fun hb=>by
 have:=(ok.funs.mem hb).1
 rw [e] at this;cases this
theorem Inv.bs (I:Inv X pins σ H s):∀ b o,X.base.get? b=some o->s.heap.get? b=some o/\H b=none:=fun b o e =>
 ⟨I.base.keep b o (I.ok.bs b o e).1 (I.ok.bs b o e).2 (I.ok.nofr e) (I.ok.noex b o e),I.base.free b o (I.ok.bs b o e).1 (I.ok.bs b o e).2 (I.ok.noex b o e)⟩
theorem Inv.bk (I:Inv X pins σ H s):∀ b o,X.base.get? b=some o->s.heap.get? b=some o:=fun b o e=>(I.bs b o e).1
theorem Inv.mod (I:Inv X pins σ H s):Mod X.K X.mg X.base:=I.ok.mod
theorem Inv.kIn (I:Inv X pins σ H s):X.K.In s.heap:=I.ok.mod.kin.keeps I.bk
theorem Inv.nolimit (I:Inv X pins σ H s):s.heap.NoLimit:=I.ok.mod.nolimit.keeps I.bk
theorem Inv.fr (I:Inv X pins σ H s):∃ m,Fr X.base X.env.locals s.heap m :=
 let ⟨m,hn,_⟩:=I.loc
 ⟨m,hn,I.bk,Nat.le_trans I.ok.bsz I.ok.above⟩
theorem Inv.lt (I:Inv X pins σ H s):X.env.locals < s.heap.objs.size:=let ⟨_,hn,_⟩:=I.loc;hn.lt
theorem Inv.sz (I:Inv X pins σ H s):X.s_0.heap.objs.size<=s.heap.objs.size:=Nat.le_trans I.ok.above (Nat.le_of_lt I.lt)
theorem Inv.nofs (I:Inv X pins σ H s){a:Addr}(h:s.heap.objs.size<=a):a ∉ X.fs:=fun hb=>by
 obtain ⟨_,o,ho,_⟩:=I.ok.funs.mem hb
 exact absurd (Nat.lt_of_lt_of_le (Heap.lt_size ho) (Nat.le_trans I.sz h)) (Nat.lt_irrefl _)
theorem Inv.cne (I:Inv X pins σ H s):∀ x c,X.env.cells.lookup x=some c->c≠X.env.locals:=fun x c e z=>by
 obtain ⟨v,o,ho,hd⟩:=I.cell x c e
 obtain ⟨m,⟨o',es,ep,ho',hd',_⟩,_⟩:=I.loc
 rw [z,ho'] at ho;cases ho;rw [hd'] at hd;cases hd
theorem Inv.funs (I:Inv X pins σ H s):s.heap.FunFrames X.base X.outer:=by
 have all:∀ (l:List Env),(∀ b∈frs l,b∈X.fs)->X.s_0.heap.FunFrames X.base l->s.heap.FunFrames X.base l:=by
  intro l
  induction l with
  | nil=>intro _ _;trivial
  | cons env r ih =>
   intro hs hl
   obtain ⟨hk,⟨L,o,hf,hn,ho,hd⟩,hr⟩:=hl
   have hL:L∈X.fs:=hs L (by unfold frs;rw [List.filterMap_cons,hf];exact List.mem_cons_self)
   obtain ⟨sl,e⟩:=I.base.slot L o ho (I.ok.frf L hL) hL fun z=>I.ok.exfs L z hL
   exact ⟨hk,⟨L,_,hf,hn,e,hd⟩,ih (fun b hb=>hs b (by unfold frs;rw [List.filterMap_cons,hf];exact List.mem_cons_of_mem _ hb)) hr⟩
 exact all X.outer (fun _ hb=>hb) I.ok.funs
theorem Inv.stack (I:Inv X pins σ H s):s.heap.FunFrames X.base X.stack:=by
 rcases I.ok.stk with e | ⟨e,hf⟩
 ·rw [e];exact I.funs
 ·rw [e]
  obtain ⟨m,hn,_⟩:=I.loc
  refine .cons (by rw [I.ok.kind];decide) hf hn ?_ I.funs
  exact Heap.get?_none_of_le (Nat.le_trans I.ok.bsz I.ok.above)
theorem Inv.stkSub (I:Inv X pins σ H s):∀ b∈frs X.stack,b∈X.env.locals::X.fs:=fun b hb=>by
 rcases I.ok.stk with e | ⟨e,hf⟩
 ·rw [e] at hb;exact List.mem_cons_of_mem _ hb
 ·rw [e] at hb
  unfold frs at hb
  rw [List.filterMap_cons,hf] at hb
  exact hb
theorem Inv.stkFree (I:Inv X pins σ H s):∀ b∈frs X.stack,H b=none:=fun b hb=>by
 rcases List.mem_cons.mp (I.stkSub b hb) with e | hb
 ·rw [e];exact I.free
 ·obtain ⟨_,o,ho,_⟩:=I.ok.funs.mem hb
  exact I.base.free b o ho (I.ok.frf b hb) fun z=>I.ok.exfs b z hb
theorem Inv.step {g':Array GenState}{t':Nat}{d':Drawn}{ch:List Addr}(I:Inv X pins σ H s)
  (hch:∀ b∈ch,(b∈X.ex\/X.s_0.heap.objs.size<=b)/\b≠X.env.locals/\(∀ x c,X.env.cells.lookup x=some c->c≠b)/\∀ p∈X.pn++pins,p.1≠b)
  (keep:∀ b o,b≠X.env.locals->b ∉ X.fs->b ∉ ch->s.heap.get? b=some o->H b=none->h'.get? b=some o)
  (slot:∀ b o,b≠X.env.locals->b∈X.fs->b ∉ ch->s.heap.get? b=some o->H b=none->∃ sl,h'.get? b=some {o with slots:=sl}) (free:∀ b o,b ∉ ch->s.heap.get? b=some o->H b=none->H' b=none)
  (there:∀ b o,b ∉ ch->s.heap.get? b=some o->∃ o',h'.get? b=some o')
  (tups:∀ b xs,H b=some (.tup xs)->H' b=some (.tup xs)) (frzs:∀ b o u,H b=some (.frz o u)->H' b=some (.frz o u)) (tbls:∀ b ps,H b=some (.tbl ps)->∃ more,H' b=some (.tbl (ps++more)))
  (ns:∀ m,s.heap.Ns X.env.locals m->h'.Ns X.env.locals m) (hok:HOk X.prog X.w H' h') (hg:AllBare g') :
  Inv X pins σ H' {s with heap:=h',gens:=g',drawn:=d',toks:=t'}:=by
 have neL:∀ b o,X.s_0.heap.get? b=some o->b≠X.env.locals:=fun b o e=>Nat.ne_of_lt (Nat.lt_of_lt_of_le (Heap.lt_size e) I.ok.above)
 have neC:∀ b o,X.s_0.heap.get? b=some o->b ∉ X.ex->b ∉ ch:=fun b o e hx hb=>by
  rcases (hch b hb).1 with z | z
  ·exact hx z
  ·exact absurd (Nat.lt_of_lt_of_le (Heap.lt_size e) z) (Nat.lt_irrefl _)
 have cellK:∀ x c,X.env.cells.lookup x=some c->∀ v,s.heap.IsCell c v->h'.IsCell c v:=fun x c e v ⟨o,ho,hd⟩=>by
  have nch:c ∉ ch:=fun z=>(hch c z).2.2.1 x c e rfl
  by_cases hc:c∈X.fs
  ·obtain ⟨sl,q⟩:=slot c o (I.cne x c e) hc nch ho (I.freeC x c e)
   exact ⟨_,q,hd⟩
  ·exact ⟨o,keep c o (I.cne x c e) hc nch ho (I.freeC x c e),hd⟩
 refine ⟨I.ok,I.os,hg,⟨fun b o e n hb hx=>?_,fun b o e n hb hx=>?_,fun b o e n hx=>?_,fun b o e hx=>?_,fun b xs e=>tups b xs (I.base.tups b xs e),fun b o xs e=>frzs b o xs (I.base.frzs b o xs e),fun b ps e=>?_⟩,?_,fun x c e=>?_,?_,fun x c e=>?_,fun p hp=>?_,hok,I.len⟩
 ·exact keep b o (neL b o e) hb (neC b o e hx) (I.base.keep b o e n hb hx) (I.base.free b o e n hx)
 ·obtain ⟨sl,e1⟩:=I.base.slot b o e n hb hx
  obtain ⟨sl',e2⟩:=slot b _ (neL b o e) hb (neC b o e hx) e1 (I.base.free b o e n hx)
  exact ⟨sl',e2⟩
 ·obtain ⟨o',e1⟩:=I.base.there b o e hx
  exact free b o' (neC b o e hx) e1 (I.base.free b o e n hx)
 ·obtain ⟨o',e1⟩:=I.base.there b o e hx
  exact there b o' (neC b o e hx) e1
 ·obtain ⟨m1,e1⟩:=I.base.tbls b ps e
  obtain ⟨m2,e2⟩:=tbls b _ e1
  exact ⟨m1++m2,by rw [e2,Array.append_assoc]⟩
 ·obtain ⟨m,hn,hl⟩:=I.loc
  refine ⟨m,ns m hn,fun i x v e1 e2 e3=>?_⟩
  obtain ⟨u,r,l⟩:=hl i x v e1 e2 e3
  refine ⟨u,r,?_⟩
  rcases l with l | ⟨k,c,e,z⟩
  ·exact .inl l
  ·exact .inr ⟨k,c,e,cellK x c e _ z⟩
 ·obtain ⟨v,z⟩:=I.cell x c e
  exact ⟨v,cellK x c e v z⟩
 ·obtain ⟨m,⟨o,_,_,ho,_⟩,_⟩:=I.loc
  exact free _ o (fun z=>(hch _ z).2.1 rfl) ho I.free
 ·obtain ⟨v,o,ho,hd⟩:=I.cell x c e
  exact free c o (fun z=>(hch c z).2.2.1 x c e rfl) ho (I.freeC x c e)
 ·obtain ⟨e,n,ne,nf,d⟩:=I.pin p hp
  have nch:p.1 ∉ ch:=fun z=>(hch p.1 z).2.2.2 p hp rfl
  exact ⟨keep p.1 p.2 ne nf nch e n,free p.1 p.2 nch e n,ne,nf,d⟩
theorem Inv.un {t':Nat}(I:Inv X pins σ H s)(u:Un X.fs [] H H' s.heap h')(hok:HOk X.prog X.w H' h'):Inv X pins σ H' {s with heap:=h',toks:=t'}:=by
 obtain ⟨m,⟨o,es,ep,ho,r⟩,_⟩:=id I.loc
 obtain ⟨sl,hL⟩:=u.any ho I.free (by simp)
 exact I.step (g':=s.gens) (d':=s.drawn) (ch:=[]) (fun _ z=>nomatch z) (fun b o _ hb _ e n=>u.keep b o e n hb (by simp)) (fun b o _ hb _ e n=>u.slot b o e n hb (by simp)) (fun b o _ e n=>u.free b o e n (by simp)) (fun b o _ e=>u.there b o e (by simp)) u.tups u.frzs u.tbls (fun m' hm=>by
  obtain ⟨o',es',ep',ho',r'⟩:=hm
  rw [ho] at ho';cases ho'
  exact ⟨_,es',ep',hL,r'⟩) hok I.bare
theorem Inv.call {g':Array GenState}{t':Nat}{d':Drawn}{ch:List Addr}(I:Inv X pins σ H s)(u:Un (frs X.stack) ch H H' s.heap h')(hok:HOk X.prog X.w H' h')(hg:AllBare g')
  (hch:∀ b∈ch,(b∈X.ex\/X.s_0.heap.objs.size<=b)/\b≠X.env.locals/\(∀ x c,X.env.cells.lookup x=some c->c≠b)/\∀ p∈X.pn++pins,p.1≠b) :
  Inv X pins σ H' {s with heap:=h',gens:=g',drawn:=d',toks:=t'}:=by
 obtain ⟨m,⟨o,es,ep,ho,r⟩,_⟩:=id I.loc
 obtain ⟨sl,hL⟩:=u.any ho I.free fun z=>(hch _ z).2.1 rfl
 exact I.step (ch:=ch) hch (fun b o hL hb hc e n=>u.keep b o e n (fun z=>(List.mem_cons.mp (I.stkSub b z)).elim hL hb) hc) (fun b o _ _ hc e n=>u.any e n hc) (fun b o hc e n=>u.free b o e n hc) (fun b o hc e=>u.there b o e hc) u.tups u.frzs u.tbls (fun m' hm=>by
  obtain ⟨o',es',ep',ho',r'⟩:=hm
  rw [ho] at ho';cases ho'
  exact ⟨_,es',ep',hL,r'⟩) hok hg
theorem Inv.turned {t':Nat}{it:Addr}(I:Inv X pins σ H s)(k:∀ b o,b≠it->s.heap.get? b=some o->h'.get? b=some o)(hn:H it=none)(hL:it≠X.env.locals)
  (h1:it∈X.ex\/X.s_0.heap.objs.size<=it) (h2:∀ x c,X.env.cells.lookup x=some c->c≠it) (h3:∀ p∈X.pn++pins,p.1≠it):Inv X pins σ H {s with heap:=h',toks:=t'}:=by
 have nit:∀ b u,H b=some u->b≠it:=fun b u e z=>by rw [z,hn] at e;cases e
 refine I.step (g':=s.gens) (d':=s.drawn) (ch:=[it]) (fun b hb=>?_) (fun b o _ _ hc e _=>k b o (fun z=>hc (by simp [z])) e) (fun b o _ _ hc e _=>⟨o.slots,k b o (fun z=>hc (by simp [z])) e⟩) (fun _ _ _ _ n=>n)
  (fun b o hc e=>⟨o,k b o (fun z=>hc (by simp [z])) e⟩) (fun _ _ e=>e) (fun _ _ _ e=>e) (fun b ps e=>⟨#[],by rw [e];simp⟩) (fun m hm=>?_) (fun b u e=>?_) I.bare
 ·have e:b=it:=by simpa using hb
  subst e
  exact ⟨h1,hL,h2,h3⟩
 ·obtain ⟨o,es,ep,ho,r⟩:=hm
  exact ⟨o,es,ep,k _ o (Ne.symm hL) ho,r⟩
 ·refine (I.hok b u e).stay (fun c v hc q=>k c v ?_ q) (fun _ q=>q) fun _ _ q=>q
  rcases hc with z | z
  ·rw [z];exact nit b u e
  ·exact nit c _ z
theorem Inv.tok (I:Inv X pins σ H s)(t:Nat):Inv X pins σ H {s with toks:=t}:=I.un (h':=s.heap) (t':=t) Un.refl I.hok
theorem Inv.kept {t':Nat}(I:Inv X pins σ H s)(k:∀ b u,s.heap.get? b=some u->h'.get? b=some u):Inv X pins σ H {s with heap:=h',toks:=t'}:=I.un (Un.kept k) (I.hok.kept k)
theorem Inv.laid {a:Addr}{o:HO}{t':Nat}(I:Inv X pins σ H s)(k:∀ b u,s.heap.get? b=some u->h'.get? b=some u)(hp:s.heap.objs.size<=a)(new:ObjOk X.prog X.w (upd H a o) h' a o) :
  Inv X pins σ (upd H a o) {s with heap:=h',toks:=t'}:=I.un (Un.laid k hp (I.hok.fresh hp)) (I.hok.laid k hp new)
theorem Inv.write {x e:Addr}{o:HO}{t':Nat}(I:Inv X pins σ H s)(mu:Mut (H x))(he:e=x\/H e=some (.own x))(k:∀ b u,b≠e->s.heap.get? b=some u->h'.get? b=some u)(heo:∃ u,h'.get? e=some u)
  (new:ObjOk X.prog X.w (upd H x o) h' x o):Inv X pins σ (upd H x o) {s with heap:=h',toks:=t'}:=I.un (Un.write mu he k heo) (I.hok.write mu he k heo new)
theorem Inv.weak {σ':List (Option V)}(I:Inv X pins σ H s)(hl:σ'.length=σ.length)(w:∀ (i:Nat) v,σ'[i]?=some (some v)->σ[i]?=some (some v)):Inv X pins σ' H s :=
 ⟨I.ok,I.os,I.bare,I.base,let ⟨m,hn,hl'⟩:=I.loc;⟨m,hn,fun i x v e1 e2 e3=>hl' i x v e1 (w i v e2) e3⟩,I.cell,I.free,I.freeC,I.pin,I.hok,hl.trans I.len⟩
theorem Inv.pins_of {pins':List (Addr×Obj)}(I:Inv X pins σ H s)(h:∀ p∈pins',s.heap.get? p.1=some p.2/\H p.1=none/\p.1≠X.env.locals/\p.1 ∉ X.fs/\∀ v,p.2.data≠.cell v):Inv X pins' σ H s :=
 ⟨I.ok,I.os,I.bare,I.base,I.loc,I.cell,I.free,I.freeC,fun p hp=>(List.mem_append.mp hp).elim (fun z=>I.pin p (List.mem_append_left _ z)) (h p),I.hok,I.len⟩
theorem nodup_ix {N:List Str}(hN:N.Nodup){i j:Nat}{x:Str}(a:N[i]?=some x)(b:N[j]?=some x):i=j:=by
 obtain ⟨h1,e1⟩:=List.getElem?_eq_some_iff.mp a
 obtain ⟨h2,e2⟩:=List.getElem?_eq_some_iff.mp b
 exact (List.getElem_inj hN).mp (e1.trans e2.symm)
theorem store_ok2 {M:Model}{A:Around}{E:Value->Shared->Prop}{i:Nat}{x:Str}{v:V}{u:Value}{Q:Unit->Shared->Prop}(I:Inv X pins σ H s)(hN:X.N.Nodup)(hi:X.N[i]?=some x)(hx:Loc X.env.scope x)(r:RelV v u)
  (h:∀ s',Inv X pins (σ.set i (some v)) H s'->(∃ a,Heap.SameBut a s.heap s'.heap/\(a=X.env.locals\/X.env.cells.lookup x=some a))->Q () s') (hf:X.fn x=true\/X.env.scope.names.lookup x=some .local:=by first | exact .inl rfl | exact .inr rfl | assumption):wpAny M A (storeName X.env x u) Q E s:=by
 obtain ⟨m,hn,hl⟩:=id I.loc
 have hcls:(X.env.scope.kind == .class || (X.env.scope.kind == .module && X.env.locals != X.env.globals))=false:=by rw [I.ok.kind];rfl
 have hiσ:i < σ.length:=by rw [I.len];exact (List.getElem?_eq_some_iff.mp hi).1
 have cne:=I.cne
 have tracked:∀ {a:Addr} {h':Heap},(∃ o,s.heap.get? a=some o/\H a=none)->Heap.SameBut a s.heap h'->HOk X.prog X.w H h':=fun {a h'} ha hs b ob e=>by
  obtain ⟨_,_,hfree⟩:=ha
  refine (I.hok b ob e).stay (fun c w' hc q=>(hs.2 c ?_).trans q) (fun _ q=>q) fun _ _ q=>q
  rintro rfl
  rcases hc with rfl | hc
  ·rw [hfree] at e;cases e
  ·rw [hfree] at hc;cases hc
 rcases hx with hk | hk
 ·refine wpAny_storeName_local hk hn (fun h' hn' hs=>?_) hcls
  obtain ⟨oL,_,_,hoL,_⟩:=id hn
  refine h _ ⟨I.ok,I.os,I.bare,⟨fun b o e n hb hx=>?_,fun b o e n hb hx=>?_,I.base.free,fun b o e hx=>?_,I.base.tups,I.base.frzs,I.base.tbls⟩,⟨_,hn',fun j y v' e1 e2 e3=>?_⟩,fun y c e=>?_,I.free,I.freeC,fun p hp=>?_,tracked ⟨oL,hoL,I.free⟩ hs,by simpa using I.len⟩ ⟨_,hs,.inl rfl⟩
  ·exact (hs.2 b (Nat.ne_of_lt (Nat.lt_of_lt_of_le (Heap.lt_size e) I.ok.above))).trans (I.base.keep b o e n hb hx)
  ·obtain ⟨sl,e1⟩:=I.base.slot b o e n hb hx
   exact ⟨sl,(hs.2 b (Nat.ne_of_lt (Nat.lt_of_lt_of_le (Heap.lt_size e) I.ok.above))).trans e1⟩
  ·obtain ⟨o',e1⟩:=I.base.there b o e hx
   exact ⟨o',(hs.2 b (Nat.ne_of_lt (Nat.lt_of_lt_of_le (Heap.lt_size e) I.ok.above))).trans e1⟩
  ·by_cases hj:j=i
   ·subst hj
    rw [hi] at e1;cases e1
    rw [List.getElem?_set_self hiσ] at e2
    cases e2
    exact ⟨u,r,.inl ⟨hk,by simp⟩⟩
   ·rw [List.getElem?_set_ne (Ne.symm hj)] at e2
    obtain ⟨u',r',q⟩:=hl j y v' e1 e2 e3
    refine ⟨u',r',?_⟩
    rcases q with ⟨k,e⟩ | ⟨k,c,e,z⟩
    ·refine .inl ⟨k,?_⟩
     have:y≠x:=fun e=>hj (nodup_ix hN e1 (e▸hi))
     simp [this,e]
    ·exact .inr ⟨k,c,e,z.sameBut hs (cne y c e)⟩
  ·obtain ⟨w',z⟩:=I.cell y c e
   exact ⟨w',z.sameBut hs (cne y c e)⟩
  ·obtain ⟨e,n,ne,nf,d⟩:=I.pin p hp
   exact ⟨(hs.2 p.1 ne).trans e,n,ne,nf,d⟩
 ·have hfn:X.fn x=true:=by
   rcases hf with z | z
   ·exact z
   ·rw [z] at hk;cases hk
  obtain ⟨c,hc⟩:=I.ok.has x (.inl hk)
  obtain ⟨w',z⟩:=I.cell x c hc
  refine wpAny_storeName_cell I.ok.kind hk hc z (fun h' hc' hs=>?_)
  obtain ⟨oc,hoc,hocd⟩:=id z
  refine h {s with heap:=h'} ⟨I.ok,I.os,I.bare,⟨fun b o e n hb hx=>?_,fun b o e n hb hx=>?_,I.base.free,fun b o e hx=>?_,I.base.tups,I.base.frzs,I.base.tbls⟩,⟨m,hn.sameBut hs (Ne.symm (cne x c hc)),fun j y v' e1 e2 e3=>?_⟩,fun y c' e=>?_,I.free,I.freeC,fun p hp=>?_,tracked ⟨oc,hoc,I.freeC x c hc⟩ hs,by simpa using I.len⟩ ⟨c,hs,.inr hc⟩
  ·exact (hs.2 b (Nat.ne_of_lt (Nat.lt_of_lt_of_le (Heap.lt_size e) (I.ok.cab x c hfn hc)))).trans (I.base.keep b o e n hb hx)
  ·obtain ⟨sl,e1⟩:=I.base.slot b o e n hb hx
   exact ⟨sl,(hs.2 b (Nat.ne_of_lt (Nat.lt_of_lt_of_le (Heap.lt_size e) (I.ok.cab x c hfn hc)))).trans e1⟩
  ·obtain ⟨o',e1⟩:=I.base.there b o e hx
   exact ⟨o',(hs.2 b (Nat.ne_of_lt (Nat.lt_of_lt_of_le (Heap.lt_size e) (I.ok.cab x c hfn hc)))).trans e1⟩
  ·by_cases hj:j=i
   ·subst hj
    rw [hi] at e1;cases e1
    rw [List.getElem?_set_self hiσ] at e2
    cases e2
    exact ⟨u,r,.inr ⟨.inl hk,c,hc,hc'⟩⟩
   ·rw [List.getElem?_set_ne (Ne.symm hj)] at e2
    obtain ⟨u',r',q⟩:=hl j y v' e1 e2 e3
    refine ⟨u',r',?_⟩
    rcases q with q | ⟨k,c',e,z'⟩
    ·exact .inl q
    ·refine .inr ⟨k,c',e,z'.sameBut hs ?_⟩
     rintro rfl
     exact hj (nodup_ix hN e1 (I.ok.inj _ _ _ e hc▸hi))
  ·by_cases hcc:c'=c
   ·subst hcc;exact ⟨_,hc'⟩
   ·obtain ⟨w2,z2⟩:=I.cell y c' e
    exact ⟨w2,z2.sameBut hs hcc⟩
  ·obtain ⟨e,n,ne,nf,d⟩:=I.pin p hp
   refine ⟨(hs.2 p.1 ?_).trans e,n,ne,nf,d⟩
   intro q
   rw [q,hoc] at e
   have q':oc=p.2:=Option.some.inj e
   exact d w' (by rw [<- q'];exact hocd)
theorem store_ok {M:Model}{A:Around}{E:Value->Shared->Prop}{i:Nat}{x:Str}{v:V}{u:Value}{Q:Unit->Shared->Prop}(I:Inv X pins σ H s)(hN:X.N.Nodup)(hi:X.N[i]?=some x)(hx:Loc X.env.scope x)(r:RelV v u)
  (h:∀ s',Inv X pins (σ.set i (some v)) H s'->Q () s') (hf:X.fn x=true\/X.env.scope.names.lookup x=some .local:=by first | exact .inl rfl | exact .inr rfl | assumption):wpAny M A (storeName X.env x u) Q E s :=
 store_ok2 I hN hi hx r (fun s' I' _=>h s' I') hf
theorem Inv.call' {s':Shared}{ch:List Addr}(I:Inv X pins σ H s)(ho:s'.os=s.os)(u:Un (frs X.stack) ch H H' s.heap s'.heap)(hok:HOk X.prog X.w H' s'.heap)(hg:AllBare s'.gens)
  (hch:∀ b∈ch,(b∈X.ex\/X.s_0.heap.objs.size<=b)/\b≠X.env.locals/\(∀ x c,X.env.cells.lookup x=some c->c≠b)/\∀ p∈X.pn++pins,p.1≠b):Inv X pins σ H' s':=by
 obtain ⟨h',g',d',t',o'⟩:=s'
 have e:o'=s.os:=ho
 subst e
 exact I.call (g':=g') (t':=t') (d':=d') u hok hg hch
end
abbrev XK:=Value->Option Addr->Hp->Prop
abbrev St:=List (Option V)
abbrev VK:=V->Hp->Prop
abbrev TE:=St->Hp->VK->Prop
abbrev TT:=St->Hp->(Bool->Hp->Prop)->Prop
abbrev TA:=St->Hp->(List V->Hp->Prop)->Prop
structure Ends where
 nx:St->Hp->Prop
 rt:VK
 bk:St->Hp->Prop:=fun _ _=>False
 ct:St->Hp->Prop:=fun _ _=>False
abbrev TS:=Ends->St->Hp->Prop
def EP (X:Cx)(pins:List (Addr×Obj))(σ:St)(Q:VK)(u:Value)(s':Shared):Prop:=∃ v H',Inv X pins σ H' s'/\RelV v u/\Q v H'
def TP (X:Cx)(pins:List (Addr×Obj))(σ:St)(Q:Bool->Hp->Prop)(b:Bool)(s':Shared):Prop:=∃ H',Inv X pins σ H' s'/\Q b H'
def AP (X:Cx)(pins:List (Addr×Obj))(σ:St)(Q:List V->Hp->Prop)(us:List Value)(s':Shared):Prop:=∃ vs H',Inv X pins σ H' s'/\Vals vs us/\Q vs H'
def SP (X:Cx)(pins:List (Addr×Obj))(D:Ends)(f:Flow)(s':Shared):Prop :=
 match f with
 | .next=>∃ σ' H',Inv X pins σ' H' s'/\D.nx σ' H'
 | .brk=>∃ σ' H',Inv X pins σ' H' s'/\D.bk σ' H'
 | .cont=>∃ σ' H',Inv X pins σ' H' s'/\D.ct σ' H'
 | .ret u=>∃ v σ' H',Inv X pins σ' H' s'/\RelV v u/\D.rt v H'
def PE (X:Cx)(e:Expr)(t:TE):Prop :=
 ∀ (pins:List (Addr×Obj)) (s:Shared) (σ:St) (H:Hp) (Q:VK),Inv X pins σ H s->t σ H Q->wpAny (model X.prog X.w) X.A (eval e X.env) (EP X pins σ Q) X.xe s
def PT (X:Cx)(e:Expr)(t:TT):Prop :=
 ∀ (pins:List (Addr×Obj)) (s:Shared) (σ:St) (H:Hp) (Q:Bool->Hp->Prop),Inv X pins σ H s->t σ H Q->wpAny (model X.prog X.w) X.A (isTrue e X.env (eval e X.env)) (TP X pins σ Q) X.xe s
def PW (X:Cx)(e:Expr)(t:TT):Prop :=
 ∀ (whole:Sem Value) (pins:List (Addr×Obj)) (s:Shared) (σ:St) (H:Hp) (Q:Bool->Hp->Prop),Inv X pins σ H s->t σ H Q->wpAny (model X.prog X.w) X.A (isTrue e X.env whole) (TP X pins σ Q) X.xe s
theorem PW.pt {X:Cx}{e:Expr}{t:TT}(h:PW X e t):PT X e t:=h _
def PA (X:Cx)(es:List Expr)(t:TA):Prop :=
 ∀ (pos:Pos) (pins:List (Addr×Obj)) (s:Shared) (σ:St) (H:Hp) (Q:List V->Hp->Prop),Inv X pins σ H s->t σ H Q->wpAny (model X.prog X.w) X.A (spliced (backTo pos (starEach es X.env))) (AP X pins σ Q) X.xe s
def PS (X:Cx)(st:Stmt)(t:TS):Prop :=
 ∀ (pins:List (Addr×Obj)) (s:Shared) (σ:St) (H:Hp) (D:Ends),Inv X pins σ H s->t D σ H->wpAny (model X.prog X.w) X.A (exec st X.env) (SP X pins D) X.xe s
def PSs (X:Cx)(st:List Stmt)(t:TS):Prop :=
 ∀ (pins:List (Addr×Obj)) (s:Shared) (σ:St) (H:Hp) (D:Ends),Inv X pins σ H s->t D σ H->wpAny (model X.prog X.w) X.A (execs st X.env) (SP X pins D) X.xe s
theorem thn {α:Type}{t:Sem α}{Q Q':α->Shared->Prop}{M:Model}{A:Around}{E:Value->Shared->Prop}{s:Shared}(h:wpAny M A t Q E s)(hQ:∀ a s,Q a s->Q' a s):wpAny M A t Q' E s:=wpAny_mono h hQ fun _ _ x=>x
end L2
namespace L2
open PySem PySem.Spec PyProof.Rows
section
variable {X:Cx}
theorem bin {a b:Expr}{ta tb:TE}(ha:PE X a ta)(hb:PE X b tb){pins:List (Addr×Obj)}{s:Shared}{σ:St}{H:Hp}{R:V->V->Hp->Prop}(I:Inv X pins σ H s)(h:ta σ H fun x H1=>tb σ H1 fun y H2=>R x y H2)
  {α:Type} {Q:α->Shared->Prop} {f:Value->Value->Sem α}
  (hf:∀ v u s2 x y H2,Inv X pins σ H2 s2->RelV x v->RelV y u->R x y H2->wpAny (model X.prog X.w) X.A (f v u) Q X.xe s2) :
  wpAny (model X.prog X.w) X.A (eval a X.env) (fun v s₁=>wpAny (model X.prog X.w) X.A (eval b X.env) (fun u s₂=>wpAny (model X.prog X.w) X.A (f v u) Q X.xe s₂) X.xe s₁) X.xe s:=by
 refine thn (ha pins s σ H _ I h) fun v s1 ⟨x,H1,I1,r1,q1⟩=>?_
 refine thn (hb pins s1 σ H1 _ I1 q1) fun u s2 ⟨y,H2,I2,r2,q2⟩=>?_
 exact hf v u s2 x y H2 I2 r1 r2 q2
def tVar (i:Nat):TE:=fun σ H Q=>∃ v,σ[i]?=some (some v)/\Q v H
def tC (v:V):TE:=fun _ H Q=>Q v H
theorem pe_var {i:Nat}{x:Str}{pos:Pos}(hN:X.N[i]?=some x)(hv:Vis X.env.scope x)(hd:(x == ("__debug__" : Str))=false:=by decide) (hcd:(x == ("__classdict__" : Str))=false:=by decide):PE X (.Name x pos) (tVar i):=by
 intro pins s σ H Q I h
 obtain ⟨v,e,h⟩:=h
 obtain ⟨m,hn,hl⟩:=I.loc
 obtain ⟨u,r,l⟩:=hl i x v hN e hv
 have fin:EP X pins σ Q u s:=⟨v,H,I,r,h⟩
 rcases l with ⟨hk,hm⟩ | ⟨hk,c,hc,hcell⟩
 ·exact wpAny_Name (wpAny_loadName_local I.ok.kind hk hn hm fin) hd
 ·rcases hk with hk | hk
  ·exact wpAny_Name (wpAny_loadName_cell I.ok.kind hk hc hcell fin) hd
  ·exact wpAny_Name (wpAny_loadName_free I.ok.kind hk hc hcell fin hcd) hd
theorem pe_int {i j pos}:PE X (.Constant (.int i) j pos) (tC (.int i)):=fun _ _ _ H _ I h=>wpAny_Constant_int ⟨.int i,H,I.tok _,⟨_,rfl⟩,h⟩
theorem pe_bl {b j pos}:PE X (.Constant (.bool b) j pos) (tC (.bl b)):=fun _ _ _ H _ I h=>Constant_bool ⟨.bl b,H,I,rfl,h⟩
theorem pe_str {x j pos}:PE X (.Constant (.str x) j pos) (tC (.str x)):=fun _ _ _ H _ I h=>Calls.Constant_str ⟨.str x,H,I.tok _,⟨_,rfl⟩,h⟩
def Gl (X:Cx)(x:Str):Prop:=X.env.kindOf x=some .globalImplicit
theorem ld_glob {E:Value->Shared->Prop}{pins:List (Addr×Obj)}{s:Shared}{σ:St}{H:Hp}{x:Str}{u:Value}{pos:Pos}{Q:Value->Shared->Prop}(I:Inv X pins σ H s)(hg:Gl X x)(hm:X.mg x=some u)(h:Q u s)
  (hd:(x == ("__debug__" : Str))=false:=by decide):wpAny (model X.prog X.w) X.A (eval (.Name x pos) X.env) Q E s :=
 Calls.Name_function_global I.ok.kind hg (Calls.loadGlobal_global (by rw [I.ok.glob];exact I.mod.glob.keeps I.bk) hm h) hd
theorem ld_blt {E:Value->Shared->Prop}{pins:List (Addr×Obj)}{s:Shared}{σ:St}{H:Hp}{x:Str}{u:Value}{pos:Pos}{Q:Value->Shared->Prop}(I:Inv X pins σ H s)(hg:Gl X x)(hm:X.mg x=none)(hv:bootBuiltins x=some u)(h:Q u s)
  (hn:x≠"__name__":=by decide) (hd:(x == ("__debug__" : Str))=false:=by decide):wpAny (model X.prog X.w) X.A (eval (.Name x pos) X.env) Q E s:=by
 obtain ⟨mb,h1,h2⟩:=I.mod.blt
 exact Calls.Name_function_global I.ok.kind hg (Calls.loadGlobal_builtin (by rw [I.ok.glob];exact I.mod.glob.keeps I.bk) hm (by rw [I.ok.blt];exact h1.keeps I.bk) ((h2 x hn).trans hv) h) hd
theorem pe_glob {x:Str}{v:V}{u:Value}{pos:Pos}(hg:Gl X x)(hm:X.mg x=some u)(r:RelV v u)(hd:(x == ("__debug__" : Str))=false:=by decide):PE X (.Name x pos) (tC v) :=
 fun _ _ _ H _ I h=>ld_glob I hg hm ⟨v,H,I,r,h⟩ hd
def t2I (ta tb:TE)(k:Int->Int->Hp->Prop):St->Hp->Prop:=fun σ H=>ta σ H fun x H1=>tb σ H1 fun y H2=>∃ i j,x=.int i/\y=.int j/\k i j H2
def tAdd (ta tb:TE):TE:=fun σ H Q=>t2I ta tb (fun i j H2=>Q (.int (i+j)) H2) σ H
variable {a b:Expr} {ta tb:TE} {pos:Pos}
theorem pe_add (ha:PE X a ta)(hb:PE X b tb):PE X (.BinOp a .Add b pos) (tAdd ta tb):=by
 intro pins s σ H Q I h
 refine wpAny_BinOp (bin ha hb I h fun v u s2 x y H2 I2 rx ry q=>?_)
 obtain ⟨i,j,rfl,rfl,q⟩:=q
 obtain ⟨t,rfl⟩:=rx
 obtain ⟨t',rfl⟩:=ry
 exact add_int ⟨.int _,H2,I2.tok _,⟨_,rfl⟩,q⟩
def PC (X:Cx)(op:CmpOp)(a b:Expr)(t:TE):Prop :=
 ∀ (pins:List (Addr×Obj)) (s:Shared) (σ:St) (H:Hp) (Q:VK),Inv X pins σ H s->t σ H Q ->
  wpAny (model X.prog X.w) X.A (eval a X.env) (fun v s₁=>wpAny (model X.prog X.w) X.A (eval b X.env) (fun u s₂=>wpAny (model X.prog X.w) X.A (compareOp op v u) (EP X pins σ Q) X.xe s₂) X.xe s₁) X.xe s
def tB (t:TE):TT:=fun σ H Q=>t σ H fun x H1=>∃ c,x=.bl c/\Q c H1
theorem pt_cmp {op:CmpOp}{t:TE}(h:PC X op a b t)(h1:behindInMarks op b=false:=by first | exact nobehind _ (by decide) (by decide) | rfl):PT X (.Compare a [op] [b] pos) (tB t):=by
 intro pins s σ H Q I hw
 refine wpAny_isTrue_Compare1 (thn (h pins s σ H _ I hw) fun v s1 h1=>thn h1 fun u s2 h2=>thn h2 fun c s3 ⟨x,H1,I1,r1,q1⟩=>?_) h1
 obtain ⟨d,rfl,q⟩:=q1
 cases r1
 exact wpAny_truthy_bool ⟨H1,I1,q⟩
theorem pt_val {e:Expr}{t:TE}(h:PE X e t)(he:∀ whole,isTrue e X.env whole=(do let v <- whole;standAt e.pos;holding [v] (truthy v)):=by intro _;rfl):PT X e (tB t):=by
 intro pins s σ H Q I hw
 refine isTrue_plain (thn (h pins s σ H _ I hw) fun v s1 ⟨x,H1,I1,r1,q1⟩=>?_) (he _)
 obtain ⟨d,rfl,q⟩:=q1
 cases r1
 exact wpAny_truthy_bool ⟨H1,I1,q⟩
variable {tA tB':TT} {rest:List Expr}
def tAnd (t u:TT):TT:=fun σ H Q=>t σ H fun c H1=>if c=true then u σ H1 Q else Q false H1
def tOr (t u:TT):TT:=fun σ H Q=>t σ H fun c H1=>if c=true then Q true H1 else u σ H1 Q
def tNot (t:TT):TT:=fun σ H Q=>t σ H fun c H1=>Q (!c) H1
theorem pw_and1 (ha:PT X a tA):PW X (.BoolOp .And [a] pos) tA:=by
 intro wh pins s σ H Q I h
 refine isTrue_and (thn (ha pins s σ H Q I h) fun c s1 e=>?_)
 cases c with
 | true=>exact isTrue_and_nil e
 | false=>exact e
theorem pw_or1 (ha:PT X a tA):PW X (.BoolOp .Or [a] pos) tA:=by
 intro wh pins s σ H Q I h
 refine isTrue_or (thn (ha pins s σ H Q I h) fun c s1 e=>?_)
 cases c with
 | false=>exact isTrue_or_nil e
 | true=>exact e
theorem pw_and (ha:PT X a tA)(hb:PW X (.BoolOp .And (b::rest) pos) tB'):PW X (.BoolOp .And (a::b::rest) pos) (tAnd tA tB'):=by
 intro wh pins s σ H Q I h
 refine isTrue_and (thn (ha pins s σ H _ I h) fun c s1 ⟨H1,I1,q1⟩=>?_)
 cases c with
 | true=>exact hb wh pins s1 σ H1 Q I1 q1
 | false=>exact ⟨H1,I1,q1⟩
theorem pw_or (ha:PT X a tA)(hb:PW X (.BoolOp .Or (b::rest) pos) tB'):PW X (.BoolOp .Or (a::b::rest) pos) (tOr tA tB'):=by
 intro wh pins s σ H Q I h
 refine isTrue_or (thn (ha pins s σ H _ I h) fun c s1 ⟨H1,I1,q1⟩=>?_)
 cases c with
 | true=>exact ⟨H1,I1,q1⟩
 | false=>exact hb wh pins s1 σ H1 Q I1 q1
theorem pt_not (ha:PT X a tA):PT X (.UnaryOp .Not a pos) (tNot tA):=by
 intro pins s σ H Q I h
 exact isTrue_not (ha pins s σ H (fun c H1=>Q (!c) H1) I h)
def tAndV (ta tb:TE):TE:=fun σ H Q=>ta σ H fun x H1=>∃ c,x=.bl c/\if c=true then tb σ H1 Q else Q (.bl false) H1
theorem pe_one {op}{t:TE}(h:PE X a t):PE X (.BoolOp op [a] pos) t:=fun pins s σ H Q I hw=>BoolOp_one (h pins s σ H Q I hw)
theorem pe_and (ha:PE X a ta)(hb:PE X (.BoolOp .And (b::rest) pos) tb):PE X (.BoolOp .And (a::b::rest) pos) (tAndV ta tb):=by
 intro pins s σ H Q I h
 refine BoolOp_and (thn (ha pins s σ H _ I h) fun v s1 ⟨x,H1,I1,r1,q1⟩=>?_)
 obtain ⟨c,rfl,q1⟩:=q1
 cases r1
 refine wpAny_truthy_bool ?_
 cases c with
 | true=>exact hb pins s1 σ H1 Q I1 q1
 | false=>exact ⟨.bl false,H1,I1,rfl,q1⟩
def tIf (t:TT)(ta tb:TE):TE:=fun σ H Q=>t σ H fun c H1=>if c=true then ta σ H1 Q else tb σ H1 Q
theorem pe_ifExp {c:Expr}(hc:PT X c tA)(ha:PE X a ta)(hb:PE X b tb):PE X (.IfExp c a b pos) (tIf tA ta tb):=by
 intro pins s σ H Q I h
 refine wpAny_IfExp (thn (hc pins s σ H _ I h) fun d s1 ⟨H1,I1,q1⟩=>?_)
 cases d with
 | true=>exact ha pins s1 σ H1 Q I1 q1
 | false=>exact hb pins s1 σ H1 Q I1 q1
end
end L2
namespace L2
open PySem PySem.Spec PyProof.Rows
def SqL (K:PySem.W.Frag)(H:Hp)(a:Addr)(xs:List V):Prop :=
 Rd H a (.lst xs) \/
  ∃ (o:Obj) (its:Array Value) (n:Nat),K.lookup a=some o/\o.cls=.type "list"/\o.dict=none/\o.data=.seq its n/\its.size<=sizeLine/\Vals xs its.toList
def SqT (K:PySem.W.Frag)(H:Hp)(a:Addr)(xs:List V):Prop :=
 Rd H a (.tup xs) \/
  ∃ (o:Obj) (its:Array Value) (n:Nat),K.lookup a=some o/\o.cls=.type "tuple"/\o.data=.seq its n/\its.size<=sizeLine/\Vals xs its.toList
def absV:Value->Option V
 | .none=>some .non
 | .bool b=>some (.bl b)
 | .int i _=>some (.int i)
 | .str x _=>some (.str x)
 | .bytes b _=>some (.byt b)
 | .float b _=>some (.flt b)
 | .ref a=>some (.ref a)
 | .type n=>some (.ty n)
 | _=>none
theorem RelV.abs {x:V}{u:Value}(r:RelV x u):absV u=some x:=by
 cases x with
 | non=>cases r;rfl
 | bl _=>cases r;rfl
 | int _=>obtain ⟨t,rfl⟩:=r;rfl
 | str _=>obtain ⟨t,rfl⟩:=r;rfl
 | byt _=>obtain ⟨t,rfl⟩:=r;rfl
 | flt _=>obtain ⟨t,rfl⟩:=r;rfl
 | ref _=>cases r;rfl
 | ty _=>cases r;rfl
theorem RelV.inj {x y:V}{u:Value}(r:RelV x u)(q:RelV y u):x=y:=Option.some.inj (r.abs.symm.trans q.abs)
theorem Vals.inj:∀ {xs ys:List V} {us:List Value},Vals xs us->Vals ys us->xs=ys
 | _,_,_,.nil,.nil=>rfl
 | _,_,_,.cons r t,.cons r' t'=>by rw [r.inj r',Vals.inj t t']
section
variable {X:Cx} {pins:List (Addr×Obj)} {σ:St} {H:Hp} {s:Shared} {a:Addr} {xs ys:List V}
theorem SqL.of {K:PySem.W.Frag}(h:H a=some (.lst xs)):SqL K H a xs:=.inl (.inl h)
theorem SqT.of {K:PySem.W.Frag}(h:H a=some (.tup xs)):SqT K H a xs:=.inl (.inl h)
theorem Inv.list (I:Inv X pins σ H s)(h:SqL X.K H a xs):∃ its:List Value,Vals xs its/\PlainL s.heap a its.toArray/\xs.length<=sizeLine:=by
 rcases h with h | ⟨o,its,n,hk,hc,hd,hs,hz,r⟩
 ·obtain ⟨z,its,n,r,e⟩:=h.ok I.hok
  exact ⟨its,r,⟨_,n,e,rfl,rfl,rfl⟩,z⟩
 ·refine ⟨its.toList,r,⟨o,n,I.kIn a o hk,hc,hd,by simpa using hs⟩,?_⟩
  have e:=r.length
  simp only [Array.length_toList] at e
  omega
theorem Inv.tuple (I:Inv X pins σ H s)(h:SqT X.K H a xs):∃ its:List Value,Vals xs its/\IsTup s.heap a its.toArray/\xs.length<=sizeLine:=by
 rcases h with h | ⟨o,its,n,hk,hc,hs,hz,r⟩
 ·obtain ⟨z,its,r,p⟩:=h.ok I.hok
  exact ⟨its,r,p,z⟩
 ·refine ⟨its.toList,r,⟨o,I.kIn a o hk,hc,n,by simpa using hs⟩,?_⟩
  have e:=r.length
  simp only [Array.length_toList] at e
  omega
theorem Inv.list_inj (I:Inv X pins σ H s)(h:SqL X.K H a xs)(h':SqL X.K H a ys):xs=ys:=by
 obtain ⟨its,r,⟨o,n,e,_,_,d⟩,_⟩:=I.list h
 obtain ⟨its',r',⟨o',n',e',_,_,d'⟩,_⟩:=I.list h'
 rw [e] at e';cases e'
 rw [d] at d'
 injection d' with d1 _
 have:its=its':=by simpa using congrArg Array.toList d1
 subst this
 exact r.inj r'
end
abbrev Cx.wish (X:Cx)(E:Value->Shared->Prop):Cx:={X with xe:=E}
abbrev Cx.nox (X:Cx):Cx:=X.wish fun _ _=>False
theorem Cx.Ok.wish {X:Cx}(ok:X.Ok)(E:Value->Shared->Prop):(X.wish E).Ok :=
 ⟨ok.mod,ok.kind,ok.glob,ok.blt,ok.above,ok.inj,ok.has,ok.cab,ok.hd,ok.frames,ok.stk,ok.exf,ok.bs,ok.bsz,ok.noex,ok.exfs,ok.funs,ok.frf⟩
theorem Cx.Ok.unwish {X:Cx}{E:Value->Shared->Prop}(ok:(X.wish E).Ok):X.Ok :=
 ⟨ok.mod,ok.kind,ok.glob,ok.blt,ok.above,ok.inj,ok.has,ok.cab,ok.hd,ok.frames,ok.stk,ok.exf,ok.bs,ok.bsz,ok.noex,ok.exfs,ok.funs,ok.frf⟩
section
variable {X:Cx} {pins:List (Addr×Obj)} {σ:St} {H:Hp} {s:Shared} {E:Value->Shared->Prop}
theorem Inv.wish (I:Inv X pins σ H s)(E:Value->Shared->Prop):Inv (X.wish E) pins σ H s:=⟨I.ok.wish E,I.os,I.bare,I.base,I.loc,I.cell,I.free,I.freeC,I.pin,I.hok,I.len⟩
theorem Inv.unwish (I:Inv (X.wish E) pins σ H s):Inv X pins σ H s:=⟨I.ok.unwish,I.os,I.bare,I.base,I.loc,I.cell,I.free,I.freeC,I.pin,I.hok,I.len⟩
theorem SP.unwish {D:Ends}{f:Flow}{s':Shared}(h:SP (X.wish E) pins D f s'):SP X pins D f s':=by
 cases f with
 | next=>obtain ⟨σ',H',I,q⟩:=h;exact ⟨σ',H',I.unwish,q⟩
 | brk=>obtain ⟨σ',H',I,q⟩:=h;exact ⟨σ',H',I.unwish,q⟩
 | cont=>obtain ⟨σ',H',I,q⟩:=h;exact ⟨σ',H',I.unwish,q⟩
 | ret u=>obtain ⟨v,σ',H',I,r,q⟩:=h;exact ⟨v,σ',H',I.unwish,r,q⟩
theorem PSs.nox {st:List Stmt}{t:TS}(h:PSs X.nox st t):PSs X st t:=fun pins s σ H D I hw =>
 wpAny_mono (h pins s σ H D (I.wish _) hw) (fun _ _ q=>q.unwish) fun _ _ z=>False.elim z
end
section
variable {X:Cx} {st:Stmt} {rest:List Stmt} {t u:TS} {e:Expr} {te:TE} {pos:Pos}
def tNext:TS:=fun D σ H=>D.nx σ H
def tSeq (t u:TS):TS:=fun D σ H=>t {D with nx:=u D} σ H
theorem pss_nil:PSs X [] tNext:=fun _ _ σ H _ I h=>wpAny_execs_nil ⟨σ,H,I,h⟩
theorem pss_cons (h1:PS X st t)(h2:PSs X rest u):PSs X (st::rest) (tSeq t u):=by
 intro pins s σ H D I h
 refine wpAny_execs_cons (thn (h1 pins s σ H {D with nx:=u D} I h) fun f s1 q=>?_)
 cases f with
 | next =>
  obtain ⟨σ',H',I',q⟩:=q
  exact h2 pins s1 σ' H' D I' q
 | ret v=>exact q
 | brk=>exact q
 | cont=>exact q
theorem pss_one (h1:PS X st t):PSs X [st] t:=by
 intro pins s σ H D I h
 refine wpAny_execs_cons (thn (h1 pins s σ H D I h) fun f s1 q=>?_)
 cases f with
 | next=>exact wpAny_execs_nil q
 | ret v=>exact q
 | brk=>exact q
 | cont=>exact q
theorem Inv.quiet {pins:List (Addr×Obj)}{σ:St}{H:Hp}{s:Shared}(I:Inv X pins σ H s):interactive X.env=false:=by simp [interactive,I.ok.kind]
def tDrop (te:TE):TS:=fun D σ H=>te σ H fun _ H1=>D.nx σ H1
theorem ps_expr (he:PE X e te)(hs:swapsWith e none pos.line X.env=pure false:=by rfl):PS X (.Expr e pos) (tDrop te):=by
 intro pins s σ H D I h
 exact wpAny_Expr_any (thn (he pins s σ H _ I h) fun v s1 ⟨x,H1,I1,r1,q1⟩=>⟨σ,H1,I1,q1⟩) I.quiet hs
def tRet (te:TE):TS:=fun D σ H=>te σ H D.rt
theorem ps_ret (he:PE X e te):PS X (.Return (some e) pos) (tRet te):=by
 intro pins s σ H D I h
 exact wpAny_Return_some (thn (he pins s σ H _ I h) fun v s1 ⟨x,H1,I1,r1,q1⟩=>⟨x,σ,H1,I1,r1,q1⟩)
def tIfS (c:TT)(t u:TS):TS:=fun D σ H=>c σ H fun b H1=>if b=true then t D σ H1 else u D σ H1
theorem ps_if {c:Expr}{a b:List Stmt}{tc:TT}(hc:PT X c tc)(ha:PSs X a t)(hb:PSs X b u):PS X (.If c a b pos) (tIfS tc t u):=by
 intro pins s σ H D I h
 refine wpAny_If (thn (hc pins s σ H _ I h) fun d s1 ⟨H1,I1,q1⟩=>?_)
 cases d with
 | true=>exact ha pins s1 σ H1 D I1 q1
 | false=>exact hb pins s1 σ H1 D I1 q1
end
abbrev TG:=V->St->Hp->(St->Hp->Prop)->Prop
abbrev TGs:=List V->St->Hp->(St->Hp->Prop)->Prop
def PG (X:Cx)(target:Expr)(t:TG):Prop :=
 ∀ (pins:List (Addr×Obj)) (s:Shared) (σ:St) (H:Hp) (v:V) (u:Value) (Q:St->Hp->Prop),Inv X pins σ H s->RelV v u->t v σ H Q ->
  wpAny (model X.prog X.w) X.A (assign target X.env u) (fun _ s'=>∃ σ' H',Inv X pins σ' H' s'/\Q σ' H') X.xe s
def PGs (X:Cx)(ts:List Expr)(t:TGs):Prop :=
 ∀ (pins:List (Addr×Obj)) (s:Shared) (σ:St) (H:Hp) (vs:List V) (us:List Value) (Q:St->Hp->Prop),Inv X pins σ H s->Vals vs us->t vs σ H Q ->
  wpAny (model X.prog X.w) X.A (assignInOrder ((assignEach ts X.env).map (·.2)) us) (fun _ s'=>∃ σ' H',Inv X pins σ' H' s'/\Q σ' H') X.xe s
abbrev TSet:=V->V->V->Hp->(Hp->Prop)->Prop
def PSet (X:Cx)(t:TSet):Prop :=
 ∀ (pins:List (Addr×Obj)) (s:Shared) (σ:St) (H:Hp) (o i v:V) (ov iv u:Value) (Q:Hp->Prop),Inv X pins σ H s->RelV o ov->RelV i iv->RelV v u->t o i v H Q ->
  wpAny (model X.prog X.w) X.A (setItem ov iv u) (fun _ s'=>∃ H',Inv X pins σ H' s'/\Q H') X.xe s
abbrev TIp:=V->V->Hp->VK->Prop
def PIp (X:Cx)(op:Operator)(t:TIp):Prop :=
 ∀ (pins:List (Addr×Obj)) (s:Shared) (σ:St) (H:Hp) (x y:V) (v u:Value) (Q:VK),Inv X pins σ H s->RelV x v->RelV y u->t x y H Q ->
  wpAny (model X.prog X.w) X.A (inplaceOp op v u) (EP X pins σ Q) X.xe s
section
variable {X:Cx} {pos:Pos}
def gName (i:Nat):TG:=fun v σ H Q=>Q (σ.set i (some v)) H
theorem pg_name {i:Nat}{x:Str}(hN:X.N.Nodup)(hi:X.N[i]?=some x)(hx:Loc X.env.scope x)(hf:X.fn x=true\/X.env.scope.names.lookup x=some .local:=by first | exact .inl rfl | exact .inr rfl | assumption):PG X (.Name x pos) (gName i):=by
 intro pins s σ H v u Q I r h
 exact wpAny_assign_Name (store_ok I hN hi hx r (fun s' I'=>⟨_,H,I',h⟩) hf)
def gNil:TGs:=fun vs σ H Q=>vs=[]/\Q σ H
def gCons (t:TG)(u:TGs):TGs:=fun vs σ H Q=>∃ v r,vs=v::r/\t v σ H fun σ' H'=>u r σ' H' Q
theorem pgs_nil:PGs X [] gNil:=by
 intro pins s σ H vs us Q I r h
 obtain ⟨e,h⟩:=h
 subst e
 cases r
 exact assignInOrder_nil ⟨σ,H,I,h⟩
theorem pgs_cons {e:Expr}{es:List Expr}{t:TG}{u:TGs}(h1:PG X e t)(h2:PGs X es u)
  (hs:(assignEach (e::es) X.env).map (·.2)=assign e X.env::(assignEach es X.env).map (·.2):=by rfl):PGs X (e::es) (gCons t u):=by
 intro pins s σ H vs us Q I r h
 obtain ⟨v,vr,e1,h⟩:=h
 subst e1
 cases r with
 | cons r rr =>
  rw [hs]
  refine assignInOrder_cons (thn (h1 pins s σ H _ _ _ I r h) fun _ s1 ⟨σ1,H1,I1,q1⟩=>?_)
  exact h2 pins s1 σ1 H1 _ _ Q I1 rr q1
def gTup (K:PySem.W.Frag)(n:Nat)(t:TGs):TG:=fun v σ H Q=>∃ a xs,v=.ref a/\SqT K H a xs/\xs.length=n/\t xs σ H Q
theorem pg_tup {es:List Expr}{k:Nat}{t:TGs}{n:Nat}(hc:X.calm=true)(h:PGs X es t)
  (hn:(assignEach es X.env).length=n:=by rfl) (hst:(assignEach es X.env).findIdx? (·.1)=none:=by rfl):PG X (.Tuple es k pos) (gTup X.K n t):=by
 intro pins s σ H v u Q I r hw
 obtain ⟨a,xs,e1,hq,hl,hw⟩:=hw
 subst e1
 cases r
 obtain ⟨its,rv,ht,hz⟩:=I.tuple hq
 refine assign_Tuple_tuple (I.ok.hd hc) ht (by simp [hn,<- hl,rv.length]) hst fun h' hx=>?_
 have I1:Inv X pins σ H {s with heap:=h'}:=I.kept (t':=s.toks) fun b o e=>hx b o (Nat.ne_of_lt (Heap.lt_size e)) e
 exact h pins _ σ H xs _ Q I1 (by simpa using rv) hw
def gSub (to ti:TE)(t:TSet):TG:=fun v σ H Q=>to σ H fun o H1=>ti σ H1 fun i H2=>t o i v H2 fun H3=>Q σ H3
theorem pg_sub {o i:Expr}{to ti:TE}{t:TSet}(ho:PE X o to)(hi:PE X i ti)(hs:PSet X t)
  (ha:∀ v,assign (.Subscript o i pos) X.env v=(do
   let ov <- holding [v] (eval o X.env)
   let iv <- holding [v,ov] (eval i X.env)
   standAt pos
   holding [v,ov,iv] (setItem ov iv v)
   release [v,ov,iv] []):=by intro _;rfl):PG X (.Subscript o i pos) (gSub to ti t):=by
 intro pins s σ H v u Q I r h
 rw [ha]
 refine wpAny_bind (wpAny_holding (thn (ho pins s σ H _ I h) fun ov s1 ⟨x,H1,I1,r1,q1⟩=>?_))
 refine wpAny_bind (wpAny_holding (thn (hi pins s1 σ H1 _ I1 q1) fun iv s2 ⟨y,H2,I2,r2,q2⟩=>?_))
 refine wpAny_bind (wpAny_standAt (wpAny_bind (wpAny_holding (thn (hs pins s2 σ H2 x y v ov iv u _ I2 r1 r2 r q2) fun _ s3 ⟨H3,I3,q3⟩=>?_))))
 exact wpAny_release ⟨σ,H3,I3,q3⟩
def tAsg (te:TE)(g:TG):TS:=fun D σ H=>te σ H fun x H1=>g x σ H1 D.nx
theorem ps_asg {tg e:Expr}{te:TE}{g:TG}(he:PE X e te)(hg:PG X tg g)(hs:swapsWithSole [tg] e pos.line X.env=pure false:=by rfl)(hw:swappedStores [tg] e X.env=pure none:=by rfl)
  (h1:(assignEach [tg] X.env).map (·.2)=[assign tg X.env]:=by rfl):PS X (.Assign [tg] e pos) (tAsg te g):=by
 intro pins s σ H D I h
 refine wpAny_Assign_stores (thn (he pins s σ H _ I h) fun v s1 ⟨x,H1,I1,r1,q1⟩=>?_) hs hw
 rw [h1]
 exact thn (hg pins s1 σ H1 x v _ I1 r1 q1) fun _ s2 q=>q
theorem ps_set {i:Nat}{x:Str}{e:Expr}{te:TE}{pos':Pos}(hN:X.N.Nodup)(hi:X.N[i]?=some x)(hx:Loc X.env.scope x)(he:PE X e te)(hs:swapsWith e (some (.Name x pos')) pos.line X.env=pure false:=by rfl)(hf:X.fn x=true\/X.env.scope.names.lookup x=some .local:=by first | exact .inl rfl | exact .inr rfl | assumption) :
  PS X (.Assign [.Name x pos'] e pos) (tAsg te (gName i)):=by
 intro pins s σ H D I h
 refine wpAny_Assign_Name (thn (he pins s σ H _ I h) fun v s1 ⟨y,H1,I1,r1,q1⟩=>?_) hs
 exact store_ok I1 hN hi hx r1 (fun s2 I2=>⟨_,H1,I2,q1⟩) hf
def tAugS (to ti te:TE)(tget:V->V->Hp->VK->Prop)(tip:TIp)(tset:TSet):TS:=fun D σ H=>to σ H fun o H1=>ti σ H1 fun i H2=>tget o i H2 fun x H3=>te σ H3 fun y H4=>tip x y H4 fun z H5=>tset o i z H5 fun H6=>D.nx σ H6
def PGet (X:Cx)(t:V->V->Hp->VK->Prop):Prop :=
 ∀ (pins:List (Addr×Obj)) (s:Shared) (σ:St) (H:Hp) (o i:V) (ov iv:Value) (Q:VK),Inv X pins σ H s->RelV o ov->RelV i iv->t o i H Q ->
  wpAny (model X.prog X.w) X.A (getItem ov iv) (EP X pins σ Q) X.xe s
theorem ps_augS {o i e:Expr}{to ti te:TE}{tget:V->V->Hp->VK->Prop}{tip:TIp}{tset:TSet}{op:Operator}{tpos:Pos}(ho:PE X o to)(hi:PE X i ti)(hg:PGet X tget)(he:PE X e te)(hp:PIp X op tip)(hs:PSet X tset)
  (ha:∀ ov iv new,augStore i ov iv new=(do holding [new,ov,iv] (setItem ov iv new);release [new,ov,iv] [];pure .next):=by intros;rfl):PS X (.AugAssign (.Subscript o i tpos) op e pos) (tAugS to ti te tget tip tset):=by
 intro pins s σ H D I h
 refine wpAny_AugAssign_SubscriptAny (thn (ho pins s σ H _ I h) fun ov s1 ⟨x1,H1,I1,r1,q1⟩=>?_) ha
 refine thn (hi pins s1 σ H1 _ I1 q1) fun iv s2 ⟨x2,H2,I2,r2,q2⟩=>?_
 refine thn (hg pins s2 σ H2 x1 x2 ov iv _ I2 r1 r2 q2) fun old s3 ⟨x3,H3,I3,r3,q3⟩=>?_
 refine thn (he pins s3 σ H3 _ I3 q3) fun v s4 ⟨x4,H4,I4,r4,q4⟩=>?_
 refine thn (hp pins s4 σ H4 x3 x4 old v _ I4 r3 r4 q4) fun new s5 ⟨x5,H5,I5,r5,q5⟩=>?_
 exact thn (hs pins s5 σ H5 x1 x2 x5 ov iv new _ I5 r1 r2 r5 q5) fun _ s6 ⟨H6,I6,q6⟩=>⟨σ,H6,I6,q6⟩
def ipI (f:Int->Int->Int):TIp:=fun x y H Q=>∃ i j,x=.int i/\y=.int j/\Q (.int (f i j)) H
theorem ip_add:PIp X .Add (ipI fun i j=>i+j):=by
 intro pins s σ H x y v u Q I r1 r2 h
 obtain ⟨i,j,e1,e2,q⟩:=h
 subst e1;subst e2
 obtain ⟨t,rfl⟩:=r1
 obtain ⟨t',rfl⟩:=r2
 exact iadd_int ⟨.int _,H,I.tok _,⟨_,rfl⟩,q⟩
end
section
variable {X:Cx} {pos:Pos}
def tWhile (c:TT)(tb:TS):TS:=fun D σ H=>∃ W:Nat->St->Hp->Prop,(∃ m,W m σ H)/\∀ m σ H,W m σ H ->
 c σ H fun b H1=>if b=true then ∃ N:St->Hp->Prop,(∀ σ' H',N σ' H'->∃ m',m' < m/\W m' σ' H')/\tb {D with nx:=N,ct:=N,bk:=D.nx} σ H1 else D.nx σ H1
theorem ps_while {c:Expr}{body:List Stmt}{tc:TT}{tb:TS}(hp:PassesOwn (model X.prog X.w) X.A X.env X.xe)(hc:PT X c tc)(hb:PSs X body tb):PS X (.While c body [] pos) (tWhile tc tb):=by
 intro pins s σ H D I h
 obtain ⟨W,⟨m0,w0⟩,turn⟩:=h
 refine wpAny_While (codeAny_whileLoop (fun n s'=>∃ σ' H',Inv X pins σ' H' s'/\W n σ' H') ?_ m0 ⟨σ,H,I,w0⟩)
 rintro n s1 ⟨σ1,H1,I1,w1⟩
 refine wpAny_passesOwn hp (thn (hc pins s1 σ1 H1 _ I1 (turn n σ1 H1 w1)) fun b s2 ⟨H2,I2,q2⟩=>?_)
 cases b with
 | true =>
  obtain ⟨N,hN,q2⟩:=q2
  rw [if_pos rfl]
  refine wpAny_passesOwn hp (thn (hb pins s2 σ1 H2 _ I2 q2) fun f s3 q3=>?_)
  cases f with
  | next =>
   obtain ⟨σ3,H3,I3,n3⟩:=q3
   obtain ⟨m',hm,w3⟩:=hN σ3 H3 n3
   exact ⟨m',hm,σ3,H3,I3,w3⟩
  | cont =>
   obtain ⟨σ3,H3,I3,n3⟩:=q3
   obtain ⟨m',hm,w3⟩:=hN σ3 H3 n3
   exact ⟨m',hm,σ3,H3,I3,w3⟩
  | brk=>exact q3
  | ret v=>exact q3
 | false =>
  rw [if_neg Bool.false_ne_true]
  exact wpAny_execs_nil ⟨σ1,H2,I2,q2⟩
end
structure It where
 go:Nat->Hp->Prop
 yld:Nat->Hp->V->Hp->Prop
 stop:Nat->Hp->Prop
def FpOk (X:Cx)(pins:List (Addr×Obj))(H:Hp)(b:Addr):Prop :=
 H b=none/\b≠X.env.locals/\b ∉ X.fs/\(b∈X.ex\/X.s_0.heap.objs.size<=b)/\(∀ x c,X.env.cells.lookup x=some c->c≠b)/\∀ p∈X.pn++pins,p.1≠b
theorem Inv.fpOk {X:Cx}{pins:List (Addr×Obj)}{σ:St}{H H':Hp}{s:Shared}{b:Addr}(I:Inv X pins σ H s)(hb:s.heap.objs.size<=b)(hn:H' b=none):FpOk X pins H' b:=by
 refine ⟨hn,Nat.ne_of_gt (Nat.lt_of_lt_of_le I.lt hb),I.nofs hb,.inr (Nat.le_trans I.sz hb),fun x c e z=>?_,fun p hp z=>?_⟩
 ·obtain ⟨v,q⟩:=I.cell x c e
  exact absurd (Nat.lt_of_lt_of_le q.lt (by rw [z];exact hb)) (Nat.lt_irrefl _)
 ·exact absurd (Nat.lt_of_lt_of_le (Heap.lt_size (I.pin p hp).1) (by rw [z];exact hb)) (Nat.lt_irrefl _)
structure Turn (P:Program)(w:World)(K:PySem.W.Frag)(tg:Expr)(J:It)(fp:List Addr)(it:Addr)(tn:Nat->Heap->Prop):Prop where
 mem:it∈fp
 obj:∀ i h,tn i h->∀ b∈fp,∃ o,h.get? b=some o/\∀ v,o.data≠.cell v
 keep:∀ i h h',tn i h->(∀ b∈fp,∀ o,h.get? b=some o->h'.get? b=some o)->tn i h'
 item:∀ (X:Cx),X.prog=P->X.w=w->X.K=K->X.calm=true->∀ (i:Nat) (pins:List (Addr×Obj)) (s:Shared) (σ:St) (H:Hp) (E:Value->Shared->Prop),Inv X pins σ H s->(∀ b∈fp,FpOk X pins H b)->tn i s.heap->J.go i H ->
  wpAny (model P w) X.A (pyNext (.ref it)) (fun r s1=>∃ u,r=some u /\
   wpAny (model P w) X.A (letOwnedTupleGo tg (.ref it) u) (fun _ s2=>∃ x H',Inv X pins σ H' s2/\RelV x u/\J.yld i H x H'/\tn (i+1) s2.heap/\∀ b∈fp,H' b=none) E s1) E s
 done:∀ (X:Cx),X.prog=P->X.w=w->X.K=K->X.calm=true->∀ (i:Nat) (pins:List (Addr×Obj)) (s:Shared) (σ:St) (H:Hp) (E:Value->Shared->Prop),Inv X pins σ H s->(∀ b∈fp,FpOk X pins H b)->tn i s.heap->J.stop i H ->
  wpAny (model P w) X.A (pyNext (.ref it)) (fun r s1=>r=none/\Inv X pins σ H s1) E s
 self:∀ (A:Around) (i:Nat) (s:Shared) (Q:Value->Shared->Prop) (E:Value->Shared->Prop),tn i s.heap->Q (.ref it) s->wpAny (model P w) A (pyIter (.ref it)) Q E s
abbrev TI:=St->Hp->(It->Hp->Prop)->Prop
def PIE (X:Cx)(pins:List (Addr×Obj))(σ:St)(tg:Expr)(R:It->Hp->Prop)(itv:Value)(s2:Shared):Prop :=
 ∃ (it:Addr) (fp:List Addr) (tn:Nat->Heap->Prop) (J:It) (H':Hp),itv=.ref it/\Inv X pins σ H' s2/\Turn X.prog X.w X.K tg J fp it tn/\tn 0 s2.heap/\(∀ b∈fp,FpOk X pins H' b)/\R J H'
def PI (X:Cx)(tg iter:Expr)(wi:TI):Prop :=
 ∀ (pins:List (Addr×Obj)) (s:Shared) (σ:St) (H:Hp) (R:It->Hp->Prop),Inv X pins σ H s->wi σ H R ->
  wpAny (model X.prog X.w) X.A (eval iter X.env) (fun v s1=>wpAny (model X.prog X.w) X.A (pyIter v) (PIE X pins σ tg R) X.xe s1) X.xe s
theorem go_of {M:Model}{A:Around}{E:Value->Shared->Prop}{s:Shared}{tg:Expr}{it:Addr}{u:Value}{o:Obj}{n:String}{vs:Array Value}{Q:Unit->Shared->Prop}(ho:s.heap.get? it=some o)(hc:o.cls=.type n)(hd:o.data=.fields vs)
  (hn:["enumerate","zip","dict_itemiterator","dict_reverseitemiterator","odict_iterator","itertools.zip_longest","itertools.pairwise"].contains n=false) (hQ:Q () s):wpAny M A (letOwnedTupleGo tg (.ref it) u) Q E s:=by
 unfold letOwnedTupleGo
 cases tg<;>first
  | exact wpAny_pure hQ
  |(cases u<;>first
    | exact wpAny_pure hQ
    |(refine wpAny_bind (wpAny_load ho ?_)
      rw [hc,hd]
      show wpAny M A (if (["enumerate","zip","dict_itemiterator","dict_reverseitemiterator","odict_iterator","itertools.zip_longest","itertools.pairwise"].contains n && vs[0]? == some (rawInt _))=true then _ else _) Q E s
      rw [if_neg (by intro h;rw [hn,Bool.false_and] at h;cases h)]
      exact wpAny_pure hQ))
def Itl (K:PySem.W.Frag)(a:Addr):It :=
 ⟨fun i H=>∃ xs x,SqL K H a xs/\xs[i]?=some x,fun i H x H'=>H'=H/\∀ xs,SqL K H a xs->xs[i]?=some x,fun i H=>∃ xs,SqL K H a xs/\xs.length<=i⟩
def Itr (lo:Int)(n:Nat):It:=⟨fun i _=>i < n,fun i H x H'=>H'=H/\x=.int (lo+i),fun i _=>n<=i⟩
theorem turn_list {P:Program}{w:World}{K:PySem.W.Frag}{tg:Expr}(a it:Addr):Turn P w K tg (Itl K a) [it] it (fun i h=>h.IsListIter it a i) where
 mem:=by simp
 obj:=fun i h st b hb=>by
  have e:b=it:=by simpa using hb
  subst e
  obtain ⟨o,e,c,d⟩:=st
  exact ⟨o,e,fun v z=>by rw [d] at z;cases z⟩
 keep:=fun i h h' st k=>st.at fun o e=>k it (by simp) o e
 item:=by
  intro X hP hw hK hc i pins s σ H E I hf st hg
  subst hP hw hK
  obtain ⟨xs,x,hq,hx⟩:=hg
  obtain ⟨its,rv,p,hz⟩:=I.list hq
  obtain ⟨u,hu,ru⟩:=rv.get hx
  obtain ⟨f0,f1,f2,f3,f4,f5⟩:=hf it (by simp)
  refine wpAny_pyNext_list_item st p.isList (x:=u) (by simpa using hu) fun h' st' sb=>?_
  have I1:Inv X pins σ H {s with heap:=h'}:=I.turned (t':=s.toks) (fun b o hb e=>(sb.2 b hb).trans e) f0 f1 f3 f4 f5
  obtain ⟨o,e,c,d⟩:=id st'
  exact ⟨u,rfl,go_of (s:={s with heap:=h'}) e c d (by decide) ⟨x,H,I1,ru,⟨rfl,fun ys hy=>by rw [I.list_inj hy hq];exact hx⟩,st',fun b hb=>(hf b hb).1⟩⟩
 done:=by
  intro X hP hw hK hc i pins s σ H E I hf st hg
  subst hP hw hK
  obtain ⟨xs,hq,hx⟩:=hg
  obtain ⟨its,rv,p,hz⟩:=I.list hq
  obtain ⟨f0,f1,f2,f3,f4,f5⟩:=hf it (by simp)
  have hl:=rv.length
  exact wpAny_pyNext_list_end (I.ok.hd hc) st p.isList (by simp;omega) fun h' eb=>⟨rfl,I.turned (t':=s.toks) (fun b o hb e=>eb b o hb e) f0 f1 f3 f4 f5⟩
 self:=fun _ _ _ _ _ st h=>wpAny_pyIter_listiter st h
theorem turn_range {P:Program}{w:World}{K:PySem.W.Frag}{tg:Expr}(it:Addr)(lo:Int)(n:Nat):Turn P w K tg (Itr lo n) [it] it (fun i h=>IsRangeIter h it (lo+(i:Nat)*1) ((n:Int)-(i:Nat)) 1) where
 mem:=by simp
 obj:=fun i h st b hb=>by
  have e:b=it:=by simpa using hb
  subst e
  exact ⟨_,st,fun v z=>by
   have z':Data.fields _=Data.cell v:=z
   cases z'⟩
 keep:=fun i h h' st k=>k it (by simp) _ st
 item:=by
  intro X hP hw hK hc i pins s σ H E I hf st hg
  subst hP hw hK
  obtain ⟨f0,f1,f2,f3,f4,f5⟩:=hf it (by simp)
  have W:=Walks.range (prog:=X.prog) (w:=X.w) (I.ok.hd hc) it lo 1 n
  refine W.item i s _ _ hg st fun v h' tk hv st' kk=>?_
  obtain ⟨t,rfl⟩:=hv
  have I1:Inv X pins σ H {s with heap:=h',toks:=tk}:=I.turned (fun b o hb e=>kk b o (by simpa using hb) e) f0 f1 f3 f4 f5
  refine ⟨_,rfl,go_of (s:={s with heap:=h',toks:=tk}) (n:="range_iterator") st' rfl rfl (by decide) ⟨.int (lo+i),H,I1,⟨t,?_⟩,⟨rfl,rfl⟩,st',fun b hb=>(hf b hb).1⟩⟩
  rw [Int.mul_one]
 done:=by
  intro X hP hw hK hc i pins s σ H E I hf st hg
  subst hP hw hK
  obtain ⟨f0,f1,f2,f3,f4,f5⟩:=hf it (by simp)
  exact wpAny_pyNext_range_end (I.ok.hd hc) st (by have:n<=i:=hg;omega) fun h' eb=>⟨rfl,I.turned (t':=s.toks) (fun b o hb e=>eb b o hb e) f0 f1 f3 f4 f5⟩
 self:=fun _ _ _ _ _ st h=>wpAny_pyIter_rangeiter st h
end L2
namespace L2
open PySem PySem.Spec PyProof.Rows
section
variable {X:Cx} {tg:Expr}
def iList (K:PySem.W.Frag)(tl:TE):TI:=fun σ H R=>tl σ H fun x H1=>∃ a,x=.ref a/\(∃ xs,SqL K H1 a xs)/\R (Itl K a) H1
theorem pi_list {l:Expr}{tl:TE}(hl:PE X l tl):PI X tg l (iList X.K tl):=by
 intro pins s σ H R I h
 refine thn (hl pins s σ H _ I h) fun v s1 ⟨x,H1,I1,r1,q1⟩=>?_
 obtain ⟨a,e,⟨xs,hq⟩,q⟩:=q1
 subst e
 cases r1
 obtain ⟨its,rv,p,hz⟩:=I1.list hq
 refine wpAny_pyIter_list p.isList ?_
 refine ⟨s1.heap.objs.size,[s1.heap.objs.size],_,_,H1,rfl,I1.kept (t':=s1.toks) fun b o e=>Heap.get?_push_of_some _ e,turn_list a _,⟨_,Heap.get?_push_size _ rfl,rfl,rfl⟩,fun b hb=>?_,q⟩
 have e:b=s1.heap.objs.size:=by simpa using hb
 subst e
 exact I1.fpOk (Nat.le_refl _) (I1.hok.fresh (Nat.le_refl _))
theorem range_it {pins:List (Addr×Obj)}{σ:St}{H:Hp}{s:Shared}{R:It->Hp->Prop}{E:Value->Shared->Prop}{lo hi:Int}{t u v:Tok}{tk:Nat}(I:Inv X pins σ H s)(h1 : -(2 ^ 62)<=lo)(h2:lo < 2 ^ 62)(h3 : -(2 ^ 62)<=hi)(h4:hi < 2 ^ 62)
  (q:R (Itr lo (hi-lo).toNat) H):wpAny (model X.prog X.w) X.A (pyIter (.ref s.heap.objs.size)) (PIE X pins σ tg R) E {s with heap:=s.heap.push {cls:=.type "range",data:=.fields #[.int lo t,.int hi u,.int 1 v]},toks:=tk}:=by
 refine wpAny_pyIter_range (IsRange.new ..) (small_one h1 h2 h3 h4) ?_
 have I1:Inv X pins σ H {s with heap:=s.heap.push {cls:=.type "range",data:=.fields #[.int lo t,.int hi u,.int 1 v]},toks:=tk}:=I.kept fun b o e=>Heap.get?_push_of_some _ e
 refine ⟨(s.heap.push {cls:=.type "range",data:=.fields #[.int lo t,.int hi u,.int 1 v]}).objs.size,[(s.heap.push {cls:=.type "range",data:=.fields #[.int lo t,.int hi u,.int 1 v]}).objs.size],_,_,H,rfl,
  I1.kept (t':=tk) fun b o e=>Heap.get?_push_of_some _ e,turn_range _ lo (hi-lo).toNat,?_,fun b hb=>?_,q⟩
 ·have e1:lo+((0:Nat):Int)*1=lo:=by simp
  have e2:(((hi-lo).toNat:Nat):Int)-((0:Nat):Int)=Builtin.Range.rangeSize lo hi 1:=by rw [rangeSize_one];split<;>omega
  show IsRangeIter _ _ (lo+((0:Nat):Int)*1) ((((hi-lo).toNat:Nat):Int)-((0:Nat):Int)) 1
  rw [e1,e2]
  exact Heap.get?_push_size _ rfl
 ·have e:b=(s.heap.push {cls:=.type "range",data:=.fields #[.int lo t,.int hi u,.int 1 v]}).objs.size:=by simpa using hb
  subst e
  exact I1.fpOk (Nat.le_refl _) (I1.hok.fresh (Nat.le_refl _))
def iRng1 (ta:TA):TI:=fun σ H R=>ta σ H fun vs H1=>∃ j:Int,vs=[.int j]/\-(2 ^ 62)<=j/\j < 2 ^ 62/\R (Itr 0 j.toNat) H1
def iRng2 (ta:TA):TI:=fun σ H R=>ta σ H fun vs H1=>∃ i j:Int,vs=[.int i,.int j]/\(-(2 ^ 62)<=i/\i < 2 ^ 62/\-(2 ^ 62)<=j/\j < 2 ^ 62)/\R (Itr i (j-i).toNat) H1
theorem pi_range1 {a:Expr}{ta:TA}{p pos:Pos}(hg:Gl X "range") (hm:X.mg "range" = none) (ha:PA X [a] ta) (hs:starEach [a] X.env=[(false,eval a X.env)]:=by rfl):PI X tg (.Call (.Name "range" p) [a] [] pos) (iRng1 ta):=by
 intro pins s σ H R I h
 refine Call_ (ld_blt I hg hm boot_range (PyProof.Rows.callWith_type1 (thn (ha pos pins s σ H _ I h) fun us s1 ⟨vs,H1,I1,r1,q1⟩=>?_) hs rfl))
 obtain ⟨j,e,q1,q2,q⟩:=q1
 subst e
 cases r1 with
 | cons r rr =>
  cases rr
  obtain ⟨t,rfl⟩:=r
  exact call_range_1 (range_it I1 (by omega) (by omega) q1 q2 (by simpa using q))
theorem pi_range2 {a b:Expr}{ta:TA}{p pos:Pos}(hg:Gl X "range") (hm:X.mg "range" = none) (ha:PA X [a,b] ta) (hs:starEach [a,b] X.env=[(false,eval a X.env),(false,eval b X.env)]:=by rfl) (hs2:starEach [b] X.env=[(false,eval b X.env)]:=by rfl) :
  PI X tg (.Call (.Name "range" p) [a,b] [] pos) (iRng2 ta):=by
 intro pins s σ H R I h
 refine Call_ (ld_blt I hg hm boot_range (PyProof.Rows.callWith_type1 (thn (ha pos pins s σ H _ I h) fun us s1 ⟨vs,H1,I1,r1,q1⟩=>?_) (by rw [hs,hs2]) (by rw [hs2];rfl)))
 obtain ⟨i,j,e,⟨q1,q2,q3,q4⟩,q⟩:=q1
 subst e
 cases r1 with
 | cons r rr =>
  cases rr with
  | cons r' rr =>
   cases rr
   obtain ⟨t,rfl⟩:=r
   obtain ⟨t',rfl⟩:=r'
   exact call_range_2 (range_it I1 q1 q2 q3 q4 q)
def tFor (wi:TI)(g:TG)(tb:TS):TS:=fun D σ H=>wi σ H fun J H1=>∃ W:Nat->Nat->St->Hp->Prop,(∃ m,W 0 m σ H1)/\∀ i m σ H,W i m σ H ->
 (J.stop i H/\D.nx σ H)\/(J.go i H/\∃ N:St->Hp->Prop,(∀ σ' H',N σ' H'->∃ m',m' < m/\W (i+1) m' σ' H')/\∀ x H',J.yld i H x H'->g x σ H' fun σ2 H2=>tb {D with nx:=N,ct:=N,bk:=D.nx} σ2 H2)
def pinsAt (fp:List Addr)(h:Heap):List (Addr×Obj):=fp.filterMap fun b=>(h.get? b).map fun o=>(b,o)
theorem mem_pinsAt {fp:List Addr}{h:Heap}{b:Addr}{o:Obj}(hb:b∈fp)(e:h.get? b=some o):(b,o)∈pinsAt fp h:=List.mem_filterMap.mpr ⟨b,hb,by rw [e];rfl⟩
theorem of_pinsAt {fp:List Addr}{h:Heap}{p:Addr×Obj}(hp:p∈pinsAt fp h):p.1∈fp/\h.get? p.1=some p.2:=by
 obtain ⟨b,hb,e⟩:=List.mem_filterMap.mp hp
 cases q:h.get? b with
 | none=>rw [q] at e;cases e
 | some o =>
  rw [q] at e
  have e':(b,o)=p:=Option.some.inj e
  subst e'
  exact ⟨hb,q⟩
theorem Inv.pinned {pins:List (Addr×Obj)}{σ:St}{H:Hp}{s:Shared}{fp:List Addr}(I:Inv X pins σ H s)(hf:∀ b∈fp,FpOk X pins H b)(ho:∀ b∈fp,∃ o,s.heap.get? b=some o/\∀ v,o.data≠.cell v):Inv X (pins++pinsAt fp s.heap) σ H s :=
 I.pins_of fun p hp=>(List.mem_append.mp hp).elim (fun z=>I.pin p (List.mem_append_right _ z)) fun z=>by
  obtain ⟨hb,e⟩:=of_pinsAt z
  obtain ⟨f0,f1,f2,_⟩:=hf p.1 hb
  obtain ⟨o,e',d⟩:=ho p.1 hb
  rw [e] at e';cases e'
  exact ⟨e,f0,f1,f2,d⟩
theorem Inv.unpinned {pins pl:List (Addr×Obj)}{σ:St}{H:Hp}{s:Shared}(I:Inv X (pins++pl) σ H s):Inv X pins σ H s:=I.pins_of fun p hp=>I.pin p (List.mem_append_right _ (List.mem_append_left _ hp))
theorem ps_for {iter:Expr}{body:List Stmt}{wi:TI}{g:TG}{tb:TS}{pos:Pos}(hp:PassesOwn (model X.prog X.w) X.A X.env X.xe)(hc:X.calm=true)(hi:PI X tg iter wi)(hg:PG X tg g)(hb:PSs X body tb)
  (hs:∀ x,foldedSetIterable iter X.env x=pure x:=by intro _;rfl):PS X (.For tg iter body [] pos) (tFor wi g tb):=by
 intro pins s σ H D I h
 refine wpAny_For (thn (hi pins s σ H _ I h) fun v s1 h1=>thn h1 fun itv s2 h2=>?_) hs
 obtain ⟨it,fp,tn,J,H2,e,I2,T,st2,f2,W,⟨m0,w0⟩,turn⟩:=h2
 subst e
 have stat:∀ {H':Hp},(∀ b∈fp,H' b=none)->∀ b∈fp,FpOk X pins H' b:=fun hn b hb=>⟨hn b hb,(f2 b hb).2⟩
 refine codeAny_forLoop_any (fun n s'=>∃ i σ' H',Inv X pins σ' H' s'/\tn i s'.heap/\(∀ b∈fp,H' b=none)/\W i n σ' H') ?_ m0 ⟨0,σ,H2,I2,st2,fun b hb=>(f2 b hb).1,w0⟩
 rintro n s3 ⟨i,σ3,H3,I3,st3,fr3,w3⟩
 rcases turn i n σ3 H3 w3 with ⟨stop,qn⟩ | ⟨go,N,hN,step⟩
 ·refine wpAny_passesOwn hp (thn (T.done X rfl rfl rfl hc i pins s3 σ3 H3 X.xe I3 (stat fr3) st3 stop) fun r s4 ⟨hr,I4⟩=>?_)
  subst hr
  exact wpAny_execs_nil ⟨σ3,H3,I4,qn⟩
 ·refine wpAny_passesOwn hp (thn (T.item X rfl rfl rfl hc i pins s3 σ3 H3 X.xe I3 (stat fr3) st3 go) fun r s4 ⟨u,hr,h4⟩=>?_)
  subst hr
  refine wpAny_passesOwn hp (thn h4 fun _ s5 ⟨x,H5,I5,r5,y5,st5,fr5⟩=>?_)
  have I5':=I5.pinned (stat fr5) (T.obj _ _ st5)
  refine wpAny_passesOwn hp (thn (hg _ s5 σ3 H5 x u _ I5' r5 (step x H5 y5)) fun _ s6 ⟨σ6,H6,I6,q6⟩=>?_)
  refine wpAny_passesOwn hp (thn (hb _ s6 σ6 H6 _ I6 q6) fun f s7 q7=>?_)
  have again:∀ {σ7:St} {H7:Hp},Inv X (pins++pinsAt fp s5.heap) σ7 H7 s7->N σ7 H7->∃ m,m < n/\∃ i σ' H',Inv X pins σ' H' s7/\tn i s7.heap/\(∀ b∈fp,H' b=none)/\W i m σ' H':=fun {σ7 H7} I7 n7=>by
   obtain ⟨m',hm,w7⟩:=hN σ7 H7 n7
   refine ⟨m',hm,i+1,σ7,H7,I7.unpinned,T.keep _ _ _ st5 fun b hb o e=>(I7.pin (b,o) (List.mem_append_right _ (List.mem_append_right _ (mem_pinsAt hb e)))).1,fun b hb=>?_,w7⟩
   obtain ⟨o,e,d⟩:=T.obj _ _ st5 b hb
   exact (I7.pin (b,o) (List.mem_append_right _ (List.mem_append_right _ (mem_pinsAt hb e)))).2.1
  cases f with
  | next=>obtain ⟨σ7,H7,I7,n7⟩:=q7;exact again I7 n7
  | cont=>obtain ⟨σ7,H7,I7,n7⟩:=q7;exact again I7 n7
  | brk=>obtain ⟨σ7,H7,I7,q7⟩:=q7;exact ⟨σ7,H7,I7.unpinned,q7⟩
  | ret v=>obtain ⟨x7,σ7,H7,I7,r7,q7⟩:=q7;exact ⟨x7,σ7,H7,I7.unpinned,r7,q7⟩
end
theorem for_list {K:PySem.W.Frag}{a:Addr}{xs:List V}{g:TG}{tb:TS}{D:Ends}{σ:St}{H:Hp}(Pv:Nat->St->Hp->Prop)(h0:Pv 0 σ H)(hl:∀ i σ H,i<=xs.length->Pv i σ H->SqL K H a xs)
  (hs:∀ i x σ H,xs[i]?=some x->Pv i σ H->g x σ H fun σ2 H2=>tb {D with nx:=Pv (i+1),ct:=Pv (i+1),bk:=D.nx} σ2 H2) (hd:∀ σ H,Pv xs.length σ H->D.nx σ H) :
  ∃ W:Nat->Nat->St->Hp->Prop,(∃ m,W 0 m σ H)/\∀ i m σ H,W i m σ H ->
   ((Itl K a).stop i H/\D.nx σ H)\/((Itl K a).go i H/\∃ N:St->Hp->Prop,(∀ σ' H',N σ' H'->∃ m',m' < m/\W (i+1) m' σ' H')/\∀ x H',(Itl K a).yld i H x H'->g x σ H' fun σ2 H2=>tb {D with nx:=N,ct:=N,bk:=D.nx} σ2 H2):=by
 refine ⟨fun i m σ H=>m=xs.length-i/\i<=xs.length/\Pv i σ H,⟨xs.length,by simp,Nat.zero_le _,h0⟩,?_⟩
 rintro i m σ H ⟨rfl,hi,p⟩
 have q:=hl i σ H hi p
 by_cases hlt:i < xs.length
 ·refine .inr ⟨⟨xs,xs[i],q,by simp [hlt]⟩,Pv (i+1),fun σ' H' p'=>⟨xs.length-(i+1),by omega,rfl,hlt,p'⟩,fun x H' y=>?_⟩
  obtain ⟨e,y⟩:=y
  subst e
  exact hs i x σ _ (y xs q) p
 ·have e:i=xs.length:=by omega
  subst e
  exact .inl ⟨⟨xs,q,Nat.le_refl _⟩,hd σ H p⟩
theorem for_range {lo:Int}{n:Nat}{g:TG}{tb:TS}{D:Ends}{σ:St}{H:Hp}(Pv:Nat->St->Hp->Prop)(h0:Pv 0 σ H)
  (hs:∀ i σ H,i < n->Pv i σ H->g (.int (lo+i)) σ H fun σ2 H2=>tb {D with nx:=Pv (i+1),ct:=Pv (i+1),bk:=D.nx} σ2 H2) (hd:∀ σ H,Pv n σ H->D.nx σ H) :
  ∃ W:Nat->Nat->St->Hp->Prop,(∃ m,W 0 m σ H)/\∀ i m σ H,W i m σ H ->
   ((Itr lo n).stop i H/\D.nx σ H)\/((Itr lo n).go i H/\∃ N:St->Hp->Prop,(∀ σ' H',N σ' H'->∃ m',m' < m/\W (i+1) m' σ' H')/\∀ x H',(Itr lo n).yld i H x H'->g x σ H' fun σ2 H2=>tb {D with nx:=N,ct:=N,bk:=D.nx} σ2 H2):=by
 refine ⟨fun i m σ H=>m=n-i/\i<=n/\Pv i σ H,⟨n,by simp,Nat.zero_le _,h0⟩,?_⟩
 rintro i m σ H ⟨rfl,hi,p⟩
 by_cases hlt:i < n
 ·refine .inr ⟨hlt,Pv (i+1),fun σ' H' p'=>⟨n-(i+1),by omega,rfl,hlt,p'⟩,fun x H' y=>?_⟩
  obtain ⟨e,y⟩:=y
  subst e y
  exact hs i σ _ hlt p
 ·have e:i=n:=by omega
  subst e
  exact .inl ⟨Nat.le_refl _,hd σ H p⟩
theorem while_by {c:TT}{tb:TS}{D:Ends}{σ:St}{H:Hp}(Pv:St->Hp->Prop)(μ:St->Hp->Nat)(h0:Pv σ H)
  (hs:∀ σ H,Pv σ H->c σ H fun b H1=>if b=true then tb {D with nx:=fun σ' H'=>Pv σ' H'/\μ σ' H' < μ σ H,ct:=fun σ' H'=>Pv σ' H'/\μ σ' H' < μ σ H,bk:=D.nx} σ H1 else D.nx σ H1)
  (mono:∀ σ H Q Q',(∀ b H1,Q b H1->Q' b H1)->c σ H Q->c σ H Q'):tWhile c tb D σ H:=by
 refine ⟨fun m σ H=>m=μ σ H/\Pv σ H,⟨_,rfl,h0⟩,?_⟩
 rintro m σ H ⟨rfl,p⟩
 refine mono σ H _ _ (fun b H1 q=>?_) (hs σ H p)
 cases b with
 | true=>exact ⟨_,fun σ' H' ⟨p',l⟩=>⟨_,l,rfl,p'⟩,q⟩
 | false=>exact q
end L2
namespace L2
open PySem PySem.Spec PyProof.Rows
abbrev R2:=V->V->Hp->VK->Prop
def OpR (X:Cx)(f:Value->Value->Sem Value)(r:R2):Prop :=
 ∀ (pins:List (Addr×Obj)) (s:Shared) (σ:St) (H:Hp) (x y:V) (v u:Value) (Q:VK),Inv X pins σ H s->RelV x v->RelV y u->r x y H Q ->
  wpAny (model X.prog X.w) X.A (f v u) (EP X pins σ Q) X.xe s
def UnR (X:Cx)(f:Value->Sem Value)(r:V->Hp->VK->Prop):Prop :=
 ∀ (pins:List (Addr×Obj)) (s:Shared) (σ:St) (H:Hp) (x:V) (v:Value) (Q:VK),Inv X pins σ H s->RelV x v->r x H Q ->
  wpAny (model X.prog X.w) X.A (f v) (EP X pins σ Q) X.xe s
def CallR (X:Cx)(f:Value)(r:List V->Hp->VK->Prop):Prop :=
 ∀ (pins:List (Addr×Obj)) (s:Shared) (σ:St) (H:Hp) (xs:List V) (us:List Value) (Q:VK),Inv X pins σ H s->Vals xs us->r xs H Q ->
  wpAny (model X.prog X.w) X.A (call f us) (EP X pins σ Q) X.xe s
def tOp (r:R2)(ta tb:TE):TE:=fun σ H Q=>ta σ H fun x H1=>tb σ H1 fun y H2=>r x y H2 Q
def tUn (r:V->Hp->VK->Prop)(ta:TE):TE:=fun σ H Q=>ta σ H fun x H1=>r x H1 Q
def rI (C:Int->Int->Prop)(g:Int->Int->V):R2:=fun x y H Q=>∃ i j,x=.int i/\y=.int j/\C i j/\Q (g i j) H
def rI0 (g:Int->Int->V):R2:=fun x y H Q=>∃ i j,x=.int i/\y=.int j/\Q (g i j) H
def rU (g:Int->V):V->Hp->VK->Prop:=fun x H Q=>∃ i,x=.int i/\Q (g i) H
section
variable {X:Cx} {a b c:Expr} {ta tb tc:TE} {pos:Pos}
theorem binT (ha:PE X a ta)(hb:PE X b tb){pins:List (Addr×Obj)}{s:Shared}{σ:St}{H:Hp}{R:V->V->Hp->Prop}(I:Inv X pins σ H s)
  (h:ta σ H fun x H1=>tb σ H1 fun y H2=>R x y H2) {Q:Value->Shared->Prop} {f:Value->Value->Sem Value}
  (hf:∀ v u s2 x y H2,Inv X pins σ H2 s2->RelV x v->RelV y u->R x y H2->wpAny (model X.prog X.w) X.A (f v u) Q X.xe s2) :
  wpAny (model X.prog X.w) X.A (eval a X.env) (fun v s₁=>wpAny (model X.prog X.w) X.A (eval b X.env) (fun u s₂=>wpAny (model X.prog X.w) X.A (f v u) Q X.xe s₂) X.xe s₁) X.xe s:=by
 refine thn (ha pins s σ H _ I h) fun v s1 ⟨x,H1,I1,r1,q1⟩=>?_
 refine thn (hb pins s1 σ H1 _ I1 q1) fun u s2 ⟨y,H2,I2,r2,q2⟩=>?_
 exact hf v u s2 x y H2 I2 r1 r2 q2
theorem pe_op {op:Operator}{r:R2}(ho:OpR X (binaryOp op) r)(ha:PE X a ta)(hb:PE X b tb):PE X (.BinOp a op b pos) (tOp r ta tb):=by
 intro pins s σ H Q I h
 exact wpAny_BinOp (binT ha hb I h fun v u s2 x y H2 I2 rx ry q=>ho pins s2 σ H2 x y v u Q I2 rx ry q)
theorem pe_un {op:UnaryOp}{r:V->Hp->VK->Prop}(ho:UnR X (unaryOp op) r)(ha:PE X a ta):PE X (.UnaryOp op a pos) (tUn r ta):=by
 intro pins s σ H Q I h
 exact UnaryOp_ (thn (ha pins s σ H _ I h) fun v s1 ⟨x,H1,I1,r1,q1⟩=>ho pins s1 σ H1 x v Q I1 r1 q1)
theorem opI {f:Value->Value->Sem Value}{C:Int->Int->Prop}{g:Int->Int->Int}
  (rule:∀ (i j:Int) (t u:Tok) (s:Shared) (Q:Value->Shared->Prop) (E:Value->Shared->Prop),C i j->Q (.int (g i j) s.toks) {s with toks:=s.toks+1}->wpAny (model X.prog X.w) X.A (f (.int i t) (.int j u)) Q E s) :
  OpR X f (rI C fun i j=>.int (g i j)):=by
 intro pins s σ H x y v u Q I rx ry h
 obtain ⟨i,j,rfl,rfl,hc,q⟩:=h
 obtain ⟨t,rfl⟩:=rx
 obtain ⟨t',rfl⟩:=ry
 exact rule i j t t' s _ _ hc ⟨.int (g i j),H,I.tok _,⟨_,rfl⟩,q⟩
theorem opI0 {f:Value->Value->Sem Value}{g:Int->Int->Int}
  (rule:∀ (i j:Int) (t u:Tok) (s:Shared) (Q:Value->Shared->Prop) (E:Value->Shared->Prop),Q (.int (g i j) s.toks) {s with toks:=s.toks+1}->wpAny (model X.prog X.w) X.A (f (.int i t) (.int j u)) Q E s) :
  OpR X f (rI0 fun i j=>.int (g i j)):=by
 intro pins s σ H x y v u Q I rx ry h
 obtain ⟨i,j,rfl,rfl,q⟩:=h
 obtain ⟨t,rfl⟩:=rx
 obtain ⟨t',rfl⟩:=ry
 exact rule i j t t' s _ _ ⟨.int (g i j),H,I.tok _,⟨_,rfl⟩,q⟩
theorem opB0 {f:Value->Value->Sem Value}{g:Int->Int->Bool}
  (rule:∀ (i j:Int) (t u:Tok) (s:Shared) (Q:Value->Shared->Prop) (E:Value->Shared->Prop),Q (.bool (g i j)) s->wpAny (model X.prog X.w) X.A (f (.int i t) (.int j u)) Q E s) :
  OpR X f (rI0 fun i j=>.bl (g i j)):=by
 intro pins s σ H x y v u Q I rx ry h
 obtain ⟨i,j,rfl,rfl,q⟩:=h
 obtain ⟨t,rfl⟩:=rx
 obtain ⟨t',rfl⟩:=ry
 exact rule i j t t' s _ _ ⟨.bl (g i j),H,I,rfl,q⟩
def CDiv (i j:Int):Prop:=0 < j/\j < 1073741824
def CPow (i j:Int):Prop:=0<=j/\j<=1000000/\i.natAbs < 2 ^ 64
def CMul (i j:Int):Prop:=(-(2 ^ 64) < i/\i < 2 ^ 64)\/(-(2 ^ 64) < j/\j < 2 ^ 64)
theorem CMul.ok {i j:Int}(h:CMul i j):IntMulOk i j:=by
 rcases h with ⟨h1,h2⟩ | ⟨h1,h2⟩
 ·exact .of_left (intBits_le_64 h1 h2)
 ·exact .of_right (intBits_le_64 h1 h2)
theorem op_add:OpR X (binaryOp .Add) (rI0 fun i j=>.int (i+j)):=opI0 fun _ _ _ _ _ _ _ q=>add_int q
theorem op_sub:OpR X (binaryOp .Sub) (rI0 fun i j=>.int (i-j)):=opI0 fun _ _ _ _ _ _ _ q=>sub_int q
theorem op_mul:OpR X (binaryOp .Mult) (rI CMul fun i j=>.int (i*j)):=opI fun _ _ _ _ _ _ _ hc q=>mul_int q hc.ok
theorem op_fdiv:OpR X (binaryOp .FloorDiv) (rI CDiv fun i j=>.int (i / j)):=opI fun i j _ _ _ _ _ hc q=>by
 have h1:(0:Int) < j:=hc.1
 have h2:j < 1073741824:=hc.2
 exact floordiv_int (by omega) (by rw [Int.fdiv_eq_ediv_of_nonneg i (by omega)];exact q) (.inl (PyProof.noPylong_small (by omega)))
theorem op_mod:OpR X (binaryOp .Mod) (rI (fun _ j=>0 < j) fun i j=>.int (i % j)):=opI fun i j _ _ _ _ _ hc q=>by
 have h1:(0:Int) < j:=hc
 exact mod_int' (by omega) (by rw [Int.fmod_eq_emod_of_nonneg i (by omega)];exact q)
theorem op_pow:OpR X (binaryOp .Pow) (rI CPow fun i j=>.int (i ^ j.toNat)):=opI fun _ _ _ _ _ _ _ hc q=>pow_int_small hc.1 hc.2.1 hc.2.2 q
theorem unI {f:Value->Sem Value}{g:Int->Int}
  (rule:∀ (i:Int) (t:Tok) (s:Shared) (Q:Value->Shared->Prop) (E:Value->Shared->Prop),Q (.int (g i) s.toks) {s with toks:=s.toks+1}->wpAny (model X.prog X.w) X.A (f (.int i t)) Q E s) :
  UnR X f (rU fun i=>.int (g i)):=by
 intro pins s σ H x v Q I rx h
 obtain ⟨i,rfl,q⟩:=h
 obtain ⟨t,rfl⟩:=rx
 exact rule i t s _ _ ⟨.int (g i),H,I.tok _,⟨_,rfl⟩,q⟩
theorem un_neg:UnR X (unaryOp .USub) (rU fun i=>.int (-i)):=unI fun _ _ _ _ _ q=>neg_int q
end
def scal:V->V->Bool
 | .non,.non=>true | .non,.int _=>true | .int _,.non=>true | .non,.bl _=>true | .bl _,.non=>true | .non,.str _=>true | .str _,.non=>true
 | .int _,.int _=>true | .bl _,.bl _=>true | .str _,.str _=>true | .byt _,.byt _=>true
 | .int _,.str _=>true | .str _,.int _=>true | .bl _,.str _=>true | .str _,.bl _=>true
 | _,_=>false
def rEq:R2:=fun x y H Q=>scal x y=true/\Q (.bl (decide (x=y))) H
def rNe:R2:=fun x y H Q=>scal x y=true/\Q (.bl (!decide (x=y))) H
theorem dec_int {i j:Int}:decide (V.int i=V.int j)=(i == j):=by
 rw [Bool.eq_iff_iff]
 simp
theorem dec_bl {i j:Bool}:decide (V.bl i=V.bl j)=(i == j):=by
 rw [Bool.eq_iff_iff]
 simp
theorem dec_str {i j:Str}:decide (V.str i=V.str j)=(i == j):=by
 rw [Bool.eq_iff_iff]
 simp
theorem dec_byt {i j:Array UInt8}:decide (V.byt i=V.byt j)=(i.toList == j.toList):=by
 rw [Bool.eq_iff_iff]
 cases i
 cases j
 simp
section
variable {X:Cx} {a b c:Expr} {ta tb tc:TE} {pos:Pos}
theorem fin_bl {pins:List (Addr×Obj)}{σ:St}{H:Hp}{s:Shared}{Q:VK}{k k':Bool}(I:Inv X pins σ H s)(q:Q (.bl k) H)(e:k=k'):EP X pins σ Q (.bool k') s:=by
 subst e
 exact ⟨.bl k,H,I,rfl,q⟩
theorem op_eq:OpR X (compareOp .Eq) rEq:=by
 intro pins s σ H x y v u Q I rx ry h
 obtain ⟨hs,q⟩:=h
 cases x with
 | non =>
  cases rx
  cases y with
  | non=>cases ry;exact PySem.EqNone.eq_none_none (fin_bl I q (by simp))
  | bl j=>cases ry;exact PySem.EqNone.eq_none_bool (fin_bl I q (by simp))
  | int j=>obtain ⟨t',rfl⟩:=ry;exact PySem.EqNone.eq_none_int (fin_bl I q (by simp))
  | str j=>obtain ⟨t',rfl⟩:=ry;exact PySem.EqNone.eq_none_str (fin_bl I q (by simp))
  | _=>exact absurd (show false=true from hs) Bool.false_ne_true
 | bl i =>
  cases rx
  cases y with
  | non=>cases ry;exact PySem.EqNone.eq_bool_none (fin_bl I q (by simp))
  | bl j=>cases ry;exact eq_bool (fin_bl I q dec_bl)
  | str j=>obtain ⟨t',rfl⟩:=ry;exact PySem.EqMixed.eq_bool_str (fin_bl I q (by simp))
  | _=>exact absurd (show false=true from hs) Bool.false_ne_true
 | int i =>
  obtain ⟨t,rfl⟩:=rx
  cases y with
  | non=>cases ry;exact PySem.EqNone.eq_int_none (fin_bl I q (by simp))
  | int j=>obtain ⟨t',rfl⟩:=ry;exact eq_int (fin_bl I q dec_int)
  | str j=>obtain ⟨t',rfl⟩:=ry;exact PySem.EqMixed.eq_int_str (fin_bl I q (by simp))
  | _=>exact absurd (show false=true from hs) Bool.false_ne_true
 | str i =>
  obtain ⟨t,rfl⟩:=rx
  cases y with
  | non=>cases ry;exact PySem.EqNone.eq_str_none (fin_bl I q (by simp))
  | bl j=>cases ry;exact PySem.EqMixed.eq_str_bool (fin_bl I q (by simp))
  | int j=>obtain ⟨t',rfl⟩:=ry;exact PySem.EqMixed.eq_str_int (fin_bl I q (by simp))
  | str j=>obtain ⟨t',rfl⟩:=ry;exact eq_str (fin_bl I q dec_str)
  | _=>exact absurd (show false=true from hs) Bool.false_ne_true
 | byt i =>
  obtain ⟨t,rfl⟩:=rx
  cases y with
  | byt j=>obtain ⟨t',rfl⟩:=ry;exact PySem.W.eq_bytes (fin_bl I q dec_byt)
  | _=>exact absurd (show false=true from hs) Bool.false_ne_true
 | _=>cases y<;>exact absurd (show false=true from hs) Bool.false_ne_true
theorem op_ne:OpR X (compareOp .NotEq) rNe:=by
 intro pins s σ H x y v u Q I rx ry h
 obtain ⟨hs,q⟩:=h
 cases x with
 | non =>
  cases rx
  cases y with
  | non=>cases ry;exact PySem.EqNone.ne_none_none (fin_bl I q (by simp))
  | bl j=>cases ry;exact PySem.EqNone.ne_none_bool (fin_bl I q (by simp))
  | int j=>obtain ⟨t',rfl⟩:=ry;exact PySem.EqNone.ne_none_int (fin_bl I q (by simp))
  | str j=>obtain ⟨t',rfl⟩:=ry;exact PySem.EqNone.ne_none_str (fin_bl I q (by simp))
  | _=>exact absurd (show false=true from hs) Bool.false_ne_true
 | bl i =>
  cases rx
  cases y with
  | non=>cases ry;exact PySem.EqNone.ne_bool_none (fin_bl I q (by simp))
  | bl j=>cases ry;exact ne_bool (fin_bl I q (congrArg not dec_bl))
  | str j=>obtain ⟨t',rfl⟩:=ry;exact PySem.EqMixed.ne_bool_str (fin_bl I q (by simp))
  | _=>exact absurd (show false=true from hs) Bool.false_ne_true
 | int i =>
  obtain ⟨t,rfl⟩:=rx
  cases y with
  | non=>cases ry;exact PySem.EqNone.ne_int_none (fin_bl I q (by simp))
  | int j=>obtain ⟨t',rfl⟩:=ry;exact ne_int (fin_bl I q (congrArg not dec_int))
  | str j=>obtain ⟨t',rfl⟩:=ry;exact PySem.EqMixed.ne_int_str (fin_bl I q (by simp))
  | _=>exact absurd (show false=true from hs) Bool.false_ne_true
 | str i =>
  obtain ⟨t,rfl⟩:=rx
  cases y with
  | non=>cases ry;exact PySem.EqNone.ne_str_none (fin_bl I q (by simp))
  | bl j=>cases ry;exact PySem.EqMixed.ne_str_bool (fin_bl I q (by simp))
  | int j=>obtain ⟨t',rfl⟩:=ry;exact PySem.EqMixed.ne_str_int (fin_bl I q (by simp))
  | str j=>obtain ⟨t',rfl⟩:=ry;exact ne_str (fin_bl I q (congrArg not dec_str))
  | _=>exact absurd (show false=true from hs) Bool.false_ne_true
 | byt i =>
  obtain ⟨t,rfl⟩:=rx
  cases y with
  | byt j=>obtain ⟨t',rfl⟩:=ry;exact PySem.W.ne_bytes (fin_bl I q (congrArg not dec_byt))
  | _=>exact absurd (show false=true from hs) Bool.false_ne_true
 | _=>cases y<;>exact absurd (show false=true from hs) Bool.false_ne_true
theorem op_lt:OpR X (compareOp .Lt) (rI0 fun i j=>.bl (decide (i < j))):=opB0 fun _ _ _ _ _ _ _ q=>lt_int q
theorem op_le:OpR X (compareOp .LtE) (rI0 fun i j=>.bl (decide (i<=j))):=opB0 fun _ _ _ _ _ _ _ q=>le_int q
theorem op_gt:OpR X (compareOp .Gt) (rI0 fun i j=>.bl (decide (j < i))):=opB0 fun _ _ _ _ _ _ _ q=>gt_int q
theorem op_ge:OpR X (compareOp .GtE) (rI0 fun i j=>.bl (decide (j<=i))):=opB0 fun _ _ _ _ _ _ _ q=>ge_int q
theorem nomark (b:Expr){op:CmpOp}(h:op≠.In:=by decide)(h2:op≠.NotIn:=by decide):behindInMarks op b=false:=by
 have e1:(op == CmpOp.In)=false:=by cases op<;>first | rfl | exact absurd rfl h
 have e2:(op == CmpOp.NotIn)=false:=by cases op<;>first | rfl | exact absurd rfl h2
 cases b<;>simp [behindInMarks,e1,e2]
theorem pe_cmpR {op:CmpOp}{r:R2}(ho:OpR X (compareOp op) r)(ha:PE X a ta)(hb:PE X b tb)(hm:behindInMarks op b=false):PE X (.Compare a [op] [b] pos) (tOp r ta tb):=by
 intro pins s σ H Q I h
 exact wpAny_Compare1 (binT ha hb I h fun v u s2 x y H2 I2 rx ry q=>ho pins s2 σ H2 x y v u Q I2 rx ry q) hm
def tTest (t:TE):TT:=fun σ H Q=>t σ H fun x H'=>∃ k,x=.bl k/\Q k H'
theorem pt_cmpR {op:CmpOp}{r:R2}(ho:OpR X (compareOp op) r)(ha:PE X a ta)(hb:PE X b tb)(hm:behindInMarks op b=false):PT X (.Compare a [op] [b] pos) (tTest (tOp r ta tb)):=by
 intro pins s σ H Q I h
 refine wpAny_isTrue_Compare1 (thn (ha pins s σ H _ I h) fun v s1 ⟨x,H1,I1,r1,q1⟩=>thn (hb pins s1 σ H1 _ I1 q1) fun u s2 ⟨y,H2,I2,r2,q2⟩ =>
  thn (ho pins s2 σ H2 x y v u _ I2 r1 r2 q2) fun c s3 ⟨z,H3,I3,r3,k,e,q3⟩=>?_) hm
 subst e
 cases r3
 exact wpAny_truthy_bool ⟨H3,I3,q3⟩
def tChain (r r':R2)(ta tb tc:TE):TE:=fun σ H Q=>ta σ H fun x H1=>tb σ H1 fun y H2=>r x y H2 fun z H3=>∃ k,z=.bl k /\
 (if k=true then tc σ H3 fun w' H4=>r' y w' H4 Q else Q (.bl false) H3)
theorem pe_chain {op op':CmpOp}{r r':R2}(ho:OpR X (compareOp op) r)(ho':OpR X (compareOp op') r')(ha:PE X a ta)(hb:PE X b tb)(hc:PE X c tc)
  (hm:lastMarks [op,op'] [b,c]=false:=by with_unfolding_all rfl):PE X (.Compare a [op,op'] [b,c] pos) (tChain r r' ta tb tc):=by
 intro pins s σ H Q I h
 refine Compare_chain (thn (ha pins s σ H _ I h) fun v s1 ⟨x,H1,I1,r1,q1⟩=>chain_link (thn (hb pins s1 σ H1 _ I1 q1) fun u s2 ⟨y,H2,I2,r2,q2⟩ =>
  thn (ho pins s2 σ H2 x y v u _ I2 r1 r2 q2) fun d s3 ⟨z,H3,I3,r3,k,e,q3⟩=>?_)) hm
 subst e
 cases r3
 refine wpAny_truthy_bool ?_
 cases k with
 | false=>exact ite_ff ⟨.bl false,H3,I3,rfl,q3⟩
 | true=>exact ite_tt (chain_last (thn (hc pins s3 σ H3 _ I3 q3) fun w' s4 ⟨z',H4,I4,r4,q4⟩=>ho' pins s4 σ H4 y z' u w' Q I4 r2 r4 q4))
theorem line63:(sizeLine:Nat) < 2 ^ 63:=by rw [sizeLine_eq];decide
theorem vals1 {x:V}{us:List Value}(r:Vals [x] us):∃ u,us=[u]/\RelV x u:=by
 cases r with
 | cons r1 r2=>cases r2;exact ⟨_,rfl,r1⟩
theorem vals2 {x y:V}{us:List Value}(r:Vals [x,y] us):∃ u w',us=[u,w']/\RelV x u/\RelV y w':=by
 cases r with
 | cons r1 r2 =>
  cases r2 with
  | cons r3 r4=>cases r4;exact ⟨_,_,rfl,r1,r3⟩
theorem call_abs:CallR X (.builtin "abs") (fun xs H Q=>∃ i,xs=[.int i]/\Q (.int (if i < 0 then -i else i)) H):=by
 intro pins s σ H xs us Q I r h
 obtain ⟨i,rfl,q⟩:=h
 obtain ⟨u,rfl,t,rfl⟩:=vals1 r
 exact call_abs_int fun u tk=>⟨.int (if i < 0 then -i else i),H,I.tok _,⟨_,rfl⟩,q⟩
theorem call_max2 (hc:X.calm=true):CallR X (.builtin "max") (fun xs H Q=>∃ i j,xs=[.int i,.int j]/\Q (.int (if j > i then j else i)) H):=by
 intro pins s σ H xs us Q I r h
 obtain ⟨i,j,rfl,q⟩:=h
 obtain ⟨u,w',rfl,⟨t,rfl⟩,⟨t',rfl⟩⟩:=vals2 r
 refine max_two_ints (I.ok.hd hc) fun h' tk k=>⟨_,H,I.kept k,?_,q⟩
 by_cases hj:j > i
 ·rw [if_pos hj,if_pos hj];exact ⟨_,rfl⟩
 ·rw [if_neg hj,if_neg hj];exact ⟨_,rfl⟩
theorem call_min2 (hc:X.calm=true):CallR X (.builtin "min") (fun xs H Q=>∃ i j,xs=[.int i,.int j]/\Q (.int (if j < i then j else i)) H):=by
 intro pins s σ H xs us Q I r h
 obtain ⟨i,j,rfl,q⟩:=h
 obtain ⟨u,w',rfl,⟨t,rfl⟩,⟨t',rfl⟩⟩:=vals2 r
 refine min_two_ints (I.ok.hd hc) fun h' tk k=>⟨_,H,I.kept k,?_,q⟩
 by_cases hj:j < i
 ·rw [if_pos hj,if_pos hj];exact ⟨_,rfl⟩
 ·rw [if_neg hj,if_neg hj];exact ⟨_,rfl⟩
end
end L2
namespace L2
open PySem PySem.Spec PyProof.Rows
section
variable {prog:Program} {w:World} {A:Around} {E:Value->Shared->Prop} {s:Shared} {K:PySem.W.Frag} {x dx C f:Addr} {mA:Str->Option Value} {name:Str} {v:Value}
end
section
variable {P:Program} {w:World} {H H':Hp} {h h':Heap} {a C dx:Addr} {fs fs':List (Str×V)}
end
section
variable {X:Cx} {pins:List (Addr×Obj)} {σ:St} {H:Hp} {s:Shared} {a C dx:Addr} {fs:List (Str×V)} {f:Str} {v:V} {A:Around} {E:Value->Shared->Prop}
end
section
variable {X:Cx} {o e value:Expr} {f:Str} {pos pos' tpos:Pos} {ta tv:TE}
end
section
variable {X:Cx} {pins:List (Addr×Obj)} {σ:St} {H:Hp} {s:Shared} {A:Around} {E:Value->Shared->Prop} {Q:Value->Shared->Prop} {c:Value} {b:Bool}
end
end L2
namespace L2
open PySem PySem.Spec PyProof.Rows
structure Room (k:Nat)(A:Around):Prop where
 hd:A.handled=none
 dp:A.depth+3*k+5 < recursionLimit
 un:A.units+16*k+200 < cLine
theorem Room.mono {j k:Nat}{A:Around}(r:Room k A)(h:j<=k):Room j A:=⟨r.hd,by have:=r.dp;omega,by have:=r.un;omega⟩
theorem Room.deeper {k:Nat}{A:Around}(r:Room (k+1) A)(env:Env):Room k (A.deeper env) :=
 ⟨r.hd,by have:=r.dp;show A.depth+1+3*k+5 < _;omega,by have:=r.un;show A.units+3+16*k+200 < _;omega⟩
theorem Room.depth {k:Nat}{A:Around}(r:Room k A):A.depth < recursionLimit:=by have:=r.dp;omega
theorem Room.units {k:Nat}{A:Around}(r:Room k A):A.units+64 < cLine:=by have:=r.un;omega
def tNil:TA:=fun _ H Q=>Q [] H
def tCons (ta:TE)(tr:TA):TA:=fun σ H Q=>ta σ H fun x H1=>tr σ H1 fun xs H2=>Q (x::xs) H2
section
variable {X:Cx} {e:Expr} {es:List Expr} {te:TE} {t:TA} {pos:Pos}
theorem pa_nil:PA X [] tNil:=fun _ _ _ _ H Q I h=>Calls.spliced_nil ⟨[],H,I,.nil,h⟩
theorem pa_cons (ha:PE X e te)(hr:PA X es t)(hs:starEach (e::es) X.env=(false,eval e X.env)::starEach es X.env:=by rfl):PA X (e::es) (tCons te t):=by
 intro pos pins s σ H Q I h
 rw [hs]
 show wpAny _ _ (spliced ((false,eval e X.env)::backTo pos (starEach es X.env))) _ _ s
 refine Calls.spliced_cons (thn (ha pins s σ H _ I h) fun u s1 ⟨x,H1,I1,r1,q1⟩=>?_)
 exact thn (hr pos pins s1 σ H1 _ I1 q1) fun us s2 ⟨xs,H2,I2,r2,q2⟩=>⟨x::xs,H2,I2,.cons r1 r2,q2⟩
def tTup (t:TA):TE:=fun σ H Q=>t σ H fun xs H1=>xs.length<=sizeLine/\∀ p,H1 p=none->Q (.ref p) (upd H1 p (.tup xs))
def tLst (t:TA):TE:=fun σ H Q=>t σ H fun xs H1=>xs.length<=sizeLine/\∀ p,H1 p=none->Q (.ref p) (upd H1 p (.lst xs))
theorem pe_tup {x1}(h:PA X es t):PE X (.Tuple es x1 pos) (tTup t):=by
 intro pins s σ H Q I hq
 refine wpAny_Tuple_spliced (thn (h pos pins s σ H _ I hq) fun us s1 ⟨xs,H1,I1,r,z,q⟩=>⟨by rw [<- r.length];exact z,?_⟩)
 have hf:H1 s1.heap.objs.size=none:=I1.hok.fresh (Nat.le_refl _)
 refine ⟨.ref s1.heap.objs.size,upd H1 s1.heap.objs.size (.tup xs),I1.laid (t':=s1.toks) (fun b u e=>Heap.get?_push_of_some _ e) (Nat.le_refl _) ?_,rfl,q _ hf⟩
 exact ⟨z,us,r,⟨_,Heap.get?_push_size _ rfl,rfl,_,rfl⟩⟩
theorem pe_lst (h:PA X es t):PE X (.List es pos) (tLst t):=by
 intro pins s σ H Q I hq
 refine wpAny_List_spliced (thn (h pos pins s σ H _ I hq) fun us s1 ⟨xs,H1,I1,r,z,q⟩=>⟨by rw [<- r.length];exact z,?_⟩)
 have hf:H1 s1.heap.objs.size=none:=I1.hok.fresh (Nat.le_refl _)
 refine ⟨.ref s1.heap.objs.size,upd H1 s1.heap.objs.size (.lst xs),I1.laid (t':=s1.toks) (fun b u e=>Heap.get?_push_of_some _ e) (Nat.le_refl _) ?_,rfl,q _ hf⟩
 exact ⟨z,us,0,r,Heap.get?_push_size _ rfl⟩
end
abbrev Sp:=List V->Hp->VK->XK->Prop
abbrev CXT:=List Env->Hp->Shared->XK->Value->Shared->Prop
structure Env0 (P:Program)(w:World)(K:PySem.W.Frag)(mg:Str->Option Value)(base:Heap)(A:Around)(outer:List Env)(s:Shared)(H:Hp):Prop where
 frames:A.frames=some outer
 mod:Mod K mg base
 bs:∀ b o,base.get? b=some o->s.heap.get? b=some o/\H b=none
 bsz:base.objs.size<=s.heap.objs.size
 funs:s.heap.FunFrames base outer
 frf:∀ b∈frs outer,H b=none
 hok:HOk P w H s.heap
 bare:AllBare s.gens
def CE (outer:List Env)(P:Program)(w:World)(H:Hp)(s:Shared)(Q:VK)(u:Value)(s':Shared):Prop :=
 ∃ v H',s'.os=s.os/\AllBare s'.gens/\Un (frs outer) [] H H' s.heap s'.heap/\HOk P w H' s'.heap/\RelV v u/\Q v H'
def CR (CX:CXT)(outer:List Env)(P:Program)(w:World)(H:Hp)(s:Shared)(Q:VK)(E:XK)(r:Result)(s':Shared):Prop :=
 match r with
 | .ok (.ret u)=>CE outer P w H s Q u s'
 | .ok _=>False
 | .error e=>CX outer H s E e s'
structure FnOk (P:Program)(w:World)(K:PySem.W.Frag)(mg:Str->Option Value)(base:Heap)(CX:CXT)(k:Nat)(f:Addr)(fd:FuncData)(ps:List Str)(sp:Sp):Prop where
 len:∀ vs H Q E,sp vs H Q E->vs.length=ps.length
 run:∀ (A:Around) (outer:List Env) (s:Shared) (H:Hp) (args:Args) (us:List Value) (vs:List V) (Q:VK) (E:XK),Room k A->Env0 P w K mg base A outer s H->BindsTo s fd args (ps.zip us)->Vals vs us->sp vs H Q E ->
  codeAny (model P w) A (.call (.ref f) args) (CR CX outer P w H s Q E) s
theorem FnOk.mono {P:Program}{w:World}{K:PySem.W.Frag}{mg:Str->Option Value}{base:Heap}{CX:CXT}{j k:Nat}{f:Addr}{fd:FuncData}{ps:List Str}{sp:Sp}(F:FnOk P w K mg base CX j f fd ps sp)(h:j<=k) :
  FnOk P w K mg base CX k f fd ps sp:=⟨F.len,fun A outer s H args us vs Q E hr=>F.run A outer s H args us vs Q E (hr.mono h)⟩
section
variable {X:Cx} {pins:List (Addr×Obj)} {σ:St} {H:Hp} {s s':Shared}
theorem Inv.env0 (I:Inv X pins σ H s):Env0 X.prog X.w X.K X.mg X.base X.A X.stack s H :=
 ⟨I.ok.frames,I.ok.mod,I.bs,Nat.le_trans I.ok.bsz I.sz,I.stack,I.stkFree,I.hok,I.bare⟩
theorem Inv.after {Q:VK}{u:Value}(I:Inv X pins σ H s)(h:CE X.stack X.prog X.w H s Q u s'):EP X pins σ Q u s':=by
 obtain ⟨v,H',os,bare,un,hok,r,q⟩:=h
 obtain ⟨hh,g,d,t,os'⟩:=s'
 obtain rfl:os'=s.os:=os
 exact ⟨v,H',I.call (h':=hh) (g':=g) (d':=d) (t':=t) (ch:=[]) un hok bare (fun b z=>absurd z (by simp)),r,q⟩
end
def tCall (sp:Sp)(dvs:List V)(E:XK)(t:TA):TE:=fun σ H Q=>t σ H fun vs H1=>sp (vs++dvs) H1 Q E
def Binds (K:PySem.W.Frag)(fd:FuncData)(ps:List Str)(ds:List Value):Prop :=
 ∀ (s:Shared) (us:List Value),K.In s.heap->(us++ds).length=ps.length->BindsTo s fd ⟨us,[]⟩ (ps.zip (us++ds))
theorem Binds.all {K:PySem.W.Frag}{fd:FuncData}{ps:List Str}(h:∀ us:List Value,us.length=ps.length->bindArgs fd ⟨us,[]⟩=pure (ps.zip us)):Binds K fd ps []:=fun s us _ hl=>by
 rw [List.append_nil] at hl ⊢
 exact .of_eq (h us hl)
def Passes (CX:CXT)(X:Cx)(E:XK):Prop:=∀ (pins:List (Addr×Obj)) (σ:St) (H:Hp) (s:Shared) (e:Value) (s':Shared),Inv X pins σ H s->CX X.stack H s E e s'->X.xe e s'
section
variable {X:Cx} {CX:CXT} {k:Nat} {f C:Addr} {fd:FuncData} {ps:List Str} {sp:Sp} {dvs:List V} {ds:List Value} {E:XK} {x m:Str} {p pos apos:Pos} {e o:Expr} {es:List Expr} {ta:TE} {t:TA}
theorem run_fn {pins:List (Addr×Obj)}{σ:St}{H:Hp}{s:Shared}{Q:VK}{us:List Value}{vs:List V}(F:FnOk X.prog X.w X.K X.mg X.base CX k f fd ps sp)(hr:Room k X.A)(hb:Binds X.K fd ps ds)(hd:Vals dvs ds)(hx:Passes CX X E)
  (I:Inv X pins σ H s) (r:Vals vs us) (h:sp (vs++dvs) H Q E):wpAny (model X.prog X.w) X.A (call (.ref f) us) (EP X pins σ Q) X.xe s:=by
 have r2:Vals (vs++dvs) (us++ds):=r.append hd
 have hl:(us++ds).length=ps.length:=by rw [<- r2.length];exact F.len _ _ _ _ h
 refine wpAny_call (codeAny_mono (F.run X.A X.stack s H ⟨us,[]⟩ (us++ds) (vs++dvs) Q E hr I.env0 (hb s us I.kIn hl) r2 h) fun r s' hq=>?_)
 cases r with
 | error e=>exact hx pins σ H s e s' I hq
 | ok fl =>
  cases fl with
  | ret u=>exact I.after hq
  | next=>exact False.elim hq
  | brk=>exact False.elim hq
  | cont=>exact False.elim hq
theorem pe_call (F:FnOk X.prog X.w X.K X.mg X.base CX k f fd ps sp)(hr:Room k X.A)(hg:Gl X x)(hm:X.mg x=some (.ref f))(hk:PySem.W.keepIn X.K (.ref f)=true)(hb:Binds X.K fd ps ds)(hd:Vals dvs ds)(hx:Passes CX X E)
  (ha:PA X (e::es) t) (hdb:(x == ("__debug__" : Str))=false:=by decide) (he:starEach (e::es) X.env=(false,eval e X.env)::starEach es X.env:=by rfl) (hpl:(backTo pos (starEach es X.env)).any (·.1)=false:=by rfl) :
  PE X (.Call (.Name x p) (e::es) [] pos) (tCall sp dvs E t):=by
 intro pins s σ H Q I h
 refine wpAny_Call_Name_kw (ld_glob I hg hm ?_ hdb)
 refine PySem.W.callWith_K (h₀:=X.base) I.ok.mod.kin hk (thn (ha pos pins s σ H _ I h) fun us s1 ⟨vs,H1,I1,r,q⟩=>⟨I1.kIn,?_⟩) he hpl
 exact run_fn F hr hb hd hx I1 r q
end
section
variable {X:Cx} {CX:CXT} {k:Nat} {f C:Addr} {fd:FuncData} {ps ks:List Str} {sp:Sp} {E:XK} {x m:Str} {p pos apos kpos:Pos} {e o:Expr} {es:List Expr} {kws:List Keyword} {te ta:TE} {t tk:TA} {nm:Option Str}
variable {g:List Value->List Value->List Value} {gV:List V->List V->List V}
end
structure FnScope (N P:List Str)(sc:Scope):Prop where
 kind:sc.kind=.function
 co:sc.isCoroutine=false
 gen:sc.isGenerator=false
 nd:N.Nodup
 pre:N.take P.length=P
 par:∀ x∈P,sc.names.lookup x=some .local\/sc.names.lookup x=some .cell
 nofree:∀ y∈sc.names,y.2≠.free
theorem bindL_out {kindOf:Str->Option NameKind}{x:Str}:∀ {binds:List (Str×Value)} {m:Str->Option Value},(∀ v,(x,v) ∉ binds)->bindL kindOf binds m x=m x
 | [],_,_=>rfl
 |(n,v)::r,m,h=>by
  unfold bindL
  rw [bindL_out fun w hw=>h w (List.mem_cons_of_mem _ hw)]
  split
  ·have:x≠n:=by rintro rfl;exact h v List.mem_cons_self
   simp [this]
  ·rfl
theorem bindC_out {kindOf:Str->Option NameKind}{x:Str}:∀ {binds:List (Str×Value)} {m:Str->Option Value},(∀ v,(x,v) ∉ binds)->bindC kindOf binds m x=m x
 | [],_,_=>rfl
 |(n,v)::r,m,h=>by
  unfold bindC
  rw [bindC_out fun w hw=>h w (List.mem_cons_of_mem _ hw)]
  split
  ·rfl
  ·have:x≠n:=by rintro rfl;exact h v List.mem_cons_self
   simp [this]
theorem bindL_get {kindOf:Str->Option NameKind}{x:Str}{v:Value}:∀ {P:List Str} {vs:List Value} {i:Nat} {m:Str->Option Value},P.Nodup->P[i]?=some x->vs[i]?=some v->kindOf x=some .local ->
  bindL kindOf (P.zip vs) m x=some v
 | [],_,_,_,_,h,_,_=>by simp at h
 | _::_,[],_,_,_,_,h,_=>by simp at h
 | p::P,w::vs,0,m,nd,h1,h2,hk=>by
  simp at h1 h2;subst h1;subst h2
  show bindL kindOf ((p,w)::P.zip vs) m p=_
  unfold bindL
  rw [bindL_out fun v hv=>(List.nodup_cons.mp nd).1 (List.of_mem_zip hv).1,if_pos hk]
  simp
 | p::P,w::vs,i+1,m,nd,h1,h2,hk=>by
  show bindL kindOf ((p,w)::P.zip vs) m x=_
  unfold bindL
  exact bindL_get (i:=i) (List.nodup_cons.mp nd).2 (by simpa using h1) (by simpa using h2) hk
theorem bindC_get {kindOf:Str->Option NameKind}{x:Str}{v:Value}:∀ {P:List Str} {vs:List Value} {i:Nat} {m:Str->Option Value},P.Nodup->P[i]?=some x->vs[i]?=some v->kindOf x≠some .local ->
  bindC kindOf (P.zip vs) m x=some v
 | [],_,_,_,_,h,_,_=>by simp at h
 | _::_,[],_,_,_,_,h,_=>by simp at h
 | p::P,w::vs,0,m,nd,h1,h2,hk=>by
  simp at h1 h2;subst h1;subst h2
  show bindC kindOf ((p,w)::P.zip vs) m p=_
  unfold bindC
  rw [bindC_out fun v hv=>(List.nodup_cons.mp nd).1 (List.of_mem_zip hv).1,if_neg hk]
  simp
 | p::P,w::vs,i+1,m,nd,h1,h2,hk=>by
  show bindC kindOf ((p,w)::P.zip vs) m x=_
  unfold bindC
  exact bindC_get (i:=i) (List.nodup_cons.mp nd).2 (by simpa using h1) (by simpa using h2) hk
def start (N:List Str)(vs:List V):St:=vs.map some++List.replicate (N.length-vs.length) none
def cxOf (CX:CXT)(P:Program)(w:World)(K:PySem.W.Frag)(mg:Str->Option Value)(base:Heap)(N:List Str)(qual:Str)(scope:Scope)(f:Addr)(cd:Value)(A:Around)(outer:List Env)(s:Shared)(H:Hp)(E:XK):Cx where
 prog:=P
 w:=w
 K:=K
 mg:=mg
 base:=base
 A:=A.deeper (envOfC qual scope s.heap.objs.size f cd)
 N:=N
 s_0:=s
 H_0:=H
 env:=envOfC qual scope s.heap.objs.size f cd
 outer:=outer
 stack:=envOfC qual scope s.heap.objs.size f cd::outer
 ex:=[]
 calm:=true
 fn:=fun _=>true
 pn:=[]
 xe:=fun e s'=>wpAny (model P w) (A.deeper (envOfC qual scope s.heap.objs.size f cd)) (leaving (envOfC qual scope s.heap.objs.size f cd) e) (fun _ s''=>CX outer H s E e s'') (fun e' s''=>CX outer H s E e' s'') s'
theorem cell_has {sc:Scope}{n:Nat}{x:Str}(h:sc.names.lookup x=some .cell):∃ c,(cellsFrom n sc.names []).lookup x=some c:=by
 have q:=PySem.W.cellsFrom_some sc.names n [] (.inl h)
 exact Option.isSome_iff_exists.mp q
theorem inv_start {CX:CXT}{P:Program}{w:World}{K:PySem.W.Frag}{mg:Str->Option Value}{base:Heap}{N ps:List Str}{qual:Str}{scope:Scope}{f:Addr}{cd:Value}{A:Around}{outer:List Env}{s s1:Shared}{H:Hp}{E:XK}{us:List Value}{vs:List V}
  (S:FnScope N ps scope) (hd:A.handled=none) (e0:Env0 P w K mg base A outer s H) (hl:vs.length=ps.length) (r:Vals vs us)
  (x:InCallC s s.heap.objs.size (bindL (envOfC qual scope s.heap.objs.size f cd).kindOf (ps.zip us) fun _=>none) (cellsFrom (s.heap.objs.size+1) scope.names []) (bindC (envOfC qual scope s.heap.objs.size f cd).kindOf (ps.zip us) fun _=>none) s1) :
  Inv (cxOf CX P w K mg base N qual scope f cd A outer s H E) [] (start N vs) H s1:=by
 have hpl:ps.length<=N.length:=by have:=congrArg List.length S.pre;rw [List.length_take] at this;omega
 obtain ⟨h1,tk,rfl,hk⟩:=x.done
 have noA:∀ b:Addr,b ∉ (cxOf CX P w K mg base N qual scope f cd A outer s H E).ex:=fun b z=>absurd (show b∈([]:List Addr) from z) (by simp)
 refine ⟨⟨e0.mod,S.kind,rfl,rfl,Nat.le_refl _,fun y z c h1 h2=>?_,fun y hy=>?_,fun y c _ h=>?_,fun _=>hd,Around.frames_deeper e0.frames,.inr ⟨rfl,rfl⟩,fun b z=>absurd z (noA b),e0.bs,e0.bsz,fun b _ _=>noA b,fun b z=>absurd z (noA b),e0.funs,e0.frf⟩,
  rfl,e0.bare,Un.kept hk,⟨_,x.toInCall.ns,fun i y v h1 h2 h3=>?_⟩,fun y c h=>⟨_,x.cell y c h⟩,e0.hok.fresh (Nat.le_refl _),fun y c h=>?_,fun p hp=>absurd (show p∈([]:List (Addr×Obj)) from hp) (by simp),e0.hok.kept hk,?_⟩
 ·exact name_of_addr x.apart (PySem.mem_of_lookup h1) (PySem.mem_of_lookup h2)
 ·have hy:scope.names.lookup y=some .cell\/scope.names.lookup y=some .free:=hy
  rcases hy with hy | hy
  ·exact cell_has hy
  ·exact absurd rfl (S.nofree _ (PySem.mem_of_lookup hy))
 ·exact Nat.le_of_lt (x.above y c (PySem.mem_of_lookup h))
 ·have hi:i < vs.length:=by
   unfold start at h2
   by_cases hi:i < vs.length
   ·exact hi
   ·rw [List.getElem?_append_right (by simpa using hi)] at h2
    rw [List.getElem?_replicate] at h2
    split at h2<;>cases h2
  have ha:vs[i]?=some v:=by
   unfold start at h2
   rw [List.getElem?_append_left (by simpa using hi),List.getElem?_map] at h2
   cases e:vs[i]? with
   | none=>rw [e] at h2;cases h2
   | some a=>rw [e] at h2;cases h2;rfl
  obtain ⟨u,hu,rv⟩:=r.get ha
  have hp:ps[i]?=some y:=by
   rw [<- S.pre,List.getElem?_take_of_lt (by omega)];exact h1
  have ndP:ps.Nodup:=by rw [<- S.pre];exact S.nd.sublist (List.take_sublist _ _)
  refine ⟨u,rv,?_⟩
  rcases S.par y (List.mem_of_getElem? hp) with k | k
  ·exact .inl ⟨k,bindL_get ndP hp hu k⟩
  ·obtain ⟨c,e⟩:=cell_has (n:=s.heap.objs.size+1) k
   refine .inr ⟨.inl k,c,e,?_⟩
   have q:=x.cell y c e
   rw [bindC_get ndP hp hu (by show scope.names.lookup y≠_;rw [k];decide)] at q
   exact q
 ·exact e0.hok.fresh (Nat.le_of_lt (x.above y c (PySem.mem_of_lookup h)))
 ·unfold start
  show _=N.length
  rw [List.length_append,List.length_map,List.length_replicate]
  omega
theorem fn_of {CX:CXT}{P:Program}{w:World}{K:PySem.W.Frag}{mg:Str->Option Value}{base:Heap}{k:Nat}{f:Addr}{name qual:Str}{params:Arguments}{body:List Stmt}{scope:Scope}{dV kV doc pm cdv ct oc:Value}{an od:Option Addr}
  {osl:Array (Option Value)} {N ps:List Str} {sp:Sp} (lk:K.lookup f=some ⟨oc,od,.func (PySem.W.fnOf name qual params body scope dV kV doc pm an cdv ct),osl⟩) (hcd:PySem.W.codeIn K cdv qual=true) (S:FnScope N ps scope)
  (len:∀ vs H Q E,sp vs H Q E->vs.length=ps.length)
  (hbody:∀ (A:Around) (outer:List Env) (s:Shared) (H:Hp) (vs:List V) (Q:VK) (E:XK),Room k (A.deeper (envOfC qual scope s.heap.objs.size f cdv))->sp vs H Q E ->
   ∃ t,PSs (cxOf CX P w K mg base N qual scope f cdv A outer s H E) body t/\t {nx:=fun _ H'=>Q .non H',rt:=Q} (start N vs) H) :
  FnOk P w K mg base CX (k+1) f (PySem.W.fnOf name qual params body scope dV kV doc pm an cdv ct) ps sp:=by
 refine ⟨len,fun A outer s H args us vs Q E hr e0 hb r hsp=>?_⟩
 have hl:=len _ _ _ _ hsp
 have KX:K.In s.heap:=e0.mod.kin.keeps fun b o e=>(e0.bs b o e).1
 have lim:s.heap.NoLimit:=e0.mod.nolimit.keeps fun b o e=>(e0.bs b o e).1
 have hkind:∀ y∈ps.zip us,scope.names.lookup y.1=some .local\/(scope.names.lookup y.1=some .cell/\((cellsFrom (s.heap.objs.size+1) scope.names []).lookup y.1).isSome=true):=fun ⟨n,v⟩ hy=>by
  rcases S.par n (List.of_mem_zip hy).1 with q | q
  ·exact .inl q
  ·exact .inr ⟨q,PySem.W.cellsFrom_some _ _ _ (.inl q)⟩
 refine codeAny_call_function hr.depth (KX _ _ lk) rfl S.co S.gen rfl (PySem.W.codeRec_of KX hcd) (hb _ _ _ _ ?_)
 refine wpAny_newFunctionEnv_cells S.kind hkind fun env he s1 x=>?_
 subst he
 refine ⟨lim.keeps x.toInCall.keep,codeAny_func ?_⟩
 obtain ⟨t,ht,hq⟩:=hbody A outer s H vs Q E (hr.deeper _) hsp
 have I:Inv (cxOf CX P w K mg base N qual scope f cdv A outer s H E) [] (start N vs) H s1:=inv_start S hr.hd e0 hl r x
 refine wpAny_mono (ht [] s1 (start N vs) H _ I hq) (fun fl s' hs=>?_) fun e s' hs=>hs
 have fin:∀ {σ':St} {H':Hp} {v:V} {u:Value},Inv (cxOf CX P w K mg base N qual scope f cdv A outer s H E) [] σ' H' s'->RelV v u->Q v H'->CE outer P w H s Q u s' :=
  fun {σ' H' v u} J rv q=>⟨v,H',J.os,J.bare,J.base,J.hok,rv,q⟩
 cases fl with
 | ret u =>
  obtain ⟨v,σ',H',J,rv,q⟩:=hs
  exact fin J rv q
 | next =>
  obtain ⟨σ',H',J,q⟩:=hs
  exact fin (v:=V.non) (u:=Value.none) J rfl q
 | brk =>
  obtain ⟨_,_,_,q⟩:=hs
  exact False.elim q
 | cont =>
  obtain ⟨_,_,_,q⟩:=hs
  exact False.elim q
end L2
namespace L2
open PySem PySem.Spec PyProof.Rows
section
variable {X:Cx} {x:Str} {p pos:Pos} {e:Expr} {es:List Expr} {t:TA} {id T:String} {r:List V->Hp->VK->Prop}
def tCB (r:List V->Hp->VK->Prop)(t:TA):TE:=fun σ H Q=>t σ H fun vs H1=>r vs H1 Q
theorem pe_callB (hc:CallR X (.builtin id) r)(hg:Gl X x)(hm:X.mg x=none)(hv:bootBuiltins x=some (.builtin id))(ha:PA X (e::es) t)(hn:x≠"__name__":=by decide) (hdb:(x == ("__debug__" : Str))=false:=by decide)
  (he:starEach (e::es) X.env=(false,eval e X.env)::starEach es X.env:=by rfl) (hpl:(backTo pos (starEach es X.env)).any (·.1)=false:=by rfl):PE X (.Call (.Name x p) (e::es) [] pos) (tCB r t):=by
 intro pins s σ H Q I h
 refine wpAny_Call_Name_kw (ld_blt I hg hm hv ?_ hn hdb)
 exact PyProof.Rows.callWith_builtin1 (thn (ha pos pins s σ H _ I h) fun us s1 ⟨vs,H1,I1,r1,q1⟩=>hc pins s1 σ H1 vs us Q I1 r1 q1) he hpl
theorem pe_callTy (hc:CallR X (.type T) r)(hg:Gl X x)(hm:X.mg x=none)(hv:bootBuiltins x=some (.type T))(ha:PA X (e::es) t)(hn:x≠"__name__":=by decide) (hdb:(x == ("__debug__" : Str))=false:=by decide)
  (he:starEach (e::es) X.env=(false,eval e X.env)::starEach es X.env:=by rfl) (hpl:(backTo pos (starEach es X.env)).any (·.1)=false:=by rfl):PE X (.Call (.Name x p) (e::es) [] pos) (tCB r t):=by
 intro pins s σ H Q I h
 refine wpAny_Call_Name_kw (ld_blt I hg hm hv ?_ hn hdb)
 exact PyProof.Rows.callWith_type1 (thn (ha pos pins s σ H _ I h) fun us s1 ⟨vs,H1,I1,r1,q1⟩=>hc pins s1 σ H1 vs us Q I1 r1 q1) he hpl
end
end L2
namespace HT
open PySem PyProof.Rows
section
open PySem.SeqAt
open PySem.AutoSeq1 (wpAny_loadPart')
open PySem.MeetsSeq PySem.MeetsSeq2 PySem.MeetsSeq3
end
section
variable {prog:Program} {w:World} {A:Around} {E:Value->Shared->Prop} {s:Shared}
def sIx (n d:Nat):Option Int->Nat
 | none=>d
 | some v=>if v < 0 then (v+(n:Int)).toNat else min v.toNat n
theorem sIx_nat (n d k:Nat):sIx n d (some (k:Int))=min k n:=by
 show (if (k:Int) < 0 then ((k:Int)+(n:Int)).toNat else min (k:Int).toNat n)=min k n
 rw [if_neg (by omega),Int.toNat_natCast]
end
end HT
namespace L2
open PySem PySem.Spec PyProof.Rows
abbrev TO:=St->Hp->(Option Int->Hp->Prop)->Prop
def PO (X:Cx)(e:Option Expr)(t:TO):Prop :=
 ∀ (pins:List (Addr×Obj)) (s:Shared) (σ:St) (H:Hp) (Q:Option Int->Hp->Prop),Inv X pins σ H s->t σ H Q ->
  wpAny (model X.prog X.w) X.A (evalPart e X.env) (fun u s'=>∃ o H',Inv X pins σ H' s'/\IsPart u o/\Q o H') X.xe s
def tNoPart:TO:=fun _ H Q=>Q none H
def tPart (t:TE):TO:=fun σ H Q=>t σ H fun x H1=>∃ i,x=.int i/\Q (some i) H1
section
variable {X:Cx} {e:Expr} {te:TE} {lo hi:Option Expr} {tl th:TO} {pos p2:Pos}
theorem po_none:PO X none tNoPart:=by
 intro pins s σ H Q I h
 rw [evalPart_none]
 exact wpAny_pure ⟨none,H,I,.none,h⟩
theorem po_some (h:PE X e te):PO X (some e) (tPart te):=by
 intro pins s σ H Q I hw
 rw [evalPart_some]
 refine thn (h pins s σ H _ I hw) fun u s1 ⟨x,H1,I1,r1,q1⟩=>?_
 obtain ⟨i,rfl,q⟩:=q1
 obtain ⟨t,rfl⟩:=r1
 exact ⟨some i,H1,I1,.int i t,q⟩
def SlR (X:Cx)(r:V->Option Int->Option Int->Hp->VK->Prop):Prop :=
 ∀ (pins:List (Addr×Obj)) (s:Shared) (σ:St) (H:Hp) (x:V) (v vl vu:Value) (lo hi:Option Int) (sl:Addr) (Q:VK),Inv X pins σ H s->RelV x v->s.heap.IsSliceOf sl vl vu .none->IsPart vl lo->IsPart vu hi->r x lo hi H Q ->
  ∃ T id,typeLookup (.type T) "__getitem__" = pure (some (.builtin id))/\s.TypeIs v T/\wpAny (model X.prog X.w) X.A (getItem v (.ref sl)) (EP X pins σ Q) X.xe s
def tSl (r:V->Option Int->Option Int->Hp->VK->Prop)(te:TE)(tl th:TO):TE:=fun σ H Q=>te σ H fun x H1=>tl σ H1 fun l H2=>th σ H2 fun u H3=>r x l u H3 Q
theorem pe_slice {r:V->Option Int->Option Int->Hp->VK->Prop}(hr:SlR X r)(he:PE X e te)(hl:PO X lo tl)(hu:PO X hi th):PE X (.Subscript e (.Slice lo hi none p2) pos) (tSl r te tl th):=by
 intro pins s σ H Q I h
 refine Subscript_ (thn (he pins s σ H _ I h) fun v s1 ⟨x,H1,I1,r1,q1⟩=>?_)
 refine wpAny_Slice (thn (hl pins s1 σ H1 _ I1 q1) fun vl s2 ⟨l,H2,I2,pl,q2⟩=>thn (hu pins s2 σ H2 _ I2 q2) fun vu s3 ⟨u,H3,I3,pu,q3⟩=>?_)
 rw [evalPart_none]
 refine wpAny_pure ?_
 have I4:Inv X pins σ H3 {s3 with heap:=s3.heap.push {cls:=.type "slice",data:=.fields #[vl,vu,.none]}}:=I3.kept (t':=s3.toks) fun b ob q=>Heap.get?_push_of_some _ q
 obtain ⟨T,id,hT,ht,hg⟩:=hr pins {s3 with heap:=s3.heap.push {cls:=.type "slice",data:=.fields #[vl,vu,.none]}} σ H3 x v vl vu l u s3.heap.objs.size Q I4 r1 (Heap.IsSliceOf.new ..) pl pu q3
 show wpAny (model X.prog X.w) X.A (subscriptTail e (.Slice lo hi none p2) v (.ref s3.heap.objs.size)) (EP X pins σ Q) X.xe {s3 with heap:=s3.heap.push {cls:=.type "slice",data:=.fields #[vl,vu,.none]}}
 exact tail_any (ops:=[.ref s3.heap.objs.size,v]) ht hT hg (by with_unfolding_all rfl)
def cutV (xs:List V)(lo hi:Option Int):List V:=(xs.drop (HT.sIx xs.length 0 lo)).take (HT.sIx xs.length xs.length hi-HT.sIx xs.length 0 lo)
theorem cutV_length (xs:List V)(lo hi:Option Int):(cutV xs lo hi).length<=xs.length:=by
 unfold cutV
 rw [List.length_take,List.length_drop]
 omega
end
end L2
namespace L2
open PySem PySem.Spec PyProof.Rows
def ixN (n:Nat)(i:Int):Option Nat:=if 0<=i then (if i < n then some i.toNat else none) else if -(n:Int)<=i then some (i+n).toNat else none
def atI {α:Type}(xs:List α)(i:Int):Option α:=(ixN xs.length i).bind fun j=>xs[j]?
theorem ixN_seq {n:Nat}{i:Int}{j:Nat}(h:ixN n i=some j):seqIndex? i n=some j/\j < n/\-(n:Int)<=i/\i < n:=by
 unfold ixN at h
 by_cases h0:0<=i
 ·rw [if_pos h0] at h
  by_cases h1:i < n
  ·rw [if_pos h1] at h
   have e:i.toNat=j:=Option.some.inj h
   exact ⟨by rw [seqIndex_of h0 h1,e],by omega,by omega,h1⟩
  ·rw [if_neg h1] at h;cases h
 ·rw [if_neg h0] at h
  by_cases h1 : -(n:Int)<=i
  ·rw [if_pos h1] at h
   have e:(i+n).toNat=j:=Option.some.inj h
   exact ⟨by rw [seqIndex_neg (by omega) h1,e],by omega,h1,by omega⟩
  ·rw [if_neg h1] at h;cases h
theorem atI_get {α:Type}{xs:List α}{i:Int}{v:α}(h:atI xs i=some v):∃ j,seqIndex? i xs.length=some j/\xs[j]?=some v/\j < xs.length/\-(xs.length:Int)<=i/\i < xs.length:=by
 unfold atI at h
 cases e:ixN xs.length i with
 | none=>rw [e] at h;cases h
 | some j =>
  rw [e] at h
  obtain ⟨h1,h2,h3,h4⟩:=ixN_seq e
  exact ⟨j,h1,h,h2,h3,h4⟩
theorem atI_nat {α:Type}{xs:List α}{j:Nat}{v:α}(h:xs[j]?=some v):atI xs (j:Int)=some v:=by
 have hj:j < xs.length:=(List.getElem?_eq_some_iff.mp h).1
 have e:ixN xs.length (j:Int)=some j:=by
  unfold ixN
  rw [if_pos (by omega),if_pos (by omega)];simp
 unfold atI;rw [e];exact h
theorem atI_last {α:Type}(xs:List α)(v:α):atI (xs++[v]) (-1)=some v:=by
 have hl:(xs++[v]).length=xs.length+1:=by simp
 have e:ixN (xs++[v]).length (-1)=some xs.length:=by
  unfold ixN
  rw [hl,if_neg (by decide),if_pos (by omega)]
  congr 1
  omega
 unfold atI
 rw [e]
 show (xs++[v])[xs.length]?=some v
 simp
def PlainIx (b:Expr):Prop:=∀ o i,subscripted b false o i=operate [o,i] (getItem o i)
def IxR (X:Cx)(r:R2):Prop :=
 ∀ (value slice:Expr) (pins:List (Addr×Obj)) (s:Shared) (σ:St) (H:Hp) (x y:V) (v u:Value) (Q:VK),Inv X pins σ H s->RelV x v->RelV y u->r x y H Q ->
  subscripted slice false v u=operate [v,u] (getItem v u)->wpAny (model X.prog X.w) X.A (subscriptTail value slice v u) (EP X pins σ Q) X.xe s
def MtR (X:Cx)(id:String)(r:V->List V->Hp->VK->Prop):Prop :=
 ∀ (pins:List (Addr×Obj)) (s:Shared) (σ:St) (H:Hp) (x:V) (xs:List V) (v:Value) (us:List Value) (Q:VK),Inv X pins σ H s->RelV x v->Vals xs us->r x xs H Q ->
  wpAny (model X.prog X.w) X.A (call (.builtin id) (v::us)) (EP X pins σ Q) X.xe s
section
variable {X:Cx} {a b:Expr} {ta tb:TE} {pos:Pos}
theorem IxR.or {r r':R2}(h:IxR X r)(h':IxR X r'):IxR X (fun x y H Q=>r x y H Q\/r' x y H Q):=by
 intro value slice pins s σ H x y v u Q I rx ry q hs
 rcases q with q | q
 ·exact h value slice pins s σ H x y v u Q I rx ry q hs
 ·exact h' value slice pins s σ H x y v u Q I rx ry q hs
theorem pe_ix {r:R2}(hr:IxR X r)(ha:PE X a ta)(hb:PE X b tb)(hs:PlainIx b):PE X (.Subscript a b pos) (tOp r ta tb):=by
 intro pins s σ H Q I h
 exact Subscript_ (binT ha hb I h fun v u s2 x y H2 I2 rx ry q=>hr a b pins s2 σ H2 x y v u Q I2 rx ry q (hs _ _))
def rIxL (K:PySem.W.Frag):R2:=fun x y H Q=>∃ p xs i v,x=.ref p/\y=.int i/\SqL K H p xs/\atI xs i=some v/\Q v H
def rIxT (K:PySem.W.Frag):R2:=fun x y H Q=>∃ p xs i v,x=.ref p/\y=.int i/\SqT K H p xs/\atI xs i=some v/\Q v H
def rIxS:R2:=fun x y H Q=>∃ z i c,x=.str z/\y=.int i/\z.length<=sizeLine/\atI z.cps.toList i=some c/\Q (.str ⟨#[c]⟩) H
theorem ix_list:IxR X (rIxL X.K):=by
 intro value slice pins s σ H x y v u Q I rx ry h hs
 obtain ⟨p,xs,i,z,rfl,rfl,hq,he,q⟩:=h
 cases rx
 obtain ⟨t,rfl⟩:=ry
 obtain ⟨its,r,pl,hz⟩:=I.list hq
 obtain ⟨j,h1,h2,h3,h4,h5⟩:=atI_get he
 obtain ⟨w,ew,rw'⟩:=r.get h2
 have hl:=r.length
 have hn:=line63
 have fin:EP X pins σ Q w s:=⟨z,H,I,rw',q⟩
 by_cases h0:0<=i
 ·have hj:i.toNat=j:=by
   rw [seqIndex_of h0 h5] at h1
   exact Option.some.inj h1
  exact item_listR pl.isList h0 (by omega) (by rw [hj];simpa using ew) fin hs
 ·have hj:(i+(its.toArray.size:Int)).toNat=j:=by
   rw [seqIndex_neg (by omega) h4] at h1
   rw [List.size_toArray,<- hl]
   exact Option.some.inj h1
  exact subscriptTail_builtinR (x:=w) pl.isList.typeIs slot_list_getitem.lookup
   (wpAny_getItem_list_neg (Q:=fun r s'=>r=w/\EP X pins σ Q r s') pl.isList (by omega) (by rw [List.size_toArray]<;>omega) (by omega) (by rw [hj];simpa using ew) ⟨rfl,fin⟩) hs
theorem ix_tup:IxR X (rIxT X.K):=by
 intro value slice pins s σ H x y v u Q I rx ry h hs
 obtain ⟨p,xs,i,z,rfl,rfl,hq,he,q⟩:=h
 cases rx
 obtain ⟨t,rfl⟩:=ry
 obtain ⟨its,r,pl,hz⟩:=I.tuple hq
 obtain ⟨j,h1,h2,h3,h4,h5⟩:=atI_get he
 obtain ⟨w,ew,rw'⟩:=r.get h2
 have hl:=r.length
 have hn:=line63
 have fin:EP X pins σ Q w s:=⟨z,H,I,rw',q⟩
 exact subscriptTail_builtinR (x:=w) pl.typeIs slot_tuple_getitem.lookup
  (getItem_tuple (j:=j) (Q:=fun r s'=>r=w/\EP X pins σ Q r s') pl (by omega) (by omega) (by rw [List.size_toArray,<- hl];exact h1) (by simpa using ew) ⟨rfl,fin⟩) hs
theorem ix_str:IxR X rIxS:=by
 intro value slice pins s σ H x y v u Q I rx ry h hs
 obtain ⟨z,i,c,rfl,rfl,hz,he,q⟩:=h
 obtain ⟨t,rfl⟩:=rx
 obtain ⟨t',rfl⟩:=ry
 obtain ⟨j,h1,h2,h3,h4,h5⟩:=atI_get he
 have hl:z.cps.toList.length=z.length:=by simp [Str.length]
 rw [hl] at h1 h4 h5
 have hn:=line63
 exact tail_any (typeIs_str s z t) slot_str_getitem.lookup (getItem_str (c:=c) (by
  have e1:decide (i < -(2 ^ 63:Int))=false:=decide_eq_false (by omega)
  have e2:decide (i ≥ 2 ^ 63)=false:=decide_eq_false (by omega)
  rw [e1,e2,Bool.or_false]) (by rw [h1];simpa using h2) ⟨.str ⟨#[c]⟩,H,I.tok _,⟨_,rfl⟩,q⟩) hs
def rIx (K:PySem.W.Frag):R2:=fun x y H Q=>rIxL K x y H Q\/rIxT K x y H Q\/rIxS x y H Q
theorem ix_seq:IxR X (rIx X.K):=ix_list.or (ix_tup.or ix_str)
theorem mapSeq_set (its:List Value)(n j:Nat)(u:Value):Obj.mapSeq (·.setIfInBounds j u) {cls:=.type "list",data:=.seq its.toArray n}={cls:=.type "list",data:=.seq (its.set j u).toArray n}:=by
 simp [Obj.mapSeq]
theorem Inv.lst {pins:List (Addr×Obj)}{σ:St}{H:Hp}{s:Shared}{p:Addr}{xs:List V}(I:Inv X pins σ H s)(h:H p=some (.lst xs)) :
  ∃ (its:List Value) (n:Nat),Vals xs its/\s.heap.get? p=some {cls:=.type "list",data:=.seq its.toArray n}/\xs.length<=sizeLine:=by
 obtain ⟨z,its,n,r,e⟩:=I.hok p _ h
 exact ⟨its,n,r,e,z⟩
theorem Inv.lstUpd {pins:List (Addr×Obj)}{σ:St}{H:Hp}{s:Shared}{p:Addr}{xs ys:List V}{its its':List Value}{n n':Nat}{f:Obj->Obj}(I:Inv X pins σ H s)(h:H p=some (.lst xs))
  (ho:s.heap.get? p=some {cls:=.type "list",data:=.seq its.toArray n}) (hf:f {cls:=.type "list",data:=.seq its.toArray n}={cls:=.type "list",data:=.seq its'.toArray n'}) (r:Vals ys its') (hz:ys.length<=sizeLine) (t:Nat) :
  Inv X pins σ (upd H p (.lst ys)) {s with heap:=s.heap.update p f,toks:=t}:=by
 have e:(s.heap.update p f).get? p=some {cls:=.type "list",data:=.seq its'.toArray n'}:=by
  rw [Heap.get?_update_self f ho (by rw [hf]<;>rfl),hf]
 refine I.write (x:=p) (e:=p) (by rw [h];trivial) (.inl rfl) (fun b u hb q=>(Heap.get?_update_other _ _ (Ne.symm hb)).trans q) ⟨_,e⟩ ?_
 exact ⟨hz,its',n',r,e⟩
def rSetL:V->V->V->Hp->(Hp->Prop)->Prop:=fun o i v H Q=>∃ p xs k j,o=.ref p/\i=.int k/\H p=some (.lst xs)/\ixN xs.length k=some j/\Q (upd H p (.lst (xs.set j v)))
theorem set_list:PSet X rSetL:=by
 intro pins s σ H o i v ov iv u Q I ro ri rv h
 obtain ⟨p,xs,k,j,rfl,rfl,hp,hj,q⟩:=h
 cases ro
 obtain ⟨t,rfl⟩:=ri
 obtain ⟨its,n,r,ho,hz⟩:=I.lst hp
 obtain ⟨h1,h2,h3,h4⟩:=ixN_seq hj
 have hl:=r.length
 have hn:=line63
 have I':Inv X pins σ (upd H p (.lst (xs.set j v))) {s with heap:=s.heap.update p (Obj.mapSeq (·.setIfInBounds j u))} :=
  I.lstUpd hp ho (mapSeq_set its n j u) (r.set rv j) (by rw [List.length_set];exact hz) s.toks
 by_cases h0:0<=k
 ·have hk:k.toNat=j:=by
   rw [seqIndex_of h0 h4] at h1
   exact Option.some.inj h1
  exact PySem.W.ki_setAt ho h0 (by omega) (by rw [List.size_toArray,<- hl];exact h4) (by rw [hk];exact ⟨_,I',q⟩)
 ·have hk:(k+(its.toArray.size:Int)).toNat=j:=by
   rw [seqIndex_neg (by omega) h3] at h1
   rw [List.size_toArray,<- hl]
   exact Option.some.inj h1
  exact PySem.W.ki_setBack ho (by omega) (by rw [List.size_toArray,<- hl];exact h3) (by omega) (by rw [hk];exact ⟨_,I',q⟩)
theorem slice_bounds (lo hi:Option Int)(n:Nat):(sliceBounds lo hi none n).1=((HT.sIx n 0 lo:Nat):Int)/\(sliceBounds lo hi none n).2.1=((HT.sIx n n hi:Nat):Int)/\(sliceBounds lo hi none n).2.2=1:=by
 refine ⟨?_,?_,rfl⟩
 ·cases lo with
  | none=>simp [sliceBounds,HT.sIx]
  | some i =>
   simp only [sliceBounds,HT.sIx,Option.getD_none,show (1:Int) > 0 by decide,if_true]
   by_cases h:i < 0
   ·simp only [h,if_true]<;>omega
   ·simp only [h,if_false]<;>omega
 ·cases hi with
  | none=>simp [sliceBounds,HT.sIx]
  | some i =>
   simp only [sliceBounds,HT.sIx,Option.getD_none,show (1:Int) > 0 by decide,if_true]
   by_cases h:i < 0
   ·simp only [h,if_true]<;>omega
   ·simp only [h,if_false]<;>omega
theorem slicePick_cut (its:List Value)(lo hi:Option Int):slicePick its.toArray lo hi none=((its.drop (HT.sIx its.length 0 lo)).take (HT.sIx its.length its.length hi-HT.sIx its.length 0 lo)).toArray:=by
 obtain ⟨h1,h2,h3⟩:=slice_bounds lo hi its.toArray.size
 unfold slicePick
 rw [h1,h2,h3]
 simp only [sliceRange_one,pick_run,List.size_toArray]<;>rfl
def rSlL (K:PySem.W.Frag):V->Option Int->Option Int->Hp->VK->Prop:=fun x lo hi H Q=>∃ a xs,x=.ref a/\SqL K H a xs/\∀ p,H p=none->Q (.ref p) (upd H p (.lst (cutV xs lo hi)))
theorem sl_list:SlR X (rSlL X.K):=by
 intro pins s σ H x v vl vu lo hi sl Q I rx hs pl pu h
 obtain ⟨a,xs,rfl,hx,q⟩:=h
 cases rx
 obtain ⟨its,r,ht,hz⟩:=I.list hx
 have hlen:=r.length
 refine ⟨"list",_,slot_list_getitem.lookup,ht.isList.typeIs,?_⟩
 refine wpAny_getItem_list_slice ht.isList hs pl pu .none (by simp) ?_ (by rw [List.size_toArray]<;>omega)
 rw [slicePick_cut,<- hlen]
 refine ⟨.ref s.heap.objs.size,_,I.laid (t':=s.toks) (o:=.lst (cutV xs lo hi)) (fun b ob q=>Heap.get?_push_of_some _ q) (Nat.le_refl _) ?_,rfl,q _ (I.hok.fresh (Nat.le_refl _))⟩
 exact ⟨Nat.le_trans (cutV_length xs lo hi) hz,_,0,(r.drop (HT.sIx xs.length 0 lo)).take (HT.sIx xs.length xs.length hi-HT.sIx xs.length 0 lo),Heap.get?_push_size _ rfl⟩
def flatV:V->Bool
 | .non=>true
 | .bl _=>true
 | .int _=>true
 | .str _=>true
 | _=>false
def eqV:V->V->Bool
 | .non,.non=>true
 | .bl a,.bl b=>a == b
 | .bl a,.int b=>(if a then 1 else 0) == b
 | .int a,.bl b=>a == (if b then 1 else 0)
 | .int a,.int b=>a == b
 | .str a,.str b=>a == b
 | _,_=>false
theorem eqAt_V {A:Around}{s:Shared}{y x:V}{u v:Value}(ry:RelV y u)(rx:RelV x v)(fy:flatV y=true)(fx:flatV x=true):SeqAt.EqAt A s u v (eqV y x):=by
 cases y with
 | non =>
  cases ry
  cases x with
  | non=>cases rx;exact SeqAt.EqAt.same _
  | bl b=>cases rx;exact SeqAt.EqAt.none_bool b
  | int b=>obtain ⟨t,rfl⟩:=rx;exact SeqAt.EqAt.none_int b t
  | str b=>obtain ⟨t,rfl⟩:=rx;exact SeqAt.EqAt.none_str b t
  | _=>exact absurd (show false=true from fx) Bool.false_ne_true
 | bl a =>
  cases ry
  cases x with
  | non=>cases rx;exact SeqAt.EqAt.bool_none a
  | bl b=>cases rx;exact SeqAt.EqAt.bool_bool a b
  | int b=>obtain ⟨t,rfl⟩:=rx;exact SeqAt.EqAt.bool_int a b t
  | str b=>obtain ⟨t,rfl⟩:=rx;exact SeqAt.EqAt.bool_str a b t
  | _=>exact absurd (show false=true from fx) Bool.false_ne_true
 | int a =>
  obtain ⟨t',rfl⟩:=ry
  cases x with
  | non=>cases rx;exact SeqAt.EqAt.int_none a t'
  | bl b=>cases rx;exact SeqAt.EqAt.int_bool a t' b
  | int b=>obtain ⟨t,rfl⟩:=rx;exact SeqAt.EqAt.int_int a t' b t
  | str b=>obtain ⟨t,rfl⟩:=rx;exact SeqAt.EqAt.int_str a t' b t
  | _=>exact absurd (show false=true from fx) Bool.false_ne_true
 | str a =>
  obtain ⟨t',rfl⟩:=ry
  cases x with
  | non=>cases rx;exact SeqAt.EqAt.str_none a t'
  | bl b=>cases rx;exact SeqAt.EqAt.str_bool a t' b
  | int b=>obtain ⟨t,rfl⟩:=rx;exact SeqAt.EqAt.str_int a t' b t
  | str b=>obtain ⟨t,rfl⟩:=rx;exact SeqAt.EqAt.str_str a t' b t
  | _=>exact absurd (show false=true from fx) Bool.false_ne_true
 | _=>exact absurd (show false=true from fy) Bool.false_ne_true
def eqU (x:V)(u:Value):Bool:=match u with
 | .none=>eqV .non x
 | .bool b=>eqV (.bl b) x
 | .int i _=>eqV (.int i) x
 | .str z _=>eqV (.str z) x
 | _=>false
theorem eqU_of {x y:V}{u:Value}(r:RelV y u)(f:flatV y=true):eqU x u=eqV y x:=by
 cases y with
 | non=>cases r;rfl
 | bl b=>cases r;rfl
 | int i=>obtain ⟨t,rfl⟩:=r;rfl
 | str z=>obtain ⟨t,rfl⟩:=r;rfl
 | _=>exact absurd (show false=true from f) Bool.false_ne_true
theorem any_eqU {x:V}:∀ {xs:List V} {us:List Value},Vals xs us->xs.all flatV=true->us.any (eqU x)=xs.any fun y=>eqV y x
 | _,_,.nil,_=>rfl
 | y::xs,u::us,.cons r t,f=>by
  rw [List.all_cons,Bool.and_eq_true] at f
  rw [List.any_cons,List.any_cons,eqU_of r f.1,any_eqU t f.2]
theorem mem_eqAt {A:Around}{s:Shared}{x:V}{v:Value}(rx:RelV x v)(fx:flatV x=true):∀ {xs:List V} {us:List Value},Vals xs us->xs.all flatV=true->∀ u∈us,SeqAt.EqAt A s u v (eqU x u)
 | _,_,.nil,_=>fun u hu=>by cases hu
 | y::xs,u::us,.cons r t,f=>fun u' hu=>by
  rw [List.all_cons,Bool.and_eq_true] at f
  rcases List.mem_cons.mp hu with rfl | hu
  ·rw [eqU_of r f.1];exact eqAt_V r rx f.1 fx
  ·exact mem_eqAt rx fx t f.2 u' hu
def inV (x:V)(xs:List V):Bool:=xs.any fun y=>eqV y x
def rIn (K:PySem.W.Frag)(neg:Bool):R2:=fun x y H Q=>∃ p xs,y=.ref p/\(SqL K H p xs\/SqT K H p xs)/\flatV x=true/\xs.all flatV=true/\Q (.bl (if neg then !inV x xs else inV x xs)) H
theorem op_notIn_seq:OpR X (compareOp .NotIn) (rIn X.K true):=by
 intro pins s σ H x y v u Q I rx ry h
 obtain ⟨p,xs,rfl,hq,fx,fs,q⟩:=h
 cases ry
 rcases hq with hq | hq
 ·obtain ⟨its,r,pl,hz⟩:=I.list hq
  refine SeqAt.notIn_listAt (eqU x) pl.isList (fun w hw=>mem_eqAt rx fx r fs w (by simpa using hw)) ⟨.bl _,H,I,rfl,?_⟩
  rw [show its.toArray.any (eqU x)=its.any (eqU x) by simp,any_eqU r fs]
  exact q
 ·obtain ⟨its,r,pl,hz⟩:=I.tuple hq
  refine SeqAt.notIn_tupleAt (eqU x) pl (fun w hw=>mem_eqAt rx fx r fs w (by simpa using hw)) ⟨.bl _,H,I,rfl,?_⟩
  rw [show its.toArray.any (eqU x)=its.any (eqU x) by simp,any_eqU r fs]
  exact q
theorem call_len_seq:CallR X (.builtin "len") (fun xs H Q=>∃ p ys,xs=[.ref p]/\(SqL X.K H p ys\/SqT X.K H p ys)/\Q (.int ys.length) H):=by
 intro pins s σ H xs us Q I r h
 obtain ⟨p,ys,rfl,hq,q⟩:=h
 obtain ⟨u,rfl,rx⟩:=vals1 r
 cases rx
 have hn:=line63
 rcases hq with hq | hq
 ·obtain ⟨its,r',pl,hz⟩:=I.list hq
  have hlen:=r'.length
  exact Calls.call_len_list pl.isList (by simp only [List.size_toArray]<;>omega) ⟨.int ys.length,H,I.tok _,⟨s.toks+1,by rw [List.size_toArray,hlen]⟩,q⟩
 ·obtain ⟨its,r',pl,hz⟩:=I.tuple hq
  have hlen:=r'.length
  exact len_tuple pl (by simp only [List.size_toArray]<;>omega) ⟨.int ys.length,H,I.tok _,⟨s.toks+1,by rw [List.size_toArray,hlen]⟩,q⟩
theorem call_len_str:CallR X (.builtin "len") (fun xs H Q=>∃ z,xs=[.str z]/\z.length<=sizeLine/\Q (.int z.length) H):=by
 intro pins s σ H xs us Q I r h
 obtain ⟨z,rfl,hz,q⟩:=h
 obtain ⟨u,rfl,t,rfl⟩:=vals1 r
 have hn:=line63
 exact len_str (by omega) ⟨.int z.length,H,I.tok _,⟨_,rfl⟩,q⟩
theorem call_list_of:CallR X (.type "list") (fun xs H Q=>∃ p ys,xs=[.ref p]/\(SqL X.K H p ys\/SqT X.K H p ys)/\∀ l,H l=none->Q (.ref l) (upd H l (.lst ys))):=by
 intro pins s σ H xs us Q I r h
 obtain ⟨p,ys,rfl,hq,q⟩:=h
 obtain ⟨u,rfl,rx⟩:=vals1 r
 cases rx
 have fin:∀ (its:List Value),Vals ys its->ys.length<=sizeLine->∀ (h':Heap) (c':Nat),(∀ b o',s.heap.get? b=some o'->h'.get? b=some o') ->
   h'.get? s.heap.objs.size=some {cls:=.type "list",dict:=none,data:=.seq its.toArray c',slots:=#[]}->EP X pins σ Q (.ref s.heap.objs.size) {s with heap:=h'}:=fun its r' hz h' c' kp e =>
  ⟨.ref s.heap.objs.size,_,I.laid (t':=s.toks) kp (Nat.le_refl _) (show ObjOk X.prog X.w _ h' _ (.lst ys) from ⟨hz,its,c',r',e⟩),rfl,q _ (I.hok.fresh (Nat.le_refl _))⟩
 rcases hq with hq | hq
 ·obtain ⟨its,r',pl,hz⟩:=I.list hq
  have hlen:=r'.length
  obtain ⟨o,ho,hc,n,hd⟩:=pl.isList
  exact call_list_seq p (.inl rfl) ho hc hd (fun h' c' kp e=>fin its r' hz h' c' kp e) (by simp only [List.size_toArray]<;>omega)
 ·obtain ⟨its,r',pl,hz⟩:=I.tuple hq
  have hlen:=r'.length
  obtain ⟨o,ho,hc,n,hd⟩:=pl
  exact call_list_seq p (.inr rfl) ho hc hd (fun h' c' kp e=>fin its r' hz h' c' kp e) (by simp only [List.size_toArray]<;>omega)
def tyV (K:PySem.W.Frag)(T:String)(x:V)(H:Hp):Prop:=match x with
 | .str _=>T = "str"
 | .int _=>T = "int"
 | .ref p=>(T = "list"/\∃ xs,SqL K H p xs)\/(T = "tuple"/\∃ o,K.lookup p=some o/\o.cls=.type "tuple"/\o.dict=none) \/
   (T = "dict"/\((∃ kvs,H p=some (.dK kvs))\/∃ kvs,H p=some (.dT kvs)))\/(T = "set"/\∃ S n,H p=some (.set S n))
 | _=>False
theorem tyV_is {pins:List (Addr×Obj)}{σ:St}{H:Hp}{s:Shared}{T:String}{x:V}{v:Value}(I:Inv X pins σ H s)(r:RelV x v)(ty:tyV X.K T x H) :
  s.TypeIs v T/\∀ a,v=.ref a->∃ ob,s.heap.get? a=some ob/\ob.dict=none:=by
 cases x with
 | str z =>
  obtain ⟨t,rfl⟩:=r
  cases (show T = "str" from ty)
  exact ⟨typeIs_str s z t,fun _ e=>nomatch e⟩
 | int i =>
  obtain ⟨t,rfl⟩:=r
  cases (show T = "int" from ty)
  exact ⟨typeIs_int s i t,fun _ e=>nomatch e⟩
 | ref p =>
  cases r
  rcases ty with ⟨rfl,xs,hq⟩ | ⟨rfl,o,hk,hc,hd⟩ | ⟨rfl,hk⟩ | ⟨rfl,S,n,hk⟩
  ·obtain ⟨its,_,pl,_⟩:=I.list hq
   refine ⟨pl.isList.typeIs,fun a e=>?_⟩
   cases e
   obtain ⟨o,n,e,c,hd,_⟩:=pl
   exact ⟨o,e,hd⟩
  ·refine ⟨⟨o,I.kIn p o hk,hc⟩,fun a e=>?_⟩
   cases e
   exact ⟨o,I.kIn _ o hk,hd⟩
  ·have z:∃ o,s.heap.get? p=some o/\o.ExactDict:=by
    rcases hk with ⟨kvs,hk⟩ | ⟨kvs,hk⟩
    ·obtain ⟨_,_,_,_,o,_,_,e,ex,_⟩:=I.hok p _ hk
     exact ⟨o,e,ex⟩
    ·obtain ⟨_,_,_,_,o,_,_,e,ex,_⟩:=I.hok p _ hk
     exact ⟨o,e,ex⟩
   obtain ⟨o,e,ex⟩:=z
   refine ⟨⟨o,e,ex.1⟩,fun a e2=>?_⟩
   cases e2
   exact ⟨o,e,ex.2.1⟩
  ·obtain ⟨o,_,_,_,e,ex,_⟩:=I.hok p _ hk
   refine ⟨⟨o,e,ex.1⟩,fun a e2=>?_⟩
   cases e2
   exact ⟨o,e,ex.2.1⟩
 | _=>exact False.elim ty
def tBM0 (K:PySem.W.Frag)(T:String)(r:V->List V->Hp->VK->Prop)(to:TE):TE:=fun σ H Q=>to σ H fun x H1=>tyV K T x H1/\r x [] H1 Q
def tBM (K:PySem.W.Frag)(T:String)(r:V->List V->Hp->VK->Prop)(to:TE)(t:TA):TE:=fun σ H Q=>to σ H fun x H1=>tyV K T x H1/\t σ H1 fun xs H2=>r x xs H2 Q
variable {o e:Expr} {es:List Expr} {to:TE} {t:TA} {name:Str} {apos cpos:Pos} {T id:String} {r:V->List V->Hp->VK->Prop}
theorem pe_bm0 (pa:PlainAttrs T)(slot:Slot T name id)(hty:typeOf (.builtin id)=pure (.type "method_descriptor")) (hm:MtR X id r) (ho:PE X o to)
  (hbase:attributeBase o name X.env (eval o X.env)=eval o X.env:=by rfl) (hline:(apos.endLine == cpos.line)=true:=by rfl):PE X (.Call (.Attribute o name apos) [] [] cpos) (tBM0 X.K T r to):=by
 intro pins s σ H Q I h
 refine wpAny_Call_method0_late hbase hline (thn (ho pins s σ H _ I h) fun v s1 ⟨x,H1,I1,r1,ty,q1⟩=>?_)
 obtain ⟨h1,h2⟩:=tyV_is I1 r1 ty
 exact ⟨T,id,pa,slot,hty,h1,h2,Calls.callWith_builtin rfl (PySem.evalArgs_none (hm pins s1 σ H1 x [] v [] Q I1 r1 .nil q1))⟩
theorem pe_bm (pa:PlainAttrs T)(slot:Slot T name id)(hty:typeOf (.builtin id)=pure (.type "method_descriptor")) (hm:MtR X id r) (ho:PE X o to) (ha:PA X (e::es) t)
  (hbase:attributeBase o name X.env (eval o X.env)=eval o X.env:=by rfl)
  (hfew:((backTo cpos (starEach (e::es) X.env)).all (fun x=>!x.1) && (backToKw cpos (keywordEach [] X.env)).all (fun x=>x.1.isSome)
   && decide ((e::es).length+([]:List Keyword).length+(if ([]:List Keyword).isEmpty then 0 else 1) < 30))=true:=by rfl)
  (hline:(apos.endLine == cpos.line)=true:=by rfl) (hs:starEach (e::es) X.env=(false,eval e X.env)::starEach es X.env:=by rfl) (hplain:(backTo cpos (starEach es X.env)).any (·.1)=false:=by rfl) :
  PE X (.Call (.Attribute o name apos) (e::es) [] cpos) (tBM X.K T r to t):=by
 intro pins s σ H Q I h
 refine wpAny_Call_method_late hbase hfew hline rfl (thn (ho pins s σ H _ I h) fun v s1 ⟨x,H1,I1,r1,ty,q1⟩=>?_)
 obtain ⟨h1,h2⟩:=tyV_is I1 r1 ty
 refine ⟨T,id,pa,slot,hty,h1,h2,?_⟩
 have hA:=ha cpos pins s1 σ H1 _ I1 q1
 rw [hs] at hA ⊢
 refine Calls.callWith_builtin (by show (false || (backTo cpos (starEach es X.env)).any (·.1))=false;rw [hplain]<;>rfl) (Calls.evalArgs_plain ?_)
 exact thn hA fun us s2 ⟨vs,H2,I2,r2,q2⟩=>hm pins s2 σ H2 x vs v us Q I2 r1 r2 q2
end
end L2
namespace L2
open PySem PySem.Spec PyProof.Rows
def MtM (X:Cx)(id:String)(r:V->List V->Hp->VK->Prop):Prop :=
 ∀ (pins:List (Addr×Obj)) (s:Shared) (σ:St) (H:Hp) (x:V) (xs:List V) (v:Value) (us:List Value) (Q:VK),Inv X pins σ H s->RelV x v->Vals xs us->r x xs H Q ->
  wpAny (model X.prog X.w) X.A (call (.builtin id) (v::us)) (EP X pins σ Q) X.xe s
theorem Vals.one:∀ {x:V} {us:List Value},Vals [x] us->∃ u,us=[u]/\RelV x u
 | _,_,.cons r .nil=>⟨_,rfl,r⟩
theorem Vals.zero:∀ {us:List Value},Vals [] us->us=[]
 | _,.nil=>rfl
theorem Vals.dropLast {xs:List V}{us:List Value}(h:Vals xs us):Vals xs.dropLast us.dropLast:=by
 induction h with
 | nil=>exact .nil
 | cons r t ih =>
  cases t with
  | nil=>exact .nil
  | cons q t'=>exact .cons r ih
theorem Vals.eraseIdx:∀ {xs:List V} {us:List Value} (i:Nat),Vals xs us->Vals (xs.eraseIdx i) (us.eraseIdx i)
 | _,_,_,.nil=>.nil
 | _,_,0,.cons _ t=>t
 | _,_,i+1,.cons r t=>.cons r (Vals.eraseIdx i t)
theorem Vals.rep {xs:List V}{us:List Value}(h:Vals xs us):∀ k:Nat,Vals (List.replicate k xs).flatten (List.replicate k us).flatten
 | 0=>.nil
 | k+1=>by
  rw [List.replicate_succ,List.replicate_succ,List.flatten_cons,List.flatten_cons]
  exact Vals.append h (Vals.rep h k)
theorem erase_last {α:Type}(l:List α):l.eraseIdx (l.length-1)=l.dropLast:=by
 induction l with
 | nil=>rfl
 | cons a r ih =>
  cases r with
  | nil=>rfl
  | cons b r =>
   have e:(a::b::r).length-1=((b::r).length-1)+1:=by
    have h1:(a::b::r).length=r.length+2:=rfl
    have h2:(b::r).length=r.length+1:=rfl
    omega
   rw [e,List.eraseIdx_cons_succ,ih]
   all_goals rfl
theorem len_erase {α:Type}:∀ (l:List α) (i:Nat),(l.eraseIdx i).length<=l.length
 | [],_=>Nat.le_refl _
 | _::_,0=>Nat.le_succ _
 | _::r,i+1=>Nat.succ_le_succ (len_erase r i)
theorem foldl_rep (its:List Value):∀ (k:Nat) (acc:List Value),
  List.foldl (fun x1 x2=>x1++x2) acc.toArray (List.replicate k its.toArray)=(acc++(List.replicate k its).flatten).toArray
 | 0,acc=>by simp
 | k+1,acc=>by
  have e:acc.toArray++its.toArray=(acc++its).toArray:=by simp
  have e2:(acc++its)++(List.replicate k its).flatten=acc++(List.replicate (k+1) its).flatten:=by
   rw [List.replicate_succ,List.flatten_cons,List.append_assoc]
  rw [<- e2,<- foldl_rep its k (acc++its),<- e,List.replicate_succ,List.foldl_cons]
section
variable {X:Cx} {pins:List (Addr×Obj)} {σ:St} {H:Hp} {s:Shared} {l b:Addr} {xs ys zs:List V}
theorem Inv.lset {its its':List Value}{n:Nat}{f:Array Value->Array Value}{t':Nat}(I:Inv X pins σ H s)(hH:H l=some (.lst xs))
  (e:s.heap.get? l=some {cls:=.type "list",data:=.seq its.toArray n}) (hf:f its.toArray=its'.toArray) (hv:Vals ys its') (hz:ys.length<=sizeLine) :
  Inv X pins σ (upd H l (.lst ys)) {s with heap:=s.heap.update l (Obj.mapSeq f),toks:=t'}:=by
 have q:=PySem.IsL.update e f
 rw [hf] at q
 refine I.write (x:=l) (e:=l) (by rw [hH];exact trivial) (.inl rfl) (fun b' u hb hu=>(Heap.get?_update_other s.heap (Obj.mapSeq f) (Ne.symm hb)).trans hu) ⟨_,q⟩ ?_
 exact ⟨hz,its',_,hv,q⟩
theorem Inv.lnew {its:List Value}{t':Nat}(I:Inv X pins σ H s)(hv:Vals ys its)(hz:ys.length<=sizeLine) :
  Inv X pins σ (upd H s.heap.objs.size (.lst ys)) {s with heap:=s.heap.push {cls:=.type "list",data:=.seq its.toArray},toks:=t'} :=
 I.laid (fun _ _ q=>Heap.get?_push_of_some _ q) (Nat.le_refl _) ⟨hz,its,0,hv,Heap.get?_push_size _ rfl⟩
theorem Inv.fresh (I:Inv X pins σ H s):H s.heap.objs.size=none:=I.hok.fresh (Nat.le_refl _)
theorem Inv.lstM (I:Inv X pins σ H s)(hH:H l=some (.lst xs)):xs.length<=sizeLine/\∃ (its:List Value) (n:Nat),Vals xs its/\xs.length=its.length/\s.heap.get? l=some {cls:=.type "list",data:=.seq its.toArray n}:=by
 obtain ⟨z,its,n,r,e⟩:=I.hok l _ hH
 exact ⟨z,its,n,r,r.length,e⟩
theorem notLongL {n:Nat}(h:n<=sizeLine):Builtin.List.listTooLong n=false:=by
 unfold Builtin.List.listTooLong
 exact decide_eq_false (by omega)
end
section
variable {X:Cx}
def rAppend:V->List V->Hp->VK->Prop:=fun x vs H Q=>∃ l xs y,x=.ref l/\vs=[y]/\H l=some (.lst xs)/\xs.length < sizeLine/\Q .non (upd H l (.lst (xs++[y])))
theorem mt_append:MtM X "list.append" rAppend:=by
 intro pins s σ H x vs v us Q I rx rv h
 obtain ⟨l,xs,y,rfl,rfl,hH,hz,q⟩:=h
 cases rx
 obtain ⟨u,rfl,ru⟩:=rv.one
 obtain ⟨z,its,n,r,hl,e⟩:=I.lstM hH
 refine call_meets F.slot_list_append ⟨_,e,rfl⟩ F.entry_list_append (F.args_list_append_2 _ _) (PySem.list_append l its.toArray n u (by rw [List.size_toArray];omega)) ⟨e,?_⟩
 refine ⟨.non,_,I.lset (its':=its++[u]) hH e (by simp) (r.append (.cons ru .nil)) ?_,rfl,q⟩
 rw [List.length_append,List.length_singleton]
 omega
def rExtend:V->List V->Hp->VK->Prop:=fun x vs H Q=>∃ l b xs zs,x=.ref l/\vs=[.ref b]/\H l=some (.lst xs)/\H b=some (.lst zs)/\xs.length+zs.length<=sizeLine/\Q .non (upd H l (.lst (xs++zs)))
theorem mt_extend:MtM X "list.extend" rExtend:=by
 intro pins s σ H x vs v us Q I rx rv h
 obtain ⟨l,b,xs,zs,rfl,rfl,hH,hB,hz,q⟩:=h
 cases rx
 obtain ⟨u,rfl,ru⟩:=rv.one
 cases ru
 obtain ⟨z,its,n,r,hl,e⟩:=I.lstM hH
 obtain ⟨z2,its2,n2,r2,hl2,e2⟩:=I.lstM hB
 have hsz:its.toArray.size+its2.toArray.size<=sizeLine:=by rw [List.size_toArray,List.size_toArray];omega
 have hlong:¬ (!its.toArray.isEmpty && Builtin.List.listTooLong (its.toArray.size+its2.toArray.size))=true:=by
  rw [notLongL hsz,Bool.and_false]
  exact Bool.false_ne_true
 refine call_meets F.slot_list_extend ⟨_,e,rfl⟩ F.entry_list_extend (F.args_list_extend_2 _ _)
  (AutoSeq1.list_extend_list_list_0 l its.toArray n b its2.toArray n2 hlong (by rw [List.size_toArray];omega) (by omega)) ⟨e,e2,?_⟩
 refine ⟨.non,_,I.lset (its':=its++its2) hH e (by simp) (r.append r2) ?_,rfl,q⟩
 rw [List.length_append]
 omega
def rPop:V->List V->Hp->VK->Prop:=fun x vs H Q=>∃ l xs y,x=.ref l/\vs=[]/\H l=some (.lst xs)/\xs[xs.length-1]?=some y/\Q y (upd H l (.lst xs.dropLast))
theorem mt_pop:MtM X "list.pop" rPop:=by
 intro pins s σ H x vs v us Q I rx rv h
 obtain ⟨l,xs,y,rfl,rfl,hH,hy,q⟩:=h
 cases rx
 have hus:=rv.zero
 subst hus
 obtain ⟨z,its,n,r,hl,e⟩:=I.lstM hH
 obtain ⟨u,hu,ru⟩:=r.get hy
 have hy':its.toArray[its.toArray.size-1]?=some u:=by
  show its.toArray[its.length-1]?=some u
  rw [<- Array.getElem?_toList,<- hl]
  exact hu
 refine call_meets F.slot_list_pop ⟨_,e,rfl⟩ F.entry_list_pop (F.args_list_pop_1 _) (MeetsSeq.list_pop_last l its.toArray n u hy' (by rw [List.size_toArray];omega)) ⟨e,?_⟩
 refine ⟨y,_,I.lset (its':=its.dropLast) hH e ?_ r.dropLast ?_,ru,q⟩
 ·show its.toArray.eraseIdxIfInBounds (its.toArray.size-1)=its.dropLast.toArray
  rw [List.size_toArray,List.eraseIdxIfInBounds_toArray,erase_last]
 ·rw [List.length_dropLast]
  omega
def rPopAt:V->List V->Hp->VK->Prop:=fun x vs H Q=>∃ l xs i k y,x=.ref l/\vs=[.int i]/\H l=some (.lst xs)/\-(2 ^ 63)<=i/\i < 2 ^ 63/\seqIndex? i xs.length=some k/\xs[k]?=some y/\Q y (upd H l (.lst (xs.eraseIdx k)))
theorem mt_popAt:MtM X "list.pop" rPopAt:=by
 intro pins s σ H x vs v us Q I rx rv h
 obtain ⟨l,xs,i,k,y,rfl,rfl,hH,h1,h2,hk,hy,q⟩:=h
 cases rx
 obtain ⟨u,rfl,ru⟩:=rv.one
 obtain ⟨t,rfl⟩:=ru
 obtain ⟨z,its,n,r,hl,e⟩:=I.lstM hH
 obtain ⟨w,hw,rw'⟩:=r.get hy
 refine call_meets F.slot_list_pop ⟨_,e,rfl⟩ F.entry_list_pop (F.args_list_pop_2 _ _)
  (MeetsSeq.list_pop_at l its.toArray n i t k w (fitsIndex_both h1 h2) (by rw [List.size_toArray,<- hl];exact hk) (by rw [<- Array.getElem?_toList];exact hw) (by rw [List.size_toArray];omega)) ⟨e,?_⟩
 refine ⟨y,_,I.lset (its':=its.eraseIdx k) hH e ?_ (r.eraseIdx k) ?_,rw',q⟩
 ·show its.toArray.eraseIdxIfInBounds k=(its.eraseIdx k).toArray
  rw [List.eraseIdxIfInBounds_toArray]
 ·have:=len_erase xs k
  omega
def rCat:R2:=fun x y H Q=>∃ l b xs zs,x=.ref l/\y=.ref b/\H l=some (.lst xs)/\H b=some (.lst zs)/\xs.length+zs.length<=sizeLine/\∀ p,H p=none->Q (.ref p) (upd H p (.lst (xs++zs)))
theorem op_cat:OpR X (binaryOp .Add) rCat:=by
 intro pins s σ H x y v u Q I rx ry h
 obtain ⟨l,b,xs,zs,rfl,rfl,hH,hB,hz,q⟩:=h
 cases rx
 cases ry
 obtain ⟨z,its,n,r,hl,e⟩:=I.lstM hH
 obtain ⟨z2,its2,n2,r2,hl2,e2⟩:=I.lstM hB
 refine PySem.P.add_list e e2 ?_ (by rw [List.size_toArray,List.size_toArray];omega)
 have ea:its.toArray++its2.toArray=(its++its2).toArray:=by simp
 rw [ea]
 exact ⟨.ref _,_,I.lnew (t':=s.toks) (r.append r2) (by rw [List.length_append];omega),rfl,q _ I.fresh⟩
def rRep:R2:=fun x y H Q=>∃ l k xs,x=.ref l/\y=.int k/\H l=some (.lst xs)/\-(2 ^ 63)<=k/\k < 2 ^ 63/\xs.length*k.toNat<=sizeLine /\
 ∀ p,H p=none->Q (.ref p) (upd H p (.lst (List.replicate k.toNat xs).flatten))
theorem len_rep {α:Type}(xs:List α)(k:Nat):(List.replicate k xs).flatten.length=k*xs.length:=by
 induction k with
 | zero=>simp
 | succ k ih=>rw [List.replicate_succ,List.flatten_cons,List.length_append,ih,Nat.succ_mul,Nat.add_comm]
theorem op_rep:OpR X (binaryOp .Mult) rRep:=by
 intro pins s σ H x y v u Q I rx ry h
 obtain ⟨l,k,xs,rfl,rfl,hH,h1,h2,hz,q⟩:=h
 cases rx
 obtain ⟨t,rfl⟩:=ry
 obtain ⟨z,its,n,r,hl,e⟩:=I.lstM hH
 have hlen:its.toArray.size*k.toNat<=sizeLine:=by rw [List.size_toArray,<- hl];exact hz
 have hcap:¬ its.toArray.size*k.toNat > (2 ^ 63-1) / 8:=by
  have:(sizeLine:Nat)<=(2 ^ 63-1) / 8:=by decide
  omega
 have hfit:¬ (!Builtin.List.listFitsIndex k)=true:=by
  rw [fitsIndex_both h1 h2]
  exact Bool.false_ne_true
 have hlong:¬ Builtin.List.listTooLong (its.toArray.size*k.toNat)=true:=by
  rw [notLongL hlen]
  exact Bool.false_ne_true
 have hnew:List.foldl (fun x1 x2=>x1++x2) #[] (List.replicate (if its.toArray.isEmpty=true then 0 else k.toNat) its.toArray)=(List.replicate k.toNat its).flatten.toArray:=by
  have f0:∀ m:Nat,List.foldl (fun x1 x2=>x1++x2) #[] (List.replicate m its.toArray)=(List.replicate m its).flatten.toArray:=fun m=>by
   have:=foldl_rep its m []
   rw [List.nil_append] at this
   exact this
  rw [f0]
  cases its with
  | nil=>simp
  | cons a r'=>rw [if_neg (by simp)]
 refine wpAny_binaryOp_repeat_ref (T:="list") (U:="int") (by decide) ⟨_,e,rfl⟩ (fun s'=>typeIs_int s' k t) noFill_list_mul F.fills_int_mul F.slot_int_rmul repeat_list F.slot_int_index.lookup
  (call_meets F.slot_int_rmul (typeIs_int s k t) F.entry_int_rmul (F.args_int_rmul_2 _ _) (int___rmul___int_list k t l its.toArray n)
   ⟨e,rfl,⟨_,e,rfl⟩,call_meets F.slot_list_mul ⟨_,e,rfl⟩ F.entry_list_mul (F.args_list_mul_2 _ _) (AutoListH.list___mul___list_int_3 l its.toArray n k t hfit hcap hlong) ⟨e,?_⟩⟩)
 rw [hnew]
 exact ⟨.ref _,_,I.lnew (t':=s.toks) (r.rep k.toNat) (by rw [len_rep,Nat.mul_comm];exact hz),rfl,q _ I.fresh⟩
end
section
variable {prog:Program} {w:World} {A:Around} {E:Value->Shared->Prop} {s:Shared}
set_option maxRecDepth 100000 in
end
section
variable {X:Cx}
end
end L2
namespace L2
open PySem PySem.Spec PyProof.Rows
theorem Vals.ints:∀ {ns:List Int} {us:List Value},Vals (ns.map V.int) us->IntsAre us ns
 | [],us,h=>by
  rw [List.map_nil] at h
  cases h
  exact IntsAre.nil
 | n::ns,us,h=>by
  rw [List.map_cons] at h
  cases h with
  | cons r t =>
   obtain ⟨k,rfl⟩:=r
   exact IntsAre.cons n k (Vals.ints t)
theorem Vals.ref1 {a:Addr}{us:List Value}(r:Vals [V.ref a] us):us=[Value.ref a]:=by
 cases r with
 | cons r t =>
  cases t
  cases r
  rfl
section
variable {prog:Program} {w:World} {A:Around} {E:Value->Shared->Prop} {s:Shared} {l:Addr} {its:List Value} {ns:List Int} {Q:Value->Shared->Prop}
theorem sum_raw (hh:A.handled=none)(hl:s.heap.IsList l its.toArray)(hi:IntsAre its ns)
  (h:∀ h' tk t',(∀ b o,s.heap.get? b=some o->h'.get? b=some o)->Q (.int ns.sum t') {s with heap:=h',toks:=tk}):wpAny (model prog w) A (call (.builtin "sum") [.ref l]) Q E s:=by
 obtain ⟨xs,e⟩:=hi.allInts.items
 have hn:numsOf (intItems xs).toList=ns:=by rw [<- e];exact hi.numsOf
 rw [nums_intItems] at hn
 rw [e] at hl
 refine PySem.sum_intListG hh hl fun h' tk t' hk=>?_
 have:=h h' tk t' hk
 rw [preSum_eq,List.take_of_length_le (by simp),hn];exact this
theorem max_raw (hh:A.handled=none)(hl:s.heap.IsList l its.toArray)(hi:IntsAre its ns)(hne:0 < ns.length)
  (h:∀ h' tk M t',(∀ b o,s.heap.get? b=some o->h'.get? b=some o)->M∈ns->(∀ a,a∈ns->a<=M)->Q (.int M t') {s with heap:=h',toks:=tk}):wpAny (model prog w) A (call (.builtin "max") [.ref l]) Q E s:=by
 obtain ⟨xs,e⟩:=hi.allInts.items
 have hn:numsOf (intItems xs).toList=ns:=by rw [<- e];exact hi.numsOf
 rw [nums_intItems] at hn
 subst hn
 rw [e] at hl
 have hsz:0 < xs.size:=by simpa using hne
 refine PySem.max_intList hh hl hsz fun v h' tk hv hk=>?_
 obtain ⟨t,rfl⟩:=intItems_at hv
 obtain ⟨h1,h2⟩:=argBest_gt (numAt xs) (xs.size-1)
 refine h h' tk _ t hk ?_ fun a ha=>?_
 ·rw [numAt_eq];exact PySem.getD_mem (by rw [List.length_map,Array.length_toList];omega)
 ·obtain ⟨j,hj,rfl⟩:=mem_getD ha
  rw [List.length_map,Array.length_toList] at hj
  rw [<- numAt_eq];exact h2 j (by omega)
theorem min_raw (hh:A.handled=none)(hl:s.heap.IsList l its.toArray)(hi:IntsAre its ns)(hne:0 < ns.length)
  (h:∀ h' tk M t',(∀ b o,s.heap.get? b=some o->h'.get? b=some o)->M∈ns->(∀ a,a∈ns->M<=a)->Q (.int M t') {s with heap:=h',toks:=tk}):wpAny (model prog w) A (call (.builtin "min") [.ref l]) Q E s:=by
 obtain ⟨xs,e⟩:=hi.allInts.items
 have hn:numsOf (intItems xs).toList=ns:=by rw [<- e];exact hi.numsOf
 rw [nums_intItems] at hn
 subst hn
 rw [e] at hl
 have hsz:0 < xs.size:=by simpa using hne
 refine PySem.min_intList hh hl hsz fun v h' tk hv hk=>?_
 obtain ⟨t,rfl⟩:=intItems_at hv
 obtain ⟨h1,h2⟩:=argBest_lt (numAt xs) (xs.size-1)
 refine h h' tk _ t hk ?_ fun a ha=>?_
 ·rw [numAt_eq];exact PySem.getD_mem (by rw [List.length_map,Array.length_toList];omega)
 ·obtain ⟨j,hj,rfl⟩:=mem_getD ha
  rw [List.length_map,Array.length_toList] at hj
  rw [<- numAt_eq];exact h2 j (by omega)
end
section
variable {X:Cx}
def rSum (K:PySem.W.Frag):List V->Hp->VK->Prop:=fun vs H Q=>∃ (a:Addr) (ns:List Int),vs=[V.ref a]/\SqL K H a (ns.map V.int)/\Q (.int ns.sum) H
def rMax (K:PySem.W.Frag):List V->Hp->VK->Prop:=fun vs H Q=>∃ (a:Addr) (ns:List Int),vs=[V.ref a]/\SqL K H a (ns.map V.int)/\0 < ns.length/\∀ m,m∈ns->(∀ y,y∈ns->y<=m)->Q (.int m) H
def rMin (K:PySem.W.Frag):List V->Hp->VK->Prop:=fun vs H Q=>∃ (a:Addr) (ns:List Int),vs=[V.ref a]/\SqL K H a (ns.map V.int)/\0 < ns.length/\∀ m,m∈ns->(∀ y,y∈ns->m<=y)->Q (.int m) H
theorem cr_sum (hc:X.calm=true):CallR X (.builtin "sum") (rSum X.K):=by
 intro pins s σ H vs us Q I r h
 obtain ⟨a,ns,rfl,hs,q⟩:=h
 obtain ⟨its,rv,hl,_⟩:=I.list hs
 rw [Vals.ref1 r]
 exact sum_raw (I.ok.hd hc) hl.isList rv.ints fun h' tk t' hk=>⟨.int _,H,I.kept hk,⟨_,rfl⟩,q⟩
theorem cr_max (hc:X.calm=true):CallR X (.builtin "max") (rMax X.K):=by
 intro pins s σ H vs us Q I r h
 obtain ⟨a,ns,rfl,hs,hne,q⟩:=h
 obtain ⟨its,rv,hl,_⟩:=I.list hs
 rw [Vals.ref1 r]
 exact max_raw (I.ok.hd hc) hl.isList rv.ints hne fun h' tk m t' hk h1 h2=>⟨.int _,H,I.kept hk,⟨_,rfl⟩,q m h1 h2⟩
theorem cr_min (hc:X.calm=true):CallR X (.builtin "min") (rMin X.K):=by
 intro pins s σ H vs us Q I r h
 obtain ⟨a,ns,rfl,hs,hne,q⟩:=h
 obtain ⟨its,rv,hl,_⟩:=I.list hs
 rw [Vals.ref1 r]
 exact min_raw (I.ok.hd hc) hl.isList rv.ints hne fun h' tk m t' hk h1 h2=>⟨.int _,H,I.kept hk,⟨_,rfl⟩,q m h1 h2⟩
end
section
variable {X:Cx}
def rIndex (K:PySem.W.Frag):V->List V->Hp->VK->Prop:=fun x xs H Q=>∃ (a:Addr) (ys:List V) (y:V) (j:Nat) (z:V),x=V.ref a/\xs=[y]/\SqL K H a ys/\flatV y=true/\ys.all flatV=true/\ys[j]?=some z/\eqV z y=true /\
 (∀ (m:Nat) (z':V),m < j->ys[m]?=some z'->eqV z' y=false)/\Q (.int (j:Nat)) H
theorem flat_at {ys:List V}(f:ys.all flatV=true){j:Nat}{z:V}(h:ys[j]?=some z):flatV z=true:=List.all_eq_true.mp f z (List.mem_of_getElem? h)
theorem mt_index:MtR X "list.index" (rIndex X.K):=by
 intro pins s σ H x xs v us Q I rx rxs h
 obtain ⟨a,ys,y,j,z,rfl,rfl,hs,fy,fys,hz,hzj,hno,q⟩:=h
 cases rx
 cases rxs with
 | cons ry rt =>
  rename_i uy ut
  cases rt
  obtain ⟨its,rv,⟨⟨cls,dd,data,sl⟩,n,ho,hc,hdn,hd⟩,hlen⟩:=I.list hs
  simp only at hc hd
  subst hc hd
  obtain ⟨u,hu,ru⟩:=rv.get hz
  obtain ⟨hjl,hje⟩:=List.getElem?_eq_some_iff.mp hu
  have hvl:=rv.length
  have hj:j < its.toArray.size:=by simpa using hjl
  have hsl:=sizeLine_eq
  refine call_meets PySem.F.slot_list_index ⟨_,ho,rfl⟩ PySem.F.entry_list_index (PySem.F.args_list_index_2 _ _)
   (SeqAt.list_indexAt a its.toArray n dd sl uy (eqU y) j hj (by omega) ?_ ?_) ⟨ho,fun u' hu'=>mem_eqAt ry fy rv fys u' (by simpa using hu'),?_⟩
  ·have e1:its.toArray[j]=u:=by simpa using hje
   rw [e1,eqU_of ru (flat_at fys hz)]
   exact hzj
  ·intro m hm hmj
   have hml:m < its.length:=by simpa using hm
   have hmy:m < ys.length:=by omega
   have hy':ys[m]?=some ys[m]:=List.getElem?_eq_getElem hmy
   obtain ⟨u2,hu2,ru2⟩:=rv.get hy'
   obtain ⟨_,hme⟩:=List.getElem?_eq_some_iff.mp hu2
   have e1:its.toArray[m]=u2:=by simpa using hme
   rw [e1,eqU_of ru2 (flat_at fys hy')]
   exact hno m _ hmj hy'
  ·exact ⟨.int (j:Nat),H,I.tok _,⟨_,rfl⟩,q⟩
end
section
variable {X:Cx}
end
section
variable {X:Cx}
end
mutual
inductive Dp (K:PySem.W.Frag)(H:Hp):V->PyData->Prop
 | non:Dp K H .non .none
 | bl (b:Bool):Dp K H (.bl b) (.bool b)
 | int (i:Int):Dp K H (.int i) (.int i)
 | str (x:Str):Dp K H (.str x) (.str x)
 | lst {a:Addr} {xs:List V} {ds:List PyData}:SqL K H a xs->DpAll K H xs ds->Dp K H (.ref a) (.list ds)
 | tup {a:Addr} {xs:List V} {ds:List PyData}:SqT K H a xs->DpAll K H xs ds->Dp K H (.ref a) (.tuple ds)
inductive DpAll (K:PySem.W.Frag)(H:Hp):List V->List PyData->Prop
 | nil:DpAll K H [] []
 | cons {v:V} {vs:List V} {d:PyData} {ds:List PyData}:Dp K H v d->DpAll K H vs ds->DpAll K H (v::vs) (d::ds)
end
section
variable {X:Cx} {pins:List (Addr×Obj)} {σ:St} {H:Hp} {s:Shared}
mutual
theorem Dp.reads (I:Inv X pins σ H s):∀ (d:PyData) (v:V) (u:Value),Dp X.K H v d->RelV v u->∃ as,Reads s.heap u d as
 | .none,_,_,h,r=>by
  cases h
  cases r
  exact ⟨_,Reads.none⟩
 | .bool b,_,_,h,r=>by
  cases h
  cases r
  exact ⟨_,Reads.bool b⟩
 | .int i,_,_,h,r=>by
  cases h
  obtain ⟨t,rfl⟩:=r
  exact ⟨_,Reads.int i t⟩
 | .str x,_,_,h,r=>by
  cases h
  obtain ⟨t,rfl⟩:=r
  exact ⟨_,Reads.str x t⟩
 | .list ds,_,_,h,r=>by
  cases h with
  | lst hs ha =>
   cases r
   obtain ⟨its,rv,⟨o,n,ho,hc,_,hd⟩,_⟩:=I.list hs
   obtain ⟨as,hr⟩:=Dp.readsAll I ds _ its ha rv
   exact ⟨_,Reads.list ho hc hd hr⟩
 | .tuple ds,_,_,h,r=>by
  cases h with
  | tup hs ha =>
   cases r
   obtain ⟨its,rv,⟨o,ho,hc,n,hd⟩,_⟩:=I.tuple hs
   obtain ⟨as,hr⟩:=Dp.readsAll I ds _ its ha rv
   exact ⟨_,Reads.tuple ho hc hd hr⟩
 | .dict _,_,_,h,_=>by cases h
theorem Dp.readsAll (I:Inv X pins σ H s):∀ (ds:List PyData) (vs:List V) (us:List Value),DpAll X.K H vs ds->Vals vs us->∃ as,ReadsAll s.heap us ds as
 | [],_,_,h,r=>by
  cases h
  cases r
  exact ⟨_,ReadsAll.nil⟩
 | d::ds,_,_,h,r=>by
  cases h with
  | cons h1 h2 =>
   cases r with
   | cons r1 r2 =>
    obtain ⟨as,q1⟩:=Dp.reads I d _ _ h1 r1
    obtain ⟨bs,q2⟩:=Dp.readsAll I ds _ _ h2 r2
    exact ⟨_,ReadsAll.cons q1 q2⟩
end
end
section
variable {X:Cx}
def rEqD (K:PySem.W.Frag):R2:=fun x y H Q=>∃ d e,Dp K H x d/\Dp K H y e/\SeqAt.shaped d=true/\SeqAt.shaped e=true/\Q (.bl (PyData.eqv d e)) H
def rNeD (K:PySem.W.Frag):R2:=fun x y H Q=>∃ d e,Dp K H x d/\Dp K H y e/\SeqAt.shaped d=true/\SeqAt.shaped e=true/\Q (.bl (!PyData.eqv d e)) H
theorem op_eqD (hu:X.A.units+64 < cLine):OpR X (compareOp .Eq) (rEqD X.K):=by
 intro pins s σ H x y v u Q I rx ry h
 obtain ⟨d,e,hd,he,sd,se,q⟩:=h
 obtain ⟨as,r1⟩:=Dp.reads I d x v hd rx
 obtain ⟨bs,r2⟩:=Dp.reads I e y u he ry
 exact SeqAt.compareEq_shaped r1 r2 sd se hu ⟨.bl _,H,I,rfl,q⟩
theorem op_neD (hu:X.A.units+64 < cLine):OpR X (compareOp .NotEq) (rNeD X.K):=by
 intro pins s σ H x y v u Q I rx ry h
 obtain ⟨d,e,hd,he,sd,se,q⟩:=h
 obtain ⟨as,r1⟩:=Dp.reads I d x v hd rx
 obtain ⟨bs,r2⟩:=Dp.reads I e y u he ry
 exact SeqAt.compareNe_shaped r1 r2 sd se hu ⟨.bl _,H,I,rfl,q⟩
end
end L2
namespace L2
open PySem PySem.Spec PyProof.Rows
abbrev CellAt (h:Heap)(c:Addr)(v:Option Value):Prop:=h.IsCell c v
def relS (scope sc:Scope):Scope :=
 {scope with names:=scope.names.map fun (n,k)=>if (k == .free && sc.kind == .function && sc.names.lookup n == some .cell) then (n,.cell) else (n,k)}
def cloFrom (cells:List (Str×Addr)):List (Str×NameKind)->List (Str×Addr)->List (Str×Addr)
 | [],acc=>acc
 |(n,k)::r,acc=>if k == .free then cloFrom cells r ((n,(cells.lookup n).getD 0)::acc) else cloFrom cells r acc
theorem closure_loop (env:Env)(f:Str×NameKind->List (Str×Addr)->Sem (ForInStep (List (Str×Addr))))
  (hf:∀ n k c,f (n,k) c=if k == .free then (do let a <- cellOf env n;pure (.yield ((n,a)::c))) else pure (.yield c)) :
  ∀ (names:List (Str×NameKind)) (acc:List (Str×Addr)),(∀ y∈names,y.2=.free->∃ c,env.cells.lookup y.1=some c)->forIn names acc f=pure (cloFrom env.cells names acc)
 | [],acc,_=>by rw [List.forIn_nil];rfl
 |(n,k)::r,acc,h=>by
  rw [List.forIn_cons,hf]
  have ih:=fun acc=>closure_loop env f hf r acc fun y hy=>h y (List.mem_cons_of_mem _ hy)
  unfold cloFrom
  by_cases hk:(k == NameKind.free)=true
  ·rw [if_pos hk,if_pos hk]
   obtain ⟨c,hc⟩:=h (n,k) List.mem_cons_self (by simpa using hk)
   have e:cellOf env n=pure c:=by unfold cellOf;rw [hc]
   rw [e]
   have e2:(env.cells.lookup n).getD 0=c:=by rw [hc];rfl
   rw [e2]
   exact ih _
  ·rw [if_neg hk,if_neg hk]
   exact ih _
theorem closure_ok {scope:Scope}{env:Env}(h:∀ y∈scope.names,y.2=.free->∃ c,env.cells.lookup y.1=some c):closureFor scope env=pure (cloFrom env.cells scope.names []):=by
 simp only [closureFor]
 rw [closure_loop env _ (fun n k c=>rfl) scope.names [] h]
 rfl
theorem mem_lookup {α:Type}:∀ {l:List (Str×α)} {n:Str} {c:α},(n,c)∈l->∃ c',l.lookup n=some c'
 |(k,v)::r,n,c,h=>by
  rw [List.lookup_cons]
  cases hb:n == k with
  | true=>exact ⟨_,rfl⟩
  | false =>
   rcases List.mem_cons.mp h with e | h
   ·cases e;simp at hb
   ·exact mem_lookup h
theorem cloFrom_mem {cells:List (Str×Addr)}:∀ {names:List (Str×NameKind)} {acc:List (Str×Addr)} {n:Str} {c:Addr},(n,c)∈cloFrom cells names acc->(n,c)∈acc\/((n,.free)∈names/\c=(cells.lookup n).getD 0)
 | [],_,_,_,h=>.inl h
 |(m,k)::r,acc,n,c,h=>by
  unfold cloFrom at h
  split at h
  ·rename_i hk
   have hk:k=.free:=by simpa using hk
   rcases cloFrom_mem h with h | ⟨h1,h2⟩
   ·rcases List.mem_cons.mp h with e | h
    ·cases e;exact .inr ⟨hk▸List.mem_cons_self,rfl⟩
    ·exact .inl h
   ·exact .inr ⟨List.mem_cons_of_mem _ h1,h2⟩
  ·rcases cloFrom_mem h with h | ⟨h1,h2⟩
   ·exact .inl h
   ·exact .inr ⟨List.mem_cons_of_mem _ h1,h2⟩
theorem cloFrom_acc {cells:List (Str×Addr)}:∀ {names:List (Str×NameKind)} {acc:List (Str×Addr)} {p:Str×Addr},p∈acc->p∈cloFrom cells names acc
 | [],_,_,h=>h
 |(m,k)::r,acc,p,h=>by
  unfold cloFrom
  split
  ·exact cloFrom_acc (List.mem_cons_of_mem _ h)
  ·exact cloFrom_acc h
theorem cloFrom_has {cells:List (Str×Addr)}:∀ {names:List (Str×NameKind)} {acc:List (Str×Addr)} {n:Str},(n,.free)∈names->(n,(cells.lookup n).getD 0)∈cloFrom cells names acc
 |(m,k)::r,acc,n,h=>by
  unfold cloFrom
  rcases List.mem_cons.mp h with e | h
  ·cases e
   exact cloFrom_acc List.mem_cons_self
  ·split
   ·exact cloFrom_has h
   ·exact cloFrom_has h
theorem cells_mem:∀ {names:List (Str×NameKind)} {h:Heap} {acc:List (Str×Addr)} {x:Str} {c:Addr},(x,c)∈cellsFrom h.objs.size names acc ->
  (x,c)∈acc\/((x,.cell)∈names/\h.objs.size<=c/\CellAt (pushCells h names) c none)
 | [],_,_,_,_,h=>.inl h
 |(n,k)::r,h,acc,x,c,hm=>by
  unfold cellsFrom at hm
  unfold pushCells
  split at hm
  ·rename_i hk
   rw [if_pos hk]
   have hk:k=.cell:=by simpa using hk
   rw [<- Heap.size_push h {cls:=.type "cell",data:=.cell none}] at hm
   rcases cells_mem hm with hm | ⟨h1,h2,h3⟩
   ·rcases List.mem_cons.mp hm with e | hm
    ·cases e
     exact .inr ⟨hk▸List.mem_cons_self,Nat.le_refl _,_,pushCells_keeps r _ _ _ (Heap.get?_push_size _ rfl),rfl⟩
    ·exact .inl hm
   ·rw [Heap.size_push] at h2
    exact .inr ⟨List.mem_cons_of_mem _ h1,Nat.le_of_succ_le h2,h3⟩
  ·rename_i hk
   rw [if_neg hk]
   rcases cells_mem hm with hm | ⟨h1,h2,h3⟩
   ·exact .inl hm
   ·exact .inr ⟨List.mem_cons_of_mem _ h1,h2,h3⟩
theorem cells_acc:∀ {names:List (Str×NameKind)} {n:Nat} {acc:List (Str×Addr)} {p:Str×Addr},p∈acc->p∈cellsFrom n names acc
 | [],_,_,_,h=>h
 |(m,k)::r,n,acc,p,h=>by
  unfold cellsFrom
  split
  ·exact cells_acc (List.mem_cons_of_mem _ h)
  ·exact cells_acc h
theorem cells_has:∀ {names:List (Str×NameKind)} {n:Nat} {acc:List (Str×Addr)} {x:Str},(x,.cell)∈names->∃ c,(x,c)∈cellsFrom n names acc
 |(m,k)::r,n,acc,x,h=>by
  unfold cellsFrom
  rcases List.mem_cons.mp h with e | h
  ·cases e
   exact ⟨n,cells_acc List.mem_cons_self⟩
  ·split
   ·exact cells_has h
   ·exact cells_has h
theorem cells_inj:∀ {names:List (Str×NameKind)} {h:Heap} {acc:List (Str×Addr)} {x y:Str} {c:Addr},(∀ p∈acc,p.2 < h.objs.size)->(∀ x y c,(x,c)∈acc->(y,c)∈acc->x=y) ->
  (x,c)∈cellsFrom h.objs.size names acc->(y,c)∈cellsFrom h.objs.size names acc->x=y
 | [],_,_,_,_,_,_,hi,h1,h2=>hi _ _ _ h1 h2
 |(n,k)::r,h,acc,x,y,c,hl,hi,h1,h2=>by
  unfold cellsFrom at h1 h2
  split at h1
  ·rename_i hk
   rw [if_pos hk] at h2
   rw [<- Heap.size_push h {cls:=.type "cell",data:=.cell none}] at h1 h2
   refine cells_inj (h:=h.push _) (fun p hp=>?_) (fun x y c a b=>?_) h1 h2
   ·rw [Heap.size_push]
    rcases List.mem_cons.mp hp with rfl | hp
    ·exact Nat.lt_succ_self _
    ·exact Nat.lt_succ_of_lt (hl p hp)
   ·rcases List.mem_cons.mp a with e | a<;>rcases List.mem_cons.mp b with e' | b
    ·cases e;cases e';rfl
    ·cases e;exact absurd (hl _ b) (Nat.lt_irrefl _)
    ·cases e';exact absurd (hl _ a) (Nat.lt_irrefl _)
    ·exact hi _ _ _ a b
  ·rename_i hk
   rw [if_neg hk] at h2
   exact cells_inj hl hi h1 h2
theorem newEnv_comp {M:Model}{A:Around}{E:Value->Shared->Prop}{s:Shared}{scope:Scope}{globals:Addr}{closure:List (Str×Addr)}{qual:Str}{func:Option Addr}{code:Value}{around:Env}{builtins:Addr}{Q:Env->Shared->Prop}
  (h:Q (newEnv scope s.heap.objs.size globals (cellsFrom (s.heap.objs.size+1) scope.names closure) qual func code (some around) builtins)
   {s with heap:=pushCells (s.heap.push {cls:=.type "dict",data:=.dict #[]}) scope.names}) :
  wpAny M A (newFunctionEnv scope globals closure [] qual func code (some around) builtins) Q E s:=by
 simp only [newFunctionEnv,Option.isSome_some,if_true]
 refine wpAny_bind (wpAny_alloc ?_)
 refine wpAny_bind (wpAny_layCells _ (fun n k c=>rfl) scope.names closure _ _ ?_)
 rw [show ({s with heap:=s.heap.push {cls:=.type "dict",data:=.dict #[]}}:Shared).heap.objs.size=s.heap.objs.size+1 from Heap.size_push ..]
 rw [List.forIn_nil]
 exact wpAny_bind (wpAny_pure (wpAny_pure h))
theorem lookup_relS {sc:Scope}:∀ {names:List (Str×NameKind)} {x:Str} {k:NameKind},
  (names.map fun (n,k)=>if (k == NameKind.free && sc.kind == .function && sc.names.lookup n == some .cell) then (n,NameKind.cell) else (n,k)).lookup x=some k ->
  ∃ k',names.lookup x=some k'/\(k=k'\/(k'=.free/\k=.cell))
 | [],_,_,h=>by simp at h
 |(n,k₀)::r,x,k,h=>by
  have ih:=@lookup_relS sc r x k
  have h':List.lookup x ((if (k₀ == NameKind.free && sc.kind == .function && sc.names.lookup n == some .cell)=true then (n,NameKind.cell) else (n,k₀))::(r.map _))=some k:=h
  cases hx:x == n with
  | true =>
   simp only [List.lookup_cons,hx]
   by_cases hc:(k₀ == NameKind.free && sc.kind == .function && sc.names.lookup n == some .cell)=true
   ·rw [if_pos hc] at h'
    simp only [List.lookup_cons,hx] at h'
    cases h'
    simp only [Bool.and_eq_true,beq_iff_eq] at hc
    exact ⟨k₀,rfl,.inr ⟨hc.1.1,rfl⟩⟩
   ·rw [if_neg hc] at h'
    simp only [List.lookup_cons,hx] at h'
    cases h'
    exact ⟨_,rfl,.inl rfl⟩
  | false =>
   simp only [List.lookup_cons,hx]
   by_cases hc:(k₀ == NameKind.free && sc.kind == .function && sc.names.lookup n == some .cell)=true
   ·rw [if_pos hc] at h'
    simp only [List.lookup_cons,hx] at h'
    exact ih h'
   ·rw [if_neg hc] at h'
    simp only [List.lookup_cons,hx] at h'
    exact ih h'
structure BlkOk (N:List Str)(sc scope:Scope)(own:List (Str×Nat)):Prop where
 kind:scope.kind=.function
 uniq:∀ y∈scope.names,scope.names.lookup y.1=some y.2
 ix:∀ p∈own,N[p.2]?=some p.1
 free:∀ y∈scope.names,y.2=.free->sc.names.lookup y.1=some .cell\/sc.names.lookup y.1=some .free
 own:∀ y∈scope.names,y.2=.local\/y.2=.cell->y.1∈own.map (·.1)\/y.1 ∉ N
def wipe (σ:St):List Nat->St
 | []=>σ
 | v::vs=>(wipe σ vs).set v none
theorem wipe_length (σ:St):∀ vs:List Nat,(wipe σ vs).length=σ.length
 | []=>rfl
 | v::vs=>by unfold wipe;rw [List.length_set,wipe_length σ vs]
theorem wipe_some {σ:St}{i:Nat}{x:V}:∀ {vs:List Nat},(wipe σ vs)[i]?=some (some x)->σ[i]?=some (some x)/\i ∉ vs
 | [],h=>⟨h,by simp⟩
 | v::vs,h=>by
  unfold wipe at h
  by_cases hi:v=i
  ·subst hi
   by_cases hv:v < (wipe σ vs).length
   ·rw [List.getElem?_set_self hv] at h;cases h
   ·rw [List.getElem?_eq_none (by simpa using hv)] at h;cases h
  ·rw [List.getElem?_set_ne hi] at h
   obtain ⟨h1,h2⟩:=wipe_some h
   exact ⟨h1,by simp only [List.mem_cons,not_or];exact ⟨fun e=>hi e.symm,h2⟩⟩
abbrev Cx.blk (X:Cx)(s:Shared)(H:Hp)(scope:Scope)(cenv:Env)(fp:List Addr):Cx:={X with s_0:=s,H_0:=H,env:=cenv,outer:=X.stack,ex:=fp,fn:=fun x=>scope.names.lookup x == some .cell,pn:=[],xe:=fun _ _=>False}
section
variable {X:Cx} {pins:List (Addr×Obj)} {σ:St} {H:Hp} {s:Shared}
theorem block_start {scope:Scope}{own:List (Str×Nat)}{fp:List Addr}(I:Inv X pins σ H s)(ok:BlkOk X.N X.env.scope scope own)(hN:X.N.Nodup)(hfp:∀ b∈fp,FpOk X pins H b/\b < s.heap.objs.size) :
  Inv (X.blk s H scope (compEnvC scope (cellsFrom (s.heap.objs.size+1) scope.names (cloFrom X.env.cells scope.names [])) s.heap.objs.size X.env) fp) [] (wipe σ (own.map (·.2))) H {s with heap:=pushCells (s.heap.push {cls:=.type "dict",data:=.dict #[]}) scope.names}:=by
 have hfree:∀ y∈scope.names,y.2=.free->∃ c,X.env.cells.lookup y.1=some c:=fun y hy e=>by
  rcases ok.free y hy e with k | k
  ·exact I.ok.has _ (.inl k)
  ·exact I.ok.has _ (.inr k)
 generalize hcenv:compEnvC scope (cellsFrom (s.heap.objs.size+1) scope.names (cloFrom X.env.cells scope.names [])) s.heap.objs.size X.env=cenv
 have kp:∀ b o,s.heap.get? b=some o->(pushCells (s.heap.push {cls:=.type "dict",data:=.dict #[]}) scope.names).get? b=some o:=fun b o e=>pushCells_keeps _ _ _ _ (Heap.get?_push_of_some _ e)
 have hL:cenv.locals=s.heap.objs.size:=by rw [<- hcenv];rfl
 have hcl:cenv.cells=cellsFrom (s.heap.objs.size+1) scope.names (cloFrom X.env.cells scope.names []):=by rw [<- hcenv];rfl
 have hsc:cenv.scope=relS scope X.env.scope:=by rw [<- hcenv];rfl
 rw [<- Heap.size_push s.heap {cls:=.type "dict",data:=.dict #[]}] at hcl
 have cm:∀ {y c},(y,c)∈cloFrom X.env.cells scope.names []->X.env.cells.lookup y=some c/\c < s.heap.objs.size:=fun {y c} hm=>by
  rcases cloFrom_mem hm with hm | ⟨h1,rfl⟩
  ·cases hm
  ·obtain ⟨c,hc⟩:=hfree _ h1 rfl
   rw [hc]
   obtain ⟨w,z⟩:=I.cell _ _ hc
   exact ⟨rfl,z.lt⟩
 have mem:∀ {y c},cenv.cells.lookup y=some c->(X.env.cells.lookup y=some c/\c < s.heap.objs.size)\/(s.heap.objs.size+1<=c/\CellAt (pushCells (s.heap.push {cls:=.type "dict",data:=.dict #[]}) scope.names) c none):=fun {y c} e=>by
  rw [hcl] at e
  rcases cells_mem (PySem.mem_of_lookup e) with hm | ⟨_,h2,h3⟩
  ·exact .inl (cm hm)
  ·rw [Heap.size_push] at h2;exact .inr ⟨h2,h3⟩
 have look:∀ {y},scope.names.lookup y=some .free->∃ c,cenv.cells.lookup y=some c/\X.env.cells.lookup y=some c:=fun {y} hl=>by
  have hy:(y,NameKind.free)∈scope.names:=PySem.mem_of_lookup hl
  obtain ⟨c',e'⟩:=mem_lookup (cells_acc (names:=scope.names) (n:=(s.heap.push {cls:=.type "dict",data:=.dict #[]}).objs.size) (cloFrom_has (cells:=X.env.cells) (acc:=[]) hy))
  rw [<- hcl] at e'
  refine ⟨c',e',?_⟩
  rw [hcl] at e'
  rcases cells_mem (PySem.mem_of_lookup e') with hm | ⟨h1,_,_⟩
  ·exact (cm hm).1
  ·have:=ok.uniq _ h1
   rw [hl] at this;cases this
 have okB:(X.blk s H scope cenv fp).Ok:=by
  refine ⟨I.ok.mod,by show cenv.scope.kind=_;rw [hsc];exact ok.kind,by show cenv.globals=_;rw [<- hcenv];exact I.ok.glob,by show cenv.builtins=_;rw [<- hcenv];exact I.ok.blt,by show s.heap.objs.size<=cenv.locals;rw [hL];exact Nat.le_refl _,
   fun y z c e1 e2=>?_,fun y hy=>?_,fun y c z e=>?_,I.ok.hd,I.ok.frames,.inl rfl,fun b hb=>⟨?_,fun y c e z=>?_⟩,I.bs,Nat.le_trans I.ok.bsz I.sz,fun b o e hb=>?_,fun b hb z=>?_,I.stack,I.stkFree⟩
  ·have e1:cenv.cells.lookup y=some c:=e1
   have e2:cenv.cells.lookup z=some c:=e2
   rw [hcl] at e1 e2
   refine cells_inj (fun p hp=>?_) (fun y z c a b=>I.ok.inj y z c (cm a).1 (cm b).1) (PySem.mem_of_lookup e1) (PySem.mem_of_lookup e2)
   rw [Heap.size_push]
   exact Nat.lt_succ_of_lt (cm (y:=p.1) (c:=p.2) hp).2
  ·show ∃ c,cenv.cells.lookup y=some c
   have key:∀ k,cenv.kindOf y=some k->(k=.cell\/k=.free)->∃ c,cenv.cells.lookup y=some c:=fun k hk hk'=>by
    unfold Env.kindOf at hk
    rw [hsc] at hk
    obtain ⟨k',e,r⟩:=lookup_relS hk
    have:k'=.cell\/k'=.free:=by
     rcases r with rfl | ⟨rfl,_⟩
     ·exact hk'
     ·exact .inr rfl
    rcases this with rfl | rfl
    ·obtain ⟨c,hm⟩:=cells_has (n:=(s.heap.push {cls:=.type "dict",data:=.dict #[]}).objs.size) (acc:=cloFrom X.env.cells scope.names []) (PySem.mem_of_lookup e)
     obtain ⟨c',e'⟩:=mem_lookup hm
     exact ⟨c',by rw [hcl];exact e'⟩
    ·obtain ⟨c,h1,_⟩:=look e
     exact ⟨c,h1⟩
   rcases hy with hy | hy
   ·exact key _ hy (.inl rfl)
   ·exact key _ hy (.inr rfl)
  ·have z:(scope.names.lookup y == some NameKind.cell)=true:=z
   have z:scope.names.lookup y=some .cell:=by simpa using z
   have e:cenv.cells.lookup y=some c:=e
   rw [hcl] at e
   rcases cells_mem (PySem.mem_of_lookup e) with hm | ⟨_,h2,_⟩
   ·rcases cloFrom_mem hm with hm | ⟨h1,_⟩
    ·cases hm
    ·have q:=ok.uniq _ h1
     rw [z] at q;cases q
   ·rw [Heap.size_push] at h2
    exact Nat.le_of_succ_le h2
  ·show b≠cenv.locals
   rw [hL];exact Nat.ne_of_lt (hfp b hb).2
  ·have e:cenv.cells.lookup y=some c:=e
   rcases mem e with ⟨h1,_⟩ | ⟨h1,_⟩
   ·exact (hfp b hb).1.2.2.2.2.1 y c h1 z
   ·have h2:s.heap.objs.size+1<=b:=by rw [<- z];exact h1
    exact absurd (Nat.lt_of_lt_of_le (hfp b hb).2 (Nat.le_of_succ_le h2)) (Nat.lt_irrefl _)
  ·rcases (hfp b hb).1.2.2.2.1 with z | z
   ·exact I.ok.noex b o e z
   ·exact absurd (Nat.lt_of_lt_of_le (Heap.lt_size e) (Nat.le_trans I.ok.bsz z)) (Nat.lt_irrefl _)
  ·rcases List.mem_cons.mp (I.stkSub b z) with z | z
   ·exact (hfp b hb).1.2.1 z
   ·exact (hfp b hb).1.2.2.1 z
 refine ⟨okB,rfl,I.bare,Un.kept kp,⟨fun _=>none,?_,fun i y av e1 e2 e3=>?_⟩,fun y c e=>?_,?_,fun y c e=>?_,fun p hp=>?_,I.hok.kept kp,by rw [wipe_length];exact I.len⟩
 ·show Heap.Ns _ cenv.locals _
  rw [hL]
  exact Heap.Ns.keeps (Heap.Ns.new ..) fun b o e=>pushCells_keeps _ _ _ _ e
 ·obtain ⟨e2,hne⟩:=wipe_some e2
  have hfr:scope.names.lookup y=some .free/\(cenv.kindOf y=some .cell\/cenv.kindOf y=some .free):=by
   have key:∀ k,cenv.scope.names.lookup y=some k->k=.local\/k=.cell\/k=.free->scope.names.lookup y=some .free/\(cenv.kindOf y=some .cell\/cenv.kindOf y=some .free):=fun k hk hk'=>by
    have hk0:=hk
    rw [hsc] at hk
    obtain ⟨k',e,r⟩:=lookup_relS hk
    have no:¬ (k'=.local\/k'=.cell):=fun hh=>by
     rcases ok.own _ (PySem.mem_of_lookup e) hh with e' | e'
     ·obtain ⟨p,hp,hpy⟩:=List.mem_map.mp e'
      have e3:=ok.ix p hp
      have:p.1=y:=hpy
      rw [this] at e3
      exact hne (List.mem_map.mpr ⟨p,hp,nodup_ix hN e3 e1⟩)
     ·exact e' (List.mem_of_getElem? e1)
    rcases r with rfl | ⟨rfl,rfl⟩
    ·rcases hk' with rfl | rfl | rfl
     ·exact absurd (.inl rfl) no
     ·exact absurd (.inr rfl) no
     ·exact ⟨e,.inr hk0⟩
    ·exact ⟨e,.inl hk0⟩
   have e3:Vis cenv.scope y:=e3
   rcases e3 with e3 | e3 | e3
   ·exact key _ e3 (.inl rfl)
   ·exact key _ e3 (.inr (.inl rfl))
   ·exact key _ e3 (.inr (.inr rfl))
  obtain ⟨m,hn,hl⟩:=I.loc
  have hvis:Vis X.env.scope y:=(ok.free _ (PySem.mem_of_lookup hfr.1) rfl).elim (fun k=>.inr (.inl k)) (fun k=>.inr (.inr k))
  obtain ⟨w,r,q⟩:=hl i y av e1 e2 hvis
  refine ⟨w,r,.inr ⟨hfr.2,?_⟩⟩
  obtain ⟨c,h1,h2⟩:=look hfr.1
  rcases q with ⟨k,_⟩ | ⟨_,c',e',z⟩
  ·have k:X.env.scope.names.lookup y=some .local:=k
   rcases ok.free _ (PySem.mem_of_lookup hfr.1) rfl with k' | k'<;>rw [show X.env.scope.names.lookup y=_ from k'] at k<;>cases k
  ·rw [h2] at e';cases e'
   exact ⟨c,h1,z.keeps kp⟩
 ·have e:cenv.cells.lookup y=some c:=e
  rcases mem e with ⟨h1,_⟩ | ⟨_,z⟩
  ·obtain ⟨w,z⟩:=I.cell y c h1
   exact ⟨w,z.keeps kp⟩
  ·exact ⟨_,z⟩
 ·show H cenv.locals=none
  rw [hL];exact I.hok.fresh (Nat.le_refl _)
 ·have e:cenv.cells.lookup y=some c:=e
  rcases mem e with ⟨h1,_⟩ | ⟨h1,_⟩
  ·exact I.freeC y c h1
  ·exact I.hok.fresh (Nat.le_of_succ_le h1)
 ·exact absurd (show p∈([]:List (Addr×Obj))++[] from hp) (by simp)
theorem app_ok {E:Value->Shared->Prop}{D:Addr}{xs:List V}{y:V}{v:Value}{Q:Value->Shared->Prop}(I:Inv X pins σ H s)(hD:H D=some (.lst xs))(hz:xs.length < sizeLine)(r:RelV y v)
  (h:∀ s',Inv X pins σ (upd H D (.lst (xs++[y]))) s'->Q .none s'):wpAny (model X.prog X.w) X.A (call (.builtin "list.append") [.ref D,v]) Q E s:=by
 obtain ⟨hz',its,n,ri,e⟩:=I.hok D _ hD
 have hl:=ri.length
 refine append_at (hsz:=by rw [List.size_toArray];omega) e fun h' sb ho'=>?_
 refine h {s with heap:=h'} (I.write (t':=s.toks) (by rw [hD];trivial) (.inl rfl) (fun b u hb q=>(sb.2 b hb).trans q) ⟨_,ho'⟩ ⟨by rw [List.length_append];exact hz,its++[v],n+1,ri.append (.cons r .nil),?_⟩)
 rw [ho']
 simp
def PTs (X:Cx)(ifs:List Expr)(t:TT):Prop :=
 ∀ (pins:List (Addr×Obj)) (s:Shared) (σ:St) (H:Hp) (Q:Bool->Hp->Prop),Inv X pins σ H s->t σ H Q ->
  wpAny (model X.prog X.w) X.A (forIn ifs true fun c r=>if r=true then do let ok <- isTrue c X.env (eval c X.env);pure (ForInStep.yield ok) else pure (ForInStep.yield r)) (TP X pins σ Q) X.xe s
def tYes:TT:=fun _ H Q=>Q true H
theorem pts_nil:PTs X [] tYes:=fun _ _ _ H _ I h=>wpAny_tests_nil ⟨H,I,h⟩
theorem pts_one {c:Expr}{t:TT}(h:PT X c t):PTs X [c] t:=fun pins s σ H Q I hw=>wpAny_tests_one (h pins s σ H Q I hw)
end
theorem thnF {α:Type}{t:Sem α}{Q Q':α->Shared->Prop}{M:Model}{A:Around}{E:Value->Shared->Prop}{s:Shared}(h:wpAny M A t Q (fun _ _=>False) s)(hQ:∀ a s,Q a s->Q' a s):wpAny M A t Q' E s:=wpAny_mono h hQ fun _ _ z=>False.elim z
theorem compLoop_any {prog:Program}{w:World}{A:Around}{R:Result->Shared->Prop}{s:Shared}{elt target iter:Expr}{ifs:List Expr}{scope:Scope}{pos:Pos}{it acc:Value}{env:Env}(I:Nat->Shared->Prop)
  (turn:∀ n s,I n s->wpAny (model prog w) A (pyNext it) (fun r s₁=>match r with
   | none=>R (.ok .next) s₁
   | some v=>wpAny (model prog w) A (letOwnedTupleGo target it v) (fun _ s₁'=>wpAny (model prog w) A (assign target env v) (fun _ s₂ =>
     wpAny (model prog w) A (forIn ifs true fun c r=>if r=true then do let ok <- isTrue c env (eval c env);pure (ForInStep.yield ok) else pure (ForInStep.yield r)) (fun ok s₃ =>
      if ok=true then wpAny (model prog w) A (eval elt env) (fun x s₄ =>
       wpAny (model prog w) A (call (.builtin "list.append") [acc,x]) (fun _ s₅=>∃ m,m < n/\I m s₅) (notedBy (model prog w) A env fun e s'=>R (.error e) s') s₄) (notedBy (model prog w) A env fun e s'=>R (.error e) s') s₃
      else ∃ m,m < n/\I m s₃) (notedBy (model prog w) A env fun e s'=>R (.error e) s') s₂) (notedBy (model prog w) A env fun e s'=>R (.error e) s') s₁') (notedBy (model prog w) A env fun e s'=>R (.error e) s') s₁) (notedBy (model prog w) A env fun e s'=>R (.error e) s') s)
  (n:Nat) (h:I n s) :
  codeAny (model prog w) A (.compLoop (.ListComp elt [⟨target,iter,ifs,0⟩] scope pos) 0 it acc env) R s:=by
 refine codeAny_loop rfl I (fun n s hI=>?_) n h
 show wpAny _ A ((compTurn (.ListComp elt [⟨target,iter,ifs,0⟩] scope pos) 0 it acc env).onRaise (fun x=>do noteFrame x env;theTreesLotGoes x)) _ _ s
 refine wpAny_noted ?_
 rw [compTurn_list]
 refine wpAny_bind (wpAny_standAt (wpAny_bind (wpAny_mono (turn n s hI) (fun r s₁ h₁=>?_) fun _ _ h'=>h')))
 cases r with
 | none=>exact wpAny_pure h₁
 | some v =>
  refine wpAny_bind (wpAny_mono h₁ (fun _ s₁' h₁'=>?_) fun _ _ h'=>h')
  refine wpAny_bind (wpAny_mono h₁' (fun _ s₂ h₂=>wpAny_bind (wpAny_mono h₂ (fun ok s₃ h₃=>?_) fun _ _ h'=>h')) fun _ _ h'=>h')
  cases ok with
  | false=>exact wpAny_pure ⟨rfl,h₃⟩
  | true =>
   exact wpAny_bind (wpAny_bind (wpAny_mono h₃ (fun x s₄ h₄=>wpAny_bind (wpAny_mono h₄ (fun _ s₅ h₅=>wpAny_pure (wpAny_pure ⟨rfl,h₅⟩)) fun _ _ h'=>h')) fun _ _ h'=>h'))
section
variable {X:Cx}
def tLc (wi:TI)(g:TG)(tt:TT)(te:TE)(vs:List Nat):TE:=fun σ H Q=>wi σ H fun J H1=>∀ D,H1 D=none->∃ W:Nat->Nat->Hp->Prop,(∃ m,W 0 m (upd H1 D (.lst [])))/\∀ i m H,W i m H ->
 (J.stop i H/\Q (.ref D) H)\/(J.go i H/\∃ Nx:Hp->Prop,(∀ H',Nx H'->∃ m',m' < m/\W (i+1) m' H')/\∀ x H',J.yld i H x H'->g x (wipe σ vs) H' fun σ2 H2=>wipe σ2 vs=wipe σ vs/\tt σ2 H2 fun b H3 =>
  if b=true then te σ2 H3 fun y H4=>∃ acc,H4 D=some (.lst acc)/\acc.length < sizeLine/\Nx (upd H4 D (.lst (acc++[y]))) else Nx H3)
theorem lc_core {pins:List (Addr×Obj)}{s:Shared}{σ:St}{H:Hp}{Q:VK}{elt tg iter:Expr}{ifs:List Expr}{scope:Scope}{own:List (Str×Nat)}{pos pos':Pos}{wi:TI}{g:TG}{tt:TT}{te:TE}{use:Option (Value->Sem Unit)}{Qf:Value->Shared->Prop}
  (hc:X.calm=true) (hN:X.N.Nodup) (I:Inv X pins σ H s) (hi:PI X tg iter wi) (ok:BlkOk X.N X.env.scope scope own)
  (hg:∀ (s:Shared) (H:Hp) (C:Addr) (cl:List (Str×Addr)) (fp:List Addr),PG (X.blk s H scope (compEnvC scope cl C X.env) fp) tg g) (ht:∀ (s:Shared) (H:Hp) (C:Addr) (cl:List (Str×Addr)) (fp:List Addr),PTs (X.blk s H scope (compEnvC scope cl C X.env) fp) ifs tt)
  (he:∀ (s:Shared) (H:Hp) (C:Addr) (cl:List (Str×Addr)) (fp:List Addr),PE (X.blk s H scope (compEnvC scope cl C X.env) fp) elt te) (hs:∀ x,foldedSetIterable iter X.env x=pure x)
  (h:tLc wi g tt te (own.map (·.2)) σ H Q)
  (hRR:∀ D C s' m H',Inv X pins σ H' s'->Q (.ref D) H'->s'.heap.Ns C m->FpOk X pins H' C->compPost (model X.prog X.w) X.A X.xe use Qf (.ref D) C (.ok .next) s') :
  wpAny (model X.prog X.w) X.A (comprehension (.ListComp elt [⟨tg,iter,ifs,0⟩] scope pos) scope X.env pos' (newList []) false (eval iter X.env) use) Qf X.xe s:=by
 have hfree:∀ y∈scope.names,y.2=.free->∃ c,X.env.cells.lookup y.1=some c:=fun y hy e=>by
  rcases ok.free y hy e with k | k
  ·exact I.ok.has _ (.inl k)
  ·exact I.ok.has _ (.inr k)
 refine wpAny_comprehension_free (use:=use) rfl hs (closure_ok hfree) ok.kind (fun y hy e=>by rw [ok.uniq y hy,e])
  (thn (hi pins s σ H _ I h) fun xv s1 hx=>thn hx fun itv s2 h2=>?_)
 obtain ⟨it,fp,tn,J,H2,e,I2,T,st2,f2,q⟩:=h2
 subst e
 refine wpAny_newObj_type (newEnv_comp ?_) (by show 0<=sizeLine;decide)
 generalize hD:s2.heap.objs.size=D
 have hDn:H2 D=none:=I2.hok.fresh (Nat.le_of_eq hD)
 obtain ⟨W,⟨m0,w0⟩,turn⟩:=q D hDn
 generalize hs3:({s2 with heap:=s2.heap.push {cls:=.type "list",data:=.seq ([]:List Value).toArray}}:Shared)=s3
 have I3:Inv X pins σ (upd H2 D (.lst [])) s3:=by
  rw [<- hs3]
  refine I2.laid (t':=s2.toks) (fun b o e=>Heap.get?_push_of_some _ e) (Nat.le_of_eq hD) ⟨Nat.zero_le _,[],0,.nil,?_⟩
  rw [<- hD]
  exact Heap.get?_push_size _ rfl
 have h3:s3.heap=s2.heap.push {cls:=.type "list",data:=.seq ([]:List Value).toArray}:=by rw [<- hs3]
 have sz:∀ b∈fp,b < s2.heap.objs.size:=fun b hb=>by
  obtain ⟨o,e,_⟩:=T.obj _ _ st2 b hb
  exact Heap.lt_size e
 have f3:∀ b∈fp,FpOk X pins (upd H2 D (.lst [])) b/\b < s3.heap.objs.size:=fun b hb=>by
  have hlt:=sz b hb
  refine ⟨⟨?_,(f2 b hb).2⟩,by rw [h3,Heap.size_push];exact Nat.lt_succ_of_lt hlt⟩
  rw [upd_ne (by rw [<- hD];exact Nat.ne_of_lt hlt)]
  exact (f2 b hb).1
 have st3:tn 0 s3.heap:=T.keep _ _ _ st2 fun b _ o e=>by rw [h3];exact Heap.get?_push_of_some _ e
 have I4:=block_start I3 ok hN f3
 have pg:=hg s3 (upd H2 D (.lst [])) s3.heap.objs.size (cellsFrom (s3.heap.objs.size+1) scope.names (cloFrom X.env.cells scope.names [])) fp
 have pt:=ht s3 (upd H2 D (.lst [])) s3.heap.objs.size (cellsFrom (s3.heap.objs.size+1) scope.names (cloFrom X.env.cells scope.names [])) fp
 have pe:=he s3 (upd H2 D (.lst [])) s3.heap.objs.size (cellsFrom (s3.heap.objs.size+1) scope.names (cloFrom X.env.cells scope.names [])) fp
 show codeAny _ _ (.compStart (.ListComp elt [⟨tg,iter,ifs,0⟩] scope pos) 0 (.ref it) (.ref D) (compEnvC scope (cellsFrom (s3.heap.objs.size+1) scope.names (cloFrom X.env.cells scope.names [])) s3.heap.objs.size X.env)) (compPost (model X.prog X.w) X.A X.xe use Qf (.ref D) s3.heap.objs.size) {s3 with heap:=pushCells (s3.heap.push {cls:=.type "dict",data:=.dict #[]}) scope.names}
 have nfp:∀ b∈fp,(upd H2 D (.lst [])) b=none:=fun b hb=>(f3 b hb).1.1
 generalize hce:compEnvC scope (cellsFrom (s3.heap.objs.size+1) scope.names (cloFrom X.env.cells scope.names [])) s3.heap.objs.size X.env=ce at I4 pg pt pe ⊢
 have cL:ce.locals=s3.heap.objs.size:=by subst hce;rfl
 generalize hH3:upd H2 D (.lst [])=H3 at I3 I4 pg pt pe w0 nfp f3
 generalize hs4:({s3 with heap:=pushCells (s3.heap.push {cls:=.type "dict",data:=.dict #[]}) scope.names}:Shared)=s4 at I4 ⊢
 have st4:tn 0 s4.heap:=T.keep _ _ _ st3 fun b _ o e=>by rw [<- hs4];exact pushCells_keeps _ _ _ _ (Heap.get?_push_of_some _ e)
 have stat:∀ {σ':St} {H':Hp} {s':Shared},Inv (X.blk s3 H3 scope ce fp) [] σ' H' s'->(∀ b∈fp,H' b=none)->∀ b∈fp,FpOk (X.blk s3 H3 scope ce fp) [] H' b:=fun {σ' H' s'} I' hn b hb =>
  ⟨hn b hb,(I'.ok.exf b hb).1,I'.ok.exfs b hb,.inl hb,fun x c e=>(I'.ok.exf b hb).2 x c e,fun p hp=>absurd (show p∈([]:List (Addr×Obj))++[] from hp) (by simp)⟩
 have loop:codeAny (model X.prog X.w) X.A (.compLoop (.ListComp elt [⟨tg,iter,ifs,0⟩] scope pos) 0 (.ref it) (.ref D) ce) (compPost (model X.prog X.w) X.A X.xe use Qf (.ref D) s3.heap.objs.size) s4:=by
  refine compLoop_any (fun n s'=>∃ i H',Inv (X.blk s3 H3 scope ce fp) [] (wipe σ (own.map (·.2))) H' s'/\tn i s'.heap/\(∀ b∈fp,H' b=none)/\W i n H') ?_ m0 ⟨0,H3,I4,st4,nfp,w0⟩
  rintro n s5 ⟨i,H5,I5,st5,n5,w5⟩
  rcases turn i n H5 w5 with ⟨stop,qq⟩ | ⟨go,Nx,hNx,step⟩
  ·have td:=T.done (X.blk s3 H3 scope ce fp) rfl rfl rfl hc i [] s5 _ H5 (fun _ _=>False) I5 (stat I5 n5) st5 stop
   refine thnF td fun r s6 ⟨hr,I6⟩=>?_
   subst hr
   have I7:Inv X pins σ H5 s6:=I3.call' (ch:=fp) I6.os I6.base I6.hok I6.bare fun b hb=>⟨(f3 b hb).1.2.2.2.1,(f3 b hb).1.2.1,(f3 b hb).1.2.2.2.2.1,(f3 b hb).1.2.2.2.2.2⟩
   have nC:H5 s3.heap.objs.size=none:=by
    have z:H5 ce.locals=none:=I6.free
    rw [cL] at z
    exact z
   obtain ⟨m,hn,_⟩:=I6.loc
   have hn:s6.heap.Ns ce.locals m:=hn
   rw [cL] at hn
   exact hRR D s3.heap.objs.size s6 m H5 I7 qq hn (I3.fpOk (Nat.le_refl _) nC)
  ·have ti:=T.item (X.blk s3 H3 scope ce fp) rfl rfl rfl hc i [] s5 _ H5 (fun _ _=>False) I5 (stat I5 n5) st5 go
   refine thnF ti fun r s6 ⟨u,hr,h6⟩=>?_
   subst hr
   refine thnF h6 fun _ s7 ⟨x,H7,I7,r7,y7,st7,n7⟩=>?_
   have I7':=I7.pinned (stat I7 n7) (T.obj _ _ st7)
   refine thnF (pg _ s7 _ H7 x u _ I7' r7 (step x H7 y7)) fun _ s8 ⟨σ8,H8,I8,hw8,q8⟩=>?_
   refine thnF (pt _ s8 σ8 H8 _ I8 q8) fun b s9 ⟨H9,I9,q9⟩=>?_
   have fin:∀ {s':Shared} {H':Hp},Inv (X.blk s3 H3 scope ce fp) ([]++pinsAt fp s7.heap) σ8 H' s'->Nx H'->∃ m,m < n/\∃ i H',Inv (X.blk s3 H3 scope ce fp) [] (wipe σ (own.map (·.2))) H' s'/\tn i s'.heap/\(∀ b∈fp,H' b=none)/\W i m H':=fun {s' H'} I' nx=>by
    obtain ⟨m',hm,w'⟩:=hNx H' nx
    have pin':∀ b∈fp,∀ o,s7.heap.get? b=some o->s'.heap.get? b=some o/\H' b=none:=fun b hb o e =>
     let z:=I'.pin (b,o) (List.mem_append_right _ (List.mem_append_right _ (mem_pinsAt hb e)))
     ⟨z.1,z.2.1⟩
    have hl:(wipe σ (own.map (·.2))).length=σ8.length:=by rw [<- hw8,wipe_length]
    refine ⟨m',hm,i+1,H',(I'.unpinned (pins:=[])).weak hl (fun j v e=>?_),T.keep _ _ _ st7 fun b hb o e=>(pin' b hb o e).1,fun b hb=>?_,w'⟩
    ·rw [<- hw8] at e
     exact (wipe_some e).1
    ·obtain ⟨o,e,_⟩:=T.obj _ _ st7 b hb
     exact (pin' b hb o e).2
   cases b with
   | false =>
    simp only [Bool.false_eq_true,if_false] at q9 ⊢
    exact fin I9 q9
   | true =>
    simp only [if_true] at q9 ⊢
    refine thnF (pe _ s9 σ8 H9 _ I9 q9) fun z s10 ⟨yv,H10,I10,r10,acc,hD10,hz10,nx⟩=>?_
    exact app_ok (X:=X.blk s3 H3 scope ce fp) I10 hD10 hz10 r10 fun s11 I11=>fin I11 nx
 exact codeAny_compStart_list loop (T.self X.A 0 _ _ _ st4 loop)
theorem pe_lc {elt tg iter:Expr}{ifs:List Expr}{scope:Scope}{own:List (Str×Nat)}{pos:Pos}{wi:TI}{g:TG}{tt:TT}{te:TE}(hc:X.calm=true)(hN:X.N.Nodup)(hi:PI X tg iter wi)(ok:BlkOk X.N X.env.scope scope own)
  (hg:∀ (s:Shared) (H:Hp) (C:Addr) (cl:List (Str×Addr)) (fp:List Addr),PG (X.blk s H scope (compEnvC scope cl C X.env) fp) tg g) (ht:∀ (s:Shared) (H:Hp) (C:Addr) (cl:List (Str×Addr)) (fp:List Addr),PTs (X.blk s H scope (compEnvC scope cl C X.env) fp) ifs tt)
  (he:∀ (s:Shared) (H:Hp) (C:Addr) (cl:List (Str×Addr)) (fp:List Addr),PE (X.blk s H scope (compEnvC scope cl C X.env) fp) elt te) (hs:∀ x,foldedSetIterable iter X.env x=pure x:=by intro _;rfl) :
  PE X (.ListComp elt [⟨tg,iter,ifs,0⟩] scope pos) (tLc wi g tt te (own.map (·.2))):=by
 intro pins s σ H Q I h
 rw [eval_ListComp]
 refine lc_core hc hN I hi ok hg ht he hs h fun D C s' m H' I' q hn f=>⟨m,hn,fun h'' sb=>?_⟩
 obtain ⟨f0,f1,f2,f3,f4,f5⟩:=f
 exact ⟨.ref D,H',I'.turned (t':=s'.toks) (fun b o hb e=>(sb.2 b hb).trans e) f0 f1 f3 f4 f5,rfl,q⟩
theorem ps_setLc {i:Nat}{y:Str}{py:Pos}{elt tg iter:Expr}{ifs:List Expr}{scope:Scope}{own:List (Str×Nat)}{pos spos:Pos}{wi:TI}{g:TG}{tt:TT}{te:TE}(hc:X.calm=true)(hN:X.N.Nodup)(hy:X.N[i]?=some y)(hyl:X.env.scope.names.lookup y=some .local)
  (hsw:swapsWith (.ListComp elt [⟨tg,iter,ifs,0⟩] scope pos) (some (.Name y py)) spos.line X.env=pure true) (hi:PI X tg iter wi) (ok:BlkOk X.N X.env.scope scope own)
  (hg:∀ (s:Shared) (H:Hp) (C:Addr) (cl:List (Str×Addr)) (fp:List Addr),PG (X.blk s H scope (compEnvC scope cl C X.env) fp) tg g) (ht:∀ (s:Shared) (H:Hp) (C:Addr) (cl:List (Str×Addr)) (fp:List Addr),PTs (X.blk s H scope (compEnvC scope cl C X.env) fp) ifs tt)
  (he:∀ (s:Shared) (H:Hp) (C:Addr) (cl:List (Str×Addr)) (fp:List Addr),PE (X.blk s H scope (compEnvC scope cl C X.env) fp) elt te) (hs:∀ x,foldedSetIterable iter X.env x=pure x:=by intro _;rfl) :
  PS X (.Assign [.Name y py] (.ListComp elt [⟨tg,iter,ifs,0⟩] scope pos) spos) (tAsg (tLc wi g tt te (own.map (·.2))) (gName i)):=by
 intro pins s σ H D I h
 rw [exec_Assign_Name_used _ _ _ _ hsw]
 refine wpAny_bind (wpAny_standAt (wpAny_bind ?_))
 show wpAny _ X.A (do let _ <- comprehension (.ListComp elt [⟨tg,iter,ifs,0⟩] scope pos) scope X.env (firstIterPos [⟨tg,iter,ifs,0⟩] pos) (newList []) false (eval iter X.env) (some (assign (.Name y py) X.env))) _ _ s
 have h:tLc wi g tt te (own.map (·.2)) σ H (fun x H1=>gName i x σ H1 D.nx):=h
 refine wpAny_bind (thn (lc_core (Qf:=fun _ s'=>SP X pins D .next s') hc hN I hi ok hg ht he hs h fun L C s' m H' I' q hn f=>?_) fun _ s' hq=>wpAny_pure (wpAny_pure hq))
 show wpAny _ _ (assign (.Name y py) X.env (.ref L)) _ _ _
 refine wpAny_assign_Name (store_ok2 (v:=V.ref L) I' hN hy (.inl hyl) rfl (fun s2 I2 ⟨a,sb,ha⟩=>?_) (.inr hyl))
 obtain ⟨f0,f1,f2,f3,f4,f5⟩:=f
 have haC:C≠a:=by
  rcases ha with z | z
  ·rw [z];exact f1
  ·exact fun e=>f4 y a z e.symm
 refine ⟨m,hn.sameBut sb haC,fun h3 sb3=>?_⟩
 exact ⟨_,H',I2.turned (t':=s2.toks) (fun b o hb e=>(sb3.2 b hb).trans e) f0 f1 f3 f4 f5,q⟩
theorem sw_true {elt:Expr}{gs:List Comprehension}{scope:Scope}{pos py:Pos}{y:Str}{l:Nat}{env:Env}(hk:env.scope.kind=.function)(hy:env.scope.names.lookup y=some .local)(hl:(py.line == pos.line)=true)
  (ha:(scope.names.any fun (n,k)=>n == y && (k == .local || k == .cell))=false):swapsWith (.ListComp elt gs scope pos) (some (.Name y py)) l env=pure true:=by
 have ky:env.kindOf y=some .local:=hy
 have hb:env.blockKind=.function:=by unfold Env.blockKind;rw [hk];rfl
 unfold swapsWith
 simp only [hb,ky,ha,Expr.pos,hl]
 rfl
end
theorem lc_range {lo:Int}{n:Nat}{g:TG}{tt:TT}{te:TE}{vs:List Nat}{σ:St}{H1:Hp}{D:Addr}{Qd:Hp->Prop}(Pv:Nat->Hp->Prop)(h0:Pv 0 (upd H1 D (.lst [])))
  (hs:∀ i H,i < n->Pv i H->g (.int (lo+i)) (wipe σ vs) H fun σ2 H2=>wipe σ2 vs=wipe σ vs/\tt σ2 H2 fun b H3 =>
   if b=true then te σ2 H3 fun y H4=>∃ acc,H4 D=some (.lst acc)/\acc.length < sizeLine/\Pv (i+1) (upd H4 D (.lst (acc++[y]))) else Pv (i+1) H3) (hd:∀ H,Pv n H->Qd H) :
  ∃ W:Nat->Nat->Hp->Prop,(∃ m,W 0 m (upd H1 D (.lst [])))/\∀ i m H,W i m H ->
   ((Itr lo n).stop i H/\Qd H)\/((Itr lo n).go i H/\∃ Nx:Hp->Prop,(∀ H',Nx H'->∃ m',m' < m/\W (i+1) m' H')/\∀ x H',(Itr lo n).yld i H x H'->g x (wipe σ vs) H' fun σ2 H2=>wipe σ2 vs=wipe σ vs/\tt σ2 H2 fun b H3 =>
    if b=true then te σ2 H3 fun y H4=>∃ acc,H4 D=some (.lst acc)/\acc.length < sizeLine/\Nx (upd H4 D (.lst (acc++[y]))) else Nx H3):=by
 refine ⟨fun i m H=>m=n-i/\i<=n/\Pv i H,⟨n,by simp,Nat.zero_le _,h0⟩,?_⟩
 rintro i m H ⟨rfl,hi,p⟩
 by_cases hlt:i < n
 ·refine .inr ⟨hlt,Pv (i+1),fun H' p'=>⟨n-(i+1),by omega,rfl,hlt,p'⟩,fun x H' y=>?_⟩
  obtain ⟨e,y⟩:=y
  subst e y
  exact hs i _ hlt p
 ·have e:i=n:=by omega
  subst e
  exact .inl ⟨Nat.le_refl _,hd H p⟩
theorem lc_list {K:PySem.W.Frag}{a:Addr}{xs:List V}{g:TG}{tt:TT}{te:TE}{vs:List Nat}{σ:St}{H1:Hp}{D:Addr}{Qd:Hp->Prop}(Pv:Nat->Hp->Prop)(h0:Pv 0 (upd H1 D (.lst [])))(hl:∀ i H,i<=xs.length->Pv i H->SqL K H a xs)
  (hs:∀ i x H,xs[i]?=some x->Pv i H->g x (wipe σ vs) H fun σ2 H2=>wipe σ2 vs=wipe σ vs/\tt σ2 H2 fun b H3 =>
   if b=true then te σ2 H3 fun y H4=>∃ acc,H4 D=some (.lst acc)/\acc.length < sizeLine/\Pv (i+1) (upd H4 D (.lst (acc++[y]))) else Pv (i+1) H3) (hd:∀ H,Pv xs.length H->Qd H) :
  ∃ W:Nat->Nat->Hp->Prop,(∃ m,W 0 m (upd H1 D (.lst [])))/\∀ i m H,W i m H ->
   ((Itl K a).stop i H/\Qd H)\/((Itl K a).go i H/\∃ Nx:Hp->Prop,(∀ H',Nx H'->∃ m',m' < m/\W (i+1) m' H')/\∀ x H',(Itl K a).yld i H x H'->g x (wipe σ vs) H' fun σ2 H2=>wipe σ2 vs=wipe σ vs/\tt σ2 H2 fun b H3 =>
    if b=true then te σ2 H3 fun y H4=>∃ acc,H4 D=some (.lst acc)/\acc.length < sizeLine/\Nx (upd H4 D (.lst (acc++[y]))) else Nx H3):=by
 refine ⟨fun i m H=>m=xs.length-i/\i<=xs.length/\Pv i H,⟨xs.length,by simp,Nat.zero_le _,h0⟩,?_⟩
 rintro i m H ⟨rfl,hi,p⟩
 have q:=hl i H hi p
 by_cases hlt:i < xs.length
 ·refine .inr ⟨⟨xs,xs[i],q,by simp [hlt]⟩,Pv (i+1),fun H' p'=>⟨xs.length-(i+1),by omega,rfl,hlt,p'⟩,fun x H' y=>?_⟩
  obtain ⟨e,y⟩:=y
  subst e
  exact hs i x _ (y xs q) p
 ·have e:i=xs.length:=by omega
  subst e
  exact .inl ⟨⟨xs,q,Nat.le_refl _⟩,hd H p⟩
def blkC (N:List Str)(sc scope:Scope)(own:List (Str×Nat)):Bool :=
 (match scope.kind with | .function=>true | _=>false) && (scope.names.all fun y=>decide (scope.names.lookup y.1=some y.2)) && (own.all fun p=>decide (N[p.2]?=some p.1)) &&
  (scope.names.all fun y=>match y.2 with
   | .free=>(match sc.names.lookup y.1 with | some .cell=>true | some .free=>true | _=>false)
   | .local=>decide (y.1∈own.map (·.1)) || decide (y.1 ∉ N)
   | .cell=>decide (y.1∈own.map (·.1)) || decide (y.1 ∉ N)
   | _=>true)
theorem blkOk_by {N:List Str}{sc scope:Scope}{own:List (Str×Nat)}(h:blkC N sc scope own=true):BlkOk N sc scope own:=by
 unfold blkC at h
 simp only [Bool.and_eq_true,List.all_eq_true,decide_eq_true_eq] at h
 obtain ⟨⟨⟨h1,h2⟩,h3⟩,h4⟩:=h
 refine ⟨?_,h2,h3,fun y hy e=>?_,fun y hy e=>?_⟩
 ·split at h1
  ·assumption
  ·cases h1
 ·have q:=h4 y hy
  simp only [e] at q
  split at q<;>first | exact .inl (by assumption) | exact .inr (by assumption) | cases q
 ·have q:=h4 y hy
  rcases e with e | e<;>(simp only [e,Bool.or_eq_true,decide_eq_true_eq] at q;exact q)
end L2
namespace L2
open PySem PySem.Spec PyProof.Rows
section
variable {prog:Program} {w:World} {A:Around} {R:Result->Shared->Prop} {s:Shared} {elt t0 i0 t1 i1:Expr} {ifs0 ifs1:List Expr} {scope:Scope} {pos:Pos} {it acc:Value} {env:Env}
end
section
variable {X:Cx}
end
end L2
namespace L2
open PySem PySem.Spec PyProof.Rows
section
variable {κ:Type} [DecidableEq κ]
end
section
variable {P:Program} {w:World} {H:Hp} {h:Heap} {a:Addr}
end
section
variable {X:Cx} {pins:List (Addr×Obj)} {σ:St} {H:Hp} {s:Shared} {a:Addr} {y v:V} {u r:Value} {o:Option V} {A:Around} {E:Value->Shared->Prop}
end
section
variable {X:Cx} {pins:List (Addr×Obj)} {σ:St} {H:Hp} {s:Shared} {a:Addr} {kvs:List (Key×V)} {k:Key} {u:Value} {A:Around} {E:Value->Shared->Prop}
end
section
variable {X:Cx} {o i e value:Expr} {pos pos' tpos:Pos} {td ty tv:TE}
end
section
variable {X:Cx} {pos:Pos}
end
section
variable {X:Cx} {pins:List (Addr×Obj)} {σ:St} {H:Hp} {s:Shared} {a:Addr} {y d:V} {u r:Value} {o:Option V} {A:Around} {E:Value->Shared->Prop}
end
section
variable {X:Cx} {o e f:Expr} {apos cpos:Pos} {td ty tx:TE}
end
section
variable {X:Cx} {pins:List (Addr×Obj)} {σ:St} {H:Hp} {s:Shared} {a:Addr} {kvs:List (Key×V)} {A:Around} {E:Value->Shared->Prop}
end
section
variable {X:Cx} {pins:List (Addr×Obj)} {σ:St} {H:Hp} {s:Shared} {a:Addr} {y:V} {u:Value} {A:Around} {E:Value->Shared->Prop}
end
end L2
namespace L2
open PySem PySem.Spec PyProof.Rows
section
variable {prog:Program} {w:World} {A:Around} {E:Value->Shared->Prop}
end
section
variable {X:Cx}
end
end L2
namespace L2
open PySem PySem.Spec PyProof.Rows
section
variable {X:Cx} {pins:List (Addr×Obj)} {σ:St} {H:Hp} {s:Shared} {h':Heap}
theorem Inv.turnedNew {t':Nat}{ch:List Addr}{T:Addr}{ob:HO}(I:Inv X pins σ H s)(k:∀ b o,b ∉ ch->s.heap.get? b=some o->h'.get? b=some o)(hf:∀ b∈ch,FpOk X pins H b)(hT:s.heap.objs.size<=T)
  (new:ObjOk X.prog X.w (upd H T ob) h' T ob):Inv X pins σ (upd H T ob) {s with heap:=h',toks:=t'}:=by
 have hn:H T=none:=I.hok.fresh hT
 have nit:∀ b u,H b=some u->b ∉ ch:=fun b u e z=>by
  have q:=(hf b z).1
  rw [q] at e;cases e
 refine I.step (g':=s.gens) (d':=s.drawn) (ch:=ch) (fun b hb=>⟨(hf b hb).2.2.2.1,(hf b hb).2.1,(hf b hb).2.2.2.2.1,(hf b hb).2.2.2.2.2⟩) (fun b o _ _ hc e _=>k b o hc e) (fun b o _ _ hc e _=>⟨o.slots,k b o hc e⟩)
  (fun b o _ e n=>?_) (fun b o hc e=>⟨o,k b o hc e⟩) (fun b xs e=>?_) (fun b o u e=>?_) (fun b ps e=>⟨#[],?_⟩) (fun m hm=>?_) (fun b u e=>?_) I.bare
 ·rw [upd_ne (Nat.ne_of_lt (Nat.lt_of_lt_of_le (Heap.lt_size e) hT))];exact n
 ·rw [upd_ne (ne_of_none e hn)];exact e
 ·rw [upd_ne (ne_of_none e hn)];exact e
 ·rw [upd_ne (ne_of_none e hn),e];simp
 ·obtain ⟨o,es,ep,ho,r⟩:=hm
  exact ⟨o,es,ep,k _ o (fun z=>(hf _ z).2.1 rfl) ho,r⟩
 ·by_cases hb:b=T
  ·subst hb
   rw [upd_same] at e
   cases e
   exact new
  ·rw [upd_ne hb] at e
   refine (I.hok b u e).stay (fun c v hc q=>k c v ?_ q) (fun c q=>by rw [upd_ne (ne_of_none q hn)];exact q) fun c xs q=>by rw [upd_ne (ne_of_none q hn)];exact q
   rcases hc with z | z
   ·rw [z];exact nit b u e
   ·exact nit c _ z
end
section
variable {X:Cx}
end
section
variable {X:Cx} {tg:Expr}
end
section
variable {X:Cx} {tg:Expr}
end
section
variable {prog:Program} {w:World} {A:Around} {E:Value->Shared->Prop} {s:Shared}
end
section
variable {X:Cx} {pins:List (Addr×Obj)} {σ:St} {H:Hp} {s:Shared} {d:Addr} {o:Obj}
end
section
variable {P:Program} {w:World} {K:PySem.W.Frag} {tg:Expr} {d:Addr} {o:Obj} {es:Array DictEntry} {ep:Nat}
end
section
variable {X:Cx} {tg e:Expr} {td:TE} {apos cpos:Pos}
end
def Ite (K:PySem.W.Frag)(a:Addr):It :=
 ⟨fun i H=>∃ (xs:List V) (x:V),SqL K H a xs/\xs[i]?=some x,fun i H v H'=>∃ T x,v=.ref T/\H T=none/\H'=upd H T (.tup [.int (i:Nat),x])/\∀ xs,SqL K H a xs->xs[i]?=some x,fun i H=>∃ xs:List V,SqL K H a xs/\xs.length<=i⟩
theorem turn_enum {P:Program}{w:World}{K:PySem.W.Frag}{elts:List Expr}{kk:Nat}{tpos:Pos}(a e it:Addr) :
  Turn P w K (.Tuple elts kk tpos) (Ite K a) [e,it] e (fun i h=>(∃ old,IsEnum h e it ((i:Nat):Int) old)/\h.IsListIter it a i/\e≠it) where
 mem:=by simp
 obj:=fun i h st b hb=>by
  obtain ⟨⟨old,he⟩,⟨o,ho,hc,hd⟩,_⟩:=st
  have e':b=e\/b=it:=by simpa using hb
  rcases e' with z | z
  ·rw [z];exact ⟨_,he,fun v q=>nomatch q⟩
  ·rw [z];exact ⟨o,ho,fun v q=>by rw [hd] at q;cases q⟩
 keep:=fun i h h' st k=>let ⟨⟨old,he⟩,hi,hne⟩:=st;⟨⟨old,k e (by simp) _ he⟩,hi.at fun o q=>k it (by simp) o q,hne⟩
 item:=by
  intro X hP hw hK hc i pins s σ H E I hf st hg
  subst hP hw hK
  obtain ⟨⟨old,he⟩,hit,hne⟩:=st
  obtain ⟨xs,x,hq,hx⟩:=hg
  obtain ⟨its,rv,p,hz⟩:=I.list hq
  obtain ⟨u,hu,ru⟩:=rv.get hx
  have hel:e < s.heap.objs.size:=Heap.lt_size he
  have hil:it < s.heap.objs.size:=by obtain ⟨_,q,_⟩:=hit;exact Heap.lt_size q
  refine wpAny_pyNext_enum_item he hit p.isList (x:=u) (by simpa using hu) hne fun h' ho hit' hT hsz hk=>?_
  refine ⟨_,rfl,wpAny_letOwnedTupleGo_enum (s:={s with heap:=h',toks:=s.toks+1}) ho fun h'' he' sb=>?_⟩
  have hT2:h''.get? s.heap.objs.size=some {cls:=.type "tuple",data:=.seq #[.int i s.toks,u]}:=(sb.2 _ (Nat.ne_of_gt hel)).trans hT
  have new:ObjOk X.prog X.w (upd H s.heap.objs.size (.tup [.int (i:Nat),x])) h'' s.heap.objs.size (.tup [.int (i:Nat),x]) :=
   ⟨by show 2<=sizeLine;decide,[.int i s.toks,u],.cons ⟨_,rfl⟩ (.cons ru .nil),⟨_,hT2,rfl,_,rfl⟩⟩
  have I1:Inv X pins σ (upd H s.heap.objs.size (.tup [.int (i:Nat),x])) {s with heap:=h'',toks:=s.toks+1} :=
   I.turnedNew (ch:=[e,it]) (fun b ob hb q=>(sb.2 b (fun z=>hb (by simp [z]))).trans (hk b ob (fun z=>hb (by simp [z])) (fun z=>hb (by simp [z])) q)) hf (Nat.le_refl _) new
  refine ⟨.ref s.heap.objs.size,_,I1,rfl,⟨_,x,rfl,I.hok.fresh (Nat.le_refl _),rfl,fun ys hy=>by rw [I.list_inj hy hq];exact hx⟩,⟨⟨u,?_⟩,hit'.at fun o q=>(sb.2 it (Ne.symm hne)).trans q,hne⟩,fun b hb=>?_⟩
  ·have e1:((i+1:Nat):Int)=(i:Int)+1:=by omega
   rw [e1];exact he'
  ·have hb':b < s.heap.objs.size:=by
    have e':b=e\/b=it:=by simpa using hb
    rcases e' with z | z
    ·rw [z];exact hel
    ·rw [z];exact hil
   rw [upd_ne (Nat.ne_of_lt hb')]
   exact (hf b hb).1
 done:=by
  intro X hP hw hK hc i pins s σ H E I hf st hg
  subst hP hw hK
  obtain ⟨⟨old,he⟩,hit,hne⟩:=st
  obtain ⟨xs,hq,hx⟩:=hg
  obtain ⟨its,rv,p,hz⟩:=I.list hq
  obtain ⟨f0,f1,f2,f3,f4,f5⟩:=hf it (by simp)
  have hl:=rv.length
  exact wpAny_pyNext_enum_end (I.ok.hd hc) he hit p.isList (by simp;omega) fun h' eb=>⟨rfl,I.turned (t':=s.toks) (fun b o hb q=>eb b o hb q) f0 f1 f3 f4 f5⟩
 self:=fun A i s Q E st h=>let ⟨⟨_,he⟩,_⟩:=st;wpAny_pyIter_enum he h
def iEnum (K:PySem.W.Frag)(ta:TA):TI:=fun σ H R=>ta σ H fun vs H1=>∃ a xs,vs=[.ref a]/\SqL K H1 a xs/\R (Ite K a) H1
theorem pi_enum {X:Cx}{e:Expr}{ta:TA}{p pos tpos:Pos}{elts:List Expr}{kk:Nat}(hg:Gl X "enumerate") (hm:X.mg "enumerate" = none) (ha:PA X [e] ta) (hs:starEach [e] X.env=[(false,eval e X.env)]:=by rfl) :
  PI X (.Tuple elts kk tpos) (.Call (.Name "enumerate" p) [e] [] pos) (iEnum X.K ta):=by
 intro pins s σ H R I h
 refine Call_ (ld_blt I hg hm boot_enumerate (PyProof.Rows.callWith_type1 (thn (ha pos pins s σ H _ I h) fun us s1 ⟨vs,H1,I1,r1,q1⟩=>?_) hs rfl))
 obtain ⟨a,xs,ex,hq,q⟩:=q1
 subst ex
 cases r1 with
 | cons r rr =>
  cases rr
  cases r
  obtain ⟨its,rv,p',hz⟩:=I1.list hq
  refine call_enumerate_list p'.isList fun h' he hit hsz hk=>wpAny_pyIter_enum he ?_
  have I2:Inv X pins σ H1 {s1 with heap:=h'}:=I1.kept (t':=s1.toks) hk
  refine ⟨s1.heap.objs.size+1,[s1.heap.objs.size+1,s1.heap.objs.size],_,_,H1,rfl,I2,turn_enum a (s1.heap.objs.size+1) s1.heap.objs.size,⟨⟨.none,he⟩,hit,Nat.succ_ne_self _⟩,fun b hb=>?_,q⟩
  have e':b=s1.heap.objs.size+1\/b=s1.heap.objs.size:=by simpa using hb
  have hle:s1.heap.objs.size<=b:=by
   rcases e' with z | z
   ·rw [z];exact Nat.le_add_right _ _
   ·rw [z];exact Nat.le_refl _
  exact I1.fpOk hle (I1.hok.fresh hle)
end L2
section
namespace Bits
open PySem PyProof.Rows
end Bits
end
section
namespace TL
open PySem PySem.Builtin PySem.Builtin.Str PySem.StrLaws
end TL
end
namespace L2
open PySem PySem.Spec PyProof.Rows
section
variable {X:Cx} {pins:List (Addr×Obj)} {σ:St} {H:Hp} {s:Shared} {Q:VK}
end
section
variable {X:Cx}
end
section
variable {X:Cx} {o e:Expr} {to te:TE}
end
end L2
namespace L2
open PySem PySem.Spec PyProof.Rows
section
variable {X:Cx}
end
end L2
namespace Att
open PySem PySem.W PySem.Calls PyProof.Rows
section
variable {prog:Program} {w:World} {A:Around} {E:Value->Shared->Prop} {s:Shared} {K:Frag}
end
end Att
namespace L2
open PySem PySem.Spec PyProof.Rows
end L2
namespace L2
open PySem PySem.Spec PyProof.Rows
abbrev KOf {K:PySem.W.Frag}{h:Heap}(_:K.In h):PySem.W.Frag:=K
end L2
namespace L2
open PySem PySem.Spec PyProof.Rows
def defArgs (s:Stmt):Arguments:=match s with
 | .FunctionDef _ a _ _ _ _ _ _ _ _=>a
 | _=>{posonlyargs:=[],args:=[],vararg:=none,kwonlyargs:=[],kw_defaults:=[],kwarg:=none,defaults:=[]}
def defBody (s:Stmt):List Stmt:=match s with
 | .FunctionDef _ _ b _ _ _ _ _ _ _=>b
 | _=>[]
def defScope (s:Stmt):Scope:=match s with
 | .FunctionDef _ _ _ _ _ _ sc _ _ _=>sc
 | _=>{kind:=.function,names:=[],isGenerator:=false,isCoroutine:=false}
abbrev CX0:CXT:=fun _ _ _ _ _ _=>False
abbrev E0:XK:=fun _ _ _=>False
theorem pass0 {X:Cx}:Passes CX0 X E0:=fun _ _ _ _ _ _ _ h=>h.elim
structure Fun (K:PySem.W.Frag)(x qual:Str)(st:Stmt)(f:Addr)(fd:FuncData):Prop where
 ex:∃ (oc:Value) (od:Option Addr) (kV doc pm:Value) (an:Option Addr) (cdv ct:Value) (osl:Array (Option Value)),
  fd=PySem.W.fnOf x qual (defArgs st) (defBody st) (defScope st) .none kV doc pm an cdv ct/\K.lookup f=some ⟨oc,od,.func fd,osl⟩/\PySem.W.codeIn K cdv qual=true
 kp:PySem.W.keepIn K (.ref f)=true
section
variable {P:Program} {w:World} {K:PySem.W.Frag} {mg:Str->Option Value} {base:Heap}
theorem Fun.ok {x qual:Str}{st:Stmt}{f:Addr}{fd:FuncData}{N ps:List Str}{k:Nat}{sp:Sp}(F:Fun K x qual st f fd)(S:FnScope N ps (defScope st))(len:∀ vs H Q E,sp vs H Q E->vs.length=ps.length)
  (hbody:∀ (cdv:Value) (A:Around) (outer:List Env) (s:Shared) (H:Hp) (vs:List V) (Q:VK) (E:XK),Room k (A.deeper (envOfC qual (defScope st) s.heap.objs.size f cdv))->sp vs H Q E ->
   ∃ t,PSs (cxOf CX0 P w K mg base N qual (defScope st) f cdv A outer s H E).nox (defBody st) t/\t {nx:=fun _ H'=>Q .non H',rt:=Q} (start N vs) H):FnOk P w K mg base CX0 (k+1) f fd ps sp:=by
 obtain ⟨oc,od,kV,doc,pm,an,cdv,ct,osl,rfl,lk,hcd⟩:=F.ex
 refine fn_of lk hcd S len fun A outer s H vs Q E hr hsp=>?_
 obtain ⟨t,h,q⟩:=hbody cdv A outer s H vs Q E hr hsp
 exact ⟨t,h.nox,q⟩
theorem Fun.binds {x qual:Str}{st:Stmt}{f:Addr}{fd:FuncData}{ps:List Str}(F:Fun K x qual st f fd)
  (h:∀ (kV doc pm:Value) (an:Option Addr) (cdv ct:Value) (us:List Value),us.length=ps.length->bindArgs (PySem.W.fnOf x qual (defArgs st) (defBody st) (defScope st) .none kV doc pm an cdv ct) ⟨us,[]⟩=pure (ps.zip us)):Binds K fd ps []:=by
 obtain ⟨oc,od,kV,doc,pm,an,cdv,ct,osl,rfl,lk,hcd⟩:=F.ex
 exact .all (h kV doc pm an cdv ct)
theorem fun_mk {x qual:Str}{st:Stmt}{f:Addr}{oc:Value}{od an:Option Addr}{osl:Array (Option Value)}{kV doc pm cdv ct:Value}(l:K.lookup f=some ⟨oc,od,.func (PySem.W.fnOf x qual (defArgs st) (defBody st) (defScope st) .none kV doc pm an cdv ct),osl⟩)
  (c:PySem.W.codeIn K cdv qual=true) (k:PySem.W.keepIn K (.ref f)=true):Fun K x qual st f (PySem.W.fnOf x qual (defArgs st) (defBody st) (defScope st) .none kV doc pm an cdv ct):=⟨⟨oc,od,kV,doc,pm,an,cdv,ct,osl,rfl,l,c⟩,k⟩
end
section
variable {X:Cx}
end
theorem ite2 {c A B:Prop}[Decidable c](h1:c->A)(h2:¬ c->B):if c then A else B:=by
 by_cases h:c
 ·rw [if_pos h]
  exact h1 h
 ·rw [if_neg h]
  exact h2 h
def Same (H H':Hp):Prop:=∀ b o,H b=some o->H' b=some o
theorem Same.refl (H:Hp):Same H H:=fun _ _ h=>h
theorem Same.trans {H H1 H2:Hp}(a:Same H H1)(b:Same H1 H2):Same H H2:=fun c o h=>b c o (a c o h)
theorem Same.free {H H':Hp}(e:Same H H'){l:Addr}(h:H' l=Option.none):H l=Option.none:=by
 cases q:H l with
 | none=>rfl
 | some o =>
  rw [e l o q] at h
  cases h
theorem Same.seq {K:PySem.W.Frag}{H H':Hp}{a:Addr}{xs:List V}(e:Same H H')(h:SqL K H a xs):SqL K H' a xs:=by
 rcases h with (h | ⟨o,h⟩) | h
 ·exact .inl (.inl (e _ _ h))
 ·exact .inl (.inr ⟨o,e _ _ h⟩)
 ·exact .inr h
section
variable {κ:Type} [DecidableEq κ]
end
end L2
section
namespace L2
open PySem PySem.Spec PyProof.Rows
open PySem.W (WData Codec OpenSpec Well WellAll ReadsW ReadsAllW)
mutual
inductive Dw (K:PySem.W.Frag)(H:Hp):V->WData->Prop
 | non:Dw K H .non .none
 | bl (b:Bool):Dw K H (.bl b) (.bool b)
 | int (i:Int):Dw K H (.int i) (.int i)
 | str (x:Str):Dw K H (.str x) (.str x)
 | byt (b:Array UInt8):Dw K H (.byt b) (.bytes b.toList)
 | lst {a:Addr} {xs:List V} {ds:List WData}:SqL K H a xs->DwAll K H xs ds->Dw K H (.ref a) (.list ds)
 | tup {a:Addr} {xs:List V} {ds:List WData}:SqT K H a xs->DwAll K H xs ds->Dw K H (.ref a) (.tuple ds)
inductive DwAll (K:PySem.W.Frag)(H:Hp):List V->List WData->Prop
 | nil:DwAll K H [] []
 | cons {v:V} {vs:List V} {d:WData} {ds:List WData}:Dw K H v d->DwAll K H vs ds->DwAll K H (v::vs) (d::ds)
end
theorem dw_ints {K:PySem.W.Frag}{H:Hp}:∀ ns:List Int,DwAll K H (ns.map V.int) (ns.map WData.int)
 | []=>.nil
 | n::r=>.cons (.int n) (dw_ints r)
theorem ints_dw {K:PySem.W.Frag}{H:Hp}:∀ (ns:List Int) (xs:List V),DwAll K H xs (ns.map WData.int)->xs=ns.map V.int
 | [],xs,h=>by
  cases h
  rfl
 | n::r,xs,h=>by
  cases h with
  | cons h1 h2 =>
   cases h1
   rw [ints_dw r _ h2]<;>rfl
section
variable {P:Program} {w:World} {K:PySem.W.Frag} {H:Hp} {h:Heap} {R:PySem.W.WRecords} {cl:Str->Option Addr}
theorem sqL_at {a:Addr}{xs:List V}(hok:HOk P w H h)(KX:K.In h)(q:SqL K H a xs):∃ (its:List Value) (o:Obj) (n:Nat),Vals xs its/\h.get? a=some o/\o.cls=.type "list"/\o.data=.seq its.toArray n:=by
 rcases q with q | ⟨o,its,n,e,hc,_,hd,_,hv⟩
 ·obtain ⟨_,its,n,hv,e⟩:=(show ObjOk P w H h a (.lst xs) from q.ok hok)
  exact ⟨its,_,n,hv,e,rfl,rfl⟩
 ·exact ⟨its.toList,o,n,hv,KX _ _ e,hc,by simp [hd]⟩
theorem sqT_at {a:Addr}{xs:List V}(hok:HOk P w H h)(KX:K.In h)(q:SqT K H a xs):∃ (its:List Value) (o:Obj) (n:Nat),Vals xs its/\h.get? a=some o/\o.cls=.type "tuple"/\o.data=.seq its.toArray n:=by
 rcases q with q | ⟨o,its,n,e,hc,hd,_,hv⟩
 ·obtain ⟨_,its,hv,o,e,hc,n,hd⟩:=(show ObjOk P w H h a (.tup xs) from q.ok hok)
  exact ⟨its,o,n,hv,e,hc,hd⟩
 ·exact ⟨its.toList,o,n,hv,KX _ _ e,hc,by simp [hd]⟩
mutual
theorem Dw.reads (hok:HOk P w H h)(KX:K.In h):∀ (d:WData) (v:V) (u:Value),Dw K H v d->RelV v u->∃ as,ReadsW R cl h u d as
 | .none,_,_,x,r=>by
  cases x
  cases r
  exact ⟨_,ReadsW.none⟩
 | .bool b,_,_,x,r=>by
  cases x
  cases r
  exact ⟨_,ReadsW.bool b⟩
 | .int i,_,_,x,r=>by
  cases x
  obtain ⟨t,rfl⟩:=r
  exact ⟨_,ReadsW.int i t⟩
 | .str s,_,_,x,r=>by
  cases x
  obtain ⟨t,rfl⟩:=r
  exact ⟨_,ReadsW.str s t⟩
 | .bytes b,_,_,x,r=>by
  cases x
  obtain ⟨t,rfl⟩:=r
  exact ⟨_,ReadsW.bytes _ t⟩
 | .list ds,_,_,x,r=>by
  cases x with
  | lst hs ha =>
   cases r
   obtain ⟨its,o,n,rv,ho,hc,hd⟩:=sqL_at hok KX hs
   obtain ⟨as,hr⟩:=Dw.readsAll hok KX ds _ its ha rv
   exact ⟨_,ReadsW.list ho hc hd hr⟩
 | .tuple ds,_,_,x,r=>by
  cases x with
  | tup hs ha =>
   cases r
   obtain ⟨its,o,n,rv,ho,hc,hd⟩:=sqT_at hok KX hs
   obtain ⟨as,hr⟩:=Dw.readsAll hok KX ds _ its ha rv
   exact ⟨_,ReadsW.tuple ho hc hd hr⟩
 | .float _,_,_,x,_=>by cases x
 | .dict _,_,_,x,_=>by cases x
 | .bytearray _,_,_,x,_=>by cases x
 | .set _,_,_,x,_=>by cases x
 | .frozenset _,_,_,x,_=>by cases x
 | .obj _ _,_,_,x,_=>by cases x
theorem Dw.readsAll (hok:HOk P w H h)(KX:K.In h):∀ (ds:List WData) (vs:List V) (us:List Value),DwAll K H vs ds->Vals vs us->∃ as,ReadsAllW R cl h us ds as
 | [],_,_,x,r=>by
  cases x
  cases r
  exact ⟨_,ReadsAllW.nil⟩
 | d::ds,_,_,x,r=>by
  cases x with
  | cons h1 h2 =>
   cases r with
   | cons r1 r2 =>
    obtain ⟨as,q1⟩:=Dw.reads hok KX d _ _ h1 r1
    obtain ⟨bs,q2⟩:=Dw.readsAll hok KX ds _ _ h2 r2
    exact ⟨_,ReadsAllW.cons q1 q2⟩
end
end
mutual
def plW:WData->Bool
 | .none=>true
 | .bool _=>true
 | .int _=>true
 | .str _=>true
 | .bytes _=>true
 | .list xs=>plWs xs
 | .tuple xs=>plWs xs
 | _=>false
def plWs:List WData->Bool
 | []=>true
 | x::r=>plW x && plWs r
end
theorem plWs_map {α:Type}{f:α->WData}(h:∀ a,plW (f a)=true):∀ l:List α,plWs (l.map f)=true
 | []=>rfl
 | x::r=>by
  show (plW (f x) && plWs (r.map f))=true
  rw [h x,plWs_map h r]<;>rfl
theorem pl_enc:∀ (c:Codec) (a:c.denote),plW (c.enc a)=true
 | .unit,_=>rfl
 | .bool,_=>rfl
 | .int _ _,_=>rfl
 | .nat _ _,_=>rfl
 | .u8,_=>rfl
 | .bytes _ _,_=>rfl
 | .text _ _ _ _,_=>rfl
 | .list _ _ c,a=>plWs_map (fun x=>pl_enc c x) a
 | .pair c d,a=>by
  show (plW (c.enc a.1) && (plW (d.enc a.2) && true))=true
  rw [pl_enc c a.1,pl_enc d a.2]<;>rfl
 | .triple c d e,a=>by
  show (plW (c.enc a.1) && (plW (d.enc a.2.1) && (plW (e.enc a.2.2) && true)))=true
  rw [pl_enc c a.1,pl_enc d a.2.1,pl_enc e a.2.2]<;>rfl
 | .option c,none=>rfl
 | .option c,some x=>pl_enc c x
theorem pl_encAll:∀ (cs:List Codec) (a:Codec.denoteAll cs),plWs (Codec.encAll cs a)=true
 | [],_=>rfl
 | c::cs,a=>by
  show (plW (c.enc a.1) && plWs (Codec.encAll cs a.2))=true
  rw [pl_enc c a.1,pl_encAll cs a.2]<;>rfl
theorem weight_mem:∀ {xs:List WData} {d:WData},d∈xs->d.weight<=WData.weightAll xs
 | [],d,h=>absurd h (by simp)
 | x::r,d,h=>by
  show d.weight<=x.weight+1+WData.weightAll r
  rcases List.mem_cons.mp h with e | m
  ·rw [e]
   omega
  ·have z:=weight_mem m
   omega
def toV:Value->V
 | .none=>.non
 | .bool b=>.bl b
 | .int i _=>.int i
 | .str x _=>.str x
 | .bytes b _=>.byt b
 | .ref a=>.ref a
 | _=>.non
def OkU (A:List Addr):Value->Prop
 | .none=>True
 | .bool _=>True
 | .int _ _=>True
 | .str _ _=>True
 | .bytes _ _=>True
 | .ref a=>a∈A
 | _=>False
theorem OkU.mono {A B:List Addr}(h:∀ a∈A,a∈B):∀ {u:Value},OkU A u->OkU B u:=fun {u} x=>by
 cases u with
 | ref a=>exact h a x
 | none=>trivial
 | bool b=>trivial
 | int i t=>trivial
 | str s t=>trivial
 | bytes b t=>trivial
 | _=>exact False.elim x
theorem relV_toV {A:List Addr}{u:Value}(x:OkU A u):RelV (toV u) u:=by
 cases u with
 | ref a=>rfl
 | none=>rfl
 | bool b=>rfl
 | int i t=>exact ⟨t,rfl⟩
 | str s t=>exact ⟨t,rfl⟩
 | bytes b t=>exact ⟨t,rfl⟩
 | _=>exact False.elim x
theorem vals_toV {A:List Addr}:∀ {vs:List Value},(∀ u∈vs,OkU A u)->Vals (vs.map toV) vs
 | [],_=>.nil
 | u::r,h=>.cons (relV_toV (h u (List.mem_cons_self ..))) (vals_toV fun x hx=>h x (List.mem_cons_of_mem _ hx))
def ArgOb (h:Heap)(A:List Addr)(a:Addr):Prop:=∃ vs:List Value,vs.length<=sizeLine/\(∀ u∈vs,OkU A u) /\
 (h.get? a=some {cls:=.type "list",data:=.seq vs.toArray}\/h.get? a=some {cls:=.type "tuple",data:=.seq vs.toArray})
theorem ArgOb.mono {h:Heap}{A B:List Addr}{a:Addr}(k:∀ a∈A,a∈B)(x:ArgOb h A a):ArgOb h B a:=by
 obtain ⟨vs,h1,h2,h3⟩:=x
 exact ⟨vs,h1,fun u hu=>(h2 u hu).mono k,h3⟩
theorem wellAll_len {P:Params}{h:Heap}:∀ {vs:List Value} {ds:List WData},WellAll P h vs ds->vs.length=ds.length
 | _,_,.nil=>rfl
 | _,_,.cons _ b=>by
  show _+1=_+1
  rw [wellAll_len b]
theorem well_list {P:Params}{h:Heap}{v:Value}{ds:List WData}(x:Well P h v (.list ds)):∃ (a:Addr) (vs:List Value),v=.ref a/\h.get? a=some {cls:=.type "list",data:=.seq vs.toArray}/\WellAll P h vs ds:=by
 cases x with
 | list ho hall=>exact ⟨_,_,rfl,ho,hall⟩
theorem well_tuple {P:Params}{h:Heap}{v:Value}{ds:List WData}(x:Well P h v (.tuple ds)):∃ (a:Addr) (vs:List Value),v=.ref a/\h.get? a=some {cls:=.type "tuple",data:=.seq vs.toArray}/\WellAll P h vs ds:=by
 cases x with
 | tuple ho hall=>exact ⟨_,_,rfl,ho,hall⟩
theorem well_cons {P:Params}{h:Heap}{us:List Value}{d:WData}{ds:List WData}(x:WellAll P h us (d::ds)):∃ (v:Value) (vs:List Value),us=v::vs/\Well P h v d/\WellAll P h vs ds:=by
 cases x with
 | cons a b=>exact ⟨_,_,rfl,a,b⟩
theorem line_of {n:Nat}(h:n<=1048576):n<=sizeLine:=Nat.le_trans h (by decide)
section
variable {P:Params} {h:Heap}
mutual
theorem area_one:∀ (d:WData) (v:Value),Well P h v d->plW d=true->d.weight<=1048576->∃ A:List Addr,OkU A v/\∀ a∈A,ArgOb h A a
 | .none,_,x,_,_=>by
  cases x
  exact ⟨[],trivial,fun a m=>absurd m (by simp)⟩
 | .bool b,_,x,_,_=>by
  cases x
  exact ⟨[],trivial,fun a m=>absurd m (by simp)⟩
 | .int i,_,x,_,_=>by
  cases x
  exact ⟨[],trivial,fun a m=>absurd m (by simp)⟩
 | .str s,_,x,_,_=>by
  cases x
  exact ⟨[],trivial,fun a m=>absurd m (by simp)⟩
 | .bytes b,_,x,_,_=>by
  cases x
  exact ⟨[],trivial,fun a m=>absurd m (by simp)⟩
 | .list ds,_,x,p,z=>by
  obtain ⟨a,vs,rfl,ho,hall⟩:=well_list x
  have z2:WData.weightAll ds<=1048576:=z
  obtain ⟨A,h1,h2⟩:=area_all ds _ hall p fun d hd=>Nat.le_trans (weight_mem hd) z2
  have k:∀ b∈A,b∈a::A:=fun b hb=>List.mem_cons_of_mem _ hb
  refine ⟨a::A,List.mem_cons_self ..,fun b hb=>?_⟩
  rcases List.mem_cons.mp hb with e | m
  ·rw [e]
   exact ⟨vs,line_of (by rw [wellAll_len hall];exact Nat.le_trans (PySem.W.length_le_weightAllW ds) z2),fun u hu=>(h1 u hu).mono k,.inl ho⟩
  ·exact (h2 b m).mono k
 | .tuple ds,_,x,p,z=>by
  obtain ⟨a,vs,rfl,ho,hall⟩:=well_tuple x
  have z2:WData.weightAll ds<=1048576:=z
  obtain ⟨A,h1,h2⟩:=area_all ds _ hall p fun d hd=>Nat.le_trans (weight_mem hd) z2
  have k:∀ b∈A,b∈a::A:=fun b hb=>List.mem_cons_of_mem _ hb
  refine ⟨a::A,List.mem_cons_self ..,fun b hb=>?_⟩
  rcases List.mem_cons.mp hb with e | m
  ·rw [e]
   exact ⟨vs,line_of (by rw [wellAll_len hall];exact Nat.le_trans (PySem.W.length_le_weightAllW ds) z2),fun u hu=>(h1 u hu).mono k,.inr ho⟩
  ·exact (h2 b m).mono k
 | .float _,_,_,p,_=>Bool.noConfusion (show false=true from p)
 | .dict _,_,_,p,_=>Bool.noConfusion (show false=true from p)
 | .bytearray _,_,_,p,_=>Bool.noConfusion (show false=true from p)
 | .set _,_,_,p,_=>Bool.noConfusion (show false=true from p)
 | .frozenset _,_,_,p,_=>Bool.noConfusion (show false=true from p)
 | .obj _ _,_,_,p,_=>Bool.noConfusion (show false=true from p)
theorem area_all:∀ (ds:List WData) (vs:List Value),WellAll P h vs ds->plWs ds=true->(∀ d∈ds,d.weight<=1048576)->∃ A:List Addr,(∀ u∈vs,OkU A u)/\∀ a∈A,ArgOb h A a
 | [],_,x,_,_=>by
  cases x
  exact ⟨[],fun u m=>absurd m (by simp),fun a m=>absurd m (by simp)⟩
 | d::ds,_,x,p,z=>by
  obtain ⟨v,vs,rfl,x1,x2⟩:=well_cons x
  have q:plW d=true/\plWs ds=true:=Bool.and_eq_true_iff.mp p
  obtain ⟨A,a1,a2⟩:=area_one d v x1 q.1 (z d (List.mem_cons_self ..))
  obtain ⟨B,b1,b2⟩:=area_all ds vs x2 q.2 fun e he=>z e (List.mem_cons_of_mem _ he)
  have kA:∀ b∈A,b∈A++B:=fun b hb=>List.mem_append.mpr (.inl hb)
  have kB:∀ b∈B,b∈A++B:=fun b hb=>List.mem_append.mpr (.inr hb)
  refine ⟨A++B,fun u hu=>?_,fun b hb=>?_⟩
  ·rcases List.mem_cons.mp hu with e | m
   ·rw [e]
    exact a1.mono kA
   ·exact (b1 u m).mono kB
  ·rcases List.mem_append.mp hb with m | m
   ·exact (a2 b m).mono kA
   ·exact (b2 b m).mono kB
end
end
def hoOf (o:Obj):Option HO:=match o.data with
 | .seq vs _=>if (o.cls == Value.type "list")=true then some (.frz o (.lst (vs.toList.map toV))) else some (.frz o (.tup (vs.toList.map toV)))
 | _=>none
def argH (K:PySem.W.Frag)(h:Heap)(A:List Addr):Hp:=fun b=>if b∈A then (if (K.lookup b).isNone=true then (h.get? b).bind hoOf else none) else none
def OnlyF (H:Hp):Prop:=∀ b,H b=none\/∃ o u,H b=some (.frz o u)
theorem hoOf_lst (vs:List Value):hoOf {cls:=.type "list",data:=.seq vs.toArray}=some (.frz {cls:=.type "list",data:=.seq vs.toArray} (.lst (vs.map toV))):=by
 show (if (Value.type "list" == Value.type "list")=true then some (HO.frz {cls:=.type "list",data:=.seq vs.toArray} (.lst (vs.toArray.toList.map toV))) else some (HO.frz {cls:=.type "list",data:=.seq vs.toArray} (.tup (vs.toArray.toList.map toV))))=_
 rw [if_pos (beq_self_eq_true _)]
theorem hoOf_tup (vs:List Value):hoOf {cls:=.type "tuple",data:=.seq vs.toArray}=some (.frz {cls:=.type "tuple",data:=.seq vs.toArray} (.tup (vs.map toV))):=by
 show (if (Value.type "tuple" == Value.type "list")=true then some (HO.frz {cls:=.type "tuple",data:=.seq vs.toArray} (.lst (vs.toArray.toList.map toV))) else some (HO.frz {cls:=.type "tuple",data:=.seq vs.toArray} (.tup (vs.toArray.toList.map toV))))=_
 rw [if_neg (by decide)]
section
variable {P:Program} {w:World} {K:PySem.W.Frag} {h:Heap} {A:List Addr}
theorem argH_at {b:Addr}{o:Obj}(hb:b∈A)(hk:K.lookup b=none)(e:h.get? b=some o):argH K h A b=hoOf o:=by
 unfold argH
 rw [if_pos hb,hk,if_pos (show (none:Option Obj).isNone=true from rfl),e]<;>rfl
theorem of_argH {b:Addr}{u:HO}(q:argH K h A b=some u):b∈A/\K.lookup b=none:=by
 unfold argH at q
 by_cases hb:b∈A
 ·rw [if_pos hb] at q
  cases hk:K.lookup b with
  | none=>exact ⟨hb,rfl⟩
  | some o =>
   rw [hk,if_neg (by simp)] at q
   cases q
 ·rw [if_neg hb] at q
  cases q
theorem argH_is (ar:∀ a∈A,ArgOb h A a){b:Addr}{u:HO}(q:argH K h A b=some u):K.lookup b=none/\∃ vs:List Value,vs.length<=sizeLine/\(∀ u∈vs,OkU A u) /\
  ((h.get? b=some {cls:=.type "list",data:=.seq vs.toArray}/\u=.frz {cls:=.type "list",data:=.seq vs.toArray} (.lst (vs.map toV))) \/
   (h.get? b=some {cls:=.type "tuple",data:=.seq vs.toArray}/\u=.frz {cls:=.type "tuple",data:=.seq vs.toArray} (.tup (vs.map toV)))):=by
 obtain ⟨hb,hk⟩:=of_argH q
 obtain ⟨vs,h1,h2,h3⟩:=ar b hb
 refine ⟨hk,vs,h1,h2,?_⟩
 rcases h3 with e | e
 ·rw [argH_at hb hk e,hoOf_lst] at q
  exact .inl ⟨e,(Option.some.inj q).symm⟩
 ·rw [argH_at hb hk e,hoOf_tup] at q
  exact .inr ⟨e,(Option.some.inj q).symm⟩
theorem argH_only (ar:∀ a∈A,ArgOb h A a):OnlyF (argH K h A):=fun b=>by
 cases q:argH K h A b with
 | none=>exact .inl rfl
 | some u =>
  obtain ⟨_,vs,_,_,⟨_,e⟩ | ⟨_,e⟩⟩:=argH_is ar q
  ·exact .inr ⟨_,_,by rw [e]⟩
  ·exact .inr ⟨_,_,by rw [e]⟩
theorem argH_ok (ar:∀ a∈A,ArgOb h A a):HOk P w (argH K h A) h:=fun b u q=>by
 obtain ⟨_,vs,h1,h2,⟨e,rfl⟩ | ⟨e,rfl⟩⟩:=argH_is ar q
 ·exact ⟨e,by rw [List.length_map];exact h1,vs,_,vals_toV h2,e⟩
 ·exact ⟨e,by rw [List.length_map];exact h1,vs,vals_toV h2,_,e,rfl,_,rfl⟩
theorem seq_inj {c c':Value}{vs us:List Value}(e:(some {cls:=c,data:=.seq vs.toArray}:Option Obj)=some {cls:=c',data:=.seq us.toArray}):c=c'/\vs=us:=by
 have e1:=Option.some.inj e
 have e2:c=c':=congrArg Obj.cls e1
 have e3:Data.seq vs.toArray=Data.seq us.toArray:=congrArg Obj.data e1
 injection e3 with e4
 refine ⟨e2,?_⟩
 have e5:=congrArg Array.toList e4
 simpa using e5
theorem argL (KX:K.In h)(ar:∀ a∈A,ArgOb h A a){a:Addr}{vs:List Value}(ha:a∈A)(e:h.get? a=some {cls:=.type "list",data:=.seq vs.toArray}):(∀ u∈vs,OkU A u)/\SqL K (argH K h A) a (vs.map toV):=by
 obtain ⟨us,h1,h2,h3⟩:=ar a ha
 have hu:us=vs:=by
  rcases h3 with q | q
  ·rw [e] at q
   exact (seq_inj q).2.symm
  ·rw [e] at q
   exact absurd (Value.type.inj (seq_inj q).1) (by decide)
 subst hu
 refine ⟨h2,?_⟩
 cases hk:K.lookup a with
 | none=>exact .inl (.inr ⟨_,by rw [argH_at ha hk e,hoOf_lst]⟩)
 | some o =>
  have e2:=KX a o hk
  rw [e] at e2
  obtain rfl:=Option.some.inj e2
  exact .inr ⟨_,us.toArray,_,hk,rfl,rfl,rfl,by rw [List.size_toArray];exact h1,by simpa using vals_toV h2⟩
theorem argT (KX:K.In h)(ar:∀ a∈A,ArgOb h A a){a:Addr}{vs:List Value}(ha:a∈A)(e:h.get? a=some {cls:=.type "tuple",data:=.seq vs.toArray}):(∀ u∈vs,OkU A u)/\SqT K (argH K h A) a (vs.map toV):=by
 obtain ⟨us,h1,h2,h3⟩:=ar a ha
 have hu:us=vs:=by
  rcases h3 with q | q
  ·rw [e] at q
   exact absurd (Value.type.inj (seq_inj q).1) (by decide)
  ·rw [e] at q
   exact (seq_inj q).2.symm
 subst hu
 refine ⟨h2,?_⟩
 cases hk:K.lookup a with
 | none=>exact .inl (.inr ⟨_,by rw [argH_at ha hk e,hoOf_tup]⟩)
 | some o =>
  have e2:=KX a o hk
  rw [e] at e2
  obtain rfl:=Option.some.inj e2
  exact .inr ⟨_,us.toArray,_,hk,rfl,rfl,by rw [List.size_toArray];exact h1,by simpa using vals_toV h2⟩
mutual
theorem dw_one {Pm:Params}(KX:K.In h)(ar:∀ a∈A,ArgOb h A a):∀ (d:WData) (v:Value),Well Pm h v d->plW d=true->OkU A v->Dw K (argH K h A) (toV v) d
 | .none,_,x,_,_=>by
  cases x
  exact .non
 | .bool b,_,x,_,_=>by
  cases x
  exact .bl b
 | .int i,_,x,_,_=>by
  cases x
  exact .int i
 | .str s,_,x,_,_=>by
  cases x
  exact .str s
 | .bytes b,_,x,_,_=>by
  cases x
  have z:=Dw.byt (K:=K) (H:=argH K h A) b.toArray
  exact z
 | .list ds,_,x,p,hu=>by
  obtain ⟨a,vs,rfl,ho,hall⟩:=well_list x
  obtain ⟨h2,hs⟩:=argL KX ar hu ho
  exact .lst hs (dw_all KX ar ds _ hall p h2)
 | .tuple ds,_,x,p,hu=>by
  obtain ⟨a,vs,rfl,ho,hall⟩:=well_tuple x
  obtain ⟨h2,hs⟩:=argT KX ar hu ho
  exact .tup hs (dw_all KX ar ds _ hall p h2)
 | .float _,_,_,p,_=>Bool.noConfusion (show false=true from p)
 | .dict _,_,_,p,_=>Bool.noConfusion (show false=true from p)
 | .bytearray _,_,_,p,_=>Bool.noConfusion (show false=true from p)
 | .set _,_,_,p,_=>Bool.noConfusion (show false=true from p)
 | .frozenset _,_,_,p,_=>Bool.noConfusion (show false=true from p)
 | .obj _ _,_,_,p,_=>Bool.noConfusion (show false=true from p)
theorem dw_all {Pm:Params}(KX:K.In h)(ar:∀ a∈A,ArgOb h A a):∀ (ds:List WData) (vs:List Value),WellAll Pm h vs ds->plWs ds=true->(∀ u∈vs,OkU A u)->DwAll K (argH K h A) (vs.map toV) ds
 | [],_,x,_,_=>by
  cases x
  exact .nil
 | d::ds,_,x,p,hu=>by
  obtain ⟨v,vs,rfl,x1,x2⟩:=well_cons x
  have q:plW d=true/\plWs ds=true:=Bool.and_eq_true_iff.mp p
  exact .cons (dw_one KX ar d v x1 q.1 (hu _ (List.mem_cons_self ..))) (dw_all KX ar ds vs x2 q.2 fun u m=>hu u (List.mem_cons_of_mem _ m))
end
end
theorem spec_call {P:Program}{w:World}{K:PySem.W.Frag}{mg mb:Str->Option Value}{CX:CXT}{k:Nat}{fa:Addr}{fd:FuncData}{ps:List Str}{sp:Sp}{s₁:Shared}{vals:List Value}{ds:List WData}{R:PySem.W.WRecords}{cl:Str->Option Addr}{d0:WData}
  (KX:K.In s₁.heap) (hns:s₁.heap.Ns mainGlobals mg) (hb:s₁.heap.Ns builtinsNs mb) (hbb:∀ x:Str,x≠"__name__"->mb x=bootBuiltins x) (hlim:s₁.heap.NoLimit) (hseer:s₁.heap.NoSeer) (hg:s₁.gens = #[])
  (hwl:WellAll w.params s₁.heap vals ds) (hpl:plWs ds=true) (hwt:∀ d∈ds,d.weight<=1048576) (hr:Room k callerA)
  (F:∀ base:Heap,K.In base->base.Ns mainGlobals mg->base.NoSeer->FnOk P w K mg base CX k fa fd ps sp) (hbind:∀ (s:Shared) (us:List Value),us.length=ps.length->BindsTo s fd ⟨us,[]⟩ (ps.zip us)) (hlen:ds.length=ps.length)
  (hsp:∀ (H:Hp) (xs:List V),OnlyF H->DwAll K H xs ds->sp xs H (fun v H'=>Dw K H' v d0) fun _ _ _=>False)
  (hCX:∀ H e s',CX [] H s₁ (fun _ _ _=>False) e s'->False) :
  codeAny (model P w) callerA (.call (.ref fa) ⟨vals,[]⟩) (fun r s'=>∃ u as,r=.ok (.ret u)/\ReadsW R cl s'.heap u d0 as/\OldK s₁.heap s'.heap/\s'.os=s₁.os/\AllBare s'.gens) s₁:=by
 obtain ⟨A,ho,ar⟩:=area_all ds vals hwl hpl hwt
 have hO:OnlyF (argH K s₁.heap A):=argH_only ar
 have hok:HOk P w (argH K s₁.heap A) s₁.heap:=argH_ok ar
 have hS:=dw_all KX ar ds vals hwl hpl ho
 have hV:=vals_toV ho
 have hK:∀ b u,argH K s₁.heap A b=some u->K.lookup b=none:=fun b u q=>(argH_is ar q).1
 have noA:∀ {b:Addr} {o:Obj} {es:Array DictEntry} {ep:Nat},s₁.heap.get? b=some o->o.data=.dict es ep->argH K s₁.heap A b=none:=fun {b o es ep} e d=>by
  cases q:argH K s₁.heap A b with
  | none=>rfl
  | some u =>
   obtain ⟨_,vs,_,_,⟨e2,_⟩ | ⟨e2,_⟩⟩:=argH_is ar q
   ·rw [e2] at e
    cases e
    have d':Data.seq vs.toArray _=Data.dict es ep:=d
    cases d'
   ·rw [e2] at e
    cases e
    have d':Data.seq vs.toArray _=Data.dict es ep:=d
    cases d'
 have noM:∀ {b:Addr} {o:Obj},s₁.heap.get? b=some o->o.cls=.type "module"->argH K s₁.heap A b=none:=fun {b o} e d=>by
  cases q:argH K s₁.heap A b with
  | none=>rfl
  | some u =>
   obtain ⟨_,vs,_,_,⟨e2,_⟩ | ⟨e2,_⟩⟩:=argH_is ar q
   ·rw [e2] at e
    cases e
    have d':Value.type "list" = Value.type "module":=d
    exact absurd (Value.type.inj d') (by decide)
   ·rw [e2] at e
    cases e
    have d':Value.type "tuple" = Value.type "module":=d
    exact absurd (Value.type.inj d') (by decide)
 generalize argH K s₁.heap A=H at hO hok hS hK noA noM
 have base_of:∀ {b:Addr} {o:Obj},s₁.heap.get? b=some o->H b=none->(hidT s₁.heap H).get? b=some o:=fun e n=>hidT_get e n
 have nsK:∀ {b:Addr} {m:Str->Option Value},s₁.heap.Ns b m->(hidT s₁.heap H).Ns b m:=fun {b m} ⟨o,es,ep,e,d,r⟩=>⟨o,es,ep,base_of e (noA e d),d,r⟩
 have nK:∀ b o,K.lookup b=some o->H b=none:=fun b o e=>by
  cases q:H b with
  | none=>rfl
  | some u =>
   rw [hK b u q] at e
   cases e
 have hKb:K.In (hidT s₁.heap H):=fun b o e=>base_of (KX b o e) (nK b o e)
 have hM:Mod K mg (hidT s₁.heap H):=⟨hKb,nsK hns,⟨mb,nsK hb,hbb⟩,let ⟨mc,h1,h2⟩:=hlim;⟨mc,nsK h1,h2⟩⟩
 have hSe:(hidT s₁.heap H).NoSeer:=⟨(let ⟨mc,a,b⟩:=hseer.statics;⟨mc,nsK a,b⟩),(let ⟨mc,a,b⟩:=hseer.mods;⟨mc,nsK a,b⟩),(let ⟨mc,a,b⟩:=hseer.imp;⟨mc,nsK a,b⟩),
  (let ⟨mg',bm,ob,a,b,c,d,e⟩:=hseer.main;⟨mg',bm,ob,nsK a,b,base_of c (noM c d),d,e⟩)⟩
 have e0:Env0 P w K mg (hidT s₁.heap H) callerA [] s₁ H:=⟨rfl,hM,fun b o e=>of_hidT e,Nat.le_of_eq (hidT_size _ _),trivial,fun b hb=>absurd (show b∈([]:List Addr) from hb) (by simp),hok,.of_eq hg⟩
 have hl:vals.length=ps.length:=by rw [wellAll_len hwl];exact hlen
 refine codeAny_mono ((F _ hKb (nsK hns) hSe).run callerA [] s₁ H ⟨vals,[]⟩ vals (vals.map toV) _ _ hr e0 (hbind s₁ vals hl) hV (hsp H _ hO hS)) fun r s' x=>?_
 cases r with
 | error e=>exact (hCX H e s' x).elim
 | ok fl =>
  cases fl with
  | next=>exact False.elim x
  | brk=>exact False.elim x
  | cont=>exact False.elim x
  | ret u =>
   obtain ⟨v,H',os,bare,un,hok',r',q⟩:=x
   have kept:∀ b o,s₁.heap.get? b=some o->s'.heap.get? b=some o:=fun b o e=>by
    cases q2:H b with
    | none=>exact un.keep b o e q2 (by intro z;exact absurd (show b∈([]:List Addr) from z) (by simp)) (by simp)
    | some u2 =>
     rcases hO b with z | ⟨ob,u3,z⟩
     ·rw [q2] at z
      cases z
     ·have z2:=un.frzs b ob _ z
      obtain ⟨e1,_⟩:=hok b _ z
      obtain ⟨e2,_⟩:=hok' b _ z2
      rw [e] at e1
      cases e1
      exact e2
   have KX':K.In s'.heap:=fun b o e=>kept b o (KX b o e)
   obtain ⟨as,hrd⟩:=Dw.reads (R:=R) (cl:=cl) hok' KX' d0 v u q r'
   exact ⟨u,as,rfl,hrd,OldK.of_keep kept,os,bare⟩
theorem layable_weight {ds:List WData}(h:WData.layableAll ds=true):∀ d∈ds,d.weight<=1048576:=fun d hd =>
 (PySem.W.layableW_iff.mp (List.all_eq_true.mp h d hd)).2.2
theorem encAll_len:∀ (cs:List Codec) (a:Codec.denoteAll cs),(Codec.encAll cs a).length=cs.length
 | [],_=>rfl
 | c::cs,a=>by
  show (Codec.encAll cs a.2).length+1=cs.length+1
  rw [encAll_len cs a.2]
theorem walk_spec {r:OpenSpec}{k:Nat}{q:Program}{loose:List Str}{XP:(Str->Option Value)->Heap->Prop}{YP:World->Heap->Prop}{d:DefRec}{K:Params->PySem.W.Frag}{CX:World->CXT}{ps:List Str}{sp:World->Sp}
  (hwell:r.wellSaid=true) (himp:importsNone q=true) (hdf:d.params.defaults=[]) (hlen:r.args.length=ps.length) (hr:Room k callerA)
  (hY:∀ (w:World) (h:Heap),YP w h->(K w.params).In h)
  (F:∀ (w:World) (mg:Str->Option Value) (fa:Addr) (h:Heap),YP w h->(K w.params).In h->h.Ns mainGlobals mg->mg d.name=some (.ref fa) ->
   ∃ fd:FuncData,(∀ (s:Shared) (us:List Value),us.length=ps.length->BindsTo s fd ⟨us,[]⟩ (ps.zip us)) /\
    ∀ base:Heap,(K w.params).In base->base.Ns mainGlobals mg->base.NoSeer->FnOk r.prog w (K w.params) mg base (CX w) k fa fd ps (sp w))
  (hsp:∀ (w:World) (H:Hp) (xs:List V) (a:Codec.denoteAll r.args),OnlyF H->Codec.withinAll r.args a=true->Codec.app r.args r.asked a=true->DwAll (K w.params) H xs (Codec.encAll r.args a) ->
   sp w xs H (fun v H'=>Dw (K w.params) H' v (r.ret.enc (Codec.app r.args r.f a))) fun _ _ _=>False)
  (hCX:∀ (w:World) (H:Hp) (s:Shared) (e:Value) (s':Shared),CX w [] H s (fun _ _ _=>False) e s'->False) :
  PySem.W.WalkOS q loose XP YP r d [] (fun f vs=>PySem.call f vs):=by
 intro w s_0 s₁ mg mb G Y fa o pm cd doc dV kV ho hd hcd hD hmg hg args vals as hpre hlay hrd hwl hlo
 obtain ⟨a,e1,e2⟩:=PySem.W.os_pre_some hpre
 obtain ⟨e3,hwi⟩:=Codec.encAll_of_decAll r.args args a e1
 subst e3
 have KX:=hY w _ Y
 obtain ⟨fd,hb,hF⟩:=F w mg fa _ Y KX G.T.g hmg
 refine PySem.W.enter_call (codeAny_mono (spec_call (R:=[]) (cl:=classAt s_0.heap) (d0:=r.ret.enc (Codec.app r.args r.f a)) KX G.T.g G.T.b G.T.builtins G.T.nolimit (G.T.seer himp) hg hwl (pl_encAll _ _) (layable_weight hlay) hr hF hb (by rw [encAll_len];exact hlen)
  (fun H xs hO hS=>hsp w H xs a hO hwi e2 hS) fun H e s'=>hCX w H s₁ e s') fun r' s' hq=>?_)
 obtain ⟨u,as',rfl,h1,h2,h3,h4⟩:=hq
 exact ⟨.inl ⟨u,_,as',rfl,fun _=>rfl,h1,(OpenSpec.post_iff hwell hwi _ _).mpr rfl,fun z=>Bool.noConfusion (show false=true from z)⟩,h2,h3,h4⟩
theorem walk_specK {r:OpenSpec}{k:Nat}{q:Program}{loose:List Str}{XP:(Str->Option Value)->Heap->Prop}{YP:World->Heap->Prop}{d:DefRec}{K:Params->PySem.W.Frag}{CX:CXT}{ps:List Str}{sp:PySem.W.Frag->Sp}
  (hwell:r.wellSaid=true) (himp:importsNone q=true) (hdf:d.params.defaults=[]) (hlen:r.args.length=ps.length) (hr:Room k callerA)
  (hY:∀ (w:World) (h:Heap),YP w h->(K w.params).In h)
  (F:∀ (w:World) (mg:Str->Option Value) (fa:Addr) (h:Heap),YP w h->(K w.params).In h->h.Ns mainGlobals mg->mg d.name=some (.ref fa) ->
   ∃ fd:FuncData,(∀ (s:Shared) (us:List Value),us.length=ps.length->BindsTo s fd ⟨us,[]⟩ (ps.zip us)) /\
    ∀ base:Heap,(K w.params).In base->base.Ns mainGlobals mg->base.NoSeer->FnOk r.prog w (K w.params) mg base CX k fa fd ps (sp (K w.params)))
  (hsp:∀ (K:PySem.W.Frag) (H:Hp) (xs:List V) (a:Codec.denoteAll r.args),OnlyF H->Codec.withinAll r.args a=true->Codec.app r.args r.asked a=true->DwAll K H xs (Codec.encAll r.args a) ->
   sp K xs H (fun v H'=>Dw K H' v (r.ret.enc (Codec.app r.args r.f a))) fun _ _ _=>False)
  (hCX:∀ (H:Hp) (s:Shared) (e:Value) (s':Shared),CX [] H s (fun _ _ _=>False) e s'->False) :
  PySem.W.WalkOS q loose XP YP r d [] (fun f vs=>PySem.call f vs) :=
 walk_spec (K:=K) (CX:=fun _=>CX) (sp:=fun w=>sp (K w.params)) hwell himp hdf hlen hr hY F (fun w H xs a h1 h2 h3 h4=>hsp (K w.params) H xs a h1 h2 h3 h4) fun _ H s e s'=>hCX H s e s'
end L2
end
namespace G
open Vbecap (cross push hull edges sorted put before whereIs)
abbrev P:=Int×Int
theorem lg (a b:Int):a < b\/b<=a:=by omega
theorem nn_of_mul {a b:Int}(h:0 < a)(k:0<=a*b):0<=b:=by
 rcases lg b 0 with q | q
 ·have:=Int.mul_neg_of_pos_of_neg h q;omega
 ·exact q
theorem pos_of_mul {a b:Int}(h:0 < a)(k:0 < a*b):0 < b:=by
 rcases lg 0 b with q | q
 ·exact q
 ·have:=Int.mul_nonneg (Int.le_of_lt h) (show 0<=-b by omega);grind
def cr (u v:P):Int:=u.1*v.2-u.2*v.1
def dt (u v:P):Int:=u.1*v.1+u.2*v.2
def sub (p q:P):P:=(p.1-q.1,p.2-q.2)
theorem cross_cr (a b c:P):cross a b c=cr (sub b a) (sub c a):=by unfold cross cr sub;rfl
def ps (s:Int)(u:P):Prop:=0 < s*u.1\/(u.1=0/\0 < s*u.2)
theorem ang1 {u v w:P}(U:ps 1 u)(V:ps 1 v)(W:ps 1 w)(h1:0<=cr u v)(h2:0<=cr v w):0<=cr u w/\(0 < cr u v->0 < cr u w)/\(0 < cr v w->0 < cr u w):=by
 obtain ⟨a,b⟩:=u
 obtain ⟨c,d⟩:=v
 obtain ⟨e,f⟩:=w
 simp only [ps,cr,Int.one_mul] at *
 have key:c*(a*f-b*e)=a*(c*f-d*e)+e*(a*d-b*c):=by grind
 have a0:0<=a:=by omega
 have e0:0<=e:=by omega
 have p1:=Int.mul_nonneg a0 h2
 have p2:=Int.mul_nonneg e0 h1
 rcases V with c0 | ⟨c0,d0⟩
 ·refine ⟨nn_of_mul c0 (by omega),fun q=>pos_of_mul c0 ?_,fun q=>pos_of_mul c0 ?_⟩
  ·rcases lg 0 e with ee | ee
   ·have:=Int.mul_pos ee q;omega
   ·obtain ⟨rfl,f0⟩:e=0/\0 < f:=by omega
    have a1:0 < a:=by
     rcases U with a1 | ⟨rfl,b0⟩
     ·exact a1
     ·have:=Int.mul_pos b0 c0;omega
    have:=Int.mul_pos a1 (Int.mul_pos c0 f0)
    grind
  ·rcases lg 0 a with ee | ee
   ·have:=Int.mul_pos ee q;omega
   ·obtain ⟨rfl,b0⟩:a=0/\0 < b:=by omega
    have:=Int.mul_pos b0 c0
    omega
 ·subst c0
  have:e=0:=by
   rcases lg 0 e with q | q
   ·have:=Int.mul_pos d0 q;omega
   ·omega
  subst this
  have f0:0 < f:=by omega
  have:=Int.mul_nonneg a0 (Int.le_of_lt f0)
  refine ⟨by omega,fun q=>?_,fun q=>by omega⟩
  have a1:0 < a:=by
   rcases lg 0 a with z | z
   ·exact z
   ·have:a=0:=by omega
    subst this;omega
  have:=Int.mul_pos a1 f0
  omega
def ng (u:P):P:=(-u.1,-u.2)
theorem ang {s:Int}(hs:s=1\/s = -1){u v w:P}(U:ps s u)(V:ps s v)(W:ps s w)(h1:0<=cr u v)(h2:0<=cr v w):0<=cr u w/\(0 < cr u v->0 < cr u w)/\(0 < cr v w->0 < cr u w):=by
 rcases hs with rfl | rfl
 ·exact ang1 U V W h1 h2
 ·have e:∀ x y:P,cr (ng x) (ng y)=cr x y:=fun x y=>by simp only [cr,ng];grind
  have f:∀ x:P,ps (-1) x->ps 1 (ng x):=fun x h=>by simp only [ps,ng] at *;omega
  have:=ang1 (f u U) (f v V) (f w W) (by rw [e];exact h1) (by rw [e];exact h2)
  rw [e,e,e] at this
  exact this
def fw (s:Int)(p q:P):Prop:=ps s (sub q p)
theorem tri {s:Int}(hs:s=1\/s = -1)(p q:P):p=q\/fw s p q\/fw s q p:=by
 obtain ⟨a,b⟩:=p
 obtain ⟨c,d⟩:=q
 simp only [fw,ps,sub,Prod.mk.injEq]
 rcases hs with rfl | rfl<;>omega
theorem fw_trans {s:Int}(hs:s=1\/s = -1){p q r:P}(h:fw s p q)(k:fw s q r):fw s p r:=by
 simp only [fw,ps,sub] at *
 rcases hs with rfl | rfl<;>omega
theorem fw_irr {s:Int}{p:P}(h:fw s p p):False:=by
 simp only [fw,ps,sub] at h
 have e:s*(p.1-p.1)=0:=by grind
 have f:s*(p.2-p.2)=0:=by grind
 omega
def cvx:List P->Prop
 | c::b::a::r=>0 < cross a b c/\cvx (b::a::r)
 | _=>True
def desc (s:Int):List P->Prop
 | b::a::r=>fw s a b/\desc s (a::r)
 | _=>True
def OnL (s:Int)(a b q:P):Prop:=0 < cross a b q\/(cross a b q=0/\(q=a\/fw s a q)/\(q=b\/fw s q b))
theorem OnL.nn {s:Int}{a b q:P}(h:OnL s a b q):0<=cross a b q:=by
 rcases h with h | h
 ·omega
 ·omega
def lft (s:Int)(q:P):List P->Prop
 | b::a::r=>OnL s a b q/\lft s q (a::r)
 | _=>True
theorem lft.tail {s:Int}{q b:P}:∀ {m:List P},lft s q (b::m)->lft s q m
 | [],_=>True.intro
 | _::_,h=>h.2
theorem cvx.tail {b:P}:∀ {m:List P},cvx (b::m)->cvx m
 | [],_=>True.intro
 | [_],_=>True.intro
 | _::_::_,h=>h.2
theorem desc.tail {s:Int}{b:P}:∀ {m:List P},desc s (b::m)->desc s m
 | [],_=>True.intro
 | _::_,h=>h.2
theorem i1 (a b c:P):cr (sub a c) (sub b a)=cross c a b:=by unfold cross cr sub;grind
theorem i2 (a b p:P):cr (sub b a) (sub p a)=cross a b p:=by unfold cross cr sub;grind
theorem i3 (a b q:P):cr (sub b q) (sub b a)=cross a b q:=by unfold cross cr sub;grind
theorem i4 (a b p:P):cr (sub p a) (sub b a) = - cross a b p:=by unfold cross cr sub;grind
theorem i5 (b p q:P):cr (sub b q) (sub p b)=cross b p q:=by unfold cross cr sub;grind
theorem i6 (b p:P):cross b p b=0:=by unfold cross;grind
theorem i7 (b p:P):cross b p p=0:=by unfold cross;grind
theorem cr_anti (u v:P):cr u v = - cr v u:=by unfold cr;grind
theorem lft_new {s:Int}(hs:s=1\/s = -1){p:P}:∀ {r:List P} {a b:P},desc s (b::a::r)->cvx (b::a::r)->fw s b p->0 < cross a b p->lft s p (b::a::r)
 | [],a,b,_,_,_,h=>⟨.inl h,True.intro⟩
 | c::r,a,b,hd,hc,hb,h=>by
  refine ⟨.inl h,?_⟩
  have fab:fw s a b:=hd.1
  have fca:fw s c a:=hd.2.1
  have fap:fw s a p:=fw_trans hs fab hb
  refine lft_new hs hd.tail hc.tail fap ?_
  have h1:0 < cross c a b:=hc.1
  have e1:=i1 a b c
  have e2:=i2 a b p
  have e3:=i1 a p c
  have:=(ang hs (u:=sub a c) (v:=sub b a) (w:=sub p a) fca fab fap (by omega) (by omega)).2.1 (by omega)
  omega
structure CInv (s:Int)(dn m:List P):Prop where
 mem:∀ x∈m,x∈dn
 ds:desc s m
 cv:cvx m
 lf:∀ q∈dn,lft s q m
 ne:m=[]->dn=[]
 bot:∀ b,m.getLast?=some b->∀ q∈dn,q=b\/fw s b q
def Top (s:Int)(dn m:List P):Prop:=∀ a r,m=a::r->∀ q∈dn,¬ fw s a q
theorem push_ok {s:Int}(hs:s=1\/s = -1){p:P}{dn:List P}(hp:∀ q∈dn,fw s q p):∀ {m:List P},CInv s dn m->(∀ a r,m=a::r->∀ q∈dn,fw s a q->0<=cross a p q) ->
  CInv s (dn++[p]) (push p m)/\∃ r,push p m=p::r
 | [],I,_=>by
  refine ⟨?_,[],rfl⟩
  show CInv s (dn++[p]) [p]
  have:=I.ne rfl
  subst this
  refine ⟨by simp,True.intro,True.intro,fun _ _=>True.intro,(fun h=>by cases h),fun b hb q hq=>?_⟩
  have:p=b:=by simpa using hb
  subst this
  exact .inl (by simpa using hq)
 | [b],I,hC=>by
  refine ⟨?_,[b],rfl⟩
  show CInv s (dn++[p]) [p,b]
  have hb:=I.bot b rfl
  have mb:=I.mem b (by simp)
  refine ⟨by intro x hx;simp at hx ⊢;rcases hx with rfl | rfl;exact .inr rfl;exact .inl mb,⟨hp b mb,True.intro⟩,True.intro,fun q hq=>⟨?_,True.intro⟩,(fun h=>by cases h),fun b' hb' q hq=>?_⟩
  ·rcases List.mem_append.mp hq with hq | hq
   ·rcases hb q hq with rfl | f
    ·exact .inr ⟨i6 _ _,.inl rfl,.inr (hp _ hq)⟩
    ·have:=hC b [] rfl q hq f
     rcases lg 0 (cross b p q) with z | z
     ·exact .inl z
     ·exact .inr ⟨by omega,.inr f,.inr (hp q hq)⟩
   ·have:q=p:=by simpa using hq
    subst this
    exact .inr ⟨i7 _ _,.inr (hp b mb),.inl rfl⟩
  ·have:b=b':=by simpa using hb'
   subst this
   rcases List.mem_append.mp hq with hq | hq
   ·exact hb q hq
   ·have:q=p:=by simpa using hq
    subst this
    exact .inr (hp b mb)
 | b::a::r,I,hC=>by
  have mb:=I.mem b (by simp)
  have ma:=I.mem a (by simp)
  have fab:fw s a b:=I.ds.1
  have fbp:=hp b mb
  have fap:=hp a ma
  show CInv s (dn++[p]) (if cross a b p<=0 then push p (a::r) else p::b::a::r)/\∃ r',(if cross a b p<=0 then push p (a::r) else p::b::a::r)=p::r'
  by_cases hc:cross a b p<=0
  ·rw [if_pos hc]
   refine push_ok hs hp (m:=a::r) ⟨fun x hx=>I.mem x (List.mem_cons_of_mem _ hx),I.ds.tail,I.cv.tail,fun q hq=>(I.lf q hq).tail,(fun h=>by cases h),fun b' hb'=>I.bot b' (by rw [List.getLast?_cons_cons];exact hb')⟩ fun a' r' e q hq f=>?_
   obtain ⟨rfl,rfl⟩:=List.cons.inj e
   have h1:=(I.lf q hq).1.nn
   have e1:=i4 a b p
   have e2:=i2 a b q
   have e3:=i2 a p q
   have:=(ang hs (u:=sub p a) (v:=sub b a) (w:=sub q a) fap fab f (by omega) (by omega)).1
   omega
  ·rw [if_neg hc]
   refine ⟨⟨?_,⟨fbp,I.ds⟩,⟨by omega,I.cv⟩,fun q hq=>?_,(fun h=>by cases h),fun b' hb' q hq=>?_⟩,_,rfl⟩
   ·intro x hx
    rcases List.mem_cons.mp hx with rfl | hx
    ·simp
    ·exact List.mem_append_left _ (I.mem x hx)
   ·rcases List.mem_append.mp hq with hq | hq
    ·refine ⟨?_,I.lf q hq⟩
     rcases tri hs q b with rfl | f | f
     ·exact .inr ⟨i6 _ _,.inl rfl,.inr fbp⟩
     ·have h1:=(I.lf q hq).1.nn
      have e1:=i3 a b q
      have e2:=i1 b p a
      have e3:=i5 b p q
      have:=(ang hs (u:=sub b q) (v:=sub b a) (w:=sub p b) f fab fbp (by omega) (by omega)).2.2 (by omega)
      exact .inl (by omega)
     ·have:=hC b _ rfl q hq f
      rcases lg 0 (cross b p q) with z | z
      ·exact .inl z
      ·exact .inr ⟨by omega,.inr f,.inr (hp q hq)⟩
    ·have:q=p:=by simpa using hq
     subst this
     refine ⟨.inr ⟨i7 _ _,.inr fbp,.inl rfl⟩,?_⟩
     exact lft_new hs I.ds I.cv fbp (by omega)
   ·rw [List.getLast?_cons_cons] at hb'
    rcases List.mem_append.mp hq with hq | hq
    ·exact I.bot b' hb' q hq
    ·have:q=p:=by simpa using hq
     subst this
     exact .inr (hp b' (I.mem b' (List.mem_of_getLast? hb')))
 termination_by m=>m.length
theorem sat_pairwise_append {α:Type}{R:α->α->Prop}{l:List α}{x:α}{r:List α}(h:(l++x::r).Pairwise R):∀ q∈l,R q x:=fun q hq=>(List.pairwise_append.mp h).2.2 q hq x (by simp)
theorem chain_ok {s:Int}(hs:s=1\/s = -1):∀ (r dn m:List P),(dn++r).Pairwise (fw s)->CInv s dn m->Top s dn m->CInv s (dn++r) (r.foldl (fun m p=>push p m) m)/\Top s (dn++r) (r.foldl (fun m p=>push p m) m)
 | [],dn,m,_,I,T=>by simpa using ⟨I,T⟩
 | p::r,dn,m,h,I,T=>by
  have hp:=sat_pairwise_append h
  obtain ⟨I1,r1,e1⟩:=push_ok hs hp I fun a r' e q hq f=>absurd f (T a r' e q hq)
  have e:dn++p::r=(dn++[p])++r:=by simp
  rw [e] at h ⊢
  refine chain_ok hs r (dn++[p]) (push p m) h I1 fun a r' e q hq f=>?_
  rw [e1] at e
  obtain ⟨rfl,rfl⟩:=List.cons.inj e
  rcases List.mem_append.mp hq with hq | hq
  ·exact fw_irr (fw_trans hs f (hp q hq))
  ·have:q=p:=by simpa using hq
   subst this
   exact fw_irr f
def chain (l:List P):List P:=l.foldl (fun m p=>push p m) []
theorem chain_inv {s:Int}(hs:s=1\/s = -1){l:List P}(h:l.Pairwise (fw s)):CInv s l (chain l)/\Top s l (chain l):=by
 have:=chain_ok hs l [] [] (by simpa using h) ⟨by simp,True.intro,True.intro,by simp,fun _=>rfl,by simp⟩ (fun a r e=>by cases e)
 simpa [chain] using this
def consec:List P->List (P×P)
 | a::b::r=>(a,b)::consec (b::r)
 | _=>[]
theorem consec_append:∀ (x y:List P) (z:P),consec (x++z::y)=consec (x++[z])++consec (z::y)
 | [],y,z=>rfl
 | [a],y,z=>by simp [consec]
 | a::b::x,y,z=>by
  have:=consec_append (b::x) y z
  simp only [List.cons_append,consec] at this ⊢
  rw [this]
theorem consec_zip:∀ (l:List P),consec l=l.zip l.tail
 | []=>rfl
 | [a]=>rfl
 | a::b::r=>by
  have:=consec_zip (b::r)
  simp only [consec,this,List.tail_cons,List.zip_cons_cons]
theorem zip_more:∀ (x y:List P) (z:P),y.length<=x.length->(x++[z]).zip y=x.zip y
 | x,[],z,_=>by simp
 | [],y::ys,z,h=>by simp at h
 | a::x,b::y,z,h=>by
  simp only [List.cons_append,List.zip_cons_cons]
  rw [zip_more x y z (by simpa using h)]
theorem edges_consec (a:P)(t:List P):edges (a::t)=consec (a::t++[a]):=by
 rw [consec_zip]
 show (a::t).zip (t++[a])=(a::t++[a]).zip (t++[a])
 rw [zip_more]
 simp
theorem mem_consec_rev {s:Int}{q:P}:∀ {m:List P},lft s q m->∀ e∈consec m.reverse,OnL s e.1 e.2 q
 | [],_,e,he=>by simp [consec] at he
 | [b],_,e,he=>by simp [consec] at he
 | b::a::r,h,e,he=>by
  have e1:(b::a::r).reverse=r.reverse++a::[b]:=by simp
  have e2:(a::r).reverse=r.reverse++[a]:=by simp
  rw [e1,consec_append] at he
  rcases List.mem_append.mp he with he | he
  ·rw [<- e2] at he
   exact mem_consec_rev h.2 e he
  ·have:e=(a,b):=by simpa [consec] using he
   subst this
   exact h.1
theorem mem_consec:∀ {l:List P} {e:P×P},e∈consec l->e.1∈l/\e.2∈l
 | [],e,h=>by simp [consec] at h
 | [_],e,h=>by simp [consec] at h
 | a::b::r,e,h=>by
  rcases List.mem_cons.mp h with rfl | h
  ·simp
  ·have:=mem_consec h
   exact ⟨List.mem_cons_of_mem _ this.1,List.mem_cons_of_mem _ this.2⟩
theorem consec_fw {s:Int}:∀ {m:List P},desc s m->∀ e∈consec m.reverse,fw s e.1 e.2
 | [],_,e,he=>by simp [consec] at he
 | [b],_,e,he=>by simp [consec] at he
 | b::a::r,h,e,he=>by
  have e1:(b::a::r).reverse=r.reverse++a::[b]:=by simp
  have e2:(a::r).reverse=r.reverse++[a]:=by simp
  rw [e1,consec_append] at he
  rcases List.mem_append.mp he with he | he
  ·rw [<- e2] at he
   exact consec_fw h.2 e he
  ·have:e=(a,b):=by simpa [consec] using he
   subst this
   exact h.1
theorem before_fw (p q:P):before p q=true↔fw 1 p q:=by
 simp only [before,fw,ps,sub,Bool.or_eq_true,Bool.and_eq_true,decide_eq_true_eq,beq_iff_eq]
 omega
theorem mem_put {p x:P}:∀ {l:List P},x∈put p l↔x=p\/x∈l
 | []=>by simp [put]
 | q::l=>by
  unfold put
  by_cases h:p=q
  ·subst h
   rw [if_pos rfl]
   simp
  ·rw [if_neg h]
   by_cases b:before p q=true
   ·rw [if_pos b];simp
   ·rw [if_neg b]
    simp only [List.mem_cons,mem_put (l:=l)]
    grind
theorem put_sorted {p:P}:∀ {l:List P},l.Pairwise (fw 1)->(put p l).Pairwise (fw 1)
 | [],_=>by simp [put]
 | q::l,h=>by
  unfold put
  by_cases e:p=q
  ·rw [if_pos e];exact h
  ·rw [if_neg e]
   have h':=List.pairwise_cons.mp h
   by_cases b:before p q=true
   ·rw [if_pos b]
    have f:=(before_fw p q).mp b
    refine List.pairwise_cons.mpr ⟨fun x hx=>?_,h⟩
    rcases List.mem_cons.mp hx with rfl | hx
    ·exact f
    ·exact fw_trans (.inl rfl) f (h'.1 x hx)
   ·rw [if_neg b]
    refine List.pairwise_cons.mpr ⟨fun x hx=>?_,put_sorted h'.2⟩
    rcases mem_put.mp hx with rfl | hx
    ·rcases tri (.inl rfl) x q with z | z | z
     ·exact absurd z e
     ·exact absurd ((before_fw _ _).mpr z) b
     ·exact z
    ·exact h'.1 x hx
theorem sorted_aux:∀ (l m:List P),m.Pairwise (fw 1)->(l.foldl (fun m p=>put p m) m).Pairwise (fw 1)/\∀ x,x∈l.foldl (fun m p=>put p m) m↔x∈m\/x∈l
 | [],m,h=>⟨h,by simp⟩
 | p::l,m,h=>by
  have:=sorted_aux l (put p m) (put_sorted h)
  refine ⟨this.1,fun x=>?_⟩
  show x∈l.foldl (fun m p=>put p m) (put p m)↔_
  rw [this.2 x,mem_put]
  simp only [List.mem_cons]
  grind
theorem sorted_pw (l:List P):(sorted l).Pairwise (fw 1):=(sorted_aux l [] List.Pairwise.nil).1
theorem mem_sorted {l:List P}{x:P}:x∈sorted l↔x∈l:=by
 have:=(sorted_aux l [] List.Pairwise.nil).2 x
 simpa [sorted] using this
theorem pw_ext:∀ {l m:List P},l.Pairwise (fw 1)->m.Pairwise (fw 1)->(∀ x,x∈l↔x∈m)->l=m
 | [],[],_,_,_=>rfl
 | [],b::m,_,_,h=>by have:=(h b).mpr (by simp);simp at this
 | a::l,[],_,_,h=>by have:=(h a).mp (by simp);simp at this
 | a::l,b::m,h1,h2,h=>by
  have h1':=List.pairwise_cons.mp h1
  have h2':=List.pairwise_cons.mp h2
  have e:a=b:=by
   have x1:=(h a).mp (by simp)
   have x2:=(h b).mpr (by simp)
   rcases List.mem_cons.mp x1 with z | z
   ·exact z
   ·rcases List.mem_cons.mp x2 with w | w
    ·exact w.symm
    ·exact (fw_irr (fw_trans (.inl rfl) (h1'.1 b w) (h2'.1 a z))).elim
  subst e
  congr 1
  refine pw_ext h1'.2 h2'.2 fun x=>⟨fun hx=>?_,fun hx=>?_⟩
  ·rcases List.mem_cons.mp ((h x).mp (List.mem_cons_of_mem _ hx)) with rfl | z
   ·exact (fw_irr (h1'.1 x hx)).elim
   ·exact z
  ·rcases List.mem_cons.mp ((h x).mpr (List.mem_cons_of_mem _ hx)) with rfl | z
   ·exact (fw_irr (h2'.1 x hx)).elim
   ·exact z
def along (a b c:P):Int:=(b.1-a.1)*(c.1-a.1)+(b.2-a.2)*(c.2-a.2)
def OnE (e:P×P)(s:P):Prop:=0 < cross e.1 e.2 s\/(cross e.1 e.2 s=0/\0<=along e.1 e.2 s/\along e.1 e.2 s<=along e.1 e.2 e.2)
theorem OnE.nn {e:P×P}{s:P}(h:OnE e s):0<=cross e.1 e.2 s:=by
 rcases h with h | h
 ·omega
 ·omega
theorem sq_nn (a:Int):0<=a*a:=by
 rcases lg a 0 with h | h
 ·have:=Int.mul_pos_of_neg_of_neg h h;omega
 ·exact Int.mul_nonneg h h
theorem sq_p {a:Int}(h:a≠0):0 < a*a:=by
 rcases lg a 0 with q | q
 ·exact Int.mul_pos_of_neg_of_neg q q
 ·exact Int.mul_pos (by omega) (by omega)
theorem sq2_pos {a b:Int}(h:a≠0\/b≠0):0 < a*a+b*b:=by
 have h1:=sq_nn a
 have h2:=sq_nn b
 rcases h with h | h
 ·have:=sq_p h;omega
 ·have:=sq_p h;omega
theorem dt_pos1 {u v:P}(U:ps 1 u)(V:ps 1 v)(h:cr u v=0):0 < dt u v:=by
 obtain ⟨a,b⟩:=u
 obtain ⟨c,d⟩:=v
 simp only [ps,cr,dt,Int.one_mul] at *
 rcases U with U | ⟨rfl,U⟩
 ·rcases V with V | ⟨rfl,V⟩
  ·refine pos_of_mul U ?_
   have q:=Int.mul_pos V (sq2_pos (a:=a) (b:=b) (.inl (by omega)))
   have key:a*(a*c+b*d)=c*(a*a+b*b)+b*(a*d-b*c):=by clear q h;grind
   rw [key,h]
   simpa using q
  ·have:=Int.mul_pos U V
   grind
 ·rcases V with V | ⟨rfl,V⟩
  ·have:=Int.mul_pos U V
   grind
  ·have:=Int.mul_pos U V
   grind
theorem dt_pos {s:Int}(hs:s=1\/s = -1){u v:P}(U:ps s u)(V:ps s v)(h:cr u v=0):0 < dt u v:=by
 rcases hs with rfl | rfl
 ·exact dt_pos1 U V h
 ·have e:∀ x y:P,cr (ng x) (ng y)=cr x y:=fun x y=>by simp only [cr,ng];grind
  have g:∀ x y:P,dt (ng x) (ng y)=dt x y:=fun x y=>by simp only [dt,ng];grind
  have f:∀ x:P,ps (-1) x->ps 1 (ng x):=fun x h=>by simp only [ps,ng] at *;omega
  have:=dt_pos1 (f u U) (f v V) (by rw [e];exact h)
  rw [g] at this
  exact this
theorem i8 (a b q:P):dt (sub b a) (sub q a)=along a b q:=by unfold along dt sub;grind
theorem i9 (a b q:P):dt (sub b a) (sub b q)=along a b b-along a b q:=by unfold along dt sub;grind
theorem i10 (a b q:P):cr (sub b a) (sub b q) = - cross a b q:=by unfold cross cr sub;grind
theorem i11 (a b:P):along a b a=0:=by unfold along;grind
theorem OnL.onE {s:Int}(hs:s=1\/s = -1){a b q:P}(f:fw s a b)(h:OnL s a b q):OnE (a,b) q:=by
 rcases h with h | ⟨h,h1,h2⟩
 ·exact .inl h
 ·refine .inr ⟨h,?_,?_⟩
  ·rcases h1 with rfl | h1
   ·show 0<=along q b q;rw [i11];exact Int.le_refl _
   ·have:=dt_pos hs f h1 (by rw [i2];exact h)
    rw [i8] at this
    show 0<=along a b q
    omega
  ·rcases h2 with rfl | h2
   ·exact Int.le_refl _
   ·have:=dt_pos hs f h2 (by rw [i10];omega)
    rw [i9] at this
    show along a b q<=along a b b
    omega
structure HF (S h:List P):Prop where
 ne:h≠[]
 sub:∀ x∈h,x∈S
 em:∀ e∈edges h,e.1∈h/\e.2∈h
 succ:∀ x∈h,∃ y,(x,y)∈edges h
 pred:∀ y∈h,∃ x,(x,y)∈edges h
 neq:2<=h.length->∀ e∈edges h,e.1≠e.2
 left:∀ e∈edges h,∀ s∈S,OnE e s
 wide:3<=h.length->∃ e∈edges h,∃ s∈S,0 < cross e.1 e.2 s
 one:h.length=1->∀ s∈S,∀ a∈h,s=a
theorem succ_ex:∀ {l:List P} {x b:P},x∈l->∃ y,(x,y)∈consec (l++[b])
 | [a],x,b,h=>by
  have:x=a:=by simpa using h
  subst this
  exact ⟨b,by simp [consec]⟩
 | a::c::l,x,b,h=>by
  rcases List.mem_cons.mp h with rfl | h
  ·exact ⟨c,by simp [consec]⟩
  ·obtain ⟨y,hy⟩:=succ_ex (b:=b) h
   exact ⟨y,by simp only [List.cons_append,consec];exact List.mem_cons_of_mem _ hy⟩
theorem pred_ex:∀ {l:List P} {y a:P},y∈l->∃ x,(x,y)∈consec (a::l)
 | b::l,y,a,h=>by
  rcases List.mem_cons.mp h with rfl | h
  ·exact ⟨a,by simp [consec]⟩
  ·obtain ⟨x,hx⟩:=pred_ex (a:=b) h
   exact ⟨x,by simp only [consec];exact List.mem_cons_of_mem _ hx⟩
theorem succ_edge {h:List P}{x:P}(hx:x∈h):∃ y,(x,y)∈edges h:=by
 cases h with
 | nil=>simp at hx
 | cons a t=>rw [edges_consec];exact succ_ex hx
theorem pred_edge {h:List P}{x:P}(hx:x∈h):∃ y,(y,x)∈edges h:=by
 cases h with
 | nil=>simp at hx
 | cons a t =>
  rw [edges_consec]
  have:x∈t++[a]:=by simp at hx ⊢;grind
  exact pred_ex this
theorem edge_mem {h:List P}{e:P×P}(he:e∈edges h):e.1∈h/\e.2∈h:=by
 cases h with
 | nil=>simp [edges] at he
 | cons a t =>
  rw [edges_consec] at he
  have:=mem_consec he
  simp at this ⊢
  grind
theorem fw_neg {p q:P}:fw (-1) p q↔fw 1 q p:=by
 simp only [fw,ps,G.sub];omega
theorem getLast_rev {l:List P}{x:P}(h:l.getLast?=some x):∃ r,l.reverse=x::r:=by
 rw [List.getLast?_eq_some_iff] at h
 obtain ⟨r,rfl⟩:=h
 exact ⟨r.reverse,by simp⟩
theorem chains {s:List P}(hw:s.Pairwise (fw 1))(h2:2<=s.length) :
  ∃ a z L U,a≠z/\(chain s).reverse=a::L++[z]/\(chain s.reverse).reverse=z::U++[a]:=by
 have I1:=chain_inv (.inl rfl) hw
 have hw':s.reverse.Pairwise (fw (-1)):=by
  rw [List.pairwise_reverse]
  exact hw.imp fun h=>fw_neg.mpr h
 have I2:=chain_inv (.inr rfl) hw'
 obtain ⟨I1,T1⟩:=I1
 obtain ⟨I2,T2⟩:=I2
 cases e1:chain s with
 | nil=>have:=I1.ne e1;subst this;simp at h2
 | cons z r1 =>
  cases e2:chain s.reverse with
  | nil=>have:=I2.ne e2;simp at this;subst this;simp at h2
  | cons a r2 =>
   rw [e1] at I1 T1
   rw [e2] at I2 T2
   have mz:=I1.mem z (by simp)
   have ma:a∈s:=by simpa using I2.mem a (by simp)
   obtain ⟨b,hb⟩:∃ b,(z::r1).getLast?=some b:=⟨_,List.getLast?_eq_some_getLast (by simp)⟩
   obtain ⟨b',hb'⟩:∃ b',(a::r2).getLast?=some b':=⟨_,List.getLast?_eq_some_getLast (by simp)⟩
   have mb:=I1.mem b (List.mem_of_getLast? hb)
   have mb':b'∈s:=by simpa using I2.mem b' (List.mem_of_getLast? hb')
   have B1:=I1.bot b hb
   have B2:=I2.bot b' hb'
   have Z:=T1 z r1 rfl
   have A:=T2 a r2 rfl
   have ea:b=a:=by
    rcases B1 a ma with q | q
    ·exact q.symm
    ·exact absurd (fw_neg.mpr q) (A b (by simpa using mb))
   have ez:b'=z:=by
    rcases B2 z (by simpa using mz) with q | q
    ·exact q.symm
    ·exact absurd (fw_neg.mp q) (Z b' mb')
   subst ea ez
   have ne:b≠b':=by
    intro q
    subst q
    have all:∀ x∈s,x=b:=fun x hx=>by
     rcases B1 x hx with q | q
     ·exact q
     ·exact absurd q (Z x hx)
    match s,h2,hw with
    | x::y::s,_,hw =>
     have e1:=all x (by simp)
     have e2:=all y (by simp)
     have:=(List.pairwise_cons.mp hw).1 y (by simp)
     rw [e1,e2] at this
     exact fw_irr this
   obtain ⟨L,hL⟩:=getLast_rev hb
   obtain ⟨U,hU⟩:=getLast_rev hb'
   refine ⟨b,b',?_⟩
   have hL':(b'::r1).reverse=r1.reverse++[b']:=by simp
   have hU':(b::r2).reverse=r2.reverse++[b]:=by simp
   rw [hL'] at hL
   rw [hU'] at hU
   cases q1:r1.reverse with
   | nil=>rw [q1] at hL;simp at hL;exact absurd hL.1.symm ne
   | cons x1 L1 =>
    cases q2:r2.reverse with
    | nil=>rw [q2] at hU;simp at hU;exact absurd hU.1 ne
    | cons x2 U1 =>
     rw [q1] at hL
     rw [q2] at hU
     simp at hL hU
     refine ⟨L1,U1,ne,?_,?_⟩
     ·rw [hL',q1,hL.1]
     ·rw [hU',q2,hU.1]
theorem hull_edges {s:List P}{a z:P}{L U:List P}(h1:(chain s).reverse=a::L++[z])(h2:(chain s.reverse).reverse=z::U++[a]) :
  edges ((chain s).reverse.dropLast++(chain s.reverse).reverse.dropLast)=consec (chain s).reverse++consec (chain s.reverse).reverse:=by
 have e1:(chain s).reverse.dropLast=a::L:=by rw [h1];exact List.dropLast_concat ..
 have e2:(chain s.reverse).reverse.dropLast=z::U:=by rw [h2];exact List.dropLast_concat ..
 rw [e1,e2,List.cons_append,edges_consec,h1,h2]
 have:=consec_append (a::L) (U++[a]) z
 rw [show a::(L++z::U)++[a]=(a::L)++z::(U++[a]) by simp,this]
 rfl
theorem cvx_wide {s:Int}{S:List P}{m:List P}(I:CInv s S m)(h:3<=m.length):∃ e∈consec m.reverse,∃ q∈S,0 < cross e.1 e.2 q:=by
 match m,h,I with
 | c::b::a::r,_,I =>
  refine ⟨(a,b),?_,c,I.mem c (by simp),I.cv.1⟩
  have e1:(c::b::a::r).reverse=r.reverse++a::[b,c]:=by simp
  rw [e1,consec_append]
  simp [consec]
theorem hull_hf {S:List P}(hS:S≠[]):HF S (hull S):=by
 have hw:=sorted_pw S
 have hm:=@mem_sorted S
 unfold hull
 dsimp only
 by_cases hl:(sorted S).length<=1
 ·rw [if_pos hl]
  match e:sorted S,hl with
  | [],_ =>
   cases S with
   | nil=>exact absurd rfl hS
   | cons x S=>have:=(hm (x:=x)).mpr (by simp);rw [e] at this;simp at this
  | [a],_ =>
   have all:∀ s∈S,s=a:=fun s hs=>by
    have:=hm.mpr hs
    rw [e] at this
    simpa using this
   have ma:a∈S:=hm.mp (by rw [e];simp)
   have ed:edges [a]=[(a,a)]:=rfl
   refine ⟨by simp,fun x hx=>by simp at hx;subst hx;exact ma,fun e he=>edge_mem he,fun x hx=>succ_edge hx,fun x hx=>pred_edge hx,fun h=>by simp at h,fun e he s hs=>?_,fun h=>by simp at h,fun _ s hs b hb=>?_⟩
   ·rw [ed] at he
    have:e=(a,a):=by simpa using he
    subst this
    have:=all s hs
    subst this
    exact .inr ⟨i7 _ _,by show 0<=along s s s;rw [i11];exact Int.le_refl _,Int.le_refl _⟩
   ·have:b=a:=by simpa using hb
    rw [this]
    exact all s hs
  | _::_::_,h=>simp at h
 ·rw [if_neg hl]
  have h2:2<=(sorted S).length:=by omega
  obtain ⟨a,z,L,U,naz,h1,h3⟩:=chains hw h2
  have hw':(sorted S).reverse.Pairwise (fw (-1)):=by
   rw [List.pairwise_reverse]
   exact hw.imp fun h=>fw_neg.mpr h
  obtain ⟨I1,_⟩:=chain_inv (.inl rfl) hw
  obtain ⟨I2,_⟩:=chain_inv (.inr rfl) hw'
  have ed:=hull_edges h1 h3
  show HF S ((chain (sorted S)).reverse.dropLast++(chain (sorted S).reverse).reverse.dropLast)
  have e1:(chain (sorted S)).reverse.dropLast=a::L:=by rw [h1];exact List.dropLast_concat ..
  have e2:(chain (sorted S).reverse).reverse.dropLast=z::U:=by rw [h3];exact List.dropLast_concat ..
  have sub1:∀ x∈(chain (sorted S)).reverse,x∈S:=fun x hx=>hm.mp (I1.mem x (by simpa using hx))
  have sub2:∀ x∈(chain (sorted S).reverse).reverse,x∈S:=fun x hx=>hm.mp (by simpa using I2.mem x (by simpa using hx))
  have fwd:∀ e∈consec (chain (sorted S)).reverse++consec (chain (sorted S).reverse).reverse,∃ s,(s=1\/s = -1)/\fw s e.1 e.2/\∀ q∈S,OnL s e.1 e.2 q:=fun e he=>by
   rcases List.mem_append.mp he with he | he
   ·exact ⟨1,.inl rfl,consec_fw I1.ds e he,fun q hq=>mem_consec_rev (I1.lf q (hm.mpr hq)) e he⟩
   ·exact ⟨-1,.inr rfl,consec_fw I2.ds e he,fun q hq=>mem_consec_rev (I2.lf q (by simpa using hm.mpr hq)) e he⟩
  refine ⟨by rw [e1];simp,fun x hx=>?_,fun e he=>edge_mem he,fun x hx=>succ_edge hx,fun x hx=>pred_edge hx,fun _ e he=>?_,fun e he s hs=>?_,fun h=>?_,fun h=>?_⟩
  ·rcases List.mem_append.mp hx with hx | hx
   ·exact sub1 x (List.dropLast_subset _ hx)
   ·exact sub2 x (List.dropLast_subset _ hx)
  ·rw [ed] at he
   obtain ⟨s,hs,f,_⟩:=fwd e he
   intro q
   rw [q] at f
   exact fw_irr f
  ·rw [ed] at he
   obtain ⟨t,ht,f,o⟩:=fwd e he
   exact (o s hs).onE ht f
  ·rw [ed]
   have l1:(chain (sorted S)).length=L.length+2:=by rw [<- List.length_reverse,h1];simp
   have l2:(chain (sorted S).reverse).length=U.length+2:=by rw [<- List.length_reverse,h3];simp
   rw [e1,e2] at h
   simp at h
   by_cases q:3<=(chain (sorted S)).length
   ·obtain ⟨e,he,s,hs,k⟩:=cvx_wide I1 q
    exact ⟨e,List.mem_append_left _ he,s,hm.mp hs,k⟩
   ·obtain ⟨e,he,s,hs,k⟩:=cvx_wide I2 (by omega)
    exact ⟨e,List.mem_append_right _ he,s,hm.mp (by simpa using hs),k⟩
  ·rw [e1,e2] at h
   simp at h
abbrev R2:=Rat×Rat
def cx (a b c:R2):Rat:=(b.1-a.1)*(c.2-a.2)-(b.2-a.2)*(c.1-a.1)
def al (a b c:R2):Rat:=(b.1-a.1)*(c.1-a.1)+(b.2-a.2)*(c.2-a.2)
def ca (p:P):R2:=((p.1:Rat),(p.2:Rat))
def mix (t:Rat)(x y:R2):R2:=(x.1+t*(y.1-x.1),x.2+t*(y.2-x.2))
theorem cx_ca (a b c:P):cx (ca a) (ca b) (ca c)=((cross a b c:Int):Rat):=by
 simp only [cx,ca,cross,Rat.intCast_sub,Rat.intCast_mul]
theorem al_ca (a b c:P):al (ca a) (ca b) (ca c)=((along a b c:Int):Rat):=by
 simp only [al,ca,along,Rat.intCast_sub,Rat.intCast_mul,Rat.intCast_add]
theorem cx_mix (a b x y:R2)(t:Rat):cx a b (mix t x y)=(1-t)*cx a b x+t*cx a b y:=by
 simp only [cx,mix];grind
theorem al_mix (a b x y:R2)(t:Rat):al a b (mix t x y)=(1-t)*al a b x+t*al a b y:=by
 simp only [al,mix];grind
theorem ca_pos {a:Int}:0 < (a:Rat)↔0 < a:=by
 rw [show (0:Rat)=((0:Int):Rat) from rfl,Rat.intCast_lt_intCast]
theorem ca_nn {a:Int}:0<=(a:Rat)↔0<=a:=by
 rw [show (0:Rat)=((0:Int):Rat) from rfl,Rat.intCast_le_intCast]
theorem ca_zero {a:Int}:(a:Rat)=0↔a=0:=by
 rw [show (0:Rat)=((0:Int):Rat) from rfl,Rat.intCast_inj]
theorem ca_neg {a:Int}:(a:Rat) < 0↔a < 0:=by
 rw [show (0:Rat)=((0:Int):Rat) from rfl,Rat.intCast_lt_intCast]
theorem ca_le {a b:Int}:(a:Rat)<=b↔a<=b:=Rat.intCast_le_intCast
theorem ca_inj {p q:P}(h:ca p=ca q):p=q:=by
 simp only [ca,Prod.mk.injEq,Rat.intCast_inj] at h
 exact Prod.ext h.1 h.2
def On (e:P×P)(x:R2):Prop:=0 < cx (ca e.1) (ca e.2) x\/(cx (ca e.1) (ca e.2) x=0/\0<=al (ca e.1) (ca e.2) x/\al (ca e.1) (ca e.2) x<=al (ca e.1) (ca e.2) (ca e.2))
theorem On.nn {e:P×P}{x:R2}(h:On e x):0<=cx (ca e.1) (ca e.2) x:=by
 rcases h with h | h
 ·exact Rat.le_of_lt h
 ·rw [h.1];exact Rat.le_refl
theorem OnE.on {e:P×P}{s:P}(h:OnE e s):On e (ca s):=by
 unfold On
 rw [cx_ca,al_ca,al_ca,ca_pos,ca_zero,ca_nn,ca_le]
 exact h
theorem On.onE {e:P×P}{s:P}(h:On e (ca s)):OnE e s:=by
 unfold On at h
 rw [cx_ca,al_ca,al_ca,ca_pos,ca_zero,ca_nn,ca_le] at h
 exact h
theorem rlg (a b:Rat):a < b\/b<=a:=by grind
theorem rnn_mul {a b:Rat}(h:0<=a)(k:0<=b):0<=a*b:=Rat.mul_nonneg h k
theorem rpos_of {a b:Rat}(h:0 < a)(k:0 < a*b):0 < b:=by
 rcases rlg 0 b with q | q
 ·exact q
 ·have:=Rat.mul_nonneg (Rat.le_of_lt h) (show 0<=-b by grind);grind
theorem rnn_of {a b:Rat}(h:0 < a)(k:0<=a*b):0<=b:=by
 rcases rlg b 0 with q | q
 ·have:=Rat.mul_pos h (show 0 < -b by grind);grind
 ·exact q
theorem On.mix {e:P×P}{x y:R2}{t:Rat}(hx:On e x)(hy:On e y)(t0:0<=t)(t1:t<=1):On e (mix t x y):=by
 have hx':=hx.nn
 have hy':=hy.nn
 unfold On
 rw [cx_mix,al_mix]
 have a1:=rnn_mul (show 0<=1-t by grind) hx'
 have a2:=rnn_mul t0 hy'
 by_cases q0:t=0
 ·subst q0
  have e1:(1-0)*cx (ca e.1) (ca e.2) x+0*cx (ca e.1) (ca e.2) y=cx (ca e.1) (ca e.2) x:=by grind
  have e2:(1-0)*al (ca e.1) (ca e.2) x+0*al (ca e.1) (ca e.2) y=al (ca e.1) (ca e.2) x:=by grind
  rw [e1,e2];exact hx
 ·by_cases q1:t=1
  ·subst q1
   have e1:(1-1)*cx (ca e.1) (ca e.2) x+1*cx (ca e.1) (ca e.2) y=cx (ca e.1) (ca e.2) y:=by grind
   have e2:(1-1)*al (ca e.1) (ca e.2) x+1*al (ca e.1) (ca e.2) y=al (ca e.1) (ca e.2) y:=by grind
   rw [e1,e2];exact hy
  ·have p0:0 < t:=by grind
   have p1:0 < 1-t:=by grind
   rcases hx with hx | ⟨hx,hx1,hx2⟩
   ·have:=Rat.mul_pos p1 hx
    left;grind
   ·rcases hy with hy | ⟨hy,hy1,hy2⟩
    ·have:=Rat.mul_pos p0 hy
     left;grind
    ·right
     refine ⟨by rw [hx,hy];grind,?_,?_⟩
     ·have:=rnn_mul (Rat.le_of_lt p1) hx1
      have:=rnn_mul (Rat.le_of_lt p0) hy1
      grind
     ·have:=rnn_mul (Rat.le_of_lt p1) (show 0<=al (ca e.1) (ca e.2) (ca e.2)-al (ca e.1) (ca e.2) x by grind)
      have:=rnn_mul (Rat.le_of_lt p0) (show 0<=al (ca e.1) (ca e.2) (ca e.2)-al (ca e.1) (ca e.2) y by grind)
      grind
theorem collinear3 {u v p q r:P}(h:u≠v)(hp:cross u v p=0)(hq:cross u v q=0)(hr:cross u v r=0):cross p q r=0:=by
 obtain ⟨u1,u2⟩:=u
 obtain ⟨v1,v2⟩:=v
 simp only [cross] at *
 by_cases h1:v1-u1=0
 ·have h2:v2-u2≠0:=by
   intro h2
   exact h (by simp only [Prod.mk.injEq];omega)
  refine Int.eq_of_mul_eq_mul_left (Int.mul_ne_zero h2 h2) ?_
  rw [Int.mul_zero]
  grind
 ·refine Int.eq_of_mul_eq_mul_left (Int.mul_ne_zero h1 h1) ?_
  rw [Int.mul_zero]
  grind
theorem along_pos {u v:P}(h:u≠v):0 < along u v v:=by
 have:v.1-u.1≠0\/v.2-u.2≠0:=by
  by_cases a:v.1-u.1=0
  ·right
   intro b
   exact h (Prod.ext (by omega) (by omega))
  ·exact .inl a
 exact sq2_pos this
theorem HF.turn_pos {S h:List P}(F:HF S h)(h3:3<=h.length){u v w:P}(e1:(u,v)∈edges h)(e2:(v,w)∈edges h):0 < cross u v w:=by
 have nuv:u≠v:=F.neq (by omega) _ e1
 have nvw:v≠w:=F.neq (by omega) _ e2
 have mw:=F.sub _ (F.em _ e2).2
 have mu:=F.sub _ (F.em _ e1).1
 rcases F.left _ e1 w mw with k | ⟨k,k1,k2⟩
 ·exact k
 ·exfalso
  have k':cross v w u=0:=by
   have:cross v w u=cross u v w:=by unfold cross;grind
   rw [this];exact k
  have wu:w=u:=by
   rcases F.left _ e2 u mu with j | ⟨j,j1,j2⟩
   ·simp only at j k';omega
   ·have pu:=along_pos nuv
    have pv:=along_pos nvw
    have i1:along u v v*(along v w w-along v w u) = - (along u v w*(along u v v-along u v w))+cross u v w*cross u v w:=by
     unfold along cross;grind
    simp only at j2 k k1 k2
    have a1:=Int.mul_nonneg k1 (show 0<=along u v v-along u v w by omega)
    have a2:=Int.mul_nonneg (Int.le_of_lt pu) (show 0<=along v w w-along v w u by omega)
    rw [k] at i1
    have i2:along u v w*(along u v v-along u v w)=0:=by omega
    have i3:along u v v*along v w w=(along u v v-along u v w)*(along u v v-along u v w)+cross u v w*cross u v w:=by unfold along cross;grind
    rcases Int.mul_eq_zero.mp i2 with z | z
    ·
     have i4:along u v v*along u w w=along u v w*along u v w+cross u v w*cross u v w:=by unfold along cross;grind
     rw [z,k] at i4
     have i5:along u w w=0:=by
      rcases Int.mul_eq_zero.mp (show along u v v*along u w w=0 by omega) with q | q
      ·omega
      ·exact q
     by_cases q:u=w
     ·exact q.symm
     ·have:=along_pos q;omega
    ·rw [z,k] at i3
     have:=Int.mul_pos pu pv
     omega
  subst wu
  obtain ⟨e0,he0,s0,hs0,pos⟩:=F.wide h3
  have col:∀ s∈S,cross w v s=0:=fun s hs=>by
   have a:=(F.left _ e1 s hs).nn
   have b:=(F.left _ e2 s hs).nn
   have:cross v w s = - cross w v s:=by unfold cross;grind
   simp only at a b
   omega
  have:=collinear3 nuv (col _ (F.sub _ (F.em _ he0).1)) (col _ (F.sub _ (F.em _ he0).2)) (col _ hs0)
  omega
structure In (h:List P)(x:R2):Prop where
 ne:h≠[]
 on:∀ e∈edges h,On e x
 one:∀ a,h=[a]->x=ca a
theorem HF.inS {S h:List P}(F:HF S h){s:P}(hs:s∈S):In h (ca s) :=
 ⟨F.ne,fun e he=>(F.left e he s hs).on,fun a e=>by rw [F.one (by rw [e];rfl) s hs a (by rw [e];simp)]⟩
theorem In.mix {h:List P}{x y:R2}{t:Rat}(hx:In h x)(hy:In h y)(t0:0<=t)(t1:t<=1):In h (mix t x y) :=
 ⟨hx.ne,fun e he=>(hx.on e he).mix (hy.on e he) t0 t1,fun a e=>by rw [hx.one a e,hy.one a e];simp only [G.mix];exact Prod.ext (by grind) (by grind)⟩
theorem HF.in_of {S h:List P}(F:HF S h)(h3:3<=h.length){x:R2}(hx:∀ e∈edges h,0<=cx (ca e.1) (ca e.2) x):In h x:=by
 refine ⟨F.ne,fun e he=>?_,fun a e=>by rw [e] at h3;simp at h3⟩
 obtain ⟨u,v⟩:=e
 have h0:=hx _ he
 by_cases q:0 < cx (ca u) (ca v) x
 ·exact .inl q
 ·have z:cx (ca u) (ca v) x=0:=by simp only at h0;grind
  refine .inr ⟨z,?_,?_⟩
  ·obtain ⟨t,ht⟩:=F.pred u (F.em _ he).1
   have tp:=F.turn_pos h3 ht he
   have h1:=hx _ ht
   simp only at h1
   have tp':0 < cx (ca t) (ca u) (ca v):=by rw [cx_ca,ca_pos];exact tp
   have id1:al (ca u) (ca v) (ca v)*cx (ca t) (ca u) x=al (ca u) (ca v) x*cx (ca t) (ca u) (ca v)+al (ca t) (ca u) (ca u)*0+((u.1:Rat)-t.1)*((v.1:Rat)-u.1)*cx (ca u) (ca v) x+((u.2:Rat)-t.2)*((v.2:Rat)-u.2)*cx (ca u) (ca v) x:=by
    simp only [al,cx,ca];grind
   rw [z] at id1
   have lp:0<=al (ca u) (ca v) (ca v):=by rw [al_ca,ca_nn];exact Int.le_of_lt (along_pos (F.neq (by omega) _ he))
   have:=rnn_mul lp h1
   exact rnn_of tp' (by grind)
  ·obtain ⟨w,hw⟩:=F.succ v (F.em _ he).2
   have tp:=F.turn_pos h3 he hw
   have h1:=hx _ hw
   simp only at h1
   have tp':0 < cx (ca u) (ca v) (ca w):=by rw [cx_ca,ca_pos];exact tp
   have id1:al (ca u) (ca v) (ca v)*cx (ca v) (ca w) x=(al (ca u) (ca v) (ca v)-al (ca u) (ca v) x)*cx (ca u) (ca v) (ca w)+((w.1:Rat)-v.1)*((v.1:Rat)-u.1)*cx (ca u) (ca v) x+((w.2:Rat)-v.2)*((v.2:Rat)-u.2)*cx (ca u) (ca v) x:=by
    simp only [al,cx,ca];grind
   rw [z] at id1
   have lp:0<=al (ca u) (ca v) (ca v):=by rw [al_ca,ca_nn];exact Int.le_of_lt (along_pos (F.neq (by omega) _ he))
   have:=rnn_mul lp h1
   have:=rnn_of tp' (b:=al (ca u) (ca v) (ca v)-al (ca u) (ca v) x) (by grind)
   show al (ca u) (ca v) x<=al (ca u) (ca v) (ca v)
   grind
theorem rdiv {a b:Rat}(h:0 < b):∃ t,t*b=a:=⟨a / b,by grind⟩
theorem first_out {α:Type}(A B:α->Rat):∀ (L:List α),(∀ i∈L,0<=A i)->(∃ i∈L,B i < 0) ->
  ∃ t,0<=t/\t<=1/\∃ i∈L,B i < 0/\(1-t)*A i+t*B i=0/\∀ j∈L,0<=(1-t)*A j+t*B j:=by
 have stay:∀ (t u:Rat) (i:α),0<=A i->0<=t->t<=u->B i < 0->0<=(1-u)*A i+u*B i->0<=(1-t)*A i+t*B i:=fun t u i ha t0 tu hb hu=>by
  have:=rnn_mul (show 0<=u-t by grind) (show 0<=A i-B i by grind)
  grind
 have good:∀ (t:Rat) (i:α),0<=A i->0<=t->t<=1->0<=B i->0<=(1-t)*A i+t*B i:=fun t i ha t0 t1 hb=>by
  have:=rnn_mul (show 0<=1-t by grind) ha
  have:=rnn_mul t0 hb
  grind
 intro L
 induction L with
 | nil=>intro _ ⟨i,hi,_⟩;simp at hi
 | cons i L ih =>
  intro hA hB
  have ai:=hA i (by simp)
  have hA':∀ j∈L,0<=A j:=fun j hj=>hA j (by simp [hj])
  by_cases hL:∃ j∈L,B j < 0
  ·obtain ⟨t,t0,t1,j,hj,hbj,ej,all⟩:=ih hA' hL
   by_cases q:0<=(1-t)*A i+t*B i
   ·exact ⟨t,t0,t1,j,by simp [hj],hbj,ej,fun k hk=>by
     rcases List.mem_cons.mp hk with rfl | hk
     ·exact q
     ·exact all k hk⟩
   ·have bi:B i < 0:=by
     rcases rlg (B i) 0 with z | z
     ·exact z
     ·exact absurd (good t i ai t0 t1 z) q
    obtain ⟨u,hu⟩:=rdiv (a:=A i) (show 0 < A i-B i by grind)
    have u0:0<=u:=rnn_of (show 0 < A i-B i by grind) (by grind)
    have ut:u<=t:=by
     have:0<=t-u:=rnn_of (show 0 < A i-B i by grind) (by grind)
     grind
    refine ⟨u,u0,by grind,i,by simp,bi,by grind,fun k hk=>?_⟩
    rcases List.mem_cons.mp hk with rfl | hk
    ·grind
    ·rcases rlg (B k) 0 with z | z
     ·exact stay u t k (hA' k hk) u0 ut z (all k hk)
     ·exact good u k (hA' k hk) u0 (by grind) z
  ·have bi:B i < 0:=by
    obtain ⟨k,hk,hb⟩:=hB
    rcases List.mem_cons.mp hk with rfl | hk
    ·exact hb
    ·exact absurd ⟨k,hk,hb⟩ hL
   obtain ⟨u,hu⟩:=rdiv (a:=A i) (show 0 < A i-B i by grind)
   have u0:0<=u:=rnn_of (show 0 < A i-B i by grind) (by grind)
   have u1:u<=1:=by
    have:0<=1-u:=rnn_of (show 0 < A i-B i by grind) (by grind)
    grind
   refine ⟨u,u0,u1,i,by simp,bi,by grind,fun k hk=>?_⟩
   rcases List.mem_cons.mp hk with rfl | hk
   ·grind
   ·rcases rlg (B k) 0 with z | z
    ·exact absurd ⟨k,hk,z⟩ hL
    ·exact good u k (hA' k hk) u0 u1 z
def Seg (e:P×P)(y:R2):Prop:=cx (ca e.1) (ca e.2) y=0/\0<=al (ca e.1) (ca e.2) y/\al (ca e.1) (ca e.2) y<=al (ca e.1) (ca e.2) (ca e.2)
theorem HF.exit3 {S h:List P}(F:HF S h)(h3:3<=h.length){x a:R2}(hx:In h x)(ha:¬ In h a) :
  ∃ t,0<=t/\t<=1/\In h (mix t x a)/\∃ e∈edges h,cx (ca e.1) (ca e.2) a < 0/\cx (ca e.1) (ca e.2) (mix t x a)=0:=by
 have out:∃ e∈edges h,cx (ca e.1) (ca e.2) a < 0:=by
  by_cases q:∃ e∈edges h,cx (ca e.1) (ca e.2) a < 0
  ·exact q
  ·exact absurd (F.in_of h3 fun e he=>by
    rcases rlg (cx (ca e.1) (ca e.2) a) 0 with z | z
    ·exact absurd ⟨e,he,z⟩ q
    ·exact z) ha
 obtain ⟨t,t0,t1,e,he,hb,hz,all⟩:=first_out (fun e:P×P=>cx (ca e.1) (ca e.2) x) (fun e=>cx (ca e.1) (ca e.2) a) (edges h) (fun e he=>(hx.on e he).nn) out
 refine ⟨t,t0,t1,F.in_of h3 fun e he=>by rw [cx_mix];exact all e he,e,he,hb,by rw [cx_mix];exact hz⟩
theorem On.seg {e:P×P}{x:R2}(h:On e x)(z:cx (ca e.1) (ca e.2) x=0):Seg e x:=by
 rcases h with h | h
 ·rw [z] at h;exact absurd h (by grind)
 ·exact h
theorem edges_two (a b:P):edges [a,b]=[(a,b),(b,a)]:=rfl
theorem edges_one (a:P):edges [a]=[(a,a)]:=rfl
theorem len_cases (h:List P)(hn:h≠[]):(∃ a,h=[a])\/(∃ a b,h=[a,b])\/3<=h.length:=by
 match h,hn with
 | [a],_=>exact .inl ⟨a,rfl⟩
 | [a,b],_=>exact .inr (.inl ⟨a,b,rfl⟩)
 | a::b::c::r,_=>exact .inr (.inr (by simp))
theorem In.seg2 {a b:P}{x:R2}(hx:In [a,b] x):Seg (a,b) x:=by
 have h1:=hx.on (a,b) (by rw [edges_two];simp)
 have h2:=hx.on (b,a) (by rw [edges_two];simp)
 refine h1.seg ?_
 have a1:=h1.nn
 have a2:=h2.nn
 have:cx (ca b) (ca a) x = - cx (ca a) (ca b) x:=by simp only [cx];grind
 simp only at a1 a2 ⊢
 grind
theorem HF.exit {S h:List P}(F:HF S h){x a:R2}(hx:In h x)(ha:¬ In h a):∃ t,0<=t/\t<=1/\In h (mix t x a)/\∃ e∈edges h,Seg e (mix t x a):=by
 have m0:mix 0 x a=x:=by simp only [mix];exact Prod.ext (by grind) (by grind)
 rcases len_cases h F.ne with ⟨c,rfl⟩ | ⟨c,d,rfl⟩ | h3
 ·refine ⟨0,Rat.le_refl,by grind,by rw [m0];exact hx,(c,c),by rw [edges_one];simp,?_⟩
  rw [m0,hx.one c rfl]
  refine ⟨?_,?_,?_⟩<;>simp only [cx,al]<;>grind
 ·refine ⟨0,Rat.le_refl,by grind,by rw [m0];exact hx,(c,d),by rw [edges_two];simp,?_⟩
  rw [m0]
  exact hx.seg2
 ·obtain ⟨t,t0,t1,hi,e,he,_,z⟩:=F.exit3 h3 hx ha
  exact ⟨t,t0,t1,hi,e,he,(hi.on e he).seg z⟩
theorem Seg.mix {e:P×P}{y:R2}(hn:e.1≠e.2)(h:Seg e y):∃ t,0<=t/\t<=1/\y=mix t (ca e.1) (ca e.2):=by
 obtain ⟨⟨a,b⟩,⟨c,d⟩⟩:=e
 obtain ⟨z,h0,h1⟩:=h
 have lp:0 < al (ca (a,b)) (ca (c,d)) (ca (c,d)):=by rw [al_ca,ca_pos];exact along_pos hn
 obtain ⟨t,ht⟩:=rdiv (a:=al (ca (a,b)) (ca (c,d)) y) lp
 refine ⟨t,rnn_of lp (by grind),?_,?_⟩
 ·have:0<=1-t:=rnn_of lp (by simp only at h1;grind)
  grind
 ·have nz:al (ca (a,b)) (ca (c,d)) (ca (c,d))≠0:=by grind
  obtain ⟨y1,y2⟩:=y
  simp only [al,cx,ca,G.mix] at *
  refine Prod.ext ?_ ?_
  ·simp only
   have:((↑c - ↑a)*(↑c - ↑a)+(↑d - ↑b)*(↑d - ↑b))*(y1-(↑a+t*(↑c - ↑a)))=(0:Rat):=by grind
   rcases Rat.mul_eq_zero.mp this with q | q
   ·exact absurd q nz
   ·grind
  ·simp only
   have:((↑c - ↑a)*(↑c - ↑a)+(↑d - ↑b)*(↑d - ↑b))*(y2-(↑b+t*(↑d - ↑b)))=(0:Rat):=by grind
   rcases Rat.mul_eq_zero.mp this with q | q
   ·exact absurd q nz
   ·grind
def dq (d x:R2):Rat:=d.1*x.1+d.2*x.2
theorem dq_mix (d x y:R2)(t:Rat):dq d (mix t x y)=(1-t)*dq d x+t*dq d y:=by simp only [dq,mix];grind
theorem least_of {α:Type}(f:α->Rat):∀ (L:List α),L≠[]->∃ v∈L,∀ u∈L,f v<=f u:=by
 intro L
 induction L with
 | nil=>intro h;exact absurd rfl h
 | cons a L ih =>
  intro _
  by_cases q:L=[]
  ·subst q
   exact ⟨a,by simp,fun u hu=>by simp at hu;subst hu;exact Rat.le_refl⟩
  ·obtain ⟨v,hv,hm⟩:=ih q
   rcases rlg (f a) (f v) with z | z
   ·refine ⟨a,by simp,fun u hu=>?_⟩
    rcases List.mem_cons.mp hu with rfl | hu
    ·exact Rat.le_refl
    ·have:=hm u hu;grind
   ·refine ⟨v,by simp [hv],fun u hu=>?_⟩
    rcases List.mem_cons.mp hu with rfl | hu
    ·exact z
    ·exact hm u hu
theorem HF.reach {S h:List P}(F:HF S h)(d:R2){x:R2}(hx:In h x):∃ v∈h,dq d (ca v)<=dq d x:=by
 rcases len_cases h F.ne with ⟨c,rfl⟩ | ⟨c,e,rfl⟩ | h3
 ·exact ⟨c,by simp,by rw [hx.one c rfl];exact Rat.le_refl⟩
 ·obtain ⟨t,t0,t1,rfl⟩:=hx.seg2.mix (F.neq (by simp) (c,e) (by rw [edges_two];simp))
  rw [dq_mix]
  rcases rlg (dq d (ca c)) (dq d (ca e)) with q | q
  ·refine ⟨c,by simp,?_⟩
   have:=rnn_mul t0 (show 0<=dq d (ca e)-dq d (ca c) by grind)
   grind
  ·refine ⟨e,by simp,?_⟩
   have:=rnn_mul (show 0<=1-t by grind) (show 0<=dq d (ca c)-dq d (ca e) by grind)
   grind
 ·obtain ⟨v,hv,hm⟩:=least_of (fun v:P=>dq d (ca v)) h F.ne
  refine ⟨v,hv,?_⟩
  obtain ⟨u,hu⟩:=F.pred v hv
  obtain ⟨w,hw⟩:=F.succ v hv
  have tp:0 < cx (ca u) (ca v) (ca w):=by rw [cx_ca,ca_pos];exact F.turn_pos h3 hu hw
  have a1:=(hx.on _ hu).nn
  have a2:=(hx.on _ hw).nn
  have b1:=hm u (F.em _ hu).1
  have b2:=hm w (F.em _ hw).2
  simp only at a1 a2 b1 b2
  have key:cx (ca u) (ca v) (ca w)*(dq d x-dq d (ca v))=cx (ca v) (ca w) x*(dq d (ca u)-dq d (ca v))+cx (ca u) (ca v) x*(dq d (ca w)-dq d (ca v)):=by
   simp only [cx,dq];grind
  have c1:=rnn_mul a2 (show 0<=dq d (ca u)-dq d (ca v) by grind)
  have c2:=rnn_mul a1 (show 0<=dq d (ca w)-dq d (ca v) by grind)
  have:=rnn_of tp (b:=dq d x-dq d (ca v)) (by grind)
  grind
theorem between_mul {d y:Int}(h:min 0 d<=y/\y<=max 0 d):0<=d*y/\d*y<=d*d:=by
 rcases lg d 0 with q | q
 ·have a:=Int.mul_nonneg (show 0<=-d by omega) (show 0<=-y by omega)
  have b:=Int.mul_nonneg (show 0<=-d by omega) (show 0<=y-d by omega)
  constructor<;>grind
 ·have a:=Int.mul_nonneg q (show 0<=y by omega)
  have b:=Int.mul_nonneg q (show 0<=d-y by omega)
  constructor<;>grind
theorem between_of {d y L t:Int}(L0:0 < L)(t0:0<=t)(t1:t<=L)(e:L*y=d*t):min 0 d<=y/\y<=max 0 d:=by
 rcases lg d 0 with q | q
 ·have a:=Int.mul_nonneg (show 0<=-d by omega) t0
  have b:=Int.mul_nonneg (show 0<=-d by omega) (show 0<=L-t by omega)
  have c:=nn_of_mul L0 (b:=-y) (by grind)
  have c':=nn_of_mul L0 (b:=y-d) (by grind)
  omega
 ·have a:=Int.mul_nonneg q t0
  have b:=Int.mul_nonneg q (show 0<=L-t by omega)
  have c:=nn_of_mul L0 (b:=y) (by grind)
  have c':=nn_of_mul L0 (b:=d-y) (by grind)
  omega
theorem box_along {a b p:P}(n:a≠b)(h:cross a b p=0):(min a.1 b.1<=p.1/\p.1<=max a.1 b.1/\min a.2 b.2<=p.2/\p.2<=max a.2 b.2)↔(0<=along a b p/\along a b p<=along a b b):=by
 constructor
 ·intro ⟨h1,h2,h3,h4⟩
  have a1:=between_mul (d:=b.1-a.1) (y:=p.1-a.1) (by omega)
  have a2:=between_mul (d:=b.2-a.2) (y:=p.2-a.2) (by omega)
  unfold along
  omega
 ·intro ⟨h1,h2⟩
  have L0:=along_pos n
  have e1:along a b b*(p.1-a.1)=(b.1-a.1)*along a b p:=by
   have:along a b b*(p.1-a.1)=(b.1-a.1)*along a b p-(b.2-a.2)*cross a b p:=by unfold along cross;grind
   rw [this,h];omega
  have e2:along a b b*(p.2-a.2)=(b.2-a.2)*along a b p:=by
   have:along a b b*(p.2-a.2)=(b.2-a.2)*along a b p+(b.1-a.1)*cross a b p:=by unfold along cross;grind
   rw [this,h];omega
  have a1:=between_of L0 h1 h2 e1
  have a2:=between_of L0 h1 h2 e2
  omega
theorem where3 {h:List P}(h3:3<=h.length)(p:P):whereIs h p=if ((edges h).all fun e=>decide (0 < cross e.1 e.2 p))=true then 1 else if ((edges h).all fun e=>decide (0<=cross e.1 e.2 p))=true then 2 else 0:=by
 match h,h3 with
 | a::b::c::r,_=>rfl
theorem where_in {S h:List P}(F:HF S h)(p:P):whereIs h p≠0↔In h (ca p):=by
 rcases len_cases h F.ne with ⟨c,rfl⟩ | ⟨c,e,rfl⟩ | h3
 ·show (if p=c then 2 else 0)≠0↔_
  constructor
  ·intro k
   by_cases q:p=c
   ·subst q
    exact ⟨F.ne,fun e he=>by
     rw [edges_one] at he
     have:e=(p,p):=by simpa using he
     subst this
     right
     refine ⟨?_,?_,?_⟩<;>simp only [cx,al]<;>grind,fun a e=>by rw [List.cons.inj e |>.1]⟩
   ·rw [if_neg q] at k;exact absurd rfl k
  ·intro k
   rw [if_pos (ca_inj (k.one c rfl))]
   decide
 ·have n:c≠e:=F.neq (by simp) (c,e) (by rw [edges_two];simp)
  show (if cross c e p=0/\min c.1 e.1<=p.1/\p.1<=max c.1 e.1/\min c.2 e.2<=p.2/\p.2<=max c.2 e.2 then 2 else 0)≠0↔_
  constructor
  ·intro k
   by_cases q:cross c e p=0/\min c.1 e.1<=p.1/\p.1<=max c.1 e.1/\min c.2 e.2<=p.2/\p.2<=max c.2 e.2
   ·obtain ⟨z,bx⟩:=q
    have bx':=(box_along n z).mp bx
    refine ⟨F.ne,fun f hf=>OnE.on ?_,fun a q=>by simp at q⟩
    rw [edges_two] at hf
    have:f=(c,e)\/f=(e,c):=by simpa using hf
    rcases this with rfl | rfl
    ·exact .inr ⟨z,bx'⟩
    ·have z':cross e c p=0:=by
      have:cross e c p = - cross c e p:=(by unfold cross;grind);omega
     have i1:along e c p=along c e e-along c e p:=by unfold along;grind
     have i2:along e c c=along c e e:=by unfold along;grind
     refine .inr ⟨z',?_,?_⟩<;>simp only<;>omega
   ·rw [if_neg q] at k;exact absurd rfl k
  ·intro k
   have:=k.seg2
   have o:OnE (c,e) p:=On.onE (.inr this)
   have z:cross c e p=0:=by
    have:=this.1
    rw [cx_ca,ca_zero] at this
    exact this
   rcases o with o | ⟨_,o⟩
   ·simp only at o;omega
   ·rw [if_pos ⟨z,(box_along n z).mpr o⟩]
    decide
 ·rw [where3 h3]
  have g:((edges h).all fun e=>decide (0<=cross e.1 e.2 p))=true↔In h (ca p):=by
   rw [List.all_eq_true]
   constructor
   ·intro k
    exact F.in_of h3 fun e he=>by rw [cx_ca,ca_nn];exact of_decide_eq_true (k e he)
   ·intro k e he
    have:=(k.on e he).nn
    rw [cx_ca,ca_nn] at this
    exact decide_eq_true this
  have g1:((edges h).all fun e=>decide (0 < cross e.1 e.2 p))=true->((edges h).all fun e=>decide (0<=cross e.1 e.2 p))=true:=fun k=>by
   rw [List.all_eq_true] at k ⊢
   intro e he
   have:=of_decide_eq_true (k e he)
   exact decide_eq_true (Int.le_of_lt this)
  by_cases q1:((edges h).all fun e=>decide (0 < cross e.1 e.2 p))=true
  ·rw [if_pos q1,<- g]
   exact ⟨fun _=>g1 q1,fun _=>by decide⟩
  ·rw [if_neg q1]
   by_cases q2:((edges h).all fun e=>decide (0<=cross e.1 e.2 p))=true
   ·rw [if_pos q2,<- g]
    exact ⟨fun _=>q2,fun _=>by decide⟩
   ·rw [if_neg q2,<- g]
    exact ⟨fun k=>absurd rfl k,fun k=>absurd k q2⟩
theorem hull_nil:hull []=[]:=rfl
theorem where_nil (p:P):whereIs [] p=0:=rfl
def Sep (S:List P)(p:P):Prop:=∃ d:P,∀ s∈S,0 < dt d (sub s p)
theorem sep_of_out {S:List P}{p:P}(hp:whereIs (hull S) p=0):Sep S p:=by
 by_cases hS:S=[]
 ·subst hS;exact ⟨(0,0),fun s hs=>by simp at hs⟩
 have F:=hull_hf hS
 generalize hull S=h at F hp
 rcases len_cases h F.ne with ⟨c,rfl⟩ | ⟨c,e,rfl⟩ | h3
 ·have n:p≠c:=by
   intro q
   have:whereIs [c] p=if p=c then 2 else 0:=rfl
   rw [this,if_pos q] at hp
   exact absurd hp (by decide)
  refine ⟨sub c p,fun s hs=>?_⟩
  have:=F.one rfl s hs c (by simp)
  subst this
  have a:=along_pos n
  have:dt (sub s p) (sub s p)=along p s s:=by unfold dt sub along;rfl
  omega
 ·have n:c≠e:=F.neq (by simp) (c,e) (by rw [edges_two];simp)
  have hw:whereIs [c,e] p=if cross c e p=0/\min c.1 e.1<=p.1/\p.1<=max c.1 e.1/\min c.2 e.2<=p.2/\p.2<=max c.2 e.2 then 2 else 0:=rfl
  have l1:=fun s hs=>F.left (c,e) (by rw [edges_two];simp) s hs
  have l2:=fun s hs=>F.left (e,c) (by rw [edges_two];simp) s hs
  have col:∀ s∈S,cross c e s=0:=fun s hs=>by
   have a:=(l1 s hs).nn
   have b:=(l2 s hs).nn
   have:cross e c s = - cross c e s:=by unfold cross;grind
   simp only at a b
   omega
  have btw:∀ s∈S,0<=along c e s/\along c e s<=along c e e:=fun s hs=>by
   rcases l1 s hs with q | q
   ·have:=col s hs;simp only at q;omega
   ·exact q.2
  by_cases z:cross c e p=0
  ·have nb:¬ (0<=along c e p/\along c e p<=along c e e):=fun q=>by
    rw [hw,if_pos ⟨z,(box_along n z).mpr q⟩] at hp
    exact absurd hp (by decide)
   have id1:∀ s:P,dt (sub e c) (sub s p)=along c e s-along c e p:=fun s=>by unfold dt sub along;grind
   by_cases q:0<=along c e p
   ·refine ⟨sub c e,fun s hs=>?_⟩
    have:dt (sub c e) (sub s p) = - dt (sub e c) (sub s p):=by unfold dt sub;grind
    have:=id1 s
    have:=btw s hs
    omega
   ·refine ⟨sub e c,fun s hs=>?_⟩
    have:=id1 s
    have:=btw s hs
    omega
  ·have id1:∀ s:P,dt (-(sub e c).2,(sub e c).1) (sub s p)=cross c e s-cross c e p:=fun s=>by unfold dt sub cross;grind
   rcases lg (cross c e p) 0 with q | q
   ·refine ⟨(-(sub e c).2,(sub e c).1),fun s hs=>?_⟩
    have:=id1 s
    have:=col s hs
    omega
   ·refine ⟨((sub e c).2,-(sub e c).1),fun s hs=>?_⟩
    have e2:dt ((sub e c).2,-(sub e c).1) (sub s p) = - dt (-(sub e c).2,(sub e c).1) (sub s p):=by unfold dt;grind
    have:=id1 s
    have:=col s hs
    omega
 ·rw [where3 h3] at hp
  have:¬ ((edges h).all fun e=>decide (0<=cross e.1 e.2 p))=true:=fun q=>by
   rw [if_pos q] at hp
   split at hp<;>exact absurd hp (by decide)
  rw [List.all_eq_true] at this
  obtain ⟨e,he,k⟩:∃ e∈edges h,cross e.1 e.2 p < 0:=by
   by_cases q:∃ e∈edges h,cross e.1 e.2 p < 0
   ·exact q
   ·exact absurd (fun e he=>decide_eq_true (by
     rcases lg (cross e.1 e.2 p) 0 with z | z
     ·exact absurd ⟨e,he,z⟩ q
     ·exact z)) this
  refine ⟨(-(sub e.2 e.1).2,(sub e.2 e.1).1),fun s hs=>?_⟩
  have id1:dt (-(sub e.2 e.1).2,(sub e.2 e.1).1) (sub s p)=cross e.1 e.2 s-cross e.1 e.2 p:=by unfold dt sub cross;grind
  have:=(F.left e he s hs).nn
  omega
theorem out_of_sep {S:List P}{p:P}(h:Sep S p):whereIs (hull S) p=0:=by
 by_cases hS:S=[]
 ·subst hS;rfl
 have F:=hull_hf hS
 by_cases q:whereIs (hull S) p=0
 ·exact q
 ·obtain ⟨d,hd⟩:=h
  obtain ⟨v,hv,k⟩:=F.reach (ca d) ((where_in F p).mp q)
  have:=hd v (F.sub v hv)
  have e:dq (ca d) (ca v)-dq (ca d) (ca p)=((dt d (sub v p):Int):Rat):=by
   simp only [dq,ca,dt,sub,Rat.intCast_add,Rat.intCast_mul,Rat.intCast_sub];grind
  have:0 < dq (ca d) (ca v)-dq (ca d) (ca p):=by rw [e,ca_pos];exact this
  grind
end G
namespace G
open Vbecap (cross hull edges whereIs chosen without depthFrom depth)
theorem mem_chosen:∀ {m:Nat} {L g:List Nat},g∈chosen m L↔g.Sublist L/\g.length=m
 | 0,L,g=>by
  unfold chosen
  simp only [List.mem_singleton]
  constructor
  ·rintro rfl;simp
  ·intro ⟨_,h⟩;exact List.length_eq_zero_iff.mp h
 | m+1,[],g=>by
  unfold chosen
  constructor
  ·intro h;simp at h
  ·intro ⟨h,k⟩
   have:=List.sublist_nil.mp h
   subst this;simp at k
 | m+1,a::L,g=>by
  unfold chosen
  rw [List.mem_append,List.mem_map]
  constructor
  ·rintro (⟨r,hr,rfl⟩ | h)
   ·have:=mem_chosen.mp hr
    exact ⟨this.1.cons_cons a,by simp [this.2]⟩
   ·have:=mem_chosen.mp h
    exact ⟨this.1.cons a,this.2⟩
  ·intro ⟨h,k⟩
   cases h with
   | cons _ h=>exact .inr (mem_chosen.mpr ⟨h,k⟩)
   | cons_cons _ h=>exact .inl ⟨_,mem_chosen.mpr ⟨h,by simpa using k⟩,rfl⟩
def ahead (p f o:P):Bool:=if cross p f o≠0 then decide (0 < cross p f o) else decide (0 < along p f o)
def keptM (l:List P)(p f:P):List P:=(l.filter fun o=>decide (o≠p)).filter fun o=>ahead p f o
def mostM (l:List P)(p:P):Nat:=(l.filter fun o=>decide (o≠p)).foldl (fun m f=>max m (keptM l p f).length) 0
def depthM (l:List P)(p:P):Nat:=l.length-mostM l p
theorem foldl_max_ge {α:Type}(f:α->Nat):∀ (L:List α) (m:Nat),m<=L.foldl (fun m x=>max m (f x)) m/\∀ x∈L,f x<=L.foldl (fun m x=>max m (f x)) m
 | [],m=>⟨Nat.le_refl _,by simp⟩
 | a::L,m=>by
  have:=foldl_max_ge f L (max m (f a))
  rw [List.foldl_cons]
  refine ⟨by omega,fun x hx=>?_⟩
  rcases List.mem_cons.mp hx with rfl | hx
  ·omega
  ·exact this.2 x hx
theorem foldl_max_in {α:Type}(f:α->Nat):∀ (L:List α) (m:Nat),L.foldl (fun m x=>max m (f x)) m=m\/∃ x∈L,L.foldl (fun m x=>max m (f x)) m=f x
 | [],m=>.inl rfl
 | a::L,m=>by
  rw [List.foldl_cons]
  rcases foldl_max_in f L (max m (f a)) with h | ⟨x,hx,h⟩
  ·rcases Nat.le_total m (f a) with q | q
   ·exact .inr ⟨a,by simp,by rw [h];omega⟩
   ·exact .inl (by rw [h];omega)
  ·exact .inr ⟨x,by simp [hx],h⟩
theorem dt_cr (d u v w:P):dt d v*cr u w=dt d u*cr v w+dt d w*cr u v:=by unfold dt cr;grind
theorem dt_same {d u v:P}(hu:0 < dt d u)(hv:0 < dt d v)(h:cr u v=0):0 < dt u v:=by
 have id1:dt d d*dt u v=dt d u*dt d v+cr d u*cr d v:=by unfold dt cr;grind
 have id2:dt d u*cr d v=dt d v*cr d u+dt d d*cr u v:=by unfold dt cr;grind
 rw [h] at id2
 have dp:0 < dt d d:=by
  refine sq2_pos (a:=d.1) (b:=d.2) ?_
  by_cases q:d.1=0
  ·right
   intro q2
   have:dt d u=0:=by unfold dt;rw [q,q2];omega
   omega
  ·exact .inl q
 have:0<=dt d u*(cr d u*cr d v):=by
  have e:dt d u*(cr d u*cr d v)=dt d v*(cr d u*cr d u):=by grind
  rw [e]
  exact Int.mul_nonneg (Int.le_of_lt hv) (sq_nn _)
 have:=nn_of_mul hu this
 have a:=Int.mul_pos hu hv
 exact pos_of_mul dp (by omega)
theorem rightmost (d p:P):∀ (K:List P),K≠[]->(∀ o∈K,0 < dt d (sub o p))->∃ f∈K,∀ o∈K,0<=cr (sub f p) (sub o p):=by
 intro K
 induction K with
 | nil=>intro h;exact absurd rfl h
 | cons a K ih =>
  intro _ hK
  have ha:=hK a (by simp)
  have z:cr (sub a p) (sub a p)=0:=by unfold cr;grind
  by_cases q:K=[]
  ·subst q
   exact ⟨a,by simp,fun o ho=>by simp at ho;subst ho;omega⟩
  ·obtain ⟨f,hf,hm⟩:=ih q fun o ho=>hK o (by simp [ho])
   have hff:=hK f (by simp [hf])
   rcases lg (cr (sub f p) (sub a p)) 0 with c | c
   ·refine ⟨a,by simp,fun o ho=>?_⟩
    rcases List.mem_cons.mp ho with rfl | ho
    ·omega
    ·have ho':=hK o (by simp [ho])
     have e:=dt_cr d (sub a p) (sub f p) (sub o p)
     have an:=cr_anti (sub a p) (sub f p)
     have b1:=Int.mul_nonneg (Int.le_of_lt ha) (hm o ho)
     have b2:=Int.mul_nonneg (Int.le_of_lt ho') (show 0<=cr (sub a p) (sub f p) by omega)
     exact nn_of_mul hff (by omega)
   ·refine ⟨f,by simp [hf],fun o ho=>?_⟩
    rcases List.mem_cons.mp ho with rfl | ho
    ·exact c
    ·exact hm o ho
theorem ahead_iff (p f o:P):ahead p f o=true↔0 < cr (sub f p) (sub o p)\/(cr (sub f p) (sub o p)=0/\0 < dt (sub f p) (sub o p)):=by
 have e1:cross p f o=cr (sub f p) (sub o p):=cross_cr p f o
 have e2:along p f o=dt (sub f p) (sub o p):=by unfold along dt sub;rfl
 unfold ahead
 rw [e1,e2]
 by_cases h:cr (sub f p) (sub o p)=0
 ·rw [if_neg (by simpa using h),decide_eq_true_iff]
  omega
 ·rw [if_pos h,decide_eq_true_iff]
  omega
theorem bound_of {α:Type}(f:α->Int):∀ L:List α,∃ N:Int,0 < N/\∀ x∈L,-N < f x
 | []=>⟨1,by omega,by simp⟩
 | a::L=>by
  obtain ⟨N,h0,h⟩:=bound_of f L
  refine ⟨max N (1-f a),by omega,fun x hx=>?_⟩
  rcases List.mem_cons.mp hx with rfl | hx
  ·omega
  ·have:=h x hx;omega
theorem sep_ahead {p f:P}{K:List P}(h:∀ o∈K,ahead p f o=true):Sep K p:=by
 obtain ⟨N,N0,hN⟩:=bound_of (fun o=>dt (sub f p) (sub o p)) K
 refine ⟨(-(sub f p).2*N+(sub f p).1,(sub f p).1*N+(sub f p).2),fun o ho=>?_⟩
 have e:dt (-(sub f p).2*N+(sub f p).1,(sub f p).1*N+(sub f p).2) (sub o p)=N*cr (sub f p) (sub o p)+dt (sub f p) (sub o p):=by
  unfold dt cr;grind
 rw [e]
 rcases (ahead_iff p f o).mp (h o ho) with q | ⟨q,r⟩
 ·have:=Int.mul_nonneg (Int.le_of_lt N0) (show 0<=cr (sub f p) (sub o p)-1 by omega)
  have:=hN o ho
  grind
 ·rw [q];omega
theorem without_eq (l:List P)(g:List Nat):without l g=((List.range l.length).filter fun i=>!g.contains i).map fun i=>l.getD i (0,0):=rfl
theorem map_getD_range (l:List P):(List.range l.length).map (fun i=>l.getD i (0,0))=l:=by
 refine List.ext_getElem (by simp) fun i h1 h2=>?_
 simp at h1
 simp [h1]
theorem without_sub (l:List P)(g:List Nat):(without l g).Sublist l:=by
 rw [without_eq]
 have:=(List.filter_sublist (p:=fun i=>!g.contains i) (l:=List.range l.length)).map fun i=>l.getD i (0,0)
 rw [map_getD_range] at this
 exact this
theorem filter_out_len:∀ {g L:List Nat},L.Nodup->g.Sublist L->(L.filter fun i=>!g.contains i).length+g.length=L.length
 | g,[],_,h=>by have:=List.sublist_nil.mp h;subst this;rfl
 | g,a::L,hn,h=>by
  have hn':=List.nodup_cons.mp hn
  cases h with
  | cons _ h =>
   have ih:=filter_out_len hn'.2 h
   have:(!g.contains a)=true:=by
    have:a ∉ g:=fun q=>hn'.1 (h.subset q)
    simpa using this
   rw [List.filter_cons,if_pos this]
   simp only [List.length_cons]
   omega
  | cons_cons _ h =>
   rename_i g'
   have ih:=filter_out_len hn'.2 h
   have:¬ (!(a::g').contains a)=true:=by simp
   rw [List.filter_cons,if_neg this]
   have e:(L.filter fun i=>!(a::g').contains i)=L.filter fun i=>!g'.contains i:=by
    refine List.filter_congr fun x hx=>?_
    have:x≠a:=fun q=>hn'.1 (by rw [<- q];exact hx)
    simp [this]
   rw [e]
   simp only [List.length_cons]
   omega
theorem without_len {l:List P}{g:List Nat}(h:g.Sublist (List.range l.length)):(without l g).length+g.length=l.length:=by
 have:=filter_out_len List.nodup_range h
 rw [without_eq,List.length_map]
 simpa using this
theorem without_test (l:List P)(q:P->Bool):without l ((List.range l.length).filter fun i=>!q (l.getD i (0,0)))=l.filter q:=by
 rw [without_eq]
 have e:((List.range l.length).filter fun i=>!((List.range l.length).filter fun i=>!q (l.getD i (0,0))).contains i)=(List.range l.length).filter fun i=>q (l.getD i (0,0)):=by
  refine List.filter_congr fun x hx=>?_
  have hx':x < l.length:=List.mem_range.mp hx
  rw [Bool.eq_iff_iff]
  simp only [List.contains_eq_mem,List.mem_filter,List.mem_range,Bool.not_eq_true',decide_eq_false_iff_not]
  constructor
  ·intro k
   cases hq:q (l.getD x (0,0)) with
   | true=>rfl
   | false=>exact absurd ⟨hx',hq⟩ k
  ·intro k ⟨_,k2⟩
   rw [k] at k2
   exact absurd k2 (by decide)
 rw [e]
 conv=>rhs;rw [<- map_getD_range l,List.filter_map]
 rfl
theorem most_le (l:List P)(p:P):mostM l p<=l.length:=by
 rcases foldl_max_in (fun f=>(keptM l p f).length) (l.filter fun o=>decide (o≠p)) 0 with h | ⟨f,_,h⟩
 ·unfold mostM;rw [h];omega
 ·unfold mostM;rw [h]
  unfold keptM
  exact Nat.le_trans (List.length_filter_le _ _) (List.length_filter_le _ _)
theorem depth_there (l:List P)(p:P):∃ g∈chosen (depthM l p) (List.range l.length),whereIs (hull (without l g)) p=0:=by
 have key:∀ q:P->Bool,(l.filter q).length=mostM l p->whereIs (hull (l.filter q)) p=0->∃ g∈chosen (depthM l p) (List.range l.length),whereIs (hull (without l g)) p=0:=fun q hl hw=>by
  refine ⟨(List.range l.length).filter fun i=>!q (l.getD i (0,0)),mem_chosen.mpr ⟨List.filter_sublist,?_⟩,by rw [without_test];exact hw⟩
  have:=without_len (l:=l) (g:=(List.range l.length).filter fun i=>!q (l.getD i (0,0))) List.filter_sublist
  rw [without_test,hl] at this
  unfold depthM
  omega
 rcases foldl_max_in (fun f=>(keptM l p f).length) (l.filter fun o=>decide (o≠p)) 0 with h | ⟨f,_,h⟩
 ·refine key (fun _=>false) ?_ ?_
  ·rw [show mostM l p=0 from h];simp
  ·rw [show l.filter (fun _=>false)=[] by simp];rfl
 ·have e:keptM l p f=l.filter fun o=>decide (o≠p) && ahead p f o:=by
   unfold keptM
   rw [List.filter_filter]
   exact List.filter_congr fun x _=>Bool.and_comm _ _
  refine key (fun o=>decide (o≠p) && ahead p f o) ?_ (out_of_sep (sep_ahead (f:=f) fun o ho=>?_))
  ·rw [<- e];exact h.symm
  ·have:=(List.mem_filter.mp ho).2
   rw [Bool.and_eq_true] at this
   exact this.2
theorem depth_least (l:List P)(p:P){m:Nat}{g:List Nat}(hg:g∈chosen m (List.range l.length))(hw:whereIs (hull (without l g)) p=0):depthM l p<=m:=by
 obtain ⟨hs,hl⟩:=mem_chosen.mp hg
 have hk:=without_len hs
 obtain ⟨d,hd⟩:=sep_of_out hw
 by_cases hK:without l g=[]
 ·rw [hK] at hk
  unfold depthM
  simp at hk
  omega
 ·obtain ⟨f,hf,hm⟩:=rightmost d p _ hK hd
  have hne:∀ o∈without l g,o≠p:=fun o ho q=>by
   have:=hd o ho
   rw [q] at this
   have:dt d (sub p p)=0:=by unfold dt sub;grind
   omega
  have hah:∀ o∈without l g,ahead p f o=true:=fun o ho=>by
   rw [ahead_iff]
   have:=hm o ho
   rcases lg 0 (cr (sub f p) (sub o p)) with c | c
   ·exact .inl c
   ·have z:cr (sub f p) (sub o p)=0:=by omega
    exact .inr ⟨z,dt_same (hd f hf) (hd o ho) z⟩
  have sub1:(without l g).Sublist (keptM l p f):=by
   unfold keptM
   have e:without l g=((without l g).filter fun o=>decide (o≠p)).filter fun o=>ahead p f o:=by
    have e1:(without l g).filter (fun o=>decide (o≠p))=without l g:=List.filter_eq_self.mpr fun o ho=>decide_eq_true (hne o ho)
    rw [e1]
    exact (List.filter_eq_self.mpr hah).symm
   rw [e]
   exact ((without_sub l g).filter _).filter _
  have mf:f∈l.filter fun o=>decide (o≠p):=List.mem_filter.mpr ⟨(without_sub l g).subset hf,decide_eq_true (hne f hf)⟩
  have:=(foldl_max_ge (fun f=>(keptM l p f).length) (l.filter fun o=>decide (o≠p)) 0).2 f mf
  have:(keptM l p f).length<=mostM l p:=this
  have:=sub1.length_le
  unfold depthM
  omega
theorem depthFrom_eq (l:List P)(p:P)(k:Nat)(hk:∃ g∈chosen k (List.range l.length),whereIs (hull (without l g)) p=0)(hm:∀ m < k,∀ g∈chosen m (List.range l.length),whereIs (hull (without l g)) p≠0) :
  ∀ (f m:Nat),m<=k->k<=m+f->depthFrom l p f m=k
 | 0,m,h1,h2=>by unfold depthFrom;omega
 | f+1,m,h1,h2=>by
  unfold depthFrom
  by_cases q:m=k
  ·subst q
   rw [if_pos]
   obtain ⟨g,hg,hw⟩:=hk
   rw [List.any_eq_true]
   exact ⟨g,hg,by rw [hw];rfl⟩
  ·rw [if_neg]
   ·exact depthFrom_eq l p k hk hm f (m+1) (by omega) (by omega)
   ·intro h
    rw [List.any_eq_true] at h
    obtain ⟨g,hg,hw⟩:=h
    exact hm m (by omega) g hg (by simpa using hw)
theorem depth_ok (l:List P)(p:P):depth l p=depthM l p:=by
 unfold depth
 refine depthFrom_eq l p (depthM l p) (depth_there l p) (fun m hm g hg hw=>?_) l.length 0 (Nat.zero_le _) ?_
 ·have:=depth_least l p hg hw
  omega
 ·unfold depthM;omega
end G
namespace G
open Vbecap (cross hull edges whereIs differences meet)
def sidesM (h:List P):List (P×P):=(h.getLast?.toList++h).zip h
theorem sides_edges {h:List P}(hn:h≠[]):∃ E x,edges h=E++[x]/\sidesM h=x::E:=by
 obtain ⟨a,t,rfl⟩:=List.exists_cons_of_ne_nil hn
 obtain ⟨t',z,hz⟩:∃ t' z,a::t=t'++[z]:=⟨_,_,(List.dropLast_concat_getLast hn).symm⟩
 refine ⟨consec (a::t),(z,a),?_,?_⟩
 ·rw [edges_consec,hz,show t'++[z]++[a]=t'++z::[a] by simp,consec_append]
  rfl
 ·unfold sidesM
  have:(a::t).getLast?=some z:=by rw [hz];simp
  rw [this]
  show (z::a::t).zip (a::t)=_
  rw [List.zip_cons_cons,consec_zip]
  obtain ⟨x,hx⟩:∃ x,t.length<=x:=⟨_,Nat.le_refl _⟩
  congr 1
theorem mem_sides {h:List P}{e:P×P}:e∈sidesM h↔e∈edges h:=by
 by_cases hn:h=[]
 ·subst hn;simp [sidesM,edges]
 ·obtain ⟨E,x,h1,h2⟩:=sides_edges hn
  rw [h1,h2]
  simp only [List.mem_cons,List.mem_append,List.mem_singleton,List.not_mem_nil,or_false]
  exact Or.comm
def holdsM (h:List P)(p:P):Bool:=whereIs h p != 0
def parted (s o:P×P):Bool:=decide (cross s.1 s.2 o.1*cross s.1 s.2 o.2 < 0)
def meetM (A B:List P):Bool:=A.any (fun p=>holdsM B p) || B.any (fun p=>holdsM A p) || (sidesM A).any (fun s=>(sidesM B).any fun o=>parted s o && parted o s)
theorem mul_neg_cases {a b:Int}(h:a*b < 0):(a < 0/\0 < b)\/(0 < a/\b < 0):=by
 rcases lg a 0 with q | q
 ·refine .inl ⟨q,?_⟩
  rcases lg 0 b with r | r
  ·exact r
  ·have:=Int.mul_nonneg (show 0<=-a by omega) (show 0<=-b by omega);grind
 ·have r:b < 0:=by
   rcases lg b 0 with r | r
   ·exact r
   ·have:=Int.mul_nonneg q r;omega
  refine .inr ⟨?_,r⟩
  by_cases z:a=0
  ·subst z;omega
  ·omega
theorem mul_neg_of {a b:Int}(h:(a < 0/\0 < b)\/(0 < a/\b < 0)):a*b < 0:=by
 rcases h with ⟨h,k⟩ | ⟨h,k⟩
 ·exact Int.mul_neg_of_neg_of_pos h k
 ·exact Int.mul_neg_of_pos_of_neg h k
theorem share_of {a b:Rat}(h:(a < 0/\0 < b)\/(0 < a/\b < 0)):∃ t,0<=t/\t<=1/\t*(a-b)=a:=by
 rcases h with ⟨h,k⟩ | ⟨h,k⟩
 ·obtain ⟨t,ht⟩:=rdiv (a:=-a) (show 0 < b-a by grind)
  refine ⟨t,rnn_of (show 0 < b-a by grind) (by grind),?_,by grind⟩
  have:=rnn_of (show 0 < b-a by grind) (b:=1-t) (by grind)
  grind
 ·obtain ⟨t,ht⟩:=rdiv (a:=a) (show 0 < a-b by grind)
  refine ⟨t,rnn_of (show 0 < a-b by grind) (by grind),?_,by grind⟩
  have:=rnn_of (show 0 < a-b by grind) (b:=1-t) (by grind)
  grind
theorem parted_iff (s o:P×P):parted s o=true↔(cross s.1 s.2 o.1 < 0/\0 < cross s.1 s.2 o.2)\/(0 < cross s.1 s.2 o.1/\cross s.1 s.2 o.2 < 0):=by
 unfold parted
 rw [decide_eq_true_iff]
 exact ⟨mul_neg_cases,mul_neg_of⟩
theorem cross_common {s o:P×P}(h1:parted s o=true)(h2:parted o s=true):∃ t u,0<=t/\t<=1/\0<=u/\u<=1/\mix t (ca s.1) (ca s.2)=mix u (ca o.1) (ca o.2):=by
 rw [parted_iff] at h1 h2
 obtain ⟨t,t0,t1,ht⟩:=share_of (a:=cx (ca o.1) (ca o.2) (ca s.1)) (b:=cx (ca o.1) (ca o.2) (ca s.2)) (by rw [cx_ca,cx_ca,ca_pos,ca_pos,ca_neg,ca_neg];exact h2)
 obtain ⟨u,u0,u1,hu⟩:=share_of (a:=cx (ca s.1) (ca s.2) (ca o.1)) (b:=cx (ca s.1) (ca s.2) (ca o.2)) (by rw [cx_ca,cx_ca,ca_pos,ca_pos,ca_neg,ca_neg];exact h1)
 refine ⟨t,u,t0,t1,u0,u1,?_⟩
 have nz:cx (ca o.1) (ca o.2) (ca s.1)-cx (ca o.1) (ca o.2) (ca s.2)≠0:=by
  have:(cx (ca o.1) (ca o.2) (ca s.1) < 0/\0 < cx (ca o.1) (ca o.2) (ca s.2))\/(0 < cx (ca o.1) (ca o.2) (ca s.1)/\cx (ca o.1) (ca o.2) (ca s.2) < 0):=by
   rw [cx_ca,cx_ca,ca_pos,ca_pos,ca_neg,ca_neg];exact h2
  grind
 generalize ca s.1=a at *
 generalize ca s.2=b at *
 generalize ca o.1=c at *
 generalize ca o.2=d at *
 obtain ⟨a1,a2⟩:=a
 obtain ⟨b1,b2⟩:=b
 obtain ⟨c1,c2⟩:=c
 obtain ⟨d1,d2⟩:=d
 simp only [cx,mix] at *
 have e:((d1-c1)*(a2-c2)-(d2-c2)*(a1-c1)-((d1-c1)*(b2-c2)-(d2-c2)*(b1-c1)))=(b1-a1)*(d2-c2)-(b2-a2)*(d1-c1):=by grind
 rw [e] at ht nz
 have e':((b1-a1)*(c2-a2)-(b2-a2)*(c1-a1)-((b1-a1)*(d2-a2)-(b2-a2)*(d1-a1))) = -((b1-a1)*(d2-c2)-(b2-a2)*(d1-c1)):=by grind
 rw [e'] at hu
 generalize hD:(b1-a1)*(d2-c2)-(b2-a2)*(d1-c1)=D at *
 refine Prod.ext ?_ ?_
 ·simp only
  have:D*(a1+t*(b1-a1)-(c1+u*(d1-c1)))=0:=by grind
  rcases Rat.mul_eq_zero.mp this with q | q
  ·exact absurd q nz
  ·grind
 ·simp only
  have:D*(a2+t*(b2-a2)-(c2+u*(d2-c2)))=0:=by grind
  rcases Rat.mul_eq_zero.mp this with q | q
  ·exact absurd q nz
  ·grind
theorem meetM_common {S T A B:List P}(FA:HF S A)(FB:HF T B)(h:meetM A B=true):∃ x,In A x/\In B x:=by
 unfold meetM at h
 rw [Bool.or_eq_true,Bool.or_eq_true,List.any_eq_true,List.any_eq_true,List.any_eq_true] at h
 rcases h with (⟨p,hp,h⟩ | ⟨p,hp,h⟩) | ⟨s,hs,h⟩
 ·exact ⟨ca p,FA.inS (FA.sub p hp),(where_in FB p).mp (by simpa [holdsM] using h)⟩
 ·exact ⟨ca p,(where_in FA p).mp (by simpa [holdsM] using h),FB.inS (FB.sub p hp)⟩
 ·rw [List.any_eq_true] at h
  obtain ⟨o,ho,h⟩:=h
  rw [Bool.and_eq_true] at h
  rw [mem_sides] at hs ho
  obtain ⟨t,u,t0,t1,u0,u1,e⟩:=cross_common h.1 h.2
  refine ⟨mix t (ca s.1) (ca s.2),(FA.inS (FA.sub _ (FA.em _ hs).1)).mix (FA.inS (FA.sub _ (FA.em _ hs).2)) t0 t1,?_⟩
  rw [e]
  exact (FB.inS (FB.sub _ (FB.em _ ho).1)).mix (FB.inS (FB.sub _ (FB.em _ ho).2)) u0 u1
theorem mix_zero (x y:R2):mix 0 x y=x:=Prod.ext (by simp only [mix];grind) (by simp only [mix];grind)
theorem mix_one (x y:R2):mix 1 x y=y:=Prod.ext (by simp only [mix];grind) (by simp only [mix];grind)
theorem mix_signs {a b t:Rat}(t0:0 < t)(t1:t < 1)(h:(1-t)*a+t*b=0):(a=0/\b=0)\/(a < 0/\0 < b)\/(0 < a/\b < 0):=by
 rcases rlg a 0 with q | q
 ·right;left
  refine ⟨q,?_⟩
  have:=Rat.mul_pos (show 0 < 1-t by grind) (show 0 < -a by grind)
  exact rpos_of t0 (by grind)
 ·by_cases z:a=0
  ·left
   refine ⟨z,?_⟩
   rw [z] at h
   have:t*b=0:=by grind
   rcases Rat.mul_eq_zero.mp this with q | q
   ·grind
   ·exact q
  ·right;right
   have p:0 < a:=by grind
   refine ⟨p,?_⟩
   have:=Rat.mul_pos (show 0 < 1-t by grind) p
   have:=rpos_of t0 (b:=-b) (by grind)
   grind
theorem parted_cx (s o:P×P):parted s o=true↔(cx (ca s.1) (ca s.2) (ca o.1) < 0/\0 < cx (ca s.1) (ca s.2) (ca o.2))\/(0 < cx (ca s.1) (ca s.2) (ca o.1)/\cx (ca s.1) (ca s.2) (ca o.2) < 0):=by
 rw [parted_iff,cx_ca,cx_ca,ca_pos,ca_pos,ca_neg,ca_neg]
theorem collinear_cx {u v p q r:P}(h:u≠v)(hp:cx (ca u) (ca v) (ca p)=0)(hq:cx (ca u) (ca v) (ca q)=0)(hr:cx (ca u) (ca v) (ca r)=0):cx (ca p) (ca q) (ca r)=0:=by
 rw [cx_ca,ca_zero] at *
 exact collinear3 h hp hq hr
theorem cross_of {e f:P×P}{z:R2}{u v:Rat}(ne:e.1≠e.2)(nf:f.1≠f.2)(u0:0 < u)(u1:u < 1)(v0:0 < v)(v1:v < 1)(hu:z=mix u (ca f.1) (ca f.2))(hv:z=mix v (ca e.1) (ca e.2))(hn:cx (ca e.1) (ca e.2) (ca f.1)≠0) :
  parted e f=true/\parted f e=true:=by
 have z1:cx (ca e.1) (ca e.2) z=0:=by rw [hv,cx_mix];simp only [cx];grind
 have z2:cx (ca f.1) (ca f.2) z=0:=by rw [hu,cx_mix];simp only [cx];grind
 rw [hu,cx_mix] at z1
 rw [hv,cx_mix] at z2
 rw [parted_cx,parted_cx]
 constructor
 ·rcases mix_signs u0 u1 z1 with q | q
  ·exact absurd q.1 hn
  ·exact q
 ·rcases mix_signs v0 v1 z2 with q | q
  ·exact absurd (collinear_cx nf q.1 q.2 (by simp only [cx];grind)) hn
  ·exact q
theorem common_meetM {S T A B:List P}(FA:HF S A)(FB:HF T B){x:R2}(hA:In A x)(hB:In B x):meetM A B=true:=by
 by_cases cA:∃ p∈A,In B (ca p)
 ·obtain ⟨p,hp,h⟩:=cA
  have:A.any (fun p=>holdsM B p)=true:=List.any_eq_true.mpr ⟨p,hp,by simpa [holdsM] using (where_in FB p).mpr h⟩
  unfold meetM;rw [this];rfl
 by_cases cB:∃ p∈B,In A (ca p)
 ·obtain ⟨p,hp,h⟩:=cB
  have:B.any (fun p=>holdsM A p)=true:=List.any_eq_true.mpr ⟨p,hp,by simpa [holdsM] using (where_in FA p).mpr h⟩
  unfold meetM;rw [this,Bool.or_true];rfl
 have nA:∀ p∈A,¬ In B (ca p):=fun p hp q=>cA ⟨p,hp,q⟩
 have nB:∀ p∈B,¬ In A (ca p):=fun p hp q=>cB ⟨p,hp,q⟩
 suffices hh:∃ e∈edges A,∃ f∈edges B,parted e f=true/\parted f e=true by
  obtain ⟨e,he,f,hf,h1,h2⟩:=hh
  have:(sidesM A).any (fun s=>(sidesM B).any fun o=>parted s o && parted o s)=true :=
   List.any_eq_true.mpr ⟨e,mem_sides.mpr he,List.any_eq_true.mpr ⟨f,mem_sides.mpr hf,by rw [h1,h2];rfl⟩⟩
  unfold meetM;rw [this,Bool.or_true]
 have lA:2<=A.length:=by
  rcases len_cases A FA.ne with ⟨c,rfl⟩ | ⟨c,d,rfl⟩ | h3
  ·exact absurd (by rw [<- hA.one c rfl];exact hB) (nA c (by simp))
  ·simp
  ·omega
 have lB:2<=B.length:=by
  rcases len_cases B FB.ne with ⟨c,rfl⟩ | ⟨c,d,rfl⟩ | h3
  ·exact absurd (by rw [<- hB.one c rfl];exact hA) (nB c (by simp))
  ·simp
  ·omega
 obtain ⟨y,f,hf,yA,yB,yf⟩:∃ y f,f∈edges B/\In A y/\In B y/\Seg f y:=by
  rcases len_cases B FB.ne with ⟨c,rfl⟩ | ⟨c,d,rfl⟩ | h3
  ·simp at lB
  ·exact ⟨x,(c,d),by rw [edges_two];simp,hA,hB,hB.seg2⟩
  ·obtain ⟨a,ta,rfl⟩:=List.exists_cons_of_ne_nil FA.ne
   obtain ⟨t,t0,t1,hi,e,he,_,z⟩:=FB.exit3 h3 hB (nA a (by simp))
   exact ⟨_,e,he,hA.mix (FA.inS (FA.sub a (by simp))) t0 t1,hi,(hi.on e he).seg z⟩
 have nf:f.1≠f.2:=FB.neq lB f hf
 have f1:=(FB.em f hf).1
 have f2:=(FB.em f hf).2
 have strict:∀ {e:P×P} {z:R2},e∈edges A->In A z->In B z->Seg e z->Seg f z->∃ u v,0 < u/\u < 1/\0 < v/\v < 1/\z=mix u (ca f.1) (ca f.2)/\z=mix v (ca e.1) (ca e.2):=fun {e z} he zA zB ze zf=>by
  have ne:e.1≠e.2:=FA.neq lA e he
  obtain ⟨u,u0,u1,hu⟩:=zf.mix nf
  obtain ⟨v,v0,v1,hv⟩:=ze.mix ne
  have a1:u≠0:=fun q=>nB _ f1 (by rw [q,mix_zero] at hu;rw [<- hu];exact zA)
  have a2:u≠1:=fun q=>nB _ f2 (by rw [q,mix_one] at hu;rw [<- hu];exact zA)
  have a3:v≠0:=fun q=>nA _ (FA.em e he).1 (by rw [q,mix_zero] at hv;rw [<- hv];exact zB)
  have a4:v≠1:=fun q=>nA _ (FA.em e he).2 (by rw [q,mix_one] at hv;rw [<- hv];exact zB)
  exact ⟨u,v,by grind,by grind,by grind,by grind,hu,hv⟩
 rcases len_cases A FA.ne with ⟨c,rfl⟩ | ⟨c,d,rfl⟩ | h3
 ·simp at lA
 ·
  have he:(c,d)∈edges [c,d]:=by rw [edges_two];simp
  have ne:c≠d:=FA.neq lA (c,d) he
  have ye:Seg (c,d) y:=yA.seg2
  obtain ⟨u,v,u0,u1,v0,v1,hu,hv⟩:=strict he yA yB ye yf
  by_cases hz:cx (ca c) (ca d) (ca f.1)=0
  ·exfalso
   have z1:=ye.1
   rw [hu,cx_mix,hz] at z1
   have hz2:cx (ca c) (ca d) (ca f.2)=0:=by
    have:u*cx (ca c) (ca d) (ca f.2)=0:=by simp only at z1;grind
    rcases Rat.mul_eq_zero.mp this with q | q
    ·grind
    ·exact q
   have L0:0 < al (ca c) (ca d) (ca d):=by rw [al_ca,ca_pos];exact along_pos ne
   have inA:∀ p:P,cx (ca c) (ca d) (ca p)=0->0<=al (ca c) (ca d) (ca p)->al (ca c) (ca d) (ca p)<=al (ca c) (ca d) (ca d)->In [c,d] (ca p):=fun p k1 k2 k3=>by
    obtain ⟨t,t0,t1,e⟩:=Seg.mix (e:=(c,d)) (y:=ca p) ne ⟨k1,k2,k3⟩
    rw [e]
    exact (FA.inS (FA.sub c (by simp))).mix (FA.inS (FA.sub d (by simp))) t0 t1
   have y1:=ye.2.1
   have y2:=ye.2.2
   rw [hv,al_mix] at y1 y2
   have ey:(1-v)*al (ca c) (ca d) (ca c)+v*al (ca c) (ca d) (ca d)=(1-u)*al (ca c) (ca d) (ca f.1)+u*al (ca c) (ca d) (ca f.2):=by
    rw [<- al_mix,<- al_mix,<- hu];exact congrArg _ hv.symm
   have ez:al (ca c) (ca d) (ca c)=0:=by simp only [al];grind
   rw [ez] at ey
   have vp:=Rat.mul_pos v0 L0
   have vq:=Rat.mul_pos (show 0 < 1-v by grind) L0
   have n1:=fun a b=>nB _ f1 (inA f.1 hz a b)
   have n2:=fun a b=>nB _ f2 (inA f.2 hz2 a b)
   have opp:(al (ca c) (ca d) (ca f.1) < 0/\0 < al (ca c) (ca d) (ca f.2))\/(0 < al (ca c) (ca d) (ca f.1)/\al (ca c) (ca d) (ca f.2) < 0):=by
    rcases rlg (al (ca c) (ca d) (ca f.1)) 0 with q | q
    ·left
     refine ⟨q,?_⟩
     have:=Rat.mul_pos (show 0 < 1-u by grind) (show 0 < -al (ca c) (ca d) (ca f.1) by grind)
     exact rpos_of u0 (by grind)
    ·have big:al (ca c) (ca d) (ca d) < al (ca c) (ca d) (ca f.1):=by
      rcases rlg (al (ca c) (ca d) (ca d)) (al (ca c) (ca d) (ca f.1)) with r | r
      ·exact r
      ·exact absurd r (n1 q)
     right
     refine ⟨by grind,?_⟩
     rcases rlg (al (ca c) (ca d) (ca f.2)) 0 with r | r
     ·exact r
     ·have big2:al (ca c) (ca d) (ca d) < al (ca c) (ca d) (ca f.2):=by
       rcases rlg (al (ca c) (ca d) (ca d)) (al (ca c) (ca d) (ca f.2)) with w | w
       ·exact w
       ·exact absurd w (n2 r)
      have:=Rat.mul_pos (show 0 < 1-u by grind) (show 0 < al (ca c) (ca d) (ca f.1)-al (ca c) (ca d) (ca d) by grind)
      have:=Rat.mul_pos u0 (show 0 < al (ca c) (ca d) (ca f.2)-al (ca c) (ca d) (ca d) by grind)
      exfalso;grind
   obtain ⟨w,w0,w1,hw⟩:=share_of opp
   refine nA c (by simp) ?_
   have:ca c=mix w (ca f.1) (ca f.2):=by
    have k1:cx (ca c) (ca d) (mix w (ca f.1) (ca f.2))=0:=by rw [cx_mix,hz,hz2];grind
    have k2:al (ca c) (ca d) (mix w (ca f.1) (ca f.2))=0:=by rw [al_mix];grind
    obtain ⟨t,t0,t1,e⟩:=Seg.mix (e:=(c,d)) (y:=mix w (ca f.1) (ca f.2)) ne ⟨k1,by rw [k2];exact Rat.le_refl,by rw [k2];exact Rat.le_of_lt L0⟩
    have k3:=k2
    rw [e,al_mix,ez] at k3
    have:t=0:=by
     have:t*al (ca c) (ca d) (ca d)=0:=by simp only at k3;grind
     rcases Rat.mul_eq_zero.mp this with q | q
     ·exact q
     ·grind
    rw [e,this,mix_zero]
   rw [this]
   exact (FB.inS (FB.sub _ f1)).mix (FB.inS (FB.sub _ f2)) w0 w1
  ·obtain ⟨k1,k2⟩:=cross_of (e:=(c,d)) ne nf u0 u1 v0 v1 hu hv hz
   exact ⟨(c,d),he,f,hf,k1,k2⟩
 ·obtain ⟨t,t0,t1,zA,e,he,eneg,ez⟩:=FA.exit3 h3 yA (nB _ f1)
  have zB:In B (mix t y (ca f.1)):=yB.mix (FB.inS (FB.sub _ f1)) t0 t1
  have zf:Seg f (mix t y (ca f.1)):=by
   refine (zB.on f hf).seg ?_
   rw [cx_mix,yf.1]
   simp only [cx];grind
  obtain ⟨u,v,u0,u1,v0,v1,hu,hv⟩:=strict he zA zB ((zA.on e he).seg ez) zf
  obtain ⟨k1,k2⟩:=cross_of (FA.neq lA e he) nf u0 u1 v0 v1 hu hv (by grind)
  exact ⟨e,he,f,hf,k1,k2⟩
theorem mem_diff {l m:List P}{x:P}:x∈differences l m↔∃ p∈l,∃ q∈m,x=sub p q:=by
 unfold differences
 simp only [List.mem_flatMap,List.mem_map]
 constructor
 ·rintro ⟨p,hp,q,hq,rfl⟩;exact ⟨p,hp,q,hq,rfl⟩
 ·rintro ⟨p,hp,q,hq,rfl⟩;exact ⟨p,hp,q,hq,rfl⟩
def mns (x y:R2):R2:=(x.1-y.1,x.2-y.2)
theorem ca_sub (p q:P):ca (sub p q)=mns (ca p) (ca q):=by
 simp only [ca,sub,mns,Rat.intCast_sub]
theorem mns_mix (t:Rat)(a b c d:R2):mix t (mns a b) (mns c d)=mns (mix t a c) (mix t b d):=by
 simp only [mix,mns];exact Prod.ext (by grind) (by grind)
theorem common_diff {l m:List P}(hl:l≠[])(hm:m≠[]){x:R2}(hA:In (hull l) x)(hB:In (hull m) x):In (hull (differences l m)) (0,0):=by
 have FA:=hull_hf hl
 have FB:=hull_hf hm
 have hD:differences l m≠[]:=by
  obtain ⟨a,ta,rfl⟩:=List.exists_cons_of_ne_nil hl
  obtain ⟨b,tb,rfl⟩:=List.exists_cons_of_ne_nil hm
  simp [differences]
 have FD:=hull_hf hD
 have z:ca (0,0)=((0:Rat),(0:Rat)):=rfl
 rw [<- z]
 refine (where_in FD (0,0)).mp fun q=>?_
 obtain ⟨d,hd⟩:=sep_of_out q
 obtain ⟨a,ha,k1⟩:=FA.reach (ca d) hA
 obtain ⟨b,hb,k2⟩:=FB.reach (ca (ng d)) hB
 have:=hd (sub a b) (mem_diff.mpr ⟨a,FA.sub a ha,b,FB.sub b hb,rfl⟩)
 have e:((dt d (sub (sub a b) (0,0)):Int):Rat)=dq (ca d) (ca a)+dq (ca (ng d)) (ca b):=by
  simp only [dq,ca,dt,sub,ng,Rat.intCast_add,Rat.intCast_mul,Rat.intCast_sub,Rat.intCast_neg];grind
 have e2:dq (ca (ng d)) x = - dq (ca d) x:=by
  simp only [dq,ca,ng,Rat.intCast_neg];grind
 rw [<- ca_pos,e] at this
 grind
theorem bound_q {α:Type}(f:α->Rat):∀ L:List α,∃ N:Rat,0<=N/\∀ x∈L,f x<=N
 | []=>⟨0,Rat.le_refl,by simp⟩
 | a::L=>by
  obtain ⟨N,h0,h⟩:=bound_q f L
  rcases rlg N (f a) with q | q
  ·exact ⟨f a,by grind,fun x hx=>by
    rcases List.mem_cons.mp hx with rfl | hx
    ·exact Rat.le_refl
    ·have:=h x hx;grind⟩
  ·exact ⟨N,h0,fun x hx=>by
    rcases List.mem_cons.mp hx with rfl | hx
    ·exact q
    ·exact h x hx⟩
theorem diff_common {l m:List P}(hl:l≠[])(hm:m≠[])(hD:differences l m≠[])(h0:In (hull (differences l m)) (0,0)):∃ x,In (hull l) x/\In (hull m) x:=by
 have FA:=hull_hf hl
 have FB:=hull_hf hm
 have FD:=hull_hf hD
 have rep:∀ v∈hull (differences l m),∃ a b,In (hull l) a/\In (hull m) b/\ca v=mns a b:=fun v hv=>by
  obtain ⟨p,hp,q,hq,rfl⟩:=mem_diff.mp (FD.sub v hv)
  exact ⟨ca p,ca q,FA.inS hp,FB.inS hq,ca_sub p q⟩
 have fin:∀ a b:R2,In (hull l) a->In (hull m) b->((0:Rat),(0:Rat))=mns a b->∃ x,In (hull l) x/\In (hull m) x:=fun a b ha hb e=>by
  refine ⟨a,ha,?_⟩
  have:a=b:=by
   simp only [mns,Prod.mk.injEq] at e
   exact Prod.ext (by grind) (by grind)
  rw [this];exact hb
 rcases len_cases _ FD.ne with ⟨c,hc⟩ | ⟨c,d,hc⟩ | h3
 ·obtain ⟨a,b,ha,hb,e⟩:=rep c (by rw [hc];simp)
  exact fin a b ha hb (by rw [<- e];exact h0.one c hc)
 ·obtain ⟨a,b,ha,hb,e⟩:=rep c (by rw [hc];simp)
  obtain ⟨a',b',ha',hb',e'⟩:=rep d (by rw [hc];simp)
  rw [hc] at h0 FD
  obtain ⟨t,t0,t1,et⟩:=h0.seg2.mix (FD.neq (by simp) (c,d) (by rw [edges_two];simp))
  simp only at et
  rw [e,e',mns_mix] at et
  exact fin _ _ (ha.mix ha' t0 t1) (hb.mix hb' t0 t1) et
 ·obtain ⟨v,tv,hv⟩:=List.exists_cons_of_ne_nil FD.ne
  have mv:v∈hull (differences l m):=by rw [hv];simp
  obtain ⟨a,b,ha,hb,ev⟩:=rep v mv
  by_cases vz:ca v=(0,0)
  ·exact fin a b ha hb (by rw [<- ev];exact vz.symm)
  ·
   obtain ⟨N,N0,hN⟩:=bound_q (fun u:P=>- dq (ca v) (ca u)) (hull (differences l m))
   have vp:0 < dq (ca v) (ca v):=by
    have h1:0 < dt v v:=by
     refine sq2_pos (a:=v.1) (b:=v.2) ?_
     by_cases q:v.1=0
     ·right;intro q2
      exact vz (by simp only [ca,q,q2];rfl)
     ·exact .inl q
    have:dq (ca v) (ca v)=((dt v v:Int):Rat):=by simp only [dq,ca,dt,Rat.intCast_add,Rat.intCast_mul]
    rw [this,ca_pos];exact h1
   obtain ⟨k,hk⟩:=rdiv (a:=N+1) vp
   have k0:0<=k:=rnn_of vp (by grind)
   have out:¬ In (hull (differences l m)) (-k*(ca v).1,-k*(ca v).2):=fun q=>by
    obtain ⟨u,hu,hle⟩:=FD.reach (ca v) q
    have:=hN u hu
    have e:dq (ca v) (-k*(ca v).1,-k*(ca v).2) = -(k*dq (ca v) (ca v)):=by simp only [dq];grind
    rw [e] at hle
    grind
   obtain ⟨t,t0,t1,hi,e,he,_,z⟩:=FD.exit3 h3 h0 out
   have sg:=(hi.on e he).seg z
   obtain ⟨w,w0,w1,ew⟩:=sg.mix (FD.neq (by omega) e he)
   obtain ⟨a1,b1,ha1,hb1,e1⟩:=rep e.1 (FD.em e he).1
   obtain ⟨a2,b2,ha2,hb2,e2⟩:=rep e.2 (FD.em e he).2
   rw [e1,e2,mns_mix] at ew
   have hpos:0 < 1+t*k:=by have:=rnn_mul t0 k0;grind
   obtain ⟨r,hr⟩:=rdiv (a:=1) hpos
   have r0:0<=r:=rnn_of hpos (by grind)
   have r1:r<=1:=by
    have:=rnn_mul t0 k0
    have:=rnn_of hpos (b:=1-r) (by grind)
    grind
   refine fin (mix r a (mix w a1 a2)) (mix r b (mix w b1 b2)) (ha.mix (ha1.mix ha2 w0 w1) r0 r1) (hb.mix (hb1.mix hb2 w0 w1) r0 r1) ?_
   rw [<- mns_mix,<- ew,<- ev]
   simp only [mix]
   refine Prod.ext ?_ ?_
   ·show (0:Rat)=(ca v).1+r*(0+t*(-k*(ca v).1-0)-(ca v).1)
    grind
   ·show (0:Rat)=(ca v).2+r*(0+t*(-k*(ca v).2-0)-(ca v).2)
    grind
theorem meet_iff {l m:List P}(hl:l≠[])(hm:m≠[]):meet l m=true↔∃ x,In (hull l) x/\In (hull m) x:=by
 have hD:differences l m≠[]:=by
  obtain ⟨a,ta,rfl⟩:=List.exists_cons_of_ne_nil hl
  obtain ⟨b,tb,rfl⟩:=List.exists_cons_of_ne_nil hm
  simp [differences]
 have e:meet l m=true↔In (hull (differences l m)) (0,0):=by
  have:=where_in (hull_hf hD) (0,0)
  rw [show ca (0,0)=((0:Rat),(0:Rat)) from rfl] at this
  rw [<- this]
  unfold meet
  simp
 rw [e]
 exact ⟨diff_common hl hm hD,fun ⟨x,h1,h2⟩=>common_diff hl hm h1 h2⟩
theorem meet_ok (l m:List P):meetM (hull l) (hull m)=meet l m:=by
 by_cases hl:l=[]
 ·subst hl
  rw [hull_nil]
  have:meet [] m=false:=rfl
  rw [this]
  unfold meetM
  have e1:(hull m).any (fun p=>holdsM [] p)=false:=by
   rw [List.any_eq_false];intro p _;simp [holdsM,where_nil]
  rw [e1];rfl
 by_cases hm:m=[]
 ·subst hm
  rw [hull_nil]
  have:meet l []=false:=by
   unfold meet differences
   have:(l.flatMap fun p=>([]:List P).map fun q=>(p.1-q.1,p.2-q.2))=[]:=by simp
   rw [this];rfl
  rw [this]
  unfold meetM
  have e1:(hull l).any (fun p=>holdsM [] p)=false:=by
   rw [List.any_eq_false];intro p _;simp [holdsM,where_nil]
  rw [e1]
  simp [sidesM]
 rw [Bool.eq_iff_iff,meet_iff hl hm]
 exact ⟨meetM_common (hull_hf hl) (hull_hf hm),fun ⟨x,h1,h2⟩=>common_meetM (hull_hf hl) (hull_hf hm) h1 h2⟩
end G
namespace G
open Vbecap (cross hull edges whereIs differences meet frac lessF Frac farFrom gap dot)
def val (f:Frac):Rat:=(f.1:Rat) / (f.2:Rat)
structure Low (f:Frac):Prop where
 pos:0 < f.2
 cop:Nat.gcd f.1.natAbs f.2.natAbs=1
theorem ca_ne {a:Int}(h:a≠0):(a:Rat)≠0:=fun q=>h (ca_zero.mp q)
theorem frac_pos (a:Int){b:Int}(h:0 < b):frac a b=(a / ((Nat.gcd a.natAbs b.natAbs:Nat):Int),b / ((Nat.gcd a.natAbs b.natAbs:Nat):Int)):=by
 unfold frac
 rw [if_neg (by omega)]
 simp only
 rw [if_neg (by omega)]
theorem frac_neg (a:Int){b:Int}(h:b < 0):frac a b=frac (-a) (-b):=by
 rw [frac_pos (-a) (show 0 < -b by omega)]
 unfold frac
 rw [if_neg (by omega)]
 simp only
 rw [if_pos (by omega),Int.natAbs_neg,Int.natAbs_neg]
theorem gcd_pos' (a:Int){b:Int}(h:0 < b):0 < Nat.gcd a.natAbs b.natAbs:=Nat.gcd_pos_of_pos_right _ (by omega)
theorem frac_parts (a:Int){b:Int}(h:0 < b):∃ g:Nat,0 < g/\a=(frac a b).1*g/\b=(frac a b).2*g/\g=Nat.gcd a.natAbs b.natAbs:=by
 refine ⟨Nat.gcd a.natAbs b.natAbs,gcd_pos' a h,?_,?_,rfl⟩
 ·rw [frac_pos a h]
  simp only
  exact (Int.ediv_mul_cancel (Int.ofNat_dvd_left.mpr (Nat.gcd_dvd_left _ _))).symm
 ·rw [frac_pos a h]
  simp only
  exact (Int.ediv_mul_cancel (Int.ofNat_dvd_left.mpr (Nat.gcd_dvd_right _ _))).symm
theorem low_frac (a:Int){b:Int}(h:0 < b):Low (frac a b):=by
 obtain ⟨g,g0,ha,hb,hg⟩:=frac_parts a h
 refine ⟨?_,?_⟩
 ·have:(0:Int) < g:=by omega
  rcases lg 0 (frac a b).2 with q | q
  ·exact q
  ·have:=Int.mul_nonneg (show 0<=-(frac a b).2 by omega) (Int.le_of_lt this);grind
 ·have e1:a.natAbs=(frac a b).1.natAbs*g:=by rw [ha,Int.natAbs_mul];simp [<- ha]
  have e2:b.natAbs=(frac a b).2.natAbs*g:=by
   have:=congrArg Int.natAbs hb
   rw [Int.natAbs_mul] at this
   simpa using this
  have e1':a.natAbs=(frac a b).1.natAbs*g:=by
   have:=congrArg Int.natAbs ha
   rw [Int.natAbs_mul] at this
   simpa using this
  have:g=Nat.gcd (frac a b).1.natAbs (frac a b).2.natAbs*g:=by
   rw [<- Nat.gcd_mul_right,<- e1',<- e2];exact hg
  have:(Nat.gcd (frac a b).1.natAbs (frac a b).2.natAbs)*g=1*g:=by omega
  exact Nat.eq_of_mul_eq_mul_right g0 this
theorem val_frac_pos (a:Int){b:Int}(h:0 < b):val (frac a b)=(a:Rat) / b:=by
 obtain ⟨g,g0,ha,hb,_⟩:=frac_parts a h
 have p:=(low_frac a h).pos
 unfold val
 have n1:((frac a b).2:Rat)≠0:=ca_ne (by omega)
 have n2:(((g:Nat):Int):Rat)≠0:=ca_ne (by omega)
 have ea:(a:Rat)=((frac a b).1:Rat)*(((g:Nat):Int):Rat):=by rw [<- Rat.intCast_mul,<- ha]
 have eb:(b:Rat)=((frac a b).2:Rat)*(((g:Nat):Int):Rat):=by rw [<- Rat.intCast_mul,<- hb]
 rw [ea,eb]
 grind
theorem low_any (a b:Int):Low (frac a b):=by
 rcases lg b 0 with h | h
 ·rw [frac_neg a h];exact low_frac _ (by omega)
 ·by_cases q:b=0
  ·subst q
   have:frac a 0=(0,1):=by unfold frac;rfl
   rw [this]
   exact ⟨by decide,by decide⟩
  ·exact low_frac a (by omega)
theorem val_frac (a:Int){b:Int}(h:b≠0):val (frac a b)=(a:Rat) / b:=by
 rcases lg b 0 with q | q
 ·rw [frac_neg a q,val_frac_pos _ (show 0 < -b by omega),Rat.intCast_neg,Rat.intCast_neg]
  have:(b:Rat)≠0:=ca_ne h
  grind
 ·exact val_frac_pos a (by omega)
theorem low_inj {f g:Frac}(hf:Low f)(hg:Low g)(h:val f=val g):f=g:=by
 have n1:(f.2:Rat)≠0:=ca_ne (by have:=hf.pos;omega)
 have n2:(g.2:Rat)≠0:=ca_ne (by have:=hg.pos;omega)
 have e:f.1*g.2=g.1*f.2:=by
  unfold val at h
  have:(f.1:Rat)*g.2=g.1*f.2:=by grind
  rw [<- Rat.intCast_mul,<- Rat.intCast_mul,Rat.intCast_inj] at this
  exact this
 have e':f.1.natAbs*g.2.natAbs=g.1.natAbs*f.2.natAbs:=by
  have:=congrArg Int.natAbs e
  rwa [Int.natAbs_mul,Int.natAbs_mul] at this
 have d1:f.2.natAbs ∣ g.2.natAbs:=by
  have:f.2.natAbs ∣ f.1.natAbs*g.2.natAbs:=by rw [e'];exact Nat.dvd_mul_left _ _
  exact Nat.Coprime.dvd_of_dvd_mul_left (k:=f.2.natAbs) (m:=f.1.natAbs) (by rw [Nat.coprime_comm];exact hf.cop) this
 have d2:g.2.natAbs ∣ f.2.natAbs:=by
  have:g.2.natAbs ∣ g.1.natAbs*f.2.natAbs:=by rw [<- e'];exact Nat.dvd_mul_left _ _
  exact Nat.Coprime.dvd_of_dvd_mul_left (k:=g.2.natAbs) (m:=g.1.natAbs) (by rw [Nat.coprime_comm];exact hg.cop) this
 have d:=Nat.dvd_antisymm d1 d2
 have p1:=hf.pos
 have p2:=hg.pos
 have e2:f.2=g.2:=by omega
 have e1:f.1=g.1:=by
  rw [e2] at e
  exact Int.eq_of_mul_eq_mul_right (by omega) e
 exact Prod.ext e1 e2
theorem less_val {a b:Frac}(ha:0 < a.2)(hb:0 < b.2):lessF a b=true↔val a < val b:=by
 unfold lessF val
 rw [decide_eq_true_iff,<- Rat.intCast_lt_intCast,Rat.intCast_mul,Rat.intCast_mul]
 have pa:0 < (a.2:Rat):=ca_pos.mpr ha
 have pb:0 < (b.2:Rat):=ca_pos.mpr hb
 have e1:(a.1:Rat) / a.2*a.2=a.1:=by grind
 have e2:(b.1:Rat) / b.2*b.2=b.1:=by grind
 generalize (a.1:Rat) / a.2=u at *
 generalize (b.1:Rat) / b.2=v at *
 rw [<- e1,<- e2]
 have pp:=Rat.mul_pos pa pb
 constructor
 ·intro h
  rcases rlg u v with q | q
  ·exact q
  ·have:=rnn_mul (Rat.le_of_lt pp) (show 0<=u-v by grind);grind
 ·intro h
  have:=Rat.mul_pos pp (show 0 < v-u by grind)
  grind
theorem fold_least {α:Type}(f:α->Frac):∀ (L:List α) (b:Frac),0 < b.2->(∀ x∈L,0 < (f x).2) ->
  (L.foldl (fun b x=>if lessF (f x) b=true then f x else b) b=b\/∃ x∈L,L.foldl (fun b x=>if lessF (f x) b=true then f x else b) b=f x) /\
  val (L.foldl (fun b x=>if lessF (f x) b=true then f x else b) b)<=val b/\∀ x∈L,val (L.foldl (fun b x=>if lessF (f x) b=true then f x else b) b)<=val (f x)
 | [],b,_,_=>⟨.inl rfl,Rat.le_refl,by simp⟩
 | a::L,b,hb,hf=>by
  have fa:=hf a (by simp)
  have hf':∀ x∈L,0 < (f x).2:=fun x hx=>hf x (by simp [hx])
  rw [List.foldl_cons]
  by_cases q:lessF (f a) b=true
  ·rw [if_pos q]
   obtain ⟨h1,h2,h3⟩:=fold_least f L (f a) fa hf'
   have:=(less_val fa hb).mp q
   refine ⟨.inr ?_,by grind,fun x hx=>?_⟩
   ·rcases h1 with h | ⟨x,hx,h⟩
    ·exact ⟨a,by simp,h⟩
    ·exact ⟨x,by simp [hx],h⟩
   ·rcases List.mem_cons.mp hx with rfl | hx
    ·exact h2
    ·exact h3 x hx
  ·rw [if_neg q]
   obtain ⟨h1,h2,h3⟩:=fold_least f L b hb hf'
   have:val b<=val (f a):=by
    rcases rlg (val (f a)) (val b) with z | z
    ·exact absurd ((less_val fa hb).mpr z) q
    ·exact z
   refine ⟨?_,h2,fun x hx=>?_⟩
   ·rcases h1 with h | ⟨x,hx,h⟩
    ·exact .inl h
    ·exact .inr ⟨x,by simp [hx],h⟩
   ·rcases List.mem_cons.mp hx with rfl | hx
    ·grind
    ·exact h3 x hx
def wayM (s:P×P)(p:P):Frac :=
 if along s.1 s.2 p<=0 then (along s.1 p p,1) else if along s.1 s.2 s.2<=along s.1 s.2 p then (along s.2 p p,1) else (cross s.1 s.2 p ^ 2,along s.1 s.2 s.2)
theorem way_pos (s:P×P)(p:P):0 < (wayM s p).2:=by
 unfold wayM
 split
 ·show (0:Int) < 1;decide
 ·split
  ·show (0:Int) < 1;decide
  ·show 0 < along s.1 s.2 s.2;omega
def nrm (x:R2):Rat:=x.1*x.1+x.2*x.2
theorem nrm_nn (x:R2):0<=nrm x:=by
 have h:∀ a:Rat,0<=a*a:=fun a=>by
  rcases rlg a 0 with q | q
  ·have:=rnn_mul (show 0<=-a by grind) (show 0<=-a by grind);grind
  ·exact rnn_mul q q
 have:=h x.1
 have:=h x.2
 unfold nrm;grind
theorem val_way (s:P×P)(p:P):(∀ t,0<=t->t<=1->val (wayM s p)<=nrm (mns (mix t (ca s.1) (ca s.2)) (ca p)))/\∃ t,0<=t/\t<=1/\val (wayM s p)=nrm (mns (mix t (ca s.1) (ca s.2)) (ca p)):=by
 obtain ⟨a,b⟩:=s
 have f:∀ t,nrm (mns (mix t (ca a) (ca b)) (ca p))=al (ca a) (ca p) (ca p)-2*t*al (ca a) (ca b) (ca p)+t*t*al (ca a) (ca b) (ca b):=fun t=>by
  simp only [nrm,mns,mix,al];grind
 have L0:0<=al (ca a) (ca b) (ca b):=by
  rw [al_ca,ca_nn]
  have a1:=sq_nn (b.1-a.1)
  have b1:=sq_nn (b.2-a.2)
  unfold along;omega
 have one:∀ n:Int,val (n,1)=(n:Rat):=fun n=>by unfold val;show (n:Rat) / ((1:Int):Rat)=n;rw [show ((1:Int):Rat)=1 from rfl];grind
 unfold wayM
 simp only
 by_cases h1:along a b p<=0
 ·rw [if_pos h1,one,<- al_ca]
  have h1':al (ca a) (ca b) (ca p)<=0:=by rw [al_ca,show (0:Rat)=((0:Int):Rat) from rfl,ca_le];exact h1
  refine ⟨fun t t0 t1=>?_,0,Rat.le_refl,by grind,by rw [f];grind⟩
  rw [f]
  have c1:=rnn_mul t0 (show 0<=- al (ca a) (ca b) (ca p) by grind)
  have c2:=rnn_mul (rnn_mul t0 t0) L0
  grind
 ·rw [if_neg h1]
  have p1:0 < al (ca a) (ca b) (ca p):=by rw [al_ca,ca_pos];omega
  by_cases h2:along a b b<=along a b p
  ·rw [if_pos h2,one,<- al_ca]
   have h2':al (ca a) (ca b) (ca b)<=al (ca a) (ca b) (ca p):=by rw [al_ca,al_ca,ca_le];exact h2
   have eb:al (ca b) (ca p) (ca p)=al (ca a) (ca p) (ca p)-2*al (ca a) (ca b) (ca p)+al (ca a) (ca b) (ca b):=by simp only [al];grind
   refine ⟨fun t t0 t1=>?_,1,by grind,Rat.le_refl,by rw [f,eb];grind⟩
   rw [f,eb]
   have c1:=rnn_mul (show 0<=1-t by grind) (show 0<=2*(al (ca a) (ca b) (ca p)-al (ca a) (ca b) (ca b))+(1-t)*al (ca a) (ca b) (ca b) by
    have:=rnn_mul (show 0<=1-t by grind) L0
    grind)
   grind
  ·rw [if_neg h2]
   have p2:0 < al (ca a) (ca b) (ca b):=by rw [al_ca,ca_pos];omega
   have h2':al (ca a) (ca b) (ca p)<=al (ca a) (ca b) (ca b):=by rw [al_ca,al_ca,ca_le];omega
   have v:val (cross a b p ^ 2,along a b b)*al (ca a) (ca b) (ca b)=cx (ca a) (ca b) (ca p)*cx (ca a) (ca b) (ca p):=by
    unfold val
    simp only
    rw [al_ca,cx_ca,<- Rat.intCast_mul,Int.pow_succ,Int.pow_succ,Int.pow_zero,Int.one_mul]
    have:((along a b b:Int):Rat)≠0:=ca_ne (by omega)
    grind
   have lag:cx (ca a) (ca b) (ca p)*cx (ca a) (ca b) (ca p)=al (ca a) (ca p) (ca p)*al (ca a) (ca b) (ca b)-al (ca a) (ca b) (ca p)*al (ca a) (ca b) (ca p):=by simp only [cx,al];grind
   constructor
   ·intro t t0 t1
    rw [f]
    have sq:0<=(t*al (ca a) (ca b) (ca b)-al (ca a) (ca b) (ca p))*(t*al (ca a) (ca b) (ca b)-al (ca a) (ca b) (ca p)):=by
     have:=nrm_nn (t*al (ca a) (ca b) (ca b)-al (ca a) (ca b) (ca p),0)
     unfold nrm at this;grind
    have:=rnn_of p2 (b:=al (ca a) (ca p) (ca p)-2*t*al (ca a) (ca b) (ca p)+t*t*al (ca a) (ca b) (ca b)-val (cross a b p ^ 2,along a b b)) (by grind)
    grind
   ·obtain ⟨t,ht⟩:=rdiv (a:=al (ca a) (ca b) (ca p)) p2
    refine ⟨t,rnn_of p2 (by grind),?_,?_⟩
    ·have:=rnn_of p2 (b:=1-t) (by grind);grind
    ·rw [f]
     have:al (ca a) (ca b) (ca b)*(val (cross a b p ^ 2,along a b b)-(al (ca a) (ca p) (ca p)-2*t*al (ca a) (ca b) (ca p)+t*t*al (ca a) (ca b) (ca b)))=0:=by grind
     rcases Rat.mul_eq_zero.mp this with q | q
     ·grind
     ·grind
theorem far_low (p q:P):Low (farFrom p q):=by
 unfold farFrom
 simp only
 split
 ·exact ⟨by show (0:Int) < 1;decide,by show Nat.gcd _ 1=1;exact Nat.gcd_one_right _⟩
 ·split
  ·exact ⟨by show (0:Int) < 1;decide,by show Nat.gcd _ 1=1;exact Nat.gcd_one_right _⟩
  ·exact low_any _ _
theorem val_far (p q:P):val (farFrom p q)=val (wayM (p,q) (0,0)):=by
 unfold farFrom wayM
 simp only
 have e1 : -(dot p (q.1-p.1,q.2-p.2))=along p q (0,0):=by unfold dot along;grind
 have e2:dot (q.1-p.1,q.2-p.2) (q.1-p.1,q.2-p.2)=along p q q:=by unfold dot along;rfl
 have e3:dot p p=along p (0,0) (0,0):=by unfold dot along;grind
 have e4:dot q q=along q (0,0) (0,0):=by unfold dot along;grind
 have e5:cross (0,0) p q=cross p q (0,0):=by unfold cross;grind
 rw [e1,e2,e3,e4,e5]
 by_cases h1:along p q (0,0)<=0
 ·rw [if_pos h1,if_pos h1];rfl
 ·rw [if_neg h1,if_neg h1]
  by_cases h2:along p q q<=along p q (0,0)
  ·rw [if_pos h2,if_pos h2];rfl
  ·rw [if_neg h2,if_neg h2,val_frac _ (by omega)]
   unfold val
   simp only
   rw [Int.pow_succ,Int.pow_succ,Int.pow_zero,Int.one_mul]
theorem ways_near {a b c d:R2}{u v:Rat}(u0:0<=u)(u1:u<=1)(v0:0<=v)(v1:v<=1)(hn:¬ ∃ s t,0<=s/\s<=1/\0<=t/\t<=1/\mix s a b=mix t c d) :
  ∃ s t,0<=s/\s<=1/\0<=t/\t<=1/\(s=0\/s=1\/t=0\/t=1)/\nrm (mns (mix s a b) (mix t c d))<=nrm (mns (mix u a b) (mix v c d)):=by
 have go:∀ u' v':Rat,¬ (0<=u'/\u'<=1/\0<=v'/\v'<=1)->(∀ r,0<=r->r<=1->nrm (mns (mix (u+r*(u'-u)) a b) (mix (v+r*(v'-v)) c d))<=nrm (mns (mix u a b) (mix v c d))) ->
   ∃ s t,0<=s/\s<=1/\0<=t/\t<=1/\(s=0\/s=1\/t=0\/t=1)/\nrm (mns (mix s a b) (mix t c d))<=nrm (mns (mix u a b) (mix v c d)):=fun u' v' out near=>by
  obtain ⟨r,r0,r1,i,hi,_,hz,all⟩:=first_out (fun i:Nat=>if i=0 then u else if i=1 then 1-u else if i=2 then v else 1-v) (fun i:Nat=>if i=0 then u' else if i=1 then 1-u' else if i=2 then v' else 1-v') [0,1,2,3]
   (fun i hi=>by
    simp at hi
    rcases hi with rfl | rfl | rfl | rfl
    ·exact u0
    ·show 0<=1-u;grind
    ·exact v0
    ·show 0<=1-v;grind) (by
    by_cases q0:u' < 0
    ·exact ⟨0,by simp,q0⟩
    by_cases q1:1-u' < 0
    ·exact ⟨1,by simp,q1⟩
    by_cases q2:v' < 0
    ·exact ⟨2,by simp,q2⟩
    by_cases q3:1-v' < 0
    ·exact ⟨3,by simp,q3⟩
    exact absurd ⟨by grind,by grind,by grind,by grind⟩ out)
  have a0:=all 0 (by simp)
  have a1:=all 1 (by simp)
  have a2:=all 2 (by simp)
  have a3:=all 3 (by simp)
  have a0':0<=(1-r)*u+r*u':=a0
  have a1':0<=(1-r)*(1-u)+r*(1-u'):=a1
  have a2':0<=(1-r)*v+r*v':=a2
  have a3':0<=(1-r)*(1-v)+r*(1-v'):=a3
  refine ⟨u+r*(u'-u),v+r*(v'-v),by grind,by grind,by grind,by grind,?_,near r r0 r1⟩
  simp at hi
  rcases hi with rfl | rfl | rfl | rfl
  ·have:(1-r)*u+r*u'=0:=hz
   left;grind
  ·have:(1-r)*(1-u)+r*(1-u')=0:=hz
   right;left;grind
  ·have:(1-r)*v+r*v'=0:=hz
   right;right;left;grind
  ·have:(1-r)*(1-v)+r*(1-v')=0:=hz
   right;right;right;grind
 obtain ⟨a1,a2⟩:=a
 obtain ⟨b1,b2⟩:=b
 obtain ⟨c1,c2⟩:=c
 obtain ⟨d1,d2⟩:=d
 by_cases hD:(b1-a1)*(d2-c2)-(b2-a2)*(d1-c1)=0
 ·
  by_cases hf:(d1-c1)*(d1-c1)+(d2-c2)*(d2-c2)=0
  ·
   have z:d1-c1=0/\d2-c2=0:=by
    have h:∀ x y:Rat,x*x+y*y=0->x=0:=fun x y h=>by
     have n1:=nrm_nn (x,0)
     have n2:=nrm_nn (0,y)
     unfold nrm at n1 n2
     have:x*x=0:=by simp only at n1 n2;grind
     rcases Rat.mul_eq_zero.mp this with q | q<;>exact q
    exact ⟨h _ _ hf,h (d2-c2) (d1-c1) (by grind)⟩
   refine ⟨u,0,u0,u1,Rat.le_refl,by grind,.inr (.inr (.inl rfl)),?_⟩
   have e:mix 0 (c1,c2) (d1,d2)=mix v (c1,c2) (d1,d2):=by
    simp only [mix]
    rw [z.1,z.2]
    exact Prod.ext (by simp only;grind) (by simp only;grind)
   rw [e]
   exact Rat.le_refl
  ·have fp:0 < (d1-c1)*(d1-c1)+(d2-c2)*(d2-c2):=by
    have:=nrm_nn (d1-c1,d2-c2)
    unfold nrm at this
    simp only at this
    grind
   obtain ⟨k,hk⟩:=rdiv (a:=2) fp
   refine go (u+k*((d1-c1)*(d1-c1)+(d2-c2)*(d2-c2))) (v+k*((b1-a1)*(d1-c1)+(b2-a2)*(d2-c2))) (fun q=>by grind) fun r _ _=>?_
   have e:mns (mix (u+r*(u+k*((d1-c1)*(d1-c1)+(d2-c2)*(d2-c2))-u)) (a1,a2) (b1,b2)) (mix (v+r*(v+k*((b1-a1)*(d1-c1)+(b2-a2)*(d2-c2))-v)) (c1,c2) (d1,d2))=mns (mix u (a1,a2) (b1,b2)) (mix v (c1,c2) (d1,d2)):=by
    simp only [mns,mix]
    refine Prod.ext ?_ ?_<;>simp only<;>grind
   rw [e]
   exact Rat.le_refl
 ·generalize hDD:(b1-a1)*(d2-c2)-(b2-a2)*(d1-c1)=D at hD
  obtain ⟨x,hx⟩:∃ x,x*D=(c1-a1)*(d2-c2)-(c2-a2)*(d1-c1):=⟨((c1-a1)*(d2-c2)-(c2-a2)*(d1-c1)) / D,by grind⟩
  obtain ⟨y,hy⟩:∃ y,y*D=(c1-a1)*(b2-a2)-(c2-a2)*(b1-a1):=⟨((c1-a1)*(b2-a2)-(c2-a2)*(b1-a1)) / D,by grind⟩
  have m1:a1+x*(b1-a1)=c1+y*(d1-c1):=by
   have:D*(a1+x*(b1-a1)-(c1+y*(d1-c1)))=0:=by grind
   rcases Rat.mul_eq_zero.mp this with q | q
   ·exact absurd q hD
   ·grind
  have m2:a2+x*(b2-a2)=c2+y*(d2-c2):=by
   have:D*(a2+x*(b2-a2)-(c2+y*(d2-c2)))=0:=by grind
   rcases Rat.mul_eq_zero.mp this with q | q
   ·exact absurd q hD
   ·grind
  refine go x y (fun q=>hn ⟨x,y,q.1,q.2.1,q.2.2.1,q.2.2.2,by simp only [mix];rw [m1,m2]⟩) fun r r0 r1=>?_
  have e:nrm (mns (mix (u+r*(x-u)) (a1,a2) (b1,b2)) (mix (v+r*(y-v)) (c1,c2) (d1,d2)))=(1-r)*(1-r)*nrm (mns (mix u (a1,a2) (b1,b2)) (mix v (c1,c2) (d1,d2))):=by
   have g1:a1+(u+r*(x-u))*(b1-a1)-(c1+(v+r*(y-v))*(d1-c1))=(1-r)*(a1+u*(b1-a1)-(c1+v*(d1-c1))):=by grind
   have g2:a2+(u+r*(x-u))*(b2-a2)-(c2+(v+r*(y-v))*(d2-c2))=(1-r)*(a2+u*(b2-a2)-(c2+v*(d2-c2))):=by grind
   simp only [nrm,mns,mix]
   rw [g1,g2]
   grind
  rw [e]
  have n:=nrm_nn (mns (mix u (a1,a2) (b1,b2)) (mix v (c1,c2) (d1,d2)))
  have:=rnn_mul (rnn_mul r0 (show 0<=2-r by grind)) n
  grind
def waysM (A B:List P):List Frac:=A.flatMap fun p=>(sidesM B).map fun s=>wayM s p
def leastM (sq:List Frac):Frac:=sq.foldl (fun b x=>if lessF x b=true then x else b) (sq.headD (0,1))
def gapM (A B:List P):Frac:=if meetM A B=true then (0,1) else frac (leastM (waysM A B++waysM B A)).1 (leastM (waysM A B++waysM B A)).2
theorem mem_ways {A B:List P}{f:Frac}:f∈waysM A B↔∃ p∈A,∃ s∈edges B,f=wayM s p:=by
 unfold waysM
 simp only [List.mem_flatMap,List.mem_map,mem_sides]
 constructor
 ·rintro ⟨p,hp,s,hs,rfl⟩;exact ⟨p,hp,s,hs,rfl⟩
 ·rintro ⟨p,hp,s,hs,rfl⟩;exact ⟨p,hp,s,hs,rfl⟩
theorem In.mixE {S h:List P}(F:HF S h){e:P×P}(he:e∈edges h){y:R2}(hy:In h y)(hs:Seg e y):∃ t,0<=t/\t<=1/\y=G.mix t (ca e.1) (ca e.2):=by
 by_cases l:2<=h.length
 ·exact hs.mix (F.neq l e he)
 ·rcases len_cases h F.ne with ⟨c,rfl⟩ | ⟨c,d,rfl⟩ | h3
  ·have:e=(c,c):=by rw [edges_one] at he;simpa using he
   subst this
   exact ⟨0,Rat.le_refl,by grind,by rw [mix_zero];exact hy.one c rfl⟩
  ·simp at l
  ·omega
theorem nrm_mix_zero (t:Rat)(x:R2)(t0:0<=t)(t1:t<=1):nrm (mix t x (0,0))<=nrm x:=by
 have e:nrm (mix t x (0,0))=(1-t)*(1-t)*nrm x:=by simp only [nrm,mix];grind
 rw [e]
 have:=rnn_mul (rnn_mul t0 (show 0<=2-t by grind)) (nrm_nn x)
 grind
theorem edges_ne {h:List P}(hn:h≠[]):edges h≠[]:=by
 obtain ⟨E,x,h1,_⟩:=sides_edges hn
 rw [h1];simp
theorem gap_ok {l m:List P}(hl:l≠[])(hm:m≠[]):gapM (hull l) (hull m)=gap l m:=by
 unfold gapM gap
 rw [meet_ok]
 by_cases hmt:meet l m=true
 ·rw [if_pos hmt,if_pos hmt]
 rw [if_neg hmt,if_neg hmt]
 simp only
 have none_common:¬ ∃ x,In (hull l) x/\In (hull m) x:=fun q=>hmt ((meet_iff hl hm).mpr q)
 have hD:differences l m≠[]:=by
  obtain ⟨a,ta,rfl⟩:=List.exists_cons_of_ne_nil hl
  obtain ⟨b,tb,rfl⟩:=List.exists_cons_of_ne_nil hm
  simp [differences]
 have FA:=hull_hf hl
 have FB:=hull_hf hm
 have FD:=hull_hf hD
 have zero_out:¬ In (hull (differences l m)) (0,0):=fun q=>none_common (diff_common hl hm hD q)
 generalize hsq:waysM (hull l) (hull m)++waysM (hull m) (hull l)=sq
 have sqp:∀ f∈sq,0 < f.2:=fun f hf=>by
  rw [<- hsq,List.mem_append,mem_ways,mem_ways] at hf
  rcases hf with ⟨p,_,s,_,rfl⟩ | ⟨p,_,s,_,rfl⟩<;>exact way_pos s p
 have sqn:sq≠[]:=by
  obtain ⟨a,ha⟩:=List.exists_mem_of_ne_nil _ FA.ne
  obtain ⟨e,he⟩:=List.exists_mem_of_ne_nil _ (edges_ne FB.ne)
  intro q
  have:wayM e a∈sq:=by rw [<- hsq];exact List.mem_append_left _ (mem_ways.mpr ⟨a,ha,e,he,rfl⟩)
  rw [q] at this;simp at this
 have h1:leastM sq∈sq/\∀ f∈sq,val (leastM sq)<=val f:=by
  unfold leastM
  obtain ⟨x,t,e⟩:=List.exists_cons_of_ne_nil sqn
  have hd:sq.headD (0,1)=x:=by rw [e];rfl
  rw [hd]
  have:=fold_least (fun f:Frac=>f) sq x (sqp x (by rw [e];simp)) sqp
  refine ⟨?_,this.2.2⟩
  rcases this.1 with q | ⟨y,hy,q⟩
  ·have q':sq.foldl (fun b x=>if lessF x b=true then x else b) x=x:=q
   rw [q',e];simp
  ·have q':sq.foldl (fun b x=>if lessF x b=true then x else b) x=y:=q
   rw [q'];exact hy
 have h2:∃ r,((edges (hull (differences l m))).foldl (fun b x=>if lessF (farFrom x.1 x.2) b=true then farFrom x.1 x.2 else b) (farFrom ((edges (hull (differences l m))).headD ((0,0),(0,0))).1 ((edges (hull (differences l m))).headD ((0,0),(0,0))).2))=r /\
   (∃ e∈edges (hull (differences l m)),r=farFrom e.1 e.2)/\∀ e∈edges (hull (differences l m)),val r<=val (farFrom e.1 e.2):=by
  refine ⟨_,rfl,?_⟩
  obtain ⟨x,t,e⟩:=List.exists_cons_of_ne_nil (edges_ne FD.ne)
  have hd:(edges (hull (differences l m))).headD ((0,0),(0,0))=x:=by rw [e];rfl
  rw [hd]
  have:=fold_least (fun x:P×P=>farFrom x.1 x.2) (edges (hull (differences l m))) (farFrom x.1 x.2) (far_low _ _).pos (fun x _=>(far_low _ _).pos)
  refine ⟨?_,this.2.2⟩
  rcases this.1 with q | ⟨y,hy,q⟩
  ·exact ⟨x,by rw [e];simp,q⟩
  ·exact ⟨y,hy,q⟩
 obtain ⟨r,hr,⟨e0,he0,hre⟩,hrl⟩:=h2
 show frac (leastM sq).1 (leastM sq).2=_
 rw [hr]
 obtain ⟨h1m,h1l⟩:=h1
 have lr:Low r:=by rw [hre];exact far_low _ _
 refine low_inj (low_any _ _) lr ?_
 rw [val_frac _ (by have:=sqp _ h1m;omega)]
 show val (leastM sq)=val r
 have upper:∀ z,In (hull (differences l m)) z->val r<=nrm z:=fun z hz=>by
  obtain ⟨t,t0,t1,hi,e,he,sg⟩:=FD.exit hz zero_out
  obtain ⟨w,w0,w1,ew⟩:=hi.mixE FD he sg
  have a1:=hrl e he
  rw [val_far] at a1
  have a2:=(val_way (e.1,e.2) (0,0)).1 w w0 w1
  have a3:mns (mix w (ca e.1) (ca e.2)) (ca (0,0))=mix t z (0,0):=by
   rw [ew]
   simp only [mns]
   refine Prod.ext ?_ ?_
   ·show _-((0:Int):Rat)=_;rw [show ((0:Int):Rat)=0 from rfl];grind
   ·show _-((0:Int):Rat)=_;rw [show ((0:Int):Rat)=0 from rfl];grind
  rw [a3] at a2
  have a4:=nrm_mix_zero t z t0 t1
  grind
 have le1:val r<=val (leastM sq):=by
  have:=h1m
  rw [<- hsq,List.mem_append,mem_ways,mem_ways] at this
  rw [hsq] at this
  rcases this with ⟨p,hp,s,hs,e⟩ | ⟨p,hp,s,hs,e⟩
  ·obtain ⟨t,t0,t1,q⟩:=(val_way s p).2
   rw [e,q]
   have i1:In (hull (differences l m)) (ca (sub p s.1)):=FD.inS (mem_diff.mpr ⟨p,FA.sub p hp,s.1,FB.sub _ (FB.em s hs).1,rfl⟩)
   have i2:In (hull (differences l m)) (ca (sub p s.2)):=FD.inS (mem_diff.mpr ⟨p,FA.sub p hp,s.2,FB.sub _ (FB.em s hs).2,rfl⟩)
   have:=upper _ (i1.mix i2 t0 t1)
   rw [ca_sub,ca_sub,mns_mix] at this
   have en:nrm (mns (mix t (ca p) (ca p)) (mix t (ca s.1) (ca s.2)))=nrm (mns (mix t (ca s.1) (ca s.2)) (ca p)):=by
    simp only [nrm,mns,mix];grind
   rw [en] at this
   exact this
  ·obtain ⟨t,t0,t1,q⟩:=(val_way s p).2
   rw [e,q]
   have i1:In (hull (differences l m)) (ca (sub s.1 p)):=FD.inS (mem_diff.mpr ⟨s.1,FA.sub _ (FA.em s hs).1,p,FB.sub p hp,rfl⟩)
   have i2:In (hull (differences l m)) (ca (sub s.2 p)):=FD.inS (mem_diff.mpr ⟨s.2,FA.sub _ (FA.em s hs).2,p,FB.sub p hp,rfl⟩)
   have:=upper _ (i1.mix i2 t0 t1)
   rw [ca_sub,ca_sub,mns_mix] at this
   have en:nrm (mns (mix t (ca s.1) (ca s.2)) (mix t (ca p) (ca p)))=nrm (mns (mix t (ca s.1) (ca s.2)) (ca p)):=by
    simp only [nrm,mns,mix];grind
   rw [en] at this
   exact this
 have le2:val (leastM sq)<=val r:=by
  rw [hre,val_far]
  obtain ⟨t,t0,t1,q⟩:=(val_way (e0.1,e0.2) (0,0)).2
  rw [q]
  obtain ⟨a1,ha1,b1,hb1,q1⟩:=mem_diff.mp (FD.sub _ (FD.em e0 he0).1)
  obtain ⟨a2,ha2,b2,hb2,q2⟩:=mem_diff.mp (FD.sub _ (FD.em e0 he0).2)
  have en:nrm (mns (mix t (ca (e0.1,e0.2).1) (ca (e0.1,e0.2).2)) (ca (0,0)))=nrm (mns (mix t (ca a1) (ca a2)) (mix t (ca b1) (ca b2))):=by
   simp only
   rw [q1,q2,ca_sub,ca_sub,mns_mix]
   generalize mns (mix t (ca a1) (ca a2)) (mix t (ca b1) (ca b2))=z
   have:mns z (ca (0,0))=z:=by
    simp only [mns]
    refine Prod.ext ?_ ?_
    ·show z.1-((0:Int):Rat)=_;rw [show ((0:Int):Rat)=0 from rfl];grind
    ·show z.2-((0:Int):Rat)=_;rw [show ((0:Int):Rat)=0 from rfl];grind
   rw [this]
  rw [en]
  have xA:In (hull l) (mix t (ca a1) (ca a2)):=(FA.inS ha1).mix (FA.inS ha2) t0 t1
  have yB:In (hull m) (mix t (ca b1) (ca b2)):=(FB.inS hb1).mix (FB.inS hb2) t0 t1
  generalize mix t (ca a1) (ca a2)=x at *
  generalize mix t (ca b1) (ca b2)=y at *
  have xnB:¬ In (hull m) x:=fun k=>none_common ⟨x,xA,k⟩
  obtain ⟨r1,r10,r11,yi,f,hf,sf⟩:=FB.exit yB xnB
  have ynA:¬ In (hull l) (mix r1 y x):=fun k=>none_common ⟨_,k,yi⟩
  obtain ⟨r2,r20,r21,xi,e,he,se⟩:=FA.exit xA ynA
  have near:nrm (mns (mix r2 x (mix r1 y x)) (mix r1 y x))<=nrm (mns x y):=by
   have e1:nrm (mns (mix r2 x (mix r1 y x)) (mix r1 y x))=((1-r2)*(1-r1))*((1-r2)*(1-r1))*nrm (mns x y):=by
    simp only [nrm,mns,mix];grind
   rw [e1]
   have k0:0<=(1-r2)*(1-r1):=rnn_mul (by grind) (by grind)
   have k1:(1-r2)*(1-r1)<=1:=by
    have:=rnn_mul r20 (show 0<=1-r1 by grind)
    grind
   have:=rnn_mul (rnn_mul (show 0<=1-(1-r2)*(1-r1) by grind) (show 0<=1+(1-r2)*(1-r1) by grind)) (nrm_nn (mns x y))
   grind
  obtain ⟨u,u0,u1,eu⟩:=xi.mixE FA he se
  obtain ⟨v,v0,v1,ev⟩:=yi.mixE FB hf sf
  rw [eu,ev] at near
  obtain ⟨s,w,s0,s1,w0,w1,ends,hle⟩:=ways_near (a:=ca e.1) (b:=ca e.2) (c:=ca f.1) (d:=ca f.2) u0 u1 v0 v1 (fun ⟨s,w,s0,s1,w0,w1,k⟩=>none_common ⟨mix s (ca e.1) (ca e.2),
   (FA.inS (FA.sub _ (FA.em e he).1)).mix (FA.inS (FA.sub _ (FA.em e he).2)) s0 s1,by rw [k];exact (FB.inS (FB.sub _ (FB.em f hf).1)).mix (FB.inS (FB.sub _ (FB.em f hf).2)) w0 w1⟩)
  have sym:∀ p q:R2,nrm (mns p q)=nrm (mns q p):=fun p q=>by simp only [nrm,mns];grind
  have cand1:∀ p∈hull l,∀ w,0<=w->w<=1->val (leastM sq)<=nrm (mns (ca p) (mix w (ca f.1) (ca f.2))):=fun p hp w w0 w1=>by
   have a:=h1l (wayM f p) (by rw [<- hsq];exact List.mem_append_left _ (mem_ways.mpr ⟨p,hp,f,hf,rfl⟩))
   have b:=(val_way f p).1 w w0 w1
   rw [sym] at b
   grind
  have cand2:∀ p∈hull m,∀ w,0<=w->w<=1->val (leastM sq)<=nrm (mns (mix w (ca e.1) (ca e.2)) (ca p)):=fun p hp w w0 w1=>by
   have a:=h1l (wayM e p) (by rw [<- hsq];exact List.mem_append_right _ (mem_ways.mpr ⟨p,hp,e,he,rfl⟩))
   have b:=(val_way e p).1 w w0 w1
   grind
  rcases ends with q | q | q | q
  ·rw [q,mix_zero] at hle
   have:=cand1 _ (FA.em e he).1 w w0 w1
   grind
  ·rw [q,mix_one] at hle
   have:=cand1 _ (FA.em e he).2 w w0 w1
   grind
  ·rw [q,mix_zero] at hle
   have:=cand2 _ (FB.em f hf).1 s s0 s1
   grind
  ·rw [q,mix_one] at hle
   have:=cand2 _ (FB.em f hf).2 s s0 s1
   grind
 grind
end G
namespace G
structure Lin (s:R2->Rat):Prop where
 aff:∀ t x y,s (mix t x y)=(1-t)*s x+t*s y
 line:∀ x y z,s x=0->s y=0->s z=0->cx x y z=0
structure Addv (f:R2->R2->Rat):Prop where
 anti:∀ p q,f p q = - f q p
 tri:∀ p q r,cx p q r=0->f p q+f q r+f r p=0
theorem Addv.self {f:R2->R2->Rat}(A:Addv f)(p:R2):f p p=0:=by have:=A.anti p p;grind
def cutp (s:R2->Rat)(p q:R2):R2:=mix (s p / (s p-s q)) p q
theorem cutp_s {s:R2->Rat}(L:Lin s){p q:R2}(h:s p≠s q):s (cutp s p q)=0:=by
 unfold cutp;rw [L.aff]
 have:s p-s q≠0:=by grind
 grind
theorem cutp_swap (s:R2->Rat){p q:R2}(h:s p≠s q):cutp s p q=cutp s q p:=by
 unfold cutp mix
 have h1:s p-s q≠0:=by grind
 have h2:s q-s p≠0:=by grind
 refine Prod.ext ?_ ?_<;>simp only<;>grind
theorem cutp_left {s:R2->Rat}{p q:R2}(h:s p=0):cutp s p q=p:=by
 unfold cutp
 rw [h,show (0:Rat) / (0-s q)=0 by grind]
 exact mix_zero p q
theorem cutp_right {s:R2->Rat}{p q:R2}(h:s q=0)(h':s p≠0):cutp s p q=q:=by
 rw [cutp_swap s (by rw [h];exact h')]
 exact cutp_left h
theorem cutp_to {s:R2->Rat}(L:Lin s){p q:R2}{t:Rat}(h:s p≠s q)(ht:t≠0):cutp s p (mix t p q)=cutp s p q:=by
 unfold cutp
 rw [L.aff]
 have h1:s p-s q≠0:=by grind
 have e:s p-((1-t)*s p+t*s q)=t*(s p-s q):=by grind
 rw [e]
 have h2:t*(s p-s q)≠0:=fun q=>by rcases Rat.mul_eq_zero.mp q with z | z<;>grind
 simp only [mix]
 have e2:s p / (t*(s p-s q))*t=s p / (s p-s q):=by grind
 refine Prod.ext ?_ ?_<;>simp only<;>grind
theorem cutp_from {s:R2->Rat}(L:Lin s){p q:R2}{t:Rat}(h:s p≠s q)(ht:t≠1):cutp s (mix t p q) q=cutp s p q:=by
 have e:mix t p q=mix (1-t) q p:=by
  simp only [mix];refine Prod.ext ?_ ?_<;>simp only<;>grind
 have ne:s (mix t p q)≠s q:=by
  rw [L.aff]
  intro z
  have:(1-t)*(s p-s q)=0:=by grind
  rcases Rat.mul_eq_zero.mp this with z | z<;>grind
 rw [cutp_swap s ne,e,cutp_to L (fun z=>h z.symm) (by grind),cutp_swap s (fun z=>h z.symm)]
def lift (f:R2->R2->Rat)(s:R2->Rat)(o p q:R2):Rat :=
 if 0<=s p then (if 0<=s q then f p q else f p (cutp s p q)+f (cutp s p q) o) else (if 0<=s q then f (cutp s p q) q-f (cutp s p q) o else 0)
section
variable {f:R2->R2->Rat} {s:R2->Rat} {o p q r:R2}
theorem lift_ii (hp:0<=s p)(hq:0<=s q):lift f s o p q=f p q:=by unfold lift;rw [if_pos hp,if_pos hq]
theorem lift_io (hp:0<=s p)(hq:s q < 0):lift f s o p q=f p (cutp s p q)+f (cutp s p q) o:=by unfold lift;rw [if_pos hp,if_neg (by grind)]
theorem lift_oi (hp:s p < 0)(hq:0<=s q):lift f s o p q=f (cutp s p q) q-f (cutp s p q) o:=by unfold lift;rw [if_neg (by grind),if_pos hq]
theorem lift_oo (hp:s p < 0)(hq:s q < 0):lift f s o p q=0:=by unfold lift;rw [if_neg (by grind),if_neg (by grind)]
theorem lift_anti (A:Addv f)(L:Lin s):lift f s o p q = - lift f s o q p:=by
 rcases rlg (s p) 0 with hp | hp
 ·rcases rlg (s q) 0 with hq | hq
  ·rw [lift_oo hp hq,lift_oo hq hp];grind
  ·rw [lift_oi hp hq,lift_io hq hp,cutp_swap s (by grind)]
   have:=A.anti (cutp s q p) q
   grind
 ·rcases rlg (s q) 0 with hq | hq
  ·rw [lift_io hp hq,lift_oi hq hp,cutp_swap s (by grind)]
   have:=A.anti (cutp s q p) p
   grind
  ·rw [lift_ii hp hq,lift_ii hq hp];exact A.anti p q
end
theorem col_mix {p q r:R2}(n:q≠r)(h:cx q r p=0):∃ t,p=mix t q r:=by
 obtain ⟨q1,q2⟩:=q
 obtain ⟨r1,r2⟩:=r
 obtain ⟨p1,p2⟩:=p
 simp only [cx,mix] at *
 by_cases z:r1-q1=0
 ·have z2:r2-q2≠0:=fun z2=>n (Prod.ext (by simp only;grind) (by simp only;grind))
  refine ⟨(p2-q2) / (r2-q2),Prod.ext ?_ ?_⟩
  ·simp only
   have:(r2-q2)*(p1-q1)=0:=by grind
   rcases Rat.mul_eq_zero.mp this with w | w
   ·exact absurd w z2
   ·grind
  ·simp only;grind
 ·refine ⟨(p1-q1) / (r1-q1),Prod.ext ?_ ?_⟩
  ·simp only;grind
  ·simp only
   have:(r1-q1)*(p2-(q2+(p1-q1) / (r1-q1)*(r2-q2)))=0:=by grind
   rcases Rat.mul_eq_zero.mp this with w | w
   ·exact absurd w z
   ·grind
theorem cx_cyc (p q r:R2):cx p q r=cx q r p:=by simp only [cx];grind
theorem cut_same {s:R2->Rat}(L:Lin s){p q r:R2}(h:cx p q r=0)(hq:s q≠s r)(hp:s p≠s r):cutp s p r=cutp s q r:=by
 obtain ⟨t,rfl⟩:=col_mix (p:=p) (q:=q) (r:=r) (fun e=>hq (by rw [e])) (by rw [<- cx_cyc];exact h)
 refine cutp_from L hq fun e=>hp ?_
 rw [L.aff,e];grind
theorem Addv.lift {f:R2->R2->Rat}{s:R2->Rat}{o:R2}(A:Addv f)(L:Lin s):Addv (lift f s o):=by
 refine ⟨fun p q=>lift_anti A L,?_⟩
 have iii:∀ p q r,cx p q r=0->0<=s p->0<=s q->0<=s r->G.lift f s o p q+G.lift f s o q r+G.lift f s o r p=0:=fun p q r h hp hq hr=>by
  rw [lift_ii hp hq,lift_ii hq hr,lift_ii hr hp];exact A.tri p q r h
 have ooo:∀ p q r,cx p q r=0->s p < 0->s q < 0->s r < 0->G.lift f s o p q+G.lift f s o q r+G.lift f s o r p=0:=fun p q r h hp hq hr=>by
  rw [lift_oo hp hq,lift_oo hq hr,lift_oo hr hp];grind
 have iio:∀ p q r,cx p q r=0->0<=s p->0<=s q->s r < 0->G.lift f s o p q+G.lift f s o q r+G.lift f s o r p=0:=fun p q r h hp hq hr=>by
  rw [lift_ii hp hq,lift_io hq hr,lift_oi hr hp,cutp_swap s (p:=r) (q:=p) (by grind),cut_same L h (by grind) (by grind)]
  have c:cx p q (cutp s q r)=0:=by
   unfold cutp;rw [cx_mix,h];simp only [cx];grind
  have:=A.tri _ _ _ c
  grind
 have ioo:∀ p q r,cx p q r=0->0<=s p->s q < 0->s r < 0->G.lift f s o p q+G.lift f s o q r+G.lift f s o r p=0:=fun p q r h hp hq hr=>by
  rw [lift_io hp hq,lift_oo hq hr,lift_oi hr hp]
  have c:cutp s r p=cutp s q p:=by
   refine cut_same L ?_ (by grind) (by grind)
   have:cx r q p = - cx p q r:=by simp only [cx];grind
   rw [this,h];grind
  rw [c,cutp_swap s (p:=q) (q:=p) (by grind)]
  have:=A.anti p (cutp s p q)
  grind
 intro p q r h
 have h2:cx q r p=0:=by rw [<- cx_cyc];exact h
 have h3:cx r p q=0:=by rw [<- cx_cyc];exact h2
 rcases rlg (s p) 0 with hp | hp
 ·rcases rlg (s q) 0 with hq | hq
  ·rcases rlg (s r) 0 with hr | hr
   ·exact ooo p q r h hp hq hr
   ·have:=ioo r p q h3 hr hp hq;grind
  ·rcases rlg (s r) 0 with hr | hr
   ·have:=ioo q r p h2 hq hr hp;grind
   ·have:=iio q r p h2 hq hr hp;grind
 ·rcases rlg (s q) 0 with hq | hq
  ·rcases rlg (s r) 0 with hr | hr
   ·exact ioo p q r h hp hq hr
   ·have:=iio r p q h3 hr hp hq;grind
  ·rcases rlg (s r) 0 with hr | hr
   ·exact iio p q r h hp hq hr
   ·exact iii p q r h hp hq hr
def pe:List R2->List (R2×R2)
 | a::b::r=>(a,b)::pe (b::r)
 | _=>[]
def cyc (l:List R2):List (R2×R2):=l.zip (l.drop 1++l.take 1)
theorem pe_zip:∀ (l:List R2),pe l=l.zip l.tail
 | []=>rfl
 | [a]=>rfl
 | a::b::r=>by
  have:=pe_zip (b::r)
  simp only [pe,this,List.tail_cons,List.zip_cons_cons]
theorem zip_moreR:∀ (x y:List R2) (z:R2),y.length<=x.length->(x++[z]).zip y=x.zip y
 | x,[],z,_=>by simp
 | [],y::ys,z,h=>by simp at h
 | a::x,b::y,z,h=>by
  simp only [List.cons_append,List.zip_cons_cons]
  rw [zip_moreR x y z (by simpa using h)]
theorem cyc_pe (a:R2)(t:List R2):cyc (a::t)=pe (a::t++[a]):=by
 rw [pe_zip]
 show (a::t).zip (t++[a])=(a::t++[a]).zip (t++[a])
 rw [zip_moreR]
 simp
def psum (f:R2->R2->Rat):List R2->Rat
 | a::b::r=>f a b+psum f (b::r)
 | _=>0
def csum (f:R2->R2->Rat):List R2->Rat
 | []=>0
 | a::t=>psum f (a::t++[a])
def emit (s:R2->Rat)(e:R2×R2):List R2 :=
 (if 0<=s e.1 then [e.1] else [])++(if (0 < s e.1/\s e.2 < 0)\/(s e.1 < 0/\0 < s e.2) then [cutp s e.1 e.2] else [])
def clipR (s:R2->Rat)(l:List R2):List R2:=(cyc l).flatMap (emit s)
section
variable {f:R2->R2->Rat} {s:R2->Rat} {o:R2}
def anc (s:R2->Rat)(o p:R2):R2:=if 0<=s p then p else o
def Cn (s:R2->Rat)(p x:R2):Prop:=if 0<=s p then x=p else s x=0
theorem em_ii {p q:R2}(hp:0<=s p)(hq:0<=s q):emit s (p,q)=[p]:=by
 unfold emit
 rw [if_pos hp,if_neg (by rintro (⟨_,h⟩ | ⟨h,_⟩)<;>grind)]
 rfl
theorem em_oo {p q:R2}(hp:s p < 0)(hq:s q < 0):emit s (p,q)=[]:=by
 unfold emit
 rw [if_neg (show ¬ 0<=s p by grind),if_neg (by rintro (⟨h,_⟩ | ⟨_,h⟩)<;>grind)]
 rfl
theorem line3 (A:Addv f)(L:Lin s){x y:R2}(ho:s o=0)(hx:s x=0)(hy:s y=0):f x o+f o y=f x y:=by
 have:=A.tri x o y (L.line _ _ _ hx ho hy)
 have:=A.anti y x
 grind
theorem first_in {p:R2}(hp:0<=s p):∀ (r:List R2) (y:R2),(r=[]->y=p)->∃ Z,(pe (p::r)).flatMap (emit s)++[y]=p::Z
 | [],y,h=>⟨[],by rw [h rfl];rfl⟩
 | q::r,y,_=>by
  have e:∃ Z,emit s (p,q)=p::Z:=by
   unfold emit
   rw [if_pos hp]
   exact ⟨_,rfl⟩
  obtain ⟨Z,e⟩:=e
  refine ⟨Z++(pe (q::r)).flatMap (emit s)++[y],?_⟩
  show (emit s (p,q)++(pe (q::r)).flatMap (emit s))++[y]=_
  rw [e]
  rfl
theorem walk (A:Addv f)(L:Lin s)(ho:s o=0):∀ (r:List R2) (p x y k:R2),(p::r).getLast?=some k->Cn s p x->Cn s k y ->
  psum f (x::((pe (p::r)).flatMap (emit s)++[y]))=f x (anc s o p)+((pe (p::r)).map fun e=>lift f s o e.1 e.2).sum+f (anc s o k) y
 | [],p,x,y,k,hk,hx,hy=>by
  have e:p=k:=by simpa using hk
  subst e
  show f x y+0=f x (anc s o p)+0+f (anc s o p) y
  unfold Cn at hx hy
  unfold anc
  by_cases h:0<=s p
  ·rw [if_pos h] at hx hy ⊢
   rw [hx,hy,A.self];grind
  ·rw [if_neg h] at hx hy ⊢
   have:=line3 A L ho hx hy
   grind
 | q::r,p,x,y,k,hk,hx,hy=>by
  have hk':(q::r).getLast?=some k:=by rw [List.getLast?_cons_cons] at hk;exact hk
  have ih:=fun x' hx'=>walk A L ho r q x' y k hk' hx' hy
  show psum f (x::((emit s (p,q)++(pe (q::r)).flatMap (emit s))++[y]))=f x (anc s o p)+(lift f s o p q+((pe (q::r)).map fun e=>lift f s o e.1 e.2).sum)+f (anc s o k) y
  generalize ((pe (q::r)).map fun e=>lift f s o e.1 e.2).sum=V at ih ⊢
  rw [List.append_assoc]
  have fi:0<=s q->∃ Z,(pe (q::r)).flatMap (emit s)++[y]=q::Z:=fun hq=>first_in hq r y fun e=>by
   subst e
   have e:q=k:=by simpa using hk'
   subst e
   unfold Cn at hy
   rw [if_pos hq] at hy
   exact hy
  generalize (pe (q::r)).flatMap (emit s)++[y]=Z at ih fi ⊢
  have lead:0<=s q->∀ w,psum f (w::Z)=f w q+psum f (q::Z):=fun hq w=>by
   obtain ⟨Z',rfl⟩:=fi hq
   show f w q+psum f (q::Z')=f w q+(f q q+psum f (q::Z'))
   rw [A.self];grind
  by_cases hp:0<=s p
  ·have hx':x=p:=by unfold Cn at hx;rw [if_pos hp] at hx;exact hx
   subst hx'
   have ea:anc s o x=x:=by unfold anc;rw [if_pos hp]
   rw [ea,A.self]
   by_cases hq:0<=s q
   ·rw [em_ii hp hq,lift_ii hp hq]
    show f x x+psum f (x::Z)=_
    have:=ih q (by unfold Cn;rw [if_pos hq])
    have eq:anc s o q=q:=by unfold anc;rw [if_pos hq]
    rw [eq,A.self] at this
    rw [lead hq,A.self,this];grind
   ·have hq':s q < 0:=by grind
    have eq:anc s o q=o:=by unfold anc;rw [if_neg hq]
    rw [lift_io hp hq']
    by_cases z:s x=0
    ·have em:emit s (x,q)=[x]:=by
      unfold emit
      rw [if_pos hp,if_neg (by rintro (⟨h,_⟩ | ⟨h,_⟩)<;>grind)];rfl
     rw [em]
     show f x x+psum f (x::Z)=_
     have:=ih x (by unfold Cn;rw [if_neg hq];exact z)
     rw [eq] at this
     rw [this,cutp_left z,A.self];grind
    ·have em:emit s (x,q)=[x,cutp s x q]:=by
      unfold emit
      rw [if_pos hp,if_pos (Or.inl ⟨by simp only;grind,hq'⟩)];rfl
     rw [em]
     show f x x+(f x (cutp s x q)+psum f (cutp s x q::Z))=_
     have:=ih (cutp s x q) (by unfold Cn;rw [if_neg hq];exact cutp_s L (by grind))
     rw [eq] at this
     rw [this,A.self];grind
  ·have hp':s p < 0:=by grind
   have hx':s x=0:=by unfold Cn at hx;rw [if_neg hp] at hx;exact hx
   have ea:anc s o p=o:=by unfold anc;rw [if_neg hp]
   rw [ea]
   by_cases hq:0<=s q
   ·have eq:anc s o q=q:=by unfold anc;rw [if_pos hq]
    rw [lift_oi hp' hq]
    have hih:=ih q (by unfold Cn;rw [if_pos hq])
    rw [eq,A.self] at hih
    have sc:s (cutp s p q)=0:=cutp_s L (by grind)
    have l3:=line3 A L ho hx' sc
    have an:=A.anti o (cutp s p q)
    by_cases z:s q=0
    ·have em:emit s (p,q)=[]:=by
      unfold emit
      rw [if_neg hp,if_neg (by rintro (⟨h,_⟩ | ⟨_,h⟩)<;>grind)];rfl
     rw [em,List.nil_append,lead hq,hih]
     rw [cutp_right z (by grind)] at l3 an ⊢
     rw [A.self];grind
    ·have em:emit s (p,q)=[cutp s p q]:=by
      unfold emit
      rw [if_neg hp,if_pos (Or.inr ⟨hp',by simp only;grind⟩)];rfl
     rw [em]
     show f x (cutp s p q)+psum f (cutp s p q::Z)=_
     rw [lead hq,hih];grind
   ·have hq':s q < 0:=by grind
    have eq:anc s o q=o:=by unfold anc;rw [if_neg hq]
    rw [lift_oo hp' hq',em_oo hp' hq',List.nil_append]
    have:=ih x (by unfold Cn;rw [if_neg hq];exact hx')
    rw [eq] at this
    rw [this];grind
theorem first_out_line (L:Lin s):∀ (r:List R2) (p:R2),s p < 0->∀ x Z,(pe (p::r)).flatMap (emit s)=x::Z->s x=0
 | [],p,_,x,Z,h=>by simp [pe] at h
 | q::r,p,hp,x,Z,h=>by
  have h':emit s (p,q)++(pe (q::r)).flatMap (emit s)=x::Z:=h
  rcases rlg (s q) 0 with hq | hq
  ·rw [em_oo hp hq,List.nil_append] at h'
   exact first_out_line L r q hq x Z h'
  ·by_cases z:s q=0
   ·have em:emit s (p,q)=[]:=by
     unfold emit
     rw [if_neg (show ¬ 0<=s p by grind),if_neg (by rintro (⟨h,_⟩ | ⟨_,h⟩)<;>grind)];rfl
    rw [em,List.nil_append] at h'
    cases r with
    | nil=>simp [pe] at h'
    | cons q' r =>
     obtain ⟨Z2,e2⟩:=first_in (s:=s) (p:=q) hq (q'::r) q (fun e=>by cases e)
     rw [h'] at e2
     have:x=q:=by injection e2
     rw [this];exact z
   ·have em:emit s (p,q)=[cutp s p q]:=by
     unfold emit
     rw [if_neg (show ¬ 0<=s p by grind),if_pos (Or.inr ⟨hp,by simp only;grind⟩)];rfl
    rw [em] at h'
    have:cutp s p q=x:=by injection h'
    rw [<- this]
    exact cutp_s L (by grind)
theorem csum_cyc (g:R2->R2->Rat)(l:List R2):csum g l=((cyc l).map fun e=>g e.1 e.2).sum:=by
 cases l with
 | nil=>rfl
 | cons a t =>
  rw [cyc_pe]
  show psum g (a::t++[a])=_
  generalize a::t++[a]=m
  induction m with
  | nil=>rfl
  | cons a m ih =>
   cases m with
   | nil=>rfl
   | cons b m =>
    show g a b+psum g (b::m)=((pe (a::b::m)).map fun e=>g e.1 e.2).sum
    rw [ih]
    rfl
theorem clip_sum (A:Addv f)(L:Lin s)(ho:s o=0)(l:List R2):csum f (clipR s l)=csum (lift f s o) l:=by
 rw [csum_cyc (lift f s o)]
 cases l with
 | nil=>rfl
 | cons a t =>
  unfold clipR
  rw [cyc_pe]
  have hl:(a::t++[a]).getLast?=some a:=List.getLast?_concat ..
  have w:=fun x y hx hy=>walk A L ho (t++[a]) a x y a hl hx hy
  rw [show a::(t++[a])=a::t++[a] from rfl] at w
  generalize hV:((pe (a::t++[a])).map fun e=>lift f s o e.1 e.2).sum=V at w ⊢
  by_cases ha:0<=s a
  ·have:=w a a (by unfold Cn;rw [if_pos ha]) (by unfold Cn;rw [if_pos ha])
   have ea:anc s o a=a:=by unfold anc;rw [if_pos ha]
   rw [ea,A.self] at this
   obtain ⟨Z,hZ⟩:=first_in (s:=s) ha (t++[a]) a (fun e=>by simp at e)
   have hZ':(pe (a::t++[a])).flatMap (emit s)++[a]=a::Z:=hZ
   cases hO:(pe (a::t++[a])).flatMap (emit s) with
   | nil =>
    rw [hO] at this
    have this':f a a+0=0+V+0:=this
    rw [A.self] at this'
    show 0=V;grind
   | cons b O =>
    rw [hO] at this hZ'
    have eb:b=a:=by injection hZ'
    subst eb
    have this':f b b+psum f (b::O++[b])=0+V+0:=this
    rw [A.self] at this'
    show psum f (b::O++[b])=V;grind
  ·have ha':s a < 0:=by grind
   have ea:anc s o a=o:=by unfold anc;rw [if_neg ha]
   cases hO:(pe (a::t++[a])).flatMap (emit s) with
   | nil =>
    have:=w o o (by unfold Cn;rw [if_neg ha];exact ho) (by unfold Cn;rw [if_neg ha];exact ho)
    rw [hO,ea,A.self] at this
    have this':f o o+0=0+V+0:=this
    rw [A.self] at this'
    show 0=V;grind
   | cons b O =>
    have sb:s b=0:=first_out_line L (t++[a]) a ha' b O hO
    have:=w b b (by unfold Cn;rw [if_neg ha];exact sb) (by unfold Cn;rw [if_neg ha];exact sb)
    rw [hO,ea] at this
    have this':f b b+psum f (b::O++[b])=f b o+V+f o b:=this
    have an:=A.anti o b
    rw [A.self] at this'
    show psum f (b::O++[b])=V;grind
end
structure Base (f:R2->R2->Rat)(s1 s2:R2->Rat)(o1 o2:R2):Prop where
 b1:∀ c,s1 c=0->lift f s2 o2 c o1=if 0<=s2 c then f c o1 else 0
 b2:∀ c,s2 c=0->lift f s1 o1 c o2=if 0<=s1 c then f c o2 else 0
 b3:∀ c,s1 c=0->s2 c=0->f c o1=f c o2
theorem Base.swap {f:R2->R2->Rat}{s1 s2:R2->Rat}{o1 o2:R2}(B:Base f s1 s2 o1 o2):Base f s2 s1 o2 o1:=⟨B.b2,B.b1,fun c h k=>(B.b3 c k h).symm⟩
section
variable {f:R2->R2->Rat} {s1 s2:R2->Rat} {o1 o2 p q:R2}
theorem share {a b:Rat}(ha:0<=a)(hb:b < 0):0<=a / (a-b)/\a / (a-b) < 1/\a / (a-b)*(a-b)=a:=by
 have h:0 < a-b:=by grind
 have e:a / (a-b)*(a-b)=a:=by grind
 refine ⟨rnn_of h (by grind),?_,e⟩
 have:=rpos_of h (b:=1-a / (a-b)) (by grind)
 grind
theorem cut_sign1 (L2:Lin s2)(hp:0<=s1 p)(hq:s1 q < 0)(a:0<=s2 p)(b:0<=s2 q):0<=s2 (cutp s1 p q):=by
 obtain ⟨t0,t1,_⟩:=share hp hq
 unfold cutp;rw [L2.aff]
 have:=rnn_mul (show 0<=1-s1 p / (s1 p-s1 q) by grind) a
 have:=rnn_mul t0 b
 grind
theorem cut_sign2 (L2:Lin s2)(hp:0<=s1 p)(hq:s1 q < 0)(a:s2 p < 0)(b:s2 q < 0):s2 (cutp s1 p q) < 0:=by
 obtain ⟨t0,t1,_⟩:=share hp hq
 unfold cutp;rw [L2.aff]
 have:=Rat.mul_pos (show 0 < 1-s1 p / (s1 p-s1 q) by grind) (show 0 < - s2 p by grind)
 have:=rnn_mul t0 (show 0<=- s2 q by grind)
 grind
theorem comm_ii (L1:Lin s1)(L2:Lin s2)(B:Base f s1 s2 o1 o2)(hp:0<=s1 p)(hq:0<=s1 q):lift (lift f s2 o2) s1 o1 p q=lift (lift f s1 o1) s2 o2 p q:=by
 rw [lift_ii hp hq]
 rcases rlg (s2 p) 0 with kp | kp
 ·rcases rlg (s2 q) 0 with kq | kq
  ·rw [lift_oo kp kq,lift_oo kp kq]
  ·have c:0<=s1 (cutp s2 p q):=by rw [cutp_swap s2 (by grind)];exact cut_sign1 L1 kq kp hq hp
   rw [lift_oi kp kq,lift_oi kp kq,lift_ii c hq,B.b2 _ (cutp_s L2 (by grind)),if_pos c]
 ·rcases rlg (s2 q) 0 with kq | kq
  ·have c:0<=s1 (cutp s2 p q):=cut_sign1 L1 kp kq hp hq
   rw [lift_io kp kq,lift_io kp kq,lift_ii hp c,B.b2 _ (cutp_s L2 (by grind)),if_pos c]
  ·rw [lift_ii kp kq,lift_ii kp kq,lift_ii hp hq]
theorem comm_oo (L1:Lin s1)(L2:Lin s2)(B:Base f s1 s2 o1 o2)(hp:s1 p < 0)(hq:s1 q < 0):lift (lift f s2 o2) s1 o1 p q=lift (lift f s1 o1) s2 o2 p q:=by
 rw [lift_oo hp hq]
 rcases rlg (s2 p) 0 with kp | kp
 ·rcases rlg (s2 q) 0 with kq | kq
  ·rw [lift_oo kp kq]
  ·have c:s1 (cutp s2 p q) < 0:=by rw [cutp_swap s2 (by grind)];exact cut_sign2 L1 kq kp hq hp
   rw [lift_oi kp kq,lift_oo c hq,B.b2 _ (cutp_s L2 (by grind)),if_neg (by grind)];grind
 ·rcases rlg (s2 q) 0 with kq | kq
  ·have c:s1 (cutp s2 p q) < 0:=cut_sign2 L1 kp kq hp hq
   rw [lift_io kp kq,lift_oo hp c,B.b2 _ (cutp_s L2 (by grind)),if_neg (by grind)];grind
  ·rw [lift_ii kp kq,lift_oo hp hq]
theorem comm_io_io_lt (L1:Lin s1)(L2:Lin s2)(B:Base f s1 s2 o1 o2)(hp:0<=s1 p)(hq:s1 q < 0)(kp:0<=s2 p)(kq:s2 q < 0)(ht:s1 p / (s1 p-s1 q)<=s2 p / (s2 p-s2 q)) :
  lift (lift f s2 o2) s1 o1 p q=lift (lift f s1 o1) s2 o2 p q:=by
 obtain ⟨t0,t1,te⟩:=share hp hq
 obtain ⟨u0,u1,ue⟩:=share kp kq
 have z1:s1 (cutp s1 p q)=0:=cutp_s L1 (by grind)
 have z2:s2 (cutp s2 p q)=0:=cutp_s L2 (by grind)
 have c1:0<=s2 (cutp s1 p q):=by
  unfold cutp;rw [L2.aff]
  have:=rnn_mul (show 0<=s2 p / (s2 p-s2 q)-s1 p / (s1 p-s1 q) by grind) (show 0<=s2 p-s2 q by grind)
  grind
 have c2:s1 (cutp s2 p q)<=0:=by
  unfold cutp;rw [L1.aff]
  have:=rnn_mul (show 0<=s2 p / (s2 p-s2 q)-s1 p / (s1 p-s1 q) by grind) (show 0<=s1 p-s1 q by grind)
  grind
 rw [lift_io hp hq,lift_io kp kq,lift_ii kp c1,B.b1 _ z1,if_pos c1]
 by_cases w:s1 (cutp s2 p q)=0
 ·have e:cutp s2 p q=cutp s1 p q:=by
   unfold cutp
   have:s2 p / (s2 p-s2 q)=s1 p / (s1 p-s1 q):=by
    unfold cutp at w;rw [L1.aff] at w
    have:(s2 p / (s2 p-s2 q)-s1 p / (s1 p-s1 q))*(s1 p-s1 q)=0:=by grind
    rcases Rat.mul_eq_zero.mp this with v | v<;>grind
   rw [this]
  rw [e] at w z2 ⊢
  rw [lift_ii hp (by grind),B.b2 _ z2,if_pos (by grind),B.b3 _ z1 z2]
 ·have c2':s1 (cutp s2 p q) < 0:=by grind
  have un:s2 p / (s2 p-s2 q)≠0:=fun e=>by
   have:cutp s2 p q=p:=by unfold cutp;rw [e,mix_zero]
   rw [this] at c2';grind
  have e:cutp s1 p (cutp s2 p q)=cutp s1 p q:=by
   show cutp s1 p (mix (s2 p / (s2 p-s2 q)) p q)=_
   exact cutp_to L1 (by grind) un
  rw [lift_io hp c2',e,B.b2 _ z2,if_neg (by grind)];grind
theorem comm_io_io (L1:Lin s1)(L2:Lin s2)(B:Base f s1 s2 o1 o2)(hp:0<=s1 p)(hq:s1 q < 0)(kp:0<=s2 p)(kq:s2 q < 0):lift (lift f s2 o2) s1 o1 p q=lift (lift f s1 o1) s2 o2 p q:=by
 rcases rlg (s2 p / (s2 p-s2 q)) (s1 p / (s1 p-s1 q)) with h | h
 ·exact (comm_io_io_lt L2 L1 B.swap kp kq hp hq (by grind)).symm
 ·exact comm_io_io_lt L1 L2 B hp hq kp kq h
theorem comm_io_oi (L1:Lin s1)(L2:Lin s2)(B:Base f s1 s2 o1 o2)(hp:0<=s1 p)(hq:s1 q < 0)(kp:s2 p < 0)(kq:0<=s2 q):lift (lift f s2 o2) s1 o1 p q=lift (lift f s1 o1) s2 o2 p q:=by
 obtain ⟨t0,t1,te⟩:=share hp hq
 have z1:s1 (cutp s1 p q)=0:=cutp_s L1 (by grind)
 have z2:s2 (cutp s2 p q)=0:=cutp_s L2 (by grind)
 have hd:0 < s2 q-s2 p:=by grind
 have ue:s2 p / (s2 p-s2 q)*(s2 p-s2 q)=s2 p:=by grind
 have u0:0 < s2 p / (s2 p-s2 q):=rpos_of hd (by grind)
 have u1:s2 p / (s2 p-s2 q)<=1:=by
  have:=rnn_of hd (b:=1-s2 p / (s2 p-s2 q)) (by grind);grind
 have v1:s2 (cutp s1 p q)=(s1 p / (s1 p-s1 q)-s2 p / (s2 p-s2 q))*(s2 q-s2 p):=by
  unfold cutp;rw [L2.aff];grind
 have v2:s1 (cutp s2 p q)=(s1 p / (s1 p-s1 q)-s2 p / (s2 p-s2 q))*(s1 p-s1 q):=by
  unfold cutp;rw [L1.aff];grind
 rw [lift_io hp hq,lift_oi kp kq]
 rcases rlg (s1 p / (s1 p-s1 q)) (s2 p / (s2 p-s2 q)) with h | h
 ·have c1:s2 (cutp s1 p q) < 0:=by
   rw [v1];have:=Rat.mul_pos (show 0 < s2 p / (s2 p-s2 q)-s1 p / (s1 p-s1 q) by grind) hd;grind
  have c2:s1 (cutp s2 p q) < 0:=by
   rw [v2];have:=Rat.mul_pos (show 0 < s2 p / (s2 p-s2 q)-s1 p / (s1 p-s1 q) by grind) (show 0 < s1 p-s1 q by grind);grind
  rw [lift_oo kp c1,B.b1 _ z1,if_neg (by grind),lift_oo c2 hq,B.b2 _ z2,if_neg (by grind)];grind
 ·have c1:0<=s2 (cutp s1 p q):=by rw [v1];exact rnn_mul (by grind) (by grind)
  have c2:0<=s1 (cutp s2 p q):=by rw [v2];exact rnn_mul (by grind) (by grind)
  have e1:cutp s2 p (cutp s1 p q)=cutp s2 p q:=by
   show cutp s2 p (mix (s1 p / (s1 p-s1 q)) p q)=_
   exact cutp_to L2 (by grind) (by grind)
  have e2:cutp s1 (cutp s2 p q) q=cutp s1 p q:=by
   show cutp s1 (mix (s2 p / (s2 p-s2 q)) p q) q=_
   exact cutp_from L1 (by grind) (by grind)
  rw [lift_oi kp c1,B.b1 _ z1,if_pos c1,lift_io c2 hq,B.b2 _ z2,if_pos c2,e1,e2];grind
theorem comm (A:Addv f)(L1:Lin s1)(L2:Lin s2)(B:Base f s1 s2 o1 o2):lift (lift f s2 o2) s1 o1 p q=lift (lift f s1 o1) s2 o2 p q:=by
 rcases rlg (s1 p) 0 with hp | hp
 ·rcases rlg (s1 q) 0 with hq | hq
  ·exact comm_oo L1 L2 B hp hq
  ·rcases rlg (s2 p) 0 with kp | kp
   ·rcases rlg (s2 q) 0 with kq | kq
    ·exact (comm_oo L2 L1 B.swap kp kq).symm
    ·rw [lift_anti (A.lift L2) L1,lift_anti (A.lift L1) L2,comm_io_io L1 L2 B hq hp kq kp]
   ·rcases rlg (s2 q) 0 with kq | kq
    ·exact (comm_io_oi L2 L1 B.swap kp kq hp hq).symm
    ·exact (comm_ii L2 L1 B.swap kp kq).symm
 ·rcases rlg (s1 q) 0 with hq | hq
  ·rcases rlg (s2 p) 0 with kp | kp
   ·rcases rlg (s2 q) 0 with kq | kq
    ·exact (comm_oo L2 L1 B.swap kp kq).symm
    ·exact comm_io_oi L1 L2 B hp hq kp kq
   ·rcases rlg (s2 q) 0 with kq | kq
    ·exact comm_io_io L1 L2 B hp hq kp kq
    ·exact (comm_ii L2 L1 B.swap kp kq).symm
  ·exact comm_ii L1 L2 B hp hq
end
def sd (a b:R2):R2->Rat:=cx a b
theorem lin_sd {a b:R2}(n:a≠b):Lin (sd a b):=by
 refine ⟨fun t x y=>cx_mix a b x y t,fun x y z hx hy hz=>?_⟩
 obtain ⟨t,rfl⟩:=col_mix n hx
 obtain ⟨u,rfl⟩:=col_mix n hy
 obtain ⟨v,rfl⟩:=col_mix n hz
 simp only [cx,mix];grind
theorem sd_left (a b:R2):sd a b a=0:=by simp only [sd,cx];grind
theorem base_common {f:R2->R2->Rat}(A:Addv f){s1 s2:R2->Rat}{o:R2}(h1:s1 o=0)(h2:s2 o=0):Base f s1 s2 o o:=by
 have g:∀ {s:R2->Rat} (c:R2),s o=0->lift f s o c o=if 0<=s c then f c o else 0:=fun {s} c ho=>by
  rcases rlg (s c) 0 with k | k
  ·rw [lift_oi k (by grind),cutp_right ho (by grind),A.self,if_neg (by grind)];grind
  ·rw [lift_ii k (by grind),if_pos k]
 exact ⟨fun c _=>g c h2,fun c _=>g c h1,fun c _ _=>rfl⟩
theorem base_ex {f:R2->R2->Rat}(A:Addv f){a b c d:R2}(n1:a≠b)(n2:c≠d):∃ o1 o2,sd a b o1=0/\sd c d o2=0/\Base f (sd a b) (sd c d) o1 o2:=by
 by_cases hD:(b.1-a.1)*(d.2-c.2)-(b.2-a.2)*(d.1-c.1)=0
 ·
  have par1:∀ x,sd a b x=0->sd c d x=sd c d a:=fun x hx=>by
   obtain ⟨t,rfl⟩:=col_mix n1 hx
   simp only [sd,cx,mix] at *;grind
  have par2:∀ x,sd c d x=0->sd a b x=sd a b c:=fun x hx=>by
   obtain ⟨t,rfl⟩:=col_mix n2 hx
   simp only [sd,cx,mix] at *;grind
  by_cases z:sd c d a=0
  ·exact ⟨a,a,sd_left a b,z,base_common A (sd_left a b) z⟩
  ·refine ⟨a,c,sd_left a b,sd_left c d,fun x hx=>?_,fun x hx=>?_,fun x hx hx2=>absurd ((par1 x hx).symm.trans hx2) z⟩
   ·have e:=par1 x hx
    rcases rlg (sd c d x) 0 with k | k
    ·rw [lift_oo k (by grind),if_neg (by grind)]
    ·rw [lift_ii k (by grind),if_pos k]
   ·have e:=par2 x hx
    rcases rlg (sd a b x) 0 with k | k
    ·rw [lift_oo k (by grind),if_neg (by grind)]
    ·rw [lift_ii k (by grind),if_pos k]
 ·obtain ⟨x,hx⟩:∃ x,x*((b.1-a.1)*(d.2-c.2)-(b.2-a.2)*(d.1-c.1))=(c.1-a.1)*(d.2-c.2)-(c.2-a.2)*(d.1-c.1):=⟨((c.1-a.1)*(d.2-c.2)-(c.2-a.2)*(d.1-c.1)) / ((b.1-a.1)*(d.2-c.2)-(b.2-a.2)*(d.1-c.1)),by grind⟩
  have h1:sd a b (mix x a b)=0:=by simp only [sd,cx,mix];grind
  have h2:sd c d (mix x a b)=0:=by simp only [sd,cx,mix];grind
  exact ⟨_,_,h1,h2,base_common A h1 h2⟩
def Alike (l m:List R2):Prop:=∀ f,Addv f->csum f l=csum f m
theorem Alike.refl (l:List R2):Alike l l:=fun _ _=>rfl
theorem Alike.trans {l m n:List R2}(h:Alike l m)(k:Alike m n):Alike l n:=fun f A=>(h f A).trans (k f A)
theorem Alike.clip {l m:List R2}(h:Alike l m){a b:R2}(n:a≠b):Alike (clipR (sd a b) l) (clipR (sd a b) m):=fun f A=>by
 rw [clip_sum A (lin_sd n) (sd_left a b),clip_sum A (lin_sd n) (sd_left a b)]
 exact h _ (A.lift (lin_sd n))
theorem clip_swap (l:List R2){a b c d:R2}(n1:a≠b)(n2:c≠d):Alike (clipR (sd c d) (clipR (sd a b) l)) (clipR (sd a b) (clipR (sd c d) l)):=fun f A=>by
 obtain ⟨o1,o2,h1,h2,B⟩:=base_ex A n1 n2
 rw [clip_sum A (lin_sd n2) h2,clip_sum (A.lift (lin_sd n2)) (lin_sd n1) h1,clip_sum A (lin_sd n1) h1,clip_sum (A.lift (lin_sd n1)) (lin_sd n2) h2]
 congr 1
 funext p q
 exact comm A (lin_sd n1) (lin_sd n2) B
theorem Alike.clips {E:List (R2×R2)}:∀ {l m:List R2},Alike l m->(∀ e∈E,e.1≠e.2)->Alike (E.foldl (fun l e=>clipR (sd e.1 e.2) l) l) (E.foldl (fun l e=>clipR (sd e.1 e.2) l) m):=by
 induction E with
 | nil=>intro l m h _;exact h
 | cons e E ih=>intro l m h hE;exact ih (h.clip (hE e (by simp))) fun x hx=>hE x (by simp [hx])
theorem clips_rot {x:R2×R2}(hx:x.1≠x.2):∀ (E:List (R2×R2)) (l:List R2),(∀ e∈E,e.1≠e.2) ->
  Alike ((x::E).foldl (fun l e=>clipR (sd e.1 e.2) l) l) ((E++[x]).foldl (fun l e=>clipR (sd e.1 e.2) l) l)
 | [],l,_=>Alike.refl _
 | e::E,l,hE=>by
  have h1:=hE e (by simp)
  have hE':∀ y∈E,y.1≠y.2:=fun y hy=>hE y (by simp [hy])
  have a:=Alike.clips (E:=E) (clip_swap l hx h1) hE'
  exact a.trans (clips_rot hx E _ hE')
theorem psum_append (f:R2->R2->Rat):∀ (x y:List R2) (z:R2),psum f (x++z::y)=psum f (x++[z])+psum f (z::y)
 | [],y,z=>by show psum f (z::y)=0+psum f (z::y);grind
 | [a],y,z=>by show f a z+psum f (z::y)=f a z+0+psum f (z::y);grind
 | a::b::x,y,z=>by
  have:=psum_append f (b::x) y z
  simp only [List.cons_append] at this ⊢
  show f a b+psum f (b::(x++z::y))=f a b+psum f (b::(x++[z]))+psum f (z::y)
  rw [this];grind
theorem csum_rot (f:R2->R2->Rat)(x y:List R2):csum f (x++y)=csum f (y++x):=by
 cases x with
 | nil=>simp
 | cons a x =>
  cases y with
  | nil=>simp
  | cons b y =>
   show psum f (a::(x++b::y)++[a])=psum f (b::(y++a::x)++[b])
   have e1:=psum_append f (a::x) (y++[a]) b
   have e2:=psum_append f (b::y) (x++[b]) a
   simp only [List.cons_append,List.append_assoc] at e1 e2 ⊢
   rw [e1,e2];grind
theorem alike_rot (x y:List R2):Alike (x++y) (y++x):=fun f _=>csum_rot f x y
def emit2 (s:R2->Rat)(e:R2×R2):List R2 :=
 (if (0 < s e.1/\s e.2 < 0)\/(s e.1 < 0/\0 < s e.2) then [cutp s e.1 e.2] else [])++(if 0<=s e.2 then [e.2] else [])
def cycL (l:List R2):List (R2×R2):=(l.getLast?.toList++l).zip l
def cutR (s:R2->Rat)(l:List R2):List R2:=(cycL l).flatMap (emit2 s)
theorem pe_append:∀ (x y:List R2) (z:R2),pe (x++z::y)=pe (x++[z])++pe (z::y)
 | [],y,z=>rfl
 | [a],y,z=>by simp [pe]
 | a::b::x,y,z=>by
  have:=pe_append (b::x) y z
  simp only [List.cons_append,pe] at this ⊢
  rw [this]
theorem cycL_pe (a:R2)(t:List R2):∃ z,(a::t).getLast?=some z/\cycL (a::t)=(z,a)::pe (a::t)/\cyc (a::t)=pe (a::t)++[(z,a)]:=by
 obtain ⟨t',z,hz⟩:∃ t' z,a::t=t'++[z]:=⟨_,_,(List.dropLast_concat_getLast (by simp)).symm⟩
 have hl:(a::t).getLast?=some z:=by rw [hz];simp
 refine ⟨z,hl,?_,?_⟩
 ·unfold cycL
  rw [hl]
  show (z::a::t).zip (a::t)=_
  rw [List.zip_cons_cons,pe_zip]
  rfl
 ·rw [cyc_pe,hz,show t'++[z]++[a]=t'++z::[a] by simp,pe_append]
  rfl
theorem emits (s:R2->Rat):∀ (r:List R2) (p k:R2),(p::r).getLast?=some k ->
  (pe (p::r)).flatMap (emit s)++(if 0<=s k then [k] else [])=(if 0<=s p then [p] else [])++(pe (p::r)).flatMap (emit2 s)
 | [],p,k,h=>by
  have e:p=k:=by simpa using h
  subst e
  simp [pe]
 | q::r,p,k,h=>by
  have ih:=emits s r q k (by rw [List.getLast?_cons_cons] at h;exact h)
  show (emit s (p,q)++(pe (q::r)).flatMap (emit s))++_=_++(emit2 s (p,q)++(pe (q::r)).flatMap (emit2 s))
  rw [List.append_assoc,ih]
  simp only [emit,emit2,List.append_assoc]
theorem cut_alike (s:R2->Rat)(l:List R2):Alike (cutR s l) (clipR s l):=by
 cases l with
 | nil=>exact Alike.refl _
 | cons a t =>
  obtain ⟨z,hz,e1,e2⟩:=cycL_pe a t
  unfold cutR clipR
  rw [e1,e2,List.flatMap_append,List.flatMap_cons]
  have em:=emits s t a z hz
  have x1:[(z,a)].flatMap (emit s)=(if 0<=s z then [z] else [])++(if (0 < s z/\s a < 0)\/(s z < 0/\0 < s a) then [cutp s z a] else []):=by
   show emit s (z,a)++[]=_
   rw [List.append_nil];rfl
  rw [x1,<- List.append_assoc,em]
  show Alike (((if (0 < s z/\s a < 0)\/(s z < 0/\0 < s a) then [cutp s z a] else [])++(if 0<=s a then [a] else []))++(pe (a::t)).flatMap (emit2 s)) _
  rw [List.append_assoc]
  exact alike_rot _ _
theorem cuts_alike:∀ (E:List (R2×R2)) (l m:List R2),Alike l m->(∀ e∈E,e.1≠e.2)->Alike (E.foldl (fun l e=>cutR (sd e.1 e.2) l) l) (E.foldl (fun l e=>clipR (sd e.1 e.2) l) m)
 | [],l,m,h,_=>h
 | e::E,l,m,h,hE=>by
  have h1:=hE e (by simp)
  exact cuts_alike E _ _ ((cut_alike (sd e.1 e.2) l).trans (h.clip h1)) fun y hy=>hE y (by simp [hy])
def ar (p q:R2):Rat:=p.1*q.2-p.2*q.1
theorem addv_ar:Addv ar:=by
 refine ⟨fun p q=>by simp only [ar];grind,fun p q r h=>?_⟩
 have:ar p q+ar q r+ar r p=cx p q r:=by simp only [ar,cx];grind
 rw [this,h]
end G
namespace G
open Vbecap (cross hull edges frac Frac plus minus times divide whole Point side clipped areaF sumF overlap)
theorem dmq {a b:Rat}(h:b≠0):a / b*b=a:=by grind
theorem ca_nz {a:Int}(h:0 < a):(a:Rat)≠0:=ca_ne (by omega)
theorem val_plus {a b:Frac}(ha:0 < a.2)(hb:0 < b.2):val (plus a b)=val a+val b:=by
 have p:=Int.mul_pos ha hb
 unfold plus
 rw [val_frac _ (by omega)]
 unfold val
 have:=ca_nz ha
 have:=ca_nz hb
 rw [Rat.intCast_add,Rat.intCast_mul,Rat.intCast_mul,Rat.intCast_mul];grind
theorem val_minus {a b:Frac}(ha:0 < a.2)(hb:0 < b.2):val (minus a b)=val a-val b:=by
 have p:=Int.mul_pos ha hb
 unfold minus
 rw [val_frac _ (by omega)]
 unfold val
 have:=ca_nz ha
 have:=ca_nz hb
 rw [Rat.intCast_sub,Rat.intCast_mul,Rat.intCast_mul,Rat.intCast_mul];grind
theorem val_times {a b:Frac}(ha:0 < a.2)(hb:0 < b.2):val (times a b)=val a*val b:=by
 have p:=Int.mul_pos ha hb
 unfold times
 rw [val_frac _ (by omega)]
 unfold val
 have:=ca_nz ha
 have:=ca_nz hb
 rw [Rat.intCast_mul,Rat.intCast_mul];grind
theorem val_divide {a b:Frac}(ha:0 < a.2)(hb:0 < b.2)(hn:b.1≠0):val (divide a b)=val a / val b:=by
 unfold divide
 rw [val_frac _ (Int.mul_ne_zero (by omega) hn)]
 unfold val
 have:=ca_nz ha
 have:=ca_nz hb
 have:=ca_ne hn
 rw [Rat.intCast_mul,Rat.intCast_mul];grind
theorem val_whole (n:Int):val (whole n)=(n:Rat):=by
 unfold val whole
 show (n:Rat) / ((1:Int):Rat)=n
 rw [show ((1:Int):Rat)=1 from rfl];grind
theorem whole_pos (n:Int):0 < (whole n).2:=by show (0:Int) < 1;decide
theorem dpos_plus (a b:Frac):0 < (plus a b).2:=(low_any _ _).pos
theorem dpos_minus (a b:Frac):0 < (minus a b).2:=(low_any _ _).pos
theorem dpos_times (a b:Frac):0 < (times a b).2:=(low_any _ _).pos
theorem dpos_divide (a b:Frac):0 < (divide a b).2:=(low_any _ _).pos
theorem sgn_val {a:Frac}(ha:0 < a.2):(0<=a.1↔0<=val a)/\(0 < a.1↔0 < val a)/\(a.1 < 0↔val a < 0):=by
 have p:0 < (a.2:Rat):=ca_pos.mpr ha
 have e:val a*(a.2:Rat)=(a.1:Rat):=by unfold val;grind
 have h1:0 < a.1↔0 < val a:=by
  rw [<- ca_pos,<- e]
  constructor
  ·intro h;exact rpos_of p (by grind)
  ·intro h;exact Rat.mul_pos h p
 have h2:0<=a.1↔0<=val a:=by
  rw [<- ca_nn,<- e]
  constructor
  ·intro h;exact rnn_of p (by grind)
  ·intro h;exact rnn_mul h (Rat.le_of_lt p)
 refine ⟨h2,h1,?_⟩
 constructor
 ·intro h
  rcases rlg (val a) 0 with q | q
  ·exact q
  ·have:=h2.mpr q;omega
 ·intro h
  rcases lg a.1 0 with q | q
  ·exact q
  ·have:=h2.mp q;grind
def pv (p:Point):R2:=(val p.1,val p.2)
def Gd (p:Point):Prop:=0 < p.1.2/\0 < p.2.2
theorem val_side (a b:P){p:Point}(hp:Gd p):val (side a b p)=sd (ca a) (ca b) (pv p)/\0 < (side a b p).2:=by
 refine ⟨?_,dpos_minus _ _⟩
 unfold side
 rw [val_minus (dpos_times _ _) (dpos_times _ _),val_times (whole_pos _) (dpos_minus _ _),val_times (whole_pos _) (dpos_minus _ _),val_minus hp.2 (whole_pos _),val_minus hp.1 (whole_pos _)]
 simp only [val_whole,sd,cx,ca,pv,Rat.intCast_sub]
theorem zip_map (f:α->β)(l m:List α):(l.map f).zip (m.map f)=(l.zip m).map fun e=>(f e.1,f e.2):=by
 rw [List.zip_map];rfl
theorem cyc_map (l:List Point):cyc (l.map pv)=(l.zip (l.drop 1++l.take 1)).map fun e=>(pv e.1,pv e.2):=by
 unfold cyc
 rw [<- zip_map,List.map_append,List.map_drop,List.map_take]
theorem zip_cyc_mem {α:Type}{l:List α}{e:α×α}(h:e∈l.zip (l.drop 1++l.take 1)):e.1∈l/\e.2∈l:=by
 have h1:=(List.of_mem_zip h).1
 have h2:=(List.of_mem_zip h).2
 refine ⟨h1,?_⟩
 rcases List.mem_append.mp h2 with q | q
 ·exact List.mem_of_mem_drop q
 ·exact List.mem_of_mem_take q
theorem clip_one (a b:P){e:Point×Point}(h1:Gd e.1)(h2:Gd e.2) :
  ∀ (s t:Frac) (cut:Point),s=side a b e.1->t=side a b e.2->cut=(plus e.1.1 (times (divide s (minus s t)) (minus e.2.1 e.1.1)),plus e.1.2 (times (divide s (minus s t)) (minus e.2.2 e.1.2))) ->
  ((if 0<=s.1 then [e.1] else [])++(if (0 < s.1/\t.1 < 0)\/(s.1 < 0/\0 < t.1) then [cut] else [])).map pv=emit (sd (ca a) (ca b)) (pv e.1,pv e.2)/\Gd cut:=by
 intro s t cut hs ht hc
 obtain ⟨v1,p1⟩:=val_side a b h1
 obtain ⟨v2,p2⟩:=val_side a b h2
 rw [<- hs] at v1 p1
 rw [<- ht] at v2 p2
 have s1:=sgn_val p1
 have s2:=sgn_val p2
 rw [v1] at s1
 rw [v2] at s2
 refine ⟨?_,by rw [hc];exact ⟨dpos_plus _ _,dpos_plus _ _⟩⟩
 unfold emit
 rw [List.map_append]
 congr 1
 ·by_cases q:0<=s.1
  ·rw [if_pos q,if_pos (s1.1.mp q)];rfl
  ·rw [if_neg q,if_neg (fun z=>q (s1.1.mpr z))];rfl
 ·by_cases q:(0 < s.1/\t.1 < 0)\/(s.1 < 0/\0 < t.1)
  ·have q':(0 < sd (ca a) (ca b) (pv e.1)/\sd (ca a) (ca b) (pv e.2) < 0)\/(sd (ca a) (ca b) (pv e.1) < 0/\0 < sd (ca a) (ca b) (pv e.2)):=by
    rw [<- s1.2.1,<- s1.2.2,<- s2.2.1,<- s2.2.2];exact q
   rw [if_pos q,if_pos q']
   show [pv cut]=[_]
   congr 1
   have dn:(minus s t).1≠0:=fun z=>by
    have:=val_minus p1 p2
    rw [v1,v2] at this
    have z':val (minus s t)=0:=by unfold val;rw [z];grind
    rw [z'] at this
    grind
   have k:val (divide s (minus s t))=sd (ca a) (ca b) (pv e.1) / (sd (ca a) (ca b) (pv e.1)-sd (ca a) (ca b) (pv e.2)):=by
    rw [val_divide p1 (dpos_minus _ _) dn,val_minus p1 p2,v1,v2]
   rw [hc]
   simp only [pv,cutp,mix]
   rw [val_plus h1.1 (dpos_times _ _),val_plus h1.2 (dpos_times _ _),val_times (dpos_divide _ _) (dpos_minus _ _),val_times (dpos_divide _ _) (dpos_minus _ _),val_minus h2.1 h1.1,val_minus h2.2 h1.2,k]
   rfl
  ·have q':¬ ((0 < sd (ca a) (ca b) (pv e.1)/\sd (ca a) (ca b) (pv e.2) < 0)\/(sd (ca a) (ca b) (pv e.1) < 0/\0 < sd (ca a) (ca b) (pv e.2))):=by
    rw [<- s1.2.1,<- s1.2.2,<- s2.2.1,<- s2.2.2];exact q
   rw [if_neg q,if_neg q'];rfl
theorem flatMap_map_eq {α β γ:Type}(f:α->List β)(g:β->γ)(h:α->List γ):∀ L:List α,(∀ x∈L,(f x).map g=h x)->(L.flatMap f).map g=L.flatMap h
 | [],_=>rfl
 | a::L,k=>by
  rw [List.flatMap_cons,List.flatMap_cons,List.map_append,k a (by simp),flatMap_map_eq f g h L fun x hx=>k x (by simp [hx])]
theorem clipped_val (a b:P){l:List Point}(hl:∀ p∈l,Gd p):(clipped a b l).map pv=clipR (sd (ca a) (ca b)) (l.map pv)/\∀ p∈clipped a b l,Gd p:=by
 constructor
 ·unfold clipR
  rw [cyc_map,List.flatMap_map]
  unfold clipped
  exact flatMap_map_eq _ _ _ _ fun e he=>(clip_one a b (hl _ (zip_cyc_mem he).1) (hl _ (zip_cyc_mem he).2) _ _ _ rfl rfl rfl).1
 ·intro p hp
  unfold clipped at hp
  rw [List.mem_flatMap] at hp
  obtain ⟨e,he,hp⟩:=hp
  simp only at hp
  rcases List.mem_append.mp hp with q | q
  ·split at q
   ·have:p=e.1:=by simpa using q
    rw [this];exact hl _ (zip_cyc_mem he).1
   ·simp at q
  ·split at q
   ·rw [List.mem_singleton.mp q];exact ⟨dpos_plus _ _,dpos_plus _ _⟩
   ·simp at q
theorem clips_val:∀ (E:List (P×P)) (l:List Point),(∀ p∈l,Gd p)->(E.foldl (fun l e=>clipped e.1 e.2 l) l).map pv=(E.map fun e=>(ca e.1,ca e.2)).foldl (fun l e=>clipR (sd e.1 e.2) l) (l.map pv)/\∀ p∈E.foldl (fun l e=>clipped e.1 e.2 l) l,Gd p
 | [],l,h=>⟨rfl,h⟩
 | e::E,l,h=>by
  obtain ⟨h1,h2⟩:=clipped_val e.1 e.2 h
  have:=clips_val E _ h2
  rw [h1] at this
  exact this
theorem sumF_val:∀ (L:List Frac) (b:Frac),(∀ f∈L,0 < f.2)->Low b->Low (L.foldl plus b)/\val (L.foldl plus b)=val b+(L.map val).sum
 | [],b,_,hb=>⟨hb,by show val b=val b+0;grind⟩
 | a::L,b,h,hb=>by
  have:=sumF_val L (plus b a) (fun f hf=>h f (by simp [hf])) (low_any _ _)
  refine ⟨this.1,?_⟩
  rw [List.foldl_cons,this.2,val_plus hb.pos (h a (by simp))]
  show _=val b+(val a+(L.map val).sum)
  grind
theorem low01:Low (0,1):=⟨by decide,by decide⟩
theorem val01:val (0,1)=0:=by unfold val;rw [show ((0:Int):Rat)=0 from rfl];grind
theorem areaF_val {l:List Point}(hl:∀ p∈l,Gd p):Low (areaF l)/\val (areaF l)=csum ar (l.map pv):=by
 unfold areaF sumF
 have:=sumF_val ((l.zip (l.drop 1++l.take 1)).map fun e=>minus (times e.1.1 e.2.2) (times e.2.1 e.1.2)) (0,1) (fun f hf=>by
  rw [List.mem_map] at hf
  obtain ⟨e,_,rfl⟩:=hf
  exact dpos_minus _ _) low01
 refine ⟨this.1,?_⟩
 rw [this.2,val01,csum_cyc,cyc_map,List.map_map,List.map_map]
 have e:((l.zip (l.drop 1++l.take 1)).map (val ∘ fun e=>minus (times e.1.1 e.2.2) (times e.2.1 e.1.2)))=(l.zip (l.drop 1++l.take 1)).map ((fun e=>ar e.1 e.2) ∘ fun e=>(pv e.1,pv e.2)):=by
  refine List.map_congr_left fun e he=>?_
  have h1:=hl _ (zip_cyc_mem he).1
  have h2:=hl _ (zip_cyc_mem he).2
  simp only [Function.comp]
  rw [val_minus (dpos_times _ _) (dpos_times _ _),val_times h1.1 h2.2,val_times h2.1 h1.2]
  simp only [ar,pv];grind
 rw [e];grind
abbrev H3:=Int×Int×Int
def hv (p:H3):R2:=((p.1:Rat) / (p.2.2:Rat),(p.2.1:Rat) / (p.2.2:Rat))
def pturn (s:P×P)(p:H3):Int:=(s.2.1-s.1.1)*(p.2.1-s.1.2*p.2.2)-(s.2.2-s.1.2)*(p.1-s.1.1*p.2.2)
def absI (i:Int):Int:=if i < 0 then -i else i
def gcdI (a b:Int):Int:=((Nat.gcd a.natAbs b.natAbs:Nat):Int)
def crossM (one:H3)(ot:Int)(other:H3)(tt:Int):H3 :=
 let x:=absI ot*other.1+absI tt*one.1
 let y:=absI ot*other.2.1+absI tt*one.2.1
 let w:=absI ot*other.2.2+absI tt*one.2.2
 let g:=gcdI (gcdI (absI x) (absI y)) w
 (x / g,y / g,w / g)
def cycM {α:Type}(l:List α):List (α×α):=(l.getLast?.toList++l).zip l
def cut1M (s:P×P)(e:H3×H3):List H3 :=
 (if pturn s e.1*pturn s e.2 < 0 then [crossM e.1 (pturn s e.1) e.2 (pturn s e.2)] else [])++(if 0<=pturn s e.2 then [e.2] else [])
def cutM (l:List H3)(s:P×P):List H3:=(cycM l).flatMap (cut1M s)
def areaM (l:List H3):Frac:=(cycM l).foldl (fun t e=>plus t (e.1.1*e.2.2.1-e.1.2.1*e.2.1,e.1.2.2*e.2.2.2)) (0,1)
def overlapM (A B:List P):Frac:=if A.length < 3\/B.length < 3 then (0,1) else areaM ((sidesM B).foldl cutM (A.map fun p=>(p.1,p.2,1)))
def Hd (p:H3):Prop:=0 < p.2.2
theorem pturn_val (s:P×P){p:H3}(hp:Hd p):(pturn s p:Rat)=sd (ca s.1) (ca s.2) (hv p)*(p.2.2:Rat):=by
 have:(p.2.2:Rat)≠0:=ca_nz hp
 simp only [pturn,sd,cx,ca,hv,Rat.intCast_sub,Rat.intCast_mul]
 have e1:(p.1:Rat) / (p.2.2:Rat)*(p.2.2:Rat)=p.1:=by grind
 have e2:(p.2.1:Rat) / (p.2.2:Rat)*(p.2.2:Rat)=p.2.1:=by grind
 grind
theorem pturn_sgn (s:P×P){p:H3}(hp:Hd p):(0<=pturn s p↔0<=sd (ca s.1) (ca s.2) (hv p))/\(0 < pturn s p↔0 < sd (ca s.1) (ca s.2) (hv p))/\(pturn s p < 0↔sd (ca s.1) (ca s.2) (hv p) < 0):=by
 have p0:0 < (p.2.2:Rat):=ca_pos.mpr hp
 have e:=pturn_val s hp
 have h1:0 < pturn s p↔0 < sd (ca s.1) (ca s.2) (hv p):=by
  rw [<- ca_pos,e]
  constructor
  ·intro h;exact rpos_of p0 (by grind)
  ·intro h;exact Rat.mul_pos h p0
 have h2:0<=pturn s p↔0<=sd (ca s.1) (ca s.2) (hv p):=by
  rw [<- ca_nn,e]
  constructor
  ·intro h;exact rnn_of p0 (by grind)
  ·intro h;exact rnn_mul h (Rat.le_of_lt p0)
 refine ⟨h2,h1,?_⟩
 constructor
 ·intro h
  rcases rlg (sd (ca s.1) (ca s.2) (hv p)) 0 with q | q
  ·exact q
  ·have:=h2.mpr q;omega
 ·intro h
  rcases lg (pturn s p) 0 with q | q
  ·exact q
  ·have:=h2.mp q;grind
theorem absI_nn (i:Int):0<=absI i:=by unfold absI;split<;>omega
theorem gcdI_facts (x y:Int){w:Int}(hw:0 < w):∃ g,gcdI (gcdI (absI x) (absI y)) w=g/\0 < g/\x / g*g=x/\y / g*g=y/\w / g*g=w/\0 < w / g:=by
 refine ⟨_,rfl,?_⟩
 have na:∀ i:Int,(absI i).natAbs=i.natAbs:=fun i=>by unfold absI;split<;>omega
 have g0:0 < gcdI (gcdI (absI x) (absI y)) w:=by
  unfold gcdI
  have:=Nat.gcd_pos_of_pos_right ((Nat.gcd (absI x).natAbs (absI y).natAbs:Nat):Int).natAbs (show 0 < w.natAbs by omega)
  omega
 have d1:gcdI (gcdI (absI x) (absI y)) w ∣ gcdI (absI x) (absI y):=by
  unfold gcdI
  exact Int.ofNat_dvd_left.mpr (Nat.gcd_dvd_left _ _)
 have dx:gcdI (absI x) (absI y) ∣ x:=by
  unfold gcdI
  rw [na,na]
  exact Int.ofNat_dvd_left.mpr (Nat.gcd_dvd_left _ _)
 have dy:gcdI (absI x) (absI y) ∣ y:=by
  unfold gcdI
  rw [na,na]
  exact Int.ofNat_dvd_left.mpr (Nat.gcd_dvd_right _ _)
 have dw:gcdI (gcdI (absI x) (absI y)) w ∣ w:=by
  unfold gcdI
  exact Int.ofNat_dvd_left.mpr (Nat.gcd_dvd_right _ _)
 have ew:=Int.ediv_mul_cancel dw
 refine ⟨g0,Int.ediv_mul_cancel (Int.dvd_trans d1 dx),Int.ediv_mul_cancel (Int.dvd_trans d1 dy),ew,?_⟩
 rcases lg 0 (w / gcdI (gcdI (absI x) (absI y)) w) with q | q
 ·exact q
 ·have:=Int.mul_nonneg (show 0<=-(w / gcdI (gcdI (absI x) (absI y)) w) by omega) (Int.le_of_lt g0)
  rw [Int.neg_mul,ew] at this
  omega
theorem key_q {S T A B g x y za zb Z W:Rat}(hs:(0 < S/\T < 0)\/(S < 0/\0 < T))(hx:x=if S < 0 then -(S*A) else S*A)(hy:y=if T < 0 then -(T*B) else T*B)(gq:g≠0)(hW:W≠0)
  (eW:W*g=x*B+y*A) (eZ:Z*g=x*(zb*B)+y*(za*A)):Z / W=za+S / (S-T)*(zb-za):=by
 have dn:S-T≠0:=by grind
 have kk:S / (S-T)*(S-T)=S:=dmq dn
 generalize S / (S-T)=k at *
 have e3:(W*g)*(za+k*(zb-za))=Z*g:=by
  rw [eW,eZ]
  rcases hs with ⟨h1,h2⟩ | ⟨h1,h2⟩
  ·rw [if_neg (by grind)] at hx
   rw [if_pos h2] at hy
   subst hx hy
   clear eW eZ h1 h2 dn gq hW
   grind
  ·rw [if_pos h1] at hx
   rw [if_neg (by grind)] at hy
   subst hx hy
   clear eW eZ h1 h2 dn gq hW
   grind
 have e4:g*(Z-W*(za+k*(zb-za)))=0:=by clear eW eZ hx hy hs kk dn;grind
 rcases Rat.mul_eq_zero.mp e4 with q | q
 ·exact absurd q gq
 ·clear eW eZ hx hy hs kk dn e3 e4;grind
theorem cross_val (s:P×P){a b:H3}(ha:Hd a)(hb:Hd b)(h:(0 < pturn s a/\pturn s b < 0)\/(pturn s a < 0/\0 < pturn s b)) :
  hv (crossM a (pturn s a) b (pturn s b))=cutp (sd (ca s.1) (ca s.2)) (hv a) (hv b)/\Hd (crossM a (pturn s a) b (pturn s b)):=by
 have e1:=pturn_val s ha
 have e2:=pturn_val s hb
 generalize hS:sd (ca s.1) (ca s.2) (hv a)=S at e1
 generalize hT:sd (ca s.1) (ca s.2) (hv b)=T at e2
 generalize pturn s a=t at *
 generalize pturn s b=u at *
 have pa:0 < (a.2.2:Rat):=ca_pos.mpr ha
 have pb:0 < (b.2.2:Rat):=ca_pos.mpr hb
 have ha':0 < a.2.2:=ha
 have hb':0 < b.2.2:=hb
 have w0:0 < absI t*b.2.2+absI u*a.2.2:=by
  have h1:0 < absI t:=by unfold absI;split<;>omega
  have h2:0 < absI u:=by unfold absI;split<;>omega
  have:=Int.mul_pos h1 hb'
  have:=Int.mul_pos h2 ha'
  omega
 unfold crossM
 simp only
 obtain ⟨g,eg,g0,x1,y1,w1,wp⟩:=gcdI_facts (absI t*b.1+absI u*a.1) (absI t*b.2.1+absI u*a.2.1) w0
 rw [eg]
 refine ⟨?_,wp⟩
 have gq:(g:Rat)≠0:=ca_nz g0
 have wq:(((absI t*b.2.2+absI u*a.2.2) / g:Int):Rat)≠0:=ca_nz wp
 have x1':=congrArg (fun z:Int=>(z:Rat)) x1
 have y1':=congrArg (fun z:Int=>(z:Rat)) y1
 have w1':=congrArg (fun z:Int=>(z:Rat)) w1
 simp only [Rat.intCast_mul,Rat.intCast_add] at x1' y1' w1'
 have at_:(absI t:Rat)=if S < 0 then -(S*a.2.2) else S*a.2.2:=by
  unfold absI
  by_cases q:t < 0
  ·have:S < 0:=by
    rcases rlg S 0 with z | z
    ·exact z
    ·have:=rnn_mul z (Rat.le_of_lt pa);have:=ca_neg.mpr q;grind
   rw [if_pos q,if_pos this,Rat.intCast_neg,e1]
  ·have:¬ S < 0:=fun z=>by
    have:=Rat.mul_pos (show 0 < -S by grind) pa
    have:(t:Rat) < 0:=by grind
    exact q (ca_neg.mp this)
   rw [if_neg q,if_neg this,e1]
 have au_:(absI u:Rat)=if T < 0 then -(T*b.2.2) else T*b.2.2:=by
  unfold absI
  by_cases q:u < 0
  ·have:T < 0:=by
    rcases rlg T 0 with z | z
    ·exact z
    ·have:=rnn_mul z (Rat.le_of_lt pb);have:=ca_neg.mpr q;grind
   rw [if_pos q,if_pos this,Rat.intCast_neg,e2]
  ·have:¬ T < 0:=fun z=>by
    have:=Rat.mul_pos (show 0 < -T by grind) pb
    have:(u:Rat) < 0:=by grind
    exact q (ca_neg.mp this)
   rw [if_neg q,if_neg this,e2]
 have hs:(0 < S/\T < 0)\/(S < 0/\0 < T):=by
  rcases h with ⟨h1,h2⟩ | ⟨h1,h2⟩
  ·left
   have k1:=ca_pos.mpr h1
   have k2:=ca_neg.mpr h2
   rw [e1] at k1
   rw [e2] at k2
   refine ⟨rpos_of pa (by grind),?_⟩
   have:=rpos_of pb (b:=-T) (by grind)
   grind
  ·right
   have k1:=ca_neg.mpr h1
   have k2:=ca_pos.mpr h2
   rw [e1] at k1
   rw [e2] at k2
   refine ⟨?_,rpos_of pb (by grind)⟩
   have:=rpos_of pa (b:=-S) (by grind)
   grind
 have xa:(a.1:Rat) / a.2.2*a.2.2=a.1:=dmq (ca_nz ha')
 have ya:(a.2.1:Rat) / a.2.2*a.2.2=a.2.1:=dmq (ca_nz ha')
 have xb:(b.1:Rat) / b.2.2*b.2.2=b.1:=dmq (ca_nz hb')
 have yb:(b.2.1:Rat) / b.2.2*b.2.2=b.2.1:=dmq (ca_nz hb')
 unfold cutp
 rw [hS,hT]
 simp only [hv,mix]
 refine Prod.ext ?_ ?_
 ·exact key_q hs at_ au_ gq wq w1' (by rw [xa,xb];exact x1')
 ·exact key_q hs at_ au_ gq wq w1' (by rw [ya,yb];exact y1')
theorem getLast_map {α β:Type}(f:α->β)(l:List α):(l.map f).getLast?.toList=l.getLast?.toList.map f:=by
 rw [List.getLast?_map]
 cases l.getLast?<;>rfl
theorem cycL_map (l:List H3):cycL (l.map hv)=(cycM l).map fun e=>(hv e.1,hv e.2):=by
 unfold cycL cycM
 rw [<- zip_map,List.map_append,getLast_map]
theorem cycM_mem {α:Type}{l:List α}{e:α×α}(h:e∈cycM l):e.1∈l/\e.2∈l:=by
 unfold cycM at h
 have h1:=(List.of_mem_zip h).1
 have h2:=(List.of_mem_zip h).2
 refine ⟨?_,h2⟩
 rcases List.mem_append.mp h1 with q | q
 ·cases e2:l.getLast? with
  | none=>rw [e2] at q;simp at q
  | some z =>
   rw [e2] at q
   have:e.1=z:=by simpa using q
   rw [this];exact List.mem_of_getLast? e2
 ·exact q
theorem cut1_val (s:P×P){e:H3×H3}(h1:Hd e.1)(h2:Hd e.2):(cut1M s e).map hv=emit2 (sd (ca s.1) (ca s.2)) (hv e.1,hv e.2)/\∀ p∈cut1M s e,Hd p:=by
 have s1:=pturn_sgn s h1
 have s2:=pturn_sgn s h2
 have mm:pturn s e.1*pturn s e.2 < 0↔(0 < pturn s e.1/\pturn s e.2 < 0)\/(pturn s e.1 < 0/\0 < pturn s e.2) :=
  ⟨fun h=>(mul_neg_cases h).symm,fun h=>mul_neg_of h.symm⟩
 have mq:(0 < pturn s e.1/\pturn s e.2 < 0)\/(pturn s e.1 < 0/\0 < pturn s e.2)↔(0 < sd (ca s.1) (ca s.2) (hv e.1)/\sd (ca s.1) (ca s.2) (hv e.2) < 0)\/(sd (ca s.1) (ca s.2) (hv e.1) < 0/\0 < sd (ca s.1) (ca s.2) (hv e.2)):=by
  rw [s1.2.1,s1.2.2,s2.2.1,s2.2.2]
 constructor
 ·unfold cut1M emit2
  rw [List.map_append]
  congr 1
  ·by_cases q:pturn s e.1*pturn s e.2 < 0
   ·rw [if_pos q,if_pos (mq.mp (mm.mp q))]
    show [_]=[_]
    rw [(cross_val s h1 h2 (mm.mp q)).1]
   ·rw [if_neg q,if_neg (fun z=>q (mm.mpr (mq.mpr z)))];rfl
  ·by_cases q:0<=pturn s e.2
   ·rw [if_pos q,if_pos (s2.1.mp q)];rfl
   ·rw [if_neg q,if_neg (fun z=>q (s2.1.mpr z))];rfl
 ·intro p hp
  unfold cut1M at hp
  rcases List.mem_append.mp hp with q | q
  ·split at q
   ·rename_i hc
    rw [List.mem_singleton.mp q];exact (cross_val s h1 h2 (mm.mp hc)).2
   ·simp at q
  ·split at q
   ·have:p=e.2:=by simpa using q
    rw [this];exact h2
   ·simp at q
theorem cutM_val (s:P×P){l:List H3}(hl:∀ p∈l,Hd p):(cutM l s).map hv=cutR (sd (ca s.1) (ca s.2)) (l.map hv)/\∀ p∈cutM l s,Hd p:=by
 constructor
 ·unfold cutR
  rw [cycL_map,List.flatMap_map]
  unfold cutM
  exact flatMap_map_eq _ _ _ _ fun e he=>(cut1_val s (hl _ (cycM_mem he).1) (hl _ (cycM_mem he).2)).1
 ·intro p hp
  unfold cutM at hp
  rw [List.mem_flatMap] at hp
  obtain ⟨e,he,hp⟩:=hp
  exact (cut1_val s (hl _ (cycM_mem he).1) (hl _ (cycM_mem he).2)).2 p hp
theorem cuts_val:∀ (E:List (P×P)) (l:List H3),(∀ p∈l,Hd p)->(E.foldl cutM l).map hv=(E.map fun e=>(ca e.1,ca e.2)).foldl (fun l e=>cutR (sd e.1 e.2) l) (l.map hv)/\∀ p∈E.foldl cutM l,Hd p
 | [],l,h=>⟨rfl,h⟩
 | e::E,l,h=>by
  obtain ⟨h1,h2⟩:=cutM_val e h
  have:=cuts_val E _ h2
  rw [h1] at this
  exact this
theorem areaM_val {l:List H3}(hl:∀ p∈l,Hd p):Low (areaM l)/\val (areaM l)=csum ar (l.map hv):=by
 have e0:areaM l=((cycM l).map fun e:H3×H3=>((e.1.1*e.2.2.1-e.1.2.1*e.2.1,e.1.2.2*e.2.2.2):Frac)).foldl plus (0,1):=by
  unfold areaM;rw [List.foldl_map]
 have dp:∀ f∈(cycM l).map fun e:H3×H3=>((e.1.1*e.2.2.1-e.1.2.1*e.2.1,e.1.2.2*e.2.2.2):Frac),0 < f.2:=fun f hf=>by
  rw [List.mem_map] at hf
  obtain ⟨e,he,rfl⟩:=hf
  exact Int.mul_pos (hl _ (cycM_mem he).1) (hl _ (cycM_mem he).2)
 obtain ⟨h1,h2⟩:=sumF_val _ (0,1) dp low01
 rw [e0]
 refine ⟨h1,?_⟩
 rw [h2,val01,List.map_map]
 have e:(cycM l).map (val ∘ fun e:H3×H3=>((e.1.1*e.2.2.1-e.1.2.1*e.2.1,e.1.2.2*e.2.2.2):Frac))=(cycL (l.map hv)).map fun e=>ar e.1 e.2:=by
  rw [cycL_map,List.map_map]
  refine List.map_congr_left fun e he=>?_
  have p1:(e.1.2.2:Rat)≠0:=ca_nz (hl _ (cycM_mem he).1)
  have p2:(e.2.2.2:Rat)≠0:=ca_nz (hl _ (cycM_mem he).2)
  simp only [Function.comp,val,ar,hv,Rat.intCast_sub,Rat.intCast_mul]
  grind
 rw [e]
 cases l with
 | nil=>show (0:Rat)+0=0;grind
 | cons a t =>
  rw [csum_cyc]
  show 0+((cycL (hv a::t.map hv)).map fun e=>ar e.1 e.2).sum=((cyc (hv a::t.map hv)).map fun e=>ar e.1 e.2).sum
  obtain ⟨z,_,e1,e2⟩:=cycL_pe (hv a) (t.map hv)
  rw [e1,e2,List.map_append,List.sum_append,List.map_cons,List.sum_cons]
  show 0+(ar z (hv a)+_)=_+(ar z (hv a)+0)
  grind
theorem overlap_ok {l m:List P}:overlapM (hull l) (hull m)=overlap (hull l) (hull m):=by
 unfold overlapM overlap
 by_cases h:(hull l).length < 3\/(hull m).length < 3
 ·rw [if_pos h,if_pos (by omega)]
 rw [if_neg h,if_neg (by omega)]
 have hm:m≠[]:=fun q=>by subst q;rw [hull_nil] at h;simp at h
 have FB:=hull_hf hm
 have ne:∀ e∈edges (hull m),e.1≠e.2:=FB.neq (by omega)
 obtain ⟨E,x,e1,e2⟩:=sides_edges FB.ne
 obtain ⟨c1,c2⟩:=clips_val (edges (hull m)) ((hull l).map fun p=>(whole p.1,whole p.2)) (fun p hp=>by
  rw [List.mem_map] at hp
  obtain ⟨q,_,rfl⟩:=hp
  exact ⟨whole_pos _,whole_pos _⟩)
 obtain ⟨d1,d2⟩:=cuts_val (sidesM (hull m)) ((hull l).map fun p=>(p.1,p.2,1)) (fun p hp=>by
  rw [List.mem_map] at hp
  obtain ⟨q,_,rfl⟩:=hp
  show (0:Int) < 1;decide)
 obtain ⟨a1,a2⟩:=areaF_val c2
 obtain ⟨b1,b2⟩:=areaM_val d2
 refine low_inj b1 a1 ?_
 rw [a2,b2,c1,d1]
 have s1:((hull l).map fun p=>((p.1,p.2,1):H3)).map hv=(hull l).map ca:=by
  rw [List.map_map]
  refine List.map_congr_left fun p _=>?_
  simp only [Function.comp,hv,ca]
  rw [show ((1:Int):Rat)=1 from rfl]
  exact Prod.ext (by simp only;grind) (by simp only;grind)
 have s2:((hull l).map fun p=>((whole p.1,whole p.2):Point)).map pv=(hull l).map ca:=by
  rw [List.map_map]
  refine List.map_congr_left fun p _=>?_
  simp only [Function.comp,pv,ca,val_whole]
 rw [s1,s2,e1,e2]
 have nx:(ca x.1)≠ca x.2:=fun q=>ne x (by rw [e1];simp) (ca_inj q)
 have nE:∀ e∈E.map fun e=>(ca e.1,ca e.2),e.1≠e.2:=fun e he=>by
  rw [List.mem_map] at he
  obtain ⟨y,hy,rfl⟩:=he
  intro q
  exact ne y (by rw [e1];simp [hy]) (ca_inj q)
 have k1:=cuts_alike ((x::E).map fun e=>(ca e.1,ca e.2)) ((hull l).map ca) ((hull l).map ca) (Alike.refl _) (fun e he=>by
  rw [List.map_cons] at he
  rcases List.mem_cons.mp he with rfl | he
  ·exact nx
  ·exact nE e he)
 have k2:=clips_rot (x:=(ca x.1,ca x.2)) nx (E.map fun e=>(ca e.1,ca e.2)) ((hull l).map ca) nE
 have:=(k1.trans k2) ar addv_ar
 rw [this,List.map_append]
 rfl
end G
namespace G
open Vbecap (cross push hull edges sorted put before whereIs area2 sumI rimOf withinOf chosen without layersFrom layers widestOf far2 least)
def areaC (h:List P):Int:=((sidesM h).map fun s=>cross (h.headD (0,0)) s.1 s.2).sum
theorem foldl_add (l:List Int):∀ a:Int,l.foldl (fun a b=>a+b) a=a+l.sum:=by
 induction l with
 | nil=>intro a;simp
 | cons x l ih=>intro a;rw [List.foldl_cons,ih,List.sum_cons];omega
theorem sumI_sum (l:List Int):sumI l=l.sum:=by unfold sumI;rw [foldl_add];omega
theorem tele (g:P->Int):∀ (t:List P) (a z:P),(a::t).getLast?=some z->((consec (a::t)).map fun e=>g e.2-g e.1).sum=g z-g a
 | [],a,z,h=>by
  have e:a=z:=by simpa using h
  subst e;simp [consec]
 | b::t,a,z,h=>by
  have:=tele g t b z (by rw [List.getLast?_cons_cons] at h;exact h)
  simp only [consec,List.map_cons,List.sum_cons,this]
  omega
theorem sum_map_sub (f g:P×P->Int):∀ l:List (P×P),(l.map fun e=>f e+g e).sum=(l.map f).sum+(l.map g).sum
 | []=>rfl
 | a::l=>by
  simp only [List.map_cons,List.sum_cons,sum_map_sub f g l]
  omega
theorem areaC_ok (h:List P):areaC h=area2 h:=by
 by_cases hn:h=[]
 ·subst hn;rfl
 obtain ⟨E,x,e1,e2⟩:=sides_edges hn
 unfold areaC area2
 rw [sumI_sum,e1,e2]
 have perm:((x::E).map fun s=>cross (h.headD (0,0)) s.1 s.2).sum=((E++[x]).map fun s=>cross (h.headD (0,0)) s.1 s.2).sum:=by
  rw [List.map_append,List.sum_append,List.map_cons,List.sum_cons]
  simp;omega
 rw [perm,<- e1]
 generalize h.headD (0,0)=o
 obtain ⟨a,t,rfl⟩:=List.exists_cons_of_ne_nil hn
 have te:=tele (fun p=>o.2*p.1-o.1*p.2) (t++[a]) a a (List.getLast?_concat (l:=a::t) ..)
 rw [edges_consec]
 have hc:(consec (a::t++[a])).map (fun s=>cross o s.1 s.2)=(consec (a::t++[a])).map fun e=>(e.1.1*e.2.2-e.2.1*e.1.2)+((o.2*e.2.1-o.1*e.2.2)-(o.2*e.1.1-o.1*e.1.2)):=by
  refine List.map_congr_left fun e _=>?_
  unfold cross;grind
 rw [hc,sum_map_sub]
 have te':((consec (a::t++[a])).map fun e=>(o.2*e.2.1-o.1*e.2.2)-(o.2*e.1.1-o.1*e.1.2)).sum=0:=by
  have:(o.2*a.1-o.1*a.2)-(o.2*a.1-o.1*a.2)=0:=by omega
  rw [<- this];exact te
 rw [te',Int.add_zero]
def onWay (a b p:P):Bool:=decide (cross a b p=0) && (decide (min a.1 b.1<=p.1) && decide (p.1<=max a.1 b.1)) && (decide (min a.2 b.2<=p.2) && decide (p.2<=max a.2 b.2))
theorem stand_one (a p:P):(if onWay a a p=true then 2 else 0)=whereIs [a] p:=by
 show _=if p=a then 2 else 0
 have:onWay a a p=true↔p=a:=by
  unfold onWay
  have c:cross a a p=0:=by unfold cross;grind
  rw [c]
  simp only [Bool.and_eq_true,decide_eq_true_eq]
  constructor
  ·intro h;exact Prod.ext (by omega) (by omega)
  ·rintro rfl;exact ⟨⟨trivial,by omega,by omega⟩,by omega,by omega⟩
 by_cases q:p=a
 ·rw [if_pos (this.mpr q),if_pos q]
 ·rw [if_neg (fun z=>q (this.mp z)),if_neg q]
theorem stand_two (a b p:P):(if onWay a b p=true then 2 else 0)=whereIs [a,b] p:=by
 show _=if cross a b p=0/\min a.1 b.1<=p.1/\p.1<=max a.1 b.1/\min a.2 b.2<=p.2/\p.2<=max a.2 b.2 then 2 else 0
 have:onWay a b p=true↔(cross a b p=0/\min a.1 b.1<=p.1/\p.1<=max a.1 b.1/\min a.2 b.2<=p.2/\p.2<=max a.2 b.2):=by
  unfold onWay
  simp only [Bool.and_eq_true,decide_eq_true_eq]
  constructor
  ·rintro ⟨⟨h1,h2,h3⟩,h4,h5⟩;exact ⟨h1,h2,h3,h4,h5⟩
  ·rintro ⟨h1,h2,h3,h4,h5⟩;exact ⟨⟨h1,h2,h3⟩,h4,h5⟩
 by_cases q:onWay a b p=true
 ·rw [if_pos q,if_pos (this.mp q)]
 ·rw [if_neg q,if_neg (fun z=>q (this.mpr z))]
theorem stand_many {h:List P}(h3:3<=h.length)(p:P){m:Int}(hm:m∈(sidesM h).map fun s=>cross s.1 s.2 p)(hl:∀ y∈(sidesM h).map fun s=>cross s.1 s.2 p,m<=y) :
  (if m < 0 then 0 else if 0 < m then 1 else 2)=whereIs h p:=by
 rw [where3 h3]
 rw [List.mem_map] at hm
 obtain ⟨e,he,rfl⟩:=hm
 rw [mem_sides] at he
 have all:∀ f∈edges h,cross e.1 e.2 p<=cross f.1 f.2 p:=fun f hf=>hl _ (List.mem_map.mpr ⟨f,mem_sides.mpr hf,rfl⟩)
 have g1:((edges h).all fun e=>decide (0 < cross e.1 e.2 p))=true↔0 < cross e.1 e.2 p:=by
  rw [List.all_eq_true]
  exact ⟨fun k=>of_decide_eq_true (k e he),fun k f hf=>decide_eq_true (by have:=all f hf;omega)⟩
 have g2:((edges h).all fun e=>decide (0<=cross e.1 e.2 p))=true↔0<=cross e.1 e.2 p:=by
  rw [List.all_eq_true]
  exact ⟨fun k=>of_decide_eq_true (k e he),fun k f hf=>decide_eq_true (by have:=all f hf;omega)⟩
 by_cases q:cross e.1 e.2 p < 0
 ·rw [if_pos q,if_neg (fun z=>by have:=g1.mp z;omega),if_neg (fun z=>by have:=g2.mp z;omega)]
 ·rw [if_neg q]
  by_cases r:0 < cross e.1 e.2 p
  ·rw [if_pos r,if_pos (g1.mpr r)]
  ·rw [if_neg r,if_neg (fun z=>r (g1.mp z)),if_pos (g2.mpr (by omega))]
def stepsM (e:P×P):Int:=gcdI (absI (e.2.1-e.1.1)) (absI (e.2.2-e.1.2))
theorem stepsM_eq (e:P×P):stepsM e=((Nat.gcd (e.2.1-e.1.1).natAbs (e.2.2-e.1.2).natAbs:Nat):Int):=by
 have na:∀ i:Int,(absI i).natAbs=i.natAbs:=fun i=>by unfold absI;split<;>omega
 unfold stepsM gcdI;rw [na,na]
def rimM (h:List P):Int:=if h.length=1 then 1 else if h.length=2 then stepsM (h.getD 0 (0,0),h.getD 1 (0,0))+1 else ((sidesM h).map stepsM).sum
theorem foldl_addN (l:List Nat):∀ a:Nat,l.foldl (fun a b=>a+b) a=a+l.sum:=by
 induction l with
 | nil=>intro a;simp
 | cons x l ih=>intro a;rw [List.foldl_cons,ih,List.sum_cons];omega
theorem sum_cast {α:Type}(f:α->Nat):∀ l:List α,((l.map f).sum:Int)=(l.map fun x=>(f x:Int)).sum
 | []=>rfl
 | a::l=>by simp only [List.map_cons,List.sum_cons,Int.natCast_add,sum_cast f l]
theorem rimM_ok (h:List P):rimM h=(rimOf h:Int):=by
 unfold rimM
 match h with
 | []=>rfl
 | [a]=>rfl
 | [a,b] =>
  show stepsM (a,b)+1=((Nat.gcd (b.1-a.1).natAbs (b.2-a.2).natAbs+1:Nat):Int)
  rw [stepsM_eq];simp
 | a::b::c::r =>
  have hn:a::b::c::r≠[]:=by simp
  obtain ⟨E,x,e1,e2⟩:=sides_edges hn
  rw [if_neg (by simp),if_neg (by simp)]
  show _=((((edges (a::b::c::r)).map fun e=>Nat.gcd (e.2.1-e.1.1).natAbs (e.2.2-e.1.2).natAbs).foldl (fun a b=>a+b) 0:Nat):Int)
  rw [foldl_addN,Nat.zero_add,sum_cast,e1,e2,List.map_append,List.sum_append,List.map_cons,List.sum_cons]
  have:∀ l:List (P×P),l.map stepsM=l.map fun e=>((Nat.gcd (e.2.1-e.1.1).natAbs (e.2.2-e.1.2).natAbs:Nat):Int):=fun l=>List.map_congr_left fun e _=>stepsM_eq e
  rw [this,stepsM_eq,List.map_cons,List.map_nil,List.sum_cons,List.sum_nil,Int.add_zero]
  exact Int.add_comm _ _
def innerM (h:List P):Int:=if h.length < 3 then 0 else (areaC h-rimM h+2) / 2
theorem innerM_ok (h:List P):innerM h=withinOf h:=by
 unfold innerM withinOf
 rw [areaC_ok,rimM_ok]
 by_cases q:h.length < 3
 ·rw [if_pos q,if_pos (by omega)]
 ·rw [if_neg q,if_neg (by omega)]
def startOf (a:Nat)(c:List Nat):Nat:=match c.getLast? with
 | none=>a
 | some z=>z+1
def ext (a e:Nat)(c:List Nat):List (List Nat):=(List.range' (startOf a c) (e-startOf a c)).map fun k=>c++[k]
theorem startOf_cons (a b x:Nat)(c:List Nat)(h:c≠[]):startOf a (x::c)=startOf b c:=by
 unfold startOf
 obtain ⟨y,t,rfl⟩:=List.exists_cons_of_ne_nil h
 rw [List.getLast?_cons_cons]
 cases e:(y::t).getLast? with
 | none=>simp at e
 | some z=>rfl
theorem startOf_any (a b:Nat)(c:List Nat)(h:c≠[]):startOf a c=startOf b c:=by
 unfold startOf
 cases e:c.getLast? with
 | none=>exact absurd (List.getLast?_eq_none_iff.mp e) h
 | some z=>rfl
theorem chosen_zero (L:List Nat):chosen 0 L=[[]]:=by rw [chosen]
theorem chosen_ext:∀ (m a j:Nat),chosen (j+1) (List.range' a m)=(chosen j (List.range' a m)).flatMap (ext a (a+m))
 | 0,a,j=>by
  cases j with
  | zero =>
   show ([]:List (List Nat))=(ext a (a+0) [])++[]
   simp [ext,startOf]
  | succ j=>rfl
 | m+1,a,j=>by
  have e:List.range' a (m+1)=a::List.range' (a+1) m:=rfl
  have e1:a+1+m=a+(m+1):=by omega
  rw [e]
  cases j with
  | zero =>
   have ih:=chosen_ext m (a+1) 0
   show ((chosen 0 (List.range' (a+1) m)).map fun r=>a::r)++chosen 1 (List.range' (a+1) m)=([[]]:List (List Nat)).flatMap (ext a (a+(m+1)))
   rw [ih,chosen_zero]
   show [[a]]++([[]]:List (List Nat)).flatMap (ext (a+1) (a+1+m))=_
   simp only [List.flatMap_cons,List.flatMap_nil,List.append_nil]
   unfold ext startOf
   simp only [List.getLast?_nil,List.nil_append]
   rw [show a+(m+1)-a=m+1 by omega,show a+1+m-(a+1)=m by omega,e]
   rfl
  | succ j =>
   have ih1:=chosen_ext m (a+1) j
   have ih2:=chosen_ext m (a+1) (j+1)
   show ((chosen (j+1) (List.range' (a+1) m)).map fun r=>a::r)++chosen (j+1+1) (List.range' (a+1) m)=(((chosen j (List.range' (a+1) m)).map fun r=>a::r)++chosen (j+1) (List.range' (a+1) m)).flatMap (ext a (a+(m+1)))
   rw [ih2,List.flatMap_append,e1]
   congr 1
   ·rw [ih1,List.map_flatMap,List.flatMap_map,e1]
    refine congrArg (fun f=>List.flatMap f (chosen j (List.range' (a+1) m))) (funext fun c=>?_)
    unfold ext
    rw [List.map_map]
    by_cases hc:c=[]
    ·subst hc
     simp only [startOf,List.getLast?_nil,List.getLast?_singleton]
     rfl
    ·rw [startOf_cons a (a+1) a c hc]
     rfl
   ·have hne:∀ c∈chosen (j+1) (List.range' (a+1) m),c≠[]:=fun c hc q=>by
     have:=(mem_chosen.mp hc).2
     rw [q] at this;simp at this
    generalize chosen (j+1) (List.range' (a+1) m)=L at hne
    induction L with
    | nil=>rfl
    | cons c L ih =>
     rw [List.flatMap_cons,List.flatMap_cons,ih fun x hx=>hne x (by simp [hx])]
     congr 1
     unfold ext
     rw [startOf_any (a+1) a c (hne c (by simp))]
theorem chosen_step (n j:Nat):chosen (j+1) (List.range n)=(chosen j (List.range n)).flatMap (ext 0 n):=by
 rw [List.range_eq_range']
 have:=chosen_ext n 0 j
 rw [Nat.zero_add] at this
 exact this
theorem fold_first {α:Type}(f:α->Int):∀ (L:List α) (b:α),
  let r:=L.foldl (fun b g=>if f g < b.1 then (f g,g) else b) (f b,b)
  (r=(f b,b)/\∀ x∈L,f b<=f x)\/∃ j:Nat,∃ x,L[j]?=some x/\r=(f x,x)/\f x < f b/\(∀ y∈L,f x<=f y)/\∀ (i:Nat) y,i < j->L[i]?=some y->f x < f y
 | [],b=>.inl ⟨rfl,by simp⟩
 | a::L,b=>by
  simp only [List.foldl_cons]
  by_cases q:f a < f b
  ·rw [if_pos q]
   rcases fold_first f L a with ⟨h1,h2⟩ | ⟨j,x,hx,h1,h2,h3,h4⟩
   ·refine .inr ⟨0,a,rfl,h1,q,fun y hy=>?_,fun i y hi=>by omega⟩
    rcases List.mem_cons.mp hy with rfl | hy
    ·omega
    ·exact h2 y hy
   ·refine .inr ⟨j+1,x,hx,h1,by omega,fun y hy=>?_,fun i y hi hy=>?_⟩
    ·rcases List.mem_cons.mp hy with rfl | hy
     ·omega
     ·exact h3 y hy
    ·cases i with
     | zero =>
      have e:a=y:=by simpa using hy
      subst e;exact h2
     | succ i=>exact h4 i y (by omega) hy
  ·rw [if_neg q]
   rcases fold_first f L b with ⟨h1,h2⟩ | ⟨j,x,hx,h1,h2,h3,h4⟩
   ·refine .inl ⟨h1,fun y hy=>?_⟩
    rcases List.mem_cons.mp hy with rfl | hy
    ·omega
    ·exact h2 y hy
   ·refine .inr ⟨j+1,x,hx,h1,h2,fun y hy=>?_,fun i y hi hy=>?_⟩
    ·rcases List.mem_cons.mp hy with rfl | hy
     ·omega
     ·exact h3 y hy
    ·cases i with
     | zero =>
      have e:a=y:=by simpa using hy
      subst e;omega
     | succ i=>exact h4 i y (by omega) hy
theorem least_at {α:Type}(f:α->Int){L:List α}{b:α}(hb:L.head?=some b){m:Int}(hm:∀ y∈L,m<=f y){j:Nat}{x:α}(hx:L[j]?=some x)(hf:f x=m)(hfirst:∀ (i:Nat) y,i < j->L[i]?=some y->f y≠m) :
  L.foldl (fun b g=>if f g < b.1 then (f g,g) else b) (f b,b)=(m,x):=by
 have hbm:b∈L:=by
  cases L with
  | nil=>simp at hb
  | cons c L=>simp at hb;subst hb;simp
 have h0:L[0]?=some b:=by rw [<- List.head?_eq_getElem?];exact hb
 rcases fold_first f L b with ⟨h1,h2⟩ | ⟨k,y,hy,h1,h2,h3,h4⟩
 ·have e:f b=m:=by
   have a1:=hm b hbm
   have a2:=h2 x (List.mem_of_getElem? hx)
   omega
  have:j=0:=by
   rcases Nat.eq_zero_or_pos j with z | z
   ·exact z
   ·exact absurd e (hfirst 0 b z h0)
  subst this
  rw [h0] at hx
  have:b=x:=Option.some.inj hx
  subst this
  rw [h1,e]
 ·have e:f y=m:=by
   have a1:=hm y (List.mem_of_getElem? hy)
   have a2:=h3 x (List.mem_of_getElem? hx)
   omega
  have:j=k:=by
   rcases Nat.lt_trichotomy j k with z | z | z
   ·have:=h4 j x z hx;omega
   ·exact z
   ·exact absurd e (hfirst k y z hy)
  subst this
  rw [hy] at hx
  have:y=x:=Option.some.inj hx
  subst this
  rw [h1,e]
theorem least_ok {l:List P}{k:Nat}(hk:k<=l.length){m:Int}{j:Nat}{g:List Nat}(hm:∀ y∈chosen k (List.range l.length),m<=areaC (hull (without l y)))(hx:(chosen k (List.range l.length))[j]?=some g)
  (hf:areaC (hull (without l g))=m) (hfirst:∀ (i:Nat) y,i < j->(chosen k (List.range l.length))[i]?=some y->areaC (hull (without l y))≠m):least l k=(m,g):=by
 unfold least
 simp only
 obtain ⟨b,hb⟩:∃ b,(chosen k (List.range l.length)).head?=some b:=by
  cases e:chosen k (List.range l.length) with
  | nil=>rw [e] at hx;simp at hx
  | cons b L=>exact ⟨b,rfl⟩
 have hd:(chosen k (List.range l.length)).headD []=b:=by
  rw [List.headD_eq_head?_getD,hb];rfl
 rw [hd]
 have:=least_at (fun g=>area2 (hull (without l g))) hb (fun y hy=>by rw [<- areaC_ok];exact hm y hy) hx (by rw [<- areaC_ok];exact hf) (fun i y hi hy=>by rw [<- areaC_ok];exact hfirst i y hi hy)
 exact this
theorem chosen_ne {k n:Nat}(h:k<=n):chosen k (List.range n)≠[]:=by
 intro q
 have:List.range k∈chosen k (List.range n):=mem_chosen.mpr ⟨by
  rw [show n=k+(n-k) by omega,List.range_add]
  exact List.sublist_append_left _ _,by simp⟩
 rw [q] at this;simp at this
theorem without_enum (l:List P)(g:List Nat):without l g=(l.zipIdx.filter fun e=>!g.contains e.2).map fun e=>e.1:=by
 rw [without_eq]
 have:l.zipIdx=(List.range l.length).map fun i=>(l.getD i (0,0),i):=by
  refine List.ext_getElem (by simp) fun i h1 h2=>?_
  simp at h1
  simp [h1]
 rw [this,List.filter_map,List.map_map]
 rfl
theorem pairs_eq (n:Nat):chosen 2 (List.range n)=((List.range n).flatMap fun i=>((List.range n).filter fun j=>decide (i < j)).map fun j=>(i,j)).map fun p=>[p.1,p.2]:=by
 rw [chosen_step,chosen_step,chosen_zero]
 show (([[]]:List (List Nat)).flatMap (ext 0 n)).flatMap (ext 0 n)=_
 have e1:([[]]:List (List Nat)).flatMap (ext 0 n)=(List.range n).map fun i=>[i]:=by
  simp only [List.flatMap_cons,List.flatMap_nil,List.append_nil]
  unfold ext startOf
  simp only [List.getLast?_nil,List.nil_append,Nat.sub_zero]
  rw [List.range_eq_range']
 rw [e1,List.flatMap_map,List.map_flatMap]
 refine congrArg (fun f=>List.flatMap f (List.range n)) (funext fun i=>?_)
 unfold ext startOf
 simp only [List.getLast?_singleton,List.map_map]
 have e2:(List.range n).filter (fun j=>decide (i < j))=List.range' (i+1) (n-(i+1)):=by
  by_cases h:i+1<=n
  ·rw [show n=(i+1)+(n-(i+1)) by omega,List.range_add,List.filter_append]
   have a1:(List.range (i+1)).filter (fun j=>decide (i < j))=[]:=by
    rw [List.filter_eq_nil_iff];intro a ha;simp at ha ⊢;omega
   have a2:((List.range (n-(i+1))).map (fun x=>i+1+x)).filter (fun j=>decide (i < j))=(List.range (n-(i+1))).map (fun x=>i+1+x):=by
    rw [List.filter_eq_self];intro a ha;simp at ha ⊢;omega
   rw [a1,a2,List.nil_append,List.range'_eq_map_range]
   congr 2
   omega
  ·have:n-(i+1)=0:=by omega
   rw [this]
   show _=[]
   rw [List.filter_eq_nil_iff];intro a ha;simp at ha ⊢;omega
 rw [e2]
 rfl
theorem fold_firstMax {α:Type}(f:α->Int):∀ (L:List α) (v:Int) (b:α),
  let r:=L.foldl (fun b g=>if b.1 < f g then (f g,g) else b) (v,b)
  (r=(v,b)/\∀ x∈L,f x<=v)\/∃ j:Nat,∃ x,L[j]?=some x/\r=(f x,x)/\v < f x/\(∀ y∈L,f y<=f x)/\∀ (i:Nat) y,i < j->L[i]?=some y->f y < f x
 | [],v,b=>.inl ⟨rfl,by simp⟩
 | a::L,v,b=>by
  simp only [List.foldl_cons]
  by_cases q:v < f a
  ·rw [if_pos q]
   rcases fold_firstMax f L (f a) a with ⟨h1,h2⟩ | ⟨j,x,hx,h1,h2,h3,h4⟩
   ·refine .inr ⟨0,a,rfl,h1,q,fun y hy=>?_,fun i y hi=>by omega⟩
    rcases List.mem_cons.mp hy with rfl | hy
    ·omega
    ·exact h2 y hy
   ·refine .inr ⟨j+1,x,hx,h1,by omega,fun y hy=>?_,fun i y hi hy=>?_⟩
    ·rcases List.mem_cons.mp hy with rfl | hy
     ·omega
     ·exact h3 y hy
    ·cases i with
     | zero =>
      have e:a=y:=by simpa using hy
      subst e;exact h2
     | succ i=>exact h4 i y (by omega) hy
  ·rw [if_neg q]
   rcases fold_firstMax f L v b with ⟨h1,h2⟩ | ⟨j,x,hx,h1,h2,h3,h4⟩
   ·refine .inl ⟨h1,fun y hy=>?_⟩
    rcases List.mem_cons.mp hy with rfl | hy
    ·omega
    ·exact h2 y hy
   ·refine .inr ⟨j+1,x,hx,h1,h2,fun y hy=>?_,fun i y hi hy=>?_⟩
    ·rcases List.mem_cons.mp hy with rfl | hy
     ·omega
     ·exact h3 y hy
    ·cases i with
     | zero =>
      have e:a=y:=by simpa using hy
      subst e;omega
     | succ i=>exact h4 i y (by omega) hy
def sqAt (l:List P)(g:List Nat):Int:=along (l.getD (g.getD 0 0) (0,0)) (l.getD (g.getD 1 0) (0,0)) (l.getD (g.getD 1 0) (0,0))
theorem far_along (p q:P):far2 p q=along p q q:=by unfold far2 along;grind
theorem widest_ok {l:List P}{m:Int}{j:Nat}{g:List Nat}(hm:∀ y∈chosen 2 (List.range l.length),sqAt l y<=m)(hx:(chosen 2 (List.range l.length))[j]?=some g)(hf:sqAt l g=m)
  (hfirst:∀ (i:Nat) y,i < j->(chosen 2 (List.range l.length))[i]?=some y->sqAt l y≠m):∃ a b,g=[a,b]/\widestOf l=(m,a,b):=by
 rw [pairs_eq] at hm hx hfirst
 unfold widestOf
 generalize ((List.range l.length).flatMap fun i=>((List.range l.length).filter fun j=>decide (i < j)).map fun j=>(i,j))=L at hm hx hfirst
 rw [List.getElem?_map] at hx
 cases hL:L[j]? with
 | none=>rw [hL] at hx;simp at hx
 | some p =>
  rw [hL] at hx
  have eg:[p.1,p.2]=g:=Option.some.inj hx
  refine ⟨p.1,p.2,eg.symm,?_⟩
  let f:Nat×Nat->Int:=fun x=>far2 (l.getD x.1 (0,0)) (l.getD x.2 (0,0))
  have ef:∀ x:Nat×Nat,sqAt l [x.1,x.2]=f x:=fun x=>by
   show along _ _ _=far2 _ _
   rw [far_along];rfl
  have hm':∀ y∈L,f y<=m:=fun y hy=>by rw [<- ef];exact hm _ (List.mem_map.mpr ⟨y,hy,rfl⟩)
  have hf':f p=m:=by rw [<- ef,eg];exact hf
  have hfirst':∀ (i:Nat) y,i < j->L[i]?=some y->f y≠m:=fun i y hi hy=>by
   rw [<- ef];exact hfirst i _ hi (by rw [List.getElem?_map,hy];rfl)
  show L.foldl (fun b x=>if b.1 < f x then (f x,x.1,x.2) else b) (-1,0,0)=(m,p.1,p.2)
  rcases fold_firstMax f L (-1) (0,0) with ⟨h1,h2⟩ | ⟨k,y,hy,h1,h2,h3,h4⟩
  ·have a1:=h2 p (List.mem_of_getElem? hL)
   have a2:0<=f p:=by
    have:=sq_nn ((l.getD p.1 (0,0)).1-(l.getD p.2 (0,0)).1)
    have:=sq_nn ((l.getD p.1 (0,0)).2-(l.getD p.2 (0,0)).2)
    show 0<=far2 _ _
    unfold far2;omega
   omega
  ·have e:f y=m:=by
    have a1:=hm' y (List.mem_of_getElem? hy)
    have a2:=h3 p (List.mem_of_getElem? hL)
    omega
   have:j=k:=by
    rcases Nat.lt_trichotomy j k with z | z | z
    ·have:=h4 j p z hL;omega
    ·exact z
    ·exact absurd e (hfirst' k y z hy)
   subst this
   rw [hy] at hL
   have:y=p:=Option.some.inj hL
   subst this
   rw [e] at h1
   exact h1
end G
namespace G
open Vbecap (cross push hull edges sorted put before whereIs chosen without layersFrom layers)
theorem where_le2 (h:List P)(p:P):whereIs h p=0\/whereIs h p=1\/whereIs h p=2:=by
 match h with
 | []=>exact .inl rfl
 | [a]=>show (if p=a then 2 else 0)=0\/(if p=a then 2 else 0)=1\/(if p=a then 2 else 0)=2;split<;>omega
 | [a,b] =>
  unfold whereIs
  simp only
  split<;>omega
 | a::b::c::r =>
  rw [where3 (by simp)]
  split
  ·omega
  ·split<;>omega
theorem where_corner {S:List P}{v:P}(hv:v∈hull S)(hS:S≠[]):whereIs (hull S) v=2:=by
 have F:=hull_hf hS
 have n0:=(where_in F v).mpr (F.inS (F.sub v hv))
 rcases where_le2 (hull S) v with h | h | h
 ·exact absurd h n0
 ·exfalso
  rcases len_cases _ F.ne with ⟨c,e⟩ | ⟨c,d,e⟩ | h3
  ·rw [e] at h
   have:(if v=c then 2 else 0)=1:=h
   split at this<;>omega
  ·rw [e] at h
   unfold whereIs at h
   simp only at h
   split at h<;>omega
  ·rw [where3 h3] at h
   split at h
   ·rename_i k
    obtain ⟨w,hw⟩:=F.succ v hv
    rw [List.all_eq_true] at k
    have:=of_decide_eq_true (k _ hw)
    have z:cross v w v=0:=by unfold cross;grind
    simp only at this
    omega
   ·split at h<;>omega
 ·exact h
def leftN (l:List P)(left:List Nat):List Nat:=left.filter fun k=>decide (whereIs (hull (left.map fun k=>l.getD k (0,0))) (l.getD k (0,0))=1)
def bump (found:List Nat)(left:List Nat):List Nat:=left.foldl (fun f k=>f.set k (f.getD k 0+1)) found
structure LInv (l:List P)(t:Nat)(r left found:List Nat):Prop where
 rl:r.length=l.length
 go:layersFrom l (l.length-t) (t+1) r=layers l
 lf:left=(List.range l.length).filter fun i=>r.getD i 0 == 0
 fl:found.length=l.length
 fd:∀ i,i < l.length->found.getD i 0=if r.getD i 0=0 then t else r.getD i 0
 sz:left.length+t<=l.length
theorem getD_map_range (f:Nat->Nat){n i:Nat}(h:i < n):((List.range n).map f).getD i 0=f i:=by
 simp [List.getD_eq_getElem?_getD,h]
theorem linv_start (l:List P):LInv l 0 (l.map fun _=>0) (List.range l.length) (List.replicate l.length 0):=by
 have e:∀ i,(l.map fun _=>0).getD i 0=0:=fun i=>by
  rw [List.getD_eq_getElem?_getD,List.getElem?_map]
  cases l[i]?<;>rfl
 refine ⟨by simp,rfl,?_,by simp,fun i hi=>?_,by simp⟩
 ·symm
  rw [List.filter_eq_self]
  intro i _
  rw [e];rfl
 ·rw [e,if_pos rfl,List.getD_eq_getElem?_getD]
  simp [hi]
theorem bump_len (left:List Nat):∀ found:List Nat,(bump found left).length=found.length:=by
 unfold bump
 induction left with
 | nil=>intro f;rfl
 | cons k left ih=>intro f;rw [List.foldl_cons,ih,List.length_set]
theorem bump_at:∀ (left:List Nat) (found:List Nat),left.Nodup->∀ i,i < found.length->(bump found left).getD i 0=if i∈left then found.getD i 0+1 else found.getD i 0:=by
 intro left
 induction left with
 | nil=>intro f _ i _;simp [bump]
 | cons k left ih =>
  intro f hn i hi
  have hn':=List.nodup_cons.mp hn
  have:=ih (f.set k (f.getD k 0+1)) hn'.2 i (by simpa using hi)
  unfold bump at this ⊢
  rw [List.foldl_cons,this]
  by_cases q:i=k
  ·subst q
   rw [if_neg hn'.1,if_pos (by simp),List.getD_eq_getElem?_getD,List.getElem?_set_self hi]
   rfl
  ·have e:(f.set k (f.getD k 0+1)).getD i 0=f.getD i 0:=by
    simp only [List.getD_eq_getElem?_getD]
    rw [List.getElem?_set_ne (fun z=>q z.symm)]
   rw [e]
   by_cases z:i∈left
   ·rw [if_pos z,if_pos (by simp [z])]
   ·rw [if_neg z,if_neg (by simp [z,q])]
theorem linv_step {l:List P}{t:Nat}{r left found:List Nat}(I:LInv l t r left found)(hl:left≠[]):∃ r',LInv l (t+1) r' (leftN l left) (bump found left)/\(leftN l left).length < left.length:=by
 have tn:t < l.length:=by
  have:=I.sz
  have:0 < left.length:=List.length_pos_iff.mpr hl
  omega
 have hS:(left.map fun k=>l.getD k (0,0))≠[]:=by simpa using hl
 generalize hh:hull (left.map fun k=>l.getD k (0,0))=h
 have memL:∀ i,i∈left↔i < l.length/\r.getD i 0=0:=fun i=>by
  rw [I.lf,List.mem_filter,List.mem_range,beq_iff_eq]
 have notout:∀ i∈left,whereIs h (l.getD i (0,0))≠0:=fun i hi=>by
  rw [<- hh]
  exact (where_in (hull_hf hS) _).mpr ((hull_hf hS).inS (List.mem_map.mpr ⟨i,hi,rfl⟩))
 let r':=(List.range l.length).map fun i=>if r.getD i 0=0/\whereIs h (l.getD i (0,0))=2 then t+1 else r.getD i 0
 have hr':∀ i,i < l.length->r'.getD i 0=if r.getD i 0=0/\whereIs h (l.getD i (0,0))=2 then t+1 else r.getD i 0:=fun i hi=>getD_map_range _ hi
 have lessN:(leftN l left).length < left.length:=by
  obtain ⟨v,hv⟩:=List.exists_mem_of_ne_nil _ (hull_hf hS).ne
  obtain ⟨k,hk,ek⟩:=List.mem_map.mp ((hull_hf hS).sub v hv)
  have w2:=where_corner hv hS
  unfold leftN
  refine Nat.lt_of_le_of_ne (List.length_filter_le _ _) fun q=>?_
  have:=(List.length_filter_eq_length_iff.mp q) k hk
  have:=of_decide_eq_true this
  rw [ek,w2] at this
  omega
 refine ⟨r',⟨by simp [r'],?_,?_,by rw [bump_len];exact I.fl,fun i hi=>?_,by have:=I.sz;omega⟩,lessN⟩
 ·have:=I.go
  rw [show l.length-t=(l.length-(t+1))+1 by omega] at this
  unfold layersFrom at this
  simp only at this
  rw [<- I.lf,hh] at this
  exact this
 ·unfold leftN
  rw [hh]
  conv=>lhs;rw [I.lf]
  rw [List.filter_filter]
  refine List.filter_congr fun i hi=>?_
  have hi':=List.mem_range.mp hi
  rw [hr' i hi',Bool.eq_iff_iff,Bool.and_eq_true,decide_eq_true_iff,beq_iff_eq,beq_iff_eq]
  constructor
  ·intro ⟨a,b⟩
   rw [if_neg (by omega)];exact b
  ·intro a
   split at a
   ·omega
   ·rename_i c
    have:=notout i ((memL i).mpr ⟨hi',a⟩)
    have:=where_le2 h (l.getD i (0,0))
    refine ⟨?_,a⟩
    have:whereIs h (l.getD i (0,0))≠2:=fun z=>c ⟨a,z⟩
    omega
 ·have nd:left.Nodup:=by rw [I.lf];exact List.nodup_range.filter _
  rw [bump_at left found nd i (by rw [I.fl];exact hi),hr' i hi,I.fd i hi]
  by_cases z:r.getD i 0=0
  ·rw [if_pos ((memL i).mpr ⟨hi,z⟩),if_pos z]
   by_cases w:whereIs h (l.getD i (0,0))=2
   ·have e:(if r.getD i 0=0/\whereIs h (l.getD i (0,0))=2 then t+1 else r.getD i 0)=t+1:=if_pos ⟨z,w⟩
    rw [e,if_neg (by omega)]
   ·have e:(if r.getD i 0=0/\whereIs h (l.getD i (0,0))=2 then t+1 else r.getD i 0)=r.getD i 0:=if_neg (fun q=>w q.2)
    rw [e,if_pos z]
  ·have e:(if r.getD i 0=0/\whereIs h (l.getD i (0,0))=2 then t+1 else r.getD i 0)=r.getD i 0:=if_neg (fun q=>z q.1)
   rw [if_neg (fun q=>z ((memL i).mp q).2),if_neg z,e,if_neg z]
theorem layersFrom_done (l:List P):∀ (f n:Nat) (r:List Nat),r.length=l.length->(∀ i,i < l.length->r.getD i 0≠0)->layersFrom l f n r=r
 | 0,n,r,_,_=>rfl
 | f+1,n,r,hl,h=>by
  unfold layersFrom
  simp only
  have e:((List.range l.length).map fun i=>if r.getD i 0=0/\whereIs (hull (((List.range l.length).filter fun i=>r.getD i 0 == 0).map fun i=>l.getD i (0,0))) (l.getD i (0,0))=2 then n else r.getD i 0)=r:=by
   refine List.ext_getElem (by simp [hl]) fun i h1 h2=>?_
   simp at h1
   rw [List.getElem_map,List.getElem_range,if_neg (fun q=>h i h1 q.1),List.getD_eq_getElem?_getD,List.getElem?_eq_getElem h2]
   rfl
  rw [e]
  exact layersFrom_done l f (n+1) r hl h
theorem linv_end {l:List P}{t:Nat}{r found:List Nat}(I:LInv l t r [] found):found=layers l:=by
 have h:∀ i,i < l.length->r.getD i 0≠0:=fun i hi q=>by
  have:i∈([]:List Nat):=by rw [I.lf,List.mem_filter,List.mem_range,beq_iff_eq];exact ⟨hi,q⟩
  simp at this
 have:=I.go
 rw [layersFrom_done l _ _ r I.rl h] at this
 rw [<- this]
 refine List.ext_getElem (by rw [I.fl,I.rl]) fun i h1 h2=>?_
 have hi:i < l.length:=by rw [I.fl] at h1;exact h1
 have:=I.fd i hi
 rw [if_neg (h i hi)] at this
 simpa [List.getD_eq_getElem?_getD,h1,h2] using this
def le1 (s:Int)(p q:P):Prop:=p=q\/fw s p q
def dd:List P->List P
 | a::b::r=>if a=b then dd (b::r) else a::dd (b::r)
 | l=>l
theorem dd_one (a:P):dd [a]=[a]:=by unfold dd;rfl
theorem dd_two (a b:P)(r:List P):dd (a::b::r)=if a=b then dd (b::r) else a::dd (b::r):=by rw [dd]
theorem mem_dd:∀ (l:List P) (x:P),x∈dd l↔x∈l
 | [],x=>by unfold dd;rfl
 | [a],x=>by rw [dd_one]
 | a::b::r,x=>by
  rw [dd_two]
  have ih:=mem_dd (b::r) x
  by_cases q:a=b
  ·rw [if_pos q,ih]
   subst q;simp
  ·rw [if_neg q,List.mem_cons,ih]
   exact List.mem_cons.symm
theorem dd_sorted {s:Int}(hs:s=1\/s = -1):∀ {l:List P},l.Pairwise (le1 s)->(dd l).Pairwise (fw s)
 | [],_=>by unfold dd;exact List.Pairwise.nil
 | [a],_=>by rw [dd_one];exact List.pairwise_singleton _ _
 | a::b::r,h=>by
  have h':=List.pairwise_cons.mp h
  rw [dd_two]
  by_cases q:a=b
  ·rw [if_pos q];exact dd_sorted hs h'.2
  ·rw [if_neg q]
   refine List.pairwise_cons.mpr ⟨fun x hx=>?_,dd_sorted hs h'.2⟩
   rw [mem_dd] at hx
   have h2:=List.pairwise_cons.mp h'.2
   have ab:fw s a b:=by
    rcases h'.1 b (by simp) with z | z
    ·exact absurd z q
    ·exact z
   rcases List.mem_cons.mp hx with rfl | hx
   ·exact ab
   ·rcases h2.1 x hx with z | z
    ·rw [<- z];exact ab
    ·exact fw_trans hs ab z
theorem push_form (p:P):∀ (m:List P),m≠[]->(∃ x,push p m=[p,x])\/∃ b a r,push p m=p::b::a::r/\0 < cross a b p
 | [],h=>absurd rfl h
 | [x],_=>.inl ⟨x,by unfold push;rfl⟩
 | b::a::r,_=>by
  unfold push
  by_cases q:cross a b p<=0
  ·rw [if_pos q]
   exact push_form p (a::r) (by simp)
  ·rw [if_neg q]
   exact .inr ⟨b,a,r,rfl,by omega⟩
 termination_by m=>m.length
theorem push_again (p:P){m:List P}(h:m≠[]):push p (push p m)=push p m:=by
 rcases push_form p m h with ⟨x,e⟩ | ⟨b,a,r,e,k⟩
 ·rw [e]
  unfold push
  rw [if_pos (by rw [i7];exact Int.le_refl 0)]
  unfold push
  rfl
 ·rw [e]
  unfold push
  rw [if_pos (by rw [i7];exact Int.le_refl 0)]
  unfold push
  rw [if_neg (by omega)]
theorem push_ne (p:P):∀ (m:List P),push p m≠[]
 | []=>by unfold push;simp
 | [x]=>by unfold push;simp
 | b::a::r=>by
  unfold push
  by_cases q:cross a b p<=0
  ·rw [if_pos q];exact push_ne p (a::r)
  ·rw [if_neg q];simp
 termination_by m=>m.length
theorem fold_dd:∀ (r:List P) (a:P) (m:List P),m≠[]->(a::r).foldl (fun m p=>push p m) m=(dd (a::r)).foldl (fun m p=>push p m) m
 | [],a,m,_=>by rw [dd_one]
 | b::r,a,m,h=>by
  rw [dd_two]
  by_cases q:a=b
  ·subst q
   rw [if_pos rfl,<- fold_dd r a m h]
   simp only [List.foldl_cons]
   rw [push_again a h]
  ·rw [if_neg q]
   have:=fold_dd r b (push a m) (push_ne a m)
   simp only [List.foldl_cons] at this ⊢
   exact this
theorem fold_dd0:∀ (r:List P) (a:P),2<=(dd (a::r)).length->(a::r).foldl (fun m p=>push p m) []=(dd (a::r)).foldl (fun m p=>push p m) []/\(a::r).foldl (fun m p=>push p m) [a]=(dd (a::r)).foldl (fun m p=>push p m) []
 | [],a,h=>by rw [dd_one] at h;simp at h
 | b::r,a,h=>by
  rw [dd_two] at h ⊢
  have pa:push a []=[a]:=by unfold push;rfl
  have paa:push a [a]=[a,a]:=by unfold push;rfl
  have paaa:push a [a,a]=[a,a]:=by
   unfold push
   rw [if_pos (by rw [i7];exact Int.le_refl 0)]
   unfold push;rfl
  by_cases q:a=b
  ·subst q
   rw [if_pos rfl] at h ⊢
   obtain ⟨i1,i2⟩:=fold_dd0 r a h
   simp only [List.foldl_cons] at i1 i2 ⊢
   rw [pa] at i1
   rw [paa] at i2
   rw [pa,paa,paaa]
   exact ⟨i2,i2⟩
  ·rw [if_neg q] at h ⊢
   have f:=fold_dd r b [a] (by simp)
   have bb:push b [a,a]=push b [a]:=by
    conv=>lhs;unfold push
    have:cross a a b=0:=by unfold cross;grind
    rw [if_pos (by rw [this];exact Int.le_refl 0)]
   simp only [List.foldl_cons] at f ⊢
   rw [pa,paa,bb]
   exact ⟨f,f⟩
theorem pw_ext_neg {l m:List P}(h1:l.Pairwise (fw (-1)))(h2:m.Pairwise (fw (-1)))(h:∀ x,x∈l↔x∈m):l=m:=by
 have r:∀ {l:List P},l.Pairwise (fw (-1))->l.reverse.Pairwise (fw 1):=fun {l} k=>by
  rw [List.pairwise_reverse]
  exact k.imp fun z=>fw_neg.mp z
 have:=pw_ext (r h1) (r h2) (fun x=>by simpa using h x)
 have:=congrArg List.reverse this
 simpa using this
def cornersM (ps qs:List P):List P:=if ps.length < 2 then ps else (ps.foldl (fun m p=>push p m) []).reverse.dropLast++(qs.foldl (fun m p=>push p m) []).reverse.dropLast
theorem corners_ok {S ps qs:List P}(mp:∀ x,x∈ps↔x∈S)(mq:∀ x,x∈qs↔x∈S)(hp:ps.Pairwise (le1 1))(hq:qs.Pairwise (le1 (-1)))(hone:(∀ x∈S,∀ y∈S,x=y)->ps.length<=1):cornersM ps qs=hull S:=by
 have sw:=sorted_pw S
 have dp:dd ps=sorted S:=pw_ext (dd_sorted (.inl rfl) hp) sw fun x=>by rw [mem_dd,mp,mem_sorted]
 have dq:dd qs=(sorted S).reverse:=pw_ext_neg (dd_sorted (.inr rfl) hq) (by
  rw [List.pairwise_reverse];exact sw.imp fun z=>fw_neg.mpr z) fun x=>by rw [mem_dd,mq,List.mem_reverse,mem_sorted]
 unfold cornersM hull
 simp only
 by_cases h:(sorted S).length<=1
 ·rw [if_pos h]
  have all:∀ x∈S,∀ y∈S,x=y:=fun x hx y hy=>by
   rw [<- mem_sorted] at hx hy
   match e:sorted S,h with
   | [],_=>rw [e] at hx;simp at hx
   | [a],_=>rw [e] at hx hy;simp at hx hy;rw [hx,hy]
   | a::b::r,h=>simp at h
  have l1:=hone all
  rw [if_pos (by omega)]
  have:dd ps=ps:=by
   match ps,l1 with
   | [],_=>unfold dd;rfl
   | [a],_=>exact dd_one a
   | a::b::r,h=>simp at h
  rw [<- this,dp]
 ·rw [if_neg h]
  have np:¬ ps.length < 2:=fun q=>by
   have:dd ps=ps:=by
    match ps,q with
    | [],_=>unfold dd;rfl
    | [a],_=>exact dd_one a
    | a::b::r,h=>simp at h;omega
   rw [<- dp,this] at h
   omega
  rw [if_neg np]
  have hp2:ps.foldl (fun m p=>push p m) []=(sorted S).foldl (fun m p=>push p m) []:=by
   cases ps with
   | nil=>simp at np
   | cons a r =>
    rw [<- dp]
    exact (fold_dd0 r a (by rw [dp];omega)).1
  have hq2:qs.foldl (fun m p=>push p m) []=(sorted S).reverse.foldl (fun m p=>push p m) []:=by
   cases qs with
   | nil =>
    have:sorted S=[]:=by
     have e:dd []=(sorted S).reverse:=dq
     have e2:(sorted S).reverse=[]:=by rw [<- e];unfold dd;rfl
     simpa using e2
    rw [this] at h;simp at h
   | cons a r =>
    rw [<- dq]
    exact (fold_dd0 r a (by rw [dq,List.length_reverse];omega)).1
  rw [hp2,hq2]
end G
namespace G
open Vbecap (cross push hull edges sorted whereIs)
theorem desc_pw {s:Int}(hs:s=1\/s = -1):∀ {m:List P},desc s m->m.Pairwise (fun b a=>fw s a b)
 | [],_=>List.Pairwise.nil
 | [a],_=>List.pairwise_singleton _ _
 | b::a::r,h=>by
  have ih:=desc_pw hs (m:=a::r) h.2
  refine List.pairwise_cons.mpr ⟨fun x hx=>?_,ih⟩
  rcases List.mem_cons.mp hx with rfl | hx
  ·exact h.1
  ·exact fw_trans hs ((List.pairwise_cons.mp ih).1 x hx) h.1
theorem fw_nodup {s:Int}{l:List P}(h:l.Pairwise (fw s)):l.Nodup:=by
 unfold List.Nodup
 exact h.imp fun {a b} h=>show a≠b from fun e=>fw_irr (by rw [e] at h;exact h)
theorem nodup_sub_len:∀ {l m:List P},l.Nodup->(∀ x∈l,x∈m)->l.length<=m.length
 | [],m,_,_=>Nat.zero_le _
 | a::l,m,hn,h=>by
  have hn':=List.nodup_cons.mp hn
  have ha:a∈m:=h a (by simp)
  have:=nodup_sub_len (l:=l) (m:=m.erase a) hn'.2 fun x hx=>by
   have:x≠a:=fun q=>hn'.1 (by rw [<- q];exact hx)
   exact (List.mem_erase_of_ne this).mpr (h x (by simp [hx]))
  have e:=List.length_erase_of_mem ha
  have p:0 < m.length:=List.length_pos_of_mem ha
  simp only [List.length_cons]
  omega
theorem hull_len (S:List P):(hull S).length<=S.length:=by
 by_cases hS:S=[]
 ·subst hS;exact Nat.le_refl _
 have F:=hull_hf hS
 refine nodup_sub_len ?_ F.sub
 have hw:=sorted_pw S
 have F':=F
 unfold hull at F' ⊢
 dsimp only at F' ⊢
 by_cases hl:(sorted S).length<=1
 ·rw [if_pos hl]
  exact fw_nodup hw
 ·rw [if_neg hl] at F' ⊢
  obtain ⟨a,z,L,U,naz,h1,h3⟩:=chains hw (by omega)
  have hw':(sorted S).reverse.Pairwise (fw (-1)):=by
   rw [List.pairwise_reverse]
   exact hw.imp fun h=>fw_neg.mpr h
  obtain ⟨I1,_⟩:=chain_inv (.inl rfl) hw
  obtain ⟨I2,_⟩:=chain_inv (.inr rfl) hw'
  have ed:=hull_edges h1 h3
  have F2:HF S ((chain (sorted S)).reverse.dropLast++(chain (sorted S).reverse).reverse.dropLast):=F'
  show ((chain (sorted S)).reverse.dropLast++(chain (sorted S).reverse).reverse.dropLast).Nodup
  have n1:(chain (sorted S)).reverse.Pairwise (fw 1):=by
   rw [List.pairwise_reverse];exact desc_pw (.inl rfl) I1.ds
  have n2:(chain (sorted S).reverse).reverse.Pairwise (fw (-1)):=by
   rw [List.pairwise_reverse];exact desc_pw (.inr rfl) I2.ds
  have nd:∀ {s:Int} {l:List P},l.Pairwise (fw s)->l.dropLast.Nodup:=fun {s l} h =>
   fw_nodup (h.sublist (List.dropLast_sublist l))
  refine List.nodup_append.mpr ⟨nd n1,nd n2,fun v hv1 u hv2 e=>?_⟩
  subst e
  rw [h1] at hv1
  rw [h3] at hv2
  have e1:(a::L++[z]).dropLast=a::L:=List.dropLast_concat ..
  have e2:(z::U++[a]).dropLast=z::U:=List.dropLast_concat ..
  rw [e1] at hv1
  rw [e2] at hv2
  obtain ⟨w1,hw1⟩:=succ_ex (b:=z) hv1
  obtain ⟨w2,hw2⟩:=succ_ex (b:=a) hv2
  rw [<- h1] at hw1
  rw [<- h3] at hw2
  have f1:fw 1 v w1:=consec_fw I1.ds _ hw1
  have f2:fw (-1) v w2:=consec_fw I2.ds _ hw2
  have m1:(v,w1)∈edges ((chain (sorted S)).reverse.dropLast++(chain (sorted S).reverse).reverse.dropLast):=by rw [ed];exact List.mem_append_left _ hw1
  have m2:(v,w2)∈edges ((chain (sorted S)).reverse.dropLast++(chain (sorted S).reverse).reverse.dropLast):=by rw [ed];exact List.mem_append_right _ hw2
  have o1:=F2.left _ m1 w2 (F2.sub _ (F2.em _ m2).2)
  have o2:=F2.left _ m2 w1 (F2.sub _ (F2.em _ m1).2)
  have g1:=o1.nn
  have g2:=o2.nn
  have an:cross v w2 w1 = - cross v w1 w2:=by unfold cross;grind
  simp only at g1 g2
  have z0:cross v w1 w2=0:=by omega
  rcases o1 with o1 | o1
  ·simp only at o1;omega
  ·have f2':fw 1 w2 v:=fw_neg.mp f2
   have c0:cr (sub w1 v) (sub v w2)=0:=by
    have:cr (sub w1 v) (sub v w2) = - cross v w1 w2:=by unfold cr sub cross;grind
    omega
   have d:=dt_pos (.inl rfl) f1 f2' c0
   have:dt (sub w1 v) (sub v w2) = - along v w1 w2:=by unfold dt sub along;grind
   have:=o1.2.1
   simp only at this
   omega
theorem count_fst {α:Type}(q:α->Bool)(l:List α):((cycM l).countP fun e=>q e.1)<=l.countP q:=by
 unfold cycM
 cases l with
 | nil=>simp
 | cons a t =>
  obtain ⟨z,hz⟩:∃ z,(a::t).getLast?=some z:=⟨_,List.getLast?_eq_some_getLast (by simp)⟩
  obtain ⟨t',ht'⟩:=List.getLast?_eq_some_iff.mp hz
  rw [hz,ht']
  show (((z::(t'++[z])).zip (t'++[z])).countP fun e=>q e.1)<=_
  have e:(((z::(t'++[z])).zip (t'++[z])).map fun e=>e.1)=z::t':=by
   have:(z::(t'++[z]))=(z::t')++[z]:=rfl
   rw [this]
   have hzip:((z::t')++[z]).zip (t'++[z])=(z::t').zip (t'++[z]):=by
    have:∀ (x y:List α) (w:α),y.length<=x.length->(x++[w]).zip y=x.zip y:=by
     intro x
     induction x with
     | nil=>intro y w h;simp at h;subst h;simp
     | cons b x ih =>
      intro y w h
      cases y with
      | nil=>simp
      | cons c y=>simp only [List.cons_append,List.zip_cons_cons];rw [ih y w (by simpa using h)]
    exact this _ _ _ (by simp)
   rw [hzip]
   exact List.map_fst_zip (by simp)
  have:(((z::(t'++[z])).zip (t'++[z])).countP fun e=>q e.1)=(z::t').countP q:=by
   rw [<- e,List.countP_map];rfl
  rw [this]
  have p:(z::t').Perm (t'++[z]):=by
   have:=List.perm_append_comm (l₁:=[z]) (l₂:=t')
   simpa using this
  rw [p.countP_eq]
  exact Nat.le_refl _
theorem count_snd {α:Type}(q:α->Bool)(l:List α):((cycM l).countP fun e=>q e.2)<=l.countP q:=by
 unfold cycM
 have:((((l.getLast?.toList++l).zip l).map fun e=>e.2))=l:=List.map_snd_zip (by simp)
 have e:(((l.getLast?.toList++l).zip l).countP fun e=>q e.2)=l.countP q:=by
  conv=>rhs;rw [<- this]
  rw [List.countP_map];rfl
 rw [e]
 exact Nat.le_refl _
theorem cutM_len (l:List H3)(s:P×P):2*(cutM l s).length<=3*l.length:=by
 let neg:H3->Bool:=fun p=>decide (pturn s p < 0)
 let pos:H3->Bool:=fun p=>decide (0<=pturn s p)
 let crs:H3×H3->Bool:=fun e=>decide (pturn s e.1*pturn s e.2 < 0)
 have len:∀ L:List (H3×H3),(L.flatMap (cut1M s)).length=L.countP crs+L.countP fun e=>pos e.2:=by
  intro L
  induction L with
  | nil=>rfl
  | cons e L ih =>
   rw [List.flatMap_cons,List.length_append,ih,List.countP_cons,List.countP_cons]
   have:(cut1M s e).length=(if crs e=true then 1 else 0)+if pos e.2=true then 1 else 0:=by
    unfold cut1M
    rw [List.length_append]
    simp only [crs,pos,decide_eq_true_eq]
    congr 1
    ·split<;>rfl
    ·split<;>rfl
   rw [this];omega
 have two:∀ (q:H3->Bool),(∀ e:H3×H3,crs e=true->q e.1=true\/q e.2=true)->(cycM l).countP crs<=2*l.countP q:=fun q hq=>by
  have a1:=count_fst q l
  have a2:=count_snd q l
  have:∀ L:List (H3×H3),L.countP crs<=(L.countP fun e=>q e.1)+L.countP fun e=>q e.2:=by
   intro L
   induction L with
   | nil=>simp
   | cons e L ih =>
    rw [List.countP_cons,List.countP_cons,List.countP_cons]
    by_cases c:crs e=true
    ·rcases hq e c with z | z
     ·rw [if_pos c,if_pos z];split<;>omega
     ·rw [if_pos c,if_pos z];split<;>omega
    ·rw [if_neg c];omega
  have:=this (cycM l)
  omega
 have cneg:=two neg fun e c=>by
  rcases mul_neg_cases (of_decide_eq_true c) with z | z
  ·exact .inl (decide_eq_true z.1)
  ·exact .inr (decide_eq_true z.2)
 have cpos:=two pos fun e c=>by
  rcases mul_neg_cases (of_decide_eq_true c) with z | z
  ·exact .inr (decide_eq_true (Int.le_of_lt z.2))
  ·exact .inl (decide_eq_true (Int.le_of_lt z.1))
 have sm:l.countP neg+l.countP pos=l.length:=by
  clear cneg cpos two len
  induction l with
  | nil=>rfl
  | cons p l ih =>
   rw [List.countP_cons,List.countP_cons,List.length_cons]
   simp only [neg,pos,decide_eq_true_eq] at ih ⊢
   by_cases c:pturn s p < 0
   ·rw [if_pos c,if_neg (by omega)];omega
   ·rw [if_neg c,if_pos (by omega)];omega
 have p2:=count_snd pos l
 unfold cutM
 rw [len]
 omega
end G
namespace HR
open PySem PySem.Spec PyProof.Rows L2
theorem gZ {α:Type}{a:α}{l:List α}:(a::l)[0]?=some a:=List.getElem?_cons_zero
theorem gS {α:Type}{a:α}{l:List α}{i:Nat}:(a::l)[i+1]?=l[i]?:=List.getElem?_cons_succ
theorem oJ {α:Type}{a:Option α}:(some a).join=a:=Option.join_some
theorem oB {α β:Type}{a:α}{f:α->Option β}:(some a).bind f=f a:=rfl
abbrev P2:=Int×Int
def top (i:Nat):Stmt:=PySem.Challenge.pw_homeranges_s01_answers.main.body.getD i (.Pass ⟨0,0,0,0⟩)
abbrev FE:=L2.St->Hp->Option V
abbrev FA:=L2.St->Hp->Option (List V)
def tP (f:FE):TE:=fun σ H Q=>∃ v,f σ H=some v/\Q v H
def tPA (f:FA):TA:=fun σ H Q=>∃ vs,f σ H=some vs/\Q vs H
def tPT (f:FE):TT:=fun σ H Q=>∃ b,f σ H=some (.bl b)/\Q b H
section
variable {X:Cx} {a b e:Expr} {es:List Expr} {fa fb f:FE} {fs:FA} {pos:Pos}
theorem PE.to {t t':TE}(h:PE X e t)(k:∀ σ H Q,t' σ H Q->t σ H Q):PE X e t':=fun pins s σ H Q I q=>h pins s σ H Q I (k σ H Q q)
theorem PT.to {t t':TT}(h:PT X e t)(k:∀ σ H Q,t' σ H Q->t σ H Q):PT X e t':=fun pins s σ H Q I q=>h pins s σ H Q I (k σ H Q q)
theorem PA.to {t t':TA}(h:PA X es t)(k:∀ σ H Q,t' σ H Q->t σ H Q):PA X es t':=fun p pins s σ H Q I q=>h p pins s σ H Q I (k σ H Q q)
def fVar (i:Nat):FE:=fun σ _=>(σ[i]?).join
def fC (v:V):FE:=fun _ _=>some v
theorem pp_of {i:Nat}(h:PE X e (tVar i)):PE X e (tP (fVar i)):=PE.to h fun σ H Q ⟨v,hv,q⟩=>⟨v,by
 unfold fVar at hv
 cases hs:σ[i]? with
 | none=>rw [hs] at hv;cases hv
 | some o=>rw [hs] at hv;rw [show o=some v from hv],q⟩
theorem pp (i:Nat){x:Str}{pos:Pos}(hN:X.N[i]?=some x:=by rfl)(hv:Vis X.env.scope x:=by first | exact Or.inl rfl | exact Or.inr (Or.inl rfl) | exact Or.inr (Or.inr rfl))(hd:(x == ("__debug__" : Str))=false:=by decide)
  (hcd:(x == ("__classdict__" : Str))=false:=by decide):PE X (.Name x pos) (tP (fVar i)):=pp_of (pe_var hN hv hd hcd)
theorem pp_tC {v:V}(h:PE X e (tC v)):PE X e (tP (fC v)):=PE.to h fun σ H Q ⟨u,hu,q⟩=>by
 have:v=u:=Option.some.inj hu
 subst this;exact q
theorem pp_int {i j pos}:PE X (.Constant (.int i) j pos) (tP (fC (.int i))):=pp_tC pe_int
theorem pp_bl {i j pos}:PE X (.Constant (.bool i) j pos) (tP (fC (.bl i))):=pp_tC pe_bl
def f2 (g:V->V->Hp->Option V)(fa fb:FE):FE:=fun σ H=>(fa σ H).bind fun x=>(fb σ H).bind fun y=>g x y H
theorem f2_get {g:V->V->Hp->Option V}{σ:L2.St}{H:Hp}{v:V}(h:f2 g fa fb σ H=some v):∃ x y,fa σ H=some x/\fb σ H=some y/\g x y H=some v:=by
 unfold f2 at h
 cases ha:fa σ H with
 | none=>rw [ha] at h;cases h
 | some x =>
  cases hb:fb σ H with
  | none=>rw [ha,hb] at h;cases h
  | some y=>rw [ha,hb] at h;exact ⟨x,y,rfl,rfl,h⟩
theorem pp_op {op:Operator}{r:R2}{g:V->V->Hp->Option V}(ho:OpR X (binaryOp op) r)(hg:∀ x y H v Q,g x y H=some v->Q v H->r x y H Q)(ha:PE X a (tP fa))(hb:PE X b (tP fb)):PE X (.BinOp a op b pos) (tP (f2 g fa fb)) :=
 PE.to (pe_op ho ha hb) fun σ H Q ⟨v,hv,q⟩=>by
  obtain ⟨x,y,h1,h2,h3⟩:=f2_get hv
  exact ⟨x,h1,y,h2,hg x y H v Q h3 q⟩
theorem pp_cmp {op:CmpOp}{r:R2}{g:V->V->Hp->Option V}(ho:OpR X (compareOp op) r)(hg:∀ x y H v Q,g x y H=some v->Q v H->r x y H Q)(ha:PE X a (tP fa))(hb:PE X b (tP fb))(hm:behindInMarks op b=false:=by first | exact nomark _ | rfl):PE X (.Compare a [op] [b] pos) (tP (f2 g fa fb)) :=
 PE.to (pe_cmpR ho ha hb hm) fun σ H Q ⟨v,hv,q⟩=>by
  obtain ⟨x,y,h1,h2,h3⟩:=f2_get hv
  exact ⟨x,h1,y,h2,hg x y H v Q h3 q⟩
theorem pt_cmp {op:CmpOp}{r:R2}{g:V->V->Hp->Option V}(ho:OpR X (compareOp op) r)(hg:∀ x y H v Q,g x y H=some v->Q v H->r x y H Q)(ha:PE X a (tP fa))(hb:PE X b (tP fb))(hm:behindInMarks op b=false:=by first | exact nomark _ | rfl):PT X (.Compare a [op] [b] pos) (tPT (f2 g fa fb)) :=
 PT.to (pt_cmpR ho ha hb hm) fun σ H Q ⟨c,hv,q⟩=>by
  obtain ⟨x,y,h1,h2,h3⟩:=f2_get hv
  exact ⟨x,h1,y,h2,hg x y H _ _ h3 ⟨c,rfl,q⟩⟩
theorem pt_pure {e:Expr}(h:PE X e (tP f))(he:∀ whole,isTrue e X.env whole=(do let v <- whole;standAt e.pos;holding [v] (truthy v)):=by intro _;rfl):PT X e (tPT f) :=
 PT.to (pt_val h he) fun σ H Q ⟨c,hv,q⟩=>⟨_,hv,c,rfl,q⟩
def gI (g:Int->Int->V)(x y:V)(_:Hp):Option V:=match x,y with
 | .int i,.int j=>some (g i j)
 | _,_=>none
def gIc (c:Int->Int->Bool)(g:Int->Int->V)(x y:V)(_:Hp):Option V:=match x,y with
 | .int i,.int j=>if c i j=true then some (g i j) else none
 | _,_=>none
theorem gI_get {g:Int->Int->V}{x y:V}{H:Hp}{v:V}(h:gI g x y H=some v):∃ i j,x=.int i/\y=.int j/\v=g i j:=by
 unfold gI at h
 split at h
 ·rename_i i j
  exact ⟨i,j,rfl,rfl,(Option.some.inj h).symm⟩
 ·cases h
theorem gIc_get {c:Int->Int->Bool}{g:Int->Int->V}{x y:V}{H:Hp}{v:V}(h:gIc c g x y H=some v):∃ i j,x=.int i/\y=.int j/\c i j=true/\v=g i j:=by
 unfold gIc at h
 split at h
 ·rename_i i j
  split at h
  ·rename_i hc
   exact ⟨i,j,rfl,rfl,hc,(Option.some.inj h).symm⟩
  ·cases h
 ·cases h
theorem gI_ok {g:Int->Int->V}:∀ x y H v (Q:VK),gI g x y H=some v->Q v H->rI0 g x y H Q:=fun x y H v Q h q=>by
 obtain ⟨i,j,rfl,rfl,rfl⟩:=gI_get h
 exact ⟨i,j,rfl,rfl,q⟩
def smallC (i j:Int):Bool:=decide (-(2 ^ 64) < i/\i < 2 ^ 64)
theorem gMul_ok:∀ x y H v (Q:VK),gIc smallC (fun i j=>.int (i*j)) x y H=some v->Q v H->rI CMul (fun i j=>.int (i*j)) x y H Q:=fun x y H v Q h q=>by
 obtain ⟨i,j,rfl,rfl,c,rfl⟩:=gIc_get h
 exact ⟨i,j,rfl,rfl,.inl (of_decide_eq_true c),q⟩
abbrev fAdd:=f2 (gI fun i j=>.int (i+j))
abbrev fSub:=f2 (gI fun i j=>.int (i-j))
abbrev fMul:=f2 (gIc smallC fun i j=>.int (i*j))
theorem pp_add (ha:PE X a (tP fa))(hb:PE X b (tP fb)):PE X (.BinOp a .Add b pos) (tP (fAdd fa fb)):=pp_op op_add gI_ok ha hb
theorem pp_sub (ha:PE X a (tP fa))(hb:PE X b (tP fb)):PE X (.BinOp a .Sub b pos) (tP (fSub fa fb)):=pp_op op_sub gI_ok ha hb
theorem pp_mul (ha:PE X a (tP fa))(hb:PE X b (tP fb)):PE X (.BinOp a .Mult b pos) (tP (fMul fa fb)):=pp_op op_mul gMul_ok ha hb
abbrev fLt:=f2 (gI fun i j=>.bl (decide (i < j)))
abbrev fLe:=f2 (gI fun i j=>.bl (decide (i<=j)))
abbrev fGt:=f2 (gI fun i j=>.bl (decide (j < i)))
abbrev fGe:=f2 (gI fun i j=>.bl (decide (j<=i)))
abbrev fEq:=f2 (gI fun i j=>.bl (decide (i=j)))
abbrev fNe:=f2 (gI fun i j=>.bl (!decide (i=j)))
theorem gEq_ok:∀ x y H v (Q:VK),gI (fun i j=>.bl (decide (i=j))) x y H=some v->Q v H->rEq x y H Q:=fun x y H v Q h q=>by
 obtain ⟨i,j,rfl,rfl,rfl⟩:=gI_get h
 refine ⟨rfl,?_⟩
 have:decide (V.int i=V.int j)=decide (i=j):=by rw [dec_int];rfl
 rw [this];exact q
theorem gNe_ok:∀ x y H v (Q:VK),gI (fun i j=>.bl (!decide (i=j))) x y H=some v->Q v H->rNe x y H Q:=fun x y H v Q h q=>by
 obtain ⟨i,j,rfl,rfl,rfl⟩:=gI_get h
 refine ⟨rfl,?_⟩
 have:decide (V.int i=V.int j)=decide (i=j):=by rw [dec_int];rfl
 rw [this];exact q
theorem pt_lt (ha:PE X a (tP fa))(hb:PE X b (tP fb)):PT X (.Compare a [.Lt] [b] pos) (tPT (fLt fa fb)):=pt_cmp op_lt gI_ok ha hb
theorem pt_le (ha:PE X a (tP fa))(hb:PE X b (tP fb)):PT X (.Compare a [.LtE] [b] pos) (tPT (fLe fa fb)):=pt_cmp op_le gI_ok ha hb
theorem pt_gt (ha:PE X a (tP fa))(hb:PE X b (tP fb)):PT X (.Compare a [.Gt] [b] pos) (tPT (fGt fa fb)):=pt_cmp op_gt gI_ok ha hb
theorem pt_ge (ha:PE X a (tP fa))(hb:PE X b (tP fb)):PT X (.Compare a [.GtE] [b] pos) (tPT (fGe fa fb)):=pt_cmp op_ge gI_ok ha hb
theorem pt_eq (ha:PE X a (tP fa))(hb:PE X b (tP fb)):PT X (.Compare a [.Eq] [b] pos) (tPT (fEq fa fb)):=pt_cmp op_eq gEq_ok ha hb
theorem pt_ne (ha:PE X a (tP fa))(hb:PE X b (tP fb)):PT X (.Compare a [.NotEq] [b] pos) (tPT (fNe fa fb)):=pt_cmp op_ne gNe_ok ha hb
theorem pp_lt (ha:PE X a (tP fa))(hb:PE X b (tP fb)):PE X (.Compare a [.Lt] [b] pos) (tP (fLt fa fb)):=pp_cmp op_lt gI_ok ha hb
theorem pp_gt (ha:PE X a (tP fa))(hb:PE X b (tP fb)):PE X (.Compare a [.Gt] [b] pos) (tP (fGt fa fb)):=pp_cmp op_gt gI_ok ha hb
def gIx (x y:V)(H:Hp):Option V:=match x,y with
 | .ref p,.int i=>match H p with
  | some (.tup xs)=>atI xs i
  | some (.lst xs)=>atI xs i
  | _=>none
 | _,_=>none
theorem gIx_ok {K:PySem.W.Frag}:∀ x y H v (Q:VK),gIx x y H=some v->Q v H->rIx K x y H Q:=fun x y H v Q h q=>by
 unfold gIx at h
 split at h
 ·rename_i p i
  split at h
  ·rename_i xs hp
   exact .inr (.inl ⟨p,xs,i,v,rfl,rfl,SqT.of hp,h,q⟩)
  ·rename_i xs hp
   exact .inl ⟨p,xs,i,v,rfl,rfl,SqL.of hp,h,q⟩
  ·cases h
 ·cases h
abbrev fIx:=f2 gIx
theorem pp_ix (ha:PE X a (tP fa))(hb:PE X b (tP fb))(hs:PlainIx b:=by exact fun _ _=>rfl):PE X (.Subscript a b pos) (tP (fIx fa fb)) :=
 PE.to (pe_ix ix_seq ha hb hs) fun σ H Q ⟨v,hv,q⟩=>by
  obtain ⟨x,y,h1,h2,h3⟩:=f2_get hv
  exact ⟨x,h1,y,h2,gIx_ok x y H v Q h3 q⟩
def gNeg (x:V):Option V:=match x with
 | .int i=>some (.int (-i))
 | _=>none
def f1 (g:V->Hp->Option V)(fa:FE):FE:=fun σ H=>(fa σ H).bind fun x=>g x H
theorem f1_get {g:V->Hp->Option V}{σ:L2.St}{H:Hp}{v:V}(h:f1 g fa σ H=some v):∃ x,fa σ H=some x/\g x H=some v:=by
 unfold f1 at h
 cases ha:fa σ H with
 | none=>rw [ha] at h;cases h
 | some x=>rw [ha] at h;exact ⟨x,rfl,h⟩
theorem pp_neg (ha:PE X a (tP fa)):PE X (.UnaryOp .USub a pos) (tP (f1 (fun x _=>gNeg x) fa)) :=
 PE.to (pe_un un_neg ha) fun σ H Q ⟨v,hv,q⟩=>by
  obtain ⟨x,h1,h2⟩:=f1_get hv
  refine ⟨x,h1,?_⟩
  unfold gNeg at h2
  split at h2
  ·rename_i i
   exact ⟨i,rfl,by rw [<- Option.some.inj h2] at q;exact q⟩
  ·cases h2
def fNil:FA:=fun _ _=>some []
def fCons (f:FE)(fs:FA):FA:=fun σ H=>(f σ H).bind fun x=>(fs σ H).bind fun xs=>some (x::xs)
theorem pq_nil:PA X [] (tPA fNil):=PA.to pa_nil fun σ H Q ⟨vs,h,q⟩=>by
 have:[]=vs:=Option.some.inj h
 subst this;exact q
theorem pq_cons (ha:PE X e (tP f))(hr:PA X es (tPA fs))(hs:starEach (e::es) X.env=(false,eval e X.env)::starEach es X.env:=by rfl):PA X (e::es) (tPA (fCons f fs)):=PA.to (pa_cons ha hr hs) fun σ H Q ⟨vs,h,q⟩=>by
 unfold fCons at h
 cases h1:f σ H with
 | none=>rw [h1] at h;cases h
 | some x =>
  cases h2:fs σ H with
  | none=>rw [h1,h2] at h;cases h
  | some xs =>
   rw [h1,h2] at h
   have:x::xs=vs:=Option.some.inj h
   subst this
   exact ⟨x,h1,xs,h2,q⟩
def spP (F:List V->Hp->Option V):Sp:=fun vs H Q _=>∃ v,F vs H=some v/\Q v H
def fCall (F:List V->Hp->Option V)(fs:FA):FE:=fun σ H=>(fs σ H).bind fun vs=>F vs H
theorem pp_call {CX:CXT}{k:Nat}{g:Addr}{fd:FuncData}{ps:List Str}{x:Str}{p:Pos}{F:List V->Hp->Option V}(G:FnOk X.prog X.w X.K X.mg X.base CX k g fd ps (spP F))(hr:Room k X.A)(hg:Gl X x)(hm:X.mg x=some (.ref g))(hk:PySem.W.keepIn X.K (.ref g)=true)
  (hb:Binds X.K fd ps []) (hx:Passes CX X E0) (ha:PA X (e::es) (tPA fs)) (hdb:(x == ("__debug__" : Str))=false:=by decide) (he:starEach (e::es) X.env=(false,eval e X.env)::starEach es X.env:=by rfl) (hpl:(backTo pos (starEach es X.env)).any (·.1)=false:=by rfl) :
  PE X (.Call (.Name x p) (e::es) [] pos) (tP (fCall F fs)) :=
 PE.to (pe_call G hr hg hm hk hb .nil hx ha hdb he hpl) fun σ H Q ⟨v,hv,q⟩=>by
  unfold fCall at hv
  cases h1:fs σ H with
  | none=>rw [h1] at hv;cases hv
  | some vs =>
   rw [h1] at hv
   refine ⟨vs,h1,v,?_,q⟩
   rw [List.append_nil];exact hv
theorem pp_callB {id:String}{r:List V->Hp->VK->Prop}{x:Str}{p:Pos}{F:List V->Hp->Option V}(hc:CallR X (.builtin id) r)(hF:∀ vs H v (Q:VK),F vs H=some v->Q v H->r vs H Q)(hg:Gl X x)(hm:X.mg x=none)(hv:bootBuiltins x=some (.builtin id))(ha:PA X (e::es) (tPA fs))
  (hn:x≠"__name__":=by decide) (hdb:(x == ("__debug__" : Str))=false:=by decide)
  (he:starEach (e::es) X.env=(false,eval e X.env)::starEach es X.env:=by rfl) (hpl:(backTo pos (starEach es X.env)).any (·.1)=false:=by rfl):PE X (.Call (.Name x p) (e::es) [] pos) (tP (fCall F fs)) :=
 PE.to (pe_callB hc hg hm hv ha hn hdb he hpl) fun σ H Q ⟨v,hv,q⟩=>by
  unfold fCall at hv
  cases h1:fs σ H with
  | none=>rw [h1] at hv;cases hv
  | some vs =>
   rw [h1] at hv
   exact ⟨vs,h1,hF vs H v Q hv q⟩
def gAbs (vs:List V)(_:Hp):Option V:=match vs with
 | [.int i]=>some (.int (G.absI i))
 | _=>none
theorem gAbs_ok:∀ vs H v (Q:VK),gAbs vs H=some v->Q v H->(fun xs H Q=>∃ i,xs=[V.int i]/\Q (.int (if i < 0 then -i else i)) H) vs H Q:=fun vs H v Q h q=>by
 unfold gAbs at h
 split at h
 ·rename_i i
  exact ⟨i,rfl,by rw [show v=_ from (Option.some.inj h).symm] at q;exact q⟩
 ·cases h
def gLen (vs:List V)(H:Hp):Option V:=match vs with
 | [.ref p]=>match H p with
  | some (.lst xs)=>some (.int xs.length)
  | some (.tup xs)=>some (.int xs.length)
  | _=>none
 | _=>none
theorem gLen_ok {K:PySem.W.Frag}:∀ vs H v (Q:VK),gLen vs H=some v->Q v H->(fun xs H Q=>∃ p ys,xs=[V.ref p]/\(SqL K H p ys\/SqT K H p ys)/\Q (.int ys.length) H) vs H Q:=fun vs H v Q h q=>by
 unfold gLen at h
 split at h
 ·rename_i p
  split at h
  ·rename_i xs hp
   exact ⟨p,xs,rfl,.inl (SqL.of hp),by rw [Option.some.inj h];exact q⟩
  ·rename_i xs hp
   exact ⟨p,xs,rfl,.inr (SqT.of hp),by rw [Option.some.inj h];exact q⟩
  ·cases h
 ·cases h
def gMin2 (vs:List V)(_:Hp):Option V:=match vs with
 | [.int i,.int j]=>some (.int (min i j))
 | _=>none
def gMax2 (vs:List V)(_:Hp):Option V:=match vs with
 | [.int i,.int j]=>some (.int (max i j))
 | _=>none
theorem gMin2_ok:∀ vs H v (Q:VK),gMin2 vs H=some v->Q v H->(fun xs H Q=>∃ i j,xs=[V.int i,V.int j]/\Q (.int (if j < i then j else i)) H) vs H Q:=fun vs H v Q h q=>by
 unfold gMin2 at h
 split at h
 ·rename_i i j
  refine ⟨i,j,rfl,?_⟩
  have:(if j < i then j else i)=min i j:=by split<;>omega
  rw [this,Option.some.inj h];exact q
 ·cases h
theorem gMax2_ok:∀ vs H v (Q:VK),gMax2 vs H=some v->Q v H->(fun xs H Q=>∃ i j,xs=[V.int i,V.int j]/\Q (.int (if j > i then j else i)) H) vs H Q:=fun vs H v Q h q=>by
 unfold gMax2 at h
 split at h
 ·rename_i i j
  refine ⟨i,j,rfl,?_⟩
  have:(if j > i then j else i)=max i j:=by split<;>omega
  rw [this,Option.some.inj h];exact q
 ·cases h
end
def STup (H H':Hp):Prop:=∀ b xs,H b=some (.tup xs)->H' b=some (.tup xs)
theorem STup.refl (H:Hp):STup H H:=fun _ _ h=>h
theorem STup.trans {H H1 H2:Hp}(a:STup H H1)(b:STup H1 H2):STup H H2:=fun c xs h=>b c xs (a c xs h)
theorem same_tup {H H':Hp}(h:Same H H'):STup H H':=fun b xs e=>h b _ e
theorem stup_upd {H:Hp}{a:Addr}{o:HO}{xs:List V}(h:H a=some (.lst xs)):STup H (upd H a o):=fun b ys e=>by
 rw [upd_ne (ne_of e h (by intro z;cases z))];exact e
theorem stup_new {H:Hp}{a:Addr}{o:HO}(h:H a=none):STup H (upd H a o):=fun b ys e=>by
 rw [upd_ne (ne_of_none e h)];exact e
theorem same_new {H:Hp}{a:Addr}{o:HO}(h:H a=none):Same H (upd H a o):=fun b u e=>by
 rw [upd_ne (ne_of_none e h)];exact e
theorem same_upd {H0 H:Hp}{a:Addr}{o:HO}(s:Same H0 H)(h:H0 a=none):Same H0 (upd H a o):=fun b u e=>by
 rw [upd_ne (ne_of_none e h)];exact s b u e
def Rp (H:Hp)(v:V)(p:P2):Prop:=∃ a,v=.ref a/\H a=some (.tup [.int p.1,.int p.2])
def Rs (H:Hp)(v:V)(s:P2×P2):Prop:=∃ a x y,v=.ref a/\H a=some (.tup [x,y])/\Rp H x s.1/\Rp H y s.2
def Rh (H:Hp)(v:V)(p:G.H3):Prop:=∃ a,v=.ref a/\H a=some (.tup [.int p.1,.int p.2.1,.int p.2.2])
def Ri (_:Hp)(v:V)(n:Int):Prop:=v=.int n
theorem Rp.to {H H':Hp}{v:V}{p:P2}(h:Rp H v p)(s:STup H H'):Rp H' v p:=let ⟨a,e,h⟩:=h;⟨a,e,s _ _ h⟩
theorem Rs.to {H H':Hp}{v:V}{p:P2×P2}(h:Rs H v p)(s:STup H H'):Rs H' v p:=let ⟨a,x,y,e,h,h1,h2⟩:=h;⟨a,x,y,e,s _ _ h,h1.to s,h2.to s⟩
theorem Rh.to {H H':Hp}{v:V}{p:G.H3}(h:Rh H v p)(s:STup H H'):Rh H' v p:=let ⟨a,e,h⟩:=h;⟨a,e,s _ _ h⟩
def Tu {α:Type}(R:Hp->V->α->Prop):Prop:=∀ H H' v x,R H v x->STup H H'->R H' v x
theorem tu_p:Tu Rp:=fun _ _ _ _ h s=>h.to s
theorem tu_s:Tu Rs:=fun _ _ _ _ h s=>h.to s
theorem tu_h:Tu Rh:=fun _ _ _ _ h s=>h.to s
theorem tu_i:Tu Ri:=fun _ _ _ _ h _=>h
inductive All {α:Type}(R:V->α->Prop):List V->List α->Prop
 | nil:All R [] []
 | cons {v:V} {x:α} {vs:List V} {xs:List α}:R v x->All R vs xs->All R (v::vs) (x::xs)
section
variable {α:Type} {R R':V->α->Prop}
theorem All.length {vs:List V}{xs:List α}(h:All R vs xs):vs.length=xs.length:=by
 induction h with
 | nil=>rfl
 | cons _ _ ih=>simp [ih]
theorem All.imp {vs:List V}{xs:List α}(h:All R vs xs)(k:∀ v x,R v x->R' v x):All R' vs xs:=by
 induction h with
 | nil=>exact .nil
 | cons a _ ih=>exact .cons (k _ _ a) ih
theorem All.get {vs:List V}{xs:List α}(h:All R vs xs):∀ {i:Nat} {x:α},xs[i]?=some x->∃ v,vs[i]?=some v/\R v x:=by
 induction h with
 | nil=>intro i x hx;simp at hx
 | cons a _ ih =>
  intro i x hx
  cases i with
  | zero=>exact ⟨_,rfl,by rw [<- Option.some.inj hx];exact a⟩
  | succ i=>exact ih hx
theorem All.get' {vs:List V}{xs:List α}(h:All R vs xs):∀ {i:Nat} {v:V},vs[i]?=some v->∃ x,xs[i]?=some x/\R v x:=by
 induction h with
 | nil=>intro i x hx;simp at hx
 | cons a _ ih =>
  intro i x hx
  cases i with
  | zero=>exact ⟨_,rfl,by rw [<- Option.some.inj hx];exact a⟩
  | succ i=>exact ih hx
theorem All.append {vs ws:List V}{xs ys:List α}(h:All R vs xs)(k:All R ws ys):All R (vs++ws) (xs++ys):=by
 induction h with
 | nil=>exact k
 | cons a _ ih=>exact .cons a ih
theorem All.one {v:V}{x:α}(h:R v x):All R [v] [x]:=.cons h .nil
theorem All.dropLast {vs:List V}{xs:List α}(h:All R vs xs):All R vs.dropLast xs.dropLast:=by
 induction h with
 | nil=>exact .nil
 | cons a b ih =>
  cases b with
  | nil=>exact .nil
  | cons c d=>exact .cons a ih
theorem All.erase {vs:List V}{xs:List α}(h:All R vs xs):∀ i:Nat,All R (vs.eraseIdx i) (xs.eraseIdx i):=by
 induction h with
 | nil=>intro i;exact .nil
 | cons a b ih =>
  intro i
  cases i with
  | zero=>exact b
  | succ i=>exact .cons a (ih i)
theorem All.mem {vs:List V}{xs:List α}(h:All R vs xs){v:V}(hv:v∈vs):∃ x∈xs,R v x:=by
 obtain ⟨i,hi⟩:=List.mem_iff_getElem?.mp hv
 obtain ⟨x,hx,r⟩:=h.get' hi
 exact ⟨x,List.mem_of_getElem? hx,r⟩
end
theorem all_ints:∀ {vs:List V} {ns:List Int},All (fun v n=>v=V.int n) vs ns->vs=ns.map V.int
 | _,_,.nil=>rfl
 | _,_,.cons h r=>by rw [h,all_ints r];rfl
def Ls {α:Type}(R:Hp->V->α->Prop)(H:Hp)(v:V)(xs:List α):Prop:=∃ l vs,v=.ref l/\H l=some (.lst vs)/\All (R H) vs xs
theorem Ls.same {α:Type}{R:Hp->V->α->Prop}(t:Tu R){H H':Hp}{v:V}{xs:List α}(h:Ls R H v xs)(s:Same H H'):Ls R H' v xs :=
 let ⟨l,vs,e,h,a⟩:=h
 ⟨l,vs,e,s _ _ h,a.imp fun v x r=>t _ _ _ _ r (same_tup s)⟩
theorem ix20 {H:Hp}{a:Addr}{x y:V}(h:H a=some (.tup [x,y])):gIx (.ref a) (.int 0) H=some x:=by unfold gIx;simp only [h];rfl
theorem ix21 {H:Hp}{a:Addr}{x y:V}(h:H a=some (.tup [x,y])):gIx (.ref a) (.int 1) H=some y:=by unfold gIx;simp only [h];rfl
theorem ix30 {H:Hp}{a:Addr}{x y z:V}(h:H a=some (.tup [x,y,z])):gIx (.ref a) (.int 0) H=some x:=by unfold gIx;simp only [h];rfl
theorem ix31 {H:Hp}{a:Addr}{x y z:V}(h:H a=some (.tup [x,y,z])):gIx (.ref a) (.int 1) H=some y:=by unfold gIx;simp only [h];rfl
theorem ix32 {H:Hp}{a:Addr}{x y z:V}(h:H a=some (.tup [x,y,z])):gIx (.ref a) (.int 2) H=some z:=by unfold gIx;simp only [h];rfl
structure Src (K:PySem.W.Frag)(mg:Str->Option Value)(x:Str)(st:Stmt)(ps:List Str):Prop where
 ex:∃ f fd,Fun K x x st f fd/\mg x=some (.ref f)/\Binds K fd ps []
def Def (P:Program)(w:World)(K:PySem.W.Frag)(mg:Str->Option Value)(base:Heap)(x:Str)(k:Nat)(ps:List Str)(sp:Sp):Prop :=
 ∃ f fd,FnOk P w K mg base CX0 k f fd ps sp/\mg x=some (.ref f)/\PySem.W.keepIn K (.ref f)=true/\Binds K fd ps []
abbrev bx (P:Program)(w:World)(K:PySem.W.Frag)(mg:Str->Option Value)(base:Heap)(N:List Str)(x:Str)(st:Stmt)(f:Addr)(cdv:Value)(A:Around)(outer:List Env)(s:Shared)(H:Hp)(E:XK):Cx :=
 (cxOf CX0 P w K mg base N x (defScope st) f cdv A outer s H E).nox
section
variable {P:Program} {w:World} {K:PySem.W.Frag} {mg:Str->Option Value} {base:Heap}
theorem def_ok {x:Str}{st:Stmt}{ps N:List Str}{k:Nat}{sp:Sp}(S:Src K mg x st ps)(sc:FnScope N ps (defScope st))(len:∀ vs H Q E,sp vs H Q E->vs.length=ps.length)
  (hbody:∀ (f:Addr) (cdv:Value) (A:Around) (outer:List Env) (s:Shared) (H:Hp) (vs:List V) (Q:VK) (E:XK),Room k (A.deeper (envOfC x (defScope st) s.heap.objs.size f cdv))->sp vs H Q E ->
   ∃ t,PSs (bx P w K mg base N x st f cdv A outer s H E) (defBody st) t/\t {nx:=fun _ H'=>Q .non H',rt:=Q} (start N vs) H):Def P w K mg base x (k+1) ps sp:=by
 obtain ⟨f,fd,F,hm,hb⟩:=S.ex
 exact ⟨f,fd,F.ok sc len fun cdv A outer s H vs Q E hr h=>hbody f cdv A outer s H vs Q E hr h,hm,F.kp,hb⟩
end
section
variable {X:Cx} {e:Expr} {es:List Expr} {t:TA} {fs:FA} {x:Str} {k:Nat} {ps:List Str} {p pos:Pos}
theorem pe_def {sp:Sp}(D:Def X.prog X.w X.K X.mg X.base x k ps sp)(hr:Room k X.A)(hg:Gl X x)(ha:PA X (e::es) t)(hdb:(x == ("__debug__" : Str))=false:=by decide) (he:starEach (e::es) X.env=(false,eval e X.env)::starEach es X.env:=by rfl)
  (hpl:(backTo pos (starEach es X.env)).any (·.1)=false:=by rfl):PE X (.Call (.Name x p) (e::es) [] pos) (tCall sp [] E0 t):=by
 obtain ⟨f,fd,F,hm,hk,hb⟩:=D
 exact pe_call F hr hg hm hk hb .nil pass0 ha hdb he hpl
theorem pp_def {F:List V->Hp->Option V}(D:Def X.prog X.w X.K X.mg X.base x k ps (spP F))(hr:Room k X.A)(hg:Gl X x)(ha:PA X (e::es) (tPA fs))(hdb:(x == ("__debug__" : Str))=false:=by decide) (he:starEach (e::es) X.env=(false,eval e X.env)::starEach es X.env:=by rfl)
  (hpl:(backTo pos (starEach es X.env)).any (·.1)=false:=by rfl):PE X (.Call (.Name x p) (e::es) [] pos) (tP (fCall F fs)):=by
 obtain ⟨f,fd,G,hm,hk,hb⟩:=D
 exact pp_call G hr hg hm hk hb pass0 ha hdb he hpl
def Con (mg:Str->Option Value)(x:Str)(v:V):Prop:=∃ u,mg x=some u/\RelV v u
theorem pp_con {v:V}(h:Con X.mg x v)(hg:Gl X x)(hd:(x == ("__debug__" : Str))=false:=by decide):PE X (.Name x pos) (tP (fC v)):=by
 obtain ⟨u,hm,r⟩:=h
 exact pp_tC (pe_glob hg hm r hd)
end
def plc (H:Hp)(v:V):Option P2:=match v with
 | .ref a=>match H a with
  | some (.tup [.int x,.int y])=>some (x,y)
  | _=>none
 | _=>none
theorem plc_of {H:Hp}{v:V}{p:P2}(h:Rp H v p):plc H v=some p:=by
 obtain ⟨a,rfl,h⟩:=h
 unfold plc
 simp only [h]
theorem of_plc {H:Hp}{v:V}{p:P2}(h:plc H v=some p):Rp H v p:=by
 unfold plc at h
 split at h
 ·rename_i a
  split at h
  ·rename_i x y e
   exact ⟨a,rfl,by rw [e,<- Option.some.inj h]⟩
  ·cases h
 ·cases h
def smI (i:Int):Bool:=decide (-1073741824 < i/\i < 1073741824)
def smP (p:P2):Bool:=smI p.1 && smI p.2
theorem smI_iff {i:Int}:smI i=true↔-1073741824 < i/\i < 1073741824:=decide_eq_true_iff
theorem smP_iff {p:P2}:smP p=true↔(-1073741824 < p.1/\p.1 < 1073741824)/\(-1073741824 < p.2/\p.2 < 1073741824):=by
 unfold smP;rw [Bool.and_eq_true,smI_iff,smI_iff]
def F3 (g:P2->P2->P2->V)(vs:List V)(H:Hp):Option V:=match vs with
 | [a,b,c]=>(plc H a).bind fun p=>(plc H b).bind fun q=>(plc H c).bind fun r=>if (smP p && smP q && smP r)=true then some (g p q r) else none
 | _=>none
theorem F3_of {g:P2->P2->P2->V}{H:Hp}{a b c:V}{p q r:P2}(h1:Rp H a p)(h2:Rp H b q)(h3:Rp H c r)(s1:smP p=true)(s2:smP q=true)(s3:smP r=true):F3 g [a,b,c] H=some (g p q r):=by
 unfold F3
 simp only [plc_of h1,plc_of h2,plc_of h3,oB,s1,s2,s3,Bool.and_self,if_true]
theorem of_F3 {g:P2->P2->P2->V}{vs:List V}{H:Hp}{v:V}(h:F3 g vs H=some v):∃ a b c p q r,vs=[a,b,c]/\Rp H a p/\Rp H b q/\Rp H c r/\smP p=true/\smP q=true/\smP r=true/\v=g p q r:=by
 unfold F3 at h
 split at h
 ·rename_i a b c
  cases h1:plc H a with
  | none=>rw [h1] at h;cases h
  | some p =>
   cases h2:plc H b with
   | none=>rw [h1,h2] at h;cases h
   | some q =>
    cases h3:plc H c with
    | none=>rw [h1,h2,h3] at h;cases h
    | some r =>
     rw [h1,h2,h3] at h
     simp only [oB] at h
     split at h
     ·rename_i k
      rw [Bool.and_eq_true,Bool.and_eq_true] at k
      exact ⟨a,b,c,p,q,r,rfl,of_plc h1,of_plc h2,of_plc h3,k.1.1,k.1.2,k.2,(Option.some.inj h).symm⟩
     ·cases h
 ·cases h
def F2 (g:P2->P2->V)(vs:List V)(H:Hp):Option V:=match vs with
 | [a,b]=>(plc H a).bind fun p=>(plc H b).bind fun q=>if (smP p && smP q)=true then some (g p q) else none
 | _=>none
theorem F2_of {g:P2->P2->V}{H:Hp}{a b:V}{p q:P2}(h1:Rp H a p)(h2:Rp H b q)(s1:smP p=true)(s2:smP q=true):F2 g [a,b] H=some (g p q):=by
 unfold F2
 simp only [plc_of h1,plc_of h2,oB,s1,s2,Bool.and_self,if_true]
theorem of_F2 {g:P2->P2->V}{vs:List V}{H:Hp}{v:V}(h:F2 g vs H=some v):∃ a b p q,vs=[a,b]/\Rp H a p/\Rp H b q/\smP p=true/\smP q=true/\v=g p q:=by
 unfold F2 at h
 split at h
 ·rename_i a b
  cases h1:plc H a with
  | none=>rw [h1] at h;cases h
  | some p =>
   cases h2:plc H b with
   | none=>rw [h1,h2] at h;cases h
   | some q =>
    rw [h1,h2] at h
    simp only [oB] at h
    split at h
    ·rename_i k
     rw [Bool.and_eq_true] at k
     exact ⟨a,b,p,q,rfl,of_plc h1,of_plc h2,k.1,k.2,(Option.some.inj h).symm⟩
    ·cases h
 ·cases h
theorem mulc {i j:Int}(h : -9223372036854775808 < i/\i < 9223372036854775808):smallC i j=true:=decide_eq_true (by omega)
abbrev sTurn:Stmt:=top 9
abbrev sAlong:Stmt:=top 10
abbrev sSquare:Stmt:=top 11
abbrev gTurn:=F3 fun p q r=>.int (Vbecap.cross p q r)
abbrev gAlong:=F3 fun p q r=>.int (G.along p q r)
abbrev gSquare:=F2 fun p q=>.int (G.along p q q)
section
variable {P:Program} {w:World} {K:PySem.W.Frag} {mg:Str->Option Value} {base:Heap}
theorem scTurn:FnScope ["a","b","c"] ["a","b","c"] (defScope sTurn):=⟨rfl,rfl,rfl,by decide +kernel,rfl,by decide +kernel,by decide +kernel⟩
theorem ok_turn (S:Src K mg "turn_of" sTurn ["a","b","c"]):Def P w K mg base "turn_of" 1 ["a","b","c"] (spP gTurn):=by
 refine def_ok S scTurn (fun vs H Q E h=>?_) (fun f cdv A outer s H vs Q E hr h=>?_)
 ·obtain ⟨v,h,_⟩:=h
  obtain ⟨a,b,c,p,q,r,rfl,_⟩:=of_F3 h
  rfl
 ·obtain ⟨v,h,k⟩:=h
  obtain ⟨va,vb,vc,p,q,r,rfl,⟨a,rfl,ha⟩,⟨b,rfl,hb⟩,⟨c,rfl,hc⟩,sp,sq,sr,rfl⟩:=of_F3 h
  refine ⟨_,pss_one (ps_ret (pp_sub (pp_mul (pp_sub (pp_ix (pp 1) pp_int) (pp_ix (pp 0) pp_int)) (pp_sub (pp_ix (pp 2) pp_int) (pp_ix (pp 0) pp_int)))
   (pp_mul (pp_sub (pp_ix (pp 1) pp_int) (pp_ix (pp 0) pp_int)) (pp_sub (pp_ix (pp 2) pp_int) (pp_ix (pp 0) pp_int))))),_,?_,k⟩
  rw [smP_iff] at sp sq sr
  have e1:smallC (q.1-p.1) (r.2-p.2)=true:=mulc (by omega)
  have e2:smallC (q.2-p.2) (r.1-p.1)=true:=mulc (by omega)
  show f2 _ _ _ [some (.ref a),some (.ref b),some (.ref c)] H=_
  simp only [f2,fVar,fC,gZ,gS,oJ,oB,ix20 ha,ix20 hb,ix20 hc,ix21 ha,ix21 hb,ix21 hc,gI,gIc,e1,e2,if_true]
  rfl
theorem scAlong:FnScope ["a","b","c"] ["a","b","c"] (defScope sAlong):=⟨rfl,rfl,rfl,by decide +kernel,rfl,by decide +kernel,by decide +kernel⟩
theorem ok_along (S:Src K mg "along" sAlong ["a","b","c"]):Def P w K mg base "along" 1 ["a","b","c"] (spP gAlong):=by
 refine def_ok S scAlong (fun vs H Q E h=>?_) (fun f cdv A outer s H vs Q E hr h=>?_)
 ·obtain ⟨v,h,_⟩:=h
  obtain ⟨a,b,c,p,q,r,rfl,_⟩:=of_F3 h
  rfl
 ·obtain ⟨v,h,k⟩:=h
  obtain ⟨va,vb,vc,p,q,r,rfl,⟨a,rfl,ha⟩,⟨b,rfl,hb⟩,⟨c,rfl,hc⟩,sp,sq,sr,rfl⟩:=of_F3 h
  refine ⟨_,pss_one (ps_ret (pp_add (pp_mul (pp_sub (pp_ix (pp 1) pp_int) (pp_ix (pp 0) pp_int)) (pp_sub (pp_ix (pp 2) pp_int) (pp_ix (pp 0) pp_int)))
   (pp_mul (pp_sub (pp_ix (pp 1) pp_int) (pp_ix (pp 0) pp_int)) (pp_sub (pp_ix (pp 2) pp_int) (pp_ix (pp 0) pp_int))))),_,?_,k⟩
  rw [smP_iff] at sp sq sr
  have e1:smallC (q.1-p.1) (r.1-p.1)=true:=mulc (by omega)
  have e2:smallC (q.2-p.2) (r.2-p.2)=true:=mulc (by omega)
  show f2 _ _ _ [some (.ref a),some (.ref b),some (.ref c)] H=_
  simp only [f2,fVar,fC,gZ,gS,oJ,oB,ix20 ha,ix20 hb,ix20 hc,ix21 ha,ix21 hb,ix21 hc,gI,gIc,e1,e2,if_true]
  rfl
theorem scSquare:FnScope ["a","b"] ["a","b"] (defScope sSquare):=⟨rfl,rfl,rfl,by decide +kernel,rfl,by decide +kernel,by decide +kernel⟩
theorem ok_square (S:Src K mg "square" sSquare ["a","b"]) (D:Def P w K mg base "along" 1 ["a","b","c"] (spP gAlong)):Def P w K mg base "square" 2 ["a","b"] (spP gSquare):=by
 refine def_ok S scSquare (fun vs H Q E h=>?_) (fun f cdv A outer s H vs Q E hr h=>?_)
 ·obtain ⟨v,h,_⟩:=h
  obtain ⟨a,b,p,q,rfl,_⟩:=of_F2 h
  rfl
 ·obtain ⟨v,h,k⟩:=h
  obtain ⟨va,vb,p,q,rfl,ha,hb,sp,sq,rfl⟩:=of_F2 h
  refine ⟨_,pss_one (ps_ret (pp_def D hr rfl (pq_cons (pp 0) (pq_cons (pp 1) (pq_cons (pp 1) pq_nil))))),_,?_,k⟩
  show F3 _ [va,vb,vb] H=_
  exact F3_of ha hb hb sp sq sq
end
section
variable {X:Cx} {a b:Expr} {fa fb:FE} {pos:Pos}
def bigC (i j:Int):Bool:=!(decide (Builtin.Int.intBits i > shortFactorBits) && decide (Builtin.Int.intBits j > shortFactorBits) && Builtin.Int.intTooBig (Builtin.Int.intBits i+Builtin.Int.intBits j))
theorem bigC_ok {i j:Int}(h:bigC i j=true):IntMulOk i j:=by
 unfold IntMulOk
 unfold bigC at h
 rw [Bool.not_eq_true'] at h
 rw [h];simp
theorem bigC_of {i j:Int}(h:IntMulOk i j):bigC i j=true:=by
 unfold bigC
 unfold IntMulOk at h
 rw [Bool.not_eq_true']
 exact Bool.eq_false_iff.mpr h
theorem op_mulB:OpR X (binaryOp .Mult) (rI (fun i j=>IntMulOk i j) fun i j=>.int (i*j)):=opI fun _ _ _ _ _ _ _ hc q=>mul_int q hc
theorem gMulB_ok:∀ x y H v (Q:VK),gIc bigC (fun i j=>.int (i*j)) x y H=some v->Q v H->rI (fun i j=>IntMulOk i j) (fun i j=>.int (i*j)) x y H Q:=fun x y H v Q h q=>by
 obtain ⟨i,j,rfl,rfl,c,rfl⟩:=gIc_get h
 exact ⟨i,j,rfl,rfl,bigC_ok c,q⟩
abbrev fMulB:=f2 (gIc bigC fun i j=>.int (i*j))
theorem pp_mulB (ha:PE X a (tP fa))(hb:PE X b (tP fb)):PE X (.BinOp a .Mult b pos) (tP (fMulB fa fb)):=pp_op op_mulB gMulB_ok ha hb
def posC (_ j:Int):Bool:=decide (0 < j)
abbrev fMod:=f2 (gIc posC fun i j=>.int (i % j))
theorem gMod_ok:∀ x y H v (Q:VK),gIc posC (fun i j=>.int (i % j)) x y H=some v->Q v H->rI (fun _ j=>0 < j) (fun i j=>.int (i % j)) x y H Q:=fun x y H v Q h q=>by
 obtain ⟨i,j,rfl,rfl,c,rfl⟩:=gIc_get h
 exact ⟨i,j,rfl,rfl,of_decide_eq_true c,q⟩
theorem pp_mod (ha:PE X a (tP fa))(hb:PE X b (tP fb)):PE X (.BinOp a .Mod b pos) (tP (fMod fa fb)):=pp_op op_mod gMod_ok ha hb
structure DivOk (X:Cx):Prop where
 seer:X.base.NoSeer
 tree:X.prog.given.tree=none
 room:Room 33 X.A
 stk:∃ l,X.stack=X.env::l
 gen:X.env.scope.isGenerator=false
 co:X.env.scope.isCoroutine=false
theorem op_fdivB (D:DivOk X):OpR X (binaryOp .FloorDiv) (rI (fun _ j=>0 < j) fun i j=>.int (i / j)):=by
 intro pins s σ H x y v u Q I rx ry h
 obtain ⟨i,j,rfl,rfl,hj,q⟩:=h
 obtain ⟨t,rfl⟩:=rx
 obtain ⟨t',rfl⟩:=ry
 obtain ⟨l,hl⟩:=D.stk
 have h1:(0:Int) < j:=hj
 have ns:s.heap.NoSeer:=D.seer.keeps I.bk
 have sa:SeerAt (model X.prog X.w) X.A s.heap:=SeerAt.of (env:=X.env) (l:=l) ns D.tree (by rw [I.ok.frames,hl]) D.gen D.co I.ok.blt I.ok.glob
 have pr:PylongRoom (model X.prog X.w) X.A s:=PylongRoom.of I.nolimit (by
  have:=D.room.dp
  show X.A.depth+100 < recursionLimit
  omega) sa
 exact floordiv_int (by omega) (by
  rw [Int.fdiv_eq_ediv_of_nonneg i (by omega)]
  exact ⟨.int (i / j),H,I.tok _,⟨_,rfl⟩,q⟩) (.inr pr)
abbrev fDiv:=f2 (gIc posC fun i j=>.int (i / j))
theorem gDiv_ok:∀ x y H v (Q:VK),gIc posC (fun i j=>.int (i / j)) x y H=some v->Q v H->rI (fun _ j=>0 < j) (fun i j=>.int (i / j)) x y H Q:=fun x y H v Q h q=>by
 obtain ⟨i,j,rfl,rfl,c,rfl⟩:=gIc_get h
 exact ⟨i,j,rfl,rfl,of_decide_eq_true c,q⟩
theorem pp_div (D:DivOk X)(ha:PE X a (tP fa))(hb:PE X b (tP fb)):PE X (.BinOp a .FloorDiv b pos) (tP (fDiv fa fb)):=pp_op (op_fdivB D) gDiv_ok ha hb
end
structure Blt (mg:Str->Option Value):Prop where
 len:mg "len" = none
 range:mg "range" = none
 sum:mg "sum" = none
 min:mg "min" = none
 max:mg "max" = none
 abs:mg "abs" = none
 sorted:mg "sorted" = none
 set:mg "set" = none
 list:mg "list" = none
 enumerate:mg "enumerate" = none
theorem boot_abs:bootBuiltins "abs" = some (.builtin "abs"):=by decide +kernel
theorem boot_lenH:bootBuiltins "len" = some (.builtin "len"):=by decide +kernel
theorem boot_min:bootBuiltins "min" = some (.builtin "min"):=by decide +kernel
theorem boot_max:bootBuiltins "max" = some (.builtin "max"):=by decide +kernel
theorem boot_sum:bootBuiltins "sum" = some (.builtin "sum"):=by decide +kernel
theorem boot_sorted:bootBuiltins "sorted" = some (.builtin "sorted"):=by decide +kernel
theorem boot_set:bootBuiltins "set" = some (.type "set"):=by decide +kernel
theorem boot_list:bootBuiltins "list" = some (.type "list"):=by decide +kernel
abbrev sCd:Stmt:=top 1
abbrev sLow:Stmt:=top 2
abbrev sAdded:Stmt:=top 3
abbrev sLesser:Stmt:=top 4
def gGcd (vs:List V)(_:Hp):Option V:=match vs with
 | [.int m,.int n]=>if 0<=m/\0<=n then some (.int (G.gcdI m n)) else none
 | _=>none
theorem gGcd_of {H:Hp}{m n:Int}(hm:0<=m)(hn:0<=n):gGcd [.int m,.int n] H=some (.int (G.gcdI m n)):=by
 unfold gGcd;simp only;rw [if_pos ⟨hm,hn⟩]
theorem of_gGcd {vs:List V}{H:Hp}{v:V}(h:gGcd vs H=some v):∃ m n:Int,vs=[.int m,.int n]/\0<=m/\0<=n/\v=.int (G.gcdI m n):=by
 unfold gGcd at h
 split at h
 ·rename_i m n
  split at h
  ·rename_i k
   exact ⟨m,n,rfl,k.1,k.2,(Option.some.inj h).symm⟩
  ·cases h
 ·cases h
theorem gcd_step {m n:Int}(hm:0<=m)(hn:0 < n):G.gcdI n (m % n)=G.gcdI m n:=by
 unfold G.gcdI
 have e:(m % n).natAbs=m.natAbs % n.natAbs:=by
  rw [Int.natAbs_emod_of_nonneg hm]
 rw [e,Nat.gcd_comm m.natAbs,Nat.gcd_rec n.natAbs m.natAbs,Nat.gcd_comm]
section
variable {P:Program} {w:World} {K:PySem.W.Frag} {mg:Str->Option Value} {base:Heap}
theorem scCd:FnScope ["m","n","rest"] ["m","n"] (defScope sCd):=⟨rfl,rfl,rfl,by decide +kernel,rfl,by decide +kernel,by decide +kernel⟩
theorem ok_cd (S:Src K mg "common_divisor" sCd ["m","n"]):Def P w K mg base "common_divisor" 1 ["m","n"] (spP gGcd):=by
 refine def_ok S scCd (fun vs H Q E h=>?_) (fun f cdv A outer s H vs Q E hr h=>?_)
 ·obtain ⟨v,h,_⟩:=h
  obtain ⟨m,n,rfl,_⟩:=of_gGcd h
  rfl
 ·obtain ⟨v,h,k⟩:=h
  obtain ⟨m,n,rfl,hm,hn,rfl⟩:=of_gGcd h
  refine ⟨_,pss_cons (ps_while PassesOwn.never (pt_gt (pp 1) pp_int)
   (pss_cons (ps_set (i:=2) scCd.nd rfl (Or.inl rfl) (pp_mod (pp 0) (pp 1)))
   (pss_cons (ps_set (i:=0) scCd.nd rfl (Or.inl rfl) (pp 1))
   (pss_one (ps_set (i:=1) scCd.nd rfl (Or.inl rfl) (pp 2))))))
   (pss_one (ps_ret (pp 0))),?_⟩
  refine while_by (fun σ H'=>H'=H/\∃ (a b:Int) (v:Option V),σ=[some (.int a),some (.int b),v]/\0<=a/\0<=b/\G.gcdI a b=G.gcdI m n) (fun σ _=>match σ with | [_,some (.int b),_]=>b.toNat | _=>0) ⟨rfl,m,n,none,rfl,hm,hn,rfl⟩ ?_ ?_
  ·rintro σ H' ⟨rfl,a,b,v,rfl,ha,hb,e⟩
   refine ⟨_,rfl,ite2 (fun c=>?_) (fun c=>?_)⟩
   ·have c:=of_decide_eq_true c
    have e1:posC a b=true:=decide_eq_true c
    refine ⟨.int (a % b),by simp only [f2,fVar,gZ,gS,oJ,oB,gIc,e1,if_true],_,rfl,_,rfl,⟨rfl,b,a % b,_,rfl,hb,Int.emod_nonneg _ (by omega),by rw [gcd_step ha c,e]⟩,?_⟩
    show (a % b).toNat < b.toNat
    have:=Int.emod_lt_of_pos a c
    have:=Int.emod_nonneg a (show b≠0 by omega)
    omega
   ·have c:¬ 0 < b:=fun z=>c (decide_eq_true z)
    have:b=0:=by omega
    subst this
    refine ⟨_,rfl,?_⟩
    have e2:G.gcdI a 0=a:=by unfold G.gcdI;simp;omega
    rw [e2] at e
    rw [e];exact k
  ·rintro σ H' Q Q' hQ ⟨b,h,q⟩
   exact ⟨b,h,hQ _ _ q⟩
def spLow:Sp:=fun vs H Q _=>∃ a b:Int,vs=[.int a,.int b]/\0 < b/\∀ p,H p=none->Q (.ref p) (upd H p (.tup [.int (Vbecap.frac a b).1,.int (Vbecap.frac a b).2]))
theorem scLow:FnScope ["numerator","denominator","divisor"] ["numerator","denominator"] (defScope sLow):=⟨rfl,rfl,rfl,by decide +kernel,rfl,by decide +kernel,by decide +kernel⟩
theorem frac_gcd (a:Int){b:Int}(h:0 < b):Vbecap.frac a b=(a / G.gcdI (G.absI a) b,b / G.gcdI (G.absI a) b):=by
 rw [G.frac_pos a h]
 have na:(G.absI a).natAbs=a.natAbs:=by unfold G.absI;split<;>omega
 unfold G.gcdI
 rw [na]
theorem gcd_pos (a:Int){b:Int}(h:0 < b):0 < G.gcdI (G.absI a) b:=by
 unfold G.gcdI
 have:=Nat.gcd_pos_of_pos_right (G.absI a).natAbs (show 0 < b.natAbs by omega)
 omega
theorem div_ok {N:List Str}{x:Str}{st:Stmt}{f:Addr}{cdv:Value}{A:Around}{outer:List Env}{s:Shared}{H:Hp}{E:XK}(hs:base.NoSeer)(ht:P.given.tree=none)(hr:Room 33 (A.deeper (envOfC x (defScope st) s.heap.objs.size f cdv)))
  (hg:(defScope st).isGenerator=false) (hc:(defScope st).isCoroutine=false):DivOk (bx P w K mg base N x st f cdv A outer s H E):=⟨hs,ht,hr,⟨_,rfl⟩,hg,hc⟩
theorem ok_low (hs:base.NoSeer)(ht:P.given.tree=none)(B:Blt mg)(S:Src K mg "lowest" sLow ["numerator","denominator"]) (D:Def P w K mg base "common_divisor" 1 ["m","n"] (spP gGcd)):Def P w K mg base "lowest" 34 ["numerator","denominator"] spLow:=by
 refine def_ok S scLow (fun vs H Q E h=>?_) (fun f cdv A outer s H vs Q E hr h=>?_)
 ·obtain ⟨a,b,rfl,_⟩:=h
  rfl
 ·obtain ⟨a,b,rfl,hb,k⟩:=h
  have dv:=div_ok (w:=w) (K:=K) (mg:=mg) (N:=["numerator","denominator","divisor"]) (outer:=outer) (H:=H) (E:=E) hs ht hr scLow.gen scLow.co
  have hr1:Room 1 _:=hr.mono (by decide)
  refine ⟨_,pss_cons (ps_set (i:=2) scLow.nd rfl (Or.inl rfl) (pp_def D hr1 rfl (pq_cons (pp_callB call_abs gAbs_ok rfl B.abs boot_abs (pq_cons (pp 0) pq_nil)) (pq_cons (pp 1) pq_nil))))
   (pss_one (ps_ret (pe_tup (pq_cons (pp_div dv (pp 0) (pp 2)) (pq_cons (pp_div dv (pp 1) (pp 2)) pq_nil))))),?_⟩
  refine ⟨.int (G.gcdI (G.absI a) b),?_,?_⟩
  ·show gGcd [.int (G.absI a),.int b] H=_
   exact gGcd_of (G.absI_nn a) (by omega)
  ·have e1:∀ i,posC i (G.gcdI (G.absI a) b)=true:=fun i=>decide_eq_true (gcd_pos a hb)
   refine ⟨[.int (a / G.gcdI (G.absI a) b),.int (b / G.gcdI (G.absI a) b)],?_,(by show 2<=sizeLine;decide),fun p hp=>?_⟩
   ·show fCons _ _ [some (.int a),some (.int b),some (.int (G.gcdI (G.absI a) b))] H=_
    simp only [fCons,fNil,f2,fVar,gZ,gS,oJ,oB,gIc,e1,if_true]
   ·have:=k p hp
    rw [frac_gcd a hb] at this
    exact this
def spAdded:Sp:=fun vs H Q _=>∃ u v a b,vs=[u,v]/\Rp H u a/\Rp H v b/\0 < a.2/\0 < b.2/\IntMulOk a.1 b.2/\IntMulOk b.1 a.2/\IntMulOk a.2 b.2 /\
 ∀ p,H p=none->Q (.ref p) (upd H p (.tup [.int (Vbecap.plus a b).1,.int (Vbecap.plus a b).2]))
theorem scAdded:FnScope ["one","other"] ["one","other"] (defScope sAdded):=⟨rfl,rfl,rfl,by decide +kernel,rfl,by decide +kernel,by decide +kernel⟩
theorem ok_added (S:Src K mg "added" sAdded ["one","other"]) (D:Def P w K mg base "lowest" 34 ["numerator","denominator"] spLow):Def P w K mg base "added" 35 ["one","other"] spAdded:=by
 refine def_ok S scAdded (fun vs H Q E h=>?_) (fun f cdv A outer s H vs Q E hr h=>?_)
 ·obtain ⟨u,v,a,b,rfl,_⟩:=h
  rfl
 ·obtain ⟨u,v,a,b,rfl,⟨p1,rfl,h1⟩,⟨p2,rfl,h2⟩,d1,d2,m1,m2,m3,k⟩:=h
  refine ⟨_,pss_one (ps_ret (pe_def D hr rfl (pq_cons (pp_add (pp_mulB (pp_ix (pp 0) pp_int) (pp_ix (pp 1) pp_int)) (pp_mulB (pp_ix (pp 1) pp_int) (pp_ix (pp 0) pp_int))) (pq_cons (pp_mulB (pp_ix (pp 0) pp_int) (pp_ix (pp 1) pp_int)) pq_nil)))),?_⟩
  have e1:=bigC_of m1
  have e2:=bigC_of m2
  have e3:=bigC_of m3
  refine ⟨[.int (a.1*b.2+b.1*a.2),.int (a.2*b.2)],?_,_,_,rfl,Int.mul_pos d1 d2,k⟩
  show fCons _ _ [some (.ref p1),some (.ref p2)] H=_
  simp only [fCons,fNil,f2,fVar,fC,gZ,gS,oJ,oB,ix20 h1,ix20 h2,ix21 h1,ix21 h2,gI,gIc,e1,e2,e3,if_true]
def gLesser (vs:List V)(H:Hp):Option V:=match vs with
 | [u,v]=>(plc H u).bind fun a=>(plc H v).bind fun b=>if smallC a.1 b.2=true/\smallC b.1 a.2=true then some (.bl (Vbecap.lessF a b)) else none
 | _=>none
theorem gLesser_of {H:Hp}{u v:V}{a b:P2}(h1:Rp H u a)(h2:Rp H v b)(s1:smallC a.1 b.2=true)(s2:smallC b.1 a.2=true):gLesser [u,v] H=some (.bl (Vbecap.lessF a b)):=by
 unfold gLesser
 simp only [plc_of h1,plc_of h2,oB]
 rw [if_pos ⟨s1,s2⟩]
theorem of_gLesser {vs:List V}{H:Hp}{r:V}(h:gLesser vs H=some r):∃ u v a b,vs=[u,v]/\Rp H u a/\Rp H v b/\smallC a.1 b.2=true/\smallC b.1 a.2=true/\r=.bl (Vbecap.lessF a b):=by
 unfold gLesser at h
 split at h
 ·rename_i u v
  cases h1:plc H u with
  | none=>rw [h1] at h;cases h
  | some a =>
   cases h2:plc H v with
   | none=>rw [h1,h2] at h;cases h
   | some b =>
    rw [h1,h2] at h
    simp only [oB] at h
    split at h
    ·rename_i k
     exact ⟨u,v,a,b,rfl,of_plc h1,of_plc h2,k.1,k.2,(Option.some.inj h).symm⟩
    ·cases h
 ·cases h
theorem scLesser:FnScope ["one","other"] ["one","other"] (defScope sLesser):=⟨rfl,rfl,rfl,by decide +kernel,rfl,by decide +kernel,by decide +kernel⟩
theorem ok_lesser (S:Src K mg "lesser" sLesser ["one","other"]):Def P w K mg base "lesser" 1 ["one","other"] (spP gLesser):=by
 refine def_ok S scLesser (fun vs H Q E h=>?_) (fun f cdv A outer s H vs Q E hr h=>?_)
 ·obtain ⟨v,h,_⟩:=h
  obtain ⟨u,v,a,b,rfl,_⟩:=of_gLesser h
  rfl
 ·obtain ⟨r,h,k⟩:=h
  obtain ⟨u,v,a,b,rfl,⟨p1,rfl,h1⟩,⟨p2,rfl,h2⟩,e1,e2,rfl⟩:=of_gLesser h
  refine ⟨_,pss_one (ps_ret (pp_lt (pp_mul (pp_ix (pp 0) pp_int) (pp_ix (pp 1) pp_int)) (pp_mul (pp_ix (pp 1) pp_int) (pp_ix (pp 0) pp_int)))),_,?_,k⟩
  show f2 _ _ _ [some (.ref p1),some (.ref p2)] H=_
  simp only [f2,fVar,fC,gZ,gS,oJ,oB,ix20 h1,ix20 h2,ix21 h1,ix21 h2,gI,gIc,e1,e2,if_true]
  rfl
end
end HR
namespace HR
open PySem PySem.Spec PyProof.Rows L2
open Vbecap (cross push hull edges whereIs)
theorem All.snoc {α:Type}{R:V->α->Prop}:∀ {vs:List V} {xs:List α} {x:α},All R vs (xs++[x])->∃ ws v,vs=ws++[v]/\All R ws xs/\R v x
 | vs,[],x,h=>by
  cases h with
  | cons a r=>cases r;exact ⟨[],_,rfl,.nil,a⟩
 | vs,y::xs,x,h=>by
  cases h with
  | cons a r =>
   obtain ⟨ws,v,e,r',h'⟩:=All.snoc r
   exact ⟨_::ws,v,by rw [e];rfl,.cons a r',h'⟩
theorem at_neg1 (ws:List V)(v:V):atI (ws++[v]) (-1)=some v:=atI_last ws v
theorem at_neg2 (ws:List V)(u v:V):atI (ws++[u,v]) (-2)=some u:=by
 unfold atI ixN
 rw [if_neg (by omega),if_pos (by simp;omega)]
 have:(-2+((ws++[u,v]).length:Int)).toNat=ws.length:=by simp;omega
 rw [this]
 simp
theorem gIx_l {H:Hp}{l:Addr}{vs:List V}{i:Int}(h:H l=some (.lst vs)):gIx (.ref l) (.int i) H=atI vs i:=by unfold gIx;simp only [h]
theorem gIx_t {H:Hp}{l:Addr}{vs:List V}{i:Int}(h:H l=some (.tup vs)):gIx (.ref l) (.int i) H=atI vs i:=by unfold gIx;simp only [h]
theorem gLen_l {H:Hp}{l:Addr}{vs:List V}(h:H l=some (.lst vs)):gLen [.ref l] H=some (.int vs.length):=by unfold gLen;simp only [h]
theorem take_snoc {α:Type}:∀ {l:List α} {i:Nat} {x:α},l[i]?=some x->l.take (i+1)=l.take i++[x]
 | [],i,x,h=>by simp at h
 | a::l,0,x,h=>by
  have e:a=x:=Option.some.inj h
  subst e;rfl
 | a::l,i+1,x,h=>by
  have ih:=take_snoc (l:=l) (i:=i) (x:=x) h
  show a::l.take (i+1)=a::l.take i++[x]
  rw [ih];rfl
abbrev sChain:Stmt:=top 12
def SmL (ps:List P2):Prop:=∀ p∈ps,smP p=true
section
variable {P:Program} {w:World} {K:PySem.W.Frag} {mg:Str->Option Value} {base:Heap}
def spChain:Sp:=fun vs H Q _=>∃ v ps,vs=[v]/\Ls Rp H v ps/\SmL ps/\ps.length<=1000/\∀ H' u,Same H H'->Ls Rp H' u (ps.foldl (fun m p=>push p m) []).reverse->Q u H'
theorem scChain:FnScope ["places","kept","place"] ["places"] (defScope sChain):=⟨rfl,rfl,rfl,by decide +kernel,rfl,by decide +kernel,by decide +kernel⟩
theorem push_mem {p:P2}:∀ (m:List P2) (x:P2),x∈push p m->x=p\/x∈m
 | [],x,h=>by unfold push at h;simp at h;exact .inl h
 | [a],x,h=>by unfold push at h;simpa using h
 | b::a::r,x,h=>by
  unfold push at h
  split at h
  ·rcases push_mem (a::r) x h with q | q
   ·exact .inl q
   ·exact .inr (List.mem_cons_of_mem _ q)
  ·simpa using h
 termination_by m=>m.length
theorem push_len {p:P2}:∀ (m:List P2),(push p m).length<=m.length+1
 | []=>by unfold push;simp
 | [a]=>by unfold push;simp
 | b::a::r=>by
  unfold push
  split
  ·have:=push_len (p:=p) (a::r)
   simp at this ⊢;omega
  ·simp
 termination_by m=>m.length
theorem chain_mem:∀ (ps m:List P2) (x:P2),x∈ps.foldl (fun m p=>push p m) m->x∈ps\/x∈m
 | [],m,x,h=>.inr h
 | p::ps,m,x,h=>by
  rcases chain_mem ps (push p m) x h with q | q
  ·exact .inl (List.mem_cons_of_mem _ q)
  ·rcases push_mem m x q with q | q
   ·exact .inl (by rw [q];simp)
   ·exact .inr q
theorem chain_len:∀ (ps m:List P2),(ps.foldl (fun m p=>push p m) m).length<=m.length+ps.length
 | [],m=>Nat.le_refl _
 | p::ps,m=>by
  have:=chain_len ps (push p m)
  have:=push_len (p:=p) m
  rw [List.foldl_cons]
  simp only [List.length_cons]
  omega
theorem ok_chain (B:Blt mg)(S:Src K mg "left_chain" sChain ["places"]) (D:Def P w K mg base "turn_of" 1 ["a","b","c"] (spP gTurn)):Def P w K mg base "left_chain" 2 ["places"] spChain:=by
 refine def_ok S scChain (fun vs H Q E h=>?_) (fun f cdv A outer s H vs Q E hr h=>?_)
 ·obtain ⟨v,ps,rfl,_⟩:=h
  rfl
 ·obtain ⟨v,ps,rfl,⟨l,us,rfl,hl,hall⟩,hsm,hlen,k⟩:=h
  refine ⟨_,pss_cons (ps_set (i:=1) scChain.nd rfl (Or.inl rfl) (pe_lst pq_nil))
   (pss_cons (ps_for PassesOwn.never rfl (pi_list (pp 0)) (pg_name (i:=2) scChain.nd rfl (Or.inl rfl))
    (pss_cons (ps_while PassesOwn.never (PW.pt (pw_and (pt_gt (pp_callB call_len_seq gLen_ok rfl B.len boot_lenH (pq_cons (pp 1) pq_nil)) pp_int)
      (pw_and1 (pt_le (pp_def D hr rfl (pq_cons (pp_ix (pp 1) (pp_neg pp_int)) (pq_cons (pp_ix (pp 1) (pp_neg pp_int)) (pq_cons (pp 2) pq_nil)))) pp_int))))
     (pss_one (ps_expr (pe_bm0 PySem.F.plainAttrs_list PySem.F.slot_list_pop PySem.F.type_list_pop mt_pop (pp 1)))))
    (pss_one (ps_expr (pe_bm PySem.F.plainAttrs_list PySem.F.slot_list_append PySem.F.type_list_append mt_append (pp 1) (pq_cons (pp 2) pq_nil))))))
   (pss_one (ps_ret (pp 1)))),?_⟩
  refine ⟨[],rfl,Nat.zero_le _,fun q hq=>?_⟩
  have s0:Same H (upd H q (.lst [])):=same_new hq
  refine ⟨_,rfl,l,rfl,⟨_,SqL.of (s0 _ _ hl)⟩,for_list (K:=K) (a:=l) (xs:=us) (fun i σ H'=>∃ (v:Option V) (ws:List V),σ=[some (.ref l),some (.ref q),v]/\Same H H'/\H' q=some (.lst ws)/\All (Rp H') ws ((ps.take i).foldl (fun m p=>push p m) []).reverse)
   ⟨none,[],rfl,s0,upd_same,.nil⟩ (fun i σ H' _ ⟨_,_,_,s5,_⟩=>SqL.of (s5 _ _ hl)) ?_ ?_⟩
  ·rintro i y σ H' hi ⟨v,ws,rfl,s1,h1,a1⟩
   obtain ⟨p,hp,rp⟩:=(hall.imp fun _ _ r=>tu_p _ _ _ _ r (same_tup s1)).get' hi
   have smp:smP p=true:=hsm p (List.mem_of_getElem? hp)
   have smT:∀ x∈(ps.take i).foldl (fun m p=>push p m) [],smP x=true:=fun x hx=>by
    rcases chain_mem _ _ x hx with z | z
    ·exact hsm x (List.mem_of_mem_take z)
    ·simp at z
   have lenT:((ps.take i).foldl (fun m p=>push p m) []).length<=1000:=by
    have:=chain_len (ps.take i) []
    simp at this;omega
   rw [take_snoc hp,List.foldl_append]
   generalize (ps.take i).foldl (fun m p=>push p m) []=m0 at a1 smT lenT
   refine while_by (fun σ H2=>∃ (ws:List V) (m:List P2),σ=[some (.ref l),some (.ref q),some y]/\Same H H2/\STup H' H2/\H2 q=some (.lst ws)/\All (Rp H2) ws m.reverse/\push p m=push p m0/\(∀ x∈m,smP x=true)/\m.length<=1000)
    (fun _ H2=>match H2 q with | some (.lst ws)=>ws.length | _=>0) ⟨ws,m0,rfl,s1,STup.refl _,h1,a1,rfl,smT,lenT⟩ ?_ ?_
   ·rintro σ H2 ⟨ws,m,rfl,s2,t2,h2,a2,e2,sm2,l2⟩
    have lw:ws.length=m.length:=by rw [a2.length,List.length_reverse]
    refine ⟨decide (1 < (ws.length:Int)),?_,ite2 (fun c=>?_) (fun c=>?_)⟩
    ·show f2 _ (fCall gLen (fCons (fVar 1) fNil)) (fC (.int 1)) [some (.ref l),some (.ref q),some y] H2=_
     simp only [f2,fCall,fCons,fNil,fVar,fC,gZ,gS,oJ,oB,gLen_l h2,gI]
    ·have c:=of_decide_eq_true c
     match m,lw,a2,e2,sm2,l2 with
     | [],lw,_,_,_,_=>have:ws.length=0:=lw;omega
     | [x],lw,_,_,_,_=>have:ws.length=1:=lw;omega
     | b::a::r,lw,a2,e2,sm2,l2 =>
      have a2':All (Rp H2) ws ((r.reverse++[a])++[b]):=by simpa using a2
      obtain ⟨w1,vb,rfl,a3,rb⟩:=a2'.snoc
      obtain ⟨w2,va,rfl,a4,ra⟩:=a3.snoc
      have rp2:Rp H2 y p:=rp.to t2
      have e:F3 (fun p q r=>V.int (cross p q r)) [va,vb,y] H2=some (.int (cross a b p)):=F3_of ra rb rp2 (sm2 a (by simp)) (sm2 b (by simp)) smp
      have i1:gIx (.ref q) (.int (-2)) H2=some va:=by rw [gIx_l h2,List.append_assoc];exact at_neg2 w2 va vb
      have i2:gIx (.ref q) (.int (-1)) H2=some vb:=by rw [gIx_l h2];exact at_neg1 _ vb
      refine ⟨decide (cross a b p<=0),?_,ite2 (fun c2=>?_) (fun c2=>?_)⟩
      ·show f2 _ (fCall gTurn (fCons (fIx (fVar 1) (f1 (fun x _=>gNeg x) (fC (.int 2)))) (fCons (fIx (fVar 1) (f1 (fun x _=>gNeg x) (fC (.int 1)))) (fCons (fVar 2) fNil)))) (fC (.int 0)) [some (.ref l),some (.ref q),some y] H2=_
       have n1:gNeg (.int 1)=some (.int (-1)):=rfl
       have n2:gNeg (.int 2)=some (.int (-2)):=rfl
       simp only [f2,f1,fCall,fCons,fNil,fVar,fC,gZ,gS,oJ,oB,n1,n2,i1,i2,e,gI]
      ·have c2:=of_decide_eq_true c2
       refine ⟨.ref q,rfl,.inl ⟨rfl,_,SqL.of h2⟩,q,_,vb,rfl,rfl,h2,by simp,?_⟩
       refine ⟨⟨w2++[va],a::r,rfl,same_upd s2 hq,t2.trans (stup_upd h2),?_,?_,?_,fun x hx=>sm2 x (by simp at hx ⊢;exact .inr hx),by simp at l2 ⊢;omega⟩,?_⟩
       ·rw [upd_same,List.dropLast_concat]
       ·have:All (Rp H2) (w2++[va]) (a::r).reverse:=by simpa using a3
        exact this.imp fun _ _ z=>tu_p _ _ _ _ z (stup_upd h2)
       ·rw [<- e2]
        conv=>rhs;unfold push
        rw [if_pos c2]
       ·rw [upd_same,h2]
        show ((w2++[va]++[vb]).dropLast).length < (w2++[va]++[vb]).length
        rw [List.dropLast_concat];simp
      ·have c2:¬ cross a b p<=0:=fun z=>c2 (decide_eq_true z)
       have e3:push p (b::a::r)=p::b::a::r:=by unfold push;rw [if_neg c2]
       refine ⟨.ref q,rfl,.inl ⟨rfl,_,SqL.of h2⟩,[y],rfl,q,_,y,rfl,rfl,h2,?_,?_⟩
       ·have:(w2++[va]++[vb]).length<=1000:=by rw [lw];exact l2
        exact Nat.lt_of_le_of_lt this (by decide)
       ·refine ⟨some y,_,rfl,same_upd s2 hq,upd_same,?_⟩
        show All _ _ (push p m0).reverse
        rw [<- e2,e3,List.reverse_cons]
        exact (a2.append (All.one rp2)).imp fun _ _ z=>tu_p _ _ _ _ z (stup_upd h2)
    ·have c:¬ 1 < (ws.length:Int):=fun z=>c (decide_eq_true z)
     have e3:push p m=p::m:=by
      match m,lw with
      | [],_=>unfold push;rfl
      | [x],_=>unfold push;rfl
      | b::a::r,lw=>simp at lw;omega
     refine ⟨.ref q,rfl,.inl ⟨rfl,_,SqL.of h2⟩,[y],rfl,q,_,y,rfl,rfl,h2,?_,?_⟩
     ·exact Nat.lt_of_le_of_lt (show ws.length<=1 by omega) (by decide)
     ·refine ⟨some y,_,rfl,same_upd s2 hq,upd_same,?_⟩
      show All _ _ (push p m0).reverse
      rw [<- e2,e3,List.reverse_cons]
      exact (a2.append (All.one (rp.to t2))).imp fun _ _ z=>tu_p _ _ _ _ z (stup_upd h2)
   ·rintro σ H2 Q1 Q2 hQ ⟨b,hb,q1⟩
    refine ⟨b,hb,?_⟩
    cases b with
    | true =>
     obtain ⟨c,hc,q2⟩:=(if_pos rfl).mp q1
     exact (if_pos rfl).mpr ⟨c,hc,hQ _ _ q2⟩
    | false=>exact hQ _ _ q1
  ·rintro σ H' ⟨v,ws,rfl,s1,h1,a1⟩
   have le:us.length=ps.length:=hall.length
   rw [le,List.take_length] at a1
   exact ⟨.ref q,rfl,k H' _ s1 ⟨q,ws,rfl,h1,a1⟩⟩
end
theorem same_at {H H':Hp}{D:Addr}{o:HO}(s:Same H H')(h:H D=some o):H' D=some o:=s D o h
section
variable {K:PySem.W.Frag} {a:Addr} {us:List V} {β:Type} {R':Hp->V->β->Prop} {j:Nat} {te:TE} {vs:List Nat} {σ:L2.St} {H1:Hp} {D:Addr} {Qd:Hp->Prop}
theorem lc_map (tu:Tu R')(hD:H1 D=none)(hl:SqL K H1 a us)(ys:List β)(hlen:ys.length=us.length)(hsz:us.length<=100000)(hw:∀ x,wipe ((wipe σ vs).set j (some x)) vs=wipe σ vs)
  (hs:∀ (i:Nat) x z H',us[i]?=some x->ys[i]?=some z->Same H1 H'->∀ Q:VK,(∀ y H4,Same H' H4->R' H4 y z->Q y H4)->te ((wipe σ vs).set j (some x)) H' Q)
  (hd:∀ H' ws,Same H1 H'->H' D=some (.lst ws)->All (R' H') ws ys->Qd H') :
  ∃ W:Nat->Nat->Hp->Prop,(∃ m,W 0 m (upd H1 D (.lst [])))/\∀ i m H,W i m H ->
   ((Itl K a).stop i H/\Qd H)\/((Itl K a).go i H/\∃ Nx:Hp->Prop,(∀ H',Nx H'->∃ m',m' < m/\W (i+1) m' H')/\∀ x H',(Itl K a).yld i H x H'->gName j x (wipe σ vs) H' fun σ2 H2=>wipe σ2 vs=wipe σ vs/\tYes σ2 H2 fun b H3 =>
    if b=true then te σ2 H3 fun y H4=>∃ acc,H4 D=some (.lst acc)/\acc.length < sizeLine/\Nx (upd H4 D (.lst (acc++[y]))) else Nx H3):=by
 refine lc_list (K:=K) (a:=a) (xs:=us) (fun i H'=>Same H1 H'/\∃ ws,H' D=some (.lst ws)/\All (R' H') ws (ys.take i)) ⟨same_new hD,[],upd_same,.nil⟩ (fun i H' _ h=>h.1.seq hl) (fun i x H' hx h=>?_) (fun H' h=>?_)
 ·obtain ⟨s1,ws,h1,a1⟩:=h
  refine ⟨hw x,?_⟩
  unfold tYes
  dsimp only
  rw [if_pos rfl]
  have li:i < ys.length:=by rw [hlen];exact (List.getElem?_eq_some_iff.mp hx).1
  have hz:ys[i]?=some ys[i]:=List.getElem?_eq_getElem li
  refine hs i x _ H' hx hz s1 _ fun y H4 s4 r=>?_
  have h4:=same_at s4 h1
  refine ⟨ws,h4,?_,same_upd (s1.trans s4) hD,ws++[y],upd_same,?_⟩
  ·have:ws.length<=100000:=by
    rw [a1.length,List.length_take]
    omega
   exact Nat.lt_of_le_of_lt this (by decide)
  ·rw [take_snoc hz]
   exact ((a1.imp fun _ _ z=>tu _ _ _ _ z (same_tup s4)).append (All.one r)).imp fun _ _ z=>tu _ _ _ _ z (stup_upd h4)
 ·obtain ⟨s1,ws,h1,a1⟩:=h
  rw [<- hlen,List.take_length] at a1
  exact hd H' ws s1 h1 a1
theorem lc_rmap {lo:Int}{n:Nat}(tu:Tu R')(hD:H1 D=none)(ys:List β)(hlen:ys.length=n)(hsz:n<=100000)(hw:∀ x,wipe ((wipe σ vs).set j (some x)) vs=wipe σ vs)
  (hs:∀ (i:Nat) z H',i < n->ys[i]?=some z->Same H1 H'->∀ Q:VK,(∀ y H4,Same H' H4->R' H4 y z->Q y H4)->te ((wipe σ vs).set j (some (.int (lo+i)))) H' Q)
  (hd:∀ H' ws,Same H1 H'->H' D=some (.lst ws)->All (R' H') ws ys->Qd H') :
  ∃ W:Nat->Nat->Hp->Prop,(∃ m,W 0 m (upd H1 D (.lst [])))/\∀ i m H,W i m H ->
   ((Itr lo n).stop i H/\Qd H)\/((Itr lo n).go i H/\∃ Nx:Hp->Prop,(∀ H',Nx H'->∃ m',m' < m/\W (i+1) m' H')/\∀ x H',(Itr lo n).yld i H x H'->gName j x (wipe σ vs) H' fun σ2 H2=>wipe σ2 vs=wipe σ vs/\tYes σ2 H2 fun b H3 =>
    if b=true then te σ2 H3 fun y H4=>∃ acc,H4 D=some (.lst acc)/\acc.length < sizeLine/\Nx (upd H4 D (.lst (acc++[y]))) else Nx H3):=by
 refine lc_range (fun i H'=>Same H1 H'/\∃ ws,H' D=some (.lst ws)/\All (R' H') ws (ys.take i)) ⟨same_new hD,[],upd_same,.nil⟩ (fun i H' hi h=>?_) (fun H' h=>?_)
 ·obtain ⟨s1,ws,h1,a1⟩:=h
  refine ⟨hw _,?_⟩
  unfold tYes
  dsimp only
  rw [if_pos rfl]
  have li:i < ys.length:=by rw [hlen];exact hi
  have hz:ys[i]?=some ys[i]:=List.getElem?_eq_getElem li
  refine hs i _ H' hi hz s1 _ fun y H4 s4 r=>?_
  have h4:=same_at s4 h1
  refine ⟨ws,h4,?_,same_upd (s1.trans s4) hD,ws++[y],upd_same,?_⟩
  ·have:ws.length<=100000:=by
    rw [a1.length,List.length_take]
    omega
   exact Nat.lt_of_le_of_lt this (by decide)
  ·rw [take_snoc hz]
   exact ((a1.imp fun _ _ z=>tu _ _ _ _ z (same_tup s4)).append (All.one r)).imp fun _ _ z=>tu _ _ _ _ z (stup_upd h4)
 ·obtain ⟨s1,ws,h1,a1⟩:=h
  rw [<- hlen,List.take_length] at a1
  exact hd H' ws s1 h1 a1
end
theorem at_nat {xs:List V}{k:Nat}{v:V}(h:xs[k]?=some v):atI xs (k:Int)=some v:=atI_nat h
theorem at_prev {xs:List V}{k:Nat}(hk:k < xs.length):∃ v,atI xs ((k:Int)-1)=some v/\(xs.getLast?.toList++xs)[k]?=some v:=by
 obtain ⟨z,hz⟩:∃ z,xs.getLast?=some z:=⟨_,List.getLast?_eq_some_getLast (by intro q;rw [q] at hk;simp at hk)⟩
 cases k with
 | zero =>
  refine ⟨z,?_,by rw [hz];rfl⟩
  obtain ⟨ys,rfl⟩:=List.getLast?_eq_some_iff.mp hz
  exact atI_last ys z
 | succ k =>
  have hk':k < xs.length:=by omega
  refine ⟨xs[k],?_,?_⟩
  ·have:((k+1:Nat):Int)-1=(k:Int):=by omega
   rw [this]
   exact atI_nat (List.getElem?_eq_getElem hk')
  ·rw [hz]
   show (z::xs)[k+1]?=_
   rw [gS]
   exact List.getElem?_eq_getElem hk'
theorem All.last {α:Type}{R:V->α->Prop}{vs:List V}{xs:List α}(h:All R vs xs):All R (vs.getLast?.toList++vs) (xs.getLast?.toList++xs):=by
 refine All.append ?_ h
 induction h with
 | nil=>exact .nil
 | cons a b ih =>
  cases b with
  | nil=>exact All.one a
  | cons c d =>
   rw [List.getLast?_cons_cons,List.getLast?_cons_cons]
   exact ih
theorem cyc_len {α:Type}(l:List α):(G.cycM l).length=l.length:=by
 unfold G.cycM
 cases l with
 | nil=>rfl
 | cons a t =>
  obtain ⟨z,hz⟩:∃ z,(a::t).getLast?=some z:=⟨_,List.getLast?_eq_some_getLast (by simp)⟩
  rw [hz,List.length_zip]
  simp
theorem cyc_at {α:Type}{R:V->α->Prop}{vs:List V}{xs:List α}(h:All R vs xs){k:Nat}{e:α×α}(he:(G.cycM xs)[k]?=some e):∃ u v,atI vs ((k:Int)-1)=some u/\atI vs (k:Int)=some v/\R u e.1/\R v e.2/\xs[k]?=some e.2:=by
 have hk:k < xs.length:=by
  have:=(List.getElem?_eq_some_iff.mp he).1
  rw [cyc_len] at this;exact this
 unfold G.cycM at he
 rw [List.getElem?_zip_eq_some] at he
 obtain ⟨u,h1,h2⟩:=at_prev (xs:=vs) (k:=k) (by rw [h.length];exact hk)
 obtain ⟨x,hx,r1⟩:=h.last.get' h2
 obtain ⟨v,hv,r2⟩:=h.get he.2
 rw [hx] at he
 have e1:x=e.1:=Option.some.inj he.1
 rw [e1] at r1
 exact ⟨u,v,h1,atI_nat hv,r1,r2,he.2⟩
theorem sides_cyc (h:List P2):G.sidesM h=G.cycM h:=rfl
theorem sides_sm {h:List P2}(hs:SmL h){e:P2×P2}(he:e∈G.sidesM h):smP e.1=true/\smP e.2=true:=by
 have:=G.cycM_mem (l:=h) he
 exact ⟨hs _ this.1,hs _ this.2⟩
abbrev sSides:Stmt:=top 14
abbrev sArea:Stmt:=top 15
abbrev sSteps:Stmt:=top 16
abbrev sRim:Stmt:=top 17
abbrev sInner:Stmt:=top 18
section
variable {P:Program} {w:World} {K:PySem.W.Frag} {mg:Str->Option Value} {base:Heap}
def spSides:Sp:=fun vs H Q _=>∃ v h,vs=[v]/\Ls Rp H v h/\h.length<=1000/\∀ H' u,Same H H'->Ls Rs H' u (G.sidesM h)->Q u H'
theorem scSides:FnScope ["corners","k"] ["corners"] (defScope sSides):=⟨rfl,rfl,rfl,by decide +kernel,rfl,by decide +kernel,by decide +kernel⟩
theorem ok_sides (B:Blt mg)(S:Src K mg "sides_of" sSides ["corners"]):Def P w K mg base "sides_of" 1 ["corners"] spSides:=by
 refine def_ok S scSides (fun vs H Q E h=>?_) (fun f cdv A outer s H vs Q E hr h=>?_)
 ·obtain ⟨v,h,rfl,_⟩:=h
  rfl
 ·obtain ⟨v,h,rfl,⟨l,us,rfl,hl,hall⟩,hlen,k⟩:=h
  refine ⟨_,pss_one (ps_ret (pe_lc (own:=[("k",1)]) rfl scSides.nd (pi_range1 rfl B.range (pq_cons (pp_callB call_len_seq gLen_ok rfl B.len boot_lenH (pq_cons (pp 0) pq_nil)) pq_nil)) (blkOk_by (by show blkC ["corners","k"] (defScope sSides) _ _=true;decide +kernel))
   (fun _ _ _ _ _=>pg_name (i:=1) scSides.nd rfl (Or.inl rfl)) (fun _ _ _ _ _=>pts_nil)
   (fun _ _ _ _ _=>pe_tup (pq_cons (pp_ix (pp 0) (pp_sub (pp 1) pp_int)) (pq_cons (pp_ix (pp 0) (pp 1)) pq_nil))))),?_⟩
  refine ⟨[.int us.length],?_,us.length,rfl,by omega,?_,fun D hD=>?_⟩
  ·show fCons (fCall gLen (fCons (fVar 0) fNil)) fNil [some (.ref l),none] H=_
   simp only [fCall,fCons,fNil,fVar,gZ,oJ,oB,gLen_l hl]
  ·have:=hall.length
   omega
  ·have le:us.length=h.length:=hall.length
   refine lc_rmap (R':=Rs) tu_s hD (G.sidesM h) (by rw [sides_cyc,cyc_len,Int.toNat_natCast,le]) (by omega) (fun x=>rfl) (fun i z H' hi hz s1 Q hQ=>?_) (fun H' ws s1 h1 a1=>k H' _ s1 ⟨D,ws,rfl,h1,a1⟩)
   obtain ⟨u,v,e1,e2,r1,r2,_⟩:=cyc_at hall hz
   have hl':=s1 _ _ hl
   refine ⟨[u,v],?_,(by show 2<=sizeLine;decide),fun p hp=>?_⟩
   ·show fCons _ _ [some (.ref l),some (.int (0+(i:Int)))] H'=_
    have e3:(0:Int)+(i:Int)=i:=by omega
    simp only [fCons,fNil,f2,fVar,fC,gZ,gS,oJ,oB,gI,e3,gIx_l hl',e1,e2]
   ·exact hQ _ _ (same_new hp) ⟨p,u,v,rfl,upd_same,(r1.to (same_tup s1)).to (stup_new hp),(r2.to (same_tup s1)).to (stup_new hp)⟩
end
theorem All.at0 {α:Type}{R:V->α->Prop}{vs:List V}{xs:List α}(h:All R vs xs){x:α}(hx:xs[0]?=some x):∃ v,atI vs 0=some v/\R v x:=by
 obtain ⟨v,hv,r⟩:=h.get hx
 exact ⟨v,atI_nat (j:=0) hv,r⟩
theorem All.at1 {α:Type}{R:V->α->Prop}{vs:List V}{xs:List α}(h:All R vs xs){x:α}(hx:xs[1]?=some x):∃ v,atI vs 1=some v/\R v x:=by
 obtain ⟨v,hv,r⟩:=h.get hx
 exact ⟨v,atI_nat (j:=1) hv,r⟩
theorem All.atL {α:Type}{R:V->α->Prop}{vs:List V}{xs:List α}(h:All R vs xs){x:α}(hx:xs.getLast?=some x):∃ v,atI vs (-1)=some v/\R v x:=by
 obtain ⟨ys,rfl⟩:=List.getLast?_eq_some_iff.mp hx
 obtain ⟨ws,v,rfl,_,r⟩:=h.snoc
 exact ⟨v,at_neg1 ws v,r⟩
theorem map_at {α β:Type}{f:α->β}{xs:List α}{i:Nat}{x:α}{z:β}(hx:xs[i]?=some x)(hz:(xs.map f)[i]?=some z):z=f x:=by
 rw [List.getElem?_map,hx] at hz
 exact (Option.some.inj hz).symm
theorem ite_bl {c:Bool}{A B:Prop}(h1:c=true->A)(h2:c=false->B):if c=true then A else B:=by
 cases c with
 | true=>exact (if_pos rfl).mpr (h1 rfl)
 | false=>exact (if_neg (by decide)).mpr (h2 rfl)
abbrev sBetween:Stmt:=top 19
abbrev sOnWay:Stmt:=top 20
abbrev sStand:Stmt:=top 21
abbrev sHolds:Stmt:=top 22
abbrev gSteps:=F2 fun p q=>.int (G.stepsM (p,q))
def gBetween (vs:List V)(_:Hp):Option V:=match vs with
 | [.int a,.int n,.int b]=>some (.bl (decide (min a b<=n) && decide (n<=max a b)))
 | _=>none
theorem of_gBetween {vs:List V}{H:Hp}{v:V}(h:gBetween vs H=some v):∃ a n b:Int,vs=[.int a,.int n,.int b]/\v=.bl (decide (min a b<=n) && decide (n<=max a b)):=by
 unfold gBetween at h
 split at h
 ·rename_i a n b
  exact ⟨a,n,b,rfl,(Option.some.inj h).symm⟩
 ·cases h
abbrev gOnWay:=F3 fun p q r=>.bl (G.onWay p q r)
section
variable {P:Program} {w:World} {K:PySem.W.Frag} {mg:Str->Option Value} {base:Heap}
def spArea:Sp:=fun vs H Q _=>∃ v h,vs=[v]/\Ls Rp H v h/\SmL h/\h.length<=1000/\∀ H',Same H H'->Q (.int (G.areaC h)) H'
theorem scArea:FnScope ["corners","side"] ["corners"] (defScope sArea):=⟨rfl,rfl,rfl,by decide +kernel,rfl,by decide +kernel,by decide +kernel⟩
theorem ok_area (B:Blt mg)(S:Src K mg "twice_area" sArea ["corners"]) (D1:Def P w K mg base "sides_of" 1 ["corners"] spSides) (D2:Def P w K mg base "turn_of" 1 ["a","b","c"] (spP gTurn)):Def P w K mg base "twice_area" 2 ["corners"] spArea:=by
 refine def_ok S scArea (fun vs H Q E h=>?_) (fun f cdv A outer s H vs Q E hr h=>?_)
 ·obtain ⟨v,h,rfl,_⟩:=h
  rfl
 ·obtain ⟨v,h,rfl,⟨l,us,rfl,hl,hall⟩,hsm,hlen,k⟩:=h
  refine ⟨_,pss_one (ps_ret (pe_callB (cr_sum rfl) rfl B.sum boot_sum (pa_cons (pe_lc (own:=[("side",1)]) rfl scArea.nd (pi_list (pe_def D1 hr rfl (pq_cons (pp 0) pq_nil)))
   (blkOk_by (by show blkC ["corners","side"] (defScope sArea) _ _=true;decide +kernel)) (fun _ _ _ _ _=>pg_name (i:=1) scArea.nd rfl (Or.inl rfl)) (fun _ _ _ _ _=>pts_nil)
   (fun _ _ _ _ _=>pp_def D2 hr rfl (pq_cons (pp_ix (pp 0) pp_int) (pq_cons (pp_ix (pp 1) pp_int) (pq_cons (pp_ix (pp 1) pp_int) pq_nil))))) pa_nil))),?_⟩
  refine ⟨[.ref l],rfl,.ref l,h,rfl,⟨l,us,rfl,hl,hall⟩,hlen,fun H1 u s1 ⟨ls,ss,e,hls,alls⟩=>⟨ls,e,⟨ss,SqL.of hls⟩,fun D hD=>?_⟩⟩
  have le:ss.length=(G.sidesM h).length:=alls.length
  have le2:(G.sidesM h).length=h.length:=by rw [sides_cyc,cyc_len]
  refine lc_map (R':=Ri) tu_i hD (SqL.of hls) ((G.sidesM h).map fun s=>cross (h.headD (0,0)) s.1 s.2) (by rw [List.length_map,le]) (by omega) (fun x=>rfl) (fun i x z H' hx hz s2 Q2 hQ=>?_) (fun H' ws s2 h2 a2=>?_)
  ·obtain ⟨sd,hsd,⟨a,x1,x2,rfl,ha,r1,r2⟩⟩:=alls.get' hx
   have ez:=map_at hsd hz
   subst ez
   obtain ⟨sm1,sm2⟩:=sides_sm hsm (List.mem_of_getElem? hsd)
   obtain ⟨c,t,rfl⟩:∃ c t,h=c::t:=by
    cases h with
    | nil=>simp [G.sidesM] at hsd
    | cons c t=>exact ⟨c,t,rfl⟩
   obtain ⟨uc,huc,rc⟩:=hall.at0 (x:=c) rfl
   have hl':=(s1.trans s2) _ _ hl
   have ha':=s2 _ _ ha
   have e:F3 (fun p q r=>V.int (cross p q r)) [uc,x1,x2] H'=some (.int (cross c sd.1 sd.2)):=F3_of (rc.to (same_tup (s1.trans s2))) (r1.to (same_tup s2)) (r2.to (same_tup s2)) (hsm c (by simp)) sm1 sm2
   refine ⟨.int (cross c sd.1 sd.2),?_,hQ _ _ (Same.refl _) rfl⟩
   show fCall gTurn _ [some (.ref l),some (.ref a)] H'=_
   simp only [fCall,fCons,fNil,f2,fVar,fC,gZ,gS,oJ,oB,gIx_l hl',huc,ix20 ha',ix21 ha',e]
  ·refine ⟨D,_,rfl,SqL.of (by rw [h2,all_ints a2]),?_⟩
   exact k H' (s1.trans s2)
theorem scSteps:FnScope ["a","b"] ["a","b"] (defScope sSteps):=⟨rfl,rfl,rfl,by decide +kernel,rfl,by decide +kernel,by decide +kernel⟩
theorem ok_steps (B:Blt mg)(S:Src K mg "steps" sSteps ["a","b"]) (D:Def P w K mg base "common_divisor" 1 ["m","n"] (spP gGcd)):Def P w K mg base "steps" 2 ["a","b"] (spP gSteps):=by
 refine def_ok S scSteps (fun vs H Q E h=>?_) (fun f cdv A outer s H vs Q E hr h=>?_)
 ·obtain ⟨v,h,_⟩:=h
  obtain ⟨a,b,p,q,rfl,_⟩:=of_F2 h
  rfl
 ·obtain ⟨v,h,k⟩:=h
  obtain ⟨va,vb,p,q,rfl,⟨a,rfl,ha⟩,⟨b,rfl,hb⟩,sp,sq,rfl⟩:=of_F2 h
  refine ⟨_,pss_one (ps_ret (pp_def D hr rfl (pq_cons (pp_callB call_abs gAbs_ok rfl B.abs boot_abs (pq_cons (pp_sub (pp_ix (pp 1) pp_int) (pp_ix (pp 0) pp_int)) pq_nil))
   (pq_cons (pp_callB call_abs gAbs_ok rfl B.abs boot_abs (pq_cons (pp_sub (pp_ix (pp 1) pp_int) (pp_ix (pp 0) pp_int)) pq_nil)) pq_nil)))),_,?_,k⟩
  show fCall gGcd _ [some (.ref a),some (.ref b)] H=_
  have e:=gGcd_of (H:=H) (G.absI_nn (q.1-p.1)) (G.absI_nn (q.2-p.2))
  simp only [fCall,fCons,fNil,f2,fVar,fC,gZ,gS,oJ,oB,ix20 ha,ix20 hb,ix21 ha,ix21 hb,gI,gAbs,e]
  rfl
def spRim:Sp:=fun vs H Q _=>∃ v h,vs=[v]/\Ls Rp H v h/\SmL h/\h.length<=1000/\∀ H',Same H H'->Q (.int (G.rimM h)) H'
theorem scRim:FnScope ["corners","side"] ["corners"] (defScope sRim):=⟨rfl,rfl,rfl,by decide +kernel,rfl,by decide +kernel,by decide +kernel⟩
theorem ok_rim (B:Blt mg)(S:Src K mg "rim_count" sRim ["corners"]) (D1:Def P w K mg base "sides_of" 1 ["corners"] spSides) (D2:Def P w K mg base "steps" 2 ["a","b"] (spP gSteps)):Def P w K mg base "rim_count" 3 ["corners"] spRim:=by
 refine def_ok S scRim (fun vs H Q E h=>?_) (fun f cdv A outer s H vs Q E hr h=>?_)
 ·obtain ⟨v,h,rfl,_⟩:=h
  rfl
 ·obtain ⟨v,h,rfl,⟨l,us,rfl,hl,hall⟩,hsm,hlen,k⟩:=h
  have hr1:Room 1 _:=hr.mono (by decide)
  refine ⟨_,pss_cons (ps_if (pt_eq (pp_callB call_len_seq gLen_ok rfl B.len boot_lenH (pq_cons (pp 0) pq_nil)) pp_int) (pss_one (ps_ret pp_int)) pss_nil)
   (pss_cons (ps_if (pt_eq (pp_callB call_len_seq gLen_ok rfl B.len boot_lenH (pq_cons (pp 0) pq_nil)) pp_int) (pss_one (ps_ret (pp_add (pp_def D2 hr rfl (pq_cons (pp_ix (pp 0) pp_int) (pq_cons (pp_ix (pp 0) pp_int) pq_nil))) pp_int))) pss_nil)
   (pss_one (ps_ret (pe_callB (cr_sum rfl) rfl B.sum boot_sum (pa_cons (pe_lc (own:=[("side",1)]) rfl scRim.nd (pi_list (pe_def D1 hr1 rfl (pq_cons (pp 0) pq_nil)))
    (blkOk_by (by show blkC ["corners","side"] (defScope sRim) _ _=true;decide +kernel)) (fun _ _ _ _ _=>pg_name (i:=1) scRim.nd rfl (Or.inl rfl)) (fun _ _ _ _ _=>pts_nil)
    (fun _ _ _ _ _=>pp_def D2 hr rfl (pq_cons (pp_ix (pp 1) pp_int) (pq_cons (pp_ix (pp 1) pp_int) pq_nil)))) pa_nil))))),?_⟩
  have hle:us.length=h.length:=hall.length
  have lenE:∀ n:Int,f2 (gI fun i j=>.bl (decide (i=j))) (fCall gLen (fCons (fVar 0) fNil)) (fC (.int n)) [some (.ref l),none] H=some (.bl (decide ((us.length:Int)=n))):=fun n=>by
   simp only [fCall,fCons,fNil,f2,fVar,fC,gZ,oJ,oB,gLen_l hl,gI]
  have rimE:G.rimM h=if h.length=1 then 1 else if h.length=2 then G.stepsM (h.getD 0 (0,0),h.getD 1 (0,0))+1 else ((G.sidesM h).map G.stepsM).sum:=rfl
  refine ⟨_,lenE 1,ite_bl (fun c=>?_) (fun c=>?_)⟩
  ·have c:=of_decide_eq_true c
   refine ⟨_,rfl,?_⟩
   have:=k H (Same.refl _)
   rw [rimE,if_pos (by omega)] at this
   exact this
  ·have c:=of_decide_eq_false c
   refine ⟨_,lenE 2,ite_bl (fun c2=>?_) (fun c2=>?_)⟩
   ·have c2:=of_decide_eq_true c2
    match h,hle,hall,hsm,k,rimE with
    | [p,q],hle,hall,hsm,k,rimE =>
     obtain ⟨u0,e0,r0⟩:=hall.at0 (x:=p) rfl
     obtain ⟨u1,e1,r1⟩:=hall.at1 (x:=q) rfl
     have e:F2 (fun p q=>V.int (G.stepsM (p,q))) [u0,u1] H=some (.int (G.stepsM (p,q))):=F2_of r0 r1 (hsm p (by simp)) (hsm q (by simp))
     refine ⟨.int (G.stepsM (p,q)+1),?_,?_⟩
     ·show f2 _ (fCall gSteps _) _ [some (.ref l),none] H=_
      simp only [fCall,fCons,fNil,f2,fVar,fC,gZ,oJ,oB,gIx_l hl,e0,e1,e,gI]
     ·have:=k H (Same.refl _)
      rw [rimE,if_neg (by simp),if_pos (by simp)] at this
      exact this
    | [],hle,_,_,_,_=>simp at hle;subst hle;simp at c2
    | [p],hle,_,_,_,_=>simp at hle;omega
    | p::q::r::t,hle,_,_,_,_=>simp at hle;omega
   ·have c2:=of_decide_eq_false c2
    refine ⟨[.ref l],rfl,.ref l,h,rfl,⟨l,us,rfl,hl,hall⟩,hlen,fun H1 u s1 ⟨ls,ss,e,hls,alls⟩=>⟨ls,e,⟨ss,SqL.of hls⟩,fun D hD=>?_⟩⟩
    have le:ss.length=(G.sidesM h).length:=alls.length
    have le2:(G.sidesM h).length=h.length:=by rw [sides_cyc,cyc_len]
    refine lc_map (R':=Ri) tu_i hD (SqL.of hls) ((G.sidesM h).map G.stepsM) (by rw [List.length_map,le]) (by omega) (fun x=>rfl) (fun i x z H' hx hz s2 Q2 hQ=>?_) (fun H' ws s2 h2 a2=>?_)
    ·obtain ⟨sd,hsd,⟨a,x1,x2,rfl,ha,r1,r2⟩⟩:=alls.get' hx
     have ez:=map_at hsd hz
     subst ez
     obtain ⟨sm1,sm2⟩:=sides_sm hsm (List.mem_of_getElem? hsd)
     have ha':=s2 _ _ ha
     have e:F2 (fun p q=>V.int (G.stepsM (p,q))) [x1,x2] H'=some (.int (G.stepsM sd)):=F2_of (r1.to (same_tup s2)) (r2.to (same_tup s2)) sm1 sm2
     refine ⟨.int (G.stepsM sd),?_,hQ _ _ (Same.refl _) rfl⟩
     show fCall gSteps _ [some (.ref l),some (.ref a)] H'=_
     simp only [fCall,fCons,fNil,f2,fVar,fC,gZ,gS,oJ,oB,ix20 ha',ix21 ha',e]
    ·refine ⟨D,_,rfl,SqL.of (by rw [h2,all_ints a2]),?_⟩
     have:=k H' (s1.trans s2)
     rw [rimE,if_neg (by omega),if_neg (by omega)] at this
     exact this
def spInner:Sp:=fun vs H Q _=>∃ v h,vs=[v]/\Ls Rp H v h/\SmL h/\h.length<=1000/\∀ H',Same H H'->Q (.int (G.innerM h)) H'
theorem scInner:FnScope ["corners"] ["corners"] (defScope sInner):=⟨rfl,rfl,rfl,by decide +kernel,rfl,by decide +kernel,by decide +kernel⟩
theorem ok_inner (B:Blt mg)(S:Src K mg "inner_count" sInner ["corners"]) (D1:Def P w K mg base "twice_area" 2 ["corners"] spArea) (D2:Def P w K mg base "rim_count" 3 ["corners"] spRim):Def P w K mg base "inner_count" 4 ["corners"] spInner:=by
 refine def_ok S scInner (fun vs H Q E h=>?_) (fun f cdv A outer s H vs Q E hr h=>?_)
 ·obtain ⟨v,h,rfl,_⟩:=h
  rfl
 ·obtain ⟨v,h,rfl,hL,hsm,hlen,k⟩:=h
  obtain ⟨l,us,rfl,hl,hall⟩:=id hL
  have hr2:Room 2 _:=hr.mono (by decide)
  refine ⟨_,pss_cons (ps_if (pt_lt (pp_callB call_len_seq gLen_ok rfl B.len boot_lenH (pq_cons (pp 0) pq_nil)) pp_int) (pss_one (ps_ret pp_int)) pss_nil)
   (pss_one (ps_ret (pe_op op_fdiv (pe_op op_add (pe_op op_sub (pe_def D1 hr2 rfl (pq_cons (pp 0) pq_nil)) (pe_def D2 hr rfl (pq_cons (pp 0) pq_nil))) pe_int) pe_int))),?_⟩
  have hle:us.length=h.length:=hall.length
  refine ⟨decide ((us.length:Int) < 3),?_,ite_bl (fun c=>?_) (fun c=>?_)⟩
  ·show f2 _ (fCall gLen (fCons (fVar 0) fNil)) (fC (.int 3)) [some (.ref l)] H=_
   simp only [fCall,fCons,fNil,f2,fVar,fC,gZ,oJ,oB,gLen_l hl,gI]
  ·have c:=of_decide_eq_true c
   refine ⟨_,rfl,?_⟩
   have:=k H (Same.refl _)
   unfold G.innerM at this
   rw [if_pos (by omega)] at this
   exact this
  ·have c:=of_decide_eq_false c
   refine ⟨[.ref l],rfl,_,h,rfl,hL,hsm,hlen,fun H1 s1=>⟨[.ref l],rfl,_,h,rfl,hL.same tu_p s1,hsm,hlen,fun H2 s2=>⟨_,_,rfl,rfl,_,_,rfl,rfl,_,_,rfl,rfl,⟨by decide,by decide⟩,?_⟩⟩⟩
   have:=k H2 (s1.trans s2)
   unfold G.innerM at this
   rw [if_neg (by omega)] at this
   exact this
theorem scBetween:FnScope ["low","number","high"] ["low","number","high"] (defScope sBetween):=⟨rfl,rfl,rfl,by decide +kernel,rfl,by decide +kernel,by decide +kernel⟩
theorem ok_between (B:Blt mg)(S:Src K mg "between" sBetween ["low","number","high"]):Def P w K mg base "between" 1 ["low","number","high"] (spP gBetween):=by
 refine def_ok S scBetween (fun vs H Q E h=>?_) (fun f cdv A outer s H vs Q E hr h=>?_)
 ·obtain ⟨v,h,_⟩:=h
  obtain ⟨a,n,b,rfl,_⟩:=of_gBetween h
  rfl
 ·obtain ⟨v,h,k⟩:=h
  obtain ⟨a,n,b,rfl,rfl⟩:=of_gBetween h
  refine ⟨_,pss_one (ps_ret (pe_chain op_le op_le (pp_callB (call_min2 rfl) gMin2_ok rfl B.min boot_min (pq_cons (pp 0) (pq_cons (pp 2) pq_nil))) (pp 1) (pp_callB (call_max2 rfl) gMax2_ok rfl B.max boot_max (pq_cons (pp 0) (pq_cons (pp 2) pq_nil))))),?_⟩
  refine ⟨.int (min a b),rfl,.int n,rfl,_,_,rfl,rfl,_,rfl,ite_bl (fun c=>?_) (fun c=>?_)⟩
  ·rw [c,Bool.true_and] at k
   exact ⟨.int (max a b),rfl,_,_,rfl,rfl,k⟩
  ·rw [c,Bool.false_and] at k
   exact k
theorem scOnWay:FnScope ["a","b","place"] ["a","b","place"] (defScope sOnWay):=⟨rfl,rfl,rfl,by decide +kernel,rfl,by decide +kernel,by decide +kernel⟩
theorem ok_onway (S:Src K mg "on_way" sOnWay ["a","b","place"]) (D1:Def P w K mg base "turn_of" 1 ["a","b","c"] (spP gTurn)) (D2:Def P w K mg base "between" 1 ["low","number","high"] (spP gBetween)):Def P w K mg base "on_way" 2 ["a","b","place"] (spP gOnWay):=by
 refine def_ok S scOnWay (fun vs H Q E h=>?_) (fun f cdv A outer s H vs Q E hr h=>?_)
 ·obtain ⟨v,h,_⟩:=h
  obtain ⟨a,b,c,p,q,r,rfl,_⟩:=of_F3 h
  rfl
 ·obtain ⟨v,h,k⟩:=h
  obtain ⟨va,vb,vc,p,q,r,rfl,ra,rb,rc,sp,sq,sr,rfl⟩:=of_F3 h
  obtain ⟨a,rfl,ha⟩:=id ra
  obtain ⟨b,rfl,hb⟩:=id rb
  obtain ⟨c,rfl,hc⟩:=id rc
  refine ⟨_,pss_cons (ps_if (pt_ne (pp_def D1 hr rfl (pq_cons (pp 0) (pq_cons (pp 1) (pq_cons (pp 2) pq_nil)))) pp_int) (pss_one (ps_ret pp_bl)) pss_nil)
   (pss_one (ps_ret (pe_and (pp_def D2 hr rfl (pq_cons (pp_ix (pp 0) pp_int) (pq_cons (pp_ix (pp 2) pp_int) (pq_cons (pp_ix (pp 1) pp_int) pq_nil))))
    (pe_one (pp_def D2 hr rfl (pq_cons (pp_ix (pp 0) pp_int) (pq_cons (pp_ix (pp 2) pp_int) (pq_cons (pp_ix (pp 1) pp_int) pq_nil)))))))),?_⟩
  have e:F3 (fun p q r=>V.int (cross p q r)) [.ref a,.ref b,.ref c] H=some (.int (cross p q r)):=F3_of ra rb rc sp sq sr
  refine ⟨!decide (cross p q r=0),?_,ite_bl (fun z=>?_) (fun z=>?_)⟩
  ·show f2 _ (fCall gTurn _) _ [some (.ref a),some (.ref b),some (.ref c)] H=_
   simp only [fCall,fCons,fNil,f2,fVar,fC,gZ,gS,oJ,oB,e,gI]
  ·have z:¬ cross p q r=0:=by simpa using z
   refine ⟨_,rfl,?_⟩
   have:G.onWay p q r=false:=by unfold G.onWay;rw [decide_eq_false z];rfl
   rw [this] at k
   exact k
  ·have z:cross p q r=0:=by simpa using z
   refine ⟨.bl (decide (min p.1 q.1<=r.1) && decide (r.1<=max p.1 q.1)),?_,_,rfl,ite_bl (fun c1=>?_) (fun c1=>?_)⟩
   ·show fCall gBetween _ [some (.ref a),some (.ref b),some (.ref c)] H=_
    simp only [fCall,fCons,fNil,f2,fVar,fC,gZ,gS,oJ,oB,ix20 ha,ix20 hb,ix20 hc,gBetween]
   ·refine ⟨.bl (decide (min p.2 q.2<=r.2) && decide (r.2<=max p.2 q.2)),?_,?_⟩
    ·show fCall gBetween _ [some (.ref a),some (.ref b),some (.ref c)] H=_
     simp only [fCall,fCons,fNil,f2,fVar,fC,gZ,gS,oJ,oB,ix21 ha,ix21 hb,ix21 hc,gBetween]
    ·unfold G.onWay at k
     rw [decide_eq_true z,c1,Bool.true_and,Bool.true_and] at k
     exact k
   ·unfold G.onWay at k
    rw [decide_eq_true z,c1] at k
    exact k
end
section
variable {P:Program} {w:World} {K:PySem.W.Frag} {mg:Str->Option Value} {base:Heap}
def spStand:Sp:=fun vs H Q _=>∃ v u h p,vs=[v,u]/\Ls Rp H v h/\Rp H u p/\SmL h/\smP p=true/\h.length<=1000/\∀ H',Same H H'->Q (.int (whereIs h p:Nat)) H'
theorem scStand:FnScope ["corners","place","least","side"] ["corners","place"] (defScope sStand):=⟨rfl,rfl,rfl,by decide +kernel,rfl,by decide +kernel,by decide +kernel⟩
structure Zone (mg:Str->Option Value):Prop where
 out:Con mg "OUTSIDE" (.int 0)
 inn:Con mg "WITHIN" (.int 1)
 rim:Con mg "ON_RIM" (.int 2)
theorem ok_stand (B:Blt mg)(Z:Zone mg)(S:Src K mg "standing" sStand ["corners","place"]) (D1:Def P w K mg base "sides_of" 1 ["corners"] spSides) (D2:Def P w K mg base "turn_of" 1 ["a","b","c"] (spP gTurn)) (D3:Def P w K mg base "on_way" 2 ["a","b","place"] (spP gOnWay)) :
  Def P w K mg base "standing" 3 ["corners","place"] spStand:=by
 refine def_ok S scStand (fun vs H Q E h=>?_) (fun f cdv A outer s H vs Q E hr h=>?_)
 ·obtain ⟨v,u,h,p,rfl,_⟩:=h
  rfl
 ·obtain ⟨v,u,h,p,rfl,⟨l,us,rfl,hl,hall⟩,rp,hsm,smp,hlen,k⟩:=h
  have hr1:Room 1 _:=hr.mono (by decide)
  refine ⟨_,pss_cons (ps_if (pt_eq (pp_callB call_len_seq gLen_ok rfl B.len boot_lenH (pq_cons (pp 0) pq_nil)) pp_int) (pss_one (ps_ret (pp_con Z.out rfl))) pss_nil)
   (pss_cons (ps_if (pt_lt (pp_callB call_len_seq gLen_ok rfl B.len boot_lenH (pq_cons (pp 0) pq_nil)) pp_int)
    (pss_one (ps_ret (pe_ifExp (pt_pure (pp_def D3 hr rfl (pq_cons (pp_ix (pp 0) pp_int) (pq_cons (pp_ix (pp 0) (pp_neg pp_int)) (pq_cons (pp 1) pq_nil))))) (pp_con Z.rim rfl) (pp_con Z.out rfl)))) pss_nil)
   (pss_cons (ps_set (i:=2) scStand.nd rfl (Or.inl rfl) (pe_callB (cr_min rfl) rfl B.min boot_min (pa_cons (pe_lc (own:=[("side",3)]) rfl scStand.nd (pi_list (pe_def D1 hr1 rfl (pq_cons (pp 0) pq_nil)))
    (blkOk_by (by show blkC ["corners","place","least","side"] (defScope sStand) _ _=true;decide +kernel)) (fun _ _ _ _ _=>pg_name (i:=3) scStand.nd rfl (Or.inl rfl)) (fun _ _ _ _ _=>pts_nil)
    (fun _ _ _ _ _=>pp_def D2 hr1 rfl (pq_cons (pp_ix (pp 3) pp_int) (pq_cons (pp_ix (pp 3) pp_int) (pq_cons (pp 1) pq_nil))))) pa_nil)))
   (pss_cons (ps_if (pt_lt (pp 2) pp_int) (pss_one (ps_ret (pp_con Z.out rfl))) pss_nil)
   (pss_one (ps_ret (pe_ifExp (pt_gt (pp 2) pp_int) (pp_con Z.inn rfl) (pp_con Z.rim rfl))))))),?_⟩
  have hle:us.length=h.length:=hall.length
  have lenV:fCall gLen (fCons (fVar 0) fNil) [some (.ref l),some u,none,none] H=some (.int us.length):=by
   simp only [fCall,fCons,fNil,fVar,gZ,oJ,oB,gLen_l hl]
  refine ⟨decide ((us.length:Int)=0),?_,ite_bl (fun c=>?_) (fun c=>?_)⟩
  ·show f2 _ (fCall gLen (fCons (fVar 0) fNil)) (fC (.int 0)) [some (.ref l),some u,none,none] H=_
   simp only [f2,lenV,fC,oB,gI]
  ·have c:=of_decide_eq_true c
   refine ⟨_,rfl,?_⟩
   have:h=[]:=List.length_eq_zero_iff.mp (by omega)
   subst this
   exact k H (Same.refl _)
  ·have c:=of_decide_eq_false c
   refine ⟨decide ((us.length:Int) < 3),?_,ite_bl (fun c2=>?_) (fun c2=>?_)⟩
   ·show f2 _ (fCall gLen (fCons (fVar 0) fNil)) (fC (.int 3)) [some (.ref l),some u,none,none] H=_
    simp only [f2,lenV,fC,oB,gI]
   ·have c2:=of_decide_eq_true c2
    obtain ⟨a,b,h0,hL,he⟩:∃ a b,h[0]?=some a/\h.getLast?=some b/\(if G.onWay a b p=true then 2 else 0)=whereIs h p:=by
     match h,hle with
     | [],hle=>have:us.length=0:=hle;omega
     | [a],_=>exact ⟨a,a,rfl,rfl,G.stand_one a p⟩
     | [a,b],_=>exact ⟨a,b,rfl,rfl,G.stand_two a b p⟩
     | a::b::c::r,hle=>have:us.length=r.length+3:=hle;omega
    obtain ⟨u0,e0,r0⟩:=hall.at0 h0
    obtain ⟨u1,e1,r1⟩:=hall.atL hL
    have e:F3 (fun p q r=>V.bl (G.onWay p q r)) [u0,u1,u] H=some (.bl (G.onWay a b p)):=F3_of r0 r1 rp (hsm a (List.mem_of_getElem? h0)) (hsm b (List.mem_of_getLast? hL)) smp
    have n1:gNeg (.int 1)=some (.int (-1)):=rfl
    refine ⟨G.onWay a b p,?_,ite_bl (fun c3=>?_) (fun c3=>?_)⟩
    ·show fCall gOnWay _ [some (.ref l),some u,none,none] H=_
     simp only [fCall,fCons,fNil,f2,f1,fVar,fC,gZ,gS,oJ,oB,gIx_l hl,n1,e0,e1,e]
    ·refine ⟨_,rfl,?_⟩
     rw [if_pos c3] at he
     have:=k H (Same.refl _)
     rw [<- he] at this
     exact this
    ·refine ⟨_,rfl,?_⟩
     rw [if_neg (by rw [c3];decide)] at he
     have:=k H (Same.refl _)
     rw [<- he] at this
     exact this
   ·have c2:=of_decide_eq_false c2
    have h3:3<=h.length:=by omega
    refine ⟨[.ref l],rfl,.ref l,h,rfl,⟨l,us,rfl,hl,hall⟩,hlen,fun H1 u' s1 ⟨ls,ss,e,hls,alls⟩=>⟨ls,e,⟨ss,SqL.of hls⟩,fun D hD=>?_⟩⟩
    have le:ss.length=(G.sidesM h).length:=alls.length
    have le2:(G.sidesM h).length=h.length:=by rw [sides_cyc,cyc_len]
    refine lc_map (R':=Ri) tu_i hD (SqL.of hls) ((G.sidesM h).map fun s=>cross s.1 s.2 p) (by rw [List.length_map,le]) (by omega) (fun x=>rfl) (fun i x z H' hx hz s2 Q2 hQ=>?_) (fun H' ws s2 h2 a2=>?_)
    ·obtain ⟨sd,hsd,⟨a,x1,x2,rfl,ha,r1,r2⟩⟩:=alls.get' hx
     have ez:=map_at hsd hz
     subst ez
     obtain ⟨sm1,sm2⟩:=sides_sm hsm (List.mem_of_getElem? hsd)
     have ha':=s2 _ _ ha
     have e:F3 (fun p q r=>V.int (cross p q r)) [x1,x2,u] H'=some (.int (cross sd.1 sd.2 p)):=F3_of (r1.to (same_tup s2)) (r2.to (same_tup s2)) (rp.to (same_tup (s1.trans s2))) sm1 sm2 smp
     refine ⟨.int (cross sd.1 sd.2 p),?_,hQ _ _ (Same.refl _) rfl⟩
     show fCall gTurn _ [some (.ref l),some u,none,some (.ref a)] H'=_
     simp only [fCall,fCons,fNil,f2,fVar,fC,gZ,gS,oJ,oB,ix20 ha',ix21 ha',e]
    ·refine ⟨D,_,rfl,SqL.of (by rw [h2,all_ints a2]),by rw [List.length_map];omega,fun m hm hall2=>?_⟩
     have hst:=G.stand_many h3 p hm hall2
     have kk:=k H' (s1.trans s2)
     rw [<- hst] at kk
     refine ⟨decide (m < 0),rfl,ite_bl (fun c3=>?_) (fun c3=>?_)⟩
     ·refine ⟨_,rfl,?_⟩
      rw [if_pos (of_decide_eq_true c3)] at kk
      exact kk
     ·rw [if_neg (of_decide_eq_false c3)] at kk
      refine ⟨decide (0 < m),rfl,ite_bl (fun c4=>?_) (fun c4=>?_)⟩
      ·refine ⟨_,rfl,?_⟩
       rw [if_pos (of_decide_eq_true c4)] at kk
       exact kk
      ·refine ⟨_,rfl,?_⟩
       rw [if_neg (of_decide_eq_false c4)] at kk
       exact kk
def spHolds:Sp:=fun vs H Q _=>∃ v u h p,vs=[v,u]/\Ls Rp H v h/\Rp H u p/\SmL h/\smP p=true/\h.length<=1000/\∀ H',Same H H'->Q (.bl (G.holdsM h p)) H'
theorem scHolds:FnScope ["corners","place"] ["corners","place"] (defScope sHolds):=⟨rfl,rfl,rfl,by decide +kernel,rfl,by decide +kernel,by decide +kernel⟩
theorem ok_holds (Z:Zone mg)(S:Src K mg "holds" sHolds ["corners","place"]) (D1:Def P w K mg base "standing" 3 ["corners","place"] spStand):Def P w K mg base "holds" 4 ["corners","place"] spHolds:=by
 refine def_ok S scHolds (fun vs H Q E h=>?_) (fun f cdv A outer s H vs Q E hr h=>?_)
 ·obtain ⟨v,u,h,p,rfl,_⟩:=h
  rfl
 ·obtain ⟨v,u,h,p,rfl,hL,rp,hsm,smp,hlen,k⟩:=h
  refine ⟨_,pss_one (ps_ret (pe_cmpR op_ne (pe_def D1 hr rfl (pq_cons (pp 0) (pq_cons (pp 1) pq_nil))) (pp_con Z.out rfl) (nomark _))),?_⟩
  refine ⟨[v,u],rfl,v,u,h,p,rfl,hL,rp,hsm,smp,hlen,fun H1 s1=>⟨_,rfl,rfl,?_⟩⟩
  have:=k H1 s1
  have e:G.holdsM h p = !decide (V.int (whereIs h p:Nat)=V.int 0):=by
   unfold G.holdsM
   by_cases q:whereIs h p=0
   ·rw [q];rfl
   ·rw [decide_eq_false (fun z=>q (by injection z with z;omega))]
    simpa using q
  rw [e] at this
  exact this
abbrev sParted:Stmt:=top 24
abbrev sMeeting:Stmt:=top 25
def sdc (H:Hp)(v:V):Option (P2×P2):=match v with
 | .ref a=>match H a with
  | some (.tup [x,y])=>(plc H x).bind fun p=>(plc H y).bind fun q=>some (p,q)
  | _=>none
 | _=>none
theorem sdc_of {H:Hp}{v:V}{s:P2×P2}(h:Rs H v s):sdc H v=some s:=by
 obtain ⟨a,x,y,rfl,h,h1,h2⟩:=h
 unfold sdc
 simp only [h,plc_of h1,plc_of h2,oB]
theorem of_sdc {H:Hp}{v:V}{s:P2×P2}(h:sdc H v=some s):Rs H v s:=by
 unfold sdc at h
 split at h
 ·rename_i a
  split at h
  ·rename_i x y e
   cases h1:plc H x with
   | none=>rw [h1] at h;cases h
   | some p =>
    cases h2:plc H y with
    | none=>rw [h1,h2] at h;cases h
    | some q =>
     rw [h1,h2] at h
     have:(p,q)=s:=Option.some.inj h
     subst this
     exact ⟨a,x,y,rfl,e,of_plc h1,of_plc h2⟩
  ·cases h
 ·cases h
def mdP (p:P2):Bool:=decide (-1000<=p.1/\p.1<=1000) && decide (-1000<=p.2/\p.2<=1000)
theorem mdP_iff {p:P2}:mdP p=true↔(-1000<=p.1/\p.1<=1000)/\(-1000<=p.2/\p.2<=1000):=by
 unfold mdP;rw [Bool.and_eq_true,decide_eq_true_iff,decide_eq_true_iff]
theorem md_sm {p:P2}(h:mdP p=true):smP p=true:=by rw [mdP_iff] at h;rw [smP_iff];omega
theorem mul_bd {a b A B:Int}(ha : -A<=a/\a<=A)(hb : -B<=b/\b<=B) : -(A*B)<=a*b/\a*b<=A*B:=by
 have hA:0<=A:=by omega
 have hB:0<=B:=by omega
 have h1:=Int.mul_nonneg (show 0<=A-a by omega) (show 0<=B-b by omega)
 have h2:=Int.mul_nonneg (show 0<=A+a by omega) (show 0<=B+b by omega)
 have h3:=Int.mul_nonneg (show 0<=A-a by omega) (show 0<=B+b by omega)
 have h4:=Int.mul_nonneg (show 0<=A+a by omega) (show 0<=B-b by omega)
 constructor<;>grind
theorem cross_bd {p q r:P2}(hp:mdP p=true)(hq:mdP q=true)(hr:mdP r=true) : -8000000<=cross p q r/\cross p q r<=8000000:=by
 rw [mdP_iff] at hp hq hr
 have h1:=mul_bd (a:=q.1-p.1) (b:=r.2-p.2) (A:=2000) (B:=2000) (by omega) (by omega)
 have h2:=mul_bd (a:=q.2-p.2) (b:=r.1-p.1) (A:=2000) (B:=2000) (by omega) (by omega)
 unfold cross
 omega
theorem along_bd {p q r:P2}(hp:mdP p=true)(hq:mdP q=true)(hr:mdP r=true) : -8000000<=G.along p q r/\G.along p q r<=8000000:=by
 rw [mdP_iff] at hp hq hr
 have h1:=mul_bd (a:=q.1-p.1) (b:=r.1-p.1) (A:=2000) (B:=2000) (by omega) (by omega)
 have h2:=mul_bd (a:=q.2-p.2) (b:=r.2-p.2) (A:=2000) (B:=2000) (by omega) (by omega)
 unfold G.along
 omega
def mdS (s:P2×P2):Bool:=mdP s.1 && mdP s.2
def gParted (vs:List V)(H:Hp):Option V:=match vs with
 | [u,v]=>(sdc H u).bind fun s=>(sdc H v).bind fun o=>if (mdS s && mdS o)=true then some (.bl (G.parted s o)) else none
 | _=>none
theorem gParted_of {H:Hp}{u v:V}{s o:P2×P2}(h1:Rs H u s)(h2:Rs H v o)(m1:mdS s=true)(m2:mdS o=true):gParted [u,v] H=some (.bl (G.parted s o)):=by
 unfold gParted
 simp only [sdc_of h1,sdc_of h2,oB,m1,m2,Bool.and_self,if_true]
theorem of_gParted {vs:List V}{H:Hp}{r:V}(h:gParted vs H=some r):∃ u v s o,vs=[u,v]/\Rs H u s/\Rs H v o/\mdS s=true/\mdS o=true/\r=.bl (G.parted s o):=by
 unfold gParted at h
 split at h
 ·rename_i u v
  cases h1:sdc H u with
  | none=>rw [h1] at h;cases h
  | some s =>
   cases h2:sdc H v with
   | none=>rw [h1,h2] at h;cases h
   | some o =>
    rw [h1,h2] at h
    simp only [oB] at h
    split at h
    ·rename_i k
     rw [Bool.and_eq_true] at k
     exact ⟨u,v,s,o,rfl,of_sdc h1,of_sdc h2,k.1,k.2,(Option.some.inj h).symm⟩
    ·cases h
 ·cases h
theorem mdS_iff {s:P2×P2}:mdS s=true↔mdP s.1=true/\mdP s.2=true:=by unfold mdS;rw [Bool.and_eq_true]
theorem scParted:FnScope ["side","places","one","other"] ["side","places"] (defScope sParted):=⟨rfl,rfl,rfl,by decide +kernel,rfl,by decide +kernel,by decide +kernel⟩
theorem ok_parted (S:Src K mg "parted" sParted ["side","places"]) (D:Def P w K mg base "turn_of" 1 ["a","b","c"] (spP gTurn)):Def P w K mg base "parted" 2 ["side","places"] (spP gParted):=by
 refine def_ok S scParted (fun vs H Q E h=>?_) (fun f cdv A outer s H vs Q E hr h=>?_)
 ·obtain ⟨v,h,_⟩:=h
  obtain ⟨u,v,s,o,rfl,_⟩:=of_gParted h
  rfl
 ·obtain ⟨r,h,k⟩:=h
  obtain ⟨u,v,sd,o,rfl,⟨a,x,y,rfl,ha,rx,ry⟩,⟨b,x',y',rfl,hb,rx',ry'⟩,m1,m2,rfl⟩:=of_gParted h
  rw [mdS_iff] at m1 m2
  refine ⟨_,pss_cons (ps_set (i:=2) scParted.nd rfl (Or.inl rfl) (pp_def D hr rfl (pq_cons (pp_ix (pp 0) pp_int) (pq_cons (pp_ix (pp 0) pp_int) (pq_cons (pp_ix (pp 1) pp_int) pq_nil)))))
   (pss_cons (ps_set (i:=3) scParted.nd rfl (Or.inl rfl) (pp_def D hr rfl (pq_cons (pp_ix (pp 0) pp_int) (pq_cons (pp_ix (pp 0) pp_int) (pq_cons (pp_ix (pp 1) pp_int) pq_nil)))))
   (pss_one (ps_ret (pp_lt (pp_mul (pp 2) (pp 3)) pp_int)))),?_⟩
  have e1:F3 (fun p q r=>V.int (cross p q r)) [x,y,x'] H=some (.int (cross sd.1 sd.2 o.1)):=F3_of rx ry rx' (md_sm m1.1) (md_sm m1.2) (md_sm m2.1)
  have e2:F3 (fun p q r=>V.int (cross p q r)) [x,y,y'] H=some (.int (cross sd.1 sd.2 o.2)):=F3_of rx ry ry' (md_sm m1.1) (md_sm m1.2) (md_sm m2.2)
  have c1:=cross_bd m1.1 m1.2 m2.1
  have e3:smallC (cross sd.1 sd.2 o.1) (cross sd.1 sd.2 o.2)=true:=mulc (by omega)
  refine ⟨.int (cross sd.1 sd.2 o.1),?_,.int (cross sd.1 sd.2 o.2),?_,_,?_,k⟩
  ·show fCall gTurn _ [some (.ref a),some (.ref b),none,none] H=_
   simp only [fCall,fCons,fNil,f2,fVar,fC,gZ,gS,oJ,oB,ix20 ha,ix21 ha,ix20 hb,e1]
  ·show fCall gTurn _ [some (.ref a),some (.ref b),some _,none] H=_
   simp only [fCall,fCons,fNil,f2,fVar,fC,gZ,gS,oJ,oB,ix20 ha,ix21 ha,ix21 hb,e2]
  ·show f2 _ _ _ [some (.ref a),some (.ref b),some (.int (cross sd.1 sd.2 o.1)),some (.int (cross sd.1 sd.2 o.2))] H=_
   simp only [f2,fVar,fC,gZ,gS,oJ,oB,gI,gIc,e3,if_true]
   rfl
end
def MdL (ps:List P2):Prop:=∀ p∈ps,mdP p=true
theorem MdL.sm {ps:List P2}(h:MdL ps):SmL ps:=fun p hp=>md_sm (h p hp)
theorem sides_md {h:List P2}(hs:MdL h){e:P2×P2}(he:e∈G.sidesM h):mdS e=true:=by
 have:=G.cycM_mem (l:=h) he
 exact mdS_iff.mpr ⟨hs _ this.1,hs _ this.2⟩
abbrev sWay:Stmt:=top 26
abbrev sWays:Stmt:=top 27
abbrev sGapSq:Stmt:=top 28
theorem any_take_snoc {α:Type}{q:α->Bool}{l:List α}{i:Nat}{x:α}(hx:l[i]?=some x)(h:∀ y∈l.take i,q y=false)(hq:q x=false):∀ y∈l.take (i+1),q y=false:=fun y hy=>by
 rw [take_snoc hx,List.mem_append] at hy
 rcases hy with hy | hy
 ·exact h y hy
 ·rw [List.mem_singleton.mp hy];exact hq
theorem any_none {α:Type}{q:α->Bool}{l:List α}(h:∀ y∈l,q y=false):l.any q=false:=by
 rw [List.any_eq_false];intro y hy;rw [h y hy];decide
theorem any_some {α:Type}{q:α->Bool}{l:List α}{i:Nat}{x:α}(hx:l[i]?=some x)(hq:q x=true):l.any q=true:=List.any_eq_true.mpr ⟨x,List.mem_of_getElem? hx,hq⟩
section
variable {P:Program} {w:World} {K:PySem.W.Frag} {mg:Str->Option Value} {base:Heap}
def spMeeting:Sp:=fun vs H Q _=>∃ v u a b,vs=[v,u]/\Ls Rp H v a/\Ls Rp H u b/\MdL a/\MdL b/\a.length<=1000/\b.length<=1000/\∀ H',Same H H'->Q (.bl (G.meetM a b)) H'
theorem scMeeting:FnScope ["corners","others","place","side","other"] ["corners","others"] (defScope sMeeting):=⟨rfl,rfl,rfl,by decide +kernel,rfl,by decide +kernel,by decide +kernel⟩
theorem ok_meeting (S:Src K mg "meeting" sMeeting ["corners","others"]) (D1:Def P w K mg base "holds" 4 ["corners","place"] spHolds) (D2:Def P w K mg base "sides_of" 1 ["corners"] spSides) (D3:Def P w K mg base "parted" 2 ["side","places"] (spP gParted)) :
  Def P w K mg base "meeting" 5 ["corners","others"] spMeeting:=by
 refine def_ok S scMeeting (fun vs H Q E h=>?_) (fun f cdv A outer s H vs Q E hr h=>?_)
 ·obtain ⟨v,u,a,b,rfl,_⟩:=h
  rfl
 ·obtain ⟨v,u,a,b,rfl,hA,hB,ma,mb,la,lb,k⟩:=h
  obtain ⟨l1,us1,rfl,hl1,all1⟩:=id hA
  obtain ⟨l2,us2,rfl,hl2,all2⟩:=id hB
  have hr1:Room 1 _:=hr.mono (by decide)
  have hr2:Room 2 _:=hr.mono (by decide)
  refine ⟨_,pss_cons (ps_for PassesOwn.never rfl (pi_list (pp 0)) (pg_name (i:=2) scMeeting.nd rfl (Or.inl rfl)) (pss_one (ps_if (pt_val (pe_def D1 hr rfl (pq_cons (pp 1) (pq_cons (pp 2) pq_nil)))) (pss_one (ps_ret pp_bl)) pss_nil)))
   (pss_cons (ps_for PassesOwn.never rfl (pi_list (pp 1)) (pg_name (i:=2) scMeeting.nd rfl (Or.inl rfl)) (pss_one (ps_if (pt_val (pe_def D1 hr rfl (pq_cons (pp 0) (pq_cons (pp 2) pq_nil)))) (pss_one (ps_ret pp_bl)) pss_nil)))
   (pss_cons (ps_for PassesOwn.never rfl (pi_list (pe_def D2 hr1 rfl (pq_cons (pp 0) pq_nil))) (pg_name (i:=3) scMeeting.nd rfl (Or.inl rfl))
    (pss_one (ps_for PassesOwn.never rfl (pi_list (pe_def D2 hr1 rfl (pq_cons (pp 1) pq_nil))) (pg_name (i:=4) scMeeting.nd rfl (Or.inl rfl))
     (pss_one (ps_if (PW.pt (pw_and (pt_pure (pp_def D3 hr2 rfl (pq_cons (pp 3) (pq_cons (pp 4) pq_nil)))) (pw_and1 (pt_pure (pp_def D3 hr2 rfl (pq_cons (pp 4) (pq_cons (pp 3) pq_nil))))))) (pss_one (ps_ret pp_bl)) pss_nil)))))
   (pss_one (ps_ret pp_bl)))),?_⟩
  refine ⟨_,rfl,l1,rfl,⟨_,SqL.of hl1⟩,for_list (K:=K) (a:=l1) (xs:=us1) (fun i σ H'=>(∃ v2:Option V,σ=[some (.ref l1),some (.ref l2),v2,none,none])/\Same H H'/\∀ p∈a.take i,G.holdsM b p=false)
   ⟨⟨none,rfl⟩,Same.refl _,by simp⟩ (fun i σ H' _ ⟨_,s5,_⟩=>SqL.of (s5 _ _ hl1)) ?_ ?_⟩
  ·rintro i y σ H' hi ⟨⟨v2,rfl⟩,s1,n1⟩
   obtain ⟨p,hp,rp⟩:=all1.get' hi
   refine ⟨[.ref l2,y],rfl,.ref l2,y,b,p,rfl,hB.same tu_p s1,rp.to (same_tup s1),mb.sm,md_sm (ma p (List.mem_of_getElem? hp)),lb,fun H2 s2=>⟨_,rfl,ite_bl (fun c=>?_) (fun c=>?_)⟩⟩
   ·refine ⟨_,rfl,?_⟩
    have:=k H2 (s1.trans s2)
    have e:G.meetM a b=true:=by unfold G.meetM;rw [any_some hp c];rfl
    rw [e] at this
    exact this
   ·exact ⟨⟨some y,rfl⟩,s1.trans s2,any_take_snoc hp n1 c⟩
  ·rintro σ H' ⟨⟨v2,rfl⟩,s1,n1⟩
   rw [all1.length,List.take_length] at n1
   have f1:=any_none n1
   refine ⟨_,rfl,l2,rfl,⟨_,SqL.of (s1 _ _ hl2)⟩,for_list (K:=K) (a:=l2) (xs:=us2) (fun i σ H2=>(∃ v2:Option V,σ=[some (.ref l1),some (.ref l2),v2,none,none])/\Same H H2/\∀ p∈b.take i,G.holdsM a p=false)
    ⟨⟨v2,rfl⟩,s1,by simp⟩ (fun i σ H' _ ⟨_,s5,_⟩=>SqL.of (s5 _ _ hl2)) ?_ ?_⟩
   ·rintro i y σ H' hi ⟨⟨v2,rfl⟩,s1,n2⟩
    obtain ⟨p,hp,rp⟩:=all2.get' hi
    refine ⟨[.ref l1,y],rfl,.ref l1,y,a,p,rfl,hA.same tu_p s1,rp.to (same_tup s1),ma.sm,md_sm (mb p (List.mem_of_getElem? hp)),la,fun H2 s2=>⟨_,rfl,ite_bl (fun c=>?_) (fun c=>?_)⟩⟩
    ·refine ⟨_,rfl,?_⟩
     have:=k H2 (s1.trans s2)
     have e:G.meetM a b=true:=by unfold G.meetM;rw [any_some hp c,Bool.or_true];rfl
     rw [e] at this
     exact this
    ·exact ⟨⟨some y,rfl⟩,s1.trans s2,any_take_snoc hp n2 c⟩
   ·rintro σ H' ⟨⟨v2,rfl⟩,s1,n2⟩
    rw [all2.length,List.take_length] at n2
    have f2:=any_none n2
    refine ⟨[.ref l1],rfl,.ref l1,a,rfl,hA.same tu_p s1,la,fun H1 u' t1 ⟨ls,ss,e,hls,alls⟩=>⟨ls,e,⟨ss,SqL.of hls⟩,?_⟩⟩
    refine for_list (K:=K) (a:=ls) (xs:=ss) (fun i σ H2=>(∃ v3 v4:Option V,σ=[some (.ref l1),some (.ref l2),v2,v3,v4])/\Same H1 H2/\∀ s∈(G.sidesM a).take i,(G.sidesM b).any (fun o=>G.parted s o && G.parted o s)=false)
     ⟨⟨none,none,rfl⟩,Same.refl _,by simp⟩ (fun i σ H' _ ⟨_,s5,_⟩=>SqL.of (s5 _ _ hls)) ?_ ?_
    ·rintro i y σ H2 hi ⟨⟨v3,v4,rfl⟩,s2,n3⟩
     obtain ⟨sd,hsd,rs⟩:=alls.get' hi
     have msd:=sides_md ma (List.mem_of_getElem? hsd)
     refine ⟨[.ref l2],rfl,.ref l2,b,rfl,hB.same tu_p ((s1.trans t1).trans s2),lb,fun H3 u'' t3 ⟨ls',ss',e',hls',alls'⟩=>⟨ls',e',⟨ss',SqL.of hls'⟩,?_⟩⟩
     refine for_list (K:=K) (a:=ls') (xs:=ss') (fun j σ H4=>(∃ v4:Option V,σ=[some (.ref l1),some (.ref l2),v2,some y,v4])/\Same H3 H4/\∀ o∈(G.sidesM b).take j,(G.parted sd o && G.parted o sd)=false)
      ⟨⟨v4,rfl⟩,Same.refl _,by simp⟩ (fun i σ H' _ ⟨_,s5,_⟩=>SqL.of (s5 _ _ hls')) ?_ ?_
     ·rintro j z σ H4 hj ⟨⟨v4,rfl⟩,s4,n4⟩
      obtain ⟨o,ho,ro⟩:=alls'.get' hj
      have mo:=sides_md mb (List.mem_of_getElem? ho)
      have rs4:=(rs.to (same_tup ((s2.trans t3).trans s4)))
      have ro4:=ro.to (same_tup s4)
      refine ⟨G.parted sd o,gParted_of rs4 ro4 msd mo,ite_bl (fun c=>?_) (fun c=>?_)⟩
      ·refine ⟨G.parted o sd,gParted_of ro4 rs4 mo msd,ite_bl (fun c2=>?_) (fun c2=>?_)⟩
       ·refine ⟨_,rfl,?_⟩
        have:=k H4 ((((s1.trans t1).trans s2).trans t3).trans s4)
        have e:G.meetM a b=true:=by
         unfold G.meetM
         rw [any_some hsd (any_some ho (by rw [c,c2];rfl)),Bool.or_true]
        rw [e] at this
        exact this
       ·exact ⟨⟨some z,rfl⟩,s4,any_take_snoc ho n4 (by rw [c2,Bool.and_false])⟩
      ·show if false=true then _ else _
       rw [if_neg (by decide)]
       exact ⟨⟨some z,rfl⟩,s4,any_take_snoc ho n4 (by rw [c,Bool.false_and])⟩
     ·rintro σ H4 ⟨⟨v4,rfl⟩,s4,n4⟩
      rw [alls'.length,List.take_length] at n4
      exact ⟨⟨some y,v4,rfl⟩,(s2.trans t3).trans s4,any_take_snoc hsd n3 (any_none n4)⟩
    ·rintro σ H2 ⟨⟨v3,v4,rfl⟩,s2,n3⟩
     rw [alls.length,List.take_length] at n3
     refine ⟨_,rfl,?_⟩
     have:=k H2 ((s1.trans t1).trans s2)
     have e:G.meetM a b=false:=by
      unfold G.meetM
      rw [f1,f2,any_none n3];rfl
     rw [e] at this
     exact this
end
section
variable {X:Cx} {a b:Expr} {fa fb:FE} {pos:Pos}
def powC (i j:Int):Bool:=decide (0<=j/\j<=1000000) && decide (i.natAbs < 2 ^ 64)
theorem gPow_ok:∀ x y H v (Q:VK),gIc powC (fun i j=>.int (i ^ j.toNat)) x y H=some v->Q v H->rI CPow (fun i j=>.int (i ^ j.toNat)) x y H Q:=fun x y H v Q h q=>by
 obtain ⟨i,j,rfl,rfl,c,rfl⟩:=gIc_get h
 unfold powC at c
 rw [Bool.and_eq_true,decide_eq_true_iff,decide_eq_true_iff] at c
 exact ⟨i,j,rfl,rfl,⟨c.1.1,c.1.2,c.2⟩,q⟩
theorem pp_pow (ha:PE X a (tP fa))(hb:PE X b (tP fb)):PE X (.BinOp a .Pow b pos) (tP (f2 (gIc powC fun i j=>.int (i ^ j.toNat)) fa fb)):=pp_op op_pow gPow_ok ha hb
end
theorem way_bd {s:P2×P2}{p:P2}(hs:mdS s=true)(hp:mdP p=true):(0<=(G.wayM s p).1/\(G.wayM s p).1<=64000000000000)/\(0 < (G.wayM s p).2/\(G.wayM s p).2<=8000000):=by
 rw [mdS_iff] at hs
 have nn:∀ a b:P2,0<=G.along a b b:=fun a b=>by
  have:=G.sq_nn (b.1-a.1)
  have:=G.sq_nn (b.2-a.2)
  unfold G.along;omega
 have b1:=along_bd hs.1 hp hp
 have b2:=along_bd hs.2 hp hp
 have b3:=along_bd hs.1 hs.2 hs.2
 have b4:=cross_bd hs.1 hs.2 hp
 have n1:=nn s.1 p
 have n2:=nn s.2 p
 unfold G.wayM
 split
 ·simp only;omega
 ·split
  ·simp only;omega
  ·have sq:cross s.1 s.2 p ^ 2=cross s.1 s.2 p*cross s.1 s.2 p:=by rw [Int.pow_succ,Int.pow_succ,Int.pow_zero,Int.one_mul]
   have m:=mul_bd (A:=8000000) (B:=8000000) b4 b4
   have m0:=G.sq_nn (cross s.1 s.2 p)
   simp only [sq]
   omega
section
variable {P:Program} {w:World} {K:PySem.W.Frag} {mg:Str->Option Value} {base:Heap}
def spWay:Sp:=fun vs H Q _=>∃ u v s p,vs=[u,v]/\Rs H u s/\Rp H v p/\mdS s=true/\mdP p=true/\∀ q,H q=none->Q (.ref q) (upd H q (.tup [.int (G.wayM s p).1,.int (G.wayM s p).2]))
theorem scWay:FnScope ["side","place","a","b","foot","length"] ["side","place"] (defScope sWay):=⟨rfl,rfl,rfl,by decide +kernel,rfl,by decide +kernel,by decide +kernel⟩
theorem ok_way (S:Src K mg "way_square" sWay ["side","place"]) (D1:Def P w K mg base "along" 1 ["a","b","c"] (spP gAlong)) (D2:Def P w K mg base "square" 2 ["a","b"] (spP gSquare)) (D3:Def P w K mg base "turn_of" 1 ["a","b","c"] (spP gTurn)):Def P w K mg base "way_square" 3 ["side","place"] spWay:=by
 refine def_ok S scWay (fun vs H Q E h=>?_) (fun f cdv A outer s H vs Q E hr h=>?_)
 ·obtain ⟨u,v,s,p,rfl,_⟩:=h
  rfl
 ·obtain ⟨u,v,sd,p,rfl,⟨x,va,vb,rfl,hx,ra,rb⟩,rp,ms,mp,k⟩:=h
  have ms':=mdS_iff.mp ms
  have hr1:Room 1 _:=hr.mono (by decide)
  refine ⟨_,pss_cons (ps_set (i:=2) scWay.nd rfl (Or.inl rfl) (pp_ix (pp 0) pp_int)) (pss_cons (ps_set (i:=3) scWay.nd rfl (Or.inl rfl) (pp_ix (pp 0) pp_int))
   (pss_cons (ps_set (i:=4) scWay.nd rfl (Or.inl rfl) (pp_def D1 hr1 rfl (pq_cons (pp 2) (pq_cons (pp 3) (pq_cons (pp 1) pq_nil)))))
   (pss_cons (ps_set (i:=5) scWay.nd rfl (Or.inl rfl) (pp_def D2 hr rfl (pq_cons (pp 2) (pq_cons (pp 3) pq_nil))))
   (pss_cons (ps_if (pt_le (pp 4) pp_int) (pss_one (ps_ret (pe_tup (pq_cons (pp_def D2 hr rfl (pq_cons (pp 2) (pq_cons (pp 1) pq_nil))) (pq_cons pp_int pq_nil))))) pss_nil)
   (pss_cons (ps_if (pt_ge (pp 4) (pp 5)) (pss_one (ps_ret (pe_tup (pq_cons (pp_def D2 hr rfl (pq_cons (pp 3) (pq_cons (pp 1) pq_nil))) (pq_cons pp_int pq_nil))))) pss_nil)
   (pss_one (ps_ret (pe_tup (pq_cons (pp_pow (pp_def D3 hr1 rfl (pq_cons (pp 2) (pq_cons (pp 3) (pq_cons (pp 1) pq_nil)))) pp_int) (pq_cons (pp 5) pq_nil)))))))))),?_⟩
  have e1:F3 (fun p q r=>V.int (G.along p q r)) [va,vb,v] H=some (.int (G.along sd.1 sd.2 p)):=F3_of ra rb rp (md_sm ms'.1) (md_sm ms'.2) (md_sm mp)
  have e2:F2 (fun p q=>V.int (G.along p q q)) [va,vb] H=some (.int (G.along sd.1 sd.2 sd.2)):=F2_of ra rb (md_sm ms'.1) (md_sm ms'.2)
  refine ⟨va,by show f2 _ _ _ [some (.ref x),some v,none,none,none,none] H=_;simp only [f2,fVar,fC,gZ,oJ,oB,ix20 hx],
   vb,by show f2 _ _ _ [some (.ref x),some v,some va,none,none,none] H=_;simp only [f2,fVar,fC,gZ,oJ,oB,ix21 hx],
   _,e1,_,e2,_,rfl,ite_bl (fun c=>?_) (fun c=>?_)⟩
  ·have c:=of_decide_eq_true c
   have e3:F2 (fun p q=>V.int (G.along p q q)) [va,v] H=some (.int (G.along sd.1 p p)):=F2_of ra rp (md_sm ms'.1) (md_sm mp)
   refine ⟨[.int (G.along sd.1 p p),.int 1],?_,(by show 2<=sizeLine;decide),fun q hq=>?_⟩
   ·show fCons (fCall gSquare _) _ [some (.ref x),some v,some va,some vb,_,_] H=_
    simp only [fCall,fCons,fNil,fVar,fC,gZ,gS,oJ,oB,e3]
   ·have:=k q hq
    unfold G.wayM at this
    rw [if_pos c] at this
    exact this
  ·have c:=of_decide_eq_false c
   refine ⟨_,rfl,ite_bl (fun c2=>?_) (fun c2=>?_)⟩
   ·have c2:=of_decide_eq_true c2
    have e3:F2 (fun p q=>V.int (G.along p q q)) [vb,v] H=some (.int (G.along sd.2 p p)):=F2_of rb rp (md_sm ms'.2) (md_sm mp)
    refine ⟨[.int (G.along sd.2 p p),.int 1],?_,(by show 2<=sizeLine;decide),fun q hq=>?_⟩
    ·show fCons (fCall gSquare _) _ [some (.ref x),some v,some va,some vb,_,_] H=_
     simp only [fCall,fCons,fNil,fVar,fC,gZ,gS,oJ,oB,e3]
    ·have:=k q hq
     unfold G.wayM at this
     rw [if_neg c,if_pos c2] at this
     exact this
   ·have c2:=of_decide_eq_false c2
    have e3:F3 (fun p q r=>V.int (cross p q r)) [va,vb,v] H=some (.int (cross sd.1 sd.2 p)):=F3_of ra rb rp (md_sm ms'.1) (md_sm ms'.2) (md_sm mp)
    have b4:=cross_bd ms'.1 ms'.2 mp
    have e4:powC (cross sd.1 sd.2 p) 2=true:=by
     unfold powC
     rw [Bool.and_eq_true,decide_eq_true_iff,decide_eq_true_iff]
     omega
    refine ⟨[.int (cross sd.1 sd.2 p ^ 2),.int (G.along sd.1 sd.2 sd.2)],?_,(by show 2<=sizeLine;decide),fun q hq=>?_⟩
    ·show fCons (f2 _ (fCall gTurn _) _) _ [some (.ref x),some v,some va,some vb,some (.int (G.along sd.1 sd.2 p)),some (.int (G.along sd.1 sd.2 sd.2))] H=_
     simp only [fCall,fCons,fNil,f2,fVar,fC,gZ,gS,oJ,oB,e3,gIc,e4,if_true]
     rfl
    ·have:=k q hq
     unfold G.wayM at this
     rw [if_neg c,if_neg c2] at this
     exact this
def spWays:Sp:=fun vs H Q _=>∃ v u a b,vs=[v,u]/\Ls Rp H v a/\Ls Rp H u b/\MdL a/\MdL b/\a.length<=1000/\b.length<=1000/\∀ H' z,Same H H'->Ls Rp H' z (G.waysM a b)->Q z H'
theorem scWays:FnScope ["corners","others","squares","place","side"] ["corners","others"] (defScope sWays):=⟨rfl,rfl,rfl,by decide +kernel,rfl,by decide +kernel,by decide +kernel⟩
theorem ok_ways (S:Src K mg "way_squares" sWays ["corners","others"]) (D1:Def P w K mg base "sides_of" 1 ["corners"] spSides) (D2:Def P w K mg base "way_square" 3 ["side","place"] spWay):Def P w K mg base "way_squares" 4 ["corners","others"] spWays:=by
 refine def_ok S scWays (fun vs H Q E h=>?_) (fun f cdv A outer s H vs Q E hr h=>?_)
 ·obtain ⟨v,u,a,b,rfl,_⟩:=h
  rfl
 ·obtain ⟨v,u,a,b,rfl,hA,hB,ma,mb,la,lb,k⟩:=h
  obtain ⟨l1,us1,rfl,hl1,all1⟩:=id hA
  obtain ⟨l2,us2,rfl,hl2,all2⟩:=id hB
  have hr1:Room 1 _:=hr.mono (by decide)
  refine ⟨_,pss_cons (ps_set (i:=2) scWays.nd rfl (Or.inl rfl) (pe_lst pq_nil))
   (pss_cons (ps_for PassesOwn.never rfl (pi_list (pp 0)) (pg_name (i:=3) scWays.nd rfl (Or.inr rfl))
    (pss_one (ps_expr (pe_bm PySem.F.plainAttrs_list PySem.F.slot_list_extend PySem.F.type_list_extend mt_extend (pp 2) (pa_cons (pe_lc (own:=[("side",4)]) rfl scWays.nd (pi_list (pe_def D1 hr1 rfl (pq_cons (pp 1) pq_nil)))
     (blkOk_by (by show blkC ["corners","others","squares","place","side"] (defScope sWays) _ _=true;decide +kernel)) (fun _ _ _ _ _=>pg_name (i:=4) scWays.nd rfl (Or.inl rfl)) (fun _ _ _ _ _=>pts_nil)
     (fun _ _ _ _ _=>pe_def D2 hr rfl (pq_cons (pp 4) (pq_cons (pp 3) pq_nil)))) pa_nil)))))
   (pss_one (ps_ret (pp 2)))),?_⟩
  refine ⟨[],rfl,Nat.zero_le _,fun q hq=>?_⟩
  have s0:Same H (upd H q (.lst [])):=same_new hq
  refine ⟨_,rfl,l1,rfl,⟨_,SqL.of (s0 _ _ hl1)⟩,for_list (K:=K) (a:=l1) (xs:=us1) (fun i σ H'=>∃ (v3 v4:Option V) (ws:List V),σ=[some (.ref l1),some (.ref l2),some (.ref q),v3,v4]/\Same H H'/\H' q=some (.lst ws)/\All (Rp H') ws (G.waysM (a.take i) b))
   ⟨none,none,[],rfl,s0,upd_same,.nil⟩ (fun i σ H' _ ⟨_,_,_,_,s5,_⟩=>SqL.of (s5 _ _ hl1)) ?_ ?_⟩
  ·rintro i y σ H' hi ⟨v3,v4,ws,rfl,s1,h1,a1⟩
   obtain ⟨p,hp,rp⟩:=all1.get' hi
   have mp:=ma p (List.mem_of_getElem? hp)
   refine ⟨.ref q,rfl,.inl ⟨rfl,_,SqL.of h1⟩,[.ref l2],rfl,.ref l2,b,rfl,hB.same tu_p s1,lb,fun H1 u' t1 ⟨ls,ss,e,hls,alls⟩=>⟨ls,e,⟨ss,SqL.of hls⟩,fun D hD=>?_⟩⟩
   have le:ss.length=(G.sidesM b).length:=alls.length
   have le2:(G.sidesM b).length=b.length:=by rw [sides_cyc,cyc_len]
   refine lc_map (R':=Rp) tu_p hD (SqL.of hls) ((G.sidesM b).map fun s=>G.wayM s p) (by rw [List.length_map,le]) (by omega) (fun x=>rfl) (fun j x z H2 hx hz s2 Q2 hQ=>?_) (fun H2 ws2 s2 h2 a2=>?_)
   ·obtain ⟨sd,hsd,rs⟩:=alls.get' hx
    have ez:=map_at hsd hz
    subst ez
    refine ⟨[x,y],rfl,x,y,sd,p,rfl,rs.to (same_tup s2),rp.to (same_tup ((s1.trans t1).trans s2)),sides_md mb (List.mem_of_getElem? hsd),mp,fun r hr=>?_⟩
    exact hQ _ _ (same_new hr) ⟨r,rfl,upd_same⟩
   ·have hq2:H2 q=some (.lst ws):=s2 _ _ (t1 _ _ h1)
    have st:STup H' H2:=same_tup (t1.trans s2)
    have lw:ws.length<=1000000:=by
     have:=a1.length
     have lx:(G.waysM (a.take i) b).length<=1000*1000:=by
      have hb:∀ c:List P2,(G.waysM c b).length=c.length*b.length:=fun c=>by
       unfold G.waysM
       induction c with
       | nil=>simp
       | cons x c ih=>rw [List.flatMap_cons,List.length_append,ih,List.length_map,le2,List.length_cons,Nat.add_mul];omega
      rw [hb]
      exact Nat.mul_le_mul (by rw [List.length_take];omega) lb
     omega
    have lw2:ws2.length<=1000:=by
     have:=a2.length
     rw [List.length_map] at this
     omega
    refine ⟨q,D,ws,ws2,rfl,rfl,hq2,h2,?_,?_⟩
    ·have:ws.length+ws2.length<=1001000:=by omega
     exact Nat.le_trans this (by decide)
    ·refine ⟨some y,v4,ws++ws2,rfl,same_upd ((s1.trans t1).trans s2) hq,upd_same,?_⟩
     have e3:G.waysM (a.take (i+1)) b=G.waysM (a.take i) b++(G.sidesM b).map fun s=>G.wayM s p:=by
      unfold G.waysM
      rw [take_snoc hp,List.flatMap_append]
      simp
     rw [e3]
     exact ((a1.imp fun _ _ z=>tu_p _ _ _ _ z st).append a2).imp fun _ _ z=>tu_p _ _ _ _ z (stup_upd hq2)
  ·rintro σ H' ⟨v3,v4,ws,rfl,s1,h1,a1⟩
   rw [all1.length,List.take_length] at a1
   exact ⟨.ref q,rfl,k H' _ s1 ⟨q,ws,rfl,h1,a1⟩⟩
end
end HR
namespace HR
open PySem PySem.Spec PyProof.Rows L2
open Vbecap (cross push hull edges whereIs frac lessF)
def FrB (f:P2):Prop:=(0<=f.1/\f.1<=64000000000000)/\(0 < f.2/\f.2<=8000000)
theorem ways_bd {a b:List P2}(ma:MdL a)(mb:MdL b):∀ f∈G.waysM a b,FrB f:=fun f hf=>by
 rw [G.mem_ways] at hf
 obtain ⟨p,hp,s,hs,rfl⟩:=hf
 exact way_bd (sides_md mb (G.mem_sides.mpr hs)) (ma p hp)
theorem ways_ne {a b:List P2}(ha:a≠[])(hb:b≠[]):G.waysM a b≠[]:=by
 obtain ⟨p,hp⟩:=List.exists_mem_of_ne_nil _ ha
 obtain ⟨e,he⟩:=List.exists_mem_of_ne_nil _ (G.edges_ne hb)
 intro q
 have:G.wayM e p∈G.waysM a b:=G.mem_ways.mpr ⟨p,hp,e,he,rfl⟩
 rw [q] at this;simp at this
section
variable {P:Program} {w:World} {K:PySem.W.Frag} {mg:Str->Option Value} {base:Heap}
def spGapSq:Sp:=fun vs H Q _=>∃ v u a b,vs=[v,u]/\Ls Rp H v a/\Ls Rp H u b/\MdL a/\MdL b/\a.length<=1000/\b.length<=1000/\a≠[]/\b≠[]/\∀ H' z,Same H H'->Rp H' z (G.gapM a b)->Q z H'
theorem scGapSq:FnScope ["corners","others","squares","least","candidate"] ["corners","others"] (defScope sGapSq):=⟨rfl,rfl,rfl,by decide +kernel,rfl,by decide +kernel,by decide +kernel⟩
theorem ok_gapsq (S:Src K mg "gap_square" sGapSq ["corners","others"]) (D1:Def P w K mg base "meeting" 5 ["corners","others"] spMeeting) (D2:Def P w K mg base "way_squares" 4 ["corners","others"] spWays) (D3:Def P w K mg base "lesser" 1 ["one","other"] (spP gLesser))
  (D4:Def P w K mg base "lowest" 34 ["numerator","denominator"] spLow):Def P w K mg base "gap_square" 35 ["corners","others"] spGapSq:=by
 refine def_ok S scGapSq (fun vs H Q E h=>?_) (fun f cdv A outer s H vs Q E hr h=>?_)
 ·obtain ⟨v,u,a,b,rfl,_⟩:=h
  rfl
 ·obtain ⟨v,u,a,b,rfl,hA,hB,ma,mb,la,lb,na,nb,k⟩:=h
  have hr1:Room 1 _:=hr.mono (by decide)
  have hr4:Room 4 _:=hr.mono (by decide)
  have hr5:Room 5 _:=hr.mono (by decide)
  refine ⟨_,pss_cons (ps_if (pt_val (pe_def D1 hr5 rfl (pq_cons (pp 0) (pq_cons (pp 1) pq_nil)))) (pss_one (ps_ret (pe_tup (pq_cons pp_int (pq_cons pp_int pq_nil))))) pss_nil)
   (pss_cons (ps_set (i:=2) scGapSq.nd rfl (Or.inl rfl) (pe_op op_cat (pe_def D2 hr4 rfl (pq_cons (pp 0) (pq_cons (pp 1) pq_nil))) (pe_def D2 hr4 rfl (pq_cons (pp 1) (pq_cons (pp 0) pq_nil)))))
   (pss_cons (ps_set (i:=3) scGapSq.nd rfl (Or.inl rfl) (pp_ix (pp 2) pp_int))
   (pss_cons (ps_for PassesOwn.never rfl (pi_list (pp 2)) (pg_name (i:=4) scGapSq.nd rfl (Or.inl rfl)) (pss_one (ps_if (pt_pure (pp_def D3 hr1 rfl (pq_cons (pp 4) (pq_cons (pp 3) pq_nil)))) (pss_one (ps_set (i:=3) scGapSq.nd rfl (Or.inl rfl) (pp 4))) pss_nil)))
   (pss_one (ps_ret (pe_def D4 hr rfl (pq_cons (pp_ix (pp 3) pp_int) (pq_cons (pp_ix (pp 3) pp_int) pq_nil)))))))),?_⟩
  refine ⟨[v,u],rfl,v,u,a,b,rfl,hA,hB,ma,mb,la,lb,fun H1 s1=>⟨_,rfl,ite_bl (fun c=>?_) (fun c=>?_)⟩⟩
  ·refine ⟨[.int 0,.int 1],rfl,(by show 2<=sizeLine;decide),fun p hp=>?_⟩
   refine k _ _ (s1.trans (same_new hp)) ?_
   unfold G.gapM
   rw [if_pos c]
   exact ⟨p,rfl,upd_same⟩
  ·refine ⟨[v,u],rfl,v,u,a,b,rfl,hA.same tu_p s1,hB.same tu_p s1,ma,mb,la,lb,fun H2 z1 s2 ⟨q1,w1,e1,hq1,al1⟩=>?_⟩
   refine ⟨[u,v],rfl,u,v,b,a,rfl,hB.same tu_p (s1.trans s2),hA.same tu_p (s1.trans s2),mb,ma,lb,la,fun H3 z2 s3 ⟨q2,w2,e2,hq2,al2⟩=>?_⟩
   have le:∀ c d:List P2,c.length<=1000->d.length<=1000->(G.waysM c d).length<=1000000:=fun c d hc hd=>by
    have hb:(G.waysM c d).length=c.length*d.length:=by
     unfold G.waysM
     clear hc
     induction c with
     | nil=>simp
     | cons x c ih=>rw [List.flatMap_cons,List.length_append,ih,List.length_map,sides_cyc,cyc_len,List.length_cons,Nat.add_mul];omega
    rw [hb]
    exact Nat.mul_le_mul hc hd
   have lw1:w1.length<=1000000:=by rw [al1.length];exact le a b la lb
   have lw2:w2.length<=1000000:=by rw [al2.length];exact le b a lb la
   refine ⟨q1,q2,w1,w2,e1,e2,s3 _ _ hq1,hq2,Nat.le_trans (show w1.length+w2.length<=2000000 by omega) (by decide),fun q hq=>?_⟩
   have s4:=same_new (o:=.lst (w1++w2)) hq
   have all:All (Rp (upd H3 q (.lst (w1++w2)))) (w1++w2) (G.waysM a b++G.waysM b a) :=
    ((al1.imp fun _ _ z=>tu_p _ _ _ _ z (same_tup s3)).append al2).imp fun _ _ z=>tu_p _ _ _ _ z (same_tup s4)
   have bd:∀ f∈G.waysM a b++G.waysM b a,FrB f:=fun f hf=>by
    rcases List.mem_append.mp hf with z | z
    ·exact ways_bd ma mb f z
    ·exact ways_bd mb ma f z
   have ge:G.gapM a b=frac (G.leastM (G.waysM a b++G.waysM b a)).1 (G.leastM (G.waysM a b++G.waysM b a)).2:=by
    unfold G.gapM
    rw [if_neg (by rw [c];decide)]
   have ne:G.waysM a b++G.waysM b a≠[]:=fun z=>ways_ne na nb (List.append_eq_nil_iff.mp z).1
   generalize G.waysM a b++G.waysM b a=sq at all bd ge ne
   generalize w1++w2=wv at all s4
   obtain ⟨f0,t0,rfl⟩:=List.exists_cons_of_ne_nil ne
   obtain ⟨v0,hv0,r0⟩:=all.at0 (x:=f0) rfl
   generalize hH4:upd H3 q (.lst wv)=H4 at all s4 r0
   have hq4:H4 q=some (.lst wv):=by rw [<- hH4];exact upd_same
   refine ⟨v0,?_,?_⟩
   ·show f2 _ _ _ [some v,some u,some (.ref q),none,none] _=_
    simp only [f2,fVar,fC,gZ,gS,oJ,oB,gIx_l hq4,hv0]
   ·refine ⟨_,rfl,q,rfl,⟨_,SqL.of hq4⟩,for_list (K:=K) (a:=q) (xs:=wv) (fun i σ H5=>∃ (lv:V) (v4:Option V),σ=[some v,some u,some (.ref q),some lv,v4]/\H5=H4/\Rp H4 lv (((f0::t0).take i).foldl (fun b x=>if lessF x b=true then x else b) f0)/\FrB (((f0::t0).take i).foldl (fun b x=>if lessF x b=true then x else b) f0))
     ⟨v0,none,rfl,rfl,r0,bd f0 (by simp)⟩ (fun i σ H' _ ⟨_,_,_,e5,_⟩=>SqL.of (by rw [e5];exact hq4)) ?_ ?_⟩
    ·rintro i y σ H5 hi ⟨lv,v4,rfl,rfl,rl,bl⟩
     obtain ⟨x,hx,rx⟩:=all.get' hi
     have bx:=bd x (List.mem_of_getElem? hx)
     rw [take_snoc hx,List.foldl_append]
     generalize ((f0::t0).take i).foldl (fun b x=>if lessF x b=true then x else b) f0=g at rl bl
     have e:gLesser [y,lv] H5=some (.bl (lessF x g)):=gLesser_of rx rl (mulc (by unfold FrB at bx;omega)) (mulc (by unfold FrB at bl;omega))
     refine ⟨_,e,ite_bl (fun c=>?_) (fun c=>?_)⟩
     ·refine ⟨y,rfl,y,some y,rfl,rfl,?_⟩
      show Rp _ _ (if lessF x g=true then x else g)/\FrB (if lessF x g=true then x else g)
      rw [if_pos c]
      exact ⟨rx,bx⟩
     ·refine ⟨lv,some y,rfl,rfl,?_⟩
      show Rp _ _ (if lessF x g=true then x else g)/\FrB (if lessF x g=true then x else g)
      rw [if_neg (by rw [c];decide)]
      exact ⟨rl,bl⟩
    ·rintro σ H5 ⟨lv,v4,rfl,rfl,rl,bl⟩
     rw [all.length,List.take_length] at rl bl
     have ge':G.leastM (f0::t0)=(f0::t0).foldl (fun b x=>if lessF x b=true then x else b) f0:=rfl
     rw [<- ge'] at rl bl
     obtain ⟨ra,rfl,hra⟩:=rl
     refine ⟨[.int (G.leastM (f0::t0)).1,.int (G.leastM (f0::t0)).2],?_,_,_,rfl,bl.2.1,fun p hp=>?_⟩
     ·show fCons _ _ [some v,some u,some (.ref q),some (.ref ra),v4] H5=_
      simp only [fCons,fNil,f2,fVar,fC,gZ,gS,oJ,oB,ix20 hra,ix21 hra]
     ·refine k _ _ ((((s1.trans s2).trans s3).trans s4).trans (same_new hp)) ?_
      rw [ge]
      exact ⟨p,rfl,upd_same⟩
end
end HR
namespace HR
open PySem PySem.Spec PyProof.Rows L2
open Vbecap (cross push hull edges whereIs frac plus)
open Builtin.Int (intBits)
abbrev sPturn:Stmt:=top 29
abbrev sCross:Stmt:=top 30
abbrev sCut:Stmt:=top 31
abbrev sPArea:Stmt:=top 32
abbrev sCommon:Stmt:=top 33
def h3c (H:Hp)(v:V):Option G.H3:=match v with
 | .ref a=>match H a with
  | some (.tup [.int x,.int y,.int z])=>some (x,y,z)
  | _=>none
 | _=>none
theorem h3c_of {H:Hp}{v:V}{p:G.H3}(h:Rh H v p):h3c H v=some p:=by
 obtain ⟨a,rfl,h⟩:=h
 unfold h3c
 simp only [h]
theorem of_h3c {H:Hp}{v:V}{p:G.H3}(h:h3c H v=some p):Rh H v p:=by
 unfold h3c at h
 split at h
 ·rename_i a
  split at h
  ·rename_i x y z e
   exact ⟨a,rfl,by rw [e,<- Option.some.inj h]⟩
  ·cases h
 ·cases h
def gPturn (vs:List V)(H:Hp):Option V:=match vs with
 | [u,v]=>(sdc H u).bind fun s=>(h3c H v).bind fun p=>if mdS s=true then some (.int (G.pturn s p)) else none
 | _=>none
theorem gPturn_of {H:Hp}{u v:V}{s:P2×P2}{p:G.H3}(h1:Rs H u s)(h2:Rh H v p)(m1:mdS s=true):gPturn [u,v] H=some (.int (G.pturn s p)):=by
 unfold gPturn
 simp only [sdc_of h1,h3c_of h2,oB,m1,if_true]
theorem of_gPturn {vs:List V}{H:Hp}{r:V}(h:gPturn vs H=some r):∃ u v s p,vs=[u,v]/\Rs H u s/\Rh H v p/\mdS s=true/\r=.int (G.pturn s p):=by
 unfold gPturn at h
 split at h
 ·rename_i u v
  cases h1:sdc H u with
  | none=>rw [h1] at h;cases h
  | some s =>
   cases h2:h3c H v with
   | none=>rw [h1,h2] at h;cases h
   | some p =>
    rw [h1,h2] at h
    simp only [oB] at h
    split at h
    ·rename_i k
     exact ⟨u,v,s,p,rfl,of_sdc h1,of_h3c h2,k,(Option.some.inj h).symm⟩
    ·cases h
 ·cases h
def Bits (m:Nat)(p:G.H3):Prop:=intBits p.1<=m/\intBits p.2.1<=m/\intBits p.2.2<=m
theorem bits_le {x:Int}{m n:Nat}(h:intBits x<=m)(k:m<=n):intBits x<=n:=Nat.le_trans h k
theorem bits_of {x:Int}{m:Nat}(h:x.natAbs < 2 ^ m):intBits x<=m:=intBits_le_iff.mpr h
theorem bits_abs {x:Int}{m:Nat}(h:intBits x<=m):intBits (G.absI x)<=m:=intBits_le_of_natAbs (by unfold G.absI;split<;>omega) h
theorem bits_div {x g:Int}{m:Nat}(hg:0 < g)(h:intBits x<=m):intBits (x / g)<=m:=by
 rw [<- Int.fdiv_eq_ediv_of_nonneg x (by omega)]
 exact intBits_fdiv_le h
theorem pturn_bits {s:P2×P2}{p:G.H3}{m:Nat}(hs:mdS s=true)(hp:Bits m p):intBits (G.pturn s p)<=m+23:=by
 rw [mdS_iff,mdP_iff,mdP_iff] at hs
 obtain ⟨b1,b2,b3⟩:=hp
 have c1:intBits s.1.1<=10:=bits_of (by omega)
 have c2:intBits s.1.2<=10:=bits_of (by omega)
 have d1:intBits (s.2.1-s.1.1)<=11:=bits_of (by omega)
 have d2:intBits (s.2.2-s.1.2)<=11:=bits_of (by omega)
 have e1:=intBits_mul_le c1 b3
 have e2:=intBits_mul_le c2 b3
 have f1:=intBits_sub_le b1 e1
 have f2:=intBits_sub_le b2 e2
 have g1:=intBits_mul_le d1 (bits_le f2 (show _<=m+11 by omega))
 have g2:=intBits_mul_le d2 (bits_le f1 (show _<=m+11 by omega))
 have:=intBits_sub_le g1 g2
 unfold G.pturn
 omega
theorem comb_bits {t u x y:Int}{m n:Nat}(ht:intBits t<=n)(hu:intBits u<=n)(hx:intBits x<=m)(hy:intBits y<=m):intBits (G.absI t*x+G.absI u*y)<=n+m+1:=by
 have:=intBits_add_le (intBits_mul_le (bits_abs ht) hx) (intBits_mul_le (bits_abs hu) hy)
 omega
theorem cross_bits {a b:G.H3}{t u:Int}{m n:Nat}(ht:intBits t<=n)(hu:intBits u<=n)(ha:Bits m a)(hb:Bits m b)(hw:0 < G.absI t*b.2.2+G.absI u*a.2.2):Bits (n+m+1) (G.crossM a t b u):=by
 obtain ⟨g,eg,g0,_⟩:=G.gcdI_facts (G.absI t*b.1+G.absI u*a.1) (G.absI t*b.2.1+G.absI u*a.2.1) hw
 unfold G.crossM
 simp only
 rw [eg]
 exact ⟨bits_div g0 (comb_bits ht hu hb.1 ha.1),bits_div g0 (comb_bits ht hu hb.2.1 ha.2.1),bits_div g0 (comb_bits ht hu hb.2.2 ha.2.2)⟩
theorem w_pos {s:P2×P2}{a b:G.H3}(ha:G.Hd a)(hb:G.Hd b)(h:G.pturn s a*G.pturn s b < 0):0 < G.absI (G.pturn s a)*b.2.2+G.absI (G.pturn s b)*a.2.2:=by
 have h1:0 < G.absI (G.pturn s a):=by
  rcases G.mul_neg_cases h with z | z<;>(unfold G.absI;split<;>omega)
 have h2:0 < G.absI (G.pturn s b):=by
  rcases G.mul_neg_cases h with z | z<;>(unfold G.absI;split<;>omega)
 have:=Int.mul_pos h1 hb
 have:=Int.mul_pos h2 ha
 omega
section
variable {P:Program} {w:World} {K:PySem.W.Frag} {mg:Str->Option Value} {base:Heap}
theorem scPturn:FnScope ["side","point","a","b","to_x","to_y"] ["side","point"] (defScope sPturn):=⟨rfl,rfl,rfl,by decide +kernel,rfl,by decide +kernel,by decide +kernel⟩
theorem ok_pturn (S:Src K mg "point_turn" sPturn ["side","point"]):Def P w K mg base "point_turn" 1 ["side","point"] (spP gPturn):=by
 refine def_ok S scPturn (fun vs H Q E h=>?_) (fun f cdv A outer s H vs Q E hr h=>?_)
 ·obtain ⟨v,h,_⟩:=h
  obtain ⟨u,v,s,p,rfl,_⟩:=of_gPturn h
  rfl
 ·obtain ⟨r,h,k⟩:=h
  obtain ⟨u,v,sd,p,rfl,⟨x,va,vb,rfl,hx,⟨a,rfl,ha⟩,⟨b,rfl,hb⟩⟩,⟨c,rfl,hc⟩,ms,rfl⟩:=of_gPturn h
  rw [mdS_iff,mdP_iff,mdP_iff] at ms
  refine ⟨_,pss_cons (ps_set (i:=2) scPturn.nd rfl (Or.inl rfl) (pp_ix (pp 0) pp_int)) (pss_cons (ps_set (i:=3) scPturn.nd rfl (Or.inl rfl) (pp_ix (pp 0) pp_int))
   (pss_cons (ps_set (i:=4) scPturn.nd rfl (Or.inl rfl) (pp_sub (pp_ix (pp 1) pp_int) (pp_mul (pp_ix (pp 2) pp_int) (pp_ix (pp 1) pp_int))))
   (pss_cons (ps_set (i:=5) scPturn.nd rfl (Or.inl rfl) (pp_sub (pp_ix (pp 1) pp_int) (pp_mul (pp_ix (pp 2) pp_int) (pp_ix (pp 1) pp_int))))
   (pss_one (ps_ret (pp_sub (pp_mul (pp_sub (pp_ix (pp 3) pp_int) (pp_ix (pp 2) pp_int)) (pp 5)) (pp_mul (pp_sub (pp_ix (pp 3) pp_int) (pp_ix (pp 2) pp_int)) (pp 4)))))))),?_⟩
  have s1:∀ j,smallC sd.1.1 j=true:=fun j=>mulc (by omega)
  have s2:∀ j,smallC sd.1.2 j=true:=fun j=>mulc (by omega)
  have s3:∀ j,smallC (sd.2.1-sd.1.1) j=true:=fun j=>mulc (by omega)
  have s4:∀ j,smallC (sd.2.2-sd.1.2) j=true:=fun j=>mulc (by omega)
  refine ⟨.ref a,?_,.ref b,?_,.int (p.1-sd.1.1*p.2.2),?_,.int (p.2.1-sd.1.2*p.2.2),?_,_,?_,k⟩
  ·show f2 _ _ _ [some (.ref x),some (.ref c),none,none,none,none] H=_
   simp only [f2,fVar,fC,gZ,oJ,oB,ix20 hx]
  ·show f2 _ _ _ [some (.ref x),some (.ref c),some (.ref a),none,none,none] H=_
   simp only [f2,fVar,fC,gZ,oJ,oB,ix21 hx]
  ·show f2 _ _ _ [some (.ref x),some (.ref c),some (.ref a),some (.ref b),none,none] H=_
   simp only [f2,fVar,fC,gZ,gS,oJ,oB,ix30 hc,ix32 hc,ix20 ha,gI,gIc,s1,if_true]
  ·show f2 _ _ _ [some (.ref x),some (.ref c),some (.ref a),some (.ref b),some _,none] H=_
   simp only [f2,fVar,fC,gZ,gS,oJ,oB,ix31 hc,ix32 hc,ix21 ha,gI,gIc,s2,if_true]
  ·show f2 _ _ _ [some (.ref x),some (.ref c),some (.ref a),some (.ref b),some (.int (p.1-sd.1.1*p.2.2)),some (.int (p.2.1-sd.1.2*p.2.2))] H=_
   simp only [f2,fVar,fC,gZ,gS,oJ,oB,ix20 ha,ix21 ha,ix20 hb,ix21 hb,gI,gIc,s3,s4,if_true]
   rfl
def spCross:Sp:=fun vs H Q _=>∃ u v a b t t' m n,vs=[u,.int t,v,.int t']/\Rh H u a/\Rh H v b/\intBits t<=n/\intBits t'<=n/\Bits m a/\Bits m b/\n+m<=134217728/\0 < G.absI t*b.2.2+G.absI t'*a.2.2 /\
 ∀ p,H p=none->Q (.ref p) (upd H p (.tup [.int (G.crossM a t b t').1,.int (G.crossM a t b t').2.1,.int (G.crossM a t b t').2.2]))
theorem scCross:FnScope ["one","one_turn","other","other_turn","near","far","x","y","w","divisor"] ["one","one_turn","other","other_turn"] (defScope sCross):=⟨rfl,rfl,rfl,by decide +kernel,rfl,by decide +kernel,by decide +kernel⟩
theorem gcd_nn (a b:Int):0<=G.gcdI a b:=by unfold G.gcdI;omega
theorem ok_cross (hs:base.NoSeer)(ht:P.given.tree=none)(B:Blt mg)(S:Src K mg "crossing_point" sCross ["one","one_turn","other","other_turn"]) (D:Def P w K mg base "common_divisor" 1 ["m","n"] (spP gGcd)) :
  Def P w K mg base "crossing_point" 34 ["one","one_turn","other","other_turn"] spCross:=by
 refine def_ok S scCross (fun vs H Q E h=>?_) (fun f cdv A outer s H vs Q E hr h=>?_)
 ·obtain ⟨u,v,a,b,t,t',m,n,rfl,_⟩:=h
  rfl
 ·obtain ⟨u,v,a,b,t,t',m,n,rfl,⟨pa,rfl,ha⟩,⟨pb,rfl,hb⟩,bt,bt',ba,bb,hmn,w0,k⟩:=h
  have dv:=div_ok (w:=w) (K:=K) (mg:=mg) (N:=["one","one_turn","other","other_turn","near","far","x","y","w","divisor"]) (outer:=outer) (H:=H) (E:=E) hs ht hr scCross.gen scCross.co
  have hr1:Room 1 _:=hr.mono (by decide)
  refine ⟨_,pss_cons (ps_set (i:=4) scCross.nd rfl (Or.inl rfl) (pp_callB call_abs gAbs_ok rfl B.abs boot_abs (pq_cons (pp 1) pq_nil))) (pss_cons (ps_set (i:=5) scCross.nd rfl (Or.inl rfl) (pp_callB call_abs gAbs_ok rfl B.abs boot_abs (pq_cons (pp 3) pq_nil)))
   (pss_cons (ps_set (i:=6) scCross.nd rfl (Or.inl rfl) (pp_add (pp_mulB (pp 4) (pp_ix (pp 2) pp_int)) (pp_mulB (pp 5) (pp_ix (pp 0) pp_int))))
   (pss_cons (ps_set (i:=7) scCross.nd rfl (Or.inl rfl) (pp_add (pp_mulB (pp 4) (pp_ix (pp 2) pp_int)) (pp_mulB (pp 5) (pp_ix (pp 0) pp_int))))
   (pss_cons (ps_set (i:=8) scCross.nd rfl (Or.inl rfl) (pp_add (pp_mulB (pp 4) (pp_ix (pp 2) pp_int)) (pp_mulB (pp 5) (pp_ix (pp 0) pp_int))))
   (pss_cons (ps_set (i:=9) scCross.nd rfl (Or.inl rfl) (pp_def D hr1 rfl (pq_cons (pp_def D hr1 rfl (pq_cons (pp_callB call_abs gAbs_ok rfl B.abs boot_abs (pq_cons (pp 6) pq_nil)) (pq_cons (pp_callB call_abs gAbs_ok rfl B.abs boot_abs (pq_cons (pp 7) pq_nil)) pq_nil))) (pq_cons (pp 8) pq_nil))))
   (pss_one (ps_ret (pe_tup (pq_cons (pp_div dv (pp 6) (pp 9)) (pq_cons (pp_div dv (pp 7) (pp 9)) (pq_cons (pp_div dv (pp 8) (pp 9)) pq_nil)))))))))))
   ,?_⟩
  have mb:∀ {x:Int} (y:Int),intBits x<=n->intBits y<=m->bigC (G.absI x) y=true:=fun y h1 h2=>bigC_of (IntMulOk.of_le (bits_abs h1) h2 hmn)
  have m1:=mb b.1 bt bb.1
  have m2:=mb b.2.1 bt bb.2.1
  have m3:=mb b.2.2 bt bb.2.2
  have m4:=mb a.1 bt' ba.1
  have m5:=mb a.2.1 bt' ba.2.1
  have m6:=mb a.2.2 bt' ba.2.2
  obtain ⟨g,eg,g0,_⟩:=G.gcdI_facts (G.absI t*b.1+G.absI t'*a.1) (G.absI t*b.2.1+G.absI t'*a.2.1) w0
  have k':=k
  unfold G.crossM at k'
  simp only at k'
  rw [eg] at k'
  have w0':0<=G.absI t*b.2.2+G.absI t'*a.2.2:=Int.le_of_lt w0
  refine ⟨.int (G.absI t),rfl,.int (G.absI t'),rfl,.int (G.absI t*b.1+G.absI t'*a.1),?_,.int (G.absI t*b.2.1+G.absI t'*a.2.1),?_,.int (G.absI t*b.2.2+G.absI t'*a.2.2),?_,?_⟩
  ·show f2 _ _ _ [some (.ref pa),some (.int t),some (.ref pb),some (.int t'),some (.int (G.absI t)),some (.int (G.absI t')),none,none,none,none] H=_
   simp only [f2,fVar,fC,gZ,gS,oJ,oB,ix30 ha,ix30 hb,gI,gIc,m1,m4,if_true]
  ·show f2 _ _ _ [some (.ref pa),some (.int t),some (.ref pb),some (.int t'),some (.int (G.absI t)),some (.int (G.absI t')),some _,none,none,none] H=_
   simp only [f2,fVar,fC,gZ,gS,oJ,oB,ix31 ha,ix31 hb,gI,gIc,m2,m5,if_true]
  ·show f2 _ _ _ [some (.ref pa),some (.int t),some (.ref pb),some (.int t'),some (.int (G.absI t)),some (.int (G.absI t')),some _,some _,none,none] H=_
   simp only [f2,fVar,fC,gZ,gS,oJ,oB,ix32 ha,ix32 hb,gI,gIc,m3,m6,if_true]
  ·generalize G.absI t*b.1+G.absI t'*a.1=X at *
   generalize G.absI t*b.2.1+G.absI t'*a.2.1=Y at *
   generalize G.absI t*b.2.2+G.absI t'*a.2.2=W at *
   have e1:=gGcd_of (H:=H) (G.absI_nn X) (G.absI_nn Y)
   have e2:=gGcd_of (H:=H) (gcd_nn (G.absI X) (G.absI Y)) w0'
   rw [eg] at e2
   have pc:∀ i,posC i g=true:=fun i=>decide_eq_true g0
   refine ⟨.int g,?_,[.int (X / g),.int (Y / g),.int (W / g)],?_,(by show 3<=sizeLine;decide),k'⟩
   ·show fCall gGcd _ [some (.ref pa),some (.int t),some (.ref pb),some (.int t'),some (.int (G.absI t)),some (.int (G.absI t')),some (.int X),some (.int Y),some (.int W),none] H=_
    simp only [fCall,fCons,fNil,fVar,gZ,gS,oJ,oB,gAbs,e1,e2]
   ·show fCons _ _ [some (.ref pa),some (.int t),some (.ref pb),some (.int t'),some (.int (G.absI t)),some (.int (G.absI t')),some (.int X),some (.int Y),some (.int W),some (.int g)] H=_
    simp only [fCons,fNil,f2,fVar,gZ,gS,oJ,oB,gIc,pc,if_true]
end
theorem flatMap_snoc {α β:Type}(f:α->List β){l:List α}{i:Nat}{x:α}(hx:l[i]?=some x):(l.take (i+1)).flatMap f=(l.take i).flatMap f++f x:=by
 rw [take_snoc hx,List.flatMap_append];simp
theorem flat_len {α β:Type}(f:α->List β){m:Nat}(h:∀ x,(f x).length<=m):∀ l:List α,(l.flatMap f).length<=m*l.length
 | []=>by simp
 | a::l=>by
  rw [List.flatMap_cons,List.length_append,List.length_cons,Nat.mul_add]
  have:=flat_len f h l
  have:=h a
  omega
theorem cut1_len (s:P2×P2)(e:G.H3×G.H3):(G.cut1M s e).length<=2:=by
 unfold G.cut1M
 rw [List.length_append]
 split<;>split<;>simp
theorem cut_bits {s:P2×P2}(hs:mdS s=true){l:List G.H3}{m:Nat}(hl:∀ p∈l,Bits m p)(hd:∀ p∈l,G.Hd p):∀ p∈G.cutM l s,Bits (2*m+24) p:=fun p hp=>by
 unfold G.cutM at hp
 rw [List.mem_flatMap] at hp
 obtain ⟨e,he,hp⟩:=hp
 have m1:=G.cycM_mem he
 have up:∀ q:G.H3,Bits m q->Bits (2*m+24) q:=fun q h=>⟨bits_le h.1 (by omega),bits_le h.2.1 (by omega),bits_le h.2.2 (by omega)⟩
 unfold G.cut1M at hp
 rcases List.mem_append.mp hp with z | z
 ·split at z
  ·rename_i c
   rw [List.mem_singleton.mp z]
   have b1:=hl _ m1.1
   have b2:=hl _ m1.2
   have:=cross_bits (pturn_bits hs b1) (pturn_bits hs b2) b1 b2 (w_pos (hd _ m1.1) (hd _ m1.2) c)
   exact ⟨bits_le this.1 (by omega),bits_le this.2.1 (by omega),bits_le this.2.2 (by omega)⟩
  ·simp at z
 ·split at z
  ·rw [List.mem_singleton.mp z];exact up _ (hl _ m1.2)
  ·simp at z
section
variable {P:Program} {w:World} {K:PySem.W.Frag} {mg:Str->Option Value} {base:Heap}
def spCut:Sp:=fun vs H Q _=>∃ v u l s m,vs=[v,u]/\Ls Rh H v l/\Rs H u s/\mdS s=true/\(∀ p∈l,G.Hd p)/\(∀ p∈l,Bits m p)/\m<=1000000/\l.length<=100000/\∀ H' z,Same H H'->Ls Rh H' z (G.cutM l s)->Q z H'
theorem scCut:FnScope ["points","side","kept","k","last_turn","this_turn"] ["points","side"] (defScope sCut):=⟨rfl,rfl,rfl,by decide +kernel,rfl,by decide +kernel,by decide +kernel⟩
theorem ok_cut (B:Blt mg)(S:Src K mg "cut" sCut ["points","side"]) (D1:Def P w K mg base "point_turn" 1 ["side","point"] (spP gPturn)) (D2:Def P w K mg base "crossing_point" 34 ["one","one_turn","other","other_turn"] spCross):Def P w K mg base "cut" 35 ["points","side"] spCut:=by
 refine def_ok S scCut (fun vs H Q E h=>?_) (fun f cdv A outer s H vs Q E hr h=>?_)
 ·obtain ⟨v,u,l,s,m,rfl,_⟩:=h
  rfl
 ·obtain ⟨v,u,l,sd,m,rfl,⟨la,us,rfl,hl,hall⟩,rs,ms,hd,hb,hm,hlen,k⟩:=h
  have hr1:Room 1 _:=hr.mono (by decide)
  refine ⟨_,pss_cons (ps_set (i:=2) scCut.nd rfl (Or.inl rfl) (pe_lst pq_nil))
   (pss_cons (ps_for PassesOwn.never rfl (pi_range1 rfl B.range (pq_cons (pp_callB call_len_seq gLen_ok rfl B.len boot_lenH (pq_cons (pp 0) pq_nil)) pq_nil)) (pg_name (i:=3) scCut.nd rfl (Or.inl rfl))
    (pss_cons (ps_set (i:=4) scCut.nd rfl (Or.inl rfl) (pp_def D1 hr1 rfl (pq_cons (pp 1) (pq_cons (pp_ix (pp 0) (pp_sub (pp 3) pp_int)) pq_nil))))
    (pss_cons (ps_set (i:=5) scCut.nd rfl (Or.inl rfl) (pp_def D1 hr1 rfl (pq_cons (pp 1) (pq_cons (pp_ix (pp 0) (pp 3)) pq_nil))))
    (pss_cons (ps_if (pt_lt (pp_mulB (pp 4) (pp 5)) pp_int) (pss_one (ps_expr (pe_bm PySem.F.plainAttrs_list PySem.F.slot_list_append PySem.F.type_list_append mt_append (pp 2) (pa_cons (pe_def D2 hr rfl (pq_cons (pp_ix (pp 0) (pp_sub (pp 3) pp_int)) (pq_cons (pp 4) (pq_cons (pp_ix (pp 0) (pp 3)) (pq_cons (pp 5) pq_nil))))) pa_nil)))) pss_nil)
    (pss_one (ps_if (pt_ge (pp 5) pp_int) (pss_one (ps_expr (pe_bm PySem.F.plainAttrs_list PySem.F.slot_list_append PySem.F.type_list_append mt_append (pp 2) (pa_cons (pp_ix (pp 0) (pp 3)) pa_nil)))) pss_nil))))))
   (pss_one (ps_ret (pp 2)))),?_⟩
  have le:us.length=l.length:=hall.length
  refine ⟨[],rfl,Nat.zero_le _,fun q hq=>?_⟩
  have s0:Same H (upd H q (.lst [])):=same_new hq
  refine ⟨[.int us.length],?_,us.length,rfl,by omega,by omega,for_range (lo:=0) (n:=us.length) (fun i σ H'=>∃ (v3 v4 v5:Option V) (ws:List V),σ=[some (.ref la),some u,some (.ref q),v3,v4,v5]/\Same H H'/\H' q=some (.lst ws)/\All (Rh H') ws (((G.cycM l).take i).flatMap (G.cut1M sd)))
   ⟨none,none,none,[],rfl,s0,upd_same,.nil⟩ ?_ ?_⟩
  ·show fCons (fCall gLen (fCons (fVar 0) fNil)) fNil [some (.ref la),some u,some (.ref q),none,none,none] _=_
   simp only [fCall,fCons,fNil,fVar,gZ,oJ,oB,gLen_l (s0 _ _ hl)]
  ·rintro i σ H' hi ⟨v3,v4,v5,ws,rfl,s1,h1,a1⟩
   obtain ⟨e,hz⟩:∃ e,(G.cycM l)[i]?=some e:=⟨_,List.getElem?_eq_getElem (by rw [cyc_len];omega)⟩
   obtain ⟨x,y,e1,e2,r1,r2,_⟩:=cyc_at hall hz
   have me:=G.cycM_mem (List.mem_of_getElem? hz)
   have hl':=s1 _ _ hl
   have rx:=r1.to (same_tup s1)
   have ry:=r2.to (same_tup s1)
   have rs':=rs.to (same_tup s1)
   have b1:=pturn_bits ms (hb _ me.1)
   have b2:=pturn_bits ms (hb _ me.2)
   have t1:gPturn [u,x] H'=some (.int (G.pturn sd e.1)):=gPturn_of rs' rx ms
   have t2:gPturn [u,y] H'=some (.int (G.pturn sd e.2)):=gPturn_of rs' ry ms
   have e0:(0:Int)+(i:Int)=i:=by omega
   have mm:bigC (G.pturn sd e.1) (G.pturn sd e.2)=true:=bigC_of (IntMulOk.of_le b1 b2 (by omega))
   have lw:ws.length<=200000:=by
    rw [a1.length]
    have:=flat_len (G.cut1M sd) (cut1_len sd) ((G.cycM l).take i)
    have:((G.cycM l).take i).length<=100000:=by rw [List.length_take,cyc_len];omega
    omega
   refine ⟨.int (G.pturn sd e.1),?_,.int (G.pturn sd e.2),?_,decide (G.pturn sd e.1*G.pturn sd e.2 < 0),?_,?_⟩
   ·show fCall gPturn _ [some (.ref la),some u,some (.ref q),some (.int (0+(i:Int))),v4,v5] H'=_
    simp only [fCall,fCons,fNil,f2,fVar,fC,gZ,gS,oJ,oB,gI,e0,gIx_l hl',e1,t1]
   ·show fCall gPturn _ [some (.ref la),some u,some (.ref q),some (.int (0+(i:Int))),some _,v5] H'=_
    simp only [fCall,fCons,fNil,f2,fVar,fC,gZ,gS,oJ,oB,gI,e0,gIx_l hl',e2,t2]
   ·show f2 _ _ _ [some (.ref la),some u,some (.ref q),some (.int (0+(i:Int))),some (.int (G.pturn sd e.1)),some (.int (G.pturn sd e.2))] H'=_
    simp only [f2,fVar,fC,gZ,gS,oJ,oB,gI,gIc,mm,if_true]
   ·
    have second:∀ (H2:Hp) (ws2:List V),Same H H2->STup H' H2->H2 q=some (.lst ws2)->ws2.length<=200001->All (Rh H2) ws2 (((G.cycM l).take i).flatMap (G.cut1M sd)++(if G.pturn sd e.1*G.pturn sd e.2 < 0 then [G.crossM e.1 (G.pturn sd e.1) e.2 (G.pturn sd e.2)] else [])) ->
      tIfS (tPT (fGe (fVar 5) (fC (.int 0)))) (tDrop (tBM K "list" rAppend (tP (fVar 2)) (tCons (tP (fIx (fVar 0) (fVar 3))) tNil))) tNext
       {nx:=fun σ H'=>∃ (v3 v4 v5:Option V) (ws:List V),σ=[some (.ref la),some u,some (.ref q),v3,v4,v5]/\Same H H'/\H' q=some (.lst ws)/\All (Rh H') ws (((G.cycM l).take (i+1)).flatMap (G.cut1M sd)),rt:=Q,
        ct:=fun σ H'=>∃ (v3 v4 v5:Option V) (ws:List V),σ=[some (.ref la),some u,some (.ref q),v3,v4,v5]/\Same H H'/\H' q=some (.lst ws)/\All (Rh H') ws (((G.cycM l).take (i+1)).flatMap (G.cut1M sd)),
        bk:=fun σ H'=>tRet (tP (fVar 2)) {nx:=fun _ H'=>Q .non H',rt:=Q} σ H'}
       [some (.ref la),some u,some (.ref q),some (.int (0+(i:Int))),some (.int (G.pturn sd e.1)),some (.int (G.pturn sd e.2))] H2:=fun H2 ws2 s2 st h2 l2 a2=>by
     refine ⟨decide (0<=G.pturn sd e.2),rfl,ite_bl (fun c=>?_) (fun c=>?_)⟩
     ·have c:=of_decide_eq_true c
      refine ⟨.ref q,rfl,.inl ⟨rfl,_,SqL.of h2⟩,y,?_,q,ws2,y,rfl,rfl,h2,Nat.lt_of_le_of_lt l2 (by decide),?_⟩
      ·show f2 _ _ _ [some (.ref la),some u,some (.ref q),some (.int (0+(i:Int))),_,_] H2=_
       simp only [f2,fVar,gZ,gS,oJ,oB,e0,gIx_l (s2 _ _ hl),e2]
      ·refine ⟨_,_,_,_,rfl,same_upd s2 hq,upd_same,?_⟩
       rw [flatMap_snoc _ hz]
       have:G.cut1M sd e=(if G.pturn sd e.1*G.pturn sd e.2 < 0 then [G.crossM e.1 (G.pturn sd e.1) e.2 (G.pturn sd e.2)] else [])++[e.2]:=by unfold G.cut1M;rw [if_pos c]
       rw [this,<- List.append_assoc]
       exact (a2.append (All.one (ry.to st))).imp fun _ _ z=>tu_h _ _ _ _ z (stup_upd h2)
     ·have c:=of_decide_eq_false c
      refine ⟨_,_,_,_,rfl,s2,h2,?_⟩
      rw [flatMap_snoc _ hz]
      have:G.cut1M sd e=(if G.pturn sd e.1*G.pturn sd e.2 < 0 then [G.crossM e.1 (G.pturn sd e.1) e.2 (G.pturn sd e.2)] else [])++[]:=by unfold G.cut1M;rw [if_neg c]
      rw [this,List.append_nil]
      exact a2
    refine ite_bl (fun c=>?_) (fun c=>?_)
    ·have c:=of_decide_eq_true c
     refine ⟨.ref q,rfl,.inl ⟨rfl,_,SqL.of h1⟩,[x,.int (G.pturn sd e.1),y,.int (G.pturn sd e.2)],?_,x,y,e.1,e.2,_,_,m,m+23,rfl,rx,ry,b1,b2,hb _ me.1,hb _ me.2,by omega,w_pos (hd _ me.1) (hd _ me.2) c,fun p hp=>?_⟩
     ·show fCons _ _ [some (.ref la),some u,some (.ref q),some (.int (0+(i:Int))),some (.int (G.pturn sd e.1)),some (.int (G.pturn sd e.2))] H'=_
      simp only [fCons,fNil,f2,fVar,fC,gZ,gS,oJ,oB,gI,e0,gIx_l hl',e1,e2]
     ·have sp:=same_new (o:=.tup [.int (G.crossM e.1 (G.pturn sd e.1) e.2 (G.pturn sd e.2)).1,.int (G.crossM e.1 (G.pturn sd e.1) e.2 (G.pturn sd e.2)).2.1,.int (G.crossM e.1 (G.pturn sd e.1) e.2 (G.pturn sd e.2)).2.2]) hp
      have hq2:=sp _ _ h1
      refine ⟨q,ws,.ref p,rfl,rfl,hq2,Nat.lt_of_le_of_lt lw (by decide),?_⟩
      refine second _ _ (same_upd (s1.trans sp) hq) ((same_tup sp).trans (stup_upd hq2)) upd_same (by simp;omega) ?_
      ·rw [if_pos c]
       exact ((a1.imp fun _ _ z=>tu_h _ _ _ _ z (same_tup sp)).append (All.one ⟨p,rfl,upd_same⟩)).imp fun _ _ z=>tu_h _ _ _ _ z (stup_upd hq2)
    ·have c:=of_decide_eq_false c
     refine second _ _ s1 (STup.refl _) h1 (by omega) ?_
     ·rw [if_neg c,List.append_nil];exact a1
  ·rintro σ H' ⟨v3,v4,v5,ws,rfl,s1,h1,a1⟩
   have:(G.cycM l).take us.length=G.cycM l:=by rw [le,<- cyc_len l,List.take_length]
   rw [this] at a1
   exact ⟨.ref q,rfl,k H' _ s1 ⟨q,ws,rfl,h1,a1⟩⟩
end
abbrev step (t:P2)(e:G.H3×G.H3):P2:=plus t (e.1.1*e.2.2.1-e.1.2.1*e.2.1,e.1.2.2*e.2.2.2)
theorem plus_bits {a b:P2}{t m:Nat}(ha:intBits a.1<=t/\intBits a.2<=t)(hb:intBits b.1<=m/\intBits b.2<=m)(da:0 < a.2)(db:0 < b.2):(intBits (plus a b).1<=t+m+1/\intBits (plus a b).2<=t+m+1)/\0 < (plus a b).2:=by
 have p:=Int.mul_pos da db
 have e1:=intBits_add_le (intBits_mul_le ha.1 hb.2) (intBits_mul_le hb.1 ha.2)
 have e2:=intBits_mul_le ha.2 hb.2
 have g:=gcd_pos (a.1*b.2+b.1*a.2) p
 refine ⟨?_,(G.low_any _ _).pos⟩
 unfold plus
 rw [frac_gcd _ p]
 exact ⟨bits_le (bits_div g e1) (by omega),bits_le (bits_div g e2) (by omega)⟩
section
variable {P:Program} {w:World} {K:PySem.W.Frag} {mg:Str->Option Value} {base:Heap}
def spPArea:Sp:=fun vs H Q _=>∃ v l m,vs=[v]/\Ls Rh H v l/\(∀ p∈l,G.Hd p)/\(∀ p∈l,Bits m p)/\(l.length+1)*(2*m+2)+1<=100000000/\l.length<=100000/\∀ H' z,Same H H'->Rp H' z (G.areaM l)->Q z H'
theorem scPArea:FnScope ["points","total","k","one","other"] ["points"] (defScope sPArea):=⟨rfl,rfl,rfl,by decide +kernel,rfl,by decide +kernel,by decide +kernel⟩
theorem ok_parea (B:Blt mg)(S:Src K mg "twice_point_area" sPArea ["points"]) (D:Def P w K mg base "added" 35 ["one","other"] spAdded):Def P w K mg base "twice_point_area" 36 ["points"] spPArea:=by
 refine def_ok S scPArea (fun vs H Q E h=>?_) (fun f cdv A outer s H vs Q E hr h=>?_)
 ·obtain ⟨v,l,m,rfl,_⟩:=h
  rfl
 ·obtain ⟨v,l,m,rfl,⟨la,us,rfl,hl,hall⟩,hd,hb,hm,hlen,k⟩:=h
  refine ⟨_,pss_cons (ps_set (i:=1) scPArea.nd rfl (Or.inl rfl) (pe_tup (pq_cons pp_int (pq_cons pp_int pq_nil))))
   (pss_cons (ps_for PassesOwn.never rfl (pi_range1 rfl B.range (pq_cons (pp_callB call_len_seq gLen_ok rfl B.len boot_lenH (pq_cons (pp 0) pq_nil)) pq_nil)) (pg_name (i:=2) scPArea.nd rfl (Or.inl rfl))
    (pss_cons (ps_set (i:=3) scPArea.nd rfl (Or.inl rfl) (pp_ix (pp 0) (pp_sub (pp 2) pp_int)))
    (pss_cons (ps_set (i:=4) scPArea.nd rfl (Or.inl rfl) (pp_ix (pp 0) (pp 2)))
    (pss_one (ps_set (i:=1) scPArea.nd rfl (Or.inl rfl) (pe_def D hr rfl (pa_cons (pp 1) (pa_cons (pe_tup (pq_cons (pp_sub (pp_mulB (pp_ix (pp 3) pp_int) (pp_ix (pp 4) pp_int)) (pp_mulB (pp_ix (pp 3) pp_int) (pp_ix (pp 4) pp_int))) (pq_cons (pp_mulB (pp_ix (pp 3) pp_int) (pp_ix (pp 4) pp_int)) pq_nil))) pa_nil))))))))
   (pss_one (ps_ret (pp 1)))),?_⟩
  have le:us.length=l.length:=hall.length
  refine ⟨[.int 0,.int 1],rfl,(by show 2<=sizeLine;decide),fun q hq=>?_⟩
  have s0:=same_new (o:=.tup [.int 0,.int 1]) hq
  refine ⟨[.int us.length],?_,us.length,rfl,by omega,by omega,for_range (lo:=0) (n:=us.length) (fun i σ H'=>∃ (tv:V) (v2 v3 v4:Option V),σ=[some (.ref la),some tv,v2,v3,v4]/\Same H H'/\Rp H' tv (((G.cycM l).take i).foldl step (0,1)) /\
    (intBits (((G.cycM l).take i).foldl step (0,1)).1<=1+i*(2*m+2)/\intBits (((G.cycM l).take i).foldl step (0,1)).2<=1+i*(2*m+2))/\0 < (((G.cycM l).take i).foldl step (0,1)).2)
   ⟨.ref q,none,none,none,rfl,s0,⟨q,rfl,upd_same⟩,⟨bits_of (by show 0 < _;exact Nat.two_pow_pos _),bits_of (by show 1 < 2 ^ (1+0*(2*m+2));rw [Nat.zero_mul];decide)⟩,by show (0:Int) < 1;decide⟩ ?_ ?_⟩
  ·show fCons (fCall gLen (fCons (fVar 0) fNil)) fNil [some (.ref la),some (.ref q),none,none,none] _=_
   simp only [fCall,fCons,fNil,fVar,gZ,oJ,oB,gLen_l (s0 _ _ hl)]
  ·rintro i σ H' hi ⟨tv,v2,v3,v4,rfl,s1,rt,bt,dt⟩
   obtain ⟨e,hz⟩:∃ e,(G.cycM l)[i]?=some e:=⟨_,List.getElem?_eq_getElem (by rw [cyc_len];omega)⟩
   obtain ⟨x,y,e1,e2,⟨xa,rfl,hx⟩,⟨ya,rfl,hy⟩,_⟩:=cyc_at hall hz
   have me:=G.cycM_mem (List.mem_of_getElem? hz)
   have hl':=s1 _ _ hl
   have hx':=s1 _ _ hx
   have hy':=s1 _ _ hy
   have b1:=hb _ me.1
   have b2:=hb _ me.2
   have e0:(0:Int)+(i:Int)=i:=by omega
   have hin:i*(2*m+2)<=l.length*(2*m+2):=Nat.mul_le_mul_right _ (by omega)
   have hm':l.length*(2*m+2)+(2*m+2)+1<=100000000:=by rw [Nat.add_mul,Nat.one_mul] at hm;exact hm
   have mm:∀ {x y:Int},intBits x<=m->intBits y<=m->bigC x y=true:=fun h1 h2=>bigC_of (IntMulOk.of_le h1 h2 (by omega))
   have m1:=mm b1.1 b2.2.1
   have m2:=mm b1.2.1 b2.1
   have m3:=mm b1.2.2 b2.2.2
   have n1:intBits (e.1.1*e.2.2.1-e.1.2.1*e.2.1)<=2*m+1:=bits_le (intBits_sub_le (intBits_mul_le b1.1 b2.2.1) (intBits_mul_le b1.2.1 b2.1)) (by omega)
   have n2:intBits (e.1.2.2*e.2.2.2)<=2*m+1:=bits_le (intBits_mul_le b1.2.2 b2.2.2) (by omega)
   have dp:0 < e.1.2.2*e.2.2.2:=Int.mul_pos (hd _ me.1) (hd _ me.2)
   rw [take_snoc hz,List.foldl_append]
   generalize ((G.cycM l).take i).foldl step (0,1)=T at rt bt dt
   refine ⟨.ref xa,?_,.ref ya,?_,?_⟩
   ·show f2 _ _ _ [some (.ref la),some tv,some (.int (0+(i:Int))),v3,v4] H'=_
    simp only [f2,fVar,fC,gZ,gS,oJ,oB,gI,e0,gIx_l hl',e1]
   ·show f2 _ _ _ [some (.ref la),some tv,some (.int (0+(i:Int))),some _,v4] H'=_
    simp only [f2,fVar,fC,gZ,gS,oJ,oB,gI,e0,gIx_l hl',e2]
   ·refine ⟨tv,rfl,[.int (e.1.1*e.2.2.1-e.1.2.1*e.2.1),.int (e.1.2.2*e.2.2.2)],?_,(by show 2<=sizeLine;decide),fun p hp=>?_⟩
    ·show fCons _ _ [some (.ref la),some tv,some (.int (0+(i:Int))),some (.ref xa),some (.ref ya)] H'=_
     simp only [fCons,fNil,f2,fVar,fC,gZ,gS,oJ,oB,ix30 hx',ix31 hx',ix32 hx',ix30 hy',ix31 hy',ix32 hy',gI,gIc,m1,m2,m3,if_true]
    ·have sp:=same_new (o:=.tup [.int (e.1.1*e.2.2.1-e.1.2.1*e.2.1),.int (e.1.2.2*e.2.2.2)]) hp
     refine ⟨tv,.ref p,T,(e.1.1*e.2.2.1-e.1.2.1*e.2.1,e.1.2.2*e.2.2.2),rfl,rt.to (same_tup sp),⟨p,rfl,upd_same⟩,dt,dp,IntMulOk.of_le bt.1 n2 (by omega),IntMulOk.of_le n1 bt.2 (by omega),IntMulOk.of_le bt.2 n2 (by omega),fun r hr=>?_⟩
     have pb:=plus_bits (b:=(e.1.1*e.2.2.1-e.1.2.1*e.2.1,e.1.2.2*e.2.2.2)) bt ⟨n1,n2⟩ dt dp
     refine ⟨.ref r,_,_,_,rfl,(s1.trans sp).trans (same_new hr),⟨r,rfl,upd_same⟩,?_,pb.2⟩
     have:1+(i+1)*(2*m+2)=1+i*(2*m+2)+(2*m+1)+1:=by rw [Nat.add_mul,Nat.one_mul];omega
     rw [this]
     exact pb.1
  ·rintro σ H' ⟨tv,v2,v3,v4,rfl,s1,rt,_⟩
   have:(G.cycM l).take us.length=G.cycM l:=by rw [le,<- cyc_len l,List.take_length]
   rw [this] at rt
   exact ⟨tv,rfl,k H' _ s1 rt⟩
theorem cnt_le {i n:Nat}(hi:i<=9)(h:2 ^ i*n<=3 ^ i*9):n<=400:=by
 match i,hi with
 | 0,_=>simp at h;omega
 | 1,_=>simp at h;omega
 | 2,_=>simp at h;omega
 | 3,_=>simp at h;omega
 | 4,_=>simp at h;omega
 | 5,_=>simp at h;omega
 | 6,_=>simp at h;omega
 | 7,_=>simp at h;omega
 | 8,_=>simp at h;omega
 | 9,_=>simp at h;omega
theorem pw_le {i:Nat}(hi:i<=9):2 ^ i<=512:=by
 have:2 ^ i<=2 ^ 9:=Nat.pow_le_pow_right (by decide) hi
 simpa using this
def spCommon:Sp:=fun vs H Q _=>∃ v u a b,vs=[v,u]/\Ls Rp H v a/\Ls Rp H u b/\MdL a/\MdL b/\a.length<=9/\b.length<=9/\∀ H' z,Same H H'->Rp H' z (G.overlapM a b)->Q z H'
theorem scCommon:FnScope ["corners","others","points","side","place"] ["corners","others"] (defScope sCommon):=⟨rfl,rfl,rfl,by decide +kernel,rfl,by decide +kernel,by decide +kernel⟩
theorem ok_common (B:Blt mg)(S:Src K mg "twice_common_area" sCommon ["corners","others"]) (D1:Def P w K mg base "sides_of" 1 ["corners"] spSides) (D2:Def P w K mg base "cut" 35 ["points","side"] spCut) (D3:Def P w K mg base "twice_point_area" 36 ["points"] spPArea) :
  Def P w K mg base "twice_common_area" 37 ["corners","others"] spCommon:=by
 refine def_ok S scCommon (fun vs H Q E h=>?_) (fun f cdv A outer s H vs Q E hr h=>?_)
 ·obtain ⟨v,u,a,b,rfl,_⟩:=h
  rfl
 ·obtain ⟨v,u,a,b,rfl,hA,hB,ma,mb,la,lb,k⟩:=h
  obtain ⟨l1,us1,rfl,hl1,all1⟩:=id hA
  obtain ⟨l2,us2,rfl,hl2,all2⟩:=id hB
  have hr1:Room 1 _:=hr.mono (by decide)
  have hr35:Room 35 _:=hr.mono (by decide)
  refine ⟨_,pss_cons (ps_if (PW.pt (pw_or (pt_lt (pp_callB call_len_seq gLen_ok rfl B.len boot_lenH (pq_cons (pp 0) pq_nil)) pp_int) (pw_or1 (pt_lt (pp_callB call_len_seq gLen_ok rfl B.len boot_lenH (pq_cons (pp 1) pq_nil)) pp_int)))) (pss_one (ps_ret (pe_tup (pq_cons pp_int (pq_cons pp_int pq_nil))))) pss_nil)
   (pss_cons (ps_setLc (i:=2) (own:=[("place",4)]) rfl scCommon.nd rfl rfl (sw_true rfl rfl rfl rfl) (pi_list (pp 0)) (blkOk_by (by show blkC ["corners","others","points","side","place"] (defScope sCommon) _ _=true;decide +kernel))
    (fun _ _ _ _ _=>pg_name (i:=4) scCommon.nd rfl (Or.inl rfl)) (fun _ _ _ _ _=>pts_nil) (fun _ _ _ _ _=>pe_tup (pq_cons (pp_ix (pp 4) pp_int) (pq_cons (pp_ix (pp 4) pp_int) (pq_cons pp_int pq_nil)))))
   (pss_cons (ps_for PassesOwn.never rfl (pi_list (pe_def D1 hr1 rfl (pq_cons (pp 1) pq_nil))) (pg_name (i:=3) scCommon.nd rfl (Or.inl rfl)) (pss_one (ps_set (i:=2) scCommon.nd rfl (Or.inl rfl) (pe_def D2 hr35 rfl (pq_cons (pp 2) (pq_cons (pp 3) pq_nil))))))
   (pss_one (ps_ret (pe_def D3 hr rfl (pq_cons (pp 2) pq_nil)))))),?_⟩
  have le1:us1.length=a.length:=all1.length
  have le2:us2.length=b.length:=all2.length
  have out:(a.length < 3\/b.length < 3)->tRet (tTup (tPA (fCons (fC (.int 0)) (fCons (fC (.int 1)) fNil)))) {nx:=fun _ H'=>Q .non H',rt:=Q} [some (.ref l1),some (.ref l2),none,none,none] H:=fun c=>by
   refine ⟨[.int 0,.int 1],rfl,(by show 2<=sizeLine;decide),fun p hp=>k _ _ (same_new hp) ?_⟩
   unfold G.overlapM
   rw [if_pos c]
   exact ⟨p,rfl,upd_same⟩
  refine ⟨decide ((us1.length:Int) < 3),?_,ite_bl (fun c=>?_) (fun c=>?_)⟩
  ·show f2 _ (fCall gLen _) _ [some (.ref l1),some (.ref l2),none,none,none] H=_
   simp only [fCall,fCons,fNil,f2,fVar,fC,gZ,oJ,oB,gLen_l hl1,gI]
  ·have c:=of_decide_eq_true c
   exact (if_pos rfl).mpr (out (.inl (by omega)))
  ·have c:=of_decide_eq_false c
   refine ⟨decide ((us2.length:Int) < 3),?_,ite_bl (fun c2=>?_) (fun c2=>?_)⟩
   ·show f2 _ (fCall gLen _) _ [some (.ref l1),some (.ref l2),none,none,none] H=_
    simp only [fCall,fCons,fNil,f2,fVar,fC,gZ,gS,oJ,oB,gLen_l hl2,gI]
   ·have c2:=of_decide_eq_true c2
    exact out (.inr (by omega))
   ·have c2:=of_decide_eq_false c2
    refine ⟨.ref l1,rfl,l1,rfl,⟨_,SqL.of hl1⟩,fun D hD=>?_⟩
    refine lc_map (R':=Rh) tu_h hD (SqL.of hl1) (a.map fun p=>(p.1,p.2,1)) (by rw [List.length_map,le1]) (by omega) (fun x=>rfl) (fun i x z H' hx hz s2 Q2 hQ=>?_) (fun H1 ws s1 h1 a1=>?_)
    ·obtain ⟨p,hp,⟨xa,rfl,hxa⟩⟩:=all1.get' hx
     have ez:=map_at hp hz
     subst ez
     have hxa':=s2 _ _ hxa
     refine ⟨[.int p.1,.int p.2,.int 1],?_,(by show 3<=sizeLine;decide),fun r hr=>hQ _ _ (same_new hr) ⟨r,rfl,upd_same⟩⟩
     show fCons _ _ [some (.ref l1),some (.ref l2),none,none,some (.ref xa)] H'=_
     simp only [fCons,fNil,f2,fVar,fC,gZ,gS,oJ,oB,ix20 hxa',ix21 hxa']
    ·refine ⟨[.ref l2],rfl,.ref l2,b,rfl,hB.same tu_p s1,by omega,fun H2 u' t1 ⟨ls,ss,e,hls,alls⟩=>⟨ls,e,⟨ss,SqL.of hls⟩,?_⟩⟩
     have lss:ss.length=b.length:=by rw [alls.length,sides_cyc,cyc_len]
     refine for_list (K:=K) (a:=ls) (xs:=ss) (fun i σ H3=>∃ (pv:V) (v3 v4:Option V),σ=[some (.ref l1),some (.ref l2),some pv,v3,v4]/\Same H2 H3/\Ls Rh H3 pv (((G.sidesM b).take i).foldl G.cutM (a.map fun p=>(p.1,p.2,1))) /\
       (∀ p∈((G.sidesM b).take i).foldl G.cutM (a.map fun p=>(p.1,p.2,1)),G.Hd p)/\(∀ p∈((G.sidesM b).take i).foldl G.cutM (a.map fun p=>(p.1,p.2,1)),Bits (34*2 ^ i-24) p)/\2 ^ i*(((G.sidesM b).take i).foldl G.cutM (a.map fun p=>(p.1,p.2,1))).length<=3 ^ i*9)
      ⟨.ref D,none,none,rfl,Same.refl _,Ls.same tu_h ⟨D,ws,rfl,h1,a1⟩ t1,?_,?_,?_⟩ (fun i σ H' _ ⟨_,_,_,_,s5,_⟩=>SqL.of (s5 _ _ hls)) ?_ ?_
     ·intro p hp
      obtain ⟨x,_,rfl⟩:=List.mem_map.mp hp
      show (0:Int) < 1;decide
     ·intro p hp
      obtain ⟨x,hx,rfl⟩:=List.mem_map.mp hp
      have mx:=mdP_iff.mp (ma x hx)
      refine ⟨bits_of ?_,bits_of ?_,bits_of ?_⟩
      ·show x.1.natAbs < 1024;omega
      ·show x.2.natAbs < 1024;omega
      ·show 1 < 1024;decide
     ·show 2 ^ 0*(a.map _).length<=3 ^ 0*9
      rw [List.length_map]
      simp;omega
     ·rintro i y σ H3 hi ⟨pv,v3,v4,rfl,s3,lp,hd,hb,hc⟩
      obtain ⟨sd,hsd,rs⟩:=alls.get' hi
      have li:i < b.length:=by rw [<- lss];exact (List.getElem?_eq_some_iff.mp hi).1
      have i9:i<=9:=by omega
      have pw:=pw_le i9
      have p1:1<=2 ^ i:=Nat.one_le_two_pow
      have n4:=cnt_le i9 hc
      have ms:=sides_md mb (List.mem_of_getElem? hsd)
      rw [take_snoc hsd,List.foldl_append]
      generalize ((G.sidesM b).take i).foldl G.cutM (a.map fun p=>(p.1,p.2,1))=L at lp hd hb hc n4
      refine ⟨[pv,y],rfl,pv,y,L,sd,34*2 ^ i-24,rfl,lp,rs.to (same_tup s3),ms,hd,hb,by omega,by omega,fun H4 z s4 lz=>?_⟩
      refine ⟨z,some y,v4,rfl,s3.trans s4,lz,(G.cutM_val sd hd).2,fun p hp=>?_,?_⟩
      ·have:=cut_bits ms hb hd p hp
       have e:34*2 ^ (i+1)-24=2*(34*2 ^ i-24)+24:=by rw [Nat.pow_succ];omega
       rw [e];exact this
      ·have h3:=G.cutM_len L sd
       show 2 ^ (i+1)*(G.cutM L sd).length<=3 ^ (i+1)*9
       have q1:2 ^ i*(2*(G.cutM L sd).length)<=2 ^ i*(3*L.length):=Nat.mul_le_mul_left _ h3
       have q2:2 ^ (i+1)*(G.cutM L sd).length=2 ^ i*(2*(G.cutM L sd).length):=by rw [Nat.pow_succ,Nat.mul_assoc]
       have q3:2 ^ i*(3*L.length)=3*(2 ^ i*L.length):=by rw [Nat.mul_left_comm]
       have q4:3 ^ (i+1)*9=3*(3 ^ i*9):=by rw [Nat.pow_succ,Nat.mul_comm (3 ^ i) 3,Nat.mul_assoc]
       rw [q2,q4]
       omega
     ·rintro σ H3 ⟨pv,v3,v4,rfl,s3,lp,hd,hb,hc⟩
      have i9:ss.length<=9:=by omega
      have pw:=pw_le i9
      have n4:=cnt_le i9 hc
      have tk:(G.sidesM b).take ss.length=G.sidesM b:=by rw [alls.length,List.take_length]
      rw [tk] at lp hd hb n4
      refine ⟨[pv],rfl,pv,_,34*2 ^ ss.length-24,rfl,lp,hd,hb,?_,by omega,fun H4 z s4 rz=>?_⟩
      ·have h1:((G.sidesM b).foldl G.cutM (a.map fun p=>(p.1,p.2,1))).length+1<=401:=by omega
       have h2:2*(34*2 ^ ss.length-24)+2<=35000:=by omega
       have:=Nat.mul_le_mul h1 h2
       omega
      ·refine k _ _ (((s1.trans t1).trans s3).trans s4) ?_
       unfold G.overlapM
       rw [if_neg (by omega)]
       exact rz
end
end HR
namespace HR
open PySem PySem.Spec PyProof.Rows L2
open Vbecap (cross push hull edges whereIs)
def dP (p:P2):PyData:=.tuple [.int p.1,.int p.2]
theorem dp_of {K:PySem.W.Frag}{H:Hp}{v:V}{p:P2}(h:Rp H v p):Dp K H v (dP p):=by
 obtain ⟨a,rfl,h⟩:=h
 exact .tup (SqT.of h) (.cons (.int _) (.cons (.int _) .nil))
theorem dP_shaped (p:P2):SeqAt.shaped (dP p)=true:=by
 rfl
theorem dP_eqv (p q:P2):PyData.eqv (dP p) (dP q)=decide (p=q):=by
 unfold dP
 show (PyData.eqvAll [.int p.1,.int p.2] [.int q.1,.int q.2])=_
 show ((p.1 == q.1) && ((p.2 == q.2) && true))=_
 rw [Bool.and_true,Bool.eq_iff_iff,Bool.and_eq_true,beq_iff_eq,beq_iff_eq,decide_eq_true_iff]
 exact ⟨fun h=>Prod.ext h.1 h.2,fun h=>by rw [h];exact ⟨rfl,rfl⟩⟩
section
variable {K:PySem.W.Frag} {a:Addr} {us:List V} {α:Type} {R:Hp->V->α->Prop} {xs:List α} {j:Nat} {tt:TT} {vs:List Nat} {σ:L2.St} {H1:Hp} {D:Addr} {Qd:Hp->Prop}
theorem filter_snoc {q:α->Bool}{l:List α}{i:Nat}{x:α}(hx:l[i]?=some x):(l.take (i+1)).filter q=(l.take i).filter q++(if q x=true then [x] else []):=by
 rw [take_snoc hx,List.filter_append]
 congr 1
 by_cases h:q x=true
 ·rw [if_pos h];simp [h]
 ·rw [if_neg h];simp [h]
theorem lc_filter (tu:Tu R)(hD:H1 D=none)(hl:SqL K H1 a us)(hall:All (R H1) us xs)(hsz:us.length<=100000)(q:α->Bool)(hw:∀ x,wipe ((wipe σ vs).set j (some x)) vs=wipe σ vs)(hj:∀ x H,fVar j ((wipe σ vs).set j (some x)) H=some x)
  (hs:∀ (i:Nat) x z H',us[i]?=some x->xs[i]?=some z->R H' x z->Same H1 H'->∀ Qb:Bool->Hp->Prop,(∀ H3,Same H' H3->Qb (q z) H3)->tt ((wipe σ vs).set j (some x)) H' Qb)
  (hd:∀ H' ws,Same H1 H'->H' D=some (.lst ws)->All (R H') ws (xs.filter q)->Qd H') :
  ∃ W:Nat->Nat->Hp->Prop,(∃ m,W 0 m (upd H1 D (.lst [])))/\∀ i m H,W i m H ->
   ((Itl K a).stop i H/\Qd H)\/((Itl K a).go i H/\∃ Nx:Hp->Prop,(∀ H',Nx H'->∃ m',m' < m/\W (i+1) m' H')/\∀ x H',(Itl K a).yld i H x H'->gName j x (wipe σ vs) H' fun σ2 H2=>wipe σ2 vs=wipe σ vs/\tt σ2 H2 fun b H3 =>
    if b=true then tP (fVar j) σ2 H3 fun y H4=>∃ acc,H4 D=some (.lst acc)/\acc.length < sizeLine/\Nx (upd H4 D (.lst (acc++[y]))) else Nx H3):=by
 refine lc_list (K:=K) (a:=a) (xs:=us) (fun i H'=>Same H1 H'/\∃ ws,H' D=some (.lst ws)/\All (R H') ws ((xs.take i).filter q)) ⟨same_new hD,[],upd_same,.nil⟩ (fun i H' _ h=>h.1.seq hl) (fun i x H' hx h=>?_) (fun H' h=>?_)
 ·obtain ⟨s1,ws,h1,a1⟩:=h
  refine ⟨hw x,?_⟩
  obtain ⟨z,hz,r⟩:=hall.get' hx
  refine hs i x z H' hx hz (tu _ _ _ _ r (same_tup s1)) s1 _ fun H3 s3=>ite_bl (fun c=>?_) (fun c=>?_)
  ·have h3:=same_at s3 h1
   refine ⟨x,hj x H3,ws,h3,?_,same_upd (s1.trans s3) hD,ws++[x],upd_same,?_⟩
   ·have:ws.length<=100000:=by
     rw [a1.length]
     have:=List.length_filter_le q (xs.take i)
     have:(xs.take i).length<=xs.length:=by rw [List.length_take];omega
     have:=hall.length
     omega
    exact Nat.lt_of_le_of_lt this (by decide)
   ·rw [filter_snoc hz,if_pos c]
    exact ((a1.imp fun _ _ z=>tu _ _ _ _ z (same_tup s3)).append (All.one (tu _ _ _ _ r (same_tup (s1.trans s3))))).imp fun _ _ z=>tu _ _ _ _ z (stup_upd h3)
  ·refine ⟨s1.trans s3,ws,same_at s3 h1,?_⟩
   rw [filter_snoc hz,if_neg (by rw [c];decide),List.append_nil]
   exact a1.imp fun _ _ z=>tu _ _ _ _ z (same_tup s3)
 ·obtain ⟨s1,ws,h1,a1⟩:=h
  rw [hall.length,List.take_length] at a1
  exact hd H' ws s1 h1 a1
end
theorem cast_max (a b:Nat):(max (a:Int) (b:Int))=((max a b:Nat):Int):=by omega
abbrev sAhead:Stmt:=top 35
abbrev sDepthOf:Stmt:=top 36
abbrev gAhead:=F3 fun p q r=>.bl (G.ahead p q r)
section
variable {P:Program} {w:World} {K:PySem.W.Frag} {mg:Str->Option Value} {base:Heap}
theorem scAhead:FnScope ["place","first","other","turned"] ["place","first","other"] (defScope sAhead):=⟨rfl,rfl,rfl,by decide +kernel,rfl,by decide +kernel,by decide +kernel⟩
theorem ok_ahead (S:Src K mg "ahead" sAhead ["place","first","other"]) (D1:Def P w K mg base "turn_of" 1 ["a","b","c"] (spP gTurn)) (D2:Def P w K mg base "along" 1 ["a","b","c"] (spP gAlong)):Def P w K mg base "ahead" 2 ["place","first","other"] (spP gAhead):=by
 refine def_ok S scAhead (fun vs H Q E h=>?_) (fun f cdv A outer s H vs Q E hr h=>?_)
 ·obtain ⟨v,h,_⟩:=h
  obtain ⟨a,b,c,p,q,r,rfl,_⟩:=of_F3 h
  rfl
 ·obtain ⟨v,h,k⟩:=h
  obtain ⟨va,vb,vc,p,q,r,rfl,ra,rb,rc,sp,sq,sr,rfl⟩:=of_F3 h
  refine ⟨_,pss_cons (ps_set (i:=3) scAhead.nd rfl (Or.inl rfl) (pp_def D1 hr rfl (pq_cons (pp 0) (pq_cons (pp 1) (pq_cons (pp 2) pq_nil)))))
   (pss_cons (ps_if (pt_ne (pp 3) pp_int) (pss_one (ps_ret (pp_gt (pp 3) pp_int))) pss_nil)
   (pss_one (ps_ret (pp_gt (pp_def D2 hr rfl (pq_cons (pp 0) (pq_cons (pp 1) (pq_cons (pp 2) pq_nil)))) pp_int)))),?_⟩
  have e1:F3 (fun p q r=>V.int (cross p q r)) [va,vb,vc] H=some (.int (cross p q r)):=F3_of ra rb rc sp sq sr
  have e2:F3 (fun p q r=>V.int (G.along p q r)) [va,vb,vc] H=some (.int (G.along p q r)):=F3_of ra rb rc sp sq sr
  refine ⟨.int (cross p q r),e1,_,rfl,ite_bl (fun c=>?_) (fun c=>?_)⟩
  ·have c:¬ cross p q r=0:=by simpa using c
   refine ⟨_,rfl,?_⟩
   unfold G.ahead at k
   rw [if_pos c] at k
   exact k
  ·have c:cross p q r=0:=by simpa using c
   refine ⟨.bl (decide (0 < G.along p q r)),?_,?_⟩
   ·show f2 _ (fCall gAlong _) _ [some va,some vb,some vc,_] H=_
    simp only [fCall,fCons,fNil,f2,fVar,fC,gZ,gS,oJ,oB,e2,gI]
   ·unfold G.ahead at k
    rw [if_neg (by simpa using c)] at k
    exact k
def spDepthOf:Sp:=fun vs H Q _=>∃ v u l p,vs=[v,u]/\Ls Rp H v l/\Rp H u p/\MdL l/\mdP p=true/\l.length<=1000/\∀ H',Same H H'->Q (.int (G.depthM l p:Nat)) H'
theorem scDepthOf:FnScope ["sightings","place","apart","most","first","kept","other"] ["sightings","place"] (defScope sDepthOf):=⟨rfl,rfl,rfl,by decide +kernel,rfl,by decide +kernel,by decide +kernel⟩
theorem ok_depthof (B:Blt mg)(S:Src K mg "depth_of" sDepthOf ["sightings","place"]) (D1:Def P w K mg base "ahead" 2 ["place","first","other"] (spP gAhead)):Def P w K mg base "depth_of" 3 ["sightings","place"] spDepthOf:=by
 refine def_ok S scDepthOf (fun vs H Q E h=>?_) (fun f cdv A outer s H vs Q E hr h=>?_)
 ·obtain ⟨v,u,l,p,rfl,_⟩:=h
  rfl
 ·obtain ⟨v,u,l,p,rfl,⟨la,us,rfl,hl,hall⟩,rp,ml,mp,hlen,k⟩:=h
  have hu:=hr.units
  refine ⟨_,pss_cons (ps_setLc (i:=2) (own:=[("other",6)]) rfl scDepthOf.nd rfl rfl (sw_true rfl rfl rfl rfl) (pi_list (pp 0)) (blkOk_by (by show blkC ["sightings","place","apart","most","first","kept","other"] (defScope sDepthOf) _ _=true;decide +kernel))
    (fun _ _ _ _ _=>pg_name (i:=6) scDepthOf.nd rfl (Or.inl rfl)) (fun _ _ _ _ _=>pts_one (pt_cmpR (r:=rNeD K) (op_neD hu) (pp 6) (pp 1) (nomark _))) (fun _ _ _ _ _=>pp 6))
   (pss_cons (ps_set (i:=3) scDepthOf.nd rfl (Or.inl rfl) pp_int)
   (pss_cons (ps_for PassesOwn.never rfl (pi_list (pp 2)) (pg_name (i:=4) scDepthOf.nd rfl (Or.inr rfl))
    (pss_cons (ps_setLc (i:=5) (own:=[("other",6)]) rfl scDepthOf.nd rfl rfl (sw_true rfl rfl rfl rfl) (pi_list (pp 2)) (blkOk_by (by show blkC ["sightings","place","apart","most","first","kept","other"] (defScope sDepthOf) _ _=true;decide +kernel))
     (fun _ _ _ _ _=>pg_name (i:=6) scDepthOf.nd rfl (Or.inl rfl)) (fun _ _ _ _ _=>pts_one (pt_pure (pp_def D1 hr rfl (pq_cons (pp 1) (pq_cons (pp 4) (pq_cons (pp 6) pq_nil)))))) (fun _ _ _ _ _=>pp 6))
    (pss_one (ps_set (i:=3) scDepthOf.nd rfl (Or.inl rfl) (pp_callB (call_max2 rfl) gMax2_ok rfl B.max boot_max (pq_cons (pp 3) (pq_cons (pp_callB call_len_seq gLen_ok rfl B.len boot_lenH (pq_cons (pp 5) pq_nil)) pq_nil)))))))
   (pss_one (ps_ret (pp_sub (pp_callB call_len_seq gLen_ok rfl B.len boot_lenH (pq_cons (pp 0) pq_nil)) (pp 3)))))),?_⟩
  have le:us.length=l.length:=hall.length
  refine ⟨.ref la,rfl,la,rfl,⟨_,SqL.of hl⟩,fun D hD=>?_⟩
  refine lc_filter (R:=Rp) (j:=6) tu_p hD (SqL.of hl) hall (by omega) (fun o=>decide (o≠p)) (fun x=>rfl) (fun x H=>rfl) (fun i x z H' hx hz rz s1 Qb hQ=>?_) (fun H1 ws s1 h1 a1=>?_)
  ·refine ⟨x,rfl,u,rfl,dP z,dP p,dp_of rz,dp_of (rp.to (same_tup s1)),dP_shaped _,dP_shaped _,_,rfl,?_⟩
   rw [dP_eqv]
   have:(!decide (z=p))=decide (z≠p):=by by_cases q:z=p<;>simp [q]
   rw [this]
   exact hQ _ (Same.refl _)
  ·have mA:∀ o∈l.filter fun o=>decide (o≠p),mdP o=true:=fun o ho=>ml o (List.mem_filter.mp ho).1
   have lA:(l.filter fun o=>decide (o≠p)).length<=1000:=Nat.le_trans (List.length_filter_le _ _) hlen
   have hmost:G.depthM l p=l.length-(l.filter fun o=>decide (o≠p)).foldl (fun m f=>max m ((l.filter fun o=>decide (o≠p)).filter fun o=>G.ahead p f o).length) 0:=rfl
   have hmle:(l.filter fun o=>decide (o≠p)).foldl (fun m f=>max m ((l.filter fun o=>decide (o≠p)).filter fun o=>G.ahead p f o).length) 0<=l.length:=G.most_le l p
   rw [hmost] at k
   generalize (l.filter fun o=>decide (o≠p))=ap at a1 mA lA k hmle
   have lw:ws.length=ap.length:=a1.length
   refine ⟨.int 0,rfl,⟨.ref D,rfl,D,rfl,⟨_,SqL.of h1⟩,for_list (K:=K) (a:=D) (xs:=ws) (fun i σ H2=>∃ (v4 v5:Option V),σ=[some (.ref la),some u,some (.ref D),some (.int ((ap.take i).foldl (fun m f=>max m (ap.filter fun o=>G.ahead p f o).length) 0:Nat)),v4,v5,none]/\Same H1 H2)
    ⟨none,none,rfl,Same.refl _⟩ (fun i σ H' _ ⟨_,_,_,s5⟩=>SqL.of (s5 _ _ h1)) ?_ ?_⟩⟩
   ·rintro i y σ H2 hi ⟨v4,v5,rfl,s2⟩
    obtain ⟨fo,hfo,rfo⟩:=a1.get' hi
    have aH2:=a1.imp fun _ _ z=>tu_p _ _ _ _ z (same_tup s2)
    refine ⟨.ref D,rfl,D,rfl,⟨_,SqL.of (s2 _ _ h1)⟩,fun D2 hD2=>?_⟩
    refine lc_filter (R:=Rp) (j:=6) tu_p hD2 (SqL.of (s2 _ _ h1)) aH2 (by omega) (fun o=>G.ahead p fo o) (fun x=>rfl) (fun x H=>rfl) (fun i x z H' hx hz rz s3 Qb hQ=>?_) (fun H3 ws3 s3 h3 a3=>?_)
    ·have e:F3 (fun p q r=>V.bl (G.ahead p q r)) [u,y,x] H'=some (.bl (G.ahead p fo z)):=F3_of (rp.to (same_tup ((s1.trans s2).trans s3))) (rfo.to (same_tup (s2.trans s3))) rz (md_sm mp) (md_sm (mA fo (List.mem_of_getElem? hfo))) (md_sm (mA z (List.mem_of_getElem? hz)))
     exact ⟨_,e,hQ _ (Same.refl _)⟩
    ·refine ⟨.int (max ((ap.take i).foldl (fun m f=>max m (ap.filter fun o=>G.ahead p f o).length) 0:Nat) (ws3.length:Nat)),?_,?_⟩
     ·show fCall gMax2 _ [some (.ref la),some u,some (.ref D),some (.int _),some y,some (.ref D2),none] H3=_
      simp only [fCall,fCons,fNil,fVar,gZ,gS,oJ,oB,gLen_l h3,gMax2]
     ·refine ⟨some y,some (.ref D2),?_,s2.trans s3⟩
      have:(max ((ap.take i).foldl (fun m f=>max m (ap.filter fun o=>G.ahead p f o).length) 0:Nat) (ws3.length:Nat):Int)=(((ap.take (i+1)).foldl (fun m f=>max m (ap.filter fun o=>G.ahead p f o).length) 0:Nat):Int):=by
       rw [take_snoc hfo,List.foldl_append,a3.length]
       exact cast_max _ _
      rw [this]
      rfl
   ·rintro σ H2 ⟨v4,v5,rfl,s2⟩
    rw [lw,List.take_length]
    have hl2:=(s1.trans s2) _ _ hl
    refine ⟨.int ((l.length:Int)-((ap.foldl (fun m f=>max m (ap.filter fun o=>G.ahead p f o).length) 0:Nat):Int)),?_,?_⟩
    ·show f2 _ (fCall gLen _) _ [some (.ref la),some u,some (.ref D),some (.int _),v4,v5,none] H2=_
     simp only [fCall,fCons,fNil,f2,fVar,gZ,gS,oJ,oB,gLen_l hl2,gI,le]
    ·have kk:=k H2 (s1.trans s2)
     have:(l.length:Int)-((ap.foldl (fun m f=>max m (ap.filter fun o=>G.ahead p f o).length) 0:Nat):Int)=((l.length-ap.foldl (fun m f=>max m (ap.filter fun o=>G.ahead p f o).length) 0:Nat):Int):=by omega
     rw [this]
     exact kk
end
end HR
namespace HR
open PySem PySem.Spec PyProof.Rows L2
open Vbecap (cross push hull edges whereIs layers)
section
variable {X:Cx}
theorem get_list:PGet X (fun o i H Q=>∃ p xs k v,o=.ref p/\i=.int k/\0<=k/\H p=some (.lst xs)/\xs[k.toNat]?=some v/\Q v H):=by
 intro pins s σ H o i ov iv Q I ro ri h
 obtain ⟨p,xs,k,v,rfl,rfl,h0,hp,hx,q⟩:=h
 cases ro
 obtain ⟨t,rfl⟩:=ri
 obtain ⟨its,n,r,ho,hz⟩:=I.lst hp
 obtain ⟨u,eu,ru⟩:=r.get hx
 have hk:k.toNat < its.length:=(List.getElem?_eq_some_iff.mp eu).1
 have hl:=r.length
 have hn:=line63
 exact wpAny_getItem_list ⟨_,ho,rfl,n,rfl⟩ h0 (by omega) (by simpa using eu) ⟨v,H,I,ru,q⟩
theorem call_range1:CallR X (.type "range") (fun xs H Q=>∃ j:Int,xs=[.int j]/\∀ p,H p=none->Q (.ref p) (upd H p (.rng 0 j))):=by
 intro pins s σ H xs us Q I r h
 obtain ⟨j,rfl,q⟩:=h
 obtain ⟨u,rfl,t,rfl⟩:=vals1 r
 refine call_range_1 ?_
 exact ⟨.ref s.heap.objs.size,_,I.laid (fun b o e=>Heap.get?_push_of_some _ e) (Nat.le_refl _) (show ObjOk X.prog X.w _ _ _ (.rng 0 j) from ⟨_,_,_,Heap.get?_push_size _ rfl⟩),rfl,q _ (I.hok.fresh (Nat.le_refl _))⟩
theorem call_list_rng (hc:X.calm=true):CallR X (.type "list") (fun xs H Q=>∃ p n,xs=[.ref p]/\H p=some (.rng 0 ((n:Nat):Int))/\n<=100000/\∀ l,H l=none->Q (.ref l) (upd H l (.lst ((List.range n).map fun i=>V.int (i:Nat))))):=by
 intro pins s σ H xs us Q I r h
 obtain ⟨p,n,rfl,hp,hn,q⟩:=h
 obtain ⟨u,rfl,rx⟩:=vals1 r
 cases rx
 obtain ⟨t,u,v,ho⟩:=I.hok p _ hp
 refine call_list_range (a:=0) (b:=(n:Int)) (c:=1) (n:=n) (I.ok.hd hc) ho (small_one (by omega) (by omega) (by omega) (by omega)) (by rw [rangeSize_one];split<;>omega) (by omega) fun h' tk acc c' kp e hit=>?_
 refine ⟨.ref s.heap.objs.size,_,I.laid kp (Nat.le_refl _) (show ObjOk X.prog X.w _ h' _ (.lst ((List.range n).map fun i=>V.int (i:Nat))) from ⟨?_,acc.toList,c',?_,by simpa using e⟩),rfl,q _ (I.hok.fresh (Nat.le_refl _))⟩
 ·simp only [List.length_map,List.length_range]
  exact Nat.le_trans hn (by decide)
 ·have:∀ (m:Nat) (l:List Value) (k:Nat),l.length=m->(∀ (i:Nat) v,l[i]?=some v->∃ t,v=Value.int (((k+i:Nat)):Int) t)->Vals ((List.range' k m).map fun i=>V.int (i:Nat)) l:=by
   intro m
   induction m with
   | zero=>intro l k hl _;have:=List.length_eq_zero_iff.mp hl;subst this;exact .nil
   | succ m ih =>
    intro l k hl hv
    cases l with
    | nil=>simp at hl
    | cons x l =>
     obtain ⟨t,e⟩:=hv 0 x rfl
     refine .cons ⟨t,by simpa using e⟩ (ih l (k+1) (by simpa using hl) fun i v hi=>?_)
     obtain ⟨t,e⟩:=hv (i+1) v hi
     exact ⟨t,by rw [e];congr 1;omega⟩
  rw [List.range_eq_range']
  refine this n acc.toList 0 (by simpa using hit.1) fun i v hi=>?_
  obtain ⟨t,e⟩:=hit.2 i v (by simpa using hi)
  exact ⟨t,by rw [e];congr 1;omega⟩
end
abbrev sLayersOf:Stmt:=top 37
def nV (ns:List Nat):List V:=ns.map fun n=>V.int (n:Nat)
theorem nV_at {ns:List Nat}{i n:Nat}(h:ns[i]?=some n):(nV ns)[i]?=some (.int (n:Nat)):=by unfold nV;rw [List.getElem?_map,h];rfl
theorem nV_get {ns:List Nat}{i:Nat}{v:V}(h:(nV ns)[i]?=some v):∃ n,ns[i]?=some n/\v=.int (n:Nat):=by
 unfold nV at h
 rw [List.getElem?_map] at h
 cases e:ns[i]? with
 | none=>rw [e] at h;cases h
 | some n=>rw [e] at h;exact ⟨n,rfl,(Option.some.inj h).symm⟩
theorem nV_all:∀ (ns:List Nat),All (fun v (n:Nat)=>v=V.int (n:Nat)) (nV ns) ns
 | []=>.nil
 | n::ns=>.cons rfl (nV_all ns)
theorem all_nV:∀ {vs:List V} {ns:List Nat},All (fun v (n:Nat)=>v=V.int (n:Nat)) vs ns->vs=nV ns
 | _,_,.nil=>rfl
 | _,_,.cons h r=>by rw [h,all_nV r];rfl
def Rn (_:Hp)(v:V)(n:Nat):Prop:=v=.int (n:Nat)
theorem tu_n:Tu Rn:=fun _ _ _ _ h _=>h
section
variable {P:Program} {w:World} {K:PySem.W.Frag} {mg:Str->Option Value} {base:Heap}
def spCorners:Sp:=fun vs H Q _=>∃ v ps,vs=[v]/\Ls Rp H v ps/\MdL ps/\ps.length<=9/\∀ H' u,Same H H'->Ls Rp H' u (hull ps)->Q u H'
theorem hull_md {ps:List P2}(h:MdL ps):MdL (hull ps):=fun p hp=>by
 by_cases q:ps=[]
 ·subst q;simp [G.hull_nil] at hp
 ·exact h p ((G.hull_hf q).sub p hp)
def spLayersOf:Sp:=fun vs H Q _=>∃ v l,vs=[v]/\Ls Rp H v l/\MdL l/\l.length<=9/\∀ H' p,Same H H'->H' p=some (.lst (nV (layers l)))->Q (.ref p) H'
theorem scLayersOf:FnScope ["sightings","found","left","k","corners"] ["sightings"] (defScope sLayersOf):=⟨rfl,rfl,rfl,by decide +kernel,rfl,by decide +kernel,by decide +kernel⟩
theorem rep_flat (n:Nat)(v:V):(List.replicate n [v]).flatten=List.replicate n v:=by
 induction n with
 | zero=>rfl
 | succ n ih=>rw [List.replicate_succ,List.flatten_cons,ih,List.replicate_succ];rfl
theorem getD_at {l:List P2}{i:Nat}(h:i < l.length):l[i]?=some (l.getD i (0,0)):=by
 rw [List.getD_eq_getElem?_getD,List.getElem?_eq_getElem h];rfl
theorem ok_layersof (B:Blt mg)(Z:Zone mg)(S:Src K mg "layers_of" sLayersOf ["sightings"]) (k0:Nat) (D1:Def P w K mg base "corners_of" k0 ["sightings"] spCorners) (D2:Def P w K mg base "standing" 3 ["corners","place"] spStand) (hk:3<=k0) :
  Def P w K mg base "layers_of" (k0+1) ["sightings"] spLayersOf:=by
 refine def_ok S scLayersOf (fun vs H Q E h=>?_) (fun f cdv A outer s H vs Q E hr h=>?_)
 ·obtain ⟨v,l,rfl,_⟩:=h
  rfl
 ·obtain ⟨v,l,rfl,⟨la,us,rfl,hl,hall⟩,ml,hlen,k⟩:=h
  have hr3:Room 3 _:=hr.mono hk
  refine ⟨_,pss_cons (ps_set (i:=1) scLayersOf.nd rfl (Or.inl rfl) (pe_op op_rep (pe_lst (pq_cons pp_int pq_nil)) (pp_callB call_len_seq gLen_ok rfl B.len boot_lenH (pq_cons (pp 0) pq_nil))))
   (pss_cons (ps_set (i:=2) scLayersOf.nd rfl (Or.inl rfl) (pe_callTy (call_list_rng rfl) rfl B.list boot_list (pa_cons (pe_callTy call_range1 rfl B.range boot_range (pq_cons (pp_callB call_len_seq gLen_ok rfl B.len boot_lenH (pq_cons (pp 0) pq_nil)) pq_nil)) pa_nil)))
   (pss_cons (ps_while PassesOwn.never (pt_gt (pp_callB call_len_seq gLen_ok rfl B.len boot_lenH (pq_cons (pp 2) pq_nil)) pp_int)
    (pss_cons (ps_for PassesOwn.never rfl (pi_list (pp 2)) (pg_name (i:=3) scLayersOf.nd rfl (Or.inl rfl)) (pss_one (ps_augS (pp 1) (pp 3) get_list pp_int ip_add set_list)))
    (pss_cons (ps_set (i:=4) scLayersOf.nd rfl (Or.inr rfl) (pe_def D1 hr rfl (pa_cons (pe_lc (own:=[("k",3)]) rfl scLayersOf.nd (pi_list (pp 2)) (blkOk_by (by show blkC ["sightings","found","left","k","corners"] (defScope sLayersOf) _ _=true;decide +kernel))
     (fun _ _ _ _ _=>pg_name (i:=3) scLayersOf.nd rfl (Or.inl rfl)) (fun _ _ _ _ _=>pts_nil) (fun _ _ _ _ _=>pp_ix (pp 0) (pp 3))) pa_nil)))
    (pss_one (ps_setLc (i:=2) (own:=[("k",3)]) rfl scLayersOf.nd rfl rfl (sw_true rfl rfl rfl rfl) (pi_list (pp 2)) (blkOk_by (by show blkC ["sightings","found","left","k","corners"] (defScope sLayersOf) _ _=true;decide +kernel))
     (fun _ _ _ _ _=>pg_name (i:=3) scLayersOf.nd rfl (Or.inl rfl)) (fun _ _ _ _ _=>pts_one (pt_cmpR op_eq (pe_def D2 hr3 rfl (pq_cons (pp 4) (pq_cons (pp_ix (pp 0) (pp 3)) pq_nil))) (pp_con Z.inn rfl) (nomark _))) (fun _ _ _ _ _=>pp 3))))))
   (pss_one (ps_ret (pp 1))))),?_⟩
  have le:us.length=l.length:=hall.length
  have lenV:∀ H',Same H H'->∀ (a b c d:Option V),fCall gLen (fCons (fVar 0) fNil) [some (.ref la),a,b,c,d] H'=some (.int us.length):=fun H' s' a b c d=>by
   simp only [fCall,fCons,fNil,fVar,gZ,oJ,oB,gLen_l (s' _ _ hl)]
  refine ⟨[.int 0],rfl,(by show 1<=sizeLine;decide),fun x hx=>?_⟩
  have sx:=same_new (o:=.lst [.int 0]) hx
  refine ⟨.int us.length,lenV _ sx _ _ _ _,x,us.length,[.int 0],rfl,rfl,upd_same,by omega,by omega,?_,fun fa hfa=>?_⟩
  ·show 1*((us.length:Int)).toNat<=sizeLine
   have:1*((us.length:Int)).toNat<=9:=by omega
   exact Nat.le_trans this (by decide)
  have e1:(List.replicate ((us.length:Int)).toNat [V.int 0]).flatten=nV (List.replicate l.length 0):=by
   rw [rep_flat]
   have:((us.length:Int)).toNat=l.length:=by omega
   rw [this]
   unfold nV
   rw [List.map_replicate];rfl
  rw [e1]
  have sf:=same_new (o:=.lst (nV (List.replicate l.length 0))) hfa
  have hfaN:H fa=none:=sx.free hfa
  refine ⟨[.int us.length],?_,us.length,rfl,fun y hy=>?_⟩
  ·show fCons (fCall gLen (fCons (fVar 0) fNil)) fNil [some (.ref la),some (.ref fa),none,none,none] _=_
   simp only [fCall,fCons,fNil,fVar,gZ,oJ,oB,gLen_l ((sx.trans sf) _ _ hl)]
  have sy:=same_new (o:=.rng 0 (us.length:Int)) hy
  refine ⟨y,us.length,rfl,upd_same,by omega,fun lv hlv=>?_⟩
  have sl:=same_new (o:=.lst ((List.range us.length).map fun i=>V.int (i:Nat))) hlv
  have s0:=((sx.trans sf).trans sy).trans sl
  have hf0:=sl _ _ (sy _ _ (show _ from (upd_same:upd _ fa _ fa=some (.lst (nV (List.replicate l.length 0))))))
  have e2:((List.range us.length).map fun i=>V.int (i:Nat))=nV (List.range l.length):=by rw [le];rfl
  rw [e2] at s0 hf0 ⊢
  generalize hH0:upd (upd (upd (upd H x (HO.lst [V.int 0])) fa (HO.lst (nV (List.replicate l.length 0)))) y (HO.rng 0 (us.length:Int))) lv (HO.lst (nV (List.range l.length)))=H0 at s0 hf0
  have hl0:H0 lv=some (.lst (nV (List.range l.length))):=by rw [<- hH0];exact upd_same
  have nfl:fa≠lv:=ne_of_none (sy _ _ (upd_same:upd _ fa _ fa=some (.lst (nV (List.replicate l.length 0))))) hlv
  refine while_by (fun σ H'=>∃ (lw:Addr) (t:Nat) (r left found:List Nat) (v3 v4:Option V),σ=[some (.ref la),some (.ref fa),some (.ref lw),v3,v4]/\Same H H'/\H' fa=some (.lst (nV found))/\H' lw=some (.lst (nV left))/\fa≠lw/\G.LInv l t r left found)
   (fun σ H'=>match σ with | [_,_,some (.ref lw),_,_]=>(match H' lw with | some (.lst vs)=>vs.length | _=>0) | _=>0) ⟨lv,0,_,_,_,none,none,rfl,s0,hf0,hl0,nfl,G.linv_start l⟩ ?_ ?_
  ·rintro σ H1 ⟨lw,t,r,left,found,v3,v4,rfl,s1,hf1,hl1,nf1,I⟩
   have lleft:(nV left).length=left.length:=by unfold nV;simp
   refine ⟨decide (0 < ((nV left).length:Int)),?_,ite_bl (fun c=>?_) (fun c=>?_)⟩
   ·show f2 _ (fCall gLen _) _ [some (.ref la),some (.ref fa),some (.ref lw),v3,v4] H1=_
    simp only [fCall,fCons,fNil,f2,fVar,fC,gZ,gS,oJ,oB,gLen_l hl1,gI]
   ·have c:=of_decide_eq_true c
    have hne:left≠[]:=fun q=>by rw [q] at c;simp [nV] at c
    obtain ⟨r',I',hlt⟩:=G.linv_step I hne
    have ml':∀ i∈left,i < l.length:=fun i hi=>by
     rw [I.lf] at hi
     exact List.mem_range.mp (List.mem_filter.mp hi).1
    refine ⟨_,rfl,lw,rfl,⟨_,SqL.of hl1⟩,for_list (K:=K) (a:=lw) (xs:=nV left) (fun i σ H2=>∃ (v3:Option V),σ=[some (.ref la),some (.ref fa),some (.ref lw),v3,v4]/\Same H H2/\H2 fa=some (.lst (nV (G.bump found (left.take i))))/\H2 lw=some (.lst (nV left)))
     ⟨v3,rfl,s1,hf1,hl1⟩ (fun i σ H' _ ⟨_,_,_,_,h5⟩=>SqL.of h5) ?_ ?_⟩
    ·rintro i y' σ H2 hi ⟨v3',rfl,s2,hf2,hl2⟩
     obtain ⟨n,hn,rfl⟩:=nV_get hi
     have nl:n < l.length:=ml' n (List.mem_of_getElem? hn)
     have lb:(G.bump found (left.take i)).length=l.length:=by rw [G.bump_len,I.fl]
     have gn:(G.bump found (left.take i))[n]?=some ((G.bump found (left.take i)).getD n 0):=by
      rw [List.getD_eq_getElem?_getD,List.getElem?_eq_getElem (by omega)];rfl
     have ln:(nV (G.bump found (left.take i))).length=l.length:=by unfold nV;rw [List.length_map,lb]
     refine ⟨_,rfl,.int (n:Nat),rfl,fa,_,_,_,rfl,rfl,by omega,hf2,by rw [Int.toNat_natCast];exact nV_at gn,_,rfl,_,_,rfl,rfl,fa,_,_,n,rfl,rfl,hf2,?_,?_⟩
     ·unfold ixN
      rw [if_pos (by omega),if_pos (by rw [ln];omega),Int.toNat_natCast]
     ·refine ⟨some (.int (n:Nat)),rfl,same_upd s2 hfaN,?_,?_⟩
      ·rw [upd_same]
       have:G.bump found (left.take (i+1))=(G.bump found (left.take i)).set n ((G.bump found (left.take i)).getD n 0+1):=by
        unfold G.bump;rw [take_snoc hn,List.foldl_append];rfl
       rw [this]
       unfold nV
       rw [List.map_set]
       congr 3
      ·rw [upd_ne (fun q=>nf1 q.symm)];exact hl2
    ·rintro σ H2 ⟨v3',rfl,s2,hf2,hl2⟩
     have tk:left.take (nV left).length=left:=by rw [lleft,List.take_length]
     rw [tk] at hf2
     have hl2':=s2 _ _ hl
     refine ⟨.ref lw,rfl,lw,rfl,⟨_,SqL.of hl2⟩,fun D hD=>?_⟩
     refine lc_map (R':=Rp) tu_p hD (SqL.of hl2) (left.map fun k=>l.getD k (0,0)) (by rw [List.length_map,lleft]) (by have:=I.sz;omega) (fun x=>rfl) (fun i x z H' hx hz s3 Q2 hQ=>?_) (fun H3 ws s3 h3 a3=>?_)
     ·obtain ⟨n,hn,rfl⟩:=nV_get hx
      have ez:=map_at hn hz
      subst ez
      obtain ⟨u,hu,ru⟩:=hall.get (getD_at (ml' n (List.mem_of_getElem? hn)))
      refine ⟨u,?_,hQ _ _ (Same.refl _) (ru.to (same_tup (s2.trans s3)))⟩
      show f2 _ _ _ [some (.ref la),some (.ref fa),some (.ref lw),some (.int (n:Nat)),v4] H'=_
      simp only [f2,fVar,gZ,gS,oJ,oB,gIx_l (s3 _ _ hl2'),at_nat hu]
     ·have mL:MdL (left.map fun k=>l.getD k (0,0)):=fun p hp=>by
       obtain ⟨n,hn,rfl⟩:=List.mem_map.mp hp
       exact ml _ (List.mem_of_getElem? (getD_at (ml' n hn)))
      have lL:(left.map fun k=>l.getD k (0,0)).length<=9:=by rw [List.length_map];have:=I.sz;omega
      refine ⟨.ref D,_,rfl,⟨D,ws,rfl,h3,a3⟩,mL,lL,fun H4 cv s4 hcv=>?_⟩
      have s24:=s3.trans s4
      refine ⟨.ref lw,rfl,lw,rfl,⟨_,SqL.of (s24 _ _ hl2)⟩,fun D2 hD2=>?_⟩
      have lh:(hull (left.map fun k=>l.getD k (0,0))).length<=1000:=by
       have:=G.hull_len (left.map fun k=>l.getD k (0,0))
       omega
      refine lc_filter (R:=Rn) (xs:=left) (j:=3) tu_n hD2 (SqL.of (s24 _ _ hl2)) (nV_all left) (by have:=I.sz;omega) (fun k=>decide (whereIs (hull (left.map fun k=>l.getD k (0,0))) (l.getD k (0,0))=1)) (fun x=>rfl) (fun x H=>rfl) (fun i x z H' hx hz rz s5 Qb hQ=>?_) (fun H5 ws5 s5 h5 a5=>?_)
      ·have nz:=ml' z (List.mem_of_getElem? hz)
       obtain ⟨u,hu,ru⟩:=hall.get (getD_at nz)
       have rz':x=.int (z:Nat):=rz
       subst rz'
       refine ⟨[cv,u],?_,cv,u,hull (left.map fun k=>l.getD k (0,0)),l.getD z (0,0),rfl,hcv.same tu_p s5,ru.to (same_tup ((s2.trans s24).trans s5)),(hull_md mL).sm,md_sm (ml _ (List.mem_of_getElem? (getD_at nz))),lh,fun H6 s6=>⟨_,rfl,rfl,_,rfl,?_⟩⟩
       ·show fCons _ _ [some (.ref la),some (.ref fa),some (.ref lw),some (.int (z:Nat)),some cv] H'=_
        simp only [fCons,fNil,f2,fVar,gZ,gS,oJ,oB,gIx_l (s5 _ _ (s24 _ _ hl2')),at_nat hu]
       ·have:decide (V.int ((whereIs (hull (left.map fun k=>l.getD k (0,0))) (l.getD z (0,0)):Nat):Int)=V.int 1)=decide (whereIs (hull (left.map fun k=>l.getD k (0,0))) (l.getD z (0,0))=1):=by
         by_cases q:whereIs (hull (left.map fun k=>l.getD k (0,0))) (l.getD z (0,0))=1
         ·rw [q];rfl
         ·rw [decide_eq_false q,decide_eq_false (fun z=>q (by injection z with z;omega))]
        rw [this]
        exact hQ _ s6
      ·have e5:ws5=nV (G.leftN l left):=all_nV a5
       rw [e5] at h5
       have s25:=s24.trans s5
       refine ⟨⟨D2,t+1,r',G.leftN l left,G.bump found left,v3',some cv,rfl,s2.trans s25,s25 _ _ hf2,h5,?_,I'⟩,?_⟩
       ·exact ne_of_none (s24 _ _ hf2) hD2
       ·show (match H5 D2 with | some (.lst vs)=>vs.length | _=>0) < (match H1 lw with | some (.lst vs)=>vs.length | _=>0)
        rw [h5,hl1]
        show (nV (G.leftN l left)).length < (nV left).length
        unfold nV
        rw [List.length_map,List.length_map]
        exact hlt
   ·have c:=of_decide_eq_false c
    have:left=[]:=List.length_eq_zero_iff.mp (by omega)
    subst this
    refine ⟨.ref fa,rfl,k H1 fa s1 ?_⟩
    rw [<- G.linv_end I]
    exact hf1
  ·rintro σ H' Q1 Q2 hQ ⟨b,h,q⟩
   exact ⟨b,h,hQ _ _ q⟩
end
end HR
namespace ST
open PySem PySem.SetTable
abbrev Up (l:List Nat):Prop:=l.Pairwise (· < ·)
theorem up_get {xs:Array Nat}(u:Up xs.toList){i j x y:Nat}(hi:xs[i]?=some x)(hj:xs[j]?=some y)(h:i < j):x < y:=by
 have u:=List.pairwise_iff_getElem.mp u
 obtain ⟨h1,e1⟩:=Array.getElem?_eq_some_iff.mp hi
 obtain ⟨h2,e2⟩:=Array.getElem?_eq_some_iff.mp hj
 have:=u i j (by simpa using h1) (by simpa using h2) h
 simp only [Array.getElem_toList] at this
 rw [e1,e2] at this;exact this
theorem below_go {xs:Array Nat}{j:Nat}(u:Up xs.toList):∀ (fuel lo hi:Nat),hi-lo<=fuel->lo<=hi->hi<=xs.size ->
  (∀ k x,k < lo->xs[k]?=some x->x < j)->(∀ k x,hi<=k->xs[k]?=some x->j<=x) ->
  below.go xs j fuel lo hi<=xs.size/\(∀ k x,k < below.go xs j fuel lo hi->xs[k]?=some x->x < j)/\(∀ k x,below.go xs j fuel lo hi<=k->xs[k]?=some x->j<=x)
 | 0,lo,hi,h1,h2,h3,h4,h5=>by
  have:lo=hi:=by omega
  subst this
  exact ⟨h3,h4,h5⟩
 | fuel+1,lo,hi,h1,h2,h3,h4,h5=>by
  unfold below.go
  by_cases h:lo < hi
  ·rw [if_pos h]
   have hm:(lo+hi) / 2 < xs.size:=by omega
   have hm2:xs[(lo+hi) / 2]?=some xs[(lo+hi) / 2]:=Array.getElem?_eq_getElem hm
   have hg:xs.getD ((lo+hi) / 2) j=xs[(lo+hi) / 2]:=by simp [Array.getD,hm]
   dsimp only
   rw [hg]
   by_cases c:xs[(lo+hi) / 2] < j
   ·rw [if_pos c]
    refine below_go u fuel _ hi (by omega) (by omega) h3 (fun k x hk hx=>?_) h5
    by_cases q:k=(lo+hi) / 2
    ·subst q;rw [hm2] at hx;cases hx;exact c
    ·exact Nat.lt_trans (up_get u hx hm2 (by omega)) c
   ·rw [if_neg c]
    refine below_go u fuel lo _ (by omega) (by omega) (by omega) h4 (fun k x hk hx=>?_)
    by_cases q:k=(lo+hi) / 2
    ·subst q;rw [hm2] at hx;cases hx;omega
    ·exact Nat.le_of_lt (Nat.lt_of_le_of_lt (by omega) (up_get u hm2 hx (by omega)))
  ·rw [if_neg h]
   have:lo=hi:=by omega
   subst this
   exact ⟨h3,h4,h5⟩
structure Cut (xs:Array Nat)(j r:Nat):Prop where
 le:r<=xs.size
 lo:∀ k x,k < r->xs[k]?=some x->x < j
 hi:∀ k x,r<=k->xs[k]?=some x->j<=x
theorem below_cut {xs:Array Nat}{j:Nat}(u:Up xs.toList):Cut xs j (below xs j):=by
 obtain ⟨a,b,c⟩:=below_go (xs:=xs) (j:=j) u xs.size 0 xs.size (by omega) (Nat.zero_le _) (Nat.le_refl _) (fun k x hk=>absurd hk (by omega)) (fun k x hk hx=>by
  have:=(Array.getElem?_eq_some_iff.mp hx).1;omega)
 exact ⟨a,b,c⟩
theorem Cut.uniq {xs:Array Nat}{j r s:Nat}(a:Cut xs j r)(b:Cut xs j s):r=s:=by
 rcases Nat.lt_trichotomy r s with h | h | h
 ·have hr:r < xs.size:=Nat.lt_of_lt_of_le h b.le
  have e:=Array.getElem?_eq_getElem hr
  have:=a.hi r _ (Nat.le_refl _) e
  have:=b.lo r _ h e
  omega
 ·exact h
 ·have hr:s < xs.size:=Nat.lt_of_lt_of_le h a.le
  have e:=Array.getElem?_eq_getElem hr
  have:=b.hi s _ (Nat.le_refl _) e
  have:=a.lo s _ h e
  omega
theorem cut_zero {xs:Array Nat}:Cut xs 0 0:=⟨Nat.zero_le _,fun k x h=>absurd h (by omega),fun _ _ _ _=>Nat.zero_le _⟩
theorem cut_next {xs:Array Nat}(u:Up xs.toList){i x:Nat}(h:xs[i]?=some x):Cut xs (x+1) (i+1):=by
 have hi:=(Array.getElem?_eq_some_iff.mp h).1
 refine ⟨by omega,fun k y hk hy=>?_,fun k y hk hy=>?_⟩
 ·by_cases q:k=i
  ·subst q;rw [h] at hy;cases hy;omega
  ·have:=up_get u hy h (by omega);omega
 ·have:=up_get u h hy (by omega);omega
theorem cut_at {xs:Array Nat}(u:Up xs.toList){i x:Nat}(h:xs[i]?=some x):Cut xs x i:=by
 have hi:=(Array.getElem?_eq_some_iff.mp h).1
 refine ⟨by omega,fun k y hk hy=>up_get u hy h hk,fun k y hk hy=>?_⟩
 by_cases q:k=i
 ·subst q;rw [h] at hy;cases hy;omega
 ·have:=up_get u h hy (by omega);omega
theorem has_nil (j:Nat):has #[] j=false:=by unfold has;simp
theorem slot_mem {t:SetTable}(u:Up t.place.toList){i j:Nat}(h:t.place[i]?=some j):t.slot j=.live i:=by
 unfold slot
 have e:below t.place j=i:=(below_cut u).uniq (cut_at u h)
 simp only [e,h,beq_self_eq_true,if_true]
theorem slot_free {t:SetTable}(hd:t.dummies = #[]){j:Nat}(h:j ∉ t.place.toList):t.slot j=.empty:=by
 unfold slot
 have:(t.place[below t.place j]? == some j)=false:=by
  rw [beq_eq_false_iff_ne]
  intro e
  have:=Array.mem_of_getElem? e
  exact h (by simpa using this)
 simp only [this,hd,has_nil,Bool.false_eq_true,if_false]
theorem slot_cases {t:SetTable}(hd:t.dummies = #[])(j:Nat):t.slot j=.empty\/∃ i,t.slot j=.live i/\t.place[i]?=some j:=by
 unfold slot
 by_cases h:(t.place[below t.place j]? == some j)=true
 ·exact .inr ⟨below t.place j,by simp only [h,if_true],by simpa using h⟩
 ·left;simp only [h,hd,has_nil,Bool.false_eq_true,if_false]
theorem slot_notin {t:SetTable}(u:Up t.place.toList){j:Nat}(h:t.slot j=.empty):j ∉ t.place.toList:=by
 intro hm
 obtain ⟨i,hi⟩:=List.mem_iff_getElem?.mp hm
 rw [Array.getElem?_toList] at hi
 rw [slot_mem u hi] at h;cases h
def adv (t:SetTable):Nat->Probe->Probe
 | 0,p=>p
 | n+1,p=>adv t n (t.advance p)
theorem adv_add (t:SetTable):∀ (a b:Nat) (p:Probe),adv t (a+b) p=adv t b (adv t a p)
 | 0,b,p=>by rw [Nat.zero_add];rfl
 | a+1,b,p=>by rw [Nat.succ_add];exact adv_add t a b _
def P0 (mask:Nat)(x:Nat×Nat):Probe:={j:=x.1,more:=runEnd mask x.1-x.1,i:=x.1,perturb:=x.2,dummy:=none}
theorem start_eq (t:SetTable)(h:Int):t.probeStart h=P0 t.mask (bits h % (t.mask+1),bits h):=rfl
def lps (mask:Nat):Nat->Nat×Nat->Nat×Nat
 | 0,x=>x
 | k+1,x=>lps mask k (leap mask x.1 x.2)
theorem adv_run (t:SetTable):∀ (m j i p:Nat),adv t (m+1) {j:=j,more:=m,i:=i,perturb:=p,dummy:=none}=P0 t.mask (leap t.mask i p)
 | 0,j,i,p=>by
  show adv t 0 (t.advance _)=_
  unfold advance
  rw [if_neg (Nat.lt_irrefl 0)]
  rfl
 | m+1,j,i,p=>by
  show adv t (m+1) (t.advance _)=_
  unfold advance
  rw [if_pos (Nat.succ_pos m)]
  exact adv_run t m (j+1) i p
theorem runEnd_le (mask i:Nat):runEnd mask i-i<=9:=by unfold runEnd;split<;>omega
theorem runEnd_ge (mask i:Nat):i<=runEnd mask i:=by unfold runEnd;split<;>omega
theorem adv_lps (t:SetTable):∀ (k:Nat) (x:Nat×Nat),∃ n,n<=10*k/\adv t n (P0 t.mask x)=P0 t.mask (lps t.mask k x)
 | 0,x=>⟨0,by omega,rfl⟩
 | k+1,x=>by
  obtain ⟨n,hn,e⟩:=adv_lps t k (leap t.mask x.1 x.2)
  refine ⟨(runEnd t.mask x.1-x.1+1)+n,by have:=runEnd_le t.mask x.1;omega,?_⟩
  rw [adv_add]
  have:adv t (runEnd t.mask x.1-x.1+1) (P0 t.mask x)=P0 t.mask (leap t.mask x.1 x.2):=adv_run t _ _ _ _
  rw [this,e];rfl
theorem lps_add (mask:Nat):∀ (a b:Nat) (x:Nat×Nat),lps mask (a+b) x=lps mask b (lps mask a x)
 | 0,b,x=>by rw [Nat.zero_add];rfl
 | a+1,b,x=>by rw [Nat.succ_add];exact lps_add mask a b _
theorem lps_snd (mask:Nat):∀ (k:Nat) (x:Nat×Nat),(lps mask k x).2=x.2 / 32 ^ k
 | 0,x=>by simp [lps]
 | k+1,x=>by
  show (lps mask k (leap mask x.1 x.2)).2=_
  rw [lps_snd mask k]
  show x.2 / 32 / 32 ^ k=_
  rw [Nat.div_div_eq_div_mul,Nat.pow_succ,Nat.mul_comm]
theorem lps_fst (mask:Nat):∀ (k:Nat) (x:Nat×Nat),x.1<=mask->(lps mask k x).1<=mask
 | 0,x,h=>h
 | k+1,x,h=>lps_fst mask k _ (by
  show (x.1*5+1+x.2 / 32) % (mask+1)<=mask
  exact Nat.le_of_lt_succ (Nat.mod_lt _ (Nat.succ_pos _)))
theorem bits_lt (h:Int):bits h < 2 ^ 64:=by
 unfold bits
 have h1:=Int.emod_lt_of_pos h (show (0:Int) < 2 ^ 64 by decide)
 have h2:=Int.emod_nonneg h (show (2 ^ 64:Int)≠0 by decide)
 omega
def hits (mask:Nat):Bool:=(List.range (mask+1)).all fun i=>(List.range (mask+1)).all fun e=>(List.range (mask+1)).any fun m=>(lps mask m (i,0)).1 == e
theorem hits7:hits 7=true:=by decide +kernel
theorem hits31:hits 31=true:=by decide +kernel
theorem lps_hit {mask:Nat}(hm:hits mask=true){i p e:Nat}(hi:i<=mask)(hp:p < 2 ^ 64)(he:e<=mask):∃ k,k<=13+mask/\(lps mask k (i,p)).1=e:=by
 have h13:(lps mask 13 (i,p)).2=0:=by
  rw [lps_snd]
  exact Nat.div_eq_of_lt (Nat.lt_of_lt_of_le hp (by decide))
 have hi':=lps_fst mask 13 (i,p) hi
 unfold hits at hm
 have h1:=List.all_eq_true.mp hm (lps mask 13 (i,p)).1 (List.mem_range.mpr (by omega))
 have h2:=List.all_eq_true.mp h1 e (List.mem_range.mpr (by omega))
 obtain ⟨m,hm1,hm2⟩:=List.any_eq_true.mp h2
 refine ⟨13+m,by have:=List.mem_range.mp hm1;omega,?_⟩
 rw [lps_add]
 have:lps mask 13 (i,p)=((lps mask 13 (i,p)).1,0):=by rw [<- h13]
 rw [this]
 simpa using hm2
theorem reach {t:SetTable}(hm:hits t.mask=true)(h:Int){e:Nat}(he:e<=t.mask):∃ n,n<=10*(13+t.mask)/\(adv t n (t.probeStart h)).j=e:=by
 obtain ⟨k,hk,ek⟩:=lps_hit hm (i:=bits h % (t.mask+1)) (p:=bits h) (e:=e) (Nat.le_of_lt_succ (Nat.mod_lt _ (Nat.succ_pos _))) (bits_lt h) he
 obtain ⟨n,hn,en⟩:=adv_lps t k (bits h % (t.mask+1),bits h)
 exact ⟨n,by omega,by rw [start_eq,en];exact ek⟩
theorem adv_dummy (t:SetTable)(p:Probe)(h:p.dummy=none):(t.advance p).dummy=none:=by
 unfold advance
 split
 ·exact h
 ·exact h
theorem go_ok {t:SetTable}(hd:t.dummies = #[])(ha:Nat->Int)(h:Int):∀ (n fuel:Nat) (p:Probe),n < fuel->p.dummy=none->t.slot (adv t n p).j=.empty ->
  (∃ j,probe.go t ha h fuel p=some (.empty j none)/\t.slot j=.empty) \/
  (∃ j i next m,probe.go t ha h fuel p=some (.candidate j i next)/\t.slot j=.live i/\t.place[i]?=some j/\ha i=h/\m < n/\next.dummy=none/\t.slot (adv t m next).j=.empty)
 | n,0,p,hf,_,_=>absurd hf (Nat.not_lt_zero _)
 | n,fuel+1,p,hf,hp,he=>by
  rcases slot_cases hd p.j with hs | ⟨i,hs,hpl⟩
  ·left
   refine ⟨p.j,?_,hs⟩
   unfold probe.go
   rw [hs]
   show some (Met.empty p.j p.dummy)=_
   rw [hp]
  ·cases n with
   | zero=>rw [show adv t 0 p=p from rfl,hs] at he;cases he
   | succ n =>
    by_cases c:(ha i == h)=true
    ·right
     refine ⟨p.j,i,t.advance p,n,?_,hs,hpl,by simpa using c,Nat.lt_succ_self n,adv_dummy t p hp,he⟩
     unfold probe.go
     rw [hs]
     show (if (ha i == h)=true then _ else _)=_
     rw [if_pos c]
    ·have r:=go_ok hd ha h n fuel (t.advance p) (by omega) (adv_dummy t p hp) he
     have e:probe.go t ha h (fuel+1) p=probe.go t ha h fuel (t.advance p):=by
      rw [probe.go]
      rw [hs]
      show (if (ha i == h)=true then _ else _)=_
      rw [if_neg c]
     rw [e]
     rcases r with r | ⟨j,i,next,m,a1,a2,a3,a4,a5,a6⟩
     ·exact .inl r
     ·exact .inr ⟨j,i,next,m,a1,a2,a3,a4,by omega,a6⟩
theorem go_first {t:SetTable}{ha:Nat->Int}{h:Int}{p:Probe}{i fuel:Nat}(hs:t.slot p.j=.live i)(hh:ha i=h):probe.go t ha h (fuel+1) p=some (.candidate p.j i (t.advance p)):=by
 unfold probe.go
 rw [hs]
 show (if (ha i == h)=true then _ else _)=_
 rw [if_pos (by simpa using hh)]
theorem ex_free:∀ (l:List Nat) (n:Nat),l.length < n->∃ e,e < n/\e ∉ l:=by
 intro l n h
 by_cases q:∃ e,e < n/\e ∉ l
 ·exact q
 ·exfalso
  have all:∀ e,e < n->e∈l:=fun e he=>by
   by_cases z:e∈l
   ·exact z
   ·exact absurd ⟨e,he,z⟩ q
  have:∀ (l:List Nat) (n:Nat),(∀ e,e < n->e∈l)->n<=l.length:=by
   intro l n
   induction n generalizing l with
   | zero=>intro _;exact Nat.zero_le _
   | succ n ih =>
    intro hl
    have hm:=hl n (Nat.lt_succ_self n)
    have:=ih (l.erase n) (fun e he=>(List.mem_erase_of_ne (by omega)).mpr (hl e (by omega)))
    have h2:=List.length_erase_of_mem hm
    have h3:0 < l.length:=List.length_pos_of_mem hm
    omega
  have:=this l n all
  omega
structure Good (t:SetTable)(n:Nat):Prop where
 mask:(t.mask=7/\n<=4)\/(t.mask=31/\n<=18)
 size:t.place.size=n
 up:Up t.place.toList
 le:∀ j∈t.place.toList,j<=t.mask
 dum:t.dummies = #[]
 plain:t.plain=true
theorem Good.hits {t:SetTable}{n:Nat}(g:Good t n):ST.hits t.mask=true:=by
 rcases g.mask with ⟨e,_⟩ | ⟨e,_⟩<;>rw [e]
 ·exact hits7
 ·exact hits31
theorem Good.fits {t:SetTable}{n:Nat}(g:Good t n):t.fits n=true:=by
 unfold SetTable.fits SetTable.fill
 rw [g.size,g.dum]
 rcases g.mask with ⟨e,h⟩ | ⟨e,h⟩<;>simp [e]<;>omega
theorem Good.gave {t:SetTable}{n:Nat}(g:Good t n):t.gaveWay=false:=by
 unfold SetTable.gaveWay
 rcases g.mask with ⟨e,_⟩ | ⟨e,_⟩<;>rw [e]<;>rfl
theorem Good.start {t:SetTable}{n:Nat}(g:Good t n)(h:Int):∃ m,m < 10*turns t.mask/\t.slot (adv t m (t.probeStart h)).j=.empty:=by
 have hlen:t.place.toList.length < t.mask+1:=by
  rw [Array.length_toList,g.size]
  rcases g.mask with ⟨e,_⟩ | ⟨e,_⟩<;>omega
 obtain ⟨e,he,hne⟩:=ex_free _ _ hlen
 obtain ⟨m,hm,q⟩:=reach g.hits h (e:=e) (by omega)
 refine ⟨m,?_,?_⟩
 ·unfold turns;omega
 ·rw [q];exact slot_free g.dum hne
theorem up_insert:∀ {l:List Nat} {p j:Nat},Up l->(∀ k x,k < p->l[k]?=some x->x < j)->(∀ k x,p<=k->l[k]?=some x->j < x)->Up (l.take p++j::l.drop p):=by
 intro l p j u h1 h2
 refine List.pairwise_append.mpr ⟨u.sublist (List.take_sublist _ _),List.pairwise_cons.mpr ⟨fun x hx=>?_,u.sublist (List.drop_sublist _ _)⟩,fun x hx y hy=>?_⟩
 ·obtain ⟨k,hk⟩:=List.mem_iff_getElem?.mp hx
  rw [List.getElem?_drop] at hk
  exact h2 _ x (Nat.le_add_right _ _) hk
 ·obtain ⟨k,hk⟩:=List.mem_iff_getElem?.mp hx
  rw [List.getElem?_take] at hk
  have hkp:k < p:=by by_cases z:k < p;exact z;rw [if_neg z] at hk;cases hk
  rw [if_pos hkp] at hk
  have hxj:=h1 k x hkp hk
  rcases List.mem_cons.mp hy with rfl | hy
  ·exact hxj
  ·obtain ⟨k',hk'⟩:=List.mem_iff_getElem?.mp hy
   rw [List.getElem?_drop] at hk'
   exact Nat.lt_trans hxj (h2 _ y (Nat.le_add_right _ _) hk')
theorem put_good {t:SetTable}{n j:Nat}(g:Good t n)(hs:t.slot j=.empty)(hj:j<=t.mask) :
  (t.put j).1.mask=t.mask/\(t.put j).1.place.size=n+1/\Up (t.put j).1.place.toList/\(∀ k∈(t.put j).1.place.toList,k<=t.mask)/\(t.put j).1.dummies = #[]/\(t.put j).1.plain=true/\(t.put j).1.led=t.led/\(t.put j).2<=n:=by
 have c:=below_cut (j:=j) g.up
 have hn:=slot_notin g.up hs
 have ne:∀ (k x:Nat),t.place.toList[k]?=some x->x≠j:=fun k x hx e=>hn (e▸List.mem_of_getElem? hx)
 have el:(t.put j).1.place.toList=t.place.toList.take (below t.place j)++j::t.place.toList.drop (below t.place j):=SetTable.toList_insertAt _ _ _
 refine ⟨rfl,?_,?_,?_,?_,g.plain,rfl,?_⟩
 ·rw [<- Array.length_toList,el,List.length_append,List.length_cons,List.length_take,List.length_drop,Array.length_toList,g.size]
  have:=c.le;rw [g.size] at this;omega
 ·rw [el]
  refine up_insert g.up (fun k x hk hx=>c.lo k x hk (by rw [<- Array.getElem?_toList];exact hx)) (fun k x hk hx=>?_)
  have:=c.hi k x hk (by rw [<- Array.getElem?_toList];exact hx)
  have:=ne k x hx
  omega
 ·rw [el]
  intro k hk
  rcases List.mem_append.mp hk with hk | hk
  ·exact g.le k (List.mem_of_mem_take hk)
  ·rcases List.mem_cons.mp hk with rfl | hk
   ·exact hj
   ·exact g.le k (List.mem_of_mem_drop hk)
 ·show (if has t.dummies j=true then _ else _)=_
  rw [g.dum,has_nil];rfl
 ·have:=c.le;rw [g.size] at this;exact this
theorem free_ok {mask:Nat}{owner:Array (Option Nat)}:∀ (k fuel:Nat) (x:Nat×Nat),k < fuel->owner[(lps mask k x).1]?=some none->∃ j,layClean.free mask owner fuel x.1 x.2=some j/\owner[j]?=some none
 | k,0,x,h,_=>absurd h (Nat.not_lt_zero _)
 | k,fuel+1,x,h,ho=>by
  unfold layClean.free
  cases hf:(List.range (runEnd mask x.1+1-x.1)).find? (fun k=>(owner.getD (x.1+k) (some 0)).isNone) with
  | some m =>
   refine ⟨x.1+m,rfl,?_⟩
   have:=List.find?_some hf
   simp only [Array.getD] at this
   split at this
   ·rename_i hl
    rw [Array.getElem?_eq_getElem hl]
    congr 1
    simpa using this
   ·simp at this
  | none =>
   cases k with
   | zero =>
    exfalso
    have:=List.find?_eq_none.mp hf 0 (List.mem_range.mpr (by have:=runEnd_ge mask x.1;omega))
    apply this
    have hl:=(Array.getElem?_eq_some_iff.mp ho)
    obtain ⟨hl,e⟩:=hl
    have hl:x.1 < owner.size:=hl
    have e:owner[x.1]=none:=e
    have e':owner.getD (x.1+0) (some 0)=none:=by
     rw [Nat.add_zero]
     unfold Array.getD
     rw [dif_pos hl];exact e
    rw [e'];rfl
   | succ k =>
    exact free_ok k fuel (leap mask x.1 x.2) (by omega) ho
theorem fm_set:∀ (l:List (Option Nat)) (j k:Nat),l[j]?=some none->List.Perm ((l.set j (some k)).filterMap id) (k::l.filterMap id)
 | [],j,k,h=>by simp at h
 | o::l,0,k,h=>by
  have:o=none:=by simpa using h
  subst this
  simp
 | o::l,j+1,k,h=>by
  have r:=fm_set l j k (by simpa using h)
  cases o with
  | none=>simpa using r
  | some m =>
   simp only [List.set_cons_succ,List.filterMap_cons,id]
   exact (List.Perm.cons m r).trans (List.Perm.swap _ _ _)
theorem fm_all:∀ (l:List (Option Nat)),(∀ o∈l,o≠none)->(l.filterMap id).length=l.length
 | [],_=>rfl
 | none::l,h=>absurd rfl (h none (.head _))
 | some m::l,h=>by
  simp only [List.filterMap_cons,id,List.length_cons]
  rw [fm_all l fun o ho=>h o (.tail _ ho)]
structure Own (mask:Nat)(owner:Array (Option Nat))(k:Nat):Prop where
 size:owner.size=mask+1
 perm:List.Perm (owner.toList.filterMap id) (List.range k)
theorem Own.free {mask:Nat}{owner:Array (Option Nat)}{k:Nat}(o:Own mask owner k)(hk:k<=mask):∃ e,e<=mask/\owner[e]?=some none:=by
 by_cases q:∃ e,e<=mask/\owner[e]?=some none
 ·exact q
 ·exfalso
  have:=fm_all owner.toList fun x hx e=>by
   subst e
   obtain ⟨i,hi⟩:=List.mem_iff_getElem?.mp hx
   rw [Array.getElem?_toList] at hi
   have:=(Array.getElem?_eq_some_iff.mp hi).1
   exact q ⟨i,by rw [o.size] at this;omega,hi⟩
  rw [o.perm.length_eq,List.length_range,Array.length_toList,o.size] at this
  omega
def layStep (mask:Nat)(acc:Option (Array (Option Nat)×Nat))(h:Int):Option (Array (Option Nat)×Nat):=do
 let (owner,k) <- acc
 let j <- layClean.free mask owner (turns mask) (bits h % (mask+1)) (bits h)
 pure (owner.setIfInBounds j (some k),k+1)
theorem layClean_eq (mask:Nat)(hs:Array Int):layClean mask hs=(hs.foldl (layStep mask) (some (Array.replicate (mask+1) none,0))).map (·.1):=rfl
theorem layStep_ok {mask:Nat}(hm:hits mask=true){owner:Array (Option Nat)}{k:Nat}(o:Own mask owner k)(hk:k<=mask)(h:Int):∃ owner',layStep mask (some (owner,k)) h=some (owner',k+1)/\Own mask owner' (k+1):=by
 obtain ⟨e,he,ho⟩:=o.free hk
 obtain ⟨n,hn,en⟩:=lps_hit hm (i:=bits h % (mask+1)) (p:=bits h) (e:=e) (Nat.le_of_lt_succ (Nat.mod_lt _ (Nat.succ_pos _))) (bits_lt h) he
 obtain ⟨j,hj,hoj⟩:=free_ok (mask:=mask) (owner:=owner) n (turns mask) (bits h % (mask+1),bits h) (by unfold turns;omega) (by rw [en];exact ho)
 refine ⟨owner.setIfInBounds j (some k),?_,?_,?_⟩
 ·unfold layStep
  show (do let j <- layClean.free mask owner (turns mask) (bits h % (mask+1)) (bits h);pure (owner.setIfInBounds j (some k),k+1))=_
  rw [show layClean.free mask owner (turns mask) (bits h % (mask+1)) (bits h)=some j from hj];rfl
 ·rw [Array.size_setIfInBounds];exact o.size
 ·rw [Array.toList_setIfInBounds]
  refine (fm_set _ j k (by rw [Array.getElem?_toList];exact hoj)).trans ?_
  rw [List.range_succ]
  exact (List.Perm.cons k o.perm).trans (List.perm_append_singleton _ _).symm
theorem layFold {mask:Nat}(hm:hits mask=true):∀ (hs:List Int) (owner:Array (Option Nat)) (k:Nat),Own mask owner k->k+hs.length<=mask+1->∃ owner',hs.foldl (layStep mask) (some (owner,k))=some (owner',k+hs.length)/\Own mask owner' (k+hs.length)
 | [],owner,k,o,_=>⟨owner,rfl,o⟩
 | h::hs,owner,k,o,hl=>by
  simp only [List.length_cons] at hl
  obtain ⟨ow,e,o'⟩:=layStep_ok hm o (by omega) h
  obtain ⟨ow2,e2,o2⟩:=layFold hm hs ow (k+1) o' (by omega)
  refine ⟨ow2,?_,?_⟩
  ·rw [List.foldl_cons,e,e2,List.length_cons];congr 2;omega
  ·rw [List.length_cons];rw [show k+(hs.length+1)=k+1+hs.length by omega];exact o2
theorem live_fst {α:Type}(f:Nat->Option α):∀ l:List Nat,(l.filterMap fun j=>(f j).map (j,·)).map (·.1)=l.filter fun j=>(f j).isSome
 | []=>rfl
 | j::l=>by
  cases e:f j with
  | none=>simp [List.filterMap_cons,List.filter_cons,e,live_fst f l]
  | some a=>simp [List.filterMap_cons,List.filter_cons,e,live_fst f l]
theorem live_snd {α:Type}(f:Nat->Option α):∀ l:List Nat,(l.filterMap fun j=>(f j).map (j,·)).map (·.2)=l.filterMap f
 | []=>rfl
 | j::l=>by
  cases e:f j with
  | none=>simp [List.filterMap_cons,e,live_snd f l]
  | some a=>simp [List.filterMap_cons,e,live_snd f l]
theorem range_getD {n:Nat}{a:Array (Option Nat)}(h:a.size=n):(List.range n).filterMap (fun j=>a.getD j none)=a.toList.filterMap id:=by
 have:a.toList=(List.range n).map fun j=>a.getD j none:=by
  apply List.ext_getElem
  ·simp [h]
  ·intro i h1 h2
   have hi:i < a.size:=by simpa using h1
   simp [Array.getD,hi]
 rw [this,List.filterMap_map];rfl
theorem up_range (n:Nat):Up (List.range n):=List.pairwise_lt_range
theorem laid_ok {mask:Nat}(hm:hits mask=true)(finger moves:Nat)(led plain:Bool)(hs:Array Int)(hl:hs.size<=mask+1) :
  ∃ t order,laid mask finger moves led plain hs=some (t,order)/\t.mask=mask/\t.place.size=hs.size/\Up t.place.toList/\(∀ j∈t.place.toList,j<=mask)/\t.dummies = #[]/\t.plain=plain/\t.led=led /\
   List.Perm order.toList (List.range hs.size):=by
 have o0:Own mask (Array.replicate (mask+1) none) 0:=by
  refine ⟨by simp,?_⟩
  rw [Array.toList_replicate]
  rw [show ((List.replicate (mask+1) (none:Option Nat)).filterMap id)=[] from ?_]
  ·exact .nil
  ·rw [List.filterMap_eq_nil_iff]
   intro a ha
   rw [(List.mem_replicate.mp ha).2];rfl
 obtain ⟨ow,e,o⟩:=layFold hm hs.toList _ 0 o0 (by rw [Array.length_toList];omega)
 rw [Nat.zero_add,Array.length_toList] at e o
 have ec:layClean mask hs=some ow:=by
  rw [layClean_eq,<- Array.foldl_toList,e];rfl
 refine ⟨_,_,by unfold laid;rw [ec];rfl,rfl,?_,?_,?_,rfl,rfl,rfl,?_⟩
 ·rw [List.size_toArray,List.length_map]
  have:=congrArg List.length (live_snd (fun j=>ow.getD j none) (List.range (mask+1)))
  rw [List.length_map,range_getD o.size,o.perm.length_eq,List.length_range] at this
  exact this
 ·show Up ((List.filterMap (fun j=>Option.map (fun x=>(j,x)) (ow.getD j none)) (List.range (mask+1))).map (·.1))
  rw [live_fst (fun j=>ow.getD j none)]
  exact (up_range _).sublist List.filter_sublist
 ·intro j hj
  have hj:j∈((List.filterMap (fun j=>Option.map (fun x=>(j,x)) (ow.getD j none)) (List.range (mask+1))).map (·.1)):=hj
  rw [live_fst (fun j=>ow.getD j none)] at hj
  have:=List.mem_range.mp (List.mem_filter.mp hj).1
  omega
 ·show List.Perm ((List.filterMap (fun j=>Option.map (fun x=>(j,x)) (ow.getD j none)) (List.range (mask+1))).map (·.2)) _
  rw [live_snd (fun j=>ow.getD j none),range_getD o.size]
  exact o.perm
theorem fm_range {α:Type}(es:Array α):(List.range es.size).filterMap (es[·]?)=es.toList:=by
 have h1:(List.range es.size).filterMap (es[·]?)=((List.range es.size).map (es[·]?)).filterMap id:=by rw [List.filterMap_map];rfl
 have h2:(List.range es.size).map (es[·]?)=es.toList.map some:=by
  apply List.ext_getElem
  ·simp
  ·intro i h1 h2
   have hi:i < es.size:=by simpa using h1
   simp [hi]
 rw [h1,h2,List.filterMap_map]
 simp
theorem erase_perm {α:Type}:∀ {l:List α} {i:Nat} (h:i < l.length),List.Perm (l[i]::l.eraseIdx i) l
 | [],i,h=>absurd h (Nat.not_lt_zero _)
 | a::l,0,h=>by simp
 | a::l,i+1,h=>by
  simp only [List.getElem_cons_succ,List.eraseIdx_cons_succ]
  exact (List.Perm.swap _ _ _).trans (List.Perm.cons a (erase_perm (by simpa using h)))
theorem pick_go {α:Type}(next:Nat->Nat):∀ (fuel k:Nat) (left:List α) (out:Array α),left.length=fuel->∃ l,List.Perm l left/\(pickOrder.go next fuel k left out).toList=out.toList++l
 | 0,k,left,out,h=>by
  have:=List.length_eq_zero_iff.mp h;subst this
  exact ⟨[],.nil,by simp [pickOrder.go]⟩
 | fuel+1,k,left,out,h=>by
  have hl:next k % left.length < left.length:=Nat.mod_lt _ (by omega)
  unfold pickOrder.go
  rw [List.getElem?_eq_getElem hl]
  obtain ⟨l,hp,e⟩:=pick_go next fuel (k+1) (left.eraseIdx (next k % left.length)) (out.push left[next k % left.length]) (by rw [List.length_eraseIdx_of_lt hl];omega)
  refine ⟨left[next k % left.length]::l,(List.Perm.cons _ hp).trans (erase_perm hl),?_⟩
  show (pickOrder.go next fuel (k+1) (left.eraseIdx (next k % left.length)) (out.push left[next k % left.length])).toList=_
  rw [e,Array.toList_push,List.append_assoc];rfl
theorem pick_perm {α:Type}(next:Nat->Nat)(xs:Array α):List.Perm (pickOrder next xs).toList xs.toList:=by
 obtain ⟨l,hp,e⟩:=pick_go next xs.size 0 xs.toList #[] (by simp)
 unfold pickOrder
 rw [e];simpa using hp
def Tp (h:Heap)(a:Addr)(k:Int×Int):Prop:=∃ o n t u,h.get? a=some o/\o.cls=.type "tuple"/\o.data=.seq #[.int k.1 t,.int k.2 u] n
theorem Tp.keep {h h':Heap}{a:Addr}{k:Int×Int}(x:Tp h a k)(e:∀ o,h.get? a=some o->h'.get? a=some o):Tp h' a k :=
 let ⟨o,n,t,u,ho,r⟩:=x;⟨o,n,t,u,e o ho,r⟩
theorem Tp.inj {h:Heap}{a:Addr}{k k':Int×Int}(x:Tp h a k)(y:Tp h a k'):k=k':=by
 obtain ⟨o,n,t,u,ho,_,hd⟩:=x
 obtain ⟨o',n',t',u',ho',_,hd'⟩:=y
 rw [ho] at ho';cases ho'
 rw [hd] at hd'
 injection hd' with h1 _
 obtain ⟨k1,k2⟩:=k
 obtain ⟨k1',k2'⟩:=k'
 simp at h1
 exact Prod.ext h1.1.1 h1.2.1
section
variable {prog:Program} {w:World} {A:Around} {E:Value->Shared->Prop} {s:Shared}
theorem Tp.key {h:Heap}{a:Addr}{k:Int×Int}(x:Tp h a k):IsTupleKey (intKind prog w) h [k.1,k.2] a:=by
 obtain ⟨o,n,t,u,ho,hc,hd⟩:=x
 exact ⟨o,_,n,ho,hc,hd,.cons (intKind_is _ _ _ _) (.cons (intKind_is _ _ _ _) .nil)⟩
def hk (prog:Program)(w:World)(k:Int×Int):Int:=tupleKeyHash (intKind prog w) [k.1,k.2]
theorem wp_class {a:Addr}{k:Int×Int}{Q:Bool->Shared->Prop}(x:Tp s.heap a k)(h:Q false s):wpAny (model prog w) A (ofAClassStatement 8 (.ref a)) Q E s:=by
 obtain ⟨o,n,t,u,ho,hc,hd⟩:=x
 unfold ofAClassStatement
 refine wpAny_bind (wpAny_typeOf (T:="tuple") ⟨o,ho,hc⟩ ?_)
 dsimp only
 rw [if_pos (by decide)]
 refine wpAny_bind (wpAny_pure ?_)
 simp only [Bool.not_true,Bool.false_eq_true,if_false]
 refine wpAny_bind (wpAny_seqItems ho hd ?_)
 dsimp only
 refine wpAny_bind ?_
 rw [<- Array.forIn_toList]
 refine wpAny_forIn_list _ (fun rest r s'=>r.1=none/\s'=s/\∀ v∈rest,∃ k t,v=Value.int k t) _ ?_ ?_ _ _ ⟨rfl,rfl,fun v hv=>by
  simp only [List.mem_cons,List.mem_nil_iff,or_false] at hv
  rcases hv with rfl | rfl
  ·exact ⟨_,_,rfl⟩
  ·exact ⟨_,_,rfl⟩⟩
 ·rintro v rest r s' ⟨hr,rfl,hall⟩
  obtain ⟨k,t,rfl⟩:=hall _ List.mem_cons_self
  have e:ofAClassStatement 7 (Value.int k t)=pure false:=by unfold ofAClassStatement;rfl
  rw [e]
  refine wpAny_bind (wpAny_pure ?_)
  simp only [Bool.false_eq_true,if_false]
  exact wpAny_pure ⟨rfl,rfl,fun u hu'=>hall u (List.mem_cons_of_mem _ hu')⟩
 ·rintro ⟨r1,r2⟩ s' ⟨hr,rfl,_⟩
  simp only at hr
  subst hr
  exact wpAny_pure h
theorem wp_hashv {a:Addr}{k:Int×Int}{Q:Bool->Shared->Prop}(x:Tp s.heap a k)(h:Q true s):wpAny (model prog w) A (hashByValue 8 (.ref a)) Q E s:=by
 obtain ⟨o,n,t,u,ho,hc,hd⟩:=x
 unfold hashByValue
 refine wpAny_bind (wpAny_specialOf (T:="tuple") ⟨o,ho,hc⟩ F.slot_tuple_hash.lookup ?_)
 dsimp only
 refine wpAny_bind (wpAny_seqItems ho hd ?_)
 refine wpAny_bind ?_
 show wpAny _ _ (forIn (#[Value.int k.1 t,Value.int k.2 u]) _ _) _ _ s
 rw [<- Array.forIn_toList]
 refine wpAny_forIn_list _ (fun rest r s'=>r.1=none/\s'=s/\∀ v∈rest,∃ k t,v=Value.int k t) _ ?_ ?_ _ _ ⟨rfl,rfl,fun v hv=>by
  simp only [List.mem_cons,List.mem_nil_iff,or_false] at hv
  rcases hv with rfl | rfl
  ·exact ⟨_,_,rfl⟩
  ·exact ⟨_,_,rfl⟩⟩
 ·rintro v rest r s' ⟨hr,rfl,hall⟩
  obtain ⟨k,t,rfl⟩:=hall _ List.mem_cons_self
  have e:hashByValue 7 (Value.int k t)=pure true:=by unfold hashByValue;rfl
  rw [e]
  refine wpAny_bind (wpAny_pure ?_)
  simp only [Bool.not_true,Bool.false_eq_true,if_false]
  exact wpAny_pure ⟨rfl,rfl,fun u hu'=>hall u (List.mem_cons_of_mem _ hu')⟩
 ·rintro ⟨r1,r2⟩ s' ⟨hr,rfl,_⟩
  simp only at hr
  subst hr
  exact wpAny_pure h
theorem wp_seen {a:Addr}{k:Int×Int}{l:List Value}{Q:Bool->Shared->Prop}(x:Tp s.heap a k)(hl:∀ v∈l,∃ b k',v=.ref b/\Tp s.heap b k')(h:Q false s):wpAny (model prog w) A (searchCouldBeSeen (.ref a) l) Q E s:=by
 unfold searchCouldBeSeen
 refine wpAny_bind ?_
 refine wpAny_forIn_list _ (fun rest r s'=>r.1=none/\s'=s/\∀ v∈rest,v∈l) _ ?_ ?_ _ _ ⟨rfl,rfl,fun v hv=>hv⟩
 ·rintro v rest r s' ⟨hr,rfl,hall⟩
  obtain ⟨b,k',rfl,y⟩:=hl _ (hall _ List.mem_cons_self)
  dsimp only
  split
  ·exact wpAny_pure ⟨rfl,rfl,fun u hu=>hall u (List.mem_cons_of_mem _ hu)⟩
  ·refine wpAny_bind (wpAny_eqIsQuiet_tuple (knd:=intKind prog w) x.key ?_)
   simp only [Bool.not_true,Bool.false_eq_true,if_false]
   refine wpAny_bind (wpAny_eqIsQuiet_tuple (knd:=intKind prog w) y.key ?_)
   simp only [Bool.not_true,Bool.false_eq_true,if_false]
   refine wpAny_bind (wp_class x ?_)
   simp only [Bool.false_eq_true,if_false]
   refine wpAny_bind (wp_class y ?_)
   simp only [Bool.false_eq_true,if_false]
   exact wpAny_pure ⟨rfl,rfl,fun u hu=>hall u (List.mem_cons_of_mem _ hu)⟩
 ·rintro ⟨r1,r2⟩ s' ⟨hr,rfl,_⟩
  simp only at hr
  subst hr
  exact wpAny_pure h
def setObj (es:Array (Int×Value))(ep:Nat)(t:SetTable):Obj:={cls:=.type "set",dict:=none,data:=.set es ep t}
def Ent (prog:Program)(w:World)(h:Heap)(es:Array (Int×Value)):Prop:=∀ e∈es.toList,∃ a k,e.2=.ref a/\Tp h a k/\e.1=hk prog w k
def sh (es:Array (Int×Value))(i:Nat):Int:=(es[i]?.map (·.1)).getD 0
def WF (mask:Nat)(p:Probe):Prop:=p.j+p.more<=mask/\p.dummy=none
theorem runEnd_mask {mask i:Nat}(h:i<=mask):runEnd mask i<=mask:=by unfold runEnd;split<;>omega
theorem wf_P0 {mask:Nat}{x:Nat×Nat}(h:x.1<=mask):WF mask (P0 mask x):=by
 refine ⟨?_,rfl⟩
 show x.1+(runEnd mask x.1-x.1)<=mask
 have:=runEnd_mask h
 have:=runEnd_ge mask x.1
 omega
theorem wf_start (t:SetTable)(h:Int):WF t.mask (t.probeStart h):=wf_P0 (mask:=t.mask) (x:=(bits h % (t.mask+1),bits h)) (Nat.le_of_lt_succ (Nat.mod_lt _ (Nat.succ_pos _)))
theorem wf_adv {t:SetTable}{p:Probe}(h:WF t.mask p):WF t.mask (t.advance p):=by
 unfold advance
 split
 ·refine ⟨?_,h.2⟩
  have:=h.1
  show p.j+1+(p.more-1)<=t.mask
  omega
 ·refine ⟨(wf_P0 (x:=leap t.mask p.i p.perturb) ?_).1,h.2⟩
  show (p.i*5+1+p.perturb / 32) % (t.mask+1)<=t.mask
  exact Nat.le_of_lt_succ (Nat.mod_lt _ (Nat.succ_pos _))
theorem go_wf {t:SetTable}(hd:t.dummies = #[])(ha:Nat->Int)(h:Int):∀ (fuel:Nat) (p:Probe) (m:Met),WF t.mask p->probe.go t ha h fuel p=some m ->
  (match m with | .empty j _=>j<=t.mask | .candidate _ _ next=>WF t.mask next)
 | 0,p,m,_,e=>by rw [probe.go] at e;cases e
 | fuel+1,p,m,hw,e=>by
  rw [probe.go] at e
  rcases slot_cases hd p.j with hs | ⟨i,hs,_⟩
  ·rw [hs] at e
   have e:some (Met.empty p.j p.dummy)=some m:=e
   cases e
   have:=hw.1
   show p.j<=t.mask
   omega
  ·rw [hs] at e
   have e:(if (ha i == h)=true then some (Met.candidate p.j i (t.advance p)) else probe.go t ha h fuel (t.advance p))=some m:=e
   split at e
   ·cases e;exact wf_adv hw
   ·exact go_wf hd ha h fuel _ m (wf_adv hw) e
section
variable {S xa:Addr} {es:Array (Int×Value)} {ep:Nat} {t:SetTable} {k:Int×Int} {Q:SetFound->Shared->Prop}
theorem cand_step (hS:s.heap.get? S=some (setObj es ep t))(g:Good t es.size)(hE:Ent prog w s.heap es)(hx:Tp s.heap xa k)(hu:A.units < cLine){fuel:Nat}{stand:Option Probe}{j i:Nat}{next p:Probe}(hp0:stand.getD (t.probeStart (hk prog w k))=p)
  (hm:t.probe (sh es) (hk prog w k) p=some (.candidate j i next)) (hs:t.slot j=.live i) {h':Int} {a:Addr} {k':Int×Int} (he:es[i]?=some (h',.ref a)) (hk':Tp s.heap a k')
  (h1:k'=k->Q (.there none) s) (h2:k'≠k->wpAny (model prog w) A (setSearchFrom S (.ref xa) (hk prog w k) true fuel (some next)) Q E s) :
  wpAny (model prog w) A (setSearchFrom S (.ref xa) (hk prog w k) true (fuel+1) stand) Q E s:=by
 rw [setSearchFrom]
 refine wpAny_bind (wpAny_setState_of hS rfl g.fits ?_)
 dsimp only
 rw [g.gave]
 simp only [Bool.false_eq_true,if_false]
 rw [hp0]
 generalize hp:t.probe _ (hk prog w k) p=r
 have hr:r=some (.candidate j i next):=hp.symm.trans hm
 subst hr
 dsimp only
 have eqd:decide ([k'.1,k'.2]=[k.1,k.2])=decide (k'=k):=by
  congr 1
  simp [Prod.ext_iff]
 have hsm:t.sameMemory t.moves t.mask=some true:=by unfold sameMemory;rw [if_pos (beq_self_eq_true _)]
 cases hl:t.led
 ·simp only [Bool.not_false,if_true]
  refine wpAny_bind (wp_seen hx (fun v hv=>?_) ?_)
  ·obtain ⟨e,he',rfl⟩:=List.mem_map.mp hv
   have he':e∈es/\e.1=hk prog w k:=by simpa using he'
   obtain ⟨a,k,e1,e2,_⟩:=hE e (by simpa using he'.1)
   exact ⟨a,k,e1,e2⟩
  simp only [Bool.false_eq_true,if_false]
  rw [he]
  dsimp only
  refine wpAny_bind (wpAny_holding (wpAny_eqBool_tuple (knd:=intKind prog w) hu hk'.key hx.key ?_))
  refine wpAny_bind (wpAny_setState_of hS rfl g.fits ?_)
  rw [eqd]
  by_cases q:k'=k
  ·rw [decide_eq_true q]
   simp only [Bool.and_self,if_true]
   exact wpAny_pure (h1 q)
  ·rw [decide_eq_false q]
   simp only [Bool.and_false,Bool.false_eq_true,if_false]
   rw [hsm]
   dsimp only
   rw [if_pos rfl,hs]
   dsimp only
   rw [he]
   dsimp only
   refine wpAny_bind (wpAny_isSame_ref_self ?_)
   refine wpAny_bind (wpAny_pure ?_)
   exact h2 q
 ·simp only [Bool.not_true,Bool.false_eq_true,if_false]
  rw [he]
  dsimp only
  refine wpAny_bind (wpAny_holding (wpAny_eqBool_tuple (knd:=intKind prog w) hu hk'.key hx.key ?_))
  refine wpAny_bind (wpAny_setState_of hS rfl g.fits ?_)
  rw [eqd]
  by_cases q:k'=k
  ·rw [decide_eq_true q]
   simp only [Bool.and_self,if_true]
   exact wpAny_pure (h1 q)
  ·rw [decide_eq_false q]
   simp only [Bool.and_false,Bool.false_eq_true,if_false]
   rw [hsm]
   dsimp only
   rw [if_pos rfl,hs]
   dsimp only
   rw [he]
   dsimp only
   refine wpAny_bind (wpAny_isSame_ref_self ?_)
   refine wpAny_bind (wpAny_pure ?_)
   exact h2 q
theorem free_step (hS:s.heap.get? S=some (setObj es ep t))(g:Good t es.size){h:Int}{fuel:Nat}{stand:Option Probe}{j:Nat}{p:Probe}(hp0:stand.getD (t.probeStart h)=p)
  (hm:t.probe (sh es) h p=some (.empty j none)) (h1:Q (.free j false) s) :
  wpAny (model prog w) A (setSearchFrom S (.ref xa) h true (fuel+1) stand) Q E s:=by
 rw [setSearchFrom]
 refine wpAny_bind (wpAny_setState_of hS rfl g.fits ?_)
 dsimp only
 rw [g.gave]
 simp only [Bool.false_eq_true,if_false]
 rw [hp0]
 generalize hp:t.probe _ h p=r
 have hr:r=some (.empty j none):=hp.symm.trans hm
 subst hr
 exact wpAny_pure h1
theorem ent_at (hE:Ent prog w s.heap es){i:Nat}(hi:i < es.size):∃ a k,es[i]?=some (hk prog w k,.ref a)/\Tp s.heap a k:=by
 obtain ⟨a,k,e1,e2,e3⟩:=hE es[i] (by simp)
 exact ⟨a,k,by rw [Array.getElem?_eq_getElem hi];exact congrArg some (Prod.ext e3 e1),e2⟩
theorem search_go (hS:s.heap.get? S=some (setObj es ep t))(g:Good t es.size)(hE:Ent prog w s.heap es)(hx:Tp s.heap xa k)(hu:A.units < cLine)
  (h1:∀ j,t.slot j=.empty->j<=t.mask->Q (.free j false) s) (h2:(∃ e∈es.toList,∃ a,e.2=.ref a/\Tp s.heap a k)->Q (.there none) s) :
  ∀ (n m fuel:Nat) (stand:Option Probe) (p:Probe),stand.getD (t.probeStart (hk prog w k))=p->m < n->m < 10*turns t.mask->m < fuel->WF t.mask p->t.slot (adv t m p).j=.empty ->
   wpAny (model prog w) A (setSearchFrom S (.ref xa) (hk prog w k) true fuel stand) Q E s
 | 0,m,fuel,stand,p,_,hn,_,_,_,_=>absurd hn (Nat.not_lt_zero _)
 | n+1,m,0,stand,p,_,hn,_,hf,_,_=>absurd hf (Nat.not_lt_zero _)
 | n+1,m,fuel+1,stand,p,hp0,hn,ht,hf,hw,he=>by
  rcases go_ok g.dum (sh es) (hk prog w k) m (10*turns t.mask) _ ht hw.2 he with ⟨j,e,hj⟩ | ⟨j,i,next,m',e,hs,hpl,hh,hm,hd,he'⟩
  ·exact free_step hS g hp0 e (h1 j hj (go_wf g.dum _ _ _ _ _ hw e))
  ·have hi:i < es.size:=by rw [<- g.size];exact (Array.getElem?_eq_some_iff.mp hpl).1
   obtain ⟨a,k',ea,ha⟩:=ent_at hE hi
   refine cand_step hS g hE hx hu hp0 e hs ea ha (fun q=>h2 ⟨_,by simpa using Array.mem_of_getElem? ea,a,rfl,q▸ha⟩) fun q=>?_
   exact search_go hS g hE hx hu h1 h2 n m' fuel (some next) next Option.getD_some (by omega) (by omega) (by omega) (go_wf g.dum _ _ _ _ _ hw e) he'
theorem go_empty {t:SetTable}{ha:Nat->Int}{h:Int}{p:Probe}{fuel:Nat}(hs:t.slot p.j=.empty)(hd:p.dummy=none):probe.go t ha h (fuel+1) p=some (.empty p.j none):=by
 unfold probe.go
 rw [hs]
 show some (Met.empty p.j p.dummy)=_
 rw [hd]
theorem turns_le (g:Good t es.size):10*turns t.mask<=460:=by
 unfold turns
 rcases g.mask with ⟨e,_⟩ | ⟨e,_⟩<;>omega
theorem probe_pos (t:SetTable):∃ f,10*turns t.mask=f+1:=⟨10*turns t.mask-1,by unfold turns;omega⟩
theorem wp_searchA (F:Nat)(hF:460<=F)(hS:s.heap.get? S=some (setObj es ep t))(g:Good t es.size)(hE:Ent prog w s.heap es)(hx:Tp s.heap xa k)(hu:A.units < cLine)
  (h1:∀ j,t.slot j=.empty->j<=t.mask->(t.slot (t.probeStart (hk prog w k)).j=.empty->j=(t.probeStart (hk prog w k)).j) ->
   (∀ i e a,t.slot (t.probeStart (hk prog w k)).j=.live i->es[i]?=some e->e.2=.ref a->¬ Tp s.heap a k)->Q (.free j false) s)
  (h2:(∃ e∈es.toList,∃ a,e.2=.ref a/\Tp s.heap a k)->Q (.there none) s) :
  wpAny (model prog w) A (setSearchFrom S (.ref xa) (hk prog w k) true (F+1) none) Q E s:=by
 obtain ⟨f,ef⟩:=probe_pos t
 generalize hp0:t.probeStart (hk prog w k)=p at h1
 have hw:WF t.mask p:=by rw [<- hp0];exact wf_start t _
 have hp1:(none:Option Probe).getD (t.probeStart (hk prog w k))=p:=by rw [Option.getD_none];exact hp0
 rcases slot_cases g.dum p.j with hs | ⟨i,hs,hpl⟩
 ·refine free_step (j:=p.j) hS g hp1 ?_ (h1 _ hs ?_ (fun _=>rfl) fun i e a hl=>absurd hl (by rw [hs];exact fun q=>by cases q))
  ·show probe.go t (sh es) (hk prog w k) (10*turns t.mask) p=_
   rw [ef]
   exact go_empty hs hw.2
  ·have:=hw.1;omega
 ·have hi:i < es.size:=by rw [<- g.size];exact (Array.getElem?_eq_some_iff.mp hpl).1
  obtain ⟨a,k',ea,ha⟩:=ent_at hE hi
  by_cases q:k'=k
  ·subst q
   refine cand_step (j:=p.j) (i:=i) (next:=t.advance p) hS g hE hx hu hp1 ?_ hs ea ha (fun q=>h2 ⟨_,by simpa using Array.mem_of_getElem? ea,a,rfl,ha⟩) fun q=>absurd rfl q
   show probe.go t (sh es) (hk prog w k') (10*turns t.mask) p=_
   rw [ef]
   exact go_first hs (by unfold sh;rw [ea,Option.map_some,Option.getD_some])
  ·obtain ⟨m,hm,he⟩:=g.start (hk prog w k)
   rw [hp0] at he
   have:=turns_le g
   refine search_go hS g hE hx hu (fun j a1 a2=>h1 j a1 a2 (fun z=>by rw [hs] at z;cases z) fun i' e b hl hb e2 tb=>?_) h2 (m+1) m (F+1) none p hp1 (Nat.lt_succ_self _) hm (by omega) hw he
   rw [hs] at hl;cases hl
   rw [ea] at hb;cases hb
   cases e2
   exact q (ha.inj tb)
theorem wp_search (hS:s.heap.get? S=some (setObj es ep t))(g:Good t es.size)(hE:Ent prog w s.heap es)(hx:Tp s.heap xa k)(hu:A.units < cLine)
  (h1:∀ j,t.slot j=.empty->j<=t.mask->(t.slot (t.probeStart (hk prog w k)).j=.empty->j=(t.probeStart (hk prog w k)).j) ->
   (∀ i e a,t.slot (t.probeStart (hk prog w k)).j=.live i->es[i]?=some e->e.2=.ref a->¬ Tp s.heap a k)->Q (.free j false) s)
  (h2:(∃ e∈es.toList,∃ a,e.2=.ref a/\Tp s.heap a k)->Q (.there none) s) :
  wpAny (model prog w) A (setSearch S (.ref xa) (hk prog w k) (adding:=true)) Q E s:=by
 unfold setSearch
 exact wp_searchA 99999 (by decide) hS g hE hx hu h1 h2
end
end
section
variable {prog:Program} {w:World} {A:Around} {E:Value->Shared->Prop} {s:Shared}
variable {S xa:Addr} {es:Array (Int×Value)} {ep:Nat} {t:SetTable} {k:Int×Int}
theorem get_put {h:Heap}{es es':Array (Int×Value)}{t t':SetTable}(hS:h.get? S=some (setObj es ep t)):(h.update S (Obj.putSet es' t')).get? S=some (setObj es' (ep+1) t'):=by
 have:=Heap.get?_update_self (Obj.putSet es' t') hS (by rw [putSet_of es' t' (show (setObj es ep t).data=.set es ep t from rfl)];rfl)
 rw [putSet_of es' t' (show (setObj es ep t).data=.set es ep t from rfl)] at this;exact this
theorem relay_eq (a:Addr)(wanted:Nat):setRelay a wanted=(do
  let (es,_,t) <- setState a
  if SetTable.sizeAbove wanted > sizeLine then unsupported "set:memory"
  let (es,t) <- (do
   let some (t',order):=t.relaid (es.map (·.1)) wanted | unsupported "internal:set-table-without-room"
   let es':=order.filterMap (es[·]?)
   if es'.size != es.size then unsupported "internal:set-table-lost-an-element"
   pure (es',t'))
  storeSet a es t):=rfl
theorem wp_relay {Q:Unit->Shared->Prop}(hS:s.heap.get? S=some (setObj es ep t))(hf:t.fits es.size=true)(hn:es.size=5)(hp:t.plain=true)
  (h:∀ h' es' ep' t',Heap.SameBut S s.heap h'->h'.get? S=some (setObj es' ep' t')->Good t' es'.size->t'.led=t.led->List.Perm es'.toList es.toList->Q () {s with heap:=h'}) :
  wpAny (model prog w) A (setRelay S (SetTable.grown es.size)) Q E s:=by
 rw [hn,relay_eq]
 refine wpAny_bind (wpAny_setState_of hS rfl hf ?_)
 dsimp only
 have e32:SetTable.sizeAbove (SetTable.grown 5)=32:=by decide
 rw [e32]
 rw [if_neg (by show ¬ (32 > sizeLine);decide)]
 obtain ⟨t',order,el,a1,a2,a3,a4,a5,a6,a7,a8⟩:=laid_ok hits31 t.finger (t.movedTo 31) t.led t.plain (es.map (·.1)) (by rw [Array.size_map,hn];decide)
 have er:t.relaid (es.map (·.1)) (SetTable.grown 5)=some (t',order):=by unfold relaid;rw [e32];exact el
 rw [er]
 dsimp only
 rw [Array.size_map] at a2 a8
 have hperm:List.Perm (order.filterMap (es[·]?)).toList es.toList:=by
  rw [Array.toList_filterMap,<- fm_range es]
  exact a8.filterMap _
 have hsz:(order.filterMap (es[·]?)).size=es.size:=by rw [<- Array.length_toList,hperm.length_eq,Array.length_toList]
 rw [hsz]
 simp only [bne_self_eq_false,Bool.false_eq_true,if_false]
 refine wpAny_bind (wpAny_pure ?_)
 refine wpAny_storeSet_of hS rfl ?_ (by rw [hsz,hn];decide)
 refine h _ _ _ _ (Heap.SameBut.update _ _ _) (get_put hS) ?_ a7 hperm
 rw [hsz]
 exact ⟨.inr ⟨a1,by omega⟩,a2,a3,fun j hj=>by rw [a1];exact a4 j hj,a5,a6.trans hp⟩
theorem wp_add {Q:Bool->Shared->Prop}(hS:s.heap.get? S=some (setObj es ep t))(g:Good t es.size)(hE:Ent prog w s.heap es)(hx:Tp s.heap xa k)(hu:A.units < cLine)(hn:es.size<=8)
  (h1:(∃ e∈es.toList,∃ a,e.2=.ref a/\Tp s.heap a k)->Q false {s with toks:=s.toks+3})
  (h2:∀ h' es' ep' t',Heap.SameBut S s.heap h'->h'.get? S=some (setObj es' ep' t')->Good t' es'.size->t'.led=t.led->List.Perm es'.toList ((hk prog w k,.ref xa)::es.toList) ->
   (es.size=0->t'.slot (t'.probeStart (hk prog w k)).j=.live 0) ->
   (∀ i e a,t.slot (t.probeStart (hk prog w k)).j=.live i->es[i]?=some e->e.2=.ref a->¬ Tp s.heap a k)->Q true {s with heap:=h',toks:=s.toks+3}) :
  wpAny (model prog w) A (setAdd S (.ref xa)) Q E s:=by
 unfold setAdd
 refine wpAny_holding ?_
 refine wpAny_bind (wpAny_pyHash_tuple (knd:=intKind prog w) hu hx.key ?_)
 show wpAny (model prog w) A (setAddHashed S (.ref xa) (hk prog w k)) Q E {s with toks:=s.toks+3}
 unfold setAddHashed
 refine wpAny_holding ?_
 obtain ⟨F,hF⟩:∃ F,(100000:Nat)=F+1:=⟨99999,rfl⟩
 rw [hF,setAddHashedIn]
 refine wpAny_bind (wpAny_setState_of (s:={s with toks:=s.toks+3}) hS rfl g.fits ?_)
 dsimp only
 have hb:byScan (Value.ref xa) es=false:=rfl
 rw [hb]
 simp only [Bool.false_eq_true,if_false]
 refine wpAny_bind (wp_search (s:={s with toks:=s.toks+3}) hS g hE hx hu (fun j hj hjm hfirst hno=>?_) fun z=>?_)
 ·dsimp only
  refine wpAny_bind (wpAny_setState_of (s:={s with toks:=s.toks+3}) hS rfl g.fits ?_)
  dsimp only
  obtain ⟨p1,p2,p3,p4,p5,p6,p7,p8⟩:=put_good g hj hjm
  rw [if_pos p6]
  refine wpAny_bind (wp_hashv (s:={s with toks:=s.toks+3}) hx ?_)
  simp only [if_true,Bool.not_false,Bool.true_and]
  have hperm:List.Perm (SetTable.insertAt es (t.put j).2 (hk prog w k,Value.ref xa)).toList ((hk prog w k,.ref xa)::es.toList):=by
   refine (SetTable.insertAt_perm _ _ _).trans ?_
   rw [Array.toList_push]
   exact List.perm_append_singleton _ _
  have hsz:(SetTable.insertAt es (t.put j).2 (hk prog w k,Value.ref xa)).size=es.size+1:=by
   rw [<- Array.length_toList,hperm.length_eq,List.length_cons,Array.length_toList]
  generalize hes1:SetTable.insertAt es (t.put j).2 (hk prog w k,Value.ref xa)=es1 at hperm hsz
  generalize ht1:(t.put j).1=t1 at p1 p2 p3 p4 p5 p6 p7
  refine wpAny_bind (wpAny_storeSet_of (s:={s with toks:=s.toks+3}) hS rfl ?_ (by rw [hsz];exact Nat.le_trans (Nat.succ_le_succ hn) (by decide)))
  have hS1:(s.heap.update S (Obj.putSet es1 t1)).get? S=some (setObj es1 (ep+1) t1):=get_put hS
  have sb1:=Heap.SameBut.update s.heap S (Obj.putSet es1 t1)
  by_cases full:t1.tooFull=true
  ·rw [if_pos full]
   have h5:es.size=4/\t.mask=7:=by
    unfold tooFull SetTable.fill at full
    rw [p5,p2,p1] at full
    simp at full
    rcases g.mask with ⟨e,b⟩ | ⟨e,b⟩
    ·rw [e] at full;exact ⟨by omega,e⟩
    ·rw [e] at full;omega
   have f1:t1.fits es1.size=true:=by
    unfold SetTable.fits SetTable.fill
    rw [p2,p5,hsz,p1,h5.1,h5.2];decide
   rw [<- hsz]
   refine wpAny_bind (wp_relay (s:={s with toks:=s.toks+3,heap:=s.heap.update S (Obj.putSet es1 t1)}) hS1 f1 (by rw [hsz,h5.1]) p6 fun h' es' ep' t' sb2 q1 q2 q3 q4=>?_)
   exact wpAny_pure (h2 h' es' ep' t' (sb1.trans sb2) q1 q2 (q3.trans p7) (q4.trans hperm) (fun z=>by omega) hno)
  ·rw [if_neg full]
   have nf:(es.size+1)*5 < t.mask*3:=by
    unfold tooFull SetTable.fill at full
    rw [p5,p2,p1] at full
    simpa using full
   refine wpAny_pure (h2 _ es1 _ t1 sb1 hS1 ?_ p7 hperm (fun z=>?_) hno)
   ·rw [hsz]
    refine ⟨?_,p2,p3,fun k hk=>by rw [p1];exact p4 k hk,p5,p6⟩
    rcases g.mask with ⟨e,b⟩ | ⟨e,b⟩
    ·exact .inl ⟨p1.trans e,by omega⟩
    ·exact .inr ⟨p1.trans e,by omega⟩
   ·have hpl:t.place = #[]:=Array.eq_empty_of_size_eq_zero (by rw [g.size];exact z)
    have hem:t.slot (t.probeStart (hk prog w k)).j=.empty:=slot_free g.dum (by rw [hpl];simp)
    have hj0:=hfirst hem
    have est:t1.probeStart (hk prog w k)=t.probeStart (hk prog w k):=by unfold probeStart;rw [p1]
    rw [est,<- hj0]
    refine slot_mem p3 ?_
    rw [<- ht1]
    show (SetTable.insertAt t.place (below t.place j) j)[0]?=some j
    rw [hpl]
    rfl
 ·exact wpAny_pure (h1 z)
end
structure Fit (prog:Program)(w:World)(es:Array (Int×Value))(t:SetTable)(led:Bool)(vs:List Value)(ks:List (Int×Int))(i:Nat):Prop where
 good:Good t es.size
 led:t.led=led
 le:es.size<=i
 ent:∀ e∈es.toList,∃ j a k,j < i/\vs[j]?=some (.ref a)/\e.2=.ref a/\ks[j]?=some k/\e.1=hk prog w k
 all:∀ j k,j < i->ks[j]?=some k->∃ e∈es.toList,∃ j' a,j' < i/\vs[j']?=some (.ref a)/\e.2=.ref a/\ks[j']?=some k
 one:es.size=1->∃ e,es.toList=[e]/\t.slot (t.probeStart e.1).j=.live 0
 same:(∀ j k k0,j < i->ks[j]?=some k->ks[0]?=some k0->k=k0)->es.size<=1
theorem fit_nil (prog:Program)(w:World)(led:Bool)(vs:List Value)(ks:List (Int×Int)):Fit prog w #[] (.fresh 0 0 led) led vs ks 0 :=
 ⟨⟨.inl ⟨rfl,by decide⟩,rfl,.nil,fun j hj=>absurd hj (by show ¬ j∈[];simp),rfl,rfl⟩,rfl,by decide,fun e he=>absurd he (by simp),fun j k hj=>absurd hj (Nat.not_lt_zero _),fun h=>absurd h (by decide),fun _=>by decide⟩
section
variable {prog:Program} {w:World} {A:Around} {R:Result->Shared->Prop} {I:Addr} {fp wr:List Addr} {G:Array GenState->Array GenState->Prop} {n:Nat} {St:Nat->Shared->Prop}
def TpsOk (h:Heap)(vs:List Value)(ks:List (Int×Int))(bad:List Addr):Prop:=∀ (j:Nat) v,vs[j]?=some v->∃ a k,v=.ref a/\ks[j]?=some k/\a ∉ bad/\Tp h a k
theorem TpsOk.keep {h h':Heap}{vs:List Value}{ks:List (Int×Int)}{bad:List Addr}(x:TpsOk h vs ks bad)(e:∀ b o,b ∉ bad->h.get? b=some o->h'.get? b=some o):TpsOk h' vs ks bad :=
 fun j v hv=>let ⟨a,k,e1,e2,e3,e4⟩:=x j v hv;⟨a,k,e1,e2,e3,e4.keep fun o ho=>e a o e3 ho⟩
theorem loopT (W:WalksS prog w A.in1 I fp wr G n (fun i v=>vs[i]?=some v) St)(S:Addr)(hSf:S ∉ fp){ks:List (Int×Int)}{led:Bool}(hb:n<=9)(hu:A.in1.units < cLine) :
  ∀ (q i:Nat) (s:Shared) (es:Array (Int×Value)) (ep:Nat) (t:SetTable),n-i=q->i<=n->St i s->TpsOk s.heap vs ks (S::wr) ->
   s.heap.get? S=some (setObj es ep t)->Fit prog w es t led vs ks i ->
   (∀ s' es' ep' t',Moved (S::wr) G s s'->s'.heap.get? S=some (setObj es' ep' t')->Fit prog w es' t' led vs ks n->R (.ok (.ret .none)) s') ->
   codeAny (model prog w) A (.builtin "set.update.loop" ⟨[.ref S,.ref I],[]⟩) R s:=by
 have hSw:S ∉ wr:=fun h=>hSf (W.sub _ h)
 have hsub:∀ b∈wr,b∈S::wr:=fun b hb=>List.mem_cons_of_mem _ hb
 intro q
 induction q with
 | zero =>
  intro i s es ep t hq hi hst htp hS ft hR
  have hin:i=n:=by omega
  subst hin
  refine codeAny_builtin PyProof.Rows.F.entry_set_update_loop ?_
  rw [Around.under_plainId PyProof.Rows.F.plain_set_update_loop _]
  show wpAny _ A.in1 (pyNext (.ref I) >>= _) _ _ s
  refine wpAny_bind (W.done s _ _ hst fun s' hm=>?_)
  show wpAny _ A.in1 (ret Value.none) _ _ s'
  exact wpAny_pure (hR s' es ep t (hm.mono hsub) (hm.heap S _ hSw hS) ft)
 | succ q ih =>
  intro i s es ep t hq hi hst htp hS ft hR
  have hlt:i < n:=by omega
  refine codeAny_builtin PyProof.Rows.F.entry_set_update_loop ?_
  rw [Around.under_plainId PyProof.Rows.F.plain_set_update_loop _]
  show wpAny _ A.in1 (pyNext (.ref I) >>= _) _ _ s
  refine wpAny_bind (W.item i s _ _ hlt hst fun v s' hP hst' hm=>?_)
  obtain ⟨a,k,rfl,hki,ha,_⟩:=htp i v hP
  have htp':TpsOk s'.heap vs ks (S::wr):=htp.keep fun b o hb e=>hm.heap b o (fun z=>hb (hsub b z)) e
  have hS':=hm.heap S _ hSw hS
  obtain ⟨a2,k2,e1,e2,_,hTa⟩:=htp' i _ hP
  cases e1
  rw [hki] at e2;cases e2
  have hE:Ent prog w s'.heap es:=fun e he=>by
   obtain ⟨j,b,k',hj,hv,eb,ek,eh⟩:=ft.ent e he
   obtain ⟨b',k'',e3,e4,_,hT⟩:=htp' j _ hv
   cases e3
   rw [ek] at e4;cases e4
   exact ⟨b,k',eb,hT,eh⟩
  show wpAny _ A.in1 (holding [Value.ref a] (setAdd S (.ref a)) >>= _) _ _ s'
  refine wpAny_bind (wpAny_holding ?_)
  refine wp_add hS' ft.good hE hTa hu (by have:=ft.le;omega) (fun ⟨e,he,b,eb,hTb⟩=>?_) (fun h' es' ep' t' sb hS2 g2 l2 pm z0 hno=>?_)
  ·have f':Fit prog w es t led vs ks (i+1):=by
    refine ⟨ft.good,ft.led,by have:=ft.le;omega,fun e he=>?_,fun j k' hj hk'=>?_,ft.one,fun hall=>ft.same fun j k k0 hj=>hall j k k0 (by omega)⟩
    ·obtain ⟨j,b,k',hj,r⟩:=ft.ent e he
     exact ⟨j,b,k',by omega,r⟩
    ·by_cases q:j=i
     ·subst q
      rw [hki] at hk';cases hk'
      obtain ⟨j,b',k',hj,hv,eb',ek,eh⟩:=ft.ent e he
      rw [eb] at eb';cases eb'
      obtain ⟨b'',k'',e3,e4,_,hT⟩:=htp' j _ hv
      cases e3
      rw [ek] at e4;cases e4
      have:=hT.inj hTb
      subst this
      exact ⟨e,he,j,b,by omega,hv,eb,ek⟩
     ·obtain ⟨e,he,j',b,hj',r⟩:=ft.all j k' (by omega) hk'
      exact ⟨e,he,j',b,by omega,r⟩
   refine wpAny_pure ⟨plainId_quiet PyProof.Rows.F.plain_set_update_loop _,ih (i+1) _ es ep t (by omega) hlt (W.frame _ s' _ _ hst' (by omega) fun b hb o e=>e) htp' hS' f' fun s'' es2 ep2 t2 hm'' hS'' f''=>?_⟩
   exact hR s'' es2 ep2 t2 (Moved.trans W.gtrans ((hm.mono hsub).then_heap (by omega) fun b o hb e=>e) hm'') hS'' f''
  ·have hsz:es'.size=es.size+1:=by rw [<- Array.length_toList,pm.length_eq,List.length_cons,Array.length_toList]
   have f':Fit prog w es' t' led vs ks (i+1):=by
    refine ⟨g2,l2.trans ft.led,by have:=ft.le;omega,fun e he=>?_,fun j k' hj hk'=>?_,fun h1=>?_,fun hall=>?_⟩
    ·rcases List.mem_cons.mp (pm.mem_iff.mp he) with rfl | he
     ·exact ⟨i,a,k,by omega,hP,rfl,hki,rfl⟩
     ·obtain ⟨j,b,k',hj,r⟩:=ft.ent e he
      exact ⟨j,b,k',by omega,r⟩
    ·by_cases q:j=i
     ·subst q
      rw [hki] at hk';cases hk'
      exact ⟨_,pm.mem_iff.mpr List.mem_cons_self,j,a,by omega,hP,rfl,hki⟩
     ·obtain ⟨e,he,j',b,hj',r⟩:=ft.all j k' (by omega) hk'
      exact ⟨e,pm.mem_iff.mpr (List.mem_cons_of_mem _ he),j',b,by omega,r⟩
    ·have e0:es.size=0:=by omega
     have:es = #[]:=Array.eq_empty_of_size_eq_zero e0
     subst this
     exact ⟨_,List.perm_singleton.mp pm,z0 rfl⟩
    ·by_cases e0:es.size=0
     ·omega
     ·exfalso
      have e1:es.size=1:=by have:=ft.same fun j k k0 hj=>hall j k k0 (by omega);omega
      obtain ⟨e,ee,hs⟩:=ft.one e1
      obtain ⟨j,b,k',hj,hv,eb,ek,eh⟩:=ft.ent e (by rw [ee];exact List.mem_cons_self)
      obtain ⟨b'',k'',e3,e4,_,hT⟩:=htp' j _ hv
      cases e3
      rw [ek] at e4;cases e4
      obtain ⟨k0,hk0⟩:∃ k0,ks[0]?=some k0:=by
       have:0 < ks.length:=by have:=(List.getElem?_eq_some_iff.mp hki).1;omega
       exact ⟨_,List.getElem?_eq_getElem this⟩
      have q1:=hall j k' k0 (by omega) ek hk0
      have q2:=hall i k k0 (by omega) hki hk0
      have:k'=k:=q1.trans q2.symm
      subst this
      rw [eh] at hs
      refine hno 0 e b hs ?_ eb hT
      rw [<- Array.getElem?_toList,ee];rfl
   have htp2:TpsOk h' vs ks (S::wr):=htp'.keep fun b o hb e=>by
    rw [sb.2 b (fun z=>hb (z▸List.mem_cons_self))];exact e
   refine wpAny_pure ⟨plainId_quiet PyProof.Rows.F.plain_set_update_loop _,ih (i+1) _ es' ep' t' (by omega) hlt (W.frame _ s' _ _ hst' (by omega) fun b hb o e=>?_) htp2 hS2 f' fun s'' es2 ep2 t2 hm'' hS'' f''=>?_⟩
   ·rw [sb.2 b (fun h:b=S=>hSf (by rw [<- h];exact hb))];exact e
   ·refine hR s'' es2 ep2 t2 (Moved.trans W.gtrans ((hm.mono hsub).then_heap (by omega) fun b o hb e=>?_) hm'') hS'' f''
    rw [sb.2 b (fun h:b=S=>hb (by rw [h];exact List.mem_cons_self))];exact e
end
section
variable {prog:Program} {w:World} {A:Around} {E:Value->Shared->Prop} {s:Shared}
def led (w:World):Bool:=!(w.params.followText "set-order")
theorem set_new (a:Value){Q₁:Value->Shared->Prop}
  (h:Q₁ (.ref s.heap.objs.size) {s with heap:=s.heap.push (setObj #[] 0 (.fresh 0 0 (led w)))}) :
  codeAny (model prog w) A (.call (.builtin "set.__new__") ⟨[.type "set",a],[]⟩) (wants Q₁ E) s:=by
 refine codeAny_of_tree ?_
 show wpAny _ A.in1 (do checkBuiltinCall "set.__new__" ⟨[.type "set",a],[]⟩;again (.builtin "set.__new__" ⟨[.type "set",a],[]⟩)) _ _ s
 refine wpAny_bind (wpAny_of_eq (F.newCall_set_1 a) (wpAny_pure ⟨plainId_quiet F.plain_set_new _,codeAny_builtin F.entry_set_new ?_⟩))
 rw [Around.under_plainId F.plain_set_new _]
 unfold Builtin.«set.__new__» Builtin.Frozenset.newClass
 have hsub:=sub_set_self
 obtain ⟨hp,g,d,tk,os⟩:=s
 dsimp only
 wp_walk
 refine wpAny_askSetting (wpAny_pure ?_)
 dsimp only
 simp only [newObj]
 refine wpAny_bind (wpAny_alloc (wpAny_pure ?_))
 exact wpAny_pure h
set_option maxRecDepth 100000 in
set_option maxHeartbeats 3200000 in
theorem call_setT {l:Addr}{vs:List Value}{ks:List (Int×Int)}{Q:Value->Shared->Prop}
  (hh:A.handled=none) (hl:s.heap.IsList l vs.toArray) (hu:A.in1.in1.in1.units < cLine) (hb:vs.length<=9) (htp:∀ (j:Nat) v,vs[j]?=some v->∃ a k,v=.ref a/\ks[j]?=some k/\Tp s.heap a k)
  (h:∀ (h':Heap) (tk:Nat) es ep t,h'.get? s.heap.objs.size=some (setObj es ep t)->Fit prog w es t (led w) vs ks vs.length ->
   (∀ b o,b < s.heap.objs.size->s.heap.get? b=some o->h'.get? b=some o)->Q (.ref s.heap.objs.size) {s with heap:=h',toks:=tk}) :
  wpAny (model prog w) A (call (.type "set") [.ref l]) Q E s:=by
 obtain ⟨c,tl,hmro⟩:=F.called_set.mro
 have hmade:=F.called_set.made
 have hsub:=F.called_set.sub
 refine wpAny_call (codeAny_of_tree ?_)
 show wpAny _ _ (callAny (.type "set") _) _ _ _
 refine wpAny_pure ⟨Code.quiet_builtin _ (by decide +kernel),codeAny_builtin F.entry_type_call ?_⟩
 rw [Around.under_plain (weight_type_call_type "set" [.ref l] []) rfl]
 have h1:=F.called_set.notType
 have h2:=F.called_set.canCreate
 have hct:=F.typeCall_set_1 (.ref l)
 repeat (any_goals (first | assumption | wp_step))
 refine codeAny_mono (set_new (.ref l) (E:=E) (Q₁:=fun obj s₁=>obj=.ref s.heap.objs.size/\s₁={s with heap:=s.heap.push (setObj #[] 0 (.fresh 0 0 (led w)))}) ⟨rfl,rfl⟩) fun r s₁ hr=>?_
 cases r with
 | error e=>exact hr
 | ok fl =>
  cases fl with
  | ret obj =>
   obtain ⟨rfl,rfl⟩:=hr
   have hS:(s.heap.push (setObj #[] 0 (.fresh 0 0 (led w)))).get? s.heap.objs.size=some (setObj #[] 0 (.fresh 0 0 (led w))):=Heap.get?_push_size _ rfl
   have hT:Shared.TypeIs {s with heap:=s.heap.push (setObj #[] 0 (.fresh 0 0 (led w)))} (.ref s.heap.objs.size) "set":=⟨_,hS,rfl⟩
   have hli:=F.called_set.init.lookup
   have hbi:=F.called_set.init.bind (.ref s.heap.objs.size)
   repeat (any_goals (first | assumption | wp_step))
   refine codeAny_mono (codeAny_call_builtin (R:=wants (fun r s₂=>r=.none/\∃ h' tk es ep t,s₂={s with heap:=h',toks:=tk} /\
     h'.get? s.heap.objs.size=some (setObj es ep t)/\Fit prog w es t (led w) vs ks vs.length /\
     (∀ b o,b < s.heap.objs.size->s.heap.get? b=some o->h'.get? b=some o)) E) F.called_set.init.plain F.entry_set_init (check_set_init_1 hT ?_)) fun r₂ s₂ hr₂=>?_
   ·obtain ⟨ol,hol,hcl,nl,hdl⟩:=hl
    obtain ⟨ocls,odict,odata,oslots⟩:=ol
    simp only at hcl hdl
    subst hcl;subst hdl
    have hol':(s.heap.push (setObj #[] 0 (.fresh 0 0 (led w)))).get? l=some {cls:=.type "list",dict:=odict,data:=.seq vs.toArray nl,slots:=oslots}:=Heap.get?_push_of_some _ hol
    have hsls:=F.sub_list_set
    have hslf:=F.sub_list_frozenset
    have hne:(Value.type "list" == Value.type "dict")=false:=by decide
    have hl1:(s.heap.push (setObj #[] 0 (.fresh 0 0 (led w)))).IsList l vs.toArray:=⟨_,hol',rfl,nl,rfl⟩
    unfold Builtin.«set.__init__» noKeywords Builtin.Frozenset.updateFrom
    generalize hPI:pyIter=PI
    wp_walk
    subst hPI
    refine wpAny_pyIter_list hl1 ?_
    refine wpAny_bind (wpAny_runValue ?_)
    have hlS:l < s.heap.objs.size:=Heap.lt_size hol
    have hh3:A.in1.in1.in1.handled=none:=by simp [hh]
    have hneI:l≠(s.heap.push (setObj #[] 0 (.fresh 0 0 (led w)))).objs.size:=by
     rw [Heap.size_push];exact Nat.ne_of_lt (Nat.lt_succ_of_lt hlS)
    have hSf:s.heap.objs.size ∉ [(s.heap.push (setObj #[] 0 (.fresh 0 0 (led w)))).objs.size,l]:=by
     rw [Heap.size_push];simp only [List.mem_cons,List.mem_singleton,List.not_mem_nil,or_false,not_or]
     exact ⟨Nat.ne_of_lt (Nat.lt_succ_self _),Nat.ne_of_gt hlS⟩
    have W0:=(Walks.list (prog:=prog) (w:=w) (A:=A.in1.in1.in1) hh3 _ l hneI vs.toArray).toS
    have e:vs.toArray.size=vs.length:=by simp
    rw [e] at W0
    have e2:(fun (i:Nat) (v:Value)=>vs.toArray[i]?=some v)=fun i v=>vs[i]?=some v:=by funext i v;simp
    rw [e2] at W0
    refine loopT W0 s.heap.objs.size (led:=led w) (ks:=ks)
     hSf hb hu (vs.length-0) 0 _ #[] 0 (.fresh 0 0 (led w)) (by omega) (Nat.zero_le _)
     ⟨⟨_,Heap.get?_push_size _ rfl,rfl,rfl⟩,(hl1.push _)⟩ ?hT0 ?hS0 (fit_nil prog w _ _ _) ?hR
    case hT0 =>
     intro j v hv
     obtain ⟨a,k,e1,e2,e3⟩:=htp j v hv
     obtain ⟨o,n,t1,t2,ho,_⟩:=id e3
     have hlt:=Heap.lt_size ho
     refine ⟨a,k,e1,e2,?_,e3.keep fun o ho=>Heap.get?_push_of_some _ (Heap.get?_push_of_some _ ho)⟩
     rw [Heap.size_push]
     simp only [List.mem_cons,List.mem_singleton,List.not_mem_nil,or_false,not_or]
     exact ⟨Nat.ne_of_lt hlt,Nat.ne_of_lt (Nat.lt_succ_of_lt hlt)⟩
    case hS0=>exact Heap.get?_push_of_some _ hS
    case hR =>
     intro s' es' ep' t' hm hS' hf
     obtain ⟨h',g',d',tk',os'⟩:=s'
     have eg:g'=s.gens:=hm.gens
     have ed:d'=s.drawn:=hm.drawn
     have eo:os'=s.os:=hm.os
     subst eg;subst ed;subst eo
     show wpAny _ _ _ _ _ _
     refine wpAny_pure ?_
     show wpAny _ _ (ret Value.none) _ _ _
     refine wpAny_pure ⟨rfl,h',tk',es',ep',t',rfl,hS',hf,fun b o hb e=>?_⟩
     have hb1:b≠s.heap.objs.size:=Nat.ne_of_lt hb
     have hb2:b≠(s.heap.push (setObj #[] 0 (.fresh 0 0 (led w)))).objs.size:=by
      rw [Heap.size_push];exact Nat.ne_of_lt (Nat.lt_succ_of_lt hb)
     exact hm.heap b o (by simp only [List.mem_cons,List.mem_singleton,List.not_mem_nil,or_false,not_or];exact ⟨hb1,hb2⟩) (Heap.get?_push_of_some _ (Heap.get?_push_of_some _ e))
   ·cases r₂ with
    | error e=>exact hr₂
    | ok fl₂ =>
     cases fl₂ with
     | ret r =>
      obtain ⟨rfl,h',tk,es,ep,t,rfl,hS',hf,hk'⟩:=hr₂
      repeat (any_goals (first | assumption | wp_step))
      exact h _ _ _ _ _ hS' hf hk'
     | _=>exact hr₂.elim
  | _=>exact hr.elim
end
theorem slot_si_next:Slot "set_iterator" "__next__" "set_iterator.__next__" :=
 .of (owner:="set_iterator") (n:="__next__") (by rw [typeLookup_type,builtinLookup_eq_fast];kernel_rfl) (by decide +kernel) (by decide +kernel) (by decide +kernel)
  (by first | exact .inl (by decide +kernel) | exact .inr (by decide +kernel)) (by rw [isSubtype_type];kernel_rfl)
theorem slot_si_iter:Slot "set_iterator" "__iter__" "set_iterator.__iter__" :=
 .of (owner:="set_iterator") (n:="__iter__") (by rw [typeLookup_type,builtinLookup_eq_fast];kernel_rfl) (by decide +kernel) (by decide +kernel) (by decide +kernel)
  (by first | exact .inl (by decide +kernel) | exact .inr (by decide +kernel)) (by rw [isSubtype_type];kernel_rfl)
theorem entry_si_next:entryFor table "set_iterator.__next__" = some Builtin.«set_iterator.__next__»:=entryFor_of_fast (by kernel_rfl)
theorem entry_si_iter:entryFor table "set_iterator.__iter__" = some Builtin.«dict_keyiterator.__iter__» :=
 entryFor_alias (id':="dict_keyiterator.__iter__") (by kernel_rfl) rfl (by decide +kernel) (by kernel_rfl)
theorem entry_set_iter:entryFor table "set.__iter__" = some Builtin.«frozenset.__iter__» :=
 entryFor_alias (id':="frozenset.__iter__") (by kernel_rfl) rfl (by decide +kernel) (by kernel_rfl)
theorem args_si_next (a:Value):argsOk "set_iterator.__next__" ⟨[a],[]⟩:=by unfold argsOk;kernel_rfl
theorem args_si_iter (a:Value):argsOk "set_iterator.__iter__" ⟨[a],[]⟩:=by unfold argsOk;kernel_rfl
section
variable {prog:Program} {w:World} {A:Around} {E:Value->Shared->Prop} {s:Shared}
variable {S I:Addr} {es:Array (Int×Value)} {ep:Nat} {t:SetTable}
def byT (w:World):Bool:=w.params.followText "set-order"
def ord (w:World)(S:Addr)(es:Array (Int×Value))(ep:Nat):Array (Int×Value):=if byT w then pickOrder (w.params.setOrder S ep) es else es
theorem ord_perm:List.Perm (ord w S es ep).toList es.toList:=by
 unfold ord
 split
 ·exact pick_perm _ _
 ·exact .refl _
theorem wp_setNext (hS:s.heap.get? S=some (setObj es ep t))(g:Good t es.size)(hl:t.led=led w){slot i:Nat}(hc:byT w=false->Cut t.place slot i){Q:Option (Value×Nat)->Shared->Prop}
  (h1:∀ e next,(ord w S es ep)[i]?=some e->(byT w=false->Cut t.place next (i+1))->Q (some (e.2,next)) s) (h2:(ord w S es ep)[i]?=none->Q none s) :
  wpAny (model prog w) A (setNext S slot i ep) Q E s:=by
 unfold setNext
 refine wpAny_bind (wpAny_setState_of hS rfl g.fits ?_)
 dsimp only
 unfold setsByText
 refine wpAny_bind (wpAny_bind (wpAny_askSetting (wpAny_pure ?_)))
 show wpAny (model prog w) A (if byT w=true then _ else _) Q E s
 by_cases b:byT w=true
 ·rw [if_pos b]
  simp only [bne_self_eq_false,Bool.false_eq_true,if_false]
  unfold setWalk
  refine wpAny_bind (wpAny_bind (wpAny_setState_of hS rfl g.fits ?_))
  dsimp only
  unfold setsByText
  refine wpAny_bind (wpAny_bind (wpAny_askSetting (wpAny_pure ?_)))
  show wpAny (model prog w) A (if byT w=true then _ else _) _ E s
  rw [if_pos b]
  refine wpAny_bind (wpAny_askSetting ?_)
  refine wpAny_pure ?_
  have eo:ord w S es ep=pickOrder (w.params.setOrder S ep) es:=by unfold ord;rw [if_pos b]
  refine wpAny_pure ?_
  show Q (((pickOrder (w.params.setOrder S ep) es)[i]?).map fun e=>(e.2,slot)) s
  rw [<- eo]
  cases e:(ord w S es ep)[i]? with
  | none=>exact h2 e
  | some x=>exact h1 x slot e (fun z=>by rw [b] at z;cases z)
 ·rw [if_neg b]
  have b':byT w=false:=by simpa using b
  have hl':t.led=true:=by rw [hl];unfold led;show (!(byT w))=true;rw [b'];rfl
  have eo:ord w S es ep=es:=by unfold ord;rw [if_neg b]
  rw [eo] at h1 h2
  have c:=hc b'
  have ebl:below t.place slot=i:=(below_cut g.up).uniq c
  show wpAny (model prog w) A (if (!t.plain && decide (es.size > 1))=true then _ else _) Q E s
  rw [if_neg (by rw [g.plain];simp)]
  show wpAny (model prog w) A ((if (!t.led && !es.isEmpty)=true then unsupported "set:maker-not-led" else pure ()) >>= _) Q E s
  rw [if_neg (by rw [hl'];simp)]
  refine wpAny_bind (wpAny_pure ?_)
  rw [ebl]
  refine wpAny_pure ?_
  cases e:es[i]? with
  | none=>exact h2 e
  | some x =>
   have hi:i < t.place.size:=by rw [g.size];exact (Array.getElem?_eq_some_iff.mp e).1
   have hp:t.place[i]?=some t.place[i]:=Array.getElem?_eq_getElem hi
   rw [hp]
   exact h1 x _ e fun _=>cut_next g.up hp
structure Itr (w:World)(h:Heap)(I S:Addr)(n ep:Nat)(t:SetTable)(i:Nat):Prop where
 ex:∃ slot:Nat,h.get? I=some {cls:=.type "set_iterator",data:=.fields #[rawInt slot,rawInt (i:Nat),.ref S,rawInt (n:Nat),rawInt (ep:Nat)]}/\(byT w=false->Cut t.place slot i)
theorem wp_next (hh:A.handled=none)(hS:s.heap.get? S=some (setObj es ep t))(g:Good t es.size)(hl:t.led=led w){i:Nat}(it:Itr w s.heap I S es.size ep t i){Q:Option Value->Shared->Prop}
  (h1:∀ e h',(ord w S es ep)[i]?=some e->Itr w h' I S es.size ep t (i+1)->Heap.SameBut I s.heap h'->Q (some e.2) {s with heap:=h'})
  (h2:∀ h',(ord w S es ep)[i]?=none->Heap.ExtBut I s.heap h'->Q none {s with heap:=h'}) :
  wpAny (model prog w) A (pyNext (.ref I)) Q E s:=by
 obtain ⟨slot,hI,hc⟩:=it.ex
 have hT:s.TypeIs (.ref I) "set_iterator":=⟨_,hI,rfl⟩
 unfold pyNext
 refine wpAny_bind (wpAny_attempt (wpAny_callSpecial?_slot (name:=Str.ofString "__next__") hT slot_si_next
  (wpAny_call_entry slot_si_next hT entry_si_next ?_ (args_si_next _))))
 show wpAny _ _ (fieldsOf (.ref I) >>= _) _ _ s
 refine wpAny_bind (wpAny_fieldsOf hI rfl ?_)
 show wpAny _ _ (setEntries S >>= _) _ _ s
 refine wpAny_bind (wpAny_setEntries_of hS rfl g.fits ?_)
 dsimp only
 simp only [bne_self_eq_false,Bool.false_eq_true,if_false]
 show wpAny _ _ (setNext S ((slot:Int)).toNat ((i:Int)).toNat ((ep:Int)).toNat >>= _) _ _ s
 rw [Int.toNat_natCast,Int.toNat_natCast,Int.toNat_natCast]
 refine wpAny_bind (wp_setNext hS g hl hc (fun e next he hc'=>?_) fun he=>?_)
 ·dsimp only
  refine wpAny_bind (wpAny_setField_rec hI (by simp) fun h' hI' sb=>?_)
  refine wpAny_bind (wpAny_setField_rec (s:={s with heap:=h'}) hI' (by simp) fun h'' hI'' sb'=>?_)
  refine wpAny_pure ⟨e.2,rfl,wpAny_pure (h1 e h'' he ⟨next,?_,hc'⟩ (sb.trans sb'))⟩
  rw [hI'']
  simp [rawInt]
 ·dsimp only
  refine wpAny_bind (wpAny_setField_rec hI (by simp) fun h' hI' sb=>?_)
  show wpAny _ _ (newExc (.type "StopIteration") [] >>= _) _ _ _
  refine wpAny_bind ?_
  simp only [newExc,newTuple]
  refine wpAny_bind (wpAny_newObj_type ?_ (by size_fits))
  refine wpAny_bind (m:=firstArgMember _ _) (wpAny_of_eq (a:=Value.none) (by first | rfl | (simp only [firstArgMember];rfl)) ?_)
  refine wpAny_newObj_type ?_ (by size_fits)
  simp only [raiseNew]
  refine wpAny_bind (wpAny_handled ?_)
  rw [show A.in1.handled=none from hh]
  refine wpAny_bind (wpAny_pure (wpAny_throw ?_))
  refine wpAny_bind (wpAny_isInstance (T:="StopIteration") (b:=true) ⟨_,Heap.get?_push_size _ rfl,rfl⟩ isSubtype_stop ?_)
  exact wpAny_pure (h2 _ he ((sb.extBut.push _).push _))
theorem wp_iter (hS:s.heap.get? S=some (setObj es ep t))(g:Good t es.size){Q:Value->Shared->Prop}
  (h:Q (.ref s.heap.objs.size) {s with heap:=s.heap.push {cls:=.type "set_iterator",data:=.fields #[rawInt (0:Nat),rawInt (0:Nat),.ref S,rawInt (es.size:Nat),rawInt (ep:Nat)]}}) :
  wpAny (model prog w) A (pyIter (.ref S)) Q E s:=by
 have hT:s.TypeIs (.ref S) "set":=⟨_,hS,rfl⟩
 refine wpAny_pyIter_slot hT F.slot_set_iter (wpAny_call_entry F.slot_set_iter hT entry_set_iter ?_ (F.args_set_iter_1 _))
 show wpAny _ _ (Builtin.Frozenset.sizeOf S >>= _) _ _ s
 unfold Builtin.Frozenset.sizeOf
 refine wpAny_bind (wpAny_bind (wpAny_setEntries_of hS rfl g.fits (wpAny_pure ?_)))
 unfold setDrawn
 refine wpAny_bind (wpAny_bind (wpAny_setState_of hS rfl g.fits ?_))
 dsimp only
 unfold setsByText
 refine wpAny_bind (wpAny_bind (wpAny_askSetting (wpAny_pure ?_)))
 refine wpAny_pure ?_
 show wpAny _ _ (if (!(byT w) && (!t.plain && decide (es.size > 1)))=true then _ else _) _ _ s
 rw [if_neg (by rw [g.plain];simp)]
 refine wpAny_bind (wpAny_pure ?_)
 refine wpAny_bind (wpAny_setEpoch_of hS rfl g.fits ?_)
 exact wpAny_bind (wpAny_newObj_type (wpAny_pure ⟨_,rfl,"set_iterator",_,⟨_,Heap.get?_push_size _ rfl,rfl⟩,slot_si_next.lookup,h⟩))
end
end ST
namespace ST
open PySem PySem.SetTable PyProof.Rows PyProof.Rows.G
section
variable {prog:Program} {w:World} {A:Around} {E:Value->Shared->Prop} {s:Shared}
variable {S I:Addr} {es:Array (Int×Value)} {ep:Nat} {t:SetTable}
theorem ord_size:(ord w S es ep).size=es.size:=by rw [<- Array.length_toList,ord_perm.length_eq,Array.length_toList]
theorem walk_set (hh:A.handled=none)(hne:S≠I)(g:Good t es.size)(hl:t.led=led w) :
  Walks prog w A I [I,S] [I] es.size (fun i v=>∃ e,(ord w S es ep)[i]?=some e/\v=e.2) (fun i h=>h.get? S=some (setObj es ep t)/\Itr w h I S es.size ep t i) where
 sub:=fun b hb=>by simp at hb;simp [hb]
 frame:=fun i h h' st hk=>⟨hk S (by simp) _ st.1,⟨let ⟨sl,e,c⟩:=st.2.ex;⟨sl,hk I (by simp) _ e,c⟩⟩⟩
 item:=fun i s Q E hi st hQ=>by
  refine wp_next hh st.1 g hl st.2 (fun e h' he it sb=>?_) (fun h' he=>?_)
  ·have:({s with heap:=h'}:Shared)={s with heap:=h',toks:=s.toks}:=rfl
   rw [this]
   refine hQ _ h' s.toks ⟨e,he,rfl⟩ ⟨by rw [sb.2 S hne];exact st.1,it⟩ fun b o hb eo=>?_
   rw [sb.2 b (fun z=>hb (by simp [z]))];exact eo
  ·exfalso
   have:=Array.getElem?_eq_none_iff.mp he
   rw [ord_size] at this;omega
 done:=fun s Q E st hQ=>by
  refine wp_next hh st.1 g hl st.2 (fun e h' he=>?_) (fun h' he eb=>?_)
  ·exfalso
   have:=(Array.getElem?_eq_some_iff.mp he).1
   rw [ord_size] at this;omega
  ·have:({s with heap:=h'}:Shared)={s with heap:=h',toks:=s.toks}:=rfl
   rw [this]
   exact hQ h' s.toks fun b o hb eo=>eb b o (fun z=>hb (by simp [z])) eo
 self:=fun i s Q E st hQ=>by
  obtain ⟨sl,e,c⟩:=st.2.ex
  have hT:s.TypeIs (.ref I) "set_iterator":=⟨_,e,rfl⟩
  refine wpAny_pyIter_slot hT slot_si_iter (wpAny_call_entry slot_si_iter hT entry_si_iter ?_ (args_si_iter _))
  show wpAny _ _ (ret (.ref I)) _ _ s
  exact wpAny_pure ⟨_,rfl,"set_iterator",_,hT,slot_si_next.lookup,hQ⟩
theorem items_ord {acc:Array Value}(h:ItemsOf (fun i v=>∃ e,(ord w S es ep)[i]?=some e/\v=e.2) acc es.size):acc.toList=(ord w S es ep).toList.map (·.2):=by
 apply List.ext_getElem
 ·rw [List.length_map,Array.length_toList,Array.length_toList,h.1,ord_size]
 ·intro i h1 h2
  have hi:i < acc.size:=by simpa using h1
  obtain ⟨e,he,hv⟩:=h.2 i acc[i] (Array.getElem?_eq_getElem hi)
  obtain ⟨hi2,e2⟩:=Array.getElem?_eq_some_iff.mp he
  simp only [Array.getElem_toList,List.getElem_map]
  rw [hv,e2]
theorem wp_hint (hS:s.heap.get? S=some (setObj es ep t)){Q:Bool->Shared->Prop}(h:Q false s):wpAny (model prog w) A (Builtin.List.listLengthHint (.ref S)) Q E s:=by
 have hT:s.TypeIs (.ref S) "set":=⟨_,hS,rfl⟩
 unfold Builtin.List.listLengthHint
 refine wpAny_bind (wpAny_specialOf hT F.slot_set_len.lookup ?_)
 generalize hid:("set.__len__" : String)=id0
 wp_delta
 rw [show splitId id0=some ("set","__len__") from by subst hid;decide +kernel]
 subst hid
 refine wpAny_bind (wpAny_isInstance (T:="set") (b:=true) hT sub_set_self ?_)
 refine wpAny_ite_split (fun hab=>absurd hab (by decide)) (fun _=>?_)
 refine wpAny_ite_split (fun _=>?_) (fun hab=>absurd (by decide +kernel) hab)
 refine wpAny_bind (wpAny_typeOf hT ?_)
 exact wpAny_pure h
theorem collect_set (hh:A.handled=none)(hS:s.heap.get? S=some (setObj es ep t))(g:Good t es.size)(hl:t.led=led w){Q:List Value->Shared->Prop}
  (h:∀ h' tk vs,(∀ b o,s.heap.get? b=some o->h'.get? b=some o)->s.heap.objs.size<=h'.objs.size->List.Perm vs (es.toList.map (·.2))->Q vs {s with heap:=h',toks:=tk}) :
  wpAny (model prog w) A (collect (.ref S)) Q E s:=by
 have hSlt:=Heap.lt_size hS
 unfold collect
 refine wpAny_bind (wpAny_runValue (codeAny_builtin F.entry_proto_collect ?_))
 rw [Around.under_plainId F.plain_proto_collect _]
 show wpAny _ A.in1 (newList [] >>= fun l=>again (.builtin "list.__iadd__" ⟨[l,.ref S],[]⟩)) _ _ s
 refine wpAny_bind (wpAny_newObj_type ?_)
 refine wpAny_pure ⟨plainId_quiet F.plain_list_iadd _,codeAny_builtin F.entry_list_iadd ?_⟩
 rw [Around.under_plainId F.plain_list_iadd _]
 have hS1:(s.heap.push {cls:=.type "list",data:=.seq ([]:List Value).toArray}).get? S=some (setObj es ep t):=Heap.get?_push_of_some _ hS
 have hL1:(s.heap.push {cls:=.type "list",data:=.seq ([]:List Value).toArray}).get? s.heap.objs.size=some {cls:=.type "list",data:=.seq ([]:List Value).toArray}:=Heap.get?_push_size _ rfl
 have h1:Builtin.List.listSameRef (.ref s.heap.objs.size) (.ref S)=false:=by simp [Builtin.List.listSameRef];exact Nat.ne_of_gt hSlt
 show wpAny _ A.in1 (Builtin.List.listExtendWith (.ref s.heap.objs.size) (.ref S) (.ref s.heap.objs.size)) _ _ _
 generalize hL:s.heap.objs.size=L at hSlt hL1 h1 ⊢
 generalize hh1:s.heap.push {cls:=.type "list",data:=.seq ([]:List Value).toArray}=H1 at hS1 hL1 ⊢
 have old1:∀ b o,s.heap.get? b=some o->H1.get? b=some o:=fun b o e=>by rw [<- hh1];exact Heap.get?_push_of_some _ e
 have sz1:H1.objs.size=L+1:=by rw [<- hh1,Heap.size_push,hL]
 unfold Builtin.List.listExtendWith
 refine wpAny_bind (wpAny_typeOf (T:="set") ⟨_,hS1,rfl⟩ ?_)
 have h2:(Value.type "set" == Value.type "list")=false:=by decide
 have h3:(Value.type "set" == Value.type "tuple")=false:=by decide
 simp only [h1,h2,h3,Bool.or_false,Bool.false_eq_true,if_false]
 refine wpAny_bind (wp_iter hS1 g ?_)
 refine wpAny_bind (wpAny_holding (wp_hint (Heap.get?_push_of_some _ hS1) ?_))
 generalize hio:({cls:=Value.type "set_iterator",data:=Data.fields #[rawInt (0:Nat),rawInt (0:Nat),Value.ref S,rawInt (es.size:Nat),rawInt (ep:Nat)]}:Obj)=io
 have hI2:(H1.push io).get? H1.objs.size=some io:=Heap.get?_push_size _ (by rw [<- hio];rfl)
 have hL2:(H1.push io).get? L=some {cls:=.type "list",data:=.seq ([]:List Value).toArray}:=Heap.get?_push_of_some _ hL1
 have hS2:(H1.push io).get? S=some (setObj es ep t):=Heap.get?_push_of_some _ hS1
 refine wpAny_ite_split (fun _=>?_) (fun hab=>absurd (by decide +kernel) hab)
 refine wpAny_bind (wpAny_rule ?_)
 refine wpAny_bind ?_
 show wpAny _ _ (updateSeq L (·.push .none) >>= fun _=>updateSeq L (·.pop)) _ _ _
 refine wpAny_bind (wpAny_updateSeq hL2 rfl ?_)
 have hL3:=Heap.get?_update_self (Obj.mapSeq (·.push Value.none)) hL2 rfl
 refine wpAny_updateSeq (hz:=by seq_fits) hL3 rfl ?_
 have hL4:=Heap.get?_update_self (Obj.mapSeq (·.pop)) hL3 rfl
 generalize hH4:((H1.push io).update L (Obj.mapSeq (·.push Value.none))).update L (Obj.mapSeq (·.pop))=H4 at hL4 ⊢
 have oth:∀ b o,b≠L->(H1.push io).get? b=some o->H4.get? b=some o:=fun b o hb e=>by
  rw [<- hH4];exact (Heap.get?_update_other _ _ (Ne.symm hb)).trans ((Heap.get?_update_other _ _ (Ne.symm hb)).trans e)
 have hneS:S≠H1.objs.size:=by rw [sz1];exact Nat.ne_of_lt (Nat.lt_succ_of_lt hSlt)
 have hneL:L≠H1.objs.size:=by rw [sz1];exact Nat.ne_of_lt (Nat.lt_succ_self _)
 have hSL:S≠L:=Nat.ne_of_lt hSlt
 have W:=(walk_set (prog:=prog) (w:=w) (A:=A.in1) (S:=S) (I:=H1.objs.size) (es:=es) (ep:=ep) (t:=t) (by simp [hh]) hneS g hl).toS
 have hbnd:es.size<=18:=by rcases g.mask with ⟨_,b⟩ | ⟨_,b⟩<;>omega
 refine wpAny_pure ⟨plainId_quiet F.plain_extend_loop _,codeAny_extend_loopS W (Nat.le_trans hbnd (by decide)) L (by simp only [List.mem_cons,List.not_mem_nil,or_false,not_or];exact ⟨hneL,Ne.symm hSL⟩) _ es.size 0 _ #[] _ rfl (Nat.zero_le _) ⟨oth S _ hSL hS2,⟨0,?_,fun _=>cut_zero⟩⟩ hL4 (ItemsOf.nil _) fun s' acc' c' hm hS' hacc=>?_⟩
 ·rw [oth _ _ (Ne.symm hneL) hI2,<- hio]
 ·show wpAny _ A (load L >>= _) _ _ s'
  refine wpAny_bind (wpAny_load hS' ?_)
  refine wpAny_pure ?_
  have e:=Moved.eq_with hm
  rw [e]
  refine h s'.heap s'.toks acc'.toList (fun b o eo=>?_) (by rw [hL];exact Nat.le_of_lt (Heap.lt_size hS')) ?_
  ·have hb:=Heap.lt_size eo
   rw [hL] at hb
   refine hm.heap b o (by simp only [List.mem_cons,List.not_mem_nil,or_false,not_or];exact ⟨Nat.ne_of_lt hb,by rw [sz1];exact Nat.ne_of_lt (Nat.lt_succ_of_lt hb)⟩) (oth b o (Nat.ne_of_lt hb) (Heap.get?_push_of_some _ (old1 b o eo)))
  ·rw [items_ord hacc]
   exact ord_perm.map _
end
def lek (k k':Int×Int):Prop:=k.1 < k'.1\/(k.1=k'.1/\k.2<=k'.2)
abbrev sh0:Nat->Bool:=fun _=>false
theorem tp_key {h:Heap}{a:Addr}{k:Int×Int}(x:Tp h a k):tupKeyC h sh0 (.ref a)=some [Sum.inl k.1,Sum.inl k.2]:=by
 obtain ⟨o,n,t,u,ho,hc,hd⟩:=x
 have e1:isTupObj h (.ref a)=true:=by simp [isTupObj,ho,hc]
 unfold tupKeyC
 rw [if_pos e1]
 simp [tupKey,ho,hd,tupItems,sh0]
theorem lek_of {k k':Int×Int}(h:lexLt itemOrd [Sum.inl k'.1,Sum.inl k'.2] [Sum.inl k.1,Sum.inl k.2]=false):lek k k':=by
 obtain ⟨h1,h2⟩:=lex_false.mp h
 have h1':¬ k'.1 < k.1:=of_decide_eq_false (show decide (k'.1 < k.1)=false from h1)
 rcases h2 with h2 | h2
 ·left;exact of_decide_eq_true (show decide (k.1 < k'.1)=true from h2)
 ·obtain ⟨h3,_⟩:=lex_false.mp h2
  have h3':¬ k'.2 < k.2:=of_decide_eq_false (show decide (k'.2 < k.2)=false from h3)
  unfold lek;omega
def Asc (h:Heap)(l:List Value):Prop:=l.Pairwise fun v v'=>∀ a k a' k',v=.ref a->Tp h a k->v'=.ref a'->Tp h a' k'->lek k k'
theorem sort_out {h:Heap}{vs:List Value}(htp:∀ v∈vs,∃ a k,v=.ref a/\Tp h a k){xs:Array Keyed}(hp:List.Perm xs.toList (vs.zip vs))(hs:SortedToK (tupKindC h sh0) xs vs.length) :
  List.Perm (xs.map (·.2)).toList vs/\Asc h (xs.map (·.2)).toList:=by
 have hm:∀ p∈xs.toList,p.1=p.2/\p.2∈vs:=fun p hpm=>by
  have:=hp.mem_iff.mp hpm
  obtain ⟨e,m⟩:=mem_zip_self this
  exact ⟨e.symm▸rfl,by first | exact m | exact e▸m⟩
 constructor
 ·rw [Array.toList_map]
  refine (hp.map _).trans ?_
  have:∀ l:List Value,(l.zip l).map (·.2)=l:=fun l=>by induction l with | nil=>rfl | cons a l ih=>simpa using ih
  rw [this]
 ·unfold Asc
  rw [List.pairwise_iff_getElem]
  intro i j hi hj hij a k a' k' e1 t1 e2 t2
  have hi':i < xs.size:=by simpa using hi
  have hj':j < xs.size:=by simpa using hj
  have hlen:xs.size=vs.length:=by rw [<- Array.length_toList,hp.length_eq];simp
  have:=hs i j (Nat.le_of_lt hij) (by omega)
  have ki:KK (tupKindC h sh0) xs i=[Sum.inl k.1,Sum.inl k.2]:=by
   unfold KK
   rw [Array.getElem?_eq_getElem hi']
   have q:=(hm xs[i] (by simp)).1
   have e1:xs[i].2=.ref a:=by simpa using e1
   show (tupKeyC h sh0 xs[i].1).getD []=_
   rw [q,e1,tp_key t1];rfl
  have kj:KK (tupKindC h sh0) xs j=[Sum.inl k'.1,Sum.inl k'.2]:=by
   unfold KK
   rw [Array.getElem?_eq_getElem hj']
   have q:=(hm xs[j] (by simp)).1
   have e2:xs[j].2=.ref a':=by simpa using e2
   show (tupKeyC h sh0 xs[j].1).getD []=_
   rw [q,e2,tp_key t2];rfl
  rw [ki,kj] at this
  exact lek_of this
theorem tups_of {h:Heap}:∀ {vs:List Value},(∀ v∈vs,∃ a k,v=.ref a/\Tp h a k)->∃ fs,TupsOf h sh0 vs fs
 | [],_=>⟨[],.nil⟩
 | v::vs,hv=>by
  obtain ⟨fs,ht⟩:=tups_of fun u hu=>hv u (.tail _ hu)
  obtain ⟨a,k,rfl,o,n,t,u,ho,hc,hd⟩:=hv v (.head _)
  exact ⟨.int k.1 t::fs,.cons ⟨a,o,_,n,rfl,ho,hc,hd,rfl,fun _=>⟨_,_,rfl⟩,fun z=>by cases z⟩ ht⟩
theorem tp_keep {h h':Heap}(k:∀ b o,h.get? b=some o->h'.get? b=some o){vs:List Value}(htp:∀ v∈vs,∃ a k,v=.ref a/\Tp h a k):∀ v∈vs,∃ a k,v=.ref a/\Tp h' a k :=
 fun v hv=>let ⟨a,q,e,x⟩:=htp v hv;⟨a,q,e,x.keep fun o ho=>k a o ho⟩
theorem asc_back {h h':Heap}(k:∀ b o,h.get? b=some o->h'.get? b=some o){l:List Value}(x:Asc h' l):Asc h l :=
 x.imp fun z a k1 a' k2 e1 t1 e2 t2=>z a k1 a' k2 e1 (t1.keep fun o ho=>k a o ho) e2 (t2.keep fun o ho=>k a' o ho)
section
variable {prog:Program} {w:World} {A:Around} {E:Value->Shared->Prop} {s:Shared}
variable {S I:Addr} {es:Array (Int×Value)} {ep:Nat} {t:SetTable}
theorem sortedHeap_keep {h:Heap}{a:Addr}{vs:List Value}{out:Array Value}{b:Addr}{o:Obj}(hb:b≠a)(e:h.get? b=some o):(sortedHeap h a vs out).get? b=some o:=by
 rw [sortedHeap_old hb (Heap.lt_size e)];exact e
theorem sorted_setT (hh:A.handled=none)(hS:s.heap.get? S=some (setObj es ep t))(g:Good t es.size)(hl:t.led=led w)(htp:∀ e∈es.toList,∃ a k,e.2=.ref a/\Tp s.heap a k){Q:Value->Shared->Prop}
  (h:∀ h' tk L out e,(∀ b o,s.heap.get? b=some o->h'.get? b=some o)->s.heap.objs.size<=L->h'.get? L=some (seqObj "list" out e)->List.Perm out.toList (es.toList.map (·.2))->Asc s.heap out.toList->Q (.ref L) {s with heap:=h',toks:=tk}) :
  wpAny (model prog w) A (call (.builtin "sorted") [.ref S]) Q E s:=by
 refine Calls.call_function_entry kind_sorted plain_sorted entry_sorted (args_sorted1 _) ?_
 unfold Builtin.«sorted»
 refine wpAny_bind (m:=checkCount "sorted" 1 1 _) (wpAny_pure ?_)
 refine wpAny_bind (collect_set (by simp [hh]) hS g hl fun h1 tk1 vs k1 hsz1 pm=>?_)
 have hlen:vs.length<=18:=by
  rw [pm.length_eq,List.length_map,Array.length_toList]
  rcases g.mask with ⟨_,b⟩ | ⟨_,b⟩<;>omega
 have hlen':vs.length<=sizeLine:=Nat.le_trans hlen (by decide)
 refine wpAny_bind (wpAny_newList ?_)
 have hv0:∀ v∈vs,∃ a k,v=.ref a/\Tp s.heap a k:=fun v hv=>by
  obtain ⟨e,he,rfl⟩:=List.mem_map.mp (pm.mem_iff.mp hv)
  exact htp e he
 have hv1:=tp_keep k1 hv0
 have k2:∀ b o,h1.get? b=some o->(h1.push (seqObj "list" vs.toArray 0)).get? b=some o:=fun b o e=>Heap.get?_push_of_some _ e
 have hv2:=tp_keep k2 hv1
 have hoL:(h1.push (seqObj "list" vs.toArray 0)).get? h1.objs.size=some (seqObj "list" vs.toArray 0):=Heap.get?_push_size _ rfl
 obtain ⟨fs,ht⟩:=tups_of hv2
 show wpAny _ _ _ _ _ {s with heap:=h1.push (seqObj "list" vs.toArray 0),toks:=tk1}
 refine wpAny_bind (wpAny_holding (wpAny_call_entry slot_list_sort ⟨_,hoL,rfl⟩ entry_list_sort (list_sort_tups (shape:=sh0) (s:={s with heap:=h1.push (seqObj "list" vs.toArray 0),toks:=tk1}) hoL ht (fun v hv=>?_) hlen' fun st' a1 a2 a3=>⟨_,rfl,?_⟩) (args_list_sort _)))
 ·obtain ⟨a,k,rfl,x⟩:=hv2 v hv
  exact ⟨_,tp_key x⟩
 ·refine wpAny_pure ⟨_,rfl,?_⟩
  have a1':List.Perm (arrOf st').toList (vs.zip vs):=by rw [<- pairsOf_toList];exact Array.perm_iff_toList_perm.mp a1
  rw [pairsOf_size] at a2
  obtain ⟨p1,p2⟩:=sort_out hv2 a1' a2
  obtain ⟨e,he⟩:=sortedHeap_at (out:=(arrOf st').map (·.2)) hoL
  refine h _ tk1 h1.objs.size _ e (fun b o eo=>?_) hsz1 he (p1.trans pm) (asc_back (fun b o eo=>k2 b o (k1 b o eo)) p2)
  have e1:=k1 b o eo
  exact sortedHeap_keep (Nat.ne_of_lt (Heap.lt_size e1)) (k2 b o e1)
theorem list_sort_revT {a:Addr}{vs:List Value}{n:Nat}{P:Fin->Shared->Prop}(ho:s.heap.get? a=some (seqObj "list" vs.toArray n)) (htp:∀ v∈vs,∃ a k,v=.ref a/\Tp s.heap a k) (hL:vs.length<=sizeLine)
  (h:∀ out:Array Value,List.Perm out.toList vs->Asc s.heap out.toList.reverse->P (.done (.ret .none)) {s with heap:=sortedHeap s.heap a vs out}) :
  wpAny (model prog w) A (Builtin.«list.sort» ⟨[.ref a],[(Str.ofString "reverse",.bool true)]⟩) P E s:=by
 have hL2:=hL
 rw [sizeLine_eq] at hL2
 rw [list_sort_rev]
 have ha:a < s.heap.objs.size:=Heap.lt_size ho
 refine wpAny_bind (listItems_at ho rfl ?_)
 refine wpAny_bind (listUpdate_at ho rfl ?_)
 obtain ⟨e1,ho1⟩:∃ e1,(s.heap.update a (Obj.mapSeq fun _=>#[])).get? a=some (seqObj "list" #[] e1):=⟨_,get?_update_seq ho (fun _=>#[])⟩
 refine wpAny_bind (seqEpoch_at ho1 rfl ?_)
 refine wpAny_bind (wpAny_newTuple ?_)
 refine wpAny_bind (wpAny_newList ?_)
 refine wpAny_holding ?_
 have ho6:(((s.heap.update a (Obj.mapSeq fun _=>#[])).push (seqObj "tuple" vs.toArray 0)).push (seqObj "list" #[] 0)).get? a=some (seqObj "list" #[] e1):=by
  rw [Heap.get?_push_ne _ _ _ (by rw [size_push',Heap.size_update];exact Nat.ne_of_lt (Nat.lt_succ_of_lt ha)),Heap.get?_push_ne _ _ _ (by rw [Heap.size_update];exact Nat.ne_of_lt ha)]
  exact ho1
 have k6:=keeps_sort6 (vs:=vs) ho
 show wpAny (model prog w) A _ P E {s with heap:=sortHeap6 s.heap a vs}
 have hsz:vs.toArray.size=vs.length:=by simp
 have fin:∀ st':SortSt,(arrOf st').Perm (pairsOf vs).reverse->SortedToK (tupKindC s.heap sh0) (arrOf st') (pairsOf vs).reverse.size->P (.done (.ret .none)) {s with heap:=sortedHeap s.heap a vs ((arrOf st').map (·.2)).reverse}:=by
  intro st' hp hs
  have hp':List.Perm (arrOf st').toList (vs.zip vs):=by
   rw [<- pairsOf_toList]
   refine (Array.perm_iff_toList_perm.mp hp).trans ?_
   rw [Array.toList_reverse];exact List.reverse_perm _
  rw [Array.size_reverse,pairsOf_size] at hs
  obtain ⟨p1,p2⟩:=sort_out htp hp' hs
  refine h _ ?_ ?_
  ·rw [Array.toList_reverse];exact (List.reverse_perm _).trans p1
  ·rw [Array.toList_reverse,List.reverse_reverse];exact p2
 dsimp only
 rw [if_pos rfl]
 refine wpAny_bind (wpAny_rule ?_)
 by_cases h2:vs.toArray.size < 2
 ·rw [if_pos h2,if_pos h2]
  refine wpAny_bind (wpAny_pure ?_)
  rw [StateT.run_pure]
  refine wpAny_bind (wpAny_pure ?_)
  dsimp only
  refine wpAny_bind (seqEpoch_at ho6 rfl ?_)
  refine wpAny_bind (listUpdate_at ho6 rfl ?_ (hsz2:=by
   simp only [if_true,Array.size_reverse,Array.size_map];show (vs.toArray.zip vs.toArray).reverse.size<=_;rw [Array.size_reverse,Array.size_zip,sizeLine_eq];omega))
  simp only [bne_self_eq_false,Bool.false_eq_true,if_false]
  refine wpAny_pure (fin (SortSt.mk' general' (vs.toArray.zip vs.toArray).reverse #[] 7 none) (Array.Perm.refl _) ?_)
  intro i j hij hj
  have:i=j:=by rw [Array.size_reverse,pairsOf_size] at hj;omega
  subst this;exact KeyOrd.kle_refl _
 ·rw [if_neg h2,if_neg h2]
  obtain ⟨fs,ht⟩:=tups_of htp
  have h0:KeysOf (tupKindC s.heap sh0) (pairsOf vs).reverse:=fun p hp=>by
   rw [Array.toList_reverse,List.mem_reverse] at hp
   exact tupKeys (fun v hv=>by obtain ⟨a,k,rfl,x⟩:=htp v hv;exact ⟨_,tp_key x⟩) p hp
  refine wpAny_bind (tup_kind (s:={s with heap:=sortHeap6 s.heap a vs}) (by rw [TupsOf.length ht];omega) (TupsOf.keep k6 ht) ?_)
  try dsimp only
  refine wpAny_bind (wpAny_mono (wpS_sortRunsSt (κ:=tupKindC s.heap sh0) (kd:=tuples' true) (a₀:=(pairsOf vs).reverse) (st:=SortSt.mk' (tuples' true) (vs.toArray.zip vs.toArray).reverse #[] 7 none)
   (Q:=fun _ st'=>(arrOf st').Perm (pairsOf vs).reverse/\failedOf st'=none/\SortedToK (tupKindC s.heap sh0) (arrOf st') (pairsOf vs).reverse.size)
   (tupC_ltAt (s:={s with heap:=sortHeap6 s.heap a vs}) true k6) h0 ⟨Array.Perm.refl _,rfl,rfl⟩ rfl (Stable.refl _) (by rw [Array.size_reverse,pairsOf_size];omega) fun st' a1 a2 a3 a4=>⟨a1,a2,a3⟩) ?_ fun _ _ e=>e)
  rintro ⟨⟨⟩,st'⟩ s' ⟨rfl,hp,hf,hs⟩
  dsimp only
  refine wpAny_bind (seqEpoch_at ho6 rfl ?_)
  refine wpAny_bind (listUpdate_at ho6 rfl ?_ (hsz2:=by
   rw [if_pos rfl,Array.size_reverse]
   refine Nat.le_trans (Nat.le_of_eq ((Array.size_map ..).trans (hp.size_eq.trans ((Array.size_reverse).trans (pairsOf_size _))))) ?_;rw [sizeLine_eq];omega))
  rw [hf]
  simp only [bne_self_eq_false,Bool.false_eq_true,if_false,if_true]
  exact wpAny_pure (fin st' hp hs)
theorem sorted_revT {l:Addr}{vs:List Value}{Q:Value->Shared->Prop}(hl:s.heap.IsList l vs.toArray)(htp:∀ v∈vs,∃ a k,v=.ref a/\Tp s.heap a k)(hL:vs.length<=sizeLine)
  (h:∀ (out:Array Value),List.Perm out.toList vs->Asc s.heap out.toList.reverse->Q (.ref (s.heap.objs.size+1)) {s with heap:=sortedAll s.heap vs out}) :
  wpAny (model prog w) A (call (.builtin "sorted") [.ref l] [(Str.ofString "reverse",.bool true)]) Q E s:=by
 refine call_function_entry_kw kind_sorted plain_sorted entry_sorted (args_sorted_rev _ _) ?_
 unfold Builtin.«sorted»
 refine wpAny_bind (m:=checkCount "sorted" 1 1 _) (wpAny_pure ?_)
 refine wpAny_bind (collect_list hl ?_)
 refine wpAny_bind (wpAny_newList ?_)
 have hsz:((s.heap.push (seqObj "list" #[] 0)).update s.heap.objs.size (Obj.mapSeq (·++vs.toArray))).objs.size=s.heap.objs.size+1:=by
  rw [Heap.size_update,size_push']
 have hoL:(((s.heap.push (seqObj "list" #[] 0)).update s.heap.objs.size (Obj.mapSeq (·++vs.toArray))).push (seqObj "list" vs.toArray 0)).get? (s.heap.objs.size+1)=some (seqObj "list" vs.toArray 0):=by
  rw [<- hsz];exact Heap.get?_push_size _ rfl
 have kp:∀ b o,s.heap.get? b=some o->(((s.heap.push (seqObj "list" #[] 0)).update s.heap.objs.size (Obj.mapSeq (·++vs.toArray))).push (seqObj "list" vs.toArray 0)).get? b=some o:=fun b o e=>by
  refine Heap.get?_push_of_some _ ?_
  rw [Heap.get?_update_ne _ _ _ _ (Nat.ne_of_lt (Heap.lt_size e))]
  exact Heap.get?_push_of_some _ e
 show wpAny _ _ _ _ _ {s with heap:=((s.heap.push (seqObj "list" #[] 0)).update s.heap.objs.size (Obj.mapSeq (·++vs.toArray))).push (seqObj "list" vs.toArray 0)}
 rw [hsz]
 refine wpAny_bind (wpAny_holding (wpAny_call_entry_kw slot_list_sort ⟨_,hoL,rfl⟩ entry_list_sort (list_sort_revT hoL (tp_keep kp htp) hL fun out a1 a2=>⟨_,rfl,?_⟩) (args_list_sort_rev _ _)))
 exact wpAny_pure ⟨_,rfl,h out a1 (asc_back kp a2)⟩
end
end ST
namespace HR
open PySem PySem.Spec PyProof.Rows L2
open Vbecap (cross push hull edges whereIs layers)
def SetO (w:World)(S:Addr)(rs:List Addr):HO:=.ext fun h=>∃ es ep t,h.get? S=some (ST.setObj es ep t)/\ST.Good t es.size/\t.led=ST.led w/\es.toList.map (·.2)=rs.map Value.ref
theorem rp_fun {H:Hp}{v:V}{p q:P2}(a:Rp H v p)(b:Rp H v q):p=q:=by
 obtain ⟨x,rfl,hx⟩:=a
 obtain ⟨y,e,hy⟩:=b
 cases e
 rw [hx] at hy
 simp at hy
 exact Prod.ext hy.1 hy.2
theorem all_ex {H:Hp}:∀ (rs:List Addr),(∀ r∈rs,∃ p,Rp H (.ref r) p)->∃ qs,All (Rp H) (rs.map V.ref) qs
 | [],_=>⟨[],.nil⟩
 | r::rs,h=>by
  obtain ⟨qs,hq⟩:=all_ex rs fun r hr=>h r (.tail _ hr)
  obtain ⟨p,hp⟩:=h r (.head _)
  exact ⟨p::qs,.cons hp hq⟩
theorem all_memR {H:Hp}{rs:List Addr}{qs:List P2}(a:All (Rp H) (rs.map V.ref) qs){r:Addr}(hr:r∈rs){p:P2}(hp:Rp H (.ref r) p):p∈qs:=by
 obtain ⟨x,hx,r1⟩:=a.mem (List.mem_map.mpr ⟨r,hr,rfl⟩)
 rw [rp_fun hp r1];exact hx
theorem all_memQ {H:Hp}{rs:List Addr}{qs:List P2}(a:All (Rp H) (rs.map V.ref) qs){q:P2}(hq:q∈qs):∃ r∈rs,Rp H (.ref r) q:=by
 obtain ⟨i,hi⟩:=List.mem_iff_getElem?.mp hq
 obtain ⟨v,hv,r⟩:=a.get hi
 rw [List.getElem?_map] at hv
 cases e:rs[i]? with
 | none=>rw [e] at hv;cases hv
 | some x=>rw [e] at hv;cases hv;exact ⟨x,List.mem_of_getElem? e,r⟩
def ad:Value->Addr
 | .ref a=>a
 | _=>0
theorem ad_map:∀ {vs:List Value},(∀ v∈vs,∃ a,v=.ref a)->vs=(vs.map ad).map Value.ref
 | [],_=>rfl
 | v::vs,h=>by
  obtain ⟨a,rfl⟩:=h v (.head _)
  rw [List.map_cons,List.map_cons,<- ad_map fun u hu=>h u (.tail _ hu)];rfl
theorem vals_ref:∀ (rs:List Addr),Vals (rs.map V.ref) (rs.map Value.ref)
 | []=>.nil
 | r::rs=>.cons rfl (vals_ref rs)
theorem le1_of {k k':P2}(h:ST.lek k k'):G.le1 1 k k':=by
 obtain ⟨a,b⟩:=k
 obtain ⟨c,d⟩:=k'
 unfold ST.lek at h
 simp only at h
 unfold G.le1 G.fw G.ps G.sub
 simp only [Prod.mk.injEq]
 omega
theorem le1_neg {k k':P2}(h:ST.lek k' k):G.le1 (-1) k k':=by
 obtain ⟨a,b⟩:=k
 obtain ⟨c,d⟩:=k'
 unfold ST.lek at h
 simp only at h
 unfold G.le1 G.fw G.ps G.sub
 simp only [Prod.mk.injEq]
 omega
section
variable {X:Cx} {pins:List (Addr×Obj)} {σ:L2.St} {H:Hp} {s:Shared}
theorem tp_of (I:Inv X pins σ H s){a:Addr}{p:P2}(h:Rp H (.ref a) p):ST.Tp s.heap a p:=by
 obtain ⟨b,e,h⟩:=h
 cases e
 obtain ⟨_,its,r,o,ho,hc,n,hd⟩:=I.hok _ _ h
 obtain ⟨u,w,rfl,⟨t,rfl⟩,⟨t',rfl⟩⟩:=vals2 r
 exact ⟨o,n,t,t',ho,hc,hd⟩
theorem call_set (hc:X.calm=true)(hu:X.A.units+64 < cLine):CallR X (.type "set") (fun xs H Q=>∃ l us ps,xs=[.ref l]/\H l=some (.lst us)/\us.length<=9/\All (Rp H) us ps /\
  ∀ S rs qs,H S=none->All (Rp H) (rs.map V.ref) qs->(∀ x,x∈qs↔x∈ps)->((∀ x∈ps,∀ y∈ps,x=y)->qs.length<=1)->qs.length<=us.length->Q (.ref S) (upd H S (SetO X.w S rs))):=by
 intro pins s σ H xs us Q I r h
 obtain ⟨l,ws,ps,rfl,hl,hn,hall,q⟩:=h
 obtain ⟨u,rfl,rx⟩:=vals1 r
 cases rx
 obtain ⟨its,n,rv,ho,hz⟩:=I.lst hl
 have hlen:=rv.length
 have hits:∀ (j:Nat) v,its[j]?=some v->∃ a k,v=.ref a/\ps[j]?=some k/\Rp H (.ref a) k:=fun j v hv=>by
  have hj:j < ws.length:=by rw [hlen];exact (List.getElem?_eq_some_iff.mp hv).1
  have e:=List.getElem?_eq_getElem hj
  obtain ⟨u,hu,ru⟩:=rv.get e
  rw [hv] at hu;cases hu
  obtain ⟨p,hp,rp⟩:=hall.get' e
  obtain ⟨a,ea,hr⟩:=id rp
  rw [ea] at ru rp
  cases ru
  exact ⟨a,p,rfl,hp,rp⟩
 refine ST.call_setT (I.ok.hd hc) (vs:=its) (ks:=ps) ⟨_,ho,rfl,n,rfl⟩ (by show X.A.units+1+1+1 < cLine;omega) (by omega) (fun j v hv=>?_) fun h' tk es ep t hS ft kp=>?_
 ·obtain ⟨a,k,e1,e2,e3⟩:=hits j v hv
  exact ⟨a,k,e1,e2,tp_of I e3⟩
 ·have kp':∀ b u,s.heap.get? b=some u->h'.get? b=some u:=fun b u e=>kp b u (Heap.lt_size e) e
  have hes:∀ v∈es.toList.map (·.2),∃ a,v=.ref a:=fun v hv=>by
   obtain ⟨e,he,rfl⟩:=List.mem_map.mp hv
   obtain ⟨j,a,k,_,_,e2,_⟩:=ft.ent e he
   exact ⟨a,e2⟩
  have hm:=ad_map hes
  have hrp:∀ r∈(es.toList.map (·.2)).map ad,∃ p,Rp H (.ref r) p/\p∈ps:=fun r hr=>by
   obtain ⟨v,hv,rfl⟩:=List.mem_map.mp hr
   obtain ⟨e,he,rfl⟩:=List.mem_map.mp hv
   obtain ⟨j,a,k,_,e1,e2,e3,_⟩:=ft.ent e he
   obtain ⟨a',k',ea,ek,er⟩:=hits j _ e1
   cases ea
   rw [e2]
   exact ⟨k',er,List.mem_of_getElem? ek⟩
  obtain ⟨qs,hq⟩:=all_ex _ fun r hr=>let ⟨p,hp,_⟩:=hrp r hr;⟨p,hp⟩
  refine ⟨.ref s.heap.objs.size,_,I.laid (o:=SetO X.w s.heap.objs.size ((es.toList.map (·.2)).map ad)) kp' (Nat.le_refl _) ⟨⟨es,ep,t,hS,ft.good,ft.led,hm⟩,⟨_,hS⟩,?_⟩,rfl,q _ _ qs (I.hok.fresh (Nat.le_refl _)) hq (fun x=>⟨fun hx=>?_,fun hx=>?_⟩) (fun heq=>?_) ?_⟩
  ·rintro h1 h2 ⟨es,ep,t,a1,a2⟩ k
   exact ⟨es,ep,t,k _ a1,a2⟩
  ·obtain ⟨r,hr,rp⟩:=all_memQ hq hx
   obtain ⟨p,hp,hm⟩:=hrp r hr
   rw [rp_fun rp hp];exact hm
  ·obtain ⟨j,hj⟩:=List.mem_iff_getElem?.mp hx
   have hjl:j < its.length:=by rw [<- hlen,hall.length];exact (List.getElem?_eq_some_iff.mp hj).1
   obtain ⟨e,he,j',a,hj',e1,e2,e3⟩:=ft.all j x hjl hj
   obtain ⟨a',k',ea,ek,er⟩:=hits j' _ e1
   cases ea
   rw [e3] at ek;cases ek
   exact all_memR hq (List.mem_map.mpr ⟨.ref a,List.mem_map.mpr ⟨e,he,e2⟩,rfl⟩) er
  ·have:=ft.same fun j k k0 _ hk hk0=>heq k (List.mem_of_getElem? hk) k0 (List.mem_of_getElem? hk0)
   have l1:=hq.length
   simp only [List.length_map,Array.length_toList] at l1
   omega
  ·have l1:=hq.length
   simp only [List.length_map,Array.length_toList] at l1
   have:=ft.le
   omega
theorem call_sortedS (hc:X.calm=true):CallR X (.builtin "sorted") (fun xs H Q=>∃ S rs qs,xs=[.ref S]/\H S=some (SetO X.w S rs)/\All (Rp H) (rs.map V.ref) qs /\
  ∀ L vs ps,H L=none->All (Rp H) vs ps->ps.Pairwise (G.le1 1)->(∀ x,x∈ps↔x∈qs)->ps.length=qs.length->Q (.ref L) (upd H L (.lst vs))):=by
 intro pins s σ H xs us Q I r h
 obtain ⟨S,rs,qs,rfl,hS,hall,q⟩:=h
 obtain ⟨u,rfl,rx⟩:=vals1 r
 cases rx
 obtain ⟨⟨es,ep,t,ho,g,hl,hm⟩,_,_⟩:=I.hok _ _ hS
 refine ST.sorted_setT (I.ok.hd hc) ho g hl (fun e he=>?_) fun h' tk L out e kp hL hout pm asc=>?_
 ·have:e.2∈rs.map Value.ref:=by rw [<- hm];exact List.mem_map.mpr ⟨e,he,rfl⟩
  obtain ⟨r,hr,e2⟩:=List.mem_map.mp this
  obtain ⟨x,_,rp⟩:=hall.mem (List.mem_map.mpr ⟨r,hr,rfl⟩)
  exact ⟨r,x,e2.symm,tp_of I rp⟩
 ·rw [hm] at pm
  have hrefs:∀ v∈out.toList,∃ a,v=.ref a/\a∈rs:=fun v hv=>by
   obtain ⟨r,hr,e2⟩:=List.mem_map.mp (pm.mem_iff.mp hv)
   exact ⟨r,e2.symm,hr⟩
  have hmo:=ad_map (vs:=out.toList) fun v hv=>let ⟨a,e,_⟩:=hrefs v hv;⟨a,e⟩
  have hin:∀ r∈out.toList.map ad,r∈rs:=fun r hr=>by
   obtain ⟨v,hv,rfl⟩:=List.mem_map.mp hr
   obtain ⟨a,rfl,ha⟩:=hrefs v hv
   exact ha
  have hrp:∀ r∈out.toList.map ad,∃ p,Rp H (.ref r) p:=fun r hr=>by
   obtain ⟨x,_,rp⟩:=hall.mem (List.mem_map.mpr ⟨r,hin r hr,rfl⟩)
   exact ⟨x,rp⟩
  obtain ⟨ps,hp⟩:=all_ex _ hrp
  have hlen:out.toList.length=rs.length:=by rw [pm.length_eq,List.length_map]
  have lq:=hall.length
  rw [List.length_map] at lq
  have lp:=hp.length
  rw [List.length_map,List.length_map] at lp
  have hbnd:rs.length<=18:=by
   have:=congrArg List.length hm
   rw [List.length_map,List.length_map,Array.length_toList] at this
   rcases g.mask with ⟨_,b⟩ | ⟨_,b⟩<;>omega
  refine ⟨.ref L,_,I.laid (o:=.lst ((out.toList.map ad).map V.ref)) kp hL ⟨?_,out.toList,e,?_,?_⟩,rfl,q L _ ps (I.hok.fresh hL) hp ?_ (fun x=>⟨fun hx=>?_,fun hx=>?_⟩) (by omega)⟩
  ·rw [List.length_map,List.length_map,hlen]
   exact Nat.le_trans hbnd (by decide)
  ·have:=vals_ref (out.toList.map ad)
   rw [<- hmo] at this;exact this
  ·rw [hout]
  ·rw [List.pairwise_iff_getElem]
   intro i j hi hj hij
   have asc':=List.pairwise_iff_getElem.mp asc
   have hi':i < out.toList.length:=by omega
   have hj':j < out.toList.length:=by omega
   obtain ⟨vi,ei,ri⟩:=hp.get (List.getElem?_eq_getElem hi)
   obtain ⟨vj,ej,rj⟩:=hp.get (List.getElem?_eq_getElem hj)
   obtain ⟨ai,hai,_⟩:=hrefs _ (List.getElem_mem hi')
   obtain ⟨aj,haj,_⟩:=hrefs _ (List.getElem_mem hj')
   have e1:vi=V.ref ai:=by
    rw [List.getElem?_map,List.getElem?_map,List.getElem?_eq_getElem hi',hai] at ei
    exact (Option.some.inj ei).symm
   have e2:vj=V.ref aj:=by
    rw [List.getElem?_map,List.getElem?_map,List.getElem?_eq_getElem hj',haj] at ej
    exact (Option.some.inj ej).symm
   subst e1;subst e2
   exact le1_of (asc' i j hi' hj' hij ai _ aj _ hai (tp_of I ri) haj (tp_of I rj))
  ·obtain ⟨r,hr,rp⟩:=all_memQ hp hx
   exact all_memR hall (hin r hr) rp
  ·obtain ⟨r,hr,rp⟩:=all_memQ hall hx
   refine all_memR hp ?_ rp
   have:Value.ref r∈out.toList:=pm.mem_iff.mpr (List.mem_map.mpr ⟨r,hr,rfl⟩)
   exact List.mem_map.mpr ⟨_,this,rfl⟩
end
section
variable {X:Cx} {pins:List (Addr×Obj)} {σ:L2.St} {H:Hp} {s:Shared} {p pos kp:Pos} {e v:Expr} {t:TA}
def rRev:List V->Hp->VK->Prop:=fun xs H Q=>∃ l us ps,xs=[.ref l]/\H l=some (.lst us)/\All (Rp H) us ps /\
  ∀ L vs qs,H L=none->All (Rp H) vs qs->qs.Pairwise (G.le1 (-1))->(∀ x,x∈qs↔x∈ps)->qs.length=ps.length->Q (.ref L) (upd H L (.lst vs))
theorem sorted_rev {us:List Value}{xs:List V}{Q:VK}(I:Inv X pins σ H s)(r:Vals xs us)(h:rRev xs H Q) :
  wpAny (model X.prog X.w) X.A (call (.builtin "sorted") us [(Str.ofString "reverse",.bool true)]) (EP X pins σ Q) X.xe s:=by
 obtain ⟨l,ws,ps,rfl,hl,hall,q⟩:=h
 obtain ⟨u,rfl,rx⟩:=vals1 r
 cases rx
 obtain ⟨its,n,rv,ho,hz⟩:=I.lst hl
 have hlen:=rv.length
 have hits:∀ (j:Nat) v,its[j]?=some v->∃ a k,v=.ref a/\ps[j]?=some k/\Rp H (.ref a) k:=fun j v hv=>by
  have hj:j < ws.length:=by rw [hlen];exact (List.getElem?_eq_some_iff.mp hv).1
  have e:=List.getElem?_eq_getElem hj
  obtain ⟨u,hu,ru⟩:=rv.get e
  rw [hv] at hu;cases hu
  obtain ⟨p,hp,rp⟩:=hall.get' e
  obtain ⟨a,ea,hr⟩:=id rp
  rw [ea] at ru rp
  cases ru
  exact ⟨a,p,rfl,hp,rp⟩
 have hmem:∀ v∈its,∃ a k,v=.ref a/\k∈ps/\Rp H (.ref a) k:=fun v hv=>by
  obtain ⟨j,hj⟩:=List.mem_iff_getElem?.mp hv
  obtain ⟨a,k,e1,e2,e3⟩:=hits j v hj
  exact ⟨a,k,e1,List.mem_of_getElem? e2,e3⟩
 refine ST.sorted_revT (vs:=its) ⟨_,ho,rfl,n,rfl⟩ (fun v hv=>?_) (by omega) fun out pm asc=>?_
 ·obtain ⟨a,k,e1,_,e3⟩:=hmem v hv
  exact ⟨a,k,e1,tp_of I e3⟩
 ·have kp:∀ b u,s.heap.get? b=some u->(sortedAll s.heap its out).get? b=some u:=fun b u e=>sortedAll_old e
  obtain ⟨e,he⟩:=sortedAll_at s.heap its out
  have hrefs:∀ v∈out.toList,∃ a k,v=.ref a/\k∈ps/\Rp H (.ref a) k:=fun v hv=>hmem v (pm.mem_iff.mp hv)
  have hmo:=ad_map (vs:=out.toList) fun v hv=>let ⟨a,_,e,_⟩:=hrefs v hv;⟨a,e⟩
  have hrp:∀ r∈out.toList.map ad,∃ p,Rp H (.ref r) p/\p∈ps:=fun r hr=>by
   obtain ⟨v,hv,rfl⟩:=List.mem_map.mp hr
   obtain ⟨a,k,rfl,hk,rp⟩:=hrefs v hv
   exact ⟨k,rp,hk⟩
  obtain ⟨qs,hq⟩:=all_ex _ fun r hr=>let ⟨p,hp,_⟩:=hrp r hr;⟨p,hp⟩
  have lq:=hq.length
  have lp:=hall.length
  have lo:=pm.length_eq
  rw [List.length_map,List.length_map] at lq
  have hL:s.heap.objs.size<=s.heap.objs.size+1:=Nat.le_succ _
  have e0:({s with heap:=sortedAll s.heap its out}:Shared)={s with heap:=sortedAll s.heap its out,toks:=s.toks}:=rfl
  rw [e0]
  refine ⟨.ref (s.heap.objs.size+1),_,I.laid (o:=.lst ((out.toList.map ad).map V.ref)) kp hL ⟨?_,out.toList,e,?_,?_⟩,rfl,q _ _ qs (I.hok.fresh hL) hq ?_ (fun x=>⟨fun hx=>?_,fun hx=>?_⟩) (by omega)⟩
  ·rw [List.length_map,List.length_map,lo];omega
  ·have:=vals_ref (out.toList.map ad)
   rw [<- hmo] at this;exact this
  ·rw [he]
  ·rw [List.pairwise_iff_getElem]
   intro i j hi hj hij
   have asc':=List.pairwise_iff_getElem.mp (List.pairwise_reverse.mp asc)
   have hi':i < out.toList.length:=by omega
   have hj':j < out.toList.length:=by omega
   obtain ⟨vi,ei,ri⟩:=hq.get (List.getElem?_eq_getElem hi)
   obtain ⟨vj,ej,rj⟩:=hq.get (List.getElem?_eq_getElem hj)
   obtain ⟨ai,_,hai,_⟩:=hrefs _ (List.getElem_mem hi')
   obtain ⟨aj,_,haj,_⟩:=hrefs _ (List.getElem_mem hj')
   have e1:vi=V.ref ai:=by
    rw [List.getElem?_map,List.getElem?_map,List.getElem?_eq_getElem hi',hai] at ei
    exact (Option.some.inj ei).symm
   have e2:vj=V.ref aj:=by
    rw [List.getElem?_map,List.getElem?_map,List.getElem?_eq_getElem hj',haj] at ej
    exact (Option.some.inj ej).symm
   subst e1;subst e2
   exact le1_neg (asc' i j hi' hj' hij aj _ ai _ haj (tp_of I rj) hai (tp_of I ri))
  ·obtain ⟨r,hr,rp⟩:=all_memQ hq hx
   obtain ⟨p,hp,hm⟩:=hrp r hr
   rw [rp_fun rp hp];exact hm
  ·obtain ⟨j,hj⟩:=List.mem_iff_getElem?.mp hx
   have hjl:j < its.length:=by rw [<- hlen,lp];exact (List.getElem?_eq_some_iff.mp hj).1
   obtain ⟨a,k,e1,e2,e3⟩:=hits j its[j] (List.getElem?_eq_getElem hjl)
   rw [hj] at e2;cases e2
   have:Value.ref a∈out.toList:=pm.mem_iff.mpr (by rw [<- e1];exact List.getElem_mem hjl)
   exact all_memR hq (List.mem_map.mpr ⟨_,this,rfl⟩) e3
theorem pe_sortedRev (hm:X.mg "sorted" = none) (ha:PA X [e] t) {ci:_} {cp:Pos} (hg:Gl X "sorted":=by exact rfl) (he:starEach [e] X.env=(false,eval e X.env)::starEach [] X.env:=by rfl)
  : PE X (.Call (.Name "sorted" p) [e] [⟨some "reverse",.Constant (.bool true) ci cp,kp⟩] pos) (tCB rRev t):=by
 intro pins s σ H Q I h
 refine wpAny_Call_Name_kw (ld_blt I hg hm boot_sorted ?_ (by decide) (by decide))
 refine callWith_kw (thn (ha pos pins s σ H _ I h) fun us s1 ⟨vs,H1,I1,r1,q1⟩=>?_) (by rw [he];rfl) (by rw [he];rfl)
 refine kws_cons (thn (pe_bl (X:=X) pins s1 σ H1 (fun v H'=>v=.bl true/\H'=H1) I1 ⟨rfl,rfl⟩) fun u s2 ⟨v,H2,I2,r2,e1,e2⟩=>?_)
 subst e1;subst e2
 cases r2
 exact kws_nil (sorted_rev I2 r1 q1)
end
abbrev sCornersOf:Stmt:=top 13
theorem scCornersOf:FnScope ["sightings","places","lower","upper"] ["sightings"] (defScope sCornersOf):=⟨rfl,rfl,rfl,by decide +kernel,rfl,by decide +kernel,by decide +kernel⟩
theorem cut_last (xs:List V):cutV xs none (some (-1))=xs.dropLast:=by
 unfold cutV
 have e1:HT.sIx xs.length 0 none=0:=rfl
 have e2:HT.sIx xs.length xs.length (some (-1))=xs.length-1:=by
  show (if (-1:Int) < 0 then ((-1:Int)+(xs.length:Int)).toNat else min ((-1:Int)).toNat xs.length)=_
  rw [if_pos (by omega)];omega
 rw [e1,e2,List.drop_zero,Nat.sub_zero,List.dropLast_eq_take]
section
variable {P:Program} {w:World} {K:PySem.W.Frag} {mg:Str->Option Value} {base:Heap}
theorem ok_cornersof (B:Blt mg)(S:Src K mg "corners_of" sCornersOf ["sightings"]) (D1:Def P w K mg base "left_chain" 2 ["places"] spChain) :
  Def P w K mg base "corners_of" 3 ["sightings"] spCorners:=by
 refine def_ok S scCornersOf (fun vs H Q E h=>?_) (fun f cdv A outer s H vs Q E hr h=>?_)
 ·obtain ⟨v,l,rfl,_⟩:=h
  rfl
 ·obtain ⟨v,S0,rfl,⟨la,us,rfl,hl,hall⟩,ml,hlen,k⟩:=h
  have le:us.length=S0.length:=hall.length
  refine ⟨_,pss_cons (ps_set (i:=1) scCornersOf.nd rfl (Or.inl rfl) (pe_callB (call_sortedS rfl) rfl B.sorted boot_sorted (pa_cons (pe_callTy (call_set rfl hr.units) rfl B.set boot_set (pq_cons (pp 0) pq_nil)) pa_nil)))
   (pss_cons (ps_if (pt_lt (pp_callB call_len_seq gLen_ok rfl B.len boot_lenH (pq_cons (pp 1) pq_nil)) pp_int) (pss_one (ps_ret (pp 1))) pss_nil)
   (pss_cons (ps_set (i:=2) scCornersOf.nd rfl (Or.inl rfl) (pe_def D1 hr rfl (pq_cons (pp 1) pq_nil)))
   (pss_cons (ps_set (i:=3) scCornersOf.nd rfl (Or.inl rfl) (pe_def D1 hr rfl (pa_cons (pe_sortedRev B.sorted (pq_cons (pp 1) pq_nil)) pa_nil)))
   (pss_one (ps_ret (pe_op op_cat (pe_slice sl_list (pp 2) po_none (po_some (pp_neg pp_int))) (pe_slice sl_list (pp 3) po_none (po_some (pp_neg pp_int))))))))),?_⟩
  refine ⟨[.ref la],rfl,la,us,S0,rfl,hl,by omega,hall,fun Sa rs qs hSa hqs mq one nqs=>?_⟩
  have s1:=same_new (o:=SetO w Sa rs) hSa
  refine ⟨Sa,rs,qs,rfl,upd_same,hqs.imp fun v x r=>r.to (same_tup s1),fun L vs ps hL hps asc mp lp=>?_⟩
  have s2':=s1.trans (same_new (o:=.lst vs) hL)
  have hps2':All (Rp (upd (upd H Sa (SetO w Sa rs)) L (.lst vs))) vs ps:=hps.imp fun v x r=>r.to (same_tup (same_new hL))
  generalize hH2:upd (upd H Sa _) L (HO.lst vs)=H2
  have s2:Same H H2:=by rw [<- hH2];exact s2'
  have hps2:All (Rp H2) vs ps:=by rw [<- hH2];exact hps2'
  have hL2:H2 L=some (.lst vs):=by rw [<- hH2];exact upd_same
  have lv:vs.length=ps.length:=hps2.length
  have mS:∀ x,x∈ps↔x∈S0:=fun x=>(mp x).trans (mq x)
  have one':(∀ x∈S0,∀ y∈S0,x=y)->ps.length<=1:=fun z=>by rw [lp];exact one z
  have mps:MdL ps:=fun p hp=>ml p ((mS p).mp hp)
  have nps:ps.length<=1000:=by omega
  refine ⟨decide ((vs.length:Int) < 2),?_,ite_bl (fun c=>?_) (fun c=>?_)⟩
  ·show f2 _ (fCall gLen _) _ [some (.ref la),some (.ref L),none,none] H2=_
   simp only [fCall,fCons,fNil,f2,fVar,fC,gZ,gS,oJ,oB,gLen_l hL2,gI]
  ·have c:=of_decide_eq_true c
   have q:ps.Pairwise (G.le1 (-1)):=by
    cases ps with
    | nil=>exact .nil
    | cons a t =>
     cases t with
     | nil=>exact List.pairwise_singleton _ _
     | cons b t=>exfalso;simp only [List.length_cons] at lv;omega
   have e:=G.corners_ok (S:=S0) (ps:=ps) (qs:=ps) mS mS asc q one'
   unfold G.cornersM at e
   rw [if_pos (by omega)] at e
   refine ⟨_,rfl,k H2 (.ref L) s2 ⟨L,vs,rfl,hL2,?_⟩⟩
   rw [<- e];exact hps2
  ·have c:=of_decide_eq_false c
   refine ⟨[.ref L],rfl,.ref L,ps,rfl,⟨L,vs,rfl,hL2,hps2⟩,mps.sm,nps,fun H3 u s3 hu=>?_⟩
   have hL3:=s3 _ _ hL2
   refine ⟨[.ref L],rfl,L,vs,ps,rfl,hL3,hps2.imp fun v x r=>r.to (same_tup s3),fun M ws rv hM hrv dsc mr lr=>?_⟩
   have s4:=s3.trans (same_new (o:=.lst ws) hM)
   have hrv4:All (Rp (upd H3 M (.lst ws))) ws rv:=hrv.imp fun v x r=>r.to (same_tup (same_new hM))
   generalize hH4:upd H3 M (HO.lst ws)=H4 at s4 hrv4
   have hM4:H4 M=some (.lst ws):=by rw [<- hH4];exact upd_same
   have s34:Same H3 H4:=by rw [<- hH4];exact same_new hM
   refine ⟨.ref M,rv,rfl,⟨M,ws,rfl,hM4,hrv4⟩,?_,by rw [lr];exact nps,fun H5 u2 s5 hu2=>?_⟩
   ·exact MdL.sm fun p hp=>mps p ((mr p).mp hp)
   obtain ⟨a1,l1,rfl,h1,al1⟩:=(hu.same tu_p s34).same tu_p s5
   obtain ⟨a2,l2,rfl,h2,al2⟩:=hu2
   refine ⟨_,rfl,⟨.int (-1),rfl,-1,rfl,a1,l1,rfl,.of h1,fun q hq=>?_⟩⟩
   have s6:=same_new (o:=.lst (cutV l1 none (some (-1)))) hq
   refine ⟨_,rfl,⟨.int (-1),rfl,-1,rfl,a2,l2,rfl,.of (s6 _ _ h2),fun q2 hq2=>?_⟩⟩
   have s7:=s6.trans (same_new (o:=.lst (cutV l2 none (some (-1)))) hq2)
   have e:=G.corners_ok (S:=S0) (ps:=ps) (qs:=rv) mS (fun x=>(mr x).trans (mS x)) asc dsc one'
   unfold G.cornersM at e
   rw [if_neg (by omega)] at e
   have hd:All (Rp H5) (l1.dropLast++l2.dropLast) (hull S0):=by rw [<- e];exact al1.dropLast.append al2.dropLast
   have hdl:=hd.length
   have hh:=G.hull_len S0
   rw [List.length_append] at hdl
   rw [cut_last] at s6
   rw [cut_last,cut_last] at s7
   refine ⟨q,q2,l1.dropLast,l2.dropLast,rfl,rfl,?_,?_,?_,fun r hr7=>?_⟩
   ·rw [upd_ne (ne_of_none (upd_same:upd H5 q _ q=_) hq2),upd_same,cut_last]
   ·rw [upd_same,cut_last]
   ·have:l1.dropLast.length+l2.dropLast.length<=9:=by omega
    exact Nat.le_trans this (by decide)
   ·rw [cut_last,cut_last] at hr7 ⊢
    have s8:=s7.trans (same_new (o:=.lst (l1.dropLast++l2.dropLast)) hr7)
    exact k _ (.ref r) ((s2.trans s4).trans (s5.trans s8)) ⟨r,_,rfl,upd_same,hd.imp fun v x z=>z.to (same_tup s8)⟩
end
end HR
namespace HR
open PySem PySem.Spec PyProof.Rows L2
open Vbecap (cross push hull edges whereIs layers chosen)
abbrev sSetsOf:Stmt:=top 38
theorem scSetsOf:FnScope ["count","size","sets","step","longer","chosen","start","k"] ["count","size"] (defScope sSetsOf):=⟨rfl,rfl,rfl,by decide +kernel,rfl,by decide +kernel,by decide +kernel⟩
def Rl (av:List Addr)(H:Hp)(v:V)(ns:List Nat):Prop:=∃ a,v=.ref a/\H a=some (.lst (nV ns))/\a ∉ av
theorem Rl.same {av:List Addr}{H H':Hp}{v:V}{ns:List Nat}(h:Rl av H v ns)(s:Same H H'):Rl av H' v ns:=let ⟨a,e,h,n⟩:=h;⟨a,e,s _ _ h,n⟩
theorem Rl.upd {av:List Addr}{H:Hp}{v:V}{ns:List Nat}{c:Addr}{o:HO}(h:Rl av H v ns)(hc:c∈av):Rl av (L2.upd H c o) v ns :=
 let ⟨a,e,h,n⟩:=h;⟨a,e,by rw [upd_ne (fun z:a=c=>n (by rw [z];exact hc))];exact h,n⟩
theorem Rl.sub {av av':List Addr}{H:Hp}{v:V}{ns:List Nat}(h:Rl av H v ns)(s:∀ x∈av',x∈av):Rl av' H v ns:=let ⟨a,e,h,n⟩:=h;⟨a,e,h,fun z=>n (s _ z)⟩
theorem Rl.av {av:List Addr}{H:Hp}{v:V}{ns:List Nat}{c:Addr}(h:Rl av H v ns)(hc:H c=none):Rl (c::av) H v ns :=
 let ⟨a,e,h,n⟩:=h;⟨a,e,h,fun z=>(List.mem_cons.mp z).elim (fun q=>ne_of_none h hc q) n⟩
def spSets:Sp:=fun vs H Q _=>∃ (n k:Nat),vs=[.int n,.int k]/\n<=9/\k<=3/\∀ H' p ws,Same H H'->H' p=some (.lst ws)->All (Rl [p] H') ws (chosen k (List.range n))->Q (.ref p) H'
theorem chosen_len (n j:Nat)(h:n<=9):(chosen j (List.range n)).length<=9 ^ j:=by
 induction j with
 | zero=>rw [G.chosen_zero];simp
 | succ j ih =>
  rw [G.chosen_step,List.length_flatMap]
  have:∀ l:List (List Nat),(l.map fun c=>(G.ext 0 n c).length).sum<=9*l.length:=by
   intro l
   induction l with
   | nil=>simp
   | cons c l ih =>
    have:(G.ext 0 n c).length<=9:=by unfold G.ext;simp;omega
    simp only [List.map_cons,List.sum_cons,List.length_cons];omega
  have h1:=this (chosen j (List.range n))
  rw [Nat.pow_succ];omega
theorem take_fm_len {α β:Type}(f:α->List β)(l:List α)(i:Nat):((l.take i).flatMap f).length<=(l.flatMap f).length:=by
 conv=>rhs;rw [<- List.take_append_drop i l,List.flatMap_append,List.length_append]
 omega
theorem mem_chosen_len {n j:Nat}{c:List Nat}(h:c∈chosen j (List.range n)):c.length=j:=(G.mem_chosen.mp h).2
theorem tif_val {c:Bool}{fa fb:FE}{σ:L2.St}{H:Hp}{Q:VK}(v:V)(ha:c=true->fa σ H=some v)(hb:c=false->fb σ H=some v)(hq:Q v H):if c=true then tP fa σ H Q else tP fb σ H Q:=by
 cases c
 ·exact ⟨v,hb rfl,hq⟩
 ·exact ⟨v,ha rfl,hq⟩
theorem snoc_of {α:Type}{l:List α}(h:l≠[]):∃ c x,l=c++[x]:=⟨l.dropLast,l.getLast h,(List.dropLast_concat_getLast h).symm⟩
section
variable {P:Program} {w:World} {K:PySem.W.Frag} {mg:Str->Option Value} {base:Heap}
theorem ok_setsof (B:Blt mg)(S:Src K mg "sets_of" sSetsOf ["count","size"]):Def P w K mg base "sets_of" 1 ["count","size"] spSets:=by
 refine def_ok S scSetsOf (fun vs H Q E h=>?_) (fun f cdv A outer s H vs Q E hr h=>?_)
 ·obtain ⟨n,k,rfl,_⟩:=h
  rfl
 ·obtain ⟨n,kk,rfl,hn,hk,k⟩:=h
  refine ⟨_,pss_cons (ps_set (i:=2) scSetsOf.nd rfl (Or.inl rfl) (pe_lst (pa_cons (pe_lst pq_nil) pa_nil)))
   (pss_cons (ps_for PassesOwn.never rfl (pi_range1 rfl B.range (pq_cons (pp 1) pq_nil)) (pg_name (i:=3) scSetsOf.nd rfl (Or.inl rfl))
    (pss_cons (ps_set (i:=4) scSetsOf.nd rfl (Or.inl rfl) (pe_lst pq_nil))
    (pss_cons (ps_for PassesOwn.never rfl (pi_list (pp 2)) (pg_name (i:=5) scSetsOf.nd rfl (Or.inr rfl))
     (pss_cons (ps_set (i:=6) scSetsOf.nd rfl (Or.inl rfl) (pe_ifExp (pt_gt (pp 3) pp_int) (pp_add (pp_ix (pp 5) (pp_neg pp_int)) pp_int) pp_int))
     (pss_one (ps_expr (pe_bm PySem.F.plainAttrs_list PySem.F.slot_list_extend PySem.F.type_list_extend mt_extend (pp 4) (pa_cons
      (pe_lc (own:=[("k",7)]) rfl scSetsOf.nd (pi_range2 rfl B.range (pq_cons (pp 6) (pq_cons (pp 0) pq_nil))) (blkOk_by (by show blkC ["count","size","sets","step","longer","chosen","start","k"] (defScope sSetsOf) _ _=true;decide +kernel))
       (fun _ _ _ _ _=>pg_name (i:=7) scSetsOf.nd rfl (Or.inl rfl)) (fun _ _ _ _ _=>pts_nil)
       (fun _ _ _ _ _=>pe_op op_cat (pp 5) (pe_lst (pq_cons (pp 7) pq_nil)))) pa_nil))))))
    (pss_one (ps_set (i:=2) scSetsOf.nd rfl (Or.inl rfl) (pp 4))))))
   (pss_one (ps_ret (pp 2)))),?_⟩
  refine ⟨[],rfl,(by show 0<=sizeLine;decide),fun e0 he0=>⟨(by show 1<=sizeLine;decide),fun sa hsa=>?_⟩⟩
  have s0:=same_new (o:=.lst []) he0
  have s1:=s0.trans (same_new (o:=.lst [.ref e0]) hsa)
  have hsaN:H sa=none:=s0.free hsa
  refine ⟨[.int kk],rfl,kk,rfl,by omega,by omega,for_range (fun i σ H'=>∃ (sa:Addr) (v3 v4 v5 v6 v7:Option V) (ws:List V),σ=[some (.int n),some (.int kk),some (.ref sa),v3,v4,v5,v6,v7]/\Same H H'/\H' sa=some (.lst ws)/\All (Rl [sa] H') ws (chosen i (List.range n)))
   ⟨sa,none,none,none,none,none,_,rfl,s1,upd_same,?_⟩ ?_ ?_⟩
  ·rw [G.chosen_zero]
   refine .cons ⟨e0,rfl,?_,?_⟩ .nil
   ·rw [upd_ne (ne_of_none (upd_same:upd H e0 _ e0=_) hsa),upd_same];rfl
   ·simp only [List.mem_cons,List.not_mem_nil,or_false]
    exact ne_of_none (upd_same:upd H e0 _ e0=_) hsa
  ·rintro i σ H1 hi ⟨sa,v3,v4,v5,v6,v7,ws,rfl,sm1,hs1,al1⟩
   refine ⟨[],rfl,(by show 0<=sizeLine;decide),fun lo hlo=>?_⟩
   have sl:=same_new (o:=.lst []) hlo
   have al0:All (Rl [lo,sa] H1) ws (chosen i (List.range n)):=al1.imp fun v x r=>r.av hlo
   have len0:=chosen_len n i hn
   have lenI:9 ^ i<=81:=by
    have:i<=2:=by omega
    exact Nat.le_trans (Nat.pow_le_pow_right (by decide) this) (by decide)
   refine ⟨.ref sa,rfl,sa,rfl,⟨ws,.of (sl _ _ hs1)⟩,for_list (K:=K) (a:=sa) (xs:=ws) (fun m σ H'=>∃ (v5 v6 v7:Option V) (xs:List V),σ=[some (.int n),some (.int kk),some (.ref sa),some (.int (0+(i:Int))),some (.ref lo),v5,v6,v7]/\Same H1 H'/\H' lo=some (.lst xs)/\All (Rl [lo] H') xs (((chosen i (List.range n)).take m).flatMap (G.ext 0 n)))
    ⟨v5,v6,v7,[],rfl,sl,upd_same,.nil⟩ (fun m σ H' _ ⟨_,_,_,_,_,sm,_⟩=>.of (sm _ _ hs1)) ?_ ?_⟩
   ·rintro m y σ H2 hm ⟨v5,v6,v7,xs,rfl,sm2,hl2,al2⟩
    obtain ⟨c,hc,a,rfl,ha,nav⟩:=al0.get' hm
    have ha2:=sm2 _ _ ha
    have lenc:=mem_chosen_len (List.mem_of_getElem? hc)
    refine ⟨decide (0 < (0:Int)+(i:Int)),rfl,tif_val (.int (G.startOf 0 c:Nat)) (fun z=>?_) (fun z=>?_) ?_⟩
    ·have z:=of_decide_eq_true z
     obtain ⟨c',l,rfl⟩:=snoc_of (l:=c) (by intro q;subst q;simp at lenc;omega)
     have i1:gIx (.ref a) (.int (-1)) H2=some (.int (l:Nat)):=by
      rw [gIx_l ha2]
      have:nV (c'++[l])=nV c'++[.int (l:Nat)]:=by unfold nV;simp
      rw [this];exact at_neg1 _ _
     have n1:gNeg (.int 1)=some (.int (-1)):=rfl
     have e1:G.startOf 0 (c'++[l])=l+1:=by unfold G.startOf;simp
     show f2 _ (fIx (fVar 5) (f1 (fun x _=>gNeg x) (fC (.int 1)))) (fC (.int 1)) [some (.int n),some (.int kk),some (.ref sa),some (.int (0+(i:Int))),some (.ref lo),some (.ref a),v6,v7] H2=_
     rw [e1]
     simp only [f2,f1,fVar,fC,gZ,gS,oJ,oB,n1,i1,gI]
     rfl
    ·have z:=of_decide_eq_false z
     have:c=[]:=List.length_eq_zero_iff.mp (by omega)
     subst this
     rfl
    ·generalize hst:G.startOf 0 c=st
     refine ⟨.ref lo,rfl,.inl ⟨rfl,_,SqL.of hl2⟩,[.int st,.int n],rfl,st,n,rfl,?_,fun D hD=>?_⟩
     ·have:st<=9:=by
       rw [<- hst]
       unfold G.startOf
       cases e:c.getLast? with
       | none=>simp
       | some l =>
        have h1:l∈c:=List.mem_of_getLast? e
        have h2:=List.mem_range.mp ((G.mem_chosen.mp (List.mem_of_getElem? hc)).1.subset h1)
        show l+1<=9
        omega
      refine ⟨by omega,?_,by omega,?_⟩<;>omega
     ·have lenE:(G.ext 0 n c).length=n-st:=by unfold G.ext;rw [hst];simp
      have enn:((n:Int)-(st:Int)).toNat=n-st:=by omega
      rw [enn]
      refine lc_range (fun j H'=>Same H2 H'/\∃ zs,H' D=some (.lst zs)/\All (Rl [D,lo] H') zs ((G.ext 0 n c).take j)) ⟨same_new hD,[],upd_same,.nil⟩ (fun j H3 hj h=>?_) (fun H3 h=>?_)
      ·obtain ⟨sm3,zs,hz3,al3⟩:=h
       refine ⟨rfl,?_⟩
       unfold tYes
       dsimp only
       rw [if_pos rfl]
       have li:j < (G.ext 0 n c).length:=by rw [lenE];exact hj
       have hz:(G.ext 0 n c)[j]?=some (c++[st+j]):=by
        unfold G.ext
        rw [hst,List.getElem?_map,List.getElem?_range' (by simpa using hj)]
        simp
       refine ⟨.ref a,rfl,[.int ((st:Int)+(j:Int))],rfl,(by show 1<=sizeLine;decide),fun p1 hp1=>?_⟩
       have sp1:=same_new (o:=.lst [.int ((st:Int)+(j:Int))]) hp1
       refine ⟨a,p1,nV c,_,rfl,rfl,sp1 _ _ (sm3 _ _ ha2),upd_same,?_,fun p2 hp2=>?_⟩
       ·have:(nV c).length=i:=by unfold nV;simp [lenc]
        have q:(nV c).length+[V.int ((st:Int)+(j:Int))].length<=4:=by rw [this];simp;omega
        exact Nat.le_trans q (by decide)
       ·have sp2:=sp1.trans (same_new (o:=.lst (nV c++[.int ((st:Int)+(j:Int))])) hp2)
        have hz4:=sp2 _ _ hz3
        refine ⟨zs,hz4,?_,same_upd (sm3.trans sp2) hD,zs++[.ref p2],upd_same,?_⟩
        ·have:zs.length<=9:=by
          rw [al3.length,List.length_take]
          omega
         exact Nat.lt_of_le_of_lt this (by decide)
        ·rw [take_snoc hz]
         refine ((al3.imp fun _ _ z=>Rl.same z sp2).append (All.one ⟨p2,rfl,?_,?_⟩)).imp fun _ _ z=>Rl.upd z (by simp)
         ·rw [upd_same]
          unfold nV
          simp
         ·have h1:p2≠D:=fun q=>by rw [q] at hp2;rw [sp1 _ _ hz3] at hp2;cases hp2
          have h2:p2≠lo:=fun q=>by rw [q] at hp2;rw [sp1 _ _ (sm3 _ _ hl2)] at hp2;cases hp2
          simp [h1,h2]
      ·obtain ⟨sm3,zs,hz3,al3⟩:=h
       rw [<- lenE,List.take_length] at al3
       have hl3:=sm3 _ _ hl2
       refine ⟨lo,D,xs,zs,rfl,rfl,hl3,hz3,?_,?_⟩
       ·have h1:=al2.length
        have h2:=al3.length
        have h3:=take_fm_len (G.ext 0 n) (chosen i (List.range n)) m
        have h4:=chosen_len n (i+1) hn
        rw [G.chosen_step,Nat.pow_succ] at h4
        have:xs.length+zs.length<=1000:=by omega
        exact Nat.le_trans this (by decide)
       ·refine ⟨_,_,_,xs++zs,rfl,?_,upd_same,?_⟩
        ·intro b u e
         rw [upd_ne (ne_of_none e hlo)]
         exact sm3 _ _ (sm2 _ _ e)
        ·rw [take_snoc hc,List.flatMap_append]
         have:List.flatMap (G.ext 0 n) [c]=G.ext 0 n c:=by simp
         rw [this]
         exact ((al2.imp fun _ _ z=>Rl.same z sm3).append (al3.imp fun _ _ z=>Rl.sub z (by simp))).imp fun _ _ z=>Rl.upd z (by simp)
   ·rintro σ H2 ⟨v5,v6,v7,xs,rfl,sm2,hl2,al2⟩
    have e:ws.length=(chosen i (List.range n)).length:=al1.length
    rw [e,List.take_length,<- G.chosen_step] at al2
    exact ⟨.ref lo,rfl,lo,_,_,_,_,_,xs,rfl,sm1.trans sm2,hl2,al2⟩
  ·rintro σ H1 ⟨sa,v3,v4,v5,v6,v7,ws,rfl,sm1,hs1,al1⟩
   rw [Int.toNat_natCast] at al1
   exact ⟨.ref sa,rfl,k H1 sa ws sm1 hs1 al1⟩
end
end HR
namespace HR
open PySem PySem.Spec PyProof.Rows L2
open Vbecap (cross push hull edges whereIs layers chosen without)
theorem lc_enum {K:PySem.W.Frag}{a:Addr}{xs:List V}{g:TG}{tt:TT}{te:TE}{vs:List Nat}{σ:L2.St}{H1:Hp}{D:Addr}{Qd:Hp->Prop}(Pv:Nat->Hp->Prop)(h0:Pv 0 (upd H1 D (.lst [])))(hl:∀ i H,i<=xs.length->Pv i H->SqL K H a xs)
  (hs:∀ (i:Nat) x H T,xs[i]?=some x->Pv i H->H T=none->g (.ref T) (wipe σ vs) (upd H T (.tup [.int (i:Nat),x])) fun σ2 H2=>wipe σ2 vs=wipe σ vs/\tt σ2 H2 fun b H3 =>
   if b=true then te σ2 H3 fun y H4=>∃ acc,H4 D=some (.lst acc)/\acc.length < sizeLine/\Pv (i+1) (upd H4 D (.lst (acc++[y]))) else Pv (i+1) H3) (hd:∀ H,Pv xs.length H->Qd H) :
  ∃ W:Nat->Nat->Hp->Prop,(∃ m,W 0 m (upd H1 D (.lst [])))/\∀ i m H,W i m H ->
   ((Ite K a).stop i H/\Qd H)\/((Ite K a).go i H/\∃ Nx:Hp->Prop,(∀ H',Nx H'->∃ m',m' < m/\W (i+1) m' H')/\∀ x H',(Ite K a).yld i H x H'->g x (wipe σ vs) H' fun σ2 H2=>wipe σ2 vs=wipe σ vs/\tt σ2 H2 fun b H3 =>
    if b=true then te σ2 H3 fun y H4=>∃ acc,H4 D=some (.lst acc)/\acc.length < sizeLine/\Nx (upd H4 D (.lst (acc++[y]))) else Nx H3):=by
 refine ⟨fun i m H=>m=xs.length-i/\i<=xs.length/\Pv i H,⟨xs.length,by simp,Nat.zero_le _,h0⟩,?_⟩
 rintro i m H ⟨rfl,hi,p⟩
 have q:=hl i H hi p
 by_cases hlt:i < xs.length
 ·refine .inr ⟨⟨xs,xs[i],q,by simp [hlt]⟩,Pv (i+1),fun H' p'=>⟨xs.length-(i+1),by omega,rfl,hlt,p'⟩,fun x H' y=>?_⟩
  obtain ⟨T,x',rfl,hT,rfl,y⟩:=y
  exact hs i x' _ T (y xs q) p hT
 ·have e:i=xs.length:=by omega
  subst e
  exact .inl ⟨⟨xs,q,Nat.le_refl _⟩,hd H p⟩
theorem in_nV (i:Nat):∀ g:List Nat,inV (.int (i:Nat)) (nV g)=g.contains i
 | []=>rfl
 | n::g=>by
  have:=in_nV i g
  unfold inV nV at *
  rw [List.map_cons,List.any_cons,this,List.contains_cons]
  congr 1
  show ((n:Int) == (i:Int))=(i == n)
  rw [Bool.eq_iff_iff];simp;omega
theorem flat_nV:∀ g:List Nat,(nV g).all flatV=true
 | []=>rfl
 | n::g=>by show (true && (nV g).all flatV)=true;rw [flat_nV g];rfl
def wo (l:List P2)(g:List Nat)(i:Nat):List P2:=((l.take i).zipIdx.filter fun e=>!g.contains e.2).map fun e=>e.1
theorem wo_step {l:List P2}{g:List Nat}{i:Nat}{x:P2}(h:l[i]?=some x):wo l g (i+1)=wo l g i++(if g.contains i then [] else [x]):=by
 unfold wo
 have hl:i < l.length:=(List.getElem?_eq_some_iff.mp h).1
 rw [take_snoc h,List.zipIdx_append,List.filter_append,List.map_append]
 congr 1
 have:(l.take i).length=i:=by rw [List.length_take];omega
 rw [this]
 cases e:g.contains i<;>simp [e] at *<;>simp [e]
theorem wo_all (l:List P2)(g:List Nat):wo l g l.length=without l g:=by unfold wo;rw [List.take_length,G.without_enum]
theorem wo_len (l:List P2)(g:List Nat)(i:Nat):(wo l g i).length<=l.length:=by
 unfold wo
 rw [List.length_map]
 refine Nat.le_trans (List.length_filter_le _ _) ?_
 simp;omega
abbrev sAreaW:Stmt:=top 39
theorem scAreaW:FnScope ["sightings","chosen","rest","k","place"] ["sightings","chosen"] (defScope sAreaW):=⟨rfl,rfl,rfl,by decide +kernel,rfl,by decide +kernel,by decide +kernel⟩
def spAreaW:Sp:=fun vs H Q _=>∃ v c l g,vs=[v,.ref c]/\Ls Rp H v l/\MdL l/\l.length<=9/\H c=some (.lst (nV g))/\∀ H',Same H H'->Q (.int (G.areaC (hull (without l g)))) H'
section
variable {P:Program} {w:World} {K:PySem.W.Frag} {mg:Str->Option Value} {base:Heap}
theorem ok_areaw (B:Blt mg)(S:Src K mg "area_without" sAreaW ["sightings","chosen"]) (D1:Def P w K mg base "corners_of" 3 ["sightings"] spCorners) (D2:Def P w K mg base "twice_area" 2 ["corners"] spArea) :
  Def P w K mg base "area_without" 4 ["sightings","chosen"] spAreaW:=by
 refine def_ok S scAreaW (fun vs H Q E h=>?_) (fun f cdv A outer s H vs Q E hr h=>?_)
 ·obtain ⟨v,c,l,g,rfl,_⟩:=h
  rfl
 ·obtain ⟨v,c,l,g,rfl,⟨la,us,rfl,hl,hall⟩,ml,hlen,hc,k⟩:=h
  have hr2:Room 2 _:=hr.mono (by decide)
  have le:us.length=l.length:=hall.length
  refine ⟨_,pss_cons (ps_setLc (i:=2) (own:=[("k",3),("place",4)]) (g:=gTup K 2 (gCons (gName 3) (gCons (gName 4) gNil))) rfl scAreaW.nd rfl rfl (sw_true rfl rfl rfl rfl) (pi_enum rfl B.enumerate (pq_cons (pp 0) pq_nil)) (blkOk_by (by show blkC ["sightings","chosen","rest","k","place"] (defScope sAreaW) _ _=true;decide +kernel))
    (fun _ _ _ _ _=>pg_tup (n:=2) rfl (pgs_cons (pg_name (i:=3) (x:="k") scAreaW.nd rfl (Or.inl rfl) (.inr rfl)) (pgs_cons (pg_name (i:=4) (x:="place") scAreaW.nd rfl (Or.inl rfl) (.inr rfl)) pgs_nil)))
    (fun _ _ _ _ _=>pts_one (pt_cmpR (r:=rIn K true) op_notIn_seq (pp 3) (pp 1) rfl)) (fun _ _ _ _ _=>pp 4))
   (pss_one (ps_ret (pe_def D2 hr2 rfl (pa_cons (pe_def D1 hr rfl (pq_cons (pp 2) pq_nil)) pa_nil)))),?_⟩
  refine ⟨[.ref la],rfl,la,us,rfl,.of hl,fun D hD=>?_⟩
  refine lc_enum (K:=K) (xs:=us) (fun i H'=>Same H H'/\∃ ws,H' D=some (.lst ws)/\All (Rp H') ws (wo l g i)) ⟨same_new hD,[],upd_same,.nil⟩ (fun i H' _ h=>h.1.seq (.of hl)) (fun i x H' T hx h hT=>?_) (fun H' h=>?_)
  ·obtain ⟨s1,ws,h1,a1⟩:=h
   obtain ⟨p,hp,rp⟩:=hall.get' hx
   have sT:=same_new (o:=.tup [.int (i:Nat),x]) hT
   refine ⟨T,_,rfl,.of upd_same,rfl,_,_,rfl,_,_,rfl,rfl,rfl,?_⟩
   refine ⟨.int (i:Nat),rfl,.ref c,rfl,c,nV g,rfl,.inl (.of (sT _ _ (s1 _ _ hc))),rfl,flat_nV g,_,rfl,?_⟩
   have a2:=a1.imp fun _ _ z=>tu_p _ _ _ _ z (same_tup sT)
   dsimp only
   rw [if_pos rfl,in_nV]
   cases e:g.contains i with
   | true =>
    rw [if_neg (by decide)]
    refine ⟨s1.trans sT,ws,sT _ _ h1,?_⟩
    rw [wo_step hp,e,if_pos rfl,List.append_nil];exact a2
   | false =>
    rw [if_pos (by decide)]
    refine ⟨x,rfl,ws,sT _ _ h1,?_,same_upd (s1.trans sT) hD,ws++[x],upd_same,?_⟩
    ·have:=a1.length
     have:=wo_len l g i
     have:ws.length<=9:=by omega
     exact Nat.lt_of_le_of_lt this (by decide)
    ·rw [wo_step hp,e,if_neg (by decide)]
     exact (a2.append (All.one (rp.to (same_tup (s1.trans sT))))).imp fun _ _ z=>tu_p _ _ _ _ z (stup_upd (sT _ _ h1))
  ·obtain ⟨s1,ws,h1,a1⟩:=h
   have e:us.length=l.length:=le
   have lw:=wo_len l g l.length
   rw [wo_all] at lw
   rw [e,wo_all] at a1
   have mw:MdL (without l g):=fun p hp=>ml p ((G.without_sub l g).subset hp)
   refine ⟨[.ref D],rfl,.ref D,without l g,rfl,⟨D,ws,rfl,h1,a1⟩,mw,by omega,fun H2 u s2 hu=>?_⟩
   refine ⟨u,hull (without l g),rfl,hu,(hull_md mw).sm,?_,fun H3 s3=>k H3 ((s1.trans s2).trans s3)⟩
   have:=G.hull_len (without l g)
   omega
end
end HR
namespace HR
open PySem PySem.Spec PyProof.Rows L2
open Vbecap (cross push hull edges whereIs layers chosen without least widestOf)
theorem first_at:∀ {ys:List Int} {m:Int},m∈ys->∃ j,ys[j]?=some m/\∀ (i:Nat) z,i < j->ys[i]?=some z->z≠m
 | [],m,h=>by simp at h
 | y::ys,m,h=>by
  by_cases e:y=m
  ·exact ⟨0,by rw [e];rfl,fun i z hi=>absurd hi (Nat.not_lt_zero _)⟩
  ·have:m∈ys:=(List.mem_cons.mp h).resolve_left fun q=>e q.symm
   obtain ⟨j,hj,hf⟩:=first_at this
   refine ⟨j+1,hj,fun i z hi hz=>?_⟩
   cases i with
   | zero=>rw [<- Option.some.inj hz];exact e
   | succ i=>exact hf i z (by omega) hz
theorem eqV_int (a b:Int):eqV (.int a) (.int b)=decide (a=b):=by
 show (a == b)=decide (a=b)
 rw [Bool.eq_iff_iff];simp
theorem flat_ints:∀ ns:List Int,(ns.map V.int).all flatV=true
 | []=>rfl
 | n::ns=>by show (true && (ns.map V.int).all flatV)=true;rw [flat_ints ns];rfl
theorem index_ok {K:PySem.W.Frag}{H:Hp}{a:Addr}{ys:List Int}{m:Int}{Q:VK}(hl:SqL K H a (ys.map V.int)){j:Nat}(hj:ys[j]?=some m)(hf:∀ (i:Nat) z,i < j->ys[i]?=some z->z≠m)(q:Q (.int (j:Nat)) H):rIndex K (.ref a) [.int m] H Q:=by
 refine ⟨a,_,.int m,j,.int m,rfl,rfl,hl,rfl,flat_ints ys,?_,?_,fun i z hi hz=>?_,q⟩
 ·rw [List.getElem?_map,hj];rfl
 ·rw [eqV_int];simp
 ·rw [List.getElem?_map] at hz
  cases e:ys[i]? with
  | none=>rw [e] at hz;cases hz
  | some y =>
   rw [e] at hz
   cases hz
   rw [eqV_int]
   exact decide_eq_false (hf i y hi e)
abbrev sLeastW:Stmt:=top 40
abbrev sWidestP:Stmt:=top 41
theorem scLeastW:FnScope ["sightings","size","sets","areas","smallest","chosen"] ["sightings","size"] (defScope sLeastW):=⟨rfl,rfl,rfl,by decide +kernel,rfl,by decide +kernel,by decide +kernel⟩
theorem scWidestP:FnScope ["sightings","pairs","squares","greatest","pair"] ["sightings"] (defScope sWidestP):=⟨rfl,rfl,rfl,by decide +kernel,rfl,by decide +kernel,by decide +kernel⟩
def spLeastW:Sp:=fun vs H Q _=>∃ (v:V) (k:Nat) (l:List P2),vs=[v,.int k]/\Ls Rp H v l/\MdL l/\l.length<=9/\k<=3/\k<=l.length/\∀ H' p,H p=none->Same H H'->H' p=some (.lst (.int (least l k).1::nV (least l k).2))->Q (.ref p) H'
def spWidestP:Sp:=fun vs H Q _=>∃ (v:V) (l:List P2),vs=[v]/\Ls Rp H v l/\MdL l/\l.length<=9/\2<=l.length/\∀ H' p,H p=none->Same H H'->H' p=some (.lst [.int (widestOf l).1,.int ((widestOf l).2.1:Nat),.int ((widestOf l).2.2:Nat)])->Q (.ref p) H'
section
variable {P:Program} {w:World} {K:PySem.W.Frag} {mg:Str->Option Value} {base:Heap}
theorem ok_leastw (B:Blt mg)(S:Src K mg "least_without" sLeastW ["sightings","size"]) (D1:Def P w K mg base "sets_of" 1 ["count","size"] spSets) (D2:Def P w K mg base "area_without" 4 ["sightings","chosen"] spAreaW) :
  Def P w K mg base "least_without" 5 ["sightings","size"] spLeastW:=by
 refine def_ok S scLeastW (fun vs H Q E h=>?_) (fun f cdv A outer s H vs Q E hr h=>?_)
 ·obtain ⟨v,k,l,rfl,_⟩:=h
  rfl
 ·obtain ⟨v,kk,l,rfl,⟨la,us,rfl,hl,hall⟩,ml,hlen,hk3,hkl,k⟩:=h
  have hr1:Room 1 _:=hr.mono (by decide)
  have le:us.length=l.length:=hall.length
  refine ⟨_,pss_cons (ps_set (i:=2) scLeastW.nd rfl (Or.inl rfl) (pe_def D1 hr1 rfl (pq_cons (pp_callB call_len_seq gLen_ok rfl B.len boot_lenH (pq_cons (pp 0) pq_nil)) (pq_cons (pp 1) pq_nil))))
   (pss_cons (ps_setLc (i:=3) (own:=[("chosen",5)]) rfl scLeastW.nd rfl rfl (sw_true rfl rfl rfl rfl) (pi_list (pp 2)) (blkOk_by (by show blkC ["sightings","size","sets","areas","smallest","chosen"] (defScope sLeastW) _ _=true;decide +kernel))
    (fun _ _ _ _ _=>pg_name (i:=5) scLeastW.nd rfl (Or.inl rfl)) (fun _ _ _ _ _=>pts_nil) (fun _ _ _ _ _=>pe_def D2 hr rfl (pq_cons (pp 0) (pq_cons (pp 5) pq_nil))))
   (pss_cons (ps_set (i:=4) scLeastW.nd rfl (Or.inl rfl) (pe_callB (cr_min rfl) rfl B.min boot_min (pq_cons (pp 3) pq_nil)))
   (pss_one (ps_ret (pe_op op_cat (pe_lst (pq_cons (pp 4) pq_nil)) (pe_ix ix_list (pp 2) (pe_bm PySem.F.plainAttrs_list PySem.F.slot_list_index PySem.F.type_list_index mt_index (pp 3) (pq_cons (pp 4) pq_nil)) (fun _ _=>rfl))))))),?_⟩
  refine ⟨[.int us.length,.int kk],?_,us.length,kk,rfl,by omega,hk3,fun H1 p ws s1 hp1 al1=>?_⟩
  ·show fCons (fCall gLen (fCons (fVar 0) fNil)) (fCons (fVar 1) fNil) [some (.ref la),some (.int kk),none,none,none,none] H=_
   simp only [fCall,fCons,fNil,fVar,gZ,gS,oJ,oB,gLen_l hl]
  rw [le] at al1
  generalize hC:chosen kk (List.range l.length)=C at al1
  have lC:ws.length=C.length:=al1.length
  have nC:C≠[]:=by rw [<- hC];exact G.chosen_ne hkl
  have bC:C.length<=1000:=by
   have:=chosen_len l.length kk hlen
   rw [hC] at this
   have h2:9 ^ kk<=9 ^ 3:=Nat.pow_le_pow_right (by decide) hk3
   omega
  refine ⟨.ref p,rfl,p,rfl,⟨ws,.of hp1⟩,fun D hD=>?_⟩
  refine lc_map (R':=Ri) tu_i hD (.of hp1) (C.map fun g=>G.areaC (hull (without l g))) (by rw [List.length_map,lC]) (by omega) (fun x=>rfl) (fun i x z H2 hx hz s2 Q2 hQ2=>?_) (fun H2 as s2 h2 a2=>?_)
  ·obtain ⟨g,hg,a,rfl,ha,_⟩:=al1.get' hx
   rw [List.getElem?_map,hg] at hz
   cases hz
   refine ⟨[.ref la,.ref a],rfl,.ref la,a,l,g,rfl,⟨la,us,rfl,(s1.trans s2) _ _ hl,hall.imp fun _ _ z=>z.to (same_tup (s1.trans s2))⟩,ml,hlen,s2 _ _ ha,fun H3 s3=>hQ2 _ H3 s3 rfl⟩
  ·have ea:as=(C.map fun g=>G.areaC (hull (without l g))).map V.int:=all_ints a2
   subst ea
   refine ⟨[.ref D],rfl,D,C.map (fun g=>G.areaC (hull (without l g))),rfl,.of h2,?_,fun m hm hmin=>?_⟩
   ·rw [List.length_map];exact List.length_pos_iff.mpr nC
   obtain ⟨j,hj,hf⟩:=first_at hm
   refine ⟨[.int m],rfl,(by show 1<=sizeLine;decide),fun q hq=>?_⟩
   have s3:=same_new (o:=.lst [.int m]) hq
   rw [List.getElem?_map] at hj
   cases hg:C[j]? with
   | none=>rw [hg] at hj;cases hj
   | some g =>
    rw [hg] at hj
    have em:G.areaC (hull (without l g))=m:=Option.some.inj hj
    obtain ⟨v,hv,a,rfl,ha,_⟩:=al1.get hg
    refine ⟨.ref p,rfl,.ref D,rfl,.inl ⟨rfl,_,.of (s3 _ _ h2)⟩,[.int m],rfl,index_ok (.of (s3 _ _ h2)) (by rw [List.getElem?_map,hg];exact hj) hf ?_⟩
    refine ⟨p,ws,(j:Nat),.ref a,rfl,rfl,.of (s3 _ _ (s2 _ _ hp1)),at_nat hv,q,a,_,_,rfl,rfl,upd_same,s3 _ _ (s2 _ _ ha),?_,fun r hr4=>?_⟩
    ·have:g.length=kk:=by rw [<- hC] at hg;exact mem_chosen_len (List.mem_of_getElem? hg)
     have:[V.int m].length+(nV g).length<=4:=by unfold nV;simp;omega
     exact Nat.le_trans this (by decide)
    ·have lk:=G.least_ok hkl (m:=m) (j:=j) (g:=g) (fun y hy=>hmin _ (List.mem_map.mpr ⟨y,by rw [<- hC];exact hy,rfl⟩)) (by rw [hC];exact hg) em (fun i y hi hy=>hf i _ hi (by rw [List.getElem?_map,<- hC,hy];rfl))
     refine k _ r (((s1.trans s2).trans s3).free hr4) ((s1.trans s2).trans (s3.trans (same_new hr4))) ?_
     rw [upd_same,lk];rfl
theorem ok_widestp (B:Blt mg)(S:Src K mg "widest_pair" sWidestP ["sightings"]) (D1:Def P w K mg base "sets_of" 1 ["count","size"] spSets) (D2:Def P w K mg base "square" 2 ["a","b"] (spP gSquare)) :
  Def P w K mg base "widest_pair" 3 ["sightings"] spWidestP:=by
 refine def_ok S scWidestP (fun vs H Q E h=>?_) (fun f cdv A outer s H vs Q E hr h=>?_)
 ·obtain ⟨v,l,rfl,_⟩:=h
  rfl
 ·obtain ⟨v,l,rfl,⟨la,us,rfl,hl,hall⟩,ml,hlen,hl2,k⟩:=h
  have hr1:Room 1 _:=hr.mono (by decide)
  have le:us.length=l.length:=hall.length
  refine ⟨_,pss_cons (ps_set (i:=1) scWidestP.nd rfl (Or.inl rfl) (pe_def D1 hr1 rfl (pq_cons (pp_callB call_len_seq gLen_ok rfl B.len boot_lenH (pq_cons (pp 0) pq_nil)) (pq_cons pp_int pq_nil))))
   (pss_cons (ps_setLc (i:=2) (own:=[("pair",4)]) rfl scWidestP.nd rfl rfl (sw_true rfl rfl rfl rfl) (pi_list (pp 1)) (blkOk_by (by show blkC ["sightings","pairs","squares","greatest","pair"] (defScope sWidestP) _ _=true;decide +kernel))
    (fun _ _ _ _ _=>pg_name (i:=4) scWidestP.nd rfl (Or.inl rfl)) (fun _ _ _ _ _=>pts_nil) (fun _ _ _ _ _=>pp_def D2 hr rfl (pq_cons (pp_ix (pp 0) (pp_ix (pp 4) pp_int)) (pq_cons (pp_ix (pp 0) (pp_ix (pp 4) pp_int)) pq_nil))))
   (pss_cons (ps_set (i:=3) scWidestP.nd rfl (Or.inl rfl) (pe_callB (cr_max rfl) rfl B.max boot_max (pq_cons (pp 2) pq_nil)))
   (pss_one (ps_ret (pe_op op_cat (pe_lst (pq_cons (pp 3) pq_nil)) (pe_ix ix_list (pp 1) (pe_bm PySem.F.plainAttrs_list PySem.F.slot_list_index PySem.F.type_list_index mt_index (pp 2) (pq_cons (pp 3) pq_nil)) (fun _ _=>rfl))))))),?_⟩
  refine ⟨[.int us.length,.int 2],?_,us.length,2,rfl,by omega,by decide,fun H1 p ws s1 hp1 al1=>?_⟩
  ·show fCons (fCall gLen (fCons (fVar 0) fNil)) (fCons (fC (.int 2)) fNil) [some (.ref la),none,none,none,none] H=_
   simp only [fCall,fCons,fNil,fVar,fC,gZ,gS,oJ,oB,gLen_l hl]
  rw [le] at al1
  generalize hC:chosen 2 (List.range l.length)=C at al1
  have lC:ws.length=C.length:=al1.length
  have nC:C≠[]:=by rw [<- hC];exact G.chosen_ne hl2
  have bC:C.length<=1000:=by
   have:=chosen_len l.length 2 hlen
   rw [hC] at this
   omega
  refine ⟨.ref p,rfl,p,rfl,⟨ws,.of hp1⟩,fun D hD=>?_⟩
  refine lc_map (R':=Ri) tu_i hD (.of hp1) (C.map fun g=>G.sqAt l g) (by rw [List.length_map,lC]) (by omega) (fun x=>rfl) (fun i x z H2 hx hz s2 Q2 hQ2=>?_) (fun H2 as s2 h2 a2=>?_)
  ·obtain ⟨g,hg,a,rfl,ha,_⟩:=al1.get' hx
   rw [List.getElem?_map,hg] at hz
   cases hz
   have hgC:g∈chosen 2 (List.range l.length):=by rw [hC];exact List.mem_of_getElem? hg
   obtain ⟨gs,gl⟩:=G.mem_chosen.mp hgC
   obtain ⟨g0,g1,rfl⟩:∃ g0 g1,g=[g0,g1]:=by
    match g,gl with
    | [a,b],_=>exact ⟨a,b,rfl⟩
   have m0:=List.mem_range.mp (gs.subset (List.mem_cons_self))
   have m1:=List.mem_range.mp (gs.subset (List.mem_cons_of_mem _ List.mem_cons_self))
   obtain ⟨u0,hu0,r0⟩:=hall.get (getD_at m0)
   obtain ⟨u1,hu1,r1⟩:=hall.get (getD_at m1)
   have ha2:=s2 _ _ ha
   have hl':=(s1.trans s2) _ _ hl
   have e0:gIx (.ref a) (.int 0) H2=some (.int (g0:Nat)):=by rw [gIx_l ha2];rfl
   have e1:gIx (.ref a) (.int 1) H2=some (.int (g1:Nat)):=by rw [gIx_l ha2];rfl
   have f0:gIx (.ref la) (.int (g0:Nat)) H2=some u0:=by rw [gIx_l hl'];exact at_nat hu0
   have f1:gIx (.ref la) (.int (g1:Nat)) H2=some u1:=by rw [gIx_l hl'];exact at_nat hu1
   have sm:=fun (q:P2) (hq:q∈l)=>md_sm (ml q hq)
   have e2:gSquare [u0,u1] H2=some (.int (G.sqAt l [g0,g1])):=F2_of (r0.to (same_tup (s1.trans s2))) (r1.to (same_tup (s1.trans s2))) (sm _ (List.mem_of_getElem? (getD_at m0))) (sm _ (List.mem_of_getElem? (getD_at m1)))
   refine ⟨.int (G.sqAt l [g0,g1]),?_,hQ2 _ H2 (Same.refl _) rfl⟩
   show fCall gSquare (fCons (fIx (fVar 0) (fIx (fVar 4) (fC (.int 0)))) (fCons (fIx (fVar 0) (fIx (fVar 4) (fC (.int 1)))) fNil)) [some (.ref la),some (.ref p),none,none,some (.ref a)] H2=_
   simp only [fCall,fCons,fNil,f2,fVar,fC,gZ,gS,oJ,oB,e0,e1,f0,f1,e2]
  ·have ea:as=(C.map fun g=>G.sqAt l g).map V.int:=all_ints a2
   subst ea
   refine ⟨[.ref D],rfl,D,C.map (fun g=>G.sqAt l g),rfl,.of h2,?_,fun m hm hmax=>?_⟩
   ·rw [List.length_map];exact List.length_pos_iff.mpr nC
   obtain ⟨j,hj,hf⟩:=first_at hm
   refine ⟨[.int m],rfl,(by show 1<=sizeLine;decide),fun q hq=>?_⟩
   have s3:=same_new (o:=.lst [.int m]) hq
   rw [List.getElem?_map] at hj
   cases hg:C[j]? with
   | none=>rw [hg] at hj;cases hj
   | some g =>
    rw [hg] at hj
    have em:G.sqAt l g=m:=Option.some.inj hj
    obtain ⟨v,hv,a,rfl,ha,_⟩:=al1.get hg
    obtain ⟨g0,g1,rfl,lk⟩:=G.widest_ok (m:=m) (j:=j) (g:=g) (fun y hy=>hmax _ (List.mem_map.mpr ⟨y,by rw [<- hC];exact hy,rfl⟩)) (by rw [hC];exact hg) em (fun i y hi hy=>hf i _ hi (by rw [List.getElem?_map,<- hC,hy];rfl))
    refine ⟨.ref p,rfl,.ref D,rfl,.inl ⟨rfl,_,.of (s3 _ _ h2)⟩,[.int m],rfl,index_ok (.of (s3 _ _ h2)) (by rw [List.getElem?_map,hg];exact hj) hf ?_⟩
    refine ⟨p,ws,(j:Nat),.ref a,rfl,rfl,.of (s3 _ _ (s2 _ _ hp1)),at_nat hv,q,a,_,_,rfl,rfl,upd_same,s3 _ _ (s2 _ _ ha),(by show 3<=sizeLine;decide),fun r hr4=>?_⟩
    refine k _ r (((s1.trans s2).trans s3).free hr4) ((s1.trans s2).trans (s3.trans (same_new hr4))) ?_
    rw [upd_same,lk];rfl
end
end HR
namespace HR
open PySem PySem.Spec PyProof.Rows L2
open Vbecap (cross push hull edges whereIs layers chosen without least widestOf State seen inRange isAnimal onGrid within act places)
structure Herd (H:Hp)(h:Addr)(as:List Addr)(st:State):Prop where
 lst:H h=some (.lst (as.map V.ref))
 len:as.length=4
 slen:st.length=4
 nd:(h::as).Nodup
 at':∀ (i:Nat) a l,as[i]?=some a->st[i]?=some l->∃ vs,H a=some (.lst vs)/\All (Rp H) vs l
 ok:∀ l∈st,l.length<=9/\MdL l
theorem Herd.same {H H':Hp}{h:Addr}{as:List Addr}{st:State}(x:Herd H h as st)(s:Same H H'):Herd H' h as st :=
 ⟨s _ _ x.lst,x.len,x.slen,x.nd,fun i a l e1 e2=>let ⟨vs,h1,h2⟩:=x.at' i a l e1 e2;⟨vs,s _ _ h1,h2.imp fun _ _ z=>z.to (same_tup s)⟩,x.ok⟩
structure Post (H:Hp)(h:Addr)(as:List Addr)(H':Hp)(as':List Addr)(st':State):Prop where
 herd:Herd H' h as' st'
 keep:∀ b o,b ∉ h::as->H b=some o->H' b=some o
 new:∀ a∈as',a∈as\/H a=none
theorem post_same {H H':Hp}{h:Addr}{as:List Addr}{st:State}(x:Herd H h as st)(s:Same H H'):Post H h as H' as st:=⟨x.same s,fun b o _ e=>s b o e,fun a ha=>.inl ha⟩
def iV (ns:List Int):List V:=ns.map V.int
def Is:Nat->List Int->Vbecap.Call->Prop
 | 0,row,c=>∃ a x y,row=[a,x,y]/\c=.see a x y
 | 1,row,c=>∃ a i,row=[a,i]/\c=.forget a i
 | 2,row,c=>∃ a,row=[a]/\c=.told a
 | 3,row,c=>∃ a,row=[a]/\c=.clear a
 | 4,row,c=>∃ a b d,row=[a,b,d]/\c=.join a b d
 | 5,row,c=>∃ a x y,row=[a,x,y]/\c=.shift a x y
 | 6,row,c=>∃ a,row=[a]/\c=.turn a
 | 7,row,c=>∃ a,row=[a]/\c=.hull a
 | 8,row,c=>∃ a,row=[a]/\c=.area a
 | 9,row,c=>∃ a x y,row=[a,x,y]/\c=.whereIs a x y
 | 10,row,c=>∃ a x y,row=[a,x,y]/\c=.depth a x y
 | 11,row,c=>∃ a,row=[a]/\c=.layers a
 | 12,row,c=>∃ a k,row=[a,k]/\c=.least a k
 | 13,row,c=>∃ a x y,row=[a,x,y]/\c=.extent a x y
 | 14,row,c=>∃ a,row=[a]/\c=.widest a
 | 15,row,c=>∃ a x y u v,row=[a,x,y,u,v]/\c=.halves a x y u v
 | 16,row,c=>∃ a,row=[a]/\c=.mean a
 | 17,row,c=>∃ a b,row=[a,b]/\c=.overlap a b
 | 18,row,c=>∃ a b,row=[a,b]/\c=.meet a b
 | 19,row,c=>∃ a b,row=[a,b]/\c=.gap a b
 | _,_,_=>False
def spAct (n:Nat):Sp:=fun vs H Q _=>∃ h r as st row c,vs=[.ref h,.ref r]/\Herd H h as st/\H r=some (.lst (iV row))/\Is n row c/\inRange st c=true /\
 ∀ H' p as',Post H h as H' as' (act st c).1->H' p=some (.lst (iV (act st c).2))->H p=none->Q (.ref p) H'
theorem animal_iff {a:Int}(h:isAnimal a=true):0<=a/\a<=3:=by
 unfold isAnimal within at h
 simpa using h
theorem grid_iff {x y:Int}(h:onGrid x y=true):mdP (x,y)=true:=by
 unfold onGrid within Vbecap.BOUND at h
 rw [mdP_iff]
 simp at h ⊢
 omega
theorem Herd.get {H:Hp}{h:Addr}{as:List Addr}{st:State}(x:Herd H h as st){a:Int}(ha:0<=a/\a<=3) :
  ∃ ad vs,as[a.toNat]?=some ad/\H ad=some (.lst vs)/\All (Rp H) vs (seen st a)/\(seen st a).length<=9/\MdL (seen st a)/\vs.length=(seen st a).length/\gIx (.ref h) (.int a) H=some (.ref ad)/\st[a.toNat]?=some (seen st a):=by
 have h1:a.toNat < as.length:=by rw [x.len];omega
 have h2:a.toNat < st.length:=by rw [x.slen];omega
 have e1:=List.getElem?_eq_getElem h1
 have e2:=List.getElem?_eq_getElem h2
 have e3:seen st a=st[a.toNat]:=by unfold Vbecap.seen;rw [List.getD_eq_getElem?_getD,e2];rfl
 obtain ⟨vs,h3,h4⟩:=x.at' _ _ _ e1 e2
 have ok:=x.ok _ (List.getElem_mem h2)
 refine ⟨_,vs,e1,h3,by rw [e3];exact h4,by rw [e3];exact ok.1,by rw [e3];exact ok.2,by rw [e3];exact h4.length,?_,by rw [e3];exact e2⟩
 rw [gIx_l x.lst]
 have:a=((a.toNat:Nat):Int):=by omega
 have r:=at_nat (xs:=as.map V.ref) (k:=a.toNat) (by rw [List.getElem?_map,e1];rfl)
 rw [<- this] at r
 exact r
structure Cons (mg:Str->Option Value):Prop where
 animals:Con mg "ANIMALS" (.int 4)
 most:Con mg "MOST_SIGHTINGS" (.int 9)
 edge:Con mg "EDGE" (.int 1000)
 left:Con mg "MOST_LEFT_OUT" (.int 3)
 nir:Con mg "NOT_IN_RANGE" (.int (-1))
 many:Con mg "TOO_MANY" (.int (-3))
 over:Con mg "OVER_EDGE" (.int (-4))
 few:Con mg "TOO_FEW" (.int (-5))
 noline:Con mg "NO_LINE" (.int (-6))
abbrev sCounted:Stmt:=top 52
abbrev sOnGrid:Stmt:=top 53
theorem scCounted:FnScope ["places","told_numbers","place"] ["places"] (defScope sCounted):=⟨rfl,rfl,rfl,by decide +kernel,rfl,by decide +kernel,by decide +kernel⟩
theorem scOnGrid:FnScope ["number"] ["number"] (defScope sOnGrid):=⟨rfl,rfl,rfl,by decide +kernel,rfl,by decide +kernel,by decide +kernel⟩
def spCounted:Sp:=fun vs H Q _=>∃ v l,vs=[v]/\Ls Rp H v l/\l.length<=1000/\∀ H' p,H p=none->Same H H'->H' p=some (.lst (iV (places l)))->Q (.ref p) H'
def gOnGrid (vs:List V)(_:Hp):Option V:=match vs with
 | [.int n]=>some (.bl (within n (-1000) 1000))
 | _=>none
theorem of_gOnGrid {vs:List V}{H:Hp}{v:V}(h:gOnGrid vs H=some v):∃ n,vs=[.int n]/\v=.bl (within n (-1000) 1000):=by
 unfold gOnGrid at h
 split at h
 ·exact ⟨_,rfl,(Option.some.inj h).symm⟩
 ·cases h
section
variable {P:Program} {w:World} {K:PySem.W.Frag} {mg:Str->Option Value} {base:Heap}
theorem ok_counted (B:Blt mg)(S:Src K mg "counted" sCounted ["places"]):Def P w K mg base "counted" 1 ["places"] spCounted:=by
 refine def_ok S scCounted (fun vs H Q E h=>?_) (fun f cdv A outer s H vs Q E hr h=>?_)
 ·obtain ⟨v,l,rfl,_⟩:=h
  rfl
 ·obtain ⟨v,l,rfl,⟨la,us,rfl,hl,hall⟩,hlen,k⟩:=h
  have le:us.length=l.length:=hall.length
  refine ⟨_,pss_cons (ps_set (i:=1) scCounted.nd rfl (Or.inl rfl) (pe_lst (pq_cons (pp_callB call_len_seq gLen_ok rfl B.len boot_lenH (pq_cons (pp 0) pq_nil)) pq_nil)))
   (pss_cons (ps_for PassesOwn.never rfl (pi_list (pp 0)) (pg_name (i:=2) scCounted.nd rfl (Or.inl rfl))
    (pss_cons (ps_expr (pe_bm PySem.F.plainAttrs_list PySem.F.slot_list_append PySem.F.type_list_append mt_append (pp 1) (pq_cons (pp_ix (pp 2) pp_int) pq_nil)))
    (pss_one (ps_expr (pe_bm PySem.F.plainAttrs_list PySem.F.slot_list_append PySem.F.type_list_append mt_append (pp 1) (pq_cons (pp_ix (pp 2) pp_int) pq_nil))))))
   (pss_one (ps_ret (pp 1)))),?_⟩
  refine ⟨[.int us.length],?_,(by show 1<=sizeLine;decide),fun q hq=>?_⟩
  ·show fCons (fCall gLen (fCons (fVar 0) fNil)) fNil [some (.ref la),none,none] H=_
   simp only [fCall,fCons,fNil,fVar,gZ,oJ,oB,gLen_l hl]
  have s0:=same_new (o:=.lst [.int us.length]) hq
  refine ⟨_,rfl,la,rfl,⟨_,SqL.of (s0 _ _ hl)⟩,for_list (K:=K) (a:=la) (xs:=us) (fun i σ H'=>∃ (v:Option V),σ=[some (.ref la),some (.ref q),v]/\Same H H'/\H' q=some (.lst (iV ((l.length:Int)::(l.take i).flatMap fun p=>[p.1,p.2]))))
   ⟨none,rfl,s0,by rw [upd_same,le];rfl⟩ (fun i σ H' _ ⟨_,_,s5,_⟩=>SqL.of (s5 _ _ hl)) ?_ ?_⟩
  ·rintro i y σ H1 hi ⟨v,rfl,s1,h1⟩
   obtain ⟨p,hp,a,rfl,ha⟩:=hall.get' hi
   have ha1:=s1 _ _ ha
   have hq2:∀ o:HO,upd H1 q o a=some (.tup [.int p.1,.int p.2]):=fun o=>by rw [upd_ne (ne_of_none ha hq)];exact ha1
   have e0:gIx (.ref a) (.int 0) H1=some (.int p.1):=by rw [gIx_t ha1];rfl
   have bnd:(iV ((l.length:Int)::(l.take i).flatMap fun p=>[p.1,p.2])).length<=2001:=by
    unfold iV
    rw [List.length_map,List.length_cons]
    have:∀ l:List P2,(l.flatMap fun p=>[p.1,p.2]).length=2*l.length:=fun l=>by
     induction l with
     | nil=>rfl
     | cons a l ih=>simp only [List.flatMap_cons,List.length_append,List.length_cons,List.length_nil,ih];omega
    rw [this,List.length_take];omega
   refine ⟨.ref q,rfl,.inl ⟨rfl,_,SqL.of h1⟩,[.int p.1],?_,q,_,_,rfl,rfl,h1,?_,?_⟩
   ·show fCons (fIx (fVar 2) (fC (.int 0))) fNil [some (.ref la),some (.ref q),some (.ref a)] H1=_
    simp only [fCons,fNil,f2,fVar,fC,gZ,gS,oJ,oB,e0]
   ·exact Nat.lt_of_le_of_lt bnd (by decide)
   ·have e1:∀ o:HO,gIx (.ref a) (.int 1) (upd H1 q o)=some (.int p.2):=fun o=>by rw [gIx_t (hq2 o)];rfl
    refine ⟨.ref q,rfl,.inl ⟨rfl,_,SqL.of upd_same⟩,[.int p.2],?_,q,_,_,rfl,rfl,upd_same,?_,?_⟩
    ·show fCons (fIx (fVar 2) (fC (.int 1))) fNil [some (.ref la),some (.ref q),some (.ref a)] _=_
     simp only [fCons,fNil,f2,fVar,fC,gZ,gS,oJ,oB,e1]
    ·rw [List.length_append]
     exact Nat.lt_of_le_of_lt (Nat.add_le_add_right bnd 1) (by decide)
    ·refine ⟨_,rfl,same_upd (same_upd s1 hq) hq,?_⟩
     rw [upd_same,take_snoc hp]
     unfold iV
     simp
  ·rintro σ H1 ⟨v,rfl,s1,h1⟩
   rw [le,List.take_length] at h1
   exact ⟨.ref q,rfl,k H1 q hq s1 h1⟩
theorem ok_ongrid (C:Cons mg)(S:Src K mg "on_grid" sOnGrid ["number"]):Def P w K mg base "on_grid" 1 ["number"] (spP gOnGrid):=by
 refine def_ok S scOnGrid (fun vs H Q E h=>?_) (fun f cdv A outer s H vs Q E hr h=>?_)
 ·obtain ⟨v,h,_⟩:=h
  obtain ⟨n,rfl,_⟩:=of_gOnGrid h
  rfl
 ·obtain ⟨v,h,k⟩:=h
  obtain ⟨n,rfl,rfl⟩:=of_gOnGrid h
  refine ⟨_,pss_one (ps_ret (pe_chain op_le op_le (pp_neg (pp_con C.edge rfl)) (pp 0) (pp_con C.edge rfl))),?_⟩
  unfold Vbecap.within at k
  refine ⟨.int (-1000),rfl,.int n,rfl,_,_,rfl,rfl,_,rfl,ite_bl (fun c=>?_) (fun c=>?_)⟩
  ·rw [c,Bool.true_and] at k
   exact ⟨.int 1000,rfl,_,_,rfl,rfl,k⟩
  ·rw [c,Bool.false_and] at k
   exact k
end
end HR
namespace HR
open PySem PySem.Spec L2
open PyProof.Rows hiding seen
open Vbecap (cross push hull edges whereIs layers chosen without least widestOf State seen inRange isAnimal onGrid within act places)
theorem rd0 {H:Hp}{r:Addr}{a:Int}{l:List Int}(h:H r=some (.lst (iV (a::l)))):gIx (.ref r) (.int 0) H=some (.int a):=by rw [gIx_l h];exact at_nat (k:=0) rfl
theorem rd1 {H:Hp}{r:Addr}{a b:Int}{l:List Int}(h:H r=some (.lst (iV (a::b::l)))):gIx (.ref r) (.int 1) H=some (.int b):=by rw [gIx_l h];exact at_nat (k:=1) rfl
theorem rd2 {H:Hp}{r:Addr}{a b c:Int}{l:List Int}(h:H r=some (.lst (iV (a::b::c::l)))):gIx (.ref r) (.int 2) H=some (.int c):=by rw [gIx_l h];exact at_nat (k:=2) rfl
theorem rd3 {H:Hp}{r:Addr}{a b c d:Int}{l:List Int}(h:H r=some (.lst (iV (a::b::c::d::l)))):gIx (.ref r) (.int 3) H=some (.int d):=by rw [gIx_l h];exact at_nat (k:=3) rfl
theorem rd4 {H:Hp}{r:Addr}{a b c d e:Int}{l:List Int}(h:H r=some (.lst (iV (a::b::c::d::e::l)))):gIx (.ref r) (.int 4) H=some (.int e):=by rw [gIx_l h];exact at_nat (k:=4) rfl
theorem and1 {a b:Bool}(h:(a && b)=true):a=true:=by cases a<;>simp_all
theorem and2 {a b:Bool}(h:(a && b)=true):b=true:=by cases a<;>simp_all
theorem iV_ints (ns:List Nat):iV (Vbecap.ints ns)=nV ns:=by unfold iV Vbecap.ints nV;rw [List.map_map];rfl
section
variable {P:Program} {w:World} {K:PySem.W.Frag} {mg:Str->Option Value} {base:Heap}
abbrev Act (P:Program)(w:World)(K:PySem.W.Frag)(mg:Str->Option Value)(base:Heap)(x:Str)(n:Nat):Prop:=Def P w K mg base x 38 ["herd","row"] (spAct n)
abbrev sTold:Stmt:=top 56
theorem scTold:FnScope ["herd","row"] ["herd","row"] (defScope sTold):=⟨rfl,rfl,rfl,by decide +kernel,rfl,by decide +kernel,by decide +kernel⟩
theorem ok_told (S:Src K mg "told" sTold ["herd","row"]) (D1:Def P w K mg base "counted" 1 ["places"] spCounted):Act P w K mg base "told" 2:=by
 refine def_ok S scTold (fun vs H Q E h=>?_) (fun f cdv A outer s H vs Q E hr h=>?_)
 ·obtain ⟨h,r,as,st,row,c,rfl,_⟩:=h;rfl
 ·obtain ⟨h,r,as,st,row,c,rfl,hd,hrow,is,inr,k⟩:=h
  obtain ⟨a,rfl,rfl⟩:=is
  obtain ⟨ad,vs,e1,had,hall,hlen,hmd,hvl,hix,est⟩:=hd.get (animal_iff inr)
  refine ⟨_,pss_one (ps_ret (pe_def D1 (hr.mono (by decide)) rfl (pq_cons (pp_ix (pp 0) (pp_ix (pp 1) pp_int)) pq_nil))),?_⟩
  refine ⟨[.ref ad],?_,.ref ad,seen st a,rfl,⟨ad,vs,rfl,had,hall⟩,Nat.le_trans hlen (by decide),fun H1 p hp s1 e=>k H1 p as (post_same hd s1) e hp⟩
  show fCons (fIx (fVar 0) (fIx (fVar 1) (fC (.int 0)))) fNil [some (.ref h),some (.ref r)] H=_
  simp only [fCons,fNil,f2,fVar,fC,gZ,gS,oJ,oB,rd0 hrow,hix]
abbrev sHull:Stmt:=top 61
theorem scHull:FnScope ["herd","row"] ["herd","row"] (defScope sHull):=⟨rfl,rfl,rfl,by decide +kernel,rfl,by decide +kernel,by decide +kernel⟩
theorem ok_hull (S:Src K mg "hull" sHull ["herd","row"]) (D1:Def P w K mg base "counted" 1 ["places"] spCounted) (D2:Def P w K mg base "corners_of" 3 ["sightings"] spCorners):Act P w K mg base "hull" 7:=by
 refine def_ok S scHull (fun vs H Q E h=>?_) (fun f cdv A outer s H vs Q E hr h=>?_)
 ·obtain ⟨h,r,as,st,row,c,rfl,_⟩:=h;rfl
 ·obtain ⟨h,r,as,st,row,c,rfl,hd,hrow,is,inr,k⟩:=h
  obtain ⟨a,rfl,rfl⟩:=is
  obtain ⟨ad,vs,e1,had,hall,hlen,hmd,hvl,hix,est⟩:=hd.get (animal_iff inr)
  refine ⟨_,pss_one (ps_ret (pe_def D1 (hr.mono (by decide)) rfl (pa_cons (pe_def D2 (hr.mono (by decide)) rfl (pq_cons (pp_ix (pp 0) (pp_ix (pp 1) pp_int)) pq_nil)) pa_nil))),?_⟩
  refine ⟨[.ref ad],?_,.ref ad,seen st a,rfl,⟨ad,vs,rfl,had,hall⟩,hmd,hlen,fun H1 u s1 hu=>?_⟩
  ·show fCons (fIx (fVar 0) (fIx (fVar 1) (fC (.int 0)))) fNil [some (.ref h),some (.ref r)] H=_
   simp only [fCons,fNil,f2,fVar,fC,gZ,gS,oJ,oB,rd0 hrow,hix]
  ·refine ⟨u,hull (seen st a),rfl,hu,?_,fun H2 p hp s2 e=>k H2 p as (post_same hd (s1.trans s2)) e (s1.free hp)⟩
   exact Nat.le_trans (G.hull_len _) (Nat.le_trans hlen (by decide))
abbrev sAreaC:Stmt:=top 62
theorem scAreaC:FnScope ["herd","row","corners"] ["herd","row"] (defScope sAreaC):=⟨rfl,rfl,rfl,by decide +kernel,rfl,by decide +kernel,by decide +kernel⟩
theorem ok_areaCall (S:Src K mg "area" sAreaC ["herd","row"]) (D2:Def P w K mg base "corners_of" 3 ["sightings"] spCorners) (D3:Def P w K mg base "twice_area" 2 ["corners"] spArea) (D4:Def P w K mg base "rim_count" 3 ["corners"] spRim) (D5:Def P w K mg base "inner_count" 4 ["corners"] spInner):Act P w K mg base "area" 8:=by
 refine def_ok S scAreaC (fun vs H Q E h=>?_) (fun f cdv A outer s H vs Q E hr h=>?_)
 ·obtain ⟨h,r,as,st,row,c,rfl,_⟩:=h;rfl
 ·obtain ⟨h,r,as,st,row,c,rfl,hd,hrow,is,inr,k⟩:=h
  obtain ⟨a,rfl,rfl⟩:=is
  obtain ⟨ad,vs,e1,had,hall,hlen,hmd,hvl,hix,est⟩:=hd.get (animal_iff inr)
  refine ⟨_,pss_cons (ps_set (i:=2) scAreaC.nd rfl (Or.inl rfl) (pe_def D2 (hr.mono (by decide)) rfl (pq_cons (pp_ix (pp 0) (pp_ix (pp 1) pp_int)) pq_nil)))
   (pss_one (ps_ret (pe_lst (pa_cons (pe_def D3 (hr.mono (by decide)) rfl (pq_cons (pp 2) pq_nil)) (pa_cons (pe_def D4 (hr.mono (by decide)) rfl (pq_cons (pp 2) pq_nil)) (pa_cons (pe_def D5 (hr.mono (by decide)) rfl (pq_cons (pp 2) pq_nil)) pa_nil)))))),?_⟩
  refine ⟨[.ref ad],?_,.ref ad,seen st a,rfl,⟨ad,vs,rfl,had,hall⟩,hmd,hlen,fun H1 u s1 hu=>?_⟩
  ·show fCons (fIx (fVar 0) (fIx (fVar 1) (fC (.int 0)))) fNil [some (.ref h),some (.ref r),none] H=_
   simp only [fCons,fNil,f2,fVar,fC,gZ,gS,oJ,oB,rd0 hrow,hix]
  ·have lh:(hull (seen st a)).length<=1000:=Nat.le_trans (G.hull_len _) (Nat.le_trans hlen (by decide))
   have sm:=(hull_md hmd).sm
   refine ⟨[u],rfl,u,hull (seen st a),rfl,hu,sm,lh,fun H2 s2=>⟨[u],rfl,u,hull (seen st a),rfl,hu.same tu_p s2,sm,lh,fun H3 s3=>⟨[u],rfl,u,hull (seen st a),rfl,hu.same tu_p (s2.trans s3),sm,lh,fun H4 s4=>⟨(by show 3<=sizeLine;decide),fun p hp=>?_⟩⟩⟩⟩
   have sA:=s1.trans (s2.trans (s3.trans s4))
   refine k _ p as (post_same hd (sA.trans (same_new hp))) ?_ (sA.free hp)
   rw [upd_same,G.areaC_ok,G.rimM_ok,G.innerM_ok];rfl
abbrev sWhere:Stmt:=top 63
theorem scWhere:FnScope ["herd","row"] ["herd","row"] (defScope sWhere):=⟨rfl,rfl,rfl,by decide +kernel,rfl,by decide +kernel,by decide +kernel⟩
theorem ok_where (S:Src K mg "where" sWhere ["herd","row"]) (D2:Def P w K mg base "corners_of" 3 ["sightings"] spCorners) (D3:Def P w K mg base "standing" 3 ["corners","place"] spStand):Act P w K mg base "where" 9:=by
 refine def_ok S scWhere (fun vs H Q E h=>?_) (fun f cdv A outer s H vs Q E hr h=>?_)
 ·obtain ⟨h,r,as,st,row,c,rfl,_⟩:=h;rfl
 ·obtain ⟨h,r,as,st,row,c,rfl,hd,hrow,is,inr,k⟩:=h
  obtain ⟨a,x,y,rfl,rfl⟩:=is
  have gxy:=grid_iff (and2 inr)
  obtain ⟨ad,vs,e1,had,hall,hlen,hmd,hvl,hix,est⟩:=hd.get (animal_iff (and1 inr))
  refine ⟨_,pss_one (ps_ret (pe_lst (pa_cons (pe_def D3 (hr.mono (by decide)) rfl (pa_cons (pe_def D2 (hr.mono (by decide)) rfl (pq_cons (pp_ix (pp 0) (pp_ix (pp 1) pp_int)) pq_nil)) (pa_cons (pe_tup (pq_cons (pp_ix (pp 1) pp_int) (pq_cons (pp_ix (pp 1) pp_int) pq_nil))) pa_nil))) pa_nil))),?_⟩
  refine ⟨[.ref ad],?_,.ref ad,seen st a,rfl,⟨ad,vs,rfl,had,hall⟩,hmd,hlen,fun H1 u s1 hu=>?_⟩
  ·show fCons (fIx (fVar 0) (fIx (fVar 1) (fC (.int 0)))) fNil [some (.ref h),some (.ref r)] H=_
   simp only [fCons,fNil,f2,fVar,fC,gZ,gS,oJ,oB,rd0 hrow,hix]
  ·have hrow1:=s1 _ _ hrow
   refine ⟨[.int x,.int y],?_,(by show 2<=sizeLine;decide),fun t ht=>?_⟩
   ·show fCons (fIx (fVar 1) (fC (.int 1))) (fCons (fIx (fVar 1) (fC (.int 2))) fNil) [some (.ref h),some (.ref r)] H1=_
    simp only [fCons,fNil,f2,fVar,fC,gZ,gS,oJ,oB,rd1 hrow1,rd2 hrow1]
   ·have st1:=same_new (o:=.tup [.int x,.int y]) ht
    refine ⟨u,.ref t,hull (seen st a),(x,y),rfl,hu.same tu_p st1,⟨t,rfl,upd_same⟩,(hull_md hmd).sm,md_sm gxy,Nat.le_trans (G.hull_len _) (Nat.le_trans hlen (by decide)),fun H2 s2=>⟨(by show 1<=sizeLine;decide),fun p hp=>?_⟩⟩
    have sA:=s1.trans (st1.trans s2)
    refine k _ p as (post_same hd (sA.trans (same_new hp))) ?_ (sA.free hp)
    rw [upd_same];rfl
abbrev sDepth:Stmt:=top 64
theorem scDepth:FnScope ["herd","row"] ["herd","row"] (defScope sDepth):=⟨rfl,rfl,rfl,by decide +kernel,rfl,by decide +kernel,by decide +kernel⟩
theorem ok_depthCall (S:Src K mg "depth" sDepth ["herd","row"]) (D3:Def P w K mg base "depth_of" 3 ["sightings","place"] spDepthOf):Act P w K mg base "depth" 10:=by
 refine def_ok S scDepth (fun vs H Q E h=>?_) (fun f cdv A outer s H vs Q E hr h=>?_)
 ·obtain ⟨h,r,as,st,row,c,rfl,_⟩:=h;rfl
 ·obtain ⟨h,r,as,st,row,c,rfl,hd,hrow,is,inr,k⟩:=h
  obtain ⟨a,x,y,rfl,rfl⟩:=is
  have gxy:=grid_iff (and2 inr)
  obtain ⟨ad,vs,e1,had,hall,hlen,hmd,hvl,hix,est⟩:=hd.get (animal_iff (and1 inr))
  refine ⟨_,pss_one (ps_ret (pe_lst (pa_cons (pe_def D3 (hr.mono (by decide)) rfl (pa_cons (pp_ix (pp 0) (pp_ix (pp 1) pp_int)) (pa_cons (pe_tup (pq_cons (pp_ix (pp 1) pp_int) (pq_cons (pp_ix (pp 1) pp_int) pq_nil))) pa_nil))) pa_nil))),?_⟩
  refine ⟨.ref ad,?_,[.int x,.int y],?_,(by show 2<=sizeLine;decide),fun t ht=>?_⟩
  ·show fIx (fVar 0) (fIx (fVar 1) (fC (.int 0))) [some (.ref h),some (.ref r)] H=_
   simp only [f2,fVar,fC,gZ,gS,oJ,oB,rd0 hrow,hix]
  ·show fCons (fIx (fVar 1) (fC (.int 1))) (fCons (fIx (fVar 1) (fC (.int 2))) fNil) [some (.ref h),some (.ref r)] H=_
   simp only [fCons,fNil,f2,fVar,fC,gZ,gS,oJ,oB,rd1 hrow,rd2 hrow]
  ·have st1:=same_new (o:=.tup [.int x,.int y]) ht
   have hL:Ls Rp H (.ref ad) (seen st a):=⟨ad,vs,rfl,had,hall⟩
   refine ⟨.ref ad,.ref t,seen st a,(x,y),rfl,hL.same tu_p st1,⟨t,rfl,upd_same⟩,hmd,gxy,Nat.le_trans hlen (by decide),fun H2 s2=>⟨(by show 1<=sizeLine;decide),fun p hp=>?_⟩⟩
   have sA:=st1.trans s2
   refine k _ p as (post_same hd (sA.trans (same_new hp))) ?_ (sA.free hp)
   rw [upd_same,<- G.depth_ok];rfl
abbrev sLayers:Stmt:=top 65
theorem scLayers:FnScope ["herd","row","found"] ["herd","row"] (defScope sLayers):=⟨rfl,rfl,rfl,by decide +kernel,rfl,by decide +kernel,by decide +kernel⟩
theorem layers_len0 (l:List P2):∀ (n t:Nat) (r left found:List Nat),left.length<=n->G.LInv l t r left found->(layers l).length=l.length:=by
 intro n
 induction n with
 | zero =>
  intro t r left found h I
  have:=List.length_eq_zero_iff.mp (Nat.le_zero.mp h)
  subst this
  rw [<- G.linv_end I];exact I.fl
 | succ n ih =>
  intro t r left found h I
  by_cases e:left=[]
  ·subst e;rw [<- G.linv_end I];exact I.fl
  ·obtain ⟨r',I',hlt⟩:=G.linv_step I e
   exact ih _ _ _ _ (by omega) I'
theorem layers_len (l:List P2):(layers l).length=l.length:=layers_len0 l _ _ _ _ _ (Nat.le_refl _) (G.linv_start l)
theorem ok_layersCall (B:Blt mg)(S:Src K mg "layers" sLayers ["herd","row"]) (D3:Def P w K mg base "layers_of" 4 ["sightings"] spLayersOf):Act P w K mg base "layers" 11:=by
 refine def_ok S scLayers (fun vs H Q E h=>?_) (fun f cdv A outer s H vs Q E hr h=>?_)
 ·obtain ⟨h,r,as,st,row,c,rfl,_⟩:=h;rfl
 ·obtain ⟨h,r,as,st,row,c,rfl,hd,hrow,is,inr,k⟩:=h
  obtain ⟨a,rfl,rfl⟩:=is
  obtain ⟨ad,vs,e1,had,hall,hlen,hmd,hvl,hix,est⟩:=hd.get (animal_iff inr)
  refine ⟨_,pss_cons (ps_set (i:=2) scLayers.nd rfl (Or.inl rfl) (pe_def D3 (hr.mono (by decide)) rfl (pq_cons (pp_ix (pp 0) (pp_ix (pp 1) pp_int)) pq_nil)))
   (pss_one (ps_ret (pe_op op_cat (pe_lst (pq_cons (pp_callB call_len_seq gLen_ok rfl B.len boot_lenH (pq_cons (pp 2) pq_nil)) pq_nil)) (pp 2)))),?_⟩
  refine ⟨[.ref ad],?_,.ref ad,seen st a,rfl,⟨ad,vs,rfl,had,hall⟩,hmd,hlen,fun H1 p1 s1 hp1=>?_⟩
  ·show fCons (fIx (fVar 0) (fIx (fVar 1) (fC (.int 0)))) fNil [some (.ref h),some (.ref r),none] H=_
   simp only [fCons,fNil,f2,fVar,fC,gZ,gS,oJ,oB,rd0 hrow,hix]
  ·have ll:(nV (layers (seen st a))).length=(seen st a).length:=by unfold nV;rw [List.length_map,layers_len]
   refine ⟨[.int (nV (layers (seen st a))).length],?_,(by show 1<=sizeLine;decide),fun q hq=>?_⟩
   ·show fCons (fCall gLen (fCons (fVar 2) fNil)) fNil [some (.ref h),some (.ref r),some (.ref p1)] H1=_
    simp only [fCall,fCons,fNil,fVar,gZ,gS,oJ,oB,gLen_l hp1]
   ·have s2:=same_new (o:=.lst [.int (nV (layers (seen st a))).length]) hq
    refine ⟨.ref p1,rfl,q,p1,_,_,rfl,rfl,upd_same,s2 _ _ hp1,?_,fun p hp=>?_⟩
    ·rw [ll]
     have:[V.int ((nV (layers (seen st a))).length:Nat)].length+(seen st a).length<=10:=by simp;omega
     exact Nat.le_trans (by simpa using this) (by decide)
    ·have sA:=s1.trans s2
     refine k _ p as (post_same hd (sA.trans (same_new hp))) ?_ (sA.free hp)
     rw [upd_same,ll]
     show some (HO.lst ([V.int ((seen st a).length:Nat)]++nV (layers (seen st a))))=some (.lst (iV (((seen st a).length:Int)::Vbecap.ints (layers (seen st a)))))
     rw [<- iV_ints];rfl
end
section
variable {P:Program} {w:World} {K:PySem.W.Frag} {mg:Str->Option Value} {base:Heap}
abbrev sLeast:Stmt:=top 66
theorem scLeast:FnScope ["herd","row","sightings"] ["herd","row"] (defScope sLeast):=⟨rfl,rfl,rfl,by decide +kernel,rfl,by decide +kernel,by decide +kernel⟩
theorem within_iff {n lo hi:Int}(h:within n lo hi=true):lo<=n/\n<=hi:=by unfold Vbecap.within at h;simpa using h
theorem ok_leastCall (B:Blt mg)(C:Cons mg)(S:Src K mg "least" sLeast ["herd","row"]) (D1:Def P w K mg base "least_without" 5 ["sightings","size"] spLeastW):Act P w K mg base "least" 12:=by
 refine def_ok S scLeast (fun vs H Q E h=>?_) (fun f cdv A outer s H vs Q E hr h=>?_)
 ·obtain ⟨h,r,as,st,row,c,rfl,_⟩:=h;rfl
 ·obtain ⟨h,r,as,st,row,c,rfl,hd,hrow,is,inr,k⟩:=h
  obtain ⟨a,kk,rfl,rfl⟩:=is
  have hk:=within_iff (and2 inr)
  obtain ⟨ad,vs,e1,had,hall,hlen,hmd,hvl,hix,est⟩:=hd.get (animal_iff (and1 inr))
  have ekk:kk=((kk.toNat:Nat):Int):=by omega
  refine ⟨_,pss_cons (ps_set (i:=2) scLeast.nd rfl (Or.inl rfl) (pp_ix (pp 0) (pp_ix (pp 1) pp_int)))
   (pss_cons (ps_if (pt_lt (pp_callB call_len_seq gLen_ok rfl B.len boot_lenH (pq_cons (pp 2) pq_nil)) (pp_ix (pp 1) pp_int)) (pss_one (ps_ret (pe_lst (pq_cons (pp_con C.few rfl) pq_nil)))) pss_nil)
   (pss_one (ps_ret (pe_def D1 (hr.mono (by decide)) rfl (pq_cons (pp 2) (pq_cons (pp_ix (pp 1) pp_int) pq_nil)))))),?_⟩
  refine ⟨.ref ad,?_,decide ((vs.length:Int) < kk),?_,ite_bl (fun c=>?_) (fun c=>?_)⟩
  ·show fIx (fVar 0) (fIx (fVar 1) (fC (.int 0))) [some (.ref h),some (.ref r),none] H=_
   simp only [f2,fVar,fC,gZ,gS,oJ,oB,rd0 hrow,hix]
  ·show f2 _ (fCall gLen _) _ [some (.ref h),some (.ref r),some (.ref ad)] H=_
   simp only [fCall,fCons,fNil,f2,fVar,fC,gZ,gS,oJ,oB,gLen_l had,rd1 hrow,gI]
  ·have c:=of_decide_eq_true c
   refine ⟨[.int (-5)],rfl,(by show 1<=sizeLine;decide),fun p hp=>?_⟩
   have ea:act st (.least a kk)=(st,[-5]):=by
    show (if (seen st a).length < kk.toNat then _ else _)=_
    rw [if_pos (by omega)]
   rw [ea] at k
   exact k _ p as (post_same hd (same_new hp)) (by rw [upd_same];rfl) hp
  ·have c:=of_decide_eq_false c
   have ea:act st (.least a kk)=(st,(least (seen st a) kk.toNat).1::Vbecap.ints (least (seen st a) kk.toNat).2):=by
    show (if (seen st a).length < kk.toNat then _ else _)=_
    rw [if_neg (by omega)]
   rw [ea] at k
   refine ⟨[.ref ad,.int kk],?_,.ref ad,kk.toNat,seen st a,by rw [<- ekk];rfl,⟨ad,vs,rfl,had,hall⟩,hmd,hlen,by omega,by omega,fun H1 p hp s1 e=>k H1 p as (post_same hd s1) ?_ hp⟩
   ·show fCons (fVar 2) (fCons (fIx (fVar 1) (fC (.int 1))) fNil) [some (.ref h),some (.ref r),some (.ref ad)] H=_
    simp only [fCons,fNil,f2,fVar,fC,gZ,gS,oJ,oB,rd1 hrow]
   ·rw [e]
    show _=some (HO.lst (V.int _::iV (Vbecap.ints _)))
    rw [iV_ints]
abbrev sWidest:Stmt:=top 68
theorem scWidest:FnScope ["herd","row","sightings"] ["herd","row"] (defScope sWidest):=⟨rfl,rfl,rfl,by decide +kernel,rfl,by decide +kernel,by decide +kernel⟩
theorem ok_widestCall (B:Blt mg)(C:Cons mg)(S:Src K mg "widest" sWidest ["herd","row"]) (D1:Def P w K mg base "widest_pair" 3 ["sightings"] spWidestP):Act P w K mg base "widest" 14:=by
 refine def_ok S scWidest (fun vs H Q E h=>?_) (fun f cdv A outer s H vs Q E hr h=>?_)
 ·obtain ⟨h,r,as,st,row,c,rfl,_⟩:=h;rfl
 ·obtain ⟨h,r,as,st,row,c,rfl,hd,hrow,is,inr,k⟩:=h
  obtain ⟨a,rfl,rfl⟩:=is
  obtain ⟨ad,vs,e1,had,hall,hlen,hmd,hvl,hix,est⟩:=hd.get (animal_iff inr)
  refine ⟨_,pss_cons (ps_set (i:=2) scWidest.nd rfl (Or.inl rfl) (pp_ix (pp 0) (pp_ix (pp 1) pp_int)))
   (pss_cons (ps_if (pt_lt (pp_callB call_len_seq gLen_ok rfl B.len boot_lenH (pq_cons (pp 2) pq_nil)) pp_int) (pss_one (ps_ret (pe_lst (pq_cons (pp_con C.few rfl) pq_nil)))) pss_nil)
   (pss_one (ps_ret (pe_def D1 (hr.mono (by decide)) rfl (pq_cons (pp 2) pq_nil))))),?_⟩
  refine ⟨.ref ad,?_,decide ((vs.length:Int) < 2),?_,ite_bl (fun c=>?_) (fun c=>?_)⟩
  ·show fIx (fVar 0) (fIx (fVar 1) (fC (.int 0))) [some (.ref h),some (.ref r),none] H=_
   simp only [f2,fVar,fC,gZ,gS,oJ,oB,rd0 hrow,hix]
  ·show f2 _ (fCall gLen _) _ [some (.ref h),some (.ref r),some (.ref ad)] H=_
   simp only [fCall,fCons,fNil,f2,fVar,fC,gZ,gS,oJ,oB,gLen_l had,gI]
  ·have c:=of_decide_eq_true c
   refine ⟨[.int (-5)],rfl,(by show 1<=sizeLine;decide),fun p hp=>?_⟩
   have ea:act st (.widest a)=(st,[-5]):=by
    show (if (seen st a).length < 2 then _ else _)=_
    rw [if_pos (by omega)]
   rw [ea] at k
   exact k _ p as (post_same hd (same_new hp)) (by rw [upd_same];rfl) hp
  ·have c:=of_decide_eq_false c
   have ea:act st (.widest a)=(st,[(widestOf (seen st a)).1,((widestOf (seen st a)).2.1:Int),((widestOf (seen st a)).2.2:Int)]):=by
    show (if (seen st a).length < 2 then _ else _)=_
    rw [if_neg (by omega)]
   rw [ea] at k
   exact ⟨[.ref ad],rfl,.ref ad,seen st a,rfl,⟨ad,vs,rfl,had,hall⟩,hmd,hlen,by omega,fun H1 p hp s1 e=>k H1 p as (post_same hd s1) e hp⟩
abbrev sOverlap:Stmt:=top 71
theorem scOverlap:FnScope ["herd","row"] ["herd","row"] (defScope sOverlap):=⟨rfl,rfl,rfl,by decide +kernel,rfl,by decide +kernel,by decide +kernel⟩
theorem ok_overlapCall (B:Blt mg)(S:Src K mg "overlap" sOverlap ["herd","row"]) (D1:Def P w K mg base "corners_of" 3 ["sightings"] spCorners) (D2:Def P w K mg base "twice_common_area" 37 ["corners","others"] spCommon):Act P w K mg base "overlap" 17:=by
 refine def_ok S scOverlap (fun vs H Q E h=>?_) (fun f cdv A outer s H vs Q E hr h=>?_)
 ·obtain ⟨h,r,as,st,row,c,rfl,_⟩:=h;rfl
 ·obtain ⟨h,r,as,st,row,c,rfl,hd,hrow,is,inr,k⟩:=h
  obtain ⟨a,b,rfl,rfl⟩:=is
  obtain ⟨ad,vs,e1,had,hall,hlen,hmd,hvl,hix,est⟩:=hd.get (animal_iff (and1 inr))
  obtain ⟨bd,us,e2,hbd,hallb,hlenb,hmdb,hulb,hixb,estb⟩:=hd.get (animal_iff (and2 inr))
  refine ⟨_,pss_one (ps_ret (pe_callTy call_list_of rfl B.list boot_list (pa_cons (pe_def D2 hr rfl (pa_cons (pe_def D1 (hr.mono (by decide)) rfl (pq_cons (pp_ix (pp 0) (pp_ix (pp 1) pp_int)) pq_nil)) (pa_cons (pe_def D1 (hr.mono (by decide)) rfl (pq_cons (pp_ix (pp 0) (pp_ix (pp 1) pp_int)) pq_nil)) pa_nil))) pa_nil))),?_⟩
  refine ⟨[.ref ad],?_,.ref ad,seen st a,rfl,⟨ad,vs,rfl,had,hall⟩,hmd,hlen,fun H1 u s1 hu=>?_⟩
  ·show fCons (fIx (fVar 0) (fIx (fVar 1) (fC (.int 0)))) fNil [some (.ref h),some (.ref r)] H=_
   simp only [fCons,fNil,f2,fVar,fC,gZ,gS,oJ,oB,rd0 hrow,hix]
  have hrow1:=s1 _ _ hrow
  have hix1:gIx (.ref h) (.int b) H1=some (.ref bd):=by
   obtain ⟨bd',_,q1,_,_,_,_,_,q2,_⟩:=(hd.same s1).get (animal_iff (and2 inr))
   rw [e2] at q1;cases q1;exact q2
  refine ⟨[.ref bd],?_,.ref bd,seen st b,rfl,⟨bd,us,rfl,s1 _ _ hbd,hallb.imp fun _ _ z=>z.to (same_tup s1)⟩,hmdb,hlenb,fun H2 u2 s2 hu2=>?_⟩
  ·show fCons (fIx (fVar 0) (fIx (fVar 1) (fC (.int 1)))) fNil [some (.ref h),some (.ref r)] H1=_
   simp only [fCons,fNil,f2,fVar,fC,gZ,gS,oJ,oB,rd1 hrow1,hix1]
  refine ⟨u,u2,hull (seen st a),hull (seen st b),rfl,hu.same tu_p s2,hu2,hull_md hmd,hull_md hmdb,Nat.le_trans (G.hull_len _) hlen,Nat.le_trans (G.hull_len _) hlenb,fun H3 z s3 hz=>?_⟩
  obtain ⟨t,rfl,ht⟩:=hz
  refine ⟨t,_,rfl,.inr (.of ht),fun p hp=>?_⟩
  have sA:=s1.trans (s2.trans s3)
  refine k _ p as (post_same hd (sA.trans (same_new hp))) ?_ (sA.free hp)
  rw [upd_same,G.overlap_ok];rfl
abbrev sMeet:Stmt:=top 72
theorem scMeet:FnScope ["herd","row","both"] ["herd","row"] (defScope sMeet):=⟨rfl,rfl,rfl,by decide +kernel,rfl,by decide +kernel,by decide +kernel⟩
theorem ok_meetCall (S:Src K mg "meet" sMeet ["herd","row"]) (D1:Def P w K mg base "corners_of" 3 ["sightings"] spCorners) (D2:Def P w K mg base "meeting" 5 ["corners","others"] spMeeting):Act P w K mg base "meet" 18:=by
 refine def_ok S scMeet (fun vs H Q E h=>?_) (fun f cdv A outer s H vs Q E hr h=>?_)
 ·obtain ⟨h,r,as,st,row,c,rfl,_⟩:=h;rfl
 ·obtain ⟨h,r,as,st,row,c,rfl,hd,hrow,is,inr,k⟩:=h
  obtain ⟨a,b,rfl,rfl⟩:=is
  obtain ⟨ad,vs,e1,had,hall,hlen,hmd,hvl,hix,est⟩:=hd.get (animal_iff (and1 inr))
  obtain ⟨bd,us,e2,hbd,hallb,hlenb,hmdb,hulb,hixb,estb⟩:=hd.get (animal_iff (and2 inr))
  refine ⟨_,pss_cons (ps_set (i:=2) scMeet.nd rfl (Or.inl rfl) (pe_def D2 (hr.mono (by decide)) rfl (pa_cons (pe_def D1 (hr.mono (by decide)) rfl (pq_cons (pp_ix (pp 0) (pp_ix (pp 1) pp_int)) pq_nil)) (pa_cons (pe_def D1 (hr.mono (by decide)) rfl (pq_cons (pp_ix (pp 0) (pp_ix (pp 1) pp_int)) pq_nil)) pa_nil))))
   (pss_one (ps_ret (pe_lst (pa_cons (pe_ifExp (pt_pure (pp 2)) pp_int pp_int) pa_nil)))),?_⟩
  refine ⟨[.ref ad],?_,.ref ad,seen st a,rfl,⟨ad,vs,rfl,had,hall⟩,hmd,hlen,fun H1 u s1 hu=>?_⟩
  ·show fCons (fIx (fVar 0) (fIx (fVar 1) (fC (.int 0)))) fNil [some (.ref h),some (.ref r),none] H=_
   simp only [fCons,fNil,f2,fVar,fC,gZ,gS,oJ,oB,rd0 hrow,hix]
  have hrow1:=s1 _ _ hrow
  have hix1:gIx (.ref h) (.int b) H1=some (.ref bd):=by
   obtain ⟨bd',_,q1,_,_,_,_,_,q2,_⟩:=(hd.same s1).get (animal_iff (and2 inr))
   rw [e2] at q1;cases q1;exact q2
  refine ⟨[.ref bd],?_,.ref bd,seen st b,rfl,⟨bd,us,rfl,s1 _ _ hbd,hallb.imp fun _ _ z=>z.to (same_tup s1)⟩,hmdb,hlenb,fun H2 u2 s2 hu2=>?_⟩
  ·show fCons (fIx (fVar 0) (fIx (fVar 1) (fC (.int 1)))) fNil [some (.ref h),some (.ref r),none] H1=_
   simp only [fCons,fNil,f2,fVar,fC,gZ,gS,oJ,oB,rd1 hrow1,hix1]
  refine ⟨u,u2,hull (seen st a),hull (seen st b),rfl,hu.same tu_p s2,hu2,hull_md hmd,hull_md hmdb,Nat.le_trans (G.hull_len _) (Nat.le_trans hlen (by decide)),Nat.le_trans (G.hull_len _) (Nat.le_trans hlenb (by decide)),fun H3 s3=>?_⟩
  rw [G.meet_ok]
  refine ⟨Vbecap.meet (seen st a) (seen st b),rfl,tif_val (.int (if Vbecap.meet (seen st a) (seen st b)=true then 1 else 0)) (fun z=>by rw [if_pos z];rfl) (fun z=>by rw [if_neg (by rw [z];decide)];rfl) ⟨(by show 1<=sizeLine;decide),fun p hp=>?_⟩⟩
  have sA:=s1.trans (s2.trans s3)
  refine k _ p as (post_same hd (sA.trans (same_new hp))) ?_ (sA.free hp)
  rw [upd_same];rfl
abbrev sGap:Stmt:=top 73
theorem scGap:FnScope ["herd","row","corners","others"] ["herd","row"] (defScope sGap):=⟨rfl,rfl,rfl,by decide +kernel,rfl,by decide +kernel,by decide +kernel⟩
theorem hull_zero {l:List P2}:(hull l).length=0↔l=[]:=by
 constructor
 ·intro h
  by_cases q:l=[]
  ·exact q
  ·exfalso
   have e:=List.length_eq_zero_iff.mp h
   exact (G.hull_hf q).ne e
 ·intro h;subst h;rw [G.hull_nil];rfl
theorem ok_gapCall (B:Blt mg)(C:Cons mg)(S:Src K mg "gap" sGap ["herd","row"]) (D1:Def P w K mg base "corners_of" 3 ["sightings"] spCorners) (D2:Def P w K mg base "gap_square" 35 ["corners","others"] spGapSq):Act P w K mg base "gap" 19:=by
 refine def_ok S scGap (fun vs H Q E h=>?_) (fun f cdv A outer s H vs Q E hr h=>?_)
 ·obtain ⟨h,r,as,st,row,c,rfl,_⟩:=h;rfl
 ·obtain ⟨h,r,as,st,row,c,rfl,hd,hrow,is,inr,k⟩:=h
  obtain ⟨a,b,rfl,rfl⟩:=is
  obtain ⟨ad,vs,e1,had,hall,hlen,hmd,hvl,hix,est⟩:=hd.get (animal_iff (and1 inr))
  obtain ⟨bd,us,e2,hbd,hallb,hlenb,hmdb,hulb,hixb,estb⟩:=hd.get (animal_iff (and2 inr))
  refine ⟨_,pss_cons (ps_set (i:=2) scGap.nd rfl (Or.inl rfl) (pe_def D1 (hr.mono (by decide)) rfl (pq_cons (pp_ix (pp 0) (pp_ix (pp 1) pp_int)) pq_nil)))
   (pss_cons (ps_set (i:=3) scGap.nd rfl (Or.inl rfl) (pe_def D1 (hr.mono (by decide)) rfl (pq_cons (pp_ix (pp 0) (pp_ix (pp 1) pp_int)) pq_nil)))
   (pss_cons (ps_if (PW.pt (pw_or (pt_eq (pp_callB call_len_seq gLen_ok rfl B.len boot_lenH (pq_cons (pp 2) pq_nil)) pp_int) (pw_or1 (pt_eq (pp_callB call_len_seq gLen_ok rfl B.len boot_lenH (pq_cons (pp 3) pq_nil)) pp_int)))) (pss_one (ps_ret (pe_lst (pq_cons (pp_con C.few rfl) pq_nil)))) pss_nil)
   (pss_one (ps_ret (pe_callTy call_list_of rfl B.list boot_list (pa_cons (pe_def D2 (hr.mono (by decide)) rfl (pq_cons (pp 2) (pq_cons (pp 3) pq_nil))) pa_nil)))))),?_⟩
  refine ⟨[.ref ad],?_,.ref ad,seen st a,rfl,⟨ad,vs,rfl,had,hall⟩,hmd,hlen,fun H1 u s1 hu=>?_⟩
  ·show fCons (fIx (fVar 0) (fIx (fVar 1) (fC (.int 0)))) fNil [some (.ref h),some (.ref r),none,none] H=_
   simp only [fCons,fNil,f2,fVar,fC,gZ,gS,oJ,oB,rd0 hrow,hix]
  have hrow1:=s1 _ _ hrow
  have hix1:gIx (.ref h) (.int b) H1=some (.ref bd):=by
   obtain ⟨bd',_,q1,_,_,_,_,_,q2,_⟩:=(hd.same s1).get (animal_iff (and2 inr))
   rw [e2] at q1;cases q1;exact q2
  refine ⟨[.ref bd],?_,.ref bd,seen st b,rfl,⟨bd,us,rfl,s1 _ _ hbd,hallb.imp fun _ _ z=>z.to (same_tup s1)⟩,hmdb,hlenb,fun H2 u2 s2 hu2=>?_⟩
  ·show fCons (fIx (fVar 0) (fIx (fVar 1) (fC (.int 1)))) fNil [some (.ref h),some (.ref r),some u,none] H1=_
   simp only [fCons,fNil,f2,fVar,fC,gZ,gS,oJ,oB,rd1 hrow1,hix1]
  have hu':=hu.same tu_p s2
  obtain ⟨la,l1,rfl,hla,al1⟩:=id hu'
  obtain ⟨lb,l2,rfl,hlb,al2⟩:=id hu2
  have ll1:=al1.length
  have ll2:=al2.length
  have s12:=s1.trans s2
  have out:((seen st a).isEmpty || (seen st b).isEmpty)=true->tRet (tLst (tPA (fCons (fC (.int (-5))) fNil))) {nx:=fun _ H'=>Q .non H',rt:=Q} [some (.ref h),some (.ref r),some (.ref la),some (.ref lb)] H2:=fun c=>by
   refine ⟨[.int (-5)],rfl,(by show 1<=sizeLine;decide),fun p hp=>?_⟩
   have ea:act st (.gap a b)=(st,[-5]):=by
    show (if ((seen st a).isEmpty || (seen st b).isEmpty)=true then _ else _)=_
    rw [if_pos c]
   rw [ea] at k
   exact k _ p as (post_same hd (s12.trans (same_new hp))) (by rw [upd_same];rfl) (s12.free hp)
  refine ⟨decide ((l1.length:Int)=0),?_,ite_bl (fun c=>?_) (fun c=>?_)⟩
  ·show f2 _ (fCall gLen _) _ [some (.ref h),some (.ref r),some (.ref la),some (.ref lb)] H2=_
   simp only [fCall,fCons,fNil,f2,fVar,fC,gZ,gS,oJ,oB,gLen_l hla,gI]
  ·have c:=of_decide_eq_true c
   refine (if_pos rfl).mpr (out ?_)
   have:seen st a=[]:=hull_zero.mp (by omega)
   rw [this];rfl
  ·have c:=of_decide_eq_false c
   refine ⟨decide ((l2.length:Int)=0),?_,ite_bl (fun c2=>?_) (fun c2=>?_)⟩
   ·show f2 _ (fCall gLen _) _ [some (.ref h),some (.ref r),some (.ref la),some (.ref lb)] H2=_
    simp only [fCall,fCons,fNil,f2,fVar,fC,gZ,gS,oJ,oB,gLen_l hlb,gI]
   ·have c2:=of_decide_eq_true c2
    refine out ?_
    have:seen st b=[]:=hull_zero.mp (by omega)
    rw [this,Bool.or_comm];rfl
   ·have c2:=of_decide_eq_false c2
    have n1:seen st a≠[]:=fun q=>by have:=hull_zero.mpr q;omega
    have n2:seen st b≠[]:=fun q=>by have:=hull_zero.mpr q;omega
    refine ⟨[.ref la,.ref lb],rfl,.ref la,.ref lb,hull (seen st a),hull (seen st b),rfl,hu',hu2,hull_md hmd,hull_md hmdb,Nat.le_trans (G.hull_len _) (Nat.le_trans hlen (by decide)),Nat.le_trans (G.hull_len _) (Nat.le_trans hlenb (by decide)),fun q=>n1 (hull_zero.mp (by rw [q];rfl)),fun q=>n2 (hull_zero.mp (by rw [q];rfl)),fun H3 z s3 hz=>?_⟩
    obtain ⟨t,rfl,ht⟩:=hz
    refine ⟨t,_,rfl,.inr (.of ht),fun p hp=>?_⟩
    have ea:act st (.gap a b)=(st,Vbecap.shown (Vbecap.gap (seen st a) (seen st b))):=by
     show (if ((seen st a).isEmpty || (seen st b).isEmpty)=true then _ else _)=_
     rw [if_neg (by simp [List.isEmpty_iff,n1,n2])]
    rw [ea] at k
    have sA:=s12.trans s3
    refine k _ p as (post_same hd (sA.trans (same_new hp))) ?_ (sA.free hp)
    rw [upd_same,G.gap_ok n1 n2];rfl
end
theorem mt_countL {X:Cx}:MtR X "list.count" (fun x xs H Q=>∃ (a:Addr) (ns:List Int) (k:Int),x=.ref a/\xs=[.int k]/\SqL X.K H a (ns.map V.int)/\Q (.int (ns.count k:Nat)) H):=by
 intro pins s σ H x xs v us Q I rx rxs h
 obtain ⟨a,ns,k,rfl,rfl,hs,q⟩:=h
 cases rx
 obtain ⟨u,rfl,t,rfl⟩:=vals1 rxs
 obtain ⟨its,rv,hl,_⟩:=I.list hs
 exact count_list_ints hl.isList rv.ints ⟨.int _,H,I.kept fun b u e=>e,⟨_,rfl⟩,q⟩
theorem foldmax_le (l:List Int):∀ v:Int,v<=l.foldl max v/\(∀ y∈l,y<=l.foldl max v)/\(l.foldl max v=v\/l.foldl max v∈l):=by
 induction l with
 | nil=>intro v;exact ⟨Int.le_refl _,fun y hy=>by simp at hy,.inl rfl⟩
 | cons a l ih =>
  intro v
  obtain ⟨h1,h2,h3⟩:=ih (max v a)
  rw [List.foldl_cons]
  refine ⟨by omega,fun y hy=>?_,?_⟩
  ·rcases List.mem_cons.mp hy with rfl | hy
   ·omega
   ·exact h2 y hy
  ·rcases h3 with h3 | h3
   ·rw [h3]
    rcases Int.le_total v a with z | z
    ·right;rw [Int.max_eq_right z];exact List.mem_cons_self
    ·left;exact Int.max_eq_left z
   ·right;exact List.mem_cons_of_mem _ h3
theorem max_is {v m:Int}{l:List Int}(hm:m∈v::l)(hmax:∀ y∈v::l,y<=m):l.foldl max v=m:=by
 obtain ⟨h1,h2,h3⟩:=foldmax_le l v
 have a:l.foldl max v<=m:=by
  rcases h3 with h3 | h3
  ·rw [h3];exact hmax v List.mem_cons_self
  ·exact hmax _ (List.mem_cons_of_mem _ h3)
 have b:m<=l.foldl max v:=by
  rcases List.mem_cons.mp hm with rfl | hm
  ·exact h1
  ·exact h2 m hm
 omega
theorem find_is {ys:List Int}{m:Int}{j:Nat}(hj:ys[j]?=some m)(hf:∀ (i:Nat) z,i < j->ys[i]?=some z->z≠m):ys.findIdx (fun w=>w == m)=j:=by
 obtain ⟨hl,e⟩:=List.getElem?_eq_some_iff.mp hj
 rw [List.findIdx_eq hl]
 refine ⟨by rw [e];simp,fun i hi=>?_⟩
 have:=hf i ys[i] hi (List.getElem?_eq_getElem (by omega))
 simpa using this
section
variable {P:Program} {w:World} {K:PySem.W.Frag} {mg:Str->Option Value} {base:Heap}
abbrev sExtent:Stmt:=top 67
theorem scExtent:FnScope ["herd","row","reaches","greatest","place"] ["herd","row"] (defScope sExtent):=⟨rfl,rfl,rfl,by decide +kernel,rfl,by decide +kernel,by decide +kernel⟩
theorem ok_extentCall (B:Blt mg)(C:Cons mg)(S:Src K mg "extent" sExtent ["herd","row"]):Act P w K mg base "extent" 13:=by
 refine def_ok S scExtent (fun vs H Q E h=>?_) (fun f cdv A outer s H vs Q E hr h=>?_)
 ·obtain ⟨h,r,as,st,row,c,rfl,_⟩:=h;rfl
 ·obtain ⟨h,r,as,st,row,c,rfl,hd,hrow,is,inr,k⟩:=h
  obtain ⟨a,x,y,rfl,rfl⟩:=is
  have gxy:=grid_iff (and2 inr)
  rw [mdP_iff] at gxy
  obtain ⟨ad,vs,e1,had,hall,hlen,hmd,hvl,hix,est⟩:=hd.get (animal_iff (and1 inr))
  refine ⟨_,pss_cons (ps_setLc (i:=2) (own:=[("place",4)]) rfl scExtent.nd rfl rfl (sw_true rfl rfl rfl rfl) (pi_list (pp_ix (pp 0) (pp_ix (pp 1) pp_int))) (blkOk_by (by show blkC ["herd","row","reaches","greatest","place"] (defScope sExtent) _ _=true;decide +kernel))
    (fun _ _ _ _ _=>pg_name (i:=4) scExtent.nd rfl (Or.inl rfl)) (fun _ _ _ _ _=>pts_nil) (fun _ _ _ _ _=>pp_add (pp_mul (pp_ix (pp 1) pp_int) (pp_ix (pp 4) pp_int)) (pp_mul (pp_ix (pp 1) pp_int) (pp_ix (pp 4) pp_int))))
   (pss_cons (ps_if (pt_eq (pp_callB call_len_seq gLen_ok rfl B.len boot_lenH (pq_cons (pp 2) pq_nil)) pp_int) (pss_one (ps_ret (pe_lst (pq_cons (pp_con C.few rfl) pq_nil)))) pss_nil)
   (pss_cons (ps_set (i:=3) scExtent.nd rfl (Or.inl rfl) (pe_callB (cr_max rfl) rfl B.max boot_max (pq_cons (pp 2) pq_nil)))
   (pss_one (ps_ret (pe_lst (pa_cons pp_int (pa_cons (pp 3) (pa_cons (pe_bm PySem.F.plainAttrs_list PySem.F.slot_list_index PySem.F.type_list_index mt_index (pp 2) (pq_cons (pp 3) pq_nil)) pa_nil)))))))),?_⟩
  refine ⟨.ref ad,?_,ad,rfl,⟨vs,.of had⟩,fun D hD=>?_⟩
  ·show fIx (fVar 0) (fIx (fVar 1) (fC (.int 0))) [some (.ref h),some (.ref r),none,none,none] H=_
   simp only [f2,fVar,fC,gZ,gS,oJ,oB,rd0 hrow,hix]
  refine lc_map (R':=Ri) tu_i hD (.of had) ((seen st a).map fun p=>Vbecap.dot p (x,y)) (by rw [List.length_map,hvl]) (by omega) (fun x=>rfl) (fun i v z H2 hv hz s2 Q2 hQ2=>?_) (fun H2 ws s2 h2 a2=>?_)
  ·obtain ⟨p,hp,b,rfl,hb⟩:=hall.get' hv
   rw [List.getElem?_map,hp] at hz
   cases hz
   have hrow2:=s2 _ _ hrow
   have hb2:=s2 _ _ hb
   have e0:gIx (.ref b) (.int 0) H2=some (.int p.1):=by rw [gIx_t hb2];rfl
   have e1:gIx (.ref b) (.int 1) H2=some (.int p.2):=by rw [gIx_t hb2];rfl
   have c1:smallC x p.1=true:=decide_eq_true (by simp at gxy;omega)
   have c2:smallC y p.2=true:=decide_eq_true (by simp at gxy;omega)
   refine ⟨.int (x*p.1+y*p.2),?_,hQ2 _ H2 (Same.refl _) ?_⟩
   ·show fAdd (fMul (fIx (fVar 1) (fC (.int 1))) (fIx (fVar 4) (fC (.int 0)))) (fMul (fIx (fVar 1) (fC (.int 2))) (fIx (fVar 4) (fC (.int 1)))) [some (.ref h),some (.ref r),none,none,some (.ref b)] H2=_
    simp only [f2,fVar,fC,gZ,gS,oJ,oB,rd1 hrow2,rd2 hrow2,e0,e1,gI,gIc,c1,c2,if_true]
   ·show V.int _=V.int _
    congr 1
    unfold Vbecap.dot
    simp only
    rw [Int.mul_comm x,Int.mul_comm y]
  ·have ew:ws=((seen st a).map fun p=>Vbecap.dot p (x,y)).map V.int:=all_ints a2
   generalize hY:((seen st a).map fun p=>Vbecap.dot p (x,y))=Y at ew
   subst ew
   refine ⟨decide (((Y.map V.int).length:Int)=0),?_,ite_bl (fun c=>?_) (fun c=>?_)⟩
   ·show f2 _ (fCall gLen _) _ [some (.ref h),some (.ref r),some (.ref D),none,none] H2=_
    simp only [fCall,fCons,fNil,f2,fVar,fC,gZ,gS,oJ,oB,gLen_l h2,gI]
   ·have c:=of_decide_eq_true c
    have eY:Y=[]:=List.length_eq_zero_iff.mp (by rw [List.length_map] at c;omega)
    refine ⟨[.int (-5)],rfl,(by show 1<=sizeLine;decide),fun p hp=>?_⟩
    have ea:act st (.extent a x y)=(st,[-5]):=by
     show (match (seen st a).map fun p=>Vbecap.dot p (x,y) with | []=>_ | v::r=>_)=_
     rw [hY,eY]
    rw [ea] at k
    exact k _ p as (post_same hd (s2.trans (same_new hp))) (by rw [upd_same];rfl) (s2.free hp)
   ·have c:=of_decide_eq_false c
    refine ⟨[.ref D],rfl,D,Y,rfl,.of h2,by rw [List.length_map] at c;omega,fun m hm hmax=>?_⟩
    obtain ⟨j,hj,hf⟩:=first_at hm
    refine ⟨.int 0,rfl,.int m,rfl,.ref D,rfl,.inl ⟨rfl,_,.of h2⟩,[.int m],rfl,index_ok (.of h2) hj hf ⟨(by show 3<=sizeLine;decide),fun p hp=>?_⟩⟩
    have ea:act st (.extent a x y)=(st,[0,m,(j:Int)]):=by
     show (match (seen st a).map fun p=>Vbecap.dot p (x,y) with | []=>_ | v::r=>_)=_
     rw [hY]
     cases Y with
     | nil=>simp at hm
     | cons v l =>
      show (st,[0,l.foldl max v,(((v::l).findIdx fun w=>w == l.foldl max v:Nat):Int)])=_
      rw [max_is hm hmax,find_is hj hf]
    rw [ea] at k
    exact k _ p as (post_same hd (s2.trans (same_new hp))) (by rw [upd_same];rfl) (s2.free hp)
abbrev sMean:Stmt:=top 70
theorem scMean:FnScope ["herd","row","sightings","count","mean_x","mean_y","place"] ["herd","row"] (defScope sMean):=⟨rfl,rfl,rfl,by decide +kernel,rfl,by decide +kernel,by decide +kernel⟩
theorem ok_meanCall (B:Blt mg)(C:Cons mg)(S:Src K mg "mean" sMean ["herd","row"]) (D1:Def P w K mg base "lowest" 34 ["numerator","denominator"] spLow):Act P w K mg base "mean" 16:=by
 refine def_ok S scMean (fun vs H Q E h=>?_) (fun f cdv A outer s H vs Q E hr h=>?_)
 ·obtain ⟨h,r,as,st,row,c,rfl,_⟩:=h;rfl
 ·obtain ⟨h,r,as,st,row,c,rfl,hd,hrow,is,inr,k⟩:=h
  obtain ⟨a,rfl,rfl⟩:=is
  obtain ⟨ad,vs,e1,had,hall,hlen,hmd,hvl,hix,est⟩:=hd.get (animal_iff inr)
  refine ⟨_,pss_cons (ps_set (i:=2) scMean.nd rfl (Or.inl rfl) (pp_ix (pp 0) (pp_ix (pp 1) pp_int)))
   (pss_cons (ps_set (i:=3) scMean.nd rfl (Or.inl rfl) (pp_callB call_len_seq gLen_ok rfl B.len boot_lenH (pq_cons (pp 2) pq_nil)))
   (pss_cons (ps_if (pt_eq (pp 3) pp_int) (pss_one (ps_ret (pe_lst (pq_cons (pp_con C.few rfl) pq_nil)))) pss_nil)
   (pss_cons (ps_set (i:=4) scMean.nd rfl (Or.inl rfl) (pe_def D1 (hr.mono (by decide)) rfl (pa_cons (pe_callB (cr_sum rfl) rfl B.sum boot_sum (pa_cons (pe_lc (own:=[("place",6)]) rfl scMean.nd (pi_list (pp 2)) (blkOk_by (by show blkC ["herd","row","sightings","count","mean_x","mean_y","place"] (defScope sMean) _ _=true;decide +kernel))
    (fun _ _ _ _ _=>pg_name (i:=6) scMean.nd rfl (Or.inl rfl)) (fun _ _ _ _ _=>pts_nil) (fun _ _ _ _ _=>pp_ix (pp 6) pp_int)) pa_nil)) (pa_cons (pp 3) pa_nil))))
   (pss_cons (ps_set (i:=5) scMean.nd rfl (Or.inl rfl) (pe_def D1 (hr.mono (by decide)) rfl (pa_cons (pe_callB (cr_sum rfl) rfl B.sum boot_sum (pa_cons (pe_lc (own:=[("place",6)]) rfl scMean.nd (pi_list (pp 2)) (blkOk_by (by show blkC ["herd","row","sightings","count","mean_x","mean_y","place"] (defScope sMean) _ _=true;decide +kernel))
    (fun _ _ _ _ _=>pg_name (i:=6) scMean.nd rfl (Or.inl rfl)) (fun _ _ _ _ _=>pts_nil) (fun _ _ _ _ _=>pp_ix (pp 6) pp_int)) pa_nil)) (pa_cons (pp 3) pa_nil))))
   (pss_one (ps_ret (pe_op op_cat (pe_op op_cat (pe_lst (pq_cons pp_int pq_nil)) (pe_callTy call_list_of rfl B.list boot_list (pq_cons (pp 4) pq_nil))) (pe_callTy call_list_of rfl B.list boot_list (pq_cons (pp 5) pq_nil))))))))),?_⟩
  refine ⟨.ref ad,?_,.int vs.length,?_,decide ((vs.length:Int)=0),rfl,ite_bl (fun c=>?_) (fun c=>?_)⟩
  ·show fIx (fVar 0) (fIx (fVar 1) (fC (.int 0))) [some (.ref h),some (.ref r),none,none,none,none,none] H=_
   simp only [f2,fVar,fC,gZ,gS,oJ,oB,rd0 hrow,hix]
  ·show fCall gLen (fCons (fVar 2) fNil) [some (.ref h),some (.ref r),some (.ref ad),none,none,none,none] H=_
   simp only [fCall,fCons,fNil,fVar,fC,gZ,gS,oJ,oB,gLen_l had]
  ·have c:=of_decide_eq_true c
   have e0:seen st a=[]:=List.length_eq_zero_iff.mp (by omega)
   refine ⟨[.int (-5)],rfl,(by show 1<=sizeLine;decide),fun p hp=>?_⟩
   have ea:act st (.mean a)=(st,[-5]):=by
    show (if (seen st a).isEmpty=true then _ else _)=_
    rw [e0];rfl
   rw [ea] at k
   exact k _ p as (post_same hd (same_new hp)) (by rw [upd_same];rfl) hp
  ·have c:=of_decide_eq_false c
   have ne:seen st a≠[]:=by
    intro q
    have z:(seen st a).length=0:=by rw [q];rfl
    omega
   have hpos:0 < (vs.length:Int):=by omega
   have ea:act st (.mean a)=(st,0::(Vbecap.shown (Vbecap.frac ((seen st a).map fun p=>p.1).sum (vs.length:Int))++Vbecap.shown (Vbecap.frac ((seen st a).map fun p=>p.2).sum (vs.length:Int)))):=by
    show (if (seen st a).isEmpty=true then _ else _)=_
    rw [if_neg (by simp [List.isEmpty_iff,ne])]
    show (st,0::(Vbecap.shown (Vbecap.frac (Vbecap.sumI _) _)++Vbecap.shown (Vbecap.frac (Vbecap.sumI _) _)))=_
    rw [G.sumI_sum,G.sumI_sum,hvl]
   rw [ea] at k
   refine ⟨.ref ad,rfl,ad,rfl,⟨vs,.of had⟩,fun D hD=>?_⟩
   refine lc_map (R':=Ri) tu_i hD (.of had) ((seen st a).map fun p=>p.1) (by rw [List.length_map,hvl]) (by omega) (fun x=>rfl) (fun i v z H2 hv hz s2 Q2 hQ2=>?_) (fun H1 ws s1 h1 a1=>?_)
   ·obtain ⟨p,hp,b,rfl,hb⟩:=hall.get' hv
    rw [List.getElem?_map,hp] at hz
    cases hz
    have e0:gIx (.ref b) (.int 0) H2=some (.int p.1):=by rw [gIx_t (s2 _ _ hb)];rfl
    refine ⟨.int p.1,?_,hQ2 _ H2 (Same.refl _) rfl⟩
    show fIx (fVar 6) (fC (.int 0)) [some (.ref h),some (.ref r),some (.ref ad),some (.int vs.length),none,none,some (.ref b)] H2=_
    simp only [f2,fVar,fC,gZ,gS,oJ,oB,e0]
   have ew:ws=((seen st a).map fun p=>p.1).map V.int:=all_ints a1
   subst ew
   refine ⟨D,_,rfl,.of h1,.int vs.length,rfl,_,_,rfl,hpos,fun t1 ht1=>?_⟩
   generalize hF1:Vbecap.frac ((seen st a).map fun p=>p.1).sum (vs.length:Int)=F1 at k
   have s2:=s1.trans (same_new (o:=.tup [.int F1.1,.int F1.2]) ht1)
   have hT1:upd H1 t1 (.tup [.int F1.1,.int F1.2]) t1=some (.tup [.int F1.1,.int F1.2]):=upd_same
   generalize hH2:upd H1 t1 (.tup [.int F1.1,.int F1.2])=H2 at s2 hT1
   refine ⟨.ref ad,rfl,ad,rfl,⟨vs,.of (s2 _ _ had)⟩,fun D2 hD2=>?_⟩
   refine lc_map (R':=Ri) tu_i hD2 (.of (s2 _ _ had)) ((seen st a).map fun p=>p.2) (by rw [List.length_map,hvl]) (by omega) (fun x=>rfl) (fun i v z H3 hv hz s3 Q2 hQ2=>?_) (fun H3 ws s3 h3 a3=>?_)
   ·obtain ⟨p,hp,b,rfl,hb⟩:=hall.get' hv
    rw [List.getElem?_map,hp] at hz
    cases hz
    have e0:gIx (.ref b) (.int 1) H3=some (.int p.2):=by rw [gIx_t (s3 _ _ (s2 _ _ hb))];rfl
    refine ⟨.int p.2,?_,hQ2 _ H3 (Same.refl _) rfl⟩
    show fIx (fVar 6) (fC (.int 1)) [some (.ref h),some (.ref r),some (.ref ad),some (.int vs.length),some (.ref t1),none,some (.ref b)] H3=_
    simp only [f2,fVar,fC,gZ,gS,oJ,oB,e0]
   have ew:ws=((seen st a).map fun p=>p.2).map V.int:=all_ints a3
   subst ew
   refine ⟨D2,_,rfl,.of h3,.int vs.length,rfl,_,_,rfl,hpos,fun t2 ht2=>?_⟩
   generalize hF2:Vbecap.frac ((seen st a).map fun p=>p.2).sum (vs.length:Int)=F2 at k
   have s4:=s3.trans (same_new (o:=.tup [.int F2.1,.int F2.2]) ht2)
   have hT2:upd H3 t2 (.tup [.int F2.1,.int F2.2]) t2=some (.tup [.int F2.1,.int F2.2]):=upd_same
   generalize hH4:upd H3 t2 (.tup [.int F2.1,.int F2.2])=H4 at s4 hT2
   refine ⟨[.int 0],rfl,(by show 1<=sizeLine;decide),fun q0 hq0=>?_⟩
   have s5:=same_new (o:=.lst [.int 0]) hq0
   refine ⟨[.ref t1],rfl,t1,_,rfl,.inr (.of (s5 _ _ (s4 _ _ hT1))),fun q1 hq1=>?_⟩
   have s6:=s5.trans (same_new (o:=.lst [.int F1.1,.int F1.2]) hq1)
   refine ⟨q0,q1,_,_,rfl,rfl,same_new hq1 _ _ upd_same,upd_same,(by show 3<=sizeLine;decide),fun q2 hq2=>?_⟩
   have s7:=s6.trans (same_new (o:=.lst ([.int 0]++[.int F1.1,.int F1.2])) hq2)
   refine ⟨[.ref t2],rfl,t2,_,rfl,.inr (.of (s7 _ _ hT2)),fun q3 hq3=>?_⟩
   have s8:=s7.trans (same_new (o:=.lst [.int F2.1,.int F2.2]) hq3)
   refine ⟨q2,q3,_,_,rfl,rfl,same_new hq3 _ _ upd_same,upd_same,(by show 5<=sizeLine;decide),fun p hp=>?_⟩
   have sA:=(s2.trans s4).trans s8
   refine k _ p as (post_same hd (sA.trans (same_new hp))) ?_ (sA.free hp)
   rw [upd_same];rfl
end
theorem count_three (l:List Int):l.countP (fun w=>decide (0 < w))+l.countP (fun w=>w == 0)+l.countP (fun w=>decide (w < 0))=l.length:=by
 induction l with
 | nil=>rfl
 | cons a l ih =>
  simp only [List.countP_cons,List.length_cons]
  rcases Int.lt_trichotomy a 0 with h | h | h
  ·have h1:¬ 0 < a:=by omega
   have h2:a≠0:=by omega
   simp [h,h1,h2];omega
  ·subst h;simp;omega
  ·have h1:¬ a < 0:=by omega
   have h2:a≠0:=by omega
   simp [h,h1,h2];omega
section
variable {P:Program} {w:World} {K:PySem.W.Frag} {mg:Str->Option Value} {base:Heap}
abbrev sHalves:Stmt:=top 69
theorem scHalves:FnScope ["herd","row","start","end","turns","to_left","on_line","place","number"] ["herd","row"] (defScope sHalves):=⟨rfl,rfl,rfl,by decide +kernel,rfl,by decide +kernel,by decide +kernel⟩
theorem ok_halvesCall (B:Blt mg)(C:Cons mg)(S:Src K mg "halves" sHalves ["herd","row"]) (D1:Def P w K mg base "turn_of" 1 ["a","b","c"] (spP gTurn)):Act P w K mg base "halves" 15:=by
 refine def_ok S scHalves (fun vs H Q E h=>?_) (fun f cdv A outer s H vs Q E hr h=>?_)
 ·obtain ⟨h,r,as,st,row,c,rfl,_⟩:=h;rfl
 ·obtain ⟨h,r,as,st,row,c,rfl,hd,hrow,is,inr,k⟩:=h
  obtain ⟨a,x,y,u,v,rfl,rfl⟩:=is
  have gxy:=grid_iff (and1 (and2 inr))
  have guv:=grid_iff (and2 (and2 inr))
  have hu:=hr.units
  obtain ⟨ad,vs,e1,had,hall,hlen,hmd,hvl,hix,est⟩:=hd.get (animal_iff (and1 inr))
  refine ⟨_,pss_cons (ps_set (i:=2) scHalves.nd rfl (Or.inr rfl) (pe_tup (pq_cons (pp_ix (pp 1) pp_int) (pq_cons (pp_ix (pp 1) pp_int) pq_nil))))
   (pss_cons (ps_set (i:=3) scHalves.nd rfl (Or.inr rfl) (pe_tup (pq_cons (pp_ix (pp 1) pp_int) (pq_cons (pp_ix (pp 1) pp_int) pq_nil))))
   (pss_cons (ps_if (pt_cmpR (r:=rEqD K) (op_eqD hu) (pp 2) (pp 3) (nomark _)) (pss_one (ps_ret (pe_lst (pq_cons (pp_con C.noline rfl) pq_nil)))) pss_nil)
   (pss_cons (ps_setLc (i:=4) (own:=[("place",7)]) rfl scHalves.nd rfl rfl (sw_true rfl rfl rfl rfl) (pi_list (pp_ix (pp 0) (pp_ix (pp 1) pp_int))) (blkOk_by (by show blkC ["herd","row","start","end","turns","to_left","on_line","place","number"] (defScope sHalves) _ _=true;decide +kernel))
    (fun _ _ _ _ _=>pg_name (i:=7) scHalves.nd rfl (Or.inl rfl)) (fun _ _ _ _ _=>pts_nil) (fun _ _ _ _ _=>pp_def D1 (hr.mono (by decide)) rfl (pq_cons (pp 2) (pq_cons (pp 3) (pq_cons (pp 7) pq_nil)))))
   (pss_cons (ps_set (i:=5) scHalves.nd rfl (Or.inl rfl) (pe_callB call_len_seq rfl B.len boot_lenH (pa_cons (pe_lc (own:=[("number",8)]) rfl scHalves.nd (pi_list (pp 4)) (blkOk_by (by show blkC ["herd","row","start","end","turns","to_left","on_line","place","number"] (defScope sHalves) _ _=true;decide +kernel))
    (fun _ _ _ _ _=>pg_name (i:=8) scHalves.nd rfl (Or.inl rfl)) (fun _ _ _ _ _=>pts_one (pt_gt (pp 8) pp_int)) (fun _ _ _ _ _=>pp 8)) pa_nil)))
   (pss_cons (ps_set (i:=6) scHalves.nd rfl (Or.inl rfl) (pe_bm PySem.F.plainAttrs_list PySem.F.slot_list_count PySem.F.type_list_count mt_countL (pp 4) (pq_cons pp_int pq_nil)))
   (pss_one (ps_ret (pe_lst (pq_cons (pp 5) (pq_cons (pp 6) (pq_cons (pp_sub (pp_sub (pp_callB call_len_seq gLen_ok rfl B.len boot_lenH (pq_cons (pp 4) pq_nil)) (pp 5)) (pp 6)) pq_nil))))))))))),?_⟩
  refine ⟨[.int x,.int y],?_,(by show 2<=sizeLine;decide),fun t1 ht1=>?_⟩
  ·show fCons (fIx (fVar 1) (fC (.int 1))) (fCons (fIx (fVar 1) (fC (.int 2))) fNil) [some (.ref h),some (.ref r),none,none,none,none,none,none,none] H=_
   simp only [fCons,fNil,f2,fVar,fC,gZ,gS,oJ,oB,rd1 hrow,rd2 hrow]
  have s1:=same_new (o:=.tup [.int x,.int y]) ht1
  have hrow1:=s1 _ _ hrow
  refine ⟨[.int u,.int v],?_,(by show 2<=sizeLine;decide),fun t2 ht2=>?_⟩
  ·show fCons (fIx (fVar 1) (fC (.int 3))) (fCons (fIx (fVar 1) (fC (.int 4))) fNil) [some (.ref h),some (.ref r),some (.ref t1),none,none,none,none,none,none] _=_
   simp only [fCons,fNil,f2,fVar,fC,gZ,gS,oJ,oB,rd3 hrow1,rd4 hrow1]
  have s2:=s1.trans (same_new (o:=.tup [.int u,.int v]) ht2)
  have r1:Rp (upd (upd H t1 (.tup [.int x,.int y])) t2 (.tup [.int u,.int v])) (.ref t1) (x,y):=⟨t1,rfl,same_new ht2 _ _ upd_same⟩
  have r2:Rp (upd (upd H t1 (.tup [.int x,.int y])) t2 (.tup [.int u,.int v])) (.ref t2) (u,v):=⟨t2,rfl,upd_same⟩
  generalize hH2:upd (upd H t1 (HO.tup [V.int x,V.int y])) t2 (HO.tup [V.int u,V.int v])=H2 at s2 r1 r2
  refine ⟨.ref t1,rfl,.ref t2,rfl,dP (x,y),dP (u,v),dp_of r1,dp_of r2,dP_shaped _,dP_shaped _,_,rfl,?_⟩
  rw [dP_eqv]
  refine ite_bl (fun c=>?_) (fun c=>?_)
  ·have c:=of_decide_eq_true c
   refine ⟨[.int (-6)],rfl,(by show 1<=sizeLine;decide),fun p hp=>?_⟩
   have ea:act st (.halves a x y u v)=(st,[-6]):=by
    show (if (x,y)=(u,v) then _ else _)=_
    rw [if_pos c]
   rw [ea] at k
   exact k _ p as (post_same hd (s2.trans (same_new hp))) (by rw [upd_same];rfl) (s2.free hp)
  ·have c:=of_decide_eq_false c
   generalize hY:((seen st a).map fun p=>cross (x,y) (u,v) p)=Y
   have lY:Y.length=(seen st a).length:=by rw [<- hY,List.length_map]
   have ea:act st (.halves a x y u v)=(st,Vbecap.ints [Y.countP fun w=>decide (0 < w),Y.countP fun w=>w == 0,Y.countP fun w=>decide (w < 0)]):=by
    show (if (x,y)=(u,v) then _ else _)=_
    rw [if_neg c,<- hY]
   rw [ea] at k
   have had2:=s2 _ _ had
   refine ⟨.ref ad,?_,ad,rfl,⟨vs,.of had2⟩,fun D hD=>?_⟩
   ·have hrow2:=s2 _ _ hrow
    have hix2:gIx (.ref h) (.int a) H2=some (.ref ad):=by
     obtain ⟨bd',_,q1,_,_,_,_,_,q2,_⟩:=(hd.same s2).get (animal_iff (and1 inr))
     rw [e1] at q1;cases q1;exact q2
    show fIx (fVar 0) (fIx (fVar 1) (fC (.int 0))) [some (.ref h),some (.ref r),some (.ref t1),some (.ref t2),none,none,none,none,none] H2=_
    simp only [f2,fVar,fC,gZ,gS,oJ,oB,rd0 hrow2,hix2]
   refine lc_map (R':=Ri) tu_i hD (.of had2) Y (by rw [lY,hvl]) (by omega) (fun x=>rfl) (fun i vv z H3 hv hz s3 Q2 hQ2=>?_) (fun H3 ws s3 h3 a3=>?_)
   ·obtain ⟨p,hp,rp⟩:=hall.get' hv
    rw [<- hY,List.getElem?_map,hp] at hz
    cases hz
    have e:gTurn [.ref t1,.ref t2,vv] H3=some (.int (cross (x,y) (u,v) p)):=F3_of (r1.to (same_tup s3)) (r2.to (same_tup s3)) (rp.to (same_tup (s2.trans s3))) (md_sm gxy) (md_sm guv) (md_sm (hmd p (List.mem_of_getElem? hp)))
    refine ⟨.int (cross (x,y) (u,v) p),?_,hQ2 _ H3 (Same.refl _) rfl⟩
    show fCall gTurn (fCons (fVar 2) (fCons (fVar 3) (fCons (fVar 7) fNil))) [some (.ref h),some (.ref r),some (.ref t1),some (.ref t2),none,none,none,some vv,none] H3=_
    simp only [fCall,fCons,fNil,fVar,gZ,gS,oJ,oB,e]
   have ew:ws=Y.map V.int:=all_ints a3
   subst ew
   refine ⟨.ref D,rfl,D,rfl,⟨_,.of h3⟩,fun D2 hD2=>?_⟩
   refine lc_filter (R:=Ri) (j:=8) tu_i hD2 (.of h3) a3 (by rw [List.length_map];omega) (fun w=>decide (0 < w)) (fun x=>rfl) (fun x H=>rfl) (fun i xx z H4 hx hz rz s4 Qb hQ=>?_) (fun H4 zs s4 h4 a4=>?_)
   ·have rz:xx=V.int z:=rz
    subst rz
    exact ⟨_,rfl,hQ _ (Same.refl _)⟩
   have h4':=s4 _ _ h3
   have l4:zs.length=Y.countP (fun w=>decide (0 < w)):=by rw [a4.length,List.countP_eq_length_filter]
   refine ⟨D2,zs,rfl,.inl (.of h4),?_⟩
   refine ⟨.ref D,rfl,.inl ⟨rfl,_,.of h4'⟩,[.int 0],rfl,D,Y,0,rfl,rfl,.of h4',?_⟩
   refine ⟨[.int zs.length,.int (Y.count 0:Nat),.int ((Y.length:Int)-zs.length-(Y.count 0:Nat))],?_,(by show 3<=sizeLine;decide),fun p hp=>?_⟩
   ·show fCons (fVar 5) (fCons (fVar 6) (fCons (fSub (fSub (fCall gLen (fCons (fVar 4) fNil)) (fVar 5)) (fVar 6)) fNil)) [some (.ref h),some (.ref r),some (.ref t1),some (.ref t2),some (.ref D),some (.int zs.length),some (.int (Y.count 0:Nat)),none,none] H4=_
    simp only [fCall,fCons,fNil,f2,fVar,fC,gZ,gS,oJ,oB,gLen_l h4',gI,List.length_map]
   ·have sA:=s2.trans (s3.trans s4)
    refine k _ p as (post_same hd (sA.trans (same_new hp))) ?_ (sA.free hp)
    have c3:=count_three Y
    have ec:Y.count 0=Y.countP (fun w=>w == 0):=by rw [List.count]
    have e3:((Y.length:Int)-zs.length-(Y.count 0:Nat))=((Y.countP fun w=>decide (w < 0):Nat):Int):=by rw [ec,l4];omega
    rw [upd_same,e3,l4,ec];rfl
end
theorem Herd.mem {H:Hp}{h:Addr}{as:List Addr}{st:State}(x:Herd H h as st){a:Addr}(ha:a∈as):∃ vs,H a=some (.lst vs):=by
 obtain ⟨i,hi⟩:=List.mem_iff_getElem?.mp ha
 have hl:i < st.length:=by rw [x.slen,<- x.len];exact (List.getElem?_eq_some_iff.mp hi).1
 obtain ⟨vs,h1,_⟩:=x.at' i a _ hi (List.getElem?_eq_getElem hl)
 exact ⟨vs,h1⟩
theorem get_inj {as:List Addr}(nd:as.Nodup){i j:Nat}{a:Addr}(hi:as[i]?=some a)(hj:as[j]?=some a):i=j:=by
 obtain ⟨h1,e1⟩:=List.getElem?_eq_some_iff.mp hi
 obtain ⟨h2,e2⟩:=List.getElem?_eq_some_iff.mp hj
 exact (List.getElem_inj nd).mp (e1.trans e2.symm)
theorem herd_put {H H1:Hp}{h:Addr}{as:List Addr}{st:State}(hd:Herd H h as st)(s1:Same H H1){i:Nat}{ad:Addr}(hi:as[i]?=some ad){vs':List V}{l':List P2}(hall:All (Rp H1) vs' l')(ok:l'.length<=9/\MdL l') :
  Post H h as (upd H1 ad (.lst vs')) as (st.set i l'):=by
 have ham:ad∈as:=List.mem_of_getElem? hi
 obtain ⟨v0,hv0⟩:=hd.mem ham
 have hv1:=s1 _ _ hv0
 have nh:h ∉ as:=(List.nodup_cons.mp hd.nd).1
 have nda:=(List.nodup_cons.mp hd.nd).2
 have nha:h≠ad:=fun q=>nh (q▸ham)
 refine ⟨⟨?_,hd.len,by rw [List.length_set];exact hd.slen,hd.nd,fun j a l e1 e2=>?_,fun l hl=>?_⟩,fun b o hb e=>?_,fun a ha=>.inl ha⟩
 ·rw [upd_ne nha];exact s1 _ _ hd.lst
 ·by_cases q:i=j
  ·subst q
   rw [hi] at e1;cases e1
   have hlt:i < st.length:=by rw [hd.slen,<- hd.len];exact (List.getElem?_eq_some_iff.mp hi).1
   rw [List.getElem?_set_self hlt] at e2
   cases e2
   exact ⟨vs',upd_same,hall.imp fun _ _ z=>z.to (stup_upd hv1)⟩
  ·rw [List.getElem?_set_ne q] at e2
   obtain ⟨vs,h1,h2⟩:=hd.at' j a l e1 e2
   have na:a≠ad:=fun z=>by subst z;exact q (get_inj nda hi e1)
   exact ⟨vs,by rw [upd_ne na];exact s1 _ _ h1,h2.imp fun _ _ z=>(z.to (same_tup s1)).to (stup_upd hv1)⟩
 ·rcases List.mem_or_eq_of_mem_set hl with hl | rfl
  ·exact hd.ok l hl
  ·exact ok
 ·have nb:b≠ad:=fun q=>hb (by rw [q];exact List.mem_cons_of_mem _ ham)
  rw [upd_ne nb];exact s1 _ _ e
theorem herd_new {H H1:Hp}{h:Addr}{as:List Addr}{st:State}(hd:Herd H h as st)(s1:Same H H1){i:Nat}(hi:i < 4){q:Addr}(hq:H q=none){vs':List V}{l':List P2}(hq1:H1 q=some (.lst vs'))(hall:All (Rp H1) vs' l')(ok:l'.length<=9/\MdL l') :
  Post H h as (upd H1 h (.lst ((as.map V.ref).set i (.ref q)))) (as.set i q) (st.set i l'):=by
 have nh:h ∉ as:=(List.nodup_cons.mp hd.nd).1
 have nda:=(List.nodup_cons.mp hd.nd).2
 have hh1:=s1 _ _ hd.lst
 have nqh:q≠h:=fun z=>by rw [z,hd.lst] at hq;cases hq
 have nqa:q ∉ as:=fun z=>by obtain ⟨v,hv⟩:=hd.mem z;rw [hv] at hq;cases hq
 have ms:∀ a∈as.set i q,a∈as\/a=q:=fun a ha=>List.mem_or_eq_of_mem_set ha
 refine ⟨⟨?_,by rw [List.length_set];exact hd.len,by rw [List.length_set];exact hd.slen,?_,fun j a l e1 e2=>?_,fun l hl=>?_⟩,fun b o hb e=>?_,fun a ha=>?_⟩
 ·rw [upd_same,List.map_set]
 ·refine List.nodup_cons.mpr ⟨fun z=>?_,?_⟩
  ·rcases ms h z with z | z
   ·exact nh z
   ·exact nqh z.symm
  ·refine List.pairwise_iff_getElem.mpr fun a b ha hb hab=>?_
   rw [List.length_set] at ha hb
   rw [List.getElem_set,List.getElem_set]
   have:=List.pairwise_iff_getElem.mp nda a b ha hb hab
   split
   ·split
    ·omega
    ·intro z;exact nqa (z▸List.getElem_mem hb)
   ·split
    ·intro z;exact nqa (z▸List.getElem_mem ha)
    ·exact this
 ·by_cases z:i=j
  ·subst z
   rw [List.getElem?_set_self (by rw [hd.len];exact hi)] at e1
   rw [List.getElem?_set_self (by rw [hd.slen];exact hi)] at e2
   cases e1;cases e2
   exact ⟨vs',by rw [upd_ne nqh];exact hq1,hall.imp fun _ _ z=>z.to (stup_upd hh1)⟩
  ·rw [List.getElem?_set_ne z] at e1 e2
   obtain ⟨vs,h1,h2⟩:=hd.at' j a l e1 e2
   have na:a≠h:=fun z=>nh (z▸List.mem_of_getElem? e1)
   exact ⟨vs,by rw [upd_ne na];exact s1 _ _ h1,h2.imp fun _ _ z=>(z.to (same_tup s1)).to (stup_upd hh1)⟩
 ·rcases List.mem_or_eq_of_mem_set hl with hl | rfl
  ·exact hd.ok l hl
  ·exact ok
 ·have nb:b≠h:=fun z=>hb (by rw [z];exact List.mem_cons_self)
  rw [upd_ne nb];exact s1 _ _ e
 ·rcases ms a ha with z | z
  ·exact .inl z
  ·right;rw [z];exact hq
theorem Post.same {H H' H'':Hp}{h:Addr}{as as':List Addr}{st:State}(p:Post H h as H' as' st)(s:Same H' H''):Post H h as H'' as' st :=
 ⟨p.herd.same s,fun b o hb e=>s _ _ (p.keep b o hb e),p.new⟩
theorem ix_four {a:Int}(ha:0<=a/\a<=3):ixN 4 a=some a.toNat:=by
 unfold ixN
 rw [if_pos ha.1,if_pos (by omega)]
section
variable {P:Program} {w:World} {K:PySem.W.Frag} {mg:Str->Option Value} {base:Heap}
abbrev sSee:Stmt:=top 54
theorem scSee:FnScope ["herd","row","sightings"] ["herd","row"] (defScope sSee):=⟨rfl,rfl,rfl,by decide +kernel,rfl,by decide +kernel,by decide +kernel⟩
theorem ok_see (B:Blt mg)(C:Cons mg)(S:Src K mg "see" sSee ["herd","row"]):Act P w K mg base "see" 0:=by
 refine def_ok S scSee (fun vs H Q E h=>?_) (fun f cdv A outer s H vs Q E hr h=>?_)
 ·obtain ⟨h,r,as,st,row,c,rfl,_⟩:=h;rfl
 ·obtain ⟨h,r,as,st,row,c,rfl,hd,hrow,is,inr,k⟩:=h
  obtain ⟨a,x,y,rfl,rfl⟩:=is
  have gxy:=grid_iff (and2 inr)
  obtain ⟨ad,vs,e1,had,hall,hlen,hmd,hvl,hix,est⟩:=hd.get (animal_iff (and1 inr))
  refine ⟨_,pss_cons (ps_set (i:=2) scSee.nd rfl (Or.inl rfl) (pp_ix (pp 0) (pp_ix (pp 1) pp_int)))
   (pss_cons (ps_if (pt_eq (pp_callB call_len_seq gLen_ok rfl B.len boot_lenH (pq_cons (pp 2) pq_nil)) (pp_con C.most rfl)) (pss_one (ps_ret (pe_lst (pq_cons (pp_con C.many rfl) pq_nil)))) pss_nil)
   (pss_cons (ps_expr (pe_bm PySem.F.plainAttrs_list PySem.F.slot_list_append PySem.F.type_list_append mt_append (pp 2) (pa_cons (pe_tup (pq_cons (pp_ix (pp 1) pp_int) (pq_cons (pp_ix (pp 1) pp_int) pq_nil))) pa_nil)))
   (pss_one (ps_ret (pe_lst (pq_cons (pp_callB call_len_seq gLen_ok rfl B.len boot_lenH (pq_cons (pp 2) pq_nil)) pq_nil)))))),?_⟩
  refine ⟨.ref ad,?_,decide ((vs.length:Int)=9),?_,ite_bl (fun c=>?_) (fun c=>?_)⟩
  ·show fIx (fVar 0) (fIx (fVar 1) (fC (.int 0))) [some (.ref h),some (.ref r),none] H=_
   simp only [f2,fVar,fC,gZ,gS,oJ,oB,rd0 hrow,hix]
  ·show f2 _ (fCall gLen _) _ [some (.ref h),some (.ref r),some (.ref ad)] H=_
   simp only [fCall,fCons,fNil,f2,fVar,fC,gZ,gS,oJ,oB,gLen_l had,gI]
  ·have c:=of_decide_eq_true c
   refine ⟨[.int (-3)],rfl,(by show 1<=sizeLine;decide),fun p hp=>?_⟩
   have ea:act st (.see a x y)=(st,[-3]):=by
    show (if Vbecap.SIGHTINGS<=(seen st a).length then _ else _)=_
    rw [if_pos (by unfold Vbecap.SIGHTINGS;omega)]
   rw [ea] at k
   exact k _ p as (post_same hd (same_new hp)) (by rw [upd_same];rfl) hp
  ·have c:=of_decide_eq_false c
   have ea:act st (.see a x y)=(st.set a.toNat (seen st a++[(x,y)]),[((seen st a).length:Int)+1]):=by
    show (if Vbecap.SIGHTINGS<=(seen st a).length then _ else _)=_
    rw [if_neg (by unfold Vbecap.SIGHTINGS;omega)]
   rw [ea] at k
   refine ⟨.ref ad,rfl,.inl ⟨rfl,_,SqL.of had⟩,[.int x,.int y],?_,(by show 2<=sizeLine;decide),fun t ht=>?_⟩
   ·show fCons (fIx (fVar 1) (fC (.int 1))) (fCons (fIx (fVar 1) (fC (.int 2))) fNil) [some (.ref h),some (.ref r),some (.ref ad)] H=_
    simp only [fCons,fNil,f2,fVar,fC,gZ,gS,oJ,oB,rd1 hrow,rd2 hrow]
   have s1:=same_new (o:=.tup [.int x,.int y]) ht
   refine ⟨ad,_,_,rfl,rfl,s1 _ _ had,?_,?_⟩
   ·exact Nat.lt_of_le_of_lt (show vs.length<=9 by omega) (by decide)
   have al:All (Rp (upd H t (.tup [.int x,.int y]))) (vs++[.ref t]) (seen st a++[(x,y)]):=(hall.imp fun _ _ z=>z.to (same_tup s1)).append (All.one ⟨t,rfl,upd_same⟩)
   have po:=herd_put hd s1 e1 al ⟨by rw [List.length_append];simp;omega,fun p hp=>by
    rcases List.mem_append.mp hp with hp | hp
    ·exact hmd p hp
    ·rw [List.mem_singleton] at hp;rw [hp];exact gxy⟩
   refine ⟨[.int ((vs++[V.ref t]).length:Nat)],?_,(by show 1<=sizeLine;decide),fun p hp=>?_⟩
   ·show fCons (fCall gLen (fCons (fVar 2) fNil)) fNil [some (.ref h),some (.ref r),some (.ref ad)] _=_
    simp only [fCall,fCons,fNil,fVar,gZ,gS,oJ,oB,gLen_l (upd_same:upd _ ad (HO.lst (vs++[V.ref t])) ad=_)]
   ·refine k _ p as (po.same (same_new hp)) ?_ ?_
    ·rw [upd_same,List.length_append,hvl];rfl
    ·have np:p≠ad:=fun z=>by rw [z,upd_same] at hp;cases hp
     rw [upd_ne np] at hp
     exact s1.free hp
abbrev sForget:Stmt:=top 55
theorem scForget:FnScope ["herd","row","sightings"] ["herd","row"] (defScope sForget):=⟨rfl,rfl,rfl,by decide +kernel,rfl,by decide +kernel,by decide +kernel⟩
theorem ok_forget (B:Blt mg)(S:Src K mg "forget" sForget ["herd","row"]):Act P w K mg base "forget" 1:=by
 refine def_ok S scForget (fun vs H Q E h=>?_) (fun f cdv A outer s H vs Q E hr h=>?_)
 ·obtain ⟨h,r,as,st,row,c,rfl,_⟩:=h;rfl
 ·obtain ⟨h,r,as,st,row,c,rfl,hd,hrow,is,inr,k⟩:=h
  obtain ⟨a,i,rfl,rfl⟩:=is
  have hi:=within_iff (and2 inr)
  obtain ⟨ad,vs,e1,had,hall,hlen,hmd,hvl,hix,est⟩:=hd.get (animal_iff (and1 inr))
  refine ⟨_,pss_cons (ps_set (i:=2) scForget.nd rfl (Or.inl rfl) (pp_ix (pp 0) (pp_ix (pp 1) pp_int)))
   (pss_cons (ps_expr (pe_bm PySem.F.plainAttrs_list PySem.F.slot_list_pop PySem.F.type_list_pop mt_popAt (pp 2) (pq_cons (pp_ix (pp 1) pp_int) pq_nil)))
   (pss_one (ps_ret (pe_lst (pq_cons (pp_callB call_len_seq gLen_ok rfl B.len boot_lenH (pq_cons (pp 2) pq_nil)) pq_nil))))),?_⟩
  have hin:i.toNat < vs.length:=by omega
  have ein:i=((i.toNat:Nat):Int):=by omega
  refine ⟨.ref ad,?_,.ref ad,rfl,.inl ⟨rfl,_,SqL.of had⟩,[.int i],?_,ad,vs,i,i.toNat,_,rfl,rfl,had,by omega,by omega,?_,List.getElem?_eq_getElem hin,?_⟩
  ·show fIx (fVar 0) (fIx (fVar 1) (fC (.int 0))) [some (.ref h),some (.ref r),none] H=_
   simp only [f2,fVar,fC,gZ,gS,oJ,oB,rd0 hrow,hix]
  ·show fCons (fIx (fVar 1) (fC (.int 1))) fNil [some (.ref h),some (.ref r),some (.ref ad)] H=_
   simp only [fCons,fNil,f2,fVar,fC,gZ,gS,oJ,oB,rd1 hrow]
  ·have:ixN vs.length i=some i.toNat:=by unfold ixN;rw [if_pos hi.1,if_pos (by omega)]
   exact (ixN_seq this).1
  ·have el:(vs.eraseIdx i.toNat).length=vs.length-1:=List.length_eraseIdx_of_lt hin
   have po:=herd_put hd (Same.refl H) e1 (hall.erase i.toNat) ⟨Nat.le_trans (List.length_eraseIdx_le _ _) hlen,fun p hp=>hmd p (List.mem_of_mem_eraseIdx hp)⟩
   refine ⟨[.int ((vs.eraseIdx i.toNat).length:Nat)],?_,(by show 1<=sizeLine;decide),fun p hp=>?_⟩
   ·show fCons (fCall gLen (fCons (fVar 2) fNil)) fNil [some (.ref h),some (.ref r),some (.ref ad)] _=_
    simp only [fCall,fCons,fNil,fVar,gZ,gS,oJ,oB,gLen_l (upd_same:upd _ ad (HO.lst (vs.eraseIdx i.toNat)) ad=_)]
   ·refine k _ p as (po.same (same_new hp)) ?_ ?_
    ·rw [upd_same,el,hvl]
     show some (HO.lst [V.int (((seen st a).length-1:Nat):Int)])=some (HO.lst [V.int (((seen st a).length:Int)-1)])
     have:(((seen st a).length-1:Nat):Int)=((seen st a).length:Int)-1:=by omega
     rw [this]
    ·have np:p≠ad:=fun z=>by rw [z,upd_same] at hp;cases hp
     rw [upd_ne np] at hp
     exact hp
abbrev sClear:Stmt:=top 57
theorem scClear:FnScope ["herd","row","had"] ["herd","row"] (defScope sClear):=⟨rfl,rfl,rfl,by decide +kernel,rfl,by decide +kernel,by decide +kernel⟩
theorem ok_clear (B:Blt mg)(S:Src K mg "clear" sClear ["herd","row"]):Act P w K mg base "clear" 3:=by
 refine def_ok S scClear (fun vs H Q E h=>?_) (fun f cdv A outer s H vs Q E hr h=>?_)
 ·obtain ⟨h,r,as,st,row,c,rfl,_⟩:=h;rfl
 ·obtain ⟨h,r,as,st,row,c,rfl,hd,hrow,is,inr,k⟩:=h
  obtain ⟨a,rfl,rfl⟩:=is
  have ha:=animal_iff inr
  obtain ⟨ad,vs,e1,had,hall,hlen,hmd,hvl,hix,est⟩:=hd.get ha
  refine ⟨_,pss_cons (ps_set (i:=2) scClear.nd rfl (Or.inl rfl) (pp_callB call_len_seq gLen_ok rfl B.len boot_lenH (pq_cons (pp_ix (pp 0) (pp_ix (pp 1) pp_int)) pq_nil)))
   (pss_cons (ps_asg (pe_lst pq_nil) (pg_sub (pp 0) (pp_ix (pp 1) pp_int) set_list))
   (pss_one (ps_ret (pe_lst (pq_cons (pp 2) pq_nil))))),?_⟩
  refine ⟨.int vs.length,?_,[],rfl,(by show 0<=sizeLine;decide),fun q hq=>?_⟩
  ·show fCall gLen (fCons (fIx (fVar 0) (fIx (fVar 1) (fC (.int 0)))) fNil) [some (.ref h),some (.ref r),none] H=_
   simp only [fCall,fCons,fNil,f2,fVar,fC,gZ,gS,oJ,oB,rd0 hrow,hix,gLen_l had]
  ·have s1:=same_new (o:=.lst []) hq
   have hrow1:=s1 _ _ hrow
   refine ⟨.ref h,rfl,.int a,?_,h,_,a,a.toNat,rfl,rfl,s1 _ _ hd.lst,?_,?_⟩
   ·show fIx (fVar 1) (fC (.int 0)) [some (.ref h),some (.ref r),some (.int vs.length)] _=_
    simp only [f2,fVar,fC,gZ,gS,oJ,oB,rd0 hrow1]
   ·rw [List.length_map,hd.len];exact ix_four ha
   ·have po:=herd_new hd s1 (i:=a.toNat) (by omega) hq upd_same (l':=[]) .nil ⟨by simp,fun p hp=>by simp at hp⟩
    refine ⟨[.int vs.length],rfl,(by show 1<=sizeLine;decide),fun p hp=>?_⟩
    refine k _ p _ (po.same (same_new hp)) ?_ ?_
    ·rw [upd_same,hvl];rfl
    ·have np:p≠h:=fun z=>by rw [z,upd_same] at hp;cases hp
     rw [upd_ne np] at hp
     exact s1.free hp
abbrev sJoin:Stmt:=top 58
theorem scJoin:FnScope ["herd","row","joined"] ["herd","row"] (defScope sJoin):=⟨rfl,rfl,rfl,by decide +kernel,rfl,by decide +kernel,by decide +kernel⟩
theorem ok_join (B:Blt mg)(C:Cons mg)(S:Src K mg "join" sJoin ["herd","row"]):Act P w K mg base "join" 4:=by
 refine def_ok S scJoin (fun vs H Q E h=>?_) (fun f cdv A outer s H vs Q E hr h=>?_)
 ·obtain ⟨h,r,as,st,row,c,rfl,_⟩:=h;rfl
 ·obtain ⟨h,r,as,st,row,c,rfl,hd,hrow,is,inr,k⟩:=h
  obtain ⟨a,b,d,rfl,rfl⟩:=is
  have hdd:=animal_iff (and2 (and2 inr))
  obtain ⟨ad,vs,e1,had,hall,hlen,hmd,hvl,hix,est⟩:=hd.get (animal_iff (and1 inr))
  obtain ⟨bd,us,e2,hbd,hallb,hlenb,hmdb,hulb,hixb,estb⟩:=hd.get (animal_iff (and1 (and2 inr)))
  refine ⟨_,pss_cons (ps_set (i:=2) scJoin.nd rfl (Or.inl rfl) (pe_op op_cat (pp_ix (pp 0) (pp_ix (pp 1) pp_int)) (pp_ix (pp 0) (pp_ix (pp 1) pp_int))))
   (pss_cons (ps_if (pt_gt (pp_callB call_len_seq gLen_ok rfl B.len boot_lenH (pq_cons (pp 2) pq_nil)) (pp_con C.most rfl)) (pss_one (ps_ret (pe_lst (pq_cons (pp_con C.many rfl) pq_nil)))) pss_nil)
   (pss_cons (ps_asg (pp 2) (pg_sub (pp 0) (pp_ix (pp 1) pp_int) set_list))
   (pss_one (ps_ret (pe_lst (pq_cons (pp_callB call_len_seq gLen_ok rfl B.len boot_lenH (pq_cons (pp 2) pq_nil)) pq_nil)))))),?_⟩
  refine ⟨.ref ad,?_,.ref bd,?_,ad,bd,vs,us,rfl,rfl,had,hbd,?_,fun q hq=>?_⟩
  ·show fIx (fVar 0) (fIx (fVar 1) (fC (.int 0))) [some (.ref h),some (.ref r),none] H=_
   simp only [f2,fVar,fC,gZ,gS,oJ,oB,rd0 hrow,hix]
  ·show fIx (fVar 0) (fIx (fVar 1) (fC (.int 1))) [some (.ref h),some (.ref r),none] H=_
   simp only [f2,fVar,fC,gZ,gS,oJ,oB,rd1 hrow,hixb]
  ·exact Nat.le_trans (show vs.length+us.length<=18 by omega) (by decide)
  ·have s1:=same_new (o:=.lst (vs++us)) hq
   have hq1:upd H q (.lst (vs++us)) q=some (.lst (vs++us)):=upd_same
   have hrow1:=s1 _ _ hrow
   have al:All (Rp (upd H q (.lst (vs++us)))) (vs++us) (seen st a++seen st b):=(hall.imp fun _ _ z=>z.to (same_tup s1)).append (hallb.imp fun _ _ z=>z.to (same_tup s1))
   have ll:(vs++us).length=(seen st a).length+(seen st b).length:=by rw [List.length_append];omega
   refine ⟨decide (9 < ((vs++us).length:Int)),?_,ite_bl (fun c=>?_) (fun c=>?_)⟩
   ·show f2 _ (fCall gLen _) _ [some (.ref h),some (.ref r),some (.ref q)] _=_
    simp only [fCall,fCons,fNil,f2,fVar,fC,gZ,gS,oJ,oB,gLen_l hq1,gI]
   ·have c:=of_decide_eq_true c
    refine ⟨[.int (-3)],rfl,(by show 1<=sizeLine;decide),fun p hp=>?_⟩
    have ea:act st (.join a b d)=(st,[-3]):=by
     show (if Vbecap.SIGHTINGS < (seen st a).length+(seen st b).length then _ else _)=_
     rw [if_pos (by unfold Vbecap.SIGHTINGS;omega)]
    rw [ea] at k
    exact k _ p as (post_same hd (s1.trans (same_new hp))) (by rw [upd_same];rfl) (s1.free hp)
   ·have c:=of_decide_eq_false c
    have ea:act st (.join a b d)=(st.set d.toNat (seen st a++seen st b),[((seen st a).length:Int)+((seen st b).length:Int)]):=by
     show (if Vbecap.SIGHTINGS < (seen st a).length+(seen st b).length then _ else _)=_
     rw [if_neg (by unfold Vbecap.SIGHTINGS;omega)]
    rw [ea] at k
    refine ⟨.ref q,rfl,.ref h,rfl,.int d,?_,h,_,d,d.toNat,rfl,rfl,s1 _ _ hd.lst,?_,?_⟩
    ·show fIx (fVar 1) (fC (.int 2)) [some (.ref h),some (.ref r),some (.ref q)] _=_
     simp only [f2,fVar,fC,gZ,gS,oJ,oB,rd2 hrow1]
    ·rw [List.length_map,hd.len];exact ix_four hdd
    ·have po:=herd_new hd s1 (i:=d.toNat) (by omega) hq hq1 al ⟨by rw [List.length_append];omega,fun p hp=>by
      rcases List.mem_append.mp hp with hp | hp
      ·exact hmd p hp
      ·exact hmdb p hp⟩
     have nqh:q≠h:=fun z=>by rw [z,hd.lst] at hq;cases hq
     refine ⟨[.int ((vs++us).length:Nat)],?_,(by show 1<=sizeLine;decide),fun p hp=>?_⟩
     ·have hq2:upd (upd H q (.lst (vs++us))) h (.lst ((as.map V.ref).set d.toNat (.ref q))) q=some (.lst (vs++us)):=by rw [upd_ne nqh];exact hq1
      show fCons (fCall gLen (fCons (fVar 2) fNil)) fNil [some (.ref h),some (.ref r),some (.ref q)] _=_
      simp only [fCall,fCons,fNil,fVar,gZ,gS,oJ,oB,gLen_l hq2]
     ·refine k _ p _ (po.same (same_new hp)) ?_ ?_
      ·rw [upd_same,ll]
       show some (HO.lst [V.int (((seen st a).length+(seen st b).length:Nat):Int)])=some (HO.lst [V.int (((seen st a).length:Int)+((seen st b).length:Int))])
       rw [Int.natCast_add]
      ·have np:p≠h:=fun z=>by rw [z,upd_same] at hp;cases hp
       rw [upd_ne np] at hp
       exact s1.free hp
end
theorem onGrid_eq (x y:Int):onGrid x y=(within x (-1000) 1000 && within y (-1000) 1000):=rfl
section
variable {P:Program} {w:World} {K:PySem.W.Frag} {mg:Str->Option Value} {base:Heap}
abbrev sTurnC:Stmt:=top 60
theorem scTurnC:FnScope ["herd","row","place"] ["herd","row"] (defScope sTurnC):=⟨rfl,rfl,rfl,by decide +kernel,rfl,by decide +kernel,by decide +kernel⟩
theorem ok_turnCall (S:Src K mg "turn" sTurnC ["herd","row"]):Act P w K mg base "turn" 6:=by
 refine def_ok S scTurnC (fun vs H Q E h=>?_) (fun f cdv A outer s H vs Q E hr h=>?_)
 ·obtain ⟨h,r,as,st,row,c,rfl,_⟩:=h;rfl
 ·obtain ⟨h,r,as,st,row,c,rfl,hd,hrow,is,inr,k⟩:=h
  obtain ⟨a,rfl,rfl⟩:=is
  have ha:=animal_iff inr
  obtain ⟨ad,vs,e1,had,hall,hlen,hmd,hvl,hix,est⟩:=hd.get ha
  refine ⟨_,pss_cons (ps_asg (pe_lc (own:=[("place",2)]) rfl scTurnC.nd (pi_list (pp_ix (pp 0) (pp_ix (pp 1) pp_int))) (blkOk_by (by show blkC ["herd","row","place"] (defScope sTurnC) _ _=true;decide +kernel))
    (fun _ _ _ _ _=>pg_name (i:=2) scTurnC.nd rfl (Or.inl rfl)) (fun _ _ _ _ _=>pts_nil) (fun _ _ _ _ _=>pe_tup (pq_cons (pp_neg (pp_ix (pp 2) pp_int)) (pq_cons (pp_ix (pp 2) pp_int) pq_nil)))) (pg_sub (pp 0) (pp_ix (pp 1) pp_int) set_list))
   (pss_one (ps_ret (pe_lst (pq_cons pp_int pq_nil)))),?_⟩
  refine ⟨.ref ad,?_,ad,rfl,⟨vs,.of had⟩,fun D hD=>?_⟩
  ·show fIx (fVar 0) (fIx (fVar 1) (fC (.int 0))) [some (.ref h),some (.ref r),none] H=_
   simp only [f2,fVar,fC,gZ,gS,oJ,oB,rd0 hrow,hix]
  refine lc_map (R':=Rp) tu_p hD (.of had) ((seen st a).map fun p=>(-p.2,p.1)) (by rw [List.length_map,hvl]) (by omega) (fun x=>rfl) (fun i v z H2 hv hz s2 Q2 hQ2=>?_) (fun H1 ws s1 h1 a1=>?_)
  ·obtain ⟨p,hp,b,rfl,hb⟩:=hall.get' hv
   rw [List.getElem?_map,hp] at hz
   cases hz
   have hb2:=s2 _ _ hb
   have e0:gIx (.ref b) (.int 0) H2=some (.int p.1):=by rw [gIx_t hb2];rfl
   have e1:gIx (.ref b) (.int 1) H2=some (.int p.2):=by rw [gIx_t hb2];rfl
   have n1:gNeg (.int p.2)=some (.int (-p.2)):=rfl
   refine ⟨[.int (-p.2),.int p.1],?_,(by show 2<=sizeLine;decide),fun t ht=>hQ2 _ _ (same_new ht) ⟨t,rfl,upd_same⟩⟩
   show fCons (f1 (fun x _=>gNeg x) (fIx (fVar 2) (fC (.int 1)))) (fCons (fIx (fVar 2) (fC (.int 0))) fNil) [some (.ref h),some (.ref r),some (.ref b)] H2=_
   simp only [fCons,fNil,f2,f1,fVar,fC,gZ,gS,oJ,oB,e0,e1,n1]
  ·have hrow1:=s1 _ _ hrow
   refine ⟨.ref h,rfl,.int a,?_,h,_,a,a.toNat,rfl,rfl,s1 _ _ hd.lst,?_,?_⟩
   ·show fIx (fVar 1) (fC (.int 0)) [some (.ref h),some (.ref r),none] _=_
    simp only [f2,fVar,fC,gZ,gS,oJ,oB,rd0 hrow1]
   ·rw [List.length_map,hd.len];exact ix_four ha
   ·have po:=herd_new hd s1 (i:=a.toNat) (by omega) hD h1 a1 ⟨by rw [List.length_map];exact hlen,fun p hp=>by
     obtain ⟨p0,hp0,rfl⟩:=List.mem_map.mp hp
     have:=hmd p0 hp0
     rw [mdP_iff] at this ⊢
     simp only
     omega⟩
    refine ⟨[.int 0],rfl,(by show 1<=sizeLine;decide),fun p hp=>?_⟩
    refine k _ p _ (po.same (same_new hp)) ?_ ?_
    ·rw [upd_same];rfl
    ·have np:p≠h:=fun z=>by rw [z,upd_same] at hp;cases hp
     rw [upd_ne np] at hp
     exact s1.free hp
abbrev sShift:Stmt:=top 59
theorem scShift:FnScope ["herd","row","moved","place"] ["herd","row"] (defScope sShift):=⟨rfl,rfl,rfl,by decide +kernel,rfl,by decide +kernel,by decide +kernel⟩
theorem ok_shift (C:Cons mg)(S:Src K mg "shift" sShift ["herd","row"]) (D1:Def P w K mg base "on_grid" 1 ["number"] (spP gOnGrid)):Act P w K mg base "shift" 5:=by
 refine def_ok S scShift (fun vs H Q E h=>?_) (fun f cdv A outer s H vs Q E hr h=>?_)
 ·obtain ⟨h,r,as,st,row,c,rfl,_⟩:=h;rfl
 ·obtain ⟨h,r,as,st,row,c,rfl,hd,hrow,is,inr,k⟩:=h
  obtain ⟨a,x,y,rfl,rfl⟩:=is
  have ha:=animal_iff (and1 inr)
  obtain ⟨ad,vs,e1,had,hall,hlen,hmd,hvl,hix,est⟩:=hd.get ha
  refine ⟨_,pss_cons (ps_setLc (i:=2) (own:=[("place",3)]) rfl scShift.nd rfl rfl (sw_true rfl rfl rfl rfl) (pi_list (pp_ix (pp 0) (pp_ix (pp 1) pp_int))) (blkOk_by (by show blkC ["herd","row","moved","place"] (defScope sShift) _ _=true;decide +kernel))
    (fun _ _ _ _ _=>pg_name (i:=3) scShift.nd rfl (Or.inl rfl)) (fun _ _ _ _ _=>pts_nil) (fun _ _ _ _ _=>pe_tup (pq_cons (pp_add (pp_ix (pp 3) pp_int) (pp_ix (pp 1) pp_int)) (pq_cons (pp_add (pp_ix (pp 3) pp_int) (pp_ix (pp 1) pp_int)) pq_nil))))
   (pss_cons (ps_for PassesOwn.never rfl (pi_list (pp 2)) (pg_name (i:=3) scShift.nd rfl (Or.inl rfl))
    (pss_one (ps_if (PW.pt (pw_or (pt_not (pt_pure (pp_def D1 (hr.mono (by decide)) rfl (pq_cons (pp_ix (pp 3) pp_int) pq_nil)))) (pw_or1 (pt_not (pt_pure (pp_def D1 (hr.mono (by decide)) rfl (pq_cons (pp_ix (pp 3) pp_int) pq_nil))))))) (pss_one (ps_ret (pe_lst (pq_cons (pp_con C.over rfl) pq_nil)))) pss_nil)))
   (pss_cons (ps_asg (pp 2) (pg_sub (pp 0) (pp_ix (pp 1) pp_int) set_list))
   (pss_one (ps_ret (pe_lst (pq_cons pp_int pq_nil)))))),?_⟩
  refine ⟨.ref ad,?_,ad,rfl,⟨vs,.of had⟩,fun D hD=>?_⟩
  ·show fIx (fVar 0) (fIx (fVar 1) (fC (.int 0))) [some (.ref h),some (.ref r),none,none] H=_
   simp only [f2,fVar,fC,gZ,gS,oJ,oB,rd0 hrow,hix]
  generalize hL:(seen st a).map (fun p=>(p.1+x,p.2+y))=L
  have lL:L.length=(seen st a).length:=by rw [<- hL,List.length_map]
  have ea:act st (.shift a x y)=(if (L.all fun p=>onGrid p.1 p.2)=false then (st,[-4]) else (st.set a.toNat L,[0])):=by rw [<- hL];rfl
  refine lc_map (R':=Rp) tu_p hD (.of had) L (by rw [lL,hvl]) (by omega) (fun x=>rfl) (fun i v z H2 hv hz s2 Q2 hQ2=>?_) (fun H1 ws s1 h1 a1=>?_)
  ·obtain ⟨p,hp,b,rfl,hb⟩:=hall.get' hv
   rw [<- hL,List.getElem?_map,hp] at hz
   cases hz
   have hb2:=s2 _ _ hb
   have hrow2:=s2 _ _ hrow
   have e0:gIx (.ref b) (.int 0) H2=some (.int p.1):=by rw [gIx_t hb2];rfl
   have e1:gIx (.ref b) (.int 1) H2=some (.int p.2):=by rw [gIx_t hb2];rfl
   refine ⟨[.int (p.1+x),.int (p.2+y)],?_,(by show 2<=sizeLine;decide),fun t ht=>hQ2 _ _ (same_new ht) ⟨t,rfl,upd_same⟩⟩
   show fCons (fAdd (fIx (fVar 3) (fC (.int 0))) (fIx (fVar 1) (fC (.int 1)))) (fCons (fAdd (fIx (fVar 3) (fC (.int 1))) (fIx (fVar 1) (fC (.int 2)))) fNil) [some (.ref h),some (.ref r),none,some (.ref b)] H2=_
   simp only [fCons,fNil,f2,f1,fVar,fC,gZ,gS,oJ,oB,e0,e1,rd1 hrow2,rd2 hrow2,gI]
  ·refine ⟨.ref D,rfl,D,rfl,⟨ws,.of h1⟩,for_list (K:=K) (a:=D) (xs:=ws) (fun i σ H'=>∃ v3:Option V,σ=[some (.ref h),some (.ref r),some (.ref D),v3]/\H'=H1/\∀ p∈L.take i,onGrid p.1 p.2=true)
    ⟨none,rfl,rfl,fun p hp=>by simp at hp⟩ (fun i σ H' _ ⟨_,_,e,_⟩=>by rw [e];exact .of h1) ?_ ?_⟩
   ·rintro i vv σ H2 hi ⟨v3,rfl,rfl,hg⟩
    obtain ⟨p,hp,b,rfl,hb⟩:=a1.get' hi
    have e0:gIx (.ref b) (.int 0) H2=some (.int p.1):=by rw [gIx_t hb];rfl
    have e1:gIx (.ref b) (.int 1) H2=some (.int p.2):=by rw [gIx_t hb];rfl
    have g1:gOnGrid [.int p.1] H2=some (.bl (within p.1 (-1000) 1000)):=rfl
    have g2:gOnGrid [.int p.2] H2=some (.bl (within p.2 (-1000) 1000)):=rfl
    have out:onGrid p.1 p.2=false->tRet (tLst (tPA (fCons (fC (.int (-4))) fNil))) {nx:=fun _ H'=>Q .non H',rt:=Q} [some (.ref h),some (.ref r),some (.ref D),some (.ref b)] H2:=fun c=>by
     refine ⟨[.int (-4)],rfl,(by show 1<=sizeLine;decide),fun q hq=>?_⟩
     have:(L.all fun p=>onGrid p.1 p.2)=false:=List.all_eq_false.mpr ⟨p,List.mem_of_getElem? hp,by rw [c];decide⟩
     rw [ea,if_pos this] at k
     exact k _ q as (post_same hd (s1.trans (same_new hq))) (by rw [upd_same];rfl) (s1.free hq)
    refine ⟨within p.1 (-1000) 1000,?_,?_⟩
    ·show fCall gOnGrid (fCons (fIx (fVar 3) (fC (.int 0))) fNil) [some (.ref h),some (.ref r),some (.ref D),some (.ref b)] H2=_
     simp only [fCall,fCons,fNil,f2,fVar,fC,gZ,gS,oJ,oB,e0,g1]
    cases w1:within p.1 (-1000) 1000 with
    | false=>exact (if_pos rfl).mpr (out (by rw [onGrid_eq,w1];rfl))
    | true =>
     refine ⟨within p.2 (-1000) 1000,?_,?_⟩
     ·show fCall gOnGrid (fCons (fIx (fVar 3) (fC (.int 1))) fNil) [some (.ref h),some (.ref r),some (.ref D),some (.ref b)] H2=_
      simp only [fCall,fCons,fNil,f2,fVar,fC,gZ,gS,oJ,oB,e1,g2]
     cases w2:within p.2 (-1000) 1000 with
     | false=>exact (if_pos rfl).mpr (out (by rw [onGrid_eq,w2,Bool.and_false]))
     | true =>
      refine ⟨_,rfl,rfl,fun p' hp'=>?_⟩
      rw [take_snoc hp] at hp'
      rcases List.mem_append.mp hp' with z | z
      ·exact hg p' z
      ·rw [List.mem_singleton] at z;subst z
       rw [onGrid_eq,w1,w2];rfl
   ·rintro σ H2 ⟨v3,rfl,rfl,hg⟩
    have lw:ws.length=L.length:=a1.length
    rw [lw,List.take_length] at hg
    have:(L.all fun p=>onGrid p.1 p.2)=true:=List.all_eq_true.mpr hg
    rw [ea,if_neg (by rw [this];decide)] at k
    have hrow1:=s1 _ _ hrow
    refine ⟨.ref D,rfl,.ref h,rfl,.int a,?_,h,_,a,a.toNat,rfl,rfl,s1 _ _ hd.lst,?_,?_⟩
    ·show fIx (fVar 1) (fC (.int 0)) [some (.ref h),some (.ref r),some (.ref D),v3] _=_
     simp only [f2,fVar,fC,gZ,gS,oJ,oB,rd0 hrow1]
    ·rw [List.length_map,hd.len];exact ix_four ha
    ·have po:=herd_new hd s1 (i:=a.toNat) (by omega) hD h1 a1 ⟨by rw [lL];exact hlen,fun p hp=>grid_iff (hg p hp)⟩
     refine ⟨[.int 0],rfl,(by show 1<=sizeLine;decide),fun p hp=>?_⟩
     refine k _ p _ (po.same (same_new hp)) ?_ ?_
     ·rw [upd_same];rfl
     ·have np:p≠h:=fun z=>by rw [z,upd_same] at hp;cases hp
      rw [upd_ne np] at hp
      exact s1.free hp
end
theorem draws_str {prog:Program}{w:World}{A:Around}(hh:A.handled=none)(it:Addr)(x:PySem.Str)(t:Tok) :
  Draws prog w A it [it] x.cps.size (fun i v=>∃ c u,x.cps[i]?=some c/\v=.str ⟨#[c]⟩ u) (fun i h=>h.IsStrIter it (strIterType x) x t i):=by
 unfold strIterType
 split
 ·exact Draws.strAscii hh it x t
 ·exact Draws.strWide hh it x t
def Itse (x:PySem.Str):It :=
 ⟨fun i _=>i < x.cps.size,fun i H v H'=>∃ T c,v=.ref T/\H T=none/\x.cps[i]?=some c/\H'=upd H T (.tup [.int (i:Nat),.str ⟨#[c]⟩]),fun i _=>x.cps.size<=i⟩
theorem turn_enumS {P:Program}{w:World}{K:PySem.W.Frag}{elts:List Expr}{kk:Nat}{tpos:Pos}(x:PySem.Str)(t:Tok)(e it:Addr) :
  Turn P w K (.Tuple elts kk tpos) (Itse x) [e,it] e (fun i h=>(∃ old,IsEnum h e it ((i:Nat):Int) old)/\h.IsStrIter it (strIterType x) x t i/\e≠it/\i<=x.cps.size) where
 mem:=by simp
 obj:=fun i h st b hb=>by
  obtain ⟨⟨old,he⟩,⟨o,ho,hc,hd⟩,_⟩:=st
  have e':b=e\/b=it:=by simpa using hb
  rcases e' with z | z
  ·rw [z];exact ⟨_,he,fun v q=>nomatch q⟩
  ·rw [z];exact ⟨o,ho,fun v q=>by rw [hd] at q;cases q⟩
 keep:=fun i h h' st k=>let ⟨⟨old,he⟩,⟨o,ho,r⟩,hne,hi⟩:=st;⟨⟨old,k e (by simp) _ he⟩,⟨o,k it (by simp) o ho,r⟩,hne,hi⟩
 item:=by
  intro X hP hw hK hc i pins s σ H E I hf st hg
  subst hP hw hK
  obtain ⟨⟨old,he⟩,hit,hne,hi⟩:=st
  have hel:e < s.heap.objs.size:=Heap.lt_size he
  have hil:it < s.heap.objs.size:=by obtain ⟨_,q,_⟩:=hit;exact Heap.lt_size q
  refine wpAny_pyNext_enum_itemD (draws_str (by show X.A.in1.handled=none;exact I.ok.hd hc) it x t) he hit hg hne (by simpa using hne) fun u h' tk hP ho hit' hT hsz hk=>?_
  obtain ⟨c,tu,hcx,rfl⟩:=hP
  refine ⟨_,rfl,wpAny_letOwnedTupleGo_enum (s:={s with heap:=h',toks:=tk+1}) ho fun h'' he' sb=>?_⟩
  have hT2:h''.get? s.heap.objs.size=some {cls:=.type "tuple",data:=.seq #[.int i tk,.str ⟨#[c]⟩ tu]}:=(sb.2 _ (Nat.ne_of_gt hel)).trans hT
  have new:ObjOk X.prog X.w (upd H s.heap.objs.size (.tup [.int (i:Nat),.str ⟨#[c]⟩])) h'' s.heap.objs.size (.tup [.int (i:Nat),.str ⟨#[c]⟩]) :=
   ⟨by show 2<=sizeLine;decide,[.int i tk,.str ⟨#[c]⟩ tu],.cons ⟨_,rfl⟩ (.cons ⟨_,rfl⟩ .nil),⟨_,hT2,rfl,_,rfl⟩⟩
  have I1:Inv X pins σ (upd H s.heap.objs.size (.tup [.int (i:Nat),.str ⟨#[c]⟩])) {s with heap:=h'',toks:=tk+1} :=
   I.turnedNew (ch:=[e,it]) (fun b ob hb q=>(sb.2 b (fun z=>hb (by simp [z]))).trans (hk b ob (fun z=>hb (by simp [z])) (fun z=>hb (by simp [z])) q)) hf (Nat.le_refl _) new
  refine ⟨.ref s.heap.objs.size,_,I1,rfl,⟨_,c,rfl,I.hok.fresh (Nat.le_refl _),hcx,rfl⟩,⟨⟨.str ⟨#[c]⟩ tu,?_⟩,?_,hne,hg⟩,fun b hb=>?_⟩
  ·have e1:((i+1:Nat):Int)=(i:Int)+1:=by omega
   rw [e1];exact he'
  ·obtain ⟨o,ho',r⟩:=hit'
   exact ⟨o,(sb.2 it (Ne.symm hne)).trans ho',r⟩
  ·have hb':b < s.heap.objs.size:=by
    have e':b=e\/b=it:=by simpa using hb
    rcases e' with z | z
    ·rw [z];exact hel
    ·rw [z];exact hil
   rw [upd_ne (Nat.ne_of_lt hb')]
   exact (hf b hb).1
 done:=by
  intro X hP hw hK hc i pins s σ H E I hf st hg
  subst hP hw hK
  obtain ⟨⟨old,he⟩,hit,hne,hi⟩:=st
  have ei:i=x.cps.size:=Nat.le_antisymm hi hg
  subst ei
  obtain ⟨f0,f1,f2,f3,f4,f5⟩:=hf it (by simp)
  exact wpAny_pyNext_enum_endD (draws_str (by show X.A.in1.handled=none;exact I.ok.hd hc) it x t) he hit fun h' eb=>⟨rfl,I.turned (t':=s.toks) (fun b o hb q=>eb b o hb q) f0 f1 f3 f4 f5⟩
 self:=fun A i s Q E st h=>let ⟨⟨_,he⟩,_⟩:=st;wpAny_pyIter_enum he h
def iEnumS (ta:TA):TI:=fun σ H R=>ta σ H fun vs H1=>∃ x:PySem.Str,vs=[.str x]/\R (Itse x) H1
theorem pi_enumS {X:Cx}{e:Expr}{ta:TA}{p pos tpos:Pos}{elts:List Expr}{kk:Nat}(hg:Gl X "enumerate") (hm:X.mg "enumerate" = none) (ha:PA X [e] ta) (hs:starEach [e] X.env=[(false,eval e X.env)]:=by rfl) :
  PI X (.Tuple elts kk tpos) (.Call (.Name "enumerate" p) [e] [] pos) (iEnumS ta):=by
 intro pins s σ H R I h
 refine Call_ (ld_blt I hg hm boot_enumerate (PyProof.Rows.callWith_type1 (thn (ha pos pins s σ H _ I h) fun us s1 ⟨vs,H1,I1,r1,q1⟩=>?_) hs rfl))
 obtain ⟨x,ex,q⟩:=q1
 subst ex
 cases r1 with
 | cons r rr =>
  cases rr
  obtain ⟨t,rfl⟩:=r
  refine call_enumerate_str fun h' he hit hsz hk=>wpAny_pyIter_enum he ?_
  have I2:Inv X pins σ H1 {s1 with heap:=h'}:=I1.kept (t':=s1.toks) hk
  refine ⟨s1.heap.objs.size+1,[s1.heap.objs.size+1,s1.heap.objs.size],_,_,H1,rfl,I2,turn_enumS x t (s1.heap.objs.size+1) s1.heap.objs.size,⟨⟨.none,he⟩,hit,Nat.succ_ne_self _,Nat.zero_le _⟩,fun b hb=>?_,q⟩
  have e':b=s1.heap.objs.size+1\/b=s1.heap.objs.size:=by simpa using hb
  have hle:s1.heap.objs.size<=b:=by
   rcases e' with z | z
   ·rw [z];exact Nat.le_add_right _ _
   ·rw [z];exact Nat.le_refl _
  exact I1.fpOk hle (I1.hok.fresh hle)
theorem for_enumS {x:PySem.Str}{g:TG}{tb:TS}{D:Ends}{σ:L2.St}{H:Hp}(Pv:Nat->L2.St->Hp->Prop)(h0:Pv 0 σ H)
  (hs:∀ (i:Nat) c σ H T,x.cps[i]?=some c->Pv i σ H->H T=none->g (.ref T) σ (upd H T (.tup [.int (i:Nat),.str ⟨#[c]⟩])) fun σ2 H2=>tb {D with nx:=Pv (i+1),ct:=Pv (i+1),bk:=D.nx} σ2 H2) (hd:∀ σ H,Pv x.cps.size σ H->D.nx σ H) :
  ∃ W:Nat->Nat->L2.St->Hp->Prop,(∃ m,W 0 m σ H)/\∀ i m σ H,W i m σ H ->
   ((Itse x).stop i H/\D.nx σ H)\/((Itse x).go i H/\∃ N:L2.St->Hp->Prop,(∀ σ' H',N σ' H'->∃ m',m' < m/\W (i+1) m' σ' H')/\∀ v H',(Itse x).yld i H v H'->g v σ H' fun σ2 H2=>tb {D with nx:=N,ct:=N,bk:=D.nx} σ2 H2):=by
 refine ⟨fun i m σ H=>m=x.cps.size-i/\i<=x.cps.size/\Pv i σ H,⟨x.cps.size,by simp,Nat.zero_le _,h0⟩,?_⟩
 rintro i m σ H ⟨rfl,hi,p⟩
 by_cases hlt:i < x.cps.size
 ·refine .inr ⟨hlt,Pv (i+1),fun σ' H' p'=>⟨x.cps.size-(i+1),by omega,rfl,hlt,p'⟩,fun v H' y=>?_⟩
  obtain ⟨T,c,rfl,hT,hc,rfl⟩:=y
  exact hs i c _ _ T hc p hT
 ·have e:i=x.cps.size:=by omega
  subst e
  exact .inl ⟨Nat.le_refl _,hd σ H p⟩
def okSign (st:State)(row:List Int)(c:Nat)(n:Int):Bool :=
 if c=97 then within n 0 3 else if c=105 then within n 0 (((seen st (row.getD 0 0)).length:Int)-1) else if c=107 then within n 0 3 else within n (-1000) 1000
def chk (st:State)(row:List Int)(x:PySem.Str):Bool:=(List.range x.cps.size).all fun i=>okSign st row (x.cps.getD i 0) (row.getD i 0)
theorem sign_eq (c d:Nat):decide (V.str ⟨#[c]⟩=V.str ⟨#[d]⟩)=decide (c=d):=by
 congr 1
 simp
theorem str_a:(Str.ofString "a")=⟨#[97]⟩:=by decide
theorem str_i:(Str.ofString "i")=⟨#[105]⟩:=by decide
theorem str_k:(Str.ofString "k")=⟨#[107]⟩:=by decide
abbrev sInR:Stmt:=top 76
abbrev sAllR:Stmt:=top 77
theorem scInR:FnScope ["herd","sign","row","k"] ["herd","sign","row","k"] (defScope sInR):=⟨rfl,rfl,rfl,by decide +kernel,rfl,by decide +kernel,by decide +kernel⟩
theorem scAllR:FnScope ["herd","signs","row","k","sign"] ["herd","signs","row"] (defScope sAllR):=⟨rfl,rfl,rfl,by decide +kernel,rfl,by decide +kernel,by decide +kernel⟩
def spInR:Sp:=fun vs H Q _=>∃ (h r:Addr) (as:List Addr) (st:State) (row:List Int) (c k:Nat) (n:Int),vs=[.ref h,.str ⟨#[c]⟩,.ref r,.int k]/\Herd H h as st/\H r=some (.lst (iV row))/\row[k]?=some n/\(c=105->isAnimal (row.getD 0 0)=true)/\Q (.bl (okSign st row c n)) H
def spAllR:Sp:=fun vs H Q _=>∃ (h r:Addr) (as:List Addr) (st:State) (row:List Int) (x:PySem.Str),vs=[.ref h,.str x,.ref r]/\Herd H h as st/\H r=some (.lst (iV row))/\row.length=x.cps.size/\(∀ i,x.cps[i]?=some 105->0 < i/\x.cps[0]?=some 97)/\∀ H',Same H H'->Q (.bl (chk st row x)) H'
section
variable {P:Program} {w:World} {K:PySem.W.Frag} {mg:Str->Option Value} {base:Heap}
theorem ok_inr (B:Blt mg)(C:Cons mg)(S:Src K mg "in_range" sInR ["herd","sign","row","k"]) (D1:Def P w K mg base "on_grid" 1 ["number"] (spP gOnGrid)):Def P w K mg base "in_range" 2 ["herd","sign","row","k"] spInR:=by
 refine def_ok S scInR (fun vs H Q E h=>?_) (fun f cdv A outer s H vs Q E hr h=>?_)
 ·obtain ⟨h,r,as,st,row,c,k,n,rfl,_⟩:=h;rfl
 ·obtain ⟨h,r,as,st,row,c,kk,n,rfl,hd,hrow,hn,hi,k⟩:=h
  have ek:gIx (.ref r) (.int (kk:Nat)) H=some (.int n):=by
   rw [gIx_l hrow]
   exact at_nat (by unfold iV;rw [List.getElem?_map,hn];rfl)
  refine ⟨_,pss_cons (ps_if (pt_cmpR op_eq (pp 1) pe_str (nomark _)) (pss_one (ps_ret (pe_chain op_le op_lt pp_int (pp_ix (pp 2) (pp 3)) (pp_con C.animals rfl)))) pss_nil)
   (pss_cons (ps_if (pt_cmpR op_eq (pp 1) pe_str (nomark _)) (pss_one (ps_ret (pe_chain op_le op_lt pp_int (pp_ix (pp 2) (pp 3)) (pp_callB call_len_seq gLen_ok rfl B.len boot_lenH (pq_cons (pp_ix (pp 0) (pp_ix (pp 2) pp_int)) pq_nil))))) pss_nil)
   (pss_cons (ps_if (pt_cmpR op_eq (pp 1) pe_str (nomark _)) (pss_one (ps_ret (pe_chain op_le op_le pp_int (pp_ix (pp 2) (pp 3)) (pp_con C.left rfl)))) pss_nil)
   (pss_one (ps_ret (pp_def D1 hr rfl (pq_cons (pp_ix (pp 2) (pp 3)) pq_nil)))))),?_⟩
  have rk:fIx (fVar 2) (fVar 3) [some (.ref h),some (.str ⟨#[c]⟩),some (.ref r),some (.int (kk:Nat))] H=some (.int n):=by
   simp only [f2,fVar,fC,gZ,gS,oJ,oB,ek]
  unfold okSign at k
  refine ⟨.str ⟨#[c]⟩,rfl,rfl,decide (c=97),?_,ite_bl (fun z=>?_) (fun z=>?_)⟩
  ·rw [<- sign_eq,<- str_a]
  ·have z:=of_decide_eq_true z
   rw [if_pos z] at k
   unfold Vbecap.within at k
   refine ⟨.int 0,rfl,.int n,rk,0,n,rfl,rfl,_,rfl,ite_bl (fun c1=>?_) (fun c1=>?_)⟩
   ·rw [c1,Bool.true_and] at k
    have:decide (n < 4)=decide (n<=3):=decide_eq_decide.mpr (by omega)
    refine ⟨.int 4,rfl,n,4,rfl,rfl,?_⟩
    show Q (.bl (decide (n < 4))) H
    rw [this];exact k
   ·rw [c1,Bool.false_and] at k
    exact k
  have z:=of_decide_eq_false z
  rw [if_neg z] at k
  refine ⟨.str ⟨#[c]⟩,rfl,rfl,decide (c=105),?_,ite_bl (fun z2=>?_) (fun z2=>?_)⟩
  ·rw [<- sign_eq,<- str_i]
  ·have z2:=of_decide_eq_true z2
   rw [if_pos z2] at k
   unfold Vbecap.within at k
   obtain ⟨ad,vs,e1,had,hall,hlen,hmd,hvl,hix,est⟩:=hd.get (animal_iff (hi z2))
   have r0:gIx (.ref r) (.int 0) H=some (.int (row.getD 0 0)):=by
    cases row with
    | nil=>simp at hn
    | cons a l=>exact rd0 hrow
   refine ⟨.int 0,rfl,.int n,rk,0,n,rfl,rfl,_,rfl,ite_bl (fun c1=>?_) (fun c1=>?_)⟩
   ·rw [c1,Bool.true_and] at k
    have:decide (n < (vs.length:Int))=decide (n<=((seen st (row.getD 0 0)).length:Int)-1):=decide_eq_decide.mpr (by omega)
    refine ⟨.int vs.length,?_,n,vs.length,rfl,rfl,?_⟩
    ·show fCall gLen (fCons (fIx (fVar 0) (fIx (fVar 2) (fC (.int 0)))) fNil) [some (.ref h),some (.str ⟨#[c]⟩),some (.ref r),some (.int (kk:Nat))] H=_
     simp only [fCall,fCons,fNil,f2,fVar,fC,gZ,gS,oJ,oB,r0,hix,gLen_l had]
    ·show Q (.bl (decide (n < (vs.length:Int)))) H
     rw [this];exact k
   ·rw [c1,Bool.false_and] at k
    exact k
  have z2:=of_decide_eq_false z2
  rw [if_neg z2] at k
  refine ⟨.str ⟨#[c]⟩,rfl,rfl,decide (c=107),?_,ite_bl (fun z3=>?_) (fun z3=>?_)⟩
  ·rw [<- sign_eq,<- str_k]
  ·have z3:=of_decide_eq_true z3
   rw [if_pos z3] at k
   unfold Vbecap.within at k
   refine ⟨.int 0,rfl,.int n,rk,0,n,rfl,rfl,_,rfl,ite_bl (fun c1=>?_) (fun c1=>?_)⟩
   ·rw [c1,Bool.true_and] at k
    exact ⟨.int 3,rfl,n,3,rfl,rfl,k⟩
   ·rw [c1,Bool.false_and] at k
    exact k
  have z3:=of_decide_eq_false z3
  rw [if_neg z3] at k
  refine ⟨.bl (within n (-1000) 1000),?_,k⟩
  show fCall gOnGrid (fCons (fIx (fVar 2) (fVar 3)) fNil) [some (.ref h),some (.str ⟨#[c]⟩),some (.ref r),some (.int (kk:Nat))] H=_
  simp only [fCall,fCons,fNil,f2,fVar,fC,gZ,gS,oJ,oB,ek]
  rfl
theorem ok_allr (B:Blt mg)(S:Src K mg "all_in_range" sAllR ["herd","signs","row"]) (D1:Def P w K mg base "in_range" 2 ["herd","sign","row","k"] spInR):Def P w K mg base "all_in_range" 3 ["herd","signs","row"] spAllR:=by
 refine def_ok S scAllR (fun vs H Q E h=>?_) (fun f cdv A outer s H vs Q E hr h=>?_)
 ·obtain ⟨h,r,as,st,row,x,rfl,_⟩:=h;rfl
 ·obtain ⟨h,r,as,st,row,x,rfl,hd,hrow,hlen,hx,k⟩:=h
  refine ⟨_,pss_cons (ps_for PassesOwn.never rfl (pi_enumS rfl B.enumerate (pq_cons (pp 1) pq_nil)) (pg_tup (n:=2) rfl (pgs_cons (pg_name (i:=3) (x:="k") scAllR.nd rfl (Or.inl rfl) (.inr rfl)) (pgs_cons (pg_name (i:=4) (x:="sign") scAllR.nd rfl (Or.inl rfl) (.inr rfl)) pgs_nil)))
    (pss_one (ps_if (pt_not (pt_val (pe_def D1 hr rfl (pq_cons (pp 0) (pq_cons (pp 4) (pq_cons (pp 2) (pq_cons (pp 3) pq_nil))))))) (pss_one (ps_ret pp_bl)) pss_nil)))
   (pss_one (ps_ret pp_bl)),?_⟩
  refine ⟨[.str x],rfl,x,rfl,for_enumS (fun i σ H'=>∃ v3 v4:Option V,σ=[some (.ref h),some (.str x),some (.ref r),v3,v4]/\Same H H'/\∀ j,j < i->okSign st row (x.cps.getD j 0) (row.getD j 0)=true)
   ⟨none,none,rfl,Same.refl _,fun j hj=>absurd hj (Nat.not_lt_zero _)⟩ ?_ ?_⟩
  ·rintro i c σ H1 T hc ⟨v3,v4,rfl,s1,ha⟩ hT
   have sT:=same_new (o:=.tup [.int (i:Nat),.str ⟨#[c]⟩]) hT
   have s2:=s1.trans sT
   have hix:i < x.cps.size:=(Array.getElem?_eq_some_iff.mp hc).1
   have hin:i < row.length:=by rw [hlen];exact hix
   have hn:row[i]?=some (row.getD i 0):=by rw [List.getD_eq_getElem?_getD,List.getElem?_eq_getElem hin];rfl
   have hcd:x.cps.getD i 0=c:=by
    obtain ⟨h1,e1⟩:=Array.getElem?_eq_some_iff.mp hc
    simp [Array.getD,h1,e1]
   refine ⟨T,_,rfl,.of upd_same,rfl,_,_,rfl,_,_,rfl,rfl,?_⟩
   refine ⟨[.ref h,.str ⟨#[c]⟩,.ref r,.int (i:Nat)],rfl,h,r,as,st,row,c,i,row.getD i 0,rfl,hd.same s2,s2 _ _ hrow,hn,fun z=>?_,?_⟩
   ·subst z
    obtain ⟨h0,h1⟩:=hx i hc
    have a0:=ha 0 h0
    have e0:x.cps.getD 0 0=97:=by
     obtain ⟨q1,q2⟩:=Array.getElem?_eq_some_iff.mp h1
     simp [Array.getD,q1,q2]
    rw [e0] at a0
    unfold okSign at a0
    rw [if_pos rfl] at a0
    exact a0
   ·refine ⟨_,rfl,?_⟩
    cases e:okSign st row c (row.getD i 0) with
    | true =>
     refine ⟨_,_,rfl,s2,fun j hj=>?_⟩
     by_cases q:j=i
     ·subst q;rw [hcd];exact e
     ·exact ha j (by omega)
    | false =>
     have:chk st row x=false:=by
      unfold chk
      exact List.all_eq_false.mpr ⟨i,List.mem_range.mpr hix,by rw [hcd,e];decide⟩
     rw [this] at k
     exact ⟨.bl false,rfl,k _ s2⟩
  ·rintro σ H1 ⟨v3,v4,rfl,s1,ha⟩
   have:chk st row x=true:=by
    unfold chk
    exact List.all_eq_true.mpr fun i hi=>ha i (List.mem_range.mp hi)
   rw [this] at k
   exact ⟨.bl true,rfl,k _ s1⟩
end
def arity:Nat->Nat
 | 0=>3 | 1=>2 | 2=>1 | 3=>1 | 4=>3 | 5=>3 | 6=>1 | 7=>1 | 8=>1 | 9=>3
 | 10=>3 | 11=>1 | 12=>2 | 13=>3 | 14=>1 | 15=>5 | 16=>1 | 17=>2 | 18=>2 | 19=>2 | _=>0
theorem whole_id (c:List (List Int)):PyVbecap.whole c=c:=by
 obtain _ | ⟨a,t⟩:=c
 ·rfl
 obtain _ | ⟨n | n,a⟩:=a
 ·cases t<;>rfl
 ·iterate 20
   obtain _ | n:=n
   ·obtain _ | ⟨_,_ | ⟨_,_ | ⟨_,_ | ⟨_,_ | ⟨_,_ | ⟨_,a⟩⟩⟩⟩⟩⟩:=a<;>cases t<;>rfl
  obtain _ | ⟨_,_ | ⟨_,_ | ⟨_,_ | ⟨_,_ | ⟨_,_ | ⟨_,a⟩⟩⟩⟩⟩⟩:=a<;>cases t<;>rfl
 ·obtain _ | ⟨_,_ | ⟨_,_ | ⟨_,_ | ⟨_,_ | ⟨_,_ | ⟨_,a⟩⟩⟩⟩⟩⟩:=a<;>cases t<;>rfl
theorem shape_is {p:Int}{q:Nat×Nat}(h:PyVbecap.shape p=some q):∃ n:Nat,n < 20/\p=(n:Nat)/\q=(arity n,0):=by
 unfold PyVbecap.shape at h
 by_cases e0:p=0
 ·rw [if_pos e0] at h;cases h;exact ⟨0,by decide,e0,rfl⟩
 rw [if_neg e0] at h
 by_cases e1:p=1
 ·rw [if_pos e1] at h;cases h;exact ⟨1,by decide,e1,rfl⟩
 rw [if_neg e1] at h
 by_cases e2:p=2
 ·rw [if_pos e2] at h;cases h;exact ⟨2,by decide,e2,rfl⟩
 rw [if_neg e2] at h
 by_cases e3:p=3
 ·rw [if_pos e3] at h;cases h;exact ⟨3,by decide,e3,rfl⟩
 rw [if_neg e3] at h
 by_cases e4:p=4
 ·rw [if_pos e4] at h;cases h;exact ⟨4,by decide,e4,rfl⟩
 rw [if_neg e4] at h
 by_cases e5:p=5
 ·rw [if_pos e5] at h;cases h;exact ⟨5,by decide,e5,rfl⟩
 rw [if_neg e5] at h
 by_cases e6:p=6
 ·rw [if_pos e6] at h;cases h;exact ⟨6,by decide,e6,rfl⟩
 rw [if_neg e6] at h
 by_cases e7:p=7
 ·rw [if_pos e7] at h;cases h;exact ⟨7,by decide,e7,rfl⟩
 rw [if_neg e7] at h
 by_cases e8:p=8
 ·rw [if_pos e8] at h;cases h;exact ⟨8,by decide,e8,rfl⟩
 rw [if_neg e8] at h
 by_cases e9:p=9
 ·rw [if_pos e9] at h;cases h;exact ⟨9,by decide,e9,rfl⟩
 rw [if_neg e9] at h
 by_cases e10:p=10
 ·rw [if_pos e10] at h;cases h;exact ⟨10,by decide,e10,rfl⟩
 rw [if_neg e10] at h
 by_cases e11:p=11
 ·rw [if_pos e11] at h;cases h;exact ⟨11,by decide,e11,rfl⟩
 rw [if_neg e11] at h
 by_cases e12:p=12
 ·rw [if_pos e12] at h;cases h;exact ⟨12,by decide,e12,rfl⟩
 rw [if_neg e12] at h
 by_cases e13:p=13
 ·rw [if_pos e13] at h;cases h;exact ⟨13,by decide,e13,rfl⟩
 rw [if_neg e13] at h
 by_cases e14:p=14
 ·rw [if_pos e14] at h;cases h;exact ⟨14,by decide,e14,rfl⟩
 rw [if_neg e14] at h
 by_cases e15:p=15
 ·rw [if_pos e15] at h;cases h;exact ⟨15,by decide,e15,rfl⟩
 rw [if_neg e15] at h
 by_cases e16:p=16
 ·rw [if_pos e16] at h;cases h;exact ⟨16,by decide,e16,rfl⟩
 rw [if_neg e16] at h
 by_cases e17:p=17
 ·rw [if_pos e17] at h;cases h;exact ⟨17,by decide,e17,rfl⟩
 rw [if_neg e17] at h
 by_cases e18:p=18
 ·rw [if_pos e18] at h;cases h;exact ⟨18,by decide,e18,rfl⟩
 rw [if_neg e18] at h
 by_cases e19:p=19
 ·rw [if_pos e19] at h;cases h;exact ⟨19,by decide,e19,rfl⟩
 rw [if_neg e19] at h
 cases h
inductive Dec:List Int->List (List (List Int))->Prop
 | nil:Dec [] []
 | cons {n:Nat} {row t:List Int} {cs:List (List (List Int))}:n < 20->row.length=arity n->Dec t cs->Dec (((n:Nat):Int)::(row++t)) ([((n:Nat):Int)::row]::cs)
theorem dec_of:∀ (f:Nat) (l:List Int) (cs:List (List (List Int))),PyFlat.calls PyVbecap.shape f l=some cs->Dec l cs
 | f,[],cs,h=>by
  unfold PyFlat.calls at h
  cases h;exact .nil
 | 0,p::r,cs,h=>by unfold PyFlat.calls at h;cases h
 | f+1,p::r,cs,h=>by
  unfold PyFlat.calls at h
  cases hc:PyFlat.call PyVbecap.shape (p::r) with
  | none=>rw [hc] at h;cases h
  | some ct =>
   obtain ⟨c,t⟩:=ct
   rw [hc] at h
   have h:(match PyFlat.calls PyVbecap.shape f t with | none=>none | some cs=>some (c::cs))=some cs:=h
   cases hr:PyFlat.calls PyVbecap.shape f t with
   | none=>rw [hr] at h;cases h
   | some cs' =>
    rw [hr] at h
    have h:c::cs'=cs:=Option.some.inj h
    subst h
    have ih:=dec_of f t cs' hr
    unfold PyFlat.call at hc
    dsimp only at hc
    cases hs:PyVbecap.shape p with
    | none=>rw [hs] at hc;cases hc
    | some q =>
     obtain ⟨n,hn,rfl,rfl⟩:=shape_is hs
     rw [hs] at hc
     have hc:(if r.length < arity n then none else match PyFlat.rows 0 (r.drop (arity n)) with | none=>none | some (xs,t)=>some (((n:Int)::r.take (arity n))::xs,t))=some (c,t):=hc
     split at hc
     ·cases hc
     ·rename_i hl
      have hc:some ([((n:Int)::r.take (arity n))],r.drop (arity n))=some (c,t):=hc
      cases hc
      have:=Dec.cons (n:=n) (row:=r.take (arity n)) (t:=r.drop (arity n)) hn (by rw [List.length_take];omega) ih
      rw [List.take_append_drop] at this
      exact this
theorem is_of {n:Nat}{row:List Int}(hn:n < 20)(hl:row.length=arity n):∃ c,Is n row c/\Vbecap.decode [((n:Nat):Int)::row]=some c:=by
 match n,hn with
 | 0,_=>match row,hl with | [a,x,y],_=>exact ⟨_,⟨a,x,y,rfl,rfl⟩,rfl⟩
 | 1,_=>match row,hl with | [a,x],_=>exact ⟨_,⟨a,x,rfl,rfl⟩,rfl⟩
 | 2,_=>match row,hl with | [a],_=>exact ⟨_,⟨a,rfl,rfl⟩,rfl⟩
 | 3,_=>match row,hl with | [a],_=>exact ⟨_,⟨a,rfl,rfl⟩,rfl⟩
 | 4,_=>match row,hl with | [a,x,y],_=>exact ⟨_,⟨a,x,y,rfl,rfl⟩,rfl⟩
 | 5,_=>match row,hl with | [a,x,y],_=>exact ⟨_,⟨a,x,y,rfl,rfl⟩,rfl⟩
 | 6,_=>match row,hl with | [a],_=>exact ⟨_,⟨a,rfl,rfl⟩,rfl⟩
 | 7,_=>match row,hl with | [a],_=>exact ⟨_,⟨a,rfl,rfl⟩,rfl⟩
 | 8,_=>match row,hl with | [a],_=>exact ⟨_,⟨a,rfl,rfl⟩,rfl⟩
 | 9,_=>match row,hl with | [a,x,y],_=>exact ⟨_,⟨a,x,y,rfl,rfl⟩,rfl⟩
 | 10,_=>match row,hl with | [a,x,y],_=>exact ⟨_,⟨a,x,y,rfl,rfl⟩,rfl⟩
 | 11,_=>match row,hl with | [a],_=>exact ⟨_,⟨a,rfl,rfl⟩,rfl⟩
 | 12,_=>match row,hl with | [a,x],_=>exact ⟨_,⟨a,x,rfl,rfl⟩,rfl⟩
 | 13,_=>match row,hl with | [a,x,y],_=>exact ⟨_,⟨a,x,y,rfl,rfl⟩,rfl⟩
 | 14,_=>match row,hl with | [a],_=>exact ⟨_,⟨a,rfl,rfl⟩,rfl⟩
 | 15,_=>match row,hl with | [a,x,y,u,v],_=>exact ⟨_,⟨a,x,y,u,v,rfl,rfl⟩,rfl⟩
 | 16,_=>match row,hl with | [a],_=>exact ⟨_,⟨a,rfl,rfl⟩,rfl⟩
 | 17,_=>match row,hl with | [a,x],_=>exact ⟨_,⟨a,x,rfl,rfl⟩,rfl⟩
 | 18,_=>match row,hl with | [a,x],_=>exact ⟨_,⟨a,x,rfl,rfl⟩,rfl⟩
 | 19,_=>match row,hl with | [a,x],_=>exact ⟨_,⟨a,x,rfl,rfl⟩,rfl⟩
 | n+20,h=>exact absurd h (by omega)
def signs:Nat->PySem.Str
 | 0=>⟨#[97,112,112]⟩ | 1=>⟨#[97,105]⟩ | 2=>⟨#[97]⟩ | 3=>⟨#[97]⟩ | 4=>⟨#[97,97,97]⟩ | 5=>⟨#[97,112,112]⟩ | 6=>⟨#[97]⟩ | 7=>⟨#[97]⟩ | 8=>⟨#[97]⟩ | 9=>⟨#[97,112,112]⟩
 | 10=>⟨#[97,112,112]⟩ | 11=>⟨#[97]⟩ | 12=>⟨#[97,107]⟩ | 13=>⟨#[97,112,112]⟩ | 14=>⟨#[97]⟩ | 15=>⟨#[97,112,112,112,112]⟩ | 16=>⟨#[97]⟩ | 17=>⟨#[97,97]⟩ | 18=>⟨#[97,97]⟩ | 19=>⟨#[97,97]⟩ | _=>⟨#[]⟩
theorem signs_len (n:Nat)(hn:n < 20):(signs n).cps.size=arity n:=by
 have:∀ n,n < 20->(signs n).cps.size=arity n:=by decide
 exact this n hn
theorem signs_i (n:Nat)(hn:n < 20):∀ i,(signs n).cps[i]?=some 105->0 < i/\(signs n).cps[0]?=some 97:=by
 intro i hi
 have hl:i < (signs n).cps.size:=(Array.getElem?_eq_some_iff.mp hi).1
 have hb:i < 5:=by
  rw [signs_len n hn] at hl
  have:∀ n,n < 20->arity n<=5:=by decide
  have:=this n hn
  omega
 have all:∀ n,n < 20->∀ i,i < 5->(signs n).cps[i]?=some 105->0 < i/\(signs n).cps[0]?=some 97:=by decide
 exact all n hn i hb hi
theorem chk_ok {st:State}{n:Nat}{row:List Int}{c:Vbecap.Call}(h:Is n row c):chk st row (signs n)=inRange st c:=by
 unfold chk okSign
 match n,h with
 | 0,h=>obtain ⟨a,x,y,rfl,rfl⟩:=h;simp [signs,List.range_succ,inRange,isAnimal,onGrid,Vbecap.BOUND,Bool.and_assoc]
 | 1,h=>obtain ⟨a,x,rfl,rfl⟩:=h;simp [signs,List.range_succ,inRange,isAnimal,onGrid,Vbecap.BOUND,Bool.and_assoc]
 | 2,h=>obtain ⟨a,rfl,rfl⟩:=h;simp [signs,List.range_succ,inRange,isAnimal,onGrid,Vbecap.BOUND,Bool.and_assoc]
 | 3,h=>obtain ⟨a,rfl,rfl⟩:=h;simp [signs,List.range_succ,inRange,isAnimal,onGrid,Vbecap.BOUND,Bool.and_assoc]
 | 4,h=>obtain ⟨a,x,y,rfl,rfl⟩:=h;simp [signs,List.range_succ,inRange,isAnimal,onGrid,Vbecap.BOUND,Bool.and_assoc]
 | 5,h=>obtain ⟨a,x,y,rfl,rfl⟩:=h;simp [signs,List.range_succ,inRange,isAnimal,onGrid,Vbecap.BOUND,Bool.and_assoc]
 | 6,h=>obtain ⟨a,rfl,rfl⟩:=h;simp [signs,List.range_succ,inRange,isAnimal,onGrid,Vbecap.BOUND,Bool.and_assoc]
 | 7,h=>obtain ⟨a,rfl,rfl⟩:=h;simp [signs,List.range_succ,inRange,isAnimal,onGrid,Vbecap.BOUND,Bool.and_assoc]
 | 8,h=>obtain ⟨a,rfl,rfl⟩:=h;simp [signs,List.range_succ,inRange,isAnimal,onGrid,Vbecap.BOUND,Bool.and_assoc]
 | 9,h=>obtain ⟨a,x,y,rfl,rfl⟩:=h;simp [signs,List.range_succ,inRange,isAnimal,onGrid,Vbecap.BOUND,Bool.and_assoc]
 | 10,h=>obtain ⟨a,x,y,rfl,rfl⟩:=h;simp [signs,List.range_succ,inRange,isAnimal,onGrid,Vbecap.BOUND,Bool.and_assoc]
 | 11,h=>obtain ⟨a,rfl,rfl⟩:=h;simp [signs,List.range_succ,inRange,isAnimal,onGrid,Vbecap.BOUND,Bool.and_assoc]
 | 12,h=>obtain ⟨a,x,rfl,rfl⟩:=h;simp [signs,List.range_succ,inRange,isAnimal,onGrid,Vbecap.BOUND,Bool.and_assoc]
 | 13,h=>obtain ⟨a,x,y,rfl,rfl⟩:=h;simp [signs,List.range_succ,inRange,isAnimal,onGrid,Vbecap.BOUND,Bool.and_assoc]
 | 14,h=>obtain ⟨a,rfl,rfl⟩:=h;simp [signs,List.range_succ,inRange,isAnimal,onGrid,Vbecap.BOUND,Bool.and_assoc]
 | 15,h=>obtain ⟨a,x,y,u,v,rfl,rfl⟩:=h;simp [signs,List.range_succ,inRange,isAnimal,onGrid,Vbecap.BOUND,Bool.and_assoc]
 | 16,h=>obtain ⟨a,rfl,rfl⟩:=h;simp [signs,List.range_succ,inRange,isAnimal,onGrid,Vbecap.BOUND,Bool.and_assoc]
 | 17,h=>obtain ⟨a,x,rfl,rfl⟩:=h;simp [signs,List.range_succ,inRange,isAnimal,onGrid,Vbecap.BOUND,Bool.and_assoc]
 | 18,h=>obtain ⟨a,x,rfl,rfl⟩:=h;simp [signs,List.range_succ,inRange,isAnimal,onGrid,Vbecap.BOUND,Bool.and_assoc]
 | 19,h=>obtain ⟨a,x,rfl,rfl⟩:=h;simp [signs,List.range_succ,inRange,isAnimal,onGrid,Vbecap.BOUND,Bool.and_assoc]
 | n+20,h=>exact h.elim
theorem places_len (l:List P2):(places l).length=1+2*l.length:=by
 unfold Vbecap.places
 rw [List.length_cons]
 have:∀ l:List P2,(l.flatMap fun p=>[p.1,p.2]).length=2*l.length:=fun l=>by
  induction l with
  | nil=>rfl
  | cons a l ih=>simp only [List.flatMap_cons,List.length_append,List.length_cons,List.length_nil,ih];omega
 rw [this];omega
theorem fold_pick {α β:Type}(f:β->α->β)(P:β->Prop):∀ (l:List α) (b:β),P b->(∀ b x,x∈l->P b->P (f b x))->P (l.foldl f b)
 | [],b,h,_=>h
 | x::l,b,h,k=>fold_pick f P l (f b x) (k b x (.head _) h) fun b y hy hb=>k b y (.tail _ hy) hb
theorem least_len (l:List P2)(k:Nat)(hk:k<=3):(least l k).2.length<=3:=by
 unfold Vbecap.least
 simp only
 refine fold_pick _ (fun b:Int×List Nat=>b.2.length<=3) _ _ ?_ fun b x hx hb=>?_
 ·cases e:chosen k (List.range l.length) with
  | nil=>simp
  | cons c cs =>
   have:c∈chosen k (List.range l.length):=by rw [e];exact List.mem_cons_self
   show c.length<=3
   rw [mem_chosen_len this];exact hk
 ·split
  ·show x.length<=3
   rw [mem_chosen_len hx];exact hk
  ·exact hb
theorem act_len {st:State}(hs:∀ l∈st,l.length<=9/\MdL l){c:Vbecap.Call}(hr:inRange st c=true):(act st c).2.length<=19:=by
 have sl:∀ a,(seen st a).length<=9:=fun a=>by
  unfold Vbecap.seen
  rw [List.getD_eq_getElem?_getD]
  cases e:st[a.toNat]? with
  | none=>simp
  | some l=>exact (hs l (List.mem_of_getElem? e)).1
 cases c with
 | see a x y=>show (if _ then _ else _:State×List Int).2.length<=19;split<;>simp
 | forget a i=>show 1<=19;decide
 | told a=>show (places (seen st a)).length<=19;rw [places_len];have:=sl a;omega
 | clear a=>show 1<=19;decide
 | join a b d=>show (if _ then _ else _:State×List Int).2.length<=19;split<;>simp
 | shift a x y=>show (if _ then _ else _:State×List Int).2.length<=19;split<;>simp
 | turn a=>show 1<=19;decide
 | hull a=>show (places (hull (seen st a))).length<=19;rw [places_len];have:=sl a;have:=G.hull_len (seen st a);omega
 | area a=>show 3<=19;decide
 | whereIs a x y=>show 1<=19;decide
 | depth a x y=>show 1<=19;decide
 | layers a =>
  show (_::Vbecap.ints (layers (seen st a))).length<=19
  unfold Vbecap.ints
  rw [List.length_cons,List.length_map,layers_len];have:=sl a;omega
 | least a k =>
  show (if _ then _ else _:State×List Int).2.length<=19
  have hk:=within_iff (and2 hr)
  split
  ·simp
  ·show (_::Vbecap.ints (least (seen st a) k.toNat).2).length<=19
   unfold Vbecap.ints
   rw [List.length_cons,List.length_map]
   have:=least_len (seen st a) k.toNat (by omega)
   omega
 | extent a x y =>
  show (match (seen st a).map fun p=>Vbecap.dot p (x,y) with | []=>_ | v::r=>_:State×List Int).2.length<=19
  split<;>simp
 | widest a=>show (if _ then _ else _:State×List Int).2.length<=19;split<;>simp
 | halves a x y u v=>show (if _ then _ else _:State×List Int).2.length<=19;split<;>simp [Vbecap.ints]
 | mean a=>show (if _ then _ else _:State×List Int).2.length<=19;split<;>simp [Vbecap.shown]
 | overlap a b=>show 2<=19;decide
 | meet a b=>show 1<=19;decide
 | gap a b=>show (if _ then _ else _:State×List Int).2.length<=19;split<;>simp [Vbecap.shown]
def stepOf (st:State)(c:Vbecap.Call):State×List Int:=if inRange st c=false then (st,[-1]) else act st c
theorem step_is {st:State}{n:Nat}{row:List Int}{c:Vbecap.Call}(hd:Vbecap.decode [((n:Nat):Int)::row]=some c):VbecapNeutral.step st [((n:Nat):Int)::row]=stepOf st c:=by
 unfold VbecapNeutral.step Vbecap.step
 rw [hd];rfl
theorem stepOf_len {st:State}(hs:∀ l∈st,l.length<=9/\MdL l)(c:Vbecap.Call):(stepOf st c).2.length<=19:=by
 unfold stepOf
 split
 ·simp
 ·rename_i h
  exact act_len hs (by simpa using h)
def At (P:Program)(w:World)(K:PySem.W.Frag)(mg:Str->Option Value)(base:Heap)(f:Addr)(k:Nat)(ps:List Str)(sp:Sp):Prop :=
 ∃ fd,FnOk P w K mg base CX0 k f fd ps sp/\PySem.W.keepIn K (.ref f)=true/\Binds K fd ps []
theorem Def.at {P:Program}{w:World}{K:PySem.W.Frag}{mg:Str->Option Value}{base:Heap}{x:Str}{k:Nat}{ps:List Str}{sp:Sp}{f:Addr}(D:Def P w K mg base x k ps sp)(h:mg x=some (.ref f)):At P w K mg base f k ps sp:=by
 obtain ⟨f',fd,F,hm,hk,hb⟩:=D
 rw [h] at hm
 cases hm
 exact ⟨fd,F,hk,hb⟩
section
variable {X:Cx} {x:Str} {p pos:Pos} {e:Expr} {es:List Expr} {t:TA}
def tCallV (X:Cx)(i:Nat)(k:Nat)(ps:List Str)(t:TA):TE:=fun σ H Q=>∃ f sp,σ[i]?=some (some (.ref f))/\At X.prog X.w X.K X.mg X.base f k ps sp/\t σ H fun vs H1=>sp vs H1 Q E0
theorem pe_callV {i k:Nat}{ps:List Str}(hr:Room k X.A)(ha:PA X (e::es) t)(hN:X.N[i]?=some x:=by rfl)(hv:Vis X.env.scope x:=by first | exact Or.inl rfl | exact Or.inr (Or.inl rfl) | exact Or.inr (Or.inr rfl))(hd:(x == ("__debug__" : Str))=false:=by decide) (hcd:(x == ("__classdict__" : Str))=false:=by decide)
  (he:starEach (e::es) X.env=(false,eval e X.env)::starEach es X.env:=by rfl) (hpl:(backTo pos (starEach es X.env)).any (·.1)=false:=by rfl) :
  PE X (.Call (.Name x p) (e::es) [] pos) (tCallV X i k ps t):=by
 intro pins s σ H Q I h
 obtain ⟨f,sp,hσ,⟨fd,F,hk,hb⟩,h⟩:=h
 refine wpAny_Call_Name_kw (thn ((pp i (x:=x) hN hv hd hcd) pins s σ H (fun v H'=>v=.ref f/\H'=H) I ⟨.ref f,by unfold fVar;rw [hσ];rfl,rfl,rfl⟩) fun u s1 ⟨v,H1,I1,r,e1,e2⟩=>?_)
 subst e1;subst e2
 cases r
 refine PySem.W.callWith_K (h₀:=X.base) I1.ok.mod.kin hk (thn (ha pos pins s1 σ H1 _ I1 h) fun us s2 ⟨vs,H2,I2,r2,q⟩=>⟨I2.kIn,?_⟩) he hpl
 exact run_fn (dvs:=[]) F hr hb .nil pass0 I2 r2 (by rw [List.append_nil];exact q)
end
structure Tabs (P:Program)(w:World)(K:PySem.W.Frag)(mg:Str->Option Value)(base:Heap):Prop where
 signs:∃ a xs,mg "SIGNS" = some (.ref a)/\(∀ H,SqT K H a xs)/\∀ n,n < 20->xs[n]?=some (V.str (signs n))
 calls:∃ a xs,mg "CALLS" = some (.ref a)/\(∀ H,SqT K H a xs)/\∀ n,n < 20->∃ f,xs[n]?=some (V.ref f)/\At P w K mg base f 38 ["herd","row"] (spAct n)
abbrev sAnswer:Stmt:=top 78
theorem scAnswer:FnScope ["herd","number","row","act"] ["herd","number","row"] (defScope sAnswer):=⟨rfl,rfl,rfl,by decide +kernel,rfl,by decide +kernel,by decide +kernel⟩
def spAnswer:Sp:=fun vs H Q _=>∃ (h r:Addr) (as:List Addr) (st:State) (row:List Int) (n:Nat) (c:Vbecap.Call),vs=[.ref h,.int n,.ref r]/\Herd H h as st/\H r=some (.lst (iV row))/\n < 20/\row.length=arity n/\Is n row c /\
 ∀ H' p as',Post H h as H' as' (stepOf st c).1->H' p=some (.lst (iV (stepOf st c).2))->H p=none->Q (.ref p) H'
section
variable {P:Program} {w:World} {K:PySem.W.Frag} {mg:Str->Option Value} {base:Heap}
theorem ok_answer (C:Cons mg)(T:Tabs P w K mg base)(S:Src K mg "answer" sAnswer ["herd","number","row"]) (D1:Def P w K mg base "all_in_range" 3 ["herd","signs","row"] spAllR):Def P w K mg base "answer" 39 ["herd","number","row"] spAnswer:=by
 obtain ⟨sa,sx,hsm,hsq,hsn⟩:=T.signs
 obtain ⟨ca,cx,hcm,hcq,hcn⟩:=T.calls
 refine def_ok S scAnswer (fun vs H Q E h=>?_) (fun f cdv A outer s H vs Q E hr h=>?_)
 ·obtain ⟨h,r,as,st,row,n,c,rfl,_⟩:=h;rfl
 ·obtain ⟨h,r,as,st,row,n,c,rfl,hd,hrow,hn,hlen,is,k⟩:=h
  refine ⟨_,pss_cons (ps_if (pt_not (pt_val (pe_def D1 (hr.mono (by decide)) rfl (pa_cons (pp 0) (pa_cons (pe_ix ix_tup (pe_glob (v:=.ref sa) rfl hsm rfl) (pp 1) (fun _ _=>rfl)) (pa_cons (pp 2) pa_nil)))))) (pss_one (ps_ret (pe_lst (pq_cons (pp_con C.nir rfl) pq_nil)))) pss_nil)
   (pss_cons (ps_set (i:=3) scAnswer.nd rfl (Or.inl rfl) (pe_ix ix_tup (pe_glob (v:=.ref ca) rfl hcm rfl) (pp 1) (fun _ _=>rfl)))
   (pss_one (ps_ret (pe_callV (i:=3) (k:=38) (ps:=["herd","row"]) hr (pq_cons (pp 0) (pq_cons (pp 2) pq_nil)))))),?_⟩
  refine ⟨.ref h,rfl,.int n,rfl,sa,sx,n,_,rfl,rfl,hsq _,at_nat (hsn n hn),.ref r,rfl,h,r,as,st,row,signs n,rfl,hd,hrow,by rw [hlen,signs_len n hn],signs_i n hn,fun H1 s1=>⟨_,rfl,?_⟩⟩
  rw [chk_ok is]
  cases e:inRange st c with
  | false =>
   have es:stepOf st c=(st,[-1]):=by unfold stepOf;rw [if_pos e]
   rw [es] at k
   refine ⟨[.int (-1)],rfl,(by show 1<=sizeLine;decide),fun p hp=>?_⟩
   exact k _ p as (post_same hd (s1.trans (same_new hp))) (by rw [upd_same];rfl) (s1.free hp)
  | true =>
   have es:stepOf st c=act st c:=by unfold stepOf;rw [if_neg (by rw [e];decide)]
   rw [es] at k
   obtain ⟨g,hg,hat⟩:=hcn n hn
   refine ⟨.int n,rfl,ca,cx,n,_,rfl,rfl,hcq _,at_nat hg,?_⟩
   refine ⟨g,spAct n,rfl,hat,[.ref h,.ref r],rfl,h,r,as,st,row,c,rfl,hd.same s1,s1 _ _ hrow,is,e,fun H2 p as' po hp hn2=>?_⟩
   exact k H2 p as' ⟨po.herd,fun b o hb e=>po.keep b o hb (s1 _ _ e),fun a ha=>(po.new a ha).imp id fun z=>s1.free z⟩ hp (s1.free hn2)
end
theorem Herd.off {H:Hp}{h g:Addr}{as:List Addr}{st:State}{xs:List V}{o:HO}(hd:Herd H h as st)(hg:g ∉ h::as)(hH:H g=some (.lst xs)):Herd (upd H g o) h as st:=by
 have n1:h≠g:=fun z=>hg (by rw [<- z];exact List.mem_cons_self)
 refine ⟨by rw [upd_ne n1];exact hd.lst,hd.len,hd.slen,hd.nd,fun i a l e1 e2=>?_,hd.ok⟩
 obtain ⟨vs,h1,h2⟩:=hd.at' i a l e1 e2
 have n2:a≠g:=fun z=>hg (by rw [<- z];exact List.mem_cons_of_mem _ (List.mem_of_getElem? e1))
 exact ⟨vs,by rw [upd_ne n2];exact h1,h2.imp fun _ _ z=>z.to (stup_upd hH)⟩
theorem cut_row {ns row t:List Int}{n start:Nat}{z:Int}(hs:start < ns.length)(hd:ns.drop start=z::(row++t))(hl:row.length=n) :
  cutV (ns.map V.int) (some ((start+1:Nat):Int)) (some ((start+1+n:Nat):Int))=iV row:=by
 have hlen:ns.length=start+1+n+t.length:=by
  have:=congrArg List.length hd
  rw [List.length_drop,List.length_cons,List.length_append] at this
  omega
 unfold cutV
 rw [HT.sIx_nat,HT.sIx_nat,List.length_map,Nat.min_eq_left (by omega),Nat.min_eq_left (by omega)]
 have e1:ns.drop (start+1)=row++t:=by
  rw [<- List.drop_drop,hd];rfl
 rw [<- List.map_drop,e1,List.map_append]
 have e2:start+1+n-(start+1)=(row.map V.int).length:=by rw [List.length_map];omega
 rw [e2,List.take_left];rfl
abbrev sAnswers:Stmt:=top 79
theorem scAnswers:FnScope ["calls","herd","given","start","number","end","answered","animal"] ["calls"] (defScope sAnswers):=⟨rfl,rfl,rfl,by decide +kernel,rfl,by decide +kernel,by decide +kernel⟩
def spX (K:PySem.W.Frag):Sp:=fun vs H Q _=>∃ (a:Addr) (ns:List Int),vs=[.ref a]/\SqL K H a (ns.map V.int)/\ns.length<=2400/\PyVbecap.answers_asked ns=true/\∀ (H':Hp) (p:Addr),H' p=some (.lst ((PyVbecap.answers ns).map V.int))->Q (.ref p) H'
theorem told_cons (a:List Int)(l:List (List Int)):PyFlat.told (a::l)=(a.length:Int)::a++PyFlat.told l:=by
 unfold PyFlat.told
 rw [List.flatMap_cons]
section
variable {P:Program} {w:World} {K:PySem.W.Frag} {mg:Str->Option Value} {base:Heap}
theorem ok_answers (B:Blt mg)(C:Cons mg)(T:Tabs P w K mg base)(D1:Def P w K mg base "answer" 39 ["herd","number","row"] spAnswer) {f:Addr} {fd:FuncData} (F:Fun K "answers" "answers" sAnswers f fd):FnOk P w K mg base CX0 40 f fd ["calls"] (spX K):=by
 obtain ⟨sa,sx,hsm,hsq,hsn⟩:=T.signs
 refine F.ok scAnswers (fun vs H Q E h=>?_) (fun cdv A outer s H vs Q E hr h=>?_)
 ·obtain ⟨a,ns,rfl,_⟩:=h;rfl
 ·obtain ⟨a,ns,rfl,hsqa,hlen,hask,k⟩:=h
  show ∃ t,PSs (bx P w K mg base ["calls","herd","given","start","number","end","answered","animal"] "answers" sAnswers f cdv A outer s H E) (defBody sAnswers) t/\_
  refine ⟨_,pss_cons (ps_setLc (i:=1) (own:=[("animal",7)]) rfl scAnswers.nd rfl rfl (sw_true rfl rfl rfl rfl) (pi_range1 rfl B.range (pq_cons (pp_con C.animals rfl) pq_nil)) (blkOk_by (by show blkC ["calls","herd","given","start","number","end","answered","animal"] (defScope sAnswers) _ _=true;decide +kernel))
    (fun _ _ _ _ _=>pg_name (i:=7) scAnswers.nd rfl (Or.inl rfl)) (fun _ _ _ _ _=>pts_nil) (fun _ _ _ _ _=>pe_lst pq_nil))
   (pss_cons (ps_set (i:=2) scAnswers.nd rfl (Or.inl rfl) (pe_lst pq_nil))
   (pss_cons (ps_set (i:=3) scAnswers.nd rfl (Or.inl rfl) pp_int)
   (pss_cons (ps_while PassesOwn.never (pt_cmpR op_lt (pp 3) (pe_callB call_len_seq rfl B.len boot_lenH (pq_cons (pp 0) pq_nil)) (nomark _))
    (pss_cons (ps_set (i:=4) scAnswers.nd rfl (Or.inl rfl) (pe_ix ix_list (pp 0) (pp 3) (fun _ _=>rfl)))
    (pss_cons (ps_set (i:=5) scAnswers.nd rfl (Or.inl rfl) (pe_add (pp_add (pp 3) pp_int) (pe_callB call_len_str rfl B.len boot_lenH (pa_cons (pe_ix ix_tup (pe_glob (v:=.ref sa) rfl hsm rfl) (pp 4) (fun _ _=>rfl)) pa_nil))))
    (pss_cons (ps_set (i:=6) scAnswers.nd rfl (Or.inl rfl) (pe_def D1 hr rfl (pa_cons (pp 1) (pa_cons (pp 4) (pa_cons (pe_slice sl_list (pp 0) (po_some (pp_add (pp 3) pp_int)) (po_some (pp 5))) pa_nil)))))
    (pss_cons (ps_expr (pe_bm PySem.F.plainAttrs_list PySem.F.slot_list_append PySem.F.type_list_append mt_append (pp 2) (pq_cons (pp_callB call_len_seq gLen_ok rfl B.len boot_lenH (pq_cons (pp 6) pq_nil)) pq_nil)))
    (pss_cons (ps_expr (pe_bm PySem.F.plainAttrs_list PySem.F.slot_list_extend PySem.F.type_list_extend mt_extend (pp 2) (pq_cons (pp 6) pq_nil)))
    (pss_one (ps_set (i:=3) scAnswers.nd rfl (Or.inl rfl) (pp 5)))))))))
   (pss_one (ps_ret (pp 2)))))),?_⟩
  unfold PyVbecap.answers_asked at hask
  cases hc:PyVbecap.calls ns with
  | none=>rw [hc] at hask;cases hask
  | some cs0 =>
  rw [hc] at hask
  have hask:(PyFlat.atMost 400 cs0 && VbecapNeutral.asked cs0)=true:=hask
  have n400:cs0.length<=400:=of_decide_eq_true (and1 hask)
  have eans:PyVbecap.answers ns=PyFlat.told (PyFlat.played VbecapNeutral.step VbecapNeutral.start cs0):=by unfold PyVbecap.answers;rw [hc]
  have dec0:Dec ns cs0:=by
   unfold PyVbecap.calls at hc
   cases hf:PyFlat.calls PyVbecap.shape ns.length ns with
   | none=>rw [hf] at hc;cases hc
   | some cs =>
    rw [hf] at hc
    have hc:cs.map PyVbecap.whole=cs0:=Option.some.inj hc
    have:cs.map PyVbecap.whole=cs:=by
     rw [show PyVbecap.whole=id from funext whole_id,List.map_id]
    rw [<- hc,this]
    exact dec_of _ _ _ hf
  refine ⟨[.int 4],rfl,4,rfl,by omega,by omega,fun h hh=>?_⟩
  refine lc_range (fun i H'=>Same H H'/\∃ es:List Addr,H' h=some (.lst (es.map V.ref))/\es.length=i/\(h::es).Nodup/\∀ e∈es,H' e=some (.lst [])/\H e=none)
   ⟨same_new hh,[],upd_same,rfl,by simp,fun e he=>by simp at he⟩ (fun i H1 hi hI=>?_) (fun H1 hI=>?_)
  ·obtain ⟨s1,es,h1,le,nd,hes⟩:=hI
   refine ⟨rfl,?_⟩
   unfold tYes
   dsimp only
   rw [if_pos rfl]
   refine ⟨[],rfl,(by show 0<=sizeLine;decide),fun e he=>?_⟩
   have s2:=same_new (o:=.lst []) he
   have neh:e≠h:=fun z=>by rw [z,h1] at he;cases he
   have hi4:i < 4:=hi
   refine ⟨es.map V.ref,s2 _ _ h1,?_,same_upd (s1.trans s2) hh,es++[e],by rw [upd_same,List.map_append];rfl,by rw [List.length_append,le];rfl,?_,fun x hx=>?_⟩
   ·rw [List.length_map,le]
    exact Nat.lt_of_lt_of_le hi4 (by decide)
   ·have nd':=List.nodup_cons.mp nd
    refine List.nodup_cons.mpr ⟨fun z=>?_,?_⟩
    ·rcases List.mem_append.mp z with z | z
     ·exact nd'.1 z
     ·rw [List.mem_singleton] at z;exact neh z.symm
    ·refine List.nodup_append.mpr ⟨nd'.2,by simp,fun x hx y hy=>?_⟩
     rw [List.mem_singleton] at hy
     subst hy
     intro q;subst q
     rw [(hes x hx).1] at he;cases he
   ·rcases List.mem_append.mp hx with hx | hx
    ·have nx:x≠h:=fun z=>(List.nodup_cons.mp nd).1 (z▸hx)
     exact ⟨by rw [upd_ne nx];exact s2 _ _ (hes x hx).1,(hes x hx).2⟩
    ·rw [List.mem_singleton] at hx;subst hx
     exact ⟨by rw [upd_ne neh];exact upd_same,s1.free he⟩
  obtain ⟨s1,es,h1,le,nd,hes⟩:=hI
  have le4:es.length=4:=le
  have hd1:Herd H1 h es Vbecap.start:=by
   refine ⟨h1,le4,rfl,nd,fun i x l e1 e2=>?_,fun l hl=>?_⟩
   ·have hl:l=[]:=by
     have:l∈Vbecap.start:=List.mem_of_getElem? e2
     unfold Vbecap.start at this
     simpa using this
    subst hl
    exact ⟨[],(hes x (List.mem_of_getElem? e1)).1,.nil⟩
   ·have:l=[]:=by unfold Vbecap.start at hl;simpa using hl
    subst this
    exact ⟨by simp,fun p hp=>by simp at hp⟩
  have fr1:∀ x∈h::es,H x=none:=fun x hx=>by
   rcases List.mem_cons.mp hx with rfl | hx
   ·exact hh
   ·exact (hes x hx).2
  refine ⟨[],rfl,(by show 0<=sizeLine;decide),fun g hg=>?_⟩
  have s2:=same_new (o:=.lst []) hg
  have hgN:H g=none:=s1.free hg
  have ng:g ∉ h::es:=fun z=>by
   rcases List.mem_cons.mp z with z | z
   ·rw [z,h1] at hg;cases hg
   ·rw [(hes g z).1] at hg;cases hg
  refine ⟨.int 0,rfl,while_by (fun σ H'=>∃ (as:List Addr) (st:State) (cs:List (List (List Int))) (start:Nat) (done:List Int) (v4 v5 v6 v7:Option V),σ=[some (.ref a),some (.ref h),some (.ref g),some (.int (start:Nat)),v4,v5,v6,v7]/\Same H H'/\Herd H' h as st/\(∀ x∈h::as,H x=none) /\
    H' g=some (.lst (iV done))/\g ∉ h::as/\start<=ns.length/\Dec (ns.drop start) cs/\PyVbecap.answers ns=done++PyFlat.told (PyFlat.played VbecapNeutral.step st cs)/\done.length+20*cs.length<=8000)
   (fun σ _=>match σ with | [_,_,_,some (.int s),_,_,_,_]=>ns.length-s.toNat | _=>0)
   ⟨es,_,cs0,0,[],none,none,none,none,rfl,s1.trans s2,hd1.same s2,fr1,upd_same,ng,Nat.zero_le _,dec0,eans,by simp;omega⟩ ?_ ?_⟩
  ·rintro σ H2 ⟨as,st,cs,start,done,v4,v5,v6,v7,rfl,sm,hd,fr,hgd,nga,hst,hdec,hans,hbd⟩
   have hsq2:=sm.seq hsqa
   refine ⟨.int (start:Nat),rfl,[.ref a],rfl,a,_,rfl,.inl hsq2,_,_,rfl,rfl,_,rfl,ite_bl (fun c=>?_) (fun c=>?_)⟩
   ·have c:=of_decide_eq_true c
    rw [List.length_map] at c
    have hlt:start < ns.length:=by omega
    generalize hD:ns.drop start=D at hdec
    cases hdec with
    | nil =>
     have:=congrArg List.length hD
     rw [List.length_drop] at this
     simp at this;omega
    | @cons n row t cs' hn hrl hdec' =>
    have hat:ns[start]?=some ((n:Nat):Int):=by
     have:(ns.drop start)[0]?=some ((n:Nat):Int):=by rw [hD];rfl
     rw [List.getElem?_drop,Nat.add_zero] at this
     exact this
    obtain ⟨c',is,hdc⟩:=is_of hn hrl
    have endlen:start+1+arity n<=ns.length:=by
     have:=congrArg List.length hD
     rw [List.length_drop,List.length_cons,List.length_append] at this
     omega
    have cut:=cut_row hlt hD hrl
    refine ⟨.ref a,rfl,.int (start:Nat),rfl,a,_,_,_,rfl,rfl,hsq2,at_nat (by rw [List.getElem?_map,hat];rfl),?_⟩
    refine ⟨.int ((start:Int)+1),rfl,.int (n:Nat),rfl,sa,sx,_,_,rfl,rfl,hsq _,at_nat (hsn n hn),signs n,rfl,?_,(start:Int)+1,(arity n:Nat),rfl,?_,?_⟩
    ·show (signs n).cps.size<=sizeLine
     rw [signs_len n hn]
     exact Nat.le_trans (show arity n<=5 from (by
      have:∀ n,n < 20->arity n<=5:=(by decide);exact this n hn)) (by decide)
    ·show V.int (((signs n).cps.size:Nat):Int)=V.int ((arity n:Nat):Int)
     rw [signs_len n hn]
    have e5:(start:Int)+1+((arity n:Nat):Int)=((start+1+arity n:Nat):Int):=by omega
    show gName 5 (.int ((start:Int)+1+((arity n:Nat):Int))) [some (.ref a),some (.ref h),some (.ref g),some (.int (start:Nat)),some (.int (n:Nat)),v5,v6,v7] H2 _
    rw [e5]
    refine ⟨.ref h,rfl,.int (n:Nat),rfl,.ref a,rfl,.int ((start+1:Nat):Int),?_,_,rfl,.int ((start+1+arity n:Nat):Int),rfl,_,rfl,a,_,rfl,hsq2,fun r hr3=>?_⟩
    ·show fAdd (fVar 3) (fC (.int 1)) [some (.ref a),some (.ref h),some (.ref g),some (.int (start:Nat)),some (.int (n:Nat)),some (.int ((start+1+arity n:Nat):Int)),v6,v7] H2=_
     simp only [f2,fVar,fC,gZ,gS,oJ,oB,gI]
     rfl
    rw [cut] at *
    have s3:=same_new (o:=.lst (iV row)) hr3
    generalize hH3:upd H2 r (HO.lst (iV row))=H3 at s3
    have hr3':H3 r=some (.lst (iV row)):=by rw [<- hH3];exact upd_same
    refine ⟨h,r,as,st,row,n,c',rfl,hd.same s3,hr3',hn,hrl,is,fun H4 p as' po hp hpn=>?_⟩
    have hg3:H3 g=some (.lst (iV done)):=s3 _ _ hgd
    have hg4:H4 g=some (.lst (iV done)):=po.keep g _ nga hg3
    have npg:p≠g:=fun z=>by rw [z,hg3] at hpn;cases hpn
    have hlenA:=stepOf_len (fun l hl=>hd.ok l hl) c'
    have lcs:done.length+20*(cs'.length+1)<=8000:=hbd
    generalize hA:(stepOf st c').2=ans at hp hlenA
    refine ⟨.ref g,rfl,.inl ⟨rfl,_,SqL.of hg4⟩,[.int (ans.length:Nat)],?_,g,_,_,rfl,rfl,hg4,?_,?_⟩
    ·have:(iV ans).length=ans.length:=by unfold iV;rw [List.length_map]
     show fCons (fCall gLen (fCons (fVar 6) fNil)) fNil [some (.ref a),some (.ref h),some (.ref g),some (.int (start:Nat)),some (.int (n:Nat)),some (.int ((start+1+arity n:Nat):Int)),some (.ref p),v7] H4=_
     simp only [fCall,fCons,fNil,fVar,gZ,gS,oJ,oB,gLen_l hp,this]
    ·unfold iV;rw [List.length_map]
     exact Nat.lt_of_le_of_lt (show done.length<=8000 by omega) (by decide)
    refine ⟨.ref g,rfl,.inl ⟨rfl,_,SqL.of upd_same⟩,[.ref p],rfl,g,p,_,_,rfl,rfl,upd_same,by rw [upd_ne npg];exact hp,?_,?_⟩
    ·unfold iV;rw [List.length_append,List.length_map,List.length_map]
     have:done.length+[V.int ((ans.length:Nat):Int)].length+ans.length<=8000:=by simp;omega
     exact Nat.le_trans this (by decide)
    rw [upd_upd]
    have ng':g ∉ h::as':=fun z=>by
     rcases List.mem_cons.mp z with z | z
     ·exact nga (by rw [z];exact List.mem_cons_self)
     ·rcases po.new g z with z | z
      ·exact nga (List.mem_cons_of_mem _ z)
      ·rw [hg3] at z;cases z
    refine ⟨_,rfl,⟨as',(stepOf st c').1,cs',start+1+arity n,done++((ans.length:Int)::ans),_,_,_,_,rfl,?_,po.herd.off ng' hg4,?_,?_,ng',endlen,?_,?_,?_⟩,?_⟩
    ·intro b o e
     have nb:b≠g:=fun z=>by rw [z,hgN] at e;cases e
     rw [upd_ne nb]
     refine po.keep b o (fun z=>?_) (s3 _ _ (sm _ _ e))
     rw [fr b z] at e;cases e
    ·intro x hx
     rcases List.mem_cons.mp hx with rfl | hx
     ·exact fr x List.mem_cons_self
     ·rcases po.new x hx with z | z
      ·exact fr x (List.mem_cons_of_mem _ z)
      ·exact (sm.trans s3).free z
    ·rw [upd_same]
     unfold iV
     simp
    ·have:ns.drop (start+1+arity n)=t:=by
      rw [Nat.add_assoc,<- List.drop_drop,hD,Nat.add_comm 1,List.drop_succ_cons,<- hrl,List.drop_left]
     rw [this];exact hdec'
    ·rw [hans]
     show done++PyFlat.told ((VbecapNeutral.step st [((n:Nat):Int)::row]).2::PyFlat.played VbecapNeutral.step (VbecapNeutral.step st [((n:Nat):Int)::row]).1 cs')=_
     rw [step_is hdc,told_cons,hA,List.append_assoc]
    ·rw [List.length_append,List.length_cons];omega
    ·show ns.length-((start+1+arity n:Nat):Int).toNat < ns.length-((start:Nat):Int).toNat
     rw [Int.toNat_natCast,Int.toNat_natCast];omega
   ·have c:=of_decide_eq_false c
    rw [List.length_map] at c
    have e0:start=ns.length:=by omega
    subst e0
    rw [List.drop_length] at hdec
    cases hdec
    rw [show PyFlat.told (PyFlat.played VbecapNeutral.step st [])=[] from rfl,List.append_nil] at hans
    refine ⟨.ref g,rfl,k H2 g ?_⟩
    rw [hgd,hans];rfl
  ·rintro σ H' Q1 Q2 hQ ⟨x,hx,vs,hv,p,ys,e1,e2,i,j,e3,e4,q⟩
   obtain ⟨kk,e5,q⟩:=q
   exact ⟨x,hx,vs,hv,p,ys,e1,e2,i,j,e3,e4,kk,e5,hQ _ _ q⟩
end
end HR
namespace HR
open PySem PySem.Spec L2
open PyProof.Rows hiding seen
section
variable {K:PySem.W.Frag} {mg:Str->Option Value} {h:Heap}
theorem src_mk {x:Str}{st:Stmt}{ps:List Str}{f:Addr}{oc:Value}{od an:Option Addr}{osl:Array (Option Value)}{kV doc pm cdv ct:Value}(KX:K.In h)(G:h.Ns mainGlobals mg)
  (e1:PySem.W.nsIn K mainGlobals x=some (some (.ref f))) (e2:K.lookup f=some ⟨oc,od,.func (PySem.W.fnOf x x (defArgs st) (defBody st) (defScope st) .none kV doc pm an cdv ct),osl⟩)
  (e3:PySem.W.codeIn K cdv x=true) (e4:PySem.W.keepIn K (.ref f)=true)
  (hb:∀ (kV doc pm:Value) (an:Option Addr) (cdv ct:Value) (us:List Value),us.length=ps.length->bindArgs (PySem.W.fnOf x x (defArgs st) (defBody st) (defScope st) .none kV doc pm an cdv ct) ⟨us,[]⟩=pure (ps.zip us):=by
   first | exact fun _ _ _ _ _ _ us hl=>(match us,hl with | [_],_=>rfl) | exact fun _ _ _ _ _ _ us hl=>(match us,hl with | [_,_],_=>rfl) | exact fun _ _ _ _ _ _ us hl=>(match us,hl with | [_,_,_],_=>rfl) | exact fun _ _ _ _ _ _ us hl=>(match us,hl with | [_,_,_,_],_=>rfl)):Src K mg x st ps :=
 ⟨f,_,fun_mk e2 e3 e4,PySem.W.mg_of KX G e1,(fun_mk e2 e3 e4).binds hb⟩
theorem fun_bindsTo {x:Str}{st:Stmt}{f:Addr}{fd:FuncData}{ps:List Str}(F:Fun K x x st f fd)
  (hb:∀ (kV doc pm:Value) (an:Option Addr) (cdv ct:Value) (us:List Value),us.length=ps.length->bindArgs (PySem.W.fnOf x x (defArgs st) (defBody st) (defScope st) .none kV doc pm an cdv ct) ⟨us,[]⟩=pure (ps.zip us)) (s:Shared) (us:List Value) (hl:us.length=ps.length):BindsTo s fd ⟨us,[]⟩ (ps.zip us):=by
 obtain ⟨oc,od,kV,doc,pm,an,cdv,ct,osl,rfl,lk,hcd⟩:=F.ex
 exact .of_eq (hb kV doc pm an cdv ct us hl)
theorem con_mk {x:Str}{n:Int}{t:Tok}(KX:K.In h)(G:h.Ns mainGlobals mg)(e1:PySem.W.nsIn K mainGlobals x=some (some (.int n t))):Con mg x (.int n):=⟨_,PySem.W.mg_of KX G e1,⟨t,rfl⟩⟩
end
structure Txt (K:PySem.W.Frag)(mg:Str->Option Value):Prop where
 s_turn_of:Src K mg "turn_of" sTurn ["a","b","c"]
 s_along:Src K mg "along" sAlong ["a","b","c"]
 s_square:Src K mg "square" sSquare ["a","b"]
 s_common_divisor:Src K mg "common_divisor" sCd ["m","n"]
 s_lowest:Src K mg "lowest" sLow ["numerator","denominator"]
 s_added:Src K mg "added" sAdded ["one","other"]
 s_lesser:Src K mg "lesser" sLesser ["one","other"]
 s_left_chain:Src K mg "left_chain" sChain ["places"]
 s_sides_of:Src K mg "sides_of" sSides ["corners"]
 s_twice_area:Src K mg "twice_area" sArea ["corners"]
 s_steps:Src K mg "steps" sSteps ["a","b"]
 s_rim_count:Src K mg "rim_count" sRim ["corners"]
 s_inner_count:Src K mg "inner_count" sInner ["corners"]
 s_between:Src K mg "between" sBetween ["low","number","high"]
 s_on_way:Src K mg "on_way" sOnWay ["a","b","place"]
 s_standing:Src K mg "standing" sStand ["corners","place"]
 s_holds:Src K mg "holds" sHolds ["corners","place"]
 s_parted:Src K mg "parted" sParted ["side","places"]
 s_meeting:Src K mg "meeting" sMeeting ["corners","others"]
 s_way_square:Src K mg "way_square" sWay ["side","place"]
 s_way_squares:Src K mg "way_squares" sWays ["corners","others"]
 s_gap_square:Src K mg "gap_square" sGapSq ["corners","others"]
 s_point_turn:Src K mg "point_turn" sPturn ["side","point"]
 s_crossing_point:Src K mg "crossing_point" sCross ["one","one_turn","other","other_turn"]
 s_cut:Src K mg "cut" sCut ["points","side"]
 s_twice_point_area:Src K mg "twice_point_area" sPArea ["points"]
 s_twice_common_area:Src K mg "twice_common_area" sCommon ["corners","others"]
 s_ahead:Src K mg "ahead" sAhead ["place","first","other"]
 s_depth_of:Src K mg "depth_of" sDepthOf ["sightings","place"]
 s_layers_of:Src K mg "layers_of" sLayersOf ["sightings"]
 s_corners_of:Src K mg "corners_of" sCornersOf ["sightings"]
 s_sets_of:Src K mg "sets_of" sSetsOf ["count","size"]
 s_area_without:Src K mg "area_without" sAreaW ["sightings","chosen"]
 s_least_without:Src K mg "least_without" sLeastW ["sightings","size"]
 s_widest_pair:Src K mg "widest_pair" sWidestP ["sightings"]
 s_counted:Src K mg "counted" sCounted ["places"]
 s_on_grid:Src K mg "on_grid" sOnGrid ["number"]
 s_told:Src K mg "told" sTold ["herd","row"]
 s_hull:Src K mg "hull" sHull ["herd","row"]
 s_area:Src K mg "area" sAreaC ["herd","row"]
 s_where:Src K mg "where" sWhere ["herd","row"]
 s_depth:Src K mg "depth" sDepth ["herd","row"]
 s_layers:Src K mg "layers" sLayers ["herd","row"]
 s_least:Src K mg "least" sLeast ["herd","row"]
 s_widest:Src K mg "widest" sWidest ["herd","row"]
 s_overlap:Src K mg "overlap" sOverlap ["herd","row"]
 s_meet:Src K mg "meet" sMeet ["herd","row"]
 s_gap:Src K mg "gap" sGap ["herd","row"]
 s_extent:Src K mg "extent" sExtent ["herd","row"]
 s_mean:Src K mg "mean" sMean ["herd","row"]
 s_halves:Src K mg "halves" sHalves ["herd","row"]
 s_see:Src K mg "see" sSee ["herd","row"]
 s_forget:Src K mg "forget" sForget ["herd","row"]
 s_clear:Src K mg "clear" sClear ["herd","row"]
 s_join:Src K mg "join" sJoin ["herd","row"]
 s_turn:Src K mg "turn" sTurnC ["herd","row"]
 s_shift:Src K mg "shift" sShift ["herd","row"]
 s_in_range:Src K mg "in_range" sInR ["herd","sign","row","k"]
 s_all_in_range:Src K mg "all_in_range" sAllR ["herd","signs","row"]
 s_answer:Src K mg "answer" sAnswer ["herd","number","row"]
 s_answers:Src K mg "answers" sAnswers ["calls"]
def nm:Nat->Str
 | 0=>"see"
 | 1=>"forget"
 | 2=>"told"
 | 3=>"clear"
 | 4=>"join"
 | 5=>"shift"
 | 6=>"turn"
 | 7=>"hull"
 | 8=>"area"
 | 9=>"where"
 | 10=>"depth"
 | 11=>"layers"
 | 12=>"least"
 | 13=>"extent"
 | 14=>"widest"
 | 15=>"halves"
 | 16=>"mean"
 | 17=>"overlap"
 | 18=>"meet"
 | 19=>"gap"
 | _=>""
structure Tab (K:PySem.W.Frag)(mg:Str->Option Value):Prop where
 signs:∃ a xs,mg "SIGNS" = some (.ref a)/\(∀ H,SqT K H a xs)/\∀ n,n < 20->xs[n]?=some (V.str (signs n))
 calls:∃ a xs,mg "CALLS" = some (.ref a)/\(∀ H,SqT K H a xs)/\∀ n,n < 20->∃ f,xs[n]?=some (V.ref f)/\mg (nm n)=some (.ref f)
theorem all_ok {P:Program}{w:World}{K:PySem.W.Frag}{mg:Str->Option Value}{base:Heap}(hs:base.NoSeer)(ht:P.given.tree=none)(B:Blt mg)(Z:Zone mg)(C:Cons mg)(X:Txt K mg)(T0:Tab K mg){f:Addr}{fd:FuncData}(F:Fun K "answers" "answers" sAnswers f fd):FnOk P w K mg base CX0 40 f fd ["calls"] (spX K):=by
 have d_turn_of:=ok_turn (P:=P) (w:=w) (base:=base) X.s_turn_of
 have d_along:=ok_along (P:=P) (w:=w) (base:=base) X.s_along
 have d_square:=ok_square (P:=P) (w:=w) (base:=base) X.s_square d_along
 have d_common_divisor:=ok_cd (P:=P) (w:=w) (base:=base) X.s_common_divisor
 have d_lowest:=ok_low (P:=P) (w:=w) (base:=base) hs ht B X.s_lowest d_common_divisor
 have d_added:=ok_added (P:=P) (w:=w) (base:=base) X.s_added d_lowest
 have d_lesser:=ok_lesser (P:=P) (w:=w) (base:=base) X.s_lesser
 have d_left_chain:=ok_chain (P:=P) (w:=w) (base:=base) B X.s_left_chain d_turn_of
 have d_sides_of:=ok_sides (P:=P) (w:=w) (base:=base) B X.s_sides_of
 have d_twice_area:=ok_area (P:=P) (w:=w) (base:=base) B X.s_twice_area d_sides_of d_turn_of
 have d_steps:=ok_steps (P:=P) (w:=w) (base:=base) B X.s_steps d_common_divisor
 have d_rim_count:=ok_rim (P:=P) (w:=w) (base:=base) B X.s_rim_count d_sides_of d_steps
 have d_inner_count:=ok_inner (P:=P) (w:=w) (base:=base) B X.s_inner_count d_twice_area d_rim_count
 have d_between:=ok_between (P:=P) (w:=w) (base:=base) B X.s_between
 have d_on_way:=ok_onway (P:=P) (w:=w) (base:=base) X.s_on_way d_turn_of d_between
 have d_standing:=ok_stand (P:=P) (w:=w) (base:=base) B Z X.s_standing d_sides_of d_turn_of d_on_way
 have d_holds:=ok_holds (P:=P) (w:=w) (base:=base) Z X.s_holds d_standing
 have d_parted:=ok_parted (P:=P) (w:=w) (base:=base) X.s_parted d_turn_of
 have d_meeting:=ok_meeting (P:=P) (w:=w) (base:=base) X.s_meeting d_holds d_sides_of d_parted
 have d_way_square:=ok_way (P:=P) (w:=w) (base:=base) X.s_way_square d_along d_square d_turn_of
 have d_way_squares:=ok_ways (P:=P) (w:=w) (base:=base) X.s_way_squares d_sides_of d_way_square
 have d_gap_square:=ok_gapsq (P:=P) (w:=w) (base:=base) X.s_gap_square d_meeting d_way_squares d_lesser d_lowest
 have d_point_turn:=ok_pturn (P:=P) (w:=w) (base:=base) X.s_point_turn
 have d_crossing_point:=ok_cross (P:=P) (w:=w) (base:=base) hs ht B X.s_crossing_point d_common_divisor
 have d_cut:=ok_cut (P:=P) (w:=w) (base:=base) B X.s_cut d_point_turn d_crossing_point
 have d_twice_point_area:=ok_parea (P:=P) (w:=w) (base:=base) B X.s_twice_point_area d_added
 have d_twice_common_area:=ok_common (P:=P) (w:=w) (base:=base) B X.s_twice_common_area d_sides_of d_cut d_twice_point_area
 have d_ahead:=ok_ahead (P:=P) (w:=w) (base:=base) X.s_ahead d_turn_of d_along
 have d_depth_of:=ok_depthof (P:=P) (w:=w) (base:=base) B X.s_depth_of d_ahead
 have d_corners_of:=ok_cornersof (P:=P) (w:=w) (base:=base) B X.s_corners_of d_left_chain
 have d_layers_of:=ok_layersof (P:=P) (w:=w) (base:=base) B Z X.s_layers_of 3 d_corners_of d_standing (by decide)
 have d_sets_of:=ok_setsof (P:=P) (w:=w) (base:=base) B X.s_sets_of
 have d_area_without:=ok_areaw (P:=P) (w:=w) (base:=base) B X.s_area_without d_corners_of d_twice_area
 have d_least_without:=ok_leastw (P:=P) (w:=w) (base:=base) B X.s_least_without d_sets_of d_area_without
 have d_widest_pair:=ok_widestp (P:=P) (w:=w) (base:=base) B X.s_widest_pair d_sets_of d_square
 have d_counted:=ok_counted (P:=P) (w:=w) (base:=base) B X.s_counted
 have d_on_grid:=ok_ongrid (P:=P) (w:=w) (base:=base) C X.s_on_grid
 have d_told:=ok_told (P:=P) (w:=w) (base:=base) X.s_told d_counted
 have d_hull:=ok_hull (P:=P) (w:=w) (base:=base) X.s_hull d_counted d_corners_of
 have d_area:=ok_areaCall (P:=P) (w:=w) (base:=base) X.s_area d_corners_of d_twice_area d_rim_count d_inner_count
 have d_where:=ok_where (P:=P) (w:=w) (base:=base) X.s_where d_corners_of d_standing
 have d_depth:=ok_depthCall (P:=P) (w:=w) (base:=base) X.s_depth d_depth_of
 have d_layers:=ok_layersCall (P:=P) (w:=w) (base:=base) B X.s_layers d_layers_of
 have d_least:=ok_leastCall (P:=P) (w:=w) (base:=base) B C X.s_least d_least_without
 have d_widest:=ok_widestCall (P:=P) (w:=w) (base:=base) B C X.s_widest d_widest_pair
 have d_overlap:=ok_overlapCall (P:=P) (w:=w) (base:=base) B X.s_overlap d_corners_of d_twice_common_area
 have d_meet:=ok_meetCall (P:=P) (w:=w) (base:=base) X.s_meet d_corners_of d_meeting
 have d_gap:=ok_gapCall (P:=P) (w:=w) (base:=base) B C X.s_gap d_corners_of d_gap_square
 have d_extent:=ok_extentCall (P:=P) (w:=w) (base:=base) B C X.s_extent
 have d_mean:=ok_meanCall (P:=P) (w:=w) (base:=base) B C X.s_mean d_lowest
 have d_halves:=ok_halvesCall (P:=P) (w:=w) (base:=base) B C X.s_halves d_turn_of
 have d_see:=ok_see (P:=P) (w:=w) (base:=base) B C X.s_see
 have d_forget:=ok_forget (P:=P) (w:=w) (base:=base) B X.s_forget
 have d_clear:=ok_clear (P:=P) (w:=w) (base:=base) B X.s_clear
 have d_join:=ok_join (P:=P) (w:=w) (base:=base) B C X.s_join
 have d_turn:=ok_turnCall (P:=P) (w:=w) (base:=base) X.s_turn
 have d_shift:=ok_shift (P:=P) (w:=w) (base:=base) C X.s_shift d_on_grid
 have d_in_range:=ok_inr (P:=P) (w:=w) (base:=base) B C X.s_in_range d_on_grid
 have d_all_in_range:=ok_allr (P:=P) (w:=w) (base:=base) B X.s_all_in_range d_in_range
 have T:Tabs P w K mg base:=by
  refine ⟨T0.signs,?_⟩
  obtain ⟨a,xs,h1,h2,h3⟩:=T0.calls
  refine ⟨a,xs,h1,h2,fun n hn=>?_⟩
  obtain ⟨f,hf,hm⟩:=h3 n hn
  refine ⟨f,hf,?_⟩
  match n,hn,hm with
  | 0,_,hm=>exact Def.at d_see hm
  | 1,_,hm=>exact Def.at d_forget hm
  | 2,_,hm=>exact Def.at d_told hm
  | 3,_,hm=>exact Def.at d_clear hm
  | 4,_,hm=>exact Def.at d_join hm
  | 5,_,hm=>exact Def.at d_shift hm
  | 6,_,hm=>exact Def.at d_turn hm
  | 7,_,hm=>exact Def.at d_hull hm
  | 8,_,hm=>exact Def.at d_area hm
  | 9,_,hm=>exact Def.at d_where hm
  | 10,_,hm=>exact Def.at d_depth hm
  | 11,_,hm=>exact Def.at d_layers hm
  | 12,_,hm=>exact Def.at d_least hm
  | 13,_,hm=>exact Def.at d_extent hm
  | 14,_,hm=>exact Def.at d_widest hm
  | 15,_,hm=>exact Def.at d_halves hm
  | 16,_,hm=>exact Def.at d_mean hm
  | 17,_,hm=>exact Def.at d_overlap hm
  | 18,_,hm=>exact Def.at d_meet hm
  | 19,_,hm=>exact Def.at d_gap hm
  | n+20,h,_=>exact absurd h (by omega)
 have d_answer:=ok_answer (P:=P) (w:=w) (base:=base) C T X.s_answer d_all_in_range
 exact ok_answers B C T d_answer F
section
variable {K:PySem.W.Frag} {mg:Str->Option Value} {h:Heap}
theorem tab_mk {sa ca:Addr}{sd cd:Option Addr}{ssl csl:Array (Option Value)}{sits cits:Array Value}{sn cn:Nat}(KX:K.In h)(G:h.Ns mainGlobals mg)
  (e1:PySem.W.nsIn K mainGlobals "SIGNS" = some (some (.ref sa))) (e2:K.lookup sa=some ⟨.type "tuple",sd,.seq sits sn,ssl⟩)
  (e3:PySem.W.nsIn K mainGlobals "CALLS" = some (some (.ref ca))) (e4:K.lookup ca=some ⟨.type "tuple",cd,.seq cits cn,csl⟩)
  (h1:sits.size=20) (h2:cits.size=20) (hv:∀ n,n < 20->∃ t,sits.toList[n]?=some (.str (signs n) t)) (hc:∀ n,n < 20->∃ f,cits.toList[n]?=some (.ref f)/\PySem.W.nsIn K mainGlobals (nm n)=some (some (.ref f))):Tab K mg:=by
 have mk:∀ (its:Array Value) (g:Nat->V),its.size=20->(∀ n,n < 20->∃ u,its.toList[n]?=some u/\RelV (g n) u)->Vals ((List.range 20).map g) its.toList:=by
  intro its g hs hg
  have:∀ (m:Nat) (l:List Value) (k:Nat),l.length=m->(∀ i,i < m->∃ u,l[i]?=some u/\RelV (g (k+i)) u)->Vals ((List.range' k m).map g) l:=by
   intro m
   induction m with
   | zero=>intro l k hl _;have:=List.length_eq_zero_iff.mp hl;subst this;exact .nil
   | succ m ih =>
    intro l k hl hv
    cases l with
    | nil=>simp at hl
    | cons x l =>
     obtain ⟨u,e,r⟩:=hv 0 (by omega)
     cases e
     refine .cons r (ih l (k+1) (by simpa using hl) fun i hi=>?_)
     obtain ⟨u,e,r⟩:=hv (i+1) (by omega)
     exact ⟨u,e,by rw [show k+1+i=k+(i+1) by omega];exact r⟩
  rw [List.range_eq_range']
  exact this 20 _ 0 (by simpa using hs) fun i hi=>by rw [Nat.zero_add];exact hg i hi
 constructor
 ·refine ⟨sa,_,PySem.W.mg_of KX G e1,fun H=>.inr ⟨_,sits,sn,e2,rfl,rfl,by rw [h1];decide,mk sits (fun n=>.str (signs n)) h1 fun n hn=>?_⟩,fun n hn=>?_⟩
  ·obtain ⟨t,e⟩:=hv n hn
   exact ⟨_,e,t,rfl⟩
  ·rw [List.getElem?_map,List.getElem?_range hn];rfl
 ·let F:Nat->Addr:=fun n=>match cits.toList[n]? with | some (.ref f)=>f | _=>0
  have hF:∀ n,n < 20->cits.toList[n]?=some (.ref (F n))/\PySem.W.nsIn K mainGlobals (nm n)=some (some (.ref (F n))):=fun n hn=>by
   obtain ⟨f,e,q⟩:=hc n hn
   have:F n=f:=by show (match cits.toList[n]? with | some (.ref f)=>f | _=>0)=f;rw [e]
   rw [this];exact ⟨e,q⟩
  refine ⟨ca,_,PySem.W.mg_of KX G e3,fun H=>.inr ⟨_,cits,cn,e4,rfl,rfl,by rw [h2];decide,mk cits (fun n=>.ref (F n)) h2 fun n hn=>?_⟩,fun n hn=>?_⟩
  ·exact ⟨_,(hF n hn).1,rfl⟩
  ·exact ⟨F n,by rw [List.getElem?_map,List.getElem?_range hn];rfl,PySem.W.mg_of KX G (hF n hn).2⟩
end
end HR
open PySem PySem.W PyProof.Rows
inductive PySem.W.Fast | tw1654924943519027872 | tw15383965107668242970 | tw1968565541591916248 | tw16779447219489296223 | tw5212123297743666482 | tw1865534553859409877 | tw2878498270118250670 | tw1545745885704876638 | tw6388800671429233874 | tw962004532955524078 | tw2916910057239786317 | tw11985819089604439293 | tw15535379932341725157 | tw8191496049190433305 | tw14030689936960937066 | tw5517838769106552242 | tw7169057644567817709 | tw18038649344488072380 | tw15146510278896066412 | tw11403346346161792777 | tw6498069430642117224
set_option maxHeartbeats 0 in
theorem PySem.Challenge.cw_homeranges_s01_answers_holds : PySem.Challenge.rw_homeranges_s01_answers.Holds := by
 w_on;k_headS;(case hw=>exact ⟨[.list [.int 2,.int 0]],by decide +kernel,by decide +kernel⟩)
 k_fillS
 refine L2.walk_specK (r:=PySem.Challenge.rw_homeranges_s01_answers) (k:=60) (CX:=L2.CX0) (ps:=["calls"]) (sp:=HR.spX) (by decide +kernel) (by decide +kernel) rfl rfl ⟨rfl,by decide,by decide⟩ (fun w h Y=>PySem.W.kIn_of Y) ?F ?S (fun _ _ _ _ z=>z)
 case F =>
  intro w mg fa h Y KX G hmg
  have s_turn_of:HR.Src (L2.KOf KX) mg "turn_of" HR.sTurn ["a","b","c"]:=by
   dsimp only [L2.KOf];refine' HR.src_mk KX G ?a ?b ?c ?d;case a | b | c | d=>k_is
  have s_along:HR.Src (L2.KOf KX) mg "along" HR.sAlong ["a","b","c"]:=by
   dsimp only [L2.KOf];refine' HR.src_mk KX G ?a ?b ?c ?d;case a | b | c | d=>k_is
  have s_square:HR.Src (L2.KOf KX) mg "square" HR.sSquare ["a","b"]:=by
   dsimp only [L2.KOf];refine' HR.src_mk KX G ?a ?b ?c ?d;case a | b | c | d=>k_is
  have s_common_divisor:HR.Src (L2.KOf KX) mg "common_divisor" HR.sCd ["m","n"]:=by
   dsimp only [L2.KOf];refine' HR.src_mk KX G ?a ?b ?c ?d;case a | b | c | d=>k_is
  have s_lowest:HR.Src (L2.KOf KX) mg "lowest" HR.sLow ["numerator","denominator"]:=by
   dsimp only [L2.KOf];refine' HR.src_mk KX G ?a ?b ?c ?d;case a | b | c | d=>k_is
  have s_added:HR.Src (L2.KOf KX) mg "added" HR.sAdded ["one","other"]:=by
   dsimp only [L2.KOf];refine' HR.src_mk KX G ?a ?b ?c ?d;case a | b | c | d=>k_is
  have s_lesser:HR.Src (L2.KOf KX) mg "lesser" HR.sLesser ["one","other"]:=by
   dsimp only [L2.KOf];refine' HR.src_mk KX G ?a ?b ?c ?d;case a | b | c | d=>k_is
  have s_left_chain:HR.Src (L2.KOf KX) mg "left_chain" HR.sChain ["places"]:=by
   dsimp only [L2.KOf];refine' HR.src_mk KX G ?a ?b ?c ?d;case a | b | c | d=>k_is
  have s_sides_of:HR.Src (L2.KOf KX) mg "sides_of" HR.sSides ["corners"]:=by
   dsimp only [L2.KOf];refine' HR.src_mk KX G ?a ?b ?c ?d;case a | b | c | d=>k_is
  have s_twice_area:HR.Src (L2.KOf KX) mg "twice_area" HR.sArea ["corners"]:=by
   dsimp only [L2.KOf];refine' HR.src_mk KX G ?a ?b ?c ?d;case a | b | c | d=>k_is
  have s_steps:HR.Src (L2.KOf KX) mg "steps" HR.sSteps ["a","b"]:=by
   dsimp only [L2.KOf];refine' HR.src_mk KX G ?a ?b ?c ?d;case a | b | c | d=>k_is
  have s_rim_count:HR.Src (L2.KOf KX) mg "rim_count" HR.sRim ["corners"]:=by
   dsimp only [L2.KOf];refine' HR.src_mk KX G ?a ?b ?c ?d;case a | b | c | d=>k_is
  have s_inner_count:HR.Src (L2.KOf KX) mg "inner_count" HR.sInner ["corners"]:=by
   dsimp only [L2.KOf];refine' HR.src_mk KX G ?a ?b ?c ?d;case a | b | c | d=>k_is
  have s_between:HR.Src (L2.KOf KX) mg "between" HR.sBetween ["low","number","high"]:=by
   dsimp only [L2.KOf];refine' HR.src_mk KX G ?a ?b ?c ?d;case a | b | c | d=>k_is
  have s_on_way:HR.Src (L2.KOf KX) mg "on_way" HR.sOnWay ["a","b","place"]:=by
   dsimp only [L2.KOf];refine' HR.src_mk KX G ?a ?b ?c ?d;case a | b | c | d=>k_is
  have s_standing:HR.Src (L2.KOf KX) mg "standing" HR.sStand ["corners","place"]:=by
   dsimp only [L2.KOf];refine' HR.src_mk KX G ?a ?b ?c ?d;case a | b | c | d=>k_is
  have s_holds:HR.Src (L2.KOf KX) mg "holds" HR.sHolds ["corners","place"]:=by
   dsimp only [L2.KOf];refine' HR.src_mk KX G ?a ?b ?c ?d;case a | b | c | d=>k_is
  have s_parted:HR.Src (L2.KOf KX) mg "parted" HR.sParted ["side","places"]:=by
   dsimp only [L2.KOf];refine' HR.src_mk KX G ?a ?b ?c ?d;case a | b | c | d=>k_is
  have s_meeting:HR.Src (L2.KOf KX) mg "meeting" HR.sMeeting ["corners","others"]:=by
   dsimp only [L2.KOf];refine' HR.src_mk KX G ?a ?b ?c ?d;case a | b | c | d=>k_is
  have s_way_square:HR.Src (L2.KOf KX) mg "way_square" HR.sWay ["side","place"]:=by
   dsimp only [L2.KOf];refine' HR.src_mk KX G ?a ?b ?c ?d;case a | b | c | d=>k_is
  have s_way_squares:HR.Src (L2.KOf KX) mg "way_squares" HR.sWays ["corners","others"]:=by
   dsimp only [L2.KOf];refine' HR.src_mk KX G ?a ?b ?c ?d;case a | b | c | d=>k_is
  have s_gap_square:HR.Src (L2.KOf KX) mg "gap_square" HR.sGapSq ["corners","others"]:=by
   dsimp only [L2.KOf];refine' HR.src_mk KX G ?a ?b ?c ?d;case a | b | c | d=>k_is
  have s_point_turn:HR.Src (L2.KOf KX) mg "point_turn" HR.sPturn ["side","point"]:=by
   dsimp only [L2.KOf];refine' HR.src_mk KX G ?a ?b ?c ?d;case a | b | c | d=>k_is
  have s_crossing_point:HR.Src (L2.KOf KX) mg "crossing_point" HR.sCross ["one","one_turn","other","other_turn"]:=by
   dsimp only [L2.KOf];refine' HR.src_mk KX G ?a ?b ?c ?d;case a | b | c | d=>k_is
  have s_cut:HR.Src (L2.KOf KX) mg "cut" HR.sCut ["points","side"]:=by
   dsimp only [L2.KOf];refine' HR.src_mk KX G ?a ?b ?c ?d;case a | b | c | d=>k_is
  have s_twice_point_area:HR.Src (L2.KOf KX) mg "twice_point_area" HR.sPArea ["points"]:=by
   dsimp only [L2.KOf];refine' HR.src_mk KX G ?a ?b ?c ?d;case a | b | c | d=>k_is
  have s_twice_common_area:HR.Src (L2.KOf KX) mg "twice_common_area" HR.sCommon ["corners","others"]:=by
   dsimp only [L2.KOf];refine' HR.src_mk KX G ?a ?b ?c ?d;case a | b | c | d=>k_is
  have s_ahead:HR.Src (L2.KOf KX) mg "ahead" HR.sAhead ["place","first","other"]:=by
   dsimp only [L2.KOf];refine' HR.src_mk KX G ?a ?b ?c ?d;case a | b | c | d=>k_is
  have s_depth_of:HR.Src (L2.KOf KX) mg "depth_of" HR.sDepthOf ["sightings","place"]:=by
   dsimp only [L2.KOf];refine' HR.src_mk KX G ?a ?b ?c ?d;case a | b | c | d=>k_is
  have s_layers_of:HR.Src (L2.KOf KX) mg "layers_of" HR.sLayersOf ["sightings"]:=by
   dsimp only [L2.KOf];refine' HR.src_mk KX G ?a ?b ?c ?d;case a | b | c | d=>k_is
  have s_corners_of:HR.Src (L2.KOf KX) mg "corners_of" HR.sCornersOf ["sightings"]:=by
   dsimp only [L2.KOf];refine' HR.src_mk KX G ?a ?b ?c ?d;case a | b | c | d=>k_is
  have s_sets_of:HR.Src (L2.KOf KX) mg "sets_of" HR.sSetsOf ["count","size"]:=by
   dsimp only [L2.KOf];refine' HR.src_mk KX G ?a ?b ?c ?d;case a | b | c | d=>k_is
  have s_area_without:HR.Src (L2.KOf KX) mg "area_without" HR.sAreaW ["sightings","chosen"]:=by
   dsimp only [L2.KOf];refine' HR.src_mk KX G ?a ?b ?c ?d;case a | b | c | d=>k_is
  have s_least_without:HR.Src (L2.KOf KX) mg "least_without" HR.sLeastW ["sightings","size"]:=by
   dsimp only [L2.KOf];refine' HR.src_mk KX G ?a ?b ?c ?d;case a | b | c | d=>k_is
  have s_widest_pair:HR.Src (L2.KOf KX) mg "widest_pair" HR.sWidestP ["sightings"]:=by
   dsimp only [L2.KOf];refine' HR.src_mk KX G ?a ?b ?c ?d;case a | b | c | d=>k_is
  have s_counted:HR.Src (L2.KOf KX) mg "counted" HR.sCounted ["places"]:=by
   dsimp only [L2.KOf];refine' HR.src_mk KX G ?a ?b ?c ?d;case a | b | c | d=>k_is
  have s_on_grid:HR.Src (L2.KOf KX) mg "on_grid" HR.sOnGrid ["number"]:=by
   dsimp only [L2.KOf];refine' HR.src_mk KX G ?a ?b ?c ?d;case a | b | c | d=>k_is
  have s_told:HR.Src (L2.KOf KX) mg "told" HR.sTold ["herd","row"]:=by
   dsimp only [L2.KOf];refine' HR.src_mk KX G ?a ?b ?c ?d;case a | b | c | d=>k_is
  have s_hull:HR.Src (L2.KOf KX) mg "hull" HR.sHull ["herd","row"]:=by
   dsimp only [L2.KOf];refine' HR.src_mk KX G ?a ?b ?c ?d;case a | b | c | d=>k_is
  have s_area:HR.Src (L2.KOf KX) mg "area" HR.sAreaC ["herd","row"]:=by
   dsimp only [L2.KOf];refine' HR.src_mk KX G ?a ?b ?c ?d;case a | b | c | d=>k_is
  have s_where:HR.Src (L2.KOf KX) mg "where" HR.sWhere ["herd","row"]:=by
   dsimp only [L2.KOf];refine' HR.src_mk KX G ?a ?b ?c ?d;case a | b | c | d=>k_is
  have s_depth:HR.Src (L2.KOf KX) mg "depth" HR.sDepth ["herd","row"]:=by
   dsimp only [L2.KOf];refine' HR.src_mk KX G ?a ?b ?c ?d;case a | b | c | d=>k_is
  have s_layers:HR.Src (L2.KOf KX) mg "layers" HR.sLayers ["herd","row"]:=by
   dsimp only [L2.KOf];refine' HR.src_mk KX G ?a ?b ?c ?d;case a | b | c | d=>k_is
  have s_least:HR.Src (L2.KOf KX) mg "least" HR.sLeast ["herd","row"]:=by
   dsimp only [L2.KOf];refine' HR.src_mk KX G ?a ?b ?c ?d;case a | b | c | d=>k_is
  have s_widest:HR.Src (L2.KOf KX) mg "widest" HR.sWidest ["herd","row"]:=by
   dsimp only [L2.KOf];refine' HR.src_mk KX G ?a ?b ?c ?d;case a | b | c | d=>k_is
  have s_overlap:HR.Src (L2.KOf KX) mg "overlap" HR.sOverlap ["herd","row"]:=by
   dsimp only [L2.KOf];refine' HR.src_mk KX G ?a ?b ?c ?d;case a | b | c | d=>k_is
  have s_meet:HR.Src (L2.KOf KX) mg "meet" HR.sMeet ["herd","row"]:=by
   dsimp only [L2.KOf];refine' HR.src_mk KX G ?a ?b ?c ?d;case a | b | c | d=>k_is
  have s_gap:HR.Src (L2.KOf KX) mg "gap" HR.sGap ["herd","row"]:=by
   dsimp only [L2.KOf];refine' HR.src_mk KX G ?a ?b ?c ?d;case a | b | c | d=>k_is
  have s_extent:HR.Src (L2.KOf KX) mg "extent" HR.sExtent ["herd","row"]:=by
   dsimp only [L2.KOf];refine' HR.src_mk KX G ?a ?b ?c ?d;case a | b | c | d=>k_is
  have s_mean:HR.Src (L2.KOf KX) mg "mean" HR.sMean ["herd","row"]:=by
   dsimp only [L2.KOf];refine' HR.src_mk KX G ?a ?b ?c ?d;case a | b | c | d=>k_is
  have s_halves:HR.Src (L2.KOf KX) mg "halves" HR.sHalves ["herd","row"]:=by
   dsimp only [L2.KOf];refine' HR.src_mk KX G ?a ?b ?c ?d;case a | b | c | d=>k_is
  have s_see:HR.Src (L2.KOf KX) mg "see" HR.sSee ["herd","row"]:=by
   dsimp only [L2.KOf];refine' HR.src_mk KX G ?a ?b ?c ?d;case a | b | c | d=>k_is
  have s_forget:HR.Src (L2.KOf KX) mg "forget" HR.sForget ["herd","row"]:=by
   dsimp only [L2.KOf];refine' HR.src_mk KX G ?a ?b ?c ?d;case a | b | c | d=>k_is
  have s_clear:HR.Src (L2.KOf KX) mg "clear" HR.sClear ["herd","row"]:=by
   dsimp only [L2.KOf];refine' HR.src_mk KX G ?a ?b ?c ?d;case a | b | c | d=>k_is
  have s_join:HR.Src (L2.KOf KX) mg "join" HR.sJoin ["herd","row"]:=by
   dsimp only [L2.KOf];refine' HR.src_mk KX G ?a ?b ?c ?d;case a | b | c | d=>k_is
  have s_turn:HR.Src (L2.KOf KX) mg "turn" HR.sTurnC ["herd","row"]:=by
   dsimp only [L2.KOf];refine' HR.src_mk KX G ?a ?b ?c ?d;case a | b | c | d=>k_is
  have s_shift:HR.Src (L2.KOf KX) mg "shift" HR.sShift ["herd","row"]:=by
   dsimp only [L2.KOf];refine' HR.src_mk KX G ?a ?b ?c ?d;case a | b | c | d=>k_is
  have s_in_range:HR.Src (L2.KOf KX) mg "in_range" HR.sInR ["herd","sign","row","k"]:=by
   dsimp only [L2.KOf];refine' HR.src_mk KX G ?a ?b ?c ?d;case a | b | c | d=>k_is
  have s_all_in_range:HR.Src (L2.KOf KX) mg "all_in_range" HR.sAllR ["herd","signs","row"]:=by
   dsimp only [L2.KOf];refine' HR.src_mk KX G ?a ?b ?c ?d;case a | b | c | d=>k_is
  have s_answer:HR.Src (L2.KOf KX) mg "answer" HR.sAnswer ["herd","number","row"]:=by
   dsimp only [L2.KOf];refine' HR.src_mk KX G ?a ?b ?c ?d;case a | b | c | d=>k_is
  have s_answers:HR.Src (L2.KOf KX) mg "answers" HR.sAnswers ["calls"]:=by
   dsimp only [L2.KOf];refine' HR.src_mk KX G ?a ?b ?c ?d;case a | b | c | d=>k_is
  have c_animals:HR.Con mg "ANIMALS" (.int (4)):=by refine' HR.con_mk KX G ?a;case a=>k_is
  have c_most:HR.Con mg "MOST_SIGHTINGS" (.int (9)):=by refine' HR.con_mk KX G ?a;case a=>k_is
  have c_edge:HR.Con mg "EDGE" (.int (1000)):=by refine' HR.con_mk KX G ?a;case a=>k_is
  have c_left:HR.Con mg "MOST_LEFT_OUT" (.int (3)):=by refine' HR.con_mk KX G ?a;case a=>k_is
  have c_nir:HR.Con mg "NOT_IN_RANGE" (.int (-1)):=by refine' HR.con_mk KX G ?a;case a=>k_is
  have c_many:HR.Con mg "TOO_MANY" (.int (-3)):=by refine' HR.con_mk KX G ?a;case a=>k_is
  have c_over:HR.Con mg "OVER_EDGE" (.int (-4)):=by refine' HR.con_mk KX G ?a;case a=>k_is
  have c_few:HR.Con mg "TOO_FEW" (.int (-5)):=by refine' HR.con_mk KX G ?a;case a=>k_is
  have c_noline:HR.Con mg "NO_LINE" (.int (-6)):=by refine' HR.con_mk KX G ?a;case a=>k_is
  have c_out:HR.Con mg "OUTSIDE" (.int (0)):=by refine' HR.con_mk KX G ?a;case a=>k_is
  have c_inn:HR.Con mg "WITHIN" (.int (1)):=by refine' HR.con_mk KX G ?a;case a=>k_is
  have c_rim:HR.Con mg "ON_RIM" (.int (2)):=by refine' HR.con_mk KX G ?a;case a=>k_is
  have b_len:mg "len" = none:=by refine' PySem.W.mg_none_of KX G ?_;k_is
  have b_range:mg "range" = none:=by refine' PySem.W.mg_none_of KX G ?_;k_is
  have b_sum:mg "sum" = none:=by refine' PySem.W.mg_none_of KX G ?_;k_is
  have b_min:mg "min" = none:=by refine' PySem.W.mg_none_of KX G ?_;k_is
  have b_max:mg "max" = none:=by refine' PySem.W.mg_none_of KX G ?_;k_is
  have b_abs:mg "abs" = none:=by refine' PySem.W.mg_none_of KX G ?_;k_is
  have b_sorted:mg "sorted" = none:=by refine' PySem.W.mg_none_of KX G ?_;k_is
  have b_set:mg "set" = none:=by refine' PySem.W.mg_none_of KX G ?_;k_is
  have b_list:mg "list" = none:=by refine' PySem.W.mg_none_of KX G ?_;k_is
  have b_enumerate:mg "enumerate" = none:=by refine' PySem.W.mg_none_of KX G ?_;k_is
  have T0:HR.Tab (L2.KOf KX) mg:=by
   dsimp only [L2.KOf]
   refine' HR.tab_mk KX G ?qa ?qb ?qc ?qd ?qe ?qf ?qg ?qh
   (case qa=>k_is)
   (case qb=>k_is)
   (case qc=>k_is)
   (case qd=>k_is)
   (case qe=>rfl)
   (case qf=>rfl)
   (case qg =>
    intro n hn
    match n,hn with
    | 0,_=>exact ⟨_,rfl⟩
    | 1,_=>exact ⟨_,rfl⟩
    | 2,_=>exact ⟨_,rfl⟩
    | 3,_=>exact ⟨_,rfl⟩
    | 4,_=>exact ⟨_,rfl⟩
    | 5,_=>exact ⟨_,rfl⟩
    | 6,_=>exact ⟨_,rfl⟩
    | 7,_=>exact ⟨_,rfl⟩
    | 8,_=>exact ⟨_,rfl⟩
    | 9,_=>exact ⟨_,rfl⟩
    | 10,_=>exact ⟨_,rfl⟩
    | 11,_=>exact ⟨_,rfl⟩
    | 12,_=>exact ⟨_,rfl⟩
    | 13,_=>exact ⟨_,rfl⟩
    | 14,_=>exact ⟨_,rfl⟩
    | 15,_=>exact ⟨_,rfl⟩
    | 16,_=>exact ⟨_,rfl⟩
    | 17,_=>exact ⟨_,rfl⟩
    | 18,_=>exact ⟨_,rfl⟩
    | 19,_=>exact ⟨_,rfl⟩
    | n+20,h=>exact absurd h (by omega))
   (case qh =>
    intro n hn
    match n,hn with
    | 0,_=>exact ⟨_,rfl,by show PySem.W.nsIn _ mainGlobals (Str.ofString "see")=_;k_is⟩
    | 1,_=>exact ⟨_,rfl,by show PySem.W.nsIn _ mainGlobals (Str.ofString "forget")=_;k_is⟩
    | 2,_=>exact ⟨_,rfl,by show PySem.W.nsIn _ mainGlobals (Str.ofString "told")=_;k_is⟩
    | 3,_=>exact ⟨_,rfl,by show PySem.W.nsIn _ mainGlobals (Str.ofString "clear")=_;k_is⟩
    | 4,_=>exact ⟨_,rfl,by show PySem.W.nsIn _ mainGlobals (Str.ofString "join")=_;k_is⟩
    | 5,_=>exact ⟨_,rfl,by show PySem.W.nsIn _ mainGlobals (Str.ofString "shift")=_;k_is⟩
    | 6,_=>exact ⟨_,rfl,by show PySem.W.nsIn _ mainGlobals (Str.ofString "turn")=_;k_is⟩
    | 7,_=>exact ⟨_,rfl,by show PySem.W.nsIn _ mainGlobals (Str.ofString "hull")=_;k_is⟩
    | 8,_=>exact ⟨_,rfl,by show PySem.W.nsIn _ mainGlobals (Str.ofString "area")=_;k_is⟩
    | 9,_=>exact ⟨_,rfl,by show PySem.W.nsIn _ mainGlobals (Str.ofString "where")=_;k_is⟩
    | 10,_=>exact ⟨_,rfl,by show PySem.W.nsIn _ mainGlobals (Str.ofString "depth")=_;k_is⟩
    | 11,_=>exact ⟨_,rfl,by show PySem.W.nsIn _ mainGlobals (Str.ofString "layers")=_;k_is⟩
    | 12,_=>exact ⟨_,rfl,by show PySem.W.nsIn _ mainGlobals (Str.ofString "least")=_;k_is⟩
    | 13,_=>exact ⟨_,rfl,by show PySem.W.nsIn _ mainGlobals (Str.ofString "extent")=_;k_is⟩
    | 14,_=>exact ⟨_,rfl,by show PySem.W.nsIn _ mainGlobals (Str.ofString "widest")=_;k_is⟩
    | 15,_=>exact ⟨_,rfl,by show PySem.W.nsIn _ mainGlobals (Str.ofString "halves")=_;k_is⟩
    | 16,_=>exact ⟨_,rfl,by show PySem.W.nsIn _ mainGlobals (Str.ofString "mean")=_;k_is⟩
    | 17,_=>exact ⟨_,rfl,by show PySem.W.nsIn _ mainGlobals (Str.ofString "overlap")=_;k_is⟩
    | 18,_=>exact ⟨_,rfl,by show PySem.W.nsIn _ mainGlobals (Str.ofString "meet")=_;k_is⟩
    | 19,_=>exact ⟨_,rfl,by show PySem.W.nsIn _ mainGlobals (Str.ofString "gap")=_;k_is⟩
    | n+20,h=>exact absurd h (by omega))
  have B:HR.Blt mg:=⟨b_len,b_range,b_sum,b_min,b_max,b_abs,b_sorted,b_set,b_list,b_enumerate⟩
  have Z:HR.Zone mg:=⟨c_out,c_inn,c_rim⟩
  have C:HR.Cons mg:=⟨c_animals,c_most,c_edge,c_left,c_nir,c_many,c_over,c_few,c_noline⟩
  have X:HR.Txt (L2.KOf KX) mg:=⟨s_turn_of,s_along,s_square,s_common_divisor,s_lowest,s_added,s_lesser,s_left_chain,s_sides_of,s_twice_area,s_steps,s_rim_count,s_inner_count,s_between,s_on_way,s_standing,s_holds,s_parted,s_meeting,s_way_square,s_way_squares,s_gap_square,s_point_turn,s_crossing_point,s_cut,s_twice_point_area,s_twice_common_area,s_ahead,s_depth_of,s_layers_of,s_corners_of,s_sets_of,s_area_without,s_least_without,s_widest_pair,s_counted,s_on_grid,s_told,s_hull,s_area,s_where,s_depth,s_layers,s_least,s_widest,s_overlap,s_meet,s_gap,s_extent,s_mean,s_halves,s_see,s_forget,s_clear,s_join,s_turn,s_shift,s_in_range,s_all_in_range,s_answer,s_answers⟩
  obtain ⟨fa',fd',F',hm',hb'⟩:=s_answers.ex
  have e0:=hmg.symm.trans hm'
  cases e0
  exact ⟨fd',HR.fun_bindsTo F' (fun _ _ _ _ _ _ us hl=>match us,hl with | [_],_=>rfl),fun base kb nb ns=>L2.FnOk.mono (HR.all_ok (P:=PySem.Challenge.rw_homeranges_s01_answers.prog) (w:=w) (base:=base) ns rfl B Z C X T0 F') (by decide)⟩
 case S =>
  intro K H xs a hO hwi hask hx
  cases hx with
  | cons h1 h2 =>
   cases h2
   cases h1 with
   | lst hs ha =>
    have e:=L2.ints_dw a.1 _ ha
    subst e
    have q:((Codec.inLen 0 2400 a.1 && a.1.all (Codec.inInt (-9223372036854775808) 9223372036854775807)) && true)=true:=hwi
    rw [Bool.and_eq_true,Bool.and_eq_true] at q
    exact ⟨_,a.1,rfl,hs,(Codec.inNat_iff.mp q.1.1).2,hask,fun H' p hp=>.lst (L2.SqL.of hp) (L2.dw_ints _)⟩
