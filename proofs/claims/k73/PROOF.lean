import PyProof.Rows.All
import Wide.All
import OpenK.AllK
import Wide.FinOn
import Lean
import PyProof.EqAt
import PyProof.EqKinds
import PyProof.TupleCall
import PyProof.SumAnyB
import PySem.Challenge.RW_levelcord_k73_levellings_judged
set_option Elab.async false
set_option linter.all false
set_option maxRecDepth 100000
set_option maxHeartbeats 4000000
set_option genSizeOf false
local macro_rules | `(tactic| omega)=>`(tactic| lia)
noncomputable section
namespace L2
open PySem PySem.Spec PyProof.Rows
noncomputable abbrev Key:=Sum Int Str
noncomputable def keyIs:Key->Value->Bool
 | .inl k,v=>Value.isInt k v
 | .inr x,v=>Value.isStrOf x v
noncomputable def keyH (w:World):Key->Int
 | .inl k=>hashInt k
 | .inr x=>hashStr w x
theorem keyIs_shape:∀ {k:Key} {v:Value},keyIs k v=true->(∃ i t,k=Sum.inl i/\v=Value.int i t)\/(∃ x t,k=Sum.inr x/\v=Value.str x t)
 | .inl i,v,h=>by
  obtain ⟨t,e⟩:=Value.isInt_shape (k:=i) (v:=v) h
  exact .inl ⟨i,t,rfl,e⟩
 | .inr x,v,h=>by
  obtain ⟨t,e⟩:=Value.isStrOf_shape (x:=x) (v:=v) h
  exact .inr ⟨x,t,rfl,e⟩
theorem key_ll (a b:Int):decide ((Sum.inl a:Key)=Sum.inl b)=(a == b):=by
 by_cases e:a=b
 ·subst e; simp
 ·have h:¬ (Sum.inl a:Key)=Sum.inl b:=fun q=>e (Sum.inl.inj q)
  rw [decide_eq_false h]
  exact (beq_eq_false_iff_ne.mpr e).symm
theorem key_rr (a b:Str):decide ((Sum.inr a:Key)=Sum.inr b)=decide (a=b):=by
 by_cases e:a=b
 ·subst e; simp
 ·have h:¬ (Sum.inr a:Key)=Sum.inr b:=fun q=>e (Sum.inr.inj q)
  rw [decide_eq_false h,decide_eq_false e]
theorem key_lr (a:Int) (b:Str):decide ((Sum.inl a:Key)=Sum.inr b)=false:=decide_eq_false (fun q=>nomatch q)
theorem key_rl (a:Str) (b:Int):decide ((Sum.inr a:Key)=Sum.inl b)=false:=decide_eq_false (fun q=>nomatch q)
noncomputable def mixKind (prog:Program) (w:World):PySem.KeyKind prog w Key where
 is:=keyIs
 hash:=keyH w
 inj:=fun v a b ha hb=>by
  rcases keyIs_shape ha with ⟨i,t,rfl,rfl⟩ | ⟨x,t,rfl,rfl⟩
  ·rcases keyIs_shape hb with ⟨j,u,rfl,e⟩ | ⟨y,u,rfl,e⟩
   ·injection e with e1 _; rw [e1]
   ·exact nomatch e
  ·rcases keyIs_shape hb with ⟨j,u,rfl,e⟩ | ⟨y,u,rfl,e⟩
   ·exact nomatch e
   ·injection e with e1 _; rw [e1]
 byValue:=fun k v h=>by
  rcases keyIs_shape h with ⟨i,t,rfl,rfl⟩ | ⟨x,t,rfl,rfl⟩<;>rfl
 pyHash:=fun hv h=>by
  rcases keyIs_shape hv with ⟨i,t,rfl,rfl⟩ | ⟨x,t,rfl,rfl⟩
  ·exact wpAny_pyHash_int h
  ·exact wpAny_pyHash_str h
 eqBool:=fun hu hv h=>by
  rcases keyIs_shape hu with ⟨i,t,rfl,rfl⟩ | ⟨x,t,rfl,rfl⟩
  ·rcases keyIs_shape hv with ⟨j,u,rfl,rfl⟩ | ⟨y,u,rfl,rfl⟩
   ·rw [key_ll] at h; exact wpAny_eqBool_int h
   ·rw [key_lr] at h; exact SeqAt.EqAt.int_str i t y u _ _ _ _ h
  ·rcases keyIs_shape hv with ⟨j,u,rfl,rfl⟩ | ⟨y,u,rfl,rfl⟩
   ·rw [key_rl] at h; exact SeqAt.EqAt.str_int x t j u _ _ _ _ h
   ·rw [key_rr] at h; exact wpAny_eqBool_str h
 «strs»:=fun k x t v h=>by
  rcases keyIs_shape h with ⟨i,u,rfl,e⟩ | ⟨y,u,rfl,e⟩
  ·exact nomatch e
  ·injection e with e1 _
   subst e1
   cases v<;>rfl
end L2
namespace L2
open PySem PySem.Spec PyProof.Rows
inductive V where
 | non | bl (b:Bool) | int (i:Int) | str (x:Str) | byt (b:Array UInt8) | flt (b:UInt64) | ref (a:Addr) | ty (n:String)
 deriving DecidableEq
noncomputable def RelV:V->Value->Prop
 | .non,u=>u=Value.none
 | .bl b,u=>u=Value.bool b
 | .int i,u=>∃ t,u=Value.int i t
 | .str x,u=>∃ t,u=Value.str x t
 | .byt b,u=>∃ t,u=Value.bytes b t
 | .flt b,u=>∃ t,u=Value.float b t
 | .ref a,u=>u=Value.ref a
 | .ty n,u=>u=Value.type n
noncomputable abbrev Vals:List V->List Value->Prop:=Paired RelV
theorem Vals.length {xs:List V} {us:List Value} (r:Vals xs us):xs.length=us.length:=Paired.length r
theorem Vals.get:∀ {xs:List V} {us:List Value} {i:Nat} {x:V},Vals xs us->xs[i]?=some x->∃ u,us[i]?=some u/\RelV x u
 | _,_,_,_,.nil,e=>by simp at e
 | _,_,0,_,.cons r _,e=>by simp at e; subst e; exact ⟨_,rfl,r⟩
 | _,_,i + 1,x,.cons _ t,e=>by
  obtain ⟨u,h1,h2⟩:=Vals.get (i:=i) (x:=x) t (by simpa using e)
  exact ⟨u,by simpa using h1,h2⟩
theorem Vals.set {x:V} {u:Value} (r:RelV x u):∀ {xs:List V} {us:List Value} (i:Nat),Vals xs us->Vals (xs.set i x) (us.set i u)
 | _,_,_,.nil=>.nil
 | _,_,0,.cons _ t=>.cons r t
 | _,_,i + 1,.cons q t=>.cons q (Vals.set r i t)
theorem Vals.append:∀ {xs ys:List V} {us ws:List Value},Vals xs us->Vals ys ws->Vals (xs++ys) (us++ws)
 | _,_,_,_,.nil,s=>s
 | _,_,_,_,.cons r t,s=>.cons r (Vals.append t s)
theorem Vals.take:∀ {xs:List V} {us:List Value} (n:Nat),Vals xs us->Vals (xs.take n) (us.take n)
 | _,_,0,_=>.nil
 | _,_,_ + 1,.nil=>.nil
 | _,_,n + 1,.cons r t=>.cons r (Vals.take n t)
theorem Vals.drop:∀ {xs:List V} {us:List Value} (n:Nat),Vals xs us->Vals (xs.drop n) (us.drop n)
 | _,_,0,r=>r
 | _,_,_ + 1,.nil=>.nil
 | _,_,n + 1,.cons _ t=>Vals.drop n t
noncomputable def RelO:Option V->Option Value->Prop
 | some v,some u=>RelV v u
 | none,none=>True
 | _,_=>False
noncomputable def KV {κ:Type}:List (κ×V)->List (κ×Value)->Prop:=Paired fun (p:κ×V) (q:κ×Value)=>p.1=q.1/\RelV p.2 q.2
noncomputable def kV:Key->V
 | .inl i=>.int i
 | .inr x=>.str x
inductive HO where
 | lst (xs:List V)
 | tup (xs:List V)
 | dK (kvs:List (Key×V)) | dT (kvs:List (List Key×V))
 | set (S:Int->Bool) (n:Nat)
 | ins (C dx:Addr) (fs:List (Str×V))
 | own (x:Addr)
 | xd (fs:List (Str×V))
 | met (f x:Addr)
 | rng (lo hi:Int)
 | frz (o:Obj) (u:HO)
 | tbl (ps:Array Value)
 | ext (φ:Heap->Prop)
noncomputable abbrev Hp:=Addr->Option HO
noncomputable def upd (H:Hp) (a:Addr) (o:HO):Hp:=fun b=>if b=a then some o else H b
theorem upd_same {H:Hp} {a:Addr} {o:HO}:upd H a o a=some o:=by unfold upd; rw [if_pos rfl]
theorem upd_ne {H:Hp} {a b:Addr} {o:HO} (h:b≠a):upd H a o b=H b:=by unfold upd; rw [if_neg h]
theorem ne_of_none {H:Hp} {a b:Addr} {o:HO} (h:H a=some o) (h':H b=none):a≠b:=by
 intro e; subst e; rw [h] at h'; cases h'
section
variable (P:Program) (w:World)
noncomputable def ObjOk (H:Hp) (h:Heap) (a:Addr):HO->Prop
 | .lst xs=>xs.length<=sizeLine/\∃ (its:List Value) (n:Nat),Vals xs its/\h.get? a=some { cls:=.type "list",data:=.seq its.toArray n }
 | .tup xs=>xs.length<=sizeLine/\∃ its:List Value,Vals xs its/\IsTup h a its.toArray
 | .dK kvs=>kvs.length<=sizeLine/\(a == sysModules)=false/\∃ vs,KV kvs vs/\h.DictOf (mixKind P w) a vs
 | .dT kvs=>kvs.length<=sizeLine/\(a == sysModules)=false/\∃ xs:List (List Key×Addr×Value),
   Paired (fun (p:List Key×V) (q:List Key×Addr×Value)=>p.1=q.1/\H q.2.1=some (.tup (p.1.map kV))/\RelV p.2 q.2.2) kvs xs /\
   ∃ o es ep,h.get? a=some o/\o.ExactDict/\o.data=.dict es ep/\es.toList=xs.map (entryOfKey (tupleKind (mixKind P w)))/\(xs.map (·.1)).Nodup
 | .set S n=>h.SetOf (intKind P w) a S n
 | .ins C dx fs=>H dx=some (.own a)/\fs.length<=1000/\dx≠a/\h.get? a=some (PySem.W.instObj C dx) /\
   ∃ mA,h.Ns1 dx mA/\(∀ f,RelO (fs.lookup f) (mA f))/\PySem.Within mA (fs.map (·.1))
 | .own _=>∃ o,h.get? a=some o
 | .xd fs=>∃ mA,h.Ns1 a mA/\∀ f,RelO (fs.lookup f) (mA f)
 | .rng lo hi=>∃ t u v,h.get? a=some { cls:=.type "range",data:=.fields #[.int lo t,.int hi u,.int 1 v] }
 | .frz o u=>h.get? a=some o/\ObjOk H h a u
 | .tbl ps=>h.get? a=some { cls:=.none,data:=.fields ps }
 | .met f x=>h.get? a=some (PySem.W.methodObj (.ref f) (.ref x))
 | .ext φ=>φ h/\(∃ o,h.get? a=some o)/\∀ h1 h2:Heap,φ h1->(∀ o,h1.get? a=some o->h2.get? a=some o)->φ h2
noncomputable def HOk (H:Hp) (h:Heap):Prop:=∀ a o,H a=some o->ObjOk P w H h a o
end
section
variable {P:Program} {w:World} {H H':Hp} {h h':Heap} {a:Addr} {o:HO}
theorem ObjOk.lt (x:ObjOk P w H h a o):a < h.objs.size:=by
 cases o with
 | lst xs=>obtain ⟨_,_,_,_,e⟩:=x; exact Heap.lt_size e
 | tup xs=>obtain ⟨_,_,_,p⟩:=x; exact p.lt
 | dK kvs=>obtain ⟨_,_,_,_,o,_,_,e,_⟩:=x; exact Heap.lt_size e
 | dT kvs=>obtain ⟨_,_,_,_,o,_,_,e,_⟩:=x; exact Heap.lt_size e
 | set S n=>obtain ⟨o,_,_,_,e,_⟩:=x; exact Heap.lt_size e
 | ins C dx fs=>obtain ⟨_,_,_,e,_⟩:=x; exact Heap.lt_size e
 | own y=>obtain ⟨_,e⟩:=x; exact Heap.lt_size e
 | xd fs=>obtain ⟨_,⟨_,_,_,e,_⟩,_⟩:=x; exact Heap.lt_size e
 | rng lo hi=>obtain ⟨_,_,_,e⟩:=x; exact Heap.lt_size e
 | frz ob u=>obtain ⟨e,_⟩:=x; exact Heap.lt_size e
 | tbl ps=>exact Heap.lt_size (show h.get? a=some _ from x)
 | met f y=>exact Heap.lt_size (show h.get? a=some _ from x)
 | ext φ=>obtain ⟨_,⟨_,e⟩,_⟩:=x; exact Heap.lt_size e
theorem Paired.mapP {α β:Type} {F G:α->β->Prop}:∀ {l₁:List α} {l₂:List β},Paired F l₁ l₂->(∀ a b,F a b->G a b)->Paired G l₁ l₂
 | _,_,.nil,_=>.nil
 | _,_,.cons r t,f=>.cons (f _ _ r) (Paired.mapP t f)
theorem ObjOk.stay (x:ObjOk P w H h a o) (k:∀ b u,(b=a\/H b=some (.own a))->h.get? b=some u->h'.get? b=some u)
  (ho:∀ b,H b=some (.own a)->H' b=some (.own a)) (ht:∀ b xs,H b=some (.tup xs)->H' b=some (.tup xs)):ObjOk P w H' h' a o:=by
 induction o with
 | lst xs=>obtain ⟨z,its,n,r,e⟩:=x; exact ⟨z,its,n,r,k _ _ (.inl rfl) e⟩
 | tup xs=>obtain ⟨z,its,r,ob,e,c⟩:=x; exact ⟨z,its,r,ob,k _ _ (.inl rfl) e,c⟩
 | dK kvs=>obtain ⟨z,y,vs,r,ob,es,ep,e,c⟩:=x; exact ⟨z,y,vs,r,ob,es,ep,k _ _ (.inl rfl) e,c⟩
 | dT kvs =>
  obtain ⟨z,y,xs,r,ob,es,ep,e,c⟩:=x
  exact ⟨z,y,xs,Paired.mapP r fun p q z=>⟨z.1,ht _ _ z.2.1,z.2.2⟩,ob,es,ep,k _ _ (.inl rfl) e,c⟩
 | set S n=>obtain ⟨ob,es,ep,t,e,c⟩:=x; exact ⟨ob,es,ep,t,k _ _ (.inl rfl) e,c⟩
 | ins C dx fs =>
  obtain ⟨d,z,ne,e,mA,⟨od,es,ep,e2,c⟩,r⟩:=x
  exact ⟨ho _ d,z,ne,k _ _ (.inl rfl) e,mA,⟨od,es,ep,k _ _ (.inr d) e2,c⟩,r⟩
 | own y=>obtain ⟨ob,e⟩:=x; exact ⟨ob,k _ _ (.inl rfl) e⟩
 | xd fs=>obtain ⟨mA,⟨od,es,ep,e,c⟩,r⟩:=x; exact ⟨mA,⟨od,es,ep,k _ _ (.inl rfl) e,c⟩,r⟩
 | rng lo hi=>obtain ⟨t,u,v,e⟩:=x; exact ⟨t,u,v,k _ _ (.inl rfl) e⟩
 | frz ob u ih=>obtain ⟨e,q⟩:=x; exact ⟨k _ _ (.inl rfl) e,ih q⟩
 | tbl ps =>
  have e:h.get? a=some { cls:=.none,data:=.fields ps }:=x
  show h'.get? a=some { cls:=.none,data:=.fields ps }
  exact k a _ (.inl rfl) e
 | met f y =>
  have e:h.get? a=some (PySem.W.methodObj (.ref f) (.ref y)):=x
  show h'.get? a=some (PySem.W.methodObj (.ref f) (.ref y))
  exact k a _ (.inl rfl) e
 | ext φ=>obtain ⟨p,⟨o,e⟩,st⟩:=x; exact ⟨st _ _ p fun o q=>k _ _ (.inl rfl) q,⟨o,k _ _ (.inl rfl) e⟩,st⟩
theorem HOk.lt (x:HOk P w H h) (e:H a=some o):a < h.objs.size:=(x a o e).lt
theorem HOk.fresh (x:HOk P w H h) (e:h.objs.size<=a):H a=none:=by
 cases q:H a with
 | none=>rfl
 | some u=>exact absurd (Nat.lt_of_lt_of_le (x.lt q) e) (Nat.lt_irrefl _)
theorem HOk.kept (x:HOk P w H h) (k:∀ b u,h.get? b=some u->h'.get? b=some u):HOk P w H h':=fun a o e =>
 (x a o e).stay (fun b u _ q=>k b u q) (fun _ q=>q) fun _ _ q=>q
theorem HOk.laid (x:HOk P w H h) (k:∀ b u,h.get? b=some u->h'.get? b=some u) (hp:h.objs.size<=a) (new:ObjOk P w (upd H a o) h' a o):HOk P w (upd H a o) h':=fun b u e=>by
 have hn:=x.fresh hp
 by_cases hb:b=a
 ·subst hb; rw [upd_same] at e; cases e; exact new
 ·rw [upd_ne hb] at e
  exact (x b u e).stay (fun c v _ q=>k c v q) (fun c q=>by rw [upd_ne (ne_of_none q hn)]; exact q) fun c xs q=>by rw [upd_ne (ne_of_none q hn)]; exact q
end
noncomputable def Rd (H:Hp) (a:Addr) (u:HO):Prop:=H a=some u\/∃ o,H a=some (.frz o u)
theorem Rd.of {H:Hp} {a:Addr} {u:HO} (h:H a=some u):Rd H a u:=.inl h
theorem Rd.ok {P:Program} {w:World} {H:Hp} {h:Heap} {a:Addr} {u:HO} (r:Rd H a u) (x:HOk P w H h):ObjOk P w H h a u:=by
 rcases r with r | ⟨o,r⟩
 ·exact x a u r
 ·obtain ⟨_,q⟩:=x a _ r
  exact q
noncomputable def Mut:Option HO->Prop
 | some (.lst _)=>True
 | some (.dK _)=>True
 | some (.dT _)=>True
 | some (.set _ _)=>True
 | some (.ins _ _ _)=>True
 | some (.ext _)=>True
 | _=>False
section
variable {P:Program} {w:World} {H:Hp} {h h':Heap} {x e:Addr} {o':HO}
theorem HOk.write (ok:HOk P w H h) (mu:Mut (H x)) (he:e=x\/H e=some (.own x)) (k:∀ b u,b≠e->h.get? b=some u->h'.get? b=some u) (heo:∃ u,h'.get? e=some u)
  (new:ObjOk P w (upd H x o') h' x o'):HOk P w (upd H x o') h':=fun b u q=>by
 have nown:∀ c y,H c=some (.own y)->c≠x:=fun c y r z=>by subst z; rw [r] at mu; exact mu
 have ntup:∀ c xs,H c=some (.tup xs)->c≠x:=fun c xs r z=>by subst z; rw [r] at mu; exact mu
 by_cases hb:b=x
 ·subst hb; rw [upd_same] at q; cases q; exact new
 ·rw [upd_ne hb] at q
  by_cases hbe:b=e
  ·have q':H b=some (.own x):=by
    rcases he with z | z
    ·exact absurd (hbe.trans z) hb
    ·rw [hbe]; exact z
   rw [q] at q'; cases q'
   obtain ⟨v,hv⟩:=heo
   exact ⟨v,by rw [hbe]; exact hv⟩
  ·refine (ok b u q).stay (fun c v hc r=>k c v ?_ r) (fun c r=>by rw [upd_ne (nown c b r)]; exact r) fun c xs r=>by rw [upd_ne (ntup c xs r)]; exact r
   rcases hc with rfl | hc
   ·exact hbe
   ·rintro rfl
    rcases he with z | z
    ·exact nown c b hc z
    ·rw [hc] at z; cases z; exact hb rfl
end
structure Un (fs ex:List Addr) (H H':Hp) (h h':Heap):Prop where
 keep:∀ b o,h.get? b=some o->H b=none->b ∉ fs->b ∉ ex->h'.get? b=some o
 slot:∀ b o,h.get? b=some o->H b=none->b∈fs->b ∉ ex->∃ sl,h'.get? b=some { o with slots:=sl }
 free:∀ b o,h.get? b=some o->H b=none->b ∉ ex->H' b=none
 there:∀ b o,h.get? b=some o->b ∉ ex->∃ o',h'.get? b=some o'
 tups:∀ b xs,H b=some (.tup xs)->H' b=some (.tup xs)
 frzs:∀ b o u,H b=some (.frz o u)->H' b=some (.frz o u)
 tbls:∀ b ps,H b=some (.tbl ps)->∃ more,H' b=some (.tbl (ps++more))
section
variable {fs fs' ex ex':List Addr} {H H1 H2:Hp} {h h1 h2 h':Heap} {a x e:Addr} {o:HO}
theorem Un.any (u:Un fs ex H H1 h h1) {b:Addr} {ob:Obj} (q:h.get? b=some ob) (n:H b=none) (hx:b ∉ ex):∃ sl,h1.get? b=some { ob with slots:=sl }:=by
 by_cases hb:b∈fs
 ·exact u.slot b ob q n hb hx
 ·exact ⟨ob.slots,u.keep b ob q n hb hx⟩
theorem Un.trans (a:Un fs ex H H1 h h1) (b:Un fs ex H1 H2 h1 h2):Un fs ex H H2 h h2 where
 keep:=fun c ob q n hc hx=>b.keep c ob (a.keep c ob q n hc hx) (a.free c ob q n hx) hc hx
 slot:=fun c ob q n hc hx=>by
  obtain ⟨sl,e1⟩:=a.slot c ob q n hc hx
  obtain ⟨sl',e2⟩:=b.slot c _ e1 (a.free c ob q n hx) hc hx
  exact ⟨sl',e2⟩
 free:=fun c ob q n hx=>by
  obtain ⟨o',e1⟩:=a.there c ob q hx
  exact b.free c o' e1 (a.free c ob q n hx) hx
 there:=fun c ob q hx=>by
  obtain ⟨o',e1⟩:=a.there c ob q hx
  exact b.there c o' e1 hx
 tups:=fun c xs q=>b.tups c xs (a.tups c xs q)
 frzs:=fun c ob xs q=>b.frzs c ob xs (a.frzs c ob xs q)
 tbls:=fun c ps q=>by
  obtain ⟨m1,e1⟩:=a.tbls c ps q
  obtain ⟨m2,e2⟩:=b.tbls c _ e1
  exact ⟨m1++m2,by rw [e2,Array.append_assoc]⟩
theorem Un.kept (k:∀ b u,h.get? b=some u->h'.get? b=some u):Un fs ex H H h h' :=
 ⟨fun b ob q _ _ _=>k b ob q,fun b ob q _ _ _=>⟨ob.slots,k b ob q⟩,fun _ _ _ n _=>n,fun b ob q _=>⟨ob,k b ob q⟩,fun _ _ q=>q,fun _ _ _ q=>q,fun _ ps q=>⟨#[],by rw [q]; simp⟩⟩
theorem Un.refl:Un fs ex H H h h:=Un.kept fun _ _ q=>q
theorem Un.laid (k:∀ b u,h.get? b=some u->h'.get? b=some u) (hp:h.objs.size<=a) (hn:H a=none):Un fs ex H (upd H a o) h h' where
 keep:=fun b u q _ _ _=>k b u q
 slot:=fun b u q _ _ _=>⟨u.slots,k b u q⟩
 free:=fun b u q n _=>by rw [upd_ne (Nat.ne_of_lt (Nat.lt_of_lt_of_le (Heap.lt_size q) hp))]; exact n
 there:=fun b u q _=>⟨u,k b u q⟩
 tups:=fun b xs q=>by rw [upd_ne (ne_of_none q hn)]; exact q
 frzs:=fun b u xs q=>by rw [upd_ne (ne_of_none q hn)]; exact q
 tbls:=fun b ps q=>⟨#[],by rw [upd_ne (ne_of_none q hn),q]; simp⟩
theorem Un.write (mu:Mut (H x)) (he:e=x\/H e=some (.own x)) (k:∀ b u,b≠e->h.get? b=some u->h'.get? b=some u) (heo:∃ u,h'.get? e=some u):Un fs ex H (upd H x o) h h':=by
 have hx:∀ b,H b=none->b≠x:=fun b n z=>by subst z; rw [n] at mu; exact mu
 have hb:∀ b,H b=none->b≠e:=fun b n z=>by
  subst z
  rcases he with r | r
  ·exact hx b n r
  ·rw [n] at r; cases r
 have hm:∀ b u,H b=some u->¬ Mut (some u)->b≠x:=fun b u q nm z=>by subst z; rw [q] at mu; exact nm mu
 refine ⟨fun b u q n _ _=>k b u (hb b n) q,fun b u q n _ _=>⟨u.slots,k b u (hb b n) q⟩,fun b u q n _=>by rw [upd_ne (hx b n)]; exact n,fun b u q _=>?_,
  fun b xs q=>by rw [upd_ne (hm b _ q fun z=>z)]; exact q,fun b u xs q=>by rw [upd_ne (hm b _ q fun z=>z)]; exact q,fun b ps q=>⟨#[],by rw [upd_ne (hm b _ q fun z=>z),q]; simp⟩⟩
 by_cases hbe:b=e
 ·subst hbe; exact heo
 ·exact ⟨u,k b u hbe q⟩
theorem Un.mono (u:Un fs ex H H1 h h1) (hs:∀ b∈fs,b∈fs') (hx:∀ b∈ex,b∈ex'):Un fs' ex' H H1 h h1 :=
 ⟨fun b ob q n hb he=>u.keep b ob q n (fun z=>hb (hs b z)) fun z=>he (hx b z),fun _ _ q n _ he=>u.any q n fun z=>he (hx _ z),fun b ob q n he=>u.free b ob q n fun z=>he (hx b z),fun b ob q he=>u.there b ob q fun z=>he (hx b z),u.tups,u.frzs,u.tbls⟩
end
noncomputable def trk (h:Heap) (H:Hp):List Addr:=(List.range h.objs.size).filter fun a=>(H a).isSome
noncomputable def hidT (h:Heap) (H:Hp):Heap:=PySem.W.hideAll h (trk h H)
theorem hidT_size (h:Heap) (H:Hp):(hidT h H).objs.size=h.objs.size:=PySem.W.hideAll_size _ _
theorem hidT_get {h:Heap} {H:Hp} {b:Addr} {o:Obj} (e:h.get? b=some o) (n:H b=none):(hidT h H).get? b=some o :=
 PySem.W.hideAll_get _ e fun hm=>by
  have q:(H b).isSome=true:=(List.mem_filter.mp hm).2
  rw [n] at q; simp at q
theorem of_hidT {h:Heap} {H:Hp} {b:Addr} {o:Obj} (e:(hidT h H).get? b=some o):h.get? b=some o/\H b=none:=by
 have e':h.get? b=some o:=PySem.W.of_hideAll (trk h H) e
 refine ⟨e',?_⟩
 cases q:H b with
 | none=>rfl
 | some x =>
  have hm:b∈trk h H:=List.mem_filter.mpr ⟨List.mem_range.mpr (Heap.lt_size e'),by simp [q]⟩
  have z:(hidT h H).get? b=none:=PySem.W.hideAll_none (trk h H) hm
  rw [z] at e; cases e
noncomputable def allNews (g h:Heap) (L:Addr):List (Addr×Obj):=(List.range h.objs.size).filterMap fun a=>if a=L\/(g.get? a).isSome=true then none else (h.get? a).map fun o=>(a,o)
noncomputable def rest (g h:Heap) (L d:Addr):List (Addr×Obj):=(allNews g h L).filter fun p=>decide (p.1≠d)
end L2
namespace L2
open PySem PySem.Spec PyProof.Rows
structure Mod (K:PySem.W.Frag) (mg:Str->Option Value) (base:Heap):Prop where
 kin:K.In base
 glob:base.Ns mainGlobals mg
 blt:∃ mb,base.Ns builtinsNs mb/\∀ x:Str,x≠"__name__"->mb x=bootBuiltins x
 nolimit:base.NoLimit
structure Cx where
 prog:Program
 w:World
 K:PySem.W.Frag
 mg:Str->Option Value
 base:Heap
 A:Around
 N:List Str
 s₀:Shared
 H₀:Hp
 env:Env
 outer:List Env
 stack:List Env
 ex:List Addr
 fn:Str->Bool
 calm:Bool
 pn:List (Addr×Obj)
 xe:Value->Shared->Prop
noncomputable def frs (l:List Env):List Addr:=l.filterMap (·.frame)
noncomputable abbrev Cx.fs (X:Cx):List Addr:=frs X.outer
noncomputable def Vis (sc:Scope) (x:Str):Prop:=sc.names.lookup x=some .local\/sc.names.lookup x=some .cell\/sc.names.lookup x=some .free
noncomputable def Loc (sc:Scope) (x:Str):Prop:=sc.names.lookup x=some .local\/sc.names.lookup x=some .cell
noncomputable def Look (env:Env) (h:Heap) (m:Str->Option Value) (x:Str) (u:Value):Prop :=
 (env.kindOf x=some .local/\m x=some u)\/((env.kindOf x=some .cell\/env.kindOf x=some .free)/\∃ c,env.cells.lookup x=some c/\h.IsCell c (some u))
structure Cx.Ok (X:Cx):Prop where
 mod:Mod X.K X.mg X.base
 kind:X.env.scope.kind=.function
 glob:X.env.globals=mainGlobals
 blt:X.env.builtins=builtinsNs
 above:X.s₀.heap.objs.size<=X.env.locals
 inj:∀ x y c,X.env.cells.lookup x=some c->X.env.cells.lookup y=some c->x=y
 has:∀ x,(X.env.kindOf x=some .cell\/X.env.kindOf x=some .free)->∃ c,X.env.cells.lookup x=some c
 cab:∀ x c,X.fn x=true->X.env.cells.lookup x=some c->X.s₀.heap.objs.size<=c
 hd:X.calm=true->X.A.handled=none
 frames:X.A.frames=some X.stack
 stk:X.stack=X.outer\/(X.stack=X.env :: X.outer/\X.env.frame=some X.env.locals)
 exf:∀ b∈X.ex,b≠X.env.locals/\∀ x c,X.env.cells.lookup x=some c->c≠b
 bs:∀ b o,X.base.get? b=some o->X.s₀.heap.get? b=some o/\X.H₀ b=none
 bsz:X.base.objs.size<=X.s₀.heap.objs.size
 noex:∀ b o,X.base.get? b=some o->b ∉ X.ex
 exfs:∀ b∈X.ex,b ∉ X.fs
 funs:X.s₀.heap.FunFrames X.base X.outer
 frf:∀ b∈X.fs,X.H₀ b=none
structure Inv (X:Cx) (pins:List (Addr×Obj)) (σ:List (Option V)) (H:Hp) (s:Shared):Prop where
 ok:X.Ok
 os:s.os=X.s₀.os
 bare:AllBare s.gens
 base:Un X.fs X.ex X.H₀ H X.s₀.heap s.heap
 loc:∃ m,s.heap.Ns X.env.locals m/\∀ (i:Nat) (x:Str) (v:V),X.N[i]?=some x->σ[i]?=some (some v)->Vis X.env.scope x->∃ u,RelV v u/\Look X.env s.heap m x u
 cell:∀ x c,X.env.cells.lookup x=some c->∃ v,s.heap.IsCell c v
 free:H X.env.locals=none
 freeC:∀ x c,X.env.cells.lookup x=some c->H c=none
 pin:∀ p∈X.pn++pins,s.heap.get? p.1=some p.2/\H p.1=none/\p.1≠X.env.locals/\p.1 ∉ X.fs/\∀ v,p.2.data≠.cell v
 hok:HOk X.prog X.w H s.heap
 len:σ.length=X.N.length
section
variable {X:Cx} {pins:List (Addr×Obj)} {σ:List (Option V)} {H H':Hp} {s:Shared} {h':Heap}
theorem Cx.Ok.nofr (ok:X.Ok) {b:Addr} {o:Obj} (e:X.base.get? b=some o):b ∉ X.fs:=fun hb=>by
 have:=(ok.funs.mem hb).1
 rw [e] at this; cases this
theorem Inv.bs (I:Inv X pins σ H s):∀ b o,X.base.get? b=some o->s.heap.get? b=some o/\H b=none:=fun b o e =>
 ⟨I.base.keep b o (I.ok.bs b o e).1 (I.ok.bs b o e).2 (I.ok.nofr e) (I.ok.noex b o e),I.base.free b o (I.ok.bs b o e).1 (I.ok.bs b o e).2 (I.ok.noex b o e)⟩
theorem Inv.bk (I:Inv X pins σ H s):∀ b o,X.base.get? b=some o->s.heap.get? b=some o:=fun b o e=>(I.bs b o e).1
theorem Inv.mod (I:Inv X pins σ H s):Mod X.K X.mg X.base:=I.ok.mod
theorem Inv.kIn (I:Inv X pins σ H s):X.K.In s.heap:=I.ok.mod.kin.keeps I.bk
theorem Inv.lt (I:Inv X pins σ H s):X.env.locals < s.heap.objs.size:=let ⟨_,hn,_⟩:=I.loc; hn.lt
theorem Inv.sz (I:Inv X pins σ H s):X.s₀.heap.objs.size<=s.heap.objs.size:=Nat.le_trans I.ok.above (Nat.le_of_lt I.lt)
theorem Inv.nofs (I:Inv X pins σ H s) {a:Addr} (h:s.heap.objs.size<=a):a ∉ X.fs:=fun hb=>by
 obtain ⟨_,o,ho,_⟩:=I.ok.funs.mem hb
 exact absurd (Nat.lt_of_lt_of_le (Heap.lt_size ho) (Nat.le_trans I.sz h)) (Nat.lt_irrefl _)
theorem Inv.cne (I:Inv X pins σ H s):∀ x c,X.env.cells.lookup x=some c->c≠X.env.locals:=fun x c e z=>by
 obtain ⟨v,o,ho,hd⟩:=I.cell x c e
 obtain ⟨m,⟨o',es,ep,ho',hd',_⟩,_⟩:=I.loc
 rw [z,ho'] at ho; cases ho; rw [hd'] at hd; cases hd
theorem Inv.funs (I:Inv X pins σ H s):s.heap.FunFrames X.base X.outer:=by
 have all:∀ (l:List Env),(∀ b∈frs l,b∈X.fs)->X.s₀.heap.FunFrames X.base l->s.heap.FunFrames X.base l:=by
  intro l
  induction l with
  | nil=>intro _ _; trivial
  | cons env r ih =>
   intro hs hl
   obtain ⟨hk,⟨L,o,hf,hn,ho,hd⟩,hr⟩:=hl
   have hL:L∈X.fs:=hs L (by unfold frs; rw [List.filterMap_cons,hf]; exact List.mem_cons_self)
   obtain ⟨sl,e⟩:=I.base.slot L o ho (I.ok.frf L hL) hL fun z=>I.ok.exfs L z hL
   exact ⟨hk,⟨L,_,hf,hn,e,hd⟩,ih (fun b hb=>hs b (by unfold frs; rw [List.filterMap_cons,hf]; exact List.mem_cons_of_mem _ hb)) hr⟩
 exact all X.outer (fun _ hb=>hb) I.ok.funs
theorem Inv.stack (I:Inv X pins σ H s):s.heap.FunFrames X.base X.stack:=by
 rcases I.ok.stk with e | ⟨e,hf⟩
 ·rw [e]; exact I.funs
 ·rw [e]
  obtain ⟨m,hn,_⟩:=I.loc
  refine .cons (by rw [I.ok.kind]; decide) hf hn ?_ I.funs
  exact Heap.get?_none_of_le (Nat.le_trans I.ok.bsz I.ok.above)
theorem Inv.stkSub (I:Inv X pins σ H s):∀ b∈frs X.stack,b∈X.env.locals :: X.fs:=fun b hb=>by
 rcases I.ok.stk with e | ⟨e,hf⟩
 ·rw [e] at hb; exact List.mem_cons_of_mem _ hb
 ·rw [e] at hb
  unfold frs at hb
  rw [List.filterMap_cons,hf] at hb
  exact hb
theorem Inv.stkFree (I:Inv X pins σ H s):∀ b∈frs X.stack,H b=none:=fun b hb=>by
 rcases List.mem_cons.mp (I.stkSub b hb) with e | hb
 ·rw [e]; exact I.free
 ·obtain ⟨_,o,ho,_⟩:=I.ok.funs.mem hb
  exact I.base.free b o ho (I.ok.frf b hb) fun z=>I.ok.exfs b z hb
theorem Inv.step {g':Array GenState} {t':Nat} {d':Drawn} {ch:List Addr} (I:Inv X pins σ H s)
  (hch:∀ b∈ch,(b∈X.ex\/X.s₀.heap.objs.size<=b)/\b≠X.env.locals/\(∀ x c,X.env.cells.lookup x=some c->c≠b)/\∀ p∈X.pn++pins,p.1≠b)
  (keep:∀ b o,b≠X.env.locals->b ∉ X.fs->b ∉ ch->s.heap.get? b=some o->H b=none->h'.get? b=some o)
  (slot:∀ b o,b≠X.env.locals->b∈X.fs->b ∉ ch->s.heap.get? b=some o->H b=none->∃ sl,h'.get? b=some { o with slots:=sl }) (free:∀ b o,b ∉ ch->s.heap.get? b=some o->H b=none->H' b=none)
  (there:∀ b o,b ∉ ch->s.heap.get? b=some o->∃ o',h'.get? b=some o')
  (tups:∀ b xs,H b=some (.tup xs)->H' b=some (.tup xs)) (frzs:∀ b o u,H b=some (.frz o u)->H' b=some (.frz o u)) (tbls:∀ b ps,H b=some (.tbl ps)->∃ more,H' b=some (.tbl (ps++more)))
  (ns:∀ m,s.heap.Ns X.env.locals m->h'.Ns X.env.locals m) (hok:HOk X.prog X.w H' h') (hg:AllBare g') :
  Inv X pins σ H' { s with heap:=h',gens:=g',drawn:=d',toks:=t' }:=by
 have neL:∀ b o,X.s₀.heap.get? b=some o->b≠X.env.locals:=fun b o e=>Nat.ne_of_lt (Nat.lt_of_lt_of_le (Heap.lt_size e) I.ok.above)
 have neC:∀ b o,X.s₀.heap.get? b=some o->b ∉ X.ex->b ∉ ch:=fun b o e hx hb=>by
  rcases (hch b hb).1 with z | z
  ·exact hx z
  ·exact absurd (Nat.lt_of_lt_of_le (Heap.lt_size e) z) (Nat.lt_irrefl _)
 have cellK:∀ x c,X.env.cells.lookup x=some c->∀ v,s.heap.IsCell c v->h'.IsCell c v:=fun x c e v ⟨o,ho,hd⟩=>by
  have nch:c ∉ ch:=fun z=>(hch c z).2.2.1 x c e rfl
  by_cases hc:c∈X.fs
  ·obtain ⟨sl,q⟩:=slot c o (I.cne x c e) hc nch ho (I.freeC x c e)
   exact ⟨_,q,hd⟩
  ·exact ⟨o,keep c o (I.cne x c e) hc nch ho (I.freeC x c e),hd⟩
 refine ⟨I.ok,I.os,hg,⟨fun b o e n hb hx=>?_,fun b o e n hb hx=>?_,fun b o e n hx=>?_,fun b o e hx=>?_,fun b xs e=>tups b xs (I.base.tups b xs e),fun b o xs e=>frzs b o xs (I.base.frzs b o xs e),fun b ps e=>?_⟩,?_,fun x c e=>?_,?_,fun x c e=>?_,fun p hp=>?_,hok,I.len⟩
 ·exact keep b o (neL b o e) hb (neC b o e hx) (I.base.keep b o e n hb hx) (I.base.free b o e n hx)
 ·obtain ⟨sl,e1⟩:=I.base.slot b o e n hb hx
  obtain ⟨sl',e2⟩:=slot b _ (neL b o e) hb (neC b o e hx) e1 (I.base.free b o e n hx)
  exact ⟨sl',e2⟩
 ·obtain ⟨o',e1⟩:=I.base.there b o e hx
  exact free b o' (neC b o e hx) e1 (I.base.free b o e n hx)
 ·obtain ⟨o',e1⟩:=I.base.there b o e hx
  exact there b o' (neC b o e hx) e1
 ·obtain ⟨m1,e1⟩:=I.base.tbls b ps e
  obtain ⟨m2,e2⟩:=tbls b _ e1
  exact ⟨m1++m2,by rw [e2,Array.append_assoc]⟩
 ·obtain ⟨m,hn,hl⟩:=I.loc
  refine ⟨m,ns m hn,fun i x v e1 e2 e3=>?_⟩
  obtain ⟨u,r,l⟩:=hl i x v e1 e2 e3
  refine ⟨u,r,?_⟩
  rcases l with l | ⟨k,c,e,z⟩
  ·exact .inl l
  ·exact .inr ⟨k,c,e,cellK x c e _ z⟩
 ·obtain ⟨v,z⟩:=I.cell x c e
  exact ⟨v,cellK x c e v z⟩
 ·obtain ⟨m,⟨o,_,_,ho,_⟩,_⟩:=I.loc
  exact free _ o (fun z=>(hch _ z).2.1 rfl) ho I.free
 ·obtain ⟨v,o,ho,hd⟩:=I.cell x c e
  exact free c o (fun z=>(hch c z).2.2.1 x c e rfl) ho (I.freeC x c e)
 ·obtain ⟨e,n,ne,nf,d⟩:=I.pin p hp
  have nch:p.1 ∉ ch:=fun z=>(hch p.1 z).2.2.2 p hp rfl
  exact ⟨keep p.1 p.2 ne nf nch e n,free p.1 p.2 nch e n,ne,nf,d⟩
theorem Inv.un {t':Nat} (I:Inv X pins σ H s) (u:Un X.fs [] H H' s.heap h') (hok:HOk X.prog X.w H' h'):Inv X pins σ H' { s with heap:=h',toks:=t' }:=by
 obtain ⟨m,⟨o,es,ep,ho,r⟩,_⟩:=id I.loc
 obtain ⟨sl,hL⟩:=u.any ho I.free (by simp)
 exact I.step (g':=s.gens) (d':=s.drawn) (ch:=[]) (fun _ z=>nomatch z) (fun b o _ hb _ e n=>u.keep b o e n hb (by simp)) (fun b o _ hb _ e n=>u.slot b o e n hb (by simp)) (fun b o _ e n=>u.free b o e n (by simp)) (fun b o _ e=>u.there b o e (by simp)) u.tups u.frzs u.tbls (fun m' hm=>by
  obtain ⟨o',es',ep',ho',r'⟩:=hm
  rw [ho] at ho'; cases ho'
  exact ⟨_,es',ep',hL,r'⟩) hok I.bare
theorem Inv.call {g':Array GenState} {t':Nat} {d':Drawn} {ch:List Addr} (I:Inv X pins σ H s) (u:Un (frs X.stack) ch H H' s.heap h') (hok:HOk X.prog X.w H' h') (hg:AllBare g')
  (hch:∀ b∈ch,(b∈X.ex\/X.s₀.heap.objs.size<=b)/\b≠X.env.locals/\(∀ x c,X.env.cells.lookup x=some c->c≠b)/\∀ p∈X.pn++pins,p.1≠b) :
  Inv X pins σ H' { s with heap:=h',gens:=g',drawn:=d',toks:=t' }:=by
 obtain ⟨m,⟨o,es,ep,ho,r⟩,_⟩:=id I.loc
 obtain ⟨sl,hL⟩:=u.any ho I.free fun z=>(hch _ z).2.1 rfl
 exact I.step (ch:=ch) hch (fun b o hL hb hc e n=>u.keep b o e n (fun z=>(List.mem_cons.mp (I.stkSub b z)).elim hL hb) hc) (fun b o _ _ hc e n=>u.any e n hc) (fun b o hc e n=>u.free b o e n hc) (fun b o hc e=>u.there b o e hc) u.tups u.frzs u.tbls (fun m' hm=>by
  obtain ⟨o',es',ep',ho',r'⟩:=hm
  rw [ho] at ho'; cases ho'
  exact ⟨_,es',ep',hL,r'⟩) hok hg
theorem Inv.turned {t':Nat} {it:Addr} (I:Inv X pins σ H s) (k:∀ b o,b≠it->s.heap.get? b=some o->h'.get? b=some o) (hn:H it=none) (hL:it≠X.env.locals)
  (h1:it∈X.ex\/X.s₀.heap.objs.size<=it) (h2:∀ x c,X.env.cells.lookup x=some c->c≠it) (h3:∀ p∈X.pn++pins,p.1≠it):Inv X pins σ H { s with heap:=h',toks:=t' }:=by
 have nit:∀ b u,H b=some u->b≠it:=fun b u e z=>by rw [z,hn] at e; cases e
 refine I.step (g':=s.gens) (d':=s.drawn) (ch:=[it]) (fun b hb=>?_) (fun b o _ _ hc e _=>k b o (fun z=>hc (by simp [z])) e) (fun b o _ _ hc e _=>⟨o.slots,k b o (fun z=>hc (by simp [z])) e⟩) (fun _ _ _ _ n=>n)
  (fun b o hc e=>⟨o,k b o (fun z=>hc (by simp [z])) e⟩) (fun _ _ e=>e) (fun _ _ _ e=>e) (fun b ps e=>⟨#[],by rw [e]; simp⟩) (fun m hm=>?_) (fun b u e=>?_) I.bare
 ·have e:b=it:=by simpa using hb
  subst e
  exact ⟨h1,hL,h2,h3⟩
 ·obtain ⟨o,es,ep,ho,r⟩:=hm
  exact ⟨o,es,ep,k _ o (Ne.symm hL) ho,r⟩
 ·refine (I.hok b u e).stay (fun c v hc q=>k c v ?_ q) (fun _ q=>q) fun _ _ q=>q
  rcases hc with z | z
  ·rw [z]; exact nit b u e
  ·exact nit c _ z
theorem Inv.tok (I:Inv X pins σ H s) (t:Nat):Inv X pins σ H { s with toks:=t }:=I.un (h':=s.heap) (t':=t) Un.refl I.hok
theorem Inv.kept {t':Nat} (I:Inv X pins σ H s) (k:∀ b u,s.heap.get? b=some u->h'.get? b=some u):Inv X pins σ H { s with heap:=h',toks:=t' }:=I.un (Un.kept k) (I.hok.kept k)
theorem Inv.laid {a:Addr} {o:HO} {t':Nat} (I:Inv X pins σ H s) (k:∀ b u,s.heap.get? b=some u->h'.get? b=some u) (hp:s.heap.objs.size<=a) (new:ObjOk X.prog X.w (upd H a o) h' a o) :
  Inv X pins σ (upd H a o) { s with heap:=h',toks:=t' }:=I.un (Un.laid k hp (I.hok.fresh hp)) (I.hok.laid k hp new)
theorem Inv.write {x e:Addr} {o:HO} {t':Nat} (I:Inv X pins σ H s) (mu:Mut (H x)) (he:e=x\/H e=some (.own x)) (k:∀ b u,b≠e->s.heap.get? b=some u->h'.get? b=some u) (heo:∃ u,h'.get? e=some u)
  (new:ObjOk X.prog X.w (upd H x o) h' x o):Inv X pins σ (upd H x o) { s with heap:=h',toks:=t' }:=I.un (Un.write mu he k heo) (I.hok.write mu he k heo new)
theorem Inv.pins_of {pins':List (Addr×Obj)} (I:Inv X pins σ H s) (h:∀ p∈pins',s.heap.get? p.1=some p.2/\H p.1=none/\p.1≠X.env.locals/\p.1 ∉ X.fs/\∀ v,p.2.data≠.cell v):Inv X pins' σ H s :=
 ⟨I.ok,I.os,I.bare,I.base,I.loc,I.cell,I.free,I.freeC,fun p hp=>(List.mem_append.mp hp).elim (fun z=>I.pin p (List.mem_append_left _ z)) (h p),I.hok,I.len⟩
theorem nodup_ix {N:List Str} (hN:N.Nodup) {i j:Nat} {x:Str} (a:N[i]?=some x) (b:N[j]?=some x):i=j:=by
 obtain ⟨h1,e1⟩:=List.getElem?_eq_some_iff.mp a
 obtain ⟨h2,e2⟩:=List.getElem?_eq_some_iff.mp b
 exact (List.getElem_inj hN).mp (e1.trans e2.symm)
theorem store_ok2 {M:Model} {A:Around} {E:Value->Shared->Prop} {i:Nat} {x:Str} {v:V} {u:Value} {Q:Unit->Shared->Prop} (I:Inv X pins σ H s) (hN:X.N.Nodup) (hi:X.N[i]?=some x) (hx:Loc X.env.scope x) (r:RelV v u)
  (h:∀ s',Inv X pins (σ.set i (some v)) H s'->(∃ a,Heap.SameBut a s.heap s'.heap/\(a=X.env.locals\/X.env.cells.lookup x=some a))->Q () s') (hf:X.fn x=true\/X.env.scope.names.lookup x=some .local:=by first | exact .inl rfl | exact .inr rfl | assumption):wpAny M A (storeName X.env x u) Q E s:=by
 obtain ⟨m,hn,hl⟩:=id I.loc
 have hcls:(X.env.scope.kind == .class || (X.env.scope.kind == .module && X.env.locals != X.env.globals))=false:=by rw [I.ok.kind]; rfl
 have hiσ:i < σ.length:=by rw [I.len]; exact (List.getElem?_eq_some_iff.mp hi).1
 have cne:=I.cne
 have tracked:∀ {a:Addr} {h':Heap},(∃ o,s.heap.get? a=some o/\H a=none)->Heap.SameBut a s.heap h'->HOk X.prog X.w H h':=fun {a h'} ha hs b ob e=>by
  obtain ⟨_,_,hfree⟩:=ha
  refine (I.hok b ob e).stay (fun c w' hc q=>(hs.2 c ?_).trans q) (fun _ q=>q) fun _ _ q=>q
  rintro rfl
  rcases hc with rfl | hc
  ·rw [hfree] at e; cases e
  ·rw [hfree] at hc; cases hc
 rcases hx with hk | hk
 ·refine wpAny_storeName_local hk hn (fun h' hn' hs=>?_) hcls
  obtain ⟨oL,_,_,hoL,_⟩:=id hn
  refine h _ ⟨I.ok,I.os,I.bare,⟨fun b o e n hb hx=>?_,fun b o e n hb hx=>?_,I.base.free,fun b o e hx=>?_,I.base.tups,I.base.frzs,I.base.tbls⟩,⟨_,hn',fun j y v' e1 e2 e3=>?_⟩,fun y c e=>?_,I.free,I.freeC,fun p hp=>?_,tracked ⟨oL,hoL,I.free⟩ hs,by simpa using I.len⟩ ⟨_,hs,.inl rfl⟩
  ·exact (hs.2 b (Nat.ne_of_lt (Nat.lt_of_lt_of_le (Heap.lt_size e) I.ok.above))).trans (I.base.keep b o e n hb hx)
  ·obtain ⟨sl,e1⟩:=I.base.slot b o e n hb hx
   exact ⟨sl,(hs.2 b (Nat.ne_of_lt (Nat.lt_of_lt_of_le (Heap.lt_size e) I.ok.above))).trans e1⟩
  ·obtain ⟨o',e1⟩:=I.base.there b o e hx
   exact ⟨o',(hs.2 b (Nat.ne_of_lt (Nat.lt_of_lt_of_le (Heap.lt_size e) I.ok.above))).trans e1⟩
  ·by_cases hj:j=i
   ·subst hj
    rw [hi] at e1; cases e1
    rw [List.getElem?_set_self hiσ] at e2
    cases e2
    exact ⟨u,r,.inl ⟨hk,by simp⟩⟩
   ·rw [List.getElem?_set_ne (Ne.symm hj)] at e2
    obtain ⟨u',r',q⟩:=hl j y v' e1 e2 e3
    refine ⟨u',r',?_⟩
    rcases q with ⟨k,e⟩ | ⟨k,c,e,z⟩
    ·refine .inl ⟨k,?_⟩
     have:y≠x:=fun e=>hj (nodup_ix hN e1 (e ▸ hi))
     simp [this,e]
    ·exact .inr ⟨k,c,e,z.sameBut hs (cne y c e)⟩
  ·obtain ⟨w',z⟩:=I.cell y c e
   exact ⟨w',z.sameBut hs (cne y c e)⟩
  ·obtain ⟨e,n,ne,nf,d⟩:=I.pin p hp
   exact ⟨(hs.2 p.1 ne).trans e,n,ne,nf,d⟩
 ·have hfn:X.fn x=true:=by
   rcases hf with z | z
   ·exact z
   ·rw [z] at hk; cases hk
  obtain ⟨c,hc⟩:=I.ok.has x (.inl hk)
  obtain ⟨w',z⟩:=I.cell x c hc
  refine wpAny_storeName_cell I.ok.kind hk hc z (fun h' hc' hs=>?_)
  obtain ⟨oc,hoc,hocd⟩:=id z
  refine h { s with heap:=h' } ⟨I.ok,I.os,I.bare,⟨fun b o e n hb hx=>?_,fun b o e n hb hx=>?_,I.base.free,fun b o e hx=>?_,I.base.tups,I.base.frzs,I.base.tbls⟩,⟨m,hn.sameBut hs (Ne.symm (cne x c hc)),fun j y v' e1 e2 e3=>?_⟩,fun y c' e=>?_,I.free,I.freeC,fun p hp=>?_,tracked ⟨oc,hoc,I.freeC x c hc⟩ hs,by simpa using I.len⟩ ⟨c,hs,.inr hc⟩
  ·exact (hs.2 b (Nat.ne_of_lt (Nat.lt_of_lt_of_le (Heap.lt_size e) (I.ok.cab x c hfn hc)))).trans (I.base.keep b o e n hb hx)
  ·obtain ⟨sl,e1⟩:=I.base.slot b o e n hb hx
   exact ⟨sl,(hs.2 b (Nat.ne_of_lt (Nat.lt_of_lt_of_le (Heap.lt_size e) (I.ok.cab x c hfn hc)))).trans e1⟩
  ·obtain ⟨o',e1⟩:=I.base.there b o e hx
   exact ⟨o',(hs.2 b (Nat.ne_of_lt (Nat.lt_of_lt_of_le (Heap.lt_size e) (I.ok.cab x c hfn hc)))).trans e1⟩
  ·by_cases hj:j=i
   ·subst hj
    rw [hi] at e1; cases e1
    rw [List.getElem?_set_self hiσ] at e2
    cases e2
    exact ⟨u,r,.inr ⟨.inl hk,c,hc,hc'⟩⟩
   ·rw [List.getElem?_set_ne (Ne.symm hj)] at e2
    obtain ⟨u',r',q⟩:=hl j y v' e1 e2 e3
    refine ⟨u',r',?_⟩
    rcases q with q | ⟨k,c',e,z'⟩
    ·exact .inl q
    ·refine .inr ⟨k,c',e,z'.sameBut hs ?_⟩
     rintro rfl
     exact hj (nodup_ix hN e1 (I.ok.inj _ _ _ e hc ▸ hi))
  ·by_cases hcc:c'=c
   ·subst hcc; exact ⟨_,hc'⟩
   ·obtain ⟨w2,z2⟩:=I.cell y c' e
    exact ⟨w2,z2.sameBut hs hcc⟩
  ·obtain ⟨e,n,ne,nf,d⟩:=I.pin p hp
   refine ⟨(hs.2 p.1 ?_).trans e,n,ne,nf,d⟩
   intro q
   rw [q,hoc] at e
   have q':oc=p.2:=Option.some.inj e
   exact d w' (by rw [<- q']; exact hocd)
theorem store_ok {M:Model} {A:Around} {E:Value->Shared->Prop} {i:Nat} {x:Str} {v:V} {u:Value} {Q:Unit->Shared->Prop} (I:Inv X pins σ H s) (hN:X.N.Nodup) (hi:X.N[i]?=some x) (hx:Loc X.env.scope x) (r:RelV v u)
  (h:∀ s',Inv X pins (σ.set i (some v)) H s'->Q () s') (hf:X.fn x=true\/X.env.scope.names.lookup x=some .local:=by first | exact .inl rfl | exact .inr rfl | assumption):wpAny M A (storeName X.env x u) Q E s :=
 store_ok2 I hN hi hx r (fun s' I' _=>h s' I') hf
theorem Inv.call' {s':Shared} {ch:List Addr} (I:Inv X pins σ H s) (ho:s'.os=s.os) (u:Un (frs X.stack) ch H H' s.heap s'.heap) (hok:HOk X.prog X.w H' s'.heap) (hg:AllBare s'.gens)
  (hch:∀ b∈ch,(b∈X.ex\/X.s₀.heap.objs.size<=b)/\b≠X.env.locals/\(∀ x c,X.env.cells.lookup x=some c->c≠b)/\∀ p∈X.pn++pins,p.1≠b):Inv X pins σ H' s':=by
 obtain ⟨h',g',d',t',o'⟩:=s'
 have e:o'=s.os:=ho
 subst e
 exact I.call (g':=g') (t':=t') (d':=d') u hok hg hch
end
noncomputable abbrev XK:=Value->Option Addr->Hp->Prop
noncomputable abbrev St:=List (Option V)
noncomputable abbrev VK:=V->Hp->Prop
noncomputable abbrev TE:=St->Hp->VK->Prop
noncomputable abbrev TT:=St->Hp->(Bool->Hp->Prop)->Prop
noncomputable abbrev TA:=St->Hp->(List V->Hp->Prop)->Prop
structure Ends where
 nx:St->Hp->Prop
 rt:VK
 bk:St->Hp->Prop:=fun _ _=>False
 ct:St->Hp->Prop:=fun _ _=>False
noncomputable abbrev TS:=Ends->St->Hp->Prop
noncomputable def EP (X:Cx) (pins:List (Addr×Obj)) (σ:St) (Q:VK) (u:Value) (s':Shared):Prop:=∃ v H',Inv X pins σ H' s'/\RelV v u/\Q v H'
noncomputable def TP (X:Cx) (pins:List (Addr×Obj)) (σ:St) (Q:Bool->Hp->Prop) (b:Bool) (s':Shared):Prop:=∃ H',Inv X pins σ H' s'/\Q b H'
noncomputable def AP (X:Cx) (pins:List (Addr×Obj)) (σ:St) (Q:List V->Hp->Prop) (us:List Value) (s':Shared):Prop:=∃ vs H',Inv X pins σ H' s'/\Vals vs us/\Q vs H'
noncomputable def SP (X:Cx) (pins:List (Addr×Obj)) (D:Ends) (f:Flow) (s':Shared):Prop :=
 match f with
 | .next=>∃ σ' H',Inv X pins σ' H' s'/\D.nx σ' H'
 | .brk=>∃ σ' H',Inv X pins σ' H' s'/\D.bk σ' H'
 | .cont=>∃ σ' H',Inv X pins σ' H' s'/\D.ct σ' H'
 | .ret u=>∃ v σ' H',Inv X pins σ' H' s'/\RelV v u/\D.rt v H'
noncomputable def PE (X:Cx) (e:Expr) (t:TE):Prop :=
 ∀ (pins:List (Addr×Obj)) (s:Shared) (σ:St) (H:Hp) (Q:VK),Inv X pins σ H s->t σ H Q->wpAny (model X.prog X.w) X.A (eval e X.env) (EP X pins σ Q) X.xe s
noncomputable def PT (X:Cx) (e:Expr) (t:TT):Prop :=
 ∀ (pins:List (Addr×Obj)) (s:Shared) (σ:St) (H:Hp) (Q:Bool->Hp->Prop),Inv X pins σ H s->t σ H Q->wpAny (model X.prog X.w) X.A (isTrue e X.env (eval e X.env)) (TP X pins σ Q) X.xe s
noncomputable def PW (X:Cx) (e:Expr) (t:TT):Prop :=
 ∀ (whole:Sem Value) (pins:List (Addr×Obj)) (s:Shared) (σ:St) (H:Hp) (Q:Bool->Hp->Prop),Inv X pins σ H s->t σ H Q->wpAny (model X.prog X.w) X.A (isTrue e X.env whole) (TP X pins σ Q) X.xe s
theorem PW.pt {X:Cx} {e:Expr} {t:TT} (h:PW X e t):PT X e t:=h _
noncomputable def PA (X:Cx) (es:List Expr) (t:TA):Prop :=
 ∀ (pos:Pos) (pins:List (Addr×Obj)) (s:Shared) (σ:St) (H:Hp) (Q:List V->Hp->Prop),Inv X pins σ H s->t σ H Q->wpAny (model X.prog X.w) X.A (spliced (backTo pos (starEach es X.env))) (AP X pins σ Q) X.xe s
noncomputable def PS (X:Cx) (st:Stmt) (t:TS):Prop :=
 ∀ (pins:List (Addr×Obj)) (s:Shared) (σ:St) (H:Hp) (D:Ends),Inv X pins σ H s->t D σ H->wpAny (model X.prog X.w) X.A (exec st X.env) (SP X pins D) X.xe s
noncomputable def PSs (X:Cx) (st:List Stmt) (t:TS):Prop :=
 ∀ (pins:List (Addr×Obj)) (s:Shared) (σ:St) (H:Hp) (D:Ends),Inv X pins σ H s->t D σ H->wpAny (model X.prog X.w) X.A (execs st X.env) (SP X pins D) X.xe s
theorem thn {α:Type} {t:Sem α} {Q Q':α->Shared->Prop} {M:Model} {A:Around} {E:Value->Shared->Prop} {s:Shared} (h:wpAny M A t Q E s) (hQ:∀ a s,Q a s->Q' a s):wpAny M A t Q' E s:=wpAny_mono h hQ fun _ _ x=>x
end L2
namespace L2
open PySem PySem.Spec PyProof.Rows
section
variable {X:Cx}
theorem bin {a b:Expr} {ta tb:TE} (ha:PE X a ta) (hb:PE X b tb) {pins:List (Addr×Obj)} {s:Shared} {σ:St} {H:Hp} {R:V->V->Hp->Prop} (I:Inv X pins σ H s) (h:ta σ H fun x H1=>tb σ H1 fun y H2=>R x y H2)
  {α:Type} {Q:α->Shared->Prop} {f:Value->Value->Sem α}
  (hf:∀ v u s2 x y H2,Inv X pins σ H2 s2->RelV x v->RelV y u->R x y H2->wpAny (model X.prog X.w) X.A (f v u) Q X.xe s2) :
  wpAny (model X.prog X.w) X.A (eval a X.env) (fun v s₁=>wpAny (model X.prog X.w) X.A (eval b X.env) (fun u s₂=>wpAny (model X.prog X.w) X.A (f v u) Q X.xe s₂) X.xe s₁) X.xe s:=by
 refine thn (ha pins s σ H _ I h) fun v s1 hq2=>?_
 obtain ⟨x,H1,I1,r1,q1⟩:=hq2
 refine thn (hb pins s1 σ H1 _ I1 q1) fun u s2 hq2=>?_
 obtain ⟨y,H2,I2,r2,q2⟩:=hq2
 exact hf v u s2 x y H2 I2 r1 r2 q2
noncomputable def tVar (i:Nat):TE:=fun σ H Q=>∃ v,σ[i]?=some (some v)/\Q v H
noncomputable def tC (v:V):TE:=fun _ H Q=>Q v H
theorem pe_var {i:Nat} {x:Str} {pos:Pos} (hN:X.N[i]?=some x) (hv:Vis X.env.scope x) (hd:(x == ("__debug__":Str))=false:=by decide) (hcd:(x == ("__classdict__":Str))=false:=by decide):PE X (.Name x pos) (tVar i):=by
 intro pins s σ H Q I h
 obtain ⟨v,e,h⟩:=h
 obtain ⟨m,hn,hl⟩:=I.loc
 obtain ⟨u,r,l⟩:=hl i x v hN e hv
 have fin:EP X pins σ Q u s:=⟨v,H,I,r,h⟩
 rcases l with ⟨hk,hm⟩ | ⟨hk,c,hc,hcell⟩
 ·exact wpAny_Name (wpAny_loadName_local I.ok.kind hk hn hm fin) hd
 ·rcases hk with hk | hk
  ·exact wpAny_Name (wpAny_loadName_cell I.ok.kind hk hc hcell fin) hd
  ·exact wpAny_Name (wpAny_loadName_free I.ok.kind hk hc hcell fin hcd) hd
theorem pe_int {i j pos}:PE X (.Constant (.int i) j pos) (tC (.int i)):=fun _ _ _ H _ I h=>wpAny_Constant_int ⟨.int i,H,I.tok _,⟨_,rfl⟩,h⟩
theorem pe_bl {b j pos}:PE X (.Constant (.bool b) j pos) (tC (.bl b)):=fun _ _ _ H _ I h=>Constant_bool ⟨.bl b,H,I,rfl,h⟩
theorem pe_non {j pos}:PE X (.Constant .none j pos) (tC .non):=fun _ _ _ H _ I h=>Constant_none ⟨.non,H,I,rfl,h⟩
theorem pe_str {x j pos}:PE X (.Constant (.str x) j pos) (tC (.str x)):=fun _ _ _ H _ I h=>Calls.Constant_str ⟨.str x,H,I.tok _,⟨_,rfl⟩,h⟩
noncomputable def Gl (X:Cx) (x:Str):Prop:=X.env.kindOf x=some .globalImplicit
theorem ld_glob {E:Value->Shared->Prop} {pins:List (Addr×Obj)} {s:Shared} {σ:St} {H:Hp} {x:Str} {u:Value} {pos:Pos} {Q:Value->Shared->Prop} (I:Inv X pins σ H s) (hg:Gl X x) (hm:X.mg x=some u) (h:Q u s)
  (hd:(x == ("__debug__":Str))=false:=by decide):wpAny (model X.prog X.w) X.A (eval (.Name x pos) X.env) Q E s :=
 Calls.Name_function_global I.ok.kind hg (Calls.loadGlobal_global (by rw [I.ok.glob]; exact I.mod.glob.keeps I.bk) hm h) hd
theorem ld_blt {E:Value->Shared->Prop} {pins:List (Addr×Obj)} {s:Shared} {σ:St} {H:Hp} {x:Str} {u:Value} {pos:Pos} {Q:Value->Shared->Prop} (I:Inv X pins σ H s) (hg:Gl X x) (hm:X.mg x=none) (hv:bootBuiltins x=some u) (h:Q u s)
  (hn:x≠"__name__":=by decide) (hd:(x == ("__debug__":Str))=false:=by decide):wpAny (model X.prog X.w) X.A (eval (.Name x pos) X.env) Q E s:=by
 obtain ⟨mb,h1,h2⟩:=I.mod.blt
 exact Calls.Name_function_global I.ok.kind hg (Calls.loadGlobal_builtin (by rw [I.ok.glob]; exact I.mod.glob.keeps I.bk) hm (by rw [I.ok.blt]; exact h1.keeps I.bk) ((h2 x hn).trans hv) h) hd
theorem pe_glob {x:Str} {v:V} {u:Value} {pos:Pos} (hg:Gl X x) (hm:X.mg x=some u) (r:RelV v u) (hd:(x == ("__debug__":Str))=false:=by decide):PE X (.Name x pos) (tC v) :=
 fun _ _ _ H _ I h=>ld_glob I hg hm ⟨v,H,I,r,h⟩ hd
theorem pe_bltn {x:Str} {v:V} {u:Value} {pos:Pos} (hg:Gl X x) (hm:X.mg x=none) (hv:bootBuiltins x=some u) (r:RelV v u) (hn:x≠"__name__":=by decide) (hd:(x == ("__debug__":Str))=false:=by decide):PE X (.Name x pos) (tC v) :=
 fun _ _ _ H _ I h=>ld_blt I hg hm hv ⟨v,H,I,r,h⟩ hn hd
variable {a b:Expr} {ta tb:TE} {pos:Pos}
noncomputable def tB (t:TE):TT:=fun σ H Q=>t σ H fun x H1=>∃ c,x=.bl c/\Q c H1
variable {tA tB':TT} {rest:List Expr}
noncomputable def tAnd (t u:TT):TT:=fun σ H Q=>t σ H fun c H1=>if c=true then u σ H1 Q else Q false H1
noncomputable def tOr (t u:TT):TT:=fun σ H Q=>t σ H fun c H1=>if c=true then Q true H1 else u σ H1 Q
noncomputable def tNot (t:TT):TT:=fun σ H Q=>t σ H fun c H1=>Q (!c) H1
theorem pw_and1 (ha:PT X a tA):PW X (.BoolOp .And [a] pos) tA:=by
 intro wh pins s σ H Q I h
 refine isTrue_and (thn (ha pins s σ H Q I h) fun c s1 e=>?_)
 cases c with
 | true=>exact isTrue_and_nil e
 | false=>exact e
theorem pw_or1 (ha:PT X a tA):PW X (.BoolOp .Or [a] pos) tA:=by
 intro wh pins s σ H Q I h
 refine isTrue_or (thn (ha pins s σ H Q I h) fun c s1 e=>?_)
 cases c with
 | false=>exact isTrue_or_nil e
 | true=>exact e
theorem pw_and (ha:PT X a tA) (hb:PW X (.BoolOp .And (b :: rest) pos) tB'):PW X (.BoolOp .And (a :: b :: rest) pos) (tAnd tA tB'):=by
 intro wh pins s σ H Q I h
 refine isTrue_and (thn (ha pins s σ H _ I h) fun c s1 hq2=>?_)
 obtain ⟨H1,I1,q1⟩:=hq2
 cases c with
 | true=>exact hb wh pins s1 σ H1 Q I1 q1
 | false=>exact ⟨H1,I1,q1⟩
theorem pw_or (ha:PT X a tA) (hb:PW X (.BoolOp .Or (b :: rest) pos) tB'):PW X (.BoolOp .Or (a :: b :: rest) pos) (tOr tA tB'):=by
 intro wh pins s σ H Q I h
 refine isTrue_or (thn (ha pins s σ H _ I h) fun c s1 hq2=>?_)
 obtain ⟨H1,I1,q1⟩:=hq2
 cases c with
 | true=>exact ⟨H1,I1,q1⟩
 | false=>exact hb wh pins s1 σ H1 Q I1 q1
theorem pt_not (ha:PT X a tA):PT X (.UnaryOp .Not a pos) (tNot tA):=by
 intro pins s σ H Q I h
 exact isTrue_not (ha pins s σ H (fun c H1=>Q (!c) H1) I h)
noncomputable def tAndV (ta tb:TE):TE:=fun σ H Q=>ta σ H fun x H1=>∃ c,x=.bl c/\if c=true then tb σ H1 Q else Q (.bl false) H1
noncomputable def tOrV (ta tb:TE):TE:=fun σ H Q=>ta σ H fun x H1=>∃ c,x=.bl c/\if c=true then Q (.bl true) H1 else tb σ H1 Q
noncomputable def tNotV (ta:TE):TE:=fun σ H Q=>ta σ H fun x H1=>∃ c,x=.bl c/\Q (.bl (!c)) H1
theorem pe_one {op} {t:TE} (h:PE X a t):PE X (.BoolOp op [a] pos) t:=fun pins s σ H Q I hw=>BoolOp_one (h pins s σ H Q I hw)
theorem pe_and (ha:PE X a ta) (hb:PE X (.BoolOp .And (b :: rest) pos) tb):PE X (.BoolOp .And (a :: b :: rest) pos) (tAndV ta tb):=by
 intro pins s σ H Q I h
 refine BoolOp_and (thn (ha pins s σ H _ I h) fun v s1 hq2=>?_)
 obtain ⟨x,H1,I1,r1,q1⟩:=hq2
 obtain ⟨c,rfl,q1⟩:=q1
 cases r1
 refine wpAny_truthy_bool ?_
 cases c with
 | true=>exact hb pins s1 σ H1 Q I1 q1
 | false=>exact ⟨.bl false,H1,I1,rfl,q1⟩
theorem pe_or (ha:PE X a ta) (hb:PE X (.BoolOp .Or (b :: rest) pos) tb):PE X (.BoolOp .Or (a :: b :: rest) pos) (tOrV ta tb):=by
 intro pins s σ H Q I h
 refine BoolOp_or (thn (ha pins s σ H _ I h) fun v s1 hq2=>?_)
 obtain ⟨x,H1,I1,r1,q1⟩:=hq2
 obtain ⟨c,rfl,q1⟩:=q1
 cases r1
 refine wpAny_truthy_bool ?_
 cases c with
 | false=>exact hb pins s1 σ H1 Q I1 q1
 | true=>exact ⟨.bl true,H1,I1,rfl,q1⟩
theorem pe_not (ha:PE X a ta):PE X (.UnaryOp .Not a pos) (tNotV ta):=by
 intro pins s σ H Q I h
 refine UnaryOp_ (thn (ha pins s σ H _ I h) fun v s1 hq2=>?_)
 obtain ⟨x,H1,I1,r1,q1⟩:=hq2
 obtain ⟨c,rfl,q1⟩:=q1
 cases r1
 exact not_of (wpAny_truthy_bool ⟨.bl (!c),H1,I1,rfl,q1⟩)
noncomputable def tIf (t:TT) (ta tb:TE):TE:=fun σ H Q=>t σ H fun c H1=>if c=true then ta σ H1 Q else tb σ H1 Q
theorem pe_ifExp {c:Expr} (hc:PT X c tA) (ha:PE X a ta) (hb:PE X b tb):PE X (.IfExp c a b pos) (tIf tA ta tb):=by
 intro pins s σ H Q I h
 refine wpAny_IfExp (thn (hc pins s σ H _ I h) fun d s1 hq2=>?_)
 obtain ⟨H1,I1,q1⟩:=hq2
 cases d with
 | true=>exact ha pins s1 σ H1 Q I1 q1
 | false=>exact hb pins s1 σ H1 Q I1 q1
end
end L2
namespace L2
open PySem PySem.Spec PyProof.Rows
noncomputable def SqL (K:PySem.W.Frag) (H:Hp) (a:Addr) (xs:List V):Prop :=
 Rd H a (.lst xs) \/
  ∃ (o:Obj) (its:Array Value) (n:Nat),K.lookup a=some o/\o.cls=.type "list"/\o.dict=none/\o.data=.seq its n/\its.size<=sizeLine/\Vals xs its.toList
noncomputable def SqT (K:PySem.W.Frag) (H:Hp) (a:Addr) (xs:List V):Prop :=
 Rd H a (.tup xs) \/
  ∃ (o:Obj) (its:Array Value) (n:Nat),K.lookup a=some o/\o.cls=.type "tuple"/\o.data=.seq its n/\its.size<=sizeLine/\Vals xs its.toList
noncomputable def absV:Value->Option V
 | .none=>some .non
 | .bool b=>some (.bl b)
 | .int i _=>some (.int i)
 | .str x _=>some (.str x)
 | .bytes b _=>some (.byt b)
 | .float b _=>some (.flt b)
 | .ref a=>some (.ref a)
 | .type n=>some (.ty n)
 | _=>none
theorem RelV.abs {x:V} {u:Value} (r:RelV x u):absV u=some x:=by
 cases x with
 | non=>cases r; rfl
 | bl _=>cases r; rfl
 | int _=>obtain ⟨t,rfl⟩:=r; rfl
 | str _=>obtain ⟨t,rfl⟩:=r; rfl
 | byt _=>obtain ⟨t,rfl⟩:=r; rfl
 | flt _=>obtain ⟨t,rfl⟩:=r; rfl
 | ref _=>cases r; rfl
 | ty _=>cases r; rfl
theorem RelV.inj {x y:V} {u:Value} (r:RelV x u) (q:RelV y u):x=y:=Option.some.inj (r.abs.symm.trans q.abs)
theorem Vals.inj:∀ {xs ys:List V} {us:List Value},Vals xs us->Vals ys us->xs=ys
 | _,_,_,.nil,.nil=>rfl
 | _,_,_,.cons r t,.cons r' t'=>by rw [r.inj r',Vals.inj t t']
section
variable {X:Cx} {pins:List (Addr×Obj)} {σ:St} {H:Hp} {s:Shared} {a:Addr} {xs ys:List V}
theorem SqL.of {K:PySem.W.Frag} (h:H a=some (.lst xs)):SqL K H a xs:=.inl (.inl h)
theorem SqT.of {K:PySem.W.Frag} (h:H a=some (.tup xs)):SqT K H a xs:=.inl (.inl h)
theorem Inv.list (I:Inv X pins σ H s) (h:SqL X.K H a xs):∃ its:List Value,Vals xs its/\PlainL s.heap a its.toArray/\xs.length<=sizeLine:=by
 rcases h with h | ⟨o,its,n,hk,hc,hd,hs,hz,r⟩
 ·obtain ⟨z,its,n,r,e⟩:=h.ok I.hok
  exact ⟨its,r,⟨_,n,e,rfl,rfl,rfl⟩,z⟩
 ·refine ⟨its.toList,r,⟨o,n,I.kIn a o hk,hc,hd,by simpa using hs⟩,?_⟩
  have e:=r.length
  simp only [Array.length_toList] at e
  omega
theorem Inv.tuple (I:Inv X pins σ H s) (h:SqT X.K H a xs):∃ its:List Value,Vals xs its/\IsTup s.heap a its.toArray/\xs.length<=sizeLine:=by
 rcases h with h | ⟨o,its,n,hk,hc,hs,hz,r⟩
 ·obtain ⟨z,its,r,p⟩:=h.ok I.hok
  exact ⟨its,r,p,z⟩
 ·refine ⟨its.toList,r,⟨o,I.kIn a o hk,hc,n,by simpa using hs⟩,?_⟩
  have e:=r.length
  simp only [Array.length_toList] at e
  omega
theorem Inv.list_inj (I:Inv X pins σ H s) (h:SqL X.K H a xs) (h':SqL X.K H a ys):xs=ys:=by
 obtain ⟨its,r,⟨o,n,e,_,_,d⟩,_⟩:=I.list h
 obtain ⟨its',r',⟨o',n',e',_,_,d'⟩,_⟩:=I.list h'
 rw [e] at e'; cases e'
 rw [d] at d'
 injection d' with d1 _
 have:its=its':=by simpa using congrArg Array.toList d1
 subst this
 exact r.inj r'
theorem Inv.tuple_inj (I:Inv X pins σ H s) (h:SqT X.K H a xs) (h':SqT X.K H a ys):xs=ys:=by
 obtain ⟨its,r,⟨o,e,_,n,d⟩,_⟩:=I.tuple h
 obtain ⟨its',r',⟨o',e',_,n',d'⟩,_⟩:=I.tuple h'
 rw [e] at e'; cases e'
 rw [d] at d'
 injection d' with d1 _
 have:its=its':=by simpa using congrArg Array.toList d1
 subst this
 exact r.inj r'
end
section
variable {X:Cx} {pins:List (Addr×Obj)} {σ:St} {H:Hp} {s:Shared} {E:Value->Shared->Prop}
end
section
variable {X:Cx} {st:Stmt} {rest:List Stmt} {t u:TS} {e:Expr} {te:TE} {pos:Pos}
noncomputable def tNext:TS:=fun D σ H=>D.nx σ H
noncomputable def tSeq (t u:TS):TS:=fun D σ H=>t { D with nx:=u D } σ H
theorem pss_nil:PSs X [] tNext:=fun _ _ σ H _ I h=>wpAny_execs_nil ⟨σ,H,I,h⟩
theorem pss_cons (h1:PS X st t) (h2:PSs X rest u):PSs X (st :: rest) (tSeq t u):=by
 intro pins s σ H D I h
 refine wpAny_execs_cons (thn (h1 pins s σ H { D with nx:=u D } I h) fun f s1 q=>?_)
 cases f with
 | next =>
  obtain ⟨σ',H',I',q⟩:=q
  exact h2 pins s1 σ' H' D I' q
 | ret v=>exact q
 | brk=>exact q
 | cont=>exact q
theorem Inv.quiet {pins:List (Addr×Obj)} {σ:St} {H:Hp} {s:Shared} (I:Inv X pins σ H s):interactive X.env=false:=by simp [interactive,I.ok.kind]
noncomputable def tDrop (te:TE):TS:=fun D σ H=>te σ H fun _ H1=>D.nx σ H1
theorem ps_expr (he:PE X e te) (hs:swapsWith e none pos.line X.env=pure false:=by rfl):PS X (.Expr e pos) (tDrop te):=by
 intro pins s σ H D I h
 exact wpAny_Expr_any (thn (he pins s σ H _ I h) (by rintro v s1 ⟨x,H1,I1,r1,q1⟩; exact ⟨σ,H1,I1,q1⟩)) I.quiet hs
noncomputable def tRet (te:TE):TS:=fun D σ H=>te σ H D.rt
theorem ps_ret (he:PE X e te):PS X (.Return (some e) pos) (tRet te):=by
 intro pins s σ H D I h
 exact wpAny_Return_some (thn (he pins s σ H _ I h) (by rintro v s1 ⟨x,H1,I1,r1,q1⟩; exact ⟨x,σ,H1,I1,r1,q1⟩))
noncomputable def tIfS (c:TT) (t u:TS):TS:=fun D σ H=>c σ H fun b H1=>if b=true then t D σ H1 else u D σ H1
theorem ps_if {c:Expr} {a b:List Stmt} {tc:TT} (hc:PT X c tc) (ha:PSs X a t) (hb:PSs X b u):PS X (.If c a b pos) (tIfS tc t u):=by
 intro pins s σ H D I h
 refine wpAny_If (thn (hc pins s σ H _ I h) fun d s1 hq2=>?_)
 obtain ⟨H1,I1,q1⟩:=hq2
 cases d with
 | true=>exact ha pins s1 σ H1 D I1 q1
 | false=>exact hb pins s1 σ H1 D I1 q1
end
noncomputable abbrev TG:=V->St->Hp->(St->Hp->Prop)->Prop
noncomputable abbrev TGs:=List V->St->Hp->(St->Hp->Prop)->Prop
noncomputable def PG (X:Cx) (target:Expr) (t:TG):Prop :=
 ∀ (pins:List (Addr×Obj)) (s:Shared) (σ:St) (H:Hp) (v:V) (u:Value) (Q:St->Hp->Prop),Inv X pins σ H s->RelV v u->t v σ H Q ->
  wpAny (model X.prog X.w) X.A (assign target X.env u) (fun _ s'=>∃ σ' H',Inv X pins σ' H' s'/\Q σ' H') X.xe s
noncomputable def PGs (X:Cx) (ts:List Expr) (t:TGs):Prop :=
 ∀ (pins:List (Addr×Obj)) (s:Shared) (σ:St) (H:Hp) (vs:List V) (us:List Value) (Q:St->Hp->Prop),Inv X pins σ H s->Vals vs us->t vs σ H Q ->
  wpAny (model X.prog X.w) X.A (assignInOrder ((assignEach ts X.env).map (·.2)) us) (fun _ s'=>∃ σ' H',Inv X pins σ' H' s'/\Q σ' H') X.xe s
noncomputable abbrev TSet:=V->V->V->Hp->(Hp->Prop)->Prop
noncomputable def PSet (X:Cx) (t:TSet):Prop :=
 ∀ (pins:List (Addr×Obj)) (s:Shared) (σ:St) (H:Hp) (o i v:V) (ov iv u:Value) (Q:Hp->Prop),Inv X pins σ H s->RelV o ov->RelV i iv->RelV v u->t o i v H Q ->
  wpAny (model X.prog X.w) X.A (setItem ov iv u) (fun _ s'=>∃ H',Inv X pins σ H' s'/\Q H') X.xe s
section
variable {X:Cx} {pos:Pos}
noncomputable def gName (i:Nat):TG:=fun v σ H Q=>Q (σ.set i (some v)) H
theorem pg_name {i:Nat} {x:Str} (hN:X.N.Nodup) (hi:X.N[i]?=some x) (hx:Loc X.env.scope x) (hf:X.fn x=true\/X.env.scope.names.lookup x=some .local:=by first | exact .inl rfl | exact .inr rfl | assumption):PG X (.Name x pos) (gName i):=by
 intro pins s σ H v u Q I r h
 exact wpAny_assign_Name (store_ok I hN hi hx r (fun s' I'=>⟨_,H,I',h⟩) hf)
noncomputable def gNil:TGs:=fun vs σ H Q=>vs=[]/\Q σ H
noncomputable def gCons (t:TG) (u:TGs):TGs:=fun vs σ H Q=>∃ v r,vs=v :: r/\t v σ H fun σ' H'=>u r σ' H' Q
theorem pgs_nil:PGs X [] gNil:=by
 intro pins s σ H vs us Q I r h
 obtain ⟨e,h⟩:=h
 subst e
 cases r
 exact assignInOrder_nil ⟨σ,H,I,h⟩
theorem pgs_cons {e:Expr} {es:List Expr} {t:TG} {u:TGs} (h1:PG X e t) (h2:PGs X es u)
  (hs:(assignEach (e :: es) X.env).map (·.2)=assign e X.env :: (assignEach es X.env).map (·.2):=by rfl):PGs X (e :: es) (gCons t u):=by
 intro pins s σ H vs us Q I r h
 obtain ⟨v,vr,e1,h⟩:=h
 subst e1
 cases r with
 | cons r rr =>
  rw [hs]
  refine assignInOrder_cons (thn (h1 pins s σ H _ _ _ I r h) fun _ s1 hq2=>?_)
  obtain ⟨σ1,H1,I1,q1⟩:=hq2
  exact h2 pins s1 σ1 H1 _ _ Q I1 rr q1
noncomputable def gTup (K:PySem.W.Frag) (n:Nat) (t:TGs):TG:=fun v σ H Q=>∃ a xs,v=.ref a/\SqT K H a xs/\xs.length=n/\t xs σ H Q
theorem pg_tup {es:List Expr} {k:Nat} {t:TGs} {n:Nat} (hc:X.calm=true) (h:PGs X es t)
  (hn:(assignEach es X.env).length=n:=by rfl) (hst:(assignEach es X.env).findIdx? (·.1)=none:=by rfl):PG X (.Tuple es k pos) (gTup X.K n t):=by
 intro pins s σ H v u Q I r hw
 obtain ⟨a,xs,e1,hq,hl,hw⟩:=hw
 subst e1
 cases r
 obtain ⟨its,rv,ht,hz⟩:=I.tuple hq
 refine assign_Tuple_tuple (I.ok.hd hc) ht (by simp [hn,<- hl,rv.length]) hst fun h' hx=>?_
 have I1:Inv X pins σ H { s with heap:=h' }:=I.kept (t':=s.toks) fun b o e=>hx b o (Nat.ne_of_lt (Heap.lt_size e)) e
 exact h pins _ σ H xs _ Q I1 (by simpa using rv) hw
noncomputable def gSub (to ti:TE) (t:TSet):TG:=fun v σ H Q=>to σ H fun o H1=>ti σ H1 fun i H2=>t o i v H2 fun H3=>Q σ H3
theorem pg_sub {o i:Expr} {to ti:TE} {t:TSet} (ho:PE X o to) (hi:PE X i ti) (hs:PSet X t)
  (ha:∀ v,assign (.Subscript o i pos) X.env v=(do
   let ov <- holding [v] (eval o X.env)
   let iv <- holding [v,ov] (eval i X.env)
   standAt pos
   holding [v,ov,iv] (setItem ov iv v)
   release [v,ov,iv] []):=by intro _; rfl):PG X (.Subscript o i pos) (gSub to ti t):=by
 intro pins s σ H v u Q I r h
 rw [ha]
 refine wpAny_bind (wpAny_holding (thn (ho pins s σ H _ I h) fun ov s1 hq2=>?_))
 obtain ⟨x,H1,I1,r1,q1⟩:=hq2
 refine wpAny_bind (wpAny_holding (thn (hi pins s1 σ H1 _ I1 q1) fun iv s2 hq2=>?_))
 obtain ⟨y,H2,I2,r2,q2⟩:=hq2
 refine wpAny_bind (wpAny_standAt (wpAny_bind (wpAny_holding (thn (hs pins s2 σ H2 x y v ov iv u _ I2 r1 r2 r q2) fun _ s3 hq2=>?_))))
 obtain ⟨H3,I3,q3⟩:=hq2
 exact wpAny_release ⟨σ,H3,I3,q3⟩
noncomputable def tAsg (te:TE) (g:TG):TS:=fun D σ H=>te σ H fun x H1=>g x σ H1 D.nx
theorem ps_asg {tg e:Expr} {te:TE} {g:TG} (he:PE X e te) (hg:PG X tg g) (hs:swapsWithSole [tg] e pos.line X.env=pure false:=by rfl) (hw:swappedStores [tg] e X.env=pure none:=by rfl)
  (h1:(assignEach [tg] X.env).map (·.2)=[assign tg X.env]:=by rfl):PS X (.Assign [tg] e pos) (tAsg te g):=by
 intro pins s σ H D I h
 refine wpAny_Assign_stores (thn (he pins s σ H _ I h) fun v s1 hq2=>?_) hs hw
 obtain ⟨x,H1,I1,r1,q1⟩:=hq2
 rw [h1]
 exact thn (hg pins s1 σ H1 x v _ I1 r1 q1) fun _ s2 q=>q
theorem ps_set {i:Nat} {x:Str} {e:Expr} {te:TE} {pos':Pos} (hN:X.N.Nodup) (hi:X.N[i]?=some x) (hx:Loc X.env.scope x) (he:PE X e te) (hs:swapsWith e (some (.Name x pos')) pos.line X.env=pure false:=by rfl) (hf:X.fn x=true\/X.env.scope.names.lookup x=some .local:=by first | exact .inl rfl | exact .inr rfl | assumption) :
  PS X (.Assign [.Name x pos'] e pos) (tAsg te (gName i)):=by
 intro pins s σ H D I h
 refine wpAny_Assign_Name (thn (he pins s σ H _ I h) fun v s1 hq2=>?_) hs
 obtain ⟨y,H1,I1,r1,q1⟩:=hq2
 exact store_ok I1 hN hi hx r1 (fun s2 I2=>⟨_,H1,I2,q1⟩) hf
noncomputable def tPar (i j:Nat) (ta:TA):TS:=fun D σ H=>ta σ H fun vs H1=>∃ v w,vs=[v,w]/\D.nx ((σ.set i (some v)).set j (some w)) H1
theorem ps_par {i j:Nat} {x y:Str} {a b:Expr} {ta:TA} {px py pt:Pos} {kt k2 pt2} (hc:X.calm=true) (hN:X.N.Nodup) (hi:X.N[i]?=some x) (hj:X.N[j]?=some y) (hij:i≠j)
  (hx:X.env.scope.names.lookup x=some .local) (hy:X.env.scope.names.lookup y=some .local) (ha:PA X [a,b] ta)
  (hw:swappedStores [.Tuple [.Name x px,.Name y py] kt pt] (.Tuple [a,b] k2 pt2) X.env=pure (some [x,y]))
  (hs:swapsWithSole [.Tuple [.Name x px,.Name y py] kt pt] (.Tuple [a,b] k2 pt2) pos.line X.env=pure false:=by rfl) :
  PS X (.Assign [.Tuple [.Name x px,.Name y py] kt pt] (.Tuple [a,b] k2 pt2) pos) (tPar i j ta):=by
 intro pins s σ H D I h
 rw [exec_Assign_arm]
 refine wpAny_bind (wpAny_standAt ?_)
 rw [hs]
 refine wpAny_bind (wpAny_pure ?_)
 rw [if_neg (by decide)]
 refine wpAny_bind (Tuple_ (thn (ha _ pins s σ H _ I h) fun us s1 hq2=>?_))
 obtain ⟨vs,H1,I1,r1,q1⟩:=hq2
 obtain ⟨v,w,e1,q1⟩:=q1
 subst e1
 obtain ⟨u1,u2,rfl,rv,rw'⟩:∃ u1 u2,us=[u1,u2]/\RelV v u1/\RelV w u2:=by
  cases r1 with
  | cons p q =>
   cases q with
   | cons p' q' =>
    cases q'
    exact ⟨_,_,rfl,p,p'⟩
 refine wpAny_newObj_type ?_ (by show 2<=sizeLine; decide)
 have I2:Inv X pins σ H1 { s1 with heap:=s1.heap.push { cls:=.type "tuple",data:=.seq [u1,u2].toArray } }:=I1.kept (t':=s1.toks) fun b o e=>Heap.get?_push_of_some _ e
 rw [hw]
 refine wpAny_bind (wpAny_pure ?_)
 show wpAny (model X.prog X.w) X.A (do rule "assign.swapped-stores"; let items <- unpackItems (.ref s1.heap.objs.size) 2 none; assignInOrder [fun v=>bindName X.env y v,fun v=>bindName X.env x v] items.reverse; pure Flow.next) _ _ _
 refine wpAny_bind (wpAny_rule (wpAny_bind (unpackItems_tuple (items:=#[u1,u2]) (I.ok.hd hc) (IsTup.new s1.heap _) fun h' hx'=>?_)))
 have I3:=I2.kept (h':=h') (t':=s1.toks) fun b o e=>hx' b o (Nat.ne_of_lt (Heap.lt_size e)) e
 show wpAny _ _ (assignInOrder [fun v=>bindName X.env y v,fun v=>bindName X.env x v] [u2,u1] >>= fun _=>pure Flow.next) _ _ _
 refine wpAny_bind (assignInOrder_cons (wpAny_bindName (store_ok I3 hN hj (.inl hy) rw' (fun s2 I4=>?_) (.inr hy))))
 refine assignInOrder_cons (wpAny_bindName (store_ok I4 hN hi (.inl hx) rv (fun s3 I5=>assignInOrder_nil (wpAny_pure ?_)) (.inr hx)))
 rw [List.set_comm _ _ (Ne.symm hij)] at I5
 exact ⟨_,H1,I5,q1⟩
end
section
variable {X:Cx} {pos:Pos}
noncomputable def tWhile (c:TT) (tb:TS):TS:=fun D σ H=>∃ W:Nat->St->Hp->Prop,(∃ m,W m σ H)/\∀ m σ H,W m σ H ->
 c σ H fun b H1=>if b=true then ∃ N:St->Hp->Prop,(∀ σ' H',N σ' H'->∃ m',m' < m/\W m' σ' H')/\tb { D with nx:=N,ct:=N,bk:=D.nx } σ H1 else D.nx σ H1
theorem ps_while {c:Expr} {body:List Stmt} {tc:TT} {tb:TS} (hp:PassesOwn (model X.prog X.w) X.A X.env X.xe) (hc:PT X c tc) (hb:PSs X body tb):PS X (.While c body [] pos) (tWhile tc tb):=by
 intro pins s σ H D I h
 obtain ⟨W,⟨m0,w0⟩,turn⟩:=h
 refine wpAny_While (codeAny_whileLoop (fun n s'=>∃ σ' H',Inv X pins σ' H' s'/\W n σ' H') ?_ m0 ⟨σ,H,I,w0⟩)
 rintro n s1 ⟨σ1,H1,I1,w1⟩
 refine wpAny_passesOwn hp (thn (hc pins s1 σ1 H1 _ I1 (turn n σ1 H1 w1)) fun b s2 hq2=>?_)
 obtain ⟨H2,I2,q2⟩:=hq2
 cases b with
 | true =>
  obtain ⟨N,hN,q2⟩:=q2
  rw [if_pos rfl]
  refine wpAny_passesOwn hp (thn (hb pins s2 σ1 H2 _ I2 q2) fun f s3 q3=>?_)
  cases f with
  | next =>
   obtain ⟨σ3,H3,I3,n3⟩:=q3
   obtain ⟨m',hm,w3⟩:=hN σ3 H3 n3
   exact ⟨m',hm,σ3,H3,I3,w3⟩
  | cont =>
   obtain ⟨σ3,H3,I3,n3⟩:=q3
   obtain ⟨m',hm,w3⟩:=hN σ3 H3 n3
   exact ⟨m',hm,σ3,H3,I3,w3⟩
  | brk=>exact q3
  | ret v=>exact q3
 | false =>
  rw [if_neg Bool.false_ne_true]
  exact wpAny_execs_nil ⟨σ1,H2,I2,q2⟩
end
structure It where
 go:Nat->Hp->Prop
 yld:Nat->Hp->V->Hp->Prop
 stop:Nat->Hp->Prop
noncomputable def FpOk (X:Cx) (pins:List (Addr×Obj)) (H:Hp) (b:Addr):Prop :=
 H b=none/\b≠X.env.locals/\b ∉ X.fs/\(b∈X.ex\/X.s₀.heap.objs.size<=b)/\(∀ x c,X.env.cells.lookup x=some c->c≠b)/\∀ p∈X.pn++pins,p.1≠b
theorem Inv.fpOk {X:Cx} {pins:List (Addr×Obj)} {σ:St} {H H':Hp} {s:Shared} {b:Addr} (I:Inv X pins σ H s) (hb:s.heap.objs.size<=b) (hn:H' b=none):FpOk X pins H' b:=by
 refine ⟨hn,Nat.ne_of_gt (Nat.lt_of_lt_of_le I.lt hb),I.nofs hb,.inr (Nat.le_trans I.sz hb),fun x c e z=>?_,fun p hp z=>?_⟩
 ·obtain ⟨v,q⟩:=I.cell x c e
  exact absurd (Nat.lt_of_lt_of_le q.lt (by rw [z]; exact hb)) (Nat.lt_irrefl _)
 ·exact absurd (Nat.lt_of_lt_of_le (Heap.lt_size (I.pin p hp).1) (by rw [z]; exact hb)) (Nat.lt_irrefl _)
structure Turn (P:Program) (w:World) (K:PySem.W.Frag) (tg:Expr) (J:It) (fp:List Addr) (it:Addr) (tn:Nat->Heap->Prop):Prop where
 mem:it∈fp
 obj:∀ i h,tn i h->∀ b∈fp,∃ o,h.get? b=some o/\∀ v,o.data≠.cell v
 keep:∀ i h h',tn i h->(∀ b∈fp,∀ o,h.get? b=some o->h'.get? b=some o)->tn i h'
 item:∀ (X:Cx),X.prog=P->X.w=w->X.K=K->X.calm=true->∀ (i:Nat) (pins:List (Addr×Obj)) (s:Shared) (σ:St) (H:Hp) (E:Value->Shared->Prop),Inv X pins σ H s->(∀ b∈fp,FpOk X pins H b)->tn i s.heap->J.go i H ->
  wpAny (model P w) X.A (pyNext (.ref it)) (fun r s1=>∃ u,r=some u /\
   wpAny (model P w) X.A (letOwnedTupleGo tg (.ref it) u) (fun _ s2=>∃ x H',Inv X pins σ H' s2/\RelV x u/\J.yld i H x H'/\tn (i + 1) s2.heap/\∀ b∈fp,H' b=none) E s1) E s
 done:∀ (X:Cx),X.prog=P->X.w=w->X.K=K->X.calm=true->∀ (i:Nat) (pins:List (Addr×Obj)) (s:Shared) (σ:St) (H:Hp) (E:Value->Shared->Prop),Inv X pins σ H s->(∀ b∈fp,FpOk X pins H b)->tn i s.heap->J.stop i H ->
  wpAny (model P w) X.A (pyNext (.ref it)) (fun r s1=>r=none/\Inv X pins σ H s1) E s
 self:∀ (A:Around) (i:Nat) (s:Shared) (Q:Value->Shared->Prop) (E:Value->Shared->Prop),tn i s.heap->Q (.ref it) s->wpAny (model P w) A (pyIter (.ref it)) Q E s
noncomputable abbrev TI:=St->Hp->(It->Hp->Prop)->Prop
noncomputable def PIE (X:Cx) (pins:List (Addr×Obj)) (σ:St) (tg:Expr) (R:It->Hp->Prop) (itv:Value) (s2:Shared):Prop :=
 ∃ (it:Addr) (fp:List Addr) (tn:Nat->Heap->Prop) (J:It) (H':Hp),itv=.ref it/\Inv X pins σ H' s2/\Turn X.prog X.w X.K tg J fp it tn/\tn 0 s2.heap/\(∀ b∈fp,FpOk X pins H' b)/\R J H'
noncomputable def PI (X:Cx) (tg iter:Expr) (wi:TI):Prop :=
 ∀ (pins:List (Addr×Obj)) (s:Shared) (σ:St) (H:Hp) (R:It->Hp->Prop),Inv X pins σ H s->wi σ H R ->
  wpAny (model X.prog X.w) X.A (eval iter X.env) (fun v s1=>wpAny (model X.prog X.w) X.A (pyIter v) (PIE X pins σ tg R) X.xe s1) X.xe s
theorem go_of {M:Model} {A:Around} {E:Value->Shared->Prop} {s:Shared} {tg:Expr} {it:Addr} {u:Value} {o:Obj} {n:String} {vs:Array Value} {Q:Unit->Shared->Prop} (ho:s.heap.get? it=some o) (hc:o.cls=.type n) (hd:o.data=.fields vs)
    (hn:["enumerate","zip","dict_itemiterator","dict_reverseitemiterator","odict_iterator","itertools.zip_longest","itertools.pairwise"].contains n=false) (hQ:Q () s):wpAny M A (letOwnedTupleGo tg (.ref it) u) Q E s:=by
  unfold letOwnedTupleGo
  cases tg<;>first
    | exact wpAny_pure hQ
    | (cases u<;>first
        | exact wpAny_pure hQ
        | (refine wpAny_bind (wpAny_load ho ?_)
           rw [hc,hd]
           show wpAny M A (if (["enumerate","zip","dict_itemiterator","dict_reverseitemiterator","odict_iterator","itertools.zip_longest","itertools.pairwise"].contains n && vs[0]? == some (rawInt _))=true then _ else _) Q E s
           rw [if_neg (by intro h; rw [hn,Bool.false_and] at h; cases h)]
           exact wpAny_pure hQ))
noncomputable def Itl (K:PySem.W.Frag) (a:Addr):It :=
 ⟨fun i H=>∃ xs x,SqL K H a xs/\xs[i]?=some x,fun i H x H'=>H'=H/\∀ xs,SqL K H a xs->xs[i]?=some x,fun i H=>∃ xs,SqL K H a xs/\xs.length<=i⟩
noncomputable def Itt (K:PySem.W.Frag) (a:Addr):It :=
 ⟨fun i H=>∃ xs x,SqT K H a xs/\xs[i]?=some x,fun i H x H'=>H'=H/\∀ xs,SqT K H a xs->xs[i]?=some x,fun i H=>∃ xs,SqT K H a xs/\xs.length<=i⟩
noncomputable def Itr (lo:Int) (n:Nat):It:=⟨fun i _=>i < n,fun i H x H'=>H'=H/\x=.int (lo + i),fun i _=>n<=i⟩
theorem turn_list {P:Program} {w:World} {K:PySem.W.Frag} {tg:Expr} (a it:Addr):Turn P w K tg (Itl K a) [it] it (fun i h=>h.IsListIter it a i) where
 mem:=by simp
 obj:=fun i h st b hb=>by
  have e:b=it:=by simpa using hb
  subst e
  obtain ⟨o,e,c,d⟩:=st
  exact ⟨o,e,fun v z=>by rw [d] at z; cases z⟩
 keep:=fun i h h' st k=>st.at fun o e=>k it (by simp) o e
 item:=by
  intro X hP hw hK hc i pins s σ H E I hf st hg
  subst hP hw hK
  obtain ⟨xs,x,hq,hx⟩:=hg
  obtain ⟨its,rv,p,hz⟩:=I.list hq
  obtain ⟨u,hu,ru⟩:=rv.get hx
  obtain ⟨f0,f1,f2,f3,f4,f5⟩:=hf it (by simp)
  refine wpAny_pyNext_list_item st p.isList (x:=u) (by simpa using hu) fun h' st' sb=>?_
  have I1:Inv X pins σ H { s with heap:=h' }:=I.turned (t':=s.toks) (fun b o hb e=>(sb.2 b hb).trans e) f0 f1 f3 f4 f5
  obtain ⟨o,e,c,d⟩:=id st'
  exact ⟨u,rfl,go_of (s:={ s with heap:=h' }) e c d (by decide) ⟨x,H,I1,ru,⟨rfl,fun ys hy=>by rw [I.list_inj hy hq]; exact hx⟩,st',fun b hb=>(hf b hb).1⟩⟩
 done:=by
  intro X hP hw hK hc i pins s σ H E I hf st hg
  subst hP hw hK
  obtain ⟨xs,hq,hx⟩:=hg
  obtain ⟨its,rv,p,hz⟩:=I.list hq
  obtain ⟨f0,f1,f2,f3,f4,f5⟩:=hf it (by simp)
  have hl:=rv.length
  exact wpAny_pyNext_list_end (I.ok.hd hc) st p.isList (by simp; omega) fun h' eb=>⟨rfl,I.turned (t':=s.toks) (fun b o hb e=>eb b o hb e) f0 f1 f3 f4 f5⟩
 self:=fun _ _ _ _ _ st h=>wpAny_pyIter_listiter st h
theorem turn_tuple {P:Program} {w:World} {K:PySem.W.Frag} {tg:Expr} (a it:Addr):Turn P w K tg (Itt K a) [it] it (fun i h=>h.IsTupleIter it a i) where
 mem:=by simp
 obj:=fun i h st b hb=>by
  have e:b=it:=by simpa using hb
  subst e
  obtain ⟨o,e,c,d⟩:=st
  exact ⟨o,e,fun v z=>by rw [d] at z; cases z⟩
 keep:=fun i h h' st k=>st.at fun o e=>k it (by simp) o e
 item:=by
  intro X hP hw hK hc i pins s σ H E I hf st hg
  subst hP hw hK
  obtain ⟨xs,x,hq,hx⟩:=hg
  obtain ⟨its,rv,p,hz⟩:=I.tuple hq
  obtain ⟨u,hu,ru⟩:=rv.get hx
  obtain ⟨f0,f1,f2,f3,f4,f5⟩:=hf it (by simp)
  refine wpAny_pyNext_tuple_item st (show s.heap.IsTuple a its.toArray from p) (x:=u) (by simpa using hu) fun h' st' sb=>?_
  have I1:Inv X pins σ H { s with heap:=h' }:=I.turned (t':=s.toks) (fun b o hb e=>(sb.2 b hb).trans e) f0 f1 f3 f4 f5
  obtain ⟨o,e,c,d⟩:=id st'
  exact ⟨u,rfl,go_of (s:={ s with heap:=h' }) e c d (by decide) ⟨x,H,I1,ru,⟨rfl,fun ys hy=>by rw [I.tuple_inj hy hq]; exact hx⟩,st',fun b hb=>(hf b hb).1⟩⟩
 done:=by
  intro X hP hw hK hc i pins s σ H E I hf st hg
  subst hP hw hK
  obtain ⟨xs,hq,hx⟩:=hg
  obtain ⟨its,rv,p,hz⟩:=I.tuple hq
  obtain ⟨f0,f1,f2,f3,f4,f5⟩:=hf it (by simp)
  have hl:=rv.length
  exact wpAny_pyNext_tuple_end (I.ok.hd hc) st (show s.heap.IsTuple a its.toArray from p) (by simp; omega) fun h' eb=>⟨rfl,I.turned (t':=s.toks) (fun b o hb e=>eb b o hb e) f0 f1 f3 f4 f5⟩
 self:=fun _ _ _ _ _ st h=>wpAny_pyIter_tupleiter st h
theorem turn_range {P:Program} {w:World} {K:PySem.W.Frag} {tg:Expr} (it:Addr) (lo:Int) (n:Nat):Turn P w K tg (Itr lo n) [it] it (fun i h=>IsRangeIter h it (lo + (i:Nat) * 1) ((n:Int) - (i:Nat)) 1) where
 mem:=by simp
 obj:=fun i h st b hb=>by
  have e:b=it:=by simpa using hb
  subst e
  exact ⟨_,st,fun v z=>by
   have z':Data.fields _=Data.cell v:=z
   cases z'⟩
 keep:=fun i h h' st k=>k it (by simp) _ st
 item:=by
  intro X hP hw hK hc i pins s σ H E I hf st hg
  subst hP hw hK
  obtain ⟨f0,f1,f2,f3,f4,f5⟩:=hf it (by simp)
  have W:=Walks.range (prog:=X.prog) (w:=X.w) (I.ok.hd hc) it lo 1 n
  refine W.item i s _ _ hg st fun v h' tk hv st' kk=>?_
  obtain ⟨t,rfl⟩:=hv
  have I1:Inv X pins σ H { s with heap:=h',toks:=tk }:=I.turned (fun b o hb e=>kk b o (by simpa using hb) e) f0 f1 f3 f4 f5
  refine ⟨_,rfl,go_of (s:={ s with heap:=h',toks:=tk }) (n:="range_iterator") st' rfl rfl (by decide) ⟨.int (lo + i),H,I1,⟨t,?_⟩,⟨rfl,rfl⟩,st',fun b hb=>(hf b hb).1⟩⟩
  rw [Int.mul_one]
 done:=by
  intro X hP hw hK hc i pins s σ H E I hf st hg
  subst hP hw hK
  obtain ⟨f0,f1,f2,f3,f4,f5⟩:=hf it (by simp)
  exact wpAny_pyNext_range_end (I.ok.hd hc) st (by have:n<=i:=hg; omega) fun h' eb=>⟨rfl,I.turned (t':=s.toks) (fun b o hb e=>eb b o hb e) f0 f1 f3 f4 f5⟩
 self:=fun _ _ _ _ _ st h=>wpAny_pyIter_rangeiter st h
end L2
namespace L2
open PySem PySem.Spec PyProof.Rows
section
variable {X:Cx} {tg:Expr}
theorem range_it {pins:List (Addr×Obj)} {σ:St} {H:Hp} {s:Shared} {R:It->Hp->Prop} {E:Value->Shared->Prop} {lo hi:Int} {t u v:Tok} {tk:Nat} (I:Inv X pins σ H s) (h1:-(2 ^ 62)<=lo) (h2:lo < 2 ^ 62) (h3:-(2 ^ 62)<=hi) (h4:hi < 2 ^ 62)
  (q:R (Itr lo (hi - lo).toNat) H):wpAny (model X.prog X.w) X.A (pyIter (.ref s.heap.objs.size)) (PIE X pins σ tg R) E { s with heap:=s.heap.push { cls:=.type "range",data:=.fields #[.int lo t,.int hi u,.int 1 v] },toks:=tk }:=by
 refine wpAny_pyIter_range (IsRange.new ..) (small_one h1 h2 h3 h4) ?_
 have I1:Inv X pins σ H { s with heap:=s.heap.push { cls:=.type "range",data:=.fields #[.int lo t,.int hi u,.int 1 v] },toks:=tk }:=I.kept fun b o e=>Heap.get?_push_of_some _ e
 refine ⟨(s.heap.push { cls:=.type "range",data:=.fields #[.int lo t,.int hi u,.int 1 v] }).objs.size,[(s.heap.push { cls:=.type "range",data:=.fields #[.int lo t,.int hi u,.int 1 v] }).objs.size],_,_,H,rfl,
  I1.kept (t':=tk) fun b o e=>Heap.get?_push_of_some _ e,turn_range _ lo (hi - lo).toNat,?_,fun b hb=>?_,q⟩
 ·have e1:lo + ((0:Nat):Int) * 1=lo:=by simp
  have e2:(((hi - lo).toNat:Nat):Int) - ((0:Nat):Int)=Builtin.Range.rangeSize lo hi 1:=by rw [rangeSize_one]; split<;>omega
  show IsRangeIter _ _ (lo + ((0:Nat):Int) * 1) ((((hi - lo).toNat:Nat):Int) - ((0:Nat):Int)) 1
  rw [e1,e2]
  exact Heap.get?_push_size _ rfl
 ·have e:b=(s.heap.push { cls:=.type "range",data:=.fields #[.int lo t,.int hi u,.int 1 v] }).objs.size:=by simpa using hb
  subst e
  exact I1.fpOk (Nat.le_refl _) (I1.hok.fresh (Nat.le_refl _))
noncomputable def tFor (wi:TI) (g:TG) (tb:TS):TS:=fun D σ H=>wi σ H fun J H1=>∃ W:Nat->Nat->St->Hp->Prop,(∃ m,W 0 m σ H1)/\∀ i m σ H,W i m σ H ->
 (J.stop i H/\D.nx σ H)\/(J.go i H/\∃ N:St->Hp->Prop,(∀ σ' H',N σ' H'->∃ m',m' < m/\W (i + 1) m' σ' H')/\∀ x H',J.yld i H x H'->g x σ H' fun σ2 H2=>tb { D with nx:=N,ct:=N,bk:=D.nx } σ2 H2)
noncomputable def pinsAt (fp:List Addr) (h:Heap):List (Addr×Obj):=fp.filterMap fun b=>(h.get? b).map fun o=>(b,o)
theorem mem_pinsAt {fp:List Addr} {h:Heap} {b:Addr} {o:Obj} (hb:b∈fp) (e:h.get? b=some o):(b,o)∈pinsAt fp h:=List.mem_filterMap.mpr ⟨b,hb,by rw [e]; rfl⟩
theorem of_pinsAt {fp:List Addr} {h:Heap} {p:Addr×Obj} (hp:p∈pinsAt fp h):p.1∈fp/\h.get? p.1=some p.2:=by
 obtain ⟨b,hb,e⟩:=List.mem_filterMap.mp hp
 cases q:h.get? b with
 | none=>rw [q] at e; cases e
 | some o =>
  rw [q] at e
  have e':(b,o)=p:=Option.some.inj e
  subst e'
  exact ⟨hb,q⟩
theorem Inv.pinned {pins:List (Addr×Obj)} {σ:St} {H:Hp} {s:Shared} {fp:List Addr} (I:Inv X pins σ H s) (hf:∀ b∈fp,FpOk X pins H b) (ho:∀ b∈fp,∃ o,s.heap.get? b=some o/\∀ v,o.data≠.cell v):Inv X (pins++pinsAt fp s.heap) σ H s :=
 I.pins_of fun p hp=>(List.mem_append.mp hp).elim (fun z=>I.pin p (List.mem_append_right _ z)) fun z=>by
  obtain ⟨hb,e⟩:=of_pinsAt z
  obtain ⟨f0,f1,f2,_⟩:=hf p.1 hb
  obtain ⟨o,e',d⟩:=ho p.1 hb
  rw [e] at e'; cases e'
  exact ⟨e,f0,f1,f2,d⟩
theorem Inv.unpinned {pins pl:List (Addr×Obj)} {σ:St} {H:Hp} {s:Shared} (I:Inv X (pins++pl) σ H s):Inv X pins σ H s:=I.pins_of fun p hp=>I.pin p (List.mem_append_right _ (List.mem_append_left _ hp))
theorem ps_for {iter:Expr} {body:List Stmt} {wi:TI} {g:TG} {tb:TS} {pos:Pos} (hp:PassesOwn (model X.prog X.w) X.A X.env X.xe) (hc:X.calm=true) (hi:PI X tg iter wi) (hg:PG X tg g) (hb:PSs X body tb)
  (hs:∀ x,foldedSetIterable iter X.env x=pure x:=by intro _; rfl):PS X (.For tg iter body [] pos) (tFor wi g tb):=by
 intro pins s σ H D I h
 refine wpAny_For (thn (hi pins s σ H _ I h) fun v s1 h1=>thn h1 fun itv s2 h2=>?_) hs
 obtain ⟨it,fp,tn,J,H2,e,I2,T,st2,f2,W,⟨m0,w0⟩,turn⟩:=h2
 subst e
 have stat:∀ {H':Hp},(∀ b∈fp,H' b=none)->∀ b∈fp,FpOk X pins H' b:=fun hn b hb=>⟨hn b hb,(f2 b hb).2⟩
 refine codeAny_forLoop_any (fun n s'=>∃ i σ' H',Inv X pins σ' H' s'/\tn i s'.heap/\(∀ b∈fp,H' b=none)/\W i n σ' H') ?_ m0 ⟨0,σ,H2,I2,st2,fun b hb=>(f2 b hb).1,w0⟩
 rintro n s3 ⟨i,σ3,H3,I3,st3,fr3,w3⟩
 rcases turn i n σ3 H3 w3 with ⟨stop,qn⟩ | ⟨go,N,hN,step⟩
 ·refine wpAny_passesOwn hp (thn (T.done X rfl rfl rfl hc i pins s3 σ3 H3 X.xe I3 (stat fr3) st3 stop) fun r s4 hq2=>?_)
  obtain ⟨hr,I4⟩:=hq2
  subst hr
  exact wpAny_execs_nil ⟨σ3,H3,I4,qn⟩
 ·refine wpAny_passesOwn hp (thn (T.item X rfl rfl rfl hc i pins s3 σ3 H3 X.xe I3 (stat fr3) st3 go) fun r s4 hq2=>?_)
  obtain ⟨u,hr,h4⟩:=hq2
  subst hr
  refine wpAny_passesOwn hp (thn h4 fun _ s5 hq2=>?_)
  obtain ⟨x,H5,I5,r5,y5,st5,fr5⟩:=hq2
  have I5':=I5.pinned (stat fr5) (T.obj _ _ st5)
  refine wpAny_passesOwn hp (thn (hg _ s5 σ3 H5 x u _ I5' r5 (step x H5 y5)) fun _ s6 hq2=>?_)
  obtain ⟨σ6,H6,I6,q6⟩:=hq2
  refine wpAny_passesOwn hp (thn (hb _ s6 σ6 H6 _ I6 q6) fun f s7 q7=>?_)
  have again:∀ {σ7:St} {H7:Hp},Inv X (pins++pinsAt fp s5.heap) σ7 H7 s7->N σ7 H7->∃ m,m < n/\∃ i σ' H',Inv X pins σ' H' s7/\tn i s7.heap/\(∀ b∈fp,H' b=none)/\W i m σ' H':=fun {σ7 H7} I7 n7=>by
   obtain ⟨m',hm,w7⟩:=hN σ7 H7 n7
   refine ⟨m',hm,i + 1,σ7,H7,I7.unpinned,T.keep _ _ _ st5 fun b hb o e=>(I7.pin (b,o) (List.mem_append_right _ (List.mem_append_right _ (mem_pinsAt hb e)))).1,fun b hb=>?_,w7⟩
   obtain ⟨o,e,d⟩:=T.obj _ _ st5 b hb
   exact (I7.pin (b,o) (List.mem_append_right _ (List.mem_append_right _ (mem_pinsAt hb e)))).2.1
  cases f with
  | next=>obtain ⟨σ7,H7,I7,n7⟩:=q7; exact again I7 n7
  | cont=>obtain ⟨σ7,H7,I7,n7⟩:=q7; exact again I7 n7
  | brk=>obtain ⟨σ7,H7,I7,q7⟩:=q7; exact ⟨σ7,H7,I7.unpinned,q7⟩
  | ret v=>obtain ⟨x7,σ7,H7,I7,r7,q7⟩:=q7; exact ⟨x7,σ7,H7,I7.unpinned,r7,q7⟩
end
end L2
namespace L2
open PySem PySem.Spec PyProof.Rows
noncomputable abbrev R2:=V->V->Hp->VK->Prop
noncomputable def OpR (X:Cx) (f:Value->Value->Sem Value) (r:R2):Prop :=
 ∀ (pins:List (Addr×Obj)) (s:Shared) (σ:St) (H:Hp) (x y:V) (v u:Value) (Q:VK),Inv X pins σ H s->RelV x v->RelV y u->r x y H Q ->
  wpAny (model X.prog X.w) X.A (f v u) (EP X pins σ Q) X.xe s
noncomputable def UnR (X:Cx) (f:Value->Sem Value) (r:V->Hp->VK->Prop):Prop :=
 ∀ (pins:List (Addr×Obj)) (s:Shared) (σ:St) (H:Hp) (x:V) (v:Value) (Q:VK),Inv X pins σ H s->RelV x v->r x H Q ->
  wpAny (model X.prog X.w) X.A (f v) (EP X pins σ Q) X.xe s
noncomputable def CallR (X:Cx) (f:Value) (r:List V->Hp->VK->Prop):Prop :=
 ∀ (pins:List (Addr×Obj)) (s:Shared) (σ:St) (H:Hp) (xs:List V) (us:List Value) (Q:VK),Inv X pins σ H s->Vals xs us->r xs H Q ->
  wpAny (model X.prog X.w) X.A (call f us) (EP X pins σ Q) X.xe s
noncomputable def TruR (X:Cx) (r:V->Hp->(Bool->Hp->Prop)->Prop):Prop :=
 ∀ (pins:List (Addr×Obj)) (s:Shared) (σ:St) (H:Hp) (x:V) (v:Value) (Q:Bool->Hp->Prop),Inv X pins σ H s->RelV x v->r x H Q ->
  wpAny (model X.prog X.w) X.A (truthy v) (TP X pins σ Q) X.xe s
noncomputable def tOp (r:R2) (ta tb:TE):TE:=fun σ H Q=>ta σ H fun x H1=>tb σ H1 fun y H2=>r x y H2 Q
noncomputable def tUn (r:V->Hp->VK->Prop) (ta:TE):TE:=fun σ H Q=>ta σ H fun x H1=>r x H1 Q
noncomputable def rI (C:Int->Int->Prop) (g:Int->Int->V):R2:=fun x y H Q=>∃ i j,x=.int i/\y=.int j/\C i j/\Q (g i j) H
noncomputable def rI0 (g:Int->Int->V):R2:=fun x y H Q=>∃ i j,x=.int i/\y=.int j/\Q (g i j) H
noncomputable def rU (g:Int->V):V->Hp->VK->Prop:=fun x H Q=>∃ i,x=.int i/\Q (g i) H
section
variable {X:Cx} {a b c:Expr} {ta tb tc:TE} {pos:Pos}
theorem binT (ha:PE X a ta) (hb:PE X b tb) {pins:List (Addr×Obj)} {s:Shared} {σ:St} {H:Hp} {R:V->V->Hp->Prop} (I:Inv X pins σ H s)
  (h:ta σ H fun x H1=>tb σ H1 fun y H2=>R x y H2) {Q:Value->Shared->Prop} {f:Value->Value->Sem Value}
  (hf:∀ v u s2 x y H2,Inv X pins σ H2 s2->RelV x v->RelV y u->R x y H2->wpAny (model X.prog X.w) X.A (f v u) Q X.xe s2) :
  wpAny (model X.prog X.w) X.A (eval a X.env) (fun v s₁=>wpAny (model X.prog X.w) X.A (eval b X.env) (fun u s₂=>wpAny (model X.prog X.w) X.A (f v u) Q X.xe s₂) X.xe s₁) X.xe s:=by
 refine thn (ha pins s σ H _ I h) fun v s1 hq2=>?_
 obtain ⟨x,H1,I1,r1,q1⟩:=hq2
 refine thn (hb pins s1 σ H1 _ I1 q1) fun u s2 hq2=>?_
 obtain ⟨y,H2,I2,r2,q2⟩:=hq2
 exact hf v u s2 x y H2 I2 r1 r2 q2
theorem pe_op {op:Operator} {r:R2} (ho:OpR X (binaryOp op) r) (ha:PE X a ta) (hb:PE X b tb):PE X (.BinOp a op b pos) (tOp r ta tb):=by
 intro pins s σ H Q I h
 exact wpAny_BinOp (binT ha hb I h fun v u s2 x y H2 I2 rx ry q=>ho pins s2 σ H2 x y v u Q I2 rx ry q)
theorem pe_un {op:UnaryOp} {r:V->Hp->VK->Prop} (ho:UnR X (unaryOp op) r) (ha:PE X a ta):PE X (.UnaryOp op a pos) (tUn r ta):=by
 intro pins s σ H Q I h
 exact UnaryOp_ (thn (ha pins s σ H _ I h) (by rintro v s1 ⟨x,H1,I1,r1,q1⟩; exact ho pins s1 σ H1 x v Q I1 r1 q1))
theorem opI {f:Value->Value->Sem Value} {C:Int->Int->Prop} {g:Int->Int->Int}
  (rule:∀ (i j:Int) (t u:Tok) (s:Shared) (Q:Value->Shared->Prop) (E:Value->Shared->Prop),C i j->Q (.int (g i j) s.toks) { s with toks:=s.toks + 1 }->wpAny (model X.prog X.w) X.A (f (.int i t) (.int j u)) Q E s) :
  OpR X f (rI C fun i j=>.int (g i j)):=by
 intro pins s σ H x y v u Q I rx ry h
 obtain ⟨i,j,rfl,rfl,hc,q⟩:=h
 obtain ⟨t,rfl⟩:=rx
 obtain ⟨t',rfl⟩:=ry
 exact rule i j t t' s _ _ hc ⟨.int (g i j),H,I.tok _,⟨_,rfl⟩,q⟩
theorem opI0 {f:Value->Value->Sem Value} {g:Int->Int->Int}
  (rule:∀ (i j:Int) (t u:Tok) (s:Shared) (Q:Value->Shared->Prop) (E:Value->Shared->Prop),Q (.int (g i j) s.toks) { s with toks:=s.toks + 1 }->wpAny (model X.prog X.w) X.A (f (.int i t) (.int j u)) Q E s) :
  OpR X f (rI0 fun i j=>.int (g i j)):=by
 intro pins s σ H x y v u Q I rx ry h
 obtain ⟨i,j,rfl,rfl,q⟩:=h
 obtain ⟨t,rfl⟩:=rx
 obtain ⟨t',rfl⟩:=ry
 exact rule i j t t' s _ _ ⟨.int (g i j),H,I.tok _,⟨_,rfl⟩,q⟩
theorem opB0 {f:Value->Value->Sem Value} {g:Int->Int->Bool}
  (rule:∀ (i j:Int) (t u:Tok) (s:Shared) (Q:Value->Shared->Prop) (E:Value->Shared->Prop),Q (.bool (g i j)) s->wpAny (model X.prog X.w) X.A (f (.int i t) (.int j u)) Q E s) :
  OpR X f (rI0 fun i j=>.bl (g i j)):=by
 intro pins s σ H x y v u Q I rx ry h
 obtain ⟨i,j,rfl,rfl,q⟩:=h
 obtain ⟨t,rfl⟩:=rx
 obtain ⟨t',rfl⟩:=ry
 exact rule i j t t' s _ _ ⟨.bl (g i j),H,I,rfl,q⟩
noncomputable def CPow (i j:Int):Prop:=0<=j/\j<=1000000/\i.natAbs < 2 ^ 64
theorem op_add:OpR X (binaryOp .Add) (rI0 fun i j=>.int (i + j)):=opI0 fun _ _ _ _ _ _ _ q=>add_int q
theorem unI {f:Value->Sem Value} {g:Int->Int}
  (rule:∀ (i:Int) (t:Tok) (s:Shared) (Q:Value->Shared->Prop) (E:Value->Shared->Prop),Q (.int (g i) s.toks) { s with toks:=s.toks + 1 }->wpAny (model X.prog X.w) X.A (f (.int i t)) Q E s) :
  UnR X f (rU fun i=>.int (g i)):=by
 intro pins s σ H x v Q I rx h
 obtain ⟨i,rfl,q⟩:=h
 obtain ⟨t,rfl⟩:=rx
 exact rule i t s _ _ ⟨.int (g i),H,I.tok _,⟨_,rfl⟩,q⟩
theorem un_neg:UnR X (unaryOp .USub) (rU fun i=>.int (-i)):=unI fun _ _ _ _ _ q=>neg_int q
end
section
variable {X:Cx} {a b c:Expr} {ta tb tc:TE} {pos:Pos}
theorem fin_bl {pins:List (Addr×Obj)} {σ:St} {H:Hp} {s:Shared} {Q:VK} {k k':Bool} (I:Inv X pins σ H s) (q:Q (.bl k) H) (e:k=k'):EP X pins σ Q (.bool k') s:=by
 subst e
 exact ⟨.bl k,H,I,rfl,q⟩
theorem op_lt:OpR X (compareOp .Lt) (rI0 fun i j=>.bl (decide (i < j))):=opB0 fun _ _ _ _ _ _ _ q=>lt_int q
theorem op_le:OpR X (compareOp .LtE) (rI0 fun i j=>.bl (decide (i<=j))):=opB0 fun _ _ _ _ _ _ _ q=>le_int q
theorem op_gt:OpR X (compareOp .Gt) (rI0 fun i j=>.bl (decide (j < i))):=opB0 fun _ _ _ _ _ _ _ q=>gt_int q
theorem op_ge:OpR X (compareOp .GtE) (rI0 fun i j=>.bl (decide (j<=i))):=opB0 fun _ _ _ _ _ _ _ q=>ge_int q
theorem op_in_str:OpR X (compareOp .In) (fun x y H Q=>∃ i j,x=.str i/\y=.str j/\Q (.bl (!(Builtin.Str.occurrences j i 0 j.length 1).isEmpty)) H):=by
 intro pins s σ H x y v u Q I rx ry h
 obtain ⟨i,j,rfl,rfl,q⟩:=h
 obtain ⟨t,rfl⟩:=rx
 obtain ⟨t',rfl⟩:=ry
 exact in_str (fin_bl I q rfl)
theorem op_notin_str:OpR X (compareOp .NotIn) (fun x y H Q=>∃ i j,x=.str i/\y=.str j/\Q (.bl (!(!(Builtin.Str.occurrences j i 0 j.length 1).isEmpty))) H):=by
 intro pins s σ H x y v u Q I rx ry h
 obtain ⟨i,j,rfl,rfl,q⟩:=h
 obtain ⟨t,rfl⟩:=rx
 obtain ⟨t',rfl⟩:=ry
 exact notIn_str (fin_bl I q rfl)
theorem pe_cmpR {op:CmpOp} {r:R2} (ho:OpR X (compareOp op) r) (ha:PE X a ta) (hb:PE X b tb) (hm:behindInMarks op b=false):PE X (.Compare a [op] [b] pos) (tOp r ta tb):=by
 intro pins s σ H Q I h
 exact wpAny_Compare1 (binT ha hb I h fun v u s2 x y H2 I2 rx ry q=>ho pins s2 σ H2 x y v u Q I2 rx ry q) hm
noncomputable def tTest (t:TE):TT:=fun σ H Q=>t σ H fun x H'=>∃ k,x=.bl k/\Q k H'
theorem pt_cmpR {op:CmpOp} {r:R2} (ho:OpR X (compareOp op) r) (ha:PE X a ta) (hb:PE X b tb) (hm:behindInMarks op b=false):PT X (.Compare a [op] [b] pos) (tTest (tOp r ta tb)):=by
 intro pins s σ H Q I h
 refine wpAny_isTrue_Compare1 (thn (ha pins s σ H _ I h) fun v s1 ⟨x,H1,I1,r1,q1⟩=>thn (hb pins s1 σ H1 _ I1 q1) fun u s2 ⟨y,H2,I2,r2,q2⟩ =>
  thn (ho pins s2 σ H2 x y v u _ I2 r1 r2 q2) fun c s3 hq2=>?_) hm
 obtain ⟨z,H3,I3,r3,k,e,q3⟩:=hq2
 subst e
 cases r3
 exact wpAny_truthy_bool ⟨H3,I3,q3⟩
noncomputable def tChain (r r':R2) (ta tb tc:TE):TE:=fun σ H Q=>ta σ H fun x H1=>tb σ H1 fun y H2=>r x y H2 fun z H3=>∃ k,z=.bl k /\
 (if k=true then tc σ H3 fun w' H4=>r' y w' H4 Q else Q (.bl false) H3)
theorem pe_chain {op op':CmpOp} {r r':R2} (ho:OpR X (compareOp op) r) (ho':OpR X (compareOp op') r') (ha:PE X a ta) (hb:PE X b tb) (hc:PE X c tc)
  (hm:lastMarks [op,op'] [b,c]=false:=by with_unfolding_all rfl):PE X (.Compare a [op,op'] [b,c] pos) (tChain r r' ta tb tc):=by
 intro pins s σ H Q I h
 refine Compare_chain (thn (ha pins s σ H _ I h) fun v s1 ⟨x,H1,I1,r1,q1⟩=>chain_link (thn (hb pins s1 σ H1 _ I1 q1) fun u s2 ⟨y,H2,I2,r2,q2⟩ =>
  thn (ho pins s2 σ H2 x y v u _ I2 r1 r2 q2) fun d s3 hq2=>?_)) hm
 obtain ⟨z,H3,I3,r3,k,e,q3⟩:=hq2
 subst e
 cases r3
 refine wpAny_truthy_bool ?_
 cases k with
 | false=>exact ite_ff ⟨.bl false,H3,I3,rfl,q3⟩
 | true=>exact ite_tt (chain_last (thn (hc pins s3 σ H3 _ I3 q3) (by rintro w' s4 ⟨z',H4,I4,r4,q4⟩; exact ho' pins s4 σ H4 y z' u w' Q I4 r2 r4 q4)))
theorem pt_chain {op op':CmpOp} {r r':R2} (ho:OpR X (compareOp op) r) (ho':OpR X (compareOp op') r') (ha:PE X a ta) (hb:PE X b tb) (hc:PE X c tc)
  (hm:lastMarks [op,op'] [b,c]=false:=by with_unfolding_all rfl):PT X (.Compare a [op,op'] [b,c] pos) (tTest (tChain r r' ta tb tc)):=by
 intro pins s σ H Q I h
 refine isTrue_chain (thn (ha pins s σ H _ I h) fun v s1 ⟨x,H1,I1,r1,q1⟩=>test_link (thn (hb pins s1 σ H1 _ I1 q1) fun u s2 ⟨y,H2,I2,r2,q2⟩ =>
  thn (ho pins s2 σ H2 x y v u _ I2 r1 r2 q2) fun d s3 hq2=>?_)) hm
 obtain ⟨z,H3,I3,r3,k,e,q3⟩:=hq2
 subst e
 cases r3
 refine wpAny_truthy_bool ?_
 cases k with
 | false =>
  obtain ⟨k',e',q'⟩:=q3
  cases e'
  exact ite_ff ⟨H3,I3,q'⟩
 | true =>
  refine ite_tt (test_last (thn (hc pins s3 σ H3 _ I3 q3) fun w' s4 ⟨z',H4,I4,r4,q4⟩=>thn (ho' pins s4 σ H4 y z' u w' _ I4 r2 r4 q4) fun d' s5 hq2=>?_))
  obtain ⟨z2,H5,I5,r5,k2,e2,q5⟩:=hq2
  subst e2
  cases r5
  exact wpAny_truthy_bool ⟨H5,I5,q5⟩
noncomputable def TruV (K:PySem.W.Frag) (x:V) (H:Hp) (k:Bool):Prop :=
 match x with
 | .non=>k=false
 | .bl b=>k=b
 | .int i=>k=(i != 0)
 | .str y=>y.length<=sizeLine/\k=((y.length:Int) != 0)
 | .byt y=>y.size<=sizeLine/\k=((y.size:Int) != 0)
 | .ref p=>(∃ xs,SqL K H p xs/\k=!xs.isEmpty)\/(∃ xs,SqT K H p xs/\k=!xs.isEmpty)\/∃ kvs,H p=some (.dK kvs)/\k=!kvs.isEmpty
 | _=>False
theorem isEmpty_kv {κ:Type} {kvs:List (κ×V)} {vs:List (κ×Value)} (r:KV kvs vs):(!vs.isEmpty)=!kvs.isEmpty:=by
 cases r<;>rfl
theorem isEmpty_of {xs:List V} {its:List Value} (r:Vals xs its):(!its.toArray.isEmpty)=!xs.isEmpty:=by
 cases r<;>simp
theorem line63:(sizeLine:Nat) < 2 ^ 63:=by rw [sizeLine_eq]; decide
theorem tru_ok:TruR X (fun x H Q=>∃ k,TruV X.K x H k/\Q k H):=by
 intro pins s σ H x v Q I rx h
 obtain ⟨k,e,q⟩:=h
 have hl:=line63
 have hs:sizeLine=16777216:=sizeLine_eq
 cases x with
 | non =>
  cases rx
  have e':k=false:=e
  subst e'
  exact truthy_none ⟨H,I,q⟩
 | bl b =>
  cases rx
  have e':k=b:=e
  subst e'
  exact wpAny_truthy_bool ⟨H,I,q⟩
 | int i =>
  obtain ⟨t,rfl⟩:=rx
  have e':k=(i != 0):=e
  subst e'
  exact PySem.P.truthy_int ⟨H,I,q⟩
 | str y =>
  obtain ⟨t,rfl⟩:=rx
  obtain ⟨hy,e'⟩:y.length<=sizeLine/\k=((y.length:Int) != 0):=e
  subst e'
  exact PySem.P.truthy_str (by omega) ⟨H,I.tok _,q⟩
 | byt y =>
  obtain ⟨t,rfl⟩:=rx
  obtain ⟨hy,e'⟩:y.size<=sizeLine/\k=((y.size:Int) != 0):=e
  subst e'
  exact PySem.W.truthy_bytes (by omega) ⟨H,I.tok _,q⟩
 | ref p =>
  cases rx
  have e':(∃ xs,SqL X.K H p xs/\k=!xs.isEmpty)\/(∃ xs,SqT X.K H p xs/\k=!xs.isEmpty)\/∃ kvs,H p=some (.dK kvs)/\k=!kvs.isEmpty:=e
  rcases e' with ⟨xs,hx,e'⟩ | ⟨xs,hx,e'⟩ | ⟨kvs,hx,e'⟩
  ·subst e'
   obtain ⟨its,r,pl,hz⟩:=I.list hx
   have hlen:=r.length
   exact wpAny_truthy_list pl.isList (by simp only [List.size_toArray]; omega) ⟨H,I.tok _,by rw [isEmpty_of r]; exact q⟩
  ·subst e'
   obtain ⟨its,r,pl,hz⟩:=I.tuple hx
   have hlen:=r.length
   exact truthy_tuple pl (by simp only [List.size_toArray]; omega) ⟨H,I.tok _,by rw [isEmpty_of r]; exact q⟩
  ·subst e'
   obtain ⟨hz,hS,vs,r,m⟩:kvs.length<=sizeLine/\(p == sysModules)=false/\∃ vs,KV kvs vs/\s.heap.DictOf (mixKind X.prog X.w) p vs:=I.hok p _ hx
   have hlen:kvs.length=vs.length:=Paired.length r
   exact wpAny_truthy_dict hS m (by omega) ⟨H,I.tok _,by rw [isEmpty_kv r]; exact q⟩
 | _=>exact (show False from e).elim
theorem pt_truth (ha:PE X a ta) (he:∀ whole,isTrue a X.env whole=(do let v <- whole; standAt a.pos; holding [v] (truthy v))) :
  PT X a (fun σ H Q=>ta σ H fun x H'=>∃ k,TruV X.K x H' k/\Q k H'):=by
 intro pins s σ H Q I h
 exact isTrue_plain (thn (ha pins s σ H _ I h) (by rintro v s1 ⟨x,H1,I1,r1,q1⟩; exact tru_ok pins s1 σ H1 x v Q I1 r1 q1)) (he _)
theorem op_add_str:OpR X (binaryOp .Add) (fun x y H Q=>∃ i j,x=.str i/\y=.str j/\i.length + j.length<=sizeLine/\Q (.str (i++j)) H):=by
 intro pins s σ H x y v u Q I rx ry h
 obtain ⟨i,j,rfl,rfl,hz,q⟩:=h
 obtain ⟨t,rfl⟩:=rx
 obtain ⟨t',rfl⟩:=ry
 exact add_str (fun t' tk=>⟨.str (i++j),H,I.tok _,⟨_,rfl⟩,q⟩) hz
theorem vals1 {x:V} {us:List Value} (r:Vals [x] us):∃ u,us=[u]/\RelV x u:=by
 cases r with
 | cons r1 r2=>cases r2; exact ⟨_,rfl,r1⟩
theorem vals2 {x y:V} {us:List Value} (r:Vals [x,y] us):∃ u w',us=[u,w']/\RelV x u/\RelV y w':=by
 cases r with
 | cons r1 r2 =>
  cases r2 with
  | cons r3 r4=>cases r4; exact ⟨_,_,rfl,r1,r3⟩
theorem call_abs:CallR X (.builtin "abs") (fun xs H Q=>∃ i,xs=[.int i]/\Q (.int (if i < 0 then -i else i)) H):=by
 intro pins s σ H xs us Q I r h
 obtain ⟨i,rfl,q⟩:=h
 obtain ⟨u,rfl,t,rfl⟩:=vals1 r
 exact call_abs_int fun u tk=>⟨.int (if i < 0 then -i else i),H,I.tok _,⟨_,rfl⟩,q⟩
theorem call_max2 (hc:X.calm=true):CallR X (.builtin "max") (fun xs H Q=>∃ i j,xs=[.int i,.int j]/\Q (.int (if j > i then j else i)) H):=by
 intro pins s σ H xs us Q I r h
 obtain ⟨i,j,rfl,q⟩:=h
 obtain ⟨u,w',rfl,⟨t,rfl⟩,⟨t',rfl⟩⟩:=vals2 r
 refine max_two_ints (I.ok.hd hc) fun h' tk k=>⟨_,H,I.kept k,?_,q⟩
 by_cases hj:j > i
 ·rw [if_pos hj,if_pos hj]; exact ⟨_,rfl⟩
 ·rw [if_neg hj,if_neg hj]; exact ⟨_,rfl⟩
theorem call_min2 (hc:X.calm=true):CallR X (.builtin "min") (fun xs H Q=>∃ i j,xs=[.int i,.int j]/\Q (.int (if j < i then j else i)) H):=by
 intro pins s σ H xs us Q I r h
 obtain ⟨i,j,rfl,q⟩:=h
 obtain ⟨u,w',rfl,⟨t,rfl⟩,⟨t',rfl⟩⟩:=vals2 r
 refine min_two_ints (I.ok.hd hc) fun h' tk k=>⟨_,H,I.kept k,?_,q⟩
 by_cases hj:j < i
 ·rw [if_pos hj,if_pos hj]; exact ⟨_,rfl⟩
 ·rw [if_neg hj,if_neg hj]; exact ⟨_,rfl⟩
theorem call_int1:CallR X (.type "int") (fun xs H Q=>(∃ i,xs=[.int i]/\Q (.int i) H)\/∃ k,xs=[.bl k]/\Q (.int (if k then 1 else 0)) H):=by
 intro pins s σ H xs us Q I r h
 rcases h with ⟨i,rfl,q⟩ | ⟨k,rfl,q⟩
 ·obtain ⟨u,rfl,t,rfl⟩:=vals1 r
  exact call_int_int ⟨.int i,H,I,⟨_,rfl⟩,q⟩
 ·obtain ⟨u,rfl,r1⟩:=vals1 r
  cases r1
  exact call_int_bool ⟨.int (if k then 1 else 0),H,I.tok _,⟨_,rfl⟩,q⟩
theorem call_str_int:CallR X (.type "str") (fun xs H Q=>∃ i,xs=[.int i]/\i.natAbs.log2 < 1920/\Q (.str (toString i)) H):=by
 intro pins s σ H xs us Q I r h
 obtain ⟨i,rfl,hz,q⟩:=h
 obtain ⟨u,rfl,t,rfl⟩:=vals1 r
 exact PySem.P.str_of_int hz ⟨.str _,H,I.tok _,⟨_,rfl⟩,q⟩
end
end L2
namespace L2
open PySem PySem.Spec PyProof.Rows
section
variable {prog:Program} {w:World} {A:Around} {E:Value->Shared->Prop} {s:Shared} {K:PySem.W.Frag} {x dx C f:Addr} {mA:Str->Option Value} {name:Str} {v:Value}
end
section
variable {P:Program} {w:World} {H H':Hp} {h h':Heap} {a C dx:Addr} {fs fs':List (Str×V)}
end
structure Meth (K:PySem.W.Frag) (C:Addr) (m:Str) (f:Addr):Prop where
 at_:PySem.W.findIn K (.ref C) m=some (some (.ref f))
 fn:PySem.W.isFn K (.ref f)=true
 kp:PySem.W.keepIn K (.ref f)=true
section
variable {X:Cx} {pins:List (Addr×Obj)} {σ:St} {H:Hp} {s:Shared} {a C dx:Addr} {fs:List (Str×V)} {f:Str} {v:V} {A:Around} {E:Value->Shared->Prop}
end
section
variable {X:Cx} {o e value:Expr} {f:Str} {pos pos' tpos:Pos} {ta tv:TE}
end
section
variable {X:Cx} {pins:List (Addr×Obj)} {σ:St} {H:Hp} {s:Shared} {A:Around} {E:Value->Shared->Prop} {Q:Value->Shared->Prop} {c:Value} {b:Bool}
end
end L2
namespace L2
open PySem PySem.Spec PyProof.Rows
structure Room (k:Nat) (A:Around):Prop where
 hd:A.handled=none
 dp:A.depth + 3 * k + 5 < recursionLimit
 un:A.units + 16 * k + 200 < cLine
theorem Room.mono {j k:Nat} {A:Around} (r:Room k A) (h:j<=k):Room j A:=⟨r.hd,by have:=r.dp; omega,by have:=r.un; omega⟩
theorem Room.deeper {k:Nat} {A:Around} (r:Room (k + 1) A) (env:Env):Room k (A.deeper env) :=
 ⟨r.hd,by have:=r.dp; show A.depth + 1 + 3 * k + 5 < _; omega,by have:=r.un; show A.units + 3 + 16 * k + 200 < _; omega⟩
theorem make_depth {A:Around} {C:Addr} {us:List Value} {kw:List (Str×Value)}:(A.under (.builtin "type.__call__" ⟨.ref C :: us,kw⟩)).depth=A.depth + 1:=by
 first | rfl | simp [Around.under,Code.weight,Code.isCreation,Code.isGuard,Code.isCaller,Code.frames,Code.isFrame,guardIds]
theorem Room.depth {k:Nat} {A:Around} (r:Room k A):A.depth < recursionLimit:=by have:=r.dp; omega
noncomputable def tNil:TA:=fun _ H Q=>Q [] H
noncomputable def tCons (ta:TE) (tr:TA):TA:=fun σ H Q=>ta σ H fun x H1=>tr σ H1 fun xs H2=>Q (x :: xs) H2
section
variable {X:Cx} {e:Expr} {es:List Expr} {te:TE} {t:TA} {pos:Pos}
theorem pa_nil:PA X [] tNil:=fun _ _ _ _ H Q I h=>Calls.spliced_nil ⟨[],H,I,.nil,h⟩
theorem pa_cons (ha:PE X e te) (hr:PA X es t) (hs:starEach (e :: es) X.env=(false,eval e X.env) :: starEach es X.env:=by rfl):PA X (e :: es) (tCons te t):=by
 intro pos pins s σ H Q I h
 rw [hs]
 show wpAny _ _ (spliced ((false,eval e X.env) :: backTo pos (starEach es X.env))) _ _ s
 refine Calls.spliced_cons (thn (ha pins s σ H _ I h) fun u s1 hq2=>?_)
 obtain ⟨x,H1,I1,r1,q1⟩:=hq2
 exact thn (hr pos pins s1 σ H1 _ I1 q1) (by rintro us s2 ⟨xs,H2,I2,r2,q2⟩; exact ⟨x :: xs,H2,I2,.cons r1 r2,q2⟩)
noncomputable def tTup (t:TA):TE:=fun σ H Q=>t σ H fun xs H1=>xs.length<=sizeLine/\∀ p,H1 p=none->Q (.ref p) (upd H1 p (.tup xs))
noncomputable def tLst (t:TA):TE:=fun σ H Q=>t σ H fun xs H1=>xs.length<=sizeLine/\∀ p,H1 p=none->Q (.ref p) (upd H1 p (.lst xs))
theorem pe_tup {x1} (h:PA X es t):PE X (.Tuple es x1 pos) (tTup t):=by
 intro pins s σ H Q I hq
 refine wpAny_Tuple_spliced (thn (h pos pins s σ H _ I hq) fun us s1 ⟨xs,H1,I1,r,z,q⟩=>⟨by rw [<- r.length]; exact z,?_⟩)
 have hf:H1 s1.heap.objs.size=none:=I1.hok.fresh (Nat.le_refl _)
 refine ⟨.ref s1.heap.objs.size,upd H1 s1.heap.objs.size (.tup xs),I1.laid (t':=s1.toks) (fun b u e=>Heap.get?_push_of_some _ e) (Nat.le_refl _) ?_,rfl,q _ hf⟩
 exact ⟨z,us,r,⟨_,Heap.get?_push_size _ rfl,rfl,_,rfl⟩⟩
theorem pe_lst (h:PA X es t):PE X (.List es pos) (tLst t):=by
 intro pins s σ H Q I hq
 refine wpAny_List_spliced (thn (h pos pins s σ H _ I hq) fun us s1 ⟨xs,H1,I1,r,z,q⟩=>⟨by rw [<- r.length]; exact z,?_⟩)
 have hf:H1 s1.heap.objs.size=none:=I1.hok.fresh (Nat.le_refl _)
 refine ⟨.ref s1.heap.objs.size,upd H1 s1.heap.objs.size (.lst xs),I1.laid (t':=s1.toks) (fun b u e=>Heap.get?_push_of_some _ e) (Nat.le_refl _) ?_,rfl,q _ hf⟩
 exact ⟨z,us,0,r,Heap.get?_push_size _ rfl⟩
end
noncomputable abbrev Sp:=List V->Hp->VK->XK->Prop
noncomputable abbrev CXT:=List Env->Hp->Shared->XK->Value->Shared->Prop
structure Env0 (P:Program) (w:World) (K:PySem.W.Frag) (mg:Str->Option Value) (base:Heap) (A:Around) (outer:List Env) (s:Shared) (H:Hp):Prop where
 frames:A.frames=some outer
 mod:Mod K mg base
 bs:∀ b o,base.get? b=some o->s.heap.get? b=some o/\H b=none
 bsz:base.objs.size<=s.heap.objs.size
 funs:s.heap.FunFrames base outer
 frf:∀ b∈frs outer,H b=none
 hok:HOk P w H s.heap
 bare:AllBare s.gens
noncomputable def CE (outer:List Env) (P:Program) (w:World) (H:Hp) (s:Shared) (Q:VK) (u:Value) (s':Shared):Prop :=
 ∃ v H',s'.os=s.os/\AllBare s'.gens/\Un (frs outer) [] H H' s.heap s'.heap/\HOk P w H' s'.heap/\RelV v u/\Q v H'
noncomputable def CR (CX:CXT) (outer:List Env) (P:Program) (w:World) (H:Hp) (s:Shared) (Q:VK) (E:XK) (r:Result) (s':Shared):Prop :=
 match r with
 | .ok (.ret u)=>CE outer P w H s Q u s'
 | .ok _=>False
 | .error e=>CX outer H s E e s'
structure FnOk (P:Program) (w:World) (K:PySem.W.Frag) (mg:Str->Option Value) (base:Heap) (CX:CXT) (k:Nat) (f:Addr) (fd:FuncData) (ps:List Str) (sp:Sp):Prop where
 len:∀ vs H Q E,sp vs H Q E->vs.length=ps.length
 run:∀ (A:Around) (outer:List Env) (s:Shared) (H:Hp) (args:Args) (us:List Value) (vs:List V) (Q:VK) (E:XK),Room k A->Env0 P w K mg base A outer s H->BindsTo s fd args (ps.zip us)->Vals vs us->sp vs H Q E ->
  codeAny (model P w) A (.call (.ref f) args) (CR CX outer P w H s Q E) s
theorem FnOk.mono {P:Program} {w:World} {K:PySem.W.Frag} {mg:Str->Option Value} {base:Heap} {CX:CXT} {j k:Nat} {f:Addr} {fd:FuncData} {ps:List Str} {sp:Sp} (F:FnOk P w K mg base CX j f fd ps sp) (h:j<=k) :
  FnOk P w K mg base CX k f fd ps sp:=⟨F.len,fun A outer s H args us vs Q E hr=>F.run A outer s H args us vs Q E (hr.mono h)⟩
theorem Env0.make {P:Program} {w:World} {K:PySem.W.Frag} {mg:Str->Option Value} {base:Heap} {A:Around} {outer:List Env} {s:Shared} {H:Hp} (e:Env0 P w K mg base A outer s H) (C:Addr) (us:List Value) (kw:List (Str×Value)) :
  Env0 P w K mg base (A.under (.builtin "type.__call__" ⟨.ref C :: us,kw⟩)) outer s H:=⟨by first | exact e.frames | (simpa [Around.under,Code.envs,Code.isFrame,pushEnvs] using e.frames),e.mod,e.bs,e.bsz,e.funs,e.frf,e.hok,e.bare⟩
section
variable {X:Cx} {pins:List (Addr×Obj)} {σ:St} {H:Hp} {s s':Shared}
theorem Inv.env0 (I:Inv X pins σ H s):Env0 X.prog X.w X.K X.mg X.base X.A X.stack s H :=
 ⟨I.ok.frames,I.ok.mod,I.bs,Nat.le_trans I.ok.bsz I.sz,I.stack,I.stkFree,I.hok,I.bare⟩
theorem Inv.after {Q:VK} {u:Value} (I:Inv X pins σ H s) (h:CE X.stack X.prog X.w H s Q u s'):EP X pins σ Q u s':=by
 obtain ⟨v,H',os,bare,un,hok,r,q⟩:=h
 obtain ⟨hh,g,d,t,os'⟩:=s'
 obtain rfl:os'=s.os:=os
 exact ⟨v,H',I.call (h':=hh) (g':=g) (d':=d) (t':=t) (ch:=[]) un hok bare (fun b z=>absurd z (by simp)),r,q⟩
end
noncomputable def Binds (K:PySem.W.Frag) (fd:FuncData) (ps:List Str) (ds:List Value):Prop :=
 ∀ (s:Shared) (us:List Value),K.In s.heap->(us++ds).length=ps.length->BindsTo s fd ⟨us,[]⟩ (ps.zip (us++ds))
theorem Binds.all {K:PySem.W.Frag} {fd:FuncData} {ps:List Str} (h:∀ us:List Value,us.length=ps.length->bindArgs fd ⟨us,[]⟩=pure (ps.zip us)):Binds K fd ps []:=fun s us _ hl=>by
 rw [List.append_nil] at hl ⊢
 exact .of_eq (h us hl)
section
variable {X:Cx} {CX:CXT} {k:Nat} {f C:Addr} {fd:FuncData} {ps:List Str} {sp:Sp} {dvs:List V} {ds:List Value} {E:XK} {x m:Str} {p pos apos:Pos} {e o:Expr} {es:List Expr} {ta:TE} {t:TA}
structure Mk (K:PySem.W.Frag) (C f:Addr):Prop where
 makes:PySem.W.makesIn K C=true
 init:PySem.W.findIn K (.ref C) "__init__"=some (some (.ref f))
 fn:PySem.W.isFn K (.ref f)=true
 kp:PySem.W.keepIn K (.ref C)=true
end
section
variable {X:Cx} {CX:CXT} {k:Nat} {f C:Addr} {fd:FuncData} {ps ks:List Str} {sp:Sp} {E:XK} {x m:Str} {p pos apos kpos:Pos} {e o:Expr} {es:List Expr} {kws:List Keyword} {te ta:TE} {t tk:TA} {nm:Option Str}
variable {g:List Value->List Value->List Value} {gV:List V->List V->List V}
end
structure FnScope (N P:List Str) (sc:Scope):Prop where
 kind:sc.kind=.function
 co:sc.isCoroutine=false
 gen:sc.isGenerator=false
 nd:N.Nodup
 pre:N.take P.length=P
 par:∀ x∈P,sc.names.lookup x=some .local\/sc.names.lookup x=some .cell
 nofree:∀ y∈sc.names,y.2≠.free
theorem bindL_out {kindOf:Str->Option NameKind} {x:Str}:∀ {binds:List (Str×Value)} {m:Str->Option Value},(∀ v,(x,v) ∉ binds)->bindL kindOf binds m x=m x
 | [],_,_=>rfl
 | (n,v) :: r,m,h=>by
  unfold bindL
  rw [bindL_out fun w hw=>h w (List.mem_cons_of_mem _ hw)]
  split
  ·have:x≠n:=by rintro rfl; exact h v List.mem_cons_self
   simp [this]
  ·rfl
theorem bindC_out {kindOf:Str->Option NameKind} {x:Str}:∀ {binds:List (Str×Value)} {m:Str->Option Value},(∀ v,(x,v) ∉ binds)->bindC kindOf binds m x=m x
 | [],_,_=>rfl
 | (n,v) :: r,m,h=>by
  unfold bindC
  rw [bindC_out fun w hw=>h w (List.mem_cons_of_mem _ hw)]
  split
  ·rfl
  ·have:x≠n:=by rintro rfl; exact h v List.mem_cons_self
   simp [this]
theorem bindL_get {kindOf:Str->Option NameKind} {x:Str} {v:Value}:∀ {P:List Str} {vs:List Value} {i:Nat} {m:Str->Option Value},P.Nodup->P[i]?=some x->vs[i]?=some v->kindOf x=some .local ->
  bindL kindOf (P.zip vs) m x=some v
 | [],_,_,_,_,h,_,_=>by simp at h
 | _ :: _,[],_,_,_,_,h,_=>by simp at h
 | p :: P,w :: vs,0,m,nd,h1,h2,hk=>by
  simp at h1 h2; subst h1; subst h2
  show bindL kindOf ((p,w) :: P.zip vs) m p=_
  unfold bindL
  rw [bindL_out fun v hv=>(List.nodup_cons.mp nd).1 (List.of_mem_zip hv).1,if_pos hk]
  simp
 | p :: P,w :: vs,i + 1,m,nd,h1,h2,hk=>by
  show bindL kindOf ((p,w) :: P.zip vs) m x=_
  unfold bindL
  exact bindL_get (i:=i) (List.nodup_cons.mp nd).2 (by simpa using h1) (by simpa using h2) hk
theorem bindC_get {kindOf:Str->Option NameKind} {x:Str} {v:Value}:∀ {P:List Str} {vs:List Value} {i:Nat} {m:Str->Option Value},P.Nodup->P[i]?=some x->vs[i]?=some v->kindOf x≠some .local ->
  bindC kindOf (P.zip vs) m x=some v
 | [],_,_,_,_,h,_,_=>by simp at h
 | _ :: _,[],_,_,_,_,h,_=>by simp at h
 | p :: P,w :: vs,0,m,nd,h1,h2,hk=>by
  simp at h1 h2; subst h1; subst h2
  show bindC kindOf ((p,w) :: P.zip vs) m p=_
  unfold bindC
  rw [bindC_out fun v hv=>(List.nodup_cons.mp nd).1 (List.of_mem_zip hv).1,if_neg hk]
  simp
 | p :: P,w :: vs,i + 1,m,nd,h1,h2,hk=>by
  show bindC kindOf ((p,w) :: P.zip vs) m x=_
  unfold bindC
  exact bindC_get (i:=i) (List.nodup_cons.mp nd).2 (by simpa using h1) (by simpa using h2) hk
noncomputable def start (N:List Str) (vs:List V):St:=vs.map some++List.replicate (N.length - vs.length) none
noncomputable def cxOf (CX:CXT) (P:Program) (w:World) (K:PySem.W.Frag) (mg:Str->Option Value) (base:Heap) (N:List Str) (qual:Str) (scope:Scope) (f:Addr) (cd:Value) (A:Around) (outer:List Env) (s:Shared) (H:Hp) (E:XK):Cx where
 prog:=P
 w:=w
 K:=K
 mg:=mg
 base:=base
 A:=A.deeper (envOfC qual scope s.heap.objs.size f cd)
 N:=N
 s₀:=s
 H₀:=H
 env:=envOfC qual scope s.heap.objs.size f cd
 outer:=outer
 stack:=envOfC qual scope s.heap.objs.size f cd :: outer
 ex:=[]
 calm:=true
 fn:=fun _=>true
 pn:=[]
 xe:=fun e s'=>wpAny (model P w) (A.deeper (envOfC qual scope s.heap.objs.size f cd)) (leaving (envOfC qual scope s.heap.objs.size f cd) e) (fun _ s''=>CX outer H s E e s'') (fun e' s''=>CX outer H s E e' s'') s'
theorem cell_has {sc:Scope} {n:Nat} {x:Str} (h:sc.names.lookup x=some .cell):∃ c,(cellsFrom n sc.names []).lookup x=some c:=by
 have q:=PySem.W.cellsFrom_some sc.names n [] (.inl h)
 exact Option.isSome_iff_exists.mp q
theorem inv_start {CX:CXT} {P:Program} {w:World} {K:PySem.W.Frag} {mg:Str->Option Value} {base:Heap} {N ps:List Str} {qual:Str} {scope:Scope} {f:Addr} {cd:Value} {A:Around} {outer:List Env} {s s1:Shared} {H:Hp} {E:XK} {us:List Value} {vs:List V}
  (S:FnScope N ps scope) (hd:A.handled=none) (e0:Env0 P w K mg base A outer s H) (hl:vs.length=ps.length) (r:Vals vs us)
  (x:InCallC s s.heap.objs.size (bindL (envOfC qual scope s.heap.objs.size f cd).kindOf (ps.zip us) fun _=>none) (cellsFrom (s.heap.objs.size + 1) scope.names []) (bindC (envOfC qual scope s.heap.objs.size f cd).kindOf (ps.zip us) fun _=>none) s1) :
  Inv (cxOf CX P w K mg base N qual scope f cd A outer s H E) [] (start N vs) H s1:=by
 have hpl:ps.length<=N.length:=by have:=congrArg List.length S.pre; rw [List.length_take] at this; omega
 obtain ⟨h1,tk,rfl,hk⟩:=x.done
 have noA:∀ b:Addr,b ∉ (cxOf CX P w K mg base N qual scope f cd A outer s H E).ex:=fun b z=>absurd (show b∈([]:List Addr) from z) (by simp)
 refine ⟨⟨e0.mod,S.kind,rfl,rfl,Nat.le_refl _,fun y z c h1 h2=>?_,fun y hy=>?_,fun y c _ h=>?_,fun _=>hd,Around.frames_deeper e0.frames,.inr ⟨rfl,rfl⟩,fun b z=>absurd z (noA b),e0.bs,e0.bsz,fun b _ _=>noA b,fun b z=>absurd z (noA b),e0.funs,e0.frf⟩,
  rfl,e0.bare,Un.kept hk,⟨_,x.toInCall.ns,fun i y v h1 h2 h3=>?_⟩,fun y c h=>⟨_,x.cell y c h⟩,e0.hok.fresh (Nat.le_refl _),fun y c h=>?_,fun p hp=>absurd (show p∈([]:List (Addr×Obj)) from hp) (by simp),e0.hok.kept hk,?_⟩
 ·exact name_of_addr x.apart (PySem.mem_of_lookup h1) (PySem.mem_of_lookup h2)
 ·have hy:scope.names.lookup y=some .cell\/scope.names.lookup y=some .free:=hy
  rcases hy with hy | hy
  ·exact cell_has hy
  ·exact absurd rfl (S.nofree _ (PySem.mem_of_lookup hy))
 ·exact Nat.le_of_lt (x.above y c (PySem.mem_of_lookup h))
 ·have hi:i < vs.length:=by
   unfold start at h2
   by_cases hi:i < vs.length
   ·exact hi
   ·rw [List.getElem?_append_right (by simpa using hi)] at h2
    rw [List.getElem?_replicate] at h2
    split at h2<;>cases h2
  have ha:vs[i]?=some v:=by
   unfold start at h2
   rw [List.getElem?_append_left (by simpa using hi),List.getElem?_map] at h2
   cases e:vs[i]? with
   | none=>rw [e] at h2; cases h2
   | some a=>rw [e] at h2; cases h2; rfl
  obtain ⟨u,hu,rv⟩:=r.get ha
  have hp:ps[i]?=some y:=by
   rw [<- S.pre,List.getElem?_take_of_lt (by omega)]; exact h1
  have ndP:ps.Nodup:=by rw [<- S.pre]; exact S.nd.sublist (List.take_sublist _ _)
  refine ⟨u,rv,?_⟩
  rcases S.par y (List.mem_of_getElem? hp) with k | k
  ·exact .inl ⟨k,bindL_get ndP hp hu k⟩
  ·obtain ⟨c,e⟩:=cell_has (n:=s.heap.objs.size + 1) k
   refine .inr ⟨.inl k,c,e,?_⟩
   have q:=x.cell y c e
   rw [bindC_get ndP hp hu (by show scope.names.lookup y≠_; rw [k]; decide)] at q
   exact q
 ·exact e0.hok.fresh (Nat.le_of_lt (x.above y c (PySem.mem_of_lookup h)))
 ·unfold start
  show _=N.length
  rw [List.length_append,List.length_map,List.length_replicate]
  omega
theorem fn_of {CX:CXT} {P:Program} {w:World} {K:PySem.W.Frag} {mg:Str->Option Value} {base:Heap} {k:Nat} {f:Addr} {name qual:Str} {params:Arguments} {body:List Stmt} {scope:Scope} {dV kV doc pm cdv ct oc:Value} {an od:Option Addr}
  {osl:Array (Option Value)} {N ps:List Str} {sp:Sp} (lk:K.lookup f=some ⟨oc,od,.func (PySem.W.fnOf name qual params body scope dV kV doc pm an cdv ct),osl⟩) (hcd:PySem.W.codeIn K cdv qual=true) (S:FnScope N ps scope)
  (len:∀ vs H Q E,sp vs H Q E->vs.length=ps.length)
  (hbody:∀ (A:Around) (outer:List Env) (s:Shared) (H:Hp) (vs:List V) (Q:VK) (E:XK),Room k (A.deeper (envOfC qual scope s.heap.objs.size f cdv))->sp vs H Q E ->
   ∃ t,PSs (cxOf CX P w K mg base N qual scope f cdv A outer s H E) body t/\t { nx:=fun _ H'=>Q .non H',rt:=Q } (start N vs) H) :
  FnOk P w K mg base CX (k + 1) f (PySem.W.fnOf name qual params body scope dV kV doc pm an cdv ct) ps sp:=by
 refine ⟨len,fun A outer s H args us vs Q E hr e0 hb r hsp=>?_⟩
 have hl:=len _ _ _ _ hsp
 have KX:K.In s.heap:=e0.mod.kin.keeps fun b o e=>(e0.bs b o e).1
 have lim:s.heap.NoLimit:=e0.mod.nolimit.keeps fun b o e=>(e0.bs b o e).1
 have hkind:∀ y∈ps.zip us,scope.names.lookup y.1=some .local\/(scope.names.lookup y.1=some .cell/\((cellsFrom (s.heap.objs.size + 1) scope.names []).lookup y.1).isSome=true):=fun ⟨n,v⟩ hy=>by
  rcases S.par n (List.of_mem_zip hy).1 with q | q
  ·exact .inl q
  ·exact .inr ⟨q,PySem.W.cellsFrom_some _ _ _ (.inl q)⟩
 refine codeAny_call_function hr.depth (KX _ _ lk) rfl S.co S.gen rfl (PySem.W.codeRec_of KX hcd) (hb _ _ _ _ ?_)
 refine wpAny_newFunctionEnv_cells S.kind hkind fun env he s1 x=>?_
 subst he
 refine ⟨lim.keeps x.toInCall.keep,codeAny_func ?_⟩
 obtain ⟨t,ht,hq⟩:=hbody A outer s H vs Q E (hr.deeper _) hsp
 have I:Inv (cxOf CX P w K mg base N qual scope f cdv A outer s H E) [] (start N vs) H s1:=inv_start S hr.hd e0 hl r x
 refine wpAny_mono (ht [] s1 (start N vs) H _ I hq) (fun fl s' hs=>?_) fun e s' hs=>hs
 have fin:∀ {σ':St} {H':Hp} {v:V} {u:Value},Inv (cxOf CX P w K mg base N qual scope f cdv A outer s H E) [] σ' H' s'->RelV v u->Q v H'->CE outer P w H s Q u s' :=
  fun {σ' H' v u} J rv q=>⟨v,H',J.os,J.bare,J.base,J.hok,rv,q⟩
 cases fl with
 | ret u =>
  obtain ⟨v,σ',H',J,rv,q⟩:=hs
  exact fin J rv q
 | next =>
  obtain ⟨σ',H',J,q⟩:=hs
  exact fin (v:=V.non) (u:=Value.none) J rfl q
 | brk =>
  obtain ⟨_,_,_,q⟩:=hs
  exact False.elim q
 | cont =>
  obtain ⟨_,_,_,q⟩:=hs
  exact False.elim q
end L2
namespace L2
open PySem PySem.Spec PyProof.Rows
section
variable {X:Cx} {x:Str} {p pos:Pos} {e:Expr} {es:List Expr} {t:TA} {id T:String} {r:List V->Hp->VK->Prop}
noncomputable def tCB (r:List V->Hp->VK->Prop) (t:TA):TE:=fun σ H Q=>t σ H fun vs H1=>r vs H1 Q
theorem pe_callB (hc:CallR X (.builtin id) r) (hg:Gl X x) (hm:X.mg x=none) (hv:bootBuiltins x=some (.builtin id)) (ha:PA X (e :: es) t) (hn:x≠"__name__":=by decide) (hdb:(x == ("__debug__":Str))=false:=by decide)
  (he:starEach (e :: es) X.env=(false,eval e X.env) :: starEach es X.env:=by rfl) (hpl:(backTo pos (starEach es X.env)).any (·.1)=false:=by rfl):PE X (.Call (.Name x p) (e :: es) [] pos) (tCB r t):=by
 intro pins s σ H Q I h
 refine wpAny_Call_Name_kw (ld_blt I hg hm hv ?_ hn hdb)
 exact PyProof.Rows.callWith_builtin1 (thn (ha pos pins s σ H _ I h) (by rintro us s1 ⟨vs,H1,I1,r1,q1⟩; exact hc pins s1 σ H1 vs us Q I1 r1 q1)) he hpl
theorem pe_callTy (hc:CallR X (.type T) r) (hg:Gl X x) (hm:X.mg x=none) (hv:bootBuiltins x=some (.type T)) (ha:PA X (e :: es) t) (hn:x≠"__name__":=by decide) (hdb:(x == ("__debug__":Str))=false:=by decide)
  (he:starEach (e :: es) X.env=(false,eval e X.env) :: starEach es X.env:=by rfl) (hpl:(backTo pos (starEach es X.env)).any (·.1)=false:=by rfl):PE X (.Call (.Name x p) (e :: es) [] pos) (tCB r t):=by
 intro pins s σ H Q I h
 refine wpAny_Call_Name_kw (ld_blt I hg hm hv ?_ hn hdb)
 exact PyProof.Rows.callWith_type1 (thn (ha pos pins s σ H _ I h) (by rintro us s1 ⟨vs,H1,I1,r1,q1⟩; exact hc pins s1 σ H1 vs us Q I1 r1 q1)) he hpl
end
end L2
namespace HT
open PySem PyProof.Rows
section
open PySem.SeqAt
open PySem.AutoSeq1 (wpAny_loadPart')
open PySem.MeetsSeq PySem.MeetsSeq2 PySem.MeetsSeq3
end
section
variable {prog:Program} {w:World} {A:Around} {E:Value->Shared->Prop} {s:Shared}
theorem cat_tup {t b:Addr} {vs ws:List Value} {Q:Value->Shared->Prop} (ht:IsTup s.heap t vs.toArray) (hb:IsTup s.heap b ws.toArray) (hv:vs≠[])
  (h1:ws=[]->Q (.ref t) s) (h2:ws≠[]->Q (.ref s.heap.objs.size) { s with heap:=s.heap.push { cls:=.type "tuple",data:=.seq (vs++ws).toArray } })
  (hsz:vs.length + ws.length<=sizeLine):wpAny (model prog w) A (binaryOp .Add (.ref t) (.ref b)) Q E s:=by
 obtain ⟨⟨cls,dd,data,sl⟩,ho,hc,n,hd⟩:=id ht
 obtain ⟨⟨cls2,dd2,data2,sl2⟩,ho2,hc2,n2,hd2⟩:=id hb
 simp only at hc hd hc2 hd2
 subst hc hd hc2 hd2
 have e:vs.toArray++ws.toArray=(vs++ws).toArray:=by simp
 by_cases hw:ws=[]
 ·exact concat_meets ⟨_,ho,rfl⟩ ⟨_,ho2,rfl⟩ noFill_tuple_add seq_tuple_add PySem.F.slot_tuple_add PySem.F.entry_tuple_add (PySem.F.args_tuple_add_2 _ _)
   (tuple_addW1 t b vs.toArray ws.toArray n n2 dd dd2 sl sl2 (by simpa using hv) (by simp [hw])) ⟨ho,ho2,h1 hw⟩
 ·refine concat_meets ⟨_,ho,rfl⟩ ⟨_,ho2,rfl⟩ noFill_tuple_add seq_tuple_add PySem.F.slot_tuple_add PySem.F.entry_tuple_add (PySem.F.args_tuple_add_2 _ _)
   (tuple_addW2 t b vs.toArray ws.toArray n n2 dd dd2 sl sl2 (by simpa using hv) (by simpa using hw) (by rw [List.size_toArray,List.size_toArray]; exact hsz)) ⟨ho,ho2,?_⟩
  rw [e]
  exact h2 hw
noncomputable def sIx (n d:Nat):Option Int->Nat
 | none=>d
 | some v=>if v < 0 then (v + (n:Int)).toNat else min v.toNat n
theorem sIx_none (n d:Nat):sIx n d none=d:=rfl
theorem sIx_nat (n d k:Nat):sIx n d (some (k:Int))=min k n:=by
 show (if (k:Int) < 0 then ((k:Int) + (n:Int)).toNat else min (k:Int).toNat n)=min k n
 rw [if_neg (by omega),Int.toNat_natCast]
theorem sIx_le (n d:Nat) (hd:d<=n) (o:Option Int):sIx n d o<=n:=by
 cases o with
 | none=>exact hd
 | some v =>
  show (if v < 0 then (v + (n:Int)).toNat else min v.toNat n)<=n
  by_cases hv:v < 0
  ·rw [if_pos hv]; omega
  ·rw [if_neg hv]; exact Nat.min_le_right _ _
theorem clip_eq (v:Int) (n d:Nat):(if v < 0 then max (v + (n:Int)) 0 else min v (n:Int))=((sIx n d (some v):Nat):Int):=by
 show (if v < 0 then max (v + (n:Int)) 0 else min v (n:Int))=(((if v < 0 then (v + (n:Int)).toNat else min v.toNat n):Nat):Int)
 by_cases hv:v < 0
 ·simp only [if_pos hv]; omega
 ·simp only [if_neg hv]; omega
theorem adjust_gen (lo hi:Option Int) (n:Nat):Builtin.Slice.sliceAdjust lo hi 1 (n:Int)=(((sIx n 0 lo:Nat):Int),((sIx n n hi:Nat):Int)):=by
 have h1:¬ ((1:Int) < 0):=by omega
 unfold Builtin.Slice.sliceAdjust
 simp only [h1,if_false]
 refine Prod.ext ?_ ?_
 ·cases lo with
  | none=>rfl
  | some v=>exact clip_eq v n 0
 ·cases hi with
  | none=>rfl
  | some v=>exact clip_eq v n n
theorem places_gen (i j:Nat):Builtin.Slice.slicePlaces (i:Int) (j:Int) 1=j - i:=by
 unfold Builtin.Slice.slicePlaces
 have h1:(1:Int) > 0:=by omega
 simp only [h1,if_true,Int.ediv_one]
 split<;>omega
theorem slicePart_ {v:Value} {o:Option Int} {Q:Option Int->Shared->Prop} (p:IsPart v o) (h:Q o s):wpAny (model prog w) A (Builtin.Slice.slicePartIndex v) Q E s:=by
 cases p with
 | none=>exact slicePart_none h
 | int i t=>exact slicePart_int h
theorem sliceApplied_gen {sl:Addr} {vl vu:Value} {lo hi:Option Int} {n:Nat} {Q:Int×Int×Nat->Shared->Prop} (hs:s.heap.IsSliceOf sl vl vu .none) (pl:IsPart vl lo) (pu:IsPart vu hi)
  (h:Q (((sIx n 0 lo:Nat):Int),1,sIx n n hi - sIx n 0 lo) s):wpAny (model prog w) A (Builtin.Slice.sliceApplied (.ref sl) (pure (n:Int))) Q E s:=by
 obtain ⟨os,hos,hcs,hds⟩:=id hs
 unfold Builtin.Slice.sliceApplied Builtin.Slice.sliceFields
 refine wpAny_bind (wpAny_bind (wpAny_field hos hds (x:=vl) rfl (wpAny_bind (wpAny_field hos hds (x:=vu) rfl (wpAny_bind (wpAny_field hos hds (x:=.none) rfl (wpAny_pure ?_)))))))
 refine wpAny_bind (slicePart_none ?_)
 show wpAny _ _ (if ((1:Int) == 0)=true then _ else _) _ _ s
 rw [if_neg (by decide)]
 refine wpAny_bind (slicePart_ pl (wpAny_bind (slicePart_ pu (wpAny_bind (wpAny_pure ?_)))))
 show wpAny _ _ (match Builtin.Slice.sliceAdjust lo hi 1 (n:Int) with | (lo,hi)=>pure (lo,(1:Int),Builtin.Slice.slicePlaces lo hi 1)) _ _ s
 rw [adjust_gen lo hi n]
 show wpAny _ _ (pure (((sIx n 0 lo:Nat):Int),(1:Int),Builtin.Slice.slicePlaces ((sIx n 0 lo:Nat):Int) ((sIx n n hi:Nat):Int) 1)) _ _ s
 rw [places_gen]
 exact wpAny_pure h
theorem pick_gen (xs:Array Value) (i k:Nat):((List.range k).filterMap fun (m:Nat)=>xs[((i:Int) + (m:Int) * 1).toNat]?).toArray=((xs.toList.drop i).take k).toArray:=by
 have e:(fun (m:Nat)=>xs[((i:Int) + (m:Int) * 1).toNat]?)=fun m=>xs[i + m]?:=by
  funext m
  have:((i:Int) + (m:Int) * 1).toNat=i + m:=by omega
  rw [this]
 rw [e]
 have:=pick_run xs i k
 rw [List.filterMap_map] at this
 have e2:((fun x=>xs[x]?) ∘ fun x=>i + x)=fun m=>xs[i + m]?:=rfl
 rw [e2] at this
 rw [this]
theorem getItem_tuple_cut {t sl:Addr} {items:Array Value} {vl vu:Value} {lo hi:Option Int} {Q:Value->Shared->Prop} (ht:IsTup s.heap t items) (hs:s.heap.IsSliceOf sl vl vu .none) (pl:IsPart vl lo) (pu:IsPart vu hi)
  (hw:¬ (sIx items.size 0 lo=0/\sIx items.size items.size hi=items.size))
  (h:Q (.ref s.heap.objs.size) { s with heap:=s.heap.push { cls:=.type "tuple",data:=.seq ((items.toList.drop (sIx items.size 0 lo)).take (sIx items.size items.size hi - sIx items.size 0 lo)).toArray } })
  (hsz:items.size<=sizeLine):wpAny (model prog w) A (getItem (.ref t) (.ref sl)) Q E s:=by
 have htake:sizeOk (.seq ((items.toList.drop (sIx items.size 0 lo)).take (sIx items.size items.size hi - sIx items.size 0 lo)).toArray):=by
  show ((items.toList.drop (sIx items.size 0 lo)).take (sIx items.size items.size hi - sIx items.size 0 lo)).toArray.size<=sizeLine
  rw [List.size_toArray,List.length_take,List.length_drop,Array.length_toList]
  omega
 have hj:sIx items.size items.size hi<=items.size:=sIx_le _ _ (Nat.le_refl _) hi
 obtain ⟨os,hos,hcs,hds⟩:=id hs
 have hTs:s.TypeIs (.ref sl) "slice":=⟨os,hos,hcs⟩
 unfold getItem
 try with_reducible refine wpAny_holding ?_
 first | refine wpAny_bind (wpAny_pure ?_) | skip
 refine wpAny_bind (wpAny_sequenceKey ht.typeIs (by decide) ?_)
 refine wpAny_bind (wpAny_callSpecial?_slot (name:=Str.ofString "__getitem__") ht.typeIs PyProof.Rows.slot_tuple_getitem
  (wpAny_call_entry PyProof.Rows.slot_tuple_getitem ht.typeIs entry_tuple_getitem ?_ (args_tuple_getitem _ _)))
 show wpAny _ _ (Builtin.Tuple.tupleItemsOf (.ref t) >>= _) _ _ s
 refine wpAny_bind (tupleItemsOf_ ht ?_)
 refine wpAny_bind (wpAny_typeOf hTs ?_)
 rw [if_pos (by decide)]
 refine wpAny_bind (sliceApplied_gen hs pl pu ?_)
 have hno:¬ ((((sIx items.size 0 lo:Nat):Int) == 0 && (1:Int) == 1 && (sIx items.size items.size hi - sIx items.size 0 lo) == items.size)=true):=by
  intro q
  rw [Bool.and_eq_true,Bool.and_eq_true] at q
  have q1:((sIx items.size 0 lo:Nat):Int)=0:=eq_of_beq q.1.1
  have q2:sIx items.size items.size hi - sIx items.size 0 lo=items.size:=eq_of_beq q.2
  exact hw ⟨by omega,by omega⟩
 show wpAny _ _ (if (((sIx items.size 0 lo:Nat):Int) == 0 && (1:Int) == 1 && (sIx items.size items.size hi - sIx items.size 0 lo) == items.size)=true then _ else _) _ _ s
 rw [if_neg hno,pick_gen]
 first
  | exact wpAny_bind (m:=Builtin.Tuple.tupleExact _) (wpAny_newObj_type (wpAny_pure ⟨_,rfl,wpAny_pure h⟩) htake)
  | exact wpAny_bind (m:=Builtin.Tuple.tupleExact _) (wpAny_newObj_type (wpAny_bind (wpAny_pure (wpAny_pure ⟨_,rfl,wpAny_pure h⟩))) htake)
  | exact wpAny_bind (wpAny_bind (m:=Builtin.Tuple.tupleExact _) (wpAny_newObj_type (wpAny_pure (wpAny_pure ⟨_,rfl,wpAny_pure h⟩)) htake))
  | exact wpAny_bind (wpAny_bind (m:=Builtin.Tuple.tupleExact _) (wpAny_newObj_type (wpAny_pure ⟨_,rfl,wpAny_pure h⟩) htake))
end
end HT
namespace L2
open PySem PySem.Spec PyProof.Rows
noncomputable abbrev TO:=St->Hp->(Option Int->Hp->Prop)->Prop
noncomputable def PO (X:Cx) (e:Option Expr) (t:TO):Prop :=
 ∀ (pins:List (Addr×Obj)) (s:Shared) (σ:St) (H:Hp) (Q:Option Int->Hp->Prop),Inv X pins σ H s->t σ H Q ->
  wpAny (model X.prog X.w) X.A (evalPart e X.env) (fun u s'=>∃ o H',Inv X pins σ H' s'/\IsPart u o/\Q o H') X.xe s
noncomputable def tNoPart:TO:=fun _ H Q=>Q none H
noncomputable def tPart (t:TE):TO:=fun σ H Q=>t σ H fun x H1=>∃ i,x=.int i/\Q (some i) H1
section
variable {X:Cx} {e:Expr} {te:TE} {lo hi:Option Expr} {tl th:TO} {pos p2:Pos}
theorem po_none:PO X none tNoPart:=by
 intro pins s σ H Q I h
 rw [evalPart_none]
 exact wpAny_pure ⟨none,H,I,.none,h⟩
theorem po_some (h:PE X e te):PO X (some e) (tPart te):=by
 intro pins s σ H Q I hw
 rw [evalPart_some]
 refine thn (h pins s σ H _ I hw) fun u s1 hq2=>?_
 obtain ⟨x,H1,I1,r1,q1⟩:=hq2
 obtain ⟨i,rfl,q⟩:=q1
 obtain ⟨t,rfl⟩:=r1
 exact ⟨some i,H1,I1,.int i t,q⟩
noncomputable def SlR (X:Cx) (r:V->Option Int->Option Int->Hp->VK->Prop):Prop :=
 ∀ (pins:List (Addr×Obj)) (s:Shared) (σ:St) (H:Hp) (x:V) (v vl vu:Value) (lo hi:Option Int) (sl:Addr) (Q:VK),Inv X pins σ H s->RelV x v->s.heap.IsSliceOf sl vl vu .none->IsPart vl lo->IsPart vu hi->r x lo hi H Q ->
  ∃ T id,typeLookup (.type T) "__getitem__"=pure (some (.builtin id))/\s.TypeIs v T/\wpAny (model X.prog X.w) X.A (getItem v (.ref sl)) (EP X pins σ Q) X.xe s
noncomputable def tSl (r:V->Option Int->Option Int->Hp->VK->Prop) (te:TE) (tl th:TO):TE:=fun σ H Q=>te σ H fun x H1=>tl σ H1 fun l H2=>th σ H2 fun u H3=>r x l u H3 Q
theorem pe_slice {r:V->Option Int->Option Int->Hp->VK->Prop} (hr:SlR X r) (he:PE X e te) (hl:PO X lo tl) (hu:PO X hi th):PE X (.Subscript e (.Slice lo hi none p2) pos) (tSl r te tl th):=by
 intro pins s σ H Q I h
 refine Subscript_ (thn (he pins s σ H _ I h) fun v s1 hq2=>?_)
 obtain ⟨x,H1,I1,r1,q1⟩:=hq2
 refine wpAny_Slice (thn (hl pins s1 σ H1 _ I1 q1) fun vl s2 ⟨l,H2,I2,pl,q2⟩=>thn (hu pins s2 σ H2 _ I2 q2) fun vu s3 hq2=>?_)
 obtain ⟨u,H3,I3,pu,q3⟩:=hq2
 rw [evalPart_none]
 refine wpAny_pure ?_
 have I4:Inv X pins σ H3 { s3 with heap:=s3.heap.push { cls:=.type "slice",data:=.fields #[vl,vu,.none] } }:=I3.kept (t':=s3.toks) fun b ob q=>Heap.get?_push_of_some _ q
 obtain ⟨T,id,hT,ht,hg⟩:=hr pins { s3 with heap:=s3.heap.push { cls:=.type "slice",data:=.fields #[vl,vu,.none] } } σ H3 x v vl vu l u s3.heap.objs.size Q I4 r1 (Heap.IsSliceOf.new ..) pl pu q3
 show wpAny (model X.prog X.w) X.A (subscriptTail e (.Slice lo hi none p2) v (.ref s3.heap.objs.size)) (EP X pins σ Q) X.xe { s3 with heap:=s3.heap.push { cls:=.type "slice",data:=.fields #[vl,vu,.none] } }
 exact tail_any (ops:=[.ref s3.heap.objs.size,v]) ht hT hg (by with_unfolding_all rfl)
noncomputable def cutV (xs:List V) (lo hi:Option Int):List V:=(xs.drop (HT.sIx xs.length 0 lo)).take (HT.sIx xs.length xs.length hi - HT.sIx xs.length 0 lo)
theorem cutV_length (xs:List V) (lo hi:Option Int):(cutV xs lo hi).length<=xs.length:=by
 unfold cutV
 rw [List.length_take,List.length_drop]
 omega
noncomputable def rSlT (K:PySem.W.Frag):V->Option Int->Option Int->Hp->VK->Prop:=fun x lo hi H Q=>∃ a xs,x=.ref a/\SqT K H a xs /\
 ¬ (HT.sIx xs.length 0 lo=0/\HT.sIx xs.length xs.length hi=xs.length)/\∀ p,H p=none->Q (.ref p) (upd H p (.tup (cutV xs lo hi)))
theorem sl_tup:SlR X (rSlT X.K):=by
 intro pins s σ H x v vl vu lo hi sl Q I rx hs pl pu h
 obtain ⟨a,xs,rfl,hx,hw,q⟩:=h
 cases rx
 obtain ⟨its,r,ht,hz⟩:=I.tuple hx
 have hlen:its.toArray.size=xs.length:=by rw [List.size_toArray]; exact r.length.symm
 refine ⟨"tuple",_,PyProof.Rows.slot_tuple_getitem.lookup,ht.typeIs,?_⟩
 refine HT.getItem_tuple_cut ht hs pl pu (by rw [hlen]; exact hw) ?_ (by rw [hlen]; exact hz)
 rw [hlen]
 refine ⟨.ref s.heap.objs.size,_,I.laid (t':=s.toks) (o:=.tup (cutV xs lo hi)) (fun b ob q=>Heap.get?_push_of_some _ q) (Nat.le_refl _) ?_,rfl,q _ (I.hok.fresh (Nat.le_refl _))⟩
 exact ⟨Nat.le_trans (cutV_length xs lo hi) hz,_,(r.drop (HT.sIx xs.length 0 lo)).take (HT.sIx xs.length xs.length hi - HT.sIx xs.length 0 lo),IsTup.new _ _⟩
noncomputable def rCatT (K:PySem.W.Frag):R2:=fun x y H Q=>∃ a b xs ys,x=.ref a/\y=.ref b/\SqT K H a xs/\SqT K H b ys/\xs≠[]/\xs.length + ys.length<=sizeLine /\
 (ys=[]->Q (.ref a) H)/\(ys≠[]->∀ p,H p=none->Q (.ref p) (upd H p (.tup (xs++ys))))
theorem Vals.nil_iff {xs:List V} {us:List Value} (r:Vals xs us):us=[] ↔ xs=[]:=by
 cases r with
 | nil=>simp
 | cons _ _=>simp
theorem op_catT:OpR X (binaryOp .Add) (rCatT X.K):=by
 intro pins s σ H x y v u Q I rx ry h
 obtain ⟨a,b,xs,ys,rfl,rfl,ha,hb,hx,hz,q1,q2⟩:=h
 cases rx
 cases ry
 obtain ⟨its,r1,p1,_⟩:=I.tuple ha
 obtain ⟨its2,r2,p2,_⟩:=I.tuple hb
 refine HT.cat_tup p1 p2 (fun z=>hx (r1.nil_iff.mp z)) (fun z=>⟨.ref a,H,I,rfl,q1 (r2.nil_iff.mp z)⟩) (fun z=>?_) (by rw [<- r1.length,<- r2.length]; exact hz)
 refine ⟨.ref s.heap.objs.size,_,I.laid (t':=s.toks) (o:=.tup (xs++ys)) (fun b ob q=>Heap.get?_push_of_some _ q) (Nat.le_refl _) ?_,rfl,q2 (fun w=>z (r2.nil_iff.mpr w)) _ (I.hok.fresh (Nat.le_refl _))⟩
 exact ⟨by rw [List.length_append]; exact hz,_,r1.append r2,IsTup.new _ _⟩
end
end L2
namespace L2
open PySem PySem.Spec PyProof.Rows
noncomputable def ixN (n:Nat) (i:Int):Option Nat:=if 0<=i then (if i < n then some i.toNat else none) else if -(n:Int)<=i then some (i + n).toNat else none
noncomputable def atI {α:Type} (xs:List α) (i:Int):Option α:=(ixN xs.length i).bind fun j=>xs[j]?
theorem ixN_seq {n:Nat} {i:Int} {j:Nat} (h:ixN n i=some j):seqIndex? i n=some j/\j < n/\-(n:Int)<=i/\i < n:=by
 unfold ixN at h
 by_cases h0:0<=i
 ·rw [if_pos h0] at h
  by_cases h1:i < n
  ·rw [if_pos h1] at h
   have e:i.toNat=j:=Option.some.inj h
   exact ⟨by rw [seqIndex_of h0 h1,e],by omega,by omega,h1⟩
  ·rw [if_neg h1] at h; cases h
 ·rw [if_neg h0] at h
  by_cases h1:-(n:Int)<=i
  ·rw [if_pos h1] at h
   have e:(i + n).toNat=j:=Option.some.inj h
   exact ⟨by rw [seqIndex_neg (by omega) h1,e],by omega,h1,by omega⟩
  ·rw [if_neg h1] at h; cases h
theorem atI_get {α:Type} {xs:List α} {i:Int} {v:α} (h:atI xs i=some v):∃ j,seqIndex? i xs.length=some j/\xs[j]?=some v/\j < xs.length/\-(xs.length:Int)<=i/\i < xs.length:=by
 unfold atI at h
 cases e:ixN xs.length i with
 | none=>rw [e] at h; cases h
 | some j =>
  rw [e] at h
  obtain ⟨h1,h2,h3,h4⟩:=ixN_seq e
  exact ⟨j,h1,h,h2,h3,h4⟩
theorem atI_nat {α:Type} {xs:List α} {j:Nat} {v:α} (h:xs[j]?=some v):atI xs (j:Int)=some v:=by
 have hj:j < xs.length:=(List.getElem?_eq_some_iff.mp h).1
 have e:ixN xs.length (j:Int)=some j:=by
  unfold ixN
  rw [if_pos (by omega),if_pos (by omega)]; simp
 unfold atI; rw [e]; exact h
noncomputable def PlainIx (b:Expr):Prop:=∀ o i,subscripted b false o i=operate [o,i] (getItem o i)
noncomputable def IxR (X:Cx) (r:R2):Prop :=
 ∀ (value slice:Expr) (pins:List (Addr×Obj)) (s:Shared) (σ:St) (H:Hp) (x y:V) (v u:Value) (Q:VK),Inv X pins σ H s->RelV x v->RelV y u->r x y H Q ->
  subscripted slice false v u=operate [v,u] (getItem v u)->wpAny (model X.prog X.w) X.A (subscriptTail value slice v u) (EP X pins σ Q) X.xe s
noncomputable def MtR (X:Cx) (id:String) (r:V->List V->Hp->VK->Prop):Prop :=
 ∀ (pins:List (Addr×Obj)) (s:Shared) (σ:St) (H:Hp) (x:V) (xs:List V) (v:Value) (us:List Value) (Q:VK),Inv X pins σ H s->RelV x v->Vals xs us->r x xs H Q ->
  wpAny (model X.prog X.w) X.A (call (.builtin id) (v :: us)) (EP X pins σ Q) X.xe s
section
variable {X:Cx} {a b:Expr} {ta tb:TE} {pos:Pos}
theorem pe_ix {r:R2} (hr:IxR X r) (ha:PE X a ta) (hb:PE X b tb) (hs:PlainIx b):PE X (.Subscript a b pos) (tOp r ta tb):=by
 intro pins s σ H Q I h
 exact Subscript_ (binT ha hb I h fun v u s2 x y H2 I2 rx ry q=>hr a b pins s2 σ H2 x y v u Q I2 rx ry q (hs _ _))
noncomputable def rIxL (K:PySem.W.Frag):R2:=fun x y H Q=>∃ p xs i v,x=.ref p/\y=.int i/\SqL K H p xs/\atI xs i=some v/\Q v H
noncomputable def rIxT (K:PySem.W.Frag):R2:=fun x y H Q=>∃ p xs i v,x=.ref p/\y=.int i/\SqT K H p xs/\atI xs i=some v/\Q v H
noncomputable def rIxS:R2:=fun x y H Q=>∃ z i c,x=.str z/\y=.int i/\z.length<=sizeLine/\atI z.cps.toList i=some c/\Q (.str ⟨#[c]⟩) H
theorem ix_list:IxR X (rIxL X.K):=by
 intro value slice pins s σ H x y v u Q I rx ry h hs
 obtain ⟨p,xs,i,z,rfl,rfl,hq,he,q⟩:=h
 cases rx
 obtain ⟨t,rfl⟩:=ry
 obtain ⟨its,r,pl,hz⟩:=I.list hq
 obtain ⟨j,h1,h2,h3,h4,h5⟩:=atI_get he
 obtain ⟨w,ew,rw'⟩:=r.get h2
 have hl:=r.length
 have hn:=line63
 have fin:EP X pins σ Q w s:=⟨z,H,I,rw',q⟩
 by_cases h0:0<=i
 ·have hj:i.toNat=j:=by
   rw [seqIndex_of h0 h5] at h1
   exact Option.some.inj h1
  exact item_listR pl.isList h0 (by omega) (by rw [hj]; simpa using ew) fin hs
 ·have hj:(i + (its.toArray.size:Int)).toNat=j:=by
   rw [seqIndex_neg (by omega) h4] at h1
   rw [List.size_toArray,<- hl]
   exact Option.some.inj h1
  exact subscriptTail_builtinR (x:=w) pl.isList.typeIs slot_list_getitem.lookup
   (wpAny_getItem_list_neg (Q:=fun r s'=>r=w/\EP X pins σ Q r s') pl.isList (by omega) (by rw [List.size_toArray]<;>omega) (by omega) (by rw [hj]; simpa using ew) ⟨rfl,fin⟩) hs
theorem ix_tup:IxR X (rIxT X.K):=by
 intro value slice pins s σ H x y v u Q I rx ry h hs
 obtain ⟨p,xs,i,z,rfl,rfl,hq,he,q⟩:=h
 cases rx
 obtain ⟨t,rfl⟩:=ry
 obtain ⟨its,r,pl,hz⟩:=I.tuple hq
 obtain ⟨j,h1,h2,h3,h4,h5⟩:=atI_get he
 obtain ⟨w,ew,rw'⟩:=r.get h2
 have hl:=r.length
 have hn:=line63
 have fin:EP X pins σ Q w s:=⟨z,H,I,rw',q⟩
 exact subscriptTail_builtinR (x:=w) pl.typeIs slot_tuple_getitem.lookup
  (getItem_tuple (j:=j) (Q:=fun r s'=>r=w/\EP X pins σ Q r s') pl (by omega) (by omega) (by rw [List.size_toArray,<- hl]; exact h1) (by simpa using ew) ⟨rfl,fin⟩) hs
theorem ix_str:IxR X rIxS:=by
 intro value slice pins s σ H x y v u Q I rx ry h hs
 obtain ⟨z,i,c,rfl,rfl,hz,he,q⟩:=h
 obtain ⟨t,rfl⟩:=rx
 obtain ⟨t',rfl⟩:=ry
 obtain ⟨j,h1,h2,h3,h4,h5⟩:=atI_get he
 have hl:z.cps.toList.length=z.length:=by simp [Str.length]
 rw [hl] at h1 h4 h5
 have hn:=line63
 exact tail_any (typeIs_str s z t) slot_str_getitem.lookup (getItem_str (c:=c) (by
  have e1:decide (i < -(2 ^ 63:Int))=false:=decide_eq_false (by omega)
  have e2:decide (i ≥ 2 ^ 63)=false:=decide_eq_false (by omega)
  rw [e1,e2,Bool.or_false]) (by rw [h1]; simpa using h2) ⟨.str ⟨#[c]⟩,H,I.tok _,⟨_,rfl⟩,q⟩) hs
theorem mapSeq_set (its:List Value) (n j:Nat) (u:Value):Obj.mapSeq (·.setIfInBounds j u) { cls:=.type "list",data:=.seq its.toArray n }={ cls:=.type "list",data:=.seq (its.set j u).toArray n }:=by
 simp [Obj.mapSeq]
theorem Inv.lst {pins:List (Addr×Obj)} {σ:St} {H:Hp} {s:Shared} {p:Addr} {xs:List V} (I:Inv X pins σ H s) (h:H p=some (.lst xs)) :
  ∃ (its:List Value) (n:Nat),Vals xs its/\s.heap.get? p=some { cls:=.type "list",data:=.seq its.toArray n }/\xs.length<=sizeLine:=by
 obtain ⟨z,its,n,r,e⟩:=I.hok p _ h
 exact ⟨its,n,r,e,z⟩
theorem Inv.lstUpd {pins:List (Addr×Obj)} {σ:St} {H:Hp} {s:Shared} {p:Addr} {xs ys:List V} {its its':List Value} {n n':Nat} {f:Obj->Obj} (I:Inv X pins σ H s) (h:H p=some (.lst xs))
  (ho:s.heap.get? p=some { cls:=.type "list",data:=.seq its.toArray n }) (hf:f { cls:=.type "list",data:=.seq its.toArray n }={ cls:=.type "list",data:=.seq its'.toArray n' }) (r:Vals ys its') (hz:ys.length<=sizeLine) (t:Nat) :
  Inv X pins σ (upd H p (.lst ys)) { s with heap:=s.heap.update p f,toks:=t }:=by
 have e:(s.heap.update p f).get? p=some { cls:=.type "list",data:=.seq its'.toArray n' }:=by
  rw [Heap.get?_update_self f ho (by rw [hf]<;>rfl),hf]
 refine I.write (x:=p) (e:=p) (by rw [h]; trivial) (.inl rfl) (fun b u hb q=>(Heap.get?_update_other _ _ (Ne.symm hb)).trans q) ⟨_,e⟩ ?_
 exact ⟨hz,its',n',r,e⟩
noncomputable def rSetL:V->V->V->Hp->(Hp->Prop)->Prop:=fun o i v H Q=>∃ p xs k j,o=.ref p/\i=.int k/\H p=some (.lst xs)/\ixN xs.length k=some j/\Q (upd H p (.lst (xs.set j v)))
theorem set_list:PSet X rSetL:=by
 intro pins s σ H o i v ov iv u Q I ro ri rv h
 obtain ⟨p,xs,k,j,rfl,rfl,hp,hj,q⟩:=h
 cases ro
 obtain ⟨t,rfl⟩:=ri
 obtain ⟨its,n,r,ho,hz⟩:=I.lst hp
 obtain ⟨h1,h2,h3,h4⟩:=ixN_seq hj
 have hl:=r.length
 have hn:=line63
 have I':Inv X pins σ (upd H p (.lst (xs.set j v))) { s with heap:=s.heap.update p (Obj.mapSeq (·.setIfInBounds j u)) } :=
  I.lstUpd hp ho (mapSeq_set its n j u) (r.set rv j) (by rw [List.length_set]; exact hz) s.toks
 by_cases h0:0<=k
 ·have hk:k.toNat=j:=by
   rw [seqIndex_of h0 h4] at h1
   exact Option.some.inj h1
  exact PySem.W.ki_setAt ho h0 (by omega) (by rw [List.size_toArray,<- hl]; exact h4) (by rw [hk]; exact ⟨_,I',q⟩)
 ·have hk:(k + (its.toArray.size:Int)).toNat=j:=by
   rw [seqIndex_neg (by omega) h3] at h1
   rw [List.size_toArray,<- hl]
   exact Option.some.inj h1
  exact PySem.W.ki_setBack ho (by omega) (by rw [List.size_toArray,<- hl]; exact h3) (by omega) (by rw [hk]; exact ⟨_,I',q⟩)
theorem slice_bounds (lo hi:Option Int) (n:Nat):(sliceBounds lo hi none n).1=((HT.sIx n 0 lo:Nat):Int)/\(sliceBounds lo hi none n).2.1=((HT.sIx n n hi:Nat):Int)/\(sliceBounds lo hi none n).2.2=1:=by
 refine ⟨?_,?_,rfl⟩
 ·cases lo with
  | none=>simp [sliceBounds,HT.sIx]
  | some i =>
   simp only [sliceBounds,HT.sIx,Option.getD_none,show (1:Int) > 0 by decide,if_true]
   by_cases h:i < 0
   ·simp only [h,if_true]<;>omega
   ·simp only [h,if_false]<;>omega
 ·cases hi with
  | none=>simp [sliceBounds,HT.sIx]
  | some i =>
   simp only [sliceBounds,HT.sIx,Option.getD_none,show (1:Int) > 0 by decide,if_true]
   by_cases h:i < 0
   ·simp only [h,if_true]<;>omega
   ·simp only [h,if_false]<;>omega
theorem slicePick_cut (its:List Value) (lo hi:Option Int):slicePick its.toArray lo hi none=((its.drop (HT.sIx its.length 0 lo)).take (HT.sIx its.length its.length hi - HT.sIx its.length 0 lo)).toArray:=by
 obtain ⟨h1,h2,h3⟩:=slice_bounds lo hi its.toArray.size
 unfold slicePick
 rw [h1,h2,h3]
 simp only [sliceRange_one,pick_run,List.size_toArray]<;>rfl
noncomputable def rSlL (K:PySem.W.Frag):V->Option Int->Option Int->Hp->VK->Prop:=fun x lo hi H Q=>∃ a xs,x=.ref a/\SqL K H a xs/\∀ p,H p=none->Q (.ref p) (upd H p (.lst (cutV xs lo hi)))
theorem sl_list:SlR X (rSlL X.K):=by
 intro pins s σ H x v vl vu lo hi sl Q I rx hs pl pu h
 obtain ⟨a,xs,rfl,hx,q⟩:=h
 cases rx
 obtain ⟨its,r,ht,hz⟩:=I.list hx
 have hlen:=r.length
 refine ⟨"list",_,slot_list_getitem.lookup,ht.isList.typeIs,?_⟩
 refine wpAny_getItem_list_slice ht.isList hs pl pu .none (by simp) ?_ (by rw [List.size_toArray]<;>omega)
 rw [slicePick_cut,<- hlen]
 refine ⟨.ref s.heap.objs.size,_,I.laid (t':=s.toks) (o:=.lst (cutV xs lo hi)) (fun b ob q=>Heap.get?_push_of_some _ q) (Nat.le_refl _) ?_,rfl,q _ (I.hok.fresh (Nat.le_refl _))⟩
 exact ⟨Nat.le_trans (cutV_length xs lo hi) hz,_,0,(r.drop (HT.sIx xs.length 0 lo)).take (HT.sIx xs.length xs.length hi - HT.sIx xs.length 0 lo),Heap.get?_push_size _ rfl⟩
theorem call_len_seq:CallR X (.builtin "len") (fun xs H Q=>∃ p ys,xs=[.ref p]/\(SqL X.K H p ys\/SqT X.K H p ys)/\Q (.int ys.length) H):=by
 intro pins s σ H xs us Q I r h
 obtain ⟨p,ys,rfl,hq,q⟩:=h
 obtain ⟨u,rfl,rx⟩:=vals1 r
 cases rx
 have hn:=line63
 rcases hq with hq | hq
 ·obtain ⟨its,r',pl,hz⟩:=I.list hq
  have hlen:=r'.length
  exact Calls.call_len_list pl.isList (by simp only [List.size_toArray]<;>omega) ⟨.int ys.length,H,I.tok _,⟨s.toks + 1,by rw [List.size_toArray,hlen]⟩,q⟩
 ·obtain ⟨its,r',pl,hz⟩:=I.tuple hq
  have hlen:=r'.length
  exact len_tuple pl (by simp only [List.size_toArray]<;>omega) ⟨.int ys.length,H,I.tok _,⟨s.toks + 1,by rw [List.size_toArray,hlen]⟩,q⟩
theorem call_len_str:CallR X (.builtin "len") (fun xs H Q=>∃ z,xs=[.str z]/\z.length<=sizeLine/\Q (.int z.length) H):=by
 intro pins s σ H xs us Q I r h
 obtain ⟨z,rfl,hz,q⟩:=h
 obtain ⟨u,rfl,t,rfl⟩:=vals1 r
 have hn:=line63
 exact len_str (by omega) ⟨.int z.length,H,I.tok _,⟨_,rfl⟩,q⟩
theorem CallR.or {f:Value} {r r':List V->Hp->VK->Prop} (h:CallR X f r) (h':CallR X f r'):CallR X f (fun xs H Q=>r xs H Q\/r' xs H Q):=by
 intro pins s σ H xs us Q I rs q
 rcases q with q | q
 ·exact h pins s σ H xs us Q I rs q
 ·exact h' pins s σ H xs us Q I rs q
theorem call_list_of:CallR X (.type "list") (fun xs H Q=>∃ p ys,xs=[.ref p]/\(SqL X.K H p ys\/SqT X.K H p ys)/\∀ l,H l=none->Q (.ref l) (upd H l (.lst ys))):=by
 intro pins s σ H xs us Q I r h
 obtain ⟨p,ys,rfl,hq,q⟩:=h
 obtain ⟨u,rfl,rx⟩:=vals1 r
 cases rx
 have fin:∀ (its:List Value),Vals ys its->ys.length<=sizeLine->∀ (h':Heap) (c':Nat),(∀ b o',s.heap.get? b=some o'->h'.get? b=some o') ->
   h'.get? s.heap.objs.size=some { cls:=.type "list",dict:=none,data:=.seq its.toArray c',slots:=#[] }->EP X pins σ Q (.ref s.heap.objs.size) { s with heap:=h' }:=fun its r' hz h' c' kp e =>
  ⟨.ref s.heap.objs.size,_,I.laid (t':=s.toks) kp (Nat.le_refl _) (show ObjOk X.prog X.w _ h' _ (.lst ys) from ⟨hz,its,c',r',e⟩),rfl,q _ (I.hok.fresh (Nat.le_refl _))⟩
 rcases hq with hq | hq
 ·obtain ⟨its,r',pl,hz⟩:=I.list hq
  have hlen:=r'.length
  obtain ⟨o,ho,hc,n,hd⟩:=pl.isList
  exact call_list_seq p (.inl rfl) ho hc hd (fun h' c' kp e=>fin its r' hz h' c' kp e) (by simp only [List.size_toArray]<;>omega)
 ·obtain ⟨its,r',pl,hz⟩:=I.tuple hq
  have hlen:=r'.length
  obtain ⟨o,ho,hc,n,hd⟩:=pl
  exact call_list_seq p (.inr rfl) ho hc hd (fun h' c' kp e=>fin its r' hz h' c' kp e) (by simp only [List.size_toArray]<;>omega)
theorem call_tuple_of:CallR X (.type "tuple") (fun xs H Q=>∃ p ys,xs=[.ref p]/\((SqL X.K H p ys/\∀ l,H l=none->Q (.ref l) (upd H l (.tup ys)))\/(SqT X.K H p ys/\Q (.ref p) H))):=by
 intro pins s σ H xs us Q I r h
 obtain ⟨p,ys,rfl,h⟩:=h
 obtain ⟨u,rfl,rx⟩:=vals1 r
 cases rx
 rcases h with ⟨hq,q⟩ | ⟨hq,q⟩
 ·obtain ⟨its,r',pl,hz⟩:=I.list hq
  have hlen:=r'.length
  refine call_tuple_list pl.isList (fun h' kp=>?_) (by simp only [List.size_toArray]<;>omega)
  have I1:Inv X pins σ H { s with heap:=h' }:=I.kept (t':=s.toks) kp
  have I2:Inv X pins σ (upd H h'.objs.size (.tup ys)) { s with heap:=h'.push { cls:=.type "tuple",data:=.seq its.toArray } } :=
   I1.laid (t':=s.toks) (fun b o e=>Heap.get?_push_of_some _ e) (Nat.le_refl _) (show ObjOk X.prog X.w _ _ _ (.tup ys) from ⟨hz,its,r',IsTup.new _ _⟩)
  exact ⟨.ref h'.objs.size,_,I2,rfl,q _ (I1.hok.fresh (Nat.le_refl _))⟩
 ·obtain ⟨its,r',pl,hz⟩:=I.tuple hq
  exact call_tuple_same pl ⟨.ref p,H,I,rfl,q⟩
noncomputable def tyV (K:PySem.W.Frag) (T:String) (x:V) (H:Hp):Prop:=match x with
 | .str _=>T="str"
 | .int _=>T="int"
 | .ref p=>(T="list"/\∃ xs,SqL K H p xs)\/(T="tuple"/\∃ o,K.lookup p=some o/\o.cls=.type "tuple"/\o.dict=none) \/
   (T="dict"/\((∃ kvs,H p=some (.dK kvs))\/∃ kvs,H p=some (.dT kvs)))\/(T="set"/\∃ S n,H p=some (.set S n))
 | _=>False
theorem tyV_is {pins:List (Addr×Obj)} {σ:St} {H:Hp} {s:Shared} {T:String} {x:V} {v:Value} (I:Inv X pins σ H s) (r:RelV x v) (ty:tyV X.K T x H) :
  s.TypeIs v T/\∀ a,v=.ref a->∃ ob,s.heap.get? a=some ob/\ob.dict=none:=by
 cases x with
 | str z =>
  obtain ⟨t,rfl⟩:=r
  cases (show T="str" from ty)
  exact ⟨typeIs_str s z t,fun _ e=>nomatch e⟩
 | int i =>
  obtain ⟨t,rfl⟩:=r
  cases (show T="int" from ty)
  exact ⟨typeIs_int s i t,fun _ e=>nomatch e⟩
 | ref p =>
  cases r
  rcases ty with ⟨rfl,xs,hq⟩ | ⟨rfl,o,hk,hc,hd⟩ | ⟨rfl,hk⟩ | ⟨rfl,S,n,hk⟩
  ·obtain ⟨its,_,pl,_⟩:=I.list hq
   refine ⟨pl.isList.typeIs,fun a e=>?_⟩
   cases e
   obtain ⟨o,n,e,c,hd,_⟩:=pl
   exact ⟨o,e,hd⟩
  ·refine ⟨⟨o,I.kIn p o hk,hc⟩,fun a e=>?_⟩
   cases e
   exact ⟨o,I.kIn _ o hk,hd⟩
  ·have z:∃ o,s.heap.get? p=some o/\o.ExactDict:=by
    rcases hk with ⟨kvs,hk⟩ | ⟨kvs,hk⟩
    ·obtain ⟨_,_,_,_,o,_,_,e,ex,_⟩:=I.hok p _ hk
     exact ⟨o,e,ex⟩
    ·obtain ⟨_,_,_,_,o,_,_,e,ex,_⟩:=I.hok p _ hk
     exact ⟨o,e,ex⟩
   obtain ⟨o,e,ex⟩:=z
   refine ⟨⟨o,e,ex.1⟩,fun a e2=>?_⟩
   cases e2
   exact ⟨o,e,ex.2.1⟩
  ·obtain ⟨o,_,_,_,e,ex,_⟩:=I.hok p _ hk
   refine ⟨⟨o,e,ex.1⟩,fun a e2=>?_⟩
   cases e2
   exact ⟨o,e,ex.2.1⟩
 | _=>exact False.elim ty
noncomputable def tBM (K:PySem.W.Frag) (T:String) (r:V->List V->Hp->VK->Prop) (to:TE) (t:TA):TE:=fun σ H Q=>to σ H fun x H1=>tyV K T x H1/\t σ H1 fun xs H2=>r x xs H2 Q
variable {o e:Expr} {es:List Expr} {to:TE} {t:TA} {name:Str} {apos cpos:Pos} {T id:String} {r:V->List V->Hp->VK->Prop}
theorem pe_bm (pa:PlainAttrs T) (slot:Slot T name id) (hty:typeOf (.builtin id)=pure (.type "method_descriptor")) (hm:MtR X id r) (ho:PE X o to) (ha:PA X (e :: es) t)
  (hbase:attributeBase o name X.env (eval o X.env)=eval o X.env:=by rfl)
  (hfew:((backTo cpos (starEach (e :: es) X.env)).all (fun x=>!x.1) && (backToKw cpos (keywordEach [] X.env)).all (fun x=>x.1.isSome)
   && decide ((e :: es).length + ([]:List Keyword).length + (if ([]:List Keyword).isEmpty then 0 else 1) < 30))=true:=by rfl)
  (hline:(apos.endLine == cpos.line)=true:=by rfl) (hs:starEach (e :: es) X.env=(false,eval e X.env) :: starEach es X.env:=by rfl) (hplain:(backTo cpos (starEach es X.env)).any (·.1)=false:=by rfl) :
  PE X (.Call (.Attribute o name apos) (e :: es) [] cpos) (tBM X.K T r to t):=by
 intro pins s σ H Q I h
 refine wpAny_Call_method_late hbase hfew hline rfl (thn (ho pins s σ H _ I h) fun v s1 hq2=>?_)
 obtain ⟨x,H1,I1,r1,ty,q1⟩:=hq2
 obtain ⟨h1,h2⟩:=tyV_is I1 r1 ty
 refine ⟨T,id,pa,slot,hty,h1,h2,?_⟩
 have hA:=ha cpos pins s1 σ H1 _ I1 q1
 rw [hs] at hA ⊢
 refine Calls.callWith_builtin (by show (false || (backTo cpos (starEach es X.env)).any (·.1))=false; rw [hplain]<;>rfl) (Calls.evalArgs_plain ?_)
 exact thn hA (by rintro us s2 ⟨vs,H2,I2,r2,q2⟩; exact hm pins s2 σ H2 x vs v us Q I2 r1 r2 q2)
end
end L2
namespace L2
open PySem PySem.Spec PyProof.Rows
noncomputable def MtM (X:Cx) (id:String) (r:V->List V->Hp->VK->Prop):Prop :=
 ∀ (pins:List (Addr×Obj)) (s:Shared) (σ:St) (H:Hp) (x:V) (xs:List V) (v:Value) (us:List Value) (Q:VK),Inv X pins σ H s->RelV x v->Vals xs us->r x xs H Q ->
  wpAny (model X.prog X.w) X.A (call (.builtin id) (v :: us)) (EP X pins σ Q) X.xe s
theorem Vals.one:∀ {x:V} {us:List Value},Vals [x] us->∃ u,us=[u]/\RelV x u
 | _,_,.cons r .nil=>⟨_,rfl,r⟩
theorem Vals.eraseIdx:∀ {xs:List V} {us:List Value} (i:Nat),Vals xs us->Vals (xs.eraseIdx i) (us.eraseIdx i)
 | _,_,_,.nil=>.nil
 | _,_,0,.cons _ t=>t
 | _,_,i + 1,.cons r t=>.cons r (Vals.eraseIdx i t)
theorem Vals.rep {xs:List V} {us:List Value} (h:Vals xs us):∀ k:Nat,Vals (List.replicate k xs).flatten (List.replicate k us).flatten
 | 0=>.nil
 | k + 1=>by
  rw [List.replicate_succ,List.replicate_succ,List.flatten_cons,List.flatten_cons]
  exact Vals.append h (Vals.rep h k)
theorem len_erase {α:Type}:∀ (l:List α) (i:Nat),(l.eraseIdx i).length<=l.length
 | [],_=>Nat.le_refl _
 | _ :: _,0=>Nat.le_succ _
 | _ :: r,i + 1=>Nat.succ_le_succ (len_erase r i)
theorem foldl_rep (its:List Value):∀ (k:Nat) (acc:List Value),
  List.foldl (fun x1 x2=>x1++x2) acc.toArray (List.replicate k its.toArray)=(acc++(List.replicate k its).flatten).toArray
 | 0,acc=>by simp
 | k + 1,acc=>by
  have e:acc.toArray++its.toArray=(acc++its).toArray:=by simp
  have e2:(acc++its)++(List.replicate k its).flatten=acc++(List.replicate (k + 1) its).flatten:=by
   rw [List.replicate_succ,List.flatten_cons,List.append_assoc]
  rw [<- e2,<- foldl_rep its k (acc++its),<- e,List.replicate_succ,List.foldl_cons]
section
variable {X:Cx} {pins:List (Addr×Obj)} {σ:St} {H:Hp} {s:Shared} {l b:Addr} {xs ys zs:List V}
theorem Inv.lset {its its':List Value} {n:Nat} {f:Array Value->Array Value} {t':Nat} (I:Inv X pins σ H s) (hH:H l=some (.lst xs))
  (e:s.heap.get? l=some { cls:=.type "list",data:=.seq its.toArray n }) (hf:f its.toArray=its'.toArray) (hv:Vals ys its') (hz:ys.length<=sizeLine) :
  Inv X pins σ (upd H l (.lst ys)) { s with heap:=s.heap.update l (Obj.mapSeq f),toks:=t' }:=by
 have q:=PySem.IsL.update e f
 rw [hf] at q
 refine I.write (x:=l) (e:=l) (by rw [hH]; exact trivial) (.inl rfl) (fun b' u hb hu=>(Heap.get?_update_other s.heap (Obj.mapSeq f) (Ne.symm hb)).trans hu) ⟨_,q⟩ ?_
 exact ⟨hz,its',_,hv,q⟩
theorem Inv.lnew {its:List Value} {t':Nat} (I:Inv X pins σ H s) (hv:Vals ys its) (hz:ys.length<=sizeLine) :
  Inv X pins σ (upd H s.heap.objs.size (.lst ys)) { s with heap:=s.heap.push { cls:=.type "list",data:=.seq its.toArray },toks:=t' } :=
 I.laid (fun _ _ q=>Heap.get?_push_of_some _ q) (Nat.le_refl _) ⟨hz,its,0,hv,Heap.get?_push_size _ rfl⟩
theorem Inv.fresh (I:Inv X pins σ H s):H s.heap.objs.size=none:=I.hok.fresh (Nat.le_refl _)
theorem Inv.lstM (I:Inv X pins σ H s) (hH:H l=some (.lst xs)):xs.length<=sizeLine/\∃ (its:List Value) (n:Nat),Vals xs its/\xs.length=its.length/\s.heap.get? l=some { cls:=.type "list",data:=.seq its.toArray n }:=by
 obtain ⟨z,its,n,r,e⟩:=I.hok l _ hH
 exact ⟨z,its,n,r,r.length,e⟩
theorem notLongL {n:Nat} (h:n<=sizeLine):Builtin.List.listTooLong n=false:=by
 unfold Builtin.List.listTooLong
 exact decide_eq_false (by omega)
end
section
variable {X:Cx}
noncomputable def rAppend:V->List V->Hp->VK->Prop:=fun x vs H Q=>∃ l xs y,x=.ref l/\vs=[y]/\H l=some (.lst xs)/\xs.length < sizeLine/\Q .non (upd H l (.lst (xs++[y])))
theorem mt_append:MtM X "list.append" rAppend:=by
 intro pins s σ H x vs v us Q I rx rv h
 obtain ⟨l,xs,y,rfl,rfl,hH,hz,q⟩:=h
 cases rx
 obtain ⟨u,rfl,ru⟩:=rv.one
 obtain ⟨z,its,n,r,hl,e⟩:=I.lstM hH
 refine call_meets F.slot_list_append ⟨_,e,rfl⟩ F.entry_list_append (F.args_list_append_2 _ _) (PySem.list_append l its.toArray n u (by rw [List.size_toArray]; omega)) ⟨e,?_⟩
 refine ⟨.non,_,I.lset (its':=its++[u]) hH e (by simp) (r.append (.cons ru .nil)) ?_,rfl,q⟩
 rw [List.length_append,List.length_singleton]
 omega
noncomputable def rExtend:V->List V->Hp->VK->Prop:=fun x vs H Q=>∃ l b xs zs,x=.ref l/\vs=[.ref b]/\H l=some (.lst xs)/\H b=some (.lst zs)/\xs.length + zs.length<=sizeLine/\Q .non (upd H l (.lst (xs++zs)))
theorem mt_extend:MtM X "list.extend" rExtend:=by
 intro pins s σ H x vs v us Q I rx rv h
 obtain ⟨l,b,xs,zs,rfl,rfl,hH,hB,hz,q⟩:=h
 cases rx
 obtain ⟨u,rfl,ru⟩:=rv.one
 cases ru
 obtain ⟨z,its,n,r,hl,e⟩:=I.lstM hH
 obtain ⟨z2,its2,n2,r2,hl2,e2⟩:=I.lstM hB
 have hsz:its.toArray.size + its2.toArray.size<=sizeLine:=by rw [List.size_toArray,List.size_toArray]; omega
 have hlong:¬ (!its.toArray.isEmpty && Builtin.List.listTooLong (its.toArray.size + its2.toArray.size))=true:=by
  rw [notLongL hsz,Bool.and_false]
  exact Bool.false_ne_true
 refine call_meets F.slot_list_extend ⟨_,e,rfl⟩ F.entry_list_extend (F.args_list_extend_2 _ _)
  (AutoSeq1.list_extend_list_list_0 l its.toArray n b its2.toArray n2 hlong (by rw [List.size_toArray]; omega) (by omega)) ⟨e,e2,?_⟩
 refine ⟨.non,_,I.lset (its':=its++its2) hH e (by simp) (r.append r2) ?_,rfl,q⟩
 rw [List.length_append]
 omega
noncomputable def rPopAt:V->List V->Hp->VK->Prop:=fun x vs H Q=>∃ l xs i k y,x=.ref l/\vs=[.int i]/\H l=some (.lst xs)/\-(2 ^ 63)<=i/\i < 2 ^ 63/\seqIndex? i xs.length=some k/\xs[k]?=some y/\Q y (upd H l (.lst (xs.eraseIdx k)))
theorem mt_popAt:MtM X "list.pop" rPopAt:=by
 intro pins s σ H x vs v us Q I rx rv h
 obtain ⟨l,xs,i,k,y,rfl,rfl,hH,h1,h2,hk,hy,q⟩:=h
 cases rx
 obtain ⟨u,rfl,ru⟩:=rv.one
 obtain ⟨t,rfl⟩:=ru
 obtain ⟨z,its,n,r,hl,e⟩:=I.lstM hH
 obtain ⟨w,hw,rw'⟩:=r.get hy
 refine call_meets F.slot_list_pop ⟨_,e,rfl⟩ F.entry_list_pop (F.args_list_pop_2 _ _)
  (MeetsSeq.list_pop_at l its.toArray n i t k w (fitsIndex_both h1 h2) (by rw [List.size_toArray,<- hl]; exact hk) (by rw [<- Array.getElem?_toList]; exact hw) (by rw [List.size_toArray]; omega)) ⟨e,?_⟩
 refine ⟨y,_,I.lset (its':=its.eraseIdx k) hH e ?_ (r.eraseIdx k) ?_,rw',q⟩
 ·show its.toArray.eraseIdxIfInBounds k=(its.eraseIdx k).toArray
  rw [List.eraseIdxIfInBounds_toArray]
 ·have:=len_erase xs k
  omega
noncomputable def rCat:R2:=fun x y H Q=>∃ l b xs zs,x=.ref l/\y=.ref b/\H l=some (.lst xs)/\H b=some (.lst zs)/\xs.length + zs.length<=sizeLine/\∀ p,H p=none->Q (.ref p) (upd H p (.lst (xs++zs)))
theorem op_cat:OpR X (binaryOp .Add) rCat:=by
 intro pins s σ H x y v u Q I rx ry h
 obtain ⟨l,b,xs,zs,rfl,rfl,hH,hB,hz,q⟩:=h
 cases rx
 cases ry
 obtain ⟨z,its,n,r,hl,e⟩:=I.lstM hH
 obtain ⟨z2,its2,n2,r2,hl2,e2⟩:=I.lstM hB
 refine PySem.P.add_list e e2 ?_ (by rw [List.size_toArray,List.size_toArray]; omega)
 have ea:its.toArray++its2.toArray=(its++its2).toArray:=by simp
 rw [ea]
 exact ⟨.ref _,_,I.lnew (t':=s.toks) (r.append r2) (by rw [List.length_append]; omega),rfl,q _ I.fresh⟩
noncomputable def rRep:R2:=fun x y H Q=>∃ l k xs,x=.ref l/\y=.int k/\H l=some (.lst xs)/\-(2 ^ 63)<=k/\k < 2 ^ 63/\xs.length * k.toNat<=sizeLine /\
 ∀ p,H p=none->Q (.ref p) (upd H p (.lst (List.replicate k.toNat xs).flatten))
theorem len_rep {α:Type} (xs:List α) (k:Nat):(List.replicate k xs).flatten.length=k * xs.length:=by
 induction k with
 | zero=>simp
 | succ k ih=>rw [List.replicate_succ,List.flatten_cons,List.length_append,ih,Nat.succ_mul,Nat.add_comm]
theorem op_rep:OpR X (binaryOp .Mult) rRep:=by
 intro pins s σ H x y v u Q I rx ry h
 obtain ⟨l,k,xs,rfl,rfl,hH,h1,h2,hz,q⟩:=h
 cases rx
 obtain ⟨t,rfl⟩:=ry
 obtain ⟨z,its,n,r,hl,e⟩:=I.lstM hH
 have hlen:its.toArray.size * k.toNat<=sizeLine:=by rw [List.size_toArray,<- hl]; exact hz
 have hcap:¬ its.toArray.size * k.toNat > (2 ^ 63 - 1) / 8:=by
  have:(sizeLine:Nat)<=(2 ^ 63 - 1) / 8:=by decide
  omega
 have hfit:¬ (!Builtin.List.listFitsIndex k)=true:=by
  rw [fitsIndex_both h1 h2]
  exact Bool.false_ne_true
 have hlong:¬ Builtin.List.listTooLong (its.toArray.size * k.toNat)=true:=by
  rw [notLongL hlen]
  exact Bool.false_ne_true
 have hnew:List.foldl (fun x1 x2=>x1++x2) #[] (List.replicate (if its.toArray.isEmpty=true then 0 else k.toNat) its.toArray)=(List.replicate k.toNat its).flatten.toArray:=by
  have f0:∀ m:Nat,List.foldl (fun x1 x2=>x1++x2) #[] (List.replicate m its.toArray)=(List.replicate m its).flatten.toArray:=fun m=>by
   have:=foldl_rep its m []
   rw [List.nil_append] at this
   exact this
  rw [f0]
  cases its with
  | nil=>simp
  | cons a r'=>rw [if_neg (by simp)]
 refine wpAny_binaryOp_repeat_ref (T:="list") (U:="int") (by decide) ⟨_,e,rfl⟩ (fun s'=>typeIs_int s' k t) noFill_list_mul F.fills_int_mul F.slot_int_rmul repeat_list F.slot_int_index.lookup
  (call_meets F.slot_int_rmul (typeIs_int s k t) F.entry_int_rmul (F.args_int_rmul_2 _ _) (int___rmul___int_list k t l its.toArray n)
   ⟨e,rfl,⟨_,e,rfl⟩,call_meets F.slot_list_mul ⟨_,e,rfl⟩ F.entry_list_mul (F.args_list_mul_2 _ _) (AutoListH.list___mul___list_int_3 l its.toArray n k t hfit hcap hlong) ⟨e,?_⟩⟩)
 rw [hnew]
 exact ⟨.ref _,_,I.lnew (t':=s.toks) (r.rep k.toNat) (by rw [len_rep,Nat.mul_comm]; exact hz),rfl,q _ I.fresh⟩
end
section
variable {prog:Program} {w:World} {A:Around} {E:Value->Shared->Prop} {s:Shared}
set_option maxRecDepth 100000 in
end
section
variable {X:Cx}
end
end L2
namespace Att
open PySem PySem.W PySem.Calls PyProof.Rows
theorem ints_of_wellAll {P:Params} {h:Heap}:∀ (ns:List Int) (vs:List Value),WellAll P h vs (ns.map WData.int)->IntsAre vs ns:=by
 intro ns
 induction ns with
 | nil =>
  intro vs w
  rw [List.map_nil] at w
  cases w
  exact .nil
 | cons n ns ih =>
  intro vs w
  rw [List.map_cons] at w
  cases w with
  | cons a b =>
   cases a
   exact .cons _ _ (ih _ b)
theorem script_of {l:OpenLaw} {n:Nat} (hn:l.most=some n) {P:Params} {h:Heap} {args:List WData} {vals:List Value}
  (hpre:l.row.toRowW.claim.pre args=true) (hwl:WellAll P h vals args) :
  ∃ a vs ns,vals=[Value.ref a]/\args=[WData.list (ns.map WData.int)]/\h.get? a=some { cls:=.type "list",data:=.seq vs.toArray }/\IntsAre vs ns/\ns.length<=n:=by
 have hsh:WShape.hasAll [] args [.list .int]=true:=(pre_splitW hpre).1
 have hc:l.pre.holds [] { args:=args }=true:=(pre_splitW hpre).2
 obtain ⟨d,r,rfl,h1,h2⟩:=hasAllW_cons hsh
 obtain rfl:=hasAllW_nil h2
 obtain ⟨xs,rfl,h3⟩:=hasW_list h1
 obtain ⟨ns,rfl⟩:=items_int h3
 have hlen:ns.length<=n:=by
  unfold OpenLaw.pre at hc
  have h4:(WTm.not (.lt (.lit (.int (n:Int))) (.len (.arg 0)))).holds [] { args:=[.list (ns.map .int)] }=true:=by
   have h4:=(holds_andW hc).1
   rw [hn] at h4
   exact h4
  have h5:=condW_of h4 (w_not (w_lt w_lit (w_len_list (w_arg rfl))))
  rw [List.length_map] at h5
  refine Nat.le_of_not_lt fun q=>?_
  have q':(n:Int) < ((ns.length:Nat):Int):=by omega
  first
   | (rw [decide_eq_true q'] at h5; exact absurd h5 (by decide))
   | (simp at h5; omega)
 cases hwl with
 | cons w1 w2 =>
  cases w2
  cases w1 with
  | list ho hall=>exact ⟨_,_,ns,rfl,rfl,ho,ints_of_wellAll ns _ hall,hlen⟩
theorem post_true (l:OpenLaw) (args:List WData):l.row.toRowW.claim.post args (.bool true) args=true :=
 postW_of (r:=l.row.toRowW) (X:=(true == true))
  (show WShape.has [] (.bool true) .bool=true by first | rfl | decide | simp [WShape.has,WShape.arms,WShape.armsAll])
  (show (WTm.eq .res (.lit (.bool true))).value [] { args:=args,res:=some (.bool true),after:=args }=some (.bool (true == true)) from w_eq_bool (w_res rfl) w_lit) rfl
section
variable {prog:Program} {w:World} {A:Around} {E:Value->Shared->Prop} {s:Shared} {K:Frag}
end
end Att
namespace L2
open PySem PySem.Spec PyProof.Rows
theorem vals_ints:∀ {vs:List Value} {ns:List Int},IntsAre vs ns->Vals (ns.map V.int) vs
 | _,_,.nil=>.nil
 | _,_,.cons n t h=>.cons ⟨t,rfl⟩ (vals_ints h)
noncomputable def Only (H:Hp):Prop:=∀ b,H b=none\/∃ o xs,H b=some (.frz o (.lst xs))
theorem law_call {P:Program} {w:World} {K:PySem.W.Frag} {mg mb:Str->Option Value} {CX:CXT} {k:Nat} {fa a:Addr} {fd:FuncData} {x:Str} {sp:Sp} {s₁:Shared} {vs:List Value} {ns:List Int}
  (KX:K.In s₁.heap) (hns:s₁.heap.Ns mainGlobals mg) (hb:s₁.heap.Ns builtinsNs mb) (hbb:∀ x:Str,x≠"__name__"->mb x=bootBuiltins x) (hlim:s₁.heap.NoLimit) (hg:s₁.gens=#[])
  (ha:s₁.heap.get? a=some { cls:=.type "list",data:=.seq vs.toArray }) (hi:IntsAre vs ns) (hl:ns.length<=sizeLine) (hr:Room k callerA)
  (F:∀ base:Heap,K.In base->base.Ns mainGlobals mg->FnOk P w K mg base CX k fa fd [x] sp) (hbind:∀ (s:Shared) (u:Value),BindsTo s fd ⟨[u],[]⟩ [(x,u)])
  (hsp:∀ H:Hp,Only H->SqL K H a (ns.map V.int)->sp [.ref a] H (fun v _=>v=.bl true) fun _ _ _=>False)
  (hCX:∀ H e s',CX [] H s₁ (fun _ _ _=>False) e s'->False) :
  codeAny (model P w) callerA (.call (.ref fa) ⟨[.ref a],[]⟩) (fun r s'=>r=.ok (.ret (.bool true))/\OldK s₁.heap s'.heap/\s'.os=s₁.os/\AllBare s'.gens) s₁:=by
 have rv:=vals_ints hi
 have lenV:=hi.length
 have core:∀ H:Hp,Only H->SqL K H a (ns.map V.int)->HOk P w H s₁.heap->(∀ b,H b≠none->b=a)->(H a≠none->K.lookup a=none) ->
   codeAny (model P w) callerA (.call (.ref fa) ⟨[.ref a],[]⟩) (fun r s'=>r=.ok (.ret (.bool true))/\OldK s₁.heap s'.heap/\s'.os=s₁.os/\AllBare s'.gens) s₁:=by
  intro H hO hS hok hA hK
  have base_of:∀ {b:Addr} {o:Obj},s₁.heap.get? b=some o->H b=none->(hidT s₁.heap H).get? b=some o:=fun e n=>hidT_get e n
  have noA:∀ {b:Addr} {o:Obj} {es:Array DictEntry} {ep:Nat},s₁.heap.get? b=some o->o.data=.dict es ep->H b=none:=fun {b o es ep} e d=>by
   cases q:H b with
   | none=>rfl
   | some u =>
    have e':b=a:=hA b (by rw [q]; simp)
    subst e'
    rw [ha] at e; cases e
    have d':Data.seq vs.toArray _=Data.dict es ep:=d
    cases d'
  have nsK:∀ {b:Addr} {m:Str->Option Value},s₁.heap.Ns b m->(hidT s₁.heap H).Ns b m:=fun {b m} ⟨o,es,ep,e,d,r⟩=>⟨o,es,ep,base_of e (noA e d),d,r⟩
  have hKb:K.In (hidT s₁.heap H):=fun b o e=>base_of (KX b o e) (by
   cases q:H b with
   | none=>rfl
   | some u =>
    have e':b=a:=hA b (by rw [q]; simp)
    subst e'
    rw [hK (by rw [q]; simp)] at e; cases e)
  have hM:Mod K mg (hidT s₁.heap H):=⟨hKb,nsK hns,⟨mb,nsK hb,hbb⟩,let ⟨mc,h1,h2⟩:=hlim; ⟨mc,nsK h1,h2⟩⟩
  have e0:Env0 P w K mg (hidT s₁.heap H) callerA [] s₁ H:=⟨rfl,hM,fun b o e=>of_hidT e,Nat.le_of_eq (hidT_size _ _),trivial,fun b hb=>absurd (show b∈([]:List Addr) from hb) (by simp),hok,.of_eq hg⟩
  refine codeAny_mono ((F _ hKb (nsK hns)).run callerA [] s₁ H ⟨[.ref a],[]⟩ [.ref a] [.ref a] _ _ hr e0 (hbind s₁ (.ref a)) (.cons rfl .nil) (hsp H hO hS)) fun r s' h=>?_
  cases r with
  | error e=>exact (hCX H e s' h).elim
  | ok fl =>
   cases fl with
   | next=>exact False.elim h
   | brk=>exact False.elim h
   | cont=>exact False.elim h
   | ret u =>
    obtain ⟨v,H',os,bare,un,hok',r',q⟩:=h
    have q':v=.bl true:=q
    subst q'
    obtain rfl:u=Value.bool true:=r'
    refine ⟨rfl,OldK.of_keep fun b o e=>?_,os,bare⟩
    cases q:H b with
    | none=>exact un.keep b o e q (by intro z; exact absurd (show b∈([]:List Addr) from z) (by simp)) (by simp)
    | some u =>
     rcases hO b with z | ⟨ob,xs,z⟩
     ·rw [q] at z; cases z
     ·have z2:=un.frzs b ob _ z
      obtain ⟨e1,_⟩:=hok b _ z
      obtain ⟨e2,_⟩:=hok' b _ z2
      rw [e] at e1; cases e1
      exact e2
 cases hk:K.lookup a with
 | some o =>
  have e:=KX a o hk
  rw [ha] at e
  cases e
  refine core (fun _=>none) (fun _=>.inl rfl) (.inr ⟨_,vs.toArray,_,hk,rfl,rfl,rfl,by rw [List.size_toArray,lenV]; exact hl,by simpa using rv⟩) (fun b u z=>by have z':(none:Option HO)=some u:=z; cases z') (fun b z=>absurd rfl z) fun z=>absurd rfl z
 | none =>
  refine core (fun b=>if b=a then some (.frz { cls:=.type "list",data:=.seq vs.toArray } (.lst (ns.map V.int))) else none) (fun b=>?_) (.inl (.inr ⟨{ cls:=.type "list",data:=.seq vs.toArray },if_pos rfl⟩)) (fun b u z=>?_) (fun b z=>?_) fun _=>hk
  ·by_cases hb:b=a
   ·exact .inr ⟨_,_,if_pos hb⟩
   ·exact .inl (if_neg hb)
  ·by_cases hb:b=a
   ·have z':=(if_pos hb).symm.trans z
    cases z'
    subst hb
    exact ⟨ha,by rw [List.length_map]; exact hl,vs,_,rv,ha⟩
   ·have z':=(if_neg hb).symm.trans z
    cases z'
  ·by_cases hb:b=a
   ·exact hb
   ·exact absurd (if_neg hb) z
end L2
namespace L2
open PySem PySem.Spec PyProof.Rows
end L2
namespace L2
open PySem PySem.Spec PyProof.Rows
noncomputable def defArgs (s:Stmt):Arguments:=match s with
 | .FunctionDef _ a _ _ _ _ _ _ _ _=>a
 | _=>{ posonlyargs:=[],args:=[],vararg:=none,kwonlyargs:=[],kw_defaults:=[],kwarg:=none,defaults:=[] }
noncomputable def defBody (s:Stmt):List Stmt:=match s with
 | .FunctionDef _ _ b _ _ _ _ _ _ _=>b
 | _=>[]
noncomputable def defScope (s:Stmt):Scope:=match s with
 | .FunctionDef _ _ _ _ _ _ sc _ _ _=>sc
 | _=>{ kind:=.function,names:=[],isGenerator:=false,isCoroutine:=false }
noncomputable abbrev E0:XK:=fun _ _ _=>False
structure Fun (K:PySem.W.Frag) (x qual:Str) (st:Stmt) (f:Addr) (fd:FuncData):Prop where
 ex:∃ (oc:Value) (od:Option Addr) (kV doc pm:Value) (an:Option Addr) (cdv ct:Value) (osl:Array (Option Value)),
  fd=PySem.W.fnOf x qual (defArgs st) (defBody st) (defScope st) .none kV doc pm an cdv ct/\K.lookup f=some ⟨oc,od,.func fd,osl⟩/\PySem.W.codeIn K cdv qual=true
 kp:PySem.W.keepIn K (.ref f)=true
section
variable {P:Program} {w:World} {K:PySem.W.Frag} {mg:Str->Option Value} {base:Heap}
theorem Fun.binds {x qual:Str} {st:Stmt} {f:Addr} {fd:FuncData} {ps:List Str} (F:Fun K x qual st f fd)
  (h:∀ (kV doc pm:Value) (an:Option Addr) (cdv ct:Value) (us:List Value),us.length=ps.length->bindArgs (PySem.W.fnOf x qual (defArgs st) (defBody st) (defScope st) .none kV doc pm an cdv ct) ⟨us,[]⟩=pure (ps.zip us)):Binds K fd ps []:=by
 obtain ⟨oc,od,kV,doc,pm,an,cdv,ct,osl,rfl,lk,hcd⟩:=F.ex
 exact .all (h kV doc pm an cdv ct)
theorem fun_mk {x qual:Str} {st:Stmt} {f:Addr} {oc:Value} {od an:Option Addr} {osl:Array (Option Value)} {kV doc pm cdv ct:Value} (l:K.lookup f=some ⟨oc,od,.func (PySem.W.fnOf x qual (defArgs st) (defBody st) (defScope st) .none kV doc pm an cdv ct),osl⟩)
  (c:PySem.W.codeIn K cdv qual=true) (k:PySem.W.keepIn K (.ref f)=true):Fun K x qual st f (PySem.W.fnOf x qual (defArgs st) (defBody st) (defScope st) .none kV doc pm an cdv ct):=⟨⟨oc,od,kV,doc,pm,an,cdv,ct,osl,rfl,l,c⟩,k⟩
end
section
variable {X:Cx}
end
end L2
end
noncomputable section
namespace L2
open PySem PySem.Spec PyProof.Rows
section
variable {κ:Type} [DecidableEq κ]
end
section
variable {P:Program} {w:World} {H:Hp} {h:Heap} {a:Addr}
end
section
variable {X:Cx} {pins:List (Addr×Obj)} {σ:St} {H:Hp} {s:Shared} {a:Addr} {y v:V} {u r:Value} {o:Option V} {A:Around} {E:Value->Shared->Prop}
theorem Inv.big (I:Inv X pins σ H s):sysModules < s.heap.objs.size:=by
 have h:mainGlobals < s.heap.objs.size:=(I.mod.glob.keeps I.bk).lt
 exact Nat.lt_trans (by decide) h
end
section
variable {X:Cx} {pins:List (Addr×Obj)} {σ:St} {H:Hp} {s:Shared} {a:Addr} {kvs:List (Key×V)} {k:Key} {u:Value} {A:Around} {E:Value->Shared->Prop}
end
section
variable {X:Cx} {o i e value:Expr} {pos pos' tpos:Pos} {td ty tv:TE}
end
theorem dk_empty {P:Program} {w:World} {H:Hp} (h:Heap) (hb:sysModules < h.objs.size):ObjOk P w H (h.push { cls:=.type "dict",data:=.dict #[] }) h.objs.size (.dK []) :=
 ⟨Nat.zero_le _,beq_eq_false_iff_ne.mpr (Ne.symm (Nat.ne_of_lt hb)),[],.nil,Heap.DictOf.new h⟩
noncomputable def tDNewK:TE:=fun _ H Q=>∀ p,H p=none->Q (.ref p) (upd H p (.dK []))
section
variable {X:Cx} {pos:Pos}
theorem pe_dnewK:PE X (.Dict [] [] pos) tDNewK:=fun pins s σ H Q I h =>
 wpAny_Dict_empty ⟨.ref s.heap.objs.size,_,I.laid (a:=s.heap.objs.size) (o:=.dK []) (t':=s.toks) (fun _ _ q=>Heap.get?_push_of_some _ q) (Nat.le_refl _) (dk_empty s.heap I.big),rfl,h _ (I.hok.fresh (Nat.le_refl _))⟩
end
structure M1 (X:Cx) (o:Expr) (m:Str) (apos:Pos) (e:Expr) (cpos:Pos):Prop where
 base:attributeBase o m X.env (eval o X.env)=eval o X.env
 few:((backTo cpos (starEach [e] X.env)).all (fun x=>!x.1) && (backToKw cpos (keywordEach [] X.env)).all (fun x=>x.1.isSome)
  && decide (([e]:List Expr).length + ([]:List Keyword).length + (if ([]:List Keyword).isEmpty then 0 else 1) < 30))=true
 line:(apos.endLine == cpos.line)=true
 trees:backTo cpos (starEach [e] X.env)=[(false,eval e X.env)]
structure M2 (X:Cx) (o:Expr) (m:Str) (apos:Pos) (e f:Expr) (cpos:Pos):Prop where
 base:attributeBase o m X.env (eval o X.env)=eval o X.env
 few:((backTo cpos (starEach [e,f] X.env)).all (fun x=>!x.1) && (backToKw cpos (keywordEach [] X.env)).all (fun x=>x.1.isSome)
  && decide (([e,f]:List Expr).length + ([]:List Keyword).length + (if ([]:List Keyword).isEmpty then 0 else 1) < 30))=true
 line:(apos.endLine == cpos.line)=true
 trees:backTo cpos (starEach [e,f] X.env)=[(false,eval e X.env),(false,eval f X.env)]
section
variable {X:Cx} {pins:List (Addr×Obj)} {σ:St} {H:Hp} {s:Shared} {a:Addr} {y d:V} {u r:Value} {o:Option V} {A:Around} {E:Value->Shared->Prop}
end
section
variable {X:Cx} {o e f:Expr} {apos cpos:Pos} {td ty tx:TE}
end
section
variable {X:Cx} {pins:List (Addr×Obj)} {σ:St} {H:Hp} {s:Shared} {a:Addr} {kvs:List (Key×V)} {A:Around} {E:Value->Shared->Prop}
end
section
variable {X:Cx} {pins:List (Addr×Obj)} {σ:St} {H:Hp} {s:Shared} {a:Addr} {y:V} {u:Value} {A:Around} {E:Value->Shared->Prop}
end
end L2
end
noncomputable section
theorem nfx {P:Prop} (h:false=true):P:=absurd h Bool.false_ne_true
namespace DL
open PySem PySem.Spec PyProof.Rows L2
theorem dict_mapFields (o:Obj) (f):(o.mapFields f).dict=o.dict:=by obtain ⟨c,d,dt,sl⟩:=o; cases dt<;>rfl
noncomputable def Near (h h':Heap):Prop:=h.UpToSlots h'/\∀ b o,h.get? b=some o->∃ o',h'.get? b=some o'
theorem Near.trans {h h1 h2:Heap} (a:Near h h1) (b:Near h1 h2):Near h h2:=⟨a.1.trans b.1,fun c o q=>let ⟨_,q1⟩:=a.2 c o q; b.2 c _ q1⟩
theorem Near.kept {h h':Heap} (k:∀ b o,h.get? b=some o->h'.get? b=some o):Near h h':=⟨.of_keeps k,fun b o q=>⟨o,k b o q⟩⟩
structure Flies (B:Heap) (l:List Env) (e:Addr) (cls:Value) (dd:Option Addr) (fl:Value) (h:Heap):Prop where
 stays:B.StaysIn h
 new:B.get? e=none
 frames:h.FunFrames B l
 tr:∃ oe vs T oT ts,h.get? e=some oe/\oe.cls=cls/\oe.dict=dd/\oe.data=.fields vs/\vs[1]?=some (.ref T)/\B.get? T=none/\T≠e/\h.get? T=some oT/\oT.data=.fields ts/\ts[3]?=some fl
section
variable {M:Model} {A:Around} {Z:Value->Shared->Prop} {s:Shared} {B:Heap} {env:Env} {outer:List Env} {L e:Addr} {Q:Unit->Shared->Prop}
theorem fly_entry {oe:Obj} {vs:Array Value} {head:Value} {hn:Bool} (fr:A.frames=some (env :: outer)) (ff:s.heap.FunFrames B (env :: outer)) (fl:env.frame=some L)
  (at_:s.heap.get? e=some oe) (st:B.StaysIn s.heap) (nw:B.get? e=none) (dt:oe.data=.fields vs) (sz:1 < vs.size)
  (go:∀ h',Flies B (env :: outer) e oe.cls oe.dict (rawInt L) h'->Near s.heap h'->Q () { s with heap:=h' }) :
  wpAny M A (do let x <- frameOf env; let y <- entryPlaceOf L hn; let z <- EntryCells.newEntry head x .none (rawInt L) .none y; setField (.ref e) 1 z) Q Z s:=by
 have nfr:e ∉ (env :: outer).filterMap (·.frame):=fun z=>by
  obtain ⟨_,o,q,r⟩:=ff.mem z
  rw [at_] at q; cases q; exact r vs dt
 refine wpAny_bind (wpAny_frameOf_fun fr ff fl fun g sl=>wpAny_bind (wpAny_entryPlaceOf fun pl ok=>?_))
 unfold EntryCells.newEntry newFields
 refine wpAny_bind (wpAny_newObj_type ?_ (ok.sizeOk5 _ _ _ _ _))
 generalize hO:({ cls:=.type "traceback",dict:=none,data:=.fields ([head,.ref L,.none,rawInt L,.none]++(if pl.isEmpty then List.replicate 6 Value.none else pl)).toArray }:Obj)=ob
 have ge:g.get? e=some oe:=(sl.2.1 e nfr).trans at_
 have gB:B.StaysIn g:=fun b o q=>(sl.2.1 b fun z=>by rw [(ff.mem z).1] at q; cases q).trans (st b o q)
 have ge':(g.push ob).get? e=some oe:=Heap.get?_push_of_some _ ge
 have obf:ob.isFreed=false:=by subst hO; rfl
 have gT:(g.push ob).get? g.objs.size=some ob:=Heap.get?_push_size g obf
 have Te:g.objs.size≠e:=Nat.ne_of_gt (Heap.lt_size ge)
 refine wpAny_setField ge' dt sz ?_
 have d3:=Obj.data_mapFields dt (·.setIfInBounds 1 (Value.ref g.objs.size))
 have e3:=Heap.get?_update_self (Obj.mapFields (·.setIfInBounds 1 (Value.ref g.objs.size))) ge' (Obj.isFreed_of_fields d3)
 have oth:∀ b o,b≠e->g.get? b=some o->((g.push ob).update e (Obj.mapFields (·.setIfInBounds 1 (Value.ref g.objs.size)))).get? b=some o:=fun b o n q=>by
  rw [Heap.get?_update_other _ _ (Ne.symm n)]; exact Heap.get?_push_of_some _ q
 have nrec:∀ b o,s.heap.get? b=some o->(∀ ws,o.data≠.fields ws)->b≠e:=fun b o q r z=>by
  rw [z,at_] at q; cases q; exact r vs dt
 refine go _ ⟨fun b o q=>oth b o (fun z=>by rw [z,nw] at q; cases q) (gB b o q),nw,ff.of_keeps fun b o q r=>?_,?_⟩ ⟨fun b o q r=>?_,fun b o q=>?_⟩
 ·obtain ⟨x,y⟩:=sl.2.2 b o q
  exact ⟨_,oth b _ (nrec b o q r) y,rfl⟩
 ·refine ⟨_,_,g.objs.size,ob,_,e3,Obj.cls_mapFields _ _,dict_mapFields _ _,d3,by simp [sz],gB.fresh,Te,?_,by subst hO; rfl,?_⟩
  ·rw [Heap.get?_update_other _ _ (Ne.symm Te)]; exact gT
  ·simp
 ·obtain ⟨x,y⟩:=sl.2.2 b o q
  exact ⟨x,oth b _ (nrec b o q r) y⟩
 ·by_cases z:b=e
  ·subst z; exact ⟨_,e3⟩
  ·obtain ⟨x,y⟩:=sl.2.2 b o q
   exact ⟨_,oth b _ z y⟩
theorem fly_note0 {oe:Obj} {vs:Array Value} (fr:A.frames=some (env :: outer)) (ff:s.heap.FunFrames B (env :: outer)) (fl:env.frame=some L)
  (at_:s.heap.get? e=some oe) (st:B.StaysIn s.heap) (nw:B.get? e=none) (dt:oe.data=.fields vs) (v1:vs[1]?=some .none)
  (go:∀ h',Flies B (env :: outer) e oe.cls oe.dict (rawInt L) h'->Near s.heap h'->Q () { s with heap:=h' }):wpAny M A (noteFrame (.ref e) env) Q Z s:=by
 unfold noteFrame
 simp only [fl]
 refine wpAny_bind (wpAny_field at_ dt v1 ?_)
 rw [if_neg (by decide)]
 exact fly_entry fr ff fl at_ st nw dt (Array.getElem?_eq_some_iff.mp v1).1 go
theorem fly_note {cls:Value} {dd:Option Addr} (fr:A.frames=some (env :: outer)) (fl:env.frame=some L) (F:Flies B (env :: outer) e cls dd .none s.heap)
  (go:∀ h',Flies B (env :: outer) e cls dd (rawInt L) h'->Near s.heap h'->Q () { s with heap:=h' }):wpAny M A (noteFrame (.ref e) env) Q Z s:=by
 obtain ⟨st,nw,ff,oe,vs,T,oT,ts,q1,rfl,rfl,q4,q5,q6,q7,q8,q9,q10⟩:=F
 unfold noteFrame
 simp only [fl]
 refine wpAny_bind (wpAny_field q1 q4 q5 ?_)
 rw [if_pos (show (Value.ref T != Value.none)=true from by simp)]
 refine wpAny_bind (wpAny_field q8 q9 q10 ?_)
 rw [if_neg (show ¬ ((Value.none == rawInt L)=true) from by simp [rawInt])]
 refine wpAny_bind (wpAny_setField q8 q9 (Array.getElem?_eq_some_iff.mp q10).1 ?_)
 have oth:∀ b,b≠T->(s.heap.update T (Obj.mapFields (·.setIfInBounds 3 Value.none))).get? b=s.heap.get? b:=fun b n=>Heap.get?_update_other _ _ (Ne.symm n)
 have nrec:∀ b o,s.heap.get? b=some o->(∀ ws,o.data≠.fields ws)->b≠T:=fun b o q r z=>by
  rw [z,q8] at q; cases q; exact r ts q9
 refine fly_entry (s:={ s with heap:=s.heap.update T (Obj.mapFields (·.setIfInBounds 3 Value.none)) }) fr (ff.of_keeps fun b o q r=>⟨o,(oth b (nrec b o q r)).trans q,rfl⟩) fl ((oth e (Ne.symm q7)).trans q1) (fun b o q=>(oth b fun z=>by rw [z,q6] at q; cases q).trans (st b o q)) nw q4 (Array.getElem?_eq_some_iff.mp q5).1 fun h' x y=>?_
 refine go h' x ⟨fun b o q r=>y.1 b o ((oth b (nrec b o q r)).trans q) r,fun b o q=>?_⟩
 by_cases z:b=T
 ·subst z; exact y.2 _ _ (Heap.get?_update_self _ q8 (Obj.isFreed_of_fields (Obj.data_mapFields q9 _)))
 ·exact y.2 b o ((oth b z).trans q)
theorem fly_land {l:List Env} {cls fl:Value} {dd:Option Addr} (F:Flies B l e cls dd fl s.heap)
  (go:∀ h',Flies B l e cls dd .none h'->Near s.heap h'->Q () { s with heap:=h' }):wpAny M A (setFlight (.ref e) none) Q Z s:=by
 obtain ⟨st,nw,ff,oe,vs,T,oT,ts,q1,q2,q3,q4,q5,q6,q7,q8,q9,q10⟩:=F
 have sz:=(Array.getElem?_eq_some_iff.mp q10).1
 have oth:∀ b,b≠T->(s.heap.update T (Obj.mapFields (·.setIfInBounds 3 ((none:Option Addr).elim Value.none fun f=>rawInt f)))).get? b=s.heap.get? b:=fun b n=>Heap.get?_update_other _ _ (Ne.symm n)
 have nrec:∀ b o,s.heap.get? b=some o->(∀ ws,o.data≠.fields ws)->b≠T:=fun b o q r z=>by
  rw [z,q8] at q; cases q; exact r ts q9
 unfold setFlight
 refine wpAny_bind (wpAny_field q1 q4 q5 ?_)
 rw [if_pos (show (Value.ref T != Value.none)=true from by simp)]
 refine wpAny_setField q8 q9 sz (go _ ⟨fun b o q=>(oth b fun z=>by rw [z,q6] at q; cases q).trans (st b o q),nw,ff.of_keeps fun b o q r=>⟨o,(oth b (nrec b o q r)).trans q,rfl⟩,?_⟩ ⟨fun b o q r=>⟨o.slots,(oth b (nrec b o q r)).trans q⟩,fun b o q=>?_⟩)
 rotate_left
 ·by_cases z:b=T
  ·subst z; exact ⟨_,Heap.get?_update_self _ q8 (Obj.isFreed_of_fields (Obj.data_mapFields q9 _))⟩
  ·exact ⟨o,(oth b z).trans q⟩
 exact ⟨oe,vs,T,_,_,(oth e (Ne.symm q7)).trans q1,q2,q3,q4,q5,q6,q7,Heap.get?_update_self _ q8 (Obj.isFreed_of_fields (Obj.data_mapFields q9 _)),Obj.data_mapFields q9 _,by simp [sz]⟩
theorem Flies.off {cls fl:Value} {dd:Option Addr} {h:Heap} (F:Flies B (env :: outer) e cls dd fl h):Flies B outer e cls dd fl h:=⟨F.stays,F.new,F.frames.2.2,F.tr⟩
theorem fly_leave {cls:Value} {dd:Option Addr} (fr:A.frames=some (env :: outer)) (fl:env.frame=some L) (F:Flies B (env :: outer) e cls dd .none s.heap)
  (go:∀ h',Flies B outer e cls dd .none h'->Near s.heap h'->Q () { s with heap:=h' }):wpAny M A (leaving env (.ref e)) Q Z s:=by
 unfold leaving
 exact wpAny_bind (fly_note fr fl F fun h1 F1 u1=>fly_land F1 fun h2 F2 u2=>go h2 F2.off (u1.trans u2))
structure Made (h h':Heap) (e:Addr) (cls:Value) (dd:Option Addr):Prop where
 keeps:∀ b o,h.get? b=some o->h'.get? b=some o
 new:h.get? e=none
 at_:∃ oe vs,h'.get? e=some oe/\oe.cls=cls/\oe.dict=dd/\oe.data=.fields vs/\vs[1]?=some .none
theorem Made.of {cls:Value} {h h':Heap} {vs:List Value} (mk:Heap.MadeExcOf h h' e cls vs):Made h h' e cls none :=
 let ⟨_,q1,_,_⟩:=mk.there; ⟨mk.keeps,mk.new,_,_,q1,rfl,rfl,rfl,rfl⟩
theorem Made.fresh {cls:Value} {dd:Option Addr} {h h':Heap} (mk:Made h h' e cls dd) (st:B.StaysIn h):B.get? e=none:=by
 cases q:B.get? e with
 | none=>rfl
 | some o=>have:=st e o q; rw [mk.new] at this; cases this
theorem fly_leave0 {cls:Value} {dd:Option Addr} {h:Heap} (fr:A.frames=some (env :: outer)) (fl:env.frame=some L) (ff:h.FunFrames B (env :: outer)) (st:B.StaysIn h) (mk:Made h s.heap e cls dd)
  (go:∀ h',Flies B outer e cls dd .none h'->Near s.heap h'->Q () { s with heap:=h' }):wpAny M A (leaving env (.ref e)) Q Z s:=by
 obtain ⟨oe,vs,q1,rfl,rfl,q4,q5⟩:=mk.at_
 unfold leaving
 exact wpAny_bind (fly_note0 fr (ff.of_keeps fun b o q _=>⟨o,mk.keeps b o q,rfl⟩) fl q1 (fun b o q=>mk.keeps b o (st b o q)) (mk.fresh st) q4 q5 fun h1 F1 u1=>fly_land F1 fun h2 F2 u2=>go h2 F2.off (u1.trans u2))
end
end DL
end
noncomputable section
namespace DL
open PySem PySem.Spec PyProof.Rows L2 PySem.W
section
variable {prog:Program} {w:World} {A:Around} {Z:Value->Shared->Prop} {s:Shared} {K:PySem.W.Frag} {x D:Addr} {ox:Obj} {od:Option Obj} {name:Str}
structure ExcCls (K:PySem.W.Frag) (D:Addr):Prop where
 ga:findIn K (.ref D) "__getattribute__"=some (some (.builtin "BaseException.__getattribute__"))
 hook:findIn K (.ref D) "__getattr__"=some none
 base:mroIn K D (.type "BaseException")=some true
 obj:mroIn K D (.type "object")=some true
 cls:(clsIn K D).isSome=true
 ca:findIn K (.ref D) "__class__"=some (some (.builtin "object.__class__"))
 cg:specialIn K (.builtin "object.__class__") "__get__"=some (some (.builtin "getset_descriptor.__get__"))
 ct:takesIn K (.builtin "object.__class__")=some true
theorem exc_check {M:Model} {nameV:Value} {Q:Unit->Shared->Prop} (L4:Looks M s.heap (isInstance (.ref x) (.type "BaseException")) true) (hq:Q () s):wpAny M A (checkBuiltinCall "BaseException.__getattribute__" ⟨[.ref x,nameV],[]⟩) Q Z s:=by
 obtain ⟨hh,g,d,t,os⟩:=s
 have hk:builtinKind "BaseException.__getattribute__"=some .slot:=by decide +kernel
 have hsplit:splitId "BaseException.__getattribute__"=some ("BaseException","__getattribute__"):=by decide +kernel
 have ha:=PySem.F.args_bexc_ga (.ref x) nameV
 simp only [checkBuiltinCall,hk,hsplit]
 refine wpAny_bind (L4.at ?_)
 repeat (first | assumption | wp_step)
theorem exc_attr {Q:Value->Shared->Prop} {fill expr:Bool} {tk:Tok} (X:K.In s.heap) (I:InstAt s.heap x ox D od) (F:ExcCls K D)
  (h:wpAny (model prog w) A.in1 (Builtin.«object.__getattribute__» ⟨[.ref x,.str name tk],[]⟩)
   (fun fin s'=>match fin with | .done (.ret v)=>wpAny (model prog w) A (handedOut v) Q (fun _ _=>False) s' | _=>False) (fun _ _=>False) s) :
  wpAny (model prog w) A (getAttrBy (.ref x) (.str name tk) fill expr) Q Z s:=by
 obtain ⟨hh,g,d,t,os⟩:=s
 have L0:=I.type (M:=model prog w)
 have L1:=looks_findIn (M:=model prog w) X F.ga
 have L2:=looks_findIn (M:=model prog w) X F.hook
 have L3:=looks_mroIn (M:=model prog w) X F.base
 have hx2:(Value.builtin "BaseException.__getattribute__" == Value.builtin "object.__getattribute__")=false:=by decide +kernel
 have tf:typeOf (.builtin "BaseException.__getattribute__")=pure (.type "wrapper_descriptor"):=by kernel_rfl
 unfold getAttrBy
 refine wpAny_holding (wpAny_bind (L0.at (wpAny_bind (L1.at ?_))))
 dsimp only
 rw [if_neg (by rw [hx2]; simp)]
 unfold getAttrByItsOwn hookBefore
 rw [if_pos (show onTheHeap (Value.ref D)=true from rfl)]
 refine wpAny_bind (L2.at ?_)
 unfold callGetattribute
 rw [show (expr && onTheHeap (Value.builtin "BaseException.__getattribute__"))=false from Bool.and_false _,if_neg (by simp)]
 refine wpAny_bind (wpAny_attempt (wpAny_holding ?_))
 unfold boundAndCalled bindSpecial
 rw [tf]
 refine wpAny_bind (wpAny_bind (wpAny_pure ?_))
 rw [if_pos (by decide)]
 refine wpAny_pure (wpAny_call (codeAny_call_builtin ?pl PySem.F.entry_bexc_ga ?ck))
 case pl=>exact PySem.F.excAttr_ValueError.ga.plain
 case ck =>
  refine exc_check (L0.andThen L3) (wpAny_mono h (fun fin s' z=>?_) fun _ _ z=>z.elim)
  rcases fin with (_ | _ | _ | _) | _<;>first | exact z.elim | exact wpAny_mono z (fun v s'' hv=>hv) fun _ _ z=>z.elim
theorem exc_find_class (c:(clsIn K D).isSome=true) (F:ExcCls K D):findObj K D od "__class__"=some (.bind (.builtin "getset_descriptor.__get__") (.builtin "object.__class__")):=by
 obtain ⟨cd,hc⟩:=Option.isSome_iff_exists.mp c
 unfold findObj
 rw [hc,Option.bind_some,F.ca,Option.bind_some]
 simp [F.cg,F.ct]
theorem exc_class {Q:Option Value->Shared->Prop} (X:K.In s.heap) (I:InstAt s.heap x ox D od) (F:ExcCls K D) (h:Q (some (.ref D)) { s with toks:=s.toks + 1 }):wpAny (model prog w) A (getAttr? (.ref x) "__class__") Q Z s:=by
 unfold getAttr? getAttrBy?
 refine wpAny_bind (wpAny_mkText (wpAny_bind (wpAny_attempt (exc_attr (s:={ s with toks:=s.toks + 1 }) X I F ?_))))
 obtain ⟨hh,g,d,t,os⟩:=s
 have L0:=I.type (M:=model prog w)
 have L1:=looks_find (M:=model prog w) X I (exc_find_class F.cls F)
 unfold Builtin.«object.__getattribute__»
 refine wpAny_bind (wpAny_pure (wpAny_bind ?_))
 show wpAny _ _ (pure _) _ _ _
 refine wpAny_pure (wpAny_bind (L0.at (wpAny_bind (L1.at ?_))))
 dsimp only
 unfold Builtin.ObjectAttr.bindTo
 refine wpAny_bind (wpAny_holding (wpAny_call (class_get (s:=⟨hh,g,d,t + 1,os⟩) X I F.obj ?_)))
 refine wpAny_pure ?_
 show wpAny _ _ (handedOut (.ref D)) _ _ _
 refine wpAny_pure (wpAny_pure ?_)
 exact h
theorem kitx_exc (F:ExcCls K D):KitX K (.ref x) (.ref D) (fun h=>∃ ox od,InstAt h x ox D od) where
 ty:=fun _ _ _ ⟨_,_,I⟩=>I.type
 it:=fun M h X _=>by
  obtain ⟨cd,hc⟩:=Option.isSome_iff_exists.mp F.cls
  unfold clsIn at hc
  split at hc
  ·rename_i ho
   intro A' Q' E' s' k q
   unfold isType loadHead
   exact wpAny_bind (wpAny_loadPart (k _ _ (X _ _ ho)) (wpAny_pure q))
  ·cases hc
 ne:=fun h tp dd its n sl X htp=>by
  obtain ⟨cd,hc⟩:=Option.isSome_iff_exists.mp F.cls
  refine Bool.eq_false_iff.mpr fun q=>?_
  obtain rfl:D=tp:=Value.ref.inj (beq_iff_eq.mp q)
  unfold clsIn at hc
  split at hc
  ·rename_i ho
   have z:=(X _ _ ho).symm.trans htp
   cases z
  ·cases hc
 ca:=fun X ⟨_,_,I⟩ k=>exc_class X I F k
end
noncomputable def xPlain:List Str:=["NoNumber","NoTube","NoRow","NoMeasure","NoData","NoPrice","NoNeeds","NoRoom","NoJobs"]
noncomputable def xInit:List Str:=["NoText","NoLevel","NoCall","NoKept"]
noncomputable def xNames:List Str:="CordError" :: (xPlain++xInit)
noncomputable def isSub (n c:Str):Bool:=decide (n=c) || decide (c="CordError")
noncomputable def bmV:List Value:=[.type "ValueError",.type "Exception",.type "BaseException",.type "object"]
noncomputable def clsAt (K:PySem.W.Frag) (n:Str):Option Addr:=match nsIn K mainGlobals n with | some (some (.ref C))=>some C | _=>none
noncomputable def excClsB (K:PySem.W.Frag) (D:Addr):Bool :=
 (findIn K (.ref D) "__getattribute__" == some (some (.builtin "BaseException.__getattribute__"))) && (findIn K (.ref D) "__getattr__" == some none) && (mroIn K D (.type "BaseException") == some true) && (mroIn K D (.type "object") == some true) && (clsIn K D).isSome
 && (findIn K (.ref D) "__class__" == some (some (.builtin "object.__class__"))) && (specialIn K (.builtin "object.__class__") "__get__" == some (some (.builtin "getset_descriptor.__get__"))) && (takesIn K (.builtin "object.__class__") == some true)
noncomputable def xTab0 (K:PySem.W.Frag):Bool:=xNames.all fun n=>match clsAt K n with
 | none=>true
 | some D=>excClsB K D && (!(xPlain.contains n) || excIn K D bmV "ValueError.__new__") && (kitOne K (.ref D) (.type "ValueError") == some true) && (["int","bool","str","tuple","list","dict"].all fun T=>kitOne K (.ref D) (.type T) == some false) && xNames.all fun c=>match clsAt K c with
  | none=>true
  | some C=>(exmOne K (.ref D) (.ref C) == some (isSub n c)) && (kitOne K (.ref D) (.ref C) == some (isSub n c))
noncomputable def oNames:List Str:=["Funnel"]
noncomputable def oFields:List Str:=["places","touches","showing"]
noncomputable def oTabB (K:PySem.W.Frag):Bool:=oNames.all fun n=>match clsAt K n with
 | none=>true
 | some C=>plainGet K C Str.empty && hasDictIn K C && plainOver K C && (findIn K (.ref C) "__setattr__" == some (some (.builtin "object.__setattr__"))) && oFields.all fun f=>findIn K (.ref C) f == some none
noncomputable def ClsOf (K:PySem.W.Frag) (n:Str) (C:Addr):Prop:=nsIn K mainGlobals n=some (some (.ref C))
section
variable {K:PySem.W.Frag} {n c:Str} {C D:Addr}
theorem clsAt_of (h:ClsOf K n D):clsAt K n=some D:=by unfold clsAt; rw [show nsIn K mainGlobals n=some (some (.ref D)) from h]
end
end DL
end
noncomputable section
namespace DL
open PySem PySem.Spec PyProof.Rows L2 PySem.W PySem.Builtin PySem.Builtin.ObjectAttr
section
variable {prog:Program} {w:World} {A:Around} {E:Value->Shared->Prop} {h:Heap} {g:Array GenState} {d:Drawn} {t:Nat} {os:OsState}
variable {nm q:Str} {C N:Addr} {bs bm bmB bmN:List Value} {hdct:Bool} {sn:List Str} {sub:List Value} {ab:Bool} {col:Option Bool} {dd:Option Addr} {k0 k1 k2 k3 k5:Option Value} {B Bn newId nid initId inN:String}
theorem type_call_initU (Fn:ExcBaseFacts Bn newId inN bmN) (hBn:bmB.contains (.type Bn)=true) (F:ExcBaseFacts B nid initId bmB) (T:OwnTail h bmB bm) {mN:Str->Option Value} {rest:List Value} {fI:Addr} {oI:Obj} {Q:Fin->Shared->Prop}
  (hC:h.get? C=some (excClassObj nm q C N bs bm hdct sn sub ab col dd k0 k1 k2 k3 k5 newId)) (hn:h.Ns N mN) (hi:mN "__init__"=some (.ref fI)) (hfI:h.get? fI=some oI) (hfc:oI.cls=.type "function")
  (hq:∀ h' e,Heap.MadeExcOf h h' e (.ref C) rest->wpAny (model prog w) A (call (.ref fI) (.ref e :: rest)) (fun r s'=>r=.none/\Q (.done (.ret (.ref e))) s') E ⟨h',g,d,t,os⟩) (hrest:rest.length<=sizeLine) :
  wpAny (model prog w) A (Builtin.«type.__call__» ⟨.ref C :: rest,[]⟩) Q E ⟨h,g,d,t,os⟩:=by
 repeat (first | with_reducible refine wpAny_loadPart_at hC ?_ | with_reducible refine wpAny_madeBy_exc hC ?_ | wp_step)
 refine codeAny_call_builtin_code (Code.quiet_builtin _ Fn.quiet) (wpAny_check_new_subU Fn hBn T hC ?_)
 refine codeAny_exc_new_subU Fn hBn F T hC ?_ hrest
 show wpAny _ _ _ _ _ _
 have hC₁:=Heap.get?_push_of_some { cls:=.ref C,data:=.fields #[.ref h.objs.size,.none,.none,.none,.bool false,.none] }
  (Heap.get?_push_of_some { cls:=.type "tuple",data:=.seq rest.toArray } hC)
 have hfI₁:=Heap.get?_push_of_some { cls:=.ref C,data:=.fields #[.ref h.objs.size,.none,.none,.none,.bool false,.none] }
  (Heap.get?_push_of_some { cls:=.type "tuple",data:=.seq rest.toArray } hfI)
 have hn₁:((h.push { cls:=.type "tuple",data:=.seq rest.toArray }).push { cls:=.ref C,data:=.fields #[.ref h.objs.size,.none,.none,.none,.bool false,.none] }).Ns N mN :=
  let ⟨o,es,ep,e,r⟩:=hn; ⟨o,es,ep,Heap.get?_push_of_some _ (Heap.get?_push_of_some _ e),r⟩
 have hget:((h.push { cls:=.type "tuple",data:=.seq rest.toArray }).push
   { cls:=.ref C,data:=.fields #[.ref h.objs.size,.none,.none,.none,.bool false,.none] }).get? (h.objs.size + 1)=some
   { cls:=.ref C,data:=.fields #[.ref h.objs.size,.none,.none,.none,.bool false,.none] }:=by heap_get
 have hcC:(Value.ref C :: bm).contains (.ref C)=true:=by simp
 have T₁:=T.keeps (h':=(h.push { cls:=.type "tuple",data:=.seq rest.toArray }).push { cls:=.ref C,data:=.fields #[.ref h.objs.size,.none,.none,.none,.bool false,.none] })
  fun b o e=>Heap.get?_push_of_some _ (Heap.get?_push_of_some _ e)
 unfold isInstance
 repeat (first | with_reducible refine wpAny_loadPart_at hget ?_ | (with_reducible refine wpAny_isSubtype_exc hC₁ ?_; rw [hcC]) | wp_step)
 show wpAny _ _ (typeLookup (.ref C) _) _ _ _
 refine wpAny_typeLookup_tail hC₁ hn₁ T₁ F.mroIs F.init.lookup ?_
 rw [hi]
 refine wpAny_holding (wpAny_bind ?_)
 unfold bindSpecial
 refine wpAny_bind (wpAny_typeOf (T:="function") ⟨_,hfI₁,hfc⟩ ?_)
 rw [if_pos (by decide)]
 refine wpAny_pure (wpAny_bind (wpAny_mono (hq _ (h.objs.size + 1) ⟨fun b o hb=>Heap.get?_push_of_some _ (Heap.get?_push_of_some _ hb),Heap.get?_none_of_le (Nat.le_succ _),h.objs.size,hget,Heap.get?_none_of_le (Nat.le_refl _),?_⟩) (fun r s' hr=>?_) fun _ _ x=>x))
 ·exact Heap.get?_push_of_some _ (Heap.get?_push_at rfl rfl)
 ·obtain ⟨rfl,hQ⟩:=hr
  wp_walk
  exact hQ
theorem call_exc_initU (Fn:ExcBaseFacts Bn newId inN bmN) (hBn:bmB.contains (.type Bn)=true) (F:ExcBaseFacts B nid initId bmB) (T:OwnTail h bmB bm) {mN:Str->Option Value} {rest:List Value} {fI:Addr} {oI:Obj} {Q:Value->Shared->Prop}
  (hC:h.get? C=some (excClassObj nm q C N bs bm hdct sn sub ab col dd k0 k1 k2 k3 k5 newId)) (hn:h.Ns N mN) (hi:mN "__init__"=some (.ref fI)) (hfI:h.get? fI=some oI) (hfc:oI.cls=.type "function")
  (hq:∀ h' e,Heap.MadeExcOf h h' e (.ref C) rest->wpAny (model prog w) (A.under (.builtin "type.__call__" ⟨.ref C :: rest,[]⟩)) (call (.ref fI) (.ref e :: rest)) (fun r s'=>r=.none/\Q (.ref e) s') E ⟨h',g,d,t,os⟩) (hrest:rest.length<=sizeLine) :
  wpAny (model prog w) A (call (.ref C) rest) Q E ⟨h,g,d,t,os⟩:=by
 have f1:=tc_lookup
 have f2:=tc_bind (.ref C)
 have hT:(⟨h,g,d,t,os⟩:Shared).TypeIs (.ref C) "type":=⟨_,hC,rfl⟩
 refine wpAny_call (codeAny_of_tree ?_)
 show wpAny _ _ (callAny (.ref C) _) _ _ _
 repeat (any_goals (first | assumption | with_reducible refine wpAny_loadPart_at hC ?_ | wp_step))
 refine ⟨rfl,?_⟩
 exact codeAny_call_builtin_at (Code.quiet_builtin _ (by decide +kernel)) entry_typeCall (wpAny_check_type_call_sub hC (type_call_initU Fn hBn F T hC hn hi hfI hfc (fun h' e hm=>hq h' e hm) hrest))
theorem init_own (F:ExcBaseFacts B nid initId bmB) (T:OwnTail h bmB bm) {e t0:Addr} {ob:Obj} {vs:Array Value} {rest:List Value} {Q:Value->Shared->Prop}
  (hC:h.get? C=some (excClassObj nm q C N bs bm hdct sn sub ab col dd k0 k1 k2 k3 k5 newId)) (he:h.get? e=some ob) (hcls:ob.cls=.ref C) (hd:ob.data=.fields vs) (h0:vs[0]?=some (.ref t0))
  (hq:Q .none ⟨(h.push { cls:=.type "tuple",data:=.seq rest.toArray }).update e (Obj.mapFields (·.setIfInBounds 0 (.ref h.objs.size))),g,d,t,os⟩) (hrest:rest.length<=sizeLine) :
  wpAny (model prog w) A (call (.builtin initId) (.ref e :: rest)) Q E ⟨h,g,d,t,os⟩:=by
 refine wpAny_call (codeAny_call_builtin F.init.plain F.initEntry (wpAny_check_init_subU F T hC he hcls ?_))
 unfold Builtin.«BaseException.__init__»
 dsimp only
 rw [if_neg (by simp)]
 unfold newTuple Builtin.BaseException.bexcPut
 have hsz:0 < vs.size:=(Array.getElem?_eq_some_iff.mp h0).1
 have he₁:=Heap.get?_push_of_some (h:=h) { cls:=.type "tuple",data:=.seq rest.toArray } he
 refine wpAny_bind (wpAny_newObj_type (wpAny_bind (wpAny_bind (wpAny_field he₁ hd h0 (wpAny_bind (wpAny_setField he₁ hd hsz ?_))))) (by show rest.toArray.size<=sizeLine; rw [List.size_toArray]; exact hrest))
 exact wpAny_letGo (wpAny_pure hq)
theorem raise_own {M:Model} {env:Env} {s:Shared} {x:Sem Value} {Q:Flow->Shared->Prop} (hbase:bm.contains (.type "BaseException")=true) (hh:A.handled=none)
  (hx:wpAny M A x (fun v s₁=>∃ e ob vs,v=.ref e/\s₁.heap.get? C=some (excClassObj nm q C N bs bm hdct sn sub ab col dd k0 k1 k2 k3 k5 newId)/\s₁.heap.get? e=some ob/\ob.cls=.ref C/\ob.data=.fields vs/\vs[1]?=some .none/\E (.ref e) s₁) E s) :
  wpAny M A (raiseStmt env (some x) none) Q E s:=by
 have hcB:(Value.ref C :: bm).contains (.type "BaseException")=true:=by rw [List.contains_cons,hbase,Bool.or_true]
 unfold raiseStmt
 refine wpAny_bind (wpAny_mono hx (fun v s₁ h₁=>?_) fun _ _ x=>x)
 obtain ⟨e,⟨oc,od,odt,osl⟩,vs,rfl,hC,he,hc,hdt,hv,hE⟩:=h₁
 dsimp only at hc hdt
 subst hc hdt
 obtain ⟨hp,g,d,tk,os⟩:=s₁
 repeat (first | with_reducible refine wpAny_loadPart_at he ?_ | with_reducible refine wpAny_loadPart_at hC ?_ | (with_reducible refine wpAny_isSubtype_exc hC ?_; rw [hcB]) | wp_step)
 rw [hv]
 refine wpAny_pure ?_
 rw [if_neg (by simp)]
 exact wpAny_pure (wpAny_raiseNew_none hh hE)
theorem raise_call_initU {env:Env} {s:Shared} (Fn:ExcBaseFacts Bn newId inN bmN) (hBn:bmB.contains (.type Bn)=true) (F:ExcBaseFacts B nid initId bmB) {mN:Str->Option Value} {x:Str} {np cpos pos:Pos} {args:List Expr} {fI:Addr} {Q:Flow->Shared->Prop}
  (hbase:bm.contains (.type "BaseException")=true) (hh:A.handled=none) (hplain:(backTo cpos (starEach args env)).any (·.1)=false) (hni:mN "__init__"=some (.ref fI))
  (hx:wpAny (model prog w) A (eval (.Name x np) env) (fun f s₁=>f=.ref C/\wpAny (model prog w) A (evalArgs (.ref C) true (backTo cpos (starEach args env)) [])
   (fun a s₂=>a.kw=[]/\a.pos.length<=sizeLine/\s₂.heap.get? C=some (excClassObj nm q C N bs bm hdct sn sub ab col dd k0 k1 k2 k3 k5 newId)/\s₂.heap.Ns N mN/\OwnTail s₂.heap bmB bm/\(∃ oI,s₂.heap.get? fI=some oI/\oI.cls=.type "function") /\
    ∀ h' e,Heap.MadeExcOf s₂.heap h' e (.ref C) a.pos->wpAny (model prog w) (A.under (.builtin "type.__call__" ⟨.ref C :: a.pos,[]⟩)) (call (.ref fI) (.ref e :: a.pos)) (fun r s'=>r=.none/\∃ ob vs,s'.heap.get? C=some (excClassObj nm q C N bs bm hdct sn sub ab col dd k0 k1 k2 k3 k5 newId)/\s'.heap.get? e=some ob/\ob.cls=.ref C/\ob.data=.fields vs/\vs[1]?=some .none/\E (.ref e) s') E { s₂ with heap:=h' }) E s₁) E s) :
  wpAny (model prog w) A (exec (.Raise (some (.Call (.Name x np) args [] cpos)) none pos) env) Q E s:=by
 rw [arm_exec_Raise]
 refine wpAny_bind (wpAny_standAt (raise_own (C:=C) (nm:=nm) (q:=q) (N:=N) (bs:=bs) (bm:=bm) (hdct:=hdct) (sn:=sn) (sub:=sub) (ab:=ab) (col:=col) (dd:=dd) (k0:=k0) (k1:=k1) (k2:=k2) (k3:=k3) (k5:=k5) (newId:=newId) hbase hh (wpAny_bind (wpAny_mono (wpAny_Call_ofName (wpAny_mono hx (fun f s₁ h₁=>?_) fun _ _ x=>x)) (fun v s₃ h₃=>wpAny_bind (wpAny_standAt (wpAny_pure h₃))) fun _ _ x=>x))))
 obtain ⟨rfl,h₁⟩:=h₁
 unfold callWith
 refine wpAny_bind (wpAny_holding (wpAny_mono h₁ (fun a s₂ h₂=>wpAny_bind (wpAny_standAt ?_)) fun _ _ x=>x))
 obtain ⟨apos,akw⟩:=a
 obtain ⟨hkw,hlen,hC,hn,T,⟨oI,hfI,hfc⟩,h₂⟩:=h₂
 obtain rfl:akw=[]:=hkw
 obtain ⟨hp,g,d,tk,os⟩:=s₂
 simp only [hplain]
 refine wpAny_bind (wpAny_keeperOf_exc hC ?_)
 refine wpAny_bind (call_exc_initU Fn hBn F T hC hn hni hfI hfc (fun h' e hm=>wpAny_mono (h₂ h' e hm) (fun r s' hr=>⟨hr.1,wpAny_bind (wpAny_holding (wpAny_point (wpAny_pure ?_)))⟩) fun _ _ z=>z) hlen)
 obtain ⟨ob,vs,c1,c2,c3,c4,c5,c6⟩:=hr.2
 exact ⟨e,ob,vs,rfl,c1,c2,c3,c4,c5,c6⟩
end
noncomputable def passB:List Value->Bool
 | .ref _ :: r=>passB r
 | l=>l == bmV
theorem refuse_pass (self:Value):∀ {l:List Value},passB l=true->refuseLoop self "__setattr__" l=pure ()
 | [],e=>by simp [passB,bmV] at e
 | v :: r,e=>by
  have other:v :: r=bmV->refuseLoop self "__setattr__" (v :: r)=pure ():=fun z=>by rw [z]; exact PySem.F.store_ValueError.passes self
  cases v with
  | ref c=>rw [refuseLoop_ref]; exact refuse_pass self (l:=r) (by simpa [passB] using e)
  | _=>exact other (by simpa [passB] using e)
section
variable {prog:Program} {w:World} {A:Around} {E:Value->Shared->Prop} {K:PySem.W.Frag} {C x:Addr} {s:Shared} {R:Result->Shared->Prop} {cd:ClassData}
theorem osa_exc {ox:Obj} {od:Option Obj} {name:Str} {tk:Tok} {v:Value} (X:K.In s.heap) (I:InstAt s.heap x ox C od) (hc:clsIn K C=some cd) (ho:passB cd.mro=true) (hob:mroIn K C (.type "object")=some true) (ht:findIn K (.ref C) name=some none)
  (h:wpAny (model prog w) A.in1 (storeInOwnDict (.ref x) (.ref C) (.str name tk) name v false)
   (fun fin s'=>match fin with | .done f=>R (.ok f) s' | .again c'=>c'.quiet=true/\codeAny (model prog w) A c' R s') (fun e s'=>R (.error e) s') s) :
  codeAny (model prog w) A (.call (.builtin "object.__setattr__") ⟨[.ref x,.str name tk,v],[]⟩) R s:=by
 have SF:=PySem.F.store_object
 have sub:Looks (model prog w) s.heap (isInstance (.ref x) (.type "object")) true:=I.type.andThen (looks_mroIn X hob)
 refine codeAny_call_builtin SF.slot.plain SF.entry (@check_slot (model prog w) _ _ s "object.__setattr__" "object" "__setattr__" (.ref x) [.str name tk,v] [] _ SF.kind SF.split sub (SF.args (.ref x) (.str name tk) v) ?_)
 have hm:Looks (model prog w) s.heap (mroOf (.ref C)) cd.mro:=(looks_clsIn X hc).andThen .now
 have L3:Looks (model prog w) s.heap (storeTaker? none) none:=.now
 rw [osa_eq,refuse_eq]
 refine wpAny_bind (wpAny_bind (I.type.here (wpAny_bind (hm.here ?_))))
 rw [refuse_pass _ ho]
 refine wpAny_pure (wpAny_bind (I.type.here (wpAny_bind ((looks_findIn X ht).here (wpAny_bind (L3.here ?_))))))
 exact h
theorem exc_set {ox:Obj} {vs:Array Value} {name:Str} {v:Value} {Q:Unit->Shared->Prop} (X:K.In s.heap) (hx:s.heap.get? x=some ox) (hcl:ox.cls=.ref C) (hd:ox.dict=none) (hdt:ox.data=.fields vs)
  (hs:findIn K (.ref C) "__setattr__"=some (some (.builtin "object.__setattr__"))) (hc:clsIn K C=some cd) (hdc:cd.hasDict=true) (ho:passB cd.mro=true) (hob:mroIn K C (.type "object")=some true) (ht:findIn K (.ref C) name=some none)
  (h:∀ h' t',h'.get? x=some { ox with dict:=some s.heap.objs.size }->h'.Ns1 s.heap.objs.size (fun y=>if y=name then some v else none)->(∀ b o,b≠x->s.heap.get? b=some o->h'.get? b=some o)->Q () { s with heap:=h',toks:=t' }) :
  wpAny (model prog w) A (setAttr (.ref x) name v) Q E s:=by
 obtain ⟨oc,odi,odt,osl⟩:=ox
 dsimp only at hcl hd hdt
 subst hcl hd hdt
 have I:InstAt s.heap x ⟨.ref C,none,.fields vs,osl⟩ C none:=⟨hx,rfl,rfl,trivial⟩
 refine set_plain X I hs (osa_exc (s:={ s with toks:=s.toks + 1 }) X I hc ho hob ht ?_)
 have hx₁:(s.heap.push { cls:=.type "dict",data:=.dict #[] }).get? x=some ⟨.ref C,none,.fields vs,osl⟩:=Heap.get?_push_of_some _ hx
 have hxs:x≠s.heap.objs.size:=Nat.ne_of_lt (Heap.lt_size hx)
 refine wpAny_bind (wpAny_pure (wpAny_bind (wpAny_bind (wpAny_loadPart hx (wpAny_bind (Looks.here (s:={ s with toks:=s.toks + 1 }) (looks_clsIn X hc) ?_))))))
 rw [hdc]
 show wpAny _ _ (if (!true || !typeHasDict (.ref C))=true then _ else _) _ _ _
 rw [if_neg (by simp [typeHasDict])]
 refine wpAny_bind (wpAny_alloc' ?_)
 refine wpAny_bind (wpAny_update' hx₁ ?_)
 refine wpAny_pure ?_
 have hgd:((s.heap.push { cls:=.type "dict",data:=.dict #[] }).update x fun o=>{ cls:=o.cls,dict:=some s.heap.objs.size,data:=o.data,slots:=o.slots }).get? s.heap.objs.size
   = some { cls:=.type "dict",data:=.dict #[] } :=
  (Heap.get?_update_ne _ _ _ _ hxs.symm).trans (Heap.get?_push_at rfl rfl)
 have hnd:((s.heap.push { cls:=.type "dict",data:=.dict #[] }).update x fun o=>{ cls:=o.cls,dict:=some s.heap.objs.size,data:=o.data,slots:=o.slots }).Ns s.heap.objs.size (fun _=>none) :=
  ⟨_,#[],_,hgd,rfl,fun e he=>absurd he (by simp),fun _=>rfl⟩
 refine wpAny_bind (wpAny_pure (wpAny_bind (wpAny_nsSet1 (Heap.Ns1.of_empty hnd) fun h' hn' hs=>?_)))
 obtain ⟨oD,esD,epD,hoD,hdD,hcD⟩:=hn'.count (PySem.Within.cons name v PySem.Within.nil)
 refine wpAny_bind (wpAny_lookBehind hoD (by rw [hdD]; exact pastItsLine_dict (Nat.le_trans hcD (by rw [List.length_cons,List.length_nil,sizeLine_eq]; omega))) ?_)
 refine wpAny_pure (h h' _ ?_ hn' fun b o hb e=>?_)
 ·refine (hs.2 x hxs).trans (Heap.get?_update_self _ hx₁ rfl)
 ·exact (hs.2 b (Nat.ne_of_lt (Heap.lt_size e))).trans ((Heap.get?_update_ne _ _ _ _ hb).trans (Heap.get?_push_of_some _ e))
end
noncomputable def fldOf (n:Str):Str:=if n="NoText" then "part" else if n="NoLevel" then "number" else if n="NoCall" then "row" else "name"
noncomputable def initBody (f:Str):List Stmt->Bool
 | [.Expr (.Call (.Attribute (.Name c _) m ap) [.Name s _,.Constant (.str _) _ _] [] cp) _,.Assign [.Attribute (.Name s2 _) g _] (.Name x _) _]=>c == "CordError" && m == "__init__" && s == "self" && s2 == "self" && g == f && x == f && (ap.endLine == cp.line)
 | _=>false
noncomputable def initScope (f:Str) (sc:Scope):Bool:=sc.kind == .function && !sc.isCoroutine && !sc.isGenerator && (sc.names == [(("self":Str),NameKind.local),(f,.local),("CordError",.globalImplicit)])
noncomputable def initPar (f:Str) (p:Arguments):Bool:=p.posonlyargs.isEmpty && (p.args.map (·.arg) == [("self":Str),f]) && p.vararg.isNone && p.kwonlyargs.isEmpty && p.kw_defaults.isEmpty && p.kwarg.isNone
noncomputable def initFd (K:PySem.W.Frag) (f:Str) (fd:FuncData):Bool:=(match fd.body with | .stmts b=>initBody f b | _=>false) && initScope f fd.scope && initPar f fd.params && fd.globals == mainGlobals && fd.builtins == builtinsNs && fd.closure.isEmpty && codeIn K fd.code fd.qualname &&
 (match fd.defaults with | .ref T=>(match K.lookup T with | some ⟨_,_,.seq its _,_⟩=>its.size == 1 | _=>false) | _=>false)
noncomputable def initFn (K:PySem.W.Frag) (f:Str) (fI:Addr):Bool:=match K.lookup fI with
 | some ⟨.type "function",_,.func fd,_⟩=>initFd K f fd
 | _=>false
noncomputable def excInI (K:PySem.W.Frag) (C:Addr):Option Addr:=match K.lookup C with
 | some ⟨.type "type",_,.cls cd,sl⟩=>(match cd.mro,sl.toList with
  | .ref C' :: bm,[_,_,_,_,some (.builtin n),_]=>if (C' == C && n == "ValueError.__new__" && !cd.hasDel && tailIn K bmV bm && nsOkIn K cd.ns && cd.hasDict && passB cd.mro) then (match nsIn K cd.ns "__init__" with | some (some (.ref f))=>some f | _=>none) else none
  | _,_=>none)
 | _=>none
noncomputable def initOk (K:PySem.W.Frag) (n:Str) (D:Addr):Bool:=match clsAt K "CordError",excInI K D with
 | some B,some fI=>(findIn K (.ref D) "__setattr__" == some (some (.builtin "object.__setattr__"))) && (findIn K (.ref D) (fldOf n) == some none) && readsIn K B (.type "type")
   && (match findCls K (.ref B) (.type "type") "__init__" with | some (.val v)=>v == .builtin "ValueError.__init__" | _=>false) && (specialIn K (.ref B) "__getattribute__" == some (some (.builtin "type.__getattribute__"))) && keepIn K (.ref D) && initFn K (fldOf n) fI
 | _,_=>false
noncomputable def iTabB (K:PySem.W.Frag):Bool:=xInit.all fun n=>match clsAt K n with
 | none=>true
 | some D=>initOk K n D
structure InitAt (K:PySem.W.Frag) (n:Str) (D B fI:Addr):Prop where
 ex:excInI K D=some fI
 b:clsAt K "CordError"=some B
 sa:findIn K (.ref D) "__setattr__"=some (some (.builtin "object.__setattr__"))
 nf:findIn K (.ref D) (fldOf n)=some none
 rd:readsIn K B (.type "type")=true
 fc:findCls K (.ref B) (.type "type") "__init__"=some (.val (.builtin "ValueError.__init__"))
 sp:specialIn K (.ref B) "__getattribute__"=some (some (.builtin "type.__getattribute__"))
 kp:keepIn K (.ref D)=true
 fn:initFn K (fldOf n) fI=true
theorem initAt_of {K:PySem.W.Frag} {n:Str} {D:Addr} (h:initOk K n D=true):∃ B fI,InitAt K n D B fI:=by
 unfold initOk at h
 split at h
 next B fI e1 e2 =>
  simp only [Bool.and_eq_true,beq_iff_eq] at h
  obtain ⟨⟨⟨⟨⟨⟨h1,h2⟩,h3⟩,h4⟩,h5⟩,h6⟩,h7⟩:=h
  split at h4
  next v e=>exact ⟨B,fI,e2,e1,h1,h2,h3,by rw [e,beq_iff_eq.mp h4],h5,h6,h7⟩
  next=>cases h4
 next=>cases h
theorem ns_some {K:PySem.W.Frag} {h:Heap} {N:Addr} {mg:Str->Option Value} {n:Str} {v:Value} (X:K.In h) (G:h.Ns N mg) (e:nsIn K N n=some (some v)):mg n=some v:=by
 obtain ⟨o,es,ep,ho,hd,_,hf⟩:=G
 unfold nsIn at e
 split at e
 ·rename_i c d es' n' sl q
  have:=X _ _ q
  rw [ho] at this
  cases this
  cases hd
  split at e
  ·rename_i en he
   cases e
   rw [<- hf]
   unfold nsFind findBy
   rw [<- Array.find?_toList,he]
   rfl
  ·split at e<;>cases e
 ·cases e
theorem excI_of {K:PySem.W.Frag} {h:Heap} {C fI:Addr} (X:K.In h) (q:excInI K C=some fI) :
  ∃ bm N nm q bs sn sub ab col dd k0 k1 k2 k3 k5 mN,h.get? C=some (excClassObj nm q C N bs bm true sn sub ab col dd k0 k1 k2 k3 k5 "ValueError.__new__")/\h.Ns N mN/\mN "__init__"=some (.ref fI)/\OwnTail h bmV bm/\∃ cd,clsIn K C=some cd/\cd.hasDict=true/\passB cd.mro=true:=by
 unfold excInI at q
 split at q
 next dd cd sl ho =>
  split at q
  next C' bm a0 a1 a2 a3 id a5 em es =>
   split at q
   next hc =>
    simp only [Bool.and_eq_true,beq_iff_eq,Bool.not_eq_true'] at hc
    obtain ⟨⟨⟨⟨⟨⟨z1,z2⟩,z3⟩,z4⟩,z5⟩,z6⟩,z7⟩:=hc
    split at q
    next f ei =>
     cases q
     have hci:clsIn K C=some cd:=by unfold clsIn; rw [ho]
     obtain ⟨nm,bs,mro,ns,qn,hd,sn,sub,ab,col,del⟩:=cd
     have hsl:sl=#[a0,a1,a2,a3,some (.builtin "ValueError.__new__"),a5]:=by
      rw [z2] at es
      rw [<- es]
     simp only at em z3 z5 z6 z7 ei hci
     subst z1 em z3 hsl z6
     refine ⟨bm,ns,nm,qn,bs,sn,sub,ab,col,dd,a0,a1,a2,a3,a5,_,X _ _ ho,.of_isNs (isNs_of_in X z5),?_,tail_of_in X z4,_,hci,rfl,z7⟩
     exact ns_some X (.of_isNs (isNs_of_in X z5)) ei
    next=>cases q
   next=>cases q
  next=>cases q
 next=>cases q
theorem meth_eq {o:Expr} {m:Str} {apos pos:Pos} {args:List Expr} {env:Env} (hbase:attributeBase o m env (eval o env)=eval o env) (hpl:(backTo pos (starEach args env)).any (·.1)=false) (hn:args.length < 30) (hline:(apos.endLine == pos.line)=true) :
  eval (.Call (.Attribute o m apos) args [] pos) env=(do
   let ov <- eval o env
   standAt apos.atName
   let (f,first) <- holding [ov] (getMethod ov m (do let b <- importBound o env; pure (b.getD true)))
   callWith pos f first (backTo pos (starEach args env)) (backToKw pos (keywordEach [] env))):=by
 have hf:methodCallForm (args.length + ([]:List Keyword).length) (backTo pos (starEach args env)) (backToKw pos (keywordEach [] env))=true:=by
  have h1:(backTo pos (starEach args env)).all (fun x=>!x.1)=true:=by
   rw [List.all_eq_true]
   intro x hx
   have:=List.any_eq_false.mp hpl x hx
   simpa using this
  have h2:backToKw pos (keywordEach [] env)=[]:=rfl
  unfold methodCallForm
  rw [h1,h2]
  simpa using hn
 rw [arm_eval_Call,hbase]
 unfold methodCall calleeOf methodCallPos
 rw [hf,hline]
 rfl
theorem un_but {fs:List Addr} {H:Hp} {h h':Heap} {e:Addr} (k:∀ b o,b≠e->h.get? b=some o->h'.get? b=some o):Un fs [e] H H h h' where
 keep:=fun b o q _ _ hx=>k b o (fun z=>hx (by simp [z])) q
 slot:=fun b o q _ _ hx=>⟨o.slots,k b o (fun z=>hx (by simp [z])) q⟩
 free:=fun _ _ _ n _=>n
 there:=fun b o q hx=>⟨o,k b o (fun z=>hx (by simp [z])) q⟩
 tups:=fun _ _ q=>q
 frzs:=fun _ _ _ q=>q
 tbls:=fun b ps q=>⟨#[],by simpa using q⟩
theorem hok_but {P:Program} {w:World} {H:Hp} {h h':Heap} {e:Addr} (hok:HOk P w H h) (hH:H e=none) (k:∀ b o,b≠e->h.get? b=some o->h'.get? b=some o):HOk P w H h':=fun a o q =>
 (hok a o q).stay (fun c u hc r=>k c u (fun z=>by
  subst z
  rcases hc with rfl | hc
  ·rw [hH] at q; cases q
  ·rw [hH] at hc; cases hc) r) (fun _ q=>q) fun _ _ q=>q
theorem inv_pin {X:Cx} {pins pl:List (Addr×Obj)} {σ:L2.St} {H:Hp} {s:Shared} (I:L2.Inv X pins σ H s) (h:∀ p∈X.pn++pl,s.heap.get? p.1=some p.2/\H p.1=none/\p.1≠X.env.locals/\p.1 ∉ X.fs/\∀ v,p.2.data≠.cell v):L2.Inv X pl σ H s :=
 ⟨I.ok,I.os,I.bare,I.base,I.loc,I.cell,I.free,I.freeC,h,I.hok,I.len⟩
structure InitEnd (P:Program) (w:World) (outer:List Env) (H:Hp) (s:Shared) (e D:Addr) (f:Str) (v:V) (s':Shared):Prop where
 os:s'.os=s.os
 bare:AllBare s'.gens
 un:Un (frs outer) [e] H H s.heap s'.heap
 hok:HOk P w H s'.heap
 at_:∃ ob ws d u,s'.heap.get? e=some ob/\ob.cls=.ref D/\ob.dict=some d/\ob.data=.fields ws/\ws[1]?=some .none/\RelV v u/\s'.heap.Ns1 d (fun y=>if y=f then some u else none)/\s.heap.objs.size<=d/\H d=none
theorem initBody_eq {f:Str} {b:List Stmt} (h:initBody f b=true):∃ (p1 ap p2:Pos) (t:Str) (j:Nat) (p3 cp ep p4 ap2 p5 ap3:Pos),b=[.Expr (.Call (.Attribute (.Name "CordError" p1) "__init__" ap) [.Name "self" p2,.Constant (.str t) j p3] [] cp) ep,.Assign [.Attribute (.Name "self" p4) f ap2] (.Name f p5) ap3]/\(ap.endLine == cp.line)=true:=by
 unfold initBody at h
 split at h
 ·simp only [Bool.and_eq_true,beq_iff_eq] at h
  obtain ⟨⟨⟨⟨⟨⟨rfl,rfl⟩,rfl⟩,rfl⟩,rfl⟩,rfl⟩,z⟩:=h
  exact ⟨_,_,_,_,_,_,_,_,_,_,_,_,rfl,beq_iff_eq.mpr z⟩
 ·cases h
theorem fld_ne (n:Str):fldOf n≠"self"/\fldOf n≠"CordError"/\fldOf n≠"__debug__"/\fldOf n≠"__classdict__":=by
 unfold fldOf
 split
 ·decide
 split
 ·decide
 split
 ·decide
 ·decide
theorem fld_is (n:Str):fldOf n="part"\/fldOf n="number"\/fldOf n="row"\/fldOf n="name":=by
 unfold fldOf
 split
 ·exact .inl rfl
 split
 ·exact .inr (.inl rfl)
 split
 ·exact .inr (.inr (.inl rfl))
 ·exact .inr (.inr (.inr rfl))
theorem init_scope {f:Str} {sc:Scope} (hf:f≠"self") (h:initScope f sc=true):FnScope ["self",f] ["self",f] sc/\sc.names=[(("self":Str),NameKind.local),(f,.local),("CordError",.globalImplicit)]:=by
 unfold initScope at h
 simp only [Bool.and_eq_true,beq_iff_eq,Bool.not_eq_true'] at h
 obtain ⟨⟨⟨h1,h2⟩,h3⟩,h4⟩:=h
 refine ⟨⟨h1,h2,h3,?_,rfl,fun x hx=>?_,fun y hy=>?_⟩,h4⟩
 ·simp [Ne.symm hf]
 ·rw [h4]
  simp only [List.mem_cons,List.not_mem_nil,or_false] at hx
  rcases hx with rfl | rfl
  ·exact .inl rfl
  ·have hb:(x == ("self":Str))=false:=by simpa using hf
   exact .inl (by simp only [List.lookup_cons,hb]; simp)
 ·rw [h4] at hy
  simp only [List.mem_cons,List.not_mem_nil,or_false] at hy
  rcases hy with rfl | rfl | rfl<;>exact (fun z=>nomatch z)
theorem init_binds {K:PySem.W.Frag} {s:Shared} {f name qual:Str} {par:Arguments} {body:List Stmt} {sc:Scope} {dV kw doc pm:Value} {an:Option Addr} {cd ct:Value} {a b:Value} (X:K.In s.heap) (hf:f="part"\/f="number"\/f="row"\/f="name") (hp:initPar f par=true)
  (hd:(match dV with | .ref T=>(match K.lookup T with | some ⟨_,_,.seq its _,_⟩=>its.size == 1 | _=>false) | _=>false)=true) :
  BindsTo s (PySem.W.fnOf name qual par body sc dV kw doc pm an cd ct) ⟨[a,b],[]⟩ ((["self",f]:List Str).zip [a,b]):=by
 split at hd
 next T =>
  split at hd
  next cc dd its mm sl lk =>
   unfold initPar at hp
   simp only [Bool.and_eq_true,beq_iff_eq,List.isEmpty_iff,Option.isNone_iff_eq_none] at hp
   obtain ⟨po,ar,va,ko,kd,ka,df⟩:=par
   obtain ⟨⟨⟨⟨⟨rfl,h2⟩,rfl⟩,rfl⟩,rfl⟩,rfl⟩:=hp
   obtain ⟨n1,q1,n2,q2,rfl⟩:∃ n1 q1 n2 q2,ar=[⟨"self",n1,q1⟩,⟨f,n2,q2⟩]:=by
    rcases ar with _ | ⟨⟨a1,n1,q1⟩,_ | ⟨⟨a2,n2,q2⟩,_ | ⟨a3,r⟩⟩⟩<;>simp at h2
    exact ⟨n1,q1,n2,q2,by rw [h2.1,h2.2]⟩
   have sz:its.size=1:=by simpa using hd
   obtain ⟨d0,rfl⟩:∃ d0,its=#[d0]:=by
    obtain ⟨l⟩:=its
    rcases l with _ | ⟨d0,_ | ⟨d1,r⟩⟩<;>simp at sz
    exact ⟨d0,rfl⟩
   rcases hf with rfl | rfl | rfl | rfl<;>exact .of_defaults rfl (X _ _ lk) rfl rfl rfl
  next=>cases hd
 next=>cases hd
theorem run_init {P:Program} {w:World} {K:PySem.W.Frag} {mg:Str->Option Value} {base:Heap} {A:Around} {outer:List Env} {s:Shared} {H:Hp} {n:Str} {D B fI e t0:Addr} {oe:Obj} {vs:Array Value} {u:Value} {vv:V} {R:Result->Shared->Prop}
  (T:InitAt K n D B fI) (hob:mroIn K D (.type "object")=some true) (hm:mg "CordError"=some (.ref B)) (hd:A.handled=none) (hdep:A.depth < recursionLimit) (e0:Env0 P w K mg base A outer s H)
  (he:s.heap.get? e=some oe) (hc:oe.cls=.ref D) (hdd:oe.dict=none) (hdt:oe.data=.fields vs) (h0:vs[0]?=some (.ref t0)) (h1:vs[1]?=some .none) (hH:H e=none) (hb:base.get? e=none) (hfr:e ∉ frs outer) (rv:RelV vv u)
  (hq:∀ s',InitEnd P w outer H s e D (fldOf n) vv s'->R (.ok (.ret .none)) s') :
  codeAny (model P w) A (.call (.ref fI) ⟨[.ref e,u],[]⟩) R s:=by
 have KX:K.In s.heap:=e0.mod.kin.keeps fun b o e=>(e0.bs b o e).1
 have lim:s.heap.NoLimit:=e0.mod.nolimit.keeps fun b o e=>(e0.bs b o e).1
 have tf:=T.fn
 unfold initFn at tf
 split at tf
 next od fd osl lk =>
  unfold initFd at tf
  simp only [Bool.and_eq_true,beq_iff_eq,List.isEmpty_iff] at tf
  obtain ⟨⟨⟨⟨⟨⟨⟨tb,tsc⟩,tpar⟩,tgl⟩,tbl⟩,tcl⟩,tcd⟩,tdf⟩:=tf
  obtain ⟨fname,fqual,fpar,fbody,fsc,fgl,fcl,fdf,fkw,fdoc,fpm,fan,fcd,fct,fbl⟩:=fd
  simp only at tb tsc tpar tgl tbl tcl tcd tdf
  subst tgl tbl tcl
  split at tb
  next body =>
   have nf:=fld_ne n
   obtain ⟨S,hnm⟩:=init_scope nf.1 tsc
   obtain ⟨p1,ap,p2,t,j,p3,cp,ep,p4,ap2,p5,ap3,rfl,hline⟩:=initBody_eq tb
   refine codeAny_call_function hdep (KX _ _ lk) rfl S.co S.gen rfl (PySem.W.codeRec_of KX tcd) (init_binds KX (fld_is n) tpar tdf _ _ _ _ ?_)
   refine wpAny_newFunctionEnv_cells S.kind (fun y hy=>?_) fun env he s1 x=>?_
   ·obtain ⟨y1,y2⟩:=y
    rcases S.par y1 (List.of_mem_zip hy).1 with q | q
    ·exact .inl q
    ·exact .inr ⟨q,PySem.W.cellsFrom_some _ _ _ (.inl q)⟩
   subst he
   refine ⟨lim.keeps x.toInCall.keep,codeAny_func ?_⟩
   have I:=inv_start (CX:=fun _ _ _ _ e s''=>R (.error e) s'') (E:=fun _ _ _=>False) (vs:=[.ref e,vv]) (us:=[.ref e,u]) S hd e0 rfl (.cons rfl (.cons rv .nil)) x
   obtain ⟨X,hX⟩:∃ X:Cx,X={ cxOf (fun _ _ _ _ e s''=>R (.error e) s'') P w K mg base ["self",fldOf n] fqual fsc fI fcd A outer s H (fun _ _ _=>False) with ex:=[e] }:=⟨_,rfl⟩
   have lts:=Heap.lt_size he
   have Ie:L2.Inv X [] (start ([("self":Str),fldOf n]:List Str) [.ref e,vv]) H s1:=by
    rw [hX]
    have ok:=I.ok
    refine ⟨⟨ok.mod,ok.kind,ok.glob,ok.blt,ok.above,ok.inj,ok.has,ok.cab,ok.hd,ok.frames,ok.stk,fun b hb'=>?_,ok.bs,ok.bsz,fun b o q hb'=>?_,fun b hb'=>?_,ok.funs,ok.frf⟩,I.os,I.bare,I.base.mono (fun _ z=>z) (by simp [cxOf]),I.loc,I.cell,I.free,I.freeC,I.pin,I.hok,I.len⟩
    ·obtain rfl:b=e:=by simpa using hb'
     exact ⟨Nat.ne_of_lt (Nat.lt_of_lt_of_le lts ok.above),fun y c q=>Nat.ne_of_gt (Nat.lt_of_lt_of_le lts (ok.cab y c rfl q))⟩
    ·obtain rfl:b=e:=by simpa using hb'
     exact absurd ((show base.get? b=some o from q).symm.trans hb) (by simp)
    ·obtain rfl:b=e:=by simpa using hb'
     exact hfr
   have eN:X.N=([("self":Str),fldOf n]:List Str):=by rw [hX]; rfl
   have escope:X.env.scope=fsc:=by rw [hX]; rfl
   have eenv:X.env=envOfC fqual fsc s.heap.objs.size fI fcd:=by rw [hX]; rfl
   have eA:X.A=A.deeper (envOfC fqual fsc s.heap.objs.size fI fcd):=by rw [hX]; rfl
   have eM:model X.prog X.w=model P w:=by rw [hX]; rfl
   have eK:X.K=K:=by rw [hX]; rfl
   have emg:X.mg=mg:=by rw [hX]; rfl
   have eex:X.ex=[e]:=by rw [hX]
   have efs:X.fs=frs outer:=by rw [hX]; rfl
   have epn:X.pn=[]:=by rw [hX]; rfl
   have eloc:X.env.locals=s.heap.objs.size:=by rw [eenv]; rfl
   have exe:X.xe=fun e' s'=>wpAny (model P w) (A.deeper (envOfC fqual fsc s.heap.objs.size fI fcd)) (leaving (envOfC fqual fsc s.heap.objs.size fI fcd) e') (fun _ s''=>R (.error e') s'') (fun e'' s''=>R (.error e'') s'') s':=by rw [hX]; rfl
   have es0:X.s₀=s:=by rw [hX]; rfl
   have eH0:X.H₀=H:=by rw [hX]; rfl
   have eP:X.prog=P:=by rw [hX]; rfl
   have eW:X.w=w:=by rw [hX]; rfl
   clear hX
   have hvs:Vis X.env.scope "self":=.inl (by rw [escope,hnm]; rfl)
   have hb0:(fldOf n == ("self":Str))=false:=by simpa using nf.1
   have hvf:Vis X.env.scope (fldOf n):=.inl (by rw [escope,hnm]; simp only [List.lookup_cons,hb0]; simp)
   have hgl:Gl X "CordError":=by
    show X.env.scope.names.lookup _=_
    rw [escope,hnm]
    have hb:(("CordError":Str) == fldOf n)=false:=by simpa using Ne.symm nf.2.1
    have hb2:(("CordError":Str) == ("self":Str))=false:=by decide
    simp only [List.lookup_cons,hb,hb2]; simp
   have pin1:∀ {ob:Obj} {s2:Shared} {H2:Hp} {ws:Array Value},s2.heap.get? e=some ob->H2 e=none->ob.data=.fields ws->∀ p∈X.pn++[(e,ob)],s2.heap.get? p.1=some p.2/\H2 p.1=none/\p.1≠X.env.locals/\p.1 ∉ X.fs/\∀ v,p.2.data≠.cell v:=fun {ob s2 H2 ws} q1 q2 q3 p hp=>by
    rw [epn,List.nil_append,List.mem_singleton] at hp
    subst hp
    exact ⟨q1,q2,by rw [eloc]; exact Nat.ne_of_lt lts,by rw [efs]; exact hfr,fun v z=>by rw [q3] at z; cases z⟩
   have pin0:∀ {s2:Shared} {H2:Hp},∀ p∈X.pn++([]:List (Addr×Obj)),s2.heap.get? p.1=some p.2/\H2 p.1=none/\p.1≠X.env.locals/\p.1 ∉ X.fs/\∀ v,p.2.data≠.cell v:=fun {s2 H2} p hp=>by
    rw [epn] at hp; cases hp
   have chg:∀ b∈[e],(b∈X.ex\/X.s₀.heap.objs.size<=b)/\b≠X.env.locals/\(∀ x c,X.env.cells.lookup x=some c->c≠b)/\∀ p∈X.pn++([]:List (Addr×Obj)),p.1≠b:=fun b hb'=>by
    have:=Ie.ok.exf b (by rw [eex]; exact hb')
    exact ⟨.inl (by rw [eex]; exact hb'),this.1,this.2,fun p hp=>by rw [epn] at hp; cases hp⟩
   have KIn:∀ {pl:List (Addr×Obj)} {σ2:L2.St} {H2:Hp} {s2:Shared},L2.Inv X pl σ2 H2 s2->K.In s2.heap:=fun J=>eK ▸ J.kIn
   have I1:=inv_pin Ie (pin1 (x.toInCall.keep e oe he) hH hdt)
   show wpAny (model P w) (A.deeper (envOfC fqual fsc s.heap.objs.size fI fcd)) (execs _ (envOfC fqual fsc s.heap.objs.size fI fcd)) _ (fun e' s'=>wpAny (model P w) (A.deeper (envOfC fqual fsc s.heap.objs.size fI fcd)) (leaving (envOfC fqual fsc s.heap.objs.size fI fcd) e') (fun _ s''=>R (.error e') s'') (fun e'' s''=>R (.error e'') s'') s') _
   rw [<- exe,<- eM,<- eA,<- eenv]
   have hmX:X.mg "CordError"=some (.ref B):=by rw [emg]; exact hm
   generalize hσ:start ([("self":Str),fldOf n]:List Str) [.ref e,vv]=σ at I1 Ie
   have hσ0:σ[0]?=some (some (.ref e)):=by rw [<- hσ]; rfl
   have hσ1:σ[1]?=some (some vv):=by rw [<- hσ]; rfl
   have hN0:X.N[0]?=some ("self":Str):=by rw [eN]; rfl
   have hN1:X.N[1]?=some (fldOf n):=by rw [eN]; rfl
   refine wpAny_execs_cons (wpAny_Expr_any ?_ Ie.quiet rfl)
   refine PySem.W.methodCall_KW (ld_glob I1 hgl hmX ?_) (meth_eq rfl rfl (by simp) hline)
   refine method_cls (KIn I1) T.sp (cls_value (KIn I1) T.rd T.fc (by decide +kernel) ?_)
   have I2:=I1.tok (s1.toks + 1)
   refine PyProof.Rows.callWith_builtin1 (thn ((pa_cons (pe_var hN0 hvs) (pa_cons pe_str pa_nil)) cp [(e,oe)] _ σ H (fun vs H1=>H1=H/\∃ v2,vs=[.ref e,v2]) I2 ⟨_,hσ0,⟨rfl,_,rfl⟩⟩) ?_) rfl rfl
   rintro us s3 ⟨vs3,H3,I3,r3,rfl,v2,rfl⟩
   obtain ⟨u0,us,rfl,ra,rb⟩:∃ u0 us',us=u0 :: us'/\RelV (.ref e) u0/\Vals [v2] us':=by cases r3 with | cons a b=>exact ⟨_,_,rfl,a,b⟩
   obtain rfl:u0=Value.ref e:=ra
   obtain ⟨u2,rfl⟩:∃ u2,us=[u2]:=by cases rb with | cons a b=>cases b; exact ⟨_,rfl⟩
   obtain ⟨bm,Nn,nm,qn,bs,sn,sub,ab,col,ddc,k0,k1,k2,k3,k5,mN,hC,hNs,hni,OT,cd,hci,hdc,hpm⟩:=excI_of (KIn I3) T.ex
   have p3:=I3.pin (e,oe) (by simp)
   have sz0:0 < vs.size:=(Array.getElem?_eq_some_iff.mp h0).1
   have sz1:1 < vs.size:=(Array.getElem?_eq_some_iff.mp h1).1
   obtain ⟨hp3,g3,d3,t3,os3⟩:=s3
   refine init_own (F:=PySem.F.excBase_ValueError) (T:=OT) hC p3.1 hc hdt h0 ?_ (by simp [sizeLine_eq])
   generalize hh4:(hp3.push { cls:=.type "tuple",data:=.seq [u2].toArray }).update e (Obj.mapFields (·.setIfInBounds 0 (.ref hp3.objs.size)))=h4
   have k4:∀ b o,b≠e->hp3.get? b=some o->h4.get? b=some o:=fun b o hb' q=>by
    rw [<- hh4,Heap.get?_update_other _ _ (Ne.symm hb')]; exact Heap.get?_push_of_some _ q
   have d4:=Obj.data_mapFields hdt (·.setIfInBounds 0 (.ref hp3.objs.size))
   have e4:h4.get? e=some (oe.mapFields (·.setIfInBounds 0 (.ref hp3.objs.size))):=by
    rw [<- hh4]; exact Heap.get?_update_self _ (Heap.get?_push_of_some _ p3.1) (Obj.isFreed_of_fields d4)
   have I4:L2.Inv X [] σ H3 ⟨h4,g3,d3,t3,os3⟩:=(inv_pin I3 pin0).call' (s':=⟨h4,g3,d3,t3,os3⟩) (ch:=[e]) rfl (un_but k4) (hok_but I3.hok hH k4) I3.bare chg
   have I5:=inv_pin I4 (pin1 e4 hH d4)
   refine wpAny_execs_cons (plainObj_wpAny_Assign_Attribute (thn (pe_var hN1 hvf (by simpa using nf.2.2.1) (by simpa using nf.2.2.2) [(e,_)] _ σ H3 (fun v H'=>H'=H3/\v=vv) I5 ⟨_,hσ1,rfl,rfl⟩) ?_) rfl)
   rintro u5 s5 ⟨v5,H5,I6,r5,rfl,rfl⟩
   refine thn (pe_var hN0 hvs (by decide) (by decide) [(e,_)] _ σ H5 (fun v H'=>H'=H5/\v=.ref e) I6 ⟨_,hσ0,rfl,rfl⟩) ?_
   rintro u6 s6 ⟨v6,H6,I7,r6,rfl,rfl⟩
   obtain rfl:u6=Value.ref e:=r6
   have p7:=I7.pin (e,_) (by rw [epn]; exact List.mem_cons_self)
   refine exc_set (KIn I7) p7.1 (by rw [Obj.cls_mapFields]; exact hc) (by rw [dict_mapFields]; exact hdd) d4 T.sa hci hdc hpm hob T.nf fun h8 t8 e8 n8 k8=>?_
   have I8:L2.Inv X [] σ H6 ⟨h8,s6.gens,s6.drawn,t8,s6.os⟩:=(inv_pin I7 pin0).call' (s':=⟨h8,s6.gens,s6.drawn,t8,s6.os⟩) (ch:=[e]) rfl (un_but k8) (hok_but I7.hok hH k8) I7.bare chg
   refine wpAny_execs_nil (hq _ ⟨I8.os.trans (by rw [es0]),I8.bare,?_,?_,_,_,s6.heap.objs.size,u5,e8,by show _=_; rw [Obj.cls_mapFields]; exact hc,rfl,d4,?_,r5,n8,?_,?_⟩)
   ·have:=I8.base
    rw [efs,eex,eH0,es0] at this
    exact this
   ·have:=I8.hok
    rw [eP,eW] at this
    exact this
   ·rw [Array.getElem?_setIfInBounds_ne (by decide)]; exact h1
   ·have:=I7.sz
    rw [es0] at this
    exact this
   ·exact I7.hok.fresh (Nat.le_refl _)
  next=>cases tb
 next=>cases tf
noncomputable def nTabB (K:PySem.W.Frag):Bool:=xNames.all fun n=>match clsAt K n with
 | none=>true
 | some D=>kitOne K (.type "NoneType") (.ref D) == some false
noncomputable def xTabB (K:PySem.W.Frag):Bool:=xTab0 K && oTabB K && (iTabB K && nTabB K)
theorem tab_and {K:PySem.W.Frag} (t:xTabB K=true):xTab0 K=true/\oTabB K=true/\iTabB K=true/\nTabB K=true:=by
 unfold xTabB at t
 simp only [Bool.and_eq_true] at t
 exact ⟨t.1.1,t.1.2,t.2⟩
section
variable {K:PySem.W.Frag} {n c:Str} {C D:Addr}
theorem xTab_row (t:xTabB K=true) (hn:n∈xNames) (h:ClsOf K n D):ExcCls K D/\(xPlain.contains n=true->excIn K D bmV "ValueError.__new__"=true)/\(∀ T,(T="int"\/T="bool"\/T="str"\/T="tuple"\/T="list"\/T="dict"\/T="ValueError")->kitOne K (.ref D) (.type T)=some (T == "ValueError")) /\
  ∀ c C,c∈xNames->ClsOf K c C->exmOne K (.ref D) (.ref C)=some (isSub n c)/\kitOne K (.ref D) (.ref C)=some (isSub n c):=by
 have t:=(tab_and t).1
 unfold xTab0 at t
 have r:=List.all_eq_true.mp t n hn
 rw [clsAt_of h] at r
 simp only [Bool.and_eq_true,beq_iff_eq,Bool.or_eq_true,Bool.not_eq_true'] at r
 obtain ⟨⟨⟨⟨r1,r2⟩,r3⟩,r3b⟩,r4⟩:=r
 unfold excClsB at r1
 simp only [Bool.and_eq_true,beq_iff_eq] at r1
 obtain ⟨⟨⟨⟨⟨⟨⟨q1,q2⟩,q3⟩,q4⟩,q5⟩,q6⟩,q7⟩,q8⟩:=r1
 refine ⟨⟨q1,q2,q3,q4,q5,q6,q7,q8⟩,fun z=>?_,fun T hT=>?_,fun c C hc hC=>?_⟩
 ·rcases r2 with r2 | r2
  ·rw [z] at r2; cases r2
  ·exact r2
 ·have rT:∀ T∈["int","bool","str","tuple","list","dict"],kitOne K (.ref D) (.type T)=some false:=fun T hT=>beq_iff_eq.mp (List.all_eq_true.mp r3b T hT)
  rcases hT with rfl | rfl | rfl | rfl | rfl | rfl | rfl
  all_goals first | exact r3 | exact rT _ (by decide)
 ·have r:=List.all_eq_true.mp r4 c hc
  rw [clsAt_of hC] at r
  simpa only [Bool.and_eq_true,beq_iff_eq] using r
theorem nTab_row (t:xTabB K=true) (hn:n∈xNames) (h:ClsOf K n D):kitOne K (.type "NoneType") (.ref D)=some false:=by
 have t:=(tab_and t).2.2.2
 unfold nTabB at t
 have r:=List.all_eq_true.mp t n hn
 rw [clsAt_of h] at r
 exact beq_iff_eq.mp r
theorem iTab_row (t:xTabB K=true) (hn:n∈xInit) (h:ClsOf K n D):∃ B fI,InitAt K n D B fI:=by
 have t:=(tab_and t).2.2.1
 unfold iTabB at t
 have r:=List.all_eq_true.mp t n hn
 rw [clsAt_of h] at r
 exact initAt_of r
end
end DL
end
noncomputable section
namespace DL
open PySem PySem.Spec PyProof.Rows L2
inductive D where
 | non | bl (b:Bool) | int (i:Int) | str (x:Str) | ty (n:String)
 | tup (ds:List D) | fz (ds:List D) | lst (a:Addr) | dct (a:Addr) | ref (a:Addr)
 | exc (n:Str) (x:D) | cls (n:Str)
 | fn (n:Str)
 | sd (xs:List Str) (ds:List D)
 deriving Inhabited
inductive MO where
 | ls (ds:List D)
 | dk (kvs:List (Key×D))
 | ob (n:Str) (fs:List (Str×D))
noncomputable abbrev Mem:=Addr->Option MO
noncomputable abbrev DSt:=List (Option D)
noncomputable abbrev DK:=D->Mem->Prop
noncomputable def Mem.upd (M:Mem) (a:Addr) (o:MO):Mem:=fun b=>if b=a then some o else M b
theorem mupd_same {M:Mem} {a:Addr} {o:MO}:M.upd a o a=some o:=if_pos rfl
theorem mupd_ne {M:Mem} {a b:Addr} {o:MO} (h:b≠a):M.upd a o b=M b:=if_neg h
theorem mupd_upd {M:Mem} {a:Addr} {o u:MO}:(M.upd a o).upd a u=M.upd a u:=by
 funext b; unfold Mem.upd; split<;>rfl
noncomputable def MExt (M M':Mem):Prop:=∀ a o,M a=some o->M' a=some o
theorem MExt.refl (M:Mem):MExt M M:=fun _ _ h=>h
theorem MExt.trans {M M1 M2:Mem} (a:MExt M M1) (b:MExt M1 M2):MExt M M2:=fun c o h=>b c o (a c o h)
theorem MExt.new {M:Mem} {p:Addr} {o:MO} (h:M p=none):MExt M (M.upd p o):=fun a u e=>by
 have:a≠p:=fun z=>by rw [z,h] at e; cases e
 rw [mupd_ne this]; exact e
noncomputable def alloc (M:Mem) (o:MO) (Q:Addr->Mem->Prop):Prop:=∀ p M',M p=none->MExt M M'->M' p=some o->Q p M'
theorem alloc.at {M:Mem} {o:MO} {Q:Addr->Mem->Prop} {p:Addr} (h:alloc M o Q) (hp:M p=none):Q p (M.upd p o):=h p _ hp (.new hp) mupd_same
noncomputable def SqF (K:PySem.W.Frag) (H:Hp) (a:Addr) (xs:List V):Prop :=
 (∃ o,H a=some (.frz o (.lst xs))) \/
  ∃ (o:Obj) (its:Array Value) (n:Nat),K.lookup a=some o/\o.cls=.type "list"/\o.dict=none/\o.data=.seq its n/\its.size<=sizeLine/\Vals xs its.toList
theorem SqF.sq {K:PySem.W.Frag} {H:Hp} {a:Addr} {xs:List V} (h:SqF K H a xs):SqL K H a xs:=by
 rcases h with ⟨o,h⟩ | h
 ·exact .inl (.inr ⟨o,h⟩)
 ·exact .inr h
inductive EntK:List DictEntry->List Str->List Value->Prop
 | nil:EntK [] [] []
 | cons {e:DictEntry} {x:Str} {t:Tok} {es:List DictEntry} {xs:List Str} {us:List Value} (k:e.key=.str x t) (r:EntK es xs us):EntK (e :: es) (x :: xs) (e.val :: us)
noncomputable def TabK (K:PySem.W.Frag) (a:Addr) (xs:List Str) (vs:List V):Prop :=
 (a == sysModules)=false/\∃ (o:Obj) (es:Array DictEntry) (ep:Nat) (us:List Value),K.lookup a=some o/\o.ExactDict/\o.data=.dict es ep/\EntK es.toList xs us/\Vals vs us
noncomputable def ExcAt (a C:Addr) (dd:Option Addr) (h:Heap):Prop:=∃ ob vs,h.get? a=some ob/\ob.cls=.ref C/\ob.dict=dd/\ob.data=.fields vs
noncomputable def FldAt (d:Addr) (f:Str) (v:V) (h:Heap):Prop:=∃ u,RelV v u/\h.Ns1 d (fun y=>if y=f then some u else none)
mutual
inductive RelD (K:PySem.W.Frag) (H:Hp):V->D->Prop
 | non:RelD K H .non .non
 | bl (b:Bool):RelD K H (.bl b) (.bl b)
 | int (i:Int):RelD K H (.int i) (.int i)
 | str (x:Str):RelD K H (.str x) (.str x)
 | ty (n:String):RelD K H (.ty n) (.ty n)
 | tup {a:Addr} {vs:List V} {ds:List D} (h:SqT K H a vs) (r:RelDs K H vs ds):RelD K H (.ref a) (.tup ds)
 | fz {a:Addr} {vs:List V} {ds:List D} (h:SqF K H a vs) (r:RelDs K H vs ds):RelD K H (.ref a) (.fz ds)
 | lst (a:Addr):RelD K H (.ref a) (.lst a)
 | dct (a:Addr):RelD K H (.ref a) (.dct a)
 | ref (a:Addr):RelD K H (.ref a) (.ref a)
 | cls {C:Addr} {n:Str} (hn:n∈xNames) (hc:ClsOf K n C):RelD K H (.ref C) (.cls n)
 | fn {C:Addr} {n:Str} (hc:ClsOf K n C):RelD K H (.ref C) (.fn n)
 | sd {a:Addr} {xs:List Str} {vs:List V} {ds:List D} (h:TabK K a xs vs) (r:RelDs K H vs ds):RelD K H (.ref a) (.sd xs ds)
 | exc {a C:Addr} {n:Str} (hn:n∈xNames) (hi:n ∉ xInit) (hc:ClsOf K n C) (h:H a=some (.ext (ExcAt a C none))):RelD K H (.ref a) (.exc n .non)
 | excF {a C d:Addr} {n:Str} {v:V} {x:D} (hn:n∈xNames) (hi:n∈xInit) (hc:ClsOf K n C) (h:H a=some (.ext (ExcAt a C (some d)))) (hd:H d=some (.ext (FldAt d (fldOf n) v))) (r:RelD K H v x):RelD K H (.ref a) (.exc n x)
inductive RelDs (K:PySem.W.Frag) (H:Hp):List V->List D->Prop
 | nil:RelDs K H [] []
 | cons {v:V} {d:D} {vs:List V} {ds:List D} (h:RelD K H v d) (r:RelDs K H vs ds):RelDs K H (v :: vs) (d :: ds)
end
structure HExt (K:PySem.W.Frag) (H H':Hp):Prop where
 tup:∀ a vs,SqT K H a vs->SqT K H' a vs
 fz:∀ a vs,SqF K H a vs->SqF K H' a vs
 ex:∀ a φ,H a=some (.ext φ)->H' a=some (.ext φ)
theorem HExt.refl {K:PySem.W.Frag} (H:Hp):HExt K H H:=⟨fun _ _ h=>h,fun _ _ h=>h,fun _ _ h=>h⟩
theorem HExt.trans {K:PySem.W.Frag} {H H1 H2:Hp} (a:HExt K H H1) (b:HExt K H1 H2):HExt K H H2:=⟨fun p vs h=>b.tup p vs (a.tup p vs h),fun p vs h=>b.fz p vs (a.fz p vs h),fun p C h=>b.ex p C (a.ex p C h)⟩
noncomputable def MutL:HO->Prop
 | .lst _=>True
 | .dK _=>True
 | .ins _ _ _=>True
 | _=>False
theorem HExt.upd {K:PySem.W.Frag} {H:Hp} {p:Addr} {o:HO} (h:H p=none\/∃ u,H p=some u/\MutL u):HExt K H (L2.upd H p o):=by
 refine ⟨fun a vs q=>?_,fun a vs q=>?_,fun a C q=>?_⟩
 ·rcases q with (q | ⟨ob,q⟩) | q
  ·refine .inl (.inl ?_)
   rw [upd_ne]; exact q
   rintro rfl
   rcases h with h | ⟨u,h,m⟩
   ·rw [h] at q; cases q
   ·rw [h] at q; cases q; exact m
  ·refine .inl (.inr ⟨ob,?_⟩)
   rw [upd_ne]; exact q
   rintro rfl
   rcases h with h | ⟨u,h,m⟩
   ·rw [h] at q; cases q
   ·rw [h] at q; cases q; exact m
  ·exact .inr q
 ·rcases q with ⟨ob,q⟩ | q
  ·refine .inl ⟨ob,?_⟩
   rw [upd_ne]; exact q
   rintro rfl
   rcases h with h | ⟨u,h,m⟩
   ·rw [h] at q; cases q
   ·rw [h] at q; cases q; exact m
  ·exact .inr q
 ·rw [upd_ne]; exact q
  rintro rfl
  rcases h with h | ⟨u,h,m⟩
  ·rw [h] at q; cases q
  ·rw [h] at q; cases q; exact m
theorem RelDs.ext {K:PySem.W.Frag} {H H':Hp} (x:HExt K H H') {vs:List V} {ds:List D} (h:RelDs K H vs ds):RelDs K H' vs ds:=by
 induction h using RelDs.rec (motive_1:=fun v d _=>RelD K H' v d) with
 | non=>exact .non
 | bl b=>exact .bl b
 | int i=>exact .int i
 | str y=>exact .str y
 | ty n=>exact .ty n
 | tup h r ih=>exact .tup (x.tup _ _ h) ih
 | fz h r ih=>exact .fz (x.fz _ _ h) ih
 | lst a=>exact .lst a
 | dct a=>exact .dct a
 | ref a=>exact .ref a
 | cls hn h=>exact .cls hn h
 | fn h=>exact .fn h
 | sd h r ih=>exact .sd h ih
 | exc hn hi hc h=>exact .exc hn hi hc (x.ex _ _ h)
 | excF hn hi hc h hd r ih=>exact .excF hn hi hc (x.ex _ _ h) (x.ex _ _ hd) ih
 | nil=>exact .nil
 | cons h r i1 i2=>exact .cons i1 i2
theorem RelD.ext {K:PySem.W.Frag} {H H':Hp} (x:HExt K H H') {v:V} {d:D} (h:RelD K H v d):RelD K H' v d:=by
 cases RelDs.ext x (.cons h .nil) with
 | cons h _=>exact h
inductive ExD (K:PySem.W.Frag) (H:Hp) (n:Str):Option Addr->D->Prop
 | plain (hi:n ∉ xInit):ExD K H n none .non
 | fld {d:Addr} {v:V} {x:D} (hi:n∈xInit) (hd:H d=some (.ext (FldAt d (fldOf n) v))) (r:RelD K H v x):ExD K H n (some d) x
noncomputable def xarg:D->D
 | .exc _ x=>x
 | d=>d
@[simp] theorem xarg_exc (n:Str) (x:D):xarg (.exc n x)=x:=rfl
section
variable {K:PySem.W.Frag} {H:Hp}
theorem RelDs.length:∀ {vs:List V} {ds:List D},RelDs K H vs ds->vs.length=ds.length
 | _,_,.nil=>rfl
 | _,_,.cons _ r=>congrArg (· + 1) (RelDs.length r)
theorem RelDs.append:∀ {vs ws:List V} {ds es:List D},RelDs K H vs ds->RelDs K H ws es->RelDs K H (vs++ws) (ds++es)
 | _,_,_,_,.nil,q=>q
 | _,_,_,_,.cons h r,q=>.cons h (RelDs.append r q)
theorem RelDs.drop:∀ {vs:List V} {ds:List D} (n:Nat),RelDs K H vs ds->RelDs K H (vs.drop n) (ds.drop n)
 | _,_,0,r=>r
 | _,_,_ + 1,.nil=>.nil
 | _,_,n + 1,.cons _ r=>RelDs.drop n r
theorem RelDs.take:∀ {vs:List V} {ds:List D} (n:Nat),RelDs K H vs ds->RelDs K H (vs.take n) (ds.take n)
 | _,_,0,_=>.nil
 | _,_,_ + 1,.nil=>.nil
 | _,_,n + 1,.cons h r=>.cons h (RelDs.take n r)
theorem RelDs.get:∀ {vs:List V} {ds:List D} {i:Nat} {d:D},RelDs K H vs ds->ds[i]?=some d->∃ v,vs[i]?=some v/\RelD K H v d
 | _,_,_,_,.nil,e=>by simp at e
 | _,_,0,_,.cons h _,e=>by simp at e; subst e; exact ⟨_,rfl,h⟩
 | _,_,i + 1,d,.cons _ r,e=>by
  obtain ⟨v,h1,h2⟩:=RelDs.get (i:=i) (d:=d) r (by simpa using e)
  exact ⟨v,by simpa using h1,h2⟩
theorem RelDs.set {v:V} {d:D} (h:RelD K H v d):∀ {vs:List V} {ds:List D} (i:Nat),RelDs K H vs ds->RelDs K H (vs.set i v) (ds.set i d)
 | _,_,_,.nil=>.nil
 | _,_,0,.cons _ r=>.cons h r
 | _,_,i + 1,.cons q r=>.cons q (RelDs.set h i r)
theorem RelDs.ints:∀ (ns:List Int),RelDs K H (ns.map V.int) (ns.map D.int)
 | []=>.nil
 | n :: r=>.cons (.int n) (RelDs.ints r)
end
noncomputable def MOk (K:PySem.W.Frag) (H:Hp) (a:Addr):MO->Prop
 | .ls ds=>∃ vs,H a=some (.lst vs)/\RelDs K H vs ds
 | .dk kvs=>∃ kws:List (Key×V),H a=some (.dK kws)/\kws.map (·.1)=kvs.map (·.1)/\RelDs K H (kws.map (·.2)) (kvs.map (·.2))
 | .ob n fs=>∃ (C dx:Addr) (vs:List (Str×V)),ClsOf K n C/\H a=some (.ins C dx vs)/\vs.map (·.1)=fs.map (·.1)/\RelDs K H (vs.map (·.2)) (fs.map (·.2))
noncomputable def RepM (K:PySem.W.Frag) (H:Hp) (M:Mem):Prop:=∀ a o,M a=some o->MOk K H a o
structure LK where
 K:PySem.W.Frag
 ok:Hp->Prop
 mono:∀ H H',HExt K H H'->ok H->ok H'
structure Slots (K:PySem.W.Frag) (H:Hp) (δ:DSt) (σ:L2.St):Prop where
 len:δ.length=σ.length
 slot:∀ (i:Nat) (d:D),δ[i]?=some (some d)->∃ v,σ[i]?=some (some v)/\RelD K H v d
structure RepS (Λ:LK) (H:Hp) (δ:DSt) (σ:L2.St):Prop extends Slots Λ.K H δ σ where
 ok:Λ.ok H
section
variable {K:PySem.W.Frag} {Λ:LK} {H H':Hp} {M:Mem} {δ:DSt} {σ:L2.St}
theorem Slots.ext (x:HExt K H H') (r:Slots K H δ σ):Slots K H' δ σ:=⟨r.len,fun i d e=>let ⟨v,h,q⟩:=r.slot i d e; ⟨v,h,q.ext x⟩⟩
theorem RepS.ext (x:HExt Λ.K H H') (r:RepS Λ H δ σ):RepS Λ H' δ σ:=⟨r.toSlots.ext x,Λ.mono _ _ x r.ok⟩
theorem Slots.set {v:V} {d:D} (r:Slots K H δ σ) (h:RelD K H v d) (i:Nat):Slots K H (δ.set i (some d)) (σ.set i (some v)):=by
 refine ⟨by simp [r.len],fun j e q=>?_⟩
 by_cases hj:j=i
 ·subst hj
  by_cases hl:j < δ.length
  ·rw [List.getElem?_set_self hl] at q; cases q
   exact ⟨v,List.getElem?_set_self (by rw [<- r.len]; exact hl),h⟩
  ·rw [List.getElem?_eq_none (by simp; omega)] at q; cases q
 ·rw [List.getElem?_set_ne (Ne.symm hj)] at q
  obtain ⟨u,h1,h2⟩:=r.slot j e q
  exact ⟨u,by rw [List.getElem?_set_ne (Ne.symm hj)]; exact h1,h2⟩
theorem RepS.set {v:V} {d:D} (r:RepS Λ H δ σ) (h:RelD Λ.K H v d) (i:Nat):RepS Λ H (δ.set i (some d)) (σ.set i (some v)):=⟨r.toSlots.set h i,r.ok⟩
theorem MOk.fresh {a:Addr} {o:MO} (r:MOk K H a o):H a≠none:=by
 cases o with
 | ls ds=>obtain ⟨vs,h,_⟩:=r; rw [h]; simp
 | dk kvs=>obtain ⟨vs,h,_⟩:=r; rw [h]; simp
 | ob n fs=>obtain ⟨C,dx,vs,_,h,_⟩:=r; rw [h]; simp
theorem RepM.none (r:RepM K H M) {p:Addr} (h:H p=.none):M p=.none:=by
 cases q:M p with
 | none=>rfl
 | some o=>exact absurd h (r p o q).fresh
theorem MOk.ext {a p:Addr} {o:MO} {u:HO} (x:HExt K H (upd H p u)) (h:a≠p) (r:MOk K H a o):MOk K (upd H p u) a o:=by
 cases o with
 | ls ds=>obtain ⟨vs,e,q⟩:=r; exact ⟨vs,by rw [upd_ne h]; exact e,q.ext x⟩
 | dk kvs=>obtain ⟨vs,e,k,q⟩:=r; exact ⟨vs,by rw [upd_ne h]; exact e,k,q.ext x⟩
 | ob n fs=>obtain ⟨C,dx,vs,c,e,k,q⟩:=r; exact ⟨C,dx,vs,c,by rw [upd_ne h]; exact e,k,q.ext x⟩
theorem RepM.tup {p:Addr} {vs:List V} (r:RepM K H M) (h:H p=.none):RepM K (upd H p (.tup vs)) M:=fun a o e =>
 (r a o e).ext (.upd (.inl h)) fun z=>by subst z; rw [r.none h] at e; cases e
theorem RepM.lst {p:Addr} {vs:List V} {ds:List D} (r:RepM K H M) (h:H p=.none) (q:RelDs K H vs ds):RepM K (upd H p (.lst vs)) (M.upd p (.ls ds)):=fun a o e=>by
 by_cases z:a=p
 ·subst z; rw [mupd_same] at e; cases e; exact ⟨vs,upd_same,q.ext (.upd (.inl h))⟩
 ·rw [mupd_ne z] at e; exact (r a o e).ext (.upd (.inl h)) z
theorem RepM.write {p:Addr} {ws vs:List V} {ds:List D} (r:RepM K H M) (h:H p=some (.lst ws)) (q:RelDs K H vs ds):RepM K (upd H p (.lst vs)) (M.upd p (.ls ds)):=fun a o e=>by
 have x:HExt K H (upd H p (.lst vs)):=.upd (.inr ⟨_,h,trivial⟩)
 by_cases z:a=p
 ·subst z; rw [mupd_same] at e; cases e; exact ⟨vs,upd_same,q.ext x⟩
 ·rw [mupd_ne z] at e; exact (r a o e).ext x z
theorem RepM.nil:RepM K H (fun _=>Option.none):=fun _ _ e=>by cases e
end
noncomputable abbrev DE:=DSt->Mem->DK->Prop
noncomputable abbrev DT:=DSt->Mem->(Bool->Mem->Prop)->Prop
noncomputable abbrev DA:=DSt->Mem->(List D->Mem->Prop)->Prop
structure DEnds where
 nx:DSt->Mem->Prop
 rt:DK
 bk:DSt->Mem->Prop:=fun _ _=>False
 ct:DSt->Mem->Prop:=fun _ _=>False
 ex:DSt->DK:=fun _ _ _=>False
noncomputable abbrev DS:=DEnds->DSt->Mem->Prop
noncomputable abbrev DSp:=List D->Mem->DK->DK->Prop
structure Thrown (P:Program) (w:World) (outer:List Env) (H:Hp) (s:Shared) (H':Hp) (e C:Addr) (dd:Option Addr) (s':Shared):Prop where
 ex:∃ B,s'.os=s.os/\AllBare s'.gens/\Un (frs outer) [] H H' s.heap s'.heap/\(∀ b o,s.heap.get? b=some o->H b=none->b ∉ frs outer->B.get? b=some o)/\HOk P w H' B/\Flies B outer e (.ref C) dd .none s'.heap
noncomputable def CXR (P:Program) (w:World):CXT:=fun outer H s E ev s'=>∃ e C dd H',ev=.ref e/\Thrown P w outer H s H' e C dd s'/\E (.ref C) dd H'
structure XeOk (X:Cx) (rz:Bool) (E:DSt->DK) (H:Hp):Prop where
 fly:∀ pins σ H1 s1 H' e C dd s' δ M' n x,HExt X.K H H'->L2.Inv X pins σ H1 s1->Thrown X.prog X.w X.stack H1 s1 H' e C dd s'->RepM X.K H' M'->Slots X.K H' δ σ->n∈xNames->ClsOf X.K n C->ExD X.K H' n dd x->E δ (.exc n x) M'->X.xe (.ref e) s'
 made:rz=true->∀ pins σ H' h e C dd s' δ M' n x,HExt X.K H H'->L2.Inv X pins σ H' { s' with heap:=h }->Made h s'.heap e (.ref C) dd->RepM X.K H' M'->Slots X.K H' δ σ->n∈xNames->ClsOf X.K n C->ExD X.K H' n dd x->E δ (.exc n x) M'->X.xe (.ref e) s'
noncomputable def _root_.L2.Cx.L (X:Cx) (rz:Bool) (E:DSt->DK):LK where
 K:=X.K
 ok:=XeOk X rz E
 mono:=fun H H' x h=>⟨fun pins σ H1 s1 H2 e C dd s' δ M' n xd y=>h.fly pins σ H1 s1 H2 e C dd s' δ M' n xd (x.trans y),fun r pins σ H2 h0 e C dd s' δ M' n xd y=>h.made r pins σ H2 h0 e C dd s' δ M' n xd (x.trans y)⟩
noncomputable abbrev X0:DSt->DK:=fun _ _ _=>False
theorem xeOk0 {X:Cx} {rz:Bool} {H:Hp}:XeOk X rz X0 H:=⟨fun _ _ _ _ _ _ _ _ _ _ _ _ _ _ _ _ _ _ _ _ _ z=>z.elim,fun _ _ _ _ _ _ _ _ _ _ _ _ _ _ _ _ _ _ _ _ _ z=>z.elim⟩
section
variable (Λ:LK) (K:PySem.W.Frag)
noncomputable def lift (t:DE):TE:=fun σ H Q=>∃ δ M R,RepS Λ H δ σ/\RepM Λ.K H M/\t δ M R/\∀ d M' v H',HExt Λ.K H H'->RepM Λ.K H' M'->RelD Λ.K H' v d->R d M'->Q v H'
noncomputable def liftT (t:DT):TT:=fun σ H Q=>∃ δ M R,RepS Λ H δ σ/\RepM Λ.K H M/\t δ M R/\∀ b M' H',HExt Λ.K H H'->RepM Λ.K H' M'->R b M'->Q b H'
noncomputable def liftA (t:DA):TA:=fun σ H Q=>∃ δ M R,RepS Λ H δ σ/\RepM Λ.K H M/\t δ M R/\∀ ds M' vs H',HExt Λ.K H H'->RepM Λ.K H' M'->RelDs Λ.K H' vs ds->R ds M'->Q vs H'
noncomputable def liftS (X:Cx) (rz:Bool) (t:DS):TS:=fun E σ H=>∃ δ M D,RepS (X.L rz D.ex) H δ σ/\RepM X.K H M/\t D δ M /\
 (∀ δ' M' σ' H',HExt X.K H H'->RepS (X.L rz D.ex) H' δ' σ'->RepM X.K H' M'->D.nx δ' M'->E.nx σ' H') /\
 (∀ d M' v H',HExt X.K H H'->RepM X.K H' M'->RelD X.K H' v d->D.rt d M'->E.rt v H') /\
 (∀ δ' M' σ' H',HExt X.K H H'->RepS (X.L rz D.ex) H' δ' σ'->RepM X.K H' M'->D.bk δ' M'->E.bk σ' H') /\
 (∀ δ' M' σ' H',HExt X.K H H'->RepS (X.L rz D.ex) H' δ' σ'->RepM X.K H' M'->D.ct δ' M'->E.ct σ' H')
noncomputable def lift2 (f:D->D->Mem->DK->Prop):R2:=fun x y H Q=>∃ d e M R,RelD K H x d/\RelD K H y e/\RepM K H M/\f d e M R/\∀ d' M' v H',HExt K H H'->RepM K H' M'->RelD K H' v d'->R d' M'->Q v H'
noncomputable def liftC (f:List D->Mem->DK->Prop):List V->Hp->VK->Prop:=fun xs H Q=>∃ ds M R,RelDs K H xs ds/\RepM K H M/\f ds M R/\∀ d' M' v H',HExt K H H'->RepM K H' M'->RelD K H' v d'->R d' M'->Q v H'
noncomputable def liftSp (S:DSp):Sp:=fun xs H Q E=>∃ ds M R Ed,RelDs K H xs ds/\RepM K H M/\S ds M R Ed/\(∀ d' M' v H',HExt K H H'->RepM K H' M'->RelD K H' v d'->R d' M'->Q v H') /\
 ∀ n M' H' C dd x,HExt K H H'->RepM K H' M'->n∈xNames->ClsOf K n C->ExD K H' n dd x->Ed (.exc n x) M'->E (.ref C) dd H'
end
theorem _root_.L2.PE.imp {X:Cx} {e:Expr} {t t':TE} (h:PE X e t) (i:∀ σ H Q,t' σ H Q->t σ H Q):PE X e t':=fun pins s σ H Q I q=>h pins s σ H Q I (i _ _ _ q)
theorem _root_.L2.PT.imp {X:Cx} {e:Expr} {t t':TT} (h:PT X e t) (i:∀ σ H Q,t' σ H Q->t σ H Q):PT X e t':=fun pins s σ H Q I q=>h pins s σ H Q I (i _ _ _ q)
theorem _root_.L2.PA.imp {X:Cx} {e:List Expr} {t t':TA} (h:PA X e t) (i:∀ σ H Q,t' σ H Q->t σ H Q):PA X e t':=fun pos pins s σ H Q I q=>h pos pins s σ H Q I (i _ _ _ q)
theorem _root_.L2.PSs.imp {X:Cx} {e:List Stmt} {t t':TS} (h:PSs X e t) (i:∀ D σ H,t' D σ H->t D σ H):PSs X e t':=fun pins s σ H D I q=>h pins s σ H D I (i _ _ _ q)
theorem _root_.L2.OpR.imp {X:Cx} {f:Value->Value->Sem Value} {r r':R2} (h:OpR X f r) (i:∀ x y H Q,r' x y H Q->r x y H Q):OpR X f r':=fun pins s σ H x y v u Q I a b q=>h pins s σ H x y v u Q I a b (i _ _ _ _ q)
theorem _root_.L2.CallR.imp {X:Cx} {f:Value} {r r':List V->Hp->VK->Prop} (h:CallR X f r) (i:∀ x H Q,r' x H Q->r x H Q):CallR X f r':=fun pins s σ H x u Q I a q=>h pins s σ H x u Q I a (i _ _ _ q)
noncomputable def dVar (i:Nat):DE:=fun δ M Q=>∃ d,δ[i]?=some (some d)/\Q d M
noncomputable def dC (d:D):DE:=fun _ M Q=>Q d M
noncomputable def d2 (f:D->D->Mem->DK->Prop) (ta tb:DE):DE:=fun δ M Q=>ta δ M fun x M1=>tb δ M1 fun y M2=>f x y M2 Q
noncomputable def d1 (f:D->Mem->DK->Prop) (ta:DE):DE:=fun δ M Q=>ta δ M fun x M1=>f x M1 Q
noncomputable def dNil:DA:=fun _ M Q=>Q [] M
noncomputable def dCons (ta:DE) (tr:DA):DA:=fun δ M Q=>ta δ M fun x M1=>tr δ M1 fun xs M2=>Q (x :: xs) M2
noncomputable def dTup (t:DA):DE:=fun δ M Q=>t δ M fun xs M1=>xs.length<=sizeLine/\Q (.tup xs) M1
noncomputable def dLst (t:DA):DE:=fun δ M Q=>t δ M fun xs M1=>xs.length<=sizeLine/\alloc M1 (.ls xs) fun p M'=>Q (.lst p) M'
noncomputable def dCB (f:List D->Mem->DK->Prop) (t:DA):DE:=fun δ M Q=>t δ M fun xs M1=>f xs M1 Q
noncomputable def dCall (S:DSp) (E:DSt->DK) (t:DA):DE:=fun δ M Q=>t δ M fun xs M1=>S xs M1 Q (E δ)
noncomputable def dTest (t:DE):DT:=fun δ M Q=>t δ M fun x M1=>∃ k,x=.bl k/\Q k M1
noncomputable def dAnd (t u:DT):DT:=fun δ M Q=>t δ M fun c M1=>if c=true then u δ M1 Q else Q false M1
noncomputable def dOr (t u:DT):DT:=fun δ M Q=>t δ M fun c M1=>if c=true then Q true M1 else u δ M1 Q
noncomputable def dNot (t:DT):DT:=fun δ M Q=>t δ M fun c M1=>Q (!c) M1
noncomputable def dAndV (ta tb:DE):DE:=fun δ M Q=>ta δ M fun x M1=>∃ c,x=.bl c/\if c=true then tb δ M1 Q else Q (.bl false) M1
noncomputable def dOrV (ta tb:DE):DE:=fun δ M Q=>ta δ M fun x M1=>∃ c,x=.bl c/\if c=true then Q (.bl true) M1 else tb δ M1 Q
noncomputable def dIfE (c:DT) (ta tb:DE):DE:=fun δ M Q=>c δ M fun b M1=>if b=true then ta δ M1 Q else tb δ M1 Q
section
variable {X:Cx} {rz:Bool} {E:DSt->DK} {a b c:Expr} {ta tb tc:DE} {pos:Pos}
theorem seq2 {Λ:LK} {σ:L2.St} {H:Hp} {δ:DSt} {M:Mem} {R:D->D->Mem->Prop} {Q:V->V->Hp->Prop} (rs:RepS Λ H δ σ) (rm:RepM Λ.K H M) (h:ta δ M fun x M1=>tb δ M1 fun y M2=>R x y M2)
  (q:∀ x y M2 v u H2,HExt Λ.K H H2->RepM Λ.K H2 M2->RelD Λ.K H2 v x->RelD Λ.K H2 u y->R x y M2->Q v u H2):lift Λ ta σ H fun v H1=>lift Λ tb σ H1 fun u H2=>Q v u H2 :=
 ⟨δ,M,_,rs,rm,h,fun _ _ _ _ x1 m1 r1 h1=>⟨δ,_,_,rs.ext x1,m1,h1,fun _ _ _ _ x2 m2 r2 h2=>q _ _ _ _ _ _ (x1.trans x2) m2 (r1.ext x2) r2 h2⟩⟩
theorem de_var {i:Nat} (h:PE X a (tVar i)):PE X a (lift (X.L rz E) (dVar i)):=by
 refine h.imp ?_
 rintro σ H Q ⟨δ,M,R,rs,rm,⟨d,e,r⟩,q⟩
 obtain ⟨v,h1,h2⟩:=rs.slot i d e
 exact ⟨v,h1,q _ _ _ _ (.refl H) rm h2 r⟩
theorem de_con {d:D} {v:V} (h:PE X a (tC v)) (r:∀ H,RelD X.K H v d):PE X a (lift (X.L rz E) (dC d)):=by
 refine h.imp ?_
 rintro σ H Q ⟨δ,M,R,rs,rm,t,q⟩
 exact q _ _ _ _ (.refl H) rm (r H) t
theorem d2_op {Λ:LK} {f:D->D->Mem->DK->Prop} {σ:L2.St} {H:Hp} {Q:VK} (h:lift Λ (d2 f ta tb) σ H Q):tOp (lift2 Λ.K f) (lift Λ ta) (lift Λ tb) σ H Q:=by
 obtain ⟨δ,M,R,rs,rm,t,q⟩:=h
 exact seq2 (R:=fun x y M2=>f x y M2 R) rs rm t fun x y M2 v u H2 x2 m2 r1 r2 t2=>⟨x,y,M2,R,r1,r2,m2,t2,fun d M' w H' x3 m3 r3=>q d M' w H' (x2.trans x3) m3 r3⟩
theorem de_bin {op:Operator} {f:D->D->Mem->DK->Prop} (ho:OpR X (binaryOp op) (lift2 X.K f)) (ha:PE X a (lift (X.L rz E) ta)) (hb:PE X b (lift (X.L rz E) tb)):PE X (.BinOp a op b pos) (lift (X.L rz E) (d2 f ta tb)) :=
 (pe_op ho ha hb).imp fun _ _ _=>d2_op
end
end DL
end
noncomputable section
namespace DL
open PySem PySem.Spec PyProof.Rows L2
theorem noFill_tuple_mul:fillsNumberSlot (.type "tuple") "mul"=pure false :=
 PySem.fillsNumberSlot_seq (id:="tuple.__mul__") (r:=some (.builtin "tuple.__rmul__")) PySem.F.slot_tuple_mul.lookup (by decide +kernel) PySem.F.slot_tuple_rmul.lookup (by decide +kernel)
theorem repeat_tuple:seqRepeat? (.type "tuple")=pure (some (.builtin "tuple.__mul__")):=by
 unfold seqRepeat?
 rw [PySem.seqSlot_of (T:="tuple") (name:="__mul__") (id:="tuple.__mul__") PySem.F.slot_tuple_mul.lookup (by decide +kernel),PySem.seqSlot_of (T:="tuple") (name:="__rmul__") (id:="tuple.__rmul__") PySem.F.slot_tuple_rmul.lookup (by decide +kernel)]
 rfl
theorem int_rmul_tuple (a:Int) (t:Tok) (l:Addr) (items:Array Value) (n:Nat) (dd:Option Addr) (sl:Array (Option Value)) :
  Meets (Builtin.«int.__rmul__» ⟨[.int a t,.ref l],[]⟩) (fun _ R s=>s.heap.get? l=some { cls:=.type "tuple",dict:=dd,data:=.seq items n,slots:=sl }/\R (.ok (.ret Value.notImplemented)) s) :=
 .of_wp fun prog w A R s h=>by obtain ⟨hp,g,d,tk,os⟩:=s; obtain ⟨hl,h⟩:=h; wp_walk; exact ⟨_,rfl,h⟩
theorem tuple_mul (l:Addr) (items:Array Value) (n:Nat) (dd:Option Addr) (sl:Array (Option Value)) (x:Int) (u:Tok) (h0:¬ items.isEmpty=true) (h2:2<=x) (h3:x < 1000000) (hs:items.size * x.toNat<=16777216) :
  Meets (Builtin.«tuple.__mul__» ⟨[.ref l,.int x u],[]⟩) (fun _ R s=>s.heap.get? l=some { cls:=.type "tuple",dict:=dd,data:=.seq items n,slots:=sl }/\R (.ok (.ret (Value.ref s.heap.objs.size))) { s with heap:=s.heap.push { cls:=Value.type "tuple",data:=Data.seq (List.foldl (fun x1 x2=>x1++x2) #[] (List.replicate x.toNat items)) } }) :=
 .of_wp fun prog w A R s h=>by
  obtain ⟨hp,g,d,tk,os⟩:=s; obtain ⟨hl,h⟩:=h
  have c1:¬ (decide (x < -2 ^ 63) || decide (x ≥ 2 ^ 63))=true:=by simp; omega
  have c2:¬ (items.isEmpty || x == 1)=true:=by
   have:¬ x=1:=by omega
   simp [this]; simpa using h0
  have c3:¬ (decide (x<=0) || items.isEmpty)=true:=by
   have:¬ x<=0:=by omega
   simp [this]; simpa using h0
  have e:(items.size:Int) * x=((items.size * x.toNat:Nat):Int):=by
   rw [Int.natCast_mul,Int.toNat_of_nonneg (by omega)]
  have c4:¬ ((items.size:Int) * x > (2 ^ 63 - 1) / 8):=by rw [e]; omega
  have c5:¬ Builtin.Tuple.tupleTooMany ((items.size:Int) * x)=true:=by
   rw [Bool.not_eq_true]
   unfold Builtin.Tuple.tupleTooMany
   rw [e]
   refine decide_eq_false ?_
   have:(sizeLine:Int)=16777216:=by decide
   omega
  have c6:¬ (List.foldl (fun x1 x2=>x1++x2) #[] (List.replicate x.toNat items)).size > sizeLine:=by
   have:(List.foldl (fun x1 x2=>x1++x2) #[] (List.replicate x.toNat items)).size=x.toNat * items.size:=by
    have:=foldl_rep items.toList x.toNat []
    rw [List.nil_append] at this
    have e2:(List.foldl (fun x1 x2=>x1++x2) #[] (List.replicate x.toNat items))=(List.replicate x.toNat items.toList).flatten.toArray:=this
    rw [e2,List.size_toArray,len_rep]; simp
   rw [this,Nat.mul_comm]
   exact Nat.not_lt.mpr hs
  wp_walk
  iterate 5
   (try (first | refine wpAny_ite_false (decide_eq_false c1) ?_ | refine wpAny_ite_false (decide_eq_false c2) ?_ | refine wpAny_ite_false (decide_eq_false c3) ?_ | refine wpAny_ite_false (decide_eq_false c4) ?_ | refine wpAny_ite_false (decide_eq_false c5) ?_))
   (try wp_walk)
  exact ⟨_,rfl,h⟩
section
variable {X:Cx}
noncomputable def rRepT (K:PySem.W.Frag):R2:=fun x y H Q=>∃ a k xs,x=.ref a/\y=.int k/\SqT K H a xs/\xs≠[]/\2<=k/\k < 1000000/\xs.length * k.toNat<=sizeLine /\
 ∀ p,H p=none->Q (.ref p) (upd H p (.tup (List.replicate k.toNat xs).flatten))
theorem op_repT:OpR X (binaryOp .Mult) (rRepT X.K):=by
 intro pins s σ H x y v u Q I rx ry h
 obtain ⟨a,k,xs,rfl,rfl,ha,hx,h1,h2,hz,q⟩:=h
 cases rx
 obtain ⟨t,rfl⟩:=ry
 obtain ⟨its,r1,p1,_⟩:=I.tuple ha
 obtain ⟨⟨cls,dd,data,sl⟩,ho,hc,n,hd⟩:=id p1
 simp only at hc hd
 subst hc hd
 have hnew:List.foldl (fun x1 x2=>x1++x2) #[] (List.replicate k.toNat its.toArray)=(List.replicate k.toNat its).flatten.toArray:=by
  have:=foldl_rep its k.toNat []
  rw [List.nil_append] at this
  exact this
 have hne:¬ its.toArray.isEmpty=true:=by
  have:its≠[]:=fun z=>hx (r1.nil_iff.mp z)
  simpa using this
 have hl:xs.length=its.length:=r1.length
 refine wpAny_binaryOp_repeat_ref (T:="tuple") (U:="int") (by decide) ⟨_,ho,rfl⟩ (fun s'=>typeIs_int s' k t) noFill_tuple_mul PySem.F.fills_int_mul PySem.F.slot_int_rmul repeat_tuple PySem.F.slot_int_index.lookup
  (call_meets PySem.F.slot_int_rmul (typeIs_int s k t) PySem.F.entry_int_rmul (PySem.F.args_int_rmul_2 _ _) (int_rmul_tuple k t a its.toArray n dd sl)
   ⟨ho,rfl,⟨_,ho,rfl⟩,call_meets PySem.F.slot_tuple_mul ⟨_,ho,rfl⟩ PySem.F.entry_tuple_mul (PySem.F.args_tuple_mul_2 _ _) (tuple_mul a its.toArray n dd sl k t hne h1 h2 (by rw [List.size_toArray,<- hl]; exact hz)) ⟨ho,?_⟩⟩)
 rw [hnew]
 refine ⟨.ref s.heap.objs.size,_,I.laid (t':=s.toks) (o:=.tup (List.replicate k.toNat xs).flatten) (fun b ob q=>Heap.get?_push_of_some _ q) (Nat.le_refl _) ?_,rfl,q _ (I.hok.fresh (Nat.le_refl _))⟩
 exact ⟨by rw [len_rep,Nat.mul_comm]; exact hz,_,r1.rep k.toNat,IsTup.new _ _⟩
end
end DL
end
noncomputable section
namespace DL
open PySem PySem.Spec PyProof.Rows L2
section
variable {prog:Program} {w:World} {A:Around} {E:Value->Shared->Prop} {s:Shared}
open HT
theorem getItem_tuple_whole {t sl:Addr} {items:Array Value} {vl vu:Value} {lo hi:Option Int} {Q:Value->Shared->Prop} (ht:IsTup s.heap t items) (hs:s.heap.IsSliceOf sl vl vu .none) (pl:IsPart vl lo) (pu:IsPart vu hi)
  (hw:sIx items.size 0 lo=0/\sIx items.size items.size hi=items.size) (h:Q (.ref t) s):wpAny (model prog w) A (getItem (.ref t) (.ref sl)) Q E s:=by
 obtain ⟨os,hos,hcs,hds⟩:=id hs
 have hTs:s.TypeIs (.ref sl) "slice":=⟨os,hos,hcs⟩
 unfold getItem
 try with_reducible refine wpAny_holding ?_
 first | refine wpAny_bind (wpAny_pure ?_) | skip
 refine wpAny_bind (wpAny_sequenceKey ht.typeIs (by decide) ?_)
 refine wpAny_bind (wpAny_callSpecial?_slot (name:=Str.ofString "__getitem__") ht.typeIs PyProof.Rows.slot_tuple_getitem
  (wpAny_call_entry PyProof.Rows.slot_tuple_getitem ht.typeIs entry_tuple_getitem ?_ (args_tuple_getitem _ _)))
 show wpAny _ _ (Builtin.Tuple.tupleItemsOf (.ref t) >>= _) _ _ s
 refine wpAny_bind (tupleItemsOf_ ht ?_)
 refine wpAny_bind (wpAny_typeOf hTs ?_)
 rw [if_pos (by decide)]
 refine wpAny_bind (sliceApplied_gen hs pl pu ?_)
 rw [hw.1,hw.2]
 show wpAny _ _ (if (((0:Nat):Int) == 0 && (1:Int) == 1 && (items.size - 0) == items.size)=true then _ else _) _ _ s
 rw [if_pos (by simp)]
 have hT:=ht.typeIs
 unfold Builtin.Tuple.tupleIsExact
 refine wpAny_bind (wpAny_bind (wpAny_typeOf hT ?_))
 refine wpAny_pure ?_
 rw [if_pos (by decide)]
 refine wpAny_bind (wpAny_rule ?_)
 exact wpAny_pure ⟨_,rfl,wpAny_pure h⟩
end
theorem tuple_mul1 (l:Addr) (items:Array Value) (n:Nat) (dd:Option Addr) (sl:Array (Option Value)) (x:Int) (u:Tok) (h0:(items.isEmpty || x == 1)=true) (h2:0<=x) (h3:x < 1000000) :
  Meets (Builtin.«tuple.__mul__» ⟨[.ref l,.int x u],[]⟩) (fun _ R s=>s.heap.get? l=some { cls:=.type "tuple",dict:=dd,data:=.seq items n,slots:=sl }/\R (.ok (.ret (Value.ref l))) s) :=
 .of_wp fun prog w A R s h=>by
  obtain ⟨hp,g,d,tk,os⟩:=s; obtain ⟨hl,h⟩:=h
  have c1:¬ (decide (x < -2 ^ 63) || decide (x ≥ 2 ^ 63))=true:=by simp; omega
  wp_walk
  iterate 5
   (try (first | refine wpAny_ite_false (decide_eq_false c1) ?_ | refine wpAny_ite_true (decide_eq_true h0) ?_))
   (try wp_walk)
  exact ⟨_,rfl,h⟩
theorem tuple_mul0 (l:Addr) (items:Array Value) (n:Nat) (dd:Option Addr) (sl:Array (Option Value)) (u:Tok) (h0:¬ items.isEmpty=true) :
  Meets (Builtin.«tuple.__mul__» ⟨[.ref l,.int 0 u],[]⟩) (fun _ R s=>s.heap.get? l=some { cls:=.type "tuple",dict:=dd,data:=.seq items n,slots:=sl }/\R (.ok (.ret (Value.ref s.heap.objs.size))) { s with heap:=s.heap.push { cls:=Value.type "tuple",data:=Data.seq #[] } }) :=
 .of_wp fun prog w A R s h=>by
  obtain ⟨hp,g,d,tk,os⟩:=s; obtain ⟨hl,h⟩:=h
  have c2:¬ (items.isEmpty || (0:Int) == 1)=true:=by simpa using h0
  have c3:(decide ((0:Int)<=0) || items.isEmpty)=true:=by simp
  wp_walk
  iterate 5
   (try (first | refine wpAny_ite_false (decide_eq_false c2) ?_ | refine wpAny_ite_true (decide_eq_true c3) ?_))
   (try wp_walk)
  exact ⟨_,rfl,h⟩
section
variable {X:Cx}
theorem sl_tupW:SlR X (fun x lo hi H Q=>∃ a xs,x=.ref a/\SqT X.K H a xs/\(HT.sIx xs.length 0 lo=0/\HT.sIx xs.length xs.length hi=xs.length)/\Q (.ref a) H):=by
 intro pins s σ H x v vl vu lo hi sl Q I rx hs pl pu h
 obtain ⟨a,xs,rfl,hx,hw,q⟩:=h
 cases rx
 obtain ⟨its,r,ht,hz⟩:=I.tuple hx
 have hlen:its.toArray.size=xs.length:=by rw [List.size_toArray]; exact r.length.symm
 refine ⟨"tuple",_,PyProof.Rows.slot_tuple_getitem.lookup,ht.typeIs,?_⟩
 exact getItem_tuple_whole ht hs pl pu (by rw [hlen]; exact hw) ⟨.ref a,H,I,rfl,q⟩
theorem op_catT0:OpR X (binaryOp .Add) (fun x y H Q=>∃ a b ys,x=.ref a/\y=.ref b/\SqT X.K H a []/\SqT X.K H b ys/\Q (.ref b) H):=by
 intro pins s σ H x y v u Q I rx ry h
 obtain ⟨a,b,ys,rfl,rfl,ha,hb,q⟩:=h
 cases rx
 cases ry
 obtain ⟨its,r1,p1,_⟩:=I.tuple ha
 obtain ⟨its2,r2,p2,_⟩:=I.tuple hb
 cases r1
 obtain ⟨⟨cls,dd,data,sl⟩,ho,hc,n,hd⟩:=id p1
 obtain ⟨⟨cls2,dd2,data2,sl2⟩,ho2,hc2,n2,hd2⟩:=id p2
 simp only at hc hd hc2 hd2
 subst hc hd hc2 hd2
 exact concat_meets ⟨_,ho,rfl⟩ ⟨_,ho2,rfl⟩ noFill_tuple_add seq_tuple_add PySem.F.slot_tuple_add PySem.F.entry_tuple_add (PySem.F.args_tuple_add_2 _ _)
  (PyProof.Rows.tuple_addW0 a b _ its2.toArray n n2 dd dd2 sl sl2 rfl) ⟨ho,ho2,.ref b,H,I,rfl,q⟩
theorem op_repT1:OpR X (binaryOp .Mult) (fun x y H Q=>∃ a k xs,x=.ref a/\y=.int k/\SqT X.K H a xs/\(xs=[]\/k=1)/\0<=k/\k < 1000000/\Q (.ref a) H):=by
 intro pins s σ H x y v u Q I rx ry h
 obtain ⟨a,k,xs,rfl,rfl,ha,hx,h1,h2,q⟩:=h
 cases rx
 obtain ⟨t,rfl⟩:=ry
 obtain ⟨its,r1,p1,_⟩:=I.tuple ha
 obtain ⟨⟨cls,dd,data,sl⟩,ho,hc,n,hd⟩:=id p1
 simp only at hc hd
 subst hc hd
 have hne:(its.toArray.isEmpty || k == 1)=true:=by
  rcases hx with rfl | rfl
  ·cases r1; rfl
  ·simp
 refine wpAny_binaryOp_repeat_ref (T:="tuple") (U:="int") (by decide) ⟨_,ho,rfl⟩ (fun s'=>typeIs_int s' k t) noFill_tuple_mul PySem.F.fills_int_mul PySem.F.slot_int_rmul repeat_tuple PySem.F.slot_int_index.lookup
  (call_meets PySem.F.slot_int_rmul (typeIs_int s k t) PySem.F.entry_int_rmul (PySem.F.args_int_rmul_2 _ _) (int_rmul_tuple k t a its.toArray n dd sl)
   ⟨ho,rfl,⟨_,ho,rfl⟩,call_meets PySem.F.slot_tuple_mul ⟨_,ho,rfl⟩ PySem.F.entry_tuple_mul (PySem.F.args_tuple_mul_2 _ _) (tuple_mul1 a its.toArray n dd sl k t hne h1 h2) ⟨ho,?_⟩⟩)
 exact ⟨.ref a,H,I,rfl,q⟩
theorem op_repT0:OpR X (binaryOp .Mult) (fun x y H Q=>∃ a xs,x=.ref a/\y=.int 0/\SqT X.K H a xs/\xs≠[]/\∀ p,H p=none->Q (.ref p) (upd H p (.tup []))):=by
 intro pins s σ H x y v u Q I rx ry h
 obtain ⟨a,xs,rfl,rfl,ha,hx,q⟩:=h
 cases rx
 obtain ⟨t,rfl⟩:=ry
 obtain ⟨its,r1,p1,_⟩:=I.tuple ha
 obtain ⟨⟨cls,dd,data,sl⟩,ho,hc,n,hd⟩:=id p1
 simp only at hc hd
 subst hc hd
 have hne:¬ its.toArray.isEmpty=true:=by
  have:its≠[]:=fun z=>hx (r1.nil_iff.mp z)
  simpa using this
 refine wpAny_binaryOp_repeat_ref (T:="tuple") (U:="int") (by decide) ⟨_,ho,rfl⟩ (fun s'=>typeIs_int s' 0 t) noFill_tuple_mul PySem.F.fills_int_mul PySem.F.slot_int_rmul repeat_tuple PySem.F.slot_int_index.lookup
  (call_meets PySem.F.slot_int_rmul (typeIs_int s 0 t) PySem.F.entry_int_rmul (PySem.F.args_int_rmul_2 _ _) (int_rmul_tuple 0 t a its.toArray n dd sl)
   ⟨ho,rfl,⟨_,ho,rfl⟩,call_meets PySem.F.slot_tuple_mul ⟨_,ho,rfl⟩ PySem.F.entry_tuple_mul (PySem.F.args_tuple_mul_2 _ _) (tuple_mul0 a its.toArray n dd sl t hne) ⟨ho,?_⟩⟩)
 refine ⟨.ref s.heap.objs.size,_,I.laid (t':=s.toks) (o:=.tup []) (fun b ob q=>Heap.get?_push_of_some _ q) (Nat.le_refl _) ?_,rfl,q _ (I.hok.fresh (Nat.le_refl _))⟩
 exact ⟨Nat.zero_le _,_,.nil,IsTup.new _ _⟩
end
end DL
end
noncomputable section
namespace DL
open PySem PySem.Spec PyProof.Rows L2
section
variable {prog:Program} {w:World} {A:Around} {E:Value->Shared->Prop} {s:Shared}
theorem nx_item {j b:Addr} {n:Nat} {vs:Array Value} {v:Value} {Q:Value->Shared->Prop} (hj:s.heap.IsTupleIter j b n) (hb:s.heap.IsTuple b vs) (hv:vs[n]?=some v)
  (q:∀ g,g.IsTupleIter j b (n + 1)->Heap.SameBut j s.heap g->Q v { s with heap:=g }):wpAny (model prog w) A (Builtin.SmallTypes.nextOf (.ref j)) Q E s:=by
 obtain ⟨o,e1,e2,e3⟩:=id hj
 obtain ⟨p,f1,_,m,f3⟩:=hb
 unfold Builtin.SmallTypes.nextOf
 refine wpAny_bind (wpAny_callSpecial?_slot (name:=Str.ofString "__next__") hj.typeIs F.slot_tuple_iterator_next (wpAny_call_entry F.slot_tuple_iterator_next hj.typeIs F.entry_tuple_iterator_next ?_ (F.args_tuple_iterator_next_1 _)))
 show wpAny _ _ (field (.ref j) 0 >>= _) _ _ s
 refine wpAny_bind (wpAny_field e1 e3 (x:=.ref b) rfl ?_)
 show wpAny _ _ (if (Value.ref b == Value.none)=true then _ else _) _ _ s
 rw [if_neg (show ¬ ((Value.ref b == Value.none)=true) from Bool.false_ne_true)]
 show wpAny _ _ (field (.ref j) 1 >>= _) _ _ s
 refine wpAny_bind (wpAny_field e1 e3 (x:=.int n 0) rfl ?_)
 show wpAny _ _ (seqItems? (.ref b) >>= _) _ _ s
 refine wpAny_bind (wpAny_seqItems f1 f3 ?_)
 simp only [Int.toNat_natCast,hv]
 refine wpAny_bind (wpAny_setField e1 e3 (by simp) (wpAny_pure ⟨v,rfl,wpAny_pure (q _ ?_ (Heap.SameBut.update ..))⟩))
 exact ⟨_,Heap.get?_update_self _ e1 (Obj.isFreed_of_fields (Obj.data_mapFields e3 _)),(Obj.cls_mapFields ..).trans e2,by rw [Obj.data_mapFields e3]; simp [rawInt]⟩
theorem nx_end {j b:Addr} {n:Nat} {vs:Array Value} {Q:Value->Shared->Prop} (hh:A.handled=none) (hj:s.heap.IsTupleIter j b n) (hb:s.heap.IsTuple b vs) (hv:vs[n]?=none)
  (q:∀ g e,Heap.ExtBut j s.heap g->(∃ o,g.get? e=some o/\o.cls=.type "StopIteration")->E (.ref e) { s with heap:=g }):wpAny (model prog w) A (Builtin.SmallTypes.nextOf (.ref j)) Q E s:=by
 obtain ⟨o,e1,e2,e3⟩:=id hj
 obtain ⟨p,f1,_,m,f3⟩:=hb
 unfold Builtin.SmallTypes.nextOf
 refine wpAny_bind (wpAny_callSpecial?_slot (name:=Str.ofString "__next__") hj.typeIs F.slot_tuple_iterator_next (wpAny_call_entry F.slot_tuple_iterator_next hj.typeIs F.entry_tuple_iterator_next ?_ (F.args_tuple_iterator_next_1 _)))
 show wpAny _ _ (field (.ref j) 0 >>= _) _ _ s
 refine wpAny_bind (wpAny_field e1 e3 (x:=.ref b) rfl ?_)
 show wpAny _ _ (if (Value.ref b == Value.none)=true then _ else _) _ _ s
 rw [if_neg (show ¬ ((Value.ref b == Value.none)=true) from Bool.false_ne_true)]
 show wpAny _ _ (field (.ref j) 1 >>= _) _ _ s
 refine wpAny_bind (wpAny_field e1 e3 (x:=.int n 0) rfl ?_)
 show wpAny _ _ (seqItems? (.ref b) >>= _) _ _ s
 refine wpAny_bind (wpAny_seqItems f1 f3 ?_)
 simp only [Int.toNat_natCast,hv]
 refine wpAny_bind (wpAny_rule (wpAny_bind (wpAny_setField e1 e3 (by simp) ?_)))
 show wpAny _ _ (newExc (.type "StopIteration") [] >>= _) _ _ _; refine wpAny_bind ?_; simp only [newExc,newTuple]
 refine wpAny_bind (wpAny_newObj_type ?_ (by size_fits)); refine wpAny_bind (m:=firstArgMember _ _) (wpAny_of_eq (a:=Value.none) (by first | rfl | (simp only [firstArgMember]; rfl)) ?_)
 refine wpAny_newObj_type ?_ (by size_fits); simp only [raiseNew]; refine wpAny_bind (wpAny_handled ?_)
 (first | rw [show A.in1.handled=none from hh] | rw [hh]); refine wpAny_bind (wpAny_pure (wpAny_throw ?_))
 exact q _ _ (((Heap.SameBut.update ..).extBut.push _).push _) ⟨_,Heap.get?_push_size _ rfl,rfl⟩
end
section
variable {X:Cx} {pins:List (Addr×Obj)} {σ:L2.St} {H:Hp} {s:Shared}
theorem turnedL {h':Heap} {t':Nat} {fp:List Addr} (I:Inv X pins σ H s) (k:∀ b o,b ∉ fp->s.heap.get? b=some o->h'.get? b=some o) (f:∀ b∈fp,FpOk X pins H b):Inv X pins σ H { s with heap:=h',toks:=t' }:=by
 have nit:∀ b u,H b=some u->b ∉ fp:=fun b u e z=>by rw [(f b z).1] at e; cases e
 refine I.step (g':=s.gens) (d':=s.drawn) (ch:=fp) (fun b hb=>⟨(f b hb).2.2.2.1,(f b hb).2.1,(f b hb).2.2.2.2.1,(f b hb).2.2.2.2.2⟩) (fun b o _ _ hc e _=>k b o hc e) (fun b o _ _ hc e _=>⟨o.slots,k b o hc e⟩) (fun _ _ _ _ n=>n)
  (fun b o hc e=>⟨o,k b o hc e⟩) (fun _ _ e=>e) (fun _ _ _ e=>e) (fun b ps e=>⟨#[],by rw [e]; simp⟩) (fun m hm=>?_) (fun b u e=>?_) I.bare
 ·obtain ⟨o,es,ep,ho,r⟩:=hm
  exact ⟨o,es,ep,k _ o (fun z=>(f _ z).2.1 rfl) ho,r⟩
 ·refine (I.hok b u e).stay (fun c v hc q=>k c v ?_ q) (fun _ q=>q) fun _ _ q=>q
  rcases hc with z | z
  ·rw [z]; exact nit b u e
  ·exact nit c _ z
end
end DL
end
noncomputable section
namespace DL
open PySem PySem.Spec PyProof.Rows L2
noncomputable def bAdd (d e:D) (M:Mem) (Q:DK):Prop :=
 match d,e with
 | .int i,.int j=>Q (.int (i + j)) M
 | .str x,.str y=>x.length + y.length<=sizeLine/\Q (.str (x++y)) M
 | .lst a,.lst b=>∃ xs ys,M a=some (.ls xs)/\M b=some (.ls ys)/\xs.length + ys.length<=sizeLine/\alloc M (.ls (xs++ys)) fun p M'=>Q (.lst p) M'
 | .tup xs,.tup ys=>xs.length + ys.length<=sizeLine/\Q (.tup (xs++ys)) M
 | _,_=>False
noncomputable def bInt (f:Int->Int->Prop) (g:Int->Int->Int) (d e:D) (M:Mem) (Q:DK):Prop :=
 match d,e with
 | .int i,.int j=>f i j/\Q (.int (g i j)) M
 | _,_=>False
noncomputable def bMul (d e:D) (M:Mem) (Q:DK):Prop :=
 match d,e with
 | .int i,.int j=>IntMulOk i j/\Q (.int (i * j)) M
 | .tup xs,.int k=>0<=k/\k < 1000000/\xs.length * k.toNat<=sizeLine/\Q (.tup (List.replicate k.toNat xs).flatten) M
 | .lst a,.int k=>∃ xs,M a=some (.ls xs)/\0<=k/\k < 1000000/\xs.length * k.toNat<=sizeLine/\alloc M (.ls (List.replicate k.toNat xs).flatten) fun p M'=>Q (.lst p) M'
 | _,_=>False
noncomputable def DivOk (j:Int):Prop:=j≠0/\j.natAbs.log2 < 9000
noncomputable def bOp:Operator->D->D->Mem->DK->Prop
 | .Add=>bAdd
 | .Sub=>bInt (fun _ _=>True) fun i j=>i - j
 | .Mult=>bMul
 | .FloorDiv=>bInt (fun _ j=>DivOk j) fun i j=>i.fdiv j
 | .Mod=>bInt (fun _ j=>j≠0) fun i j=>i.fmod j
 | .Pow=>bInt CPow fun i j=>i ^ j.toNat
 | _=>fun _ _ _ _=>False
theorem bInt_inv {f:Int->Int->Prop} {g:Int->Int->Int} {d e:D} {M:Mem} {Q:DK} (h:bInt f g d e M Q):∃ i j,d=.int i/\e=.int j/\f i j/\Q (.int (g i j)) M:=by
 cases d with
 | int i=>cases e with
  | int j=>exact ⟨i,j,rfl,rfl,h.1,h.2⟩
  | _=>exact h.elim
 | _=>exact h.elim
section
variable {X:Cx}
theorem op_bInt {f:Value->Value->Sem Value} {C:Int->Int->Prop} {g:Int->Int->Int}
  (rule:∀ (i j:Int) (t u:Tok) (s:Shared) (Q:Value->Shared->Prop) (E:Value->Shared->Prop),C i j->Q (.int (g i j) s.toks) { s with toks:=s.toks + 1 }->wpAny (model X.prog X.w) X.A (f (.int i t) (.int j u)) Q E s) :
  OpR X f (lift2 X.K (bInt C g)):=by
 refine (opI (X:=X) (C:=C) (g:=g) rule).imp ?_
 rintro x y H Q ⟨d,e,M,R,r1,r2,rm,h,q⟩
 obtain ⟨i,j,rfl,rfl,h1,h2⟩:=bInt_inv h
 cases r1; cases r2
 exact ⟨_,_,rfl,rfl,h1,q _ _ _ _ (.refl H) rm (.int _) h2⟩
theorem op_bAdd:OpR X (binaryOp .Add) (lift2 X.K bAdd):=by
  rintro pins s σ H x y v u Q I rx ry ⟨d,e,M,R,r1,r2,rm,h,q⟩
  cases r1 with
  | int i =>
    cases r2<;>first
      | exact (show False from h).elim
      | exact op_add pins s σ H _ _ v u Q I rx ry ⟨_,_,rfl,rfl,q _ _ _ _ (.refl H) rm (.int _) h⟩
  | str x =>
    cases r2<;>first
      | exact (show False from h).elim
      | exact op_add_str pins s σ H _ _ v u Q I rx ry ⟨_,_,rfl,rfl,h.1,q _ _ _ _ (.refl H) rm (.str _) h.2⟩
  | lst a =>
    cases r2<;>first
      | exact (show False from h).elim
      | (obtain ⟨xs,ys,h1,h2,h3,h4⟩:=h
         obtain ⟨vs,e1,q1⟩:=rm _ _ h1
         obtain ⟨ws,e2,q2⟩:=rm _ _ h2
         refine op_cat pins s σ H _ _ v u Q I rx ry ⟨_,_,vs,ws,rfl,rfl,e1,e2,by rw [q1.length,q2.length]; exact h3,fun p hp=>?_⟩
         exact q _ _ _ _ (.upd (.inl hp)) (rm.lst hp (q1.append q2)) (.lst p) (h4.at (rm.none hp)))
  | tup h1 q1 =>
    cases r2<;>first
      | exact (show False from h).elim
      | (rename_i h2 q2
         obtain ⟨g2,g3⟩:=h
         cases q1 with
         | nil=>exact op_catT0 pins s σ H _ _ v u Q I rx ry ⟨_,_,_,rfl,rfl,h1,h2,q _ _ _ _ (.refl H) rm (.tup h2 q2) g3⟩
         | cons qa qb =>
           have q1:=RelDs.cons qa qb
           refine op_catT pins s σ H _ _ v u Q I rx ry ⟨_,_,_,_,rfl,rfl,h1,h2,nofun,by rw [q1.length,q2.length]; exact g2,fun z=>?_,fun z p hp=>?_⟩
           · subst z; cases q2; rw [List.append_nil] at g3; exact q _ _ _ _ (.refl H) rm (.tup h1 q1) g3
           · exact q _ _ _ _ (.upd (.inl hp)) (rm.tup hp) (.tup (.of upd_same) ((q1.append q2).ext (.upd (.inl hp)))) g3)
  | _=>exact (show False from h).elim
theorem RelDs.rep {K:PySem.W.Frag} {H:Hp} {vs:List V} {ds:List D} (r:RelDs K H vs ds):∀ k:Nat,RelDs K H (List.replicate k vs).flatten (List.replicate k ds).flatten
 | 0=>.nil
 | k + 1=>by
  rw [List.replicate_succ,List.replicate_succ,List.flatten_cons,List.flatten_cons]
  exact r.append (RelDs.rep r k)
theorem op_bMul:OpR X (binaryOp .Mult) (lift2 X.K bMul):=by
  rintro pins s σ H x y v u Q I rx ry ⟨d,e,M,R,r1,r2,rm,h,q⟩
  cases r1 with
  | int i =>
    cases r2<;>first
      | exact (show False from h).elim
      | exact opI (X:=X) (C:=IntMulOk) (g:=fun i j=>i * j) (fun _ _ _ _ _ _ _ hc q=>mul_int q hc) pins s σ H _ _ v u Q I rx ry ⟨_,_,rfl,rfl,h.1,q _ _ _ _ (.refl H) rm (.int _) h.2⟩
  | lst a =>
    cases r2<;>first
      | exact (show False from h).elim
      | (obtain ⟨xs,h1,g1,g2,h3,h4⟩:=h
         obtain ⟨vs,e1,q1⟩:=rm _ _ h1
         refine op_rep pins s σ H _ _ v u Q I rx ry ⟨_,_,vs,rfl,rfl,e1,by omega,by omega,by rw [q1.length]; exact h3,fun p hp=>?_⟩
         exact q _ _ _ _ (.upd (.inl hp)) (rm.lst hp (q1.rep _)) (.lst p) (h4.at (rm.none hp)))
  | tup h1 q1 =>
    cases r2<;>first
      | exact (show False from h).elim
      | (rename_i ds k
         obtain ⟨g2,g3,g4,g5⟩:=h
         by_cases hx:ds=[]\/k=1
         · have e:(List.replicate k.toNat ds).flatten=ds:=by
             rcases hx with rfl | rfl
             · simp
             · simp
           rw [e] at g5
           refine op_repT1 pins s σ H _ _ v u Q I rx ry ⟨_,_,_,rfl,rfl,h1,?_,g2,g3,q _ _ _ _ (.refl H) rm (.tup h1 q1) g5⟩
           rcases hx with rfl | hx
           · cases q1; exact .inl rfl
           · exact .inr hx
         · have hn:ds≠[]:=fun z=>hx (.inl z)
           by_cases hk:k=0
           · subst hk
             refine op_repT0 pins s σ H _ _ v u Q I rx ry ⟨_,_,rfl,rfl,h1,?_,fun p hp=>?_⟩
             · intro z; subst z; cases q1; exact hn rfl
             · exact q _ _ _ _ (.upd (.inl hp)) (rm.tup hp) (.tup (.of upd_same) .nil) g5
           · refine op_repT pins s σ H _ _ v u Q I rx ry ⟨_,_,_,rfl,rfl,h1,?_,by have:¬ k=1:=fun z=>hx (.inr z); omega,g3,by rw [q1.length]; exact g4,fun p hp=>?_⟩
             · intro z; subst z; cases q1; exact hn rfl
             · exact q _ _ _ _ (.upd (.inl hp)) (rm.tup hp) (.tup (.of upd_same) ((q1.rep _).ext (.upd (.inl hp)))) g5)
  | _=>exact (show False from h).elim
theorem op_b (op:Operator):OpR X (binaryOp op) (lift2 X.K (bOp op)):=by
 cases op with
 | Add=>exact op_bAdd
 | Sub=>exact op_bInt fun _ _ _ _ _ _ _ _ q=>sub_int q
 | Mult=>exact op_bMul
 | FloorDiv=>exact op_bInt fun _ _ _ _ _ _ _ hc q=>floordiv_int hc.1 q (.inl (PyProof.noPylong_of_log2 hc.2))
 | Mod=>exact op_bInt fun _ _ _ _ _ _ _ hc q=>mod_int' hc q
 | Pow=>exact op_bInt fun _ _ _ _ _ _ _ hc q=>pow_int_small hc.1 hc.2.1 hc.2.2 q
 | _=>intro pins s σ H x y v u Q I rx ry ⟨d,e,M,R,r1,r2,rm,h,q⟩; exact (show False from h).elim
end
mutual
inductive Py (M:Mem):D->PyData->Prop
 | non:Py M .non .none
 | bl (b:Bool):Py M (.bl b) (.bool b)
 | int (i:Int):Py M (.int i) (.int i)
 | str (x:Str) (hx:(PyData.str x).canLay0=true):Py M (.str x) (.str x)
 | tup {ds:List D} {ps:List PyData} (h:Pys M ds ps):Py M (.tup ds) (.tuple ps)
 | fz {ds:List D} {ps:List PyData} (h:Pys M ds ps):Py M (.fz ds) (.list ps)
 | lst {a:Addr} {ds:List D} {ps:List PyData} (e:M a=some (.ls ds)) (h:Pys M ds ps):Py M (.lst a) (.list ps)
inductive Pys (M:Mem):List D->List PyData->Prop
 | nil:Pys M [] []
 | cons {d:D} {p:PyData} {ds:List D} {ps:List PyData} (h:Py M d p) (r:Pys M ds ps):Pys M (d :: ds) (p :: ps)
end
section
variable {X:Cx} {pins:List (Addr×Obj)} {s:Shared} {σ:L2.St} {H:Hp} {M:Mem}
theorem Pys.reads (I:L2.Inv X pins σ H s) (rm:RepM X.K H M) {ds:List D} {ps:List PyData} (h:Pys M ds ps):∀ {vs:List V} {us:List Value},RelDs X.K H vs ds->Vals vs us->∃ as,ReadsAll s.heap us ps as/\PyData.canLayAll0 ps=true:=by
 induction h using Pys.rec (motive_1:=fun d p _=>∀ (v:V) (u:Value),RelD X.K H v d->RelV v u->∃ as,Reads s.heap u p as/\p.canLay0=true) with
 | non=>rename_i v u r e; cases r; cases e; exact ⟨_,.none,rfl⟩
 | bl b=>rename_i v u r e; cases r; cases e; exact ⟨_,.bool b,rfl⟩
 | int i=>rename_i v u r e; cases r; obtain ⟨_,rfl⟩:=e; exact ⟨_,.int i _,rfl⟩
 | str x hx=>rename_i v u r e; cases r; obtain ⟨_,rfl⟩:=e; exact ⟨_,.str x _,hx⟩
 | tup h ih =>
  rename_i v u r e
  cases r with
  | tup ht r =>
   cases e
   obtain ⟨its,rv,⟨o,e1,e2,n,e3⟩,_⟩:=I.tuple ht
   obtain ⟨as,q,c⟩:=ih r rv
   exact ⟨as,.tuple e1 e2 e3 q,c⟩
 | fz h ih =>
  rename_i v u r e
  cases r with
  | fz hf r =>
   cases e
   obtain ⟨its,rv,⟨o,n,e1,e2,_,e3⟩,_⟩:=I.list hf.sq
   obtain ⟨as,q,c⟩:=ih r rv
   exact ⟨_,.list e1 e2 e3 q,c⟩
 | lst e h ih =>
  rename_i v u r z
  cases r
  cases z
  obtain ⟨vs,e0,r⟩:=rm _ _ e
  obtain ⟨its,rv,⟨o,n,e1,e2,_,e3⟩,_⟩:=I.list (.of e0)
  obtain ⟨as,q,c⟩:=ih r rv
  exact ⟨_,.list e1 e2 e3 q,c⟩
 | nil=>intro vs us r e; cases r; cases e; exact ⟨_,.nil,rfl⟩
 | cons h r i1 i2 =>
  intro vs us q z
  cases q with
  | cons q qs =>
   cases z with
   | cons z zs =>
    obtain ⟨as,a1,a2⟩:=i1 _ _ q z
    obtain ⟨bs,b1,b2⟩:=i2 qs zs
    exact ⟨_,.cons a1 b1,show (_ && _)=true by rw [a2,b2]; rfl⟩
theorem Py.reads (I:L2.Inv X pins σ H s) (rm:RepM X.K H M) {d:D} {p:PyData} {v:V} {u:Value} (h:Py M d p) (r:RelD X.K H v d) (e:RelV v u):∃ as,Reads s.heap u p as/\p.canLay0=true:=by
 obtain ⟨as,a1,a2⟩:=Pys.reads I rm (.cons h .nil) (.cons r .nil) (.cons e .nil)
 cases a1 with
 | cons b1 b2=>exact ⟨_,b1,by revert a2; show (_ && _)=true->_; cases p.canLay0 with | true=>exact fun _=>rfl | false=>exact fun z=>absurd z Bool.false_ne_true⟩
end
noncomputable def cInt (g:Int->Int->Bool) (d e:D) (M:Mem) (Q:DK):Prop :=
 match d,e with
 | .int i,.int j=>Q (.bl (g i j)) M
 | _,_=>False
noncomputable def cEq (neg:Bool) (d e:D) (M:Mem) (Q:DK):Prop :=
 match d with
 | .dct p=>neg=false/\(∃ kvs,M p=some (.dk kvs))/\(∃ xs,e=.tup xs)/\Q (.bl false) M
 | d=>∃ a b,Py M d a/\Py M e b/\min a.depth b.depth<=60/\Q (.bl (if neg then !PyData.eqv a b else PyData.eqv a b)) M
theorem cEq_of {neg:Bool} {d e:D} {M:Mem} {Q:DK} {a b:PyData} (h1:Py M d a) (h2:Py M e b) (h3:min a.depth b.depth<=60) (q:Q (.bl (if neg then !PyData.eqv a b else PyData.eqv a b)) M):cEq neg d e M Q:=by
 cases d with
 | dct p=>cases h1
 | _=>exact ⟨a,b,h1,h2,h3,q⟩
theorem cEq_inv {neg:Bool} {d e:D} {M:Mem} {Q:DK} (h:cEq neg d e M Q):(∃ p kvs xs,d=.dct p/\neg=false/\M p=some (.dk kvs)/\e=.tup xs/\Q (.bl false) M)\/∃ a b,Py M d a/\Py M e b/\min a.depth b.depth<=60/\Q (.bl (if neg then !PyData.eqv a b else PyData.eqv a b)) M:=by
 cases d with
 | dct p=>obtain ⟨h0,⟨kvs,h1⟩,⟨xs,h2⟩,h3⟩:=h; exact .inl ⟨p,kvs,xs,rfl,h0,h1,h2,h3⟩
 | _=>exact .inr h
noncomputable def sdAt {α:Type}:List Str->List α->Str->Option α
 | x :: xs,d :: ds,k=>if k=x then some d else sdAt xs ds k
 | _,_,_=>none
theorem EntK.exact {l:List DictEntry} {xs:List Str} {us:List Value} (h:EntK l xs us):(l.all fun e=>isExactStrKey e.key)=true:=by
 induction h with
 | nil=>rfl
 | cons hk _ ih=>rw [List.all_cons,hk,ih]; rfl
theorem EntK.find {k:Str} {l:List DictEntry} {xs:List Str} {us:List Value} (h:EntK l xs us):(l.find? fun e=>e.key.isStr k).map (·.val)=sdAt xs us k:=by
 induction h with
 | nil=>rfl
 | @cons e x t es xs us hk _ ih =>
  rw [List.find?_cons,hk]
  show _=if k=x then some e.val else sdAt xs us k
  by_cases c:k=x
  ·subst c
   rw [if_pos rfl,show (Value.str k t).isStr k=true from by simp [Value.isStr]]; rfl
  ·rw [if_neg c,show (Value.str x t).isStr k=false from by simp [Value.isStr]; exact fun z=>c z.symm]; exact ih
theorem sdAt_rel {K:PySem.W.Frag} {H:Hp} {k:Str} {d:D}:∀ {xs:List Str} {vs:List V} {ds:List D},RelDs K H vs ds->sdAt xs ds k=some d->∃ v,sdAt xs vs k=some v/\RelD K H v d
 | [],_,_,_,e=>by simp [sdAt] at e
 | _ :: _,_,_,.nil,e=>by simp [sdAt] at e
 | x :: xs,_,_,.cons h r,e=>by
  unfold sdAt at e ⊢
  by_cases c:k=x
  ·rw [if_pos c] at e ⊢; cases e; exact ⟨_,rfl,h⟩
  ·rw [if_neg c] at e ⊢; exact sdAt_rel r e
theorem sdAt_vals {k:Str} {v:V}:∀ {xs:List Str} {vs:List V} {us:List Value},Vals vs us->sdAt xs vs k=some v->∃ u,sdAt xs us k=some u/\RelV v u
 | [],_,_,_,e=>by simp [sdAt] at e
 | _ :: _,_,_,.nil,e=>by simp [sdAt] at e
 | x :: xs,_,_,.cons h r,e=>by
  unfold sdAt at e ⊢
  by_cases c:k=x
  ·rw [if_pos c] at e ⊢; cases e; exact ⟨_,rfl,h⟩
  ·rw [if_neg c] at e ⊢; exact sdAt_vals r e
theorem EntK.mem {k:Str} {l:List DictEntry} {xs:List Str} {us:List Value} (h:EntK l xs us):(sdAt xs us k).isSome=xs.contains k:=by
 induction h with
 | nil=>rfl
 | @cons e x t es xs us hk _ ih =>
  show (if k=x then some e.val else sdAt xs us k).isSome=_
  rw [List.contains_cons]
  by_cases c:k=x
  ·subst c; simp
  ·rw [if_neg c,ih]; simp [c]
theorem tab_get {prog:Program} {w:World} {A:Around} {E:Value->Shared->Prop} {s:Shared} {a:Addr} {o:Obj} {es:Array DictEntry} {ep:Nat} {xs:List Str} {us:List Value} {k:Str} {tk:Tok} {Q:Option Value->Shared->Prop}
  (ho:s.heap.get? a=some o) (hd:o.data=.dict es ep) (en:EntK es.toList xs us) (h:Q (sdAt xs us k) { s with toks:=s.toks + 1 }):wpAny (model prog w) A (dictGet a (.str k tk)) Q E s:=by
 unfold dictGet
 try with_reducible refine wpAny_holding ?_
 refine wpAny_bind (wpAny_pyHash_str (wpAny_bind (PyProof.Rows.KTD.kt_dictFind_strs (s:={ s with toks:=s.toks + 1 }) ho hd (by obtain ⟨l⟩:=es; simpa using en.exact) ?_)))
 have hq:Q (findBy (fun k v=>v.isStr k) es k) { s with toks:=s.toks + 1 }:=by
  have hf:findBy (fun k v=>v.isStr k) es k=(es.toList.find? fun e=>e.key.isStr k).map (·.val):=by
   obtain ⟨l⟩:=es
   simp [findBy]
  rw [hf,en.find]; exact h
 rw [findBy_of_findIdx?] at hq
 cases hi:es.findIdx? fun e=>e.key.isStr k with
 | none=>rw [hi] at hq; exact wpAny_pure hq
 | some i=>rw [hi] at hq; exact wpAny_bind (wpAny_dictEntries (s:={ s with toks:=s.toks + 1 }) ho hd (wpAny_pure hq))
noncomputable def cIs (neg:Bool) (d e:D) (M:Mem) (Q:DK):Prop :=
 match e with
 | .non=>Q (.bl (if neg then (match d with | .non=>false | _=>true) else (match d with | .non=>true | _=>false))) M
 | .bl k=>Q (.bl (if neg then (match d with | .bl j=>!(j == k) | _=>true) else (match d with | .bl j=>j == k | _=>false))) M
 | _=>False
noncomputable def inSeq (neg:Bool) (d:D) (xs:List D) (M:Mem) (Q:DK):Prop:=∃ ps p,Pys M xs ps/\Py M d p/\p.depth<=60/\Q (.bl (if neg then !(ps.any fun q=>PyData.eqv q p) else ps.any fun q=>PyData.eqv q p)) M
noncomputable def cIn (neg:Bool) (d e:D) (M:Mem) (Q:DK):Prop :=
 match e with
 | .str y=>∃ x,d=.str x/\Q (.bl (if neg then !(!(Builtin.Str.occurrences y x 0 y.length 1).isEmpty) else !(Builtin.Str.occurrences y x 0 y.length 1).isEmpty)) M
 | .tup xs=>inSeq neg d xs M Q
 | .fz xs=>inSeq neg d xs M Q
 | .lst a=>∃ xs,M a=some (.ls xs)/\inSeq neg d xs M Q
 | .sd xs _=>∃ x,d=.str x/\Q (.bl (if neg then !(xs.contains x) else xs.contains x)) M
 | _=>False
noncomputable def cOp:CmpOp->D->D->Mem->DK->Prop
 | .Eq=>cEq false
 | .NotEq=>cEq true
 | .Lt=>cInt fun i j=>decide (i < j)
 | .LtE=>cInt fun i j=>decide (i<=j)
 | .Gt=>cInt fun i j=>decide (j < i)
 | .GtE=>cInt fun i j=>decide (j<=i)
 | .In=>cIn false
 | .NotIn=>cIn true
 | .Is=>cIs false
 | .IsNot=>fun _ _ _ _=>False
section
variable {X:Cx}
theorem cInt_inv {g:Int->Int->Bool} {d e:D} {M:Mem} {Q:DK} (h:cInt g d e M Q):∃ i j,d=.int i/\e=.int j/\Q (.bl (g i j)) M:=by
 cases d with
 | int i=>cases e with
  | int j=>exact ⟨i,j,rfl,rfl,h⟩
  | _=>exact h.elim
 | _=>exact h.elim
theorem op_cInt {f:Value->Value->Sem Value} {g:Int->Int->Bool} (h:OpR X f (rI0 fun i j=>.bl (g i j))):OpR X f (lift2 X.K (cInt g)):=by
 refine h.imp ?_
 rintro x y H Q ⟨d,e,M,R,r1,r2,rm,h,q⟩
 obtain ⟨i,j,rfl,rfl,h⟩:=cInt_inv h
 cases r1; cases r2
 exact ⟨_,_,rfl,rfl,q _ _ _ _ (.refl H) rm (.bl _) h⟩
theorem dict_eq_declines {a b:Addr} {prog:Program} {w:World} {A:Around} {E:Value->Shared->Prop} {s:Shared} {Q:Value->Shared->Prop} (ha:s.TypeIs (.ref a) "dict") (hb:s.TypeIs (.ref b) "tuple") (h:Q .notImplemented s) :
  wpAny (model prog w) A (call (.builtin "dict.__eq__") [.ref a,.ref b]) Q E s:=by
 refine wpAny_call_entry PySem.F.slot_dict_eq ha PySem.F.entry_dict_eq ?_ (PySem.F.args_dict_eq_2 _ _)
 show wpAny _ _ (Builtin.Dict.dictSlotArgs "__eq__" ⟨[.ref a,.ref b],[]⟩ >>= _) _ _ s
 refine wpAny_bind ?_
 unfold Builtin.Dict.dictSlotArgs
 refine wpAny_bind (wpAny_notOrdered_dict ha ?_)
 show wpAny _ _ (pure (Value.ref a,Value.ref b)) _ _ s
 refine wpAny_pure ?_
 refine wpAny_bind (wpAny_isInstance (T:="tuple") hb PySem.F.sub_tuple_dict ?_)
 simp only [Bool.not_false,if_true]
 refine wpAny_bind (wpAny_rule ?_)
 exact wpAny_pure ⟨_,rfl,h⟩
theorem tuple_eq_declines_dict (l b:Addr) (items:Array Value) (n:Nat) (dd:Option Addr) (sl:Array (Option Value)) (ob:Obj) (hcb:ob.cls=.type "dict") :
  Meets (Builtin.«tuple.__eq__» ⟨[.ref l,.ref b],[]⟩) (fun _ R s=>s.heap.get? l=some { cls:=.type "tuple",dict:=dd,data:=.seq items n,slots:=sl }/\s.heap.get? b=some ob/\R (.ok (.ret .notImplemented)) s) :=
 .of_wp fun prog w A R s h=>by obtain ⟨hp,g,d,tk,os⟩:=s; obtain ⟨hl,hb,h⟩:=h; obtain ⟨c,dd2,da2,sl2⟩:=ob; cases hcb; have f1:=F.sub_dict_tuple; wp_walk using wpAny_loadPart' hl,wpAny_loadPart' hb; exact ⟨_,rfl,h⟩
theorem rc_dict_tuple {A:Around} {s:Shared} {a b:Addr} {oa:Obj} {items:Array Value} (ha:s.heap.get? a=some oa) (hca:oa.cls=.type "dict") (hb:s.heap.IsTuple b items) (hu:A.units < cLine):SeqAt.RcAt A s (.ref a) (.ref b) false:=fun prog w E Q h=>by
 have hne:a≠b:=fun e=>by
  subst e
  obtain ⟨o2,ho2,hc2,_⟩:=hb
  rw [ha] at ho2
  cases ho2
  rw [hca] at hc2
  exact absurd hc2 (by simp)
 obtain ⟨⟨cls2,dd2,data2,sl2⟩,ho2,hc2,n2,hd2⟩:=id hb
 simp only at hc2 hd2
 subst hc2 hd2
 exact (SeqAt.rc_eq_decline_or (k:=false) ⟨_,ha,hca⟩ ⟨_,ho2,rfl⟩ (by decide) F.sub_tuple_dict F.slot_dict_eq F.slot_tuple_eq_refl
  (fun _ hq=>dict_eq_declines ⟨_,ha,hca⟩ ⟨_,ho2,rfl⟩ hq)
  (fun _ hq=>call_meets F.slot_tuple_eq_refl ⟨_,ho2,rfl⟩ F.entry_tuple_eq (F.args_tuple_eq_2 _ _) (tuple_eq_declines_dict b a items n2 dd2 sl2 oa hca) ⟨ho2,ha,hq⟩)
  (fun _ hq=>wpAny_isSame_ref_other hne ha ho2 (by rw [hca]; simp) hq) (.inr hu) h)
theorem op_cEq (hu:X.A.units + 64 < cLine):OpR X (compareOp .Eq) (lift2 X.K (cEq false)):=by
 rintro pins s σ H x y v u Q I rx ry ⟨d,e,M,R,r1,r2,rm,h,q⟩
 rcases cEq_inv h with ⟨p,kvs,xs,rfl,_,h1,rfl,hq⟩ | ⟨a,b,p1,p2,hd,h⟩
 ·cases r1; cases rx
  cases r2 with
  | tup ht r =>
   cases ry
   obtain ⟨vs,e1,_⟩:=rm _ _ h1
   obtain ⟨_,_,vs,_,pp⟩:=(show ObjOk X.prog X.w H s.heap p (.dK vs) from I.hok p _ e1)
   obtain ⟨o,es,ep,h1,h2,_⟩:=pp
   obtain ⟨its,rv,hT,_⟩:=I.tuple ht
   exact rc_dict_tuple h1 h2.1 hT (by omega) X.prog X.w _ _ ⟨.bl _,H,I,rfl,q _ _ _ _ (.refl H) rm (.bl _) hq⟩
 obtain ⟨as,a1,a2⟩:=p1.reads I rm r1 rx
 obtain ⟨bs,b1,b2⟩:=p2.reads I rm r2 ry
 exact SeqAt.compareEq_reads a1 b1 a2 b2 (by omega) ⟨.bl _,H,I,rfl,q _ _ _ _ (.refl H) rm (.bl _) h⟩
theorem op_cNe (hu:X.A.units + 64 < cLine):OpR X (compareOp .NotEq) (lift2 X.K (cEq true)):=by
 rintro pins s σ H x y v u Q I rx ry ⟨d,e,M,R,r1,r2,rm,h,q⟩
 rcases cEq_inv h with ⟨_,_,_,_,h0,_⟩ | ⟨a,b,p1,p2,hd,h⟩
 ·cases h0
 obtain ⟨as,a1,a2⟩:=p1.reads I rm r1 rx
 obtain ⟨bs,b1,b2⟩:=p2.reads I rm r2 ry
 exact SeqAt.compareNe_reads a1 b1 a2 b2 (by omega) ⟨.bl _,H,I,rfl,q _ _ _ _ (.refl H) rm (.bl _) h⟩
noncomputable def isB (d e:D):Option Bool :=
 match e with
 | .non=>some (match d with | .non=>true | _=>false)
 | .bl k=>some (match d with | .bl j=>j == k | _=>false)
 | _=>none
theorem cIs_inv {neg:Bool} {d e:D} {M:Mem} {Q:DK} (h:cIs neg d e M Q):(e=.non\/∃ k,e=.bl k)/\∃ b,isB d e=some b/\Q (.bl (if neg then !b else b)) M:=by
 cases e with
 | non =>
  refine ⟨.inl rfl,_,rfl,?_⟩
  cases d<;>exact h
 | bl k =>
  refine ⟨.inr ⟨k,rfl⟩,_,rfl,?_⟩
  cases d<;>exact h
 | _=>exact (show False from h).elim
theorem is_val {K:PySem.W.Frag} {H:Hp} {x y:V} {d e:D} {v u:Value} {b:Bool} (r1:RelD K H x d) (rx:RelV x v) (r2:RelD K H y e) (ry:RelV y u) (he:e=.non\/∃ k,e=.bl k) (hb:isB d e=some b):plainIs v u=true/\(v == u)=b:=by
 rcases he with rfl | ⟨k,rfl⟩
 ·cases r2; cases ry; cases hb
  cases r1<;>first | (cases rx; exact ⟨rfl,rfl⟩) | (obtain ⟨t,rfl⟩:=rx; exact ⟨rfl,rfl⟩)
 ·cases r2; cases ry; cases hb
  cases r1<;>first | (cases rx; exact ⟨rfl,rfl⟩) | (obtain ⟨t,rfl⟩:=rx; exact ⟨rfl,rfl⟩) | (rename_i j; cases rx; cases j<;>cases k<;>exact ⟨rfl,rfl⟩)
theorem op_cIs:OpR X (compareOp .Is) (lift2 X.K (cIs false)):=by
 rintro pins s σ H x y v u Q I rx ry ⟨d,e,M,R,r1,r2,rm,h,q⟩
 obtain ⟨he,b,hb,h⟩:=cIs_inv h
 obtain ⟨a1,a2⟩:=is_val r1 rx r2 ry he hb
 refine wpAny_is_plain a1 ?_
 rw [a2]
 exact ⟨.bl _,H,I,rfl,q _ _ _ _ (.refl H) rm (.bl _) h⟩
noncomputable def eqTo (h:Heap) (p:PyData) (y:Value):Bool:=by
 classical exact decide (∃ d as,Reads h y d as/\d.canLay0=true/\PyData.eqv d p=true)
theorem eqTo_of {h:Heap} {p d:PyData} {y:Value} {as:List Addr} (r:Reads h y d as) (c:d.canLay0=true):eqTo h p y=PyData.eqv d p:=by
 unfold eqTo
 cases e:PyData.eqv d p with
 | true=>simpa using ⟨d,⟨as,r⟩,c,e⟩
 | false =>
  simp only [decide_eq_false_iff_not]
  rintro ⟨d',as',r',c',e'⟩
  have:=SeqAt.Reads.unique d d' y as as' c r r'
  subst this
  rw [e] at e'; cases e'
theorem and12 {a b:Bool} (h:(a && b)=true):a=true/\b=true:=by
 cases a with
 | true=>exact ⟨rfl,h⟩
 | false=>exact nfx h
theorem pys_any {h:Heap} {p:PyData} {us:List Value} {ps:List PyData} {as:List Addr} (r:ReadsAll h us ps as):PyData.canLayAll0 ps=true->us.any (eqTo h p)=ps.any fun q=>PyData.eqv q p:=by
 induction r using ReadsAll.rec (motive_1:=fun _ _ _ _=>True) with
 | nil=>exact fun _=>rfl
 | cons r rr _ ih =>
  intro c
  obtain ⟨c1,c2⟩:=and12 (show (_ && _)=true from c)
  rw [List.any_cons,List.any_cons,eqTo_of r c1,ih c2]
 | _=>trivial
theorem pys_mem {h:Heap}:∀ {us:List Value} {ps:List PyData} {as:List Addr},ReadsAll h us ps as->PyData.canLayAll0 ps=true->∀ y∈us,∃ d as,Reads h y d as/\d.canLay0=true
 | _,_,_,.nil,_,_,hy=>by cases hy
 | _,_,_,.cons r rr,c,y,hy=>by
  obtain ⟨c1,c2⟩:=and12 (show (_ && _)=true from c)
  rcases List.mem_cons.mp hy with rfl | hy
  ·exact ⟨_,_,r,c1⟩
  ·exact pys_mem rr c2 y hy
theorem eqTo_at {A:Around} {s:Shared} {p:PyData} {us:List Value} {ps:List PyData} {as bs:List Addr} {x:Value} (hu:A.units + 64 < cLine) (r:ReadsAll s.heap us ps as) (c:PyData.canLayAll0 ps=true) (rx:Reads s.heap x p bs) (cx:p.canLay0=true) (hd:p.depth<=60) :
  ∀ y∈us,SeqAt.EqAt A s y x (eqTo s.heap p y):=fun y hy=>by
 obtain ⟨d,as',ry,cy⟩:=pys_mem r c y hy
 rw [eqTo_of ry cy]
 exact SeqAt.eqAt_reads d p A s y x _ _ ry rx cy cx (by omega)
theorem tab_in {prog:Program} {w:World} {A:Around} {E:Value->Shared->Prop} {s:Shared} {a:Addr} {o:Obj} {es:Array DictEntry} {ep:Nat} {xs:List Str} {us:List Value} {k:Str} {tk:Tok} {Q:Value->Shared->Prop} (lo:(a == sysModules)=false)
  (ho:s.heap.get? a=some o) (ex:o.ExactDict) (hd:o.data=.dict es ep) (en:EntK es.toList xs us) (h:Q (.bool (xs.contains k)) { s with toks:=s.toks + 1 }):wpAny (model prog w) A (compareOp .In (.str k tk) (.ref a)) Q E s:=by
 have tI:s.TypeIs (.ref a) "dict":=⟨o,ho,ex.1⟩
 show wpAny _ _ (do return .bool ((<- contains (.ref a) (.str k tk)))) Q E s
 refine wpAny_bind ?_
 unfold contains
 try with_reducible refine wpAny_holding ?_
 refine wpAny_bind (wpAny_specialOf tI PySem.F.slot_dict_contains.lookup ?_)
 show wpAny _ _ (if (some (Value.builtin "dict.__contains__") == some Value.none)=true then _ else _) _ E s
 rw [if_neg (by rw [beq_builtin_none]; exact Bool.false_ne_true)]
 refine wpAny_bind (wpAny_callSpecialUnlessNone?_slot (name:=Str.ofString "__contains__") tI PySem.F.slot_dict_contains
  (wpAny_call_entry PySem.F.slot_dict_contains tI PySem.F.entry_dict_contains ?_ (PySem.F.args_dict_contains_2 _ _)))
 show wpAny _ _ (dictGet a (.str k tk) >>= _) _ _ s
 refine wpAny_bind (tab_get ho hd en ?_)
 have hb:=en.mem (k:=k)
 cases hs:sdAt xs us k with
 | some v =>
  rw [hs] at hb; rw [<- hb] at h
  show wpAny _ _ (ret (.bool true)) _ _ _
  exact wpAny_pure ⟨_,rfl,wpAny_truthy_bool (wpAny_pure h)⟩
 | none =>
  rw [hs] at hb; rw [<- hb] at h
  show wpAny _ _ (Builtin.Dict.pendingKey? a (.str k tk) >>= _) _ _ _
  exact wpAny_bind (wpAny_pendingKey_other lo (wpAny_pure ⟨_,rfl,wpAny_truthy_bool (wpAny_pure h)⟩))
theorem tab_inN {prog:Program} {w:World} {A:Around} {E:Value->Shared->Prop} {s:Shared} {a:Addr} {o:Obj} {es:Array DictEntry} {ep:Nat} {xs:List Str} {us:List Value} {k:Str} {tk:Tok} {Q:Value->Shared->Prop} (lo:(a == sysModules)=false)
  (ho:s.heap.get? a=some o) (ex:o.ExactDict) (hd:o.data=.dict es ep) (en:EntK es.toList xs us) (h:Q (.bool (!xs.contains k)) { s with toks:=s.toks + 1 }):wpAny (model prog w) A (compareOp .NotIn (.str k tk) (.ref a)) Q E s:=by
 have tI:s.TypeIs (.ref a) "dict":=⟨o,ho,ex.1⟩
 show wpAny _ _ (do return .bool (!(<- contains (.ref a) (.str k tk)))) Q E s
 refine wpAny_bind ?_
 unfold contains
 try with_reducible refine wpAny_holding ?_
 refine wpAny_bind (wpAny_specialOf tI PySem.F.slot_dict_contains.lookup ?_)
 show wpAny _ _ (if (some (Value.builtin "dict.__contains__") == some Value.none)=true then _ else _) _ E s
 rw [if_neg (by rw [beq_builtin_none]; exact Bool.false_ne_true)]
 refine wpAny_bind (wpAny_callSpecialUnlessNone?_slot (name:=Str.ofString "__contains__") tI PySem.F.slot_dict_contains
  (wpAny_call_entry PySem.F.slot_dict_contains tI PySem.F.entry_dict_contains ?_ (PySem.F.args_dict_contains_2 _ _)))
 show wpAny _ _ (dictGet a (.str k tk) >>= _) _ _ s
 refine wpAny_bind (tab_get ho hd en ?_)
 have hb:=en.mem (k:=k)
 cases hs:sdAt xs us k with
 | some v =>
  rw [hs] at hb; rw [<- hb] at h
  show wpAny _ _ (ret (.bool true)) _ _ _
  exact wpAny_pure ⟨_,rfl,wpAny_truthy_bool (wpAny_pure h)⟩
 | none =>
  rw [hs] at hb; rw [<- hb] at h
  show wpAny _ _ (Builtin.Dict.pendingKey? a (.str k tk) >>= _) _ _ _
  exact wpAny_bind (wpAny_pendingKey_other lo (wpAny_pure ⟨_,rfl,wpAny_truthy_bool (wpAny_pure h)⟩))
theorem op_cIn (hu:X.A.units + 66 < cLine):OpR X (compareOp .In) (lift2 X.K (cIn false)):=by
 rintro pins s σ H x y v u Q I rx ry ⟨d,e,M,R,r1,r2,rm,h,q⟩
 cases r2 with
 | str z =>
  obtain ⟨x',rfl,h2⟩:=(show ∃ x,d=.str x/\R (.bl (if false then !(!(Builtin.Str.occurrences z x 0 z.length 1).isEmpty) else !(Builtin.Str.occurrences z x 0 z.length 1).isEmpty)) M from h)
  cases r1
  exact op_in_str pins s σ H _ _ v u Q I rx ry ⟨_,_,rfl,rfl,q _ _ _ _ (.refl H) rm (.bl _) h2⟩
 | @tup a vs ds ht rr =>
  obtain ⟨ps,p,p1,p2,hd,h⟩:=(show inSeq false d ds M R from h)
  cases (show u=Value.ref a from ry)
  obtain ⟨its,rv,ht',_⟩:=I.tuple ht
  obtain ⟨as,a1,a2⟩:=p1.reads I rm rr rv
  obtain ⟨bs,b1,b2⟩:=p2.reads I rm r1 rx
  refine SeqAt.in_tupleAt (items:=its.toArray) (eqTo s.heap p) ht' (fun y hy=>eqTo_at (A:=X.A.in1) (by show X.A.units + 1 + 64 < cLine; omega) a1 a2 b1 b2 hd y (by simpa using hy)) ⟨.bl _,H,I,rfl,q _ _ _ _ (.refl H) rm (.bl _) ?_⟩
  rw [List.any_toArray,pys_any a1 a2]; exact h
 | @fz a vs ds ht rr =>
  obtain ⟨ps,p,p1,p2,hd,h⟩:=(show inSeq false d ds M R from h)
  cases (show u=Value.ref a from ry)
  obtain ⟨its,rv,ht',_⟩:=I.list ht.sq
  obtain ⟨as,a1,a2⟩:=p1.reads I rm rr rv
  obtain ⟨bs,b1,b2⟩:=p2.reads I rm r1 rx
  refine SeqAt.in_listAt (items:=its.toArray) (eqTo s.heap p) ht'.isList (fun y hy=>eqTo_at (A:=X.A.in1) (by show X.A.units + 1 + 64 < cLine; omega) a1 a2 b1 b2 hd y (by simpa using hy)) ⟨.bl _,H,I,rfl,q _ _ _ _ (.refl H) rm (.bl _) ?_⟩
  rw [List.any_toArray,pys_any a1 a2]; exact h
 | lst a =>
  obtain ⟨ds,e0,ps,p,p1,p2,hd,h⟩:=(show ∃ xs,M a=some (.ls xs)/\inSeq false d xs M R from h)
  cases (show u=Value.ref a from ry)
  obtain ⟨vs,e1,rr⟩:=rm _ _ e0
  obtain ⟨its,rv,ht',_⟩:=I.list (.of e1)
  obtain ⟨as,a1,a2⟩:=p1.reads I rm rr rv
  obtain ⟨bs,b1,b2⟩:=p2.reads I rm r1 rx
  refine SeqAt.in_listAt (items:=its.toArray) (eqTo s.heap p) ht'.isList (fun y hy=>eqTo_at (A:=X.A.in1) (by show X.A.units + 1 + 64 < cLine; omega) a1 a2 b1 b2 hd y (by simpa using hy)) ⟨.bl _,H,I,rfl,q _ _ _ _ (.refl H) rm (.bl _) ?_⟩
  rw [List.any_toArray,pys_any a1 a2]; exact h
 | @sd a xs vs ds T rr =>
  obtain ⟨x',rfl,h2⟩:=(show ∃ x,d=.str x/\R (.bl (if false then !(xs.contains x) else xs.contains x)) M from h)
  cases r1
  obtain ⟨tk,rfl⟩:=rx
  cases (show u=Value.ref a from ry)
  obtain ⟨lo,o,es,ep,us,lk,ex,hd,en,rv⟩:=T
  exact tab_in lo (I.kIn _ _ lk) ex hd en ⟨.bl _,H,I.tok _,rfl,q _ _ _ _ (.refl H) rm (.bl _) h2⟩
 | _=>exact (show False from h).elim
theorem op_cNotIn (hu:X.A.units + 66 < cLine):OpR X (compareOp .NotIn) (lift2 X.K (cIn true)):=by
 rintro pins s σ H x y v u Q I rx ry ⟨d,e,M,R,r1,r2,rm,h,q⟩
 cases r2 with
 | str z =>
  obtain ⟨x',rfl,h2⟩:=(show ∃ x,d=.str x/\R (.bl (if true then !(!(Builtin.Str.occurrences z x 0 z.length 1).isEmpty) else !(Builtin.Str.occurrences z x 0 z.length 1).isEmpty)) M from h)
  cases r1
  exact op_notin_str pins s σ H _ _ v u Q I rx ry ⟨_,_,rfl,rfl,q _ _ _ _ (.refl H) rm (.bl _) h2⟩
 | @tup a vs ds ht rr =>
  obtain ⟨ps,p,p1,p2,hd,h⟩:=(show inSeq true d ds M R from h)
  cases (show u=Value.ref a from ry)
  obtain ⟨its,rv,ht',_⟩:=I.tuple ht
  obtain ⟨as,a1,a2⟩:=p1.reads I rm rr rv
  obtain ⟨bs,b1,b2⟩:=p2.reads I rm r1 rx
  refine SeqAt.notIn_tupleAt (items:=its.toArray) (eqTo s.heap p) ht' (fun y hy=>eqTo_at (A:=X.A.in1) (by show X.A.units + 1 + 64 < cLine; omega) a1 a2 b1 b2 hd y (by simpa using hy)) ⟨.bl _,H,I,rfl,q _ _ _ _ (.refl H) rm (.bl _) ?_⟩
  rw [List.any_toArray,pys_any a1 a2]; exact h
 | @fz a vs ds ht rr =>
  obtain ⟨ps,p,p1,p2,hd,h⟩:=(show inSeq true d ds M R from h)
  cases (show u=Value.ref a from ry)
  obtain ⟨its,rv,ht',_⟩:=I.list ht.sq
  obtain ⟨as,a1,a2⟩:=p1.reads I rm rr rv
  obtain ⟨bs,b1,b2⟩:=p2.reads I rm r1 rx
  refine SeqAt.notIn_listAt (items:=its.toArray) (eqTo s.heap p) ht'.isList (fun y hy=>eqTo_at (A:=X.A.in1) (by show X.A.units + 1 + 64 < cLine; omega) a1 a2 b1 b2 hd y (by simpa using hy)) ⟨.bl _,H,I,rfl,q _ _ _ _ (.refl H) rm (.bl _) ?_⟩
  rw [List.any_toArray,pys_any a1 a2]; exact h
 | lst a =>
  obtain ⟨ds,e0,ps,p,p1,p2,hd,h⟩:=(show ∃ xs,M a=some (.ls xs)/\inSeq true d xs M R from h)
  cases (show u=Value.ref a from ry)
  obtain ⟨vs,e1,rr⟩:=rm _ _ e0
  obtain ⟨its,rv,ht',_⟩:=I.list (.of e1)
  obtain ⟨as,a1,a2⟩:=p1.reads I rm rr rv
  obtain ⟨bs,b1,b2⟩:=p2.reads I rm r1 rx
  refine SeqAt.notIn_listAt (items:=its.toArray) (eqTo s.heap p) ht'.isList (fun y hy=>eqTo_at (A:=X.A.in1) (by show X.A.units + 1 + 64 < cLine; omega) a1 a2 b1 b2 hd y (by simpa using hy)) ⟨.bl _,H,I,rfl,q _ _ _ _ (.refl H) rm (.bl _) ?_⟩
  rw [List.any_toArray,pys_any a1 a2]; exact h
 | @sd a xs vs ds T rr =>
  obtain ⟨x',rfl,h2⟩:=(show ∃ x,d=.str x/\R (.bl (if true then !(xs.contains x) else xs.contains x)) M from h)
  cases r1
  obtain ⟨tk,rfl⟩:=rx
  cases (show u=Value.ref a from ry)
  obtain ⟨lo,o,es,ep,us,lk,ex,hd,en,rv⟩:=T
  exact tab_inN lo (I.kIn _ _ lk) ex hd en ⟨.bl _,H,I.tok _,rfl,q _ _ _ _ (.refl H) rm (.bl _) h2⟩
 | _=>exact (show False from h).elim
theorem opF {f:Value->Value->Sem Value}:OpR X f (lift2 X.K fun _ _ _ _=>False):=by
 rintro pins s σ H x y v u Q I rx ry ⟨d,e,M,R,r1,r2,rm,h,q⟩
 exact h.elim
theorem op_c (hu:X.A.units + 66 < cLine) (op:CmpOp):OpR X (compareOp op) (lift2 X.K (cOp op)):=by
 cases op with
 | Eq=>exact op_cEq (by omega)
 | NotEq=>exact op_cNe (by omega)
 | Lt=>exact op_cInt op_lt
 | LtE=>exact op_cInt op_le
 | Gt=>exact op_cInt op_gt
 | GtE=>exact op_cInt op_ge
 | In=>exact op_cIn hu
 | NotIn=>exact op_cNotIn hu
 | Is=>exact op_cIs
 | IsNot=>exact opF
noncomputable def iOp (d e:D) (M:Mem) (Q:DK):Prop :=
 match d,e with
 | .tup xs,.int i=>∃ v,atI xs i=some v/\Q v M
 | .fz xs,.int i=>∃ v,atI xs i=some v/\Q v M
 | .lst a,.int i=>∃ xs v,M a=some (.ls xs)/\atI xs i=some v/\Q v M
 | .str z,.int i=>z.length<=sizeLine/\∃ c,atI z.cps.toList i=some c/\Q (.str ⟨#[c]⟩) M
 | .sd xs ds,.str k=>∃ v,sdAt xs ds k=some v/\Q v M
 | _,_=>False
theorem RelDs.atI {K:PySem.W.Frag} {H:Hp} {vs:List V} {ds:List D} {i:Int} {d:D} (r:RelDs K H vs ds) (e:L2.atI ds i=some d):∃ v,L2.atI vs i=some v/\RelD K H v d:=by
 unfold L2.atI at e ⊢
 rw [r.length]
 cases q:ixN ds.length i with
 | none=>rw [q] at e; cases e
 | some j=>rw [q] at e; exact r.get e
theorem iOp_int {d e:D} {M:Mem} {Q:DK} (hn:∀ i,e≠.int i) (hk:∀ i,e≠.str i) (h:iOp d e M Q):False:=by
 unfold iOp at h
 split at h
 ·exact hn _ rfl
 ·exact hn _ rfl
 ·exact hn _ rfl
 ·exact hn _ rfl
 ·exact hk _ rfl
 ·exact h
theorem iOp_str {d:D} {k:Str} {M:Mem} {Q:DK} (h:iOp d (.str k) M Q):∃ xs ds v,d=.sd xs ds/\sdAt xs ds k=some v/\Q v M:=by
 cases d with
 | sd xs ds=>obtain ⟨v,h1,h2⟩:=(show ∃ v,sdAt xs ds k=some v/\Q v M from h); exact ⟨xs,ds,v,rfl,h1,h2⟩
 | _=>exact (show False from h).elim
theorem ix_sd:IxR X (fun x y H Q=>∃ p xs vs k v,x=.ref p/\y=.str k/\TabK X.K p xs vs/\sdAt xs vs k=some v/\Q v H):=by
 intro value slice pins s σ H x y v u Q I rx ry h hs
 obtain ⟨p,xs,vs,k,z,rfl,rfl,⟨lo,o,es,ep,us,lk,ex,hd,en,rv⟩,e,q⟩:=h
 cases rx
 obtain ⟨tk,rfl⟩:=ry
 have ho:=I.kIn _ _ lk
 have tI:s.TypeIs (.ref p) "dict":=⟨o,ho,ex.1⟩
 obtain ⟨w',ew,rw'⟩:=sdAt_vals rv e
 refine subscriptTail_builtinR (x:=w') tI PySem.F.slot_dict_getitem.lookup ?_ hs
 unfold getItem
 try with_reducible refine wpAny_holding ?_
 refine wpAny_bind (wpAny_sequenceKey tI (by decide) ?_)
 refine wpAny_bind (wpAny_callSpecial?_slot (name:=Str.ofString "__getitem__") tI PySem.F.slot_dict_getitem
  (wpAny_call_entry PySem.F.slot_dict_getitem tI PySem.F.entry_dict_getitem ?_ (PySem.F.args_dict_getitem_2 _ _)))
 show wpAny _ _ (dictGet p (.str k tk) >>= _) _ _ s
 refine wpAny_bind (tab_get ho hd en ?_)
 rw [ew]
 exact wpAny_pure ⟨w',rfl,wpAny_pure ⟨rfl,z,H,I.tok _,rw',q⟩⟩
theorem ix_i:IxR X (lift2 X.K iOp):=by
 rintro value slice pins s σ H x y v u Q I rx ry ⟨d,e,M,R,r1,r2,rm,h,q⟩ hs
 cases r2 with
 | int i =>
  cases r1 with
  | tup ht r =>
   obtain ⟨d,e,h⟩:=(show ∃ v,L2.atI _ i=some v/\R v M from h)
   obtain ⟨w,e1,r1⟩:=r.atI e
   exact ix_tup value slice pins s σ H _ _ v u Q I rx ry ⟨_,_,_,_,rfl,rfl,ht,e1,q _ _ _ _ (.refl H) rm r1 h⟩ hs
  | fz ht r =>
   obtain ⟨d,e,h⟩:=(show ∃ v,L2.atI _ i=some v/\R v M from h)
   obtain ⟨w,e1,r1⟩:=r.atI e
   exact ix_list value slice pins s σ H _ _ v u Q I rx ry ⟨_,_,_,_,rfl,rfl,ht.sq,e1,q _ _ _ _ (.refl H) rm r1 h⟩ hs
  | lst a =>
   obtain ⟨xs,d,e0,e,h⟩:=(show ∃ xs v,M a=some (.ls xs)/\L2.atI xs i=some v/\R v M from h)
   obtain ⟨vs,e1,r⟩:=rm _ _ e0
   obtain ⟨w,e1',r1⟩:=r.atI e
   exact ix_list value slice pins s σ H _ _ v u Q I rx ry ⟨_,_,_,_,rfl,rfl,.of e1,e1',q _ _ _ _ (.refl H) rm r1 h⟩ hs
  | str z =>
   obtain ⟨hz,c,e,h⟩:=(show z.length<=sizeLine/\∃ c,L2.atI z.cps.toList i=some c/\R (.str ⟨#[c]⟩) M from h)
   exact ix_str value slice pins s σ H _ _ v u Q I rx ry ⟨_,_,_,rfl,rfl,hz,e,q _ _ _ _ (.refl H) rm (.str _) h⟩ hs
  | _=>exact (show False from h).elim
 | str k =>
  obtain ⟨xs,ds,w',rfl,e,h⟩:=iOp_str h
  cases r1 with
  | sd T r =>
   obtain ⟨z,e1,r1⟩:=sdAt_rel r e
   exact ix_sd value slice pins s σ H _ _ v u Q I rx ry ⟨_,_,_,_,_,rfl,rfl,T,e1,q _ _ _ _ (.refl H) rm r1 h⟩ hs
 | _=>exact (iOp_int (by rintro i ⟨⟩) (by rintro i ⟨⟩) h).elim
noncomputable def cutG {α:Type} (xs:List α) (lo hi:Option Int):List α:=(xs.drop (HT.sIx xs.length 0 lo)).take (HT.sIx xs.length xs.length hi - HT.sIx xs.length 0 lo)
theorem RelDs.cut {K:PySem.W.Frag} {H:Hp} {vs:List V} {ds:List D} (r:RelDs K H vs ds) (lo hi:Option Int):RelDs K H (cutV vs lo hi) (cutG ds lo hi):=by
 unfold cutV cutG; rw [r.length]; exact (r.drop _).take _
noncomputable def sOp (d:D) (lo hi:Option Int) (M:Mem) (Q:DK):Prop :=
 match d with
 | .fz xs=>alloc M (.ls (cutG xs lo hi)) fun p M'=>Q (.lst p) M'
 | .lst a=>∃ xs,M a=some (.ls xs)/\alloc M (.ls (cutG xs lo hi)) fun p M'=>Q (.lst p) M'
 | .tup xs=>Q (.tup (cutG xs lo hi)) M
 | _=>False
noncomputable def lift3 (K:PySem.W.Frag) (f:D->Option Int->Option Int->Mem->DK->Prop):V->Option Int->Option Int->Hp->VK->Prop:=fun x lo hi H Q=>∃ d M R,RelD K H x d/\RepM K H M/\f d lo hi M R/\∀ d' M' v H',HExt K H H'->RepM K H' M'->RelD K H' v d'->R d' M'->Q v H'
theorem sl_s:SlR X (lift3 X.K sOp):=by
 rintro pins s σ H x v vl vu lo hi sl Q I rx hs pl pu ⟨d,M,R,r1,rm,h,q⟩
 cases r1 with
 | fz ht r =>
  exact sl_list pins s σ H _ v vl vu lo hi sl Q I rx hs pl pu ⟨_,_,rfl,ht.sq,fun p hp=>q _ _ _ _ (.upd (.inl hp)) (rm.lst hp (r.cut lo hi)) (.lst p) ((show alloc M (.ls (cutG _ lo hi)) fun p M'=>R (.lst p) M' from h).at (rm.none hp))⟩
 | lst a =>
  obtain ⟨xs,e0,h⟩:=(show ∃ xs,M a=some (.ls xs)/\alloc M (.ls (cutG xs lo hi)) fun p M'=>R (.lst p) M' from h)
  obtain ⟨vs,e1,r⟩:=rm _ _ e0
  exact sl_list pins s σ H _ v vl vu lo hi sl Q I rx hs pl pu ⟨_,_,rfl,.of e1,fun p hp=>q _ _ _ _ (.upd (.inl hp)) (rm.lst hp (r.cut lo hi)) (.lst p) (h.at (rm.none hp))⟩
 | tup ht r =>
  rename_i vs ds
  by_cases hw:HT.sIx vs.length 0 lo=0/\HT.sIx vs.length vs.length hi=vs.length
  ·have e:cutG ds lo hi=ds:=by
    unfold cutG
    rw [<- r.length,hw.1,hw.2,List.drop_zero,Nat.sub_zero,r.length,List.take_length]
   have h':R (.tup (cutG ds lo hi)) M:=h
   rw [e] at h'
   exact sl_tupW pins s σ H _ v vl vu lo hi sl Q I rx hs pl pu ⟨_,_,rfl,ht,hw,q _ _ _ _ (.refl H) rm (.tup ht r) h'⟩
  ·exact sl_tup pins s σ H _ v vl vu lo hi sl Q I rx hs pl pu ⟨_,_,rfl,ht,hw,fun p hp=>q _ _ _ _ (.upd (.inl hp)) (rm.tup hp) (.tup (.of upd_same) ((r.cut lo hi).ext (.upd (.inl hp)))) h⟩
 | _=>exact (show False from h).elim
noncomputable def fAbs:List D->Mem->DK->Prop
 | [.int i],M,Q=>Q (.int (if i < 0 then -i else i)) M
 | _,_,_=>False
noncomputable def fMax:List D->Mem->DK->Prop
 | [.int i,.int j],M,Q=>Q (.int (if j > i then j else i)) M
 | _,_,_=>False
noncomputable def fMin:List D->Mem->DK->Prop
 | [.int i,.int j],M,Q=>Q (.int (if j < i then j else i)) M
 | _,_,_=>False
noncomputable def fStr:List D->Mem->DK->Prop
 | [.int i],M,Q=>i.natAbs.log2 < 1920/\Q (.str (toString i)) M
 | _,_,_=>False
noncomputable def fLen:List D->Mem->DK->Prop
 | [.tup xs],M,Q=>Q (.int xs.length) M
 | [.fz xs],M,Q=>Q (.int xs.length) M
 | [.lst a],M,Q=>∃ xs,M a=some (.ls xs)/\Q (.int xs.length) M
 | [.str z],M,Q=>z.length<=sizeLine/\Q (.int z.length) M
 | _,_,_=>False
noncomputable def fDivmod:List D->Mem->DK->Prop
 | [.int i,.int j],M,Q=>DivOk j/\Q (.tup [.int (i.fdiv j),.int (i.fmod j)]) M
 | _,_,_=>False
noncomputable def fTuple:List D->Mem->DK->Prop
 | [.tup xs],M,Q=>Q (.tup xs) M
 | [.fz xs],M,Q=>Q (.tup xs) M
 | [.lst a],M,Q=>∃ xs,M a=some (.ls xs)/\Q (.tup xs) M
 | _,_,_=>False
noncomputable def fList:List D->Mem->DK->Prop
 | [.tup xs],M,Q=>alloc M (.ls xs) fun p M'=>Q (.lst p) M'
 | [.fz xs],M,Q=>alloc M (.ls xs) fun p M'=>Q (.lst p) M'
 | [.lst a],M,Q=>∃ xs,M a=some (.ls xs)/\alloc M (.ls xs) fun p M'=>Q (.lst p) M'
 | _,_,_=>False
noncomputable def fInt:List D->Mem->DK->Prop
 | [.int i],M,Q=>Q (.int i) M
 | [.bl b],M,Q=>Q (.int (if b then 1 else 0)) M
 | _,_,_=>False
theorem RelDs.one {K:PySem.W.Frag} {H:Hp} {vs:List V} {d:D} (r:RelDs K H vs [d]):∃ v,vs=[v]/\RelD K H v d:=by
 cases r with | cons h q=>cases q; exact ⟨_,rfl,h⟩
theorem RelDs.two {K:PySem.W.Frag} {H:Hp} {vs:List V} {d e:D} (r:RelDs K H vs [d,e]):∃ v w,vs=[v,w]/\RelD K H v d/\RelD K H w e:=by
 cases r with | cons h q=>cases q with | cons h' q'=>cases q'; exact ⟨_,_,rfl,h,h'⟩
theorem ca_abs:CallR X (.builtin "abs") (liftC X.K fAbs):=by
 refine (call_abs (X:=X)).imp ?_
 rintro xs H Q ⟨ds,M,R,r,rm,h,q⟩
 unfold fAbs at h; split at h
 ·obtain ⟨v,rfl,ra⟩:=r.one; cases ra; exact ⟨_,rfl,q _ _ _ _ (.refl H) rm (.int _) h⟩
 ·exact h.elim
theorem ca_max (hc:X.calm=true):CallR X (.builtin "max") (liftC X.K fMax):=by
 refine (call_max2 (X:=X) hc).imp ?_
 rintro xs H Q ⟨ds,M,R,r,rm,h,q⟩
 unfold fMax at h; split at h
 ·obtain ⟨v,w,rfl,r1,r2⟩:=r.two; cases r1; cases r2; exact ⟨_,_,rfl,q _ _ _ _ (.refl H) rm (.int _) h⟩
 ·exact h.elim
theorem ca_min (hc:X.calm=true):CallR X (.builtin "min") (liftC X.K fMin):=by
 refine (call_min2 (X:=X) hc).imp ?_
 rintro xs H Q ⟨ds,M,R,r,rm,h,q⟩
 unfold fMin at h; split at h
 ·obtain ⟨v,w,rfl,r1,r2⟩:=r.two; cases r1; cases r2; exact ⟨_,_,rfl,q _ _ _ _ (.refl H) rm (.int _) h⟩
 ·exact h.elim
theorem ca_str:CallR X (.type "str") (liftC X.K fStr):=by
 refine (call_str_int (X:=X)).imp ?_
 rintro xs H Q ⟨ds,M,R,r,rm,h,q⟩
 unfold fStr at h; split at h
 ·obtain ⟨v,rfl,ra⟩:=r.one; cases ra; exact ⟨_,rfl,h.1,q _ _ _ _ (.refl H) rm (.str _) h.2⟩
 ·exact h.elim
theorem ca_int:CallR X (.type "int") (liftC X.K fInt):=by
 refine (call_int1 (X:=X)).imp ?_
 rintro xs H Q ⟨ds,M,R,r,rm,h,q⟩
 unfold fInt at h; split at h
 ·obtain ⟨v,rfl,ra⟩:=r.one; cases ra; exact .inl ⟨_,rfl,q _ _ _ _ (.refl H) rm (.int _) h⟩
 ·obtain ⟨v,rfl,ra⟩:=r.one; cases ra; exact .inr ⟨_,rfl,q _ _ _ _ (.refl H) rm (.int _) h⟩
 ·exact h.elim
theorem ca_len:CallR X (.builtin "len") (liftC X.K fLen):=by
 refine (call_len_seq (X:=X) |>.or call_len_str).imp ?_
 rintro xs H Q ⟨ds,M,R,r,rm,h,q⟩
 unfold fLen at h; split at h
 ·obtain ⟨v,rfl,ra⟩:=r.one; cases ra with | tup ht r=>exact .inl ⟨_,_,rfl,.inr ht,q _ _ _ _ (.refl H) rm (by rw [r.length]; exact .int _) h⟩
 ·obtain ⟨v,rfl,ra⟩:=r.one; cases ra with | fz ht r=>exact .inl ⟨_,_,rfl,.inl ht.sq,q _ _ _ _ (.refl H) rm (by rw [r.length]; exact .int _) h⟩
 ·obtain ⟨v,rfl,ra⟩:=r.one
  obtain ⟨xs,e0,h⟩:=h
  obtain ⟨vs,e1,r'⟩:=rm _ _ e0
  cases ra; exact .inl ⟨_,_,rfl,.inl (.of e1),q _ _ _ _ (.refl H) rm (by rw [r'.length]; exact .int _) h⟩
 ·obtain ⟨v,rfl,ra⟩:=r.one; cases ra; exact .inr ⟨_,rfl,h.1,q _ _ _ _ (.refl H) rm (.int _) h.2⟩
 ·exact h.elim
theorem ca_divmod:CallR X (.builtin "divmod") (liftC X.K fDivmod):=by
 rintro pins s σ H xs us Q I rv ⟨ds,M,R,r,rm,h,q⟩
 unfold fDivmod at h; split at h
 ·rename_i i j
  obtain ⟨v,w,rfl,r1,r2⟩:=r.two; cases r1; cases r2
  obtain ⟨u,w',rfl,⟨t,rfl⟩,⟨t',rfl⟩⟩:=vals2 rv
  refine divmod_int h.1.1 ?_ (.inl (PyProof.noPylong_of_log2 h.1.2))
  have hn:H s.heap.objs.size=none:=I.hok.fresh (Nat.le_refl _)
  refine ⟨.ref s.heap.objs.size,upd H s.heap.objs.size (.tup [.int (i.fdiv j),.int (i.fmod j)]),?_,rfl,q _ _ _ _ (.upd (.inl hn)) (rm.tup hn) (.tup (.of upd_same) (.cons (.int _) (.cons (.int _) .nil))) h.2⟩
  refine I.laid (fun b o e=>Heap.get?_push_of_some _ e) (Nat.le_refl _) ⟨by simp only [List.length_cons,List.length_nil]; rw [sizeLine_eq]; decide,[.int (i.fdiv j) s.toks,.int (i.fmod j) (s.toks + 1)],.cons ⟨_,rfl⟩ (.cons ⟨_,rfl⟩ .nil),?_⟩
  exact ⟨_,Heap.get?_push_size s.heap rfl,rfl,0,rfl⟩
 ·exact h.elim
theorem ca_tuple:CallR X (.type "tuple") (liftC X.K fTuple):=by
 refine (call_tuple_of (X:=X)).imp ?_
 rintro xs H Q ⟨ds,M,R,r,rm,h,q⟩
 unfold fTuple at h; split at h
 ·obtain ⟨v,rfl,ra⟩:=r.one; cases ra with | tup ht r=>exact ⟨_,_,rfl,.inr ⟨ht,q _ _ _ _ (.refl H) rm (.tup ht r) h⟩⟩
 ·obtain ⟨v,rfl,ra⟩:=r.one; cases ra with | fz ht r=>exact ⟨_,_,rfl,.inl ⟨ht.sq,fun p hp=>q _ _ _ _ (.upd (.inl hp)) (rm.tup hp) (.tup (.of upd_same) (r.ext (.upd (.inl hp)))) h⟩⟩
 ·obtain ⟨v,rfl,ra⟩:=r.one
  obtain ⟨xs,e0,h⟩:=h
  obtain ⟨vs,e1,r'⟩:=rm _ _ e0
  cases ra; exact ⟨_,_,rfl,.inl ⟨.of e1,fun p hp=>q _ _ _ _ (.upd (.inl hp)) (rm.tup hp) (.tup (.of upd_same) (r'.ext (.upd (.inl hp)))) h⟩⟩
 ·exact h.elim
theorem ca_list:CallR X (.type "list") (liftC X.K fList):=by
 refine (call_list_of (X:=X)).imp ?_
 rintro xs H Q ⟨ds,M,R,r,rm,h,q⟩
 unfold fList at h; split at h
 ·obtain ⟨v,rfl,ra⟩:=r.one; cases ra with | tup ht r=>exact ⟨_,_,rfl,.inr ht,fun p hp=>q _ _ _ _ (.upd (.inl hp)) (rm.lst hp r) (.lst p) (h.at (rm.none hp))⟩
 ·obtain ⟨v,rfl,ra⟩:=r.one; cases ra with | fz ht r=>exact ⟨_,_,rfl,.inl ht.sq,fun p hp=>q _ _ _ _ (.upd (.inl hp)) (rm.lst hp r) (.lst p) (h.at (rm.none hp))⟩
 ·obtain ⟨v,rfl,ra⟩:=r.one
  obtain ⟨xs,e0,h⟩:=h
  obtain ⟨vs,e1,r'⟩:=rm _ _ e0
  cases ra; exact ⟨_,_,rfl,.inl (.of e1),fun p hp=>q _ _ _ _ (.upd (.inl hp)) (rm.lst hp r') (.lst p) (h.at (rm.none hp))⟩
 ·exact h.elim
end
end DL
end
noncomputable section
namespace DL
open PySem PySem.Spec PyProof.Rows L2
noncomputable def tyD (M:Mem):D->Option String
 | .non=>some "NoneType"
 | .bl _=>some "bool"
 | .int _=>some "int"
 | .str _=>some "str"
 | .tup _=>some "tuple"
 | .fz _=>some "list"
 | .lst a=>match M a with | some (.ls _)=>some "list" | _=>none
 | .dct a=>match M a with | some (.dk _)=>some "dict" | _=>none
 | .exc _ _=>some "exc"
 | _=>none
noncomputable def isiT (a b:String):Bool:=a == b || (a == "bool" && b == "int") || (a == "exc" && b == "ValueError")
noncomputable def fIsi:List D->Mem->DK->Prop
 | [d,.ty T],M,Q=>∃ t,tyD M d=some t/\(T="int"\/T="bool"\/T="str"\/T="tuple"\/T="list"\/T="dict"\/T="ValueError")/\Q (.bl (isiT t T)) M
 | [.non,.cls _],M,Q=>Q (.bl false) M
 | [d,.cls c],M,Q=>∃ m,d=.exc m (xarg d)/\Q (.bl (isSub m c)) M
 | [d,.tup cs],M,Q=>∃ m,∃ ns:List Str,d=.exc m (xarg d)/\cs=ns.map .cls/\Q (.bl (ns.any (isSub m))) M
 | _,_,_=>False
theorem kit_tab (K:PySem.W.Frag) {t T:String} (h:t="NoneType"\/t="bool"\/t="int"\/t="str"\/t="tuple"\/t="list"\/t="dict")
  (h':T="int"\/T="bool"\/T="str"\/T="tuple"\/T="list"\/T="dict"\/T="ValueError"):PySem.W.kitOne K (.type t) (.type T)=some (isiT t T):=by
 rcases h with rfl | rfl | rfl | rfl | rfl | rfl | rfl<;>rcases h' with rfl | rfl | rfl | rfl | rfl | rfl | rfl<;>kernel_rfl
section
variable {X:Cx} {rz:Bool} {Xe:DSt->DK}
theorem exc_inst {pins:List (Addr×Obj)} {σ:L2.St} {H:Hp} {s:Shared} {v:V} {n:Str} {x:D} (I:L2.Inv X pins σ H s) (r:RelD X.K H v (.exc n x)):∃ a C,v=.ref a/\n∈xNames/\ClsOf X.K n C/\∃ ox od,PySem.W.InstAt s.heap a ox C od:=by
 cases r with
 | @exc a C n hn hi hc h =>
  obtain ⟨ob,vs,h1,h2,h3,h4⟩:=(I.hok _ _ h).1
  exact ⟨a,C,rfl,hn,hc,ob,none,h1,h2,by unfold PySem.W.notCls; rw [h4],by rw [h3]; trivial⟩
 | @excF a C d n v x hn hi hc h hd r =>
  obtain ⟨ob,vs,h1,h2,h3,h4⟩:=(I.hok _ _ h).1
  obtain ⟨o,ho⟩:=(I.hok _ _ hd).2.1
  exact ⟨a,C,rfl,hn,hc,ob,some o,h1,h2,by unfold PySem.W.notCls; rw [h4],by rw [h3]; exact ho⟩
theorem ca_isi (tab:xTabB X.K=true):CallR X (.builtin "isinstance") (liftC X.K fIsi):=by
 rintro pins s σ H xs us Q I rv ⟨ds,M,R,r,rm,h,q⟩
 unfold fIsi at h; split at h
 ·rename_i d T
  obtain ⟨v,w,rfl,r1,r2⟩:=r.two; cases r2
  obtain ⟨u,w',rfl,ru,rw'⟩:=vals2 rv
  cases (show w'=Value.type T from rw')
  obtain ⟨t,e,hT,h⟩:=h
  have fin:∀ tk,EP X pins σ Q (.bool (isiT t T)) { s with toks:=tk }:=fun tk=>⟨.bl _,H,I.tok tk,rfl,q _ _ _ _ (.refl H) rm (.bl _) h⟩
  cases r1 with
  | non=>cases e; cases (show u=Value.none from ru); exact PySem.W.kia_one PySem.W.kitx_none I.kIn True.intro (kit_tab _ (by simp) hT) (fun z=>nomatch z) fin
  | bl b=>cases e; cases (show u=Value.bool b from ru); exact PySem.W.kia_one PySem.W.kitx_bool I.kIn True.intro (kit_tab _ (by simp) hT) (fun z=>nomatch z) fin
  | int i=>cases e; obtain ⟨t,rfl⟩:=(show ∃ t,u=Value.int i t from ru); exact PySem.W.kia_one PySem.W.kitx_int I.kIn True.intro (kit_tab _ (by simp) hT) (fun z=>nomatch z) fin
  | str x=>cases e; obtain ⟨t,rfl⟩:=(show ∃ t,u=Value.str x t from ru); exact PySem.W.kia_one PySem.W.kitx_str I.kIn True.intro (kit_tab _ (by simp) hT) (fun z=>nomatch z) fin
  | @tup a vs ds ht _ =>
   cases e; cases (show u=Value.ref a from ru)
   obtain ⟨its,_,⟨o,h1,h2,_⟩,_⟩:=I.tuple ht
   exact PySem.W.kia_one PySem.W.kitx_tuple I.kIn ⟨o,h1,h2⟩ (kit_tab _ (by simp) hT) (fun z=>nomatch z) fin
  | @fz a vs ds ht _ =>
   cases e; cases (show u=Value.ref a from ru)
   obtain ⟨its,_,⟨o,n,h1,h2,_⟩,_⟩:=I.list ht.sq
   exact PySem.W.kia_one PySem.W.kitx_list I.kIn ⟨o,h1,h2⟩ (kit_tab _ (by simp) hT) (fun z=>nomatch z) fin
  | lst a =>
   cases (show u=Value.ref a from ru)
   simp only [tyD] at e
   split at e<;>cases e
   rename_i ds e0
   obtain ⟨vs,e1,_⟩:=rm _ _ e0
   obtain ⟨its,_,⟨o,n,h1,h2,_⟩,_⟩:=I.list (.of e1)
   exact PySem.W.kia_one PySem.W.kitx_list I.kIn ⟨o,h1,h2⟩ (kit_tab _ (by simp) hT) (fun z=>nomatch z) fin
  | dct a =>
   cases (show u=Value.ref a from ru)
   simp only [tyD] at e
   split at e<;>cases e
   rename_i ds e0
   obtain ⟨vs,e1,_⟩:=rm _ _ e0
   obtain ⟨_,_,vs,_,p⟩:=(show ObjOk X.prog X.w H s.heap a (.dK vs) from I.hok a _ e1)
   obtain ⟨o,es,ep,h1,h2,_⟩:=p
   exact PySem.W.kia_one PySem.W.kitx_dict I.kIn ⟨o,h1,h2.1⟩ (kit_tab _ (by simp) hT) (fun z=>nomatch z) fin
  | @exc a C n hn hi hc hx =>
   obtain ⟨a,C,ev,hn,hc,hx⟩:=exc_inst I (.exc hn hi hc hx)
   cases ev
   cases e; cases (show u=Value.ref a from ru)
   have e:isiT "exc" T=(T == "ValueError"):=by rcases hT with rfl | rfl | rfl | rfl | rfl | rfl | rfl<;>decide
   rw [e] at fin
   exact PySem.W.kia_one (kitx_exc (xTab_row tab hn hc).1) I.kIn hx ((xTab_row tab hn hc).2.2.1 T hT) (fun z=>nomatch z) fin
  | @excF a C d n v x hn hi hc hx hd rr0 =>
   obtain ⟨a,C,ev,hn,hc,hx⟩:=exc_inst I (.excF hn hi hc hx hd rr0)
   cases ev
   cases e; cases (show u=Value.ref a from ru)
   have e:isiT "exc" T=(T == "ValueError"):=by rcases hT with rfl | rfl | rfl | rfl | rfl | rfl | rfl<;>decide
   rw [e] at fin
   exact PySem.W.kia_one (kitx_exc (xTab_row tab hn hc).1) I.kIn hx ((xTab_row tab hn hc).2.2.1 T hT) (fun z=>nomatch z) fin
  | _=>cases e
 ·rename_i c
  obtain ⟨v,w,rfl,r1,r2⟩:=r.two
  obtain ⟨u,w',rfl,ru,rw'⟩:=vals2 rv
  cases r1
  cases r2 with
  | @cls D' c' hn' hc' =>
   cases (show w'=Value.ref D' from rw')
   cases (show u=Value.none from ru)
   exact PySem.W.kia_one PySem.W.kitx_none I.kIn True.intro (nTab_row tab hn' hc') (fun z=>nomatch z) fun tk=>⟨.bl _,H,I.tok tk,rfl,q _ _ _ _ (.refl H) rm (.bl _) h⟩
 ·rename_i d c _
  obtain ⟨v,w,rfl,r1,r2⟩:=r.two
  obtain ⟨u,w',rfl,ru,rw'⟩:=vals2 rv
  obtain ⟨m,ed,h⟩:=h
  rw [ed] at r1
  cases r2 with
  | @cls D' c' hn' hc' =>
   cases (show w'=Value.ref D' from rw')
   obtain ⟨a,C,ev,hn,hc,hx⟩:=exc_inst I r1
   subst ev
   ·cases (show u=Value.ref a from ru)
    have fin:∀ tk,EP X pins σ Q (.bool (isSub m c)) { s with toks:=tk }:=fun tk=>⟨.bl _,H,I.tok tk,rfl,q _ _ _ _ (.refl H) rm (.bl _) h⟩
    exact PySem.W.kia_one (kitx_exc (xTab_row tab hn hc).1) I.kIn hx ((xTab_row tab hn hc).2.2.2 c D' hn' hc').2 (fun z=>nomatch z) fin
 ·rename_i d cs
  obtain ⟨v,w,rfl,r1,r2⟩:=r.two
  obtain ⟨u,w',rfl,ru,rw'⟩:=vals2 rv
  obtain ⟨m,ns,ed,rfl,h⟩:=h
  rw [ed] at r1
  cases r2 with
  | @tup b vs ds ht rr =>
   cases (show w'=Value.ref b from rw')
   obtain ⟨a,C,ev,hn,hc,hx⟩:=exc_inst I r1
   subst ev
   ·cases (show u=Value.ref a from ru)
    obtain ⟨its,rv2,⟨o,h1,h2,n2,h3⟩,_⟩:=I.tuple ht
    have key:∀ {ns:List Str} {vs:List V} {its:List Value},RelDs X.K H vs (ns.map .cls)->Vals vs its->PySem.W.kitAny X.K (.ref C) its=some (ns.any (isSub m)):=by
     intro ns
     induction ns with
     | nil=>intro vs its r q; cases r; cases q; rfl
     | cons c ns ih =>
      intro vs its r q
      cases r with
      | cons e r =>
       cases e with
       | @cls D' c' hn' hc' =>
        cases q with
        | cons e2 q =>
         cases e2
         have k1:=((xTab_row tab hn hc).2.2.2 c D' hn' hc').2
         show (match PySem.W.kitOne X.K (.ref C) (.ref D') with | some true=>some true | some false=>PySem.W.kitAny X.K (.ref C) _ | none=>none)=_
         rw [k1,List.any_cons]
         cases isSub m c with
         | true=>rfl
         | false=>exact ih r q
    have fin:∀ tk,EP X pins σ Q (.bool (ns.any (isSub m))) { s with toks:=tk }:=fun tk=>⟨.bl _,H,I.tok tk,rfl,q _ _ _ _ (.refl H) rm (.bl _) h⟩
    obtain ⟨oc,od,odt,osl⟩:=o
    cases h2
    cases h3
    exact PySem.W.kia_tup (kitx_exc (xTab_row tab hn hc).1) I.kIn hx h1 (key rr rv2) (fun z=>nomatch z) fin
 ·exact h.elim
noncomputable def fAll:List D->Mem->DK->Prop
 | [.lst a],M,Q=>∃ bs:List Bool,M a=some (.ls (bs.map .bl))/\Q (.bl (bs.all id)) M
 | _,_,_=>False
noncomputable def fAny:List D->Mem->DK->Prop
 | [.lst a],M,Q=>∃ bs:List Bool,M a=some (.ls (bs.map .bl))/\Q (.bl (bs.any id)) M
 | _,_,_=>False
theorem bools_are {K:PySem.W.Frag} {H:Hp} {bs:List Bool}:∀ {vs:List V} {us:List Value},RelDs K H vs (bs.map .bl)->Vals vs us->LSm.BoolsAre us bs:=by
 induction bs with
 | nil=>intro vs us r q; cases r; cases q; exact .nil
 | cons b bs ih =>
  intro vs us r q
  cases r with
  | cons rb r =>
   cases rb
   cases q with
   | cons e q =>
    cases e
    exact .cons _ (ih r q)
theorem ca_all (hc:X.calm=true):CallR X (.builtin "all") (liftC X.K fAll):=by
 rintro pins s σ H xs us Q I rv ⟨ds,M,R,r,rm,h,q⟩
 unfold fAll at h; split at h
 ·rename_i a
  obtain ⟨v,rfl,ra⟩:=r.one; cases ra
  obtain ⟨u,rfl,ru⟩:=vals1 rv
  cases (show u=Value.ref a from ru)
  obtain ⟨bs,e0,h⟩:=h
  obtain ⟨vs,e1,r1⟩:=rm _ _ e0
  obtain ⟨its,r2,pl,_⟩:=I.list (.of e1)
  have hb:=bools_are r1 r2
  have hl:=pl.isList
  have hlt:a < s.heap.objs.size:=by obtain ⟨_,e,_⟩:=hl; exact Heap.lt_size e
  refine call_all_walk (wpAny_pyIter_list hl ?_)
  refine ⟨s.heap.objs.size,[s.heap.objs.size,a],[s.heap.objs.size],its.toArray.size,_,_,fun i=>(bs[i]?).getD true,rfl,Walks.list (A:=X.A.in1) (I.ok.hd hc) _ a (Nat.ne_of_lt hlt) its.toArray,
   ⟨⟨_,Heap.get?_push_size _ rfl,rfl,rfl⟩,hl.push _⟩,fun i v s' Q' E' hP hQ=>?_,fun h' tk hk=>?_⟩
  ·obtain ⟨b,e,rfl⟩:=hb.get i v (by simpa using hP)
   simp only [e,Option.getD_some] at hQ
   exact wpAny_truthy_bool hQ
  ·have e:((List.range its.toArray.size).all fun i=>(bs[i]?).getD true)=bs.all id:=by
    rw [List.size_toArray,hb.length]; exact LSm.range_all bs
   rw [e]
   exact ⟨.bl _,H,I.kept (LSm.kept_iter hk),rfl,q _ _ _ _ (.refl H) rm (.bl _) h⟩
 ·exact h.elim
end
noncomputable def truD (d:D) (M:Mem) (Q:Bool->Mem->Prop):Prop :=
 match d with
 | .non=>Q false M
 | .bl b=>Q b M
 | .int i=>Q (i != 0) M
 | .str y=>y.length<=sizeLine/\Q ((y.length:Int) != 0) M
 | .tup xs=>Q (!xs.isEmpty) M
 | .fz xs=>Q (!xs.isEmpty) M
 | .lst a=>∃ xs,M a=some (.ls xs)/\Q (!xs.isEmpty) M
 | _=>False
noncomputable def dTru (t:DE):DT:=fun δ M Q=>t δ M fun d M1=>truD d M1 Q
section
variable {X:Cx} {rz:Bool} {Xe:DSt->DK} {a b c e:Expr} {es rest:List Expr} {ta tb tc:DE} {t:DA} {tA tB:DT} {pos:Pos}
theorem RelDs.isEmpty {K:PySem.W.Frag} {H:Hp} {vs:List V} {ds:List D} (r:RelDs K H vs ds):vs.isEmpty=ds.isEmpty:=by cases r<;>rfl
theorem dt_tru (ha:PE X a (lift (X.L rz Xe) ta)) (he:∀ whole,isTrue a X.env whole=(do let v <- whole; standAt a.pos; holding [v] (truthy v))):PT X a (liftT (X.L rz Xe) (dTru ta)) :=
 (pt_truth ha he).imp fun σ H Q ⟨δ,M,R,rs,rm,t,q⟩=>⟨δ,M,_,rs,rm,t,fun d M' v H' x m r h=>by
  cases r with
  | non=>exact ⟨_,rfl,q _ _ _ x m h⟩
  | bl b=>exact ⟨_,rfl,q _ _ _ x m h⟩
  | int i=>exact ⟨_,rfl,q _ _ _ x m h⟩
  | str y=>exact ⟨_,⟨h.1,rfl⟩,q _ _ _ x m h.2⟩
  | tup ht r=>exact ⟨_,.inr (.inl ⟨_,ht,rfl⟩),q _ _ _ x m (by rw [r.isEmpty]; exact h)⟩
  | fz ht r=>exact ⟨_,.inl ⟨_,ht.sq,rfl⟩,q _ _ _ x m (by rw [r.isEmpty]; exact h)⟩
  | lst a =>
   obtain ⟨xs,e0,h⟩:=h
   obtain ⟨vs,e1,r⟩:=m _ _ e0
   exact ⟨_,.inl ⟨_,.of e1,rfl⟩,q _ _ _ x m (by rw [r.isEmpty]; exact h)⟩
  | _=>exact (show False from h).elim⟩
theorem dt_cmp {op:CmpOp} (hu:X.A.units + 66 < cLine) (ha:PE X a (lift (X.L rz Xe) ta)) (hb:PE X b (lift (X.L rz Xe) tb)) (hm:behindInMarks op b=false):PT X (.Compare a [op] [b] pos) (liftT (X.L rz Xe) (dTest (d2 (cOp op) ta tb))) :=
 (pt_cmpR (op_c hu op) ha hb hm).imp fun σ H Q ⟨δ,M,R,rs,rm,t,q⟩=>d2_op ⟨δ,M,_,rs,rm,t,fun d M' v H' x m r ⟨k,e,h⟩=>by
  subst e; cases r; exact ⟨k,rfl,q _ _ _ x m h⟩⟩
theorem de_cmp {op:CmpOp} (hu:X.A.units + 66 < cLine) (ha:PE X a (lift (X.L rz Xe) ta)) (hb:PE X b (lift (X.L rz Xe) tb)) (hm:behindInMarks op b=false):PE X (.Compare a [op] [b] pos) (lift (X.L rz Xe) (d2 (cOp op) ta tb)) :=
 (pe_cmpR (op_c hu op) ha hb hm).imp fun _ _ _=>d2_op
noncomputable def dChain (f g:D->D->Mem->DK->Prop) (ta tb tc:DE):DE:=fun δ M Q=>ta δ M fun x M1=>tb δ M1 fun y M2=>f x y M2 fun z M3=>∃ k,z=.bl k/\if k=true then tc δ M3 fun w M4=>g y w M4 Q else Q (.bl false) M3
theorem dChain_op {f g:D->D->Mem->DK->Prop} {Λ:LK} {σ:L2.St} {H:Hp} {Q:VK} (h:lift Λ (dChain f g ta tb tc) σ H Q):tChain (lift2 Λ.K f) (lift2 Λ.K g) (lift Λ ta) (lift Λ tb) (lift Λ tc) σ H Q:=by
 obtain ⟨δ,M,R,rs,rm,t,q⟩:=h
 refine seq2 (R:=fun x y M2=>f x y M2 _) rs rm t fun x y M2 v u H2 x2 m2 r1 r2 t2=>⟨x,y,M2,_,r1,r2,m2,t2,fun d M3 w H3 x3 m3 r3 hq7=>?_⟩
 obtain ⟨k,e,h⟩:=hq7
 subst e; cases r3
 refine ⟨k,rfl,?_⟩
 cases k with
 | true=>exact ⟨δ,M3,_,rs.ext (x2.trans x3),m3,h,fun z M4 w4 H4 x4 m4 r4 h4=>⟨y,z,M4,R,(r2.ext x3).ext x4,r4,m4,h4,fun d' M' v' H' x5 m5 r5=>q d' M' v' H' (((x2.trans x3).trans x4).trans x5) m5 r5⟩⟩
 | false=>exact q _ _ _ _ (x2.trans x3) m3 (.bl false) h
theorem de_chain {op op':CmpOp} (hu:X.A.units + 66 < cLine) (ha:PE X a (lift (X.L rz Xe) ta)) (hb:PE X b (lift (X.L rz Xe) tb)) (hc:PE X c (lift (X.L rz Xe) tc)) (hm:lastMarks [op,op'] [b,c]=false) :
  PE X (.Compare a [op,op'] [b,c] pos) (lift (X.L rz Xe) (dChain (cOp op) (cOp op') ta tb tc)):=(pe_chain (op_c hu op) (op_c hu op') ha hb hc hm).imp fun _ _ _=>dChain_op
theorem dt_chain {op op':CmpOp} (hu:X.A.units + 66 < cLine) (ha:PE X a (lift (X.L rz Xe) ta)) (hb:PE X b (lift (X.L rz Xe) tb)) (hc:PE X c (lift (X.L rz Xe) tc)) (hm:lastMarks [op,op'] [b,c]=false) :
  PT X (.Compare a [op,op'] [b,c] pos) (liftT (X.L rz Xe) (dTest (dChain (cOp op) (cOp op') ta tb tc))):=by
 refine (pt_chain (op_c hu op) (op_c hu op') ha hb hc hm).imp ?_
 rintro σ H Q ⟨δ,M,R,rs,rm,t,q⟩
 exact dChain_op ⟨δ,M,_,rs,rm,t,fun d M' v H' x m r ⟨k,e,h⟩=>by
  subst e; cases r; exact ⟨k,rfl,q _ _ _ x m h⟩⟩
theorem PW.imp {t t':TT} (h:PW X a t) (i:∀ σ H Q,t' σ H Q->t σ H Q):PW X a t':=fun whole pins s σ H Q I q=>h whole pins s σ H Q I (i _ _ _ q)
theorem dw_and (ha:PT X a (liftT (X.L rz Xe) tA)) (hb:PW X (.BoolOp .And (b :: rest) pos) (liftT (X.L rz Xe) tB)):PW X (.BoolOp .And (a :: b :: rest) pos) (liftT (X.L rz Xe) (dAnd tA tB)) :=
 PW.imp (pw_and ha hb) fun σ H Q ⟨δ,M,R,rs,rm,t,q⟩=>⟨δ,M,_,rs,rm,t,fun k M' H' x m h=>by
  cases k with
  | true=>exact ⟨δ,M',R,rs.ext x,m,h,fun b M2 H2 x2 m2=>q b M2 H2 (x.trans x2) m2⟩
  | false=>exact q _ _ _ x m h⟩
theorem dw_or (ha:PT X a (liftT (X.L rz Xe) tA)) (hb:PW X (.BoolOp .Or (b :: rest) pos) (liftT (X.L rz Xe) tB)):PW X (.BoolOp .Or (a :: b :: rest) pos) (liftT (X.L rz Xe) (dOr tA tB)) :=
 PW.imp (pw_or ha hb) fun σ H Q ⟨δ,M,R,rs,rm,t,q⟩=>⟨δ,M,_,rs,rm,t,fun k M' H' x m h=>by
  cases k with
  | false=>exact ⟨δ,M',R,rs.ext x,m,h,fun b M2 H2 x2 m2=>q b M2 H2 (x.trans x2) m2⟩
  | true=>exact q _ _ _ x m h⟩
theorem dt_not (ha:PT X a (liftT (X.L rz Xe) tA)):PT X (.UnaryOp .Not a pos) (liftT (X.L rz Xe) (dNot tA)) :=
 (pt_not ha).imp (by rintro σ H Q ⟨δ,M,R,rs,rm,t,q⟩; exact ⟨δ,M,_,rs,rm,t,fun k M' H' x m h=>q _ _ _ x m h⟩)
theorem de_and (ha:PE X a (lift (X.L rz Xe) ta)) (hb:PE X (.BoolOp .And (b :: rest) pos) (lift (X.L rz Xe) tb)):PE X (.BoolOp .And (a :: b :: rest) pos) (lift (X.L rz Xe) (dAndV ta tb)) :=
 (pe_and ha hb).imp fun σ H Q ⟨δ,M,R,rs,rm,t,q⟩=>⟨δ,M,_,rs,rm,t,fun d M' v H' x m r ⟨k,e,h⟩=>by
  subst e; cases r; refine ⟨k,rfl,?_⟩
  cases k with
  | true=>exact ⟨δ,M',R,rs.ext x,m,h,fun d' M2 v' H2 x2 m2=>q d' M2 v' H2 (x.trans x2) m2⟩
  | false=>exact q _ _ _ _ x m (.bl false) h⟩
theorem de_or (ha:PE X a (lift (X.L rz Xe) ta)) (hb:PE X (.BoolOp .Or (b :: rest) pos) (lift (X.L rz Xe) tb)):PE X (.BoolOp .Or (a :: b :: rest) pos) (lift (X.L rz Xe) (dOrV ta tb)) :=
 (pe_or ha hb).imp fun σ H Q ⟨δ,M,R,rs,rm,t,q⟩=>⟨δ,M,_,rs,rm,t,fun d M' v H' x m r ⟨k,e,h⟩=>by
  subst e; cases r; refine ⟨k,rfl,?_⟩
  cases k with
  | false=>exact ⟨δ,M',R,rs.ext x,m,h,fun d' M2 v' H2 x2 m2=>q d' M2 v' H2 (x.trans x2) m2⟩
  | true=>exact q _ _ _ _ x m (.bl true) h⟩
noncomputable def dNotB (ta:DE):DE:=fun δ M Q=>ta δ M fun x M1=>∃ k,x=.bl k/\Q (.bl (!k)) M1
theorem de_not (ha:PE X a (lift (X.L rz Xe) ta)):PE X (.UnaryOp .Not a pos) (lift (X.L rz Xe) (dNotB ta)) :=
 (pe_not ha).imp fun σ H Q ⟨δ,M,R,rs,rm,t,q⟩=>⟨δ,M,_,rs,rm,t,fun d M' v H' x m r ⟨k,e,h⟩=>by
  subst e; cases r; exact ⟨k,rfl,q _ _ _ _ x m (.bl _) h⟩⟩
noncomputable def dNeg (ta:DE):DE:=fun δ M Q=>ta δ M fun x M1=>∃ i,x=.int i/\Q (.int (-i)) M1
theorem de_neg (ha:PE X a (lift (X.L rz Xe) ta)):PE X (.UnaryOp .USub a pos) (lift (X.L rz Xe) (dNeg ta)) :=
 (pe_un un_neg ha).imp fun σ H Q ⟨δ,M,R,rs,rm,t,q⟩=>⟨δ,M,_,rs,rm,t,fun d M' v H' x m r ⟨k,e,h⟩=>by
  subst e; cases r; exact ⟨k,rfl,q _ _ _ _ x m (.int _) h⟩⟩
theorem de_ife (hc:PT X c (liftT (X.L rz Xe) tA)) (ha:PE X a (lift (X.L rz Xe) ta)) (hb:PE X b (lift (X.L rz Xe) tb)):PE X (.IfExp c a b pos) (lift (X.L rz Xe) (dIfE tA ta tb)) :=
 (pe_ifExp hc ha hb).imp fun σ H Q ⟨δ,M,R,rs,rm,t,q⟩=>⟨δ,M,_,rs,rm,t,fun k M' H' x m h=>by
  cases k with
  | true=>exact ⟨δ,M',R,rs.ext x,m,h,fun d' M2 v' H2 x2 m2=>q d' M2 v' H2 (x.trans x2) m2⟩
  | false=>exact ⟨δ,M',R,rs.ext x,m,h,fun d' M2 v' H2 x2 m2=>q d' M2 v' H2 (x.trans x2) m2⟩⟩
theorem da_nil:PA X [] (liftA (X.L rz Xe) dNil):=by
 refine (pa_nil).imp ?_
 rintro σ H Q ⟨δ,M,R,rs,rm,t,q⟩
 exact q [] M [] H (.refl H) rm .nil t
theorem da_cons (ha:PE X e (lift (X.L rz Xe) ta)) (hr:PA X es (liftA (X.L rz Xe) t)) (hs:starEach (e :: es) X.env=(false,eval e X.env) :: starEach es X.env):PA X (e :: es) (liftA (X.L rz Xe) (dCons ta t)) :=
 (pa_cons ha hr hs).imp (by rintro σ H Q ⟨δ,M,R,rs,rm,t,q⟩; exact ⟨δ,M,_,rs,rm,t,fun d M' v H' x m r h=>⟨δ,M',_,rs.ext x,m,h,fun ds M2 vs H2 x2 m2 r2 h2=>q _ _ _ _ (x.trans x2) m2 (.cons (r.ext x2) r2) h2⟩⟩)
theorem de_tup {x1} (h:PA X es (liftA (X.L rz Xe) t)):PE X (.Tuple es x1 pos) (lift (X.L rz Xe) (dTup t)) :=
 (pe_tup h).imp (by rintro σ H Q ⟨δ,M,R,rs,rm,t,q⟩; exact ⟨δ,M,_,rs,rm,t,(by rintro ds M' vs H' x m r ⟨hz,h⟩; exact ⟨by rw [r.length]; exact hz,fun p hp=>q _ _ _ _ (x.trans (.upd (.inl hp))) (m.tup hp) (.tup (.of upd_same) (r.ext (.upd (.inl hp)))) h⟩)⟩)
theorem de_lst (h:PA X es (liftA (X.L rz Xe) t)):PE X (.List es pos) (lift (X.L rz Xe) (dLst t)) :=
 (pe_lst h).imp (by rintro σ H Q ⟨δ,M,R,rs,rm,t,q⟩; exact ⟨δ,M,_,rs,rm,t,(by rintro ds M' vs H' x m r ⟨hz,h⟩; exact ⟨by rw [r.length]; exact hz,fun p hp=>q _ _ _ _ (x.trans (.upd (.inl hp))) (m.lst hp r) (.lst p) (h.at (m.none hp))⟩)⟩)
theorem de_ix (ha:PE X a (lift (X.L rz Xe) ta)) (hb:PE X b (lift (X.L rz Xe) tb)) (hs:PlainIx b):PE X (.Subscript a b pos) (lift (X.L rz Xe) (d2 iOp ta tb)):=(pe_ix ix_i ha hb hs).imp fun _ _ _=>d2_op
noncomputable abbrev DO:=DSt->Mem->(Option Int->Mem->Prop)->Prop
noncomputable def liftO (Λ:LK) (t:DO):TO:=fun σ H Q=>∃ δ M R,RepS Λ H δ σ/\RepM Λ.K H M/\t δ M R/\∀ o M' H',HExt Λ.K H H'->RepM Λ.K H' M'->R o M'->Q o H'
noncomputable def dNoPart:DO:=fun _ M Q=>Q none M
noncomputable def dPart (t:DE):DO:=fun δ M Q=>t δ M fun x M1=>∃ i,x=.int i/\Q (some i) M1
theorem PO.imp {e:Option Expr} {t t':TO} (h:PO X e t) (i:∀ σ H Q,t' σ H Q->t σ H Q):PO X e t':=fun pins s σ H Q I q=>h pins s σ H Q I (i _ _ _ q)
theorem do_none:PO X none (liftO (X.L rz Xe) dNoPart):=PO.imp po_none (by rintro σ H Q ⟨δ,M,R,rs,rm,t,q⟩; exact q _ _ _ (.refl H) rm t)
theorem do_some (h:PE X e (lift (X.L rz Xe) ta)):PO X (some e) (liftO (X.L rz Xe) (dPart ta)):=PO.imp (po_some h) fun σ H Q ⟨δ,M,R,rs,rm,t,q⟩=>⟨δ,M,_,rs,rm,t,fun d M' v H' x m r ⟨i,e,h⟩=>by
  subst e; cases r; exact ⟨i,rfl,q _ _ _ x m h⟩⟩
noncomputable def dSl (te:DE) (tl th:DO):DE:=fun δ M Q=>te δ M fun x M1=>tl δ M1 fun l M2=>th δ M2 fun u M3=>sOp x l u M3 Q
theorem de_sl {lo hi:Option Expr} {tl th:DO} {p2:Pos} (he:PE X e (lift (X.L rz Xe) ta)) (hl:PO X lo (liftO (X.L rz Xe) tl)) (hu:PO X hi (liftO (X.L rz Xe) th)):PE X (.Subscript e (.Slice lo hi none p2) pos) (lift (X.L rz Xe) (dSl ta tl th)) :=
 (pe_slice sl_s he hl hu).imp fun σ H Q ⟨δ,M,R,rs,rm,t,q⟩=>⟨δ,M,_,rs,rm,t,fun d M1 v H1 x1 m1 r1 h1=>⟨δ,M1,_,rs.ext x1,m1,h1,fun l M2 H2 x2 m2 h2=>⟨δ,M2,_,rs.ext (x1.trans x2),m2,h2,fun u M3 H3 x3 m3 h3 =>
  ⟨d,M3,R,(r1.ext x2).ext x3,m3,h3,fun d' M' v' H' x4 m4 r4=>q d' M' v' H' (((x1.trans x2).trans x3).trans x4) m4 r4⟩⟩⟩⟩
theorem dCB_op {f:List D->Mem->DK->Prop} {Λ:LK} {σ:L2.St} {H:Hp} {Q:VK} (h:lift Λ (dCB f t) σ H Q):tCB (liftC Λ.K f) (liftA Λ t) σ H Q:=by
 obtain ⟨δ,M,R,rs,rm,t,q⟩:=h
 exact ⟨δ,M,_,rs,rm,t,fun ds M' vs H' x m r h=>⟨ds,M',R,r,m,h,fun d' M2 v' H2 x2 m2 r2=>q d' M2 v' H2 (x.trans x2) m2 r2⟩⟩
end
end DL
end
noncomputable section
namespace DL
open PySem PySem.Spec PyProof.Rows L2
section
variable {K:PySem.W.Frag} {H:Hp} {M:Mem}
theorem RepM.dk {p:Addr} {kws:List (Key×V)} {kvs:List (Key×D)} (r:RepM K H M) (h:H p=.none) (hk:kws.map (·.1)=kvs.map (·.1)) (q:RelDs K H (kws.map (·.2)) (kvs.map (·.2))):RepM K (upd H p (.dK kws)) (M.upd p (.dk kvs)):=fun a o e=>by
 by_cases z:a=p
 ·subst z; rw [mupd_same] at e; cases e; exact ⟨kws,upd_same,hk,q.ext (.upd (.inl h))⟩
 ·rw [mupd_ne z] at e; exact (r a o e).ext (.upd (.inl h)) z
end
noncomputable def keyD:D->Option Key
 | .int i=>some (.inl i)
 | .str x=>some (.inr x)
 | _=>none
noncomputable def dDic0:DE:=fun _ M Q=>alloc M (.dk []) fun p M'=>Q (.dct p) M'
noncomputable def dDic1 (tk tv:DE):DE:=fun δ M Q=>∀ p,M p=none->tk δ (M.upd p (.dk [])) fun x M1=>tv δ M1 fun y M2=>M2 p=some (.dk [])/\∃ k,keyD x=some k/\Q (.dct p) (M2.upd p (.dk [(k,y)]))
section
variable {X:Cx} {rz:Bool} {Xe:DSt->DK} {a b:Expr} {ta tb:DE} {pos:Pos}
theorem de_dic0:PE X (.Dict [] [] pos) (lift (X.L rz Xe) dDic0):=pe_dnewK.imp fun σ H Q ⟨δ,M,R,rs,rm,t,q⟩ p hp=>q _ _ _ _ (.upd (.inl hp)) (rm.dk hp rfl .nil) (.dct p) (t.at (rm.none hp))
end
end DL
end
noncomputable section
namespace DL
open PySem PySem.Spec PyProof.Rows L2
section
variable {X:Cx} {a b c d:Expr} {pos:Pos} {ta tb tc td:TE}
end
section
variable {X:Cx} {rz:Bool} {Xe:DSt->DK} {a b c d:Expr} {pos:Pos} {ta tb tc td:DE}
end
end DL
end
noncomputable section
namespace HT
open PySem PySem.Spec PyProof.Rows
section
variable {prog:Program} {w:World} {A:Around} {E:Value->Shared->Prop} {s:Shared}
end
end HT
namespace DL
open PySem PySem.Spec PyProof.Rows L2
section
variable {X:Cx} {rz:Bool} {Xe:DSt->DK} {e st:Expr} {ta ts:DE} {pos p2:Pos}
noncomputable def revOp (d:D) (l:Option Int) (M:Mem) (Q:DK):Prop:=l=some (-1)/\match d with | .tup xs=>Q (.tup xs.reverse) M | .lst a=>∃ xs,M a=some (.ls xs)/\alloc M (.ls xs.reverse) fun p M'=>Q (.lst p) M' | _=>False
noncomputable def dRev (te:DE) (tl:DO):DE:=fun δ M Q=>te δ M fun x M1=>tl δ M1 fun l M2=>revOp x l M2 Q
end
end DL
end
noncomputable section
namespace PySem
open PyProof.Rows
namespace F
end F
section
variable {prog:Program} {w:World} {A:Around} {E:Value->Shared->Prop} {s:Shared}
end
section
variable {prog:Program} {w:World} {A:Around} {s:Shared} {R:Result->Shared->Prop}
variable {I l:Addr} {items:Array Value}
end
section
variable {prog:Program} {w:World} {A:Around} {E:Value->Shared->Prop} {s:Shared}
variable {I l:Addr} {items:Array Value}
end
end PySem
namespace DL
open PySem PySem.Spec PyProof.Rows L2
section
variable {X:Cx} {e:Expr} {t:TA} {p p2 pos pos2:Pos}
end
end DL
namespace DL
open PySem PySem.Spec PyProof.Rows L2
section
variable {X:Cx} {rz:Bool} {Xe:DSt->DK} {e:Expr} {t:DA} {p p2 pos pos2:Pos}
end
end DL
end
noncomputable section
namespace DL
open PySem PySem.Spec PyProof.Rows L2
noncomputable def dNext:DS:=fun D δ M=>D.nx δ M
noncomputable def dSeq (t u:DS):DS:=fun D δ M=>t { D with nx:=u D } δ M
noncomputable def dBreak:DS:=fun D δ M=>D.bk δ M
noncomputable def dCont:DS:=fun D δ M=>D.ct δ M
noncomputable def dDrop (te:(DSt->DK)->DE):DS:=fun D δ M=>te D.ex δ M fun _ M1=>D.nx δ M1
noncomputable def dRet (te:(DSt->DK)->DE):DS:=fun D δ M=>te D.ex δ M D.rt
noncomputable def dRetN:DS:=fun D _ M=>D.rt .non M
noncomputable def dIfS (c:(DSt->DK)->DT) (t u:DS):DS:=fun D δ M=>c D.ex δ M fun b M1=>if b=true then t D δ M1 else u D δ M1
noncomputable def dNever:DS:=fun _ _ _=>False
noncomputable abbrev DG:=D->DSt->Mem->(DSt->Mem->Prop)->Prop
noncomputable abbrev DGs:=List D->DSt->Mem->(DSt->Mem->Prop)->Prop
noncomputable def liftG (Λ:LK) (g:DG):TG:=fun v σ H Q=>∃ d δ M R,RelD Λ.K H v d/\RepS Λ H δ σ/\RepM Λ.K H M/\g d δ M R/\∀ δ' M' σ' H',HExt Λ.K H H'->RepS Λ H' δ' σ'->RepM Λ.K H' M'->R δ' M'->Q σ' H'
noncomputable def liftGs (Λ:LK) (g:DGs):TGs:=fun vs σ H Q=>∃ ds δ M R,RelDs Λ.K H vs ds/\RepS Λ H δ σ/\RepM Λ.K H M/\g ds δ M R/\∀ δ' M' σ' H',HExt Λ.K H H'->RepS Λ H' δ' σ'->RepM Λ.K H' M'->R δ' M'->Q σ' H'
noncomputable def gdName (i:Nat):DG:=fun d δ M Q=>Q (δ.set i (some d)) M
noncomputable def gdNil:DGs:=fun ds δ M Q=>ds=[]/\Q δ M
noncomputable def gdCons (t:DG) (u:DGs):DGs:=fun ds δ M Q=>∃ d r,ds=d :: r/\t d δ M fun δ' M'=>u r δ' M' Q
noncomputable def gdTup (n:Nat) (t:DGs):DG:=fun d δ M Q=>∃ ds,d=.tup ds/\ds.length=n/\t ds δ M Q
noncomputable def gdSub (to ti:DE):DG:=fun v δ M Q=>to δ M fun o M1=>ti δ M1 fun i M2=>∃ a k xs j,o=.lst a/\i=.int k/\M2 a=some (.ls xs)/\ixN xs.length k=some j/\Q δ (M2.upd a (.ls (xs.set j v)))
noncomputable def dAsg (te:(DSt->DK)->DE) (g:(DSt->DK)->DG):DS:=fun D δ M=>te D.ex δ M fun x M1=>g D.ex x δ M1 D.nx
noncomputable def dPar (i j:Nat) (ta:(DSt->DK)->DA):DS:=fun D δ M=>ta D.ex δ M fun ds M1=>∃ v w,ds=[v,w]/\D.nx ((δ.set i (some v)).set j (some w)) M1
noncomputable def dTwo (te:(DSt->DK)->DE) (g h:(DSt->DK)->DG):DS:=fun D δ M=>te D.ex δ M fun x M1=>g D.ex x δ M1 fun δ2 M2=>h D.ex x δ2 M2 D.nx
noncomputable def dAug (i:Nat) (te:(DSt->DK)->DE) (f:Int->Int->Int):DS:=fun D δ M=>∃ x,δ[i]?=some (some (.int x))/\te D.ex δ M fun y M1=>∃ j,y=.int j/\D.nx (δ.set i (some (.int (f x j)))) M1
noncomputable def dWhile (c:(DSt->DK)->DT) (tb:DS):DS:=fun D δ M=>∃ W:Nat->DSt->Mem->Prop,(∃ m,W m δ M)/\∀ m δ M,W m δ M ->
 c D.ex δ M fun b M1=>if b=true then ∃ N:DSt->Mem->Prop,(∀ δ' M',N δ' M'->∃ m',m' < m/\W m' δ' M')/\tb { D with nx:=N,ct:=N,bk:=D.nx } δ M1 else D.nx δ M1
section
variable {X:Cx} {rz:Bool} {Xe:DSt->DK} {st:Stmt} {rest:List Stmt} {t u:DS} {e tg:Expr} {es:List Expr} {te:DE} {g:DG} {gs:DGs} {pos:Pos}
theorem dss_nil:PSs X [] (liftS X rz dNext):=by
 refine pss_nil.imp ?_
 rintro E σ H ⟨δ,M,D,rs,rm,t,n,r,b,c⟩
 exact n δ M σ H (.refl H) rs rm t
theorem dSeq_op {E:Ends} {σ:L2.St} {H:Hp} (h:liftS X rz (dSeq t u) E σ H):tSeq (liftS X rz t) (liftS X rz u) E σ H:=by
 obtain ⟨δ,M,D,rs,rm,t,n,r,b,c⟩:=h
 exact ⟨δ,M,{ D with nx:=u D },rs,rm,t,fun δ' M' σ' H' x rs' rm' h=>⟨δ',M',D,rs',rm',h,fun a b c d x2=>n a b c d (x.trans x2),fun a b c d x2=>r a b c d (x.trans x2),fun p q s t x2=>b p q s t (x.trans x2),fun p q s t x2=>c p q s t (x.trans x2)⟩,r,b,c⟩
theorem dss_cons (h1:PS X st (liftS X rz t)) (h2:PSs X rest (liftS X rz u)):PSs X (st :: rest) (liftS X rz (dSeq t u)):=(pss_cons h1 h2).imp fun _ _ _=>dSeq_op
theorem ds_expr {te:(DSt->DK)->DE} (he:∀ Xe,PE X e (lift (X.L rz Xe) (te Xe))) (hs:swapsWith e none pos.line X.env=pure false):PS X (.Expr e pos) (liftS X rz (dDrop te)):=by
 rintro pins s σ H E I ⟨δ,M,D,rs,rm,t,n,r,b,c⟩
 exact (ps_expr (he D.ex) hs) pins s σ H E I <| ⟨δ,M,_,rs,rm,t,fun d M' v H' x m _ h=>n δ M' σ H' x (rs.ext x) m h⟩
theorem ds_ret {te:(DSt->DK)->DE} (he:∀ Xe,PE X e (lift (X.L rz Xe) (te Xe))):PS X (.Return (some e) pos) (liftS X rz (dRet te)):=by
 rintro pins s σ H E I ⟨δ,M,D,rs,rm,t,n,r,b,c⟩
 exact (ps_ret (he D.ex)) pins s σ H E I <| ⟨δ,M,_,rs,rm,t,fun d M' v H' x m q h=>r d M' v H' x m q h⟩
theorem ds_if {c:Expr} {a b:List Stmt} {tc:(DSt->DK)->DT} (hc:∀ Xe,PT X c (liftT (X.L rz Xe) (tc Xe))) (ha:PSs X a (liftS X rz t)) (hb:PSs X b (liftS X rz u)):PS X (.If c a b pos) (liftS X rz (dIfS tc t u)):=by
 rintro pins s σ H E I ⟨δ,M,D,rs,rm,t,n,r,b,c⟩
 exact (ps_if (hc D.ex) ha hb) pins s σ H E I <| ⟨δ,M,_,rs,rm,t,fun k M' H' x m h=>by
  cases k with
  | true=>exact ⟨δ,M',D,rs.ext x,m,h,fun a b c d x2=>n a b c d (x.trans x2),fun a b c d x2=>r a b c d (x.trans x2),fun p q s t x2=>b p q s t (x.trans x2),fun p q s t x2=>c p q s t (x.trans x2)⟩
  | false=>exact ⟨δ,M',D,rs.ext x,m,h,fun a b c d x2=>n a b c d (x.trans x2),fun a b c d x2=>r a b c d (x.trans x2),fun p q s t x2=>b p q s t (x.trans x2),fun p q s t x2=>c p q s t (x.trans x2)⟩⟩
theorem _root_.L2.PG.imp {t t':TG} (h:PG X tg t) (i:∀ v σ H Q,t' v σ H Q->t v σ H Q):PG X tg t':=fun pins s σ H v u Q I r q=>h pins s σ H v u Q I r (i _ _ _ _ q)
theorem _root_.L2.PGs.imp {t t':TGs} (h:PGs X es t) (i:∀ v σ H Q,t' v σ H Q->t v σ H Q):PGs X es t':=fun pins s σ H v u Q I r q=>h pins s σ H v u Q I r (i _ _ _ _ q)
theorem dg_name {i:Nat} {x:Str} (hN:X.N.Nodup) (hi:X.N[i]?=some x) (hx:Loc X.env.scope x) (hf:X.fn x=true\/X.env.scope.names.lookup x=some .local):PG X (.Name x pos) (liftG (X.L rz Xe) (gdName i)) :=
 (pg_name hN hi hx hf).imp (by rintro v σ H Q ⟨d,δ,M,R,r,rs,rm,h,q⟩; exact q _ _ _ _ (.refl H) (rs.set r i) rm h)
theorem dgs_nil:PGs X [] (liftGs (X.L rz Xe) gdNil):=by
 refine pgs_nil.imp ?_
 rintro v σ H Q ⟨d,δ,M,R,r,rs,rm,h,q⟩
 obtain ⟨e,h⟩:=h; subst e; cases r; exact ⟨rfl,q _ _ _ _ (.refl H) rs rm h⟩
theorem dgs_cons (h1:PG X tg (liftG (X.L rz Xe) g)) (h2:PGs X es (liftGs (X.L rz Xe) gs)) (hs:(assignEach (tg :: es) X.env).map (·.2)=assign tg X.env :: (assignEach es X.env).map (·.2)):PGs X (tg :: es) (liftGs (X.L rz Xe) (gdCons g gs)) :=
 (pgs_cons h1 h2 hs).imp fun v σ H Q ⟨d,δ,M,R,r,rs,rm,h,q⟩=>by
  obtain ⟨d,ds,e,h⟩:=h
  subst e
  cases r with
  | cons ra rr=>exact ⟨_,_,rfl,d,δ,M,_,ra,rs,rm,h,fun δ' M' σ' H' x rs' rm' h'=>⟨ds,δ',M',R,rr.ext x,rs',rm',h',fun a b c d x2=>q a b c d (x.trans x2)⟩⟩
theorem dg_tup {k n:Nat} (hc:X.calm=true) (h:PGs X es (liftGs (X.L rz Xe) gs)) (hn:(assignEach es X.env).length=n) (hst:(assignEach es X.env).findIdx? (·.1)=none):PG X (.Tuple es k pos) (liftG (X.L rz Xe) (gdTup n gs)) :=
 (pg_tup hc h hn hst).imp fun v σ H Q ⟨d,δ,M,R,r,rs,rm,h,q⟩=>by
  obtain ⟨ds,e,hl,h⟩:=h
  subst e
  cases r with
  | tup ht rr=>exact ⟨_,_,rfl,ht,by rw [rr.length]; exact hl,ds,δ,M,R,rr,rs,rm,h,q⟩
theorem dg_sub {o i:Expr} {to ti:DE} (ho:PE X o (lift (X.L rz Xe) to)) (hi:PE X i (lift (X.L rz Xe) ti))
  (ha:∀ v,assign (.Subscript o i pos) X.env v=(do
   let ov <- holding [v] (eval o X.env)
   let iv <- holding [v,ov] (eval i X.env)
   standAt pos
   holding [v,ov,iv] (setItem ov iv v)
   release [v,ov,iv] [])):PG X (.Subscript o i pos) (liftG (X.L rz Xe) (gdSub to ti)) :=
 (pg_sub ho hi set_list ha).imp fun v σ H Q ⟨d,δ,M,R,r,rs,rm,h,q⟩=>seq2 rs rm h fun x y M2 w u H2 x2 m2 r1 r2 ⟨a,k,xs,j,e1,e2,e3,e4,h2⟩=>by
  subst e1; subst e2; cases r1; cases r2
  obtain ⟨vs,ev,rv⟩:=m2 _ _ e3
  exact ⟨a,vs,k,j,rfl,rfl,ev,by rw [rv.length]; exact e4,q _ _ _ _ (x2.trans (.upd (.inr ⟨_,ev,trivial⟩))) (rs.ext (x2.trans (.upd (.inr ⟨_,ev,trivial⟩)))) (m2.write ev (rv.set (r.ext x2) j)) h2⟩
theorem ds_asg {te:(DSt->DK)->DE} {g:(DSt->DK)->DG} (he:∀ Xe,PE X e (lift (X.L rz Xe) (te Xe))) (hg:∀ Xe,PG X tg (liftG (X.L rz Xe) (g Xe))) (hs:swapsWithSole [tg] e pos.line X.env=pure false) (hw:swappedStores [tg] e X.env=pure none)
  (h1:(assignEach [tg] X.env).map (·.2)=[assign tg X.env]):PS X (.Assign [tg] e pos) (liftS X rz (dAsg te g)) :=
 (by rintro pins s σ H E I ⟨δ,M,D,rs,rm,t,n,r,b,c⟩; exact (ps_asg (he D.ex) (hg D.ex) hs hw h1) pins s σ H E I <| ⟨δ,M,_,rs,rm,t,fun d M' v H' x m q h=>⟨d,δ,M',_,q,rs.ext x,m,h,fun a b c d x2=>n a b c d (x.trans x2)⟩⟩)
theorem ds_set {te:(DSt->DK)->DE} {i:Nat} {x:Str} {pos':Pos} (hN:X.N.Nodup) (hi:X.N[i]?=some x) (hx:Loc X.env.scope x) (he:∀ Xe,PE X e (lift (X.L rz Xe) (te Xe))) (hs:swapsWith e (some (.Name x pos')) pos.line X.env=pure false) (hf:X.fn x=true\/X.env.scope.names.lookup x=some .local) :
  PS X (.Assign [.Name x pos'] e pos) (liftS X rz (dAsg te fun _=>gdName i)):=by
 rintro pins s σ H E I ⟨δ,M,D,rs,rm,t,n,r,b,c⟩
 exact (ps_set hN hi hx (he D.ex) hs hf) pins s σ H E I <| ⟨δ,M,_,rs,rm,t,fun d M' v H' x m q h=>n _ _ _ _ x ((rs.ext x).set q i) m h⟩
theorem ds_par {i j:Nat} {x y:Str} {a b:Expr} {ta:(DSt->DK)->DA} {px py pt:Pos} {kt k2 pt2} (hc:X.calm=true) (hN:X.N.Nodup) (hi:X.N[i]?=some x) (hj:X.N[j]?=some y) (hij:i≠j)
  (hx:X.env.scope.names.lookup x=some .local) (hy:X.env.scope.names.lookup y=some .local) (ha:∀ Xe,PA X [a,b] (liftA (X.L rz Xe) (ta Xe)))
  (hw:swappedStores [.Tuple [.Name x px,.Name y py] kt pt] (.Tuple [a,b] k2 pt2) X.env=pure (some [x,y]))
  (hs:swapsWithSole [.Tuple [.Name x px,.Name y py] kt pt] (.Tuple [a,b] k2 pt2) pos.line X.env=pure false) :
  PS X (.Assign [.Tuple [.Name x px,.Name y py] kt pt] (.Tuple [a,b] k2 pt2) pos) (liftS X rz (dPar i j ta)):=by
 rintro pins s σ H E I ⟨δ,M,D,rs,rm,t,n,r,b,c⟩
 exact (ps_par hc hN hi hj hij hx hy (ha D.ex) hw hs) pins s σ H E I <| ⟨δ,M,_,rs,rm,t,fun ds M' vs H' x m q ⟨v,w,e,h⟩=>by
  subst e
  obtain ⟨v',w',rfl,r1,r2⟩:=q.two
  exact ⟨v',w',rfl,n _ _ _ _ x (((rs.ext x).set r1 i).set r2 j) m h⟩⟩
theorem ds_while {c:Expr} {body:List Stmt} {tc:(DSt->DK)->DT} {tb:DS} (hp:PassesOwn (model X.prog X.w) X.A X.env X.xe) (hc:∀ Xe,PT X c (liftT (X.L rz Xe) (tc Xe))) (hb:PSs X body (liftS X rz tb)):PS X (.While c body [] pos) (liftS X rz (dWhile tc tb)) :=
 fun pins s σ H E I ⟨δ,M,D,rs,rm,⟨W,⟨m0,w0⟩,turn⟩,n,r,b,c⟩=>(ps_while hp (hc D.ex) hb) pins s σ H E I <| by
  refine ⟨fun m σ' H'=>∃ δ' M',HExt X.K H H'/\RepS (X.L rz D.ex) H' δ' σ'/\RepM X.K H' M'/\W m δ' M',⟨m0,δ,M,.refl H,rs,rm,w0⟩,?_⟩
  rintro m σ1 H1 ⟨δ1,M1,x1,rs1,rm1,w1⟩
  refine ⟨δ1,M1,_,rs1,rm1,turn m δ1 M1 w1,fun k M2 H2 x2 m2 h=>?_⟩
  cases k with
  | true =>
   obtain ⟨N,hN,h⟩:=h
   refine ⟨fun σ' H'=>∃ δ' M',HExt X.K H H'/\RepS (X.L rz D.ex) H' δ' σ'/\RepM X.K H' M'/\N δ' M',fun σ' H' ⟨δ',M',y1,y2,y3,y4⟩=>?_,?_⟩
   ·obtain ⟨m',l,w'⟩:=hN δ' M' y4
    exact ⟨m',l,δ',M',y1,y2,y3,w'⟩
   ·exact ⟨δ1,M2,{ D with nx:=N,ct:=N,bk:=D.nx },rs1.ext x2,m2,h,fun δ' M' σ' H' y1 y2 y3 y4=>⟨δ',M',(x1.trans x2).trans y1,y2,y3,y4⟩,fun a b c d y1=>r a b c d ((x1.trans x2).trans y1),fun δ' M' σ' H' y1 y2 y3 y4=>n _ _ _ _ ((x1.trans x2).trans y1) y2 y3 y4,fun δ' M' σ' H' y1 y2 y3 y4=>⟨δ',M',(x1.trans x2).trans y1,y2,y3,y4⟩⟩
  | false=>exact n _ _ _ _ (x1.trans x2) (rs1.ext x2) m2 h
end
noncomputable abbrev DI:=DSt->Mem->(List D->(Mem->Prop)->Mem->Prop)->Prop
noncomputable def ItD (K:PySem.W.Frag) (H0:Hp) (J:It) (items:List D) (keep:Mem->Prop):Prop:=∀ i H M,HExt K H0 H->RepM K H M->keep M ->
 (i < items.length->J.go i H)/\(items.length<=i->J.stop i H)/\∀ x H',J.yld i H x H'->HExt K H H'/\RepM K H' M/\∀ d,items[i]?=some d->RelD K H' x d
noncomputable def liftI (Λ:LK) (t:DI):TI:=fun σ H R=>∃ δ M Rd,RepS Λ H δ σ/\RepM Λ.K H M/\t δ M Rd/\∀ items keep M' J H',HExt Λ.K H H'->RepM Λ.K H' M'->keep M'->ItD Λ.K H' J items keep->Rd items keep M'->R J H'
noncomputable def forD (g:(DSt->DK)->DG) (tb:DS) (keep:Mem->Prop):List D->DS
 | []=>fun D δ M=>D.nx δ M
 | x :: xs=>fun D δ M=>g D.ex x δ M fun δ1 M1=>tb { D with nx:=fun δ2 M2=>keep M2/\forD g tb keep xs D δ2 M2,ct:=fun δ2 M2=>keep M2/\forD g tb keep xs D δ2 M2,bk:=D.nx } δ1 M1
noncomputable def dFor (ti:(DSt->DK)->DI) (g:(DSt->DK)->DG) (tb:DS):DS:=fun D δ M=>ti D.ex δ M fun items keep M1=>forD g tb keep items D δ M1
section
variable {X:Cx} {rz:Bool} {Xe:DSt->DK} {tg:Expr} {pos:Pos}
theorem ds_for {iter:Expr} {body:List Stmt} {ti:(DSt->DK)->DI} {g:(DSt->DK)->DG} {tb:DS} (hp:PassesOwn (model X.prog X.w) X.A X.env X.xe) (hc:X.calm=true) (hi:∀ Xe,PI X tg iter (liftI (X.L rz Xe) (ti Xe))) (hg:∀ Xe,PG X tg (liftG (X.L rz Xe) (g Xe))) (hb:PSs X body (liftS X rz tb))
  (hs:∀ x,foldedSetIterable iter X.env x=pure x):PS X (.For tg iter body [] pos) (liftS X rz (dFor ti g tb)) :=
 fun pins s σ H E I ⟨δ,M,D,rs,rm,t,n,r,b,c⟩=>(ps_for hp hc (hi D.ex) (hg D.ex) hb hs) pins s σ H E I <| by
  refine ⟨δ,M,_,rs,rm,t,fun items keep M1 J H1 x1 m1 k1 it h1=>?_⟩
  refine ⟨fun i m σ' H'=>m=items.length - i/\i<=items.length/\∃ δ' M',HExt X.K H1 H'/\RepS (X.L rz D.ex) H' δ' σ'/\RepM X.K H' M'/\keep M'/\forD g tb keep (items.drop i) D δ' M',⟨_,rfl,Nat.zero_le _,δ,M1,.refl H1,rs.ext x1,m1,k1,h1⟩,?_⟩
  rintro i m σ2 H2 ⟨rfl,hi,δ2,M2,x2,rs2,m2,k2,h2⟩
  obtain ⟨i1,i2,i3⟩:=it i H2 M2 x2 m2 k2
  by_cases hl:i < items.length
  ·refine .inr ⟨i1 hl,fun σ' H'=>∃ δ' M',HExt X.K H1 H'/\RepS (X.L rz D.ex) H' δ' σ'/\RepM X.K H' M'/\keep M'/\forD g tb keep (items.drop (i + 1)) D δ' M',fun σ' H' z=>⟨items.length - (i + 1),by omega,rfl,hl,z⟩,fun x H3 y=>?_⟩
   obtain ⟨x3,m3,r3⟩:=i3 x H3 y
   rw [List.drop_eq_getElem_cons hl] at h2
   refine ⟨items[i],δ2,M2,_,r3 _ (by simp [hl]),rs2.ext x3,m3,h2,fun δ4 M4 σ4 H4 x4 rs4 m4 h4=>?_⟩
   have xx:=(x2.trans x3).trans x4
   exact ⟨δ4,M4,{ D with nx:=fun δ2 M2=>keep M2/\forD g tb keep (items.drop (i + 1)) D δ2 M2,ct:=fun δ2 M2=>keep M2/\forD g tb keep (items.drop (i + 1)) D δ2 M2,bk:=D.nx },rs4,m4,h4,fun δ' M' σ' H' y1 y2 y3 y4=>⟨δ',M',xx.trans y1,y2,y3,y4.1,y4.2⟩,fun a b c d y1=>r a b c d ((x1.trans xx).trans y1),fun δ' M' σ' H' y1 y2 y3 y4=>n _ _ _ _ ((x1.trans xx).trans y1) y2 y3 y4,fun δ' M' σ' H' y1 y2 y3 y4=>⟨δ',M',xx.trans y1,y2,y3,y4.1,y4.2⟩⟩
  ·have e:i=items.length:=by omega
   subst e
   rw [List.drop_length] at h2
   exact .inl ⟨i2 (Nat.le_refl _),n _ _ _ _ (x1.trans x2) rs2 m2 h2⟩
noncomputable def itSeq (d:D) (M:Mem) (R:List D->(Mem->Prop)->Mem->Prop):Prop :=
 match d with
 | .lst a=>∃ xs,M a=some (.ls xs)/\R xs (fun M'=>M' a=some (.ls xs)) M
 | .fz xs=>R xs (fun _=>True) M
 | .tup xs=>R xs (fun _=>True) M
 | _=>False
noncomputable def diSeq (te:DE):DI:=fun δ M R=>te δ M fun d M1=>itSeq d M1 R
theorem itd_list {K:PySem.W.Frag} {H0:Hp} {a:Addr} {xs:List D}:ItD K H0 (Itl K a) xs (fun M'=>M' a=some (.ls xs)):=fun i H M x m k=>by
 obtain ⟨vs,e,r⟩:=m _ _ k
 refine ⟨fun hl=>⟨vs,vs[i]'(by rw [r.length]; exact hl),.of e,by simp [r.length,hl]⟩,fun hl=>⟨vs,.of e,by rw [r.length]; exact hl⟩,fun y H' hq2=>?_⟩
 obtain ⟨e1,e2⟩:=hq2
 subst e1
 refine ⟨.refl _,m,fun d hd=>?_⟩
 obtain ⟨v,h1,h2⟩:=r.get hd
 rw [e2 vs (.of e)] at h1; cases h1; exact h2
theorem itd_fz {K:PySem.W.Frag} {H0:Hp} {a:Addr} {vs:List V} {xs:List D} (ht:SqF K H0 a vs) (r:RelDs K H0 vs xs):ItD K H0 (Itl K a) xs (fun _=>True):=fun i H M x m k=>by
 have ht':=x.fz _ _ ht
 have r':=r.ext x
 refine ⟨fun hl=>⟨vs,vs[i]'(by rw [r.length]; exact hl),ht'.sq,by simp [r.length,hl]⟩,fun hl=>⟨vs,ht'.sq,by rw [r.length]; exact hl⟩,fun y H' hq2=>?_⟩
 obtain ⟨e1,e2⟩:=hq2
 subst e1
 refine ⟨.refl _,m,fun d hd=>?_⟩
 obtain ⟨v,h1,h2⟩:=r'.get hd
 rw [e2 vs ht'.sq] at h1; cases h1; exact h2
theorem itd_tup {K:PySem.W.Frag} {H0:Hp} {a:Addr} {vs:List V} {xs:List D} (ht:SqT K H0 a vs) (r:RelDs K H0 vs xs):ItD K H0 (Itt K a) xs (fun _=>True):=fun i H M x m k=>by
 have ht':=x.tup _ _ ht
 have r':=r.ext x
 refine ⟨fun hl=>⟨vs,vs[i]'(by rw [r.length]; exact hl),ht',by simp [r.length,hl]⟩,fun hl=>⟨vs,ht',by rw [r.length]; exact hl⟩,fun y H' hq2=>?_⟩
 obtain ⟨e1,e2⟩:=hq2
 subst e1
 refine ⟨.refl _,m,fun d hd=>?_⟩
 obtain ⟨v,h1,h2⟩:=r'.get hd
 rw [e2 vs ht'] at h1; cases h1; exact h2
theorem di_seq {l:Expr} {te:DE} (hl:PE X l (lift (X.L rz Xe) te)):PI X tg l (liftI (X.L rz Xe) (diSeq te)):=by
 rintro pins s σ H R I ⟨δ,M,Rd,rs,rm,t,q⟩
 refine thn (hl pins s σ H (fun x H1=>(∃ a xs,x=.ref a/\SqL X.K H1 a xs/\R (Itl X.K a) H1)\/(∃ a xs,x=.ref a/\SqT X.K H1 a xs/\R (Itt X.K a) H1)) I ⟨δ,M,_,rs,rm,t,fun d M1 v H1 x1 m1 r1 h1=>?_⟩) fun v s1 ⟨x,H1,I1,r1,q1⟩=>?_
 ·cases r1 with
  | lst a =>
   obtain ⟨xs,e0,h1⟩:=h1
   obtain ⟨vs,e,r⟩:=m1 _ _ e0
   exact .inl ⟨a,vs,rfl,.of e,q _ _ _ _ _ x1 m1 e0 itd_list h1⟩
  | fz ht r=>exact .inl ⟨_,_,rfl,ht.sq,q _ _ _ _ _ x1 m1 trivial (itd_fz ht r) h1⟩
  | tup ht r=>exact .inr ⟨_,_,rfl,ht,q _ _ _ _ _ x1 m1 trivial (itd_tup ht r) h1⟩
  | _=>exact (show False from h1).elim
 ·rcases q1 with ⟨a,xs,e,hq,q⟩ | ⟨a,xs,e,hq,q⟩
  ·subst e
   cases r1
   obtain ⟨its,rv,p,hz⟩:=I1.list hq
   refine wpAny_pyIter_list p.isList ?_
   refine ⟨s1.heap.objs.size,[s1.heap.objs.size],_,_,H1,rfl,I1.kept (t':=s1.toks) fun b o e=>Heap.get?_push_of_some _ e,turn_list a _,⟨_,Heap.get?_push_size _ rfl,rfl,rfl⟩,fun b hb=>?_,q⟩
   have e:b=s1.heap.objs.size:=by simpa using hb
   subst e
   exact I1.fpOk (Nat.le_refl _) (I1.hok.fresh (Nat.le_refl _))
  ·subst e
   cases r1
   obtain ⟨its,rv,p,hz⟩:=I1.tuple hq
   refine wpAny_pyIter_tuple (show s1.heap.IsTuple a its.toArray from p) ?_
   refine ⟨s1.heap.objs.size,[s1.heap.objs.size],_,_,H1,rfl,I1.kept (t':=s1.toks) fun b o e=>Heap.get?_push_of_some _ e,turn_tuple a _,⟨_,Heap.get?_push_size _ rfl,rfl,rfl⟩,fun b hb=>?_,q⟩
   have e:b=s1.heap.objs.size:=by simpa using hb
   subst e
   exact I1.fpOk (Nat.le_refl _) (I1.hok.fresh (Nat.le_refl _))
end
noncomputable def Itr3 (lo c:Int) (n:Nat):It:=⟨fun i _=>i < n,fun i H x H'=>H'=H/\x=.int (lo + i * c),fun i _=>n<=i⟩
theorem turn_range3 {P:Program} {w:World} {K:PySem.W.Frag} {tg:Expr} (it:Addr) (lo c:Int) (n:Nat):Turn P w K tg (Itr3 lo c n) [it] it (fun i h=>IsRangeIter h it (lo + (i:Nat) * c) ((n:Int) - (i:Nat)) c) where
 mem:=by simp
 obj:=fun i h st b hb=>by
  have e:b=it:=by simpa using hb
  subst e
  exact ⟨_,st,fun v z=>by
   have z':Data.fields _=Data.cell v:=z
   cases z'⟩
 keep:=fun i h h' st k=>k it (by simp) _ st
 item:=by
  intro X hP hw hK hc i pins s σ H E I hf st hg
  subst hP hw hK
  obtain ⟨f0,f1,f2,f3,f4,f5⟩:=hf it (by simp)
  have W:=Walks.range (prog:=X.prog) (w:=X.w) (I.ok.hd hc) it lo c n
  refine W.item i s _ _ hg st fun v h' tk hv st' kk=>?_
  obtain ⟨t,rfl⟩:=hv
  have I1:L2.Inv X pins σ H { s with heap:=h',toks:=tk }:=I.turned (fun b o hb e=>kk b o (by simpa using hb) e) f0 f1 f3 f4 f5
  exact ⟨_,rfl,go_of (s:={ s with heap:=h',toks:=tk }) (n:="range_iterator") st' rfl rfl (by decide) ⟨.int (lo + i * c),H,I1,⟨t,rfl⟩,⟨rfl,rfl⟩,st',fun b hb=>(hf b hb).1⟩⟩
 done:=by
  intro X hP hw hK hc i pins s σ H E I hf st hg
  subst hP hw hK
  obtain ⟨f0,f1,f2,f3,f4,f5⟩:=hf it (by simp)
  exact wpAny_pyNext_range_end (I.ok.hd hc) st (by have:n<=i:=hg; omega) fun h' eb=>⟨rfl,I.turned (t':=s.toks) (fun b o hb e=>eb b o hb e) f0 f1 f3 f4 f5⟩
 self:=fun _ _ _ _ _ st h=>wpAny_pyIter_rangeiter st h
noncomputable def rngD (lo c:Int) (n:Nat):List D:=(List.range n).map fun i=>.int (lo + (i:Nat) * c)
noncomputable def rngN (i j c:Int):Nat:=(Builtin.Range.rangeSize i j c).toNat
noncomputable def itRng:List D->Mem->(List D->(Mem->Prop)->Mem->Prop)->Prop
 | [.int j],M,R=>(-(2 ^ 62)<=j/\j < 2 ^ 62)/\R (rngD 0 1 j.toNat) (fun _=>True) M
 | [.int i,.int j],M,R=>(-(2 ^ 62)<=i/\i < 2 ^ 62/\-(2 ^ 62)<=j/\j < 2 ^ 62)/\R (rngD i 1 (j - i).toNat) (fun _=>True) M
 | [.int i,.int j,.int c],M,R=>DivOk c/\Builtin.Range.small i j c=true/\0<=Builtin.Range.rangeSize i j c/\R (rngD i c (rngN i j c)) (fun _=>True) M
 | _,_,_=>False
noncomputable def diRng (ta:DA):DI:=fun δ M R=>ta δ M fun ds M1=>itRng ds M1 R
theorem itd_rng3 {K:PySem.W.Frag} {H0:Hp} {lo c:Int} {n:Nat}:ItD K H0 (Itr3 lo c n) (rngD lo c n) (fun _=>True):=fun i H M x m k=>by
 have hl:(rngD lo c n).length=n:=by simp [rngD]
 rw [hl]
 refine ⟨fun h=>h,fun h=>h,fun y H' hq2=>?_⟩
 obtain ⟨e1,e2⟩:=hq2
 subst e1 e2
 refine ⟨.refl _,m,fun d hd=>?_⟩
 unfold rngD at hd
 rw [List.getElem?_map] at hd
 cases q:(List.range n)[i]? with
 | none=>rw [q] at hd; cases hd
 | some j =>
  rw [q] at hd
  have hj:j=i:=by
   obtain ⟨h1,h2⟩:=List.getElem?_eq_some_iff.mp q
   simpa using h2.symm
  subst hj
  cases hd
  exact .int _
theorem itd_rng {K:PySem.W.Frag} {H0:Hp} {lo:Int} {n:Nat}:ItD K H0 (Itr lo n) (rngD lo 1 n) (fun _=>True):=fun i H M x m k=>by
 obtain ⟨a,b,c⟩:=itd_rng3 (K:=K) (H0:=H0) (lo:=lo) (c:=1) (n:=n) i H M x m k
 refine ⟨a,b,fun y H' ⟨e1,e2⟩=>c y H' ⟨e1,?_⟩⟩
 rw [Int.mul_one]; exact e2
theorem rels_ints {K:PySem.W.Frag} {H:Hp} {vs:List V}:∀ {ns:List Int},RelDs K H vs (ns.map D.int)->vs=ns.map V.int
 | [],r=>by cases r; rfl
 | _ :: _,r=>by cases r with | cons h q=>cases h; exact congrArg _ (rels_ints q)
section
variable {X:Cx} {rz:Bool} {Xe:DSt->DK} {tg:Expr} {pos:Pos}
theorem range_it3 {pins:List (Addr×Obj)} {σ:L2.St} {H:Hp} {s:Shared} {R:It->Hp->Prop} {E:Value->Shared->Prop} {lo hi c:Int} {t u v:Tok} {tk:Nat} (I:L2.Inv X pins σ H s) (hs:Builtin.Range.small lo hi c=true) (hn:0<=Builtin.Range.rangeSize lo hi c)
  (q:R (Itr3 lo c (rngN lo hi c)) H):wpAny (model X.prog X.w) X.A (pyIter (.ref s.heap.objs.size)) (PIE X pins σ tg R) E { s with heap:=s.heap.push { cls:=.type "range",data:=.fields #[.int lo t,.int hi u,.int c v] },toks:=tk }:=by
 refine wpAny_pyIter_range (IsRange.new ..) hs ?_
 have I1:L2.Inv X pins σ H { s with heap:=s.heap.push { cls:=.type "range",data:=.fields #[.int lo t,.int hi u,.int c v] },toks:=tk }:=I.kept fun b o e=>Heap.get?_push_of_some _ e
 refine ⟨(s.heap.push { cls:=.type "range",data:=.fields #[.int lo t,.int hi u,.int c v] }).objs.size,[(s.heap.push { cls:=.type "range",data:=.fields #[.int lo t,.int hi u,.int c v] }).objs.size],_,_,H,rfl,
  I1.kept (t':=tk) fun b o e=>Heap.get?_push_of_some _ e,turn_range3 _ lo c (rngN lo hi c),?_,fun b hb=>?_,q⟩
 ·have e1:lo + ((0:Nat):Int) * c=lo:=by simp
  have e2:((rngN lo hi c:Nat):Int) - ((0:Nat):Int)=Builtin.Range.rangeSize lo hi c:=by unfold rngN; omega
  show IsRangeIter _ _ (lo + ((0:Nat):Int) * c) (((rngN lo hi c:Nat):Int) - ((0:Nat):Int)) c
  rw [e1,e2]
  exact Heap.get?_push_size _ rfl
 ·have e:b=(s.heap.push { cls:=.type "range",data:=.fields #[.int lo t,.int hi u,.int c v] }).objs.size:=by simpa using hb
  subst e
  exact I1.fpOk (Nat.le_refl _) (I1.hok.fresh (Nat.le_refl _))
theorem di_rng {a:Expr} {es:List Expr} {ta:DA} {p:Pos} (hg:Gl X "range") (hm:X.mg "range"=none) (ha:PA X (a :: es) (liftA (X.L rz Xe) ta)) (hs:starEach (a :: es) X.env=(false,eval a X.env) :: starEach es X.env) (hpl:(backTo pos (starEach es X.env)).any (·.1)=false) :
  PI X tg (.Call (.Name "range" p) (a :: es) [] pos) (liftI (X.L rz Xe) (diRng ta)):=by
 rintro pins s σ H R I ⟨δ,M,Rd,rs,rm,t,q⟩
 refine Call_ (ld_blt I hg hm boot_range (PyProof.Rows.callWith_type1 (thn (ha pos pins s σ H (fun vs H1=>(∃ j:Int,vs=[.int j]/\-(2 ^ 62)<=j/\j < 2 ^ 62/\R (Itr 0 j.toNat) H1)\/(∃ i j:Int,vs=[.int i,.int j]/\(-(2 ^ 62)<=i/\i < 2 ^ 62/\-(2 ^ 62)<=j/\j < 2 ^ 62)/\R (Itr i (j - i).toNat) H1) \/
  (∃ i j c:Int,vs=[.int i,.int j,.int c]/\(DivOk c/\Builtin.Range.small i j c=true/\0<=Builtin.Range.rangeSize i j c)/\R (Itr3 i c (rngN i j c)) H1)) I ⟨δ,M,_,rs,rm,t,fun ds M1 vs H1 x1 m1 r1 h1=>?_⟩) fun us s1 ⟨vs,H1,I1,r1,q1⟩=>?_) hs hpl))
 ·unfold itRng at h1
  split at h1
  ·rename_i j; cases rels_ints (ns:=[j]) r1; exact .inl ⟨_,rfl,h1.1.1,h1.1.2,q _ _ _ _ _ x1 m1 trivial itd_rng h1.2⟩
  ·rename_i i j; cases rels_ints (ns:=[i,j]) r1; exact .inr (.inl ⟨_,_,rfl,h1.1,q _ _ _ _ _ x1 m1 trivial itd_rng h1.2⟩)
  ·rename_i i j c; cases rels_ints (ns:=[i,j,c]) r1; exact .inr (.inr ⟨_,_,_,rfl,⟨h1.1,h1.2.1,h1.2.2.1⟩,q _ _ _ _ _ x1 m1 trivial itd_rng3 h1.2.2.2⟩)
  ·exact h1.elim
 ·rcases q1 with ⟨j,e,q1,q2,q⟩ | ⟨i,j,e,⟨q1,q2,q3,q4⟩,q⟩ | ⟨i,j,c,e,⟨q1,q2,q3⟩,q⟩
  ·subst e
   cases r1 with
   | cons r rr =>
    cases rr
    obtain ⟨t,rfl⟩:=r
    exact call_range_1 (range_it I1 (by omega) (by omega) q1 q2 (by simpa using q))
  ·subst e
   cases r1 with
   | cons r rr =>
    cases rr with
    | cons r' rr =>
     cases rr
     obtain ⟨t,rfl⟩:=r
     obtain ⟨t',rfl⟩:=r'
     exact call_range_2 (range_it I1 q1 q2 q3 q4 q)
  ·subst e
   cases r1 with
   | cons r rr =>
    cases rr with
    | cons r' rr =>
     cases rr with
     | cons r'' rr =>
      cases rr
      obtain ⟨t,rfl⟩:=r
      obtain ⟨t',rfl⟩:=r'
      obtain ⟨t'',rfl⟩:=r''
      exact call_range_3 q1.1 (range_it3 I1 q2 q3 q) (.inl (PyProof.noPylong_of_log2 q1.2))
end
section
variable {prog:Program} {w:World} {A:Around} {E:Value->Shared->Prop}
end
section
variable {X:Cx} {rz:Bool} {Xe:DSt->DK} {es:List Expr} {gs:DGs} {pos:Pos}
end
end DL
end
noncomputable section
namespace DL
open PySem PySem.Spec PyProof.Rows L2
noncomputable def clos (cells:List (Str×Addr)):List (Str×NameKind)->List (Str×Addr)->List (Str×Addr)
 | [],cs=>cs
 | (n,k) :: r,cs=>if (k == .free)=true then clos cells r ((n,(cells.lookup n).getD 0) :: cs) else clos cells r cs
theorem closureFor_some {scope:Scope} {env:Env} (h:∀ x∈scope.names,x.2=.free->∃ c,env.cells.lookup x.1=some c):closureFor scope env=pure (clos env.cells scope.names []):=by
 simp only [closureFor]
 generalize ([]:List (Str×Addr))=cs
 generalize scope.names=names at h
 have key:∀ (names:List (Str×NameKind)) (cs:List (Str×Addr)),(∀ x∈names,x.2=.free->∃ c,env.cells.lookup x.1=some c) ->
   (forIn names cs fun x r=>(if (x.2 == NameKind.free)=true then do let a <- cellOf env x.1; pure (ForInStep.yield ((x.1,a) :: r)) else pure (ForInStep.yield r)):Sem (List (Str×Addr)))=pure (clos env.cells names cs):=by
  intro names
  induction names with
  | nil=>intro cs _; rfl
  | cons x l ih =>
   intro cs h
   obtain ⟨n,k⟩:=x
   rw [List.forIn_cons]
   by_cases hk:(k == NameKind.free)=true
   ·obtain ⟨c,hc⟩:=h (n,k) List.mem_cons_self (by simpa using hk)
    have hcell:cellOf env n=pure c:=by unfold cellOf; rw [hc]
    rw [if_pos hk,hcell]
    simp only [pure_bind]
    rw [ih _ fun y hy=>h y (List.mem_cons_of_mem _ hy)]
    have:clos env.cells ((n,k) :: l) cs=clos env.cells l ((n,c) :: cs):=by
     conv=>lhs; unfold clos
     rw [if_pos hk,hc]; rfl
    rw [this]
   ·rw [if_neg hk]
    simp only [pure_bind]
    rw [ih _ fun y hy=>h y (List.mem_cons_of_mem _ hy)]
    conv=>rhs; unfold clos
    rw [if_neg hk]
 have:=key names cs h
 first
  | exact (by simpa using this)
  | (rw [<- this]; rfl)
theorem clos_sub {cells:List (Str×Addr)}:∀ {names:List (Str×NameKind)} {cs:List (Str×Addr)},(∀ x∈names,x.2=.free->∃ c,cells.lookup x.1=some c)->(∀ x c,cs.lookup x=some c->cells.lookup x=some c) ->
  ∀ x c,(clos cells names cs).lookup x=some c->cells.lookup x=some c
 | [],_,_,h,x,c,e=>h x c e
 | (n,k) :: r,cs,hn,h,x,c,e=>by
  unfold clos at e
  by_cases hk:(k == NameKind.free)=true
  ·rw [if_pos hk] at e
   obtain ⟨c0,hc0⟩:=hn (n,k) List.mem_cons_self (by simpa using hk)
   refine clos_sub (fun y hy=>hn y (List.mem_cons_of_mem _ hy)) (fun y d q=>?_) x c e
   rw [List.lookup_cons] at q
   cases hy:y == n with
   | true=>rw [hy] at q; rw [eq_of_beq hy,hc0]; rw [hc0] at q; exact q
   | false=>rw [hy] at q; exact h y d q
  ·rw [if_neg hk] at e
   exact clos_sub (fun y hy=>hn y (List.mem_cons_of_mem _ hy)) h x c e
theorem clos_has {cells:List (Str×Addr)}:∀ {names:List (Str×NameKind)} {cs:List (Str×Addr)} {x:Str},((∃ c,cs.lookup x=some c)\/(x,NameKind.free)∈names)->∃ c,(clos cells names cs).lookup x=some c
 | [],_,_,h=>by
  rcases h with h | h
  ·exact h
  ·cases h
 | (n,k) :: r,cs,x,h=>by
  unfold clos
  by_cases hk:(k == NameKind.free)=true
  ·rw [if_pos hk]
   refine clos_has ?_
   cases hx:x == n with
   | true=>exact .inl ⟨_,by rw [List.lookup_cons,hx]⟩
   | false =>
    rcases h with ⟨c,h⟩ | h
    ·exact .inl ⟨c,by rw [List.lookup_cons,hx]; exact h⟩
    ·rcases List.mem_cons.mp h with h | h
     ·cases h; simp at hx
     ·exact .inr h
  ·rw [if_neg hk]
   refine clos_has ?_
   rcases h with h | h
   ·exact .inl h
   ·rcases List.mem_cons.mp h with h | h
    ·cases h; simp at hk
    ·exact .inr h
theorem lookup_relabel {env:Env}:∀ {names:List (Str×NameKind)} {x:Str} {k:NameKind},
  (names.map fun (n,k)=>if (k == NameKind.free && env.scope.kind == .function && env.kindOf n == some .cell) then (n,NameKind.cell) else (n,k)).lookup x=some k ->
  ∃ k',names.lookup x=some k'/\(k=k'\/(k'=.free/\k=.cell))
 | [],_,_,h=>by simp at h
 | (n,k0) :: r,x,k,h=>by
  have ih:=@lookup_relabel env r x k
  simp only [List.map_cons] at h
  by_cases hc:(k0 == NameKind.free && env.scope.kind == .function && env.kindOf n == some .cell)=true
  ·rw [if_pos hc] at h
   rw [List.lookup_cons] at h ⊢
   cases hx:x == n with
   | true =>
    simp only [hx] at h; cases h
    simp only [Bool.and_eq_true,beq_iff_eq] at hc
    exact ⟨k0,rfl,.inr ⟨hc.1.1,rfl⟩⟩
   | false=>simp only [hx] at h; exact ih h
  ·rw [if_neg hc] at h
   rw [List.lookup_cons] at h ⊢
   cases hx:x == n with
   | true=>simp only [hx] at h; cases h; exact ⟨k0,rfl,.inl rfl⟩
   | false=>simp only [hx] at h; exact ih h
structure BlkOk (N:List Str) (env:Env) (N':List Str) (scope:Scope):Prop where
 kind:scope.kind=.function
 cell:∀ y∈scope.names,y.2≠.cell
 names:∀ y∈scope.names,y.2=.local->scope.names.lookup y.1=some .local
 free:∀ y∈scope.names,y.2=.free->env.kindOf y.1=some .cell\/env.kindOf y.1=some .free
 agree:∀ i x,i < N.length->N'[i]?=some x->∀ k,scope.names.lookup x=some k->k=.globalImplicit\/k=.globalExplicit\/(k=.free/\N[i]?=some x)
 long:N.length<=N'.length
noncomputable def blkCx (X:Cx) (N':List Str) (scope:Scope) (cl:List (Str×Addr)) (C:Addr) (s:Shared) (H:Hp) (ex:List Addr) (pn:List (Addr×Obj)):Cx :=
 { X with N:=N',s₀:=s,H₀:=H,env:=compEnvC scope cl C X.env,outer:=X.stack,stack:=X.stack,ex:=ex,fn:=fun _=>false,pn:=pn,xe:=fun _ _=>False }
section
variable {X:Cx} {rz:Bool} {Xe:DSt->DK} {pins:List (Addr×Obj)} {σ:L2.St} {H:Hp} {s:Shared} {N':List Str} {scope:Scope} {fp:List Addr}
theorem blk_start {tk:Nat} {h1:Heap} (I:L2.Inv X pins σ H s) (B:BlkOk X.N X.env N' scope) (hf:∀ b∈fp,FpOk X pins H b) (hflt:∀ b∈fp,b < s.heap.objs.size)
  (hns:h1.Ns s.heap.objs.size (fun x=>([]:List (Str×Value)).reverse.lookup x)) (hk:∀ b o,s.heap.get? b=some o->h1.get? b=some o) :
  L2.Inv (blkCx X N' scope (clos X.env.cells scope.names []) s.heap.objs.size s H fp []) [] (σ++List.replicate (N'.length - X.N.length) none) H { s with heap:=h1,toks:=tk }:=by
 have hcells:∀ x∈scope.names,x.2=.free->∃ c,X.env.cells.lookup x.1=some c:=fun x hx e=>I.ok.has x.1 (B.free x hx e)
 have csub:=clos_sub (cells:=X.env.cells) (names:=scope.names) (cs:=[]) hcells (fun x c e=>by simp at e)
 have noC:∀ x c,X.env.cells.lookup x=some c->c < s.heap.objs.size:=fun x c e=>by obtain ⟨v,q⟩:=I.cell x c e; exact q.lt
 refine ⟨⟨I.ok.mod,?_,I.ok.glob,I.ok.blt,Nat.le_refl _,fun x y c e1 e2=>I.ok.inj x y c (csub x c e1) (csub y c e2),fun x hx=>?_,fun x c e=>(by cases e),I.ok.hd,I.ok.frames,.inl rfl,fun b hb=>⟨Nat.ne_of_lt (hflt b hb),fun x c e=>(hf b hb).2.2.2.2.1 x c (csub x c e)⟩,
  I.bs,Nat.le_trans I.ok.bsz I.sz,fun b o e hb=>?_,fun b hb z=>?_,I.stack,I.stkFree⟩,rfl,I.bare,Un.kept hk,⟨_,hns,fun i x v e1 e2 e3=>?_⟩,fun x c e=>?_,I.hok.fresh (Nat.le_refl _),fun x c e=>I.freeC x c (csub x c e),fun p hp=>absurd (show p∈([]:List (Addr×Obj)) from hp) (by simp),I.hok.kept hk,?_⟩
 ·show (relabel scope X.env).kind=.function
  exact B.kind
 ·
  have hx':(relabel scope X.env).names.lookup x=some .cell\/(relabel scope X.env).names.lookup x=some .free:=hx
  have fin:(x,NameKind.free)∈scope.names->∃ c,(clos X.env.cells scope.names []).lookup x=some c:=fun z=>clos_has (.inr z)
  rcases hx' with z | z
  ·obtain ⟨k',e1,e2⟩:=lookup_relabel z
   have hm:=PySem.mem_of_lookup e1
   rcases e2 with e2 | ⟨e2,_⟩
   ·subst e2; exact absurd rfl (B.cell _ hm)
   ·subst e2; exact fin hm
  ·obtain ⟨k',e1,e2⟩:=lookup_relabel z
   have hm:=PySem.mem_of_lookup e1
   rcases e2 with e2 | ⟨_,e2⟩
   ·subst e2; exact fin hm
   ·cases e2
 ·
  obtain ⟨_,_,_,z,_⟩:=hf b hb
  rcases z with z | z
  ·exact I.ok.noex b o e z
  ·exact absurd (Nat.lt_of_lt_of_le (Heap.lt_size e) I.ok.bsz) (Nat.not_lt.mpr z)
 ·obtain ⟨_,z1,z2,_⟩:=hf b hb
  rcases List.mem_cons.mp (I.stkSub b z) with q | q
  ·exact z1 q
  ·exact z2 q
 ·
  have e3':(relabel scope X.env).names.lookup x=some .local\/(relabel scope X.env).names.lookup x=some .cell\/(relabel scope X.env).names.lookup x=some .free:=e3
  have hi:i < σ.length:=by
   by_cases hi:i < σ.length
   ·exact hi
   ·rw [List.getElem?_append_right (by omega),List.getElem?_replicate] at e2
    split at e2<;>cases e2
  rw [List.getElem?_append_left hi] at e2
  have hiN:i < X.N.length:=by rw [<- I.len]; exact hi
  obtain ⟨k',q1,q2⟩:∃ k',scope.names.lookup x=some k'/\(k'=.local\/k'=.cell\/k'=.free):=by
   rcases e3' with z | z | z
   all_goals
    obtain ⟨k',e1,e2⟩:=lookup_relabel z
    rcases e2 with e2 | ⟨e2,e4⟩
    ·exact ⟨k',e1,by rw [<- e2]; simp⟩
    ·exact ⟨k',e1,by rw [e2]; simp⟩
  obtain ⟨hfree,hN⟩:k'=.free/\X.N[i]?=some x:=by
   rcases B.agree i x hiN e1 k' q1 with z | z | z
   ·subst z; simp at q2
   ·subst z; simp at q2
   ·exact z
  subst hfree
  have hout:=B.free (x,.free) (PySem.mem_of_lookup q1) rfl
  obtain ⟨m,hn,hl⟩:=I.loc
  have vis:Vis X.env.scope x:=by rcases hout with z | z; exact .inr (.inl z); exact .inr (.inr z)
  obtain ⟨u,r,l⟩:=hl i x v hN e2 vis
  refine ⟨u,r,?_⟩
  rcases l with ⟨hkk,_⟩ | ⟨_,c,hc,hcell⟩
  ·exfalso
   rcases hout with z | z
   ·rw [show X.env.kindOf x=some .cell from z] at hkk; cases hkk
   ·rw [show X.env.kindOf x=some .free from z] at hkk; cases hkk
  ·obtain ⟨c',hc'⟩:=clos_has (cells:=X.env.cells) (names:=scope.names) (cs:=[]) (.inr (PySem.mem_of_lookup q1))
   have:=csub x c' hc'
   rw [hc] at this; cases this
   refine .inr ⟨?_,c,hc',(let ⟨o,e1,e2⟩:=hcell; ⟨o,hk _ o e1,e2⟩)⟩
   rcases e3' with z | z | z
   ·obtain ⟨k',e1,e2⟩:=lookup_relabel z
    rw [q1] at e1; cases e1
    rcases e2 with e2 | ⟨_,e2⟩<;>cases e2
   ·exact .inl z
   ·exact .inr z
 ·obtain ⟨v,q⟩:=I.cell x c (csub x c e)
  exact ⟨v,let ⟨o,e1,e2⟩:=q; ⟨o,hk _ o e1,e2⟩⟩
 ·show (σ++List.replicate (N'.length - X.N.length) none).length=N'.length
  rw [List.length_append,List.length_replicate,I.len]
  have:=B.long
  omega
noncomputable def compD (g:DG) (te:DE) (keep:Mem->Prop) (p:Addr):List D->List D->DSt->Mem->(Mem->Prop)->Prop
 | [],_,_,M,Q=>Q M
 | x :: xs,acc,δ,M,Q=>g x δ M fun δ1 M1=>te δ1 M1 fun d M2=>M2 p=some (.ls acc)/\acc.length < sizeLine/\keep (M2.upd p (.ls (acc++[d])))/\compD g te keep p xs (acc++[d]) δ1 (M2.upd p (.ls (acc++[d]))) Q
noncomputable def dComp (n:Nat) (ti:DI) (g:DG) (te:DE):DE:=fun δ M Q=>ti δ M fun items keep M1=>∀ p,M1 p=none ->
 keep (M1.upd p (.ls []))/\compD g te keep p items [] (δ++List.replicate n none) (M1.upd p (.ls [])) fun M2=>(∃ ds,M2 p=some (.ls ds))/\Q (.lst p) M2
theorem Slots.more {K:PySem.W.Frag} {H:Hp} {δ:DSt} {σ:L2.St} (r:Slots K H δ σ) (n:Nat):Slots K H (δ++List.replicate n none) (σ++List.replicate n none):=by
 refine ⟨by simp [r.len],fun i d e=>?_⟩
 by_cases hi:i < δ.length
 ·rw [List.getElem?_append_left hi] at e
  obtain ⟨v,h1,h2⟩:=r.slot i d e
  exact ⟨v,by rw [List.getElem?_append_left (by rw [<- r.len]; exact hi)]; exact h1,h2⟩
 ·rw [List.getElem?_append_right (by omega),List.getElem?_replicate] at e
  split at e<;>cases e
end
end DL
end
noncomputable section
namespace DL
open PySem PySem.Spec PyProof.Rows L2
noncomputable abbrev DB:=DSt->Mem->(DSt->Mem->Prop)->Prop
noncomputable abbrev BW:=Program->World->Around->(Shared->Prop)->Shared->Prop
noncomputable def liftB (Λ:LK) (b:DB) (σ:L2.St) (H:Hp) (Q:L2.St->Hp->Prop):Prop:=∃ δ M R,RepS Λ H δ σ/\RepM Λ.K H M/\b δ M R/\∀ δ' M' σ' H',HExt Λ.K H H'->RepS Λ H' δ' σ'->RepM Λ.K H' M'->R δ' M'->Q σ' H'
noncomputable def PB (Y:Cx) (W:BW) (b:DB):Prop:=∀ (pins:List (Addr×Obj)) (s:Shared) (σ:L2.St) (H:Hp) (Q:L2.St->Hp->Prop),L2.Inv Y pins σ H s->liftB (Y.L false X0) b σ H Q ->
 W Y.prog Y.w Y.A (fun s'=>∃ σ' H',L2.Inv Y pins σ' H' s'/\Q σ' H') s
noncomputable def loopD (g:DG) (b:DB) (keep:Mem->Prop):List D->DB
 | []=>fun δ M Q=>Q δ M
 | x :: xs=>fun δ M Q=>g x δ M fun δ1 M1=>b δ1 M1 fun δ2 M2=>keep M2/\loopD g b keep xs δ2 M2 Q
noncomputable def bEmit (te:DE) (p:Addr):DB:=fun δ M Q=>te δ M fun d M2=>∃ acc,M2 p=some (.ls acc)/\acc.length < sizeLine/\Q δ (M2.upd p (.ls (acc++[d])))
noncomputable def dCompB (n:Nat) (ti:DI) (g:DG) (b:Addr->DB):DE:=fun δ M Q=>ti δ M fun items keep M1=>∀ p,M1 p=none ->
 keep (M1.upd p (.ls []))/\loopD g (b p) keep items (δ++List.replicate n none) (M1.upd p (.ls [])) fun _ M2=>(∃ ds,M2 p=some (.ls ds))/\Q (.lst p) M2
noncomputable def emitW (elt:Expr) (acc:Value) (env:Env):BW:=fun prog w A Q s=>wpAny (model prog w) A (eval elt env) (fun x s1=>wpAny (model prog w) A (call (.builtin "list.append") [acc,x]) (fun _ s2=>Q s2) (fun _ _=>False) s1) (fun _ _=>False) s
noncomputable def TurnOf (e target:Expr) (d:Nat) (it acc:Value) (env:Env) (body:BW):Prop:=∀ {prog:Program} {w:World} {A:Around} {R:Fin->Shared->Prop} {s:Shared},
 wpAny (model prog w) A (pyNext it) (fun r s₁=>match r with
   | none=>R (.done .next) s₁
   | some v=>wpAny (model prog w) A (letOwnedTupleGo target it v) (fun _ s₂=>wpAny (model prog w) A (assign target env v) (fun _ s₃=>body prog w A (fun s₄=>R (.again (.compLoop e d it acc env)) s₄) s₃) (fun _ _=>False) s₂) (fun _ _=>False) s₁) (fun _ _=>False) s ->
 wpAny (model prog w) A (compTurn e d it acc env) R (fun _ _=>False) s
theorem loop_own {prog:Program} {w:World} {A:Around} {R:Result->Shared->Prop} {s:Shared} {elt target:Expr} {gs:List Comprehension} {scope:Scope} {pos:Pos} {d:Nat} {it acc:Value} {env:Env} {body:BW}
  (ht:TurnOf (.ListComp elt gs scope pos) target d it acc env body) (I:Nat->Shared->Prop)
  (turn:∀ n s,I n s->wpAny (model prog w) A (pyNext it) (fun r s₁=>match r with
   | none=>R (.ok .next) s₁
   | some v=>wpAny (model prog w) A (letOwnedTupleGo target it v) (fun _ s₂=>wpAny (model prog w) A (assign target env v) (fun _ s₃=>body prog w A (fun s₄=>∃ m,m < n/\I m s₄) s₃) (fun _ _=>False) s₂) (fun _ _=>False) s₁) (fun _ _=>False) s)
  (mono:∀ (A:Around) (Q Q':Shared->Prop) s,(∀ s',Q s'->Q' s')->body prog w A Q s->body prog w A Q' s)
  (n:Nat) (h:I n s):codeAny (model prog w) A (.compLoop (.ListComp elt gs scope pos) d it acc env) R s:=by
 refine codeAny_loop rfl I (fun n s hI=>?_) n h
 show wpAny _ _ ((compTurn (.ListComp elt gs scope pos) d it acc env).onRaise (fun x=>do noteFrame x env; theTreesLotGoes x)) _ _ s
 refine wpAny_noted (wpAny_mono (ht (R:=fun fin s'=>match fin with | .done f=>R (.ok f) s' | .again c'=>c'=.compLoop (.ListComp elt gs scope pos) d it acc env/\∃ m,m < n/\I m s') (wpAny_mono (turn n s hI) (fun r s₁ h₁=>?_) fun _ _ h'=>h'.elim)) (fun _ _ q=>q) fun _ _ h'=>h'.elim)
 cases r with
 | none=>exact h₁
 | some v=>exact wpAny_mono h₁ (fun _ s₂ h₂=>wpAny_mono h₂ (fun _ s₃ h₃=>mono _ _ _ _ (fun s' q=>⟨rfl,q⟩) h₃) fun _ _ h'=>h'.elim) fun _ _ h'=>h'.elim
theorem emitW_mono {elt:Expr} {acc:Value} {env:Env} {prog:Program} {w:World} (A:Around) (Q Q':Shared->Prop) (s) (hq:∀ s',Q s'->Q' s') (h:emitW elt acc env prog w A Q s):emitW elt acc env prog w A Q' s :=
 wpAny_mono h (fun _ _ h1=>wpAny_mono h1 (fun _ _ h2=>hq _ h2) fun _ _ h'=>h') fun _ _ h'=>h'
theorem turn_one {elt target iter:Expr} {scope:Scope} {pos:Pos} {it acc:Value} {env:Env}:TurnOf (.ListComp elt [⟨target,iter,[],0⟩] scope pos) target 0 it acc env (emitW elt acc env):=by
 intro prog w A R s h
 rw [compTurn_list1]
 refine wpAny_bind (wpAny_standAt (wpAny_bind (wpAny_mono h (fun r s₁ h₁=>?_) fun _ _ h'=>h'.elim)))
 cases r with
 | none=>exact wpAny_pure h₁
 | some v =>
  refine wpAny_bind (wpAny_mono h₁ (fun _ s₂ h₂=>?_) fun _ _ h'=>h'.elim)
  exact wpAny_bind (wpAny_mono h₂ (fun _ s₃ h₃=>wpAny_bind (wpAny_bind (wpAny_mono h₃ (fun x s₅ h₅=>wpAny_bind (wpAny_mono h₅ (fun _ s₆ h₆=>wpAny_pure (wpAny_pure h₆)) fun _ _ h'=>h'.elim)) fun _ _ h'=>h'.elim))) fun _ _ h'=>h'.elim)
noncomputable def gUp (g:DG):DG:=fun x δ M Q=>∃ R,g x δ M R/\∀ δ1 M1,R δ1 M1->Q δ1 M1
noncomputable def iUp (ti:DI):DI:=fun δ M R=>∃ R0,ti δ M R0/\∀ items keep M1,R0 items keep M1->R items keep M1
noncomputable def eUp (te:DE):DE:=fun δ M Q=>∃ R,te δ M R/\∀ d M1,R d M1->Q d M1
theorem comp_loop {g:DG} {te:DE} {keep:Mem->Prop} {p:Addr} {Q:Mem->Prop}:∀ {items acc:List D} {δ:DSt} {M:Mem},compD g te keep p items acc δ M Q->loopD (gUp g) (bEmit (eUp te) p) keep items δ M fun _ M2=>Q M2
 | [],_,_,_,h=>h
 | x :: xs,acc,δ,M,h=>⟨_,h,fun δ1 M1 h1=>⟨_,h1,fun d M2 h2=>⟨acc,h2.1,h2.2.1,h2.2.2.1,comp_loop h2.2.2.2⟩⟩⟩
theorem dComp_up {n:Nat} {ti:DI} {g:DG} {te:DE} {δ:DSt} {M:Mem} {Q:DK} (h:dComp n ti g te δ M Q):dCompB n (iUp ti) (gUp g) (bEmit (eUp te)) δ M Q :=
 ⟨_,h,fun items keep M1 h1 p hp=>⟨(h1 p hp).1,comp_loop (h1 p hp).2⟩⟩
theorem loop_gen {Y:Cx} {pins:List (Addr×Obj)} {s:Shared} {σ:L2.St} {H:Hp} {elt target:Expr} {gs:List Comprehension} {scope:Scope} {pos:Pos} {d:Nat} {acc:Value} {W:BW} {g:DG} {b:DB} {items:List D} {keep:Mem->Prop} {J:It} {fp:List Addr} {it:Addr} {tn:Nat->Heap->Prop}
  {δ:DSt} {M:Mem} {R:DSt->Mem->Prop} {Rr:Result->Shared->Prop} {H0:Hp} (hc:Y.calm=true) (hx:Y.xe=fun _ _=>False)
  (ht:TurnOf (.ListComp elt gs scope pos) target d (.ref it) acc Y.env W) (mono:∀ (A:Around) (Q Q':Shared->Prop) s,(∀ s',Q s'->Q' s')->W Y.prog Y.w A Q s->W Y.prog Y.w A Q' s)
  (T:Turn Y.prog Y.w Y.K target J fp it tn) (itd:ItD Y.K H0 J items keep) (hg:PG Y target (liftG (Y.L false X0) g)) (hb:PB Y W b)
  (I:L2.Inv Y pins σ H s) (hf:∀ b∈fp,FpOk Y pins H b) (st:tn 0 s.heap) (x0:HExt Y.K H0 H) (rs:Slots Y.K H δ σ) (rm:RepM Y.K H M) (k:keep M) (h:loopD g b keep items δ M R)
  (fin:∀ s' σ' H' δ' M',L2.Inv Y pins σ' H' s'->HExt Y.K H H'->Slots Y.K H' δ' σ'->RepM Y.K H' M'->R δ' M'->Rr (.ok .next) s') :
  codeAny (model Y.prog Y.w) Y.A (.compLoop (.ListComp elt gs scope pos) d (.ref it) acc Y.env) Rr s:=by
 have stat:∀ {H':Hp},(∀ b∈fp,H' b=none)->∀ b∈fp,FpOk Y pins H' b:=fun hn b hb=>⟨hn b hb,(hf b hb).2⟩
 refine loop_own ht (fun n s'=>∃ i σ' H' δ' M',L2.Inv Y pins σ' H' s'/\tn i s'.heap/\(∀ b∈fp,H' b=none)/\n=items.length - i/\i<=items.length/\HExt Y.K H H'/\Slots Y.K H' δ' σ'/\RepM Y.K H' M'/\keep M'/\loopD g b keep (items.drop i) δ' M' R) ?_ mono items.length
  ⟨0,σ,H,δ,M,I,st,fun b hbb=>(hf b hbb).1,rfl,Nat.zero_le _,.refl _,rs,rm,k,h⟩
 rintro n s5 ⟨i,σ5,H5,δ5,M5,I5,st5,fr5,rfl,hi5,x5,rs5,m5,k5,h5⟩
 obtain ⟨i1,i2,i3⟩:=itd i H5 M5 (x0.trans x5) m5 k5
 by_cases hl:i < items.length
 ·rw [List.drop_eq_getElem_cons hl] at h5
  refine thn (T.item Y rfl rfl rfl hc i pins s5 σ5 H5 _ I5 (stat fr5) st5 (i1 hl)) fun r s6 hq2=>?_
  obtain ⟨u,hr,h6⟩:=hq2
  subst hr
  refine thn h6 fun _ s7 hq2=>?_
  obtain ⟨x,H7,I7,r7,y7,st7,fr7⟩:=hq2
  obtain ⟨x7,m7,r7'⟩:=i3 x H7 y7
  have I7':=I7.pinned (stat fr7) (T.obj _ _ st7)
  have h8:=hg _ s7 σ5 H7 x u (fun σ8 H8=>∃ δ8 M8,HExt Y.K H7 H8/\Slots Y.K H8 δ8 σ8/\RepM Y.K H8 M8/\b δ8 M8 fun δ2 M2=>keep M2/\loopD g b keep (items.drop (i + 1)) δ2 M2 R) I7' r7
   ⟨items[i],δ5,M5,_,r7' _ (by simp [hl]),⟨rs5.ext x7,xeOk0⟩,m7,h5,fun δ8 M8 σ8 H8 x8 rs8 m8 h8=>⟨δ8,M8,x8,rs8.toSlots,m8,h8⟩⟩
  rw [hx] at h8
  refine thn h8 fun _ s8 hq2=>?_
  obtain ⟨σ8,H8,I8,δ8,M8,x8,rs8,m8,h8⟩:=hq2
  refine mono _ _ _ _ ?_ (hb _ s8 σ8 H8 (fun σ9 H9=>∃ δ9 M9,HExt Y.K H8 H9/\Slots Y.K H9 δ9 σ9/\RepM Y.K H9 M9/\keep M9/\loopD g b keep (items.drop (i + 1)) δ9 M9 R) I8 ⟨δ8,M8,_,⟨rs8,xeOk0⟩,m8,h8,fun δ9 M9 σ9 H9 x9 rs9 m9 h9=>⟨δ9,M9,x9,rs9.toSlots,m9,h9⟩⟩)
  rintro s9 ⟨σ9,H9,I9,δ9,M9,x9,rs9,m9,k9,h9⟩
  refine ⟨items.length - (i + 1),by omega,i + 1,σ9,H9,δ9,M9,I9.unpinned,T.keep _ _ _ st7 fun b hbb o e=>(I9.pin (b,o) (List.mem_append_right _ (List.mem_append_right _ (mem_pinsAt hbb e)))).1,fun b hbb=>?_,rfl,hl,(((x5.trans x7).trans x8).trans x9),rs9,m9,k9,h9⟩
  obtain ⟨o,e,d'⟩:=T.obj _ _ st7 b hbb
  exact (I9.pin (b,o) (List.mem_append_right _ (List.mem_append_right _ (mem_pinsAt hbb e)))).2.1
 ·have e:i=items.length:=by omega
  subst e
  rw [List.drop_length] at h5
  refine thn (T.done Y rfl rfl rfl hc _ pins s5 σ5 H5 _ I5 (stat fr5) st5 (i2 (Nat.le_refl _))) fun r s6 hq2=>?_
  obtain ⟨hr,I6⟩:=hq2
  subst hr
  exact fin s6 σ5 H5 δ5 M5 I6 x5 rs5 m5 h5
theorem pb_emit {Y:Cx} {elt:Expr} {te:DE} {p:Addr} (hx:Y.xe=fun _ _=>False) (he:PE Y elt (lift (Y.L false X0) te)):PB Y (emitW elt (.ref p) Y.env) (bEmit te p):=by
 rintro pins s σ H Q I ⟨δ,M,R,rs,rm,h,q⟩
 have h8:=he pins s σ H (fun v H9=>∃ d M9,HExt Y.K H H9/\RepM Y.K H9 M9/\RelD Y.K H9 v d/\∃ acc,M9 p=some (.ls acc)/\acc.length < sizeLine/\R δ (M9.upd p (.ls (acc++[d])))) I
  ⟨δ,M,_,rs,rm,h,fun d M9 v H9 x9 m9 r9 h9=>⟨d,M9,x9,m9,r9,h9⟩⟩
 rw [hx] at h8
 refine thn h8 fun y s9 hq2=>?_
 obtain ⟨v,H9,I9,r9,d,M9,x9,m9,rd9,acc,a9,z9,h9⟩:=hq2
 obtain ⟨vs,ev,rv⟩:=m9 _ _ a9
 have xw:HExt Y.K H9 (upd H9 p (.lst (vs++[v]))):=.upd (.inr ⟨_,ev,trivial⟩)
 have h10:=mt_append pins s9 σ H9 (.ref p) [v] (.ref p) [y] (fun _ H10=>H10=upd H9 p (.lst (vs++[v]))) I9 rfl (.cons r9 .nil) ⟨_,vs,v,rfl,rfl,ev,by rw [rv.length]; exact z9,rfl⟩
 rw [hx] at h10
 refine thn h10 fun _ s10 hq2=>?_
 obtain ⟨_,H10,I10,_,e10⟩:=hq2
 subst e10
 exact ⟨σ,_,I10,q _ _ _ _ (x9.trans xw) (rs.ext (x9.trans xw)) (m9.write ev (rv.append (.cons rd9 .nil))) h9⟩
section
variable {X:Cx} {rz:Bool} {Xe:DSt->DK} {N':List Str} {scope:Scope} {elt target iter:Expr} {ifs:List Expr} {rest:List Comprehension} {pos:Pos} {ti:DI} {g:DG} {b:Addr->DB}
theorem compB_gen (hc:X.calm=true) (B:BlkOk X.N X.env N' scope) (hi:PI X target iter (liftI (X.L rz Xe) ti))
  (W:Addr->Env->BW) (mono:∀ p env (A:Around) (Q Q':Shared->Prop) s,(∀ s',Q s'->Q' s')->W p env X.prog X.w A Q s->W p env X.prog X.w A Q' s)
  (hb:∀ cl C s H ex p,PG (blkCx X N' scope cl C s H ex []) target (liftG ((blkCx X N' scope cl C s H ex []).L false X0) g)/\PB (blkCx X N' scope cl C s H ex []) (W p (blkCx X N' scope cl C s H ex []).env) (b p))
  (ht:∀ it p env,TurnOf (.ListComp elt (⟨target,iter,ifs,0⟩ :: rest) scope pos) target 0 it (.ref p) env (W p env))
  (hs:∀ x,foldedSetIterable iter X.env x=pure x) {use:Option (Value->Sem Unit)} {Post:Value->Shared->Prop} {pins:List (Addr×Obj)} {s:Shared} {σ:L2.St} {H:Hp} {δ:DSt} {M:Mem} {R:DK}
  (I:L2.Inv X pins σ H s) (rs:RepS (X.L rz Xe) H δ σ) (rm:RepM X.K H M) (t:dCompB (N'.length - X.N.length) ti g b δ M R)
  (fin:∀ (p C:Addr) (s6:Shared) (H5:Hp) (M5:Mem),HExt X.K H H5->RepM X.K H5 M5->R (.lst p) M5->L2.Inv X pins σ H5 s6->FpOk X pins H5 C->(∃ m,s6.heap.Ns C m)->(∀ h',Heap.SameBut C s6.heap h'->L2.Inv X pins σ H5 { s6 with heap:=h' })->compPost (model X.prog X.w) X.A X.xe use Post (.ref p) C (.ok .next) s6) :
  wpAny (model X.prog X.w) X.A (comprehension (.ListComp elt (⟨target,iter,ifs,0⟩ :: rest) scope pos) scope X.env (firstIterPos (⟨target,iter,ifs,0⟩ :: rest) pos) (newList []) (firstAsync (⟨target,iter,ifs,0⟩ :: rest)) (firstIter (⟨target,iter,ifs,0⟩ :: rest) X.env) use) Post X.xe s:=by
 have hcells:∀ x∈scope.names,x.2=.free->∃ c,X.env.cells.lookup x.1=some c:=fun x hx e=>I.ok.has x.1 (B.free x hx e)
 refine wpAny_comprehension_free (use:=use) (cl:=clos X.env.cells scope.names []) rfl hs (closureFor_some hcells) B.kind B.names ?_
 refine thn (hi pins s σ H (fun J H1=>∃ items keep M1,HExt X.K H H1/\RepM X.K H1 M1/\keep M1/\ItD X.K H1 J items keep/\∀ p,M1 p=none->keep (M1.upd p (.ls []))/\loopD g (b p) keep items (δ++List.replicate (N'.length - X.N.length) none) (M1.upd p (.ls [])) fun _ M2=>(∃ ds,M2 p=some (.ls ds))/\R (.lst p) M2) I
  ⟨δ,M,_,rs,rm,t,fun items keep M1 J H1 x1 m1 k1 it h1=>⟨items,keep,M1,x1,m1,k1,it,h1⟩⟩) fun v s1 h1=>thn h1 fun itv s2 h2=>?_
 obtain ⟨it,fp,tn,J,H2,e,I2,T,st2,f2,items,keep,M1,x1,m1,k1,itd,h2⟩:=h2
 subst e
 have hflt2:∀ b∈fp,b < s2.heap.objs.size:=fun b hb=>let ⟨o,e,_⟩:=T.obj _ _ st2 b hb; Heap.lt_size e
 have hp:H2 s2.heap.objs.size=none:=I2.hok.fresh (Nat.le_refl _)
 refine wpAny_newObj_type ?_
 have I3:=I2.lnew (ys:=[]) (its:=[]) (t':=s2.toks) .nil (Nat.zero_le _)
 have x3:HExt X.K H2 (upd H2 s2.heap.objs.size (.lst [])):=.upd (.inl hp)
 obtain ⟨k3,h3⟩:=h2 _ (m1.none hp)
 have m3:=m1.lst (vs:=[]) (ds:=[]) hp .nil
 revert I3
 generalize hs3:(({ s2 with heap:=s2.heap.push { cls:=.type "list",data:=.seq ([]:List Value).toArray },toks:=s2.toks }:Shared))=s3
 intro I3
 have hh3:s3.heap=s2.heap.push { cls:=.type "list",data:=.seq ([]:List Value).toArray }:=by rw [<- hs3]
 have sz3:s3.heap.objs.size=s2.heap.objs.size + 1:=by rw [hh3,Heap.size_push]
 have st3:tn 0 s3.heap:=T.keep _ _ _ st2 fun b _ o e=>by rw [hh3]; exact Heap.get?_push_of_some _ e
 have hflt3:∀ b∈fp,b < s3.heap.objs.size:=fun b hb=>by rw [sz3]; exact Nat.lt_succ_of_lt (hflt2 b hb)
 have f3:∀ b∈fp,FpOk X pins (upd H2 s2.heap.objs.size (.lst [])) b:=fun b hb=>⟨by rw [upd_ne (Nat.ne_of_lt (hflt2 b hb))]; exact (f2 b hb).1,(f2 b hb).2⟩
 have goal3:wpAny (model X.prog X.w) X.A (newFunctionEnv scope X.env.globals (clos X.env.cells scope.names []) [] X.env.qual none .none (some X.env)) (fun cenv s₄ =>
   codeAny (model X.prog X.w) X.A (.compStart (.ListComp elt (⟨target,iter,ifs,0⟩ :: rest) scope pos) 0 (.ref it) (.ref s2.heap.objs.size) { cenv with scope:=relabel scope X.env })
    (compPost (model X.prog X.w) X.A X.xe use Post (.ref s2.heap.objs.size) cenv.locals) s₄) X.xe s3:=by
  refine wpAny_newFunctionEnv B.cell (by intro y hy; simp at hy) (fun h₁ hns₁ hsb₁=>?_) B.kind
  have old:∀ b o,s3.heap.get? b=some o->h₁.get? b=some o:=fun b o e=>hsb₁.extBut b o (Nat.ne_of_lt (Heap.lt_size e)) (Heap.get?_push_of_some _ e)
  have I4:=blk_start (N':=N') (tk:=s3.toks + ([]:List (Str×Value)).length) I3 B f3 hflt3 hns₁ old
  obtain ⟨hg,hbb⟩:=hb (clos X.env.cells scope.names []) s3.heap.objs.size s3 (upd H2 s2.heap.objs.size (.lst [])) fp s2.heap.objs.size
  have st4:tn 0 h₁:=T.keep _ _ _ st3 fun b _ o e=>old b o e
  have stat:∀ {H':Hp},(∀ b∈fp,H' b=none)->∀ b∈fp,FpOk (blkCx X N' scope (clos X.env.cells scope.names []) s3.heap.objs.size s3 (upd H2 s2.heap.objs.size (.lst [])) fp []) [] H' b:=fun hn b hbb=>by
   obtain ⟨g1,g2⟩:=I4.ok.exf b hbb
   exact ⟨hn b hbb,g1,I4.ok.exfs b hbb,.inl hbb,g2,fun p hp=>absurd (show p∈([]:List (Addr×Obj)) from hp) (by simp)⟩
  have loop:codeAny (model X.prog X.w) X.A (.compLoop (.ListComp elt (⟨target,iter,ifs,0⟩ :: rest) scope pos) 0 (.ref it) (.ref s2.heap.objs.size) (compEnvC scope (clos X.env.cells scope.names []) s3.heap.objs.size X.env))
    (compPost (model X.prog X.w) X.A X.xe use Post (.ref s2.heap.objs.size) s3.heap.objs.size) { s3 with heap:=h₁,toks:=s3.toks + ([]:List (Str×Value)).length }:=by
   refine loop_gen (Y:=blkCx X N' scope (clos X.env.cells scope.names []) s3.heap.objs.size s3 (upd H2 s2.heap.objs.size (.lst [])) fp []) (H0:=H2) hc rfl (ht _ _ _) (mono _ _) T itd hg hbb I4 (stat fun b hbb=>(f3 b hbb).1) st4 x3 ((rs.toSlots.ext (x1.trans x3)).more _) m3 k3 h3 ?_
   intro s6 σ5 H5 δ5 M5 I6 x5 rs5 m5 h5
   obtain ⟨_,h5⟩:=h5
   obtain ⟨mC,nC,_⟩:=I6.loc
   have key:∀ h',Heap.SameBut s3.heap.objs.size s6.heap h'->L2.Inv X pins σ H5 { s6 with heap:=h' }:=fun h' hsb=>by
    have ne:∀ b o,s3.heap.get? b=some o->b≠s3.heap.objs.size:=fun b o e=>Nat.ne_of_lt (Heap.lt_size e)
    have un:=I6.base
    have un':Un (frs X.stack) fp (upd H2 s2.heap.objs.size (.lst [])) H5 s3.heap h' :=
     ⟨fun b o e n1 n2 n3=>hsb.extBut b o (ne b o e) (un.keep b o e n1 n2 n3),fun b o e n1 n2 n3=>let ⟨sl,z⟩:=un.slot b o e n1 n2 n3; ⟨sl,hsb.extBut _ _ (ne b o e) z⟩,un.free,fun b o e n1=>let ⟨o',z⟩:=un.there b o e n1; ⟨o',hsb.extBut _ _ (ne b o e) z⟩,un.tups,un.frzs,un.tbls⟩
    have hok':HOk X.prog X.w H5 h':=fun b ob e=>by
     refine (I6.hok b ob e).stay (fun c w' hc' q'=>hsb.extBut _ _ ?_ q') (fun _ q=>q) fun _ _ q=>q
     rintro rfl
     rcases hc' with rfl | hc'
     ·rw [show H5 s3.heap.objs.size=none from I6.free] at e; cases e
     ·rw [show H5 s3.heap.objs.size=none from I6.free] at hc'; cases hc'
    exact I3.call' (ch:=fp) (s':={ s6 with heap:=h' }) I6.os un' hok' I6.bare fun b hbb=>⟨(f3 b hbb).2.2.2.1,(f3 b hbb).2.1,(f3 b hbb).2.2.2.2.1,(f3 b hbb).2.2.2.2.2⟩
   exact fin s2.heap.objs.size s3.heap.objs.size s6 H5 M5 ((x1.trans x3).trans x5) m5 h5 (key _ (.refl _ _)) (I3.fpOk (Nat.le_refl _) I6.free) ⟨mC,nC⟩ key
  exact codeAny_compStart_list loop (T.self X.A 0 _ _ _ st4 loop)
 subst hs3
 exact goal3
theorem de_compB (hc:X.calm=true) (B:BlkOk X.N X.env N' scope) (hi:PI X target iter (liftI (X.L rz Xe) ti))
  (W:Addr->Env->BW) (mono:∀ p env (A:Around) (Q Q':Shared->Prop) s,(∀ s',Q s'->Q' s')->W p env X.prog X.w A Q s->W p env X.prog X.w A Q' s)
  (hb:∀ cl C s H ex p,PG (blkCx X N' scope cl C s H ex []) target (liftG ((blkCx X N' scope cl C s H ex []).L false X0) g)/\PB (blkCx X N' scope cl C s H ex []) (W p (blkCx X N' scope cl C s H ex []).env) (b p))
  (ht:∀ it p env,TurnOf (.ListComp elt (⟨target,iter,ifs,0⟩ :: rest) scope pos) target 0 it (.ref p) env (W p env))
  (hs:∀ x,foldedSetIterable iter X.env x=pure x):PE X (.ListComp elt (⟨target,iter,ifs,0⟩ :: rest) scope pos) (lift (X.L rz Xe) (dCompB (N'.length - X.N.length) ti g b)):=by
 rintro pins s σ H Q I ⟨δ,M,R,rs,rm,t,q⟩
 rw [eval_ListComp]
 exact compB_gen hc B hi W mono hb ht hs (use:=none) I rs rm t (by rintro p C s6 H5 M5 x m r _ _ ⟨mC,nC⟩ key; exact ⟨mC,nC,fun h' hsb=>⟨.ref p,H5,key h' hsb,rfl,q _ _ _ _ x m (.lst _) r⟩⟩)
theorem up_pi (hi:PI X target iter (liftI (X.L rz Xe) ti)):PI X target iter (liftI (X.L rz Xe) (iUp ti)):=by
 intro pins s σ H R I h
 obtain ⟨δ,M,Rd,rs,rm,⟨R0,t,q0⟩,q⟩:=h
 exact hi pins s σ H R I ⟨δ,M,R0,rs,rm,t,fun items keep M' J H' x m k it h=>q items keep M' J H' x m k it (q0 _ _ _ h)⟩
theorem up_pg {Y:Cx} (hg:PG Y target (liftG (Y.L false X0) g)):PG Y target (liftG (Y.L false X0) (gUp g)):=by
 intro pins s σ H v u Q I r h
 obtain ⟨d,δ,M,R,rd,rs,rm,⟨R0,t,q0⟩,q⟩:=h
 exact hg pins s σ H v u Q I r ⟨d,δ,M,R0,rd,rs,rm,t,fun δ' M' σ' H' x s' m h=>q δ' M' σ' H' x s' m (q0 _ _ h)⟩
theorem up_pe {Y:Cx} {te:DE} (he:PE Y elt (lift (Y.L false X0) te)):PE Y elt (lift (Y.L false X0) (eUp te)):=by
 intro pins s σ H Q I h
 obtain ⟨δ,M,R,rs,rm,⟨R0,t,q0⟩,q⟩:=h
 exact he pins s σ H Q I ⟨δ,M,R0,rs,rm,t,fun d M' v H' x m r h=>q d M' v H' x m r (q0 _ _ h)⟩
theorem de_comp {te:DE} (hc:X.calm=true) (B:BlkOk X.N X.env N' scope) (hi:PI X target iter (liftI (X.L rz Xe) ti))
  (hb:∀ cl C s H ex,PG (blkCx X N' scope cl C s H ex []) target (liftG ((blkCx X N' scope cl C s H ex []).L false X0) g)/\PE (blkCx X N' scope cl C s H ex []) elt (lift ((blkCx X N' scope cl C s H ex []).L false X0) te))
  (hs:∀ x,foldedSetIterable iter X.env x=pure x):PE X (.ListComp elt [⟨target,iter,[],0⟩] scope pos) (lift (X.L rz Xe) (dComp (N'.length - X.N.length) ti g te)) :=
 (de_compB hc B (up_pi hi) (fun p env=>emitW elt (.ref p) env) (fun _ _=>emitW_mono) (fun cl C s H ex p=>⟨up_pg (hb cl C s H ex).1,pb_emit rfl (up_pe (hb cl C s H ex).2)⟩) (fun _ _ _=>turn_one) hs).imp
  fun σ H Q h=>by obtain ⟨δ,M,R,rs,rm,t,q⟩:=h; exact ⟨δ,M,R,rs,rm,dComp_up t,q⟩
theorem ds_setB {ti:(DSt->DK)->DI} {i:Nat} {x:Str} {pos' pos2:Pos} (hc:X.calm=true) (B:BlkOk X.N X.env N' scope) (hit:∀ Xe,PI X target iter (liftI (X.L rz Xe) (ti Xe)))
  (W:Addr->Env->BW) (mono:∀ p env (A:Around) (Q Q':Shared->Prop) s,(∀ s',Q s'->Q' s')->W p env X.prog X.w A Q s->W p env X.prog X.w A Q' s)
  (hb:∀ cl C s H ex p,PG (blkCx X N' scope cl C s H ex []) target (liftG ((blkCx X N' scope cl C s H ex []).L false X0) g)/\PB (blkCx X N' scope cl C s H ex []) (W p (blkCx X N' scope cl C s H ex []).env) (b p))
  (ht:∀ it p env,TurnOf (.ListComp elt (⟨target,iter,ifs,0⟩ :: rest) scope pos) target 0 it (.ref p) env (W p env))
  (hs:∀ x,foldedSetIterable iter X.env x=pure x) (hsw:swapsWith (.ListComp elt (⟨target,iter,ifs,0⟩ :: rest) scope pos) (some (.Name x pos')) pos2.line X.env=pure true)
  (hN:X.N.Nodup) (hi:X.N[i]?=some x) (hx:Loc X.env.scope x) (hf:X.fn x=true\/X.env.scope.names.lookup x=some .local) :
  PS X (.Assign [.Name x pos'] (.ListComp elt (⟨target,iter,ifs,0⟩ :: rest) scope pos) pos2) (liftS X rz (dAsg (fun Xe=>dCompB (N'.length - X.N.length) (ti Xe) g b) fun _=>gdName i)):=by
 rintro pins s σ H E I ⟨δ,M,D,rs,rm,t,n,r,b,c⟩
 rw [exec_Assign_Name_used _ _ _ _ hsw,arm_evalThenUse_ListComp]
 refine wpAny_bind (wpAny_standAt ?_)
 refine wpAny_bind (wpAny_bind (compB_gen hc B (hit D.ex) W mono hb ht hs (R:=fun d M1=>D.nx (δ.set i (some d)) M1) I rs rm t fun p C s6 H5 M5 x m r I5 fpc hq10 key=>?_))
 obtain ⟨mC,nC⟩:=hq10
 obtain ⟨o,es,ep,ho,hd,hsk,hmm⟩:=id nC
 have I5':=I5.pinned (fp:=[C]) (fun b hb=>by simp at hb; subst hb; exact fpc) (fun b hb=>by simp at hb; subst hb; exact ⟨o,ho,fun v z=>by rw [hd] at z; cases z⟩)
 refine wpAny_assign_Name (store_ok I5' hN hi hx (v:=.ref p) rfl (fun s7 I7=>?_) hf)
 have hp7:(C,o)∈pinsAt [C] s6.heap:=mem_pinsAt (by simp) ho
 have h7:=(I7.pin (C,o) (List.mem_append_right _ (List.mem_append_right _ hp7))).1
 refine ⟨mC,⟨o,es,ep,h7,hd,hsk,hmm⟩,fun h' hsb=>?_⟩
 have I8:=(I7.unpinned (pins:=pins)).turned (it:=C) (h':=h') (t':=s7.toks) (fun b o hb e=>(hsb.2 b hb).trans e) fpc.1 fpc.2.1 fpc.2.2.2.1 fpc.2.2.2.2.1 fpc.2.2.2.2.2
 exact wpAny_pure (wpAny_pure ⟨_,H5,I8,n _ _ _ _ x ((rs.ext x).set (.lst _) i) m r⟩)
theorem ds_setc {te:DE} {ti:(DSt->DK)->DI} {i:Nat} {x:Str} {pos' pos2:Pos} (hc:X.calm=true) (B:BlkOk X.N X.env N' scope) (hit:∀ Xe,PI X target iter (liftI (X.L rz Xe) (ti Xe)))
  (hb:∀ cl C s H ex,PG (blkCx X N' scope cl C s H ex []) target (liftG ((blkCx X N' scope cl C s H ex []).L false X0) g)/\PE (blkCx X N' scope cl C s H ex []) elt (lift ((blkCx X N' scope cl C s H ex []).L false X0) te))
  (hs:∀ x,foldedSetIterable iter X.env x=pure x) (hsw:swapsWith (.ListComp elt [⟨target,iter,[],0⟩] scope pos) (some (.Name x pos')) pos2.line X.env=pure true)
  (hN:X.N.Nodup) (hi:X.N[i]?=some x) (hx:Loc X.env.scope x) (hf:X.fn x=true\/X.env.scope.names.lookup x=some .local) :
  PS X (.Assign [.Name x pos'] (.ListComp elt [⟨target,iter,[],0⟩] scope pos) pos2) (liftS X rz (dAsg (fun Xe=>dComp (N'.length - X.N.length) (ti Xe) g te) fun _=>gdName i)):=by
 rintro pins s σ H E I ⟨δ,M,D,rs,rm,t,n,r,b,c⟩
 exact ds_setB hc B (fun Xe=>up_pi (hit Xe)) (fun p env=>emitW elt (.ref p) env) (fun _ _=>emitW_mono) (fun cl C s H ex p=>⟨up_pg (hb cl C s H ex).1,pb_emit rfl (up_pe (hb cl C s H ex).2)⟩) (fun _ _ _=>turn_one) hs hsw hN hi hx hf pins s σ H E I ⟨δ,M,D,rs,rm,dComp_up (show dComp (N'.length - X.N.length) (ti D.ex) g te δ M (fun d M1=>D.nx (δ.set i (some d)) M1) from t),n,r,b,c⟩
end
end DL
end
noncomputable section
namespace DL
open PySem PySem.Spec PyProof.Rows L2
noncomputable def fSum:List D->Mem->DK->Prop
 | [.lst a],M,Q=>∃ bs:List Bool,M a=some (.ls (bs.map .bl))/\Q (.int (bs.count true)) M
 | _,_,_=>False
section
variable {X:Cx}
noncomputable def IxAt (M:Mem) (xs:List D) (d:D) (j:Nat):Prop:=∃ ps p,Pys M xs ps/\Py M d p/\p.depth<=60/\xs.length < 1000/\j < ps.length/\ps.findIdx (fun q=>PyData.eqv q p)=j
end
theorem relds_erase {K:PySem.W.Frag} {H:Hp}:∀ {vs:List V} {ds:List D} (i:Nat),RelDs K H vs ds->RelDs K H (vs.eraseIdx i) (ds.eraseIdx i)
 | _,_,_,.nil=>.nil
 | _,_,0,.cons _ t=>t
 | _,_,i + 1,.cons q t=>.cons q (relds_erase i t)
section
variable {X:Cx}
end
section
variable {X:Cx}
end
end DL
end
noncomputable section
namespace DL
open PySem PySem.Spec PyProof.Rows L2
noncomputable def insAt {α:Type} (xs:List α) (k:Int) (y:α):List α:=xs.take k.toNat++y :: xs.drop k.toNat
noncomputable def rInsert:V->List V->Hp->VK->Prop:=fun x vs H Q=>∃ l xs k y,x=.ref l/\vs=[.int k,y]/\H l=some (.lst xs)/\0<=k/\k<=xs.length/\xs.length < sizeLine/\Q .non (upd H l (.lst (insAt xs k y)))
theorem insAt_len {α:Type} (xs:List α) (k:Int) (y:α):(insAt xs k y).length=xs.length + 1:=by
 unfold insAt; simp; omega
section
variable {X:Cx}
theorem mt_insert:MtM X "list.insert" rInsert:=by
 intro pins s σ H x vs v us Q I rx rv h
 obtain ⟨l,xs,k,y,rfl,rfl,hH,k0,k1,hz,q⟩:=h
 cases rx
 obtain ⟨u1,u2,rfl,r1,r2⟩:=vals2 rv
 obtain ⟨t,rfl⟩:=r1
 obtain ⟨z,its,n,r,hl,e⟩:=I.lstM hH
 have sl:sizeLine=16777216:=by decide
 have hlen:=r.length
 have hfit:¬ (!Builtin.List.listFitsIndex k)=true:=by
  unfold Builtin.List.listFitsIndex
  simp; omega
 refine call_meets F.slot_list_insert ⟨_,e,rfl⟩ F.entry_list_insert (F.args_list_insert_3 _ _ _) (AutoListH.list_insert_list_int_val_1 l its.toArray n k t u2 hfit (by rw [List.size_toArray]; omega)) ⟨e,?_⟩
 refine ⟨.non,_,I.lset (its':=insAt its k u2) hH e ?_ ?_ ?_,rfl,q⟩
 ·have hk:(if k < 0 then (k + ((its.toArray.size:Nat):Int)).toNat else min k.toNat its.toArray.size)=k.toNat:=by
   rw [if_neg (by omega),List.size_toArray]; omega
  show ((its.toArray.extract 0 (if k < 0 then (k + ((its.toArray.size:Nat):Int)).toNat else min k.toNat its.toArray.size)).push u2++its.toArray.extract (if k < 0 then (k + ((its.toArray.size:Nat):Int)).toNat else min k.toNat its.toArray.size))=_
  rw [hk]
  unfold insAt
  simp [List.extract_eq_take_drop,List.take_of_length_le]
 ·exact (r.take _).append (.cons r2 (r.drop _))
 ·rw [insAt_len]; omega
end
end DL
end
noncomputable section
namespace DL
open PySem PySem.Spec PyProof.Rows L2
section
variable {prog:Program} {w:World} {A:Around} {E:Value->Shared->Prop} {s:Shared}
end
noncomputable def zipD (xs ys:List D):List D:=List.zipWith (fun x y=>.tup [x,y]) xs ys
noncomputable def itZip:List D->Mem->(List D->(Mem->Prop)->Mem->Prop)->Prop
 | [.tup xs,.tup ys],M,R=>R (zipD xs ys) (fun _=>True) M
 | [.lst a,.lst b],M,R=>∃ xs ys,M a=some (.ls xs)/\M b=some (.ls ys)/\R (zipD xs ys) (fun M'=>M' a=some (.ls xs)/\M' b=some (.ls ys)) M
 | _,_,_=>False
noncomputable def diZip (ta:DA):DI:=fun δ M R=>ta δ M fun ds M1=>itZip ds M1 R
section
variable {X:Cx} {rz:Bool} {Xe:DSt->DK} {pos:Pos}
end
end DL
end
noncomputable section
namespace DL
open PySem PySem.Spec PyProof.Rows L2
section
variable {prog:Program} {w:World} {A:Around} {E:Value->Shared->Prop} {s:Shared}
theorem enum_endT {e it l:Addr} {i:Nat} {items:Array Value} {old:Value} {Q:Option Value->Shared->Prop} (hh:A.handled=none)
  (he:IsEnum s.heap e it i old) (hit:s.heap.IsTupleIter it l i) (hl:s.heap.IsTuple l items) (hx:items[i]?=none)
  (hQ:∀ h',Heap.ExtBut it s.heap h'->Q none { s with heap:=h' }):wpAny (model prog w) A (pyNext (.ref e)) Q E s:=by
 have hT:s.TypeIs (.ref e) "enumerate":=⟨_,he,rfl⟩
 unfold pyNext
 refine wpAny_bind (wpAny_attempt (wpAny_callSpecial?_slot (name:=Str.ofString "__next__") hT F.slot_enumerate_next
  (wpAny_call_entry F.slot_enumerate_next hT F.entry_enumerate_next ?_ (F.args_enumerate_next_1 _))))
 show wpAny _ _ (field (.ref e) 2 >>= _) _ _ _
 refine wpAny_bind (wpAny_field he rfl (x:=.ref it) rfl ?_)
 refine wpAny_bind (nx_end hh hit hl hx fun h' x he' hx'=>?_)
 obtain ⟨o,ho,hc⟩:=hx'
 refine wpAny_bind (wpAny_isInstance (T:="StopIteration") (b:=true) ⟨o,ho,hc⟩ isSubtype_stop ?_)
 exact wpAny_pure (hQ _ he')
theorem enum_endL {e it l:Addr} {i:Nat} {items:Array Value} {old:Value} {Q:Option Value->Shared->Prop} (hh:A.handled=none)
  (he:IsEnum s.heap e it i old) (hit:s.heap.IsListIter it l i) (hl:s.heap.IsList l items) (hx:items[i]?=none)
  (hQ:∀ h',Heap.ExtBut it s.heap h'->Q none { s with heap:=h' }):wpAny (model prog w) A (pyNext (.ref e)) Q E s:=wpAny_pyNext_enum_end hh he hit hl hx hQ
theorem meets_et (l:Addr) (items:Array Value) (n:Nat) (dct:Option Addr) (sl:Array (Option Value)) :
  Meets (Builtin.«enumerate.__new__» ⟨[.type "enumerate",.ref l],[]⟩) (fun _ R s=>s.heap.get? l=some { cls:=.type "tuple",dict:=dct,data:=.seq items n,slots:=sl } /\
   R (.ok (.ret (.ref (s.heap.push { cls:=.type "tuple_iterator",data:=.fields #[.ref l,.int 0 0] }).objs.size)))
    { s with heap:=(s.heap.push { cls:=.type "tuple_iterator",data:=.fields #[.ref l,.int 0 0] }).push { cls:=.type "enumerate",data:=.fields #[.none,.bool false,.ref s.heap.objs.size,rawInt 0,.none,.none] } }) :=
 .of_wp fun prog w A R s h=>by
  obtain ⟨hp,g,d,tk,os⟩:=s; obtain ⟨hl,h⟩:=h
  have hsub:=sub_enumerate
  have hL:Heap.IsTuple (Shared.heap ⟨hp,g,d,tk,os⟩) l items:=⟨_,hl,rfl,n,rfl⟩
  wp_walk using AutoSeq1.wpAny_loadPart' hl
  refine wpAny_stack_any fun st=>wpAny_pure ?_
  split
  ·rename_i c _ _ _ _ _
   cases (c == Value.type "enumerate")
   ·wp_walk using AutoSeq1.wpAny_loadPart' hl,wpAny_pyIter_tuple hL
    exact ⟨_,rfl,h⟩
   ·wp_walk using AutoSeq1.wpAny_loadPart' hl,wpAny_pyIter_tuple hL
    exact ⟨_,rfl,h⟩
  ·wp_walk using AutoSeq1.wpAny_loadPart' hl,wpAny_pyIter_tuple hL
   exact ⟨_,rfl,h⟩
theorem call_enumT {l:Addr} {items:Array Value} {Q:Value->Shared->Prop} (hL:s.heap.IsTuple l items)
  (h:∀ h',IsEnum h' (s.heap.objs.size + 1) s.heap.objs.size 0 .none->h'.IsTupleIter s.heap.objs.size l 0->h'.objs.size=s.heap.objs.size + 2 ->
   (∀ b o,s.heap.get? b=some o->h'.get? b=some o)->Q (.ref (s.heap.objs.size + 1)) { s with heap:=h' }) :
  wpAny (model prog w) A (call (.type "enumerate") [.ref l]) Q E s:=by
 obtain ⟨⟨c,dct,dt,sl⟩,hl,hc,n,hd⟩:=hL
 replace hc:c=.type "tuple":=hc
 replace hd:dt=.seq items n:=hd
 subst hc hd
 refine callType_new F.called_enumerate (by decide) (F.typeCall_enumerate_1 _) (F.newCall_enumerate_1 _) (fun obj=>F.args_object_init_2 obj _) F.entry_enumerate_new
  (meets_et l items n dct sl) ⟨hl,?_⟩
 have hz:(s.heap.push { cls:=.type "tuple_iterator",data:=.fields #[.ref l,.int 0 0] }).objs.size=s.heap.objs.size + 1:=Heap.size_push ..
 show _/\_
 rw [hz]
 have he:IsEnum ((s.heap.push { cls:=.type "tuple_iterator",data:=.fields #[.ref l,.int 0 0] }).push
   { cls:=.type "enumerate",data:=.fields #[.none,.bool false,.ref s.heap.objs.size,rawInt 0,.none,.none] }) (s.heap.objs.size + 1) s.heap.objs.size 0 .none:=by
  have:=Heap.get?_push_size (s.heap.push { cls:=.type "tuple_iterator",data:=.fields #[.ref l,.int 0 0] })
   (o:={ cls:=.type "enumerate",data:=.fields #[.none,.bool false,.ref s.heap.objs.size,rawInt 0,.none,.none] }) rfl
  rw [hz] at this; exact this
 refine ⟨⟨_,he,rfl⟩,h _ he ⟨_,Heap.get?_push_of_some _ (Heap.get?_push_size _ rfl),rfl,rfl⟩ (by rw [Heap.size_push,hz]) fun b o x=>Heap.get?_push_of_some _ (Heap.get?_push_of_some _ x)⟩
end
theorem drawsT {prog:Program} {w:World} {A:Around} (hh:A.handled=none) {it b:Addr} (hne:it≠b) (vs:Array Value):Draws prog w A it [it,b] vs.size (fun i v=>vs[i]?=some v) (fun i h=>h.IsTupleIter it b i/\h.IsTuple b vs) where
 live:=fun _ _ st=>let ⟨o,ho,_⟩:=st.1; ⟨o,ho⟩
 frame:=fun _ _ _ st hk=>⟨let ⟨o,ho,r⟩:=st.1; ⟨o,hk it (by simp) o ho,r⟩,let ⟨o,ho,r⟩:=st.2; ⟨o,hk b (by simp) o ho,r⟩⟩
 item:=fun i s Q E hi st hQ=>nx_item st.1 st.2 (show vs[i]?=some vs[i] by simp [hi]) fun g h1 sb=>hQ _ g s.toks (by simp [hi]) ⟨h1,let ⟨o,e,r⟩:=st.2; ⟨o,sb.extBut _ _ hne.symm e,r⟩⟩ sb
 done:=fun s Q E st hE=>nx_end hh st.1 st.2 (by simp) hE
noncomputable def IteT (K:PySem.W.Frag) (b:Addr):It :=
  ⟨fun i H=>∃ xs x,SqT K H b xs/\xs[i]?=some x,
   fun i H x H'=>∃ T p,H T=none/\x=.ref T/\H'=upd H T (.tup [.int (i:Int),p])/\∀ xs,SqT K H b xs->xs[i]?=some p,
   fun i H=>∃ xs,SqT K H b xs/\xs.length<=i⟩
noncomputable def eTnT (e it b:Addr) (n:Nat) (h:Heap):Prop:=(∃ old,IsEnum h e it n old)/\h.IsTupleIter it b n
theorem turn_enumT {P:Program} {w:World} {K:PySem.W.Frag} {elts:List Expr} {x1:Nat} {pos:Pos} {e it b:Addr} (ei:e≠it) (eb:e≠b) (ib:it≠b) :
  Turn P w K (.Tuple elts x1 pos) (IteT K b) [e,it] e (eTnT e it b) where
 mem:=by simp
 obj:=fun n h st k hk=>by
  obtain ⟨⟨old,he⟩,⟨o1,e1,_,d1⟩⟩:=st
  simp only [List.mem_cons,List.not_mem_nil,or_false] at hk
  rcases hk with rfl | rfl
  ·exact ⟨_,he,fun w e=>nomatch e⟩
  ·exact ⟨_,e1,fun w e=>by rw [d1] at e; cases e⟩
 keep:=fun n h h' st k=>by
  obtain ⟨⟨old,he⟩,h1⟩:=st
  exact ⟨⟨old,k e (by simp) _ he⟩,h1.at fun o z=>k it (by simp) o z⟩
 item:=by
  intro X hP hw hK hc n pins s σ H E I hf st hg
  subst hP hw hK
  obtain ⟨⟨old,he⟩,h1⟩:=st
  obtain ⟨xs,x,q1,hx⟩:=hg
  obtain ⟨its,rv,p,sz1⟩:=I.tuple q1
  obtain ⟨vx,hvx,rx⟩:=rv.get hx
  have pt:s.heap.IsTuple b its.toArray:=p
  have hn:n < its.toArray.size:=by
   have:=(List.getElem?_eq_some_iff.mp hvx).1
   simpa using this
  have D:=drawsT (prog:=X.prog) (w:=X.w) (A:=X.A.in1) (I.ok.hd hc) ib its.toArray
  refine wpAny_pyNext_enum_itemD D he ⟨h1,pt⟩ hn ei (by simp [ei,eb]) fun v g tk hv a1 a2 a3 a4 a5=>?_
  have ev:v=vx:=by
   have:its.toArray[n]?=some vx:=by simpa using hvx
   rw [this] at hv; cases hv; rfl
  subst ev
  have lt:∀ {k o},s.heap.get? k=some o->k≠s.heap.objs.size:=fun e=>Nat.ne_of_lt (Heap.lt_size e)
  have li:it≠s.heap.objs.size:=by obtain ⟨o,e,_⟩:=h1; exact lt e
  refine ⟨_,rfl,wpAny_letOwnedTupleGo_enum a1 fun g' z' sb=>?_⟩
  have nf:H s.heap.objs.size=none:=I.hok.fresh (Nat.le_refl _)
  have tp:g'.get? s.heap.objs.size=some { cls:=.type "tuple",data:=.seq #[.int n tk,v] }:=sb.extBut _ _ (Ne.symm (lt he)) a3
  have I1:Inv X pins σ (upd H s.heap.objs.size (.tup [.int (n:Int),x])) { s with heap:=s.heap.push { cls:=.type "tuple",data:=.seq #[.int n tk,v] },toks:=s.toks } :=
   I.laid (fun k o e=>Heap.get?_push_of_some _ e) (Nat.le_refl _) ⟨by simp only [List.length_cons,List.length_nil]; rw [sizeLine_eq]; decide,[.int n tk,v],.cons ⟨tk,rfl⟩ (.cons rx .nil),⟨_,Heap.get?_push_size _ rfl,rfl,_,rfl⟩⟩
  have ff:∀ k∈[e,it],k≠s.heap.objs.size:=fun k hk=>by
   simp only [List.mem_cons,List.not_mem_nil,or_false] at hk
   rcases hk with rfl | rfl
   ·exact lt he
   ·exact li
  have f':∀ k∈[e,it],FpOk X pins (upd H s.heap.objs.size (.tup [.int (n:Int),x])) k:=fun k hk=>⟨by rw [upd_ne (ff k hk)]; exact (hf k hk).1,(hf k hk).2⟩
  have I2:Inv X pins σ (upd H s.heap.objs.size (.tup [.int (n:Int),x])) { s with heap:=g',toks:=tk + 1 }:=by
   refine turnedL (s:={ s with heap:=s.heap.push { cls:=.type "tuple",data:=.seq #[.int n tk,v] },toks:=s.toks }) (h':=g') (t':=tk + 1) I1 (fun k o hk e=>?_) f'
   rcases Heap.get?_push_cases e with ⟨rfl,rfl⟩ | e'
   ·exact tp
   ·simp only [List.mem_cons,List.not_mem_nil,or_false,not_or] at hk
    exact sb.extBut _ _ hk.1 (a5 k o hk.1 hk.2 e')
  refine ⟨.ref s.heap.objs.size,_,I2,rfl,⟨_,x,nf,rfl,rfl,fun xs' q=>by rw [I.tuple_inj q q1]; exact hx⟩,?_,fun k hk=>(f' k hk).1⟩
  exact ⟨⟨_,z'⟩,a2.1.extBut sb.extBut ei.symm⟩
 done:=by
  intro X hP hw hK hc n pins s σ H E I hf st hg
  subst hP hw hK
  obtain ⟨⟨old,he⟩,h1⟩:=st
  obtain ⟨xs,q1,hx⟩:=hg
  obtain ⟨its,rv,p,sz1⟩:=I.tuple q1
  have l1:=rv.length
  have pt:s.heap.IsTuple b its.toArray:=p
  refine enum_endT (I.ok.hd hc) he h1 pt (by simp; omega) fun g k=>⟨rfl,turnedL (h':=g) (t':=s.toks) I (fun m o hm e=>?_) hf⟩
  simp only [List.mem_cons,List.not_mem_nil,or_false,not_or] at hm
  exact k m o hm.2 e
 self:=fun _ _ _ _ _ st h=>by
  obtain ⟨⟨old,he⟩,_⟩:=st
  exact wpAny_pyIter_enum he h
theorem drawsL {prog:Program} {w:World} {A:Around} (hh:A.handled=none) {it b:Addr} (hne:it≠b) (vs:Array Value):Draws prog w A it [it,b] vs.size (fun i v=>vs[i]?=some v) (fun i h=>h.IsListIter it b i/\h.IsList b vs) where
 live:=fun _ _ st=>let ⟨o,ho,_⟩:=st.1; ⟨o,ho⟩
 frame:=fun _ _ _ st hk=>⟨let ⟨o,ho,r⟩:=st.1; ⟨o,hk it (by simp) o ho,r⟩,let ⟨o,ho,r⟩:=st.2; ⟨o,hk b (by simp) o ho,r⟩⟩
 item:=fun i s Q E hi st hQ=>wpAny_nextOf_list_item st.1 st.2 (show vs[i]?=some vs[i] by simp [hi]) fun g h1 sb=>hQ _ g s.toks (by simp [hi]) ⟨h1,let ⟨o,e,r⟩:=st.2; ⟨o,sb.extBut _ _ hne.symm e,r⟩⟩ sb
 done:=fun s Q E st hE=>wpAny_nextOf_list_end hh st.1 st.2 (by simp) hE
noncomputable def IteL (K:PySem.W.Frag) (b:Addr):It :=
  ⟨fun i H=>∃ xs x,SqL K H b xs/\xs[i]?=some x,
   fun i H x H'=>∃ T p,H T=none/\x=.ref T/\H'=upd H T (.tup [.int (i:Int),p])/\∀ xs,SqL K H b xs->xs[i]?=some p,
   fun i H=>∃ xs,SqL K H b xs/\xs.length<=i⟩
noncomputable def eTnL (e it b:Addr) (n:Nat) (h:Heap):Prop:=(∃ old,IsEnum h e it n old)/\h.IsListIter it b n
theorem turn_enumL {P:Program} {w:World} {K:PySem.W.Frag} {elts:List Expr} {x1:Nat} {pos:Pos} {e it b:Addr} (ei:e≠it) (eb:e≠b) (ib:it≠b) :
  Turn P w K (.Tuple elts x1 pos) (IteL K b) [e,it] e (eTnL e it b) where
 mem:=by simp
 obj:=fun n h st k hk=>by
  obtain ⟨⟨old,he⟩,⟨o1,e1,_,d1⟩⟩:=st
  simp only [List.mem_cons,List.not_mem_nil,or_false] at hk
  rcases hk with rfl | rfl
  ·exact ⟨_,he,fun w e=>nomatch e⟩
  ·exact ⟨_,e1,fun w e=>by rw [d1] at e; cases e⟩
 keep:=fun n h h' st k=>by
  obtain ⟨⟨old,he⟩,h1⟩:=st
  exact ⟨⟨old,k e (by simp) _ he⟩,h1.at fun o z=>k it (by simp) o z⟩
 item:=by
  intro X hP hw hK hc n pins s σ H E I hf st hg
  subst hP hw hK
  obtain ⟨⟨old,he⟩,h1⟩:=st
  obtain ⟨xs,x,q1,hx⟩:=hg
  obtain ⟨its,rv,p,sz1⟩:=I.list q1
  obtain ⟨vx,hvx,rx⟩:=rv.get hx
  have pt:s.heap.IsList b its.toArray:=p.isList
  have hn:n < its.toArray.size:=by
   have:=(List.getElem?_eq_some_iff.mp hvx).1
   simpa using this
  have D:=drawsL (prog:=X.prog) (w:=X.w) (A:=X.A.in1) (I.ok.hd hc) ib its.toArray
  refine wpAny_pyNext_enum_itemD D he ⟨h1,pt⟩ hn ei (by simp [ei,eb]) fun v g tk hv a1 a2 a3 a4 a5=>?_
  have ev:v=vx:=by
   have:its.toArray[n]?=some vx:=by simpa using hvx
   rw [this] at hv; cases hv; rfl
  subst ev
  have lt:∀ {k o},s.heap.get? k=some o->k≠s.heap.objs.size:=fun e=>Nat.ne_of_lt (Heap.lt_size e)
  have li:it≠s.heap.objs.size:=by obtain ⟨o,e,_⟩:=h1; exact lt e
  refine ⟨_,rfl,wpAny_letOwnedTupleGo_enum a1 fun g' z' sb=>?_⟩
  have nf:H s.heap.objs.size=none:=I.hok.fresh (Nat.le_refl _)
  have tp:g'.get? s.heap.objs.size=some { cls:=.type "tuple",data:=.seq #[.int n tk,v] }:=sb.extBut _ _ (Ne.symm (lt he)) a3
  have I1:Inv X pins σ (upd H s.heap.objs.size (.tup [.int (n:Int),x])) { s with heap:=s.heap.push { cls:=.type "tuple",data:=.seq #[.int n tk,v] },toks:=s.toks } :=
   I.laid (fun k o e=>Heap.get?_push_of_some _ e) (Nat.le_refl _) ⟨by simp only [List.length_cons,List.length_nil]; rw [sizeLine_eq]; decide,[.int n tk,v],.cons ⟨tk,rfl⟩ (.cons rx .nil),⟨_,Heap.get?_push_size _ rfl,rfl,_,rfl⟩⟩
  have ff:∀ k∈[e,it],k≠s.heap.objs.size:=fun k hk=>by
   simp only [List.mem_cons,List.not_mem_nil,or_false] at hk
   rcases hk with rfl | rfl
   ·exact lt he
   ·exact li
  have f':∀ k∈[e,it],FpOk X pins (upd H s.heap.objs.size (.tup [.int (n:Int),x])) k:=fun k hk=>⟨by rw [upd_ne (ff k hk)]; exact (hf k hk).1,(hf k hk).2⟩
  have I2:Inv X pins σ (upd H s.heap.objs.size (.tup [.int (n:Int),x])) { s with heap:=g',toks:=tk + 1 }:=by
   refine turnedL (s:={ s with heap:=s.heap.push { cls:=.type "tuple",data:=.seq #[.int n tk,v] },toks:=s.toks }) (h':=g') (t':=tk + 1) I1 (fun k o hk e=>?_) f'
   rcases Heap.get?_push_cases e with ⟨rfl,rfl⟩ | e'
   ·exact tp
   ·simp only [List.mem_cons,List.not_mem_nil,or_false,not_or] at hk
    exact sb.extBut _ _ hk.1 (a5 k o hk.1 hk.2 e')
  refine ⟨.ref s.heap.objs.size,_,I2,rfl,⟨_,x,nf,rfl,rfl,fun xs' q=>by rw [I.list_inj q q1]; exact hx⟩,?_,fun k hk=>(f' k hk).1⟩
  exact ⟨⟨_,z'⟩,a2.1.extBut sb.extBut ei.symm⟩
 done:=by
  intro X hP hw hK hc n pins s σ H E I hf st hg
  subst hP hw hK
  obtain ⟨⟨old,he⟩,h1⟩:=st
  obtain ⟨xs,q1,hx⟩:=hg
  obtain ⟨its,rv,p,sz1⟩:=I.list q1
  have l1:=rv.length
  have pt:s.heap.IsList b its.toArray:=p.isList
  refine enum_endL (I.ok.hd hc) he h1 pt (by simp; omega) fun g k=>⟨rfl,turnedL (h':=g) (t':=s.toks) I (fun m o hm e=>?_) hf⟩
  simp only [List.mem_cons,List.not_mem_nil,or_false,not_or] at hm
  exact k m o hm.2 e
 self:=fun _ _ _ _ _ st h=>by
  obtain ⟨⟨old,he⟩,_⟩:=st
  exact wpAny_pyIter_enum he h
noncomputable def enD (xs:List D):List D:=xs.mapIdx fun i x=>.tup [.int (i:Int),x]
noncomputable def itEnum:List D->Mem->(List D->(Mem->Prop)->Mem->Prop)->Prop
 | [.tup xs],M,R=>R (enD xs) (fun _=>True) M
 | [.lst a],M,R=>∃ xs,M a=some (.ls xs)/\R (enD xs) (fun M'=>M' a=some (.ls xs)) M
 | _,_,_=>False
noncomputable def diEnum (ta:DA):DI:=fun δ M R=>ta δ M fun ds M1=>itEnum ds M1 R
theorem itd_enumT {K:PySem.W.Frag} {H0:Hp} {a:Addr} {vs:List V} {xs:List D} (ha:SqT K H0 a vs) (r:RelDs K H0 vs xs):ItD K H0 (IteT K a) (enD xs) (fun _=>True):=fun i H M x m k=>by
 have ha':=x.tup _ _ ha
 have r':=r.ext x
 have l1:=r.length
 refine ⟨fun hl=>?_,fun hl=>?_,fun y H' hy=>?_⟩
 ·simp only [enD,List.length_mapIdx] at hl
  exact ⟨vs,vs[i]'(by omega),ha',List.getElem?_eq_getElem _⟩
 ·simp only [enD,List.length_mapIdx] at hl
  exact ⟨vs,ha',by omega⟩
 ·obtain ⟨T,p,hn,rfl,rfl,e1⟩:=hy
  have ex:HExt K H (L2.upd H T (.tup [.int (i:Int),p])):=HExt.upd (.inl hn)
  refine ⟨ex,m.tup hn,fun d hd=>?_⟩
  simp only [enD,List.getElem?_mapIdx] at hd
  have f1:=e1 _ ha'
  cases h1:xs[i]? with
  | none=>rw [h1] at hd; simp at hd
  | some dx =>
   rw [h1] at hd
   simp at hd
   subst hd
   obtain ⟨v1,g1,g2⟩:=r'.get h1
   rw [f1] at g1; cases g1
   exact .tup (.inl (.of L2.upd_same)) (.cons (.int _) (.cons (g2.ext ex) .nil))
theorem itd_enumL {K:PySem.W.Frag} {H0:Hp} {a:Addr} {xs:List D}:ItD K H0 (IteL K a) (enD xs) (fun M'=>M' a=some (.ls xs)):=fun i H M x m k=>by
 obtain ⟨vs,ev,r'⟩:=m _ _ k
 have l1:=r'.length
 refine ⟨fun hl=>?_,fun hl=>?_,fun y H' hy=>?_⟩
 ·simp only [enD,List.length_mapIdx] at hl
  exact ⟨vs,vs[i]'(by omega),.of ev,List.getElem?_eq_getElem _⟩
 ·simp only [enD,List.length_mapIdx] at hl
  exact ⟨vs,.of ev,by omega⟩
 ·obtain ⟨T,p,hn,rfl,rfl,e1⟩:=hy
  have ex:HExt K H (L2.upd H T (.tup [.int (i:Int),p])):=HExt.upd (.inl hn)
  refine ⟨ex,m.tup hn,fun d hd=>?_⟩
  simp only [enD,List.getElem?_mapIdx] at hd
  have f1:=e1 _ (.of ev)
  cases h1:xs[i]? with
  | none=>rw [h1] at hd; simp at hd
  | some dx =>
   rw [h1] at hd
   simp at hd
   subst hd
   obtain ⟨v1,g1,g2⟩:=r'.get h1
   rw [f1] at g1; cases g1
   exact .tup (.inl (.of L2.upd_same)) (.cons (.int _) (.cons (g2.ext ex) .nil))
section
variable {X:Cx} {rz:Bool} {Xe:DSt->DK} {pos:Pos}
theorem di_enum {a:Expr} {es:List Expr} {ta:DA} {p:Pos} {elts:List Expr} {x1:Nat} {tp:Pos} (hg:Gl X "enumerate") (hm:X.mg "enumerate"=none) (ha:PA X (a :: es) (liftA (X.L rz Xe) ta)) (hs:starEach (a :: es) X.env=(false,eval a X.env) :: starEach es X.env) (hpl:(backTo pos (starEach es X.env)).any (·.1)=false) :
  PI X (.Tuple elts x1 tp) (.Call (.Name "enumerate" p) (a :: es) [] pos) (liftI (X.L rz Xe) (diEnum ta)):=by
 rintro pins s σ H R I ⟨δ,M,Rd,rs,rm,t,q⟩
 refine Call_ (ld_blt I hg hm boot_enumerate (PyProof.Rows.callWith_type1 (thn (ha pos pins s σ H (fun vs H1=>(∃ b xs,vs=[.ref b]/\SqT X.K H1 b xs/\R (IteT X.K b) H1)\/∃ b xs,vs=[.ref b]/\SqL X.K H1 b xs/\R (IteL X.K b) H1) I ⟨δ,M,_,rs,rm,t,fun ds M1 vs H1 x1 m1 r1 h1=>?_⟩) fun us s1 ⟨vs,H1,I1,r1,q1⟩=>?_) hs hpl))
 ·unfold itEnum at h1
  split at h1
  ·cases r1 with
   | cons ra rr =>
    cases rr
    cases ra with
    | tup ha ra=>exact .inl ⟨_,_,rfl,ha,q _ _ _ _ _ x1 m1 trivial (itd_enumT ha ra) h1⟩
  ·obtain ⟨xs,ea,h1⟩:=h1
   cases r1 with
   | cons ra rr =>
    cases rr
    cases ra
    obtain ⟨vs,ev,_⟩:=m1 _ _ ea
    exact .inr ⟨_,_,rfl,.of ev,q _ _ _ _ _ x1 m1 ea itd_enumL h1⟩
  ·exact h1.elim
 ·have fin:∀ m∈[s1.heap.objs.size + 1,s1.heap.objs.size],FpOk X pins H1 m:=fun m hm=>by
   have le:s1.heap.objs.size<=m:=by
    simp only [List.mem_cons,List.not_mem_nil,or_false] at hm
    rcases hm with rfl | rfl
    ·exact Nat.le_add_right _ _
    ·exact Nat.le_refl _
   exact I1.fpOk le (I1.hok.fresh le)
  rcases q1 with q1 | q1
  ·obtain ⟨b,xs,e,hb,q⟩:=q1
   subst e
   cases r1 with
   | cons r rr =>
    cases rr
    cases r
    obtain ⟨its,rv,pb,_⟩:=I1.tuple hb
    have lb:b < s1.heap.objs.size:=by obtain ⟨o,e,_⟩:=pb; exact Heap.lt_size e
    refine call_enumT (show s1.heap.IsTuple b its.toArray from pb) fun g st1 st2 _ k=>?_
    refine wpAny_pyIter_enum st1 ?_
    exact ⟨_,[s1.heap.objs.size + 1,s1.heap.objs.size],_,_,H1,rfl,I1.kept (t':=s1.toks) k,turn_enumT (Nat.succ_ne_self _) (Nat.ne_of_gt (Nat.lt_succ_of_lt lb)) (Nat.ne_of_gt lb),⟨⟨_,st1⟩,st2⟩,fin,q⟩
  ·obtain ⟨b,xs,e,hb,q⟩:=q1
   subst e
   cases r1 with
   | cons r rr =>
    cases rr
    cases r
    obtain ⟨its,rv,pb,_⟩:=I1.list hb
    have lb:b < s1.heap.objs.size:=by obtain ⟨o,e,_⟩:=pb.isList; exact Heap.lt_size e
    refine call_enumerate_list pb.isList fun g st1 st2 _ k=>?_
    refine wpAny_pyIter_enum st1 ?_
    exact ⟨_,[s1.heap.objs.size + 1,s1.heap.objs.size],_,_,H1,rfl,I1.kept (t':=s1.toks) k,turn_enumL (Nat.succ_ne_self _) (Nat.ne_of_gt (Nat.lt_succ_of_lt lb)) (Nat.ne_of_gt lb),⟨⟨_,st1⟩,st2⟩,fin,q⟩
end
end DL
end
noncomputable section
namespace DL
open PySem PySem.Spec PyProof.Rows L2
noncomputable def ini (c x:Str):Nat:=if c="" then 0 else if x="__init__" then 1 else 0
theorem ini0 {x:Str}:ini "" x=0:=if_pos rfl
structure RefAt (K:PySem.W.Frag) (mg:Str->Option Value) (c x:Str) (f:Addr):Prop where
 fn:c=""->mg x=some (.ref f)/\PySem.W.keepIn K (.ref f)=true
 mt:c≠""->c∈oNames/\∃ C,ClsOf K c C/\mg c=some (.ref C)/\(x≠"__init__"->Meth K C x f)/\(x="__init__"->Mk K C f)
structure FnAt (X:Cx) (c x:Str) (S:DSp):Prop where
 ex:∃ k f fd ps,FnOk X.prog X.w X.K X.mg X.base (CXR X.prog X.w) (k - ini c x) f fd ps (liftSp X.K S)/\ini c x<=k/\(X.calm=true->Room k X.A)/\RefAt X.K X.mg c x f/\Binds X.K fd ps []
noncomputable def putD (f:Str) (d:D):List (Str×D)->List (Str×D)
 | []=>[(f,d)]
 | (g,x) :: r=>if g=f then (g,d) :: r else (g,x) :: putD f d r
noncomputable def dFld (n f:Str) (ta:DE):DE:=fun δ M Q=>ta δ M fun x M1=>∃ a fs d,x=.ref a/\M1 a=some (.ob n fs)/\fs.lookup f=some d/\Q d M1
noncomputable def dMeth (n m:Str) (S:DSp) (E:DSt->DK) (ta:DE) (t:DA):DE:=fun δ M Q=>ta δ M fun x M1=>∃ a fs,x=.ref a/\M1 a=some (.ob n fs)/\fs.lookup m=none/\t δ M1 fun xs M2=>S (.ref a :: xs) M2 Q (E δ)
noncomputable def dMake (n:Str) (S:DSp) (E:DSt->DK) (t:DA):DE:=fun δ M Q=>t δ M fun xs M1=>alloc M1 (.ob n []) fun p M'=>S (.ref p :: xs) M' (fun d M2=>d=.non/\Q (.ref p) M2) (E δ)
noncomputable def dSetF (n f:Str) (i:Nat) (te:(DSt->DK)->DE):DS:=fun D δ M=>te D.ex δ M fun y M1=>∃ a fs,δ[i]?=some (some (.ref a))/\M1 a=some (.ob n fs)/\fs.length < 1000/\D.nx δ (M1.upd a (.ob n (putD f y fs)))
section
variable {X:Cx} {rz:Bool} {Xe:DSt->DK} {e o:Expr} {es:List Expr} {t:DA} {te to:DE} {x n m f:Str} {p pos apos pos':Pos} {S:DSp}
theorem run_fnR {k:Nat} {f:Addr} {fd:FuncData} {ps:List Str} {S:DSp} {pins:List (Addr×Obj)} {σ:L2.St} {H:Hp} {s:Shared} {Q:VK} {us:List Value} {vs:List V} {δ:DSt} {ds:List D} {M:Mem} {R:DK}
  (F:FnOk X.prog X.w X.K X.mg X.base (CXR X.prog X.w) k f fd ps (liftSp X.K S)) (hr:Room k X.A) (hb:Binds X.K fd ps []) (I:L2.Inv X pins σ H s) (r:Vals vs us)
  (rs:RepS (X.L rz Xe) H δ σ) (rm:RepM X.K H M) (rd:RelDs X.K H vs ds) (h:S ds M R (Xe δ)) (q:∀ d' M' v H',HExt X.K H H'->RepM X.K H' M'->RelD X.K H' v d'->R d' M'->Q v H') :
  wpAny (model X.prog X.w) X.A (call (.ref f) us) (EP X pins σ Q) X.xe s:=by
 obtain ⟨Ex,hEx⟩:∃ Ex:XK,Ex=fun cv odx H'=>∃ n M' C x,cv=.ref C/\HExt X.K H H'/\RepM X.K H' M'/\n∈xNames/\ClsOf X.K n C/\ExD X.K H' n odx x/\Xe δ (.exc n x) M':=⟨_,rfl⟩
 have hsp:liftSp X.K S vs H Q Ex:=⟨ds,M,R,_,rd,rm,h,q,fun n M' H' C dd xd x m hn hc ed e=>by rw [hEx]; exact ⟨n,M',C,xd,rfl,x,m,hn,hc,ed,e⟩⟩
 have hl:us.length=ps.length:=by rw [<- r.length]; exact F.len _ _ _ _ hsp
 have hbb:=hb s us I.kIn (by simpa using hl)
 rw [List.append_nil] at hbb
 refine wpAny_call (codeAny_mono (F.run X.A X.stack s H ⟨us,[]⟩ us vs Q Ex hr I.env0 hbb r hsp) fun res s' hq=>?_)
 cases res with
 | error e =>
  obtain ⟨e0,C,dd,H',rfl,th,hE⟩:=(show CXR X.prog X.w X.stack H s Ex e s' from hq)
  rw [hEx] at hE
  obtain ⟨n,M',C',xd,hC,x,m,hn,hc,ed,hx⟩:=hE
  cases hC
  exact rs.ok.fly pins σ H s H' e0 C dd s' δ M' n xd x I th m (rs.toSlots.ext x) hn hc ed hx
 | ok fl =>
  cases fl with
  | ret u=>exact I.after hq
  | next=>exact False.elim hq
  | brk=>exact False.elim hq
  | cont=>exact False.elim hq
end
end DL
end
noncomputable section
namespace DL
open PySem PySem.Spec PyProof.Rows L2
theorem vals_ints {i:Int}:∀ {acc:List Value} {n:Nat} {k:Nat},acc.length=n->(∀ (j:Nat) (v:Value),acc[j]?=some v->∃ t,v=Value.int (i + ((k + j:Nat):Int) * 1) t)->Vals ((List.range' k n).map fun m:Nat=>V.int (i + (m:Int))) acc
 | [],n,k,hl,_=>by subst hl; exact .nil
 | v :: acc,n,k,hl,h=>by
  subst hl
  rw [List.length_cons,List.range'_succ,List.map_cons]
  refine .cons ?_ (vals_ints (k:=k + 1) rfl fun j v hv=>?_)
  ·obtain ⟨t,e⟩:=h 0 v rfl
   exact ⟨t,by rw [e]; simp⟩
  ·obtain ⟨t,e⟩:=h (j + 1) v (by simpa using hv)
   exact ⟨t,by rw [e]; congr 3; omega⟩
section
variable {X:Cx} {e:Expr} {es:List Expr} {t:TA} {p p2 pos pos2:Pos}
end
section
variable {X:Cx} {rz:Bool} {a b e:Expr} {te ta tb:(DSt->DK)->DE} {pos pos':Pos}
end
section
variable {X:Cx} {rz:Bool} {Xe:DSt->DK} {e:Expr} {es:List Expr} {t:DA} {p p2 pos pos2:Pos}
end
section
variable {X:Cx} {a b:Expr} {rest:List Expr} {pos:Pos}
end
noncomputable def dPar3 (i j k:Nat) (ta:(DSt->DK)->DA):DS:=fun D δ M=>ta D.ex δ M fun ds M1=>∃ u v w,ds=[u,v,w]/\D.nx (((δ.set i (some u)).set j (some v)).set k (some w)) M1
section
variable {X:Cx} {i j k:Nat} {x y z:Str} {a b c:Expr} {px py pz pt pos:Pos} {kt k2:Nat} {pt2:Pos}
theorem ps_par3 {ta:TA} (hc:X.calm=true) (hN:X.N.Nodup) (hi:X.N[i]?=some x) (hj:X.N[j]?=some y) (hk:X.N[k]?=some z) (hij:i≠j) (hik:i≠k) (hjk:j≠k)
  (hx:X.env.scope.names.lookup x=some .local) (hy:X.env.scope.names.lookup y=some .local) (hz:X.env.scope.names.lookup z=some .local) (ha:PA X [a,b,c] ta)
  (hw:swappedStores [.Tuple [.Name x px,.Name y py,.Name z pz] kt pt] (.Tuple [a,b,c] k2 pt2) X.env=pure (some [x,y,z]))
  (hs:swapsWithSole [.Tuple [.Name x px,.Name y py,.Name z pz] kt pt] (.Tuple [a,b,c] k2 pt2) pos.line X.env=pure false) :
  PS X (.Assign [.Tuple [.Name x px,.Name y py,.Name z pz] kt pt] (.Tuple [a,b,c] k2 pt2) pos) (fun D σ H=>ta σ H fun vs H1=>∃ u v w,vs=[u,v,w]/\D.nx (((σ.set i (some u)).set j (some v)).set k (some w)) H1):=by
 intro pins s σ H D I h
 rw [exec_Assign_arm]
 refine wpAny_bind (wpAny_standAt ?_)
 rw [hs]
 refine wpAny_bind (wpAny_pure ?_)
 rw [if_neg (by decide)]
 refine wpAny_bind (Tuple_ (thn (ha _ pins s σ H _ I h) fun us s1 hq2=>?_))
 obtain ⟨vs,H1,I1,r1,q1⟩:=hq2
 obtain ⟨u,v,w,e1,q1⟩:=q1
 subst e1
 obtain ⟨u1,u2,u3,rfl,ru,rv,rw'⟩:∃ u1 u2 u3,us=[u1,u2,u3]/\RelV u u1/\RelV v u2/\RelV w u3:=by
  cases r1 with
  | cons p q =>
   cases q with
   | cons p' q' =>
    cases q' with
    | cons p'' q'' =>
     cases q''
     exact ⟨_,_,_,rfl,p,p',p''⟩
 refine wpAny_newObj_type ?_ (by show 3<=sizeLine; decide)
 have I2:Inv X pins σ H1 { s1 with heap:=s1.heap.push { cls:=.type "tuple",data:=.seq [u1,u2,u3].toArray } }:=I1.kept (t':=s1.toks) fun b o e=>Heap.get?_push_of_some _ e
 rw [hw]
 refine wpAny_bind (wpAny_pure ?_)
 show wpAny (model X.prog X.w) X.A (do rule "assign.swapped-stores"; let items <- unpackItems (.ref s1.heap.objs.size) 3 none; assignInOrder [fun v=>bindName X.env z v,fun v=>bindName X.env y v,fun v=>bindName X.env x v] items.reverse; pure Flow.next) _ _ _
 refine wpAny_bind (wpAny_rule (wpAny_bind (unpackItems_tuple (items:=#[u1,u2,u3]) (I.ok.hd hc) (IsTup.new s1.heap _) fun h' hx'=>?_)))
 have I3:=I2.kept (h':=h') (t':=s1.toks) fun b o e=>hx' b o (Nat.ne_of_lt (Heap.lt_size e)) e
 show wpAny _ _ (assignInOrder [fun v=>bindName X.env z v,fun v=>bindName X.env y v,fun v=>bindName X.env x v] [u3,u2,u1] >>= fun _=>pure Flow.next) _ _ _
 refine wpAny_bind (assignInOrder_cons (wpAny_bindName (store_ok I3 hN hk (.inl hz) rw' (fun s2 I4=>?_) (.inr hz))))
 refine assignInOrder_cons (wpAny_bindName (store_ok I4 hN hj (.inl hy) rv (fun s3 I5=>?_) (.inr hy)))
 refine assignInOrder_cons (wpAny_bindName (store_ok I5 hN hi (.inl hx) ru (fun s4 I6=>assignInOrder_nil (wpAny_pure ?_)) (.inr hx)))
 rw [List.set_comm _ _ (Ne.symm hij),List.set_comm _ _ (Ne.symm hik),List.set_comm _ _ (Ne.symm hjk)] at I6
 exact ⟨_,H1,I6,q1⟩
theorem ds_par3 {rz:Bool} {ta:(DSt->DK)->DA} (hc:X.calm=true) (hN:X.N.Nodup) (hi:X.N[i]?=some x) (hj:X.N[j]?=some y) (hk:X.N[k]?=some z) (hij:i≠j) (hik:i≠k) (hjk:j≠k)
  (hx:X.env.scope.names.lookup x=some .local) (hy:X.env.scope.names.lookup y=some .local) (hz:X.env.scope.names.lookup z=some .local) (ha:∀ Xe,PA X [a,b,c] (liftA (X.L rz Xe) (ta Xe)))
  (hw:swappedStores [.Tuple [.Name x px,.Name y py,.Name z pz] kt pt] (.Tuple [a,b,c] k2 pt2) X.env=pure (some [x,y,z]))
  (hs:swapsWithSole [.Tuple [.Name x px,.Name y py,.Name z pz] kt pt] (.Tuple [a,b,c] k2 pt2) pos.line X.env=pure false) :
  PS X (.Assign [.Tuple [.Name x px,.Name y py,.Name z pz] kt pt] (.Tuple [a,b,c] k2 pt2) pos) (liftS X rz (dPar3 i j k ta)):=by
 rintro pins s σ H E I ⟨δ,M,D,rs,rm,t,n,r,b,c⟩
 exact (ps_par3 hc hN hi hj hk hij hik hjk hx hy hz (ha D.ex) hw hs) pins s σ H E I <| ⟨δ,M,_,rs,rm,t,fun ds M' vs H' x m q ⟨u,v,w,e,h⟩=>by
  subst e
  cases q with
  | cons r1 q =>
   obtain ⟨v',w',rfl,r2,r3⟩:=q.two
   exact ⟨_,v',w',rfl,n _ _ _ _ x ((((rs.ext x).set r1 i).set r2 j).set r3 k) m h⟩⟩
end
end DL
namespace PySem
open Sem (wp)
section
variable {prog:Program} {w:World} {A:Around} {E:Value->Shared->Prop} {s:Shared}
end
end PySem
namespace DL
open PySem PySem.Spec PyProof.Rows L2
section
variable {z u v i j b c:Addr} {n:Nat}
variable {prog:Program} {w:World} {A:Around} {E:Value->Shared->Prop} {s:Shared} {xs ys:Array Value} {x y:Value}
end
section
variable {X:Cx} {pins:List (Addr×Obj)} {σ:L2.St} {z u v i j b c S:Addr} {A:Around} {R:Result->Shared->Prop} {res:Value} {vs ws:List V}
end
end DL
namespace PySem
namespace F
end F
end PySem
namespace DL
open PySem PySem.Spec PyProof.Rows L2
section
variable {X:Cx} {pins:List (Addr×Obj)} {σ:L2.St} {z u v i j b c S:Addr} {A:Around} {R:Result->Shared->Prop} {res:Value} {vs ws:List V} {H:Hp} {s:Shared}
end
end DL
namespace DL
open PySem PySem.Spec PyProof.Rows L2
section
variable {X:Cx} {e:Expr} {es:List Expr} {t:TA} {p p2 pos pos2:Pos}
end
section
variable {X:Cx} {rz:Bool} {Xe:DSt->DK} {e:Expr} {es:List Expr} {t:DA} {p p2 pos pos2:Pos}
end
end DL
namespace DL
open PySem PySem.Spec PyProof.Rows L2
section
variable {X:Cx}
end
section
variable {X:Cx} {rz:Bool} {Xe:DSt->DK} {o e:Expr} {to ta:DE} {apos cpos:Pos}
end
section
variable {X:Cx} {a b:Expr} {p1 p2 p3 pos:Pos} {k:Nat} {x:Str}
end
section
variable {X:Cx} {rz:Bool} {Xe:DSt->DK} {a b:Expr} {ta tb:DE} {p1 p2 p3 pos:Pos} {k:Nat} {x:Str}
end
section
variable {X:Cx}
end
section
variable {X:Cx} {rz:Bool} {Xe:DSt->DK} {tg:Expr}
end
section
variable {X:Cx} {rz:Bool} {a b e:Expr} {te ta tb:(DSt->DK)->DE} {pos pos':Pos}
end
section
variable {X:Cx} {rz:Bool} {Xe:DSt->DK} {o e f:Expr} {to ta tb:DE} {apos pos:Pos}
end
end DL
end
noncomputable section
namespace DL
open PySem PySem.W PyProof.Rows L2
section
variable (lt:Nat->Nat->Bool) (N:Nat)
variable {lt N}
noncomputable def gA (p:Array Nat) (i:Nat):Nat:=p.getD i 0
noncomputable def St (lt:Nat->Nat->Bool) (p:Array Nat) (k:Nat):Prop:=∀ i j,i<=j->j < k->lt (gA p j) (gA p i)=false
end
section
variable {prog:Program} {w:World} {A:Around} {E:Value->Shared->Prop} {s:Shared}
end
section
variable {X:Cx}
end
end DL
end
noncomputable section
namespace DL
open PySem PySem.Spec PyProof.Rows L2
section
variable {X:Cx} {rz:Bool} {Xe:DSt->DK} {e o:Expr} {es:List Expr} {t:DA} {te to:DE} {x:Str} {p pos apos:Pos}
theorem de_call {S:DSp} (hcal:X.calm=true) (F:FnAt X "" x S) (hg:Gl X x) (ha:PA X (e :: es) (liftA (X.L rz Xe) t)) (hdb:(x == ("__debug__":Str))=false) (he:starEach (e :: es) X.env=(false,eval e X.env) :: starEach es X.env) (hpl:(backTo pos (starEach es X.env)).any (·.1)=false) :
  PE X (.Call (.Name x p) (e :: es) [] pos) (lift (X.L rz Xe) (dCall S Xe t)):=by
 obtain ⟨k,f,fd,ps,F,_,hr,rf,hb⟩:=F.ex
 rw [ini0,Nat.sub_zero] at F
 obtain ⟨hm,hk⟩:=rf.fn rfl
 rintro pins s σ H Q I ⟨δ,M,R,rs,rm,t,q⟩
 refine wpAny_Call_Name_kw (ld_glob I hg hm ?_ hdb)
 refine PySem.W.callWith_K (h₀:=X.base) I.ok.mod.kin hk (thn (ha pos pins s σ H (fun vs H1=>∃ ds M1,HExt X.K H H1/\RepM X.K H1 M1/\RelDs X.K H1 vs ds/\S ds M1 R (Xe δ)) I ⟨δ,M,_,rs,rm,t,fun ds M1 vs H1 x m r h=>⟨ds,M1,x,m,r,h⟩⟩) fun us s1 ⟨vs,H1,I1,r,ds,M1,x1,m1,r1,h1⟩=>⟨I1.kIn,?_⟩) he hpl
 exact run_fnR F (hr hcal) hb I1 r (rs.ext x1) m1 r1 h1 fun d' M' v H' x=>q d' M' v H' (x1.trans x)
theorem de_call0 {S:DSp} (hcal:X.calm=true) (F:FnAt X "" x S) (hg:Gl X x) (hdb:(x == ("__debug__":Str))=false):PE X (.Call (.Name x p) [] [] pos) (lift (X.L rz Xe) (dCall S Xe dNil)):=by
 obtain ⟨k,f,fd,ps,F,_,hr,rf,hb⟩:=F.ex
 rw [ini0,Nat.sub_zero] at F
 obtain ⟨hm,hk⟩:=rf.fn rfl
 rintro pins s σ H Q I ⟨δ,M,R,rs,rm,t,q⟩
 refine wpAny_Call_Name_kw (ld_glob I hg hm ?_ hdb)
 exact PySem.W.callWith_K0 I.kIn hk (run_fnR (us:=[]) F (hr hcal) hb I .nil rs rm .nil t q)
noncomputable def dCallV (alts:List (Str×DSp)) (i:Nat) (Xe:DSt->DK) (t:DA):DE:=fun δ M Q=>∃ n S,δ[i]?=some (some (.fn n))/\(n,S)∈alts/\t δ M fun ds M1=>S ds M1 Q (Xe δ)
structure GloAt (X:Cx) (x:Str) (d:D):Prop where
 ex:∃ u v,X.mg x=some u/\RelV v u/\∀ H,RelD X.K H v d
theorem de_callv {alts:List (Str×DSp)} {i:Nat} (hcal:X.calm=true) (A:∀ n S,(n,S)∈alts->FnAt X "" n S/\GloAt X n (.fn n)) (hv:PE X (.Name x p) (tVar i)) (ha:PA X (e :: es) (liftA (X.L rz Xe) t)) (he:starEach (e :: es) X.env=(false,eval e X.env) :: starEach es X.env) (hpl:(backTo pos (starEach es X.env)).any (·.1)=false) :
  PE X (.Call (.Name x p) (e :: es) [] pos) (lift (X.L rz Xe) (dCallV alts i Xe t)):=by
 rintro pins s σ H Q I ⟨δ,M,R,rs,rm,⟨n,S,e1,mem,t⟩,q⟩
 obtain ⟨F1,G⟩:=A n S mem
 obtain ⟨k,f,fd,ps,F,_,hr,rf,hb⟩:=F1.ex
 rw [ini0,Nat.sub_zero] at F
 obtain ⟨hm,hk⟩:=rf.fn rfl
 obtain ⟨v,h1,h2⟩:=rs.slot i _ e1
 have hvf:v=.ref f:=by
  obtain ⟨u,v',g1,g2,g3⟩:=G.ex
  cases h2 with
  | fn hc =>
   cases g3 fun _=>none with
   | fn hc' =>
    have g2:u=_:=g2
    rw [g2] at g1
    have z1:=g1.symm.trans hm
    injection z1 with z1
    injection z1 with z1
    have z2:=hc.symm.trans hc'
    injection z2 with z2
    injection z2 with z2
    injection z2 with z2
    rw [z2,z1]
 subst hvf
 refine wpAny_Call_Name_kw (thn (hv pins s σ H (fun v' H'=>v'=.ref f/\H'=H) I ⟨_,h1,rfl,rfl⟩) ?_)
 rintro u s0 ⟨v',H',I0,r0,ev,eH⟩
 subst ev
 subst eH
 have r0:u=.ref f:=r0
 subst r0
 refine PySem.W.callWith_K (h₀:=X.base) I0.ok.mod.kin hk (thn (ha pos pins s0 σ H' (fun vs H1=>∃ ds M1,HExt X.K H' H1/\RepM X.K H1 M1/\RelDs X.K H1 vs ds/\S ds M1 R (Xe δ)) I0 ⟨δ,M,_,rs,rm,t,fun ds M1 vs H1 x m r h=>⟨ds,M1,x,m,r,h⟩⟩) fun us s1 ⟨vs,H1,I1,r,ds,M1,x1,m1,r1,h1⟩=>⟨I1.kIn,?_⟩) he hpl
 exact run_fnR F (hr hcal) hb I1 r (rs.ext x1) m1 r1 h1 fun d' M' v H' x=>q d' M' v H' (x1.trans x)
noncomputable def dApp (to te:DE):DE:=fun δ M Q=>to δ M fun o M1=>∃ a ys,o=.lst a/\M1 a=some (.ls ys)/\te δ M1 fun y M2=>∃ xs,M2 a=some (.ls xs)/\xs.length < sizeLine/\Q .non (M2.upd a (.ls (xs++[y])))
theorem de_app (ho:PE X o (lift (X.L rz Xe) to)) (he:PE X e (lift (X.L rz Xe) te)) (hbase:attributeBase o "append" X.env (eval o X.env)=eval o X.env) (hs:∀ es,starEach (e :: es) X.env=(false,eval e X.env) :: starEach es X.env) (hline:(apos.endLine == pos.line)=true) :
  PE X (.Call (.Attribute o "append" apos) [e] [] pos) (lift (X.L rz Xe) (dApp to te)):=by
 refine (pe_bm PySem.F.plainAttrs_list PySem.F.slot_list_append PySem.F.type_list_append mt_append ho (da_cons he da_nil (hs _)) hbase (by rw [hs]; rfl) hline (hs _) rfl).imp fun σ H Q h=>?_
 obtain ⟨δ,M,R,rs,rm,t,q⟩:=h
 refine ⟨δ,M,_,rs,rm,t,fun d M1 v H1 x1 m1 r1 hq7=>?_⟩
 obtain ⟨a,ys,e1,e2,h1⟩:=hq7
 subst e1
 cases r1
 obtain ⟨vs,ev,_⟩:=m1 _ _ e2
 refine ⟨.inl ⟨rfl,_,.of ev⟩,δ,M1,fun ds M2=>∃ y,ds=[y]/\∃ xs,M2 a=some (.ls xs)/\xs.length < sizeLine/\R .non (M2.upd a (.ls (xs++[y]))),rs.ext x1,m1,?_,fun ds M2 vs H2 x2 m2 r2 ⟨y,e3,xs,e4,hz,h2⟩=>?_⟩
 ·obtain ⟨K',hK'⟩:∃ K':D->Mem->Prop,K'=fun y M2=>∃ xs,M2 a=some (.ls xs)/\xs.length < sizeLine/\R .non (M2.upd a (.ls (xs++[y]))):=⟨_,rfl⟩
  have:(fun x M2=>∃ y,[x]=[y]/\∃ xs,M2 a=some (.ls xs)/\xs.length < sizeLine/\R .non (M2.upd a (.ls (xs++[y]))))=K':=by
   rw [hK']; funext x M2; apply propext; constructor
   ·rintro ⟨y,e,h⟩; cases e; exact h
   ·exact fun h=>⟨x,rfl,h⟩
  show te δ M1 fun x M2=>∃ y,[x]=[y]/\∃ xs,M2 a=some (.ls xs)/\xs.length < sizeLine/\R .non (M2.upd a (.ls (xs++[y])))
  rw [this,hK']; exact h1
 ·subst e3
  obtain ⟨v,rfl,rv⟩:=r2.one
  obtain ⟨ws,ew,rw'⟩:=m2 _ _ e4
  exact ⟨a,ws,v,rfl,rfl,ew,by rw [rw'.length]; exact hz,q _ _ _ _ ((x1.trans x2).trans (.upd (.inr ⟨_,ew,trivial⟩))) (m2.write ew (rw'.append (.cons rv .nil))) .non h2⟩
noncomputable def dExt (to te:DE):DE:=fun δ M Q=>to δ M fun o M1=>∃ a ys,o=.lst a/\M1 a=some (.ls ys)/\te δ M1 fun y M2=>∃ b xs zs,y=.lst b/\M2 a=some (.ls xs)/\M2 b=some (.ls zs)/\xs.length + zs.length<=sizeLine/\Q .non (M2.upd a (.ls (xs++zs)))
noncomputable def dIns (to ta te:DE):DE:=fun δ M Q=>to δ M fun o M1=>∃ a ys,o=.lst a/\M1 a=some (.ls ys)/\ta δ M1 fun x M2=>te δ M2 fun y M3=>∃ xs k,x=.int k/\M3 a=some (.ls xs)/\0<=k/\k<=xs.length/\xs.length < sizeLine/\Q .non (M3.upd a (.ls (insAt xs k y)))
theorem de_ins {e2:Expr} {ta:DE} (ho:PE X o (lift (X.L rz Xe) to)) (h1:PE X e (lift (X.L rz Xe) ta)) (h2:PE X e2 (lift (X.L rz Xe) te)) (hbase:attributeBase o "insert" X.env (eval o X.env)=eval o X.env) (hs:∀ es,starEach (e :: es) X.env=(false,eval e X.env) :: starEach es X.env) (hs2:∀ es,starEach (e2 :: es) X.env=(false,eval e2 X.env) :: starEach es X.env) (hline:(apos.endLine == pos.line)=true) :
  PE X (.Call (.Attribute o "insert" apos) [e,e2] [] pos) (lift (X.L rz Xe) (dIns to ta te)):=by
 refine (pe_bm PySem.F.plainAttrs_list PySem.F.slot_list_insert PySem.F.type_list_insert mt_insert ho (da_cons h1 (da_cons h2 da_nil (hs2 _)) (hs _)) hbase (by rw [hs,hs2]; rfl) hline (hs _) (by rw [hs2]; rfl)).imp fun σ H Q h=>?_
 obtain ⟨δ,M,R,rs,rm,t,q⟩:=h
 refine ⟨δ,M,_,rs,rm,t,fun d M1 v H1 x1 m1 r1 hq7=>?_⟩
 obtain ⟨a,ys,e1,e2,h1⟩:=hq7
 subst e1
 cases r1
 obtain ⟨vs,ev,_⟩:=m1 _ _ e2
 refine ⟨.inl ⟨rfl,_,.of ev⟩,δ,M1,fun ds M2=>∃ x y,ds=[x,y]/\∃ xs k,x=.int k/\M2 a=some (.ls xs)/\0<=k/\k<=xs.length/\xs.length < sizeLine/\R .non (M2.upd a (.ls (insAt xs k y))),rs.ext x1,m1,?_,fun ds M2 vs H2 x2 m2 r2 hq8=>?_⟩
 ·have:∀ x:DL.D,(fun (y:DL.D) (M2:Mem)=>∃ x' y',[x,y]=[x',y']/\∃ xs k,x'=D.int k/\M2 a=some (.ls xs)/\0<=k/\k<=xs.length/\xs.length < sizeLine/\R .non (M2.upd a (.ls (insAt xs k y'))))=fun (y:DL.D) (M2:Mem)=>∃ xs k,x=D.int k/\M2 a=some (.ls xs)/\0<=k/\k<=xs.length/\xs.length < sizeLine/\R .non (M2.upd a (.ls (insAt xs k y))):=fun x=>by
   funext y M2; apply propext; constructor
   ·rintro ⟨x',y',e,h⟩; cases e; exact h
   ·exact fun h=>⟨x,y,rfl,h⟩
  show ta δ M1 fun x M2=>te δ M2 fun y M2=>∃ x' y',[x,y]=[x',y']/\∃ xs k,x'=D.int k/\M2 a=some (.ls xs)/\0<=k/\k<=xs.length/\xs.length < sizeLine/\R .non (M2.upd a (.ls (insAt xs k y')))
  simp only [this]
  exact h1
 ·obtain ⟨x,y,e3,xs,k,e5,e4,k0,k1,hz,h2⟩:=hq8
  subst e3
  subst e5
  obtain ⟨v,w,rfl,rv,rw'⟩:=r2.two
  cases rv
  obtain ⟨ws,ew,rws⟩:=m2 _ _ e4
  have hl:=rws.length
  refine ⟨a,ws,k,w,rfl,rfl,ew,k0,by omega,by omega,q _ _ _ _ ((x1.trans x2).trans (.upd (.inr ⟨_,ew,trivial⟩))) (m2.write ew ?_) .non h2⟩
  unfold insAt
  exact (rws.take _).append (.cons rw' (rws.drop _))
noncomputable def dIdx (to te:DE):DE:=fun δ M Q=>to δ M fun o M1=>∃ a ys,o=.lst a/\M1 a=some (.ls ys)/\te δ M1 fun y M2=>∃ xs j,M2 a=some (.ls xs)/\IxAt M2 xs y j/\Q (.int j) M2
noncomputable def dPop (to te:DE):DE:=fun δ M Q=>to δ M fun o M1=>∃ a ys,o=.lst a/\M1 a=some (.ls ys)/\te δ M1 fun y M2=>∃ xs k x,y=.int k/\M2 a=some (.ls xs)/\0<=k/\k < 1000000/\xs[k.toNat]?=some x/\Q x (M2.upd a (.ls (xs.eraseIdx k.toNat)))
theorem de_pop (ho:PE X o (lift (X.L rz Xe) to)) (he:PE X e (lift (X.L rz Xe) te)) (hbase:attributeBase o "pop" X.env (eval o X.env)=eval o X.env) (hs:∀ es,starEach (e :: es) X.env=(false,eval e X.env) :: starEach es X.env) (hline:(apos.endLine == pos.line)=true) :
  PE X (.Call (.Attribute o "pop" apos) [e] [] pos) (lift (X.L rz Xe) (dPop to te)):=by
 refine (pe_bm PySem.F.plainAttrs_list PySem.F.slot_list_pop PySem.F.type_list_pop mt_popAt ho (da_cons he da_nil (hs _)) hbase (by rw [hs]; rfl) hline (hs _) rfl).imp fun σ H Q h=>?_
 obtain ⟨δ,M,R,rs,rm,t,q⟩:=h
 refine ⟨δ,M,_,rs,rm,t,fun d M1 v H1 x1 m1 r1 hq7=>?_⟩
 obtain ⟨a,ys,e1,e2,h1⟩:=hq7
 subst e1
 cases r1
 obtain ⟨vs,ev,_⟩:=m1 _ _ e2
 refine ⟨.inl ⟨rfl,_,.of ev⟩,δ,M1,fun ds M2=>∃ y,ds=[y]/\∃ xs k x,y=.int k/\M2 a=some (.ls xs)/\0<=k/\k < 1000000/\xs[k.toNat]?=some x/\R x (M2.upd a (.ls (xs.eraseIdx k.toNat))),rs.ext x1,m1,?_,fun ds M2 vs H2 x2 m2 r2 hq8=>?_⟩
 ·have:(fun (x:DL.D) (M2:Mem)=>∃ y,[x]=[y]/\∃ xs k x,y=D.int k/\M2 a=some (.ls xs)/\0<=k/\k < 1000000/\xs[k.toNat]?=some x/\R x (M2.upd a (.ls (xs.eraseIdx k.toNat))))=fun (y:DL.D) (M2:Mem)=>∃ xs k x,y=D.int k/\M2 a=some (.ls xs)/\0<=k/\k < 1000000/\xs[k.toNat]?=some x/\R x (M2.upd a (.ls (xs.eraseIdx k.toNat))):=by
   funext x M2; apply propext; constructor
   ·rintro ⟨y,e,h⟩; cases e; exact h
   ·exact fun h=>⟨x,rfl,h⟩
  show te δ M1 fun x M2=>∃ y,[x]=[y]/\∃ (xs:List DL.D) (k:Int) (x:DL.D),y=D.int k/\M2 a=some (.ls xs)/\0<=k/\k < 1000000/\xs[k.toNat]?=some x/\R x (M2.upd a (.ls (xs.eraseIdx k.toNat)))
  rw [this]; exact h1
 ·obtain ⟨y,e3,xs,k,x,e5,e4,k0,k1,hx,h2⟩:=hq8
  subst e3
  subst e5
  obtain ⟨v,rfl,rv⟩:=r2.one
  cases rv
  obtain ⟨ws,ew,rws⟩:=m2 _ _ e4
  obtain ⟨z,ez,rz⟩:=rws.get hx
  have hl:k.toNat < ws.length:=by rw [rws.length]; exact (List.getElem?_eq_some_iff.mp hx).1
  refine ⟨a,ws,k,k.toNat,z,rfl,rfl,ew,by omega,by omega,?_,ez,?_⟩
  ·exact PySem.StrLaws.seqIndex_nonneg k0 (by omega)
  ·have x3:HExt X.K H2 (upd H2 a (.lst (ws.eraseIdx k.toNat))):=.upd (.inr ⟨_,ew,trivial⟩)
   exact q _ _ _ _ ((x1.trans x2).trans x3) (m2.write ew (relds_erase k.toNat rws)) (rz.ext x3) h2
end
inductive Bi | abs | all | divmod | isinstance | len | max | min | str | tuple | list | int
 deriving DecidableEq
noncomputable def biName:Bi->Str
 | .abs=>"abs" | .all=>"all" | .divmod=>"divmod" | .isinstance=>"isinstance" | .len=>"len" | .max=>"max" | .min=>"min" | .str=>"str" | .tuple=>"tuple" | .list=>"list" | .int=>"int"
noncomputable def biSem:Bi->List D->Mem->DK->Prop
 | .abs=>fAbs | .all=>fAll | .divmod=>fDivmod | .isinstance=>fIsi | .len=>fLen | .max=>fMax | .min=>fMin | .str=>fStr | .tuple=>fTuple | .list=>fList | .int=>fInt
inductive Ty | int | bool | str | tuple | list | dict | valueError
 deriving DecidableEq
noncomputable def tyName:Ty->Str
 | .int=>"int" | .bool=>"bool" | .str=>"str" | .tuple=>"tuple" | .list=>"list" | .dict=>"dict" | .valueError=>"ValueError"
noncomputable def tyStr:Ty->String
 | .int=>"int" | .bool=>"bool" | .str=>"str" | .tuple=>"tuple" | .list=>"list" | .dict=>"dict" | .valueError=>"ValueError"
theorem ty_boot (t:Ty):bootBuiltins (tyName t)=some (.type (tyStr t)):=by cases t<;>kernel_rfl
noncomputable def quiet:Bi->Bool
 | .isinstance=>true
 | .int=>true
 | _=>false
structure Blt (mg:Str->Option Value):Prop where
 bi:∀ b,mg (biName b)=none
 ty:∀ t,mg (tyName t)=none
 range:mg "range"=none
 zip:mg "zip"=none
 enum:mg "enumerate"=none
section
variable {X:Cx} {rz:Bool} {Xe:DSt->DK} {e:Expr} {es:List Expr} {t:DA} {p pos:Pos}
theorem de_bi (b:Bi) (tab:xTabB X.K=true) (hB:Blt X.mg) (hq:X.calm=true\/quiet b=true) (hg:Gl X (biName b)) (ha:PA X (e :: es) (liftA (X.L rz Xe) t)) (he:starEach (e :: es) X.env=(false,eval e X.env) :: starEach es X.env) (hpl:(backTo pos (starEach es X.env)).any (·.1)=false) :
  PE X (.Call (.Name (biName b) p) (e :: es) [] pos) (lift (X.L rz Xe) (dCB (biSem b) t)):=by
 have hm:=hB.bi b
 cases b with
 | abs=>exact (pe_callB ca_abs hg hm (by kernel_rfl) ha (by decide) (by decide) he hpl).imp fun _ _ _=>dCB_op
 | all=>exact (pe_callB (ca_all (hq.resolve_right Bool.false_ne_true)) hg hm (by kernel_rfl) ha (by decide) (by decide) he hpl).imp fun _ _ _=>dCB_op
 | divmod=>exact (pe_callB ca_divmod hg hm (by kernel_rfl) ha (by decide) (by decide) he hpl).imp fun _ _ _=>dCB_op
 | isinstance=>exact (pe_callB (ca_isi tab) hg hm (by kernel_rfl) ha (by decide) (by decide) he hpl).imp fun _ _ _=>dCB_op
 | len=>exact (pe_callB ca_len hg hm (by kernel_rfl) ha (by decide) (by decide) he hpl).imp fun _ _ _=>dCB_op
 | max=>exact (pe_callB (ca_max (hq.resolve_right Bool.false_ne_true)) hg hm (by kernel_rfl) ha (by decide) (by decide) he hpl).imp fun _ _ _=>dCB_op
 | min=>exact (pe_callB (ca_min (hq.resolve_right Bool.false_ne_true)) hg hm (by kernel_rfl) ha (by decide) (by decide) he hpl).imp fun _ _ _=>dCB_op
 | str=>exact (pe_callTy ca_str hg hm (by kernel_rfl) ha (by decide) (by decide) he hpl).imp fun _ _ _=>dCB_op
 | tuple=>exact (pe_callTy ca_tuple hg hm (by kernel_rfl) ha (by decide) (by decide) he hpl).imp fun _ _ _=>dCB_op
 | int=>exact (pe_callTy ca_int hg hm (by kernel_rfl) ha (by decide) (by decide) he hpl).imp fun _ _ _=>dCB_op
 | list=>exact (pe_callTy ca_list hg hm (by kernel_rfl) ha (by decide) (by decide) he hpl).imp fun _ _ _=>dCB_op
theorem de_ty (t:Ty) (hB:Blt X.mg) (hg:Gl X (tyName t)):PE X (.Name (tyName t) pos) (lift (X.L rz Xe) (dC (.ty (tyStr t)))) :=
 de_con (pe_bltn (v:=.ty (tyStr t)) hg (hB.ty t) (ty_boot t) rfl (by cases t<;>decide) (by cases t<;>decide)) fun H=>.ty _
end
mutual
inductive CE where
 | var (i:Nat)
 | int (i:Int) | bl (b:Bool) | non | str (x:Str)
 | glo (x:Str) (d:D) | ty (t:Ty)
 | bin (op:Operator) (a b:CE) | neg (a:CE) | not (a:CE)
 | cmp (op:CmpOp) (a b:CE) | chain (op op':CmpOp) (a b c:CE)
 | one (a:CE) | and (a b:CE) | or (a b:CE)
 | ife (c a b:CE)
 | tup (es:CEs) | lst (es:CEs) | dic0
 | ix (a b:CE) | sl (a:CE) (lo hi:CO)
 | call (x:Str) (S:DSp) (es:CEs)
 | callv (i:Nat) (alts:List (Str×DSp)) (es:CEs)
 | bi (b:Bi) (es:CEs)
 | app (i:Nat) (e:CE) | pop (i:Nat) (e:CE) | ins (i:Nat) (a e:CE)
 | comp (N':List Str) (n:Nat) (g:CG) (it:CI) (elt:CE)
inductive CEs where
 | nil | cons (e:CE) (es:CEs)
inductive CO where
 | none | some (e:CE)
inductive CG where
 | name (i:Nat) | tup (gs:CGs) | sub (a b:CE)
inductive CGs where
 | nil | cons (g:CG) (gs:CGs)
inductive CI where
 | seq (e:CE) | rng (es:CEs) | enum (es:CEs)
end
structure Rd where
 e:DE
 t:DT
noncomputable def CEs.len:CEs->Nat
 | .nil=>0
 | .cons _ es=>es.len + 1
noncomputable def CGs.len:CGs->Nat
 | .nil=>0
 | .cons _ es=>es.len + 1
noncomputable def plain (t:DE):Rd:=⟨t,dTru t⟩
mutual
noncomputable def rE (Xe:DSt->DK):CE->Rd
 | .var i=>plain (dVar i)
 | .int i=>⟨dC (.int i),fun _ _ _=>False⟩
 | .bl b=>⟨dC (.bl b),fun _ _ _=>False⟩
 | .non=>⟨dC .non,fun _ _ _=>False⟩
 | .str x=>⟨dC (.str x),fun _ _ _=>False⟩
 | .glo _ d=>plain (dC d)
 | .ty t=>plain (dC (.ty (tyStr t)))
 | .bin op a b=>plain (d2 (bOp op) (rE Xe a).e (rE Xe b).e)
 | .neg a=>plain (dNeg (rE Xe a).e)
 | .not a=>⟨dNotB (rE Xe a).e,dNot (rE Xe a).t⟩
 | .cmp op a b=>⟨d2 (cOp op) (rE Xe a).e (rE Xe b).e,dTest (d2 (cOp op) (rE Xe a).e (rE Xe b).e)⟩
 | .chain op op' a b c=>⟨dChain (cOp op) (cOp op') (rE Xe a).e (rE Xe b).e (rE Xe c).e,dTest (dChain (cOp op) (cOp op') (rE Xe a).e (rE Xe b).e (rE Xe c).e)⟩
 | .one a=>rE Xe a
 | .and a b=>⟨dAndV (rE Xe a).e (rE Xe b).e,dAnd (rE Xe a).t (rE Xe b).t⟩
 | .or a b=>⟨dOrV (rE Xe a).e (rE Xe b).e,dOr (rE Xe a).t (rE Xe b).t⟩
 | .ife c a b=>⟨dIfE (rE Xe c).t (rE Xe a).e (rE Xe b).e,fun _ _ _=>False⟩
 | .tup es=>plain (dTup (rEs Xe es))
 | .lst es=>plain (dLst (rEs Xe es))
 | .dic0=>⟨dDic0,fun _ _ _=>False⟩
 | .ix a b=>plain (d2 iOp (rE Xe a).e (rE Xe b).e)
 | .sl a lo hi=>plain (dSl (rE Xe a).e (rO Xe lo) (rO Xe hi))
 | .call _ S es=>plain (dCall S Xe (rEs Xe es))
 | .callv i alts es=>plain (dCallV alts i Xe (rEs Xe es))
 | .bi b es=>plain (dCB (biSem b) (rEs Xe es))
 | .app i e=>plain (dApp (dVar i) (rE Xe e).e)
 | .pop i e=>plain (dPop (dVar i) (rE Xe e).e)
 | .ins i a e=>plain (dIns (dVar i) (rE Xe a).e (rE Xe e).e)
 | .comp _ n g it elt=>plain (dComp n (rI Xe it) (rG X0 g) (rE X0 elt).e)
noncomputable def rEs (Xe:DSt->DK):CEs->DA
 | .nil=>dNil
 | .cons e es=>dCons (rE Xe e).e (rEs Xe es)
noncomputable def rO (Xe:DSt->DK):CO->DO
 | .none=>dNoPart
 | .some e=>dPart (rE Xe e).e
noncomputable def rG (Xe:DSt->DK):CG->DG
 | .name i=>gdName i
 | .tup gs=>gdTup gs.len (rGs Xe gs)
 | .sub a b=>gdSub (rE Xe a).e (rE Xe b).e
noncomputable def rGs (Xe:DSt->DK):CGs->DGs
 | .nil=>gdNil
 | .cons g gs=>gdCons (rG Xe g) (rGs Xe gs)
noncomputable def rI (Xe:DSt->DK):CI->DI
 | .seq e=>diSeq (rE Xe e).e
 | .rng es=>diRng (rEs Xe es)
 | .enum es=>diEnum (rEs Xe es)
end
structure Ck where
 N:List Str
 sc:Scope
 top:Bool
 cal:Bool
noncomputable def Ck.kind (k:Ck) (x:Str):Option NameKind:=k.sc.names.lookup x
noncomputable def Ck.gl (k:Ck) (x:Str):Bool:=decide (k.kind x=some .globalImplicit)
noncomputable def Ck.vis (k:Ck) (x:Str):Bool:=decide (k.kind x=some .local) || decide (k.kind x=some .cell) || decide (k.kind x=some .free)
noncomputable def Ck.loc (k:Ck) (x:Str):Bool:=decide (k.kind x=some .local) || (k.top && decide (k.kind x=some .cell))
noncomputable def okName (x:Str):Bool:=!(x == ("__debug__":Str)) && !(x == ("__classdict__":Str))
noncomputable def Ck.slot (k:Ck) (i:Nat) (x:Str):Bool:=decide (k.N[i]?=some x) && k.vis x && okName x
noncomputable def blkB (k:Ck) (N':List Str) (sc:Scope):Bool :=
 decide (sc.kind=.function) && sc.names.all (fun y=>!decide (y.2=.cell)) && sc.names.all (fun y=>!decide (y.2=.local) || decide (sc.names.lookup y.1=some .local))
 && sc.names.all (fun y=>!decide (y.2=.free) || decide (k.kind y.1=some .cell) || decide (k.kind y.1=some .free))
 && (List.range k.N.length).all (fun i=>match N'[i]? with
   | some x=>match sc.names.lookup x with
    | some .free=>decide (k.N[i]?=some x)
    | some .local=>false
    | some .cell=>false
    | _=>true
   | none=>true) && decide (k.N.length<=N'.length) && decide N'.Nodup
mutual
noncomputable def isE (k:Ck):CE->Expr->Bool
 | .var i,e=>match e with | .Name x _=>k.slot i x | _=>false
 | .int i,e=>match e with | .Constant (.int j) _ _=>decide (i=j) | _=>false
 | .bl b,e=>match e with | .Constant (.bool c) _ _=>decide (b=c) | _=>false
 | .non,e=>match e with | .Constant .none _ _=>true | _=>false
 | .str x,e=>match e with | .Constant (.str y) _ _=>decide (x=y) | _=>false
 | .glo x _,e=>match e with | .Name y _=>decide (x=y) && k.gl x && okName x | _=>false
 | .ty t,e=>match e with | .Name y _=>decide (tyName t=y) && k.gl y | _=>false
 | .bin op a b,e=>match e with | .BinOp x op' y _=>decide (op=op') && isE k a x && isE k b y | _=>false
 | .neg a,e=>match e with | .UnaryOp .USub x _=>isE k a x | _=>false
 | .not a,e=>match e with | .UnaryOp .Not x _=>isE k a x | _=>false
 | .cmp op a b,e=>match e with | .Compare x [op'] [y] _=>decide (op=op') && isE k a x && isE k b y | _=>false
 | .chain op op' a b c,e=>match e with | .Compare x [p,p'] [y,z] _=>decide (op=p) && decide (op'=p') && isE k a x && isE k b y && isE k c z | _=>false
 | .one a,e=>match e with | .BoolOp _ [x] _=>isE k a x | _=>false
 | .and a b,e=>match e with | .BoolOp .And (x :: y :: r) pos=>isE k a x && isE k b (.BoolOp .And (y :: r) pos) | _=>false
 | .or a b,e=>match e with | .BoolOp .Or (x :: y :: r) pos=>isE k a x && isE k b (.BoolOp .Or (y :: r) pos) | _=>false
 | .ife c a b,e=>match e with | .IfExp x y z _=>isE k c x && isE k a y && isE k b z | _=>false
 | .tup es,e=>match e with | .Tuple xs _ _=>isEs k es xs | _=>false
 | .lst es,e=>match e with | .List xs _=>isEs k es xs | _=>false
 | .dic0,e=>match e with | .Dict [] [] _=>true | _=>false
 | .ix a b,e=>match e with | .Subscript x y _=>isE k a x && isE k b y | _=>false
 | .sl a lo hi,e=>match e with | .Subscript x (.Slice l h none _) _=>isE k a x && isO k lo l && isO k hi h | _=>false
 | .callv i _ es,e=>match e with | .Call (.Name y _) (x :: xs) [] _=>k.slot i y && isEs k es (x :: xs) && k.cal | _=>false
 | .call x _ es,e=>match e with | .Call (.Name y _) xs [] _=>decide (x=y) && k.gl x && okName x && isEs k es xs && k.cal | _=>false
 | .bi b es,e=>match e with | .Call (.Name y _) (x :: xs) [] _=>decide (biName b=y) && k.gl y && isEs k es (x :: xs) && (k.cal || quiet b) | _=>false
 | .app i a,e=>match e with | .Call (.Attribute (.Name x _) m ap) [y] [] p=>decide (m="append") && k.slot i x && isE k a y && (ap.endLine == p.line) | _=>false
 | .pop i a,e=>match e with | .Call (.Attribute (.Name x _) m ap) [y] [] p=>decide (m="pop") && k.slot i x && isE k a y && (ap.endLine == p.line) | _=>false
 | .ins i a b,e=>match e with | .Call (.Attribute (.Name x _) m ap) [y,z] [] p=>decide (m="insert") && k.slot i x && isE k a y && isE k b z && (ap.endLine == p.line) | _=>false
 | .comp N' n g it elt,e=>match e with
  | .ListComp y [⟨tg,iter,[],z⟩] sc _=>decide (z=0) && blkB k N' sc && decide (n=N'.length - k.N.length) && isG ⟨N',sc,false,k.cal⟩ g tg && isI k tg it iter && isE ⟨N',sc,false,k.cal⟩ elt y && k.cal
  | _=>false
noncomputable def isEs (k:Ck):CEs->List Expr->Bool
 | .nil,xs=>match xs with | []=>true | _=>false
 | .cons e es,xs=>match xs with | x :: r=>isE k e x && isEs k es r | _=>false
noncomputable def isO (k:Ck):CO->Option Expr->Bool
 | .none,x=>match x with | none=>true | _=>false
 | .some e,x=>match x with | some y=>isE k e y | _=>false
noncomputable def isG (k:Ck):CG->Expr->Bool
 | .name i,e=>match e with | .Name x _=>decide (k.N[i]?=some x) && k.loc x | _=>false
 | .tup gs,e=>match e with | .Tuple xs _ _=>isGs k gs xs && k.cal | _=>false
 | .sub a b,e=>match e with | .Subscript x y _=>isE k a x && isE k b y | _=>false
noncomputable def isGs (k:Ck):CGs->List Expr->Bool
 | .nil,xs=>match xs with | []=>true | _=>false
 | .cons e es,xs=>match xs with | x :: r=>isG k e x && isGs k es r | _=>false
noncomputable def isI (k:Ck) (tg:Expr):CI->Expr->Bool
 | .seq e,x=>isE k e x
 | .rng es,x=>match x with | .Call (.Name y _) (a :: r) [] _=>decide (y="range") && k.gl y && isEs k es (a :: r) | _=>false
 | .enum es,x=>match tg with | .Tuple _ _ _=>(match x with | .Call (.Name y _) (a :: r) [] _=>decide (y="enumerate") && k.gl y && isEs k es (a :: r) | _=>false) | _=>false
end
noncomputable def onAlts (P:Str->Str->DSp->Prop) (G:Str->D->Prop):List (Str×DSp)->Prop
 | []=>True
 | a :: r=>P "" a.1 a.2/\G a.1 (.fn a.1)/\onAlts P G r
theorem onAlts_mem {P:Str->Str->DSp->Prop} {G:Str->D->Prop} {n:Str} {S:DSp}:∀ {l:List (Str×DSp)},onAlts P G l->(n,S)∈l->P "" n S/\G n (.fn n)
 | [],_,h=>nomatch h
 | a :: r,o,h=>by
  rcases List.mem_cons.mp h with e | h
  ·subst e; exact ⟨o.1,o.2.1⟩
  ·exact onAlts_mem o.2.2 h
theorem onAlts_mono {P P':Str->Str->DSp->Prop} {G G':Str->D->Prop} (p:∀ c x S,P c x S->P' c x S) (g:∀ x d,G x d->G' x d):∀ {l:List (Str×DSp)},onAlts P G l->onAlts P' G' l
 | [],_=>trivial
 | a :: r,o=>⟨p _ _ _ o.1,g _ _ o.2.1,onAlts_mono p g o.2.2⟩
mutual
noncomputable def onE (P:Str->Str->DSp->Prop) (G:Str->D->Prop):CE->Prop
 | .var _ | .int _ | .bl _ | .non | .str _ | .ty _ | .dic0=>True
 | .glo x d=>G x d
 | .bin _ a b | .cmp _ a b | .and a b | .or a b | .ix a b | .ins _ a b=>onE P G a/\onE P G b
 | .neg a | .not a | .one a=>onE P G a
 | .chain _ _ a b c | .ife a b c=>onE P G a/\onE P G b/\onE P G c
 | .tup es | .lst es | .bi _ es=>onEs P G es
 | .sl a lo hi=>onE P G a/\onO P G lo/\onO P G hi
 | .call x S es=>P "" x S/\onEs P G es
 | .callv _ alts es=>onAlts P G alts/\onEs P G es
 | .app _ e | .pop _ e=>onE P G e
 | .comp _ _ g it elt=>onG P G g/\onI P G it/\onE P G elt
noncomputable def onEs (P:Str->Str->DSp->Prop) (G:Str->D->Prop):CEs->Prop
 | .nil=>True
 | .cons e es=>onE P G e/\onEs P G es
noncomputable def onO (P:Str->Str->DSp->Prop) (G:Str->D->Prop):CO->Prop
 | .none=>True
 | .some e=>onE P G e
noncomputable def onG (P:Str->Str->DSp->Prop) (G:Str->D->Prop):CG->Prop
 | .name _=>True
 | .tup gs=>onGs P G gs
 | .sub a b=>onE P G a/\onE P G b
noncomputable def onGs (P:Str->Str->DSp->Prop) (G:Str->D->Prop):CGs->Prop
 | .nil=>True
 | .cons g gs=>onG P G g/\onGs P G gs
noncomputable def onI (P:Str->Str->DSp->Prop) (G:Str->D->Prop):CI->Prop
 | .seq e=>onE P G e
 | .rng es=>onEs P G es
 | .enum es=>onEs P G es
end
end DL
end
noncomputable section
namespace DL
open PySem PySem.Spec PyProof.Rows L2
structure CtxOk (X:Cx) (k:Ck):Prop where
 N:X.N=k.N
 nd:k.N.Nodup
 sc:∀ x κ,k.kind x=some κ->κ≠.free->X.env.kindOf x=some κ
 fr:∀ x,k.kind x=some .free->X.env.kindOf x=some .cell\/X.env.kindOf x=some .free
 fn:k.top=true->∀ x,X.fn x=true
 calm:k.cal=true->X.calm=true
 room:k.cal=true->Room 0 X.A
 hu:X.A.units + 66 < cLine
 blt:Blt X.mg
 po:PassesOwn (model X.prog X.w) X.A X.env X.xe
 tab:xTabB X.K=true
 st:k.top=true->X.stack=X.env :: X.outer/\X.env.frame=some X.env.locals
structure Sh (e:Expr):Prop where
 star:∀ env es,starEach (e :: es) env=(false,eval e env) :: starEach es env
 ix:PlainIx e
 mark:∀ op,behindInMarks op e=false
 set:∀ env x,foldedSetIterable e env x=pure x
 sub:∀ o pos env v,assign (.Subscript o e pos) env v=(do
   let ov <- holding [v] (eval o env)
   let iv <- holding [v,ov] (eval e env)
   standAt pos
   holding [v,ov,iv] (setItem ov iv v)
   release [v,ov,iv] [])
structure SdE (X:Cx) (rz:Bool) (Xe:DSt->DK) (c:CE) (e:Expr):Prop where
 pe:PE X e (lift (X.L rz Xe) (rE Xe c).e)
 pt:PT X e (liftT (X.L rz Xe) (rE Xe c).t)
 pw:∀ op vs pos,e=.BoolOp op vs pos->PW X e (liftT (X.L rz Xe) (rE Xe c).t)
 sh:Sh e
structure SdEs (X:Cx) (rz:Bool) (Xe:DSt->DK) (c:CEs) (es:List Expr):Prop where
 pa:PA X es (liftA (X.L rz Xe) (rEs Xe c))
 pl:∀ pos env,(backTo pos (starEach es env)).any (·.1)=false
 hd:∀ e r,es=e :: r->Sh e/\∀ pos env,(backTo pos (starEach r env)).any (·.1)=false
structure SdG (X:Cx) (rz:Bool) (Xe:DSt->DK) (c:CG) (e:Expr):Prop where
 pg:PG X e (liftG (X.L rz Xe) (rG Xe c))
 as:∀ env es,assignEach (e :: es) env=(false,assign e env) :: assignEach es env
structure SdGs (X:Cx) (rz:Bool) (Xe:DSt->DK) (c:CGs) (es:List Expr):Prop where
 pg:PGs X es (liftGs (X.L rz Xe) (rGs Xe c))
 len:∀ env,(assignEach es env).length=c.len
 st:∀ env,(assignEach es env).findIdx? (·.1)=none
structure SdI (X:Cx) (rz:Bool) (Xe:DSt->DK) (tg:Expr) (c:CI) (e:Expr):Prop where
 pi:PI X tg e (liftI (X.L rz Xe) (rI Xe c))
 set:∀ env x,foldedSetIterable e env x=pure x
section
variable {X:Cx} {rz:Bool} {Xe:DSt->DK} {k:Ck}
theorem CtxOk.vis (C:CtxOk X k) {x:Str} (h:k.vis x=true):Vis X.env.scope x:=by
 unfold Ck.vis at h
 simp only [Bool.or_eq_true,decide_eq_true_eq] at h
 rcases h with (h | h) | h
 ·exact .inl (C.sc x _ h (by decide))
 ·exact .inr (.inl (C.sc x _ h (by decide)))
 ·exact .inr (C.fr x h)
theorem CtxOk.gl (C:CtxOk X k) {x:Str} (h:k.gl x=true):Gl X x:=by
 unfold Ck.gl at h
 exact C.sc x _ (of_decide_eq_true h) (by decide)
theorem CtxOk.loc (C:CtxOk X k) {x:Str} (h:k.loc x=true):Loc X.env.scope x/\(X.fn x=true\/X.env.scope.names.lookup x=some .local):=by
 unfold Ck.loc at h
 simp only [Bool.or_eq_true,Bool.and_eq_true,decide_eq_true_eq] at h
 rcases h with h | ⟨h1,h⟩
 ·have:=C.sc x _ h (by decide); exact ⟨.inl this,.inr this⟩
 ·exact ⟨.inr (C.sc x _ h (by decide)),.inl (C.fn h1 x)⟩
theorem CtxOk.var (C:CtxOk X k) {i:Nat} {x:Str} {pos:Pos} (h:k.slot i x=true):PE X (.Name x pos) (lift (X.L rz Xe) (dVar i)):=by
 unfold Ck.slot okName at h
 simp only [Bool.and_eq_true,decide_eq_true_eq,Bool.not_eq_true'] at h
 exact de_var (pe_var (by rw [C.N]; exact h.1.1) (C.vis h.1.2) h.2.1 h.2.2)
theorem CtxOk.tvar (C:CtxOk X k) {i:Nat} {x:Str} {pos:Pos} (h:k.slot i x=true):PE X (.Name x pos) (tVar i):=by
 unfold Ck.slot okName at h
 simp only [Bool.and_eq_true,decide_eq_true_eq,Bool.not_eq_true'] at h
 exact pe_var (by rw [C.N]; exact h.1.1) (C.vis h.1.2) h.2.1 h.2.2
theorem CtxOk.qt (C:CtxOk X k) {b:Bool} (h:(k.cal || b)=true):X.calm=true\/b=true:=by
 cases hk:k.cal with
 | true=>exact .inl (C.calm hk)
 | false=>rw [hk] at h; exact .inr h
theorem lookup_relabel_ne {env:Env}:∀ {names:List (Str×NameKind)} {x:Str} {κ:NameKind},names.lookup x=some κ->κ≠.free ->
  (names.map fun (n,k)=>if (k == NameKind.free && env.scope.kind == .function && env.kindOf n == some .cell) then (n,NameKind.cell) else (n,k)).lookup x=some κ
 | [],_,_,h,_=>by simp at h
 | (n,k) :: r,x,κ,h,hne=>by
  have ih:=@lookup_relabel_ne env r x κ
  simp only [List.map_cons]
  rw [List.lookup_cons] at h
  by_cases hc:(k == NameKind.free && env.scope.kind == .function && env.kindOf n == some .cell)=true
  ·rw [if_pos hc,List.lookup_cons]
   cases hx:x == n with
   | true =>
    simp only [hx] at h; cases h
    simp only [Bool.and_eq_true,beq_iff_eq] at hc
    exact absurd hc.1.1 hne
   | false=>simp only [hx] at h; exact ih h hne
  ·rw [if_neg hc,List.lookup_cons]
   cases hx:x == n with
   | true=>simp only [hx] at h; cases h; rfl
   | false=>simp only [hx] at h; exact ih h hne
theorem lookup_relabel_free {env:Env}:∀ {names:List (Str×NameKind)} {x:Str},names.lookup x=some .free ->
  (names.map fun (n,k)=>if (k == NameKind.free && env.scope.kind == .function && env.kindOf n == some .cell) then (n,NameKind.cell) else (n,k)).lookup x=some .cell \/
  (names.map fun (n,k)=>if (k == NameKind.free && env.scope.kind == .function && env.kindOf n == some .cell) then (n,NameKind.cell) else (n,k)).lookup x=some .free
 | [],_,h=>by simp at h
 | (n,k) :: r,x,h=>by
  have ih:=@lookup_relabel_free env r x
  simp only [List.map_cons]
  rw [List.lookup_cons] at h
  by_cases hc:(k == NameKind.free && env.scope.kind == .function && env.kindOf n == some .cell)=true
  ·rw [if_pos hc,List.lookup_cons]
   cases hx:x == n with
   | true=>exact .inl rfl
   | false=>simp only [hx] at h; exact ih h
  ·rw [if_neg hc,List.lookup_cons]
   cases hx:x == n with
   | true=>simp only [hx] at h; cases h; exact .inr rfl
   | false=>simp only [hx] at h; exact ih h
theorem blkB_ok (C:CtxOk X k) {N':List Str} {sc:Scope} (h:blkB k N' sc=true):BlkOk X.N X.env N' sc/\N'.Nodup:=by
 unfold blkB at h
 simp only [Bool.and_eq_true,decide_eq_true_eq,List.all_eq_true,Bool.or_eq_true,Bool.not_eq_true',decide_eq_false_iff_not] at h
 obtain ⟨⟨⟨⟨⟨⟨h1,h2⟩,h3⟩,h4⟩,h5⟩,h6⟩,h7⟩:=h
 refine ⟨⟨h1,fun y hy=>h2 y hy,fun y hy e=>(h3 y hy).resolve_left fun z=>z e,fun y hy e=>?_,fun i x hi hx κ hκ=>?_,by rw [C.N]; exact h6⟩,h7⟩
 ·rcases h4 y hy with (z | z) | z
  ·exact absurd e z
  ·exact .inl (C.sc _ _ z (by decide))
  ·exact C.fr _ z
 ·have q:=h5 i (List.mem_range.mpr (by rw [<- C.N]; exact hi))
  rw [hx] at q
  simp only [hκ] at q
  cases κ with
  | «local»=>simp at q
  | cell=>simp at q
  | free=>exact .inr (.inr ⟨rfl,by rw [C.N]; exact of_decide_eq_true q⟩)
  | globalExplicit=>exact .inr (.inl rfl)
  | globalImplicit=>exact .inl rfl
theorem CtxOk.blk (C:CtxOk X k) {N':List Str} {sc:Scope} (h:blkB k N' sc=true) (cl:List (Str×Addr)) (Cn:Addr) (s:Shared) (H:Hp) (ex:List Addr):CtxOk (blkCx X N' sc cl Cn s H ex []) ⟨N',sc,false,k.cal⟩ :=
 ⟨rfl,(blkB_ok C h).2,fun x κ e hne=>lookup_relabel_ne (env:=X.env) e hne,fun x e=>lookup_relabel_free (env:=X.env) e,fun z=>(by cases z),C.calm,C.room,C.hu,C.blt,PassesOwn.never,C.tab,fun z=>(by cases z)⟩
end
theorem plain_sd {X:Cx} {rz:Bool} {Xe:DSt->DK} {c:CE} {e:Expr} {t:DE} (hr:rE Xe c=plain t) (h:PE X e (lift (X.L rz Xe) t)) (hb:∀ op vs pos,e≠.BoolOp op vs pos) (he:∀ whole,isTrue e X.env whole=(do let v <- whole; standAt e.pos; holding [v] (truthy v))) (sh:Sh e):SdE X rz Xe c e :=
 ⟨by rw [hr]; exact h,by rw [hr]; exact dt_tru h he,fun op vs pos z=>absurd z (hb op vs pos),sh⟩
theorem const_sd {X:Cx} {rz:Bool} {Xe:DSt->DK} {c:CE} {e:Expr} {t:DE} (hr:rE Xe c=⟨t,fun _ _ _=>False⟩) (h:PE X e (lift (X.L rz Xe) t)) (hb:∀ op vs pos,e≠.BoolOp op vs pos) (sh:Sh e):SdE X rz Xe c e :=
 ⟨by rw [hr]; exact h,by rw [hr]; exact fun pins s σ H Q I h=>by obtain ⟨_,_,_,_,_,t,_⟩:=h; exact t.elim,fun op vs pos z=>absurd z (hb op vs pos),sh⟩
mutual
theorem onE_mono {P P':Str->Str->DSp->Prop} {G G':Str->D->Prop}:∀ (c:CE),(∀ c x S,P c x S->P' c x S)->(∀ x d,G x d->G' x d)->onE P G c->onE P' G' c
 | .var _,_,_,_ | .int _,_,_,_ | .bl _,_,_,_ | .non,_,_,_ | .str _,_,_,_ | .ty _,_,_,_ | .dic0,_,_,_=>True.intro
 | .glo x d,p,g,h=>g x d h
 | .bin _ a b,p,g,h | .cmp _ a b,p,g,h | .and a b,p,g,h | .or a b,p,g,h | .ix a b,p,g,h | .ins _ a b,p,g,h=>⟨onE_mono a p g h.1,onE_mono b p g h.2⟩
 | .neg a,p,g,h | .not a,p,g,h | .one a,p,g,h=>onE_mono a p g h
 | .chain _ _ a b c,p,g,h | .ife a b c,p,g,h=>⟨onE_mono a p g h.1,onE_mono b p g h.2.1,onE_mono c p g h.2.2⟩
 | .tup es,p,g,h | .lst es,p,g,h | .bi _ es,p,g,h=>onEs_mono es p g h
 | .sl a lo hi,p,g,h=>⟨onE_mono a p g h.1,onO_mono lo p g h.2.1,onO_mono hi p g h.2.2⟩
 | .call x S es,p,g,h=>⟨p "" x S h.1,onEs_mono es p g h.2⟩
 | .callv _ _ es,p,g,h=>⟨onAlts_mono p g h.1,onEs_mono es p g h.2⟩
 | .app _ e,p,g,h | .pop _ e,p,g,h=>onE_mono e p g h
 | .comp _ _ t it elt,p,g,h=>⟨onG_mono t p g h.1,onI_mono it p g h.2.1,onE_mono elt p g h.2.2⟩
theorem onEs_mono {P P':Str->Str->DSp->Prop} {G G':Str->D->Prop}:∀ (c:CEs),(∀ c x S,P c x S->P' c x S)->(∀ x d,G x d->G' x d)->onEs P G c->onEs P' G' c
 | .nil,_,_,_=>True.intro
 | .cons e es,p,g,h=>⟨onE_mono e p g h.1,onEs_mono es p g h.2⟩
theorem onO_mono {P P':Str->Str->DSp->Prop} {G G':Str->D->Prop}:∀ (c:CO),(∀ c x S,P c x S->P' c x S)->(∀ x d,G x d->G' x d)->onO P G c->onO P' G' c
 | .none,_,_,_=>True.intro
 | .some e,p,g,h=>onE_mono e p g h
theorem onG_mono {P P':Str->Str->DSp->Prop} {G G':Str->D->Prop}:∀ (c:CG),(∀ c x S,P c x S->P' c x S)->(∀ x d,G x d->G' x d)->onG P G c->onG P' G' c
 | .name _,_,_,_=>True.intro
 | .tup gs,p,g,h=>onGs_mono gs p g h
 | .sub a b,p,g,h=>⟨onE_mono a p g h.1,onE_mono b p g h.2⟩
theorem onGs_mono {P P':Str->Str->DSp->Prop} {G G':Str->D->Prop}:∀ (c:CGs),(∀ c x S,P c x S->P' c x S)->(∀ x d,G x d->G' x d)->onGs P G c->onGs P' G' c
 | .nil,_,_,_=>True.intro
 | .cons e es,p,g,h=>⟨onG_mono e p g h.1,onGs_mono es p g h.2⟩
theorem onI_mono {P P':Str->Str->DSp->Prop} {G G':Str->D->Prop}:∀ (c:CI),(∀ c x S,P c x S->P' c x S)->(∀ x d,G x d->G' x d)->onI P G c->onI P' G' c
 | .seq e,p,g,h=>onE_mono e p g h
 | .rng es,p,g,h=>onEs_mono es p g h
 | .enum es,p,g,h=>onEs_mono es p g h
end
theorem and2 {a b:Bool} (h:(a && b)=true):a=true/\b=true:=by
 cases a with
 | true=>exact ⟨rfl,h⟩
 | false=>exact nfx h
theorem okName1 {x:Str} (h:okName x=true):(x == ("__debug__":Str))=false:=by
 obtain ⟨h,_⟩:=and2 (show (!(x == ("__debug__":Str)) && _)=true from h)
 revert h
 cases (x == ("__debug__":Str)) with
 | true=>exact fun h=>absurd h Bool.false_ne_true
 | false=>exact fun _=>rfl
mutual
theorem sE:∀ (c:CE) (rz:Bool) (Xe:DSt->DK) (k:Ck) (X:Cx) (e:Expr),CtxOk X k->onE (FnAt X) (GloAt X) c->isE k c e=true->SdE X rz Xe c e
 | .var i,rz,Xe,k,X,e,C,on,h=>by
  cases e with
  | Name x p=>exact plain_sd rfl (C.var (show k.slot i x=true from h)) (fun _ _ _ z=>nomatch z) (fun _=>rfl) ⟨fun _ _=>rfl,fun _ _=>rfl,fun _=>rfl,fun _ _=>rfl,fun _ _ _ _=>rfl⟩
  | _=>exact nfx h
 | .int i,rz,Xe,k,X,e,C,on,h=>by
  cases e with
  | Constant c q p =>
   cases c with
   | int j =>
    obtain rfl:=of_decide_eq_true (show decide (i=j)=true from h)
    exact const_sd rfl (de_con pe_int fun H=>.int _) (fun _ _ _ z=>nomatch z) ⟨fun _ _=>rfl,fun _ _=>rfl,fun _=>rfl,fun _ _=>rfl,fun _ _ _ _=>rfl⟩
   | _=>exact nfx h
  | _=>exact nfx h
 | .bl i,rz,Xe,k,X,e,C,on,h=>by
  cases e with
  | Constant c q p =>
   cases c with
   | bool j =>
    obtain rfl:=of_decide_eq_true (show decide (i=j)=true from h)
    exact const_sd rfl (de_con pe_bl fun H=>.bl _) (fun _ _ _ z=>nomatch z) ⟨fun _ _=>rfl,fun _ _=>rfl,fun _=>rfl,fun _ _=>rfl,fun _ _ _ _=>rfl⟩
   | _=>exact nfx h
  | _=>exact nfx h
 | .non,rz,Xe,k,X,e,C,on,h=>by
  cases e with
  | Constant c q p =>
   cases c with
   | none=>exact const_sd rfl (de_con pe_non fun H=>.non) (fun _ _ _ z=>nomatch z) ⟨fun _ _=>rfl,fun _ _=>rfl,fun _=>rfl,fun _ _=>rfl,fun _ _ _ _=>rfl⟩
   | _=>exact nfx h
  | _=>exact nfx h
 | .str i,rz,Xe,k,X,e,C,on,h=>by
  cases e with
  | Constant c q p =>
   cases c with
   | str j =>
    obtain rfl:=of_decide_eq_true (show decide (i=j)=true from h)
    exact const_sd rfl (de_con pe_str fun H=>.str _) (fun _ _ _ z=>nomatch z) ⟨fun _ _=>rfl,fun _ _=>rfl,fun _=>rfl,fun _ _=>rfl,fun _ _ _ _=>rfl⟩
   | _=>exact nfx h
  | _=>exact nfx h
 | .glo x d,rz,Xe,k,X,e,C,on,h=>by
  cases e with
  | Name y p =>
   obtain ⟨h1,h3⟩:=and2 (show (_ && okName x)=true from h)
   obtain ⟨h1,h2⟩:=and2 (show (decide (x=y) && k.gl x)=true from h1)
   obtain rfl:=of_decide_eq_true h1
   obtain ⟨u,v,e1,e2,e3⟩:=(show GloAt X _ d from on).ex
   exact plain_sd rfl (de_con (pe_glob (C.gl h2) e1 e2 (okName1 h3)) e3) (fun _ _ _ z=>nomatch z) (fun _=>rfl) ⟨fun _ _=>rfl,fun _ _=>rfl,fun _=>rfl,fun _ _=>rfl,fun _ _ _ _=>rfl⟩
  | _=>exact nfx h
 | .ty t,rz,Xe,k,X,e,C,on,h=>by
  cases e with
  | Name y p =>
   obtain ⟨h1,h2⟩:=and2 (show (decide (tyName t=y) && k.gl y)=true from h)
   obtain rfl:=of_decide_eq_true h1
   exact plain_sd rfl (de_ty t C.blt (C.gl h2)) (fun _ _ _ z=>nomatch z) (fun _=>rfl) ⟨fun _ _=>rfl,fun _ _=>rfl,fun _=>rfl,fun _ _=>rfl,fun _ _ _ _=>rfl⟩
  | _=>exact nfx h
 | .bin op a b,rz,Xe,k,X,e,C,on,h=>by
  cases e with
  | BinOp x op' y p =>
   obtain ⟨h1,h3⟩:=and2 (show (_ && isE k b y)=true from h)
   obtain ⟨h1,h2⟩:=and2 (show (decide (op=op') && isE k a x)=true from h1)
   obtain rfl:=of_decide_eq_true h1
   exact plain_sd rfl (de_bin (op_b op) (sE a rz Xe k X _ C on.1 h2).pe (sE b rz Xe k X _ C on.2 h3).pe) (fun _ _ _ z=>nomatch z) (fun _=>rfl) ⟨fun _ _=>rfl,fun _ _=>rfl,fun _=>rfl,fun _ _=>rfl,fun _ _ _ _=>rfl⟩
  | _=>exact nfx h
 | .neg a,rz,Xe,k,X,e,C,on,h=>by
  cases e with
  | UnaryOp o x p =>
   cases o with
   | USub=>exact plain_sd rfl (de_neg (sE a rz Xe k X _ C on h).pe) (fun _ _ _ z=>nomatch z) (fun _=>rfl) ⟨fun _ _=>rfl,fun _ _=>rfl,fun _=>rfl,fun _ _=>rfl,fun _ _ _ _=>rfl⟩
   | _=>exact nfx h
  | _=>exact nfx h
 | .not a,rz,Xe,k,X,e,C,on,h=>by
  cases e with
  | UnaryOp o x p =>
   cases o with
   | Not =>
    have s:=sE a rz Xe k X x C on h
    exact ⟨de_not s.pe,dt_not s.pt,fun _ _ _ z=>(nomatch z),⟨fun _ _=>rfl,fun _ _=>rfl,fun _=>rfl,fun _ _=>rfl,fun _ _ _ _=>rfl⟩⟩
   | _=>exact nfx h
  | _=>exact nfx h
 | .cmp op a b,rz,Xe,k,X,e,C,on,h=>by
  cases e with
  | Compare x os ys p =>
   cases os with
   | nil=>exact nfx h
   | cons o os =>
    cases os with
    | cons _ _=>exact nfx h
    | nil =>
     cases ys with
     | nil=>exact nfx h
     | cons y ys =>
      cases ys with
      | cons _ _=>exact nfx h
      | nil =>
       obtain ⟨h1,h3⟩:=and2 (show (_ && isE k b y)=true from h)
       obtain ⟨h1,h2⟩:=and2 (show (decide (op=o) && isE k a x)=true from h1)
       obtain rfl:=of_decide_eq_true h1
       have s1:=sE a rz Xe k X _ C on.1 h2
       have s2:=sE b rz Xe k X _ C on.2 h3
       exact ⟨de_cmp C.hu s1.pe s2.pe (s2.sh.mark op),dt_cmp C.hu s1.pe s2.pe (s2.sh.mark op),fun _ _ _ z=>(nomatch z),⟨fun _ _=>rfl,fun _ _=>rfl,fun _=>rfl,fun _ _=>rfl,fun _ _ _ _=>rfl⟩⟩
  | _=>exact nfx h
 | .chain op op' a b c,rz,Xe,k,X,e,C,on,h=>by
  cases e with
  | Compare x os ys p =>
   cases os with
   | nil=>exact nfx h
   | cons o os =>
    cases os with
    | nil=>exact nfx h
    | cons o' os =>
     cases os with
     | cons _ _=>exact nfx h
     | nil =>
      cases ys with
      | nil=>exact nfx h
      | cons y ys =>
       cases ys with
       | nil=>exact nfx h
       | cons z ys =>
        cases ys with
        | cons _ _=>exact nfx h
        | nil =>
         obtain ⟨h1,h4⟩:=and2 (show (_ && isE k c z)=true from h)
         obtain ⟨h1,h3⟩:=and2 (show (_ && isE k b y)=true from h1)
         obtain ⟨h1,h2⟩:=and2 (show (_ && isE k a x)=true from h1)
         obtain ⟨h1,h0⟩:=and2 (show (decide (op=o) && decide (op'=o'))=true from h1)
         obtain rfl:=of_decide_eq_true h1
         obtain rfl:=of_decide_eq_true h0
         have s1:=sE a rz Xe k X _ C on.1 h2
         have s2:=sE b rz Xe k X _ C on.2.1 h3
         have s3:=sE c rz Xe k X _ C on.2.2 h4
         exact ⟨de_chain C.hu s1.pe s2.pe s3.pe (s3.sh.mark op'),dt_chain C.hu s1.pe s2.pe s3.pe (s3.sh.mark op'),fun _ _ _ z=>(nomatch z),⟨fun _ _=>rfl,fun _ _=>rfl,fun _=>rfl,fun _ _=>rfl,fun _ _ _ _=>rfl⟩⟩
  | _=>exact nfx h
 | .one a,rz,Xe,k,X,e,C,on,h=>by
  cases e with
  | BoolOp op xs pos =>
   cases xs with
   | nil=>exact nfx h
   | cons x xs =>
    cases xs with
    | cons _ _=>exact nfx h
    | nil =>
     have s:=sE a rz Xe k X _ C on (show isE k a x=true from h)
     have w:PW X (.BoolOp op [x] pos) (liftT (X.L rz Xe) (rE Xe a).t):=by
      cases op with
      | And=>exact pw_and1 s.pt
      | Or=>exact pw_or1 s.pt
     exact ⟨pe_one s.pe,w.pt,fun _ _ _ z=>by cases z; exact w,⟨fun _ _=>rfl,fun _ _=>rfl,fun _=>rfl,fun _ _=>rfl,fun _ _ _ _=>rfl⟩⟩
  | _=>exact nfx h
 | .and a b,rz,Xe,k,X,e,C,on,h=>by
  cases e with
  | BoolOp op xs pos =>
   cases op with
   | Or=>exact nfx h
   | And =>
    cases xs with
    | nil=>exact nfx h
    | cons x xs =>
     cases xs with
     | nil=>exact nfx h
     | cons y r =>
      obtain ⟨h1,h2⟩:=and2 (show (isE k a x && isE k b (.BoolOp .And (y :: r) pos))=true from h)
      have s1:=sE a rz Xe k X _ C on.1 h1
      have s2:=sE b rz Xe k X _ C on.2 h2
      have w:=dw_and s1.pt (s2.pw _ _ _ rfl)
      exact ⟨de_and s1.pe s2.pe,w.pt,fun _ _ _ z=>by cases z; exact w,⟨fun _ _=>rfl,fun _ _=>rfl,fun _=>rfl,fun _ _=>rfl,fun _ _ _ _=>rfl⟩⟩
  | _=>exact nfx h
 | .or a b,rz,Xe,k,X,e,C,on,h=>by
  cases e with
  | BoolOp op xs pos =>
   cases op with
   | And=>exact nfx h
   | Or =>
    cases xs with
    | nil=>exact nfx h
    | cons x xs =>
     cases xs with
     | nil=>exact nfx h
     | cons y r =>
      obtain ⟨h1,h2⟩:=and2 (show (isE k a x && isE k b (.BoolOp .Or (y :: r) pos))=true from h)
      have s1:=sE a rz Xe k X _ C on.1 h1
      have s2:=sE b rz Xe k X _ C on.2 h2
      have w:=dw_or s1.pt (s2.pw _ _ _ rfl)
      exact ⟨de_or s1.pe s2.pe,w.pt,fun _ _ _ z=>by cases z; exact w,⟨fun _ _=>rfl,fun _ _=>rfl,fun _=>rfl,fun _ _=>rfl,fun _ _ _ _=>rfl⟩⟩
  | _=>exact nfx h
 | .ife c a b,rz,Xe,k,X,e,C,on,h=>by
  cases e with
  | IfExp x y z p =>
   obtain ⟨h1,h3⟩:=and2 (show (_ && isE k b z)=true from h)
   obtain ⟨h1,h2⟩:=and2 (show (isE k c x && isE k a y)=true from h1)
   exact const_sd rfl (de_ife (sE c rz Xe k X _ C on.1 h1).pt (sE a rz Xe k X _ C on.2.1 h2).pe (sE b rz Xe k X _ C on.2.2 h3).pe) (fun _ _ _ z=>nomatch z) ⟨fun _ _=>rfl,fun _ _=>rfl,fun _=>rfl,fun _ _=>rfl,fun _ _ _ _=>rfl⟩
  | _=>exact nfx h
 | .tup es,rz,Xe,k,X,e,C,on,h=>by
  cases e with
  | Tuple xs q p=>exact plain_sd rfl (de_tup (sEs es rz Xe k X _ C on h).pa) (fun _ _ _ z=>nomatch z) (fun _=>rfl) ⟨fun _ _=>rfl,fun _ _=>rfl,fun _=>rfl,fun _ _=>rfl,fun _ _ _ _=>rfl⟩
  | _=>exact nfx h
 | .lst es,rz,Xe,k,X,e,C,on,h=>by
  cases e with
  | List xs p=>exact plain_sd rfl (de_lst (sEs es rz Xe k X _ C on h).pa) (fun _ _ _ z=>nomatch z) (fun _=>rfl) ⟨fun _ _=>rfl,fun _ _=>rfl,fun _=>rfl,fun _ _=>rfl,fun _ _ _ _=>rfl⟩
  | _=>exact nfx h
 | .dic0,rz,Xe,k,X,e,C,on,h=>by
  cases e with
  | Dict ks vs p =>
   cases ks with
   | cons _ _=>exact nfx h
   | nil =>
    cases vs with
    | cons _ _=>exact nfx h
    | nil=>exact const_sd rfl de_dic0 (fun _ _ _ z=>nomatch z) ⟨fun _ _=>rfl,fun _ _=>rfl,fun _=>rfl,fun _ _=>rfl,fun _ _ _ _=>rfl⟩
  | _=>exact nfx h
 | .ix a b,rz,Xe,k,X,e,C,on,h=>by
  cases e with
  | Subscript x y p =>
   obtain ⟨h1,h2⟩:=and2 (show (isE k a x && isE k b y)=true from h)
   have s2:=sE b rz Xe k X _ C on.2 h2
   exact plain_sd rfl (de_ix (sE a rz Xe k X _ C on.1 h1).pe s2.pe s2.sh.ix) (fun _ _ _ z=>nomatch z) (fun _=>rfl) ⟨fun _ _=>rfl,fun _ _=>rfl,fun _=>rfl,fun _ _=>rfl,fun _ _ _ _=>rfl⟩
  | _=>exact nfx h
 | .sl a lo hi,rz,Xe,k,X,e,C,on,h=>by
  cases e with
  | Subscript x y p =>
   cases y with
   | Slice l u s q =>
    cases s with
    | some _=>exact nfx h
    | none =>
     obtain ⟨h1,h3⟩:=and2 (show (_ && isO k hi u)=true from h)
     obtain ⟨h1,h2⟩:=and2 (show (isE k a x && isO k lo l)=true from h1)
     exact plain_sd rfl (de_sl (sE a rz Xe k X _ C on.1 h1).pe (sO lo rz Xe k X _ C on.2.1 h2) (sO hi rz Xe k X _ C on.2.2 h3)) (fun _ _ _ z=>nomatch z) (fun _=>rfl) ⟨fun _ _=>rfl,fun _ _=>rfl,fun _=>rfl,fun _ _=>rfl,fun _ _ _ _=>rfl⟩
   | _=>exact nfx h
  | _=>exact nfx h
 | .call x S es,rz,Xe,k,X,e,C,on,h=>by
  cases e with
  | Call f xs kw pos =>
   cases f with
   | Name y p =>
    cases kw with
    | cons _ _=>exact nfx h
    | nil =>
     obtain ⟨h,hcal⟩:=and2 (show (_ && k.cal)=true from h)
     obtain ⟨h1,h4⟩:=and2 (show (_ && isEs k es xs)=true from h)
     obtain ⟨h1,h3⟩:=and2 (show (_ && okName x)=true from h1)
     obtain ⟨h1,h2⟩:=and2 (show (decide (x=y) && k.gl x)=true from h1)
     obtain rfl:=of_decide_eq_true h1
     have s:=sEs es rz Xe k X _ C on.2 h4
     refine plain_sd rfl ?_ (fun _ _ _ z=>nomatch z) (fun _=>rfl) ⟨fun _ _=>rfl,fun _ _=>rfl,fun _=>rfl,fun _ _=>rfl,fun _ _ _ _=>rfl⟩
     cases xs with
     | nil =>
      cases es with
      | nil=>exact de_call0 (C.calm hcal) on.1 (C.gl h2) (okName1 h3)
      | cons _ _=>exact absurd h4 Bool.false_ne_true
     | cons a r=>exact de_call (C.calm hcal) on.1 (C.gl h2) s.pa (okName1 h3) ((s.hd a r rfl).1.star _ _) ((s.hd a r rfl).2 _ _)
   | _=>exact nfx h
  | _=>exact nfx h
 | .callv i alts es,rz,Xe,k,X,e,C,on,h=>by
  cases e with
  | Call f xs kw pos =>
   cases f with
   | Name y p =>
    cases kw with
    | cons _ _=>cases xs<;>exact nfx h
    | nil =>
     cases xs with
     | nil=>exact nfx h
     | cons a r =>
      obtain ⟨h,hcal⟩:=and2 (show (_ && k.cal)=true from h)
      obtain ⟨h1,h4⟩:=and2 (show (k.slot i y && isEs k es (a :: r))=true from h)
      have s:=sEs es rz Xe k X _ C on.2 h4
      exact plain_sd rfl (de_callv (C.calm hcal) (fun n S m=>onAlts_mem on.1 m) (C.tvar h1) s.pa ((s.hd a r rfl).1.star _ _) ((s.hd a r rfl).2 _ _)) (fun _ _ _ z=>nomatch z) (fun _=>rfl) ⟨fun _ _=>rfl,fun _ _=>rfl,fun _=>rfl,fun _ _=>rfl,fun _ _ _ _=>rfl⟩
   | _=>cases xs<;>exact nfx h
  | _=>exact nfx h
 | .bi b es,rz,Xe,k,X,e,C,on,h=>by
  cases e with
  | Call f xs kw pos =>
   cases f with
   | Name y p =>
    cases xs with
    | nil=>exact nfx h
    | cons a r =>
     cases kw with
     | cons _ _=>exact nfx h
     | nil =>
      obtain ⟨h,hq⟩:=and2 (show (_ && (k.cal || quiet b))=true from h)
      obtain ⟨h1,h3⟩:=and2 (show (_ && isEs k es (a :: r))=true from h)
      obtain ⟨h1,h2⟩:=and2 (show (decide (biName b=y) && k.gl y)=true from h1)
      obtain rfl:=of_decide_eq_true h1
      have s:=sEs es rz Xe k X _ C on h3
      exact plain_sd rfl (de_bi b C.tab C.blt (C.qt hq) (C.gl h2) s.pa ((s.hd _ _ rfl).1.star _ _) ((s.hd _ _ rfl).2 _ _)) (fun _ _ _ z=>nomatch z) (fun _=>rfl) ⟨fun _ _=>rfl,fun _ _=>rfl,fun _=>rfl,fun _ _=>rfl,fun _ _ _ _=>rfl⟩
   | _=>exact nfx h
  | _=>exact nfx h
 | .app i a,rz,Xe,k,X,e,C,on,h=>by
  cases e with
  | Call f xs kw pos =>
   cases f with
   | Attribute o m ap =>
    cases o with
    | Name x p =>
     cases xs with
     | nil=>exact nfx h
     | cons y r =>
      cases r with
      | cons _ _=>exact nfx h
      | nil =>
       cases kw with
       | cons _ _=>exact nfx h
       | nil =>
        obtain ⟨h1,h4⟩:=and2 (show (_ && (ap.endLine == pos.line))=true from h)
        obtain ⟨h1,h3⟩:=and2 (show (_ && isE k a y)=true from h1)
        obtain ⟨h1,h2⟩:=and2 (show (decide (m="append") && k.slot i x)=true from h1)
        obtain rfl:=of_decide_eq_true h1
        have s:=sE a rz Xe k X _ C on h3
        exact plain_sd rfl (de_app (C.var h2) s.pe rfl (fun es=>s.sh.star _ es) h4) (fun _ _ _ z=>nomatch z) (fun _=>rfl) ⟨fun _ _=>rfl,fun _ _=>rfl,fun _=>rfl,fun _ _=>rfl,fun _ _ _ _=>rfl⟩
    | _=>exact nfx h
   | _=>exact nfx h
  | _=>exact nfx h
 | .pop i a,rz,Xe,k,X,e,C,on,h=>by
  cases e with
  | Call f xs kw pos =>
   cases f with
   | Attribute o m ap =>
    cases o with
    | Name x p =>
     cases xs with
     | nil=>exact nfx h
     | cons y r =>
      cases r with
      | cons _ _=>exact nfx h
      | nil =>
       cases kw with
       | cons _ _=>exact nfx h
       | nil =>
        obtain ⟨h1,h4⟩:=and2 (show (_ && (ap.endLine == pos.line))=true from h)
        obtain ⟨h1,h3⟩:=and2 (show (_ && isE k a y)=true from h1)
        obtain ⟨h1,h2⟩:=and2 (show (decide (m="pop") && k.slot i x)=true from h1)
        obtain rfl:=of_decide_eq_true h1
        have s:=sE a rz Xe k X _ C on h3
        exact plain_sd rfl (de_pop (C.var h2) s.pe rfl (fun es=>s.sh.star _ es) h4) (fun _ _ _ z=>nomatch z) (fun _=>rfl) ⟨fun _ _=>rfl,fun _ _=>rfl,fun _=>rfl,fun _ _=>rfl,fun _ _ _ _=>rfl⟩
    | _=>exact nfx h
   | _=>exact nfx h
  | _=>exact nfx h
 | .ins i a b,rz,Xe,k,X,e,C,on,h=>by
  cases e with
  | Call f xs kw pos =>
   cases f with
   | Attribute o m ap =>
    cases o with
    | Name x p =>
     cases xs with
     | nil=>exact nfx h
     | cons y r =>
      cases r with
      | nil=>exact nfx h
      | cons z r =>
       cases r with
       | cons _ _=>exact nfx h
       | nil =>
        cases kw with
        | cons _ _=>exact nfx h
        | nil =>
         obtain ⟨h1,h5⟩:=and2 (show (_ && (ap.endLine == pos.line))=true from h)
         obtain ⟨h1,h4⟩:=and2 (show (_ && isE k b z)=true from h1)
         obtain ⟨h1,h3⟩:=and2 (show (_ && isE k a y)=true from h1)
         obtain ⟨h1,h2⟩:=and2 (show (decide (m="insert") && k.slot i x)=true from h1)
         obtain rfl:=of_decide_eq_true h1
         have s:=sE a rz Xe k X _ C on.1 h3
         have s2:=sE b rz Xe k X _ C on.2 h4
         exact plain_sd rfl (de_ins (C.var h2) s.pe s2.pe rfl (fun es=>s.sh.star _ es) (fun es=>s2.sh.star _ es) h5) (fun _ _ _ z=>nomatch z) (fun _=>rfl) ⟨fun _ _=>rfl,fun _ _=>rfl,fun _=>rfl,fun _ _=>rfl,fun _ _ _ _=>rfl⟩
    | _=>exact nfx h
   | _=>exact nfx h
  | _=>exact nfx h
 | .comp N' n g it elt,rz,Xe,k,X,e,C,on,h=>by
  cases e with
  | ListComp y gs sc p =>
   cases gs with
   | nil=>exact nfx h
   | cons q gs =>
    cases q with
    | mk tg iter ifs z =>
     cases ifs with
     | cons _ _=>exact nfx h
     | nil =>
      cases gs with
      | cons _ _=>exact nfx h
      | nil =>
       obtain ⟨h,hcal⟩:=and2 (show (_ && k.cal)=true from h)
       obtain ⟨h,h5⟩:=and2 (show (_ && isE ⟨N',sc,false,k.cal⟩ elt y)=true from h)
       obtain ⟨h,h4⟩:=and2 (show (_ && isI k tg it iter)=true from h)
       obtain ⟨h,h3⟩:=and2 (show (_ && isG ⟨N',sc,false,k.cal⟩ g tg)=true from h)
       obtain ⟨h,h2⟩:=and2 (show (_ && decide (n=N'.length - k.N.length))=true from h)
       obtain ⟨h,h1⟩:=and2 (show (decide (z=0) && blkB k N' sc)=true from h)
       obtain rfl:=of_decide_eq_true h
       obtain rfl:=of_decide_eq_true h2
       have si:=sI it rz Xe k X tg _ C on.2.1 h4
       refine plain_sd (t:=dComp (N'.length - k.N.length) (rI Xe it) (rG X0 g) (rE X0 elt).e) rfl ?_ (fun _ _ _ z=>nomatch z) (fun _=>rfl) ⟨fun _ _=>rfl,fun _ _=>rfl,fun _=>rfl,fun _ _=>rfl,fun _ _ _ _=>rfl⟩
       rw [<- C.N]
       exact de_comp (C.calm hcal) (blkB_ok C h1).1 si.pi (fun cl Cn s H ex=>⟨(sG g false X0 ⟨N',_,false,k.cal⟩ (blkCx X N' _ cl Cn s H ex []) _ (C.blk h1 cl Cn s H ex) (onG_mono g (fun c x S F=>⟨F.ex⟩) (fun x d F=>⟨F.ex⟩) on.1) h3).pg,
        (sE elt false X0 ⟨N',_,false,k.cal⟩ (blkCx X N' _ cl Cn s H ex []) _ (C.blk h1 cl Cn s H ex) (onE_mono elt (fun c x S F=>⟨F.ex⟩) (fun x d F=>⟨F.ex⟩) on.2.2) h5).pe⟩) (si.set _)
  | _=>exact nfx h
theorem sEs:∀ (c:CEs) (rz:Bool) (Xe:DSt->DK) (k:Ck) (X:Cx) (es:List Expr),CtxOk X k->onEs (FnAt X) (GloAt X) c->isEs k c es=true->SdEs X rz Xe c es
 | .nil,rz,Xe,k,X,es,C,on,h=>by
  cases es with
  | nil=>exact ⟨da_nil,fun _ _=>rfl,fun _ _ z=>nomatch z⟩
  | cons _ _=>exact nfx h
 | .cons e es,rz,Xe,k,X,xs,C,on,h=>by
  cases xs with
  | nil=>exact nfx h
  | cons x r =>
   obtain ⟨h1,h2⟩:=and2 (show (isE k e x && isEs k es r)=true from h)
   have s1:=sE e rz Xe k X _ C on.1 h1
   have s2:=sEs es rz Xe k X _ C on.2 h2
   refine ⟨da_cons s1.pe s2.pa (s1.sh.star _ _),fun pos env=>?_,fun _ _ z=>by cases z; exact ⟨s1.sh,s2.pl⟩⟩
   rw [s1.sh.star]
   show (false || _)=false
   rw [Bool.false_or]
   exact s2.pl pos env
theorem sO:∀ (c:CO) (rz:Bool) (Xe:DSt->DK) (k:Ck) (X:Cx) (e:Option Expr),CtxOk X k->onO (FnAt X) (GloAt X) c->isO k c e=true->PO X e (liftO (X.L rz Xe) (rO Xe c))
 | .none,rz,Xe,k,X,e,C,on,h=>by
  cases e with
  | none=>exact do_none
  | some _=>exact nfx h
 | .some c,rz,Xe,k,X,e,C,on,h=>by
  cases e with
  | none=>exact nfx h
  | some e=>exact do_some (sE c rz Xe k X _ C on h).pe
theorem sG:∀ (c:CG) (rz:Bool) (Xe:DSt->DK) (k:Ck) (X:Cx) (e:Expr),CtxOk X k->onG (FnAt X) (GloAt X) c->isG k c e=true->SdG X rz Xe c e
 | .name i,rz,Xe,k,X,e,C,on,h=>by
  cases e with
  | Name x p =>
   obtain ⟨h1,h2⟩:=and2 (show (decide (k.N[i]?=some x) && k.loc x)=true from h)
   exact ⟨dg_name (by rw [C.N]; exact C.nd) (by rw [C.N]; exact of_decide_eq_true h1) (C.loc h2).1 (C.loc h2).2,fun _ _=>rfl⟩
  | _=>exact nfx h
 | .tup gs,rz,Xe,k,X,e,C,on,h=>by
  cases e with
  | Tuple xs q p =>
   obtain ⟨h,hcal⟩:=and2 (show (_ && k.cal)=true from h)
   have s:=sGs gs rz Xe k X _ C on (show isGs k gs xs=true from h)
   exact ⟨dg_tup (C.calm hcal) s.pg (s.len _) (s.st _),fun _ _=>rfl⟩
  | _=>exact nfx h
 | .sub a b,rz,Xe,k,X,e,C,on,h=>by
  cases e with
  | Subscript x y p =>
   obtain ⟨h1,h2⟩:=and2 (show (isE k a x && isE k b y)=true from h)
   have s2:=sE b rz Xe k X _ C on.2 h2
   exact ⟨dg_sub (sE a rz Xe k X _ C on.1 h1).pe s2.pe (fun v=>s2.sh.sub _ _ _ v),fun _ _=>rfl⟩
  | _=>exact nfx h
theorem sGs:∀ (c:CGs) (rz:Bool) (Xe:DSt->DK) (k:Ck) (X:Cx) (es:List Expr),CtxOk X k->onGs (FnAt X) (GloAt X) c->isGs k c es=true->SdGs X rz Xe c es
 | .nil,rz,Xe,k,X,es,C,on,h=>by
  cases es with
  | nil=>exact ⟨dgs_nil,fun _=>rfl,fun _=>rfl⟩
  | cons _ _=>exact nfx h
 | .cons e es,rz,Xe,k,X,xs,C,on,h=>by
  cases xs with
  | nil=>exact nfx h
  | cons x r =>
   obtain ⟨h1,h2⟩:=and2 (show (isG k e x && isGs k es r)=true from h)
   have s1:=sG e rz Xe k X _ C on.1 h1
   have s2:=sGs es rz Xe k X _ C on.2 h2
   refine ⟨dgs_cons s1.pg s2.pg (by rw [s1.as]; rfl),fun env=>?_,fun env=>?_⟩
   ·rw [s1.as,List.length_cons,s2.len]; rfl
   ·rw [s1.as,List.findIdx?_cons]
    simp [s2.st]
theorem sI:∀ (c:CI) (rz:Bool) (Xe:DSt->DK) (k:Ck) (X:Cx) (tg e:Expr),CtxOk X k->onI (FnAt X) (GloAt X) c->isI k tg c e=true->SdI X rz Xe tg c e
  | .seq c,rz,Xe,k,X,tg,e,C,on,h =>
    have s:=sE c rz Xe k X e C on h
    ⟨di_seq s.pe,s.sh.set⟩
  | .rng es,rz,Xe,k,X,tg,e,C,on,h=>by
    cases e with
    | Call f xs kw pos =>
      cases f with
      | Name y p =>
        cases xs with
        | nil=>exact nfx h
        | cons a r =>
          cases kw with
          | cons _ _=>exact nfx h
          | nil =>
            obtain ⟨h1,h3⟩:=and2 (show (_ && isEs k es (a :: r))=true from h)
            obtain ⟨h1,h2⟩:=and2 (show (decide (y="range") && k.gl y)=true from h1)
            obtain rfl:=of_decide_eq_true h1
            have s:=sEs es rz Xe k X _ C on h3
            exact ⟨di_rng (C.gl h2) C.blt.range s.pa ((s.hd _ _ rfl).1.star _ _) ((s.hd _ _ rfl).2 _ _),fun _ _=>rfl⟩
      | _=>exact nfx h
    | _=>exact nfx h
  | .enum es,rz,Xe,k,X,tg,e,C,on,h=>by
   cases tg with
   | Tuple te tx tp =>
    cases e with
    | Call f xs kw pos =>
      cases f with
      | Name y p =>
        cases xs with
        | nil=>exact nfx h
        | cons a r =>
          cases kw with
          | cons _ _=>exact nfx h
          | nil =>
            obtain ⟨h1,h3⟩:=and2 (show (_ && isEs k es (a :: r))=true from h)
            obtain ⟨h1,h2⟩:=and2 (show (decide (y="enumerate") && k.gl y)=true from h1)
            obtain rfl:=of_decide_eq_true h1
            have s:=sEs es rz Xe k X _ C on h3
            exact ⟨di_enum (C.gl h2) C.blt.enum s.pa ((s.hd _ _ rfl).1.star _ _) ((s.hd _ _ rfl).2 _ _),fun _ _=>rfl⟩
      | _=>exact nfx h
    | _=>exact nfx h
   | _=>exact nfx h
end
end DL
end
noncomputable section
namespace DL
open PySem PySem.Spec PyProof.Rows L2
theorem objOk_there {P:Program} {w:World} {H:Hp} {h:Heap} {a:Addr} {o:HO} (x:ObjOk P w H h a o):∃ ob,h.get? a=some ob:=by
 cases o with
 | lst xs=>obtain ⟨_,_,_,_,e⟩:=x; exact ⟨_,e⟩
 | tup xs=>obtain ⟨_,_,_,ob,e,_⟩:=x; exact ⟨_,e⟩
 | dK kvs=>obtain ⟨_,_,_,_,ob,_,_,e,_⟩:=x; exact ⟨_,e⟩
 | dT kvs=>obtain ⟨_,_,_,_,ob,_,_,e,_⟩:=x; exact ⟨_,e⟩
 | set S n=>obtain ⟨ob,_,_,_,e,_⟩:=x; exact ⟨_,e⟩
 | ins C dx fs=>obtain ⟨_,_,_,e,_⟩:=x; exact ⟨_,e⟩
 | own y=>exact x
 | xd fs=>obtain ⟨_,⟨ob,_,_,e,_⟩,_⟩:=x; exact ⟨_,e⟩
 | rng lo hi=>obtain ⟨_,_,_,e⟩:=x; exact ⟨_,e⟩
 | frz ob u=>exact ⟨_,x.1⟩
 | tbl ps=>exact ⟨_,(show h.get? a=some _ from x)⟩
 | met f y=>exact ⟨_,(show h.get? a=some _ from x)⟩
 | ext φ=>exact x.2.1
theorem un_near {fs:List Addr} {H1 H':Hp} {h1 h' h2 B:Heap} (un:Un fs [] H1 H' h1 h') (old:∀ b o,h1.get? b=some o->H1 b=none->b ∉ fs->B.get? b=some o) (st:B.StaysIn h2)
  (ff:∀ b∈fs,∃ o,h'.get? b=some o/\∀ vs,o.data≠.fields vs) (nr:Near h' h2):Un fs [] H1 H' h1 h2 where
 keep:=fun b o e n hb _=>st b o (old b o e n hb)
 slot:=fun b o e n hb hx=>by
  obtain ⟨sl,e1⟩:=un.slot b o e n hb hx
  obtain ⟨o2,e2,d2⟩:=ff b hb
  rw [e1] at e2; cases e2
  obtain ⟨sl2,e3⟩:=nr.1 b _ e1 d2
  exact ⟨sl2,e3⟩
 free:=un.free
 there:=fun b o e hx=>let ⟨o',e'⟩:=un.there b o e hx; nr.2 b o' e'
 tups:=un.tups
 frzs:=un.frzs
 tbls:=un.tbls
section
variable {X:Cx} {pins:List (Addr×Obj)} {σ:L2.St} {H H':Hp} {s s':Shared} {e C:Addr} {dd:Option Addr}
theorem frs_cons {env:Env} {L:Addr} {l:List Env} (h:env.frame=some L):frs (env :: l)=L :: frs l:=by simp [frs,h]
theorem old_entry (I:L2.Inv X pins σ H s) (hex:X.ex=[]) {B:Heap} (old:∀ b o,s.heap.get? b=some o->H b=none->b ∉ frs X.stack->B.get? b=some o) :
  ∀ b o,X.s₀.heap.get? b=some o->X.H₀ b=none->b ∉ X.fs->B.get? b=some o:=fun b o e n hb=>by
 have hx:b ∉ X.ex:=by rw [hex]; simp
 refine old b o (I.base.keep b o e n hb hx) (I.base.free b o e n hx) fun z=>?_
 rcases List.mem_cons.mp (I.stkSub b z) with q | q
 ·exact absurd (Nat.lt_of_lt_of_le (Heap.lt_size e) I.ok.above) (by rw [q]; exact Nat.lt_irrefl _)
 ·exact hb q
theorem un_entry (I:L2.Inv X pins σ H s) (hex:X.ex=[]) (st:X.stack=X.env :: X.outer/\X.env.frame=some X.env.locals) {h' B:Heap} (un:Un (frs X.stack) [] H H' s.heap h') (old:∀ b o,s.heap.get? b=some o->H b=none->b ∉ frs X.stack->B.get? b=some o) (hB:B.StaysIn h') :
  Un X.fs [] X.H₀ H' X.s₀.heap h':=by
 have a:Un (frs X.stack) [] X.H₀ H X.s₀.heap s.heap:=I.base.mono (fun b hb=>by rw [st.1,frs_cons st.2]; exact List.mem_cons_of_mem _ hb) (by rw [hex]; simp)
 have t:=a.trans un
 exact ⟨fun b o e n hb hx=>hB b o (old_entry I hex old b o e n hb),fun b o e n hb hx=>t.any e n hx,t.free,t.there,t.tups,t.frzs,t.tbls⟩
end
section
variable {P:Program} {w:World} {K:PySem.W.Frag} {mg:Str->Option Value} {base:Heap} {N:List Str} {qual:Str} {scope:Scope} {f:Addr} {cd:Value} {A:Around} {outer:List Env} {s:Shared} {H:Hp} {E:XK}
theorem xe_leave {Ed:DK} (hE:∀ n M' H' C dd x,HExt K H H'->RepM K H' M'->n∈xNames->ClsOf K n C->ExD K H' n dd x->Ed (.exc n x) M'->E (.ref C) dd H'):XeOk (cxOf (CXR P w) P w K mg base N qual scope f cd A outer s H E) true (fun _=>Ed) H where
 fly:=fun pins σ H1 s1 H' e C dd s' δ M' n xd x I th m sl hn hc ed hx=>by
  obtain ⟨B,os,bare,un,old,hokB,fl⟩:=th.ex
  show wpAny _ _ _ _ _ _
  refine fly_leave I.ok.frames rfl fl fun h' F' nr=>?_
  have ff:∀ b∈frs (cxOf (CXR P w) P w K mg base N qual scope f cd A outer s H E).stack,∃ o,s'.heap.get? b=some o/\∀ vs,o.data≠.fields vs:=fun b hb=>(fl.frames.mem hb).2
  exact ⟨e,C,dd,H',rfl,⟨B,os.trans I.os,bare,un_entry I rfl ⟨rfl,rfl⟩ (un_near un old F'.stays ff nr) old F'.stays,old_entry I rfl old,hokB,F'⟩,hE n M' H' C dd xd x m hn hc ed hx⟩
 made:=fun _ pins σ H' h e C dd s' δ M' n xd x I mk m sl hn hc ed hx=>by
  show wpAny _ _ _ _ _ _
  have hin:∀ env∈(cxOf (CXR P w) P w K mg base N qual scope f cd A outer s H E).stack,∀ a,env.frame=some a->a∈frs (cxOf (CXR P w) P w K mg base N qual scope f cd A outer s H E).stack:=fun env he b hb=>List.mem_filterMap.mpr ⟨env,he,hb⟩
  have st:(PySem.W.hideAll h (frs (cxOf (CXR P w) P w K mg base N qual scope f cd A outer s H E).stack)).StaysIn h:=fun b o q=>PySem.W.of_hideAll _ q
  refine fly_leave0 (h:=h) (B:=PySem.W.hideAll h (frs (cxOf (CXR P w) P w K mg base N qual scope f cd A outer s H E).stack)) I.ok.frames rfl (PySem.W.funFrames_hide I.stack hin) st mk fun h' F' nr=>?_
  have old:∀ b o,h.get? b=some o->H' b=none->b ∉ frs (cxOf (CXR P w) P w K mg base N qual scope f cd A outer s H E).stack->(PySem.W.hideAll h (frs (cxOf (CXR P w) P w K mg base N qual scope f cd A outer s H E).stack)).get? b=some o:=fun b o q _ hb=>PySem.W.hideAll_get _ q hb
  have ff:∀ b∈frs (cxOf (CXR P w) P w K mg base N qual scope f cd A outer s H E).stack,∃ o,h.get? b=some o/\∀ vs,o.data≠.fields vs:=fun b hb=>(I.stack.mem hb).2
  have un:Un (frs (cxOf (CXR P w) P w K mg base N qual scope f cd A outer s H E).stack) [] H' H' h h':=un_near .refl old F'.stays ff ((Near.kept mk.keeps).trans nr)
  refine ⟨e,C,dd,H',rfl,⟨_,I.os,I.bare,un_entry I rfl ⟨rfl,rfl⟩ un old F'.stays,old_entry I rfl old,fun a o q=>?_,F'⟩,hE n M' H' C dd xd x m hn hc ed hx⟩
  refine (I.hok a o q).stay (fun c u hc r=>PySem.W.hideAll_get _ r fun z=>?_) (fun _ q=>q) fun _ _ q=>q
  have:=I.stkFree c z
  rcases hc with rfl | hc
  ·rw [q] at this; cases this
  ·rw [hc] at this; cases this
end
theorem own_of {K:PySem.W.Frag} {h:Heap} {C:Addr} {bmB:List Value} {newId:String} (X:K.In h) (q:PySem.W.excIn K C bmB newId=true) :
  ∃ bm N nm q bs hdct sn sub ab col dd k0 k1 k2 k3 k5 mN,h.get? C=some (excClassObj nm q C N bs bm hdct sn sub ab col dd k0 k1 k2 k3 k5 newId)/\h.Ns N mN/\mN "__init__"=none/\OwnTail h bmB bm:=by
 unfold PySem.W.excIn at q
 split at q
 next dd cd sl ho =>
  split at q
  next C' bm a0 a1 a2 a3 id a5 em es =>
   simp only [Bool.and_eq_true,beq_iff_eq,Bool.not_eq_true'] at q
   obtain ⟨⟨⟨⟨⟨z1,z2⟩,z3⟩,z4⟩,z5⟩,z6⟩:=q
   obtain ⟨nm,bs,mro,ns,qn,hd,sn,sub,ab,col,del⟩:=cd
   have hsl:sl=#[a0,a1,a2,a3,some (.builtin newId),a5]:=by
    rw [z2] at es
    rw [<- es]
   simp only at em z3 z5 z6
   subst z1 em z3 hsl
   exact ⟨bm,ns,nm,qn,bs,hd,sn,sub,ab,col,dd,a0,a1,a2,a3,a5,_,X _ _ ho,.of_isNs (PySem.W.isNs_of_in X z5),PySem.W.nsMap_none_of_in X z5 z6,PySem.W.tail_of_in X z4⟩
  next=>cases q
 next=>cases q
theorem plain_not {n:Str} (h:xPlain.contains n=true):n ∉ xInit:=by
 have:∀ m∈xPlain,m ∉ xInit:=by decide
 exact this n (by simpa using h)
noncomputable def dRaise (n:Str) (ta:(DSt->DK)->DA):DS:=fun D δ M=>ta D.ex δ M fun ds M1=>ds.length<=sizeLine/\D.ex δ (.exc n .non) M1
section
variable {X:Cx} {x:Str} {np cpos pos:Pos} {e:Expr} {es:List Expr} {ta:(DSt->DK)->DA}
theorem ds_raise {C:Addr} (hr:Room 0 X.A) (tab:xTabB X.K=true) (hp:xPlain.contains x=true) (hc:ClsOf X.K x C) (hm:X.mg x=some (.ref C)) (hg:Gl X x) (hdb:(x == ("__debug__":Str))=false) (ha:∀ Xe,PA X (e :: es) (liftA (X.L true Xe) (ta Xe)))
  (he:starEach (e :: es) X.env=(false,eval e X.env) :: starEach es X.env) (hpl:(backTo cpos (starEach es X.env)).any (·.1)=false) :
  PS X (.Raise (some (.Call (.Name x np) (e :: es) [] cpos)) none pos) (liftS X true (dRaise x ta)):=by
 rintro pins s σ H Z I ⟨δ,M,D,rs,rm,t,n,r,b,c⟩
 have hn:x∈xNames:=List.mem_cons_of_mem _ (List.mem_append_left _ (by simpa using hp))
 have FV:=PySem.F.excBase_ValueError
 obtain ⟨bm,Nn,nm,q,bs,hdct,sn,sub,ab,col,dd,k0,k1,k2,k3,k5,mN,hC,hN,hni,T⟩:=own_of (C:=C) I.ok.mod.kin ((xTab_row tab hn hc).2.1 hp)
 refine wpAny_Raise_call_subU (C:=C) (nm:=nm) (q:=q) (N:=Nn) (bs:=bs) (bm:=bm) (bmB:=bmV) (hdct:=hdct) (sn:=sn) (sub:=sub) (ab:=ab) (col:=col) (dd:=dd) (k0:=k0) (k1:=k1) (k2:=k2) (k3:=k3) (k5:=k5) FV (by decide) FV (mN:=mN)
  (T.hasType (by decide)) hr.hd (by rw [he]; show (false || (backTo cpos (starEach es X.env)).any (·.1))=false; rw [hpl]; rfl) hni (ld_glob I hg hm ⟨rfl,?_⟩ hdb)
 rw [he]
 refine Calls.evalArgs_plain ?_
 have sp:=ha D.ex cpos pins s σ H (fun vs H1=>∃ ds M1,HExt X.K H H1/\RepM X.K H1 M1/\RelDs X.K H1 vs ds/\ds.length<=sizeLine/\D.ex δ (.exc x .non) M1) I ⟨δ,M,_,rs,rm,t,fun ds M1 vs H1 x m r h=>⟨ds,M1,x,m,r,h.1,h.2⟩⟩
 rw [he] at sp
 refine wpAny_mono sp (fun us s1 ⟨vs,H1,I1,r1,ds,M1,x1,m1,rd,hl,hx⟩=>⟨rfl,by rw [<- r1.length,rd.length]; exact hl,I1.bk _ _ hC,hN.keeps I1.bk,T.keeps I1.bk,fun h' e0 mk=>?_⟩) fun _ _ z=>z
 exact rs.ok.made rfl pins σ H1 s1.heap e0 C none { s1 with heap:=h' } δ M1 x .non x1 I1 (Made.of mk) m1 (rs.toSlots.ext x1) hn hc (.plain (plain_not hp)) hx
end
noncomputable def dRaiseI (n:Str) (ta:(DSt->DK)->DA):DS:=fun D δ M=>ta D.ex δ M fun ds M1=>∃ x,ds=[x]/\D.ex δ (.exc n x) M1
section
variable {X:Cx} {x:Str} {np cpos pos:Pos} {e:Expr} {es:List Expr} {ta:(DSt->DK)->DA}
theorem ds_raiseI {C:Addr} (hr:Room 0 X.A) (tab:xTabB X.K=true) (hp:xInit.contains x=true) (hc:ClsOf X.K x C) (hm:X.mg x=some (.ref C)) (hg:Gl X x) (hdb:(x == ("__debug__":Str))=false) (ha:∀ Xe,PA X (e :: es) (liftA (X.L true Xe) (ta Xe)))
  (he:starEach (e :: es) X.env=(false,eval e X.env) :: starEach es X.env) (hpl:(backTo cpos (starEach es X.env)).any (·.1)=false) :
  PS X (.Raise (some (.Call (.Name x np) (e :: es) [] cpos)) none pos) (liftS X true (dRaiseI x ta)):=by
 rintro pins s σ H Z I ⟨δ,M,D,rs,rm,t,n,r,b,c⟩
 have hi:x∈xInit:=by simpa using hp
 have hn:x∈xNames:=List.mem_cons_of_mem _ (List.mem_append_right _ hi)
 have FV:=PySem.F.excBase_ValueError
 obtain ⟨Bc,fI,T⟩:=iTab_row tab hi hc
 obtain ⟨bm,Nn,nm,q,bs,sn,sub,ab,col,dd,k0,k1,k2,k3,k5,mN,hC,hN,hni,OT,cd,hci,hdc,hpm⟩:=excI_of (C:=C) I.ok.mod.kin T.ex
 obtain ⟨oI,hfK,hfc⟩:∃ oI,X.K.lookup fI=some oI/\oI.cls=.type "function":=by
  have tf:=T.fn
  unfold initFn at tf
  split at tf
  next lk=>exact ⟨_,lk,rfl⟩
  next=>cases tf
 have hmB:X.mg "CordError"=some (.ref Bc):=by
  have e:=T.b
  unfold clsAt at e
  split at e
  next q=>cases e; exact PySem.W.mg_of I.ok.mod.kin I.ok.mod.glob q
  next=>cases e
 refine raise_call_initU (C:=C) (nm:=nm) (q:=q) (N:=Nn) (bs:=bs) (bm:=bm) (bmB:=bmV) (hdct:=true) (sn:=sn) (sub:=sub) (ab:=ab) (col:=col) (dd:=dd) (k0:=k0) (k1:=k1) (k2:=k2) (k3:=k3) (k5:=k5) (fI:=fI) FV (by decide) FV (mN:=mN)
  (OT.hasType (by decide)) hr.hd (by rw [he]; show (false || (backTo cpos (starEach es X.env)).any (·.1))=false; rw [hpl]; rfl) hni (ld_glob I hg hm ⟨rfl,?_⟩ hdb)
 rw [he]
 refine Calls.evalArgs_plain ?_
 have sp:=ha D.ex cpos pins s σ H (fun vs H1=>∃ ds M1,HExt X.K H H1/\RepM X.K H1 M1/\RelDs X.K H1 vs ds/\∃ x0,ds=[x0]/\D.ex δ (.exc x x0) M1) I ⟨δ,M,_,rs,rm,t,fun ds M1 vs H1 x m r h=>⟨ds,M1,x,m,r,h⟩⟩
 rw [he] at sp
 refine wpAny_mono sp (fun us s1 hq1=>?_) fun _ _ z=>z
 obtain ⟨vs,H1,I1,r1,ds,M1,x1,m1,rd,x0,rfl,hx⟩:=hq1
 obtain ⟨v1,rfl,rx⟩:∃ v1,vs=[v1]/\RelD X.K H1 v1 x0:=by cases rd with | cons a b=>cases b; exact ⟨_,rfl,a⟩
 obtain ⟨u1,rfl,ru⟩:∃ u1,us=[u1]/\RelV v1 u1:=by cases r1 with | cons a b=>cases b; exact ⟨_,rfl,a⟩
 refine ⟨rfl,by show 1<=sizeLine; simp [sizeLine_eq],I1.bk _ _ hC,hN.keeps I1.bk,OT.keeps I1.bk,⟨oI,I1.kIn _ _ hfK,hfc⟩,fun h' e0 mk=>?_⟩
 have ne1:∀ b o,s1.heap.get? b=some o->b≠e0:=fun b o q z=>by rw [z,mk.new] at q; cases q
 have H1e:H1 e0=none:=by
  cases q:H1 e0 with
  | none=>rfl
  | some u=>obtain ⟨ob,z⟩:=objOk_there (I1.hok e0 u q); exact absurd rfl (ne1 _ _ z)
 have J:L2.Inv X pins σ H1 { s1 with heap:=h' }:=I1.call' (s':={ s1 with heap:=h' }) (ch:=[]) rfl (Un.kept mk.keeps) (I1.hok.kept mk.keeps) I1.bare (fun b hb=>by cases hb)
 obtain ⟨t0,q1,_,_⟩:=mk.there
 refine wpAny_call (run_init T (xTab_row tab hn hc).1.obj hmB hr.hd (by rw [L2.make_depth]; have:=hr.dp; omega) (J.env0.make C [u1] []) q1 rfl rfl rfl rfl rfl H1e ?_ (fun z=>?_) ru fun s3 E3=>⟨rfl,?_⟩)
 ·cases q:X.base.get? e0 with
  | none=>rfl
  | some o=>exact absurd rfl (ne1 _ _ (I1.bk _ _ q))
 ·obtain ⟨_,o,q,_⟩:=I1.stack.mem z
  exact absurd rfl (ne1 _ _ q)
 obtain ⟨ob,ws,d,u,a1,a2,a3,a4,a5,a6,a7,a8,a9⟩:=E3.at_
 have dn:∀ b o,s1.heap.get? b=some o->b≠d:=fun b o q z=>by
  have:=Heap.lt_size (mk.keeps b o q)
  rw [z] at this
  exact absurd (Nat.lt_of_lt_of_le this a8) (Nat.lt_irrefl _)
 have de:d≠e0:=fun z=>by
  have:=Heap.lt_size q1
  rw [<- z] at this
  exact absurd (Nat.lt_of_lt_of_le this a8) (Nat.lt_irrefl _)
 have C3:s3.heap.get? C=some (excClassObj nm q C Nn bs bm true sn sub ab col dd k0 k1 k2 k3 k5 "ValueError.__new__"):=by
  have bC:=I1.bk _ _ hC
  refine E3.un.keep C _ (mk.keeps _ _ bC) (I1.bs _ _ hC).2 (fun z=>?_) (by simpa using ne1 _ _ bC)
  have:=(I1.stack.mem z).1
  rw [hC] at this; cases this
 refine ⟨ob,ws,C3,a1,a2,a4,a5,?_⟩
 have x5:HExt X.K H1 (upd H1 d (.ext (FldAt d (fldOf x) v1))):=.upd (.inl a9)
 have m5:RepM X.K (upd H1 d (.ext (FldAt d (fldOf x) v1))) M1:=fun a o q=>(m1 a o q).ext x5 fun z=>by subst z; exact absurd a9 (m1 a o q).fresh
 have neH:∀ b u,H1 b=some u->b≠d:=fun b u q z=>by rw [z,a9] at q; cases q
 have hid:∀ b o,b≠e0->s3.heap.get? b=some o->(PySem.W.hideAll s3.heap [e0]).get? b=some o:=fun b o n q=>PySem.W.hideAll_get _ q (by simpa using n)
 have un5:Un (frs X.stack) [] H1 (upd H1 d (.ext (FldAt d (fldOf x) v1))) s1.heap (PySem.W.hideAll s3.heap [e0]):={
  keep:=fun b o q nn hf _=>hid b o (ne1 b o q) (E3.un.keep b o (mk.keeps b o q) nn hf (by simpa using ne1 b o q)),
  slot:=fun b o q nn hf _=>by obtain ⟨sl,z⟩:=E3.un.slot b o (mk.keeps b o q) nn hf (by simpa using ne1 b o q); exact ⟨sl,hid b _ (ne1 b o q) z⟩,
  free:=fun b o q nn _=>by rw [upd_ne (dn b o q)]; exact nn,
  there:=fun b o q _=>by obtain ⟨o',z⟩:=E3.un.there b o (mk.keeps b o q) (by simpa using ne1 b o q); exact ⟨o',hid b _ (ne1 b o q) z⟩,
  tups:=fun b xs q=>by rw [upd_ne (neH b _ q)]; exact q,
  frzs:=fun b o u q=>by rw [upd_ne (neH b _ q)]; exact q,
  tbls:=fun b ps q=>⟨#[],by rw [upd_ne (neH b _ q)]; simpa using q⟩ }
 have hok5:HOk X.prog X.w (upd H1 d (.ext (FldAt d (fldOf x) v1))) (PySem.W.hideAll s3.heap [e0]):=fun a o q=>by
  by_cases z:a=d
  ·subst z; rw [upd_same] at q; cases q
   have n7:(PySem.W.hideAll s3.heap [e0]).Ns1 a (fun y=>if y=fldOf x then some u else none):=a7.at fun o q=>hid a o de q
   obtain ⟨o,es',ep',q',_⟩:=id n7
   exact ⟨⟨u,a6,n7⟩,⟨o,q'⟩,fun g1 g2 ⟨u',c1,c2⟩ k=>⟨u',c1,c2.at k⟩⟩
  ·rw [upd_ne z] at q
   refine (E3.hok a o q).stay (fun c u hc r=>hid c u (fun z=>?_) r) (fun c q=>by rw [upd_ne (neH c _ q)]; exact q) fun c xs q=>by rw [upd_ne (neH c _ q)]; exact q
   subst z
   rcases hc with rfl | hc
   ·rw [H1e] at q; cases q
   ·rw [H1e] at hc; cases hc
 have I5:L2.Inv X pins σ (upd H1 d (.ext (FldAt d (fldOf x) v1))) { s3 with heap:=PySem.W.hideAll s3.heap [e0] }:=I1.call' (s':={ s3 with heap:=PySem.W.hideAll s3.heap [e0] }) E3.os un5 hok5 E3.bare (fun b hb=>by cases hb)
 exact rs.ok.made rfl pins σ _ (PySem.W.hideAll s3.heap [e0]) e0 C (some d) s3 δ M1 x x0 (x1.trans x5) I5 ⟨fun b o q=>PySem.W.of_hideAll _ q,PySem.W.hideAll_none _ (List.mem_cons_self),ob,ws,a1,a2,a3,a4,a5⟩ m5 (rs.toSlots.ext (x1.trans x5)) hn hc (.fld hi upd_same (rx.ext x5)) hx
end
section
variable {X:Cx} {pins:List (Addr×Obj)} {σ:L2.St} {H:Hp} {s:Shared}
end
noncomputable abbrev _root_.L2.Cx.hnd (X:Cx) (e:Addr):Cx:={ X with A:=X.A.mark (some (.ref e)),calm:=false,xe:=fun _ _=>False }
theorem inv_hnd {X:Cx} {pins:List (Addr×Obj)} {σ:L2.St} {H:Hp} {s:Shared} (I:L2.Inv X pins σ H s) (e:Addr):L2.Inv (X.hnd e) pins σ H s :=
 ⟨⟨I.ok.mod,I.ok.kind,I.ok.glob,I.ok.blt,I.ok.above,I.ok.inj,I.ok.has,I.ok.cab,fun z=>(by cases z),I.ok.frames,I.ok.stk,I.ok.exf,I.ok.bs,I.ok.bsz,I.ok.noex,I.ok.exfs,I.ok.funs,I.ok.frf⟩,I.os,I.bare,I.base,I.loc,I.cell,I.free,I.freeC,I.pin,I.hok,I.len⟩
theorem inv_unhnd {X:Cx} {pins:List (Addr×Obj)} {σ:L2.St} {H:Hp} {s:Shared} {e:Addr} (ok:X.Ok) (I:L2.Inv (X.hnd e) pins σ H s):L2.Inv X pins σ H s :=
 ⟨ok,I.os,I.bare,I.base,I.loc,I.cell,I.free,I.freeC,I.pin,I.hok,I.len⟩
noncomputable abbrev _root_.L2.Cx.tri (X:Cx) (xe:Value->Shared->Prop) (pins:List (Addr×Obj)):Cx:={ X with xe:=xe,pn:=X.pn++pins }
theorem inv_tri {X:Cx} {pins:List (Addr×Obj)} {σ:L2.St} {H:Hp} {s:Shared} (I:L2.Inv X pins σ H s) (xe:Value->Shared->Prop):L2.Inv (X.tri xe pins) [] σ H s :=
 ⟨⟨I.ok.mod,I.ok.kind,I.ok.glob,I.ok.blt,I.ok.above,I.ok.inj,I.ok.has,I.ok.cab,I.ok.hd,I.ok.frames,I.ok.stk,I.ok.exf,I.ok.bs,I.ok.bsz,I.ok.noex,I.ok.exfs,I.ok.funs,I.ok.frf⟩,I.os,I.bare,I.base,I.loc,I.cell,I.free,I.freeC,fun p hp=>I.pin p (by simpa using hp),I.hok,I.len⟩
theorem inv_untri {X:Cx} {pins pl:List (Addr×Obj)} {σ:L2.St} {H:Hp} {s:Shared} {xe:Value->Shared->Prop} (ok:X.Ok) (I:L2.Inv (X.tri xe pins) pl σ H s):L2.Inv X pins σ H s :=
 ⟨ok,I.os,I.bare,I.base,I.loc,I.cell,I.free,I.freeC,fun p hp=>I.pin p (List.mem_append_left _ hp),I.hok,I.len⟩
noncomputable def dTry (t:DS) (c:Str) (ie ix:Nat):DS:=fun D δ M=>t { D with ex:=fun δ' d M'=>∃ n,d=.exc n (xarg d)/\isSub n c=true/\D.nx ((δ'.set ix (some d)).set ie none) M' } δ M
section
variable {X:Cx} {rz:Bool} {body:List Stmt} {t:DS} {cx ne x:Str} {np px pe apos hpos pos:Pos} {ie ix:Nat}
end
section
variable {X:Cx} {rz:Bool} {b0:Stmt} {body hb:List Stmt} {t th:DS} {cx ne:Str} {np hpos pos:Pos} {ie:Nat}
end
noncomputable def dTrn (t th:DS) (c:Str):DS:=fun D δ M=>t { D with ex:=fun δ' d M'=>∃ n,d=.exc n (xarg d)/\isSub n c=true/\th { nx:=D.nx,rt:=D.rt,bk:=fun _ _=>False,ct:=fun _ _=>False,ex:=X0 } δ' M' } δ M
section
variable {X:Cx} {rz:Bool} {b0:Stmt} {body hb:List Stmt} {t th:DS} {cx:Str} {np hpos pos:Pos}
theorem ds_trn {C:Addr} (st:X.stack=X.env :: X.outer/\X.env.frame=some X.env.locals) (tab:xTabB X.K=true) (hcx:cx∈xNames) (hc:ClsOf X.K cx C) (hm:X.mg cx=some (.ref C)) (hg:Gl X cx) (hdb:(cx == ("__debug__":Str))=false)
  (hbd:∀ xe pins,PassesOwn (model X.prog X.w) X.A X.env xe->PSs (X.tri xe pins) body (liftS (X.tri xe pins) false t)) (hh:∀ e,PSs (X.hnd e) (b0 :: hb) (liftS (X.hnd e) false th)) :
  PS X (.Try body [.ExceptHandler (some (.Name cx np)) none (b0 :: hb) hpos] [] [] pos) (liftS X rz (dTrn t th cx)):=by
 rintro pins s σ H Z I ⟨δ,M,D,rs,rm,t,n,r,b,c⟩
 refine wpAny_Try_except ?_
 generalize hxe:(fun e s₁=>wpAny (model X.prog X.w) X.A (noteFrame e X.env) (fun _ s₂=>wpAny (model X.prog X.w) X.A (setFlight e none) (fun _ s₃=>wpAny (model X.prog X.w) X.A (handleBy e X.env [.ExceptHandler (some (.Name cx np)) none (b0 :: hb) hpos]) (SP X pins Z) X.xe s₃) X.xe s₂) X.xe s₁)=xe
 have po:PassesOwn (model X.prog X.w) X.A X.env xe:=by rw [<- hxe]; exact PassesOwn.looking
 have ok:=I.ok
 refine wpAny_mono (hbd xe pins po [] s σ H Z (inv_tri I xe) ⟨δ,M,_,⟨rs.toSlots,⟨?_,fun z=>by cases z⟩⟩,rm,t,fun δ' M' σ' H' x rs' m' h'=>n δ' M' σ' H' x ⟨rs'.toSlots,(X.L rz D.ex).mono _ _ x rs.ok⟩ m' h',r,fun δ' M' σ' H' x rs' m' h'=>b δ' M' σ' H' x ⟨rs'.toSlots,(X.L rz D.ex).mono _ _ x rs.ok⟩ m' h',fun δ' M' σ' H' x rs' m' h'=>c δ' M' σ' H' x ⟨rs'.toSlots,(X.L rz D.ex).mono _ _ x rs.ok⟩ m' h'⟩) (fun fl s' q=>?_) fun e s' q=>q
 ·intro pins' σ' H1 s1 H' e C' dd s' δ' M' n' xd x1 I1 th m' sl hn' hc' ed ⟨n2,en,hsub,hnx⟩
  cases en
  rw [<- hxe]
  have I1':L2.Inv X pins σ' H1 s1:=inv_untri ok I1
  obtain ⟨B,os,bare,un,old,hokB,fl⟩:=th.ex
  have fl':Flies B (X.env :: X.outer) e (.ref C') dd .none s'.heap:=by rw [<- st.1]; exact fl
  have fr:X.A.frames=some (X.env :: X.outer):=by rw [<- st.1]; exact ok.frames
  have ff:∀ b∈frs X.stack,∃ o,s'.heap.get? b=some o/\∀ vs,o.data≠.fields vs:=fun b hb=>(fl.frames.mem hb).2
  refine fly_note fr st.2 fl' fun h2 F2 n2'=>fly_land F2 fun h3 F3 n3=>?_
  have I3:L2.Inv X pins σ' H' { s' with heap:=h3 }:=I1'.call' (s':={ s' with heap:=h3 }) os (un_near un old F3.stays ff (n2'.trans n3)) (hokB.kept F3.stays) bare (fun b hb=>by cases hb)
  have I3h:=inv_hnd I3 e
  have LT:PySem.W.Looks (model X.prog X.w) h3 (typeOf (.ref e)) (.ref C'):=by
   obtain ⟨oe,vs,T,oT,ts,q1,q2,_⟩:=F3.tr
   exact q2 ▸ (PySem.W.Looks.ld q1).andThen .now
  have hx:=((xTab_row tab hn' hc').2.2.2 cx C hcx hc).1
  rw [hsub] at hx
  refine wpAny_handleBy_cons (codeAny_handlers_test (ld_glob (X:=X.hnd e) I3h hg hm ((PySem.W.exm_one I3.kIn LT hx).at ?_) hdb)) (by intro z; cases z)
  show codeAny _ _ _ _ _
  refine codeAny_handlers_suite (fly_land (s:={ s' with heap:=h3 }) F3 fun h4 F4 n4=>?_)
  have I4:L2.Inv X pins σ' H' { s' with heap:=h4 }:=I1'.call' (s':={ s' with heap:=h4 }) os (un_near un old F4.stays ff (n2'.trans (n3.trans n4))) (hokB.kept F4.stays) bare (fun b hb=>by cases hb)
  refine wpAny_mono (hh e pins { s' with heap:=h4 } σ' H' Z (inv_hnd I4 e)
   ⟨δ',M',{ nx:=D.nx,rt:=D.rt,bk:=fun _ _=>False,ct:=fun _ _=>False,ex:=X0 },⟨sl,xeOk0⟩,m',hnx,fun δ7 M7 σ7 H7 x7 rs7 m7 h7=>n δ7 M7 σ7 H7 (x1.trans x7) ⟨rs7.toSlots,(X.L rz D.ex).mono _ _ (x1.trans x7) rs.ok⟩ m7 h7,fun d M7 v H7 x7 m7 r7 h7=>r d M7 v H7 (x1.trans x7) m7 r7 h7,fun _ _ _ _ _ _ _ z=>z.elim,fun _ _ _ _ _ _ _ z=>z.elim⟩) (fun f s7 h7=>?_) fun _ _ z=>z.elim
  cases f with
  | next=>obtain ⟨σ7,H7,I7,z⟩:=h7; exact ⟨σ7,H7,inv_unhnd ok I7,z⟩
  | brk=>obtain ⟨σ7,H7,I7,z⟩:=h7; exact ⟨σ7,H7,inv_unhnd ok I7,z⟩
  | cont=>obtain ⟨σ7,H7,I7,z⟩:=h7; exact ⟨σ7,H7,inv_unhnd ok I7,z⟩
  | ret u=>obtain ⟨v,σ7,H7,I7,rr,z⟩:=h7; exact ⟨v,σ7,H7,inv_unhnd ok I7,rr,z⟩
 ·have q':SP X pins Z fl s':=by
   cases fl with
   | next=>obtain ⟨σ',H',I',z⟩:=q; exact ⟨σ',H',inv_untri ok I',z⟩
   | brk=>obtain ⟨σ',H',I',z⟩:=q; exact ⟨σ',H',inv_untri ok I',z⟩
   | cont=>obtain ⟨σ',H',I',z⟩:=q; exact ⟨σ',H',inv_untri ok I',z⟩
   | ret u=>obtain ⟨v,σ',H',I',rr,z⟩:=q; exact ⟨v,σ',H',inv_untri ok I',rr,z⟩
  cases fl with
  | next =>
   obtain ⟨σ',H',I',z⟩:=q'
   exact pss_nil pins s' σ' H' Z I' z
  | brk=>exact q'
  | cont=>exact q'
  | ret u=>exact q'
end
end DL
end
noncomputable section
namespace DL
open PySem PySem.Spec PyProof.Rows L2
mutual
inductive CS where
 | expr (e:CE) | ret (e:CE)
 | ife (c:CE) (a b:CSs)
 | set (i:Nat) (e:CE)
 | asg (g:CG) (e:CE)
 | par (i j:Nat) (a b:CE)
 | par3 (i j l:Nat) (a b c:CE)
 | whl (c:CE) (b:CSs)
 | fr (g:CG) (it:CI) (b:CSs)
 | rse (x:Str) (es:CEs)
 | rsi (x:Str) (es:CEs)
 | trn (b:CSs) (c:Str) (hs:CSs)
inductive CSs where
 | nil | cons (s:CS) (r:CSs)
end
mutual
noncomputable def rS:CS->DS
 | .expr e=>dDrop (fun Xe=>(rE Xe e).e)
 | .ret e=>dRet (fun Xe=>(rE Xe e).e)
 | .ife c a b=>dIfS (fun Xe=>(rE Xe c).t) (rSs a) (rSs b)
 | .set i e=>dAsg (fun Xe=>(rE Xe e).e) (fun _=>gdName i)
 | .asg g e=>dAsg (fun Xe=>(rE Xe e).e) (fun Xe=>rG Xe g)
 | .par i j a b=>dPar i j (fun Xe=>dCons (rE Xe a).e (dCons (rE Xe b).e dNil))
 | .par3 i j l a b c=>dPar3 i j l (fun Xe=>dCons (rE Xe a).e (dCons (rE Xe b).e (dCons (rE Xe c).e dNil)))
 | .whl c b=>dWhile (fun Xe=>(rE Xe c).t) (rSs b)
 | .fr g it b=>dFor (fun Xe=>rI Xe it) (fun Xe=>rG Xe g) (rSs b)
 | .rse x es=>dRaise x (fun Xe=>rEs Xe es)
 | .rsi x es=>dRaiseI x (fun Xe=>rEs Xe es)
 | .trn b c hs=>dTrn (rSs b) (rSs hs) c
noncomputable def rSs:CSs->DS
 | .nil=>dNext
 | .cons s r=>dSeq (rS s) (rSs r)
end
noncomputable def isComp:Expr->Bool
 | .ListComp ..=>true
 | .SetComp ..=>true
 | .DictComp ..=>true
 | _=>false
theorem swaps_cell {x:Str} {env:Env} (h:env.kindOf x=some .cell) (y:Expr) (px:Pos) (n:Nat):swapsWith y (some (.Name x px)) n env=pure false:=by
 unfold swapsWith
 split
 ·simp only [h]
  rw [show ((some NameKind.cell == some NameKind.local)=false) from rfl]
  simp
 ·rfl
noncomputable def swapB (k:Ck) (x:Str) (px:Pos) (e:CE) (y:Expr):Bool :=
 match e,y with
 | .comp ..,.ListComp _ _ sc p=>decide (k.sc.kind=.function) && decide (k.kind x=some .local) && decide (px.line=p.line) && !(sc.names.any fun y=>y.1 == x && (y.2 == .local || y.2 == .cell))
 | _,_=>false
noncomputable def noSwap:Expr->Expr->Bool
 | .Tuple (.Subscript .. :: _) _ _,.Tuple ..=>true
 | .Tuple ..,.Tuple vs _ _=>vs.all (foldedForSure 8)
 | .List ..,_=>false
 | _,_=>true
noncomputable def cellT (k:Ck) (tg y:Expr):Bool :=
 match tg,y with
 | .Tuple [.Name x _,.Name z _] _ _,.Tuple _ _ _=>decide (k.kind x=some .cell) || decide (k.kind z=some .cell)
 | _,_=>false
noncomputable def notStar:Expr->Bool
 | .Starred ..=>false
 | _=>true
mutual
noncomputable def isS (k:Ck) (rz:Bool):CS->Stmt->Bool
 | .expr e,s=>match s with | .Expr x _=>isE k e x && !isComp x | _=>false
 | .ret e,s=>match s with | .Return (some x) _=>isE k e x | _=>false
 | .ife c a b,s=>match s with | .If x xs ys _=>isE k c x && isSs k rz a xs && isSs k rz b ys | _=>false
 | .set i e,s=>match s with | .Assign [.Name x px] y _=>decide (k.N[i]?=some x) && k.loc x && isE k e y && ((!isComp y || decide (k.kind x=some .cell)) || swapB k x px e y) | _=>false
 | .asg g e,s=>match s with | .Assign [tg] y _=>isG k g tg && isE k e y && !isComp y && (noSwap tg y || cellT k tg y) | _=>false
 | .par i j a b,s=>match s with
  | .Assign [.Tuple [.Name x px,.Name y py] _ _] (.Tuple [u,v] _ _) _=>decide (k.N[i]?=some x) && decide (k.N[j]?=some y) && !decide (i=j) && decide (k.kind x=some .local) && decide (k.kind y=some .local)
   && isE k a u && isE k b v && decide (px.line=py.line) && !([u,v].all (foldedForSure 8)) && !([u,v].all (constantsAlone 8)) && notStar u && notStar v && decide (k.sc.kind=.function) && k.cal
  | _=>false
 | .par3 i j l a b c,s=>match s with
  | .Assign [.Tuple [.Name x px,.Name y py,.Name z pz] _ _] (.Tuple [u,v,w] _ _) _=>decide (k.N[i]?=some x) && decide (k.N[j]?=some y) && decide (k.N[l]?=some z) && !decide (i=j) && !decide (i=l) && !decide (j=l) && decide (k.kind x=some .local) && decide (k.kind y=some .local) && decide (k.kind z=some .local)
   && isE k a u && isE k b v && isE k c w && decide (px.line=py.line) && decide (px.line=pz.line) && !([u,v,w].all (foldedForSure 8)) && !([u,v,w].all (constantsAlone 8)) && notStar u && notStar v && notStar w && decide (k.sc.kind=.function) && k.cal
  | _=>false
 | .whl c b,s=>match s with | .While x xs [] _=>isE k c x && isSs k rz b xs | _=>false
 | .fr g it b,s=>match s with | .For tg iter xs [] _=>isG k g tg && isI k tg it iter && isSs k rz b xs && k.cal | _=>false
 | .rse x es,s=>match s with | .Raise (some (.Call (.Name y _) (a :: r) [] _)) none _=>rz && decide (x=y) && xPlain.contains x && k.gl x && okName x && isEs k es (a :: r) && k.cal | _=>false
 | .rsi x es,s=>match s with | .Raise (some (.Call (.Name y _) (a :: r) [] _)) none _=>rz && decide (x=y) && xInit.contains x && k.gl x && okName x && isEs k es (a :: r) && k.cal | _=>false
 | .trn b c hs,s=>match s with
  | .Try body [.ExceptHandler (some (.Name cx _)) none (b0 :: hb) _] [] [] _=>k.top && decide (c=cx) && xNames.contains c && k.gl c && okName c && isSs ⟨k.N,k.sc,k.top,false⟩ false hs (b0 :: hb) && isSs k false b body
  | _=>false
noncomputable def isSs (k:Ck) (rz:Bool):CSs->List Stmt->Bool
 | .nil,xs=>match xs with | []=>true | _=>false
 | .cons s r,xs=>match xs with | x :: ys=>isS k rz s x && isSs k rz r ys | _=>false
end
mutual
noncomputable def onS (P:Str->Str->DSp->Prop) (G:Str->D->Prop):CS->Prop
 | .expr e | .ret e | .set _ e=>onE P G e
 | .ife c a b=>onE P G c/\onSs P G a/\onSs P G b
 | .asg g e=>onG P G g/\onE P G e
 | .par _ _ a b=>onE P G a/\onE P G b
 | .par3 _ _ _ a b c=>onE P G a/\onE P G b/\onE P G c
 | .whl c b=>onE P G c/\onSs P G b
 | .fr g it b=>onG P G g/\onI P G it/\onSs P G b
 | .rse x es=>G x (.cls x)/\onEs P G es
 | .rsi x es=>G x (.cls x)/\onEs P G es
 | .trn b c hs=>G c (.cls c)/\onSs P G b/\onSs P G hs
noncomputable def onSs (P:Str->Str->DSp->Prop) (G:Str->D->Prop):CSs->Prop
 | .nil=>True
 | .cons s r=>onS P G s/\onSs P G r
end
mutual
theorem onS_mono {P P':Str->Str->DSp->Prop} {G G':Str->D->Prop}:∀ (c:CS),(∀ c x S,P c x S->P' c x S)->(∀ x d,G x d->G' x d)->onS P G c->onS P' G' c
 | .expr e,p,g,h | .ret e,p,g,h | .set _ e,p,g,h=>onE_mono e p g h
 | .ife c a b,p,g,h=>⟨onE_mono c p g h.1,onSs_mono a p g h.2.1,onSs_mono b p g h.2.2⟩
 | .asg t e,p,g,h=>⟨onG_mono t p g h.1,onE_mono e p g h.2⟩
 | .par _ _ a b,p,g,h=>⟨onE_mono a p g h.1,onE_mono b p g h.2⟩
 | .par3 _ _ _ a b c,p,g,h=>⟨onE_mono a p g h.1,onE_mono b p g h.2.1,onE_mono c p g h.2.2⟩
 | .whl c b,p,g,h=>⟨onE_mono c p g h.1,onSs_mono b p g h.2⟩
 | .fr t it b,p,g,h=>⟨onG_mono t p g h.1,onI_mono it p g h.2.1,onSs_mono b p g h.2.2⟩
 | .rse x es,p,g,h=>⟨g _ _ h.1,onEs_mono es p g h.2⟩
 | .rsi x es,p,g,h=>⟨g _ _ h.1,onEs_mono es p g h.2⟩
 | .trn b c hs,p,g,h=>⟨g _ _ h.1,onSs_mono b p g h.2.1,onSs_mono hs p g h.2.2⟩
theorem onSs_mono {P P':Str->Str->DSp->Prop} {G G':Str->D->Prop}:∀ (c:CSs),(∀ c x S,P c x S->P' c x S)->(∀ x d,G x d->G' x d)->onSs P G c->onSs P' G' c
 | .nil,_,_,_=>True.intro
 | .cons e es,p,g,h=>⟨onS_mono e p g h.1,onSs_mono es p g h.2⟩
end
theorem swaps_no {e:Expr} (h:isComp e=false) (t:Option Expr) (l:Nat) (env:Env):swapsWith e t l env=pure false:=by
 cases e<;>first | rfl | (simp [isComp] at h)
theorem swaps_yes {x:Str} {px p:Pos} {elt:Expr} {gs:List Comprehension} {sc:Scope} {l:Nat} {env:Env} (hx:env.kindOf x=some .local) (hl:px.line=p.line) (hn:(sc.names.any fun y=>y.1 == x && (y.2 == .local || y.2 == .cell))=false) (hb:env.blockKind=.function) :
  swapsWith (.ListComp elt gs sc p) (some (.Name x px)) l env=pure true:=by
 show (pure (env.blockKind == .function && env.kindOf x == some .local && px.line == p.line && !(sc.names.any fun y=>y.1 == x && (y.2 == .local || y.2 == .cell))):Sem Bool)=pure true
 rw [hb,hx,hl,hn]
 simp
theorem swapped_con {ts vs:List Expr} {k k2:Nat} {p p2:Pos} (h:vs.all (foldedForSure 8)=true) (env:Env):swappedStores [.Tuple ts k p] (.Tuple vs k2 p2) env=pure none:=by
 unfold swappedStores
 simp only [h,if_true]
 repeat' split
 all_goals rfl
theorem swapped_sub {a b:Expr} {p q p2:Pos} {ts vs:List Expr} {k k2:Nat} (env:Env):swappedStores [.Tuple (.Subscript a b p :: ts) k q] (.Tuple vs k2 p2) env=pure none:=by
 unfold swappedStores
 have hl:∀ f:Expr->Option Str,f (.Subscript a b p)=none->((Expr.Subscript a b p :: ts).filterMap f).length≠(Expr.Subscript a b p :: ts).length:=fun f hf=>by
  rw [List.filterMap_cons_none hf]
  have:=List.length_filterMap_le f ts
  simp only [List.length_cons]; omega
 dsimp only
 split
 ·rfl
 ·split
  ·rfl
  ·rw [if_pos]
   ·have:=hl (fun | .Name id pos=>if env.kindOf id == some .local && pos.line == (((Expr.Subscript a b p :: ts).head?.map (·.pos.line)).getD 0) then some id else none | _=>none) rfl
    simp only [Bool.or_eq_true,bne_iff_ne]
    exact .inl this
theorem swapped_no {tg e:Expr} (h:noSwap tg e=true) (env:Env):swappedStores [tg] e env=pure none:=by
 cases tg with
 | Tuple ts k p =>
  cases e with
  | Tuple vs k2 p2 =>
   cases ts with
   | nil=>exact swapped_con h env
   | cons t ts =>
    cases t with
    | Subscript a b q=>exact swapped_sub env
    | _=>exact swapped_con h env
  | _=>rfl
 | List ts p=>exact nfx h
 | _=>rfl
theorem swapped_yes {x y:Str} {px py pt pt2:Pos} {kt k2:Nat} {u v:Expr} {env:Env} (hx:env.kindOf x=some .local) (hy:env.kindOf y=some .local) (hne:x≠y) (hl:px.line=py.line) (hb:env.blockKind=.function)
  (h1:[u,v].all (foldedForSure 8)=false) (h2:[u,v].all (constantsAlone 8)=false) (hu:notStar u=true) (hv:notStar v=true) :
  swappedStores [.Tuple [.Name x px,.Name y py] kt pt] (.Tuple [u,v] k2 pt2) env=pure (some [x,y]):=by
 unfold swappedStores
 have hs:∀ {z:Expr},notStar z=true->(match z with | .Starred ..=>true | _=>false)=false:=fun {z} hz=>by
  cases z<;>first | rfl | exact absurd hz (by simp [notStar])
 have hd:[x,y].eraseDups.length=2:=by
  have:(y == x)=false:=by simpa using Ne.symm hne
  simp [List.eraseDups_cons,this]
 have hany:([u,v].any fun | .Starred ..=>true | _=>false)=false:=by
  simp only [List.any_cons,List.any_nil,Bool.or_false]
  rw [hs hu,hs hv]; rfl
 have ha:∀ (f:Expr->Bool),[u,v].all f=(f u && f v):=fun f=>by simp
 rw [ha] at h1 h2
 have hu':=hs hu
 have hv':=hs hv
 simp [hb,hx,hy,Expr.pos,hl,hd,ha,h1,h2]
 intro z
 rcases z with z | z
 ·exact absurd (hu'.symm.trans z) (by decide)
 ·exact absurd (hv'.symm.trans z) (by decide)
theorem swapped_yes3 {x y z:Str} {px py pz pt pt2:Pos} {kt k2:Nat} {u v w:Expr} {env:Env} (hx:env.kindOf x=some .local) (hy:env.kindOf y=some .local) (hz:env.kindOf z=some .local) (hxy:x≠y) (hxz:x≠z) (hyz:y≠z) (hl:px.line=py.line) (hl2:px.line=pz.line) (hb:env.blockKind=.function)
  (h1:[u,v,w].all (foldedForSure 8)=false) (h2:[u,v,w].all (constantsAlone 8)=false) (hu:notStar u=true) (hv:notStar v=true) (hw:notStar w=true) :
  swappedStores [.Tuple [.Name x px,.Name y py,.Name z pz] kt pt] (.Tuple [u,v,w] k2 pt2) env=pure (some [x,y,z]):=by
 unfold swappedStores
 have hs:∀ {z:Expr},notStar z=true->(match z with | .Starred ..=>true | _=>false)=false:=fun {z} hz=>by
  cases z<;>first | rfl | exact absurd hz (by simp [notStar])
 have hd:[x,y,z].eraseDups.length=3:=by
  have e1:(y == x)=false:=by simpa using Ne.symm hxy
  have e2:(z == x)=false:=by simpa using Ne.symm hxz
  have e3:(z == y)=false:=by simpa using Ne.symm hyz
  simp [List.eraseDups_cons,e1,e2,e3]
 have ha:∀ (f:Expr->Bool),[u,v,w].all f=(f u && (f v && f w)):=fun f=>by simp
 rw [ha] at h1 h2
 have hu':=hs hu
 have hv':=hs hv
 have hw':=hs hw
 simp [hb,hx,hy,hz,Expr.pos,<- hl,<- hl2,hd,ha,h1,h2]
 intro z
 rcases z with z | z | z
 ·exact absurd (hu'.symm.trans z) (by decide)
 ·exact absurd (hv'.symm.trans z) (by decide)
 ·exact absurd (hw'.symm.trans z) (by decide)
theorem never_passes {X:Cx} {k:Ck} (C:CtxOk X k):PassesOwn (model X.prog X.w) X.A X.env X.xe:=C.po
theorem CtxOk.tri {X:Cx} {k:Ck} (C:CtxOk X k) {xe:Value->Shared->Prop} (pins:List (Addr×Obj)) (po:PassesOwn (model X.prog X.w) X.A X.env xe):CtxOk (X.tri xe pins) k :=
 ⟨C.N,C.nd,C.sc,C.fr,C.fn,C.calm,C.room,C.hu,C.blt,po,C.tab,C.st⟩
theorem CtxOk.hnd {X:Cx} {k:Ck} (C:CtxOk X k) (e:Addr):CtxOk (X.hnd e) ⟨k.N,k.sc,k.top,false⟩ :=
 ⟨C.N,C.nd,C.sc,C.fr,C.fn,fun z=>(by cases z),fun z=>(by cases z),C.hu,C.blt,PassesOwn.never,C.tab,C.st⟩
theorem glo_cls {X:Cx} {n:Str} (G:GloAt X n (.cls n)):∃ C,X.mg n=some (.ref C)/\ClsOf X.K n C:=by
 obtain ⟨u,v,e1,e2,e3⟩:=G.ex
 have:=e3 fun _=>none
 cases this with
 | @cls C _ hn hc=>cases e2; exact ⟨C,e1,hc⟩
theorem CtxOk.bk {X:Cx} {k:Ck} (hk:X.env.scope.kind=.function):X.env.blockKind=.function:=by unfold Env.blockKind; rw [hk]; rfl
theorem swapped_cell {X:Cx} {k:Ck} (C:CtxOk X k) {tg y:Expr} (h:cellT k tg y=true):swappedStores [tg] y X.env=pure none:=by
 unfold cellT at h
 split at h
 ·rename_i x px z pz kt pt vs k2 p2
  have e:X.env.kindOf x=some .cell\/X.env.kindOf z=some .cell:=by
   rw [Bool.or_eq_true] at h
   rcases h with h | h
   ·exact .inl (C.sc _ _ (of_decide_eq_true h) (by decide))
   ·exact .inr (C.sc _ _ (of_decide_eq_true h) (by decide))
  unfold swappedStores
  simp only []
  split
  ·rfl
  ·split
   ·rfl
   ·rw [if_pos]
    rcases e with e | e
    ·simp [List.filterMap,e]
     split<;>simp
    ·simp [List.filterMap,e]
     split<;>simp
 ·cases h
theorem not1 {a:Bool} (h:(!a)=true):a=false:=by
 cases a with
 | true=>exact nfx h
 | false=>rfl
theorem or2 {a b:Bool} (h:(a || b)=true):a=true\/b=true:=by
 cases a with
 | true=>exact .inl rfl
 | false=>exact .inr h
mutual
theorem sS:∀ (c:CS) (rz:Bool) (k:Ck) (X:Cx) (s:Stmt),CtxOk X k->X.env.scope.kind=.function->onS (FnAt X) (GloAt X) c->isS k rz c s=true->PS X s (liftS X rz (rS c))
 | .expr e,rz,k,X,s,C,bk,on,h=>by
  cases s with
  | Expr x p =>
   obtain ⟨h1,h2⟩:=and2 (show (isE k e x && !isComp x)=true from h)
   exact ds_expr (fun Xe=>(sE e rz Xe k X _ C on h1).pe) (swaps_no (not1 h2) _ _ _)
  | _=>exact nfx h
 | .ret e,rz,k,X,s,C,bk,on,h=>by
  cases s with
  | Return v p =>
   cases v with
   | none=>exact nfx h
   | some v=>exact ds_ret (fun Xe=>(sE e rz Xe k X v C on h).pe)
  | _=>exact nfx h
 | .ife c a b,rz,k,X,s,C,bk,on,h=>by
  cases s with
  | If x xs ys p =>
   obtain ⟨h1,h3⟩:=and2 (show (_ && isSs k rz b ys)=true from h)
   obtain ⟨h1,h2⟩:=and2 (show (isE k c x && isSs k rz a xs)=true from h1)
   exact ds_if (fun Xe=>(sE c rz Xe k X _ C on.1 h1).pt) (sSs a rz k X _ C bk on.2.1 h2) (sSs b rz k X _ C bk on.2.2 h3)
  | _=>exact nfx h
 | .set i e,rz,k,X,s,C,bk,on,h=>by
  cases s with
  | Assign ts y p =>
   cases ts with
   | nil=>exact nfx h
   | cons tg ts =>
    cases ts with
    | cons _ _=>cases tg<;>exact nfx h
    | nil =>
     cases tg with
     | Name x px =>
      obtain ⟨h1,h4⟩:=and2 (show (_ && ((!isComp y || decide (k.kind x=some .cell)) || swapB k x px e y))=true from h)
      obtain ⟨h1,h3⟩:=and2 (show (_ && isE k e y)=true from h1)
      obtain ⟨h1,h2⟩:=and2 (show (decide (k.N[i]?=some x) && k.loc x)=true from h1)
      have hi:=of_decide_eq_true h1
      clear h1
      rcases or2 h4 with h4 | h4
      ·rcases or2 h4 with h4 | h4
       ·exact ds_set (by rw [C.N]; exact C.nd) (by rw [C.N]; exact hi) (C.loc h2).1 (fun Xe=>(sE e rz Xe k X _ C on h3).pe) (swaps_no (not1 h4) _ _ _) (C.loc h2).2
       ·exact ds_set (by rw [C.N]; exact C.nd) (by rw [C.N]; exact hi) (C.loc h2).1 (fun Xe=>(sE e rz Xe k X _ C on h3).pe) (swaps_cell (C.sc _ _ (of_decide_eq_true h4) (by decide)) _ _ _) (C.loc h2).2
      ·cases e with
       | comp N' n g it elt =>
        cases y with
        | ListComp y gs sc p =>
         obtain ⟨h4,h7⟩:=and2 (show (_ && !(sc.names.any fun y=>y.1 == x && (y.2 == .local || y.2 == .cell)))=true from h4)
         obtain ⟨h4,h6⟩:=and2 (show (_ && decide (px.line=p.line))=true from h4)
         obtain ⟨h4,h5⟩:=and2 (show (decide (k.sc.kind=.function) && decide (k.kind x=some .local))=true from h4)
         cases gs with
         | nil=>exact absurd h3 Bool.false_ne_true
         | cons q gs =>
          cases q with
          | mk tg iter ifs z =>
           cases ifs with
           | cons _ _=>exact absurd h3 Bool.false_ne_true
           | nil =>
            cases gs with
            | cons _ _=>exact absurd h3 Bool.false_ne_true
            | nil =>
             obtain ⟨h3,hcal⟩:=and2 (show (_ && k.cal)=true from h3)
             obtain ⟨h3,g5⟩:=and2 (show (_ && isE ⟨N',sc,false,k.cal⟩ elt y)=true from h3)
             obtain ⟨h3,g4⟩:=and2 (show (_ && isI k tg it iter)=true from h3)
             obtain ⟨h3,g3⟩:=and2 (show (_ && isG ⟨N',sc,false,k.cal⟩ g tg)=true from h3)
             obtain ⟨h3,g2⟩:=and2 (show (_ && decide (n=N'.length - k.N.length))=true from h3)
             obtain ⟨h3,g1⟩:=and2 (show (decide (z=0) && blkB k N' sc)=true from h3)
             obtain rfl:=of_decide_eq_true h3
             obtain rfl:=of_decide_eq_true g2
             have si:=fun Xe=>sI it rz Xe k X tg _ C on.2.1 g4
             rw [<- C.N]
             exact ds_setc (C.calm hcal) (blkB_ok C g1).1 (fun Xe=>(si Xe).pi) (fun cl Cn s H ex=>⟨(sG g false X0 ⟨N',_,false,k.cal⟩ (blkCx X N' _ cl Cn s H ex []) _ (C.blk g1 cl Cn s H ex) (onG_mono g (fun c x S F=>⟨F.ex⟩) (fun x d F=>⟨F.ex⟩) on.1) g3).pg,
              (sE elt false X0 ⟨N',_,false,k.cal⟩ (blkCx X N' _ cl Cn s H ex []) _ (C.blk g1 cl Cn s H ex) (onE_mono elt (fun c x S F=>⟨F.ex⟩) (fun x d F=>⟨F.ex⟩) on.2.2) g5).pe⟩) ((si X0).set _)
              (swaps_yes (C.sc _ _ (of_decide_eq_true h5) (by decide)) (of_decide_eq_true h6) (not1 h7) (CtxOk.bk (k:=k) bk)) (by rw [C.N]; exact C.nd) (by rw [C.N]; exact hi) (C.loc h2).1 (C.loc h2).2
        | _=>exact absurd h4 Bool.false_ne_true
       | _=>exact absurd h4 Bool.false_ne_true
     | _=>exact nfx h
  | _=>exact nfx h
 | .asg g e,rz,k,X,s,C,bk,on,h=>by
  cases s with
  | Assign ts y p =>
   cases ts with
   | nil=>exact nfx h
   | cons tg ts =>
    cases ts with
    | cons _ _=>exact nfx h
    | nil =>
     obtain ⟨h1,h4⟩:=and2 (show (_ && (noSwap tg y || cellT k tg y))=true from h)
     obtain ⟨h1,h3⟩:=and2 (show (_ && !isComp y)=true from h1)
     obtain ⟨h1,h2⟩:=and2 (show (isG k g tg && isE k e y)=true from h1)
     have s1:=fun Xe=>sG g rz Xe k X _ C on.1 h1
     have h5:swappedStores [tg] y X.env=pure none:=(or2 h4).elim (fun h4=>swapped_no h4 _) (fun h4=>swapped_cell C h4)
     exact ds_asg (fun Xe=>(sE e rz Xe k X _ C on.2 h2).pe) (fun Xe=>(s1 Xe).pg) (swaps_no (not1 h3) _ _ _) h5 (by rw [(s1 X0).as]; rfl)
  | _=>exact nfx h
 | .par i j a b,rz,k,X,s,C,bk,on,h=>by
  cases s with
  | Assign ts v p =>
   cases ts with
   | nil=>exact nfx h
   | cons tg ts =>
    cases tg with
    | Tuple xs q1 p1 =>
     cases xs with
     | nil=>exact nfx h
     | cons x xs =>
      cases x with
      | Name x px =>
       cases xs with
       | nil=>exact nfx h
       | cons y xs =>
        cases y with
        | Name y py =>
         cases xs with
         | cons _ _=>exact nfx h
         | nil =>
          cases ts with
          | cons _ _=>exact nfx h
          | nil =>
           cases v with
           | Tuple us q2 p2 =>
            cases us with
            | nil=>exact nfx h
            | cons u us =>
             cases us with
             | nil=>exact nfx h
             | cons v us =>
              cases us with
              | cons _ _=>exact nfx h
              | nil =>
               obtain ⟨h,hcal⟩:=and2 (show (_ && k.cal)=true from h)
               obtain ⟨h,h13⟩:=and2 (show (_ && decide (k.sc.kind=.function))=true from h)
               obtain ⟨h,h12⟩:=and2 (show (_ && notStar v)=true from h)
               obtain ⟨h,h11⟩:=and2 (show (_ && notStar u)=true from h)
               obtain ⟨h,h10⟩:=and2 (show (_ && !([u,v].all (constantsAlone 8)))=true from h)
               obtain ⟨h,h9⟩:=and2 (show (_ && !([u,v].all (foldedForSure 8)))=true from h)
               obtain ⟨h,h8⟩:=and2 (show (_ && decide (px.line=py.line))=true from h)
               obtain ⟨h,h7⟩:=and2 (show (_ && isE k b v)=true from h)
               obtain ⟨h,h6⟩:=and2 (show (_ && isE k a u)=true from h)
               obtain ⟨h,h5⟩:=and2 (show (_ && decide (k.kind y=some .local))=true from h)
               obtain ⟨h,h4⟩:=and2 (show (_ && decide (k.kind x=some .local))=true from h)
               obtain ⟨h,h3⟩:=and2 (show (_ && !decide (i=j))=true from h)
               obtain ⟨h,h2⟩:=and2 (show (decide (k.N[i]?=some x) && decide (k.N[j]?=some y))=true from h)
               have h1:=of_decide_eq_true h
               have h2:=of_decide_eq_true h2
               have h3:¬ i=j:=of_decide_eq_false (not1 h3)
               have s1:=fun Xe=>sE a rz Xe k X _ C on.1 h6
               have s2:=fun Xe=>sE b rz Xe k X _ C on.2 h7
               have kx:=C.sc _ _ (of_decide_eq_true h4) (by decide)
               have ky:=C.sc _ _ (of_decide_eq_true h5) (by decide)
               exact ds_par (C.calm hcal) (by rw [C.N]; exact C.nd) (by rw [C.N]; exact h1) (by rw [C.N]; exact h2) h3 kx ky (fun Xe=>da_cons (s1 Xe).pe (da_cons (s2 Xe).pe da_nil ((s2 Xe).sh.star _ _)) ((s1 Xe).sh.star _ _))
                (swapped_yes kx ky (fun z=>h3 (nodup_ix C.nd h1 (z ▸ h2))) (of_decide_eq_true h8) (CtxOk.bk (k:=k) bk) (not1 h9) (not1 h10) h11 h12) rfl
           | _=>exact nfx h
        | _=>exact nfx h
      | _=>exact nfx h
    | _=>exact nfx h
  | _=>exact nfx h
 | .par3 i j l a b c,rz,k,X,s,C,bk,on,h=>by
  unfold isS at h
  split at h
  ·rename_i x px y py z pz q1 p1 u v w q2 p2 p
   obtain ⟨h,hcal⟩:=and2 h
   obtain ⟨h,h13⟩:=and2 h
   obtain ⟨h,hw⟩:=and2 h
   obtain ⟨h,hv⟩:=and2 h
   obtain ⟨h,hu⟩:=and2 h
   obtain ⟨h,h10⟩:=and2 h
   obtain ⟨h,h9⟩:=and2 h
   obtain ⟨h,l2⟩:=and2 h
   obtain ⟨h,l1⟩:=and2 h
   obtain ⟨h,e3⟩:=and2 h
   obtain ⟨h,e2⟩:=and2 h
   obtain ⟨h,e1⟩:=and2 h
   obtain ⟨h,k3⟩:=and2 h
   obtain ⟨h,k2⟩:=and2 h
   obtain ⟨h,k1⟩:=and2 h
   obtain ⟨h,n3⟩:=and2 h
   obtain ⟨h,n2⟩:=and2 h
   obtain ⟨h,n1⟩:=and2 h
   obtain ⟨h,i3⟩:=and2 h
   obtain ⟨i1,i2⟩:=and2 h
   have i1:=of_decide_eq_true i1
   have i2:=of_decide_eq_true i2
   have i3:=of_decide_eq_true i3
   have n1:¬ i=j:=of_decide_eq_false (not1 n1)
   have n2:¬ i=l:=of_decide_eq_false (not1 n2)
   have n3:¬ j=l:=of_decide_eq_false (not1 n3)
   have s1:=fun Xe=>sE a rz Xe k X _ C on.1 e1
   have s2:=fun Xe=>sE b rz Xe k X _ C on.2.1 e2
   have s3:=fun Xe=>sE c rz Xe k X _ C on.2.2 e3
   have kx:=C.sc _ _ (of_decide_eq_true k1) (by decide)
   have ky:=C.sc _ _ (of_decide_eq_true k2) (by decide)
   have kz:=C.sc _ _ (of_decide_eq_true k3) (by decide)
   exact ds_par3 (C.calm hcal) (by rw [C.N]; exact C.nd) (by rw [C.N]; exact i1) (by rw [C.N]; exact i2) (by rw [C.N]; exact i3) n1 n2 n3 kx ky kz (fun Xe=>da_cons (s1 Xe).pe (da_cons (s2 Xe).pe (da_cons (s3 Xe).pe da_nil ((s3 Xe).sh.star _ _)) ((s2 Xe).sh.star _ _)) ((s1 Xe).sh.star _ _))
    (swapped_yes3 kx ky kz (fun z=>n1 (nodup_ix C.nd i1 (z ▸ i2))) (fun z=>n2 (nodup_ix C.nd i1 (z ▸ i3))) (fun z=>n3 (nodup_ix C.nd i2 (z ▸ i3))) (of_decide_eq_true l1) (of_decide_eq_true l2) (CtxOk.bk (k:=k) bk) (not1 h9) (not1 h10) hu hv hw) rfl
  ·exact nfx h
 | .whl c b,rz,k,X,s,C,bk,on,h=>by
  cases s with
  | While x xs ys p =>
   cases ys with
   | cons _ _=>exact nfx h
   | nil =>
    obtain ⟨h1,h2⟩:=and2 (show (isE k c x && isSs k rz b xs)=true from h)
    exact ds_while (never_passes C) (fun Xe=>(sE c rz Xe k X _ C on.1 h1).pt) (sSs b rz k X _ C bk on.2 h2)
  | _=>exact nfx h
 | .fr g it b,rz,k,X,s,C,bk,on,h=>by
  cases s with
  | For tg iter xs ys p =>
   cases ys with
   | cons _ _=>exact nfx h
   | nil =>
    obtain ⟨h,hcal⟩:=and2 (show (_ && k.cal)=true from h)
    obtain ⟨h1,h3⟩:=and2 (show (_ && isSs k rz b xs)=true from h)
    obtain ⟨h1,h2⟩:=and2 (show (isG k g tg && isI k tg it iter)=true from h1)
    have si:=fun Xe=>sI it rz Xe k X tg _ C on.2.1 h2
    exact ds_for (never_passes C) (C.calm hcal) (fun Xe=>(si Xe).pi) (fun Xe=>(sG g rz Xe k X _ C on.1 h1).pg) (sSs b rz k X _ C bk on.2.2 h3) ((si X0).set _)
  | _=>exact nfx h
 | .rse x es,rz,k,X,s,C,bk,on,h=>by
  cases s with
  | Raise v w p =>
   cases v with
   | none=>exact nfx h
   | some v =>
    cases v with
    | Call f xs kw q =>
     cases f with
     | Name y q' =>
      cases xs with
      | nil=>exact nfx h
      | cons a r =>
       cases kw with
       | cons _ _=>exact nfx h
       | nil =>
        cases w with
        | some _=>exact nfx h
        | none =>
         obtain ⟨h,hcal⟩:=and2 (show (_ && k.cal)=true from h)
         obtain ⟨h,h6⟩:=and2 (show (_ && isEs k es (a :: r))=true from h)
         obtain ⟨h,h5⟩:=and2 (show (_ && okName x)=true from h)
         obtain ⟨h,h4⟩:=and2 (show (_ && k.gl x)=true from h)
         obtain ⟨h,h3⟩:=and2 (show (_ && xPlain.contains x)=true from h)
         obtain ⟨hz,h2⟩:=and2 (show (rz && decide (x=y))=true from h)
         obtain rfl:=of_decide_eq_true h2
         subst hz
         obtain ⟨Cc,hm,hc⟩:=glo_cls on.1
         have s:=fun Xe=>sEs es true Xe k X _ C on.2 h6
         exact ds_raise (C.room hcal) C.tab h3 hc hm (C.gl h4) (okName1 h5) (fun Xe=>(s Xe).pa) (((s X0).hd _ _ rfl).1.star _ _) (((s X0).hd _ _ rfl).2 _ _)
     | _=>exact nfx h
    | _=>exact nfx h
  | _=>exact nfx h
 | .rsi x es,rz,k,X,s,C,bk,on,h=>by
  cases s with
  | Raise v w p =>
   cases v with
   | none=>exact nfx h
   | some v =>
    cases v with
    | Call f xs kw q =>
     cases f with
     | Name y q' =>
      cases xs with
      | nil=>exact nfx h
      | cons a r =>
       cases kw with
       | cons _ _=>exact nfx h
       | nil =>
        cases w with
        | some _=>exact nfx h
        | none =>
         obtain ⟨h,hcal⟩:=and2 (show (_ && k.cal)=true from h)
         obtain ⟨h,h6⟩:=and2 (show (_ && isEs k es (a :: r))=true from h)
         obtain ⟨h,h5⟩:=and2 (show (_ && okName x)=true from h)
         obtain ⟨h,h4⟩:=and2 (show (_ && k.gl x)=true from h)
         obtain ⟨h,h3⟩:=and2 (show (_ && xInit.contains x)=true from h)
         obtain ⟨hz,h2⟩:=and2 (show (rz && decide (x=y))=true from h)
         obtain rfl:=of_decide_eq_true h2
         subst hz
         obtain ⟨Cc,hm,hc⟩:=glo_cls on.1
         have s:=fun Xe=>sEs es true Xe k X _ C on.2 h6
         exact ds_raiseI (C.room hcal) C.tab h3 hc hm (C.gl h4) (okName1 h5) (fun Xe=>(s Xe).pa) (((s X0).hd _ _ rfl).1.star _ _) (((s X0).hd _ _ rfl).2 _ _)
     | _=>exact nfx h
    | _=>exact nfx h
  | _=>exact nfx h
 | .trn b c hs,rz,k,X,s,C,bk,on,h=>by
  unfold isS at h
  split at h
  ·rename_i body cx np b0 hb hp p
   obtain ⟨h,h9⟩:=and2 h
   obtain ⟨h,h8⟩:=and2 h
   obtain ⟨h,h5⟩:=and2 h
   obtain ⟨h,h4⟩:=and2 h
   obtain ⟨h,h3⟩:=and2 h
   obtain ⟨h1,h2⟩:=and2 h
   obtain rfl:=of_decide_eq_true h2
   obtain ⟨Cc,hm,hc⟩:=glo_cls on.1
   exact ds_trn (C.st h1) C.tab (by simpa using h3) hc hm (C.gl h4) (okName1 h5)
    (fun xe pins po=>sSs b false k (X.tri xe pins) _ (C.tri pins po) bk (onSs_mono b (fun c x S F=>⟨F.ex⟩) (fun x d F=>⟨F.ex⟩) on.2.1) h9)
    (fun e=>sSs hs false ⟨k.N,k.sc,k.top,false⟩ (X.hnd e) _ (C.hnd e) bk (onSs_mono hs (fun c x S ⟨k',f',fd',ps',a1,a2,a3,a4,a5⟩=>⟨k',f',fd',ps',a1,a2,fun z=>(by cases z),a4,a5⟩) (fun x d F=>⟨F.ex⟩) on.2.2) h8)
  ·exact nfx h
theorem sSs:∀ (c:CSs) (rz:Bool) (k:Ck) (X:Cx) (s:List Stmt),CtxOk X k->X.env.scope.kind=.function->onSs (FnAt X) (GloAt X) c->isSs k rz c s=true->PSs X s (liftS X rz (rSs c))
 | .nil,rz,k,X,s,C,bk,on,h=>by
  cases s with
  | nil=>exact dss_nil
  | cons _ _=>exact nfx h
 | .cons c r,rz,k,X,s,C,bk,on,h=>by
  cases s with
  | nil=>exact nfx h
  | cons x xs =>
   obtain ⟨h1,h2⟩:=and2 (show (isS k rz c x && isSs k rz r xs)=true from h)
   exact dss_cons (sS c rz k X _ C bk on.1 h1) (sSs r rz k X _ C bk on.2 h2)
end
section
variable (P:Program) (w:World) (K:PySem.W.Frag) (mg:Str->Option Value) (base:Heap)
structure FnE (k:Nat) (c x:Str) (S:DSp):Prop where
 ex:∃ f fd ps,FnOk P w K mg base (CXR P w) (k - ini c x) f fd ps (liftSp K S)/\ini c x<=k/\RefAt K mg c x f/\Binds K fd ps []
structure GloE (x:Str) (d:D):Prop where
 ex:∃ u v,mg x=some u/\RelV v u/\∀ H,RelD K H v d
end
noncomputable def startD (n:Nat) (ds:List D):DSt:=ds.map some++List.replicate (n - ds.length) none
theorem start_rep {K:PySem.W.Frag} {H:Hp} {N:List Str} {vs:List V} {ds:List D} (r:RelDs K H vs ds):Slots K H (startD N.length ds) (L2.start N vs):=by
 unfold startD L2.start
 rw [<- r.length]
 refine Slots.more ⟨by simp [r.length],fun i d e=>?_⟩ _
 rw [List.getElem?_map] at e
 cases q:ds[i]? with
 | none=>rw [q] at e; cases e
 | some d' =>
  rw [q] at e; cases e
  obtain ⟨v,h1,h2⟩:=r.get q
  exact ⟨v,by rw [List.getElem?_map,h1]; rfl,h2⟩
section
variable {P:Program} {w:World} {K:PySem.W.Frag} {mg:Str->Option Value} {base:Heap}
theorem FnE.mono {j k:Nat} {c x:Str} {S:DSp} (F:FnE P w K mg base j c x S) (h:j<=k):FnE P w K mg base k c x S:=by
 obtain ⟨f,fd,ps,a,b,c,d⟩:=F.ex
 exact ⟨f,fd,ps,a.mono (Nat.sub_le_sub_right h _),Nat.le_trans b h,c,d⟩
theorem def_fn {x qu:Str} {st:Stmt} {f:Addr} {fd:FuncData} {N ps:List Str} {k:Nat} {S:DSp} (cs:CSs) (F:Fun K x qu st f fd) (hB:Blt mg) (tab:xTabB K=true) (Sc:FnScope N ps (defScope st))
  (ck:isSs ⟨N,defScope st,true,true⟩ true cs (defBody st)=true) (on:onSs (FnE P w K mg base k) (GloE K mg) cs)
  (len:∀ ds M R E,S ds M R E->ds.length=ps.length)
  (vc:∀ ds M R E,S ds M R E->rSs cs { nx:=fun _ M'=>R .non M',rt:=R,ex:=fun _=>E } (startD N.length ds) M):FnOk P w K mg base (CXR P w) (k + 1) f fd ps (liftSp K S):=by
 obtain ⟨oc,od,kV,doc,pm,an,cdv,ct,osl,rfl,lk,hcd⟩:=F.ex
 refine fn_of lk hcd Sc (fun vs H Q E ⟨ds,M,R,Ed,r,_,h,_⟩=>by rw [r.length]; exact len ds M R _ h) fun A outer s H vs Q E hr ⟨ds,M,R,Ed,r,rm,h,q,qe⟩=>?_
 refine ⟨liftS (cxOf (CXR P w) P w K mg base N qu (defScope st) f cdv A outer s H E) true (rSs cs),?_,?_⟩
 ·refine sSs cs true ⟨N,defScope st,true,true⟩ _ _ ⟨rfl,Sc.nd,fun x κ e _=>e,fun x e=>.inr e,fun _ _=>rfl,fun _=>rfl,fun _=>hr.mono (Nat.zero_le _),Nat.lt_of_le_of_lt (Nat.le_trans (Nat.add_le_add_left (by decide:66<=200) _) (Nat.add_le_add_right (Nat.le_add_right _ _) _)) hr.un,hB,PassesOwn.leaving,tab,fun _=>⟨rfl,rfl⟩⟩ Sc.kind ?_ ck
  exact onSs_mono cs (fun _ x S ⟨f',fd',ps',a,b,c,d⟩=>⟨k,f',fd',ps',a,b,fun _=>hr,c,d⟩) (fun x d ⟨u,v,a,b,c⟩=>⟨u,v,a,b,c⟩) on
 ·exact ⟨startD N.length ds,M,{ nx:=fun _ M'=>R .non M',rt:=R,ex:=fun _=>Ed },⟨start_rep r,xe_leave qe⟩,rm,vc ds M R Ed h,fun δ' M' σ' H' x _ m h'=>q _ _ _ _ x m .non h',fun d M' v H' x m rr h'=>q _ _ _ _ x m rr h',fun _ _ _ _ _ _ _ z=>z.elim,fun _ _ _ _ _ _ _ z=>z.elim⟩
theorem def_ok {x:Str} {st:Stmt} {f:Addr} {fd:FuncData} {N ps:List Str} {k:Nat} {S:DSp} (cs:CSs) (F:Fun K x x st f fd) (hm:mg x=some (.ref f)) (hb:Binds K fd ps []) (hB:Blt mg) (tab:xTabB K=true) (Sc:FnScope N ps (defScope st))
  (ck:isSs ⟨N,defScope st,true,true⟩ true cs (defBody st)=true) (on:onSs (FnE P w K mg base k) (GloE K mg) cs)
  (len:∀ ds M R E,S ds M R E->ds.length=ps.length)
  (vc:∀ ds M R E,S ds M R E->rSs cs { nx:=fun _ M'=>R .non M',rt:=R,ex:=fun _=>E } (startD N.length ds) M):FnE P w K mg base (k + 1) "" x S :=
 ⟨f,fd,ps,by rw [ini0]; exact def_fn cs F hB tab Sc ck on len vc,by rw [ini0]; exact Nat.zero_le _,⟨fun _=>⟨hm,F.kp⟩,fun z=>absurd rfl z⟩,hb⟩
theorem def_no {x:Str} {st:Stmt} {f:Addr} {fd:FuncData} {ps:List Str} {k:Nat} (F:Fun K x x st f fd) (hm:mg x=some (.ref f)) (hb:Binds K fd ps []):FnE P w K mg base k "" x (fun _ _ _ _=>False) :=
 ⟨f,fd,ps,⟨fun _ _ _ _ ⟨_,_,_,_,_,_,h,_⟩=>h.elim,fun _ _ _ _ _ _ _ _ _ _ _ _ _ ⟨_,_,_,_,_,_,h,_⟩=>h.elim⟩,by rw [ini0]; exact Nat.zero_le _,⟨fun _=>⟨hm,F.kp⟩,fun z=>absurd rfl z⟩,hb⟩
theorem usS {n:Nat} {us:List Value} (h:us.length=n + 1):∃ a r,us=a :: r/\r.length=n:=by
 cases us with
 | nil=>exact absurd h (Nat.succ_ne_zero n).symm
 | cons a r=>exact ⟨a,r,rfl,Nat.succ.inj h⟩
theorem us0 {us:List Value} (h:us.length=0):us=[]:=by
 cases us with
 | nil=>rfl
 | cons a r=>exact absurd h (Nat.succ_ne_zero _)
theorem us1 {us:List Value} (h:us.length=1):∃ a,us=[a]:=by
 obtain ⟨a,r,rfl,g⟩:=usS h
 obtain rfl:=us0 g
 exact ⟨a,rfl⟩
theorem us2 {us:List Value} (h:us.length=2):∃ a b,us=[a,b]:=by
 obtain ⟨a,r,rfl,g⟩:=usS h
 obtain ⟨b,rfl⟩:=us1 g
 exact ⟨a,b,rfl⟩
theorem us3 {us:List Value} (h:us.length=3):∃ a b c,us=[a,b,c]:=by
 obtain ⟨a,r,rfl,g⟩:=usS h
 obtain ⟨b,c,rfl⟩:=us2 g
 exact ⟨a,b,c,rfl⟩
theorem glo_of_fn {n:Str} {C:Addr} {h:Heap} (X:K.In h) (G:h.Ns mainGlobals mg) (e:PySem.W.nsIn K mainGlobals n=some (some (.ref C))):GloE K mg n (.fn n) :=
 ⟨.ref C,.ref C,PySem.W.mg_of X G e,rfl,fun _=>.fn e⟩
theorem glo_of_sd {n:Str} {C:Addr} {h:Heap} {xs:List Str} {vs:List V} {ds:List D} {o:Obj} {es:Array DictEntry} {ep:Nat} {us:List Value} (X:K.In h) (G:h.Ns mainGlobals mg) (e:PySem.W.nsIn K mainGlobals n=some (some (.ref C))) (lo:(C == sysModules)=false) (lk:K.lookup C=some o) (ex:o.ExactDict) (hd:o.data=.dict es ep) (en:EntK es.toList xs us) (rv:Vals vs us) (r:∀ H,RelDs K H vs ds):GloE K mg n (.sd xs ds) :=
 ⟨.ref C,.ref C,PySem.W.mg_of X G e,rfl,fun H=>.sd ⟨lo,o,es,ep,us,lk,ex,hd,en,rv⟩ (r H)⟩
theorem glo_of_cls {n:Str} {C:Addr} {h:Heap} (X:K.In h) (G:h.Ns mainGlobals mg) (hn:n∈xNames) (e:PySem.W.nsIn K mainGlobals n=some (some (.ref C))):GloE K mg n (.cls n) :=
 ⟨.ref C,.ref C,PySem.W.mg_of X G e,rfl,fun _=>.cls hn e⟩
end
structure Script (ns:List Int):Prop where
 len:ns.length<=63
 bits:∀ n∈ns,Builtin.Int.intBits n<=1048576
noncomputable def SLaw:DSp:=fun ds M Q _=>∃ ns:List Int,ds=[.fz (ns.map .int)]/\Script ns/\∀ M',Q (.bl true) M'
theorem bits_of_layable:∀ {ns:List Int},PySem.W.WData.weightAll (ns.map PySem.W.WData.int)<=2 ^ 20->∀ n∈ns,Builtin.Int.intBits n<=1048576
 | n :: r,h,m,hm=>by
  simp only [List.map_cons,PySem.W.WData.weightAll] at h
  rcases List.mem_cons.mp hm with rfl | hm
  ·have e:Builtin.Int.intBits m=PySem.W.WData.weight (.int m):=by
    unfold Builtin.Int.intBits PySem.W.WData.weight
    rfl
   rw [e]; omega
  ·exact bits_of_layable (by omega) m hm
theorem walkD {l:PySem.W.OpenLaw} {q:Program} {loose:List Str} {XP:(Str->Option Value)->Heap->Prop} {YP:World->Heap->Prop} {d:DefRec} {K:Params->PySem.W.Frag} {x:Str} {k:Nat} (hn:l.most=some 63) (hdf:d.params.defaults=[])
  (hr:Room k callerA) (hY:∀ (w:World) (h:Heap),YP w h->(K w.params).In h)
  (F:∀ (w:World) (mg:Str->Option Value) (fa:Addr) (h:Heap),(K w.params).In h->h.Ns mainGlobals mg->mg d.name=some (.ref fa) ->
   ∃ fd:FuncData,(∀ (s:Shared) (u:Value),BindsTo s fd ⟨[u],[]⟩ [(x,u)])/\∀ base:Heap,(K w.params).In base->base.Ns mainGlobals mg->FnOk l.prog w (K w.params) mg base (CXR l.prog w) k fa fd [x] (liftSp (K w.params) SLaw)) :
  PySem.W.WalkO q loose XP YP l.row.toRowW d [] (fun f vs=>PySem.call f vs):=by
 intro w s₀ s₁ mg mb G Y fa o pm cd doc dV kV ho hd hcd hD hmg hg args vals as hpre hlay hrd hwl hlo
 obtain rfl:dV=.none:=PySem.W.Dflts.none hD hdf
 obtain rfl:kV=.none:=PySem.W.Dflts.noKw hD
 obtain ⟨a,vs,ns,rfl,rfl,hobj,hints,hlen⟩:=Att.script_of hn hpre hwl
 have KX:=hY w _ Y
 obtain ⟨fd,hb,hF⟩:=F w mg fa _ KX G.T.g hmg
 have hbits:∀ n∈ns,Builtin.Int.intBits n<=1048576:=by
  refine bits_of_layable ?_
  simp only [PySem.W.WData.layableAll,List.all_cons,List.all_nil,Bool.and_true,PySem.W.WData.layable,Bool.and_eq_true,decide_eq_true_eq] at hlay
  exact hlay.2
 refine PySem.W.enter_call (codeAny_mono (law_call KX G.T.g G.T.b G.T.builtins G.T.nolimit hg hobj hints (Nat.le_trans hlen (by decide)) hr hF hb (fun H hO hS=>?_) fun H e s' ⟨_,_,_,_,_,_,z⟩=>z) fun r s' hq=>?_)
 ·have hf:SqF (K w.params) H a (ns.map V.int):=by
   rcases hS with (hS | ⟨o,hS⟩) | hS
   ·rcases hO a with z | ⟨o,xs,z⟩<;>rw [hS] at z<;>cases z
   ·exact .inl ⟨o,hS⟩
   ·exact .inr hS
  exact ⟨[.fz (ns.map .int)],fun _=>none,fun d _=>d=.bl true,fun _ _=>False,.cons (.fz hf (.ints ns)) .nil,.nil,⟨ns,rfl,⟨hlen,hbits⟩,fun _=>rfl⟩,fun d' M' v H' _ _ r h=>by subst h; cases r; rfl,fun _ _ _ _ _ _ _ _ _ _ _ z=>z.elim⟩
 ·obtain ⟨rfl,h2,h3,h4⟩:=hq
  exact ⟨.inl ⟨.bool true,.bool true,[],rfl,fun _=>rfl,.bool true,Att.post_true l _,fun _=>⟨List.Pairwise.nil,fun _ hm=>(nomatch hm)⟩⟩,h2,h3,h4⟩
end DL
end
noncomputable section
namespace Q
theorem gcd_pos' {a b:Int} (h:b≠0):0 < Int.gcd a b:=Int.gcd_pos_of_ne_zero_right _ h
theorem lowest (a b:Int) (h:b≠0):a.fdiv (if b < 0 then -(Int.gcd a b:Int) else Int.gcd a b)=(Rat.divInt a b).num/\b.fdiv (if b < 0 then -(Int.gcd a b:Int) else Int.gcd a b)=((Rat.divInt a b).den:Int):=by
 have hg:=gcd_pos' (a:=a) h
 obtain ⟨x,hx⟩:(Int.gcd a b:Int) ∣ a:=Int.gcd_dvd_left ..
 obtain ⟨y,hy⟩:(Int.gcd a b:Int) ∣ b:=Int.gcd_dvd_right ..
 have gc:Int.gcd b a=Int.gcd a b:=Int.gcd_comm b a
 rw [Rat.num_divInt,Rat.den_divInt,if_neg h,gc]
 generalize hgg:Int.gcd a b=g at *
 have g0:(g:Int)≠0:=by omega
 have hy0:y≠0:=fun z=>h (by rw [hy,z,Int.mul_zero])
 by_cases hb:b < 0
 ·rw [if_pos hb]
  have yneg:y < 0:=by
   rcases Int.lt_trichotomy y 0 with z | z | z
   ·exact z
   ·exact absurd z hy0
   ·have:=Int.mul_pos (by omega:(0:Int) < g) z; omega
  have sb:b.sign=-1:=Int.sign_eq_neg_one_of_neg hb
  have e1:a=(-(g:Int)) * (-x):=by rw [Int.neg_mul_neg]; exact hx
  have e2:b=(-(g:Int)) * (-y):=by rw [Int.neg_mul_neg]; exact hy
  have n0:(-(g:Int))≠0:=by omega
  constructor
  ·conv=>lhs; rw [e1]
   rw [Int.mul_fdiv_cancel_left _ n0,sb]
   have:(-1 * a)=(g:Int) * (-x):=by rw [hx,Int.mul_neg]; omega
   rw [this,Int.mul_ediv_cancel_left _ g0]
  ·conv=>lhs; rw [e2]
   rw [Int.mul_fdiv_cancel_left _ n0]
   have e3:b.natAbs=g * (-y).natAbs:=by rw [hy,Int.natAbs_mul]; simp
   rw [e3,Nat.mul_div_cancel_left _ hg]
   omega
 ·rw [if_neg hb]
  have ypos:0 < y:=by
   rcases Int.lt_trichotomy y 0 with z | z | z
   ·have:=Int.mul_neg_of_pos_of_neg (by omega:(0:Int) < g) z; omega
   ·exact absurd z hy0
   ·exact z
  have sb:b.sign=1:=Int.sign_eq_one_of_pos (by omega)
  constructor
  ·conv=>lhs; rw [hx]
   rw [Int.mul_fdiv_cancel_left _ g0,sb,Int.one_mul]
   conv=>rhs; rw [hx]
   rw [Int.mul_ediv_cancel_left _ g0]
  ·conv=>lhs; rw [hy]
   rw [Int.mul_fdiv_cancel_left _ g0]
   have e3:b.natAbs=g * y.natAbs:=by rw [hy,Int.natAbs_mul]; simp
   rw [e3,Nat.mul_div_cancel_left _ hg]
   omega
theorem divInt_lowest (q:Rat):Rat.divInt q.num q.den=q:=Rat.num_divInt_den q
theorem gcd_self (q:Rat):Int.gcd q.num q.den=1:=q.reduced
theorem den_pos (q:Rat):(0:Int) < q.den:=by have:=q.den_nz; omega
theorem of_gcd {a b:Int} (hb:1<=b) (hg:Int.gcd a b=1):(Rat.divInt a b).num=a/\((Rat.divInt a b).den:Int)=b:=by
 have gc:Int.gcd b a=1:=by rw [Int.gcd_comm]; exact hg
 rw [Rat.num_divInt,Rat.den_divInt,if_neg (by omega),gc,Int.sign_eq_one_of_pos (by omega)]
 simp; omega
theorem add_eq (p q:Rat):Rat.divInt (p.num * q.den + q.num * p.den) (p.den * q.den)=p + q:=by
 rw [<- Rat.divInt_add_divInt _ _ (by have:=p.den_nz; omega) (by have:=q.den_nz; omega),divInt_lowest,divInt_lowest]
theorem sub_eq (p q:Rat):Rat.divInt (p.num * q.den - q.num * p.den) (p.den * q.den)=p - q:=by
 rw [<- Rat.divInt_sub_divInt _ _ (by have:=p.den_nz; omega) (by have:=q.den_nz; omega),divInt_lowest,divInt_lowest]
theorem lt_eq (p q:Rat):p.num * q.den < q.num * p.den ↔ p < q:=(Rat.lt_iff p q).symm
noncomputable def Sz (n:Nat) (q:Rat):Prop:=q.num.natAbs < 2 ^ n/\q.den < 2 ^ n
theorem Sz.mono {m n:Nat} {q:Rat} (h:Sz m q) (k:m<=n):Sz n q:=⟨Nat.lt_of_lt_of_le h.1 (Nat.pow_le_pow_right (by decide) k),Nat.lt_of_lt_of_le h.2 (Nat.pow_le_pow_right (by decide) k)⟩
theorem divInt_le (a b:Int) (h:b≠0):(Rat.divInt a b).num.natAbs<=a.natAbs/\(Rat.divInt a b).den<=b.natAbs:=by
 rw [Rat.num_divInt,Rat.den_divInt,if_neg h]
 constructor
 ·have:(b.sign * a).natAbs<=a.natAbs:=by
   rw [Int.natAbs_mul]
   have:b.sign.natAbs<=1:=by rcases Int.lt_trichotomy b 0 with z | z | z<;>simp [Int.sign_eq_neg_one_of_neg,Int.sign_eq_one_of_pos,z]
   exact Nat.le_trans (Nat.mul_le_mul_right _ this) (by simp)
  exact Nat.le_trans (Int.natAbs_ediv_le_natAbs _ _) this
 ·exact Nat.div_le_self _ _
theorem sz_divInt {a b:Int} {n:Nat} (h:b≠0) (ha:a.natAbs < 2 ^ n) (hb:b.natAbs < 2 ^ n):Sz n (Rat.divInt a b) :=
 ⟨Nat.lt_of_le_of_lt (divInt_le a b h).1 ha,Nat.lt_of_le_of_lt (divInt_le a b h).2 hb⟩
theorem mul_lt_pow {a b m n:Nat} (ha:a < 2 ^ m) (hb:b < 2 ^ n):a * b < 2 ^ (m + n):=by
 rw [Nat.pow_add]
 exact Nat.mul_lt_mul'' ha hb
theorem abs_mul {a b:Int} {m n:Nat} (ha:a.natAbs < 2 ^ m) (hb:b.natAbs < 2 ^ n):(a * b).natAbs < 2 ^ (m + n):=by
 rw [Int.natAbs_mul]; exact mul_lt_pow ha hb
theorem abs_add {a b:Int} {n:Nat} (ha:a.natAbs < 2 ^ n) (hb:b.natAbs < 2 ^ n):(a + b).natAbs < 2 ^ (n + 1):=by
 have:=Int.natAbs_add_le a b
 rw [Nat.pow_succ]; omega
theorem abs_sub {a b:Int} {n:Nat} (ha:a.natAbs < 2 ^ n) (hb:b.natAbs < 2 ^ n):(a - b).natAbs < 2 ^ (n + 1):=by
 have:=Int.natAbs_sub_le a b
 rw [Nat.pow_succ]; omega
theorem den_abs {n:Nat} {q:Rat} (h:Sz n q):(q.den:Int).natAbs < 2 ^ n:=by simpa using h.2
theorem den_ne (p q:Rat):(p.den:Int) * q.den≠0:=by
 have:=den_pos p; have:=den_pos q
 exact Int.ne_of_gt (Int.mul_pos (by omega) (by omega))
theorem Sz.add {m n:Nat} {p q:Rat} (hp:Sz m p) (hq:Sz n q):Sz (m + n + 1) (p + q):=by
 rw [<- add_eq]
 refine sz_divInt (den_ne p q) (abs_add (abs_mul hp.1 (den_abs hq)) ?_) (Nat.lt_of_lt_of_le (abs_mul (den_abs hp) (den_abs hq)) (Nat.pow_le_pow_right (by decide) (by omega)))
 rw [Nat.add_comm]; exact abs_mul hq.1 (den_abs hp)
theorem Sz.sub {m n:Nat} {p q:Rat} (hp:Sz m p) (hq:Sz n q):Sz (m + n + 1) (p - q):=by
 rw [<- sub_eq]
 refine sz_divInt (den_ne p q) (abs_sub (abs_mul hp.1 (den_abs hq)) ?_) (Nat.lt_of_lt_of_le (abs_mul (den_abs hp) (den_abs hq)) (Nat.pow_le_pow_right (by decide) (by omega)))
 rw [Nat.add_comm]; exact abs_mul hq.1 (den_abs hp)
end Q
end
noncomputable section
namespace Q
theorem rises (d:Nat->Rat) (n:Nat) (h:∀ k,0 < k->k < n->0 < d k->d k - d (k - 1)<=d (k + 1) - d k):∀ m i,n - i=m->0 < i->i<=n->0 < d i->0 < d i - d (i - 1)->0 < d n:=by
 intro m
 induction m with
 | zero =>
  intro i e h0 h1 h2 _
  have:i=n:=by omega
  subst this; exact h2
 | succ m ih =>
  intro i e h0 h1 h2 h3
  have hi:i < n:=by omega
  have:=h i h0 hi h2
  refine ih (i + 1) (by omega) (by omega) (by omega) (by grind) ?_
  rw [Nat.add_sub_cancel]; grind
theorem climbs (d:Nat->Rat) (h0:d 0<=0):∀ k,0 < d k->∃ i,0 < i/\i<=k/\0 < d i/\0 < d i - d (i - 1):=by
 intro k
 induction k with
 | zero=>intro h; grind
 | succ k ih =>
  intro h
  by_cases hk:0 < d k
  ·obtain ⟨i,a,b,c,e⟩:=ih hk
   exact ⟨i,a,by omega,c,e⟩
  ·exact ⟨k + 1,by omega,by omega,h,by rw [Nat.add_sub_cancel]; grind⟩
theorem maxp (d:Nat->Rat) (n:Nat) (h0:d 0<=0) (hn:d n<=0) (h:∀ k,0 < k->k < n->0 < d k->d k - d (k - 1)<=d (k + 1) - d k):∀ k,k<=n->d k<=0:=by
 intro k hk
 by_cases hd:0 < d k
 ·obtain ⟨i,a,b,c,e⟩:=climbs d h0 k hd
  have:=rises d n h (n - i) i rfl a (by omega) c e
  grind
 ·grind
structure Taut (lo hi r:Nat->Rat) (n:Nat):Prop where
 low:∀ k,k<=n->lo k<=r k
 high:∀ k,k<=n->r k<=hi k
 up:∀ k,0 < k->k < n->r k - r (k - 1) < r (k + 1) - r k->r k=hi k
 down:∀ k,0 < k->k < n->r (k + 1) - r k < r k - r (k - 1)->r k=lo k
theorem Taut.le {lo hi r lo' hi' r':Nat->Rat} {n:Nat} (a:Taut lo hi r n) (b:Taut lo' hi' r' n) (hl:∀ k,k<=n->lo k<=lo' k) (hh:∀ k,k<=n->hi k<=hi' k) (h0:r 0<=r' 0) (hn:r n<=r' n):∀ k,k<=n->r k<=r' k:=by
 intro k hk
 have:=maxp (fun k=>r k - r' k) n (by grind) (by grind) (fun k k0 kn hd=>?_) k hk
 ·grind
 ·have l1:=hl k (by omega); have l2:=hh k (by omega); have l3:=b.low k (by omega); have l4:=a.high k (by omega); have l5:=a.low k (by omega); have l6:=b.high k (by omega)
  have u:=b.up k k0 kn
  have d:=a.down k k0 kn
  by_cases h1:r (k + 1) - r k < r k - r (k - 1)
  ·have:=d h1; grind
  ·by_cases h2:r' k - r' (k - 1) < r' (k + 1) - r' k
   ·have:=u h2; grind
   ·grind
theorem Taut.unique {lo hi r r':Nat->Rat} {n:Nat} (a:Taut lo hi r n) (b:Taut lo hi r' n) (h0:r 0=r' 0) (hn:r n=r' n):∀ k,k<=n->r k=r' k:=by
 intro k hk
 have x:=a.le b (fun _ _=>by grind) (fun _ _=>by grind) (by grind) (by grind) k hk
 have y:=b.le a (fun _ _=>by grind) (fun _ _=>by grind) (by grind) (by grind) k hk
 grind
noncomputable def line (b:Nat) (h s:Rat) (t:Nat):Rat:=h + s * ((t:Rat) - (b:Rat))
structure Free (lo hi:Nat->Rat) (b:Nat) (h s:Rat) (e:Nat):Prop where
 low:∀ t,b < t->t < e->lo t<=line b h s t
 high:∀ t,b < t->t < e->line b h s t<=hi t
inductive Seg (lo hi:Nat->Rat) (n b:Nat) (h s:Rat) (p:Nat):Prop
 | up (at_:Nat) (hb:b < p) (hp:p < at_) (hn:at_<=n) (f:Free lo hi b h s at_) (t:line b h s p=hi p) (g:∀ t,p < t->t < at_->line b h s t < hi t) (z:line b h s at_ < lo at_)
 | down (at_:Nat) (hb:b < p) (hp:p < at_) (hn:at_<=n) (f:Free lo hi b h s at_) (t:line b h s p=lo p) (g:∀ t,p < t->t < at_->lo t < line b h s t) (z:hi at_ < line b h s at_)
 | fin (hb:b < p) (hp:p=n) (f:Free lo hi b h s (n + 1))
structure Drawn (lo hi r:Nat->Rat) (n b:Nat):Prop where
 le:b<=n
 low:∀ k,k<=b->lo k<=r k
 high:∀ k,k<=b->r k<=hi k
 up:∀ k,0 < k->k < b->r k - r (k - 1) < r (k + 1) - r k->r k=hi k
 down:∀ k,0 < k->k < b->r (k + 1) - r k < r k - r (k - 1)->r k=lo k
 pend:b=0\/b=n\/∃ a h s,a < b/\r b - r (b - 1)=s/\r b=line a h s b/\Seg lo hi n a h s b
end Q
end
noncomputable section
namespace Q
end Q
end
noncomputable section
namespace Q
noncomputable def fs (f:Rat->Rat) (r:Nat->Rat):Nat->Rat
 | 0=>0
 | m + 1=>fs f r m + f (r (m + 1) - r m)
end Q
end
noncomputable section
namespace K
open PySem DL
noncomputable abbrev F0:DK:=fun _ _=>False
noncomputable abbrev ends (R E:DK):DEnds:={ nx:=fun _ M'=>R .non M',rt:=R,ex:=fun _=>E }
theorem forD_inv {g:(DSt->DK)->DG} {tb:DS} {keep:Mem->Prop} {D:DEnds} (I:DSt->Mem->Prop) (hk:∀ δ M,I δ M->keep M) (he:∀ δ M,I δ M->D.nx δ M):∀ {items:List DL.D},
  (∀ x∈items,∀ N:DSt->Mem->Prop,(∀ δ M,I δ M->N δ M)->∀ δ M,I δ M->g D.ex x δ M fun δ1 M1=>tb { D with nx:=N,ct:=N,bk:=D.nx } δ1 M1)->∀ {δ M},I δ M->forD g tb keep items D δ M
 | [],_,δ,M,i=>he δ M i
 | x :: xs,h,δ,M,i=>by
  unfold forD
  exact h x List.mem_cons_self _ (fun δ' M' i'=>⟨hk δ' M' i',forD_inv I hk he (fun y hy=>h y (List.mem_cons_of_mem _ hy)) i'⟩) δ M i
theorem forD_ix {g:(DSt->DK)->DG} {tb:DS} {keep:Mem->Prop} {D:DEnds}:∀ {items:List DL.D} (I:Nat->DSt->Mem->Prop),(∀ i δ M,I i δ M->keep M)->(∀ δ M,I items.length δ M->D.nx δ M) ->
  (∀ i x,items[i]?=some x->∀ N:DSt->Mem->Prop,(∀ δ M,I (i + 1) δ M->N δ M)->∀ δ M,I i δ M->g D.ex x δ M fun δ1 M1=>tb { D with nx:=N,ct:=N,bk:=D.nx } δ1 M1)->∀ {δ M},I 0 δ M->forD g tb keep items D δ M
 | [],I,hk,he,ht,δ,M,h0=>he δ M h0
 | x :: xs,I,hk,he,ht,δ,M,h0=>by
  unfold forD
  exact ht 0 x rfl _ (fun δ' M' i'=>⟨hk _ δ' M' i',forD_ix (fun i=>I (i + 1)) (fun i=>hk (i + 1)) he (fun i y hy N hN=>ht (i + 1) y (by simpa using hy) N hN) i'⟩) δ M h0
theorem rngD_at {lo c:Int} {n i:Nat} {x:DL.D} (h:(rngD lo c n)[i]?=some x):x=.int (lo + i * c)/\i < n:=by
 unfold rngD at h
 rw [List.getElem?_map] at h
 cases q:(List.range n)[i]? with
 | none=>rw [q] at h; cases h
 | some j =>
  obtain ⟨h1,h2⟩:=List.getElem?_eq_some_iff.mp q
  rw [q] at h; cases h
  simp at h1 h2
  subst h2
  exact ⟨rfl,h1⟩
theorem rngD_len {lo c:Int} {n:Nat}:(rngD lo c n).length=n:=by simp [rngD]
theorem compD_pure {g:DG} {te:DE} {keep:Mem->Prop} {p:Addr} {Q:Mem->Prop} {M0:Mem} (f:DL.D->DL.D) (I:DSt->Prop) (h0:M0 p=none) (hk:∀ M,MExt M0 M->keep M) :
  ∀ {items acc:List DL.D},(∀ x∈items,∀ δ M (R:DSt->DK),I δ->MExt M0 M->(∀ δ1 M',I δ1->MExt M M'->R δ1 (f x) M')->g x δ M fun δ1 M1=>te δ1 M1 fun d M2=>R δ1 d M2) ->
  (acc++items.map f).length<=1000->(∀ M',MExt M0 M'->M' p=some (.ls (acc++items.map f))->Q M')->∀ {δ M},I δ->MExt M0 M->M p=some (.ls acc)->compD g te keep p items acc δ M Q
 | [],acc,_,_,q,δ,M,i,e,l=>by unfold compD; exact q M e (by simpa using l)
 | x :: xs,acc,h,hz,q,δ,M,i,e,l=>by
  unfold compD
  refine h x List.mem_cons_self δ M (fun δ1 d M2=>M2 p=some (.ls acc)/\acc.length < sizeLine/\keep (M2.upd p (.ls (acc++[d])))/\compD g te keep p xs (acc++[d]) δ1 (M2.upd p (.ls (acc++[d]))) Q) i e fun δ1 M' i' e'=>?_
  have e2:MExt M0 (M'.upd p (.ls (acc++[f x]))):=fun a o z=>by
   have:a≠p:=fun q=>by rw [q,h0] at z; cases z
   rw [mupd_ne this]; exact e' _ _ (e _ _ z)
  refine ⟨e' _ _ l,?_,hk _ e2,compD_pure f I h0 hk (fun y hy=>h y (List.mem_cons_of_mem _ hy)) (by simpa using hz) (fun M2 e3 l3=>q M2 e3 (by simpa using l3)) i' e2 mupd_same⟩
  rw [sizeLine_eq]; simp at hz; omega
theorem MExt.none {M M':Mem} (e:MExt M M') {p:Addr} (h:M' p=Option.none):M p=Option.none:=by
 cases q:M p with
 | none=>rfl
 | some o=>rw [e _ _ q] at h; cases h
theorem at_zero {α:Type} (x:α) (l:List α):L2.atI (x :: l) 0=some x:=L2.atI_nat (j:=0) rfl
theorem bits_le {k:Int} {n:Nat} (h:k.natAbs < 2 ^ n):Builtin.Int.intBits k<=n:=by
 unfold Builtin.Int.intBits
 split
 ·exact Nat.zero_le _
 ·rename_i h0
  have hp:k.natAbs≠0:=by intro z; apply h0; simp; omega
  have:=(Nat.log2_lt hp).mpr h
  omega
theorem mul_ok {a b:Int} {m n:Nat} (ha:a.natAbs < 2 ^ m) (hb:b.natAbs < 2 ^ n) (h:m + n<=134217728):IntMulOk a b:=IntMulOk.of_le (bits_le ha) (bits_le hb) h
theorem divOk_small {j:Int} (h:j≠0) (hj:j.natAbs < 2 ^ 8000):DivOk j:=⟨h,by
 have:j.natAbs≠0:=by omega
 have:=(Nat.log2_lt this).mpr hj
 omega⟩
theorem gcd_step {x y:Int} (h0:0<=x) (h1:0 < y):Int.gcd y (x.fmod y)=Int.gcd x y:=by
 obtain ⟨n,rfl⟩:=Int.eq_ofNat_of_zero_le h0
 obtain ⟨m,rfl⟩:=Int.eq_ofNat_of_zero_le (Int.le_of_lt h1)
 rw [Int.fmod_eq_emod_of_nonneg _ (Int.le_of_lt h1)]
 show Nat.gcd m (((n:Int) % (m:Int)).natAbs)=Nat.gcd n m
 have:((n:Int) % (m:Int)).natAbs=n % m:=by
  rw [<- Int.natCast_emod]; rfl
 rw [this,Nat.gcd_comm n m,Nat.gcd_comm m (n % m)]
 exact (Nat.gcd_rec m n).symm
theorem gcd_abs (a b:Int):Int.gcd (if a < 0 then -a else a) (if b < 0 then -b else b)=Int.gcd a b:=by
 unfold Int.gcd
 congr 1<;>split<;>omega
theorem fmod_range {x y:Int} (h:0 < y):0<=x.fmod y/\x.fmod y < y:=by
 rw [Int.fmod_eq_emod_of_nonneg _ (Int.le_of_lt h)]
 exact ⟨Int.emod_nonneg _ (by omega),Int.emod_lt_of_pos _ h⟩
theorem rSs_cons {s:CS} {r:CSs} {D:DEnds} {δ:DSt} {M:Mem}:rSs (.cons s r) D δ M=rS s { D with nx:=rSs r D } δ M:=by rw [rSs]; rfl
theorem rSs_nil {D:DEnds} {δ:DSt} {M:Mem}:rSs .nil D δ M=D.nx δ M:=by rw [rSs]; rfl
theorem eq_int {M:Mem} {Q:DK} {i j:Int} (neg:Bool) (h:Q (.bl (if neg then !(i == j) else (i == j))) M):cEq neg (.int i) (.int j) M Q:=⟨_,_,.int i,.int j,by simp [PyData.depth],h⟩
theorem eq_bl {M:Mem} {Q:DK} {i j:Bool} (neg:Bool) (h:Q (.bl (if neg then !(i == j) else (i == j))) M):cEq neg (.bl i) (.bl j) M Q:=⟨_,_,.bl i,.bl j,by simp [PyData.depth],h⟩
noncomputable def S_greatest_divisor:DSp:=fun ds M Q _=>∃ a b:Int,ds=[.int a,.int b]/\Q (.int (Int.gcd a b)) M
noncomputable def C_greatest_divisor:CSs:=.cons (.par 0 1 (.bi .abs (.cons (.var 0) (.nil))) (.bi .abs (.cons (.var 1) (.nil)))) (.cons (.whl (.var 1) (.cons (.par 0 1 (.var 1) (.bin .Mod (.var 0) (.var 1))) (.nil))) (.cons (.ret (.var 0)) (.nil)))
theorem vc_greatest_divisor:∀ ds M R E,S_greatest_divisor ds M R E->rSs C_greatest_divisor (ends R E) (startD 2 ds) M:=by
 rintro ds M R E ⟨a,b,rfl,h⟩
 simp [C_greatest_divisor,rSs,rS,rE,rEs,rO,rG,rGs,rI,DL.plain,dSeq,dNext,dBreak,dCont,dDrop,dRet,dRetN,dIfS,dNever,dAsg,dPar,gdName,gdTup,gdCons,gdNil,gdSub,dVar,dC,d2,dNil,dCons,dTup,dLst,dCB,dCall,dCallV,dTest,dAnd,dOr,dNot,dAndV,dOrV,dNotB,dNeg,dIfE,dTru,dChain,dSl,dRev,revOp,dPart,dNoPart,dApp,fInt,dExt,dAug,dTwo,dDic0,dDic1,diSeq,diRng,dFor,dComp,biSem,tyStr,bOp,cOp,bInt,bMul,bAdd,cInt,iOp,sOp,truD,fAbs,fMax,fMin,fStr,fLen,fDivmod,fTuple,fList,fIsi,fAll,fAny,itSeq,itRng,CGs.len,startD,and_assoc,sizeLine_eq,dRaise,dTry,isSub,dIdx,fSum,dIns]
 refine ⟨fun m δ M'=>∃ x y:Int,δ=[some (.int x),some (.int y)]/\M'=M/\0<=x/\0<=y/\Int.gcd x y=Int.gcd a b/\m=y.toNat,⟨_,_,_,rfl,rfl,?_,?_,?_,rfl⟩,?_⟩
 ·split<;>omega
 ·split<;>omega
 ·exact gcd_abs a b
 ·rintro m δ M' ⟨x,y,rfl,rfl,h0,h1,hg,rfl⟩
  simp [rSs,rS,rE,rEs,rO,rG,rGs,rI,DL.plain,dSeq,dNext,dBreak,dCont,dDrop,dRet,dRetN,dIfS,dNever,dAsg,dPar,gdName,gdTup,gdCons,gdNil,gdSub,dVar,dC,d2,dNil,dCons,dTup,dLst,dCB,dCall,dCallV,dTest,dAnd,dOr,dNot,dAndV,dOrV,dNotB,dNeg,dIfE,dTru,dChain,dSl,dRev,revOp,dPart,dNoPart,dApp,fInt,dExt,dAug,dTwo,dDic0,dDic1,diSeq,diRng,dFor,dComp,biSem,tyStr,bOp,cOp,bInt,bMul,bAdd,cInt,iOp,sOp,truD,fAbs,fMax,fMin,fStr,fLen,fDivmod,fTuple,fList,fIsi,fAll,fAny,itSeq,itRng,CGs.len,startD,and_assoc,sizeLine_eq,dRaise,dTry,isSub,dIdx,fSum,dIns]
  by_cases hy:y=0
  ·subst hy
   rw [if_pos rfl]
   rw [<- hg] at h
   have e:((x.gcd 0:Nat):Int)=x:=by unfold Int.gcd; simp; omega
   rw [e] at h; exact h
  ·rw [if_neg hy]
   have yp:0 < y:=by omega
   refine ⟨fun δ' M1=>δ'=[some (.int y),some (.int (x.fmod y))]/\M1=M',?_,hy,rfl,rfl⟩
   rintro δ' M1 ⟨rfl,rfl⟩
   have:=fmod_range (x:=x) yp
   exact ⟨(x.fmod y).toNat,by omega,y,_,rfl,rfl,h1,this.1,by rw [gcd_step h0 yp]; exact hg,rfl⟩
noncomputable def S_law_mixed:DSp:=fun ds M Q _=>∃ c:Int,ds=[.int c]/\Builtin.Int.intBits c<=2000000/\∀ r:Int,0<=r->r < 10 ^ 60->Q (.int r) M
noncomputable def C_law_mixed:CSs:=.cons (.ret (.bin .Mod (.bin .Mult (.var 0) (.int 301029995663981195213738894724493026768189881462108541310427)) (.bin .Pow (.int 10) (.int 60)))) (.nil)
theorem vc_law_mixed:∀ ds M R E,S_law_mixed ds M R E->rSs C_law_mixed (ends R E) (startD 1 ds) M:=by
 rintro ds M R E ⟨c,rfl,hb,h⟩
 simp [C_law_mixed,rSs,rS,rE,rEs,rO,rG,rGs,rI,DL.plain,dSeq,dNext,dBreak,dCont,dDrop,dRet,dRetN,dIfS,dNever,dAsg,dPar,gdName,gdTup,gdCons,gdNil,gdSub,dVar,dC,d2,dNil,dCons,dTup,dLst,dCB,dCall,dCallV,dTest,dAnd,dOr,dNot,dAndV,dOrV,dNotB,dNeg,dIfE,dTru,dChain,dSl,dRev,revOp,dPart,dNoPart,dApp,fInt,dExt,dAug,dTwo,dDic0,dDic1,diSeq,diRng,dFor,dComp,biSem,tyStr,bOp,cOp,bInt,bMul,bAdd,cInt,iOp,sOp,truD,fAbs,fMax,fMin,fStr,fLen,fDivmod,fTuple,fList,fIsi,fAll,fAny,itSeq,itRng,CGs.len,startD,and_assoc,sizeLine_eq,dRaise,dTry,isSub,dIdx,fSum,dIns]
 exact ⟨IntMulOk.of_le hb (bits_le (n:=300) (by decide)) (by decide),⟨by decide,by decide,by decide⟩,h _ (fmod_range (by decide)).1 (fmod_range (by decide)).2⟩
noncomputable def S_law_take:DSp:=fun ds M Q _=>∃ a n v,ds=[.lst a,.int n]/\M a=some (.ls [.int v])/\0 < n/\n.natAbs < 2 ^ 8000/\∀ r v':Int,0<=r->r < n->Q (.int r) (M.upd a (.ls [.int v']))
noncomputable def C_law_take:CSs:=.cons (.asg (.tup (.cons (.sub (.var 0) (.int 0)) (.cons (.name 2) (.nil)))) (.bi .divmod (.cons (.ix (.var 0) (.int 0)) (.cons (.var 1) (.nil))))) (.cons (.ret (.var 2)) (.nil))
theorem vc_law_take:∀ ds M R E,S_law_take ds M R E->rSs C_law_take (ends R E) (startD 3 ds) M:=by
 rintro ds M R E ⟨a,n,v,rfl,ha,hn,hn2,h⟩
 simp [C_law_take,rSs,rS,rE,rEs,rO,rG,rGs,rI,DL.plain,dSeq,dNext,dBreak,dCont,dDrop,dRet,dRetN,dIfS,dNever,dAsg,dPar,gdName,gdTup,gdCons,gdNil,gdSub,dVar,dC,d2,dNil,dCons,dTup,dLst,dCB,dCall,dCallV,dTest,dAnd,dOr,dNot,dAndV,dOrV,dNotB,dNeg,dIfE,dTru,dChain,dSl,dRev,revOp,dPart,dNoPart,dApp,fInt,dExt,dAug,dTwo,dDic0,dDic1,diSeq,diRng,dFor,dComp,biSem,tyStr,bOp,cOp,bInt,bMul,bAdd,cInt,iOp,sOp,truD,fAbs,fMax,fMin,fStr,fLen,fDivmod,fTuple,fList,fIsi,fAll,fAny,itSeq,itRng,CGs.len,startD,and_assoc,sizeLine_eq,dRaise,dTry,isSub,dIdx,fSum,dIns]
 refine ⟨_,ha,.int v,rfl,?_⟩
 have f:=fmod_range (x:=v) hn
 simp [rSs,rS,rE,rEs,rO,rG,rGs,rI,DL.plain,dSeq,dNext,dBreak,dCont,dDrop,dRet,dRetN,dIfS,dNever,dAsg,dPar,gdName,gdTup,gdCons,gdNil,gdSub,dVar,dC,d2,dNil,dCons,dTup,dLst,dCB,dCall,dCallV,dTest,dAnd,dOr,dNot,dAndV,dOrV,dNotB,dNeg,dIfE,dTru,dChain,dSl,dRev,revOp,dPart,dNoPart,dApp,fInt,dExt,dAug,dTwo,dDic0,dDic1,diSeq,diRng,dFor,dComp,biSem,tyStr,bOp,cOp,bInt,bMul,bAdd,cInt,iOp,sOp,truD,fAbs,fMax,fMin,fStr,fLen,fDivmod,fTuple,fList,fIsi,fAll,fAny,itSeq,itRng,CGs.len,startD,and_assoc,sizeLine_eq,dRaise,dTry,isSub,dIdx,fSum,dIns]
 exact ⟨divOk_small (by omega) hn2,_,ha,0,rfl,h _ _ f.1 f.2⟩
theorem cut_mem {α:Type} {xs:List α} {lo hi:Option Int} {x:α} (h:x∈cutG xs lo hi):x∈xs:=List.mem_of_mem_drop (List.mem_of_mem_take h)
theorem cut_len {α:Type} (xs:List α) (lo hi:Option Int):(cutG xs lo hi).length<=xs.length:=by
 unfold cutG; rw [List.length_take,List.length_drop]; omega
theorem cut_first (ns:List Int) (lo hi:Option Int) (e:Int):∃ c,L2.atI (cutG (ns.map D.int) lo hi++[D.int e]) 0=some (.int c)/\(c∈ns\/c=e):=by
 cases q:cutG (ns.map D.int) lo hi with
 | nil=>exact ⟨e,rfl,.inr rfl⟩
 | cons x r =>
  have:x∈ns.map D.int:=cut_mem (lo:=lo) (hi:=hi) (by rw [q]; exact List.mem_cons_self)
  obtain ⟨c,hc,rfl⟩:=List.mem_map.mp this
  exact ⟨c,at_zero _ _,.inl hc⟩
theorem one_line (x:DL.D):[x].length<=sizeLine:=by rw [sizeLine_eq]; exact (by decide:1<=16777216)
theorem two_line (x y:DL.D):[x,y].length<=sizeLine:=by rw [sizeLine_eq]; exact (by decide:2<=16777216)
theorem mulI {i j:Int} {M:Mem} {Q:DK} (a:IntMulOk i j) (q:Q (.int (i * j)) M):bMul (.int i) (.int j) M Q:=⟨a,q⟩
theorem addI {i j:Int} {M:Mem} {Q:DK} (q:Q (.int (i + j)) M):bAdd (.int i) (.int j) M Q:=q
noncomputable def S_law_pack:DSp:=fun ds M Q _=>∃ (ns:List Int) (k:Int),ds=[.fz (ns.map .int),.int k]/\Script ns/\0<=k/\k<=1000/\∀ (v:Int) p M',M p=none->MExt M M'->M' p=some (.ls [.int v])->Q (.lst p) M'
noncomputable def C_law_pack:CSs:=.cons (.set 2 (.int 0)) (.cons (.fr (.name 3) (.seq (.lst (.cons (.bin .Add (.var 1) (.int 1)) (.cons (.var 1) (.nil))))) (.cons (.set 2 (.bin .Add (.bin .Mult (.var 2) (.bin .Pow (.int 10) (.int 60))) (.call "_law_mixed" S_law_mixed (.cons (.ix (.bin .Add (.sl (.var 0) (.some (.var 3)) (.some (.bin .Add (.var 3) (.int 1)))) (.lst (.cons (.bin .Add (.bin .Mult (.int 7907) (.var 3)) (.int 53)) (.nil)))) (.int 0)) (.nil))))) (.nil))) (.cons (.ret (.lst (.cons (.var 2) (.nil)))) (.nil)))
theorem vc_law_pack:∀ ds M R E,S_law_pack ds M R E->rSs C_law_pack (ends R E) (startD 4 ds) M:=by
 rintro ds M R E ⟨ns,k,rfl,hs,h0,h1,h⟩
 have turn:∀ (t found:Int) (M:Mem) (Q:DK),0<=t->t<=1001->found.natAbs < 2 ^ 1000->(∀ v M',MExt M M'->v.natAbs < (found.natAbs + 1) * 10 ^ 60->Q (.int v) M') ->
   d2 bAdd (d2 bMul (dVar 2) (d2 (bInt L2.CPow fun i j=>i ^ j.toNat) (dC (D.int 10)) (dC (D.int 60))))
    (dCall S_law_mixed (fun _=>E) (dCons (d2 iOp (d2 bAdd (dSl (dVar 0) (dPart (dVar 3)) (dPart (d2 bAdd (dVar 3) (dC (D.int 1))))) (dLst (dCons (d2 bAdd (d2 bMul (dC (D.int 7907)) (dVar 3)) (dC (D.int 53))) dNil))) (dC (D.int 0))) dNil))
    [some (.fz (ns.map D.int)),some (.int k),some (.int found),some (.int t)] M Q:=by
  intro t found M Q h0 h1 hf hN
  dsimp only [d2,dVar,dC,dCall,dCons,dNil,dLst,dSl,dPart]
  refine ⟨_,rfl,⟨by decide,by decide,by decide⟩,mulI (mul_ok hf (n:=300) (by decide) (by decide)) ⟨_,rfl,_,rfl,_,rfl,_,rfl,addI ⟨_,rfl,fun p1 M1 e1 x1 l1=>⟨_,rfl,mulI (mul_ok (m:=64) (n:=64) (by decide) (by omega) (by decide)) (addI ⟨one_line _,fun p2 M2 e2 x2 l2=>⟨_,_,x2 _ _ l1,l2,?_,fun p3 M3 e3 x3 l3=>?_⟩⟩)⟩⟩⟩⟩
  ·have:=cut_len (ns.map D.int) (some t) (some (t + 1))
   rw [List.length_map] at this
   have:=hs.len
   rw [sizeLine_eq]
   show _ + 1<=_
   omega
  obtain ⟨c,hc,hm⟩:=cut_first ns (some t) (some (t + 1)) (7907 * t + 53)
  refine ⟨_,_,l3,hc,c,rfl,?_,fun r r0 r1=>addI ?_⟩
  ·rcases hm with hm | hm
   ·exact Nat.le_trans (hs.bits c hm) (by decide)
   ·subst hm; exact Nat.le_trans (bits_le (n:=64) (by omega)) (by decide)
  ·refine hN _ M3 (x1.trans (x2.trans x3)) ?_
   have a1:=Int.natAbs_add_le (found * 1000000000000000000000000000000000000000000000000000000000000) r
   rw [Int.natAbs_mul] at a1
   have a2:r.natAbs < 10 ^ 60:=by omega
   have a3:(1000000000000000000000000000000000000000000000000000000000000:Int).natAbs=10 ^ 60:=by decide
   rw [a3] at a1
   rw [Nat.add_mul,Nat.one_mul]
   exact Nat.lt_of_le_of_lt a1 (by omega)
 unfold C_law_pack
 dsimp only [rSs,rS,rE,rEs,rG,rGs,rI,DL.plain,dSeq,dRet,dAsg,dFor,gdName,diSeq,dCall,dCons,dNil,dLst,dVar,dC,d2,bOp,startD,dNext,dSl]
 refine ⟨_,rfl,addI ⟨_,rfl,two_line _ _,fun p0 M0 e0 x0 l0=>⟨_,l0,?_⟩⟩⟩
 dsimp only [forD,gdName,dSeq,dAsg,dNext,rO]
 refine turn (k + 1) 0 M0 _ (by omega) (by omega) (by decide) fun v1 M1 x1 b1=>?_
 refine ⟨x1 _ _ l0,?_⟩
 refine turn k v1 M1 _ (by omega) (by omega) (Nat.lt_of_lt_of_le b1 (by decide)) fun v2 M2 x2 b2=>?_
 refine ⟨x2 _ _ (x1 _ _ l0),?_⟩
 dsimp only [dRet,dLst,dCons,dNil,dVar]
 refine ⟨_,rfl,one_line _,fun p M' e x l=>?_⟩
 exact h v2 p M' (K.MExt.none (x0.trans (x1.trans x2)) e) (x0.trans (x1.trans (x2.trans x))) l
end K
end
open PySem DL Q K
local macro_rules
 | `(tactic| sleep 1)=>`(tactic| ((try dsimp only); rw [rSs_cons]; sleep 2))
 | `(tactic| sleep 2)=>`(tactic| ((try dsimp only [rS,rE,rEs,rO,rG,rGs,rI,DL.plain,dSeq,dNext,dBreak,dCont,dDrop,dRet,dRetN,dIfS,dNever,dAsg,dPar,gdName,gdTup,gdCons,gdNil,gdSub,dVar,dC,d2,dNil,dCons,dTup,dLst,dCB,dCall,dCallV,dTest,dAnd,dOr,dNot,dAndV,dOrV,dNotB,dNeg,dIfE,dTru,dChain,dSl,dRev,revOp,dPart,dNoPart,dApp,fInt,dExt,dAug,dTwo,dDic0,dDic1,biSem,tyStr,bOp,cOp,bInt,bMul,bAdd,cInt,sOp,truD,fAbs,fMax,fMin,fStr,fDivmod,fTuple,fList,fIsi,itSeq,itRng,CGs.len,startD,dRaise,dTry,isSub,dIdx,fSum,dIns]); try simp [rS,rE,rEs,rO,rG,rGs,rI,DL.plain,dSeq,dNext,dBreak,dCont,dDrop,dRet,dRetN,dIfS,dNever,dAsg,dPar,gdName,gdTup,gdCons,gdNil,gdSub,dVar,dC,d2,dNil,dCons,dTup,dLst,dCB,dCall,dCallV,dTest,dAnd,dOr,dNot,dAndV,dOrV,dNotB,dNeg,dIfE,dTru,dChain,dSl,dRev,revOp,dPart,dNoPart,dApp,fInt,dExt,dAug,dTwo,dDic0,dDic1,biSem,tyStr,bOp,cOp,bInt,bMul,bAdd,cInt,sOp,truD,fAbs,fMax,fMin,fStr,fDivmod,fTuple,fList,fIsi,itSeq,itRng,CGs.len,startD,and_assoc,sizeLine_eq,dRaise,dTry,isSub,rSs_nil,dIdx,fSum,dIns]))
 | `(tactic| sleep 50)=>`(tactic| exact ⟨rfl,rfl,rfl,by decide +kernel,rfl,by decide +kernel,by decide +kernel⟩)
 | `(tactic| sleep 51)=>`(tactic| repeat' (first | exact True.intro | assumption | refine And.intro ?_ ?_))
noncomputable section
namespace K
open PySem DL Q
noncomputable def nm (q:Rat):DL.D:=.tup [.int q.num,.int q.den]
theorem pow_le {m n:Nat} (h:m<=n):2 ^ m<=2 ^ n:=Nat.pow_le_pow_right (by decide) h
theorem divOk_gcd {a b:Int} (h:b≠0) (hb:b.natAbs < 2 ^ 8000):DivOk (if b < 0 then -(Int.gcd a b:Int) else Int.gcd a b):=by
 have g0:=gcd_pos' (a:=a) h
 have gl:Int.gcd a b<=b.natAbs:=Nat.le_of_dvd (by omega) (Int.gcd_dvd_natAbs_right ..)
 split<;>exact divOk_small (by omega) (by simp; omega)
noncomputable def S_number:DSp:=fun ds M Q E=>∃ a b:Int,ds=[.int a,.int b]/\b.natAbs < 2 ^ 8000/\((b≠0/\Q (nm (Rat.divInt a b)) M)\/(b=0/\E (.exc "NoNumber" .non) M))
noncomputable def C_number:CSs:=.cons (.ife (.cmp .Eq (.var 1) (.int 0)) (.cons (.rse "NoNumber" (.cons (.str "nothing is parted by 0") (.nil))) (.nil)) (.nil)) (.cons (.set 2 (.call "greatest_divisor" S_greatest_divisor (.cons (.var 0) (.cons (.var 1) (.nil))))) (.cons (.ife (.cmp .Lt (.var 1) (.int 0)) (.cons (.set 2 (.neg (.var 2))) (.nil)) (.nil)) (.cons (.ret (.tup (.cons (.bin .FloorDiv (.var 0) (.var 2)) (.cons (.bin .FloorDiv (.var 1) (.var 2)) (.nil))))) (.nil))))
theorem vc_number:∀ ds M R E,S_number ds M R E->rSs C_number (ends R E) (startD 3 ds) M:=by
 rintro ds M R E ⟨a,b,rfl,hb,h⟩
 simp [C_number,rSs,rS,rE,rEs,rO,rG,rGs,rI,DL.plain,dSeq,dNext,dBreak,dCont,dDrop,dRet,dRetN,dIfS,dNever,dAsg,dPar,gdName,gdTup,gdCons,gdNil,gdSub,dVar,dC,d2,dNil,dCons,dTup,dLst,dCB,dCall,dCallV,dTest,dAnd,dOr,dNot,dAndV,dOrV,dNotB,dNeg,dIfE,dTru,dChain,dSl,dRev,revOp,dPart,dNoPart,dApp,fInt,dExt,dAug,dTwo,dDic0,dDic1,diSeq,diRng,dFor,dComp,biSem,tyStr,bOp,cOp,bInt,bMul,bAdd,cInt,iOp,sOp,truD,fAbs,fMax,fMin,fStr,fLen,fDivmod,fTuple,fList,fIsi,fAll,fAny,itSeq,itRng,CGs.len,startD,and_assoc,sizeLine_eq,dRaise,dTry,isSub,dIdx,fSum,dIns]
 refine eq_int false ?_
 rcases h with ⟨h0,h⟩ | ⟨h0,h⟩
 ·have L:=lowest a b h0
  have D:=divOk_gcd (a:=a) h0 hb
  unfold nm at h
  simp [h0]
  refine ⟨a,b,rfl,?_⟩
  by_cases hn:b < 0
  ·rw [if_pos hn] at L D
   simp [hn,D]
   rw [L.1,L.2]; exact h
  ·rw [if_neg hn] at L D
   simp [hn,D]
   rw [L.1,L.2]; exact h
 ·subst h0
  simp
  exact h
noncomputable def Ok2 (p q:Rat):Prop:=∃ m n,Sz m p/\Sz n q/\m + n<=7998
theorem Ok2.mk {p q:Rat} {m n:Nat} (a:Sz m p) (b:Sz n q) (h:m + n<=7998):Ok2 p q:=⟨m,n,a,b,h⟩
theorem Ok2.nd {p q:Rat} (h:Ok2 p q):IntMulOk p.num q.den/\IntMulOk q.num p.den/\IntMulOk p.den q.den/\IntMulOk p.num q.num/\IntMulOk (p.den:Int) q.num:=by
 obtain ⟨m,n,a,b,h⟩:=h
 exact ⟨mul_ok a.1 (den_abs b) (by omega),mul_ok b.1 (den_abs a) (by omega),mul_ok (den_abs a) (den_abs b) (by omega),mul_ok a.1 b.1 (by omega),mul_ok (den_abs a) b.1 (by omega)⟩
theorem Ok2.dd {p q:Rat} (h:Ok2 p q):((p.den:Int) * q.den).natAbs < 2 ^ 8000/\((p.den:Int) * q.num).natAbs < 2 ^ 8000:=by
 obtain ⟨m,n,a,b,h⟩:=h
 exact ⟨Nat.lt_of_lt_of_le (abs_mul (den_abs a) (den_abs b)) (pow_le (by omega)),Nat.lt_of_lt_of_le (abs_mul (den_abs a) b.1) (pow_le (by omega))⟩
theorem at_one {α:Type} (x y:α) (l:List α):L2.atI (x :: y :: l) 1=some y:=L2.atI_nat (j:=1) rfl
theorem ix0 {p:Rat} {M:Mem} {Q:DK} (q:Q (.int p.num) M):iOp (nm p) (.int 0) M Q:=⟨_,at_zero _ _,q⟩
theorem ix1 {p:Rat} {M:Mem} {Q:DK} (q:Q (.int p.den) M):iOp (nm p) (.int 1) M Q:=⟨_,at_one _ _ _,q⟩
theorem tx0 {x y:DL.D} {M:Mem} {Q:DK} (q:Q x M):iOp (.tup [x,y]) (.int 0) M Q:=⟨_,at_zero _ _,q⟩
theorem tx1 {x y:DL.D} {M:Mem} {Q:DK} (q:Q y M):iOp (.tup [x,y]) (.int 1) M Q:=⟨_,at_one _ _ _,q⟩
theorem subI {i j:Int} {M:Mem} {Q:DK} (q:Q (.int (i - j)) M):bInt (fun _ _=>True) (fun i j=>i - j) (.int i) (.int j) M Q:=⟨trivial,q⟩
noncomputable def S_added:DSp:=fun ds M Q E=>∃ p q:Rat,ds=[nm p,nm q]/\Ok2 p q/\Q (nm (p + q)) M
noncomputable def C_added:CSs:=.cons (.ret (.call "number" S_number (.cons (.bin .Add (.bin .Mult (.ix (.var 0) (.int 0)) (.ix (.var 1) (.int 1))) (.bin .Mult (.ix (.var 1) (.int 0)) (.ix (.var 0) (.int 1)))) (.cons (.bin .Mult (.ix (.var 0) (.int 1)) (.ix (.var 1) (.int 1))) (.nil))))) (.nil)
theorem vc_added:∀ ds M R E,S_added ds M R E->rSs C_added (ends R E) (startD 2 ds) M:=by
 rintro ds M R E ⟨p,q,rfl,ok,h⟩
 unfold C_added
 dsimp only [rSs,rS,rE,rEs,DL.plain,dSeq,dRet,dCall,dCons,dNil,d2,dVar,dC,bOp,startD]
 have n:=ok.nd
 refine ⟨_,rfl,ix0 ⟨_,rfl,ix1 (mulI n.1 ⟨_,rfl,ix0 ⟨_,rfl,ix1 (mulI n.2.1 (addI ⟨_,rfl,ix1 ⟨_,rfl,ix1 (mulI n.2.2.1 ?_)⟩⟩))⟩⟩)⟩⟩
 refine ⟨_,_,rfl,ok.dd.1,.inl ⟨den_ne p q,?_⟩⟩
 rw [add_eq]; exact h
noncomputable def S_taken:DSp:=fun ds M Q E=>∃ p q:Rat,ds=[nm p,nm q]/\Ok2 p q/\Q (nm (p - q)) M
noncomputable def C_taken:CSs:=.cons (.ret (.call "number" S_number (.cons (.bin .Sub (.bin .Mult (.ix (.var 0) (.int 0)) (.ix (.var 1) (.int 1))) (.bin .Mult (.ix (.var 1) (.int 0)) (.ix (.var 0) (.int 1)))) (.cons (.bin .Mult (.ix (.var 0) (.int 1)) (.ix (.var 1) (.int 1))) (.nil))))) (.nil)
theorem vc_taken:∀ ds M R E,S_taken ds M R E->rSs C_taken (ends R E) (startD 2 ds) M:=by
 rintro ds M R E ⟨p,q,rfl,ok,h⟩
 unfold C_taken
 dsimp only [rSs,rS,rE,rEs,DL.plain,dSeq,dRet,dCall,dCons,dNil,d2,dVar,dC,bOp,startD]
 have n:=ok.nd
 refine ⟨_,rfl,ix0 ⟨_,rfl,ix1 (mulI n.1 ⟨_,rfl,ix0 ⟨_,rfl,ix1 (mulI n.2.1 (subI ⟨_,rfl,ix1 ⟨_,rfl,ix1 (mulI n.2.2.1 ?_)⟩⟩))⟩⟩)⟩⟩
 refine ⟨_,_,rfl,ok.dd.1,.inl ⟨den_ne p q,?_⟩⟩
 rw [sub_eq]; exact h
noncomputable def S_is_less:DSp:=fun ds M Q E=>∃ p q:Rat,ds=[nm p,nm q]/\Ok2 p q/\Q (.bl (decide (p < q))) M
noncomputable def C_is_less:CSs:=.cons (.ret (.cmp .Lt (.bin .Mult (.ix (.var 0) (.int 0)) (.ix (.var 1) (.int 1))) (.bin .Mult (.ix (.var 1) (.int 0)) (.ix (.var 0) (.int 1))))) (.nil)
theorem vc_is_less:∀ ds M R E,S_is_less ds M R E->rSs C_is_less (ends R E) (startD 2 ds) M:=by
 rintro ds M R E ⟨p,q,rfl,ok,h⟩
 unfold C_is_less
 dsimp only [rSs,rS,rE,rEs,DL.plain,dSeq,dRet,dCall,dCons,dNil,d2,dVar,dC,bOp,cOp,startD]
 have n:=ok.nd
 refine ⟨_,rfl,ix0 ⟨_,rfl,ix1 (mulI n.1 ⟨_,rfl,ix0 ⟨_,rfl,ix1 (mulI n.2.1 ?_)⟩⟩)⟩⟩
 show R (.bl (decide (p.num * q.den < q.num * p.den))) M
 rw [show decide (p.num * (q.den:Int) < q.num * p.den)=decide (p < q) by simp only [lt_eq]]
 exact h
noncomputable def S_law_low:DSp:=fun ds M Q _=>∃ a b:Int,ds=[.int a,.int b]/\b≠0/\b.natAbs < 2 ^ 8000/\Q (nm (Rat.divInt a b)) M
noncomputable def C_law_low:CSs:=.cons (.par 2 3 (.bi .abs (.cons (.var 0) (.nil))) (.bi .abs (.cons (.var 1) (.nil)))) (.cons (.whl (.cmp .NotEq (.var 3) (.int 0)) (.cons (.par 2 3 (.var 3) (.bin .Mod (.var 2) (.var 3))) (.nil))) (.cons (.ife (.cmp .Lt (.var 1) (.int 0)) (.cons (.set 2 (.bin .Sub (.int 0) (.var 2))) (.nil)) (.nil)) (.cons (.ret (.tup (.cons (.bin .FloorDiv (.var 0) (.var 2)) (.cons (.bin .FloorDiv (.var 1) (.var 2)) (.nil))))) (.nil))))
theorem vc_law_low:∀ ds M R E,S_law_low ds M R E->rSs C_law_low (ends R E) (startD 4 ds) M:=by
 rintro ds M R E ⟨a,b,rfl,hb,hb2,h⟩
 have L:=lowest a b hb
 have D:=divOk_gcd (a:=a) hb hb2
 simp [C_law_low,rSs,rS,rE,rEs,rO,rG,rGs,rI,DL.plain,dSeq,dNext,dBreak,dCont,dDrop,dRet,dRetN,dIfS,dNever,dAsg,dPar,gdName,gdTup,gdCons,gdNil,gdSub,dVar,dC,d2,dNil,dCons,dTup,dLst,dCB,dCall,dCallV,dTest,dAnd,dOr,dNot,dAndV,dOrV,dNotB,dNeg,dIfE,dTru,dChain,dSl,dRev,revOp,dPart,dNoPart,dApp,fInt,dExt,dAug,dTwo,dDic0,dDic1,diSeq,diRng,dFor,dComp,biSem,tyStr,bOp,cOp,bInt,bMul,bAdd,cInt,iOp,sOp,truD,fAbs,fMax,fMin,fStr,fLen,fDivmod,fTuple,fList,fIsi,fAll,fAny,itSeq,itRng,CGs.len,startD,and_assoc,sizeLine_eq,dRaise,dTry,isSub,dIdx,fSum,dIns]
 refine ⟨fun m δ M'=>∃ x y:Int,δ=[some (.int a),some (.int b),some (.int x),some (.int y)]/\M'=M/\0<=x/\0<=y/\Int.gcd x y=Int.gcd a b/\m=y.toNat,⟨_,_,_,rfl,rfl,?_,?_,?_,rfl⟩,?_⟩
 ·split<;>omega
 ·split<;>omega
 ·exact gcd_abs a b
 ·rintro m δ M' ⟨x,y,rfl,rfl,h0,h1,hg,rfl⟩
  ((try dsimp only [rSs,rS,rE,rEs,rO,rG,rGs,rI,DL.plain,dSeq,dNext,dBreak,dCont,dDrop,dRet,dRetN,dIfS,dNever,dAsg,dPar,gdName,gdTup,gdCons,gdNil,gdSub,dVar,dC,d2,dNil,dCons,dTup,dLst,dCB,dCall,dCallV,dTest,dAnd,dOr,dNot,dAndV,dOrV,dNotB,dNeg,dIfE,dTru,dChain,dSl,dRev,revOp,dPart,dNoPart,dApp,fInt,dExt,dAug,dTwo,dDic0,dDic1,diSeq,diRng,dFor,dComp,biSem,tyStr,bOp,cOp,bInt,bMul,bAdd,cInt,iOp,sOp,truD,fAbs,fMax,fMin,fStr,fLen,fDivmod,fTuple,fList,fIsi,fAll,fAny,itSeq,itRng,CGs.len,startD,dRaise,dTry,isSub,dIdx,fSum,dIns]); try simp [rSs,rS,rE,rEs,rO,rG,rGs,rI,DL.plain,dSeq,dNext,dBreak,dCont,dDrop,dRet,dRetN,dIfS,dNever,dAsg,dPar,gdName,gdTup,gdCons,gdNil,gdSub,dVar,dC,d2,dNil,dCons,dTup,dLst,dCB,dCall,dCallV,dTest,dAnd,dOr,dNot,dAndV,dOrV,dNotB,dNeg,dIfE,dTru,dChain,dSl,dRev,revOp,dPart,dNoPart,dApp,fInt,dExt,dAug,dTwo,dDic0,dDic1,diSeq,diRng,dFor,dComp,biSem,tyStr,bOp,cOp,bInt,bMul,bAdd,cInt,iOp,sOp,truD,fAbs,fMax,fMin,fStr,fLen,fDivmod,fTuple,fList,fIsi,fAll,fAny,itSeq,itRng,CGs.len,startD,and_assoc,sizeLine_eq,dRaise,dTry,isSub,dIdx,fSum,dIns])
  refine eq_int true ?_
  by_cases hy:y=0
  ·subst hy
   have e:((x.gcd 0:Nat):Int)=x:=by unfold Int.gcd; simp; omega
   rw [hg] at e
   rw [e] at L D
   unfold nm at h
   by_cases nb:b < 0
   ·rw [if_pos nb] at L D
    simp [nb,D]
    rw [L.1,L.2]; exact h
   ·rw [if_neg nb] at L D
    simp [nb,D]
    rw [L.1,L.2]; exact h
  ·have yp:0 < y:=by omega
   simp [hy]
   refine ⟨fun δ' M1=>δ'=[some (.int a),some (.int b),some (.int y),some (.int (x.fmod y))]/\M1=M',?_,rfl,rfl⟩
   rintro δ' M1 ⟨rfl,rfl⟩
   have:=fmod_range (x:=x) yp
   exact ⟨(x.fmod y).toNat,by omega,y,_,rfl,rfl,h1,this.1,by rw [gcd_step h0 yp]; exact hg,rfl⟩
noncomputable def S_law_more:DSp:=fun ds M Q E=>∃ p q:Rat,ds=[nm p,nm q]/\Ok2 p q/\Q (nm (p + q)) M
noncomputable def C_law_more:CSs:=.cons (.ret (.call "_law_low" S_law_low (.cons (.bin .Add (.bin .Mult (.ix (.var 0) (.int 0)) (.ix (.var 1) (.int 1))) (.bin .Mult (.ix (.var 1) (.int 0)) (.ix (.var 0) (.int 1)))) (.cons (.bin .Mult (.ix (.var 0) (.int 1)) (.ix (.var 1) (.int 1))) (.nil))))) (.nil)
theorem vc_law_more:∀ ds M R E,S_law_more ds M R E->rSs C_law_more (ends R E) (startD 2 ds) M:=by
 rintro ds M R E ⟨p,q,rfl,ok,h⟩
 unfold C_law_more
 dsimp only [rSs,rS,rE,rEs,DL.plain,dSeq,dRet,dCall,dCons,dNil,d2,dVar,dC,bOp,startD]
 have n:=ok.nd
 refine ⟨_,rfl,ix0 ⟨_,rfl,ix1 (mulI n.1 ⟨_,rfl,ix0 ⟨_,rfl,ix1 (mulI n.2.1 (addI ⟨_,rfl,ix1 ⟨_,rfl,ix1 (mulI n.2.2.1 ?_)⟩⟩))⟩⟩)⟩⟩
 refine ⟨_,_,rfl,den_ne p q,ok.dd.1,?_⟩
 rw [add_eq]; exact h
noncomputable def S_law_less_by:DSp:=fun ds M Q E=>∃ p q:Rat,ds=[nm p,nm q]/\Ok2 p q/\Q (nm (p - q)) M
noncomputable def C_law_less_by:CSs:=.cons (.ret (.call "_law_low" S_law_low (.cons (.bin .Sub (.bin .Mult (.ix (.var 0) (.int 0)) (.ix (.var 1) (.int 1))) (.bin .Mult (.ix (.var 1) (.int 0)) (.ix (.var 0) (.int 1)))) (.cons (.bin .Mult (.ix (.var 0) (.int 1)) (.ix (.var 1) (.int 1))) (.nil))))) (.nil)
theorem vc_law_less_by:∀ ds M R E,S_law_less_by ds M R E->rSs C_law_less_by (ends R E) (startD 2 ds) M:=by
 rintro ds M R E ⟨p,q,rfl,ok,h⟩
 unfold C_law_less_by
 dsimp only [rSs,rS,rE,rEs,DL.plain,dSeq,dRet,dCall,dCons,dNil,d2,dVar,dC,bOp,startD]
 have n:=ok.nd
 refine ⟨_,rfl,ix0 ⟨_,rfl,ix1 (mulI n.1 ⟨_,rfl,ix0 ⟨_,rfl,ix1 (mulI n.2.1 (subI ⟨_,rfl,ix1 ⟨_,rfl,ix1 (mulI n.2.2.1 ?_)⟩⟩))⟩⟩)⟩⟩
 refine ⟨_,_,rfl,den_ne p q,ok.dd.1,?_⟩
 rw [sub_eq]; exact h
noncomputable def S_law_by:DSp:=fun ds M Q E=>∃ (p:Rat) (a b:Int),ds=[nm p,.tup [.int a,.int b]]/\b≠0/\(∃ m n,Sz m p/\a.natAbs < 2 ^ n/\b.natAbs < 2 ^ n/\m + n<=7998)/\Q (nm (p * Rat.divInt a b)) M
noncomputable def C_law_by:CSs:=.cons (.ret (.call "_law_low" S_law_low (.cons (.bin .Mult (.ix (.var 0) (.int 0)) (.ix (.var 1) (.int 0))) (.cons (.bin .Mult (.ix (.var 0) (.int 1)) (.ix (.var 1) (.int 1))) (.nil))))) (.nil)
theorem vc_law_by:∀ ds M R E,S_law_by ds M R E->rSs C_law_by (ends R E) (startD 2 ds) M:=by
 rintro ds M R E ⟨p,a,b,rfl,hb,⟨m,n,s,ha,hb2,hl⟩,h⟩
 have o1:IntMulOk p.num a:=mul_ok s.1 ha (by omega)
 have o2:IntMulOk p.den b:=mul_ok (den_abs s) hb2 (by omega)
 unfold C_law_by
 dsimp only [rSs,rS,rE,rEs,DL.plain,dSeq,dRet,dCall,dCons,dNil,d2,dVar,dC,bOp,startD]
 refine ⟨_,rfl,ix0 ⟨_,rfl,tx0 (mulI o1 ⟨_,rfl,ix1 ⟨_,rfl,tx1 (mulI o2 ?_)⟩⟩)⟩⟩
 refine ⟨_,_,rfl,Int.mul_ne_zero (by have:=den_pos p; omega) hb,Nat.lt_of_lt_of_le (abs_mul (den_abs s) hb2) (pow_le (by omega)),?_⟩
 rw [<- Rat.divInt_mul_divInt,divInt_lowest]; exact h
noncomputable def S_law_under:DSp:=fun ds M Q E=>∃ p q:Rat,ds=[nm p,nm q]/\Ok2 p q/\Q (.bl (decide (p < q))) M
noncomputable def C_law_under:CSs:=.cons (.ret (.cmp .Lt (.bin .Mult (.ix (.var 0) (.int 0)) (.ix (.var 1) (.int 1))) (.bin .Mult (.ix (.var 1) (.int 0)) (.ix (.var 0) (.int 1))))) (.nil)
theorem vc_law_under:∀ ds M R E,S_law_under ds M R E->rSs C_law_under (ends R E) (startD 2 ds) M:=by
 rintro ds M R E ⟨p,q,rfl,ok,h⟩
 unfold C_law_under
 dsimp only [rSs,rS,rE,rEs,DL.plain,dSeq,dRet,dCall,dCons,dNil,d2,dVar,dC,bOp,cOp,startD]
 have n:=ok.nd
 refine ⟨_,rfl,ix0 ⟨_,rfl,ix1 (mulI n.1 ⟨_,rfl,ix0 ⟨_,rfl,ix1 (mulI n.2.1 ?_)⟩⟩)⟩⟩
 show R (.bl (decide (p.num * q.den < q.num * p.den))) M
 rw [show decide (p.num * (q.den:Int) < q.num * p.den)=decide (p < q) by simp only [lt_eq]]
 exact h
end K
end
noncomputable section
namespace K
open PySem DL Q
theorem MExt.upd_new {M0 M:Mem} {p:Addr} {o:MO} (h:M0 p=Option.none) (e:MExt M0 M):MExt M0 (M.upd p o):=fun a u z=>by
 have:a≠p:=fun q=>by rw [q,h] at z; cases z
 rw [mupd_ne this]; exact e a u z
theorem comp_map {n:Nat} {ti:DI} {g:DG} {te:DE} {δ:DSt} {M:Mem} {Q:DK} (xs:List DL.D) (f:DL.D->DL.D)
  (hti:∀ R:List DL.D->(Mem->Prop)->Mem->Prop,(∀ keep,(∀ M',MExt M M'->keep M')->R xs keep M)->ti δ M R) (hlen:xs.length<=1000)
  (hel:∀ x∈xs,∀ l M' (R:DSt->DK),l.length=n->MExt M M'->(∀ l' M'',l'.length=n->MExt M' M''->R (δ++l') (f x) M'')->g x (δ++l) M' fun δ1 M1=>te δ1 M1 fun d M2=>R δ1 d M2)
  (hq:∀ p M',M p=Option.none->MExt M M'->M' p=some (.ls (xs.map f))->Q (.lst p) M'):dComp n ti g te δ M Q:=by
 refine hti _ fun keep hk p hp=>⟨hk _ (.new hp),?_⟩
 refine compD_pure (M0:=M) f (fun δ'=>∃ l,l.length=n/\δ'=δ++l) hp hk ?_ (by simpa using hlen) ?_ ⟨_,by simp,rfl⟩ (.new hp) mupd_same
 ·rintro x hx δ' M' R ⟨l,hl,rfl⟩ e r
  exact hel x hx l M' R hl e fun l' M'' h1 h2=>r _ M'' ⟨l',h1,rfl⟩ h2
 ·intro M' e l
  exact ⟨⟨_,l⟩,hq p M' hp e (by simpa using l)⟩
theorem compD_pureG {α:Type} {g:DG} {te:DE} {keep:Mem->Prop} {p:Addr} {Q:Mem->Prop} {M0:Mem} (e f:α->DL.D) (I:DSt->Prop) (h0:M0 p=none) (hk:∀ M,MExt M0 M->keep M) :
  ∀ {xs:List α} {acc:List DL.D},(∀ x∈xs,∀ δ M (R:DSt->DK),I δ->MExt M0 M->(∀ δ1 M',I δ1->MExt M M'->R δ1 (f x) M')->g (e x) δ M fun δ1 M1=>te δ1 M1 fun d M2=>R δ1 d M2) ->
  (acc++xs.map f).length<=1000->(∀ M',MExt M0 M'->M' p=some (.ls (acc++xs.map f))->Q M')->∀ {δ M},I δ->MExt M0 M->M p=some (.ls acc)->compD g te keep p (xs.map e) acc δ M Q
 | [],acc,_,_,q,δ,M,i,e',l=>by show compD g te keep p [] acc δ M Q; unfold compD; exact q M e' (by simpa using l)
 | x :: xs,acc,h,hz,q,δ,M,i,e',l=>by
  show compD g te keep p (e x :: xs.map e) acc δ M Q
  unfold compD
  refine h x List.mem_cons_self δ M (fun δ1 d M2=>M2 p=some (.ls acc)/\acc.length < sizeLine/\keep (M2.upd p (.ls (acc++[d])))/\compD g te keep p (xs.map e) (acc++[d]) δ1 (M2.upd p (.ls (acc++[d]))) Q) i e' fun δ1 M' i' e2=>?_
  have e3:MExt M0 (M'.upd p (.ls (acc++[f x]))):=MExt.upd_new h0 (e'.trans e2)
  refine ⟨e2 _ _ l,?_,hk _ e3,compD_pureG e f I h0 hk (fun y hy=>h y (List.mem_cons_of_mem _ hy)) (by simpa using hz) (fun M2 e4 l4=>q M2 e4 (by simpa using l4)) i' e3 mupd_same⟩
  rw [sizeLine_eq]; simp at hz; omega
theorem comp_mapG {α:Type} {n:Nat} {ti:DI} {g:DG} {te:DE} {δ:DSt} {M:Mem} {Q:DK} (xs:List α) (e f:α->DL.D)
  (hti:∀ R:List DL.D->(Mem->Prop)->Mem->Prop,(∀ keep,(∀ M',MExt M M'->keep M')->R (xs.map e) keep M)->ti δ M R) (hlen:xs.length<=1000)
  (hel:∀ x∈xs,∀ l M' (R:DSt->DK),l.length=n->MExt M M'->(∀ l' M'',l'.length=n->MExt M' M''->R (δ++l') (f x) M'')->g (e x) (δ++l) M' fun δ1 M1=>te δ1 M1 fun d M2=>R δ1 d M2)
  (hq:∀ p M',M p=Option.none->MExt M M'->M' p=some (.ls (xs.map f))->Q (.lst p) M'):dComp n ti g te δ M Q:=by
 refine hti _ fun keep hk p hp=>⟨hk _ (.new hp),?_⟩
 refine compD_pureG (M0:=M) e f (fun δ'=>∃ l,l.length=n/\δ'=δ++l) hp hk ?_ (by simpa using hlen) ?_ ⟨_,by simp,rfl⟩ (.new hp) mupd_same
 ·rintro x hx δ' M' R ⟨l,hl,rfl⟩ e2 r
  exact hel x hx l M' R hl e2 fun l' M'' h1 h2=>r _ M'' ⟨l',h1,rfl⟩ h2
 ·intro M' e2 l
  exact ⟨⟨_,l⟩,hq p M' hp e2 (by simpa using l)⟩
theorem ti_tup {i:Nat} {δ:DSt} {M:Mem} {xs:List DL.D} (h:δ[i]?=some (some (.tup xs))):∀ R:List DL.D->(Mem->Prop)->Mem->Prop,(∀ keep,(∀ M',MExt M M'->keep M')->R xs keep M)->diSeq (dVar i) δ M R :=
 fun R r=>⟨_,h,r _ fun _ _=>trivial⟩
theorem len1 {α:Type} {l:List α} (h:l.length=1):∃ a,l=[a]:=match l,h with | [a],_=>⟨a,rfl⟩
theorem len2 {α:Type} {l:List α} (h:l.length=2):∃ a b,l=[a,b]:=match l,h with | [a,b],_=>⟨a,b,rfl⟩
theorem all_of {M:Mem} {p:Addr} {Q:DK} {α:Type} {xs:List α} {f:α->Bool} (l:M p=some (.ls (xs.map fun x=>.bl (f x)))) (h:Q (.bl (xs.all f)) M):fAll [.lst p] M Q :=
 ⟨xs.map f,by rw [l,List.map_map]; rfl,by rw [List.all_map]; exact h⟩
mutual
noncomputable def Gd (M:Mem):DL.D->Prop
 | .tup xs=>Gds M xs
 | .int i=>i.natAbs < 2 ^ 3000
 | .non=>True
 | .bl _=>True
 | .str _=>True
 | .fz _=>True
 | .lst a=>∃ xs,M a=some (.ls xs)
 | .dct a=>∃ xs,M a=some (.dk xs)
 | _=>False
noncomputable def Gds (M:Mem):List DL.D->Prop
 | []=>True
 | d :: r=>Gd M d/\Gds M r
end
mutual
theorem Gd.ext {M M':Mem} (e:MExt M M'):∀ d,Gd M d->Gd M' d
 | .tup xs,h=>by unfold Gd at h ⊢; exact Gds.ext e xs h
 | .lst a,h=>by unfold Gd at h ⊢; exact let ⟨xs,q⟩:=h; ⟨xs,e _ _ q⟩
 | .dct a,h=>by unfold Gd at h ⊢; exact let ⟨xs,q⟩:=h; ⟨xs,e _ _ q⟩
 | .int i,h=>by unfold Gd at h ⊢; exact h
 | .non,_=>by unfold Gd; trivial
 | .bl _,_=>by unfold Gd; trivial
 | .str _,_=>by unfold Gd; trivial
 | .fz _,_=>by unfold Gd; trivial
 | .ty _,h=>by unfold Gd at h; exact h.elim
 | .ref _,h=>by unfold Gd at h; exact h.elim
 | .exc _ _,h=>by unfold Gd at h; exact h.elim
 | .cls _,h=>by unfold Gd at h; exact h.elim
theorem Gds.ext {M M':Mem} (e:MExt M M'):∀ ds,Gds M ds->Gds M' ds
 | [],_=>by unfold Gds; trivial
 | d :: r,h=>by unfold Gds at h ⊢; exact ⟨Gd.ext e d h.1,Gds.ext e r h.2⟩
end
theorem Gds.mem {M:Mem}:∀ {ds:List DL.D},Gds M ds->∀ d∈ds,Gd M d
 | [],_,_,h=>by cases h
 | x :: r,h,d,hd=>by
  unfold Gds at h
  rcases List.mem_cons.mp hd with rfl | hd
  ·exact h.1
  ·exact Gds.mem h.2 d hd
theorem Gds.of {M:Mem}:∀ {ds:List DL.D},(∀ d∈ds,Gd M d)->Gds M ds
 | [],_=>by unfold Gds; trivial
 | x :: r,h=>by unfold Gds; exact ⟨h x List.mem_cons_self,Gds.of fun d hd=>h d (List.mem_cons_of_mem _ hd)⟩
theorem Gd.tup {M:Mem} {ds:List DL.D} (h:Gd M (.tup ds)):∀ d∈ds,Gd M d:=by unfold Gd at h; exact h.mem
theorem Gd.mk {M:Mem} {ds:List DL.D} (h:∀ d∈ds,Gd M d):Gd M (.tup ds):=by unfold Gd; exact .of h
theorem Gd.ty {M:Mem} {d:DL.D} (h:Gd M d):∃ t,tyD M d=some t:=by
 cases d<;>unfold Gd at h<;>first | exact ⟨_,rfl⟩ | exact h.elim | (obtain ⟨xs,q⟩:=h; simp [tyD,q])
theorem tyD_nt {M:Mem} {d:DL.D} {t:String} (hn:∀ ds,d≠.tup ds) (h:tyD M d=some t):isiT t "tuple"=false:=by
 cases d with
 | tup ds=>exact absurd rfl (hn ds)
 | lst a =>
  simp only [tyD] at h
  split at h<;>cases h
  decide
 | dct a =>
  simp only [tyD] at h
  split at h<;>cases h
  decide
 | _=>first | (cases h; decide) | cases h
theorem int_of_ty {M:Mem} {d:DL.D} (h:tyD M d=some "int"):∃ i,d=.int i:=by
 cases d with
 | int i=>exact ⟨i,rfl⟩
 | lst a=>simp only [tyD] at h; split at h<;>simp at h
 | dct a=>simp only [tyD] at h; split at h<;>simp at h
 | _=>simp [tyD] at h
noncomputable def S_is_whole:DSp:=fun ds M Q _=>∃ d t,ds=[d]/\tyD M d=some t/\Q (.bl (decide (t="int"))) M
noncomputable def C_is_whole:CSs:=.cons (.ret (.and (.bi .isinstance (.cons (.var 0) (.cons (.ty .int) (.nil)))) (.one (.not (.bi .isinstance (.cons (.var 0) (.cons (.ty .bool) (.nil)))))))) (.nil)
theorem vc_is_whole:∀ ds M R E,S_is_whole ds M R E->rSs C_is_whole (ends R E) (startD 1 ds) M:=by
 rintro ds M R E ⟨d,t,rfl,ht,h⟩
 simp [C_is_whole,rSs,rS,rE,rEs,rO,rG,rGs,rI,DL.plain,dSeq,dNext,dBreak,dCont,dDrop,dRet,dRetN,dIfS,dNever,dAsg,dPar,gdName,gdTup,gdCons,gdNil,gdSub,dVar,dC,d2,dNil,dCons,dTup,dLst,dCB,dCall,dCallV,dTest,dAnd,dOr,dNot,dAndV,dOrV,dNotB,dNeg,dIfE,dTru,dChain,dSl,dRev,revOp,dPart,dNoPart,dApp,fInt,dExt,dAug,dTwo,dDic0,dDic1,diSeq,diRng,dFor,dComp,biSem,tyStr,bOp,cOp,bInt,bMul,bAdd,cInt,iOp,sOp,truD,fAbs,fMax,fMin,fStr,fLen,fDivmod,fTuple,fList,fIsi,fAll,fAny,itSeq,itRng,CGs.len,startD,and_assoc,sizeLine_eq,dRaise,dTry,isSub,dIdx,fSum,dIns,ht]
 by_cases h1:t="int"
 ·subst h1; simp [isiT]; exact h
 ·by_cases h2:t="bool"
  ·subst h2; simp [isiT]; exact h
  ·simp [isiT,h1,h2]; simpa [h1] using h
noncomputable def num?:DL.D->Option Rat
 | .tup [.int a,.int b]=>if 1<=b/\Int.gcd a b=1 then some (Rat.divInt a b) else none
 | _=>none
theorem num_two (a b:Int):num? (.tup [.int a,.int b])=if 1<=b/\Int.gcd a b=1 then some (Rat.divInt a b) else none:=rfl
theorem num_nm (q:Rat):num? (nm q)=some q:=by
 unfold nm
 have:=den_pos q
 rw [num_two,if_pos ⟨by omega,gcd_self q⟩,divInt_lowest]
theorem num_eq {d:DL.D} {q:Rat} (h:num? d=some q):d=nm q:=by
 unfold num? at h
 split at h
 ·rename_i a b
  split at h
  ·rename_i hc
   cases h
   obtain ⟨e1,e2⟩:=of_gcd hc.1 hc.2
   unfold nm; rw [e1,e2]
  ·cases h
 ·cases h
noncomputable def isNum (d:DL.D):Bool:=(num? d).isSome
theorem isNum_iff {d:DL.D}:isNum d=true ↔ ∃ q,d=nm q:=by
 unfold isNum
 constructor
 ·intro h; obtain ⟨q,e⟩:=Option.isSome_iff_exists.mp h; exact ⟨q,num_eq e⟩
 ·rintro ⟨q,rfl⟩; rw [num_nm]; rfl
theorem isNum_nm (q:Rat):isNum (nm q)=true:=isNum_iff.mpr ⟨q,rfl⟩
theorem isNum_not {a b:DL.D} (h:(∀ i,a≠.int i)\/∀ i,b≠.int i):isNum (.tup [a,b])=false:=by
 unfold isNum num?
 split
 ·rename_i i j e
  simp at e
  rcases h with h | h
  ·exact absurd e.1 (h i)
  ·exact absurd e.2 (h j)
 ·rfl
theorem Gd.nm {M:Mem} {q:Rat} {n:Nat} (h:Sz n q) (hn:n<=3000):Gd M (nm q):=by
 refine .mk fun d hd=>?_
 have:=h.mono hn
 simp at hd
 rcases hd with rfl | rfl<;>unfold Gd
 ·exact this.1
 ·simpa using this.2
noncomputable def S_is_number:DSp:=fun ds M Q _=>∃ d,ds=[d]/\Gd M d/\Q (.bl (isNum d)) M
noncomputable def C_is_number:CSs:=.cons (.ife (.or (.not (.bi .isinstance (.cons (.var 0) (.cons (.ty .tuple) (.nil))))) (.one (.cmp .NotEq (.bi .len (.cons (.var 0) (.nil))) (.int 2)))) (.cons (.ret (.bl false)) (.nil)) (.nil)) (.cons (.asg (.tup (.cons (.name 1) (.cons (.name 2) (.nil)))) (.var 0)) (.cons (.ife (.or (.not (.call "is_whole" S_is_whole (.cons (.var 1) (.nil)))) (.or (.not (.call "is_whole" S_is_whole (.cons (.var 2) (.nil)))) (.one (.cmp .Lt (.var 2) (.int 1))))) (.cons (.ret (.bl false)) (.nil)) (.nil)) (.cons (.ret (.cmp .Eq (.call "greatest_divisor" S_greatest_divisor (.cons (.var 1) (.cons (.var 2) (.nil)))) (.int 1))) (.nil))))
theorem vc_is_number:∀ ds M R E,S_is_number ds M R E->rSs C_is_number (ends R E) (startD 3 ds) M:=by
 rintro ds M R E ⟨d,rfl,gd,h⟩
 obtain ⟨t,ht⟩:=gd.ty
 by_cases hd:∃ xs,d=.tup xs
 ·obtain ⟨xs,rfl⟩:=hd
  by_cases hl:xs.length=2
  ·obtain ⟨a,b,rfl⟩:∃ a b,xs=[a,b]:=by
    match xs,hl with
    | [a,b],_=>exact ⟨a,b,rfl⟩
   obtain ⟨ta,hta⟩:=(gd.tup a (by simp)).ty
   obtain ⟨tb,htb⟩:=(gd.tup b (by simp)).ty
   unfold C_is_number
   rw [rSs_cons]
   simp [rS,rE,rEs,rO,rG,rGs,rI,DL.plain,dSeq,dNext,dBreak,dCont,dDrop,dRet,dRetN,dIfS,dNever,dAsg,dPar,gdName,gdTup,gdCons,gdNil,gdSub,dVar,dC,d2,dNil,dCons,dTup,dLst,dCB,dCall,dCallV,dTest,dAnd,dOr,dNot,dAndV,dOrV,dNotB,dNeg,dIfE,dTru,dChain,dSl,dRev,revOp,dPart,dNoPart,dApp,fInt,dExt,dAug,dTwo,dDic0,dDic1,biSem,tyStr,bOp,cOp,bInt,bMul,bAdd,cInt,sOp,truD,fAbs,fMax,fMin,fStr,fDivmod,fTuple,fList,fIsi,itSeq,itRng,CGs.len,startD,and_assoc,sizeLine_eq,dRaise,dTry,isSub,rSs_nil,dIdx,fSum,dIns,fLen,tyD,isiT]
   refine eq_int true ?_
   simp
   sleep 1
   rw [rSs_cons]
   sleep 2
   refine ⟨a,ta,rfl,hta,?_⟩
   by_cases h1:ta="int"
   ·subst h1
    obtain ⟨i,rfl⟩:=int_of_ty hta
    simp
    refine ⟨b,tb,rfl,htb,?_⟩
    by_cases h2:tb="int"
    ·subst h2
     obtain ⟨j,rfl⟩:=int_of_ty htb
     simp
     by_cases h3:j < 1
     ·have e:isNum (.tup [.int i,.int j])=false:=by
       unfold isNum; rw [num_two,if_neg (by omega)]; rfl
      simp [h3]; rw [e] at h; exact h
     ·simp [h3]
      sleep 1
      refine ⟨i,j,rfl,?_⟩
      refine eq_int false ?_
      have e:isNum (.tup [.int i,.int j])=(((Int.gcd i j:Nat):Int) == 1):=by
       unfold isNum; rw [num_two]
       by_cases hg:Int.gcd i j=1
       ·rw [if_pos ⟨by omega,hg⟩,hg]; rfl
       ·rw [if_neg (by omega)]
        have:((Int.gcd i j:Nat):Int)≠1:=by omega
        simp [this]
      rw [e] at h; exact h
    ·simp [h2]
     have e:=isNum_not (a:=.int i) (b:=b) (.inr fun j z=>h2 (by subst z; cases htb; rfl))
     rw [e] at h; exact h
   ·simp [h1]
    have e:=isNum_not (a:=a) (b:=b) (.inl fun j z=>h1 (by subst z; cases hta; rfl))
    rw [e] at h; exact h
  ·have e:isNum (.tup xs)=false:=by
    unfold isNum num?; split
    ·rename_i z; cases z; simp at hl
    ·rfl
   rw [e] at h
   unfold C_is_number
   rw [rSs_cons]
   simp [rS,rE,rEs,rO,rG,rGs,rI,DL.plain,dSeq,dNext,dBreak,dCont,dDrop,dRet,dRetN,dIfS,dNever,dAsg,dPar,gdName,gdTup,gdCons,gdNil,gdSub,dVar,dC,d2,dNil,dCons,dTup,dLst,dCB,dCall,dCallV,dTest,dAnd,dOr,dNot,dAndV,dOrV,dNotB,dNeg,dIfE,dTru,dChain,dSl,dRev,revOp,dPart,dNoPart,dApp,fInt,dExt,dAug,dTwo,dDic0,dDic1,biSem,tyStr,bOp,cOp,bInt,bMul,bAdd,cInt,sOp,truD,fAbs,fMax,fMin,fStr,fDivmod,fTuple,fList,fIsi,itSeq,itRng,CGs.len,startD,and_assoc,sizeLine_eq,dRaise,dTry,isSub,rSs_nil,dIdx,fSum,dIns,fLen,tyD,isiT]
   refine eq_int true ?_
   have:¬ ((xs.length:Int)=2):=by omega
   simp [this]; exact h
 ·have hn:∀ ds,d≠.tup ds:=fun ds z=>hd ⟨ds,z⟩
  have e:isNum d=false:=by
   unfold isNum num?; split
   ·exact absurd rfl (hn _)
   ·rfl
  rw [e] at h
  unfold C_is_number
  rw [rSs_cons]
  simp [rS,rE,rEs,rO,rG,rGs,rI,DL.plain,dSeq,dNext,dBreak,dCont,dDrop,dRet,dRetN,dIfS,dNever,dAsg,dPar,gdName,gdTup,gdCons,gdNil,gdSub,dVar,dC,d2,dNil,dCons,dTup,dLst,dCB,dCall,dCallV,dTest,dAnd,dOr,dNot,dAndV,dOrV,dNotB,dNeg,dIfE,dTru,dChain,dSl,dRev,revOp,dPart,dNoPart,dApp,fInt,dExt,dAug,dTwo,dDic0,dDic1,biSem,tyStr,bOp,cOp,bInt,bMul,bAdd,cInt,sOp,truD,fAbs,fMax,fMin,fStr,fDivmod,fTuple,fList,fIsi,itSeq,itRng,CGs.len,startD,and_assoc,sizeLine_eq,dRaise,dTry,isSub,rSs_nil,dIdx,fSum,dIns,ht,tyD_nt hn ht]
  exact h
noncomputable def areNums (l m:Int):DL.D->Bool
 | .tup xs=>decide (l<=xs.length) && decide ((xs.length:Int)<=m) && xs.all isNum
 | _=>false
noncomputable def S_are_numbers:DSp:=fun ds M Q _=>∃ d l m,ds=[d,.int l,.int m]/\m<=1000/\Gd M d/\∀ M',MExt M M'->Q (.bl (areNums l m d)) M'
noncomputable def C_are_numbers:CSs:=.cons (.ife (.or (.not (.bi .isinstance (.cons (.var 0) (.cons (.ty .tuple) (.nil))))) (.one (.not (.chain .LtE .LtE (.var 1) (.bi .len (.cons (.var 0) (.nil))) (.var 2))))) (.cons (.ret (.bl false)) (.nil)) (.nil)) (.cons (.ret (.bi .all (.cons (.comp ["thing","least","most","part"] 1 (.name 3) (.seq (.var 0)) (.call "is_number" S_is_number (.cons (.var 3) (.nil)))) (.nil)))) (.nil))
theorem vc_are_numbers:∀ ds M R E,S_are_numbers ds M R E->rSs C_are_numbers (ends R E) (startD 3 ds) M:=by
 rintro ds M R E ⟨d,l,m,rfl,hm,gd,h⟩
 obtain ⟨t,ht⟩:=gd.ty
 by_cases hd:∃ xs,d=.tup xs
 ·obtain ⟨xs,rfl⟩:=hd
  simp [C_are_numbers,rSs,rS,rE,rEs,rO,rG,rGs,rI,DL.plain,dSeq,dNext,dBreak,dCont,dDrop,dRet,dRetN,dIfS,dNever,dAsg,dPar,gdName,gdTup,gdCons,gdNil,gdSub,dVar,dC,d2,dNil,dCons,dTup,dLst,dCB,dCall,dTest,dAnd,dOr,dNot,dAndV,dOrV,dNotB,dNeg,dIfE,dTru,dChain,dSl,dRev,revOp,dPart,dNoPart,dApp,fInt,dExt,dAug,dTwo,dDic0,dDic1,biSem,tyStr,bOp,cOp,bInt,bMul,bAdd,cInt,iOp,sOp,truD,fAbs,fMax,fMin,fStr,fLen,fDivmod,fTuple,fList,fIsi,itSeq,itRng,CGs.len,startD,and_assoc,sizeLine_eq,dRaise,dTry,isSub,dIdx,fSum,dIns,tyD,isiT]
  by_cases h1:l<=(xs.length:Int)
  ·by_cases h2:(xs.length:Int)<=m
   ·rw [if_pos h1,if_pos h2]
    refine comp_map xs (fun x=>.bl (isNum x)) (ti_tup rfl) (by omega) ?_ ?_
    ·intro x hx l' M' R' hl e r
     obtain ⟨a,rfl⟩:=len1 hl
     ((try dsimp only [rSs,rS,rE,rEs,rO,rG,rGs,rI,DL.plain,dSeq,dNext,dBreak,dCont,dDrop,dRet,dRetN,dIfS,dNever,dAsg,dPar,gdName,gdTup,gdCons,gdNil,gdSub,dVar,dC,d2,dNil,dCons,dTup,dLst,dCB,dCall,dCallV,dTest,dAnd,dOr,dNot,dAndV,dOrV,dNotB,dNeg,dIfE,dTru,dChain,dSl,dRev,revOp,dPart,dNoPart,dApp,fInt,dExt,dAug,dTwo,dDic0,dDic1,diSeq,diRng,dFor,dComp,biSem,tyStr,bOp,cOp,bInt,bMul,bAdd,cInt,iOp,sOp,truD,fAbs,fMax,fMin,fStr,fLen,fDivmod,fTuple,fList,fIsi,fAll,fAny,itSeq,itRng,CGs.len,startD,dRaise,dTry,isSub,dIdx,fSum,dIns]); try simp [rSs,rS,rE,rEs,rO,rG,rGs,rI,DL.plain,dSeq,dNext,dBreak,dCont,dDrop,dRet,dRetN,dIfS,dNever,dAsg,dPar,gdName,gdTup,gdCons,gdNil,gdSub,dVar,dC,d2,dNil,dCons,dTup,dLst,dCB,dCall,dCallV,dTest,dAnd,dOr,dNot,dAndV,dOrV,dNotB,dNeg,dIfE,dTru,dChain,dSl,dRev,revOp,dPart,dNoPart,dApp,fInt,dExt,dAug,dTwo,dDic0,dDic1,diSeq,diRng,dFor,dComp,biSem,tyStr,bOp,cOp,bInt,bMul,bAdd,cInt,iOp,sOp,truD,fAbs,fMax,fMin,fStr,fLen,fDivmod,fTuple,fList,fIsi,fAll,fAny,itSeq,itRng,CGs.len,startD,and_assoc,sizeLine_eq,dRaise,dTry,isSub,dIdx,fSum,dIns])
     exact ⟨x,rfl,(gd.tup x hx).ext e,r [some x] M' rfl (.refl _)⟩
    ·intro p M' hp e l'
     refine all_of l' ?_
     have:=h M' e
     simpa [areNums,h1,h2] using this
   ·rw [if_pos h1,if_neg h2]
    have:=h M (.refl M)
    simpa [areNums,h2] using this
  ·rw [if_neg h1]
   have:=h M (.refl M)
   simpa [areNums,h1] using this
 ·have hn:∀ ds,d≠.tup ds:=fun ds z=>hd ⟨ds,z⟩
  have e:areNums l m d=false:=by
   unfold areNums; split
   ·exact absurd rfl (hn _)
   ·rfl
  rw [e] at h
  simp [C_are_numbers,rSs,rS,rE,rEs,rO,rG,rGs,rI,DL.plain,dSeq,dNext,dBreak,dCont,dDrop,dRet,dRetN,dIfS,dNever,dAsg,dPar,gdName,gdTup,gdCons,gdNil,gdSub,dVar,dC,d2,dNil,dCons,dTup,dLst,dCB,dCall,dCallV,dTest,dAnd,dOr,dNot,dAndV,dOrV,dNotB,dNeg,dIfE,dTru,dChain,dSl,dRev,revOp,dPart,dNoPart,dApp,fInt,dExt,dAug,dTwo,dDic0,dDic1,diSeq,diRng,dFor,dComp,biSem,tyStr,bOp,cOp,bInt,bMul,bAdd,cInt,iOp,sOp,truD,fAbs,fMax,fMin,fStr,fLen,fDivmod,fTuple,fList,fIsi,fAll,fAny,itSeq,itRng,CGs.len,startD,and_assoc,sizeLine_eq,dRaise,dTry,isSub,dIdx,fSum,dIns,ht,tyD_nt hn ht]
  exact h M (.refl M)
end K
end
noncomputable section
namespace K
open PySem DL Q
structure EqEnc {α:Type} [DecidableEq α] (e:α->DL.D) (k:Nat):Prop where
 ex:∃ e':α->PyData,(∀ M a,Py M (e a) (e' a))/\(∀ a b,PyData.eqv (e' a) (e' b)=decide (a=b))/\∀ a,(e' a).depth<=k
theorem EqEnc.eq {α:Type} [DecidableEq α] {e:α->DL.D} {k:Nat} (h:EqEnc e k) (hk:k<=60) {M:Mem} {Q:DK} {a b:α} (neg:Bool) (q:Q (.bl (if neg then !decide (a=b) else decide (a=b))) M):cEq neg (e a) (e b) M Q:=by
 obtain ⟨e',h1,h2,h3⟩:=h.ex
 refine cEq_of (h1 M a) (h1 M b) ?_ (by rw [h2]; exact q)
 have:=h3 a; omega
theorem enc_nm:EqEnc nm 3:=by
 refine ⟨fun q=>.tuple [.int q.num,.int q.den],fun M q=>.tup (.cons (.int _) (.cons (.int _) .nil)),fun p q=>?_,fun q=>by simp [PyData.depth,PyData.depthAll]⟩
 simp only [PyData.eqv,PyData.eqvAll]
 by_cases h:p=q
 ·subst h; simp
 ·have:¬ (p.num=q.num/\(p.den:Int)=q.den):=fun ⟨a,b⟩=>h (Rat.ext a (by omega))
  simp only [h,decide_false]
  rw [Bool.eq_false_iff]
  intro z
  simp at z
  exact this ⟨z.1,by omega⟩
theorem depth_all {k:Nat}:∀ {l:List PyData},(∀ x∈l,x.depth<=k)->PyData.depthAll l<=k
 | [],_=>by simp [PyData.depthAll]
 | x :: r,h=>by
  have a:=h x List.mem_cons_self
  have b:=depth_all fun y hy=>h y (List.mem_cons_of_mem _ hy)
  simp only [PyData.depthAll]; omega
theorem pys_of {α:Type} {e:α->DL.D} {e':α->PyData} {M:Mem} (h:∀ a,Py M (e a) (e' a)):∀ l:List α,Pys M (l.map e) (l.map e')
 | []=>.nil
 | a :: r=>.cons (h a) (pys_of h r)
theorem eqv_all {α:Type} [DecidableEq α] {e':α->PyData} (h:∀ a b,PyData.eqv (e' a) (e' b)=decide (a=b)):∀ l m:List α,PyData.eqvAll (l.map e') (m.map e')=decide (l=m)
 | [],[]=>by simp [PyData.eqvAll]
 | [],_ :: _=>by simp [PyData.eqvAll]
 | _ :: _,[]=>by simp [PyData.eqvAll]
 | a :: l,b :: m=>by
  simp only [List.map_cons,PyData.eqvAll,h,eqv_all h l m,List.cons.injEq]
  by_cases h1:a=b<;>by_cases h2:l=m<;>simp [h1,h2]
theorem EqEnc.tup {α:Type} [DecidableEq α] {e:α->DL.D} {k:Nat} (h:EqEnc e k):EqEnc (fun l:List α=>.tup (l.map e)) (k + 1):=by
 obtain ⟨e',h1,h2,h3⟩:=h.ex
 refine ⟨fun l=>.tuple (l.map e'),fun M l=>.tup (pys_of (h1 M) l),fun a b=>by simp only [PyData.eqv]; exact eqv_all h2 a b,fun l=>?_⟩
 simp only [PyData.depth]
 have:=depth_all (k:=k) (l:=l.map e') (by simp; exact fun a _=>h3 a)
 omega
noncomputable def rw (r:List Rat):DL.D:=.tup (r.map nm)
noncomputable def pl (p:Rat×Rat):DL.D:=.tup [nm p.1,nm p.2]
noncomputable def tb (t:List (Rat×Rat)):DL.D:=.tup (t.map pl)
theorem enc_rw:EqEnc rw 4:=enc_nm.tup
theorem eq_rw {M:Mem} {Q:DK} {a b:List Rat} (neg:Bool) (q:Q (.bl (if neg then !decide (a=b) else decide (a=b))) M):cEq neg (rw a) (rw b) M Q:=enc_rw.eq (by decide) neg q
noncomputable abbrev G_MOST_PLACES:DL.D:=.int 25
end K
end
noncomputable section
namespace K
open PySem DL Q
noncomputable def Sq (M:Mem) (d:DL.D) (xs:List DL.D):Prop:=d=.tup xs\/d=.fz xs\/∃ a,d=.lst a/\M a=some (.ls xs)
theorem Sq.ix {M:Mem} {d:DL.D} {xs:List DL.D} {Q:DK} {i:Int} {v:DL.D} (h:Sq M d xs) (e:L2.atI xs i=some v) (q:Q v M):iOp d (.int i) M Q:=by
 rcases h with rfl | rfl | ⟨a,rfl,l⟩
 ·exact ⟨v,e,q⟩
 ·exact ⟨v,e,q⟩
 ·exact ⟨xs,v,l,e,q⟩
theorem Sq.len {M:Mem} {d:DL.D} {xs:List DL.D} {Q:DK} (h:Sq M d xs) (q:Q (.int xs.length) M):fLen [d] M Q:=by
 rcases h with rfl | rfl | ⟨a,rfl,l⟩
 ·exact q
 ·exact q
 ·exact ⟨xs,l,q⟩
theorem at_nat {α:Type} {xs:List α} {i:Nat} {v:α} (h:xs[i]?=some v):L2.atI xs (i:Int)=some v:=L2.atI_nat h
noncomputable def lo (t:List (Rat×Rat)) (i:Nat):Rat:=(t.getD i (0,0)).1
noncomputable def hi (t:List (Rat×Rat)) (i:Nat):Rat:=(t.getD i (0,0)).2
theorem tix {xs:List DL.D} {i:Int} {v:DL.D} {M:Mem} {Q:DK} (e:L2.atI xs i=some v) (q:Q v M):iOp (.tup xs) (.int i) M Q:=⟨v,e,q⟩
theorem pl0 {p:Rat×Rat} {M:Mem} {Q:DK} (q:Q (nm p.1) M):iOp (pl p) (.int 0) M Q:=⟨_,at_zero _ _,q⟩
theorem pl1 {p:Rat×Rat} {M:Mem} {Q:DK} (q:Q (nm p.2) M):iOp (pl p) (.int 1) M Q:=⟨_,at_one _ _ _,q⟩
end K
end
noncomputable section
namespace K
open PySem DL Q
noncomputable def ri (r:List Rat) (i:Nat):Rat:=r.getD i 0
theorem ri_mem {r:List Rat} {i:Nat} (h:i < r.length):ri r i∈r:=by
 simp only [ri,List.getD,List.getElem?_eq_getElem h,Option.getD_some]; exact List.getElem_mem h
theorem rw_at {r:List Rat} {i:Nat} (h:i < r.length):(r.map nm)[i]?=some (nm (ri r i)):=by
 simp [ri,List.getD,h]
end K
end
noncomputable section
namespace K
open PySem DL Q
noncomputable def Pk (M:Mem) (a:Addr):Prop:=∃ v:Int,M a=some (.ls [.int v])
structure Dr (a:Addr) (M M':Mem):Prop where
 pk:Pk M' a
 keep:∀ b o,b≠a->M b=some o->M' b=some o
theorem Dr.take {a:Addr} {M:Mem} {v:Int}:Dr a M (M.upd a (.ls [.int v])):=⟨⟨v,mupd_same⟩,fun b o h e=>by rw [mupd_ne h]; exact e⟩
theorem Pk.ext {a:Addr} {M M':Mem} (p:Pk M a) (e:MExt M M'):Pk M' a:=by obtain ⟨v,h⟩:=p; exact ⟨v,e _ _ h⟩
theorem Dr.ext {a:Addr} {M M':Mem} (p:Pk M a) (e:MExt M M'):Dr a M M':=⟨p.ext e,fun b o _ h=>e b o h⟩
theorem Dr.trans {a:Addr} {M M1 M2:Mem} (x:Dr a M M1) (y:Dr a M1 M2):Dr a M M2:=⟨y.pk,fun b o h e=>y.keep b o h (x.keep b o h e)⟩
theorem Pk.ne {a p:Addr} {M:Mem} (k:Pk M a) (h:M p=none):p≠a:=fun z=>by obtain ⟨v,e⟩:=k; rw [z,e] at h; cases h
theorem Dr.upd_new {a p:Addr} {M M':Mem} {o:MO} (x:Dr a M M') (h:M p=none) (hp:p≠a):Dr a M (M'.upd p o):=by
 obtain ⟨v,e⟩:=x.pk
 refine ⟨⟨v,by rw [mupd_ne hp.symm]; exact e⟩,fun b u hb e'=>?_⟩
 have:b≠p:=fun z=>by rw [z,h] at e'; cases e'
 rw [mupd_ne this]; exact x.keep b u hb e'
theorem lt8000 {n:Nat} (h:n < 2 ^ 200):n < 2 ^ 8000:=Nat.lt_of_lt_of_le h (pow_le (by decide))
theorem take_ok {a:Addr} {n:Int} {M:Mem} {Q E:DK} (p:Pk M a) (hn:0 < n) (hn2:n.natAbs < 2 ^ 200) (q:∀ (r:Int) M',0<=r->r < n->Dr a M M'->Q (.int r) M'):S_law_take [.lst a,.int n] M Q E:=by
 obtain ⟨v,h⟩:=p
 exact ⟨a,n,v,rfl,h,hn,lt8000 hn2,fun r v' h0 h1=>q r _ h0 h1 .take⟩
theorem lst_ix {M:Mem} {p:Addr} {xs:List DL.D} {Q:DK} {i:Int} {v:DL.D} (l:M p=some (.ls xs)) (e:L2.atI xs i=some v) (q:Q v M):iOp (.lst p) (.int i) M Q:=⟨xs,v,l,e,q⟩
theorem atI_lt {α:Type} {xs:List α} {r:Int} (h0:0<=r) (h1:r < xs.length):∃ v,v∈xs/\L2.atI xs r=some v:=by
 obtain ⟨n,rfl⟩:=Int.eq_ofNat_of_zero_le h0
 have hn:n < xs.length:=by omega
 exact ⟨xs[n],List.getElem_mem hn,at_nat (List.getElem?_eq_getElem hn)⟩
structure Box (t:List (Rat×Rat)) (k:Nat):Prop where
 ok:∀ p∈t,p.1<=p.2
 lo:∀ p∈t,Sz k p.1
 hi:∀ p∈t,Sz k p.2
noncomputable def LT (M:Mem) (a p:Addr) (m w:Int) (i:Nat) (δ:DSt) (M':Mem):Prop :=
 ∃ (z:Int) (t:List (Rat×Rat)) (w5:Option DL.D),Dr a M M'/\M' p=some (.ls (t.map pl))/\t.length=i/\z.natAbs<=3 * i/\Box t 24/\δ=[some (.lst a),some (.int m),some (.int w),some (nm (z:Rat)),some (.lst p),w5]
end K
end
noncomputable section
namespace K
open PySem DL Q
noncomputable def stepsOf (r:List Rat):List Rat:=(List.range (r.length - 1)).map fun i=>ri r (i + 1) - ri r i
theorem rw_ix {r:List Rat} {i:Nat} {M:Mem} {Q:DK} (h:i < r.length) (q:Q (nm (ri r i)) M):iOp (rw r) (.int i) M Q:=Sq.ix (.inl rfl) (at_nat (rw_at h)) q
theorem rw_len {r:List Rat} {M:Mem} {Q:DK} (q:Q (.int r.length) M):fLen [rw r] M Q:=Sq.len (.inl rfl) (by simpa using q)
end K
end
noncomputable section
namespace K
open PySem DL Q
theorem rng_small (n:Nat) (h:n<=100):Builtin.Range.small 0 (n:Int) 2=true/\0<=Builtin.Range.rangeSize 0 (n:Int) 2/\rngN 0 (n:Int) 2<=n:=by
 have key:∀ m:_root_.Fin 101,Builtin.Range.small 0 ((m.val:Nat):Int) 2=true/\0<=Builtin.Range.rangeSize 0 ((m.val:Nat):Int) 2/\rngN 0 ((m.val:Nat):Int) 2<=m.val:=by decide +kernel
 exact key ⟨n,by omega⟩
theorem law_top (c:Int) (n:Nat) (h1:1<=c) (h2:c<=100):∃ z:Nat,z<=100/\(z:Int)<=c/\(if (1:Int) < (if c < (n:Int) then c else (n:Int)) then (if c < (n:Int) then c else (n:Int)) else 1)=(z:Int):=by
 by_cases a:c < (n:Int)
 ·rw [if_pos a]
  by_cases b:1 < c
  ·rw [if_pos b]; exact ⟨c.toNat,by omega,by omega,by omega⟩
  ·rw [if_neg b]; exact ⟨1,by omega,by omega,by omega⟩
 ·rw [if_neg a]
  by_cases b:(1:Int) < n
  ·rw [if_pos b]; exact ⟨n,by omega,by omega,rfl⟩
  ·rw [if_neg b]; exact ⟨1,by omega,by omega,by omega⟩
end K
end
noncomputable section
namespace K
open PySem DL Q
structure Kp (M M':Mem):Prop where
 ls:∀ b xs,M b=some (.ls xs)->∃ ys,M' b=some (.ls ys)
 dk:∀ b xs,M b=some (.dk xs)->∃ ys,M' b=some (.dk ys)
theorem MExt.kp {M M':Mem} (e:MExt M M'):Kp M M':=⟨fun b xs h=>⟨xs,e _ _ h⟩,fun b xs h=>⟨xs,e _ _ h⟩⟩
theorem Dr.kp {a:Addr} {M M':Mem} (p:Pk M a) (y:Dr a M M'):Kp M M':=by
 obtain ⟨v,hv⟩:=p
 obtain ⟨v',hv'⟩:=y.pk
 refine ⟨fun b xs h=>?_,fun b xs h=>?_⟩
 ·by_cases hb:b=a
  ·subst hb; exact ⟨_,hv'⟩
  ·exact ⟨_,y.keep _ _ hb h⟩
 ·refine ⟨_,y.keep _ _ (fun hb=>?_) h⟩
  subst hb; rw [hv] at h; cases h
mutual
theorem Gd.kp {M M':Mem} (e:Kp M M'):∀ d,Gd M d->Gd M' d
 | .tup xs,h=>by unfold Gd at h ⊢; exact Gds.kp e xs h
 | .lst a,h=>by unfold Gd at h ⊢; obtain ⟨xs,q⟩:=h; exact e.ls _ _ q
 | .dct a,h=>by unfold Gd at h ⊢; obtain ⟨xs,q⟩:=h; exact e.dk _ _ q
 | .int i,h=>by unfold Gd at h ⊢; exact h
 | .non,_=>by unfold Gd; trivial
 | .bl _,_=>by unfold Gd; trivial
 | .str _,_=>by unfold Gd; trivial
 | .fz _,_=>by unfold Gd; trivial
 | .ty _,h=>by unfold Gd at h; exact h.elim
 | .ref _,h=>by unfold Gd at h; exact h.elim
 | .exc _ _,h=>by unfold Gd at h; exact h.elim
 | .cls _,h=>by unfold Gd at h; exact h.elim
theorem Gds.kp {M M':Mem} (e:Kp M M'):∀ ds,Gds M ds->Gds M' ds
 | [],_=>by unfold Gds; trivial
 | d :: r,h=>by unfold Gds at h ⊢; exact ⟨Gd.kp e d h.1,Gds.kp e r h.2⟩
end
theorem log2_lt {x k:Nat} (h:x < 2 ^ k):x.log2<=k:=by
 by_cases hx:x=0
 ·subst hx; simp
 ·exact Nat.le_of_lt ((Nat.log2_lt hx).mpr h)
theorem gi {M:Mem} {i:Int} (h:i.natAbs < 2 ^ 3000):Gd M (.int i):=by unfold Gd; exact h
theorem gl {M:Mem} {p:Addr} {xs:List DL.D} (h:M p=some (.ls xs)):Gd M (.lst p):=by unfold Gd; exact ⟨_,h⟩
theorem gdk {M:Mem} {p:Addr} {xs} (h:M p=some (.dk xs)):Gd M (.dct p):=by unfold Gd; exact ⟨_,h⟩
theorem gn {M:Mem}:Gd M .non:=by unfold Gd; trivial
theorem gbl {M:Mem} {b:Bool}:Gd M (.bl b):=by unfold Gd; trivial
theorem gs {M:Mem} {x:Str}:Gd M (.str x):=by unfold Gd; trivial
theorem gt0 {M:Mem}:Gd M (.tup []):=.mk nofun
theorem gtc {M:Mem} {d:DL.D} {r:List DL.D} (h:Gd M d) (hr:Gd M (.tup r)):Gd M (.tup (d :: r)):=.mk fun e he=>by
 rcases List.mem_cons.mp he with rfl | he
 ·exact h
 ·exact hr.tup e he
theorem gsm {M:Mem} {i:Int} (h:i.natAbs < 1000):Gd M (.int i):=gi (Nat.lt_of_lt_of_le (show i.natAbs < 2 ^ 10 by omega) (pow_le (by decide)))
theorem atI_in {M:Mem} {p:Addr} {xs:List DL.D} {r:Int} (_:M p=some (.ls xs)) (h0:0<=r) (h1:r < xs.length):∃ v,v∈xs/\L2.atI xs r=some v:=atI_lt h0 h1
theorem Kp.upd {M:Mem} {q:Addr} {xs ys:List DL.D} (h:M q=some (.ls xs)):Kp M (M.upd q (.ls ys)):=by
 refine ⟨fun b zs e=>?_,fun b zs e=>?_⟩
 ·by_cases hb:b=q
  ·subst hb; exact ⟨_,mupd_same⟩
  ·exact ⟨zs,by rw [mupd_ne hb]; exact e⟩
 ·refine ⟨zs,?_⟩
  rw [mupd_ne]; exact e
  intro hb; subst hb; rw [h] at e; cases e
theorem gnm {M:Mem} {q:Rat} {k:Nat} (h:Sz k q) (hk:k<=3000:=by decide):Gd M (nm q):=.nm h hk
end K
end
noncomputable section
namespace K
open PySem DL Q
theorem areNums_rw {l m:Int} {r:List Rat} (h1:l<=r.length) (h2:(r.length:Int)<=m):areNums l m (rw r)=true:=by
 unfold areNums rw
 simp only [List.length_map,Bool.and_eq_true,decide_eq_true_eq]
 refine ⟨⟨h1,h2⟩,?_⟩
 rw [List.all_eq_true]
 intro x hx
 obtain ⟨q,_,rfl⟩:=List.mem_map.mp hx
 exact isNum_nm q
theorem gd_rw {M:Mem} {r:List Rat} {k:Nat} (h:∀ x∈r,Sz k x) (hk:k<=2900):Gd M (rw r):=.mk fun d hd=>by
 obtain ⟨q,hq,rfl⟩:=List.mem_map.mp hd
 exact .nm (h q hq) (by omega)
noncomputable def S_are_steps:DSp:=fun ds M Q E=>∃ d,ds=[d]/\Gd M d/\∀ M',MExt M M'->Q (.bl (areNums 1 24 d)) M'
noncomputable def C_are_steps:CSs:=.cons (.ret (.call "are_numbers" S_are_numbers (.cons (.var 0) (.cons (.int 1) (.cons (.bin .Sub (.glo "MOST_PLACES" G_MOST_PLACES) (.int 1)) (.nil)))))) (.nil)
theorem vc_are_steps:∀ ds M R E,S_are_steps ds M R E->rSs C_are_steps (ends R E) (startD 1 ds) M:=by
 rintro ds M R E ⟨d,rfl,g,q⟩
 unfold C_are_steps
 sleep 1
 exact ⟨d,1,24,rfl,by decide,g,q⟩
noncomputable def S_want_steps:DSp:=fun ds M Q E=>∃ d,ds=[d]/\Gd M d/\∀ M',MExt M M'->if areNums 1 24 d=true then Q .non M' else E (.exc "NoRow" .non) M'
noncomputable def C_want_steps:CSs:=.cons (.ife (.not (.call "are_steps" S_are_steps (.cons (.var 0) (.nil)))) (.cons (.rse "NoRow" (.cons (.str "these are no steps") (.nil))) (.nil)) (.nil)) (.nil)
theorem vc_want_steps:∀ ds M R E,S_want_steps ds M R E->rSs C_want_steps (ends R E) (startD 1 ds) M:=by
 rintro ds M R E ⟨d,rfl,g,q⟩
 unfold C_want_steps
 sleep 1
 refine ⟨d,rfl,g,fun M1 x1=>?_⟩
 have:=q M1 x1
 cases h:areNums 1 24 d with
 | true=>rw [h,if_pos rfl] at this; simpa using this
 | false =>
  rw [h,if_neg (by decide)] at this
  simp
  sleep 1
  exact this
noncomputable def S_differences:DSp:=fun ds M Q E=>∃ r k,ds=[rw r]/\(∀ x∈r,Sz k x)/\k<=3900/\1<=r.length/\r.length<=100/\∀ M',MExt M M'->Q (rw (stepsOf r)) M'
noncomputable def C_differences:CSs:=.cons (.ret (.bi .tuple (.cons (.comp ["row","at"] 1 (.name 1) (.rng (.cons (.int 1) (.cons (.bi .len (.cons (.var 0) (.nil))) (.nil)))) (.call "taken" S_taken (.cons (.ix (.var 0) (.var 1)) (.cons (.ix (.var 0) (.bin .Sub (.var 1) (.int 1))) (.nil))))) (.nil)))) (.nil)
theorem vc_differences:∀ ds M R E,S_differences ds M R E->rSs C_differences (ends R E) (startD 1 ds) M:=by
 rintro ds M R E ⟨r,k,rfl,sz,hk,h1,h2,q⟩
 unfold C_differences
 sleep 1
 refine comp_mapG (List.range (r.length - 1)) (fun i=>.int (1 + (i:Int))) (fun i=>nm (ri r (i + 1) - ri r i)) ?_ (by simp; omega) ?_ ?_
 ·intro R' r'
  simp [rS,rE,rEs,rO,rG,rGs,rI,DL.plain,dSeq,dNext,dBreak,dCont,dDrop,dRet,dRetN,dIfS,dNever,dAsg,dPar,gdName,gdTup,gdCons,gdNil,gdSub,dVar,dC,d2,dNil,dCons,dTup,dLst,dCB,dCall,dCallV,dTest,dAnd,dOr,dNot,dAndV,dOrV,dNotB,dNeg,dIfE,dTru,dChain,dSl,dRev,revOp,dPart,dNoPart,dApp,fInt,dExt,dAug,dTwo,dDic0,dDic1,biSem,tyStr,bOp,cOp,bInt,bMul,bAdd,cInt,sOp,truD,fAbs,fMax,fMin,fStr,fDivmod,fTuple,fList,fIsi,itSeq,itRng,CGs.len,startD,and_assoc,sizeLine_eq,dRaise,dTry,isSub,rSs_nil,dIdx,fSum,dIns,diRng]
  refine rw_len ?_
  have e:rngD 1 1 (r.length - 1)=(List.range (r.length - 1)).map fun i=>.int (1 + (i:Int)):=by
   unfold rngD
   simp
  refine ⟨by omega,by omega,?_⟩
  (try refine ⟨by omega,by omega,?_⟩)
  rw [show ((r.length:Int) - 1).toNat=r.length - 1 by omega,e]
  exact r' _ fun _ _=>trivial
 ·intro i hi' l M' R' hl e r'
  obtain ⟨a,rfl⟩:=len1 hl
  have hi2:i < r.length - 1:=by simpa using hi'
  sleep 2
  rw [show (1:Int) + (i:Int)=((i + 1:Nat):Int) by omega]
  refine rw_ix (i:=i + 1) (by omega) ?_
  rw [show ((i + 1:Nat):Int) - 1=(i:Int) by omega]
  refine rw_ix (i:=i) (by omega) ?_
  refine ⟨_,_,rfl,.mk (sz _ (ri_mem (by omega))) (sz _ (ri_mem (by omega))) (by omega),?_⟩
  exact r' [_] M' rfl (.refl _)
 ·intro p M' hp e l
  refine ⟨_,l,?_⟩
  have:=q M' e
  simpa [rw,stepsOf,Function.comp_def] using this
noncomputable def S_steps:DSp:=fun ds M Q E=>∃ d,ds=[d]/\Gd M d/\(areNums 2 25 d=false/\(∀ M',MExt M M'->E (.exc "NoRow" .non) M')\/∃ r k,d=rw r/\(∀ x∈r,Sz k x)/\k<=3900/\2<=r.length/\r.length<=25/\∀ M',MExt M M'->Q (rw (stepsOf r)) M')
noncomputable def C_steps:CSs:=.cons (.ife (.not (.call "are_numbers" S_are_numbers (.cons (.var 0) (.cons (.int 2) (.cons (.glo "MOST_PLACES" G_MOST_PLACES) (.nil)))))) (.cons (.rse "NoRow" (.cons (.str "this is no row") (.nil))) (.nil)) (.nil)) (.cons (.ret (.call "differences" S_differences (.cons (.var 0) (.nil)))) (.nil))
theorem vc_steps:∀ ds M R E,S_steps ds M R E->rSs C_steps (ends R E) (startD 1 ds) M:=by
 rintro ds M R E ⟨d,rfl,g,h⟩
 unfold C_steps
 sleep 1
 refine ⟨d,2,25,rfl,by decide,g,fun M1 x1=>?_⟩
 rcases h with ⟨h,q⟩ | ⟨r,k,rfl,sz,hk,h1,h2,q⟩
 ·rw [h]
  simp
  sleep 1
  exact q M1 x1
 ·rw [areNums_rw (by omega) (by omega)]
  simp
  sleep 1
  exact ⟨r,k,rfl,sz,hk,by omega,by omega,fun M2 x2=>q M2 (x1.trans x2)⟩
end K
end
noncomputable section
namespace K
open PySem DL Q
section
variable {M:Mem} {Q:DK} {r s:List Rat} {t u:List (Rat×Rat)} {p:Rat×Rat} {q:Rat} {xs ys:List DL.D} {lo hi:Option Int} {i j k:Int} {a b:Addr} {d:DL.D}
@[simp] theorem l_tup1:D.tup [nm q]=rw [q]:=rfl
@[simp] theorem l_tupp {x y:Rat}:D.tup [nm x,nm y]=pl (x,y):=rfl
@[simp] theorem l_tub1:D.tup [pl p]=tb [p]:=rfl
@[simp] theorem l_put:D.tup (r.map nm++nm q :: s.map nm)=rw (r++q :: s):=by unfold rw; simp
@[simp] theorem l_putB:D.tup (t.map pl++pl p :: u.map pl)=tb (t++p :: u):=by unfold tb; simp
@[simp] theorem l_addI:bAdd (.int i) (.int j) M Q=Q (.int (i + j)) M:=rfl
@[simp] theorem l_addT:bAdd (.tup xs) (.tup ys) M Q=(xs.length + ys.length<=sizeLine/\Q (.tup (xs++ys)) M):=rfl
@[simp] theorem l_addL:bAdd (.lst a) (.lst b) M Q=(∃ xs ys,M a=some (.ls xs)/\M b=some (.ls ys)/\xs.length + ys.length<=sizeLine/\DL.alloc M (.ls (xs++ys)) fun p M'=>Q (.lst p) M'):=rfl
@[simp] theorem l_addR:bAdd (rw r) (rw s) M Q=(r.length + s.length<=sizeLine/\Q (rw (r++s)) M):=by
 show ((r.map nm).length + (s.map nm).length<=sizeLine/\Q (.tup (r.map nm++s.map nm)) M)=_
 rw [List.length_map,List.length_map,<- List.map_append]; rfl
@[simp] theorem l_addB:bAdd (tb t) (tb u) M Q=(t.length + u.length<=sizeLine/\Q (tb (t++u)) M):=by
 show ((t.map pl).length + (u.map pl).length<=sizeLine/\Q (.tup (t.map pl++u.map pl)) M)=_
 rw [List.length_map,List.length_map,<- List.map_append]; rfl
@[simp] theorem l_addRT:bAdd (rw r) (.tup ys) M Q=(r.length + ys.length<=sizeLine/\Q (.tup (r.map nm++ys)) M):=by
 show ((r.map nm).length + ys.length<=sizeLine/\Q (.tup (r.map nm++ys)) M)=_
 rw [List.length_map]
@[simp] theorem l_addTR:bAdd (.tup ys) (rw r) M Q=(ys.length + r.length<=sizeLine/\Q (.tup (ys++r.map nm)) M):=by
 show (ys.length + (r.map nm).length<=sizeLine/\Q (.tup (ys++r.map nm)) M)=_
 rw [List.length_map]
@[simp] theorem l_addBT:bAdd (tb t) (.tup ys) M Q=(t.length + ys.length<=sizeLine/\Q (.tup (t.map pl++ys)) M):=by
 show ((t.map pl).length + ys.length<=sizeLine/\Q (.tup (t.map pl++ys)) M)=_
 rw [List.length_map]
@[simp] theorem l_addTB:bAdd (.tup ys) (tb t) M Q=(ys.length + t.length<=sizeLine/\Q (.tup (ys++t.map pl)) M):=by
 show (ys.length + (t.map pl).length<=sizeLine/\Q (.tup (ys++t.map pl)) M)=_
 rw [List.length_map]
@[simp] theorem l_mulI:bMul (.int i) (.int j) M Q=(IntMulOk i j/\Q (.int (i * j)) M):=rfl
@[simp] theorem l_mulT:bMul (.tup xs) (.int k) M Q=(0<=k/\k < 1000000/\xs.length * k.toNat<=sizeLine/\Q (.tup (List.replicate k.toNat xs).flatten) M):=rfl
@[simp] theorem l_mulL:bMul (.lst a) (.int k) M Q=(∃ xs,M a=some (.ls xs)/\0<=k/\k < 1000000/\xs.length * k.toNat<=sizeLine/\DL.alloc M (.ls (List.replicate k.toNat xs).flatten) fun p M'=>Q (.lst p) M'):=rfl
theorem map_flat {α β:Type} (f:α->β) (n:Nat) (r:List α):(List.replicate n (r.map f)).flatten=((List.replicate n r).flatten).map f:=by
 induction n with
 | zero=>rfl
 | succ n ih=>rw [List.replicate_succ,List.replicate_succ,List.flatten_cons,List.flatten_cons,ih,List.map_append]
@[simp] theorem l_mulR:bMul (rw r) (.int k) M Q=(0<=k/\k < 1000000/\r.length * k.toNat<=sizeLine/\Q (rw (List.replicate k.toNat r).flatten) M):=by
 show (0<=k/\k < 1000000/\(r.map nm).length * k.toNat<=sizeLine/\Q (.tup (List.replicate k.toNat (r.map nm)).flatten) M)=_
 rw [List.length_map,map_flat]; rfl
@[simp] theorem l_mulB:bMul (tb t) (.int k) M Q=(0<=k/\k < 1000000/\t.length * k.toNat<=sizeLine/\Q (tb (List.replicate k.toNat t).flatten) M):=by
 show (0<=k/\k < 1000000/\(t.map pl).length * k.toNat<=sizeLine/\Q (.tup (List.replicate k.toNat (t.map pl)).flatten) M)=_
 rw [List.length_map,map_flat]; rfl
theorem cut_map {α β:Type} (f:α->β) (xs:List α) (lo hi:Option Int):cutG (xs.map f) lo hi=(cutG xs lo hi).map f:=by
 unfold cutG; simp [List.map_take,List.map_drop]
@[simp] theorem l_slF:sOp (.fz xs) lo hi M Q=DL.alloc M (.ls (cutG xs lo hi)) fun p M'=>Q (.lst p) M':=rfl
@[simp] theorem l_slL:sOp (.lst a) lo hi M Q=(∃ xs,M a=some (.ls xs)/\DL.alloc M (.ls (cutG xs lo hi)) fun p M'=>Q (.lst p) M'):=rfl
@[simp] theorem l_slT:sOp (.tup xs) lo hi M Q=Q (.tup (cutG xs lo hi)) M:=rfl
@[simp] theorem l_slR:sOp (rw r) lo hi M Q=Q (rw (cutG r lo hi)) M:=by
 show Q (.tup (cutG (r.map nm) lo hi)) M=_
 rw [cut_map]; rfl
@[simp] theorem l_slB:sOp (tb t) lo hi M Q=Q (tb (cutG t lo hi)) M:=by
 show Q (.tup (cutG (t.map pl) lo hi)) M=_
 rw [cut_map]; rfl
@[simp] theorem l_reT:revOp (.tup xs) (some (-1)) M Q=Q (.tup xs.reverse) M:=by unfold revOp; simp
@[simp] theorem l_reR:revOp (rw r) (some (-1)) M Q=Q (rw r.reverse) M:=by
 unfold revOp; rw [show rw r=.tup (r.map nm) from rfl]; simp [rw]
@[simp] theorem l_reB:revOp (tb t) (some (-1)) M Q=Q (tb t.reverse) M:=by
 unfold revOp; rw [show tb t=.tup (t.map pl) from rfl]; simp [tb]
@[simp] theorem l_lenT:fLen [.tup xs] M Q=Q (.int xs.length) M:=rfl
@[simp] theorem l_lenF:fLen [.fz xs] M Q=Q (.int xs.length) M:=rfl
@[simp] theorem l_lenL:fLen [.lst a] M Q=(∃ xs,M a=some (.ls xs)/\Q (.int xs.length) M):=rfl
@[simp] theorem l_lenR:fLen [rw r] M Q=Q (.int r.length) M:=by
 show Q (.int (r.map nm).length) M=_
 rw [List.length_map]
@[simp] theorem l_lenB:fLen [tb t] M Q=Q (.int t.length) M:=by
 show Q (.int (t.map pl).length) M=_
 rw [List.length_map]
@[simp] theorem l_tuT:fTuple [.tup xs] M Q=Q (.tup xs) M:=rfl
@[simp] theorem l_tuF:fTuple [.fz xs] M Q=Q (.tup xs) M:=rfl
@[simp] theorem l_tuL:fTuple [.lst a] M Q=(∃ xs,M a=some (.ls xs)/\Q (.tup xs) M):=rfl
@[simp] theorem l_tuR:fTuple [rw r] M Q=Q (rw r) M:=rfl
@[simp] theorem l_tuB:fTuple [tb t] M Q=Q (tb t) M:=rfl
@[simp] theorem l_liT:fList [.tup xs] M Q=DL.alloc M (.ls xs) fun p M'=>Q (.lst p) M':=rfl
@[simp] theorem l_liF:fList [.fz xs] M Q=DL.alloc M (.ls xs) fun p M'=>Q (.lst p) M':=rfl
@[simp] theorem l_liL:fList [.lst a] M Q=(∃ xs,M a=some (.ls xs)/\DL.alloc M (.ls xs) fun p M'=>Q (.lst p) M'):=rfl
@[simp] theorem l_liR:fList [rw r] M Q=DL.alloc M (.ls (r.map nm)) fun p M'=>Q (.lst p) M':=rfl
@[simp] theorem l_liB:fList [tb t] M Q=DL.alloc M (.ls (t.map pl)) fun p M'=>Q (.lst p) M':=rfl
theorem l_isT:fIsi [.tup xs,.ty "tuple"] M Q=Q (.bl true) M:=by
 unfold fIsi; simp [tyD,isiT]
@[simp] theorem l_isT':fIsi [.tup xs,.ty "tuple"] M Q=Q (.bl true) M:=l_isT
@[simp] theorem l_isN:fIsi [nm q,.ty "tuple"] M Q=Q (.bl true) M:=l_isT
@[simp] theorem l_isP:fIsi [pl p,.ty "tuple"] M Q=Q (.bl true) M:=l_isT
@[simp] theorem l_isR:fIsi [rw r,.ty "tuple"] M Q=Q (.bl true) M:=l_isT
@[simp] theorem l_isB:fIsi [tb t,.ty "tuple"] M Q=Q (.bl true) M:=l_isT
@[simp] theorem l_is0:fIsi [.non,.ty "tuple"] M Q=Q (.bl false) M:=by unfold fIsi; simp [tyD,isiT]
@[simp] theorem l_isC {n c:Str} {x:DL.D}:fIsi [.exc n x,.cls c] M Q=Q (.bl (isSub n c)) M:=by unfold fIsi; simp
@[simp] theorem l_isC0 {c:Str}:fIsi [.non,.cls c] M Q=Q (.bl false) M:=rfl
@[simp] theorem l_isV {n:Str} {x:DL.D}:fIsi [.exc n x,.ty "ValueError"] M Q=Q (.bl true) M:=by unfold fIsi; simp [tyD,isiT]
@[simp] theorem l_ix0:iOp (nm q) (.int 0) M Q=Q (.int q.num) M:=by
 refine propext ⟨fun h=>?_,fun h=>ix0 h⟩
 obtain ⟨v,e,h⟩:=h
 rw [at_zero] at e; cases e; exact h
@[simp] theorem l_ix1:iOp (nm q) (.int 1) M Q=Q (.int q.den) M:=by
 refine propext ⟨fun h=>?_,fun h=>ix1 h⟩
 obtain ⟨v,e,h⟩:=h
 rw [at_one] at e; cases e; exact h
@[simp] theorem l_px0:iOp (pl p) (.int 0) M Q=Q (nm p.1) M:=by
 refine propext ⟨fun h=>?_,fun h=>pl0 h⟩
 obtain ⟨v,e,h⟩:=h
 rw [at_zero] at e; cases e; exact h
@[simp] theorem l_px1:iOp (pl p) (.int 1) M Q=Q (nm p.2) M:=by
 refine propext ⟨fun h=>?_,fun h=>pl1 h⟩
 obtain ⟨v,e,h⟩:=h
 rw [at_one] at e; cases e; exact h
@[simp] theorem l_gtT {n:Nat} {g:DGs} {δ:DSt} {Q:DSt->Mem->Prop}:gdTup n g (.tup xs) δ M Q=(xs.length=n/\g xs δ M Q):=by
 unfold gdTup; simp
@[simp] theorem l_gtP {g:DGs} {δ:DSt} {Q:DSt->Mem->Prop}:gdTup 2 g (pl p) δ M Q=g [nm p.1,nm p.2] δ M Q:=by
 refine propext ⟨fun h=>?_,fun h=>⟨_,rfl,rfl,h⟩⟩
 obtain ⟨ds,e,_,h⟩:=h
 cases e; exact h
@[simp] theorem l_gtN {g:DGs} {δ:DSt} {Q:DSt->Mem->Prop}:gdTup 2 g (nm q) δ M Q=g [.int q.num,.int q.den] δ M Q:=by
 refine propext ⟨fun h=>?_,fun h=>⟨_,rfl,rfl,h⟩⟩
 obtain ⟨ds,e,_,h⟩:=h
 cases e; exact h
@[simp] theorem l_itT {R:List DL.D->(Mem->Prop)->Mem->Prop}:itSeq (.tup xs) M R=R xs (fun _=>True) M:=rfl
@[simp] theorem l_itF {R:List DL.D->(Mem->Prop)->Mem->Prop}:itSeq (.fz xs) M R=R xs (fun _=>True) M:=rfl
@[simp] theorem l_itL {R:List DL.D->(Mem->Prop)->Mem->Prop}:itSeq (.lst a) M R=(∃ xs,M a=some (.ls xs)/\R xs (fun M'=>M' a=some (.ls xs)) M):=rfl
@[simp] theorem l_itR {R:List DL.D->(Mem->Prop)->Mem->Prop}:itSeq (rw r) M R=R (r.map nm) (fun _=>True) M:=rfl
@[simp] theorem l_itB {R:List DL.D->(Mem->Prop)->Mem->Prop}:itSeq (tb t) M R=R (t.map pl) (fun _=>True) M:=rfl
@[simp] theorem l_izR {R:List DL.D->(Mem->Prop)->Mem->Prop}:itZip [rw r,rw s] M R=R ((List.zip r s).map fun z=>pl z) (fun _=>True) M:=by
 show R (zipD (r.map nm) (s.map nm)) _ _=_
 unfold zipD
 rw [List.zipWith_map,List.zip,List.map_zipWith]; rfl
@[simp] theorem l_izB {R:List DL.D->(Mem->Prop)->Mem->Prop}:itZip [tb t,rw s] M R=R ((List.zip t s).map fun z=>.tup [pl z.1,nm z.2]) (fun _=>True) M:=by
 show R (zipD (t.map pl) (s.map nm)) _ _=_
 unfold zipD
 rw [List.zipWith_map,List.zip,List.map_zipWith]
@[simp] theorem l_izC {R:List DL.D->(Mem->Prop)->Mem->Prop}:itZip [rw s,tb t] M R=R ((List.zip s t).map fun z=>.tup [nm z.1,pl z.2]) (fun _=>True) M:=by
 show R (zipD (s.map nm) (t.map pl)) _ _=_
 unfold zipD
 rw [List.zipWith_map,List.zip,List.map_zipWith]
@[simp] theorem l_cnN {neg:Bool}:cIs neg (nm q) .non M Q=Q (.bl neg) M:=by unfold cIs nm; cases neg<;>rfl
@[simp] theorem l_cnR {neg:Bool}:cIs neg (rw r) .non M Q=Q (.bl neg) M:=by unfold cIs rw; cases neg<;>rfl
@[simp] theorem l_cnB {neg:Bool}:cIs neg (tb t) .non M Q=Q (.bl neg) M:=by unfold cIs tb; cases neg<;>rfl
@[simp] theorem l_cnX {neg:Bool} {n:Str} {x:DL.D}:cIs neg (.exc n x) .non M Q=Q (.bl neg) M:=by unfold cIs; cases neg<;>rfl
@[simp] theorem l_cn0 {neg:Bool}:cIs neg .non .non M Q=Q (.bl !neg) M:=by unfold cIs; cases neg<;>rfl
@[simp] theorem l_ctt {neg b c:Bool}:cIs neg (.bl b) (.bl c) M Q=Q (.bl (if neg then !(b == c) else b == c)) M:=by unfold cIs; cases neg<;>rfl
end
theorem nm_pair {a b:Int} (h:1<=b) (g:Int.gcd a b=1):D.tup [.int a,.int b]=nm (Rat.divInt a b):=by
 unfold nm; rw [(of_gcd h g).1,(of_gcd h g).2]
theorem nx_gen {s:CS} {rest:CSs} {D:DEnds} {δ:DSt} {M:Mem} (h:∀ J:DSt->Mem->Prop,(∀ δ' M',rSs rest D δ' M'->J δ' M')->rS s { D with nx:=J } δ M):rSs (.cons s rest) D δ M:=by
 rw [rSs_cons]; exact h _ fun _ _ h=>h
theorem cut_hi {α:Type} (xs:List α) (n:Nat) (h:n<=xs.length):cutG xs none (some (n:Int))=xs.take n:=by
 unfold cutG
 rw [HT.sIx_none,HT.sIx_nat,List.drop_zero,Nat.sub_zero,Nat.min_eq_left (by omega)]
theorem cut_lo {α:Type} (xs:List α) (n:Nat) (h:n<=xs.length):cutG xs (some (n:Int)) none=xs.drop n:=by
 unfold cutG
 rw [HT.sIx_none,HT.sIx_nat,Nat.min_eq_left (by omega),List.take_of_length_le (by simp)]
theorem cut_at {α:Type} (xs:List α) (n:Nat) (h:n < xs.length):cutG xs (some (n:Int)) (some ((n:Int) + 1))=[xs[n]]:=by
 unfold cutG
 rw [show ((n:Int) + 1)=((n + 1:Nat):Int) by omega,HT.sIx_nat,HT.sIx_nat,Nat.min_eq_left (by omega),Nat.min_eq_left (by omega),show n + 1 - n=1 by omega,List.drop_eq_getElem_cons h,List.take_succ_cons,List.take_zero]
noncomputable def putAt {α:Type} (s:List α) (n:Nat) (x:α):List α:=s.take n++x :: s.drop (n + 1)
theorem putAt_len {α:Type} {s:List α} {n:Nat} {x:α} (h:n < s.length):(putAt s n x).length=s.length:=by
 unfold putAt; simp; omega
theorem putAt_mem {α:Type} {s:List α} {n:Nat} {x y:α} (h:y∈putAt s n x):y∈s\/y=x:=by
 unfold putAt at h
 rcases List.mem_append.mp h with h | h
 ·exact .inl (List.mem_of_mem_take h)
 ·rcases List.mem_cons.mp h with h | h
  ·exact .inr h
  ·exact .inl (List.mem_of_mem_drop h)
theorem cut_put {α:Type} {s:List α} {n:Nat} {x:α} (h:n < s.length):cutG s none (some (n:Int))++x :: cutG s (some ((n:Int) + 1)) none=putAt s n x:=by
 rw [cut_hi _ _ (by omega),show ((n:Int) + 1)=((n + 1:Nat):Int) by omega,cut_lo _ _ (by omega)]; rfl
end K
end
local macro_rules
 | `(tactic| sleep 7)=>`(tactic| ((try dsimp only); rw [rSs_cons]; sleep 8))
 | `(tactic| sleep 8)=>`(tactic| ((try dsimp only [rS,rE,rEs,rO,rG,rGs,rI,DL.plain,dSeq,dNext,dBreak,dCont,dDrop,dRet,dRetN,dIfS,dNever,dAsg,dPar,gdName,gdCons,gdNil,gdSub,dVar,dC,d2,dNil,dCons,dTup,dLst,dCB,dCall,dCallV,dTest,dAnd,dOr,dNot,dAndV,dOrV,dNotB,dNeg,dIfE,dTru,dChain,dSl,dRev,dPart,dNoPart,dApp,fInt,dExt,dAug,dTwo,dDic0,dDic1,biSem,tyStr,bOp,cOp,bInt,cInt,truD,fAbs,fMax,fMin,fStr,fDivmod,itRng,CGs.len,startD,dRaise,dTry,isSub,dIdx,fSum,dIns,diZip,diSeq,dFld,dMeth,dMake,dSetF]); try simp [rS,rE,rEs,rO,rG,rGs,rI,DL.plain,dSeq,dNext,dBreak,dCont,dDrop,dRet,dRetN,dIfS,dNever,dAsg,dPar,gdName,gdCons,gdNil,gdSub,dVar,dC,d2,dNil,dCons,dTup,dLst,dCB,dCall,dCallV,dTest,dAnd,dOr,dNot,dAndV,dOrV,dNotB,dNeg,dIfE,dTru,dChain,dSl,dRev,dPart,dNoPart,dApp,fInt,dExt,dAug,dTwo,dDic0,dDic1,biSem,tyStr,bOp,cOp,bInt,cInt,truD,fAbs,fMax,fMin,fStr,fDivmod,itRng,CGs.len,startD,and_assoc,sizeLine_eq,dRaise,dTry,isSub,rSs_nil,dIdx,fSum,dIns,diZip,diSeq,dFld,dMeth,dMake,dSetF]))
 | `(tactic| sleep 9)=>`(tactic| ((try dsimp only); rw [rSs_cons]; (try dsimp only [rS,rE,rEs,rO,rG,rGs,rI,DL.plain,dSeq,dNext,dBreak,dCont,dDrop,dRet,dRetN,dIfS,dNever,dAsg,dPar,gdName,gdCons,gdNil,gdSub,dVar,dC,d2,dNil,dCons,dTup,dLst,dCB,dCall,dCallV,dTest,dAnd,dOr,dNot,dAndV,dOrV,dNotB,dNeg,dIfE,dTru,dChain,dSl,dRev,dPart,dNoPart,dApp,fInt,dExt,dAug,dTwo,dDic0,dDic1,biSem,tyStr,bOp,cOp,bInt,cInt,truD,fAbs,fMax,fMin,fStr,fDivmod,itRng,CGs.len,startD,dRaise,dTry,isSub,dIdx,fSum,dIns,diZip,diSeq,dFld,dMeth,dMake,dSetF,dFor,diRng]); try simp [rS,rE,rEs,rO,rG,rGs,rI,DL.plain,dSeq,dNext,dBreak,dCont,dDrop,dRet,dRetN,dIfS,dNever,dAsg,dPar,gdName,gdCons,gdNil,gdSub,dVar,dC,d2,dNil,dCons,dTup,dLst,dCB,dCall,dCallV,dTest,dAnd,dOr,dNot,dAndV,dOrV,dNotB,dNeg,dIfE,dTru,dChain,dSl,dRev,dPart,dNoPart,dApp,fInt,dExt,dAug,dTwo,dDic0,dDic1,biSem,tyStr,bOp,cOp,bInt,cInt,truD,fAbs,fMax,fMin,fStr,fDivmod,itRng,CGs.len,startD,and_assoc,sizeLine_eq,dRaise,dTry,isSub,rSs_nil,dIdx,fSum,dIns,diZip,diSeq,dFld,dMeth,dMake,dSetF,dFor,diRng]))
noncomputable section
namespace K
open PySem DL Q
theorem glo_of_pair {K:PySem.W.Frag} {mg:Str->Option Value} {n:Str} {a:Addr} {h:Heap} {i j:Int} {t u:Tok} {dd:Option Addr} {sl:Array (Option Value)} {m:Nat} (X:K.In h) (G:h.Ns mainGlobals mg) (e:PySem.W.nsIn K mainGlobals n=some (some (.ref a)))
  (lk:K.lookup a=some ⟨.type "tuple",dd,.seq #[.int i t,.int j u] m,sl⟩):GloE K mg n (.tup [.int i,.int j]):=by
 refine ⟨.ref a,.ref a,PySem.W.mg_of X G e,rfl,fun H=>.tup (vs:=[.int i,.int j]) (.inr ⟨_,#[.int i t,.int j u],m,lk,rfl,rfl,?_,?_⟩) (.cons (.int _) (.cons (.int _) .nil))⟩
 ·rw [sizeLine_eq]; show 2<=16777216; decide
 ·exact .cons ⟨_,rfl⟩ (.cons ⟨_,rfl⟩ .nil)
noncomputable abbrev G_NOUGHT:DL.D:=.tup [.int 0,.int 1]
theorem gd_sz {M:Mem} {q:Rat} (h:Gd M (nm q)):Sz 3000 q:=by
 have a:=h.tup (.int q.num) (by simp)
 have b:=h.tup (.int q.den) (by simp)
 unfold Gd at a b
 exact ⟨a,by simpa using b⟩
end K
end
noncomputable section
namespace K
open PySem DL Q
noncomputable def kindsOf (n:Str):List Bool:=[isSub n "NoNumber",isSub n "NoText",isSub n "NoTube",isSub n "NoRow",isSub n "NoMeasure",isSub n "NoLevel",isSub n "NoData",isSub n "NoPrice",isSub n "NoNeeds",isSub n "NoRoom",isSub n "NoJobs",isSub n "NoCall",isSub n "NoKept"]
structure Only (n:Str) (i:Int):Prop where
 c:isSub n "CordError"=true
 k:kindsOf n=(List.range 13).map fun j:Nat=>decide ((j:Int)=i)
end K
end
noncomputable section
namespace K
open PySem DL Q
structure Pt where
 up:Bool
 at_:Rat
 wt:Rat
noncomputable def sd (b:Bool):DL.D:=.str (if b then "above" else "below")
noncomputable def pt (p:Pt):DL.D:=.tup [sd p.up,nm p.at_,nm p.wt]
end K
end
noncomputable section
namespace K
open PySem DL Q
noncomputable def Gr (L B:Nat) (x:Rat):Prop:=∃ n:Int,x=Rat.divInt n (L:Int)/\n.natAbs<=B
theorem Gr.mono {L B C:Nat} {x:Rat} (h:Gr L B x) (c:B<=C):Gr L C x:=by obtain ⟨n,e,b⟩:=h; exact ⟨n,e,by omega⟩
theorem Gr.sz {L B m:Nat} {x:Rat} (h:Gr L B x) (l0:0 < L) (hL:L < 2 ^ m) (hB:B < 2 ^ m):Sz m x:=by
 obtain ⟨n,rfl,b⟩:=h
 exact sz_divInt (by omega) (by omega) (by simpa using hL)
theorem divInt_add_same {a b c:Int} (h:c≠0):Rat.divInt a c + Rat.divInt b c=Rat.divInt (a + b) c:=by
 rw [Rat.divInt_add_divInt _ _ h h,<- Int.add_mul,Rat.divInt_mul_right h]
theorem Gr.add {L B C:Nat} {x y:Rat} (l0:0 < L) (h:Gr L B x) (g:Gr L C y):Gr L (B + C) (x + y):=by
 obtain ⟨n,rfl,b⟩:=h
 obtain ⟨m,rfl,c⟩:=g
 refine ⟨n + m,divInt_add_same (by omega),?_⟩
 have:=Int.natAbs_add_le n m; omega
theorem Gr.neg {L B:Nat} {x:Rat} (h:Gr L B x):Gr L B (-x):=by
 obtain ⟨n,rfl,b⟩:=h
 exact ⟨-n,Rat.neg_divInt n _,by omega⟩
theorem Gr.sub {L B C:Nat} {x y:Rat} (l0:0 < L) (h:Gr L B x) (g:Gr L C y):Gr L (B + C) (x - y):=by
 rw [Rat.sub_eq_add_neg]; exact h.add l0 g.neg
theorem Gr.div {L B W d:Nat} {x:Rat} (h:Gr L B x) (d0:0 < d) (dW:d ∣ W) (l0:0 < L) (w0:0 < W):Gr (L * W) (B * W) (x / (d:Rat)):=by
 obtain ⟨n,rfl,b⟩:=h
 obtain ⟨k,rfl⟩:=dW
 have k0:k≠0:=fun z=>by subst z; simp at w0
 refine ⟨n * k,?_,?_⟩
 ·have e1:((d:Nat):Rat)=Rat.divInt (d:Int) 1:=(divInt_lowest ((d:Int):Rat)).symm
  rw [Rat.div_def,e1,Rat.inv_divInt,Rat.divInt_mul_divInt,Int.mul_one]
  have e2:((L * (d * k):Nat):Int)=((L:Int) * (d:Int)) * (k:Int):=by push_cast; rw [Int.mul_assoc]
  rw [e2,Rat.divInt_mul_right (by omega)]
 ·rw [Int.natAbs_mul]
  have h1:((k:Int)).natAbs=k:=by simp
  rw [h1]
  exact Nat.le_trans (Nat.mul_le_mul_right _ b) (Nat.mul_le_mul_left _ (Nat.le_mul_of_pos_left k d0))
theorem Gr.up {L B W:Nat} {x:Rat} (h:Gr L B x) (l0:0 < L) (w0:0 < W):Gr (L * W) (B * W) x:=by
 have:=h.div (d:=1) (by decide) (Nat.one_dvd W) l0 w0
 rwa [show x / ((1:Nat):Rat)=x by rw [show ((1:Nat):Rat)=1 from rfl]; grind] at this
theorem Gr.mulW {L W B C:Nat} {x y:Rat} (h:Gr L B x) (g:Gr W C y):Gr (L * W) (B * C) (x * y):=by
 obtain ⟨n,rfl,b⟩:=h
 obtain ⟨m,rfl,c⟩:=g
 refine ⟨n * m,?_,?_⟩
 ·rw [Rat.divInt_mul_divInt]; push_cast; rfl
 ·rw [Int.natAbs_mul]; exact Nat.mul_le_mul b c
theorem by_ok {p q:Rat} {m n:Nat} {M:Mem} {Q E:DK} (hp:Sz m p) (hq:Sz n q) (h:m + n<=7998) (k:Q (nm (p * q)) M):S_law_by [nm p,nm q] M Q E :=
 ⟨p,q.num,q.den,rfl,by have:=den_pos q; omega,⟨m,n,hp,hq.1,den_abs hq,h⟩,by rw [divInt_lowest]; exact k⟩
theorem gr_divInt {a b:Int} {L B:Nat} (hb:0 < b) (hd:b.toNat ∣ L) (l0:0 < L) (ha:a.natAbs * L<=B):Gr L B (Rat.divInt a b):=by
 obtain ⟨k,rfl⟩:=hd
 have k0:k≠0:=fun z=>by subst z; simp at l0
 refine ⟨a * k,?_,?_⟩
 ·have:((b.toNat * k:Nat):Int)=b * (k:Int):=by push_cast; rw [Int.toNat_of_nonneg (by omega)]
  rw [this,Rat.divInt_mul_right (by omega)]
 ·rw [Int.natAbs_mul]
  have h1:((k:Int)).natAbs=k:=by simp
  rw [h1]
  exact Nat.le_trans (Nat.mul_le_mul_left _ (Nat.le_mul_of_pos_left k (by omega))) ha
end K
end
noncomputable section
namespace K
open PySem DL Q
section
variable {ms:List Pt} {s:List Rat} {L B W C:Nat}
end
end K
end
noncomputable section
namespace K
open PySem DL Q
noncomputable def pn (ps:List Nat):List DL.D:=ps.map fun (i:Nat)=>DL.D.int (i:Int)
end K
end
noncomputable section
namespace K
open PySem DL Q
end K
end
noncomputable section
namespace K
open PySem DL Q
theorem nm_inj {p q:Rat} (h:nm p=nm q):p=q:=by
 unfold nm at h
 simp at h
 exact Rat.ext h.1 (by omega)
theorem map_nm_inj:∀ {s t:List Rat},s.map nm=t.map nm->s=t
 | [],[],_=>rfl
 | [],_ :: _,h=>by simp at h
 | _ :: _,[],h=>by simp at h
 | a :: s,b :: t,h=>by
  simp only [List.map_cons,List.cons.injEq] at h
  rw [nm_inj h.1,map_nm_inj h.2]
theorem rw_inj {s t:List Rat} (h:rw s=rw t):s=t:=by
 unfold rw at h
 injection h with h
 exact map_nm_inj h
theorem areNums_row {l m:Int} {d:DL.D} (h:areNums l m d=true):∃ s:List Rat,d=rw s/\l<=s.length/\(s.length:Int)<=m:=by
 cases d with
 | tup xs =>
  unfold areNums at h
  simp only [Bool.and_eq_true,decide_eq_true_eq] at h
  have go:∀ {xs:List DL.D},xs.all isNum=true->∃ s:List Rat,xs=s.map nm:=by
   intro xs
   induction xs with
   | nil=>exact fun _=>⟨[],rfl⟩
   | cons x xs ih =>
    intro h
    simp only [List.all_cons,Bool.and_eq_true] at h
    obtain ⟨p,rfl⟩:=isNum_iff.mp h.1
    obtain ⟨s,rfl⟩:=ih h.2
    exact ⟨p :: s,rfl⟩
  obtain ⟨s,rfl⟩:=go h.2
  exact ⟨s,rfl,by simpa using h.1.1,by simpa using h.1.2⟩
 | _=>cases h
end K
end
noncomputable section
namespace K
open PySem DL Q
end K
end
noncomputable section
namespace K
open PySem DL Q
noncomputable def sizesK:List Str:=["taut","loose","ring","leveller","no leveller","not taut","smooth","stair","settled","store","speeds","done"]
noncomputable def sizesV:List DL.D:=[.int 2,.int 2,.int 2,.int 2,.int 2,.int 2,.int 3,.int 2,.int 2,.int 3,.int 2,.int 3]
noncomputable def withoutK:List Str:=["taut","loose","ring","smooth","stair","store","speeds","done"]
noncomputable def withoutV:List DL.D:=[.fn "taut_holds",.fn "loose_holds",.fn "ring_holds",.fn "smooth_holds",.fn "stair_holds",.fn "store_holds",.fn "speeds_hold",.fn "done_holds"]
noncomputable def withK:List Str:=["leveller","no leveller","not taut","settled"]
noncomputable def withV:List DL.D:=[.fn "leveller_holds",.fn "no_leveller_holds",.fn "not_taut_holds",.fn "settled_holds"]
noncomputable def G_SIZES:DL.D:=.sd sizesK sizesV
noncomputable def G_WITHOUT_PAPER:DL.D:=.sd withoutK withoutV
noncomputable def G_WITH_PAPER:DL.D:=.sd withK withV
theorem sd_in {xs:List Str} {ds:List DL.D} {w:Str} {M:Mem} {Q:DK} {b:Bool} (h:xs.contains w=b) (q:Q (.bl b) M):cIn false (.str w) (.sd xs ds) M Q:=⟨w,rfl,by rw [h]; exact q⟩
theorem sd_notIn {xs:List Str} {ds:List DL.D} {w:Str} {M:Mem} {Q:DK} {b:Bool} (h:xs.contains w=b) (q:Q (.bl !b) M):cIn true (.str w) (.sd xs ds) M Q:=⟨w,rfl,by rw [h]; exact q⟩
theorem sd_ix {xs:List Str} {ds:List DL.D} {w:Str} {M:Mem} {Q:DK} {d:DL.D} (h:sdAt xs ds w=some d) (q:Q d M):iOp (.sd xs ds) (.str w) M Q:=⟨d,h,q⟩
theorem is_str {w:Str} {M:Mem} {Q:DK} (q:Q (.bl true) M):fIsi [.str w,.ty "str"] M Q:=by unfold fIsi; simpa [tyD,isiT] using q
end K
end
noncomputable section
namespace K
open PySem DL Q
inductive Sm (M:Mem) (n:Nat):DL.D->Prop
 | int {i:Int} (h:i.natAbs < 2 ^ n):Sm M n (.int i)
 | non:Sm M n .non
 | bl (b:Bool):Sm M n (.bl b)
 | str (x:Str):Sm M n (.str x)
 | lst {a:Addr} {xs:List DL.D} (h:M a=some (.ls xs)):Sm M n (.lst a)
 | dct {a:Addr} {xs:List (L2.Key×DL.D)} (h:M a=some (.dk xs)):Sm M n (.dct a)
 | tup {ds:List DL.D} (h:∀ d∈ds,Sm M n d):Sm M n (.tup ds)
theorem Sm.gd {M:Mem} {n:Nat} {d:DL.D} (hn:n<=3000) (h:Sm M n d):Gd M d:=by
 induction h with
 | int h=>exact gi (Nat.lt_of_lt_of_le h (pow_le hn))
 | non=>exact gn
 | bl b=>exact gbl
 | str x=>exact gs
 | lst h=>exact gl h
 | dct h=>exact gdk h
 | tup h ih=>exact .mk ih
theorem Sm.kp {M M':Mem} {n:Nat} {d:DL.D} (e:Kp M M') (h:Sm M n d):Sm M' n d:=by
 induction h with
 | int h=>exact .int h
 | non=>exact .non
 | bl b=>exact .bl b
 | str x=>exact .str x
 | lst h=>obtain ⟨_,h⟩:=e.ls _ _ h; exact .lst h
 | dct h=>obtain ⟨_,h⟩:=e.dk _ _ h; exact .dct h
 | tup h ih=>exact .tup ih
theorem Sm.parts {M:Mem} {n:Nat} {ds:List DL.D} (h:Sm M n (.tup ds)):∀ d∈ds,Sm M n d:=by cases h with | tup h=>exact h
theorem Sm.num {M:Mem} {n:Nat} {q:Rat} (h:Sm M n (nm q)):Sz n q:=by
 have h:=h.parts
 have a:=h (.int q.num) (by simp)
 have b:=h (.int q.den) (by simp)
 cases a with
 | int a=>cases b with
  | int b=>exact ⟨a,by simpa using b⟩
theorem Sm.row {M:Mem} {n:Nat} {r:List Rat} (h:Sm M n (rw r)):∀ x∈r,Sz n x:=fun x hx=>(h.parts (nm x) (List.mem_map_of_mem hx)).num
inductive Cl (n:Nat):DL.D->Prop
 | int {i:Int} (h:i.natAbs < 2 ^ n):Cl n (.int i)
 | tup {ds:List DL.D} (l:ds.length<=100) (h:∀ d∈ds,Cl n d):Cl n (.tup ds)
theorem Cl.sm {M:Mem} {n m:Nat} {d:DL.D} (hn:n<=m) (h:Cl n d):Sm M m d:=by
 induction h with
 | int h=>exact .int (Nat.lt_of_lt_of_le h (pow_le hn))
 | tup l h ih=>exact .tup ih
theorem Cl.py {M:Mem} {n:Nat} {d:DL.D} (h:Cl n d):∃ p,Py M d p:=by
 induction h with
 | int h=>exact ⟨_,.int _⟩
 | tup l h ih =>
  rename_i ds
  suffices ∀ xs:List DL.D,(∀ d∈xs,∃ p,Py M d p)->∃ ps,Pys M xs ps from
   let ⟨ps,h⟩:=this ds ih; ⟨_,.tup h⟩
  intro xs
  induction xs with
  | nil=>exact fun _=>⟨[],.nil⟩
  | cons x xs ih'=>exact fun h=>let ⟨p,hp⟩:=h x List.mem_cons_self; let ⟨ps,hps⟩:=ih' fun d hd=>h d (List.mem_cons_of_mem _ hd); ⟨p :: ps,.cons hp hps⟩
theorem Cl.nm {n:Nat} {q:Rat} (h:Sz n q):Cl n (nm q):=.tup (by simp) fun d hd=>by
 simp at hd
 rcases hd with rfl | rfl
 ·exact .int h.1
 ·exact .int (by simpa using h.2)
theorem Cl.rw {n:Nat} {r:List Rat} (l:r.length<=100) (h:∀ x∈r,Sz n x):Cl n (rw r):=.tup (by simpa using l) fun d hd=>by
 obtain ⟨x,hx,rfl⟩:=List.mem_map.mp hd
 exact .nm (h x hx)
theorem pys_len {M:Mem}:∀ {xs:List DL.D} {ps:List PyData},Pys M xs ps->ps.length=xs.length
 | _,_,.nil=>rfl
 | _,_,.cons _ r=>congrArg (· + 1) (pys_len r)
theorem eq_empty {M:Mem} {Q:DK} {xs:List DL.D} (h:∃ p,Py M (.tup xs) p) (q:Q (.bl xs.isEmpty) M):cEq false (.tup xs) (.tup []) M Q:=by
 obtain ⟨p,hp⟩:=h
 cases hp with
 | tup hp =>
  refine cEq_of (.tup hp) (.tup .nil) (by simp [PyData.depth,PyData.depthAll]) ?_
  have l:=pys_len hp
  rename_i ps
  have e:PyData.eqv (.tuple ps) (.tuple [])=xs.isEmpty:=by
   cases ps with
   | nil =>
    cases xs with
    | nil=>simp [PyData.eqv,PyData.eqvAll]
    | cons _ _=>simp at l
   | cons _ _ =>
    cases xs with
    | nil=>simp at l
    | cons _ _=>simp [PyData.eqv,PyData.eqvAll]
  rw [e]; exact q
theorem isi_ty {M:Mem} {Q:DK} {d:DL.D} {n:String} (t:String) (b:Bool) (q:Q (.bl b) M) (h:tyD M d=some t) (hn:isiT t n=b) (hk:n∈["int","bool","str","tuple"]):fIsi [d,.ty n] M Q:=by
 unfold fIsi
 refine ⟨t,h,?_,by rw [hn]; exact q⟩
 simp at hk
 rcases hk with rfl | rfl | rfl | rfl<;>decide
noncomputable def Tl (n:Nat) (d:DL.D):Prop:=∀ xs,d=.tup xs->xs.length<=n
noncomputable def S_law_other:DSp:=fun ds M Q E=>∃ (d:DL.D) (a:Addr) (k:Nat),ds=[d,.lst a]/\Pk M a/\Cl k d/\2<=k/\k<=1000/\∀ d' M',Sm M' (k + 1) d'->Tl 2 d'->Dr a M M'->Q d' M'
noncomputable def C_law_other:CSs:=.cons (.set 2 (.call "_law_take" S_law_take (.cons (.var 1) (.cons (.int 8) (.nil))))) (.cons (.ife (.bi .isinstance (.cons (.var 0) (.cons (.ty .bool) (.nil)))) (.cons (.ret (.ix (.lst (.cons (.not (.var 0)) (.cons (.bi .int (.cons (.var 0) (.nil))) (.cons (.non) (.cons (.not (.var 0)) (.cons (.str "a") (.cons (.tup (.nil)) (.cons (.not (.var 0)) (.cons (.not (.var 0)) (.nil)))))))))) (.var 2))) (.nil)) (.nil)) (.cons (.ife (.bi .isinstance (.cons (.var 0) (.cons (.ty .int) (.nil)))) (.cons (.ret (.ix (.lst (.cons (.bin .Add (.var 0) (.int 1)) (.cons (.bin .Sub (.var 0) (.int 1)) (.cons (.bin .Sub (.int 0) (.var 0)) (.cons (.cmp .Eq (.var 0) (.int 1)) (.cons (.bin .Mult (.int 2) (.var 0)) (.cons (.non) (.cons (.bi .str (.cons (.var 0) (.nil))) (.cons (.tup (.cons (.var 0) (.cons (.int 1) (.nil)))) (.nil)))))))))) (.var 2))) (.nil)) (.nil)) (.cons (.ife (.bi .isinstance (.cons (.var 0) (.cons (.ty .str) (.nil)))) (.cons (.ret (.ix (.lst (.cons (.bin .Add (.var 0) (.str "a")) (.cons (.sl (.var 0) (.some (.int 1)) (.none)) (.cons (.str "") (.cons (.str "taut") (.cons (.str "ring") (.cons (.non) (.cons (.str "above") (.cons (.int 0) (.nil)))))))))) (.var 2))) (.nil)) (.nil)) (.cons (.ret (.ix (.lst (.cons (.non) (.cons (.lst (.nil)) (.cons (.tup (.nil)) (.cons (.int 0) (.cons (.str "a") (.cons (.dic0) (.cons (.tup (.cons (.int 0) (.cons (.int 1) (.nil)))) (.cons (.tup (.cons (.tup (.cons (.int 0) (.cons (.int 1) (.nil)))) (.nil))) (.nil)))))))))) (.var 2))) (.nil)))))
theorem vc_law_other:∀ ds M R E,S_law_other ds M R E->rSs C_law_other (ends R E) (startD 3 ds) M:=by
 rintro ds M R E ⟨d,a,k,rfl,pk,cl,k2,k1,q⟩
 unfold C_law_other
 sleep 7
 refine take_ok pk (by decide) (by decide) fun c M1 c0 c1 y1=>?_
 cases cl with
 | int hi' =>
  rename_i i
  have p2:2 ^ (k + 1)=2 * 2 ^ k:=by rw [Nat.pow_succ,Nat.mul_comm]
  have p4:4<=2 ^ k:=Nat.le_trans (by decide) (Nat.pow_le_pow_right (by decide:0 < 2) k2)
  sleep 7
  refine isi_ty "int" false ?_ rfl (by decide) (by decide)
  simp
  sleep 7
  refine isi_ty "int" true ?_ rfl (by decide) (by decide)
  simp
  sleep 7
  refine eq_int false ?_
  refine ⟨mul_ok (m:=2) (n:=k) (by decide) hi' (by omega),Nat.lt_of_le_of_lt (log2_lt hi') (by omega),?_⟩
  intro p2 M2 e2 x2 l2
  obtain ⟨v,hv,hat⟩:=atI_in l2 c0 c1
  refine lst_ix l2 hat ?_
  simp only [List.mem_cons,List.not_mem_nil,or_false] at hv
  refine q v M2 ?_ (fun xs ex=>by subst ex; simp at hv; rw [hv]; simp) (y1.trans (Dr.ext y1.pk x2))
  rcases hv with rfl | rfl | rfl | rfl | rfl | rfl | rfl | rfl
  ·exact .int (by omega)
  ·exact .int (by omega)
  ·exact .int (by omega)
  ·exact .bl _
  ·exact .int (by omega)
  ·exact .non
  ·exact .str _
  ·exact .tup fun d hd=>by
    simp at hd
    rcases hd with rfl | rfl
    ·exact .int (by omega)
    ·exact .int (by omega)
 | tup l hd =>
  rename_i xs
  have one:(1:Int).natAbs < 2 ^ (k + 1):=Nat.lt_of_lt_of_le (by decide:(1:Int).natAbs < 2 ^ 1) (pow_le (by omega))
  have nul:(0:Int).natAbs < 2 ^ (k + 1):=Nat.lt_of_lt_of_le (by decide:(0:Int).natAbs < 2 ^ 1) (pow_le (by omega))
  sleep 7
  refine isi_ty "tuple" false ?_ rfl (by decide) (by decide)
  simp
  sleep 7
  refine isi_ty "tuple" false ?_ rfl (by decide) (by decide)
  simp
  sleep 7
  refine isi_ty "tuple" false ?_ rfl (by decide) (by decide)
  simp
  sleep 7
  intro p2 M2 e2 x2 l2
  intro p3 M3 e3 x3 l3
  intro p4 M4 e4 x4 l4
  obtain ⟨v,hv,hat⟩:=atI_in l4 c0 c1
  refine lst_ix l4 hat ?_
  refine q v M4 ?_ (fun xs ex=>by subst ex; simp at hv; rcases hv with rfl | rfl | rfl<;>simp) (y1.trans (Dr.ext y1.pk (x2.trans (x3.trans x4))))
  have z:Sm M4 (k + 1) (.tup [.int 0,.int 1]):=.tup fun d hd=>by
   simp at hd
   rcases hd with rfl | rfl
   ·exact .int nul
   ·exact .int one
  simp only [List.mem_cons,List.not_mem_nil,or_false] at hv
  rcases hv with rfl | rfl | rfl | rfl | rfl | rfl | rfl | rfl
  ·exact .non
  ·exact .lst (x4 _ _ (x3 _ _ l2))
  ·exact .tup nofun
  ·exact .int nul
  ·exact .str _
  ·exact .dct (x4 _ _ l3)
  ·exact z
  ·exact .tup fun d hd=>by simp at hd; subst hd; exact z
noncomputable def SR_law_spoilt:Nat->DSp
 | 0=>fun _ _ _ _=>False
 | n + 1=>fun ds M Q E=>∃ (d:DL.D) (a:Addr) (g:Int) (k l:Nat),ds=[d,.lst a,.int g]/\0<=g/\g<=n/\Pk M a/\Cl k d/\Tl l d/\2<=l/\2<=k/\k<=1000/\∀ d' M',Sm M' (k + 1) d'->Tl (l + 1) d'->Dr a M M'->Q d' M'
noncomputable def S_law_spoilt:DSp:=SR_law_spoilt 4
theorem sr_len_law_spoilt:∀ n ds M R E,SR_law_spoilt (n + 1) ds M R E->ds.length=3:=by
 rintro n ds M R E ⟨d,a,g,k,l,rfl,_⟩; rfl
noncomputable def C_law_spoilt (S:DSp):CSs:=.cons (.ife (.or (.cmp .Eq (.var 2) (.int 0)) (.or (.not (.bi .isinstance (.cons (.var 0) (.cons (.ty .tuple) (.nil))))) (.one (.cmp .Eq (.var 0) (.tup (.nil)))))) (.cons (.ret (.call "_law_other" S_law_other (.cons (.var 0) (.cons (.var 1) (.nil))))) (.nil)) (.nil)) (.cons (.set 3 (.call "_law_take" S_law_take (.cons (.var 1) (.cons (.bi .len (.cons (.var 0) (.nil))) (.nil))))) (.cons (.set 4 (.call "_law_take" S_law_take (.cons (.var 1) (.cons (.int 10) (.nil))))) (.cons (.set 5 (.bi .list (.cons (.var 0) (.nil)))) (.cons (.ife (.cmp .Eq (.var 4) (.int 0)) (.cons (.expr (.pop 5 (.var 3))) (.nil)) (.cons (.ife (.cmp .Eq (.var 4) (.int 1)) (.cons (.expr (.ins 5 (.var 3) (.ix (.var 0) (.var 3)))) (.nil)) (.cons (.ife (.cmp .Eq (.var 4) (.int 2)) (.cons (.expr (.app 5 (.pop 5 (.var 3)))) (.nil)) (.cons (.ife (.cmp .Eq (.var 4) (.int 3)) (.cons (.ret (.var 5)) (.nil)) (.cons (.asg (.sub (.var 5) (.var 3)) (.call "_law_spoilt" S (.cons (.ix (.var 0) (.var 3)) (.cons (.var 1) (.cons (.bin .Sub (.var 2) (.int 1)) (.nil)))))) (.nil))) (.nil))) (.nil))) (.nil))) (.cons (.ret (.bi .tuple (.cons (.var 5) (.nil)))) (.nil))))))
theorem vc_law_spoilt:∀ n ds M R E,SR_law_spoilt (n + 1) ds M R E->rSs (C_law_spoilt (SR_law_spoilt n)) (ends R E) (startD 6 ds) M:=by
 rintro n ds M R E ⟨d,a,g,k,l,rfl,g0,g1,pk,cl,tl,l2,k2,k1,q⟩
 have qo:∀ d' M',Sm M' (k + 1) d'->Tl 2 d'->Dr a M M'->R d' M':=fun d' M' s t y=>q d' M' s (fun xs e=>Nat.le_trans (t xs e) (by omega)) y
 unfold C_law_spoilt
 refine nx_gen fun J hJ=>?_
 have tail:∀ (xs:List DL.D),d=.tup xs->xs≠[]->0 < g->J [some d,some (.lst a),some (.int g),none,none,none] M:=by
  rintro xs rfl ne gp
  have hx:∀ e∈xs,Cl k e:=by cases cl with | tup l h=>exact h
  have xl:xs.length<=100:=by cases cl with | tup l h=>exact l
  have xl2:=tl xs rfl
  have x0:0 < xs.length:=List.length_pos_iff.mpr ne
  refine hJ _ _ ?_
  sleep 7
  refine take_ok pk (by omega) (Nat.lt_of_lt_of_le (show (xs.length:Int).natAbs < 2 ^ 10 by omega) (pow_le (by decide))) fun m M1 m0 m1 y1=>?_
  obtain ⟨m,rfl⟩:=Int.eq_ofNat_of_zero_le m0
  have hm:m < xs.length:=by omega
  sleep 7
  refine take_ok y1.pk (by decide) (by decide) fun c M2 c0 c1 y2=>?_
  sleep 7
  intro p M3 e3 x3 l3
  have y3:Dr a M M3:=y1.trans (y2.trans (Dr.ext y2.pk x3))
  have hpa:p≠a:=y2.pk.ne e3
  have e0:M p=none:=by
   cases h:M p with
   | none=>rfl
   | some o=>have:=(y1.trans y2).keep p o hpa h; rw [e3] at this; cases this
  refine nx_gen fun J hJ=>?_
  have fin:∀ ys M',Dr a M M'->M' p=some (.ls ys)->ys.length<=l + 1->(∀ e∈ys,Sm M' (k + 1) e)->J [some (.tup xs),some (.lst a),some (.int g),some (.int (m:Int)),some (.int c),some (.lst p)] M':=by
   intro ys M' y ly hl' hy
   refine hJ _ _ ?_
   sleep 7
   exact ⟨_,ly,q _ _ (.tup hy) (fun xs e=>by cases e; exact hl') y⟩
  have ox:∀ M',∀ e∈xs,Sm M' (k + 1) e:=fun M' e he=>(hx e he).sm (by omega)
  sleep 8
  refine eq_int false ?_
  by_cases h0:c=0
  ·subst h0
   simp
   (try dsimp only); rw [rSs_cons]; simp [rS,rE,rEs,rO,rG,rGs,rI,DL.plain,dSeq,dNext,dBreak,dCont,dDrop,dRet,dRetN,dIfS,dNever,dAsg,dPar,gdName,gdCons,gdNil,gdSub,dVar,dC,d2,dNil,dCons,dTup,dLst,dCB,dCall,dCallV,dTest,dAnd,dOr,dNot,dAndV,dOrV,dNotB,dNeg,dIfE,dTru,dChain,dSl,dRev,dPart,dNoPart,dApp,fInt,dExt,dAug,dTwo,dDic0,dDic1,biSem,tyStr,bOp,cOp,bInt,cInt,truD,fAbs,fMax,fMin,fStr,fDivmod,itRng,CGs.len,startD,and_assoc,sizeLine_eq,dRaise,dTry,isSub,rSs_nil,dIdx,fSum,dIns,diZip,diSeq,dFld,dMeth,dMake,dSetF,dPop]
   refine ⟨⟨_,l3⟩,_,l3,by omega,⟨_,List.getElem?_eq_getElem hm⟩,?_⟩
   exact fin _ _ (y3.upd_new e0 hpa) mupd_same (by have:=List.length_eraseIdx_le xs m; omega) fun e he=>ox _ e (List.mem_of_mem_eraseIdx he)
  ·simp [h0]
   sleep 7
   refine eq_int false ?_
   by_cases h1:c=1
   ·subst h1
    simp
    sleep 7
    refine ⟨⟨_,l3⟩,?_⟩
    refine tix (at_nat (List.getElem?_eq_getElem hm)) ?_
    refine ⟨_,l3,by omega,by omega,?_⟩
    refine fin _ _ (y3.upd_new e0 hpa) mupd_same (by unfold insAt; simp; omega) fun e he=>?_
    unfold insAt at he
    rcases List.mem_append.mp he with he | he
    ·exact ox _ e (List.mem_of_mem_take he)
    ·rcases List.mem_cons.mp he with rfl | he
     ·exact ox _ _ (List.getElem_mem hm)
     ·exact ox _ e (List.mem_of_mem_drop he)
   ·simp [h1]
    sleep 7
    refine eq_int false ?_
    by_cases h2:c=2
    ·subst h2
     simp
     (try dsimp only); rw [rSs_cons]; simp [rS,rE,rEs,rO,rG,rGs,rI,DL.plain,dSeq,dNext,dBreak,dCont,dDrop,dRet,dRetN,dIfS,dNever,dAsg,dPar,gdName,gdCons,gdNil,gdSub,dVar,dC,d2,dNil,dCons,dTup,dLst,dCB,dCall,dCallV,dTest,dAnd,dOr,dNot,dAndV,dOrV,dNotB,dNeg,dIfE,dTru,dChain,dSl,dRev,dPart,dNoPart,dApp,fInt,dExt,dAug,dTwo,dDic0,dDic1,biSem,tyStr,bOp,cOp,bInt,cInt,truD,fAbs,fMax,fMin,fStr,fDivmod,itRng,CGs.len,startD,and_assoc,sizeLine_eq,dRaise,dTry,isSub,rSs_nil,dIdx,fSum,dIns,diZip,diSeq,dFld,dMeth,dMake,dSetF,dPop]
     refine ⟨⟨_,l3⟩,_,l3,by omega,_,List.getElem?_eq_getElem hm,_,mupd_same,?_,?_⟩
     ·have:=List.length_eraseIdx_le xs m; omega
     ·rw [mupd_upd]
      refine fin _ _ (y3.upd_new e0 hpa) mupd_same (by have:=List.length_eraseIdx_le xs m; simp; omega) fun e he=>?_
      rcases List.mem_append.mp he with he | he
      ·exact ox _ e (List.mem_of_mem_eraseIdx he)
      ·simp at he; subst he; exact ox _ _ (List.getElem_mem hm)
    ·simp [h2]
     sleep 7
     refine eq_int false ?_
     by_cases h3:c=3
     ·simp [h3]
      sleep 7
      exact q _ _ (.lst l3) nofun y3
     ·simp [h3]
      sleep 7
      refine tix (at_nat (List.getElem?_eq_getElem hm)) ?_
      cases n with
      | zero=>omega
      | succ n =>
       refine ⟨_,a,g - 1,k,100,rfl,by omega,by omega,y3.pk,hx _ (List.getElem_mem hm),fun ys e=>by have:=hx _ (List.getElem_mem hm); rw [e] at this; cases this with | tup l h=>exact l,by decide,k2,k1,fun d' M4 sm _ y4=>?_⟩
       have l4:=y4.keep _ _ hpa l3
       refine ⟨_,l4,m,by simp [L2.ixN]; omega,?_⟩
       refine fin _ _ ((y3.trans y4).upd_new e0 hpa) mupd_same (by simp; omega) fun e he=>?_
       rcases List.mem_or_eq_of_mem_set he with he | rfl
       ·exact ox _ e he
       ·exact sm.kp (Kp.upd l4)
 sleep 8
 refine eq_int false ?_
 by_cases h0:g=0
 ·simp [h0]
  sleep 7
  exact ⟨d,a,k,rfl,pk,cl,k2,k1,qo⟩
 ·simp [h0]
  cases cl with
  | int hi' =>
   refine isi_ty "int" false ?_ rfl (by decide) (by decide)
   simp
   sleep 7
   exact ⟨_,a,k,rfl,pk,.int hi',k2,k1,qo⟩
  | tup lx hd =>
   refine isi_ty "tuple" true ?_ rfl (by decide) (by decide)
   simp
   refine eq_empty (Cl.py (.tup lx hd)) ?_
   rename_i xs
   cases xs with
   | nil =>
    simp
    sleep 7
    exact ⟨_,a,k,rfl,pk,.tup lx hd,k2,k1,qo⟩
   | cons x r =>
    simp
    exact tail _ rfl (by simp) (by omega)
end K
end
noncomputable section
namespace K
open PySem DL Q
noncomputable def S_law_whole:DSp:=fun ds M Q _=>∃ d t,ds=[d]/\tyD M d=some t/\Q (.bl (decide (t="int"))) M
noncomputable def C_law_whole:CSs:=.cons (.ret (.and (.bi .isinstance (.cons (.var 0) (.cons (.ty .int) (.nil)))) (.one (.not (.bi .isinstance (.cons (.var 0) (.cons (.ty .bool) (.nil)))))))) (.nil)
theorem vc_law_whole:∀ ds M R E,S_law_whole ds M R E->rSs C_law_whole (ends R E) (startD 1 ds) M:=fun ds M R E h=>vc_is_whole ds M R E h
theorem eq_pair {M:Mem} {Q:DK} {a b c d:Int} (neg:Bool) (h:Q (.bl (if neg then !(a == c && b == d) else (a == c && b == d))) M):cEq neg (.tup [.int a,.int b]) (.tup [.int c,.int d]) M Q:=by
 refine ⟨_,_,.tup (.cons (.int a) (.cons (.int b) .nil)),.tup (.cons (.int c) (.cons (.int d) .nil)),by simp [PyData.depth,PyData.depthAll],?_⟩
 have e:PyData.eqv (.tuple [.int a,.int b]) (.tuple [.int c,.int d])=(a == c && b == d):=by
  simp [PyData.eqv,PyData.eqvAll]
 rw [e]; exact h
noncomputable def S_law_is_number:DSp:=fun ds M Q _=>∃ d,ds=[d]/\Gd M d/\Q (.bl (isNum d)) M
noncomputable def C_law_is_number:CSs:=.cons (.ife (.or (.not (.bi .isinstance (.cons (.var 0) (.cons (.ty .tuple) (.nil))))) (.or (.cmp .NotEq (.bi .len (.cons (.var 0) (.nil))) (.int 2)) (.or (.not (.call "_law_whole" S_law_whole (.cons (.ix (.var 0) (.int 0)) (.nil)))) (.one (.not (.call "_law_whole" S_law_whole (.cons (.ix (.var 0) (.int 1)) (.nil)))))))) (.cons (.ret (.bl false)) (.nil)) (.nil)) (.cons (.ret (.and (.cmp .GtE (.ix (.var 0) (.int 1)) (.int 1)) (.one (.cmp .Eq (.call "_law_low" S_law_low (.cons (.ix (.var 0) (.int 0)) (.cons (.ix (.var 0) (.int 1)) (.nil)))) (.var 0))))) (.nil))
theorem vc_law_is_number:∀ ds M R E,S_law_is_number ds M R E->rSs C_law_is_number (ends R E) (startD 1 ds) M:=by
 rintro ds M R E ⟨d,rfl,gd,h⟩
 obtain ⟨t,ht⟩:=gd.ty
 by_cases hd:∃ xs,d=.tup xs
 ·obtain ⟨xs,rfl⟩:=hd
  by_cases hl:xs.length=2
  ·obtain ⟨a,b,rfl⟩:=len2 hl
   obtain ⟨ta,hta⟩:=(gd.tup a (by simp)).ty
   obtain ⟨tb,htb⟩:=(gd.tup b (by simp)).ty
   unfold C_law_is_number
   rw [rSs_cons]
   simp [rS,rE,rEs,rO,rG,rGs,rI,DL.plain,dSeq,dNext,dBreak,dCont,dDrop,dRet,dRetN,dIfS,dNever,dAsg,dPar,gdName,gdTup,gdCons,gdNil,gdSub,dVar,dC,d2,dNil,dCons,dTup,dLst,dCB,dCall,dCallV,dTest,dAnd,dOr,dNot,dAndV,dOrV,dNotB,dNeg,dIfE,dTru,dChain,dSl,dRev,revOp,dPart,dNoPart,dApp,fInt,dExt,dAug,dTwo,dDic0,dDic1,biSem,tyStr,bOp,cOp,bInt,bMul,bAdd,cInt,sOp,truD,fAbs,fMax,fMin,fStr,fDivmod,fTuple,fList,fIsi,itSeq,itRng,CGs.len,startD,and_assoc,sizeLine_eq,dRaise,dTry,isSub,rSs_nil,dIdx,fSum,dIns,fLen,tyD,isiT]
   refine eq_int true ?_
   simp
   refine tix (at_zero _ _) ?_
   refine ⟨a,ta,rfl,hta,?_⟩
   by_cases h1:ta="int"
   ·subst h1
    obtain ⟨i,rfl⟩:=int_of_ty hta
    simp
    refine tix (at_one _ _ _) ?_
    refine ⟨b,tb,rfl,htb,?_⟩
    by_cases h2:tb="int"
    ·subst h2
     obtain ⟨j,rfl⟩:=int_of_ty htb
     simp
     sleep 1
     refine tix (at_one _ _ _) ?_
     by_cases h3:0 < j
     ·have h3':1<=j:=h3
      simp [h3']
      refine tix (at_zero _ _) ?_
      refine tix (at_one _ _ _) ?_
      have gj:j.natAbs < 2 ^ 3000:=by
       have:=gd.tup (.int j) (by simp)
       unfold Gd at this; exact this
      refine ⟨i,j,rfl,by omega,Nat.lt_of_lt_of_le gj (pow_le (by decide)),?_⟩
      refine eq_pair false ?_
      have e:isNum (.tup [.int i,.int j])=((Rat.divInt i j).num == i && ((Rat.divInt i j).den:Int) == j):=by
       unfold isNum; rw [num_two]
       by_cases hg:Int.gcd i j=1
       ·obtain ⟨e1,e2⟩:=of_gcd (a:=i) (b:=j) (by omega) hg
        rw [if_pos ⟨by omega,hg⟩,e1,e2]; simp
       ·rw [if_neg (by omega)]
        have:¬ ((Rat.divInt i j).num=i/\((Rat.divInt i j).den:Int)=j):=fun z=>hg (by have g:=gcd_self (Rat.divInt i j); rw [z.1,z.2] at g; exact g)
        simp only [Option.isSome_none]
        symm
        simpa using this
      rw [e] at h; exact h
     ·have e:isNum (.tup [.int i,.int j])=false:=by
       unfold isNum; rw [num_two,if_neg (by omega)]; rfl
      have h3':¬ 1<=j:=h3
      simp [h3']; rw [e] at h; exact h
    ·simp [h2]
     have e:=isNum_not (a:=.int i) (b:=b) (.inr fun j z=>h2 (by subst z; cases htb; rfl))
     rw [e] at h; exact h
   ·simp [h1]
    have e:=isNum_not (a:=a) (b:=b) (.inl fun j z=>h1 (by subst z; cases hta; rfl))
    rw [e] at h; exact h
  ·have e:isNum (.tup xs)=false:=by
    unfold isNum num?; split
    ·rename_i z; cases z; simp at hl
    ·rfl
   rw [e] at h
   unfold C_law_is_number
   rw [rSs_cons]
   simp [rS,rE,rEs,rO,rG,rGs,rI,DL.plain,dSeq,dNext,dBreak,dCont,dDrop,dRet,dRetN,dIfS,dNever,dAsg,dPar,gdName,gdTup,gdCons,gdNil,gdSub,dVar,dC,d2,dNil,dCons,dTup,dLst,dCB,dCall,dCallV,dTest,dAnd,dOr,dNot,dAndV,dOrV,dNotB,dNeg,dIfE,dTru,dChain,dSl,dRev,revOp,dPart,dNoPart,dApp,fInt,dExt,dAug,dTwo,dDic0,dDic1,biSem,tyStr,bOp,cOp,bInt,bMul,bAdd,cInt,sOp,truD,fAbs,fMax,fMin,fStr,fDivmod,fTuple,fList,fIsi,itSeq,itRng,CGs.len,startD,and_assoc,sizeLine_eq,dRaise,dTry,isSub,rSs_nil,dIdx,fSum,dIns,fLen,tyD,isiT]
   refine eq_int true ?_
   have:¬ ((xs.length:Int)=2):=by omega
   simp [this]; exact h
 ·have hn:∀ ds,d≠.tup ds:=fun ds z=>hd ⟨ds,z⟩
  have e:isNum d=false:=by
   unfold isNum num?; split
   ·exact absurd rfl (hn _)
   ·rfl
  rw [e] at h
  unfold C_law_is_number
  rw [rSs_cons]
  simp [rS,rE,rEs,rO,rG,rGs,rI,DL.plain,dSeq,dNext,dBreak,dCont,dDrop,dRet,dRetN,dIfS,dNever,dAsg,dPar,gdName,gdTup,gdCons,gdNil,gdSub,dVar,dC,d2,dNil,dCons,dTup,dLst,dCB,dCall,dCallV,dTest,dAnd,dOr,dNot,dAndV,dOrV,dNotB,dNeg,dIfE,dTru,dChain,dSl,dRev,revOp,dPart,dNoPart,dApp,fInt,dExt,dAug,dTwo,dDic0,dDic1,biSem,tyStr,bOp,cOp,bInt,bMul,bAdd,cInt,sOp,truD,fAbs,fMax,fMin,fStr,fDivmod,fTuple,fList,fIsi,itSeq,itRng,CGs.len,startD,and_assoc,sizeLine_eq,dRaise,dTry,isSub,rSs_nil,dIdx,fSum,dIns,ht,tyD_nt hn ht]
  exact h
noncomputable def S_law_are_numbers:DSp:=fun ds M Q _=>∃ d l m,ds=[d,.int l,.int m]/\m<=1000/\Gd M d/\∀ M',MExt M M'->Q (.bl (areNums l m d)) M'
noncomputable def C_law_are_numbers:CSs:=.cons (.ret (.and (.bi .isinstance (.cons (.var 0) (.cons (.ty .tuple) (.nil)))) (.and (.chain .LtE .LtE (.var 1) (.bi .len (.cons (.var 0) (.nil))) (.var 2)) (.one (.bi .all (.cons (.comp ["_law_thing","_law_least","_law_most","_law_one"] 1 (.name 3) (.seq (.var 0)) (.call "_law_is_number" S_law_is_number (.cons (.var 3) (.nil)))) (.nil))))))) (.nil)
theorem vc_law_are_numbers:∀ ds M R E,S_law_are_numbers ds M R E->rSs C_law_are_numbers (ends R E) (startD 3 ds) M:=by
 rintro ds M R E ⟨d,l,m,rfl,hm,gd,h⟩
 obtain ⟨t,ht⟩:=gd.ty
 unfold C_law_are_numbers
 by_cases hd:∃ xs,d=.tup xs
 ·obtain ⟨xs,rfl⟩:=hd
  sleep 7
  have no:areNums l m (.tup xs)=false->R (.bl false) M:=fun e=>by
   have:=h M (.refl M)
   rwa [e] at this
  by_cases h1:l<=(xs.length:Int)
  ·rw [if_pos h1]
   by_cases h2:(xs.length:Int)<=m
   ·rw [if_pos h2]
    refine comp_map xs (fun x=>.bl (isNum x)) (ti_tup rfl) (by omega) ?_ ?_
    ·intro x hx l' M' R' hl e r
     obtain ⟨a,rfl⟩:=len1 hl
     sleep 8
     exact ⟨x,rfl,(gd.tup x hx).ext e,r [some x] M' rfl (.refl M')⟩
    ·intro p M' hp e l'
     refine all_of l' ?_
     have:=h M' e
     simpa [areNums,h1,h2] using this
   ·rw [if_neg h2]
    exact no (by simp [areNums,h2])
  ·rw [if_neg h1]
   exact no (by simp [areNums,h1])
 ·have hn:∀ ds,d≠.tup ds:=fun ds z=>hd ⟨ds,z⟩
  have e:areNums l m d=false:=by
   unfold areNums; split
   ·exact absurd rfl (hn _)
   ·rfl
  have:=h M (.refl M)
  rw [e] at this
  sleep 7
  refine isi_ty t false ?_ ht (tyD_nt hn ht) (by decide)
  simp
  exact this
noncomputable def S_law_moved:DSp:=fun ds M Q E=>∃ (r:List Rat) (a:Addr) (k:Nat),ds=[rw r,.lst a]/\Pk M a/\(∀ x∈r,Sz k x)/\k<=1000/\1<=r.length/\r.length<=100/\∀ r' M',r'.length=r.length->(∀ x∈r',Sz (k + 10) x)->Dr a M M'->Q (rw r') M'
noncomputable def C_law_moved:CSs:=.cons (.set 2 (.call "_law_take" S_law_take (.cons (.var 1) (.cons (.bi .len (.cons (.var 0) (.nil))) (.nil))))) (.cons (.set 3 (.call "_law_low" S_law_low (.cons (.bin .Sub (.call "_law_take" S_law_take (.cons (.var 1) (.cons (.int 7) (.nil)))) (.int 3)) (.cons (.bin .Add (.int 1) (.call "_law_take" S_law_take (.cons (.var 1) (.cons (.int 2) (.nil))))) (.nil))))) (.cons (.ret (.bin .Add (.bin .Add (.sl (.var 0) (.none) (.some (.var 2))) (.tup (.cons (.call "_law_more" S_law_more (.cons (.ix (.var 0) (.var 2)) (.cons (.var 3) (.nil)))) (.nil)))) (.sl (.var 0) (.some (.bin .Add (.var 2) (.int 1))) (.none)))) (.nil)))
theorem vc_law_moved:∀ ds M R E,S_law_moved ds M R E->rSs C_law_moved (ends R E) (startD 4 ds) M:=by
 rintro ds M R E ⟨r,a,k,rfl,pk,sr,hk,r1,r100,q⟩
 unfold C_law_moved
 sleep 7
 refine take_ok pk (by omega) (Nat.lt_of_lt_of_le (show (r.length:Int).natAbs < 2 ^ 10 by omega) (pow_le (by decide))) fun n M1 n0 n1 y1=>?_
 obtain ⟨n,rfl⟩:=Int.eq_ofNat_of_zero_le n0
 have hn:n < r.length:=by omega
 sleep 7
 refine take_ok y1.pk (by decide) (by decide) fun c M2 c0 c1 y2=>?_
 refine take_ok y2.pk (by decide) (by decide) fun v M3 v0 v1 y3=>?_
 rw [l_addI]
 (try dsimp only)
 refine ⟨_,_,rfl,by omega,lt8000 (Nat.lt_of_lt_of_le (show (1 + v).natAbs < 2 ^ 8 by omega) (pow_le (by decide))),?_⟩
 have sx:Sz 8 (Rat.divInt (c - 3) (1 + v)):=by
  rcases (by omega:v=0\/v=1) with rfl | rfl
  ·rcases (by omega:c=0\/c=1\/c=2\/c=3\/c=4\/c=5\/c=6) with rfl | rfl | rfl | rfl | rfl | rfl | rfl<;>exact ⟨by decide +kernel,by decide +kernel⟩
  ·rcases (by omega:c=0\/c=1\/c=2\/c=3\/c=4\/c=5\/c=6) with rfl | rfl | rfl | rfl | rfl | rfl | rfl<;>exact ⟨by decide +kernel,by decide +kernel⟩
 generalize Rat.divInt (c - 3) (1 + v)=z at sx
 sleep 7
 refine rw_ix hn ?_
 have s0:=sr _ (ri_mem hn)
 refine ⟨_,_,rfl,.mk s0 sx (by omega),?_⟩
 have y:=y1.trans (y2.trans y3)
 have c1:=cut_len r none (some (n:Int))
 have c2:=cut_len r (some ((n:Int) + 1)) none
 (try dsimp only)
 rw [l_put,cut_put hn]
 refine ⟨by omega,by omega,q _ M3 (putAt_len hn) (fun x hx=>?_) y⟩
 rcases putAt_mem hx with hx | rfl
 ·exact (sr x hx).mono (by omega)
 ·exact (s0.add sx).mono (by omega)
end K
end
noncomputable section
namespace K
open PySem DL Q
end K
end
noncomputable section
namespace K
open PySem DL Q
structure Lv where
 g:Nat
 l:Nat
 x:Rat
noncomputable def lv (v:Lv):DL.D:=.tup [.int (v.g:Int),.int (v.l:Int),nm v.x]
noncomputable def doL (v:Lv) (s:List Rat):List Rat:=(s.set v.g (ri s v.g - v.x)).set v.l (ri (s.set v.g (ri s v.g - v.x)) v.l + v.x)
theorem doL_len (v:Lv) (s:List Rat):(doL v s).length=s.length:=by unfold doL; rw [List.length_set,List.length_set]
theorem set_mem {s:List Rat} {i:Nat} {y x:Rat} (h:x∈s.set i y):x∈s\/x=y:=List.mem_or_eq_of_mem_set h
structure Can (v:Lv) (s:List Rat):Prop where
 g:v.g < s.length
 l:v.l < s.length
 pos:0 < v.x
 le:v.x<=ri s v.g - ri s v.l
 sx:Sz 900 v.x
 ss:∀ y∈s,Sz 900 y
noncomputable def runL (vs:List Lv) (s:List Rat):List Rat:=vs.foldl (fun s v=>doL v s) s
theorem runL_len:∀ (vs:List Lv) (s:List Rat),(runL vs s).length=s.length
 | [],_=>rfl
 | v :: vs,s=>by
  show (runL vs (doL v s)).length=_
  rw [runL_len vs,doL_len]
theorem runL_add (vs:List Lv) (v:Lv) (s:List Rat):runL (vs++[v]) s=doL v (runL vs s):=by unfold runL; rw [List.foldl_append]; rfl
noncomputable def Way (s:List Rat) (vs:List Lv):Prop:=∀ i (h:i < vs.length),Can vs[i] (runL (vs.take i) s)
theorem Way.nil (s:List Rat):Way s []:=fun i h=>absurd h (Nat.not_lt_zero i)
noncomputable def S_walk:DSp:=fun ds M Q E=>∃ p s v,ds=[.lst p,lv v]/\M p=some (.ls (s.map nm))/\Can v s/\s.length<=100/\Q .non (M.upd p (.ls ((doL v s).map nm)))
noncomputable def C_walk:CSs:=.cons (.asg (.tup (.cons (.name 2) (.cons (.name 3) (.cons (.name 4) (.nil))))) (.var 1)) (.cons (.asg (.sub (.var 0) (.var 2)) (.call "taken" S_taken (.cons (.ix (.var 0) (.var 2)) (.cons (.var 4) (.nil))))) (.cons (.asg (.sub (.var 0) (.var 3)) (.call "added" S_added (.cons (.ix (.var 0) (.var 3)) (.cons (.var 4) (.nil))))) (.nil)))
theorem vc_walk:∀ ds M R E,S_walk ds M R E->rSs C_walk (ends R E) (startD 5 ds) M:=by
 rintro ds M R E ⟨p,s,v,rfl,l,c,hl,q⟩
 have c1:=c.g
 have c2:=c.l
 have c5:=c.sx
 have c6:=c.ss
 rw [show lv v=.tup [.int (v.g:Int),.int (v.l:Int),nm v.x] from rfl]
 unfold C_walk
 sleep 7
 sleep 7
 refine lst_ix (v:=nm (ri s v.g)) l (at_nat (rw_at c1)) ?_
 refine ⟨_,_,rfl,.mk (c6 _ (ri_mem c1)) c5 (by decide),?_⟩
 sleep 8
 refine ⟨_,l,v.g,by simp [L2.ixN]; omega,?_⟩
 rw [<- List.map_set]
 have h1:v.l < (s.set v.g (ri s v.g - v.x)).length:=by rw [List.length_set]; exact c2
 have s1:∀ y∈s.set v.g (ri s v.g - v.x),Sz 1810 y:=fun y hy=>by
  rcases set_mem hy with hy | rfl
  ·exact (c6 y hy).mono (by decide)
  ·exact ((c6 _ (ri_mem c1)).sub c5).mono (by decide)
 have q':R .non ((M.upd p (.ls ((s.set v.g (ri s v.g - v.x)).map nm))).upd p (.ls (((s.set v.g (ri s v.g - v.x)).set v.l (ri (s.set v.g (ri s v.g - v.x)) v.l + v.x)).map nm))):=by rw [mupd_upd]; exact q
 generalize s.set v.g (ri s v.g - v.x)=s' at h1 s1 q'
 have l1:(M.upd p (.ls (s'.map nm))) p=some (.ls (s'.map nm)):=mupd_same
 generalize M.upd p (.ls (s'.map nm))=M' at l1 q'
 sleep 7
 refine lst_ix (v:=nm (ri s' v.l)) l1 (at_nat (rw_at h1)) ?_
 refine ⟨_,_,rfl,.mk (s1 _ (ri_mem h1)) c5 (by decide),?_⟩
 sleep 8
 refine ⟨_,l1,v.l,by simp [L2.ixN]; omega,?_⟩
 rw [<- List.map_set]
 exact q'
end K
end
noncomputable section
namespace K
open PySem DL Q
inductive NoL (s:List Rat):DL.D->Prop
 | oth (d:DL.D):(∀ xs,d≠.tup xs)->NoL s d
 | len (xs:List DL.D):xs.length≠3->NoL s (.tup xs)
 | gr (x y z:DL.D):(∀ i,x≠.int i)->NoL s (.tup [x,y,z])
 | le (x:Int) (y z:DL.D):(∀ i,y≠.int i)->NoL s (.tup [.int x,y,z])
 | am (x y:Int) (z:DL.D):isNum z=false->NoL s (.tup [.int x,.int y,z])
 | rg (x y:Int) (q:Rat):x < 0\/(s.length:Int)<=x->NoL s (.tup [.int x,.int y,nm q])
 | rl (x:Nat) (y:Int) (q:Rat):x < s.length->y < 0\/(s.length:Int)<=y->NoL s (.tup [.int x,.int y,nm q])
 | neg (x y:Nat) (q:Rat):x < s.length->y < s.length->q<=0->NoL s (.tup [.int x,.int y,nm q])
 | big (x y:Nat) (q:Rat):x < s.length->y < s.length->0 < q->ri s x - ri s y < q->NoL s (.tup [.int x,.int y,nm q])
theorem not_int {M:Mem} {d:DL.D} {t:String} (h:tyD M d=some t) (n:∀ i,d≠.int i):decide (t="int")=false:=by
 refine decide_eq_false fun z=>?_
 subst z
 obtain ⟨i,rfl⟩:=int_of_ty h
 exact n i rfl
noncomputable def S_can_be_done:DSp:=fun ds M Q E=>∃ (p:Addr) (s:List Rat) (d:DL.D) (b:Bool),ds=[.lst p,d]/\M p=some (.ls (s.map nm))/\(∀ y∈s,Sz 900 y)/\s.length<=100/\Gd M d/\(b=true/\(∃ v,d=lv v/\Can v s)\/b=false/\NoL s d)/\Q (.bl b) M
noncomputable def C_can_be_done:CSs:=.cons (.ife (.or (.not (.bi .isinstance (.cons (.var 1) (.cons (.ty .tuple) (.nil))))) (.one (.cmp .NotEq (.bi .len (.cons (.var 1) (.nil))) (.int 3)))) (.cons (.ret (.bl false)) (.nil)) (.nil)) (.cons (.asg (.tup (.cons (.name 2) (.cons (.name 3) (.cons (.name 4) (.nil))))) (.var 1)) (.cons (.ife (.or (.not (.call "is_whole" S_is_whole (.cons (.var 2) (.nil)))) (.or (.not (.call "is_whole" S_is_whole (.cons (.var 3) (.nil)))) (.one (.not (.call "is_number" S_is_number (.cons (.var 4) (.nil))))))) (.cons (.ret (.bl false)) (.nil)) (.nil)) (.cons (.ife (.or (.not (.chain .LtE .Lt (.int 0) (.var 2) (.bi .len (.cons (.var 0) (.nil))))) (.one (.not (.chain .LtE .Lt (.int 0) (.var 3) (.bi .len (.cons (.var 0) (.nil))))))) (.cons (.ret (.bl false)) (.nil)) (.nil)) (.cons (.ret (.and (.call "is_less" S_is_less (.cons (.glo "NOUGHT" G_NOUGHT) (.cons (.var 4) (.nil)))) (.one (.not (.call "is_less" S_is_less (.cons (.call "taken" S_taken (.cons (.ix (.var 0) (.var 2)) (.cons (.ix (.var 0) (.var 3)) (.nil)))) (.cons (.var 4) (.nil)))))))) (.nil)))))
theorem vc_can_be_done:∀ ds M R E,S_can_be_done ds M R E->rSs C_can_be_done (ends R E) (startD 5 ds) M:=by
 rintro ds M R E ⟨p,s,d,b,rfl,l,c6,hl,gd,hd,q⟩
 rcases hd with ⟨rfl,v,rfl,c⟩ | ⟨rfl,hn⟩
 ·obtain ⟨g,k,x⟩:=v
  have c1:=c.g
  have c2:=c.l
  have c3:=c.pos
  have c4:=c.le
  have c5:=c.sx
  dsimp only at c1 c2 c3 c4 c5
  rw [show lv ⟨g,k,x⟩=.tup [.int (g:Int),.int (k:Int),nm x] from rfl]
  unfold C_can_be_done
  sleep 7
  refine eq_int true ?_
  simp
  sleep 7
  sleep 7
  refine ⟨_,"int",rfl,rfl,?_⟩
  simp
  refine ⟨_,"int",rfl,rfl,?_⟩
  simp
  refine ⟨_,rfl,gnm c5,?_⟩
  rw [isNum_nm]
  simp
  sleep 7
  refine ⟨_,l,?_⟩
  rw [List.length_map,if_pos c1]
  refine ⟨_,l,?_⟩
  rw [List.length_map,if_pos c2]
  sleep 7
  refine ⟨0,x,rfl,.mk (show Sz 1 (0:Rat) from ⟨by decide,by decide⟩) c5 (by decide),?_⟩
  rw [decide_eq_true c3]
  simp
  refine lst_ix (v:=nm (ri s g)) l (at_nat (rw_at c1)) ?_
  refine lst_ix (v:=nm (ri s k)) l (at_nat (rw_at c2)) ?_
  refine ⟨_,_,rfl,.mk (c6 _ (ri_mem c1)) (c6 _ (ri_mem c2)) (by decide),?_⟩
  refine ⟨_,_,rfl,.mk ((c6 _ (ri_mem c1)).sub (c6 _ (ri_mem c2))) c5 (by decide),?_⟩
  have c7:¬ ri s g - ri s k < x:=by grind
  rw [decide_eq_false c7]
  simpa using q
 ·unfold C_can_be_done
  cases hn with
  | oth _ h =>
   obtain ⟨t,ht⟩:=gd.ty
   have z:=tyD_nt h ht
   sleep 7
   refine ⟨t,ht,by simp,?_⟩
   rw [z]
   simp
   sleep 7
   exact q
  | len xs h =>
   sleep 7
   refine eq_int true ?_
   have h':¬ ((xs.length:Int)=3):=by omega
   simp [h']
   sleep 7
   exact q
  | gr x y z h =>
   obtain ⟨t,ht⟩:=(gd.tup x (by simp)).ty
   sleep 7
   refine eq_int true ?_
   simp
   sleep 7
   sleep 7
   refine ⟨x,t,rfl,ht,?_⟩
   rw [not_int ht h]
   simp
   sleep 7
   exact q
  | le x y z h =>
   obtain ⟨t,ht⟩:=(gd.tup y (by simp)).ty
   sleep 7
   refine eq_int true ?_
   simp
   sleep 7
   sleep 7
   refine ⟨_,"int",rfl,rfl,?_⟩
   simp
   refine ⟨y,t,rfl,ht,?_⟩
   rw [not_int ht h]
   simp
   sleep 7
   exact q
  | am x y z h =>
   sleep 7
   refine eq_int true ?_
   simp
   sleep 7
   sleep 7
   refine ⟨_,"int",rfl,rfl,?_⟩
   simp
   refine ⟨_,"int",rfl,rfl,?_⟩
   simp
   refine ⟨_,rfl,gd.tup z (by simp),?_⟩
   rw [h]
   simp
   sleep 7
   exact q
  | rg x y w h =>
   sleep 7
   refine eq_int true ?_
   simp
   sleep 7
   sleep 7
   refine ⟨_,"int",rfl,rfl,?_⟩
   simp
   refine ⟨_,"int",rfl,rfl,?_⟩
   simp
   refine ⟨_,rfl,gd.tup _ (by simp),?_⟩
   rw [isNum_nm]
   simp
   sleep 7
   by_cases h0:0<=x
   ·rw [if_pos h0]
    refine ⟨_,l,?_⟩
    rw [List.length_map,if_neg (by omega)]
    sleep 7
    exact q
   ·rw [if_neg h0]
    sleep 7
    exact q
  | rl x y w h1 h =>
   sleep 7
   refine eq_int true ?_
   simp
   sleep 7
   sleep 7
   refine ⟨_,"int",rfl,rfl,?_⟩
   simp
   refine ⟨_,"int",rfl,rfl,?_⟩
   simp
   refine ⟨_,rfl,gd.tup _ (by simp),?_⟩
   rw [isNum_nm]
   simp
   sleep 7
   refine ⟨_,l,?_⟩
   rw [List.length_map,if_pos h1]
   by_cases h0:0<=y
   ·rw [if_pos h0]
    refine ⟨_,l,?_⟩
    rw [List.length_map,if_neg (by omega)]
    sleep 7
    exact q
   ·rw [if_neg h0]
    sleep 7
    exact q
  | neg x y w h1 h2 h =>
   have sw:=gd_sz (gd.tup (nm w) (by simp))
   sleep 7
   refine eq_int true ?_
   simp
   sleep 7
   sleep 7
   refine ⟨_,"int",rfl,rfl,?_⟩
   simp
   refine ⟨_,"int",rfl,rfl,?_⟩
   simp
   refine ⟨_,rfl,gd.tup _ (by simp),?_⟩
   rw [isNum_nm]
   simp
   sleep 7
   refine ⟨_,l,?_⟩
   rw [List.length_map,if_pos h1]
   refine ⟨_,l,?_⟩
   rw [List.length_map,if_pos h2]
   sleep 7
   refine ⟨0,w,rfl,.mk (show Sz 1 (0:Rat) from ⟨by decide,by decide⟩) sw (by decide),?_⟩
   rw [decide_eq_false (show ¬ 0 < w by grind)]
   simpa using q
  | big x y w h1 h2 h0 h =>
   have sw:=gd_sz (gd.tup (nm w) (by simp))
   sleep 7
   refine eq_int true ?_
   simp
   sleep 7
   sleep 7
   refine ⟨_,"int",rfl,rfl,?_⟩
   simp
   refine ⟨_,"int",rfl,rfl,?_⟩
   simp
   refine ⟨_,rfl,gd.tup _ (by simp),?_⟩
   rw [isNum_nm]
   simp
   sleep 7
   refine ⟨_,l,?_⟩
   rw [List.length_map,if_pos h1]
   refine ⟨_,l,?_⟩
   rw [List.length_map,if_pos h2]
   sleep 7
   refine ⟨0,w,rfl,.mk (show Sz 1 (0:Rat) from ⟨by decide,by decide⟩) sw (by decide),?_⟩
   rw [decide_eq_true h0]
   simp
   refine lst_ix (v:=nm (ri s x)) l (at_nat (rw_at h1)) ?_
   refine lst_ix (v:=nm (ri s y)) l (at_nat (rw_at h2)) ?_
   refine ⟨_,_,rfl,.mk (c6 _ (ri_mem h1)) (c6 _ (ri_mem h2)) (by decide),?_⟩
   refine ⟨_,_,rfl,.mk ((c6 _ (ri_mem h1)).sub (c6 _ (ri_mem h2))) sw (by decide),?_⟩
   rw [decide_eq_true h]
   simpa using q
inductive Lvd (M:Mem) (d e:DL.D) (Q E:DK):Prop
 | row:areNums 1 24 d=false->Gd M d->(∀ M',MExt M M'->E (.exc "NoRow" .non) M')->Lvd M d e Q E
 | no (s:List Rat):d=rw s->1<=s.length->s.length<=24->(∀ y∈s,Sz 900 y)->Gd M e->(∀ xs,e≠.tup xs)->(∀ M',MExt M M'->E (.exc "NoLevel" .non) M')->Lvd M d e Q E
 | bad (s:List Rat) (vs:List Lv) (x:DL.D) (r:List DL.D):d=rw s->1<=s.length->s.length<=24->(∀ y∈s,Sz 900 y)->(∀ y∈runL vs s,Sz 900 y)->e=.tup (vs.map lv++x :: r)->Way s vs->Gd M x->NoL (runL vs s) x->(∀ M',MExt M M'->E (.exc "NoLevel" (.int vs.length)) M')->Lvd M d e Q E
 | good (s:List Rat) (vs:List Lv):d=rw s->1<=s.length->s.length<=24->(∀ y∈s,Sz 900 y)->e=.tup (vs.map lv)->Way s vs->(∀ M',MExt M M'->Q (rw (runL vs s)) M')->Lvd M d e Q E
theorem Can.gd {M:Mem} {v:Lv} {s:List Rat} (c:Can v s) (hl:s.length<=100):Gd M (lv v):=by
 have h1:=c.g
 have h2:=c.l
 exact gtc (gsm (by omega)) (gtc (gsm (by omega)) (gtc (gnm c.sx) gt0))
theorem nums_rw {s:List Rat} (s1:1<=s.length) (s24:s.length<=24):areNums 1 24 (rw s)=true:=by
 have hl:(s.map nm).length=s.length:=List.length_map ..
 have ha:(s.map nm).all isNum=true:=List.all_eq_true.mpr fun d hd=>by
  obtain ⟨x,_,rfl⟩:=List.mem_map.mp hd
  exact isNum_nm x
 show (decide ((1:Int)<=((s.map nm).length:Int)) && decide (((s.map nm).length:Int)<=24) && (s.map nm).all isNum)=true
 rw [ha,hl,decide_eq_true (show (1:Int)<=s.length by omega),decide_eq_true (show (s.length:Int)<=24 by omega)]; rfl
noncomputable def S_levelled:DSp:=fun ds M Q E=>∃ (d e:DL.D),ds=[d,e]/\Lvd M d e Q E
noncomputable def C_levelled:CSs:=.cons (.expr (.call "want_steps" S_want_steps (.cons (.var 0) (.nil)))) (.cons (.ife (.not (.bi .isinstance (.cons (.var 1) (.cons (.ty .tuple) (.nil))))) (.cons (.rsi "NoLevel" (.cons (.non) (.nil))) (.nil)) (.nil)) (.cons (.set 2 (.bi .list (.cons (.var 0) (.nil)))) (.cons (.fr (.tup (.cons (.name 3) (.cons (.name 4) (.nil)))) (.enum (.cons (.var 1) (.nil))) (.cons (.ife (.not (.call "can_be_done" S_can_be_done (.cons (.var 2) (.cons (.var 4) (.nil))))) (.cons (.rsi "NoLevel" (.cons (.var 3) (.nil))) (.nil)) (.nil)) (.cons (.expr (.call "walk" S_walk (.cons (.var 2) (.cons (.var 4) (.nil))))) (.nil)))) (.cons (.ret (.bi .tuple (.cons (.var 2) (.nil)))) (.nil)))))
theorem vc_levelled:∀ ds M R E,S_levelled ds M R E->rSs C_levelled (ends R E) (startD 5 ds) M:=by
 rintro ds M R E ⟨d,e,rfl,h⟩
 unfold C_levelled
 cases h with
 | row h1 gd q =>
  sleep 7
  refine ⟨_,rfl,gd,fun M1 x1=>?_⟩
  rw [h1]
  simpa using q M1 x1
 | no s e1 s1 s24 sz ge hn q =>
  subst e1
  obtain ⟨t,ht⟩:=ge.ty
  have z:=tyD_nt hn ht
  sleep 7
  refine ⟨_,rfl,gd_rw sz (by decide),fun M1 x1=>?_⟩
  rw [if_pos (nums_rw s1 s24)]
  sleep 7
  obtain ⟨t,ht⟩:=(Gd.ext x1 _ ge).ty
  have z:=tyD_nt hn ht
  refine ⟨t,ht,by simp,?_⟩
  rw [z]
  simp
  sleep 7
  (try simp only [dRaiseI])
  sleep 8
  exact q M1 x1
 | bad s vs x r e1 s1 s24 sz sz2 e2 W gx nl q =>
  subst e1 e2
  sleep 7
  refine ⟨_,rfl,gd_rw sz (by decide),fun M1 x1=>?_⟩
  rw [if_pos (nums_rw s1 s24)]
  sleep 7
  sleep 7
  intro p M2 e2 x2 l2
  have ep:M p=none:=MExt.none x1 e2
  (try dsimp only); rw [rSs_cons]; simp [rS,rE,rEs,rO,rG,rGs,rI,DL.plain,dSeq,dNext,dBreak,dCont,dDrop,dRet,dRetN,dIfS,dNever,dAsg,dPar,gdName,gdCons,gdNil,gdSub,dVar,dC,d2,dNil,dCons,dTup,dLst,dCB,dCall,dCallV,dTest,dAnd,dOr,dNot,dAndV,dOrV,dNotB,dNeg,dIfE,dTru,dChain,dSl,dRev,dPart,dNoPart,dApp,fInt,dExt,dAug,dTwo,dDic0,dDic1,biSem,tyStr,bOp,cOp,bInt,cInt,truD,fAbs,fMax,fMin,fStr,fDivmod,itRng,CGs.len,startD,and_assoc,sizeLine_eq,dRaise,dTry,isSub,rSs_nil,dIdx,fSum,dIns,diZip,diSeq,dFld,dMeth,dMake,dSetF,dFor,diEnum,itEnum]
  refine forD_ix (fun i δ M'=>∃ (w3 w4:Option DL.D),i<=vs.length/\MExt M M'/\M' p=some (.ls ((runL (vs.take i) s).map nm))/\δ=[some (rw s),some (.tup (vs.map lv++x :: r)),some (.lst p),w3,w4]) (fun _ _ _ _=>trivial) ?_ ?_ ⟨_,_,Nat.zero_le _,x1.trans x2,l2,rfl⟩
  ·rintro δ M' ⟨w3,w4,hi,_⟩
   rw [show (enD (vs.map lv++x :: r)).length=vs.length + (r.length + 1) by unfold enD; simp] at hi
   omega
  ·rintro i y hy N hN δ M' ⟨w3,w4,hi,xx,l,rfl⟩
   have rl:=runL_len (vs.take i) s
   by_cases hv:i < vs.length
   ·obtain rfl:y=.tup [.int (i:Int),lv vs[i]]:=by
     obtain ⟨h,e⟩:=List.getElem?_eq_some_iff.mp hy
     rw [<- e]; simp [enD,List.getElem_append,hv]
    have c:=W i hv
    have tk:vs.take (i + 1)=vs.take i++[vs[i]]:=List.take_succ_eq_append_getElem hv
    sleep 8
    sleep 7
    refine ⟨p,_,_,true,rfl,l,c.ss,by omega,c.gd (by omega),.inl ⟨rfl,_,rfl,c⟩,?_⟩
    simp
    sleep 7
    refine ⟨p,_,_,rfl,l,c,by omega,?_⟩
    refine hN _ _ ⟨_,_,hv,MExt.upd_new ep xx,?_,rfl⟩
    rw [mupd_same,tk,runL_add]
   ·obtain rfl:i=vs.length:=by omega
    obtain rfl:y=.tup [.int (vs.length:Int),x]:=by
     obtain ⟨h,e⟩:=List.getElem?_eq_some_iff.mp hy
     rw [<- e]; simp [enD,List.getElem_append]
    rw [List.take_length] at l rl
    sleep 8
    sleep 7
    refine ⟨p,_,_,false,rfl,l,sz2,by omega,Gd.ext xx _ gx,.inr ⟨rfl,nl⟩,?_⟩
    simp
    sleep 7
    (try simp only [dRaiseI])
    sleep 8
    exact q M' xx
 | good s vs e1 s1 s24 sz e2 W q =>
  subst e1 e2
  sleep 7
  refine ⟨_,rfl,gd_rw sz (by decide),fun M1 x1=>?_⟩
  rw [if_pos (nums_rw s1 s24)]
  sleep 7
  sleep 7
  intro p M2 e2 x2 l2
  have ep:M p=none:=MExt.none x1 e2
  (try dsimp only); rw [rSs_cons]; simp [rS,rE,rEs,rO,rG,rGs,rI,DL.plain,dSeq,dNext,dBreak,dCont,dDrop,dRet,dRetN,dIfS,dNever,dAsg,dPar,gdName,gdCons,gdNil,gdSub,dVar,dC,d2,dNil,dCons,dTup,dLst,dCB,dCall,dCallV,dTest,dAnd,dOr,dNot,dAndV,dOrV,dNotB,dNeg,dIfE,dTru,dChain,dSl,dRev,dPart,dNoPart,dApp,fInt,dExt,dAug,dTwo,dDic0,dDic1,biSem,tyStr,bOp,cOp,bInt,cInt,truD,fAbs,fMax,fMin,fStr,fDivmod,itRng,CGs.len,startD,and_assoc,sizeLine_eq,dRaise,dTry,isSub,rSs_nil,dIdx,fSum,dIns,diZip,diSeq,dFld,dMeth,dMake,dSetF,dFor,diEnum,itEnum]
  refine forD_ix (fun i δ M'=>∃ (w3 w4:Option DL.D),MExt M M'/\M' p=some (.ls ((runL (vs.take i) s).map nm))/\δ=[some (rw s),some (.tup (vs.map lv)),some (.lst p),w3,w4]) (fun _ _ _ _=>trivial) ?_ ?_ ⟨_,_,x1.trans x2,l2,rfl⟩
  ·rintro δ M' ⟨w3,w4,x,l,rfl⟩
   rw [show (enD (vs.map lv)).length=vs.length by unfold enD; simp,List.take_length] at l
   sleep 7
   exact ⟨_,l,q M' x⟩
  ·rintro i y hy N hN δ M' ⟨w3,w4,x,l,rfl⟩
   obtain ⟨hi,rfl⟩:∃ hi:i < vs.length,y=.tup [.int (i:Int),lv vs[i]]:=by
    obtain ⟨h,e⟩:=List.getElem?_eq_some_iff.mp hy
    have h':i < vs.length:=by simpa [enD] using h
    exact ⟨h',by rw [<- e]; simp [enD]⟩
   have c:=W i hi
   have rl:=runL_len (vs.take i) s
   have tk:vs.take (i + 1)=vs.take i++[vs[i]]:=List.take_succ_eq_append_getElem hi
   sleep 8
   sleep 7
   refine ⟨p,_,_,true,rfl,l,c.ss,by omega,c.gd (by omega),.inl ⟨rfl,_,rfl,c⟩,?_⟩
   simp
   sleep 7
   refine ⟨p,_,_,rfl,l,c,by omega,?_⟩
   refine hN _ _ ⟨_,_,MExt.upd_new ep x,?_,rfl⟩
   rw [mupd_same,tk,runL_add]
end K
end
noncomputable section
namespace K
open PySem DL Q
noncomputable def canL (s:List Rat):DL.D->Option Lv
 | .tup [.int g,.int l,z]=>match num? z with
  | some q=>if 0<=g/\g < s.length/\0<=l/\l < s.length/\0 < q/\q<=ri s g.toNat - ri s l.toNat then some ⟨g.toNat,l.toNat,q⟩ else none
  | none=>none
 | _=>none
theorem canL_some {s:List Rat} {d:DL.D} {v:Lv} (h:canL s d=some v):d=lv v/\v.g < s.length/\v.l < s.length/\0 < v.x/\v.x<=ri s v.g - ri s v.l:=by
 unfold canL at h
 split at h
 ·rename_i g l z
  split at h
  ·rename_i q e
   split at h
   ·rename_i c
    cases h
    obtain ⟨c1,c2,c3,c4,c5,c6⟩:=c
    refine ⟨?_,by show g.toNat < _; omega,by show l.toNat < _; omega,c5,c6⟩
    unfold lv
    rw [num_eq e]
    show D.tup [.int g,.int l,nm q]=.tup [.int (g.toNat:Int),.int (l.toNat:Int),nm q]
    rw [Int.toNat_of_nonneg c1,Int.toNat_of_nonneg c3]
   ·cases h
  ·cases h
 ·cases h
theorem canL_none {s:List Rat} {d:DL.D} (h:canL s d=none):NoL s d:=by
 by_cases ht:∃ xs,d=.tup xs
 ·obtain ⟨xs,rfl⟩:=ht
  by_cases hl:xs.length=3
  ·obtain ⟨x,y,z,rfl⟩:∃ x y z,xs=[x,y,z]:=by
    match xs,hl with
    | [x,y,z],_=>exact ⟨x,y,z,rfl⟩
   by_cases hx:∃ i,x=.int i
   ·obtain ⟨g,rfl⟩:=hx
    by_cases hy:∃ i,y=.int i
    ·obtain ⟨l,rfl⟩:=hy
     cases hz:num? z with
     | none=>exact .am g l z (by unfold isNum; rw [hz]; rfl)
     | some q =>
      obtain rfl:=num_eq hz
      by_cases c1:g < 0\/(s.length:Int)<=g
      ·exact .rg g l q c1
      obtain ⟨g,rfl⟩:=Int.eq_ofNat_of_zero_le (show 0<=g by omega)
      have hg:g < s.length:=by omega
      by_cases c2:l < 0\/(s.length:Int)<=l
      ·exact .rl g l q hg c2
      obtain ⟨l,rfl⟩:=Int.eq_ofNat_of_zero_le (show 0<=l by omega)
      have hl':l < s.length:=by omega
      by_cases c3:0 < q
      ·by_cases c4:ri s g - ri s l < q
       ·exact .big g l q hg hl' c3 c4
       ·exfalso
        unfold canL at h
        simp only [num_nm] at h
        rw [if_pos ⟨by omega,by omega,by omega,by omega,c3,by show q<=ri s g - ri s l; grind⟩] at h
        cases h
      ·exact .neg g l q hg hl' (by grind)
    ·exact .le g y z fun i e=>hy ⟨i,e⟩
   ·exact .gr x y z fun i e=>hx ⟨i,e⟩
  ·exact .len xs hl
 ·exact .oth d fun xs e=>ht ⟨xs,e⟩
noncomputable def walkG:List Rat->List DL.D->Option (List Rat)
 | s,[]=>some s
 | s,d :: r=>match canL s d with
  | some v=>walkG (doL v s) r
  | none=>none
theorem Way.cons {s:List Rat} {v:Lv} {vs:List Lv} (c:Can v s) (h:Way (doL v s) vs):Way s (v :: vs):=fun i hi=>by
 cases i with
 | zero=>exact c
 | succ i =>
  have:=h i (by simpa using hi)
  simpa [runL] using this
theorem doL_sz {s:List Rat} {v:Lv} {m k:Nat} (h:∀ y∈s,Sz m y) (hx:Sz k v.x) (hg:v.g < s.length) (hl:v.l < s.length):∀ y∈doL v s,Sz (m + 2 * (k + 2)) y:=by
 have s1:∀ y∈s.set v.g (ri s v.g - v.x),Sz (m + (k + 2)) y:=fun y hy=>by
  rcases set_mem hy with hy | rfl
  ·exact (h y hy).mono (by omega)
  ·exact ((h _ (ri_mem hg)).sub hx).mono (by omega)
 have hl':v.l < (s.set v.g (ri s v.g - v.x)).length:=by rw [List.length_set]; exact hl
 intro y hy
 unfold doL at hy
 generalize s.set v.g (ri s v.g - v.x)=s' at s1 hl' hy
 rcases set_mem hy with hy | rfl
 ·exact (s1 y hy).mono (by omega)
 ·exact ((s1 _ (ri_mem hl')).add hx).mono (by omega)
theorem walk_split (k:Nat) (hk:k<=800):∀ (xs:List DL.D) (s:List Rat) (m:Nat),(∀ y∈s,Sz m y)->(∀ d∈xs,∀ v,d=lv v->Sz k v.x)->m + xs.length * (2 * (k + 2))<=900 ->
  (∃ vs,xs=vs.map lv/\Way s vs/\(∀ y∈runL vs s,Sz 900 y)/\walkG s xs=some (runL vs s))\/∃ vs x r,xs=vs.map lv++x :: r/\Way s vs/\(∀ y∈runL vs s,Sz 900 y)/\NoL (runL vs s) x/\walkG s xs=none
 | [],s,m,h,_,hm=>.inl ⟨[],rfl,.nil s,fun y hy=>(h y hy).mono (by omega),rfl⟩
 | d :: xs,s,m,h,ha,hm=>by
  rw [List.length_cons,Nat.succ_mul] at hm
  cases e:canL s d with
  | none=>exact .inr ⟨[],d,xs,rfl,.nil s,fun y hy=>(h y hy).mono (by omega),canL_none e,by show (match canL s d with | some v=>walkG (doL v s) xs | none=>none)=none; rw [e]⟩
  | some v =>
   obtain ⟨rfl,h1,h2,h3,h4⟩:=canL_some e
   have hx:=ha (lv v) (by simp) v rfl
   have c:Can v s:=⟨h1,h2,h3,h4,hx.mono (by omega),fun y hy=>(h y hy).mono (by omega)⟩
   have ew:walkG s (lv v :: xs)=walkG (doL v s) xs:=by show (match canL s (lv v) with | some v=>walkG (doL v s) xs | none=>none)=_; rw [e]
   rcases walk_split k hk xs (doL v s) (m + 2 * (k + 2)) (doL_sz h hx h1 h2) (fun d hd=>ha d (List.mem_cons_of_mem _ hd)) (by omega) with ⟨vs,e1,e2,e3,e4⟩ | ⟨vs,x,r,e1,e2,e3,e4,e5⟩
   ·exact .inl ⟨v :: vs,by rw [e1]; rfl,.cons c e2,e3,by rw [ew,e4]; rfl⟩
   ·exact .inr ⟨v :: vs,x,r,by rw [e1]; rfl,.cons c e2,e3,e4,by rw [ew,e5]⟩
end K
end
noncomputable section
namespace K
open PySem DL Q
theorem eq_non {M:Mem} {Q:DK} {s:List Rat} (q:Q (.bl false) M):cEq false .non (rw s) M Q:=by
 obtain ⟨e',h1,h2,h3⟩:=enc_rw.ex
 have h:=h1 M s
 cases hz:e' s with
 | _=>first
  | (refine cEq_of .non (hz ▸ h) (by simp [PyData.depth]) ?_; simpa [PyData.eqv] using q)
  | (rw [hz] at h; cases h)
theorem walkG_len:∀ {xs:List DL.D} {s r:List Rat},walkG s xs=some r->r.length=s.length
 | [],s,r,h=>by cases h; rfl
 | d :: xs,s,r,h=>by
  unfold walkG at h
  split at h
  ·rw [walkG_len h,doL_len]
  ·cases h
noncomputable def Lev (d e f:DL.D):Prop:=∃ (s o:List Rat) (xs:List DL.D),d=rw s/\e=rw o/\1<=s.length/\s.length<=24/\f=.tup xs/\walkG o xs=some s
noncomputable def levC (d e f:DL.D):Bool:=@decide (Lev d e f) (Classical.propDecidable _)
theorem levC_iff {d e f:DL.D}:levC d e f=true ↔ Lev d e f:=@decide_eq_true_iff _ (Classical.propDecidable _)
theorem levC_not {d e f:DL.D} (h:¬ Lev d e f):levC d e f=false:=by
 rw [<- Bool.not_eq_true,levC_iff]; exact h
theorem levC_d {d e f:DL.D} (h:areNums 1 24 d=false):levC d e f=false:=levC_not fun ⟨s,o,xs,e1,e2,h1,h2,e3,h3⟩=>by
 subst e1
 rw [areNums_rw (by omega) (by omega)] at h; cases h
theorem levC_e {d e f:DL.D} (h:areNums 1 24 e=false):levC d e f=false:=levC_not fun ⟨s,o,xs,e1,e2,h1,h2,e3,h3⟩=>by
 subst e2
 have:=walkG_len h3
 rw [areNums_rw (by omega) (by omega)] at h; cases h
theorem levC_f {d e f:DL.D} (h:∀ xs,f≠.tup xs):levC d e f=false:=levC_not fun ⟨s,o,xs,e1,e2,h1,h2,e3,h3⟩=>h _ e3
theorem levC_no {s o:List Rat} {xs:List DL.D} (h:walkG o xs≠some s):levC (rw s) (rw o) (.tup xs)=false:=levC_not fun ⟨s',o',xs',e1,e2,h1,h2,e3,h3⟩=>by
 obtain rfl:=rw_inj e1
 obtain rfl:=rw_inj e2
 cases e3
 exact h h3
theorem levC_some {s o u:List Rat} {xs:List DL.D} (h1:1<=s.length) (h2:s.length<=24) (h:walkG o xs=some u):levC (rw s) (rw o) (.tup xs)=decide (u=s):=by
 by_cases c:u=s
 ·subst c
  rw [decide_eq_true rfl]
  exact levC_iff.mpr ⟨_,_,_,rfl,rfl,h1,h2,rfl,h⟩
 ·rw [decide_eq_false c]
  exact levC_no fun z=>c (by rw [h] at z; exact Option.some.inj z)
structure Ok (M:Mem) (d e f:DL.D):Prop where
 d':Sm M 60 d
 e':Sm M 52 e
 f':Sm M 52 f
 tl:Tl 7 f
theorem Ok.kp {M M':Mem} {d e f:DL.D} (h:Ok M d e f) (x:Kp M M'):Ok M' d e f:=⟨h.d'.kp x,h.e'.kp x,h.f'.kp x,h.tl⟩
theorem Sm.lv {M:Mem} {n:Nat} {v:Lv} (h:Sm M n (lv v)):Sz n v.x:=(h.parts (nm v.x) (by simp [K.lv])).num
theorem Ok.split {M:Mem} {d:DL.D} {o:List Rat} {xs:List DL.D} (h:Ok M d (rw o) (.tup xs)):(∃ vs,xs=vs.map lv/\Way o vs/\(∀ y∈runL vs o,Sz 900 y)/\walkG o xs=some (runL vs o))\/∃ vs x r,xs=vs.map lv++x :: r/\Way o vs/\(∀ y∈runL vs o,Sz 900 y)/\NoL (runL vs o) x/\walkG o xs=none :=
 walk_split 52 (by decide) xs o 52 h.e'.row (fun d hd v e=>by subst e; exact (h.f'.parts _ hd).lv) (by have:=h.tl xs rfl; omega)
noncomputable def S_leveller_holds:DSp:=fun ds M Q E=>∃ (d e f:DL.D),ds=[.tup [d,e],f]/\Ok M d e f/\∀ M',MExt M M'->Q (.bl (levC d e f)) M'
noncomputable def C_leveller_holds:CSs:=.cons (.asg (.tup (.cons (.name 2) (.cons (.name 3) (.nil)))) (.var 0)) (.cons (.ife (.or (.not (.call "are_steps" S_are_steps (.cons (.var 2) (.nil)))) (.one (.not (.call "are_steps" S_are_steps (.cons (.var 3) (.nil)))))) (.cons (.ret (.bl false)) (.nil)) (.nil)) (.cons (.trn (.cons (.ret (.cmp .Eq (.call "levelled" S_levelled (.cons (.var 3) (.cons (.var 1) (.nil)))) (.var 2))) (.nil)) "NoLevel" (.cons (.ret (.bl false)) (.nil))) (.nil)))
theorem vc_leveller_holds:∀ ds M R E,S_leveller_holds ds M R E->rSs C_leveller_holds (ends R E) (startD 4 ds) M:=by
 rintro ds M R E ⟨d,e,f,rfl,ok,q⟩
 unfold C_leveller_holds
 sleep 7
 refine nx_gen fun J hJ=>?_
 have tail:∀ s o:List Rat,d=rw s->e=rw o->1<=s.length->s.length<=24->1<=o.length->o.length<=24->∀ M',MExt M M'->J [some (.tup [d,e]),some f,some d,some e] M':=by
  rintro s o rfl rfl h1 h24 o1 o24 M1 x1
  refine hJ _ _ ?_
  (try dsimp only); rw [rSs_cons]; simp [rS,rE,rEs,rO,rG,rGs,rI,DL.plain,dSeq,dNext,dBreak,dCont,dDrop,dRet,dRetN,dIfS,dNever,dAsg,dPar,gdName,gdCons,gdNil,gdSub,dVar,dC,d2,dNil,dCons,dTup,dLst,dCB,dCall,dCallV,dTest,dAnd,dOr,dNot,dAndV,dOrV,dNotB,dNeg,dIfE,dTru,dChain,dSl,dRev,dPart,dNoPart,dApp,fInt,dExt,dAug,dTwo,dDic0,dDic1,biSem,tyStr,bOp,cOp,bInt,cInt,truD,fAbs,fMax,fMin,fStr,fDivmod,itRng,CGs.len,startD,and_assoc,sizeLine_eq,dRaise,dTry,isSub,rSs_nil,dIdx,fSum,dIns,diZip,diSeq,dFld,dMeth,dMake,dSetF,dTrn]
  sleep 7
  have ok1:=ok.kp (MExt.kp x1)
  have so:∀ y∈o,Sz 900 y:=fun y hy=>(ok1.e'.row y hy).mono (by decide)
  refine ⟨rw o,f,rfl,?_⟩
  by_cases hf:∃ xs,f=.tup xs
  ·obtain ⟨xs,rfl⟩:=hf
   rcases ok1.split with ⟨vs,rfl,W,sz,hw⟩ | ⟨vs,x,r,rfl,W,sz,nl,hw⟩
   ·refine .good o vs rfl o1 o24 so rfl W fun M2 x2=>?_
    refine eq_rw false ?_
    have:=q M2 (x1.trans x2)
    rw [levC_some h1 h24 hw] at this
    exact this
   ·refine .bad o vs x r rfl o1 o24 so sz rfl W ((ok1.f'.parts x (by simp)).gd (by decide)) nl fun M2 x2=>?_
    refine ⟨_,rfl,.inl rfl,?_⟩
    have:=q M2 (x1.trans x2)
    rw [levC_no (by rw [hw]; nofun)] at this
    sleep 7
    exact this
  ·refine .no o rfl o1 o24 so (ok1.f'.gd (by decide)) (fun xs e=>hf ⟨xs,e⟩) fun M2 x2=>?_
   refine ⟨_,rfl,.inl rfl,?_⟩
   have:=q M2 (x1.trans x2)
   rw [levC_f fun xs e=>hf ⟨xs,e⟩] at this
   sleep 7
   exact this
 sleep 8
 refine ⟨d,rfl,ok.d'.gd (by decide),fun M1 x1=>?_⟩
 cases h1:areNums 1 24 d with
 | false =>
  simp
  sleep 7
  have:=q M1 x1
  rwa [levC_d h1] at this
 | true =>
  simp
  refine ⟨e,rfl,(ok.kp (MExt.kp x1)).e'.gd (by decide),fun M2 x2=>?_⟩
  cases h2:areNums 1 24 e with
  | false =>
   simp
   sleep 7
   have:=q M2 (x1.trans x2)
   rwa [levC_e h2] at this
  | true =>
   simp
   obtain ⟨s,e1,s1,s24⟩:=areNums_row h1
   obtain ⟨o,e2,o1,o24⟩:=areNums_row h2
   exact tail s o e1 e2 (by omega) (by omega) (by omega) (by omega) M2 (x1.trans x2)
noncomputable def S_holds:DSp:=fun ds M Q E=>∃ (d e f:DL.D),ds=[.tup [.str "leveller",d,e],f]/\Ok M d e f/\∀ M',MExt M M'->Q (.bl (levC d e f)) M'
noncomputable def C_holds:CSs:=.cons (.ife (.or (.not (.bi .isinstance (.cons (.var 0) (.cons (.ty .tuple) (.nil))))) (.or (.cmp .Eq (.bi .len (.cons (.var 0) (.nil))) (.int 0)) (.one (.not (.bi .isinstance (.cons (.ix (.var 0) (.int 0)) (.cons (.ty .str) (.nil)))))))) (.cons (.ret (.bl false)) (.nil)) (.nil)) (.cons (.par 2 3 (.ix (.var 0) (.int 0)) (.sl (.var 0) (.some (.int 1)) (.none))) (.cons (.ife (.or (.cmp .NotIn (.var 2) (.glo "SIZES" G_SIZES)) (.one (.cmp .NotEq (.bi .len (.cons (.var 3) (.nil))) (.ix (.glo "SIZES" G_SIZES) (.var 2))))) (.cons (.ret (.bl false)) (.nil)) (.nil)) (.cons (.ife (.cmp .In (.var 2) (.glo "WITH_PAPER" G_WITH_PAPER)) (.cons (.set 4 (.ix (.glo "WITH_PAPER" G_WITH_PAPER) (.var 2))) (.cons (.ret (.callv 4 [("leveller_holds",S_leveller_holds)] (.cons (.var 3) (.cons (.var 1) (.nil))))) (.nil))) (.nil)) (.cons (.set 5 (.ix (.glo "WITHOUT_PAPER" G_WITHOUT_PAPER) (.var 2))) (.cons (.ret (.and (.cmp .Is (.var 1) (.non)) (.one (.callv 5 [] (.cons (.var 3) (.nil)))))) (.nil))))))
theorem vc_holds:∀ ds M R E,S_holds ds M R E->rSs C_holds (ends R E) (startD 6 ds) M:=by
 rintro ds M R E ⟨d,e,p,rfl,ok,q⟩
 unfold C_holds
 obtain ⟨w,hw⟩:∃ w:Str,w="leveller":=⟨_,rfl⟩
 rw [<- hw]
 have n1:sizesK.contains w=true:=by subst hw; decide +kernel
 have n2:sdAt sizesK sizesV w=some (.int 2):=by subst hw; rfl
 have n3:withK.contains w=true:=by subst hw; decide +kernel
 have n4:sdAt withK withV w=some (.fn "leveller_holds"):=by subst hw; rfl
 refine nx_gen fun J hJ=>?_
 have t1:J [some (.tup [.str w,d,e]),some p,none,none,none,none] M:=by
  refine hJ _ _ ?_
  sleep 7
  refine ⟨.str w,at_zero _ _,?_⟩
  rw [show cutG [D.str w,d,e] (some 1) none=[d,e] from rfl]
  (try dsimp only)
  refine nx_gen fun J hJ=>?_
  have t2:J [some (.tup [.str w,d,e]),some p,some (.str w),some (.tup [d,e]),none,none] M:=by
   refine hJ _ _ ?_
   refine nx_gen fun J hJ=>?_
   sleep 8
   refine sd_in n3 ?_
   simp
   sleep 7
   refine sd_ix n4 ?_
   sleep 7
   exact ⟨d,e,p,rfl,ok,q⟩
  sleep 8
  refine sd_notIn n1 ?_
  simp
  refine sd_ix n2 ?_
  refine eq_int true ?_
  simp
  exact t2
 sleep 8
 refine eq_int false ?_
 simp
 refine ⟨.str w,at_zero _ _,?_⟩
 refine is_str ?_
 simp
 exact t1
noncomputable def S_law_told:DSp:=fun ds M Q E=>∃ (d e p:DL.D) (b:Bool),ds=[.tup [.str "leveller",d,e],p,.bl b]/\Ok M d e p/\b=levC d e p/\∀ M',MExt M M'->Q (.bl true) M'
noncomputable def C_law_told:CSs:=.cons (.set 3 (.call "holds" S_holds (.cons (.var 0) (.cons (.var 1) (.nil))))) (.cons (.ret (.and (.bi .isinstance (.cons (.var 3) (.cons (.ty .bool) (.nil)))) (.one (.cmp .Eq (.var 3) (.var 2))))) (.nil))
theorem vc_law_told:∀ ds M R E,S_law_told ds M R E->rSs C_law_told (ends R E) (startD 4 ds) M:=by
 rintro ds M R E ⟨d,e,p,b,rfl,ok,rfl,q⟩
 unfold C_law_told
 sleep 7
 refine ⟨d,e,p,rfl,ok,fun M1 x1=>?_⟩
 sleep 7
 refine isi_ty "bool" true ?_ rfl (by decide) (by decide)
 simp
 refine eq_bl false ?_
 simp
 exact q M1 x1
end K
end
noncomputable section
namespace K
open PySem DL Q
theorem num_np {z:Rat}:z.num<=0 ↔ z<=0:=by
 have h:=Rat.num_nonneg (q:=-z)
 rw [Rat.neg_num] at h
 constructor
 ·intro c
  have:=h.mp (by omega)
  grind
 ·intro c
  have:=h.mpr (by grind)
  omega
noncomputable def wkD (s:List Rat) (xs:List DL.D):DL.D:=match walkG s xs with | some r=>rw r | none=>.non
theorem wkD_some {s r:List Rat} {xs:List DL.D} (h:walkG s xs=some r):wkD s xs=rw r:=by unfold wkD; rw [h]
theorem wkD_none {s:List Rat} {xs:List DL.D} (h:walkG s xs=none):wkD s xs=.non:=by unfold wkD; rw [h]
theorem walkG_step {s:List Rat} {xs:List DL.D} {i:Nat} {y:DL.D} (h:xs[i]?=some y):walkG s (xs.drop i)=match canL s y with | some v=>walkG (doL v s) (xs.drop (i + 1)) | none=>none:=by
 obtain ⟨hi,rfl⟩:=List.getElem?_eq_some_iff.mp h
 rw [List.drop_eq_getElem_cons hi]
 rfl
noncomputable def S_law_walked:DSp:=fun ds M Q E=>∃ (s:List Rat) (f:DL.D) (xs:List DL.D) (m k:Nat),ds=[rw s,f]/\(f=.tup xs\/∃ p,f=.lst p/\M p=some (.ls xs))/\s.length<=24/\(∀ y∈s,Sz m y)/\(∀ d∈xs,Gd M d)/\(∀ d∈xs,∀ v,d=lv v->Sz k v.x)/\k<=800/\m + xs.length * (2 * (k + 2))<=900/\∀ M',MExt M M'->Q (wkD s xs) M'
noncomputable def C_law_walked:CSs:=.cons (.set 2 (.bi .list (.cons (.var 0) (.nil)))) (.cons (.fr (.name 3) (.seq (.var 1)) (.cons (.ife (.or (.not (.bi .isinstance (.cons (.var 3) (.cons (.ty .tuple) (.nil))))) (.or (.cmp .NotEq (.bi .len (.cons (.var 3) (.nil))) (.int 3)) (.or (.not (.call "_law_whole" S_law_whole (.cons (.ix (.var 3) (.int 0)) (.nil)))) (.one (.not (.call "_law_whole" S_law_whole (.cons (.ix (.var 3) (.int 1)) (.nil)))))))) (.cons (.ret (.non)) (.nil)) (.nil)) (.cons (.ife (.or (.not (.chain .LtE .Lt (.int 0) (.ix (.var 3) (.int 0)) (.bi .len (.cons (.var 2) (.nil))))) (.or (.not (.chain .LtE .Lt (.int 0) (.ix (.var 3) (.int 1)) (.bi .len (.cons (.var 2) (.nil))))) (.one (.not (.call "_law_is_number" S_law_is_number (.cons (.ix (.var 3) (.int 2)) (.nil))))))) (.cons (.ret (.non)) (.nil)) (.nil)) (.cons (.ife (.or (.cmp .LtE (.ix (.ix (.var 3) (.int 2)) (.int 0)) (.int 0)) (.one (.call "_law_under" S_law_under (.cons (.call "_law_less_by" S_law_less_by (.cons (.ix (.var 2) (.ix (.var 3) (.int 0))) (.cons (.ix (.var 2) (.ix (.var 3) (.int 1))) (.nil)))) (.cons (.ix (.var 3) (.int 2)) (.nil)))))) (.cons (.ret (.non)) (.nil)) (.nil)) (.cons (.asg (.sub (.var 2) (.ix (.var 3) (.int 0))) (.call "_law_less_by" S_law_less_by (.cons (.ix (.var 2) (.ix (.var 3) (.int 0))) (.cons (.ix (.var 3) (.int 2)) (.nil))))) (.cons (.asg (.sub (.var 2) (.ix (.var 3) (.int 1))) (.call "_law_more" S_law_more (.cons (.ix (.var 2) (.ix (.var 3) (.int 1))) (.cons (.ix (.var 3) (.int 2)) (.nil))))) (.nil))))))) (.cons (.ret (.bi .tuple (.cons (.var 2) (.nil)))) (.nil)))
theorem vc_law_walked:∀ ds M R E,S_law_walked ds M R E->rSs C_law_walked (ends R E) (startD 4 ds) M:=by
 rintro ds M R E ⟨s,f,xs,m,k,rfl,hf,s24,ss,gx,vx,hk,hm,q⟩
 unfold C_law_walked
 sleep 7
 intro p1 M1 e1 x1 l1
 have it:∀ R:List DL.D->(Mem->Prop)->Mem->Prop,(∀ keep:Mem->Prop,(∀ M',MExt M M'->keep M')->R xs keep M1)->itSeq f M1 R:=by
  intro R h
  rcases hf with rfl | ⟨p,rfl,lp⟩
  ·exact h _ fun _ _=>trivial
  ·exact ⟨xs,x1 _ _ lp,h _ fun M' x=>x _ _ lp⟩
 sleep 9
 refine it _ fun keep hkp=>?_
 refine forD_ix (fun i δ M'=>∃ (u:List Rat) (w:Option DL.D),MExt M M'/\M' p1=some (.ls (u.map nm))/\u.length=s.length/\(∀ y∈u,Sz (m + i * (2 * (k + 2))) y)/\walkG s xs=walkG u (xs.drop i)/\δ=[some (rw s),some f,some (.lst p1),w]) (fun _ _ _ ⟨_,_,x,_⟩=>hkp _ x) ?_ ?_ ⟨s,none,x1,l1,rfl,by simpa using ss,by simp,rfl⟩
 ·rintro δ M' ⟨u,w,xm,l,ul,su,hw,rfl⟩
  rw [List.drop_length] at hw
  sleep 7
  refine ⟨_,l,?_⟩
  have:=q M' xm
  rw [wkD_some hw] at this
  exact this
 ·rintro i y hy N hN δ M' ⟨u,w,xm,l,ul,su,hw,rfl⟩
  have hi':i < xs.length:=(List.getElem?_eq_some_iff.mp hy).1
  have ym:y∈xs:=by obtain ⟨h,rfl⟩:=List.getElem?_eq_some_iff.mp hy; exact List.getElem_mem h
  have gy:Gd M' y:=Gd.ext xm _ (gx y ym)
  have him:m + (i + 1) * (2 * (k + 2))<=900:=Nat.le_trans (Nat.add_le_add_left (Nat.mul_le_mul_right _ hi') _) hm
  rw [Nat.succ_mul i] at him
  have sm:∀ i,i < u.length->Sz 900 (ri u i):=fun i hi'=>(su _ (ri_mem hi')).mono (by omega)
  have at_:∀ (v:List Rat) (i:Nat),i < v.length->L2.atI (v.map nm) (i:Int)=some (nm (ri v i)):=fun v i h=>at_nat (rw_at h)
  rw [walkG_step hy] at hw
  sleep 8
  cases hc:canL u y with
  | none =>
   rw [hc] at hw
   have nn:R .non M':=by have:=q M' xm; rwa [wkD_none hw] at this
   have nl:=canL_none hc
   cases nl with
   | oth _ h =>
    obtain ⟨t,ht⟩:=gy.ty
    have z:=tyD_nt h ht
    sleep 7
    refine ⟨t,ht,by simp,?_⟩
    rw [z]
    simp
    sleep 7
    exact nn
   | len xs h =>
    have h':¬ ((xs.length:Int)=3):=by omega
    sleep 7
    refine eq_int true ?_
    simp [h']
    sleep 7
    exact nn
   | gr x y z h =>
    obtain ⟨t,ht⟩:=(gy.tup x (by simp)).ty
    sleep 7
    refine eq_int true ?_
    simp
    refine tix (at_zero _ _) ⟨x,t,rfl,ht,?_⟩
    rw [not_int ht h]
    simp
    sleep 7
    exact nn
   | le x y z h =>
    obtain ⟨t,ht⟩:=(gy.tup y (by simp)).ty
    sleep 7
    refine eq_int true ?_
    simp
    refine tix (at_zero _ _) ⟨_,"int",rfl,rfl,?_⟩
    simp
    refine tix (at_one _ _ _) ⟨y,t,rfl,ht,?_⟩
    rw [not_int ht h]
    simp
    sleep 7
    exact nn
   | am x y z h =>
    sleep 7
    refine eq_int true ?_
    simp
    refine tix (at_zero _ _) ⟨_,"int",rfl,rfl,?_⟩
    simp
    refine tix (at_one _ _ _) ⟨_,"int",rfl,rfl,?_⟩
    simp
    sleep 7
    refine tix (at_zero _ _) ?_
    simp
    by_cases c1:0<=x
    ·simp [c1]
     refine ⟨_,l,?_⟩
     simp
     by_cases c2:x < (u.length:Int)
     ·simp [c2]
      refine tix (at_one _ _ _) ?_
      simp
      by_cases c3:0<=y
      ·simp [c3]
       refine ⟨_,l,?_⟩
       simp
       by_cases c4:y < (u.length:Int)
       ·simp [c4]
        refine tix (v:=z) rfl ⟨z,rfl,gy.tup z (by simp),?_⟩
        rw [h]
        simp
        sleep 7
        exact nn
       ·simp [c4]
        sleep 7
        exact nn
      ·simp [c3]
       sleep 7
       exact nn
     ·simp [c2]
      sleep 7
      exact nn
    ·simp [c1]
     sleep 7
     exact nn
   | rg x y z h =>
    sleep 7
    refine eq_int true ?_
    simp
    refine tix (at_zero _ _) ⟨_,"int",rfl,rfl,?_⟩
    simp
    refine tix (at_one _ _ _) ⟨_,"int",rfl,rfl,?_⟩
    simp
    sleep 7
    refine tix (at_zero _ _) ?_
    simp
    by_cases c1:0<=x
    ·have c2:¬ x < (u.length:Int):=by omega
     simp [c1]
     refine ⟨_,l,?_⟩
     simp [c2]
     sleep 7
     exact nn
    ·simp [c1]
     sleep 7
     exact nn
   | rl x y z h1 h =>
    sleep 7
    refine eq_int true ?_
    simp
    refine tix (at_zero _ _) ⟨_,"int",rfl,rfl,?_⟩
    simp
    refine tix (at_one _ _ _) ⟨_,"int",rfl,rfl,?_⟩
    simp
    sleep 7
    refine tix (at_zero _ _) ?_
    simp
    refine ⟨_,l,?_⟩
    simp [h1]
    refine tix (at_one _ _ _) ?_
    simp
    by_cases c1:0<=y
    ·have c2:¬ y < (u.length:Int):=by omega
     simp [c1]
     refine ⟨_,l,?_⟩
     simp [c2]
     sleep 7
     exact nn
    ·simp [c1]
     sleep 7
     exact nn
   | neg x y z h1 h2 h =>
    sleep 7
    refine eq_int true ?_
    simp
    refine tix (at_zero _ _) ⟨_,"int",rfl,rfl,?_⟩
    simp
    refine tix (at_one _ _ _) ⟨_,"int",rfl,rfl,?_⟩
    simp
    sleep 7
    refine tix (at_zero _ _) ?_
    simp
    refine ⟨_,l,?_⟩
    simp [h1]
    refine tix (at_one _ _ _) ?_
    simp
    refine ⟨_,l,?_⟩
    simp [h2]
    refine tix (v:=nm z) rfl ⟨_,rfl,gy.tup _ (by simp),?_⟩
    rw [isNum_nm]
    simp
    sleep 7
    refine tix (v:=nm z) rfl ?_
    refine tix (xs:=[.int z.num,.int z.den]) (at_zero _ _) ?_
    have h0:z.num<=0:=num_np.mpr h
    simp [h0]
    sleep 7
    exact nn
   | big x y z h1 h2 h0 h =>
    have sz:=gd_sz (gy.tup (nm z) (by simp))
    sleep 7
    refine eq_int true ?_
    simp
    refine tix (at_zero _ _) ⟨_,"int",rfl,rfl,?_⟩
    simp
    refine tix (at_one _ _ _) ⟨_,"int",rfl,rfl,?_⟩
    simp
    sleep 7
    refine tix (at_zero _ _) ?_
    simp
    refine ⟨_,l,?_⟩
    simp [h1]
    refine tix (at_one _ _ _) ?_
    simp
    refine ⟨_,l,?_⟩
    simp [h2]
    refine tix (v:=nm z) rfl ⟨_,rfl,gy.tup _ (by simp),?_⟩
    rw [isNum_nm]
    simp
    sleep 7
    refine tix (v:=nm z) rfl ?_
    refine tix (xs:=[.int z.num,.int z.den]) (at_zero _ _) ?_
    have hz:¬ z.num<=0:=fun c=>by have:=num_np.mp c; grind
    simp [hz]
    refine tix (at_zero _ _) (lst_ix l (at_ _ _ h1) (tix (at_one _ _ _) (lst_ix l (at_ _ _ h2) ⟨_,_,rfl,.mk (sm x h1) (sm y h2) (by decide),tix (v:=nm z) rfl ?_⟩)))
    refine ⟨_,_,rfl,.mk ((sm x h1).sub (sm y h2)) sz (by decide),?_⟩
    simp [h]
    sleep 7
    exact nn
  | some v =>
   rw [hc] at hw
   obtain ⟨rfl,h1,h2,h3,h4⟩:=canL_some hc
   have sx:=vx _ ym v rfl
   have ns:=doL_sz su sx h1 h2
   have ln:=doL_len v u
   obtain ⟨g,t,z⟩:=v
   rw [show lv ⟨g,t,z⟩=.tup [.int g,.int t,nm z] from rfl] at gy ⊢
   dsimp only at h1 h2 h3 h4 sx
   sleep 7
   refine eq_int true ?_
   simp
   refine tix (at_zero _ _) ⟨_,"int",rfl,rfl,?_⟩
   simp
   refine tix (at_one _ _ _) ⟨_,"int",rfl,rfl,?_⟩
   simp
   sleep 7
   refine tix (at_zero _ _) ?_
   simp
   refine ⟨_,l,?_⟩
   simp [h1]
   refine tix (at_one _ _ _) ?_
   simp
   refine ⟨_,l,?_⟩
   simp [h2]
   refine tix (v:=nm z) rfl ⟨_,rfl,gy.tup _ (by simp),?_⟩
   rw [isNum_nm]
   simp
   sleep 7
   refine tix (v:=nm z) rfl ?_
   refine tix (xs:=[.int z.num,.int z.den]) (at_zero _ _) ?_
   have hz:¬ z.num<=0:=fun c=>by have:=num_np.mp c; grind
   simp [hz]
   refine tix (at_zero _ _) (lst_ix l (at_ _ _ h1) (tix (at_one _ _ _) (lst_ix l (at_ _ _ h2) ⟨_,_,rfl,.mk (sm g h1) (sm t h2) (by decide),tix (v:=nm z) rfl ?_⟩)))
   refine ⟨_,_,rfl,.mk ((sm g h1).sub (sm t h2)) sx (by omega),?_⟩
   have h5:¬ ri u g - ri u t < z:=by grind
   simp [h5]
   sleep 7
   have sg:=sm g h1
   refine tix (at_zero _ _) (lst_ix l (at_ _ _ h1) (tix (v:=nm z) rfl ⟨_,_,rfl,.mk sg sx (by omega),tix (at_zero _ _) ⟨_,rfl,_,l,g,by simp [L2.ixN]; omega,?_⟩⟩))
   rw [show (u.map nm).set g (nm (ri u g - z))=(u.set g (ri u g - z)).map nm from List.map_set.symm]
   have ln':(u.set g (ri u g - z)).length=u.length:=List.length_set
   have sl:Sz 1801 (ri (u.set g (ri u g - z)) t):=by
    have:=ri_mem (r:=u.set g (ri u g - z)) (i:=t) (by omega)
    rcases List.mem_or_eq_of_mem_set this with h | h
    ·exact (su _ h).mono (by omega)
    ·rw [h]; exact (sg.sub sx).mono (by omega)
   obtain ⟨c,hu⟩:∃ c,c=u.set g (ri u g - z):=⟨_,rfl⟩
   rw [<- hu] at ln' sl ⊢
   have l3:(M'.upd p1 (.ls (c.map nm))) p1=some (.ls (c.map nm)):=mupd_same
   sleep 7
   refine tix (at_one _ _ _) (lst_ix l3 (at_ _ _ (by omega)) (tix (v:=nm z) rfl ⟨_,_,rfl,.mk sl sx (by omega),tix (at_one _ _ _) ⟨_,rfl,_,l3,t,by simp [L2.ixN]; omega,?_⟩⟩))
   rw [mupd_upd,show (c.map nm).set t (nm (ri c t + z))=(doL ⟨g,t,z⟩ u).map nm by rw [<- List.map_set,hu]; rfl]
   refine hN _ _ ⟨doL ⟨g,t,z⟩ u,_,MExt.upd_new e1 xm,mupd_same,ln.trans ul,fun y hy=>(ns y hy).mono (by rw [Nat.succ_mul i]; omega),hw,rfl⟩
noncomputable def S_law_due:DSp:=fun ds M Q E=>∃ (d e f:DL.D),ds=[d,e,f]/\Ok M d e f/\∀ M',MExt M M'->Q (.bl (levC d e f)) M'
noncomputable def C_law_due:CSs:=.cons (.ife (.or (.not (.call "_law_are_numbers" S_law_are_numbers (.cons (.var 0) (.cons (.int 1) (.cons (.int 24) (.nil)))))) (.or (.not (.call "_law_are_numbers" S_law_are_numbers (.cons (.var 1) (.cons (.int 1) (.cons (.int 24) (.nil)))))) (.one (.cmp .NotEq (.bi .len (.cons (.var 0) (.nil))) (.bi .len (.cons (.var 1) (.nil))))))) (.cons (.ret (.bl false)) (.nil)) (.nil)) (.cons (.ret (.and (.bi .isinstance (.cons (.var 2) (.cons (.ty .tuple) (.nil)))) (.one (.cmp .Eq (.call "_law_walked" S_law_walked (.cons (.var 1) (.cons (.var 2) (.nil)))) (.var 0))))) (.nil))
theorem vc_law_due:∀ ds M R E,S_law_due ds M R E->rSs C_law_due (ends R E) (startD 3 ds) M:=by
 rintro ds M R E ⟨d,e,f,rfl,ok,q⟩
 unfold C_law_due
 refine nx_gen fun J hJ=>?_
 have tail:∀ s o:List Rat,d=rw s->e=rw o->1<=s.length->s.length<=24->o.length<=24->∀ M',MExt M M'->J [some d,some e,some f] M':=by
  rintro s o rfl rfl h1 h24 o24 M1 x1
  refine hJ _ _ ?_
  have ok1:=ok.kp (MExt.kp x1)
  obtain ⟨t,ht⟩:=(ok1.f'.gd (by decide)).ty
  by_cases hf:∃ xs,f=.tup xs
  ·obtain ⟨xs,rfl⟩:=hf
   sleep 7
   refine ⟨o,_,xs,52,52,rfl,.inl rfl,o24,ok1.e'.row,fun d hd=>(ok1.f'.parts d hd).gd (by decide),fun d hd v e=>by subst e; exact (ok1.f'.parts _ hd).lv,by decide,by have:=ok.tl xs rfl; omega,fun M2 x2=>?_⟩
   have:=q M2 (x1.trans x2)
   cases hw:walkG o xs with
   | none =>
    rw [wkD_none hw]
    rw [levC_no (by rw [hw]; nofun)] at this
    exact eq_non this
   | some u =>
    rw [wkD_some hw]
    rw [levC_some h1 h24 hw] at this
    exact eq_rw false this
  ·have hn:∀ xs,f≠.tup xs:=fun xs e=>hf ⟨xs,e⟩
   have z:=tyD_nt hn ht
   sleep 7
   refine ⟨t,ht,by simp,?_⟩
   rw [z]
   simp
   have:=q M1 x1
   rwa [levC_f hn] at this
 sleep 8
 refine ⟨d,1,24,rfl,by decide,ok.d'.gd (by decide),fun M1 x1=>?_⟩
 cases h1:areNums 1 24 d with
 | false =>
  simp
  sleep 7
  have:=q M1 x1
  rwa [levC_d h1] at this
 | true =>
  simp
  refine ⟨e,1,24,rfl,by decide,(ok.kp (MExt.kp x1)).e'.gd (by decide),fun M2 x2=>?_⟩
  cases h2:areNums 1 24 e with
  | false =>
   simp
   sleep 7
   have:=q M2 (x1.trans x2)
   rwa [levC_e h2] at this
  | true =>
   obtain ⟨s,rfl,s1,s24⟩:=areNums_row h1
   obtain ⟨o,rfl,o1,o24⟩:=areNums_row h2
   simp
   refine eq_int true ?_
   by_cases hl:s.length=o.length
   ·have hl':(s.length:Int)=o.length:=by omega
    simp [hl']
    exact tail s o rfl rfl (by omega) (by omega) (by omega) M2 (x1.trans x2)
   ·have hl':¬ (s.length:Int)=o.length:=by omega
    simp [hl']
    sleep 7
    have:=q M2 (x1.trans x2)
    rwa [levC_not fun ⟨s',o',xs',e1,e2,h1,h2,e3,h3⟩=>by
     obtain rfl:=rw_inj e1
     obtain rfl:=rw_inj e2
     exact hl (walkG_len h3)] at this
end K
end
noncomputable section
namespace K
open PySem DL Q
noncomputable def S_law_drawn_steps:DSp:=fun ds M Q E=>∃ (a:Addr) (n:Nat),ds=[.lst a,.int n,.int 6]/\Pk M a/\1<=n/\n<=8/\∀ (s:List Rat) M',s.length=n->(∀ x∈s,Gr 6 36 x)->Dr a M M'->Q (rw s) M'
noncomputable def C_law_drawn_steps:CSs:=.cons (.set 3 (.lst (.nil))) (.cons (.fr (.name 4) (.rng (.cons (.var 1) (.nil))) (.cons (.set 5 (.bin .Sub (.call "_law_take" S_law_take (.cons (.var 0) (.cons (.bin .Add (.bin .Mult (.int 2) (.var 2)) (.int 1)) (.nil)))) (.var 2))) (.cons (.expr (.app 3 (.call "_law_low" S_law_low (.cons (.var 5) (.cons (.ix (.lst (.cons (.int 1) (.cons (.int 1) (.cons (.int 2) (.cons (.int 3) (.nil)))))) (.call "_law_take" S_law_take (.cons (.var 0) (.cons (.int 4) (.nil))))) (.nil)))))) (.nil)))) (.cons (.ret (.bi .tuple (.cons (.var 3) (.nil)))) (.nil)))
theorem vc_law_drawn_steps:∀ ds M R E,S_law_drawn_steps ds M R E->rSs C_law_drawn_steps (ends R E) (startD 6 ds) M:=by
 rintro ds M R E ⟨a,n,rfl,pk,n1,n8,q⟩
 unfold C_law_drawn_steps
 sleep 7
 intro p0 M0 e0 x0 l0
 have hpa:=pk.ne e0
 sleep 9
 refine ⟨by omega,?_⟩
 refine forD_ix (fun i δ M'=>∃ (s:List Rat) (w4 w5:Option DL.D),Dr a M M'/\M' p0=some (.ls (s.map nm))/\s.length=i/\(∀ x∈s,Gr 6 36 x)/\δ=[some (.lst a),some (.int n),some (.int 6),some (.lst p0),w4,w5]) (fun _ _ _ _=>trivial) ?_ ?_ ⟨[],_,_,Dr.ext pk x0,l0,rfl,nofun,rfl⟩
 ·rintro δ M' ⟨s,w4,w5,d,l,hl,hs,rfl⟩
  rw [rngD_len] at hl
  sleep 7
  exact ⟨_,l,q s M' (by omega) hs d⟩
 ·rintro i x hx N hN δ M' ⟨s,w4,w5,d,l,hl,hs,rfl⟩
  obtain ⟨rfl,hi'⟩:=rngD_at hx
  sleep 8
  sleep 7
  refine ⟨mul_ok (m:=64) (n:=64) (by decide) (by decide) (by decide),?_⟩
  refine take_ok d.pk (by decide) (by decide) fun r M1 r0 r1 y1=>?_
  sleep 7
  have l1:=y1.keep _ _ hpa l
  refine ⟨⟨_,l1⟩,?_⟩
  intro p2 M2 e2 x2 l2
  refine take_ok (y1.pk.ext x2) (by decide) (by decide) fun c M3 c0 c1 y3=>?_
  obtain ⟨z,hz,hv⟩:=atI_lt (xs:=[D.int 1,D.int 1,D.int 2,D.int 3]) c0 (by simpa using c1)
  refine lst_ix (y3.keep _ _ (y1.pk.ne e2) l2) hv ?_
  obtain ⟨b,rfl,b0,b1,b6⟩:∃ b:Int,z=.int b/\0 < b/\b<=3/\b.toNat ∣ 6:=by
   simp at hz
   rcases hz with rfl | rfl | rfl<;>exact ⟨_,rfl,by decide,by decide,by decide⟩
  refine ⟨_,_,rfl,by omega,lt8000 (by omega),?_⟩
  have l3:=y3.keep _ _ hpa (x2 _ _ l1)
  refine ⟨_,l3,by simp; omega,?_⟩
  refine hN _ _ ⟨s++[Rat.divInt (r - 6) b],_,_,((d.trans y1).trans ((Dr.ext y1.pk x2).trans y3)).upd_new e0 hpa,by rw [mupd_same,List.map_append]; rfl,by simp [hl],fun x hx=>?_,rfl⟩
  rcases List.mem_append.mp hx with hx | hx
  ·exact hs x hx
  ·rw [List.mem_singleton] at hx; subst hx
   exact gr_divInt b0 b6 (by decide) (by omega)
theorem parts_at {c:Int} (c0:0<=c) (c1:c < 4):∃ u:Rat,0 < u/\u<=1/\Gr 6 12 u/\Sz 3 u/\L2.atI [D.tup [D.int 1,D.int 1],D.tup [D.int 1,D.int 2],D.tup [D.int 1,D.int 3],D.tup [D.int 2,D.int 3]] c=some (nm u):=by
 rcases (by omega:c=0\/c=1\/c=2\/c=3) with rfl | rfl | rfl | rfl
 ·exact ⟨Rat.divInt 1 1,by decide +kernel,by decide +kernel,gr_divInt (by decide) (by decide) (by decide) (by decide),⟨by decide +kernel,by decide +kernel⟩,by rw [<- nm_pair (by decide) (by decide)]; rfl⟩
 ·exact ⟨Rat.divInt 1 2,by decide +kernel,by decide +kernel,gr_divInt (by decide) (by decide) (by decide) (by decide),⟨by decide +kernel,by decide +kernel⟩,by rw [<- nm_pair (by decide) (by decide)]; rfl⟩
 ·exact ⟨Rat.divInt 1 3,by decide +kernel,by decide +kernel,gr_divInt (by decide) (by decide) (by decide) (by decide),⟨by decide +kernel,by decide +kernel⟩,by rw [<- nm_pair (by decide) (by decide)]; rfl⟩
 ·exact ⟨Rat.divInt 2 3,by decide +kernel,by decide +kernel,gr_divInt (by decide) (by decide) (by decide) (by decide),⟨by decide +kernel,by decide +kernel⟩,by rw [<- nm_pair (by decide) (by decide)]; rfl⟩
noncomputable def S_law_drawn_levelling:DSp:=fun ds M Q E=>∃ (a:Addr) (s:List Rat) (L B:Nat),ds=[.lst a,rw s]/\Pk M a/\1<=s.length/\s.length<=8/\0 < L/\L * 6 < 2 ^ 400/\24 * B < 2 ^ 400/\(∀ x∈s,Gr L B x)/\∀ (v:Lv) M',v.g < s.length->v.l < s.length->Gr (L * 6) (24 * B) v.x->v.x<=ri s v.g - ri s v.l->Dr a M M'->Q (lv v) M'
noncomputable def C_law_drawn_levelling:CSs:=.cons (.par 2 3 (.call "_law_take" S_law_take (.cons (.var 0) (.cons (.bi .len (.cons (.var 1) (.nil))) (.nil)))) (.call "_law_take" S_law_take (.cons (.var 0) (.cons (.bi .len (.cons (.var 1) (.nil))) (.nil))))) (.cons (.set 4 (.call "_law_less_by" S_law_less_by (.cons (.ix (.var 1) (.var 2)) (.cons (.ix (.var 1) (.var 3)) (.nil))))) (.cons (.ife (.cmp .Lt (.ix (.var 4) (.int 0)) (.int 0)) (.cons (.par3 2 3 4 (.var 3) (.var 2) (.tup (.cons (.bin .Sub (.int 0) (.ix (.var 4) (.int 0))) (.cons (.ix (.var 4) (.int 1)) (.nil))))) (.nil)) (.nil)) (.cons (.ret (.tup (.cons (.var 2) (.cons (.var 3) (.cons (.call "_law_by" S_law_by (.cons (.var 4) (.cons (.ix (.lst (.cons (.tup (.cons (.int 1) (.cons (.int 1) (.nil)))) (.cons (.tup (.cons (.int 1) (.cons (.int 2) (.nil)))) (.cons (.tup (.cons (.int 1) (.cons (.int 3) (.nil)))) (.cons (.tup (.cons (.int 2) (.cons (.int 3) (.nil)))) (.nil)))))) (.call "_law_take" S_law_take (.cons (.var 0) (.cons (.int 4) (.nil))))) (.nil)))) (.nil)))))) (.nil))))
theorem vc_law_drawn_levelling:∀ ds M R E,S_law_drawn_levelling ds M R E->rSs C_law_drawn_levelling (ends R E) (startD 5 ds) M:=by
 rintro ds M R E ⟨a,s,L,B,rfl,pk,s1,s8,l0,hL,hB,gr,q⟩
 have ss:∀ x∈s,Sz 400 x:=fun x hx=>(gr x hx).sz l0 (by omega) (by omega)
 unfold C_law_drawn_levelling
 sleep 7
 refine take_ok pk (by omega) (Nat.lt_of_lt_of_le (show (s.length:Int).natAbs < 2 ^ 10 by omega) (pow_le (by decide))) fun g M1 g0 g1 y1=>?_
 refine take_ok y1.pk (by omega) (Nat.lt_of_lt_of_le (show (s.length:Int).natAbs < 2 ^ 10 by omega) (pow_le (by decide))) fun l M2 h0 h1 y2=>?_
 obtain ⟨g,rfl⟩:=Int.eq_ofNat_of_zero_le g0
 obtain ⟨l,rfl⟩:=Int.eq_ofNat_of_zero_le h0
 have sm:∀ i,i < s.length->Sz 400 (ri s i):=fun i hi'=>ss _ (ri_mem hi')
 sleep 7
 refine rw_ix (by omega) (rw_ix (by omega) ⟨_,_,rfl,.mk (sm g (by omega)) (sm l (by omega)) (by omega),?_⟩)
 refine nx_gen fun J hJ=>?_
 have tail:∀ (g l:Nat),g < s.length->l < s.length->0<=ri s g - ri s l->J [some (.lst a),some (rw s),some (.int g),some (.int l),some (nm (ri s g - ri s l))] M2:=by
  intro g l hg hl hx
  have sx:=(sm g hg).sub (sm l hl)
  have gx:=(gr _ (ri_mem hg)).sub l0 (gr _ (ri_mem hl))
  refine hJ _ _ ?_
  sleep 7
  intro p3 M3 e3 x3 l3
  refine take_ok (y2.pk.ext x3) (by decide) (by decide) fun c M4 c0 c1 y4=>?_
  obtain ⟨u,u0,u1,gu,su,hv⟩:=parts_at c0 c1
  refine lst_ix (y4.keep _ _ (y2.pk.ne e3) l3) hv ?_
  refine by_ok sx su (by decide) ?_
  have gm:Gr (L * 6) (24 * B) ((ri s g - ri s l) * u):=(gx.mulW gu).mono (by omega)
  have xl:(ri s g - ri s l) * u<=ri s g - ri s l:=by
   have:=Rat.mul_le_mul_of_nonneg_left u1 hx
   grind
  exact q ⟨g,l,(ri s g - ri s l) * u⟩ M4 hg hl gm xl (((y1.trans y2).trans (Dr.ext y2.pk x3)).trans y4)
 sleep 8
 by_cases hn:(ri s g - ri s l).num < 0
 ·simp [hn]
  (try dsimp only); rw [rSs_cons]; simp [rS,rE,rEs,rO,rG,rGs,rI,DL.plain,dSeq,dNext,dBreak,dCont,dDrop,dRet,dRetN,dIfS,dNever,dAsg,dPar,gdName,gdCons,gdNil,gdSub,dVar,dC,d2,dNil,dCons,dTup,dLst,dCB,dCall,dCallV,dTest,dAnd,dOr,dNot,dAndV,dOrV,dNotB,dNeg,dIfE,dTru,dChain,dSl,dRev,dPart,dNoPart,dApp,fInt,dExt,dAug,dTwo,dDic0,dDic1,biSem,tyStr,bOp,cOp,bInt,cInt,truD,fAbs,fMax,fMin,fStr,fDivmod,itRng,CGs.len,startD,and_assoc,sizeLine_eq,dRaise,dTry,isSub,rSs_nil,dIdx,fSum,dIns,diZip,diSeq,dFld,dMeth,dMake,dSetF,dPar3]
  have h2:ri s g - ri s l<=0:=num_np.mp (by omega)
  have:=tail l g (by omega) (by omega) (by grind)
  rw [show ri s l - ri s g=-(ri s g - ri s l) by grind] at this
  rw [show nm (-(ri s g - ri s l))=.tup [.int (-(ri s g - ri s l).num),.int (ri s g - ri s l).den] from rfl] at this
  exact this
 ·simp [hn]
  exact tail g l (by omega) (by omega) (Rat.num_nonneg.mp (by omega))
theorem doL_gr {s:List Rat} {v:Lv} {L B:Nat} (l0:0 < L) (h:∀ x∈s,Gr L B x) (hg:v.g < s.length) (hl:v.l < s.length) (g:Gr (L * 6) (24 * B) v.x):∀ x∈doL v s,Gr (L * 6) (60 * B) x:=by
 have l6:0 < L * 6:=by omega
 have up:∀ x∈s,Gr (L * 6) (6 * B) x:=fun x hx=>((h x hx).up l0 (W:=6) (by decide)).mono (by omega)
 have h1:∀ x∈s.set v.g (ri s v.g - v.x),Gr (L * 6) (30 * B) x:=fun x hx=>by
  rcases set_mem hx with hx | rfl
  ·exact (up x hx).mono (by omega)
  ·exact ((up _ (ri_mem hg)).sub l6 g).mono (by omega)
 intro x hx
 rcases set_mem hx with hx | rfl
 ·exact (h1 x hx).mono (by omega)
 ·exact ((h1 _ (ri_mem (by rw [List.length_set]; exact hl))).add l6 g).mono (by omega)
theorem canL_lv {s:List Rat} {v:Lv} (h1:v.g < s.length) (h2:v.l < s.length) (h3:0 < v.x) (h4:v.x<=ri s v.g - ri s v.l):canL s (lv v)=some v:=by
 obtain ⟨g,l,x⟩:=v
 dsimp only at h1 h2 h3 h4
 unfold canL lv
 simp only [num_nm]
 rw [if_pos ⟨by omega,by omega,by omega,by omega,h3,by simpa using h4⟩]
 simp
theorem walkG_snoc {y:DL.D} {v:Lv}:∀ {xs:List DL.D} {s u:List Rat},walkG s xs=some u->canL u y=some v->walkG s (xs++[y])=some (doL v u)
 | [],s,u,h,c=>by
  cases h
  show (match canL s y with | some v=>walkG (doL v s) [] | none=>none)=_
  rw [c]; rfl
 | x :: xs,s,u,h,c=>by
  show (match canL s x with | some v=>walkG (doL v s) (xs++[y]) | none=>none)=_
  unfold walkG at h
  split at h
  ·rename_i v' e
   (try rw [e])
   exact walkG_snoc h c
  ·cases h
theorem bl6:∀ i,i<=6->6 * 6 ^ i < 2 ^ 42/\36 * 60 ^ i < 2 ^ 42/\0 < 6 * 6 ^ i/\(i<=5->6 * 6 ^ i * 6 < 2 ^ 42/\24 * (36 * 60 ^ i) < 2 ^ 42):=fun i hi=>by
 rcases (by omega:i=0\/i=1\/i=2\/i=3\/i=4\/i=5\/i=6) with rfl | rfl | rfl | rfl | rfl | rfl | rfl<;>decide +kernel
noncomputable def Ths (M:Mem) (ts:List DL.D):Prop:=∀ t∈ts,∃ d e f,t=.tup [d,e,f]/\Ok M d e f
theorem Sm.mono {M:Mem} {m n:Nat} {d:DL.D} (h:m<=n) (s:Sm M m d):Sm M n d:=by
 induction s with
 | int h'=>exact .int (Nat.lt_of_lt_of_le h' (pow_le h))
 | non=>exact .non
 | bl b=>exact .bl b
 | str x=>exact .str x
 | lst h=>exact .lst h
 | dct h=>exact .dct h
 | tup h ih=>exact .tup ih
theorem Ths.kp {M M':Mem} {ts:List DL.D} (h:Ths M ts) (x:Kp M M'):Ths M' ts:=fun t ht=>let ⟨d,e,f,h1,h2⟩:=h t ht; ⟨d,e,f,h1,h2.kp x⟩
theorem Ths.add {M:Mem} {ts:List DL.D} {d e f:DL.D} (h:Ths M ts) (o:Ok M d e f):Ths M (ts++[.tup [d,e,f]]):=fun t ht=>by
 rcases List.mem_append.mp ht with ht | ht
 ·exact h t ht
 ·rw [List.mem_singleton] at ht; exact ⟨d,e,f,ht,o⟩
theorem Cl.lvs {n:Nat} {vs:List Lv} (hn:3<=n) (l:vs.length<=100) (h:∀ v∈vs,v.g < 8/\v.l < 8/\Sz n v.x):Cl n (.tup (vs.map lv)):=.tup (by simpa using l) fun d hd=>by
 obtain ⟨v,hv,rfl⟩:=List.mem_map.mp hd
 obtain ⟨h1,h2,h3⟩:=h v hv
 have h8:8<=2 ^ n:=Nat.le_trans (by decide) (Nat.pow_le_pow_right (by decide:0 < 2) hn)
 refine .tup (by simp) fun e he=>?_
 simp at he
 rcases he with rfl | rfl | rfl
 ·exact .int (by omega)
 ·exact .int (by omega)
 ·exact .nm h3
theorem Tl.tup {n:Nat} {xs:List DL.D} (h:xs.length<=n):Tl n (.tup xs):=fun ys e=>by cases e; exact h
theorem eq_emptyN {M:Mem} {Q:DK} {xs:List DL.D} (h:∃ p,Py M (.tup xs) p) (q:Q (.bl !xs.isEmpty) M):cEq true (.tup xs) (.tup []) M Q:=by
 obtain ⟨p,hp⟩:=h
 cases hp with
 | tup hp =>
  refine cEq_of (.tup hp) (.tup .nil) (by simp [PyData.depth,PyData.depthAll]) ?_
  have l:=pys_len hp
  rename_i ps
  have e:PyData.eqv (.tuple ps) (.tuple [])=xs.isEmpty:=by
   cases ps with
   | nil =>
    cases xs with
    | nil=>simp [PyData.eqv,PyData.eqvAll]
    | cons _ _=>simp at l
   | cons _ _ =>
    cases xs with
    | nil=>simp at l
    | cons _ _=>simp [PyData.eqv,PyData.eqvAll]
  rw [e]; exact q
noncomputable def S_law_right:DSp:=fun ds M Q E=>∃ (a:Addr) (o:List Rat),ds=[.lst a,rw o]/\Pk M a/\1<=o.length/\o.length<=8/\(∀ x∈o,Gr 6 36 x)/\∀ M',Q (.bl true) M'
noncomputable def C_law_right:CSs:=.cons (.set 2 (.lst (.nil))) (.cons (.set 3 (.var 1)) (.cons (.fr (.name 4) (.rng (.cons (.call "_law_take" S_law_take (.cons (.var 0) (.cons (.int 7) (.nil)))) (.nil))) (.cons (.set 5 (.call "_law_drawn_levelling" S_law_drawn_levelling (.cons (.var 0) (.cons (.var 3) (.nil))))) (.cons (.ife (.cmp .Gt (.ix (.ix (.var 5) (.int 2)) (.int 0)) (.int 0)) (.cons (.expr (.app 2 (.var 5))) (.cons (.set 3 (.call "_law_walked" S_law_walked (.cons (.var 3) (.cons (.lst (.cons (.var 5) (.nil))) (.nil))))) (.nil))) (.nil)) (.nil)))) (.cons (.set 2 (.bi .tuple (.cons (.var 2) (.nil)))) (.cons (.ife (.not (.call "_law_told" S_law_told (.cons (.tup (.cons (.str "leveller") (.cons (.var 3) (.cons (.var 1) (.nil))))) (.cons (.var 2) (.cons (.bl true) (.nil)))))) (.cons (.ret (.bl false)) (.nil)) (.nil)) (.cons (.set 6 (.lst (.cons (.tup (.cons (.var 3) (.cons (.var 1) (.cons (.bi .list (.cons (.var 2) (.nil))) (.nil))))) (.cons (.tup (.cons (.var 3) (.cons (.var 1) (.cons (.non) (.nil))))) (.cons (.tup (.cons (.var 1) (.cons (.var 3) (.cons (.var 2) (.nil))))) (.cons (.tup (.cons (.var 3) (.cons (.var 3) (.cons (.tup (.nil)) (.nil))))) (.nil))))))) (.cons (.expr (.app 6 (.tup (.cons (.var 3) (.cons (.var 1) (.cons (.tup (.nil)) (.nil))))))) (.cons (.ife (.cmp .NotEq (.var 2) (.tup (.nil))) (.cons (.set 7 (.call "_law_take" S_law_take (.cons (.var 0) (.cons (.bi .len (.cons (.var 2) (.nil))) (.nil))))) (.cons (.asg (.tup (.cons (.name 8) (.cons (.name 9) (.cons (.name 10) (.nil))))) (.ix (.var 2) (.var 7))) (.cons (.fr (.name 11) (.seq (.lst (.cons (.tup (.cons (.bin .Sub (.var 8) (.bi .len (.cons (.var 1) (.nil)))) (.cons (.var 9) (.cons (.var 10) (.nil))))) (.cons (.tup (.cons (.var 8) (.cons (.bin .Sub (.var 9) (.bi .len (.cons (.var 1) (.nil)))) (.cons (.var 10) (.nil))))) (.nil))))) (.cons (.expr (.app 6 (.tup (.cons (.var 3) (.cons (.var 1) (.cons (.bin .Add (.bin .Add (.sl (.var 2) (.none) (.some (.var 7))) (.tup (.cons (.var 11) (.nil)))) (.sl (.var 2) (.some (.bin .Add (.var 7) (.int 1))) (.none))) (.nil))))))) (.nil))) (.nil)))) (.nil)) (.cons (.fr (.name 4) (.rng (.cons (.int 5) (.nil))) (.cons (.expr (.app 6 (.tup (.cons (.var 3) (.cons (.var 1) (.cons (.call "_law_spoilt" S_law_spoilt (.cons (.var 2) (.cons (.var 0) (.cons (.int 3) (.nil))))) (.nil))))))) (.cons (.expr (.app 6 (.tup (.cons (.call "_law_spoilt" S_law_spoilt (.cons (.var 3) (.cons (.var 0) (.cons (.int 2) (.nil))))) (.cons (.var 1) (.cons (.var 2) (.nil))))))) (.cons (.expr (.app 6 (.tup (.cons (.var 3) (.cons (.call "_law_spoilt" S_law_spoilt (.cons (.var 1) (.cons (.var 0) (.cons (.int 2) (.nil))))) (.cons (.var 2) (.nil))))))) (.nil))))) (.cons (.expr (.app 6 (.tup (.cons (.call "_law_moved" S_law_moved (.cons (.var 3) (.cons (.var 0) (.nil)))) (.cons (.var 1) (.cons (.var 2) (.nil))))))) (.cons (.fr (.tup (.cons (.name 5) (.cons (.name 12) (.cons (.name 13) (.nil))))) (.seq (.var 6)) (.cons (.ife (.not (.call "_law_told" S_law_told (.cons (.tup (.cons (.str "leveller") (.cons (.var 5) (.cons (.var 12) (.nil))))) (.cons (.var 13) (.cons (.call "_law_due" S_law_due (.cons (.var 5) (.cons (.var 12) (.cons (.var 13) (.nil))))) (.nil)))))) (.cons (.ret (.bl false)) (.nil)) (.nil)) (.nil))) (.cons (.ret (.bl true)) (.nil))))))))))))
theorem vc_law_right:∀ ds M R E,S_law_right ds M R E->rSs C_law_right (ends R E) (startD 14 ds) M:=by
 rintro ds M R E ⟨a,o,rfl,pk,o1,o8,go,q⟩
 have so:∀ x∈o,Sz 42 x:=fun x hx=>(go x hx).sz (by decide) (by decide) (by decide)
 unfold C_law_right
 sleep 7
 intro p0 M0 e0 x0 l0
 have hpa:=pk.ne e0
 sleep 7
 sleep 9
 refine take_ok (pk.ext x0) (by decide) (by decide) fun n M1 n0 n1 y1=>?_
 have D1:Dr a M M1:=(Dr.ext pk x0).trans y1
 have l1:=y1.keep _ _ hpa l0
 obtain ⟨n,rfl⟩:=Int.eq_ofNat_of_zero_le n0
 (try dsimp only)
 refine ⟨by omega,by omega,?_⟩
 refine forD_ix (fun i δ M'=>∃ (vs:List Lv) (u:List Rat) (j:Nat) (w4 w5:Option DL.D),Dr a M M'/\M' p0=some (.ls (vs.map lv))/\vs.length<=i/\j<=i/\walkG o (vs.map lv)=some u/\u.length=o.length/\(∀ x∈u,Gr (6 * 6 ^ j) (36 * 60 ^ j) x)/\(∀ v∈vs,v.g < 8/\v.l < 8/\Sz 42 v.x)/\δ=[some (.lst a),some (rw o),some (.lst p0),some (rw u),w4,w5,none,none,none,none,none,none,none,none]) (fun _ _ _ _=>trivial) ?_ ?_ ⟨[],o,0,_,_,D1,l1,Nat.le_refl _,Nat.le_refl _,rfl,rfl,by simpa using go,nofun,rfl⟩
 ·rintro δ M2 ⟨vs,u,j,w4,w5,d2,l2,hv,hj,hw,ul,gu,sv,rfl⟩
  rw [rngD_len] at hv hj
  have b:=bl6 j (by omega)
  have su:∀ x∈u,Sz 42 x:=fun x hx=>(gu x hx).sz b.2.2.1 b.1 b.2.1
  have v6:vs.length<=6:=by omega
  have cp:Cl 42 (.tup (vs.map lv)):=.lvs (by decide) (by omega) sv
  have tp:Tl 6 (.tup (vs.map lv)):=.tup (by simpa using v6)
  have tp7:Tl 7 (.tup (vs.map lv)):=.tup (by simp; omega)
  have cu:Cl 42 (rw u):=.rw (by omega) su
  have co:Cl 42 (rw o):=.rw (by omega) so
  sleep 7
  refine ⟨_,l2,?_⟩
  sleep 7
  refine ⟨_,_,_,_,rfl,⟨cu.sm (by decide),co.sm (by decide),cp.sm (by decide),tp7⟩,?_,fun M3 x3=>?_⟩
  ·exact (levC_iff.mpr ⟨u,o,_,rfl,rfl,by omega,by omega,rfl,hw⟩).symm
  have d3:Dr a M M3:=d2.trans (Dr.ext d2.pk x3)
  simp
  sleep 7
  intro p4 M4 e4 x4 l4
  intro p5 M5 e5 x5 l5
  sleep 7
  refine ⟨⟨_,l5⟩,_,l5,by simp,?_⟩
  have e6:M p5=none:=by
   cases h:M p5 with
   | none=>rfl
   | some ob=>
    have h5:p5≠a:=(d3.pk.ext x4).ne e5
    have:=x4 _ _ (d3.keep p5 ob h5 h); rw [e5] at this; cases this
  have h5:p5≠a:=(d3.pk.ext x4).ne e5
  have oku:∀ M' (f:DL.D),Sm M' 52 f->Tl 7 f->Ok M' (rw u) (rw o) f:=fun M' f sf tf=>⟨cu.sm (by decide),co.sm (by decide),sf,tf⟩
  have T5:Ths M5 [.tup [rw u,rw o,.lst p4],.tup [rw u,rw o,.non],.tup [rw o,rw u,.tup (vs.map lv)],.tup [rw u,rw u,.tup []],.tup [rw u,rw o,.tup []]]:=fun t ht=>by
   simp only [List.mem_cons,List.not_mem_nil,or_false] at ht
   rcases ht with rfl | rfl | rfl | rfl | rfl
   ·exact ⟨_,_,_,rfl,oku _ _ (.lst (x5 _ _ l4)) nofun⟩
   ·exact ⟨_,_,_,rfl,oku _ _ .non nofun⟩
   ·exact ⟨_,_,_,rfl,co.sm (by decide),cu.sm (by decide),cp.sm (by decide),tp7⟩
   ·exact ⟨_,_,_,rfl,cu.sm (by decide),cu.sm (by decide),.tup nofun,.tup (by simp)⟩
   ·exact ⟨_,_,_,rfl,oku _ _ (.tup nofun) (.tup (by simp))⟩
  have d5:Dr a M M5:=d3.trans (Dr.ext d3.pk (x4.trans x5))
  have d6:Dr a M (M5.upd p5 (.ls [.tup [rw u,rw o,.lst p4],.tup [rw u,rw o,.non],.tup [rw o,rw u,.tup (vs.map lv)],.tup [rw u,rw u,.tup []],.tup [rw u,rw o,.tup []]])):=d5.upd_new e6 h5
  have T6:=T5.kp (Kp.upd (ys:=[.tup [rw u,rw o,.lst p4],.tup [rw u,rw o,.non],.tup [rw o,rw u,.tup (vs.map lv)],.tup [rw u,rw u,.tup []],.tup [rw u,rw o,.tup []]]) l5)
  have l6:(M5.upd p5 (.ls [.tup [rw u,rw o,.lst p4],.tup [rw u,rw o,.non],.tup [rw o,rw u,.tup (vs.map lv)],.tup [rw u,rw u,.tup []],.tup [rw u,rw o,.tup []]])) p5=some (.ls [.tup [rw u,rw o,.lst p4],.tup [rw u,rw o,.non],.tup [rw o,rw u,.tup (vs.map lv)],.tup [rw u,rw u,.tup []],.tup [rw u,rw o,.tup []]]):=mupd_same
  simp only [List.cons_append,List.nil_append]
  generalize M5.upd p5 _=M6 at d6 T6 l6 ⊢
  refine nx_gen fun J hJ=>?_
  have tail:∀ (ts:List DL.D) M' (w7 w8 w9 w10 w11:Option DL.D),Dr a M M'->M' p5=some (.ls ts)->ts.length<=7->Ths M' ts->J [some (.lst a),some (rw o),some (.tup (vs.map lv)),some (rw u),w4,w5,some (.lst p5),w7,w8,w9,w10,w11,none,none] M':=by
   intro ts M7 w7 w8 w9 w10 w11 d7 l7 tl7 T7
   refine hJ _ _ ?_
   sleep 9
   refine forD_ix (fun i δ M'=>∃ (ts:List DL.D) (w4:Option DL.D),Dr a M M'/\M' p5=some (.ls ts)/\ts.length<=7 + 3 * i/\Ths M' ts/\δ=[some (.lst a),some (rw o),some (.tup (vs.map lv)),some (rw u),w4,w5,some (.lst p5),w7,w8,w9,w10,w11,none,none]) (fun _ _ _ _=>trivial) ?_ ?_ ⟨ts,_,d7,l7,tl7,T7,rfl⟩
   ·rintro δ M8 ⟨ts,w4,d8,l8,tl8,T8,rfl⟩
    rw [rngD_len] at tl8
    sleep 7
    refine ⟨⟨_,l8⟩,?_⟩
    refine ⟨u,a,42,rfl,d8.pk,su,by decide,by omega,by omega,fun r M9 rl sr y9=>?_⟩
    have l9:=y9.keep _ _ h5 l8
    have ok9:Ok M9 (rw r) (rw o) (.tup (vs.map lv)):=⟨(Cl.rw (by omega) sr).sm (by decide),co.sm (by decide),cp.sm (by decide),tp7⟩
    have T9:=((T8.kp (Dr.kp d8.pk y9)).add ok9).kp (Kp.upd (ys:=ts++[.tup [rw r,rw o,.tup (vs.map lv)]]) l9)
    refine ⟨_,l9,by omega,?_⟩
    have lA:(M9.upd p5 (.ls (ts++[.tup [rw r,rw o,.tup (vs.map lv)]]))) p5=some (.ls (ts++[.tup [rw r,rw o,.tup (vs.map lv)]])):=mupd_same
    have tlA:(ts++[D.tup [rw r,rw o,.tup (vs.map lv)]]).length<=30:=by simp; omega
    generalize M9.upd p5 (.ls (ts++[.tup [rw r,rw o,.tup (vs.map lv)]]))=MA at lA T9
    generalize ts++[D.tup [rw r,rw o,.tup (vs.map lv)]]=us at lA T9 tlA
    sleep 9
    refine ⟨_,lA,?_⟩
    refine forD_inv (fun δ M'=>∃ (w5 w12 w13:Option DL.D),M' p5=some (.ls us)/\Ths M' us/\δ=[some (.lst a),some (rw o),some (.tup (vs.map lv)),some (rw u),w4,w5,some (.lst p5),w7,w8,w9,w10,w11,w12,w13]) (fun _ _ ⟨_,_,_,l,_⟩=>l) ?_ ?_ ⟨_,_,_,lA,T9,rfl⟩
    ·rintro δ MB ⟨w5,w12,w13,lB,TB,rfl⟩
     sleep 7
     exact q MB
    ·rintro t ht N hN δ MB ⟨w5,w12,w13,lB,TB,rfl⟩
     obtain ⟨d,e,f,rfl,ok⟩:=TB t ht
     sleep 8
     sleep 7
     refine ⟨d,e,f,rfl,ok,fun MC xC=>?_⟩
     refine ⟨d,e,f,_,rfl,ok.kp (MExt.kp xC),rfl,fun MD xD=>?_⟩
     simp
     exact hN _ _ ⟨_,_,_,xD _ _ (xC _ _ lB),TB.kp (MExt.kp (xC.trans xD)),rfl⟩
   ·rintro i x hx N hN δ M8 ⟨ts,w4,d8,l8,tl8,T8,rfl⟩
    obtain ⟨rfl,hi'⟩:=rngD_at hx
    have hi2:i < 5:=by omega
    sleep 8
    sleep 7
    refine ⟨⟨_,l8⟩,?_⟩
    refine ⟨_,a,3,42,6,rfl,by decide,by decide,d8.pk,cp,tp,by decide,by decide,by decide,fun f M9 sf tf y9=>?_⟩
    have l9:=y9.keep _ _ h5 l8
    have T9:=((T8.kp (Dr.kp d8.pk y9)).add (oku _ f (sf.mono (by decide)) tf)).kp (Kp.upd (ys:=ts++[.tup [rw u,rw o,f]]) l9)
    have dA:Dr a M (M9.upd p5 (.ls (ts++[.tup [rw u,rw o,f]]))):=(d8.trans y9).upd_new e6 h5
    refine ⟨_,l9,by omega,?_⟩
    have lA:(M9.upd p5 (.ls (ts++[.tup [rw u,rw o,f]]))) p5=some (.ls (ts++[.tup [rw u,rw o,f]])):=mupd_same
    have tlA:(ts++[D.tup [rw u,rw o,f]]).length<=8 + 3 * i:=by simp; omega
    generalize M9.upd p5 (.ls (ts++[.tup [rw u,rw o,f]]))=MA at lA T9 dA
    generalize ts++[D.tup [rw u,rw o,f]]=us at lA T9 tlA
    sleep 7
    refine ⟨⟨_,lA⟩,?_⟩
    refine ⟨_,a,2,42,8,rfl,by decide,by decide,dA.pk,cu,.tup (by simp; omega),by decide,by decide,by decide,fun g MB sg _ yB=>?_⟩
    have lB:=yB.keep _ _ h5 lA
    have okB:Ok MB g (rw o) (.tup (vs.map lv)):=⟨sg.mono (by decide),co.sm (by decide),cp.sm (by decide),tp7⟩
    have TB:=((T9.kp (Dr.kp dA.pk yB)).add okB).kp (Kp.upd (ys:=us++[.tup [g,rw o,.tup (vs.map lv)]]) lB)
    have dC:Dr a M (MB.upd p5 (.ls (us++[.tup [g,rw o,.tup (vs.map lv)]]))):=(dA.trans yB).upd_new e6 h5
    refine ⟨_,lB,by omega,?_⟩
    have lC:(MB.upd p5 (.ls (us++[.tup [g,rw o,.tup (vs.map lv)]]))) p5=some (.ls (us++[.tup [g,rw o,.tup (vs.map lv)]])):=mupd_same
    have tlC:(us++[D.tup [g,rw o,.tup (vs.map lv)]]).length<=9 + 3 * i:=by simp; omega
    generalize MB.upd p5 (.ls (us++[.tup [g,rw o,.tup (vs.map lv)]]))=MC at lC TB dC
    generalize us++[D.tup [g,rw o,.tup (vs.map lv)]]=zs at lC TB tlC
    sleep 7
    refine ⟨⟨_,lC⟩,?_⟩
    refine ⟨_,a,2,42,8,rfl,by decide,by decide,dC.pk,co,.tup (by simp; omega),by decide,by decide,by decide,fun g2 MD sg _ yD=>?_⟩
    have lD:=yD.keep _ _ h5 lC
    have okD:Ok MD (rw u) g2 (.tup (vs.map lv)):=⟨cu.sm (by decide),sg.mono (by decide),cp.sm (by decide),tp7⟩
    have TD:=((TB.kp (Dr.kp dC.pk yD)).add okD).kp (Kp.upd (ys:=zs++[.tup [rw u,g2,.tup (vs.map lv)]]) lD)
    refine ⟨_,lD,by omega,?_⟩
    exact hN _ _ ⟨_,_,(dC.trans yD).upd_new e6 h5,mupd_same,by simp; omega,TD,rfl⟩
  sleep 8
  refine eq_emptyN (Cl.py cp) ?_
  by_cases hv0:vs=[]
  ·rw [show (vs.map lv).isEmpty=true by rw [hv0]; rfl]
   simp
   exact tail _ _ _ _ _ _ _ d6 l6 (by simp) T6
  ·have v1:1<=vs.length:=List.length_pos_iff.mpr hv0
   rw [show (vs.map lv).isEmpty=false by cases vs with | nil=>exact absurd rfl hv0 | cons _ _=>rfl]
   simp
   refine nx_gen fun J' hJ'=>?_
   sleep 8
   refine take_ok d6.pk (by omega) (Nat.lt_of_lt_of_le (show (vs.length:Int).natAbs < 2 ^ 10 by omega) (pow_le (by decide))) fun m M7 m0 m1 y7=>?_
   obtain ⟨m,rfl⟩:=Int.eq_ofNat_of_zero_le m0
   have hm:m < vs.length:=by omega
   have d7:=d6.trans y7
   have l7:=y7.keep _ _ h5 l6
   have T7:=T6.kp (Dr.kp d6.pk y7)
   obtain ⟨v,ev⟩:∃ v,v=vs[m]:=⟨_,rfl⟩
   obtain ⟨vg,vl,vx⟩:=sv v (by rw [ev]; exact List.getElem_mem hm)
   refine hJ' _ _ ?_
   sleep 7
   refine tix (v:=lv v) (at_nat (by rw [List.getElem?_map,List.getElem?_eq_getElem hm,ev]; rfl)) ?_
   rw [show lv v=.tup [.int v.g,.int v.l,nm v.x] from rfl]
   sleep 8
   sleep 9
   intro pB MB eB xB lB
   refine ⟨_,lB,?_⟩
   have c1:=cut_len (vs.map lv) none (some (m:Int))
   have c2:=cut_len (vs.map lv) (some ((m:Int) + 1)) none
   have ml:(vs.map lv).length=vs.length:=List.length_map ..
   have hB:pB≠a:=d7.pk.ne eB
   refine forD_ix (fun i δ M'=>∃ (ts:List DL.D) (w11:Option DL.D),Dr a M M'/\M' pB=some (.ls [.tup [.int ((v.g:Int) - o.length),.int v.l,nm v.x],.tup [.int v.g,.int ((v.l:Int) - o.length),nm v.x]])/\M' p5=some (.ls ts)/\ts.length=5 + i/\Ths M' ts/\δ=[some (.lst a),some (rw o),some (.tup (vs.map lv)),some (rw u),w4,w5,some (.lst p5),some (.int m),some (.int v.g),some (.int v.l),some (nm v.x),w11,none,none]) (fun _ _ _ ⟨_,_,_,l,_⟩=>l) ?_ ?_ ⟨_,_,d7.trans (Dr.ext d7.pk xB),lB,xB _ _ l7,rfl,T7.kp (MExt.kp xB),rfl⟩
   ·rintro δ M8 ⟨ts,w11,d8,lB8,l8,tl8,T8,rfl⟩
    exact tail _ _ _ _ _ _ _ d8 l8 (by simp at tl8; omega) T8
   ·rintro i x hx N hN δ M8 ⟨ts,w11,d8,lB8,l8,tl8,T8,rfl⟩
    have hi2:i < 2:=(List.getElem?_eq_some_iff.mp hx).1
    obtain ⟨y,z,rfl,hy,hz⟩:∃ y z:Int,x=.tup [.int y,.int z,nm v.x]/\y.natAbs < 100/\z.natAbs < 100:=by
     rcases (by omega:i=0\/i=1) with rfl | rfl
     ·simp at hx; exact ⟨_,_,hx.symm,by omega,by omega⟩
     ·simp at hx; exact ⟨_,_,hx.symm,by omega,by omega⟩
    sleep 8
    sleep 7
    refine ⟨⟨_,l8⟩,by omega,by omega,_,l8,by omega,?_⟩
    have okf:Ok M8 (rw u) (rw o) (.tup (cutG (vs.map lv) none (some (m:Int))++.tup [.int y,.int z,nm v.x] :: cutG (vs.map lv) (some ((m:Int) + 1)) none)):=by
     rw [cut_put (by omega)]
     refine oku _ _ (.tup fun d hd=>?_) (.tup (by rw [putAt_len (by omega)]; omega))
     rcases putAt_mem hd with hd | rfl
     ·exact (cp.sm (M:=M8) (m:=52) (by decide)).parts d hd
     ·refine .tup fun e he=>?_
      simp at he
      rcases he with rfl | rfl | rfl
      ·exact .int (Nat.lt_of_lt_of_le (show y.natAbs < 2 ^ 7 by omega) (pow_le (by decide)))
      ·exact .int (Nat.lt_of_lt_of_le (show z.natAbs < 2 ^ 7 by omega) (pow_le (by decide)))
      ·exact (Cl.nm vx).sm (by decide)
    generalize D.tup (cutG (vs.map lv) none (some (m:Int))++.tup [.int y,.int z,nm v.x] :: cutG (vs.map lv) (some ((m:Int) + 1)) none)=f at okf
    have h5B:pB≠p5:=fun z=>by rw [z,l7] at eB; cases eB
    refine hN _ _ ⟨_,_,d8.upd_new e6 h5,by rw [mupd_ne h5B]; exact lB8,mupd_same,by simp; omega,(T8.add okf).kp (Kp.upd l8),rfl⟩
 ·rintro i x hx N hN δ M2 ⟨vs,u,j,w4,w5,d2,l2,hv,hj,hw,ul,gu,sv,rfl⟩
  obtain ⟨rfl,hi'⟩:=rngD_at hx
  have b:=bl6 j (by omega)
  have b':=b.2.2.2 (by omega)
  sleep 8
  sleep 7
  refine ⟨a,u,6 * 6 ^ j,36 * 60 ^ j,rfl,d2.pk,by omega,by omega,b.2.2.1,Nat.lt_of_lt_of_le b'.1 (pow_le (by decide)),Nat.lt_of_lt_of_le b'.2 (pow_le (by decide)),gu,fun v M3 hg hl gx xl y3=>?_⟩
  have l3:=y3.keep _ _ hpa l2
  have d3:=d2.trans y3
  have sx:Sz 42 v.x:=gx.sz (by omega) b'.1 b'.2
  have ng:=doL_gr b.2.2.1 gu hg hl gx
  sleep 7
  rw [show lv v=.tup [.int v.g,.int v.l,nm v.x] from rfl]
  refine tix (v:=nm v.x) rfl ?_
  refine tix (xs:=[.int v.x.num,.int v.x.den]) (at_zero _ _) ?_
  by_cases h0:0 < v.x.num
  ·have c0:0 < v.x:=by
    have h1:0<=v.x:=Rat.num_nonneg.mp (by omega)
    have h2:v.x≠0:=fun z=>by rw [z] at h0; exact absurd h0 (by decide)
    grind
   have hc:=canL_lv hg hl c0 xl
   simp [h0]
   sleep 7
   refine ⟨⟨_,l3⟩,_,l3,by simp; omega,?_⟩
   have l4:(M3.upd p0 (.ls (vs.map lv++[.tup [.int v.g,.int v.l,nm v.x]]))) p0=some (.ls ((vs++[v]).map lv)):=by rw [mupd_same,List.map_append]; rfl
   have d4:Dr a M (M3.upd p0 (.ls (vs.map lv++[.tup [.int v.g,.int v.l,nm v.x]]))):=d3.upd_new e0 hpa
   generalize M3.upd p0 (.ls (vs.map lv++[.tup [.int v.g,.int v.l,nm v.x]]))=M4 at l4 d4
   sleep 7
   intro p5 M5 e5 x5 l5
   have gx:∀ d∈[D.tup [.int v.g,.int v.l,nm v.x]],Gd M5 d:=fun d hd=>by
    rw [List.mem_singleton] at hd
    subst hd
    exact gtc (gsm (by omega)) (gtc (gsm (by omega)) (gtc (gnm sx) gt0))
   refine ⟨u,_,_,42,42,rfl,.inr ⟨p5,rfl,l5⟩,by omega,fun x hx=>(gu x hx).sz b.2.2.1 b.1 b.2.1,gx,fun d hd w ew=>?_,by decide,by simp,fun M6 x6=>?_⟩
   ·rw [List.mem_singleton] at hd
    subst hd
    unfold lv at ew
    injection ew with ew
    simp at ew
    rw [<- nm_inj ew.2.2]
    exact sx
   have ew:wkD u [D.tup [.int v.g,.int v.l,nm v.x]]=rw (doL v u):=wkD_some (by
    show (match canL u (lv v) with | some w=>walkG (doL w u) [] | none=>none)=_
    rw [hc]; rfl)
   rw [ew]
   refine hN _ _ ⟨vs++[v],doL v u,j + 1,_,_,d4.trans (Dr.ext d4.pk (x5.trans x6)),x6 _ _ (x5 _ _ l4),by simp; omega,by omega,?_,by rw [doL_len]; exact ul,fun x hx=>?_,fun w hw=>?_,rfl⟩
   ·rw [List.map_append]
    exact walkG_snoc hw hc
   ·have:=ng x hx
    rw [Nat.mul_assoc,<- Nat.pow_succ] at this
    exact this.mono (by rw [Nat.pow_succ]; omega)
   ·rcases List.mem_append.mp hw with hw | hw
    ·exact sv w hw
    ·rw [List.mem_singleton] at hw
     subst hw
     exact ⟨by omega,by omega,sx⟩
  ·simp [h0]
   exact hN _ _ ⟨vs,u,j,_,_,d3,l3,by omega,by omega,hw,ul,gu,sv,rfl⟩
noncomputable def C_law:CSs:=.cons (.fr (.name 1) (.rng (.cons (.int 0) (.cons (.bi .max (.cons (.int 1) (.cons (.bi .min (.cons (.bi .len (.cons (.var 0) (.nil))) (.cons (.int 8) (.nil)))) (.nil)))) (.cons (.int 2) (.nil))))) (.cons (.set 2 (.call "_law_pack" S_law_pack (.cons (.var 0) (.cons (.var 1) (.nil))))) (.cons (.ife (.not (.call "_law_right" S_law_right (.cons (.call "_law_pack" S_law_pack (.cons (.var 0) (.cons (.bin .Add (.var 1) (.int 1)) (.nil)))) (.cons (.call "_law_drawn_steps" S_law_drawn_steps (.cons (.var 2) (.cons (.bin .Add (.int 1) (.call "_law_take" S_law_take (.cons (.var 2) (.cons (.int 8) (.nil))))) (.cons (.int 6) (.nil))))) (.nil))))) (.cons (.ret (.bl false)) (.nil)) (.nil)) (.nil)))) (.cons (.ret (.call "_law_told" S_law_told (.cons (.tup (.cons (.str "leveller") (.cons (.bin .Mult (.tup (.cons (.tup (.cons (.int 1) (.cons (.int 1) (.nil)))) (.nil))) (.int 24)) (.cons (.bin .Mult (.tup (.cons (.tup (.cons (.int 1) (.cons (.int 1) (.nil)))) (.nil))) (.int 24)) (.nil))))) (.cons (.tup (.nil)) (.cons (.bl true) (.nil)))))) (.nil))
theorem vc_law:∀ ds M R E,SLaw ds M R E->rSs C_law (ends R E) (startD 3 ds) M:=by
 rintro ds M R E ⟨ns,rfl,hs,h⟩
 unfold C_law
 sleep 9
 obtain ⟨z,hz,hc,e⟩:=law_top 8 ns.length (by decide) (by decide)
 rw [e]
 obtain ⟨r1,r2,r3⟩:=rng_small z hz
 refine ⟨divOk_small (by decide) (lt8000 (by decide)),r1,r2,?_⟩
 refine forD_inv (fun δ M'=>∃ w1 w2,δ=[some (.fz (ns.map .int)),w1,w2]) (fun _ _ _=>trivial) ?_ ?_ ⟨_,_,rfl⟩
 ·rintro δ M' ⟨w1,w2,rfl⟩
  sleep 7
  have sz1:∀ x∈List.replicate 24 (1:Rat),Sz 2 x:=fun x hx=>by rw [List.eq_of_mem_replicate hx]; exact ⟨by decide,by decide⟩
  have e1:∀ n,(List.replicate n (1:Rat)).map nm=List.replicate n (.tup [.int 1,.int 1]):=fun n=>by rw [List.map_replicate]; rfl
  have c1:Cl 2 (rw (List.replicate 24 1)):=.rw (by simp) sz1
  refine ⟨rw (List.replicate 24 1),rw (List.replicate 24 1),.tup [],true,rfl,⟨c1.sm (by decide),c1.sm (by decide),.tup nofun,.tup (by simp)⟩,?_,fun M1 _=>h M1⟩
  exact (levC_iff.mpr ⟨_,_,_,rfl,rfl,by simp,by simp,rfl,rfl⟩).symm
 ·rintro x hx N hN δ M0 ⟨w1,w2,rfl⟩
  obtain ⟨i,hI,rfl⟩:=List.mem_map.mp hx
  have hi2:=List.mem_range.mp hI
  sleep 8
  sleep 7
  refine ⟨ns,_,rfl,hs,by omega,by omega,fun v a M1 e1 x1 l1=>?_⟩
  have pk1:Pk M1 a:=⟨v,l1⟩
  sleep 7
  refine ⟨ns,_,rfl,hs,by omega,by omega,fun v' a' M2 e2 x2 l2=>?_⟩
  refine take_ok (pk1.ext x2) (by decide) (by decide) fun n M3 n0 n1 y3=>?_
  obtain ⟨n,rfl⟩:=Int.eq_ofNat_of_zero_le n0
  have ne:a'≠a:=(pk1.ne e2)
  refine ⟨a,1 + n,by simp,y3.pk,by omega,by omega,fun t M4 tl st y4=>?_⟩
  refine ⟨a',t,rfl,⟨v',y4.keep _ _ ne (y3.keep _ _ ne l2)⟩,by omega,by omega,st,fun M5=>?_⟩
  simp
  exact hN _ _ ⟨_,_,rfl⟩
end K
end
namespace PySem.W.Fast
theorem tw4601632646870330938:True:=⟨⟩
theorem tw11623641977741486488:True:=⟨⟩
theorem tw1159868209793132087:True:=⟨⟩
theorem tw12827833918739749637:True:=⟨⟩
theorem tw10713505328014809330:True:=⟨⟩
theorem tw13158250684936337221:True:=⟨⟩
theorem tw15351179212548585715:True:=⟨⟩
theorem tw966783620219210292:True:=⟨⟩
theorem tw14025501982041499050:True:=⟨⟩
theorem tw13812789154487110142:True:=⟨⟩
theorem tw7131241051771304965:True:=⟨⟩
theorem tw7077350259312144948:True:=⟨⟩
theorem tw17957331262743418227:True:=⟨⟩
theorem tw13370672669274915702:True:=⟨⟩
theorem tw7040083202317022613:True:=⟨⟩
theorem tw18160789316514081859:True:=⟨⟩
theorem tw12051040171052181454:True:=⟨⟩
theorem tw14008948758154981260:True:=⟨⟩
theorem tw4251702672902160659:True:=⟨⟩
theorem tw13889189456330818821:True:=⟨⟩
theorem tw13538562640135835866:True:=⟨⟩
theorem tw7147289014799387688:True:=⟨⟩
theorem tw6012697346764352775:True:=⟨⟩
theorem tw13775697161279618918:True:=⟨⟩
theorem tw16247904698901085503:True:=⟨⟩
theorem tw4226595992349784534:True:=⟨⟩
theorem tw15453214692268393742:True:=⟨⟩
theorem tw9958786570357189146:True:=⟨⟩
theorem tw9901351735995505479:True:=⟨⟩
theorem tw4917284924040452526:True:=⟨⟩
theorem tw5696772094551343347:True:=⟨⟩
theorem tw12092052177952327276:True:=⟨⟩
theorem tw9354207203904745305:True:=⟨⟩
theorem tw13656131447028516893:True:=⟨⟩
theorem tw16085435861319419116:True:=⟨⟩
theorem tw9407803284770589429:True:=⟨⟩
theorem tw11566213288548718633:True:=⟨⟩
theorem tw3454569675984602687:True:=⟨⟩
theorem tw13813441669094940171:True:=⟨⟩
theorem tw6049626234578729370:True:=⟨⟩
theorem tw10803157186455806068:True:=⟨⟩
theorem tw2531620652464768218:True:=⟨⟩
theorem tw14160849228905434540:True:=⟨⟩
theorem tw17289736145967338143:True:=⟨⟩
theorem tw869734737537851121:True:=⟨⟩
theorem tw17033716918175960256:True:=⟨⟩
theorem tw1330196618566259219:True:=⟨⟩
theorem tw1182293096998714060:True:=⟨⟩
theorem tw17815299918178957257:True:=⟨⟩
theorem tw7765723213834331064:True:=⟨⟩
theorem tw14496832924869311379:True:=⟨⟩
theorem tw13836319051324145875:True:=⟨⟩
theorem tw1213788992385418449:True:=⟨⟩
theorem tw6399649980896032299:True:=⟨⟩
theorem tw16521926239472509803:True:=⟨⟩
theorem tw17190995475607834728:True:=⟨⟩
theorem tw6206862345229124683:True:=⟨⟩
theorem tw222481611414918398:True:=⟨⟩
theorem tw11166082220962045836:True:=⟨⟩
theorem tw7272213464562587123:True:=⟨⟩
theorem tw4936385334445699872:True:=⟨⟩
theorem tw9658763813838696604:True:=⟨⟩
theorem tw14576311312529474764:True:=⟨⟩
theorem tw352261358072795050:True:=⟨⟩
theorem tw14706367525921744107:True:=⟨⟩
theorem tw1082982271090317442:True:=⟨⟩
theorem tw4450739753213804868:True:=⟨⟩
theorem tw12980802121684343166:True:=⟨⟩
theorem tw879205871471821045:True:=⟨⟩
theorem tw10722576815386106107:True:=⟨⟩
theorem tw4327720002606995474:True:=⟨⟩
theorem tw3432423595481226055:True:=⟨⟩
theorem tw6128380261429812426:True:=⟨⟩
theorem tw12349891332151834735:True:=⟨⟩
theorem tw13583692888191383180:True:=⟨⟩
theorem tw2135447124824552218:True:=⟨⟩
theorem tw7837895833400009899:True:=⟨⟩
theorem tw9188319030444373813:True:=⟨⟩
theorem tw7672275497898906281:True:=⟨⟩
theorem tw943909479620543484:True:=⟨⟩
theorem tw10274883772746737223:True:=⟨⟩
theorem tw9819861633607621547:True:=⟨⟩
theorem tw16746641375044880575:True:=⟨⟩
theorem tw2912966155312032380:True:=⟨⟩
theorem tw2768091401045265036:True:=⟨⟩
theorem tw18361947754056141049:True:=⟨⟩
theorem tw9738493848535781565:True:=⟨⟩
theorem tw7895202098110480291:True:=⟨⟩
theorem tw959957228534741756:True:=⟨⟩
theorem tw11682880641220516225:True:=⟨⟩
theorem tw989676066571609178:True:=⟨⟩
theorem tw12663822270214350798:True:=⟨⟩
theorem tw5899077036350018130:True:=⟨⟩
theorem tw242651433993234048:True:=⟨⟩
theorem tw2168575510089078147:True:=⟨⟩
theorem tw16543468744866287325:True:=⟨⟩
theorem tw6248139541047122626:True:=⟨⟩
theorem tw14285744284395030778:True:=⟨⟩
theorem tw10446399152998582804:True:=⟨⟩
theorem tw3380586420919198551:True:=⟨⟩
theorem tw534769545162748105:True:=⟨⟩
theorem tw915185026580110926:True:=⟨⟩
theorem tw14064329617403467472:True:=⟨⟩
theorem tw2215535023620405384:True:=⟨⟩
theorem tw2808907260457769755:True:=⟨⟩
theorem tw13470271801035935078:True:=⟨⟩
theorem tw11118770376955643509:True:=⟨⟩
theorem tw15402094977765572074:True:=⟨⟩
theorem tw8112140212640148791:True:=⟨⟩
theorem tw13417894375470516609:True:=⟨⟩
theorem tw5219460100809099394:True:=⟨⟩
theorem tw17796301015542579450:True:=⟨⟩
theorem tw7606578846398928377:True:=⟨⟩
theorem tw17129807957359795681:True:=⟨⟩
theorem tw3289397773954424114:True:=⟨⟩
theorem tw7660623391805605571:True:=⟨⟩
theorem tw2066934574321253072:True:=⟨⟩
theorem tw13884677119971185768:True:=⟨⟩
theorem tw9877718926631668068:True:=⟨⟩
theorem tw2058436988389160507:True:=⟨⟩
theorem tw3586803077051073736:True:=⟨⟩
theorem tw8844980652182101343:True:=⟨⟩
theorem tw8808371377688425224:True:=⟨⟩
theorem tw11324682303997503981:True:=⟨⟩
theorem tw2786811042491247595:True:=⟨⟩
theorem tw3645323321265214977:True:=⟨⟩
theorem tw8829908209290068283:True:=⟨⟩
theorem tw13293873344625190660:True:=⟨⟩
theorem tw16771601035924828720:True:=⟨⟩
theorem tw14132430242515724846:True:=⟨⟩
theorem tw17189126093436281151:True:=⟨⟩
theorem tw2470632847344266657:True:=⟨⟩
theorem tw7727222955071027479:True:=⟨⟩
theorem tw16516680424522736425:True:=⟨⟩
theorem tw5660313900433347825:True:=⟨⟩
theorem tw17818895610621722154:True:=⟨⟩
theorem tw4480004244538979869:True:=⟨⟩
theorem tw12850236825125815058:True:=⟨⟩
theorem tw12095543028164893307:True:=⟨⟩
theorem tw4623625672575867627:True:=⟨⟩
theorem tw1764510742874056903:True:=⟨⟩
theorem tw2774165995839814751:True:=⟨⟩
theorem tw15546497223433913573:True:=⟨⟩
theorem tw7069652220680059548:True:=⟨⟩
theorem tw4215012114035779157:True:=⟨⟩
theorem tw7311063694055425519:True:=⟨⟩
theorem tw9313917004226289240:True:=⟨⟩
theorem tw11983945225804103903:True:=⟨⟩
theorem tw6556060676797134631:True:=⟨⟩
theorem tw8516366393543416896:True:=⟨⟩
theorem tw11222404513902964539:True:=⟨⟩
theorem tw7561050094740211075:True:=⟨⟩
theorem tw14343436814443168224:True:=⟨⟩
theorem tw11180681975579648875:True:=⟨⟩
theorem tw4875647496947127605:True:=⟨⟩
theorem tw14197853441681159240:True:=⟨⟩
theorem tw787654049578077326:True:=⟨⟩
theorem tw15368410393147328562:True:=⟨⟩
theorem tw12436165819665538926:True:=⟨⟩
theorem tw7851768189087141726:True:=⟨⟩
theorem tw9163288474001203586:True:=⟨⟩
theorem tw10388039286311255617:True:=⟨⟩
theorem tw5126173731639079932:True:=⟨⟩
theorem tw12014711303440857114:True:=⟨⟩
theorem tw12547967815746631574:True:=⟨⟩
theorem tw10514818745427472247:True:=⟨⟩
theorem tw9225132507068438666:True:=⟨⟩
theorem tw9402697742459844555:True:=⟨⟩
theorem tw6785619119517751160:True:=⟨⟩
theorem tw6729012983246671234:True:=⟨⟩
theorem tw15350012796396909113:True:=⟨⟩
theorem tw14588434791440506496:True:=⟨⟩
theorem tw14247993972438460864:True:=⟨⟩
theorem tw13435311011967768466:True:=⟨⟩
theorem tw5767748412872575853:True:=⟨⟩
theorem tw7328832501293450666:True:=⟨⟩
theorem tw10750762510872635644:True:=⟨⟩
theorem tw152126953779022090:True:=⟨⟩
theorem tw9093828268318584610:True:=⟨⟩
theorem tw9344350559230032484:True:=⟨⟩
theorem tw14206934211845522785:True:=⟨⟩
theorem tw18192939601193431855:True:=⟨⟩
theorem tw8606471108032304186:True:=⟨⟩
theorem tw18339703616046821242:True:=⟨⟩
theorem tw3390979133957812799:True:=⟨⟩
theorem tw10172693193775840131:True:=⟨⟩
theorem tw14625392213682425853:True:=⟨⟩
theorem tw11662054820288131425:True:=⟨⟩
theorem tw1067885496254766770:True:=⟨⟩
theorem tw12139868510578921342:True:=⟨⟩
theorem tw17567849250271872012:True:=⟨⟩
theorem tw17115241886040225253:True:=⟨⟩
theorem tw13092156107809408558:True:=⟨⟩
theorem tw15216213519877400456:True:=⟨⟩
theorem tw6431677816640662512:True:=⟨⟩
theorem tw16066712470048287089:True:=⟨⟩
theorem tw5522935362042878270:True:=⟨⟩
theorem tw2525873257931312252:True:=⟨⟩
theorem tw3941099317954218845:True:=⟨⟩
theorem tw18258802351877884684:True:=⟨⟩
theorem tw12640276046770680192:True:=⟨⟩
theorem tw3291872970970326183:True:=⟨⟩
theorem tw14642323057557388795:True:=⟨⟩
theorem tw14548061399811601547:True:=⟨⟩
theorem tw546421457563045004:True:=⟨⟩
theorem tw7205902608761488974:True:=⟨⟩
theorem tw2488263137597455504:True:=⟨⟩
theorem tw7820847499918417323:True:=⟨⟩
theorem tw11126757755231893893:True:=⟨⟩
theorem tw15816700639022332994:True:=⟨⟩
theorem tw10025634070283589887:True:=⟨⟩
theorem tw2630097002318567774:True:=⟨⟩
theorem tw2092705887197652394:True:=⟨⟩
theorem tw13600805704824598547:True:=⟨⟩
theorem tw16934637849319144092:True:=⟨⟩
theorem tw12689194285715986806:True:=⟨⟩
theorem tw1654215776304326830:True:=⟨⟩
theorem tw11329189790466736978:True:=⟨⟩
theorem tw8665373023207149509:True:=⟨⟩
theorem tw9045120710170012947:True:=⟨⟩
theorem tw10380575758606039403:True:=⟨⟩
theorem tw17642260322092942294:True:=⟨⟩
theorem tw15693472816037373578:True:=⟨⟩
theorem tw6571255399836843540:True:=⟨⟩
theorem tw13942027073433972070:True:=⟨⟩
theorem tw4011153633320080034:True:=⟨⟩
theorem tw13043347469746132640:True:=⟨⟩
theorem tw4094848925465266099:True:=⟨⟩
theorem tw6368274617399073375:True:=⟨⟩
theorem tw3079820656556718488:True:=⟨⟩
theorem tw11365955734134556425:True:=⟨⟩
theorem tw15971949582978306574:True:=⟨⟩
theorem tw10336982368277444943:True:=⟨⟩
theorem tw9132340849945564164:True:=⟨⟩
theorem tw3046425252640709467:True:=⟨⟩
theorem tw17729363192756031457:True:=⟨⟩
theorem tw16426839635024429449:True:=⟨⟩
theorem tw1628151198647255995:True:=⟨⟩
theorem tw15568664726676453276:True:=⟨⟩
theorem tw4631121782644951526:True:=⟨⟩
theorem tw256570042126743177:True:=⟨⟩
theorem tw12477125318912328426:True:=⟨⟩
theorem tw290998622109767955:True:=⟨⟩
theorem tw6434209512719489901:True:=⟨⟩
theorem tw16278427722565114896:True:=⟨⟩
theorem tw18389817010815052514:True:=⟨⟩
theorem tw11656945530279126465:True:=⟨⟩
theorem tw8463055730819426373:True:=⟨⟩
theorem tw9052204489340392993:True:=⟨⟩
theorem tw15377413948537460490:True:=⟨⟩
theorem tw11959292713626549233:True:=⟨⟩
theorem tw13650143181538380939:True:=⟨⟩
theorem tw36426165257574675:True:=⟨⟩
theorem tw11382745524956956772:True:=⟨⟩
theorem tw6492291910033627981:True:=⟨⟩
theorem tw3844130165920352175:True:=⟨⟩
theorem tw15237929306262699865:True:=⟨⟩
theorem tw11556450085694533986:True:=⟨⟩
theorem tw2240450375932067:True:=⟨⟩
theorem tw15559722914984525056:True:=⟨⟩
theorem tw14531708635128530564:True:=⟨⟩
theorem tw14491705256045967142:True:=⟨⟩
theorem tw2677269583581377005:True:=⟨⟩
theorem tw9091510402738751001:True:=⟨⟩
theorem tw7648624054251365909:True:=⟨⟩
theorem tw11737088001575807224:True:=⟨⟩
theorem tw3943108275190903776:True:=⟨⟩
theorem tw1528415283052647750:True:=⟨⟩
theorem tw5658903714005836854:True:=⟨⟩
theorem tw3810586350887427235:True:=⟨⟩
theorem tw17399557949085813903:True:=⟨⟩
theorem tw11451718041568750201:True:=⟨⟩
theorem tw626936038691433200:True:=⟨⟩
theorem tw2835517419801782643:True:=⟨⟩
theorem tw5497701907609206727:True:=⟨⟩
theorem tw16227748908810099780:True:=⟨⟩
theorem tw8884025990514661061:True:=⟨⟩
theorem tw6065529251912935742:True:=⟨⟩
theorem tw7312764407832775268:True:=⟨⟩
theorem tw17723442216623982999:True:=⟨⟩
theorem tw931844171274801986:True:=⟨⟩
theorem tw8721347550560681854:True:=⟨⟩
theorem tw1629306009016619884:True:=⟨⟩
theorem tw18438940187086142122:True:=⟨⟩
theorem tw8508234349113355109:True:=⟨⟩
theorem tw7103292041980900779:True:=⟨⟩
theorem tw9318806073421599443:True:=⟨⟩
theorem tw3409252226550971604:True:=⟨⟩
theorem tw18071791953021548783:True:=⟨⟩
theorem tw3154543556481301207:True:=⟨⟩
theorem tw1402615257443395634:True:=⟨⟩
theorem tw9085437470752592999:True:=⟨⟩
theorem tw3045091795399135940:True:=⟨⟩
theorem tw17687602696311605181:True:=⟨⟩
theorem tw18228618158075821846:True:=⟨⟩
theorem tw3613205333449073837:True:=⟨⟩
theorem tw2565274292195456746:True:=⟨⟩
theorem tw6180688552987283917:True:=⟨⟩
theorem tw8068647621402164411:True:=⟨⟩
theorem tw17913236461859408862:True:=⟨⟩
theorem tw10214654005905291106:True:=⟨⟩
theorem tw16429699435292262142:True:=⟨⟩
theorem tw1918132734988895304:True:=⟨⟩
theorem tw14991565810460514467:True:=⟨⟩
theorem tw13786403373031676499:True:=⟨⟩
theorem tw7910366360564085038:True:=⟨⟩
theorem tw5459355537879645983:True:=⟨⟩
theorem tw13346142752061252819:True:=⟨⟩
theorem tw3365305761791421596:True:=⟨⟩
theorem tw13177627329632215465:True:=⟨⟩
theorem tw17377415922116763779:True:=⟨⟩
theorem tw13611615663429796080:True:=⟨⟩
theorem tw9933905825449997520:True:=⟨⟩
theorem tw664585215937294173:True:=⟨⟩
theorem tw1798963911002615715:True:=⟨⟩
theorem tw5081904506927544069:True:=⟨⟩
theorem tw2921384415353141598:True:=⟨⟩
theorem tw13994525048246024479:True:=⟨⟩
theorem tw2108062997093396443:True:=⟨⟩
theorem tw3401800668087038557:True:=⟨⟩
theorem tw14827653058517906777:True:=⟨⟩
theorem tw4072878467579268570:True:=⟨⟩
theorem tw9816049239001839826:True:=⟨⟩
theorem tw18400704558954149472:True:=⟨⟩
theorem tw16872455119670009247:True:=⟨⟩
theorem tw6012817765562379168:True:=⟨⟩
theorem tw8629312429508013884:True:=⟨⟩
theorem tw8718885757194010587:True:=⟨⟩
theorem tw4934219707678163280:True:=⟨⟩
theorem tw1965943505441960723:True:=⟨⟩
theorem tw17617308940160095302:True:=⟨⟩
theorem tw15662809346828998542:True:=⟨⟩
theorem tw4407004420151434876:True:=⟨⟩
theorem tw13912627026204458120:True:=⟨⟩
theorem tw10050290347702267926:True:=⟨⟩
theorem tw461356745886003096:True:=⟨⟩
theorem tw8902631096771108585:True:=⟨⟩
theorem tw18039566324636437463:True:=⟨⟩
theorem tw14799118443182707141:True:=⟨⟩
theorem tw10745290347522710742:True:=⟨⟩
theorem tw11608400298482726322:True:=⟨⟩
theorem tw915482599358947474:True:=⟨⟩
theorem tw12879874632801339582:True:=⟨⟩
theorem tw1666053866819038097:True:=⟨⟩
theorem tw17393321042496616461:True:=⟨⟩
theorem tw18251410567061599877:True:=⟨⟩
theorem tw13731571385314623860:True:=⟨⟩
theorem tw357788619322940689:True:=⟨⟩
theorem tw3315198873364664956:True:=⟨⟩
theorem tw901123331930513681:True:=⟨⟩
theorem tw10148765600337342774:True:=⟨⟩
theorem tw12206040699633293380:True:=⟨⟩
theorem tw11507352920900492073:True:=⟨⟩
theorem tw1122764054636825574:True:=⟨⟩
theorem tw18070471998546651343:True:=⟨⟩
theorem tw11233937179931671024:True:=⟨⟩
theorem tw10065531429257607134:True:=⟨⟩
theorem tw14818532399790811369:True:=⟨⟩
theorem tw11891374883909695842:True:=⟨⟩
theorem tw9816938296673829486:True:=⟨⟩
theorem tw244044825556198645:True:=⟨⟩
theorem tw3053346178372132309:True:=⟨⟩
theorem tw9321334961513548575:True:=⟨⟩
theorem tw11614614581665492611:True:=⟨⟩
theorem tw17985024376939239014:True:=⟨⟩
theorem tw1629243418169316068:True:=⟨⟩
theorem tw18371580008072424106:True:=⟨⟩
theorem tw3324387642884012493:True:=⟨⟩
theorem tw4237403908569844961:True:=⟨⟩
theorem tw10635856075624461241:True:=⟨⟩
theorem tw16259243667281645893:True:=⟨⟩
theorem tw12138804353898387873:True:=⟨⟩
theorem tw11844605380163375115:True:=⟨⟩
theorem tw16232767290367428983:True:=⟨⟩
theorem tw5154346210323441034:True:=⟨⟩
theorem tw3871867867577740900:True:=⟨⟩
theorem tw6677612632776482521:True:=⟨⟩
theorem tw15529150528188970748:True:=⟨⟩
theorem tw18312613789296168337:True:=⟨⟩
theorem tw4685060358953028232:True:=⟨⟩
theorem tw14358637489843103102:True:=⟨⟩
theorem tw855334733199000159:True:=⟨⟩
theorem tw16580311633284726073:True:=⟨⟩
theorem tw4256376291428920689:True:=⟨⟩
theorem tw14771943765962489502:True:=⟨⟩
theorem tw11379930788917866461:True:=⟨⟩
theorem tw10857727048842624341:True:=⟨⟩
theorem tw16542534218271059198:True:=⟨⟩
theorem tw7147829965803209669:True:=⟨⟩
theorem tw16069219407439242994:True:=⟨⟩
theorem tw3753034292586056916:True:=⟨⟩
theorem tw14482594613663985735:True:=⟨⟩
theorem tw2242323279843186403:True:=⟨⟩
theorem tw7090095145344509237:True:=⟨⟩
theorem tw16615135944883838835:True:=⟨⟩
theorem tw12423622057997911308:True:=⟨⟩
theorem tw400968354195332925:True:=⟨⟩
theorem tw8563966279208726785:True:=⟨⟩
theorem tw15146131787772935085:True:=⟨⟩
theorem tw15433336208716191179:True:=⟨⟩
theorem tw14799421884311546584:True:=⟨⟩
theorem tw3648523040707619096:True:=⟨⟩
theorem tw2365822952167981363:True:=⟨⟩
theorem tw9295319931920884998:True:=⟨⟩
theorem tw14143743221985942123:True:=⟨⟩
theorem tw12100965769064194786:True:=⟨⟩
theorem tw12354376324674825365:True:=⟨⟩
theorem tw6267514173763464779:True:=⟨⟩
theorem tw7676717218995829740:True:=⟨⟩
theorem tw4316256167355067887:True:=⟨⟩
theorem tw7957379801054427998:True:=⟨⟩
theorem tw2423133572253180948:True:=⟨⟩
theorem tw4694099993648967198:True:=⟨⟩
theorem tw2756464382274401821:True:=⟨⟩
theorem tw18329777603390533574:True:=⟨⟩
theorem tw5218741173358897517:True:=⟨⟩
theorem tw12163468037888071868:True:=⟨⟩
theorem tw15912969390485282090:True:=⟨⟩
theorem tw16785277631203972966:True:=⟨⟩
theorem tw7068466373652465576:True:=⟨⟩
theorem tw14439923562080867993:True:=⟨⟩
theorem tw11569637382532614164:True:=⟨⟩
theorem tw3907463344764083355:True:=⟨⟩
theorem tw4624987928567261410:True:=⟨⟩
theorem tw6934165323857757900:True:=⟨⟩
theorem tw15363179999226284920:True:=⟨⟩
theorem tw7123178526987051566:True:=⟨⟩
theorem tw11929715057922810859:True:=⟨⟩
theorem tw2897233676191432908:True:=⟨⟩
theorem tw6178133584961179350:True:=⟨⟩
theorem tw14629936186069782938:True:=⟨⟩
theorem tw8245549761399131608:True:=⟨⟩
theorem tw13485544208638372695:True:=⟨⟩
theorem tw7746561687572807398:True:=⟨⟩
theorem tw14836130227944273834:True:=⟨⟩
theorem tw11204403588307780667:True:=⟨⟩
theorem tw4251894852742024425:True:=⟨⟩
theorem tw11430213565513844810:True:=⟨⟩
theorem tw9679873489532867201:True:=⟨⟩
theorem tw11678503797631542523:True:=⟨⟩
theorem tw3442037459552247792:True:=⟨⟩
theorem tw12671833610526611273:True:=⟨⟩
theorem tw6007071023262670037:True:=⟨⟩
theorem tw2562766760030336926:True:=⟨⟩
theorem tw17648504323150529390:True:=⟨⟩
theorem tw6894647647270144654:True:=⟨⟩
theorem tw12534245962334017815:True:=⟨⟩
theorem tw16736772145709700942:True:=⟨⟩
theorem tw9204217183559047865:True:=⟨⟩
theorem tw17709360290293910495:True:=⟨⟩
theorem tw2166691754394127499:True:=⟨⟩
theorem tw16217510826258670063:True:=⟨⟩
theorem tw12982834075958424317:True:=⟨⟩
theorem tw5796528355935845574:True:=⟨⟩
theorem tw5454568507859324890:True:=⟨⟩
theorem tw5547992453033950330:True:=⟨⟩
theorem tw6498454362707791502:True:=⟨⟩
theorem tw16793031324494069236:True:=⟨⟩
theorem tw9512723279264177815:True:=⟨⟩
theorem tw3602565923979811288:True:=⟨⟩
theorem tw15064148023457425140:True:=⟨⟩
theorem tw17062218069440138014:True:=⟨⟩
theorem tw3558365153052227256:True:=⟨⟩
theorem tw5782362198301212499:True:=⟨⟩
theorem tw3201749784581462783:True:=⟨⟩
theorem tw640308276113591603:True:=⟨⟩
theorem tw9520141572444597302:True:=⟨⟩
theorem tw2256275944701490423:True:=⟨⟩
theorem tw11635632568223614374:True:=⟨⟩
theorem tw17755453664383794573:True:=⟨⟩
theorem tw10400040889336629478:True:=⟨⟩
theorem tw4200426285762429440:True:=⟨⟩
theorem tw7605877576230875588:True:=⟨⟩
theorem tw10592798132173717134:True:=⟨⟩
theorem tw16876115871807656493:True:=⟨⟩
theorem tw3863287099326651408:True:=⟨⟩
theorem tw3384189045915828069:True:=⟨⟩
theorem tw9730763324632671749:True:=⟨⟩
theorem tw7430793106516441820:True:=⟨⟩
theorem tw559355757377697000:True:=⟨⟩
theorem tw8467237450614799140:True:=⟨⟩
theorem tw10363317103974941360:True:=⟨⟩
theorem tw17313636622283677836:True:=⟨⟩
theorem tw7434232409357174977:True:=⟨⟩
theorem tw781993677582396495:True:=⟨⟩
theorem tw8287933812235490569:True:=⟨⟩
theorem tw8522839323194841476:True:=⟨⟩
theorem tw2081322892717342650:True:=⟨⟩
theorem tw7938239255174475933:True:=⟨⟩
theorem tw6094149748101306491:True:=⟨⟩
theorem tw11247692736307592638:True:=⟨⟩
theorem tw5498348338406881828:True:=⟨⟩
theorem tw16878501546401445232:True:=⟨⟩
theorem tw1455347052589450738:True:=⟨⟩
theorem tw5429525406421947763:True:=⟨⟩
theorem tw6076069191402089442:True:=⟨⟩
theorem tw11313608270311517472:True:=⟨⟩
theorem tw16981507525560151898:True:=⟨⟩
theorem tw7504704255222109835:True:=⟨⟩
theorem tw8885786661686149137:True:=⟨⟩
theorem tw18050718106691960709:True:=⟨⟩
theorem tw2138877351108846225:True:=⟨⟩
theorem tw4520144660419825644:True:=⟨⟩
theorem tw151804140068678963:True:=⟨⟩
theorem tw7625142324541213554:True:=⟨⟩
theorem tw9408340733976108013:True:=⟨⟩
theorem tw7935200396750582806:True:=⟨⟩
theorem tw1388336518269732442:True:=⟨⟩
theorem tw17652165815253362128:True:=⟨⟩
theorem tw4368459604763360478:True:=⟨⟩
theorem tw4620587331489845982:True:=⟨⟩
theorem tw1219480252162863847:True:=⟨⟩
theorem tw16482536233106740384:True:=⟨⟩
theorem tw4845036574581602979:True:=⟨⟩
theorem tw11808072213937191062:True:=⟨⟩
theorem tw13161564203658969491:True:=⟨⟩
theorem tw17693726415470739682:True:=⟨⟩
theorem tw4710150380606838854:True:=⟨⟩
theorem tw10552378963575393263:True:=⟨⟩
theorem tw6703668558723539441:True:=⟨⟩
theorem tw12327063469159893872:True:=⟨⟩
theorem tw11689093480833592759:True:=⟨⟩
theorem tw2061307264107673558:True:=⟨⟩
theorem tw13532491783950876565:True:=⟨⟩
theorem tw16092900678661418047:True:=⟨⟩
theorem tw9494233709009810639:True:=⟨⟩
theorem tw5488371825787063903:True:=⟨⟩
theorem tw15104949717727451368:True:=⟨⟩
theorem tw474466147067600402:True:=⟨⟩
theorem tw1341677221411649723:True:=⟨⟩
theorem tw266550415251975541:True:=⟨⟩
theorem tw6142716027384506896:True:=⟨⟩
theorem tw15854129617244122291:True:=⟨⟩
theorem tw12949373138331706047:True:=⟨⟩
theorem tw17832080151024912122:True:=⟨⟩
theorem tw15203439520431131392:True:=⟨⟩
theorem tw4614634526902450481:True:=⟨⟩
theorem tw9341865115031440986:True:=⟨⟩
theorem tw6737676851221671669:True:=⟨⟩
theorem tw11642543473330507144:True:=⟨⟩
theorem tw14572868464828374103:True:=⟨⟩
theorem tw3437192928160615223:True:=⟨⟩
theorem tw16199201899283545264:True:=⟨⟩
theorem tw17216562261318664586:True:=⟨⟩
theorem tw13351375229780606652:True:=⟨⟩
theorem tw16704324711357619361:True:=⟨⟩
theorem tw6409446706814526066:True:=⟨⟩
theorem tw2254810107295532077:True:=⟨⟩
theorem tw2618228181991064401:True:=⟨⟩
theorem tw5509348083490150649:True:=⟨⟩
theorem tw11178068968327665341:True:=⟨⟩
theorem tw3333751074334463681:True:=⟨⟩
theorem tw9991947272924416720:True:=⟨⟩
theorem tw3427980756884796597:True:=⟨⟩
theorem tw1791267576313404894:True:=⟨⟩
theorem tw8886451611829084216:True:=⟨⟩
theorem tw2005486440896820211:True:=⟨⟩
theorem tw17068801978238798571:True:=⟨⟩
theorem tw17615992209259563414:True:=⟨⟩
theorem tw11647476388828843881:True:=⟨⟩
theorem tw16980354560933455103:True:=⟨⟩
theorem tw16888760321160242591:True:=⟨⟩
theorem tw15216094256477928188:True:=⟨⟩
theorem tw1393715910703909989:True:=⟨⟩
theorem tw6591309449170884726:True:=⟨⟩
theorem tw8622455018903619237:True:=⟨⟩
theorem tw13991174798066107658:True:=⟨⟩
theorem tw17534175127622299719:True:=⟨⟩
theorem tw17747027135896327053:True:=⟨⟩
end PySem.W.Fast
namespace K
open PySem DL L2 PySem.W
noncomputable def top (i:Nat):Stmt:=PySem.Challenge.pw_levelcord_k73_levellings_judged.main.body.getD i (.Pass ⟨0,0,0,0⟩)
noncomputable abbrev s_is_whole:Stmt:=top 8
theorem ck_is_whole:isSs ⟨["thing"],defScope s_is_whole,true,true⟩ true C_is_whole (defBody s_is_whole)=true:=by decide +kernel
theorem sc_is_whole:FnScope ["thing"] ["thing"] (defScope s_is_whole):=by sleep 50
theorem len_is_whole:∀ ds M R E,S_is_whole ds M R E->ds.length=1:=fun _ _ _ _ h=>by obtain ⟨_,_,e,_⟩:=h; rw [e]; rfl
noncomputable abbrev s_greatest_divisor:Stmt:=top 9
theorem ck_greatest_divisor:isSs ⟨["one","other"],defScope s_greatest_divisor,true,true⟩ true C_greatest_divisor (defBody s_greatest_divisor)=true:=by decide +kernel
theorem sc_greatest_divisor:FnScope ["one","other"] ["one","other"] (defScope s_greatest_divisor):=by sleep 50
theorem len_greatest_divisor:∀ ds M R E,S_greatest_divisor ds M R E->ds.length=2:=fun _ _ _ _ h=>by obtain ⟨_,_,e,_⟩:=h; rw [e]; rfl
noncomputable abbrev s_is_number:Stmt:=top 10
theorem ck_is_number:isSs ⟨["thing","top","bottom"],defScope s_is_number,true,true⟩ true C_is_number (defBody s_is_number)=true:=by decide +kernel
theorem sc_is_number:FnScope ["thing","top","bottom"] ["thing"] (defScope s_is_number):=by sleep 50
theorem len_is_number:∀ ds M R E,S_is_number ds M R E->ds.length=1:=fun _ _ _ _ h=>by obtain ⟨_,e,_⟩:=h; rw [e]; rfl
noncomputable abbrev s_number:Stmt:=top 11
theorem ck_number:isSs ⟨["top","bottom","divisor"],defScope s_number,true,true⟩ true C_number (defBody s_number)=true:=by decide +kernel
theorem sc_number:FnScope ["top","bottom","divisor"] ["top","bottom"] (defScope s_number):=by sleep 50
theorem len_number:∀ ds M R E,S_number ds M R E->ds.length=2:=fun _ _ _ _ h=>by obtain ⟨_,_,e,_⟩:=h; rw [e]; rfl
noncomputable abbrev s_added:Stmt:=top 12
theorem ck_added:isSs ⟨["one","other"],defScope s_added,true,true⟩ true C_added (defBody s_added)=true:=by decide +kernel
theorem sc_added:FnScope ["one","other"] ["one","other"] (defScope s_added):=by sleep 50
theorem len_added:∀ ds M R E,S_added ds M R E->ds.length=2:=fun _ _ _ _ h=>by obtain ⟨_,_,e,_⟩:=h; rw [e]; rfl
noncomputable abbrev s_taken:Stmt:=top 13
theorem ck_taken:isSs ⟨["one","other"],defScope s_taken,true,true⟩ true C_taken (defBody s_taken)=true:=by decide +kernel
theorem sc_taken:FnScope ["one","other"] ["one","other"] (defScope s_taken):=by sleep 50
theorem len_taken:∀ ds M R E,S_taken ds M R E->ds.length=2:=fun _ _ _ _ h=>by obtain ⟨_,_,e,_⟩:=h; rw [e]; rfl
noncomputable abbrev s_is_less:Stmt:=top 16
theorem ck_is_less:isSs ⟨["one","other"],defScope s_is_less,true,true⟩ true C_is_less (defBody s_is_less)=true:=by decide +kernel
theorem sc_is_less:FnScope ["one","other"] ["one","other"] (defScope s_is_less):=by sleep 50
theorem len_is_less:∀ ds M R E,S_is_less ds M R E->ds.length=2:=fun _ _ _ _ h=>by obtain ⟨_,_,e,_⟩:=h; rw [e]; rfl
noncomputable abbrev s_are_numbers:Stmt:=top 19
theorem ck_are_numbers:isSs ⟨["thing","least","most"],defScope s_are_numbers,true,true⟩ true C_are_numbers (defBody s_are_numbers)=true:=by decide +kernel
theorem sc_are_numbers:FnScope ["thing","least","most"] ["thing","least","most"] (defScope s_are_numbers):=by sleep 50
theorem len_are_numbers:∀ ds M R E,S_are_numbers ds M R E->ds.length=3:=fun _ _ _ _ h=>by obtain ⟨_,_,_,e,_⟩:=h; rw [e]; rfl
noncomputable abbrev s_are_steps:Stmt:=top 20
theorem ck_are_steps:isSs ⟨["thing"],defScope s_are_steps,true,true⟩ true C_are_steps (defBody s_are_steps)=true:=by decide +kernel
theorem sc_are_steps:FnScope ["thing"] ["thing"] (defScope s_are_steps):=by sleep 50
theorem len_are_steps:∀ ds M R E,S_are_steps ds M R E->ds.length=1:=fun _ _ _ _ h=>by obtain ⟨_,e,_⟩:=h; rw [e]; rfl
noncomputable abbrev s_want_steps:Stmt:=top 27
theorem ck_want_steps:isSs ⟨["thing"],defScope s_want_steps,true,true⟩ true C_want_steps (defBody s_want_steps)=true:=by decide +kernel
theorem sc_want_steps:FnScope ["thing"] ["thing"] (defScope s_want_steps):=by sleep 50
theorem len_want_steps:∀ ds M R E,S_want_steps ds M R E->ds.length=1:=fun _ _ _ _ h=>by obtain ⟨_,e,_⟩:=h; rw [e]; rfl
noncomputable abbrev s_differences:Stmt:=top 28
theorem ck_differences:isSs ⟨["row"],defScope s_differences,true,true⟩ true C_differences (defBody s_differences)=true:=by decide +kernel
theorem sc_differences:FnScope ["row"] ["row"] (defScope s_differences):=by sleep 50
theorem len_differences:∀ ds M R E,S_differences ds M R E->ds.length=1:=fun _ _ _ _ h=>by obtain ⟨_,_,e,_⟩:=h; rw [e]; rfl
noncomputable abbrev s_steps:Stmt:=top 29
theorem ck_steps:isSs ⟨["row"],defScope s_steps,true,true⟩ true C_steps (defBody s_steps)=true:=by decide +kernel
theorem sc_steps:FnScope ["row"] ["row"] (defScope s_steps):=by sleep 50
theorem len_steps:∀ ds M R E,S_steps ds M R E->ds.length=1:=fun _ _ _ _ h=>by obtain ⟨_,e,_⟩:=h; rw [e]; rfl
noncomputable abbrev s_can_be_done:Stmt:=top 38
theorem ck_can_be_done:isSs ⟨["steps","thing","greater","less","amount"],defScope s_can_be_done,true,true⟩ true C_can_be_done (defBody s_can_be_done)=true:=by decide +kernel
theorem sc_can_be_done:FnScope ["steps","thing","greater","less","amount"] ["steps","thing"] (defScope s_can_be_done):=by sleep 50
theorem len_can_be_done:∀ ds M R E,S_can_be_done ds M R E->ds.length=2:=fun _ _ _ _ h=>by obtain ⟨_,_,_,_,e,_⟩:=h; rw [e]; rfl
noncomputable abbrev s_walk:Stmt:=top 39
theorem ck_walk:isSs ⟨["walked","levelling","greater","less","amount"],defScope s_walk,true,true⟩ true C_walk (defBody s_walk)=true:=by decide +kernel
theorem sc_walk:FnScope ["walked","levelling","greater","less","amount"] ["walked","levelling"] (defScope s_walk):=by sleep 50
theorem len_walk:∀ ds M R E,S_walk ds M R E->ds.length=2:=fun _ _ _ _ h=>by obtain ⟨_,_,_,e,_⟩:=h; rw [e]; rfl
noncomputable abbrev s_levelled:Stmt:=top 40
theorem ck_levelled:isSs ⟨["steps","levellings","walked","at","levelling"],defScope s_levelled,true,true⟩ true C_levelled (defBody s_levelled)=true:=by decide +kernel
theorem sc_levelled:FnScope ["steps","levellings","walked","at","levelling"] ["steps","levellings"] (defScope s_levelled):=by sleep 50
theorem len_levelled:∀ ds M R E,S_levelled ds M R E->ds.length=2:=fun _ _ _ _ h=>by obtain ⟨_,_,e,_⟩:=h; rw [e]; rfl
noncomputable abbrev s_leveller_holds:Stmt:=top 53
theorem ck_leveller_holds:isSs ⟨["parts","paper","steps","other"],defScope s_leveller_holds,true,true⟩ true C_leveller_holds (defBody s_leveller_holds)=true:=by decide +kernel
theorem sc_leveller_holds:FnScope ["parts","paper","steps","other"] ["parts","paper"] (defScope s_leveller_holds):=by sleep 50
theorem len_leveller_holds:∀ ds M R E,S_leveller_holds ds M R E->ds.length=2:=fun _ _ _ _ h=>by obtain ⟨_,_,_,e,_⟩:=h; rw [e]; rfl
noncomputable abbrev s_holds:Stmt:=top 78
theorem ck_holds:isSs ⟨["claim","paper","word","parts","check_with","check"],defScope s_holds,true,true⟩ true C_holds (defBody s_holds)=true:=by decide +kernel
theorem sc_holds:FnScope ["claim","paper","word","parts","check_with","check"] ["claim","paper"] (defScope s_holds):=by sleep 50
theorem len_holds:∀ ds M R E,S_holds ds M R E->ds.length=2:=fun _ _ _ _ h=>by obtain ⟨_,_,_,e,_⟩:=h; rw [e]; rfl
noncomputable abbrev s_law_mixed:Stmt:=top 80
theorem ck_law_mixed:isSs ⟨["_law_cell"],defScope s_law_mixed,true,true⟩ true C_law_mixed (defBody s_law_mixed)=true:=by decide +kernel
theorem sc_law_mixed:FnScope ["_law_cell"] ["_law_cell"] (defScope s_law_mixed):=by sleep 50
theorem len_law_mixed:∀ ds M R E,S_law_mixed ds M R E->ds.length=1:=fun _ _ _ _ h=>by obtain ⟨_,e,_⟩:=h; rw [e]; rfl
noncomputable abbrev s_law_pack:Stmt:=top 81
theorem ck_law_pack:isSs ⟨["_law_script","_law_k","_law_found","_law_at"],defScope s_law_pack,true,true⟩ true C_law_pack (defBody s_law_pack)=true:=by decide +kernel
theorem sc_law_pack:FnScope ["_law_script","_law_k","_law_found","_law_at"] ["_law_script","_law_k"] (defScope s_law_pack):=by sleep 50
theorem len_law_pack:∀ ds M R E,S_law_pack ds M R E->ds.length=2:=fun _ _ _ _ h=>by obtain ⟨_,_,e,_⟩:=h; rw [e]; rfl
noncomputable abbrev s_law_take:Stmt:=top 82
theorem ck_law_take:isSs ⟨["_law_pack_here","_law_size","_law_digit"],defScope s_law_take,true,true⟩ true C_law_take (defBody s_law_take)=true:=by decide +kernel
theorem sc_law_take:FnScope ["_law_pack_here","_law_size","_law_digit"] ["_law_pack_here","_law_size"] (defScope s_law_take):=by sleep 50
theorem len_law_take:∀ ds M R E,S_law_take ds M R E->ds.length=2:=fun _ _ _ _ h=>by obtain ⟨_,_,_,e,_⟩:=h; rw [e]; rfl
noncomputable abbrev s_law_low:Stmt:=top 83
theorem ck_law_low:isSs ⟨["_law_top","_law_bottom","_law_one","_law_other_here"],defScope s_law_low,true,true⟩ true C_law_low (defBody s_law_low)=true:=by decide +kernel
theorem sc_law_low:FnScope ["_law_top","_law_bottom","_law_one","_law_other_here"] ["_law_top","_law_bottom"] (defScope s_law_low):=by sleep 50
theorem len_law_low:∀ ds M R E,S_law_low ds M R E->ds.length=2:=fun _ _ _ _ h=>by obtain ⟨_,_,e,_⟩:=h; rw [e]; rfl
noncomputable abbrev s_law_more:Stmt:=top 84
theorem ck_law_more:isSs ⟨["_law_one","_law_other_here"],defScope s_law_more,true,true⟩ true C_law_more (defBody s_law_more)=true:=by decide +kernel
theorem sc_law_more:FnScope ["_law_one","_law_other_here"] ["_law_one","_law_other_here"] (defScope s_law_more):=by sleep 50
theorem len_law_more:∀ ds M R E,S_law_more ds M R E->ds.length=2:=fun _ _ _ _ h=>by obtain ⟨_,_,e,_⟩:=h; rw [e]; rfl
noncomputable abbrev s_law_less_by:Stmt:=top 85
theorem ck_law_less_by:isSs ⟨["_law_one","_law_other_here"],defScope s_law_less_by,true,true⟩ true C_law_less_by (defBody s_law_less_by)=true:=by decide +kernel
theorem sc_law_less_by:FnScope ["_law_one","_law_other_here"] ["_law_one","_law_other_here"] (defScope s_law_less_by):=by sleep 50
theorem len_law_less_by:∀ ds M R E,S_law_less_by ds M R E->ds.length=2:=fun _ _ _ _ h=>by obtain ⟨_,_,e,_⟩:=h; rw [e]; rfl
noncomputable abbrev s_law_by:Stmt:=top 86
theorem ck_law_by:isSs ⟨["_law_one","_law_other_here"],defScope s_law_by,true,true⟩ true C_law_by (defBody s_law_by)=true:=by decide +kernel
theorem sc_law_by:FnScope ["_law_one","_law_other_here"] ["_law_one","_law_other_here"] (defScope s_law_by):=by sleep 50
theorem len_law_by:∀ ds M R E,S_law_by ds M R E->ds.length=2:=fun _ _ _ _ h=>by obtain ⟨_,_,_,e,_⟩:=h; rw [e]; rfl
noncomputable abbrev s_law_under:Stmt:=top 87
theorem ck_law_under:isSs ⟨["_law_one","_law_other_here"],defScope s_law_under,true,true⟩ true C_law_under (defBody s_law_under)=true:=by decide +kernel
theorem sc_law_under:FnScope ["_law_one","_law_other_here"] ["_law_one","_law_other_here"] (defScope s_law_under):=by sleep 50
theorem len_law_under:∀ ds M R E,S_law_under ds M R E->ds.length=2:=fun _ _ _ _ h=>by obtain ⟨_,_,e,_⟩:=h; rw [e]; rfl
noncomputable abbrev s_law_whole:Stmt:=top 88
theorem ck_law_whole:isSs ⟨["_law_thing"],defScope s_law_whole,true,true⟩ true C_law_whole (defBody s_law_whole)=true:=by decide +kernel
theorem sc_law_whole:FnScope ["_law_thing"] ["_law_thing"] (defScope s_law_whole):=by sleep 50
theorem len_law_whole:∀ ds M R E,S_law_whole ds M R E->ds.length=1:=fun _ _ _ _ h=>by obtain ⟨_,_,e,_⟩:=h; rw [e]; rfl
noncomputable abbrev s_law_is_number:Stmt:=top 89
theorem ck_law_is_number:isSs ⟨["_law_thing"],defScope s_law_is_number,true,true⟩ true C_law_is_number (defBody s_law_is_number)=true:=by decide +kernel
theorem sc_law_is_number:FnScope ["_law_thing"] ["_law_thing"] (defScope s_law_is_number):=by sleep 50
theorem len_law_is_number:∀ ds M R E,S_law_is_number ds M R E->ds.length=1:=fun _ _ _ _ h=>by obtain ⟨_,e,_⟩:=h; rw [e]; rfl
noncomputable abbrev s_law_are_numbers:Stmt:=top 90
theorem ck_law_are_numbers:isSs ⟨["_law_thing","_law_least","_law_most"],defScope s_law_are_numbers,true,true⟩ true C_law_are_numbers (defBody s_law_are_numbers)=true:=by decide +kernel
theorem sc_law_are_numbers:FnScope ["_law_thing","_law_least","_law_most"] ["_law_thing","_law_least","_law_most"] (defScope s_law_are_numbers):=by sleep 50
theorem len_law_are_numbers:∀ ds M R E,S_law_are_numbers ds M R E->ds.length=3:=fun _ _ _ _ h=>by obtain ⟨_,_,_,e,_⟩:=h; rw [e]; rfl
noncomputable abbrev s_law_other:Stmt:=top 91
theorem ck_law_other:isSs ⟨["_law_thing","_law_pack_here","_law_pick"],defScope s_law_other,true,true⟩ true C_law_other (defBody s_law_other)=true:=by decide +kernel
theorem sc_law_other:FnScope ["_law_thing","_law_pack_here","_law_pick"] ["_law_thing","_law_pack_here"] (defScope s_law_other):=by sleep 50
theorem len_law_other:∀ ds M R E,S_law_other ds M R E->ds.length=2:=fun _ _ _ _ h=>by obtain ⟨_,_,_,e,_⟩:=h; rw [e]; rfl
noncomputable abbrev s_law_spoilt:Stmt:=top 92
theorem ck_law_spoilt (S:DSp):isSs ⟨["_law_thing","_law_pack_here","_law_deep","_law_at","_law_pick","_law_some"],defScope s_law_spoilt,true,true⟩ true (C_law_spoilt S) (defBody s_law_spoilt)=true:=by kernel_rfl
theorem sc_law_spoilt:FnScope ["_law_thing","_law_pack_here","_law_deep","_law_at","_law_pick","_law_some"] ["_law_thing","_law_pack_here","_law_deep"] (defScope s_law_spoilt):=by sleep 50
noncomputable abbrev s_law_moved:Stmt:=top 93
theorem ck_law_moved:isSs ⟨["_law_row","_law_pack_here","_law_at","_law_more_here"],defScope s_law_moved,true,true⟩ true C_law_moved (defBody s_law_moved)=true:=by decide +kernel
theorem sc_law_moved:FnScope ["_law_row","_law_pack_here","_law_at","_law_more_here"] ["_law_row","_law_pack_here"] (defScope s_law_moved):=by sleep 50
theorem len_law_moved:∀ ds M R E,S_law_moved ds M R E->ds.length=2:=fun _ _ _ _ h=>by obtain ⟨_,_,_,e,_⟩:=h; rw [e]; rfl
noncomputable abbrev s_law_drawn_steps:Stmt:=top 94
theorem ck_law_drawn_steps:isSs ⟨["_law_pack_here","_law_many","_law_wide","_law_found","_law_turn","_law_top"],defScope s_law_drawn_steps,true,true⟩ true C_law_drawn_steps (defBody s_law_drawn_steps)=true:=by decide +kernel
theorem sc_law_drawn_steps:FnScope ["_law_pack_here","_law_many","_law_wide","_law_found","_law_turn","_law_top"] ["_law_pack_here","_law_many","_law_wide"] (defScope s_law_drawn_steps):=by sleep 50
theorem len_law_drawn_steps:∀ ds M R E,S_law_drawn_steps ds M R E->ds.length=3:=fun _ _ _ _ h=>by obtain ⟨_,_,e,_⟩:=h; rw [e]; rfl
noncomputable abbrev s_law_walked:Stmt:=top 95
theorem ck_law_walked:isSs ⟨["_law_some","_law_levellings","_law_found","_law_one"],defScope s_law_walked,true,true⟩ true C_law_walked (defBody s_law_walked)=true:=by decide +kernel
theorem sc_law_walked:FnScope ["_law_some","_law_levellings","_law_found","_law_one"] ["_law_some","_law_levellings"] (defScope s_law_walked):=by sleep 50
theorem len_law_walked:∀ ds M R E,S_law_walked ds M R E->ds.length=2:=fun _ _ _ _ h=>by obtain ⟨_,_,_,_,_,e,_⟩:=h; rw [e]; rfl
noncomputable abbrev s_law_drawn_levelling:Stmt:=top 96
theorem ck_law_drawn_levelling:isSs ⟨["_law_pack_here","_law_some","_law_i","_law_j","_law_more_here"],defScope s_law_drawn_levelling,true,true⟩ true C_law_drawn_levelling (defBody s_law_drawn_levelling)=true:=by decide +kernel
theorem sc_law_drawn_levelling:FnScope ["_law_pack_here","_law_some","_law_i","_law_j","_law_more_here"] ["_law_pack_here","_law_some"] (defScope s_law_drawn_levelling):=by sleep 50
theorem len_law_drawn_levelling:∀ ds M R E,S_law_drawn_levelling ds M R E->ds.length=2:=fun _ _ _ _ h=>by obtain ⟨_,_,_,_,e,_⟩:=h; rw [e]; rfl
noncomputable abbrev s_law_told:Stmt:=top 97
theorem ck_law_told:isSs ⟨["_law_claim","_law_paper","_law_due_here","_law_found"],defScope s_law_told,true,true⟩ true C_law_told (defBody s_law_told)=true:=by decide +kernel
theorem sc_law_told:FnScope ["_law_claim","_law_paper","_law_due_here","_law_found"] ["_law_claim","_law_paper","_law_due_here"] (defScope s_law_told):=by sleep 50
theorem len_law_told:∀ ds M R E,S_law_told ds M R E->ds.length=3:=fun _ _ _ _ h=>by obtain ⟨_,_,_,_,e,_⟩:=h; rw [e]; rfl
noncomputable abbrev s_law_due:Stmt:=top 98
theorem ck_law_due:isSs ⟨["_law_some","_law_other_here","_law_paper"],defScope s_law_due,true,true⟩ true C_law_due (defBody s_law_due)=true:=by decide +kernel
theorem sc_law_due:FnScope ["_law_some","_law_other_here","_law_paper"] ["_law_some","_law_other_here","_law_paper"] (defScope s_law_due):=by sleep 50
theorem len_law_due:∀ ds M R E,S_law_due ds M R E->ds.length=3:=fun _ _ _ _ h=>by obtain ⟨_,_,_,e,_⟩:=h; rw [e]; rfl
noncomputable abbrev s_law_right:Stmt:=top 99
theorem ck_law_right:isSs ⟨["_law_pack_here","_law_other_here","_law_paper","_law_some","_law_turn","_law_one","_law_things","_law_at","_law_i","_law_j","_law_amount","_law_bad","_law_two","_law_shown"],defScope s_law_right,true,true⟩ true C_law_right (defBody s_law_right)=true:=by decide +kernel
theorem sc_law_right:FnScope ["_law_pack_here","_law_other_here","_law_paper","_law_some","_law_turn","_law_one","_law_things","_law_at","_law_i","_law_j","_law_amount","_law_bad","_law_two","_law_shown"] ["_law_pack_here","_law_other_here"] (defScope s_law_right):=by sleep 50
theorem len_law_right:∀ ds M R E,S_law_right ds M R E->ds.length=2:=fun _ _ _ _ h=>by obtain ⟨_,_,e,_⟩:=h; rw [e]; rfl
noncomputable abbrev s_law:Stmt:=top 100
theorem ck_law:isSs ⟨["_law_script","_law_k","_law_pack_here"],defScope s_law,true,true⟩ true C_law (defBody s_law)=true:=by decide +kernel
theorem sc_law:FnScope ["_law_script","_law_k","_law_pack_here"] ["_law_script"] (defScope s_law):=by sleep 50
theorem len_law:∀ ds M R E,SLaw ds M R E->ds.length=1:=fun _ _ _ _ h=>by obtain ⟨_,e,_⟩:=h; rw [e]; rfl
set_option maxHeartbeats 0 in
theorem all_mk {l:OpenLaw} {w:World} {K:Frag} {h:Heap} {mg:Str->Option Value} {fa:Addr} (X:K.In h) (G:h.Ns mainGlobals mg) (hfa:mg "law"=some (.ref fa))
  {f0 f1 f2 f3 f4 f5 f6 f7 f8 f9 f10 f11 f12 f13 f14 f15 f16 f17 f18 f19 f20 f21 f22 f23 f24 f25 f26 f27 f28 f29 f30 f31 f32 f33 f34 f35 f36 f37:Addr} {od0 an0 od1 an1 od2 an2 od3 an3 od4 an4 od5 an5 od6 an6 od7 an7 od8 an8 od9 an9 od10 an10 od11 an11 od12 an12 od13 an13 od14 an14 od15 an15 od16 an16 od17 an17 od18 an18 od19 an19 od20 an20 od21 an21 od22 an22 od23 an23 od24 an24 od25 an25 od26 an26 od27 an27 od28 an28 od29 an29 od30 an30 od31 an31 od32 an32 od33 an33 od34 an34 od35 an35 od36 an36 od37 an37:Option Addr} {sl0 sl1 sl2 sl3 sl4 sl5 sl6 sl7 sl8 sl9 sl10 sl11 sl12 sl13 sl14 sl15 sl16 sl17 sl18 sl19 sl20 sl21 sl22 sl23 sl24 sl25 sl26 sl27 sl28 sl29 sl30 sl31 sl32 sl33 sl34 sl35 sl36 sl37:Array (Option Value)} {oc0 kV0 dc0 pm0 cd0 ct0 oc1 kV1 dc1 pm1 cd1 ct1 oc2 kV2 dc2 pm2 cd2 ct2 oc3 kV3 dc3 pm3 cd3 ct3 oc4 kV4 dc4 pm4 cd4 ct4 oc5 kV5 dc5 pm5 cd5 ct5 oc6 kV6 dc6 pm6 cd6 ct6 oc7 kV7 dc7 pm7 cd7 ct7 oc8 kV8 dc8 pm8 cd8 ct8 oc9 kV9 dc9 pm9 cd9 ct9 oc10 kV10 dc10 pm10 cd10 ct10 oc11 kV11 dc11 pm11 cd11 ct11 oc12 kV12 dc12 pm12 cd12 ct12 oc13 kV13 dc13 pm13 cd13 ct13 oc14 kV14 dc14 pm14 cd14 ct14 oc15 kV15 dc15 pm15 cd15 ct15 oc16 kV16 dc16 pm16 cd16 ct16 oc17 kV17 dc17 pm17 cd17 ct17 oc18 kV18 dc18 pm18 cd18 ct18 oc19 kV19 dc19 pm19 cd19 ct19 oc20 kV20 dc20 pm20 cd20 ct20 oc21 kV21 dc21 pm21 cd21 ct21 oc22 kV22 dc22 pm22 cd22 ct22 oc23 kV23 dc23 pm23 cd23 ct23 oc24 kV24 dc24 pm24 cd24 ct24 oc25 kV25 dc25 pm25 cd25 ct25 oc26 kV26 dc26 pm26 cd26 ct26 oc27 kV27 dc27 pm27 cd27 ct27 oc28 kV28 dc28 pm28 cd28 ct28 oc29 kV29 dc29 pm29 cd29 ct29 oc30 kV30 dc30 pm30 cd30 ct30 oc31 kV31 dc31 pm31 cd31 ct31 oc32 kV32 dc32 pm32 cd32 ct32 oc33 kV33 dc33 pm33 cd33 ct33 oc34 kV34 dc34 pm34 cd34 ct34 oc35 kV35 dc35 pm35 cd35 ct35 oc36 kV36 dc36 pm36 cd36 ct36 oc37 kV37 dc37 pm37 cd37 ct37:Value}
  (a0:nsIn K mainGlobals "is_whole"=some (some (.ref f0))) (l0:K.lookup f0=some ⟨oc0,od0,.func (fnOf "is_whole" "is_whole" (defArgs s_is_whole) (defBody s_is_whole) (defScope s_is_whole) .none kV0 dc0 pm0 an0 cd0 ct0),sl0⟩) (c0:codeIn K cd0 "is_whole"=true) (k0:keepIn K (.ref f0)=true)
  (a1:nsIn K mainGlobals "greatest_divisor"=some (some (.ref f1))) (l1:K.lookup f1=some ⟨oc1,od1,.func (fnOf "greatest_divisor" "greatest_divisor" (defArgs s_greatest_divisor) (defBody s_greatest_divisor) (defScope s_greatest_divisor) .none kV1 dc1 pm1 an1 cd1 ct1),sl1⟩) (c1:codeIn K cd1 "greatest_divisor"=true) (k1:keepIn K (.ref f1)=true)
  (a2:nsIn K mainGlobals "is_number"=some (some (.ref f2))) (l2:K.lookup f2=some ⟨oc2,od2,.func (fnOf "is_number" "is_number" (defArgs s_is_number) (defBody s_is_number) (defScope s_is_number) .none kV2 dc2 pm2 an2 cd2 ct2),sl2⟩) (c2:codeIn K cd2 "is_number"=true) (k2:keepIn K (.ref f2)=true)
  (a3:nsIn K mainGlobals "number"=some (some (.ref f3))) (l3:K.lookup f3=some ⟨oc3,od3,.func (fnOf "number" "number" (defArgs s_number) (defBody s_number) (defScope s_number) .none kV3 dc3 pm3 an3 cd3 ct3),sl3⟩) (c3:codeIn K cd3 "number"=true) (k3:keepIn K (.ref f3)=true)
  (a4:nsIn K mainGlobals "added"=some (some (.ref f4))) (l4:K.lookup f4=some ⟨oc4,od4,.func (fnOf "added" "added" (defArgs s_added) (defBody s_added) (defScope s_added) .none kV4 dc4 pm4 an4 cd4 ct4),sl4⟩) (c4:codeIn K cd4 "added"=true) (k4:keepIn K (.ref f4)=true)
  (a5:nsIn K mainGlobals "taken"=some (some (.ref f5))) (l5:K.lookup f5=some ⟨oc5,od5,.func (fnOf "taken" "taken" (defArgs s_taken) (defBody s_taken) (defScope s_taken) .none kV5 dc5 pm5 an5 cd5 ct5),sl5⟩) (c5:codeIn K cd5 "taken"=true) (k5:keepIn K (.ref f5)=true)
  (a6:nsIn K mainGlobals "is_less"=some (some (.ref f6))) (l6:K.lookup f6=some ⟨oc6,od6,.func (fnOf "is_less" "is_less" (defArgs s_is_less) (defBody s_is_less) (defScope s_is_less) .none kV6 dc6 pm6 an6 cd6 ct6),sl6⟩) (c6:codeIn K cd6 "is_less"=true) (k6:keepIn K (.ref f6)=true)
  (a7:nsIn K mainGlobals "are_numbers"=some (some (.ref f7))) (l7:K.lookup f7=some ⟨oc7,od7,.func (fnOf "are_numbers" "are_numbers" (defArgs s_are_numbers) (defBody s_are_numbers) (defScope s_are_numbers) .none kV7 dc7 pm7 an7 cd7 ct7),sl7⟩) (c7:codeIn K cd7 "are_numbers"=true) (k7:keepIn K (.ref f7)=true)
  (a8:nsIn K mainGlobals "are_steps"=some (some (.ref f8))) (l8:K.lookup f8=some ⟨oc8,od8,.func (fnOf "are_steps" "are_steps" (defArgs s_are_steps) (defBody s_are_steps) (defScope s_are_steps) .none kV8 dc8 pm8 an8 cd8 ct8),sl8⟩) (c8:codeIn K cd8 "are_steps"=true) (k8:keepIn K (.ref f8)=true)
  (a9:nsIn K mainGlobals "want_steps"=some (some (.ref f9))) (l9:K.lookup f9=some ⟨oc9,od9,.func (fnOf "want_steps" "want_steps" (defArgs s_want_steps) (defBody s_want_steps) (defScope s_want_steps) .none kV9 dc9 pm9 an9 cd9 ct9),sl9⟩) (c9:codeIn K cd9 "want_steps"=true) (k9:keepIn K (.ref f9)=true)
  (a10:nsIn K mainGlobals "differences"=some (some (.ref f10))) (l10:K.lookup f10=some ⟨oc10,od10,.func (fnOf "differences" "differences" (defArgs s_differences) (defBody s_differences) (defScope s_differences) .none kV10 dc10 pm10 an10 cd10 ct10),sl10⟩) (c10:codeIn K cd10 "differences"=true) (k10:keepIn K (.ref f10)=true)
  (a11:nsIn K mainGlobals "steps"=some (some (.ref f11))) (l11:K.lookup f11=some ⟨oc11,od11,.func (fnOf "steps" "steps" (defArgs s_steps) (defBody s_steps) (defScope s_steps) .none kV11 dc11 pm11 an11 cd11 ct11),sl11⟩) (c11:codeIn K cd11 "steps"=true) (k11:keepIn K (.ref f11)=true)
  (a12:nsIn K mainGlobals "can_be_done"=some (some (.ref f12))) (l12:K.lookup f12=some ⟨oc12,od12,.func (fnOf "can_be_done" "can_be_done" (defArgs s_can_be_done) (defBody s_can_be_done) (defScope s_can_be_done) .none kV12 dc12 pm12 an12 cd12 ct12),sl12⟩) (c12:codeIn K cd12 "can_be_done"=true) (k12:keepIn K (.ref f12)=true)
  (a13:nsIn K mainGlobals "walk"=some (some (.ref f13))) (l13:K.lookup f13=some ⟨oc13,od13,.func (fnOf "walk" "walk" (defArgs s_walk) (defBody s_walk) (defScope s_walk) .none kV13 dc13 pm13 an13 cd13 ct13),sl13⟩) (c13:codeIn K cd13 "walk"=true) (k13:keepIn K (.ref f13)=true)
  (a14:nsIn K mainGlobals "levelled"=some (some (.ref f14))) (l14:K.lookup f14=some ⟨oc14,od14,.func (fnOf "levelled" "levelled" (defArgs s_levelled) (defBody s_levelled) (defScope s_levelled) .none kV14 dc14 pm14 an14 cd14 ct14),sl14⟩) (c14:codeIn K cd14 "levelled"=true) (k14:keepIn K (.ref f14)=true)
  (a15:nsIn K mainGlobals "leveller_holds"=some (some (.ref f15))) (l15:K.lookup f15=some ⟨oc15,od15,.func (fnOf "leveller_holds" "leveller_holds" (defArgs s_leveller_holds) (defBody s_leveller_holds) (defScope s_leveller_holds) .none kV15 dc15 pm15 an15 cd15 ct15),sl15⟩) (c15:codeIn K cd15 "leveller_holds"=true) (k15:keepIn K (.ref f15)=true)
  (a16:nsIn K mainGlobals "holds"=some (some (.ref f16))) (l16:K.lookup f16=some ⟨oc16,od16,.func (fnOf "holds" "holds" (defArgs s_holds) (defBody s_holds) (defScope s_holds) .none kV16 dc16 pm16 an16 cd16 ct16),sl16⟩) (c16:codeIn K cd16 "holds"=true) (k16:keepIn K (.ref f16)=true)
  (a17:nsIn K mainGlobals "_law_mixed"=some (some (.ref f17))) (l17:K.lookup f17=some ⟨oc17,od17,.func (fnOf "_law_mixed" "_law_mixed" (defArgs s_law_mixed) (defBody s_law_mixed) (defScope s_law_mixed) .none kV17 dc17 pm17 an17 cd17 ct17),sl17⟩) (c17:codeIn K cd17 "_law_mixed"=true) (k17:keepIn K (.ref f17)=true)
  (a18:nsIn K mainGlobals "_law_pack"=some (some (.ref f18))) (l18:K.lookup f18=some ⟨oc18,od18,.func (fnOf "_law_pack" "_law_pack" (defArgs s_law_pack) (defBody s_law_pack) (defScope s_law_pack) .none kV18 dc18 pm18 an18 cd18 ct18),sl18⟩) (c18:codeIn K cd18 "_law_pack"=true) (k18:keepIn K (.ref f18)=true)
  (a19:nsIn K mainGlobals "_law_take"=some (some (.ref f19))) (l19:K.lookup f19=some ⟨oc19,od19,.func (fnOf "_law_take" "_law_take" (defArgs s_law_take) (defBody s_law_take) (defScope s_law_take) .none kV19 dc19 pm19 an19 cd19 ct19),sl19⟩) (c19:codeIn K cd19 "_law_take"=true) (k19:keepIn K (.ref f19)=true)
  (a20:nsIn K mainGlobals "_law_low"=some (some (.ref f20))) (l20:K.lookup f20=some ⟨oc20,od20,.func (fnOf "_law_low" "_law_low" (defArgs s_law_low) (defBody s_law_low) (defScope s_law_low) .none kV20 dc20 pm20 an20 cd20 ct20),sl20⟩) (c20:codeIn K cd20 "_law_low"=true) (k20:keepIn K (.ref f20)=true)
  (a21:nsIn K mainGlobals "_law_more"=some (some (.ref f21))) (l21:K.lookup f21=some ⟨oc21,od21,.func (fnOf "_law_more" "_law_more" (defArgs s_law_more) (defBody s_law_more) (defScope s_law_more) .none kV21 dc21 pm21 an21 cd21 ct21),sl21⟩) (c21:codeIn K cd21 "_law_more"=true) (k21:keepIn K (.ref f21)=true)
  (a22:nsIn K mainGlobals "_law_less_by"=some (some (.ref f22))) (l22:K.lookup f22=some ⟨oc22,od22,.func (fnOf "_law_less_by" "_law_less_by" (defArgs s_law_less_by) (defBody s_law_less_by) (defScope s_law_less_by) .none kV22 dc22 pm22 an22 cd22 ct22),sl22⟩) (c22:codeIn K cd22 "_law_less_by"=true) (k22:keepIn K (.ref f22)=true)
  (a23:nsIn K mainGlobals "_law_by"=some (some (.ref f23))) (l23:K.lookup f23=some ⟨oc23,od23,.func (fnOf "_law_by" "_law_by" (defArgs s_law_by) (defBody s_law_by) (defScope s_law_by) .none kV23 dc23 pm23 an23 cd23 ct23),sl23⟩) (c23:codeIn K cd23 "_law_by"=true) (k23:keepIn K (.ref f23)=true)
  (a24:nsIn K mainGlobals "_law_under"=some (some (.ref f24))) (l24:K.lookup f24=some ⟨oc24,od24,.func (fnOf "_law_under" "_law_under" (defArgs s_law_under) (defBody s_law_under) (defScope s_law_under) .none kV24 dc24 pm24 an24 cd24 ct24),sl24⟩) (c24:codeIn K cd24 "_law_under"=true) (k24:keepIn K (.ref f24)=true)
  (a25:nsIn K mainGlobals "_law_whole"=some (some (.ref f25))) (l25:K.lookup f25=some ⟨oc25,od25,.func (fnOf "_law_whole" "_law_whole" (defArgs s_law_whole) (defBody s_law_whole) (defScope s_law_whole) .none kV25 dc25 pm25 an25 cd25 ct25),sl25⟩) (c25:codeIn K cd25 "_law_whole"=true) (k25:keepIn K (.ref f25)=true)
  (a26:nsIn K mainGlobals "_law_is_number"=some (some (.ref f26))) (l26:K.lookup f26=some ⟨oc26,od26,.func (fnOf "_law_is_number" "_law_is_number" (defArgs s_law_is_number) (defBody s_law_is_number) (defScope s_law_is_number) .none kV26 dc26 pm26 an26 cd26 ct26),sl26⟩) (c26:codeIn K cd26 "_law_is_number"=true) (k26:keepIn K (.ref f26)=true)
  (a27:nsIn K mainGlobals "_law_are_numbers"=some (some (.ref f27))) (l27:K.lookup f27=some ⟨oc27,od27,.func (fnOf "_law_are_numbers" "_law_are_numbers" (defArgs s_law_are_numbers) (defBody s_law_are_numbers) (defScope s_law_are_numbers) .none kV27 dc27 pm27 an27 cd27 ct27),sl27⟩) (c27:codeIn K cd27 "_law_are_numbers"=true) (k27:keepIn K (.ref f27)=true)
  (a28:nsIn K mainGlobals "_law_other"=some (some (.ref f28))) (l28:K.lookup f28=some ⟨oc28,od28,.func (fnOf "_law_other" "_law_other" (defArgs s_law_other) (defBody s_law_other) (defScope s_law_other) .none kV28 dc28 pm28 an28 cd28 ct28),sl28⟩) (c28:codeIn K cd28 "_law_other"=true) (k28:keepIn K (.ref f28)=true)
  (a29:nsIn K mainGlobals "_law_spoilt"=some (some (.ref f29))) (l29:K.lookup f29=some ⟨oc29,od29,.func (fnOf "_law_spoilt" "_law_spoilt" (defArgs s_law_spoilt) (defBody s_law_spoilt) (defScope s_law_spoilt) .none kV29 dc29 pm29 an29 cd29 ct29),sl29⟩) (c29:codeIn K cd29 "_law_spoilt"=true) (k29:keepIn K (.ref f29)=true)
  (a30:nsIn K mainGlobals "_law_moved"=some (some (.ref f30))) (l30:K.lookup f30=some ⟨oc30,od30,.func (fnOf "_law_moved" "_law_moved" (defArgs s_law_moved) (defBody s_law_moved) (defScope s_law_moved) .none kV30 dc30 pm30 an30 cd30 ct30),sl30⟩) (c30:codeIn K cd30 "_law_moved"=true) (k30:keepIn K (.ref f30)=true)
  (a31:nsIn K mainGlobals "_law_drawn_steps"=some (some (.ref f31))) (l31:K.lookup f31=some ⟨oc31,od31,.func (fnOf "_law_drawn_steps" "_law_drawn_steps" (defArgs s_law_drawn_steps) (defBody s_law_drawn_steps) (defScope s_law_drawn_steps) .none kV31 dc31 pm31 an31 cd31 ct31),sl31⟩) (c31:codeIn K cd31 "_law_drawn_steps"=true) (k31:keepIn K (.ref f31)=true)
  (a32:nsIn K mainGlobals "_law_walked"=some (some (.ref f32))) (l32:K.lookup f32=some ⟨oc32,od32,.func (fnOf "_law_walked" "_law_walked" (defArgs s_law_walked) (defBody s_law_walked) (defScope s_law_walked) .none kV32 dc32 pm32 an32 cd32 ct32),sl32⟩) (c32:codeIn K cd32 "_law_walked"=true) (k32:keepIn K (.ref f32)=true)
  (a33:nsIn K mainGlobals "_law_drawn_levelling"=some (some (.ref f33))) (l33:K.lookup f33=some ⟨oc33,od33,.func (fnOf "_law_drawn_levelling" "_law_drawn_levelling" (defArgs s_law_drawn_levelling) (defBody s_law_drawn_levelling) (defScope s_law_drawn_levelling) .none kV33 dc33 pm33 an33 cd33 ct33),sl33⟩) (c33:codeIn K cd33 "_law_drawn_levelling"=true) (k33:keepIn K (.ref f33)=true)
  (a34:nsIn K mainGlobals "_law_told"=some (some (.ref f34))) (l34:K.lookup f34=some ⟨oc34,od34,.func (fnOf "_law_told" "_law_told" (defArgs s_law_told) (defBody s_law_told) (defScope s_law_told) .none kV34 dc34 pm34 an34 cd34 ct34),sl34⟩) (c34:codeIn K cd34 "_law_told"=true) (k34:keepIn K (.ref f34)=true)
  (a35:nsIn K mainGlobals "_law_due"=some (some (.ref f35))) (l35:K.lookup f35=some ⟨oc35,od35,.func (fnOf "_law_due" "_law_due" (defArgs s_law_due) (defBody s_law_due) (defScope s_law_due) .none kV35 dc35 pm35 an35 cd35 ct35),sl35⟩) (c35:codeIn K cd35 "_law_due"=true) (k35:keepIn K (.ref f35)=true)
  (a36:nsIn K mainGlobals "_law_right"=some (some (.ref f36))) (l36:K.lookup f36=some ⟨oc36,od36,.func (fnOf "_law_right" "_law_right" (defArgs s_law_right) (defBody s_law_right) (defScope s_law_right) .none kV36 dc36 pm36 an36 cd36 ct36),sl36⟩) (c36:codeIn K cd36 "_law_right"=true) (k36:keepIn K (.ref f36)=true)
  (a37:nsIn K mainGlobals "law"=some (some (.ref f37))) (l37:K.lookup f37=some ⟨oc37,od37,.func (fnOf "law" "law" (defArgs s_law) (defBody s_law) (defScope s_law) .none kV37 dc37 pm37 an37 cd37 ct37),sl37⟩) (c37:codeIn K cd37 "law"=true) (k37:keepIn K (.ref f37)=true)
  (z0:nsIn K mainGlobals "abs"=some none)
  (z1:nsIn K mainGlobals "all"=some none)
  (z2:nsIn K mainGlobals "any"=some none)
  (z3:nsIn K mainGlobals "divmod"=some none)
  (z4:nsIn K mainGlobals "isinstance"=some none)
  (z5:nsIn K mainGlobals "len"=some none)
  (z6:nsIn K mainGlobals "max"=some none)
  (z7:nsIn K mainGlobals "min"=some none)
  (z8:nsIn K mainGlobals "str"=some none)
  (z9:nsIn K mainGlobals "tuple"=some none)
  (z10:nsIn K mainGlobals "list"=some none)
  (z11:nsIn K mainGlobals "int"=some none)
  (z12:nsIn K mainGlobals "bool"=some none)
  (z13:nsIn K mainGlobals "dict"=some none)
  (z14:nsIn K mainGlobals "range"=some none)
  (z15:nsIn K mainGlobals "ValueError"=some none)
  (z16:nsIn K mainGlobals "sum"=some none)
  (z17:nsIn K mainGlobals "zip"=some none)
  (z18:nsIn K mainGlobals "enumerate"=some none)
  {C0:Tok} (gl0:nsIn K mainGlobals "MOST_PLACES"=some (some (.int 25 C0)))
  {C1:Addr} {ta1 tb1:Tok} {dx1:Option Addr} {sx1:Array (Option Value)} {mx1:Nat} (gl1:nsIn K mainGlobals "NOUGHT"=some (some (.ref C1))) (lk1:K.lookup C1=some ⟨.type "tuple",dx1,.seq #[.int 0 ta1,.int 1 tb1] mx1,sx1⟩)
  {C2:Addr} (gl2:nsIn K mainGlobals "NoLevel"=some (some (.ref C2)))
  {C3:Addr} (gl3:nsIn K mainGlobals "NoNumber"=some (some (.ref C3)))
  {C4:Addr} (gl4:nsIn K mainGlobals "NoRow"=some (some (.ref C4)))
  {C5:Addr} {ep5:Nat} {hh5_0 hh5_1 hh5_2 hh5_3 hh5_4 hh5_5 hh5_6 hh5_7 hh5_8 hh5_9 hh5_10 hh5_11:Int} {tt5_0 tt5_1 tt5_2 tt5_3 tt5_4 tt5_5 tt5_6 tt5_7 tt5_8 tt5_9 tt5_10 tt5_11:Tok} {vt5_0:Tok} {vt5_1:Tok} {vt5_2:Tok} {vt5_3:Tok} {vt5_4:Tok} {vt5_5:Tok} {vt5_6:Tok} {vt5_7:Tok} {vt5_8:Tok} {vt5_9:Tok} {vt5_10:Tok} {vt5_11:Tok} (gl5:nsIn K mainGlobals "SIZES"=some (some (.ref C5))) (lo5:(C5 == sysModules)=false)
  (lk5:K.lookup C5=some ⟨.type "dict",none,.dict #[⟨hh5_0,.str "taut" tt5_0,.int 2 vt5_0⟩,⟨hh5_1,.str "loose" tt5_1,.int 2 vt5_1⟩,⟨hh5_2,.str "ring" tt5_2,.int 2 vt5_2⟩,⟨hh5_3,.str "leveller" tt5_3,.int 2 vt5_3⟩,⟨hh5_4,.str "no leveller" tt5_4,.int 2 vt5_4⟩,⟨hh5_5,.str "not taut" tt5_5,.int 2 vt5_5⟩,⟨hh5_6,.str "smooth" tt5_6,.int 3 vt5_6⟩,⟨hh5_7,.str "stair" tt5_7,.int 2 vt5_7⟩,⟨hh5_8,.str "settled" tt5_8,.int 2 vt5_8⟩,⟨hh5_9,.str "store" tt5_9,.int 3 vt5_9⟩,⟨hh5_10,.str "speeds" tt5_10,.int 2 vt5_10⟩,⟨hh5_11,.str "done" tt5_11,.int 3 vt5_11⟩] ep5,#[]⟩)
  {C6:Addr} {ep6:Nat} {hh6_0 hh6_1 hh6_2 hh6_3 hh6_4 hh6_5 hh6_6 hh6_7:Int} {tt6_0 tt6_1 tt6_2 tt6_3 tt6_4 tt6_5 tt6_6 tt6_7:Tok} {vt6_0:Addr} {vt6_1:Addr} {vt6_2:Addr} {vt6_3:Addr} {vt6_4:Addr} {vt6_5:Addr} {vt6_6:Addr} {vt6_7:Addr} (gl6:nsIn K mainGlobals "WITHOUT_PAPER"=some (some (.ref C6))) (lo6:(C6 == sysModules)=false)
  (lk6:K.lookup C6=some ⟨.type "dict",none,.dict #[⟨hh6_0,.str "taut" tt6_0,.ref vt6_0⟩,⟨hh6_1,.str "loose" tt6_1,.ref vt6_1⟩,⟨hh6_2,.str "ring" tt6_2,.ref vt6_2⟩,⟨hh6_3,.str "smooth" tt6_3,.ref vt6_3⟩,⟨hh6_4,.str "stair" tt6_4,.ref vt6_4⟩,⟨hh6_5,.str "store" tt6_5,.ref vt6_5⟩,⟨hh6_6,.str "speeds" tt6_6,.ref vt6_6⟩,⟨hh6_7,.str "done" tt6_7,.ref vt6_7⟩] ep6,#[]⟩)
  (fn6_0:nsIn K mainGlobals "taut_holds"=some (some (.ref vt6_0)))
  (fn6_1:nsIn K mainGlobals "loose_holds"=some (some (.ref vt6_1)))
  (fn6_2:nsIn K mainGlobals "ring_holds"=some (some (.ref vt6_2)))
  (fn6_3:nsIn K mainGlobals "smooth_holds"=some (some (.ref vt6_3)))
  (fn6_4:nsIn K mainGlobals "stair_holds"=some (some (.ref vt6_4)))
  (fn6_5:nsIn K mainGlobals "store_holds"=some (some (.ref vt6_5)))
  (fn6_6:nsIn K mainGlobals "speeds_hold"=some (some (.ref vt6_6)))
  (fn6_7:nsIn K mainGlobals "done_holds"=some (some (.ref vt6_7)))
  {C7:Addr} {ep7:Nat} {hh7_0 hh7_1 hh7_2 hh7_3:Int} {tt7_0 tt7_1 tt7_2 tt7_3:Tok} {vt7_0:Addr} {vt7_1:Addr} {vt7_2:Addr} {vt7_3:Addr} (gl7:nsIn K mainGlobals "WITH_PAPER"=some (some (.ref C7))) (lo7:(C7 == sysModules)=false)
  (lk7:K.lookup C7=some ⟨.type "dict",none,.dict #[⟨hh7_0,.str "leveller" tt7_0,.ref vt7_0⟩,⟨hh7_1,.str "no leveller" tt7_1,.ref vt7_1⟩,⟨hh7_2,.str "not taut" tt7_2,.ref vt7_2⟩,⟨hh7_3,.str "settled" tt7_3,.ref vt7_3⟩] ep7,#[]⟩)
  (fn7_0:nsIn K mainGlobals "leveller_holds"=some (some (.ref vt7_0)))
  (fn7_1:nsIn K mainGlobals "no_leveller_holds"=some (some (.ref vt7_1)))
  (fn7_2:nsIn K mainGlobals "not_taut_holds"=some (some (.ref vt7_2)))
  (fn7_3:nsIn K mainGlobals "settled_holds"=some (some (.ref vt7_3)))
  (tab:xTabB K=true)
  : ∃ fd:FuncData,(∀ (s:Shared) (v:Value),BindsTo s fd ⟨[v],[]⟩ [("_law_script",v)])/\∀ base:Heap,K.In base->base.Ns mainGlobals mg->FnOk l.prog w K mg base (CXR l.prog w) 41 fa fd ["_law_script"] (liftSp K SLaw):=by
 have e:=hfa.symm.trans (mg_of X G a37)
 cases e
 have B:Blt mg:=⟨fun b=>by cases b<;>first | exact mg_none_of X G z0 | exact mg_none_of X G z1 | exact mg_none_of X G z2 | exact mg_none_of X G z3 | exact mg_none_of X G z4 | exact mg_none_of X G z5 | exact mg_none_of X G z6 | exact mg_none_of X G z7 | exact mg_none_of X G z8 | exact mg_none_of X G z9 | exact mg_none_of X G z10 | exact mg_none_of X G z11 | exact mg_none_of X G z16,fun t=>by cases t<;>first | exact mg_none_of X G z0 | exact mg_none_of X G z1 | exact mg_none_of X G z2 | exact mg_none_of X G z3 | exact mg_none_of X G z4 | exact mg_none_of X G z5 | exact mg_none_of X G z6 | exact mg_none_of X G z7 | exact mg_none_of X G z8 | exact mg_none_of X G z9 | exact mg_none_of X G z10 | exact mg_none_of X G z11 | exact mg_none_of X G z12 | exact mg_none_of X G z13 | exact mg_none_of X G z15,mg_none_of X G z14,mg_none_of X G z17,mg_none_of X G z18⟩
 have F0:=fun_mk (st:=s_is_whole) l0 c0 k0
 have b0:=F0.binds (ps:=["thing"]) fun _ _ _ _ _ _ us hl=>by obtain ⟨_,rfl⟩:=us1 hl; rfl
 have F1:=fun_mk (st:=s_greatest_divisor) l1 c1 k1
 have b1:=F1.binds (ps:=["one","other"]) fun _ _ _ _ _ _ us hl=>by obtain ⟨_,_,rfl⟩:=us2 hl; rfl
 have F2:=fun_mk (st:=s_is_number) l2 c2 k2
 have b2:=F2.binds (ps:=["thing"]) fun _ _ _ _ _ _ us hl=>by obtain ⟨_,rfl⟩:=us1 hl; rfl
 have F3:=fun_mk (st:=s_number) l3 c3 k3
 have b3:=F3.binds (ps:=["top","bottom"]) fun _ _ _ _ _ _ us hl=>by obtain ⟨_,_,rfl⟩:=us2 hl; rfl
 have F4:=fun_mk (st:=s_added) l4 c4 k4
 have b4:=F4.binds (ps:=["one","other"]) fun _ _ _ _ _ _ us hl=>by obtain ⟨_,_,rfl⟩:=us2 hl; rfl
 have F5:=fun_mk (st:=s_taken) l5 c5 k5
 have b5:=F5.binds (ps:=["one","other"]) fun _ _ _ _ _ _ us hl=>by obtain ⟨_,_,rfl⟩:=us2 hl; rfl
 have F6:=fun_mk (st:=s_is_less) l6 c6 k6
 have b6:=F6.binds (ps:=["one","other"]) fun _ _ _ _ _ _ us hl=>by obtain ⟨_,_,rfl⟩:=us2 hl; rfl
 have F7:=fun_mk (st:=s_are_numbers) l7 c7 k7
 have b7:=F7.binds (ps:=["thing","least","most"]) fun _ _ _ _ _ _ us hl=>by obtain ⟨_,_,_,rfl⟩:=us3 hl; rfl
 have F8:=fun_mk (st:=s_are_steps) l8 c8 k8
 have b8:=F8.binds (ps:=["thing"]) fun _ _ _ _ _ _ us hl=>by obtain ⟨_,rfl⟩:=us1 hl; rfl
 have F9:=fun_mk (st:=s_want_steps) l9 c9 k9
 have b9:=F9.binds (ps:=["thing"]) fun _ _ _ _ _ _ us hl=>by obtain ⟨_,rfl⟩:=us1 hl; rfl
 have F10:=fun_mk (st:=s_differences) l10 c10 k10
 have b10:=F10.binds (ps:=["row"]) fun _ _ _ _ _ _ us hl=>by obtain ⟨_,rfl⟩:=us1 hl; rfl
 have F11:=fun_mk (st:=s_steps) l11 c11 k11
 have b11:=F11.binds (ps:=["row"]) fun _ _ _ _ _ _ us hl=>by obtain ⟨_,rfl⟩:=us1 hl; rfl
 have F12:=fun_mk (st:=s_can_be_done) l12 c12 k12
 have b12:=F12.binds (ps:=["steps","thing"]) fun _ _ _ _ _ _ us hl=>by obtain ⟨_,_,rfl⟩:=us2 hl; rfl
 have F13:=fun_mk (st:=s_walk) l13 c13 k13
 have b13:=F13.binds (ps:=["walked","levelling"]) fun _ _ _ _ _ _ us hl=>by obtain ⟨_,_,rfl⟩:=us2 hl; rfl
 have F14:=fun_mk (st:=s_levelled) l14 c14 k14
 have b14:=F14.binds (ps:=["steps","levellings"]) fun _ _ _ _ _ _ us hl=>by obtain ⟨_,_,rfl⟩:=us2 hl; rfl
 have F15:=fun_mk (st:=s_leveller_holds) l15 c15 k15
 have b15:=F15.binds (ps:=["parts","paper"]) fun _ _ _ _ _ _ us hl=>by obtain ⟨_,_,rfl⟩:=us2 hl; rfl
 have F16:=fun_mk (st:=s_holds) l16 c16 k16
 have b16:=F16.binds (ps:=["claim","paper"]) fun _ _ _ _ _ _ us hl=>by obtain ⟨_,_,rfl⟩:=us2 hl; rfl
 have F17:=fun_mk (st:=s_law_mixed) l17 c17 k17
 have b17:=F17.binds (ps:=["_law_cell"]) fun _ _ _ _ _ _ us hl=>by obtain ⟨_,rfl⟩:=us1 hl; rfl
 have F18:=fun_mk (st:=s_law_pack) l18 c18 k18
 have b18:=F18.binds (ps:=["_law_script","_law_k"]) fun _ _ _ _ _ _ us hl=>by obtain ⟨_,_,rfl⟩:=us2 hl; rfl
 have F19:=fun_mk (st:=s_law_take) l19 c19 k19
 have b19:=F19.binds (ps:=["_law_pack_here","_law_size"]) fun _ _ _ _ _ _ us hl=>by obtain ⟨_,_,rfl⟩:=us2 hl; rfl
 have F20:=fun_mk (st:=s_law_low) l20 c20 k20
 have b20:=F20.binds (ps:=["_law_top","_law_bottom"]) fun _ _ _ _ _ _ us hl=>by obtain ⟨_,_,rfl⟩:=us2 hl; rfl
 have F21:=fun_mk (st:=s_law_more) l21 c21 k21
 have b21:=F21.binds (ps:=["_law_one","_law_other_here"]) fun _ _ _ _ _ _ us hl=>by obtain ⟨_,_,rfl⟩:=us2 hl; rfl
 have F22:=fun_mk (st:=s_law_less_by) l22 c22 k22
 have b22:=F22.binds (ps:=["_law_one","_law_other_here"]) fun _ _ _ _ _ _ us hl=>by obtain ⟨_,_,rfl⟩:=us2 hl; rfl
 have F23:=fun_mk (st:=s_law_by) l23 c23 k23
 have b23:=F23.binds (ps:=["_law_one","_law_other_here"]) fun _ _ _ _ _ _ us hl=>by obtain ⟨_,_,rfl⟩:=us2 hl; rfl
 have F24:=fun_mk (st:=s_law_under) l24 c24 k24
 have b24:=F24.binds (ps:=["_law_one","_law_other_here"]) fun _ _ _ _ _ _ us hl=>by obtain ⟨_,_,rfl⟩:=us2 hl; rfl
 have F25:=fun_mk (st:=s_law_whole) l25 c25 k25
 have b25:=F25.binds (ps:=["_law_thing"]) fun _ _ _ _ _ _ us hl=>by obtain ⟨_,rfl⟩:=us1 hl; rfl
 have F26:=fun_mk (st:=s_law_is_number) l26 c26 k26
 have b26:=F26.binds (ps:=["_law_thing"]) fun _ _ _ _ _ _ us hl=>by obtain ⟨_,rfl⟩:=us1 hl; rfl
 have F27:=fun_mk (st:=s_law_are_numbers) l27 c27 k27
 have b27:=F27.binds (ps:=["_law_thing","_law_least","_law_most"]) fun _ _ _ _ _ _ us hl=>by obtain ⟨_,_,_,rfl⟩:=us3 hl; rfl
 have F28:=fun_mk (st:=s_law_other) l28 c28 k28
 have b28:=F28.binds (ps:=["_law_thing","_law_pack_here"]) fun _ _ _ _ _ _ us hl=>by obtain ⟨_,_,rfl⟩:=us2 hl; rfl
 have F29:=fun_mk (st:=s_law_spoilt) l29 c29 k29
 have b29:=F29.binds (ps:=["_law_thing","_law_pack_here","_law_deep"]) fun _ _ _ _ _ _ us hl=>by obtain ⟨_,_,_,rfl⟩:=us3 hl; rfl
 have F30:=fun_mk (st:=s_law_moved) l30 c30 k30
 have b30:=F30.binds (ps:=["_law_row","_law_pack_here"]) fun _ _ _ _ _ _ us hl=>by obtain ⟨_,_,rfl⟩:=us2 hl; rfl
 have F31:=fun_mk (st:=s_law_drawn_steps) l31 c31 k31
 have b31:=F31.binds (ps:=["_law_pack_here","_law_many","_law_wide"]) fun _ _ _ _ _ _ us hl=>by obtain ⟨_,_,_,rfl⟩:=us3 hl; rfl
 have F32:=fun_mk (st:=s_law_walked) l32 c32 k32
 have b32:=F32.binds (ps:=["_law_some","_law_levellings"]) fun _ _ _ _ _ _ us hl=>by obtain ⟨_,_,rfl⟩:=us2 hl; rfl
 have F33:=fun_mk (st:=s_law_drawn_levelling) l33 c33 k33
 have b33:=F33.binds (ps:=["_law_pack_here","_law_some"]) fun _ _ _ _ _ _ us hl=>by obtain ⟨_,_,rfl⟩:=us2 hl; rfl
 have F34:=fun_mk (st:=s_law_told) l34 c34 k34
 have b34:=F34.binds (ps:=["_law_claim","_law_paper","_law_due_here"]) fun _ _ _ _ _ _ us hl=>by obtain ⟨_,_,_,rfl⟩:=us3 hl; rfl
 have F35:=fun_mk (st:=s_law_due) l35 c35 k35
 have b35:=F35.binds (ps:=["_law_some","_law_other_here","_law_paper"]) fun _ _ _ _ _ _ us hl=>by obtain ⟨_,_,_,rfl⟩:=us3 hl; rfl
 have F36:=fun_mk (st:=s_law_right) l36 c36 k36
 have b36:=F36.binds (ps:=["_law_pack_here","_law_other_here"]) fun _ _ _ _ _ _ us hl=>by obtain ⟨_,_,rfl⟩:=us2 hl; rfl
 have F37:=fun_mk (st:=s_law) l37 c37 k37
 refine ⟨fnOf "law" "law" (defArgs s_law) (defBody s_law) (defScope s_law) .none kV37 dc37 pm37 an37 cd37 ct37,fun s v=>.of_eq rfl,fun base _ _=>?_⟩
 have G0:GloE K mg "MOST_PLACES" G_MOST_PLACES:=⟨_,.int 25,mg_of X G gl0,⟨_,rfl⟩,fun _=>.int _⟩
 have G1:GloE K mg "NOUGHT" G_NOUGHT:=glo_of_pair X G gl1 lk1
 have G2:GloE K mg "NoLevel" (.cls "NoLevel"):=glo_of_cls X G (by decide) gl2
 have G3:GloE K mg "NoNumber" (.cls "NoNumber"):=glo_of_cls X G (by decide) gl3
 have G4:GloE K mg "NoRow" (.cls "NoRow"):=glo_of_cls X G (by decide) gl4
 have G5:GloE K mg "SIZES" G_SIZES:=glo_of_sd (us:=[.int 2 vt5_0,.int 2 vt5_1,.int 2 vt5_2,.int 2 vt5_3,.int 2 vt5_4,.int 2 vt5_5,.int 3 vt5_6,.int 2 vt5_7,.int 2 vt5_8,.int 3 vt5_9,.int 2 vt5_10,.int 3 vt5_11]) (vs:=[.int 2,.int 2,.int 2,.int 2,.int 2,.int 2,.int 3,.int 2,.int 2,.int 3,.int 2,.int 3]) X G gl5 lo5 lk5 ⟨rfl,rfl,rfl⟩ rfl (.cons rfl (.cons rfl (.cons rfl (.cons rfl (.cons rfl (.cons rfl (.cons rfl (.cons rfl (.cons rfl (.cons rfl (.cons rfl (.cons rfl .nil)))))))))))) (.cons ⟨_,rfl⟩ (.cons ⟨_,rfl⟩ (.cons ⟨_,rfl⟩ (.cons ⟨_,rfl⟩ (.cons ⟨_,rfl⟩ (.cons ⟨_,rfl⟩ (.cons ⟨_,rfl⟩ (.cons ⟨_,rfl⟩ (.cons ⟨_,rfl⟩ (.cons ⟨_,rfl⟩ (.cons ⟨_,rfl⟩ (.cons ⟨_,rfl⟩ .nil)))))))))))) (fun _=>.cons (.int _) (.cons (.int _) (.cons (.int _) (.cons (.int _) (.cons (.int _) (.cons (.int _) (.cons (.int _) (.cons (.int _) (.cons (.int _) (.cons (.int _) (.cons (.int _) (.cons (.int _) (.nil)))))))))))))
 have G6:GloE K mg "WITHOUT_PAPER" G_WITHOUT_PAPER:=glo_of_sd (us:=[.ref vt6_0,.ref vt6_1,.ref vt6_2,.ref vt6_3,.ref vt6_4,.ref vt6_5,.ref vt6_6,.ref vt6_7]) (vs:=[.ref vt6_0,.ref vt6_1,.ref vt6_2,.ref vt6_3,.ref vt6_4,.ref vt6_5,.ref vt6_6,.ref vt6_7]) X G gl6 lo6 lk6 ⟨rfl,rfl,rfl⟩ rfl (.cons rfl (.cons rfl (.cons rfl (.cons rfl (.cons rfl (.cons rfl (.cons rfl (.cons rfl .nil)))))))) (.cons rfl (.cons rfl (.cons rfl (.cons rfl (.cons rfl (.cons rfl (.cons rfl (.cons rfl .nil)))))))) (fun _=>.cons (.fn fn6_0) (.cons (.fn fn6_1) (.cons (.fn fn6_2) (.cons (.fn fn6_3) (.cons (.fn fn6_4) (.cons (.fn fn6_5) (.cons (.fn fn6_6) (.cons (.fn fn6_7) (.nil)))))))))
 have G7:GloE K mg "WITH_PAPER" G_WITH_PAPER:=glo_of_sd (us:=[.ref vt7_0,.ref vt7_1,.ref vt7_2,.ref vt7_3]) (vs:=[.ref vt7_0,.ref vt7_1,.ref vt7_2,.ref vt7_3]) X G gl7 lo7 lk7 ⟨rfl,rfl,rfl⟩ rfl (.cons rfl (.cons rfl (.cons rfl (.cons rfl .nil)))) (.cons rfl (.cons rfl (.cons rfl (.cons rfl .nil)))) (fun _=>.cons (.fn fn7_0) (.cons (.fn fn7_1) (.cons (.fn fn7_2) (.cons (.fn fn7_3) (.nil)))))
 have GF15:GloE K mg "leveller_holds" (.fn "leveller_holds"):=glo_of_fn X G a15
 have E0:FnE l.prog w K mg base 1 "" "is_whole" S_is_whole:=def_ok (k:=0) C_is_whole F0 (mg_of X G a0) b0 B tab sc_is_whole ck_is_whole (by sleep 51) len_is_whole vc_is_whole
 have E1:FnE l.prog w K mg base 2 "" "greatest_divisor" S_greatest_divisor:=def_ok (k:=1) C_greatest_divisor F1 (mg_of X G a1) b1 B tab sc_greatest_divisor ck_greatest_divisor (by sleep 51) len_greatest_divisor vc_greatest_divisor
 have E2:FnE l.prog w K mg base 3 "" "is_number" S_is_number:=def_ok (k:=2) C_is_number F2 (mg_of X G a2) b2 B tab sc_is_number ck_is_number (by have:=E0.mono (show 1<=2 by decide); have:=E1.mono (show 2<=2 by decide); sleep 51) len_is_number vc_is_number
 have E3:FnE l.prog w K mg base 4 "" "number" S_number:=def_ok (k:=3) C_number F3 (mg_of X G a3) b3 B tab sc_number ck_number (by have:=E1.mono (show 2<=3 by decide); sleep 51) len_number vc_number
 have E4:FnE l.prog w K mg base 5 "" "added" S_added:=def_ok (k:=4) C_added F4 (mg_of X G a4) b4 B tab sc_added ck_added (by have:=E3.mono (show 4<=4 by decide); sleep 51) len_added vc_added
 have E5:FnE l.prog w K mg base 6 "" "taken" S_taken:=def_ok (k:=5) C_taken F5 (mg_of X G a5) b5 B tab sc_taken ck_taken (by have:=E3.mono (show 4<=5 by decide); sleep 51) len_taken vc_taken
 have E6:FnE l.prog w K mg base 7 "" "is_less" S_is_less:=def_ok (k:=6) C_is_less F6 (mg_of X G a6) b6 B tab sc_is_less ck_is_less (by sleep 51) len_is_less vc_is_less
 have E7:FnE l.prog w K mg base 8 "" "are_numbers" S_are_numbers:=def_ok (k:=7) C_are_numbers F7 (mg_of X G a7) b7 B tab sc_are_numbers ck_are_numbers (by have:=E2.mono (show 3<=7 by decide); sleep 51) len_are_numbers vc_are_numbers
 have E8:FnE l.prog w K mg base 9 "" "are_steps" S_are_steps:=def_ok (k:=8) C_are_steps F8 (mg_of X G a8) b8 B tab sc_are_steps ck_are_steps (by have:=E7.mono (show 8<=8 by decide); sleep 51) len_are_steps vc_are_steps
 have E9:FnE l.prog w K mg base 10 "" "want_steps" S_want_steps:=def_ok (k:=9) C_want_steps F9 (mg_of X G a9) b9 B tab sc_want_steps ck_want_steps (by have:=E8.mono (show 9<=9 by decide); sleep 51) len_want_steps vc_want_steps
 have E10:FnE l.prog w K mg base 11 "" "differences" S_differences:=def_ok (k:=10) C_differences F10 (mg_of X G a10) b10 B tab sc_differences ck_differences (by have:=E5.mono (show 6<=10 by decide); sleep 51) len_differences vc_differences
 have E11:FnE l.prog w K mg base 12 "" "steps" S_steps:=def_ok (k:=11) C_steps F11 (mg_of X G a11) b11 B tab sc_steps ck_steps (by have:=E7.mono (show 8<=11 by decide); have:=E10.mono (show 11<=11 by decide); sleep 51) len_steps vc_steps
 have E12:FnE l.prog w K mg base 13 "" "can_be_done" S_can_be_done:=def_ok (k:=12) C_can_be_done F12 (mg_of X G a12) b12 B tab sc_can_be_done ck_can_be_done (by have:=E0.mono (show 1<=12 by decide); have:=E2.mono (show 3<=12 by decide); have:=E5.mono (show 6<=12 by decide); have:=E6.mono (show 7<=12 by decide); have:=E11.mono (show 12<=12 by decide); sleep 51) len_can_be_done vc_can_be_done
 have E13:FnE l.prog w K mg base 14 "" "walk" S_walk:=def_ok (k:=13) C_walk F13 (mg_of X G a13) b13 B tab sc_walk ck_walk (by have:=E4.mono (show 5<=13 by decide); have:=E5.mono (show 6<=13 by decide); sleep 51) len_walk vc_walk
 have E14:FnE l.prog w K mg base 15 "" "levelled" S_levelled:=def_ok (k:=14) C_levelled F14 (mg_of X G a14) b14 B tab sc_levelled ck_levelled (by have:=E9.mono (show 10<=14 by decide); have:=E11.mono (show 12<=14 by decide); have:=E12.mono (show 13<=14 by decide); have:=E13.mono (show 14<=14 by decide); sleep 51) len_levelled vc_levelled
 have E15:FnE l.prog w K mg base 16 "" "leveller_holds" S_leveller_holds:=def_ok (k:=15) C_leveller_holds F15 (mg_of X G a15) b15 B tab sc_leveller_holds ck_leveller_holds (by have:=E8.mono (show 9<=15 by decide); have:=E11.mono (show 12<=15 by decide); have:=E14.mono (show 15<=15 by decide); sleep 51) len_leveller_holds vc_leveller_holds
 have E16:FnE l.prog w K mg base 17 "" "holds" S_holds:=def_ok (k:=16) C_holds F16 (mg_of X G a16) b16 B tab sc_holds ck_holds (by have:=E15.mono (show 16<=16 by decide); sleep 51) len_holds vc_holds
 have E17:FnE l.prog w K mg base 18 "" "_law_mixed" S_law_mixed:=def_ok (k:=17) C_law_mixed F17 (mg_of X G a17) b17 B tab sc_law_mixed ck_law_mixed (by sleep 51) len_law_mixed vc_law_mixed
 have E18:FnE l.prog w K mg base 19 "" "_law_pack" S_law_pack:=def_ok (k:=18) C_law_pack F18 (mg_of X G a18) b18 B tab sc_law_pack ck_law_pack (by have:=E17.mono (show 18<=18 by decide); sleep 51) len_law_pack vc_law_pack
 have E19:FnE l.prog w K mg base 20 "" "_law_take" S_law_take:=def_ok (k:=19) C_law_take F19 (mg_of X G a19) b19 B tab sc_law_take ck_law_take (by sleep 51) len_law_take vc_law_take
 have E20:FnE l.prog w K mg base 21 "" "_law_low" S_law_low:=def_ok (k:=20) C_law_low F20 (mg_of X G a20) b20 B tab sc_law_low ck_law_low (by sleep 51) len_law_low vc_law_low
 have E21:FnE l.prog w K mg base 22 "" "_law_more" S_law_more:=def_ok (k:=21) C_law_more F21 (mg_of X G a21) b21 B tab sc_law_more ck_law_more (by have:=E20.mono (show 21<=21 by decide); sleep 51) len_law_more vc_law_more
 have E22:FnE l.prog w K mg base 23 "" "_law_less_by" S_law_less_by:=def_ok (k:=22) C_law_less_by F22 (mg_of X G a22) b22 B tab sc_law_less_by ck_law_less_by (by have:=E20.mono (show 21<=22 by decide); sleep 51) len_law_less_by vc_law_less_by
 have E23:FnE l.prog w K mg base 24 "" "_law_by" S_law_by:=def_ok (k:=23) C_law_by F23 (mg_of X G a23) b23 B tab sc_law_by ck_law_by (by have:=E20.mono (show 21<=23 by decide); sleep 51) len_law_by vc_law_by
 have E24:FnE l.prog w K mg base 25 "" "_law_under" S_law_under:=def_ok (k:=24) C_law_under F24 (mg_of X G a24) b24 B tab sc_law_under ck_law_under (by sleep 51) len_law_under vc_law_under
 have E25:FnE l.prog w K mg base 26 "" "_law_whole" S_law_whole:=def_ok (k:=25) C_law_whole F25 (mg_of X G a25) b25 B tab sc_law_whole ck_law_whole (by sleep 51) len_law_whole vc_law_whole
 have E26:FnE l.prog w K mg base 27 "" "_law_is_number" S_law_is_number:=def_ok (k:=26) C_law_is_number F26 (mg_of X G a26) b26 B tab sc_law_is_number ck_law_is_number (by have:=E20.mono (show 21<=26 by decide); have:=E25.mono (show 26<=26 by decide); sleep 51) len_law_is_number vc_law_is_number
 have E27:FnE l.prog w K mg base 28 "" "_law_are_numbers" S_law_are_numbers:=def_ok (k:=27) C_law_are_numbers F27 (mg_of X G a27) b27 B tab sc_law_are_numbers ck_law_are_numbers (by have:=E26.mono (show 27<=27 by decide); sleep 51) len_law_are_numbers vc_law_are_numbers
 have E28:FnE l.prog w K mg base 29 "" "_law_other" S_law_other:=def_ok (k:=28) C_law_other F28 (mg_of X G a28) b28 B tab sc_law_other ck_law_other (by have:=E19.mono (show 20<=28 by decide); sleep 51) len_law_other vc_law_other
 have R29_0:FnE l.prog w K mg base 29 "" "_law_spoilt" (SR_law_spoilt 0):=def_no F29 (mg_of X G a29) b29
 have R29_1:FnE l.prog w K mg base 30 "" "_law_spoilt" (SR_law_spoilt 1):=def_ok (k:=29) (C_law_spoilt (SR_law_spoilt 0)) F29 (mg_of X G a29) b29 B tab sc_law_spoilt (ck_law_spoilt _) (by have:=R29_0; have:=E19.mono (show 20<=29 by decide); have:=E28.mono (show 29<=29 by decide); sleep 51) (sr_len_law_spoilt 0) (vc_law_spoilt 0)
 have R29_2:FnE l.prog w K mg base 31 "" "_law_spoilt" (SR_law_spoilt 2):=def_ok (k:=30) (C_law_spoilt (SR_law_spoilt 1)) F29 (mg_of X G a29) b29 B tab sc_law_spoilt (ck_law_spoilt _) (by have:=R29_1; have:=E19.mono (show 20<=30 by decide); have:=E28.mono (show 29<=30 by decide); sleep 51) (sr_len_law_spoilt 1) (vc_law_spoilt 1)
 have R29_3:FnE l.prog w K mg base 32 "" "_law_spoilt" (SR_law_spoilt 3):=def_ok (k:=31) (C_law_spoilt (SR_law_spoilt 2)) F29 (mg_of X G a29) b29 B tab sc_law_spoilt (ck_law_spoilt _) (by have:=R29_2; have:=E19.mono (show 20<=31 by decide); have:=E28.mono (show 29<=31 by decide); sleep 51) (sr_len_law_spoilt 2) (vc_law_spoilt 2)
 have E29:FnE l.prog w K mg base 33 "" "_law_spoilt" S_law_spoilt:=def_ok (k:=32) (C_law_spoilt (SR_law_spoilt 3)) F29 (mg_of X G a29) b29 B tab sc_law_spoilt (ck_law_spoilt _) (by have:=R29_3; have:=E19.mono (show 20<=32 by decide); have:=E28.mono (show 29<=32 by decide); sleep 51) (sr_len_law_spoilt 3) (vc_law_spoilt 3)
 have E30:FnE l.prog w K mg base 34 "" "_law_moved" S_law_moved:=def_ok (k:=33) C_law_moved F30 (mg_of X G a30) b30 B tab sc_law_moved ck_law_moved (by have:=E19.mono (show 20<=33 by decide); have:=E20.mono (show 21<=33 by decide); have:=E21.mono (show 22<=33 by decide); sleep 51) len_law_moved vc_law_moved
 have E31:FnE l.prog w K mg base 35 "" "_law_drawn_steps" S_law_drawn_steps:=def_ok (k:=34) C_law_drawn_steps F31 (mg_of X G a31) b31 B tab sc_law_drawn_steps ck_law_drawn_steps (by have:=E19.mono (show 20<=34 by decide); have:=E20.mono (show 21<=34 by decide); sleep 51) len_law_drawn_steps vc_law_drawn_steps
 have E32:FnE l.prog w K mg base 36 "" "_law_walked" S_law_walked:=def_ok (k:=35) C_law_walked F32 (mg_of X G a32) b32 B tab sc_law_walked ck_law_walked (by have:=E21.mono (show 22<=35 by decide); have:=E22.mono (show 23<=35 by decide); have:=E24.mono (show 25<=35 by decide); have:=E25.mono (show 26<=35 by decide); have:=E26.mono (show 27<=35 by decide); sleep 51) len_law_walked vc_law_walked
 have E33:FnE l.prog w K mg base 37 "" "_law_drawn_levelling" S_law_drawn_levelling:=def_ok (k:=36) C_law_drawn_levelling F33 (mg_of X G a33) b33 B tab sc_law_drawn_levelling ck_law_drawn_levelling (by have:=E19.mono (show 20<=36 by decide); have:=E22.mono (show 23<=36 by decide); have:=E23.mono (show 24<=36 by decide); sleep 51) len_law_drawn_levelling vc_law_drawn_levelling
 have E34:FnE l.prog w K mg base 38 "" "_law_told" S_law_told:=def_ok (k:=37) C_law_told F34 (mg_of X G a34) b34 B tab sc_law_told ck_law_told (by have:=E16.mono (show 17<=37 by decide); sleep 51) len_law_told vc_law_told
 have E35:FnE l.prog w K mg base 39 "" "_law_due" S_law_due:=def_ok (k:=38) C_law_due F35 (mg_of X G a35) b35 B tab sc_law_due ck_law_due (by have:=E27.mono (show 28<=38 by decide); have:=E32.mono (show 36<=38 by decide); sleep 51) len_law_due vc_law_due
 have E36:FnE l.prog w K mg base 40 "" "_law_right" S_law_right:=def_ok (k:=39) C_law_right F36 (mg_of X G a36) b36 B tab sc_law_right ck_law_right (by have:=E19.mono (show 20<=39 by decide); have:=E29.mono (show 33<=39 by decide); have:=E30.mono (show 34<=39 by decide); have:=E32.mono (show 36<=39 by decide); have:=E33.mono (show 37<=39 by decide); have:=E34.mono (show 38<=39 by decide); have:=E35.mono (show 39<=39 by decide); sleep 51) len_law_right vc_law_right
 exact def_fn (k:=40) C_law F37 B tab sc_law ck_law (by have:=E18.mono (show 19<=40 by decide); have:=E19.mono (show 20<=40 by decide); have:=E31.mono (show 35<=40 by decide); have:=E34.mono (show 38<=40 by decide); have:=E36.mono (show 40<=40 by decide); sleep 51) len_law vc_law
end K
open PySem PySem.W PyProof.Rows
set_option maxRecDepth 100000 in
set_option maxHeartbeats 0 in
theorem PySem.Challenge.cw_levelcord_k73_levellings_judged_holds : PySem.Challenge.rw_levelcord_k73_levellings_judged.Holds := by
 w_on; o_law; k_head; (case hw=>w_witness2)
 k_fill
 refine DL.walkD (l:=PySem.Challenge.rw_levelcord_k73_levellings_judged) (k:=41) (x:="_law_script") rfl rfl ⟨rfl,by decide,by decide⟩ (fun w h Y=>PySem.W.kIn_of Y) ?F
 case F =>
  intro w mg fa h KX G hmg
  refine' K.all_mk KX G hmg ?a0 ?l0 ?c0 ?k0 ?a1 ?l1 ?c1 ?k1 ?a2 ?l2 ?c2 ?k2 ?a3 ?l3 ?c3 ?k3 ?a4 ?l4 ?c4 ?k4 ?a5 ?l5 ?c5 ?k5 ?a6 ?l6 ?c6 ?k6 ?a7 ?l7 ?c7 ?k7 ?a8 ?l8 ?c8 ?k8 ?a9 ?l9 ?c9 ?k9 ?a10 ?l10 ?c10 ?k10 ?a11 ?l11 ?c11 ?k11 ?a12 ?l12 ?c12 ?k12 ?a13 ?l13 ?c13 ?k13 ?a14 ?l14 ?c14 ?k14 ?a15 ?l15 ?c15 ?k15 ?a16 ?l16 ?c16 ?k16 ?a17 ?l17 ?c17 ?k17 ?a18 ?l18 ?c18 ?k18 ?a19 ?l19 ?c19 ?k19 ?a20 ?l20 ?c20 ?k20 ?a21 ?l21 ?c21 ?k21 ?a22 ?l22 ?c22 ?k22 ?a23 ?l23 ?c23 ?k23 ?a24 ?l24 ?c24 ?k24 ?a25 ?l25 ?c25 ?k25 ?a26 ?l26 ?c26 ?k26 ?a27 ?l27 ?c27 ?k27 ?a28 ?l28 ?c28 ?k28 ?a29 ?l29 ?c29 ?k29 ?a30 ?l30 ?c30 ?k30 ?a31 ?l31 ?c31 ?k31 ?a32 ?l32 ?c32 ?k32 ?a33 ?l33 ?c33 ?k33 ?a34 ?l34 ?c34 ?k34 ?a35 ?l35 ?c35 ?k35 ?a36 ?l36 ?c36 ?k36 ?a37 ?l37 ?c37 ?k37 ?z0 ?z1 ?z2 ?z3 ?z4 ?z5 ?z6 ?z7 ?z8 ?z9 ?z10 ?z11 ?z12 ?z13 ?z14 ?z15 ?z16 ?z17 ?z18 ?gl0 ?gl1 ?lk1 ?gl2 ?gl3 ?gl4 ?gl5 ?lo5 ?lk5 ?gl6 ?lo6 ?lk6 ?fn6_0 ?fn6_1 ?fn6_2 ?fn6_3 ?fn6_4 ?fn6_5 ?fn6_6 ?fn6_7 ?gl7 ?lo7 ?lk7 ?fn7_0 ?fn7_1 ?fn7_2 ?fn7_3 ?tab
  case a0|l0|c0|k0|a1|l1|c1|k1|a2|l2|c2|k2|a3|l3|c3|k3|a4|l4|c4|k4|a5|l5|c5|k5|a6|l6|c6|k6|a7|l7|c7|k7|a8|l8|c8|k8|a9|l9|c9|k9|a10|l10|c10|k10|a11|l11|c11|k11|a12|l12|c12|k12|a13|l13|c13|k13|a14|l14|c14|k14|a15|l15|c15|k15|a16|l16|c16|k16|a17|l17|c17|k17|a18|l18|c18|k18|a19|l19|c19|k19|a20|l20|c20|k20|a21|l21|c21|k21|a22|l22|c22|k22|a23|l23|c23|k23|a24|l24|c24|k24|a25|l25|c25|k25|a26|l26|c26|k26|a27|l27|c27|k27|a28|l28|c28|k28|a29|l29|c29|k29|a30|l30|c30|k30|a31|l31|c31|k31|a32|l32|c32|k32|a33|l33|c33|k33|a34|l34|c34|k34|a35|l35|c35|k35|a36|l36|c36|k36|a37|l37|c37|k37|z0|z1|z2|z3|z4|z5|z6|z7|z8|z9|z10|z11|z12|z13|z14|z15|z16|z17|z18|gl0|gl1|lk1|gl2|gl3|gl4|gl5|lk5|gl6|lk6|fn6_0|fn6_1|fn6_2|fn6_3|fn6_4|fn6_5|fn6_6|fn6_7|gl7|lk7|fn7_0|fn7_1|fn7_2|fn7_3=>k_is
  case lo5|lo6|lo7=>kernel_rfl
  (case tab=>kernel_rfl)
