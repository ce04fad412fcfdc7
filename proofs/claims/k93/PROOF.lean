import PyProof.Rows.All
import Wide.All
import OpenK.AllK
import Wide.FinOn
import Lean
import PyProof.EqAt
import PyProof.EqKinds
import PyProof.TupleCall
import PyProof.SumAnyB
import PySem.Challenge.RW_levelcord_k93_whole_drawn_again
set_option Elab.async false
set_option linter.all false
set_option maxRecDepth 100000
set_option maxHeartbeats 4000000
set_option genSizeOf false
local macro_rules
 | `(tactic| simp[0,$xs,*])=>do
  let ys:=("YH dVar dC d2 dNil Z5 dTup dLst dCB Zu Bk dAnd dOr dNot Bp dOrV dIfE bInt bOp cInt cOp fAbs fMax fMin fStr J9 fInt truD dTru U0 EA dNeg Bm JX dSl Md Mc dRev Bo dSeq L6 Me GR dRet Mb dIfS L5 Xp GM Eg GL dAsg dPar dTwo dAug GI fSum dApp dExt dIns dIdx GS AN CGs.len plain rE rEs rO rG rGs rI Ez dTry rS Y1".splitOn " ").toArray.map fun s=>(⟨Lean.mkNode `Lean.Parser.Tactic.simpLemma #[Lean.mkNullNode,Lean.mkNullNode,Lean.mkIdent (`DL++s.toName)]⟩:Lean.TSyntax `Lean.Parser.Tactic.simpLemma)
  `(tactic| simp[$ys,*,$xs,*])
 | `(tactic| dsimp only[0,$xs,*])=>do
  let ys:=("YH dVar dC d2 dNil Z5 dTup dLst dCB Zu Bk dAnd dOr dNot Bp dOrV dIfE bInt bOp cInt cOp fAbs fMax fMin fStr J9 fInt truD dTru U0 EA dNeg Bm JX dSl Md Mc dRev Bo dSeq L6 Me GR dRet Mb dIfS L5 Xp GM Eg GL dAsg dPar dTwo dAug GI fSum dApp dExt dIns dIdx GS AN CGs.len plain rE rEs rO rG rGs rI Ez dTry rS Y1".splitOn " ").toArray.map fun s=>(⟨Lean.mkNode `Lean.Parser.Tactic.simpLemma #[Lean.mkNullNode,Lean.mkNullNode,Lean.mkIdent (`DL++s.toName)]⟩:Lean.TSyntax `Lean.Parser.Tactic.simpLemma)
  `(tactic| dsimp only[$ys,*,$xs,*])
local macro_rules | `(tactic| omega)=>`(tactic| lia)
set_option bootstrap.genMatcherCode false
set_option bootstrap.genMatcherCode true
local macro_rules | `(%[$xs,*|$n])=>match n.raw.isNatLit? with
 | some 0=>do
  let mut r:Lean.Term<-`(.nil)
  for x in xs.getElems.reverse do r<-`(.cons $x $r)
  return r
 | some 1=>`(⟨fun _ _=>rfl,fun _ _=>rfl,fun _=>rfl,fun _ _=>rfl,fun _ _ _ _=>rfl⟩)
 | some 2=>`((fun _ _ _ z=>nomatch z))
 | some 3=>`((Nat.le_refl _))
 | some 4=>`(by decide)
 | some 5=>`(by omega)
 | _=>Lean.Macro.throwUnsupported
set_option bootstrap.genMatcherCode false
open PySem.W (Frag hideAll)
noncomputable section
namespace L2
open PySem PySem.Spec PyProof.Rows
abbrev Key:=Sum Int Str
noncomputable def GH:Key->Value->Bool
 | .inl k,v=>Value.isInt k v
 | .inr x,v=>Value.isStrOf x v
noncomputable def keyH (w:World):Key->Int
 | .inl k=>hashInt k
 | .inr x=>hashStr w x
theorem YC:∀ {k:Key} {v:Value},GH k v=true->(∃ i t,k=Sum.inl i/\v=Value.int i t)\/(∃ x t,k=Sum.inr x/\v=Value.str x t)
 | .inl i,v,h=>by
  obtain⟨t,e⟩:=Value.isInt_shape (k:=i) (v:=v) h;exact .inl ⟨i,t,rfl,e⟩
 | .inr x,v,h=>by
  obtain⟨t,e⟩:=Value.isStrOf_shape (x:=x) (v:=v) h;exact .inr ⟨x,t,rfl,e⟩
theorem HS (a b:Int):decide ((Sum.inl a:Key)=Sum.inl b)=(a==b):=by
 by_cases e:a=b
 ·subst e;simp
 ·have h:¬ (Sum.inl a:Key)=Sum.inl b:=fun q=>e (Sum.inl.inj q)
  rw[decide_eq_false h];exact (beq_eq_false_iff_ne.mpr e).symm
theorem HP (a b:Str):decide ((Sum.inr a:Key)=Sum.inr b)=decide (a=b):=by
 by_cases e:a=b
 ·subst e;simp
 ·have h:¬ (Sum.inr a:Key)=Sum.inr b:=fun q=>e (Sum.inr.inj q)
  rw[decide_eq_false h,decide_eq_false e]
theorem HR (a:Int) (b:Str):decide ((Sum.inl a:Key)=Sum.inr b)=false:=decide_eq_false (fun q=>nomatch q)
theorem HQ (a:Str) (b:Int):decide ((Sum.inr a:Key)=Sum.inl b)=false:=decide_eq_false (fun q=>nomatch q)
noncomputable def J3 (prog:Program) (w:World):PySem.KeyKind prog w Key where
 is:=GH
 hash:=keyH w
 inj:=fun v a b ha hb=>by
  rcases YC ha with ⟨i,t,rfl,rfl⟩|⟨x,t,rfl,rfl⟩
  ·rcases YC hb with ⟨j,u,rfl,e⟩|⟨y,u,rfl,e⟩
   ·injection e with e1 _;rw[e1]
   ·exact nomatch e
  ·rcases YC hb with ⟨j,u,rfl,e⟩|⟨y,u,rfl,e⟩
   ·exact nomatch e
   ·injection e with e1 _;rw[e1]
 byValue:=fun k v h=>by
  rcases YC h with ⟨i,t,rfl,rfl⟩|⟨x,t,rfl,rfl⟩<;>rfl
 pyHash:=fun hv h=>by
  rcases YC hv with ⟨i,t,rfl,rfl⟩|⟨x,t,rfl,rfl⟩
  ·exact wpAny_pyHash_int h
  ·exact wpAny_pyHash_str h
 eqBool:=fun hu hv h=>by
  rcases YC hu with ⟨i,t,rfl,rfl⟩|⟨x,t,rfl,rfl⟩
  ·rcases YC hv with ⟨j,u,rfl,rfl⟩|⟨y,u,rfl,rfl⟩
   ·rw[HS] at h;exact wpAny_eqBool_int h
   ·rw[HR] at h;exact SeqAt.EqAt.int_str i t y u _ _ _ _ h
  ·rcases YC hv with ⟨j,u,rfl,rfl⟩|⟨y,u,rfl,rfl⟩
   ·rw[HQ] at h;exact SeqAt.EqAt.str_int x t j u _ _ _ _ h
   ·rw[HP] at h;exact wpAny_eqBool_str h
 «strs»:=fun k x t v h=>by
  rcases YC h with ⟨i,u,rfl,e⟩|⟨y,u,rfl,e⟩
  ·exact nomatch e
  ·injection e with e1 _
   subst e1;cases v<;>rfl
end L2
namespace L2
open PySem PySem.Spec PyProof.Rows
inductive V where
 | non|bl (b:Bool)|int (i:Int)|str (x:Str)|byt (b:Array UInt8)|flt (b:UInt64)|ref (a:Addr)|ty (n:String)
 deriving DecidableEq
noncomputable def RelV:V->Value->Prop
 | .non,u=>u=Value.none
 | .bl b,u=>u=Value.bool b
 | .int i,u=>∃ t,u=Value.int i t
 | .str x,u=>∃ t,u=Value.str x t
 | .byt b,u=>∃ t,u=Value.bytes b t
 | .flt b,u=>∃ t,u=Value.float b t
 | .ref a,u=>u=Value.ref a
 | .ty n,u=>u=Value.type n
abbrev Vals:List V->List Value->Prop:=Paired RelV
theorem Vals.length (r:Vals xs us):xs.length=us.length:=Paired.length r
theorem Vals.get:∀ {xs:List V} {us:List Value} {i:Nat} {x:V},Vals xs us->xs[i]?=some x->∃ u,us[i]?=some u/\RelV x u
 | _,_,_,_,.nil,e=>by simp at e
 | _,_,0,_,.cons r _,e=>by simp at e;subst e;exact⟨_,rfl,r⟩
 | _,_,i+1,x,.cons _ t,e=>by
  obtain⟨u,h1,h2⟩:=Vals.get (i:=i) (x:=x) t (by simpa using e);exact⟨u,by simpa using h1,h2⟩
theorem Vals.set (r:RelV x u):∀ {xs:List V} {us:List Value} (i:Nat),Vals xs us->Vals (xs.set i x) (us.set i u)
 | _,_,_,.nil=>.nil
 | _,_,0,.cons _ t=>.cons r t
 | _,_,i+1,.cons q t=>.cons q (Vals.set r i t)
theorem Vals.append:∀ {xs ys:List V} {us ws:List Value},Vals xs us->Vals ys ws->Vals (xs++ys) (us++ws)
 | _,_,_,_,.nil,s=>s
 | _,_,_,_,.cons r t,s=>.cons r (Vals.append t s)
theorem Vals.take:∀ {xs:List V} {us:List Value} (n:Nat),Vals xs us->Vals (xs.take n) (us.take n)
 | _,_,0,_=>.nil
 | _,_,_+1,.nil=>.nil
 | _,_,n+1,.cons r t=>.cons r (Vals.take n t)
theorem Vals.drop:∀ {xs:List V} {us:List Value} (n:Nat),Vals xs us->Vals (xs.drop n) (us.drop n)
 | _,_,0,r=>r
 | _,_,_+1,.nil=>.nil
 | _,_,n+1,.cons _ t=>Vals.drop n t
noncomputable def RelO:Option V->Option Value->Prop
 | some v,some u=>RelV v u
 | none,none=>True
 | _,_=>False
noncomputable def KV {κ:Type}:List (κ×V)->List (κ×Value)->Prop:=Paired fun (p:κ×V) (q:κ×Value)=>p.1=q.1/\RelV p.2 q.2
noncomputable def kV:Key->V
 | .inl i=>.int i
 | .inr x=>.str x
inductive HO where
 | lst (xs:List V)
 | tup (xs:List V)
 | dK (kvs:List (Key×V))|dT (kvs:List (List Key×V))
 | set (S:Int->Bool) (n:Nat)
 | ins (C dx:Addr) (fs:List (Str×V))
 | own (x:Addr)
 | xd (fs:List (Str×V))
 | met (f x:Addr)
 | rng (lo hi:Int)
 | frz (o:Obj) (u:HO)
 | tbl (ps:Array Value)
 | ext (φ:Heap->Prop)
abbrev Hp:=Addr->Option HO
noncomputable def upd (H:Hp) (a:Addr) (o:HO):Hp:=fun b=>if b=a then some o else H b
theorem upd_same:upd H a o a=some o:=by unfold upd;rw[if_pos rfl]
theorem Yx (h:b≠a):upd H a o b=H b:=by unfold upd;rw[if_neg h]
theorem ZK {H:Hp} {a b:Addr} {o:HO} (h:H a=some o) (h':H b=none):a≠b:=by
 intro e;subst e;rw[h] at h';cases h'
section
variable (P:Program) (w:World)
noncomputable def ObjOk (H:Hp) (h:Heap) (a:Addr):HO->Prop
 | .lst xs=>xs.length<=sizeLine/\∃ (its:List Value) (n:Nat),Vals xs its/\h.get? a=some {cls:=.type "list",data:=.seq its.toArray n}
 | .tup xs=>xs.length<=sizeLine/\∃ its:List Value,Vals xs its/\IsTup h a its.toArray
 | .dK kvs=>kvs.length<=sizeLine/\(a==sysModules)=false/\∃ vs,KV kvs vs/\h.DictOf (J3 P w) a vs
 | .dT kvs=>kvs.length<=sizeLine/\(a==sysModules)=false/\∃ xs:List (List Key×Addr×Value),
   Paired (fun (p:List Key×V) (q:List Key×Addr×Value)=>p.1=q.1/\H q.2.1=some (.tup (p.1.map kV))/\RelV p.2 q.2.2) kvs xs /\
   ∃ o es ep,h.get? a=some o/\o.ExactDict/\o.data=.dict es ep/\es.toList=xs.map (entryOfKey (tupleKind (J3 P w)))/\(xs.map (·.1)).Nodup
 | .set S n=>h.SetOf (intKind P w) a S n
 | .ins C dx fs=>H dx=some (.own a)/\fs.length<=1000/\dx≠a/\h.get? a=some (PySem.W.instObj C dx) /\
   ∃ mA,h.Ns1 dx mA/\(∀ f,RelO (fs.lookup f) (mA f))/\PySem.Within mA (fs.map (·.1))
 | .own _=>∃ o,h.get? a=some o
 | .xd fs=>∃ mA,h.Ns1 a mA/\∀ f,RelO (fs.lookup f) (mA f)
 | .rng lo hi=>∃ t u v,h.get? a=some {cls:=.type "range",data:=.fields #[.int lo t,.int hi u,.int 1 v]}
 | .frz o u=>h.get? a=some o/\ObjOk H h a u
 | .tbl ps=>h.get? a=some {cls:=.none,data:=.fields ps}
 | .met f x=>h.get? a=some (PySem.W.methodObj (.ref f) (.ref x))
 | .ext φ=>φ h/\(∃ o,h.get? a=some o)/\∀ h1 h2:Heap,φ h1->(∀ o,h1.get? a=some o->h2.get? a=some o)->φ h2
noncomputable def HOk (H:Hp) (h:Heap):Prop:=∀ a o,H a=some o->ObjOk P w H h a o
end
section
variable {P:Program} {w:World} {H H':Hp} {h h':Heap} {a:Addr} {o:HO}
theorem ObjOk.lt (x:ObjOk P w H h a o):a<h.objs.size:=by
 cases o with
 | lst xs=>obtain⟨_,_,_,_,e⟩:=x;exact Heap.lt_size e
 | tup xs=>obtain⟨_,_,_,p⟩:=x;exact p.lt
 | dK kvs=>obtain⟨_,_,_,_,o,_,_,e,_⟩:=x;exact Heap.lt_size e
 | dT kvs=>obtain⟨_,_,_,_,o,_,_,e,_⟩:=x;exact Heap.lt_size e
 | set S n=>obtain⟨o,_,_,_,e,_⟩:=x;exact Heap.lt_size e
 | ins C dx fs=>obtain⟨_,_,_,e,_⟩:=x;exact Heap.lt_size e
 | own y=>obtain⟨_,e⟩:=x;exact Heap.lt_size e
 | xd fs=>obtain⟨_,⟨_,_,_,e,_⟩,_⟩:=x;exact Heap.lt_size e
 | rng lo hi=>obtain⟨_,_,_,e⟩:=x;exact Heap.lt_size e
 | frz ob u=>obtain⟨e,_⟩:=x;exact Heap.lt_size e
 | tbl ps=>exact Heap.lt_size (show h.get? a=some _ from x)
 | met f y=>exact Heap.lt_size (show h.get? a=some _ from x)
 | ext φ=>obtain⟨_,⟨_,e⟩,_⟩:=x;exact Heap.lt_size e
theorem Paired.mapP:∀ {l₁:List α} {l₂:List β},Paired F l₁ l₂->(∀ a b,F a b->G a b)->Paired G l₁ l₂
 | _,_,.nil,_=>.nil
 | _,_,.cons r t,f=>.cons (f _ _ r) (Paired.mapP t f)
theorem ObjOk.stay (x:ObjOk P w H h a o) (k:∀ b u,(b=a\/H b=some (.own a))->h.get? b=some u->h'.get? b=some u)
  (ho:∀ b,H b=some (.own a)->H' b=some (.own a)) (ht:∀ b xs,H b=some (.tup xs)->H' b=some (.tup xs)):ObjOk P w H' h' a o:=by
 induction o with
 | lst xs=>obtain⟨z,its,n,r,e⟩:=x;exact⟨z,its,n,r,k _ _ (.inl rfl) e⟩
 | tup xs=>obtain⟨z,its,r,ob,e,c⟩:=x;exact⟨z,its,r,ob,k _ _ (.inl rfl) e,c⟩
 | dK kvs=>obtain⟨z,y,vs,r,ob,es,ep,e,c⟩:=x;exact⟨z,y,vs,r,ob,es,ep,k _ _ (.inl rfl) e,c⟩
 | dT kvs =>
  obtain⟨z,y,xs,r,ob,es,ep,e,c⟩:=x;exact⟨z,y,xs,Paired.mapP r fun p q z=>⟨z.1,ht _ _ z.2.1,z.2.2⟩,ob,es,ep,k _ _ (.inl rfl) e,c⟩
 | set S n=>obtain⟨ob,es,ep,t,e,c⟩:=x;exact⟨ob,es,ep,t,k _ _ (.inl rfl) e,c⟩
 | ins C dx fs =>
  obtain⟨d,z,ne,e,mA,⟨od,es,ep,e2,c⟩,r⟩:=x;exact⟨ho _ d,z,ne,k _ _ (.inl rfl) e,mA,⟨od,es,ep,k _ _ (.inr d) e2,c⟩,r⟩
 | own y=>obtain⟨ob,e⟩:=x;exact⟨ob,k _ _ (.inl rfl) e⟩
 | xd fs=>obtain⟨mA,⟨od,es,ep,e,c⟩,r⟩:=x;exact⟨mA,⟨od,es,ep,k _ _ (.inl rfl) e,c⟩,r⟩
 | rng lo hi=>obtain⟨t,u,v,e⟩:=x;exact⟨t,u,v,k _ _ (.inl rfl) e⟩
 | frz ob u ih=>obtain⟨e,q⟩:=x;exact⟨k _ _ (.inl rfl) e,ih q⟩
 | tbl ps =>
  have e:h.get? a=some {cls:=.none,data:=.fields ps}:=x;show h'.get? a=some {cls:=.none,data:=.fields ps};exact k a _ (.inl rfl) e
 | met f y =>
  have e:h.get? a=some (PySem.W.methodObj (.ref f) (.ref y)):=x;show h'.get? a=some (PySem.W.methodObj (.ref f) (.ref y));exact k a _ (.inl rfl) e
 | ext φ=>obtain⟨p,⟨o,e⟩,st⟩:=x;exact⟨st _ _ p fun o q=>k _ _ (.inl rfl) q,⟨o,k _ _ (.inl rfl) e⟩,st⟩
theorem HOk.lt (x:HOk P w H h) (e:H a=some o):a<h.objs.size:=(x a o e).lt
theorem HOk.fresh (x:HOk P w H h) (e:h.objs.size<=a):H a=none:=by
 cases q:H a with
 | none=>rfl
 | some u=>exact absurd (Nat.lt_of_lt_of_le (x.lt q) e) (Nat.lt_irrefl _)
theorem HOk.kept (x:HOk P w H h) (k:∀ b u,h.get? b=some u->h'.get? b=some u):HOk P w H h':=fun a o e =>
 (x a o e).stay (fun b u _ q=>k b u q) (fun _ q=>q) fun _ _ q=>q
theorem HOk.laid (x:HOk P w H h) (k:∀ b u,h.get? b=some u->h'.get? b=some u) (hp:h.objs.size<=a) (new:ObjOk P w (upd H a o) h' a o):HOk P w (upd H a o) h':=fun b u e=>by
 have hn:=x.fresh hp;by_cases hb:b=a
 ·subst hb;rw[upd_same] at e;cases e;exact new
 ·rw[Yx hb] at e
  exact (x b u e).stay (fun c v _ q=>k c v q) (fun c q=>by rw[Yx (ZK q hn)];exact q) fun c xs q=>by rw[Yx (ZK q hn)];exact q
end
noncomputable def Rd (H:Hp) (a:Addr) (u:HO):Prop:=H a=some u\/∃ o,H a=some (.frz o u)
theorem Rd.of (h:H a=some u):Rd H a u:=.inl h
theorem Rd.ok (r:Rd H a u) (x:HOk P w H h):ObjOk P w H h a u:=by
 rcases r with r|⟨o,r⟩
 ·exact x a u r
 ·obtain⟨_,q⟩:=x a _ r
  exact q
noncomputable def Mut:Option HO->Prop
 | some (.lst _)=>True
 | some (.dK _)=>True
 | some (.dT _)=>True
 | some (.set _ _)=>True
 | some (.ins _ _ _)=>True
 | some (.ext _)=>True
 | _=>False
section
variable {P:Program} {w:World} {H:Hp} {h h':Heap} {x e:Addr} {o':HO}
theorem HOk.write (ok:HOk P w H h) (mu:Mut (H x)) (he:e=x\/H e=some (.own x)) (k:∀ b u,b≠e->h.get? b=some u->h'.get? b=some u) (heo:∃ u,h'.get? e=some u)
  (new:ObjOk P w (upd H x o') h' x o'):HOk P w (upd H x o') h':=fun b u q=>by
 have nown:∀ c y,H c=some (.own y)->c≠x:=fun c y r z=>by subst z;rw[r] at mu;exact mu
 have ntup:∀ c xs,H c=some (.tup xs)->c≠x:=fun c xs r z=>by subst z;rw[r] at mu;exact mu
 by_cases hb:b=x
 ·subst hb;rw[upd_same] at q;cases q;exact new
 ·rw[Yx hb] at q
  by_cases hbe:b=e
  ·have q':H b=some (.own x):=by
    rcases he with z|z
    ·exact absurd (hbe.trans z) hb
    ·rw[hbe];exact z
   rw[q] at q';cases q';obtain⟨v,hv⟩:=heo;exact⟨v,by rw[hbe];exact hv⟩
  ·refine (ok b u q).stay (fun c v hc r=>k c v ?_ r) (fun c r=>by rw[Yx (nown c b r)];exact r) fun c xs r=>by rw[Yx (ntup c xs r)];exact r
   rcases hc with rfl|hc
   ·exact hbe
   ·rintro rfl
    rcases he with z|z
    ·exact nown c b hc z
    ·rw[hc] at z;cases z;exact hb rfl
end
structure Un (fs ex:List Addr) (H H':Hp) (h h':Heap):Prop where
 keep:∀ b o,h.get? b=some o->H b=none->b ∉ fs->b ∉ ex->h'.get? b=some o
 slot:∀ b o,h.get? b=some o->H b=none->b∈fs->b ∉ ex->∃ sl,h'.get? b=some {o with slots:=sl}
 free:∀ b o,h.get? b=some o->H b=none->b ∉ ex->H' b=none
 there:∀ b o,h.get? b=some o->b ∉ ex->∃ o',h'.get? b=some o'
 tups:∀ b xs,H b=some (.tup xs)->H' b=some (.tup xs)
 frzs:∀ b o u,H b=some (.frz o u)->H' b=some (.frz o u)
 tbls:∀ b ps,H b=some (.tbl ps)->∃ more,H' b=some (.tbl (ps++more))
section
variable {fs fs' ex ex':List Addr} {H H1 H2:Hp} {h h1 h2 h':Heap} {a x e:Addr} {o:HO}
theorem Un.any (u:Un fs ex H H1 h h1) (q:h.get? b=some ob) (n:H b=none) (hx:b ∉ ex):∃ sl,h1.get? b=some {ob with slots:=sl}:=by
 by_cases hb:b∈fs
 ·exact u.slot b ob q n hb hx
 ·exact⟨ob.slots,u.keep b ob q n hb hx⟩
theorem Un.trans (a:Un fs ex H H1 h h1) (b:Un fs ex H1 H2 h1 h2):Un fs ex H H2 h h2 where
 keep:=fun c ob q n hc hx=>b.keep c ob (a.keep c ob q n hc hx) (a.free c ob q n hx) hc hx
 slot:=fun c ob q n hc hx=>by
  obtain⟨sl,e1⟩:=a.slot c ob q n hc hx;obtain⟨sl',e2⟩:=b.slot c _ e1 (a.free c ob q n hx) hc hx;exact⟨sl',e2⟩
 free:=fun c ob q n hx=>by
  obtain⟨o',e1⟩:=a.there c ob q hx;exact b.free c o' e1 (a.free c ob q n hx) hx
 there:=fun c ob q hx=>by
  obtain⟨o',e1⟩:=a.there c ob q hx;exact b.there c o' e1 hx
 tups:=fun c xs q=>b.tups c xs (a.tups c xs q)
 frzs:=fun c ob xs q=>b.frzs c ob xs (a.frzs c ob xs q)
 tbls:=fun c ps q=>by
  obtain⟨m1,e1⟩:=a.tbls c ps q;obtain⟨m2,e2⟩:=b.tbls c _ e1;exact⟨m1++m2,by rw[e2,Array.append_assoc]⟩
theorem Un.kept (k:∀ b u,h.get? b=some u->h'.get? b=some u):Un fs ex H H h h' :=
 ⟨fun b ob q _ _ _=>k b ob q,fun b ob q _ _ _=>⟨ob.slots,k b ob q⟩,fun _ _ _ n _=>n,fun b ob q _=>⟨ob,k b ob q⟩,fun _ _ q=>q,fun _ _ _ q=>q,fun _ ps q=>⟨#[],by rw[q];simp⟩⟩
theorem Un.refl:Un fs ex H H h h:=Un.kept fun _ _ q=>q
theorem Un.laid (k:∀ b u,h.get? b=some u->h'.get? b=some u) (hp:h.objs.size<=a) (hn:H a=none):Un fs ex H (upd H a o) h h' where
 keep:=fun b u q _ _ _=>k b u q
 slot:=fun b u q _ _ _=>⟨u.slots,k b u q⟩
 free:=fun b u q n _=>by rw[Yx (Nat.ne_of_lt (Nat.lt_of_lt_of_le (Heap.lt_size q) hp))];exact n
 there:=fun b u q _=>⟨u,k b u q⟩
 tups:=fun b xs q=>by rw[Yx (ZK q hn)];exact q
 frzs:=fun b u xs q=>by rw[Yx (ZK q hn)];exact q
 tbls:=fun b ps q=>⟨#[],by rw[Yx (ZK q hn),q];simp⟩
theorem Un.write (mu:Mut (H x)) (he:e=x\/H e=some (.own x)) (k:∀ b u,b≠e->h.get? b=some u->h'.get? b=some u) (heo:∃ u,h'.get? e=some u):Un fs ex H (upd H x o) h h':=by
 have hx:∀ b,H b=none->b≠x:=fun b n z=>by subst z;rw[n] at mu;exact mu
 have hb:∀ b,H b=none->b≠e:=fun b n z=>by
  subst z;rcases he with r|r
  ·exact hx b n r
  ·rw[n] at r;cases r
 have hm:∀ b u,H b=some u->¬ Mut (some u)->b≠x:=fun b u q nm z=>by subst z;rw[q] at mu;exact nm mu
 refine⟨fun b u q n _ _=>k b u (hb b n) q,fun b u q n _ _=>⟨u.slots,k b u (hb b n) q⟩,fun b u q n _=>by rw[Yx (hx b n)];exact n,fun b u q _=>?_,
  fun b xs q=>by rw[Yx (hm b _ q fun z=>z)];exact q,fun b u xs q=>by rw[Yx (hm b _ q fun z=>z)];exact q,fun b ps q=>⟨#[],by rw[Yx (hm b _ q fun z=>z),q];simp⟩⟩
 by_cases hbe:b=e
 ·subst hbe;exact heo
 ·exact⟨u,k b u hbe q⟩
theorem Un.mono (u:Un fs ex H H1 h h1) (hs:∀ b∈fs,b∈fs') (hx:∀ b∈ex,b∈ex'):Un fs' ex' H H1 h h1 :=
 ⟨fun b ob q n hb he=>u.keep b ob q n (fun z=>hb (hs b z)) fun z=>he (hx b z),fun _ _ q n _ he=>u.any q n fun z=>he (hx _ z),fun b ob q n he=>u.free b ob q n fun z=>he (hx b z),fun b ob q he=>u.there b ob q fun z=>he (hx b z),u.tups,u.frzs,u.tbls⟩
end
noncomputable def trk (h:Heap) (H:Hp):List Addr:=(List.range h.objs.size).filter fun a=>(H a).isSome
noncomputable def hidT (h:Heap) (H:Hp):Heap:=hideAll h (trk h H)
theorem BQ (h:Heap) (H:Hp):(hidT h H).objs.size=h.objs.size:=PySem.W.hideAll_size _ _
theorem Ec (e:h.get? b=some o) (n:H b=none):(hidT h H).get? b=some o :=
 PySem.W.hideAll_get _ e fun hm=>by
  have q:(H b).isSome=true:=(List.mem_filter.mp hm).2;rw[n] at q;simp at q
theorem Fu (e:(hidT h H).get? b=some o):h.get? b=some o/\H b=none:=by
 have e':h.get? b=some o:=PySem.W.of_hideAll (trk h H) e;refine⟨e',?_⟩;cases q:H b with
 | none=>rfl
 | some x =>
  have hm:b∈trk h H:=List.mem_filter.mpr ⟨List.mem_range.mpr (Heap.lt_size e'),by simp[q]⟩;have z:(hidT h H).get? b=none:=PySem.W.hideAll_none (trk h H) hm;rw[z] at e;cases e
noncomputable def Gk (g h:Heap) (L:Addr):List (Addr×Obj):=(List.range h.objs.size).filterMap fun a=>if a=L\/(g.get? a).isSome=true then none else (h.get? a).map fun o=>(a,o)
noncomputable def rest (g h:Heap) (L d:Addr):List (Addr×Obj):=(Gk g h L).filter fun p=>decide (p.1≠d)
end L2
namespace L2
open PySem PySem.Spec PyProof.Rows
structure Mod (K:Frag) (mg:Str->Option Value) (base:Heap):Prop where
 kin:K.In base
 glob:base.Ns mainGlobals mg
 blt:∃ mb,base.Ns builtinsNs mb/\∀ x:Str,x≠"__name__"->mb x=bootBuiltins x
 nolimit:base.NoLimit
structure Cx where
 prog:Program
 w:World
 K:Frag
 mg:Str->Option Value
 base:Heap
 A:Around
 N:List Str
 s₀:Shared
 H₀:Hp
 env:Env
 outer:List Env
 stack:List Env
 ex:List Addr
 fn:Str->Bool
 calm:Bool
 pn:List (Addr×Obj)
 xe:Value->Shared->Prop
noncomputable def frs (l:List Env):List Addr:=l.filterMap (·.frame)
abbrev Cx.fs (X:Cx):List Addr:=frs X.outer
noncomputable def Vis (sc:Scope) (x:Str):Prop:=sc.names.lookup x=some .local\/sc.names.lookup x=some .cell\/sc.names.lookup x=some .free
noncomputable def Loc (sc:Scope) (x:Str):Prop:=sc.names.lookup x=some .local\/sc.names.lookup x=some .cell
noncomputable def Look (env:Env) (h:Heap) (m:Str->Option Value) (x:Str) (u:Value):Prop :=
 (env.kindOf x=some .local/\m x=some u)\/((env.kindOf x=some .cell\/env.kindOf x=some .free)/\∃ c,env.cells.lookup x=some c/\h.IsCell c (some u))
structure Cx.Ok (X:Cx):Prop where
 mod:Mod X.K X.mg X.base
 kind:X.env.scope.kind=.function
 glob:X.env.globals=mainGlobals
 blt:X.env.builtins=builtinsNs
 above:X.s₀.heap.objs.size<=X.env.locals
 inj:∀ x y c,X.env.cells.lookup x=some c->X.env.cells.lookup y=some c->x=y
 has:∀ x,(X.env.kindOf x=some .cell\/X.env.kindOf x=some .free)->∃ c,X.env.cells.lookup x=some c
 cab:∀ x c,X.fn x=true->X.env.cells.lookup x=some c->X.s₀.heap.objs.size<=c
 hd:X.calm=true->X.A.handled=none
 frames:X.A.frames=some X.stack
 stk:X.stack=X.outer\/(X.stack=X.env::X.outer/\X.env.frame=some X.env.locals)
 exf:∀ b∈X.ex,b≠X.env.locals/\∀ x c,X.env.cells.lookup x=some c->c≠b
 bs:∀ b o,X.base.get? b=some o->X.s₀.heap.get? b=some o/\X.H₀ b=none
 bsz:X.base.objs.size<=X.s₀.heap.objs.size
 noex:∀ b o,X.base.get? b=some o->b ∉ X.ex
 exfs:∀ b∈X.ex,b ∉ X.fs
 funs:X.s₀.heap.FunFrames X.base X.outer
 frf:∀ b∈X.fs,X.H₀ b=none
structure Inv (X:Cx) (pins:List (Addr×Obj)) (σ:List (Option V)) (H:Hp) (s:Shared):Prop where
 ok:X.Ok
 os:s.os=X.s₀.os
 bare:AllBare s.gens
 base:Un X.fs X.ex X.H₀ H X.s₀.heap s.heap
 loc:∃ m,s.heap.Ns X.env.locals m/\∀ (i:Nat) (x:Str) (v:V),X.N[i]?=some x->σ[i]?=some (some v)->Vis X.env.scope x->∃ u,RelV v u/\Look X.env s.heap m x u
 cell:∀ x c,X.env.cells.lookup x=some c->∃ v,s.heap.IsCell c v
 free:H X.env.locals=none
 freeC:∀ x c,X.env.cells.lookup x=some c->H c=none
 pin:∀ p∈X.pn++pins,s.heap.get? p.1=some p.2/\H p.1=none/\p.1≠X.env.locals/\p.1 ∉ X.fs/\∀ v,p.2.data≠.cell v
 hok:HOk X.prog X.w H s.heap
 len:σ.length=X.N.length
section
variable {X:Cx} {pins:List (Addr×Obj)} {σ:List (Option V)} {H H':Hp} {s:Shared} {h':Heap}
theorem Cx.Ok.nofr (ok:X.Ok) (e:X.base.get? b=some o):b ∉ X.fs:=fun hb=>by
 have:=(ok.funs.mem hb).1;rw[e] at this;cases this
theorem Inv.bs (I:Inv X pins σ H s):∀ b o,X.base.get? b=some o->s.heap.get? b=some o/\H b=none:=fun b o e =>
 ⟨I.base.keep b o (I.ok.bs b o e).1 (I.ok.bs b o e).2 (I.ok.nofr e) (I.ok.noex b o e),I.base.free b o (I.ok.bs b o e).1 (I.ok.bs b o e).2 (I.ok.noex b o e)⟩
theorem Inv.bk (I:Inv X pins σ H s):∀ b o,X.base.get? b=some o->s.heap.get? b=some o:=fun b o e=>(I.bs b o e).1
theorem Inv.mod (I:Inv X pins σ H s):Mod X.K X.mg X.base:=I.ok.mod
theorem Inv.kIn (I:Inv X pins σ H s):X.K.In s.heap:=I.ok.mod.kin.keeps I.bk
theorem Inv.lt (I:Inv X pins σ H s):X.env.locals<s.heap.objs.size:=let ⟨_,hn,_⟩:=I.loc;hn.lt
theorem Inv.sz (I:Inv X pins σ H s):X.s₀.heap.objs.size<=s.heap.objs.size:=Nat.le_trans I.ok.above (Nat.le_of_lt I.lt)
theorem Inv.nofs (I:Inv X pins σ H s) (h:s.heap.objs.size<=a):a ∉ X.fs:=fun hb=>by
 obtain⟨_,o,ho,_⟩:=I.ok.funs.mem hb;exact absurd (Nat.lt_of_lt_of_le (Heap.lt_size ho) (Nat.le_trans I.sz h)) (Nat.lt_irrefl _)
theorem Inv.cne (I:Inv X pins σ H s):∀ x c,X.env.cells.lookup x=some c->c≠X.env.locals:=fun x c e z=>by
 obtain⟨v,o,ho,hd⟩:=I.cell x c e;obtain⟨m,⟨o',es,ep,ho',hd',_⟩,_⟩:=I.loc;rw[z,ho'] at ho;cases ho;rw[hd'] at hd;cases hd
theorem Inv.funs (I:Inv X pins σ H s):s.heap.FunFrames X.base X.outer:=by
 have all:∀ (l:List Env),(∀ b∈frs l,b∈X.fs)->X.s₀.heap.FunFrames X.base l->s.heap.FunFrames X.base l:=by
  intro l
  induction l with
  | nil=>intro _ _;trivial
  | cons env r ih =>
   intro hs hl;obtain⟨hk,⟨L,o,hf,hn,ho,hd⟩,hr⟩:=hl;have hL:L∈X.fs:=hs L (by unfold frs;rw[List.filterMap_cons,hf];exact List.mem_cons_self);obtain⟨sl,e⟩:=I.base.slot L o ho (I.ok.frf L hL) hL fun z=>I.ok.exfs L z hL;exact⟨hk,⟨L,_,hf,hn,e,hd⟩,ih (fun b hb=>hs b (by unfold frs;rw[List.filterMap_cons,hf];exact List.mem_cons_of_mem _ hb)) hr⟩
 exact all X.outer (fun _ hb=>hb) I.ok.funs
theorem Inv.stack (I:Inv X pins σ H s):s.heap.FunFrames X.base X.stack:=by
 rcases I.ok.stk with e|⟨e,hf⟩
 ·rw[e];exact I.funs
 ·rw[e]
  obtain⟨m,hn,_⟩:=I.loc;refine .cons (by rw[I.ok.kind];decide) hf hn ?_ I.funs;exact Heap.get?_none_of_le (Nat.le_trans I.ok.bsz I.ok.above)
theorem Inv.stkSub (I:Inv X pins σ H s):∀ b∈frs X.stack,b∈X.env.locals::X.fs:=fun b hb=>by
 rcases I.ok.stk with e|⟨e,hf⟩
 ·rw[e] at hb;exact List.mem_cons_of_mem _ hb
 ·rw[e] at hb
  unfold frs at hb;rw[List.filterMap_cons,hf] at hb;exact hb
theorem Inv.stkFree (I:Inv X pins σ H s):∀ b∈frs X.stack,H b=none:=fun b hb=>by
 rcases List.mem_cons.mp (I.stkSub b hb) with e|hb
 ·rw[e];exact I.free
 ·obtain⟨_,o,ho,_⟩:=I.ok.funs.mem hb
  exact I.base.free b o ho (I.ok.frf b hb) fun z=>I.ok.exfs b z hb
theorem Inv.step {g':Array GenState} {t':Nat} {d':Drawn} {ch:List Addr} (I:Inv X pins σ H s)
  (hch:∀ b∈ch,(b∈X.ex\/X.s₀.heap.objs.size<=b)/\b≠X.env.locals/\(∀ x c,X.env.cells.lookup x=some c->c≠b)/\∀ p∈X.pn++pins,p.1≠b)
  (keep:∀ b o,b≠X.env.locals->b ∉ X.fs->b ∉ ch->s.heap.get? b=some o->H b=none->h'.get? b=some o)
  (slot:∀ b o,b≠X.env.locals->b∈X.fs->b ∉ ch->s.heap.get? b=some o->H b=none->∃ sl,h'.get? b=some {o with slots:=sl}) (free:∀ b o,b ∉ ch->s.heap.get? b=some o->H b=none->H' b=none)
  (there:∀ b o,b ∉ ch->s.heap.get? b=some o->∃ o',h'.get? b=some o')
  (tups:∀ b xs,H b=some (.tup xs)->H' b=some (.tup xs)) (frzs:∀ b o u,H b=some (.frz o u)->H' b=some (.frz o u)) (tbls:∀ b ps,H b=some (.tbl ps)->∃ more,H' b=some (.tbl (ps++more)))
  (ns:∀ m,s.heap.Ns X.env.locals m->h'.Ns X.env.locals m) (hok:HOk X.prog X.w H' h') (hg:AllBare g') :
  Inv X pins σ H' {s with heap:=h',gens:=g',drawn:=d',toks:=t'}:=by
 have neL:∀ b o,X.s₀.heap.get? b=some o->b≠X.env.locals:=fun b o e=>Nat.ne_of_lt (Nat.lt_of_lt_of_le (Heap.lt_size e) I.ok.above);have neC:∀ b o,X.s₀.heap.get? b=some o->b ∉ X.ex->b ∉ ch:=fun b o e hx hb=>by
  rcases (hch b hb).1 with z|z
  ·exact hx z
  ·exact absurd (Nat.lt_of_lt_of_le (Heap.lt_size e) z) (Nat.lt_irrefl _)
 have cellK:∀ x c,X.env.cells.lookup x=some c->∀ v,s.heap.IsCell c v->h'.IsCell c v:=fun x c e v ⟨o,ho,hd⟩=>by
  have nch:c ∉ ch:=fun z=>(hch c z).2.2.1 x c e rfl;by_cases hc:c∈X.fs
  ·obtain⟨sl,q⟩:=slot c o (I.cne x c e) hc nch ho (I.freeC x c e)
   exact⟨_,q,hd⟩
  ·exact⟨o,keep c o (I.cne x c e) hc nch ho (I.freeC x c e),hd⟩
 refine⟨I.ok,I.os,hg,⟨fun b o e n hb hx=>?_,fun b o e n hb hx=>?_,fun b o e n hx=>?_,fun b o e hx=>?_,fun b xs e=>tups b xs (I.base.tups b xs e),fun b o xs e=>frzs b o xs (I.base.frzs b o xs e),fun b ps e=>?_⟩,?_,fun x c e=>?_,?_,fun x c e=>?_,fun p hp=>?_,hok,I.len⟩
 ·exact keep b o (neL b o e) hb (neC b o e hx) (I.base.keep b o e n hb hx) (I.base.free b o e n hx)
 ·obtain⟨sl,e1⟩:=I.base.slot b o e n hb hx
  obtain⟨sl',e2⟩:=slot b _ (neL b o e) hb (neC b o e hx) e1 (I.base.free b o e n hx);exact⟨sl',e2⟩
 ·obtain⟨o',e1⟩:=I.base.there b o e hx
  exact free b o' (neC b o e hx) e1 (I.base.free b o e n hx)
 ·obtain⟨o',e1⟩:=I.base.there b o e hx
  exact there b o' (neC b o e hx) e1
 ·obtain⟨m1,e1⟩:=I.base.tbls b ps e
  obtain⟨m2,e2⟩:=tbls b _ e1;exact⟨m1++m2,by rw[e2,Array.append_assoc]⟩
 ·obtain⟨m,hn,hl⟩:=I.loc
  refine⟨m,ns m hn,fun i x v e1 e2 e3=>?_⟩;obtain⟨u,r,l⟩:=hl i x v e1 e2 e3;refine⟨u,r,?_⟩;rcases l with l|⟨k,c,e,z⟩
  ·exact .inl l
  ·exact .inr ⟨k,c,e,cellK x c e _ z⟩
 ·obtain⟨v,z⟩:=I.cell x c e
  exact⟨v,cellK x c e v z⟩
 ·obtain⟨m,⟨o,_,_,ho,_⟩,_⟩:=I.loc
  exact free _ o (fun z=>(hch _ z).2.1 rfl) ho I.free
 ·obtain⟨v,o,ho,hd⟩:=I.cell x c e
  exact free c o (fun z=>(hch c z).2.2.1 x c e rfl) ho (I.freeC x c e)
 ·obtain⟨e,n,ne,nf,d⟩:=I.pin p hp
  have nch:p.1 ∉ ch:=fun z=>(hch p.1 z).2.2.2 p hp rfl;exact⟨keep p.1 p.2 ne nf nch e n,free p.1 p.2 nch e n,ne,nf,d⟩
theorem Inv.un {t':Nat} (I:Inv X pins σ H s) (u:Un X.fs [] H H' s.heap h') (hok:HOk X.prog X.w H' h'):Inv X pins σ H' {s with heap:=h',toks:=t'}:=by
 obtain⟨m,⟨o,es,ep,ho,r⟩,_⟩:=id I.loc;obtain⟨sl,hL⟩:=u.any ho I.free (by simp);exact I.step (g':=s.gens) (d':=s.drawn) (ch:=[]) (fun _ z=>nomatch z) (fun b o _ hb _ e n=>u.keep b o e n hb (by simp)) (fun b o _ hb _ e n=>u.slot b o e n hb (by simp)) (fun b o _ e n=>u.free b o e n (by simp)) (fun b o _ e=>u.there b o e (by simp)) u.tups u.frzs u.tbls (fun m' hm=>by
  obtain⟨o',es',ep',ho',r'⟩:=hm;rw[ho] at ho';cases ho';exact⟨_,es',ep',hL,r'⟩) hok I.bare
theorem Inv.call {g':Array GenState} {t':Nat} {d':Drawn} {ch:List Addr} (I:Inv X pins σ H s) (u:Un (frs X.stack) ch H H' s.heap h') (hok:HOk X.prog X.w H' h') (hg:AllBare g')
  (hch:∀ b∈ch,(b∈X.ex\/X.s₀.heap.objs.size<=b)/\b≠X.env.locals/\(∀ x c,X.env.cells.lookup x=some c->c≠b)/\∀ p∈X.pn++pins,p.1≠b) :
  Inv X pins σ H' {s with heap:=h',gens:=g',drawn:=d',toks:=t'}:=by
 obtain⟨m,⟨o,es,ep,ho,r⟩,_⟩:=id I.loc;obtain⟨sl,hL⟩:=u.any ho I.free fun z=>(hch _ z).2.1 rfl;exact I.step (ch:=ch) hch (fun b o hL hb hc e n=>u.keep b o e n (fun z=>(List.mem_cons.mp (I.stkSub b z)).elim hL hb) hc) (fun b o _ _ hc e n=>u.any e n hc) (fun b o hc e n=>u.free b o e n hc) (fun b o hc e=>u.there b o e hc) u.tups u.frzs u.tbls (fun m' hm=>by
  obtain⟨o',es',ep',ho',r'⟩:=hm;rw[ho] at ho';cases ho';exact⟨_,es',ep',hL,r'⟩) hok hg
theorem Inv.turned {t':Nat} {it:Addr} (I:Inv X pins σ H s) (k:∀ b o,b≠it->s.heap.get? b=some o->h'.get? b=some o) (hn:H it=none) (hL:it≠X.env.locals)
  (h1:it∈X.ex\/X.s₀.heap.objs.size<=it) (h2:∀ x c,X.env.cells.lookup x=some c->c≠it) (h3:∀ p∈X.pn++pins,p.1≠it):Inv X pins σ H {s with heap:=h',toks:=t'}:=by
 have nit:∀ b u,H b=some u->b≠it:=fun b u e z=>by rw[z,hn] at e;cases e
 refine I.step (g':=s.gens) (d':=s.drawn) (ch:=[it]) (fun b hb=>?_) (fun b o _ _ hc e _=>k b o (fun z=>hc (by simp[z])) e) (fun b o _ _ hc e _=>⟨o.slots,k b o (fun z=>hc (by simp[z])) e⟩) (fun _ _ _ _ n=>n)
  (fun b o hc e=>⟨o,k b o (fun z=>hc (by simp[z])) e⟩) (fun _ _ e=>e) (fun _ _ _ e=>e) (fun b ps e=>⟨#[],by rw[e];simp⟩) (fun m hm=>?_) (fun b u e=>?_) I.bare
 ·have e:b=it:=by simpa using hb
  subst e;exact⟨h1,hL,h2,h3⟩
 ·obtain⟨o,es,ep,ho,r⟩:=hm
  exact⟨o,es,ep,k _ o (Ne.symm hL) ho,r⟩
 ·refine (I.hok b u e).stay (fun c v hc q=>k c v ?_ q) (fun _ q=>q) fun _ _ q=>q
  rcases hc with z|z
  ·rw[z];exact nit b u e
  ·exact nit c _ z
theorem Inv.tok (I:Inv X pins σ H s) (t:Nat):Inv X pins σ H {s with toks:=t}:=I.un (h':=s.heap) (t':=t) Un.refl I.hok
theorem Inv.kept (I:Inv X pins σ H s) (k:∀ b u,s.heap.get? b=some u->h'.get? b=some u):Inv X pins σ H {s with heap:=h',toks:=t'}:=I.un (Un.kept k) (I.hok.kept k)
theorem Inv.laid (I:Inv X pins σ H s) (k:∀ b u,s.heap.get? b=some u->h'.get? b=some u) (hp:s.heap.objs.size<=a) (new:ObjOk X.prog X.w (upd H a o) h' a o) :
  Inv X pins σ (upd H a o) {s with heap:=h',toks:=t'}:=I.un (Un.laid k hp (I.hok.fresh hp)) (I.hok.laid k hp new)
theorem Inv.write (I:Inv X pins σ H s) (mu:Mut (H x)) (he:e=x\/H e=some (.own x)) (k:∀ b u,b≠e->s.heap.get? b=some u->h'.get? b=some u) (heo:∃ u,h'.get? e=some u)
  (new:ObjOk X.prog X.w (upd H x o) h' x o):Inv X pins σ (upd H x o) {s with heap:=h',toks:=t'}:=I.un (Un.write mu he k heo) (I.hok.write mu he k heo new)
theorem Inv.pins_of (I:Inv X pins σ H s) (h:∀ p∈pins',s.heap.get? p.1=some p.2/\H p.1=none/\p.1≠X.env.locals/\p.1 ∉ X.fs/\∀ v,p.2.data≠.cell v):Inv X pins' σ H s :=
 ⟨I.ok,I.os,I.bare,I.base,I.loc,I.cell,I.free,I.freeC,fun p hp=>(List.mem_append.mp hp).elim (fun z=>I.pin p (List.mem_append_left _ z)) (h p),I.hok,I.len⟩
theorem VN {N:List Str} (hN:N.Nodup) {i j:Nat} {x:Str} (a:N[i]?=some x) (b:N[j]?=some x):i=j:=by
 obtain⟨h1,e1⟩:=List.getElem?_eq_some_iff.mp a;obtain⟨h2,e2⟩:=List.getElem?_eq_some_iff.mp b;exact (List.getElem_inj hN).mp (e1.trans e2.symm)
theorem BC {M:Model} {A:Around} {E:Value->Shared->Prop} {i:Nat} {x:Str} {v:V} {u:Value} {Q:Unit->Shared->Prop} (I:Inv X pins σ H s) (hN:X.N.Nodup) (hi:X.N[i]?=some x) (hx:Loc X.env.scope x) (r:RelV v u)
  (h:∀ s',Inv X pins (σ.set i (some v)) H s'->(∃ a,Heap.SameBut a s.heap s'.heap/\(a=X.env.locals\/X.env.cells.lookup x=some a))->Q () s') (hf:X.fn x=true\/X.env.scope.names.lookup x=some .local:=by first|exact .inl rfl|exact .inr rfl|assumption):wpAny M A (storeName X.env x u) Q E s:=by
 obtain⟨m,hn,hl⟩:=id I.loc;have hcls:(X.env.scope.kind==.class || (X.env.scope.kind==.module&&X.env.locals != X.env.globals))=false:=by rw[I.ok.kind];rfl
 have hiσ:i < σ.length:=by rw[I.len];exact (List.getElem?_eq_some_iff.mp hi).1
 have cne:=I.cne;have tracked:∀ {a:Addr} {h':Heap},(∃ o,s.heap.get? a=some o/\H a=none)->Heap.SameBut a s.heap h'->HOk X.prog X.w H h':=fun {a h'} ha hs b ob e=>by
  obtain⟨_,_,hfree⟩:=ha;refine (I.hok b ob e).stay (fun c w' hc q=>(hs.2 c ?_).trans q) (fun _ q=>q) fun _ _ q=>q;rintro rfl;rcases hc with rfl|hc
  ·rw[hfree] at e;cases e
  ·rw[hfree] at hc;cases hc
 rcases hx with hk|hk
 ·refine wpAny_storeName_local hk hn (fun h' hn' hs=>?_) hcls
  obtain⟨oL,_,_,hoL,_⟩:=id hn;refine h _ ⟨I.ok,I.os,I.bare,⟨fun b o e n hb hx=>?_,fun b o e n hb hx=>?_,I.base.free,fun b o e hx=>?_,I.base.tups,I.base.frzs,I.base.tbls⟩,⟨_,hn',fun j y v' e1 e2 e3=>?_⟩,fun y c e=>?_,I.free,I.freeC,fun p hp=>?_,tracked ⟨oL,hoL,I.free⟩ hs,by simpa using I.len⟩ ⟨_,hs,.inl rfl⟩
  ·exact (hs.2 b (Nat.ne_of_lt (Nat.lt_of_lt_of_le (Heap.lt_size e) I.ok.above))).trans (I.base.keep b o e n hb hx)
  ·obtain⟨sl,e1⟩:=I.base.slot b o e n hb hx
   exact⟨sl,(hs.2 b (Nat.ne_of_lt (Nat.lt_of_lt_of_le (Heap.lt_size e) I.ok.above))).trans e1⟩
  ·obtain⟨o',e1⟩:=I.base.there b o e hx
   exact⟨o',(hs.2 b (Nat.ne_of_lt (Nat.lt_of_lt_of_le (Heap.lt_size e) I.ok.above))).trans e1⟩
  ·by_cases hj:j=i
   ·subst hj
    rw[hi] at e1;cases e1;rw[List.getElem?_set_self hiσ] at e2;cases e2;exact⟨u,r,.inl ⟨hk,by simp⟩⟩
   ·rw[List.getElem?_set_ne (Ne.symm hj)] at e2
    obtain⟨u',r',q⟩:=hl j y v' e1 e2 e3;refine⟨u',r',?_⟩;rcases q with ⟨k,e⟩|⟨k,c,e,z⟩
    ·refine .inl ⟨k,?_⟩
     have:y≠x:=fun e=>hj (VN hN e1 (e ▸ hi));simp[this,e]
    ·exact .inr ⟨k,c,e,z.sameBut hs (cne y c e)⟩
  ·obtain⟨w',z⟩:=I.cell y c e
   exact⟨w',z.sameBut hs (cne y c e)⟩
  ·obtain⟨e,n,ne,nf,d⟩:=I.pin p hp
   exact⟨(hs.2 p.1 ne).trans e,n,ne,nf,d⟩
 ·have hfn:X.fn x=true:=by
   rcases hf with z|z
   ·exact z
   ·rw[z] at hk;cases hk
  obtain⟨c,hc⟩:=I.ok.has x (.inl hk);obtain⟨w',z⟩:=I.cell x c hc;refine wpAny_storeName_cell I.ok.kind hk hc z (fun h' hc' hs=>?_);obtain⟨oc,hoc,hocd⟩:=id z;refine h {s with heap:=h'} ⟨I.ok,I.os,I.bare,⟨fun b o e n hb hx=>?_,fun b o e n hb hx=>?_,I.base.free,fun b o e hx=>?_,I.base.tups,I.base.frzs,I.base.tbls⟩,⟨m,hn.sameBut hs (Ne.symm (cne x c hc)),fun j y v' e1 e2 e3=>?_⟩,fun y c' e=>?_,I.free,I.freeC,fun p hp=>?_,tracked ⟨oc,hoc,I.freeC x c hc⟩ hs,by simpa using I.len⟩ ⟨c,hs,.inr hc⟩
  ·exact (hs.2 b (Nat.ne_of_lt (Nat.lt_of_lt_of_le (Heap.lt_size e) (I.ok.cab x c hfn hc)))).trans (I.base.keep b o e n hb hx)
  ·obtain⟨sl,e1⟩:=I.base.slot b o e n hb hx
   exact⟨sl,(hs.2 b (Nat.ne_of_lt (Nat.lt_of_lt_of_le (Heap.lt_size e) (I.ok.cab x c hfn hc)))).trans e1⟩
  ·obtain⟨o',e1⟩:=I.base.there b o e hx
   exact⟨o',(hs.2 b (Nat.ne_of_lt (Nat.lt_of_lt_of_le (Heap.lt_size e) (I.ok.cab x c hfn hc)))).trans e1⟩
  ·by_cases hj:j=i
   ·subst hj
    rw[hi] at e1;cases e1;rw[List.getElem?_set_self hiσ] at e2;cases e2;exact⟨u,r,.inr ⟨.inl hk,c,hc,hc'⟩⟩
   ·rw[List.getElem?_set_ne (Ne.symm hj)] at e2
    obtain⟨u',r',q⟩:=hl j y v' e1 e2 e3;refine⟨u',r',?_⟩;rcases q with q|⟨k,c',e,z'⟩
    ·exact .inl q
    ·refine .inr ⟨k,c',e,z'.sameBut hs ?_⟩
     rintro rfl;exact hj (VN hN e1 (I.ok.inj _ _ _ e hc ▸ hi))
  ·by_cases hcc:c'=c
   ·subst hcc;exact⟨_,hc'⟩
   ·obtain⟨w2,z2⟩:=I.cell y c' e
    exact⟨w2,z2.sameBut hs hcc⟩
  ·obtain⟨e,n,ne,nf,d⟩:=I.pin p hp
   refine⟨(hs.2 p.1 ?_).trans e,n,ne,nf,d⟩;intro q;rw[q,hoc] at e;have q':oc=p.2:=Option.some.inj e;exact d w' (by rw[<- q'];exact hocd)
theorem Xx (I:Inv X pins σ H s) (hN:X.N.Nodup) (hi:X.N[i]?=some x) (hx:Loc X.env.scope x) (r:RelV v u)
  (h:∀ s',Inv X pins (σ.set i (some v)) H s'->Q () s') (hf:X.fn x=true\/X.env.scope.names.lookup x=some .local:=by first|exact .inl rfl|exact .inr rfl|assumption):wpAny M A (storeName X.env x u) Q E s :=
 BC I hN hi hx r (fun s' I' _=>h s' I') hf
theorem Inv.call' (I:Inv X pins σ H s) (ho:s'.os=s.os) (u:Un (frs X.stack) ch H H' s.heap s'.heap) (hok:HOk X.prog X.w H' s'.heap) (hg:AllBare s'.gens)
  (hch:∀ b∈ch,(b∈X.ex\/X.s₀.heap.objs.size<=b)/\b≠X.env.locals/\(∀ x c,X.env.cells.lookup x=some c->c≠b)/\∀ p∈X.pn++pins,p.1≠b):Inv X pins σ H' s':=by
 obtain⟨h',g',d',t',o'⟩:=s';have e:o'=s.os:=ho;subst e;exact I.call (g':=g') (t':=t') (d':=d') u hok hg hch
end
abbrev XK:=Value->Option Addr->Hp->Prop
abbrev St:=List (Option V)
abbrev VK:=V->Hp->Prop
abbrev TE:=St->Hp->VK->Prop
abbrev TT:=St->Hp->(Bool->Hp->Prop)->Prop
abbrev TA:=St->Hp->(List V->Hp->Prop)->Prop
structure Ends where
 nx:St->Hp->Prop
 rt:VK
 bk:St->Hp->Prop:=fun _ _=>False
 ct:St->Hp->Prop:=fun _ _=>False
abbrev TS:=Ends->St->Hp->Prop
noncomputable def EP (X:Cx) (pins:List (Addr×Obj)) (σ:St) (Q:VK) (u:Value) (s':Shared):Prop:=∃ v H',Inv X pins σ H' s'/\RelV v u/\Q v H'
noncomputable def TP (X:Cx) (pins:List (Addr×Obj)) (σ:St) (Q:Bool->Hp->Prop) (b:Bool) (s':Shared):Prop:=∃ H',Inv X pins σ H' s'/\Q b H'
noncomputable def AP (X:Cx) (pins:List (Addr×Obj)) (σ:St) (Q:List V->Hp->Prop) (us:List Value) (s':Shared):Prop:=∃ vs H',Inv X pins σ H' s'/\Vals vs us/\Q vs H'
noncomputable def SP (X:Cx) (pins:List (Addr×Obj)) (D:Ends) (f:Flow) (s':Shared):Prop :=
 match f with
 | .next=>∃ σ' H',Inv X pins σ' H' s'/\D.nx σ' H'
 | .brk=>∃ σ' H',Inv X pins σ' H' s'/\D.bk σ' H'
 | .cont=>∃ σ' H',Inv X pins σ' H' s'/\D.ct σ' H'
 | .ret u=>∃ v σ' H',Inv X pins σ' H' s'/\RelV v u/\D.rt v H'
noncomputable def PE (X:Cx) (e:Expr) (t:TE):Prop :=
 ∀ (pins:List (Addr×Obj)) (s:Shared) (σ:St) (H:Hp) (Q:VK),Inv X pins σ H s->t σ H Q->wpAny (model X.prog X.w) X.A (eval e X.env) (EP X pins σ Q) X.xe s
noncomputable def PT (X:Cx) (e:Expr) (t:TT):Prop :=
 ∀ (pins:List (Addr×Obj)) (s:Shared) (σ:St) (H:Hp) (Q:Bool->Hp->Prop),Inv X pins σ H s->t σ H Q->wpAny (model X.prog X.w) X.A (isTrue e X.env (eval e X.env)) (TP X pins σ Q) X.xe s
noncomputable def PW (X:Cx) (e:Expr) (t:TT):Prop :=
 ∀ (whole:Sem Value) (pins:List (Addr×Obj)) (s:Shared) (σ:St) (H:Hp) (Q:Bool->Hp->Prop),Inv X pins σ H s->t σ H Q->wpAny (model X.prog X.w) X.A (isTrue e X.env whole) (TP X pins σ Q) X.xe s
theorem PW.pt (h:PW X e t):PT X e t:=h _
noncomputable def PA (X:Cx) (es:List Expr) (t:TA):Prop :=
 ∀ (pos:Pos) (pins:List (Addr×Obj)) (s:Shared) (σ:St) (H:Hp) (Q:List V->Hp->Prop),Inv X pins σ H s->t σ H Q->wpAny (model X.prog X.w) X.A (spliced (backTo pos (starEach es X.env))) (AP X pins σ Q) X.xe s
noncomputable def PS (X:Cx) (st:Stmt) (t:TS):Prop :=
 ∀ (pins:List (Addr×Obj)) (s:Shared) (σ:St) (H:Hp) (D:Ends),Inv X pins σ H s->t D σ H->wpAny (model X.prog X.w) X.A (exec st X.env) (SP X pins D) X.xe s
noncomputable def PSs (X:Cx) (st:List Stmt) (t:TS):Prop :=
 ∀ (pins:List (Addr×Obj)) (s:Shared) (σ:St) (H:Hp) (D:Ends),Inv X pins σ H s->t D σ H->wpAny (model X.prog X.w) X.A (execs st X.env) (SP X pins D) X.xe s
theorem thn (h:wpAny M A t Q E s) (hQ:∀ a s,Q a s->Q' a s):wpAny M A t Q' E s:=wpAny_mono h hQ fun _ _ x=>x
end L2
namespace L2
open PySem PySem.Spec PyProof.Rows
section
variable {X:Cx}
theorem bin {a b:Expr} {ta tb:TE} (ha:PE X a ta) (hb:PE X b tb) {pins:List (Addr×Obj)} {s:Shared} {σ:St} {H:Hp} {R:V->V->Hp->Prop} (I:Inv X pins σ H s) (h:ta σ H fun x H1=>tb σ H1 fun y H2=>R x y H2)
  {α:Type} {Q:α->Shared->Prop} {f:Value->Value->Sem α}
  (hf:∀ v u s2 x y H2,Inv X pins σ H2 s2->RelV x v->RelV y u->R x y H2->wpAny (model X.prog X.w) X.A (f v u) Q X.xe s2) :
  wpAny (model X.prog X.w) X.A (eval a X.env) (fun v s₁=>wpAny (model X.prog X.w) X.A (eval b X.env) (fun u s₂=>wpAny (model X.prog X.w) X.A (f v u) Q X.xe s₂) X.xe s₁) X.xe s:=by
 refine thn (ha pins s σ H _ I h) fun v s1 hq2=>?_;obtain⟨x,H1,I1,r1,q1⟩:=hq2;refine thn (hb pins s1 σ H1 _ I1 q1) fun u s2 hq2=>?_;obtain⟨y,H2,I2,r2,q2⟩:=hq2;exact hf v u s2 x y H2 I2 r1 r2 q2
noncomputable def tVar (i:Nat):TE:=fun σ H Q=>∃ v,σ[i]?=some (some v)/\Q v H
noncomputable def tC (v:V):TE:=fun _ H Q=>Q v H
theorem Da (hN:X.N[i]?=some x) (hv:Vis X.env.scope x) (hd:(x==("__debug__":Str))=false:=by decide) (hcd:(x==("__classdict__":Str))=false:=by decide):PE X (.Name x pos) (tVar i):=by
 intro pins s σ H Q I h;obtain⟨v,e,h⟩:=h;obtain⟨m,hn,hl⟩:=I.loc;obtain⟨u,r,l⟩:=hl i x v hN e hv;have fin:EP X pins σ Q u s:=⟨v,H,I,r,h⟩;rcases l with ⟨hk,hm⟩|⟨hk,c,hc,hcell⟩
 ·exact wpAny_Name (wpAny_loadName_local I.ok.kind hk hn hm fin) hd
 ·rcases hk with hk|hk
  ·exact wpAny_Name (wpAny_loadName_cell I.ok.kind hk hc hcell fin) hd
  ·exact wpAny_Name (wpAny_loadName_free I.ok.kind hk hc hcell fin hcd) hd
theorem Hy {i j pos}:PE X (.Constant (.int i) j pos) (tC (.int i)):=fun _ _ _ H _ I h=>wpAny_Constant_int ⟨.int i,H,I.tok _,⟨_,rfl⟩,h⟩
theorem Kc {b j pos}:PE X (.Constant (.bool b) j pos) (tC (.bl b)):=fun _ _ _ H _ I h=>Constant_bool ⟨.bl b,H,I,rfl,h⟩
theorem Hw {j pos}:PE X (.Constant .none j pos) (tC .non):=fun _ _ _ H _ I h=>Constant_none ⟨.non,H,I,rfl,h⟩
theorem Ht {x j pos}:PE X (.Constant (.str x) j pos) (tC (.str x)):=fun _ _ _ H _ I h=>Calls.Constant_str ⟨.str x,H,I.tok _,⟨_,rfl⟩,h⟩
noncomputable def Gl (X:Cx) (x:Str):Prop:=X.env.kindOf x=some .globalImplicit
theorem Vo (I:Inv X pins σ H s) (hg:Gl X x) (hm:X.mg x=some u) (h:Q u s)
  (hd:(x==("__debug__":Str))=false:=by decide):wpAny (model X.prog X.w) X.A (eval (.Name x pos) X.env) Q E s :=
 Calls.Name_function_global I.ok.kind hg (Calls.loadGlobal_global (by rw[I.ok.glob];exact I.mod.glob.keeps I.bk) hm h) hd
theorem Wi (I:Inv X pins σ H s) (hg:Gl X x) (hm:X.mg x=none) (hv:bootBuiltins x=some u) (h:Q u s)
  (hn:x≠"__name__":=by decide) (hd:(x==("__debug__":Str))=false:=by decide):wpAny (model X.prog X.w) X.A (eval (.Name x pos) X.env) Q E s:=by
 obtain⟨mb,h1,h2⟩:=I.mod.blt;exact Calls.Name_function_global I.ok.kind hg (Calls.loadGlobal_builtin (by rw[I.ok.glob];exact I.mod.glob.keeps I.bk) hm (by rw[I.ok.blt];exact h1.keeps I.bk) ((h2 x hn).trans hv) h) hd
theorem Fm (hg:Gl X x) (hm:X.mg x=some u) (r:RelV v u) (hd:(x==("__debug__":Str))=false:=by decide):PE X (.Name x pos) (tC v) :=
 fun _ _ _ H _ I h=>Vo I hg hm ⟨v,H,I,r,h⟩ hd
theorem Fo (hg:Gl X x) (hm:X.mg x=none) (hv:bootBuiltins x=some u) (r:RelV v u) (hn:x≠"__name__":=by decide) (hd:(x==("__debug__":Str))=false:=by decide):PE X (.Name x pos) (tC v) :=
 fun _ _ _ H _ I h=>Wi I hg hm hv ⟨v,H,I,r,h⟩ hn hd
variable {a b:Expr} {ta tb:TE} {pos:Pos}
noncomputable def tB (t:TE):TT:=fun σ H Q=>t σ H fun x H1=>∃ c,x=.bl c/\Q c H1
variable {tA tB':TT} {rest:List Expr}
noncomputable def tAnd (t u:TT):TT:=fun σ H Q=>t σ H fun c H1=>if c=true then u σ H1 Q else Q false H1
noncomputable def tOr (t u:TT):TT:=fun σ H Q=>t σ H fun c H1=>if c=true then Q true H1 else u σ H1 Q
noncomputable def tNot (t:TT):TT:=fun σ H Q=>t σ H fun c H1=>Q (!c) H1
theorem Ff (ha:PT X a tA):PW X (.BoolOp .And [a] pos) tA:=by
 intro wh pins s σ H Q I h;refine isTrue_and (thn (ha pins s σ H Q I h) fun c s1 e=>?_);cases c with
 | true=>exact isTrue_and_nil e
 | false=>exact e
theorem Hg (ha:PT X a tA):PW X (.BoolOp .Or [a] pos) tA:=by
 intro wh pins s σ H Q I h;refine isTrue_or (thn (ha pins s σ H Q I h) fun c s1 e=>?_);cases c with
 | false=>exact isTrue_or_nil e
 | true=>exact e
theorem Hh (ha:PT X a tA) (hb:PW X (.BoolOp .And (b::rest) pos) tB'):PW X (.BoolOp .And (a::b::rest) pos) (tAnd tA tB'):=by
 intro wh pins s σ H Q I h;refine isTrue_and (thn (ha pins s σ H _ I h) fun c s1 hq2=>?_);obtain⟨H1,I1,q1⟩:=hq2;cases c with
 | true=>exact hb wh pins s1 σ H1 Q I1 q1
 | false=>exact⟨H1,I1,q1⟩
theorem K5 (ha:PT X a tA) (hb:PW X (.BoolOp .Or (b::rest) pos) tB'):PW X (.BoolOp .Or (a::b::rest) pos) (tOr tA tB'):=by
 intro wh pins s σ H Q I h;refine isTrue_or (thn (ha pins s σ H _ I h) fun c s1 hq2=>?_);obtain⟨H1,I1,q1⟩:=hq2;cases c with
 | true=>exact⟨H1,I1,q1⟩
 | false=>exact hb wh pins s1 σ H1 Q I1 q1
theorem Hi (ha:PT X a tA):PT X (.UnaryOp .Not a pos) (tNot tA):=by
 intro pins s σ H Q I h;exact isTrue_not (ha pins s σ H (fun c H1=>Q (!c) H1) I h)
noncomputable def IX (ta tb:TE):TE:=fun σ H Q=>ta σ H fun x H1=>∃ c,x=.bl c/\if c=true then tb σ H1 Q else Q (.bl false) H1
noncomputable def tOrV (ta tb:TE):TE:=fun σ H Q=>ta σ H fun x H1=>∃ c,x=.bl c/\if c=true then Q (.bl true) H1 else tb σ H1 Q
noncomputable def IT (ta:TE):TE:=fun σ H Q=>ta σ H fun x H1=>∃ c,x=.bl c/\Q (.bl (!c)) H1
theorem Hu {op} (h:PE X a t):PE X (.BoolOp op [a] pos) t:=fun pins s σ H Q I hw=>BoolOp_one (h pins s σ H Q I hw)
theorem Hz (ha:PE X a ta) (hb:PE X (.BoolOp .And (b::rest) pos) tb):PE X (.BoolOp .And (a::b::rest) pos) (IX ta tb):=by
 intro pins s σ H Q I h;refine BoolOp_and (thn (ha pins s σ H _ I h) fun v s1 hq2=>?_);obtain⟨x,H1,I1,r1,q1⟩:=hq2;obtain⟨c,rfl,q1⟩:=q1;cases r1;refine wpAny_truthy_bool ?_;cases c with
 | true=>exact hb pins s1 σ H1 Q I1 q1
 | false=>exact⟨.bl false,H1,I1,rfl,q1⟩
theorem K9 (ha:PE X a ta) (hb:PE X (.BoolOp .Or (b::rest) pos) tb):PE X (.BoolOp .Or (a::b::rest) pos) (tOrV ta tb):=by
 intro pins s σ H Q I h;refine BoolOp_or (thn (ha pins s σ H _ I h) fun v s1 hq2=>?_);obtain⟨x,H1,I1,r1,q1⟩:=hq2;obtain⟨c,rfl,q1⟩:=q1;cases r1;refine wpAny_truthy_bool ?_;cases c with
 | false=>exact hb pins s1 σ H1 Q I1 q1
 | true=>exact⟨.bl true,H1,I1,rfl,q1⟩
theorem Hv (ha:PE X a ta):PE X (.UnaryOp .Not a pos) (IT ta):=by
 intro pins s σ H Q I h;refine UnaryOp_ (thn (ha pins s σ H _ I h) fun v s1 hq2=>?_);obtain⟨x,H1,I1,r1,q1⟩:=hq2;obtain⟨c,rfl,q1⟩:=q1;cases r1;exact not_of (wpAny_truthy_bool ⟨.bl (!c),H1,I1,rfl,q1⟩)
noncomputable def tIf (t:TT) (ta tb:TE):TE:=fun σ H Q=>t σ H fun c H1=>if c=true then ta σ H1 Q else tb σ H1 Q
theorem Dc (hc:PT X c tA) (ha:PE X a ta) (hb:PE X b tb):PE X (.IfExp c a b pos) (tIf tA ta tb):=by
 intro pins s σ H Q I h;refine wpAny_IfExp (thn (hc pins s σ H _ I h) fun d s1 hq2=>?_);obtain⟨H1,I1,q1⟩:=hq2;cases d with
 | true=>exact ha pins s1 σ H1 Q I1 q1
 | false=>exact hb pins s1 σ H1 Q I1 q1
end
end L2
namespace L2
open PySem PySem.Spec PyProof.Rows
noncomputable def SqL (K:Frag) (H:Hp) (a:Addr) (xs:List V):Prop :=
 Rd H a (.lst xs) \/
  ∃ (o:Obj) (its:Array Value) (n:Nat),K.lookup a=some o/\o.cls=.type "list"/\o.dict=none/\o.data=.seq its n/\its.size<=sizeLine/\Vals xs its.toList
noncomputable def SqT (K:Frag) (H:Hp) (a:Addr) (xs:List V):Prop :=
 Rd H a (.tup xs) \/
  ∃ (o:Obj) (its:Array Value) (n:Nat),K.lookup a=some o/\o.cls=.type "tuple"/\o.data=.seq its n/\its.size<=sizeLine/\Vals xs its.toList
noncomputable def absV:Value->Option V
 | .none=>some .non
 | .bool b=>some (.bl b)
 | .int i _=>some (.int i)
 | .str x _=>some (.str x)
 | .bytes b _=>some (.byt b)
 | .float b _=>some (.flt b)
 | .ref a=>some (.ref a)
 | .type n=>some (.ty n)
 | _=>none
theorem RelV.abs (r:RelV x u):absV u=some x:=by
 cases x with
 | non=>cases r;rfl
 | bl _=>cases r;rfl
 | int _=>obtain⟨t,rfl⟩:=r;rfl
 | str _=>obtain⟨t,rfl⟩:=r;rfl
 | byt _=>obtain⟨t,rfl⟩:=r;rfl
 | flt _=>obtain⟨t,rfl⟩:=r;rfl
 | ref _=>cases r;rfl
 | ty _=>cases r;rfl
theorem RelV.inj (r:RelV x u) (q:RelV y u):x=y:=Option.some.inj (r.abs.symm.trans q.abs)
theorem Vals.inj:∀ {xs ys:List V} {us:List Value},Vals xs us->Vals ys us->xs=ys
 | _,_,_,.nil,.nil=>rfl
 | _,_,_,.cons r t,.cons r' t'=>by rw[r.inj r',Vals.inj t t']
section
variable {X:Cx} {pins:List (Addr×Obj)} {σ:St} {H:Hp} {s:Shared} {a:Addr} {xs ys:List V}
theorem SqL.of {K:Frag} (h:H a=some (.lst xs)):SqL K H a xs:=.inl (.inl h)
theorem SqT.of {K:Frag} (h:H a=some (.tup xs)):SqT K H a xs:=.inl (.inl h)
theorem Inv.list (I:Inv X pins σ H s) (h:SqL X.K H a xs):∃ its:List Value,Vals xs its/\PlainL s.heap a its.toArray/\xs.length<=sizeLine:=by
 rcases h with h|⟨o,its,n,hk,hc,hd,hs,hz,r⟩
 ·obtain⟨z,its,n,r,e⟩:=h.ok I.hok
  exact⟨its,r,⟨_,n,e,rfl,rfl,rfl⟩,z⟩
 ·refine⟨its.toList,r,⟨o,n,I.kIn a o hk,hc,hd,by simpa using hs⟩,?_⟩
  have e:=r.length;simp only[Array.length_toList] at e;omega
theorem Inv.tuple (I:Inv X pins σ H s) (h:SqT X.K H a xs):∃ its:List Value,Vals xs its/\IsTup s.heap a its.toArray/\xs.length<=sizeLine:=by
 rcases h with h|⟨o,its,n,hk,hc,hs,hz,r⟩
 ·obtain⟨z,its,r,p⟩:=h.ok I.hok
  exact⟨its,r,p,z⟩
 ·refine⟨its.toList,r,⟨o,I.kIn a o hk,hc,n,by simpa using hs⟩,?_⟩
  have e:=r.length;simp only[Array.length_toList] at e;omega
theorem Inv.list_inj (I:Inv X pins σ H s) (h:SqL X.K H a xs) (h':SqL X.K H a ys):xs=ys:=by
 obtain⟨its,r,⟨o,n,e,_,_,d⟩,_⟩:=I.list h;obtain⟨its',r',⟨o',n',e',_,_,d'⟩,_⟩:=I.list h';rw[e] at e';cases e';rw[d] at d';injection d' with d1 _
 have:its=its':=by simpa using congrArg Array.toList d1
 subst this;exact r.inj r'
theorem Inv.tuple_inj (I:Inv X pins σ H s) (h:SqT X.K H a xs) (h':SqT X.K H a ys):xs=ys:=by
 obtain⟨its,r,⟨o,e,_,n,d⟩,_⟩:=I.tuple h;obtain⟨its',r',⟨o',e',_,n',d'⟩,_⟩:=I.tuple h';rw[e] at e';cases e';rw[d] at d';injection d' with d1 _
 have:its=its':=by simpa using congrArg Array.toList d1
 subst this;exact r.inj r'
end
abbrev Cx.wish (X:Cx) (E:Value->Shared->Prop):Cx:={X with xe:=E}
abbrev Cx.nox (X:Cx):Cx:=X.wish fun _ _=>False
theorem Cx.Ok.wish {X:Cx} (ok:X.Ok) (E:Value->Shared->Prop):(X.wish E).Ok :=
 ⟨ok.mod,ok.kind,ok.glob,ok.blt,ok.above,ok.inj,ok.has,ok.cab,ok.hd,ok.frames,ok.stk,ok.exf,ok.bs,ok.bsz,ok.noex,ok.exfs,ok.funs,ok.frf⟩
theorem Cx.Ok.unwish {X:Cx} {E:Value->Shared->Prop} (ok:(X.wish E).Ok):X.Ok :=
 ⟨ok.mod,ok.kind,ok.glob,ok.blt,ok.above,ok.inj,ok.has,ok.cab,ok.hd,ok.frames,ok.stk,ok.exf,ok.bs,ok.bsz,ok.noex,ok.exfs,ok.funs,ok.frf⟩
section
variable {X:Cx} {pins:List (Addr×Obj)} {σ:St} {H:Hp} {s:Shared} {E:Value->Shared->Prop}
theorem Inv.wish (I:Inv X pins σ H s) (E:Value->Shared->Prop):Inv (X.wish E) pins σ H s:=⟨I.ok.wish E,I.os,I.bare,I.base,I.loc,I.cell,I.free,I.freeC,I.pin,I.hok,I.len⟩
theorem Inv.unwish (I:Inv (X.wish E) pins σ H s):Inv X pins σ H s:=⟨I.ok.unwish,I.os,I.bare,I.base,I.loc,I.cell,I.free,I.freeC,I.pin,I.hok,I.len⟩
theorem SP.unwish (h:SP (X.wish E) pins D f s'):SP X pins D f s':=by
 cases f with
 | next=>obtain⟨σ',H',I,q⟩:=h;exact⟨σ',H',I.unwish,q⟩
 | brk=>obtain⟨σ',H',I,q⟩:=h;exact⟨σ',H',I.unwish,q⟩
 | cont=>obtain⟨σ',H',I,q⟩:=h;exact⟨σ',H',I.unwish,q⟩
 | ret u=>obtain⟨v,σ',H',I,r,q⟩:=h;exact⟨v,σ',H',I.unwish,r,q⟩
theorem PSs.nox {st:List Stmt} {t:TS} (h:PSs X.nox st t):PSs X st t:=fun pins s σ H D I hw =>
 wpAny_mono (h pins s σ H D (I.wish _) hw) (fun _ _ q=>q.unwish) fun _ _ z=>False.elim z
end
section
variable {X:Cx} {st:Stmt} {rest:List Stmt} {t u:TS} {e:Expr} {te:TE} {pos:Pos}
noncomputable def IU:TS:=fun D σ H=>D.nx σ H
noncomputable def tSeq (t u:TS):TS:=fun D σ H=>t {D with nx:=u D} σ H
theorem pss_nil:PSs X [] IU:=fun _ _ σ H _ I h=>wpAny_execs_nil ⟨σ,H,I,h⟩
theorem D2 (h1:PS X st t) (h2:PSs X rest u):PSs X (st::rest) (tSeq t u):=by
 intro pins s σ H D I h;refine wpAny_execs_cons (thn (h1 pins s σ H {D with nx:=u D} I h) fun f s1 q=>?_);cases f with
 | next =>
  obtain⟨σ',H',I',q⟩:=q;exact h2 pins s1 σ' H' D I' q
 | ret v=>exact q
 | brk=>exact q
 | cont=>exact q
theorem Inv.quiet (I:Inv X pins σ H s):interactive X.env=false:=by simp[interactive,I.ok.kind]
noncomputable def IV (te:TE):TS:=fun D σ H=>te σ H fun _ H1=>D.nx σ H1
theorem Fh (he:PE X e te) (hs:swapsWith e none pos.line X.env=pure false:=by rfl):PS X (.Expr e pos) (IV te):=by
 intro pins s σ H D I h;exact wpAny_Expr_any (thn (he pins s σ H _ I h) (by rintro v s1 ⟨x,H1,I1,r1,q1⟩;exact⟨σ,H1,I1,q1⟩)) I.quiet hs
noncomputable def tRet (te:TE):TS:=fun D σ H=>te σ H D.rt
theorem Hk (he:PE X e te):PS X (.Return (some e) pos) (tRet te):=by
 intro pins s σ H D I h;exact wpAny_Return_some (thn (he pins s σ H _ I h) (by rintro v s1 ⟨x,H1,I1,r1,q1⟩;exact⟨x,σ,H1,I1,r1,q1⟩))
noncomputable def tIfS (c:TT) (t u:TS):TS:=fun D σ H=>c σ H fun b H1=>if b=true then t D σ H1 else u D σ H1
theorem K6 (hc:PT X c tc) (ha:PSs X a t) (hb:PSs X b u):PS X (.If c a b pos) (tIfS tc t u):=by
 intro pins s σ H D I h;refine wpAny_If (thn (hc pins s σ H _ I h) fun d s1 hq2=>?_);obtain⟨H1,I1,q1⟩:=hq2;cases d with
 | true=>exact ha pins s1 σ H1 D I1 q1
 | false=>exact hb pins s1 σ H1 D I1 q1
end
abbrev TG:=V->St->Hp->(St->Hp->Prop)->Prop
abbrev TGs:=List V->St->Hp->(St->Hp->Prop)->Prop
noncomputable def PG (X:Cx) (target:Expr) (t:TG):Prop :=
 ∀ (pins:List (Addr×Obj)) (s:Shared) (σ:St) (H:Hp) (v:V) (u:Value) (Q:St->Hp->Prop),Inv X pins σ H s->RelV v u->t v σ H Q ->
  wpAny (model X.prog X.w) X.A (assign target X.env u) (fun _ s'=>∃ σ' H',Inv X pins σ' H' s'/\Q σ' H') X.xe s
noncomputable def PGs (X:Cx) (ts:List Expr) (t:TGs):Prop :=
 ∀ (pins:List (Addr×Obj)) (s:Shared) (σ:St) (H:Hp) (vs:List V) (us:List Value) (Q:St->Hp->Prop),Inv X pins σ H s->Vals vs us->t vs σ H Q ->
  wpAny (model X.prog X.w) X.A (assignInOrder ((assignEach ts X.env).map (·.2)) us) (fun _ s'=>∃ σ' H',Inv X pins σ' H' s'/\Q σ' H') X.xe s
abbrev TSet:=V->V->V->Hp->(Hp->Prop)->Prop
noncomputable def PSet (X:Cx) (t:TSet):Prop :=
 ∀ (pins:List (Addr×Obj)) (s:Shared) (σ:St) (H:Hp) (o i v:V) (ov iv u:Value) (Q:Hp->Prop),Inv X pins σ H s->RelV o ov->RelV i iv->RelV v u->t o i v H Q ->
  wpAny (model X.prog X.w) X.A (setItem ov iv u) (fun _ s'=>∃ H',Inv X pins σ H' s'/\Q H') X.xe s
section
variable {X:Cx} {pos:Pos}
noncomputable def GN (i:Nat):TG:=fun v σ H Q=>Q (σ.set i (some v)) H
theorem Fk (hN:X.N.Nodup) (hi:X.N[i]?=some x) (hx:Loc X.env.scope x) (hf:X.fn x=true\/X.env.scope.names.lookup x=some .local:=by first|exact .inl rfl|exact .inr rfl|assumption):PG X (.Name x pos) (GN i):=by
 intro pins s σ H v u Q I r h;exact wpAny_assign_Name (Xx I hN hi hx r (fun s' I'=>⟨_,H,I',h⟩) hf)
noncomputable def gNil:TGs:=fun vs σ H Q=>vs=[]/\Q σ H
noncomputable def Yo (t:TG) (u:TGs):TGs:=fun vs σ H Q=>∃ v r,vs=v::r/\t v σ H fun σ' H'=>u r σ' H' Q
theorem pgs_nil:PGs X [] gNil:=by
 intro pins s σ H vs us Q I r h;obtain⟨e,h⟩:=h;subst e;cases r;exact assignInOrder_nil ⟨σ,H,I,h⟩
theorem D9 (h1:PG X e t) (h2:PGs X es u)
  (hs:(assignEach (e::es) X.env).map (·.2)=assign e X.env::(assignEach es X.env).map (·.2):=by rfl):PGs X (e::es) (Yo t u):=by
 intro pins s σ H vs us Q I r h;obtain⟨v,vr,e1,h⟩:=h;subst e1;cases r with
 | cons r rr =>
  rw[hs];refine assignInOrder_cons (thn (h1 pins s σ H _ _ _ I r h) fun _ s1 hq2=>?_);obtain⟨σ1,H1,I1,q1⟩:=hq2;exact h2 pins s1 σ1 H1 _ _ Q I1 rr q1
noncomputable def gTup (K:Frag) (n:Nat) (t:TGs):TG:=fun v σ H Q=>∃ a xs,v=.ref a/\SqT K H a xs/\xs.length=n/\t xs σ H Q
theorem Hq (hc:X.calm=true) (h:PGs X es t)
  (hn:(assignEach es X.env).length=n:=by rfl) (hst:(assignEach es X.env).findIdx? (·.1)=none:=by rfl):PG X (.Tuple es k pos) (gTup X.K n t):=by
 intro pins s σ H v u Q I r hw;obtain⟨a,xs,e1,hq,hl,hw⟩:=hw;subst e1;cases r;obtain⟨its,rv,ht,hz⟩:=I.tuple hq;refine assign_Tuple_tuple (I.ok.hd hc) ht (by simp[hn,<- hl,rv.length]) hst fun h' hx=>?_;have I1:Inv X pins σ H {s with heap:=h'}:=I.kept (t':=s.toks) fun b o e=>hx b o (Nat.ne_of_lt (Heap.lt_size e)) e;exact h pins _ σ H xs _ Q I1 (by simpa using rv) hw
noncomputable def gSub (to ti:TE) (t:TSet):TG:=fun v σ H Q=>to σ H fun o H1=>ti σ H1 fun i H2=>t o i v H2 fun H3=>Q σ H3
theorem Hr (ho:PE X o to) (hi:PE X i ti) (hs:PSet X t)
  (ha:∀ v,assign (.Subscript o i pos) X.env v=(do
   let ov <- holding [v] (eval o X.env)
   let iv <- holding [v,ov] (eval i X.env)
   standAt pos
   holding [v,ov,iv] (setItem ov iv v)
   release [v,ov,iv] []):=by intro _;rfl):PG X (.Subscript o i pos) (gSub to ti t):=by
 intro pins s σ H v u Q I r h;rw[ha];refine wpAny_bind (wpAny_holding (thn (ho pins s σ H _ I h) fun ov s1 hq2=>?_));obtain⟨x,H1,I1,r1,q1⟩:=hq2;refine wpAny_bind (wpAny_holding (thn (hi pins s1 σ H1 _ I1 q1) fun iv s2 hq2=>?_));obtain⟨y,H2,I2,r2,q2⟩:=hq2;refine wpAny_bind (wpAny_standAt (wpAny_bind (wpAny_holding (thn (hs pins s2 σ H2 x y v ov iv u _ I2 r1 r2 r q2) fun _ s3 hq2=>?_))));obtain⟨H3,I3,q3⟩:=hq2;exact wpAny_release ⟨σ,H3,I3,q3⟩
noncomputable def tAsg (te:TE) (g:TG):TS:=fun D σ H=>te σ H fun x H1=>g x σ H1 D.nx
theorem Hn (he:PE X e te) (hg:PG X tg g) (hs:swapsWithSole [tg] e pos.line X.env=pure false:=by rfl) (hw:swappedStores [tg] e X.env=pure none:=by rfl)
  (h1:(assignEach [tg] X.env).map (·.2)=[assign tg X.env]:=by rfl):PS X (.Assign [tg] e pos) (tAsg te g):=by
 intro pins s σ H D I h;refine wpAny_Assign_stores (thn (he pins s σ H _ I h) fun v s1 hq2=>?_) hs hw;obtain⟨x,H1,I1,r1,q1⟩:=hq2;rw[h1];exact thn (hg pins s1 σ H1 x v _ I1 r1 q1) fun _ s2 q=>q
theorem Hj (hN:X.N.Nodup) (hi:X.N[i]?=some x) (hx:Loc X.env.scope x) (he:PE X e te) (hs:swapsWith e (some (.Name x pos')) pos.line X.env=pure false:=by rfl) (hf:X.fn x=true\/X.env.scope.names.lookup x=some .local:=by first|exact .inl rfl|exact .inr rfl|assumption) :
  PS X (.Assign [.Name x pos'] e pos) (tAsg te (GN i)):=by
 intro pins s σ H D I h;refine wpAny_Assign_Name (thn (he pins s σ H _ I h) fun v s1 hq2=>?_) hs;obtain⟨y,H1,I1,r1,q1⟩:=hq2;exact Xx I1 hN hi hx r1 (fun s2 I2=>⟨_,H1,I2,q1⟩) hf
noncomputable def tPar (i j:Nat) (ta:TA):TS:=fun D σ H=>ta σ H fun vs H1=>∃ v w,vs=[v,w]/\D.nx ((σ.set i (some v)).set j (some w)) H1
theorem Hl {kt k2 pt2} (hc:X.calm=true) (hN:X.N.Nodup) (hi:X.N[i]?=some x) (hj:X.N[j]?=some y) (hij:i≠j)
  (hx:X.env.scope.names.lookup x=some .local) (hy:X.env.scope.names.lookup y=some .local) (ha:PA X [a,b] ta)
  (hw:swappedStores [.Tuple [.Name x px,.Name y py] kt pt] (.Tuple [a,b] k2 pt2) X.env=pure (some [x,y]))
  (hs:swapsWithSole [.Tuple [.Name x px,.Name y py] kt pt] (.Tuple [a,b] k2 pt2) pos.line X.env=pure false:=by rfl) :
  PS X (.Assign [.Tuple [.Name x px,.Name y py] kt pt] (.Tuple [a,b] k2 pt2) pos) (tPar i j ta):=by
 intro pins s σ H D I h;rw[exec_Assign_arm];refine wpAny_bind (wpAny_standAt ?_);rw[hs];refine wpAny_bind (wpAny_pure ?_);rw[if_neg %[|4]];refine wpAny_bind (Tuple_ (thn (ha _ pins s σ H _ I h) fun us s1 hq2=>?_));obtain⟨vs,H1,I1,r1,q1⟩:=hq2;obtain⟨v,w,e1,q1⟩:=q1;subst e1;obtain⟨u1,u2,rfl,rv,rw'⟩:∃ u1 u2,us=[u1,u2]/\RelV v u1/\RelV w u2:=by
  cases r1 with
  | cons p q =>
   cases q with
   | cons p' q' =>
    cases q';exact⟨_,_,rfl,p,p'⟩
 refine wpAny_newObj_type ?_ (by show 2<=sizeLine;decide);have I2:Inv X pins σ H1 {s1 with heap:=s1.heap.push {cls:=.type "tuple",data:=.seq [u1,u2].toArray}}:=I1.kept (t':=s1.toks) fun b o e=>Heap.get?_push_of_some _ e;rw[hw];refine wpAny_bind (wpAny_pure ?_);show wpAny (model X.prog X.w) X.A (do rule "assign.swapped-stores";let items <- unpackItems (.ref s1.heap.objs.size) 2 none;assignInOrder [fun v=>bindName X.env y v,fun v=>bindName X.env x v] items.reverse;pure Flow.next) _ _ _;refine wpAny_bind (wpAny_rule (wpAny_bind (unpackItems_tuple (items:=#[u1,u2]) (I.ok.hd hc) (IsTup.new s1.heap _) fun h' hx'=>?_)));have I3:=I2.kept (h':=h') (t':=s1.toks) fun b o e=>hx' b o (Nat.ne_of_lt (Heap.lt_size e)) e;show wpAny _ _ (assignInOrder [fun v=>bindName X.env y v,fun v=>bindName X.env x v] [u2,u1] >>= fun _=>pure Flow.next) _ _ _;refine wpAny_bind (assignInOrder_cons (wpAny_bindName (Xx I3 hN hj (.inl hy) rw' (fun s2 I4=>?_) (.inr hy))))
 refine assignInOrder_cons (wpAny_bindName (Xx I4 hN hi (.inl hx) rv (fun s3 I5=>assignInOrder_nil (wpAny_pure ?_)) (.inr hx)));rw[List.set_comm _ _ (Ne.symm hij)] at I5;exact⟨_,H1,I5,q1⟩
end
section
variable {X:Cx} {pos:Pos}
noncomputable def Hb (c:TT) (tb:TS):TS:=fun D σ H=>∃ W:Nat->St->Hp->Prop,(∃ m,W m σ H)/\∀ m σ H,W m σ H ->
 c σ H fun b H1=>if b=true then ∃ N:St->Hp->Prop,(∀ σ' H',N σ' H'->∃ m',m'<m/\W m' σ' H')/\tb {D with nx:=N,ct:=N,bk:=D.nx} σ H1 else D.nx σ H1
theorem D3 (hp:PassesOwn (model X.prog X.w) X.A X.env X.xe) (hc:PT X c tc) (hb:PSs X body tb):PS X (.While c body [] pos) (Hb tc tb):=by
 intro pins s σ H D I h;obtain⟨W,⟨m0,w0⟩,turn⟩:=h;refine wpAny_While (codeAny_whileLoop (fun n s'=>∃ σ' H',Inv X pins σ' H' s'/\W n σ' H') ?_ m0 ⟨σ,H,I,w0⟩);rintro n s1 ⟨σ1,H1,I1,w1⟩;refine wpAny_passesOwn hp (thn (hc pins s1 σ1 H1 _ I1 (turn n σ1 H1 w1)) fun b s2 hq2=>?_);obtain⟨H2,I2,q2⟩:=hq2;cases b with
 | true =>
  obtain⟨N,hN,q2⟩:=q2;rw[if_pos rfl];refine wpAny_passesOwn hp (thn (hb pins s2 σ1 H2 _ I2 q2) fun f s3 q3=>?_);cases f with
  | next =>
   obtain⟨σ3,H3,I3,n3⟩:=q3;obtain⟨m',hm,w3⟩:=hN σ3 H3 n3;exact⟨m',hm,σ3,H3,I3,w3⟩
  | cont =>
   obtain⟨σ3,H3,I3,n3⟩:=q3;obtain⟨m',hm,w3⟩:=hN σ3 H3 n3;exact⟨m',hm,σ3,H3,I3,w3⟩
  | brk=>exact q3
  | ret v=>exact q3
 | false =>
  rw[if_neg Bool.false_ne_true];exact wpAny_execs_nil ⟨σ1,H2,I2,q2⟩
end
structure It where
 go:Nat->Hp->Prop
 yld:Nat->Hp->V->Hp->Prop
 stop:Nat->Hp->Prop
noncomputable def FpOk (X:Cx) (pins:List (Addr×Obj)) (H:Hp) (b:Addr):Prop :=
 H b=none/\b≠X.env.locals/\b ∉ X.fs/\(b∈X.ex\/X.s₀.heap.objs.size<=b)/\(∀ x c,X.env.cells.lookup x=some c->c≠b)/\∀ p∈X.pn++pins,p.1≠b
theorem Inv.fpOk (I:Inv X pins σ H s) (hb:s.heap.objs.size<=b) (hn:H' b=none):FpOk X pins H' b:=by
 refine⟨hn,Nat.ne_of_gt (Nat.lt_of_lt_of_le I.lt hb),I.nofs hb,.inr (Nat.le_trans I.sz hb),fun x c e z=>?_,fun p hp z=>?_⟩
 ·obtain⟨v,q⟩:=I.cell x c e
  exact absurd (Nat.lt_of_lt_of_le q.lt (by rw[z];exact hb)) (Nat.lt_irrefl _)
 ·exact absurd (Nat.lt_of_lt_of_le (Heap.lt_size (I.pin p hp).1) (by rw[z];exact hb)) (Nat.lt_irrefl _)
structure Turn (P:Program) (w:World) (K:Frag) (tg:Expr) (J:It) (fp:List Addr) (it:Addr) (tn:Nat->Heap->Prop):Prop where
 mem:it∈fp
 obj:∀ i h,tn i h->∀ b∈fp,∃ o,h.get? b=some o/\∀ v,o.data≠.cell v
 keep:∀ i h h',tn i h->(∀ b∈fp,∀ o,h.get? b=some o->h'.get? b=some o)->tn i h'
 item:∀ (X:Cx),X.prog=P->X.w=w->X.K=K->X.calm=true->∀ (i:Nat) (pins:List (Addr×Obj)) (s:Shared) (σ:St) (H:Hp) (E:Value->Shared->Prop),Inv X pins σ H s->(∀ b∈fp,FpOk X pins H b)->tn i s.heap->J.go i H ->
  wpAny (model P w) X.A (pyNext (.ref it)) (fun r s1=>∃ u,r=some u /\
   wpAny (model P w) X.A (letOwnedTupleGo tg (.ref it) u) (fun _ s2=>∃ x H',Inv X pins σ H' s2/\RelV x u/\J.yld i H x H'/\tn (i+1) s2.heap/\∀ b∈fp,H' b=none) E s1) E s
 done:∀ (X:Cx),X.prog=P->X.w=w->X.K=K->X.calm=true->∀ (i:Nat) (pins:List (Addr×Obj)) (s:Shared) (σ:St) (H:Hp) (E:Value->Shared->Prop),Inv X pins σ H s->(∀ b∈fp,FpOk X pins H b)->tn i s.heap->J.stop i H ->
  wpAny (model P w) X.A (pyNext (.ref it)) (fun r s1=>r=none/\Inv X pins σ H s1) E s
 self:∀ (A:Around) (i:Nat) (s:Shared) (Q:Value->Shared->Prop) (E:Value->Shared->Prop),tn i s.heap->Q (.ref it) s->wpAny (model P w) A (pyIter (.ref it)) Q E s
abbrev TI:=St->Hp->(It->Hp->Prop)->Prop
noncomputable def PIE (X:Cx) (pins:List (Addr×Obj)) (σ:St) (tg:Expr) (R:It->Hp->Prop) (itv:Value) (s2:Shared):Prop :=
 ∃ (it:Addr) (fp:List Addr) (tn:Nat->Heap->Prop) (J:It) (H':Hp),itv=.ref it/\Inv X pins σ H' s2/\Turn X.prog X.w X.K tg J fp it tn/\tn 0 s2.heap/\(∀ b∈fp,FpOk X pins H' b)/\R J H'
noncomputable def PI (X:Cx) (tg iter:Expr) (wi:TI):Prop :=
 ∀ (pins:List (Addr×Obj)) (s:Shared) (σ:St) (H:Hp) (R:It->Hp->Prop),Inv X pins σ H s->wi σ H R ->
  wpAny (model X.prog X.w) X.A (eval iter X.env) (fun v s1=>wpAny (model X.prog X.w) X.A (pyIter v) (PIE X pins σ tg R) X.xe s1) X.xe s
theorem Bc (ho:s.heap.get? it=some o) (hc:o.cls=.type n) (hd:o.data=.fields vs)
    (hn:["enumerate","zip","dict_itemiterator","dict_reverseitemiterator","odict_iterator","itertools.zip_longest","itertools.pairwise"].contains n=false) (hQ:Q () s):wpAny M A (letOwnedTupleGo tg (.ref it) u) Q E s:=by
  unfold letOwnedTupleGo;cases tg<;>first
    | exact wpAny_pure hQ
    | (cases u<;>first
        | exact wpAny_pure hQ
        | (refine wpAny_bind (wpAny_load ho ?_)
           rw[hc,hd];show wpAny M A (if (["enumerate","zip","dict_itemiterator","dict_reverseitemiterator","odict_iterator","itertools.zip_longest","itertools.pairwise"].contains n&&vs[0]?==some (rawInt _))=true then _ else _) Q E s;rw[if_neg (by intro h;rw[hn,Bool.false_and] at h;cases h)];exact wpAny_pure hQ))
noncomputable def Itl (K:Frag) (a:Addr):It :=
 ⟨fun i H=>∃ xs x,SqL K H a xs/\xs[i]?=some x,fun i H x H'=>H'=H/\∀ xs,SqL K H a xs->xs[i]?=some x,fun i H=>∃ xs,SqL K H a xs/\xs.length<=i⟩
noncomputable def Itt (K:Frag) (a:Addr):It :=
 ⟨fun i H=>∃ xs x,SqT K H a xs/\xs[i]?=some x,fun i H x H'=>H'=H/\∀ xs,SqT K H a xs->xs[i]?=some x,fun i H=>∃ xs,SqT K H a xs/\xs.length<=i⟩
noncomputable def Itr (lo:Int) (n:Nat):It:=⟨fun i _=>i<n,fun i H x H'=>H'=H/\x=.int (lo+i),fun i _=>n<=i⟩
theorem By {P:Program} {w:World} {K:Frag} {tg:Expr} (a it:Addr):Turn P w K tg (Itl K a) [it] it (fun i h=>h.IsListIter it a i) where
 mem:=by simp
 obj:=fun i h st b hb=>by
  have e:b=it:=by simpa using hb
  subst e;obtain⟨o,e,c,d⟩:=st;exact⟨o,e,fun v z=>by rw[d] at z;cases z⟩
 keep:=fun i h h' st k=>st.at fun o e=>k it (by simp) o e
 item:=by
  intro X hP hw hK hc i pins s σ H E I hf st hg;subst hP hw hK;obtain⟨xs,x,hq,hx⟩:=hg;obtain⟨its,rv,p,hz⟩:=I.list hq;obtain⟨u,hu,ru⟩:=rv.get hx;obtain⟨f0,f1,f2,f3,f4,f5⟩:=hf it (by simp);refine wpAny_pyNext_list_item st p.isList (x:=u) (by simpa using hu) fun h' st' sb=>?_;have I1:Inv X pins σ H {s with heap:=h'}:=I.turned (t':=s.toks) (fun b o hb e=>(sb.2 b hb).trans e) f0 f1 f3 f4 f5;obtain⟨o,e,c,d⟩:=id st';exact⟨u,rfl,Bc (s:={s with heap:=h'}) e c d %[|4] ⟨x,H,I1,ru,⟨rfl,fun ys hy=>by rw[I.list_inj hy hq];exact hx⟩,st',fun b hb=>(hf b hb).1⟩⟩
 done:=by
  intro X hP hw hK hc i pins s σ H E I hf st hg;subst hP hw hK;obtain⟨xs,hq,hx⟩:=hg;obtain⟨its,rv,p,hz⟩:=I.list hq;obtain⟨f0,f1,f2,f3,f4,f5⟩:=hf it (by simp);have hl:=rv.length;exact wpAny_pyNext_list_end (I.ok.hd hc) st p.isList (by simp;omega) fun h' eb=>⟨rfl,I.turned (t':=s.toks) (fun b o hb e=>eb b o hb e) f0 f1 f3 f4 f5⟩
 self:=fun _ _ _ _ _ st h=>wpAny_pyIter_listiter st h
theorem A5 {P:Program} {w:World} {K:Frag} {tg:Expr} (a it:Addr):Turn P w K tg (Itt K a) [it] it (fun i h=>h.IsTupleIter it a i) where
 mem:=by simp
 obj:=fun i h st b hb=>by
  have e:b=it:=by simpa using hb
  subst e;obtain⟨o,e,c,d⟩:=st;exact⟨o,e,fun v z=>by rw[d] at z;cases z⟩
 keep:=fun i h h' st k=>st.at fun o e=>k it (by simp) o e
 item:=by
  intro X hP hw hK hc i pins s σ H E I hf st hg;subst hP hw hK;obtain⟨xs,x,hq,hx⟩:=hg;obtain⟨its,rv,p,hz⟩:=I.tuple hq;obtain⟨u,hu,ru⟩:=rv.get hx;obtain⟨f0,f1,f2,f3,f4,f5⟩:=hf it (by simp);refine wpAny_pyNext_tuple_item st (show s.heap.IsTuple a its.toArray from p) (x:=u) (by simpa using hu) fun h' st' sb=>?_;have I1:Inv X pins σ H {s with heap:=h'}:=I.turned (t':=s.toks) (fun b o hb e=>(sb.2 b hb).trans e) f0 f1 f3 f4 f5;obtain⟨o,e,c,d⟩:=id st';exact⟨u,rfl,Bc (s:={s with heap:=h'}) e c d %[|4] ⟨x,H,I1,ru,⟨rfl,fun ys hy=>by rw[I.tuple_inj hy hq];exact hx⟩,st',fun b hb=>(hf b hb).1⟩⟩
 done:=by
  intro X hP hw hK hc i pins s σ H E I hf st hg;subst hP hw hK;obtain⟨xs,hq,hx⟩:=hg;obtain⟨its,rv,p,hz⟩:=I.tuple hq;obtain⟨f0,f1,f2,f3,f4,f5⟩:=hf it (by simp);have hl:=rv.length;exact wpAny_pyNext_tuple_end (I.ok.hd hc) st (show s.heap.IsTuple a its.toArray from p) (by simp;omega) fun h' eb=>⟨rfl,I.turned (t':=s.toks) (fun b o hb e=>eb b o hb e) f0 f1 f3 f4 f5⟩
 self:=fun _ _ _ _ _ st h=>wpAny_pyIter_tupleiter st h
theorem A6 {P:Program} {w:World} {K:Frag} {tg:Expr} (it:Addr) (lo:Int) (n:Nat):Turn P w K tg (Itr lo n) [it] it (fun i h=>IsRangeIter h it (lo+(i:Nat)*1) ((n:Int)-(i:Nat)) 1) where
 mem:=by simp
 obj:=fun i h st b hb=>by
  have e:b=it:=by simpa using hb
  subst e;exact⟨_,st,fun v z=>by
   have z':Data.fields _=Data.cell v:=z;cases z'⟩
 keep:=fun i h h' st k=>k it (by simp) _ st
 item:=by
  intro X hP hw hK hc i pins s σ H E I hf st hg;subst hP hw hK;obtain⟨f0,f1,f2,f3,f4,f5⟩:=hf it (by simp);have W:=Walks.range (prog:=X.prog) (w:=X.w) (I.ok.hd hc) it lo 1 n;refine W.item i s _ _ hg st fun v h' tk hv st' kk=>?_;obtain⟨t,rfl⟩:=hv;have I1:Inv X pins σ H {s with heap:=h',toks:=tk}:=I.turned (fun b o hb e=>kk b o (by simpa using hb) e) f0 f1 f3 f4 f5;refine⟨_,rfl,Bc (s:={s with heap:=h',toks:=tk}) (n:="range_iterator") st' rfl rfl %[|4] ⟨.int (lo+i),H,I1,⟨t,?_⟩,⟨rfl,rfl⟩,st',fun b hb=>(hf b hb).1⟩⟩;rw[Int.mul_one]
 done:=by
  intro X hP hw hK hc i pins s σ H E I hf st hg;subst hP hw hK;obtain⟨f0,f1,f2,f3,f4,f5⟩:=hf it (by simp);exact wpAny_pyNext_range_end (I.ok.hd hc) st (by have:n<=i:=hg;omega) fun h' eb=>⟨rfl,I.turned (t':=s.toks) (fun b o hb e=>eb b o hb e) f0 f1 f3 f4 f5⟩
 self:=fun _ _ _ _ _ st h=>wpAny_pyIter_rangeiter st h
end L2
namespace L2
open PySem PySem.Spec PyProof.Rows
section
variable {X:Cx} {tg:Expr}
theorem JA {pins:List (Addr×Obj)} {σ:St} {H:Hp} {s:Shared} {R:It->Hp->Prop} {E:Value->Shared->Prop} {lo hi:Int} {t u v:Tok} {tk:Nat} (I:Inv X pins σ H s) (h1:-(2 ^ 62)<=lo) (h2:lo<2 ^ 62) (h3:-(2 ^ 62)<=hi) (h4:hi<2 ^ 62)
  (q:R (Itr lo (hi-lo).toNat) H):wpAny (model X.prog X.w) X.A (pyIter (.ref s.heap.objs.size)) (PIE X pins σ tg R) E {s with heap:=s.heap.push {cls:=.type "range",data:=.fields #[.int lo t,.int hi u,.int 1 v]},toks:=tk}:=by
 refine wpAny_pyIter_range (IsRange.new ..) (small_one h1 h2 h3 h4) ?_;have I1:Inv X pins σ H {s with heap:=s.heap.push {cls:=.type "range",data:=.fields #[.int lo t,.int hi u,.int 1 v]},toks:=tk}:=I.kept fun b o e=>Heap.get?_push_of_some _ e;refine⟨(s.heap.push {cls:=.type "range",data:=.fields #[.int lo t,.int hi u,.int 1 v]}).objs.size,[(s.heap.push {cls:=.type "range",data:=.fields #[.int lo t,.int hi u,.int 1 v]}).objs.size],_,_,H,rfl,
  I1.kept (t':=tk) fun b o e=>Heap.get?_push_of_some _ e,A6 _ lo (hi-lo).toNat,?_,fun b hb=>?_,q⟩
 ·have e1:lo+((0:Nat):Int)*1=lo:=by simp
  have e2:(((hi-lo).toNat:Nat):Int)-((0:Nat):Int)=Builtin.Range.rangeSize lo hi 1:=by rw[rangeSize_one];split<;>omega
  show IsRangeIter _ _ (lo+((0:Nat):Int)*1) ((((hi-lo).toNat:Nat):Int)-((0:Nat):Int)) 1;rw[e1,e2];exact Heap.get?_push_size _ rfl
 ·have e:b=(s.heap.push {cls:=.type "range",data:=.fields #[.int lo t,.int hi u,.int 1 v]}).objs.size:=by simpa using hb
  subst e;exact I1.fpOk %[|3] (I1.hok.fresh %[|3])
noncomputable def tFor (wi:TI) (g:TG) (tb:TS):TS:=fun D σ H=>wi σ H fun J H1=>∃ W:Nat->Nat->St->Hp->Prop,(∃ m,W 0 m σ H1)/\∀ i m σ H,W i m σ H ->
 (J.stop i H/\D.nx σ H)\/(J.go i H/\∃ N:St->Hp->Prop,(∀ σ' H',N σ' H'->∃ m',m'<m/\W (i+1) m' σ' H')/\∀ x H',J.yld i H x H'->g x σ H' fun σ2 H2=>tb {D with nx:=N,ct:=N,bk:=D.nx} σ2 H2)
noncomputable def VI (fp:List Addr) (h:Heap):List (Addr×Obj):=fp.filterMap fun b=>(h.get? b).map fun o=>(b,o)
theorem ZM (hb:b∈fp) (e:h.get? b=some o):(b,o)∈VI fp h:=List.mem_filterMap.mpr ⟨b,hb,by rw[e];rfl⟩
theorem BL (hp:p∈VI fp h):p.1∈fp/\h.get? p.1=some p.2:=by
 obtain⟨b,hb,e⟩:=List.mem_filterMap.mp hp;cases q:h.get? b with
 | none=>rw [q] at e;cases e
 | some o =>
  rw[q] at e;have e':(b,o)=p:=Option.some.inj e;subst e';exact⟨hb,q⟩
theorem Inv.pinned (I:Inv X pins σ H s) (hf:∀ b∈fp,FpOk X pins H b) (ho:∀ b∈fp,∃ o,s.heap.get? b=some o/\∀ v,o.data≠.cell v):Inv X (pins++VI fp s.heap) σ H s :=
 I.pins_of fun p hp=>(List.mem_append.mp hp).elim (fun z=>I.pin p (List.mem_append_right _ z)) fun z=>by
  obtain⟨hb,e⟩:=BL z;obtain⟨f0,f1,f2,_⟩:=hf p.1 hb;obtain⟨o,e',d⟩:=ho p.1 hb;rw[e] at e';cases e';exact⟨e,f0,f1,f2,d⟩
theorem Inv.unpinned (I:Inv X (pins++pl) σ H s):Inv X pins σ H s:=I.pins_of fun p hp=>I.pin p (List.mem_append_right _ (List.mem_append_left _ hp))
theorem Hm (hp:PassesOwn (model X.prog X.w) X.A X.env X.xe) (hc:X.calm=true) (hi:PI X tg iter wi) (hg:PG X tg g) (hb:PSs X body tb)
  (hs:∀ x,foldedSetIterable iter X.env x=pure x:=by intro _;rfl):PS X (.For tg iter body [] pos) (tFor wi g tb):=by
 intro pins s σ H D I h;refine wpAny_For (thn (hi pins s σ H _ I h) fun v s1 h1=>thn h1 fun itv s2 h2=>?_) hs;obtain⟨it,fp,tn,J,H2,e,I2,T,st2,f2,W,⟨m0,w0⟩,turn⟩:=h2;subst e;have stat:∀ {H':Hp},(∀ b∈fp,H' b=none)->∀ b∈fp,FpOk X pins H' b:=fun hn b hb=>⟨hn b hb,(f2 b hb).2⟩;refine codeAny_forLoop_any (fun n s'=>∃ i σ' H',Inv X pins σ' H' s'/\tn i s'.heap/\(∀ b∈fp,H' b=none)/\W i n σ' H') ?_ m0 ⟨0,σ,H2,I2,st2,fun b hb=>(f2 b hb).1,w0⟩;rintro n s3 ⟨i,σ3,H3,I3,st3,fr3,w3⟩;rcases turn i n σ3 H3 w3 with ⟨stop,qn⟩|⟨go,N,hN,step⟩
 ·refine wpAny_passesOwn hp (thn (T.done X rfl rfl rfl hc i pins s3 σ3 H3 X.xe I3 (stat fr3) st3 stop) fun r s4 hq2=>?_)
  obtain⟨hr,I4⟩:=hq2;subst hr;exact wpAny_execs_nil ⟨σ3,H3,I4,qn⟩
 ·refine wpAny_passesOwn hp (thn (T.item X rfl rfl rfl hc i pins s3 σ3 H3 X.xe I3 (stat fr3) st3 go) fun r s4 hq2=>?_)
  obtain⟨u,hr,h4⟩:=hq2;subst hr;refine wpAny_passesOwn hp (thn h4 fun _ s5 hq2=>?_);obtain⟨x,H5,I5,r5,y5,st5,fr5⟩:=hq2;have I5':=I5.pinned (stat fr5) (T.obj _ _ st5);refine wpAny_passesOwn hp (thn (hg _ s5 σ3 H5 x u _ I5' r5 (step x H5 y5)) fun _ s6 hq2=>?_);obtain⟨σ6,H6,I6,q6⟩:=hq2;refine wpAny_passesOwn hp (thn (hb _ s6 σ6 H6 _ I6 q6) fun f s7 q7=>?_);have again:∀ {σ7:St} {H7:Hp},Inv X (pins++VI fp s5.heap) σ7 H7 s7->N σ7 H7->∃ m,m<n/\∃ i σ' H',Inv X pins σ' H' s7/\tn i s7.heap/\(∀ b∈fp,H' b=none)/\W i m σ' H':=fun {σ7 H7} I7 n7=>by
   obtain⟨m',hm,w7⟩:=hN σ7 H7 n7;refine⟨m',hm,i+1,σ7,H7,I7.unpinned,T.keep _ _ _ st5 fun b hb o e=>(I7.pin (b,o) (List.mem_append_right _ (List.mem_append_right _ (ZM hb e)))).1,fun b hb=>?_,w7⟩;obtain⟨o,e,d⟩:=T.obj _ _ st5 b hb;exact (I7.pin (b,o) (List.mem_append_right _ (List.mem_append_right _ (ZM hb e)))).2.1
  cases f with
  | next=>obtain⟨σ7,H7,I7,n7⟩:=q7;exact again I7 n7
  | cont=>obtain⟨σ7,H7,I7,n7⟩:=q7;exact again I7 n7
  | brk=>obtain⟨σ7,H7,I7,q7⟩:=q7;exact⟨σ7,H7,I7.unpinned,q7⟩
  | ret v=>obtain⟨x7,σ7,H7,I7,r7,q7⟩:=q7;exact⟨x7,σ7,H7,I7.unpinned,r7,q7⟩
end
end L2
namespace L2
open PySem PySem.Spec PyProof.Rows
abbrev R2:=V->V->Hp->VK->Prop
noncomputable def OpR (X:Cx) (f:Value->Value->Sem Value) (r:R2):Prop :=
 ∀ (pins:List (Addr×Obj)) (s:Shared) (σ:St) (H:Hp) (x y:V) (v u:Value) (Q:VK),Inv X pins σ H s->RelV x v->RelV y u->r x y H Q ->
  wpAny (model X.prog X.w) X.A (f v u) (EP X pins σ Q) X.xe s
noncomputable def UnR (X:Cx) (f:Value->Sem Value) (r:V->Hp->VK->Prop):Prop :=
 ∀ (pins:List (Addr×Obj)) (s:Shared) (σ:St) (H:Hp) (x:V) (v:Value) (Q:VK),Inv X pins σ H s->RelV x v->r x H Q ->
  wpAny (model X.prog X.w) X.A (f v) (EP X pins σ Q) X.xe s
noncomputable def CallR (X:Cx) (f:Value) (r:List V->Hp->VK->Prop):Prop :=
 ∀ (pins:List (Addr×Obj)) (s:Shared) (σ:St) (H:Hp) (xs:List V) (us:List Value) (Q:VK),Inv X pins σ H s->Vals xs us->r xs H Q ->
  wpAny (model X.prog X.w) X.A (call f us) (EP X pins σ Q) X.xe s
noncomputable def TruR (X:Cx) (r:V->Hp->(Bool->Hp->Prop)->Prop):Prop :=
 ∀ (pins:List (Addr×Obj)) (s:Shared) (σ:St) (H:Hp) (x:V) (v:Value) (Q:Bool->Hp->Prop),Inv X pins σ H s->RelV x v->r x H Q ->
  wpAny (model X.prog X.w) X.A (truthy v) (TP X pins σ Q) X.xe s
noncomputable def tOp (r:R2) (ta tb:TE):TE:=fun σ H Q=>ta σ H fun x H1=>tb σ H1 fun y H2=>r x y H2 Q
noncomputable def tUn (r:V->Hp->VK->Prop) (ta:TE):TE:=fun σ H Q=>ta σ H fun x H1=>r x H1 Q
noncomputable def rI (C:Int->Int->Prop) (g:Int->Int->V):R2:=fun x y H Q=>∃ i j,x=.int i/\y=.int j/\C i j/\Q (g i j) H
noncomputable def rI0 (g:Int->Int->V):R2:=fun x y H Q=>∃ i j,x=.int i/\y=.int j/\Q (g i j) H
noncomputable def rU (g:Int->V):V->Hp->VK->Prop:=fun x H Q=>∃ i,x=.int i/\Q (g i) H
section
variable {X:Cx} {a b c:Expr} {ta tb tc:TE} {pos:Pos}
theorem binT (ha:PE X a ta) (hb:PE X b tb) {pins:List (Addr×Obj)} {s:Shared} {σ:St} {H:Hp} {R:V->V->Hp->Prop} (I:Inv X pins σ H s)
  (h:ta σ H fun x H1=>tb σ H1 fun y H2=>R x y H2) {Q:Value->Shared->Prop} {f:Value->Value->Sem Value}
  (hf:∀ v u s2 x y H2,Inv X pins σ H2 s2->RelV x v->RelV y u->R x y H2->wpAny (model X.prog X.w) X.A (f v u) Q X.xe s2) :
  wpAny (model X.prog X.w) X.A (eval a X.env) (fun v s₁=>wpAny (model X.prog X.w) X.A (eval b X.env) (fun u s₂=>wpAny (model X.prog X.w) X.A (f v u) Q X.xe s₂) X.xe s₁) X.xe s:=by
 refine thn (ha pins s σ H _ I h) fun v s1 hq2=>?_;obtain⟨x,H1,I1,r1,q1⟩:=hq2;refine thn (hb pins s1 σ H1 _ I1 q1) fun u s2 hq2=>?_;obtain⟨y,H2,I2,r2,q2⟩:=hq2;exact hf v u s2 x y H2 I2 r1 r2 q2
theorem Ka {op:Operator} {r:R2} (ho:OpR X (binaryOp op) r) (ha:PE X a ta) (hb:PE X b tb):PE X (.BinOp a op b pos) (tOp r ta tb):=by
 intro pins s σ H Q I h;exact wpAny_BinOp (binT ha hb I h fun v u s2 x y H2 I2 rx ry q=>ho pins s2 σ H2 x y v u Q I2 rx ry q)
theorem K8 (ho:UnR X (unaryOp op) r) (ha:PE X a ta):PE X (.UnaryOp op a pos) (tUn r ta):=by
 intro pins s σ H Q I h;exact UnaryOp_ (thn (ha pins s σ H _ I h) (by rintro v s1 ⟨x,H1,I1,r1,q1⟩;exact ho pins s1 σ H1 x v Q I1 r1 q1))
theorem opI {f:Value->Value->Sem Value} {C:Int->Int->Prop} {g:Int->Int->Int}
  (rule:∀ (i j:Int) (t u:Tok) (s:Shared) (Q:Value->Shared->Prop) (E:Value->Shared->Prop),C i j->Q (.int (g i j) s.toks) {s with toks:=s.toks+1}->wpAny (model X.prog X.w) X.A (f (.int i t) (.int j u)) Q E s) :
  OpR X f (rI C fun i j=>.int (g i j)):=by
 intro pins s σ H x y v u Q I rx ry h;obtain⟨i,j,rfl,rfl,hc,q⟩:=h;obtain⟨t,rfl⟩:=rx;obtain⟨t',rfl⟩:=ry;exact rule i j t t' s _ _ hc ⟨.int (g i j),H,I.tok _,⟨_,rfl⟩,q⟩
theorem opI0 {f:Value->Value->Sem Value} {g:Int->Int->Int}
  (rule:∀ (i j:Int) (t u:Tok) (s:Shared) (Q:Value->Shared->Prop) (E:Value->Shared->Prop),Q (.int (g i j) s.toks) {s with toks:=s.toks+1}->wpAny (model X.prog X.w) X.A (f (.int i t) (.int j u)) Q E s) :
  OpR X f (rI0 fun i j=>.int (g i j)):=by
 intro pins s σ H x y v u Q I rx ry h;obtain⟨i,j,rfl,rfl,q⟩:=h;obtain⟨t,rfl⟩:=rx;obtain⟨t',rfl⟩:=ry;exact rule i j t t' s _ _ ⟨.int (g i j),H,I.tok _,⟨_,rfl⟩,q⟩
theorem opB0 {f:Value->Value->Sem Value} {g:Int->Int->Bool}
  (rule:∀ (i j:Int) (t u:Tok) (s:Shared) (Q:Value->Shared->Prop) (E:Value->Shared->Prop),Q (.bool (g i j)) s->wpAny (model X.prog X.w) X.A (f (.int i t) (.int j u)) Q E s) :
  OpR X f (rI0 fun i j=>.bl (g i j)):=by
 intro pins s σ H x y v u Q I rx ry h;obtain⟨i,j,rfl,rfl,q⟩:=h;obtain⟨t,rfl⟩:=rx;obtain⟨t',rfl⟩:=ry;exact rule i j t t' s _ _ ⟨.bl (g i j),H,I,rfl,q⟩
noncomputable def CPow (i j:Int):Prop:=0<=j/\j<=1000000/\i.natAbs<2 ^ 64
theorem HH:OpR X (binaryOp .Add) (rI0 fun i j=>.int (i+j)):=opI0 fun _ _ _ _ _ _ _ q=>add_int q
theorem unI {f:Value->Sem Value} {g:Int->Int}
  (rule:∀ (i:Int) (t:Tok) (s:Shared) (Q:Value->Shared->Prop) (E:Value->Shared->Prop),Q (.int (g i) s.toks) {s with toks:=s.toks+1}->wpAny (model X.prog X.w) X.A (f (.int i t)) Q E s) :
  UnR X f (rU fun i=>.int (g i)):=by
 intro pins s σ H x v Q I rx h;obtain⟨i,rfl,q⟩:=h;obtain⟨t,rfl⟩:=rx;exact rule i t s _ _ ⟨.int (g i),H,I.tok _,⟨_,rfl⟩,q⟩
theorem GX:UnR X (unaryOp .USub) (rU fun i=>.int (-i)):=unI fun _ _ _ _ _ q=>neg_int q
end
section
variable {X:Cx} {a b c:Expr} {ta tb tc:TE} {pos:Pos}
theorem Ke:OpR X (compareOp .Lt) (rI0 fun i j=>.bl (decide (i<j))):=opB0 fun _ _ _ _ _ _ _ q=>lt_int q
theorem Kf:OpR X (compareOp .LtE) (rI0 fun i j=>.bl (decide (i<=j))):=opB0 fun _ _ _ _ _ _ _ q=>le_int q
theorem Kg:OpR X (compareOp .Gt) (rI0 fun i j=>.bl (decide (j<i))):=opB0 fun _ _ _ _ _ _ _ q=>gt_int q
theorem Kh:OpR X (compareOp .GtE) (rI0 fun i j=>.bl (decide (j<=i))):=opB0 fun _ _ _ _ _ _ _ q=>ge_int q
theorem Fn (ho:OpR X (compareOp op) r) (ha:PE X a ta) (hb:PE X b tb) (hm:behindInMarks op b=false):PE X (.Compare a [op] [b] pos) (tOp r ta tb):=by
 intro pins s σ H Q I h;exact wpAny_Compare1 (binT ha hb I h fun v u s2 x y H2 I2 rx ry q=>ho pins s2 σ H2 x y v u Q I2 rx ry q) hm
noncomputable def Gu (t:TE):TT:=fun σ H Q=>t σ H fun x H'=>∃ k,x=.bl k/\Q k H'
theorem Fg (ho:OpR X (compareOp op) r) (ha:PE X a ta) (hb:PE X b tb) (hm:behindInMarks op b=false):PT X (.Compare a [op] [b] pos) (Gu (tOp r ta tb)):=by
 intro pins s σ H Q I h;refine wpAny_isTrue_Compare1 (thn (ha pins s σ H _ I h) fun v s1 ⟨x,H1,I1,r1,q1⟩=>thn (hb pins s1 σ H1 _ I1 q1) fun u s2 ⟨y,H2,I2,r2,q2⟩ =>
  thn (ho pins s2 σ H2 x y v u _ I2 r1 r2 q2) fun c s3 hq2=>?_) hm
 obtain⟨z,H3,I3,r3,k,e,q3⟩:=hq2;subst e;cases r3;exact wpAny_truthy_bool ⟨H3,I3,q3⟩
noncomputable def Ab (r r':R2) (ta tb tc:TE):TE:=fun σ H Q=>ta σ H fun x H1=>tb σ H1 fun y H2=>r x y H2 fun z H3=>∃ k,z=.bl k /\
 (if k=true then tc σ H3 fun w' H4=>r' y w' H4 Q else Q (.bl false) H3)
theorem Dd (ho:OpR X (compareOp op) r) (ho':OpR X (compareOp op') r') (ha:PE X a ta) (hb:PE X b tb) (hc:PE X c tc)
  (hm:lastMarks [op,op'] [b,c]=false:=by with_unfolding_all rfl):PE X (.Compare a [op,op'] [b,c] pos) (Ab r r' ta tb tc):=by
 intro pins s σ H Q I h;refine Compare_chain (thn (ha pins s σ H _ I h) fun v s1 ⟨x,H1,I1,r1,q1⟩=>chain_link (thn (hb pins s1 σ H1 _ I1 q1) fun u s2 ⟨y,H2,I2,r2,q2⟩ =>
  thn (ho pins s2 σ H2 x y v u _ I2 r1 r2 q2) fun d s3 hq2=>?_)) hm
 obtain⟨z,H3,I3,r3,k,e,q3⟩:=hq2;subst e;cases r3;refine wpAny_truthy_bool ?_;cases k with
 | false=>exact ite_ff ⟨.bl false,H3,I3,rfl,q3⟩
 | true=>exact ite_tt (chain_last (thn (hc pins s3 σ H3 _ I3 q3) (by rintro w' s4 ⟨z',H4,I4,r4,q4⟩;exact ho' pins s4 σ H4 y z' u w' Q I4 r2 r4 q4)))
theorem D1 (ho:OpR X (compareOp op) r) (ho':OpR X (compareOp op') r') (ha:PE X a ta) (hb:PE X b tb) (hc:PE X c tc)
  (hm:lastMarks [op,op'] [b,c]=false:=by with_unfolding_all rfl):PT X (.Compare a [op,op'] [b,c] pos) (Gu (Ab r r' ta tb tc)):=by
 intro pins s σ H Q I h;refine isTrue_chain (thn (ha pins s σ H _ I h) fun v s1 ⟨x,H1,I1,r1,q1⟩=>test_link (thn (hb pins s1 σ H1 _ I1 q1) fun u s2 ⟨y,H2,I2,r2,q2⟩ =>
  thn (ho pins s2 σ H2 x y v u _ I2 r1 r2 q2) fun d s3 hq2=>?_)) hm
 obtain⟨z,H3,I3,r3,k,e,q3⟩:=hq2;subst e;cases r3;refine wpAny_truthy_bool ?_;cases k with
 | false =>
  obtain⟨k',e',q'⟩:=q3;cases e';exact ite_ff ⟨H3,I3,q'⟩
 | true =>
  refine ite_tt (test_last (thn (hc pins s3 σ H3 _ I3 q3) fun w' s4 ⟨z',H4,I4,r4,q4⟩=>thn (ho' pins s4 σ H4 y z' u w' _ I4 r2 r4 q4) fun d' s5 hq2=>?_));obtain⟨z2,H5,I5,r5,k2,e2,q5⟩:=hq2;subst e2;cases r5;exact wpAny_truthy_bool ⟨H5,I5,q5⟩
noncomputable def TruV (K:Frag) (x:V) (H:Hp) (k:Bool):Prop :=
 match x with
 | .non=>k=false
 | .bl b=>k=b
 | .int i=>k=(i != 0)
 | .str y=>y.length<=sizeLine/\k=((y.length:Int) != 0)
 | .byt y=>y.size<=sizeLine/\k=((y.size:Int) != 0)
 | .ref p=>(∃ xs,SqL K H p xs/\k=!xs.isEmpty)\/(∃ xs,SqT K H p xs/\k=!xs.isEmpty)\/∃ kvs,H p=some (.dK kvs)/\k=!kvs.isEmpty
 | _=>False
theorem AA (r:KV kvs vs):(!vs.isEmpty)=!kvs.isEmpty:=by
 cases r<;>rfl
theorem VT (r:Vals xs its):(!its.toArray.isEmpty)=!xs.isEmpty:=by
 cases r<;>simp
theorem Wg:(sizeLine:Nat)<2 ^ 63:=by rw[sizeLine_eq];decide
theorem GZ:TruR X (fun x H Q=>∃ k,TruV X.K x H k/\Q k H):=by
 intro pins s σ H x v Q I rx h;obtain⟨k,e,q⟩:=h;have hl:=Wg;have hs:sizeLine=16777216:=sizeLine_eq;cases x with
 | non =>
  cases rx;have e':k=false:=e;subst e';exact truthy_none ⟨H,I,q⟩
 | bl b =>
  cases rx;have e':k=b:=e;subst e';exact wpAny_truthy_bool ⟨H,I,q⟩
 | int i =>
  obtain⟨t,rfl⟩:=rx;have e':k=(i != 0):=e;subst e';exact PySem.P.truthy_int ⟨H,I,q⟩
 | str y =>
  obtain⟨t,rfl⟩:=rx;obtain⟨hy,e'⟩:y.length<=sizeLine/\k=((y.length:Int) != 0):=e;subst e';exact PySem.P.truthy_str %[|5] ⟨H,I.tok _,q⟩
 | byt y =>
  obtain⟨t,rfl⟩:=rx;obtain⟨hy,e'⟩:y.size<=sizeLine/\k=((y.size:Int) != 0):=e;subst e';exact PySem.W.truthy_bytes %[|5] ⟨H,I.tok _,q⟩
 | ref p =>
  cases rx;have e':(∃ xs,SqL X.K H p xs/\k=!xs.isEmpty)\/(∃ xs,SqT X.K H p xs/\k=!xs.isEmpty)\/∃ kvs,H p=some (.dK kvs)/\k=!kvs.isEmpty:=e;rcases e' with ⟨xs,hx,e'⟩|⟨xs,hx,e'⟩|⟨kvs,hx,e'⟩
  ·subst e'
   obtain⟨its,r,pl,hz⟩:=I.list hx;have hlen:=r.length;exact wpAny_truthy_list pl.isList (by simp only[List.size_toArray];omega) ⟨H,I.tok _,by rw[VT r];exact q⟩
  ·subst e'
   obtain⟨its,r,pl,hz⟩:=I.tuple hx;have hlen:=r.length;exact truthy_tuple pl (by simp only[List.size_toArray];omega) ⟨H,I.tok _,by rw[VT r];exact q⟩
  ·subst e'
   obtain⟨hz,hS,vs,r,m⟩:kvs.length<=sizeLine/\(p==sysModules)=false/\∃ vs,KV kvs vs/\s.heap.DictOf (J3 X.prog X.w) p vs:=I.hok p _ hx;have hlen:kvs.length=vs.length:=Paired.length r;exact wpAny_truthy_dict hS m %[|5] ⟨H,I.tok _,by rw[AA r];exact q⟩
 | _=>exact (show False from e).elim
theorem D0 (ha:PE X a ta) (he:∀ whole,isTrue a X.env whole=(do let v <- whole;standAt a.pos;holding [v] (truthy v))) :
  PT X a (fun σ H Q=>ta σ H fun x H'=>∃ k,TruV X.K x H' k/\Q k H'):=by
 intro pins s σ H Q I h;exact isTrue_plain (thn (ha pins s σ H _ I h) (by rintro v s1 ⟨x,H1,I1,r1,q1⟩;exact GZ pins s1 σ H1 x v Q I1 r1 q1)) (he _)
theorem Al:OpR X (binaryOp .Add) (fun x y H Q=>∃ i j,x=.str i/\y=.str j/\i.length+j.length<=sizeLine/\Q (.str (i++j)) H):=by
 intro pins s σ H x y v u Q I rx ry h;obtain⟨i,j,rfl,rfl,hz,q⟩:=h;obtain⟨t,rfl⟩:=rx;obtain⟨t',rfl⟩:=ry;exact add_str (fun t' tk=>⟨.str (i++j),H,I.tok _,⟨_,rfl⟩,q⟩) hz
theorem WX (r:Vals [x] us):∃ u,us=[u]/\RelV x u:=by
 cases r with
 | cons r1 r2=>cases r2;exact⟨_,rfl,r1⟩
theorem Vt (r:Vals [x,y] us):∃ u w',us=[u,w']/\RelV x u/\RelV y w':=by
 cases r with
 | cons r1 r2 =>
  cases r2 with
  | cons r3 r4=>cases r4;exact⟨_,_,rfl,r1,r3⟩
theorem EF:CallR X (.builtin "abs") (fun xs H Q=>∃ i,xs=[.int i]/\Q (.int (if i<0 then -i else i)) H):=by
 intro pins s σ H xs us Q I r h;obtain⟨i,rfl,q⟩:=h;obtain⟨u,rfl,t,rfl⟩:=WX r;exact call_abs_int fun u tk=>⟨.int (if i<0 then -i else i),H,I.tok _,⟨_,rfl⟩,q⟩
theorem Ce (hc:X.calm=true):CallR X (.builtin "max") (fun xs H Q=>∃ i j,xs=[.int i,.int j]/\Q (.int (if j > i then j else i)) H):=by
 intro pins s σ H xs us Q I r h;obtain⟨i,j,rfl,q⟩:=h;obtain⟨u,w',rfl,⟨t,rfl⟩,⟨t',rfl⟩⟩:=Vt r;refine max_two_ints (I.ok.hd hc) fun h' tk k=>⟨_,H,I.kept k,?_,q⟩;by_cases hj:j > i
 ·rw[if_pos hj,if_pos hj];exact⟨_,rfl⟩
 ·rw[if_neg hj,if_neg hj];exact⟨_,rfl⟩
theorem Cd (hc:X.calm=true):CallR X (.builtin "min") (fun xs H Q=>∃ i j,xs=[.int i,.int j]/\Q (.int (if j<i then j else i)) H):=by
 intro pins s σ H xs us Q I r h;obtain⟨i,j,rfl,q⟩:=h;obtain⟨u,w',rfl,⟨t,rfl⟩,⟨t',rfl⟩⟩:=Vt r;refine min_two_ints (I.ok.hd hc) fun h' tk k=>⟨_,H,I.kept k,?_,q⟩;by_cases hj:j<i
 ·rw[if_pos hj,if_pos hj];exact⟨_,rfl⟩
 ·rw[if_neg hj,if_neg hj];exact⟨_,rfl⟩
end
end L2
namespace L2
open PySem PySem.Spec PyProof.Rows
section
variable {prog:Program} {w:World} {A:Around} {E:Value->Shared->Prop} {s:Shared} {K:Frag} {x dx C f:Addr} {mA:Str->Option Value} {name:Str} {v:Value}
end
section
variable {P:Program} {w:World} {H H':Hp} {h h':Heap} {a C dx:Addr} {fs fs':List (Str×V)}
end
structure Meth (K:Frag) (C:Addr) (m:Str) (f:Addr):Prop where
 at_:PySem.W.findIn K (.ref C) m=some (some (.ref f))
 fn:PySem.W.isFn K (.ref f)=true
 kp:PySem.W.keepIn K (.ref f)=true
section
variable {X:Cx} {pins:List (Addr×Obj)} {σ:St} {H:Hp} {s:Shared} {a C dx:Addr} {fs:List (Str×V)} {f:Str} {v:V} {A:Around} {E:Value->Shared->Prop}
end
section
variable {X:Cx} {o e value:Expr} {f:Str} {pos pos' tpos:Pos} {ta tv:TE}
end
section
variable {X:Cx} {pins:List (Addr×Obj)} {σ:St} {H:Hp} {s:Shared} {A:Around} {E:Value->Shared->Prop} {Q:Value->Shared->Prop} {c:Value} {b:Bool}
end
end L2
namespace L2
open PySem PySem.Spec PyProof.Rows
structure Room (k:Nat) (A:Around):Prop where
 hd:A.handled=none
 dp:A.depth+3*k+5<recursionLimit
 un:A.units+16*k+200<cLine
theorem Room.mono (r:Room k A) (h:j<=k):Room j A:=⟨r.hd,by have:=r.dp;omega,by have:=r.un;omega⟩
theorem Room.deeper (r:Room (k+1) A) (env:Env):Room k (A.deeper env) :=
 ⟨r.hd,by have:=r.dp;show A.depth+1+3*k+5 < _;omega,by have:=r.un;show A.units+3+16*k+200 < _;omega⟩
theorem Room.depth (r:Room k A):A.depth<recursionLimit:=by have:=r.dp;omega
noncomputable def tNil:TA:=fun _ H Q=>Q [] H
noncomputable def IW (ta:TE) (tr:TA):TA:=fun σ H Q=>ta σ H fun x H1=>tr σ H1 fun xs H2=>Q (x::xs) H2
section
variable {X:Cx} {e:Expr} {es:List Expr} {te:TE} {t:TA} {pos:Pos}
theorem HA:PA X [] tNil:=fun _ _ _ _ H Q I h=>Calls.spliced_nil ⟨[],H,I,.nil,h⟩
theorem Fp (ha:PE X e te) (hr:PA X es t) (hs:starEach (e::es) X.env=(false,eval e X.env)::starEach es X.env:=by rfl):PA X (e::es) (IW te t):=by
 intro pos pins s σ H Q I h;rw[hs];show wpAny _ _ (spliced ((false,eval e X.env)::backTo pos (starEach es X.env))) _ _ s;refine Calls.spliced_cons (thn (ha pins s σ H _ I h) fun u s1 hq2=>?_);obtain⟨x,H1,I1,r1,q1⟩:=hq2;exact thn (hr pos pins s1 σ H1 _ I1 q1) (by rintro us s2 ⟨xs,H2,I2,r2,q2⟩;exact⟨x::xs,H2,I2,.cons r1 r2,q2⟩)
noncomputable def tTup (t:TA):TE:=fun σ H Q=>t σ H fun xs H1=>xs.length<=sizeLine/\∀ p,H1 p=none->Q (.ref p) (upd H1 p (.tup xs))
noncomputable def tLst (t:TA):TE:=fun σ H Q=>t σ H fun xs H1=>xs.length<=sizeLine/\∀ p,H1 p=none->Q (.ref p) (upd H1 p (.lst xs))
theorem Hs {x1} (h:PA X es t):PE X (.Tuple es x1 pos) (tTup t):=by
 intro pins s σ H Q I hq;refine wpAny_Tuple_spliced (thn (h pos pins s σ H _ I hq) fun us s1 ⟨xs,H1,I1,r,z,q⟩=>⟨by rw[<- r.length];exact z,?_⟩);have hf:H1 s1.heap.objs.size=none:=I1.hok.fresh %[|3];refine⟨.ref s1.heap.objs.size,upd H1 s1.heap.objs.size (.tup xs),I1.laid (t':=s1.toks) (fun b u e=>Heap.get?_push_of_some _ e) %[|3] ?_,rfl,q _ hf⟩;exact⟨z,us,r,⟨_,Heap.get?_push_size _ rfl,rfl,_,rfl⟩⟩
theorem Hx (h:PA X es t):PE X (.List es pos) (tLst t):=by
 intro pins s σ H Q I hq;refine wpAny_List_spliced (thn (h pos pins s σ H _ I hq) fun us s1 ⟨xs,H1,I1,r,z,q⟩=>⟨by rw[<- r.length];exact z,?_⟩);have hf:H1 s1.heap.objs.size=none:=I1.hok.fresh %[|3];refine⟨.ref s1.heap.objs.size,upd H1 s1.heap.objs.size (.lst xs),I1.laid (t':=s1.toks) (fun b u e=>Heap.get?_push_of_some _ e) %[|3] ?_,rfl,q _ hf⟩;exact⟨z,us,0,r,Heap.get?_push_size _ rfl⟩
end
abbrev Sp:=List V->Hp->VK->XK->Prop
abbrev CXT:=List Env->Hp->Shared->XK->Value->Shared->Prop
structure Env0 (P:Program) (w:World) (K:Frag) (mg:Str->Option Value) (base:Heap) (A:Around) (outer:List Env) (s:Shared) (H:Hp):Prop where
 frames:A.frames=some outer
 mod:Mod K mg base
 bs:∀ b o,base.get? b=some o->s.heap.get? b=some o/\H b=none
 bsz:base.objs.size<=s.heap.objs.size
 funs:s.heap.FunFrames base outer
 frf:∀ b∈frs outer,H b=none
 hok:HOk P w H s.heap
 bare:AllBare s.gens
noncomputable def CE (outer:List Env) (P:Program) (w:World) (H:Hp) (s:Shared) (Q:VK) (u:Value) (s':Shared):Prop :=
 ∃ v H',s'.os=s.os/\AllBare s'.gens/\Un (frs outer) [] H H' s.heap s'.heap/\HOk P w H' s'.heap/\RelV v u/\Q v H'
noncomputable def CR (CX:CXT) (outer:List Env) (P:Program) (w:World) (H:Hp) (s:Shared) (Q:VK) (E:XK) (r:Result) (s':Shared):Prop :=
 match r with
 | .ok (.ret u)=>CE outer P w H s Q u s'
 | .ok _=>False
 | .error e=>CX outer H s E e s'
structure FnOk (P:Program) (w:World) (K:Frag) (mg:Str->Option Value) (base:Heap) (CX:CXT) (k:Nat) (f:Addr) (fd:FuncData) (ps:List Str) (sp:Sp):Prop where
 len:∀ vs H Q E,sp vs H Q E->vs.length=ps.length
 run:∀ (A:Around) (outer:List Env) (s:Shared) (H:Hp) (args:Args) (us:List Value) (vs:List V) (Q:VK) (E:XK),Room k A->Env0 P w K mg base A outer s H->BindsTo s fd args (ps.zip us)->Vals vs us->sp vs H Q E ->
  codeAny (model P w) A (.call (.ref f) args) (CR CX outer P w H s Q E) s
theorem FnOk.mono {P:Program} {w:World} {K:Frag} {mg:Str->Option Value} {base:Heap} {CX:CXT} {j k:Nat} {f:Addr} {fd:FuncData} {ps:List Str} {sp:Sp} (F:FnOk P w K mg base CX j f fd ps sp) (h:j<=k) :
  FnOk P w K mg base CX k f fd ps sp:=⟨F.len,fun A outer s H args us vs Q E hr=>F.run A outer s H args us vs Q E (hr.mono h)⟩
section
variable {X:Cx} {pins:List (Addr×Obj)} {σ:St} {H:Hp} {s s':Shared}
theorem Inv.env0 (I:Inv X pins σ H s):Env0 X.prog X.w X.K X.mg X.base X.A X.stack s H :=
 ⟨I.ok.frames,I.ok.mod,I.bs,Nat.le_trans I.ok.bsz I.sz,I.stack,I.stkFree,I.hok,I.bare⟩
theorem Inv.after (I:Inv X pins σ H s) (h:CE X.stack X.prog X.w H s Q u s'):EP X pins σ Q u s':=by
 obtain⟨v,H',os,bare,un,hok,r,q⟩:=h;obtain⟨hh,g,d,t,os'⟩:=s';obtain rfl:os'=s.os:=os;exact⟨v,H',I.call (h':=hh) (g':=g) (d':=d) (t':=t) (ch:=[]) un hok bare (fun b z=>absurd z (by simp)),r,q⟩
end
noncomputable def Binds (K:Frag) (fd:FuncData) (ps:List Str) (ds:List Value):Prop :=
 ∀ (s:Shared) (us:List Value),K.In s.heap->(us++ds).length=ps.length->BindsTo s fd ⟨us,[]⟩ (ps.zip (us++ds))
theorem Binds.all {K:Frag} {fd:FuncData} {ps:List Str} (h:∀ us:List Value,us.length=ps.length->bindArgs fd ⟨us,[]⟩=pure (ps.zip us)):Binds K fd ps []:=fun s us _ hl=>by
 rw[List.append_nil] at hl ⊢;exact .of_eq (h us hl)
section
variable {X:Cx} {CX:CXT} {k:Nat} {f C:Addr} {fd:FuncData} {ps:List Str} {sp:Sp} {dvs:List V} {ds:List Value} {E:XK} {x m:Str} {p pos apos:Pos} {e o:Expr} {es:List Expr} {ta:TE} {t:TA}
structure Mk (K:Frag) (C f:Addr):Prop where
 makes:PySem.W.makesIn K C=true
 init:PySem.W.findIn K (.ref C) "__init__"=some (some (.ref f))
 fn:PySem.W.isFn K (.ref f)=true
 kp:PySem.W.keepIn K (.ref C)=true
end
section
variable {X:Cx} {CX:CXT} {k:Nat} {f C:Addr} {fd:FuncData} {ps ks:List Str} {sp:Sp} {E:XK} {x m:Str} {p pos apos kpos:Pos} {e o:Expr} {es:List Expr} {kws:List Keyword} {te ta:TE} {t tk:TA} {nm:Option Str}
variable {g:List Value->List Value->List Value} {gV:List V->List V->List V}
end
structure FnScope (N P:List Str) (sc:Scope):Prop where
 kind:sc.kind=.function
 co:sc.isCoroutine=false
 gen:sc.isGenerator=false
 nd:N.Nodup
 pre:N.take P.length=P
 par:∀ x∈P,sc.names.lookup x=some .local\/sc.names.lookup x=some .cell
 nofree:∀ y∈sc.names,y.2≠.free
theorem UD {kindOf:Str->Option NameKind} {x:Str}:∀ {binds:List (Str×Value)} {m:Str->Option Value},(∀ v,(x,v) ∉ binds)->bindL kindOf binds m x=m x
 | [],_,_=>rfl
 | (n,v)::r,m,h=>by
  unfold bindL;rw[UD fun w hw=>h w (List.mem_cons_of_mem _ hw)];split
  ·have:x≠n:=by rintro rfl;exact h v List.mem_cons_self
   simp[this]
  ·rfl
theorem UF {kindOf:Str->Option NameKind} {x:Str}:∀ {binds:List (Str×Value)} {m:Str->Option Value},(∀ v,(x,v) ∉ binds)->bindC kindOf binds m x=m x
 | [],_,_=>rfl
 | (n,v)::r,m,h=>by
  unfold bindC;rw[UF fun w hw=>h w (List.mem_cons_of_mem _ hw)];split
  ·rfl
  ·have:x≠n:=by rintro rfl;exact h v List.mem_cons_self
   simp[this]
theorem UE {kindOf:Str->Option NameKind} {x:Str} {v:Value}:∀ {P:List Str} {vs:List Value} {i:Nat} {m:Str->Option Value},P.Nodup->P[i]?=some x->vs[i]?=some v->kindOf x=some .local ->
  bindL kindOf (P.zip vs) m x=some v
 | [],_,_,_,_,h,_,_=>by simp at h
 | _::_,[],_,_,_,_,h,_=>by simp at h
 | p::P,w::vs,0,m,nd,h1,h2,hk=>by
  simp at h1 h2;subst h1;subst h2;show bindL kindOf ((p,w)::P.zip vs) m p=_;unfold bindL;rw[UD fun v hv=>(List.nodup_cons.mp nd).1 (List.of_mem_zip hv).1,if_pos hk];simp
 | p::P,w::vs,i+1,m,nd,h1,h2,hk=>by
  show bindL kindOf ((p,w)::P.zip vs) m x=_;unfold bindL;exact UE (i:=i) (List.nodup_cons.mp nd).2 (by simpa using h1) (by simpa using h2) hk
theorem UG {kindOf:Str->Option NameKind} {x:Str} {v:Value}:∀ {P:List Str} {vs:List Value} {i:Nat} {m:Str->Option Value},P.Nodup->P[i]?=some x->vs[i]?=some v->kindOf x≠some .local ->
  bindC kindOf (P.zip vs) m x=some v
 | [],_,_,_,_,h,_,_=>by simp at h
 | _::_,[],_,_,_,_,h,_=>by simp at h
 | p::P,w::vs,0,m,nd,h1,h2,hk=>by
  simp at h1 h2;subst h1;subst h2;show bindC kindOf ((p,w)::P.zip vs) m p=_;unfold bindC;rw[UF fun v hv=>(List.nodup_cons.mp nd).1 (List.of_mem_zip hv).1,if_neg hk];simp
 | p::P,w::vs,i+1,m,nd,h1,h2,hk=>by
  show bindC kindOf ((p,w)::P.zip vs) m x=_;unfold bindC;exact UG (i:=i) (List.nodup_cons.mp nd).2 (by simpa using h1) (by simpa using h2) hk
noncomputable def start (N:List Str) (vs:List V):St:=vs.map some++List.replicate (N.length-vs.length) none
noncomputable def cxOf (CX:CXT) (P:Program) (w:World) (K:Frag) (mg:Str->Option Value) (base:Heap) (N:List Str) (qual:Str) (scope:Scope) (f:Addr) (cd:Value) (A:Around) (outer:List Env) (s:Shared) (H:Hp) (E:XK):Cx where
 prog:=P
 w:=w
 K:=K
 mg:=mg
 base:=base
 A:=A.deeper (envOfC qual scope s.heap.objs.size f cd)
 N:=N
 s₀:=s
 H₀:=H
 env:=envOfC qual scope s.heap.objs.size f cd
 outer:=outer
 stack:=envOfC qual scope s.heap.objs.size f cd::outer
 ex:=[]
 calm:=true
 fn:=fun _=>true
 pn:=[]
 xe:=fun e s'=>wpAny (model P w) (A.deeper (envOfC qual scope s.heap.objs.size f cd)) (leaving (envOfC qual scope s.heap.objs.size f cd) e) (fun _ s''=>CX outer H s E e s'') (fun e' s''=>CX outer H s E e' s'') s'
theorem A1 {sc:Scope} {n:Nat} {x:Str} (h:sc.names.lookup x=some .cell):∃ c,(cellsFrom n sc.names []).lookup x=some c:=by
 have q:=PySem.W.cellsFrom_some sc.names n [] (.inl h);exact Option.isSome_iff_exists.mp q
theorem BO {CX:CXT} {P:Program} {w:World} {K:Frag} {mg:Str->Option Value} {base:Heap} {N ps:List Str} {qual:Str} {scope:Scope} {f:Addr} {cd:Value} {A:Around} {outer:List Env} {s s1:Shared} {H:Hp} {E:XK} {us:List Value} {vs:List V}
  (S:FnScope N ps scope) (hd:A.handled=none) (e0:Env0 P w K mg base A outer s H) (hl:vs.length=ps.length) (r:Vals vs us)
  (x:InCallC s s.heap.objs.size (bindL (envOfC qual scope s.heap.objs.size f cd).kindOf (ps.zip us) fun _=>none) (cellsFrom (s.heap.objs.size+1) scope.names []) (bindC (envOfC qual scope s.heap.objs.size f cd).kindOf (ps.zip us) fun _=>none) s1) :
  Inv (cxOf CX P w K mg base N qual scope f cd A outer s H E) [] (start N vs) H s1:=by
 have hpl:ps.length<=N.length:=by have:=congrArg List.length S.pre;rw[List.length_take] at this;omega
 obtain⟨h1,tk,rfl,hk⟩:=x.done;have noA:∀ b:Addr,b ∉ (cxOf CX P w K mg base N qual scope f cd A outer s H E).ex:=fun b z=>absurd (show b∈([]:List Addr) from z) (by simp);refine⟨⟨e0.mod,S.kind,rfl,rfl,Nat.le_refl _,fun y z c h1 h2=>?_,fun y hy=>?_,fun y c _ h=>?_,fun _=>hd,Around.frames_deeper e0.frames,.inr ⟨rfl,rfl⟩,fun b z=>absurd z (noA b),e0.bs,e0.bsz,fun b _ _=>noA b,fun b z=>absurd z (noA b),e0.funs,e0.frf⟩,
  rfl,e0.bare,Un.kept hk,⟨_,x.toInCall.ns,fun i y v h1 h2 h3=>?_⟩,fun y c h=>⟨_,x.cell y c h⟩,e0.hok.fresh %[|3],fun y c h=>?_,fun p hp=>absurd (show p∈([]:List (Addr×Obj)) from hp) (by simp),e0.hok.kept hk,?_⟩
 ·exact name_of_addr x.apart (PySem.mem_of_lookup h1) (PySem.mem_of_lookup h2)
 ·have hy:scope.names.lookup y=some .cell\/scope.names.lookup y=some .free:=hy
  rcases hy with hy|hy
  ·exact A1 hy
  ·exact absurd rfl (S.nofree _ (PySem.mem_of_lookup hy))
 ·exact Nat.le_of_lt (x.above y c (PySem.mem_of_lookup h))
 ·have hi:i<vs.length:=by
   unfold start at h2;by_cases hi:i<vs.length
   ·exact hi
   ·rw[List.getElem?_append_right (by simpa using hi)] at h2
    rw[List.getElem?_replicate] at h2;split at h2<;>cases h2
  have ha:vs[i]?=some v:=by
   unfold start at h2;rw[List.getElem?_append_left (by simpa using hi),List.getElem?_map] at h2;cases e:vs[i]? with
   | none=>rw [e] at h2;cases h2
   | some a=>rw [e] at h2;cases h2;rfl
  obtain⟨u,hu,rv⟩:=r.get ha;have hp:ps[i]?=some y:=by
   rw[<- S.pre,List.getElem?_take_of_lt %[|5]];exact h1
  have ndP:ps.Nodup:=by rw[<- S.pre];exact S.nd.sublist (List.take_sublist _ _)
  refine⟨u,rv,?_⟩;rcases S.par y (List.mem_of_getElem? hp) with k|k
  ·exact .inl ⟨k,UE ndP hp hu k⟩
  ·obtain⟨c,e⟩:=A1 (n:=s.heap.objs.size+1) k
   refine .inr ⟨.inl k,c,e,?_⟩;have q:=x.cell y c e;rw[UG ndP hp hu (by show scope.names.lookup y≠_;rw[k];decide)] at q;exact q
 ·exact e0.hok.fresh (Nat.le_of_lt (x.above y c (PySem.mem_of_lookup h)))
 ·unfold start
  show _=N.length;rw[List.length_append,List.length_map,List.length_replicate];omega
theorem GO {CX:CXT} {P:Program} {w:World} {K:Frag} {mg:Str->Option Value} {base:Heap} {k:Nat} {f:Addr} {name qual:Str} {params:Arguments} {body:List Stmt} {scope:Scope} {dV kV doc pm cdv ct oc:Value} {an od:Option Addr}
  {osl:Array (Option Value)} {N ps:List Str} {sp:Sp} (lk:K.lookup f=some ⟨oc,od,.func (PySem.W.fnOf name qual params body scope dV kV doc pm an cdv ct),osl⟩) (hcd:PySem.W.codeIn K cdv qual=true) (S:FnScope N ps scope)
  (len:∀ vs H Q E,sp vs H Q E->vs.length=ps.length)
  (hbody:∀ (A:Around) (outer:List Env) (s:Shared) (H:Hp) (vs:List V) (Q:VK) (E:XK),Room k (A.deeper (envOfC qual scope s.heap.objs.size f cdv))->sp vs H Q E ->
   ∃ t,PSs (cxOf CX P w K mg base N qual scope f cdv A outer s H E) body t/\t {nx:=fun _ H'=>Q .non H',rt:=Q} (start N vs) H) :
  FnOk P w K mg base CX (k+1) f (PySem.W.fnOf name qual params body scope dV kV doc pm an cdv ct) ps sp:=by
 refine⟨len,fun A outer s H args us vs Q E hr e0 hb r hsp=>?_⟩;have hl:=len _ _ _ _ hsp;have KX:K.In s.heap:=e0.mod.kin.keeps fun b o e=>(e0.bs b o e).1;have lim:s.heap.NoLimit:=e0.mod.nolimit.keeps fun b o e=>(e0.bs b o e).1;have hkind:∀ y∈ps.zip us,scope.names.lookup y.1=some .local\/(scope.names.lookup y.1=some .cell/\((cellsFrom (s.heap.objs.size+1) scope.names []).lookup y.1).isSome=true):=fun ⟨n,v⟩ hy=>by
  rcases S.par n (List.of_mem_zip hy).1 with q|q
  ·exact .inl q
  ·exact .inr ⟨q,PySem.W.cellsFrom_some _ _ _ (.inl q)⟩
 refine codeAny_call_function hr.depth (KX _ _ lk) rfl S.co S.gen rfl (PySem.W.codeRec_of KX hcd) (hb _ _ _ _ ?_);refine wpAny_newFunctionEnv_cells S.kind hkind fun env he s1 x=>?_;subst he;refine⟨lim.keeps x.toInCall.keep,codeAny_func ?_⟩;obtain⟨t,ht,hq⟩:=hbody A outer s H vs Q E (hr.deeper _) hsp;have I:Inv (cxOf CX P w K mg base N qual scope f cdv A outer s H E) [] (start N vs) H s1:=BO S hr.hd e0 hl r x;refine wpAny_mono (ht [] s1 (start N vs) H _ I hq) (fun fl s' hs=>?_) fun e s' hs=>hs;have fin:∀ {σ':St} {H':Hp} {v:V} {u:Value},Inv (cxOf CX P w K mg base N qual scope f cdv A outer s H E) [] σ' H' s'->RelV v u->Q v H'->CE outer P w H s Q u s' :=
  fun {σ' H' v u} J rv q=>⟨v,H',J.os,J.bare,J.base,J.hok,rv,q⟩
 cases fl with
 | ret u =>
  obtain⟨v,σ',H',J,rv,q⟩:=hs;exact fin J rv q
 | next =>
  obtain⟨σ',H',J,q⟩:=hs;exact fin (v:=V.non) (u:=Value.none) J rfl q
 | brk =>
  obtain⟨_,_,_,q⟩:=hs;exact False.elim q
 | cont =>
  obtain⟨_,_,_,q⟩:=hs;exact False.elim q
end L2
namespace L2
open PySem PySem.Spec PyProof.Rows
section
variable {X:Cx} {x:Str} {p pos:Pos} {e:Expr} {es:List Expr} {t:TA} {id T:String} {r:List V->Hp->VK->Prop}
noncomputable def tCB (r:List V->Hp->VK->Prop) (t:TA):TE:=fun σ H Q=>t σ H fun vs H1=>r vs H1 Q
theorem Zq (hc:CallR X (.builtin id) r) (hg:Gl X x) (hm:X.mg x=none) (hv:bootBuiltins x=some (.builtin id)) (ha:PA X (e::es) t) (hn:x≠"__name__":=by decide) (hdb:(x==("__debug__":Str))=false:=by decide)
  (he:starEach (e::es) X.env=(false,eval e X.env)::starEach es X.env:=by rfl) (hpl:(backTo pos (starEach es X.env)).any (·.1)=false:=by rfl):PE X (.Call (.Name x p) (e::es) [] pos) (tCB r t):=by
 intro pins s σ H Q I h;refine wpAny_Call_Name_kw (Wi I hg hm hv ?_ hn hdb);exact PyProof.Rows.callWith_builtin1 (thn (ha pos pins s σ H _ I h) (by rintro us s1 ⟨vs,H1,I1,r1,q1⟩;exact hc pins s1 σ H1 vs us Q I1 r1 q1)) he hpl
theorem Uk (hc:CallR X (.type T) r) (hg:Gl X x) (hm:X.mg x=none) (hv:bootBuiltins x=some (.type T)) (ha:PA X (e::es) t) (hn:x≠"__name__":=by decide) (hdb:(x==("__debug__":Str))=false:=by decide)
  (he:starEach (e::es) X.env=(false,eval e X.env)::starEach es X.env:=by rfl) (hpl:(backTo pos (starEach es X.env)).any (·.1)=false:=by rfl):PE X (.Call (.Name x p) (e::es) [] pos) (tCB r t):=by
 intro pins s σ H Q I h;refine wpAny_Call_Name_kw (Wi I hg hm hv ?_ hn hdb);exact PyProof.Rows.callWith_type1 (thn (ha pos pins s σ H _ I h) (by rintro us s1 ⟨vs,H1,I1,r1,q1⟩;exact hc pins s1 σ H1 vs us Q I1 r1 q1)) he hpl
end
end L2
namespace HT
open PySem PyProof.Rows
section
open PySem.SeqAt
open PySem.AutoSeq1 (wpAny_loadPart')
open PySem.MeetsSeq PySem.MeetsSeq2 PySem.MeetsSeq3
end
section
variable {prog:Program} {w:World} {A:Around} {E:Value->Shared->Prop} {s:Shared}
theorem cat_tup (ht:IsTup s.heap t vs.toArray) (hb:IsTup s.heap b ws.toArray) (hv:vs≠[])
  (h1:ws=[]->Q (.ref t) s) (h2:ws≠[]->Q (.ref s.heap.objs.size) {s with heap:=s.heap.push {cls:=.type "tuple",data:=.seq (vs++ws).toArray}})
  (hsz:vs.length+ws.length<=sizeLine):wpAny (model prog w) A (binaryOp .Add (.ref t) (.ref b)) Q E s:=by
 obtain⟨⟨cls,dd,data,sl⟩,ho,hc,n,hd⟩:=id ht;obtain⟨⟨cls2,dd2,data2,sl2⟩,ho2,hc2,n2,hd2⟩:=id hb;simp only at hc hd hc2 hd2;subst hc hd hc2 hd2;have e:vs.toArray++ws.toArray=(vs++ws).toArray:=by simp
 by_cases hw:ws=[]
 ·exact concat_meets ⟨_,ho,rfl⟩ ⟨_,ho2,rfl⟩ noFill_tuple_add seq_tuple_add PySem.F.slot_tuple_add PySem.F.entry_tuple_add (PySem.F.args_tuple_add_2 _ _)
   (tuple_addW1 t b vs.toArray ws.toArray n n2 dd dd2 sl sl2 (by simpa using hv) (by simp[hw])) ⟨ho,ho2,h1 hw⟩
 ·refine concat_meets ⟨_,ho,rfl⟩ ⟨_,ho2,rfl⟩ noFill_tuple_add seq_tuple_add PySem.F.slot_tuple_add PySem.F.entry_tuple_add (PySem.F.args_tuple_add_2 _ _)
   (tuple_addW2 t b vs.toArray ws.toArray n n2 dd dd2 sl sl2 (by simpa using hv) (by simpa using hw) (by rw[List.size_toArray,List.size_toArray];exact hsz)) ⟨ho,ho2,?_⟩
  rw[e];exact h2 hw
noncomputable def sIx (n d:Nat):Option Int->Nat
 | none=>d
 | some v=>if v<0 then (v+(n:Int)).toNat else min v.toNat n
theorem sIx_none (n d:Nat):sIx n d none=d:=rfl
theorem sIx_nat (n d k:Nat):sIx n d (some (k:Int))=min k n:=by
 show (if (k:Int)<0 then ((k:Int)+(n:Int)).toNat else min (k:Int).toNat n)=min k n;rw[if_neg %[|5],Int.toNat_natCast]
theorem He (n d:Nat) (hd:d<=n) (o:Option Int):sIx n d o<=n:=by
 cases o with
 | none=>exact hd
 | some v =>
  show (if v<0 then (v+(n:Int)).toNat else min v.toNat n)<=n;by_cases hv:v<0
  ·rw[if_pos hv];omega
  ·rw[if_neg hv];exact Nat.min_le_right _ _
theorem Bt (v:Int) (n d:Nat):(if v<0 then max (v+(n:Int)) 0 else min v (n:Int))=((sIx n d (some v):Nat):Int):=by
 show (if v<0 then max (v+(n:Int)) 0 else min v (n:Int))=(((if v<0 then (v+(n:Int)).toNat else min v.toNat n):Nat):Int);by_cases hv:v<0
 ·simp only[if_pos hv];omega
 ·simp only[if_neg hv];omega
theorem AK (lo hi:Option Int) (n:Nat):Builtin.Slice.sliceAdjust lo hi 1 (n:Int)=(((sIx n 0 lo:Nat):Int),((sIx n n hi:Nat):Int)):=by
 have h1:¬ ((1:Int)<0):=by omega
 unfold Builtin.Slice.sliceAdjust;simp only[h1,if_false];refine Prod.ext ?_ ?_
 ·cases lo with
  | none=>rfl
  | some v=>exact Bt v n 0
 ·cases hi with
  | none=>rfl
  | some v=>exact Bt v n n
theorem Ak (i j:Nat):Builtin.Slice.slicePlaces (i:Int) (j:Int) 1=j-i:=by
 unfold Builtin.Slice.slicePlaces;have h1:(1:Int) > 0:=by omega
 simp only[h1,if_true,Int.ediv_one];split<;>omega
theorem VB (p:IsPart v o) (h:Q o s):wpAny (model prog w) A (Builtin.Slice.slicePartIndex v) Q E s:=by
 cases p with
 | none=>exact slicePart_none h
 | int i t=>exact slicePart_int h
theorem Xc {sl:Addr} {vl vu:Value} {lo hi:Option Int} {n:Nat} {Q:Int×Int×Nat->Shared->Prop} (hs:s.heap.IsSliceOf sl vl vu .none) (pl:IsPart vl lo) (pu:IsPart vu hi)
  (h:Q (((sIx n 0 lo:Nat):Int),1,sIx n n hi-sIx n 0 lo) s):wpAny (model prog w) A (Builtin.Slice.sliceApplied (.ref sl) (pure (n:Int))) Q E s:=by
 obtain⟨os,hos,hcs,hds⟩:=id hs;unfold Builtin.Slice.sliceApplied Builtin.Slice.sliceFields;refine wpAny_bind (wpAny_bind (wpAny_field hos hds (x:=vl) rfl (wpAny_bind (wpAny_field hos hds (x:=vu) rfl (wpAny_bind (wpAny_field hos hds (x:=.none) rfl (wpAny_pure ?_)))))));refine wpAny_bind (slicePart_none ?_);show wpAny _ _ (if ((1:Int)==0)=true then _ else _) _ _ s;rw[if_neg %[|4]];refine wpAny_bind (VB pl (wpAny_bind (VB pu (wpAny_bind (wpAny_pure ?_)))));show wpAny _ _ (match Builtin.Slice.sliceAdjust lo hi 1 (n:Int) with|(lo,hi)=>pure (lo,(1:Int),Builtin.Slice.slicePlaces lo hi 1)) _ _ s;rw[AK lo hi n];show wpAny _ _ (pure (((sIx n 0 lo:Nat):Int),(1:Int),Builtin.Slice.slicePlaces ((sIx n 0 lo:Nat):Int) ((sIx n n hi:Nat):Int) 1)) _ _ s;rw[Ak];exact wpAny_pure h
theorem D8 (xs:Array Value) (i k:Nat):((List.range k).filterMap fun (m:Nat)=>xs[((i:Int)+(m:Int)*1).toNat]?).toArray=((xs.toList.drop i).take k).toArray:=by
 have e:(fun (m:Nat)=>xs[((i:Int)+(m:Int)*1).toNat]?)=fun m=>xs[i+m]?:=by
  funext m
  have:((i:Int)+(m:Int)*1).toNat=i+m:=by omega
  rw[this]
 rw[e];have:=pick_run xs i k;rw[List.filterMap_map] at this;have e2:((fun x=>xs[x]?) ∘ fun x=>i+x)=fun m=>xs[i+m]?:=rfl;rw[e2] at this;rw[this]
theorem getItem_tuple_cut {t sl:Addr} {items:Array Value} {vl vu:Value} {lo hi:Option Int} {Q:Value->Shared->Prop} (ht:IsTup s.heap t items) (hs:s.heap.IsSliceOf sl vl vu .none) (pl:IsPart vl lo) (pu:IsPart vu hi)
  (hw:¬ (sIx items.size 0 lo=0/\sIx items.size items.size hi=items.size))
  (h:Q (.ref s.heap.objs.size) {s with heap:=s.heap.push {cls:=.type "tuple",data:=.seq ((items.toList.drop (sIx items.size 0 lo)).take (sIx items.size items.size hi-sIx items.size 0 lo)).toArray}})
  (hsz:items.size<=sizeLine):wpAny (model prog w) A (getItem (.ref t) (.ref sl)) Q E s:=by
 have htake:sizeOk (.seq ((items.toList.drop (sIx items.size 0 lo)).take (sIx items.size items.size hi-sIx items.size 0 lo)).toArray):=by
  show ((items.toList.drop (sIx items.size 0 lo)).take (sIx items.size items.size hi-sIx items.size 0 lo)).toArray.size<=sizeLine;rw[List.size_toArray,List.length_take,List.length_drop,Array.length_toList];omega
 have hj:sIx items.size items.size hi<=items.size:=He _ _ %[|3] hi;obtain⟨os,hos,hcs,hds⟩:=id hs;have hTs:s.TypeIs (.ref sl) "slice":=⟨os,hos,hcs⟩;unfold getItem
 try with_reducible refine wpAny_holding ?_
 first|refine wpAny_bind (wpAny_pure ?_)|skip
 refine wpAny_bind (wpAny_sequenceKey ht.typeIs %[|4] ?_);refine wpAny_bind (wpAny_callSpecial?_slot (name:=Str.ofString "__getitem__") ht.typeIs PyProof.Rows.slot_tuple_getitem
  (wpAny_call_entry PyProof.Rows.slot_tuple_getitem ht.typeIs entry_tuple_getitem ?_ (args_tuple_getitem _ _)))
 show wpAny _ _ (Builtin.Tuple.tupleItemsOf (.ref t) >>= _) _ _ s;refine wpAny_bind (tupleItemsOf_ ht ?_);refine wpAny_bind (wpAny_typeOf hTs ?_);rw[if_pos %[|4]];refine wpAny_bind (Xc hs pl pu ?_);have hno:¬ ((((sIx items.size 0 lo:Nat):Int)==0&&(1:Int)==1&&(sIx items.size items.size hi-sIx items.size 0 lo)==items.size)=true):=by
  intro q;rw[Bool.and_eq_true,Bool.and_eq_true] at q;have q1:((sIx items.size 0 lo:Nat):Int)=0:=eq_of_beq q.1.1;have q2:sIx items.size items.size hi-sIx items.size 0 lo=items.size:=eq_of_beq q.2;exact hw ⟨by omega,by omega⟩
 show wpAny _ _ (if (((sIx items.size 0 lo:Nat):Int)==0&&(1:Int)==1&&(sIx items.size items.size hi-sIx items.size 0 lo)==items.size)=true then _ else _) _ _ s;rw[if_neg hno,D8]
 first
  | exact wpAny_bind (m:=Builtin.Tuple.tupleExact _) (wpAny_newObj_type (wpAny_pure ⟨_,rfl,wpAny_pure h⟩) htake)
  | exact wpAny_bind (m:=Builtin.Tuple.tupleExact _) (wpAny_newObj_type (wpAny_bind (wpAny_pure (wpAny_pure ⟨_,rfl,wpAny_pure h⟩))) htake)
  | exact wpAny_bind (wpAny_bind (m:=Builtin.Tuple.tupleExact _) (wpAny_newObj_type (wpAny_pure (wpAny_pure ⟨_,rfl,wpAny_pure h⟩)) htake))
  | exact wpAny_bind (wpAny_bind (m:=Builtin.Tuple.tupleExact _) (wpAny_newObj_type (wpAny_pure ⟨_,rfl,wpAny_pure h⟩) htake))
end
end HT
namespace L2
open PySem PySem.Spec PyProof.Rows
abbrev TO:=St->Hp->(Option Int->Hp->Prop)->Prop
noncomputable def PO (X:Cx) (e:Option Expr) (t:TO):Prop :=
 ∀ (pins:List (Addr×Obj)) (s:Shared) (σ:St) (H:Hp) (Q:Option Int->Hp->Prop),Inv X pins σ H s->t σ H Q ->
  wpAny (model X.prog X.w) X.A (evalPart e X.env) (fun u s'=>∃ o H',Inv X pins σ H' s'/\IsPart u o/\Q o H') X.xe s
noncomputable def EX:TO:=fun _ H Q=>Q none H
noncomputable def IS (t:TE):TO:=fun σ H Q=>t σ H fun x H1=>∃ i,x=.int i/\Q (some i) H1
section
variable {X:Cx} {e:Expr} {te:TE} {lo hi:Option Expr} {tl th:TO} {pos p2:Pos}
theorem Fj:PO X none EX:=by
 intro pins s σ H Q I h;rw[evalPart_none];exact wpAny_pure ⟨none,H,I,.none,h⟩
theorem Fi (h:PE X e te):PO X (some e) (IS te):=by
 intro pins s σ H Q I hw;rw[evalPart_some];refine thn (h pins s σ H _ I hw) fun u s1 hq2=>?_;obtain⟨x,H1,I1,r1,q1⟩:=hq2;obtain⟨i,rfl,q⟩:=q1;obtain⟨t,rfl⟩:=r1;exact⟨some i,H1,I1,.int i t,q⟩
noncomputable def SlR (X:Cx) (r:V->Option Int->Option Int->Hp->VK->Prop):Prop :=
 ∀ (pins:List (Addr×Obj)) (s:Shared) (σ:St) (H:Hp) (x:V) (v vl vu:Value) (lo hi:Option Int) (sl:Addr) (Q:VK),Inv X pins σ H s->RelV x v->s.heap.IsSliceOf sl vl vu .none->IsPart vl lo->IsPart vu hi->r x lo hi H Q ->
  ∃ T id,typeLookup (.type T) "__getitem__"=pure (some (.builtin id))/\s.TypeIs v T/\wpAny (model X.prog X.w) X.A (getItem v (.ref sl)) (EP X pins σ Q) X.xe s
noncomputable def tSl (r:V->Option Int->Option Int->Hp->VK->Prop) (te:TE) (tl th:TO):TE:=fun σ H Q=>te σ H fun x H1=>tl σ H1 fun l H2=>th σ H2 fun u H3=>r x l u H3 Q
theorem Db (hr:SlR X r) (he:PE X e te) (hl:PO X lo tl) (hu:PO X hi th):PE X (.Subscript e (.Slice lo hi none p2) pos) (tSl r te tl th):=by
 intro pins s σ H Q I h;refine Subscript_ (thn (he pins s σ H _ I h) fun v s1 hq2=>?_);obtain⟨x,H1,I1,r1,q1⟩:=hq2;refine wpAny_Slice (thn (hl pins s1 σ H1 _ I1 q1) fun vl s2 ⟨l,H2,I2,pl,q2⟩=>thn (hu pins s2 σ H2 _ I2 q2) fun vu s3 hq2=>?_);obtain⟨u,H3,I3,pu,q3⟩:=hq2;rw[evalPart_none];refine wpAny_pure ?_;have I4:Inv X pins σ H3 {s3 with heap:=s3.heap.push {cls:=.type "slice",data:=.fields #[vl,vu,.none]}}:=I3.kept (t':=s3.toks) fun b ob q=>Heap.get?_push_of_some _ q;obtain⟨T,id,hT,ht,hg⟩:=hr pins {s3 with heap:=s3.heap.push {cls:=.type "slice",data:=.fields #[vl,vu,.none]}} σ H3 x v vl vu l u s3.heap.objs.size Q I4 r1 (Heap.IsSliceOf.new ..) pl pu q3;show wpAny (model X.prog X.w) X.A (subscriptTail e (.Slice lo hi none p2) v (.ref s3.heap.objs.size)) (EP X pins σ Q) X.xe {s3 with heap:=s3.heap.push {cls:=.type "slice",data:=.fields #[vl,vu,.none]}};exact tail_any (ops:=[.ref s3.heap.objs.size,v]) ht hT hg (by with_unfolding_all rfl)
noncomputable def cutV (xs:List V) (lo hi:Option Int):List V:=(xs.drop (HT.sIx xs.length 0 lo)).take (HT.sIx xs.length xs.length hi-HT.sIx xs.length 0 lo)
theorem V8 (xs:List V) (lo hi:Option Int):(cutV xs lo hi).length<=xs.length:=by
 unfold cutV;rw[List.length_take,List.length_drop];omega
noncomputable def rSlT (K:Frag):V->Option Int->Option Int->Hp->VK->Prop:=fun x lo hi H Q=>∃ a xs,x=.ref a/\SqT K H a xs /\
 ¬ (HT.sIx xs.length 0 lo=0/\HT.sIx xs.length xs.length hi=xs.length)/\∀ p,H p=none->Q (.ref p) (upd H p (.tup (cutV xs lo hi)))
theorem Hc:SlR X (rSlT X.K):=by
 intro pins s σ H x v vl vu lo hi sl Q I rx hs pl pu h;obtain⟨a,xs,rfl,hx,hw,q⟩:=h;cases rx;obtain⟨its,r,ht,hz⟩:=I.tuple hx;have hlen:its.toArray.size=xs.length:=by rw[List.size_toArray];exact r.length.symm
 refine⟨"tuple",_,PyProof.Rows.slot_tuple_getitem.lookup,ht.typeIs,?_⟩;refine HT.getItem_tuple_cut ht hs pl pu (by rw[hlen];exact hw) ?_ (by rw[hlen];exact hz);rw[hlen];refine⟨.ref s.heap.objs.size,_,I.laid (t':=s.toks) (o:=.tup (cutV xs lo hi)) (fun b ob q=>Heap.get?_push_of_some _ q) %[|3] ?_,rfl,q _ (I.hok.fresh %[|3])⟩;exact⟨Nat.le_trans (V8 xs lo hi) hz,_,(r.drop (HT.sIx xs.length 0 lo)).take (HT.sIx xs.length xs.length hi-HT.sIx xs.length 0 lo),IsTup.new _ _⟩
noncomputable def K4 (K:Frag):R2:=fun x y H Q=>∃ a b xs ys,x=.ref a/\y=.ref b/\SqT K H a xs/\SqT K H b ys/\xs≠[]/\xs.length+ys.length<=sizeLine /\
 (ys=[]->Q (.ref a) H)/\(ys≠[]->∀ p,H p=none->Q (.ref p) (upd H p (.tup (xs++ys))))
theorem Vals.nil_iff (r:Vals xs us):us=[] ↔ xs=[]:=by
 cases r with
 | nil=>simp
 | cons _ _=>simp
theorem Fr:OpR X (binaryOp .Add) (K4 X.K):=by
 intro pins s σ H x y v u Q I rx ry h;obtain⟨a,b,xs,ys,rfl,rfl,ha,hb,hx,hz,q1,q2⟩:=h;cases rx;cases ry;obtain⟨its,r1,p1,_⟩:=I.tuple ha;obtain⟨its2,r2,p2,_⟩:=I.tuple hb;refine HT.cat_tup p1 p2 (fun z=>hx (r1.nil_iff.mp z)) (fun z=>⟨.ref a,H,I,rfl,q1 (r2.nil_iff.mp z)⟩) (fun z=>?_) (by rw[<- r1.length,<- r2.length];exact hz);refine⟨.ref s.heap.objs.size,_,I.laid (t':=s.toks) (o:=.tup (xs++ys)) (fun b ob q=>Heap.get?_push_of_some _ q) %[|3] ?_,rfl,q2 (fun w=>z (r2.nil_iff.mpr w)) _ (I.hok.fresh %[|3])⟩;exact⟨by rw[List.length_append];exact hz,_,r1.append r2,IsTup.new _ _⟩
end
end L2
namespace L2
open PySem PySem.Spec PyProof.Rows
noncomputable def ixN (n:Nat) (i:Int):Option Nat:=if 0<=i then (if i<n then some i.toNat else none) else if -(n:Int)<=i then some (i+n).toNat else none
noncomputable def atI {α:Type} (xs:List α) (i:Int):Option α:=(ixN xs.length i).bind fun j=>xs[j]?
theorem B8 (h:ixN n i=some j):seqIndex? i n=some j/\j<n/\-(n:Int)<=i/\i<n:=by
 unfold ixN at h;by_cases h0:0<=i
 ·rw[if_pos h0] at h
  by_cases h1:i<n
  ·rw[if_pos h1] at h
   have e:i.toNat=j:=Option.some.inj h;exact⟨by rw[seqIndex_of h0 h1,e],by omega,by omega,h1⟩
  ·rw[if_neg h1] at h;cases h
 ·rw[if_neg h0] at h
  by_cases h1:-(n:Int)<=i
  ·rw[if_pos h1] at h
   have e:(i+n).toNat=j:=Option.some.inj h;exact⟨by rw[seqIndex_neg %[|5] h1,e],by omega,h1,by omega⟩
  ·rw[if_neg h1] at h;cases h
theorem Jj (h:atI xs i=some v):∃ j,seqIndex? i xs.length=some j/\xs[j]?=some v/\j<xs.length/\-(xs.length:Int)<=i/\i<xs.length:=by
 unfold atI at h;cases e:ixN xs.length i with
 | none=>rw [e] at h;cases h
 | some j =>
  rw[e] at h;obtain⟨h1,h2,h3,h4⟩:=B8 e;exact⟨j,h1,h,h2,h3,h4⟩
theorem atI_nat {α:Type} {xs:List α} {j:Nat} {v:α} (h:xs[j]?=some v):atI xs (j:Int)=some v:=by
 have hj:j<xs.length:=(List.getElem?_eq_some_iff.mp h).1;have e:ixN xs.length (j:Int)=some j:=by
  unfold ixN;rw[if_pos %[|5],if_pos %[|5]];simp
 unfold atI;rw[e];exact h
noncomputable def Jk (b:Expr):Prop:=∀ o i,subscripted b false o i=operate [o,i] (getItem o i)
noncomputable def IxR (X:Cx) (r:R2):Prop :=
 ∀ (value slice:Expr) (pins:List (Addr×Obj)) (s:Shared) (σ:St) (H:Hp) (x y:V) (v u:Value) (Q:VK),Inv X pins σ H s->RelV x v->RelV y u->r x y H Q ->
  subscripted slice false v u=operate [v,u] (getItem v u)->wpAny (model X.prog X.w) X.A (subscriptTail value slice v u) (EP X pins σ Q) X.xe s
noncomputable def MtR (X:Cx) (id:String) (r:V->List V->Hp->VK->Prop):Prop :=
 ∀ (pins:List (Addr×Obj)) (s:Shared) (σ:St) (H:Hp) (x:V) (xs:List V) (v:Value) (us:List Value) (Q:VK),Inv X pins σ H s->RelV x v->Vals xs us->r x xs H Q ->
  wpAny (model X.prog X.w) X.A (call (.builtin id) (v::us)) (EP X pins σ Q) X.xe s
section
variable {X:Cx} {a b:Expr} {ta tb:TE} {pos:Pos}
theorem Kb (hr:IxR X r) (ha:PE X a ta) (hb:PE X b tb) (hs:Jk b):PE X (.Subscript a b pos) (tOp r ta tb):=by
 intro pins s σ H Q I h;exact Subscript_ (binT ha hb I h fun v u s2 x y H2 I2 rx ry q=>hr a b pins s2 σ H2 x y v u Q I2 rx ry q (hs _ _))
noncomputable def rIxL (K:Frag):R2:=fun x y H Q=>∃ p xs i v,x=.ref p/\y=.int i/\SqL K H p xs/\atI xs i=some v/\Q v H
noncomputable def rIxT (K:Frag):R2:=fun x y H Q=>∃ p xs i v,x=.ref p/\y=.int i/\SqT K H p xs/\atI xs i=some v/\Q v H
noncomputable def rIxS:R2:=fun x y H Q=>∃ z i c,x=.str z/\y=.int i/\z.length<=sizeLine/\atI z.cps.toList i=some c/\Q (.str ⟨#[c]⟩) H
theorem B7:IxR X (rIxL X.K):=by
 intro value slice pins s σ H x y v u Q I rx ry h hs;obtain⟨p,xs,i,z,rfl,rfl,hq,he,q⟩:=h;cases rx;obtain⟨t,rfl⟩:=ry;obtain⟨its,r,pl,hz⟩:=I.list hq;obtain⟨j,h1,h2,h3,h4,h5⟩:=Jj he;obtain⟨w,ew,rw'⟩:=r.get h2;have hl:=r.length;have hn:=Wg;have fin:EP X pins σ Q w s:=⟨z,H,I,rw',q⟩;by_cases h0:0<=i
 ·have hj:i.toNat=j:=by
   rw[seqIndex_of h0 h5] at h1;exact Option.some.inj h1
  exact item_listR pl.isList h0 %[|5] (by rw[hj];simpa using ew) fin hs
 ·have hj:(i+(its.toArray.size:Int)).toNat=j:=by
   rw[seqIndex_neg %[|5] h4] at h1;rw[List.size_toArray,<- hl];exact Option.some.inj h1
  exact subscriptTail_builtinR (x:=w) pl.isList.typeIs slot_list_getitem.lookup
   (wpAny_getItem_list_neg (Q:=fun r s'=>r=w/\EP X pins σ Q r s') pl.isList %[|5] (by rw[List.size_toArray]<;>omega) %[|5] (by rw[hj];simpa using ew) ⟨rfl,fin⟩) hs
theorem HU:IxR X (rIxT X.K):=by
 intro value slice pins s σ H x y v u Q I rx ry h hs;obtain⟨p,xs,i,z,rfl,rfl,hq,he,q⟩:=h;cases rx;obtain⟨t,rfl⟩:=ry;obtain⟨its,r,pl,hz⟩:=I.tuple hq;obtain⟨j,h1,h2,h3,h4,h5⟩:=Jj he;obtain⟨w,ew,rw'⟩:=r.get h2;have hl:=r.length;have hn:=Wg;have fin:EP X pins σ Q w s:=⟨z,H,I,rw',q⟩;exact subscriptTail_builtinR (x:=w) pl.typeIs slot_tuple_getitem.lookup
  (getItem_tuple (j:=j) (Q:=fun r s'=>r=w/\EP X pins σ Q r s') pl %[|5] %[|5] (by rw[List.size_toArray,<- hl];exact h1) (by simpa using ew) ⟨rfl,fin⟩) hs
theorem HV:IxR X rIxS:=by
 intro value slice pins s σ H x y v u Q I rx ry h hs;obtain⟨z,i,c,rfl,rfl,hz,he,q⟩:=h;obtain⟨t,rfl⟩:=rx;obtain⟨t',rfl⟩:=ry;obtain⟨j,h1,h2,h3,h4,h5⟩:=Jj he;have hl:z.cps.toList.length=z.length:=by simp[Str.length]
 rw[hl] at h1 h4 h5;have hn:=Wg;exact tail_any (typeIs_str s z t) slot_str_getitem.lookup (getItem_str (c:=c) (by
  have e1:decide (i < -(2 ^ 63:Int))=false:=decide_eq_false %[|5];have e2:decide (i ≥ 2 ^ 63)=false:=decide_eq_false %[|5];rw[e1,e2,Bool.or_false]) (by rw[h1];simpa using h2) ⟨.str ⟨#[c]⟩,H,I.tok _,⟨_,rfl⟩,q⟩) hs
theorem Ax (its:List Value) (n j:Nat) (u:Value):Obj.mapSeq (·.setIfInBounds j u) {cls:=.type "list",data:=.seq its.toArray n}={cls:=.type "list",data:=.seq (its.set j u).toArray n}:=by
 simp[Obj.mapSeq]
theorem Inv.lst {pins:List (Addr×Obj)} {σ:St} {H:Hp} {s:Shared} {p:Addr} {xs:List V} (I:Inv X pins σ H s) (h:H p=some (.lst xs)) :
  ∃ (its:List Value) (n:Nat),Vals xs its/\s.heap.get? p=some {cls:=.type "list",data:=.seq its.toArray n}/\xs.length<=sizeLine:=by
 obtain⟨z,its,n,r,e⟩:=I.hok p _ h;exact⟨its,n,r,e,z⟩
theorem Inv.lstUpd {pins:List (Addr×Obj)} {σ:St} {H:Hp} {s:Shared} {p:Addr} {xs ys:List V} {its its':List Value} {n n':Nat} {f:Obj->Obj} (I:Inv X pins σ H s) (h:H p=some (.lst xs))
  (ho:s.heap.get? p=some {cls:=.type "list",data:=.seq its.toArray n}) (hf:f {cls:=.type "list",data:=.seq its.toArray n}={cls:=.type "list",data:=.seq its'.toArray n'}) (r:Vals ys its') (hz:ys.length<=sizeLine) (t:Nat) :
  Inv X pins σ (upd H p (.lst ys)) {s with heap:=s.heap.update p f,toks:=t}:=by
 have e:(s.heap.update p f).get? p=some {cls:=.type "list",data:=.seq its'.toArray n'}:=by
  rw[Heap.get?_update_self f ho (by rw[hf]<;>rfl),hf]
 refine I.write (x:=p) (e:=p) (by rw[h];trivial) (.inl rfl) (fun b u hb q=>(Heap.get?_update_other _ _ (Ne.symm hb)).trans q) ⟨_,e⟩ ?_;exact⟨hz,its',n',r,e⟩
noncomputable def K2:V->V->V->Hp->(Hp->Prop)->Prop:=fun o i v H Q=>∃ p xs k j,o=.ref p/\i=.int k/\H p=some (.lst xs)/\ixN xs.length k=some j/\Q (upd H p (.lst (xs.set j v)))
theorem CC:PSet X K2:=by
 intro pins s σ H o i v ov iv u Q I ro ri rv h;obtain⟨p,xs,k,j,rfl,rfl,hp,hj,q⟩:=h;cases ro;obtain⟨t,rfl⟩:=ri;obtain⟨its,n,r,ho,hz⟩:=I.lst hp;obtain⟨h1,h2,h3,h4⟩:=B8 hj;have hl:=r.length;have hn:=Wg;have I':Inv X pins σ (upd H p (.lst (xs.set j v))) {s with heap:=s.heap.update p (Obj.mapSeq (·.setIfInBounds j u))} :=
  I.lstUpd hp ho (Ax its n j u) (r.set rv j) (by rw[List.length_set];exact hz) s.toks
 by_cases h0:0<=k
 ·have hk:k.toNat=j:=by
   rw[seqIndex_of h0 h4] at h1;exact Option.some.inj h1
  exact PySem.W.ki_setAt ho h0 %[|5] (by rw[List.size_toArray,<- hl];exact h4) (by rw[hk];exact⟨_,I',q⟩)
 ·have hk:(k+(its.toArray.size:Int)).toNat=j:=by
   rw[seqIndex_neg %[|5] h3] at h1;rw[List.size_toArray,<- hl];exact Option.some.inj h1
  exact PySem.W.ki_setBack ho %[|5] (by rw[List.size_toArray,<- hl];exact h3) %[|5] (by rw[hk];exact⟨_,I',q⟩)
theorem UR (lo hi:Option Int) (n:Nat):(sliceBounds lo hi none n).1=((HT.sIx n 0 lo:Nat):Int)/\(sliceBounds lo hi none n).2.1=((HT.sIx n n hi:Nat):Int)/\(sliceBounds lo hi none n).2.2=1:=by
 refine⟨?_,?_,rfl⟩
 ·cases lo with
  | none=>simp[sliceBounds,HT.sIx]
  | some i =>
   simp only[sliceBounds,HT.sIx,Option.getD_none,show (1:Int) > 0 by decide,if_true];by_cases h:i<0
   ·simp only[h,if_true]<;>omega
   ·simp only[h,if_false]<;>omega
 ·cases hi with
  | none=>simp[sliceBounds,HT.sIx]
  | some i =>
   simp only[sliceBounds,HT.sIx,Option.getD_none,show (1:Int) > 0 by decide,if_true];by_cases h:i<0
   ·simp only[h,if_true]<;>omega
   ·simp only[h,if_false]<;>omega
theorem U9 (its:List Value) (lo hi:Option Int):slicePick its.toArray lo hi none=((its.drop (HT.sIx its.length 0 lo)).take (HT.sIx its.length its.length hi-HT.sIx its.length 0 lo)).toArray:=by
 obtain⟨h1,h2,h3⟩:=UR lo hi its.toArray.size;unfold slicePick;rw[h1,h2,h3];simp only[sliceRange_one,pick_run,List.size_toArray]<;>rfl
noncomputable def rSlL (K:Frag):V->Option Int->Option Int->Hp->VK->Prop:=fun x lo hi H Q=>∃ a xs,x=.ref a/\SqL K H a xs/\∀ p,H p=none->Q (.ref p) (upd H p (.lst (cutV xs lo hi)))
theorem AU:SlR X (rSlL X.K):=by
 intro pins s σ H x v vl vu lo hi sl Q I rx hs pl pu h;obtain⟨a,xs,rfl,hx,q⟩:=h;cases rx;obtain⟨its,r,ht,hz⟩:=I.list hx;have hlen:=r.length;refine⟨"list",_,slot_list_getitem.lookup,ht.isList.typeIs,?_⟩;refine wpAny_getItem_list_slice ht.isList hs pl pu .none (by simp) ?_ (by rw[List.size_toArray]<;>omega);rw[U9,<- hlen];refine⟨.ref s.heap.objs.size,_,I.laid (t':=s.toks) (o:=.lst (cutV xs lo hi)) (fun b ob q=>Heap.get?_push_of_some _ q) %[|3] ?_,rfl,q _ (I.hok.fresh %[|3])⟩;exact⟨Nat.le_trans (V8 xs lo hi) hz,_,0,(r.drop (HT.sIx xs.length 0 lo)).take (HT.sIx xs.length xs.length hi-HT.sIx xs.length 0 lo),Heap.get?_push_size _ rfl⟩
theorem Jh:CallR X (.builtin "len") (fun xs H Q=>∃ p ys,xs=[.ref p]/\(SqL X.K H p ys\/SqT X.K H p ys)/\Q (.int ys.length) H):=by
 intro pins s σ H xs us Q I r h;obtain⟨p,ys,rfl,hq,q⟩:=h;obtain⟨u,rfl,rx⟩:=WX r;cases rx;have hn:=Wg;rcases hq with hq|hq
 ·obtain⟨its,r',pl,hz⟩:=I.list hq
  have hlen:=r'.length;exact Calls.call_len_list pl.isList (by simp only[List.size_toArray]<;>omega) ⟨.int ys.length,H,I.tok _,⟨s.toks+1,by rw[List.size_toArray,hlen]⟩,q⟩
 ·obtain⟨its,r',pl,hz⟩:=I.tuple hq
  have hlen:=r'.length;exact len_tuple pl (by simp only[List.size_toArray]<;>omega) ⟨.int ys.length,H,I.tok _,⟨s.toks+1,by rw[List.size_toArray,hlen]⟩,q⟩
theorem Jg:CallR X (.builtin "len") (fun xs H Q=>∃ z,xs=[.str z]/\z.length<=sizeLine/\Q (.int z.length) H):=by
 intro pins s σ H xs us Q I r h;obtain⟨z,rfl,hz,q⟩:=h;obtain⟨u,rfl,t,rfl⟩:=WX r;have hn:=Wg;exact len_str %[|5] ⟨.int z.length,H,I.tok _,⟨_,rfl⟩,q⟩
theorem CallR.or (h:CallR X f r) (h':CallR X f r'):CallR X f (fun xs H Q=>r xs H Q\/r' xs H Q):=by
 intro pins s σ H xs us Q I rs q;rcases q with q|q
 ·exact h pins s σ H xs us Q I rs q
 ·exact h' pins s σ H xs us Q I rs q
theorem Jf:CallR X (.type "list") (fun xs H Q=>∃ p ys,xs=[.ref p]/\(SqL X.K H p ys\/SqT X.K H p ys)/\∀ l,H l=none->Q (.ref l) (upd H l (.lst ys))):=by
 intro pins s σ H xs us Q I r h;obtain⟨p,ys,rfl,hq,q⟩:=h;obtain⟨u,rfl,rx⟩:=WX r;cases rx;have fin:∀ (its:List Value),Vals ys its->ys.length<=sizeLine->∀ (h':Heap) (c':Nat),(∀ b o',s.heap.get? b=some o'->h'.get? b=some o') ->
   h'.get? s.heap.objs.size=some {cls:=.type "list",dict:=none,data:=.seq its.toArray c',slots:=#[]}->EP X pins σ Q (.ref s.heap.objs.size) {s with heap:=h'}:=fun its r' hz h' c' kp e =>
  ⟨.ref s.heap.objs.size,_,I.laid (t':=s.toks) kp %[|3] (show ObjOk X.prog X.w _ h' _ (.lst ys) from ⟨hz,its,c',r',e⟩),rfl,q _ (I.hok.fresh %[|3])⟩
 rcases hq with hq|hq
 ·obtain⟨its,r',pl,hz⟩:=I.list hq
  have hlen:=r'.length;obtain⟨o,ho,hc,n,hd⟩:=pl.isList;exact call_list_seq p (.inl rfl) ho hc hd (fun h' c' kp e=>fin its r' hz h' c' kp e) (by simp only[List.size_toArray]<;>omega)
 ·obtain⟨its,r',pl,hz⟩:=I.tuple hq
  have hlen:=r'.length;obtain⟨o,ho,hc,n,hd⟩:=pl;exact call_list_seq p (.inr rfl) ho hc hd (fun h' c' kp e=>fin its r' hz h' c' kp e) (by simp only[List.size_toArray]<;>omega)
theorem Ub:CallR X (.type "tuple") (fun xs H Q=>∃ p ys,xs=[.ref p]/\((SqL X.K H p ys/\∀ l,H l=none->Q (.ref l) (upd H l (.tup ys)))\/(SqT X.K H p ys/\Q (.ref p) H))):=by
 intro pins s σ H xs us Q I r h;obtain⟨p,ys,rfl,h⟩:=h;obtain⟨u,rfl,rx⟩:=WX r;cases rx;rcases h with ⟨hq,q⟩|⟨hq,q⟩
 ·obtain⟨its,r',pl,hz⟩:=I.list hq
  have hlen:=r'.length;refine call_tuple_list pl.isList (fun h' kp=>?_) (by simp only[List.size_toArray]<;>omega);have I1:Inv X pins σ H {s with heap:=h'}:=I.kept (t':=s.toks) kp;have I2:Inv X pins σ (upd H h'.objs.size (.tup ys)) {s with heap:=h'.push {cls:=.type "tuple",data:=.seq its.toArray}} :=
   I1.laid (t':=s.toks) (fun b o e=>Heap.get?_push_of_some _ e) %[|3] (show ObjOk X.prog X.w _ _ _ (.tup ys) from ⟨hz,its,r',IsTup.new _ _⟩)
  exact⟨.ref h'.objs.size,_,I2,rfl,q _ (I1.hok.fresh %[|3])⟩
 ·obtain⟨its,r',pl,hz⟩:=I.tuple hq
  exact call_tuple_same pl ⟨.ref p,H,I,rfl,q⟩
noncomputable def tyV (K:Frag) (T:String) (x:V) (H:Hp):Prop:=match x with
 | .str _=>T="str"
 | .int _=>T="int"
 | .ref p=>(T="list"/\∃ xs,SqL K H p xs)\/(T="tuple"/\∃ o,K.lookup p=some o/\o.cls=.type "tuple"/\o.dict=none) \/
   (T="dict"/\((∃ kvs,H p=some (.dK kvs))\/∃ kvs,H p=some (.dT kvs)))\/(T="set"/\∃ S n,H p=some (.set S n))
 | _=>False
theorem GY (I:Inv X pins σ H s) (r:RelV x v) (ty:tyV X.K T x H) :
  s.TypeIs v T/\∀ a,v=.ref a->∃ ob,s.heap.get? a=some ob/\ob.dict=none:=by
 cases x with
 | str z =>
  obtain⟨t,rfl⟩:=r;cases (show T="str" from ty);exact⟨typeIs_str s z t,fun _ e=>nomatch e⟩
 | int i =>
  obtain⟨t,rfl⟩:=r;cases (show T="int" from ty);exact⟨typeIs_int s i t,fun _ e=>nomatch e⟩
 | ref p =>
  cases r;rcases ty with ⟨rfl,xs,hq⟩|⟨rfl,o,hk,hc,hd⟩|⟨rfl,hk⟩|⟨rfl,S,n,hk⟩
  ·obtain⟨its,_,pl,_⟩:=I.list hq
   refine⟨pl.isList.typeIs,fun a e=>?_⟩;cases e;obtain⟨o,n,e,c,hd,_⟩:=pl;exact⟨o,e,hd⟩
  ·refine⟨⟨o,I.kIn p o hk,hc⟩,fun a e=>?_⟩
   cases e;exact⟨o,I.kIn _ o hk,hd⟩
  ·have z:∃ o,s.heap.get? p=some o/\o.ExactDict:=by
    rcases hk with ⟨kvs,hk⟩|⟨kvs,hk⟩
    ·obtain⟨_,_,_,_,o,_,_,e,ex,_⟩:=I.hok p _ hk
     exact⟨o,e,ex⟩
    ·obtain⟨_,_,_,_,o,_,_,e,ex,_⟩:=I.hok p _ hk
     exact⟨o,e,ex⟩
   obtain⟨o,e,ex⟩:=z;refine⟨⟨o,e,ex.1⟩,fun a e2=>?_⟩;cases e2;exact⟨o,e,ex.2.1⟩
  ·obtain⟨o,_,_,_,e,ex,_⟩:=I.hok p _ hk
   refine⟨⟨o,e,ex.1⟩,fun a e2=>?_⟩;cases e2;exact⟨o,e,ex.2.1⟩
 | _=>exact False.elim ty
noncomputable def tBM (K:Frag) (T:String) (r:V->List V->Hp->VK->Prop) (to:TE) (t:TA):TE:=fun σ H Q=>to σ H fun x H1=>tyV K T x H1/\t σ H1 fun xs H2=>r x xs H2 Q
variable {o e:Expr} {es:List Expr} {to:TE} {t:TA} {name:Str} {apos cpos:Pos} {T id:String} {r:V->List V->Hp->VK->Prop}
theorem De (pa:PlainAttrs T) (slot:Slot T name id) (hty:typeOf (.builtin id)=pure (.type "method_descriptor")) (hm:MtR X id r) (ho:PE X o to) (ha:PA X (e::es) t)
  (hbase:attributeBase o name X.env (eval o X.env)=eval o X.env:=by rfl)
  (hfew:((backTo cpos (starEach (e::es) X.env)).all (fun x=>!x.1)&&(backToKw cpos (keywordEach [] X.env)).all (fun x=>x.1.isSome)
   && decide ((e::es).length+([]:List Keyword).length+(if ([]:List Keyword).isEmpty then 0 else 1)<30))=true:=by rfl)
  (hline:(apos.endLine==cpos.line)=true:=by rfl) (hs:starEach (e::es) X.env=(false,eval e X.env)::starEach es X.env:=by rfl) (hplain:(backTo cpos (starEach es X.env)).any (·.1)=false:=by rfl) :
  PE X (.Call (.Attribute o name apos) (e::es) [] cpos) (tBM X.K T r to t):=by
 intro pins s σ H Q I h;refine wpAny_Call_method_late hbase hfew hline rfl (thn (ho pins s σ H _ I h) fun v s1 hq2=>?_);obtain⟨x,H1,I1,r1,ty,q1⟩:=hq2;obtain⟨h1,h2⟩:=GY I1 r1 ty;refine⟨T,id,pa,slot,hty,h1,h2,?_⟩;have hA:=ha cpos pins s1 σ H1 _ I1 q1;rw[hs] at hA ⊢;refine Calls.callWith_builtin (by show (false || (backTo cpos (starEach es X.env)).any (·.1))=false;rw[hplain]<;>rfl) (Calls.evalArgs_plain ?_);exact thn hA (by rintro us s2 ⟨vs,H2,I2,r2,q2⟩;exact hm pins s2 σ H2 x vs v us Q I2 r1 r2 q2)
end
end L2
namespace L2
open PySem PySem.Spec PyProof.Rows
noncomputable def MtM (X:Cx) (id:String) (r:V->List V->Hp->VK->Prop):Prop :=
 ∀ (pins:List (Addr×Obj)) (s:Shared) (σ:St) (H:Hp) (x:V) (xs:List V) (v:Value) (us:List Value) (Q:VK),Inv X pins σ H s->RelV x v->Vals xs us->r x xs H Q ->
  wpAny (model X.prog X.w) X.A (call (.builtin id) (v::us)) (EP X pins σ Q) X.xe s
theorem Vals.one:∀ {x:V} {us:List Value},Vals [x] us->∃ u,us=[u]/\RelV x u
 | _,_,.cons r .nil=>⟨_,rfl,r⟩
theorem Vals.rep (h:Vals xs us):∀ k:Nat,Vals (List.replicate k xs).flatten (List.replicate k us).flatten
 | 0=>.nil
 | k+1=>by
  rw[List.replicate_succ,List.replicate_succ,List.flatten_cons,List.flatten_cons];exact Vals.append h (Vals.rep h k)
theorem W5 (its:List Value):∀ (k:Nat) (acc:List Value),
  List.foldl (fun x1 x2=>x1++x2) acc.toArray (List.replicate k its.toArray)=(acc++(List.replicate k its).flatten).toArray
 | 0,acc=>by simp
 | k+1,acc=>by
  have e:acc.toArray++its.toArray=(acc++its).toArray:=by simp
  have e2:(acc++its)++(List.replicate k its).flatten=acc++(List.replicate (k+1) its).flatten:=by
   rw[List.replicate_succ,List.flatten_cons,List.append_assoc]
  rw[<- e2,<- W5 its k (acc++its),<- e,List.replicate_succ,List.foldl_cons]
section
variable {X:Cx} {pins:List (Addr×Obj)} {σ:St} {H:Hp} {s:Shared} {l b:Addr} {xs ys zs:List V}
theorem Inv.lset {its its':List Value} {n:Nat} {f:Array Value->Array Value} {t':Nat} (I:Inv X pins σ H s) (hH:H l=some (.lst xs))
  (e:s.heap.get? l=some {cls:=.type "list",data:=.seq its.toArray n}) (hf:f its.toArray=its'.toArray) (hv:Vals ys its') (hz:ys.length<=sizeLine) :
  Inv X pins σ (upd H l (.lst ys)) {s with heap:=s.heap.update l (Obj.mapSeq f),toks:=t'}:=by
 have q:=PySem.IsL.update e f;rw[hf] at q;refine I.write (x:=l) (e:=l) (by rw[hH];exact trivial) (.inl rfl) (fun b' u hb hu=>(Heap.get?_update_other s.heap (Obj.mapSeq f) (Ne.symm hb)).trans hu) ⟨_,q⟩ ?_;exact⟨hz,its',_,hv,q⟩
theorem Inv.lnew (I:Inv X pins σ H s) (hv:Vals ys its) (hz:ys.length<=sizeLine) :
  Inv X pins σ (upd H s.heap.objs.size (.lst ys)) {s with heap:=s.heap.push {cls:=.type "list",data:=.seq its.toArray},toks:=t'} :=
 I.laid (fun _ _ q=>Heap.get?_push_of_some _ q) %[|3] ⟨hz,its,0,hv,Heap.get?_push_size _ rfl⟩
theorem Inv.fresh (I:Inv X pins σ H s):H s.heap.objs.size=none:=I.hok.fresh %[|3]
theorem Inv.lstM (I:Inv X pins σ H s) (hH:H l=some (.lst xs)):xs.length<=sizeLine/\∃ (its:List Value) (n:Nat),Vals xs its/\xs.length=its.length/\s.heap.get? l=some {cls:=.type "list",data:=.seq its.toArray n}:=by
 obtain⟨z,its,n,r,e⟩:=I.hok l _ hH;exact⟨z,its,n,r,r.length,e⟩
theorem JE (h:n<=sizeLine):Builtin.List.listTooLong n=false:=by
 unfold Builtin.List.listTooLong;exact decide_eq_false %[|5]
end
section
variable {X:Cx}
noncomputable def Fe:V->List V->Hp->VK->Prop:=fun x vs H Q=>∃ l xs y,x=.ref l/\vs=[y]/\H l=some (.lst xs)/\xs.length<sizeLine/\Q .non (upd H l (.lst (xs++[y])))
theorem Um:MtM X "list.append" Fe:=by
 intro pins s σ H x vs v us Q I rx rv h;obtain⟨l,xs,y,rfl,rfl,hH,hz,q⟩:=h;cases rx;obtain⟨u,rfl,ru⟩:=rv.one;obtain⟨z,its,n,r,hl,e⟩:=I.lstM hH;refine call_meets F.slot_list_append ⟨_,e,rfl⟩ F.entry_list_append (F.args_list_append_2 _ _) (PySem.list_append l its.toArray n u (by rw[List.size_toArray];omega)) ⟨e,?_⟩;refine⟨.non,_,I.lset (its':=its++[u]) hH e (by simp) (r.append (.cons ru .nil)) ?_,rfl,q⟩;rw[List.length_append,List.length_singleton];omega
noncomputable def Fd:V->List V->Hp->VK->Prop:=fun x vs H Q=>∃ l b xs zs,x=.ref l/\vs=[.ref b]/\H l=some (.lst xs)/\H b=some (.lst zs)/\xs.length+zs.length<=sizeLine/\Q .non (upd H l (.lst (xs++zs)))
theorem BM:MtM X "list.extend" Fd:=by
 intro pins s σ H x vs v us Q I rx rv h;obtain⟨l,b,xs,zs,rfl,rfl,hH,hB,hz,q⟩:=h;cases rx;obtain⟨u,rfl,ru⟩:=rv.one;cases ru;obtain⟨z,its,n,r,hl,e⟩:=I.lstM hH;obtain⟨z2,its2,n2,r2,hl2,e2⟩:=I.lstM hB;have hsz:its.toArray.size+its2.toArray.size<=sizeLine:=by rw[List.size_toArray,List.size_toArray];omega
 have hlong:¬ (!its.toArray.isEmpty&&Builtin.List.listTooLong (its.toArray.size+its2.toArray.size))=true:=by
  rw[JE hsz,Bool.and_false];exact Bool.false_ne_true
 refine call_meets F.slot_list_extend ⟨_,e,rfl⟩ F.entry_list_extend (F.args_list_extend_2 _ _)
  (AutoSeq1.list_extend_list_list_0 l its.toArray n b its2.toArray n2 hlong (by rw[List.size_toArray];omega) %[|5]) ⟨e,e2,?_⟩
 refine⟨.non,_,I.lset (its':=its++its2) hH e (by simp) (r.append r2) ?_,rfl,q⟩;rw[List.length_append];omega
noncomputable def rCat:R2:=fun x y H Q=>∃ l b xs zs,x=.ref l/\y=.ref b/\H l=some (.lst xs)/\H b=some (.lst zs)/\xs.length+zs.length<=sizeLine/\∀ p,H p=none->Q (.ref p) (upd H p (.lst (xs++zs)))
theorem HD:OpR X (binaryOp .Add) rCat:=by
 intro pins s σ H x y v u Q I rx ry h;obtain⟨l,b,xs,zs,rfl,rfl,hH,hB,hz,q⟩:=h;cases rx;cases ry;obtain⟨z,its,n,r,hl,e⟩:=I.lstM hH;obtain⟨z2,its2,n2,r2,hl2,e2⟩:=I.lstM hB;refine PySem.P.add_list e e2 ?_ (by rw[List.size_toArray,List.size_toArray];omega);have ea:its.toArray++its2.toArray=(its++its2).toArray:=by simp
 rw[ea];exact⟨.ref _,_,I.lnew (t':=s.toks) (r.append r2) (by rw[List.length_append];omega),rfl,q _ I.fresh⟩
noncomputable def rRep:R2:=fun x y H Q=>∃ l k xs,x=.ref l/\y=.int k/\H l=some (.lst xs)/\-(2 ^ 63)<=k/\k<2 ^ 63/\xs.length*k.toNat<=sizeLine /\
 ∀ p,H p=none->Q (.ref p) (upd H p (.lst (List.replicate k.toNat xs).flatten))
theorem J7 (xs:List α) (k:Nat):(List.replicate k xs).flatten.length=k*xs.length:=by
 induction k with
 | zero=>simp
 | succ k ih=>rw [List.replicate_succ,List.flatten_cons,List.length_append,ih,Nat.succ_mul,Nat.add_comm]
theorem HC:OpR X (binaryOp .Mult) rRep:=by
 intro pins s σ H x y v u Q I rx ry h;obtain⟨l,k,xs,rfl,rfl,hH,h1,h2,hz,q⟩:=h;cases rx;obtain⟨t,rfl⟩:=ry;obtain⟨z,its,n,r,hl,e⟩:=I.lstM hH;have hlen:its.toArray.size*k.toNat<=sizeLine:=by rw[List.size_toArray,<- hl];exact hz
 have hcap:¬ its.toArray.size*k.toNat > (2 ^ 63-1) / 8:=by
  have:(sizeLine:Nat)<=(2 ^ 63-1) / 8:=by decide
  omega
 have hfit:¬ (!Builtin.List.listFitsIndex k)=true:=by
  rw[fitsIndex_both h1 h2];exact Bool.false_ne_true
 have hlong:¬ Builtin.List.listTooLong (its.toArray.size*k.toNat)=true:=by
  rw[JE hlen];exact Bool.false_ne_true
 have hnew:List.foldl (fun x1 x2=>x1++x2) #[] (List.replicate (if its.toArray.isEmpty=true then 0 else k.toNat) its.toArray)=(List.replicate k.toNat its).flatten.toArray:=by
  have f0:∀ m:Nat,List.foldl (fun x1 x2=>x1++x2) #[] (List.replicate m its.toArray)=(List.replicate m its).flatten.toArray:=fun m=>by
   have:=W5 its m [];rw[List.nil_append] at this;exact this
  rw[f0];cases its with
  | nil=>simp
  | cons a r'=>rw [if_neg (by simp)]
 refine wpAny_binaryOp_repeat_ref (T:="list") (U:="int") %[|4] ⟨_,e,rfl⟩ (fun s'=>typeIs_int s' k t) noFill_list_mul F.fills_int_mul F.slot_int_rmul repeat_list F.slot_int_index.lookup
  (call_meets F.slot_int_rmul (typeIs_int s k t) F.entry_int_rmul (F.args_int_rmul_2 _ _) (int___rmul___int_list k t l its.toArray n)
   ⟨e,rfl,⟨_,e,rfl⟩,call_meets F.slot_list_mul ⟨_,e,rfl⟩ F.entry_list_mul (F.args_list_mul_2 _ _) (AutoListH.list___mul___list_int_3 l its.toArray n k t hfit hcap hlong) ⟨e,?_⟩⟩)
 rw[hnew];exact⟨.ref _,_,I.lnew (t':=s.toks) (r.rep k.toNat) (by rw[J7,Nat.mul_comm];exact hz),rfl,q _ I.fresh⟩
end
section
variable {prog:Program} {w:World} {A:Around} {E:Value->Shared->Prop} {s:Shared}
set_option maxRecDepth 100000 in
end
section
variable {X:Cx}
end
end L2
namespace Att
open PySem PySem.W PySem.Calls PyProof.Rows
theorem Vc:∀ (ns:List Int) (vs:List Value),WellAll P h vs (ns.map WData.int)->IntsAre vs ns:=by
 intro ns
 induction ns with
 | nil =>
  intro vs w;rw[List.map_nil] at w;cases w;exact .nil
 | cons n ns ih =>
  intro vs w;rw[List.map_cons] at w;cases w with
  | cons a b =>
   cases a;exact .cons _ _ (ih _ b)
theorem script_of {l:OpenLaw} {n:Nat} (hn:l.most=some n) {P:Params} {h:Heap} {args:List WData} {vals:List Value}
  (hpre:l.row.toRowW.claim.pre args=true) (hwl:WellAll P h vals args) :
  ∃ a vs ns,vals=[Value.ref a]/\args=[WData.list (ns.map WData.int)]/\h.get? a=some {cls:=.type "list",data:=.seq vs.toArray}/\IntsAre vs ns/\ns.length<=n:=by
 have hsh:WShape.hasAll [] args [.list .int]=true:=(pre_splitW hpre).1;have hc:l.pre.holds [] {args:=args}=true:=(pre_splitW hpre).2;obtain⟨d,r,rfl,h1,h2⟩:=hasAllW_cons hsh;obtain rfl:=hasAllW_nil h2;obtain⟨xs,rfl,h3⟩:=hasW_list h1;obtain⟨ns,rfl⟩:=items_int h3;have hlen:ns.length<=n:=by
  unfold OpenLaw.pre at hc;have h4:(WTm.not (.lt (.lit (.int (n:Int))) (.len (.arg 0)))).holds [] {args:=[.list (ns.map .int)]}=true:=by
   have h4:=(holds_andW hc).1;rw[hn] at h4;exact h4
  have h5:=condW_of h4 (w_not (w_lt w_lit (w_len_list (w_arg rfl))));rw[List.length_map] at h5;refine Nat.le_of_not_lt fun q=>?_;have q':(n:Int)<((ns.length:Nat):Int):=by omega
  first
   | (rw [decide_eq_true q'] at h5;exact absurd h5 %[|4])
   | (simp at h5;omega)
 cases hwl with
 | cons w1 w2 =>
  cases w2;cases w1 with
  | list ho hall=>exact⟨_,_,ns,rfl,rfl,ho,Vc ns _ hall,hlen⟩
theorem post_true (l:OpenLaw) (args:List WData):l.row.toRowW.claim.post args (.bool true) args=true :=
 postW_of (r:=l.row.toRowW) (X:=(true==true))
  (show WShape.has [] (.bool true) .bool=true by first|rfl|decide|simp[WShape.has,WShape.arms,WShape.armsAll])
  (show (WTm.eq .res (.lit (.bool true))).value [] {args:=args,res:=some (.bool true),after:=args}=some (.bool (true==true)) from w_eq_bool (w_res rfl) w_lit) rfl
section
variable {prog:Program} {w:World} {A:Around} {E:Value->Shared->Prop} {s:Shared} {K:Frag}
end
end Att
namespace L2
open PySem PySem.Spec PyProof.Rows
theorem vals_ints:∀ {vs:List Value} {ns:List Int},IntsAre vs ns->Vals (ns.map V.int) vs
 | _,_,.nil=>.nil
 | _,_,.cons n t h=>.cons ⟨t,rfl⟩ (vals_ints h)
noncomputable def Only (H:Hp):Prop:=∀ b,H b=none\/∃ o xs,H b=some (.frz o (.lst xs))
theorem DU {P:Program} {w:World} {K:Frag} {mg mb:Str->Option Value} {CX:CXT} {k:Nat} {fa a:Addr} {fd:FuncData} {x:Str} {sp:Sp} {s₁:Shared} {vs:List Value} {ns:List Int}
  (KX:K.In s₁.heap) (hns:s₁.heap.Ns mainGlobals mg) (hb:s₁.heap.Ns builtinsNs mb) (hbb:∀ x:Str,x≠"__name__"->mb x=bootBuiltins x) (hlim:s₁.heap.NoLimit) (hg:s₁.gens=#[])
  (ha:s₁.heap.get? a=some {cls:=.type "list",data:=.seq vs.toArray}) (hi:IntsAre vs ns) (hl:ns.length<=sizeLine) (hr:Room k callerA)
  (F:∀ base:Heap,K.In base->base.Ns mainGlobals mg->FnOk P w K mg base CX k fa fd [x] sp) (hbind:∀ (s:Shared) (u:Value),BindsTo s fd ⟨[u],[]⟩ [(x,u)])
  (hsp:∀ H:Hp,Only H->SqL K H a (ns.map V.int)->sp [.ref a] H (fun v _=>v=.bl true) fun _ _ _=>False)
  (hCX:∀ H e s',CX [] H s₁ (fun _ _ _=>False) e s'->False) :
  codeAny (model P w) callerA (.call (.ref fa) ⟨[.ref a],[]⟩) (fun r s'=>r=.ok (.ret (.bool true))/\OldK s₁.heap s'.heap/\s'.os=s₁.os/\AllBare s'.gens) s₁:=by
 have rv:=vals_ints hi;have lenV:=hi.length;have core:∀ H:Hp,Only H->SqL K H a (ns.map V.int)->HOk P w H s₁.heap->(∀ b,H b≠none->b=a)->(H a≠none->K.lookup a=none) ->
   codeAny (model P w) callerA (.call (.ref fa) ⟨[.ref a],[]⟩) (fun r s'=>r=.ok (.ret (.bool true))/\OldK s₁.heap s'.heap/\s'.os=s₁.os/\AllBare s'.gens) s₁:=by
  intro H hO hS hok hA hK;have base_of:∀ {b:Addr} {o:Obj},s₁.heap.get? b=some o->H b=none->(hidT s₁.heap H).get? b=some o:=fun e n=>Ec e n;have noA:∀ {b:Addr} {o:Obj} {es:Array DictEntry} {ep:Nat},s₁.heap.get? b=some o->o.data=.dict es ep->H b=none:=fun {b o es ep} e d=>by
   cases q:H b with
   | none=>rfl
   | some u =>
    have e':b=a:=hA b (by rw[q];simp);subst e';rw[ha] at e;cases e;have d':Data.seq vs.toArray _=Data.dict es ep:=d;cases d'
  have nsK:∀ {b:Addr} {m:Str->Option Value},s₁.heap.Ns b m->(hidT s₁.heap H).Ns b m:=fun {b m} ⟨o,es,ep,e,d,r⟩=>⟨o,es,ep,base_of e (noA e d),d,r⟩;have hKb:K.In (hidT s₁.heap H):=fun b o e=>base_of (KX b o e) (by
   cases q:H b with
   | none=>rfl
   | some u =>
    have e':b=a:=hA b (by rw[q];simp);subst e';rw[hK (by rw[q];simp)] at e;cases e)
  have hM:Mod K mg (hidT s₁.heap H):=⟨hKb,nsK hns,⟨mb,nsK hb,hbb⟩,let ⟨mc,h1,h2⟩:=hlim;⟨mc,nsK h1,h2⟩⟩;have e0:Env0 P w K mg (hidT s₁.heap H) callerA [] s₁ H:=⟨rfl,hM,fun b o e=>Fu e,Nat.le_of_eq (BQ _ _),trivial,fun b hb=>absurd (show b∈([]:List Addr) from hb) (by simp),hok,.of_eq hg⟩;refine codeAny_mono ((F _ hKb (nsK hns)).run callerA [] s₁ H ⟨[.ref a],[]⟩ [.ref a] [.ref a] _ _ hr e0 (hbind s₁ (.ref a)) (.cons rfl .nil) (hsp H hO hS)) fun r s' h=>?_;cases r with
  | error e=>exact (hCX H e s' h).elim
  | ok fl =>
   cases fl with
   | next=>exact False.elim h
   | brk=>exact False.elim h
   | cont=>exact False.elim h
   | ret u =>
    obtain⟨v,H',os,bare,un,hok',r',q⟩:=h;have q':v=.bl true:=q;subst q';obtain rfl:u=Value.bool true:=r';refine⟨rfl,OldK.of_keep fun b o e=>?_,os,bare⟩;cases q:H b with
    | none=>exact un.keep b o e q (by intro z;exact absurd (show b∈([]:List Addr) from z) (by simp)) (by simp)
    | some u =>
     rcases hO b with z|⟨ob,xs,z⟩
     ·rw[q] at z;cases z
     ·have z2:=un.frzs b ob _ z
      obtain⟨e1,_⟩:=hok b _ z;obtain⟨e2,_⟩:=hok' b _ z2;rw[e] at e1;cases e1;exact e2
 cases hk:K.lookup a with
 | some o =>
  have e:=KX a o hk;rw[ha] at e;cases e;refine core (fun _=>none) (fun _=>.inl rfl) (.inr ⟨_,vs.toArray,_,hk,rfl,rfl,rfl,by rw[List.size_toArray,lenV];exact hl,by simpa using rv⟩) (fun b u z=>by have z':(none:Option HO)=some u:=z;cases z') (fun b z=>absurd rfl z) fun z=>absurd rfl z
 | none =>
  refine core (fun b=>if b=a then some (.frz {cls:=.type "list",data:=.seq vs.toArray} (.lst (ns.map V.int))) else none) (fun b=>?_) (.inl (.inr ⟨{cls:=.type "list",data:=.seq vs.toArray},if_pos rfl⟩)) (fun b u z=>?_) (fun b z=>?_) fun _=>hk
  ·by_cases hb:b=a
   ·exact .inr ⟨_,_,if_pos hb⟩
   ·exact .inl (if_neg hb)
  ·by_cases hb:b=a
   ·have z':=(if_pos hb).symm.trans z
    cases z';subst hb;exact⟨ha,by rw[List.length_map];exact hl,vs,_,rv,ha⟩
   ·have z':=(if_neg hb).symm.trans z
    cases z'
  ·by_cases hb:b=a
   ·exact hb
   ·exact absurd (if_neg hb) z
end L2
namespace L2
open PySem PySem.Spec PyProof.Rows
end L2
namespace L2
open PySem PySem.Spec PyProof.Rows
noncomputable def X3 (s:Stmt):Arguments:=match s with
 | .FunctionDef _ a _ _ _ _ _ _ _ _=>a
 | _=>{posonlyargs:=[],args:=[],vararg:=none,kwonlyargs:=[],kw_defaults:=[],kwarg:=none,defaults:=[]}
noncomputable def YX (s:Stmt):List Stmt:=match s with
 | .FunctionDef _ _ b _ _ _ _ _ _ _=>b
 | _=>[]
noncomputable def Ye (s:Stmt):Scope:=match s with
 | .FunctionDef _ _ _ _ _ _ sc _ _ _=>sc
 | _=>{kind:=.function,names:=[],isGenerator:=false,isCoroutine:=false}
abbrev CX0:CXT:=fun _ _ _ _ _ _=>False
abbrev E0:XK:=fun _ _ _=>False
structure Fun (K:Frag) (x qual:Str) (st:Stmt) (f:Addr) (fd:FuncData):Prop where
 ex:∃ (oc:Value) (od:Option Addr) (kV doc pm:Value) (an:Option Addr) (cdv ct:Value) (osl:Array (Option Value)),
  fd=PySem.W.fnOf x qual (X3 st) (YX st) (Ye st) .none kV doc pm an cdv ct/\K.lookup f=some ⟨oc,od,.func fd,osl⟩/\PySem.W.codeIn K cdv qual=true
 kp:PySem.W.keepIn K (.ref f)=true
section
variable {P:Program} {w:World} {K:Frag} {mg:Str->Option Value} {base:Heap}
theorem Fun.ok {x qual:Str} {st:Stmt} {f:Addr} {fd:FuncData} {N ps:List Str} {k:Nat} {sp:Sp} (F:Fun K x qual st f fd) (S:FnScope N ps (Ye st)) (len:∀ vs H Q E,sp vs H Q E->vs.length=ps.length)
  (hbody:∀ (cdv:Value) (A:Around) (outer:List Env) (s:Shared) (H:Hp) (vs:List V) (Q:VK) (E:XK),Room k (A.deeper (envOfC qual (Ye st) s.heap.objs.size f cdv))->sp vs H Q E ->
   ∃ t,PSs (cxOf CX0 P w K mg base N qual (Ye st) f cdv A outer s H E).nox (YX st) t/\t {nx:=fun _ H'=>Q .non H',rt:=Q} (start N vs) H):FnOk P w K mg base CX0 (k+1) f fd ps sp:=by
 obtain⟨oc,od,kV,doc,pm,an,cdv,ct,osl,rfl,lk,hcd⟩:=F.ex;refine GO lk hcd S len fun A outer s H vs Q E hr hsp=>?_;obtain⟨t,h,q⟩:=hbody cdv A outer s H vs Q E hr hsp;exact⟨t,h.nox,q⟩
theorem Fun.binds {x qual:Str} {st:Stmt} {f:Addr} {fd:FuncData} {ps:List Str} (F:Fun K x qual st f fd)
  (h:∀ (kV doc pm:Value) (an:Option Addr) (cdv ct:Value) (us:List Value),us.length=ps.length->bindArgs (PySem.W.fnOf x qual (X3 st) (YX st) (Ye st) .none kV doc pm an cdv ct) ⟨us,[]⟩=pure (ps.zip us)):Binds K fd ps []:=by
 obtain⟨oc,od,kV,doc,pm,an,cdv,ct,osl,rfl,lk,hcd⟩:=F.ex;exact .all (h kV doc pm an cdv ct)
theorem AC {x qual:Str} {st:Stmt} {f:Addr} {oc:Value} {od an:Option Addr} {osl:Array (Option Value)} {kV doc pm cdv ct:Value} (l:K.lookup f=some ⟨oc,od,.func (PySem.W.fnOf x qual (X3 st) (YX st) (Ye st) .none kV doc pm an cdv ct),osl⟩)
  (c:PySem.W.codeIn K cdv qual=true) (k:PySem.W.keepIn K (.ref f)=true):Fun K x qual st f (PySem.W.fnOf x qual (X3 st) (YX st) (Ye st) .none kV doc pm an cdv ct):=⟨⟨oc,od,kV,doc,pm,an,cdv,ct,osl,rfl,l,c⟩,k⟩
end
section
variable {X:Cx}
theorem pv (i:Nat) (hN:X.N[i]?=some x:=by rfl) (hv:Vis X.env.scope x:=by first|exact Or.inl rfl|exact Or.inr (Or.inl rfl)|exact Or.inr (Or.inr rfl)) (hd:(x==("__debug__":Str))=false:=by decide)
  (hcd:(x==("__classdict__":Str))=false:=by decide):PE X (.Name x pos) (tVar i):=Da hN hv hd hcd
end
end L2
end
noncomputable section
namespace L2
open PySem PySem.Spec PyProof.Rows
section
variable {κ:Type} [DecidableEq κ]
end
section
variable {P:Program} {w:World} {H:Hp} {h:Heap} {a:Addr}
end
section
variable {X:Cx} {pins:List (Addr×Obj)} {σ:St} {H:Hp} {s:Shared} {a:Addr} {y v:V} {u r:Value} {o:Option V} {A:Around} {E:Value->Shared->Prop}
end
section
variable {X:Cx} {pins:List (Addr×Obj)} {σ:St} {H:Hp} {s:Shared} {a:Addr} {kvs:List (Key×V)} {k:Key} {u:Value} {A:Around} {E:Value->Shared->Prop}
end
section
variable {X:Cx} {o i e value:Expr} {pos pos' tpos:Pos} {td ty tv:TE}
end
section
variable {X:Cx} {pos:Pos}
end
structure M1 (X:Cx) (o:Expr) (m:Str) (apos:Pos) (e:Expr) (cpos:Pos):Prop where
 base:attributeBase o m X.env (eval o X.env)=eval o X.env
 few:((backTo cpos (starEach [e] X.env)).all (fun x=>!x.1)&&(backToKw cpos (keywordEach [] X.env)).all (fun x=>x.1.isSome)
  && decide (([e]:List Expr).length+([]:List Keyword).length+(if ([]:List Keyword).isEmpty then 0 else 1)<30))=true
 line:(apos.endLine==cpos.line)=true
 trees:backTo cpos (starEach [e] X.env)=[(false,eval e X.env)]
structure M2 (X:Cx) (o:Expr) (m:Str) (apos:Pos) (e f:Expr) (cpos:Pos):Prop where
 base:attributeBase o m X.env (eval o X.env)=eval o X.env
 few:((backTo cpos (starEach [e,f] X.env)).all (fun x=>!x.1)&&(backToKw cpos (keywordEach [] X.env)).all (fun x=>x.1.isSome)
  && decide (([e,f]:List Expr).length+([]:List Keyword).length+(if ([]:List Keyword).isEmpty then 0 else 1)<30))=true
 line:(apos.endLine==cpos.line)=true
 trees:backTo cpos (starEach [e,f] X.env)=[(false,eval e X.env),(false,eval f X.env)]
section
variable {X:Cx} {pins:List (Addr×Obj)} {σ:St} {H:Hp} {s:Shared} {a:Addr} {y d:V} {u r:Value} {o:Option V} {A:Around} {E:Value->Shared->Prop}
end
section
variable {X:Cx} {o e f:Expr} {apos cpos:Pos} {td ty tx:TE}
end
section
variable {X:Cx} {pins:List (Addr×Obj)} {σ:St} {H:Hp} {s:Shared} {a:Addr} {kvs:List (Key×V)} {A:Around} {E:Value->Shared->Prop}
end
section
variable {X:Cx} {pins:List (Addr×Obj)} {σ:St} {H:Hp} {s:Shared} {a:Addr} {y:V} {u:Value} {A:Around} {E:Value->Shared->Prop}
end
end L2
end
noncomputable section
namespace DL
open PySem PySem.Spec PyProof.Rows L2
theorem VY (o:Obj) (f):(o.mapFields f).dict=o.dict:=by obtain⟨c,d,dt,sl⟩:=o;cases dt<;>rfl
noncomputable def Va (h:Heap) (b:Addr):Prop:=∃ o vs,h.get? b=some o/\o.data=.fields vs/\vs[2]?=some .none
noncomputable def Near (h h':Heap):Prop:=h.UpToSlots h'/\(∀ b o,h.get? b=some o->∃ o',h'.get? b=some o')/\∀ b,Va h b->Va h' b
theorem WV (hk:k≠2) (q:h.get? T=some oT) (dt:oT.data=.fields ts) (c:Va h b):Va (h.update T (Obj.mapFields (·.setIfInBounds k v))) b:=by
 obtain⟨o,vs,q1,q2,q3⟩:=c;by_cases z:b=T
 ·subst z
  rw[q] at q1;(first|cases (show _=_ from q1.inv)|cases q1);rw[dt] at q2;(first|cases (show _=_ from q2.inv)|cases q2);exact⟨_,_,Heap.get?_update_self _ q (Obj.isFreed_of_fields (Obj.data_mapFields dt _)),Obj.data_mapFields dt _,by rw[Array.getElem?_setIfInBounds_ne hk];exact q3⟩
 ·exact⟨o,vs,by rw[Heap.get?_update_other _ _ (Ne.symm z)];exact q1,q2,q3⟩
theorem Near.trans (a:Near h h1) (b:Near h1 h2):Near h h2:=⟨a.1.trans b.1,fun c o q=>let ⟨_,q1⟩:=a.2.1 c o q;b.2.1 c _ q1,fun c q=>b.2.2 c (a.2.2 c q)⟩
theorem Near.kept (k:∀ b o,h.get? b=some o->h'.get? b=some o):Near h h':=⟨.of_keeps k,fun b o q=>⟨o,k b o q⟩,fun b ⟨o,vs,q,r⟩=>⟨o,vs,k b o q,r⟩⟩
structure Flies (B:Heap) (l:List Env) (e:Addr) (cls:Value) (dd:Option Addr) (fl:Value) (h:Heap):Prop where
 stays:B.StaysIn h
 new:B.get? e=none
 frames:h.FunFrames B l
 tr:∃ oe vs T oT ts,h.get? e=some oe/\oe.cls=cls/\oe.dict=dd/\oe.data=.fields vs/\vs[1]?=some (.ref T)/\B.get? T=none/\T≠e/\h.get? T=some oT/\oT.data=.fields ts/\ts[3]?=some fl
section
variable {M:Model} {A:Around} {Z:Value->Shared->Prop} {s:Shared} {B:Heap} {env:Env} {outer:List Env} {L e:Addr} {Q:Unit->Shared->Prop}
theorem Us (fr:A.frames=some (env::outer)) (ff:s.heap.FunFrames B (env::outer)) (fl:env.frame=some L)
  (at_:s.heap.get? e=some oe) (st:B.StaysIn s.heap) (nw:B.get? e=none) (dt:oe.data=.fields vs) (sz:1<vs.size)
  (go:∀ h',Flies B (env::outer) e oe.cls oe.dict (rawInt L) h'->Near s.heap h'->Q () {s with heap:=h'}) :
  wpAny M A (do let x <- frameOf env;let y <- entryPlaceOf L hn;let z <- EntryCells.newEntry head x .none (rawInt L) .none y;setField (.ref e) 1 z) Q Z s:=by
 have nfr:e ∉ (env::outer).filterMap (·.frame):=fun z=>by
  obtain⟨_,o,q,r⟩:=ff.mem z;rw[at_] at q;cases q;exact r vs dt
 refine wpAny_bind (wpAny_frameOf_fun fr ff fl fun g sl=>wpAny_bind (wpAny_entryPlaceOf fun pl ok=>?_));unfold EntryCells.newEntry newFields;refine wpAny_bind (wpAny_newObj_type ?_ (ok.sizeOk5 _ _ _ _ _));generalize hO:({cls:=.type "traceback",dict:=none,data:=.fields ([head,.ref L,.none,rawInt L,.none]++(if pl.isEmpty then List.replicate 6 Value.none else pl)).toArray}:Obj)=ob;have ge:g.get? e=some oe:=(sl.2.1 e nfr).trans at_;have gB:B.StaysIn g:=fun b o q=>(sl.2.1 b fun z=>by rw[(ff.mem z).1] at q;cases q).trans (st b o q);have ge':(g.push ob).get? e=some oe:=Heap.get?_push_of_some _ ge;have obf:ob.isFreed=false:=by subst hO;rfl
 have gT:(g.push ob).get? g.objs.size=some ob:=Heap.get?_push_size g obf;have Te:g.objs.size≠e:=Nat.ne_of_gt (Heap.lt_size ge);refine wpAny_setField ge' dt sz ?_;have d3:=Obj.data_mapFields dt (·.setIfInBounds 1 (Value.ref g.objs.size));have e3:=Heap.get?_update_self (Obj.mapFields (·.setIfInBounds 1 (Value.ref g.objs.size))) ge' (Obj.isFreed_of_fields d3);have oth:∀ b o,b≠e->g.get? b=some o->((g.push ob).update e (Obj.mapFields (·.setIfInBounds 1 (Value.ref g.objs.size)))).get? b=some o:=fun b o n q=>by
  rw[Heap.get?_update_other _ _ (Ne.symm n)];exact Heap.get?_push_of_some _ q
 have nrec:∀ b o,s.heap.get? b=some o->(∀ ws,o.data≠.fields ws)->b≠e:=fun b o q r z=>by
  rw[z,at_] at q;cases q;exact r vs dt
 refine go _ ⟨fun b o q=>oth b o (fun z=>by rw[z,nw] at q;cases q) (gB b o q),nw,ff.of_keeps fun b o q r=>?_,?_⟩ ⟨fun b o q r=>?_,fun b o q=>?_,fun b c=>?_⟩
 ·obtain⟨x,y⟩:=sl.2.2 b o q
  exact⟨_,oth b _ (nrec b o q r) y,rfl⟩
 ·refine⟨_,_,g.objs.size,ob,_,e3,Obj.cls_mapFields _ _,VY _ _,d3,by simp[sz],gB.fresh,Te,?_,by subst hO;rfl,?_⟩
  ·rw[Heap.get?_update_other _ _ (Ne.symm Te)];exact gT
  ·simp
 ·obtain⟨x,y⟩:=sl.2.2 b o q
  exact⟨x,oth b _ (nrec b o q r) y⟩
 ·by_cases z:b=e
  ·subst z;exact⟨_,e3⟩
  ·obtain⟨x,y⟩:=sl.2.2 b o q
   exact⟨_,oth b _ z y⟩
 ·obtain⟨o,ws,q1,q2,q3⟩:=c
  have nb:b ∉ (env::outer).filterMap (·.frame):=fun z=>by
   obtain⟨_,o',q,r⟩:=ff.mem z;rw[q1] at q;cases q;exact r ws q2
  exact WV %[|4] ge' dt ⟨o,ws,Heap.get?_push_of_some _ ((sl.2.1 b nb).trans q1),q2,q3⟩
theorem BS (fr:A.frames=some (env::outer)) (ff:s.heap.FunFrames B (env::outer)) (fl:env.frame=some L)
  (at_:s.heap.get? e=some oe) (st:B.StaysIn s.heap) (nw:B.get? e=none) (dt:oe.data=.fields vs) (v1:vs[1]?=some .none)
  (go:∀ h',Flies B (env::outer) e oe.cls oe.dict (rawInt L) h'->Near s.heap h'->Q () {s with heap:=h'}):wpAny M A (noteFrame (.ref e) env) Q Z s:=by
 unfold noteFrame;simp only[fl];refine wpAny_bind (wpAny_field at_ dt v1 ?_);rw[if_neg %[|4]];exact Us fr ff fl at_ st nw dt (Array.getElem?_eq_some_iff.mp v1).1 go
theorem Ej (fr:A.frames=some (env::outer)) (fl:env.frame=some L) (F:Flies B (env::outer) e cls dd .none s.heap)
  (go:∀ h',Flies B (env::outer) e cls dd (rawInt L) h'->Near s.heap h'->Q () {s with heap:=h'}):wpAny M A (noteFrame (.ref e) env) Q Z s:=by
 obtain⟨st,nw,ff,oe,vs,T,oT,ts,q1,rfl,rfl,q4,q5,q6,q7,q8,q9,q10⟩:=F;unfold noteFrame;simp only[fl];refine wpAny_bind (wpAny_field q1 q4 q5 ?_);rw[if_pos (show (Value.ref T != Value.none)=true from by simp)];refine wpAny_bind (wpAny_field q8 q9 q10 ?_);rw[if_neg (show ¬ ((Value.none==rawInt L)=true) from by simp[rawInt])];refine wpAny_bind (wpAny_setField q8 q9 (Array.getElem?_eq_some_iff.mp q10).1 ?_);have oth:∀ b,b≠T->(s.heap.update T (Obj.mapFields (·.setIfInBounds 3 Value.none))).get? b=s.heap.get? b:=fun b n=>Heap.get?_update_other _ _ (Ne.symm n);have nrec:∀ b o,s.heap.get? b=some o->(∀ ws,o.data≠.fields ws)->b≠T:=fun b o q r z=>by
  rw[z,q8] at q;cases q;exact r ts q9
 refine Us (s:={s with heap:=s.heap.update T (Obj.mapFields (·.setIfInBounds 3 Value.none))}) fr (ff.of_keeps fun b o q r=>⟨o,(oth b (nrec b o q r)).trans q,rfl⟩) fl ((oth e (Ne.symm q7)).trans q1) (fun b o q=>(oth b fun z=>by rw[z,q6] at q;cases q).trans (st b o q)) nw q4 (Array.getElem?_eq_some_iff.mp q5).1 fun h' x y=>?_;refine go h' x ⟨fun b o q r=>y.1 b o ((oth b (nrec b o q r)).trans q) r,fun b o q=>?_,fun b c=>y.2.2 b (WV %[|4] q8 q9 c)⟩;by_cases z:b=T
 ·subst z;exact y.2.1 _ _ (Heap.get?_update_self _ q8 (Obj.isFreed_of_fields (Obj.data_mapFields q9 _)))
 ·exact y.2.1 b o ((oth b z).trans q)
theorem VU (F:Flies B l e cls dd fl s.heap)
  (go:∀ h',Flies B l e cls dd .none h'->Near s.heap h'->Q () {s with heap:=h'}):wpAny M A (setFlight (.ref e) none) Q Z s:=by
 obtain⟨st,nw,ff,oe,vs,T,oT,ts,q1,q2,q3,q4,q5,q6,q7,q8,q9,q10⟩:=F;have sz:=(Array.getElem?_eq_some_iff.mp q10).1;have oth:∀ b,b≠T->(s.heap.update T (Obj.mapFields (·.setIfInBounds 3 ((none:Option Addr).elim Value.none fun f=>rawInt f)))).get? b=s.heap.get? b:=fun b n=>Heap.get?_update_other _ _ (Ne.symm n);have nrec:∀ b o,s.heap.get? b=some o->(∀ ws,o.data≠.fields ws)->b≠T:=fun b o q r z=>by
  rw[z,q8] at q;cases q;exact r ts q9
 unfold setFlight;refine wpAny_bind (wpAny_field q1 q4 q5 ?_);rw[if_pos (show (Value.ref T != Value.none)=true from by simp)];refine wpAny_setField q8 q9 sz (go _ ⟨fun b o q=>(oth b fun z=>by rw[z,q6] at q;cases q).trans (st b o q),nw,ff.of_keeps fun b o q r=>⟨o,(oth b (nrec b o q r)).trans q,rfl⟩,?_⟩ ⟨fun b o q r=>⟨o.slots,(oth b (nrec b o q r)).trans q⟩,fun b o q=>?_,fun b c=>WV %[|4] q8 q9 c⟩)
 rotate_left
 ·by_cases z:b=T
  ·subst z;exact⟨_,Heap.get?_update_self _ q8 (Obj.isFreed_of_fields (Obj.data_mapFields q9 _))⟩
  ·exact⟨o,(oth b z).trans q⟩
 exact⟨oe,vs,T,_,_,(oth e (Ne.symm q7)).trans q1,q2,q3,q4,q5,q6,q7,Heap.get?_update_self _ q8 (Obj.isFreed_of_fields (Obj.data_mapFields q9 _)),Obj.data_mapFields q9 _,by simp[sz]⟩
theorem Flies.off (F:Flies B (env::outer) e cls dd fl h):Flies B outer e cls dd fl h:=⟨F.stays,F.new,F.frames.2.2,F.tr⟩
theorem BT (fr:A.frames=some (env::outer)) (fl:env.frame=some L) (F:Flies B (env::outer) e cls dd .none s.heap)
  (go:∀ h',Flies B outer e cls dd .none h'->Near s.heap h'->Q () {s with heap:=h'}):wpAny M A (leaving env (.ref e)) Q Z s:=by
 unfold leaving;exact wpAny_bind (Ej fr fl F fun h1 F1 u1=>VU F1 fun h2 F2 u2=>go h2 F2.off (u1.trans u2))
theorem AD (fl:env.frame=some L) (F:Flies B (env::outer) e cls dd (rawInt L) s.heap)
  (go:∀ h',Flies B outer e cls dd .none h'->Near s.heap h'->Q () {s with heap:=h'}):wpAny M A (leaving env (.ref e)) Q Z s:=by
 unfold leaving;refine wpAny_bind ?_;obtain⟨oe,vs,T,oT,ts,q1,q2,q3,q4,q5,q6,q7,q8,q9,q10⟩:=F.tr;unfold noteFrame;simp only[fl];refine wpAny_bind (wpAny_field q1 q4 q5 ?_);rw[if_pos (show (Value.ref T != Value.none)=true from by simp)];refine wpAny_bind (wpAny_field q8 q9 q10 ?_);rw[if_pos (show (rawInt L==rawInt L)=true from by simp)];exact wpAny_pure (VU F fun h2 F2 u2=>go h2 F2.off u2)
structure Made (h h':Heap) (e:Addr) (cls:Value) (dd:Option Addr):Prop where
 keeps:∀ b o,h.get? b=some o->h'.get? b=some o
 new:h.get? e=none
 at_:∃ oe vs,h'.get? e=some oe/\oe.cls=cls/\oe.dict=dd/\oe.data=.fields vs/\vs[1]?=some .none
theorem Made.of (mk:Heap.MadeExcOf h h' e cls vs):Made h h' e cls none :=
 let ⟨_,q1,_,_⟩:=mk.there;⟨mk.keeps,mk.new,_,_,q1,rfl,rfl,rfl,rfl⟩
theorem AI (mk:Heap.MadeExcOf h h' e cls vs):Va h' e:=let ⟨_,q1,_,_⟩:=mk.there;⟨_,_,q1,rfl,rfl⟩
theorem Made.fresh (mk:Made h h' e cls dd) (st:B.StaysIn h):B.get? e=none:=by
 cases q:B.get? e with
 | none=>rfl
 | some o=>have:=st e o q;rw[mk.new] at this;cases this
theorem AE (fr:A.frames=some (env::outer)) (fl:env.frame=some L) (ff:h.FunFrames B (env::outer)) (st:B.StaysIn h) (mk:Made h s.heap e cls dd)
  (go:∀ h',Flies B outer e cls dd .none h'->Near s.heap h'->Q () {s with heap:=h'}):wpAny M A (leaving env (.ref e)) Q Z s:=by
 obtain⟨oe,vs,q1,rfl,rfl,q4,q5⟩:=mk.at_;unfold leaving;exact wpAny_bind (BS fr (ff.of_keeps fun b o q _=>⟨o,mk.keeps b o q,rfl⟩) fl q1 (fun b o q=>mk.keeps b o (st b o q)) (mk.fresh st) q4 q5 fun h1 F1 u1=>VU F1 fun h2 F2 u2=>go h2 F2.off (u1.trans u2))
end
end DL
end
noncomputable section
namespace DL
open PySem PySem.Spec PyProof.Rows L2 PySem.W
section
variable {prog:Program} {w:World} {A:Around} {Z:Value->Shared->Prop} {s:Shared} {K:Frag} {x D:Addr} {ox:Obj} {od:Option Obj} {name:Str}
structure ExcCls (K:Frag) (D:Addr):Prop where
 ga:findIn K (.ref D) "__getattribute__"=some (some (.builtin "BaseException.__getattribute__"))
 hook:findIn K (.ref D) "__getattr__"=some none
 base:mroIn K D (.type "BaseException")=some true
 obj:mroIn K D (.type "object")=some true
 cls:(clsIn K D).isSome=true
 ca:findIn K (.ref D) "__class__"=some (some (.builtin "object.__class__"))
 cg:specialIn K (.builtin "object.__class__") "__get__"=some (some (.builtin "getset_descriptor.__get__"))
 ct:takesIn K (.builtin "object.__class__")=some true
theorem BY (L4:Looks M s.heap (isInstance (.ref x) (.type "BaseException")) true) (hq:Q () s):wpAny M A (checkBuiltinCall "BaseException.__getattribute__" ⟨[.ref x,nameV],[]⟩) Q Z s:=by
 obtain⟨hh,g,d,t,os⟩:=s;have hk:builtinKind "BaseException.__getattribute__"=some .slot:=by decide +kernel
 have hsplit:splitId "BaseException.__getattribute__"=some ("BaseException","__getattribute__"):=by decide +kernel
 have ha:=PySem.F.args_bexc_ga (.ref x) nameV;simp only[checkBuiltinCall,hk,hsplit];refine wpAny_bind (L4.at ?_)
 repeat (first|assumption|wp_step)
theorem Ek {Q:Value->Shared->Prop} {fill expr:Bool} {tk:Tok} (X:K.In s.heap) (I:InstAt s.heap x ox D od) (F:ExcCls K D)
  (h:wpAny (model prog w) A.in1 (Builtin.«object.__getattribute__» ⟨[.ref x,.str name tk],[]⟩)
   (fun fin s'=>match fin with | .done (.ret v)=>wpAny (model prog w) A (handedOut v) Q (fun _ _=>False) s' | _=>False) (fun _ _=>False) s) :
  wpAny (model prog w) A (getAttrBy (.ref x) (.str name tk) fill expr) Q Z s:=by
 obtain⟨hh,g,d,t,os⟩:=s;have L0:=I.type (M:=model prog w);have L1:=looks_findIn (M:=model prog w) X F.ga;have L2:=looks_findIn (M:=model prog w) X F.hook;have L3:=looks_mroIn (M:=model prog w) X F.base;have hx2:(Value.builtin "BaseException.__getattribute__" == Value.builtin "object.__getattribute__")=false:=by decide +kernel
 have tf:typeOf (.builtin "BaseException.__getattribute__")=pure (.type "wrapper_descriptor"):=by kernel_rfl
 unfold getAttrBy;refine wpAny_holding (wpAny_bind (L0.at (wpAny_bind (L1.at ?_))));dsimp only;rw[if_neg (by rw[hx2];simp)];unfold getAttrByItsOwn hookBefore;rw[if_pos (show onTheHeap (Value.ref D)=true from rfl)];refine wpAny_bind (L2.at ?_);unfold callGetattribute;rw[show (expr&&onTheHeap (Value.builtin "BaseException.__getattribute__"))=false from Bool.and_false _,if_neg (by simp)];refine wpAny_bind (wpAny_attempt (wpAny_holding ?_));unfold boundAndCalled bindSpecial;rw[tf];refine wpAny_bind (wpAny_bind (wpAny_pure ?_));rw[if_pos %[|4]];refine wpAny_pure (wpAny_call (codeAny_call_builtin ?pl PySem.F.entry_bexc_ga ?ck))
 case pl=>exact PySem.F.excAttr_ValueError.ga.plain
 case ck =>
  refine BY (L0.andThen L3) (wpAny_mono h (fun fin s' z=>?_) fun _ _ z=>z.elim);rcases fin with (_|_|_|_)|_<;>first|exact z.elim|exact wpAny_mono z (fun v s'' hv=>hv) fun _ _ z=>z.elim
theorem VV (c:(clsIn K D).isSome=true) (F:ExcCls K D):findObj K D od "__class__"=some (.bind (.builtin "getset_descriptor.__get__") (.builtin "object.__class__")):=by
 obtain⟨cd,hc⟩:=Option.isSome_iff_exists.mp c;unfold findObj;rw[hc,Option.bind_some,F.ca,Option.bind_some];simp[F.cg,F.ct]
theorem BU {Q:Option Value->Shared->Prop} (X:K.In s.heap) (I:InstAt s.heap x ox D od) (F:ExcCls K D) (h:Q (some (.ref D)) {s with toks:=s.toks+1}):wpAny (model prog w) A (getAttr? (.ref x) "__class__") Q Z s:=by
 unfold getAttr? getAttrBy?;refine wpAny_bind (wpAny_mkText (wpAny_bind (wpAny_attempt (Ek (s:={s with toks:=s.toks+1}) X I F ?_))));obtain⟨hh,g,d,t,os⟩:=s;have L0:=I.type (M:=model prog w);have L1:=looks_find (M:=model prog w) X I (VV F.cls F);unfold Builtin.«object.__getattribute__»;refine wpAny_bind (wpAny_pure (wpAny_bind ?_));show wpAny _ _ (pure _) _ _ _;refine wpAny_pure (wpAny_bind (L0.at (wpAny_bind (L1.at ?_))));dsimp only;unfold Builtin.ObjectAttr.bindTo;refine wpAny_bind (wpAny_holding (wpAny_call (class_get (s:=⟨hh,g,d,t+1,os⟩) X I F.obj ?_)));refine wpAny_pure ?_;show wpAny _ _ (handedOut (.ref D)) _ _ _;refine wpAny_pure (wpAny_pure ?_);exact h
theorem Ww (F:ExcCls K D):KitX K (.ref x) (.ref D) (fun h=>∃ ox od,InstAt h x ox D od) where
 ty:=fun _ _ _ ⟨_,_,I⟩=>I.type
 it:=fun M h X _=>by
  obtain⟨cd,hc⟩:=Option.isSome_iff_exists.mp F.cls;unfold clsIn at hc;split at hc
  ·rename_i ho
   intro A' Q' E' s' k q;unfold isType loadHead;exact wpAny_bind (wpAny_loadPart (k _ _ (X _ _ ho)) (wpAny_pure q))
  ·cases hc
 ne:=fun h tp dd its n sl X htp=>by
  obtain⟨cd,hc⟩:=Option.isSome_iff_exists.mp F.cls;refine Bool.eq_false_iff.mpr fun q=>?_;obtain rfl:D=tp:=Value.ref.inj (beq_iff_eq.mp q);unfold clsIn at hc;split at hc
  ·rename_i ho
   have z:=(X _ _ ho).symm.trans htp;cases z
  ·cases hc
 ca:=fun X ⟨_,_,I⟩ k=>BU X I F k
end
noncomputable def xPlain:List Str:=["NoNumber","NoTube","NoRow","NoMeasure","NoData","NoPrice","NoNeeds","NoRoom","NoJobs"]
noncomputable def xInit:List Str:=["NoText","NoLevel","NoCall","NoKept"]
noncomputable def xNames:List Str:="CordError" :: (xPlain++xInit)
noncomputable def YH (n c:Str):Bool:=decide (n=c) || decide (c="CordError")
noncomputable def bmV:List Value:=[.type "ValueError",.type "Exception",.type "BaseException",.type "object"]
noncomputable def WC (K:Frag) (n:Str):Option Addr:=match nsIn K mainGlobals n with|some (some (.ref C))=>some C|_=>none
noncomputable def Be (K:Frag) (D:Addr):Bool :=
 (findIn K (.ref D) "__getattribute__" == some (some (.builtin "BaseException.__getattribute__")))&&(findIn K (.ref D) "__getattr__" == some none)&&(mroIn K D (.type "BaseException")==some true)&&(mroIn K D (.type "object")==some true)&&(clsIn K D).isSome
 && (findIn K (.ref D) "__class__" == some (some (.builtin "object.__class__")))&&(specialIn K (.builtin "object.__class__") "__get__" == some (some (.builtin "getset_descriptor.__get__")))&&(takesIn K (.builtin "object.__class__")==some true)
noncomputable def Cl (K:Frag):Bool:=xNames.all fun n=>match WC K n with
 | none=>true
 | some D=>Be K D&&(!(xPlain.contains n) || excIn K D bmV "ValueError.__new__")&&(kitOne K (.ref D) (.type "ValueError")==some true)&&(["int","bool","str","tuple","list","dict"].all fun T=>kitOne K (.ref D) (.type T)==some false)&&xNames.all fun c=>match WC K c with
  | none=>true
  | some C=>(exmOne K (.ref D) (.ref C)==some (YH n c))&&(kitOne K (.ref D) (.ref C)==some (YH n c))
noncomputable def oNames:List Str:=["Funnel"]
noncomputable def oFields:List Str:=["places","touches","showing"]
noncomputable def GE (K:Frag):Bool:=oNames.all fun n=>match WC K n with
 | none=>true
 | some C=>plainGet K C Str.empty&&hasDictIn K C&&plainOver K C&&(findIn K (.ref C) "__setattr__" == some (some (.builtin "object.__setattr__")))&&oFields.all fun f=>findIn K (.ref C) f==some none
noncomputable def Z1 (K:Frag) (n:Str) (C:Addr):Prop:=nsIn K mainGlobals n=some (some (.ref C))
section
variable {K:Frag} {n c:Str} {C D:Addr}
theorem U2 (h:Z1 K n D):WC K n=some D:=by unfold WC;rw[show nsIn K mainGlobals n=some (some (.ref D)) from h]
end
end DL
end
noncomputable section
namespace DL
open PySem PySem.Spec PyProof.Rows L2 PySem.W PySem.Builtin PySem.Builtin.ObjectAttr
theorem Y7 {c:Prop} [Decidable c] {f:c->Bool} (h:(if h:c then f h else false)=true):∃ h:c,f h=true:=by
 by_cases z:c
 ·rw[dif_pos z] at h;exact⟨z,h⟩
 ·rw[dif_neg z] at h;cases h
noncomputable def YL (x:Expr) (q:Str->Pos->Bool):Bool:=if h:x.ctorIdx=23 then @Expr.Name.elim (fun _=>Bool) x h q else false
@[elab_as_elim] theorem gNm {P:Expr->Prop} (x) {q} (h:YL x q) (k:∀ a b,q a b->P (.Name a b)):P x:=(Y7 h).elim fun i j=>@Expr.Name.elim (fun x=>∀ i,@Expr.Name.elim (fun _=>Bool) x i q->P x) x i (fun a b _=>k a b) i j
noncomputable def ZF (x:Expr) (q:Const->Nat->Pos->Bool):Bool:=if h:x.ctorIdx=19 then @Expr.Constant.elim (fun _=>Bool) x h q else false
@[elab_as_elim] theorem gConstant {P:Expr->Prop} (x) {q} (h:ZF x q) (k:∀ a b c,q a b c->P (.Constant a b c)):P x:=(Y7 h).elim fun i j=>@Expr.Constant.elim (fun x=>∀ i,@Expr.Constant.elim (fun _=>Bool) x i q->P x) x i (fun a b c _=>k a b c) i j
noncomputable def CV (x:Expr) (q:Expr->Operator->Expr->Pos->Bool):Bool:=if h:x.ctorIdx=2 then @Expr.BinOp.elim (fun _=>Bool) x h q else false
@[elab_as_elim] theorem gBinOp {P:Expr->Prop} (x) {q} (h:CV x q) (k:∀ a b c d,q a b c d->P (.BinOp a b c d)):P x:=(Y7 h).elim fun i j=>@Expr.BinOp.elim (fun x=>∀ i,@Expr.BinOp.elim (fun _=>Bool) x i q->P x) x i (fun a b c d _=>k a b c d) i j
noncomputable def VF (x:Expr) (q:UnaryOp->Expr->Pos->Bool):Bool:=if h:x.ctorIdx=3 then @Expr.UnaryOp.elim (fun _=>Bool) x h q else false
@[elab_as_elim] theorem gUnaryOp {P:Expr->Prop} (x) {q} (h:VF x q) (k:∀ a b c,q a b c->P (.UnaryOp a b c)):P x:=(Y7 h).elim fun i j=>@Expr.UnaryOp.elim (fun x=>∀ i,@Expr.UnaryOp.elim (fun _=>Bool) x i q->P x) x i (fun a b c _=>k a b c) i j
noncomputable def VG (x:Expr) (q:Expr->(List CmpOp)->(List Expr)->Pos->Bool):Bool:=if h:x.ctorIdx=15 then @Expr.Compare.elim (fun _=>Bool) x h q else false
@[elab_as_elim] theorem gCompare {P:Expr->Prop} (x) {q} (h:VG x q) (k:∀ a b c d,q a b c d->P (.Compare a b c d)):P x:=(Y7 h).elim fun i j=>@Expr.Compare.elim (fun x=>∀ i,@Expr.Compare.elim (fun _=>Bool) x i q->P x) x i (fun a b c d _=>k a b c d) i j
noncomputable def Vi (x:Expr) (q:BoolOp->(List Expr)->Pos->Bool):Bool:=if h:x.ctorIdx=0 then @Expr.BoolOp.elim (fun _=>Bool) x h q else false
@[elab_as_elim] theorem gBoolOp {P:Expr->Prop} (x) {q} (h:Vi x q) (k:∀ a b c,q a b c->P (.BoolOp a b c)):P x:=(Y7 h).elim fun i j=>@Expr.BoolOp.elim (fun x=>∀ i,@Expr.BoolOp.elim (fun _=>Bool) x i q->P x) x i (fun a b c _=>k a b c) i j
noncomputable def CQ (x:Expr) (q:Expr->Expr->Expr->Pos->Bool):Bool:=if h:x.ctorIdx=5 then @Expr.IfExp.elim (fun _=>Bool) x h q else false
@[elab_as_elim] theorem gIfExp {P:Expr->Prop} (x) {q} (h:CQ x q) (k:∀ a b c d,q a b c d->P (.IfExp a b c d)):P x:=(Y7 h).elim fun i j=>@Expr.IfExp.elim (fun x=>∀ i,@Expr.IfExp.elim (fun _=>Bool) x i q->P x) x i (fun a b c d _=>k a b c d) i j
noncomputable def XA (x:Expr) (q:(List Expr)->Nat->Pos->Bool):Bool:=if h:x.ctorIdx=25 then @Expr.Tuple.elim (fun _=>Bool) x h q else false
@[elab_as_elim] theorem gTuple {P:Expr->Prop} (x) {q} (h:XA x q) (k:∀ a b c,q a b c->P (.Tuple a b c)):P x:=(Y7 h).elim fun i j=>@Expr.Tuple.elim (fun x=>∀ i,@Expr.Tuple.elim (fun _=>Bool) x i q->P x) x i (fun a b c _=>k a b c) i j
noncomputable def Gz (x:Expr) (q:(List Expr)->Pos->Bool):Bool:=if h:x.ctorIdx=24 then @Expr.List.elim (fun _=>Bool) x h q else false
@[elab_as_elim] theorem gList {P:Expr->Prop} (x) {q} (h:Gz x q) (k:∀ a b,q a b->P (.List a b)):P x:=(Y7 h).elim fun i j=>@Expr.List.elim (fun x=>∀ i,@Expr.List.elim (fun _=>Bool) x i q->P x) x i (fun a b _=>k a b) i j
noncomputable def Xl (x:Expr) (q:Expr->Expr->Pos->Bool):Bool:=if h:x.ctorIdx=21 then @Expr.Subscript.elim (fun _=>Bool) x h q else false
@[elab_as_elim] theorem gSubscript {P:Expr->Prop} (x) {q} (h:Xl x q) (k:∀ a b c,q a b c->P (.Subscript a b c)):P x:=(Y7 h).elim fun i j=>@Expr.Subscript.elim (fun x=>∀ i,@Expr.Subscript.elim (fun _=>Bool) x i q->P x) x i (fun a b c _=>k a b c) i j
noncomputable def CM (x:Expr) (q:(Option Expr)->(Option Expr)->(Option Expr)->Pos->Bool):Bool:=if h:x.ctorIdx=26 then @Expr.Slice.elim (fun _=>Bool) x h q else false
@[elab_as_elim] theorem gSlice {P:Expr->Prop} (x) {q} (h:CM x q) (k:∀ a b c d,q a b c d->P (.Slice a b c d)):P x:=(Y7 h).elim fun i j=>@Expr.Slice.elim (fun x=>∀ i,@Expr.Slice.elim (fun _=>Bool) x i q->P x) x i (fun a b c d _=>k a b c d) i j
noncomputable def Xs (x:Expr) (q:Expr->(List Expr)->(List Keyword)->Pos->Bool):Bool:=if h:x.ctorIdx=16 then @Expr.Call.elim (fun _=>Bool) x h q else false
@[elab_as_elim] theorem gCall {P:Expr->Prop} (x) {q} (h:Xs x q) (k:∀ a b c d,q a b c d->P (.Call a b c d)):P x:=(Y7 h).elim fun i j=>@Expr.Call.elim (fun x=>∀ i,@Expr.Call.elim (fun _=>Bool) x i q->P x) x i (fun a b c d _=>k a b c d) i j
noncomputable def Zf (x:Expr) (q:Expr->Str->Pos->Bool):Bool:=if h:x.ctorIdx=20 then @Expr.Attribute.elim (fun _=>Bool) x h q else false
@[elab_as_elim] theorem gAttribute {P:Expr->Prop} (x) {q} (h:Zf x q) (k:∀ a b c,q a b c->P (.Attribute a b c)):P x:=(Y7 h).elim fun i j=>@Expr.Attribute.elim (fun x=>∀ i,@Expr.Attribute.elim (fun _=>Bool) x i q->P x) x i (fun a b c _=>k a b c) i j
noncomputable def WL (x:Expr) (q:Expr->(List Comprehension)->Scope->Pos->Bool):Bool:=if h:x.ctorIdx=8 then @Expr.ListComp.elim (fun _=>Bool) x h q else false
@[elab_as_elim] theorem gListComp {P:Expr->Prop} (x) {q} (h:WL x q) (k:∀ a b c d,q a b c d->P (.ListComp a b c d)):P x:=(Y7 h).elim fun i j=>@Expr.ListComp.elim (fun x=>∀ i,@Expr.ListComp.elim (fun _=>Bool) x i q->P x) x i (fun a b c d _=>k a b c d) i j
noncomputable def qMk (x:Comprehension) (q:Expr->Expr->(List Expr)->Int->Bool):Bool:=match x with | .mk a b c d=>q a b c d
@[elab_as_elim] theorem gMk {P:Comprehension->Prop} (x) {q} (h:qMk x q) (k:∀ a b c d,q a b c d->P (.mk a b c d)):P x:=by
 cases x with
 | mk a b c d=>exact k a b c d h
noncomputable def qInt (x:Const) (q:Int->Bool):Bool:=if h:x.ctorIdx=2 then @Const.int.elim (fun _=>Bool) x h q else false
@[elab_as_elim] theorem gInt {P:Const->Prop} (x) {q} (h:qInt x q) (k:∀ a,q a->P (.int a)):P x:=(Y7 h).elim fun i j=>@Const.int.elim (fun x=>∀ i,@Const.int.elim (fun _=>Bool) x i q->P x) x i (fun a _=>k a) i j
noncomputable def GA (x:Const) (q:Bool->Bool):Bool:=if h:x.ctorIdx=1 then @Const.bool.elim (fun _=>Bool) x h q else false
@[elab_as_elim] theorem gBool {P:Const->Prop} (x) {q} (h:GA x q) (k:∀ a,q a->P (.bool a)):P x:=(Y7 h).elim fun i j=>@Const.bool.elim (fun x=>∀ i,@Const.bool.elim (fun _=>Bool) x i q->P x) x i (fun a _=>k a) i j
noncomputable def qStr (x:Const) (q:Str->Bool):Bool:=if h:x.ctorIdx=5 then @Const.str.elim (fun _=>Bool) x h q else false
@[elab_as_elim] theorem gStr {P:Const->Prop} (x) {q} (h:qStr x q) (k:∀ a,q a->P (.str a)):P x:=(Y7 h).elim fun i j=>@Const.str.elim (fun x=>∀ i,@Const.str.elim (fun _=>Bool) x i q->P x) x i (fun a _=>k a) i j
noncomputable def CU (x:Const) (q:Bool):Bool:=if h:x.ctorIdx=0 then @Const.none.elim (fun _=>Bool) x h q else false
@[elab_as_elim] theorem gCnone {P:Const->Prop} (x) {q} (h:CU x q) (k:q->P .none):P x:=(Y7 h).elim fun i j=>@Const.none.elim (fun x=>∀ i,@Const.none.elim (fun _=>Bool) x i q->P x) x i (fun _=>k) i j
noncomputable def Gy (x:UnaryOp) (q:Bool):Bool:=if h:x.ctorIdx=3 then @UnaryOp.USub.elim (fun _=>Bool) x h q else false
@[elab_as_elim] theorem gUSub {P:UnaryOp->Prop} (x) {q} (h:Gy x q) (k:q->P .USub):P x:=(Y7 h).elim fun i j=>@UnaryOp.USub.elim (fun x=>∀ i,@UnaryOp.USub.elim (fun _=>Bool) x i q->P x) x i (fun _=>k) i j
noncomputable def qNot (x:UnaryOp) (q:Bool):Bool:=if h:x.ctorIdx=1 then @UnaryOp.Not.elim (fun _=>Bool) x h q else false
@[elab_as_elim] theorem gNot {P:UnaryOp->Prop} (x) {q} (h:qNot x q) (k:q->P .Not):P x:=(Y7 h).elim fun i j=>@UnaryOp.Not.elim (fun x=>∀ i,@UnaryOp.Not.elim (fun _=>Bool) x i q->P x) x i (fun _=>k) i j
noncomputable def qAnd (x:BoolOp) (q:Bool):Bool:=if h:x.ctorIdx=0 then @BoolOp.And.elim (fun _=>Bool) x h q else false
@[elab_as_elim] theorem gAnd {P:BoolOp->Prop} (x) {q} (h:qAnd x q) (k:q->P .And):P x:=(Y7 h).elim fun i j=>@BoolOp.And.elim (fun x=>∀ i,@BoolOp.And.elim (fun _=>Bool) x i q->P x) x i (fun _=>k) i j
noncomputable def qOr (x:BoolOp) (q:Bool):Bool:=if h:x.ctorIdx=1 then @BoolOp.Or.elim (fun _=>Bool) x h q else false
@[elab_as_elim] theorem gOr {P:BoolOp->Prop} (x) {q} (h:qOr x q) (k:q->P .Or):P x:=(Y7 h).elim fun i j=>@BoolOp.Or.elim (fun x=>∀ i,@BoolOp.Or.elim (fun _=>Bool) x i q->P x) x i (fun _=>k) i j
noncomputable def qNil {α:Type} (x:List α) (q:Bool):Bool:=if h:x.ctorIdx=0 then @List.nil.elim α (fun _=>Bool) x h q else false
@[elab_as_elim] theorem gNil {α:Type} {P:List α->Prop} (x) {q} (h:qNil x q) (k:q->P .nil):P x:=(Y7 h).elim fun i j=>@List.nil.elim α (fun x=>∀ i,@List.nil.elim α (fun _=>Bool) x i q->P x) x i (fun _=>k) i j
noncomputable def Yg {α:Type} (x:List α) (q:α->(List α)->Bool):Bool:=if h:x.ctorIdx=1 then @List.cons.elim α (fun _=>Bool) x h q else false
@[elab_as_elim] theorem Yo {α:Type} {P:List α->Prop} (x) {q} (h:Yg x q) (k:∀ a b,q a b->P (.cons a b)):P x:=(Y7 h).elim fun i j=>@List.cons.elim α (fun x=>∀ i,@List.cons.elim α (fun _=>Bool) x i q->P x) x i (fun a b _=>k a b) i j
noncomputable def CP {α:Type} (x:Option α) (q:Bool):Bool:=if h:x.ctorIdx=0 then @Option.none.elim α (fun _=>Bool) x h q else false
@[elab_as_elim] theorem gNone {α:Type} {P:Option α->Prop} (x) {q} (h:CP x q) (k:q->P .none):P x:=(Y7 h).elim fun i j=>@Option.none.elim α (fun x=>∀ i,@Option.none.elim α (fun _=>Bool) x i q->P x) x i (fun _=>k) i j
noncomputable def CL {α:Type} (x:Option α) (q:α->Bool):Bool:=if h:x.ctorIdx=1 then @Option.some.elim α (fun _=>Bool) x h q else false
@[elab_as_elim] theorem gSome {α:Type} {P:Option α->Prop} (x) {q} (h:CL x q) (k:∀ a,q a->P (.some a)):P x:=(Y7 h).elim fun i j=>@Option.some.elim α (fun x=>∀ i,@Option.some.elim α (fun _=>Bool) x i q->P x) x i (fun a _=>k a) i j
noncomputable def XW (x:Stmt) (q:(List Expr)->Expr->Pos->Bool):Bool:=if h:x.ctorIdx=5 then @Stmt.Assign.elim (fun _=>Bool) x h q else false
@[elab_as_elim] theorem gAssign {P:Stmt->Prop} (x) {q} (h:XW x q) (k:∀ a b c,q a b c->P (.Assign a b c)):P x:=(Y7 h).elim fun i j=>@Stmt.Assign.elim (fun x=>∀ i,@Stmt.Assign.elim (fun _=>Bool) x i q->P x) x i (fun a b c _=>k a b c) i j
noncomputable def AW (x:Stmt) (q:(Option Expr)->Pos->Bool):Bool:=if h:x.ctorIdx=3 then @Stmt.Return.elim (fun _=>Bool) x h q else false
@[elab_as_elim] theorem gReturn {P:Stmt->Prop} (x) {q} (h:AW x q) (k:∀ a b,q a b->P (.Return a b)):P x:=(Y7 h).elim fun i j=>@Stmt.Return.elim (fun x=>∀ i,@Stmt.Return.elim (fun _=>Bool) x i q->P x) x i (fun a b _=>k a b) i j
noncomputable def qFor (x:Stmt) (q:Expr->Expr->(List Stmt)->(List Stmt)->Pos->Bool):Bool:=if h:x.ctorIdx=9 then @Stmt.For.elim (fun _=>Bool) x h q else false
@[elab_as_elim] theorem gFor {P:Stmt->Prop} (x) {q} (h:qFor x q) (k:∀ a b c d e,q a b c d e->P (.For a b c d e)):P x:=(Y7 h).elim fun i j=>@Stmt.For.elim (fun x=>∀ i,@Stmt.For.elim (fun _=>Bool) x i q->P x) x i (fun a b c d e _=>k a b c d e) i j
noncomputable def CK (x:Stmt) (q:Expr->(List Stmt)->(List Stmt)->Pos->Bool):Bool:=if h:x.ctorIdx=11 then @Stmt.While.elim (fun _=>Bool) x h q else false
@[elab_as_elim] theorem gWhile {P:Stmt->Prop} (x) {q} (h:CK x q) (k:∀ a b c d,q a b c d->P (.While a b c d)):P x:=(Y7 h).elim fun i j=>@Stmt.While.elim (fun x=>∀ i,@Stmt.While.elim (fun _=>Bool) x i q->P x) x i (fun a b c d _=>k a b c d) i j
noncomputable def qIf (x:Stmt) (q:Expr->(List Stmt)->(List Stmt)->Pos->Bool):Bool:=if h:x.ctorIdx=12 then @Stmt.If.elim (fun _=>Bool) x h q else false
@[elab_as_elim] theorem gIf {P:Stmt->Prop} (x) {q} (h:qIf x q) (k:∀ a b c d,q a b c d->P (.If a b c d)):P x:=(Y7 h).elim fun i j=>@Stmt.If.elim (fun x=>∀ i,@Stmt.If.elim (fun _=>Bool) x i q->P x) x i (fun a b c d _=>k a b c d) i j
noncomputable def CN (x:Stmt) (q:(Option Expr)->(Option Expr)->Pos->Bool):Bool:=if h:x.ctorIdx=16 then @Stmt.Raise.elim (fun _=>Bool) x h q else false
@[elab_as_elim] theorem gRaise {P:Stmt->Prop} (x) {q} (h:CN x q) (k:∀ a b c,q a b c->P (.Raise a b c)):P x:=(Y7 h).elim fun i j=>@Stmt.Raise.elim (fun x=>∀ i,@Stmt.Raise.elim (fun _=>Bool) x i q->P x) x i (fun a b c _=>k a b c) i j
noncomputable def CT (x:Stmt) (q:Expr->Pos->Bool):Bool:=if h:x.ctorIdx=24 then @Stmt.Expr.elim (fun _=>Bool) x h q else false
@[elab_as_elim] theorem gExpr {P:Stmt->Prop} (x) {q} (h:CT x q) (k:∀ a b,q a b->P (.Expr a b)):P x:=(Y7 h).elim fun i j=>@Stmt.Expr.elim (fun x=>∀ i,@Stmt.Expr.elim (fun _=>Bool) x i q->P x) x i (fun a b _=>k a b) i j
section
variable {prog:Program} {w:World} {A:Around} {E:Value->Shared->Prop} {h:Heap} {g:Array GenState} {d:Drawn} {t:Nat} {os:OsState}
variable {nm q:Str} {C N:Addr} {bs bm bmB bmN:List Value} {hdct:Bool} {sn:List Str} {sub:List Value} {ab:Bool} {col:Option Bool} {dd:Option Addr} {k0 k1 k2 k3 k5:Option Value} {B Bn newId nid initId inN:String}
end
noncomputable def GD:List Value->Bool
 | .ref _::r=>GD r
 | l=>l==bmV
section
variable {prog:Program} {w:World} {A:Around} {E:Value->Shared->Prop} {K:Frag} {C x:Addr} {s:Shared} {R:Result->Shared->Prop} {cd:ClassData}
end
noncomputable def Ut (n:Str):Str:=if n="NoText" then "part" else if n="NoLevel" then "number" else if n="NoCall" then "row" else "name"
noncomputable def Eb (f:Str) (b:List Stmt):Bool:=Yg b fun s1 r=>CT s1 fun c1 ep=>Xs c1 fun f1 xs kw cp=>Zf f1 fun o1 m ap=>YL o1 fun c p1=>Yg xs fun a1 ys=>YL a1 fun s p2=>Yg ys fun a2 zs=>ZF a2 fun q j p3=>qStr q fun t=>qNil zs (qNil kw (Yg r fun s2 r2=>qNil r2 (XW s2 fun tg v ap3=>Yg tg fun t1 t2=>qNil t2 (Zf t1 fun o2 g ap2=>YL o2 fun n2 p4=>YL v fun x p5=>c == "CordError" && m == "__init__" && s == "self" && n2 == "self" && g==f&&x==f&&(ap.endLine==cp.line)))))
noncomputable def BP (f:Str) (sc:Scope):Bool:=sc.kind==.function&&!sc.isCoroutine&&!sc.isGenerator&&(sc.names==[(("self":Str),NameKind.local),(f,.local),("CordError",.globalImplicit)])
noncomputable def FJ (f:Str) (p:Arguments):Bool:=p.posonlyargs.isEmpty&&(p.args.map (·.arg)==[("self":Str),f])&&p.vararg.isNone&&p.kwonlyargs.isEmpty&&p.kw_defaults.isEmpty&&p.kwarg.isNone
noncomputable def HX (K:Frag) (f:Str) (fd:FuncData):Bool:=(match fd.body with | .stmts b=>Eb f b|_=>false)&&BP f fd.scope&&FJ f fd.params&&fd.globals==mainGlobals&&fd.builtins==builtinsNs&&fd.closure.isEmpty&&codeIn K fd.code fd.qualname &&
 (match fd.defaults with | .ref T=>(match K.lookup T with|some ⟨_,_,.seq its _,_⟩=>its.size==1|_=>false)|_=>false)
noncomputable def Ea (K:Frag) (f:Str) (fI:Addr):Bool:=match K.lookup fI with
 | some ⟨.type "function",_,.func fd,_⟩=>HX K f fd
 | _=>false
noncomputable def El (K:Frag) (C:Addr):Option Addr:=match K.lookup C with
 | some ⟨.type "type",_,.cls cd,sl⟩=>(match cd.mro,sl.toList with
  | .ref C'::bm,[_,_,_,_,some (.builtin n),_]=>if (C'==C&&n == "ValueError.__new__" && !cd.hasDel&&tailIn K bmV bm&&nsOkIn K cd.ns&&cd.hasDict&&GD cd.mro) then (match nsIn K cd.ns "__init__" with|some (some (.ref f))=>some f|_=>none) else none
  | _,_=>none)
 | _=>none
noncomputable def AB (K:Frag) (n:Str) (D:Addr):Bool:=match WC K "CordError",El K D with
 | some B,some fI=>(findIn K (.ref D) "__setattr__" == some (some (.builtin "object.__setattr__")))&&(findIn K (.ref D) (Ut n)==some none)&&readsIn K B (.type "type")
   && (match findCls K (.ref B) (.type "type") "__init__" with|some (.val v)=>v==.builtin "ValueError.__init__" | _=>false)&&(specialIn K (.ref B) "__getattribute__" == some (some (.builtin "type.__getattribute__")))&&keepIn K (.ref D)&&Ea K (Ut n) fI
 | _,_=>false
noncomputable def GJ (K:Frag):Bool:=xInit.all fun n=>match WC K n with
 | none=>true
 | some D=>AB K n D
structure InitAt (K:Frag) (n:Str) (D B fI:Addr):Prop where
 ex:El K D=some fI
 b:WC K "CordError"=some B
 sa:findIn K (.ref D) "__setattr__"=some (some (.builtin "object.__setattr__"))
 nf:findIn K (.ref D) (Ut n)=some none
 rd:readsIn K B (.type "type")=true
 fc:findCls K (.ref B) (.type "type") "__init__"=some (.val (.builtin "ValueError.__init__"))
 sp:specialIn K (.ref B) "__getattribute__"=some (some (.builtin "type.__getattribute__"))
 kp:keepIn K (.ref D)=true
 fn:Ea K (Ut n) fI=true
theorem IQ {K:Frag} {n:Str} {D:Addr} (h:AB K n D=true):∃ B fI,InitAt K n D B fI:=by
 unfold AB at h;split at h
 next B fI e1 e2 =>
  simp only[Bool.and_eq_true,beq_iff_eq] at h;obtain⟨⟨⟨⟨⟨⟨h1,h2⟩,h3⟩,h4⟩,h5⟩,h6⟩,h7⟩:=h;split at h4
  next v e=>exact⟨B,fI,e2,e1,h1,h2,h3,by rw[e,beq_iff_eq.mp h4],h5,h6,h7⟩
  next=>cases h4
 next=>cases h
structure InitEnd (P:Program) (w:World) (outer:List Env) (H:Hp) (s:Shared) (e D:Addr) (f:Str) (v:V) (vs0:Array Value) (s':Shared):Prop where
 os:s'.os=s.os
 bare:AllBare s'.gens
 un:Un (frs outer) [e] H H s.heap s'.heap
 hok:HOk P w H s'.heap
 at_:∃ ob ws d u,s'.heap.get? e=some ob/\ob.cls=.ref D/\ob.dict=some d/\ob.data=.fields ws/\ws[1]?=some .none/\ws[2]?=some .none/\ws.size=vs0.size/\RelV v u/\s'.heap.Ns1 d (fun y=>if y=f then some u else none)/\s.heap.objs.size<=d/\H d=none
theorem InitEnd.on {P:Program} {w:World} {outer:List Env} {H:Hp} {s:Shared} {e D:Addr} {f:Str} {v:V} {vs0:Array Value} {s':Shared} (E:InitEnd P w outer H s e D f v vs0 s') {Z:Prop} (go:∀ ob ws d u,s'.heap.get? e=some ob->ob.cls=.ref D->ob.dict=some d->ob.data=.fields ws->ws[1]?=some .none->ws[2]?=some .none->ws.size=vs0.size->RelV v u->s'.heap.Ns1 d (fun y=>if y=f then some u else none)->s.heap.objs.size<=d->H d=none->Z):Z:=by
 obtain⟨ob,ws,d,u,a1,a2,a3,a4,a5,a6,a7,a8,a9,b1,b2⟩:=E.at_;exact go ob ws d u a1 a2 a3 a4 a5 a6 a7 a8 a9 b1 b2
noncomputable def IB (f:Str) (b:List Stmt):Prop:=∃ (p1 ap p2:Pos) (t:Str) (j:Nat) (p3 cp ep p4 ap2 p5 ap3:Pos),b=[.Expr (.Call (.Attribute (.Name "CordError" p1) "__init__" ap) [.Name "self" p2,.Constant (.str t) j p3] [] cp) ep,.Assign [.Attribute (.Name "self" p4) f ap2] (.Name f p5) ap3]/\(ap.endLine==cp.line)=true
noncomputable def Dw (K:Frag):Bool:=xNames.all fun n=>match WC K n with
 | none=>true
 | some D=>kitOne K (.type "NoneType") (.ref D)==some false
noncomputable def Xr (K:Frag):Bool:=Cl K&&GE K&&(GJ K&&Dw K)
theorem AR {K:Frag} (t:Xr K=true):Cl K=true/\GE K=true/\GJ K=true/\Dw K=true:=by
 unfold Xr at t;simp only[Bool.and_eq_true] at t;exact⟨t.1.1,t.1.2,t.2⟩
section
variable {K:Frag} {n c:Str} {C D:Addr}
theorem Z6 (t:Xr K=true) (hn:n∈xNames) (h:Z1 K n D):ExcCls K D/\(xPlain.contains n=true->excIn K D bmV "ValueError.__new__"=true)/\(∀ T,(T="int"\/T="bool"\/T="str"\/T="tuple"\/T="list"\/T="dict"\/T="ValueError")->kitOne K (.ref D) (.type T)=some (T == "ValueError")) /\
  ∀ c C,c∈xNames->Z1 K c C->exmOne K (.ref D) (.ref C)=some (YH n c)/\kitOne K (.ref D) (.ref C)=some (YH n c):=by
 have t:=(AR t).1;unfold Cl at t;have r:=List.all_eq_true.mp t n hn;rw[U2 h] at r;simp only[Bool.and_eq_true,beq_iff_eq,Bool.or_eq_true,Bool.not_eq_true'] at r;obtain⟨⟨⟨⟨r1,r2⟩,r3⟩,r3b⟩,r4⟩:=r;unfold Be at r1;simp only[Bool.and_eq_true,beq_iff_eq] at r1;obtain⟨⟨⟨⟨⟨⟨⟨q1,q2⟩,q3⟩,q4⟩,q5⟩,q6⟩,q7⟩,q8⟩:=r1;refine⟨⟨q1,q2,q3,q4,q5,q6,q7,q8⟩,fun z=>?_,fun T hT=>?_,fun c C hc hC=>?_⟩
 ·rcases r2 with r2|r2
  ·rw[z] at r2;(first|cases (show _=_ from r2.inv)|cases r2)
  ·exact r2
 ·have rT:∀ T∈["int","bool","str","tuple","list","dict"],kitOne K (.ref D) (.type T)=some false:=fun T hT=>beq_iff_eq.mp (List.all_eq_true.mp r3b T hT)
  rcases hT with rfl|rfl|rfl|rfl|rfl|rfl|rfl
  all_goals first|exact r3|exact rT _ %[|4]
 ·have r:=List.all_eq_true.mp r4 c hc
  rw[U2 hC] at r
  simpa only [Bool.and_eq_true,beq_iff_eq] using r
theorem Dv (t:Xr K=true) (hn:n∈xNames) (h:Z1 K n D):kitOne K (.type "NoneType") (.ref D)=some false:=by
 have t:=(AR t).2.2.2;unfold Dw at t;have r:=List.all_eq_true.mp t n hn;rw[U2 h] at r;exact beq_iff_eq.mp r
end
end DL
end
noncomputable section
namespace DL
open PySem PySem.Spec PyProof.Rows L2
inductive D where
 | non|bl (b:Bool)|int (i:Int)|str (x:Str)|ty (n:String)
 | tup (ds:List D)|fz (ds:List D)|lst (a:Addr)|dct (a:Addr)|ref (a:Addr)
 | exc (n:Str) (x:D)|cls (n:Str)
 | fn (n:Str)
 | sd (xs:List Str) (ds:List D)
 | fd (xs:List Str) (ds:List D)
 deriving Inhabited
inductive MO where
 | ls (ds:List D)
 | dk (kvs:List (Key×D))
 | ob (n:Str) (fs:List (Str×D))
abbrev Mem:=Addr->Option MO
abbrev DSt:=List (Option D)
abbrev DK:=D->Mem->Prop
noncomputable def Mem.upd (M:Mem) (a:Addr) (o:MO):Mem:=fun b=>if b=a then some o else M b
theorem mupd_same {M:Mem} {a:Addr} {o:MO}:M.upd a o a=some o:=if_pos rfl
theorem Z8 {M:Mem} {a b:Addr} {o:MO} (h:b≠a):M.upd a o b=M b:=if_neg h
theorem Dz {M:Mem} {a:Addr} {o u:MO}:(M.upd a o).upd a u=M.upd a u:=by
 funext b;unfold Mem.upd;split<;>rfl
noncomputable def MExt (M M':Mem):Prop:=∀ a o,M a=some o->M' a=some o
theorem MExt.refl (M:Mem):MExt M M:=fun _ _ h=>h
theorem MExt.trans {M M1 M2:Mem} (a:MExt M M1) (b:MExt M1 M2):MExt M M2:=fun c o h=>b c o (a c o h)
theorem MExt.new {M:Mem} {p:Addr} {o:MO} (h:M p=none):MExt M (M.upd p o):=fun a u e=>by
 have:a≠p:=fun z=>by rw[z,h] at e;cases e
 rw[Z8 this];exact e
noncomputable def alloc (M:Mem) (o:MO) (Q:Addr->Mem->Prop):Prop:=∀ p M',M p=none->MExt M M'->M' p=some o->Q p M'
theorem alloc.at (h:alloc M o Q) (hp:M p=none):Q p (M.upd p o):=h p _ hp (.new hp) mupd_same
noncomputable def SqF (K:Frag) (H:Hp) (a:Addr) (xs:List V):Prop :=
 (∃ o,H a=some (.frz o (.lst xs))) \/
  ∃ (o:Obj) (its:Array Value) (n:Nat),K.lookup a=some o/\o.cls=.type "list"/\o.dict=none/\o.data=.seq its n/\its.size<=sizeLine/\Vals xs its.toList
theorem SqF.sq {K:Frag} {H:Hp} {a:Addr} {xs:List V} (h:SqF K H a xs):SqL K H a xs:=by
 rcases h with ⟨o,h⟩|h
 ·exact .inl (.inr ⟨o,h⟩)
 ·exact .inr h
inductive EntK:List DictEntry->List Str->List Value->Prop
 | nil:EntK [] [] []
 | cons {e:DictEntry} {x:Str} {t:Tok} {es:List DictEntry} {xs:List Str} {us:List Value} (k:e.key=.str x t) (r:EntK es xs us):EntK (e::es) (x::xs) (e.val::us)
noncomputable def TabK (K:Frag) (a:Addr) (xs:List Str) (vs:List V):Prop :=
 (a==sysModules)=false/\∃ (o:Obj) (es:Array DictEntry) (ep:Nat) (us:List Value),K.lookup a=some o/\o.ExactDict/\o.data=.dict es ep/\EntK es.toList xs us/\Vals vs us
noncomputable def fdK (xs:List Str) (vs:List V):List (Key×V):=(xs.zip vs).map fun p=>(Sum.inr p.1,p.2)
noncomputable def FdK (H:Hp) (a:Addr) (xs:List Str) (vs:List V):Prop:=xs.length=vs.length/\∃ o,H a=some (.frz o (.dK (fdK xs vs)))
noncomputable def GU (a C:Addr) (dd:Option Addr) (h:Heap):Prop:=∃ ob vs,h.get? a=some ob/\ob.cls=.ref C/\ob.dict=dd/\ob.data=.fields vs
noncomputable def EL (d:Addr) (f:Str) (v:V) (h:Heap):Prop:=∃ u,RelV v u/\h.Ns1 d (fun y=>if y=f then some u else none)
mutual
inductive RelD (K:Frag) (H:Hp):V->D->Prop
 | non:RelD K H .non .non
 | bl (b:Bool):RelD K H (.bl b) (.bl b)
 | int (i:Int):RelD K H (.int i) (.int i)
 | str (x:Str):RelD K H (.str x) (.str x)
 | ty (n:String):RelD K H (.ty n) (.ty n)
 | tup {a:Addr} {vs:List V} {ds:List D} (h:SqT K H a vs) (r:RelDs K H vs ds):RelD K H (.ref a) (.tup ds)
 | fz {a:Addr} {vs:List V} {ds:List D} (h:SqF K H a vs) (r:RelDs K H vs ds):RelD K H (.ref a) (.fz ds)
 | lst (a:Addr):RelD K H (.ref a) (.lst a)
 | dct (a:Addr):RelD K H (.ref a) (.dct a)
 | ref (a:Addr):RelD K H (.ref a) (.ref a)
 | cls {C:Addr} {n:Str} (hn:n∈xNames) (hc:Z1 K n C):RelD K H (.ref C) (.cls n)
 | fn {C:Addr} {n:Str} (hc:Z1 K n C):RelD K H (.ref C) (.fn n)
 | sd {a:Addr} {xs:List Str} {vs:List V} {ds:List D} (h:TabK K a xs vs) (r:RelDs K H vs ds):RelD K H (.ref a) (.sd xs ds)
 | fd {a:Addr} {xs:List Str} {vs:List V} {ds:List D} (h:FdK H a xs vs) (r:RelDs K H vs ds):RelD K H (.ref a) (.fd xs ds)
 | exc {a C:Addr} {n:Str} (hn:n∈xNames) (hi:n ∉ xInit) (hc:Z1 K n C) (h:H a=some (.ext (GU a C none))):RelD K H (.ref a) (.exc n .non)
 | excF {a C d:Addr} {n:Str} {v:V} {x:D} (hn:n∈xNames) (hi:n∈xInit) (hc:Z1 K n C) (h:H a=some (.ext (GU a C (some d)))) (hd:H d=some (.ext (EL d (Ut n) v))) (r:RelD K H v x):RelD K H (.ref a) (.exc n x)
inductive RelDs (K:Frag) (H:Hp):List V->List D->Prop
 | nil:RelDs K H [] []
 | cons {v:V} {d:D} {vs:List V} {ds:List D} (h:RelD K H v d) (r:RelDs K H vs ds):RelDs K H (v::vs) (d::ds)
end
structure HExt (K:Frag) (H H':Hp):Prop where
 tup:∀ a vs,SqT K H a vs->SqT K H' a vs
 fz:∀ a vs,SqF K H a vs->SqF K H' a vs
 ex:∀ a φ,H a=some (.ext φ)->H' a=some (.ext φ)
 fd:∀ a o kws,H a=some (.frz o (.dK kws))->H' a=some (.frz o (.dK kws))
theorem HExt.refl {K:Frag} (H:Hp):HExt K H H:=⟨fun _ _ h=>h,fun _ _ h=>h,fun _ _ h=>h,fun _ _ _ h=>h⟩
theorem HExt.trans {K:Frag} {H H1 H2:Hp} (a:HExt K H H1) (b:HExt K H1 H2):HExt K H H2:=⟨fun p vs h=>b.tup p vs (a.tup p vs h),fun p vs h=>b.fz p vs (a.fz p vs h),fun p C h=>b.ex p C (a.ex p C h),fun p o kws h=>b.fd p o kws (a.fd p o kws h)⟩
noncomputable def MutL:HO->Prop
 | .lst _=>True
 | .dK _=>True
 | .ins _ _ _=>True
 | _=>False
theorem HExt.upd {K:Frag} {H:Hp} {p:Addr} {o:HO} (h:H p=none\/∃ u,H p=some u/\MutL u):HExt K H (L2.upd H p o):=by
 refine⟨fun a vs q=>?_,fun a vs q=>?_,fun a C q=>?_,fun a ob kws q=>?_⟩
 ·rcases q with (q|⟨ob,q⟩)|q
  ·refine .inl (.inl ?_)
   rw[Yx];exact q;rintro rfl;rcases h with h|⟨u,h,m⟩
   ·rw[h] at q;cases q
   ·rw[h] at q;cases q;exact m
  ·refine .inl (.inr ⟨ob,?_⟩)
   rw[Yx];exact q;rintro rfl;rcases h with h|⟨u,h,m⟩
   ·rw[h] at q;cases q
   ·rw[h] at q;cases q;exact m
  ·exact .inr q
 ·rcases q with ⟨ob,q⟩|q
  ·refine .inl ⟨ob,?_⟩
   rw[Yx];exact q;rintro rfl;rcases h with h|⟨u,h,m⟩
   ·rw[h] at q;cases q
   ·rw[h] at q;cases q;exact m
  ·exact .inr q
 ·rw[Yx];exact q
  rintro rfl;rcases h with h|⟨u,h,m⟩
  ·rw[h] at q;cases q
  ·rw[h] at q;cases q;exact m
 ·rw[Yx];exact q
  rintro rfl;rcases h with h|⟨u,h,m⟩
  ·rw[h] at q;cases q
  ·rw[h] at q;cases q;exact m
theorem RelDs.ext {K:Frag} {H H':Hp} (x:HExt K H H') {vs:List V} {ds:List D} (h:RelDs K H vs ds):RelDs K H' vs ds:=by
 induction h using RelDs.rec (motive_1:=fun v d _=>RelD K H' v d) with
 | non=>exact .non
 | bl b=>exact .bl b
 | int i=>exact .int i
 | str y=>exact .str y
 | ty n=>exact .ty n
 | tup h r ih=>exact .tup (x.tup _ _ h) ih
 | fz h r ih=>exact .fz (x.fz _ _ h) ih
 | lst a=>exact .lst a
 | dct a=>exact .dct a
 | ref a=>exact .ref a
 | cls hn h=>exact .cls hn h
 | fn h=>exact .fn h
 | sd h r ih=>exact .sd h ih
 | fd h r ih=>exact .fd ⟨h.1,h.2.elim fun o e=>⟨o,x.fd _ _ _ e⟩⟩ ih
 | exc hn hi hc h=>exact .exc hn hi hc (x.ex _ _ h)
 | excF hn hi hc h hd r ih=>exact .excF hn hi hc (x.ex _ _ h) (x.ex _ _ hd) ih
 | nil=>exact .nil
 | cons h r i1 i2=>exact .cons i1 i2
theorem RelD.ext {K:Frag} {H H':Hp} (x:HExt K H H') {v:V} {d:D} (h:RelD K H v d):RelD K H' v d:=by
 cases RelDs.ext x (.cons h .nil) with
 | cons h _=>exact h
inductive ExD (K:Frag) (H:Hp) (n:Str):Option Addr->D->Prop
 | plain (hi:n ∉ xInit):ExD K H n none .non
 | fld {d:Addr} {v:V} {x:D} (hi:n∈xInit) (hd:H d=some (.ext (EL d (Ut n) v))) (r:RelD K H v x):ExD K H n (some d) x
noncomputable def xarg:D->D
 | .exc _ x=>x
 | d=>d
@[simp] theorem IR (n:Str) (x:D):xarg (.exc n x)=x:=rfl
section
variable {K:Frag} {H:Hp}
noncomputable def InvD (K:Frag) (H:Hp) (v:V):D->Prop
 | .non=>v=.non
 | .bl b=>v=.bl b
 | .int i=>v=.int i
 | .str x=>v=.str x
 | .ty n=>v=.ty n
 | .tup ds=>∃ a vs,v=.ref a/\SqT K H a vs/\RelDs K H vs ds
 | .fz ds=>∃ a vs,v=.ref a/\SqF K H a vs/\RelDs K H vs ds
 | .lst a=>v=.ref a
 | .dct a=>v=.ref a
 | .ref a=>v=.ref a
 | .cls n=>∃ C,v=.ref C/\n∈xNames/\Z1 K n C
 | .fn n=>∃ C,v=.ref C/\Z1 K n C
 | _=>True
theorem RelD.inv {K:Frag} {H:Hp} {v:V} {d:D} (r:RelD K H v d):InvD K H v d:=by
 cases r with
 | tup h r=>exact⟨_,_,rfl,h,r⟩
 | fz h r=>exact⟨_,_,rfl,h,r⟩
 | cls hn hc=>exact⟨_,rfl,hn,hc⟩
 | fn hc=>exact⟨_,rfl,hc⟩
 | _=>first|rfl|trivial
noncomputable def KA (K:Frag) (H:Hp) (vs:List V):List D->Prop
 | []=>vs=[]
 | d::ds=>∃ v us,vs=v::us/\RelD K H v d/\RelDs K H us ds
theorem RelDs.inv {K:Frag} {H:Hp} {vs:List V} {ds:List D} (r:RelDs K H vs ds):KA K H vs ds:=by
 cases r with
 | nil=>rfl
 | cons h r=>exact⟨_,_,rfl,h,r⟩
theorem RelDs.inv1 {K:Frag} {H:Hp} {vs:List V} {d:D} (r:RelDs K H vs [d]) {P:Prop} (go:∀ v,vs=[v]->RelD K H v d->P):P:=by
 obtain⟨v,us,rfl,h,r⟩:=r.inv;obtain rfl:=r.inv;exact go v rfl h
theorem RelDs.inv2 {K:Frag} {H:Hp} {vs:List V} {d e:D} (r:RelDs K H vs [d,e]) {P:Prop} (go:∀ v w,vs=[v,w]->RelD K H v d->RelD K H w e->P):P:=by
 obtain⟨v,us,rfl,h,r⟩:=r.inv;exact r.inv1 fun w e h'=>go v w (by rw[e]) h h'
theorem Bw {v:V} {us:List Value} (r:Vals [v] us) {P:Prop} (go:∀ u,us=[u]->RelV v u->P):P:=by
 cases r with
 | cons h r=>cases r;exact go _ rfl h
theorem Ud {v w:V} {us:List Value} (r:Vals [v,w] us) {P:Prop} (go:∀ u x,us=[u,x]->RelV v u->RelV w x->P):P:=by
 cases r with
 | cons h r=>exact Bw r fun x e h'=>go _ x (by rw[e]) h h'
theorem RelDs.length:∀ {vs:List V} {ds:List D},RelDs K H vs ds->vs.length=ds.length
 | _,_,.nil=>rfl
 | _,_,.cons _ r=>congrArg (·+1) (RelDs.length r)
theorem RelDs.append:∀ {vs ws:List V} {ds es:List D},RelDs K H vs ds->RelDs K H ws es->RelDs K H (vs++ws) (ds++es)
 | _,_,_,_,.nil,q=>q
 | _,_,_,_,.cons h r,q=>.cons h (RelDs.append r q)
theorem RelDs.drop:∀ {vs:List V} {ds:List D} (n:Nat),RelDs K H vs ds->RelDs K H (vs.drop n) (ds.drop n)
 | _,_,0,r=>r
 | _,_,_+1,.nil=>.nil
 | _,_,n+1,.cons _ r=>RelDs.drop n r
theorem RelDs.take:∀ {vs:List V} {ds:List D} (n:Nat),RelDs K H vs ds->RelDs K H (vs.take n) (ds.take n)
 | _,_,0,_=>.nil
 | _,_,_+1,.nil=>.nil
 | _,_,n+1,.cons h r=>.cons h (RelDs.take n r)
theorem RelDs.get:∀ {vs:List V} {ds:List D} {i:Nat} {d:D},RelDs K H vs ds->ds[i]?=some d->∃ v,vs[i]?=some v/\RelD K H v d
 | _,_,_,_,.nil,e=>by simp at e
 | _,_,0,_,.cons h _,e=>by simp at e;subst e;exact⟨_,rfl,h⟩
 | _,_,i+1,d,.cons _ r,e=>by
  obtain⟨v,h1,h2⟩:=RelDs.get (i:=i) (d:=d) r (by simpa using e);exact⟨v,by simpa using h1,h2⟩
theorem RelDs.set (h:RelD K H v d):∀ {vs:List V} {ds:List D} (i:Nat),RelDs K H vs ds->RelDs K H (vs.set i v) (ds.set i d)
 | _,_,_,.nil=>.nil
 | _,_,0,.cons _ r=>.cons h r
 | _,_,i+1,.cons q r=>.cons q (RelDs.set h i r)
theorem RelDs.ints:∀ (ns:List Int),RelDs K H (ns.map V.int) (ns.map D.int)
 | []=>.nil
 | n::r=>.cons (.int n) (RelDs.ints r)
end
noncomputable def MOk (K:Frag) (H:Hp) (a:Addr):MO->Prop
 | .ls ds=>∃ vs,H a=some (.lst vs)/\RelDs K H vs ds
 | .dk kvs=>∃ kws:List (Key×V),H a=some (.dK kws)/\kws.map (·.1)=kvs.map (·.1)/\RelDs K H (kws.map (·.2)) (kvs.map (·.2))
 | .ob n fs=>∃ (C dx:Addr) (vs:List (Str×V)),Z1 K n C/\H a=some (.ins C dx vs)/\vs.map (·.1)=fs.map (·.1)/\RelDs K H (vs.map (·.2)) (fs.map (·.2))
noncomputable def RepM (K:Frag) (H:Hp) (M:Mem):Prop:=∀ a o,M a=some o->MOk K H a o
structure LK where
 K:Frag
 ok:Hp->Prop
 mono:∀ H H',HExt K H H'->ok H->ok H'
structure Slots (K:Frag) (H:Hp) (δ:DSt) (σ:L2.St):Prop where
 len:δ.length=σ.length
 slot:∀ (i:Nat) (d:D),δ[i]?=some (some d)->∃ v,σ[i]?=some (some v)/\RelD K H v d
structure RepS (Λ:LK) (H:Hp) (δ:DSt) (σ:L2.St):Prop extends Slots Λ.K H δ σ where
 ok:Λ.ok H
section
variable {K:Frag} {Λ:LK} {H H':Hp} {M:Mem} {δ:DSt} {σ:L2.St}
theorem Slots.ext (x:HExt K H H') (r:Slots K H δ σ):Slots K H' δ σ:=⟨r.len,fun i d e=>let ⟨v,h,q⟩:=r.slot i d e;⟨v,h,q.ext x⟩⟩
theorem RepS.ext (x:HExt Λ.K H H') (r:RepS Λ H δ σ):RepS Λ H' δ σ:=⟨r.toSlots.ext x,Λ.mono _ _ x r.ok⟩
theorem Slots.set (r:Slots K H δ σ) (h:RelD K H v d) (i:Nat):Slots K H (δ.set i (some d)) (σ.set i (some v)):=by
 refine⟨by simp[r.len],fun j e q=>?_⟩;by_cases hj:j=i
 ·subst hj
  by_cases hl:j < δ.length
  ·rw[List.getElem?_set_self hl] at q;cases q
   exact⟨v,List.getElem?_set_self (by rw[<- r.len];exact hl),h⟩
  ·rw[List.getElem?_eq_none (by simp;omega)] at q;cases q
 ·rw[List.getElem?_set_ne (Ne.symm hj)] at q
  obtain⟨u,h1,h2⟩:=r.slot j e q;exact⟨u,by rw[List.getElem?_set_ne (Ne.symm hj)];exact h1,h2⟩
theorem RepS.set (r:RepS Λ H δ σ) (h:RelD Λ.K H v d) (i:Nat):RepS Λ H (δ.set i (some d)) (σ.set i (some v)):=⟨r.toSlots.set h i,r.ok⟩
theorem MOk.fresh (r:MOk K H a o):H a≠none:=by
 cases o with
 | ls ds=>obtain⟨vs,h,_⟩:=r;rw[h];simp
 | dk kvs=>obtain⟨vs,h,_⟩:=r;rw[h];simp
 | ob n fs=>obtain⟨C,dx,vs,_,h,_⟩:=r;rw[h];simp
theorem RepM.none (r:RepM K H M) (h:H p=.none):M p=.none:=by
 cases q:M p with
 | none=>rfl
 | some o=>exact absurd h (r p o q).fresh
theorem MOk.ext (x:HExt K H (upd H p u)) (h:a≠p) (r:MOk K H a o):MOk K (upd H p u) a o:=by
 cases o with
 | ls ds=>obtain⟨vs,e,q⟩:=r;exact⟨vs,by rw[Yx h];exact e,q.ext x⟩
 | dk kvs=>obtain⟨vs,e,k,q⟩:=r;exact⟨vs,by rw[Yx h];exact e,k,q.ext x⟩
 | ob n fs=>obtain⟨C,dx,vs,c,e,k,q⟩:=r;exact⟨C,dx,vs,c,by rw[Yx h];exact e,k,q.ext x⟩
theorem RepM.tup {p:Addr} {vs:List V} (r:RepM K H M) (h:H p=.none):RepM K (upd H p (.tup vs)) M:=fun a o e =>
 (r a o e).ext (.upd (.inl h)) fun z=>by subst z;rw[r.none h] at e;cases e
theorem RepM.lst {p:Addr} {vs:List V} {ds:List D} (r:RepM K H M) (h:H p=.none) (q:RelDs K H vs ds):RepM K (upd H p (.lst vs)) (M.upd p (.ls ds)):=fun a o e=>by
 by_cases z:a=p
 ·subst z;rw[mupd_same] at e;cases e;exact⟨vs,upd_same,q.ext (.upd (.inl h))⟩
 ·rw[Z8 z] at e;exact (r a o e).ext (.upd (.inl h)) z
theorem RepM.write {p:Addr} {ws vs:List V} {ds:List D} (r:RepM K H M) (h:H p=some (.lst ws)) (q:RelDs K H vs ds):RepM K (upd H p (.lst vs)) (M.upd p (.ls ds)):=fun a o e=>by
 have x:HExt K H (upd H p (.lst vs)):=.upd (.inr ⟨_,h,trivial⟩);by_cases z:a=p
 ·subst z;rw[mupd_same] at e;cases e;exact⟨vs,upd_same,q.ext x⟩
 ·rw[Z8 z] at e;exact (r a o e).ext x z
theorem RepM.nil:RepM K H (fun _=>Option.none):=fun _ _ e=>by cases e
end
abbrev DE:=DSt->Mem->DK->Prop
abbrev DT:=DSt->Mem->(Bool->Mem->Prop)->Prop
abbrev DA:=DSt->Mem->(List D->Mem->Prop)->Prop
structure DEnds where
 nx:DSt->Mem->Prop
 rt:DK
 bk:DSt->Mem->Prop:=fun _ _=>False
 ct:DSt->Mem->Prop:=fun _ _=>False
 ex:DSt->DK:=fun _ _ _=>False
abbrev DS:=DEnds->DSt->Mem->Prop
abbrev DSp:=List D->Mem->DK->DK->Prop
noncomputable def Jl (H:Hp) (dd:Option Addr):Prop:=dd=none\/∃ d f,dd=some d/\H d=some (.ext (EL d f .non))
structure Thrown (P:Program) (w:World) (outer:List Env) (H:Hp) (s:Shared) (H':Hp) (e C:Addr) (dd:Option Addr) (s':Shared):Prop where
 ex:∃ B,s'.os=s.os/\AllBare s'.gens/\Un (frs outer) [] H H' s.heap s'.heap/\(∀ b o,s.heap.get? b=some o->H b=none->b ∉ frs outer->B.get? b=some o)/\HOk P w H' B/\Flies B outer e (.ref C) dd .none s'.heap
 cl:Jl H' dd->Va s'.heap e
structure Back (P:Program) (w:World) (outer:List Env) (L:Addr) (H:Hp) (s:Shared) (H':Hp) (e C:Addr) (dd:Option Addr) (s':Shared):Prop where
 ex:∃ B,s'.os=s.os/\AllBare s'.gens/\Un (frs outer) [] H H' s.heap s'.heap/\(∀ b o,s.heap.get? b=some o->H b=none->b ∉ frs outer->B.get? b=some o)/\HOk P w H' B/\Flies B outer e (.ref C) dd (rawInt L) s'.heap
 cl:Jl H' dd->Va s'.heap e
noncomputable def CXR (P:Program) (w:World):CXT:=fun outer H s E ev s'=>∃ e C dd H',ev=.ref e/\Thrown P w outer H s H' e C dd s'/\E (.ref C) dd H'
structure XeOk (X:Cx) (rz:Bool) (E:DSt->DK) (H:Hp):Prop where
 fly:∀ pins σ H1 s1 H' e C dd s' δ M' n x,HExt X.K H H'->L2.Inv X pins σ H1 s1->Thrown X.prog X.w X.stack H1 s1 H' e C dd s'->RepM X.K H' M'->Slots X.K H' δ σ->n∈xNames->Z1 X.K n C->ExD X.K H' n dd x->E δ (.exc n x) M'->X.xe (.ref e) s'
 made:rz=true->∀ pins σ H' h e C dd s' δ M' n x,HExt X.K H H'->L2.Inv X pins σ H' {s' with heap:=h}->Made h s'.heap e (.ref C) dd->(Jl H' dd->Va s'.heap e)->RepM X.K H' M'->Slots X.K H' δ σ->n∈xNames->Z1 X.K n C->ExD X.K H' n dd x->E δ (.exc n x) M'->X.xe (.ref e) s'
 back:rz=true->∀ pins σ H1 s1 H' e C dd s' δ M' n x,HExt X.K H H'->L2.Inv X pins σ H1 s1->Back X.prog X.w X.stack X.env.locals H1 s1 H' e C dd s'->RepM X.K H' M'->Slots X.K H' δ σ->n∈xNames->Z1 X.K n C->ExD X.K H' n dd x->E δ (.exc n x) M'->X.xe (.ref e) s'
noncomputable def _root_.L2.Cx.L (X:Cx) (rz:Bool) (E:DSt->DK):LK where
 K:=X.K
 ok:=XeOk X rz E
 mono:=fun H H' x h=>⟨fun pins σ H1 s1 H2 e C dd s' δ M' n xd y=>h.fly pins σ H1 s1 H2 e C dd s' δ M' n xd (x.trans y),fun r pins σ H2 h0 e C dd s' δ M' n xd y=>h.made r pins σ H2 h0 e C dd s' δ M' n xd (x.trans y),fun r pins σ H1 s1 H2 e C dd s' δ M' n xd y=>h.back r pins σ H1 s1 H2 e C dd s' δ M' n xd (x.trans y)⟩
abbrev X0:DSt->DK:=fun _ _ _=>False
theorem Go:XeOk X rz X0 H:=⟨fun _ _ _ _ _ _ _ _ _ _ _ _ _ _ _ _ _ _ _ _ _ z=>z.elim,fun _ _ _ _ _ _ _ _ _ _ _ _ _ _ _ _ _ _ _ _ _ _ z=>z.elim,fun _ _ _ _ _ _ _ _ _ _ _ _ _ _ _ _ _ _ _ _ _ _ z=>z.elim⟩
section
variable (Λ:LK) (K:Frag)
noncomputable def lift (t:DE):TE:=fun σ H Q=>∃ δ M R,RepS Λ H δ σ/\RepM Λ.K H M/\t δ M R/\∀ d M' v H',HExt Λ.K H H'->RepM Λ.K H' M'->RelD Λ.K H' v d->R d M'->Q v H'
noncomputable def Zb (t:DT):TT:=fun σ H Q=>∃ δ M R,RepS Λ H δ σ/\RepM Λ.K H M/\t δ M R/\∀ b M' H',HExt Λ.K H H'->RepM Λ.K H' M'->R b M'->Q b H'
noncomputable def ZX (t:DA):TA:=fun σ H Q=>∃ δ M R,RepS Λ H δ σ/\RepM Λ.K H M/\t δ M R/\∀ ds M' vs H',HExt Λ.K H H'->RepM Λ.K H' M'->RelDs Λ.K H' vs ds->R ds M'->Q vs H'
noncomputable def YG (X:Cx) (rz:Bool) (t:DS):TS:=fun E σ H=>∃ δ M D,RepS (X.L rz D.ex) H δ σ/\RepM X.K H M/\t D δ M /\
 (∀ δ' M' σ' H',HExt X.K H H'->RepS (X.L rz D.ex) H' δ' σ'->RepM X.K H' M'->D.nx δ' M'->E.nx σ' H') /\
 (∀ d M' v H',HExt X.K H H'->RepM X.K H' M'->RelD X.K H' v d->D.rt d M'->E.rt v H') /\
 (∀ δ' M' σ' H',HExt X.K H H'->RepS (X.L rz D.ex) H' δ' σ'->RepM X.K H' M'->D.bk δ' M'->E.bk σ' H') /\
 (∀ δ' M' σ' H',HExt X.K H H'->RepS (X.L rz D.ex) H' δ' σ'->RepM X.K H' M'->D.ct δ' M'->E.ct σ' H')
noncomputable def Zx (f:D->D->Mem->DK->Prop):R2:=fun x y H Q=>∃ d e M R,RelD K H x d/\RelD K H y e/\RepM K H M/\f d e M R/\∀ d' M' v H',HExt K H H'->RepM K H' M'->RelD K H' v d'->R d' M'->Q v H'
noncomputable def XG (f:List D->Mem->DK->Prop):List V->Hp->VK->Prop:=fun xs H Q=>∃ ds M R,RelDs K H xs ds/\RepM K H M/\f ds M R/\∀ d' M' v H',HExt K H H'->RepM K H' M'->RelD K H' v d'->R d' M'->Q v H'
noncomputable def Wh (S:DSp):Sp:=fun xs H Q E=>∃ ds M R Ed,RelDs K H xs ds/\RepM K H M/\S ds M R Ed/\(∀ d' M' v H',HExt K H H'->RepM K H' M'->RelD K H' v d'->R d' M'->Q v H') /\
 ∀ n M' H' C dd x,HExt K H H'->RepM K H' M'->n∈xNames->Z1 K n C->ExD K H' n dd x->Ed (.exc n x) M'->E (.ref C) dd H'
end
theorem _root_.L2.PE.imp (h:PE X e t) (i:∀ σ H Q,t' σ H Q->t σ H Q):PE X e t':=fun pins s σ H Q I q=>h pins s σ H Q I (i _ _ _ q)
theorem _root_.L2.PT.imp (h:PT X e t) (i:∀ σ H Q,t' σ H Q->t σ H Q):PT X e t':=fun pins s σ H Q I q=>h pins s σ H Q I (i _ _ _ q)
theorem _root_.L2.PA.imp (h:PA X e t) (i:∀ σ H Q,t' σ H Q->t σ H Q):PA X e t':=fun pos pins s σ H Q I q=>h pos pins s σ H Q I (i _ _ _ q)
theorem _root_.L2.PSs.imp (h:PSs X e t) (i:∀ D σ H,t' D σ H->t D σ H):PSs X e t':=fun pins s σ H D I q=>h pins s σ H D I (i _ _ _ q)
theorem _root_.L2.OpR.imp (h:OpR X f r) (i:∀ x y H Q,r' x y H Q->r x y H Q):OpR X f r':=fun pins s σ H x y v u Q I a b q=>h pins s σ H x y v u Q I a b (i _ _ _ _ q)
theorem _root_.L2.CallR.imp (h:CallR X f r) (i:∀ x H Q,r' x H Q->r x H Q):CallR X f r':=fun pins s σ H x u Q I a q=>h pins s σ H x u Q I a (i _ _ _ q)
noncomputable def vHd:Option D->(D->Prop)->Prop
 | some d,P=>P d
 | none,_=>False
noncomputable def vAt:DSt->Nat->(D->Prop)->Prop
 | x::_,0,P=>vHd x P
 | _::r,i+1,P=>vAt r i P
 | [],_,_=>False
theorem Cp:∀ {δ:DSt} {i:Nat} {P:D->Prop},vAt δ i P->∃ d,δ[i]?=some (some d)/\P d
 | some d::_,0,_,h=>⟨d,rfl,h⟩
 | _::r,i+1,_,h=>Cp (δ:=r) h
theorem Co:∀ {δ:DSt} {i:Nat} {P:D->Prop} {d:D},δ[i]?=some (some d)->P d->vAt δ i P
 | some d::_,0,_,_,e,h=>by cases e;exact h
 | none::_,0,_,_,e,_=>by cases e
 | _::r,i+1,P,_,e,h=>show vAt r i P from Co (by simpa using e) h
noncomputable def dVar (i:Nat):DE:=fun δ M Q=>vAt δ i fun d=>Q d M
noncomputable def dC (d:D):DE:=fun _ M Q=>Q d M
noncomputable def d2 (f:D->D->Mem->DK->Prop) (ta tb:DE):DE:=fun δ M Q=>ta δ M fun x M1=>tb δ M1 fun y M2=>f x y M2 Q
noncomputable def d1 (f:D->Mem->DK->Prop) (ta:DE):DE:=fun δ M Q=>ta δ M fun x M1=>f x M1 Q
noncomputable def dNil:DA:=fun _ M Q=>Q [] M
noncomputable def Z5 (ta:DE) (tr:DA):DA:=fun δ M Q=>ta δ M fun x M1=>tr δ M1 fun xs M2=>Q (x::xs) M2
noncomputable def dTup (t:DA):DE:=fun δ M Q=>t δ M fun xs M1=>xs.length<=sizeLine/\Q (.tup xs) M1
noncomputable def dLst (t:DA):DE:=fun δ M Q=>t δ M fun xs M1=>xs.length<=sizeLine/\alloc M1 (.ls xs) fun p M'=>Q (.lst p) M'
noncomputable def dCB (f:List D->Mem->DK->Prop) (t:DA):DE:=fun δ M Q=>t δ M fun xs M1=>f xs M1 Q
noncomputable def Zu (S:DSp) (E:DSt->DK) (t:DA):DE:=fun δ M Q=>t δ M fun xs M1=>S xs M1 Q (E δ)
noncomputable def Bk (t:DE):DT:=fun δ M Q=>t δ M fun x M1=>∃ k,x=.bl k/\Q k M1
noncomputable def dAnd (t u:DT):DT:=fun δ M Q=>t δ M fun c M1=>if c=true then u δ M1 Q else Q false M1
noncomputable def dOr (t u:DT):DT:=fun δ M Q=>t δ M fun c M1=>if c=true then Q true M1 else u δ M1 Q
noncomputable def dNot (t:DT):DT:=fun δ M Q=>t δ M fun c M1=>Q (!c) M1
noncomputable def Bp (ta tb:DE):DE:=fun δ M Q=>ta δ M fun x M1=>∃ c,x=.bl c/\if c=true then tb δ M1 Q else Q (.bl false) M1
noncomputable def dOrV (ta tb:DE):DE:=fun δ M Q=>ta δ M fun x M1=>∃ c,x=.bl c/\if c=true then Q (.bl true) M1 else tb δ M1 Q
noncomputable def dIfE (c:DT) (ta tb:DE):DE:=fun δ M Q=>c δ M fun b M1=>if b=true then ta δ M1 Q else tb δ M1 Q
section
variable {X:Cx} {rz:Bool} {E:DSt->DK} {a b c:Expr} {ta tb tc:DE} {pos:Pos}
theorem seq2 {Λ:LK} {σ:L2.St} {H:Hp} {δ:DSt} {M:Mem} {R:D->D->Mem->Prop} {Q:V->V->Hp->Prop} (rs:RepS Λ H δ σ) (rm:RepM Λ.K H M) (h:ta δ M fun x M1=>tb δ M1 fun y M2=>R x y M2)
  (q:∀ x y M2 v u H2,HExt Λ.K H H2->RepM Λ.K H2 M2->RelD Λ.K H2 v x->RelD Λ.K H2 u y->R x y M2->Q v u H2):lift Λ ta σ H fun v H1=>lift Λ tb σ H1 fun u H2=>Q v u H2 :=
 ⟨δ,M,_,rs,rm,h,fun _ _ _ _ x1 m1 r1 h1=>⟨δ,_,_,rs.ext x1,m1,h1,fun _ _ _ _ x2 m2 r2 h2=>q _ _ _ _ _ _ (x1.trans x2) m2 (r1.ext x2) r2 h2⟩⟩
theorem Iq (h:PE X a (tVar i)):PE X a (lift (X.L rz E) (dVar i)):=by
 refine h.imp ?_;rintro σ H Q ⟨δ,M,R,rs,rm,t,q⟩;obtain⟨d,e,r⟩:=Cp t;obtain⟨v,h1,h2⟩:=rs.slot i d e;exact⟨v,h1,q _ _ _ _ (.refl H) rm h2 r⟩
theorem WU (h:PE X a (tC v)) (r:∀ H,RelD X.K H v d):PE X a (lift (X.L rz E) (dC d)):=by
 refine h.imp ?_;rintro σ H Q ⟨δ,M,R,rs,rm,t,q⟩;exact q _ _ _ _ (.refl H) rm (r H) t
theorem Bq (h:lift Λ (d2 f ta tb) σ H Q):tOp (Zx Λ.K f) (lift Λ ta) (lift Λ tb) σ H Q:=by
 obtain⟨δ,M,R,rs,rm,t,q⟩:=h;exact seq2 (R:=fun x y M2=>f x y M2 R) rs rm t fun x y M2 v u H2 x2 m2 r1 r2 t2=>⟨x,y,M2,R,r1,r2,m2,t2,fun d M' w H' x3 m3 r3=>q d M' w H' (x2.trans x3) m3 r3⟩
theorem IC (ho:OpR X (binaryOp op) (Zx X.K f)) (ha:PE X a (lift (X.L rz E) ta)) (hb:PE X b (lift (X.L rz E) tb)):PE X (.BinOp a op b pos) (lift (X.L rz E) (d2 f ta tb)) :=
 (Ka ho ha hb).imp fun _ _ _=>Bq
end
end DL
end
noncomputable section
namespace DL
open PySem PySem.Spec PyProof.Rows L2
theorem Zi:fillsNumberSlot (.type "tuple") "mul"=pure false :=
 PySem.fillsNumberSlot_seq (id:="tuple.__mul__") (r:=some (.builtin "tuple.__rmul__")) PySem.F.slot_tuple_mul.lookup (by decide +kernel) PySem.F.slot_tuple_rmul.lookup (by decide +kernel)
theorem Xk:seqRepeat? (.type "tuple")=pure (some (.builtin "tuple.__mul__")):=by
 unfold seqRepeat?;rw[PySem.seqSlot_of (T:="tuple") (name:="__mul__") (id:="tuple.__mul__") PySem.F.slot_tuple_mul.lookup (by decide +kernel),PySem.seqSlot_of (T:="tuple") (name:="__rmul__") (id:="tuple.__rmul__") PySem.F.slot_tuple_rmul.lookup (by decide +kernel)]
 rfl
theorem ZN (a:Int) (t:Tok) (l:Addr) (items:Array Value) (n:Nat) (dd:Option Addr) (sl:Array (Option Value)) :
  Meets (Builtin.«int.__rmul__» ⟨[.int a t,.ref l],[]⟩) (fun _ R s=>s.heap.get? l=some {cls:=.type "tuple",dict:=dd,data:=.seq items n,slots:=sl}/\R (.ok (.ret Value.notImplemented)) s) :=
 .of_wp fun prog w A R s h=>by obtain⟨hp,g,d,tk,os⟩:=s;obtain⟨hl,h⟩:=h;wp_walk;exact⟨_,rfl,h⟩
theorem Bz (l:Addr) (items:Array Value) (n:Nat) (dd:Option Addr) (sl:Array (Option Value)) (x:Int) (u:Tok) (h0:¬ items.isEmpty=true) (h2:2<=x) (h3:x<1000000) (hs:items.size*x.toNat<=16777216) :
  Meets (Builtin.«tuple.__mul__» ⟨[.ref l,.int x u],[]⟩) (fun _ R s=>s.heap.get? l=some {cls:=.type "tuple",dict:=dd,data:=.seq items n,slots:=sl}/\R (.ok (.ret (Value.ref s.heap.objs.size))) {s with heap:=s.heap.push {cls:=Value.type "tuple",data:=Data.seq (List.foldl (fun x1 x2=>x1++x2) #[] (List.replicate x.toNat items))}}) :=
 .of_wp fun prog w A R s h=>by
  obtain⟨hp,g,d,tk,os⟩:=s;obtain⟨hl,h⟩:=h;have c1:¬ (decide (x < -2 ^ 63) || decide (x ≥ 2 ^ 63))=true:=by simp;omega
  have c2:¬ (items.isEmpty || x==1)=true:=by
   have:¬ x=1:=by omega
   simp[this];simpa using h0
  have c3:¬ (decide (x<=0) || items.isEmpty)=true:=by
   have:¬ x<=0:=by omega
   simp[this];simpa using h0
  have e:(items.size:Int)*x=((items.size*x.toNat:Nat):Int):=by
   rw[Int.natCast_mul,Int.toNat_of_nonneg %[|5]]
  have c4:¬ ((items.size:Int)*x > (2 ^ 63-1) / 8):=by rw[e];omega
  have c5:¬ Builtin.Tuple.tupleTooMany ((items.size:Int)*x)=true:=by
   rw[Bool.not_eq_true];unfold Builtin.Tuple.tupleTooMany;rw[e];refine decide_eq_false ?_;have:(sizeLine:Int)=16777216:=by decide
   omega
  have c6:¬ (List.foldl (fun x1 x2=>x1++x2) #[] (List.replicate x.toNat items)).size > sizeLine:=by
   have:(List.foldl (fun x1 x2=>x1++x2) #[] (List.replicate x.toNat items)).size=x.toNat*items.size:=by
    have:=W5 items.toList x.toNat [];rw[List.nil_append] at this;have e2:(List.foldl (fun x1 x2=>x1++x2) #[] (List.replicate x.toNat items))=(List.replicate x.toNat items.toList).flatten.toArray:=this;rw[e2,List.size_toArray,J7];simp
   rw[this,Nat.mul_comm];exact Nat.not_lt.mpr hs
  wp_walk
  iterate 5
   (try (first|refine wpAny_ite_false (decide_eq_false c1) ?_|refine wpAny_ite_false (decide_eq_false c2) ?_|refine wpAny_ite_false (decide_eq_false c3) ?_|refine wpAny_ite_false (decide_eq_false c4) ?_|refine wpAny_ite_false (decide_eq_false c5) ?_))
   (try wp_walk)
  exact⟨_,rfl,h⟩
section
variable {X:Cx}
noncomputable def K3 (K:Frag):R2:=fun x y H Q=>∃ a k xs,x=.ref a/\y=.int k/\SqT K H a xs/\xs≠[]/\2<=k/\k<1000000/\xs.length*k.toNat<=sizeLine /\
 ∀ p,H p=none->Q (.ref p) (upd H p (.tup (List.replicate k.toNat xs).flatten))
theorem Fq:OpR X (binaryOp .Mult) (K3 X.K):=by
 intro pins s σ H x y v u Q I rx ry h;obtain⟨a,k,xs,rfl,rfl,ha,hx,h1,h2,hz,q⟩:=h
 (first|cases (show _=_ from rx.inv)|cases rx)
 obtain⟨t,rfl⟩:=ry;obtain⟨its,r1,p1,_⟩:=I.tuple ha;obtain⟨⟨cls,dd,data,sl⟩,ho,hc,n,hd⟩:=id p1;simp only at hc hd;subst hc hd;have hnew:List.foldl (fun x1 x2=>x1++x2) #[] (List.replicate k.toNat its.toArray)=(List.replicate k.toNat its).flatten.toArray:=by
  have:=W5 its k.toNat [];rw[List.nil_append] at this;exact this
 have hne:¬ its.toArray.isEmpty=true:=by
  have:its≠[]:=fun z=>hx (r1.nil_iff.mp z)
  simpa using this
 have hl:xs.length=its.length:=r1.length;refine wpAny_binaryOp_repeat_ref (T:="tuple") (U:="int") %[|4] ⟨_,ho,rfl⟩ (fun s'=>typeIs_int s' k t) Zi PySem.F.fills_int_mul PySem.F.slot_int_rmul Xk PySem.F.slot_int_index.lookup
  (call_meets PySem.F.slot_int_rmul (typeIs_int s k t) PySem.F.entry_int_rmul (PySem.F.args_int_rmul_2 _ _) (ZN k t a its.toArray n dd sl)
   ⟨ho,rfl,⟨_,ho,rfl⟩,call_meets PySem.F.slot_tuple_mul ⟨_,ho,rfl⟩ PySem.F.entry_tuple_mul (PySem.F.args_tuple_mul_2 _ _) (Bz a its.toArray n dd sl k t hne h1 h2 (by rw[List.size_toArray,<- hl];exact hz)) ⟨ho,?_⟩⟩)
 rw[hnew];refine⟨.ref s.heap.objs.size,_,I.laid (t':=s.toks) (o:=.tup (List.replicate k.toNat xs).flatten) (fun b ob q=>Heap.get?_push_of_some _ q) %[|3] ?_,rfl,q _ (I.hok.fresh %[|3])⟩;exact⟨by rw[J7,Nat.mul_comm];exact hz,_,r1.rep k.toNat,IsTup.new _ _⟩
end
end DL
end
noncomputable section
namespace DL
open PySem PySem.Spec PyProof.Rows L2
section
variable {prog:Program} {w:World} {A:Around} {E:Value->Shared->Prop} {s:Shared}
open HT
theorem W9 {t sl:Addr} {items:Array Value} {vl vu:Value} {lo hi:Option Int} {Q:Value->Shared->Prop} (ht:IsTup s.heap t items) (hs:s.heap.IsSliceOf sl vl vu .none) (pl:IsPart vl lo) (pu:IsPart vu hi)
  (hw:sIx items.size 0 lo=0/\sIx items.size items.size hi=items.size) (h:Q (.ref t) s):wpAny (model prog w) A (getItem (.ref t) (.ref sl)) Q E s:=by
 obtain⟨os,hos,hcs,hds⟩:=id hs;have hTs:s.TypeIs (.ref sl) "slice":=⟨os,hos,hcs⟩;unfold getItem
 try with_reducible refine wpAny_holding ?_
 first|refine wpAny_bind (wpAny_pure ?_)|skip
 refine wpAny_bind (wpAny_sequenceKey ht.typeIs %[|4] ?_);refine wpAny_bind (wpAny_callSpecial?_slot (name:=Str.ofString "__getitem__") ht.typeIs PyProof.Rows.slot_tuple_getitem
  (wpAny_call_entry PyProof.Rows.slot_tuple_getitem ht.typeIs entry_tuple_getitem ?_ (args_tuple_getitem _ _)))
 show wpAny _ _ (Builtin.Tuple.tupleItemsOf (.ref t) >>= _) _ _ s;refine wpAny_bind (tupleItemsOf_ ht ?_);refine wpAny_bind (wpAny_typeOf hTs ?_);rw[if_pos %[|4]];refine wpAny_bind (Xc hs pl pu ?_);rw[hw.1,hw.2];show wpAny _ _ (if (((0:Nat):Int)==0&&(1:Int)==1&&(items.size-0)==items.size)=true then _ else _) _ _ s;rw[if_pos (by simp)];have hT:=ht.typeIs;unfold Builtin.Tuple.tupleIsExact;refine wpAny_bind (wpAny_bind (wpAny_typeOf hT ?_));refine wpAny_pure ?_;rw[if_pos %[|4]];refine wpAny_bind (wpAny_rule ?_);exact wpAny_pure ⟨_,rfl,wpAny_pure h⟩
end
theorem A7 (l:Addr) (items:Array Value) (n:Nat) (dd:Option Addr) (sl:Array (Option Value)) (x:Int) (u:Tok) (h0:(items.isEmpty || x==1)=true) (h2:0<=x) (h3:x<1000000) :
  Meets (Builtin.«tuple.__mul__» ⟨[.ref l,.int x u],[]⟩) (fun _ R s=>s.heap.get? l=some {cls:=.type "tuple",dict:=dd,data:=.seq items n,slots:=sl}/\R (.ok (.ret (Value.ref l))) s) :=
 .of_wp fun prog w A R s h=>by
  obtain⟨hp,g,d,tk,os⟩:=s;obtain⟨hl,h⟩:=h;have c1:¬ (decide (x < -2 ^ 63) || decide (x ≥ 2 ^ 63))=true:=by simp;omega
  wp_walk
  iterate 5
   (try (first|refine wpAny_ite_false (decide_eq_false c1) ?_|refine wpAny_ite_true (decide_eq_true h0) ?_))
   (try wp_walk)
  exact⟨_,rfl,h⟩
theorem A8 (l:Addr) (items:Array Value) (n:Nat) (dd:Option Addr) (sl:Array (Option Value)) (u:Tok) (h0:¬ items.isEmpty=true) :
  Meets (Builtin.«tuple.__mul__» ⟨[.ref l,.int 0 u],[]⟩) (fun _ R s=>s.heap.get? l=some {cls:=.type "tuple",dict:=dd,data:=.seq items n,slots:=sl}/\R (.ok (.ret (Value.ref s.heap.objs.size))) {s with heap:=s.heap.push {cls:=Value.type "tuple",data:=Data.seq #[]}}) :=
 .of_wp fun prog w A R s h=>by
  obtain⟨hp,g,d,tk,os⟩:=s;obtain⟨hl,h⟩:=h;have c2:¬ (items.isEmpty || (0:Int)==1)=true:=by simpa using h0
  have c3:(decide ((0:Int)<=0) || items.isEmpty)=true:=by simp
  wp_walk
  iterate 5
   (try (first|refine wpAny_ite_false (decide_eq_false c2) ?_|refine wpAny_ite_true (decide_eq_true c3) ?_))
   (try wp_walk)
  exact⟨_,rfl,h⟩
section
variable {X:Cx}
theorem EY:SlR X (fun x lo hi H Q=>∃ a xs,x=.ref a/\SqT X.K H a xs/\(HT.sIx xs.length 0 lo=0/\HT.sIx xs.length xs.length hi=xs.length)/\Q (.ref a) H):=by
 intro pins s σ H x v vl vu lo hi sl Q I rx hs pl pu h;obtain⟨a,xs,rfl,hx,hw,q⟩:=h
 (first|cases (show _=_ from rx.inv)|cases rx)
 obtain⟨its,r,ht,hz⟩:=I.tuple hx;have hlen:its.toArray.size=xs.length:=by rw[List.size_toArray];exact r.length.symm
 refine⟨"tuple",_,PyProof.Rows.slot_tuple_getitem.lookup,ht.typeIs,?_⟩;exact W9 ht hs pl pu (by rw[hlen];exact hw) ⟨.ref a,H,I,rfl,q⟩
theorem Dh:OpR X (binaryOp .Add) (fun x y H Q=>∃ a b ys,x=.ref a/\y=.ref b/\SqT X.K H a []/\SqT X.K H b ys/\Q (.ref b) H):=by
 intro pins s σ H x y v u Q I rx ry h;obtain⟨a,b,ys,rfl,rfl,ha,hb,q⟩:=h
 (first|cases (show _=_ from rx.inv)|cases rx)
 cases ry;obtain⟨its,r1,p1,_⟩:=I.tuple ha;obtain⟨its2,r2,p2,_⟩:=I.tuple hb
 (first|cases (show _=_ from r1.inv)|cases r1)
 obtain⟨⟨cls,dd,data,sl⟩,ho,hc,n,hd⟩:=id p1;obtain⟨⟨cls2,dd2,data2,sl2⟩,ho2,hc2,n2,hd2⟩:=id p2;simp only at hc hd hc2 hd2;subst hc hd hc2 hd2;exact concat_meets ⟨_,ho,rfl⟩ ⟨_,ho2,rfl⟩ noFill_tuple_add seq_tuple_add PySem.F.slot_tuple_add PySem.F.entry_tuple_add (PySem.F.args_tuple_add_2 _ _)
  (PyProof.Rows.tuple_addW0 a b _ its2.toArray n n2 dd dd2 sl sl2 rfl) ⟨ho,ho2,.ref b,H,I,rfl,q⟩
theorem Df:OpR X (binaryOp .Mult) (fun x y H Q=>∃ a k xs,x=.ref a/\y=.int k/\SqT X.K H a xs/\(xs=[]\/k=1)/\0<=k/\k<1000000/\Q (.ref a) H):=by
 intro pins s σ H x y v u Q I rx ry h;obtain⟨a,k,xs,rfl,rfl,ha,hx,h1,h2,q⟩:=h
 (first|cases (show _=_ from rx.inv)|cases rx)
 obtain⟨t,rfl⟩:=ry;obtain⟨its,r1,p1,_⟩:=I.tuple ha;obtain⟨⟨cls,dd,data,sl⟩,ho,hc,n,hd⟩:=id p1;simp only at hc hd;subst hc hd;have hne:(its.toArray.isEmpty || k==1)=true:=by
  rcases hx with rfl|rfl
  ·(first|cases (show _=_ from r1.inv)|cases r1);rfl
  ·simp
 refine wpAny_binaryOp_repeat_ref (T:="tuple") (U:="int") %[|4] ⟨_,ho,rfl⟩ (fun s'=>typeIs_int s' k t) Zi PySem.F.fills_int_mul PySem.F.slot_int_rmul Xk PySem.F.slot_int_index.lookup
  (call_meets PySem.F.slot_int_rmul (typeIs_int s k t) PySem.F.entry_int_rmul (PySem.F.args_int_rmul_2 _ _) (ZN k t a its.toArray n dd sl)
   ⟨ho,rfl,⟨_,ho,rfl⟩,call_meets PySem.F.slot_tuple_mul ⟨_,ho,rfl⟩ PySem.F.entry_tuple_mul (PySem.F.args_tuple_mul_2 _ _) (A7 a its.toArray n dd sl k t hne h1 h2) ⟨ho,?_⟩⟩)
 exact⟨.ref a,H,I,rfl,q⟩
theorem Dg:OpR X (binaryOp .Mult) (fun x y H Q=>∃ a xs,x=.ref a/\y=.int 0/\SqT X.K H a xs/\xs≠[]/\∀ p,H p=none->Q (.ref p) (upd H p (.tup []))):=by
 intro pins s σ H x y v u Q I rx ry h;obtain⟨a,xs,rfl,rfl,ha,hx,q⟩:=h
 (first|cases (show _=_ from rx.inv)|cases rx)
 obtain⟨t,rfl⟩:=ry;obtain⟨its,r1,p1,_⟩:=I.tuple ha;obtain⟨⟨cls,dd,data,sl⟩,ho,hc,n,hd⟩:=id p1;simp only at hc hd;subst hc hd;have hne:¬ its.toArray.isEmpty=true:=by
  have:its≠[]:=fun z=>hx (r1.nil_iff.mp z)
  simpa using this
 refine wpAny_binaryOp_repeat_ref (T:="tuple") (U:="int") %[|4] ⟨_,ho,rfl⟩ (fun s'=>typeIs_int s' 0 t) Zi PySem.F.fills_int_mul PySem.F.slot_int_rmul Xk PySem.F.slot_int_index.lookup
  (call_meets PySem.F.slot_int_rmul (typeIs_int s 0 t) PySem.F.entry_int_rmul (PySem.F.args_int_rmul_2 _ _) (ZN 0 t a its.toArray n dd sl)
   ⟨ho,rfl,⟨_,ho,rfl⟩,call_meets PySem.F.slot_tuple_mul ⟨_,ho,rfl⟩ PySem.F.entry_tuple_mul (PySem.F.args_tuple_mul_2 _ _) (A8 a its.toArray n dd sl t hne) ⟨ho,?_⟩⟩)
 refine⟨.ref s.heap.objs.size,_,I.laid (t':=s.toks) (o:=.tup []) (fun b ob q=>Heap.get?_push_of_some _ q) %[|3] ?_,rfl,q _ (I.hok.fresh %[|3])⟩;exact⟨Nat.zero_le _,_,.nil,IsTup.new _ _⟩
end
end DL
end
noncomputable section
namespace DL
open PySem PySem.Spec PyProof.Rows L2
section
variable {prog:Program} {w:World} {A:Around} {E:Value->Shared->Prop} {s:Shared}
theorem UW (hj:s.heap.IsTupleIter j b n) (hb:s.heap.IsTuple b vs) (hv:vs[n]?=some v)
  (q:∀ g,g.IsTupleIter j b (n+1)->Heap.SameBut j s.heap g->Q v {s with heap:=g}):wpAny (model prog w) A (Builtin.SmallTypes.nextOf (.ref j)) Q E s:=by
 obtain⟨o,e1,e2,e3⟩:=id hj;obtain⟨p,f1,_,m,f3⟩:=hb;unfold Builtin.SmallTypes.nextOf;refine wpAny_bind (wpAny_callSpecial?_slot (name:=Str.ofString "__next__") hj.typeIs F.slot_tuple_iterator_next (wpAny_call_entry F.slot_tuple_iterator_next hj.typeIs F.entry_tuple_iterator_next ?_ (F.args_tuple_iterator_next_1 _)));show wpAny _ _ (field (.ref j) 0 >>= _) _ _ s;refine wpAny_bind (wpAny_field e1 e3 (x:=.ref b) rfl ?_);show wpAny _ _ (if (Value.ref b==Value.none)=true then _ else _) _ _ s;rw[if_neg (show ¬ ((Value.ref b==Value.none)=true) from Bool.false_ne_true)];show wpAny _ _ (field (.ref j) 1 >>= _) _ _ s;refine wpAny_bind (wpAny_field e1 e3 (x:=.int n 0) rfl ?_);show wpAny _ _ (seqItems? (.ref b) >>= _) _ _ s;refine wpAny_bind (wpAny_seqItems f1 f3 ?_);simp only[Int.toNat_natCast,hv];refine wpAny_bind (wpAny_setField e1 e3 (by simp) (wpAny_pure ⟨v,rfl,wpAny_pure (q _ ?_ (Heap.SameBut.update ..))⟩))
 exact⟨_,Heap.get?_update_self _ e1 (Obj.isFreed_of_fields (Obj.data_mapFields e3 _)),(Obj.cls_mapFields ..).trans e2,by rw[Obj.data_mapFields e3];simp[rawInt]⟩
theorem Dk (hh:A.handled=none) (hj:s.heap.IsTupleIter j b n) (hb:s.heap.IsTuple b vs) (hv:vs[n]?=none)
  (q:∀ g e,Heap.ExtBut j s.heap g->(∃ o,g.get? e=some o/\o.cls=.type "StopIteration")->E (.ref e) {s with heap:=g}):wpAny (model prog w) A (Builtin.SmallTypes.nextOf (.ref j)) Q E s:=by
 obtain⟨o,e1,e2,e3⟩:=id hj;obtain⟨p,f1,_,m,f3⟩:=hb;unfold Builtin.SmallTypes.nextOf;refine wpAny_bind (wpAny_callSpecial?_slot (name:=Str.ofString "__next__") hj.typeIs F.slot_tuple_iterator_next (wpAny_call_entry F.slot_tuple_iterator_next hj.typeIs F.entry_tuple_iterator_next ?_ (F.args_tuple_iterator_next_1 _)));show wpAny _ _ (field (.ref j) 0 >>= _) _ _ s;refine wpAny_bind (wpAny_field e1 e3 (x:=.ref b) rfl ?_);show wpAny _ _ (if (Value.ref b==Value.none)=true then _ else _) _ _ s;rw[if_neg (show ¬ ((Value.ref b==Value.none)=true) from Bool.false_ne_true)];show wpAny _ _ (field (.ref j) 1 >>= _) _ _ s;refine wpAny_bind (wpAny_field e1 e3 (x:=.int n 0) rfl ?_);show wpAny _ _ (seqItems? (.ref b) >>= _) _ _ s;refine wpAny_bind (wpAny_seqItems f1 f3 ?_);simp only[Int.toNat_natCast,hv];refine wpAny_bind (wpAny_rule (wpAny_bind (wpAny_setField e1 e3 (by simp) ?_)));show wpAny _ _ (newExc (.type "StopIteration") [] >>= _) _ _ _;refine wpAny_bind ?_;simp only[newExc,newTuple]
 refine wpAny_bind (wpAny_newObj_type ?_ (by size_fits));refine wpAny_bind (m:=firstArgMember _ _) (wpAny_of_eq (a:=Value.none) (by first|rfl|(simp only[firstArgMember];rfl)) ?_);refine wpAny_newObj_type ?_ (by size_fits);simp only[raiseNew];refine wpAny_bind (wpAny_handled ?_)
 (first|rw [show A.in1.handled=none from hh]|rw [hh]);refine wpAny_bind (wpAny_pure (wpAny_throw ?_))
 exact q _ _ (((Heap.SameBut.update ..).extBut.push _).push _) ⟨_,Heap.get?_push_size _ rfl,rfl⟩
theorem EN {z u v i j b c:Addr} {n:Nat} {xs ys:Array Value} {x y a d:Value} {Q:Value->Shared->Prop} (D:ZipApart z u v i j b c)
  (hz:IsZip s.heap z u v .none) (hu:IsPair s.heap u (.ref i) (.ref j)) (hv:IsPair s.heap v a d) (h1:s.heap.IsTupleIter i b n) (h2:s.heap.IsTupleIter j c n) (hb:s.heap.IsTuple b xs) (hc:s.heap.IsTuple c ys) (hx:xs[n]?=some x) (hy:ys[n]?=some y)
  (q:∀ g,IsZip g z u v (rawInt s.heap.objs.size)->IsPair g v x y->g.IsTupleIter i b (n+1)->g.IsTupleIter j c (n+1)->IsPair g s.heap.objs.size x y->g.objs.size=s.heap.objs.size+1 ->
   (∀ k o,k≠z->k≠v->k≠i->k≠j->s.heap.get? k=some o->g.get? k=some o)->Q (.ref s.heap.objs.size) {s with heap:=g}) :
  wpAny (model prog w) A (Builtin.«zip.__next__» ⟨[.ref z],[]⟩) (fun r s'=>∃ t,r=.done (.ret t)/\Q t s') E s:=by
 show wpAny _ _ (field (.ref z) 2 >>= _) _ _ _;refine wpAny_bind (wpAny_field hz rfl (x:=.bool false) rfl ?_);show wpAny _ _ (field (.ref z) 3 >>= _) _ _ _;refine wpAny_bind (wpAny_field hz rfl (x:=.ref u) rfl ?_);refine wpAny_bind (wpAny_seqItems hu rfl ?_);show wpAny _ _ (Builtin.SmallTypes.ownedTupleIsFree (.ref z) >>= _) _ _ _;refine wpAny_bind ?_;unfold Builtin.SmallTypes.ownedTupleIsFree;refine wpAny_bind (wpAny_field hz rfl (x:=.none) rfl (wpAny_pure ?_));simp only[if_true];refine wpAny_bind (wpAny_rule ?_);refine wpAny_bind (wpAny_field hz rfl (x:=.ref v) rfl ?_);refine wpAny_bind (wpAny_setField_rec hz (by simp) fun g1 z1 s1=>?_)
 replace z1:IsZip g1 z u v .ellipsis:=z1
 refine wpAny_bind ?_;simp only[List.zipIdx_cons,List.zipIdx_nil,List.forIn_cons,List.forIn_nil];refine wpAny_bind (wpAny_bind (wpAny_onRaise ?_));show wpAny _ _ (Builtin.SmallTypes.nextOf (.ref i) >>= _) _ _ _;refine wpAny_bind (UW (h1.extBut s1.extBut D.i1z) (hb.extBut s1.extBut D.l1z) hx fun g2 j2 s2=>wpAny_pure ?_);have v2:IsPair g2 v a d:=s2.extBut _ _ D.TOi1 (s1.extBut _ _ D.TOz hv);refine wpAny_bind (wpAny_seqItems v2 rfl ?_);refine wpAny_bind (wpAny_updateSeq_pair v2 fun g3 v3 s3=>?_)
 replace v3:IsPair g3 v x d:=v3
 refine wpAny_bind (wpAny_letGo (wpAny_pure ?_));refine wpAny_bind (wpAny_bind (wpAny_onRaise ?_));show wpAny _ _ (Builtin.SmallTypes.nextOf (.ref j) >>= _) _ _ _;refine wpAny_bind (UW (((h2.extBut s1.extBut D.i2z).extBut s2.extBut D.i12.symm).extBut s3.extBut D.TOi2.symm) (((hc.extBut s1.extBut D.l2z).extBut s2.extBut D.l2i1).extBut s3.extBut D.l2TO) hy fun g4 j4 s4=>wpAny_pure ?_);have v4:IsPair g4 v x d:=s4.extBut _ _ D.TOi2 v3;refine wpAny_bind (wpAny_seqItems v4 rfl ?_);refine wpAny_bind (wpAny_updateSeq_pair v4 fun g5 v5 s5=>?_)
 replace v5:IsPair g5 v x y:=v5
 refine wpAny_bind (wpAny_letGo (wpAny_pure (wpAny_pure ?_)));refine wpAny_bind (wpAny_seqItems v5 rfl ?_);refine wpAny_bind (wpAny_newTuple ?_);have sz:g5.objs.size=s.heap.objs.size:=by rw[s5.1,s4.1,s3.1,s2.1,s1.1]
 have z5:IsZip g5 z u v .ellipsis:=s5.extBut _ _ D.TOz.symm (s4.extBut _ _ D.i2z.symm (s3.extBut _ _ D.TOz.symm (s2.extBut _ _ D.i1z.symm z1)));have k5:∀ k o,k≠z->k≠v->k≠i->k≠j->s.heap.get? k=some o->g5.get? k=some o:=fun k o c1 c2 c3 c4 e=>s5.extBut _ _ c2 (s4.extBut _ _ c4 (s3.extBut _ _ c2 (s2.extBut _ _ c3 (s1.extBut _ _ c1 e))));have a5:g5.IsTupleIter i b (n+1):=((j2.extBut s3.extBut D.TOi1.symm).extBut s4.extBut D.i12).extBut s5.extBut D.TOi1.symm;have b5:g5.IsTupleIter j c (n+1):=j4.extBut s5.extBut D.TOi2.symm;have lz:z<g5.objs.size:=Heap.lt_size z5;show wpAny _ _ (Builtin.SmallTypes.ownedTupleHandOut (.ref z) (.ref g5.objs.size) >>= _) _ _ _;refine wpAny_bind ?_;unfold Builtin.SmallTypes.ownedTupleHandOut;have z6:IsZip (g5.push {cls:=.type "tuple",data:=.seq #[x,y]}) z u v .ellipsis:=Heap.get?_push_of_some _ z5;refine wpAny_bind (wpAny_setField_rec z6 (by simp) fun g7 z7 s7=>?_)
 replace z7:IsZip g7 z u v (rawInt g5.objs.size):=z7
 refine wpAny_setField_rec z7 (by simp) fun g8 z8 s8=>?_
 replace z8:IsZip g8 z u v (rawInt g5.objs.size):=z8
 have up:∀ k o,k≠z->g5.get? k=some o->g8.get? k=some o:=fun k o c1 e=>s8.extBut _ _ c1 (s7.extBut _ _ c1 (Heap.get?_push_of_some _ e));have t8:IsPair g8 g5.objs.size x y:=s8.extBut _ _ (Nat.ne_of_gt lz) (s7.extBut _ _ (Nat.ne_of_gt lz) (Heap.get?_push_size _ rfl));have n8:g8.objs.size=g5.objs.size+1:=by rw[s8.1,s7.1,Heap.size_push]
 rw[sz] at z8 t8 n8;refine wpAny_pure ⟨_,rfl,?_⟩;show Q (.ref g5.objs.size) _;rw[sz];exact q g8 z8 (up _ _ D.TOz v5) (a5.at fun o e=>up _ o D.i1z e) (b5.at fun o e=>up _ o D.i2z e) t8 n8 fun k o c1 c2 c3 c4 e=>up k o c1 (k5 k o c1 c2 c3 c4 e)
theorem GV (hh:A.handled=none) (D:ZipApart z u v i j b c)
  (hz:IsZip s.heap z u v .none) (hu:IsPair s.heap u (.ref i) (.ref j)) (hv:IsPair s.heap v a d) (h1:s.heap.IsTupleIter i b n) (h2:s.heap.IsTupleIter j c n) (hb:s.heap.IsTuple b xs) (hc:s.heap.IsTuple c ys) (he:xs[n]?=none\/ys[n]?=none)
  (q:∀ g e,(∀ k o,k≠z->k≠v->k≠i->k≠j->s.heap.get? k=some o->g.get? k=some o)->(∃ o,g.get? e=some o/\o.cls=.type "StopIteration")->E (.ref e) {s with heap:=g}) :
  wpAny (model prog w) A (Builtin.«zip.__next__» ⟨[.ref z],[]⟩) Q E s:=by
 show wpAny _ _ (field (.ref z) 2 >>= _) _ _ _;refine wpAny_bind (wpAny_field hz rfl (x:=.bool false) rfl ?_);show wpAny _ _ (field (.ref z) 3 >>= _) _ _ _;refine wpAny_bind (wpAny_field hz rfl (x:=.ref u) rfl ?_);refine wpAny_bind (wpAny_seqItems hu rfl ?_);show wpAny _ _ (Builtin.SmallTypes.ownedTupleIsFree (.ref z) >>= _) _ _ _;refine wpAny_bind ?_;unfold Builtin.SmallTypes.ownedTupleIsFree;refine wpAny_bind (wpAny_field hz rfl (x:=.none) rfl (wpAny_pure ?_));simp only[if_true];refine wpAny_bind (wpAny_rule ?_);refine wpAny_bind (wpAny_field hz rfl (x:=.ref v) rfl ?_);refine wpAny_bind (wpAny_setField_rec hz (by simp) fun g1 z1 s1=>?_)
 replace z1:IsZip g1 z u v .ellipsis:=z1
 refine wpAny_bind ?_;simp only[List.zipIdx_cons,List.zipIdx_nil,List.forIn_cons,List.forIn_nil];refine wpAny_bind (wpAny_bind (wpAny_onRaise ?_));show wpAny _ _ (Builtin.SmallTypes.nextOf (.ref i) >>= _) _ _ _;have off:∀ {g:Heap} {e:Addr} {f0:Value},IsZip g z u v f0->(∃ o,g.get? e=some o/\o.cls=.type "StopIteration")->e≠z:=fun hz ⟨o,ho,hs⟩ x=>by subst x;rw[hz] at ho;cases ho;simp at hs
 cases hx:xs[n]? with
 | none =>
  refine wpAny_bind (Dk hh (h1.extBut s1.extBut D.i1z) (hb.extBut s1.extBut D.l1z) hx fun g2 e s2 ho=>?_);have z2:IsZip g2 z u v .ellipsis:=s2 _ _ D.i1z.symm z1;have ez:=off z2 ho;obtain⟨o,ho,hs⟩:=ho;refine wpAny_setField_rec z2 (by simp) fun g3 _ s3=>q g3 e (fun k o c1 _ c3 _ x=>s3.extBut _ _ c1 (s2 _ _ c3 (s1.extBut _ _ c1 x))) ⟨o,s3.extBut _ _ ez ho,hs⟩
 | some x =>
  have hy:ys[n]?=none:=by rcases he with h|h;rw[hx] at h;cases h;exact h
  refine wpAny_bind (UW (h1.extBut s1.extBut D.i1z) (hb.extBut s1.extBut D.l1z) hx fun g2 j2 s2=>wpAny_pure ?_);have v2:IsPair g2 v a d:=s2.extBut _ _ D.TOi1 (s1.extBut _ _ D.TOz hv);refine wpAny_bind (wpAny_seqItems v2 rfl ?_);refine wpAny_bind (wpAny_updateSeq_pair v2 fun g3 v3 s3=>?_);refine wpAny_bind (wpAny_letGo (wpAny_pure ?_));refine wpAny_bind (wpAny_bind (wpAny_onRaise ?_));show wpAny _ _ (Builtin.SmallTypes.nextOf (.ref j) >>= _) _ _ _;refine wpAny_bind (Dk hh (((h2.extBut s1.extBut D.i2z).extBut s2.extBut D.i12.symm).extBut s3.extBut D.TOi2.symm) (((hc.extBut s1.extBut D.l2z).extBut s2.extBut D.l2i1).extBut s3.extBut D.l2TO) hy fun g4 e s4 ho=>?_);have z4:IsZip g4 z u v .ellipsis:=s4 _ _ D.i2z.symm (s3.extBut _ _ D.TOz.symm (s2.extBut _ _ D.i1z.symm z1));have ez:=off z4 ho;obtain⟨o,ho,hs⟩:=ho;refine wpAny_setField_rec z4 (by simp) fun g5 _ s5=>q g5 e (fun k o c1 c2 c3 c4 x=>s5.extBut _ _ c1 (s4 _ _ c4 (s3.extBut _ _ c2 (s2.extBut _ _ c3 (s1.extBut _ _ c1 x))))) ⟨o,s5.extBut _ _ ez ho,hs⟩
theorem EO (D:ZipApart z u v i j b c)
  (hz:IsZip s.heap z u v .none) (hu:IsPair s.heap u (.ref i) (.ref j)) (hv:IsPair s.heap v a d) (h1:s.heap.IsTupleIter i b n) (h2:s.heap.IsTupleIter j c n) (hb:s.heap.IsTuple b xs) (hc:s.heap.IsTuple c ys) (hx:xs[n]?=some x) (hy:ys[n]?=some y)
  (q:∀ g,IsZip g z u v (rawInt s.heap.objs.size)->IsPair g v x y->g.IsTupleIter i b (n+1)->g.IsTupleIter j c (n+1)->IsPair g s.heap.objs.size x y->g.objs.size=s.heap.objs.size+1 ->
   (∀ k o,k≠z->k≠v->k≠i->k≠j->s.heap.get? k=some o->g.get? k=some o)->Q (some (.ref s.heap.objs.size)) {s with heap:=g}):wpAny (model prog w) A (pyNext (.ref z)) Q E s:=by
 have t:s.TypeIs (.ref z) "zip":=⟨_,hz,rfl⟩;unfold pyNext;exact wpAny_bind (wpAny_attempt (wpAny_callSpecial?_slot (name:=Str.ofString "__next__") t F.slot_zip_next (wpAny_call_entry F.slot_zip_next t F.entry_zip_next (EN D hz hu hv h1 h2 hb hc hx hy fun g a1 a2 a3 a4 a5 a6 a7=>wpAny_pure (q g a1 a2 a3 a4 a5 a6 a7)) (F.args_zip_next_1 _))))
theorem GW (hh:A.handled=none) (D:ZipApart z u v i j b c)
  (hz:IsZip s.heap z u v .none) (hu:IsPair s.heap u (.ref i) (.ref j)) (hv:IsPair s.heap v a d) (h1:s.heap.IsTupleIter i b n) (h2:s.heap.IsTupleIter j c n) (hb:s.heap.IsTuple b xs) (hc:s.heap.IsTuple c ys) (he:xs[n]?=none\/ys[n]?=none)
  (q:∀ g,(∀ k o,k≠z->k≠v->k≠i->k≠j->s.heap.get? k=some o->g.get? k=some o)->Q none {s with heap:=g}):wpAny (model prog w) A (pyNext (.ref z)) Q E s:=by
 have t:s.TypeIs (.ref z) "zip":=⟨_,hz,rfl⟩;unfold pyNext;refine wpAny_bind (wpAny_attempt (wpAny_callSpecial?_slot (name:=Str.ofString "__next__") t F.slot_zip_next (wpAny_call_entry F.slot_zip_next t F.entry_zip_next (GV hh D hz hu hv h1 h2 hb hc he fun g e hk ho=>?_) (F.args_zip_next_1 _))));obtain⟨o,ho,hs⟩:=ho;refine wpAny_bind (wpAny_isInstance (T:="StopIteration") (b:=true) ⟨o,ho,hs⟩ isSubtype_stop ?_);exact wpAny_pure (q _ hk)
end
section
variable {X:Cx} {pins:List (Addr×Obj)} {σ:L2.St} {H:Hp} {s:Shared}
theorem Vf {h':Heap} {t':Nat} {fp:List Addr} (I:Inv X pins σ H s) (k:∀ b o,b ∉ fp->s.heap.get? b=some o->h'.get? b=some o) (f:∀ b∈fp,FpOk X pins H b):Inv X pins σ H {s with heap:=h',toks:=t'}:=by
 have nit:∀ b u,H b=some u->b ∉ fp:=fun b u e z=>by rw[(f b z).1] at e;cases e
 refine I.step (g':=s.gens) (d':=s.drawn) (ch:=fp) (fun b hb=>⟨(f b hb).2.2.2.1,(f b hb).2.1,(f b hb).2.2.2.2.1,(f b hb).2.2.2.2.2⟩) (fun b o _ _ hc e _=>k b o hc e) (fun b o _ _ hc e _=>⟨o.slots,k b o hc e⟩) (fun _ _ _ _ n=>n)
  (fun b o hc e=>⟨o,k b o hc e⟩) (fun _ _ e=>e) (fun _ _ _ e=>e) (fun b ps e=>⟨#[],by rw[e];simp⟩) (fun m hm=>?_) (fun b u e=>?_) I.bare
 ·obtain⟨o,es,ep,ho,r⟩:=hm
  exact⟨o,es,ep,k _ o (fun z=>(f _ z).2.1 rfl) ho,r⟩
 ·refine (I.hok b u e).stay (fun c v hc q=>k c v ?_ q) (fun _ q=>q) fun _ _ q=>q
  rcases hc with z|z
  ·rw[z];exact nit b u e
  ·exact nit c _ z
end
noncomputable def Itz (K:Frag) (b c:Addr):It :=
  ⟨fun i H=>∃ xs ys x y,SqT K H b xs/\SqT K H c ys/\xs[i]?=some x/\ys[i]?=some y,
   fun i H x H'=>∃ T p q,H T=none/\x=.ref T/\H'=upd H T (.tup [p,q])/\(∀ xs,SqT K H b xs->xs[i]?=some p)/\∀ ys,SqT K H c ys->ys[i]?=some q,
   fun i H=>∃ xs ys,SqT K H b xs/\SqT K H c ys/\(xs.length<=i\/ys.length<=i)⟩
noncomputable def zTn (z u v i j b c:Addr) (n:Nat) (h:Heap):Prop:=IsZip h z u v .none/\IsPair h u (.ref i) (.ref j)/\(∃ a d,IsPair h v a d)/\h.IsTupleIter i b n/\h.IsTupleIter j c n
theorem Cr {P:Program} {w:World} {K:Frag} {elts:List Expr} {x1:Nat} {pos:Pos} {z u v i j b c:Addr} (D:ZipApart z u v i j b c) :
  Turn P w K (.Tuple elts x1 pos) (Itz K b c) [z,u,v,i,j] z (zTn z u v i j b c) where
 mem:=by simp
 obj:=fun n h st k hk=>by
  obtain⟨hz,hu,⟨a,d,hv⟩,⟨o1,e1,_,d1⟩,⟨o2,e2,_,d2⟩⟩:=st;simp only[List.mem_cons,List.not_mem_nil,or_false] at hk;rcases hk with rfl|rfl|rfl|rfl|rfl
  ·exact⟨_,hz,fun w e=>nomatch e⟩
  ·exact⟨_,hu,fun w e=>nomatch e⟩
  ·exact⟨_,hv,fun w e=>nomatch e⟩
  ·exact⟨_,e1,fun w e=>by rw[d1] at e;cases e⟩
  ·exact⟨_,e2,fun w e=>by rw[d2] at e;cases e⟩
 keep:=fun n h h' st k=>by
  obtain⟨hz,hu,⟨a,d,hv⟩,h1,h2⟩:=st;exact⟨k z (by simp) _ hz,k u (by simp) _ hu,⟨a,d,k v (by simp) _ hv⟩,h1.at fun o e=>k i (by simp) o e,h2.at fun o e=>k j (by simp) o e⟩
 item:=by
  intro X hP hw hK hc n pins s σ H E I hf st hg;subst hP hw hK;obtain⟨hz,hu,⟨a,d,hv⟩,h1,h2⟩:=st;obtain⟨xs,ys,x,y,q1,q2,hx,hy⟩:=hg;obtain⟨its,rv,p,sz1⟩:=I.tuple q1;obtain⟨its',rv',p',sz2⟩:=I.tuple q2;obtain⟨vx,hvx,rx⟩:=rv.get hx;obtain⟨vy,hvy,ry⟩:=rv'.get hy;refine EO D hz hu hv h1 h2 (show s.heap.IsTuple b its.toArray from p) (show s.heap.IsTuple c its'.toArray from p') (x:=vx) (y:=vy) (by simpa using hvx) (by simpa using hvy) fun g a1 a2 a3 a4 a5 a6 a7=>?_;have lt:∀ {k o},s.heap.get? k=some o->k≠s.heap.objs.size:=fun e=>Nat.ne_of_lt (Heap.lt_size e);have li:i≠s.heap.objs.size:=by obtain⟨o,e,_⟩:=h1;exact lt e
  have lj:j≠s.heap.objs.size:=by obtain⟨o,e,_⟩:=h2;exact lt e
  refine⟨_,rfl,wpAny_letOwnedTupleGo_zip a1 fun g' z' sb=>?_⟩;have tp:IsPair g' s.heap.objs.size vx vy:=sb.extBut _ _ (Ne.symm (lt hz)) a5;have nf:H s.heap.objs.size=none:=I.hok.fresh %[|3];have I1:Inv X pins σ (upd H s.heap.objs.size (.tup [x,y])) {s with heap:=s.heap.push {cls:=.type "tuple",data:=.seq #[vx,vy]},toks:=s.toks} :=
   I.laid (fun k o e=>Heap.get?_push_of_some _ e) %[|3] ⟨by simp only[List.length_cons,List.length_nil];rw[sizeLine_eq];decide,[vx,vy],.cons rx (.cons ry .nil),⟨_,Heap.get?_push_size _ rfl,rfl,_,rfl⟩⟩
  have ff:∀ k∈[z,u,v,i,j],k≠s.heap.objs.size:=fun k hk=>by
   simp only[List.mem_cons,List.not_mem_nil,or_false] at hk;rcases hk with rfl|rfl|rfl|rfl|rfl
   ·exact lt hz
   ·exact lt hu
   ·exact lt hv
   ·exact li
   ·exact lj
  have f':∀ k∈[z,u,v,i,j],FpOk X pins (upd H s.heap.objs.size (.tup [x,y])) k:=fun k hk=>⟨by rw[Yx (ff k hk)];exact (hf k hk).1,(hf k hk).2⟩;have I2:Inv X pins σ (upd H s.heap.objs.size (.tup [x,y])) {s with heap:=g',toks:=s.toks}:=by
   refine Vf (s:={s with heap:=s.heap.push {cls:=.type "tuple",data:=.seq #[vx,vy]},toks:=s.toks}) (h':=g') (t':=s.toks) I1 (fun k o hk e=>?_) f';rcases Heap.get?_push_cases e with ⟨rfl,rfl⟩|e'
   ·exact tp
   ·simp only[List.mem_cons,List.not_mem_nil,or_false,not_or] at hk
    exact sb.extBut _ _ hk.1 (a7 k o hk.1 hk.2.2.1 hk.2.2.2.1 hk.2.2.2.2 e')
  refine⟨.ref s.heap.objs.size,_,I2,rfl,⟨_,x,y,nf,rfl,rfl,fun xs' q=>by rw[I.tuple_inj q q1];exact hx,fun ys' q=>by rw[I.tuple_inj q q2];exact hy⟩,?_,fun k hk=>(f' k hk).1⟩;exact⟨z',sb.extBut _ _ D.TIz (a7 _ _ D.TIz D.TITO D.TIi1 D.TIi2 hu),⟨_,_,sb.extBut _ _ D.TOz a2⟩,a3.extBut sb.extBut D.i1z,a4.extBut sb.extBut D.i2z⟩
 done:=by
  intro X hP hw hK hc n pins s σ H E I hf st hg;subst hP hw hK;obtain⟨hz,hu,⟨a,d,hv⟩,h1,h2⟩:=st;obtain⟨xs,ys,q1,q2,hx⟩:=hg;obtain⟨its,rv,p,sz1⟩:=I.tuple q1;obtain⟨its',rv',p',sz2⟩:=I.tuple q2;have l1:=rv.length;have l2:=rv'.length;refine GW (I.ok.hd hc) D hz hu hv h1 h2 (show s.heap.IsTuple b its.toArray from p) (show s.heap.IsTuple c its'.toArray from p') (by rcases hx with hx|hx;exact .inl (by simp;omega);exact .inr (by simp;omega)) fun g k=>⟨rfl,Vf (h':=g) (t':=s.toks) I (fun m o hm e=>?_) hf⟩;simp only[List.mem_cons,List.not_mem_nil,or_false,not_or] at hm;exact k m o hm.1 hm.2.2.1 hm.2.2.2.1 hm.2.2.2.2 e
 self:=fun _ _ _ _ _ st h=>wpAny_pyIter_zip st.1 h
end DL
end
noncomputable section
namespace DL
open PySem PySem.Spec PyProof.Rows L2
noncomputable def bAdd (d e:D) (M:Mem) (Q:DK):Prop :=
 match d,e with
 | .int i,.int j=>Q (.int (i+j)) M
 | .str x,.str y=>x.length+y.length<=sizeLine/\Q (.str (x++y)) M
 | .lst a,.lst b=>∃ xs ys,M a=some (.ls xs)/\M b=some (.ls ys)/\xs.length+ys.length<=sizeLine/\alloc M (.ls (xs++ys)) fun p M'=>Q (.lst p) M'
 | .tup xs,.tup ys=>xs.length+ys.length<=sizeLine/\Q (.tup (xs++ys)) M
 | _,_=>False
noncomputable def bInt (f:Int->Int->Prop) (g:Int->Int->Int) (d e:D) (M:Mem) (Q:DK):Prop :=
 match d,e with
 | .int i,.int j=>f i j/\Q (.int (g i j)) M
 | _,_=>False
noncomputable def bMul (d e:D) (M:Mem) (Q:DK):Prop :=
 match d,e with
 | .int i,.int j=>IntMulOk i j/\Q (.int (i*j)) M
 | .tup xs,.int k=>0<=k/\k<1000000/\xs.length*k.toNat<=sizeLine/\Q (.tup (List.replicate k.toNat xs).flatten) M
 | .lst a,.int k=>∃ xs,M a=some (.ls xs)/\0<=k/\k<1000000/\xs.length*k.toNat<=sizeLine/\alloc M (.ls (List.replicate k.toNat xs).flatten) fun p M'=>Q (.lst p) M'
 | _,_=>False
noncomputable def UH (j:Int):Prop:=j≠0/\j.natAbs.log2<9000
noncomputable def bOp:Operator->D->D->Mem->DK->Prop
 | .Add=>bAdd
 | .Sub=>bInt (fun _ _=>True) fun i j=>i-j
 | .Mult=>bMul
 | .FloorDiv=>bInt (fun _ j=>UH j) fun i j=>i.fdiv j
 | .Mod=>bInt (fun _ j=>j≠0) fun i j=>i.fmod j
 | .Pow=>bInt CPow fun i j=>i ^ j.toNat
 | _=>fun _ _ _ _=>False
theorem EI (h:bInt f g d e M Q):∃ i j,d=.int i/\e=.int j/\f i j/\Q (.int (g i j)) M:=by
 cases d with
 | int i=>cases e with
  | int j=>exact⟨i,j,rfl,rfl,h.1,h.2⟩
  | _=>exact h.elim
 | _=>exact h.elim
section
variable {X:Cx}
theorem Vl
  (rule:∀ (i j:Int) (t u:Tok) (s:Shared) (Q:Value->Shared->Prop) (E:Value->Shared->Prop),C i j->Q (.int (g i j) s.toks) {s with toks:=s.toks+1}->wpAny (model X.prog X.w) X.A (f (.int i t) (.int j u)) Q E s) :
  OpR X f (Zx X.K (bInt C g)):=by
 refine (opI (X:=X) (C:=C) (g:=g) rule).imp ?_;rintro x y H Q ⟨d,e,M,R,r1,r2,rm,h,q⟩;obtain⟨i,j,rfl,rfl,h1,h2⟩:=EI h
 (first|cases (show _=_ from r1.inv)|cases r1);(first|cases (show _=_ from r2.inv)|cases r2)
 exact⟨_,_,rfl,rfl,h1,q _ _ _ _ (.refl H) rm (.int _) h2⟩
theorem Ft:OpR X (binaryOp .Add) (Zx X.K bAdd):=by
 rintro pins s σ H x y v u Q I rx ry ⟨d,e,M,R,r1,r2,rm,h,q⟩;unfold bAdd at h;split at h
 ·cases (show x=_ from r1.inv);cases (show y=_ from r2.inv)
  exact HH pins s σ H _ _ v u Q I rx ry ⟨_,_,rfl,rfl,q _ _ _ _ (.refl H) rm (.int _) h⟩
 ·cases (show x=_ from r1.inv);cases (show y=_ from r2.inv)
  exact Al pins s σ H _ _ v u Q I rx ry ⟨_,_,rfl,rfl,h.1,q _ _ _ _ (.refl H) rm (.str _) h.2⟩
 ·cases (show x=_ from r1.inv);cases (show y=_ from r2.inv)
  obtain⟨xs,ys,h1,h2,h3,h4⟩:=h;obtain⟨vs,e1,q1⟩:=rm _ _ h1;obtain⟨ws,e2,q2⟩:=rm _ _ h2;refine HD pins s σ H _ _ v u Q I rx ry ⟨_,_,vs,ws,rfl,rfl,e1,e2,by rw[q1.length,q2.length];exact h3,fun p hp=>?_⟩;exact q _ _ _ _ (.upd (.inl hp)) (rm.lst hp (q1.append q2)) (.lst p) (h4.at (rm.none hp))
 ·rename_i xs ys
  obtain⟨a,vs,rfl,h1,q1⟩:=r1.inv;obtain⟨b,ws,rfl,h2,q2⟩:=r2.inv;obtain⟨g2,g3⟩:=h;cases xs with
  | nil=>cases (show vs=_ from q1.inv);exact Dh pins s σ H _ _ v u Q I rx ry ⟨_,_,_,rfl,rfl,h1,h2,q _ _ _ _ (.refl H) rm (.tup h2 q2) g3⟩
  | cons x xs =>
   refine Fr pins s σ H _ _ v u Q I rx ry ⟨_,_,_,_,rfl,rfl,h1,h2,fun z=>?_,by rw[q1.length,q2.length];exact g2,fun z=>?_,fun z p hp=>?_⟩
   ·subst z;exact nomatch q1.length
   ·subst z
    cases ys with
    | nil=>rw [List.append_nil] at g3;exact q _ _ _ _ (.refl H) rm (.tup h1 q1) g3
    | cons y ys=>exact nomatch q2.length
   ·exact q _ _ _ _ (.upd (.inl hp)) (rm.tup hp) (.tup (.of upd_same) ((q1.append q2).ext (.upd (.inl hp)))) g3
 ·exact h.elim
theorem RelDs.rep {K:Frag} {H:Hp} {vs:List V} {ds:List D} (r:RelDs K H vs ds):∀ k:Nat,RelDs K H (List.replicate k vs).flatten (List.replicate k ds).flatten
 | 0=>.nil
 | k+1=>by
  rw[List.replicate_succ,List.replicate_succ,List.flatten_cons,List.flatten_cons];exact r.append (RelDs.rep r k)
theorem Fs:OpR X (binaryOp .Mult) (Zx X.K bMul):=by
 rintro pins s σ H x y v u Q I rx ry ⟨d,e,M,R,r1,r2,rm,h,q⟩;unfold bMul at h;split at h
 ·cases (show x=_ from r1.inv);cases (show y=_ from r2.inv)
  exact opI (X:=X) (C:=IntMulOk) (g:=fun i j=>i*j) (fun _ _ _ _ _ _ _ hc q=>mul_int q hc) pins s σ H _ _ v u Q I rx ry ⟨_,_,rfl,rfl,h.1,q _ _ _ _ (.refl H) rm (.int _) h.2⟩
 ·rename_i ds k
  obtain⟨a,vs,rfl,h1,q1⟩:=r1.inv;cases (show y=_ from r2.inv);obtain⟨g2,g3,g4,g5⟩:=h;have hv:vs=[] ↔ ds=[]:=by rw[<- List.length_eq_zero_iff,q1.length,List.length_eq_zero_iff]
  by_cases hx:ds=[]\/k=1
  ·have e:(List.replicate k.toNat ds).flatten=ds:=by
    rcases hx with rfl|rfl
    ·simp
    ·simp
   rw[e] at g5;refine Df pins s σ H _ _ v u Q I rx ry ⟨_,_,_,rfl,rfl,h1,?_,g2,g3,q _ _ _ _ (.refl H) rm (.tup h1 q1) g5⟩;exact hx.imp_left hv.2
  ·have hn:ds≠[]:=fun z=>hx (.inl z)
   by_cases hk:k=0
   ·subst hk
    refine Dg pins s σ H _ _ v u Q I rx ry ⟨_,_,rfl,rfl,h1,fun z=>hn (hv.1 z),fun p hp=>?_⟩;exact q _ _ _ _ (.upd (.inl hp)) (rm.tup hp) (.tup (.of upd_same) .nil) g5
   ·refine Fq pins s σ H _ _ v u Q I rx ry ⟨_,_,_,rfl,rfl,h1,fun z=>hn (hv.1 z),by have:¬ k=1:=fun z=>hx (.inr z);omega,g3,by rw[q1.length];exact g4,fun p hp=>?_⟩
    exact q _ _ _ _ (.upd (.inl hp)) (rm.tup hp) (.tup (.of upd_same) ((q1.rep _).ext (.upd (.inl hp)))) g5
 ·cases (show x=_ from r1.inv);cases (show y=_ from r2.inv)
  obtain⟨xs,h1,g1,g2,h3,h4⟩:=h;obtain⟨vs,e1,q1⟩:=rm _ _ h1;refine HC pins s σ H _ _ v u Q I rx ry ⟨_,_,vs,rfl,rfl,e1,by omega,by omega,by rw[q1.length];exact h3,fun p hp=>?_⟩;exact q _ _ _ _ (.upd (.inl hp)) (rm.lst hp (q1.rep _)) (.lst p) (h4.at (rm.none hp))
 ·exact h.elim
theorem op_b (op:Operator):OpR X (binaryOp op) (Zx X.K (bOp op)):=by
 cases op with
 | Add=>exact Ft
 | Sub=>exact Vl fun _ _ _ _ _ _ _ _ q=>sub_int q
 | Mult=>exact Fs
 | FloorDiv=>exact Vl fun _ _ _ _ _ _ _ hc q=>floordiv_int hc.1 q (.inl (PyProof.noPylong_of_log2 hc.2))
 | Mod=>exact Vl fun _ _ _ _ _ _ _ hc q=>mod_int' hc q
 | Pow=>exact Vl fun _ _ _ _ _ _ _ hc q=>pow_int_small hc.1 hc.2.1 hc.2.2 q
 | _=>intro pins s σ H x y v u Q I rx ry ⟨d,e,M,R,r1,r2,rm,h,q⟩;exact (show False from h).elim
end
mutual
inductive Py (M:Mem):D->PyData->Prop
 | non:Py M .non .none
 | bl (b:Bool):Py M (.bl b) (.bool b)
 | int (i:Int):Py M (.int i) (.int i)
 | str (x:Str) (hx:(PyData.str x).canLay0=true):Py M (.str x) (.str x)
 | tup {ds:List D} {ps:List PyData} (h:Pys M ds ps):Py M (.tup ds) (.tuple ps)
 | fz {ds:List D} {ps:List PyData} (h:Pys M ds ps):Py M (.fz ds) (.list ps)
 | lst {a:Addr} {ds:List D} {ps:List PyData} (e:M a=some (.ls ds)) (h:Pys M ds ps):Py M (.lst a) (.list ps)
inductive Pys (M:Mem):List D->List PyData->Prop
 | nil:Pys M [] []
 | cons {d:D} {p:PyData} {ds:List D} {ps:List PyData} (h:Py M d p) (r:Pys M ds ps):Pys M (d::ds) (p::ps)
end
section
variable {X:Cx} {pins:List (Addr×Obj)} {s:Shared} {σ:L2.St} {H:Hp} {M:Mem}
theorem Pys.reads (I:L2.Inv X pins σ H s) (rm:RepM X.K H M) (h:Pys M ds ps):∀ {vs:List V} {us:List Value},RelDs X.K H vs ds->Vals vs us->∃ as,ReadsAll s.heap us ps as/\PyData.canLayAll0 ps=true:=by
 induction h using Pys.rec (motive_1:=fun d p _=>∀ (v:V) (u:Value),RelD X.K H v d->RelV v u->∃ as,Reads s.heap u p as/\p.canLay0=true) with
 | non=>rename_i v u r e;cases (show v=_ from r.inv);cases e;exact⟨_,.none,rfl⟩
 | bl b=>rename_i v u r e;cases (show v=_ from r.inv);cases e;exact⟨_,.bool b,rfl⟩
 | int i=>rename_i v u r e;cases (show v=_ from r.inv);obtain⟨_,rfl⟩:=e;exact⟨_,.int i _,rfl⟩
 | str x hx=>rename_i v u r e;cases (show v=_ from r.inv);obtain⟨_,rfl⟩:=e;exact⟨_,.str x _,hx⟩
 | tup h ih =>
  rename_i v u r e;obtain⟨a,vs,rfl,ht,r⟩:=r.inv;cases e;obtain⟨its,rv,⟨o,e1,e2,n,e3⟩,_⟩:=I.tuple ht;obtain⟨as,q,c⟩:=ih r rv;exact⟨as,.tuple e1 e2 e3 q,c⟩
 | fz h ih =>
  rename_i v u r e;obtain⟨a,vs,rfl,hf,r⟩:=r.inv;cases e;obtain⟨its,rv,⟨o,n,e1,e2,_,e3⟩,_⟩:=I.list hf.sq;obtain⟨as,q,c⟩:=ih r rv;exact⟨_,.list e1 e2 e3 q,c⟩
 | lst e h ih =>
  rename_i v u r z;cases (show v=_ from r.inv);cases z;obtain⟨vs,e0,r⟩:=rm _ _ e;obtain⟨its,rv,⟨o,n,e1,e2,_,e3⟩,_⟩:=I.list (.of e0);obtain⟨as,q,c⟩:=ih r rv;exact⟨_,.list e1 e2 e3 q,c⟩
 | nil=>intro vs us r e;cases (show vs=_ from r.inv);cases e;exact⟨_,.nil,rfl⟩
 | cons h r i1 i2 =>
  intro vs us q z;obtain⟨v,vs,rfl,q,qs⟩:=q.inv
  ·cases z with
   | cons z zs =>
    obtain⟨as,a1,a2⟩:=i1 _ _ q z;obtain⟨bs,b1,b2⟩:=i2 qs zs;exact⟨_,.cons a1 b1,show (_&&_)=true by rw[a2,b2];rfl⟩
theorem Py.reads (I:L2.Inv X pins σ H s) (rm:RepM X.K H M) (h:Py M d p) (r:RelD X.K H v d) (e:RelV v u):∃ as,Reads s.heap u p as/\p.canLay0=true:=by
 obtain⟨as,a1,a2⟩:=Pys.reads I rm (.cons h .nil) (.cons r .nil) (.cons e .nil);cases a1 with
 | cons b1 b2=>exact⟨_,b1,by revert a2;show (_&&_)=true->_;cases p.canLay0 with|true=>exact fun _=>rfl|false=>exact fun z=>absurd z Bool.false_ne_true⟩
end
noncomputable def cInt (g:Int->Int->Bool) (d e:D) (M:Mem) (Q:DK):Prop :=
 match d,e with
 | .int i,.int j=>Q (.bl (g i j)) M
 | _,_=>False
noncomputable def cEq (neg:Bool) (d e:D) (M:Mem) (Q:DK):Prop :=
 match d with
 | .dct p=>neg=false/\(∃ kvs,M p=some (.dk kvs))/\(∃ xs,e=.tup xs)/\Q (.bl false) M
 | d=>∃ a b,Py M d a/\Py M e b/\min a.depth b.depth<=60/\Q (.bl (if neg then !PyData.eqv a b else PyData.eqv a b)) M
theorem IO (h1:Py M d a) (h2:Py M e b) (h3:min a.depth b.depth<=60) (q:Q (.bl (if neg then !PyData.eqv a b else PyData.eqv a b)) M):cEq neg d e M Q:=by
 cases d with
 | dct p=>cases h1
 | _=>exact⟨a,b,h1,h2,h3,q⟩
theorem Bv (h:cEq neg d e M Q):(∃ p kvs xs,d=.dct p/\neg=false/\M p=some (.dk kvs)/\e=.tup xs/\Q (.bl false) M)\/∃ a b,Py M d a/\Py M e b/\min a.depth b.depth<=60/\Q (.bl (if neg then !PyData.eqv a b else PyData.eqv a b)) M:=by
 cases d with
 | dct p=>obtain⟨h0,⟨kvs,h1⟩,⟨xs,h2⟩,h3⟩:=h;exact .inl ⟨p,kvs,xs,rfl,h0,h1,h2,h3⟩
 | _=>exact .inr h
noncomputable def sdAt {α:Type}:List Str->List α->Str->Option α
 | x::xs,d::ds,k=>if k=x then some d else sdAt xs ds k
 | _,_,_=>none
theorem EntK.exact (h:EntK l xs us):(l.all fun e=>isExactStrKey e.key)=true:=by
 induction h with
 | nil=>rfl
 | cons hk _ ih=>rw [List.all_cons,hk,ih];rfl
theorem EntK.find (h:EntK l xs us):(l.find? fun e=>e.key.isStr k).map (·.val)=sdAt xs us k:=by
 induction h with
 | nil=>rfl
 | @cons e x t es xs us hk _ ih =>
  rw[List.find?_cons,hk];show _=if k=x then some e.val else sdAt xs us k
  by_cases c:k=x
  ·subst c
   rw[if_pos rfl,show (Value.str k t).isStr k=true from by simp[Value.isStr]];rfl
  ·rw[if_neg c,show (Value.str x t).isStr k=false from by simp[Value.isStr];exact fun z=>c z.symm];exact ih
theorem Jv {K:Frag} {H:Hp} {k:Str} {d:D}:∀ {xs:List Str} {vs:List V} {ds:List D},RelDs K H vs ds->sdAt xs ds k=some d->∃ v,sdAt xs vs k=some v/\RelD K H v d
 | [],_,_,_,e=>by simp[sdAt] at e
 | _::_,_,_,.nil,e=>by simp[sdAt] at e
 | x::xs,_,_,.cons h r,e=>by
  unfold sdAt at e ⊢;by_cases c:k=x
  ·rw[if_pos c] at e ⊢;cases e;exact⟨_,rfl,h⟩
  ·rw[if_neg c] at e ⊢;exact Jv r e
theorem Ug:∀ {xs:List Str} {vs:List V} {us:List Value},Vals vs us->sdAt xs vs k=some v->∃ u,sdAt xs us k=some u/\RelV v u
 | [],_,_,_,e=>by simp[sdAt] at e
 | _::_,_,_,.nil,e=>by simp[sdAt] at e
 | x::xs,_,_,.cons h r,e=>by
  unfold sdAt at e ⊢;by_cases c:k=x
  ·rw[if_pos c] at e ⊢;cases e;exact⟨_,rfl,h⟩
  ·rw[if_neg c] at e ⊢;exact Ug r e
theorem EW
  (ho:s.heap.get? a=some o) (hd:o.data=.dict es ep) (en:EntK es.toList xs us) (h:Q (sdAt xs us k) {s with toks:=s.toks+1}):wpAny (model prog w) A (dictGet a (.str k tk)) Q E s:=by
 unfold dictGet
 try with_reducible refine wpAny_holding ?_
 refine wpAny_bind (wpAny_pyHash_str (wpAny_bind (PyProof.Rows.KTD.kt_dictFind_strs (s:={s with toks:=s.toks+1}) ho hd (by obtain⟨l⟩:=es;simpa using en.exact) ?_)));have hq:Q (findBy (fun k v=>v.isStr k) es k) {s with toks:=s.toks+1}:=by
  have hf:findBy (fun k v=>v.isStr k) es k=(es.toList.find? fun e=>e.key.isStr k).map (·.val):=by
   obtain⟨l⟩:=es;simp[findBy]
  rw[hf,en.find];exact h
 rw[findBy_of_findIdx?] at hq;cases hi:es.findIdx? fun e=>e.key.isStr k with
 | none=>rw [hi] at hq;exact wpAny_pure hq
 | some i=>rw [hi] at hq;exact wpAny_bind (wpAny_dictEntries (s:={s with toks:=s.toks+1}) ho hd (wpAny_pure hq))
noncomputable def cIs (neg:Bool) (d e:D) (M:Mem) (Q:DK):Prop :=
 match e with
 | .non=>Q (.bl (if neg then (match d with | .non=>false|_=>true) else (match d with | .non=>true|_=>false))) M
 | .bl k=>Q (.bl (if neg then (match d with | .bl j=>!(j==k)|_=>true) else (match d with | .bl j=>j==k|_=>false))) M
 | _=>False
noncomputable def cOp:CmpOp->D->D->Mem->DK->Prop
 | .Eq=>cEq false
 | .NotEq=>cEq true
 | .Lt=>cInt fun i j=>decide (i<j)
 | .LtE=>cInt fun i j=>decide (i<=j)
 | .Gt=>cInt fun i j=>decide (j<i)
 | .GtE=>cInt fun i j=>decide (j<=i)
 | .In=>fun _ _ _ _=>False
 | .NotIn=>fun _ _ _ _=>False
 | .Is=>cIs false
 | .IsNot=>cIs true
section
variable {X:Cx}
theorem EH (h:cInt g d e M Q):∃ i j,d=.int i/\e=.int j/\Q (.bl (g i j)) M:=by
 cases d with
 | int i=>cases e with
  | int j=>exact⟨i,j,rfl,rfl,h⟩
  | _=>exact h.elim
 | _=>exact h.elim
theorem Vk (h:OpR X f (rI0 fun i j=>.bl (g i j))):OpR X f (Zx X.K (cInt g)):=by
 refine h.imp ?_;rintro x y H Q ⟨d,e,M,R,r1,r2,rm,h,q⟩;obtain⟨i,j,rfl,rfl,h⟩:=EH h
 (first|cases (show _=_ from r1.inv)|cases r1);(first|cases (show _=_ from r2.inv)|cases r2)
 exact⟨_,_,rfl,rfl,q _ _ _ _ (.refl H) rm (.bl _) h⟩
theorem WS (ha:s.TypeIs (.ref a) "dict") (hb:s.TypeIs (.ref b) "tuple") (h:Q .notImplemented s) :
  wpAny (model prog w) A (call (.builtin "dict.__eq__") [.ref a,.ref b]) Q E s:=by
 refine wpAny_call_entry PySem.F.slot_dict_eq ha PySem.F.entry_dict_eq ?_ (PySem.F.args_dict_eq_2 _ _);show wpAny _ _ (Builtin.Dict.dictSlotArgs "__eq__" ⟨[.ref a,.ref b],[]⟩ >>= _) _ _ s;refine wpAny_bind ?_;unfold Builtin.Dict.dictSlotArgs;refine wpAny_bind (wpAny_notOrdered_dict ha ?_);show wpAny _ _ (pure (Value.ref a,Value.ref b)) _ _ s;refine wpAny_pure ?_;refine wpAny_bind (wpAny_isInstance (T:="tuple") hb PySem.F.sub_tuple_dict ?_);simp only[Bool.not_false,if_true];refine wpAny_bind (wpAny_rule ?_);exact wpAny_pure ⟨_,rfl,h⟩
theorem Xi (l b:Addr) (items:Array Value) (n:Nat) (dd:Option Addr) (sl:Array (Option Value)) (ob:Obj) (hcb:ob.cls=.type "dict") :
  Meets (Builtin.«tuple.__eq__» ⟨[.ref l,.ref b],[]⟩) (fun _ R s=>s.heap.get? l=some {cls:=.type "tuple",dict:=dd,data:=.seq items n,slots:=sl}/\s.heap.get? b=some ob/\R (.ok (.ret .notImplemented)) s) :=
 .of_wp fun prog w A R s h=>by obtain⟨hp,g,d,tk,os⟩:=s;obtain⟨hl,hb,h⟩:=h;obtain⟨c,dd2,da2,sl2⟩:=ob;cases hcb;have f1:=F.sub_dict_tuple;wp_walk using wpAny_loadPart' hl,wpAny_loadPart' hb;exact⟨_,rfl,h⟩
theorem Ua (ha:s.heap.get? a=some oa) (hca:oa.cls=.type "dict") (hb:s.heap.IsTuple b items) (hu:A.units<cLine):SeqAt.RcAt A s (.ref a) (.ref b) false:=fun prog w E Q h=>by
 have hne:a≠b:=fun e=>by
  subst e;obtain⟨o2,ho2,hc2,_⟩:=hb;rw[ha] at ho2;cases ho2;rw[hca] at hc2;exact absurd hc2 (by simp)
 obtain⟨⟨cls2,dd2,data2,sl2⟩,ho2,hc2,n2,hd2⟩:=id hb;simp only at hc2 hd2;subst hc2 hd2;exact (SeqAt.rc_eq_decline_or (k:=false) ⟨_,ha,hca⟩ ⟨_,ho2,rfl⟩ %[|4] F.sub_tuple_dict F.slot_dict_eq F.slot_tuple_eq_refl
  (fun _ hq=>WS ⟨_,ha,hca⟩ ⟨_,ho2,rfl⟩ hq)
  (fun _ hq=>call_meets F.slot_tuple_eq_refl ⟨_,ho2,rfl⟩ F.entry_tuple_eq (F.args_tuple_eq_2 _ _) (Xi b a items n2 dd2 sl2 oa hca) ⟨ho2,ha,hq⟩)
  (fun _ hq=>wpAny_isSame_ref_other hne ha ho2 (by rw[hca];simp) hq) (.inr hu) h)
theorem HG (hu:X.A.units+64<cLine):OpR X (compareOp .Eq) (Zx X.K (cEq false)):=by
 rintro pins s σ H x y v u Q I rx ry ⟨d,e,M,R,r1,r2,rm,h,q⟩;rcases Bv h with ⟨p,kvs,xs,rfl,_,h1,rfl,hq⟩|⟨a,b,p1,p2,hd,h⟩
 ·(first|cases (show _=_ from r1.inv)|cases r1);(first|cases (show _=_ from rx.inv)|cases rx)
  obtain⟨_,_,rfl,ht,r⟩:=r2.inv;cases ry;obtain⟨vs,e1,_⟩:=rm _ _ h1;obtain⟨_,_,vs,_,pp⟩:=(show ObjOk X.prog X.w H s.heap p (.dK vs) from I.hok p _ e1);obtain⟨o,es,ep,h1,h2,_⟩:=pp;obtain⟨its,rv,hT,_⟩:=I.tuple ht;exact Ua h1 h2.1 hT %[|5] X.prog X.w _ _ ⟨.bl _,H,I,rfl,q _ _ _ _ (.refl H) rm (.bl _) hq⟩
 obtain⟨as,a1,a2⟩:=p1.reads I rm r1 rx;obtain⟨bs,b1,b2⟩:=p2.reads I rm r2 ry;exact SeqAt.compareEq_reads a1 b1 a2 b2 %[|5] ⟨.bl _,H,I,rfl,q _ _ _ _ (.refl H) rm (.bl _) h⟩
theorem HE (hu:X.A.units+64<cLine):OpR X (compareOp .NotEq) (Zx X.K (cEq true)):=by
 rintro pins s σ H x y v u Q I rx ry ⟨d,e,M,R,r1,r2,rm,h,q⟩;rcases Bv h with ⟨_,_,_,_,h0,_⟩|⟨a,b,p1,p2,hd,h⟩
 ·cases h0
 obtain⟨as,a1,a2⟩:=p1.reads I rm r1 rx;obtain⟨bs,b1,b2⟩:=p2.reads I rm r2 ry;exact SeqAt.compareNe_reads a1 b1 a2 b2 %[|5] ⟨.bl _,H,I,rfl,q _ _ _ _ (.refl H) rm (.bl _) h⟩
noncomputable def isB (d e:D):Option Bool :=
 match e with
 | .non=>some (match d with | .non=>true|_=>false)
 | .bl k=>some (match d with | .bl j=>j==k|_=>false)
 | _=>none
theorem Bu (h:cIs neg d e M Q):(e=.non\/∃ k,e=.bl k)/\∃ b,isB d e=some b/\Q (.bl (if neg then !b else b)) M:=by
 cases e with
 | non =>
  refine⟨.inl rfl,_,rfl,?_⟩;cases d<;>exact h
 | bl k =>
  refine⟨.inr ⟨k,rfl⟩,_,rfl,?_⟩;cases d<;>exact h
 | _=>exact (show False from h).elim
theorem DZ {K:Frag} {H:Hp} {x y:V} {d e:D} {v u:Value} {b:Bool} (r1:RelD K H x d) (rx:RelV x v) (r2:RelD K H y e) (ry:RelV y u) (he:e=.non\/∃ k,e=.bl k) (hb:isB d e=some b):plainIs v u=true/\(v==u)=b:=by
 rcases he with rfl|⟨k,rfl⟩
 ·(first|cases (show _=_ from r2.inv)|cases r2);cases ry;cases hb
  cases r1<;>first|((first|cases (show _=_ from rx.inv)|cases rx);exact⟨rfl,rfl⟩)|(obtain⟨t,rfl⟩:=rx;exact⟨rfl,rfl⟩)
 ·(first|cases (show _=_ from r2.inv)|cases r2);cases ry;cases hb
  cases r1<;>first|((first|cases (show _=_ from rx.inv)|cases rx);exact⟨rfl,rfl⟩)|(obtain⟨t,rfl⟩:=rx;exact⟨rfl,rfl⟩)|(rename_i j;(first|cases (show _=_ from rx.inv)|cases rx);cases j<;>cases k<;>exact⟨rfl,rfl⟩)
theorem HF:OpR X (compareOp .Is) (Zx X.K (cIs false)):=by
 rintro pins s σ H x y v u Q I rx ry ⟨d,e,M,R,r1,r2,rm,h,q⟩;obtain⟨he,b,hb,h⟩:=Bu h;obtain⟨a1,a2⟩:=DZ r1 rx r2 ry he hb;refine wpAny_is_plain a1 ?_;rw[a2];exact⟨.bl _,H,I,rfl,q _ _ _ _ (.refl H) rm (.bl _) h⟩
theorem BK:OpR X (compareOp .IsNot) (Zx X.K (cIs true)):=by
 rintro pins s σ H x y v u Q I rx ry ⟨d,e,M,R,r1,r2,rm,h,q⟩;obtain⟨he,b,hb,h⟩:=Bu h;obtain⟨a1,a2⟩:=DZ r1 rx r2 ry he hb;refine wpAny_isNot_plain a1 ?_;rw[a2];exact⟨.bl _,H,I,rfl,q _ _ _ _ (.refl H) rm (.bl _) h⟩
noncomputable def eqTo (h:Heap) (p:PyData) (y:Value):Bool:=by
 classical exact decide (∃ d as,Reads h y d as/\d.canLay0=true/\PyData.eqv d p=true)
theorem Bh (r:Reads h y d as) (c:d.canLay0=true):eqTo h p y=PyData.eqv d p:=by
 unfold eqTo;cases e:PyData.eqv d p with
 | true=>simpa using ⟨d,⟨as,r⟩,c,e⟩
 | false =>
  simp only[decide_eq_false_iff_not];rintro⟨d',as',r',c',e'⟩;have:=SeqAt.Reads.unique d d' y as as' c r r';subst this;rw[e] at e';cases e'
theorem GT (h:(a&&b)=true):a=true/\b=true:=by
 cases a with
 | true=>exact⟨rfl,h⟩
 | false=>exact absurd h Bool.false_ne_true
theorem AX:∀ {us:List Value} {ps:List PyData} {as:List Addr},ReadsAll h us ps as->PyData.canLayAll0 ps=true->∀ y∈us,∃ d as,Reads h y d as/\d.canLay0=true
 | _,_,_,.nil,_,_,hy=>by cases hy
 | _,_,_,.cons r rr,c,y,hy=>by
  obtain⟨c1,c2⟩:=GT (show (_&&_)=true from c);rcases List.mem_cons.mp hy with rfl|hy
  ·exact⟨_,_,r,c1⟩
  ·exact AX rr c2 y hy
theorem FO (hu:A.units+64<cLine) (r:ReadsAll s.heap us ps as) (c:PyData.canLayAll0 ps=true) (rx:Reads s.heap x p bs) (cx:p.canLay0=true) (hd:p.depth<=60) :
  ∀ y∈us,SeqAt.EqAt A s y x (eqTo s.heap p y):=fun y hy=>by
 obtain⟨d,as',ry,cy⟩:=AX r c y hy;rw[Bh ry cy];exact SeqAt.eqAt_reads d p A s y x _ _ ry rx cy cx %[|5]
theorem opF:OpR X f (Zx X.K fun _ _ _ _=>False):=by
 rintro pins s σ H x y v u Q I rx ry ⟨d,e,M,R,r1,r2,rm,h,q⟩;exact h.elim
theorem op_c (hu:X.A.units+66<cLine) (op:CmpOp):OpR X (compareOp op) (Zx X.K (cOp op)):=by
 cases op with
 | Eq=>exact HG %[|5]
 | NotEq=>exact HE %[|5]
 | Lt=>exact Vk Ke
 | LtE=>exact Vk Kf
 | Gt=>exact Vk Kg
 | GtE=>exact Vk Kh
 | In=>exact opF
 | NotIn=>exact opF
 | Is=>exact HF
 | IsNot=>exact BK
noncomputable def iOp (d e:D) (M:Mem) (Q:DK):Prop :=
 match d,e with
 | .tup xs,.int i=>∃ v,atI xs i=some v/\Q v M
 | .fz xs,.int i=>∃ v,atI xs i=some v/\Q v M
 | .lst a,.int i=>∃ xs v,M a=some (.ls xs)/\atI xs i=some v/\Q v M
 | .str z,.int i=>z.length<=sizeLine/\∃ c,atI z.cps.toList i=some c/\Q (.str ⟨#[c]⟩) M
 | .sd xs ds,.str k=>∃ v,sdAt xs ds k=some v/\Q v M
 | _,_=>False
theorem RelDs.atI {K:Frag} {H:Hp} {vs:List V} {ds:List D} {i:Int} {d:D} (r:RelDs K H vs ds) (e:L2.atI ds i=some d):∃ v,L2.atI vs i=some v/\RelD K H v d:=by
 unfold L2.atI at e ⊢;rw[r.length];cases q:ixN ds.length i with
 | none=>rw [q] at e;cases e
 | some j=>rw [q] at e;exact r.get e
theorem FL (hn:∀ i,e≠.int i) (hk:∀ i,e≠.str i) (h:iOp d e M Q):False:=by
 unfold iOp at h;split at h
 ·exact hn _ rfl
 ·exact hn _ rfl
 ·exact hn _ rfl
 ·exact hn _ rfl
 ·exact hk _ rfl
 ·exact h
theorem FK (h:iOp d (.str k) M Q):∃ xs ds v,d=.sd xs ds/\sdAt xs ds k=some v/\Q v M:=by
 cases d with
 | sd xs ds=>obtain⟨v,h1,h2⟩:=(show ∃ v,sdAt xs ds k=some v/\Q v M from h);exact⟨xs,ds,v,rfl,h1,h2⟩
 | _=>exact (show False from h).elim
theorem Kn:IxR X (fun x y H Q=>∃ p xs vs k v,x=.ref p/\y=.str k/\TabK X.K p xs vs/\sdAt xs vs k=some v/\Q v H):=by
 intro value slice pins s σ H x y v u Q I rx ry h hs;obtain⟨p,xs,vs,k,z,rfl,rfl,⟨lo,o,es,ep,us,lk,ex,hd,en,rv⟩,e,q⟩:=h
 (first|cases (show _=_ from rx.inv)|cases rx)
 obtain⟨tk,rfl⟩:=ry;have ho:=I.kIn _ _ lk;have tI:s.TypeIs (.ref p) "dict":=⟨o,ho,ex.1⟩;obtain⟨w',ew,rw'⟩:=Ug rv e;refine subscriptTail_builtinR (x:=w') tI PySem.F.slot_dict_getitem.lookup ?_ hs;unfold getItem
 try with_reducible refine wpAny_holding ?_
 refine wpAny_bind (wpAny_sequenceKey tI %[|4] ?_);refine wpAny_bind (wpAny_callSpecial?_slot (name:=Str.ofString "__getitem__") tI PySem.F.slot_dict_getitem
  (wpAny_call_entry PySem.F.slot_dict_getitem tI PySem.F.entry_dict_getitem ?_ (PySem.F.args_dict_getitem_2 _ _)))
 show wpAny _ _ (dictGet p (.str k tk) >>= _) _ _ s;refine wpAny_bind (EW ho hd en ?_);rw[ew];exact wpAny_pure ⟨w',rfl,wpAny_pure ⟨rfl,z,H,I.tok _,rw',q⟩⟩
theorem ix_i:IxR X (Zx X.K iOp):=by
 rintro value slice pins s σ H x y v u Q I rx ry ⟨d,e,M,R,r1,r2,rm,h,q⟩ hs;cases r2 with
 | int i =>
  cases r1 with
  | tup ht r =>
   obtain⟨d,e,h⟩:=(show ∃ v,L2.atI _ i=some v/\R v M from h);obtain⟨w,e1,r1⟩:=r.atI e;exact HU value slice pins s σ H _ _ v u Q I rx ry ⟨_,_,_,_,rfl,rfl,ht,e1,q _ _ _ _ (.refl H) rm r1 h⟩ hs
  | fz ht r =>
   obtain⟨d,e,h⟩:=(show ∃ v,L2.atI _ i=some v/\R v M from h);obtain⟨w,e1,r1⟩:=r.atI e;exact B7 value slice pins s σ H _ _ v u Q I rx ry ⟨_,_,_,_,rfl,rfl,ht.sq,e1,q _ _ _ _ (.refl H) rm r1 h⟩ hs
  | lst a =>
   obtain⟨xs,d,e0,e,h⟩:=(show ∃ xs v,M a=some (.ls xs)/\L2.atI xs i=some v/\R v M from h);obtain⟨vs,e1,r⟩:=rm _ _ e0;obtain⟨w,e1',r1⟩:=r.atI e;exact B7 value slice pins s σ H _ _ v u Q I rx ry ⟨_,_,_,_,rfl,rfl,.of e1,e1',q _ _ _ _ (.refl H) rm r1 h⟩ hs
  | str z =>
   obtain⟨hz,c,e,h⟩:=(show z.length<=sizeLine/\∃ c,L2.atI z.cps.toList i=some c/\R (.str ⟨#[c]⟩) M from h);exact HV value slice pins s σ H _ _ v u Q I rx ry ⟨_,_,_,rfl,rfl,hz,e,q _ _ _ _ (.refl H) rm (.str _) h⟩ hs
  | _=>exact (show False from h).elim
 | str k =>
  obtain⟨xs,ds,w',rfl,e,h⟩:=FK h;cases r1 with
  | sd T r =>
   obtain⟨z,e1,r1⟩:=Jv r e;exact Kn value slice pins s σ H _ _ v u Q I rx ry ⟨_,_,_,_,_,rfl,rfl,T,e1,q _ _ _ _ (.refl H) rm r1 h⟩ hs
 | _=>exact (FL (by rintro i ⟨⟩) (by rintro i ⟨⟩) h).elim
noncomputable def cutG {α:Type} (xs:List α) (lo hi:Option Int):List α:=(xs.drop (HT.sIx xs.length 0 lo)).take (HT.sIx xs.length xs.length hi-HT.sIx xs.length 0 lo)
theorem RelDs.cut {K:Frag} {H:Hp} {vs:List V} {ds:List D} (r:RelDs K H vs ds) (lo hi:Option Int):RelDs K H (cutV vs lo hi) (cutG ds lo hi):=by
 unfold cutV cutG;rw[r.length];exact (r.drop _).take _
noncomputable def sOp (d:D) (lo hi:Option Int) (M:Mem) (Q:DK):Prop :=
 match d with
 | .fz xs=>alloc M (.ls (cutG xs lo hi)) fun p M'=>Q (.lst p) M'
 | .lst a=>∃ xs,M a=some (.ls xs)/\alloc M (.ls (cutG xs lo hi)) fun p M'=>Q (.lst p) M'
 | .tup xs=>Q (.tup (cutG xs lo hi)) M
 | _=>False
noncomputable def Km (K:Frag) (f:D->Option Int->Option Int->Mem->DK->Prop):V->Option Int->Option Int->Hp->VK->Prop:=fun x lo hi H Q=>∃ d M R,RelD K H x d/\RepM K H M/\f d lo hi M R/\∀ d' M' v H',HExt K H H'->RepM K H' M'->RelD K H' v d'->R d' M'->Q v H'
theorem sl_s:SlR X (Km X.K sOp):=by
 rintro pins s σ H x v vl vu lo hi sl Q I rx hs pl pu ⟨d,M,R,r1,rm,h,q⟩;cases r1 with
 | fz ht r =>
  exact AU pins s σ H _ v vl vu lo hi sl Q I rx hs pl pu ⟨_,_,rfl,ht.sq,fun p hp=>q _ _ _ _ (.upd (.inl hp)) (rm.lst hp (r.cut lo hi)) (.lst p) ((show alloc M (.ls (cutG _ lo hi)) fun p M'=>R (.lst p) M' from h).at (rm.none hp))⟩
 | lst a =>
  obtain⟨xs,e0,h⟩:=(show ∃ xs,M a=some (.ls xs)/\alloc M (.ls (cutG xs lo hi)) fun p M'=>R (.lst p) M' from h);obtain⟨vs,e1,r⟩:=rm _ _ e0;exact AU pins s σ H _ v vl vu lo hi sl Q I rx hs pl pu ⟨_,_,rfl,.of e1,fun p hp=>q _ _ _ _ (.upd (.inl hp)) (rm.lst hp (r.cut lo hi)) (.lst p) (h.at (rm.none hp))⟩
 | tup ht r =>
  rename_i vs ds;by_cases hw:HT.sIx vs.length 0 lo=0/\HT.sIx vs.length vs.length hi=vs.length
  ·have e:cutG ds lo hi=ds:=by
    unfold cutG;rw[<- r.length,hw.1,hw.2,List.drop_zero,Nat.sub_zero,r.length,List.take_length]
   have h':R (.tup (cutG ds lo hi)) M:=h;rw[e] at h';exact EY pins s σ H _ v vl vu lo hi sl Q I rx hs pl pu ⟨_,_,rfl,ht,hw,q _ _ _ _ (.refl H) rm (.tup ht r) h'⟩
  ·exact Hc pins s σ H _ v vl vu lo hi sl Q I rx hs pl pu ⟨_,_,rfl,ht,hw,fun p hp=>q _ _ _ _ (.upd (.inl hp)) (rm.tup hp) (.tup (.of upd_same) ((r.cut lo hi).ext (.upd (.inl hp)))) h⟩
 | _=>exact (show False from h).elim
noncomputable def fAbs:List D->Mem->DK->Prop
 | [.int i],M,Q=>Q (.int (if i<0 then -i else i)) M
 | _,_,_=>False
noncomputable def fMax:List D->Mem->DK->Prop
 | [.int i,.int j],M,Q=>Q (.int (if j > i then j else i)) M
 | _,_,_=>False
noncomputable def fMin:List D->Mem->DK->Prop
 | [.int i,.int j],M,Q=>Q (.int (if j<i then j else i)) M
 | _,_,_=>False
noncomputable def fStr:List D->Mem->DK->Prop
 | [.int i],M,Q=>i.natAbs.log2<1920/\Q (.str (toString i)) M
 | _,_,_=>False
noncomputable def fLen:List D->Mem->DK->Prop
 | [.tup xs],M,Q=>Q (.int xs.length) M
 | [.fz xs],M,Q=>Q (.int xs.length) M
 | [.lst a],M,Q=>∃ xs,M a=some (.ls xs)/\Q (.int xs.length) M
 | [.str z],M,Q=>z.length<=sizeLine/\Q (.int z.length) M
 | _,_,_=>False
noncomputable def J9:List D->Mem->DK->Prop
 | [.int i,.int j],M,Q=>UH j/\Q (.tup [.int (i.fdiv j),.int (i.fmod j)]) M
 | _,_,_=>False
noncomputable def Y8:List D->Mem->DK->Prop
 | [.tup xs],M,Q=>Q (.tup xs) M
 | [.fz xs],M,Q=>Q (.tup xs) M
 | [.lst a],M,Q=>∃ xs,M a=some (.ls xs)/\Q (.tup xs) M
 | _,_,_=>False
noncomputable def Yi:List D->Mem->DK->Prop
 | [.tup xs],M,Q=>alloc M (.ls xs) fun p M'=>Q (.lst p) M'
 | [.fz xs],M,Q=>alloc M (.ls xs) fun p M'=>Q (.lst p) M'
 | [.lst a],M,Q=>∃ xs,M a=some (.ls xs)/\alloc M (.ls xs) fun p M'=>Q (.lst p) M'
 | _,_,_=>False
noncomputable def fInt:List D->Mem->DK->Prop
 | [.int i],M,Q=>Q (.int i) M
 | [.bl b],M,Q=>Q (.int (if b then 1 else 0)) M
 | _,_,_=>False
theorem RelDs.one {K:Frag} {H:Hp} {vs:List V} {d:D} (r:RelDs K H vs [d]):∃ v,vs=[v]/\RelD K H v d:=by
 cases r with|cons h q=>cases q;exact⟨_,rfl,h⟩
theorem RelDs.two {K:Frag} {H:Hp} {vs:List V} {d e:D} (r:RelDs K H vs [d,e]):∃ v w,vs=[v,w]/\RelD K H v d/\RelD K H w e:=by
 cases r with|cons h q=>cases q with|cons h' q'=>cases q';exact⟨_,_,rfl,h,h'⟩
theorem IN:CallR X (.builtin "abs") (XG X.K fAbs):=by
 refine (EF (X:=X)).imp ?_;rintro xs H Q ⟨ds,M,R,r,rm,h,q⟩;unfold fAbs at h;split at h
 ·obtain⟨v,rfl,ra⟩:=r.one;(first|cases (show _=_ from ra.inv)|cases ra);exact⟨_,rfl,q _ _ _ _ (.refl H) rm (.int _) h⟩
 ·exact h.elim
theorem II (hc:X.calm=true):CallR X (.builtin "max") (XG X.K fMax):=by
 refine (Ce (X:=X) hc).imp ?_;rintro xs H Q ⟨ds,M,R,r,rm,h,q⟩;unfold fMax at h;split at h
 ·obtain⟨v,w,rfl,r1,r2⟩:=r.two;(first|cases (show _=_ from r1.inv)|cases r1);(first|cases (show _=_ from r2.inv)|cases r2);exact⟨_,_,rfl,q _ _ _ _ (.refl H) rm (.int _) h⟩
 ·exact h.elim
theorem IH (hc:X.calm=true):CallR X (.builtin "min") (XG X.K fMin):=by
 refine (Cd (X:=X) hc).imp ?_;rintro xs H Q ⟨ds,M,R,r,rm,h,q⟩;unfold fMin at h;split at h
 ·obtain⟨v,w,rfl,r1,r2⟩:=r.two;(first|cases (show _=_ from r1.inv)|cases r1);(first|cases (show _=_ from r2.inv)|cases r2);exact⟨_,_,rfl,q _ _ _ _ (.refl H) rm (.int _) h⟩
 ·exact h.elim
theorem IJ:CallR X (.builtin "len") (XG X.K fLen):=by
 refine (Jh (X:=X) |>.or Jg).imp ?_;rintro xs H Q ⟨ds,M,R,r,rm,h,q⟩;unfold fLen at h;split at h
 ·obtain⟨v,rfl,ra⟩:=r.one;obtain⟨_,_,rfl,ht,r⟩:=ra.inv;exact .inl ⟨_,_,rfl,.inr ht,q _ _ _ _ (.refl H) rm (by rw[r.length];exact .int _) h⟩
 ·obtain⟨v,rfl,ra⟩:=r.one;obtain⟨_,_,rfl,ht,r⟩:=ra.inv;exact .inl ⟨_,_,rfl,.inl ht.sq,q _ _ _ _ (.refl H) rm (by rw[r.length];exact .int _) h⟩
 ·obtain⟨v,rfl,ra⟩:=r.one
  obtain⟨xs,e0,h⟩:=h;obtain⟨vs,e1,r'⟩:=rm _ _ e0
  (first|cases (show _=_ from ra.inv)|cases ra);exact .inl ⟨_,_,rfl,.inl (.of e1),q _ _ _ _ (.refl H) rm (by rw[r'.length];exact .int _) h⟩
 ·obtain⟨v,rfl,ra⟩:=r.one;(first|cases (show _=_ from ra.inv)|cases ra);exact .inr ⟨_,rfl,h.1,q _ _ _ _ (.refl H) rm (.int _) h.2⟩
 ·exact h.elim
theorem Cf:CallR X (.builtin "divmod") (XG X.K J9):=by
 rintro pins s σ H xs us Q I rv ⟨ds,M,R,r,rm,h,q⟩;unfold J9 at h;split at h
 ·rename_i i j
  obtain⟨v,w,rfl,r1,r2⟩:=r.two;(first|cases (show _=_ from r1.inv)|cases r1);(first|cases (show _=_ from r2.inv)|cases r2);obtain⟨u,w',rfl,⟨t,rfl⟩,⟨t',rfl⟩⟩:=Vt rv;refine divmod_int h.1.1 ?_ (.inl (PyProof.noPylong_of_log2 h.1.2));have hn:H s.heap.objs.size=none:=I.hok.fresh %[|3];refine⟨.ref s.heap.objs.size,upd H s.heap.objs.size (.tup [.int (i.fdiv j),.int (i.fmod j)]),?_,rfl,q _ _ _ _ (.upd (.inl hn)) (rm.tup hn) (.tup (.of upd_same) (.cons (.int _) (.cons (.int _) .nil))) h.2⟩;refine I.laid (fun b o e=>Heap.get?_push_of_some _ e) %[|3] ⟨by simp only[List.length_cons,List.length_nil];rw[sizeLine_eq];decide,[.int (i.fdiv j) s.toks,.int (i.fmod j) (s.toks+1)],.cons ⟨_,rfl⟩ (.cons ⟨_,rfl⟩ .nil),?_⟩;exact⟨_,Heap.get?_push_size s.heap rfl,rfl,0,rfl⟩
 ·exact h.elim
theorem EG:CallR X (.type "tuple") (XG X.K Y8):=by
 refine (Ub (X:=X)).imp ?_;rintro xs H Q ⟨ds,M,R,r,rm,h,q⟩;unfold Y8 at h;split at h
 ·obtain⟨v,rfl,ra⟩:=r.one;obtain⟨_,_,rfl,ht,r⟩:=ra.inv;exact⟨_,_,rfl,.inr ⟨ht,q _ _ _ _ (.refl H) rm (.tup ht r) h⟩⟩
 ·obtain⟨v,rfl,ra⟩:=r.one;obtain⟨_,_,rfl,ht,r⟩:=ra.inv;exact⟨_,_,rfl,.inl ⟨ht.sq,fun p hp=>q _ _ _ _ (.upd (.inl hp)) (rm.tup hp) (.tup (.of upd_same) (r.ext (.upd (.inl hp)))) h⟩⟩
 ·obtain⟨v,rfl,ra⟩:=r.one
  obtain⟨xs,e0,h⟩:=h;obtain⟨vs,e1,r'⟩:=rm _ _ e0
  (first|cases (show _=_ from ra.inv)|cases ra);exact⟨_,_,rfl,.inl ⟨.of e1,fun p hp=>q _ _ _ _ (.upd (.inl hp)) (rm.tup hp) (.tup (.of upd_same) (r'.ext (.upd (.inl hp)))) h⟩⟩
 ·exact h.elim
theorem Gj:CallR X (.type "list") (XG X.K Yi):=by
 refine (Jf (X:=X)).imp ?_;rintro xs H Q ⟨ds,M,R,r,rm,h,q⟩;unfold Yi at h;split at h
 ·obtain⟨v,rfl,ra⟩:=r.one;obtain⟨_,_,rfl,ht,r⟩:=ra.inv;exact⟨_,_,rfl,.inr ht,fun p hp=>q _ _ _ _ (.upd (.inl hp)) (rm.lst hp r) (.lst p) (h.at (rm.none hp))⟩
 ·obtain⟨v,rfl,ra⟩:=r.one;obtain⟨_,_,rfl,ht,r⟩:=ra.inv;exact⟨_,_,rfl,.inl ht.sq,fun p hp=>q _ _ _ _ (.upd (.inl hp)) (rm.lst hp r) (.lst p) (h.at (rm.none hp))⟩
 ·obtain⟨v,rfl,ra⟩:=r.one
  obtain⟨xs,e0,h⟩:=h;obtain⟨vs,e1,r'⟩:=rm _ _ e0
  (first|cases (show _=_ from ra.inv)|cases ra);exact⟨_,_,rfl,.inl (.of e1),fun p hp=>q _ _ _ _ (.upd (.inl hp)) (rm.lst hp r') (.lst p) (h.at (rm.none hp))⟩
 ·exact h.elim
end
end DL
end
noncomputable section
namespace DL
open PySem PySem.Spec PyProof.Rows L2
noncomputable def tyD (M:Mem):D->Option String
 | .non=>some "NoneType"
 | .bl _=>some "bool"
 | .int _=>some "int"
 | .str _=>some "str"
 | .tup _=>some "tuple"
 | .fz _=>some "list"
 | .lst a=>match M a with|some (.ls _)=>some "list" | _=>none
 | .dct a=>match M a with|some (.dk _)=>some "dict" | _=>none
 | .exc _ _=>some "exc"
 | _=>none
noncomputable def isiT (a b:String):Bool:=a==b || (a == "bool" && b == "int") || (a == "exc" && b == "ValueError")
noncomputable def fIsi:List D->Mem->DK->Prop
 | [d,.ty T],M,Q=>∃ t,tyD M d=some t/\(T="int"\/T="bool"\/T="str"\/T="tuple"\/T="list"\/T="dict"\/T="ValueError")/\Q (.bl (isiT t T)) M
 | [.non,.cls _],M,Q=>Q (.bl false) M
 | [d,.cls c],M,Q=>∃ m,d=.exc m (xarg d)/\Q (.bl (YH m c)) M
 | [d,.tup cs],M,Q=>∃ m,∃ ns:List Str,d=.exc m (xarg d)/\cs=ns.map .cls/\Q (.bl (ns.any (YH m))) M
 | _,_,_=>False
theorem ZY (K:Frag) (h:t="NoneType"\/t="bool"\/t="int"\/t="str"\/t="tuple"\/t="list"\/t="dict")
  (h':T="int"\/T="bool"\/T="str"\/T="tuple"\/T="list"\/T="dict"\/T="ValueError"):PySem.W.kitOne K (.type t) (.type T)=some (isiT t T):=by
 rcases h with rfl|rfl|rfl|rfl|rfl|rfl|rfl<;>rcases h' with rfl|rfl|rfl|rfl|rfl|rfl|rfl<;>kernel_rfl
section
variable {X:Cx} {rz:Bool} {Xe:DSt->DK}
theorem Wz (I:L2.Inv X pins σ H s) (r:RelD X.K H v (.exc n x)):∃ a C,v=.ref a/\n∈xNames/\Z1 X.K n C/\∃ ox od,PySem.W.InstAt s.heap a ox C od:=by
 cases r with
 | @exc a C n hn hi hc h =>
  obtain⟨ob,vs,h1,h2,h3,h4⟩:=(I.hok _ _ h).1;exact⟨a,C,rfl,hn,hc,ob,none,h1,h2,by unfold PySem.W.notCls;rw[h4],by rw[h3];trivial⟩
 | @excF a C d n v x hn hi hc h hd r =>
  obtain⟨ob,vs,h1,h2,h3,h4⟩:=(I.hok _ _ h).1;obtain⟨o,ho⟩:=(I.hok _ _ hd).2.1;exact⟨a,C,rfl,hn,hc,ob,some o,h1,h2,by unfold PySem.W.notCls;rw[h4],by rw[h3];exact ho⟩
theorem IK (tab:Xr X.K=true):CallR X (.builtin "isinstance") (XG X.K fIsi):=by
 rintro pins s σ H xs us Q I rv ⟨ds,M,R,r,rm,h,q⟩;unfold fIsi at h;split at h
 ·rename_i d T
  obtain⟨v,w,rfl,r1,r2⟩:=r.two;(first|cases (show _=_ from r2.inv)|cases r2);obtain⟨u,w',rfl,ru,rw'⟩:=Vt rv;cases (show w'=Value.type T from rw');obtain⟨t,e,hT,h⟩:=h;have fin:∀ tk,EP X pins σ Q (.bool (isiT t T)) {s with toks:=tk}:=fun tk=>⟨.bl _,H,I.tok tk,rfl,q _ _ _ _ (.refl H) rm (.bl _) h⟩;cases r1 with
  | non=>cases e;cases (show u=Value.none from ru);exact PySem.W.kia_one PySem.W.kitx_none I.kIn True.intro (ZY _ (by simp) hT) (fun z=>nomatch z) fin
  | bl b=>cases e;cases (show u=Value.bool b from ru);exact PySem.W.kia_one PySem.W.kitx_bool I.kIn True.intro (ZY _ (by simp) hT) (fun z=>nomatch z) fin
  | int i=>cases e;obtain⟨t,rfl⟩:=(show ∃ t,u=Value.int i t from ru);exact PySem.W.kia_one PySem.W.kitx_int I.kIn True.intro (ZY _ (by simp) hT) (fun z=>nomatch z) fin
  | str x=>cases e;obtain⟨t,rfl⟩:=(show ∃ t,u=Value.str x t from ru);exact PySem.W.kia_one PySem.W.kitx_str I.kIn True.intro (ZY _ (by simp) hT) (fun z=>nomatch z) fin
  | @tup a vs ds ht _ =>
   cases e;cases (show u=Value.ref a from ru);obtain⟨its,_,⟨o,h1,h2,_⟩,_⟩:=I.tuple ht;exact PySem.W.kia_one PySem.W.kitx_tuple I.kIn ⟨o,h1,h2⟩ (ZY _ (by simp) hT) (fun z=>nomatch z) fin
  | @fz a vs ds ht _ =>
   cases e;cases (show u=Value.ref a from ru);obtain⟨its,_,⟨o,n,h1,h2,_⟩,_⟩:=I.list ht.sq;exact PySem.W.kia_one PySem.W.kitx_list I.kIn ⟨o,h1,h2⟩ (ZY _ (by simp) hT) (fun z=>nomatch z) fin
  | lst a =>
   cases (show u=Value.ref a from ru);simp only[tyD] at e;split at e<;>cases e;rename_i ds e0;obtain⟨vs,e1,_⟩:=rm _ _ e0;obtain⟨its,_,⟨o,n,h1,h2,_⟩,_⟩:=I.list (.of e1);exact PySem.W.kia_one PySem.W.kitx_list I.kIn ⟨o,h1,h2⟩ (ZY _ (by simp) hT) (fun z=>nomatch z) fin
  | dct a =>
   cases (show u=Value.ref a from ru);simp only[tyD] at e;split at e<;>cases e;rename_i ds e0;obtain⟨vs,e1,_⟩:=rm _ _ e0;obtain⟨_,_,vs,_,p⟩:=(show ObjOk X.prog X.w H s.heap a (.dK vs) from I.hok a _ e1);obtain⟨o,es,ep,h1,h2,_⟩:=p;exact PySem.W.kia_one PySem.W.kitx_dict I.kIn ⟨o,h1,h2.1⟩ (ZY _ (by simp) hT) (fun z=>nomatch z) fin
  | @exc a C n hn hi hc hx =>
   obtain⟨a,C,ev,hn,hc,hx⟩:=Wz I (.exc hn hi hc hx);cases ev;cases e;cases (show u=Value.ref a from ru);have e:isiT "exc" T=(T == "ValueError"):=by rcases hT with rfl|rfl|rfl|rfl|rfl|rfl|rfl<;>decide
   rw[e] at fin;exact PySem.W.kia_one (Ww (Z6 tab hn hc).1) I.kIn hx ((Z6 tab hn hc).2.2.1 T hT) (fun z=>nomatch z) fin
  | @excF a C d n v x hn hi hc hx hd rr0 =>
   obtain⟨a,C,ev,hn,hc,hx⟩:=Wz I (.excF hn hi hc hx hd rr0);cases ev;cases e;cases (show u=Value.ref a from ru);have e:isiT "exc" T=(T == "ValueError"):=by rcases hT with rfl|rfl|rfl|rfl|rfl|rfl|rfl<;>decide
   rw[e] at fin;exact PySem.W.kia_one (Ww (Z6 tab hn hc).1) I.kIn hx ((Z6 tab hn hc).2.2.1 T hT) (fun z=>nomatch z) fin
  | _=>cases e
 ·rename_i c
  obtain⟨v,w,rfl,r1,r2⟩:=r.two;obtain⟨u,w',rfl,ru,rw'⟩:=Vt rv
  (first|cases (show _=_ from r1.inv)|cases r1)
  cases r2 with
  | @cls D' c' hn' hc' =>
   cases (show w'=Value.ref D' from rw');cases (show u=Value.none from ru);exact PySem.W.kia_one PySem.W.kitx_none I.kIn True.intro (Dv tab hn' hc') (fun z=>nomatch z) fun tk=>⟨.bl _,H,I.tok tk,rfl,q _ _ _ _ (.refl H) rm (.bl _) h⟩
 ·rename_i d c _
  obtain⟨v,w,rfl,r1,r2⟩:=r.two;obtain⟨u,w',rfl,ru,rw'⟩:=Vt rv;obtain⟨m,ed,h⟩:=h;rw[ed] at r1;cases r2 with
  | @cls D' c' hn' hc' =>
   cases (show w'=Value.ref D' from rw');obtain⟨a,C,ev,hn,hc,hx⟩:=Wz I r1;subst ev
   ·cases (show u=Value.ref a from ru)
    have fin:∀ tk,EP X pins σ Q (.bool (YH m c)) {s with toks:=tk}:=fun tk=>⟨.bl _,H,I.tok tk,rfl,q _ _ _ _ (.refl H) rm (.bl _) h⟩;exact PySem.W.kia_one (Ww (Z6 tab hn hc).1) I.kIn hx ((Z6 tab hn hc).2.2.2 c D' hn' hc').2 (fun z=>nomatch z) fin
 ·rename_i d cs
  obtain⟨v,w,rfl,r1,r2⟩:=r.two;obtain⟨u,w',rfl,ru,rw'⟩:=Vt rv;obtain⟨m,ns,ed,rfl,h⟩:=h;rw[ed] at r1;obtain⟨b,vs,rfl,ht,rr⟩:=r2.inv;cases (show w'=Value.ref b from rw');obtain⟨a,C,ev,hn,hc,hx⟩:=Wz I r1;subst ev
  ·cases (show u=Value.ref a from ru)
   obtain⟨its,rv2,⟨o,h1,h2,n2,h3⟩,_⟩:=I.tuple ht;have key:∀ {ns:List Str} {vs:List V} {its:List Value},RelDs X.K H vs (ns.map .cls)->Vals vs its->PySem.W.kitAny X.K (.ref C) its=some (ns.any (YH m)):=by
    intro ns
    induction ns with
    | nil=>intro vs its r q;(first|cases (show _=_ from r.inv)|cases r);cases q;rfl
    | cons c ns ih =>
     intro vs its r q;cases r with
     | cons e r =>
      cases e with
      | @cls D' c' hn' hc' =>
       cases q with
       | cons e2 q =>
        cases e2;have k1:=((Z6 tab hn hc).2.2.2 c D' hn' hc').2;show (match PySem.W.kitOne X.K (.ref C) (.ref D') with|some true=>some true|some false=>PySem.W.kitAny X.K (.ref C) _|none=>none)=_;rw[k1,List.any_cons];cases YH m c with
        | true=>rfl
        | false=>exact ih r q
   have fin:∀ tk,EP X pins σ Q (.bool (ns.any (YH m))) {s with toks:=tk}:=fun tk=>⟨.bl _,H,I.tok tk,rfl,q _ _ _ _ (.refl H) rm (.bl _) h⟩;obtain⟨oc,od,odt,osl⟩:=o;cases h2;cases h3;exact PySem.W.kia_tup (Ww (Z6 tab hn hc).1) I.kIn hx h1 (key rr rv2) (fun z=>nomatch z) fin
 ·exact h.elim
noncomputable def fAll:List D->Mem->DK->Prop
 | [.lst a],M,Q=>∃ bs:List Bool,M a=some (.ls (bs.map .bl))/\Q (.bl (bs.all id)) M
 | _,_,_=>False
noncomputable def fAny:List D->Mem->DK->Prop
 | [.lst a],M,Q=>∃ bs:List Bool,M a=some (.ls (bs.map .bl))/\Q (.bl (bs.any id)) M
 | _,_,_=>False
theorem UC {K:Frag} {H:Hp} {bs:List Bool}:∀ {vs:List V} {us:List Value},RelDs K H vs (bs.map .bl)->Vals vs us->LSm.BoolsAre us bs:=by
 induction bs with
 | nil=>intro vs us r q;(first|cases (show _=_ from r.inv)|cases r);cases q;exact .nil
 | cons b bs ih =>
  intro vs us r q;cases r with
  | cons rb r =>
   (first|cases (show _=_ from rb.inv)|cases rb)
   cases q with
   | cons e q =>
    cases e;exact .cons _ (ih r q)
theorem IM (hc:X.calm=true):CallR X (.builtin "all") (XG X.K fAll):=by
 rintro pins s σ H xs us Q I rv ⟨ds,M,R,r,rm,h,q⟩;unfold fAll at h;split at h
 ·rename_i a
  obtain⟨v,rfl,ra⟩:=r.one;(first|cases (show _=_ from ra.inv)|cases ra);obtain⟨u,rfl,ru⟩:=WX rv;cases (show u=Value.ref a from ru);obtain⟨bs,e0,h⟩:=h;obtain⟨vs,e1,r1⟩:=rm _ _ e0;obtain⟨its,r2,pl,_⟩:=I.list (.of e1);have hb:=UC r1 r2;have hl:=pl.isList;have hlt:a<s.heap.objs.size:=by obtain⟨_,e,_⟩:=hl;exact Heap.lt_size e
  refine call_all_walk (wpAny_pyIter_list hl ?_);refine⟨s.heap.objs.size,[s.heap.objs.size,a],[s.heap.objs.size],its.toArray.size,_,_,fun i=>(bs[i]?).getD true,rfl,Walks.list (A:=X.A.in1) (I.ok.hd hc) _ a (Nat.ne_of_lt hlt) its.toArray,
   ⟨⟨_,Heap.get?_push_size _ rfl,rfl,rfl⟩,hl.push _⟩,fun i v s' Q' E' hP hQ=>?_,fun h' tk hk=>?_⟩
  ·obtain⟨b,e,rfl⟩:=hb.get i v (by simpa using hP)
   simp only[e,Option.getD_some] at hQ;exact wpAny_truthy_bool hQ
  ·have e:((List.range its.toArray.size).all fun i=>(bs[i]?).getD true)=bs.all id:=by
    rw[List.size_toArray,hb.length];exact LSm.range_all bs
   rw[e];exact⟨.bl _,H,I.kept (LSm.kept_iter hk),rfl,q _ _ _ _ (.refl H) rm (.bl _) h⟩
 ·exact h.elim
theorem IL (hc:X.calm=true):CallR X (.builtin "any") (XG X.K fAny):=by
 rintro pins s σ H xs us Q I rv ⟨ds,M,R,r,rm,h,q⟩;unfold fAny at h;split at h
 ·rename_i a
  obtain⟨v,rfl,ra⟩:=r.one;(first|cases (show _=_ from ra.inv)|cases ra);obtain⟨u,rfl,ru⟩:=WX rv;cases (show u=Value.ref a from ru);obtain⟨bs,e0,h⟩:=h;obtain⟨vs,e1,r1⟩:=rm _ _ e0;obtain⟨its,r2,pl,_⟩:=I.list (.of e1);have hb:=UC r1 r2;have hl:=pl.isList;have hlt:a<s.heap.objs.size:=by obtain⟨_,e,_⟩:=hl;exact Heap.lt_size e
  refine call_any_walk (wpAny_pyIter_list hl ?_);refine⟨s.heap.objs.size,[s.heap.objs.size,a],[s.heap.objs.size],its.toArray.size,_,_,fun i=>(bs[i]?).getD false,rfl,Walks.list (A:=X.A.in1) (I.ok.hd hc) _ a (Nat.ne_of_lt hlt) its.toArray,
   ⟨⟨_,Heap.get?_push_size _ rfl,rfl,rfl⟩,hl.push _⟩,fun i v s' Q' E' hP hQ=>?_,fun h' tk hk=>?_⟩
  ·obtain⟨b,e,rfl⟩:=hb.get i v (by simpa using hP)
   simp only[e,Option.getD_some] at hQ;exact wpAny_truthy_bool hQ
  ·have e:((List.range its.toArray.size).any fun i=>(bs[i]?).getD false)=bs.any id:=by
    rw[List.size_toArray,hb.length];exact LSm.range_any bs
   rw[e];exact⟨.bl _,H,I.kept (LSm.kept_iter hk),rfl,q _ _ _ _ (.refl H) rm (.bl _) h⟩
 ·exact h.elim
end
noncomputable def truD (d:D) (M:Mem) (Q:Bool->Mem->Prop):Prop :=
 match d with
 | .non=>Q false M
 | .bl b=>Q b M
 | .int i=>Q (i != 0) M
 | .str y=>y.length<=sizeLine/\Q ((y.length:Int) != 0) M
 | .tup xs=>Q (!xs.isEmpty) M
 | .fz xs=>Q (!xs.isEmpty) M
 | .lst a=>∃ xs,M a=some (.ls xs)/\Q (!xs.isEmpty) M
 | _=>False
noncomputable def dTru (t:DE):DT:=fun δ M Q=>t δ M fun d M1=>truD d M1 Q
section
variable {X:Cx} {rz:Bool} {Xe:DSt->DK} {a b c e:Expr} {es rest:List Expr} {ta tb tc:DE} {t:DA} {tA tB:DT} {pos:Pos}
theorem RelDs.isEmpty {K:Frag} {H:Hp} {vs:List V} {ds:List D} (r:RelDs K H vs ds):vs.isEmpty=ds.isEmpty:=by cases r<;>rfl
theorem Ia (ha:PE X a (lift (X.L rz Xe) ta)) (he:∀ whole,isTrue a X.env whole=(do let v <- whole;standAt a.pos;holding [v] (truthy v))):PT X a (Zb (X.L rz Xe) (dTru ta)) :=
 (D0 ha he).imp fun σ H Q ⟨δ,M,R,rs,rm,t,q⟩=>⟨δ,M,_,rs,rm,t,fun d M' v H' x m r h=>by
  cases r with
  | non=>exact⟨_,rfl,q _ _ _ x m h⟩
  | bl b=>exact⟨_,rfl,q _ _ _ x m h⟩
  | int i=>exact⟨_,rfl,q _ _ _ x m h⟩
  | str y=>exact⟨_,⟨h.1,rfl⟩,q _ _ _ x m h.2⟩
  | tup ht r=>exact⟨_,.inr (.inl ⟨_,ht,rfl⟩),q _ _ _ x m (by rw[r.isEmpty];exact h)⟩
  | fz ht r=>exact⟨_,.inl ⟨_,ht.sq,rfl⟩,q _ _ _ x m (by rw[r.isEmpty];exact h)⟩
  | lst a =>
   obtain⟨xs,e0,h⟩:=h;obtain⟨vs,e1,r⟩:=m _ _ e0;exact⟨_,.inl ⟨_,.of e1,rfl⟩,q _ _ _ x m (by rw[r.isEmpty];exact h)⟩
  | _=>exact (show False from h).elim⟩
theorem Ic (hu:X.A.units+66<cLine) (ha:PE X a (lift (X.L rz Xe) ta)) (hb:PE X b (lift (X.L rz Xe) tb)) (hm:behindInMarks op b=false):PT X (.Compare a [op] [b] pos) (Zb (X.L rz Xe) (Bk (d2 (cOp op) ta tb))) :=
 (Fg (op_c hu op) ha hb hm).imp fun σ H Q ⟨δ,M,R,rs,rm,t,q⟩=>Bq ⟨δ,M,_,rs,rm,t,fun d M' v H' x m r ⟨k,e,h⟩=>by
  subst e;(first|cases (show _=_ from r.inv)|cases r);exact⟨k,rfl,q _ _ _ x m h⟩⟩
theorem IA (hu:X.A.units+66<cLine) (ha:PE X a (lift (X.L rz Xe) ta)) (hb:PE X b (lift (X.L rz Xe) tb)) (hm:behindInMarks op b=false):PE X (.Compare a [op] [b] pos) (lift (X.L rz Xe) (d2 (cOp op) ta tb)) :=
 (Fn (op_c hu op) ha hb hm).imp fun _ _ _=>Bq
noncomputable def U0 (f g:D->D->Mem->DK->Prop) (ta tb tc:DE):DE:=fun δ M Q=>ta δ M fun x M1=>tb δ M1 fun y M2=>f x y M2 fun z M3=>∃ k,z=.bl k/\if k=true then tc δ M3 fun w M4=>g y w M4 Q else Q (.bl false) M3
theorem Uy (h:lift Λ (U0 f g ta tb tc) σ H Q):Ab (Zx Λ.K f) (Zx Λ.K g) (lift Λ ta) (lift Λ tb) (lift Λ tc) σ H Q:=by
 obtain⟨δ,M,R,rs,rm,t,q⟩:=h;refine seq2 (R:=fun x y M2=>f x y M2 _) rs rm t fun x y M2 v u H2 x2 m2 r1 r2 t2=>⟨x,y,M2,_,r1,r2,m2,t2,fun d M3 w H3 x3 m3 r3 hq7=>?_⟩;obtain⟨k,e,h⟩:=hq7;subst e;cases r3;refine⟨k,rfl,?_⟩;cases k with
 | true=>exact⟨δ,M3,_,rs.ext (x2.trans x3),m3,h,fun z M4 w4 H4 x4 m4 r4 h4=>⟨y,z,M4,R,(r2.ext x3).ext x4,r4,m4,h4,fun d' M' v' H' x5 m5 r5=>q d' M' v' H' (((x2.trans x3).trans x4).trans x5) m5 r5⟩⟩
 | false=>exact q _ _ _ _ (x2.trans x3) m3 (.bl false) h
theorem Ew (hu:X.A.units+66<cLine) (ha:PE X a (lift (X.L rz Xe) ta)) (hb:PE X b (lift (X.L rz Xe) tb)) (hc:PE X c (lift (X.L rz Xe) tc)) (hm:lastMarks [op,op'] [b,c]=false) :
  PE X (.Compare a [op,op'] [b,c] pos) (lift (X.L rz Xe) (U0 (cOp op) (cOp op') ta tb tc)):=(Dd (op_c hu op) (op_c hu op') ha hb hc hm).imp fun _ _ _=>Uy
theorem En (hu:X.A.units+66<cLine) (ha:PE X a (lift (X.L rz Xe) ta)) (hb:PE X b (lift (X.L rz Xe) tb)) (hc:PE X c (lift (X.L rz Xe) tc)) (hm:lastMarks [op,op'] [b,c]=false) :
  PT X (.Compare a [op,op'] [b,c] pos) (Zb (X.L rz Xe) (Bk (U0 (cOp op) (cOp op') ta tb tc))):=by
 refine (D1 (op_c hu op) (op_c hu op') ha hb hc hm).imp ?_;rintro σ H Q ⟨δ,M,R,rs,rm,t,q⟩;exact Uy ⟨δ,M,_,rs,rm,t,fun d M' v H' x m r ⟨k,e,h⟩=>by
  subst e;(first|cases (show _=_ from r.inv)|cases r);exact⟨k,rfl,q _ _ _ x m h⟩⟩
theorem PW.imp {t t':TT} (h:PW X a t) (i:∀ σ H Q,t' σ H Q->t σ H Q):PW X a t':=fun whole pins s σ H Q I q=>h whole pins s σ H Q I (i _ _ _ q)
theorem I0 (ha:PT X a (Zb (X.L rz Xe) tA)) (hb:PW X (.BoolOp .And (b::rest) pos) (Zb (X.L rz Xe) tB)):PW X (.BoolOp .And (a::b::rest) pos) (Zb (X.L rz Xe) (dAnd tA tB)) :=
 PW.imp (Hh ha hb) fun σ H Q ⟨δ,M,R,rs,rm,t,q⟩=>⟨δ,M,_,rs,rm,t,fun k M' H' x m h=>by
  cases k with
  | true=>exact⟨δ,M',R,rs.ext x,m,h,fun b M2 H2 x2 m2=>q b M2 H2 (x.trans x2) m2⟩
  | false=>exact q _ _ _ x m h⟩
theorem Kt (ha:PT X a (Zb (X.L rz Xe) tA)) (hb:PW X (.BoolOp .Or (b::rest) pos) (Zb (X.L rz Xe) tB)):PW X (.BoolOp .Or (a::b::rest) pos) (Zb (X.L rz Xe) (dOr tA tB)) :=
 PW.imp (K5 ha hb) fun σ H Q ⟨δ,M,R,rs,rm,t,q⟩=>⟨δ,M,_,rs,rm,t,fun k M' H' x m h=>by
  cases k with
  | false=>exact⟨δ,M',R,rs.ext x,m,h,fun b M2 H2 x2 m2=>q b M2 H2 (x.trans x2) m2⟩
  | true=>exact q _ _ _ x m h⟩
theorem Ib (ha:PT X a (Zb (X.L rz Xe) tA)):PT X (.UnaryOp .Not a pos) (Zb (X.L rz Xe) (dNot tA)) :=
 (Hi ha).imp (by rintro σ H Q ⟨δ,M,R,rs,rm,t,q⟩;exact⟨δ,M,_,rs,rm,t,fun k M' H' x m h=>q _ _ _ x m h⟩)
theorem IE (ha:PE X a (lift (X.L rz Xe) ta)) (hb:PE X (.BoolOp .And (b::rest) pos) (lift (X.L rz Xe) tb)):PE X (.BoolOp .And (a::b::rest) pos) (lift (X.L rz Xe) (Bp ta tb)) :=
 (Hz ha hb).imp fun σ H Q ⟨δ,M,R,rs,rm,t,q⟩=>⟨δ,M,_,rs,rm,t,fun d M' v H' x m r ⟨k,e,h⟩=>by
  subst e;(first|cases (show _=_ from r.inv)|cases r);refine⟨k,rfl,?_⟩;cases k with
  | true=>exact⟨δ,M',R,rs.ext x,m,h,fun d' M2 v' H2 x2 m2=>q d' M2 v' H2 (x.trans x2) m2⟩
  | false=>exact q _ _ _ _ x m (.bl false) h⟩
theorem Kx (ha:PE X a (lift (X.L rz Xe) ta)) (hb:PE X (.BoolOp .Or (b::rest) pos) (lift (X.L rz Xe) tb)):PE X (.BoolOp .Or (a::b::rest) pos) (lift (X.L rz Xe) (dOrV ta tb)) :=
 (K9 ha hb).imp fun σ H Q ⟨δ,M,R,rs,rm,t,q⟩=>⟨δ,M,_,rs,rm,t,fun d M' v H' x m r ⟨k,e,h⟩=>by
  subst e;(first|cases (show _=_ from r.inv)|cases r);refine⟨k,rfl,?_⟩;cases k with
  | false=>exact⟨δ,M',R,rs.ext x,m,h,fun d' M2 v' H2 x2 m2=>q d' M2 v' H2 (x.trans x2) m2⟩
  | true=>exact q _ _ _ _ x m (.bl true) h⟩
noncomputable def EA (ta:DE):DE:=fun δ M Q=>ta δ M fun x M1=>∃ k,x=.bl k/\Q (.bl (!k)) M1
theorem Iu (ha:PE X a (lift (X.L rz Xe) ta)):PE X (.UnaryOp .Not a pos) (lift (X.L rz Xe) (EA ta)) :=
 (Hv ha).imp fun σ H Q ⟨δ,M,R,rs,rm,t,q⟩=>⟨δ,M,_,rs,rm,t,fun d M' v H' x m r ⟨k,e,h⟩=>by
  subst e;(first|cases (show _=_ from r.inv)|cases r);exact⟨k,rfl,q _ _ _ _ x m (.bl _) h⟩⟩
noncomputable def dNeg (ta:DE):DE:=fun δ M Q=>ta δ M fun x M1=>∃ i,x=.int i/\Q (.int (-i)) M1
theorem Iv (ha:PE X a (lift (X.L rz Xe) ta)):PE X (.UnaryOp .USub a pos) (lift (X.L rz Xe) (dNeg ta)) :=
 (K8 GX ha).imp fun σ H Q ⟨δ,M,R,rs,rm,t,q⟩=>⟨δ,M,_,rs,rm,t,fun d M' v H' x m r ⟨k,e,h⟩=>by
  subst e;(first|cases (show _=_ from r.inv)|cases r);exact⟨k,rfl,q _ _ _ _ x m (.int _) h⟩⟩
theorem Ix (hc:PT X c (Zb (X.L rz Xe) tA)) (ha:PE X a (lift (X.L rz Xe) ta)) (hb:PE X b (lift (X.L rz Xe) tb)):PE X (.IfExp c a b pos) (lift (X.L rz Xe) (dIfE tA ta tb)) :=
 (Dc hc ha hb).imp fun σ H Q ⟨δ,M,R,rs,rm,t,q⟩=>⟨δ,M,_,rs,rm,t,fun k M' H' x m h=>by
  cases k with
  | true=>exact⟨δ,M',R,rs.ext x,m,h,fun d' M2 v' H2 x2 m2=>q d' M2 v' H2 (x.trans x2) m2⟩
  | false=>exact⟨δ,M',R,rs.ext x,m,h,fun d' M2 v' H2 x2 m2=>q d' M2 v' H2 (x.trans x2) m2⟩⟩
theorem VZ:PA X [] (ZX (X.L rz Xe) dNil):=by
 refine (HA).imp ?_;rintro σ H Q ⟨δ,M,R,rs,rm,t,q⟩;exact q [] M [] H (.refl H) rm .nil t
theorem W7 (ha:PE X e (lift (X.L rz Xe) ta)) (hr:PA X es (ZX (X.L rz Xe) t)) (hs:starEach (e::es) X.env=(false,eval e X.env)::starEach es X.env):PA X (e::es) (ZX (X.L rz Xe) (Z5 ta t)) :=
 (Fp ha hr hs).imp (by rintro σ H Q ⟨δ,M,R,rs,rm,t,q⟩;exact⟨δ,M,_,rs,rm,t,fun d M' v H' x m r h=>⟨δ,M',_,rs.ext x,m,h,fun ds M2 vs H2 x2 m2 r2 h2=>q _ _ _ _ (x.trans x2) m2 (.cons (r.ext x2) r2) h2⟩⟩)
theorem Ir {x1} (h:PA X es (ZX (X.L rz Xe) t)):PE X (.Tuple es x1 pos) (lift (X.L rz Xe) (dTup t)) :=
 (Hs h).imp (by rintro σ H Q ⟨δ,M,R,rs,rm,t,q⟩;exact⟨δ,M,_,rs,rm,t,(by rintro ds M' vs H' x m r ⟨hz,h⟩;exact⟨by rw[r.length];exact hz,fun p hp=>q _ _ _ _ (x.trans (.upd (.inl hp))) (m.tup hp) (.tup (.of upd_same) (r.ext (.upd (.inl hp)))) h⟩)⟩)
theorem Iw (h:PA X es (ZX (X.L rz Xe) t)):PE X (.List es pos) (lift (X.L rz Xe) (dLst t)) :=
 (Hx h).imp (by rintro σ H Q ⟨δ,M,R,rs,rm,t,q⟩;exact⟨δ,M,_,rs,rm,t,(by rintro ds M' vs H' x m r ⟨hz,h⟩;exact⟨by rw[r.length];exact hz,fun p hp=>q _ _ _ _ (x.trans (.upd (.inl hp))) (m.lst hp r) (.lst p) (h.at (m.none hp))⟩)⟩)
theorem Ky (ha:PE X a (lift (X.L rz Xe) ta)) (hb:PE X b (lift (X.L rz Xe) tb)) (hs:Jk b):PE X (.Subscript a b pos) (lift (X.L rz Xe) (d2 iOp ta tb)):=(Kb ix_i ha hb hs).imp fun _ _ _=>Bq
abbrev DO:=DSt->Mem->(Option Int->Mem->Prop)->Prop
noncomputable def JJ (Λ:LK) (t:DO):TO:=fun σ H Q=>∃ δ M R,RepS Λ H δ σ/\RepM Λ.K H M/\t δ M R/\∀ o M' H',HExt Λ.K H H'->RepM Λ.K H' M'->R o M'->Q o H'
noncomputable def Bm:DO:=fun _ M Q=>Q none M
noncomputable def JX (t:DE):DO:=fun δ M Q=>t δ M fun x M1=>∃ i,x=.int i/\Q (some i) M1
theorem PO.imp {e:Option Expr} {t t':TO} (h:PO X e t) (i:∀ σ H Q,t' σ H Q->t σ H Q):PO X e t':=fun pins s σ H Q I q=>h pins s σ H Q I (i _ _ _ q)
theorem FT:PO X none (JJ (X.L rz Xe) Bm):=PO.imp Fj (by rintro σ H Q ⟨δ,M,R,rs,rm,t,q⟩;exact q _ _ _ (.refl H) rm t)
theorem FS (h:PE X e (lift (X.L rz Xe) ta)):PO X (some e) (JJ (X.L rz Xe) (JX ta)):=PO.imp (Fi h) fun σ H Q ⟨δ,M,R,rs,rm,t,q⟩=>⟨δ,M,_,rs,rm,t,fun d M' v H' x m r ⟨i,e,h⟩=>by
  subst e;(first|cases (show _=_ from r.inv)|cases r);exact⟨i,rfl,q _ _ _ x m h⟩⟩
noncomputable def dSl (te:DE) (tl th:DO):DE:=fun δ M Q=>te δ M fun x M1=>tl δ M1 fun l M2=>th δ M2 fun u M3=>sOp x l u M3 Q
theorem Kw {lo hi:Option Expr} {tl th:DO} {p2:Pos} (he:PE X e (lift (X.L rz Xe) ta)) (hl:PO X lo (JJ (X.L rz Xe) tl)) (hu:PO X hi (JJ (X.L rz Xe) th)):PE X (.Subscript e (.Slice lo hi none p2) pos) (lift (X.L rz Xe) (dSl ta tl th)) :=
 (Db sl_s he hl hu).imp fun σ H Q ⟨δ,M,R,rs,rm,t,q⟩=>⟨δ,M,_,rs,rm,t,fun d M1 v H1 x1 m1 r1 h1=>⟨δ,M1,_,rs.ext x1,m1,h1,fun l M2 H2 x2 m2 h2=>⟨δ,M2,_,rs.ext (x1.trans x2),m2,h2,fun u M3 H3 x3 m3 h3 =>
  ⟨d,M3,R,(r1.ext x2).ext x3,m3,h3,fun d' M' v' H' x4 m4 r4=>q d' M' v' H' (((x1.trans x2).trans x3).trans x4) m4 r4⟩⟩⟩⟩
theorem Xa (h:lift Λ (dCB f t) σ H Q):tCB (XG Λ.K f) (ZX Λ t) σ H Q:=by
 obtain⟨δ,M,R,rs,rm,t,q⟩:=h;exact⟨δ,M,_,rs,rm,t,fun ds M' vs H' x m r h=>⟨ds,M',R,r,m,h,fun d' M2 v' H2 x2 m2 r2=>q d' M2 v' H2 (x.trans x2) m2 r2⟩⟩
end
end DL
end
noncomputable section
namespace DL
open PySem PySem.Spec PyProof.Rows L2
section
variable {K:Frag} {H:Hp} {M:Mem}
end
noncomputable def keyD:D->Option Key
 | .int i=>some (.inl i)
 | .str x=>some (.inr x)
 | _=>none
noncomputable def Md:DE:=fun _ M Q=>alloc M (.dk []) fun p M'=>Q (.dct p) M'
noncomputable def Mc (tk tv:DE):DE:=fun δ M Q=>∀ p,M p=none->tk δ (M.upd p (.dk [])) fun x M1=>tv δ M1 fun y M2=>M2 p=some (.dk [])/\∃ k,keyD x=some k/\Q (.dct p) (M2.upd p (.dk [(k,y)]))
section
variable {X:Cx} {rz:Bool} {Xe:DSt->DK} {a b:Expr} {ta tb:DE} {pos:Pos}
end
end DL
end
noncomputable section
namespace DL
open PySem PySem.Spec PyProof.Rows L2
section
variable {X:Cx} {a b c d:Expr} {pos:Pos} {ta tb tc td:TE}
end
section
variable {X:Cx} {rz:Bool} {Xe:DSt->DK} {a b c d:Expr} {pos:Pos} {ta tb tc td:DE}
end
section
variable {X:Cx} {pins:List (Addr×Obj)} {s:Shared} {σ:L2.St} {H:Hp} {M:Mem}
end
section
variable {X:Cx} {rz:Bool} {Xe:DSt->DK} {a b:Expr} {ta tb:DE} {pos:Pos}
end
end DL
end
noncomputable section
namespace HT
open PySem PySem.Spec PyProof.Rows
section
variable {prog:Program} {w:World} {A:Around} {E:Value->Shared->Prop} {s:Shared}
end
end HT
namespace DL
open PySem PySem.Spec PyProof.Rows L2
section
variable {X:Cx} {rz:Bool} {Xe:DSt->DK} {e st:Expr} {ta ts:DE} {pos p2:Pos}
theorem UL (r:Vals xs us):Vals xs.reverse us.reverse:=by
 induction r with
 | nil=>exact .nil
 | cons h _ ih =>
  rw[List.reverse_cons,List.reverse_cons];exact ih.append (.cons h .nil)
noncomputable def Yj (d:D) (l:Option Int) (M:Mem) (Q:DK):Prop:=l=some (-1)/\match d with | .tup xs=>Q (.tup xs.reverse) M | .lst a=>∃ xs,M a=some (.ls xs)/\alloc M (.ls xs.reverse) fun p M'=>Q (.lst p) M' | _=>False
noncomputable def dRev (te:DE) (tl:DO):DE:=fun δ M Q=>te δ M fun x M1=>tl δ M1 fun l M2=>Yj x l M2 Q
theorem UU {K:Frag} {H:Hp} {vs:List V} {ds:List D} (r:RelDs K H vs ds):RelDs K H vs.reverse ds.reverse:=by
 have app:∀ {vs ws:List V} {ds es:List D},RelDs K H vs ds->RelDs K H ws es->RelDs K H (vs++ws) (ds++es):=by
  intro vs
  induction vs with
  | nil=>intro ws ds es a b;cases a;exact b
  | cons v vs ih=>intro ws ds es a b;cases a with|cons h t=>exact .cons h (ih t b)
 revert ds
 induction vs with
 | nil=>intro ds r;(first|cases (show _=_ from r.inv)|cases r);exact .nil
 | cons v vs ih =>
  intro ds r;cases r with
  | cons h t =>
   rw[List.reverse_cons,List.reverse_cons];exact app (ih t) (.cons h .nil)
end
end DL
end
noncomputable section
namespace PySem
open PyProof.Rows
namespace F
theorem tuple_no_reversed:typeLookup (.type "tuple") "__reversed__"=pure none:=by rw[typeLookup_type,builtinLookup_eq_fast];kernel_rfl
theorem WM:Manifest.owners.lookup (String.ofList ['d','e','s','r','e','v','e','r'].reverse)=some Manifest.sig_reversed:=by kernel_rfl
theorem slot_rvt_next:Slot "reversed" "__next__" "reversed.__next__" :=
 .of (owner:="reversed") (n:="__next__") (by rw[typeLookup_type,builtinLookup_eq_fast];kernel_rfl) (by decide +kernel) (by decide +kernel) (by decide +kernel)
  (by first|exact .inl (by decide +kernel)|exact .inr (by decide +kernel)) (by rw[isSubtype_type];kernel_rfl)
theorem entry_rvt_next:entryFor table "reversed.__next__"=some Builtin.«reversed.__next__»:=entryFor_of_tree (by kernel_rfl)
theorem args_rvt_next_1 (a:Value):argsOk "reversed.__next__" ⟨[a],[]⟩:=by
 unfold argsOk;rw[signature?_of (id:="reversed.__next__") (n:=['_','_','t','x','e','n','_','_']) (o:=['d','e','s','r','e','v','e','r']) (by kernel_rfl) WM];kernel_rfl
theorem slot_rvt_iter:Slot "reversed" "__iter__" "reversed.__iter__" :=
 .of (owner:="reversed") (n:="__iter__") (by rw[typeLookup_type,builtinLookup_eq_fast];kernel_rfl) (by decide +kernel) (by decide +kernel) (by decide +kernel)
  (by first|exact .inl (by decide +kernel)|exact .inr (by decide +kernel)) (by rw[isSubtype_type];kernel_rfl)
theorem args_rvt_iter_1 (a:Value):argsOk "reversed.__iter__" ⟨[a],[]⟩:=by
 unfold argsOk;rw[signature?_of (id:="reversed.__iter__") (n:=['_','_','r','e','t','i','_','_']) (o:=['d','e','s','r','e','v','e','r']) (by kernel_rfl) WM];kernel_rfl
theorem entry_rvt_iter:entryFor table "reversed.__iter__"=some Builtin.«dict_keyiterator.__iter__» :=
 entryFor_alias (id':="dict_keyiterator.__iter__") (by kernel_rfl) (by first|rfl|decide +kernel|(unfold String.splitOn;simp +decide [String.splitOnAux])) (by decide +kernel) (by kernel_rfl)
theorem U8:Slot "reversed" "__init__" "object.__init__" :=
 .of (owner:="object") (n:="__init__") (by rw[typeLookup_type,builtinLookup_eq_fast];kernel_rfl) (by decide +kernel) (by decide +kernel) (by decide +kernel)
  (by first|exact .inl (by decide +kernel)|exact .inr (by decide +kernel)) (by rw[isSubtype_type];kernel_rfl)
theorem called_reversed:TypeCalled "reversed" "reversed.__new__" "object.__init__" :=
 ⟨by decide +kernel,by decide +kernel,⟨_,_,mro_reversed⟩,made_reversed,by decide +kernel,by rw[isSubtype_type];kernel_rfl,U8⟩
theorem rvt_no_len:typeLookup (.type "reversed") "__len__"=pure none:=by rw[typeLookup_type,builtinLookup_eq_fast];kernel_rfl
theorem slot_rvt_hint:Slot "reversed" "__length_hint__" "reversed.__length_hint__" :=
 .of (owner:="reversed") (n:="__length_hint__") (by rw[typeLookup_type,builtinLookup_eq_fast];kernel_rfl) (by decide +kernel) (by decide +kernel) (by decide +kernel)
  (by first|exact .inl (by decide +kernel)|exact .inr (by decide +kernel)) (by rw[isSubtype_type];kernel_rfl)
theorem entry_rvt_hint:entryFor table "reversed.__length_hint__"=some Builtin.«reversed.__length_hint__»:=entryFor_of_tree (by kernel_rfl)
theorem args_rvt_hint_1 (a:Value):argsOk "reversed.__length_hint__" ⟨[a],[]⟩:=by
 unfold argsOk;rw[signature?_of (id:="reversed.__length_hint__") (n:=['_','_','t','n','i','h','_','h','t','g','n','e','l','_','_']) (o:=['d','e','s','r','e','v','e','r']) (by kernel_rfl) WM];kernel_rfl
end F
section
variable {prog:Program} {w:World} {A:Around} {E:Value->Shared->Prop} {s:Shared}
noncomputable def revT (l:Addr) (i:Int):Obj:={cls:=.type "reversed",data:=.fields #[.ref l,rawInt i]}
noncomputable def IsRevT (h:Heap) (a l:Addr) (i:Int):Prop:=∃ o,h.get? a=some o/\o.cls=.type "reversed"/\o.data=.fields #[.ref l,rawInt i]
theorem IsRevT.typeIs (x:IsRevT s.heap a l i):s.TypeIs (.ref a) "reversed":=let ⟨o,ho,hc,_⟩:=x;⟨o,ho,hc⟩
theorem IsRevT.at (x:IsRevT h a l i) (e:∀ o,h.get? a=some o->h'.get? a=some o):IsRevT h' a l i:=let ⟨o,ho,r⟩:=x;⟨o,e _ ho,r⟩
theorem EM (hl:IsTup s.heap l items) (hz:(items.size:Int)<2 ^ 63)
  (h:∀ tk,s.toks<=tk->Q₁ (.ref s.heap.objs.size) {s with heap:=s.heap.push (revT l ((items.size:Int)-1)),toks:=tk}) :
  codeAny (model prog w) A (.call (.builtin "reversed.__new__") ⟨[.type "reversed",.ref l],[]⟩) (wants Q₁ E) s:=by
 refine codeAny_of_tree ?_;show wpAny _ A.in1 (do checkBuiltinCall "reversed.__new__" ⟨[.type "reversed",.ref l],[]⟩;again (.builtin "reversed.__new__" ⟨[.type "reversed",.ref l],[]⟩)) _ _ s;refine wpAny_bind (wpAny_of_eq (F.newCall_reversed_1 _) (wpAny_pure ⟨plainId_quiet F.plain_reversed_new _,codeAny_builtin F.entry_reversed_new ?_⟩));rw[Around.under_plainId F.plain_reversed_new _];unfold Builtin.«reversed.__new__»;refine wpAny_bind (wpAny_of_eq (newClass_reversed _) ?_)
 try dsimp only
 refine wpAny_bind (wpAny_of_eq (a:=()) (by first|rfl|kernel_rfl) ?_);refine wpAny_bind (wpAny_of_eq (a:=()) (by first|rfl|kernel_rfl) ?_)
 try dsimp only
 refine wpAny_bind (wpAny_specialOf hl.typeIs F.tuple_no_reversed ?_)
 try dsimp only
 refine wpAny_bind ?_;show wpAny _ _ (isInstance (Value.ref l) (.type "dict") >>= fun _=>_) _ _ _;refine wpAny_bind (wpAny_isInstance hl.typeIs F.sub_tuple_dict ?_);show wpAny _ _ (specialOf (Value.ref l) "__getitem__" >>= fun _=>_) _ _ _;refine wpAny_bind (wpAny_specialOf hl.typeIs F.slot_tuple_getitem.lookup ?_);refine wpAny_of_eq (a:=true) (by rfl) ?_;show wpAny _ _ (call (Value.builtin "len") [Value.ref l] >>= fun _=>_) _ _ _;refine wpAny_bind (PyProof.Rows.len_tuple hl %[|5] ?_);refine wpAny_bind (wpAny_of_eq (a:=some ((items.size:Nat):Int)) (by rfl) ?_);show wpAny _ _ (newObj (.type "reversed") (.fields #[.ref l,rawInt ((items.size:Int)-1)]) >>= fun r=>ret r) _ _ _;refine wpAny_bind (wpAny_newObj_type ?_ (by size_fits));exact wpAny_pure (h _ (by show s.toks<=s.toks+1+1;omega))
theorem Xh {it l:Addr} {i:Nat} {items:Array Value} {x:Value} {Q:Option Value->Shared->Prop} (hit:IsRevT s.heap it l (i:Int)) (hl:IsTup s.heap l items) (hx:items[i]?=some x) (hz:(items.size:Int)<2 ^ 63)
  (hQ:∀ h' tk,s.toks<=tk->IsRevT h' it l ((i:Int)-1)->Heap.SameBut it s.heap h'->Q (some x) {s with heap:=h',toks:=tk}):wpAny (model prog w) A (pyNext (.ref it)) Q E s:=by
 obtain⟨o,ho,hc,hd⟩:=id hit;obtain⟨ol,hol,_,nl,hdl⟩:=id hl;unfold pyNext;refine wpAny_bind (wpAny_attempt (wpAny_callSpecial?_slot (name:=Str.ofString "__next__") hit.typeIs F.slot_rvt_next
  (wpAny_call_entry F.slot_rvt_next hit.typeIs F.entry_rvt_next ?_ (F.args_rvt_next_1 _))))
 unfold Builtin.«reversed.__next__»;refine wpAny_bind (wpAny_of_eq (a:=(Value.ref it,[])) rfl ?_)
 try dsimp only
 refine wpAny_bind (wpAny_field ho hd (x:=.ref l) rfl ?_);refine wpAny_bind (wpAny_field ho hd (x:=rawInt (i:Int)) rfl ?_);show wpAny _ _ (if (i:Int)<0 then _ else _) _ _ s;rw[if_neg %[|5]];refine wpAny_bind (wpAny_specialOf hl.typeIs F.slot_tuple_getitem.lookup ?_);show wpAny _ _ (mkInt (i:Int) >>= fun _=>_) _ _ _;refine wpAny_bind (wpAny_mkInt ?_);have hi:i<items.size:=by
  rcases Nat.lt_or_ge i items.size with h|h
  ·exact h
  ·rw[Array.getElem?_eq_none h] at hx;cases hx
 refine wpAny_bind (wpAny_attempt (PyProof.Rows.getItem_tuple (j:=i) hl %[|5] %[|5] ?_ hx ?_))
 ·unfold seqIndex?
  rw[if_neg (show ¬ (i:Int)<0 by omega)];simp[hi]
 dsimp only;refine wpAny_bind (wpAny_field ho hd (x:=rawInt (i:Int)) rfl ?_);refine wpAny_bind (wpAny_setField ho hd (by simp) ?_);refine wpAny_pure ⟨x,rfl,wpAny_pure (hQ _ _ ?_ ?_ (Heap.SameBut.update ..))⟩
 ·show s.toks<=s.toks+1;omega
 ·exact⟨_,Heap.get?_update_self _ ho (Obj.isFreed_of_fields (Obj.data_mapFields hd _)),(Obj.cls_mapFields ..).trans hc,by
   rw[Obj.data_mapFields hd];simp⟩
theorem Xv (hh:A.handled=none) (hit:IsRevT s.heap it l (-1))
  (hQ:∀ h',Heap.ExtBut it s.heap h'->Q none {s with heap:=h'}):wpAny (model prog w) A (pyNext (.ref it)) Q E s:=by
 obtain⟨o,ho,hc,hd⟩:=id hit;unfold pyNext;refine wpAny_bind (wpAny_attempt (wpAny_callSpecial?_slot (name:=Str.ofString "__next__") hit.typeIs F.slot_rvt_next
  (wpAny_call_entry F.slot_rvt_next hit.typeIs F.entry_rvt_next ?_ (F.args_rvt_next_1 _))))
 unfold Builtin.«reversed.__next__»;refine wpAny_bind (wpAny_of_eq (a:=(Value.ref it,[])) rfl ?_)
 try dsimp only
 refine wpAny_bind (wpAny_field ho hd (x:=.ref l) rfl ?_);refine wpAny_bind (wpAny_field ho hd (x:=rawInt (-1)) rfl ?_);show wpAny _ _ (if (-1:Int)<0 then _ else _) _ _ s;rw[if_pos %[|4]];refine wpAny_bind (wpAny_rule ?_);show wpAny _ _ ((setField (Value.ref it) 1 (rawInt (-1)) >>= fun _=>setField (Value.ref it) 0 .none) >>= fun _=>_) _ _ _;refine wpAny_bind (wpAny_bind (wpAny_setField ho hd (by simp) ?_));have ho2:=Heap.get?_update_self (Obj.mapFields fun x=>x.setIfInBounds 1 (rawInt (-1))) ho (Obj.isFreed_of_fields (Obj.data_mapFields hd _));have hd2:=Obj.data_mapFields hd (fun x=>x.setIfInBounds 1 (rawInt (-1)));refine wpAny_setField ho2 hd2 (by simp) ?_;have sb:Heap.ExtBut it s.heap ((s.heap.update it (Obj.mapFields fun x=>x.setIfInBounds 1 (rawInt (-1)))).update it (Obj.mapFields fun x=>x.setIfInBounds 0 Value.none)):=fun b o hb e=>(Heap.get?_update_other _ _ (Ne.symm hb)).trans ((Heap.get?_update_other _ _ (Ne.symm hb)).trans e)
 refine wpAny_bind ?_;show wpAny _ _ (newExc (.type "StopIteration") [] >>= fun e=>raiseNew e) _ _ _;refine wpAny_bind ?_;simp only[newExc,newTuple];refine wpAny_bind (wpAny_newObj_type ?_ (by size_fits));refine wpAny_bind (m:=firstArgMember _ _) (wpAny_of_eq (a:=Value.none) (by first|rfl|(simp only[firstArgMember];rfl)) ?_);refine wpAny_newObj_type ?_ (by size_fits);simp only[raiseNew];refine wpAny_bind (wpAny_handled ?_)
 first|rw [show A.in1.handled=none from hh]|rw [hh]
 refine wpAny_bind (wpAny_pure (wpAny_throw ?_));refine wpAny_bind (wpAny_isInstance (T:="StopIteration") (b:=true) ⟨_,Heap.get?_push_size _ rfl,rfl⟩ isSubtype_stop ?_);exact wpAny_pure (hQ _ ((sb.push _).push _))
theorem ZQ (hit:IsRevT s.heap it l i) (h:Q (.ref it) s):wpAny (model prog w) A (pyIter (.ref it)) Q E s:=by
 refine wpAny_pyIter_slot hit.typeIs F.slot_rvt_iter (wpAny_call_entry F.slot_rvt_iter hit.typeIs F.entry_rvt_iter ?_ (F.args_rvt_iter_1 _));show wpAny _ _ (ret (.ref it)) _ _ s;exact wpAny_pure ⟨_,rfl,"reversed",_,hit.typeIs,F.slot_rvt_next.lookup,h⟩
theorem Vb {it l:Addr} {i:Nat} {items:Array Value} {Q:Bool->Shared->Prop} (hit:IsRevT s.heap it l ((i:Int)-1)) (hl:IsTup s.heap l items) (hi:i<=items.size) (hz:items.size<=1000000)
  (hQ:∀ b tk,s.toks<=tk->Q b {s with toks:=tk}):wpAny (model prog w) A (Builtin.List.listLengthHint (.ref it)) Q E s:=by
 unfold Builtin.List.listLengthHint;refine wpAny_bind (wpAny_specialOf hit.typeIs F.rvt_no_len ?_);show wpAny _ _ (specialOf (Value.ref it) (Str.ofString "__length_hint__") >>= _) _ _ _;refine wpAny_bind (wpAny_specialOf hit.typeIs F.slot_rvt_hint.lookup ?_);show wpAny _ _ (isInstance (Value.ref it) (.type "reversed") >>= fun _=>_) _ _ _;refine wpAny_bind (wpAny_isInstance hit.typeIs F.sub_reversed_self ?_);show wpAny _ _ (rule "list.length-hint.hint" >>= fun _=>_) _ _ _;refine wpAny_bind (wpAny_rule ?_);refine wpAny_bind (wpAny_of_eq (F.slot_rvt_hint.bind _) ?_)
 try dsimp only
 refine wpAny_bind (wpAny_attempt (wpAny_call_entry F.slot_rvt_hint hit.typeIs F.entry_rvt_hint ?_ (F.args_rvt_hint_1 _)));unfold Builtin.«reversed.__length_hint__»;refine wpAny_bind (wpAny_of_eq (a:=Value.ref it) rfl ?_);obtain⟨o,ho,hc,hd⟩:=id hit;refine wpAny_bind (wpAny_field ho hd (x:=.ref l) rfl ?_);show wpAny _ _ (call (Value.builtin "len") [Value.ref l] >>= fun _=>_) _ _ _;refine wpAny_bind (PyProof.Rows.len_tuple hl %[|5] ?_);refine wpAny_bind (wpAny_of_eq (a:=some ((items.size:Nat):Int)) (by rfl) ?_);refine wpAny_bind (wpAny_field ho hd (x:=rawInt ((i:Int)-1)) rfl ?_);show wpAny _ _ (if ((items.size:Nat):Int)<(i:Int)-1+1 then _ else _) _ _ _;rw[if_neg %[|5]];unfold retInt;refine wpAny_bind (wpAny_mkInt ?_);refine wpAny_pure ⟨_,rfl,?_⟩;dsimp only;refine wpAny_bind (wpAny_of_eq (a:=some ((i:Int)-1+1)) (by rfl) ?_);dsimp only;rw[show (i:Int)-1+1=(i:Int) by omega];have f1:Builtin.List.listFitsIndex (i:Int)=true:=by unfold Builtin.List.listFitsIndex;simp;omega
 have f2:Builtin.List.listTooLong (i:Int).toNat=false:=by
  have:sizeLine=16777216:=by decide
  unfold Builtin.List.listTooLong;simp;omega
 rw[f1,if_neg %[|4],if_neg %[|5],f2,if_neg %[|4]];exact wpAny_pure (hQ _ _ (by show s.toks<=s.toks+1+1+1;omega))
theorem VP (l:Addr) (items:Array Value) (hz:(items.size:Int)<2 ^ 63) :
  Meets (Builtin.«reversed.__new__» ⟨[.type "reversed",.ref l],[]⟩) (fun _ R s=>IsTup s.heap l items/\∀ tk,s.toks<=tk->R (.ok (.ret (.ref s.heap.objs.size))) {s with heap:=s.heap.push (revT l ((items.size:Int)-1)),toks:=tk}) :=
 .of_wp fun prog w A R s h=>by
  obtain⟨hl,h⟩:=h;unfold Builtin.«reversed.__new__»;refine wpAny_bind (wpAny_of_eq (newClass_reversed _) ?_)
  try dsimp only
  refine wpAny_bind (wpAny_of_eq (a:=()) (by first|rfl|kernel_rfl) ?_);refine wpAny_bind (wpAny_of_eq (a:=()) (by first|rfl|kernel_rfl) ?_)
  try dsimp only
  refine wpAny_bind (wpAny_specialOf hl.typeIs F.tuple_no_reversed ?_)
  try dsimp only
  refine wpAny_bind ?_;show wpAny _ _ (isInstance (Value.ref l) (.type "dict") >>= fun _=>_) _ _ _;refine wpAny_bind (wpAny_isInstance hl.typeIs F.sub_tuple_dict ?_);show wpAny _ _ (specialOf (Value.ref l) "__getitem__" >>= fun _=>_) _ _ _;refine wpAny_bind (wpAny_specialOf hl.typeIs F.slot_tuple_getitem.lookup ?_);refine wpAny_of_eq (a:=true) (by rfl) ?_;show wpAny _ _ (call (Value.builtin "len") [Value.ref l] >>= fun _=>_) _ _ _;refine wpAny_bind (PyProof.Rows.len_tuple hl %[|5] ?_);refine wpAny_bind (wpAny_of_eq (a:=some ((items.size:Nat):Int)) (by rfl) ?_);show wpAny _ _ (newObj (.type "reversed") (.fields #[.ref l,rawInt ((items.size:Int)-1)]) >>= fun r=>ret r) _ _ _;refine wpAny_bind (wpAny_newObj_type ?_ (by size_fits));exact wpAny_pure ⟨_,rfl,h _ (by show s.toks<=s.toks+1+1;omega)⟩
theorem Cb (hl:IsTup s.heap l items) (hz:(items.size:Int)<2 ^ 63)
  (h:∀ tk,s.toks<=tk->Q (.ref s.heap.objs.size) {s with heap:=s.heap.push (revT l ((items.size:Int)-1)),toks:=tk}):wpAny (model prog w) A (call (.type "reversed") [.ref l]) Q E s:=by
 refine callType_new F.called_reversed %[|4] (F.typeCall_reversed_1 _) (F.newCall_reversed_1 _) (fun obj=>F.args_object_init_2 obj _) F.entry_reversed_new (VP l items hz) ⟨hl,fun tk ht=>?_⟩;exact⟨⟨_,Heap.get?_push_size _ rfl,rfl⟩,h tk ht⟩
end
theorem WalksS.revT {prog:Program} {w:World} {A:Around} (hh:A.handled=none) (I l:Addr) (hne:l≠I) (items:Array Value) (hz:(items.size:Int)<2 ^ 63) :
  WalksS prog w A I [I,l] [I] (fun a b=>a=b) items.size (fun i v=>items[items.size-1-i]?=some v) (fun i s=>i<=items.size/\IsRevT s.heap I l ((items.size:Int)-1-(i:Int))/\IsTup s.heap l items) where
 sub:=fun b hb=>by simp at hb;simp[hb]
 grefl:=fun _=>rfl
 gtrans:=fun _ _ _ h g=>h.trans g
 frame:=fun _ _ _ _ x _ hk=>⟨x.1,x.2.1.at fun o e=>hk I (by simp) o e,let ⟨o,ho,r⟩:=x.2.2;⟨o,hk l (by simp) o ho,r⟩⟩
 item:=fun i s Q E hi x hQ=>by
  have e:(items.size:Int)-1-(i:Int)=((items.size-1-i:Nat):Int):=by omega
  have hit:=x.2.1;rw[e] at hit;have hx:items[items.size-1-i]?=some (items[items.size-1-i]'%[|5]):=Array.getElem?_eq_getElem %[|5];refine Xh hit x.2.2 hx hz fun h' tk ht hit' hs'=>?_;have e2:((items.size-1-i:Nat):Int)-1=(items.size:Int)-1-((i+1:Nat):Int):=by omega
  rw[e2] at hit';exact hQ _ _ hx ⟨hi,hit',let ⟨o,ho,r⟩:=x.2.2;⟨o,(hs'.2 l hne).trans ho,r⟩⟩ ⟨fun b o hb eo=>hs'.extBut b o (fun h=>hb (by simp[h])) eo,rfl,rfl,rfl,ht⟩
 done:=fun s Q E x hQ=>by
  have e:(items.size:Int)-1-(items.size:Int)=-1:=by omega
  have hit:=x.2.1;rw[e] at hit;exact Xv hh hit fun h' he'=>hQ _ ⟨fun b o hb eo=>he' b o (fun h=>hb (by simp[h])) eo,rfl,rfl,rfl,Nat.le_refl _⟩
 self:=fun _ _ _ _ x hQ=>ZQ x.2.1 hQ
section
variable {prog:Program} {w:World} {A:Around} {s:Shared} {R:Result->Shared->Prop}
variable {I l:Addr} {items:Array Value}
theorem Wm (hh:A.in1.handled=none) (hne:l≠I) (hz:items.size<=1000000) (S:Addr) (res:Value) (c₀:Nat) (hit:IsRevT s.heap I l ((items.size:Int)-1)) (hl:IsTup s.heap l items) (hSI:S≠I) (hSl:S≠l)
  (hS:s.heap.get? S=some {cls:=.type "list",data:=.seq #[] c₀})
  (hR:∀ s' acc' c',Moved (S::[I]) (fun a b=>a=b) s s'->s'.heap.get? S=some {cls:=.type "list",dict:=none,data:=.seq acc' c',slots:=#[]}->ItemsOf (fun i v=>items[items.size-1-i]?=some v) acc' items.size->R (.ok (.ret res)) s') :
  wpAny (model prog w) A.in1 (Builtin.List.listExtendWith (.ref S) (.ref I) res)
   (fun fin s'=>match fin with | .done f=>R (.ok f) s' | .again c'=>c'.quiet=true/\codeAny (model prog w) A c' R s') (fun e s'=>R (.error e) s') s:=by
 have W:=WalksS.revT (prog:=prog) (w:=w) (A:=A.in1) hh I l hne items %[|5];have hSf:S ∉ [I,l]:=by simp[hSI,hSl]
 unfold Builtin.List.listExtendWith;refine wpAny_bind (wpAny_typeOf hit.typeIs ?_);have h1:Builtin.List.listSameRef (.ref S) (.ref I)=false:=by simp[Builtin.List.listSameRef,hSI]
 have h2:(Value.type "reversed" == Value.type "list")=false:=by decide
 have h3:(Value.type "reversed" == Value.type "tuple")=false:=by decide
 simp only[h1,h2,h3,Bool.or_false,Bool.false_eq_true,if_false];refine wpAny_bind (ZQ hit ?_);refine wpAny_bind (wpAny_holding (Vb hit hl %[|3] hz fun b tk ht=>?_));have hn:items.size<=sizeLine:=by
  have:sizeLine=16777216:=by decide
  omega
 have st0:(0:Nat)<=items.size/\IsRevT s.heap I l ((items.size:Int)-1-((0:Nat):Int))/\IsTup s.heap l items:=⟨Nat.zero_le _,by simpa using hit,hl⟩;split
 ·refine wpAny_bind (wpAny_rule ?_)
  refine wpAny_bind ?_;show wpAny _ A.in1 (updateSeq S (·.push .none) >>= fun _=>updateSeq S (·.pop)) _ _ _;refine wpAny_bind (wpAny_updateSeq hS rfl ?_);have hS₂:=Heap.get?_update_self (Obj.mapSeq (·.push Value.none)) hS rfl;refine wpAny_updateSeq (hz:=by seq_fits) hS₂ rfl ?_;have hS₃:=Heap.get?_update_self (Obj.mapSeq (·.pop)) hS₂ rfl;have oth:∀ b o,b≠S->s.heap.get? b=some o->((s.heap.update S (Obj.mapSeq (·.push Value.none))).update S (Obj.mapSeq (·.pop))).get? b=some o :=
   fun b o hb e=>(Heap.get?_update_other _ _ (Ne.symm hb)).trans ((Heap.get?_update_other _ _ (Ne.symm hb)).trans e)
  refine wpAny_pure ⟨plainId_quiet F.plain_extend_loop _,codeAny_extend_loopS W hn _ hSf _ items.size 0 _ _ _ rfl (Nat.zero_le _)
   (W.frame 0 s _ tk st0 ht fun b hb o e=>oth b o (fun h=>hSf (h ▸ hb)) e) hS₃ (ItemsOf.nil _) fun s' acc' c' hm hS' hacc=>?_⟩
  exact hR s' acc' c' (Moved.trans W.gtrans ((Moved.refl W.grefl).then_heap ht fun b o hb e=>oth b o (fun h=>hb (h ▸ List.mem_cons_self)) e) hm) hS' hacc
 ·refine wpAny_pure ⟨plainId_quiet F.plain_extend_loop _,codeAny_extend_loopS W hn _ hSf _ items.size 0 _ _ _ rfl (Nat.zero_le _)
   (W.frame 0 s _ tk st0 ht fun b hb o e=>e) hS (ItemsOf.nil _) fun s' acc' c' hm hS' hacc=>?_⟩
  exact hR s' acc' c' (Moved.trans W.gtrans ((Moved.refl W.grefl).then_heap ht fun b o hb e=>e) hm) hS' hacc
theorem Xw (hh:A.in1.handled=none) (hne:l≠I) (hz:items.size<=1000000) (S:Addr) (hit:IsRevT s.heap I l ((items.size:Int)-1)) (hl:IsTup s.heap l items) (hSI:S≠I) (hSl:S≠l)
  (hS:s.heap.get? S=some {cls:=.type "list",data:=.seq #[]})
  (hR:∀ s' acc' c',Moved (S::[I]) (fun a b=>a=b) s s'->s'.heap.get? S=some {cls:=.type "list",dict:=none,data:=.seq acc' c',slots:=#[]}->ItemsOf (fun i v=>items[items.size-1-i]?=some v) acc' items.size->R (.ok (.ret .none)) s') :
  wpAny (model prog w) A.in1 (Builtin.«list.__init__» ⟨[.ref S,.ref I],[]⟩)
   (fun fin s'=>match fin with | .done f=>R (.ok f) s' | .again c'=>c'.quiet=true/\codeAny (model prog w) A c' R s') (fun e s'=>R (.error e) s') s:=by
 show wpAny _ A.in1 (do let old <- Builtin.List.listItems (.ref S);Builtin.List.listUpdate (.ref S) (fun _=>#[]);letGo old.toList.reverse;Builtin.List.listExtendWith (.ref S) (.ref I) .none) _ _ s;refine wpAny_bind ?_;unfold Builtin.List.listItems;refine wpAny_bind (wpAny_seqItems hS rfl (wpAny_pure ?_));show wpAny _ A.in1 (updateSeq S (fun _=>#[]) >>= fun _=>letGo (#[]:Array Value).toList.reverse >>= fun _=>Builtin.List.listExtendWith (.ref S) (.ref I) .none) _ _ s;refine wpAny_bind (wpAny_updateSeq hS rfl ?_);have hS₂:=Heap.get?_update_self (Obj.mapSeq (fun _=>(#[]:Array Value))) hS rfl;have oth:∀ b o,b≠S->s.heap.get? b=some o->(s.heap.update S (Obj.mapSeq (fun _=>(#[]:Array Value)))).get? b=some o :=
  fun b o hb e=>(Heap.get?_update_other _ _ (Ne.symm hb)).trans e
 refine wpAny_bind (wpAny_letGo ?_);refine Wm hh hne hz S .none _ (hit.at fun o e=>oth I o hSI.symm e) (let ⟨o,ho,r⟩:=hl;⟨o,oth l o hSl.symm ho,r⟩) hSI hSl hS₂ fun s' acc' c' hm hS' hacc=>?_;exact hR s' acc' c' (Moved.trans (fun _ _ _ h g=>h.trans g) ((Moved.refl fun _=>rfl).then_heap %[|3] fun b o hb e=>oth b o (fun h=>hb (h ▸ List.mem_cons_self)) e) hm) hS' hacc
end
section
variable {prog:Program} {w:World} {A:Around} {E:Value->Shared->Prop} {s:Shared}
variable {I l:Addr} {items:Array Value}
theorem U5 (hh:A.in1.in1.handled=none) (hne:l≠I) (hz:items.size<=1000000) (hit:IsRevT s.heap I l ((items.size:Int)-1)) (hl:IsTup s.heap l items)
  (hQ:∀ s' acc' c',Moved (s.heap.objs.size::[I]) (fun a b=>a=b) {s with heap:=s.heap.push {cls:=.type "list",data:=.seq #[]}} s' ->
   s'.heap.get? s.heap.objs.size=some {cls:=.type "list",dict:=none,data:=.seq acc' c',slots:=#[]}->ItemsOf (fun i v=>items[items.size-1-i]?=some v) acc' items.size->Q (.ref s.heap.objs.size) s') :
  wpAny (model prog w) A (call (.type "list") [.ref I]) Q E s:=by
 have lI:I<s.heap.objs.size:=let ⟨_,ho,_⟩:=hit;Heap.lt_size ho
 have ll:=hl.lt;refine callType_codes (Q₁:=fun obj s₁=>obj=.ref s.heap.objs.size/\s₁={s with heap:=s.heap.push {cls:=.type "list",data:=.seq #[]}}) F.called_list (F.typeCall_list_1 _) F.entry_list_init
  (code_list_new _ ⟨rfl,rfl⟩) fun obj s₁ h₁=>?_
 obtain⟨rfl,rfl⟩:=h₁;have hS:(s.heap.push {cls:=.type "list",data:=.seq #[]}).get? s.heap.objs.size=some {cls:=.type "list",data:=.seq #[]}:=Heap.get?_push_size _ rfl;refine⟨⟨_,hS,rfl⟩,F.args_list_init_2 _ _,Xw hh hne hz _ (hit.at fun o e=>Heap.get?_push_of_some _ e) (hl.push _) (Nat.ne_of_gt lI) (Nat.ne_of_gt ll) hS fun s' acc' c' hm hS' hacc=>?_⟩;exact⟨rfl,hQ s' acc' c' hm hS' hacc⟩
end
end PySem
namespace DL
open PySem PySem.Spec PyProof.Rows L2
theorem BN {its:List Value} {acc:Array Value} (h:ItemsOf (fun i v=>its.toArray[its.toArray.size-1-i]?=some v) acc its.toArray.size):acc=its.reverse.toArray:=by
 apply Array.ext';show acc.toList=its.reverse;have hl:acc.toList.length=its.length:=by have:=h.1;simpa using this
 refine List.ext_getElem (by rw[hl,List.length_reverse]) fun i h1 h2=>?_;have h3:i<acc.size:=by simpa using h1
 have:=h.2 i acc[i] (Array.getElem?_eq_getElem h3);rw[List.getElem_reverse];have h4:i<its.length:=by omega
 have h5:its.length-1-i<its.length:=by omega
 rw[List.size_toArray,List.getElem?_toArray,List.getElem?_eq_getElem h5] at this;rw[Array.getElem_toList];exact (Option.some.inj this).symm
section
variable {X:Cx} {e:Expr} {t:TA} {p p2 pos pos2:Pos}
theorem Fl (hc:X.calm=true) (hg1:Gl X "list") (hm1:X.mg "list"=none) (hg2:Gl X "reversed") (hm2:X.mg "reversed"=none) (ha:PA X [e] t)
  (he:starEach [e] X.env=(false,eval e X.env)::starEach [] X.env:=by rfl) :
  PE X (.Call (.Name "list" p) [.Call (.Name "reversed" p2) [e] [] pos2] [] pos) (tCB (fun xs H Q=>∃ a ys,xs=[.ref a]/\SqT X.K H a ys/\ys.length<=1000000/\∀ l,H l=none->Q (.ref l) (L2.upd H l (.lst ys.reverse))) t):=by
 intro pins s σ H Q I h;refine wpAny_Call_Name_kw (Wi I hg1 hm1 (u:=.type "list") (by decide +kernel) ?_);refine PyProof.Rows.callWith_type1 ?_ rfl rfl;refine Calls.spliced_cons ?_;refine wpAny_Call_Name_kw (Wi I hg2 hm2 (u:=.type "reversed") (by decide +kernel) ?_);refine PyProof.Rows.callWith_type1 ?_ he rfl;refine thn (ha pos2 pins s σ H _ I h) ?_;rintro us s1 ⟨vs,H1,I1,r1,a,ys,rfl,hq,hz,q⟩;obtain⟨u,rfl,rx⟩:=WX r1
 (first|cases (show _=_ from rx.inv)|cases rx)
 obtain⟨its,r',pl,hzl⟩:=I1.tuple hq;have hlen:=r'.length;refine Cb pl (by simp;omega) fun tk ht=>?_;refine Calls.spliced_nil ?_;have la:=pl.lt;refine U5 (items:=its.toArray) (I1.ok.hd hc) (Nat.ne_of_lt la) (by simp;omega) ⟨_,Heap.get?_push_size _ rfl,rfl,rfl⟩ (pl.push _) fun s' acc' c' hm hS' hacc=>?_;have ea:=BN hacc;subst ea;obtain⟨m1,m2,m3,m4,m5⟩:=hm;obtain⟨h',g',d',k',o'⟩:=s';dsimp only at m1 m2 m3 m4 m5 hS';subst m2 m3 m4;have z1:(s1.heap.push (revT a ((its.toArray.size:Int)-1))).objs.size=s1.heap.objs.size+1:=Heap.size_push ..;have kp:∀ b o,s1.heap.get? b=some o->h'.get? b=some o:=fun b o e=>by
  have lb:=Heap.lt_size e;refine m1 b o ?_ (Heap.get?_push_of_some _ (Heap.get?_push_of_some _ e));simp only[List.mem_cons,List.not_mem_nil,or_false,not_or];exact⟨fun q=>by rw[q,z1] at lb;exact Nat.lt_irrefl _ (Nat.lt_of_succ_lt lb),fun q=>by rw[q] at lb;exact Nat.lt_irrefl _ lb⟩
 have hle:s1.heap.objs.size<=(s1.heap.push (revT a ((its.toArray.size:Int)-1))).objs.size:=by rw[z1];omega
 exact⟨.ref (s1.heap.push (revT a ((its.toArray.size:Int)-1))).objs.size,_,I1.laid (t':=k') kp hle (o:=.lst ys.reverse) ⟨by rw[List.length_reverse];exact hzl,its.reverse,c',UL r',hS'⟩,rfl,q _ (I1.hok.fresh hle)⟩
end
end DL
namespace DL
open PySem PySem.Spec PyProof.Rows L2
section
variable {X:Cx} {rz:Bool} {Xe:DSt->DK} {e:Expr} {t:DA} {p p2 pos pos2:Pos}
noncomputable def JV:List D->Mem->DK->Prop
 | [.tup xs],M,Q=>xs.length<=1000000/\alloc M (.ls xs.reverse) fun p M'=>Q (.lst p) M'
 | _,_,_=>False
theorem FX (hc:X.calm=true) (hg1:Gl X "list") (hm1:X.mg "list"=none) (hg2:Gl X "reversed") (hm2:X.mg "reversed"=none) (ha:PA X [e] (ZX (X.L rz Xe) t))
  (he:starEach [e] X.env=(false,eval e X.env)::starEach [] X.env) :
  PE X (.Call (.Name "list" p) [.Call (.Name "reversed" p2) [e] [] pos2] [] pos) (lift (X.L rz Xe) (dCB JV t)):=by
 refine (Fl hc hg1 hm1 hg2 hm2 ha he).imp fun σ H Q h=>?_;obtain⟨δ,M,R,rs,rm,t,q⟩:=h;refine⟨δ,M,_,rs,rm,t,fun ds M' vs H' x m r h=>?_⟩;unfold JV at h;split at h
 ·obtain⟨v,rfl,ra⟩:=r.one
  obtain⟨_,_,rfl,ht,r⟩:=ra.inv;obtain⟨hz,h⟩:=h;have hl:=r.length;exact⟨_,_,rfl,ht,by omega,fun p hp=>q _ _ _ _ (x.trans (.upd (.inl hp))) (m.lst hp (UU r)) (.lst p) (h.at (m.none hp))⟩
 ·exact h.elim
end
end DL
end
noncomputable section
namespace DL
open PySem PySem.Spec PyProof.Rows L2
noncomputable def Bo:DS:=fun D δ M=>D.nx δ M
noncomputable def dSeq (t u:DS):DS:=fun D δ M=>t {D with nx:=u D} δ M
noncomputable def L6:DS:=fun D δ M=>D.bk δ M
noncomputable def Me:DS:=fun D δ M=>D.ct δ M
noncomputable def GR (te:(DSt->DK)->DE):DS:=fun D δ M=>te D.ex δ M fun _ M1=>D.nx δ M1
noncomputable def dRet (te:(DSt->DK)->DE):DS:=fun D δ M=>te D.ex δ M D.rt
noncomputable def Mb:DS:=fun D _ M=>D.rt .non M
noncomputable def dIfS (c:(DSt->DK)->DT) (t u:DS):DS:=fun D δ M=>c D.ex δ M fun b M1=>if b=true then t D δ M1 else u D δ M1
noncomputable def L5:DS:=fun _ _ _=>False
abbrev DG:=D->DSt->Mem->(DSt->Mem->Prop)->Prop
abbrev DGs:=List D->DSt->Mem->(DSt->Mem->Prop)->Prop
noncomputable def Zt (Λ:LK) (g:DG):TG:=fun v σ H Q=>∃ d δ M R,RelD Λ.K H v d/\RepS Λ H δ σ/\RepM Λ.K H M/\g d δ M R/\∀ δ' M' σ' H',HExt Λ.K H H'->RepS Λ H' δ' σ'->RepM Λ.K H' M'->R δ' M'->Q σ' H'
noncomputable def VS (Λ:LK) (g:DGs):TGs:=fun vs σ H Q=>∃ ds δ M R,RelDs Λ.K H vs ds/\RepS Λ H δ σ/\RepM Λ.K H M/\g ds δ M R/\∀ δ' M' σ' H',HExt Λ.K H H'->RepS Λ H' δ' σ'->RepM Λ.K H' M'->R δ' M'->Q σ' H'
noncomputable def Xp (i:Nat):DG:=fun d δ M Q=>Q (δ.set i (some d)) M
noncomputable def GM:DGs:=fun ds δ M Q=>ds=[]/\Q δ M
noncomputable def Eg (t:DG) (u:DGs):DGs:=fun ds δ M Q=>∃ d r,ds=d::r/\t d δ M fun δ' M'=>u r δ' M' Q
noncomputable def Yn (n:Nat) (t:DGs):DG:=fun d δ M Q=>∃ ds,d=.tup ds/\ds.length=n/\t ds δ M Q
noncomputable def GL (to ti:DE):DG:=fun v δ M Q=>to δ M fun o M1=>ti δ M1 fun i M2=>∃ a k xs j,o=.lst a/\i=.int k/\M2 a=some (.ls xs)/\ixN xs.length k=some j/\Q δ (M2.upd a (.ls (xs.set j v)))
noncomputable def dAsg (te:(DSt->DK)->DE) (g:(DSt->DK)->DG):DS:=fun D δ M=>te D.ex δ M fun x M1=>g D.ex x δ M1 D.nx
noncomputable def dPar (i j:Nat) (ta:(DSt->DK)->DA):DS:=fun D δ M=>ta D.ex δ M fun ds M1=>∃ v w,ds=[v,w]/\D.nx ((δ.set i (some v)).set j (some w)) M1
noncomputable def dTwo (te:(DSt->DK)->DE) (g h:(DSt->DK)->DG):DS:=fun D δ M=>te D.ex δ M fun x M1=>g D.ex x δ M1 fun δ2 M2=>h D.ex x δ2 M2 D.nx
noncomputable def dAug (i:Nat) (te:(DSt->DK)->DE) (f:Int->Int->Int):DS:=fun D δ M=>∃ x,δ[i]?=some (some (.int x))/\te D.ex δ M fun y M1=>∃ j,y=.int j/\D.nx (δ.set i (some (.int (f x j)))) M1
noncomputable def Ja (c:(DSt->DK)->DT) (tb:DS):DS:=fun D δ M=>∃ W:Nat->DSt->Mem->Prop,(∃ m,W m δ M)/\∀ m δ M,W m δ M ->
 c D.ex δ M fun b M1=>if b=true then ∃ N:DSt->Mem->Prop,(∀ δ' M',N δ' M'->∃ m',m'<m/\W m' δ' M')/\tb {D with nx:=N,ct:=N,bk:=D.nx} δ M1 else D.nx δ M1
section
variable {X:Cx} {rz:Bool} {Xe:DSt->DK} {st:Stmt} {rest:List Stmt} {t u:DS} {e tg:Expr} {es:List Expr} {te:DE} {g:DG} {gs:DGs} {pos:Pos}
theorem FP:PSs X [] (YG X rz Bo):=by
 refine pss_nil.imp ?_;rintro E σ H ⟨δ,M,D,rs,rm,t,n,r,b,c⟩;exact n δ M σ H (.refl H) rs rm t
theorem Ga (h:YG X rz (dSeq t u) E σ H):tSeq (YG X rz t) (YG X rz u) E σ H:=by
 obtain⟨δ,M,D,rs,rm,t,n,r,b,c⟩:=h;exact⟨δ,M,{D with nx:=u D},rs,rm,t,fun δ' M' σ' H' x rs' rm' h=>⟨δ',M',D,rs',rm',h,fun a b c d x2=>n a b c d (x.trans x2),fun a b c d x2=>r a b c d (x.trans x2),fun p q s t x2=>b p q s t (x.trans x2),fun p q s t x2=>c p q s t (x.trans x2)⟩,r,b,c⟩
theorem Eo (h1:PS X st (YG X rz t)) (h2:PSs X rest (YG X rz u)):PSs X (st::rest) (YG X rz (dSeq t u)):=(D2 h1 h2).imp fun _ _ _=>Ga
theorem FR {te:(DSt->DK)->DE} (he:∀ Xe,PE X e (lift (X.L rz Xe) (te Xe))) (hs:swapsWith e none pos.line X.env=pure false):PS X (.Expr e pos) (YG X rz (GR te)):=by
 rintro pins s σ H E I ⟨δ,M,D,rs,rm,t,n,r,b,c⟩;exact (Fh (he D.ex) hs) pins s σ H E I <| ⟨δ,M,_,rs,rm,t,fun d M' v H' x m _ h=>n δ M' σ H' x (rs.ext x) m h⟩
theorem Ie {te:(DSt->DK)->DE} (he:∀ Xe,PE X e (lift (X.L rz Xe) (te Xe))):PS X (.Return (some e) pos) (YG X rz (dRet te)):=by
 rintro pins s σ H E I ⟨δ,M,D,rs,rm,t,n,r,b,c⟩;exact (Hk (he D.ex)) pins s σ H E I <| ⟨δ,M,_,rs,rm,t,fun d M' v H' x m q h=>r d M' v H' x m q h⟩
theorem Ku (hc:∀ Xe,PT X c (Zb (X.L rz Xe) (tc Xe))) (ha:PSs X a (YG X rz t)) (hb:PSs X b (YG X rz u)):PS X (.If c a b pos) (YG X rz (dIfS tc t u)):=by
 rintro pins s σ H E I ⟨δ,M,D,rs,rm,t,n,r,b,c⟩;exact (K6 (hc D.ex) ha hb) pins s σ H E I <| ⟨δ,M,_,rs,rm,t,fun k M' H' x m h=>by
  cases k with
  | true=>exact⟨δ,M',D,rs.ext x,m,h,fun a b c d x2=>n a b c d (x.trans x2),fun a b c d x2=>r a b c d (x.trans x2),fun p q s t x2=>b p q s t (x.trans x2),fun p q s t x2=>c p q s t (x.trans x2)⟩
  | false=>exact⟨δ,M',D,rs.ext x,m,h,fun a b c d x2=>n a b c d (x.trans x2),fun a b c d x2=>r a b c d (x.trans x2),fun p q s t x2=>b p q s t (x.trans x2),fun p q s t x2=>c p q s t (x.trans x2)⟩⟩
theorem _root_.L2.PG.imp {t t':TG} (h:PG X tg t) (i:∀ v σ H Q,t' v σ H Q->t v σ H Q):PG X tg t':=fun pins s σ H v u Q I r q=>h pins s σ H v u Q I r (i _ _ _ _ q)
theorem _root_.L2.PGs.imp {t t':TGs} (h:PGs X es t) (i:∀ v σ H Q,t' v σ H Q->t v σ H Q):PGs X es t':=fun pins s σ H v u Q I r q=>h pins s σ H v u Q I r (i _ _ _ _ q)
theorem FW {i:Nat} {x:Str} (hN:X.N.Nodup) (hi:X.N[i]?=some x) (hx:Loc X.env.scope x) (hf:X.fn x=true\/X.env.scope.names.lookup x=some .local):PG X (.Name x pos) (Zt (X.L rz Xe) (Xp i)) :=
 (Fk hN hi hx hf).imp (by rintro v σ H Q ⟨d,δ,M,R,r,rs,rm,h,q⟩;exact q _ _ _ _ (.refl H) (rs.set r i) rm h)
theorem FU:PGs X [] (VS (X.L rz Xe) GM):=by
 refine pgs_nil.imp ?_;rintro v σ H Q ⟨d,δ,M,R,r,rs,rm,h,q⟩;obtain⟨e,h⟩:=h;subst e;(first|cases (show _=_ from r.inv)|cases r);exact⟨rfl,q _ _ _ _ (.refl H) rs rm h⟩
theorem Eu (h1:PG X tg (Zt (X.L rz Xe) g)) (h2:PGs X es (VS (X.L rz Xe) gs)) (hs:(assignEach (tg::es) X.env).map (·.2)=assign tg X.env::(assignEach es X.env).map (·.2)):PGs X (tg::es) (VS (X.L rz Xe) (Eg g gs)) :=
 (D9 h1 h2 hs).imp fun v σ H Q ⟨d,δ,M,R,r,rs,rm,h,q⟩=>by
  obtain⟨d,ds,e,h⟩:=h;subst e;cases r with
  | cons ra rr=>exact⟨_,_,rfl,d,δ,M,_,ra,rs,rm,h,fun δ' M' σ' H' x rs' rm' h'=>⟨ds,δ',M',R,rr.ext x,rs',rm',h',fun a b c d x2=>q a b c d (x.trans x2)⟩⟩
theorem Im {k n:Nat} (hc:X.calm=true) (h:PGs X es (VS (X.L rz Xe) gs)) (hn:(assignEach es X.env).length=n) (hst:(assignEach es X.env).findIdx? (·.1)=none):PG X (.Tuple es k pos) (Zt (X.L rz Xe) (Yn n gs)) :=
 (Hq hc h hn hst).imp fun v σ H Q ⟨d,δ,M,R,r,rs,rm,h,q⟩=>by
  obtain⟨ds,e,hl,h⟩:=h;subst e;obtain⟨_,_,rfl,ht,rr⟩:=r.inv;exact⟨_,_,rfl,ht,by rw[rr.length];exact hl,ds,δ,M,R,rr,rs,rm,h,q⟩
theorem Io {o i:Expr} {to ti:DE} (ho:PE X o (lift (X.L rz Xe) to)) (hi:PE X i (lift (X.L rz Xe) ti))
  (ha:∀ v,assign (.Subscript o i pos) X.env v=(do
   let ov <- holding [v] (eval o X.env)
   let iv <- holding [v,ov] (eval i X.env)
   standAt pos
   holding [v,ov,iv] (setItem ov iv v)
   release [v,ov,iv] [])):PG X (.Subscript o i pos) (Zt (X.L rz Xe) (GL to ti)) :=
 (Hr ho hi CC ha).imp fun v σ H Q ⟨d,δ,M,R,r,rs,rm,h,q⟩=>seq2 rs rm h fun x y M2 w u H2 x2 m2 r1 r2 ⟨a,k,xs,j,e1,e2,e3,e4,h2⟩=>by
  subst e1;subst e2;(first|cases (show _=_ from r1.inv)|cases r1);(first|cases (show _=_ from r2.inv)|cases r2);obtain⟨vs,ev,rv⟩:=m2 _ _ e3;exact⟨a,vs,k,j,rfl,rfl,ev,by rw[rv.length];exact e4,q _ _ _ _ (x2.trans (.upd (.inr ⟨_,ev,trivial⟩))) (rs.ext (x2.trans (.upd (.inr ⟨_,ev,trivial⟩)))) (m2.write ev (rv.set (r.ext x2) j)) h2⟩
theorem Ii {te:(DSt->DK)->DE} {g:(DSt->DK)->DG} (he:∀ Xe,PE X e (lift (X.L rz Xe) (te Xe))) (hg:∀ Xe,PG X tg (Zt (X.L rz Xe) (g Xe))) (hs:swapsWithSole [tg] e pos.line X.env=pure false) (hw:swappedStores [tg] e X.env=pure none)
  (h1:(assignEach [tg] X.env).map (·.2)=[assign tg X.env]):PS X (.Assign [tg] e pos) (YG X rz (dAsg te g)) :=
 (by rintro pins s σ H E I ⟨δ,M,D,rs,rm,t,n,r,b,c⟩;exact (Hn (he D.ex) (hg D.ex) hs hw h1) pins s σ H E I <| ⟨δ,M,_,rs,rm,t,fun d M' v H' x m q h=>⟨d,δ,M',_,q,rs.ext x,m,h,fun a b c d x2=>n a b c d (x.trans x2)⟩⟩)
theorem Id {te:(DSt->DK)->DE} {g:(DSt->DK)->DG} {tg2:Expr} {g2:(DSt->DK)->DG} (he:∀ Xe,PE X e (lift (X.L rz Xe) (te Xe))) (hg:∀ Xe,PG X tg (Zt (X.L rz Xe) (g Xe))) (hg2:∀ Xe,PG X tg2 (Zt (X.L rz Xe) (g2 Xe))) (h1:(assignEach [tg,tg2] X.env).map (·.2)=[assign tg X.env,assign tg2 X.env]) (hw:swappedStores [tg,tg2] e X.env=pure none) :
  PS X (.Assign [tg,tg2] e pos) (YG X rz (dTwo te g g2)):=by
 rintro pins s σ H E I ⟨δ,M,D,rs,rm,t,n,r,b,c⟩;refine wpAny_Assign_two (thn (he D.ex pins s σ H (fun v H1=>∃ d M1,HExt X.K H H1/\RepM X.K H1 M1/\RelD X.K H1 v d/\g D.ex d δ M1 fun δ2 M2=>g2 D.ex d δ2 M2 D.nx) I ⟨δ,M,_,rs,rm,t,fun d M' v H' x m q h=>⟨d,M',x,m,q,h⟩⟩) fun v s1 hq2=>?_) h1 hw;obtain⟨y,H1,I1,r1,d,M1,x1,m1,q1,h1'⟩:=hq2;refine thn (hg D.ex pins s1 σ H1 y v (fun σ2 H2=>∃ δ2 M2,HExt X.K H1 H2/\RepS (X.L rz D.ex) H2 δ2 σ2/\RepM X.K H2 M2/\g2 D.ex d δ2 M2 D.nx) I1 r1 ⟨d,δ,M1,_,q1,rs.ext x1,m1,h1',fun δ' M' σ' H' y1 y2 y3 y4=>⟨δ',M',y1,y2,y3,y4⟩⟩) fun _ s2 hq2=>?_;obtain⟨σ2,H2,I2,δ2,M2,x2,rs2,m2,h2⟩:=hq2;exact hg2 D.ex pins s2 σ2 H2 y v _ I2 r1 ⟨d,δ2,M2,_,q1.ext x2,rs2,m2,h2,fun a b c d y1=>n a b c d ((x1.trans x2).trans y1)⟩
theorem Er {te:(DSt->DK)->DE} {i:Nat} {x:Str} {pos':Pos} (hN:X.N.Nodup) (hi:X.N[i]?=some x) (hx:Loc X.env.scope x) (he:∀ Xe,PE X e (lift (X.L rz Xe) (te Xe))) (hs:swapsWith e (some (.Name x pos')) pos.line X.env=pure false) (hf:X.fn x=true\/X.env.scope.names.lookup x=some .local) :
  PS X (.Assign [.Name x pos'] e pos) (YG X rz (dAsg te fun _=>Xp i)):=by
 rintro pins s σ H E I ⟨δ,M,D,rs,rm,t,n,r,b,c⟩;exact (Hj hN hi hx (he D.ex) hs hf) pins s σ H E I <| ⟨δ,M,_,rs,rm,t,fun d M' v H' x m q h=>n _ _ _ _ x ((rs.ext x).set q i) m h⟩
theorem Ig {kt k2 pt2} (hc:X.calm=true) (hN:X.N.Nodup) (hi:X.N[i]?=some x) (hj:X.N[j]?=some y) (hij:i≠j)
  (hx:X.env.scope.names.lookup x=some .local) (hy:X.env.scope.names.lookup y=some .local) (ha:∀ Xe,PA X [a,b] (ZX (X.L rz Xe) (ta Xe)))
  (hw:swappedStores [.Tuple [.Name x px,.Name y py] kt pt] (.Tuple [a,b] k2 pt2) X.env=pure (some [x,y]))
  (hs:swapsWithSole [.Tuple [.Name x px,.Name y py] kt pt] (.Tuple [a,b] k2 pt2) pos.line X.env=pure false) :
  PS X (.Assign [.Tuple [.Name x px,.Name y py] kt pt] (.Tuple [a,b] k2 pt2) pos) (YG X rz (dPar i j ta)):=by
 rintro pins s σ H E I ⟨δ,M,D,rs,rm,t,n,r,b,c⟩;exact (Hl hc hN hi hj hij hx hy (ha D.ex) hw hs) pins s σ H E I <| ⟨δ,M,_,rs,rm,t,fun ds M' vs H' x m q ⟨v,w,e,h⟩=>by
  subst e;obtain⟨v',w',rfl,r1,r2⟩:=q.two;exact⟨v',w',rfl,n _ _ _ _ x (((rs.ext x).set r1 i).set r2 j) m h⟩⟩
theorem Ep (hp:PassesOwn (model X.prog X.w) X.A X.env X.xe) (hc:∀ Xe,PT X c (Zb (X.L rz Xe) (tc Xe))) (hb:PSs X body (YG X rz tb)):PS X (.While c body [] pos) (YG X rz (Ja tc tb)) :=
 fun pins s σ H E I ⟨δ,M,D,rs,rm,⟨W,⟨m0,w0⟩,turn⟩,n,r,b,c⟩=>(D3 hp (hc D.ex) hb) pins s σ H E I <| by
  refine⟨fun m σ' H'=>∃ δ' M',HExt X.K H H'/\RepS (X.L rz D.ex) H' δ' σ'/\RepM X.K H' M'/\W m δ' M',⟨m0,δ,M,.refl H,rs,rm,w0⟩,?_⟩;rintro m σ1 H1 ⟨δ1,M1,x1,rs1,rm1,w1⟩;refine⟨δ1,M1,_,rs1,rm1,turn m δ1 M1 w1,fun k M2 H2 x2 m2 h=>?_⟩;cases k with
  | true =>
   obtain⟨N,hN,h⟩:=h;refine⟨fun σ' H'=>∃ δ' M',HExt X.K H H'/\RepS (X.L rz D.ex) H' δ' σ'/\RepM X.K H' M'/\N δ' M',fun σ' H' ⟨δ',M',y1,y2,y3,y4⟩=>?_,?_⟩
   ·obtain⟨m',l,w'⟩:=hN δ' M' y4
    exact⟨m',l,δ',M',y1,y2,y3,w'⟩
   ·exact⟨δ1,M2,{D with nx:=N,ct:=N,bk:=D.nx},rs1.ext x2,m2,h,fun δ' M' σ' H' y1 y2 y3 y4=>⟨δ',M',(x1.trans x2).trans y1,y2,y3,y4⟩,fun a b c d y1=>r a b c d ((x1.trans x2).trans y1),fun δ' M' σ' H' y1 y2 y3 y4=>n _ _ _ _ ((x1.trans x2).trans y1) y2 y3 y4,fun δ' M' σ' H' y1 y2 y3 y4=>⟨δ',M',(x1.trans x2).trans y1,y2,y3,y4⟩⟩
  | false=>exact n _ _ _ _ (x1.trans x2) (rs1.ext x2) m2 h
end
abbrev DI:=DSt->Mem->(List D->(Mem->Prop)->Mem->Prop)->Prop
noncomputable def ItD (K:Frag) (H0:Hp) (J:It) (items:List D) (keep:Mem->Prop):Prop:=∀ i H M,HExt K H0 H->RepM K H M->keep M ->
 (i<items.length->J.go i H)/\(items.length<=i->J.stop i H)/\∀ x H',J.yld i H x H'->HExt K H H'/\RepM K H' M/\∀ d,items[i]?=some d->RelD K H' x d
noncomputable def Xt (Λ:LK) (t:DI):TI:=fun σ H R=>∃ δ M Rd,RepS Λ H δ σ/\RepM Λ.K H M/\t δ M Rd/\∀ items keep M' J H',HExt Λ.K H H'->RepM Λ.K H' M'->keep M'->ItD Λ.K H' J items keep->Rd items keep M'->R J H'
noncomputable def forD (g:(DSt->DK)->DG) (tb:DS) (keep:Mem->Prop):List D->DS
 | []=>fun D δ M=>D.nx δ M
 | x::xs=>fun D δ M=>g D.ex x δ M fun δ1 M1=>tb {D with nx:=fun δ2 M2=>keep M2/\forD g tb keep xs D δ2 M2,ct:=fun δ2 M2=>keep M2/\forD g tb keep xs D δ2 M2,bk:=D.nx} δ1 M1
noncomputable def dFor (ti:(DSt->DK)->DI) (g:(DSt->DK)->DG) (tb:DS):DS:=fun D δ M=>ti D.ex δ M fun items keep M1=>forD g tb keep items D δ M1
section
variable {X:Cx} {rz:Bool} {Xe:DSt->DK} {tg:Expr} {pos:Pos}
theorem Ih (hp:PassesOwn (model X.prog X.w) X.A X.env X.xe) (hc:X.calm=true) (hi:∀ Xe,PI X tg iter (Xt (X.L rz Xe) (ti Xe))) (hg:∀ Xe,PG X tg (Zt (X.L rz Xe) (g Xe))) (hb:PSs X body (YG X rz tb))
  (hs:∀ x,foldedSetIterable iter X.env x=pure x):PS X (.For tg iter body [] pos) (YG X rz (dFor ti g tb)) :=
 fun pins s σ H E I ⟨δ,M,D,rs,rm,t,n,r,b,c⟩=>(Hm hp hc (hi D.ex) (hg D.ex) hb hs) pins s σ H E I <| by
  refine⟨δ,M,_,rs,rm,t,fun items keep M1 J H1 x1 m1 k1 it h1=>?_⟩;refine⟨fun i m σ' H'=>m=items.length-i/\i<=items.length/\∃ δ' M',HExt X.K H1 H'/\RepS (X.L rz D.ex) H' δ' σ'/\RepM X.K H' M'/\keep M'/\forD g tb keep (items.drop i) D δ' M',⟨_,rfl,Nat.zero_le _,δ,M1,.refl H1,rs.ext x1,m1,k1,h1⟩,?_⟩;rintro i m σ2 H2 ⟨rfl,hi,δ2,M2,x2,rs2,m2,k2,h2⟩;obtain⟨i1,i2,i3⟩:=it i H2 M2 x2 m2 k2;by_cases hl:i<items.length
  ·refine .inr ⟨i1 hl,fun σ' H'=>∃ δ' M',HExt X.K H1 H'/\RepS (X.L rz D.ex) H' δ' σ'/\RepM X.K H' M'/\keep M'/\forD g tb keep (items.drop (i+1)) D δ' M',fun σ' H' z=>⟨items.length-(i+1),by omega,rfl,hl,z⟩,fun x H3 y=>?_⟩
   obtain⟨x3,m3,r3⟩:=i3 x H3 y;rw[List.drop_eq_getElem_cons hl] at h2;refine⟨items[i],δ2,M2,_,r3 _ (by simp[hl]),rs2.ext x3,m3,h2,fun δ4 M4 σ4 H4 x4 rs4 m4 h4=>?_⟩;have xx:=(x2.trans x3).trans x4;exact⟨δ4,M4,{D with nx:=fun δ2 M2=>keep M2/\forD g tb keep (items.drop (i+1)) D δ2 M2,ct:=fun δ2 M2=>keep M2/\forD g tb keep (items.drop (i+1)) D δ2 M2,bk:=D.nx},rs4,m4,h4,fun δ' M' σ' H' y1 y2 y3 y4=>⟨δ',M',xx.trans y1,y2,y3,y4.1,y4.2⟩,fun a b c d y1=>r a b c d ((x1.trans xx).trans y1),fun δ' M' σ' H' y1 y2 y3 y4=>n _ _ _ _ ((x1.trans xx).trans y1) y2 y3 y4,fun δ' M' σ' H' y1 y2 y3 y4=>⟨δ',M',xx.trans y1,y2,y3,y4.1,y4.2⟩⟩
  ·have e:i=items.length:=by omega
   subst e;rw[List.drop_length] at h2;exact .inl ⟨i2 %[|3],n _ _ _ _ (x1.trans x2) rs2 m2 h2⟩
noncomputable def Yh (d:D) (M:Mem) (R:List D->(Mem->Prop)->Mem->Prop):Prop :=
 match d with
 | .lst a=>∃ xs,M a=some (.ls xs)/\R xs (fun M'=>M' a=some (.ls xs)) M
 | .fz xs=>R xs (fun _=>True) M
 | .tup xs=>R xs (fun _=>True) M
 | _=>False
noncomputable def Yu (te:DE):DI:=fun δ M R=>te δ M fun d M1=>Yh d M1 R
theorem DY {K:Frag} {H0:Hp} {a:Addr} {xs:List D}:ItD K H0 (Itl K a) xs (fun M'=>M' a=some (.ls xs)):=fun i H M x m k=>by
 obtain⟨vs,e,r⟩:=m _ _ k;refine⟨fun hl=>⟨vs,vs[i]'(by rw[r.length];exact hl),.of e,by simp[r.length,hl]⟩,fun hl=>⟨vs,.of e,by rw[r.length];exact hl⟩,fun y H' hq2=>?_⟩;obtain⟨e1,e2⟩:=hq2;subst e1;refine⟨.refl _,m,fun d hd=>?_⟩;obtain⟨v,h1,h2⟩:=r.get hd;rw[e2 vs (.of e)] at h1;cases h1;exact h2
theorem HW {K:Frag} {H0:Hp} {a:Addr} {vs:List V} {xs:List D} (ht:SqF K H0 a vs) (r:RelDs K H0 vs xs):ItD K H0 (Itl K a) xs (fun _=>True):=fun i H M x m k=>by
 have ht':=x.fz _ _ ht;have r':=r.ext x;refine⟨fun hl=>⟨vs,vs[i]'(by rw[r.length];exact hl),ht'.sq,by simp[r.length,hl]⟩,fun hl=>⟨vs,ht'.sq,by rw[r.length];exact hl⟩,fun y H' hq2=>?_⟩;obtain⟨e1,e2⟩:=hq2;subst e1;refine⟨.refl _,m,fun d hd=>?_⟩;obtain⟨v,h1,h2⟩:=r'.get hd;rw[e2 vs ht'.sq] at h1;cases h1;exact h2
theorem FI {K:Frag} {H0:Hp} {a:Addr} {vs:List V} {xs:List D} (ht:SqT K H0 a vs) (r:RelDs K H0 vs xs):ItD K H0 (Itt K a) xs (fun _=>True):=fun i H M x m k=>by
 have ht':=x.tup _ _ ht;have r':=r.ext x;refine⟨fun hl=>⟨vs,vs[i]'(by rw[r.length];exact hl),ht',by simp[r.length,hl]⟩,fun hl=>⟨vs,ht',by rw[r.length];exact hl⟩,fun y H' hq2=>?_⟩;obtain⟨e1,e2⟩:=hq2;subst e1;refine⟨.refl _,m,fun d hd=>?_⟩;obtain⟨v,h1,h2⟩:=r'.get hd;rw[e2 vs ht'] at h1;cases h1;exact h2
theorem Ik (hl:PE X l (lift (X.L rz Xe) te)):PI X tg l (Xt (X.L rz Xe) (Yu te)):=by
 rintro pins s σ H R I ⟨δ,M,Rd,rs,rm,t,q⟩;refine thn (hl pins s σ H (fun x H1=>(∃ a xs,x=.ref a/\SqL X.K H1 a xs/\R (Itl X.K a) H1)\/(∃ a xs,x=.ref a/\SqT X.K H1 a xs/\R (Itt X.K a) H1)) I ⟨δ,M,_,rs,rm,t,fun d M1 v H1 x1 m1 r1 h1=>?_⟩) fun v s1 ⟨x,H1,I1,r1,q1⟩=>?_
 ·cases r1 with
  | lst a =>
   obtain⟨xs,e0,h1⟩:=h1;obtain⟨vs,e,r⟩:=m1 _ _ e0;exact .inl ⟨a,vs,rfl,.of e,q _ _ _ _ _ x1 m1 e0 DY h1⟩
  | fz ht r=>exact .inl ⟨_,_,rfl,ht.sq,q _ _ _ _ _ x1 m1 trivial (HW ht r) h1⟩
  | tup ht r=>exact .inr ⟨_,_,rfl,ht,q _ _ _ _ _ x1 m1 trivial (FI ht r) h1⟩
  | _=>exact (show False from h1).elim
 ·rcases q1 with ⟨a,xs,e,hq,q⟩|⟨a,xs,e,hq,q⟩
  ·subst e
   (first|cases (show _=_ from r1.inv)|cases r1)
   obtain⟨its,rv,p,hz⟩:=I1.list hq;refine wpAny_pyIter_list p.isList ?_;refine⟨s1.heap.objs.size,[s1.heap.objs.size],_,_,H1,rfl,I1.kept (t':=s1.toks) fun b o e=>Heap.get?_push_of_some _ e,By a _,⟨_,Heap.get?_push_size _ rfl,rfl,rfl⟩,fun b hb=>?_,q⟩;have e:b=s1.heap.objs.size:=by simpa using hb
   subst e;exact I1.fpOk %[|3] (I1.hok.fresh %[|3])
  ·subst e
   (first|cases (show _=_ from r1.inv)|cases r1)
   obtain⟨its,rv,p,hz⟩:=I1.tuple hq;refine wpAny_pyIter_tuple (show s1.heap.IsTuple a its.toArray from p) ?_;refine⟨s1.heap.objs.size,[s1.heap.objs.size],_,_,H1,rfl,I1.kept (t':=s1.toks) fun b o e=>Heap.get?_push_of_some _ e,A5 a _,⟨_,Heap.get?_push_size _ rfl,rfl,rfl⟩,fun b hb=>?_,q⟩;have e:b=s1.heap.objs.size:=by simpa using hb
   subst e;exact I1.fpOk %[|3] (I1.hok.fresh %[|3])
end
noncomputable def Itr3 (lo c:Int) (n:Nat):It:=⟨fun i _=>i<n,fun i H x H'=>H'=H/\x=.int (lo+i*c),fun i _=>n<=i⟩
theorem Jm {P:Program} {w:World} {K:Frag} {tg:Expr} (it:Addr) (lo c:Int) (n:Nat):Turn P w K tg (Itr3 lo c n) [it] it (fun i h=>IsRangeIter h it (lo+(i:Nat)*c) ((n:Int)-(i:Nat)) c) where
 mem:=by simp
 obj:=fun i h st b hb=>by
  have e:b=it:=by simpa using hb
  subst e;exact⟨_,st,fun v z=>by
   have z':Data.fields _=Data.cell v:=z;cases z'⟩
 keep:=fun i h h' st k=>k it (by simp) _ st
 item:=by
  intro X hP hw hK hc i pins s σ H E I hf st hg;subst hP hw hK;obtain⟨f0,f1,f2,f3,f4,f5⟩:=hf it (by simp);have W:=Walks.range (prog:=X.prog) (w:=X.w) (I.ok.hd hc) it lo c n;refine W.item i s _ _ hg st fun v h' tk hv st' kk=>?_;obtain⟨t,rfl⟩:=hv;have I1:L2.Inv X pins σ H {s with heap:=h',toks:=tk}:=I.turned (fun b o hb e=>kk b o (by simpa using hb) e) f0 f1 f3 f4 f5;exact⟨_,rfl,Bc (s:={s with heap:=h',toks:=tk}) (n:="range_iterator") st' rfl rfl %[|4] ⟨.int (lo+i*c),H,I1,⟨t,rfl⟩,⟨rfl,rfl⟩,st',fun b hb=>(hf b hb).1⟩⟩
 done:=by
  intro X hP hw hK hc i pins s σ H E I hf st hg;subst hP hw hK;obtain⟨f0,f1,f2,f3,f4,f5⟩:=hf it (by simp);exact wpAny_pyNext_range_end (I.ok.hd hc) st (by have:n<=i:=hg;omega) fun h' eb=>⟨rfl,I.turned (t':=s.toks) (fun b o hb e=>eb b o hb e) f0 f1 f3 f4 f5⟩
 self:=fun _ _ _ _ _ st h=>wpAny_pyIter_rangeiter st h
noncomputable def rngD (lo c:Int) (n:Nat):List D:=(List.range n).map fun i=>.int (lo+(i:Nat)*c)
noncomputable def rngN (i j c:Int):Nat:=(Builtin.Range.rangeSize i j c).toNat
noncomputable def GI:List D->Mem->(List D->(Mem->Prop)->Mem->Prop)->Prop
 | [.int j],M,R=>(-(2 ^ 62)<=j/\j<2 ^ 62)/\R (rngD 0 1 j.toNat) (fun _=>True) M
 | [.int i,.int j],M,R=>(-(2 ^ 62)<=i/\i<2 ^ 62/\-(2 ^ 62)<=j/\j<2 ^ 62)/\R (rngD i 1 (j-i).toNat) (fun _=>True) M
 | [.int i,.int j,.int c],M,R=>UH c/\Builtin.Range.small i j c=true/\0<=Builtin.Range.rangeSize i j c/\R (rngD i c (rngN i j c)) (fun _=>True) M
 | _,_,_=>False
noncomputable def YI (ta:DA):DI:=fun δ M R=>ta δ M fun ds M1=>GI ds M1 R
theorem JM {K:Frag} {H0:Hp} {lo c:Int} {n:Nat}:ItD K H0 (Itr3 lo c n) (rngD lo c n) (fun _=>True):=fun i H M x m k=>by
 have hl:(rngD lo c n).length=n:=by simp[rngD]
 rw[hl];refine⟨fun h=>h,fun h=>h,fun y H' hq2=>?_⟩;obtain⟨e1,e2⟩:=hq2;subst e1 e2;refine⟨.refl _,m,fun d hd=>?_⟩;unfold rngD at hd;rw[List.getElem?_map] at hd;cases q:(List.range n)[i]? with
 | none=>rw [q] at hd;cases hd
 | some j =>
  rw[q] at hd;have hj:j=i:=by
   obtain⟨h1,h2⟩:=List.getElem?_eq_some_iff.mp q
   simpa using h2.symm
  subst hj;cases hd;exact .int _
theorem B9 {K:Frag} {H0:Hp} {lo:Int} {n:Nat}:ItD K H0 (Itr lo n) (rngD lo 1 n) (fun _=>True):=fun i H M x m k=>by
 obtain⟨a,b,c⟩:=JM (K:=K) (H0:=H0) (lo:=lo) (c:=1) (n:=n) i H M x m k;refine⟨a,b,fun y H' ⟨e1,e2⟩=>c y H' ⟨e1,?_⟩⟩;rw[Int.mul_one];exact e2
theorem XV {K:Frag} {H:Hp} {vs:List V}:∀ {ns:List Int},RelDs K H vs (ns.map D.int)->vs=ns.map V.int
 | [],r=>by cases r;rfl
 | _::_,r=>by cases r with|cons h q=>cases h;exact congrArg _ (XV q)
section
variable {X:Cx} {rz:Bool} {Xe:DSt->DK} {tg:Expr} {pos:Pos}
theorem BG {pins:List (Addr×Obj)} {σ:L2.St} {H:Hp} {s:Shared} {R:It->Hp->Prop} {E:Value->Shared->Prop} {lo hi c:Int} {t u v:Tok} {tk:Nat} (I:L2.Inv X pins σ H s) (hs:Builtin.Range.small lo hi c=true) (hn:0<=Builtin.Range.rangeSize lo hi c)
  (q:R (Itr3 lo c (rngN lo hi c)) H):wpAny (model X.prog X.w) X.A (pyIter (.ref s.heap.objs.size)) (PIE X pins σ tg R) E {s with heap:=s.heap.push {cls:=.type "range",data:=.fields #[.int lo t,.int hi u,.int c v]},toks:=tk}:=by
 refine wpAny_pyIter_range (IsRange.new ..) hs ?_;have I1:L2.Inv X pins σ H {s with heap:=s.heap.push {cls:=.type "range",data:=.fields #[.int lo t,.int hi u,.int c v]},toks:=tk}:=I.kept fun b o e=>Heap.get?_push_of_some _ e;refine⟨(s.heap.push {cls:=.type "range",data:=.fields #[.int lo t,.int hi u,.int c v]}).objs.size,[(s.heap.push {cls:=.type "range",data:=.fields #[.int lo t,.int hi u,.int c v]}).objs.size],_,_,H,rfl,
  I1.kept (t':=tk) fun b o e=>Heap.get?_push_of_some _ e,Jm _ lo c (rngN lo hi c),?_,fun b hb=>?_,q⟩
 ·have e1:lo+((0:Nat):Int)*c=lo:=by simp
  have e2:((rngN lo hi c:Nat):Int)-((0:Nat):Int)=Builtin.Range.rangeSize lo hi c:=by unfold rngN;omega
  show IsRangeIter _ _ (lo+((0:Nat):Int)*c) (((rngN lo hi c:Nat):Int)-((0:Nat):Int)) c;rw[e1,e2];exact Heap.get?_push_size _ rfl
 ·have e:b=(s.heap.push {cls:=.type "range",data:=.fields #[.int lo t,.int hi u,.int c v]}).objs.size:=by simpa using hb
  subst e;exact I1.fpOk %[|3] (I1.hok.fresh %[|3])
theorem Il {a:Expr} {es:List Expr} {ta:DA} {p:Pos} (hg:Gl X "range") (hm:X.mg "range"=none) (ha:PA X (a::es) (ZX (X.L rz Xe) ta)) (hs:starEach (a::es) X.env=(false,eval a X.env)::starEach es X.env) (hpl:(backTo pos (starEach es X.env)).any (·.1)=false) :
  PI X tg (.Call (.Name "range" p) (a::es) [] pos) (Xt (X.L rz Xe) (YI ta)):=by
 rintro pins s σ H R I ⟨δ,M,Rd,rs,rm,t,q⟩;refine Call_ (Wi I hg hm boot_range (PyProof.Rows.callWith_type1 (thn (ha pos pins s σ H (fun vs H1=>(∃ j:Int,vs=[.int j]/\-(2 ^ 62)<=j/\j<2 ^ 62/\R (Itr 0 j.toNat) H1)\/(∃ i j:Int,vs=[.int i,.int j]/\(-(2 ^ 62)<=i/\i<2 ^ 62/\-(2 ^ 62)<=j/\j<2 ^ 62)/\R (Itr i (j-i).toNat) H1) \/
  (∃ i j c:Int,vs=[.int i,.int j,.int c]/\(UH c/\Builtin.Range.small i j c=true/\0<=Builtin.Range.rangeSize i j c)/\R (Itr3 i c (rngN i j c)) H1)) I ⟨δ,M,_,rs,rm,t,fun ds M1 vs H1 x1 m1 r1 h1=>?_⟩) fun us s1 ⟨vs,H1,I1,r1,q1⟩=>?_) hs hpl))
 ·unfold GI at h1
  split at h1
  ·rename_i j;cases XV (ns:=[j]) r1;exact .inl ⟨_,rfl,h1.1.1,h1.1.2,q _ _ _ _ _ x1 m1 trivial B9 h1.2⟩
  ·rename_i i j;cases XV (ns:=[i,j]) r1;exact .inr (.inl ⟨_,_,rfl,h1.1,q _ _ _ _ _ x1 m1 trivial B9 h1.2⟩)
  ·rename_i i j c;cases XV (ns:=[i,j,c]) r1;exact .inr (.inr ⟨_,_,_,rfl,⟨h1.1,h1.2.1,h1.2.2.1⟩,q _ _ _ _ _ x1 m1 trivial JM h1.2.2.2⟩)
  ·exact h1.elim
 ·rcases q1 with ⟨j,e,q1,q2,q⟩|⟨i,j,e,⟨q1,q2,q3,q4⟩,q⟩|⟨i,j,c,e,⟨q1,q2,q3⟩,q⟩
  ·subst e
   cases r1 with
   | cons r rr =>
    cases rr;obtain⟨t,rfl⟩:=r;exact call_range_1 (JA I1 %[|5] %[|5] q1 q2 (by simpa using q))
  ·subst e
   cases r1 with
   | cons r rr =>
    cases rr with
    | cons r' rr =>
     cases rr;obtain⟨t,rfl⟩:=r;obtain⟨t',rfl⟩:=r';exact call_range_2 (JA I1 q1 q2 q3 q4 q)
  ·subst e
   cases r1 with
   | cons r rr =>
    cases rr with
    | cons r' rr =>
     cases rr with
     | cons r'' rr =>
      cases rr;obtain⟨t,rfl⟩:=r;obtain⟨t',rfl⟩:=r';obtain⟨t'',rfl⟩:=r'';exact call_range_3 q1.1 (BG I1 q2 q3 q) (.inl (PyProof.noPylong_of_log2 q1.2))
end
section
variable {prog:Program} {w:World} {A:Around} {E:Value->Shared->Prop}
end
section
variable {X:Cx} {rz:Bool} {Xe:DSt->DK} {es:List Expr} {gs:DGs} {pos:Pos}
end
end DL
end
noncomputable section
namespace DL
open PySem PySem.Spec PyProof.Rows L2
noncomputable def clos (cells:List (Str×Addr)):List (Str×NameKind)->List (Str×Addr)->List (Str×Addr)
 | [],cs=>cs
 | (n,k)::r,cs=>if (k==.free)=true then clos cells r ((n,(cells.lookup n).getD 0)::cs) else clos cells r cs
theorem Ve (h:∀ x∈scope.names,x.2=.free->∃ c,env.cells.lookup x.1=some c):closureFor scope env=pure (clos env.cells scope.names []):=by
 simp only[closureFor];generalize ([]:List (Str×Addr))=cs;generalize scope.names=names at h;have key:∀ (names:List (Str×NameKind)) (cs:List (Str×Addr)),(∀ x∈names,x.2=.free->∃ c,env.cells.lookup x.1=some c) ->
   (forIn names cs fun x r=>(if (x.2==NameKind.free)=true then do let a <- cellOf env x.1;pure (ForInStep.yield ((x.1,a)::r)) else pure (ForInStep.yield r)):Sem (List (Str×Addr)))=pure (clos env.cells names cs):=by
  intro names
  induction names with
  | nil=>intro cs _;rfl
  | cons x l ih =>
   intro cs h;obtain⟨n,k⟩:=x;rw[List.forIn_cons];by_cases hk:(k==NameKind.free)=true
   ·obtain⟨c,hc⟩:=h (n,k) List.mem_cons_self (by simpa using hk)
    have hcell:cellOf env n=pure c:=by unfold cellOf;rw[hc]
    rw[if_pos hk,hcell];simp only[pure_bind];rw[ih _ fun y hy=>h y (List.mem_cons_of_mem _ hy)];have:clos env.cells ((n,k)::l) cs=clos env.cells l ((n,c)::cs):=by
     conv=>lhs;unfold clos
     rw[if_pos hk,hc];rfl
    rw[this]
   ·rw[if_neg hk]
    simp only[pure_bind];rw[ih _ fun y hy=>h y (List.mem_cons_of_mem _ hy)]
    conv=>rhs;unfold clos
    rw[if_neg hk]
 have:=key names cs h
 first
  | exact (by simpa using this)
  | (rw [<- this];rfl)
theorem U3:∀ {names:List (Str×NameKind)} {cs:List (Str×Addr)},(∀ x∈names,x.2=.free->∃ c,cells.lookup x.1=some c)->(∀ x c,cs.lookup x=some c->cells.lookup x=some c) ->
  ∀ x c,(clos cells names cs).lookup x=some c->cells.lookup x=some c
 | [],_,_,h,x,c,e=>h x c e
 | (n,k)::r,cs,hn,h,x,c,e=>by
  unfold clos at e;by_cases hk:(k==NameKind.free)=true
  ·rw[if_pos hk] at e
   obtain⟨c0,hc0⟩:=hn (n,k) List.mem_cons_self (by simpa using hk);refine U3 (fun y hy=>hn y (List.mem_cons_of_mem _ hy)) (fun y d q=>?_) x c e;rw[List.lookup_cons] at q;cases hy:y==n with
   | true=>rw [hy] at q;rw[eq_of_beq hy,hc0];rw[hc0] at q;exact q
   | false=>rw [hy] at q;exact h y d q
  ·rw[if_neg hk] at e
   exact U3 (fun y hy=>hn y (List.mem_cons_of_mem _ hy)) h x c e
theorem WD:∀ {names:List (Str×NameKind)} {cs:List (Str×Addr)} {x:Str},((∃ c,cs.lookup x=some c)\/(x,NameKind.free)∈names)->∃ c,(clos cells names cs).lookup x=some c
 | [],_,_,h=>by
  rcases h with h|h
  ·exact h
  ·cases h
 | (n,k)::r,cs,x,h=>by
  unfold clos;by_cases hk:(k==NameKind.free)=true
  ·rw[if_pos hk]
   refine WD ?_;cases hx:x==n with
   | true=>exact .inl ⟨_,by rw[List.lookup_cons,hx]⟩
   | false =>
    rcases h with ⟨c,h⟩|h
    ·exact .inl ⟨c,by rw[List.lookup_cons,hx];exact h⟩
    ·rcases List.mem_cons.mp h with h|h
     ·cases h;simp at hx
     ·exact .inr h
  ·rw[if_neg hk]
   refine WD ?_;rcases h with h|h
   ·exact .inl h
   ·rcases List.mem_cons.mp h with h|h
    ·cases h;simp at hk
    ·exact .inr h
theorem YV {env:Env}:∀ {names:List (Str×NameKind)} {x:Str} {k:NameKind},
  (names.map fun (n,k)=>if (k==NameKind.free&&env.scope.kind==.function&&env.kindOf n==some .cell) then (n,NameKind.cell) else (n,k)).lookup x=some k ->
  ∃ k',names.lookup x=some k'/\(k=k'\/(k'=.free/\k=.cell))
 | [],_,_,h=>by simp at h
 | (n,k0)::r,x,k,h=>by
  have ih:=@YV env r x k;simp only[List.map_cons] at h;by_cases hc:(k0==NameKind.free&&env.scope.kind==.function&&env.kindOf n==some .cell)=true
  ·rw[if_pos hc] at h
   rw[List.lookup_cons] at h ⊢;cases hx:x==n with
   | true =>
    simp only[hx] at h;cases h;simp only[Bool.and_eq_true,beq_iff_eq] at hc;exact⟨k0,rfl,.inr ⟨hc.1.1,rfl⟩⟩
   | false=>simp only[hx] at h;exact ih h
  ·rw[if_neg hc] at h
   rw[List.lookup_cons] at h ⊢;cases hx:x==n with
   | true=>simp only[hx] at h;cases h;exact⟨k0,rfl,.inl rfl⟩
   | false=>simp only[hx] at h;exact ih h
structure BlkOk (N:List Str) (env:Env) (N':List Str) (scope:Scope):Prop where
 kind:scope.kind=.function
 cell:∀ y∈scope.names,y.2≠.cell
 names:∀ y∈scope.names,y.2=.local->scope.names.lookup y.1=some .local
 free:∀ y∈scope.names,y.2=.free->env.kindOf y.1=some .cell\/env.kindOf y.1=some .free
 agree:∀ i x,i<N.length->N'[i]?=some x->∀ k,scope.names.lookup x=some k->k=.globalImplicit\/k=.globalExplicit\/(k=.free/\N[i]?=some x)
 long:N.length<=N'.length
noncomputable def Yw (X:Cx) (N':List Str) (scope:Scope) (cl:List (Str×Addr)) (C:Addr) (s:Shared) (H:Hp) (ex:List Addr) (pn:List (Addr×Obj)):Cx :=
 {X with N:=N',s₀:=s,H₀:=H,env:=compEnvC scope cl C X.env,outer:=X.stack,stack:=X.stack,ex:=ex,fn:=fun _=>false,pn:=pn,xe:=fun _ _=>False}
section
variable {X:Cx} {rz:Bool} {Xe:DSt->DK} {pins:List (Addr×Obj)} {σ:L2.St} {H:Hp} {s:Shared} {N':List Str} {scope:Scope} {fp:List Addr}
theorem Ch (I:L2.Inv X pins σ H s) (B:BlkOk X.N X.env N' scope) (hf:∀ b∈fp,FpOk X pins H b) (hflt:∀ b∈fp,b<s.heap.objs.size)
  (hns:h1.Ns s.heap.objs.size (fun x=>([]:List (Str×Value)).reverse.lookup x)) (hk:∀ b o,s.heap.get? b=some o->h1.get? b=some o) :
  L2.Inv (Yw X N' scope (clos X.env.cells scope.names []) s.heap.objs.size s H fp []) [] (σ++List.replicate (N'.length-X.N.length) none) H {s with heap:=h1,toks:=tk}:=by
 have hcells:∀ x∈scope.names,x.2=.free->∃ c,X.env.cells.lookup x.1=some c:=fun x hx e=>I.ok.has x.1 (B.free x hx e);have csub:=U3 (cells:=X.env.cells) (names:=scope.names) (cs:=[]) hcells (fun x c e=>by simp at e);have noC:∀ x c,X.env.cells.lookup x=some c->c<s.heap.objs.size:=fun x c e=>by obtain⟨v,q⟩:=I.cell x c e;exact q.lt
 refine⟨⟨I.ok.mod,?_,I.ok.glob,I.ok.blt,Nat.le_refl _,fun x y c e1 e2=>I.ok.inj x y c (csub x c e1) (csub y c e2),fun x hx=>?_,fun x c e=>(by cases e),I.ok.hd,I.ok.frames,.inl rfl,fun b hb=>⟨Nat.ne_of_lt (hflt b hb),fun x c e=>(hf b hb).2.2.2.2.1 x c (csub x c e)⟩,
  I.bs,Nat.le_trans I.ok.bsz I.sz,fun b o e hb=>?_,fun b hb z=>?_,I.stack,I.stkFree⟩,rfl,I.bare,Un.kept hk,⟨_,hns,fun i x v e1 e2 e3=>?_⟩,fun x c e=>?_,I.hok.fresh %[|3],fun x c e=>I.freeC x c (csub x c e),fun p hp=>absurd (show p∈([]:List (Addr×Obj)) from hp) (by simp),I.hok.kept hk,?_⟩
 ·show (relabel scope X.env).kind=.function
  exact B.kind
 ·
  have hx':(relabel scope X.env).names.lookup x=some .cell\/(relabel scope X.env).names.lookup x=some .free:=hx;have fin:(x,NameKind.free)∈scope.names->∃ c,(clos X.env.cells scope.names []).lookup x=some c:=fun z=>WD (.inr z);rcases hx' with z|z
  ·obtain⟨k',e1,e2⟩:=YV z
   have hm:=PySem.mem_of_lookup e1;rcases e2 with e2|⟨e2,_⟩
   ·subst e2;exact absurd rfl (B.cell _ hm)
   ·subst e2;exact fin hm
  ·obtain⟨k',e1,e2⟩:=YV z
   have hm:=PySem.mem_of_lookup e1;rcases e2 with e2|⟨_,e2⟩
   ·subst e2;exact fin hm
   ·cases e2
 ·
  obtain⟨_,_,_,z,_⟩:=hf b hb;rcases z with z|z
  ·exact I.ok.noex b o e z
  ·exact absurd (Nat.lt_of_lt_of_le (Heap.lt_size e) I.ok.bsz) (Nat.not_lt.mpr z)
 ·obtain⟨_,z1,z2,_⟩:=hf b hb
  rcases List.mem_cons.mp (I.stkSub b z) with q|q
  ·exact z1 q
  ·exact z2 q
 ·
  have e3':(relabel scope X.env).names.lookup x=some .local\/(relabel scope X.env).names.lookup x=some .cell\/(relabel scope X.env).names.lookup x=some .free:=e3;have hi:i < σ.length:=by
   by_cases hi:i < σ.length
   ·exact hi
   ·rw[List.getElem?_append_right %[|5],List.getElem?_replicate] at e2
    split at e2<;>cases e2
  rw[List.getElem?_append_left hi] at e2;have hiN:i<X.N.length:=by rw[<- I.len];exact hi
  obtain⟨k',q1,q2⟩:∃ k',scope.names.lookup x=some k'/\(k'=.local\/k'=.cell\/k'=.free):=by
   rcases e3' with z|z|z
   all_goals
    obtain⟨k',e1,e2⟩:=YV z;rcases e2 with e2|⟨e2,e4⟩
    ·exact⟨k',e1,by rw[<- e2];simp⟩
    ·exact⟨k',e1,by rw[e2];simp⟩
  obtain⟨hfree,hN⟩:k'=.free/\X.N[i]?=some x:=by
   rcases B.agree i x hiN e1 k' q1 with z|z|z
   ·subst z;simp at q2
   ·subst z;simp at q2
   ·exact z
  subst hfree;have hout:=B.free (x,.free) (PySem.mem_of_lookup q1) rfl;obtain⟨m,hn,hl⟩:=I.loc;have vis:Vis X.env.scope x:=by rcases hout with z|z;exact .inr (.inl z);exact .inr (.inr z)
  obtain⟨u,r,l⟩:=hl i x v hN e2 vis;refine⟨u,r,?_⟩;rcases l with ⟨hkk,_⟩|⟨_,c,hc,hcell⟩
  ·exfalso
   rcases hout with z|z
   ·rw[show X.env.kindOf x=some .cell from z] at hkk;cases hkk
   ·rw[show X.env.kindOf x=some .free from z] at hkk;cases hkk
  ·obtain⟨c',hc'⟩:=WD (cells:=X.env.cells) (names:=scope.names) (cs:=[]) (.inr (PySem.mem_of_lookup q1))
   have:=csub x c' hc';rw[hc] at this;cases this;refine .inr ⟨?_,c,hc',(let ⟨o,e1,e2⟩:=hcell;⟨o,hk _ o e1,e2⟩)⟩;rcases e3' with z|z|z
   ·obtain⟨k',e1,e2⟩:=YV z
    rw[q1] at e1;cases e1;rcases e2 with e2|⟨_,e2⟩<;>cases e2
   ·exact .inl z
   ·exact .inr z
 ·obtain⟨v,q⟩:=I.cell x c (csub x c e)
  exact⟨v,let ⟨o,e1,e2⟩:=q;⟨o,hk _ o e1,e2⟩⟩
 ·show (σ++List.replicate (N'.length-X.N.length) none).length=N'.length
  rw[List.length_append,List.length_replicate,I.len];have:=B.long;omega
noncomputable def X9 (g:DG) (te:DE) (keep:Mem->Prop) (p:Addr):List D->List D->DSt->Mem->(Mem->Prop)->Prop
 | [],_,_,M,Q=>Q M
 | x::xs,acc,δ,M,Q=>g x δ M fun δ1 M1=>te δ1 M1 fun d M2=>M2 p=some (.ls acc)/\acc.length<sizeLine/\keep (M2.upd p (.ls (acc++[d])))/\X9 g te keep p xs (acc++[d]) δ1 (M2.upd p (.ls (acc++[d]))) Q
noncomputable def YO (n:Nat) (ti:DI) (g:DG) (te:DE):DE:=fun δ M Q=>ti δ M fun items keep M1=>∀ p,M1 p=none ->
 keep (M1.upd p (.ls []))/\X9 g te keep p items [] (δ++List.replicate n none) (M1.upd p (.ls [])) fun M2=>(∃ ds,M2 p=some (.ls ds))/\Q (.lst p) M2
theorem Slots.more {K:Frag} {H:Hp} {δ:DSt} {σ:L2.St} (r:Slots K H δ σ) (n:Nat):Slots K H (δ++List.replicate n none) (σ++List.replicate n none):=by
 refine⟨by simp[r.len],fun i d e=>?_⟩;by_cases hi:i < δ.length
 ·rw[List.getElem?_append_left hi] at e
  obtain⟨v,h1,h2⟩:=r.slot i d e;exact⟨v,by rw[List.getElem?_append_left (by rw[<- r.len];exact hi)];exact h1,h2⟩
 ·rw[List.getElem?_append_right %[|5],List.getElem?_replicate] at e
  split at e<;>cases e
end
end DL
end
noncomputable section
namespace DL
open PySem PySem.Spec PyProof.Rows L2
abbrev DB:=DSt->Mem->(DSt->Mem->Prop)->Prop
abbrev BW:=Program->World->Around->(Shared->Prop)->Shared->Prop
noncomputable def Kl (Λ:LK) (b:DB) (σ:L2.St) (H:Hp) (Q:L2.St->Hp->Prop):Prop:=∃ δ M R,RepS Λ H δ σ/\RepM Λ.K H M/\b δ M R/\∀ δ' M' σ' H',HExt Λ.K H H'->RepS Λ H' δ' σ'->RepM Λ.K H' M'->R δ' M'->Q σ' H'
noncomputable def PB (Y:Cx) (W:BW) (b:DB):Prop:=∀ (pins:List (Addr×Obj)) (s:Shared) (σ:L2.St) (H:Hp) (Q:L2.St->Hp->Prop),L2.Inv Y pins σ H s->Kl (Y.L false X0) b σ H Q ->
 W Y.prog Y.w Y.A (fun s'=>∃ σ' H',L2.Inv Y pins σ' H' s'/\Q σ' H') s
noncomputable def Wa (g:DG) (b:DB) (keep:Mem->Prop):List D->DB
 | []=>fun δ M Q=>Q δ M
 | x::xs=>fun δ M Q=>g x δ M fun δ1 M1=>b δ1 M1 fun δ2 M2=>keep M2/\Wa g b keep xs δ2 M2 Q
noncomputable def XR (te:DE) (p:Addr):DB:=fun δ M Q=>te δ M fun d M2=>∃ acc,M2 p=some (.ls acc)/\acc.length<sizeLine/\Q δ (M2.upd p (.ls (acc++[d])))
noncomputable def bIf (tt:DT) (b:Addr->DB) (p:Addr):DB:=fun δ M Q=>tt δ M fun k M1=>if k=true then b p δ M1 Q else Q δ M1
noncomputable def XN (n:Nat) (ti:DI) (g:DG) (b:Addr->DB):DE:=fun δ M Q=>ti δ M fun items keep M1=>∀ p,M1 p=none ->
 keep (M1.upd p (.ls []))/\Wa g (b p) keep items (δ++List.replicate n none) (M1.upd p (.ls [])) fun _ M2=>(∃ ds,M2 p=some (.ls ds))/\Q (.lst p) M2
noncomputable def WB (elt:Expr) (acc:Value) (env:Env):BW:=fun prog w A Q s=>wpAny (model prog w) A (eval elt env) (fun x s1=>wpAny (model prog w) A (call (.builtin "list.append") [acc,x]) (fun _ s2=>Q s2) (fun _ _=>False) s1) (fun _ _=>False) s
noncomputable def ifW (c:Expr) (env:Env) (b:BW):BW:=fun prog w A Q s=>wpAny (model prog w) A (isTrue c env (eval c env)) (fun ok s1=>if ok=true then b prog w A Q s1 else Q s1) (fun _ _=>False) s
noncomputable def Wl (e target:Expr) (d:Nat) (it acc:Value) (env:Env) (body:BW):Prop:=∀ {prog:Program} {w:World} {A:Around} {R:Fin->Shared->Prop} {s:Shared},
 wpAny (model prog w) A (pyNext it) (fun r s₁=>match r with
   | none=>R (.done .next) s₁
   | some v=>wpAny (model prog w) A (letOwnedTupleGo target it v) (fun _ s₂=>wpAny (model prog w) A (assign target env v) (fun _ s₃=>body prog w A (fun s₄=>R (.again (.compLoop e d it acc env)) s₄) s₃) (fun _ _=>False) s₂) (fun _ _=>False) s₁) (fun _ _=>False) s ->
 wpAny (model prog w) A (compTurn e d it acc env) R (fun _ _=>False) s
theorem AO:Wl (.ListComp elt [⟨target,iter,[c],0⟩] scope pos) target 0 it acc env (ifW c env (WB elt acc env)):=by
 intro prog w A R s h;rw[compTurn_list];refine wpAny_bind (wpAny_standAt (wpAny_bind (wpAny_mono h (fun r s₁ h₁=>?_) fun _ _ h'=>h'.elim)));cases r with
 | none=>exact wpAny_pure h₁
 | some v =>
  refine wpAny_bind (wpAny_mono h₁ (fun _ s₂ h₂=>?_) fun _ _ h'=>h'.elim);refine wpAny_bind (wpAny_mono h₂ (fun _ s₃ h₃=>?_) fun _ _ h'=>h'.elim);refine wpAny_bind (wpAny_tests_one (wpAny_mono h₃ (fun ok s₄ h₄=>?_) fun _ _ h'=>h'.elim));cases ok with
  | false=>exact wpAny_pure h₄
  | true=>exact wpAny_bind (wpAny_bind (wpAny_mono h₄ (fun x s₅ h₅=>wpAny_bind (wpAny_mono h₅ (fun _ s₆ h₆=>wpAny_pure (wpAny_pure h₆)) fun _ _ h'=>h'.elim)) fun _ _ h'=>h'.elim))
theorem DP
  (ht:Wl (.ListComp elt gs scope pos) target d it acc env body) (I:Nat->Shared->Prop)
  (turn:∀ n s,I n s->wpAny (model prog w) A (pyNext it) (fun r s₁=>match r with
   | none=>R (.ok .next) s₁
   | some v=>wpAny (model prog w) A (letOwnedTupleGo target it v) (fun _ s₂=>wpAny (model prog w) A (assign target env v) (fun _ s₃=>body prog w A (fun s₄=>∃ m,m<n/\I m s₄) s₃) (fun _ _=>False) s₂) (fun _ _=>False) s₁) (fun _ _=>False) s)
  (mono:∀ (A:Around) (Q Q':Shared->Prop) s,(∀ s',Q s'->Q' s')->body prog w A Q s->body prog w A Q' s)
  (n:Nat) (h:I n s):codeAny (model prog w) A (.compLoop (.ListComp elt gs scope pos) d it acc env) R s:=by
 refine codeAny_loop rfl I (fun n s hI=>?_) n h;show wpAny _ _ ((compTurn (.ListComp elt gs scope pos) d it acc env).onRaise (fun x=>do noteFrame x env;theTreesLotGoes x)) _ _ s;refine wpAny_noted (wpAny_mono (ht (R:=fun fin s'=>match fin with | .done f=>R (.ok f) s' | .again c'=>c'=.compLoop (.ListComp elt gs scope pos) d it acc env/\∃ m,m<n/\I m s') (wpAny_mono (turn n s hI) (fun r s₁ h₁=>?_) fun _ _ h'=>h'.elim)) (fun _ _ q=>q) fun _ _ h'=>h'.elim);cases r with
 | none=>exact h₁
 | some v=>exact wpAny_mono h₁ (fun _ s₂ h₂=>wpAny_mono h₂ (fun _ s₃ h₃=>mono _ _ _ _ (fun s' q=>⟨rfl,q⟩) h₃) fun _ _ h'=>h'.elim) fun _ _ h'=>h'.elim
theorem Xq (A:Around) (Q Q':Shared->Prop) (s) (hq:∀ s',Q s'->Q' s') (h:WB elt acc env prog w A Q s):WB elt acc env prog w A Q' s :=
 wpAny_mono h (fun _ _ h1=>wpAny_mono h1 (fun _ _ h2=>hq _ h2) fun _ _ h'=>h') fun _ _ h'=>h'
theorem JO (hb:∀ (A:Around) (Q Q':Shared->Prop) s,(∀ s',Q s'->Q' s')->b prog w A Q s->b prog w A Q' s) (A:Around) (Q Q':Shared->Prop) (s) (hq:∀ s',Q s'->Q' s') (h:ifW c env b prog w A Q s):ifW c env b prog w A Q' s :=
 wpAny_mono h (fun k s1 h1=>by
  cases k with
  | true=>exact hb _ _ _ _ hq h1
  | false=>exact hq _ h1) fun _ _ h'=>h'
theorem Jn:Wl (.ListComp elt [⟨target,iter,[],0⟩] scope pos) target 0 it acc env (WB elt acc env):=by
 intro prog w A R s h;rw[compTurn_list1];refine wpAny_bind (wpAny_standAt (wpAny_bind (wpAny_mono h (fun r s₁ h₁=>?_) fun _ _ h'=>h'.elim)));cases r with
 | none=>exact wpAny_pure h₁
 | some v =>
  refine wpAny_bind (wpAny_mono h₁ (fun _ s₂ h₂=>?_) fun _ _ h'=>h'.elim);exact wpAny_bind (wpAny_mono h₂ (fun _ s₃ h₃=>wpAny_bind (wpAny_bind (wpAny_mono h₃ (fun x s₅ h₅=>wpAny_bind (wpAny_mono h₅ (fun _ s₆ h₆=>wpAny_pure (wpAny_pure h₆)) fun _ _ h'=>h'.elim)) fun _ _ h'=>h'.elim))) fun _ _ h'=>h'.elim)
noncomputable def gUp (g:DG):DG:=fun x δ M Q=>∃ R,g x δ M R/\∀ δ1 M1,R δ1 M1->Q δ1 M1
noncomputable def iUp (ti:DI):DI:=fun δ M R=>∃ R0,ti δ M R0/\∀ items keep M1,R0 items keep M1->R items keep M1
noncomputable def eUp (te:DE):DE:=fun δ M Q=>∃ R,te δ M R/\∀ d M1,R d M1->Q d M1
theorem Uz:∀ {items acc:List D} {δ:DSt} {M:Mem},X9 g te keep p items acc δ M Q->Wa (gUp g) (XR (eUp te) p) keep items δ M fun _ M2=>Q M2
 | [],_,_,_,h=>h
 | x::xs,acc,δ,M,h=>⟨_,h,fun δ1 M1 h1=>⟨_,h1,fun d M2 h2=>⟨acc,h2.1,h2.2.1,h2.2.2.1,Uz h2.2.2.2⟩⟩⟩
theorem JY (h:YO n ti g te δ M Q):XN n (iUp ti) (gUp g) (XR (eUp te)) δ M Q :=
 ⟨_,h,fun items keep M1 h1 p hp=>⟨(h1 p hp).1,Uz (h1 p hp).2⟩⟩
theorem DQ
  {δ:DSt} {M:Mem} {R:DSt->Mem->Prop} {Rr:Result->Shared->Prop} {H0:Hp} (hc:Y.calm=true) (hx:Y.xe=fun _ _=>False)
  (ht:Wl (.ListComp elt gs scope pos) target d (.ref it) acc Y.env W) (mono:∀ (A:Around) (Q Q':Shared->Prop) s,(∀ s',Q s'->Q' s')->W Y.prog Y.w A Q s->W Y.prog Y.w A Q' s)
  (T:Turn Y.prog Y.w Y.K target J fp it tn) (itd:ItD Y.K H0 J items keep) (hg:PG Y target (Zt (Y.L false X0) g)) (hb:PB Y W b)
  (I:L2.Inv Y pins σ H s) (hf:∀ b∈fp,FpOk Y pins H b) (st:tn 0 s.heap) (x0:HExt Y.K H0 H) (rs:Slots Y.K H δ σ) (rm:RepM Y.K H M) (k:keep M) (h:Wa g b keep items δ M R)
  (fin:∀ s' σ' H' δ' M',L2.Inv Y pins σ' H' s'->HExt Y.K H H'->Slots Y.K H' δ' σ'->RepM Y.K H' M'->R δ' M'->Rr (.ok .next) s') :
  codeAny (model Y.prog Y.w) Y.A (.compLoop (.ListComp elt gs scope pos) d (.ref it) acc Y.env) Rr s:=by
 have stat:∀ {H':Hp},(∀ b∈fp,H' b=none)->∀ b∈fp,FpOk Y pins H' b:=fun hn b hb=>⟨hn b hb,(hf b hb).2⟩;refine DP ht (fun n s'=>∃ i σ' H' δ' M',L2.Inv Y pins σ' H' s'/\tn i s'.heap/\(∀ b∈fp,H' b=none)/\n=items.length-i/\i<=items.length/\HExt Y.K H H'/\Slots Y.K H' δ' σ'/\RepM Y.K H' M'/\keep M'/\Wa g b keep (items.drop i) δ' M' R) ?_ mono items.length
  ⟨0,σ,H,δ,M,I,st,fun b hbb=>(hf b hbb).1,rfl,Nat.zero_le _,.refl _,rs,rm,k,h⟩
 rintro n s5 ⟨i,σ5,H5,δ5,M5,I5,st5,fr5,rfl,hi5,x5,rs5,m5,k5,h5⟩;obtain⟨i1,i2,i3⟩:=itd i H5 M5 (x0.trans x5) m5 k5;by_cases hl:i<items.length
 ·rw[List.drop_eq_getElem_cons hl] at h5
  refine thn (T.item Y rfl rfl rfl hc i pins s5 σ5 H5 _ I5 (stat fr5) st5 (i1 hl)) fun r s6 hq2=>?_;obtain⟨u,hr,h6⟩:=hq2;subst hr;refine thn h6 fun _ s7 hq2=>?_;obtain⟨x,H7,I7,r7,y7,st7,fr7⟩:=hq2;obtain⟨x7,m7,r7'⟩:=i3 x H7 y7;have I7':=I7.pinned (stat fr7) (T.obj _ _ st7);have h8:=hg _ s7 σ5 H7 x u (fun σ8 H8=>∃ δ8 M8,HExt Y.K H7 H8/\Slots Y.K H8 δ8 σ8/\RepM Y.K H8 M8/\b δ8 M8 fun δ2 M2=>keep M2/\Wa g b keep (items.drop (i+1)) δ2 M2 R) I7' r7
   ⟨items[i],δ5,M5,_,r7' _ (by simp[hl]),⟨rs5.ext x7,Go⟩,m7,h5,fun δ8 M8 σ8 H8 x8 rs8 m8 h8=>⟨δ8,M8,x8,rs8.toSlots,m8,h8⟩⟩
  rw[hx] at h8;refine thn h8 fun _ s8 hq2=>?_;obtain⟨σ8,H8,I8,δ8,M8,x8,rs8,m8,h8⟩:=hq2;refine mono _ _ _ _ ?_ (hb _ s8 σ8 H8 (fun σ9 H9=>∃ δ9 M9,HExt Y.K H8 H9/\Slots Y.K H9 δ9 σ9/\RepM Y.K H9 M9/\keep M9/\Wa g b keep (items.drop (i+1)) δ9 M9 R) I8 ⟨δ8,M8,_,⟨rs8,Go⟩,m8,h8,fun δ9 M9 σ9 H9 x9 rs9 m9 h9=>⟨δ9,M9,x9,rs9.toSlots,m9,h9⟩⟩);rintro s9 ⟨σ9,H9,I9,δ9,M9,x9,rs9,m9,k9,h9⟩;refine⟨items.length-(i+1),by omega,i+1,σ9,H9,δ9,M9,I9.unpinned,T.keep _ _ _ st7 fun b hbb o e=>(I9.pin (b,o) (List.mem_append_right _ (List.mem_append_right _ (ZM hbb e)))).1,fun b hbb=>?_,rfl,hl,(((x5.trans x7).trans x8).trans x9),rs9,m9,k9,h9⟩;obtain⟨o,e,d'⟩:=T.obj _ _ st7 b hbb;exact (I9.pin (b,o) (List.mem_append_right _ (List.mem_append_right _ (ZM hbb e)))).2.1
 ·have e:i=items.length:=by omega
  subst e;rw[List.drop_length] at h5;refine thn (T.done Y rfl rfl rfl hc _ pins s5 σ5 H5 _ I5 (stat fr5) st5 (i2 %[|3])) fun r s6 hq2=>?_;obtain⟨hr,I6⟩:=hq2;subst hr;exact fin s6 σ5 H5 δ5 M5 I6 x5 rs5 m5 h5
theorem Vj (hx:Y.xe=fun _ _=>False) (he:PE Y elt (lift (Y.L false X0) te)):PB Y (WB elt (.ref p) Y.env) (XR te p):=by
 rintro pins s σ H Q I ⟨δ,M,R,rs,rm,h,q⟩;have h8:=he pins s σ H (fun v H9=>∃ d M9,HExt Y.K H H9/\RepM Y.K H9 M9/\RelD Y.K H9 v d/\∃ acc,M9 p=some (.ls acc)/\acc.length<sizeLine/\R δ (M9.upd p (.ls (acc++[d])))) I
  ⟨δ,M,_,rs,rm,h,fun d M9 v H9 x9 m9 r9 h9=>⟨d,M9,x9,m9,r9,h9⟩⟩
 rw[hx] at h8;refine thn h8 fun y s9 hq2=>?_;obtain⟨v,H9,I9,r9,d,M9,x9,m9,rd9,acc,a9,z9,h9⟩:=hq2;obtain⟨vs,ev,rv⟩:=m9 _ _ a9;have xw:HExt Y.K H9 (upd H9 p (.lst (vs++[v]))):=.upd (.inr ⟨_,ev,trivial⟩);have h10:=Um pins s9 σ H9 (.ref p) [v] (.ref p) [y] (fun _ H10=>H10=upd H9 p (.lst (vs++[v]))) I9 rfl (.cons r9 .nil) ⟨_,vs,v,rfl,rfl,ev,by rw[rv.length];exact z9,rfl⟩;rw[hx] at h10;refine thn h10 fun _ s10 hq2=>?_;obtain⟨_,H10,I10,_,e10⟩:=hq2;subst e10;exact⟨σ,_,I10,q _ _ _ _ (x9.trans xw) (rs.ext (x9.trans xw)) (m9.write ev (rv.append (.cons rd9 .nil))) h9⟩
theorem GC (hx:Y.xe=fun _ _=>False) (hc:PT Y c (Zb (Y.L false X0) tt)) (hb:PB Y W (b p)):PB Y (ifW c Y.env W) (bIf tt b p):=by
 rintro pins s σ H Q I ⟨δ,M,R,rs,rm,h,q⟩;have h8:=hc pins s σ H (fun k H9=>∃ M9,HExt Y.K H H9/\RepM Y.K H9 M9/\if k=true then b p δ M9 R else R δ M9) I ⟨δ,M,_,rs,rm,h,fun k M9 H9 x9 m9 h9=>⟨M9,x9,m9,h9⟩⟩;rw[hx] at h8;refine thn h8 fun k s9 hq2=>?_;obtain⟨H9,I9,M9,x9,m9,h9⟩:=hq2;cases k with
 | true=>exact hb pins s9 σ H9 Q I9 ⟨δ,M9,R,rs.ext x9,m9,h9,fun δ' M' σ' H' x=>q δ' M' σ' H' (x9.trans x)⟩
 | false=>exact⟨σ,H9,I9,q _ _ _ _ x9 (rs.ext x9) m9 h9⟩
section
variable {X:Cx} {rz:Bool} {Xe:DSt->DK} {N':List Str} {scope:Scope} {elt target iter:Expr} {ifs:List Expr} {rest:List Comprehension} {pos:Pos} {ti:DI} {g:DG} {b:Addr->DB}
theorem UB (hc:X.calm=true) (B:BlkOk X.N X.env N' scope) (hi:PI X target iter (Xt (X.L rz Xe) ti))
  (W:Addr->Env->BW) (mono:∀ p env (A:Around) (Q Q':Shared->Prop) s,(∀ s',Q s'->Q' s')->W p env X.prog X.w A Q s->W p env X.prog X.w A Q' s)
  (hb:∀ cl C s H ex p,PG (Yw X N' scope cl C s H ex []) target (Zt ((Yw X N' scope cl C s H ex []).L false X0) g)/\PB (Yw X N' scope cl C s H ex []) (W p (Yw X N' scope cl C s H ex []).env) (b p))
  (ht:∀ it p env,Wl (.ListComp elt (⟨target,iter,ifs,0⟩::rest) scope pos) target 0 it (.ref p) env (W p env))
  (hs:∀ x,foldedSetIterable iter X.env x=pure x) {use:Option (Value->Sem Unit)} {Post:Value->Shared->Prop} {pins:List (Addr×Obj)} {s:Shared} {σ:L2.St} {H:Hp} {δ:DSt} {M:Mem} {R:DK}
  (I:L2.Inv X pins σ H s) (rs:RepS (X.L rz Xe) H δ σ) (rm:RepM X.K H M) (t:XN (N'.length-X.N.length) ti g b δ M R)
  (fin:∀ (p C:Addr) (s6:Shared) (H5:Hp) (M5:Mem),HExt X.K H H5->RepM X.K H5 M5->R (.lst p) M5->L2.Inv X pins σ H5 s6->FpOk X pins H5 C->(∃ m,s6.heap.Ns C m)->(∀ h',Heap.SameBut C s6.heap h'->L2.Inv X pins σ H5 {s6 with heap:=h'})->compPost (model X.prog X.w) X.A X.xe use Post (.ref p) C (.ok .next) s6) :
  wpAny (model X.prog X.w) X.A (comprehension (.ListComp elt (⟨target,iter,ifs,0⟩::rest) scope pos) scope X.env (firstIterPos (⟨target,iter,ifs,0⟩::rest) pos) (newList []) (firstAsync (⟨target,iter,ifs,0⟩::rest)) (firstIter (⟨target,iter,ifs,0⟩::rest) X.env) use) Post X.xe s:=by
 have hcells:∀ x∈scope.names,x.2=.free->∃ c,X.env.cells.lookup x.1=some c:=fun x hx e=>I.ok.has x.1 (B.free x hx e);refine wpAny_comprehension_free (use:=use) (cl:=clos X.env.cells scope.names []) rfl hs (Ve hcells) B.kind B.names ?_;refine thn (hi pins s σ H (fun J H1=>∃ items keep M1,HExt X.K H H1/\RepM X.K H1 M1/\keep M1/\ItD X.K H1 J items keep/\∀ p,M1 p=none->keep (M1.upd p (.ls []))/\Wa g (b p) keep items (δ++List.replicate (N'.length-X.N.length) none) (M1.upd p (.ls [])) fun _ M2=>(∃ ds,M2 p=some (.ls ds))/\R (.lst p) M2) I
  ⟨δ,M,_,rs,rm,t,fun items keep M1 J H1 x1 m1 k1 it h1=>⟨items,keep,M1,x1,m1,k1,it,h1⟩⟩) fun v s1 h1=>thn h1 fun itv s2 h2=>?_
 obtain⟨it,fp,tn,J,H2,e,I2,T,st2,f2,items,keep,M1,x1,m1,k1,itd,h2⟩:=h2;subst e;have hflt2:∀ b∈fp,b<s2.heap.objs.size:=fun b hb=>let ⟨o,e,_⟩:=T.obj _ _ st2 b hb;Heap.lt_size e
 have hp:H2 s2.heap.objs.size=none:=I2.hok.fresh %[|3];refine wpAny_newObj_type ?_;have I3:=I2.lnew (ys:=[]) (its:=[]) (t':=s2.toks) .nil (Nat.zero_le _);have x3:HExt X.K H2 (upd H2 s2.heap.objs.size (.lst [])):=.upd (.inl hp);obtain⟨k3,h3⟩:=h2 _ (m1.none hp);have m3:=m1.lst (vs:=[]) (ds:=[]) hp .nil
 revert I3
 generalize hs3:(({s2 with heap:=s2.heap.push {cls:=.type "list",data:=.seq ([]:List Value).toArray},toks:=s2.toks}:Shared))=s3;intro I3;have hh3:s3.heap=s2.heap.push {cls:=.type "list",data:=.seq ([]:List Value).toArray}:=by rw[<- hs3]
 have sz3:s3.heap.objs.size=s2.heap.objs.size+1:=by rw[hh3,Heap.size_push]
 have st3:tn 0 s3.heap:=T.keep _ _ _ st2 fun b _ o e=>by rw[hh3];exact Heap.get?_push_of_some _ e
 have hflt3:∀ b∈fp,b<s3.heap.objs.size:=fun b hb=>by rw[sz3];exact Nat.lt_succ_of_lt (hflt2 b hb)
 have f3:∀ b∈fp,FpOk X pins (upd H2 s2.heap.objs.size (.lst [])) b:=fun b hb=>⟨by rw[Yx (Nat.ne_of_lt (hflt2 b hb))];exact (f2 b hb).1,(f2 b hb).2⟩;have goal3:wpAny (model X.prog X.w) X.A (newFunctionEnv scope X.env.globals (clos X.env.cells scope.names []) [] X.env.qual none .none (some X.env)) (fun cenv s₄ =>
   codeAny (model X.prog X.w) X.A (.compStart (.ListComp elt (⟨target,iter,ifs,0⟩::rest) scope pos) 0 (.ref it) (.ref s2.heap.objs.size) {cenv with scope:=relabel scope X.env})
    (compPost (model X.prog X.w) X.A X.xe use Post (.ref s2.heap.objs.size) cenv.locals) s₄) X.xe s3:=by
  refine wpAny_newFunctionEnv B.cell (by intro y hy;simp at hy) (fun h₁ hns₁ hsb₁=>?_) B.kind;have old:∀ b o,s3.heap.get? b=some o->h₁.get? b=some o:=fun b o e=>hsb₁.extBut b o (Nat.ne_of_lt (Heap.lt_size e)) (Heap.get?_push_of_some _ e);have I4:=Ch (N':=N') (tk:=s3.toks+([]:List (Str×Value)).length) I3 B f3 hflt3 hns₁ old;obtain⟨hg,hbb⟩:=hb (clos X.env.cells scope.names []) s3.heap.objs.size s3 (upd H2 s2.heap.objs.size (.lst [])) fp s2.heap.objs.size;have st4:tn 0 h₁:=T.keep _ _ _ st3 fun b _ o e=>old b o e;have stat:∀ {H':Hp},(∀ b∈fp,H' b=none)->∀ b∈fp,FpOk (Yw X N' scope (clos X.env.cells scope.names []) s3.heap.objs.size s3 (upd H2 s2.heap.objs.size (.lst [])) fp []) [] H' b:=fun hn b hbb=>by
   obtain⟨g1,g2⟩:=I4.ok.exf b hbb;exact⟨hn b hbb,g1,I4.ok.exfs b hbb,.inl hbb,g2,fun p hp=>absurd (show p∈([]:List (Addr×Obj)) from hp) (by simp)⟩
  have loop:codeAny (model X.prog X.w) X.A (.compLoop (.ListComp elt (⟨target,iter,ifs,0⟩::rest) scope pos) 0 (.ref it) (.ref s2.heap.objs.size) (compEnvC scope (clos X.env.cells scope.names []) s3.heap.objs.size X.env))
    (compPost (model X.prog X.w) X.A X.xe use Post (.ref s2.heap.objs.size) s3.heap.objs.size) {s3 with heap:=h₁,toks:=s3.toks+([]:List (Str×Value)).length}:=by
   refine DQ (Y:=Yw X N' scope (clos X.env.cells scope.names []) s3.heap.objs.size s3 (upd H2 s2.heap.objs.size (.lst [])) fp []) (H0:=H2) hc rfl (ht _ _ _) (mono _ _) T itd hg hbb I4 (stat fun b hbb=>(f3 b hbb).1) st4 x3 ((rs.toSlots.ext (x1.trans x3)).more _) m3 k3 h3 ?_;intro s6 σ5 H5 δ5 M5 I6 x5 rs5 m5 h5;obtain⟨_,h5⟩:=h5;obtain⟨mC,nC,_⟩:=I6.loc;have key:∀ h',Heap.SameBut s3.heap.objs.size s6.heap h'->L2.Inv X pins σ H5 {s6 with heap:=h'}:=fun h' hsb=>by
    have ne:∀ b o,s3.heap.get? b=some o->b≠s3.heap.objs.size:=fun b o e=>Nat.ne_of_lt (Heap.lt_size e);have un:=I6.base;have un':Un (frs X.stack) fp (upd H2 s2.heap.objs.size (.lst [])) H5 s3.heap h' :=
     ⟨fun b o e n1 n2 n3=>hsb.extBut b o (ne b o e) (un.keep b o e n1 n2 n3),fun b o e n1 n2 n3=>let ⟨sl,z⟩:=un.slot b o e n1 n2 n3;⟨sl,hsb.extBut _ _ (ne b o e) z⟩,un.free,fun b o e n1=>let ⟨o',z⟩:=un.there b o e n1;⟨o',hsb.extBut _ _ (ne b o e) z⟩,un.tups,un.frzs,un.tbls⟩
    have hok':HOk X.prog X.w H5 h':=fun b ob e=>by
     refine (I6.hok b ob e).stay (fun c w' hc' q'=>hsb.extBut _ _ ?_ q') (fun _ q=>q) fun _ _ q=>q;rintro rfl;rcases hc' with rfl|hc'
     ·rw[show H5 s3.heap.objs.size=none from I6.free] at e;cases e
     ·rw[show H5 s3.heap.objs.size=none from I6.free] at hc';cases hc'
    exact I3.call' (ch:=fp) (s':={s6 with heap:=h'}) I6.os un' hok' I6.bare fun b hbb=>⟨(f3 b hbb).2.2.2.1,(f3 b hbb).2.1,(f3 b hbb).2.2.2.2.1,(f3 b hbb).2.2.2.2.2⟩
   exact fin s2.heap.objs.size s3.heap.objs.size s6 H5 M5 ((x1.trans x3).trans x5) m5 h5 (key _ (.refl _ _)) (I3.fpOk %[|3] I6.free) ⟨mC,nC⟩ key
  exact codeAny_compStart_list loop (T.self X.A 0 _ _ _ st4 loop)
 subst hs3;exact goal3
theorem JW (hc:X.calm=true) (B:BlkOk X.N X.env N' scope) (hi:PI X target iter (Xt (X.L rz Xe) ti))
  (W:Addr->Env->BW) (mono:∀ p env (A:Around) (Q Q':Shared->Prop) s,(∀ s',Q s'->Q' s')->W p env X.prog X.w A Q s->W p env X.prog X.w A Q' s)
  (hb:∀ cl C s H ex p,PG (Yw X N' scope cl C s H ex []) target (Zt ((Yw X N' scope cl C s H ex []).L false X0) g)/\PB (Yw X N' scope cl C s H ex []) (W p (Yw X N' scope cl C s H ex []).env) (b p))
  (ht:∀ it p env,Wl (.ListComp elt (⟨target,iter,ifs,0⟩::rest) scope pos) target 0 it (.ref p) env (W p env))
  (hs:∀ x,foldedSetIterable iter X.env x=pure x):PE X (.ListComp elt (⟨target,iter,ifs,0⟩::rest) scope pos) (lift (X.L rz Xe) (XN (N'.length-X.N.length) ti g b)):=by
 rintro pins s σ H Q I ⟨δ,M,R,rs,rm,t,q⟩;rw[eval_ListComp];exact UB hc B hi W mono hb ht hs (use:=none) I rs rm t (by rintro p C s6 H5 M5 x m r _ _ ⟨mC,nC⟩ key;exact⟨mC,nC,fun h' hsb=>⟨.ref p,H5,key h' hsb,rfl,q _ _ _ _ x m (.lst _) r⟩⟩)
theorem Gp (hi:PI X target iter (Xt (X.L rz Xe) ti)):PI X target iter (Xt (X.L rz Xe) (iUp ti)):=by
 intro pins s σ H R I h;obtain⟨δ,M,Rd,rs,rm,⟨R0,t,q0⟩,q⟩:=h;exact hi pins s σ H R I ⟨δ,M,R0,rs,rm,t,fun items keep M' J H' x m k it h=>q items keep M' J H' x m k it (q0 _ _ _ h)⟩
theorem Gq (hg:PG Y target (Zt (Y.L false X0) g)):PG Y target (Zt (Y.L false X0) (gUp g)):=by
 intro pins s σ H v u Q I r h;obtain⟨d,δ,M,R,rd,rs,rm,⟨R0,t,q0⟩,q⟩:=h;exact hg pins s σ H v u Q I r ⟨d,δ,M,R0,rd,rs,rm,t,fun δ' M' σ' H' x s' m h=>q δ' M' σ' H' x s' m (q0 _ _ h)⟩
theorem Gs (he:PE Y elt (lift (Y.L false X0) te)):PE Y elt (lift (Y.L false X0) (eUp te)):=by
 intro pins s σ H Q I h;obtain⟨δ,M,R,rs,rm,⟨R0,t,q0⟩,q⟩:=h;exact he pins s σ H Q I ⟨δ,M,R0,rs,rm,t,fun d M' v H' x m r h=>q d M' v H' x m r (q0 _ _ h)⟩
theorem FY (hc:X.calm=true) (B:BlkOk X.N X.env N' scope) (hi:PI X target iter (Xt (X.L rz Xe) ti))
  (hb:∀ cl C s H ex,PG (Yw X N' scope cl C s H ex []) target (Zt ((Yw X N' scope cl C s H ex []).L false X0) g)/\PE (Yw X N' scope cl C s H ex []) elt (lift ((Yw X N' scope cl C s H ex []).L false X0) te))
  (hs:∀ x,foldedSetIterable iter X.env x=pure x):PE X (.ListComp elt [⟨target,iter,[],0⟩] scope pos) (lift (X.L rz Xe) (YO (N'.length-X.N.length) ti g te)) :=
 (JW hc B (Gp hi) (fun p env=>WB elt (.ref p) env) (fun _ _=>Xq) (fun cl C s H ex p=>⟨Gq (hb cl C s H ex).1,Vj rfl (Gs (hb cl C s H ex).2)⟩) (fun _ _ _=>Jn) hs).imp
  fun σ H Q h=>by obtain⟨δ,M,R,rs,rm,t,q⟩:=h;exact⟨δ,M,R,rs,rm,JY t,q⟩
theorem Bj {ti:(DSt->DK)->DI} {i:Nat} {x:Str} {pos' pos2:Pos} (hc:X.calm=true) (B:BlkOk X.N X.env N' scope) (hit:∀ Xe,PI X target iter (Xt (X.L rz Xe) (ti Xe)))
  (W:Addr->Env->BW) (mono:∀ p env (A:Around) (Q Q':Shared->Prop) s,(∀ s',Q s'->Q' s')->W p env X.prog X.w A Q s->W p env X.prog X.w A Q' s)
  (hb:∀ cl C s H ex p,PG (Yw X N' scope cl C s H ex []) target (Zt ((Yw X N' scope cl C s H ex []).L false X0) g)/\PB (Yw X N' scope cl C s H ex []) (W p (Yw X N' scope cl C s H ex []).env) (b p))
  (ht:∀ it p env,Wl (.ListComp elt (⟨target,iter,ifs,0⟩::rest) scope pos) target 0 it (.ref p) env (W p env))
  (hs:∀ x,foldedSetIterable iter X.env x=pure x) (hsw:swapsWith (.ListComp elt (⟨target,iter,ifs,0⟩::rest) scope pos) (some (.Name x pos')) pos2.line X.env=pure true)
  (hN:X.N.Nodup) (hi:X.N[i]?=some x) (hx:Loc X.env.scope x) (hf:X.fn x=true\/X.env.scope.names.lookup x=some .local) :
  PS X (.Assign [.Name x pos'] (.ListComp elt (⟨target,iter,ifs,0⟩::rest) scope pos) pos2) (YG X rz (dAsg (fun Xe=>XN (N'.length-X.N.length) (ti Xe) g b) fun _=>Xp i)):=by
 rintro pins s σ H E I ⟨δ,M,D,rs,rm,t,n,r,b,c⟩;rw[exec_Assign_Name_used _ _ _ _ hsw,arm_evalThenUse_ListComp];refine wpAny_bind (wpAny_standAt ?_);refine wpAny_bind (wpAny_bind (UB hc B (hit D.ex) W mono hb ht hs (R:=fun d M1=>D.nx (δ.set i (some d)) M1) I rs rm t fun p C s6 H5 M5 x m r I5 fpc hq10 key=>?_));obtain⟨mC,nC⟩:=hq10;obtain⟨o,es,ep,ho,hd,hsk,hmm⟩:=id nC;have I5':=I5.pinned (fp:=[C]) (fun b hb=>by simp at hb;subst hb;exact fpc) (fun b hb=>by simp at hb;subst hb;exact⟨o,ho,fun v z=>by rw[hd] at z;cases z⟩);refine wpAny_assign_Name (Xx I5' hN hi hx (v:=.ref p) rfl (fun s7 I7=>?_) hf);have hp7:(C,o)∈VI [C] s6.heap:=ZM (by simp) ho;have h7:=(I7.pin (C,o) (List.mem_append_right _ (List.mem_append_right _ hp7))).1;refine⟨mC,⟨o,es,ep,h7,hd,hsk,hmm⟩,fun h' hsb=>?_⟩;have I8:=(I7.unpinned (pins:=pins)).turned (it:=C) (h':=h') (t':=s7.toks) (fun b o hb e=>(hsb.2 b hb).trans e) fpc.1 fpc.2.1 fpc.2.2.2.1 fpc.2.2.2.2.1 fpc.2.2.2.2.2
 exact wpAny_pure (wpAny_pure ⟨_,H5,I8,n _ _ _ _ x ((rs.ext x).set (.lst _) i) m r⟩)
theorem FQ {te:DE} {ti:(DSt->DK)->DI} {i:Nat} {x:Str} {pos' pos2:Pos} (hc:X.calm=true) (B:BlkOk X.N X.env N' scope) (hit:∀ Xe,PI X target iter (Xt (X.L rz Xe) (ti Xe)))
  (hb:∀ cl C s H ex,PG (Yw X N' scope cl C s H ex []) target (Zt ((Yw X N' scope cl C s H ex []).L false X0) g)/\PE (Yw X N' scope cl C s H ex []) elt (lift ((Yw X N' scope cl C s H ex []).L false X0) te))
  (hs:∀ x,foldedSetIterable iter X.env x=pure x) (hsw:swapsWith (.ListComp elt [⟨target,iter,[],0⟩] scope pos) (some (.Name x pos')) pos2.line X.env=pure true)
  (hN:X.N.Nodup) (hi:X.N[i]?=some x) (hx:Loc X.env.scope x) (hf:X.fn x=true\/X.env.scope.names.lookup x=some .local) :
  PS X (.Assign [.Name x pos'] (.ListComp elt [⟨target,iter,[],0⟩] scope pos) pos2) (YG X rz (dAsg (fun Xe=>YO (N'.length-X.N.length) (ti Xe) g te) fun _=>Xp i)):=by
 rintro pins s σ H E I ⟨δ,M,D,rs,rm,t,n,r,b,c⟩;exact Bj hc B (fun Xe=>Gp (hit Xe)) (fun p env=>WB elt (.ref p) env) (fun _ _=>Xq) (fun cl C s H ex p=>⟨Gq (hb cl C s H ex).1,Vj rfl (Gs (hb cl C s H ex).2)⟩) (fun _ _ _=>Jn) hs hsw hN hi hx hf pins s σ H E I ⟨δ,M,D,rs,rm,JY (show YO (N'.length-X.N.length) (ti D.ex) g te δ M (fun d M1=>D.nx (δ.set i (some d)) M1) from t),n,r,b,c⟩
end
end DL
end
noncomputable section
namespace DL
open PySem PySem.Spec PyProof.Rows L2
noncomputable def fSum:List D->Mem->DK->Prop
 | [.lst a],M,Q=>∃ bs:List Bool,M a=some (.ls (bs.map .bl))/\Q (.int (bs.count true)) M
 | _,_,_=>False
section
variable {X:Cx}
noncomputable def IxAt (M:Mem) (xs:List D) (d:D) (j:Nat):Prop:=∃ ps p,Pys M xs ps/\Py M d p/\p.depth<=60/\xs.length<1000/\j<ps.length/\ps.findIdx (fun q=>PyData.eqv q p)=j
noncomputable def Hf (K:Frag):V->List V->Hp->VK->Prop:=fun x vs H Q=>∃ l y M ds d j,x=.ref l/\vs=[y]/\RepM K H M/\M l=some (.ls ds)/\RelD K H y d/\IxAt M ds d j/\Q (.int j) H
theorem CW (r:ReadsAll h us ps as):PyData.canLayAll0 ps=true->us.length=ps.length/\us.findIdx (eqTo h p)=ps.findIdx fun q=>PyData.eqv q p:=by
 induction r using ReadsAll.rec (motive_1:=fun _ _ _ _=>True) with
 | nil=>exact fun _=>⟨rfl,rfl⟩
 | cons r rr _ ih =>
  intro c;obtain⟨c1,c2⟩:=GT (show (_&&_)=true from c);rw[List.findIdx_cons,List.findIdx_cons,Bh r c1,(ih c2).2,List.length_cons,List.length_cons,(ih c2).1];exact⟨rfl,rfl⟩
 | _=>trivial
theorem DF (hu:X.A.units+66<cLine):MtM X "list.index" (Hf X.K):=by
 intro pins s σ H x vs v us Q I rx rv h;obtain⟨l,y,M,ds,d,j,rfl,rfl,rm,e0,rd,⟨ps,p,p1,p2,hd,hz,hj,hf⟩,q⟩:=h
 (first|cases (show _=_ from rx.inv)|cases rx)
 obtain⟨u,rfl,ru⟩:=rv.one;obtain⟨vs,hH,rr⟩:=rm _ _ e0;obtain⟨z,its,n,r,hl,e⟩:=I.lstM hH;obtain⟨as,a1,a2⟩:=p1.reads I rm rr r;obtain⟨bs,b1,b2⟩:=p2.reads I rm rd ru;obtain⟨f1,f2⟩:=CW (p:=p) a1 a2;have hj':its.findIdx (eqTo s.heap p)<its.length:=by rw[f2,f1,hf];exact hj
 have l1:=r.length;have l2:=rr.length;rw[<- hf,<- f2] at q;refine call_meets F.slot_list_index ⟨_,e,rfl⟩ F.entry_list_index (F.args_list_index_2 _ _)
  (SeqAt.list_indexAt l its.toArray n _ _ u (eqTo s.heap p) (its.findIdx (eqTo s.heap p)) (by simpa using hj') %[|5] ?_ ?_) ⟨e,?_,?_⟩
 ·simp only[List.getElem_toArray]
  exact List.findIdx_getElem (w:=hj')
 ·intro m hm hlt
  simp only[List.getElem_toArray]
  simpa using List.not_of_lt_findIdx hlt
 ·intro y hy
  exact FO (A:=X.A.in1) (by show X.A.units+1+64<cLine;omega) a1 a2 b1 b2 hd y (by simpa using hy)
 ·exact⟨.int _,H,I.tok _,⟨_,rfl⟩,q⟩
end
section
variable {X:Cx}
end
section
variable {X:Cx}
end
end DL
end
noncomputable section
namespace DL
open PySem PySem.Spec PyProof.Rows L2
noncomputable def Ks {α:Type} (xs:List α) (k:Int) (y:α):List α:=xs.take k.toNat++y::xs.drop k.toNat
section
variable {X:Cx}
end
end DL
end
noncomputable section
namespace DL
open PySem PySem.Spec PyProof.Rows L2
abbrev zh1 (h:Heap) (b:Addr):Heap:=h.push {cls:=.type "tuple_iterator",data:=.fields #[.ref b,.int 0 0]}
abbrev zh2 (h:Heap) (b c:Addr):Heap:=(zh1 h b).push {cls:=.type "tuple_iterator",data:=.fields #[.ref c,.int 0 0]}
abbrev zh3 (h:Heap) (b c:Addr):Heap:=(zh2 h b c).push {cls:=.type "tuple",data:=.seq #[.ref h.objs.size,.ref (zh1 h b).objs.size]}
abbrev zh4 (h:Heap) (b c:Addr):Heap:=(zh3 h b c).push {cls:=.type "tuple",data:=.seq #[.none,.none]}
abbrev zh5 (h:Heap) (b c:Addr):Heap:=(zh4 h b c).push {cls:=.type "zip",data:=.fields #[.none,.bool false,.bool false,.ref (zh2 h b c).objs.size,.ref (zh3 h b c).objs.size]}
theorem DM (b c:Addr) (xs ys:Array Value) :
  Meets (Builtin.«zip.__new__» ⟨[.type "zip",.ref b,.ref c],[]⟩) (fun _ R s=>s.heap.IsTuple b xs/\s.heap.IsTuple c ys/\R (.ok (.ret (.ref (zh4 s.heap b c).objs.size))) {s with heap:=zh5 s.heap b c}) :=
 .of_wp fun prog w A R s h=>by
  obtain⟨hp,g,d,tk,os⟩:=s;obtain⟨h1,h2,h⟩:=h;have hsub:=sub_zip;have t1:Heap.IsTuple (Shared.heap ⟨hp,g,d,tk,os⟩) b xs:=h1;have t2:Heap.IsTuple (Shared.heap ⟨hp.push {cls:=.type "tuple_iterator",data:=.fields #[.ref b,.int 0 0]},g,d,tk,os⟩) c ys:=by
   obtain⟨o,e,r⟩:=h2;exact⟨o,Heap.get?_push_of_some _ e,r⟩
  wp_walk using wpAny_pyIter_tuple t1,wpAny_pyIter_tuple t2
  exact⟨_,rfl,h⟩
section
variable {prog:Program} {w:World} {A:Around} {E:Value->Shared->Prop} {s:Shared}
theorem Gi (hb:s.heap.IsTuple b xs) (hc:s.heap.IsTuple c ys)
  (q:∀ g,zTn (s.heap.objs.size+4) (s.heap.objs.size+2) (s.heap.objs.size+3) s.heap.objs.size (s.heap.objs.size+1) b c 0 g->(∀ k o,s.heap.get? k=some o->g.get? k=some o)->Q (.ref (s.heap.objs.size+4)) {s with heap:=g}) :
  wpAny (model prog w) A (call (.type "zip") [.ref b,.ref c]) Q E s:=by
 refine callType_new F.called_zip %[|4] (F.typeCall_zip_2 _ _) (F.newCall_zip_2 _ _) (fun obj=>F.args_object_init_3 obj _ _) F.entry_zip_new (DM b c xs ys) ⟨hb,hc,?_⟩;have z1:(zh1 s.heap b).objs.size=s.heap.objs.size+1:=Heap.size_push ..;have z2:(zh2 s.heap b c).objs.size=s.heap.objs.size+2:=by rw[Heap.size_push,z1]
 have z3:(zh3 s.heap b c).objs.size=s.heap.objs.size+3:=by rw[Heap.size_push,z2]
 have z4:(zh4 s.heap b c).objs.size=s.heap.objs.size+4:=by rw[Heap.size_push,z3]
 have g5:(zh5 s.heap b c).get? (zh4 s.heap b c).objs.size=some _:=Heap.get?_push_size _ rfl;have g4:(zh5 s.heap b c).get? (zh3 s.heap b c).objs.size=some _:=Heap.get?_push_of_some _ (Heap.get?_push_size _ rfl);have g3:(zh5 s.heap b c).get? (zh2 s.heap b c).objs.size=some _:=Heap.get?_push_of_some _ (Heap.get?_push_of_some _ (Heap.get?_push_size _ rfl));have g2:(zh5 s.heap b c).get? (zh1 s.heap b).objs.size=some _:=Heap.get?_push_of_some _ (Heap.get?_push_of_some _ (Heap.get?_push_of_some _ (Heap.get?_push_size _ rfl)));have g1:(zh5 s.heap b c).get? s.heap.objs.size=some _:=Heap.get?_push_of_some _ (Heap.get?_push_of_some _ (Heap.get?_push_of_some _ (Heap.get?_push_of_some _ (Heap.get?_push_size _ rfl))));show _/\_;rw[z2,z3,z4] at g5;rw[z1,z2] at g3;rw[z3] at g4;rw[z1] at g2;rw[z4];exact⟨⟨_,g5,rfl⟩,q _ ⟨g5,g3,⟨_,_,g4⟩,⟨_,g1,rfl,rfl⟩,⟨_,g2,rfl,rfl⟩⟩ fun k o x=>Heap.get?_push_of_some _ (Heap.get?_push_of_some _ (Heap.get?_push_of_some _ (Heap.get?_push_of_some _ (Heap.get?_push_of_some _ x))))⟩
end
noncomputable def ItzL (K:Frag) (b c:Addr):It :=
  ⟨fun i H=>∃ xs ys x y,SqL K H b xs/\SqL K H c ys/\xs[i]?=some x/\ys[i]?=some y,
   fun i H x H'=>∃ T p q,H T=none/\x=.ref T/\H'=upd H T (.tup [p,q])/\(∀ xs,SqL K H b xs->xs[i]?=some p)/\∀ ys,SqL K H c ys->ys[i]?=some q,
   fun i H=>∃ xs ys,SqL K H b xs/\SqL K H c ys/\(xs.length<=i\/ys.length<=i)⟩
noncomputable def zTnL (z u v i j b c:Addr) (n:Nat) (h:Heap):Prop:=IsZip h z u v .none/\IsPair h u (.ref i) (.ref j)/\(∃ a d,IsPair h v a d)/\h.IsListIter i b n/\h.IsListIter j c n
theorem Bx {P:Program} {w:World} {K:Frag} {elts:List Expr} {x1:Nat} {pos:Pos} {z u v i j b c:Addr} (D:ZipApart z u v i j b c) :
  Turn P w K (.Tuple elts x1 pos) (ItzL K b c) [z,u,v,i,j] z (zTnL z u v i j b c) where
 mem:=by simp
 obj:=fun n h st k hk=>by
  obtain⟨hz,hu,⟨a,d,hv⟩,⟨o1,e1,_,d1⟩,⟨o2,e2,_,d2⟩⟩:=st;simp only[List.mem_cons,List.not_mem_nil,or_false] at hk;rcases hk with rfl|rfl|rfl|rfl|rfl
  ·exact⟨_,hz,fun w e=>nomatch e⟩
  ·exact⟨_,hu,fun w e=>nomatch e⟩
  ·exact⟨_,hv,fun w e=>nomatch e⟩
  ·exact⟨_,e1,fun w e=>by rw[d1] at e;cases e⟩
  ·exact⟨_,e2,fun w e=>by rw[d2] at e;cases e⟩
 keep:=fun n h h' st k=>by
  obtain⟨hz,hu,⟨a,d,hv⟩,h1,h2⟩:=st;exact⟨k z (by simp) _ hz,k u (by simp) _ hu,⟨a,d,k v (by simp) _ hv⟩,h1.at fun o e=>k i (by simp) o e,h2.at fun o e=>k j (by simp) o e⟩
 item:=by
  intro X hP hw hK hc n pins s σ H E I hf st hg;subst hP hw hK;obtain⟨hz,hu,⟨a,d,hv⟩,h1,h2⟩:=st;obtain⟨xs,ys,x,y,q1,q2,hx,hy⟩:=hg;obtain⟨its,rv,p,sz1⟩:=I.list q1;obtain⟨its',rv',p',sz2⟩:=I.list q2;obtain⟨vx,hvx,rx⟩:=rv.get hx;obtain⟨vy,hvy,ry⟩:=rv'.get hy;refine wpAny_pyNext_zip_item D hz hu hv h1 h2 p.isList p'.isList (x:=vx) (y:=vy) (by simpa using hvx) (by simpa using hvy) fun g a1 a2 a3 a4 a5 a6 a7=>?_;have lt:∀ {k o},s.heap.get? k=some o->k≠s.heap.objs.size:=fun e=>Nat.ne_of_lt (Heap.lt_size e);have li:i≠s.heap.objs.size:=by obtain⟨o,e,_⟩:=h1;exact lt e
  have lj:j≠s.heap.objs.size:=by obtain⟨o,e,_⟩:=h2;exact lt e
  refine⟨_,rfl,wpAny_letOwnedTupleGo_zip a1 fun g' z' sb=>?_⟩;have tp:IsPair g' s.heap.objs.size vx vy:=sb.extBut _ _ (Ne.symm (lt hz)) a5;have nf:H s.heap.objs.size=none:=I.hok.fresh %[|3];have I1:Inv X pins σ (upd H s.heap.objs.size (.tup [x,y])) {s with heap:=s.heap.push {cls:=.type "tuple",data:=.seq #[vx,vy]},toks:=s.toks} :=
   I.laid (fun k o e=>Heap.get?_push_of_some _ e) %[|3] ⟨by simp only[List.length_cons,List.length_nil];rw[sizeLine_eq];decide,[vx,vy],.cons rx (.cons ry .nil),⟨_,Heap.get?_push_size _ rfl,rfl,_,rfl⟩⟩
  have ff:∀ k∈[z,u,v,i,j],k≠s.heap.objs.size:=fun k hk=>by
   simp only[List.mem_cons,List.not_mem_nil,or_false] at hk;rcases hk with rfl|rfl|rfl|rfl|rfl
   ·exact lt hz
   ·exact lt hu
   ·exact lt hv
   ·exact li
   ·exact lj
  have f':∀ k∈[z,u,v,i,j],FpOk X pins (upd H s.heap.objs.size (.tup [x,y])) k:=fun k hk=>⟨by rw[Yx (ff k hk)];exact (hf k hk).1,(hf k hk).2⟩;have I2:Inv X pins σ (upd H s.heap.objs.size (.tup [x,y])) {s with heap:=g',toks:=s.toks}:=by
   refine Vf (s:={s with heap:=s.heap.push {cls:=.type "tuple",data:=.seq #[vx,vy]},toks:=s.toks}) (h':=g') (t':=s.toks) I1 (fun k o hk e=>?_) f';rcases Heap.get?_push_cases e with ⟨rfl,rfl⟩|e'
   ·exact tp
   ·simp only[List.mem_cons,List.not_mem_nil,or_false,not_or] at hk
    exact sb.extBut _ _ hk.1 (a7 k o hk.1 hk.2.2.1 hk.2.2.2.1 hk.2.2.2.2 e')
  refine⟨.ref s.heap.objs.size,_,I2,rfl,⟨_,x,y,nf,rfl,rfl,fun xs' q=>by rw[I.list_inj q q1];exact hx,fun ys' q=>by rw[I.list_inj q q2];exact hy⟩,?_,fun k hk=>(f' k hk).1⟩;exact⟨z',sb.extBut _ _ D.TIz (a7 _ _ D.TIz D.TITO D.TIi1 D.TIi2 hu),⟨_,_,sb.extBut _ _ D.TOz a2⟩,a3.extBut sb.extBut D.i1z,a4.extBut sb.extBut D.i2z⟩
 done:=by
  intro X hP hw hK hc n pins s σ H E I hf st hg;subst hP hw hK;obtain⟨hz,hu,⟨a,d,hv⟩,h1,h2⟩:=st;obtain⟨xs,ys,q1,q2,hx⟩:=hg;obtain⟨its,rv,p,sz1⟩:=I.list q1;obtain⟨its',rv',p',sz2⟩:=I.list q2;have l1:=rv.length;have l2:=rv'.length;refine wpAny_pyNext_zip_end (I.ok.hd hc) D hz hu hv h1 h2 p.isList p'.isList (by rcases hx with hx|hx;exact .inl (by simp;omega);exact .inr (by simp;omega)) fun g k=>⟨rfl,Vf (h':=g) (t':=s.toks) I (fun m o hm e=>?_) hf⟩;simp only[List.mem_cons,List.not_mem_nil,or_false,not_or] at hm;exact k m o hm.1 hm.2.2.1 hm.2.2.2.1 hm.2.2.2.2 e
 self:=fun _ _ _ _ _ st h=>wpAny_pyIter_zip st.1 h
noncomputable def zipD (xs ys:List D):List D:=List.zipWith (fun x y=>.tup [x,y]) xs ys
noncomputable def JN:List D->Mem->(List D->(Mem->Prop)->Mem->Prop)->Prop
 | [.tup xs,.tup ys],M,R=>R (zipD xs ys) (fun _=>True) M
 | [.lst a,.lst b],M,R=>∃ xs ys,M a=some (.ls xs)/\M b=some (.ls ys)/\R (zipD xs ys) (fun M'=>M' a=some (.ls xs)/\M' b=some (.ls ys)) M
 | _,_,_=>False
noncomputable def X1 (ta:DA):DI:=fun δ M R=>ta δ M fun ds M1=>JN ds M1 R
theorem FG {K:Frag} {H0:Hp} {a b:Addr} {vs ws:List V} {xs ys:List D} (ha:SqT K H0 a vs) (hb:SqT K H0 b ws) (r:RelDs K H0 vs xs) (q:RelDs K H0 ws ys):ItD K H0 (Itz K a b) (zipD xs ys) (fun _=>True):=fun i H M x m k=>by
 have ha':=x.tup _ _ ha;have hb':=x.tup _ _ hb;have r':=r.ext x;have q':=q.ext x;have l1:=r.length;have l2:=q.length;refine⟨fun hl=>?_,fun hl=>?_,fun y H' hy=>?_⟩
 ·simp only[zipD,List.length_zipWith] at hl
  exact⟨vs,ws,vs[i]'%[|5],ws[i]'%[|5],ha',hb',List.getElem?_eq_getElem _,List.getElem?_eq_getElem _⟩
 ·simp only[zipD,List.length_zipWith] at hl
  exact⟨vs,ws,ha',hb',by omega⟩
 ·obtain⟨T,p,p',hn,rfl,rfl,e1,e2⟩:=hy
  have ex:HExt K H (L2.upd H T (.tup [p,p'])):=HExt.upd (.inl hn);refine⟨ex,m.tup hn,fun d hd=>?_⟩;simp only[zipD,List.getElem?_zipWith] at hd;have f1:=e1 _ ha';have f2:=e2 _ hb';cases h1:xs[i]? with
  | none=>rw [h1] at hd;simp at hd
  | some dx =>
   cases h2:ys[i]? with
   | none=>rw [h1,h2] at hd;simp at hd
   | some dy =>
    rw[h1,h2] at hd;simp at hd;subst hd;obtain⟨v1,g1,g2⟩:=r'.get h1;obtain⟨v2,g3,g4⟩:=q'.get h2;rw[f1] at g1;cases g1;rw[f2] at g3;cases g3;exact .tup (.inl (.of L2.upd_same)) (.cons (g2.ext ex) (.cons (g4.ext ex) .nil))
theorem DX {K:Frag} {H0:Hp} {a b:Addr} {xs ys:List D}:ItD K H0 (ItzL K a b) (zipD xs ys) (fun M'=>M' a=some (.ls xs)/\M' b=some (.ls ys)):=fun i H M x m k=>by
 obtain⟨vs,ev,r'⟩:=m _ _ k.1;obtain⟨ws,ew,q'⟩:=m _ _ k.2;have l1:=r'.length;have l2:=q'.length;refine⟨fun hl=>?_,fun hl=>?_,fun y H' hy=>?_⟩
 ·simp only[zipD,List.length_zipWith] at hl
  exact⟨vs,ws,vs[i]'%[|5],ws[i]'%[|5],.of ev,.of ew,List.getElem?_eq_getElem _,List.getElem?_eq_getElem _⟩
 ·simp only[zipD,List.length_zipWith] at hl
  exact⟨vs,ws,.of ev,.of ew,by omega⟩
 ·obtain⟨T,p,p',hn,rfl,rfl,e1,e2⟩:=hy
  have ex:HExt K H (L2.upd H T (.tup [p,p'])):=HExt.upd (.inl hn);refine⟨ex,m.tup hn,fun d hd=>?_⟩;simp only[zipD,List.getElem?_zipWith] at hd;have f1:=e1 _ (.of ev);have f2:=e2 _ (.of ew);cases h1:xs[i]? with
  | none=>rw [h1] at hd;simp at hd
  | some dx =>
   cases h2:ys[i]? with
   | none=>rw [h1,h2] at hd;simp at hd
   | some dy =>
    rw[h1,h2] at hd;simp at hd;subst hd;obtain⟨v1,g1,g2⟩:=r'.get h1;obtain⟨v2,g3,g4⟩:=q'.get h2;rw[f1] at g1;cases g1;rw[f2] at g3;cases g3;exact .tup (.inl (.of L2.upd_same)) (.cons (g2.ext ex) (.cons (g4.ext ex) .nil))
section
variable {X:Cx} {rz:Bool} {Xe:DSt->DK} {pos:Pos}
theorem Ij {a:Expr} {es:List Expr} {ta:DA} {p:Pos} {elts:List Expr} {x1:Nat} {tp:Pos} (hg:Gl X "zip") (hm:X.mg "zip"=none) (ha:PA X (a::es) (ZX (X.L rz Xe) ta)) (hs:starEach (a::es) X.env=(false,eval a X.env)::starEach es X.env) (hpl:(backTo pos (starEach es X.env)).any (·.1)=false) :
  PI X (.Tuple elts x1 tp) (.Call (.Name "zip" p) (a::es) [] pos) (Xt (X.L rz Xe) (X1 ta)):=by
 rintro pins s σ H R I ⟨δ,M,Rd,rs,rm,t,q⟩;refine Call_ (Wi I hg hm boot_zip (PyProof.Rows.callWith_type1 (thn (ha pos pins s σ H (fun vs H1=>(∃ b c xs ys,vs=[.ref b,.ref c]/\SqT X.K H1 b xs/\SqT X.K H1 c ys/\R (Itz X.K b c) H1)\/∃ b c xs ys,vs=[.ref b,.ref c]/\SqL X.K H1 b xs/\SqL X.K H1 c ys/\R (ItzL X.K b c) H1) I ⟨δ,M,_,rs,rm,t,fun ds M1 vs H1 x1 m1 r1 h1=>?_⟩) fun us s1 ⟨vs,H1,I1,r1,q1⟩=>?_) hs hpl))
 ·unfold JN at h1
  split at h1
  ·refine r1.inv2 fun v w ev ra rb=>?_
   obtain⟨b,xs,e1,ha,ra⟩:=ra.inv;obtain⟨c,ys,e2,hb,rb⟩:=rb.inv;exact .inl ⟨_,_,_,_,by rw[ev,e1,e2],ha,hb,q _ _ _ _ _ x1 m1 trivial (FG ha hb ra rb) h1⟩
  ·obtain⟨xs,ys,ea,eb,h1⟩:=h1
   refine r1.inv2 fun v w e0 ra rb=>?_;have e1:=ra.inv;have e2:=rb.inv;obtain⟨vs,ev,_⟩:=m1 _ _ ea;obtain⟨ws,ew,_⟩:=m1 _ _ eb;exact .inr ⟨_,_,_,_,by rw[e0,show v=_ from e1,show w=_ from e2],.of ev,.of ew,q _ _ _ _ _ x1 m1 ⟨ea,eb⟩ DX h1⟩
  ·exact h1.elim
 ·rcases q1 with q1|q1
  ·obtain⟨b,c,xs,ys,e,hb,hc,q⟩:=q1
   subst e;refine Ud r1 fun u w eu r r'=>?_;subst eu;cases (show u=Value.ref b from r);cases (show w=Value.ref c from r');obtain⟨its,rv,pb,_⟩:=I1.tuple hb;obtain⟨its',rv',pc,_⟩:=I1.tuple hc;have lb:b<s1.heap.objs.size:=by obtain⟨o,e,_⟩:=pb;exact Heap.lt_size e
   have lc:c<s1.heap.objs.size:=by obtain⟨o,e,_⟩:=pc;exact Heap.lt_size e
   refine Gi (show s1.heap.IsTuple b its.toArray from pb) (show s1.heap.IsTuple c its'.toArray from pc) fun g st k=>?_;refine wpAny_pyIter_zip st.1 ?_;refine⟨_,[s1.heap.objs.size+4,s1.heap.objs.size+2,s1.heap.objs.size+3,s1.heap.objs.size,s1.heap.objs.size+1],_,_,H1,rfl,I1.kept (t':=s1.toks) k,Cr (zipApart_new lb lc),st,fun m hm=>?_,q⟩;have le:s1.heap.objs.size<=m:=by
    simp only[List.mem_cons,List.not_mem_nil,or_false] at hm;rcases hm with rfl|rfl|rfl|rfl|rfl
    ·exact Nat.le_add_right _ _
    ·exact Nat.le_add_right _ _
    ·exact Nat.le_add_right _ _
    ·exact Nat.le_refl _
    ·exact Nat.le_add_right _ _
   exact I1.fpOk le (I1.hok.fresh le)
  ·obtain⟨b,c,xs,ys,e,hb,hc,q⟩:=q1
   subst e;refine Ud r1 fun u w eu r r'=>?_;subst eu;cases (show u=Value.ref b from r);cases (show w=Value.ref c from r');obtain⟨its,rv,pb,_⟩:=I1.list hb;obtain⟨its',rv',pc,_⟩:=I1.list hc;have lb:b<s1.heap.objs.size:=by obtain⟨o,e,_⟩:=pb.isList;exact Heap.lt_size e
   have lc:c<s1.heap.objs.size:=by obtain⟨o,e,_⟩:=pc.isList;exact Heap.lt_size e
   refine call_zip_2 pb.isList pc.isList fun g st1 st2 st3 st4 st5 _ k=>?_;refine wpAny_pyIter_zip st1 ?_;refine⟨_,[s1.heap.objs.size+4,s1.heap.objs.size+2,s1.heap.objs.size+3,s1.heap.objs.size,s1.heap.objs.size+1],_,_,H1,rfl,I1.kept (t':=s1.toks) k,Bx (zipApart_new lb lc),⟨st1,st2,⟨_,_,st3⟩,st4,st5⟩,fun m hm=>?_,q⟩;have le:s1.heap.objs.size<=m:=by
    simp only[List.mem_cons,List.not_mem_nil,or_false] at hm;rcases hm with rfl|rfl|rfl|rfl|rfl
    ·exact Nat.le_add_right _ _
    ·exact Nat.le_add_right _ _
    ·exact Nat.le_add_right _ _
    ·exact Nat.le_refl _
    ·exact Nat.le_add_right _ _
   exact I1.fpOk le (I1.hok.fresh le)
end
end DL
end
noncomputable section
namespace DL
open PySem PySem.Spec PyProof.Rows L2
section
variable {prog:Program} {w:World} {A:Around} {E:Value->Shared->Prop} {s:Shared}
end
section
variable {X:Cx} {rz:Bool} {Xe:DSt->DK} {pos:Pos}
end
end DL
end
noncomputable section
namespace DL
open PySem PySem.Spec PyProof.Rows L2
section
variable {prog:Program} {w:World} {A:Around} {E:Value->Shared->Prop} {s:Shared}
end
section
variable {prog:Program} {w:World} {A:Around} {E:Value->Shared->Prop} {s:Shared}
end
section
variable {X:Cx} {rz:Bool} {Xe:DSt->DK} {pos p2:Pos}
end
end DL
end
noncomputable section
namespace DL
open PySem PySem.Spec PyProof.Rows L2
noncomputable def ini (c x:Str):Nat:=if c="" then 0 else if x="__init__" then 1 else 0
theorem ini0:ini "" x=0:=if_pos rfl
structure RefAt (K:Frag) (mg:Str->Option Value) (c x:Str) (f:Addr):Prop where
 fn:c=""->mg x=some (.ref f)/\PySem.W.keepIn K (.ref f)=true
 mt:c≠""->c∈oNames/\∃ C,Z1 K c C/\mg c=some (.ref C)/\(x≠"__init__"->Meth K C x f)/\(x="__init__"->Mk K C f)
structure FnAt (X:Cx) (c x:Str) (S:DSp):Prop where
 ex:∃ k f fd ps,FnOk X.prog X.w X.K X.mg X.base (CXR X.prog X.w) (k-ini c x) f fd ps (Wh X.K S)/\ini c x<=k/\(X.calm=true->Room k X.A)/\RefAt X.K X.mg c x f/\Binds X.K fd ps []
noncomputable def putD (f:Str) (d:D):List (Str×D)->List (Str×D)
 | []=>[(f,d)]
 | (g,x)::r=>if g=f then (g,d)::r else (g,x)::putD f d r
noncomputable def dFld (n f:Str) (ta:DE):DE:=fun δ M Q=>ta δ M fun x M1=>∃ a fs d,x=.ref a/\M1 a=some (.ob n fs)/\fs.lookup f=some d/\Q d M1
noncomputable def Wc (n m:Str) (S:DSp) (E:DSt->DK) (ta:DE) (t:DA):DE:=fun δ M Q=>ta δ M fun x M1=>∃ a fs,x=.ref a/\M1 a=some (.ob n fs)/\fs.lookup m=none/\t δ M1 fun xs M2=>S (.ref a::xs) M2 Q (E δ)
noncomputable def Wd (n:Str) (S:DSp) (E:DSt->DK) (t:DA):DE:=fun δ M Q=>t δ M fun xs M1=>alloc M1 (.ob n []) fun p M'=>S (.ref p::xs) M' (fun d M2=>d=.non/\Q (.ref p) M2) (E δ)
noncomputable def Wb (n f:Str) (i:Nat) (te:(DSt->DK)->DE):DS:=fun D δ M=>te D.ex δ M fun y M1=>∃ a fs,δ[i]?=some (some (.ref a))/\M1 a=some (.ob n fs)/\fs.length<1000/\D.nx δ (M1.upd a (.ob n (putD f y fs)))
section
variable {X:Cx} {rz:Bool} {Xe:DSt->DK} {e o:Expr} {es:List Expr} {t:DA} {te to:DE} {x n m f:Str} {p pos apos pos':Pos} {S:DSp}
theorem AV {k:Nat} {f:Addr} {fd:FuncData} {ps:List Str} {S:DSp} {pins:List (Addr×Obj)} {σ:L2.St} {H:Hp} {s:Shared} {Q:VK} {us:List Value} {vs:List V} {δ:DSt} {ds:List D} {M:Mem} {R:DK}
  (F:FnOk X.prog X.w X.K X.mg X.base (CXR X.prog X.w) k f fd ps (Wh X.K S)) (hr:Room k X.A) (hb:Binds X.K fd ps []) (I:L2.Inv X pins σ H s) (r:Vals vs us)
  (rs:RepS (X.L rz Xe) H δ σ) (rm:RepM X.K H M) (rd:RelDs X.K H vs ds) (h:S ds M R (Xe δ)) (q:∀ d' M' v H',HExt X.K H H'->RepM X.K H' M'->RelD X.K H' v d'->R d' M'->Q v H') :
  wpAny (model X.prog X.w) X.A (call (.ref f) us) (EP X pins σ Q) X.xe s:=by
 obtain⟨Ex,hEx⟩:∃ Ex:XK,Ex=fun cv odx H'=>∃ n M' C x,cv=.ref C/\HExt X.K H H'/\RepM X.K H' M'/\n∈xNames/\Z1 X.K n C/\ExD X.K H' n odx x/\Xe δ (.exc n x) M':=⟨_,rfl⟩;have hsp:Wh X.K S vs H Q Ex:=⟨ds,M,R,_,rd,rm,h,q,fun n M' H' C dd xd x m hn hc ed e=>by rw[hEx];exact⟨n,M',C,xd,rfl,x,m,hn,hc,ed,e⟩⟩;have hl:us.length=ps.length:=by rw[<- r.length];exact F.len _ _ _ _ hsp
 have hbb:=hb s us I.kIn (by simpa using hl);rw[List.append_nil] at hbb;refine wpAny_call (codeAny_mono (F.run X.A X.stack s H ⟨us,[]⟩ us vs Q Ex hr I.env0 hbb r hsp) fun res s' hq=>?_);cases res with
 | error e =>
  obtain⟨e0,C,dd,H',rfl,th,hE⟩:=(show CXR X.prog X.w X.stack H s Ex e s' from hq);rw[hEx] at hE;obtain⟨n,M',C',xd,hC,x,m,hn,hc,ed,hx⟩:=hE;cases hC;exact rs.ok.fly pins σ H s H' e0 C dd s' δ M' n xd x I th m (rs.toSlots.ext x) hn hc ed hx
 | ok fl =>
  cases fl with
  | ret u=>exact I.after hq
  | next=>exact False.elim hq
  | brk=>exact False.elim hq
  | cont=>exact False.elim hq
end
end DL
end
noncomputable section
namespace DL
open PySem PySem.Spec PyProof.Rows L2
theorem vals_ints:∀ {acc:List Value} {n:Nat} {k:Nat},acc.length=n->(∀ (j:Nat) (v:Value),acc[j]?=some v->∃ t,v=Value.int (i+((k+j:Nat):Int)*1) t)->Vals ((List.range' k n).map fun m:Nat=>V.int (i+(m:Int))) acc
 | [],n,k,hl,_=>by subst hl;exact .nil
 | v::acc,n,k,hl,h=>by
  subst hl;rw[List.length_cons,List.range'_succ,List.map_cons];refine .cons ?_ (vals_ints (k:=k+1) rfl fun j v hv=>?_)
  ·obtain⟨t,e⟩:=h 0 v rfl
   exact⟨t,by rw[e];simp⟩
  ·obtain⟨t,e⟩:=h (j+1) v (by simpa using hv)
   exact⟨t,by rw[e];congr 3;omega⟩
section
variable {X:Cx} {e:Expr} {es:List Expr} {t:TA} {p p2 pos pos2:Pos}
end
section
variable {X:Cx} {rz:Bool} {a b e:Expr} {te ta tb:(DSt->DK)->DE} {pos pos':Pos}
end
section
variable {X:Cx} {rz:Bool} {Xe:DSt->DK} {e:Expr} {es:List Expr} {t:DA} {p p2 pos pos2:Pos}
end
section
variable {X:Cx} {a b:Expr} {rest:List Expr} {pos:Pos}
end
section
variable {X:Cx} {i j k:Nat} {x y z:Str} {a b c:Expr} {px py pz pt pos:Pos} {kt k2:Nat} {pt2:Pos}
end
end DL
namespace PySem
open Sem (wp)
section
variable {prog:Program} {w:World} {A:Around} {E:Value->Shared->Prop} {s:Shared}
end
end PySem
namespace DL
open PySem PySem.Spec PyProof.Rows L2
section
variable {z u v i j b c:Addr} {n:Nat}
variable {prog:Program} {w:World} {A:Around} {E:Value->Shared->Prop} {s:Shared} {xs ys:Array Value} {x y:Value}
end
section
variable {X:Cx} {pins:List (Addr×Obj)} {σ:L2.St} {z u v i j b c S:Addr} {A:Around} {R:Result->Shared->Prop} {res:Value} {vs ws:List V}
end
end DL
namespace PySem
namespace F
end F
end PySem
namespace DL
open PySem PySem.Spec PyProof.Rows L2
section
variable {X:Cx} {pins:List (Addr×Obj)} {σ:L2.St} {z u v i j b c S:Addr} {A:Around} {R:Result->Shared->Prop} {res:Value} {vs ws:List V} {H:Hp} {s:Shared}
end
end DL
namespace DL
open PySem PySem.Spec PyProof.Rows L2
section
variable {X:Cx} {e:Expr} {es:List Expr} {t:TA} {p p2 pos pos2:Pos}
end
section
variable {X:Cx} {rz:Bool} {Xe:DSt->DK} {e:Expr} {es:List Expr} {t:DA} {p p2 pos pos2:Pos}
end
end DL
namespace DL
open PySem PySem.Spec PyProof.Rows L2
section
variable {X:Cx}
end
section
variable {X:Cx} {rz:Bool} {Xe:DSt->DK} {o e:Expr} {to ta:DE} {apos cpos:Pos}
end
section
variable {X:Cx} {a b:Expr} {p1 p2 p3 pos:Pos} {k:Nat} {x:Str}
end
section
variable {X:Cx} {rz:Bool} {Xe:DSt->DK} {a b:Expr} {ta tb:DE} {p1 p2 p3 pos:Pos} {k:Nat} {x:Str}
end
section
variable {X:Cx}
end
section
variable {X:Cx} {rz:Bool} {Xe:DSt->DK} {tg:Expr}
end
section
variable {X:Cx} {rz:Bool} {a b e:Expr} {te ta tb:(DSt->DK)->DE} {pos pos':Pos}
end
section
variable {X:Cx} {rz:Bool} {Xe:DSt->DK} {o e f:Expr} {to ta tb:DE} {apos pos:Pos}
end
end DL
end
noncomputable section
namespace DL
open PySem PySem.Spec PyProof.Rows L2
section
variable {X:Cx} {rz:Bool} {Xe:DSt->DK} {pos:Pos}
variable {a b:Expr} {ta tb:DE}
end
section
variable {X:Cx} {rz:Bool} {Xe:DSt->DK} {tg:Expr}
end
section
variable {X:Cx}
end
section
variable {X:Cx} {rz:Bool} {Xe:DSt->DK} {o:Expr} {to:DE} {apos cpos:Pos}
variable {e:Expr} {ta:DE} {pos:Pos}
end
end DL
end
noncomputable section
namespace DL
open PySem PySem.Spec PyProof.Rows L2
section
variable {X:Cx}
end
section
variable {X:Cx} {rz:Bool} {Xe:DSt->DK} {o e:Expr} {to ta:DE} {apos cpos:Pos}
end
section
variable {X:Cx} {a b:Expr} {p1 p2 p3 pos:Pos} {k:Nat} {x:Str}
end
section
variable {X:Cx} {rz:Bool} {Xe:DSt->DK} {a b:Expr} {ta tb:DE} {p1 p2 p3 pos:Pos} {k:Nat} {x:Str}
end
section
variable {X:Cx} {a b c:Expr} {p1 p2 p3 p4 p5 pos:Pos} {k k2:Nat} {x y:Str}
end
section
variable {X:Cx} {rz:Bool} {Xe:DSt->DK} {a b c:Expr} {ta tb tc:DE} {p1 p2 p3 p4 p5 pos:Pos} {k k2:Nat} {x y:Str}
end
end DL
end
noncomputable section
namespace DL
open PySem PySem.W PyProof.Rows L2
section
variable (lt:Nat->Nat->Bool) (N:Nat)
variable {lt N}
noncomputable def gA (p:Array Nat) (i:Nat):Nat:=p.getD i 0
noncomputable def St (lt:Nat->Nat->Bool) (p:Array Nat) (k:Nat):Prop:=∀ i j,i<=j->j<k->lt (gA p j) (gA p i)=false
end
section
variable {prog:Program} {w:World} {A:Around} {E:Value->Shared->Prop} {s:Shared}
end
section
variable {X:Cx}
end
end DL
end
noncomputable section
namespace DL
open PySem PySem.Spec PyProof.Rows L2
section
variable {X:Cx} {rz:Bool} {Xe:DSt->DK} {e o:Expr} {es:List Expr} {t:DA} {te to:DE} {x:Str} {p pos apos:Pos}
theorem FZ (hcal:X.calm=true) (F:FnAt X "" x S) (hg:Gl X x) (ha:PA X (e::es) (ZX (X.L rz Xe) t)) (hdb:(x==("__debug__":Str))=false) (he:starEach (e::es) X.env=(false,eval e X.env)::starEach es X.env) (hpl:(backTo pos (starEach es X.env)).any (·.1)=false) :
  PE X (.Call (.Name x p) (e::es) [] pos) (lift (X.L rz Xe) (Zu S Xe t)):=by
 obtain⟨k,f,fd,ps,F,_,hr,rf,hb⟩:=F.ex;rw[ini0,Nat.sub_zero] at F;obtain⟨hm,hk⟩:=rf.fn rfl;rintro pins s σ H Q I ⟨δ,M,R,rs,rm,t,q⟩;refine wpAny_Call_Name_kw (Vo I hg hm ?_ hdb);refine PySem.W.callWith_K (h₀:=X.base) I.ok.mod.kin hk (thn (ha pos pins s σ H (fun vs H1=>∃ ds M1,HExt X.K H H1/\RepM X.K H1 M1/\RelDs X.K H1 vs ds/\S ds M1 R (Xe δ)) I ⟨δ,M,_,rs,rm,t,fun ds M1 vs H1 x m r h=>⟨ds,M1,x,m,r,h⟩⟩) fun us s1 ⟨vs,H1,I1,r,ds,M1,x1,m1,r1,h1⟩=>⟨I1.kIn,?_⟩) he hpl;exact AV F (hr hcal) hb I1 r (rs.ext x1) m1 r1 h1 fun d' M' v H' x=>q d' M' v H' (x1.trans x)
theorem Ey (hcal:X.calm=true) (F:FnAt X "" x S) (hg:Gl X x) (hdb:(x==("__debug__":Str))=false):PE X (.Call (.Name x p) [] [] pos) (lift (X.L rz Xe) (Zu S Xe dNil)):=by
 obtain⟨k,f,fd,ps,F,_,hr,rf,hb⟩:=F.ex;rw[ini0,Nat.sub_zero] at F;obtain⟨hm,hk⟩:=rf.fn rfl;rintro pins s σ H Q I ⟨δ,M,R,rs,rm,t,q⟩;refine wpAny_Call_Name_kw (Vo I hg hm ?_ hdb);exact PySem.W.callWith_K0 I.kIn hk (AV (us:=[]) F (hr hcal) hb I .nil rs rm .nil t q)
noncomputable def Y9 (alts:List (Str×DSp)) (i:Nat) (Xe:DSt->DK) (t:DA):DE:=fun δ M Q=>∃ n S,δ[i]?=some (some (.fn n))/\(n,S)∈alts/\t δ M fun ds M1=>S ds M1 Q (Xe δ)
structure GloAt (X:Cx) (x:Str) (d:D):Prop where
 ex:∃ u v,X.mg x=some u/\RelV v u/\∀ H,RelD X.K H v d
noncomputable def dApp (to te:DE):DE:=fun δ M Q=>to δ M fun o M1=>∃ a ys,o=.lst a/\M1 a=some (.ls ys)/\te δ M1 fun y M2=>∃ xs,M2 a=some (.ls xs)/\xs.length<sizeLine/\Q .non (M2.upd a (.ls (xs++[y])))
theorem ID (ho:PE X o (lift (X.L rz Xe) to)) (he:PE X e (lift (X.L rz Xe) te)) (hbase:attributeBase o "append" X.env (eval o X.env)=eval o X.env) (hs:∀ es,starEach (e::es) X.env=(false,eval e X.env)::starEach es X.env) (hline:(apos.endLine==pos.line)=true) :
  PE X (.Call (.Attribute o "append" apos) [e] [] pos) (lift (X.L rz Xe) (dApp to te)):=by
 refine (De PySem.F.plainAttrs_list PySem.F.slot_list_append PySem.F.type_list_append Um ho (W7 he VZ (hs _)) hbase (by rw[hs];rfl) hline (hs _) rfl).imp fun σ H Q h=>?_;obtain⟨δ,M,R,rs,rm,t,q⟩:=h;refine⟨δ,M,_,rs,rm,t,fun d M1 v H1 x1 m1 r1 hq7=>?_⟩;obtain⟨a,ys,e1,e2,h1⟩:=hq7;subst e1
 (first|cases (show _=_ from r1.inv)|cases r1)
 obtain⟨vs,ev,_⟩:=m1 _ _ e2;refine⟨.inl ⟨rfl,_,.of ev⟩,δ,M1,fun ds M2=>∃ y,ds=[y]/\∃ xs,M2 a=some (.ls xs)/\xs.length<sizeLine/\R .non (M2.upd a (.ls (xs++[y]))),rs.ext x1,m1,?_,fun ds M2 vs H2 x2 m2 r2 ⟨y,e3,xs,e4,hz,h2⟩=>?_⟩
 ·obtain⟨K',hK'⟩:∃ K':D->Mem->Prop,K'=fun y M2=>∃ xs,M2 a=some (.ls xs)/\xs.length<sizeLine/\R .non (M2.upd a (.ls (xs++[y]))):=⟨_,rfl⟩
  have:(fun x M2=>∃ y,[x]=[y]/\∃ xs,M2 a=some (.ls xs)/\xs.length<sizeLine/\R .non (M2.upd a (.ls (xs++[y]))))=K':=by
   rw[hK'];funext x M2;apply propext;constructor
   ·rintro⟨y,e,h⟩;cases e;exact h
   ·exact fun h=>⟨x,rfl,h⟩
  show te δ M1 fun x M2=>∃ y,[x]=[y]/\∃ xs,M2 a=some (.ls xs)/\xs.length<sizeLine/\R .non (M2.upd a (.ls (xs++[y])));rw[this,hK'];exact h1
 ·subst e3
  obtain⟨v,rfl,rv⟩:=r2.one;obtain⟨ws,ew,rw'⟩:=m2 _ _ e4;exact⟨a,ws,v,rfl,rfl,ew,by rw[rw'.length];exact hz,q _ _ _ _ ((x1.trans x2).trans (.upd (.inr ⟨_,ew,trivial⟩))) (m2.write ew (rw'.append (.cons rv .nil))) .non h2⟩
noncomputable def dExt (to te:DE):DE:=fun δ M Q=>to δ M fun o M1=>∃ a ys,o=.lst a/\M1 a=some (.ls ys)/\te δ M1 fun y M2=>∃ b xs zs,y=.lst b/\M2 a=some (.ls xs)/\M2 b=some (.ls zs)/\xs.length+zs.length<=sizeLine/\Q .non (M2.upd a (.ls (xs++zs)))
theorem Iz (ho:PE X o (lift (X.L rz Xe) to)) (he:PE X e (lift (X.L rz Xe) te)) (hbase:attributeBase o "extend" X.env (eval o X.env)=eval o X.env) (hs:∀ es,starEach (e::es) X.env=(false,eval e X.env)::starEach es X.env) (hline:(apos.endLine==pos.line)=true) :
  PE X (.Call (.Attribute o "extend" apos) [e] [] pos) (lift (X.L rz Xe) (dExt to te)):=by
 refine (De PySem.F.plainAttrs_list PySem.F.slot_list_extend PySem.F.type_list_extend BM ho (W7 he VZ (hs _)) hbase (by rw[hs];rfl) hline (hs _) rfl).imp fun σ H Q h=>?_;obtain⟨δ,M,R,rs,rm,t,q⟩:=h;refine⟨δ,M,_,rs,rm,t,fun d M1 v H1 x1 m1 r1 hq7=>?_⟩;obtain⟨a,ys,e1,e2,h1⟩:=hq7;subst e1
 (first|cases (show _=_ from r1.inv)|cases r1)
 obtain⟨vs,ev,_⟩:=m1 _ _ e2;refine⟨.inl ⟨rfl,_,.of ev⟩,δ,M1,fun ds M2=>∃ y,ds=[y]/\∃ b xs zs,y=.lst b/\M2 a=some (.ls xs)/\M2 b=some (.ls zs)/\xs.length+zs.length<=sizeLine/\R .non (M2.upd a (.ls (xs++zs))),rs.ext x1,m1,?_,fun ds M2 vs H2 x2 m2 r2 ⟨y,e3,b,xs,zs,e5,e4,e6,hz,h2⟩=>?_⟩
 ·have:(fun (x:DL.D) (M2:Mem)=>∃ y,[x]=[y]/\∃ b xs zs,y=D.lst b/\M2 a=some (.ls xs)/\M2 b=some (.ls zs)/\xs.length+zs.length<=sizeLine/\R .non (M2.upd a (.ls (xs++zs))))=fun (y:DL.D) (M2:Mem)=>∃ b xs zs,y=D.lst b/\M2 a=some (.ls xs)/\M2 b=some (.ls zs)/\xs.length+zs.length<=sizeLine/\R .non (M2.upd a (.ls (xs++zs))):=by
   funext x M2;apply propext;constructor
   ·rintro⟨y,e,h⟩;cases e;exact h
   ·exact fun h=>⟨x,rfl,h⟩
  show te δ M1 fun x M2=>∃ y,[x]=[y]/\∃ b xs zs,y=D.lst b/\M2 a=some (.ls xs)/\M2 b=some (.ls zs)/\xs.length+zs.length<=sizeLine/\R .non (M2.upd a (.ls (xs++zs)));rw[this];exact h1
 ·subst e3
  subst e5;obtain⟨v,rfl,rv⟩:=r2.one;cases rv;obtain⟨ws,ew,rw'⟩:=m2 _ _ e4;obtain⟨us,eu,ru'⟩:=m2 _ _ e6;exact⟨a,b,ws,us,rfl,rfl,ew,eu,by rw[rw'.length,ru'.length];exact hz,q _ _ _ _ ((x1.trans x2).trans (.upd (.inr ⟨_,ew,trivial⟩))) (m2.write ew (rw'.append ru')) .non h2⟩
noncomputable def dIns (to ta te:DE):DE:=fun δ M Q=>to δ M fun o M1=>∃ a ys,o=.lst a/\M1 a=some (.ls ys)/\ta δ M1 fun x M2=>te δ M2 fun y M3=>∃ xs k,x=.int k/\M3 a=some (.ls xs)/\0<=k/\k<=xs.length/\xs.length<sizeLine/\Q .non (M3.upd a (.ls (Ks xs k y)))
noncomputable def dIdx (to te:DE):DE:=fun δ M Q=>to δ M fun o M1=>∃ a ys,o=.lst a/\M1 a=some (.ls ys)/\te δ M1 fun y M2=>∃ xs j,M2 a=some (.ls xs)/\IxAt M2 xs y j/\Q (.int j) M2
theorem Iy (hu:X.A.units+66<cLine) (ho:PE X o (lift (X.L rz Xe) to)) (he:PE X e (lift (X.L rz Xe) te)) (hbase:attributeBase o "index" X.env (eval o X.env)=eval o X.env) (hs:∀ es,starEach (e::es) X.env=(false,eval e X.env)::starEach es X.env) (hline:(apos.endLine==pos.line)=true) :
  PE X (.Call (.Attribute o "index" apos) [e] [] pos) (lift (X.L rz Xe) (dIdx to te)):=by
 refine (De PySem.F.plainAttrs_list PySem.F.slot_list_index PySem.F.type_list_index (DF hu) ho (W7 he VZ (hs _)) hbase (by rw[hs];rfl) hline (hs _) rfl).imp fun σ H Q h=>?_;obtain⟨δ,M,R,rs,rm,t,q⟩:=h;refine⟨δ,M,_,rs,rm,t,fun d M1 v H1 x1 m1 r1 hq7=>?_⟩;obtain⟨a,ys,e1,e2,h1⟩:=hq7;subst e1
 (first|cases (show _=_ from r1.inv)|cases r1)
 obtain⟨vs,ev,_⟩:=m1 _ _ e2;refine⟨.inl ⟨rfl,_,.of ev⟩,δ,M1,fun ds M2=>∃ y,ds=[y]/\∃ xs j,M2 a=some (.ls xs)/\IxAt M2 xs y j/\R (.int j) M2,rs.ext x1,m1,?_,fun ds M2 vs H2 x2 m2 r2 hq8=>?_⟩
 ·have:(fun (x:DL.D) (M2:Mem)=>∃ y,[x]=[y]/\∃ xs j,M2 a=some (.ls xs)/\IxAt M2 xs y j/\R (.int j) M2)=fun (y:DL.D) (M2:Mem)=>∃ xs j,M2 a=some (.ls xs)/\IxAt M2 xs y j/\R (.int j) M2:=by
   funext x M2;apply propext;constructor
   ·rintro⟨y,e,h⟩;cases e;exact h
   ·exact fun h=>⟨x,rfl,h⟩
  show te δ M1 fun x M2=>∃ y,[x]=[y]/\∃ (xs:List DL.D) (j:Nat),M2 a=some (.ls xs)/\IxAt M2 xs y j/\R (.int j) M2;rw[this];exact h1
 ·obtain⟨y,e3,xs,j,e4,hx,h2⟩:=hq8
  subst e3;obtain⟨v,rfl,rv⟩:=r2.one;exact⟨a,v,M2,xs,y,j,rfl,rfl,m2,e4,rv,hx,q _ _ _ _ (x1.trans x2) m2 (.int _) h2⟩
end
inductive Bi|abs|all|any|divmod|isinstance|len|max|min|tuple|list
 deriving DecidableEq
noncomputable def U6:Bi->Str
 | .abs=>"abs" | .all=>"all" | .any=>"any" | .divmod=>"divmod" | .isinstance=>"isinstance" | .len=>"len" | .max=>"max" | .min=>"min" | .tuple=>"tuple" | .list=>"list"
noncomputable def GS:Bi->List D->Mem->DK->Prop
 | .abs=>fAbs | .all=>fAll | .any=>fAny | .divmod=>J9 | .isinstance=>fIsi | .len=>fLen | .max=>fMax | .min=>fMin | .tuple=>Y8 | .list=>Yi
inductive Ty|int|bool|str|tuple|list|dict|valueError
 deriving DecidableEq
noncomputable def WH:Ty->Str
 | .int=>"int" | .bool=>"bool" | .str=>"str" | .tuple=>"tuple" | .list=>"list" | .dict=>"dict" | .valueError=>"ValueError"
noncomputable def AN:Ty->String
 | .int=>"int" | .bool=>"bool" | .str=>"str" | .tuple=>"tuple" | .list=>"list" | .dict=>"dict" | .valueError=>"ValueError"
theorem ER (t:Ty):bootBuiltins (WH t)=some (.type (AN t)):=by cases t<;>kernel_rfl
noncomputable def quiet:Bi->Bool
 | .isinstance=>true
 | _=>false
structure Blt (mg:Str->Option Value):Prop where
 bi:∀ b,mg (U6 b)=none
 ty:∀ t,mg (WH t)=none
 range:mg "range"=none
 zip:mg "zip"=none
 enum:mg "enumerate"=none
 lis:mg "list"=none
 rvs:mg "reversed"=none
section
variable {X:Cx} {rz:Bool} {Xe:DSt->DK} {e:Expr} {es:List Expr} {t:DA} {p pos:Pos}
theorem Kz (b:Bi) (tab:Xr X.K=true) (hB:Blt X.mg) (hq:X.calm=true\/quiet b=true) (hg:Gl X (U6 b)) (ha:PA X (e::es) (ZX (X.L rz Xe) t)) (he:starEach (e::es) X.env=(false,eval e X.env)::starEach es X.env) (hpl:(backTo pos (starEach es X.env)).any (·.1)=false) :
  PE X (.Call (.Name (U6 b) p) (e::es) [] pos) (lift (X.L rz Xe) (dCB (GS b) t)):=by
 have hm:=hB.bi b;cases b with
 | abs=>exact (Zq IN hg hm (by kernel_rfl) ha %[|4] %[|4] he hpl).imp fun _ _ _=>Xa
 | all=>exact (Zq (IM (hq.resolve_right Bool.false_ne_true)) hg hm (by kernel_rfl) ha %[|4] %[|4] he hpl).imp fun _ _ _=>Xa
 | any=>exact (Zq (IL (hq.resolve_right Bool.false_ne_true)) hg hm (by kernel_rfl) ha %[|4] %[|4] he hpl).imp fun _ _ _=>Xa
 | divmod=>exact (Zq Cf hg hm (by kernel_rfl) ha %[|4] %[|4] he hpl).imp fun _ _ _=>Xa
 | isinstance=>exact (Zq (IK tab) hg hm (by kernel_rfl) ha %[|4] %[|4] he hpl).imp fun _ _ _=>Xa
 | len=>exact (Zq IJ hg hm (by kernel_rfl) ha %[|4] %[|4] he hpl).imp fun _ _ _=>Xa
 | max=>exact (Zq (II (hq.resolve_right Bool.false_ne_true)) hg hm (by kernel_rfl) ha %[|4] %[|4] he hpl).imp fun _ _ _=>Xa
 | min=>exact (Zq (IH (hq.resolve_right Bool.false_ne_true)) hg hm (by kernel_rfl) ha %[|4] %[|4] he hpl).imp fun _ _ _=>Xa
 | tuple=>exact (Uk EG hg hm (by kernel_rfl) ha %[|4] %[|4] he hpl).imp fun _ _ _=>Xa
 | list=>exact (Uk Gj hg hm (by kernel_rfl) ha %[|4] %[|4] he hpl).imp fun _ _ _=>Xa
theorem Kv (t:Ty) (hB:Blt X.mg) (hg:Gl X (WH t)):PE X (.Name (WH t) pos) (lift (X.L rz Xe) (dC (.ty (AN t)))) :=
 WU (Fo (v:=.ty (AN t)) hg (hB.ty t) (ER t) rfl (by cases t<;>decide) (by cases t<;>decide)) fun H=>.ty _
end
mutual
inductive CE where
 | var (i:Nat)
 | int (i:Int)|bl (b:Bool)|non|str (x:Str)
 | glo (x:Str) (d:D)|ty (t:Ty)
 | bin (op:Operator) (a b:CE)|neg (a:CE)|not (a:CE)
 | cmp (op:CmpOp) (a b:CE)|chain (op op':CmpOp) (a b c:CE)
 | one (a:CE)|and (a b:CE)|or (a b:CE)
 | ife (c a b:CE)
 | tup (es:CEs)|lst (es:CEs)
 | ix (a b:CE)|sl (a:CE) (lo hi:CO)
 | call (x:Str) (S:DSp) (es:CEs)
 | bi (b:Bi) (es:CEs)
 | app (i:Nat) (e:CE)|ext (i:Nat) (e:CE)|idx (i:Nat) (e:CE)
 | lrev (es:CEs)
 | comp (N':List Str) (n:Nat) (g:CG) (it:CI) (elt:CE)
 | compI (N':List Str) (n:Nat) (g:CG) (it:CI) (c elt:CE)
inductive CEs where
 | nil|cons (e:CE) (es:CEs)
inductive CO where
 | none|some (e:CE)
inductive CG where
 | name (i:Nat)|tup (gs:CGs)|sub (a b:CE)
inductive CGs where
 | nil|cons (g:CG) (gs:CGs)
inductive CI where
 | seq (e:CE)|rng (es:CEs)|zip (es:CEs)
end
structure Rd where
 e:DE
 t:DT
noncomputable def CEs.len:CEs->Nat
 | .nil=>0
 | .cons _ es=>es.len+1
noncomputable def CGs.len:CGs->Nat
 | .nil=>0
 | .cons _ es=>es.len+1
noncomputable def plain (t:DE):Rd:=⟨t,dTru t⟩
mutual
noncomputable def rE (Xe:DSt->DK):CE->Rd
 | .var i=>plain (dVar i)
 | .int i=>⟨dC (.int i),fun _ _ _=>False⟩
 | .bl b=>⟨dC (.bl b),fun _ _ _=>False⟩
 | .non=>⟨dC .non,fun _ _ _=>False⟩
 | .str x=>⟨dC (.str x),fun _ _ _=>False⟩
 | .glo _ d=>plain (dC d)
 | .ty t=>plain (dC (.ty (AN t)))
 | .bin op a b=>plain (d2 (bOp op) (rE Xe a).e (rE Xe b).e)
 | .neg a=>plain (dNeg (rE Xe a).e)
 | .not a=>⟨EA (rE Xe a).e,dNot (rE Xe a).t⟩
 | .cmp op a b=>⟨d2 (cOp op) (rE Xe a).e (rE Xe b).e,Bk (d2 (cOp op) (rE Xe a).e (rE Xe b).e)⟩
 | .chain op op' a b c=>⟨U0 (cOp op) (cOp op') (rE Xe a).e (rE Xe b).e (rE Xe c).e,Bk (U0 (cOp op) (cOp op') (rE Xe a).e (rE Xe b).e (rE Xe c).e)⟩
 | .one a=>rE Xe a
 | .and a b=>⟨Bp (rE Xe a).e (rE Xe b).e,dAnd (rE Xe a).t (rE Xe b).t⟩
 | .or a b=>⟨dOrV (rE Xe a).e (rE Xe b).e,dOr (rE Xe a).t (rE Xe b).t⟩
 | .ife c a b=>⟨dIfE (rE Xe c).t (rE Xe a).e (rE Xe b).e,fun _ _ _=>False⟩
 | .tup es=>plain (dTup (rEs Xe es))
 | .lst es=>plain (dLst (rEs Xe es))
 | .ix a b=>plain (d2 iOp (rE Xe a).e (rE Xe b).e)
 | .sl a lo hi=>plain (dSl (rE Xe a).e (rO Xe lo) (rO Xe hi))
 | .lrev es=>plain (dCB JV (rEs Xe es))
 | .call _ S es=>plain (Zu S Xe (rEs Xe es))
 | .bi b es=>plain (dCB (GS b) (rEs Xe es))
 | .app i e=>plain (dApp (dVar i) (rE Xe e).e)
 | .ext i e=>plain (dExt (dVar i) (rE Xe e).e)
 | .idx i e=>plain (dIdx (dVar i) (rE Xe e).e)
 | .comp _ n g it elt=>plain (YO n (rI Xe it) (rG X0 g) (rE X0 elt).e)
 | .compI _ n g it c elt=>plain (XN n (rI Xe it) (rG X0 g) (bIf (rE X0 c).t (XR (rE X0 elt).e)))
noncomputable def rEs (Xe:DSt->DK):CEs->DA
 | .nil=>dNil
 | .cons e es=>Z5 (rE Xe e).e (rEs Xe es)
noncomputable def rO (Xe:DSt->DK):CO->DO
 | .none=>Bm
 | .some e=>JX (rE Xe e).e
noncomputable def rG (Xe:DSt->DK):CG->DG
 | .name i=>Xp i
 | .tup gs=>Yn gs.len (rGs Xe gs)
 | .sub a b=>GL (rE Xe a).e (rE Xe b).e
noncomputable def rGs (Xe:DSt->DK):CGs->DGs
 | .nil=>GM
 | .cons g gs=>Eg (rG Xe g) (rGs Xe gs)
noncomputable def rI (Xe:DSt->DK):CI->DI
 | .seq e=>Yu (rE Xe e).e
 | .rng es=>YI (rEs Xe es)
 | .zip es=>X1 (rEs Xe es)
end
structure Ck where
 N:List Str
 sc:Scope
 top:Bool
 cal:Bool
noncomputable def Ck.kind (k:Ck) (x:Str):Option NameKind:=k.sc.names.lookup x
noncomputable def Ck.gl (k:Ck) (x:Str):Bool:=decide (k.kind x=some .globalImplicit)
noncomputable def Ck.vis (k:Ck) (x:Str):Bool:=decide (k.kind x=some .local) || decide (k.kind x=some .cell) || decide (k.kind x=some .free)
noncomputable def Ck.loc (k:Ck) (x:Str):Bool:=decide (k.kind x=some .local) || (k.top&&decide (k.kind x=some .cell))
noncomputable def Xn (x:Str):Bool:=!(x==("__debug__":Str))&&!(x==("__classdict__":Str))
noncomputable def Ck.slot (k:Ck) (i:Nat) (x:Str):Bool:=decide (k.N[i]?=some x)&&k.vis x&&Xn x
noncomputable def blkB (k:Ck) (N':List Str) (sc:Scope):Bool :=
 decide (sc.kind=.function)&&sc.names.all (fun y=>!decide (y.2=.cell))&&sc.names.all (fun y=>!decide (y.2=.local) || decide (sc.names.lookup y.1=some .local))
 && sc.names.all (fun y=>!decide (y.2=.free) || decide (k.kind y.1=some .cell) || decide (k.kind y.1=some .free))
 && (List.range k.N.length).all (fun i=>match N'[i]? with
   | some x=>match sc.names.lookup x with
    | some .free=>decide (k.N[i]?=some x)
    | some .local=>false
    | some .cell=>false
    | _=>true
   | none=>true)&&decide (k.N.length<=N'.length)&&decide N'.Nodup
mutual
noncomputable def isE (k:Ck):CE->Expr->Bool
 | .var i,e=>YL e fun x p=>k.slot i x
 | .int i,e=>ZF e fun c q p=>qInt c fun j=>decide (i=j)
 | .bl b,e=>ZF e fun c q p=>GA c fun j=>decide (b=j)
 | .non,e=>ZF e fun c q p=>CU c (true)
 | .str x,e=>ZF e fun c q p=>qStr c fun j=>decide (x=j)
 | .glo x _,e=>YL e fun y p=>decide (x=y)&&k.gl x&&Xn x
 | .ty t,e=>YL e fun y p=>decide (WH t=y)&&k.gl y
 | .bin op a b,e=>CV e fun x op' y p=>decide (op=op')&&isE k a x&&isE k b y
 | .neg a,e=>VF e fun o x p=>Gy o (isE k a x)
 | .not a,e=>VF e fun o x p=>qNot o (isE k a x)
 | .cmp op a b,e=>VG e fun x os ys p=>Yg os fun o os=>qNil os (Yg ys fun y ys=>qNil ys (decide (op=o)&&isE k a x&&isE k b y))
 | .chain op op' a b c,e=>VG e fun x os ys p=>Yg os fun o os=>Yg os fun o' os=>qNil os (Yg ys fun y ys=>Yg ys fun z ys=>qNil ys (decide (op=o)&&decide (op'=o')&&isE k a x&&isE k b y&&isE k c z))
 | .one a,e=>Vi e fun op xs pos=>Yg xs fun x xs=>qNil xs (isE k a x)
 | .and a b,e=>Vi e fun op xs pos=>qAnd op (Yg xs fun x xs=>Yg xs fun y r=>isE k a x&&isE k b (.BoolOp .And (y::r) pos))
 | .or a b,e=>Vi e fun op xs pos=>qOr op (Yg xs fun x xs=>Yg xs fun y r=>isE k a x&&isE k b (.BoolOp .Or (y::r) pos))
 | .ife c a b,e=>CQ e fun x y z p=>isE k c x&&isE k a y&&isE k b z
 | .tup es,e=>XA e fun xs q p=>isEs k es xs
 | .lst es,e=>Gz e fun xs p=>isEs k es xs
 | .ix a b,e=>Xl e fun x y p=>isE k a x&&isE k b y
 | .sl a lo hi,e=>Xl e fun x y p=>CM y fun l u s q=>CP s (isE k a x&&isO k lo l&&isO k hi u)
 | .lrev es,e=>Xs e fun f xs kw pos=>YL f fun y p=>Yg xs fun a r=>qNil r (Xs a fun f2 xs2 kw2 pos2=>YL f2 fun z p2=>Yg xs2 fun x r2=>qNil r2 (qNil kw2 (qNil kw (decide (y="list")&&k.gl y&&decide (z="reversed")&&k.gl z&&isEs k es [x]&&k.cal))))
 | .call x _ es,e=>Xs e fun f xs kw pos=>YL f fun y p=>qNil kw (decide (x=y)&&k.gl x&&Xn x&&isEs k es xs&&k.cal)
 | .bi b es,e=>Xs e fun f xs kw pos=>YL f fun y p=>Yg xs fun a r=>qNil kw (decide (U6 b=y)&&k.gl y&&isEs k es (a::r)&&(k.cal || quiet b))
 | .app i a,e=>Xs e fun f xs kw pos=>Zf f fun o m ap=>YL o fun x p=>Yg xs fun y r=>qNil r (qNil kw (decide (m="append")&&k.slot i x&&isE k a y&&(ap.endLine==pos.line)))
 | .ext i a,e=>Xs e fun f xs kw pos=>Zf f fun o m ap=>YL o fun x p=>Yg xs fun y r=>qNil r (qNil kw (decide (m="extend")&&k.slot i x&&isE k a y&&(ap.endLine==pos.line)))
 | .idx i a,e=>Xs e fun f xs kw pos=>Zf f fun o m ap=>YL o fun x p=>Yg xs fun y r=>qNil r (qNil kw (decide (m="index")&&k.slot i x&&isE k a y&&(ap.endLine==pos.line)))
 | .comp N' n g it elt,e=>WL e fun y gs sc p=>Yg gs fun q gs=>qMk q fun tg iter ifs z=>qNil ifs (qNil gs (decide (z=0)&&blkB k N' sc&&decide (n=N'.length-k.N.length)&&isG ⟨N',sc,false,k.cal⟩ g tg&&isI k tg it iter&&isE ⟨N',sc,false,k.cal⟩ elt y&&k.cal))
 | .compI N' n g it c elt,e=>WL e fun y gs sc p=>Yg gs fun q gs=>qMk q fun tg iter ifs z=>Yg ifs fun x ifs=>qNil ifs (qNil gs (decide (z=0)&&blkB k N' sc&&decide (n=N'.length-k.N.length)&&isG ⟨N',sc,false,k.cal⟩ g tg&&isI k tg it iter&&isE ⟨N',sc,false,k.cal⟩ c x&&isE ⟨N',sc,false,k.cal⟩ elt y&&k.cal))
noncomputable def isEs (k:Ck):CEs->List Expr->Bool
 | .nil,xs=>match xs with | []=>true|_=>false
 | .cons e es,xs=>match xs with|x::r=>isE k e x&&isEs k es r|_=>false
noncomputable def isO (k:Ck):CO->Option Expr->Bool
 | .none,x=>match x with|none=>true|_=>false
 | .some e,x=>match x with|some y=>isE k e y|_=>false
noncomputable def isG (k:Ck):CG->Expr->Bool
 | .name i,e=>YL e fun x p=>decide (k.N[i]?=some x)&&k.loc x
 | .tup gs,e=>XA e fun xs q p=>isGs k gs xs&&k.cal
 | .sub a b,e=>Xl e fun x y p=>isE k a x&&isE k b y
noncomputable def isGs (k:Ck):CGs->List Expr->Bool
 | .nil,xs=>match xs with | []=>true|_=>false
 | .cons e es,xs=>match xs with|x::r=>isG k e x&&isGs k es r|_=>false
noncomputable def isI (k:Ck) (tg:Expr):CI->Expr->Bool
 | .seq e,x=>isE k e x
 | .rng es,x=>Xs x fun f xs kw pos=>YL f fun y p=>Yg xs fun a r=>qNil kw (decide (y="range")&&k.gl y&&isEs k es (a::r))
 | .zip es,x=>XA tg fun te tx tp=>Xs x fun f xs kw pos=>YL f fun y p=>Yg xs fun a r=>qNil kw (decide (y="zip")&&k.gl y&&isEs k es (a::r))
end
mutual
noncomputable def onE (P:Str->Str->DSp->Prop) (G:Str->D->Prop):CE->Prop
 | .var _ | .int _ | .bl _ | .non | .str _ | .ty _=>True
 | .glo x d=>G x d
 | .bin _ a b | .cmp _ a b | .and a b | .or a b | .ix a b=>onE P G a/\onE P G b
 | .neg a | .not a | .one a=>onE P G a
 | .chain _ _ a b c | .ife a b c=>onE P G a/\onE P G b/\onE P G c
 | .tup es | .lst es | .bi _ es=>onEs P G es
 | .sl a lo hi=>onE P G a/\onO P G lo/\onO P G hi
 | .lrev es=>onEs P G es
 | .call x S es=>P "" x S/\onEs P G es
 | .app _ e | .ext _ e | .idx _ e=>onE P G e
 | .comp _ _ g it elt=>onG P G g/\onI P G it/\onE P G elt
 | .compI _ _ g it c elt=>onG P G g/\onI P G it/\onE P G c/\onE P G elt
noncomputable def onEs (P:Str->Str->DSp->Prop) (G:Str->D->Prop):CEs->Prop
 | .nil=>True
 | .cons e es=>onE P G e/\onEs P G es
noncomputable def onO (P:Str->Str->DSp->Prop) (G:Str->D->Prop):CO->Prop
 | .none=>True
 | .some e=>onE P G e
noncomputable def onG (P:Str->Str->DSp->Prop) (G:Str->D->Prop):CG->Prop
 | .name _=>True
 | .tup gs=>onGs P G gs
 | .sub a b=>onE P G a/\onE P G b
noncomputable def onGs (P:Str->Str->DSp->Prop) (G:Str->D->Prop):CGs->Prop
 | .nil=>True
 | .cons g gs=>onG P G g/\onGs P G gs
noncomputable def onI (P:Str->Str->DSp->Prop) (G:Str->D->Prop):CI->Prop
 | .seq e=>onE P G e
 | .rng es=>onEs P G es
 | .zip es=>onEs P G es
end
end DL
end
noncomputable section
namespace DL
open PySem PySem.Spec PyProof.Rows L2
structure CtxOk (X:Cx) (k:Ck):Prop where
 N:X.N=k.N
 nd:k.N.Nodup
 sc:∀ x κ,k.kind x=some κ->κ≠.free->X.env.kindOf x=some κ
 fr:∀ x,k.kind x=some .free->X.env.kindOf x=some .cell\/X.env.kindOf x=some .free
 fn:k.top=true->∀ x,X.fn x=true
 calm:k.cal=true->X.calm=true
 room:k.cal=true->Room 0 X.A
 hu:X.A.units+66<cLine
 blt:Blt X.mg
 po:PassesOwn (model X.prog X.w) X.A X.env X.xe
 tab:Xr X.K=true
 st:k.top=true->X.stack=X.env::X.outer/\X.env.frame=some X.env.locals
structure Sh (e:Expr):Prop where
 star:∀ env es,starEach (e::es) env=(false,eval e env)::starEach es env
 ix:Jk e
 mark:∀ op,behindInMarks op e=false
 set:∀ env x,foldedSetIterable e env x=pure x
 sub:∀ o pos env v,assign (.Subscript o e pos) env v=(do
   let ov <- holding [v] (eval o env)
   let iv <- holding [v,ov] (eval e env)
   standAt pos
   holding [v,ov,iv] (setItem ov iv v)
   release [v,ov,iv] [])
structure SdE (X:Cx) (rz:Bool) (Xe:DSt->DK) (c:CE) (e:Expr):Prop where
 pe:PE X e (lift (X.L rz Xe) (rE Xe c).e)
 pt:PT X e (Zb (X.L rz Xe) (rE Xe c).t)
 pw:∀ op vs pos,e=.BoolOp op vs pos->PW X e (Zb (X.L rz Xe) (rE Xe c).t)
 sh:Sh e
structure SdEs (X:Cx) (rz:Bool) (Xe:DSt->DK) (c:CEs) (es:List Expr):Prop where
 pa:PA X es (ZX (X.L rz Xe) (rEs Xe c))
 pl:∀ pos env,(backTo pos (starEach es env)).any (·.1)=false
 hd:∀ e r,es=e::r->Sh e/\∀ pos env,(backTo pos (starEach r env)).any (·.1)=false
structure SdG (X:Cx) (rz:Bool) (Xe:DSt->DK) (c:CG) (e:Expr):Prop where
 pg:PG X e (Zt (X.L rz Xe) (rG Xe c))
 as:∀ env es,assignEach (e::es) env=(false,assign e env)::assignEach es env
structure SdGs (X:Cx) (rz:Bool) (Xe:DSt->DK) (c:CGs) (es:List Expr):Prop where
 pg:PGs X es (VS (X.L rz Xe) (rGs Xe c))
 len:∀ env,(assignEach es env).length=c.len
 st:∀ env,(assignEach es env).findIdx? (·.1)=none
structure SdI (X:Cx) (rz:Bool) (Xe:DSt->DK) (tg:Expr) (c:CI) (e:Expr):Prop where
 pi:PI X tg e (Xt (X.L rz Xe) (rI Xe c))
 set:∀ env x,foldedSetIterable e env x=pure x
section
variable {X:Cx} {rz:Bool} {Xe:DSt->DK} {k:Ck}
theorem CtxOk.vis (C:CtxOk X k) (h:k.vis x=true):Vis X.env.scope x:=by
 unfold Ck.vis at h;simp only[Bool.or_eq_true,decide_eq_true_eq] at h;rcases h with (h|h)|h
 ·exact .inl (C.sc x _ h %[|4])
 ·exact .inr (.inl (C.sc x _ h %[|4]))
 ·exact .inr (C.fr x h)
theorem CtxOk.gl (C:CtxOk X k) (h:k.gl x=true):Gl X x:=by
 unfold Ck.gl at h;exact C.sc x _ (of_decide_eq_true h) %[|4]
theorem CtxOk.loc (C:CtxOk X k) (h:k.loc x=true):Loc X.env.scope x/\(X.fn x=true\/X.env.scope.names.lookup x=some .local):=by
 unfold Ck.loc at h;simp only[Bool.or_eq_true,Bool.and_eq_true,decide_eq_true_eq] at h;rcases h with h|⟨h1,h⟩
 ·have:=C.sc x _ h %[|4];exact⟨.inl this,.inr this⟩
 ·exact⟨.inr (C.sc x _ h %[|4]),.inl (C.fn h1 x)⟩
theorem CtxOk.var (C:CtxOk X k) (h:k.slot i x=true):PE X (.Name x pos) (lift (X.L rz Xe) (dVar i)):=by
 unfold Ck.slot Xn at h;simp only[Bool.and_eq_true,decide_eq_true_eq,Bool.not_eq_true'] at h;exact Iq (Da (by rw[C.N];exact h.1.1) (C.vis h.1.2) h.2.1 h.2.2)
theorem CtxOk.qt (C:CtxOk X k) (h:(k.cal || b)=true):X.calm=true\/b=true:=by
 cases hk:k.cal with
 | true=>exact .inl (C.calm hk)
 | false=>rw [hk] at h;exact .inr h
theorem ZW {env:Env}:∀ {names:List (Str×NameKind)} {x:Str} {κ:NameKind},names.lookup x=some κ->κ≠.free ->
  (names.map fun (n,k)=>if (k==NameKind.free&&env.scope.kind==.function&&env.kindOf n==some .cell) then (n,NameKind.cell) else (n,k)).lookup x=some κ
 | [],_,_,h,_=>by simp at h
 | (n,k)::r,x,κ,h,hne=>by
  have ih:=@ZW env r x κ;simp only[List.map_cons];rw[List.lookup_cons] at h;by_cases hc:(k==NameKind.free&&env.scope.kind==.function&&env.kindOf n==some .cell)=true
  ·rw[if_pos hc,List.lookup_cons]
   cases hx:x==n with
   | true =>
    simp only[hx] at h;cases h;simp only[Bool.and_eq_true,beq_iff_eq] at hc;exact absurd hc.1.1 hne
   | false=>simp only[hx] at h;exact ih h hne
  ·rw[if_neg hc,List.lookup_cons]
   cases hx:x==n with
   | true=>simp only[hx] at h;cases h;rfl
   | false=>simp only[hx] at h;exact ih h hne
theorem Zw {env:Env}:∀ {names:List (Str×NameKind)} {x:Str},names.lookup x=some .free ->
  (names.map fun (n,k)=>if (k==NameKind.free&&env.scope.kind==.function&&env.kindOf n==some .cell) then (n,NameKind.cell) else (n,k)).lookup x=some .cell \/
  (names.map fun (n,k)=>if (k==NameKind.free&&env.scope.kind==.function&&env.kindOf n==some .cell) then (n,NameKind.cell) else (n,k)).lookup x=some .free
 | [],_,h=>by simp at h
 | (n,k)::r,x,h=>by
  have ih:=@Zw env r x;simp only[List.map_cons];rw[List.lookup_cons] at h;by_cases hc:(k==NameKind.free&&env.scope.kind==.function&&env.kindOf n==some .cell)=true
  ·rw[if_pos hc,List.lookup_cons]
   cases hx:x==n with
   | true=>exact .inl rfl
   | false=>simp only[hx] at h;exact ih h
  ·rw[if_neg hc,List.lookup_cons]
   cases hx:x==n with
   | true=>simp only[hx] at h;cases h;exact .inr rfl
   | false=>simp only[hx] at h;exact ih h
theorem WE (C:CtxOk X k) (h:blkB k N' sc=true):BlkOk X.N X.env N' sc/\N'.Nodup:=by
 unfold blkB at h;simp only[Bool.and_eq_true,decide_eq_true_eq,List.all_eq_true,Bool.or_eq_true,Bool.not_eq_true',decide_eq_false_iff_not] at h;obtain⟨⟨⟨⟨⟨⟨h1,h2⟩,h3⟩,h4⟩,h5⟩,h6⟩,h7⟩:=h;refine⟨⟨h1,fun y hy=>h2 y hy,fun y hy e=>(h3 y hy).resolve_left fun z=>z e,fun y hy e=>?_,fun i x hi hx κ hκ=>?_,by rw[C.N];exact h6⟩,h7⟩
 ·rcases h4 y hy with (z|z)|z
  ·exact absurd e z
  ·exact .inl (C.sc _ _ z %[|4])
  ·exact C.fr _ z
 ·have q:=h5 i (List.mem_range.mpr (by rw[<- C.N];exact hi))
  rw[hx] at q;simp only[hκ] at q;cases κ with
  | «local»=>simp at q
  | cell=>simp at q
  | free=>exact .inr (.inr ⟨rfl,by rw[C.N];exact of_decide_eq_true q⟩)
  | globalExplicit=>exact .inr (.inl rfl)
  | globalImplicit=>exact .inl rfl
theorem CtxOk.blk (C:CtxOk X k) {N':List Str} {sc:Scope} (h:blkB k N' sc=true) (cl:List (Str×Addr)) (Cn:Addr) (s:Shared) (H:Hp) (ex:List Addr):CtxOk (Yw X N' sc cl Cn s H ex []) ⟨N',sc,false,k.cal⟩ :=
 ⟨rfl,(WE C h).2,fun x κ e hne=>ZW (env:=X.env) e hne,fun x e=>Zw (env:=X.env) e,fun z=>(by cases z),C.calm,C.room,C.hu,C.blt,PassesOwn.never,C.tab,fun z=>(by cases z)⟩
end
theorem Du:∀ op vs pos,(Expr.BinOp a0 a1 a2 a3)≠.BoolOp op vs pos:=fun _ _ _ z=>nomatch z
theorem Do {X:Cx} {a0:Expr} {a1:Operator} {a2:Expr} {a3:Pos}:∀ whole,isTrue (Expr.BinOp a0 a1 a2 a3) X.env whole=(do let v <- whole;standAt (Expr.pos (Expr.BinOp a0 a1 a2 a3));holding [v] (truthy v)):=fun _=>rfl
theorem CA:Sh (Expr.BinOp a0 a1 a2 a3):=%[|1]
theorem WJ:Sh (Expr.BoolOp a0 a1 a2):=%[|1]
theorem XZ:∀ op vs pos,(Expr.Call a0 a1 a2 a3)≠.BoolOp op vs pos:=fun _ _ _ z=>nomatch z
theorem XY {X:Cx} {a0:Expr} {a1:List Expr} {a2:List Keyword} {a3:Pos}:∀ whole,isTrue (Expr.Call a0 a1 a2 a3) X.env whole=(do let v <- whole;standAt (Expr.pos (Expr.Call a0 a1 a2 a3));holding [v] (truthy v)):=fun _=>rfl
theorem XT:Sh (Expr.Call a0 a1 a2 a3):=%[|1]
theorem VD:Sh (Expr.Compare a0 a1 a2 a3):=%[|1]
theorem ZV:∀ op vs pos,(Expr.Constant a0 a1 a2)≠.BoolOp op vs pos:=fun _ _ _ z=>nomatch z
theorem ZT:Sh (Expr.Constant a0 a1 a2):=%[|1]
theorem Ds:∀ op vs pos,(Expr.IfExp a0 a1 a2 a3)≠.BoolOp op vs pos:=fun _ _ _ z=>nomatch z
theorem Cz:Sh (Expr.IfExp a0 a1 a2 a3):=%[|1]
theorem Fy:∀ op vs pos,(Expr.List a0 a1)≠.BoolOp op vs pos:=fun _ _ _ z=>nomatch z
theorem Fx {X:Cx} {a0:List Expr} {a1:Pos}:∀ whole,isTrue (Expr.List a0 a1) X.env whole=(do let v <- whole;standAt (Expr.pos (Expr.List a0 a1));holding [v] (truthy v)):=fun _=>rfl
theorem Fa:Sh (Expr.List a0 a1):=%[|1]
theorem V4:∀ op vs pos,(Expr.ListComp a0 a1 a2 a3)≠.BoolOp op vs pos:=fun _ _ _ z=>nomatch z
theorem V3 {X:Cx} {a0:Expr} {a1:List Comprehension} {a2:Scope} {a3:Pos}:∀ whole,isTrue (Expr.ListComp a0 a1 a2 a3) X.env whole=(do let v <- whole;standAt (Expr.pos (Expr.ListComp a0 a1 a2 a3));holding [v] (truthy v)):=fun _=>rfl
theorem V0:Sh (Expr.ListComp a0 a1 a2 a3):=%[|1]
theorem J1:∀ op vs pos,(Expr.Name a0 a1)≠.BoolOp op vs pos:=fun _ _ _ z=>nomatch z
theorem J0 {X:Cx} {a0:Str} {a1:Pos}:∀ whole,isTrue (Expr.Name a0 a1) X.env whole=(do let v <- whole;standAt (Expr.pos (Expr.Name a0 a1));holding [v] (truthy v)):=fun _=>rfl
theorem US:Sh (Expr.Name a0 a1):=%[|1]
theorem Wv:∀ op vs pos,(Expr.Subscript a0 a1 a2)≠.BoolOp op vs pos:=fun _ _ _ z=>nomatch z
theorem Wu {X:Cx} {a0:Expr} {a1:Expr} {a2:Pos}:∀ whole,isTrue (Expr.Subscript a0 a1 a2) X.env whole=(do let v <- whole;standAt (Expr.pos (Expr.Subscript a0 a1 a2));holding [v] (truthy v)):=fun _=>rfl
theorem Ws:Sh (Expr.Subscript a0 a1 a2):=%[|1]
theorem Dq:∀ op vs pos,(Expr.Tuple a0 a1 a2)≠.BoolOp op vs pos:=fun _ _ _ z=>nomatch z
theorem Dn {X:Cx} {a0:List Expr} {a1:Nat} {a2:Pos}:∀ whole,isTrue (Expr.Tuple a0 a1 a2) X.env whole=(do let v <- whole;standAt (Expr.pos (Expr.Tuple a0 a1 a2));holding [v] (truthy v)):=fun _=>rfl
theorem Cy:Sh (Expr.Tuple a0 a1 a2):=%[|1]
theorem Aq:∀ op vs pos,(Expr.UnaryOp a0 a1 a2)≠.BoolOp op vs pos:=fun _ _ _ z=>nomatch z
theorem Ap {X:Cx} {a1:Expr} {a2:Pos}:∀ whole,isTrue (.UnaryOp .USub a1 a2) X.env whole=(do let v <- whole;standAt (Expr.pos (.UnaryOp .USub a1 a2));holding [v] (truthy v)):=fun _=>rfl
theorem VC:Sh (Expr.UnaryOp a0 a1 a2):=%[|1]
theorem Ys (hr:rE Xe c=plain t) (h:PE X e (lift (X.L rz Xe) t)) (hb:∀ op vs pos,e≠.BoolOp op vs pos) (he:∀ whole,isTrue e X.env whole=(do let v <- whole;standAt e.pos;holding [v] (truthy v))) (sh:Sh e):SdE X rz Xe c e :=
 ⟨by rw[hr];exact h,by rw[hr];exact Ia h he,fun op vs pos z=>absurd z (hb op vs pos),sh⟩
theorem XO (hr:rE Xe c=⟨t,fun _ _ _=>False⟩) (h:PE X e (lift (X.L rz Xe) t)) (hb:∀ op vs pos,e≠.BoolOp op vs pos) (sh:Sh e):SdE X rz Xe c e :=
 ⟨by rw[hr];exact h,by rw[hr];exact fun pins s σ H Q I h=>by obtain⟨_,_,_,_,_,t,_⟩:=h;exact t.elim,fun op vs pos z=>absurd z (hb op vs pos),sh⟩
mutual
theorem Y6:∀ (c:CE),(∀ c x S,P c x S->P' c x S)->(∀ x d,G x d->G' x d)->onE P G c->onE P' G' c
 | .var _,_,_,_ | .int _,_,_,_ | .bl _,_,_,_ | .non,_,_,_ | .str _,_,_,_ | .ty _,_,_,_=>True.intro
 | .glo x d,p,g,h=>g x d h
 | .bin _ a b,p,g,h | .cmp _ a b,p,g,h | .and a b,p,g,h | .or a b,p,g,h | .ix a b,p,g,h=>⟨Y6 a p g h.1,Y6 b p g h.2⟩
 | .neg a,p,g,h | .not a,p,g,h | .one a,p,g,h=>Y6 a p g h
 | .chain _ _ a b c,p,g,h | .ife a b c,p,g,h=>⟨Y6 a p g h.1,Y6 b p g h.2.1,Y6 c p g h.2.2⟩
 | .tup es,p,g,h | .lst es,p,g,h | .bi _ es,p,g,h=>Zg es p g h
 | .sl a lo hi,p,g,h=>⟨Y6 a p g h.1,JD lo p g h.2.1,JD hi p g h.2.2⟩
 | .lrev es,p,g,h=>Zg es p g h
 | .call x S es,p,g,h=>⟨p "" x S h.1,Zg es p g h.2⟩
 | .app _ e,p,g,h | .ext _ e,p,g,h | .idx _ e,p,g,h=>Y6 e p g h
 | .comp _ _ t it elt,p,g,h=>⟨YU t p g h.1,VL it p g h.2.1,Y6 elt p g h.2.2⟩
 | .compI _ _ t it c elt,p,g,h=>⟨YU t p g h.1,VL it p g h.2.1,Y6 c p g h.2.2.1,Y6 elt p g h.2.2.2⟩
theorem Zg:∀ (c:CEs),(∀ c x S,P c x S->P' c x S)->(∀ x d,G x d->G' x d)->onEs P G c->onEs P' G' c
 | .nil,_,_,_=>True.intro
 | .cons e es,p,g,h=>⟨Y6 e p g h.1,Zg es p g h.2⟩
theorem JD:∀ (c:CO),(∀ c x S,P c x S->P' c x S)->(∀ x d,G x d->G' x d)->onO P G c->onO P' G' c
 | .none,_,_,_=>True.intro
 | .some e,p,g,h=>Y6 e p g h
theorem YU:∀ (c:CG),(∀ c x S,P c x S->P' c x S)->(∀ x d,G x d->G' x d)->onG P G c->onG P' G' c
 | .name _,_,_,_=>True.intro
 | .tup gs,p,g,h=>Ul gs p g h
 | .sub a b,p,g,h=>⟨Y6 a p g h.1,Y6 b p g h.2⟩
theorem Ul:∀ (c:CGs),(∀ c x S,P c x S->P' c x S)->(∀ x d,G x d->G' x d)->onGs P G c->onGs P' G' c
 | .nil,_,_,_=>True.intro
 | .cons e es,p,g,h=>⟨YU e p g h.1,Ul es p g h.2⟩
theorem VL:∀ (c:CI),(∀ c x S,P c x S->P' c x S)->(∀ x d,G x d->G' x d)->onI P G c->onI P' G' c
 | .seq e,p,g,h=>Y6 e p g h
 | .rng es,p,g,h=>Zg es p g h
 | .zip es,p,g,h=>Zg es p g h
end
theorem and2 (h:(a&&b)=true):a=true/\b=true:=by
 cases a with
 | true=>exact⟨rfl,h⟩
 | false=>exact absurd h Bool.false_ne_true
theorem Vm (h:Xn x=true):(x==("__debug__":Str))=false:=by
 obtain⟨h,_⟩:=and2 (show (!(x==("__debug__":Str))&&_)=true from h)
 revert h
 cases (x==("__debug__":Str)) with
 | true=>exact fun h=>absurd h Bool.false_ne_true
 | false=>exact fun _=>rfl
mutual
theorem sE:∀ (c:CE) (rz:Bool) (Xe:DSt->DK) (k:Ck) (X:Cx) (e:Expr),CtxOk X k->onE (FnAt X) (GloAt X) c->isE k c e=true->SdE X rz Xe c e
 | .var i,rz,Xe,k,X,e,C,on,h=>by
  refine gNm e h fun x p h=>?_;exact Ys rfl (C.var (show k.slot i x=true from h)) J1 J0 US
 | .int i,rz,Xe,k,X,e,C,on,h=>by
  refine gConstant e h fun c q p h=>?_;refine gInt c h fun j h=>?_;obtain rfl:=of_decide_eq_true (show decide (i=j)=true from h);exact XO rfl (WU Hy fun H=>.int _) ZV ZT
 | .bl i,rz,Xe,k,X,e,C,on,h=>by
  refine gConstant e h fun c q p h=>?_;refine gBool c h fun j h=>?_;obtain rfl:=of_decide_eq_true (show decide (i=j)=true from h);exact XO rfl (WU Kc fun H=>.bl _) ZV ZT
 | .non,rz,Xe,k,X,e,C,on,h=>by
  refine gConstant e h fun c q p h=>?_;refine gCnone c h fun h=>?_;exact XO rfl (WU Hw fun H=>.non) ZV ZT
 | .str i,rz,Xe,k,X,e,C,on,h=>by
  refine gConstant e h fun c q p h=>?_;refine gStr c h fun j h=>?_;obtain rfl:=of_decide_eq_true (show decide (i=j)=true from h);exact XO rfl (WU Ht fun H=>.str _) ZV ZT
 | .glo x d,rz,Xe,k,X,e,C,on,h=>by
  refine gNm e h fun y p h=>?_;obtain⟨h1,h3⟩:=and2 (show (_&&Xn x)=true from h);obtain⟨h1,h2⟩:=and2 (show (decide (x=y)&&k.gl x)=true from h1);obtain rfl:=of_decide_eq_true h1;obtain⟨u,v,e1,e2,e3⟩:=(show GloAt X _ d from on).ex;exact Ys rfl (WU (Fm (C.gl h2) e1 e2 (Vm h3)) e3) J1 J0 US
 | .ty t,rz,Xe,k,X,e,C,on,h=>by
  refine gNm e h fun y p h=>?_;obtain⟨h1,h2⟩:=and2 (show (decide (WH t=y)&&k.gl y)=true from h);obtain rfl:=of_decide_eq_true h1;exact Ys rfl (Kv t C.blt (C.gl h2)) J1 J0 US
 | .bin op a b,rz,Xe,k,X,e,C,on,h=>by
  refine gBinOp e h fun x op' y p h=>?_;obtain⟨h1,h3⟩:=and2 (show (_&&isE k b y)=true from h);obtain⟨h1,h2⟩:=and2 (show (decide (op=op')&&isE k a x)=true from h1);obtain rfl:=of_decide_eq_true h1;exact Ys rfl (IC (op_b op) (sE a rz Xe k X _ C on.1 h2).pe (sE b rz Xe k X _ C on.2 h3).pe) Du Do CA
 | .neg a,rz,Xe,k,X,e,C,on,h=>by
  refine gUnaryOp e h fun o x p h=>?_;refine gUSub o h fun h=>?_;exact Ys rfl (Iv (sE a rz Xe k X _ C on h).pe) Aq Ap VC
 | .not a,rz,Xe,k,X,e,C,on,h=>by
  refine gUnaryOp e h fun o x p h=>?_;refine gNot o h fun h=>?_;have s:=sE a rz Xe k X x C on h;exact⟨Iu s.pe,Ib s.pt,fun _ _ _ z=>(nomatch z),VC⟩
 | .cmp op a b,rz,Xe,k,X,e,C,on,h=>by
  refine gCompare e h fun x os ys p h=>?_;refine Yo os h fun o os h=>?_;refine gNil os h fun h=>?_;refine Yo ys h fun y ys h=>?_;refine gNil ys h fun h=>?_;obtain⟨h1,h3⟩:=and2 (show (_&&isE k b y)=true from h);obtain⟨h1,h2⟩:=and2 (show (decide (op=o)&&isE k a x)=true from h1);obtain rfl:=of_decide_eq_true h1;have s1:=sE a rz Xe k X _ C on.1 h2;have s2:=sE b rz Xe k X _ C on.2 h3;exact⟨IA C.hu s1.pe s2.pe (s2.sh.mark op),Ic C.hu s1.pe s2.pe (s2.sh.mark op),fun _ _ _ z=>(nomatch z),VD⟩
 | .chain op op' a b c,rz,Xe,k,X,e,C,on,h=>by
  refine gCompare e h fun x os ys p h=>?_;refine Yo os h fun o os h=>?_;refine Yo os h fun o' os h=>?_;refine gNil os h fun h=>?_;refine Yo ys h fun y ys h=>?_;refine Yo ys h fun z ys h=>?_;refine gNil ys h fun h=>?_;obtain⟨h1,h4⟩:=and2 (show (_&&isE k c z)=true from h);obtain⟨h1,h3⟩:=and2 (show (_&&isE k b y)=true from h1);obtain⟨h1,h2⟩:=and2 (show (_&&isE k a x)=true from h1);obtain⟨h1,h0⟩:=and2 (show (decide (op=o)&&decide (op'=o'))=true from h1);obtain rfl:=of_decide_eq_true h1;obtain rfl:=of_decide_eq_true h0;have s1:=sE a rz Xe k X _ C on.1 h2;have s2:=sE b rz Xe k X _ C on.2.1 h3;have s3:=sE c rz Xe k X _ C on.2.2 h4;exact⟨Ew C.hu s1.pe s2.pe s3.pe (s3.sh.mark op'),En C.hu s1.pe s2.pe s3.pe (s3.sh.mark op'),fun _ _ _ z=>(nomatch z),VD⟩
 | .one a,rz,Xe,k,X,e,C,on,h=>by
  refine gBoolOp e h fun op xs pos h=>?_;refine Yo xs h fun x xs h=>?_;refine gNil xs h fun h=>?_;have s:=sE a rz Xe k X _ C on (show isE k a x=true from h);have w:PW X (.BoolOp op [x] pos) (Zb (X.L rz Xe) (rE Xe a).t):=by
   cases op with
   | And=>exact Ff s.pt
   | Or=>exact Hg s.pt
  exact⟨Hu s.pe,w.pt,fun _ _ _ z=>by cases z;exact w,WJ⟩
 | .and a b,rz,Xe,k,X,e,C,on,h=>by
  refine gBoolOp e h fun op xs pos h=>?_;refine gAnd op h fun h=>?_;refine Yo xs h fun x xs h=>?_;refine Yo xs h fun y r h=>?_;obtain⟨h1,h2⟩:=and2 (show (isE k a x&&isE k b (.BoolOp .And (y::r) pos))=true from h);have s1:=sE a rz Xe k X _ C on.1 h1;have s2:=sE b rz Xe k X _ C on.2 h2;have w:=I0 s1.pt (s2.pw _ _ _ rfl);exact⟨IE s1.pe s2.pe,w.pt,fun _ _ _ z=>by cases z;exact w,WJ⟩
 | .or a b,rz,Xe,k,X,e,C,on,h=>by
  refine gBoolOp e h fun op xs pos h=>?_;refine gOr op h fun h=>?_;refine Yo xs h fun x xs h=>?_;refine Yo xs h fun y r h=>?_;obtain⟨h1,h2⟩:=and2 (show (isE k a x&&isE k b (.BoolOp .Or (y::r) pos))=true from h);have s1:=sE a rz Xe k X _ C on.1 h1;have s2:=sE b rz Xe k X _ C on.2 h2;have w:=Kt s1.pt (s2.pw _ _ _ rfl);exact⟨Kx s1.pe s2.pe,w.pt,fun _ _ _ z=>by cases z;exact w,WJ⟩
 | .ife c a b,rz,Xe,k,X,e,C,on,h=>by
  refine gIfExp e h fun x y z p h=>?_;obtain⟨h1,h3⟩:=and2 (show (_&&isE k b z)=true from h);obtain⟨h1,h2⟩:=and2 (show (isE k c x&&isE k a y)=true from h1);exact XO rfl (Ix (sE c rz Xe k X _ C on.1 h1).pt (sE a rz Xe k X _ C on.2.1 h2).pe (sE b rz Xe k X _ C on.2.2 h3).pe) Ds Cz
 | .tup es,rz,Xe,k,X,e,C,on,h=>by
  refine gTuple e h fun xs q p h=>?_;exact Ys rfl (Ir (sEs es rz Xe k X _ C on h).pa) Dq Dn Cy
 | .lst es,rz,Xe,k,X,e,C,on,h=>by
  refine gList e h fun xs p h=>?_;exact Ys rfl (Iw (sEs es rz Xe k X _ C on h).pa) Fy Fx Fa
 | .ix a b,rz,Xe,k,X,e,C,on,h=>by
  refine gSubscript e h fun x y p h=>?_;obtain⟨h1,h2⟩:=and2 (show (isE k a x&&isE k b y)=true from h);have s2:=sE b rz Xe k X _ C on.2 h2;exact Ys rfl (Ky (sE a rz Xe k X _ C on.1 h1).pe s2.pe s2.sh.ix) Wv Wu Ws
 | .sl a lo hi,rz,Xe,k,X,e,C,on,h=>by
  refine gSubscript e h fun x y p h=>?_;refine gSlice y h fun l u s q h=>?_;refine gNone s h fun h=>?_;obtain⟨h1,h3⟩:=and2 (show (_&&isO k hi u)=true from h);obtain⟨h1,h2⟩:=and2 (show (isE k a x&&isO k lo l)=true from h1);exact Ys rfl (Kw (sE a rz Xe k X _ C on.1 h1).pe (sO lo rz Xe k X _ C on.2.1 h2) (sO hi rz Xe k X _ C on.2.2 h3)) Wv Wu Ws
 | .lrev es,rz,Xe,k,X,e,C,on,h=>by
  refine gCall e h fun f xs kw pos h=>?_;refine gNm f h fun y p h=>?_;refine Yo xs h fun a r h=>?_;refine gNil r h fun h=>?_;refine gCall a h fun f2 xs2 kw2 pos2 h=>?_;refine gNm f2 h fun z p2 h=>?_;refine Yo xs2 h fun x r2 h=>?_;refine gNil r2 h fun h=>?_;refine gNil kw2 h fun h=>?_;refine gNil kw h fun h=>?_;obtain⟨h,hcal⟩:=and2 (show (_&&k.cal)=true from h);obtain⟨h1,h5⟩:=and2 (show (_&&isEs k es [x])=true from h);obtain⟨h1,h4⟩:=and2 (show (_&&k.gl z)=true from h1);obtain⟨h1,h3⟩:=and2 (show (_&&decide (z="reversed"))=true from h1);obtain⟨h1,h2⟩:=and2 (show (decide (y="list")&&k.gl y)=true from h1);obtain rfl:=of_decide_eq_true h1;obtain rfl:=of_decide_eq_true h3;have s:=sEs es rz Xe k X _ C on h5;exact Ys rfl (FX (C.calm hcal) (C.gl h2) C.blt.lis (C.gl h4) C.blt.rvs s.pa ((s.hd _ _ rfl).1.star _ _)) XZ XY XT
 | .call x S es,rz,Xe,k,X,e,C,on,h=>by
  refine gCall e h fun f xs kw pos h=>?_;refine gNm f h fun y p h=>?_;refine gNil kw h fun h=>?_;obtain⟨h,hcal⟩:=and2 (show (_&&k.cal)=true from h);obtain⟨h1,h4⟩:=and2 (show (_&&isEs k es xs)=true from h);obtain⟨h1,h3⟩:=and2 (show (_&&Xn x)=true from h1);obtain⟨h1,h2⟩:=and2 (show (decide (x=y)&&k.gl x)=true from h1);obtain rfl:=of_decide_eq_true h1;have s:=sEs es rz Xe k X _ C on.2 h4;refine Ys rfl ?_ XZ XY XT;cases xs with
  | nil =>
   cases es with
   | nil=>exact Ey (C.calm hcal) on.1 (C.gl h2) (Vm h3)
   | cons _ _=>exact absurd h4 Bool.false_ne_true
  | cons a r=>exact FZ (C.calm hcal) on.1 (C.gl h2) s.pa (Vm h3) ((s.hd a r rfl).1.star _ _) ((s.hd a r rfl).2 _ _)
 | .bi b es,rz,Xe,k,X,e,C,on,h=>by
  refine gCall e h fun f xs kw pos h=>?_;refine gNm f h fun y p h=>?_;refine Yo xs h fun a r h=>?_;refine gNil kw h fun h=>?_;obtain⟨h,hq⟩:=and2 (show (_&&(k.cal || quiet b))=true from h);obtain⟨h1,h3⟩:=and2 (show (_&&isEs k es (a::r))=true from h);obtain⟨h1,h2⟩:=and2 (show (decide (U6 b=y)&&k.gl y)=true from h1);obtain rfl:=of_decide_eq_true h1;have s:=sEs es rz Xe k X _ C on h3;exact Ys rfl (Kz b C.tab C.blt (C.qt hq) (C.gl h2) s.pa ((s.hd _ _ rfl).1.star _ _) ((s.hd _ _ rfl).2 _ _)) XZ XY XT
 | .app i a,rz,Xe,k,X,e,C,on,h=>by
  refine gCall e h fun f xs kw pos h=>?_;refine gAttribute f h fun o m ap h=>?_;refine gNm o h fun x p h=>?_;refine Yo xs h fun y r h=>?_;refine gNil r h fun h=>?_;refine gNil kw h fun h=>?_;obtain⟨h1,h4⟩:=and2 (show (_&&(ap.endLine==pos.line))=true from h);obtain⟨h1,h3⟩:=and2 (show (_&&isE k a y)=true from h1);obtain⟨h1,h2⟩:=and2 (show (decide (m="append")&&k.slot i x)=true from h1);obtain rfl:=of_decide_eq_true h1;have s:=sE a rz Xe k X _ C on h3;exact Ys rfl (ID (C.var h2) s.pe rfl (fun es=>s.sh.star _ es) h4) XZ XY XT
 | .ext i a,rz,Xe,k,X,e,C,on,h=>by
  refine gCall e h fun f xs kw pos h=>?_;refine gAttribute f h fun o m ap h=>?_;refine gNm o h fun x p h=>?_;refine Yo xs h fun y r h=>?_;refine gNil r h fun h=>?_;refine gNil kw h fun h=>?_;obtain⟨h1,h4⟩:=and2 (show (_&&(ap.endLine==pos.line))=true from h);obtain⟨h1,h3⟩:=and2 (show (_&&isE k a y)=true from h1);obtain⟨h1,h2⟩:=and2 (show (decide (m="extend")&&k.slot i x)=true from h1);obtain rfl:=of_decide_eq_true h1;have s:=sE a rz Xe k X _ C on h3;exact Ys rfl (Iz (C.var h2) s.pe rfl (fun es=>s.sh.star _ es) h4) XZ XY XT
 | .idx i a,rz,Xe,k,X,e,C,on,h=>by
  refine gCall e h fun f xs kw pos h=>?_;refine gAttribute f h fun o m ap h=>?_;refine gNm o h fun x p h=>?_;refine Yo xs h fun y r h=>?_;refine gNil r h fun h=>?_;refine gNil kw h fun h=>?_;obtain⟨h1,h4⟩:=and2 (show (_&&(ap.endLine==pos.line))=true from h);obtain⟨h1,h3⟩:=and2 (show (_&&isE k a y)=true from h1);obtain⟨h1,h2⟩:=and2 (show (decide (m="index")&&k.slot i x)=true from h1);obtain rfl:=of_decide_eq_true h1;have s:=sE a rz Xe k X _ C on h3;exact Ys rfl (Iy C.hu (C.var h2) s.pe rfl (fun es=>s.sh.star _ es) h4) XZ XY XT
 | .comp N' n g it elt,rz,Xe,k,X,e,C,on,h=>by
  refine gListComp e h fun y gs sc p h=>?_;refine Yo gs h fun q gs h=>?_;refine gMk q h fun tg iter ifs z h=>?_;refine gNil ifs h fun h=>?_;refine gNil gs h fun h=>?_;obtain⟨h,hcal⟩:=and2 (show (_&&k.cal)=true from h);obtain⟨h,h5⟩:=and2 (show (_&&isE ⟨N',sc,false,k.cal⟩ elt y)=true from h);obtain⟨h,h4⟩:=and2 (show (_&&isI k tg it iter)=true from h);obtain⟨h,h3⟩:=and2 (show (_&&isG ⟨N',sc,false,k.cal⟩ g tg)=true from h);obtain⟨h,h2⟩:=and2 (show (_&&decide (n=N'.length-k.N.length))=true from h);obtain⟨h,h1⟩:=and2 (show (decide (z=0)&&blkB k N' sc)=true from h);obtain rfl:=of_decide_eq_true h;obtain rfl:=of_decide_eq_true h2;have si:=sI it rz Xe k X tg _ C on.2.1 h4;refine Ys (t:=YO (N'.length-k.N.length) (rI Xe it) (rG X0 g) (rE X0 elt).e) rfl ?_ V4 V3 V0;rw[<- C.N];exact FY (C.calm hcal) (WE C h1).1 si.pi (fun cl Cn s H ex=>⟨(sG g false X0 ⟨N',_,false,k.cal⟩ (Yw X N' _ cl Cn s H ex []) _ (C.blk h1 cl Cn s H ex) (YU g (fun c x S F=>⟨F.ex⟩) (fun x d F=>⟨F.ex⟩) on.1) h3).pg,
   (sE elt false X0 ⟨N',_,false,k.cal⟩ (Yw X N' _ cl Cn s H ex []) _ (C.blk h1 cl Cn s H ex) (Y6 elt (fun c x S F=>⟨F.ex⟩) (fun x d F=>⟨F.ex⟩) on.2.2) h5).pe⟩) (si.set _)
 | .compI N' n g it c elt,rz,Xe,k,X,e,C,on,h=>by
  refine gListComp e h fun y gs sc p h=>?_;refine Yo gs h fun q gs h=>?_;refine gMk q h fun tg iter ifs z h=>?_;refine Yo ifs h fun x ifs h=>?_;refine gNil ifs h fun h=>?_;refine gNil gs h fun h=>?_;obtain⟨h,hcal⟩:=and2 (show (_&&k.cal)=true from h);obtain⟨h,h6⟩:=and2 (show (_&&isE ⟨N',sc,false,k.cal⟩ elt y)=true from h);obtain⟨h,h5⟩:=and2 (show (_&&isE ⟨N',sc,false,k.cal⟩ c x)=true from h);obtain⟨h,h4⟩:=and2 (show (_&&isI k tg it iter)=true from h);obtain⟨h,h3⟩:=and2 (show (_&&isG ⟨N',sc,false,k.cal⟩ g tg)=true from h);obtain⟨h,h2⟩:=and2 (show (_&&decide (n=N'.length-k.N.length))=true from h);obtain⟨h,h1⟩:=and2 (show (decide (z=0)&&blkB k N' sc)=true from h);obtain rfl:=of_decide_eq_true h;obtain rfl:=of_decide_eq_true h2;have si:=sI it rz Xe k X tg _ C on.2.1 h4;refine Ys (t:=XN (N'.length-k.N.length) (rI Xe it) (rG X0 g) (bIf (rE X0 c).t (XR (rE X0 elt).e))) rfl ?_ V4 V3 V0;rw[<- C.N]
  exact JW (C.calm hcal) (WE C h1).1 si.pi (fun p env=>ifW x env (WB y (.ref p) env)) (fun p env=>JO Xq) (fun cl Cn s H ex p=>⟨(sG g false X0 ⟨N',_,false,k.cal⟩ (Yw X N' _ cl Cn s H ex []) _ (C.blk h1 cl Cn s H ex) (YU g (fun c x S F=>⟨F.ex⟩) (fun x d F=>⟨F.ex⟩) on.1) h3).pg,
   GC rfl (sE c false X0 ⟨N',_,false,k.cal⟩ (Yw X N' _ cl Cn s H ex []) _ (C.blk h1 cl Cn s H ex) (Y6 c (fun c x S F=>⟨F.ex⟩) (fun x d F=>⟨F.ex⟩) on.2.2.1) h5).pt (Vj rfl (sE elt false X0 ⟨N',_,false,k.cal⟩ (Yw X N' _ cl Cn s H ex []) _ (C.blk h1 cl Cn s H ex) (Y6 elt (fun c x S F=>⟨F.ex⟩) (fun x d F=>⟨F.ex⟩) on.2.2.2) h6).pe)⟩) (fun _ _ _=>AO) (si.set _)
theorem sEs:∀ (c:CEs) (rz:Bool) (Xe:DSt->DK) (k:Ck) (X:Cx) (es:List Expr),CtxOk X k->onEs (FnAt X) (GloAt X) c->isEs k c es=true->SdEs X rz Xe c es
 | .nil,rz,Xe,k,X,es,C,on,h=>by
  cases es with
  | nil=>exact⟨VZ,fun _ _=>rfl,fun _ _ z=>nomatch z⟩
  | cons _ _=>exact absurd h Bool.false_ne_true
 | .cons e es,rz,Xe,k,X,xs,C,on,h=>by
  cases xs with
  | nil=>exact absurd h Bool.false_ne_true
  | cons x r =>
   obtain⟨h1,h2⟩:=and2 (show (isE k e x&&isEs k es r)=true from h);have s1:=sE e rz Xe k X _ C on.1 h1;have s2:=sEs es rz Xe k X _ C on.2 h2;refine⟨W7 s1.pe s2.pa (s1.sh.star _ _),fun pos env=>?_,fun _ _ z=>by cases z;exact⟨s1.sh,s2.pl⟩⟩;rw[s1.sh.star];show (false || _)=false;rw[Bool.false_or];exact s2.pl pos env
theorem sO:∀ (c:CO) (rz:Bool) (Xe:DSt->DK) (k:Ck) (X:Cx) (e:Option Expr),CtxOk X k->onO (FnAt X) (GloAt X) c->isO k c e=true->PO X e (JJ (X.L rz Xe) (rO Xe c))
 | .none,rz,Xe,k,X,e,C,on,h=>by
  cases e with
  | none=>exact FT
  | some _=>exact absurd h Bool.false_ne_true
 | .some c,rz,Xe,k,X,e,C,on,h=>by
  cases e with
  | none=>exact absurd h Bool.false_ne_true
  | some e=>exact FS (sE c rz Xe k X _ C on h).pe
theorem sG:∀ (c:CG) (rz:Bool) (Xe:DSt->DK) (k:Ck) (X:Cx) (e:Expr),CtxOk X k->onG (FnAt X) (GloAt X) c->isG k c e=true->SdG X rz Xe c e
 | .name i,rz,Xe,k,X,e,C,on,h=>by
  refine gNm e h fun x p h=>?_;obtain⟨h1,h2⟩:=and2 (show (decide (k.N[i]?=some x)&&k.loc x)=true from h);exact⟨FW (by rw[C.N];exact C.nd) (by rw[C.N];exact of_decide_eq_true h1) (C.loc h2).1 (C.loc h2).2,fun _ _=>rfl⟩
 | .tup gs,rz,Xe,k,X,e,C,on,h=>by
  refine gTuple e h fun xs q p h=>?_;obtain⟨h,hcal⟩:=and2 (show (_&&k.cal)=true from h);have s:=sGs gs rz Xe k X _ C on (show isGs k gs xs=true from h);exact⟨Im (C.calm hcal) s.pg (s.len _) (s.st _),fun _ _=>rfl⟩
 | .sub a b,rz,Xe,k,X,e,C,on,h=>by
  refine gSubscript e h fun x y p h=>?_;obtain⟨h1,h2⟩:=and2 (show (isE k a x&&isE k b y)=true from h);have s2:=sE b rz Xe k X _ C on.2 h2;exact⟨Io (sE a rz Xe k X _ C on.1 h1).pe s2.pe (fun v=>s2.sh.sub _ _ _ v),fun _ _=>rfl⟩
theorem sGs:∀ (c:CGs) (rz:Bool) (Xe:DSt->DK) (k:Ck) (X:Cx) (es:List Expr),CtxOk X k->onGs (FnAt X) (GloAt X) c->isGs k c es=true->SdGs X rz Xe c es
 | .nil,rz,Xe,k,X,es,C,on,h=>by
  cases es with
  | nil=>exact⟨FU,fun _=>rfl,fun _=>rfl⟩
  | cons _ _=>exact absurd h Bool.false_ne_true
 | .cons e es,rz,Xe,k,X,xs,C,on,h=>by
  cases xs with
  | nil=>exact absurd h Bool.false_ne_true
  | cons x r =>
   obtain⟨h1,h2⟩:=and2 (show (isG k e x&&isGs k es r)=true from h);have s1:=sG e rz Xe k X _ C on.1 h1;have s2:=sGs es rz Xe k X _ C on.2 h2;refine⟨Eu s1.pg s2.pg (by rw[s1.as];rfl),fun env=>?_,fun env=>?_⟩
   ·rw[s1.as,List.length_cons,s2.len];rfl
   ·rw[s1.as,List.findIdx?_cons]
    simp[s2.st]
theorem sI:∀ (c:CI) (rz:Bool) (Xe:DSt->DK) (k:Ck) (X:Cx) (tg e:Expr),CtxOk X k->onI (FnAt X) (GloAt X) c->isI k tg c e=true->SdI X rz Xe tg c e
 | .seq c,rz,Xe,k,X,tg,e,C,on,h =>
  have s:=sE c rz Xe k X e C on h
  ⟨Ik s.pe,s.sh.set⟩
 | .rng es,rz,Xe,k,X,tg,e,C,on,h=>by
  refine gCall e h fun f xs kw pos h=>?_;refine gNm f h fun y p h=>?_;refine Yo xs h fun a r h=>?_;refine gNil kw h fun h=>?_;obtain⟨h1,h3⟩:=and2 (show (_&&isEs k es (a::r))=true from h);obtain⟨h1,h2⟩:=and2 (show (decide (y="range")&&k.gl y)=true from h1);obtain rfl:=of_decide_eq_true h1;have s:=sEs es rz Xe k X _ C on h3;exact⟨Il (C.gl h2) C.blt.range s.pa ((s.hd _ _ rfl).1.star _ _) ((s.hd _ _ rfl).2 _ _),fun _ _=>rfl⟩
 | .zip es,rz,Xe,k,X,tg,e,C,on,h=>by
  refine gTuple tg h fun te tx tp h=>?_;refine gCall e h fun f xs kw pos h=>?_;refine gNm f h fun y p h=>?_;refine Yo xs h fun a r h=>?_;refine gNil kw h fun h=>?_;obtain⟨h1,h3⟩:=and2 (show (_&&isEs k es (a::r))=true from h);obtain⟨h1,h2⟩:=and2 (show (decide (y="zip")&&k.gl y)=true from h1);obtain rfl:=of_decide_eq_true h1;have s:=sEs es rz Xe k X _ C on h3;exact⟨Ij (C.gl h2) C.blt.zip s.pa ((s.hd _ _ rfl).1.star _ _) ((s.hd _ _ rfl).2 _ _),fun _ _=>rfl⟩
end
end DL
end
noncomputable section
namespace DL
open PySem PySem.Spec PyProof.Rows L2
theorem UM {fs:List Addr} {H1 H':Hp} {h1 h' h2 B:Heap} (un:Un fs [] H1 H' h1 h') (old:∀ b o,h1.get? b=some o->H1 b=none->b ∉ fs->B.get? b=some o) (st:B.StaysIn h2)
  (ff:∀ b∈fs,∃ o,h'.get? b=some o/\∀ vs,o.data≠.fields vs) (nr:Near h' h2):Un fs [] H1 H' h1 h2 where
 keep:=fun b o e n hb _=>st b o (old b o e n hb)
 slot:=fun b o e n hb hx=>by
  obtain⟨sl,e1⟩:=un.slot b o e n hb hx;obtain⟨o2,e2,d2⟩:=ff b hb;rw[e1] at e2;cases e2;obtain⟨sl2,e3⟩:=nr.1 b _ e1 d2;exact⟨sl2,e3⟩
 free:=un.free
 there:=fun b o e hx=>let ⟨o',e'⟩:=un.there b o e hx;nr.2.1 b o' e'
 tups:=un.tups
 frzs:=un.frzs
 tbls:=un.tbls
section
variable {X:Cx} {pins:List (Addr×Obj)} {σ:L2.St} {H H':Hp} {s s':Shared} {e C:Addr} {dd:Option Addr}
theorem Ei (h:env.frame=some L):frs (env::l)=L::frs l:=by simp[frs,h]
theorem XX (I:L2.Inv X pins σ H s) (hex:X.ex=[]) {B:Heap} (old:∀ b o,s.heap.get? b=some o->H b=none->b ∉ frs X.stack->B.get? b=some o) :
  ∀ b o,X.s₀.heap.get? b=some o->X.H₀ b=none->b ∉ X.fs->B.get? b=some o:=fun b o e n hb=>by
 have hx:b ∉ X.ex:=by rw[hex];simp
 refine old b o (I.base.keep b o e n hb hx) (I.base.free b o e n hx) fun z=>?_;rcases List.mem_cons.mp (I.stkSub b z) with q|q
 ·exact absurd (Nat.lt_of_lt_of_le (Heap.lt_size e) I.ok.above) (by rw[q];exact Nat.lt_irrefl _)
 ·exact hb q
theorem Vu (I:L2.Inv X pins σ H s) (hex:X.ex=[]) (st:X.stack=X.env::X.outer/\X.env.frame=some X.env.locals) {h' B:Heap} (un:Un (frs X.stack) [] H H' s.heap h') (old:∀ b o,s.heap.get? b=some o->H b=none->b ∉ frs X.stack->B.get? b=some o) (hB:B.StaysIn h') :
  Un X.fs [] X.H₀ H' X.s₀.heap h':=by
 have a:Un (frs X.stack) [] X.H₀ H X.s₀.heap s.heap:=I.base.mono (fun b hb=>by rw[st.1,Ei st.2];exact List.mem_cons_of_mem _ hb) (by rw[hex];simp);have t:=a.trans un;exact⟨fun b o e n hb hx=>hB b o (XX I hex old b o e n hb),fun b o e n hb hx=>t.any e n hx,t.free,t.there,t.tups,t.frzs,t.tbls⟩
end
section
variable {P:Program} {w:World} {K:Frag} {mg:Str->Option Value} {base:Heap} {N:List Str} {qual:Str} {scope:Scope} {f:Addr} {cd:Value} {A:Around} {outer:List Env} {s:Shared} {H:Hp} {E:XK}
theorem Cj (hE:∀ n M' H' C dd x,HExt K H H'->RepM K H' M'->n∈xNames->Z1 K n C->ExD K H' n dd x->Ed (.exc n x) M'->E (.ref C) dd H'):XeOk (cxOf (CXR P w) P w K mg base N qual scope f cd A outer s H E) true (fun _=>Ed) H where
 fly:=fun pins σ H1 s1 H' e C dd s' δ M' n xd x I th m sl hn hc ed hx=>by
  obtain⟨B,os,bare,un,old,hokB,fl⟩:=th.ex;show wpAny _ _ _ _ _ _;refine BT I.ok.frames rfl fl fun h' F' nr=>?_;have ff:∀ b∈frs (cxOf (CXR P w) P w K mg base N qual scope f cd A outer s H E).stack,∃ o,s'.heap.get? b=some o/\∀ vs,o.data≠.fields vs:=fun b hb=>(fl.frames.mem hb).2;exact⟨e,C,dd,H',rfl,⟨⟨B,os.trans I.os,bare,Vu I rfl ⟨rfl,rfl⟩ (UM un old F'.stays ff nr) old F'.stays,XX I rfl old,hokB,F'⟩,fun z=>nr.2.2 _ (th.cl z)⟩,hE n M' H' C dd xd x m hn hc ed hx⟩
 back:=fun _ pins σ H1 s1 H' e C dd s' δ M' n xd x I th m sl hn hc ed hx=>by
  obtain⟨B,os,bare,un,old,hokB,fl⟩:=th.ex;show wpAny _ _ _ _ _ _;refine AD rfl fl fun h' F' nr=>?_;have ff:∀ b∈frs (cxOf (CXR P w) P w K mg base N qual scope f cd A outer s H E).stack,∃ o,s'.heap.get? b=some o/\∀ vs,o.data≠.fields vs:=fun b hb=>(fl.frames.mem hb).2;exact⟨e,C,dd,H',rfl,⟨⟨B,os.trans I.os,bare,Vu I rfl ⟨rfl,rfl⟩ (UM un old F'.stays ff nr) old F'.stays,XX I rfl old,hokB,F'⟩,fun z=>nr.2.2 _ (th.cl z)⟩,hE n M' H' C dd xd x m hn hc ed hx⟩
 made:=fun _ pins σ H' h e C dd s' δ M' n xd x I mk cl m sl hn hc ed hx=>by
  show wpAny _ _ _ _ _ _;have hin:∀ env∈(cxOf (CXR P w) P w K mg base N qual scope f cd A outer s H E).stack,∀ a,env.frame=some a->a∈frs (cxOf (CXR P w) P w K mg base N qual scope f cd A outer s H E).stack:=fun env he b hb=>List.mem_filterMap.mpr ⟨env,he,hb⟩;have st:(hideAll h (frs (cxOf (CXR P w) P w K mg base N qual scope f cd A outer s H E).stack)).StaysIn h:=fun b o q=>PySem.W.of_hideAll _ q;refine AE (h:=h) (B:=hideAll h (frs (cxOf (CXR P w) P w K mg base N qual scope f cd A outer s H E).stack)) I.ok.frames rfl (PySem.W.funFrames_hide I.stack hin) st mk fun h' F' nr=>?_;have old:∀ b o,h.get? b=some o->H' b=none->b ∉ frs (cxOf (CXR P w) P w K mg base N qual scope f cd A outer s H E).stack->(hideAll h (frs (cxOf (CXR P w) P w K mg base N qual scope f cd A outer s H E).stack)).get? b=some o:=fun b o q _ hb=>PySem.W.hideAll_get _ q hb;have ff:∀ b∈frs (cxOf (CXR P w) P w K mg base N qual scope f cd A outer s H E).stack,∃ o,h.get? b=some o/\∀ vs,o.data≠.fields vs:=fun b hb=>(I.stack.mem hb).2
  have un:Un (frs (cxOf (CXR P w) P w K mg base N qual scope f cd A outer s H E).stack) [] H' H' h h':=UM .refl old F'.stays ff ((Near.kept mk.keeps).trans nr);refine⟨e,C,dd,H',rfl,⟨⟨_,I.os,I.bare,Vu I rfl ⟨rfl,rfl⟩ un old F'.stays,XX I rfl old,fun a o q=>?_,F'⟩,fun z=>nr.2.2 _ (cl z)⟩,hE n M' H' C dd xd x m hn hc ed hx⟩;refine (I.hok a o q).stay (fun c u hc r=>PySem.W.hideAll_get _ r fun z=>?_) (fun _ q=>q) fun _ _ q=>q;have:=I.stkFree c z;rcases hc with rfl|hc
  ·rw[q] at this;cases this
  ·rw[hc] at this;cases this
end
theorem HB {K:Frag} {h:Heap} {C:Addr} {bmB:List Value} {newId:String} (X:K.In h) (q:PySem.W.excIn K C bmB newId=true) {P:Prop}
  (go:∀ bm N nm q bs hdct sn sub ab col dd k0 k1 k2 k3 k5 mN,h.get? C=some (excClassObj nm q C N bs bm hdct sn sub ab col dd k0 k1 k2 k3 k5 newId)->h.Ns N mN->mN "__init__"=none->OwnTail h bmB bm->P):P:=by
 unfold PySem.W.excIn at q;split at q
 next dd cd sl ho =>
  split at q
  next C' bm a0 a1 a2 a3 id a5 em es =>
   simp only[Bool.and_eq_true,beq_iff_eq,Bool.not_eq_true'] at q;obtain⟨⟨⟨⟨⟨z1,z2⟩,z3⟩,z4⟩,z5⟩,z6⟩:=q;obtain⟨nm,bs,mro,ns,qn,hd,sn,sub,ab,col,del⟩:=cd;have hsl:sl=#[a0,a1,a2,a3,some (.builtin newId),a5]:=by
    rw[z2] at es;rw[<- es]
   simp only at em z3 z5 z6;subst z1 em z3 hsl;exact go bm ns nm qn bs hd sn sub ab col dd a0 a1 a2 a3 a5 _ (X _ _ ho) (.of_isNs (PySem.W.isNs_of_in X z5)) (PySem.W.nsMap_none_of_in X z5 z6) (PySem.W.tail_of_in X z4)
  next=>cases q
 next=>cases q
theorem BJ (h:xPlain.contains n=true):n ∉ xInit:=by
 have:∀ m∈xPlain,m ∉ xInit:=by decide
 exact this n (by simpa using h)
noncomputable def Ez (n:Str) (ta:(DSt->DK)->DA):DS:=fun D δ M=>ta D.ex δ M fun ds M1=>ds.length<=sizeLine/\D.ex δ (.exc n .non) M1
section
variable {X:Cx} {x:Str} {np cpos pos:Pos} {e:Expr} {es:List Expr} {ta:(DSt->DK)->DA}
theorem Es {C:Addr} (hr:Room 0 X.A) (tab:Xr X.K=true) (hp:xPlain.contains x=true) (hc:Z1 X.K x C) (hm:X.mg x=some (.ref C)) (hg:Gl X x) (hdb:(x==("__debug__":Str))=false) (ha:∀ Xe,PA X (e::es) (ZX (X.L true Xe) (ta Xe)))
  (he:starEach (e::es) X.env=(false,eval e X.env)::starEach es X.env) (hpl:(backTo cpos (starEach es X.env)).any (·.1)=false) :
  PS X (.Raise (some (.Call (.Name x np) (e::es) [] cpos)) none pos) (YG X true (Ez x ta)):=by
 rintro pins s σ H Z I ⟨δ,M,D,rs,rm,t,n,r,b,c⟩;have hn:x∈xNames:=List.mem_cons_of_mem _ (List.mem_append_left _ (by simpa using hp));have FV:=PySem.F.excBase_ValueError;refine HB (C:=C) I.ok.mod.kin ((Z6 tab hn hc).2.1 hp) fun bm Nn nm q bs hdct sn sub ab col dd k0 k1 k2 k3 k5 mN hC hN hni T=>?_;refine wpAny_Raise_call_subU (C:=C) (nm:=nm) (q:=q) (N:=Nn) (bs:=bs) (bm:=bm) (bmB:=bmV) (hdct:=hdct) (sn:=sn) (sub:=sub) (ab:=ab) (col:=col) (dd:=dd) (k0:=k0) (k1:=k1) (k2:=k2) (k3:=k3) (k5:=k5) FV %[|4] FV (mN:=mN)
  (T.hasType %[|4]) hr.hd (by rw[he];show (false || (backTo cpos (starEach es X.env)).any (·.1))=false;rw[hpl];rfl) hni (Vo I hg hm ⟨rfl,?_⟩ hdb)
 rw[he];refine Calls.evalArgs_plain ?_;have sp:=ha D.ex cpos pins s σ H (fun vs H1=>∃ ds M1,HExt X.K H H1/\RepM X.K H1 M1/\RelDs X.K H1 vs ds/\ds.length<=sizeLine/\D.ex δ (.exc x .non) M1) I ⟨δ,M,_,rs,rm,t,fun ds M1 vs H1 x m r h=>⟨ds,M1,x,m,r,h.1,h.2⟩⟩;rw[he] at sp;refine wpAny_mono sp (fun us s1 ⟨vs,H1,I1,r1,ds,M1,x1,m1,rd,hl,hx⟩=>⟨rfl,by rw[<- r1.length,rd.length];exact hl,I1.bk _ _ hC,hN.keeps I1.bk,T.keeps I1.bk,fun h' e0 mk=>?_⟩) fun _ _ z=>z;exact rs.ok.made rfl pins σ H1 s1.heap e0 C none {s1 with heap:=h'} δ M1 x .non x1 I1 (Made.of mk) (fun _=>AI mk) m1 (rs.toSlots.ext x1) hn hc (.plain (BJ hp)) hx
end
section
variable {X:Cx} {x:Str} {np cpos pos:Pos} {e:Expr} {es:List Expr} {ta:(DSt->DK)->DA}
end
section
variable {X:Cx} {pins:List (Addr×Obj)} {σ:L2.St} {H:Hp} {s:Shared}
end
noncomputable def dTry (t:DS) (c:Str) (ie ix:Nat):DS:=fun D δ M=>t {D with ex:=fun δ' d M'=>∃ n,d=.exc n (xarg d)/\YH n c=true/\D.nx ((δ'.set ix (some d)).set ie none) M'} δ M
section
variable {X:Cx} {rz:Bool} {body:List Stmt} {t:DS} {cx ne x:Str} {np px pe apos hpos pos:Pos} {ie ix:Nat}
end
section
variable {X:Cx} {rz:Bool} {b0:Stmt} {body hb:List Stmt} {t th:DS} {cx ne:Str} {np hpos pos:Pos} {ie:Nat}
end
section
variable {X:Cx} {rz:Bool} {b0:Stmt} {body hb:List Stmt} {t th:DS} {cx:Str} {np hpos pos:Pos}
end
end DL
end
noncomputable section
namespace DL
open PySem PySem.Spec PyProof.Rows L2
section
variable {M:Model} {A:Around} {Z:Value->Shared->Prop} {s:Shared} {B:Heap} {env:Env} {outer:List Env} {L e:Addr}
end
section
variable {prog:Program} {w:World} {A:Around} {E:Value->Shared->Prop} {h:Heap} {g:Array GenState} {d:Drawn} {t:Nat} {os:OsState}
end
section
variable {X:Cx} {body:List Stmt} {t:DS} {cx x xn:Str} {np np2 ap cpos cp rpos hpos pos:Pos} {ck i:Nat}
end
end DL
end
noncomputable section
namespace DL
open PySem PySem.Spec PyProof.Rows L2
mutual
inductive CS where
 | expr (e:CE)|ret (e:CE)
 | ife (c:CE) (a b:CSs)
 | set (i:Nat) (e:CE)
 | asg (g:CG) (e:CE)
 | two (g h:CG) (e:CE)
 | par (i j:Nat) (a b:CE)
 | whl (c:CE) (b:CSs)
 | fr (g:CG) (it:CI) (b:CSs)
 | rse (x:Str) (es:CEs)
inductive CSs where
 | nil|cons (s:CS) (r:CSs)
end
mutual
noncomputable def rS:CS->DS
 | .expr e=>GR (fun Xe=>(rE Xe e).e)
 | .ret e=>dRet (fun Xe=>(rE Xe e).e)
 | .ife c a b=>dIfS (fun Xe=>(rE Xe c).t) (rSs a) (rSs b)
 | .set i e=>dAsg (fun Xe=>(rE Xe e).e) (fun _=>Xp i)
 | .asg g e=>dAsg (fun Xe=>(rE Xe e).e) (fun Xe=>rG Xe g)
 | .two g h e=>dTwo (fun Xe=>(rE Xe e).e) (fun Xe=>rG Xe g) (fun Xe=>rG Xe h)
 | .par i j a b=>dPar i j (fun Xe=>Z5 (rE Xe a).e (Z5 (rE Xe b).e dNil))
 | .whl c b=>Ja (fun Xe=>(rE Xe c).t) (rSs b)
 | .fr g it b=>dFor (fun Xe=>rI Xe it) (fun Xe=>rG Xe g) (rSs b)
 | .rse x es=>Ez x (fun Xe=>rEs Xe es)
noncomputable def rSs:CSs->DS
 | .nil=>Bo
 | .cons s r=>dSeq (rS s) (rSs r)
end
noncomputable def XI:Expr->Bool
 | .ListComp ..=>true
 | .SetComp ..=>true
 | .DictComp ..=>true
 | _=>false
theorem Ac (h:env.kindOf x=some .cell) (y:Expr) (px:Pos) (n:Nat):swapsWith y (some (.Name x px)) n env=pure false:=by
 unfold swapsWith;split
 ·simp only[h]
  rw[show ((some NameKind.cell==some NameKind.local)=false) from rfl];simp
 ·rfl
noncomputable def Gv (k:Ck) (x:Str) (px:Pos) (e:CE) (y:Expr):Bool :=
 match e,y with
 | .comp ..,.ListComp _ _ sc p=>decide (k.sc.kind=.function)&&decide (k.kind x=some .local)&&decide (px.line=p.line)&&!(sc.names.any fun y=>y.1==x&&(y.2==.local || y.2==.cell))
 | .compI ..,.ListComp _ _ sc p=>decide (k.sc.kind=.function)&&decide (k.kind x=some .local)&&decide (px.line=p.line)&&!(sc.names.any fun y=>y.1==x&&(y.2==.local || y.2==.cell))
 | _,_=>false
noncomputable def An:Expr->Expr->Bool
 | .Tuple (.Subscript ..::_) _ _,.Tuple ..=>true
 | .Tuple ..,.Tuple vs _ _=>vs.all (foldedForSure 8)
 | .List ..,_=>false
 | _,_=>true
noncomputable def EE (k:Ck) (tg y:Expr):Bool :=
 XA tg fun xs _ _=>Yg xs fun a r=>YL a fun x _=>Yg r fun b r=>YL b fun z _=>qNil r (XA y fun _ _ _=>decide (k.kind x=some .cell) || decide (k.kind z=some .cell))
noncomputable def ZU:Expr->Bool
 | .Starred ..=>false
 | _=>true
mutual
noncomputable def isS (k:Ck) (rz:Bool):CS->Stmt->Bool
 | .expr e,s=>CT s fun x p=>isE k e x&&!XI x
 | .ret e,s=>AW s fun v p=>CL v fun v=>isE k e v
 | .ife c a b,s=>qIf s fun x xs ys p=>isE k c x&&isSs k rz a xs&&isSs k rz b ys
 | .set i e,s=>XW s fun ts y p=>Yg ts fun tg ts=>qNil ts (YL tg fun x px=>decide (k.N[i]?=some x)&&k.loc x&&isE k e y&&((!XI y || decide (k.kind x=some .cell)) || Gv k x px e y))
 | .asg g e,s=>XW s fun ts y p=>Yg ts fun tg ts=>qNil ts (isG k g tg&&isE k e y&&!XI y&&(An tg y || EE k tg y))
 | .two g h e,s=>XW s fun ts y p=>Yg ts fun tg ts=>Yg ts fun tg2 ts=>qNil ts (isG k g tg&&isG k h tg2&&isE k e y)
 | .par i j a b,s=>XW s fun ts v p=>Yg ts fun tg ts=>XA tg fun xs q1 p1=>Yg xs fun x xs=>YL x fun x px=>Yg xs fun y xs=>YL y fun y py=>qNil xs (qNil ts (XA v fun us q2 p2=>Yg us fun u us=>Yg us fun v us=>qNil us (decide (k.N[i]?=some x)&&decide (k.N[j]?=some y)&&!decide (i=j)&&decide (k.kind x=some .local)&&decide (k.kind y=some .local)&&isE k a u&&isE k b v&&decide (px.line=py.line)&&!([u,v].all (foldedForSure 8))&&!([u,v].all (constantsAlone 8))&&ZU u&&ZU v&&decide (k.sc.kind=.function)&&k.cal)))
 | .whl c b,s=>CK s fun x xs ys p=>qNil ys (isE k c x&&isSs k rz b xs)
 | .fr g it b,s=>qFor s fun tg iter xs ys p=>qNil ys (isG k g tg&&isI k tg it iter&&isSs k rz b xs&&k.cal)
 | .rse x es,s=>CN s fun v w p=>CL v fun v=>Xs v fun f xs kw q=>YL f fun y q'=>Yg xs fun a r=>qNil kw (CP w (rz&&decide (x=y)&&xPlain.contains x&&k.gl x&&Xn x&&isEs k es (a::r)&&k.cal))
noncomputable def isSs (k:Ck) (rz:Bool):CSs->List Stmt->Bool
 | .nil,xs=>match xs with | []=>true|_=>false
 | .cons s r,xs=>match xs with|x::ys=>isS k rz s x&&isSs k rz r ys|_=>false
end
mutual
noncomputable def onS (P:Str->Str->DSp->Prop) (G:Str->D->Prop):CS->Prop
 | .expr e | .ret e | .set _ e=>onE P G e
 | .ife c a b=>onE P G c/\onSs P G a/\onSs P G b
 | .asg g e=>onG P G g/\onE P G e
 | .two g h e=>onG P G g/\onG P G h/\onE P G e
 | .par _ _ a b=>onE P G a/\onE P G b
 | .whl c b=>onE P G c/\onSs P G b
 | .fr g it b=>onG P G g/\onI P G it/\onSs P G b
 | .rse x es=>G x (.cls x)/\onEs P G es
noncomputable def onSs (P:Str->Str->DSp->Prop) (G:Str->D->Prop):CSs->Prop
 | .nil=>True
 | .cons s r=>onS P G s/\onSs P G r
end
mutual
theorem Dj:∀ (c:CS),(∀ c x S,P c x S->P' c x S)->(∀ x d,G x d->G' x d)->onS P G c->onS P' G' c
 | .expr e,p,g,h | .ret e,p,g,h | .set _ e,p,g,h=>Y6 e p g h
 | .ife c a b,p,g,h=>⟨Y6 c p g h.1,ZG a p g h.2.1,ZG b p g h.2.2⟩
 | .asg t e,p,g,h=>⟨YU t p g h.1,Y6 e p g h.2⟩
 | .two t u e,p,g,h=>⟨YU t p g h.1,YU u p g h.2.1,Y6 e p g h.2.2⟩
 | .par _ _ a b,p,g,h=>⟨Y6 a p g h.1,Y6 b p g h.2⟩
 | .whl c b,p,g,h=>⟨Y6 c p g h.1,ZG b p g h.2⟩
 | .fr t it b,p,g,h=>⟨YU t p g h.1,VL it p g h.2.1,ZG b p g h.2.2⟩
 | .rse x es,p,g,h=>⟨g _ _ h.1,Zg es p g h.2⟩
theorem ZG:∀ (c:CSs),(∀ c x S,P c x S->P' c x S)->(∀ x d,G x d->G' x d)->onSs P G c->onSs P' G' c
 | .nil,_,_,_=>True.intro
 | .cons e es,p,g,h=>⟨Dj e p g h.1,ZG es p g h.2⟩
end
theorem Vy (h:XI e=false) (t:Option Expr) (l:Nat) (env:Env):swapsWith e t l env=pure false:=by
 cases e<;>first|rfl|(simp[XI] at h)
theorem Uf (hx:env.kindOf x=some .local) (hl:px.line=p.line) (hn:(sc.names.any fun y=>y.1==x&&(y.2==.local || y.2==.cell))=false) (hb:env.blockKind=.function) :
  swapsWith (.ListComp elt gs sc p) (some (.Name x px)) l env=pure true:=by
 show (pure (env.blockKind==.function&&env.kindOf x==some .local&&px.line==p.line&&!(sc.names.any fun y=>y.1==x&&(y.2==.local || y.2==.cell))):Sem Bool)=pure true;rw[hb,hx,hl,hn];simp
theorem WY (h:vs.all (foldedForSure 8)=true) (env:Env):swappedStores [.Tuple ts k p] (.Tuple vs k2 p2) env=pure none:=by
 unfold swappedStores;simp only[h,if_true]
 repeat' split
 all_goals rfl
theorem Js (env:Env):swappedStores [.Tuple (.Subscript a b p::ts) k q] (.Tuple vs k2 p2) env=pure none:=by
 unfold swappedStores;have hl:∀ f:Expr->Option Str,f (.Subscript a b p)=none->((Expr.Subscript a b p::ts).filterMap f).length≠(Expr.Subscript a b p::ts).length:=fun f hf=>by
  rw[List.filterMap_cons_none hf];have:=List.length_filterMap_le f ts;simp only[List.length_cons];omega
 dsimp only;split
 ·rfl
 ·split
  ·rfl
  ·rw[if_pos]
   ·have:=hl (fun | .Name id pos=>if env.kindOf id==some .local&&pos.line==(((Expr.Subscript a b p::ts).head?.map (·.pos.line)).getD 0) then some id else none|_=>none) rfl
    simp only[Bool.or_eq_true,bne_iff_ne];exact .inl this
theorem Ad (h:An tg e=true) (env:Env):swappedStores [tg] e env=pure none:=by
 cases tg with
 | Tuple ts k p =>
  cases e with
  | Tuple vs k2 p2 =>
   cases ts with
   | nil=>exact WY h env
   | cons t ts =>
    cases t with
    | Subscript a b q=>exact Js env
    | _=>exact WY h env
  | _=>rfl
 | List ts p=>exact absurd h Bool.false_ne_true
 | _=>rfl
theorem Jr (t1 t2 y:Expr) (env:Env):swappedStores [t1,t2] y env=pure none:=by
 cases t1<;>first|rfl|(cases y<;>rfl)
theorem Jq (hx:env.kindOf x=some .local) (hy:env.kindOf y=some .local) (hne:x≠y) (hl:px.line=py.line) (hb:env.blockKind=.function)
  (h1:[u,v].all (foldedForSure 8)=false) (h2:[u,v].all (constantsAlone 8)=false) (hu:ZU u=true) (hv:ZU v=true) :
  swappedStores [.Tuple [.Name x px,.Name y py] kt pt] (.Tuple [u,v] k2 pt2) env=pure (some [x,y]):=by
 unfold swappedStores;have hs:∀ {z:Expr},ZU z=true->(match z with | .Starred ..=>true|_=>false)=false:=fun {z} hz=>by
  cases z<;>first|rfl|exact absurd hz (by simp[ZU])
 have hd:[x,y].eraseDups.length=2:=by
  have:(y==x)=false:=by simpa using Ne.symm hne
  simp[List.eraseDups_cons,this]
 have hany:([u,v].any fun | .Starred ..=>true|_=>false)=false:=by
  simp only[List.any_cons,List.any_nil,Bool.or_false];rw[hs hu,hs hv];rfl
 have ha:∀ (f:Expr->Bool),[u,v].all f=(f u&&f v):=fun f=>by simp
 rw[ha] at h1 h2;have hu':=hs hu;have hv':=hs hv;simp[hb,hx,hy,Expr.pos,hl,hd,ha,h1,h2];intro z;rcases z with z|z
 ·exact absurd (hu'.symm.trans z) %[|4]
 ·exact absurd (hv'.symm.trans z) %[|4]
theorem Wt (C:CtxOk X k):PassesOwn (model X.prog X.w) X.A X.env X.xe:=C.po
theorem FN (G:GloAt X n (.cls n)):∃ C,X.mg n=some (.ref C)/\Z1 X.K n C:=by
 obtain⟨u,v,e1,e2,e3⟩:=G.ex;have:=e3 fun _=>none;cases this with
 | @cls C _ hn hc=>cases e2;exact⟨C,e1,hc⟩
theorem CtxOk.bk {X:Cx} {k:Ck} (hk:X.env.scope.kind=.function):X.env.blockKind=.function:=by unfold Env.blockKind;rw[hk];rfl
theorem UQ (C:CtxOk X k) (h:EE k tg y=true):swappedStores [tg] y X.env=pure none:=by
 refine gTuple tg h fun xs kt pt h=>?_;refine Yo xs h fun a r h=>?_;refine gNm a h fun x px h=>?_;refine Yo r h fun b r h=>?_;refine gNm b h fun z pz h=>?_;refine gNil r h fun h=>?_;refine gTuple y h fun vs k2 p2 h=>?_;have e:X.env.kindOf x=some .cell\/X.env.kindOf z=some .cell:=by
  rw[Bool.or_eq_true] at h;rcases h with h|h
  ·exact .inl (C.sc _ _ (of_decide_eq_true h) %[|4])
  ·exact .inr (C.sc _ _ (of_decide_eq_true h) %[|4])
 unfold swappedStores;simp only[];split
 ·rfl
 ·split
  ·rfl
  ·rw[if_pos]
   rcases e with e|e
   ·simp[List.filterMap,e]
    split<;>simp
   ·simp[List.filterMap,e]
    split<;>simp
theorem not1 (h:(!a)=true):a=false:=by
 cases a with
 | true=>exact absurd h Bool.false_ne_true
 | false=>rfl
theorem or2 (h:(a || b)=true):a=true\/b=true:=by
 cases a with
 | true=>exact .inl rfl
 | false=>exact .inr h
mutual
theorem sS:∀ (c:CS) (rz:Bool) (k:Ck) (X:Cx) (s:Stmt),CtxOk X k->X.env.scope.kind=.function->onS (FnAt X) (GloAt X) c->isS k rz c s=true->PS X s (YG X rz (rS c))
 | .expr e,rz,k,X,s,C,bk,on,h=>by
  refine gExpr s h fun x p h=>?_;obtain⟨h1,h2⟩:=and2 (show (isE k e x&&!XI x)=true from h);exact FR (fun Xe=>(sE e rz Xe k X _ C on h1).pe) (Vy (not1 h2) _ _ _)
 | .ret e,rz,k,X,s,C,bk,on,h=>by
  refine gReturn s h fun v p h=>?_;refine gSome v h fun v h=>?_;exact Ie (fun Xe=>(sE e rz Xe k X v C on h).pe)
 | .ife c a b,rz,k,X,s,C,bk,on,h=>by
  refine gIf s h fun x xs ys p h=>?_;obtain⟨h1,h3⟩:=and2 (show (_&&isSs k rz b ys)=true from h);obtain⟨h1,h2⟩:=and2 (show (isE k c x&&isSs k rz a xs)=true from h1);exact Ku (fun Xe=>(sE c rz Xe k X _ C on.1 h1).pt) (sSs a rz k X _ C bk on.2.1 h2) (sSs b rz k X _ C bk on.2.2 h3)
 | .set i e,rz,k,X,s,C,bk,on,h=>by
  refine gAssign s h fun ts y p h=>?_;refine Yo ts h fun tg ts h=>?_;refine gNil ts h fun h=>?_;refine gNm tg h fun x px h=>?_;obtain⟨h1,h4⟩:=and2 (show (_&&((!XI y || decide (k.kind x=some .cell)) || Gv k x px e y))=true from h);obtain⟨h1,h3⟩:=and2 (show (_&&isE k e y)=true from h1);obtain⟨h1,h2⟩:=and2 (show (decide (k.N[i]?=some x)&&k.loc x)=true from h1);have hi:=of_decide_eq_true h1;clear h1;rcases or2 h4 with h4|h4
  ·rcases or2 h4 with h4|h4
   ·exact Er (by rw[C.N];exact C.nd) (by rw[C.N];exact hi) (C.loc h2).1 (fun Xe=>(sE e rz Xe k X _ C on h3).pe) (Vy (not1 h4) _ _ _) (C.loc h2).2
   ·exact Er (by rw[C.N];exact C.nd) (by rw[C.N];exact hi) (C.loc h2).1 (fun Xe=>(sE e rz Xe k X _ C on h3).pe) (Ac (C.sc _ _ (of_decide_eq_true h4) %[|4]) _ _ _) (C.loc h2).2
  ·cases e with
   | comp N' n g it elt =>
    cases y with
    | ListComp y gs sc p =>
     obtain⟨h4,h7⟩:=and2 (show (_&&!(sc.names.any fun y=>y.1==x&&(y.2==.local || y.2==.cell)))=true from h4);obtain⟨h4,h6⟩:=and2 (show (_&&decide (px.line=p.line))=true from h4);obtain⟨h4,h5⟩:=and2 (show (decide (k.sc.kind=.function)&&decide (k.kind x=some .local))=true from h4);refine Yo gs (show Yg gs _=true from h3) fun q r h3=>?_;refine gMk q h3 fun tg iter ifs z h3=>?_;refine gNil ifs h3 fun h3=>?_;refine gNil r h3 fun h3=>?_;obtain⟨h3,hcal⟩:=and2 (show (_&&k.cal)=true from h3);obtain⟨h3,g5⟩:=and2 (show (_&&isE ⟨N',sc,false,k.cal⟩ elt y)=true from h3);obtain⟨h3,g4⟩:=and2 (show (_&&isI k tg it iter)=true from h3);obtain⟨h3,g3⟩:=and2 (show (_&&isG ⟨N',sc,false,k.cal⟩ g tg)=true from h3);obtain⟨h3,g2⟩:=and2 (show (_&&decide (n=N'.length-k.N.length))=true from h3);obtain⟨h3,g1⟩:=and2 (show (decide (z=0)&&blkB k N' sc)=true from h3);obtain rfl:=of_decide_eq_true h3;obtain rfl:=of_decide_eq_true g2
     have si:=fun Xe=>sI it rz Xe k X tg _ C on.2.1 g4;rw[<- C.N];exact FQ (C.calm hcal) (WE C g1).1 (fun Xe=>(si Xe).pi) (fun cl Cn s H ex=>⟨(sG g false X0 ⟨N',_,false,k.cal⟩ (Yw X N' _ cl Cn s H ex []) _ (C.blk g1 cl Cn s H ex) (YU g (fun c x S F=>⟨F.ex⟩) (fun x d F=>⟨F.ex⟩) on.1) g3).pg,
      (sE elt false X0 ⟨N',_,false,k.cal⟩ (Yw X N' _ cl Cn s H ex []) _ (C.blk g1 cl Cn s H ex) (Y6 elt (fun c x S F=>⟨F.ex⟩) (fun x d F=>⟨F.ex⟩) on.2.2) g5).pe⟩) ((si X0).set _)
      (Uf (C.sc _ _ (of_decide_eq_true h5) %[|4]) (of_decide_eq_true h6) (not1 h7) (CtxOk.bk (k:=k) bk)) (by rw[C.N];exact C.nd) (by rw[C.N];exact hi) (C.loc h2).1 (C.loc h2).2
    | _=>exact absurd h4 Bool.false_ne_true
   | compI N' n g it c elt =>
    cases y with
    | ListComp y gs sc p =>
     obtain⟨h4,h7⟩:=and2 (show (_&&!(sc.names.any fun y=>y.1==x&&(y.2==.local || y.2==.cell)))=true from h4);obtain⟨h4,h6⟩:=and2 (show (_&&decide (px.line=p.line))=true from h4);obtain⟨h4,h5⟩:=and2 (show (decide (k.sc.kind=.function)&&decide (k.kind x=some .local))=true from h4);refine Yo gs (show Yg gs _=true from h3) fun q r h3=>?_;refine gMk q h3 fun tg iter ifs z h3=>?_;refine Yo ifs h3 fun x0 ifs h3=>?_;refine gNil ifs h3 fun h3=>?_;refine gNil r h3 fun h3=>?_;obtain⟨h3,hcal⟩:=and2 (show (_&&k.cal)=true from h3);obtain⟨h3,g6⟩:=and2 (show (_&&isE ⟨N',sc,false,k.cal⟩ elt y)=true from h3);obtain⟨h3,g5⟩:=and2 (show (_&&isE ⟨N',sc,false,k.cal⟩ c x0)=true from h3);obtain⟨h3,g4⟩:=and2 (show (_&&isI k tg it iter)=true from h3);obtain⟨h3,g3⟩:=and2 (show (_&&isG ⟨N',sc,false,k.cal⟩ g tg)=true from h3);obtain⟨h3,g2⟩:=and2 (show (_&&decide (n=N'.length-k.N.length))=true from h3);obtain⟨h3,g1⟩:=and2 (show (decide (z=0)&&blkB k N' sc)=true from h3)
     obtain rfl:=of_decide_eq_true h3;obtain rfl:=of_decide_eq_true g2;have si:=fun Xe=>sI it rz Xe k X tg _ C on.2.1 g4;rw[<- C.N];refine Bj (ti:=fun Xe=>rI Xe it) (g:=rG X0 g) (b:=bIf (rE X0 c).t (XR (rE X0 elt).e)) (C.calm hcal) (WE C g1).1 (fun Xe=>(si Xe).pi) (fun p env=>ifW x0 env (WB y (.ref p) env)) (fun p env=>JO Xq) (fun cl Cn s H ex p=>⟨(sG g false X0 ⟨N',_,false,k.cal⟩ (Yw X N' _ cl Cn s H ex []) _ (C.blk g1 cl Cn s H ex) (YU g (fun c x S F=>⟨F.ex⟩) (fun x d F=>⟨F.ex⟩) on.1) g3).pg,
      GC rfl (sE c false X0 ⟨N',_,false,k.cal⟩ (Yw X N' _ cl Cn s H ex []) _ (C.blk g1 cl Cn s H ex) (Y6 c (fun c x S F=>⟨F.ex⟩) (fun x d F=>⟨F.ex⟩) on.2.2.1) g5).pt (Vj rfl (sE elt false X0 ⟨N',_,false,k.cal⟩ (Yw X N' _ cl Cn s H ex []) _ (C.blk g1 cl Cn s H ex) (Y6 elt (fun c x S F=>⟨F.ex⟩) (fun x d F=>⟨F.ex⟩) on.2.2.2) g6).pe)⟩) (fun _ _ _=>AO) ((si X0).set _)
      (Uf (C.sc _ _ (of_decide_eq_true h5) %[|4]) (of_decide_eq_true h6) (not1 h7) (CtxOk.bk (k:=k) bk)) (by rw[C.N];exact C.nd) (by rw[C.N];exact hi) (C.loc h2).1 (C.loc h2).2
    | _=>exact absurd h4 Bool.false_ne_true
   | _=>exact absurd h4 Bool.false_ne_true
 | .asg g e,rz,k,X,s,C,bk,on,h=>by
  refine gAssign s h fun ts y p h=>?_;refine Yo ts h fun tg ts h=>?_;refine gNil ts h fun h=>?_;obtain⟨h1,h4⟩:=and2 (show (_&&(An tg y || EE k tg y))=true from h);obtain⟨h1,h3⟩:=and2 (show (_&&!XI y)=true from h1);obtain⟨h1,h2⟩:=and2 (show (isG k g tg&&isE k e y)=true from h1);have s1:=fun Xe=>sG g rz Xe k X _ C on.1 h1;have h5:swappedStores [tg] y X.env=pure none:=(or2 h4).elim (fun h4=>Ad h4 _) (fun h4=>UQ C h4);exact Ii (fun Xe=>(sE e rz Xe k X _ C on.2 h2).pe) (fun Xe=>(s1 Xe).pg) (Vy (not1 h3) _ _ _) h5 (by rw[(s1 X0).as];rfl)
 | .two g g2 e,rz,k,X,s,C,bk,on,h=>by
  refine gAssign s h fun ts y p h=>?_;refine Yo ts h fun tg ts h=>?_;refine Yo ts h fun tg2 ts h=>?_;refine gNil ts h fun h=>?_;obtain⟨h1,h3⟩:=and2 (show (_&&isE k e y)=true from h);obtain⟨h1,h2⟩:=and2 (show (isG k g tg&&isG k g2 tg2)=true from h1);have s1:=fun Xe=>sG g rz Xe k X _ C on.1 h1;have s2:=fun Xe=>sG g2 rz Xe k X _ C on.2.1 h2;exact Id (fun Xe=>(sE e rz Xe k X _ C on.2.2 h3).pe) (fun Xe=>(s1 Xe).pg) (fun Xe=>(s2 Xe).pg) (by rw[(s1 X0).as,(s2 X0).as];rfl) (Jr _ _ _ _)
 | .par i j a b,rz,k,X,s,C,bk,on,h=>by
  refine gAssign s h fun ts v p h=>?_;refine Yo ts h fun tg ts h=>?_;refine gTuple tg h fun xs q1 p1 h=>?_;refine Yo xs h fun x xs h=>?_;refine gNm x h fun x px h=>?_;refine Yo xs h fun y xs h=>?_;refine gNm y h fun y py h=>?_;refine gNil xs h fun h=>?_;refine gNil ts h fun h=>?_;refine gTuple v h fun us q2 p2 h=>?_;refine Yo us h fun u us h=>?_;refine Yo us h fun v us h=>?_;refine gNil us h fun h=>?_;obtain⟨h,hcal⟩:=and2 (show (_&&k.cal)=true from h);obtain⟨h,h13⟩:=and2 (show (_&&decide (k.sc.kind=.function))=true from h);obtain⟨h,h12⟩:=and2 (show (_&&ZU v)=true from h);obtain⟨h,h11⟩:=and2 (show (_&&ZU u)=true from h);obtain⟨h,h10⟩:=and2 (show (_&&!([u,v].all (constantsAlone 8)))=true from h);obtain⟨h,h9⟩:=and2 (show (_&&!([u,v].all (foldedForSure 8)))=true from h);obtain⟨h,h8⟩:=and2 (show (_&&decide (px.line=py.line))=true from h);obtain⟨h,h7⟩:=and2 (show (_&&isE k b v)=true from h);obtain⟨h,h6⟩:=and2 (show (_&&isE k a u)=true from h)
  obtain⟨h,h5⟩:=and2 (show (_&&decide (k.kind y=some .local))=true from h);obtain⟨h,h4⟩:=and2 (show (_&&decide (k.kind x=some .local))=true from h);obtain⟨h,h3⟩:=and2 (show (_&&!decide (i=j))=true from h);obtain⟨h,h2⟩:=and2 (show (decide (k.N[i]?=some x)&&decide (k.N[j]?=some y))=true from h);have h1:=of_decide_eq_true h;have h2:=of_decide_eq_true h2;have h3:¬ i=j:=of_decide_eq_false (not1 h3);have s1:=fun Xe=>sE a rz Xe k X _ C on.1 h6;have s2:=fun Xe=>sE b rz Xe k X _ C on.2 h7;have kx:=C.sc _ _ (of_decide_eq_true h4) %[|4];have ky:=C.sc _ _ (of_decide_eq_true h5) %[|4];exact Ig (C.calm hcal) (by rw[C.N];exact C.nd) (by rw[C.N];exact h1) (by rw[C.N];exact h2) h3 kx ky (fun Xe=>W7 (s1 Xe).pe (W7 (s2 Xe).pe VZ ((s2 Xe).sh.star _ _)) ((s1 Xe).sh.star _ _))
   (Jq kx ky (fun z=>h3 (VN C.nd h1 (z ▸ h2))) (of_decide_eq_true h8) (CtxOk.bk (k:=k) bk) (not1 h9) (not1 h10) h11 h12) rfl
 | .whl c b,rz,k,X,s,C,bk,on,h=>by
  refine gWhile s h fun x xs ys p h=>?_;refine gNil ys h fun h=>?_;obtain⟨h1,h2⟩:=and2 (show (isE k c x&&isSs k rz b xs)=true from h);exact Ep (Wt C) (fun Xe=>(sE c rz Xe k X _ C on.1 h1).pt) (sSs b rz k X _ C bk on.2 h2)
 | .fr g it b,rz,k,X,s,C,bk,on,h=>by
  refine gFor s h fun tg iter xs ys p h=>?_;refine gNil ys h fun h=>?_;obtain⟨h,hcal⟩:=and2 (show (_&&k.cal)=true from h);obtain⟨h1,h3⟩:=and2 (show (_&&isSs k rz b xs)=true from h);obtain⟨h1,h2⟩:=and2 (show (isG k g tg&&isI k tg it iter)=true from h1);have si:=fun Xe=>sI it rz Xe k X tg _ C on.2.1 h2;exact Ih (Wt C) (C.calm hcal) (fun Xe=>(si Xe).pi) (fun Xe=>(sG g rz Xe k X _ C on.1 h1).pg) (sSs b rz k X _ C bk on.2.2 h3) ((si X0).set _)
 | .rse x es,rz,k,X,s,C,bk,on,h=>by
  refine gRaise s h fun v w p h=>?_;refine gSome v h fun v h=>?_;refine gCall v h fun f xs kw q h=>?_;refine gNm f h fun y q' h=>?_;refine Yo xs h fun a r h=>?_;refine gNil kw h fun h=>?_;refine gNone w h fun h=>?_;obtain⟨h,hcal⟩:=and2 (show (_&&k.cal)=true from h);obtain⟨h,h6⟩:=and2 (show (_&&isEs k es (a::r))=true from h);obtain⟨h,h5⟩:=and2 (show (_&&Xn x)=true from h);obtain⟨h,h4⟩:=and2 (show (_&&k.gl x)=true from h);obtain⟨h,h3⟩:=and2 (show (_&&xPlain.contains x)=true from h);obtain⟨hz,h2⟩:=and2 (show (rz&&decide (x=y))=true from h);obtain rfl:=of_decide_eq_true h2;subst hz;obtain⟨Cc,hm,hc⟩:=FN on.1;have s:=fun Xe=>sEs es true Xe k X _ C on.2 h6;exact Es (C.room hcal) C.tab h3 hc hm (C.gl h4) (Vm h5) (fun Xe=>(s Xe).pa) (((s X0).hd _ _ rfl).1.star _ _) (((s X0).hd _ _ rfl).2 _ _)
theorem sSs:∀ (c:CSs) (rz:Bool) (k:Ck) (X:Cx) (s:List Stmt),CtxOk X k->X.env.scope.kind=.function->onSs (FnAt X) (GloAt X) c->isSs k rz c s=true->PSs X s (YG X rz (rSs c))
 | .nil,rz,k,X,s,C,bk,on,h=>by
  cases s with
  | nil=>exact FP
  | cons _ _=>exact absurd h Bool.false_ne_true
 | .cons c r,rz,k,X,s,C,bk,on,h=>by
  cases s with
  | nil=>exact absurd h Bool.false_ne_true
  | cons x xs =>
   obtain⟨h1,h2⟩:=and2 (show (isS k rz c x&&isSs k rz r xs)=true from h);exact Eo (sS c rz k X _ C bk on.1 h1) (sSs r rz k X _ C bk on.2 h2)
end
section
variable (P:Program) (w:World) (K:Frag) (mg:Str->Option Value) (base:Heap)
structure FnE (k:Nat) (c x:Str) (S:DSp):Prop where
 ex:∃ f fd ps,FnOk P w K mg base (CXR P w) (k-ini c x) f fd ps (Wh K S)/\ini c x<=k/\RefAt K mg c x f/\Binds K fd ps []
structure GloE (x:Str) (d:D):Prop where
 ex:∃ u v,mg x=some u/\RelV v u/\∀ H,RelD K H v d
end
noncomputable def Y1 (n:Nat) (ds:List D):DSt:=ds.map some++List.replicate (n-ds.length) none
theorem BF {K:Frag} {H:Hp} {N:List Str} {vs:List V} {ds:List D} (r:RelDs K H vs ds):Slots K H (Y1 N.length ds) (L2.start N vs):=by
 unfold Y1 L2.start;rw[<- r.length];refine Slots.more ⟨by simp[r.length],fun i d e=>?_⟩ _;rw[List.getElem?_map] at e;cases q:ds[i]? with
 | none=>rw [q] at e;cases e
 | some d' =>
  rw[q] at e;cases e;obtain⟨v,h1,h2⟩:=r.get q;exact⟨v,by rw[List.getElem?_map,h1];rfl,h2⟩
section
variable {P:Program} {w:World} {K:Frag} {mg:Str->Option Value} {base:Heap}
theorem FnE.mono (F:FnE P w K mg base j c x S) (h:j<=k):FnE P w K mg base k c x S:=by
 obtain⟨f,fd,ps,a,b,c,d⟩:=F.ex;exact⟨f,fd,ps,a.mono (Nat.sub_le_sub_right h _),Nat.le_trans b h,c,d⟩
theorem Ev {x qu:Str} {st:Stmt} {f:Addr} {fd:FuncData} {N ps:List Str} {k:Nat} {S:DSp} (cs:CSs) (F:Fun K x qu st f fd) (hB:Blt mg) (tab:Xr K=true) (Sc:FnScope N ps (Ye st))
  (ck:isSs ⟨N,Ye st,true,true⟩ true cs (YX st)=true) (on:onSs (FnE P w K mg base k) (GloE K mg) cs)
  (len:∀ ds M R E,S ds M R E->ds.length=ps.length)
  (vc:∀ ds M R E,S ds M R E->rSs cs {nx:=fun _ M'=>R .non M',rt:=R,ex:=fun _=>E} (Y1 N.length ds) M):FnOk P w K mg base (CXR P w) (k+1) f fd ps (Wh K S):=by
 obtain⟨oc,od,kV,doc,pm,an,cdv,ct,osl,rfl,lk,hcd⟩:=F.ex;refine GO lk hcd Sc (fun vs H Q E ⟨ds,M,R,Ed,r,_,h,_⟩=>by rw[r.length];exact len ds M R _ h) fun A outer s H vs Q E hr ⟨ds,M,R,Ed,r,rm,h,q,qe⟩=>?_;refine⟨YG (cxOf (CXR P w) P w K mg base N qu (Ye st) f cdv A outer s H E) true (rSs cs),?_,?_⟩
 ·refine sSs cs true ⟨N,Ye st,true,true⟩ _ _ ⟨rfl,Sc.nd,fun x κ e _=>e,fun x e=>.inr e,fun _ _=>rfl,fun _=>rfl,fun _=>hr.mono (Nat.zero_le _),Nat.lt_of_le_of_lt (Nat.le_trans (Nat.add_le_add_left (by decide:66<=200) _) (Nat.add_le_add_right (Nat.le_add_right _ _) _)) hr.un,hB,PassesOwn.leaving,tab,fun _=>⟨rfl,rfl⟩⟩ Sc.kind ?_ ck
  exact ZG cs (fun _ x S ⟨f',fd',ps',a,b,c,d⟩=>⟨k,f',fd',ps',a,b,fun _=>hr,c,d⟩) (fun x d ⟨u,v,a,b,c⟩=>⟨u,v,a,b,c⟩) on
 ·exact⟨Y1 N.length ds,M,{nx:=fun _ M'=>R .non M',rt:=R,ex:=fun _=>Ed},⟨BF r,Cj qe⟩,rm,vc ds M R Ed h,fun δ' M' σ' H' x _ m h'=>q _ _ _ _ x m .non h',fun d M' v H' x m rr h'=>q _ _ _ _ x m rr h',fun _ _ _ _ _ _ _ z=>z.elim,fun _ _ _ _ _ _ _ z=>z.elim⟩
theorem Ip {x y:Str} {st:Stmt} {f:Addr} {fd:FuncData} {N ps:List Str} {k:Nat} {S:DSp} (cs:CSs) (F:Fun K x x st f fd) (hm:mg y=some (.ref f)) (hb:Binds K fd ps []) (hB:Blt mg) (tab:Xr K=true) (Sc:FnScope N ps (Ye st))
  (ck:isSs ⟨N,Ye st,true,true⟩ true cs (YX st)=true) (on:onSs (FnE P w K mg base k) (GloE K mg) cs)
  (len:∀ ds M R E,S ds M R E->ds.length=ps.length)
  (vc:∀ ds M R E,S ds M R E->rSs cs {nx:=fun _ M'=>R .non M',rt:=R,ex:=fun _=>E} (Y1 N.length ds) M):FnE P w K mg base (k+1) "" y S :=
 ⟨f,fd,ps,by rw[ini0];exact Ev cs F hB tab Sc ck on len vc,by rw[ini0];exact Nat.zero_le _,⟨fun _=>⟨hm,F.kp⟩,fun z=>absurd rfl z⟩,hb⟩
theorem usS (h:us.length=n+1):∃ a r,us=a::r/\r.length=n:=by
 cases us with
 | nil=>exact absurd h (Nat.succ_ne_zero n).symm
 | cons a r=>exact⟨a,r,rfl,Nat.succ.inj h⟩
theorem us0 (h:us.length=0):us=[]:=by
 cases us with
 | nil=>rfl
 | cons a r=>exact absurd h (Nat.succ_ne_zero _)
theorem us1 (h:us.length=1):∃ a,us=[a]:=by
 obtain⟨a,r,rfl,g⟩:=usS h;obtain rfl:=us0 g;exact⟨a,rfl⟩
theorem us2 (h:us.length=2):∃ a b,us=[a,b]:=by
 obtain⟨a,r,rfl,g⟩:=usS h;obtain⟨b,rfl⟩:=us1 g;exact⟨a,b,rfl⟩
theorem us3 (h:us.length=3):∃ a b c,us=[a,b,c]:=by
 obtain⟨a,r,rfl,g⟩:=usS h;obtain⟨b,c,rfl⟩:=us2 g;exact⟨a,b,c,rfl⟩
theorem us4 (h:us.length=4):∃ a b c d,us=[a,b,c,d]:=by
 obtain⟨a,r,rfl,g⟩:=usS h;obtain⟨b,c,d,rfl⟩:=us3 g;exact⟨a,b,c,d,rfl⟩
theorem Z2 (X:K.In h) (G:h.Ns mainGlobals mg) (hn:n∈xNames) (e:PySem.W.nsIn K mainGlobals n=some (some (.ref C))):GloE K mg n (.cls n) :=
 ⟨.ref C,.ref C,PySem.W.mg_of X G e,rfl,fun _=>.cls hn e⟩
end
structure Script (ns:List Int):Prop where
 len:ns.length<=63
 bits:∀ n∈ns,Builtin.Int.intBits n<=1048576
noncomputable def SLaw:DSp:=fun ds M Q _=>∃ ns:List Int,ds=[.fz (ns.map .int)]/\Script ns/\∀ M',Q (.bl true) M'
theorem Xu:∀ {ns:List Int},PySem.W.WData.weightAll (ns.map PySem.W.WData.int)<=2 ^ 20->∀ n∈ns,Builtin.Int.intBits n<=1048576
 | n::r,h,m,hm=>by
  simp only[List.map_cons,PySem.W.WData.weightAll] at h;rcases List.mem_cons.mp hm with rfl|hm
  ·have e:Builtin.Int.intBits m=PySem.W.WData.weight (.int m):=by
    unfold Builtin.Int.intBits PySem.W.WData.weight
    rfl
   rw[e];omega
  ·exact Xu %[|5] m hm
theorem walkD {l:PySem.W.OpenLaw} {q:Program} {loose:List Str} {XP:(Str->Option Value)->Heap->Prop} {YP:World->Heap->Prop} {d:DefRec} {K:Params->Frag} {x:Str} {k:Nat} (hn:l.most=some 63) (hdf:d.params.defaults=[])
  (hr:Room k callerA) (hY:∀ (w:World) (h:Heap),YP w h->(K w.params).In h)
  (F:∀ (w:World) (mg:Str->Option Value) (fa:Addr) (h:Heap),(K w.params).In h->h.Ns mainGlobals mg->mg d.name=some (.ref fa) ->
   ∃ fd:FuncData,(∀ (s:Shared) (u:Value),BindsTo s fd ⟨[u],[]⟩ [(x,u)])/\∀ base:Heap,(K w.params).In base->base.Ns mainGlobals mg->FnOk l.prog w (K w.params) mg base (CXR l.prog w) k fa fd [x] (Wh (K w.params) SLaw)) :
  PySem.W.WalkO q loose XP YP l.row.toRowW d [] (fun f vs=>PySem.call f vs):=by
 intro w s₀ s₁ mg mb G Y fa o pm cd doc dV kV ho hd hcd hD hmg hg args vals as hpre hlay hrd hwl hlo;obtain rfl:dV=.none:=PySem.W.Dflts.none hD hdf;obtain rfl:kV=.none:=PySem.W.Dflts.noKw hD;obtain⟨a,vs,ns,rfl,rfl,hobj,hints,hlen⟩:=Att.script_of hn hpre hwl;have KX:=hY w _ Y;obtain⟨fd,hb,hF⟩:=F w mg fa _ KX G.T.g hmg;have hbits:∀ n∈ns,Builtin.Int.intBits n<=1048576:=by
  refine Xu ?_;simp only[PySem.W.WData.layableAll,List.all_cons,List.all_nil,Bool.and_true,PySem.W.WData.layable,Bool.and_eq_true,decide_eq_true_eq] at hlay;exact hlay.2
 refine PySem.W.enter_call (codeAny_mono (DU KX G.T.g G.T.b G.T.builtins G.T.nolimit hg hobj hints (Nat.le_trans hlen %[|4]) hr hF hb (fun H hO hS=>?_) fun H e s' ⟨_,_,_,_,_,_,z⟩=>z) fun r s' hq=>?_)
 ·have hf:SqF (K w.params) H a (ns.map V.int):=by
   rcases hS with (hS|⟨o,hS⟩)|hS
   ·rcases hO a with z|⟨o,xs,z⟩<;>rw[hS] at z<;>cases z
   ·exact .inl ⟨o,hS⟩
   ·exact .inr hS
  exact⟨[.fz (ns.map .int)],fun _=>none,fun d _=>d=.bl true,fun _ _=>False,.cons (.fz hf (.ints ns)) .nil,.nil,⟨ns,rfl,⟨hlen,hbits⟩,fun _=>rfl⟩,fun d' M' v H' _ _ r h=>by subst h;(first|cases (show _=_ from r.inv)|cases r);rfl,fun _ _ _ _ _ _ _ _ _ _ _ z=>z.elim⟩
 ·obtain⟨rfl,h2,h3,h4⟩:=hq
  exact⟨.inl ⟨.bool true,.bool true,[],rfl,fun _=>rfl,.bool true,Att.post_true l _,fun _=>⟨List.Pairwise.nil,fun _ hm=>(nomatch hm)⟩⟩,h2,h3,h4⟩
structure DefIs (s:Stmt) (N:List Str) (n:Nat) (C:CSs) (S:DSp):Prop where
 sc:FnScope N (N.take n) (Ye s)
 ck:isSs ⟨N,Ye s,true,true⟩ true C (YX s)=true
 len:∀ ds M R E,S ds M R E->ds.length=(N.take n).length
 vc:∀ ds M R E,S ds M R E->rSs C {nx:=fun _ M'=>R .non M',rt:=R,ex:=fun _=>E} (Y1 N.length ds) M
 bd:∀ (q:Str) (kV doc pm:Value) (an:Option Addr) (cdv ct:Value) (us:List Value),us.length=(N.take n).length->bindArgs (PySem.W.fnOf q q (X3 s) (YX s) (Ye s) .none kV doc pm an cdv ct) ⟨us,[]⟩=pure ((N.take n).zip us)
inductive Has (K:Frag) (q:Str) (s:Stmt):Prop
 | mk {f:Addr} {oc:Value} {od an:Option Addr} {sl:Array (Option Value)} {kV dc pm cd ct:Value} (a:PySem.W.nsIn K mainGlobals q=some (some (.ref f))) (l:K.lookup f=some ⟨oc,od,.func (PySem.W.fnOf q q (X3 s) (YX s) (Ye s) .none kV dc pm an cd ct),sl⟩) (c:PySem.W.codeIn K cd q=true) (k:PySem.W.keepIn K (.ref f)=true):Has K q s
structure Zc (P:Program) (w:World) (K:Frag) (h:Heap) (mg:Str->Option Value) (base:Heap):Prop where
 X:K.In h
 G:h.Ns mainGlobals mg
 B:Blt mg
 tab:Xr K=true
theorem DefIs.ok {P:Program} {w:World} {K:Frag} {h:Heap} {mg:Str->Option Value} {base:Heap} {s:Stmt} {N:List Str} {n:Nat} {C:CSs} {S:DSp} {q:Str} (k:Nat) (D:DefIs s N n C S) (H:Has K q s) (Z:Zc P w K h mg base) (on:onSs (FnE P w K mg base k) (GloE K mg) C):FnE P w K mg base (k+1) "" q S:=by
 obtain⟨a,l,c,kp⟩:=H;exact Ip C (AC l c kp) (PySem.W.mg_of Z.X Z.G a) ((AC (st:=s) l c kp).binds (D.bd q)) Z.B Z.tab D.sc D.ck on D.len D.vc
end DL
end
noncomputable section
namespace Q
theorem JS {a b:Int} (h:b≠0):0<Int.gcd a b:=Int.gcd_pos_of_ne_zero_right _ h
theorem DN (a b:Int) (h:b≠0):a.fdiv (if b<0 then -(Int.gcd a b:Int) else Int.gcd a b)=(Rat.divInt a b).num/\b.fdiv (if b<0 then -(Int.gcd a b:Int) else Int.gcd a b)=((Rat.divInt a b).den:Int):=by
 have hg:=JS (a:=a) h;obtain⟨x,hx⟩:(Int.gcd a b:Int) ∣ a:=Int.gcd_dvd_left ..;obtain⟨y,hy⟩:(Int.gcd a b:Int) ∣ b:=Int.gcd_dvd_right ..;have gc:Int.gcd b a=Int.gcd a b:=Int.gcd_comm b a;rw[Rat.num_divInt,Rat.den_divInt,if_neg h,gc];generalize hgg:Int.gcd a b=g at *;have g0:(g:Int)≠0:=by omega
 have hy0:y≠0:=fun z=>h (by rw[hy,z,Int.mul_zero]);by_cases hb:b<0
 ·rw[if_pos hb]
  have yneg:y<0:=by
   rcases Int.lt_trichotomy y 0 with z|z|z
   ·exact z
   ·exact absurd z hy0
   ·have:=Int.mul_pos (by omega:(0:Int)<g) z;omega
  have sb:b.sign=-1:=Int.sign_eq_neg_one_of_neg hb;have e1:a=(-(g:Int))*(-x):=by rw[Int.neg_mul_neg];exact hx
  have e2:b=(-(g:Int))*(-y):=by rw[Int.neg_mul_neg];exact hy
  have n0:(-(g:Int))≠0:=by omega
  constructor
  ·conv=>lhs;rw[e1]
   rw[Int.mul_fdiv_cancel_left _ n0,sb];have:(-1*a)=(g:Int)*(-x):=by rw[hx,Int.mul_neg];omega
   rw[this,Int.mul_ediv_cancel_left _ g0]
  ·conv=>lhs;rw[e2]
   rw[Int.mul_fdiv_cancel_left _ n0];have e3:b.natAbs=g*(-y).natAbs:=by rw[hy,Int.natAbs_mul];simp
   rw[e3,Nat.mul_div_cancel_left _ hg];omega
 ·rw[if_neg hb]
  have ypos:0<y:=by
   rcases Int.lt_trichotomy y 0 with z|z|z
   ·have:=Int.mul_neg_of_pos_of_neg (by omega:(0:Int)<g) z;omega
   ·exact absurd z hy0
   ·exact z
  have sb:b.sign=1:=Int.sign_eq_one_of_pos %[|5];constructor
  ·conv=>lhs;rw[hx]
   rw[Int.mul_fdiv_cancel_left _ g0,sb,Int.one_mul]
   conv=>rhs;rw[hx]
   rw[Int.mul_ediv_cancel_left _ g0]
  ·conv=>lhs;rw[hy]
   rw[Int.mul_fdiv_cancel_left _ g0];have e3:b.natAbs=g*y.natAbs:=by rw[hy,Int.natAbs_mul];simp
   rw[e3,Nat.mul_div_cancel_left _ hg];omega
theorem Yl (q:Rat):Rat.divInt q.num q.den=q:=Rat.num_divInt_den q
theorem Eh (q:Rat):Int.gcd q.num q.den=1:=q.reduced
theorem W6 (q:Rat):(0:Int)<q.den:=by have:=q.den_nz;omega
theorem HI {a b:Int} (hb:1<=b) (hg:Int.gcd a b=1):(Rat.divInt a b).num=a/\((Rat.divInt a b).den:Int)=b:=by
 have gc:Int.gcd b a=1:=by rw[Int.gcd_comm];exact hg
 rw[Rat.num_divInt,Rat.den_divInt,if_neg %[|5],gc,Int.sign_eq_one_of_pos %[|5]];simp;omega
theorem AL (p q:Rat):Rat.divInt (p.num*q.den+q.num*p.den) (p.den*q.den)=p+q:=by
 rw[<- Rat.divInt_add_divInt _ _ (by have:=p.den_nz;omega) (by have:=q.den_nz;omega),Yl,Yl]
theorem Ae (p q:Rat):Rat.divInt (p.num*q.den-q.num*p.den) (p.den*q.den)=p-q:=by
 rw[<- Rat.divInt_sub_divInt _ _ (by have:=p.den_nz;omega) (by have:=q.den_nz;omega),Yl,Yl]
theorem DC (p q:Rat):Rat.divInt (p.num*q.num) (p.den*q.den)=p*q:=by
 rw[<- Rat.divInt_mul_divInt,Yl,Yl]
theorem Et (p q:Rat):Rat.divInt (p.num*q.den) (p.den*q.num)=p / q:=by
 rw[Rat.div_def,Rat.inv_def,<- Rat.divInt_mul_divInt,Yl]
theorem GG (p q:Rat):p.num*q.den<q.num*p.den ↔ p<q:=(Rat.lt_iff p q).symm
noncomputable def Sz (n:Nat) (q:Rat):Prop:=q.num.natAbs<2 ^ n/\q.den<2 ^ n
theorem Sz.mono {m n:Nat} {q:Rat} (h:Sz m q) (k:m<=n):Sz n q:=⟨Nat.lt_of_lt_of_le h.1 (Nat.pow_le_pow_right %[|4] k),Nat.lt_of_lt_of_le h.2 (Nat.pow_le_pow_right %[|4] k)⟩
theorem Ux (a b:Int) (h:b≠0):(Rat.divInt a b).num.natAbs<=a.natAbs/\(Rat.divInt a b).den<=b.natAbs:=by
 rw[Rat.num_divInt,Rat.den_divInt,if_neg h];constructor
 ·have:(b.sign*a).natAbs<=a.natAbs:=by
   rw[Int.natAbs_mul];have:b.sign.natAbs<=1:=by rcases Int.lt_trichotomy b 0 with z|z|z<;>simp[Int.sign_eq_neg_one_of_neg,Int.sign_eq_one_of_pos,z]
   exact Nat.le_trans (Nat.mul_le_mul_right _ this) (by simp)
  exact Nat.le_trans (Int.natAbs_ediv_le_natAbs _ _) this
 ·exact Nat.div_le_self _ _
theorem ZE {a b:Int} {n:Nat} (h:b≠0) (ha:a.natAbs<2 ^ n) (hb:b.natAbs<2 ^ n):Sz n (Rat.divInt a b) :=
 ⟨Nat.lt_of_le_of_lt (Ux a b h).1 ha,Nat.lt_of_le_of_lt (Ux a b h).2 hb⟩
theorem As {a b m n:Nat} (ha:a<2 ^ m) (hb:b<2 ^ n):a*b<2 ^ (m+n):=by
 rw[Nat.pow_add];exact Nat.mul_lt_mul'' ha hb
theorem YY {a b:Int} {m n:Nat} (ha:a.natAbs<2 ^ m) (hb:b.natAbs<2 ^ n):(a*b).natAbs<2 ^ (m+n):=by
 rw[Int.natAbs_mul];exact As ha hb
theorem Gn {a b:Int} {n:Nat} (ha:a.natAbs<2 ^ n) (hb:b.natAbs<2 ^ n):(a+b).natAbs<2 ^ (n+1):=by
 have:=Int.natAbs_add_le a b;rw[Nat.pow_succ];omega
theorem Gm {a b:Int} {n:Nat} (ha:a.natAbs<2 ^ n) (hb:b.natAbs<2 ^ n):(a-b).natAbs<2 ^ (n+1):=by
 have:=Int.natAbs_sub_le a b;rw[Nat.pow_succ];omega
theorem Yp {n:Nat} {q:Rat} (h:Sz n q):(q.den:Int).natAbs<2 ^ n:=by simpa using h.2
theorem XM (p q:Rat):(p.den:Int)*q.den≠0:=by
 have:=W6 p;have:=W6 q;exact Int.ne_of_gt (Int.mul_pos %[|5] %[|5])
theorem Sz.add {m n:Nat} {p q:Rat} (hp:Sz m p) (hq:Sz n q):Sz (m+n+1) (p+q):=by
 rw[<- AL];refine ZE (XM p q) (Gn (YY hp.1 (Yp hq)) ?_) (Nat.lt_of_lt_of_le (YY (Yp hp) (Yp hq)) (Nat.pow_le_pow_right %[|4] %[|5]));rw[Nat.add_comm];exact YY hq.1 (Yp hp)
theorem Sz.sub {m n:Nat} {p q:Rat} (hp:Sz m p) (hq:Sz n q):Sz (m+n+1) (p-q):=by
 rw[<- Ae];refine ZE (XM p q) (Gm (YY hp.1 (Yp hq)) ?_) (Nat.lt_of_lt_of_le (YY (Yp hp) (Yp hq)) (Nat.pow_le_pow_right %[|4] %[|5]));rw[Nat.add_comm];exact YY hq.1 (Yp hp)
theorem Sz.mul {m n:Nat} {p q:Rat} (hp:Sz m p) (hq:Sz n q):Sz (m+n) (p*q):=by
 rw[<- DC];exact ZE (XM p q) (YY hp.1 hq.1) (YY (Yp hp) (Yp hq))
theorem Dl {q:Rat} (h:q≠0):q.num≠0:=fun z=>h (Rat.num_eq_zero.mp z)
theorem Sz.div {m n:Nat} {p q:Rat} (hp:Sz m p) (hq:Sz n q) (h:q≠0):Sz (m+n) (p / q):=by
 rw[<- Et];have:=W6 p;exact ZE (Int.mul_ne_zero %[|5] (Dl h)) (YY hp.1 (Yp hq)) (YY (Yp hp) hq.1)
theorem Sz.int {n:Nat} {i:Int} (h:i.natAbs<2 ^ n) (h1:1<=n):Sz n (i:Rat):=⟨by simpa using h,by
 show (1:Nat) < _;exact Nat.one_lt_two_pow %[|5]⟩
end Q
end
noncomputable section
namespace Q
theorem IZ (d:Nat->Rat) (n:Nat) (h:∀ k,0<k->k<n->0<d k->d k-d (k-1)<=d (k+1)-d k):∀ m i,n-i=m->0<i->i<=n->0<d i->0<d i-d (i-1)->0<d n:=by
 intro m
 induction m with
 | zero =>
  intro i e h0 h1 h2 _;have:i=n:=by omega
  subst this;exact h2
 | succ m ih =>
  intro i e h0 h1 h2 h3;have hi:i<n:=by omega
  have:=h i h0 hi h2;refine ih (i+1) %[|5] %[|5] %[|5] (by grind) ?_;rw[Nat.add_sub_cancel];grind
theorem climbs (d:Nat->Rat) (h0:d 0<=0):∀ k,0<d k->∃ i,0<i/\i<=k/\0<d i/\0<d i-d (i-1):=by
 intro k
 induction k with
 | zero=>intro h;grind
 | succ k ih =>
  intro h;by_cases hk:0<d k
  ·obtain⟨i,a,b,c,e⟩:=ih hk
   exact⟨i,a,by omega,c,e⟩
  ·exact⟨k+1,by omega,by omega,h,by rw[Nat.add_sub_cancel];grind⟩
theorem maxp (d:Nat->Rat) (n:Nat) (h0:d 0<=0) (hn:d n<=0) (h:∀ k,0<k->k<n->0<d k->d k-d (k-1)<=d (k+1)-d k):∀ k,k<=n->d k<=0:=by
 intro k hk;by_cases hd:0<d k
 ·obtain⟨i,a,b,c,e⟩:=climbs d h0 k hd
  have:=IZ d n h (n-i) i rfl a %[|5] c e;grind
 ·grind
structure Taut (lo hi r:Nat->Rat) (n:Nat):Prop where
 low:∀ k,k<=n->lo k<=r k
 high:∀ k,k<=n->r k<=hi k
 up:∀ k,0<k->k<n->r k-r (k-1)<r (k+1)-r k->r k=hi k
 down:∀ k,0<k->k<n->r (k+1)-r k<r k-r (k-1)->r k=lo k
theorem Taut.le {lo hi r lo' hi' r':Nat->Rat} {n:Nat} (a:Taut lo hi r n) (b:Taut lo' hi' r' n) (hl:∀ k,k<=n->lo k<=lo' k) (hh:∀ k,k<=n->hi k<=hi' k) (h0:r 0<=r' 0) (hn:r n<=r' n):∀ k,k<=n->r k<=r' k:=by
 intro k hk;have:=maxp (fun k=>r k-r' k) n (by grind) (by grind) (fun k k0 kn hd=>?_) k hk
 ·grind
 ·have l1:=hl k %[|5];have l2:=hh k %[|5];have l3:=b.low k %[|5];have l4:=a.high k %[|5];have l5:=a.low k %[|5];have l6:=b.high k %[|5]
  have u:=b.up k k0 kn;have d:=a.down k k0 kn;by_cases h1:r (k+1)-r k<r k-r (k-1)
  ·have:=d h1;grind
  ·by_cases h2:r' k-r' (k-1)<r' (k+1)-r' k
   ·have:=u h2;grind
   ·grind
theorem Taut.unique {lo hi r r':Nat->Rat} {n:Nat} (a:Taut lo hi r n) (b:Taut lo hi r' n) (h0:r 0=r' 0) (hn:r n=r' n):∀ k,k<=n->r k=r' k:=by
 intro k hk;have x:=a.le b (fun _ _=>by grind) (fun _ _=>by grind) (by grind) (by grind) k hk;have y:=b.le a (fun _ _=>by grind) (fun _ _=>by grind) (by grind) (by grind) k hk;grind
noncomputable def line (b:Nat) (h s:Rat) (t:Nat):Rat:=h+s*((t:Rat)-(b:Rat))
structure Free (lo hi:Nat->Rat) (b:Nat) (h s:Rat) (e:Nat):Prop where
 low:∀ t,b<t->t<e->lo t<=line b h s t
 high:∀ t,b<t->t<e->line b h s t<=hi t
inductive Seg (lo hi:Nat->Rat) (n b:Nat) (h s:Rat) (p:Nat):Prop
 | up (at_:Nat) (hb:b<p) (hp:p<at_) (hn:at_<=n) (f:Free lo hi b h s at_) (t:line b h s p=hi p) (g:∀ t,p<t->t<at_->line b h s t<hi t) (z:line b h s at_<lo at_)
 | down (at_:Nat) (hb:b<p) (hp:p<at_) (hn:at_<=n) (f:Free lo hi b h s at_) (t:line b h s p=lo p) (g:∀ t,p<t->t<at_->lo t<line b h s t) (z:hi at_<line b h s at_)
 | fin (hb:b<p) (hp:p=n) (f:Free lo hi b h s (n+1))
theorem Uo (b:Nat) (h s:Rat) (p t:Nat):line p (line b h s p) s t=line b h s t:=by unfold line;grind
theorem B5 {b:Nat} {h s s':Rat} {t:Nat} (hb:b<t) (hl:line b h s t<line b h s' t):s<s':=by
 unfold line at hl;have hp:(0:Rat)<(t:Rat)-(b:Rat):=by
  have:(b:Rat)<(t:Rat):=by exact_mod_cast hb
  grind
 have h1:s*((t:Rat)-b)<s'*((t:Rat)-b):=by grind
 apply Decidable.byContradiction;intro hn;have:s'<=s:=by grind
 have:=Rat.mul_le_mul_of_nonneg_right this (Rat.le_of_lt hp);grind
theorem Seg.after_up {lo hi:Nat->Rat} {n b:Nat} {h s:Rat} {p at_ q:Nat} {s':Rat} (ok:∀ t,t<=n->lo t<=hi t) (hp:p<at_) (hn:at_<=n) (f:Free lo hi b h s at_) (hb:b<p)
  (g:∀ t,p<t->t<at_->line b h s t<hi t) (z:line b h s at_<lo at_) (S:Seg lo hi n p (line b h s p) s' q):s<s':=by
 have key:∀ t,p<t->line b h s t<line p (line b h s p) s' t->s<s':=fun t ht hl=>by
  rw[<- Uo b h s p t] at hl;exact B5 ht hl
 cases S with
 | up a2 h1 h2 h3 f2 t2 g2 z2 =>
  by_cases hq:q<at_
  ·exact key q h1 (by rw[t2];exact g q h1 hq)
  ·have:=f2.low at_ hp %[|5]
   exact key at_ hp (by grind)
 | down a2 h1 h2 h3 f2 t2 g2 z2 =>
  by_cases ha:a2<at_
  ·have:=g a2 %[|5] ha
   exact key a2 %[|5] (by grind)
  ·by_cases he:at_<a2
   ·have:=f2.low at_ hp he
    exact key at_ hp (by grind)
   ·have e:at_=a2:=by omega
    subst e;have:=ok at_ hn;exact key at_ hp (by grind)
 | fin h1 h2 f2 =>
  have:=f2.low at_ hp %[|5];exact key at_ hp (by grind)
theorem Seg.after_down {lo hi:Nat->Rat} {n b:Nat} {h s:Rat} {p at_ q:Nat} {s':Rat} (ok:∀ t,t<=n->lo t<=hi t) (hp:p<at_) (hn:at_<=n) (f:Free lo hi b h s at_) (hb:b<p)
  (g:∀ t,p<t->t<at_->lo t<line b h s t) (z:hi at_<line b h s at_) (S:Seg lo hi n p (line b h s p) s' q):s'<s:=by
 have key:∀ t,p<t->line p (line b h s p) s' t<line b h s t->s'<s:=fun t ht hl=>by
  rw[<- Uo b h s p t] at hl;exact B5 ht hl
 cases S with
 | up a2 h1 h2 h3 f2 t2 g2 z2 =>
  by_cases ha:a2<at_
  ·have:=g a2 %[|5] ha
   exact key a2 %[|5] (by grind)
  ·by_cases he:at_<a2
   ·have:=f2.high at_ hp he
    exact key at_ hp (by grind)
   ·have e:at_=a2:=by omega
    subst e;have:=ok at_ hn;exact key at_ hp (by grind)
 | down a2 h1 h2 h3 f2 t2 g2 z2 =>
  by_cases hq:q<at_
  ·exact key q h1 (by rw[t2];exact g q h1 hq)
  ·have:=f2.high at_ hp %[|5]
   exact key at_ hp (by grind)
 | fin h1 h2 f2 =>
  have:=f2.high at_ hp %[|5];exact key at_ hp (by grind)
structure Drawn (lo hi r:Nat->Rat) (n b:Nat):Prop where
 le:b<=n
 low:∀ k,k<=b->lo k<=r k
 high:∀ k,k<=b->r k<=hi k
 up:∀ k,0<k->k<b->r k-r (k-1)<r (k+1)-r k->r k=hi k
 down:∀ k,0<k->k<b->r (k+1)-r k<r k-r (k-1)->r k=lo k
 pend:b=0\/b=n\/∃ a h s,a<b/\r b-r (b-1)=s/\r b=line a h s b/\Seg lo hi n a h s b
theorem WP (b:Nat) (h s:Rat) (t:Nat) (ht:0<t):line b h s t-line b h s (t-1)=s:=by
 unfold line;have:((t-1:Nat):Rat)=(t:Rat)-1:=by
  obtain⟨k,rfl⟩:∃ k,t=k+1:=⟨t-1,by omega⟩;rw[Nat.add_sub_cancel];have:((k+1:Nat):Rat)=(k:Rat)+1:=by push_cast;rfl
  grind
 grind
theorem B6 (b:Nat) (h s:Rat):line b h s b=h:=by unfold line;grind
theorem Drawn.next {lo hi r:Nat->Rat} {n b:Nat} (D:Drawn lo hi r n b) (hb:b<n) (ok:∀ t,t<=n->lo t<=hi t) (tie:lo n=hi n) {s:Rat} {p:Nat} (S:Seg lo hi n b (r b) s p) (hr:∀ t,b<t->t<=p->r t=line b (r b) s t):Drawn lo hi r n p:=by
 have hbp:b<p/\p<=n:=by cases S<;>omega
 have bnd:∀ t,b<t->t<=p->lo t<=line b (r b) s t/\line b (r b) s t<=hi t:=fun t h1 h2=>by
  cases S with
  | up a _ h4 _ f=>exact⟨f.low t h1 %[|5],f.high t h1 %[|5]⟩
  | down a _ h4 _ f=>exact⟨f.low t h1 %[|5],f.high t h1 %[|5]⟩
  | fin _ h4 f=>exact⟨f.low t h1 %[|5],f.high t h1 %[|5]⟩
 have st:∀ t,b<t->t<=p->r t-r (t-1)=s:=fun t h1 h2=>by
  rw[hr t h1 h2];by_cases h3:b<t-1
  ·rw[hr (t-1) h3 %[|5]];exact WP _ _ _ _ %[|5]
  ·have e:t-1=b:=by omega
   rw[e];have:=WP b (r b) s t %[|5];rw[e,B6] at this;exact this
 have atb:0<b->(r b-r (b-1)<s->r b=hi b)/\(s<r b-r (b-1)->r b=lo b):=fun h0=>by
  rcases D.pend with z|z|⟨a,h,s0,ha,e1,e2,S0⟩
  ·omega
  ·omega
  ·rw[e2] at S
   cases S0 with
   | up x h1 h2 h3 f t g zz =>
    have:=Seg.after_up ok h2 h3 f h1 g zz S;exact⟨fun _=>by rw[e2];exact t,fun z=>by grind⟩
   | down x h1 h2 h3 f t g zz =>
    have:=Seg.after_down ok h2 h3 f h1 g zz S;exact⟨fun z=>by grind,fun _=>by rw[e2];exact t⟩
   | fin h1 h2 f=>omega
 refine⟨hbp.2,fun k hk=>?_,fun k hk=>?_,fun k k0 kp z=>?_,fun k k0 kp z=>?_,?_⟩
 ·by_cases h:k<=b
  ·exact D.low k h
  ·rw[hr k %[|5] hk];exact (bnd k %[|5] hk).1
 ·by_cases h:k<=b
  ·exact D.high k h
  ·rw[hr k %[|5] hk];exact (bnd k %[|5] hk).2
 ·by_cases h:k<b
  ·exact D.up k k0 h z
  ·have n1:=st (k+1) %[|5] %[|5]
   rw[Nat.add_sub_cancel] at n1;by_cases h2:k=b
   ·subst h2;exact (atb k0).1 (by grind)
   ·have n2:=st k %[|5] %[|5]
    grind
 ·by_cases h:k<b
  ·exact D.down k k0 h z
  ·have n1:=st (k+1) %[|5] %[|5]
   rw[Nat.add_sub_cancel] at n1;by_cases h2:k=b
   ·subst h2;exact (atb k0).2 (by grind)
   ·have n2:=st k %[|5] %[|5]
    grind
 ·by_cases hpn:p=n
  ·exact .inr (.inl hpn)
  ·exact .inr (.inr ⟨b,r b,s,hbp.1,st p hbp.1 %[|3],hr p hbp.1 %[|3],S⟩)
theorem Drawn.start {lo hi r:Nat->Rat} {n:Nat} (h:lo 0<=r 0) (h':r 0<=hi 0):Drawn lo hi r n 0:=by
 refine⟨Nat.zero_le _,fun k hk=>?_,fun k hk=>?_,fun k a b=>by omega,fun k a b=>by omega,.inl rfl⟩
 ·obtain rfl:k=0:=by omega
  exact h
 ·obtain rfl:k=0:=by omega
  exact h'
theorem Drawn.congr {lo hi r r':Nat->Rat} {n b:Nat} (D:Drawn lo hi r n b) (h:∀ k,k<=b->r k=r' k):Drawn lo hi r' n b:=by
 refine⟨D.le,fun k hk=>by rw[<- h k hk];exact D.low k hk,fun k hk=>by rw[<- h k hk];exact D.high k hk,fun k k0 kb z=>?_,fun k k0 kb z=>?_,?_⟩
 ·rw[<- h k %[|5]];rw[<- h k %[|5],<- h (k-1) %[|5],<- h (k+1) %[|5]] at z;exact D.up k k0 kb z
 ·rw[<- h k %[|5]];rw[<- h k %[|5],<- h (k-1) %[|5],<- h (k+1) %[|5]] at z;exact D.down k k0 kb z
 ·rcases D.pend with z|z|⟨a,hh,s,h1,h2,h3,h4⟩
  ·exact .inl z
  ·exact .inr (.inl z)
  ·exact .inr (.inr ⟨a,hh,s,h1,by rw[<- h b %[|5],<- h (b-1) %[|5]];exact h2,by rw[<- h b %[|5]];exact h3,h4⟩)
theorem Drawn.taut {lo hi r:Nat->Rat} {n:Nat} (D:Drawn lo hi r n n):Taut lo hi r n:=⟨D.low,D.high,D.up,D.down⟩
noncomputable def Y3 (b:Nat) (h:Rat) (t:Nat) (x:Rat):Rat:=(x-h) / ((t:Rat)-(b:Rat))
theorem W4 {b t:Nat} (hb:b<t):(0:Rat)<(t:Rat)-(b:Rat):=by
 have:(b:Rat)<(t:Rat):=by exact_mod_cast hb
 grind
theorem Ym {b t:Nat} (h x:Rat) (hb:b<t):line b h (Y3 b h t x) t=x:=by
 have:=W4 hb;unfold line Y3;grind
theorem XF {b t:Nat} {h s s':Rat} (hb:b<t):line b h s t<=line b h s' t ↔ s<=s':=by
 constructor
 ·intro q
  apply Decidable.byContradiction;intro hn;have h1:s'<s:=by grind
  have h2:=Rat.mul_lt_mul_of_pos_right h1 (W4 hb);unfold line at q;grind
 ·intro q
  have h2:=Rat.mul_le_mul_of_nonneg_right q (Rat.le_of_lt (W4 hb));unfold line;grind
theorem V5 {b t:Nat} {h s s':Rat} (hb:b<t):line b h s t<line b h s' t ↔ s<s':=by
 have:=XF (h:=h) (s:=s') (s':=s) hb;grind
theorem Jt {b t:Nat} {h s x:Rat} (hb:b<t):Y3 b h t x<=s ↔ x<=line b h s t:=by
 rw[<- XF (h:=h) hb,Ym h x hb]
theorem XE {b t:Nat} {h s x:Rat} (hb:b<t):s<Y3 b h t x ↔ line b h s t<x:=by
 rw[<- V5 (h:=h) hb,Ym h x hb]
theorem Xz {b t:Nat} {h s x:Rat} (hb:b<t):Y3 b h t x<s ↔ x<line b h s t:=by
 rw[<- V5 (h:=h) hb,Ym h x hb]
structure Scan (lo hi:Nat->Rat) (b:Nat) (h:Rat) (la ha:Nat) (SL FH:Rat) (e:Nat):Prop where
 la0:b<la
 la1:la<e
 laE:SL=Y3 b h la (lo la)
 lo_le:∀ t,b<t->t<e->lo t<=line b h SL t
 lo_lt:∀ t,la<t->t<e->lo t<line b h SL t
 ha0:b<ha
 ha1:ha<e
 haE:FH=Y3 b h ha (hi ha)
 hi_le:∀ t,b<t->t<e->line b h FH t<=hi t
 hi_lt:∀ t,ha<t->t<e->line b h FH t<hi t
 le:SL<=FH
theorem Zj {b t:Nat} {h s s':Rat} (hb:b<t) (q:s<=s'):line b h s t<=line b h s' t:=(XF hb).mpr q
theorem Scan.first {lo hi:Nat->Rat} {b:Nat} {h:Rat} (ok:lo (b+1)<=hi (b+1)):Scan lo hi b h (b+1) (b+1) (Y3 b h (b+1) (lo (b+1))) (Y3 b h (b+1) (hi (b+1))) (b+2):=by
 have one:∀ t,b<t->t<b+2->t=b+1:=fun t a c=>by omega
 have hb:b<b+1:=by omega
 refine⟨hb,by omega,rfl,fun t a c=>?_,fun t a c=>by omega,hb,by omega,rfl,fun t a c=>?_,fun t a c=>by omega,?_⟩
 ·rw[one t a c,Ym _ _ hb];grind
 ·rw[one t a c,Ym _ _ hb];grind
 ·rw[Jt hb,Ym _ _ hb];exact ok
theorem Scan.up {lo hi:Nat->Rat} {b la ha e n:Nat} {h SL FH:Rat} (S:Scan lo hi b h la ha SL FH e) (he:e<=n) (hz:FH<Y3 b h e (lo e)):Seg lo hi n b h FH ha:=by
 have hbe:b<e:=Nat.lt_trans S.ha0 S.ha1;refine .up e S.ha0 S.ha1 he ⟨fun t a c=>?_,S.hi_le⟩ (by rw[S.haE,Ym _ _ S.ha0]) S.hi_lt ((XE hbe).mp hz);have:=S.lo_le t a c;have:=Zj (h:=h) a S.le;grind
theorem Scan.down {lo hi:Nat->Rat} {b la ha e n:Nat} {h SL FH:Rat} (S:Scan lo hi b h la ha SL FH e) (he:e<=n) (hz:Y3 b h e (hi e)<SL):Seg lo hi n b h SL la:=by
 have hbe:b<e:=Nat.lt_trans S.la0 S.la1;refine .down e S.la0 S.la1 he ⟨S.lo_le,fun t a c=>?_⟩ (by rw[S.laE,Ym _ _ S.la0]) S.lo_lt ((Xz hbe).mp hz);have:=S.hi_le t a c;have:=Zj (h:=h) a S.le;grind
theorem Scan.step {lo hi:Nat->Rat} {b la ha e:Nat} {h SL FH:Rat} (S:Scan lo hi b h la ha SL FH e) (ok:lo e<=hi e) (h1:¬ FH<Y3 b h e (lo e)) (h2:¬ Y3 b h e (hi e)<SL) :
  Scan lo hi b h (if Y3 b h e (lo e)<SL then la else e) (if FH<Y3 b h e (hi e) then ha else e) (if Y3 b h e (lo e)<SL then SL else Y3 b h e (lo e)) (if FH<Y3 b h e (hi e) then FH else Y3 b h e (hi e)) (e+1):=by
 have hbe:b<e:=Nat.lt_trans S.la0 S.la1;have oks:Y3 b h e (lo e)<=Y3 b h e (hi e):=by rw[Jt hbe,Ym _ _ hbe];exact ok
 have sp:∀ t,t<e+1->t<e\/t=e:=fun t a=>by omega
 have lle:=S.le;by_cases c1:Y3 b h e (lo e)<SL<;>by_cases c2:FH<Y3 b h e (hi e)
 ·rw[if_pos c1,if_pos c2,if_pos c1,if_pos c2]
  refine⟨S.la0,by have:=S.la1;omega,S.laE,fun t a c=>?_,fun t a c=>?_,S.ha0,by have:=S.ha1;omega,S.haE,fun t a c=>?_,fun t a c=>?_,lle⟩
  ·rcases sp t c with q|rfl
   ·exact S.lo_le t a q
   ·exact Rat.le_of_lt ((Xz a).mp c1)
  ·rcases sp t c with q|rfl
   ·exact S.lo_lt t a q
   ·exact (Xz hbe).mp c1
  ·rcases sp t c with q|rfl
   ·exact S.hi_le t a q
   ·exact Rat.le_of_lt ((XE a).mp c2)
  ·rcases sp t c with q|rfl
   ·exact S.hi_lt t a q
   ·exact (XE hbe).mp c2
 ·rw[if_pos c1,if_neg c2,if_pos c1,if_neg c2]
  have c2':Y3 b h e (hi e)<=FH:=by grind
  refine⟨S.la0,by have:=S.la1;omega,S.laE,fun t a c=>?_,fun t a c=>?_,hbe,by omega,rfl,fun t a c=>?_,fun t a c=>by omega,by grind⟩
  ·rcases sp t c with q|rfl
   ·exact S.lo_le t a q
   ·exact Rat.le_of_lt ((Xz a).mp c1)
  ·rcases sp t c with q|rfl
   ·exact S.lo_lt t a q
   ·exact (Xz hbe).mp c1
  ·rcases sp t c with q|rfl
   ·have:=S.hi_le t a q;have:=Zj (h:=h) a c2';grind
   ·rw[Ym _ _ a];grind
 ·rw[if_neg c1,if_pos c2,if_neg c1,if_pos c2]
  have c1':SL<=Y3 b h e (lo e):=by grind
  refine⟨hbe,by omega,rfl,fun t a c=>?_,fun t a c=>by omega,S.ha0,by have:=S.ha1;omega,S.haE,fun t a c=>?_,fun t a c=>?_,by grind⟩
  ·rcases sp t c with q|rfl
   ·have:=S.lo_le t a q;have:=Zj (h:=h) a c1';grind
   ·rw[Ym _ _ a];grind
  ·rcases sp t c with q|rfl
   ·exact S.hi_le t a q
   ·exact Rat.le_of_lt ((XE a).mp c2)
  ·rcases sp t c with q|rfl
   ·exact S.hi_lt t a q
   ·exact (XE hbe).mp c2
 ·rw[if_neg c1,if_neg c2,if_neg c1,if_neg c2]
  have c1':SL<=Y3 b h e (lo e):=by grind
  have c2':Y3 b h e (hi e)<=FH:=by grind
  refine⟨hbe,by omega,rfl,fun t a c=>?_,fun t a c=>by omega,hbe,by omega,rfl,fun t a c=>?_,fun t a c=>by omega,oks⟩
  ·rcases sp t c with q|rfl
   ·have:=S.lo_le t a q;have:=Zj (h:=h) a c1';grind
   ·rw[Ym _ _ a];grind
  ·rcases sp t c with q|rfl
   ·have:=S.hi_le t a q;have:=Zj (h:=h) a c2';grind
   ·rw[Ym _ _ a];grind
theorem Scan.fin {lo hi:Nat->Rat} {b la ha n:Nat} {h SL FH:Rat} (S:Scan lo hi b h la ha SL FH (n+1)) (tie:lo n=hi n):ha=n/\la=n/\FH=Y3 b h n (hi n)/\Seg lo hi n b h FH n:=by
 have hbn:b<n:=by have:=S.la0;have:=S.la1;omega
 have l1:=S.lo_le n hbn %[|5];have l2:=S.hi_le n hbn %[|5];have l3:=Zj (h:=h) hbn S.le;have e1:line b h FH n=hi n:=by grind
 have hh:ha=n:=by
  apply Decidable.byContradiction;intro hne;have:=S.hi_lt n (by have:=S.ha1;omega) %[|5];grind
 have hl:la=n:=by
  apply Decidable.byContradiction;intro hne;have:=S.lo_lt n (by have:=S.la1;omega) %[|5];grind
 have eF:FH=Y3 b h n (hi n):=by rw[<- hh];exact S.haE
 have eL:SL=Y3 b h n (lo n):=by rw[<- hl];exact S.laE
 refine⟨hh,hl,eF,.fin hbn rfl ⟨fun t a c=>?_,S.hi_le⟩⟩;have:=S.lo_le t a c;rw[eF,<- tie,<- eL];exact this
end Q
end
noncomputable section
namespace Q
noncomputable def tot (s:List Rat):Rat:=s.foldl (·+·) 0
theorem BR (s:List Rat):∀ q:Rat,s.foldl (·+·) q=q+tot s:=by
 induction s with
 | nil=>intro q;unfold tot;simp;grind
 | cons a s ih=>intro q;unfold tot;simp only[List.foldl_cons];rw[ih,ih];grind
theorem tot_cons (a:Rat) (s:List Rat):tot (a::s)=a+tot s:=by
 unfold tot;simp only[List.foldl_cons];rw[BR];unfold tot;grind
end Q
end
noncomputable section
namespace Q
theorem tri (a b:Rat):a<b\/a=b\/b<a:=by
 by_cases h:a<b
 ·exact .inl h
 ·by_cases h2:b<a
  ·exact .inr (.inr h2)
  ·exact .inr (.inl (by grind))
noncomputable def fs (f:Rat->Rat) (r:Nat->Rat):Nat->Rat
 | 0=>0
 | m+1=>fs f r m+f (r (m+1)-r m)
end Q
end
noncomputable section
namespace K
open PySem DL
abbrev ends (R E:DK):DEnds:={nx:=fun _ M'=>R .non M',rt:=R,ex:=fun _=>E}
theorem JT {g:(DSt->DK)->DG} {tb:DS} {keep:Mem->Prop} {D:DEnds} (I:DSt->Mem->Prop) (hk:∀ δ M,I δ M->keep M) (he:∀ δ M,I δ M->D.nx δ M):∀ {items:List DL.D},
  (∀ x∈items,∀ N:DSt->Mem->Prop,(∀ δ M,I δ M->N δ M)->∀ δ M,I δ M->g D.ex x δ M fun δ1 M1=>tb {D with nx:=N,ct:=N,bk:=D.nx} δ1 M1)->∀ {δ M},I δ M->forD g tb keep items D δ M
 | [],_,δ,M,i=>he δ M i
 | x::xs,h,δ,M,i=>by
  unfold forD;exact h x List.mem_cons_self _ (fun δ' M' i'=>⟨hk δ' M' i',JT I hk he (fun y hy=>h y (List.mem_cons_of_mem _ hy)) i'⟩) δ M i
theorem YN {g:(DSt->DK)->DG} {tb:DS} {keep:Mem->Prop} {D:DEnds}:∀ {items:List DL.D} (I:Nat->DSt->Mem->Prop),(∀ i δ M,I i δ M->keep M)->(∀ δ M,I items.length δ M->D.nx δ M) ->
  (∀ i x,items[i]?=some x->∀ N:DSt->Mem->Prop,(∀ δ M,I (i+1) δ M->N δ M)->∀ δ M,I i δ M->g D.ex x δ M fun δ1 M1=>tb {D with nx:=N,ct:=N,bk:=D.nx} δ1 M1)->∀ {δ M},I 0 δ M->forD g tb keep items D δ M
 | [],I,hk,he,ht,δ,M,h0=>he δ M h0
 | x::xs,I,hk,he,ht,δ,M,h0=>by
  unfold forD;exact ht 0 x rfl _ (fun δ' M' i'=>⟨hk _ δ' M' i',YN (fun i=>I (i+1)) (fun i=>hk (i+1)) he (fun i y hy N hN=>ht (i+1) y (by simpa using hy) N hN) i'⟩) δ M h0
theorem XU (h:(rngD lo c n)[i]?=some x):x=.int (lo+i*c)/\i<n:=by
 unfold rngD at h;rw[List.getElem?_map] at h;cases q:(List.range n)[i]? with
 | none=>rw [q] at h;cases h
 | some j =>
  obtain⟨h1,h2⟩:=List.getElem?_eq_some_iff.mp q;rw[q] at h;cases h;simp at h1 h2;subst h2;exact⟨rfl,h1⟩
theorem Xd:(rngD lo c n).length=n:=by simp[rngD]
theorem Wj (f:DL.D->DL.D) (I:DSt->Prop) (h0:M0 p=none) (hk:∀ M,MExt M0 M->keep M) :
  ∀ {items acc:List DL.D},(∀ x∈items,∀ δ M (R:DSt->DK),I δ->MExt M0 M->(∀ δ1 M',I δ1->MExt M M'->R δ1 (f x) M')->g x δ M fun δ1 M1=>te δ1 M1 fun d M2=>R δ1 d M2) ->
  (acc++items.map f).length<=1000->(∀ M',MExt M0 M'->M' p=some (.ls (acc++items.map f))->Q M')->∀ {δ M},I δ->MExt M0 M->M p=some (.ls acc)->X9 g te keep p items acc δ M Q
 | [],acc,_,_,q,δ,M,i,e,l=>by unfold X9;exact q M e (by simpa using l)
 | x::xs,acc,h,hz,q,δ,M,i,e,l=>by
  unfold X9;refine h x List.mem_cons_self δ M (fun δ1 d M2=>M2 p=some (.ls acc)/\acc.length<sizeLine/\keep (M2.upd p (.ls (acc++[d])))/\X9 g te keep p xs (acc++[d]) δ1 (M2.upd p (.ls (acc++[d]))) Q) i e fun δ1 M' i' e'=>?_;have e2:MExt M0 (M'.upd p (.ls (acc++[f x]))):=fun a o z=>by
   have:a≠p:=fun q=>by rw[q,h0] at z;cases z
   rw[Z8 this];exact e' _ _ (e _ _ z)
  refine⟨e' _ _ l,?_,hk _ e2,Wj f I h0 hk (fun y hy=>h y (List.mem_cons_of_mem _ hy)) (by simpa using hz) (fun M2 e3 l3=>q M2 e3 (by simpa using l3)) i' e2 mupd_same⟩;rw[sizeLine_eq];simp at hz;omega
theorem MExt.none (e:MExt M M') (h:M' p=Option.none):M p=Option.none:=by
 cases q:M p with
 | none=>rfl
 | some o=>rw [e _ _ q] at h;cases h
theorem Yf (x:α) (l:List α):L2.atI (x::l) 0=some x:=L2.atI_nat (j:=0) rfl
theorem Vq (h:k.natAbs<2 ^ n):Builtin.Int.intBits k<=n:=by
 unfold Builtin.Int.intBits;split
 ·exact Nat.zero_le _
 ·rename_i h0
  have hp:k.natAbs≠0:=by intro z;apply h0;simp;omega
  have:=(Nat.log2_lt hp).mpr h;omega
theorem ZL (ha:a.natAbs<2 ^ m) (hb:b.natAbs<2 ^ n) (h:m+n<=134217728):IntMulOk a b:=IntMulOk.of_le (Vq ha) (Vq hb) h
theorem XJ (h:j≠0) (hj:j.natAbs<2 ^ 8000):UH j:=⟨h,by
 have:j.natAbs≠0:=by omega
 have:=(Nat.log2_lt this).mpr hj;omega⟩
theorem JR (h0:0<=x) (h1:0<y):Int.gcd y (x.fmod y)=Int.gcd x y:=by
 obtain⟨n,rfl⟩:=Int.eq_ofNat_of_zero_le h0;obtain⟨m,rfl⟩:=Int.eq_ofNat_of_zero_le (Int.le_of_lt h1);rw[Int.fmod_eq_emod_of_nonneg _ (Int.le_of_lt h1)];show Nat.gcd m (((n:Int) % (m:Int)).natAbs)=Nat.gcd n m;have:((n:Int) % (m:Int)).natAbs=n % m:=by
  rw[<- Int.natCast_emod];rfl
 rw[this,Nat.gcd_comm n m,Nat.gcd_comm m (n % m)];exact (Nat.gcd_rec m n).symm
theorem Bd (a b:Int):Int.gcd (if a<0 then -a else a) (if b<0 then -b else b)=Int.gcd a b:=by
 unfold Int.gcd
 congr 1<;>split<;>omega
theorem ZO {x y:Int} (h:0<y):0<=x.fmod y/\x.fmod y<y:=by
 rw[Int.fmod_eq_emod_of_nonneg _ (Int.le_of_lt h)];exact⟨Int.emod_nonneg _ %[|5],Int.emod_lt_of_pos _ h⟩
theorem Yr {s:CS} {r:CSs} {D:DEnds} {δ:DSt} {M:Mem}:rSs (.cons s r) D δ M=rS s {D with nx:=rSs r D} δ M:=rfl
theorem Yq {D:DEnds} {δ:DSt} {M:Mem}:rSs .nil D δ M=D.nx δ M:=rfl
theorem ZP (neg:Bool) (h:Q (.bl (if neg then !(i==j) else (i==j))) M):cEq neg (.int i) (.int j) M Q:=⟨_,_,.int i,.int j,by simp[PyData.depth],h⟩
noncomputable def S_1:DSp:=fun ds M Q _=>∃ a b:Int,ds=[.int a,.int b]/\Q (.int (Int.gcd a b)) M
noncomputable def C_1:CSs:=%[.par 0 1 (.bi .abs %[.var 0|0]) (.bi .abs %[.var 1|0]),.whl (.var 1) %[.par 0 1 (.var 1) (.bin .Mod (.var 0) (.var 1))|0],.ret (.var 0)|0]
theorem vc_1:∀ ds M R E,S_1 ds M R E->rSs C_1 (ends R E) (Y1 2 ds) M:=by
 rintro ds M R E ⟨a,b,rfl,h⟩;simp[0,C_1,rSs,Yn,vAt,vHd,Y9,Yj,Yu,YI,dFor,YO,bMul,bAdd,iOp,sOp,fLen,Y8,Yi,fIsi,fAll,fAny,Yh,and_assoc,sizeLine_eq];refine⟨fun m δ M'=>∃ x y:Int,δ=[some (.int x),some (.int y)]/\M'=M/\0<=x/\0<=y/\Int.gcd x y=Int.gcd a b/\m=y.toNat,⟨_,_,_,rfl,rfl,?_,?_,?_,rfl⟩,?_⟩
 ·split<;>omega
 ·split<;>omega
 ·exact Bd a b
 ·rintro m δ M' ⟨x,y,rfl,rfl,h0,h1,hg,rfl⟩
  simp[0,rSs,Yn,vAt,vHd,Y9,Yj,Yu,YI,dFor,YO,bMul,bAdd,iOp,sOp,fLen,Y8,Yi,fIsi,fAll,fAny,Yh,and_assoc,sizeLine_eq];by_cases hy:y=0
  ·subst hy
   rw[if_pos rfl];rw[<- hg] at h;have e:((x.gcd 0:Nat):Int)=x:=by unfold Int.gcd;simp;omega
   rw[e] at h;exact h
  ·rw[if_neg hy]
   have yp:0<y:=by omega
   refine⟨fun δ' M1=>δ'=[some (.int y),some (.int (x.fmod y))]/\M1=M',?_,hy,rfl,rfl⟩;rintro δ' M1 ⟨rfl,rfl⟩;have:=ZO (x:=x) yp;exact⟨(x.fmod y).toNat,by omega,y,_,rfl,rfl,h1,this.1,by rw[JR h0 yp];exact hg,rfl⟩
noncomputable def S_48:DSp:=fun ds M Q _=>∃ c:Int,ds=[.int c]/\Builtin.Int.intBits c<=2000000/\∀ r:Int,0<=r->r<10 ^ 60->Q (.int r) M
noncomputable def C_48:CSs:=%[.ret (.bin .Mod (.bin .Mult (.var 0) (.int 173205080756887729352744634150587236694280525381038062805581)) (.bin .Pow (.int 10) (.int 60)))|0]
theorem vc_48:∀ ds M R E,S_48 ds M R E->rSs C_48 (ends R E) (Y1 1 ds) M:=by
 rintro ds M R E ⟨c,rfl,hb,h⟩;simp[0,C_48,rSs,Yn,vAt,vHd,Y9,Yj,Yu,YI,dFor,YO,bMul,bAdd,iOp,sOp,fLen,Y8,Yi,fIsi,fAll,fAny,Yh,and_assoc,sizeLine_eq];exact⟨IntMulOk.of_le hb (Vq (n:=300) %[|4]) %[|4],⟨by decide,by decide,by decide⟩,h _ (ZO %[|4]).1 (ZO %[|4]).2⟩
noncomputable def S_50:DSp:=fun ds M Q _=>∃ a n v,ds=[.lst a,.int n]/\M a=some (.ls [.int v])/\0<n/\n.natAbs<2 ^ 8000/\∀ r v':Int,0<=r->r<n->Q (.int r) (M.upd a (.ls [.int v']))
noncomputable def C_50:CSs:=%[.asg (.tup %[.sub (.var 0) (.int 0),.name 2|0]) (.bi .divmod %[.ix (.var 0) (.int 0),.var 1|0]),.ret (.var 2)|0]
theorem vc_50:∀ ds M R E,S_50 ds M R E->rSs C_50 (ends R E) (Y1 3 ds) M:=by
 rintro ds M R E ⟨a,n,v,rfl,ha,hn,hn2,h⟩;simp[0,C_50,rSs,Yn,vAt,vHd,Y9,Yj,Yu,YI,dFor,YO,bMul,bAdd,iOp,sOp,fLen,Y8,Yi,fIsi,fAll,fAny,Yh,and_assoc,sizeLine_eq];refine⟨_,ha,.int v,rfl,?_⟩;have f:=ZO (x:=v) hn;simp[0,rSs,Yn,vAt,vHd,Y9,Yj,Yu,YI,dFor,YO,bMul,bAdd,iOp,sOp,fLen,Y8,Yi,fIsi,fAll,fAny,Yh,and_assoc,sizeLine_eq];exact⟨XJ %[|5] hn2,_,ha,0,rfl,h _ _ f.1 f.2⟩
theorem Gf (h:x∈cutG xs lo hi):x∈xs:=List.mem_of_mem_drop (List.mem_of_mem_take h)
theorem X6 (xs:List α) (lo hi:Option Int):(cutG xs lo hi).length<=xs.length:=by
 unfold cutG;rw[List.length_take,List.length_drop];omega
theorem BZ (ns:List Int) (lo hi:Option Int) (e:Int):∃ c,L2.atI (cutG (ns.map D.int) lo hi++[D.int e]) 0=some (.int c)/\(c∈ns\/c=e):=by
 cases q:cutG (ns.map D.int) lo hi with
 | nil=>exact⟨e,rfl,.inr rfl⟩
 | cons x r =>
  have:x∈ns.map D.int:=Gf (lo:=lo) (hi:=hi) (by rw[q];exact List.mem_cons_self);obtain⟨c,hc,rfl⟩:=List.mem_map.mp this;exact⟨c,Yf _ _,.inl hc⟩
theorem JC (x:DL.D):[x].length<=sizeLine:=by rw[sizeLine_eq];exact (by decide:1<=16777216)
theorem Cq (x y:DL.D):[x,y].length<=sizeLine:=by rw[sizeLine_eq];exact (by decide:2<=16777216)
theorem mulI (a:IntMulOk i j) (q:Q (.int (i*j)) M):bMul (.int i) (.int j) M Q:=⟨a,q⟩
theorem addI (q:Q (.int (i+j)) M):bAdd (.int i) (.int j) M Q:=q
noncomputable def S_49:DSp:=fun ds M Q _=>∃ (ns:List Int) (k:Int),ds=[.fz (ns.map .int),.int k]/\Script ns/\0<=k/\k<=1000/\∀ (v:Int) p M',M p=none->MExt M M'->M' p=some (.ls [.int v])->Q (.lst p) M'
noncomputable def C_49:CSs:=%[.set 2 (.int 0),.fr (.name 3) (.seq (.lst %[.bin .Add (.var 1) (.int 1),.var 1|0])) %[.set 2 (.bin .Add (.bin .Mult (.var 2) (.bin .Pow (.int 10) (.int 60))) (.call "_law_mixed" S_48 %[.ix (.bin .Add (.sl (.var 0) (.some (.var 3)) (.some (.bin .Add (.var 3) (.int 1)))) (.lst %[.bin .Add (.bin .Mult (.int 6841) (.var 3)) (.int 37)|0])) (.int 0)|0]))|0],.ret (.lst %[.var 2|0])|0]
theorem vc_49:∀ ds M R E,S_49 ds M R E->rSs C_49 (ends R E) (Y1 4 ds) M:=by
 rintro ds M R E ⟨ns,k,rfl,hs,h0,h1,h⟩;have turn:∀ (t found:Int) (M:Mem) (Q:DK),0<=t->t<=1001->found.natAbs<2 ^ 1000->(∀ v M',MExt M M'->v.natAbs<(found.natAbs+1)*10 ^ 60->Q (.int v) M') ->
   d2 bAdd (d2 bMul (dVar 2) (d2 (bInt L2.CPow fun i j=>i ^ j.toNat) (dC (D.int 10)) (dC (D.int 60))))
    (Zu S_48 (fun _=>E) (Z5 (d2 iOp (d2 bAdd (dSl (dVar 0) (JX (dVar 3)) (JX (d2 bAdd (dVar 3) (dC (D.int 1))))) (dLst (Z5 (d2 bAdd (d2 bMul (dC (D.int 6841)) (dVar 3)) (dC (D.int 37))) dNil))) (dC (D.int 0))) dNil))
    [some (.fz (ns.map D.int)),some (.int k),some (.int found),some (.int t)] M Q:=by
  intro t found M Q h0 h1 hf hN;dsimp only[d2,dVar,vAt,vHd,dC,Zu,Z5,dNil,dLst,dSl,JX];refine⟨⟨by decide,by decide,by decide⟩,mulI (ZL hf (n:=300) %[|4] %[|4]) ⟨_,rfl,addI ⟨_,rfl,fun p1 M1 e1 x1 l1=>mulI (ZL (m:=64) (n:=64) %[|4] %[|5] %[|4]) (addI ⟨JC _,fun p2 M2 e2 x2 l2=>⟨_,_,x2 _ _ l1,l2,?_,fun p3 M3 e3 x3 l3=>?_⟩⟩)⟩⟩⟩
  ·have:=X6 (ns.map D.int) (some t) (some (t+1))
   rw[List.length_map] at this;have:=hs.len;rw[sizeLine_eq];show _+1<=_;omega
  obtain⟨c,hc,hm⟩:=BZ ns (some t) (some (t+1)) (6841*t+37);refine⟨_,_,l3,hc,c,rfl,?_,fun r r0 r1=>addI ?_⟩
  ·rcases hm with hm|hm
   ·exact Nat.le_trans (hs.bits c hm) %[|4]
   ·subst hm;exact Nat.le_trans (Vq (n:=64) %[|5]) %[|4]
  ·refine hN _ M3 (x1.trans (x2.trans x3)) ?_
   have a1:=Int.natAbs_add_le (found*1000000000000000000000000000000000000000000000000000000000000) r;rw[Int.natAbs_mul] at a1;have a2:r.natAbs<10 ^ 60:=by omega
   have a3:(1000000000000000000000000000000000000000000000000000000000000:Int).natAbs=10 ^ 60:=by decide
   rw[a3] at a1;rw[Nat.add_mul,Nat.one_mul];exact Nat.lt_of_le_of_lt a1 %[|5]
 unfold C_49;dsimp only[rSs,rS,rE,rEs,rG,rGs,rI,DL.plain,dSeq,dRet,dAsg,dFor,Xp,Yu,Zu,Z5,dNil,dLst,dVar,vAt,vHd,List.map,List.length_cons,List.length_nil,Nat.reduceAdd,Nat.reduceSub,List.replicate_succ,List.replicate_zero,List.cons_append,List.nil_append,List.set_cons_succ,List.set_cons_zero,dC,d2,bOp,Y1,Bo,dSl];refine addI ⟨Cq (.int 0) (.int 0),fun p0 M0 e0 x0 l0=>⟨_,l0,?_⟩⟩;dsimp only[forD,Xp,dSeq,dAsg,Bo,rO];refine turn (k+1) 0 M0 _ %[|5] %[|5] %[|4] fun v1 M1 x1 b1=>?_;refine⟨x1 _ _ l0,?_⟩;refine turn k v1 M1 _ %[|5] %[|5] (Nat.lt_of_lt_of_le b1 %[|4]) fun v2 M2 x2 b2=>?_;refine⟨x2 _ _ (x1 _ _ l0),?_⟩;dsimp only[dRet,dLst,Z5,dNil,dVar,List.set_cons_succ,List.set_cons_zero,vAt,vHd];refine⟨JC _,fun p M' e x l=>?_⟩;exact h v2 p M' (K.MExt.none (x0.trans (x1.trans x2)) e) (x0.trans (x1.trans (x2.trans x))) l
end K
end
open PySem DL Q K
set_option bootstrap.genMatcherCode true
local macro_rules
 | `(tactic| sleep 1)=>`(tactic| ((try dsimp only);rw[Yr];sleep 2))
 | `(tactic| sleep 2)=>`(tactic| ((try dsimp only[0,Yn,vAt,vHd,List.set_cons_succ,List.set_cons_zero,List.cons_append,List.nil_append,List.map,List.length_cons,List.length_nil,Nat.reduceAdd,Nat.reduceSub,List.replicate_succ,List.replicate_zero,Y9,Yj,bMul,bAdd,sOp,Y8,Yi,fIsi,Yh]);try simp[0,Yn,vAt,vHd,Y9,Yj,bMul,bAdd,sOp,Y8,Yi,fIsi,Yh,and_assoc,sizeLine_eq,Yq]))
 | `(tactic| sleep 3)=>`(tactic| ((try dsimp only);rw[Yr];(try dsimp only[0,Yn,vAt,vHd,List.set_cons_succ,List.set_cons_zero,List.cons_append,List.nil_append,List.map,List.length_cons,List.length_nil,Nat.reduceAdd,Nat.reduceSub,List.replicate_succ,List.replicate_zero,Y9,Yj,bMul,bAdd,sOp,Y8,Yi,fIsi,Yh,dFor,YI,Yu,fLen]);try simp[0,Yn,vAt,vHd,Y9,Yj,bMul,bAdd,sOp,Y8,Yi,fIsi,Yh,and_assoc,sizeLine_eq,Yq,dFor,YI,Yu,fLen]))
 | `(tactic| sleep 4)=>`(tactic| ((try dsimp only);rw[Yr];(try dsimp only[0,Yn,vAt,vHd,List.set_cons_succ,List.set_cons_zero,List.cons_append,List.nil_append,List.map,List.length_cons,List.length_nil,Nat.reduceAdd,Nat.reduceSub,List.replicate_succ,List.replicate_zero,Y9,Yj,bMul,bAdd,sOp,Y8,Yi,fIsi,Yh,dFor,YI]);try simp[0,Yn,vAt,vHd,Y9,Yj,bMul,bAdd,sOp,Y8,Yi,fIsi,Yh,and_assoc,sizeLine_eq,Yq,dFor,YI]))
 | `(tactic| sleep 5)=>`(tactic| ((try dsimp only[0,rSs,Yn,vAt,vHd,List.set_cons_succ,List.set_cons_zero,List.cons_append,List.nil_append,List.map,List.length_cons,List.length_nil,Nat.reduceAdd,Nat.reduceSub,List.replicate_succ,List.replicate_zero,Y9,Yj,Yu,YI,dFor,YO,bMul,bAdd,iOp,sOp,fLen,Y8,Yi,fIsi,fAll,fAny,Yh]);try simp[0,rSs,Yn,vAt,vHd,Y9,Yj,Yu,YI,dFor,YO,bMul,bAdd,iOp,sOp,fLen,Y8,Yi,fIsi,fAll,fAny,Yh,and_assoc,sizeLine_eq]))
 | `(tactic| sleep 50)=>`(tactic| exact⟨rfl,rfl,rfl,by decide +kernel,rfl,by decide +kernel,by decide +kernel⟩)
 | `(tactic| sleep 51)=>`(tactic| repeat' (first|exact True.intro|assumption|refine And.intro ?_ ?_|exact FnE.mono (by assumption) %[|4]))
set_option bootstrap.genMatcherCode false
noncomputable section
namespace K
open PySem DL Q
noncomputable def nm (q:Rat):DL.D:=.tup [.int q.num,.int q.den]
theorem Xm (h:m<=n):2 ^ m<=2 ^ n:=Nat.pow_le_pow_right %[|4] h
theorem Uw (h:b≠0) (hb:b.natAbs<2 ^ 8000):UH (if b<0 then -(Int.gcd a b:Int) else Int.gcd a b):=by
 have g0:=JS (a:=a) h;have gl:Int.gcd a b<=b.natAbs:=Nat.le_of_dvd %[|5] (Int.gcd_dvd_natAbs_right ..);split<;>exact XJ %[|5] (by simp;omega)
noncomputable def S_3:DSp:=fun ds M Q E=>∃ a b:Int,ds=[.int a,.int b]/\b.natAbs<2 ^ 8000/\((b≠0/\Q (nm (Rat.divInt a b)) M)\/(b=0/\E (.exc "NoNumber" .non) M))
noncomputable def C_3:CSs:=%[.ife (.cmp .Eq (.var 1) (.int 0)) %[.rse "NoNumber" %[.str "nothing is parted by 0"|0]|0] .nil,.set 2 (.call "greatest_divisor" S_1 %[.var 0,.var 1|0]),.ife (.cmp .Lt (.var 1) (.int 0)) %[.set 2 (.neg (.var 2))|0] .nil,.ret (.tup %[.bin .FloorDiv (.var 0) (.var 2),.bin .FloorDiv (.var 1) (.var 2)|0])|0]
theorem vc_3:∀ ds M R E,S_3 ds M R E->rSs C_3 (ends R E) (Y1 3 ds) M:=by
 rintro ds M R E ⟨a,b,rfl,hb,h⟩;simp[0,C_3,rSs,Yn,vAt,vHd,Y9,Yj,Yu,YI,dFor,YO,bMul,bAdd,iOp,sOp,fLen,Y8,Yi,fIsi,fAll,fAny,Yh,and_assoc,sizeLine_eq];refine ZP false ?_;rcases h with ⟨h0,h⟩|⟨h0,h⟩
 ·have L:=DN a b h0
  have D:=Uw (a:=a) h0 hb;unfold nm at h;simp[h0];refine⟨a,b,rfl,?_⟩;by_cases hn:b<0
  ·rw[if_pos hn] at L D
   simp[hn,D];rw[L.1,L.2];exact h
  ·rw[if_neg hn] at L D
   simp[hn,D];rw[L.1,L.2];exact h
 ·subst h0
  simp;exact h
noncomputable def Ok2 (p q:Rat):Prop:=∃ m n,Sz m p/\Sz n q/\m+n<=7998
theorem Ok2.mk (a:Sz m p) (b:Sz n q) (h:m+n<=7998):Ok2 p q:=⟨m,n,a,b,h⟩
theorem Ok2.nd (h:Ok2 p q):IntMulOk p.num q.den/\IntMulOk q.num p.den/\IntMulOk p.den q.den/\IntMulOk p.num q.num/\IntMulOk (p.den:Int) q.num:=by
 obtain⟨m,n,a,b,h⟩:=h;exact⟨ZL a.1 (Yp b) %[|5],ZL b.1 (Yp a) %[|5],ZL (Yp a) (Yp b) %[|5],ZL a.1 b.1 %[|5],ZL (Yp a) b.1 %[|5]⟩
theorem Ok2.dd (h:Ok2 p q):((p.den:Int)*q.den).natAbs<2 ^ 8000/\((p.den:Int)*q.num).natAbs<2 ^ 8000:=by
 obtain⟨m,n,a,b,h⟩:=h;exact⟨Nat.lt_of_lt_of_le (YY (Yp a) (Yp b)) (Xm %[|5]),Nat.lt_of_lt_of_le (YY (Yp a) b.1) (Xm %[|5])⟩
theorem Zv (x y:α) (l:List α):L2.atI (x::y::l) 1=some y:=L2.atI_nat (j:=1) rfl
theorem ix0 (q:Q (.int p.num) M):iOp (nm p) (.int 0) M Q:=⟨_,Yf _ _,q⟩
theorem ix1 (q:Q (.int p.den) M):iOp (nm p) (.int 1) M Q:=⟨_,Zv _ _ _,q⟩
theorem tx0 (q:Q x M):iOp (.tup [x,y]) (.int 0) M Q:=⟨_,Yf _ _,q⟩
theorem tx1 (q:Q y M):iOp (.tup [x,y]) (.int 1) M Q:=⟨_,Zv _ _ _,q⟩
theorem subI (q:Q (.int (i-j)) M):bInt (fun _ _=>True) (fun i j=>i-j) (.int i) (.int j) M Q:=⟨trivial,q⟩
noncomputable def S_4:DSp:=fun ds M Q E=>∃ p q:Rat,ds=[nm p,nm q]/\Ok2 p q/\Q (nm (p+q)) M
noncomputable def C_4:CSs:=%[.ret (.call "number" S_3 %[.bin .Add (.bin .Mult (.ix (.var 0) (.int 0)) (.ix (.var 1) (.int 1))) (.bin .Mult (.ix (.var 1) (.int 0)) (.ix (.var 0) (.int 1))),.bin .Mult (.ix (.var 0) (.int 1)) (.ix (.var 1) (.int 1))|0])|0]
theorem vc_4:∀ ds M R E,S_4 ds M R E->rSs C_4 (ends R E) (Y1 2 ds) M:=by
 rintro ds M R E ⟨p,q,rfl,ok,h⟩;unfold C_4;dsimp only[rSs,rS,rE,rEs,DL.plain,dSeq,dRet,Zu,Z5,dNil,d2,dVar,vAt,vHd,List.map,List.length_cons,List.length_nil,Nat.reduceAdd,Nat.reduceSub,List.replicate_succ,List.replicate_zero,List.cons_append,List.nil_append,dC,bOp,Y1];have n:=ok.nd;refine (ix0 (ix1 (mulI n.1 (ix0 (ix1 (mulI n.2.1 (addI (ix1 (ix1 (mulI n.2.2.1 ?_))))))))));refine⟨_,_,rfl,ok.dd.1,.inl ⟨XM p q,?_⟩⟩;rw[AL];exact h
noncomputable def S_5:DSp:=fun ds M Q E=>∃ p q:Rat,ds=[nm p,nm q]/\Ok2 p q/\Q (nm (p-q)) M
noncomputable def C_5:CSs:=%[.ret (.call "number" S_3 %[.bin .Sub (.bin .Mult (.ix (.var 0) (.int 0)) (.ix (.var 1) (.int 1))) (.bin .Mult (.ix (.var 1) (.int 0)) (.ix (.var 0) (.int 1))),.bin .Mult (.ix (.var 0) (.int 1)) (.ix (.var 1) (.int 1))|0])|0]
theorem vc_5:∀ ds M R E,S_5 ds M R E->rSs C_5 (ends R E) (Y1 2 ds) M:=by
 rintro ds M R E ⟨p,q,rfl,ok,h⟩;unfold C_5;dsimp only[rSs,rS,rE,rEs,DL.plain,dSeq,dRet,Zu,Z5,dNil,d2,dVar,vAt,vHd,List.map,List.length_cons,List.length_nil,Nat.reduceAdd,Nat.reduceSub,List.replicate_succ,List.replicate_zero,List.cons_append,List.nil_append,dC,bOp,Y1];have n:=ok.nd;refine (ix0 (ix1 (mulI n.1 (ix0 (ix1 (mulI n.2.1 (subI (ix1 (ix1 (mulI n.2.2.1 ?_))))))))));refine⟨_,_,rfl,ok.dd.1,.inl ⟨XM p q,?_⟩⟩;rw[Ae];exact h
noncomputable def S_6:DSp:=fun ds M Q E=>∃ p q:Rat,ds=[nm p,nm q]/\Ok2 p q/\Q (nm (p*q)) M
noncomputable def C_6:CSs:=%[.ret (.call "number" S_3 %[.bin .Mult (.ix (.var 0) (.int 0)) (.ix (.var 1) (.int 0)),.bin .Mult (.ix (.var 0) (.int 1)) (.ix (.var 1) (.int 1))|0])|0]
theorem vc_6:∀ ds M R E,S_6 ds M R E->rSs C_6 (ends R E) (Y1 2 ds) M:=by
 rintro ds M R E ⟨p,q,rfl,ok,h⟩;unfold C_6;dsimp only[rSs,rS,rE,rEs,DL.plain,dSeq,dRet,Zu,Z5,dNil,d2,dVar,vAt,vHd,List.map,List.length_cons,List.length_nil,Nat.reduceAdd,Nat.reduceSub,List.replicate_succ,List.replicate_zero,List.cons_append,List.nil_append,dC,bOp,Y1];have n:=ok.nd;refine (ix0 (ix0 (mulI n.2.2.2.1 (ix1 (ix1 (mulI n.2.2.1 ?_))))));refine⟨_,_,rfl,ok.dd.1,.inl ⟨XM p q,?_⟩⟩;rw[DC];exact h
noncomputable def S_7:DSp:=fun ds M Q E=>∃ p q:Rat,ds=[nm p,nm q]/\Ok2 p q/\((q≠0/\Q (nm (p / q)) M)\/(q=0/\E (.exc "NoNumber" .non) M))
noncomputable def C_7:CSs:=%[.ret (.call "number" S_3 %[.bin .Mult (.ix (.var 0) (.int 0)) (.ix (.var 1) (.int 1)),.bin .Mult (.ix (.var 0) (.int 1)) (.ix (.var 1) (.int 0))|0])|0]
theorem vc_7:∀ ds M R E,S_7 ds M R E->rSs C_7 (ends R E) (Y1 2 ds) M:=by
 rintro ds M R E ⟨p,q,rfl,ok,h⟩;unfold C_7;dsimp only[rSs,rS,rE,rEs,DL.plain,dSeq,dRet,Zu,Z5,dNil,d2,dVar,vAt,vHd,List.map,List.length_cons,List.length_nil,Nat.reduceAdd,Nat.reduceSub,List.replicate_succ,List.replicate_zero,List.cons_append,List.nil_append,dC,bOp,Y1];have n:=ok.nd;refine (ix0 (ix1 (mulI n.1 (ix1 (ix0 (mulI n.2.2.2.2 ?_))))));refine⟨_,_,rfl,ok.dd.2,?_⟩;rcases h with ⟨h0,h⟩|⟨h0,h⟩
 ·refine .inl ⟨Int.mul_ne_zero (by have:=W6 p;omega) (Dl h0),?_⟩
  rw[Et];exact h
 ·subst h0;exact .inr ⟨by simp,h⟩
noncomputable def S_8:DSp:=fun ds M Q E=>∃ p q:Rat,ds=[nm p,nm q]/\Ok2 p q/\Q (.bl (decide (p<q))) M
noncomputable def C_8:CSs:=%[.ret (.cmp .Lt (.bin .Mult (.ix (.var 0) (.int 0)) (.ix (.var 1) (.int 1))) (.bin .Mult (.ix (.var 1) (.int 0)) (.ix (.var 0) (.int 1))))|0]
theorem vc_8:∀ ds M R E,S_8 ds M R E->rSs C_8 (ends R E) (Y1 2 ds) M:=by
 rintro ds M R E ⟨p,q,rfl,ok,h⟩;unfold C_8;dsimp only[rSs,rS,rE,rEs,DL.plain,dSeq,dRet,Zu,Z5,dNil,d2,dVar,vAt,vHd,List.map,List.length_cons,List.length_nil,Nat.reduceAdd,Nat.reduceSub,List.replicate_succ,List.replicate_zero,List.cons_append,List.nil_append,dC,bOp,cOp,Y1];have n:=ok.nd;refine (ix0 (ix1 (mulI n.1 (ix0 (ix1 (mulI n.2.1 ?_))))));show R (.bl (decide (p.num*q.den<q.num*p.den))) M;rw[show decide (p.num*(q.den:Int)<q.num*p.den)=decide (p<q) by simp only[GG]];exact h
noncomputable def S_51:DSp:=fun ds M Q _=>∃ a b:Int,ds=[.int a,.int b]/\b≠0/\b.natAbs<2 ^ 8000/\Q (nm (Rat.divInt a b)) M
noncomputable def C_51:CSs:=%[.par 2 3 (.bi .abs %[.var 0|0]) (.bi .abs %[.var 1|0]),.whl (.cmp .NotEq (.var 3) (.int 0)) %[.par 2 3 (.var 3) (.bin .Mod (.var 2) (.var 3))|0],.ife (.cmp .Lt (.var 1) (.int 0)) %[.set 2 (.bin .Sub (.int 0) (.var 2))|0] .nil,.ret (.tup %[.bin .FloorDiv (.var 0) (.var 2),.bin .FloorDiv (.var 1) (.var 2)|0])|0]
theorem vc_51:∀ ds M R E,S_51 ds M R E->rSs C_51 (ends R E) (Y1 4 ds) M:=by
 rintro ds M R E ⟨a,b,rfl,hb,hb2,h⟩;have L:=DN a b hb;have D:=Uw (a:=a) hb hb2;simp[0,C_51,rSs,Yn,vAt,vHd,Y9,Yj,Yu,YI,dFor,YO,bMul,bAdd,iOp,sOp,fLen,Y8,Yi,fIsi,fAll,fAny,Yh,and_assoc,sizeLine_eq];refine⟨fun m δ M'=>∃ x y:Int,δ=[some (.int a),some (.int b),some (.int x),some (.int y)]/\M'=M/\0<=x/\0<=y/\Int.gcd x y=Int.gcd a b/\m=y.toNat,⟨_,_,_,rfl,rfl,?_,?_,?_,rfl⟩,?_⟩
 ·split<;>omega
 ·split<;>omega
 ·exact Bd a b
 ·rintro m δ M' ⟨x,y,rfl,rfl,h0,h1,hg,rfl⟩
  sleep 5;refine ZP true ?_;by_cases hy:y=0
  ·subst hy
   have e:((x.gcd 0:Nat):Int)=x:=by unfold Int.gcd;simp;omega
   rw[hg] at e;rw[e] at L D;unfold nm at h;by_cases nb:b<0
   ·rw[if_pos nb] at L D
    simp[nb,D];rw[L.1,L.2];exact h
   ·rw[if_neg nb] at L D
    simp[nb,D];rw[L.1,L.2];exact h
  ·have yp:0<y:=by omega
   simp[hy];refine⟨fun δ' M1=>δ'=[some (.int a),some (.int b),some (.int y),some (.int (x.fmod y))]/\M1=M',?_,rfl,rfl⟩;rintro δ' M1 ⟨rfl,rfl⟩;have:=ZO (x:=x) yp;exact⟨(x.fmod y).toNat,by omega,y,_,rfl,rfl,h1,this.1,by rw[JR h0 yp];exact hg,rfl⟩
noncomputable def S_52:DSp:=fun ds M Q E=>∃ p q:Rat,ds=[nm p,nm q]/\Ok2 p q/\Q (nm (p+q)) M
noncomputable def C_52:CSs:=%[.ret (.call "_law_low" S_51 %[.bin .Add (.bin .Mult (.ix (.var 0) (.int 0)) (.ix (.var 1) (.int 1))) (.bin .Mult (.ix (.var 1) (.int 0)) (.ix (.var 0) (.int 1))),.bin .Mult (.ix (.var 0) (.int 1)) (.ix (.var 1) (.int 1))|0])|0]
theorem vc_52:∀ ds M R E,S_52 ds M R E->rSs C_52 (ends R E) (Y1 2 ds) M:=by
 rintro ds M R E ⟨p,q,rfl,ok,h⟩;unfold C_52;dsimp only[rSs,rS,rE,rEs,DL.plain,dSeq,dRet,Zu,Z5,dNil,d2,dVar,vAt,vHd,List.map,List.length_cons,List.length_nil,Nat.reduceAdd,Nat.reduceSub,List.replicate_succ,List.replicate_zero,List.cons_append,List.nil_append,dC,bOp,Y1];have n:=ok.nd;refine (ix0 (ix1 (mulI n.1 (ix0 (ix1 (mulI n.2.1 (addI (ix1 (ix1 (mulI n.2.2.1 ?_))))))))));refine⟨_,_,rfl,XM p q,ok.dd.1,?_⟩;rw[AL];exact h
noncomputable def S_53:DSp:=fun ds M Q E=>∃ p q:Rat,ds=[nm p,nm q]/\Ok2 p q/\Q (nm (p-q)) M
noncomputable def C_53:CSs:=%[.ret (.call "_law_low" S_51 %[.bin .Sub (.bin .Mult (.ix (.var 0) (.int 0)) (.ix (.var 1) (.int 1))) (.bin .Mult (.ix (.var 1) (.int 0)) (.ix (.var 0) (.int 1))),.bin .Mult (.ix (.var 0) (.int 1)) (.ix (.var 1) (.int 1))|0])|0]
theorem vc_53:∀ ds M R E,S_53 ds M R E->rSs C_53 (ends R E) (Y1 2 ds) M:=by
 rintro ds M R E ⟨p,q,rfl,ok,h⟩;unfold C_53;dsimp only[rSs,rS,rE,rEs,DL.plain,dSeq,dRet,Zu,Z5,dNil,d2,dVar,vAt,vHd,List.map,List.length_cons,List.length_nil,Nat.reduceAdd,Nat.reduceSub,List.replicate_succ,List.replicate_zero,List.cons_append,List.nil_append,dC,bOp,Y1];have n:=ok.nd;refine (ix0 (ix1 (mulI n.1 (ix0 (ix1 (mulI n.2.1 (subI (ix1 (ix1 (mulI n.2.2.1 ?_))))))))));refine⟨_,_,rfl,XM p q,ok.dd.1,?_⟩;rw[Ae];exact h
noncomputable def S_54:DSp:=fun ds M Q E=>∃ (p:Rat) (a b:Int),ds=[nm p,.tup [.int a,.int b]]/\b≠0/\(∃ m n,Sz m p/\a.natAbs<2 ^ n/\b.natAbs<2 ^ n/\m+n<=7998)/\Q (nm (p*Rat.divInt a b)) M
noncomputable def C_54:CSs:=%[.ret (.call "_law_low" S_51 %[.bin .Mult (.ix (.var 0) (.int 0)) (.ix (.var 1) (.int 0)),.bin .Mult (.ix (.var 0) (.int 1)) (.ix (.var 1) (.int 1))|0])|0]
theorem vc_54:∀ ds M R E,S_54 ds M R E->rSs C_54 (ends R E) (Y1 2 ds) M:=by
 rintro ds M R E ⟨p,a,b,rfl,hb,⟨m,n,s,ha,hb2,hl⟩,h⟩;have o1:IntMulOk p.num a:=ZL s.1 ha %[|5];have o2:IntMulOk p.den b:=ZL (Yp s) hb2 %[|5];unfold C_54;dsimp only[rSs,rS,rE,rEs,DL.plain,dSeq,dRet,Zu,Z5,dNil,d2,dVar,vAt,vHd,List.map,List.length_cons,List.length_nil,Nat.reduceAdd,Nat.reduceSub,List.replicate_succ,List.replicate_zero,List.cons_append,List.nil_append,dC,bOp,Y1];refine (ix0 (tx0 (mulI o1 (ix1 (tx1 (mulI o2 ?_))))));refine⟨_,_,rfl,Int.mul_ne_zero (by have:=W6 p;omega) hb,Nat.lt_of_lt_of_le (YY (Yp s) hb2) (Xm %[|5]),?_⟩;rw[<- Rat.divInt_mul_divInt,Yl];exact h
noncomputable def S_55:DSp:=fun ds M Q E=>∃ p q:Rat,ds=[nm p,nm q]/\Ok2 p q/\Q (.bl (decide (p<q))) M
noncomputable def C_55:CSs:=%[.ret (.cmp .Lt (.bin .Mult (.ix (.var 0) (.int 0)) (.ix (.var 1) (.int 1))) (.bin .Mult (.ix (.var 1) (.int 0)) (.ix (.var 0) (.int 1))))|0]
theorem vc_55:∀ ds M R E,S_55 ds M R E->rSs C_55 (ends R E) (Y1 2 ds) M:=by
 rintro ds M R E ⟨p,q,rfl,ok,h⟩;unfold C_55;dsimp only[rSs,rS,rE,rEs,DL.plain,dSeq,dRet,Zu,Z5,dNil,d2,dVar,vAt,vHd,List.map,List.length_cons,List.length_nil,Nat.reduceAdd,Nat.reduceSub,List.replicate_succ,List.replicate_zero,List.cons_append,List.nil_append,dC,bOp,cOp,Y1];have n:=ok.nd;refine (ix0 (ix1 (mulI n.1 (ix0 (ix1 (mulI n.2.1 ?_))))));show R (.bl (decide (p.num*q.den<q.num*p.den))) M;rw[show decide (p.num*(q.den:Int)<q.num*p.den)=decide (p<q) by simp only[GG]];exact h
theorem MExt.upd_new (h:M0 p=Option.none) (e:MExt M0 M):MExt M0 (M.upd p o):=fun a u z=>by
 have:a≠p:=fun q=>by rw[q,h] at z;cases z
 rw[Z8 this];exact e a u z
theorem A0 (xs:List DL.D) (f:DL.D->DL.D)
  (hti:∀ R:List DL.D->(Mem->Prop)->Mem->Prop,(∀ keep,(∀ M',MExt M M'->keep M')->R xs keep M)->ti δ M R) (hlen:xs.length<=1000)
  (hel:∀ x∈xs,∀ l M' (R:DSt->DK),l.length=n->MExt M M'->(∀ l' M'',l'.length=n->MExt M' M''->R (δ++l') (f x) M'')->g x (δ++l) M' fun δ1 M1=>te δ1 M1 fun d M2=>R δ1 d M2)
  (hq:∀ p M',M p=Option.none->MExt M M'->M' p=some (.ls (xs.map f))->Q (.lst p) M'):YO n ti g te δ M Q:=by
 refine hti _ fun keep hk p hp=>⟨hk _ (.new hp),?_⟩;refine Wj (M0:=M) f (fun δ'=>∃ l,l.length=n/\δ'=δ++l) hp hk ?_ (by simpa using hlen) ?_ ⟨_,by simp,rfl⟩ (.new hp) mupd_same
 ·rintro x hx δ' M' R ⟨l,hl,rfl⟩ e r
  exact hel x hx l M' R hl e fun l' M'' h1 h2=>r _ M'' ⟨l',h1,rfl⟩ h2
 ·intro M' e l
  exact⟨⟨_,l⟩,hq p M' hp e (by simpa using l)⟩
theorem V9 (e f:α->DL.D) (I:DSt->Prop) (h0:M0 p=none) (hk:∀ M,MExt M0 M->keep M) :
  ∀ {xs:List α} {acc:List DL.D},(∀ x∈xs,∀ δ M (R:DSt->DK),I δ->MExt M0 M->(∀ δ1 M',I δ1->MExt M M'->R δ1 (f x) M')->g (e x) δ M fun δ1 M1=>te δ1 M1 fun d M2=>R δ1 d M2) ->
  (acc++xs.map f).length<=1000->(∀ M',MExt M0 M'->M' p=some (.ls (acc++xs.map f))->Q M')->∀ {δ M},I δ->MExt M0 M->M p=some (.ls acc)->X9 g te keep p (xs.map e) acc δ M Q
 | [],acc,_,_,q,δ,M,i,e',l=>by show X9 g te keep p [] acc δ M Q;unfold X9;exact q M e' (by simpa using l)
 | x::xs,acc,h,hz,q,δ,M,i,e',l=>by
  show X9 g te keep p (e x::xs.map e) acc δ M Q;unfold X9;refine h x List.mem_cons_self δ M (fun δ1 d M2=>M2 p=some (.ls acc)/\acc.length<sizeLine/\keep (M2.upd p (.ls (acc++[d])))/\X9 g te keep p (xs.map e) (acc++[d]) δ1 (M2.upd p (.ls (acc++[d]))) Q) i e' fun δ1 M' i' e2=>?_;have e3:MExt M0 (M'.upd p (.ls (acc++[f x]))):=MExt.upd_new h0 (e'.trans e2);refine⟨e2 _ _ l,?_,hk _ e3,V9 e f I h0 hk (fun y hy=>h y (List.mem_cons_of_mem _ hy)) (by simpa using hz) (fun M2 e4 l4=>q M2 e4 (by simpa using l4)) i' e3 mupd_same⟩;rw[sizeLine_eq];simp at hz;omega
theorem YB (xs:List α) (e f:α->DL.D)
  (hti:∀ R:List DL.D->(Mem->Prop)->Mem->Prop,(∀ keep,(∀ M',MExt M M'->keep M')->R (xs.map e) keep M)->ti δ M R) (hlen:xs.length<=1000)
  (hel:∀ x∈xs,∀ l M' (R:DSt->DK),l.length=n->MExt M M'->(∀ l' M'',l'.length=n->MExt M' M''->R (δ++l') (f x) M'')->g (e x) (δ++l) M' fun δ1 M1=>te δ1 M1 fun d M2=>R δ1 d M2)
  (hq:∀ p M',M p=Option.none->MExt M M'->M' p=some (.ls (xs.map f))->Q (.lst p) M'):YO n ti g te δ M Q:=by
 refine hti _ fun keep hk p hp=>⟨hk _ (.new hp),?_⟩;refine V9 (M0:=M) e f (fun δ'=>∃ l,l.length=n/\δ'=δ++l) hp hk ?_ (by simpa using hlen) ?_ ⟨_,by simp,rfl⟩ (.new hp) mupd_same
 ·rintro x hx δ' M' R ⟨l,hl,rfl⟩ e2 r
  exact hel x hx l M' R hl e2 fun l' M'' h1 h2=>r _ M'' ⟨l',h1,rfl⟩ h2
 ·intro M' e2 l
  exact⟨⟨_,l⟩,hq p M' hp e2 (by simpa using l)⟩
theorem UO (h:δ[i]?=some (some (.tup xs))):∀ R:List DL.D->(Mem->Prop)->Mem->Prop,(∀ keep,(∀ M',MExt M M'->keep M')->R xs keep M)->Yu (dVar i) δ M R :=
 fun R r=>Co h (r _ fun _ _=>trivial)
theorem len1 (h:l.length=1):∃ a,l=[a]:=match l,h with | [a],_=>⟨a,rfl⟩
theorem len2 (h:l.length=2):∃ a b,l=[a,b]:=match l,h with | [a,b],_=>⟨a,b,rfl⟩
theorem EK {M:Mem} {p:Addr} {Q:DK} {α:Type} {xs:List α} {f:α->Bool} (l:M p=some (.ls (xs.map fun x=>.bl (f x)))) (h:Q (.bl (xs.all f)) M):fAll [.lst p] M Q :=
 ⟨xs.map f,by rw[l,List.map_map];rfl,by rw[List.all_map];exact h⟩
theorem IP {M:Mem} {p:Addr} {Q:DK} {α:Type} {xs:List α} {f:α->Bool} (l:M p=some (.ls (xs.map fun x=>.bl (f x)))) (h:Q (.bl (xs.any f)) M):fAny [.lst p] M Q :=
 ⟨xs.map f,by rw[l,List.map_map];rfl,by rw[List.any_map];exact h⟩
mutual
noncomputable def Gd (M:Mem):DL.D->Prop
 | .tup xs=>Gds M xs
 | .int i=>i.natAbs<2 ^ 3000
 | .non=>True
 | .bl _=>True
 | .str _=>True
 | .fz _=>True
 | .lst a=>∃ xs,M a=some (.ls xs)
 | .dct a=>∃ xs,M a=some (.dk xs)
 | _=>False
noncomputable def Gds (M:Mem):List DL.D->Prop
 | []=>True
 | d::r=>Gd M d/\Gds M r
end
mutual
theorem Gd.ext (e:MExt M M'):∀ d,Gd M d->Gd M' d
 | .tup xs,h=>by unfold Gd at h ⊢;exact Gds.ext e xs h
 | .lst a,h=>by unfold Gd at h ⊢;exact let ⟨xs,q⟩:=h;⟨xs,e _ _ q⟩
 | .dct a,h=>by unfold Gd at h ⊢;exact let ⟨xs,q⟩:=h;⟨xs,e _ _ q⟩
 | .int i,h=>by unfold Gd at h ⊢;exact h
 | .non,_=>by unfold Gd;trivial
 | .bl _,_=>by unfold Gd;trivial
 | .str _,_=>by unfold Gd;trivial
 | .fz _,_=>by unfold Gd;trivial
 | .ty _,h=>by unfold Gd at h;exact h.elim
 | .ref _,h=>by unfold Gd at h;exact h.elim
 | .exc _ _,h=>by unfold Gd at h;exact h.elim
 | .cls _,h=>by unfold Gd at h;exact h.elim
theorem Gds.ext (e:MExt M M'):∀ ds,Gds M ds->Gds M' ds
 | [],_=>by unfold Gds;trivial
 | d::r,h=>by unfold Gds at h ⊢;exact⟨Gd.ext e d h.1,Gds.ext e r h.2⟩
end
theorem Gds.mem:∀ {ds:List DL.D},Gds M ds->∀ d∈ds,Gd M d
 | [],_,_,h=>by cases h
 | x::r,h,d,hd=>by
  unfold Gds at h;rcases List.mem_cons.mp hd with rfl|hd
  ·exact h.1
  ·exact Gds.mem h.2 d hd
theorem Gds.of:∀ {ds:List DL.D},(∀ d∈ds,Gd M d)->Gds M ds
 | [],_=>by unfold Gds;trivial
 | x::r,h=>by unfold Gds;exact⟨h x List.mem_cons_self,Gds.of fun d hd=>h d (List.mem_cons_of_mem _ hd)⟩
theorem Gd.tup (h:Gd M (.tup ds)):∀ d∈ds,Gd M d:=by unfold Gd at h;exact h.mem
theorem Gd.mk (h:∀ d∈ds,Gd M d):Gd M (.tup ds):=by unfold Gd;exact .of h
theorem Gd.ty (h:Gd M d):∃ t,tyD M d=some t:=by
 cases d<;>unfold Gd at h<;>first|exact⟨_,rfl⟩|exact h.elim|(obtain⟨xs,q⟩:=h;simp[tyD,q])
theorem A4 (hn:∀ ds,d≠.tup ds) (h:tyD M d=some t):isiT t "tuple"=false:=by
 cases d with
 | tup ds=>exact absurd rfl (hn ds)
 | lst a =>
  simp only[tyD] at h;split at h<;>cases h
  decide
 | dct a =>
  simp only[tyD] at h;split at h<;>cases h
  decide
 | _=>first|(cases h;decide)|cases h
theorem Ur (h:tyD M d=some "int"):∃ i,d=.int i:=by
 cases d with
 | int i=>exact⟨i,rfl⟩
 | lst a=>simp only[tyD] at h;split at h<;>simp at h
 | dct a=>simp only[tyD] at h;split at h<;>simp at h
 | _=>simp[tyD] at h
noncomputable def S_0:DSp:=fun ds M Q _=>∃ d t,ds=[d]/\tyD M d=some t/\Q (.bl (decide (t="int"))) M
noncomputable def C_0:CSs:=%[.ret (.and (.bi .isinstance %[.var 0,.ty .int|0]) (.one (.not (.bi .isinstance %[.var 0,.ty .bool|0]))))|0]
theorem vc_0:∀ ds M R E,S_0 ds M R E->rSs C_0 (ends R E) (Y1 1 ds) M:=by
 rintro ds M R E ⟨d,t,rfl,ht,h⟩;simp[0,C_0,rSs,Yn,vAt,vHd,Y9,Yj,Yu,YI,dFor,YO,bMul,bAdd,iOp,sOp,fLen,Y8,Yi,fIsi,fAll,fAny,Yh,and_assoc,sizeLine_eq,ht];by_cases h1:t="int"
 ·subst h1;simp[isiT];exact h
 ·by_cases h2:t="bool"
  ·subst h2;simp[isiT];exact h
  ·simp[isiT,h1,h2];simpa[h1] using h
noncomputable def num?:DL.D->Option Rat
 | .tup [.int a,.int b]=>if 1<=b/\Int.gcd a b=1 then some (Rat.divInt a b) else none
 | _=>none
theorem UX (a b:Int):num? (.tup [.int a,.int b])=if 1<=b/\Int.gcd a b=1 then some (Rat.divInt a b) else none:=rfl
theorem UY (q:Rat):num? (nm q)=some q:=by
 unfold nm;have:=W6 q;rw[UX,if_pos ⟨by omega,Eh q⟩,Yl]
theorem Am (h:num? d=some q):d=nm q:=by
 unfold num? at h;split at h
 ·rename_i a b
  split at h
  ·rename_i hc
   cases h;obtain⟨e1,e2⟩:=HI hc.1 hc.2;unfold nm;rw[e1,e2]
  ·cases h
 ·cases h
noncomputable def YF (d:DL.D):Bool:=(num? d).isSome
theorem isNum_iff:YF d=true ↔ ∃ q,d=nm q:=by
 unfold YF;constructor
 ·intro h;obtain⟨q,e⟩:=Option.isSome_iff_exists.mp h;exact⟨q,Am e⟩
 ·rintro⟨q,rfl⟩;rw[UY];rfl
theorem Wy (q:Rat):YF (nm q)=true:=isNum_iff.mpr ⟨q,rfl⟩
theorem Uq (h:(∀ i,a≠.int i)\/∀ i,b≠.int i):YF (.tup [a,b])=false:=by
 unfold YF num?;split
 ·rename_i i j e
  simp at e;rcases h with h|h
  ·exact absurd e.1 (h i)
  ·exact absurd e.2 (h j)
 ·rfl
theorem Gd.sz (h:Gd M (nm q)):Sz 3000 q:=by
 have a:=h.tup (.int q.num) (by simp);have b:=h.tup (.int q.den) (by simp);unfold Gd at a b;exact⟨a,by simpa using b⟩
theorem Gd.nm (h:Sz n q) (hn:n<=3000):Gd M (nm q):=by
 refine .mk fun d hd=>?_;have:=h.mono hn;simp at hd;rcases hd with rfl|rfl<;>unfold Gd
 ·exact this.1
 ·simpa using this.2
noncomputable def S_2:DSp:=fun ds M Q _=>∃ d,ds=[d]/\Gd M d/\Q (.bl (YF d)) M
noncomputable def C_2:CSs:=%[.ife (.or (.not (.bi .isinstance %[.var 0,.ty .tuple|0])) (.one (.cmp .NotEq (.bi .len %[.var 0|0]) (.int 2)))) %[.ret (.bl false)|0] .nil,.asg (.tup %[.name 1,.name 2|0]) (.var 0),.ife (.or (.not (.call "is_whole" S_0 %[.var 1|0])) (.or (.not (.call "is_whole" S_0 %[.var 2|0])) (.one (.cmp .Lt (.var 2) (.int 1))))) %[.ret (.bl false)|0] .nil,.ret (.cmp .Eq (.call "greatest_divisor" S_1 %[.var 1,.var 2|0]) (.int 1))|0]
theorem vc_2:∀ ds M R E,S_2 ds M R E->rSs C_2 (ends R E) (Y1 3 ds) M:=by
 rintro ds M R E ⟨d,rfl,gd,h⟩;obtain⟨t,ht⟩:=gd.ty;by_cases hd:∃ xs,d=.tup xs
 ·obtain⟨xs,rfl⟩:=hd
  by_cases hl:xs.length=2
  ·obtain⟨a,b,rfl⟩:∃ a b,xs=[a,b]:=by
    match xs,hl with
    | [a,b],_=>exact⟨a,b,rfl⟩
   obtain⟨ta,hta⟩:=(gd.tup a (by simp)).ty;obtain⟨tb,htb⟩:=(gd.tup b (by simp)).ty;unfold C_2;rw[Yr];simp[0,Yn,vAt,vHd,Y9,Yj,bMul,bAdd,sOp,Y8,Yi,fIsi,Yh,and_assoc,sizeLine_eq,Yq,fLen,tyD,isiT];refine ZP true ?_;simp;sleep 1;rw[Yr];sleep 2;refine⟨a,ta,rfl,hta,?_⟩;by_cases h1:ta="int"
   ·subst h1
    obtain⟨i,rfl⟩:=Ur hta;simp;refine⟨b,tb,rfl,htb,?_⟩;by_cases h2:tb="int"
    ·subst h2
     obtain⟨j,rfl⟩:=Ur htb;simp;by_cases h3:j<1
     ·have e:YF (.tup [.int i,.int j])=false:=by
       unfold YF;rw[UX,if_neg %[|5]];rfl
      simp[h3];rw[e] at h;exact h
     ·simp[h3]
      sleep 1;refine⟨i,j,rfl,?_⟩;refine ZP false ?_;have e:YF (.tup [.int i,.int j])=(((Int.gcd i j:Nat):Int)==1):=by
       unfold YF;rw[UX];by_cases hg:Int.gcd i j=1
       ·rw[if_pos ⟨by omega,hg⟩,hg];rfl
       ·rw[if_neg %[|5]]
        have:((Int.gcd i j:Nat):Int)≠1:=by omega
        simp[this]
      rw[e] at h;exact h
    ·simp[h2]
     have e:=Uq (a:=.int i) (b:=b) (.inr fun j z=>h2 (by subst z;cases htb;rfl));rw[e] at h;exact h
   ·simp[h1]
    have e:=Uq (a:=a) (b:=b) (.inl fun j z=>h1 (by subst z;cases hta;rfl));rw[e] at h;exact h
  ·have e:YF (.tup xs)=false:=by
    unfold YF num?;split
    ·rename_i z;cases z;simp at hl
    ·rfl
   rw[e] at h;unfold C_2;rw[Yr];simp[0,Yn,vAt,vHd,Y9,Yj,bMul,bAdd,sOp,Y8,Yi,fIsi,Yh,and_assoc,sizeLine_eq,Yq,fLen,tyD,isiT];refine ZP true ?_;have:¬ ((xs.length:Int)=2):=by omega
   simp[this];exact h
 ·have hn:∀ ds,d≠.tup ds:=fun ds z=>hd ⟨ds,z⟩
  have e:YF d=false:=by
   unfold YF num?;split
   ·exact absurd rfl (hn _)
   ·rfl
  rw[e] at h;unfold C_2;rw[Yr];simp[0,Yn,vAt,vHd,Y9,Yj,bMul,bAdd,sOp,Y8,Yi,fIsi,Yh,and_assoc,sizeLine_eq,Yq,ht,A4 hn ht];exact h
noncomputable def Yc (l m:Int):DL.D->Bool
 | .tup xs=>decide (l<=xs.length)&&decide ((xs.length:Int)<=m)&&xs.all YF
 | _=>false
noncomputable def S_11:DSp:=fun ds M Q _=>∃ d l m,ds=[d,.int l,.int m]/\m<=1000/\Gd M d/\∀ M',MExt M M'->Q (.bl (Yc l m d)) M'
noncomputable def C_11:CSs:=%[.ife (.or (.not (.bi .isinstance %[.var 0,.ty .tuple|0])) (.one (.not (.chain .LtE .LtE (.var 1) (.bi .len %[.var 0|0]) (.var 2))))) %[.ret (.bl false)|0] .nil,.ret (.bi .all %[.comp ["thing","least","most","part"] 1 (.name 3) (.seq (.var 0)) (.call "is_number" S_2 %[.var 3|0])|0])|0]
theorem vc_11:∀ ds M R E,S_11 ds M R E->rSs C_11 (ends R E) (Y1 3 ds) M:=by
 rintro ds M R E ⟨d,l,m,rfl,hm,gd,h⟩;obtain⟨t,ht⟩:=gd.ty;by_cases hd:∃ xs,d=.tup xs
 ·obtain⟨xs,rfl⟩:=hd
  simp[0,C_11,rSs,Yn,vAt,vHd,Yj,bMul,bAdd,iOp,sOp,fLen,Y8,Yi,fIsi,Yh,and_assoc,sizeLine_eq,tyD,isiT];by_cases h1:l<=(xs.length:Int)
  ·by_cases h2:(xs.length:Int)<=m
   ·rw[if_pos h1,if_pos h2]
    refine A0 xs (fun x=>.bl (YF x)) (UO rfl) %[|5] ?_ ?_
    ·intro x hx l' M' R' hl e r
     obtain⟨a,rfl⟩:=len1 hl;sleep 5;exact⟨x,rfl,(gd.tup x hx).ext e,r [some x] M' rfl (.refl _)⟩
    ·intro p M' hp e l'
     refine EK l' ?_;have:=h M' e
     simpa[Yc,h1,h2] using this
   ·rw[if_pos h1,if_neg h2]
    have:=h M (.refl M)
    simpa[Yc,h2] using this
  ·rw[if_neg h1]
   have:=h M (.refl M)
   simpa[Yc,h1] using this
 ·have hn:∀ ds,d≠.tup ds:=fun ds z=>hd ⟨ds,z⟩
  have e:Yc l m d=false:=by
   unfold Yc;split
   ·exact absurd rfl (hn _)
   ·rfl
  rw[e] at h;simp[0,C_11,rSs,Yn,vAt,vHd,Y9,Yj,Yu,YI,dFor,YO,bMul,bAdd,iOp,sOp,fLen,Y8,Yi,fIsi,fAll,fAny,Yh,and_assoc,sizeLine_eq,ht,A4 hn ht];exact h M (.refl M)
structure EqEnc {α:Type} [DecidableEq α] (e:α->DL.D) (k:Nat):Prop where
 ex:∃ e':α->PyData,(∀ M a,Py M (e a) (e' a))/\(∀ a b,PyData.eqv (e' a) (e' b)=decide (a=b))/\∀ a,(e' a).depth<=k
theorem EqEnc.eq {α:Type} [DecidableEq α] {e:α->DL.D} {k:Nat} (h:EqEnc e k) (hk:k<=60) {M:Mem} {Q:DK} {a b:α} (neg:Bool) (q:Q (.bl (if neg then !decide (a=b) else decide (a=b))) M):cEq neg (e a) (e b) M Q:=by
 obtain⟨e',h1,h2,h3⟩:=h.ex;refine IO (h1 M a) (h1 M b) ?_ (by rw[h2];exact q);have:=h3 a;omega
theorem enc_nm:EqEnc nm 3:=by
 refine⟨fun q=>.tuple [.int q.num,.int q.den],fun M q=>.tup (.cons (.int _) (.cons (.int _) .nil)),fun p q=>?_,fun q=>by simp[PyData.depth,PyData.depthAll]⟩;simp only[PyData.eqv,PyData.eqvAll];by_cases h:p=q
 ·subst h;simp
 ·have:¬ (p.num=q.num/\(p.den:Int)=q.den):=fun ⟨a,b⟩=>h (Rat.ext a %[|5])
  simp only[h,decide_false];rw[Bool.eq_false_iff];intro z;simp at z;exact this ⟨z.1,by omega⟩
theorem WT:∀ {l:List PyData},(∀ x∈l,x.depth<=k)->PyData.depthAll l<=k
 | [],_=>by simp[PyData.depthAll]
 | x::r,h=>by
  have a:=h x List.mem_cons_self;have b:=WT fun y hy=>h y (List.mem_cons_of_mem _ hy);simp only[PyData.depthAll];omega
theorem UV {α:Type} {e:α->DL.D} {e':α->PyData} {M:Mem} (h:∀ a,Py M (e a) (e' a)):∀ l:List α,Pys M (l.map e) (l.map e')
 | []=>.nil
 | a::r=>.cons (h a) (UV h r)
theorem Bf [DecidableEq α] (h:∀ a b,PyData.eqv (e' a) (e' b)=decide (a=b)):∀ l m:List α,PyData.eqvAll (l.map e') (m.map e')=decide (l=m)
 | [],[]=>by simp[PyData.eqvAll]
 | [],_::_=>by simp[PyData.eqvAll]
 | _::_,[]=>by simp[PyData.eqvAll]
 | a::l,b::m=>by
  simp only[List.map_cons,PyData.eqvAll,h,Bf h l m,List.cons.injEq];by_cases h1:a=b<;>by_cases h2:l=m<;>simp[h1,h2]
theorem EqEnc.tup {α:Type} [DecidableEq α] {e:α->DL.D} {k:Nat} (h:EqEnc e k):EqEnc (fun l:List α=>.tup (l.map e)) (k+1):=by
 obtain⟨e',h1,h2,h3⟩:=h.ex;refine⟨fun l=>.tuple (l.map e'),fun M l=>.tup (UV (h1 M) l),fun a b=>by simp only[PyData.eqv];exact Bf h2 a b,fun l=>?_⟩;simp only[PyData.depth];have:=WT (k:=k) (l:=l.map e') (by simp;exact fun a _=>h3 a);omega
theorem EqEnc.pair [DecidableEq α] [DecidableEq β] (h:EqEnc e k) (h':EqEnc f k):EqEnc (fun p:α×β=>.tup [e p.1,f p.2]) (k+1):=by
 obtain⟨e',h1,h2,h3⟩:=h.ex;obtain⟨f',g1,g2,g3⟩:=h'.ex;refine⟨fun p=>.tuple [e' p.1,f' p.2],fun M p=>.tup (.cons (h1 M _) (.cons (g1 M _) .nil)),fun a b=>?_,fun p=>?_⟩
 ·obtain⟨a1,a2⟩:=a
  obtain⟨b1,b2⟩:=b;simp only[PyData.eqv,PyData.eqvAll,h2,g2,Prod.mk.injEq];by_cases z1:a1=b1<;>by_cases z2:a2=b2<;>simp[z1,z2]
 ·simp only[PyData.depth,PyData.depthAll]
  have:=h3 p.1;have:=g3 p.2;omega
noncomputable def rw (r:List Rat):DL.D:=.tup (r.map nm)
noncomputable def pl (p:Rat×Rat):DL.D:=.tup [nm p.1,nm p.2]
noncomputable def tb (t:List (Rat×Rat)):DL.D:=.tup (t.map pl)
theorem enc_rw:EqEnc rw 4:=enc_nm.tup
theorem Bg {M:Mem} {Q:DK} {a b:Rat} (neg:Bool) (q:Q (.bl (if neg then !decide (a=b) else decide (a=b))) M):cEq neg (nm a) (nm b) M Q:=enc_nm.eq %[|4] neg q
theorem WA {M:Mem} {Q:DK} {a b:List Rat} (neg:Bool) (q:Q (.bl (if neg then !decide (a=b) else decide (a=b))) M):cEq neg (rw a) (rw b) M Q:=enc_rw.eq %[|4] neg q
noncomputable def Xf?:DL.D->Option (Rat×Rat)
 | .tup [a,b]=>match num? a,num? b with
  | some p,some q=>if p<=q then some (p,q) else none
  | _,_=>none
 | _=>none
noncomputable def Zp (d:DL.D):Bool:=(Xf? d).isSome
theorem D6 (h:Xf? d=some p):d=pl p/\p.1<=p.2:=by
 unfold Xf? at h;split at h
 ·rename_i a b
  split at h
  ·rename_i x y e1 e2
   split at h
   ·rename_i hl
    cases h;exact⟨by rw[Am e1,Am e2];rfl,hl⟩
   ·cases h
  ·cases h
 ·cases h
theorem D5 (h:p.1<=p.2):Xf? (pl p)=some p:=by
 unfold pl Xf?;simp only[UY];rw[if_pos h]
theorem isPlace_iff:Zp d=true ↔ ∃ p:Rat×Rat,d=pl p/\p.1<=p.2:=by
 unfold Zp;constructor
 ·intro h;obtain⟨p,e⟩:=Option.isSome_iff_exists.mp h;exact⟨p,D6 e⟩
 ·rintro⟨p,rfl,h⟩;rw[D5 h];rfl
noncomputable def S_13:DSp:=fun ds M Q _=>∃ d,ds=[d]/\Gd M d/\∀ M',MExt M M'->Q (.bl (Zp d)) M'
noncomputable def C_13:CSs:=%[.ret (.and (.call "are_numbers" S_11 %[.var 0,.int 2,.int 2|0]) (.one (.not (.call "is_less" S_8 %[.ix (.var 0) (.int 1),.ix (.var 0) (.int 0)|0]))))|0]
theorem DW {a b:Prop} (h:a):if true=true then a else b:=h
theorem Kq {a b:Prop} (h:b):if false=true then a else b:=h
theorem vc_13:∀ ds M R E,S_13 ds M R E->rSs C_13 (ends R E) (Y1 1 ds) M:=by
 rintro ds M R E ⟨d,rfl,gd,h⟩;unfold C_13;dsimp only[rSs,rS,rE,rEs,DL.plain,dSeq,dRet,Zu,Z5,dNil,d2,dVar,vAt,vHd,List.map,List.length_cons,List.length_nil,Nat.reduceAdd,Nat.reduceSub,List.replicate_succ,List.replicate_zero,List.cons_append,List.nil_append,List.set_cons_succ,List.set_cons_zero,dC,Y1,Bp,EA,dTru,dNot];refine⟨d,2,2,rfl,by decide,gd,fun M' e=>⟨_,rfl,?_⟩⟩;cases q:Yc 2 2 d with
 | true =>
  obtain⟨a,b,rfl,ha,hb⟩:∃ a b,d=.tup [a,b]/\YF a=true/\YF b=true:=by
   unfold Yc at q;split at q
   ·rename_i xs
    simp at q;obtain⟨a,b,rfl⟩:=len2 (l:=xs) %[|5];exact⟨a,b,rfl,by simpa using q.2 a (by simp),by simpa using q.2 b (by simp)⟩
   ·cases q
  obtain⟨x,rfl⟩:=isNum_iff.mp ha;obtain⟨y,rfl⟩:=isNum_iff.mp hb;have sx:=(gd.tup (nm x) (by simp)).sz;have sy:=(gd.tup (nm y) (by simp)).sz;refine DW ⟨_,Zv _ _ _,_,Yf _ _,y,x,rfl,.mk sy sx %[|4],?_⟩;have:=h M' e;have e2:Zp (.tup [nm x,nm y])=!decide (y<x):=by
   unfold Zp Xf?;simp only[UY];by_cases z:x<=y
   ·rw[if_pos z,decide_eq_false (by grind)];rfl
   ·rw[if_neg z,decide_eq_true (by grind)];rfl
  rw[e2] at this;exact⟨_,rfl,this⟩
 | false =>
  refine Kq ?_;have:=h M' e;have e2:Zp d=false:=by
   cases z:Zp d with
   | false=>rfl
   | true =>
    obtain⟨p,rfl,_⟩:=isPlace_iff.mp z;simp[Yc,pl,Wy] at q
  rw[e2] at this;exact this
abbrev Z0:DL.D:=.int 25
noncomputable def Zl:DL.D->Bool
 | .tup xs=>decide (2<=xs.length)&&decide (xs.length<=25)&&xs.all Zp
 | _=>false
noncomputable def S_14:DSp:=fun ds M Q _=>∃ d,ds=[d]/\Gd M d/\∀ M',MExt M M'->Q (.bl (Zl d)) M'
noncomputable def C_14:CSs:=%[.ife (.or (.not (.bi .isinstance %[.var 0,.ty .tuple|0])) (.one (.not (.chain .LtE .LtE (.int 2) (.bi .len %[.var 0|0]) (.glo "MOST_PLACES_tubes" Z0))))) %[.ret (.bl false)|0] .nil,.ret (.bi .all %[.comp ["thing","part"] 1 (.name 1) (.seq (.var 0)) (.call "is_place" S_13 %[.var 1|0])|0])|0]
theorem vc_14:∀ ds M R E,S_14 ds M R E->rSs C_14 (ends R E) (Y1 1 ds) M:=by
 rintro ds M R E ⟨d,rfl,gd,h⟩;obtain⟨t,ht⟩:=gd.ty;by_cases hd:∃ xs,d=.tup xs
 ·obtain⟨xs,rfl⟩:=hd
  simp[0,C_14,rSs,Yn,vAt,vHd,Yj,bMul,bAdd,iOp,sOp,fLen,Y8,Yi,fIsi,Yh,and_assoc,sizeLine_eq,tyD,isiT];by_cases h1:(2:Int)<=(xs.length:Int)
  ·by_cases h2:(xs.length:Int)<=25
   ·rw[if_pos h1,if_pos h2]
    refine A0 xs (fun x=>.bl (Zp x)) (UO rfl) %[|5] ?_ ?_
    ·intro x hx l' M' R' hl e r
     obtain⟨a,rfl⟩:=len1 hl;sleep 5;exact⟨x,rfl,(gd.tup x hx).ext e,fun M'' e2=>r [some x] M'' rfl e2⟩
    ·intro p M' hp e l'
     refine EK l' ?_;have:=h M' e;have z1:2<=xs.length:=by omega
     have z2:xs.length<=25:=by omega
     simpa[Zl,z1,z2] using this
   ·rw[if_pos h1,if_neg h2]
    have:=h M (.refl M);have z2:¬ xs.length<=25:=by omega
    simpa[Zl,z2] using this
  ·rw[if_neg h1]
   have:=h M (.refl M);have z1:¬ 2<=xs.length:=by omega
   simpa[Zl,z1] using this
 ·have hn:∀ ds,d≠.tup ds:=fun ds z=>hd ⟨ds,z⟩
  have e:Zl d=false:=by
   unfold Zl;split
   ·exact absurd rfl (hn _)
   ·rfl
  rw[e] at h;simp[0,C_14,rSs,Yn,vAt,vHd,Y9,Yj,Yu,YI,dFor,YO,bMul,bAdd,iOp,sOp,fLen,Y8,Yi,fIsi,fAll,fAny,Yh,and_assoc,sizeLine_eq,ht,A4 hn ht];exact h M (.refl M)
theorem Ci (h:xs.all Zp=true):∃ t:List (Rat×Rat),xs=t.map pl/\∀ p∈t,p.1<=p.2:=by
 induction xs with
 | nil=>exact⟨[],rfl,by simp⟩
 | cons x r ih =>
  simp only[List.all_cons,Bool.and_eq_true] at h;obtain⟨p,rfl,hp⟩:=isPlace_iff.mp h.1;obtain⟨t,rfl,ht⟩:=ih h.2;refine⟨p::t,rfl,fun q hq=>?_⟩;rcases List.mem_cons.mp hq with rfl|hq
  ·exact hp
  ·exact ht q hq
structure Tube (t:List (Rat×Rat)):Prop where
 two:2<=t.length
 most:t.length<=25
 ok:∀ p∈t,p.1<=p.2
theorem isTube_iff:Zl d=true ↔ ∃ t,d=tb t/\Tube t:=by
 constructor
 ·intro h
  unfold Zl at h;split at h
  ·simp only[Bool.and_eq_true,decide_eq_true_eq] at h
   obtain⟨t,rfl,ht⟩:=Ci h.2;exact⟨t,rfl,by simpa using h.1.1,by simpa using h.1.2,ht⟩
  ·cases h
 ·rintro⟨t,rfl,ht⟩
  unfold Zl tb;have:=ht.two;have:=ht.most;simp only[List.length_map,Bool.and_eq_true,decide_eq_true_eq];refine⟨⟨ht.two,ht.most⟩,?_⟩;rw[List.all_eq_true];intro x hx;obtain⟨p,hp,rfl⟩:=List.mem_map.mp hx;exact isPlace_iff.mpr ⟨p,rfl,ht.ok p hp⟩
noncomputable def Sq (M:Mem) (d:DL.D) (xs:List DL.D):Prop:=d=.tup xs\/d=.fz xs\/∃ a,d=.lst a/\M a=some (.ls xs)
theorem Sq.ext (h:Sq M d xs) (e:MExt M M'):Sq M' d xs:=by
 rcases h with h|h|⟨a,h,l⟩
 ·exact .inl h
 ·exact .inr (.inl h)
 ·exact .inr (.inr ⟨a,h,e _ _ l⟩)
theorem Sq.ix (h:Sq M d xs) (e:L2.atI xs i=some v) (q:Q v M):iOp d (.int i) M Q:=by
 rcases h with rfl|rfl|⟨a,rfl,l⟩
 ·exact⟨v,e,q⟩
 ·exact⟨v,e,q⟩
 ·exact⟨xs,v,l,e,q⟩
theorem Sq.len (h:Sq M d xs) (q:Q (.int xs.length) M):fLen [d] M Q:=by
 rcases h with rfl|rfl|⟨a,rfl,l⟩
 ·exact q
 ·exact q
 ·exact⟨xs,l,q⟩
theorem Zm {α:Type} {xs:List α} {i:Nat} {v:α} (h:xs[i]?=some v):L2.atI xs (i:Int)=some v:=L2.atI_nat h
theorem W8 (h:xs≠[]):L2.atI xs (-1)=some (xs.getLast h):=by
 unfold L2.atI L2.ixN;have:=List.length_pos_iff.mpr h;rw[if_neg %[|5],if_pos %[|5]];have e:(-1+(xs.length:Int)).toNat=xs.length-1:=by omega
 rw[e];simp[List.getLast_eq_getElem]
theorem Ao (i:Int):nm (i:Rat)=.tup [.int i,.int 1]:=rfl
noncomputable def lo (t:List (Rat×Rat)) (i:Nat):Rat:=(t.getD i (0,0)).1
noncomputable def hi (t:List (Rat×Rat)) (i:Nat):Rat:=(t.getD i (0,0)).2
theorem Vw (h:i<t.length):(t.map pl)[i]?=some (pl (lo t i,hi t i)):=by
 simp[h,lo,hi]
noncomputable def tied (t:List (Rat×Rat)):Bool:=decide (lo t 0=hi t 0)&&decide (lo t (t.length-1)=hi t (t.length-1))
noncomputable def XH (d:DL.D):Bool:=by
 classical exact decide (∃ t,d=tb t/\Tube t/\tied t=true)
theorem Ho (h:pl p=pl q):p=q:=by
 unfold pl nm at h;simp at h;exact Prod.ext (Rat.ext h.1.1 %[|5]) (Rat.ext h.2.1 %[|5])
theorem VQ:∀ {s t:List (Rat×Rat)},s.map pl=t.map pl->s=t
 | [],[],_=>rfl
 | [],_::_,h=>by simp at h
 | _::_,[],h=>by simp at h
 | a::s,b::t,h=>by
  simp only[List.map_cons,List.cons.injEq] at h;rw[Ho h.1,VQ h.2]
theorem Ha (h:tb s=tb t):s=t:=by
 unfold tb at h;injection h with h
 exact VQ h
theorem Up (h:Tube t):XH (tb t)=tied t:=by
 unfold XH;cases e:tied t with
 | true=>simpa using ⟨t,rfl,h,e⟩
 | false =>
  simp only[decide_eq_false_iff_not];rintro⟨s,e1,_,e2⟩;rw[<- Ha e1,e] at e2;cases e2
theorem Az (h:Zl d=false):XH d=false:=by
 unfold XH;simp only[decide_eq_false_iff_not];rintro⟨s,rfl,ht,_⟩;rw[isTube_iff.mpr ⟨s,rfl,ht⟩] at h;cases h
noncomputable def S_15:DSp:=fun ds M Q _=>∃ d,ds=[d]/\Gd M d/\∀ M',MExt M M'->Q (.bl (XH d)) M'
noncomputable def C_15:CSs:=%[.ret (.and (.call "is_tube" S_14 %[.var 0|0]) (.and (.cmp .Eq (.ix (.ix (.var 0) (.int 0)) (.int 0)) (.ix (.ix (.var 0) (.int 0)) (.int 1))) (.one (.cmp .Eq (.ix (.ix (.var 0) (.neg (.int 1))) (.int 0)) (.ix (.ix (.var 0) (.neg (.int 1))) (.int 1))))))|0]
theorem tix (e:L2.atI xs i=some v) (q:Q v M):iOp (.tup xs) (.int i) M Q:=⟨v,e,q⟩
theorem pl0 (q:Q (nm p.1) M):iOp (pl p) (.int 0) M Q:=⟨_,Yf _ _,q⟩
theorem pl1 (q:Q (nm p.2) M):iOp (pl p) (.int 1) M Q:=⟨_,Zv _ _ _,q⟩
theorem EV {t:List (Rat×Rat)} (h2:2<=t.length):L2.atI (t.map pl) 0=some (pl (lo t 0,hi t 0))/\L2.atI (t.map pl) (-1)=some (pl (lo t (t.length-1),hi t (t.length-1))):=by
 refine⟨Zm (i:=0) (Vw %[|5]),?_⟩;have hne:t.map pl≠[]:=by intro z;simp at z;subst z;simp at h2
 rw[W8 hne];have:=Vw (t:=t) (i:=t.length-1) %[|5];rw[List.getElem?_eq_getElem (by simp;omega)] at this;simp only[Option.some.injEq] at this;rw[<- this];simp[List.getLast_eq_getElem]
theorem vc_15:∀ ds M R E,S_15 ds M R E->rSs C_15 (ends R E) (Y1 1 ds) M:=by
 rintro ds M R E ⟨d,rfl,gd,h⟩;unfold C_15;dsimp only[rSs,rS,rE,rEs,DL.plain,dSeq,dRet,Zu,Z5,dNil,d2,dVar,vAt,vHd,List.map,List.length_cons,List.length_nil,Nat.reduceAdd,Nat.reduceSub,List.replicate_succ,List.replicate_zero,List.cons_append,List.nil_append,List.set_cons_succ,List.set_cons_zero,dC,bOp,cOp,Y1,Bp,dNeg];refine⟨d,rfl,gd,fun M' e=>⟨_,rfl,?_⟩⟩;have hm:=h M' e;cases q:Zl d with
 | false =>
  rw[Az q] at hm;exact hm
 | true =>
  obtain⟨t,rfl,ht⟩:=isTube_iff.mp q;rw[Up ht] at hm;obtain⟨a0,a1⟩:=EV ht.two;unfold tied at hm;refine DW ?_;refine tix a0 (pl0 (tix a0 (pl1 (Bg false ⟨_,rfl,?_⟩))));by_cases z1:lo t 0=hi t 0
  ·rw[decide_eq_true z1,Bool.true_and] at hm
   show if decide (lo t 0=hi t 0)=true then _ else _
   rw[decide_eq_true z1];refine DW ?_;exact⟨_,rfl,tix a1 (pl0 ⟨_,rfl,tix a1 (pl1 (Bg false hm))⟩)⟩
  ·rw[decide_eq_false z1,Bool.false_and] at hm
   show if decide (lo t 0=hi t 0)=true then _ else _
   rw[decide_eq_false z1];exact hm
noncomputable def S_17:DSp:=fun ds M Q E=>∃ d,ds=[d]/\Gd M d/\∀ M',MExt M M'->if XH d=true then Q .non M' else E (.exc "NoTube" .non) M'
noncomputable def C_17:CSs:=%[.ife (.not (.call "is_tied" S_15 %[.var 0|0])) %[.rse "NoTube" %[.str "this is no tied tube"|0]|0] .nil|0]
theorem vc_17:∀ ds M R E,S_17 ds M R E->rSs C_17 (ends R E) (Y1 1 ds) M:=by
 rintro ds M R E ⟨d,rfl,gd,h⟩;simp[0,C_17,rSs,Yn,vAt,vHd,Y9,Yj,Yu,YI,dFor,YO,bMul,bAdd,iOp,sOp,fLen,Y8,Yi,fIsi,fAll,fAny,Yh,and_assoc,sizeLine_eq];refine⟨d,rfl,gd,fun M' e=>?_⟩;have:=h M' e;cases q:XH d<;>simp[q] at this ⊢<;>exact this
theorem Z7 {b t:Nat} (h:b<=t):(((t:Int)-(b:Int):Int):Rat)=(t:Rat)-(b:Rat):=by push_cast;rfl
theorem ZH {i:Int} (h:i.natAbs<128):Sz 7 (i:Rat):=Sz.int (by simpa using h) %[|4]
theorem YR {m n b t:Nat} {h x:Rat} (hx:Sz m x) (hh:Sz n h) (hb:b<t) (ht:t<=100):Sz (m+n+8) (Y3 b h t x):=by
 unfold Y3;have g:=W4 hb;have s:=ZH (i:=(t:Int)-(b:Int)) %[|5];rw[Z7 %[|5]] at s;exact ((hx.sub hh).div s (by grind)).mono %[|5]
noncomputable def S_22:DSp:=fun ds M Q E=>∃ (b t:Nat) (h x:Rat),ds=[.int b,nm h,.int t,nm x]/\b<t/\t<=100/\(∃ m n,Sz m x/\Sz n h/\m+n<=7900)/\Q (nm (Y3 b h t x)) M
noncomputable def C_22:CSs:=%[.ret (.call "parted" S_7 %[.call "taken" S_5 %[.var 3,.var 1|0],.tup %[.bin .Sub (.var 2) (.var 0),.int 1|0]|0])|0]
theorem vc_22:∀ ds M R E,S_22 ds M R E->rSs C_22 (ends R E) (Y1 4 ds) M:=by
 rintro ds M R E ⟨b,t,h,x,rfl,hb,ht,⟨m,n,sx,sh,hl⟩,q⟩;simp[0,C_22,rSs,Yn,vAt,vHd,Y9,Yj,Yu,YI,dFor,YO,bMul,bAdd,iOp,sOp,fLen,Y8,Yi,fIsi,fAll,fAny,Yh,and_assoc,sizeLine_eq];refine⟨x,h,rfl,.mk sx sh %[|5],?_⟩;have g:=W4 hb;have s:=ZH (i:=(t:Int)-(b:Int)) %[|5];rw[Z7 %[|5]] at s;refine⟨x-h,(t:Rat)-(b:Rat),?_,.mk (sx.sub sh) s %[|5],.inl ⟨by grind,q⟩⟩;rw[<- Z7 %[|5],Ao]
noncomputable def NT (t:List (Rat×Rat)) (b:Nat) (h:Rat):Option (Nat×Rat)->Prop
 | none=>b+1=t.length\/∃ la ha SL FH,Scan (lo t) (hi t) b h la ha SL FH t.length
 | some (p,v)=>∃ la ha SL FH e,Scan (lo t) (hi t) b h la ha SL FH e/\e<t.length/\((FH<Y3 b h e (lo t e)/\p=ha/\v=hi t ha)\/(¬ FH<Y3 b h e (lo t e)/\Y3 b h e (hi t e)<SL/\p=la/\v=lo t la))
noncomputable def ntD:Option (Nat×Rat)->Nat->DL.D
 | none,_=>.non
 | some (p,v),e=>.tup [.tup [.int p,nm v],.int e]
structure Places (t:List (Rat×Rat)) (k:Nat):Prop where
 most:t.length<=100
 ok:∀ i,i<t.length->lo t i<=hi t i
 slo:∀ i,i<t.length->Sz k (lo t i)
 shi:∀ i,i<t.length->Sz k (hi t i)
 few:k<=1900
noncomputable def S_23:DSp:=fun ds M Q E=>∃ d t k b h,ds=[d,.int (b:Nat),nm h]/\Sq M d (t.map pl)/\Places t k/\b<t.length/\Sz k h/\∀ res e,NT t b h res->Q (ntD res e) M
noncomputable def C_23:CSs:=%[.ife (.cmp .Eq (.bin .Add (.var 1) (.int 1)) (.bi .len %[.var 0|0])) %[.ret .non|0] .nil,.two (.name 3) (.name 4) (.bin .Add (.var 1) (.int 1)),.set 5 (.call "rise" S_22 %[.var 1,.var 2,.var 3,.ix (.ix (.var 0) (.var 3)) (.int 0)|0]),.set 6 (.call "rise" S_22 %[.var 1,.var 2,.var 4,.ix (.ix (.var 0) (.var 4)) (.int 1)|0]),.fr (.name 7) (.rng %[.bin .Add (.var 1) (.int 2),.bi .len %[.var 0|0]|0]) %[.set 8 (.call "rise" S_22 %[.var 1,.var 2,.var 7,.ix (.ix (.var 0) (.var 7)) (.int 0)|0]),.set 9 (.call "rise" S_22 %[.var 1,.var 2,.var 7,.ix (.ix (.var 0) (.var 7)) (.int 1)|0]),.ife (.call "is_less" S_8 %[.var 6,.var 8|0]) %[.ret (.tup %[.tup %[.var 4,.ix (.ix (.var 0) (.var 4)) (.int 1)|0],.var 7|0])|0] .nil,.ife (.call "is_less" S_8 %[.var 9,.var 5|0]) %[.ret (.tup %[.tup %[.var 3,.ix (.ix (.var 0) (.var 3)) (.int 0)|0],.var 7|0])|0] .nil,.ife (.not (.call "is_less" S_8 %[.var 8,.var 5|0])) %[.par 3 5 (.var 7) (.var 8)|0] .nil,.ife (.not (.call "is_less" S_8 %[.var 6,.var 9|0])) %[.par 4 6 (.var 7) (.var 9)|0] .nil|0],.ret .non|0]
theorem vc_23:∀ ds M R E,S_23 ds M R E->rSs C_23 (ends R E) (Y1 10 ds) M:=by
 rintro ds M R E ⟨d,t,k,b,h,rfl,sq,P,hb,sh,q⟩;have lenD:∀ Q:DK,Q (.int t.length) M->fLen [d] M Q:=fun Q z=>sq.len (by simpa using z);have ix:∀ (i:Nat) (Q:DK),i<t.length->Q (pl (lo t i,hi t i)) M->iOp d (.int i) M Q:=fun i Q hi' z=>sq.ix (Zm (Vw hi')) z;have few:=P.few;unfold C_23;rw[Yr];sleep 2;refine lenD _ (ZP false ?_);by_cases hz:b+1=t.length
 ·refine .inr ⟨?_,?_⟩
  ·have:(b:Int)+1=t.length:=by omega
   simp[this]
  ·sleep 1
   exact q none 0 (.inl hz)
 ·refine .inl ⟨?_,?_⟩
  ·have:¬ (b:Int)+1=t.length:=by omega
   simp[this]
  have hb1:b+1<t.length:=by omega
  have most:=P.most;sleep 1;sleep 1;refine ix (b+1) _ hb1 ?_;refine (Sq.ix (.inl rfl) (Yf _ _) ?_);refine⟨b,b+1,h,lo t (b+1),rfl,by omega,by omega,⟨k,k,P.slo _ hb1,sh,by omega⟩,?_⟩;sleep 1;refine ix (b+1) _ hb1 ?_;refine (Sq.ix (.inl rfl) (Zv _ _ _) ?_);refine⟨b,b+1,h,hi t (b+1),rfl,by omega,by omega,⟨k,k,P.shi _ hb1,sh,by omega⟩,?_⟩;sleep 4;refine lenD _ ⟨by omega,by omega,by omega,by omega,?_⟩;refine YN (fun i δ M'=>M'=M/\∃ (la ha:Nat) (SL FH:Rat) (w7 w8 w9:Option DL.D),δ=[some d,some (.int b),some (nm h),some (.int la),some (.int ha),some (nm SL),some (nm FH),w7,w8,w9]/\Scan (lo t) (hi t) b h la ha SL FH (b+2+i)/\b+2+i<=t.length) (fun _ _ _ _=>trivial) ?_ ?_ ⟨rfl,b+1,b+1,_,_,_,_,_,rfl,Scan.first (P.ok _ hb1),by omega⟩
  ·rintro δ M' ⟨rfl,la,ha,SL,FH,w7,w8,w9,rfl,S,hle⟩
   rw[Xd] at S hle;have e:b+2+((t.length:Int)-((b:Int)+2)).toNat=t.length:=by omega
   rw[e] at S;sleep 1;exact q none 0 (.inr ⟨la,ha,SL,FH,S⟩)
  ·rintro i x hx N hN δ M' ⟨rfl,la,ha,SL,FH,w7,w8,w9,rfl,S,hle⟩
   obtain⟨rfl,hi'⟩:=XU hx;have hbe:b+2+i<t.length:=by omega
   have eI:((b:Int)+2+(i:Int)*1)=((b+2+i:Nat):Int):=by omega
   rw[eI];have sSL:Sz (k+k+8) SL:=by rw[S.laE];exact YR (P.slo _ (by have:=S.la1;omega)) sh S.la0 (by have:=S.la1;omega)
   have sFH:Sz (k+k+8) FH:=by rw[S.haE];exact YR (P.shi _ (by have:=S.ha1;omega)) sh S.ha0 (by have:=S.ha1;omega)
   have sl1:Sz (k+k+8) (Y3 b h (b+2+i) (lo t (b+2+i))):=YR (P.slo _ hbe) sh %[|5] %[|5];have sl2:Sz (k+k+8) (Y3 b h (b+2+i) (hi t (b+2+i))):=YR (P.shi _ hbe) sh %[|5] %[|5];sleep 2;sleep 1;refine ix (b+2+i) _ hbe ?_;refine (Sq.ix (.inl rfl) (Yf _ _) ?_);refine⟨b,b+2+i,h,lo t (b+2+i),rfl,by omega,by omega,⟨k,k,P.slo _ hbe,sh,by omega⟩,?_⟩;sleep 1;refine ix (b+2+i) _ hbe ?_;refine (Sq.ix (.inl rfl) (Zv _ _ _) ?_);refine⟨b,b+2+i,h,hi t (b+2+i),rfl,by omega,by omega,⟨k,k,P.shi _ hbe,sh,by omega⟩,?_⟩;sleep 1;refine⟨FH,_,rfl,.mk sFH sl1 %[|5],?_⟩;by_cases c1:FH<Y3 b h (b+2+i) (lo t (b+2+i))
   ·simp[c1]
    sleep 1;refine ix ha _ (by have:=S.ha1;omega) ?_;refine (Sq.ix (.inl rfl) (Zv _ _ _) ?_);exact q (some (ha,hi t ha)) (b+2+i) ⟨la,ha,SL,FH,_,S,hbe,.inl ⟨c1,rfl,rfl⟩⟩
   ·simp[c1]
    sleep 1;refine⟨_,SL,rfl,.mk sl2 sSL %[|5],?_⟩;by_cases c2:Y3 b h (b+2+i) (hi t (b+2+i))<SL
    ·simp[c2]
     sleep 1;refine ix la _ (by have:=S.la1;omega) ?_;refine (Sq.ix (.inl rfl) (Yf _ _) ?_);exact q (some (la,lo t la)) (b+2+i) ⟨la,ha,SL,FH,_,S,hbe,.inr ⟨c1,c2,rfl,rfl⟩⟩
    ·simp[c2]
     have S':=S.step (P.ok _ hbe) c1 c2;sleep 1;refine⟨_,SL,rfl,.mk sl1 sSL %[|5],?_⟩;by_cases c3:Y3 b h (b+2+i) (lo t (b+2+i))<SL
     ·rw[if_pos c3,if_pos c3] at S'
      simp[c3];sleep 1;refine⟨FH,_,rfl,.mk sFH sl2 %[|5],?_⟩;by_cases c4:FH<Y3 b h (b+2+i) (hi t (b+2+i))
      ·rw[if_pos c4,if_pos c4] at S'
       simp[c4];exact hN _ _ ⟨rfl,_,_,_,_,_,_,_,rfl,S',by omega⟩
      ·rw[if_neg c4,if_neg c4] at S'
       simp[c4];sleep 1;exact hN _ _ ⟨rfl,_,_,_,_,_,_,_,rfl,S',by omega⟩
     ·rw[if_neg c3,if_neg c3] at S'
      simp[c3];sleep 1;sleep 1;refine⟨FH,_,rfl,.mk sFH sl2 %[|5],?_⟩;by_cases c4:FH<Y3 b h (b+2+i) (hi t (b+2+i))
      ·rw[if_pos c4,if_pos c4] at S'
       simp[c4];exact hN _ _ ⟨rfl,_,_,_,_,_,_,_,rfl,S',by omega⟩
      ·rw[if_neg c4,if_neg c4] at S'
       simp[c4];sleep 1;exact hN _ _ ⟨rfl,_,_,_,_,_,_,_,rfl,S',by omega⟩
noncomputable def ri (r:List Rat) (i:Nat):Rat:=r.getD i 0
noncomputable def seg (b p:Nat) (h s:Rat):List Rat:=(List.range (p-b)).map fun i=>line b h s (b+1+i)
theorem UT (b p:Nat) (h s:Rat):(seg b p h s).length=p-b:=by simp[seg]
theorem AS {b t k m:Nat} {h s:Rat} (hh:Sz k h) (hs:Sz m s) (hb:b<=t) (ht:t<=100):Sz (k+m+8) (line b h s t):=by
 unfold line;have s7:=ZH (i:=(t:Int)-(b:Int)) %[|5];rw[Z7 hb] at s7;exact (hh.add (hs.mul s7)).mono %[|5]
noncomputable def S_24:DSp:=fun ds M Q E=>∃ (b p k:Nat) (h v:Rat),ds=[.int b,nm h,.tup [.int p,nm v]]/\b<p/\p<=100/\Sz k h/\Sz k v/\k<=1900 /\
 ∀ q M',M q=none->MExt M M'->M' q=some (.ls ((seg b p h (Y3 b h p v)).map nm))->Q (.lst q) M'
noncomputable def C_24:CSs:=%[.asg (.tup %[.name 3,.name 4|0]) (.var 2),.set 5 (.call "rise" S_22 %[.var 0,.var 1,.var 3,.var 4|0]),.ret (.comp ["begin","height","touch","at","other_height","climb","many"] 1 (.name 6) (.rng %[.int 1,.bin .Add (.bin .Sub (.var 3) (.var 0)) (.int 1)|0]) (.call "added" S_4 %[.var 1,.call "multiplied" S_6 %[.var 5,.tup %[.var 6,.int 1|0]|0]|0]))|0]
theorem vc_24:∀ ds M R E,S_24 ds M R E->rSs C_24 (ends R E) (Y1 6 ds) M:=by
 rintro ds M R E ⟨b,p,k,h,v,rfl,hb,hp,sh,sv,hk,q⟩;unfold C_24;sleep 1;sleep 1;refine⟨b,p,h,v,rfl,hb,hp,⟨k,k,sv,sh,by omega⟩,?_⟩;sleep 1;have ss:=YR sv sh hb hp;refine YB (List.range (p-b)) (fun i=>.int (1+(i:Int))) (fun i=>nm (line b h (Y3 b h p v) (b+1+i))) ?_ (by simp;omega) ?_ ?_
 ·intro R' r
  simp[0,rSs,Yn,vAt,vHd,Y9,Yj,Yu,YI,dFor,YO,bMul,bAdd,iOp,sOp,fLen,Y8,Yi,fIsi,fAll,fAny,Yh,and_assoc,sizeLine_eq,YI];refine⟨by omega,by omega,?_⟩;have e:rngD 1 1 (p-b)=(List.range (p-b)).map fun i=>.int (1+(i:Int)):=by
   unfold rngD;simp
  rw[e];exact r _ fun _ _=>trivial
 ·intro i hi' l M' R' hl e r
  obtain⟨a,rfl⟩:=len1 hl;have hi2:i<p-b:=by simpa using hi'
  sleep 2;have s7:=ZH (i:=1+(i:Int)) %[|5];have en:(D.tup [D.int (1+(i:Int)),D.int 1])=nm ((1+(i:Int):Int):Rat):=(Ao _).symm;refine⟨_,((1+(i:Int):Int):Rat),by rw[en],.mk ss s7 %[|5],?_⟩;refine⟨h,_,rfl,.mk sh (ss.mul s7) %[|5],?_⟩;have el:h+Y3 b h p v*((1+(i:Int):Int):Rat)=line b h (Y3 b h p v) (b+1+i):=by
   unfold line;have:((b+1+i:Nat):Rat)-(b:Rat)=((1+(i:Int):Int):Rat):=by push_cast;grind
   rw[this]
  rw[el];exact r [_] M' rfl (.refl _)
 ·intro q' M' hq e l
  refine q q' M' hq e ?_;rw[l];simp[seg]
structure Told (t:List (Rat×Rat)) (k:Nat) (r:List Rat):Prop where
 len:r.length=t.length
 taut:Taut (lo t) (hi t) (ri r) (t.length-1)
 first:ri r 0=lo t 0
 last:ri r (t.length-1)=lo t (t.length-1)
 sz:∀ x∈r,Sz (3*k+16) x
noncomputable def S_25:DSp:=fun ds M Q E=>∃ d t k,ds=[d]/\Sq M d (t.map pl)/\Places t k/\1<=t.length/\lo t 0=hi t 0/\lo t (t.length-1)=hi t (t.length-1)/\∀ (r:List Rat) M',Told t k r->MExt M M'->Q (rw r) M'
noncomputable def C_25:CSs:=%[.set 1 (.tup %[.bin .Sub (.bi .len %[.var 0|0]) (.int 1),.ix (.ix (.var 0) (.neg (.int 1))) (.int 0)|0]),.set 2 (.lst %[.ix (.ix (.var 0) (.int 0)) (.int 0)|0]),.whl (.cmp .Lt (.bi .len %[.var 2|0]) (.bi .len %[.var 0|0])) %[.par 3 4 (.bin .Sub (.bi .len %[.var 2|0]) (.int 1)) (.ix (.var 2) (.neg (.int 1))),.set 5 (.call "next_touch" S_23 %[.var 0,.var 3,.var 4|0]),.expr (.ext 2 (.call "straight_on" S_24 %[.var 3,.var 4,.ife (.cmp .Is (.var 5) .non) (.var 1) (.ix (.var 5) (.int 0))|0]))|0],.ret (.bi .tuple %[.var 2|0])|0]
theorem Fc {r s:List Rat} {i:Nat} (h:i<r.length):ri (r++s) i=ri r i:=by
 simp only[ri,List.getD];rw[List.getElem?_append_left h]
theorem Jz {r s:List Rat} {i:Nat} (h:r.length<=i):ri (r++s) i=ri s (i-r.length):=by
 simp only[ri,List.getD];rw[List.getElem?_append_right h]
theorem CJ {b p:Nat} {h s:Rat} {i:Nat} (hi':i<p-b):ri (seg b p h s) i=line b h s (b+1+i):=by
 simp[ri,seg,List.getD,hi']
theorem YE {r:List Rat} {i:Nat} (h:i<r.length):ri r i∈r:=by
 simp only[ri,List.getD,List.getElem?_eq_getElem h,Option.getD_some];exact List.getElem_mem h
theorem Ui {r:List Rat} {i:Nat} (h:i<r.length):(r.map nm)[i]?=some (nm (ri r i)):=by
 simp[ri,List.getD,h]
theorem Vh (h:1<=r.length):L2.atI (r.map nm) (-1)=some (nm (ri r (r.length-1))):=by
 have hne:r.map nm≠[]:=by intro z;simp at z;subst z;simp at h
 rw[W8 hne,List.getLast_eq_getElem];have hl':r.length-1<r.length:=by omega
 simp[ri,List.getD,hl']
theorem Fb (hx:x∈seg b p h s):∃ t,b<t/\t<=p/\x=line b h s t:=by
 unfold seg at hx;obtain⟨i,hi',rfl⟩:=List.mem_map.mp hx;have:=List.mem_range.mp hi';exact⟨b+1+i,by omega,by omega,rfl⟩
theorem NT.seg (P:Places t k) (hb:b+1<t.length) (tie:lo t (t.length-1)=hi t (t.length-1)) (N:NT t b h res) :
  ∃ p v,(res.getD (t.length-1,lo t (t.length-1)))=(p,v)/\b<p/\p<t.length/\Sz k v/\Seg (lo t) (hi t) (t.length-1) b h (Y3 b h p v) p/\(p=t.length-1->v=lo t (t.length-1)):=by
 cases res with
 | none =>
  rcases N with N|⟨la,ha,SL,FH,S⟩
  ·omega
  ·refine⟨_,_,rfl,by omega,by omega,P.slo _ %[|5],?_,fun _=>rfl⟩
   have en:t.length=t.length-1+1:=by omega
   rw[en] at S;obtain⟨_,_,e3,e4⟩:=S.fin tie;rw[tie,<- e3];exact e4
 | some pv =>
  obtain⟨p,v⟩:=pv;obtain⟨la,ha,SL,FH,e,S,he,c⟩:=N;rcases c with ⟨c,rfl,rfl⟩|⟨c0,c,rfl,rfl⟩
  ·have:=S.ha0;have:=S.ha1
   refine⟨_,_,rfl,by omega,by omega,P.shi _ %[|5],?_,fun z=>by omega⟩;rw[<- S.haE];exact S.up %[|5] c
  ·have:=S.la0;have:=S.la1
   refine⟨_,_,rfl,by omega,by omega,P.slo _ %[|5],?_,fun z=>by omega⟩;rw[<- S.laE];exact S.down %[|5] c
structure Part (t:List (Rat×Rat)) (k:Nat) (r:List Rat):Prop where
 one:1<=r.length
 le:r.length<=t.length
 drawn:Drawn (lo t) (hi t) (ri r) (t.length-1) (r.length-1)
 first:ri r 0=lo t 0
 szb:Sz k (ri r (r.length-1))
 sz:∀ x∈r,Sz (3*k+16) x
 last:r.length=t.length->ri r (t.length-1)=lo t (t.length-1)
theorem Part.start (P:Places t k) (h1:1<=t.length) (t0:lo t 0=hi t 0):Part t k [lo t 0]:=by
 refine⟨Nat.le_refl 1,h1,.start (by show lo t 0<=lo t 0;grind) (by show lo t 0<=hi t 0;grind),rfl,P.slo 0 %[|5],?_,?_⟩
 ·intro x hx;simp at hx;subst hx;exact (P.slo 0 %[|5]).mono %[|5]
 ·intro z;simp at z;rw[<- z];rfl
theorem Part.next (A:Part t k r) (P:Places t k) (tn:lo t (t.length-1)=hi t (t.length-1)) (hb:r.length-1<p) (hp:p<t.length) (sv:Sz k v)
  (S:Seg (lo t) (hi t) (t.length-1) (r.length-1) (ri r (r.length-1)) (Y3 (r.length-1) (ri r (r.length-1)) p v) p) (he:p=t.length-1->v=lo t (t.length-1)) :
  Part t k (r++seg (r.length-1) p (ri r (r.length-1)) (Y3 (r.length-1) (ri r (r.length-1)) p v))/\(r++seg (r.length-1) p (ri r (r.length-1)) (Y3 (r.length-1) (ri r (r.length-1)) p v)).length=p+1:=by
 have most:=P.most;have a1:=A.one;have szb:=A.szb;generalize hs:Y3 (r.length-1) (ri r (r.length-1)) p v=s at *;generalize hh:ri r (r.length-1)=h at *;have hL:(r++seg (r.length-1) p h s).length=p+1:=by rw[List.length_append,UT];omega
 have low:∀ i,i<=r.length-1->ri (r++seg (r.length-1) p h s) i=ri r i:=fun i hi'=>Fc %[|5];have new:∀ i,r.length-1<i->i<=p->ri (r++seg (r.length-1) p h s) i=line (r.length-1) h s i:=fun i h1 h2=>by
  rw[Jz %[|5],CJ %[|5]]
  congr 1;omega
 have ss:Sz (k+k+8) s:=by rw[<- hs];exact YR sv szb hb %[|5]
 have atp:line (r.length-1) h s p=v:=by rw[<- hs];exact Ym _ _ hb
 refine⟨⟨by omega,by omega,?_,by rw[low 0 %[|5]];exact A.first,?_,?_,?_⟩,hL⟩
 ·rw[hL,Nat.add_sub_cancel]
  have D':=A.drawn.congr (r':=ri (r++seg (r.length-1) p h s)) fun i hi'=>(low i hi').symm;have e0:ri (r++seg (r.length-1) p h s) (r.length-1)=h:=by rw[low _ %[|3]];exact hh
  refine D'.next (s:=s) %[|5] (fun i hi'=>P.ok i %[|5]) tn (by rw[e0];exact S) fun i h1 h2=>?_;rw[e0];exact new i h1 h2
 ·rw[hL,Nat.add_sub_cancel,new p hb %[|3],atp];exact sv
 ·intro x hx
  rcases List.mem_append.mp hx with hx|hx
  ·exact A.sz x hx
  ·obtain⟨i,h1,h2,rfl⟩:=Fb hx
   exact (AS szb ss %[|5] %[|5]).mono %[|5]
 ·intro z
  rw[hL] at z;have hp':p=t.length-1:=by omega
  rw[<- hp',new p hb %[|3],atp,he hp',hp']
noncomputable def TRow (M:Mem) (d:DL.D) (t:List (Rat×Rat)) (k:Nat) (p0:Addr) (m:Nat) (δ:DSt) (M':Mem):Prop :=
 ∃ (r:List Rat) (w3 w4 w5:Option DL.D),MExt M M'/\M' p0=some (.ls (r.map nm))/\Part t k r/\δ=[some d,some (.tup [.int ((t.length:Int)-1),nm (lo t (t.length-1))]),some (.lst p0),w3,w4,w5]/\m=t.length-r.length
theorem vc_25:∀ ds M R E,S_25 ds M R E->rSs C_25 (ends R E) (Y1 6 ds) M:=by
 rintro ds M R E ⟨d,t,k,rfl,sq,P,h1,t0,tn,q⟩;have most:=P.most;have few:=P.few;have lenD:∀ M' (Q:DK),MExt M M'->Q (.int t.length) M'->fLen [d] M' Q:=fun M' Q e z=>(sq.ext e).len (by simpa using z);have ix:∀ M' (i:Nat) (Q:DK),MExt M M'->i<t.length->Q (pl (lo t i,hi t i)) M'->iOp d (.int i) M' Q:=fun M' i Q e hi' z=>(sq.ext e).ix (Zm (Vw hi')) z;have ixl:∀ (Q:DK),Q (pl (lo t (t.length-1),hi t (t.length-1))) M->iOp d (.int (-1)) M Q:=fun Q z=>by
  refine sq.ix ?_ z;have hne:t.map pl≠[]:=by intro z;simp at z;subst z;simp at h1
  rw[W8 hne];have:=Vw (t:=t) (i:=t.length-1) %[|5];rw[List.getElem?_eq_getElem (by simp;omega)] at this;simp only[Option.some.injEq] at this;rw[<- this];simp[List.getLast_eq_getElem]
 unfold C_25;sleep 1;refine lenD M _ (.refl M) ?_;refine ixl _ ?_;refine Sq.ix (.inl rfl) (Yf _ _) ?_;sleep 1;refine ix M 0 _ (.refl M) %[|5] ?_;refine Sq.ix (.inl rfl) (Yf _ _) ?_;intro p0 M0 e0 x0 l0
 (try dsimp only);rw[Yr];simp[0,Yn,vAt,vHd,Y9,Yj,bMul,bAdd,sOp,Y8,Yi,fIsi,Yh,and_assoc,sizeLine_eq,Yq,Ja]
 refine⟨TRow M d t k p0,⟨_,[lo t 0],none,none,none,x0,l0,.start P h1 t0,rfl,rfl⟩,?_⟩;rintro m δ M1 ⟨r,w3,w4,w5,x1,l1,A,rfl,rfl⟩;have a1:=A.one;have a2:=A.le;have hlen:∀ (Q:DK),Q (.int r.length) M1->fLen [.lst p0] M1 Q:=fun Q z=>Sq.len (.inr (.inr ⟨p0,rfl,l1⟩)) (by simpa using z);sleep 2;refine hlen _ ?_;refine lenD M1 _ x1 ?_;by_cases hz:r.length<t.length
 ·simp[hz]
  refine⟨fun δ' M'=>∃ m',m'<t.length-r.length/\TRow M d t k p0 m' δ' M',fun _ _ z=>z,?_⟩;sleep 1;refine hlen _ ?_;refine Sq.ix (.inr (.inr ⟨p0,rfl,l1⟩)) (Vh a1) ?_;have eb:((r.length:Int)-1)=((r.length-1:Nat):Int):=by omega
  rw[eb];sleep 1;refine⟨d,t,k,r.length-1,ri r (r.length-1),rfl,sq.ext x1,P,by omega,A.szb,fun res e' N=>?_⟩;obtain⟨p,v,e1,hbp,hpt,sv,S,hend⟩:=N.seg P %[|5] tn;obtain⟨B,hL⟩:=A.next P tn hbp hpt sv S hend;sleep 1;have fin:∀ (w3 w4 w5:Option DL.D) q' M',M1 q'=none->MExt M1 M'->M' q'=some (.ls ((seg (r.length-1) p (ri r (r.length-1)) (Y3 (r.length-1) (ri r (r.length-1)) p v)).map nm)) ->
    ∃ b,DL.D.lst q'=.lst b/\∃ xs,M' p0=some (.ls xs)/\∃ zs,M' b=some (.ls zs)/\xs.length+zs.length<=16777216/\∃ m',m'<t.length-r.length/\TRow M d t k p0 m' [some d,some (.tup [.int ((t.length:Int)-1),nm (lo t (t.length-1))]),some (.lst p0),w3,w4,w5] (M'.upd p0 (.ls (xs++zs))):=fun w3 w4 w5 q' M' n1 x2 l2=>by
   refine⟨q',rfl,_,x2 _ _ l1,_,l2,?_,t.length-(p+1),by omega,_,w3,w4,w5,MExt.upd_new e0 (x1.trans x2),mupd_same.trans (by rw[<- List.map_append]),B,rfl,by rw[hL]⟩;simp only[List.length_map,UT];omega
  cases res with
  | none =>
   simp only[Option.getD_none,Prod.mk.injEq] at e1;obtain⟨rfl,rfl⟩:=e1;refine⟨⟨_,l1⟩,?_⟩;refine Or.inr ⟨rfl,r.length-1,t.length-1,k,ri r (r.length-1),lo t (t.length-1),?_,hbp,by omega,A.szb,sv,P.few,fin _ _ _⟩;rw[show ((t.length:Int)-1)=((t.length-1:Nat):Int) by omega]
  | some pv =>
   simp only[Option.getD_some] at e1;subst e1;refine⟨⟨_,l1⟩,?_⟩;refine Or.inl ⟨rfl,Sq.ix (.inl rfl) (Yf _ _) ?_⟩;exact⟨r.length-1,p,k,ri r (r.length-1),v,rfl,hbp,by omega,A.szb,sv,P.few,fin _ _ _⟩
 ·simp[hz]
  have el:r.length=t.length:=by omega
  sleep 1;refine⟨_,l1,?_⟩;refine q r M1 ⟨el,?_,A.first,A.last el,A.sz⟩ x1;have D:=A.drawn;rw[el] at D;exact D.taut
structure Fine (t:List (Rat×Rat)) (k:Nat):Prop where
 tube:Tube t
 tie:tied t=true
 slo:∀ i,i<t.length->Sz k (lo t i)
 shi:∀ i,i<t.length->Sz k (hi t i)
 few:k<=1900
theorem Fine.places (F:Fine t k):Places t k:=by
 refine⟨by have:=F.tube.most;omega,fun i hi'=>?_,F.slo,F.shi,F.few⟩;have:=F.tube.ok (t[i]) (List.getElem_mem hi')
 simpa[lo,hi,List.getD,hi'] using this
theorem Fine.gd (F:Fine t k):Gd M (tb t):=by
 refine .mk fun d hd=>?_;obtain⟨p,hp,rfl⟩:=List.mem_map.mp hd;obtain⟨i,hi',rfl⟩:=List.getElem_of_mem hp;have a:=F.slo i hi';have b:=F.shi i hi';have few:=F.few;simp[lo,hi,List.getD,hi'] at a b;refine .mk fun e he=>?_;simp at he;rcases he with rfl|rfl
 ·exact .nm a %[|5]
 ·exact .nm b %[|5]
noncomputable def S_26:DSp:=fun ds M Q E=>∃ d,ds=[d]/\Gd M d/\(XH d=false/\(∀ M',MExt M M'->E (.exc "NoTube" .non) M')\/∃ t k,d=tb t/\Fine t k/\∀ (r:List Rat) M',Told t k r->MExt M M'->Q (rw r) M')
noncomputable def C_26:CSs:=%[.expr (.call "want_tied" S_17 %[.var 0|0]),.ret (.call "taut_row" S_25 %[.var 0|0])|0]
theorem vc_26:∀ ds M R E,S_26 ds M R E->rSs C_26 (ends R E) (Y1 1 ds) M:=by
 rintro ds M R E ⟨d,rfl,gd,h⟩;unfold C_26;sleep 1;refine⟨d,rfl,gd,fun M1 x1=>?_⟩;rcases h with ⟨h,q⟩|⟨t,k,rfl,F,q⟩
 ·rw[h,if_neg %[|4]];exact q M1 x1
 ·rw[Up F.tube,F.tie,if_pos rfl]
  sleep 1;have two:=F.tube.two;have ti:=F.tie;unfold tied at ti;simp at ti;exact⟨_,t,k,rfl,.inl rfl,F.places,by omega,ti.1,ti.2,fun r M2 T x2=>q r M2 T (x1.trans x2)⟩
noncomputable def Pk (M:Mem) (a:Addr):Prop:=∃ v:Int,M a=some (.ls [.int v])
structure Dr (a:Addr) (M M':Mem):Prop where
 pk:Pk M' a
 keep:∀ b o,b≠a->M b=some o->M' b=some o
theorem Dr.take:Dr a M (M.upd a (.ls [.int v])):=⟨⟨v,mupd_same⟩,fun b o h e=>by rw[Z8 h];exact e⟩
theorem Pk.ext (p:Pk M a) (e:MExt M M'):Pk M' a:=by obtain⟨v,h⟩:=p;exact⟨v,e _ _ h⟩
theorem Dr.ext (p:Pk M a) (e:MExt M M'):Dr a M M':=⟨p.ext e,fun b o _ h=>e b o h⟩
theorem Dr.trans (x:Dr a M M1) (y:Dr a M1 M2):Dr a M M2:=⟨y.pk,fun b o h e=>y.keep b o h (x.keep b o h e)⟩
theorem Pk.ne (k:Pk M a) (h:M p=none):p≠a:=fun z=>by obtain⟨v,e⟩:=k;rw[z,e] at h;cases h
theorem Dr.upd_new (x:Dr a M M') (h:M p=none) (hp:p≠a):Dr a M (M'.upd p o):=by
 obtain⟨v,e⟩:=x.pk;refine⟨⟨v,by rw[Z8 hp.symm];exact e⟩,fun b u hb e'=>?_⟩;have:b≠p:=fun z=>by rw[z,h] at e';cases e'
 rw[Z8 this];exact x.keep b u hb e'
theorem WO {n:Nat} (h:n<2 ^ 200):n<2 ^ 8000:=Nat.lt_of_lt_of_le h (Xm %[|4])
theorem YK {a:Addr} {n:Int} {M:Mem} {Q E:DK} (p:Pk M a) (hn:0<n) (hn2:n.natAbs<2 ^ 200) (q:∀ (r:Int) M',0<=r->r<n->Dr a M M'->Q (.int r) M'):S_50 [.lst a,.int n] M Q E:=by
 obtain⟨v,h⟩:=p;exact⟨a,n,v,rfl,h,hn,WO hn2,fun r v' h0 h1=>q r _ h0 h1 .take⟩
theorem UZ:(D.tup [D.int 0,D.int 1])=nm 0:=rfl
theorem nm_i (i:Int):(D.tup [D.int i,D.int 1])=nm (i:Rat):=(Ao i).symm
theorem YZ (l:M p=some (.ls xs)) (e:L2.atI xs i=some v) (q:Q v M):iOp (.lst p) (.int i) M Q:=⟨xs,v,l,e,q⟩
theorem AJ (h0:0<=r) (h1:r<xs.length):∃ v,v∈xs/\L2.atI xs r=some v:=by
 obtain⟨n,rfl⟩:=Int.eq_ofNat_of_zero_le h0;have hn:n<xs.length:=by omega
 exact⟨xs[n],List.getElem_mem hn,Zm (List.getElem?_eq_getElem hn)⟩
theorem divInt_nonneg (ha:0<=a) (hb:0<=b):0<=Rat.divInt a b:=by
 exact Rat.divInt_nonneg ha hb
noncomputable def S_56:DSp:=fun ds M Q E=>∃ a w,ds=[.lst a,.int w]/\Pk M a/\0<=w/\w<1000/\∀ q M',0<=q->Sz 12 q->Dr a M M'->Q (nm q) M'
noncomputable def C_56:CSs:=%[.set 2 (.call "_law_take" S_50 %[.var 0,.int 4|0]),.ife (.cmp .Eq (.var 2) (.int 0)) %[.ret (.tup %[.int 0,.int 1|0])|0] .nil,.ret (.call "_law_low" S_51 %[.call "_law_take" S_50 %[.var 0,.bin .Add (.var 1) (.int 1)|0],.ix (.lst %[.int 1,.int 1,.int 1,.int 2|0]) (.var 2)|0])|0]
theorem vc_56:∀ ds M R E,S_56 ds M R E->rSs C_56 (ends R E) (Y1 3 ds) M:=by
 rintro ds M R E ⟨a,w,rfl,p,w0,w1,q⟩;unfold C_56;sleep 1;refine YK p %[|4] %[|4] fun r M1 r0 r1 y1=>?_;sleep 1;refine ZP false ?_;by_cases hr:r=0
 ·simp[hr]
  sleep 1;rw[UZ];exact q 0 M1 %[|4] ⟨by decide,by decide⟩ y1
 ·simp[hr]
  sleep 1;refine YK y1.pk %[|5] (Nat.lt_of_lt_of_le (show (w+1).natAbs<2 ^ 10 by omega) (Xm %[|4])) fun v M2 v0 v1 y2=>?_;intro p0 M3 e0 x3 l3;obtain⟨z,hz,hv⟩:=AJ (xs:=[D.int 1,D.int 1,D.int 1,D.int 2]) r0 (by simpa using r1);refine YZ l3 hv ?_;have fin:∀ b:Int,(b=1\/b=2)->R (nm (Rat.divInt v b)) M3:=fun b hb=>by
   refine q _ M3 (divInt_nonneg v0 %[|5]) (ZE %[|5] %[|5] %[|5]) (y1.trans (y2.trans (.ext y2.pk x3)))
  simp at hz;rcases hz with rfl|rfl|rfl|rfl<;>exact⟨_,_,rfl,by decide,WO %[|4],fin _ %[|5]⟩
structure Box (t:List (Rat×Rat)) (k:Nat):Prop where
 ok:∀ p∈t,p.1<=p.2
 lo:∀ p∈t,Sz k p.1
 hi:∀ p∈t,Sz k p.2
theorem Box.nil:Box [] k:=⟨nofun,nofun,nofun⟩
theorem Box.add (b:Box t k) (h:p.1<=p.2) (s1:Sz k p.1) (s2:Sz k p.2):Box (t++[p]) k:=by
 refine⟨fun x hx=>?_,fun x hx=>?_,fun x hx=>?_⟩<;>rcases List.mem_append.mp hx with hx|hx
 ·exact b.ok x hx
 ·simp at hx;subst hx;exact h
 ·exact b.lo x hx
 ·simp at hx;subst hx;exact s1
 ·exact b.hi x hx
 ·simp at hx;subst hx;exact s2
noncomputable def LT (M:Mem) (a p:Addr) (m w:Int) (i:Nat) (δ:DSt) (M':Mem):Prop :=
 ∃ (z:Int) (t:List (Rat×Rat)) (w5:Option DL.D),Dr a M M'/\M' p=some (.ls (t.map pl))/\t.length=i/\z.natAbs<=3*i/\Box t 24/\δ=[some (.lst a),some (.int m),some (.int w),some (nm (z:Rat)),some (.lst p),w5]
noncomputable def mid {α:Type} (t:List α):List α:=(t.drop 1).take (t.length-2)
theorem EZ (h:2<=n):HT.sIx n 0 (some 1)=1:=by
 rw[show (1:Int)=((1:Nat):Int) from rfl,HT.sIx_nat];omega
theorem Ge (t:List α) (f:α->β) (h:2<=t.length):cutG (t.map f) (some 1) (some (-1))=(mid t).map f:=by
 unfold cutG mid;have e1:HT.sIx (t.map f).length 0 (some 1)=1:=EZ (by simp;omega);have e2:HT.sIx (t.map f).length (t.map f).length (some (-1))=t.length-1:=by
  show (if (-1:Int)<0 then ((-1:Int)+((t.map f).length:Int)).toNat else min (-1:Int).toNat (t.map f).length)=_;rw[if_pos %[|4],List.length_map];omega
 rw[e1,e2,List.map_take,List.map_drop]
 rfl
theorem J4 (h:x∈mid t):x∈t:=List.mem_of_mem_drop (List.mem_of_mem_take h)
theorem Xo (t:List α):(mid t).length=t.length-2:=by unfold mid;simp;omega
noncomputable def tieT (f l:Rat) (t:List (Rat×Rat)):List (Rat×Rat):=(f,f)::(mid t++[(l,l)])
theorem Jo (h:2<=t.length):(tieT f l t).length=t.length:=by
 unfold tieT;simp[Xo];omega
theorem BA (B:Box t k) (h:2<=t.length) (h2:t.length<=25) (sf:Sz k f) (sl:Sz k l) (few:k<=1900):Fine (tieT f l t) k:=by
 have L:=Jo (f:=f) (l:=l) h;have mem:∀ p∈tieT f l t,p=(f,f)\/p∈t\/p=(l,l):=fun p hp=>by
  unfold tieT at hp;rcases List.mem_cons.mp hp with hp|hp
  ·exact .inl hp
  ·rcases List.mem_append.mp hp with hp|hp
   ·exact .inr (.inl (J4 hp))
   ·simp at hp;exact .inr (.inr hp)
 have s1:∀ p∈tieT f l t,Sz k p.1/\Sz k p.2:=fun p hp=>by
  rcases mem p hp with rfl|hp|rfl
  ·exact⟨sf,sf⟩
  ·exact⟨B.lo p hp,B.hi p hp⟩
  ·exact⟨sl,sl⟩
 refine⟨⟨by omega,by omega,fun p hp=>?_⟩,?_,fun i hi'=>?_,fun i hi'=>?_,few⟩
 ·rcases mem p hp with rfl|hp|rfl
  ·show f<=f;grind
  ·exact B.ok p hp
  ·show l<=l;grind
 ·unfold tied
  have e0:lo (tieT f l t) 0=hi (tieT f l t) 0:=rfl;have e1:(tieT f l t).getD ((tieT f l t).length-1) (0,0)=(l,l):=by
   rw[L];unfold tieT;obtain⟨n,hn⟩:∃ n,t.length=n+2:=⟨t.length-2,by omega⟩;have e:t.length-1=(mid t).length+1:=by rw[Xo];omega
   rw[e];simp[List.getD]
  simp only[e0,decide_true,Bool.true_and,decide_eq_true_eq];unfold lo hi;rw[e1]
 ·have:=s1 _ (List.getElem_mem hi')
  simp only[lo,List.getD,List.getElem?_eq_getElem hi',Option.getD_some];exact this.1
 ·have:=s1 _ (List.getElem_mem hi')
  simp only[hi,List.getD,List.getElem?_eq_getElem hi',Option.getD_some];exact this.2
theorem ET (f l:Rat) (t:List (Rat×Rat)):D.tup (D.tup [nm f,nm f]::((mid t).map pl++[D.tup [nm l,nm l]]))=tb (tieT f l t):=by
 unfold tieT tb;simp[pl]
theorem EU (h:1<=t.length):L2.atI (t.map pl) (-1)=some (pl (lo t (t.length-1),hi t (t.length-1))):=by
 have hne:t.map pl≠[]:=by intro z;simp at z;subst z;simp at h
 rw[W8 hne];have:=Vw (t:=t) (i:=t.length-1) %[|5];rw[List.getElem?_eq_getElem (by simp;omega)] at this;simp only[Option.some.injEq] at this;rw[<- this];simp[List.getLast_eq_getElem]
theorem Box.sz (B:Box t k) (h:i<t.length):Sz k (K.lo t i)/\Sz k (K.hi t i):=by
 have a:=B.lo _ (List.getElem_mem h);have b:=B.hi _ (List.getElem_mem h);simp only[K.lo,K.hi,List.getD,List.getElem?_eq_getElem h,Option.getD_some];exact⟨a,b⟩
noncomputable def Vv (s:Rat) (p:Nat) (v:Rat):DL.D:=.tup [nm s,.int p,nm v]
end K
end
set_option bootstrap.genMatcherCode true
local macro_rules
 | `(tactic| sleep 6)=>`(tactic| ((try dsimp only);rw[Yr];(try dsimp only[0,Yn,vAt,vHd,List.set_cons_succ,List.set_cons_zero,List.cons_append,List.nil_append,List.map,List.length_cons,List.length_nil,Nat.reduceAdd,Nat.reduceSub,List.replicate_succ,List.replicate_zero,Y9,Yj,bMul,bAdd,sOp,Y8,Yi,fIsi,Yh]);try simp[0,Yn,vAt,vHd,Y9,Yj,bMul,bAdd,sOp,Y8,Yi,fIsi,Yh,and_assoc,sizeLine_eq,Yq,cIs,Vv]))
set_option bootstrap.genMatcherCode false
noncomputable section
namespace K
open PySem DL Q
noncomputable def Yt (r:List Rat):List Rat:=(List.range (r.length-1)).map fun i=>ri r (i+1)-ri r i
theorem BD (r:List Rat):(Yt r).length=r.length-1:=by simp[Yt]
theorem Wq (h:i+1<r.length):ri (Yt r) i=ri r (i+1)-ri r i:=by
 have:i<r.length-1:=by omega
 simp[ri,Yt,List.getD,this]
theorem Uh {r:List Rat} {i:Nat} {M:Mem} {Q:DK} (h:i<r.length) (q:Q (nm (ri r i)) M):iOp (rw r) (.int i) M Q:=Sq.ix (.inl rfl) (Zm (Ui h)) q
theorem AQ {t:List (Rat×Rat)} {i:Nat} {M:Mem} {Q:DK} (h:i<t.length) (q:Q (pl (lo t i,hi t i)) M):iOp (tb t) (.int i) M Q:=Sq.ix (.inl rfl) (Zm (Vw h)) q
theorem CF (q:Q (.int r.length) M):fLen [rw r] M Q:=Sq.len (.inl rfl) (by simpa using q)
theorem Ct (q:Q (.int t.length) M):fLen [tb t] M Q:=Sq.len (.inl rfl) (by simpa using q)
theorem Uj {t:List (Rat×Rat)} {i:Nat} {M:Mem} {Q:DK} (h:i<t.length) (q:Q (nm (lo t i)) M):iOp (tb t) (.int i) M fun x M1=>iOp x (.int 0) M1 Q:=AQ h (Sq.ix (.inl rfl) (Yf _ _) q)
theorem D7 {t:List (Rat×Rat)} {i:Nat} {M:Mem} {Q:DK} (h:i<t.length) (q:Q (nm (hi t i)) M):iOp (tb t) (.int i) M fun x M1=>iOp x (.int 1) M1 Q:=AQ h (Sq.ix (.inl rfl) (Zv _ _ _) q)
noncomputable def S_59:DSp:=fun ds M Q E=>∃ r k,ds=[rw r]/\(∀ x∈r,Sz k x)/\k<=3900/\1<=r.length/\r.length<=100/\∀ M',MExt M M'->Q (rw (Yt r)) M'
noncomputable def C_59:CSs:=%[.ret (.bi .tuple %[.comp ["_law_row","_law_k"] 1 (.name 1) (.rng %[.bin .Sub (.bi .len %[.var 0|0]) (.int 1)|0]) (.call "_law_less_by" S_53 %[.ix (.var 0) (.bin .Add (.var 1) (.int 1)),.ix (.var 0) (.var 1)|0])|0])|0]
theorem vc_59:∀ ds M R E,S_59 ds M R E->rSs C_59 (ends R E) (Y1 1 ds) M:=by
 rintro ds M R E ⟨r,k,rfl,sz,hk,h1,h2,q⟩;unfold C_59;sleep 1;refine YB (List.range (r.length-1)) (fun i=>.int (i:Int)) (fun i=>nm (ri r (i+1)-ri r i)) ?_ (by simp;omega) ?_ ?_
 ·intro R' r'
  simp[0,Yn,vAt,vHd,Y9,Yj,bMul,bAdd,sOp,Y8,Yi,fIsi,Yh,and_assoc,sizeLine_eq,Yq,YI];refine CF ?_;have e:rngD 0 1 (r.length-1)=(List.range (r.length-1)).map fun i=>.int (i:Int):=by
   unfold rngD;simp
  refine⟨by omega,by omega,?_⟩;rw[show ((r.length:Int)-1).toNat=r.length-1 by omega,e];exact r' _ fun _ _=>trivial
 ·intro i hi' l M' R' hl e r'
  obtain⟨a,rfl⟩:=len1 hl;have hi2:i<r.length-1:=by simpa using hi'
  sleep 2;refine Uh (i:=i+1) %[|5] ?_;refine Uh (i:=i) %[|5] ?_;refine⟨_,_,rfl,.mk (sz _ (YE %[|5])) (sz _ (YE %[|5])) %[|5],?_⟩;exact r' [_] M' rfl (.refl _)
 ·intro p M' hp e l
  refine⟨_,l,?_⟩;have:=q M' e
  simpa[rw,Yt,Function.comp_def] using this
noncomputable def S_60:DSp:=fun ds M Q E=>∃ (b t:Nat) (h x:Rat),ds=[nm h,.int b,nm x,.int t]/\b<t/\t<=100/\(∃ m n,Sz m x/\Sz n h/\m+n<=7900)/\Q (nm (Y3 b h t x)) M
noncomputable def C_60:CSs:=%[.ret (.call "_law_by" S_54 %[.call "_law_less_by" S_53 %[.var 2,.var 0|0],.tup %[.int 1,.bin .Sub (.var 3) (.var 1)|0]|0])|0]
theorem vc_60:∀ ds M R E,S_60 ds M R E->rSs C_60 (ends R E) (Y1 4 ds) M:=by
 rintro ds M R E ⟨b,t,h,x,rfl,hb,ht,⟨m,n,sx,sh,hl⟩,q⟩;unfold C_60;sleep 1;refine⟨x,h,rfl,.mk sx sh %[|5],?_⟩;have g:=W4 hb;refine⟨x-h,1,(t:Int)-(b:Int),rfl,by omega,⟨m+n+1,8,sx.sub sh,by decide,by omega,by omega⟩,?_⟩;have e:(x-h)*Rat.divInt 1 ((t:Int)-(b:Int))=Y3 b h t x:=by
  unfold Y3;rw[Rat.divInt_eq_div,Z7 %[|5]];have:((1:Int):Rat)=1:=rfl;rw[this];grind
 rw[e];exact q
noncomputable def S_61:DSp:=fun ds M Q E=>∃ t k b h,ds=[tb t,.int (b:Nat),nm h]/\Places t k/\b+1<t.length/\Sz k h/\lo t (t.length-1)=hi t (t.length-1) /\
 ∀ p v,b<p->p<t.length->Sz k v->Seg (lo t) (hi t) (t.length-1) b h (Y3 b h p v) p->(p=t.length-1->v=lo t (t.length-1))->Q (Vv (Y3 b h p v) p v) M
noncomputable def LN (M:Mem) (t:List (Rat×Rat)) (b:Nat) (h:Rat) (i:Nat) (δ:DSt) (M':Mem):Prop :=
 M'=M/\∃ w5 w6 w7 d3 d4,δ=[some (tb t),some (.int b),some (nm h),some d3,some d4,w5,w6,w7] /\
  (i=0/\d3=.non/\d4=.non\/∃ la ha SL FH,0<i/\d3=Vv FH ha (hi t ha)/\d4=Vv SL la (lo t la)/\Scan (lo t) (hi t) b h la ha SL FH (b+1+i)/\b+1+i<=t.length)
noncomputable def C_61:CSs:=%[.set 3 .non,.set 4 .non,.fr (.name 5) (.rng %[.bin .Add (.var 1) (.int 1),.bi .len %[.var 0|0]|0]) %[.set 6 (.call "_law_slope" S_60 %[.var 2,.var 1,.ix (.ix (.var 0) (.var 5)) (.int 0),.var 5|0]),.set 7 (.call "_law_slope" S_60 %[.var 2,.var 1,.ix (.ix (.var 0) (.var 5)) (.int 1),.var 5|0]),.ife (.and (.cmp .IsNot (.var 3) .non) (.one (.call "_law_under" S_55 %[.ix (.var 3) (.int 0),.var 6|0]))) %[.ret (.var 3)|0] .nil,.ife (.and (.cmp .IsNot (.var 4) .non) (.one (.call "_law_under" S_55 %[.var 7,.ix (.var 4) (.int 0)|0]))) %[.ret (.var 4)|0] .nil,.ife (.or (.cmp .Is (.var 3) .non) (.one (.not (.call "_law_under" S_55 %[.ix (.var 3) (.int 0),.var 7|0])))) %[.set 3 (.tup %[.var 7,.var 5,.ix (.ix (.var 0) (.var 5)) (.int 1)|0])|0] .nil,.ife (.or (.cmp .Is (.var 4) .non) (.one (.not (.call "_law_under" S_55 %[.var 6,.ix (.var 4) (.int 0)|0])))) %[.set 4 (.tup %[.var 6,.var 5,.ix (.ix (.var 0) (.var 5)) (.int 0)|0])|0] .nil|0],.ret (.var 3)|0]
theorem vc_61:∀ ds M R E,S_61 ds M R E->rSs C_61 (ends R E) (Y1 8 ds) M:=by
 rintro ds M R E ⟨t,k,b,h,rfl,P,hb,sh,tie,q⟩;have most:=P.most;have few:=P.few;unfold C_61;sleep 1;sleep 1;sleep 4;refine Ct ?_;refine⟨by omega,by omega,by omega,by omega,?_⟩;refine YN (LN M t b h) (fun _ _ _ _=>trivial) ?_ ?_ ⟨rfl,_,_,_,_,_,rfl,.inl ⟨rfl,rfl,rfl⟩⟩
 ·rintro δ M' ⟨rfl,w5,w6,w7,d3,d4,rfl,c⟩
  rw[Xd] at c;rcases c with ⟨c,_⟩|⟨la,ha,SL,FH,_,rfl,rfl,S,_⟩
  ·omega
  sleep 1;have e:b+1+((t.length:Int)-((b:Int)+1)).toNat=t.length-1+1:=by omega
  rw[e] at S;obtain⟨rfl,_,e3,e4⟩:=S.fin tie;rw[e3] at e4 ⊢;exact q _ _ %[|5] %[|5] (P.shi _ %[|5]) e4 fun _=>tie.symm
 ·rintro i x hx N hN δ M' ⟨rfl,w5,w6,w7,d3,d4,rfl,c⟩
  obtain⟨rfl,hi'⟩:=XU hx;have eI:((b:Int)+1+(i:Int)*1)=((b+1+i:Nat):Int):=by omega
  rw[eI];have hbe:b+1+i<t.length:=by omega
  have sl1:Sz (k+k+8) (Y3 b h (b+1+i) (lo t (b+1+i))):=YR (P.slo _ hbe) sh %[|5] %[|5];have sl2:Sz (k+k+8) (Y3 b h (b+1+i) (hi t (b+1+i))):=YR (P.shi _ hbe) sh %[|5] %[|5];sleep 2;sleep 1;refine Uj (i:=b+1+i) hbe ?_;refine⟨b,b+1+i,h,lo t (b+1+i),rfl,by omega,by omega,⟨k,k,P.slo _ hbe,sh,by omega⟩,?_⟩;sleep 1;refine D7 (i:=b+1+i) hbe ?_;refine⟨b,b+1+i,h,hi t (b+1+i),rfl,by omega,by omega,⟨k,k,P.shi _ hbe,sh,by omega⟩,?_⟩;rcases c with ⟨rfl,rfl,rfl⟩|⟨la,ha,SL,FH,i0,rfl,rfl,S,_⟩
  ·sleep 6
   sleep 6;sleep 6;sleep 6;refine D7 (i:=b+1) %[|5] ?_;sleep 6;sleep 6;refine Uj (i:=b+1) %[|5] ?_;exact hN _ _ ⟨rfl,_,_,_,_,_,rfl,.inr ⟨b+1,b+1,_,_,by omega,rfl,rfl,Scan.first (P.ok _ hbe),by omega⟩⟩
  ·have sSL:Sz (k+k+8) SL:=by rw[S.laE];exact YR (P.slo _ (by have:=S.la1;omega)) sh S.la0 (by have:=S.la1;omega)
   have sFH:Sz (k+k+8) FH:=by rw[S.haE];exact YR (P.shi _ (by have:=S.ha1;omega)) sh S.ha0 (by have:=S.ha1;omega)
   sleep 6;refine Sq.ix (.inl rfl) (Yf _ _) ?_;refine⟨FH,_,rfl,.mk sFH sl1 %[|5],?_⟩;by_cases c1:FH<Y3 b h (b+1+i) (lo t (b+1+i))
   ·simp[c1]
    sleep 6;have sg:=S.up (n:=t.length-1) %[|5] c1;have:=S.ha0;have:=S.ha1;have fe:=S.haE;rw[fe] at sg ⊢;exact q ha (hi t ha) %[|5] %[|5] (P.shi _ %[|5]) sg fun z=>by omega
   ·simp[c1]
    sleep 6;refine Sq.ix (.inl rfl) (Yf _ _) ?_;refine⟨_,SL,rfl,.mk sl2 sSL %[|5],?_⟩;by_cases c2:Y3 b h (b+1+i) (hi t (b+1+i))<SL
    ·simp[c2]
     sleep 6;have sg:=S.down (n:=t.length-1) %[|5] c2;have:=S.la0;have:=S.la1;have fe:=S.laE;rw[fe] at sg ⊢;exact q la (lo t la) %[|5] %[|5] (P.slo _ %[|5]) sg fun z=>by omega
    ·simp[c2]
     have S':=S.step (P.ok _ hbe) c1 c2;sleep 6;refine Sq.ix (.inl rfl) (Yf _ _) ?_;refine⟨FH,_,rfl,.mk sFH sl2 %[|5],?_⟩;by_cases c4:FH<Y3 b h (b+1+i) (hi t (b+1+i))
     ·rw[if_pos c4,if_pos c4] at S'
      simp[c4];sleep 6;refine Sq.ix (.inl rfl) (Yf _ _) ?_;refine⟨_,SL,rfl,.mk sl1 sSL %[|5],?_⟩;by_cases c3:Y3 b h (b+1+i) (lo t (b+1+i))<SL
      ·rw[if_pos c3,if_pos c3] at S'
       simp[c3];exact hN _ _ ⟨rfl,_,_,_,_,_,rfl,.inr ⟨_,_,_,_,by omega,rfl,rfl,S',by omega⟩⟩
      ·rw[if_neg c3,if_neg c3] at S'
       simp[c3];sleep 6;refine Uj (i:=b+1+i) hbe ?_;exact hN _ _ ⟨rfl,_,_,_,_,_,rfl,.inr ⟨_,_,_,_,by omega,rfl,rfl,S',by omega⟩⟩
     ·rw[if_neg c4,if_neg c4] at S'
      simp[c4];sleep 6;refine D7 (i:=b+1+i) hbe ?_;sleep 6;refine Sq.ix (.inl rfl) (Yf _ _) ?_;refine⟨_,SL,rfl,.mk sl1 sSL %[|5],?_⟩;by_cases c3:Y3 b h (b+1+i) (lo t (b+1+i))<SL
      ·rw[if_pos c3,if_pos c3] at S'
       simp[c3];exact hN _ _ ⟨rfl,_,_,_,_,_,rfl,.inr ⟨_,_,_,_,by omega,rfl,rfl,S',by omega⟩⟩
      ·rw[if_neg c3,if_neg c3] at S'
       simp[c3];sleep 6;refine Uj (i:=b+1+i) hbe ?_;exact hN _ _ ⟨rfl,_,_,_,_,_,rfl,.inr ⟨_,_,_,_,by omega,rfl,rfl,S',by omega⟩⟩
theorem CD (b i:Nat) (h s:Rat):seg b (b+(i+1)) h s=seg b (b+i) h s++[line b h s (b+1+i)]:=by
 unfold seg;rw[show b+(i+1)-b=i+1 by omega,show b+i-b=i by omega,List.range_succ,List.map_append]
 rfl
theorem Ju (b:Nat) (h s:Rat):seg b (b+0) h s=[]:=by
 unfold seg;rw[show b+0-b=0 by omega];rfl
theorem Xj (h:r.length=r'.length) (e:∀ i,i<r.length->ri r i=ri r' i):r=r':=by
 refine List.ext_getElem h fun i h1 h2=>?_;have:=e i h1
 simpa[ri,List.getD,h1,h2] using this
theorem Told.unique (T:Told t k r) (T':Told t k r') (h:1<=t.length):r=r' :=
 Xj (by rw[T.len,T'.len]) fun i hi'=>T.taut.unique T'.taut (by rw[T.first,T'.first]) (by rw[T.last,T'.last]) i (by rw[T.len] at hi';omega)
noncomputable def S_62:DSp:=fun ds M Q E=>∃ t k,ds=[tb t]/\Fine t k/\k<=1500/\∀ (r:List Rat) M',Told t k r->MExt M M'->Q (rw r) M'
noncomputable def LC (M:Mem) (t:List (Rat×Rat)) (k:Nat) (p0:Addr) (m:Nat) (δ:DSt) (M':Mem):Prop :=
 ∃ (r:List Rat) (w3 w4 w5 w6:Option DL.D),MExt M M'/\M' p0=some (.ls (r.map nm))/\Part t k r/\δ=[some (tb t),some (.lst p0),some (.int ((r.length-1:Nat):Int)),w3,w4,w5,w6]/\m=t.length-r.length
noncomputable def LD (M:Mem) (t:List (Rat×Rat)) (r:List Rat) (s:Rat) (p0:Addr) (w3 w4 w5:Option DL.D) (i:Nat) (δ:DSt) (M':Mem):Prop :=
 MExt M M'/\M' p0=some (.ls ((r++seg (r.length-1) (r.length-1+i) (ri r (r.length-1)) s).map nm))/\∃ w6,δ=[some (tb t),some (.lst p0),some (.int ((r.length-1:Nat):Int)),w3,w4,w5,w6]
noncomputable def C_62:CSs:=%[.set 1 (.lst %[.ix (.ix (.var 0) (.int 0)) (.int 0)|0]),.set 2 (.int 0),.whl (.cmp .Lt (.var 2) (.bin .Sub (.bi .len %[.var 0|0]) (.int 1))) %[.asg (.tup %[.name 3,.name 4,.name 5|0]) (.call "_law_next_touch" S_61 %[.var 0,.var 2,.ix (.var 1) (.var 2)|0]),.fr (.name 6) (.rng %[.bin .Add (.var 2) (.int 1),.bin .Add (.var 4) (.int 1)|0]) %[.expr (.app 1 (.call "_law_more" S_52 %[.ix (.var 1) (.neg (.int 1)),.var 3|0]))|0],.set 2 (.var 4)|0],.ret (.bi .tuple %[.var 1|0])|0]
theorem vc_62:∀ ds M R E,S_62 ds M R E->rSs C_62 (ends R E) (Y1 7 ds) M:=by
 rintro ds M R E ⟨t,k,rfl,F,k15,q⟩;have P:=F.places;have most:=P.most;have few:=P.few;have two:=F.tube.two;have ti:=F.tie;unfold tied at ti;simp at ti;obtain⟨t0,tn⟩:=ti;unfold C_62;sleep 1;refine Uj (i:=0) %[|5] ?_;intro p0 M0 e0 x0 l0;sleep 1
 (try dsimp only);rw[Yr];simp[0,Yn,vAt,vHd,Y9,Yj,bMul,bAdd,sOp,Y8,Yi,fIsi,Yh,and_assoc,sizeLine_eq,Yq,Ja]
 refine⟨LC M t k p0,⟨_,[lo t 0],none,none,none,none,x0,l0,.start P %[|5] t0,rfl,rfl⟩,?_⟩;rintro m δ M1 ⟨r,w3,w4,w5,w6,x1,l1,A,rfl,rfl⟩;have a1:=A.one;have a2:=A.le;sleep 2;refine Ct ?_;by_cases hz:r.length<t.length
 ·have hz':((r.length-1:Nat):Int)<(t.length:Int)-1:=by omega
  simp[hz'];refine⟨fun δ' M'=>∃ m',m'<t.length-r.length/\LC M t k p0 m' δ' M',fun _ _ z=>z,?_⟩;sleep 1;refine YZ l1 (Zm (Ui %[|5])) ?_;refine⟨t,k,r.length-1,ri r (r.length-1),rfl,P,by omega,A.szb,tn,fun p v hbp hpt sv S hend=>?_⟩;obtain⟨B,hL⟩:=A.next P tn hbp hpt sv S hend;have ss:=YR sv A.szb hbp %[|5];simp[0,Vv,Yn,vAt,vHd,Y9,Yj,bMul,bAdd,sOp,Y8,Yi,fIsi,Yh,and_assoc,sizeLine_eq,Yq];sleep 4;refine⟨by omega,by omega,by omega,by omega,?_⟩;have en:((p:Int)+1-(((r.length-1:Nat):Int)+1)).toNat=p-(r.length-1):=by omega
  rw[en];refine YN (LD M t r (Y3 (r.length-1) (ri r (r.length-1)) p v) p0 _ _ _) (fun _ _ _ _=>trivial) ?_ ?_ ⟨x1,by rw[Ju,List.append_nil];exact l1,_,rfl⟩
  ·rintro δ M' ⟨x2,l2,w,rfl⟩
   rw[Xd,show r.length-1+(p-(r.length-1))=p by omega] at l2;sleep 1;exact⟨t.length-(p+1),by omega,_,_,_,_,_,x2,l2,B,by rw[hL];rfl,by rw[hL]⟩
  ·rintro i x hx N hN δ M' ⟨x2,l2,w,rfl⟩
   obtain⟨rfl,hi'⟩:=XU hx;have hlen:(r++seg (r.length-1) (r.length-1+i) (ri r (r.length-1)) (Y3 (r.length-1) (ri r (r.length-1)) p v)).length=r.length+i:=by rw[List.length_append,UT];omega
   have hlast:ri (r++seg (r.length-1) (r.length-1+i) (ri r (r.length-1)) (Y3 (r.length-1) (ri r (r.length-1)) p v)) (r.length+i-1)=line (r.length-1) (ri r (r.length-1)) (Y3 (r.length-1) (ri r (r.length-1)) p v) (r.length-1+i):=by
    cases i with
    | zero=>rw [Ju,List.append_nil,Nat.add_zero,Nat.add_zero,B6]
    | succ j =>
     rw[Jz %[|5],CJ %[|5]]
     congr 1;omega
   sleep 2;sleep 1;refine⟨⟨_,l2⟩,?_⟩;refine YZ l2 (Vh %[|5]) ?_;rw[hlen,hlast];have zl:=AS A.szb ss (b:=r.length-1) (t:=r.length-1+i) %[|5] %[|5];refine⟨_,_,rfl,.mk zl ss %[|5],?_⟩;refine⟨_,l2,?_,?_⟩
   ·simp only[List.length_map,hlen];omega
   ·refine hN _ _ ⟨MExt.upd_new e0 x2,?_,_,rfl⟩
    rw[mupd_same,CD,<- List.append_assoc,List.map_append (l₂:=[_])];have:=WP (r.length-1) (ri r (r.length-1)) (Y3 (r.length-1) (ri r (r.length-1)) p v) (r.length-1+1+i) %[|5];rw[show r.length-1+1+i-1=r.length-1+i by omega] at this;have e:line (r.length-1) (ri r (r.length-1)) (Y3 (r.length-1) (ri r (r.length-1)) p v) (r.length-1+i)+Y3 (r.length-1) (ri r (r.length-1)) p v=line (r.length-1) (ri r (r.length-1)) (Y3 (r.length-1) (ri r (r.length-1)) p v) (r.length-1+1+i):=by grind
    rw[e];rfl
 ·have hz':¬ ((r.length-1:Nat):Int)<(t.length:Int)-1:=by omega
  simp[hz'];have el:r.length=t.length:=by omega
  sleep 1;refine⟨_,l1,?_⟩;refine q r M1 ⟨el,?_,A.first,A.last el,A.sz⟩ x1;have D:=A.drawn;rw[el] at D;exact D.taut
theorem FD (c:Int) (n:Nat) (h1:1<=c) (h2:c<=100):∃ z:Nat,z<=100/\(z:Int)<=c/\(if (1:Int)<(if c<(n:Int) then c else (n:Int)) then (if c<(n:Int) then c else (n:Int)) else 1)=(z:Int):=by
 by_cases a:c<(n:Int)
 ·rw[if_pos a]
  by_cases b:1<c
  ·rw[if_pos b];exact⟨c.toNat,by omega,by omega,by omega⟩
  ·rw[if_neg b];exact⟨1,by omega,by omega,by omega⟩
 ·rw[if_neg a]
  by_cases b:(1:Int)<n
  ·rw[if_pos b];exact⟨n,by omega,by omega,rfl⟩
  ·rw[if_neg b];exact⟨1,by omega,by omega,by omega⟩
structure Kp (M M':Mem):Prop where
 ls:∀ b xs,M b=some (.ls xs)->∃ ys,M' b=some (.ls ys)
 dk:∀ b xs,M b=some (.dk xs)->∃ ys,M' b=some (.dk ys)
mutual
theorem Gd.kp (e:Kp M M'):∀ d,Gd M d->Gd M' d
 | .tup xs,h=>by unfold Gd at h ⊢;exact Gds.kp e xs h
 | .lst a,h=>by unfold Gd at h ⊢;obtain⟨xs,q⟩:=h;exact e.ls _ _ q
 | .dct a,h=>by unfold Gd at h ⊢;obtain⟨xs,q⟩:=h;exact e.dk _ _ q
 | .int i,h=>by unfold Gd at h ⊢;exact h
 | .non,_=>by unfold Gd;trivial
 | .bl _,_=>by unfold Gd;trivial
 | .str _,_=>by unfold Gd;trivial
 | .fz _,_=>by unfold Gd;trivial
 | .ty _,h=>by unfold Gd at h;exact h.elim
 | .ref _,h=>by unfold Gd at h;exact h.elim
 | .exc _ _,h=>by unfold Gd at h;exact h.elim
 | .cls _,h=>by unfold Gd at h;exact h.elim
theorem Gds.kp (e:Kp M M'):∀ ds,Gds M ds->Gds M' ds
 | [],_=>by unfold Gds;trivial
 | d::r,h=>by unfold Gds at h ⊢;exact⟨Gd.kp e d h.1,Gds.kp e r h.2⟩
end
theorem gl (h:M p=some (.ls xs)):Gd M (.lst p):=by unfold Gd;exact⟨_,h⟩
theorem gs:Gd M (.str x):=by unfold Gd;trivial
theorem EB {α:Type} {xs:List α} {lo hi:Option Int} {x:α} (h:x∈cutG xs lo hi):x∈xs:=List.mem_of_mem_drop (List.mem_of_mem_take h)
theorem EC (xs:List α) (lo hi:Option Int):(cutG xs lo hi).length<=xs.length:=by
 unfold cutG;rw[List.length_take,List.length_drop];omega
theorem gnm (h:Sz k q) (hk:k<=3000:=by decide):Gd M (nm q):=.nm h hk
theorem Gh {n:Nat} {g:DG} {te:DE} {δ:DSt} {M:Mem} {Q:DK} {keep:Mem->Prop} (xs:List DL.D) (f:DL.D->DL.D) (hk:∀ M',MExt M M'->keep M') (hlen:xs.length<=1000)
  (hel:∀ x∈xs,∀ l M' (R:DSt->DK),l.length=n->MExt M M'->(∀ l' M'',l'.length=n->MExt M' M''->R (δ++l') (f x) M'')->g x (δ++l) M' fun δ1 M1=>te δ1 M1 fun d M2=>R δ1 d M2)
  (hq:∀ p M',M p=Option.none->MExt M M'->M' p=some (.ls (xs.map f))->Q (.lst p) M'):∀ p,M p=none->keep (M.upd p (.ls []))/\X9 g te keep p xs [] (δ++List.replicate n none) (M.upd p (.ls [])) fun M2=>(∃ ds,M2 p=some (.ls ds))/\Q (.lst p) M2:=by
 intro p hp;refine⟨hk _ (.new hp),?_⟩;refine Wj (M0:=M) f (fun δ'=>∃ l,l.length=n/\δ'=δ++l) hp hk ?_ (by simpa using hlen) ?_ ⟨_,by simp,rfl⟩ (.new hp) mupd_same
 ·rintro x hx δ' M' R ⟨l,hl,rfl⟩ e r
  exact hel x hx l M' R hl e fun l' M'' h1 h2=>r _ M'' ⟨l',h1,rfl⟩ h2
 ·intro M' e l
  exact⟨⟨_,l⟩,hq p M' hp e (by simpa using l)⟩
theorem Ca
  (h:∀ K:List DL.D->(Mem->Prop)->Mem->Prop,(∀ (M1:Mem) (keep:Mem->Prop) (xs:List DL.D) (f:DL.D->DL.D),(∀ M',MExt M1 M'->keep M')->xs.length<=1000 ->
   (∀ x∈xs,∀ l M' (R:DSt->DK),l.length=n->MExt M1 M'->(∀ l' M'',l'.length=n->MExt M' M''->R (δ++l') (f x) M'')->g x (δ++l) M' fun δ1 M1=>te δ1 M1 fun d M2=>R δ1 d M2) ->
   (∀ p M',M1 p=Option.none->MExt M1 M'->M' p=some (.ls (xs.map f))->Q (.lst p) M')->K xs keep M1)->ti δ M K):YO n ti g te δ M Q :=
 h _ fun M1 keep xs f hk hl hel hq=>Gh xs f hk hl hel hq
noncomputable def Y4 (q:Rat):List Rat->List Rat
 | []=>[q]
 | x::r=>q::Y4 (q+x) r
theorem Af (a b:Rat) (r:List Rat):Yt (a::b::r)=(b-a)::Yt (b::r):=by
 unfold Yt;simp only[List.length_cons,Nat.add_sub_cancel];rw[List.range_succ_eq_map,List.map_cons,List.map_map]
 rfl
theorem Vz:∀ (a:Rat) (r:List Rat),Y4 a (Yt (a::r))=a::r
 | a,[]=>rfl
 | a,b::r=>by
  rw[Af];unfold Y4;rw[show a+(b-a)=b by grind,Vz b r]
theorem Xb (q:Rat) (s:List Rat):∃ r,Y4 q s=q::r:=by cases s<;>exact⟨_,rfl⟩
theorem Wp (q:Rat) (s:List Rat):(Y4 q s).length=s.length+1:=by
 induction s generalizing q with
 | nil=>rfl
 | cons x s ih=>unfold Y4;rw[List.length_cons,ih];rfl
theorem Jw (h:1<=r.length):Y4 (ri r 0) (Yt r)=r:=by
 cases r with
 | nil=>simp at h
 | cons a r=>exact Vz a r
theorem Wk (h1:l<=r.length) (h2:(r.length:Int)<=m):Yc l m (rw r)=true:=by
 unfold Yc rw;simp only[List.length_map,Bool.and_eq_true,decide_eq_true_eq];refine⟨⟨h1,h2⟩,?_⟩;rw[List.all_eq_true];intro x hx;obtain⟨q,_,rfl⟩:=List.mem_map.mp hx;exact Wy q
theorem JQ (h:∀ x∈r,Sz k x) (hk:k<=2900):Gd M (rw r):=.mk fun d hd=>by
 obtain⟨q,hq,rfl⟩:=List.mem_map.mp hd;exact .nm (h q hq) %[|5]
noncomputable def S_12:DSp:=fun ds M Q E=>∃ d,ds=[d]/\Gd M d/\∀ M',MExt M M'->Q (.bl (Yc 1 24 d)) M'
noncomputable def C_12:CSs:=%[.ret (.call "are_numbers" S_11 %[.var 0,.int 1,.bin .Sub (.glo "MOST_PLACES_tubes" Z0) (.int 1)|0])|0]
theorem vc_12:∀ ds M R E,S_12 ds M R E->rSs C_12 (ends R E) (Y1 1 ds) M:=by
 rintro ds M R E ⟨d,rfl,g,q⟩;unfold C_12;sleep 1;exact⟨d,1,24,rfl,by decide,g,q⟩
noncomputable def S_18:DSp:=fun ds M Q E=>∃ d,ds=[d]/\Gd M d/\∀ M',MExt M M'->if Yc 1 24 d=true then Q .non M' else E (.exc "NoRow" .non) M'
noncomputable def C_18:CSs:=%[.ife (.not (.call "are_steps" S_12 %[.var 0|0])) %[.rse "NoRow" %[.str "these are no steps"|0]|0] .nil|0]
theorem vc_18:∀ ds M R E,S_18 ds M R E->rSs C_18 (ends R E) (Y1 1 ds) M:=by
 rintro ds M R E ⟨d,rfl,g,q⟩;unfold C_18;sleep 1;refine⟨d,rfl,g,fun M1 x1=>?_⟩;have:=q M1 x1;cases h:Yc 1 24 d with
 | true=>rw [h,if_pos rfl] at this;simpa using this
 | false =>
  rw[h,if_neg %[|4]] at this;simp;sleep 1;exact this
noncomputable def S_19:DSp:=fun ds M Q E=>∃ r k,ds=[rw r]/\(∀ x∈r,Sz k x)/\k<=3900/\1<=r.length/\r.length<=100/\∀ M',MExt M M'->Q (rw (Yt r)) M'
noncomputable def C_19:CSs:=%[.ret (.bi .tuple %[.comp ["row","at"] 1 (.name 1) (.rng %[.int 1,.bi .len %[.var 0|0]|0]) (.call "taken" S_5 %[.ix (.var 0) (.var 1),.ix (.var 0) (.bin .Sub (.var 1) (.int 1))|0])|0])|0]
theorem vc_19:∀ ds M R E,S_19 ds M R E->rSs C_19 (ends R E) (Y1 1 ds) M:=by
 rintro ds M R E ⟨r,k,rfl,sz,hk,h1,h2,q⟩;unfold C_19;sleep 1;refine YB (List.range (r.length-1)) (fun i=>.int (1+(i:Int))) (fun i=>nm (ri r (i+1)-ri r i)) ?_ (by simp;omega) ?_ ?_
 ·intro R' r'
  simp[0,Yn,vAt,vHd,Y9,Yj,bMul,bAdd,sOp,Y8,Yi,fIsi,Yh,and_assoc,sizeLine_eq,Yq,YI];refine CF ?_;have e:rngD 1 1 (r.length-1)=(List.range (r.length-1)).map fun i=>.int (1+(i:Int)):=by
   unfold rngD;simp
  refine⟨by omega,by omega,?_⟩
  (try refine⟨by omega,by omega,?_⟩)
  rw[show ((r.length:Int)-1).toNat=r.length-1 by omega,e];exact r' _ fun _ _=>trivial
 ·intro i hi' l M' R' hl e r'
  obtain⟨a,rfl⟩:=len1 hl;have hi2:i<r.length-1:=by simpa using hi'
  sleep 2;rw[show (1:Int)+(i:Int)=((i+1:Nat):Int) by omega];refine Uh (i:=i+1) %[|5] ?_;rw[show ((i+1:Nat):Int)-1=(i:Int) by omega];refine Uh (i:=i) %[|5] ?_;refine⟨_,_,rfl,.mk (sz _ (YE %[|5])) (sz _ (YE %[|5])) %[|5],?_⟩;exact r' [_] M' rfl (.refl _)
 ·intro p M' hp e l
  refine⟨_,l,?_⟩;have:=q M' e
  simpa[rw,Yt,Function.comp_def] using this
noncomputable def S_20:DSp:=fun ds M Q E=>∃ d e,ds=[d,e]/\Gd M d/\Gd M e/\(YF d=false/\(∀ M',MExt M M'->E (.exc "NoNumber" .non) M')\/YF d=true/\Yc 1 24 e=false/\(∀ M',MExt M M'->E (.exc "NoRow" .non) M') \/
 ∃ q s k,d=nm q/\e=rw s/\Sz k q/\(∀ x∈s,Sz k x)/\k<=250/\1<=s.length/\s.length<=24/\∀ M',MExt M M'->Q (rw (Y4 q s)) M')
noncomputable def RO (M:Mem) (q:Rat) (s:List Rat) (p:Addr) (i:Nat) (δ:DSt) (M':Mem):Prop :=
 MExt M M'/\M' p=some (.ls ((Y4 q (s.take i)).map nm))/\∃ w,δ=[some (nm q),some (rw s),some (.lst p),w]
theorem BB (q:Rat) (s:List Rat) (x:Rat):Y4 q (s++[x])=Y4 q s++[(Y4 q s).getLast (by obtain⟨r,h⟩:=Xb q s;rw[h];exact List.cons_ne_nil _ _)+x]:=by
 induction s generalizing q with
 | nil=>rfl
 | cons y s ih =>
  simp only[List.cons_append,Y4];rw[ih];obtain⟨r,h⟩:=Xb (q+y) s;simp only[h,List.getLast_cons_cons,List.cons_append]
theorem Vg:∀ {q:Rat} {s:List Rat} {m:Nat},Sz m q->(∀ x∈s,Sz k x)->∀ z∈Y4 q s,Sz (m+s.length*(k+1)) z
 | q,[],m,hq,hs,z,hz=>by
  simp[Y4] at hz;subst hz;exact hq.mono %[|5]
 | q,x::s,m,hq,hs,z,hz=>by
  unfold Y4 at hz;rcases List.mem_cons.mp hz with rfl|hz
  ·exact hq.mono %[|5]
  ·have:=Vg (m:=m+k+1) (hq.add (hs x List.mem_cons_self)) (fun y hy=>hs y (List.mem_cons_of_mem _ hy)) z hz
   refine this.mono ?_;rw[List.length_cons,Nat.add_mul];omega
noncomputable def C_20:CSs:=%[.ife (.not (.call "is_number" S_2 %[.var 0|0])) %[.rse "NoNumber" %[.str "the first one is no number"|0]|0] .nil,.expr (.call "want_steps" S_18 %[.var 1|0]),.set 2 (.lst %[.var 0|0]),.fr (.name 3) (.seq (.var 1)) %[.expr (.app 2 (.call "added" S_4 %[.ix (.var 2) (.neg (.int 1)),.var 3|0]))|0],.ret (.bi .tuple %[.var 2|0])|0]
theorem vc_20:∀ ds M R E,S_20 ds M R E->rSs C_20 (ends R E) (Y1 4 ds) M:=by
 rintro ds M R E ⟨d,e,rfl,gd,ge,h⟩;unfold C_20;sleep 1;refine⟨d,rfl,gd,?_⟩;rcases h with ⟨h,q⟩|⟨h,h2,q⟩|⟨q,s,k,rfl,rfl,sq,ss,hk,h1,h2,Qh⟩
 ·rw[h]
  simp;sleep 1;exact q M (.refl M)
 ·rw[h]
  simp;sleep 1;refine⟨e,rfl,ge,fun M1 x1=>?_⟩;rw[h2,if_neg %[|4]];exact q M1 x1
 ·rw[Wy]
  simp;sleep 1;refine⟨rw s,rfl,ge,fun M1 x1=>?_⟩;rw[Wk %[|5] %[|5],if_pos rfl];sleep 1;intro p0 M2 e2 x2 l2;sleep 3;rw[show rw s=.tup (s.map nm) from rfl];dsimp only;refine YN (RO M q s p0) (fun _ _ _ _=>trivial) ?_ ?_ ⟨x1.trans x2,l2,_,rfl⟩
  ·rintro δ M' ⟨x3,l3,w,rfl⟩
   rw[List.length_map,List.take_length] at l3;sleep 1;exact⟨_,l3,Qh M' x3⟩
  ·rintro i x hx N hN δ M' ⟨x3,l3,w,rfl⟩
   have hi':i<s.length:=by
    have:=(List.getElem?_eq_some_iff.mp hx).1
    simpa using this
   have ex:x=nm (ri s i):=by
    have:=Ui hi';rw[hx] at this;exact Option.some.inj this
   subst ex;have es:s.take (i+1)=s.take i++[ri s i]:=by
    rw[List.take_add_one];simp[ri,List.getD,hi']
   obtain⟨r0,hr0⟩:=Xb q (s.take i);have ne:Y4 q (s.take i)≠[]:=by rw[hr0];exact List.cons_ne_nil _ _
   have slen:=Wp q (s.take i);have tl:(s.take i).length=i:=by rw[List.length_take];omega
   sleep 2;sleep 1;refine⟨⟨_,l3⟩,?_⟩;have hne:(Y4 q (s.take i)).map nm≠[]:=by simpa using ne
   refine YZ l3 (W8 hne) ?_;rw[List.getLast_map];have s1:=Vg sq (fun x hx=>ss x (List.mem_of_mem_take hx)) _ (List.getLast_mem ne);have s2:=ss _ (YE hi');rw[tl] at s1;have hb:i*(k+1)<=24*251:=Nat.mul_le_mul %[|5] %[|5];refine⟨_,_,rfl,.mk s1 s2 %[|5],?_⟩;refine⟨_,l3,?_,?_⟩
   ·simp only[List.length_map,slen,tl];omega
   ·refine hN _ _ ⟨MExt.upd_new (MExt.none x1 e2) x3,?_,_,rfl⟩
    rw[mupd_same,es,BB,List.map_append]
    rfl
theorem JP (X:K.In h) (G:h.Ns mainGlobals mg) (e:PySem.W.nsIn K mainGlobals n=some (some (.ref a)))
  (lk:K.lookup a=some ⟨.type "tuple",dd,.seq #[.int i t,.int j u] m,sl⟩):GloE K mg n (.tup [.int i,.int j]):=by
 refine⟨.ref a,.ref a,PySem.W.mg_of X G e,rfl,fun H=>.tup (vs:=[.int i,.int j]) (.inr ⟨_,#[.int i t,.int j u],m,lk,rfl,rfl,?_,?_⟩) (.cons (.int _) (.cons (.int _) .nil))⟩
 ·rw[sizeLine_eq];show 2<=16777216;decide
 ·exact .cons ⟨_,rfl⟩ (.cons ⟨_,rfl⟩ .nil)
abbrev Z9:DL.D:=.tup [.int 0,.int 1]
theorem Ef (h:Gd M (nm q)):Sz 3000 q:=by
 have a:=h.tup (.int q.num) (by simp);have b:=h.tup (.int q.den) (by simp);unfold Gd at a b;exact⟨a,by simpa using b⟩
noncomputable def Y2 (s:List Rat) (i:Nat):Rat:=ri (Y4 0 s) i
noncomputable def YT (s:List Rat) (b a:Rat) (i:Nat):Rat×Rat:=if i=0 then (0,0) else if i=s.length then (Y2 s i,Y2 s i) else (Y2 s i-b,Y2 s i+a)
noncomputable def Yb (s:List Rat) (b a:Rat):List (Rat×Rat):=(List.range (s.length+1)).map (YT s b a)
theorem Yz (s:List Rat) (b a:Rat):(Yb s b a).length=s.length+1:=by simp[Yb]
theorem Ya (s:List Rat):Y2 s 0=0:=by
 obtain⟨r,h⟩:=Xb 0 s;unfold Y2;rw[h];rfl
theorem VA:∀ {s:List Rat} {q:Rat} {i:Nat},i<s.length->ri (Y4 q s) (i+1)=ri (Y4 q s) i+ri s i
 | x::s,q,0,_=>by
  unfold Y4;obtain⟨r,h⟩:=Xb (q+x) s;rw[h];rfl
 | x::s,q,i+1,h=>by
  have:=VA (s:=s) (q:=q+x) (i:=i) (by simpa using h);unfold Y4;exact this
theorem Cu {s:List Rat} {k i:Nat} (h:∀ x∈s,Sz k x) (hi':i<=s.length):Sz (1+s.length*(k+1)) (Y2 s i) :=
 Vg (m:=1) ⟨by decide,by decide⟩ h _ (YE (by rw[Wp];omega))
theorem Z4 {s:List Rat} {b a:Rat} {i:Nat} (h:i<=s.length):(Yb s b a).getD i (0,0)=YT s b a i:=by
 have:i<s.length+1:=by omega
 simp[Yb,List.getD,this]
theorem Jp {s:List Rat} {b a:Rat} {k i:Nat} (h:∀ x∈s,Sz k x) (sb:Sz k b) (sa:Sz k a) (hi':i<=s.length):Sz (2+s.length*(k+1)+k) (YT s b a i).1/\Sz (2+s.length*(k+1)+k) (YT s b a i).2:=by
 have z:=Cu h hi';unfold YT;split
 ·have s1:Sz 1 (0:Rat):=⟨by decide,by decide⟩
  exact⟨s1.mono %[|5],s1.mono %[|5]⟩
 ·split
  ·exact⟨z.mono %[|5],z.mono %[|5]⟩
  ·exact⟨(z.sub sb).mono %[|5],(z.add sa).mono %[|5]⟩
theorem Jx {s:List Rat} {b a:Rat} {k m:Nat} (h:∀ x∈s,Sz k x) (sb:Sz k b) (sa:Sz k a) (b0:0<=b) (a0:0<=a) (h1:1<=s.length) (h2:s.length<=24) (hk:k<=50) (hm:m=26+25*k):Fine (Yb s b a) m:=by
 have L:=Yz s b a;have hb:s.length*(k+1)<=24*(k+1):=Nat.mul_le_mul_right _ h2;refine⟨⟨by omega,by omega,fun p hp=>?_⟩,?_,fun i hi'=>?_,fun i hi'=>?_,by omega⟩
 ·unfold Yb at hp
  obtain⟨i,hi',rfl⟩:=List.mem_map.mp hp;unfold YT;split
  ·decide
  ·split
   ·show Y2 s i<=Y2 s i;grind
   ·show Y2 s i-b<=Y2 s i+a;grind
 ·unfold tied lo hi
  rw[Z4 %[|5],L,Nat.add_sub_cancel,Z4 %[|5]];have e0:YT s b a 0=(0,0):=rfl;have e1:(YT s b a s.length).1=(YT s b a s.length).2:=by
   unfold YT;rw[if_neg %[|5],if_pos rfl]
  rw[e0,e1];simp
 ·unfold lo;rw[Z4 %[|5]]
  exact (Jp h sb sa %[|5]).1.mono %[|5]
 ·unfold hi;rw[Z4 %[|5]]
  exact (Jp h sb sa %[|5]).2.mono %[|5]
noncomputable def S_21:DSp:=fun ds M Q E=>∃ s b a k,ds=[rw s,nm b,nm a]/\(∀ x∈s,Sz k x)/\Sz k b/\Sz k a/\k<=50/\1<=s.length/\s.length<=24/\∀ M',MExt M M'->Q (tb (Yb s b a)) M'
theorem Cv {s:List Rat} {b a:Rat}:((((Y4 0 s).map fun h=>(h-b,h+a)).set 0 (Y2 s 0,Y2 s 0)).set s.length (Y2 s s.length,Y2 s s.length))=Yb s b a:=by
 have L:=Wp 0 s;refine List.ext_getElem (by simp[Yz,L]) fun i h1 h2=>?_;rw[Yz] at h2;have e2:(Yb s b a)[i]'(by rw[Yz];exact h2)=YT s b a i:=by simp[Yb]
 rw[e2,List.getElem_set,List.getElem_set,List.getElem_map];unfold YT;have e3:(Y4 0 s)[i]'%[|5]=Y2 s i:=by
  have:i<(Y4 0 s).length:=by omega
  simp[Y2,ri,List.getD,this]
 rw[e3];by_cases c1:i=0
 ·subst c1
  by_cases c2:s.length=0
  ·rw[if_pos c2,c2,Ya];simp
  ·rw[if_neg c2,if_pos rfl,if_pos rfl,Ya]
 ·by_cases c2:s.length=i
  ·rw[if_pos c2,if_neg c1,if_pos c2.symm,c2]
  ·rw[if_neg c2,if_neg (Ne.symm c1),if_neg c1,if_neg (Ne.symm c2)]
theorem VE {r:List Rat} {M:Mem} {Q:DK} (h:1<=r.length) (q:Q (nm (ri r (r.length-1))) M):iOp (rw r) (.int (-1)) M Q:=Sq.ix (.inl rfl) (Vh h) q
noncomputable def C_21:CSs:=%[.set 3 (.call "row_of" S_20 %[.glo "NOUGHT" Z9,.var 0|0]),.set 4 (.comp ["numbers","below","above","sums","places","height"] 1 (.name 5) (.seq (.var 3)) (.tup %[.call "taken" S_5 %[.var 5,.var 1|0],.call "added" S_4 %[.var 5,.var 2|0]|0])),.asg (.sub (.var 4) (.int 0)) (.tup %[.ix (.var 3) (.int 0),.ix (.var 3) (.int 0)|0]),.asg (.sub (.var 4) (.neg (.int 1))) (.tup %[.ix (.var 3) (.neg (.int 1)),.ix (.var 3) (.neg (.int 1))|0]),.ret (.bi .tuple %[.var 4|0])|0]
theorem vc_21:∀ ds M R E,S_21 ds M R E->rSs C_21 (ends R E) (Y1 5 ds) M:=by
 rintro ds M R E ⟨s,b,a,k,rfl,sz,sb,sa,hk,h1,h2,q⟩;have L:=Wp 0 s;have sz':∀ x∈Y4 0 s,Sz (1+s.length*(k+1)) x:=Vg (m:=1) ⟨by decide,by decide⟩ sz;have hb:s.length*(k+1)<=24*(k+1):=Nat.mul_le_mul_right _ h2;have s1:Sz 1 0:=⟨by decide,by decide⟩;unfold C_21;sleep 1;refine⟨nm 0,rw s,rfl,.nm s1 %[|4],JQ sz %[|5],.inr (.inr ⟨0,s,k+1,rfl,rfl,s1.mono %[|5],fun x hx=>(sz x hx).mono %[|5],by omega,h1,h2,fun M1 x1=>?_⟩)⟩;sleep 1;refine YB (Y4 0 s) nm (fun h=>pl (h-b,h+a)) (UO rfl) %[|5] ?_ ?_
 ·intro x hx l M' R' hl ee rr
  obtain⟨z,rfl⟩:=len1 hl;sleep 2;refine⟨_,_,rfl,.mk (sz' x hx) sb %[|5],?_⟩;refine⟨_,_,rfl,.mk (sz' x hx) sa %[|5],?_⟩;exact rr [_] M' rfl (.refl _)
 intro p2 M2 e2 x2 l2;sleep 1;refine Uh (i:=0) %[|5] (Uh (i:=0) %[|5] ?_);refine⟨_,l2,0,?_,?_⟩
 ·simp[L2.ixN,L]
 sleep 1;refine VE %[|5] (VE %[|5] ?_);refine⟨_,mupd_same,s.length,?_,?_⟩
 ·simp[L2.ixN,L];omega
 sleep 1;refine⟨_,mupd_same,?_⟩;rw[Dz];have em:((((Y4 0 s).map fun h=>pl (h-b,h+a)).set 0 (D.tup [nm (ri (Y4 0 s) 0),nm (ri (Y4 0 s) 0)])).set s.length (D.tup [nm (ri (Y4 0 s) ((Y4 0 s).length-1)),nm (ri (Y4 0 s) ((Y4 0 s).length-1))]))=(Yb s b a).map pl:=by
  rw[<- Cv,List.map_set,List.map_set,List.map_map,show (Y4 0 s).length-1=s.length by omega];rfl
 rw[em];exact q _ (MExt.upd_new (MExt.none x1 e2) (x1.trans x2))
noncomputable def YM (d:DL.D):Bool:=match num? d with|some q=>decide (0<=q)|none=>false
theorem Zh (q:Rat):YM (nm q)=decide (0<=q):=by unfold YM;rw[UY]
theorem V1 {d:DL.D} (h:YF d=false):YM d=false:=by
 unfold YM;unfold YF at h;cases e:num? d with
 | none=>rfl
 | some q=>rw [e] at h;cases h
theorem UP:Sz 1 (0:Rat):=⟨by decide,by decide⟩
noncomputable def S_27:DSp:=fun ds M Q E=>∃ d,ds=[d]/\Gd M d/\∀ M',MExt M M'->if Yc 1 24 d=true then Q .non M' else E (.exc "NoData" .non) M'
noncomputable def C_27:CSs:=%[.ife (.not (.call "are_steps" S_12 %[.var 0|0])) %[.rse "NoData" %[.str "these are no data"|0]|0] .nil|0]
theorem vc_27:∀ ds M R E,S_27 ds M R E->rSs C_27 (ends R E) (Y1 1 ds) M:=by
 rintro ds M R E ⟨d,rfl,g,q⟩;unfold C_27;sleep 1;refine⟨d,rfl,g,fun M1 x1=>?_⟩;have:=q M1 x1;cases h:Yc 1 24 d with
 | true=>rw [h,if_pos rfl] at this;simpa using this
 | false =>
  rw[h,if_neg %[|4]] at this;simp;sleep 1;exact this
noncomputable def S_28:DSp:=fun ds M Q E=>∃ d,ds=[d]/\Gd M d/\if YM d=true then Q .non M else E (.exc "NoPrice" .non) M
noncomputable def C_28:CSs:=%[.ife (.or (.not (.call "is_number" S_2 %[.var 0|0])) (.one (.call "is_less" S_8 %[.var 0,.glo "NOUGHT" Z9|0]))) %[.rse "NoPrice" %[.str "this is no price"|0]|0] .nil|0]
theorem vc_28:∀ ds M R E,S_28 ds M R E->rSs C_28 (ends R E) (Y1 1 ds) M:=by
 rintro ds M R E ⟨d,rfl,g,q⟩;unfold C_28;sleep 1;refine⟨d,rfl,g,?_⟩;cases h:YF d with
 | false =>
  rw[V1 h,if_neg %[|4]] at q;simp;sleep 1;exact q
 | true =>
  obtain⟨p,rfl⟩:=isNum_iff.mp h;rw[Zh] at q;simp;refine⟨p,0,rfl,.mk (Ef g) UP %[|4],?_⟩;by_cases c:p<0
  ·rw[if_neg (by simp;grind)] at q
   simp[c];sleep 1;exact q
  ·rw[if_pos (by simp;grind)] at q
   simp[c];exact q
noncomputable def S_45:DSp:=fun ds M Q E=>∃ d,ds=[d]/\Gd M d/\if YM d=true then Q .non M else E (.exc "NoRoom" .non) M
noncomputable def C_45:CSs:=%[.ife (.or (.not (.call "is_number" S_2 %[.var 0|0])) (.one (.call "is_less" S_8 %[.var 0,.glo "NOUGHT" Z9|0]))) %[.rse "NoRoom" %[.str "this is no room"|0]|0] .nil|0]
theorem vc_45:∀ ds M R E,S_45 ds M R E->rSs C_45 (ends R E) (Y1 1 ds) M:=by
 rintro ds M R E ⟨d,rfl,g,q⟩;unfold C_45;sleep 1;refine⟨d,rfl,g,?_⟩;cases h:YF d with
 | false =>
  rw[V1 h,if_neg %[|4]] at q;simp;sleep 1;exact q
 | true =>
  obtain⟨p,rfl⟩:=isNum_iff.mp h;rw[Zh] at q;simp;refine⟨p,0,rfl,.mk (Ef g) UP %[|4],?_⟩;by_cases c:p<0
  ·rw[if_neg (by simp;grind)] at q
   simp[c];sleep 1;exact q
  ·rw[if_pos (by simp;grind)] at q
   simp[c];exact q
structure Fit (s:List Rat) (b a:Rat) (k:Nat):Prop where
 sz:∀ x∈s,Sz k x
 sb:Sz k b
 sa:Sz k a
 few:k<=50
 one:1<=s.length
 most:s.length<=24
 b0:0<=b
 a0:0<=a
theorem Fit.fine {s:List Rat} {b a:Rat} {k:Nat} (f:Fit s b a k):Fine (Yb s b a) (26+25*k):=Jx f.sz f.sb f.sa f.b0 f.a0 f.one f.most f.few rfl
noncomputable def S_29:DSp:=fun ds M Q E=>∃ d e,ds=[d,e]/\Gd M d/\Gd M e/\(Yc 1 24 d=false/\(∀ M',MExt M M'->E (.exc "NoData" .non) M')\/Yc 1 24 d=true/\YM e=false/\(∀ M',MExt M M'->E (.exc "NoPrice" .non) M') \/
 ∃ s q k,d=rw s/\e=nm q/\Fit s q q k/\∀ M',MExt M M'->Q (tb (Yb s q q)) M')
noncomputable def C_29:CSs:=%[.expr (.call "want_data" S_27 %[.var 0|0]),.expr (.call "want_price" S_28 %[.var 1|0]),.ret (.call "tube_round_sums" S_21 %[.var 0,.var 1,.var 1|0])|0]
theorem vc_29:∀ ds M R E,S_29 ds M R E->rSs C_29 (ends R E) (Y1 2 ds) M:=by
 rintro ds M R E ⟨d,e,rfl,gd,ge,h⟩;unfold C_29;sleep 1;refine⟨d,rfl,gd,fun M1 x1=>?_⟩;rcases h with ⟨h,q⟩|⟨h,h2,q⟩|⟨s,p,k,rfl,rfl,F,q⟩
 ·rw[h,if_neg %[|4]]
  exact q M1 x1
 ·rw[h,if_pos rfl]
  sleep 1;refine⟨e,rfl,Gd.ext x1 _ ge,?_⟩;rw[h2,if_neg %[|4]];exact q M1 x1
 ·have:=F.one;have:=F.most
  rw[Wk %[|5] %[|5],if_pos rfl];sleep 1;refine⟨nm p,rfl,Gd.ext x1 _ ge,?_⟩;rw[Zh,if_pos (by simpa using F.b0)];sleep 1;exact⟨s,p,p,k,rfl,F.sz,F.sb,F.sa,F.few,F.one,F.most,fun M2 x2=>q M2 (x1.trans x2)⟩
noncomputable def S_30:DSp:=fun ds M Q E=>∃ d e,ds=[d,e]/\Gd M d/\Gd M e/\(Yc 1 24 d=false/\(∀ M',MExt M M'->E (.exc "NoData" .non) M')\/Yc 1 24 d=true/\YM e=false/\(∀ M',MExt M M'->E (.exc "NoPrice" .non) M') \/
 ∃ s q k,d=rw s/\e=nm q/\Fit s q q k/\∀ r M',Told (Yb s q q) (26+25*k) r->MExt M M'->Q (rw (Yt r)) M')
noncomputable def C_30:CSs:=%[.ret (.call "differences" S_19 %[.call "cord" S_26 %[.call "tube_of" S_29 %[.var 0,.var 1|0]|0]|0])|0]
theorem vc_30:∀ ds M R E,S_30 ds M R E->rSs C_30 (ends R E) (Y1 2 ds) M:=by
 rintro ds M R E ⟨d,e,rfl,gd,ge,h⟩;unfold C_30;sleep 1;refine⟨d,e,rfl,gd,ge,?_⟩;rcases h with ⟨h,q⟩|⟨h,h2,q⟩|⟨s,p,k,rfl,rfl,F,q⟩
 ·exact .inl ⟨h,q⟩
 ·exact .inr (.inl ⟨h,h2,q⟩)
 ·refine .inr (.inr ⟨s,p,k,rfl,rfl,F,fun M1 x1=>?_⟩)
  have G:=F.fine;have L:=Yz s p p;have:=F.one;have:=F.most;have:=F.few;refine⟨_,rfl,G.gd,.inr ⟨_,_,rfl,G,fun r M2 T x2=>?_⟩⟩;have tl:=T.len;exact⟨r,_,rfl,T.sz,by omega,by omega,by omega,fun M3 x3=>q r M3 T (x1.trans (x2.trans x3))⟩
theorem HM {M:Mem} {Q:DK} {p p':Addr} {r:List Rat} (l:M p=some (.ls (r.map nm))) (l':M p'=some (.ls [])) (q:Q (.bl (!r.isEmpty)) M):cEq true (.lst p) (.lst p') M Q:=by
 obtain⟨e',h1,h2,h3⟩:=enc_nm.ex;refine⟨_,_,.lst l (UV (h1 M) r),.lst l' .nil,?_,?_⟩
 ·simp only[PyData.depth]
  have:=WT (k:=3) (l:=r.map e') (by simp;exact fun a _=>h3 a);simp only[PyData.depthAll];omega
 ·cases r with
  | nil=>simpa[PyData.eqv,PyData.eqvAll] using q
  | cons a r=>simpa[PyData.eqv,PyData.eqvAll] using q
noncomputable def DA (M:Mem) (ns:List Int) (k:Int) (a p:Addr) (i:Nat) (δ:DSt) (M':Mem):Prop :=
 ∃ (r:List Rat) (w4 w5:Option DL.D),MExt M M'/\Pk M' a/\M' p=some (.ls (r.map nm))/\r.length=i/\(∀ x∈r,Sz 32 x)/\δ=[some (.fz (ns.map .int)),some (.int k),some (.lst a),some (.lst p),w4,w5]
noncomputable def Kd (s:List Rat) (b a:Rat) (i:Nat):List (Rat×Rat):=(List.range (i+1)).map fun j=>if j=0 then (0,0) else (Y2 s j-b,Y2 s j+a)
noncomputable def TO (M:Mem) (s:List Rat) (q:Rat) (p:Addr) (i:Nat) (δ:DSt) (M':Mem):Prop :=
 ∃ w,MExt M M'/\M' p=some (.ls ((Kd s q q i).map pl))/\δ=[some (rw s),some (nm q),some (.lst p),some (nm (Y2 s i)),w]
theorem B1:∀ {xs:List DL.D},xs.all YF=true->∃ s:List Rat,xs=s.map nm
 | [],_=>⟨[],rfl⟩
 | x::xs,h=>by
  simp only[List.all_cons,Bool.and_eq_true] at h;obtain⟨p,rfl⟩:=isNum_iff.mp h.1;obtain⟨s,rfl⟩:=B1 h.2;exact⟨p::s,rfl⟩
theorem A3 {l m:Int} {d:DL.D} (h:Yc l m d=true):∃ s:List Rat,d=rw s/\l<=s.length/\(s.length:Int)<=m:=by
 cases d with
 | tup xs =>
  unfold Yc at h;simp only[Bool.and_eq_true,decide_eq_true_eq] at h;obtain⟨s,rfl⟩:=B1 h.2;exact⟨s,rfl,by simpa using h.1.1,by simpa using h.1.2⟩
 | _=>cases h
noncomputable def Needs (s:List Rat):Prop:=∀ x∈s,0<=x
noncomputable def ZC (d:DL.D):Bool:=Yc 1 24 d&&match d with | .tup xs=>xs.all YM|_=>false
theorem VM {s:List Rat} (h1:1<=s.length) (h2:s.length<=24):ZC (rw s)=!(s.any fun x=>decide (x<0)):=by
 unfold ZC;rw[Wk %[|5] %[|5],Bool.true_and];show (s.map nm).all YM=_;rw[List.all_map,List.not_any_eq_all_not]
 congr 1
 funext x
 show YM (nm x)=_;rw[Zh,Bool.eq_iff_iff];simp;grind
theorem Needs.any {s:List Rat} (h:Needs s):(s.any fun x=>decide (x<0))=false:=by
 rw[List.any_eq_false];intro x hx;have:=h x hx;simp;grind
noncomputable def S_44:DSp:=fun ds M Q E=>∃ d,ds=[d]/\Gd M d/\∀ M',MExt M M'->if ZC d=true then Q .non M' else E (.exc "NoNeeds" .non) M'
noncomputable def C_44:CSs:=%[.ife (.or (.not (.call "are_steps" S_12 %[.var 0|0])) (.one (.bi .any %[.comp ["needs","need"] 1 (.name 1) (.seq (.var 0)) (.call "is_less" S_8 %[.var 1,.glo "NOUGHT" Z9|0])|0]))) %[.rse "NoNeeds" %[.str "these are no needs"|0]|0] .nil|0]
theorem vc_44:∀ ds M R E,S_44 ds M R E->rSs C_44 (ends R E) (Y1 1 ds) M:=by
 rintro ds M R E ⟨d,rfl,g,q⟩;unfold C_44;sleep 1;refine⟨d,rfl,g,fun M1 x1=>?_⟩;cases h:Yc 1 24 d with
 | false =>
  have:=q M1 x1;rw[show ZC d=false by unfold ZC;rw[h];rfl,if_neg %[|4]] at this;simp;sleep 1;exact this
 | true =>
  obtain⟨s,rfl,h1,h2⟩:=A3 h;simp;have gs:∀ x∈s,Sz 3000 x:=fun x hx=>Ef (g.tup _ (List.mem_map_of_mem hx));refine YB s nm (fun x=>.bl (decide (x<0))) (UO rfl) %[|5] ?_ ?_
  ·intro x hx l M' R' hl ee rr
   obtain⟨z,rfl⟩:=len1 hl;sleep 2;refine⟨x,0,rfl,.mk (gs x hx) UP %[|4],?_⟩;exact rr [_] M' rfl (.refl _)
  intro p2 M2 e2 x2 l2;refine IP l2 ?_;have:=q M2 (x1.trans x2);rw[VM %[|5] %[|5]] at this;cases hb:(s.any fun x=>decide (x<0)) with
  | true =>
   rw[hb,if_neg %[|4]] at this;simp;sleep 1;exact this
  | false =>
   rw[hb,if_pos %[|4]] at this
   simpa using this
noncomputable def S_46:DSp:=fun ds M Q E=>∃ d e,ds=[d,e]/\Gd M d/\Gd M e/\(ZC d=false/\(∀ M',MExt M M'->E (.exc "NoNeeds" .non) M')\/ZC d=true/\YM e=false/\(∀ M',MExt M M'->E (.exc "NoRoom" .non) M') \/
 ∃ s q k,d=rw s/\e=nm q/\Needs s/\Fit s 0 q k/\∀ M',MExt M M'->Q (tb (Yb s 0 q)) M')
noncomputable def C_46:CSs:=%[.expr (.call "want_needs" S_44 %[.var 0|0]),.expr (.call "want_room" S_45 %[.var 1|0]),.ret (.call "tube_round_sums" S_21 %[.var 0,.glo "NOUGHT" Z9,.var 1|0])|0]
theorem vc_46:∀ ds M R E,S_46 ds M R E->rSs C_46 (ends R E) (Y1 2 ds) M:=by
 rintro ds M R E ⟨d,e,rfl,gd,ge,h⟩;unfold C_46;sleep 1;refine⟨d,rfl,gd,fun M1 x1=>?_⟩;rcases h with ⟨h,q⟩|⟨h,h2,q⟩|⟨s,p,k,rfl,rfl,N,F,q⟩
 ·rw[h,if_neg %[|4]]
  exact q M1 x1
 ·rw[h,if_pos rfl]
  sleep 1;refine⟨e,rfl,Gd.ext x1 _ ge,?_⟩;rw[h2,if_neg %[|4]];exact q M1 x1
 ·have:=F.one;have:=F.most
  rw[VM %[|5] %[|5],N.any,if_pos %[|4]];sleep 1;refine⟨nm p,rfl,Gd.ext x1 _ ge,?_⟩;rw[Zh,if_pos (by simpa using F.a0)];sleep 1;exact⟨s,0,p,k,rfl,F.sz,F.sb,F.sa,F.few,F.one,F.most,fun M2 x2=>q M2 (x1.trans x2)⟩
theorem Cg {s:List Rat} {b p:Rat} {k:Nat} (F:Fit s b p k) {r:List Rat} (T:Told (Yb s b p) (26+25*k) r):(∀ x∈r,Sz 3900 x)/\r.length=s.length+1:=by
 have:=F.few;exact⟨fun x hx=>(T.sz x hx).mono %[|5],by rw[T.len,Yz]⟩
noncomputable def S_47:DSp:=fun ds M Q E=>∃ d e,ds=[d,e]/\Gd M d/\Gd M e/\(ZC d=false/\(∀ M',MExt M M'->E (.exc "NoNeeds" .non) M')\/ZC d=true/\YM e=false/\(∀ M',MExt M M'->E (.exc "NoRoom" .non) M') \/
 ∃ s q k,d=rw s/\e=nm q/\Needs s/\Fit s 0 q k/\∀ r M',Told (Yb s 0 q) (26+25*k) r->MExt M M'->Q (rw (Yt r)) M')
noncomputable def C_47:CSs:=%[.ret (.call "differences" S_19 %[.call "cord" S_26 %[.call "store_tube" S_46 %[.var 0,.var 1|0]|0]|0])|0]
theorem vc_47:∀ ds M R E,S_47 ds M R E->rSs C_47 (ends R E) (Y1 2 ds) M:=by
 rintro ds M R E ⟨d,e,rfl,gd,ge,h⟩;unfold C_47;sleep 1;rcases h with ⟨h,q⟩|⟨h,h2,q⟩|⟨s,p,k,rfl,rfl,N,F,q⟩
 ·exact⟨d,e,rfl,gd,ge,.inl ⟨h,q⟩⟩
 ·exact⟨d,e,rfl,gd,ge,.inr (.inl ⟨h,h2,q⟩)⟩
 ·refine⟨_,_,rfl,gd,ge,.inr (.inr ⟨s,p,k,rfl,rfl,N,F,fun M1 x1=>?_⟩)⟩
  have G:=F.fine;have:=F.one;have:=F.most;refine⟨_,rfl,G.gd,.inr ⟨_,_,rfl,G,fun r M2 T x2=>?_⟩⟩;obtain⟨sr,lr⟩:=Cg F T;exact⟨r,3900,rfl,sr,by decide,by omega,by omega,fun M3 x3=>q r M3 T (x1.trans (x2.trans x3))⟩
section
variable {M:Mem} {Q:DK} {r s:List Rat} {t u:List (Rat×Rat)} {p:Rat×Rat} {q:Rat} {xs ys:List DL.D} {lo hi:Option Int} {i j k:Int} {a b:Addr} {d:DL.D}
@[simp] theorem KH:D.tup [nm q]=rw [q]:=rfl
@[simp] theorem KG:D.tup [nm x,nm y]=pl (x,y):=rfl
@[simp] theorem KI:D.tup [pl p]=tb [p]:=rfl
@[simp] theorem Lm:D.tup (r.map nm++nm q::s.map nm)=rw (r++q::s):=by unfold rw;simp
@[simp] theorem KJ:D.tup (t.map pl++pl p::u.map pl)=tb (t++p::u):=by unfold tb;simp
@[simp] theorem J8:bAdd (.int i) (.int j) M Q=Q (.int (i+j)) M:=rfl
@[simp] theorem KW:bAdd (.tup xs) (.tup ys) M Q=(xs.length+ys.length<=sizeLine/\Q (.tup (xs++ys)) M):=rfl
@[simp] theorem KZ:bAdd (.lst a) (.lst b) M Q=(∃ xs ys,M a=some (.ls xs)/\M b=some (.ls ys)/\xs.length+ys.length<=sizeLine/\DL.alloc M (.ls (xs++ys)) fun p M'=>Q (.lst p) M'):=rfl
@[simp] theorem KY:bAdd (rw r) (rw s) M Q=(r.length+s.length<=sizeLine/\Q (rw (r++s)) M):=by
 show ((r.map nm).length+(s.map nm).length<=sizeLine/\Q (.tup (r.map nm++s.map nm)) M)=_;rw[List.length_map,List.length_map,<- List.map_append];rfl
@[simp] theorem DV:bAdd (tb t) (tb u) M Q=(t.length+u.length<=sizeLine/\Q (tb (t++u)) M):=by
 show ((t.map pl).length+(u.map pl).length<=sizeLine/\Q (.tup (t.map pl++u.map pl)) M)=_;rw[List.length_map,List.length_map,<- List.map_append];rfl
@[simp] theorem KE:bAdd (rw r) (.tup ys) M Q=(r.length+ys.length<=sizeLine/\Q (.tup (r.map nm++ys)) M):=by
 show ((r.map nm).length+ys.length<=sizeLine/\Q (.tup (r.map nm++ys)) M)=_;rw[List.length_map]
@[simp] theorem KC:bAdd (.tup ys) (rw r) M Q=(ys.length+r.length<=sizeLine/\Q (.tup (ys++r.map nm)) M):=by
 show (ys.length+(r.map nm).length<=sizeLine/\Q (.tup (ys++r.map nm)) M)=_;rw[List.length_map]
@[simp] theorem KF:bAdd (tb t) (.tup ys) M Q=(t.length+ys.length<=sizeLine/\Q (.tup (t.map pl++ys)) M):=by
 show ((t.map pl).length+ys.length<=sizeLine/\Q (.tup (t.map pl++ys)) M)=_;rw[List.length_map]
@[simp] theorem KD:bAdd (.tup ys) (tb t) M Q=(ys.length+t.length<=sizeLine/\Q (.tup (ys++t.map pl)) M):=by
 show (ys.length+(t.map pl).length<=sizeLine/\Q (.tup (ys++t.map pl)) M)=_;rw[List.length_map]
@[simp] theorem HN:bMul (.int i) (.int j) M Q=(IntMulOk i j/\Q (.int (i*j)) M):=rfl
@[simp] theorem KK:bMul (.tup xs) (.int k) M Q=(0<=k/\k<1000000/\xs.length*k.toNat<=sizeLine/\Q (.tup (List.replicate k.toNat xs).flatten) M):=rfl
@[simp] theorem KM:bMul (.lst a) (.int k) M Q=(∃ xs,M a=some (.ls xs)/\0<=k/\k<1000000/\xs.length*k.toNat<=sizeLine/\DL.alloc M (.ls (List.replicate k.toNat xs).flatten) fun p M'=>Q (.lst p) M'):=rfl
theorem JF (f:α->β) (n:Nat) (r:List α):(List.replicate n (r.map f)).flatten=((List.replicate n r).flatten).map f:=by
 induction n with
 | zero=>rfl
 | succ n ih=>rw [List.replicate_succ,List.replicate_succ,List.flatten_cons,List.flatten_cons,ih,List.map_append]
@[simp] theorem KL:bMul (rw r) (.int k) M Q=(0<=k/\k<1000000/\r.length*k.toNat<=sizeLine/\Q (rw (List.replicate k.toNat r).flatten) M):=by
 show (0<=k/\k<1000000/\(r.map nm).length*k.toNat<=sizeLine/\Q (.tup (List.replicate k.toNat (r.map nm)).flatten) M)=_;rw[List.length_map,JF];rfl
@[simp] theorem KN:bMul (tb t) (.int k) M Q=(0<=k/\k<1000000/\t.length*k.toNat<=sizeLine/\Q (tb (List.replicate k.toNat t).flatten) M):=by
 show (0<=k/\k<1000000/\(t.map pl).length*k.toNat<=sizeLine/\Q (.tup (List.replicate k.toNat (t.map pl)).flatten) M)=_;rw[List.length_map,JF];rfl
theorem Jb (f:α->β) (xs:List α) (lo hi:Option Int):cutG (xs.map f) lo hi=(cutG xs lo hi).map f:=by
 unfold cutG;simp[List.map_take,List.map_drop]
@[simp] theorem Lf:sOp (.fz xs) lo hi M Q=DL.alloc M (.ls (cutG xs lo hi)) fun p M'=>Q (.lst p) M':=rfl
@[simp] theorem Le:sOp (.lst a) lo hi M Q=(∃ xs,M a=some (.ls xs)/\DL.alloc M (.ls (cutG xs lo hi)) fun p M'=>Q (.lst p) M'):=rfl
@[simp] theorem Lc:sOp (.tup xs) lo hi M Q=Q (.tup (cutG xs lo hi)) M:=rfl
@[simp] theorem Ld:sOp (rw r) lo hi M Q=Q (rw (cutG r lo hi)) M:=by
 show Q (.tup (cutG (r.map nm) lo hi)) M=_;rw[Jb];rfl
@[simp] theorem Lg:sOp (tb t) lo hi M Q=Q (tb (cutG t lo hi)) M:=by
 show Q (.tup (cutG (t.map pl) lo hi)) M=_;rw[Jb];rfl
@[simp] theorem Lh:Yj (.tup xs) (some (-1)) M Q=Q (.tup xs.reverse) M:=by unfold Yj;simp
@[simp] theorem Li:Yj (rw r) (some (-1)) M Q=Q (rw r.reverse) M:=by
 unfold Yj;rw[show rw r=.tup (r.map nm) from rfl];simp[rw]
@[simp] theorem Lj:Yj (tb t) (some (-1)) M Q=Q (tb t.reverse) M:=by
 unfold Yj;rw[show tb t=.tup (t.map pl) from rfl];simp[tb]
@[simp] theorem KO:fLen [.tup xs] M Q=Q (.int xs.length) M:=rfl
@[simp] theorem KR:fLen [.fz xs] M Q=Q (.int xs.length) M:=rfl
@[simp] theorem KQ:fLen [.lst a] M Q=(∃ xs,M a=some (.ls xs)/\Q (.int xs.length) M):=rfl
@[simp] theorem KP:fLen [rw r] M Q=Q (.int r.length) M:=by
 show Q (.int (r.map nm).length) M=_;rw[List.length_map]
@[simp] theorem KS:fLen [tb t] M Q=Q (.int t.length) M:=by
 show Q (.int (t.map pl).length) M=_;rw[List.length_map]
@[simp] theorem L7:Y8 [.tup xs] M Q=Q (.tup xs) M:=rfl
@[simp] theorem La:Y8 [.fz xs] M Q=Q (.tup xs) M:=rfl
@[simp] theorem L9:Y8 [.lst a] M Q=(∃ xs,M a=some (.ls xs)/\Q (.tup xs) M):=rfl
@[simp] theorem L8:Y8 [rw r] M Q=Q (rw r) M:=rfl
@[simp] theorem Lb:Y8 [tb t] M Q=Q (tb t) M:=rfl
@[simp] theorem Ln:Yi [.tup xs] M Q=DL.alloc M (.ls xs) fun p M'=>Q (.lst p) M':=rfl
@[simp] theorem Lq:Yi [.fz xs] M Q=DL.alloc M (.ls xs) fun p M'=>Q (.lst p) M':=rfl
@[simp] theorem Lp:Yi [.lst a] M Q=(∃ xs,M a=some (.ls xs)/\DL.alloc M (.ls xs) fun p M'=>Q (.lst p) M'):=rfl
@[simp] theorem Lo:Yi [rw r] M Q=DL.alloc M (.ls (r.map nm)) fun p M'=>Q (.lst p) M':=rfl
@[simp] theorem Ls:Yi [tb t] M Q=DL.alloc M (.ls (t.map pl)) fun p M'=>Q (.lst p) M':=rfl
theorem JK:fIsi [.tup xs,.ty "tuple"] M Q=Q (.bl true) M:=by
 unfold fIsi;simp[tyD,isiT]
@[simp] theorem KT:fIsi [.tup xs,.ty "tuple"] M Q=Q (.bl true) M:=JK
@[simp] theorem LJ:fIsi [nm q,.ty "tuple"] M Q=Q (.bl true) M:=JK
@[simp] theorem LI:fIsi [pl p,.ty "tuple"] M Q=Q (.bl true) M:=JK
@[simp] theorem LH:fIsi [rw r,.ty "tuple"] M Q=Q (.bl true) M:=JK
@[simp] theorem LM:fIsi [tb t,.ty "tuple"] M Q=Q (.bl true) M:=JK
@[simp] theorem LO:fIsi [.non,.ty "tuple"] M Q=Q (.bl false) M:=by unfold fIsi;simp[tyD,isiT]
@[simp] theorem LL:fIsi [.exc n x,.cls c] M Q=Q (.bl (YH n c)) M:=by unfold fIsi;simp
@[simp] theorem KU:fIsi [.non,.cls c] M Q=Q (.bl false) M:=rfl
@[simp] theorem LG:fIsi [.exc n x,.ty "ValueError"] M Q=Q (.bl true) M:=by unfold fIsi;simp[tyD,isiT]
@[simp] theorem Ly:iOp (nm q) (.int 0) M Q=Q (.int q.num) M:=by
 refine propext ⟨fun h=>?_,fun h=>ix0 h⟩;obtain⟨v,e,h⟩:=h;rw[Yf] at e;cases e;exact h
@[simp] theorem Lx:iOp (nm q) (.int 1) M Q=Q (.int q.den) M:=by
 refine propext ⟨fun h=>?_,fun h=>ix1 h⟩;obtain⟨v,e,h⟩:=h;rw[Zv] at e;cases e;exact h
@[simp] theorem Ll:iOp (pl p) (.int 0) M Q=Q (nm p.1) M:=by
 refine propext ⟨fun h=>?_,fun h=>pl0 h⟩;obtain⟨v,e,h⟩:=h;rw[Yf] at e;cases e;exact h
@[simp] theorem Lk:iOp (pl p) (.int 1) M Q=Q (nm p.2) M:=by
 refine propext ⟨fun h=>?_,fun h=>pl1 h⟩;obtain⟨v,e,h⟩:=h;rw[Zv] at e;cases e;exact h
@[simp] theorem LP {n:Nat} {g:DGs} {δ:DSt} {Q:DSt->Mem->Prop}:Yn n g (.tup xs) δ M Q=(xs.length=n/\g xs δ M Q):=by
 unfold Yn;simp
@[simp] theorem LQ {g:DGs} {δ:DSt} {Q:DSt->Mem->Prop}:Yn 2 g (pl p) δ M Q=g [nm p.1,nm p.2] δ M Q:=by
 refine propext ⟨fun h=>?_,fun h=>⟨_,rfl,rfl,h⟩⟩;obtain⟨ds,e,_,h⟩:=h;cases e;exact h
@[simp] theorem LR {g:DGs} {δ:DSt} {Q:DSt->Mem->Prop}:Yn 2 g (nm q) δ M Q=g [.int q.num,.int q.den] δ M Q:=by
 refine propext ⟨fun h=>?_,fun h=>⟨_,rfl,rfl,h⟩⟩;obtain⟨ds,e,_,h⟩:=h;cases e;exact h
@[simp] theorem Lz:Yh (.tup xs) M R=R xs (fun _=>True) M:=rfl
@[simp] theorem LE:Yh (.fz xs) M R=R xs (fun _=>True) M:=rfl
@[simp] theorem LB:Yh (.lst a) M R=(∃ xs,M a=some (.ls xs)/\R xs (fun M'=>M' a=some (.ls xs)) M):=rfl
@[simp] theorem LA:Yh (rw r) M R=R (r.map nm) (fun _=>True) M:=rfl
@[simp] theorem LF:Yh (tb t) M R=R (t.map pl) (fun _=>True) M:=rfl
@[simp] theorem Lu:JN [rw r,rw s] M R=R ((List.zip r s).map fun z=>pl z) (fun _=>True) M:=by
 show R (zipD (r.map nm) (s.map nm)) _ _=_;unfold zipD;rw[List.zipWith_map,List.zip,List.map_zipWith];rfl
@[simp] theorem Lw:JN [tb t,rw s] M R=R ((List.zip t s).map fun z=>.tup [pl z.1,nm z.2]) (fun _=>True) M:=by
 show R (zipD (t.map pl) (s.map nm)) _ _=_;unfold zipD;rw[List.zipWith_map,List.zip,List.map_zipWith]
@[simp] theorem Lv:JN [rw s,tb t] M R=R ((List.zip s t).map fun z=>.tup [nm z.1,pl z.2]) (fun _=>True) M:=by
 show R (zipD (s.map nm) (t.map pl)) _ _=_;unfold zipD;rw[List.zipWith_map,List.zip,List.map_zipWith]
@[simp] theorem LY:cIs neg (nm q) .non M Q=Q (.bl neg) M:=by unfold cIs nm;cases neg<;>rfl
@[simp] theorem LX:cIs neg (rw r) .non M Q=Q (.bl neg) M:=by unfold cIs rw;cases neg<;>rfl
@[simp] theorem LZ:cIs neg (tb t) .non M Q=Q (.bl neg) M:=by unfold cIs tb;cases neg<;>rfl
@[simp] theorem LU:cIs neg (.exc n x) .non M Q=Q (.bl neg) M:=by unfold cIs;cases neg<;>rfl
@[simp] theorem Ma:cIs neg .non .non M Q=Q (.bl !neg) M:=by unfold cIs;cases neg<;>rfl
@[simp] theorem LS {neg b c:Bool}:cIs neg (.bl b) (.bl c) M Q=Q (.bl (if neg then !(b==c) else b==c)) M:=by unfold cIs;cases neg<;>rfl
end
theorem Wf {s:CS} {rest:CSs} {D:DEnds} {δ:DSt} {M:Mem} (h:∀ J:DSt->Mem->Prop,(∀ δ' M',rSs rest D δ' M'->J δ' M')->rS s {D with nx:=J} δ M):rSs (.cons s rest) D δ M:=by
 rw[Yr];exact h _ fun _ _ h=>h
theorem Jd (xs:List α) (n:Nat) (h:n<=xs.length):cutG xs none (some (n:Int))=xs.take n:=by
 unfold cutG;rw[HT.sIx_none,HT.sIx_nat,List.drop_zero,Nat.sub_zero,Nat.min_eq_left %[|5]]
theorem Jc (xs:List α) (n:Nat) (h:n<=xs.length):cutG xs (some (n:Int)) none=xs.drop n:=by
 unfold cutG;rw[HT.sIx_none,HT.sIx_nat,Nat.min_eq_left %[|5],List.take_of_length_le (by simp)]
end K
end
set_option bootstrap.genMatcherCode true
local macro_rules
 | `(tactic| sleep 7)=>`(tactic| ((try dsimp only);rw[Yr];sleep 8))
 | `(tactic| sleep 8)=>`(tactic| ((try dsimp only[0,vAt,vHd,List.set_cons_succ,List.set_cons_zero,List.cons_append,List.nil_append,List.map,List.length_cons,List.length_nil,Nat.reduceAdd,Nat.reduceSub,List.replicate_succ,List.replicate_zero,Y9,X1,Yu,dFld,Wc,Wd,Wb]);try simp[0,vAt,vHd,Y9,and_assoc,sizeLine_eq,Yq,X1,Yu,dFld,Wc,Wd,Wb]))
 | `(tactic| sleep 9)=>`(tactic| ((try dsimp only);rw[Yr];(try dsimp only[rS,rI,dFor,YI]);sleep 8))
set_option bootstrap.genMatcherCode false
noncomputable section
namespace K
open PySem DL Q
noncomputable def S_16:DSp:=fun ds M Q E=>∃ d,ds=[d]/\Gd M d/\∀ M',MExt M M'->if Zl d=true then Q .non M' else E (.exc "NoTube" .non) M'
noncomputable def C_16:CSs:=%[.ife (.not (.call "is_tube" S_14 %[.var 0|0])) %[.rse "NoTube" %[.str "this is no tube"|0]|0] .nil|0]
theorem vc_16:∀ ds M R E,S_16 ds M R E->rSs C_16 (ends R E) (Y1 1 ds) M:=by
 rintro ds M R E ⟨d,rfl,gd,h⟩;unfold C_16;sleep 7;refine⟨d,rfl,gd,fun M' e=>?_⟩;have:=h M' e;cases q:Zl d with
 | true=>rw [q,if_pos rfl] at this;simpa using this
 | false =>
  rw[q,if_neg %[|4]] at this;simp;sleep 7;exact this
theorem YD {s:List Rat} {k:Nat} (h:k<s.length):Y2 s (k+1)=Y2 s k+ri s k:=VA h
structure TautOf (s:List Rat) (b a:Rat) (x:List Rat):Prop where
 len:x.length=s.length
 fin:Y2 x s.length=Y2 s s.length
 low:∀ k,0<k->k<s.length->-b<=Y2 x k-Y2 s k
 high:∀ k,0<k->k<s.length->Y2 x k-Y2 s k<=a
 up:∀ k,0<k->k<s.length->ri x (k-1)<ri x k->Y2 x k-Y2 s k=a
 down:∀ k,0<k->k<s.length->ri x k<ri x (k-1)->Y2 x k-Y2 s k=-b
theorem Zs {s:List Rat} {b a:Rat} {k:Nat} (h0:0<k) (h:k<s.length):lo (Yb s b a) k=Y2 s k-b/\hi (Yb s b a) k=Y2 s k+a:=by
 unfold lo hi;rw[Z4 %[|5]];unfold YT;rw[if_neg %[|5],if_neg %[|5]];exact⟨rfl,rfl⟩
theorem J6 {s:List Rat} {b a:Rat} (h:1<=s.length):lo (Yb s b a) 0=0/\hi (Yb s b a) 0=0/\lo (Yb s b a) s.length=Y2 s s.length/\hi (Yb s b a) s.length=Y2 s s.length:=by
 unfold lo hi;rw[Z4 %[|5],Z4 %[|5]];unfold YT;rw[if_pos rfl,if_neg %[|5],if_pos rfl];exact⟨rfl,rfl,rfl,rfl⟩
theorem Yd {x:List Rat} {k:Nat}:ri (Y4 0 x) k=Y2 x k:=rfl
theorem Zz {x:List Rat} {k:Nat} (h:k<x.length):Y2 x (k+1)-Y2 x k=ri x k:=by rw[YD h];grind
theorem UN {s:List Rat} {b a:Rat} {K:Nat} {r:List Rat} (h1:1<=s.length) (T:Told (Yb s b a) K r):TautOf s b a (Yt r)/\r=Y4 0 (Yt r):=by
 have L:=T.len;rw[Yz] at L;have E:=J6 (b:=b) (a:=a) h1;have f:=T.first;have l:=T.last;rw[Yz,Nat.add_sub_cancel] at l;rw[E.1] at f;rw[E.2.2.1] at l;have er:Y4 0 (Yt r)=r:=by
  have:=Jw (r:=r) %[|5];rw[f] at this;exact this
 have sl:=BD r;have at_:∀ k,ri r k=Y2 (Yt r) k:=fun k=>by
  show ri r k=ri (Y4 0 (Yt r)) k;rw[er]
 have tt:=T.taut;rw[Yz,Nat.add_sub_cancel] at tt;refine⟨⟨by omega,by rw[<- at_];exact l,fun k k0 kn=>?_,fun k k0 kn=>?_,fun k k0 kn hu=>?_,fun k k0 kn hu=>?_⟩,er.symm⟩
 ·have:=tt.low k %[|5]
  rw[(Zs k0 kn).1] at this;rw[<- at_];grind
 ·have:=tt.high k %[|5]
  rw[(Zs k0 kn).2] at this;rw[<- at_];grind
 ·have e1:=Wq (r:=r) (i:=k-1) %[|5]
  have e2:=Wq (r:=r) (i:=k) %[|5];rw[show k-1+1=k by omega] at e1;have:=tt.up k k0 kn (by rw[<- e1,<- e2];exact hu);rw[(Zs k0 kn).2] at this;rw[<- at_];grind
 ·have e1:=Wq (r:=r) (i:=k-1) %[|5]
  have e2:=Wq (r:=r) (i:=k) %[|5];rw[show k-1+1=k by omega] at e1;have:=tt.down k k0 kn (by rw[<- e1,<- e2];exact hu);rw[(Zs k0 kn).1] at this;rw[<- at_];grind
theorem Wo {s:List Rat} {b a:Rat} {x:List Rat} (h1:1<=s.length) (b0:0<=b) (a0:0<=a) (X:TautOf s b a x):Taut (lo (Yb s b a)) (hi (Yb s b a)) (ri (Y4 0 x)) s.length:=by
 have E:=J6 (b:=b) (a:=a) h1;have xl:=X.len;have z0:Y2 x 0=0:=Ya x;have fin:=X.fin;refine⟨fun k hk=>?_,fun k hk=>?_,fun k k0 kn hu=>?_,fun k k0 kn hu=>?_⟩
 ·rw[Yd]
  rcases (by omega:k=0\/k=s.length\/(0<k/\k<s.length)) with rfl|rfl|⟨k0,kn⟩
  ·rw[E.1,z0];exact Rat.le_refl
  ·rw[E.2.2.1,fin];exact Rat.le_refl
  ·rw[(Zs k0 kn).1]
   have:=X.low k k0 kn;grind
 ·rw[Yd]
  rcases (by omega:k=0\/k=s.length\/(0<k/\k<s.length)) with rfl|rfl|⟨k0,kn⟩
  ·rw[E.2.1,z0];exact Rat.le_refl
  ·rw[E.2.2.2,fin];exact Rat.le_refl
  ·rw[(Zs k0 kn).2]
   have:=X.high k k0 kn;grind
 ·rw[Yd,Yd,Yd] at hu
  have e2:=Zz (x:=x) (k:=k) %[|5];have e1:=Zz (x:=x) (k:=k-1) %[|5];rw[show k-1+1=k by omega] at e1;rw[e1,e2] at hu;have:=X.up k k0 kn hu;rw[Yd,(Zs k0 kn).2];grind
 ·rw[Yd,Yd,Yd] at hu
  have e2:=Zz (x:=x) (k:=k) %[|5];have e1:=Zz (x:=x) (k:=k-1) %[|5];rw[show k-1+1=k by omega] at e1;rw[e1,e2] at hu;have:=X.down k k0 kn hu;rw[Yd,(Zs k0 kn).1];grind
theorem KB {a b f:Rat} (hf:f<0):a*f<b*f->b<a:=by
 intro h;apply Decidable.byContradiction;intro hn;have:=Rat.mul_le_mul_of_nonneg_right (show a<=b by grind) (show 0<=-f by grind);grind
theorem TautOf.own (s:List Rat):TautOf s 0 0 s:=by
 refine⟨rfl,rfl,fun k _ _=>by grind,fun k _ _=>by grind,fun k _ _ _=>by grind,fun k _ _ _=>by grind⟩
theorem Z3 (c:Rat) (n:Nat):∀ k,k<=n->Y2 (List.replicate n c) k=(k:Rat)*c
 | 0,_=>by rw[Ya];grind
 | k+1,h=>by
  rw[YD (by simp;omega),Z3 c n k %[|5]];have e:ri (List.replicate n c) k=c:=by
   have:k<n:=by omega
   simp[ri,List.getD,this]
  rw[e];have:((k+1:Nat):Rat)=(k:Rat)+1:=by push_cast;rfl
  grind
theorem Ze {c:Rat} {n k:Nat} (h:k<n):ri (List.replicate n c) k=c:=by simp[ri,List.getD,h]
noncomputable def mag (p:Rat):Rat:=if p<0 then -p else p
theorem HL (x:Rat):x<=mag x/\-x<=mag x/\0<=mag x:=by unfold mag;split<;>refine⟨?_,?_,?_⟩<;>grind
noncomputable def FF (n:Str):List Bool:=[YH n "NoNumber",YH n "NoText",YH n "NoTube",YH n "NoRow",YH n "NoMeasure",YH n "NoLevel",YH n "NoData",YH n "NoPrice",YH n "NoNeeds",YH n "NoRoom",YH n "NoJobs",YH n "NoCall",YH n "NoKept"]
structure Only (n:Str) (i:Int):Prop where
 c:YH n "CordError"=true
 k:FF n=(List.range 13).map fun j:Nat=>decide ((j:Int)=i)
structure Pt where
 up:Bool
 at_:Rat
 wt:Rat
noncomputable def sd (b:Bool):DL.D:=.str (if b then "above" else "below")
noncomputable def pt (p:Pt):DL.D:=.tup [sd p.up,nm p.at_,nm p.wt]
noncomputable def md (ms:List Pt):DL.D:=.tup (ms.map pt)
noncomputable def Gr (L B:Nat) (x:Rat):Prop:=∃ n:Int,x=Rat.divInt n (L:Int)/\n.natAbs<=B
theorem Gr.mono (h:Gr L B x) (c:B<=C):Gr L C x:=by obtain⟨n,e,b⟩:=h;exact⟨n,e,by omega⟩
theorem Gr.sz (h:Gr L B x) (l0:0<L) (hL:L<2 ^ m) (hB:B<2 ^ m):Sz m x:=by
 obtain⟨n,rfl,b⟩:=h;exact ZE %[|5] %[|5] (by simpa using hL)
theorem Vd (h:c≠0):Rat.divInt a c+Rat.divInt b c=Rat.divInt (a+b) c:=by
 rw[Rat.divInt_add_divInt _ _ h h,<- Int.add_mul,Rat.divInt_mul_right h]
theorem Gr.add (l0:0<L) (h:Gr L B x) (g:Gr L C y):Gr L (B+C) (x+y):=by
 obtain⟨n,rfl,b⟩:=h;obtain⟨m,rfl,c⟩:=g;refine⟨n+m,Vd %[|5],?_⟩;have:=Int.natAbs_add_le n m;omega
theorem Gr.neg (h:Gr L B x):Gr L B (-x):=by
 obtain⟨n,rfl,b⟩:=h;exact⟨-n,Rat.neg_divInt n _,by omega⟩
theorem Gr.sub (l0:0<L) (h:Gr L B x) (g:Gr L C y):Gr L (B+C) (x-y):=by
 rw[Rat.sub_eq_add_neg];exact h.add l0 g.neg
theorem Gr.zero:Gr L B 0:=⟨0,by rw[Rat.zero_divInt],by simp⟩
theorem Gr.div (h:Gr L B x) (d0:0<d) (dW:d ∣ W) (l0:0<L) (w0:0<W):Gr (L*W) (B*W) (x / (d:Rat)):=by
 obtain⟨n,rfl,b⟩:=h;obtain⟨k,rfl⟩:=dW;have k0:k≠0:=fun z=>by subst z;simp at w0
 refine⟨n*k,?_,?_⟩
 ·have e1:((d:Nat):Rat)=Rat.divInt (d:Int) 1:=(Yl ((d:Int):Rat)).symm
  rw[Rat.div_def,e1,Rat.inv_divInt,Rat.divInt_mul_divInt,Int.mul_one];have e2:((L*(d*k):Nat):Int)=((L:Int)*(d:Int))*(k:Int):=by push_cast;rw[Int.mul_assoc]
  rw[e2,Rat.divInt_mul_right %[|5]]
 ·rw[Int.natAbs_mul]
  have h1:((k:Int)).natAbs=k:=by simp
  rw[h1];exact Nat.le_trans (Nat.mul_le_mul_right _ b) (Nat.mul_le_mul_left _ (Nat.le_mul_of_pos_left k d0))
theorem Gr.up (h:Gr L B x) (l0:0<L) (w0:0<W):Gr (L*W) (B*W) x:=by
 have:=h.div (d:=1) %[|4] (Nat.one_dvd W) l0 w0
 rwa [show x / ((1:Nat):Rat)=x by rw[show ((1:Nat):Rat)=1 from rfl];grind] at this
theorem GQ:∀ d:_root_.Fin 25,0<d.val->d.val ∣ 5354228880:=by decide +kernel
theorem WR (hb:0<b) (hd:b.toNat ∣ L) (l0:0<L) (ha:a.natAbs*L<=B):Gr L B (Rat.divInt a b):=by
 obtain⟨k,rfl⟩:=hd;have k0:k≠0:=fun z=>by subst z;simp at l0
 refine⟨a*k,?_,?_⟩
 ·have:((b.toNat*k:Nat):Int)=b*(k:Int):=by push_cast;rw[Int.toNat_of_nonneg %[|5]]
  rw[this,Rat.divInt_mul_right %[|5]]
 ·rw[Int.natAbs_mul]
  have h1:((k:Int)).natAbs=k:=by simp
  rw[h1];exact Nat.le_trans (Nat.mul_le_mul_left _ (Nat.le_mul_of_pos_left k %[|5])) ha
theorem XL (ha:0<a) (hb:0<b):0<Rat.divInt a b:=by
 rw[Rat.divInt_eq_div];have hb':(0:Rat)<(b:Rat):=by exact_mod_cast hb
 have ha':(0:Rat)<(a:Rat):=by exact_mod_cast ha
 refine Rat.not_le.mp fun h=>?_;have h2:=Rat.mul_le_mul_of_nonneg_right h (Rat.le_of_lt hb');rw[Rat.div_mul_cancel (by grind)] at h2;grind
theorem Ag (n:Nat) (h:n<=100):Builtin.Range.small 0 (n:Int) 4=true/\0<=Builtin.Range.rangeSize 0 (n:Int) 4/\rngN 0 (n:Int) 4<=n:=by
 have key:∀ m:_root_.Fin 101,Builtin.Range.small 0 ((m.val:Nat):Int) 4=true/\0<=Builtin.Range.rangeSize 0 ((m.val:Nat):Int) 4/\rngN 0 ((m.val:Nat):Int) 4<=m.val:=by decide +kernel
 exact key ⟨n,by omega⟩
section
variable {ms:List Pt} {s:List Rat} {L B W C:Nat}
end
theorem VR:∀ {items:List DL.D} (I:Nat->DSt->Mem->Prop),(∀ i δ M,I i δ M->keep M)->(∀ δ M,I items.length δ M->Q δ M) ->
  (∀ i x,items[i]?=some x->∀ N:DSt->Mem->Prop,(∀ δ M,I (i+1) δ M->N δ M)->∀ δ M,I i δ M->g x δ M fun δ1 M1=>b δ1 M1 N)->∀ {δ M},I 0 δ M->Wa g b keep items δ M Q
 | [],I,hk,he,ht,δ,M,h0=>he δ M h0
 | x::xs,I,hk,he,ht,δ,M,h0=>by
  unfold Wa;exact ht 0 x rfl _ (fun δ' M' i'=>⟨hk _ δ' M' i',VR (fun i=>I (i+1)) (fun i=>hk (i+1)) he (fun i y hy N hN=>ht (i+1) y (by simpa using hy) N hN) i'⟩) δ M h0
noncomputable def wy (b:Bool):DL.D:=.str (if b then "up" else "down")
noncomputable def bd (z:Nat×Bool):DL.D:=.tup [.int z.1,wy z.2]
theorem Ue {lo hi r:Nat->Rat} {n:Nat} (T:Taut lo hi r n) (h0:r 0=lo 0):∀ i,i<n->∃ b,b<=i/\(r b=lo b\/r b=hi b)/\∀ m,b<=m->m<=i+1->r m=r b+((m-b:Nat):Rat)*(r (i+1)-r i)
 | 0,_=>⟨0,Nat.le_refl _,.inl h0,fun m _ h=>by
   rcases (by omega:m=0\/m=1) with rfl|rfl
   ·show r 0=r 0+(0:Rat)*_;grind
   ·show r 1=r 0+(1:Rat)*(r 1-r 0);grind⟩
 | i+1,h=>by
  by_cases c:r (i+1)-r i=r (i+2)-r (i+1)
  ·obtain⟨b,b1,b2,b3⟩:=Ue T h0 i %[|5]
   refine⟨b,by omega,b2,fun m m1 m2=>?_⟩;show r m=r b+_*(r (i+2)-r (i+1));rcases (by omega:m=i+2\/m<=i+1) with rfl|q
   ·have:=b3 (i+1) %[|5] %[|5]
    rw[show i+2-b=(i+1-b)+1 by omega];have e:((i+1-b+1:Nat):Rat)=((i+1-b:Nat):Rat)+1:=by push_cast;rfl
    rw[e,<- c];grind
   ·rw[b3 m m1 q,c]
  ·refine⟨i+1,Nat.le_refl _,?_,fun m m1 m2=>?_⟩
   ·rcases tri (r (i+1)-r i) (r (i+2)-r (i+1)) with z|z|z
    ·exact .inr (T.up (i+1) %[|5] h (by rw[Nat.add_sub_cancel];exact z))
    ·exact absurd z c
    ·exact .inl (T.down (i+1) %[|5] h (by rw[Nat.add_sub_cancel];exact z))
   ·rcases (by omega:m=i+1\/m=i+2) with rfl|rfl
    ·rw[Nat.sub_self];show r (i+1)=r (i+1)+(0:Rat)*_;grind
    ·rw[show i+2-(i+1)=1 by omega];show r (i+2)=r (i+1)+(1:Rat)*(r (i+2)-r (i+1));grind
theorem Vx {lo hi r:Nat->Rat} {n:Nat} (T:Taut lo hi r n) (hn:r n=lo n):∀ d i,n-i=d->i<n->∃ e,i<e/\e<=n/\(r e=lo e\/r e=hi e)/\r e=r i+((e-i:Nat):Rat)*(r (i+1)-r i)
 | 0,i,q,h=>by omega
 | d+1,i,q,h=>by
  by_cases hl:i+1=n
  ·refine⟨i+1,by omega,by omega,.inl (by rw[hl];exact hn),?_⟩
   rw[show i+1-i=1 by omega];show r (i+1)=r i+(1:Rat)*_;grind
  ·by_cases c:r (i+1)-r i=r (i+2)-r (i+1)
   ·obtain⟨e,e1,e2,e3,e4⟩:=Vx T hn d (i+1) %[|5] %[|5]
    refine⟨e,by omega,e2,e3,?_⟩;rw[e4,show r (i+1+1)-r (i+1)=r (i+1)-r i from c.symm,show e-i=(e-(i+1))+1 by omega];have e':((e-(i+1)+1:Nat):Rat)=((e-(i+1):Nat):Rat)+1:=by push_cast;rfl
    rw[e'];grind
   ·refine⟨i+1,by omega,by omega,?_,?_⟩
    ·rcases tri (r (i+1)-r i) (r (i+2)-r (i+1)) with z|z|z
     ·exact .inr (T.up (i+1) %[|5] %[|5] (by rw[Nat.add_sub_cancel];exact z))
     ·exact absurd z c
     ·exact .inl (T.down (i+1) %[|5] %[|5] (by rw[Nat.add_sub_cancel];exact z))
    ·rw[show i+1-i=1 by omega];show r (i+1)=r i+(1:Rat)*_;grind
noncomputable def rn (z:Rat×Nat):DL.D:=.tup [nm z.1,.int (z.2:Int)]
noncomputable def putR (ts:List (Rat×Nat)) (z:Rat×Nat):List (Rat×Nat):=if (ts.getLast?.any fun t=>decide (t.1=z.1))=true then ts.dropLast++[(z.1,(ts.getLast?.map (·.2)).getD 0+z.2)] else ts++[z]
noncomputable def Yk (rs:List (Rat×Nat)):List (Rat×Nat):=rs.foldl putR []
theorem Zk (rs:List (Rat×Nat)) (z:Rat×Nat):Yk (rs++[z])=putR (Yk rs) z:=by unfold Yk;rw[List.foldl_append];rfl
theorem VH (ts:List (Rat×Nat)) (z:Rat×Nat):(putR ts z).length<=ts.length+1:=by
 unfold putR;split<;>simp<;>omega
theorem Xg (rs:List (Rat×Nat)):∀ i,(Yk (rs.take i)).length<=i
 | 0=>by simp[Yk]
 | i+1=>by
  by_cases h:i<rs.length
  ·rw[List.take_succ_eq_append_getElem h,Zk]
   have:=VH (Yk (rs.take i)) rs[i];have:=Xg rs i;omega
  ·rw[List.take_of_length_le %[|5]]
   have:=Xg rs i;rw[List.take_of_length_le %[|5]] at this;omega
noncomputable def S_37:DSp:=fun ds M Q E=>∃ p rs,ds=[.lst p]/\M p=some (.ls (rs.map rn))/\rs.length<=100/\∀ p' M',M p'=none->MExt M M'->M' p'=some (.ls ((Yk rs).map rn))->Q (.lst p') M'
noncomputable def C_37:CSs:=%[.set 1 (.lst .nil),.fr (.tup %[.name 2,.name 3|0]) (.seq (.var 0)) %[.ife (.and (.var 1) (.one (.cmp .Eq (.ix (.ix (.var 1) (.neg (.int 1))) (.int 0)) (.var 2)))) %[.asg (.sub (.var 1) (.neg (.int 1))) (.tup %[.var 2,.bin .Add (.ix (.ix (.var 1) (.neg (.int 1))) (.int 1)) (.var 3)|0])|0] %[.expr (.app 1 (.tup %[.var 2,.var 3|0]))|0]|0],.ret (.var 1)|0]
theorem vc_37:∀ ds M R E,S_37 ds M R E->rSs C_37 (ends R E) (Y1 4 ds) M:=by
 rintro ds M R E ⟨p,rs,rfl,l,hl,q⟩;unfold C_37;sleep 7;intro p0 M0 e0 x0 l0;have hpp:p≠p0:=fun z=>by rw[<- z,l] at e0;cases e0
 sleep 9;refine⟨_,x0 _ _ l,?_⟩;refine YN (fun i δ M'=>∃ (w2 w3:Option DL.D),MExt M M'/\M' p0=some (.ls ((Yk (rs.take i)).map rn))/\δ=[some (.lst p),some (.lst p0),w2,w3]) (fun _ _ _ h=>by obtain⟨_,_,x,_⟩:=h;exact x _ _ l) ?_ ?_ ⟨_,_,x0,l0,rfl⟩
 ·rintro δ M' ⟨w2,w3,x,lt,rfl⟩
  rw[List.length_map,List.take_length] at lt;sleep 7;exact q p0 M' e0 x lt
 ·rintro i y hy N hN δ M' ⟨w2,w3,x,lt,rfl⟩
  obtain⟨hi,rfl⟩:∃ hi:i<rs.length,y=rn rs[i]:=by
   obtain⟨h,e⟩:=List.getElem?_eq_some_iff.mp hy;have h':i<rs.length:=by simpa using h
   exact⟨h',by rw[<- e];simp⟩
  have tk:Yk (rs.take (i+1))=putR (Yk (rs.take i)) rs[i]:=by rw[List.take_succ_eq_append_getElem hi,Zk]
  have jl:=Xg rs i;generalize Yk (rs.take i)=ts at lt tk jl;generalize rs[i]=z at tk;obtain⟨h,m⟩:=z;rw[show rn (h,m)=.tup [nm h,.int (m:Int)] from rfl];sleep 8;sleep 7;refine⟨_,lt,?_⟩;have app:∀ DD:DEnds,DD.nx=N->putR ts (h,m)=ts++[(h,m)]->rSs (.cons (.expr (.app 1 (.tup (.cons (.var 2) (.cons (.var 3) .nil))))) .nil) DD [some (.lst p),some (.lst p0),some (nm h),some (.int (m:Int))] M':=by
   intro DD hD ep;sleep 7;rw[hD];refine⟨⟨_,lt⟩,_,lt,by rw[List.length_map];omega,?_⟩;refine hN _ _ ⟨_,_,MExt.upd_new e0 x,?_,rfl⟩;rw[mupd_same,tk,ep,List.map_append];rfl
  by_cases c:ts=[]
  ·subst c
   simp;exact app _ rfl (by simp[putR])
  ·have c':¬ ts.map rn=[]:=by simpa using c
   simp only[c',if_false];obtain⟨u,k,hu⟩:∃ u k,ts.getLast?=some (u,k):=⟨_,_,List.getLast?_eq_some_getLast c⟩;have hlast:L2.atI (ts.map rn) (-1)=some (rn (u,k)):=by
    rw[W8 c'];have:(ts.map rn).getLast?=some (rn (u,k)):=by rw[List.getLast?_map,hu];rfl
    rw[List.getLast?_eq_some_getLast c'] at this;exact this
   refine YZ lt hlast ?_;rw[show rn (u,k)=.tup [nm u,.int (k:Int)] from rfl];refine tix (v:=nm u) (Yf _ _) ?_;refine Bg false ?_;by_cases he:u=h
   ·subst he
    simp;sleep 7;refine YZ lt hlast ?_;rw[show rn (u,k)=.tup [nm u,.int (k:Int)] from rfl];refine tix (v:=.int (k:Int)) (Zv _ _ _) ?_;sleep 8;have ln:0<ts.length:=List.length_pos_iff.mpr c;refine⟨_,lt,ts.length-1,by simp[L2.ixN];omega,?_⟩;refine hN _ _ ⟨_,_,MExt.upd_new e0 x,?_,rfl⟩;rw[mupd_same,tk];have ep:putR ts (u,m)=ts.dropLast++[(u,k+m)]:=by simp[putR,hu]
    rw[ep]
    congr 2
    have es:ts=ts.dropLast++[(u,k)]:=by
     have:=List.dropLast_concat_getLast c;rw[List.getLast?_eq_some_getLast c] at hu;injection hu with hu
     rw[hu] at this;exact this.symm
    have hd:ts.dropLast.length=ts.length-1:=List.length_dropLast;generalize ts.length-1=n at hd;generalize ts.dropLast=t0 at es hd;subst es;rw[List.map_append,List.map_append,List.set_append_right _ _ (by rw[List.length_map];omega)];simp[rn,hd]
   ·simp[he]
    exact app _ rfl (by simp[putR,hu,he])
noncomputable def Y0 (rs:List (Rat×Nat)):List Rat:=rs.flatMap fun z=>List.replicate z.2 z.1
theorem ZJ (rs:List (Rat×Nat)) (z:Rat×Nat):Y0 (rs++[z])=Y0 rs++List.replicate z.2 z.1:=by unfold Y0;rw[List.flatMap_append];simp
noncomputable def S_38:DSp:=fun ds M Q E=>∃ p rs,ds=[.lst p]/\M p=some (.ls (rs.map rn))/\(∀ i,(Y0 (rs.take i)).length<=1000)/\(∀ z∈rs,z.2<=1000)/\∀ M',MExt M M'->Q (rw (Y0 rs)) M'
noncomputable def C_38:CSs:=%[.set 1 (.lst .nil),.fr (.tup %[.name 2,.name 3|0]) (.seq (.var 0)) %[.expr (.ext 1 (.bin .Mult (.lst %[.var 2|0]) (.var 3)))|0],.ret (.bi .tuple %[.var 1|0])|0]
theorem vc_38:∀ ds M R E,S_38 ds M R E->rSs C_38 (ends R E) (Y1 4 ds) M:=by
 rintro ds M R E ⟨p,rs,rfl,l,hl,hz,q⟩;unfold C_38;sleep 7;intro p0 M0 e0 x0 l0;sleep 9;refine⟨_,x0 _ _ l,?_⟩;refine YN (fun i δ M'=>∃ (w2 w3:Option DL.D),MExt M M'/\M' p0=some (.ls ((Y0 (rs.take i)).map nm))/\δ=[some (.lst p),some (.lst p0),w2,w3]) (fun _ _ _ h=>by obtain⟨_,_,x,_⟩:=h;exact x _ _ l) ?_ ?_ ⟨_,_,x0,l0,rfl⟩
 ·rintro δ M' ⟨w2,w3,x,lt,rfl⟩
  rw[List.length_map,List.take_length] at lt;sleep 7;exact⟨_,lt,q M' x⟩
 ·rintro i y hy N hN δ M' ⟨w2,w3,x,lt,rfl⟩
  obtain⟨hi,rfl⟩:∃ hi:i<rs.length,y=rn rs[i]:=by
   obtain⟨h,e⟩:=List.getElem?_eq_some_iff.mp hy;have h':i<rs.length:=by simpa using h
   exact⟨h',by rw[<- e];simp⟩
  have tk:Y0 (rs.take (i+1))=Y0 (rs.take i)++List.replicate rs[i].2 rs[i].1:=by rw[List.take_succ_eq_append_getElem hi,ZJ]
  have h1:=hl i;have h2:=hz _ (List.getElem_mem hi);generalize rs[i]=z at tk h2;obtain⟨h,m⟩:=z;rw[show rn (h,m)=.tup [nm h,.int (m:Int)] from rfl];sleep 8;sleep 7;refine⟨⟨_,lt⟩,?_⟩;intro p2 M2 e2 x2 l2;refine⟨_,l2,by omega,by simp;omega,?_⟩;intro p3 M3 e3 x3 l3;refine⟨_,x3 _ _ (x2 _ _ lt),_,l3,by simp;omega,?_⟩;refine hN _ _ ⟨_,_,MExt.upd_new e0 (x.trans (x2.trans x3)),?_,rfl⟩;rw[mupd_same,tk,List.map_append]
  congr 2
  simp
theorem UA {ti:DI} {tt:DT} {te:DE} {δ:DSt} {M:Mem} {Q:DK} {j:Nat} (xs:List Rat) (P:Rat->Bool) (hn:δ.length=j)
  (hti:∀ R:List DL.D->(Mem->Prop)->Mem->Prop,(∀ keep,(∀ M',MExt M M'->keep M')->R (xs.map nm) keep M)->ti δ M R) (hlen:xs.length<=1000)
  (ht:∀ x∈xs,∀ M' (Qt:Bool->Mem->Prop),MExt M M'->Qt (P x) M'->tt (δ++[some (nm x)]) M' Qt)
  (he:∀ x∈xs,∀ M' (Qe:DK),MExt M M'->Qe (nm x) M'->te (δ++[some (nm x)]) M' Qe)
  (hq:∀ p M',M p=none->MExt M M'->M' p=some (.ls ((xs.filter P).map nm))->Q (.lst p) M'):XN 1 ti (Xp j) (bIf tt (XR te)) δ M Q:=by
 refine hti _ fun keep hk p hp=>⟨hk _ (.new hp),?_⟩;refine VR (fun i δ' M'=>(∃ w,δ'=δ++[w])/\MExt M M'/\M' p=some (.ls (((xs.take i).filter P).map nm))) (fun _ _ _ h=>hk _ h.2.1) ?_ ?_ ⟨⟨none,rfl⟩,.new hp,mupd_same⟩
 ·rintro δ' M' ⟨_,x,l⟩
  rw[List.length_map,List.take_length] at l;exact⟨⟨_,l⟩,hq p M' hp x l⟩
 ·rintro i y hy N hN δ' M' ⟨⟨w,rfl⟩,x,l⟩
  obtain⟨hi,rfl⟩:∃ hi:i<xs.length,y=nm xs[i]:=by
   obtain⟨h,e⟩:=List.getElem?_eq_some_iff.mp hy;have h':i<xs.length:=by simpa using h
   exact⟨h',by rw[<- e];simp⟩
  have hm:=List.getElem_mem hi;have tk:(xs.take (i+1)).filter P=(xs.take i).filter P++[xs[i]].filter P:=by rw[List.take_succ_eq_append_getElem hi,List.filter_append]
  have fl:((xs.take i).filter P).length<=1000:=Nat.le_trans (List.length_filter_le _ _) (by rw[List.length_take];omega);generalize xs[i]=v at hm tk;show bIf tt (XR te) p ((δ++[w]).set j (some (nm v))) M' N;rw[show (δ++[w]).set j (some (nm v))=δ++[some (nm v)] by subst hn;simp];unfold bIf;refine ht v hm M' _ x ?_;cases hp':P v with
  | true =>
   rw[if_pos rfl];unfold XR;refine he v hm M' _ x ⟨_,l,by rw[List.length_map,sizeLine_eq];omega,?_⟩;refine hN _ _ ⟨⟨_,rfl⟩,MExt.upd_new hp x,?_⟩;rw[mupd_same,tk];simp[hp']
  | false =>
   rw[if_neg %[|4]];refine hN _ _ ⟨⟨_,rfl⟩,x,?_⟩;rw[l,tk];simp[hp']
noncomputable def Za (rs:List (Rat×Nat)) (i:Nat):List Rat:=(cutG rs (some (if (i:Int)-1<0 then 0 else (i:Int)-1)) (some ((i:Int)+2))).map (·.1)
noncomputable def hR (rs:List (Rat×Nat)) (i:Nat):Rat:=(rs.getD i (0,1)).1
noncomputable def mR (rs:List (Rat×Nat)) (i:Nat):Nat:=(rs.getD i (0,1)).2
noncomputable def XQ (rs:List (Rat×Nat)) (i:Nat):Int:=(((Za rs i).filter fun o=>decide (hR rs i<o)).length:Int)-((Za rs i).filter fun o=>decide (o<hR rs i)).length
noncomputable def Y5 (rs:List (Rat×Nat)) (i:Nat):Rat:=Rat.divInt (XQ rs i) (mR rs i)
theorem CH {rs:List (Rat×Nat)} {i:Nat} (h:i<rs.length):(rs.map rn)[i]?=some (.tup [nm (hR rs i),.int (mR rs i:Int)]):=by
 simp[hR,mR,List.getD,h,rn]
noncomputable def S_39:DSp:=fun ds M Q E=>∃ p rs i,ds=[.lst p,.int ((i:Nat):Int)]/\M p=some (.ls (rs.map rn))/\i<rs.length/\rs.length<=100/\(∀ z∈rs,Sz 1900 z.1/\1<=z.2/\z.2<=1000)/\∀ M',MExt M M'->Q (nm (Y5 rs i)) M'
noncomputable def C_39:CSs:=%[.asg (.tup %[.name 2,.name 3|0]) (.ix (.var 0) (.var 1)),.set 4 (.comp ["runs","at","height","many","near","above","below","other","others"] 2 (.tup %[.name 7,.name 8|0]) (.seq (.sl (.var 0) (.some (.bi .max %[.bin .Sub (.var 1) (.int 1),.int 0|0])) (.some (.bin .Add (.var 1) (.int 2))))) (.var 7)),.set 5 (.compI ["runs","at","height","many","near","above","below","other"] 1 (.name 7) (.seq (.var 4)) (.call "is_less" S_8 %[.var 2,.var 7|0]) (.var 7)),.set 6 (.compI ["runs","at","height","many","near","above","below","other"] 1 (.name 7) (.seq (.var 4)) (.call "is_less" S_8 %[.var 7,.var 2|0]) (.var 7)),.ret (.call "number" S_3 %[.bin .Sub (.bi .len %[.var 5|0]) (.bi .len %[.var 6|0]),.var 3|0])|0]
theorem vc_39:∀ ds M R E,S_39 ds M R E->rSs C_39 (ends R E) (Y1 7 ds) M:=by
 rintro ds M R E ⟨p,rs,i,rfl,l,hi,hl,hz,q⟩;have hm:rs.getD i (0,1)∈rs:=by simp[List.getD,hi]
 have z0:=hz _ hm;unfold C_39;sleep 7;refine YZ l (Zm (CH hi)) ?_;sleep 8;sleep 7;refine Ca fun K hK=>?_;sleep 8;refine⟨_,l,?_⟩;intro p1 M1 e1 x1 l1;rw[Jb] at l1;have cm:∀ z∈cutG rs (some (if (i:Int)-1<0 then 0 else (i:Int)-1)) (some ((i:Int)+2)),z∈rs:=fun z hz'=>EB hz';have cl:=EC rs (some (if (i:Int)-1<0 then 0 else (i:Int)-1)) (some ((i:Int)+2));have nr:Za rs i=(cutG rs (some (if (i:Int)-1<0 then 0 else (i:Int)-1)) (some ((i:Int)+2))).map (·.1):=rfl;generalize cutG rs (some (if (i:Int)-1<0 then 0 else (i:Int)-1)) (some ((i:Int)+2))=cs at l1 cm cl nr;refine⟨_,l1,?_⟩;refine hK M1 _ _ (fun d=>match d with | .tup [x,_]=>x|_=>.non) (fun M' x=>x _ _ l1) (by rw[List.length_map];omega) ?_ ?_
 ·intro y hy k M' R' hk e r'
  obtain⟨z,hz',rfl⟩:=List.mem_map.mp hy;obtain⟨u1,u2,rfl⟩:∃ a b,k=[a,b]:=by
   match k,hk with
   | [a,b],_=>exact⟨a,b,rfl⟩
  rw[show rn z=.tup [nm z.1,.int (z.2:Int)] from rfl] at *;sleep 8;exact r' [_,_] M' rfl (.refl _)
 intro p2 M2 e2 x2 l2;have l2':M2 p2=some (.ls ((Za rs i).map nm)):=by
  rw[l2,nr,List.map_map,List.map_map]
  congr 2
 have ns:∀ x∈Za rs i,Sz 1900 x:=fun x hx=>by
  rw[nr] at hx;obtain⟨z,hz',rfl⟩:=List.mem_map.mp hx;exact (hz z (cm z hz')).1
 have nl:(Za rs i).length<=100:=by rw[nr,List.length_map];omega
 have sh:Sz 1900 (hR rs i):=z0.1;have X2:=x1.trans x2;sleep 7;refine UA (Za rs i) (fun o=>decide (hR rs i<o)) rfl ?_ %[|5] ?_ ?_ ?_
 ·intro R' r'
  simp[0,vAt,vHd,Y9,and_assoc,sizeLine_eq,Yq,X1,Yu,dFld,Wc,Wd,Wb,Yu,Yh];exact⟨_,l2',r' _ fun M' x=>x _ _ l2'⟩
 ·intro x hx M' Qt e qt
  sleep 8;exact⟨_,_,rfl,.mk sh (ns x hx) %[|4],by simpa using qt⟩
 ·intro x hx M' Qe e qe
  sleep 8;exact qe
 intro p3 M3 e3 x3 l3;have l23:=x3 _ _ l2';sleep 7;refine UA (Za rs i) (fun o=>decide (o<hR rs i)) rfl ?_ %[|5] ?_ ?_ ?_
 ·intro R' r'
  simp[0,vAt,vHd,Y9,and_assoc,sizeLine_eq,Yq,X1,Yu,dFld,Wc,Wd,Wb,Yu,Yh];exact⟨_,l23,r' _ fun M' x=>x _ _ l23⟩
 ·intro x hx M' Qt e qt
  sleep 8;exact⟨_,_,rfl,.mk (ns x hx) sh %[|4],by simpa using qt⟩
 ·intro x hx M' Qe e qe
  sleep 8;exact qe
 intro p4 M4 e4 x4 l4;sleep 7;refine⟨_,x4 _ _ l3,_,l4,?_⟩;have m1:1<=mR rs i:=z0.2.1;have m2:mR rs i<=1000:=z0.2.2;refine⟨_,_,rfl,WO (Nat.lt_of_lt_of_le (show ((mR rs i:Nat):Int).natAbs<2 ^ 10 by omega) (Xm %[|4])),.inl ⟨by omega,?_⟩⟩;rw[List.length_map,List.length_map];exact q M4 (X2.trans (x3.trans x4))
noncomputable def S_9:DSp:=fun ds M Q E=>∃ (p:Addr) (xs:List Rat),ds=[.lst p]/\M p=some (.ls (xs.map nm))/\1<=xs.length/\(∀ x∈xs,Sz 3900 x)/\∀ w,w∈xs->(∀ x∈xs,w<=x)->Q (nm w) M
noncomputable def C_9:CSs:=%[.set 1 (.ix (.var 0) (.int 0)),.fr (.name 2) (.seq (.var 0)) %[.ife (.call "is_less" S_8 %[.var 2,.var 1|0]) %[.set 1 (.var 2)|0] .nil|0],.ret (.var 1)|0]
theorem vc_9:∀ ds M R E,S_9 ds M R E->rSs C_9 (ends R E) (Y1 3 ds) M:=by
 rintro ds M R E ⟨p,xs,rfl,l,h1,sz,q⟩;unfold C_9;sleep 7;refine YZ (v:=nm (ri xs 0)) l (Zm (i:=0) (Ui %[|5])) ?_;sleep 9;refine⟨_,l,?_⟩;refine YN (fun i δ M'=>∃ (b:Rat) (w2:Option DL.D),b∈xs/\(∀ j,j<i->b<=ri xs j)/\M'=M/\δ=[some (.lst p),some (nm b),w2]) (fun _ _ _ h=>by obtain⟨_,_,_,_,rfl,_⟩:=h;exact l) ?_ ?_ ⟨ri xs 0,_,YE %[|5],nofun,rfl,rfl⟩
 ·rintro δ M' ⟨b,w2,hb,hm,rfl,rfl⟩
  rw[List.length_map] at hm;sleep 7;refine q b hb fun x hx=>?_;obtain⟨j,hj,rfl⟩:=List.getElem_of_mem hx;have:=hm j hj
  simpa[ri,List.getD,hj] using this
 ·rintro i y hy N hN δ M' ⟨b,w2,hb,hm,rfl,rfl⟩
  obtain⟨hi,rfl⟩:∃ hi:i<xs.length,y=nm (ri xs i):=by
   obtain⟨h,e⟩:=List.getElem?_eq_some_iff.mp hy;have h':i<xs.length:=by simpa using h
   exact⟨h',by rw[<- e];simp[ri,List.getD,h']⟩
  have hx:=YE hi;sleep 8;sleep 7;refine⟨_,_,rfl,.mk (sz _ hx) (sz _ hb) %[|4],?_⟩;by_cases c:ri xs i<b
  ·rw[decide_eq_true c]
   simp;sleep 7;refine hN _ _ ⟨_,_,hx,fun j hj=>?_,rfl,rfl⟩;rcases (by omega:j<i\/j=i) with h|rfl
   ·have:=hm j h;grind
   ·exact Rat.le_refl
  ·rw[decide_eq_false c]
   simp;refine hN _ _ ⟨_,_,hb,fun j hj=>?_,rfl,rfl⟩;rcases (by omega:j<i\/j=i) with h|rfl
   ·exact hm j h
   ·grind
noncomputable def YQ (rs:List (Rat×Nat)) (cs:List Rat) (i:Nat):Rat:=(hR rs i-hR rs (i-1)) / (ri cs (i-1)-ri cs i)
noncomputable def Yy (rs:List (Rat×Nat)) (cs:List Rat) (n:Nat):List Rat:=(((List.range n).map (·+1)).filter fun i=>decide (ri cs (i-1)-ri cs i≠0)).map (YQ rs cs)
theorem Vs (rs:List (Rat×Nat)) (cs:List Rat) (n:Nat):Yy rs cs (n+1)=if ri cs n-ri cs (n+1)≠0 then Yy rs cs n++[YQ rs cs (n+1)] else Yy rs cs n:=by
 unfold Yy;rw[List.range_succ,List.map_append,List.filter_append,List.map_append];by_cases h:ri cs n-ri cs (n+1)=0
 ·simp[h]
 ·simp[h]
theorem Vr (rs:List (Rat×Nat)) (cs:List Rat):∀ n,(Yy rs cs n).length<=n
 | 0=>by simp[Yy]
 | n+1=>by
  rw[Vs];have:=Vr rs cs n;split<;>simp<;>omega
noncomputable def S_40:DSp:=fun ds M Q E=>∃ (p p':Addr) (rs:List (Rat×Nat)) (cs:List Rat),ds=[.lst p,.lst p']/\M p=some (.ls (rs.map rn))/\M p'=some (.ls (cs.map nm))/\cs.length=rs.length/\2<=rs.length/\rs.length<=100/\(∀ z∈rs,Sz 1900 z.1)/\(∀ c∈cs,Sz 40 c)/\Yy rs cs (rs.length-1)≠[]/\(∀ x∈Yy rs cs (rs.length-1),Sz 3900 x)/\∀ w M',w∈Yy rs cs (rs.length-1)->(∀ x∈Yy rs cs (rs.length-1),w<=x)->MExt M M'->Q (nm w) M'
noncomputable def C_40:CSs:=%[.set 2 (.lst .nil),.fr (.name 3) (.rng %[.int 1,.bi .len %[.var 0|0]|0]) %[.set 4 (.call "taken" S_5 %[.ix (.var 1) (.bin .Sub (.var 3) (.int 1)),.ix (.var 1) (.var 3)|0]),.ife (.cmp .NotEq (.var 4) (.glo "NOUGHT" Z9)) %[.expr (.app 2 (.call "parted" S_7 %[.call "taken" S_5 %[.ix (.ix (.var 0) (.var 3)) (.int 0),.ix (.ix (.var 0) (.bin .Sub (.var 3) (.int 1))) (.int 0)|0],.var 4|0]))|0] .nil|0],.ret (.call "least_of" S_9 %[.var 2|0])|0]
theorem vc_40:∀ ds M R E,S_40 ds M R E->rSs C_40 (ends R E) (Y1 5 ds) M:=by
 rintro ds M R E ⟨p,p',rs,cs,rfl,l,l',cl,r2,r100,hz,hc,ne,sw,q⟩;unfold C_40;sleep 7;intro p0 M0 e0 x0 l0;have hp0:p≠p0:=fun z=>by rw[<- z,l] at e0;cases e0
 have hp0':p'≠p0:=fun z=>by rw[<- z,l'] at e0;cases e0
 sleep 9;refine⟨_,x0 _ _ l,?_⟩;rw[List.length_map];refine⟨by omega,?_⟩;refine YN (fun i δ M'=>∃ (w3 w4:Option DL.D),MExt M M'/\M' p0=some (.ls ((Yy rs cs i).map nm))/\δ=[some (.lst p),some (.lst p'),some (.lst p0),w3,w4]) (fun _ _ _ _=>trivial) ?_ ?_ ⟨_,_,x0,l0,rfl⟩
 ·rintro δ M' ⟨w3,w4,x,lt,rfl⟩
  rw[Xd] at lt;sleep 7;exact⟨p0,_,rfl,lt,List.length_pos_iff.mpr ne,sw,fun w hw hle=>q w M' hw hle x⟩
 ·rintro i y hy N hN δ M' ⟨w3,w4,x,lt,rfl⟩
  obtain⟨rfl,hi'⟩:=XU hy;have hi:i+1<rs.length:=by omega
  have le:=x _ _ l;have le':=x _ _ l';have c0:=hc _ (YE (show i<cs.length by omega));have c1:=hc _ (YE (show i+1<cs.length by omega));have hm:∀ j,j<rs.length->Sz 1900 (hR rs j):=fun j hj=>hz _ (by simp[List.getD,hj]);rw[show (1:Int)+(i:Int)*1=((i+1:Nat):Int) by omega];obtain⟨j,hj⟩:∃ j,j=i+1:=⟨_,rfl⟩;rw[<- hj];have ej:(j:Int)-1=((i:Nat):Int):=by omega
  have hjl:j<rs.length:=by omega
  have wl:=Vr rs cs i;have wa:=Vs rs cs i;rw[<- hj] at wa c1;sleep 8;sleep 7;rw[ej];refine YZ (v:=nm (ri cs i)) le' (Zm (Ui %[|5])) ?_;refine YZ (v:=nm (ri cs j)) le' (Zm (Ui %[|5])) ?_;refine⟨_,_,rfl,.mk c0 c1 %[|4],?_⟩;have sc:=c0.sub c1;sleep 7;rw[show Z9=nm 0 from nm_i 0];refine Bg true ?_;by_cases hcl:ri cs i-ri cs j=0
  ·simp[hcl]
   refine hN _ _ ⟨_,_,x,?_,rfl⟩;rw[<- hj,wa,if_neg (by simp[hcl])];exact lt
  ·simp[hcl]
   sleep 7;refine⟨⟨_,lt⟩,?_⟩;refine YZ le (Zm (CH hjl)) ?_;refine tix (v:=nm (hR rs j)) (Yf _ _) ?_;rw[ej];refine YZ le (Zm (CH (show i<rs.length by omega))) ?_;refine tix (v:=nm (hR rs i)) (Yf _ _) ?_;refine⟨_,_,rfl,.mk (hm j hjl) (hm i %[|5]) %[|4],?_⟩;refine⟨_,_,rfl,.mk ((hm j hjl).sub (hm i %[|5])) sc %[|4],.inl ⟨hcl,?_⟩⟩;sleep 8;refine⟨_,lt,by rw[List.length_map];omega,?_⟩;refine hN _ _ ⟨_,_,MExt.upd_new e0 x,?_,rfl⟩;rw[mupd_same,<- hj,wa,if_pos (by simpa using hcl),List.map_append];have ew:YQ rs cs j=(hR rs j-hR rs i) / (ri cs i-ri cs j):=by
    unfold YQ;rw[show j-1=i by omega]
   rw[<- ew];rfl
theorem BI (ts:List (Rat×Nat)) (z:Rat×Nat):∃ k,(putR ts z).getLast?=some (z.1,k):=by
 unfold putR;split
 ·exact⟨_,by simp;rfl⟩
 ·exact⟨z.2,by simp⟩
theorem BH {ts:List (Rat×Nat)} {z:Rat×Nat} {k:Nat} (h:ts.getLast?=some (z.1,k)):(putR ts z).length=ts.length:=by
 have hne:ts≠[]:=fun e=>by rw[e] at h;cases h
 have:=List.length_pos_iff.mpr hne;unfold putR;rw[if_pos (by rw[h];simp)];simp;omega
theorem Ay {rs:List (Rat×Nat)} {i:Nat} (hi:i+1<rs.length) (h:rs[i].1=rs[i+1].1):∀ j,i+2<=j->j<=rs.length->(Yk (rs.take j)).length<j:=by
 intro j
 induction j with
 | zero=>intro h _;omega
 | succ j ih =>
  intro h1 h2;have hj:j<rs.length:=by omega
  rw[List.take_succ_eq_append_getElem hj,Zk];by_cases e:j=i+1
  ·subst e
   have hi':i<rs.length:=by omega
   rw[List.take_succ_eq_append_getElem hi',Zk];obtain⟨k,hk⟩:=BI (Yk (rs.take i)) rs[i];rw[h] at hk;rw[BH hk];have:=VH (Yk (rs.take i)) rs[i];have:=Xg rs i;omega
  ·have:=ih %[|5] %[|5]
   have:=VH (Yk (rs.take j)) rs[j];omega
noncomputable def U7 (ts:List (Rat×Nat)):Prop:=∀ i (h:i+1<ts.length),ts[i].1≠ts[i+1].1
theorem Ai {ts:List (Rat×Nat)} (a:U7 ts) (z:Rat×Nat):U7 (putR ts z):=by
 unfold putR;split
 ·rename_i c
  obtain⟨t,ht,hz⟩:∃ t,ts.getLast?=some t/\t.1=z.1:=by
   cases e:ts.getLast? with
   | none=>rw [e] at c;cases c
   | some t=>rw [e] at c;exact⟨t,rfl,by simpa using c⟩
  have hne:ts≠[]:=fun e=>by rw[e] at ht;cases ht
  have es:ts=ts.dropLast++[t]:=by
   have:=List.dropLast_concat_getLast hne;rw[List.getLast?_eq_some_getLast hne] at ht;injection ht with ht
   rw[ht] at this;exact this.symm
  generalize ts.dropLast=t0 at es;subst es;intro i h;rw[List.length_append] at h;have:=a i (by rw[List.length_append];simpa using h);by_cases q:i+1<t0.length
  ·rw[List.getElem_append_left %[|5],List.getElem_append_left q] at this ⊢
   exact this
  ·have e:i+1=t0.length:=by simp at h;omega
   rw[List.getElem_append_left %[|5],List.getElem_append_right %[|5]] at this ⊢;simp at this ⊢;rw[<- hz];exact this
 ·rename_i c
  intro i h;rw[List.length_append] at h;by_cases q:i+1<ts.length
  ·rw[List.getElem_append_left %[|5],List.getElem_append_left q]
   exact a i q
  ·have e:i+1=ts.length:=by simp at h;omega
   rw[List.getElem_append_left %[|5],List.getElem_append_right %[|5]];simp;intro he;apply c;have hne:ts≠[]:=fun e'=>by rw[e'] at e;simp at e
   rw[List.getLast?_eq_some_getLast hne,List.getLast_eq_getElem hne];simp;rw[<- he]
   congr 2
   omega
theorem ZZ (rs:List (Rat×Nat)):∀ i,U7 (Yk (rs.take i))
 | 0=>fun i h=>by simp[Yk] at h
 | i+1=>by
  by_cases h:i<rs.length
  ·rw[List.take_succ_eq_append_getElem h,Zk]
   exact Ai (ZZ rs i) _
  ·rw[List.take_of_length_le %[|5]]
   have:=ZZ rs i
   rwa [List.take_of_length_le %[|5]] at this
theorem Br {α:Type} (xs:List α) (n:Nat):cutG xs (some ((0:Nat):Int)) (some (n:Int))=xs.take n:=by
 unfold cutG;rw[HT.sIx_nat,HT.sIx_nat,Nat.zero_min,List.drop_zero,Nat.sub_zero];by_cases h:n<=xs.length
 ·rw[Nat.min_eq_left h]
 ·rw[Nat.min_eq_right %[|5],List.take_of_length_le %[|3],List.take_of_length_le %[|5]]
theorem Kj (z0 z1:Rat×Nat) (rs:List (Rat×Nat)):Za (z0::z1::rs) 0=[z0.1,z1.1]:=by
 unfold Za;rw[show (if ((0:Nat):Int)-1<0 then (0:Int) else ((0:Nat):Int)-1)=((0:Nat):Int) from rfl,show ((0:Nat):Int)+2=((2:Nat):Int) from rfl,Br]
 rfl
theorem Ki (z0 z1:Rat×Nat) (rs:List (Rat×Nat)):Za (z0::z1::rs) 1=z0.1::z1.1::(rs.take 1).map (·.1):=by
 unfold Za;rw[show (if ((1:Nat):Int)-1<0 then (0:Int) else ((1:Nat):Int)-1)=((0:Nat):Int) from rfl,show ((1:Nat):Int)+2=((3:Nat):Int) from rfl,Br]
 rfl
theorem V7 {a b:Int} (ha:a<=0) (hb:0<b):Rat.divInt a b<=0:=by
 rcases (by omega:a=0\/0 < -a) with rfl|h
 ·rw[Rat.zero_divInt];exact Rat.le_refl
 ·have:=XL h hb
  rw[<- Rat.neg_divInt] at this;grind
theorem IG {rs:List (Rat×Nat)} (h2:2<=rs.length) (a:U7 rs) (hm:∀ z∈rs,1<=z.2):Y5 rs 0-Y5 rs 1≠0:=by
 match rs,h2 with
 | z0::z1::rs,_ =>
  have ne:z0.1≠z1.1:=a 0 (by simp);have m0:1<=z0.2:=hm z0 (by simp);have m1:1<=z1.2:=hm z1 (by simp);have e0:hR (z0::z1::rs) 0=z0.1:=rfl;have e1:hR (z0::z1::rs) 1=z1.1:=rfl;have f0:mR (z0::z1::rs) 0=z0.2:=rfl;have f1:mR (z0::z1::rs) 1=z1.2:=rfl;have irr:∀ q:Rat,decide (q<q)=false:=fun q=>by simp[Rat.lt_irrefl]
  unfold Y5 XQ;rw[Kj,Ki,e0,e1,f0,f1];by_cases c:z0.1<z1.1
  ·have c':¬ z1.1<z0.1:=by grind
   have p0:0<Rat.divInt 1 (z0.2:Int):=XL %[|4] %[|5];have l1:((((z0.1::z1.1::(rs.take 1).map (·.1)).filter fun o=>decide (z1.1<o)).length:Int)-((z0.1::z1.1::(rs.take 1).map (·.1)).filter fun o=>decide (o<z1.1)).length)<=0:=by
    have:=List.length_filter_le (fun o=>decide (z1.1<o)) ((rs.take 1).map (·.1));have hl:((rs.take 1).map (·.1)).length<=1:=by simp;omega
    simp[List.filter_cons,irr,c,c'] at this ⊢;omega
   have n1:=V7 l1 (show (0:Int)<z1.2 by omega);have e:((([z0.1,z1.1].filter fun o=>decide (z0.1<o)).length:Int)-([z0.1,z1.1].filter fun o=>decide (o<z0.1)).length)=1:=by simp[List.filter_cons,irr,c,c']
   rw[e];grind
  ·have c':z1.1<z0.1:=by grind
   have p0:0<Rat.divInt 1 (z0.2:Int):=XL %[|4] %[|5];have l1:(0:Int)<=((((z0.1::z1.1::(rs.take 1).map (·.1)).filter fun o=>decide (z1.1<o)).length:Int)-((z0.1::z1.1::(rs.take 1).map (·.1)).filter fun o=>decide (o<z1.1)).length):=by
    have:=List.length_filter_le (fun o=>decide (o<z1.1)) ((rs.take 1).map (·.1));have hl:((rs.take 1).map (·.1)).length<=1:=by simp;omega
    simp[List.filter_cons,irr,c,c'] at this ⊢;omega
   have n1:(0:Rat)<=Rat.divInt ((((z0.1::z1.1::(rs.take 1).map (·.1)).filter fun o=>decide (z1.1<o)).length:Int)-((z0.1::z1.1::(rs.take 1).map (·.1)).filter fun o=>decide (o<z1.1)).length) z1.2:=by
    have:=V7 (a:=-((((z0.1::z1.1::(rs.take 1).map (·.1)).filter fun o=>decide (z1.1<o)).length:Int)-((z0.1::z1.1::(rs.take 1).map (·.1)).filter fun o=>decide (o<z1.1)).length)) %[|5] (show (0:Int)<z1.2 by omega);rw[<- Rat.neg_divInt] at this;grind
   have e:((([z0.1,z1.1].filter fun o=>decide (z0.1<o)).length:Int)-([z0.1,z1.1].filter fun o=>decide (o<z0.1)).length)=-1:=by simp[List.filter_cons,irr,c,c']
   rw[e,<- Rat.neg_divInt];grind
theorem Bb {n K:Int} {B k:Nat} (hk:K.natAbs=k) (h0:K≠0) (hn:n.natAbs<=B):Gr k B (Rat.divInt n K):=by
 rcases (by omega:0<K\/K<0) with h|h
 ·exact⟨n,by rw[<- hk,show (K.natAbs:Int)=K by omega],hn⟩
 ·refine⟨-n,?_,by omega⟩
  rw[<- hk,show (K.natAbs:Int)=-K by omega];rw[Rat.divInt_eq_div,Rat.divInt_eq_div]
  push_cast
  have:(K:Rat)≠0:=by exact_mod_cast h0
  grind
theorem FM {L B W C:Nat} {x y:Rat} (l0:0<L) (w0:0<W) (hx:Gr L B x) (hy:Gr W C y) (y0:y≠0):∃ k,0<k/\k<=C/\Gr (L*k) (B*W) (x / y)/\∀ (a:Int) (m:Nat),0<m->m ∣ W->a.natAbs<=3->Gr (L*k) (3*(B*W)) (Rat.divInt a m*(x / y)):=by
 obtain⟨n,rfl,hn⟩:=hx;obtain⟨K,rfl,hK⟩:=hy;have K0:K≠0:=fun z=>y0 (by rw[z,Rat.zero_divInt]);have Lr:(L:Rat)≠0:=by
  have:(L:Rat)≠((0:Nat):Rat):=by exact_mod_cast (by omega:L≠0)
  simpa using this
 have Wr:(W:Rat)≠0:=by
  have:(W:Rat)≠((0:Nat):Rat):=by exact_mod_cast (by omega:W≠0)
  simpa using this
 have Kr:(K:Rat)≠0:=by exact_mod_cast K0
 have e1:Rat.divInt n L / Rat.divInt K W=Rat.divInt (n*W) (L*K):=by
  rw[Rat.divInt_eq_div,Rat.divInt_eq_div,Rat.divInt_eq_div]
  push_cast
  grind
 have hk:((L:Int)*K).natAbs=L*K.natAbs:=by rw[Int.natAbs_mul];rfl
 have h0:(L:Int)*K≠0:=Int.mul_ne_zero %[|5] K0;refine⟨K.natAbs,by omega,hK,?_,fun a m m0 md ha=>?_⟩
 ·rw[e1]
  refine Bb hk h0 ?_;rw[Int.natAbs_mul];exact Nat.mul_le_mul hn (by simp)
 ·obtain⟨c,rfl⟩:=md
  have mr:(m:Rat)≠0:=by
   have:(m:Rat)≠((0:Nat):Rat):=by exact_mod_cast (by omega:m≠0)
   simpa using this
  have e2:Rat.divInt a m*(Rat.divInt n L / Rat.divInt K ((m*c:Nat):Int))=Rat.divInt (a*(n*c)) (L*K):=by
   rw[e1,Rat.divInt_eq_div,Rat.divInt_eq_div,Rat.divInt_eq_div]
   push_cast
   grind
  rw[e2];refine Bb hk h0 ?_;rw[Int.natAbs_mul,Int.natAbs_mul];have h1:n.natAbs*(c:Int).natAbs<=B*(m*c):=Nat.mul_le_mul hn (by simp;exact Nat.le_mul_of_pos_left c m0);exact Nat.mul_le_mul ha h1
noncomputable def climbs (rs:List (Rat×Nat)):List Rat:=(List.range rs.length).map (Y5 rs)
noncomputable def mvR (rs:List (Rat×Nat)) (w:Rat):List (Rat×Nat):=(List.range rs.length).map fun i=>(hR rs i+Y5 rs i*w,mR rs i)
theorem dv24 {m:Nat} (a:1<=m) (b:m<=24):m ∣ 5354228880:=GQ ⟨m,by omega⟩ a
theorem Yv {rs:List (Rat×Nat)} {i:Nat} (h:i<rs.length):ri (climbs rs) i=Y5 rs i:=by simp[climbs,ri,List.getD,h]
theorem J2 (rs:List (Rat×Nat)) (w:Rat):(mvR rs w).length=rs.length:=by simp[mvR]
theorem Dm (rs:List (Rat×Nat)) (i:Nat):(Za rs i).length<=3:=by
 unfold Za;rw[List.length_map];by_cases h:i=0
 ·subst h
  rw[show (if ((0:Nat):Int)-1<0 then (0:Int) else ((0:Nat):Int)-1)=((0:Nat):Int) from rfl,show ((0:Nat):Int)+2=((2:Nat):Int) from rfl,Br,List.length_take];omega
 ·rw[if_neg %[|5],show (i:Int)-1=((i-1:Nat):Int) by omega,show (i:Int)+2=((i+2:Nat):Int) by omega]
  unfold cutG;rw[HT.sIx_nat,HT.sIx_nat,List.length_take,List.length_drop];omega
theorem U4 (rs:List (Rat×Nat)) (i:Nat):(XQ rs i).natAbs<=3:=by
 have h1:=List.length_filter_le (fun o=>decide (hR rs i<o)) (Za rs i);have h2:=List.length_filter_le (fun o=>decide (o<hR rs i)) (Za rs i);have h3:=Dm rs i;unfold XQ;omega
structure Rn2 (rs:List (Rat×Nat)) (L B:Nat):Prop where
 gr:∀ z∈rs,Gr L B z.1
 m1:∀ z∈rs,1<=z.2
 m24:∀ z∈rs,z.2<=24
theorem YW {rs:List (Rat×Nat)} {i:Nat} (h:i<rs.length):rs.getD i (0,1)∈rs:=by simp[List.getD,h]
theorem Rn2.climb {rs:List (Rat×Nat)} {L B:Nat} (R:Rn2 rs L B) {i:Nat} (h:i<rs.length):Gr 5354228880 (3*5354228880) (Y5 rs i):=by
 have a:=R.m1 _ (YW h);have b:=R.m24 _ (YW h);have c:=U4 rs i;refine WR (by show (0:Int)<((rs.getD i (0,1)).2:Int);omega) ?_ %[|4] (Nat.mul_le_mul_right _ c);show (((rs.getD i (0,1)).2:Nat):Int).toNat ∣ _;rw[Int.toNat_natCast];exact dv24 a b
theorem Dy {rs:List (Rat×Nat)} {L B:Nat} (R:Rn2 rs L B) (l0:0<L) {j:Nat} (h1:1<=j) (hj:j<rs.length) (hc:Y5 rs (j-1)-Y5 rs j≠0):∃ k,0<k/\k<=6*5354228880/\Gr (L*k) (2*B*5354228880) (YQ rs (climbs rs) j)/\Rn2 (mvR rs (YQ rs (climbs rs) j)) (L*k) (12*B*5354228880):=by
 have c0:=R.climb (show j-1<rs.length by omega);have c1:=R.climb hj;have hx:=(R.gr _ (YW hj)).sub l0 (R.gr _ (YW (show j-1<rs.length by omega)));obtain⟨k,k0,k1,gw,gm⟩:=FM l0 %[|4] hx (c0.sub %[|4] c1) hc;have ew:YQ rs (climbs rs) j=((rs.getD j (0,1)).1-(rs.getD (j-1) (0,1)).1) / (Y5 rs (j-1)-Y5 rs j):=by
  unfold YQ;rw[Yv (show j-1<rs.length by omega),Yv hj];rfl
 rw[ew];refine⟨k,k0,by omega,gw.mono %[|5],⟨fun z hz=>?_,fun z hz=>?_,fun z hz=>?_⟩⟩<;>obtain⟨i,hi,rfl⟩:=List.mem_map.mp hz<;>have hi':=List.mem_range.mp hi
 ·have a:=R.m1 _ (YW hi')
  have b:=R.m24 _ (YW hi');have g1:=gm (XQ rs i) (mR rs i) a (dv24 a b) (U4 rs i);have g2:=(R.gr _ (YW hi')).up l0 (W:=k) k0;have kb:B*k<=B*(6*5354228880):=Nat.mul_le_mul_left B %[|5];exact (g2.add (Nat.mul_pos l0 k0) g1).mono %[|5]
 ·exact R.m1 (rs.getD i (0,1)) (YW hi')
 ·exact R.m24 (rs.getD i (0,1)) (YW hi')
noncomputable def totR (rs:List (Rat×Nat)):Nat:=(rs.map (·.2)).sum
theorem CY (ts:List (Rat×Nat)) (z:Rat×Nat):totR (putR ts z)=totR ts+z.2:=by
 unfold putR;split
 ·rename_i c
  obtain⟨t,ht⟩:∃ t,ts.getLast?=some t:=by
   cases e:ts.getLast? with
   | none=>rw [e] at c;cases c
   | some t=>exact⟨t,rfl⟩
  have hne:ts≠[]:=fun e=>by rw[e] at ht;cases ht
  have es:ts=ts.dropLast++[t]:=by
   have:=List.dropLast_concat_getLast hne;rw[List.getLast?_eq_some_getLast hne] at ht;injection ht with ht
   rw[ht] at this;exact this.symm
  rw[ht];generalize ts.dropLast=t0 at es;subst es;simp[totR];omega
 ·simp[totR]
theorem CZ {ts:List (Rat×Nat)} {z y:Rat×Nat} (h:y∈putR ts z):(y∈ts\/y.1=z.1)/\(1<=z.2->(∀ t∈ts,1<=t.2)->1<=y.2):=by
 unfold putR at h;split at h
 ·rcases List.mem_append.mp h with h|h
  ·have:=List.dropLast_subset _ h
   exact⟨.inl this,fun _ q=>q y this⟩
  ·simp at h;subst h;exact⟨.inr rfl,fun q _=>by simp;omega⟩
 ·rcases List.mem_append.mp h with h|h
  ·exact⟨.inl h,fun _ q=>q y h⟩
  ·simp at h;subst h;exact⟨.inr rfl,fun q _=>q⟩
theorem V6 (rs:List (Rat×Nat)) (m1:∀ z∈rs,1<=z.2):∀ i,i<=rs.length->totR (Yk (rs.take i))=totR (rs.take i)/\∀ y∈Yk (rs.take i),1<=y.2/\∃ z∈rs,y.1=z.1
 | 0,_=>⟨rfl,fun y hy=>by simp[Yk] at hy⟩
 | i+1,h=>by
  have hi:i<rs.length:=by omega
  obtain⟨ih1,ih2⟩:=V6 rs m1 i %[|5];rw[List.take_succ_eq_append_getElem hi,Zk];refine⟨?_,fun y hy=>?_⟩
  ·rw[CY,ih1]
   generalize rs.take i=t0;unfold totR;rw[List.map_append,List.sum_append];simp
  ·obtain⟨a,b⟩:=CZ hy
   refine⟨b (m1 _ (List.getElem_mem hi)) fun t ht=>(ih2 t ht).1,?_⟩;rcases a with a|a
   ·exact (ih2 y a).2
   ·exact⟨_,List.getElem_mem hi,a⟩
theorem FB {rs:List (Rat×Nat)} {z:Rat×Nat} (h:z∈rs):z.2<=totR rs:=by
 induction rs with
 | nil=>cases h
 | cons a rs ih =>
  have e:totR (a::rs)=a.2+totR rs:=by simp[totR]
  rw[e];rcases List.mem_cons.mp h with rfl|h
  ·omega
  ·have:=ih h;omega
theorem JL {rs:List (Rat×Nat)} {L B:Nat} (R:Rn2 rs L B) (t:totR rs<=24):Rn2 (Yk rs) L B/\totR (Yk rs)=totR rs:=by
 have:=V6 rs R.m1 rs.length %[|3];rw[List.take_length] at this;obtain⟨h1,h2⟩:=this;refine⟨⟨fun z hz=>?_,fun z hz=>(h2 z hz).1,fun z hz=>?_⟩,h1⟩
 ·obtain⟨_,y,hy,e⟩:=h2 z hz
  rw[e];exact R.gr y hy
 ·have:=FB hz;omega
theorem Fz (rs:List (Rat×Nat)) (w:Rat):totR (mvR rs w)=totR rs:=by
 unfold totR mvR;rw[List.map_map]
 congr 1
 apply List.ext_getElem
 ·simp
 ·intro i h1 h2
  simp at h2;simp[mR,List.getD,h2]
theorem BE {rs:List (Rat×Nat)} {j:Nat} (h1:1<=j) (hj:j<rs.length) (hc:Y5 rs (j-1)-Y5 rs j≠0):(Yk (mvR rs (YQ rs (climbs rs) j))).length<rs.length:=by
 have hl:=J2 rs (YQ rs (climbs rs) j);have:=Ay (rs:=mvR rs (YQ rs (climbs rs) j)) (i:=j-1) %[|5] ?_ rs.length %[|5] %[|5]
 ·rwa [List.take_of_length_le %[|5]] at this
 ·have e:j-1+1=j:=by omega
  simp only[mvR,List.getElem_map,List.getElem_range,e];have ew:YQ rs (climbs rs) j=(hR rs j-hR rs (j-1)) / (Y5 rs (j-1)-Y5 rs j):=by
   unfold YQ;rw[Yv (show j-1<rs.length by omega),Yv hj]
  rw[ew];have:=Rat.div_mul_cancel (a:=hR rs j-hR rs (j-1)) hc;grind
noncomputable def XB:Nat:=12*5354228880
noncomputable def BX:Nat:=562949953421312
noncomputable def GrD (x:Rat):Prop:=Gr 321253732800 BX x
structure Stage (n k:Nat) (t:Rat×List (Rat×Nat)):Prop where
 gr:∃ L B,0<L/\L<=321253732800*XB ^ k/\B<=BX*XB ^ k/\Rn2 t.2 L B/\Gr L B t.1
 tot:totR t.2=n
 ap:U7 t.2
 len:t.2.length+k<=n
structure Next (t u:Rat×List (Rat×Nat)):Prop where
 two:2<=t.2.length
 ex:∃ w,w∈Yy t.2 (climbs t.2) (t.2.length-1)/\(∀ x∈Yy t.2 (climbs t.2) (t.2.length-1),w<=x)/\u=(t.1+w,Yk (mvR t.2 w))
theorem UK {rs:List (Rat×Nat)} {w:Rat} {n:Nat} (hn:n+1<=rs.length) (h:w∈Yy rs (climbs rs) n):∃ j,1<=j/\j<rs.length/\Y5 rs (j-1)-Y5 rs j≠0/\w=YQ rs (climbs rs) j:=by
 unfold Yy at h;obtain⟨j,hj,rfl⟩:=List.mem_map.mp h;obtain⟨hj,hc⟩:=List.mem_filter.mp hj;obtain⟨i,hi,rfl⟩:=List.mem_map.mp hj;have hi':=List.mem_range.mp hi;refine⟨i+1,by omega,by omega,?_,rfl⟩;rw[Yv %[|5],Yv %[|5]] at hc
 simpa using hc
theorem Next.stage {n k:Nat} {t u:Rat×List (Rat×Nat)} (S:Stage n k t) (N:Next t u) (hn:n<=24):Stage n (k+1) u/\u.2.length<t.2.length:=by
 obtain⟨w,hw,hle,rfl⟩:=N.ex;have t2:=N.two;obtain⟨j,j1,jl,hc,rfl⟩:=UK %[|5] hw;obtain⟨L,B,l0,hL,hB,R,gq⟩:=S.gr;obtain⟨m,m0,m1,gw,R'⟩:=Dy R l0 j1 jl hc;have tt:=Fz t.2 (YQ t.2 (climbs t.2) j);have st:=S.tot;obtain⟨R2,t3⟩:=JL R' %[|5];have less:=BE j1 jl hc;have sl:=S.len;refine⟨⟨⟨L*m,12*B*5354228880,Nat.mul_pos l0 m0,?_,?_,R2,?_⟩,by show totR (Yk (mvR t.2 (YQ t.2 (climbs t.2) j)))=n;rw[t3,tt];exact st,?_,by show (Yk (mvR t.2 (YQ t.2 (climbs t.2) j))).length+(k+1)<=n;omega⟩,less⟩
 ·rw[Nat.pow_succ,<- Nat.mul_assoc]
  exact Nat.mul_le_mul hL (by unfold XB;omega)
 ·rw[Nat.pow_succ,<- Nat.mul_assoc]
  have:12*B*5354228880=B*XB:=by unfold XB;omega
  rw[this];exact Nat.mul_le_mul_right _ hB
 ·have g2:=gq.up l0 (W:=m) m0
  have kb:B*m<=B*(6*5354228880):=Nat.mul_le_mul_left B %[|5];exact (g2.add (Nat.mul_pos l0 m0) gw).mono %[|5]
 ·have:=ZZ (mvR t.2 (YQ t.2 (climbs t.2) j)) (mvR t.2 (YQ t.2 (climbs t.2) j)).length
  rwa [List.take_length] at this
theorem Stage.sz {n k:Nat} {t:Rat×List (Rat×Nat)} (S:Stage n k t) (hn:n<=24):Sz 950 t.1/\∀ z∈t.2,Sz 950 z.1/\1<=z.2/\z.2<=24:=by
 obtain⟨L,B,l0,hL,hB,R,gq⟩:=S.gr;have sl:=S.len;have p:XB ^ k<=XB ^ 24:=Nat.pow_le_pow_right %[|4] %[|5];have h1:L<2 ^ 950:=Nat.lt_of_le_of_lt (Nat.le_trans hL (Nat.mul_le_mul_left 321253732800 p)) (by decide +kernel);have h2:B<2 ^ 950:=Nat.lt_of_le_of_lt (Nat.le_trans hB (Nat.mul_le_mul_left BX p)) (by decide +kernel);exact⟨gq.sz l0 h1 h2,fun z hz=>⟨(R.gr z hz).sz l0 h1 h2,R.m1 z hz,R.m24 z hz⟩⟩
theorem Stage.waits {n k:Nat} {t:Rat×List (Rat×Nat)} (S:Stage n k t) (hn:n<=24) (t2:2<=t.2.length):Yy t.2 (climbs t.2) (t.2.length-1)≠[]/\∀ x∈Yy t.2 (climbs t.2) (t.2.length-1),Sz 1900 x:=by
 have sl:=S.len;constructor
 ·have hc:=IG t2 S.ap fun z hz=>((S.sz hn).2 z hz).2.1
  intro e;have hm:YQ t.2 (climbs t.2) 1∈Yy t.2 (climbs t.2) (t.2.length-1):=by
   unfold Yy;refine List.mem_map_of_mem (List.mem_filter.mpr ⟨List.mem_map.mpr ⟨0,List.mem_range.mpr %[|5],rfl⟩,?_⟩);rw[Yv %[|5],Yv %[|5]]
   simpa using hc
  rw[e] at hm;cases hm
 ·intro x hx
  obtain⟨j,j1,jl,hc,rfl⟩:=UK %[|5] hx;obtain⟨L,B,l0,hL,hB,R,gq⟩:=S.gr;obtain⟨m,m0,m1,gw,R'⟩:=Dy R l0 j1 jl hc;have p:XB ^ k<=XB ^ 24:=Nat.pow_le_pow_right %[|4] %[|5];refine gw.sz (Nat.mul_pos l0 m0) ?_ ?_
  ·exact Nat.lt_of_le_of_lt (Nat.mul_le_mul (Nat.le_trans hL (Nat.mul_le_mul_left 321253732800 p)) m1) (by decide +kernel)
  ·have h2:B<=BX*XB ^ 24:=Nat.le_trans hB (Nat.mul_le_mul_left BX p)
   exact Nat.lt_of_le_of_lt (Nat.mul_le_mul_right _ (Nat.mul_le_mul_left 2 h2)) (by decide +kernel)
theorem YS (rs:List (Rat×Nat)):(Y0 rs).length=totR rs:=by
 unfold Y0 totR;rw[List.length_flatMap]
 congr 1
 apply List.map_congr_left;intro z _;simp
theorem Cs (rs:List (Rat×Nat)) (i:Nat):totR (rs.take i)<=totR rs:=by
 have e:totR rs=totR (rs.take i)+totR (rs.drop i):=by
  unfold totR;rw[<- List.sum_append,<- List.map_append,List.take_append_drop]
 omega
noncomputable def st (t:Rat×List (Rat×Nat)):DL.D:=.tup [nm t.1,rw (Y0 t.2)]
noncomputable def ones (d:List Rat):List (Rat×Nat):=d.map fun x=>(x,1)
theorem Di (d:List Rat):totR (ones d)=d.length:=by
 unfold totR ones;rw[List.map_map]
 induction d with
 | nil=>rfl
 | cons a d ih=>simp at ih ⊢;omega
theorem JU {d:List Rat} (h24:d.length<=24) (g:∀ x∈d,GrD x):Stage d.length 0 (0,Yk (ones d)):=by
 have R:Rn2 (ones d) 321253732800 BX:=⟨fun z hz=>by obtain⟨x,hx,rfl⟩:=List.mem_map.mp hz;exact g x hx,fun z hz=>by obtain⟨x,hx,rfl⟩:=List.mem_map.mp hz;exact Nat.le_refl _,fun z hz=>by obtain⟨x,hx,rfl⟩:=List.mem_map.mp hz;show 1<=24;decide⟩;have t:=Di d;obtain⟨R',t'⟩:=JL R %[|5];refine⟨⟨321253732800,BX,by decide,by simp,by simp,R',.zero⟩,by show totR (Yk (ones d))=_;omega,?_,?_⟩
 ·have:=ZZ (ones d) (ones d).length
  rwa [List.take_length] at this
 ·have:=Xg (ones d) (ones d).length
  rw[List.take_length] at this;have e:(ones d).length=d.length:=by simp[ones]
  show (Yk (ones d)).length+0<=_;omega
structure Told2 (d:List Rat) (ts:List (Rat×List (Rat×Nat))):Prop where
 first:ts.head?=some (0,Yk (ones d))
 next:∀ i (h:i+1<ts.length),Next ts[i] ts[i+1]
 stage:∀ i (h:i<ts.length),Stage d.length i ts[i]
theorem Told2.add {d:List Rat} {ts:List (Rat×List (Rat×Nat))} (T:Told2 d ts) (hn:d.length<=24) {t u:Rat×List (Rat×Nat)} (hl:ts.getLast?=some t) (N:Next t u):Told2 d (ts++[u]):=by
 have hne:ts≠[]:=fun e=>by rw[e] at hl;cases hl
 have h0:0<ts.length:=List.length_pos_iff.mpr hne;have el:ts[ts.length-1]=t:=by
  rw[List.getLast?_eq_some_getLast hne,List.getLast_eq_getElem hne] at hl;injection hl
 have S:=T.stage (ts.length-1) %[|5];rw[el] at S;refine⟨?_,fun i h=>?_,fun i h=>?_⟩
 ·rw[List.head?_append,T.first];rfl
 ·rw[List.length_append] at h
  by_cases q:i+1<ts.length
  ·rw[List.getElem_append_left %[|5],List.getElem_append_left q]
   exact T.next i q
  ·have e:i=ts.length-1:=by simp at h;omega
   subst e;rw[List.getElem_append_left %[|5],List.getElem_append_right %[|5],el]
   simpa using N
 ·rw[List.length_append] at h
  by_cases q:i<ts.length
  ·rw[List.getElem_append_left q];exact T.stage i q
  ·have e:i=ts.length:=by simp at h;omega
   subst e;rw[List.getElem_append_right %[|3]];have:=(N.stage S hn).1;rw[show ts.length-1+1=ts.length by omega] at this
   simpa using this
noncomputable def S_41:DSp:=fun ds M Q E=>∃ e,ds=[e]/\Gd M e/\(Yc 1 24 e=false/\(∀ M',MExt M M'->E (.exc "NoData" .non) M')\/∃ d,e=rw d/\1<=d.length/\d.length<=24/\(∀ x∈d,GrD x)/\∀ ts M',Told2 d ts->(∀ t,ts.getLast?=some t->t.2.length<=1)->MExt M M'->Q (.tup (ts.map st)) M')
noncomputable def C_41:CSs:=%[.expr (.call "want_data" S_27 %[.var 0|0]),.asg (.tup %[.name 1,.name 2|0]) (.tup %[.glo "NOUGHT" Z9,.call "joined" S_37 %[.comp ["data","price","runs","told","climbs","more","moved","one"] 1 (.name 7) (.seq (.var 0)) (.tup %[.var 7,.int 1|0])|0]|0]),.set 3 (.lst %[.tup %[.var 1,.call "row_of_runs" S_38 %[.var 2|0]|0]|0]),.whl (.cmp .Gt (.bi .len %[.var 2|0]) (.int 1)) %[.set 4 (.comp ["data","price","runs","told","climbs","more","moved","at"] 1 (.name 7) (.rng %[.bi .len %[.var 2|0]|0]) (.call "climb_of" S_39 %[.var 2,.var 7|0])),.set 5 (.call "up_to_meeting" S_40 %[.var 2,.var 4|0]),.set 6 (.comp ["data","price","runs","told","climbs","more","moved","climb","height","many"] 3 (.tup %[.tup %[.name 8,.name 9|0],.name 7|0]) (.zip %[.var 2,.var 4|0]) (.tup %[.call "added" S_4 %[.var 8,.call "multiplied" S_6 %[.var 7,.var 5|0]|0],.var 9|0])),.asg (.tup %[.name 1,.name 2|0]) (.tup %[.call "added" S_4 %[.var 1,.var 5|0],.call "joined" S_37 %[.var 6|0]|0]),.expr (.app 3 (.tup %[.var 1,.call "row_of_runs" S_38 %[.var 2|0]|0]))|0],.ret (.bi .tuple %[.var 3|0])|0]
theorem Fv {s:List Rat} (h1:1<=s.length) (h24:s.length<=24):Yc 1 24 (rw s)=true:=by
 have hl:(s.map nm).length=s.length:=List.length_map ..;have ha:(s.map nm).all YF=true:=List.all_eq_true.mpr fun d hd=>by
  obtain⟨x,_,rfl⟩:=List.mem_map.mp hd;exact Wy x
 show (decide ((1:Int)<=((s.map nm).length:Int))&&decide (((s.map nm).length:Int)<=24)&&(s.map nm).all YF)=true;rw[ha,hl,decide_eq_true (show (1:Int)<=s.length by omega),decide_eq_true (show (s.length:Int)<=24 by omega)];rfl
theorem vc_41:∀ ds M R E,S_41 ds M R E->rSs C_41 (ends R E) (Y1 7 ds) M:=by
 rintro ds M R E ⟨e,rfl,g,h⟩;unfold C_41;sleep 7;refine⟨e,rfl,g,fun M1 x1=>?_⟩;rcases h with ⟨h,q⟩|⟨d,rfl,d1,d24,gr,q⟩
 ·rw[h,if_neg %[|4]]
  exact q M1 x1
 rw[Fv d1 d24,if_pos rfl];have S0:=JU d24 gr;have spr:∀ {k:Nat} {t:Rat×List (Rat×Nat)},Stage d.length k t->(∀ i,(Y0 (t.2.take i)).length<=1000)/\∀ z∈t.2,z.2<=1000:=fun {k t} S=>by
  have tt:=S.tot;refine⟨fun i=>?_,fun z hz=>?_⟩
  ·rw[YS]
   have:=Cs t.2 i;omega
  ·have:=((S.sz d24).2 z hz).2.2
   omega
 sleep 7;refine YB d nm (fun x=>rn (x,1)) ?_ %[|5] ?_ ?_
 ·intro R' r'
  simp[0,vAt,vHd,Y9,and_assoc,sizeLine_eq,Yq,X1,Yu,dFld,Wc,Wd,Wb,Yu,Yh];exact r' _ fun _ _=>trivial
 ·intro x hx l M' R' hl e r'
  obtain⟨u,rfl⟩:=len1 hl;sleep 8;exact r' [_] M' rfl (.refl _)
 intro p2 M2 e2 x2 l2;refine⟨p2,ones d,rfl,by rw[l2];unfold ones;rw[List.map_map];rfl,by simp[ones];omega,fun p3 M3 e3 x3 l3=>?_⟩;sleep 8;sleep 7;refine⟨p3,_,rfl,l3,(spr S0).1,(spr S0).2,fun M4 x4=>?_⟩;sleep 8;intro p5 M5 e5 x5 l5;have e5':M p5=none:=MExt.none (x1.trans (x2.trans (x3.trans x4))) e5;have X5:=x1.trans (x2.trans (x3.trans (x4.trans x5)));rw[Yr];refine⟨fun m δ M'=>∃ (ts:List (Rat×List (Rat×Nat))) (t:Rat×List (Rat×Nat)) (p:Addr) (w4 w5 w6:Option DL.D),MExt M M'/\M' p=some (.ls (t.2.map rn))/\M' p5=some (.ls (ts.map st))/\Told2 d ts/\ts.getLast?=some t/\δ=[some (rw d),some (nm t.1),some (.lst p),some (.lst p5),w4,w5,w6]/\m=t.2.length,⟨_,[(0,Yk (ones d))],(0,Yk (ones d)),p3,_,_,_,X5,x5 _ _ (x4 _ _ l3),l5,⟨rfl,fun i h=>by simp at h,fun i h=>by
  have:i=0:=by simpa using h
  subst this;exact S0⟩,rfl,rfl,rfl⟩,?_⟩
 rintro m δ M6 ⟨ts,t,p,w4,w5,w6,x6,lp,lt,T,hl,rfl,rfl⟩;have hne:ts≠[]:=fun e=>by rw[e] at hl;cases hl
 have h0:0<ts.length:=List.length_pos_iff.mpr hne;have el:ts[ts.length-1]=t:=by
  have hl':=hl;rw[List.getLast?_eq_some_getLast hne,List.getLast_eq_getElem hne] at hl';injection hl'
 have S:=T.stage (ts.length-1) %[|5];rw[el] at S;have sl:=S.len;have sz:=S.sz d24;sleep 8;refine⟨_,lp,?_⟩;rw[List.length_map];by_cases c:1<t.2.length
 ·rw[if_pos %[|5]]
  refine⟨fun δ' M'=>∃ (ts':List (Rat×List (Rat×Nat))) (a:Rat) (b:List (Rat×Nat)) (p':Addr) (w4 w5 w6:Option DL.D),MExt M M'/\M' p'=some (.ls (b.map rn))/\M' p5=some (.ls (ts'.map st))/\Told2 d ts'/\ts'.getLast?=some (a,b)/\δ'=[some (rw d),some (nm a),some (.lst p'),some (.lst p5),w4,w5,w6]/\b.length<t.2.length,?_,?_⟩
  ·rintro δ' M' ⟨ts',a,b,p',w4,w5,w6,h1,h2,h3,h4,h5,h6,h7⟩
   exact⟨_,h7,h1,ts',a,b,p',h2,h3,h4,h5,⟨_,_,_,h6⟩,rfl⟩
  have W:=S.waits d24 %[|5];sleep 7;refine YB (List.range t.2.length) (fun i=>.int (i:Int)) (fun i=>nm (Y5 t.2 i)) ?_ (by simp;omega) ?_ ?_
  ·intro R' r'
   simp[0,vAt,vHd,Y9,and_assoc,sizeLine_eq,Yq,X1,Yu,dFld,Wc,Wd,Wb,YI];refine⟨_,lp,?_⟩;have e:rngD 0 1 (List.map rn t.2).length=(List.range t.2.length).map fun i=>.int (i:Int):=by
    unfold rngD;rw[List.length_map];simp
   rw[e];exact⟨by rw[List.length_map];omega,r' _ fun _ _=>trivial⟩
  ·intro i hi l M' R' hl' e r'
   obtain⟨u,rfl⟩:=len1 hl';sleep 8;exact⟨p,t.2,i,rfl,e _ _ lp,List.mem_range.mp hi,by omega,fun z hz=>⟨(sz.2 z hz).1.mono %[|4],(sz.2 z hz).2.1,by have:=(sz.2 z hz).2.2;omega⟩,fun M'' x''=>r' [_] M'' rfl x''⟩
  intro p7 M7 e7 x7 l7;have l7':M7 p7=some (.ls ((climbs t.2).map nm)):=by rw[l7];unfold climbs;rw[List.map_map];rfl
  have lp7:=x7 _ _ lp;have cz:∀ i,i<t.2.length->Sz 40 (Y5 t.2 i):=fun i hi=>by
   obtain⟨L,B,_,_,_,R,_⟩:=S.gr;exact (R.climb hi).sz %[|4] %[|4] %[|4]
  have cl:(climbs t.2).length=t.2.length:=by simp[climbs]
  sleep 7;refine⟨p,p7,t.2,climbs t.2,rfl,lp7,l7',cl,by omega,by omega,fun z hz=>(sz.2 z hz).1.mono %[|4],fun c hc=>?_,W.1,fun x hx=>(W.2 x hx).mono %[|4],fun w M8 hw hle x8=>?_⟩
  ·obtain⟨i,hi,rfl⟩:=List.mem_map.mp hc
   exact cz i (List.mem_range.mp hi)
  have sw:=W.2 w hw;have Nx:Next t (t.1+w,Yk (mvR t.2 w)):=⟨by omega,w,hw,hle,rfl⟩;obtain⟨S',less⟩:=Nx.stage S d24;sleep 7;refine YB (List.range t.2.length) (fun i=>.tup [rn (hR t.2 i,mR t.2 i),nm (Y5 t.2 i)]) (fun i=>rn (hR t.2 i+Y5 t.2 i*w,mR t.2 i)) ?_ (by simp;omega) ?_ ?_
  ·intro R' r'
   simp[0,vAt,vHd,Y9,and_assoc,sizeLine_eq,Yq,X1,Yu,dFld,Wc,Wd,Wb,X1];refine⟨_,_,x8 _ _ lp7,x8 _ _ l7',?_⟩;have e:zipD (t.2.map rn) ((climbs t.2).map nm)=(List.range t.2.length).map fun i=>.tup [rn (hR t.2 i,mR t.2 i),nm (Y5 t.2 i)]:=by
    apply List.ext_getElem
    ·simp[zipD,cl]
    ·intro i h1 h2
     simp at h2;simp[zipD,climbs,hR,mR,List.getD,h2]
   rw[e];exact r' _ fun M' x=>⟨x _ _ (x8 _ _ lp7),x _ _ (x8 _ _ l7')⟩
  ·intro i hi l M' R' hl' e r'
   have hi':=List.mem_range.mp hi;obtain⟨u1,u2,u3,rfl⟩:∃ a b c,l=[a,b,c]:=by
    match l,hl' with
    | [a,b,c],_=>exact⟨a,b,c,rfl⟩
   rw[show rn (hR t.2 i,mR t.2 i)=.tup [nm (hR t.2 i),.int (mR t.2 i:Int)] from rfl];have sh:=(sz.2 _ (YW hi')).1;sleep 8;refine⟨_,_,rfl,.mk (cz i hi') sw %[|4],?_⟩;refine⟨_,_,rfl,.mk sh ((cz i hi').mul sw) %[|4],?_⟩;exact r' [_,_,_] M' rfl (.refl _)
  intro p9 M9 e9 x9 l9;have l9':M9 p9=some (.ls ((mvR t.2 w).map rn)):=by rw[l9];unfold mvR;rw[List.map_map];rfl
  sleep 7;refine⟨_,_,rfl,.mk sz.1 sw %[|4],?_⟩;refine⟨p9,_,rfl,l9',by rw[J2];omega,fun p10 M10 e10 x10 l10=>?_⟩;sleep 8;have X10:=x7.trans (x8.trans (x9.trans x10));have lt10:=X10 _ _ lt;sleep 7;refine⟨⟨_,lt10⟩,p10,_,rfl,l10,(spr S').1,(spr S').2,fun M11 x11=>?_⟩;have lt11:=x11 _ _ lt10;refine⟨_,lt11,by rw[List.length_map];omega,?_⟩;refine⟨MExt.upd_new e5' (x6.trans (X10.trans x11)),ts++[(t.1+w,Yk (mvR t.2 w))],t.1+w,Yk (mvR t.2 w),p10,?_,?_,T.add d24 hl Nx,by simp,?_,rfl,less⟩
  ·rw[Z8]
   ·exact x11 _ _ l10
   ·intro z
    rw[z,x9 _ _ (x8 _ _ (x7 _ _ lt))] at e10;cases e10
  ·rw[mupd_same,List.map_append];rfl
  ·rfl
 ·rw[if_neg %[|5]]
  sleep 7;exact⟨_,lt,q ts M6 T (fun t' ht=>by rw[hl] at ht;injection ht with ht;rw[<- ht];omega) x6⟩
noncomputable def mixR (r o:List Rat) (q:Rat):List Rat:=List.zipWith (fun a b=>a+q*(b-a)) r o
noncomputable def S_42:DSp:=fun ds M Q E=>∃ (r o:List Rat) (q:Rat),ds=[rw r,rw o,nm q]/\r.length<=100/\(∀ x∈r,Sz 950 x)/\(∀ x∈o,Sz 950 x)/\Sz 3900 q/\∀ M',MExt M M'->Q (rw (mixR r o q)) M'
noncomputable def C_42:CSs:=%[.ret (.bi .tuple %[.comp ["row","other","share","one","two"] 2 (.tup %[.name 3,.name 4|0]) (.zip %[.var 0,.var 1|0]) (.call "added" S_4 %[.var 3,.call "multiplied" S_6 %[.var 2,.call "taken" S_5 %[.var 4,.var 3|0]|0]|0])|0])|0]
theorem vc_42:∀ ds M R E,S_42 ds M R E->rSs C_42 (ends R E) (Y1 3 ds) M:=by
 rintro ds M R E ⟨r,o,q,rfl,hl,sr,so,sq,k⟩;unfold C_42;sleep 7;refine YB (List.zip r o) pl (fun z=>nm (z.1+q*(z.2-z.1))) ?_ (by rw[List.length_zip];omega) ?_ ?_
 ·intro R' r'
  simp[0,vAt,vHd,Y9,and_assoc,sizeLine_eq,Yq,X1,Yu,dFld,Wc,Wd,Wb,X1];exact r' _ fun _ _=>trivial
 ·intro z hz l M' R' hl' e r'
  obtain⟨u1,u2,rfl⟩:∃ a b,l=[a,b]:=by
   match l,hl' with
   | [a,b],_=>exact⟨a,b,rfl⟩
  obtain⟨a,b⟩:=z;have ha:=sr a (List.of_mem_zip hz).1;have hb:=so b (List.of_mem_zip hz).2;sleep 8;refine⟨_,_,rfl,.mk hb ha %[|4],?_⟩;refine⟨_,_,rfl,.mk sq (hb.sub ha) %[|4],?_⟩;refine⟨_,_,rfl,.mk ha (sq.mul (hb.sub ha)) %[|4],?_⟩;exact r' [_,_] M' rfl (.refl _)
 intro p M' e x l;refine⟨_,l,?_⟩;have e:D.tup ((List.zip r o).map fun z=>nm (z.1+q*(z.2-z.1)))=rw (mixR r o q):=by
  unfold rw mixR;rw[List.zip,List.map_zipWith,List.map_zipWith]
 rw[e];exact k M' x
noncomputable def sp (u:Rat×List Rat):DL.D:=.tup [nm u.1,rw u.2]
noncomputable def atP:Rat×List Rat->List (Rat×List Rat)->Rat->List Rat
 | u,[],_=>u.2
 | u,v::us,q=>if q<v.1 then mixR u.2 v.2 ((q-u.1) / (v.1-u.1)) else atP v us q
noncomputable def SzU (u:Rat×List Rat):Prop:=Sz 950 u.1/\u.2.length<=100/\∀ x∈u.2,Sz 950 x
noncomputable def S_43:DSp:=fun ds M Q E=>∃ (u:Rat×List Rat) (us:List (Rat×List Rat)) (e:DL.D),ds=[.tup (sp u::us.map sp),e]/\Gd M e/\(YM e=false/\E (.exc "NoPrice" .non) M\/∃ q:Rat,e=nm q/\0<=q/\Sz 950 q/\u.1<=0/\SzU u/\(∀ v∈us,SzU v)/\us.length<=100/\∀ M',MExt M M'->Q (rw (atP u us q)) M')
noncomputable def C_43:CSs:=%[.expr (.call "want_price" S_28 %[.var 1|0]),.asg (.tup %[.name 2,.name 3|0]) (.ix (.var 0) (.int 0)),.fr (.tup %[.name 4,.name 5|0]) (.seq (.sl (.var 0) (.some (.int 1)) .none)) %[.ife (.call "is_less" S_8 %[.var 1,.var 4|0]) %[.ret (.call "row_between" S_42 %[.var 3,.var 5,.call "parted" S_7 %[.call "taken" S_5 %[.var 1,.var 2|0],.call "taken" S_5 %[.var 4,.var 2|0]|0]|0])|0] .nil,.par 2 3 (.var 4) (.var 5)|0],.ret (.bi .tuple %[.bi .list %[.var 3|0]|0])|0]
theorem vc_43:∀ ds M R E,S_43 ds M R E->rSs C_43 (ends R E) (Y1 6 ds) M:=by
 rintro ds M R E ⟨u,us,e,rfl,ge,h⟩;unfold C_43;sleep 7;refine⟨e,rfl,ge,?_⟩;rcases h with ⟨h,q⟩|⟨q,rfl,q0,sq,u0,su,sus,ul,k⟩
 ·rw[h,if_neg %[|4]]
  exact q
 rw[Zh,decide_eq_true q0,if_pos rfl];sleep 7;refine tix (v:=sp u) (Yf _ _) ?_;rw[show sp u=.tup [nm u.1,rw u.2] from rfl];sleep 8;sleep 9;have ec:cutG (D.tup [nm u.1,rw u.2]::us.map sp) (some 1) none=us.map sp:=by
  rw[show (1:Int)=((1:Nat):Int) from rfl,Jc _ _ (by simp)];rfl
 rw[ec];refine YN (fun i δ M'=>∃ (v:Rat×List Rat) (w4 w5:Option DL.D),M'=M/\v.1<=q/\SzU v/\atP u us q=atP v (us.drop i) q/\δ=[some (.tup (.tup [nm u.1,rw u.2]::us.map sp)),some (nm q),some (nm v.1),some (rw v.2),w4,w5]) (fun _ _ _ _=>trivial) ?_ ?_ ⟨u,_,_,rfl,by grind,su,rfl,rfl⟩
 ·rintro δ M' ⟨v,w4,w5,rfl,vq,sv,ea,rfl⟩
  rw[List.length_map,List.drop_length] at ea;sleep 7;intro p M2 e2 x2 l2;refine⟨_,l2,?_⟩;have:=k M2 x2;rw[ea] at this;exact this
 ·rintro i y hy N hN δ M' ⟨v,w4,w5,rfl,vq,sv,ea,rfl⟩
  obtain⟨hi,rfl⟩:∃ hi:i<us.length,y=sp us[i]:=by
   obtain⟨h,e⟩:=List.getElem?_eq_some_iff.mp hy;have h':i<us.length:=by simpa using h
   exact⟨h',by rw[<- e];simp⟩
  have sb:=sus _ (List.getElem_mem hi);have ed:us.drop i=us[i]::us.drop (i+1):=List.drop_eq_getElem_cons hi;generalize us[i]=b at sb ed;rw[ed] at ea;rw[show sp b=.tup [nm b.1,rw b.2] from rfl];sleep 8;sleep 7;refine⟨_,_,rfl,.mk sq sb.1 %[|4],?_⟩;by_cases c:q<b.1
  ·rw[decide_eq_true c]
   simp;sleep 7;refine⟨_,_,rfl,.mk sq sv.1 %[|4],?_⟩;refine⟨_,_,rfl,.mk sb.1 sv.1 %[|4],?_⟩;have nz:b.1-v.1≠0:=by grind
   have s1:=sq.sub sv.1;have s2:=sb.1.sub sv.1;refine⟨_,_,rfl,.mk s1 s2 %[|4],.inl ⟨nz,?_⟩⟩;refine⟨v.2,b.2,_,rfl,sv.2.1,sv.2.2,sb.2.2,(s1.div s2 nz).mono %[|4],fun M2 x2=>?_⟩;have:=k M2 x2;rw[ea] at this;unfold atP at this;rw[if_pos c] at this;exact this
  ·rw[decide_eq_false c]
   simp;sleep 7;refine hN _ _ ⟨b,_,_,rfl,by grind,sb,?_,rfl⟩;rw[ea]
   conv=>lhs;unfold atP
   rw[if_neg c]
theorem Zo {a b:List Rat} {k:Nat} (h:k<a.length):ri (a++b) k=ri a k:=by
 simp[ri,List.getD,List.getElem?_append_left h]
theorem ZA {a b:List Rat} {k:Nat}:ri (a++b) (a.length+k)=ri b k:=by
 simp[ri,List.getD,List.getElem?_append_right]
theorem Zd (a b:List Rat):∀ k,k<=a.length->Y2 (a++b) k=Y2 a k
 | 0,_=>by rw[Ya,Ya]
 | k+1,h=>by rw[YD (by simp;omega),YD %[|5],Zd a b k %[|5],Zo %[|5]]
theorem ZI (a b:List Rat):∀ k,k<=b.length->Y2 (a++b) (a.length+k)=Y2 a a.length+Y2 b k
 | 0,_=>by rw[Nat.add_zero,Zd _ _ _ %[|3],Ya];grind
 | k+1,h=>by rw[<- Nat.add_assoc,YD (by simp;omega),YD %[|5],ZI a b k %[|5],ZA];grind
noncomputable def mvE:(Nat->Rat)->List (Rat×Nat)->Rat->List (Rat×Nat)
 | _,[],_=>[]
 | e,z::rs,w=>(z.1+(e 1-e 0) / (z.2:Rat)*w,z.2)::mvE (fun i=>e (i+1)) rs w
theorem B2:∀ (e:Nat->Rat) (rs:List (Rat×Nat)) (w:Rat),(mvE e rs w).length=rs.length
 | _,[],_=>rfl
 | e,z::rs,w=>by simp[mvE,B2]
theorem Ar:∀ (e:Nat->Rat) (rs:List (Rat×Nat)) (w:Rat) (i:Nat),i<rs.length->(mvE e rs w).getD i (0,1)=(hR rs i+(e (i+1)-e i) / (mR rs i:Rat)*w,mR rs i)
 | _,[],_,i,h=>by simp at h
 | e,z::rs,w,0,_=>rfl
 | e,z::rs,w,i+1,h=>Ar (fun i=>e (i+1)) rs w i (by simpa using h)
theorem Vn:∀ (e:Nat->Rat) (rs:List (Rat×Nat)) (w:Rat),totR (mvE e rs w)=totR rs
 | _,[],_=>rfl
 | e,z::rs,w=>by
  have:=Vn (fun i=>e (i+1)) rs w;simp only[totR,mvE,List.map_cons,List.sum_cons] at this ⊢;omega
theorem ZS (z:Rat×Nat) (rs:List (Rat×Nat)):Y0 (z::rs)=List.replicate z.2 z.1++Y0 rs:=rfl
theorem tot_cons (z:Rat×Nat) (rs:List (Rat×Nat)):totR (z::rs)=z.2+totR rs:=by simp[totR]
theorem natR {m:Nat} (h:1<=m):(0:Rat)<(m:Rat):=by
 have:((0:Nat):Rat)<(m:Rat):=by exact_mod_cast h
 simpa using this
theorem conv {m k c e0 e1 w:Rat} (hm:0<m) (k0:0<=k) (km:k<=m) (hc:c*m=e1-e0) (a0:-1<=e0) (b0:e0<=1) (a1:-1<=e1) (b1:e1<=1) (w0:0<=w):-w<=e0*w+k*(c*w)/\e0*w+k*(c*w)<=w:=by
 have e:m*(e0+k*c)=(m-k)*e0+k*e1:=by grind
 have f1:(m-k)*e0<=(m-k)*1:=Rat.mul_le_mul_of_nonneg_left b0 (by grind);have f2:k*e1<=k*1:=Rat.mul_le_mul_of_nonneg_left b1 k0;have f3:(m-k)*(-1)<=(m-k)*e0:=Rat.mul_le_mul_of_nonneg_left a0 (by grind);have f4:k*(-1)<=k*e1:=Rat.mul_le_mul_of_nonneg_left a1 k0;have h1:e0+k*c<=1:=by
  refine Rat.not_lt.mp fun h=>?_;have:=Rat.mul_lt_mul_of_pos_left h hm;grind
 have h2:-1<=e0+k*c:=by
  refine Rat.not_lt.mp fun h=>?_;have:=Rat.mul_lt_mul_of_pos_left h hm;grind
 have g1:=Rat.mul_le_mul_of_nonneg_left h1 w0;have g2:=Rat.mul_le_mul_of_nonneg_left h2 w0;constructor<;>grind
theorem ZR {z:Rat×Nat} {rs:List (Rat×Nat)} (h:1<=z.2):ri (Y0 (z::rs)) 0=z.1:=by
 rw[ZS,Zo (by simp;omega),Ze %[|5]]
inductive At (e:Nat->Rat) (rs:List (Rat×Nat)) (w:Rat) (k:Nat):Prop
 | run (i:Nat):i<rs.length->ri (Y0 rs) (k-1)=hR rs i->ri (Y0 rs) k=hR rs i->ri (Y0 (mvE e rs w)) (k-1)=hR (mvE e rs w) i->ri (Y0 (mvE e rs w)) k=hR (mvE e rs w) i ->
   ((∀ j,-1<=e j/\e j<=1)->0<=w->-w<=e 0*w+(Y2 (Y0 (mvE e rs w)) k-Y2 (Y0 rs) k)/\e 0*w+(Y2 (Y0 (mvE e rs w)) k-Y2 (Y0 rs) k)<=w)->At e rs w k
 | bound (i:Nat):i+1<rs.length->ri (Y0 rs) (k-1)=hR rs i->ri (Y0 rs) k=hR rs (i+1)->ri (Y0 (mvE e rs w)) (k-1)=hR (mvE e rs w) i->ri (Y0 (mvE e rs w)) k=hR (mvE e rs w) (i+1) ->
   e 0*w+(Y2 (Y0 (mvE e rs w)) k-Y2 (Y0 rs) k)=e (i+1)*w->At e rs w k
theorem Xf:∀ (rs:List (Rat×Nat)) (e:Nat->Rat) (w:Rat) (k:Nat),(∀ z∈rs,1<=z.2)->0<k->k<totR rs->At e rs w k
 | [],e,w,k,_,_,h=>by simp[totR] at h
 | z::rs,e,w,k,hm,k0,hk=>by
  obtain⟨h,m⟩:=z;have m1:1<=m:=hm (h,m) List.mem_cons_self;have mp:=natR m1;have hm':∀ z∈rs,1<=z.2:=fun z hz=>hm z (List.mem_cons_of_mem _ hz);rw[tot_cons] at hk;have hk':k<m+totR rs:=hk;have hc:(e 1-e 0) / (m:Rat)*(m:Rat)=e 1-e 0:=Rat.div_mul_cancel (by grind);have ex:Y0 ((h,m)::rs)=List.replicate m h++Y0 rs:=rfl;have ey:Y0 (mvE e ((h,m)::rs) w)=List.replicate m (h+(e 1-e 0) / (m:Rat)*w)++Y0 (mvE (fun i=>e (i+1)) rs w):=rfl;have l1:(List.replicate m h).length=m:=List.length_replicate ..;have l2:(List.replicate m (h+(e 1-e 0) / (m:Rat)*w)).length=m:=List.length_replicate ..;rcases Nat.lt_trichotomy k m with q|q|q
  ·refine .run 0 (by simp) ?_ ?_ ?_ ?_ fun he w0=>?_
   ·rw[ex,Zo %[|5],Ze %[|5]];rfl
   ·rw[ex,Zo %[|5],Ze %[|5]];rfl
   ·rw[ey,Zo %[|5],Ze %[|5]];rfl
   ·rw[ey,Zo %[|5],Ze %[|5]];rfl
   ·rw[ex,ey,Zd _ _ _ %[|5],Zd _ _ _ %[|5],Z3 _ _ _ %[|5],Z3 _ _ _ %[|5]]
    have kq:(k:Rat)<=(m:Rat):=by exact_mod_cast Nat.le_of_lt q
    have k0':=natR k0;have:=conv mp (Rat.le_of_lt k0') kq hc (he 0).1 (he 0).2 (he 1).1 (he 1).2 w0
    constructor<;>grind
  ·subst q
   match rs,hm',hk' with
   | z2::rs,hm',hk' =>
    have m2:=hm' z2 List.mem_cons_self;have y2:ri (Y0 (mvE (fun i=>e (i+1)) (z2::rs) w)) 0=hR (mvE e ((h,k)::z2::rs) w) 1:=by
     show ri (Y0 (_::mvE _ rs w)) 0=_;rw[ZR (by exact m2)];rfl
    refine .bound 0 (by simp) ?_ ?_ ?_ ?_ ?_
    ·rw[ex,Zo %[|5],Ze %[|5]];rfl
    ·have:=ZA (a:=List.replicate k h) (b:=Y0 (z2::rs)) (k:=0)
     rw[l1,Nat.add_zero] at this;rw[ex,this,ZR m2];rfl
    ·rw[ey,Zo %[|5],Ze %[|5]];rfl
    ·have:=ZA (a:=List.replicate k (h+(e 1-e 0) / (k:Rat)*w)) (b:=Y0 (mvE (fun i=>e (i+1)) (z2::rs) w)) (k:=0)
     rw[l2,Nat.add_zero] at this;rw[ey,this,y2]
    ·rw[ex,ey,Zd _ _ _ %[|5],Zd _ _ _ %[|5],Z3 _ _ _ %[|5],Z3 _ _ _ %[|5]]
     grind
   | [],_,hk'=>simp[totR] at hk'
  ·obtain⟨j,rfl,j0⟩:∃ j,k=m+j/\0<j:=⟨k-m,by omega,by omega⟩
   have jt:j<totR rs:=by omega
   have sx:Y2 (Y0 ((h,m)::rs)) (m+j)=(m:Rat)*h+Y2 (Y0 rs) j:=by
    have:=ZI (List.replicate m h) (Y0 rs) j (by rw[YS];omega);rw[l1,Z3 _ _ _ %[|3]] at this;rw[ex,this]
   have sy:Y2 (Y0 (mvE e ((h,m)::rs) w)) (m+j)=(m:Rat)*(h+(e 1-e 0) / (m:Rat)*w)+Y2 (Y0 (mvE (fun i=>e (i+1)) rs w)) j:=by
    have:=ZI (List.replicate m (h+(e 1-e 0) / (m:Rat)*w)) (Y0 (mvE (fun i=>e (i+1)) rs w)) j (by rw[YS,Vn];omega);rw[l2,Z3 _ _ _ %[|3]] at this;rw[ey,this]
   have rx:∀ i,ri (Y0 ((h,m)::rs)) (m+i)=ri (Y0 rs) i:=fun i=>by
    have:=ZA (a:=List.replicate m h) (b:=Y0 rs) (k:=i);rw[l1] at this;rw[ex,this]
   have ry:∀ i,ri (Y0 (mvE e ((h,m)::rs) w)) (m+i)=ri (Y0 (mvE (fun i=>e (i+1)) rs w)) i:=fun i=>by
    have:=ZA (a:=List.replicate m (h+(e 1-e 0) / (m:Rat)*w)) (b:=Y0 (mvE (fun i=>e (i+1)) rs w)) (k:=i);rw[l2] at this;rw[ey,this]
   have es:e 0*w+(Y2 (Y0 (mvE e ((h,m)::rs) w)) (m+j)-Y2 (Y0 ((h,m)::rs)) (m+j))=e 1*w+(Y2 (Y0 (mvE (fun i=>e (i+1)) rs w)) j-Y2 (Y0 rs) j):=by
    rw[sx,sy];grind
   rw[show m+j=m+j from rfl];rcases Xf rs (fun i=>e (i+1)) w j hm' j0 jt with ⟨i,hi,h1,h2,h3,h4,h5⟩|⟨i,hi,h1,h2,h3,h4,h5⟩
   ·refine .run (i+1) (by simpa using hi) ?_ ?_ ?_ ?_ fun he w0=>?_
    ·rw[show m+j-1=m+(j-1) by omega,rx];exact h1
    ·rw[rx];exact h2
    ·rw[show m+j-1=m+(j-1) by omega,ry];exact h3
    ·rw[ry];exact h4
    ·rw[es];exact h5 (fun j=>he (j+1)) w0
   ·refine .bound (i+1) (by simpa using hi) ?_ ?_ ?_ ?_ ?_
    ·rw[show m+j-1=m+(j-1) by omega,rx];exact h1
    ·rw[rx];exact h2
    ·rw[show m+j-1=m+(j-1) by omega,ry];exact h3
    ·rw[ry];exact h4
    ·rw[es];exact h5
theorem Dx:∀ (rs:List (Rat×Nat)) (e:Nat->Rat) (w:Rat),(∀ z∈rs,1<=z.2)->e 0*w+(Y2 (Y0 (mvE e rs w)) (totR rs)-Y2 (Y0 rs) (totR rs))=e rs.length*w
 | [],e,w,_=>by simp[mvE,Y0,totR];grind
 | z::rs,e,w,hm=>by
  obtain⟨h,m⟩:=z;have m1:1<=m:=hm (h,m) List.mem_cons_self;have mp:=natR m1;have ih:=Dx rs (fun i=>e (i+1)) w fun z hz=>hm z (List.mem_cons_of_mem _ hz);have hc:(e 1-e 0) / (m:Rat)*(m:Rat)=e 1-e 0:=Rat.div_mul_cancel (by grind);have a1:=ZI (List.replicate m h) (Y0 rs) (totR rs) (by rw[YS];omega);have a2:=ZI (List.replicate m (h+(e 1-e 0) / (m:Rat)*w)) (Y0 (mvE (fun i=>e (i+1)) rs w)) (totR rs) (by rw[YS,Vn];omega);rw[List.length_replicate,Z3 _ _ _ %[|3]] at a1 a2;rw[tot_cons];show e 0*w+(Y2 (List.replicate m (h+(e 1-e 0) / (m:Rat)*w)++Y0 (mvE (fun i=>e (i+1)) rs w)) (m+totR rs)-Y2 (List.replicate m h++Y0 rs) (m+totR rs))=e (rs.length+1)*w;rw[a1,a2];grind
theorem A2:∀ (rs:List (Rat×Nat)) (e:Nat->Rat) (w:Rat) (i:Nat),(∀ z∈rs,1<=z.2)->i+1<rs.length->∃ k,0<k/\k<totR rs/\ri (Y0 rs) (k-1)=hR rs i/\ri (Y0 rs) k=hR rs (i+1)/\ri (Y0 (mvE e rs w)) (k-1)=hR (mvE e rs w) i/\ri (Y0 (mvE e rs w)) k=hR (mvE e rs w) (i+1)
 | [],e,w,i,_,h=>by simp at h
 | [z],e,w,i,_,h=>by simp at h
 | z::z2::rs,e,w,0,hm,_=>by
  obtain⟨h,m⟩:=z;have m1:1<=m:=hm (h,m) List.mem_cons_self;have m2:1<=z2.2:=hm z2 (by simp);have t:totR ((h,m)::z2::rs)=m+totR (z2::rs):=tot_cons _ _;have t2:totR (z2::rs)=z2.2+totR rs:=tot_cons _ _;have ey:Y0 (mvE e ((h,m)::z2::rs) w)=List.replicate m (h+(e 1-e 0) / (m:Rat)*w)++Y0 (mvE (fun i=>e (i+1)) (z2::rs) w):=rfl;refine⟨m,m1,by omega,?_,?_,?_,?_⟩
  ·rw[ZS,Zo (by simp;omega),Ze (by show m-1<m;omega)];rfl
  ·have:=ZA (a:=List.replicate m h) (b:=Y0 (z2::rs)) (k:=0)
   rw[List.length_replicate,Nat.add_zero] at this;rw[ZS,this,ZR m2];rfl
  ·rw[ey,Zo (by simp;omega),Ze %[|5]];rfl
  ·have:=ZA (a:=List.replicate m (h+(e 1-e 0) / (m:Rat)*w)) (b:=Y0 (mvE (fun i=>e (i+1)) (z2::rs) w)) (k:=0)
   rw[List.length_replicate,Nat.add_zero] at this;rw[ey,this];show ri (Y0 (_::mvE _ rs w)) 0=_;rw[ZR (by exact m2)];rfl
 | z::z2::rs,e,w,i+1,hm,hh=>by
  obtain⟨k,k0,kt,h1,h2,h3,h4⟩:=A2 (z2::rs) (fun i=>e (i+1)) w i (fun z hz=>hm z (List.mem_cons_of_mem _ hz)) (by simpa using hh);obtain⟨h,m⟩:=z;have t:totR ((h,m)::z2::rs)=m+totR (z2::rs):=tot_cons _ _;have ey:Y0 (mvE e ((h,m)::z2::rs) w)=List.replicate m (h+(e 1-e 0) / (m:Rat)*w)++Y0 (mvE (fun i=>e (i+1)) (z2::rs) w):=rfl;have rx:∀ i,ri (Y0 ((h,m)::z2::rs)) (m+i)=ri (Y0 (z2::rs)) i:=fun i=>by
   have:=ZA (a:=List.replicate m h) (b:=Y0 (z2::rs)) (k:=i);rw[List.length_replicate] at this;rw[ZS,this]
  have ry:∀ i,ri (Y0 (mvE e ((h,m)::z2::rs) w)) (m+i)=ri (Y0 (mvE (fun i=>e (i+1)) (z2::rs) w)) i:=fun i=>by
   have:=ZA (a:=List.replicate m (h+(e 1-e 0) / (m:Rat)*w)) (b:=Y0 (mvE (fun i=>e (i+1)) (z2::rs) w)) (k:=i);rw[List.length_replicate] at this;rw[ey,this]
  refine⟨m+k,by omega,by omega,?_,?_,?_,?_⟩
  ·rw[show m+k-1=m+(k-1) by omega,rx];exact h1
  ·rw[rx];exact h2
  ·rw[show m+k-1=m+(k-1) by omega,ry];exact h3
  ·rw[ry];exact h4
noncomputable def sg (a b:Rat):Rat:=if a<b then 1 else if b<a then -1 else 0
theorem Gw {a b:Rat} (h:a<b):sg a b=1:=if_pos h
theorem Gx {a b:Rat} (h:b<a):sg a b=-1:=by unfold sg;rw[if_neg (by grind),if_pos h]
theorem IY (a b:Rat):-1<=sg a b/\sg a b<=1:=by unfold sg;split<;>(try split)<;>constructor<;>decide
noncomputable def eR (rs:List (Rat×Nat)) (i:Nat):Rat:=if 0<i/\i<rs.length then sg (hR rs (i-1)) (hR rs i) else 0
theorem Uv (rs:List (Rat×Nat)) (i:Nat):-1<=eR rs i/\eR rs i<=1:=by
 unfold eR;split
 ·exact IY _ _
 ·constructor<;>decide
theorem IF {α:Type} (xs:List α) (a b:Nat):cutG xs (some (a:Int)) (some (b:Int))=(xs.drop (min a xs.length)).take (min b xs.length-min a xs.length):=by
 unfold cutG;rw[HT.sIx_nat,HT.sIx_nat]
noncomputable def pa (rs:List (Rat×Nat)) (i:Nat):List Rat:=if 0<i then [hR rs (i-1)] else []
noncomputable def pb (rs:List (Rat×Nat)) (i:Nat):List Rat:=if i+1<rs.length then [hR rs (i+1)] else []
theorem GP {rs:List (Rat×Nat)} (j:Nat):((rs.drop j).take 1).map (·.1)=if j<rs.length then [hR rs j] else []:=by
 by_cases h:j<rs.length
 ·rw[if_pos h,List.drop_eq_getElem_cons h,show (1:Nat)=0+1 from rfl,List.take_succ_cons,List.take_zero]
  simp[hR,List.getD,h]
 ·rw[if_neg h,List.drop_eq_nil_of_le %[|5]];rfl
theorem Fw {rs:List (Rat×Nat)} {i:Nat} (h:i<rs.length):Za rs i=pa rs i++hR rs i::pb rs i:=by
 unfold Za pa pb;cases i with
 | zero =>
  rw[show (if ((0:Nat):Int)-1<0 then (0:Int) else ((0:Nat):Int)-1)=((0:Nat):Int) from rfl,show ((0:Nat):Int)+2=((2:Nat):Int) from rfl,Br];rw[show rs.take 2=(rs.drop 0).take (1+1) from rfl,List.drop_eq_getElem_cons h,List.take_succ_cons,List.map_cons,GP];simp[hR,List.getD,h]
 | succ j =>
  have hj:j<rs.length:=by omega
  rw[if_neg %[|5],show (((j+1:Nat):Int)-1)=((j:Nat):Int) by omega,show (((j+1:Nat):Int)+2)=((j+3:Nat):Int) by omega,IF,Nat.min_eq_left (by omega:j<=rs.length)];have e:(rs.drop j).take (min (j+3) rs.length-j)=(rs.drop j).take 3:=by
   rcases Nat.le_total (j+3) rs.length with q|q
   ·rw[Nat.min_eq_left q];congr 1;omega
   ·rw[Nat.min_eq_right q,List.take_of_length_le (by simp),List.take_of_length_le (by simp;omega)]
  rw[e,List.drop_eq_getElem_cons hj,List.take_succ_cons,List.drop_eq_getElem_cons h,List.take_succ_cons,List.map_cons,List.map_cons,GP];simp[hR,List.getD,h,hj]
theorem flt1 (h o:Rat):(([o].filter fun x=>decide (h<x)).length:Int)-([o].filter fun x=>decide (x<h)).length=if h<o then 1 else if o<h then -1 else 0:=by
 by_cases c:h<o
 ·have c':¬ o<h:=by grind
  simp[c,c']
 ·by_cases c':o<h
  ·simp[c,c']
  ·simp[c,c']
theorem CB (h o:Rat):(((if h<o then 1 else if o<h then -1 else 0:Int):Int):Rat)=sg h o:=by
 unfold sg;split
 ·rfl
 ·split<;>rfl
theorem Hd (a b:Rat):sg b a=-sg a b:=by
 unfold sg;by_cases c:a<b
 ·have c':¬ b<a:=by grind
  simp[c,c']
 ·by_cases c':b<a
  ·simp[c,c']
  ·simp[c,c']
theorem ED {rs:List (Rat×Nat)} {i:Nat} (h:i<rs.length):((XQ rs i:Int):Rat)=eR rs (i+1)-eR rs i:=by
 have irr:∀ q:Rat,¬ q<q:=fun q=>by grind
 have fa:(((pa rs i).filter fun o=>decide (hR rs i<o)).length:Int)-((pa rs i).filter fun o=>decide (o<hR rs i)).length=if 0<i then (if hR rs i<hR rs (i-1) then 1 else if hR rs (i-1)<hR rs i then -1 else 0) else 0:=by
  unfold pa;split
  ·exact flt1 _ _
  ·rfl
 have fb:(((pb rs i).filter fun o=>decide (hR rs i<o)).length:Int)-((pb rs i).filter fun o=>decide (o<hR rs i)).length=if i+1<rs.length then (if hR rs i<hR rs (i+1) then 1 else if hR rs (i+1)<hR rs i then -1 else 0) else 0:=by
  unfold pb;split
  ·exact flt1 _ _
  ·rfl
 have key:XQ rs i=(if 0<i then (if hR rs i<hR rs (i-1) then 1 else if hR rs (i-1)<hR rs i then -1 else 0) else 0)+(if i+1<rs.length then (if hR rs i<hR rs (i+1) then 1 else if hR rs (i+1)<hR rs i then -1 else 0) else 0):=by
  rw[<- fa,<- fb];unfold XQ;rw[Fw h];simp only[List.filter_append,List.length_append,List.filter_cons,decide_eq_true_eq,irr,if_false]
  push_cast
  omega
 rw[key];have e1:eR rs (i+1)=if i+1<rs.length then sg (hR rs i) (hR rs (i+1)) else 0:=by
  unfold eR;simp
 have e0:eR rs i=if 0<i then sg (hR rs (i-1)) (hR rs i) else 0:=by
  unfold eR;simp[h]
 rw[e1,e0];have s1:=CB (hR rs i) (hR rs (i-1));have s2:=CB (hR rs i) (hR rs (i+1));have s3:=Hd (hR rs (i-1)) (hR rs i);generalize (if hR rs i<hR rs (i-1) then 1 else if hR rs (i-1)<hR rs i then -1 else 0:Int)=u at s1;generalize (if hR rs i<hR rs (i+1) then 1 else if hR rs (i+1)<hR rs i then -1 else 0:Int)=v at s2;rw[<- s2,show sg (hR rs (i-1)) (hR rs i)=-(u:Rat) by rw[s1,s3];grind];split<;>split<;>push_cast<;>grind
theorem Vp {rs:List (Rat×Nat)} {i:Nat} (h:i<rs.length):Y5 rs i=(eR rs (i+1)-eR rs i) / (mR rs i:Rat):=by
 unfold Y5;rw[Rat.divInt_eq_div,ED h]
 rfl
theorem Kk (rs:List (Rat×Nat)) (w:Rat):mvR rs w=mvE (eR rs) rs w:=by
 have l1:=J2 rs w;have l2:=B2 (eR rs) rs w;refine List.ext_getElem %[|5] fun i h1 h2=>?_;have hi:i<rs.length:=by omega
 have a:=Ar (eR rs) rs w i hi;rw[List.getD_eq_getElem?_getD,List.getElem?_eq_getElem h2,Option.getD_some] at a;rw[a,<- Vp hi];simp[mvR]
theorem Ba {rs:List (Rat×Nat)} {w:Rat} {i:Nat} (h:i<rs.length):hR (mvE (eR rs) rs w) i=hR rs i+Y5 rs i*w:=by
 unfold hR;rw[Ar _ _ _ _ h,Vp h]
 rfl
theorem VX {a b:Rat} (ha:0<=a) (hb:0<b):0<=a / b:=by
 refine Rat.not_lt.mp fun h=>?_;have:=Rat.mul_lt_mul_of_pos_right h hb;rw[Rat.div_mul_cancel (by grind)] at this;grind
theorem VW {a b:Rat} (ha:a<=0) (hb:0<b):a / b<=0:=by
 refine Rat.not_lt.mp fun h=>?_;have:=Rat.mul_lt_mul_of_pos_right h hb;rw[Rat.div_mul_cancel (by grind)] at this;grind
structure Step (rs:List (Rat×Nat)) (w:Rat):Prop where
 m1:∀ z∈rs,1<=z.2
 ap:U7 rs
 mem:w∈Yy rs (climbs rs) (rs.length-1)
 le:∀ x∈Yy rs (climbs rs) (rs.length-1),w<=x
theorem WF {rs:List (Rat×Nat)} (a:U7 rs) {i:Nat} (h:i+1<rs.length):hR rs i≠hR rs (i+1):=by
 have:=a i h;have h':i<rs.length:=by omega
 simpa[hR,List.getD,h,h'] using this
theorem GF {rs:List (Rat×Nat)} (m:∀ z∈rs,1<=z.2) {i:Nat} (h:i<rs.length):(0:Rat)<(mR rs i:Rat):=natR (m _ (YW h))
theorem closing {rs:List (Rat×Nat)} (m:∀ z∈rs,1<=z.2) {i:Nat} (h:i+1<rs.length):(hR rs i<hR rs (i+1)->0<=Y5 rs i-Y5 rs (i+1))/\(hR rs (i+1)<hR rs i->Y5 rs i-Y5 rs (i+1)<=0):=by
 have e:eR rs (i+1)=sg (hR rs i) (hR rs (i+1)):=by unfold eR;simp[h]
 have a0:=Uv rs i;have a2:=Uv rs (i+1+1);have p0:=GF m (show i<rs.length by omega);have p1:=GF m h;rw[Vp (show i<rs.length by omega),Vp h,e];constructor
 ·intro c
  rw[Gw c];have:=VX (a:=1-eR rs i) (by grind) p0;have:=VW (a:=eR rs (i+1+1)-1) (by grind) p1;grind
 ·intro c
  rw[Gx c];have:=VW (a:=-1-eR rs i) (by grind) p0;have:=VX (a:=eR rs (i+1+1) - -1) (by grind) p1;grind
theorem EQ {rs:List (Rat×Nat)} {i:Nat} (h:i+1<rs.length) (hc:Y5 rs i-Y5 rs (i+1)≠0):(hR rs (i+1)-hR rs i) / (Y5 rs i-Y5 rs (i+1))∈Yy rs (climbs rs) (rs.length-1):=by
 have e:YQ rs (climbs rs) (i+1)=(hR rs (i+1)-hR rs i) / (Y5 rs i-Y5 rs (i+1)):=by
  unfold YQ;rw[Yv %[|5],Yv h];rfl
 rw[<- e];unfold Yy;refine List.mem_map_of_mem (List.mem_filter.mpr ⟨List.mem_map.mpr ⟨i,List.mem_range.mpr %[|5],rfl⟩,?_⟩);rw[Yv %[|5],Yv %[|5]]
 simpa using hc
theorem Step.keep {rs:List (Rat×Nat)} {w v:Rat} (S:Step rs w) (v0:0<=v) (vw:v<=w) {i:Nat} (h:i+1<rs.length) :
  (hR rs i<hR rs (i+1)->hR (mvE (eR rs) rs v) i<=hR (mvE (eR rs) rs v) (i+1)/\(v<w->hR (mvE (eR rs) rs v) i<hR (mvE (eR rs) rs v) (i+1))) /\
  (hR rs (i+1)<hR rs i->hR (mvE (eR rs) rs v) (i+1)<=hR (mvE (eR rs) rs v) i/\(v<w->hR (mvE (eR rs) rs v) (i+1)<hR (mvE (eR rs) rs v) i)):=by
 have C:=closing S.m1 h;rw[Ba (show i<rs.length by omega),Ba h];have W:=fun hc=>S.le _ (EQ h hc);generalize hκ:Y5 rs i-Y5 rs (i+1)=κ at C W;have ek:∀ x y:Rat,y+Y5 rs (i+1)*v-(x+Y5 rs i*v)=(y-x)-κ*v:=fun x y=>by rw[<- hκ];grind
 have ek:=ek (hR rs i) (hR rs (i+1));constructor
 ·intro c
  have k0:=C.1 c;by_cases hk:κ=0
  ·rw[hk] at ek
   exact⟨by grind,fun _=>by grind⟩
  ·have kp:0 < κ:=by grind
   have:=Rat.mul_le_mul_of_nonneg_right (W hk) k0;rw[Rat.div_mul_cancel hk] at this;have h2:=Rat.mul_le_mul_of_nonneg_right vw k0;refine⟨by grind,fun q=>?_⟩;have h3:=Rat.mul_lt_mul_of_pos_right q kp;grind
 ·intro c
  have k0:=C.2 c;by_cases hk:κ=0
  ·rw[hk] at ek
   exact⟨by grind,fun _=>by grind⟩
  ·have kp:0 < -κ:=by grind
   have:=Rat.mul_le_mul_of_nonneg_right (W hk) (Rat.le_of_lt kp);have e2:(hR rs (i+1)-hR rs i) / κ*-κ=-(hR rs (i+1)-hR rs i):=by
    have:=Rat.div_mul_cancel (a:=hR rs (i+1)-hR rs i) hk;grind
   rw[e2] at this;have h2:=Rat.mul_le_mul_of_nonneg_right vw (Rat.le_of_lt kp);refine⟨by grind,fun q=>?_⟩;have h3:=Rat.mul_lt_mul_of_pos_right q kp;grind
theorem Step.ex {rs:List (Rat×Nat)} {w:Rat} (S:Step rs w) (h2:2<=rs.length):∃ i,i+1<rs.length/\Y5 rs i-Y5 rs (i+1)≠0/\w=(hR rs (i+1)-hR rs i) / (Y5 rs i-Y5 rs (i+1)):=by
 obtain⟨j,j1,jl,hc,e⟩:=UK %[|5] S.mem;obtain⟨i,rfl⟩:∃ i,j=i+1:=⟨j-1,by omega⟩;refine⟨i,jl,hc,?_⟩;rw[e];unfold YQ;rw[Yv %[|5],Yv jl];rfl
theorem Step.pos {rs:List (Rat×Nat)} {w:Rat} (S:Step rs w) (h2:2<=rs.length):0<w:=by
 obtain⟨i,h,hc,rfl⟩:=S.ex h2;have C:=closing S.m1 h;have ne:=WF S.ap h;refine Rat.not_le.mp fun q=>?_;by_cases c:hR rs i<hR rs (i+1)
 ·have:=C.1 c
  have h3:=Rat.mul_le_mul_of_nonneg_right q this;rw[Rat.div_mul_cancel hc] at h3;grind
 ·have:=C.2 (by grind)
  have h3:=Rat.mul_le_mul_of_nonneg_right q (show 0<=-(Y5 rs i-Y5 rs (i+1)) by grind);have h4:=Rat.div_mul_cancel (a:=hR rs (i+1)-hR rs i) hc;grind
theorem Step.taut {rs:List (Rat×Nat)} {w v p:Rat} {d:List Rat} (S:Step rs w) (v0:0<=v) (vw:v<=w) (X:TautOf d p p (Y0 rs)):TautOf d (p+v) (p+v) (Y0 (mvE (eR rs) rs v)):=by
 have xl:=X.len;have tl:totR rs=d.length:=by rw[<- YS];exact xl
 have e0:eR rs 0=0:=by unfold eR;simp
 have en:eR rs rs.length=0:=by unfold eR;simp
 have F:=Dx rs (eR rs) v S.m1;rw[e0,en,tl] at F;have xf:=X.fin;refine⟨by rw[YS,Vn,tl],by grind,fun k k0 kn=>?_,fun k k0 kn=>?_,fun k k0 kn hu=>?_,fun k k0 kn hu=>?_⟩
 ·have xa:=X.low k k0 kn
  rcases Xf rs (eR rs) v k S.m1 k0 %[|5] with ⟨i,hi,h1,h2,h3,h4,h5⟩|⟨i,hi,h1,h2,h3,h4,h5⟩
  ·have:=(h5 (Uv rs) v0).1
   rw[e0] at this;grind
  ·have:=Rat.mul_le_mul_of_nonneg_right (Uv rs (i+1)).1 v0
   rw[e0] at h5;grind
 ·have xa:=X.high k k0 kn
  rcases Xf rs (eR rs) v k S.m1 k0 %[|5] with ⟨i,hi,h1,h2,h3,h4,h5⟩|⟨i,hi,h1,h2,h3,h4,h5⟩
  ·have:=(h5 (Uv rs) v0).2
   rw[e0] at this;grind
  ·have:=Rat.mul_le_mul_of_nonneg_right (Uv rs (i+1)).2 v0
   rw[e0] at h5;grind
 ·rcases Xf rs (eR rs) v k S.m1 k0 %[|5] with ⟨i,hi,h1,h2,h3,h4,h5⟩|⟨i,hi,h1,h2,h3,h4,h5⟩
  ·rw[h3,h4] at hu
   exact absurd hu (by grind)
  ·rw[h3,h4] at hu
   have K:=S.keep v0 vw hi;have c:hR rs i<hR rs (i+1):=by
    have ne:=WF S.ap hi;refine Rat.not_le.mp fun q=>?_;have:=(K.2 (by grind)).1;grind
   have xu:=X.up k k0 kn (by rw[h1,h2];exact c);have ee:eR rs (i+1)=1:=by
    unfold eR;rw[if_pos ⟨by omega,hi⟩];exact Gw c
   rw[e0,ee] at h5;grind
 ·rcases Xf rs (eR rs) v k S.m1 k0 %[|5] with ⟨i,hi,h1,h2,h3,h4,h5⟩|⟨i,hi,h1,h2,h3,h4,h5⟩
  ·rw[h3,h4] at hu
   exact absurd hu (by grind)
  ·rw[h3,h4] at hu
   have K:=S.keep v0 vw hi;have c:hR rs (i+1)<hR rs i:=by
    have ne:=WF S.ap hi;refine Rat.not_le.mp fun q=>?_;have:=(K.1 (by grind)).1;grind
   have xu:=X.down k k0 kn (by rw[h1,h2];exact c);have ee:eR rs (i+1)=-1:=by
    unfold eR;rw[if_pos ⟨by omega,hi⟩];exact Gx c
   rw[e0,ee] at h5;grind
theorem Step.alike {rs:List (Rat×Nat)} {w v:Rat} (S:Step rs w) (v0:0<=v) (vw:v<=w) {k:Nat} (k0:0<k) (kn:k<totR rs):(ri (Y0 rs) (k-1)=ri (Y0 rs) k->ri (Y0 (mvE (eR rs) rs v)) (k-1)=ri (Y0 (mvE (eR rs) rs v)) k)/\(v<w->ri (Y0 (mvE (eR rs) rs v)) (k-1)=ri (Y0 (mvE (eR rs) rs v)) k->ri (Y0 rs) (k-1)=ri (Y0 rs) k):=by
 rcases Xf rs (eR rs) v k S.m1 k0 kn with ⟨i,hi,h1,h2,h3,h4,h5⟩|⟨i,hi,h1,h2,h3,h4,h5⟩
 ·rw[h1,h2,h3,h4]
  exact⟨fun _=>rfl,fun _ _=>rfl⟩
 ·rw[h1,h2,h3,h4]
  have ne:=WF S.ap hi;refine⟨fun e=>absurd e ne,fun q e=>?_⟩;have K:=S.keep v0 vw hi;by_cases c:hR rs i<hR rs (i+1)
  ·have:=(K.1 c).2 q
   grind
  ·have:=(K.2 (by grind)).2 q
   grind
theorem Step.joins {rs:List (Rat×Nat)} {w:Rat} (S:Step rs w) (h2:2<=rs.length):∃ k,0<k/\k<totR rs/\ri (Y0 rs) (k-1)≠ri (Y0 rs) k/\ri (Y0 (mvE (eR rs) rs w)) (k-1)=ri (Y0 (mvE (eR rs) rs w)) k:=by
 obtain⟨i,h,hc,e⟩:=S.ex h2;obtain⟨k,k0,kt,h1,h2,h3,h4⟩:=A2 rs (eR rs) w i S.m1 h;refine⟨k,k0,kt,by rw[h1,h2];exact WF S.ap h,?_⟩;rw[h3,h4,Ba (show i<rs.length by omega),Ba h];have:=Rat.div_mul_cancel (a:=hR rs (i+1)-hR rs i) hc;rw[<- e] at this;grind
theorem JB (ts:List (Rat×Nat)) (z:Rat×Nat):Y0 (putR ts z)=Y0 ts++List.replicate z.2 z.1:=by
 unfold putR;split
 ·rename_i c
  obtain⟨t,ht⟩:∃ t,ts.getLast?=some t:=by
   cases e:ts.getLast? with
   | none=>rw [e] at c;cases c
   | some t=>exact⟨t,rfl⟩
  have hne:ts≠[]:=fun e=>by rw[e] at ht;cases ht
  have es:ts=ts.dropLast++[t]:=by
   have:=List.dropLast_concat_getLast hne;rw[List.getLast?_eq_some_getLast hne] at ht;injection ht with ht
   rw[ht] at this;exact this.symm
  have te:t.1=z.1:=by
   rw[ht] at c
   simpa using c
  rw[ht];generalize ts.dropLast=t0 at es;subst es;rw[ZJ,ZJ];simp[te,List.replicate_append_replicate]
 ·exact ZJ ts z
theorem Wx (rs:List (Rat×Nat)):∀ i,i<=rs.length->Y0 (Yk (rs.take i))=Y0 (rs.take i)
 | 0,_=>by simp[Yk,Y0]
 | i+1,h=>by
  rw[List.take_succ_eq_append_getElem %[|5],Zk,JB,ZJ,Wx rs i %[|5]]
theorem Xy (rs:List (Rat×Nat)):Y0 (Yk rs)=Y0 rs:=by
 have:=Wx rs rs.length %[|3]
 rwa [List.take_length] at this
theorem WZ (d:List Rat):Y0 (ones d)=d:=by
 induction d with
 | nil=>rfl
 | cons a d ih=>simp[ones,Y0] at ih ⊢;exact ih
theorem Au:∀ (rs:List (Rat×Nat)) (e:Nat->Rat) (w q:Rat),mixR (Y0 rs) (Y0 (mvE e rs w)) q=Y0 (mvE e rs (q*w))
 | [],e,w,q=>rfl
 | z::rs,e,w,q=>by
  have ih:=Au rs (fun i=>e (i+1)) w q;unfold mixR at ih ⊢;show List.zipWith _ (List.replicate z.2 z.1++Y0 rs) (List.replicate z.2 (z.1+(e 1-e 0) / (z.2:Rat)*w)++Y0 (mvE (fun i=>e (i+1)) rs w))=List.replicate z.2 (z.1+(e 1-e 0) / (z.2:Rat)*(q*w))++Y0 (mvE (fun i=>e (i+1)) rs (q*w));rw[List.zipWith_append (by simp),ih,List.zipWith_replicate,Nat.min_self]
  congr 2
  grind
theorem Next.step {n k:Nat} {t u:Rat×List (Rat×Nat)} (S:Stage n k t) (N:Next t u) (hn:n<=24):∃ w,Step t.2 w/\0<w/\u.1=t.1+w/\Y0 u.2=Y0 (mvE (eR t.2) t.2 w):=by
 obtain⟨w,hw,hle,rfl⟩:=N.ex;have P:Step t.2 w:=⟨fun z hz=>((S.sz hn).2 z hz).2.1,S.ap,hw,hle⟩;exact⟨w,P,P.pos N.two,rfl,by show Y0 (Yk (mvR t.2 w))=_;rw[Xy,Kk]⟩
theorem Told2.taut {d:List Rat} {ts:List (Rat×List (Rat×Nat))} (T:Told2 d ts) (hn:d.length<=24):∀ i (h:i<ts.length),TautOf d ts[i].1 ts[i].1 (Y0 ts[i].2)/\0<=ts[i].1
 | 0,h=>by
  have f:=T.first;rw[List.head?_eq_getElem?,List.getElem?_eq_getElem h] at f;injection f with f
  rw[f];show TautOf d 0 0 (Y0 (Yk (ones d)))/\(0:Rat)<=0;rw[Xy,WZ];exact⟨TautOf.own d,Rat.le_refl⟩
 | i+1,h=>by
  obtain⟨X,p0⟩:=Told2.taut T hn i %[|5];obtain⟨w,P,w0,e1,e2⟩:=(T.next i h).step (T.stage i %[|5]) hn;rw[e1,e2];exact⟨P.taut (Rat.le_of_lt w0) Rat.le_refl X,by grind⟩
theorem TautOf.beyond {d:List Rat} {rs:List (Rat×Nat)} {p q:Rat} (h:rs.length<=1) (pq:p<=q) (X:TautOf d p p (Y0 rs)):TautOf d q q (Y0 rs):=by
 have same:∀ i j,i<(Y0 rs).length->j<(Y0 rs).length->ri (Y0 rs) i=ri (Y0 rs) j:=by
  intro i j hi hj
  match rs,h with
  | [],_=>simp[Y0] at hi
  | [z],_ =>
   have e:Y0 [z]=List.replicate z.2 z.1:=by simp[Y0]
   rw[e] at hi hj ⊢;rw[List.length_replicate] at hi hj;rw[Ze hi,Ze hj]
 have xl:=X.len;refine⟨X.len,X.fin,fun k k0 kn=>?_,fun k k0 kn=>?_,fun k k0 kn hu=>?_,fun k k0 kn hu=>?_⟩
 ·have:=X.low k k0 kn;grind
 ·have:=X.high k k0 kn;grind
 ·rw[same (k-1) k %[|5] %[|5]] at hu
  exact absurd hu (by grind)
 ·rw[same (k-1) k %[|5] %[|5]] at hu
  exact absurd hu (by grind)
structure Stair (d:List Rat) (us:List (Rat×List Rat)):Prop where
 first:us.head?=some (0,d)
 len:us.length<=d.length
 taut:∀ i (h:i<us.length),TautOf d us[i].1 us[i].1 us[i].2/\0<=us[i].1
 rise:∀ i (h:i+1<us.length),us[i].1<us[i+1].1
 mid:∀ i (h:i+1<us.length) q,us[i].1<=q->q<=us[i+1].1->TautOf d q q (mixR us[i].2 us[i+1].2 ((q-us[i].1) / (us[i+1].1-us[i].1)))
 same:∀ i (h:i+1<us.length) q,us[i].1<=q->q<us[i+1].1->∀ k,0<k->k<d.length->ri (mixR us[i].2 us[i+1].2 ((q-us[i].1) / (us[i+1].1-us[i].1))) (k-1)=ri (mixR us[i].2 us[i+1].2 ((q-us[i].1) / (us[i+1].1-us[i].1))) k->ri us[i].2 (k-1)=ri us[i].2 k
 alike:∀ i (h:i+1<us.length) k,0<k->k<d.length->ri us[i].2 (k-1)=ri us[i].2 k->ri us[i+1].2 (k-1)=ri us[i+1].2 k
 joins:∀ i (h:i+1<us.length),∃ k,0<k/\k<d.length/\ri us[i].2 (k-1)≠ri us[i].2 k/\ri us[i+1].2 (k-1)=ri us[i+1].2 k
 last:∀ u,us.getLast?=some u->(∀ k,0<k->k<d.length->ri u.2 (k-1)=ri u.2 k)/\∀ q,u.1<=q->TautOf d q q u.2
noncomputable def rows (ts:List (Rat×List (Rat×Nat))):List (Rat×List Rat):=ts.map fun t=>(t.1,Y0 t.2)
theorem Told2.stair {d:List Rat} {ts:List (Rat×List (Rat×Nat))} (T:Told2 d ts) (h1:1<=d.length) (hn:d.length<=24) (hl:∀ t,ts.getLast?=some t->t.2.length<=1):Stair d (rows ts):=by
 have at_:∀ i (h:i<(rows ts).length),∃ h':i<ts.length,(rows ts)[i]=(ts[i].1,Y0 ts[i].2):=fun i h=>by
  have h':i<ts.length:=by simpa[rows] using h
  exact⟨h',by simp[rows]⟩
 have st:∀ i (h:i+1<(rows ts).length),∃ (rs:List (Rat×Nat)) (p w:Rat),Step rs w/\2<=rs.length/\0<w/\(rows ts)[i]=(p,Y0 rs)/\(rows ts)[i+1]=(p+w,Y0 (mvE (eR rs) rs w))/\totR rs=d.length/\TautOf d p p (Y0 rs):=fun i h=>by
  obtain⟨h',e⟩:=at_ i %[|5];obtain⟨h'',e'⟩:=at_ (i+1) h;obtain⟨w,P,w0,e1,e2⟩:=(T.next i h'').step (T.stage i h') hn;exact⟨ts[i].2,ts[i].1,w,P,(T.next i h'').two,w0,e,by rw[e',e1,e2],(T.stage i h').tot,(T.taut hn i h').1⟩
 have ll:(rows ts).length=ts.length:=by simp[rows]
 refine⟨?_,?_,fun i h=>?_,fun i h=>?_,fun i h q q0 q1=>?_,fun i h q q0 q1 k k0 kn ek=>?_,fun i h k k0 kn ek=>?_,fun i h=>?_,fun u hu=>?_⟩
 ·have f:=T.first
  unfold rows;rw[List.head?_map,f];simp[Xy,WZ]
 ·rw[ll]
  rcases Nat.lt_or_ge d.length ts.length with q|q
  ·have S:=T.stage d.length q
   have:=S.len;have t:=S.tot;have:ts[d.length].2=[]:=List.length_eq_zero_iff.mp %[|5];rw[this] at t;simp[totR] at t;omega
  ·exact q
 ·obtain⟨h',e⟩:=at_ i h
  rw[e];exact T.taut hn i h'
 ·obtain⟨rs,p,w,P,r2,w0,e1,e2,t,X⟩:=st i h
  rw[e1,e2];show p<p+w;grind
 ·obtain⟨rs,p,w,P,r2,w0,e1,e2,t,X⟩:=st i h
  rw[e1] at q0;rw[e2] at q1;rw[e1,e2];dsimp only at q0 q1 ⊢;rw[Au];have e:(q-p) / (p+w-p)*w=q-p:=by
   rw[show p+w-p=w by grind];exact Rat.div_mul_cancel (by grind)
  rw[e];have:=P.taut (v:=q-p) (by grind) (by grind) X
  rwa [show p+(q-p)=q by grind] at this
 ·obtain⟨rs,p,w,P,r2,w0,e1,e2,t,X⟩:=st i h
  rw[e1] at q0;rw[e2] at q1;rw[e1,e2] at ek;rw[e1];dsimp only at q0 q1 ek ⊢;rw[Au] at ek;have e:(q-p) / (p+w-p)*w=q-p:=by
   rw[show p+w-p=w by grind];exact Rat.div_mul_cancel (by grind)
  rw[e] at ek;exact (P.alike (v:=q-p) (by grind) (by grind) k0 %[|5]).2 (by grind) ek
 ·obtain⟨rs,p,w,P,r2,w0,e1,e2,t,X⟩:=st i h
  rw[e1] at ek;rw[e2];exact (P.alike (Rat.le_of_lt w0) Rat.le_refl k0 %[|5]).1 ek
 ·obtain⟨rs,p,w,P,r2,w0,e1,e2,t,X⟩:=st i h
  rw[e1,e2,<- t];exact P.joins r2
 ·unfold rows at hu
  rw[List.getLast?_map] at hu;cases e:ts.getLast? with
  | none=>rw [e] at hu;cases hu
  | some t =>
   rw[e] at hu;simp at hu;subst hu;have t1:=hl t e;have hne:ts≠[]:=fun z=>by rw[z] at e;cases e
   have h0:0<ts.length:=List.length_pos_iff.mpr hne;have el:ts[ts.length-1]=t:=by
    rw[List.getLast?_eq_some_getLast hne,List.getLast_eq_getElem hne] at e;injection e
   have X:=(T.taut hn (ts.length-1) %[|5]).1;rw[el] at X;refine⟨fun k k0 kn=>?_,fun q hq=>X.beyond t1 hq⟩;have xl:=X.len;dsimp only
   match t.2,t1,xl with
   | [],_,xl=>simp[Y0] at xl;omega
   | [z],_,xl =>
    have e:Y0 [z]=List.replicate z.2 z.1:=by simp[Y0]
    rw[e] at xl ⊢;rw[List.length_replicate] at xl;rw[Ze %[|5],Ze %[|5]]
theorem K7 (k:Nat):XB ^ k<=2 ^ (36*k):=by
 rw[Nat.pow_mul];exact Nat.pow_le_pow_left %[|4] k
theorem Stage.szn {n k:Nat} {t:Rat×List (Rat×Nat)} (S:Stage n k t):Sz (50+36*n) t.1/\∀ z∈t.2,Sz (50+36*n) z.1:=by
 obtain⟨L,B,l0,hL,hB,R,gq⟩:=S.gr;have sl:=S.len;have p:XB ^ k<=2 ^ (36*n):=Nat.le_trans (K7 k) (Nat.pow_le_pow_right %[|4] %[|5]);have e:2 ^ (50+36*n)=2 ^ 50*2 ^ (36*n):=Nat.pow_add ..;have p0:0<2 ^ (36*n):=Nat.pow_pos %[|4];have h1:L<2 ^ (50+36*n):=by
  rw[e];have:=Nat.mul_le_mul_left 321253732800 p;omega
 have h2:B<2 ^ (50+36*n):=by
  rw[e];exact Nat.lt_of_le_of_lt (Nat.le_trans hB (Nat.mul_le_mul_left BX p)) (Nat.mul_lt_mul_of_pos_right %[|4] p0)
 exact⟨gq.sz l0 h1 h2,fun z hz=>(R.gr z hz).sz l0 h1 h2⟩
theorem Told2.szn {d:List Rat} {ts:List (Rat×List (Rat×Nat))} (T:Told2 d ts):∀ u∈rows ts,Sz (50+36*d.length) u.1/\u.2.length=d.length/\∀ x∈u.2,Sz (50+36*d.length) x:=fun u hu=>by
 obtain⟨t,ht,rfl⟩:=List.mem_map.mp hu;obtain⟨i,hi,rfl⟩:=List.getElem_of_mem ht;have S:=T.stage i hi;have z:=S.szn;refine⟨z.1,by rw[YS,S.tot],fun x hx=>?_⟩;obtain⟨y,hy,hx⟩:=List.mem_flatMap.mp hx;rw[(List.mem_replicate.mp hx).2];exact z.2 y hy
theorem AT (ts:List (Rat×List (Rat×Nat))):D.tup (ts.map st)=.tup ((rows ts).map sp):=by
 unfold rows;rw[List.map_map];rfl
theorem TautOf.one {s x y:List Rat} {p:Rat} (h1:1<=s.length) (p0:0<=p) (X:TautOf s p p x) (Y:TautOf s p p y):x=y:=by
 have tx:=Wo h1 p0 p0 X;have ty:=Wo h1 p0 p0 Y;have xl:=X.len;have yl:=Y.len;have z1:Y2 x 0=0:=Ya x;have z2:Y2 y 0=0:=Ya y;have fx:=X.fin;have fy:=Y.fin;have U:=tx.unique ty (by rw[Yd,Yd,z1,z2]) (by rw[Yd,Yd,fx,fy]);refine Xj %[|5] fun i hi=>?_;have a:=U i %[|5];have b:=U (i+1) %[|5];rw[Yd,Yd] at a b;rw[<- Zz hi,<- Zz (x:=y) %[|5],a,b]
theorem Stair.unique {d:List Rat} {us vs:List (Rat×List Rat)} (h1:1<=d.length) (S:Stair d us) (T:Stair d vs):us=vs:=by
 have hu:us≠[]:=fun e=>by have:=S.first;rw[e] at this;cases this
 have hv:vs≠[]:=fun e=>by have:=T.first;rw[e] at this;cases this
 have u0:0<us.length:=List.length_pos_iff.mpr hu;have v0:0<vs.length:=List.length_pos_iff.mpr hv;have fu:us[0]=(0,d):=by
  have:=S.first;rw[List.head?_eq_getElem?,List.getElem?_eq_getElem u0] at this;injection this
 have fv:vs[0]=(0,d):=by
  have:=T.first;rw[List.head?_eq_getElem?,List.getElem?_eq_getElem v0] at this;injection this
 have half:∀ {us vs:List (Rat×List Rat)},Stair d us->Stair d vs->∀ i (hu:i+1<us.length) (hv:i+1<vs.length),us[i]=vs[i]->vs[i+1].1<us[i+1].1->False:=by
  intro us vs S T i hu hv e q;obtain⟨k,k0,kn,ne,al⟩:=T.joins i hv;have a:=T.rise i hv;rw[<- e] at a ne;have m:=S.mid i hu vs[i+1].1 (Rat.le_of_lt a) (Rat.le_of_lt q);have X:=(T.taut (i+1) hv);have er:=TautOf.one h1 X.2 m X.1;refine ne (S.same i hu vs[i+1].1 (Rat.le_of_lt a) q k k0 kn ?_);rw[er];exact al
 have nlast:∀ {us:List (Rat×List Rat)},Stair d us->∀ i (h:i<us.length),(∀ k,0<k->k<d.length->ri us[i].2 (k-1)=ri us[i].2 k)->i+1=us.length:=by
  intro us S i h al;rcases Nat.lt_or_ge (i+1) us.length with q|q
  ·obtain⟨k,k0,kn,ne,_⟩:=S.joins i q
   exact absurd (al k k0 kn) ne
  ·omega
 have isl:∀ {us:List (Rat×List Rat)},Stair d us->∀ i (h:i<us.length),i+1=us.length->∀ k,0<k->k<d.length->ri us[i].2 (k-1)=ri us[i].2 k:=by
  intro us S i h e;have hne:us≠[]:=fun z=>by rw[z] at h;simp at h
  have:us.getLast?=some us[i]:=by
   rw[List.getLast?_eq_some_getLast hne,List.getLast_eq_getElem hne]
   congr 2;omega
  exact (S.last _ this).1
 have all:∀ i (hu:i<us.length),∃ hv:i<vs.length,us[i]=vs[i]:=by
  intro i
  induction i with
  | zero=>intro hu;exact⟨v0,by rw[fu,fv]⟩
  | succ i ih =>
   intro hu;obtain⟨hv,e⟩:=ih %[|5];have hv':i+1<vs.length:=by
    rcases Nat.lt_or_ge (i+1) vs.length with q|q
    ·exact q
    ·have al:=isl T i hv %[|5]
     rw[<- e] at al;have:=nlast S i %[|5] al;omega
   refine⟨hv',?_⟩;have p:us[i+1].1=vs[i+1].1:=by
    have n1:=half S T i hu hv' e;have n2:=half T S i hv' hu e.symm;have:¬ vs[i+1].1<us[i+1].1:=n1;have:¬ us[i+1].1<vs[i+1].1:=n2;grind
   have X:=S.taut (i+1) hu;have Y:=T.taut (i+1) hv';rw[p] at X;exact Prod.ext p (TautOf.one h1 Y.2 X.1 Y.1)
 have ll:us.length=vs.length:=by
  obtain⟨hv',e⟩:=all (us.length-1) %[|5];have al:=isl S (us.length-1) %[|5] %[|5];rw[e] at al;have:=nlast T (us.length-1) hv' al;omega
 exact List.ext_getElem ll fun i h1 h2=>(all i h1).2
theorem EqEnc.mono {α:Type} [DecidableEq α] {e:α->DL.D} {k m:Nat} (h:EqEnc e k) (hm:k<=m):EqEnc e m:=by
 obtain⟨e',h1,h2,h3⟩:=h.ex;exact⟨e',h1,h2,fun a=>Nat.le_trans (h3 a) hm⟩
theorem enc_sp:EqEnc sp 5:=(enc_nm.mono %[|4]).pair enc_rw
theorem enc_sps:EqEnc (fun us:List (Rat×List Rat)=>D.tup (us.map sp)) 6:=enc_sp.tup
theorem HZ {M:Mem} {Q:DK} {a b:List (Rat×List Rat)} (neg:Bool) (q:Q (.bl (if neg then !decide (a=b) else decide (a=b))) M):cEq neg (.tup (a.map sp)) (.tup (b.map sp)) M Q:=enc_sps.eq %[|4] neg q
theorem DJ {P:Rat->Prop} {r:List Rat} {q:Rat} (h:∀ x∈r,P x) (hq:P q):∀ x∈r++[q],P x:=fun x hx=>by
 rcases List.mem_append.mp hx with hx|hx
 ·exact h x hx
 ·simp at hx;subst hx;exact hq
noncomputable def S_58:DSp:=fun ds M Q E=>∃ a w,ds=[.lst a,.int w]/\Pk M a/\0<=w/\w<20/\∀ q M',Gr 60 1200 q->Dr a M M'->Q (nm q) M'
noncomputable def C_58:CSs:=%[.set 2 (.ix (.lst %[.int 1,.int 1,.int 1,.int 2,.int 3,.int 5,.int 12,.int 1|0]) (.call "_law_take" S_50 %[.var 0,.int 8|0])),.ret (.call "_law_low" S_51 %[.bin .Sub (.call "_law_take" S_50 %[.var 0,.bin .Add (.bin .Mult (.int 2) (.var 1)) (.int 1)|0]) (.var 1),.var 2|0])|0]
theorem vc_58:∀ ds M R E,S_58 ds M R E->rSs C_58 (ends R E) (Y1 3 ds) M:=by
 rintro ds M R E ⟨a,w,rfl,p,w0,w1,q⟩;unfold C_58;sleep 7;intro p0 M0 e0 x0 l0;refine YK (p.ext x0) %[|4] %[|4] fun r M1 r0 r1 y1=>?_;obtain⟨z,hz,hv⟩:=AJ (xs:=[D.int 1,D.int 1,D.int 1,D.int 2,D.int 3,D.int 5,D.int 12,D.int 1]) r0 (by simpa using r1);refine YZ (y1.keep _ _ (p.ne e0) l0) hv ?_;obtain⟨b,rfl,b0,b1,bd⟩:∃ b:Int,z=.int b/\0<b/\b<=12/\b.toNat ∣ 60:=by
  simp at hz;rcases hz with rfl|rfl|rfl|rfl|rfl|rfl|rfl|rfl<;>exact⟨_,rfl,by decide,by decide,by decide⟩
 sleep 7;refine⟨ZL (m:=64) (n:=64) %[|4] %[|5] %[|4],?_⟩;refine YK y1.pk %[|5] (Nat.lt_of_lt_of_le (show (2*w+1).natAbs<2 ^ 12 by omega) (Xm %[|4])) fun v M2 v0 v1 y2=>?_;exact⟨_,_,rfl,by omega,WO (Nat.lt_of_lt_of_le (show b.natAbs<2 ^ 4 by omega) (Xm %[|4])),q _ M2 (WR b0 bd %[|4] %[|5]) ((Dr.ext p x0).trans (y1.trans y2))⟩
theorem Ko {M:Mem} {s:List Rat} {g:Rat} (hg:g∈s) (hl:s.length<1000):∃ j,j<s.length/\ri s j=g/\(∀ m,m<j->ri s m≠g)/\IxAt M (s.map nm) (nm g) j:=by
 obtain⟨e',h1,h2,h3⟩:=enc_nm.ex;have hex:∃ x∈s.map e',PyData.eqv x (e' g)=true:=⟨e' g,List.mem_map_of_mem hg,by rw[h2];simp⟩;have hj:=List.findIdx_lt_length_of_exists hex;have h4:=List.findIdx_getElem (p:=fun q=>PyData.eqv q (e' g)) (w:=hj);have h5:∀ m (hm:m<(s.map e').findIdx (fun q=>PyData.eqv q (e' g))),PyData.eqv (s.map e')[m] (e' g)=false:=fun m hm=>by simpa using List.not_of_lt_findIdx hm
 obtain⟨j,ej⟩:∃ j,j=(s.map e').findIdx (fun q=>PyData.eqv q (e' g)):=⟨_,rfl⟩;have hj2:j<(s.map e').length:=by rw[ej];exact hj
 have hj':j<s.length:=by simpa using hj2
 refine⟨j,hj',?_,fun m hm=>?_,s.map e',e' g,UV (h1 M) s,h1 M g,by have:=h3 g;omega,by simpa using hl,hj2,ej.symm⟩
 ·simp only[<- ej] at h4
  rw[List.getElem_map,h2] at h4;have e:ri s j=s[j]:=by simp[ri,List.getD,hj']
  rw[e];simpa using h4
 ·have hm':m<s.length:=by omega
  have h6:=h5 m %[|5];rw[List.getElem_map,h2] at h6;have e:ri s m=s[m]:=by simp[ri,List.getD,hm']
  rw[e];simpa using h6
theorem EJ {s:List Rat} (h:1<=s.length):L2.atI (s.map nm) 0=some (nm (ri s 0)):=by
 cases s with
 | nil=>simp at h
 | cons a s=>exact Yf _ _
noncomputable def S_10:DSp:=fun ds M Q E=>∃ (p:Addr) (s:List Rat) (k:Nat),ds=[.lst p]/\M p=some (.ls (s.map nm))/\1<=s.length/\(∀ x∈s,Sz k x)/\k<=3900/\∀ g,g∈s->(∀ x∈s,x<=g)->Q (nm g) M
noncomputable def C_10:CSs:=%[.set 1 (.ix (.var 0) (.int 0)),.fr (.name 2) (.seq (.var 0)) %[.ife (.call "is_less" S_8 %[.var 1,.var 2|0]) %[.set 1 (.var 2)|0] .nil|0],.ret (.var 1)|0]
theorem vc_10:∀ ds M R E,S_10 ds M R E->rSs C_10 (ends R E) (Y1 3 ds) M:=by
 rintro ds M R E ⟨p,s,k,rfl,l,h1,sz,hk,q⟩;unfold C_10;sleep 7;refine YZ l (v:=nm (ri s 0)) (EJ h1) ?_;sleep 9;refine⟨_,l,?_⟩;refine YN (fun i δ M'=>∃ (g:Rat) (w2:Option DL.D),M'=M/\g∈s/\(∀ j,j<i->ri s j<=g)/\δ=[some (.lst p),some (nm g),w2]) (fun _ _ _ h=>by obtain⟨_,_,h,_⟩:=h;rw[h];exact l) ?_ ?_ ⟨ri s 0,_,rfl,YE %[|5],nofun,rfl⟩
 ·rintro δ M' ⟨g,w2,rfl,hg,hb,rfl⟩
  rw[List.length_map] at hb;sleep 7;refine q g hg fun x hx=>?_;obtain⟨i,hi',rfl⟩:=List.getElem_of_mem hx;have:=hb i hi'
  simpa[ri,List.getD,hi'] using this
 ·rintro i y hy N hN δ M' ⟨g,w2,rfl,hg,hb,rfl⟩
  obtain⟨hi,rfl⟩:∃ hi:i<s.length,y=nm (ri s i):=by
   obtain⟨h,e⟩:=List.getElem?_eq_some_iff.mp hy;have h':i<s.length:=by simpa using h
   exact⟨h',by rw[<- e];simp[ri,List.getD,h']⟩
  have si:=sz _ (YE hi);sleep 8;sleep 7;refine⟨_,_,rfl,.mk (sz g hg) si %[|5],?_⟩;by_cases c:g<ri s i
  ·simp[c]
   sleep 7;refine hN _ _ ⟨_,_,rfl,YE hi,fun j hj=>?_,rfl⟩;rcases (by omega:j<i\/j=i) with h|rfl
   ·have:=hb j h;grind
   ·exact Rat.le_refl
  ·simp[c]
   refine hN _ _ ⟨_,_,rfl,hg,fun j hj=>?_,rfl⟩;rcases (by omega:j<i\/j=i) with h|rfl
   ·exact hb j h
   ·grind
structure First (t:List (Rat×Rat)) (b:Nat):Prop where
 lt:b<t.length
 all:∀ i,i<t.length->lo t i<=lo t b
 one:∀ i,i<b->lo t i≠lo t b
theorem J5 {t:List (Rat×Rat)} {i:Nat} (h:i<t.length):ri (t.map (·.1)) i=lo t i:=by simp[ri,lo,List.getD,h]
noncomputable def S_31:DSp:=fun ds M Q E=>∃ (t:List (Rat×Rat)) (k:Nat),ds=[tb t]/\Box t k/\k<=1900/\1<=t.length/\t.length<=100/\∀ b M',First t b->MExt M M'->Q (.int (b:Int)) M'
noncomputable def C_31:CSs:=%[.set 1 (.comp ["tube","lows","low","high"] 2 (.tup %[.name 2,.name 3|0]) (.seq (.var 0)) (.var 2)),.ret (.idx 1 (.call "greatest_of" S_10 %[.var 1|0]))|0]
theorem vc_31:∀ ds M R E,S_31 ds M R E->rSs C_31 (ends R E) (Y1 2 ds) M:=by
 rintro ds M R E ⟨t,k,rfl,B,hk,h1,h2,q⟩;unfold C_31;sleep 7;refine YB t pl (fun p=>nm p.1) (fun R' r'=>?_) %[|5] ?_ ?_
 ·sleep 8
  exact r' _ fun _ _=>trivial
 ·intro v hv l M' R' hl' ee rr
  obtain⟨z1,z2,rfl⟩:=len2 hl';sleep 8;exact rr [_,_] M' rfl (.refl _)
 intro p2 M2 e2 x2 l2;have l2':M2 p2=some (.ls ((t.map (·.1)).map nm)):=by rw[l2,List.map_map];rfl
 sleep 7;refine⟨⟨_,l2⟩,?_⟩;refine⟨p2,t.map (·.1),k,rfl,l2',by simpa using h1,fun x hx=>?_,by omega,fun g hg ha=>?_⟩
 ·obtain⟨p,hp,rfl⟩:=List.mem_map.mp hx
  exact B.lo p hp
 obtain⟨j,hj,hr,hn,hix⟩:=Ko (M:=M2) hg (by simp;omega);have hj':j<t.length:=by simpa using hj
 refine⟨_,l2',j,hix,?_⟩;rw[J5 hj'] at hr;refine q j M2 ⟨hj',fun i hi=>?_,fun i hi=>?_⟩ x2
 ·rw[hr]
  have:=ha (ri (t.map (·.1)) i) (YE (by simpa using hi))
  rwa [J5 hi] at this
 ·have:=hn i hi
  rw[J5 %[|5]] at this;rw[hr];exact this
theorem JH {lo hi r:Nat->Rat} {n:Nat} {L:Rat} (T:Taut lo hi r n) (hl:∀ k,k<=n->lo k<=L):∀ d k,n-k=d->0<k->k<=n->L<r k->r (k-1)<r k->L<r n
 | 0,k,e,k0,kn,h1,h2=>by
  obtain rfl:k=n:=by omega
  exact h1
 | d+1,k,e,k0,kn,h1,h2=>by
  have hk:k<n:=by omega
  by_cases c:r k<r (k+1)
  ·exact JH T hl d (k+1) %[|5] %[|5] %[|5] (by grind) (by rw[Nat.add_sub_cancel];exact c)
  ·have:=T.down k k0 hk (by grind)
   have:=hl k kn;grind
theorem W3 {lo hi r:Nat->Rat} {n:Nat} {L:Rat} (T:Taut lo hi r n) (hl:∀ k,k<=n->lo k<=L) (h0:r 0<=L) (hn:r n<=L):∀ k,k<=n->r k<=L
 | 0,_=>h0
 | k+1,hk=>by
  have ih:=W3 T hl h0 hn k %[|5];by_cases c:r (k+1)<=L
  ·exact c
  ·have:=JH T hl (n-(k+1)) (k+1) rfl %[|5] hk (by grind) (by rw[Nat.add_sub_cancel];grind)
   grind
theorem DR {lo hi r:Nat->Rat} {n:Nat} (T:Taut lo hi r n):Taut (fun i=>lo (n-i)) (fun i=>hi (n-i)) (fun i=>r (n-i)) n:=by
 refine⟨fun k hk=>T.low _ %[|5],fun k hk=>T.high _ %[|5],fun k k0 kn h=>?_,fun k k0 kn h=>?_⟩
 ·refine T.up (n-k) %[|5] %[|5] ?_
  have e1:n-(k-1)=n-k+1:=by omega
  have e2:n-(k+1)=n-k-1:=by omega
  simp only[e1,e2] at h;grind
 ·refine T.down (n-k) %[|5] %[|5] ?_
  have e1:n-(k-1)=n-k+1:=by omega
  have e2:n-(k+1)=n-k-1:=by omega
  simp only[e1,e2] at h;grind
theorem B4 {lo hi r:Nat->Rat} {N a m:Nat} (T:Taut lo hi r N) (ham:a+m<=N) (e0:r a=r (a+m)) (sl:∀ i,0<i->i<m->lo (a+(m-i))=lo (a+i)) (sh:∀ i,0<i->i<m->hi (a+(m-i))=hi (a+i)):∀ i,i<=m->r (a+i)=r (a+(m-i)):=by
 have P:Taut (fun i=>if i=0\/i=m then r a else lo (a+i)) (fun i=>if i=0\/i=m then r a else hi (a+i)) (fun i=>r (a+i)) m:=by
  refine⟨fun k hk=>?_,fun k hk=>?_,fun k k0 km h=>?_,fun k k0 km h=>?_⟩
  ·(try dsimp only)
   split
   ·rename_i c
    rcases c with rfl|rfl
    ·exact Rat.le_refl
    ·rw[<- e0];exact Rat.le_refl
   ·exact T.low _ %[|5]
  ·(try dsimp only)
   split
   ·rename_i c
    rcases c with rfl|rfl
    ·exact Rat.le_refl
    ·rw[<- e0];exact Rat.le_refl
   ·exact T.high _ %[|5]
  ·(try dsimp only)
   rw[if_neg %[|5]];refine T.up (a+k) %[|5] %[|5] ?_;rw[show a+k-1=a+(k-1) by omega];exact h
  ·(try dsimp only)
   rw[if_neg %[|5]];refine T.down (a+k) %[|5] %[|5] ?_;rw[show a+k-1=a+(k-1) by omega];exact h
 have B:=DR P;have B':Taut (fun i=>if i=0\/i=m then r a else lo (a+i)) (fun i=>if i=0\/i=m then r a else hi (a+i)) (fun i=>r (a+(m-i))) m:=by
  refine⟨fun k hk=>?_,fun k hk=>?_,fun k k0 km h=>?_,fun k k0 km h=>?_⟩
  ·have:=B.low k hk
   try dsimp only at this ⊢
   by_cases c:k=0\/k=m
   ·rw[if_pos c]
    rwa [if_pos %[|5]] at this
   ·rw[if_neg c]
    rwa [if_neg %[|5],sl k %[|5] %[|5]] at this
  ·have:=B.high k hk
   try dsimp only at this ⊢
   by_cases c:k=0\/k=m
   ·rw[if_pos c]
    rwa [if_pos %[|5]] at this
   ·rw[if_neg c]
    rwa [if_neg %[|5],sh k %[|5] %[|5]] at this
  ·have:=B.up k k0 km h
   try dsimp only at this ⊢
   rw[if_neg %[|5]] at this ⊢;rw[this,sh k k0 km]
  ·have:=B.down k k0 km h
   try dsimp only at this ⊢
   rw[if_neg %[|5]] at this ⊢;rw[this,sl k k0 km]
 exact P.unique B' (by show r (a+0)=r (a+(m-0));simpa using e0) (by show r (a+m)=r (a+(m-m));rw[Nat.sub_self];exact e0.symm)
noncomputable def mx (b n j:Nat):Nat:=if j<=b then b-j else if j<=b+n then j-(b+1) else 2*n+b-j
structure Mir (lo hi:Nat->Rat) (b n:Nat) (r:Nat->Rat):Prop where
 taut:Taut (fun j=>lo (mx b n j)) (fun j=>if j=0\/j=2*n then lo b else hi (mx b n j)) r (2*n)
 first:r 0=lo b
 last:r (2*n)=lo b
 bn:b<n
 top:∀ k,k<n->lo k<=lo b
section
variable {lo hi r:Nat->Rat} {b n:Nat}
theorem VO (h:b<n) {j:Nat} (hj:j<=2*n):mx b n j<n:=by
 unfold mx;split
 ·omega
 ·split<;>omega
theorem XC {k:Nat} (h:k<n):mx b n (b+1+k)=k:=by
 unfold mx;rw[if_neg %[|5],if_pos %[|5]];omega
theorem Mir.le (R:Mir lo hi b n r):∀ j,j<=2*n->r j<=lo b:=W3 R.taut (fun k hk=>R.top _ (VO R.bn hk)) (by rw[R.first];exact Rat.le_refl) (by rw[R.last];exact Rat.le_refl)
theorem Mir.touch (R:Mir lo hi b n r):r (b+1+b)=lo b:=by
 have bn:=R.bn;have h1:=R.le (b+1+b) %[|5];have h2:=R.taut.low (b+1+b) %[|5]
 try dsimp only at h2
 rw[XC bn] at h2;grind
theorem Mir.begins (R:Mir lo hi b n r):r b=r (b+1):=by
 have bn:=R.bn;have sym:∀ i,0<i->i<b+1+b->mx b n (0+(b+1+b-i))=mx b n (0+i):=fun i i0 im=>by
  unfold mx;rw[Nat.zero_add,Nat.zero_add];by_cases c:i<=b
  ·rw[if_neg %[|5],if_pos %[|5],if_pos c];omega
  ·rw[if_pos %[|5],if_neg c,if_pos %[|5]];omega
 have:=B4 R.taut (a:=0) (m:=b+1+b) %[|5] (by rw[Nat.zero_add,R.first,R.touch]) (fun i i0 im=>by (try dsimp only);rw[sym i i0 im]) (fun i i0 im=>by (try dsimp only);rw[sym i i0 im,if_neg %[|5],if_neg %[|5]]) b %[|5];rw[Nat.zero_add,Nat.zero_add,show b+1+b-b=b+1 by omega] at this;exact this
theorem Mir.ends (R:Mir lo hi b n r):r (b+n)=r (b+n+1):=by
 have bn:=R.bn;have sym:∀ i,0<i->i<2*n-(b+1+b)->mx b n (b+1+b+(2*n-(b+1+b)-i))=mx b n (b+1+b+i):=fun i i0 im=>by
  unfold mx;by_cases c:b+1+b+i<=b+n
  ·rw[if_neg %[|5],if_neg %[|5],if_neg %[|5],if_pos c];omega
  ·rw[if_neg %[|5],if_pos %[|5],if_neg %[|5],if_neg c];omega
 have:=B4 R.taut (a:=b+1+b) (m:=2*n-(b+1+b)) %[|5] (by rw[R.touch,show b+1+b+(2*n-(b+1+b))=2*n by omega,R.last]) (fun i i0 im=>by (try dsimp only);rw[sym i i0 im]) (fun i i0 im=>by (try dsimp only);rw[sym i i0 im,if_neg %[|5],if_neg %[|5]]) (n-b-1) %[|5];rw[show b+1+b+(n-b-1)=b+n by omega,show b+1+b+(2*n-(b+1+b)-(n-b-1))=b+n+1 by omega] at this;exact this
end
noncomputable def mirT (t:List (Rat×Rat)) (b:Nat):List (Rat×Rat):=(List.range (2*t.length+1)).map fun j=>if j=0\/j=2*t.length then (lo t b,lo t b) else (lo t (mx b t.length j),hi t (mx b t.length j))
noncomputable def S_32:DSp:=fun ds M Q E=>∃ (t:List (Rat×Rat)) (b:Nat),ds=[tb t,.int (b:Int)]/\b<t.length/\t.length<=100/\∀ p M',MExt M M'->M' p=some (.ls ((mirT t b).map pl))->Q (.lst p) M'
noncomputable def C_32:CSs:=%[.set 2 (.lrev %[.sl (.var 0) .none (.some (.bin .Add (.var 1) (.int 1)))|0]),.set 3 (.lrev %[.sl (.var 0) (.some (.var 1)) .none|0]),.set 4 (.ix (.ix (.var 0) (.var 1)) (.int 0)),.two (.sub (.var 2) (.int 0)) (.sub (.var 3) (.neg (.int 1))) (.tup %[.var 4,.var 4|0]),.ret (.bin .Add (.bin .Add (.var 2) (.bi .list %[.var 0|0])) (.var 3))|0]
theorem vc_32:∀ ds M R E,S_32 ds M R E->rSs C_32 (ends R E) (Y1 5 ds) M:=by
 rintro ds M R E ⟨t,b,rfl,hb,h100,q⟩;rw[show tb t=.tup (t.map pl) from rfl];unfold C_32
 (try dsimp only);rw[Yr];simp[0,JV,vAt,vHd,Y9,and_assoc,sizeLine_eq,Yq,X1,Yu,dFld,Wc,Wd,Wb]
 have hl:(t.map pl).length=t.length:=List.length_map ..;rw[show ((b:Int)+1)=((b+1:Nat):Int) by omega,Jd _ _ %[|5]];refine⟨by rw[List.length_take];omega,fun p1 M1 e1 x1 l1=>?_⟩
 (try dsimp only);rw[Yr];simp[0,JV,vAt,vHd,Y9,and_assoc,sizeLine_eq,Yq,X1,Yu,dFld,Wc,Wd,Wb]
 rw[Jc _ _ %[|5]];refine⟨by rw[List.length_drop];omega,fun p2 M2 e2 x2 l2=>?_⟩;have l12:=x2 _ _ l1;have hpp:p1≠p2:=fun z=>by rw[<- z,l1] at e2;cases e2
 sleep 7;rw[show D.tup (t.map pl)=tb t from rfl];refine Uj hb ?_;sleep 7;have n1:((t.map pl).take (b+1)).reverse.length=b+1:=by rw[List.length_reverse,List.length_take];omega
 have n2:((t.map pl).drop b).reverse.length=t.length-b:=by rw[List.length_reverse,List.length_drop];omega
 generalize hA:((t.map pl).take (b+1)).reverse=A at *;generalize hB:((t.map pl).drop b).reverse=B at *;refine⟨A,l12,0,by rw[n1];simp[L2.ixN],B,by rw[Z8 hpp.symm];exact l2,t.length-b-1,by rw[n2];simp[L2.ixN];omega,?_⟩;have m1:((M2.upd p1 (.ls (A.set 0 (pl (lo t b,lo t b))))).upd p2 (.ls (B.set (t.length-b-1) (pl (lo t b,lo t b))))) p1=some (.ls (A.set 0 (pl (lo t b,lo t b)))):=by rw[Z8 hpp,mupd_same]
 have m2:((M2.upd p1 (.ls (A.set 0 (pl (lo t b,lo t b))))).upd p2 (.ls (B.set (t.length-b-1) (pl (lo t b,lo t b))))) p2=some (.ls (B.set (t.length-b-1) (pl (lo t b,lo t b)))):=mupd_same;have X:MExt M ((M2.upd p1 (.ls (A.set 0 (pl (lo t b,lo t b))))).upd p2 (.ls (B.set (t.length-b-1) (pl (lo t b,lo t b))))):=MExt.upd_new (MExt.none x1 e2) (MExt.upd_new e1 (x1.trans x2));generalize (M2.upd p1 (.ls (A.set 0 (pl (lo t b,lo t b))))).upd p2 (.ls (B.set (t.length-b-1) (pl (lo t b,lo t b))))=M3 at m1 m2 X;rw[show tb t=.tup (t.map pl) from rfl];sleep 7;intro p4 M4 e4 x4 l4;refine⟨_,x4 _ _ m1,_,l4,by rw[List.length_set,n1];omega,?_⟩;intro p5 M5 e5 x5 l5;refine⟨_,l5,_,x5 _ _ (x4 _ _ m2),by rw[List.length_append,List.length_set,List.length_set,n1,n2];omega,?_⟩;intro p6 M6 e6 x6 l6;refine q p6 M6 (X.trans (x4.trans (x5.trans x6))) ?_;rw[l6]
 congr 2
 have tp:∀ i (h:i<t.length),(t.map pl)[i]'%[|5]=pl (lo t i,hi t i):=fun i h=>by simp[lo,hi,List.getD,h]
 refine List.ext_getElem ?_ fun i h1 h2=>?_
 ·simp[mirT,n1,n2];omega
 ·have hi2:i<2*t.length+1:=by simpa[mirT] using h2
  have er:((mirT t b).map pl)[i]=pl (if i=0\/i=2*t.length then (lo t b,lo t b) else (lo t (mx b t.length i),hi t (mx b t.length i))):=by simp[mirT]
  rw[er];subst hA hB;by_cases c1:i<b+1
  ·rw[List.getElem_append_left (by rw[List.length_append,List.length_set,n1];omega),List.getElem_append_left (by rw[List.length_set,n1];omega),List.getElem_set]
   by_cases c0:i=0
   ·rw[if_pos c0.symm,if_pos (.inl c0)]
   ·rw[if_neg %[|5],if_neg %[|5],List.getElem_reverse,List.getElem_take,tp _ (by rw[List.length_take];omega)]
    have:mx b t.length i=((t.map pl).take (b+1)).length-1-i:=by rw[List.length_take,hl];unfold mx;rw[if_pos %[|5]];omega
    rw[this]
  ·by_cases c2:i<b+1+t.length
   ·rw[List.getElem_append_left (by rw[List.length_append,List.length_set,n1];omega),List.getElem_append_right (by rw[List.length_set,n1];omega),tp _ (by rw[List.length_set,n1];omega),if_neg %[|5]]
    have:mx b t.length i=i-(((t.map pl).take (b+1)).reverse.set 0 (pl (lo t b,lo t b))).length:=by rw[List.length_set,n1];unfold mx;rw[if_neg %[|5],if_pos %[|5]]
    rw[this]
   ·rw[List.getElem_append_right (by rw[List.length_append,List.length_set,n1];omega),List.getElem_set]
    have el:(((t.map pl).take (b+1)).reverse.set 0 (pl (lo t b,lo t b))++t.map pl).length=b+1+t.length:=by rw[List.length_append,List.length_set,n1];omega
    by_cases c3:i=2*t.length
    ·rw[if_pos (by rw[el];omega),if_pos (.inr c3)]
    ·rw[if_neg (by rw[el];omega),if_neg %[|5],List.getElem_reverse,List.getElem_drop,tp _ (by rw[List.length_drop,hl,el];omega)]
     have:mx b t.length i=b+(((t.map pl).drop b).length-1-(i-(((t.map pl).take (b+1)).reverse.set 0 (pl (lo t b,lo t b))++t.map pl).length)):=by rw[List.length_drop,hl,el];unfold mx;rw[if_neg %[|5],if_neg %[|5]];omega
     rw[this]
theorem Gb {α:Type} (xs:List α) (m n:Nat) (h:m+n<=xs.length):cutG xs (some ((m:Int)+1)) (some ((m:Int)+1+n))=(xs.drop (m+1)).take (min (m+1+n) xs.length-min (m+1) xs.length):=by
 unfold cutG;rw[show ((m:Int)+1+n)=((m+1+n:Nat):Int) by omega,show ((m:Int)+1)=((m+1:Nat):Int) by omega,HT.sIx_nat,HT.sIx_nat];by_cases c:m+1<=xs.length
 ·rw[Nat.min_eq_left c]
 ·rw[List.drop_of_length_le (i:=m+1) %[|5],List.drop_of_length_le %[|5]]
theorem B3 (t:List (Rat×Rat)) (b:Nat):(mirT t b).length=2*t.length+1:=by simp[mirT]
theorem Aw {t:List (Rat×Rat)} {b j:Nat} (h:j<=2*t.length):(mirT t b).getD j (0,0)=if j=0\/j=2*t.length then (lo t b,lo t b) else (lo t (mx b t.length j),hi t (mx b t.length j)):=by
 have:j<2*t.length+1:=by omega
 simp[mirT,List.getD,this]
theorem XD {t:List (Rat×Rat)} {b j:Nat} (hb:b<t.length) (h:j<=2*t.length):lo (mirT t b) j=lo t (mx b t.length j):=by
 show ((mirT t b).getD j (0,0)).1=_;rw[Aw h];split
 ·rename_i c
  have:mx b t.length j=b:=by
   unfold mx;rcases c with rfl|rfl
   ·rw[if_pos %[|5]];omega
   ·rw[if_neg %[|5],if_neg %[|5]];omega
  rw[this]
 ·rfl
theorem WN {t:List (Rat×Rat)} {b j:Nat} (h:j<=2*t.length):hi (mirT t b) j=if j=0\/j=2*t.length then lo t b else hi t (mx b t.length j):=by
 show ((mirT t b).getD j (0,0)).2=_;rw[Aw h];split<;>rfl
theorem GK {t:List (Rat×Rat)} {k:Nat} {M:Mem} (B:Box t k) (hk:k<=1900):Gd M (tb t):=by
 refine .mk fun d hd=>?_;obtain⟨p,hp,rfl⟩:=List.mem_map.mp hd;have a:=B.lo p hp;have b:=B.hi p hp;refine .mk fun e he=>?_;simp at he;rcases he with rfl|rfl
 ·exact .nm a %[|5]
 ·exact .nm b %[|5]
structure Loo (t:List (Rat×Rat)) (k:Nat):Prop where
 tube:Tube t
 box:Box t k
 few:k<=600
theorem Loo.at_ {t:List (Rat×Rat)} {k i:Nat} (B:Loo t k) (h:i<t.length):Sz k (lo t i)/\Sz k (hi t i)/\lo t i<=hi t i:=by
 have a:=B.box.lo _ (List.getElem_mem h);have b:=B.box.hi _ (List.getElem_mem h);have c:=B.box.ok _ (List.getElem_mem h);simp only[lo,hi,List.getD,List.getElem?_eq_getElem h,Option.getD_some];exact⟨a,b,c⟩
theorem Av {t:List (Rat×Rat)} {k b:Nat} (B:Loo t k) (hb:b<t.length):Places (mirT t b) k:=by
 have:=B.tube.most;have few:=B.few;have ml:=B3 t b;refine⟨by omega,fun i h=>?_,fun i h=>?_,fun i h=>?_,by omega⟩
 ·rw[WN %[|5]]
  have e:=Aw (t:=t) (b:=b) (j:=i) %[|5];by_cases c:i=0\/i=2*t.length
  ·rw[if_pos c] at e ⊢
   show ((mirT t b).getD i (0,0)).1<=_;rw[e];exact Rat.le_refl
  ·rw[if_neg c,XD hb %[|5]]
   exact (B.at_ (VO hb %[|5])).2.2
 ·rw[XD hb %[|5]]
  exact (B.at_ (VO hb %[|5])).1
 ·rw[WN %[|5]]
  split
  ·exact (B.at_ hb).1
  ·exact (B.at_ (VO hb %[|5])).2.1
structure Lco (t:List (Rat×Rat)) (k:Nat) (r:List Rat):Prop where
 len:r.length=t.length
 mir:∃ b rr,First t b/\Mir (lo t) (hi t) b t.length (ri rr)/\rr.length=2*t.length+1/\∀ i,i<t.length->ri r i=ri rr (b+1+i)
 sz:∀ x∈r,Sz (3*k+16) x
noncomputable def S_33:DSp:=fun ds M Q E=>∃ t k,ds=[tb t]/\Loo t k/\∀ r M',Lco t k r->MExt M M'->Q (rw r) M'
noncomputable def C_33:CSs:=%[.expr (.call "want_tube" S_16 %[.var 0|0]),.set 1 (.call "highest_low" S_31 %[.var 0|0]),.ret (.sl (.call "taut_row" S_25 %[.call "mirrored" S_32 %[.var 0,.var 1|0]|0]) (.some (.bin .Add (.var 1) (.int 1))) (.some (.bin .Add (.bin .Add (.var 1) (.int 1)) (.bi .len %[.var 0|0]))))|0]
theorem vc_33:∀ ds M R E,S_33 ds M R E->rSs C_33 (ends R E) (Y1 2 ds) M:=by
 rintro ds M R E ⟨t,k,rfl,B,q⟩;have t2:=B.tube.two;have t25:=B.tube.most;have few:=B.few;unfold C_33;sleep 7;refine⟨tb t,rfl,GK B.box %[|5],fun M1 x1=>?_⟩;rw[if_pos (isTube_iff.mpr ⟨t,rfl,B.tube⟩)];sleep 7;refine⟨t,k,rfl,B.box,by omega,by omega,by omega,fun b M2 F x2=>?_⟩;have hb:=F.lt;have P:=Av B hb;have ml:=B3 t b;sleep 7;refine⟨t,b,rfl,hb,by omega,fun p M3 x3 l3=>?_⟩;refine⟨_,mirT t b,k,rfl,.inr (.inr ⟨p,rfl,l3⟩),P,by omega,?_,?_,fun rr M4 T x4=>?_⟩
 ·rw[XD hb %[|5],WN %[|5],if_pos (.inl rfl)]
  show lo t (mx b t.length 0)=_;unfold mx;rw[if_pos %[|5]];rfl
 ·rw[ml,Nat.add_sub_cancel,XD hb %[|5],WN %[|5],if_pos (.inr rfl)]
  unfold mx;rw[if_neg %[|5],if_neg %[|5],show 2*t.length+b-2*t.length=b by omega]
 have tl:=T.len;rw[ml] at tl;show sOp (.tup (rr.map nm)) (some ((b:Int)+1)) (some ((b:Int)+1+(t.length:Int))) M4 R;show R (.tup (cutG (rr.map nm) (some ((b:Int)+1)) (some ((b:Int)+1+(t.length:Int))))) M4;have rl:(rr.map nm).length=2*t.length+1:=by rw[List.length_map];exact tl
 rw[Gb _ _ _ %[|5],rl,Nat.min_eq_left %[|5],Nat.min_eq_left %[|5],show b+1+t.length-(b+1)=t.length by omega,<- List.map_drop,<- List.map_take];refine q ((rr.drop (b+1)).take t.length) M4 ⟨?_,⟨b,rr,F,⟨?_,?_,?_,hb,F.all⟩,tl,fun i hi'=>?_⟩,?_⟩ (x1.trans (x2.trans (x3.trans x4)))
 ·rw[List.length_take,List.length_drop];omega
 ·have T':=T.taut
  rw[ml,Nat.add_sub_cancel] at T';refine⟨fun j hj=>?_,fun j hj=>?_,fun j j0 jn h=>?_,fun j j0 jn h=>?_⟩
  ·have:=T'.low j hj;rwa [XD hb hj] at this
  ·have:=T'.high j hj;rwa [WN hj] at this
  ·have:=T'.up j j0 jn h;rwa [WN %[|5]] at this
  ·have:=T'.down j j0 jn h;rwa [XD hb %[|5]] at this
 ·rw[T.first,XD hb %[|5]]
  unfold mx;rw[if_pos %[|5]];rfl
 ·have:=T.last
  rw[ml,Nat.add_sub_cancel] at this;rw[this,XD hb %[|5]];unfold mx;rw[if_neg %[|5],if_neg %[|5],show 2*t.length+b-2*t.length=b by omega]
 ·simp only[ri,List.getD]
  rw[List.getElem?_take_of_lt hi',List.getElem?_drop]
 ·exact fun x hx=>T.sz x (List.mem_of_mem_drop (List.mem_of_mem_take hx))
section
variable {t:List (Rat×Rat)} {k:Nat} {r r':List Rat}
theorem Lco.row (C:Lco t k r):∀ i,i<t.length->lo t i<=ri r i/\ri r i<=hi t i:=fun i h=>by
 obtain⟨b,rr,F,R,rl,e⟩:=C.mir;have bn:=R.bn;have h1:=R.taut.low (b+1+i) %[|5];have h2:=R.taut.high (b+1+i) %[|5]
 (try dsimp only at h1 h2)
 rw[XC h] at h1;rw[XC h,if_neg %[|5]] at h2;rw[e i h];exact⟨h1,h2⟩
theorem Lco.taut (C:Lco t k r) (h1:1<=t.length):Taut (lo t) (hi t) (ri r) (t.length-1):=by
 obtain⟨b,rr,F,R,rl,e⟩:=C.mir;have bn:=R.bn;refine⟨fun i h=>(C.row i %[|5]).1,fun i h=>(C.row i %[|5]).2,fun i i0 hn h=>?_,fun i i0 hn h=>?_⟩
 ·have:=R.taut.up (b+1+i) %[|5] %[|5] (by rw[show b+1+i-1=b+1+(i-1) by omega,show b+1+i+1=b+1+(i+1) by omega,<- e i %[|5],<- e (i-1) %[|5],<- e (i+1) %[|5]];exact h)
  (try dsimp only at this)
  rw[XC %[|5],if_neg %[|5]] at this;rw[e i %[|5],this]
 ·have:=R.taut.down (b+1+i) %[|5] %[|5] (by rw[show b+1+i-1=b+1+(i-1) by omega,show b+1+i+1=b+1+(i+1) by omega,<- e i %[|5],<- e (i-1) %[|5],<- e (i+1) %[|5]];exact h)
  (try dsimp only at this)
  rw[XC %[|5]] at this;rw[e i %[|5],this]
theorem Lco.first (C:Lco t k r) (h2:2<=t.length):(ri r 0<ri r 1->ri r 0=hi t 0)/\(ri r 1<ri r 0->ri r 0=lo t 0):=by
 obtain⟨b,rr,F,R,rl,e⟩:=C.mir;have bn:=R.bn;have g:=R.begins;have e0:=e 0 %[|5];have e1:=e 1 %[|5];rw[Nat.add_zero] at e0;refine⟨fun h=>?_,fun h=>?_⟩
 ·have:=R.taut.up (b+1) %[|5] %[|5] (by rw[Nat.add_sub_cancel,<- e1,<- e0];rw[e0,<- g] at h ⊢;grind)
  (try dsimp only at this)
  rw[XC (k:=0) %[|5],if_neg %[|5]] at this;rw[e0,this]
 ·have:=R.taut.down (b+1) %[|5] %[|5] (by rw[Nat.add_sub_cancel,<- e1,<- e0];rw[e0,<- g] at h ⊢;grind)
  (try dsimp only at this)
  rw[XC (k:=0) %[|5]] at this;rw[e0,this]
theorem Lco.last (C:Lco t k r) (h2:2<=t.length):(ri r (t.length-2)<ri r (t.length-1)->ri r (t.length-1)=lo t (t.length-1))/\(ri r (t.length-1)<ri r (t.length-2)->ri r (t.length-1)=hi t (t.length-1)):=by
 obtain⟨b,rr,F,R,rl,e⟩:=C.mir;have bn:=R.bn;have g:=R.ends;have e0:=e (t.length-1) %[|5];have e1:=e (t.length-2) %[|5];rw[show b+1+(t.length-1)=b+t.length by omega] at e0;rw[show b+1+(t.length-2)=b+t.length-1 by omega] at e1;have m:mx b t.length (b+t.length)=t.length-1:=by
  have:=XC (b:=b) (n:=t.length) (k:=t.length-1) %[|5]
  rwa [show b+1+(t.length-1)=b+t.length by omega] at this
 refine⟨fun h=>?_,fun h=>?_⟩
 ·have:=R.taut.down (b+t.length) %[|5] %[|5] (by rw[e0,e1] at h;rw[<- g];grind)
  (try dsimp only at this)
  rw[m] at this;rw[e0,this]
 ·have:=R.taut.up (b+t.length) %[|5] %[|5] (by rw[e0,e1] at h;rw[<- g];grind)
  (try dsimp only at this)
  rw[m,if_neg %[|5]] at this;rw[e0,this]
theorem Lco.level (C:Lco t k r) {c:Rat} (hc:∃ b,b<t.length/\c=lo t b) (hl:∀ i,i<t.length->lo t i<=c) (hh:∀ i,i<t.length->c<=hi t i):r=List.replicate t.length c:=by
 obtain⟨b,rr,F,R,rl,e⟩:=C.mir;have bn:=R.bn;have ec:c=lo t b:=by
  obtain⟨j,hj,rfl⟩:=hc;have a1:=F.all j hj;have a2:=hl b bn;grind
 have K:Taut (fun j=>lo t (mx b t.length j)) (fun j=>if j=0\/j=2*t.length then lo t b else hi t (mx b t.length j)) (fun _=>c) (2*t.length):=by
  refine⟨fun j hj=>hl _ (VO bn hj),fun j hj=>?_,fun j _ _ h=>?_,fun j _ _ h=>?_⟩
  ·(try dsimp only)
   split
   ·rw[ec];exact Rat.le_refl
   ·exact hh _ (VO bn hj)
  ·exact absurd h (by grind)
  ·exact absurd h (by grind)
 refine Xj (by rw[C.len,List.length_replicate]) fun i h=>?_;rw[C.len] at h;rw[e i h];have:=R.taut.unique K (by rw[R.first,ec]) (by rw[R.last,ec]) (b+1+i) %[|5];rw[this];simp[ri,List.getD,h]
end
theorem AF {lo hi r:Nat->Rat} {n:Nat} {L:Rat} (T:Taut lo hi r n) (h1:1<=n) (h0:r 0=L) (hn:r n=L) (hl:∀ k,k<=n->lo k<=L):r 1-r 0<=0:=by
 refine Rat.not_lt.mp fun c=>?_;have key:∀ k,k<n->L<r (k+1)/\0<r (k+1)-r k:=by
  intro k
  induction k with
  | zero=>intro _;exact⟨by grind,by grind⟩
  | succ k ih =>
   intro hk;have ih:=ih %[|5];have d:=T.down (k+1) %[|5] hk;have l:=hl (k+1) %[|5];have:¬ r (k+1+1)-r (k+1)<r (k+1)-r k:=fun h=>by
    have:=d h;grind
   exact⟨by grind,by grind⟩
 have:=(key (n-1) %[|5]).1;rw[show n-1+1=n by omega] at this;grind
theorem FE {lo hi r:Nat->Rat} {n:Nat} {L:Rat} (T:Taut lo hi r n) (h1:1<=n) (h0:r 0=L) (hn:r n=L) (hl:∀ k,k<=n->lo k<=L):0<=r n-r (n-1):=by
 refine Rat.not_lt.mp fun c=>?_;have key:∀ d,d<n->L<r (n-1-d)/\0<r (n-1-d)-r (n-d):=by
  intro d
  induction d with
  | zero=>intro _;exact⟨by simp only[Nat.sub_zero];grind,by simp only[Nat.sub_zero];grind⟩
  | succ d ih =>
   intro hk;have ih:=ih %[|5];have dn:=T.down (n-1-d) %[|5] %[|5];have l:=hl (n-1-d) %[|5];rw[show n-1-d+1=n-d by omega,show n-1-d-1=n-1-(d+1) by omega] at dn;have:¬ r (n-d)-r (n-1-d)<r (n-1-d)-r (n-1-(d+1)):=fun h=>by
    have:=dn h;grind
   rw[show n-(d+1)=n-1-d by omega];exact⟨by grind,by grind⟩
 have:=(key (n-1) %[|5]).1;rw[show n-1-(n-1)=0 by omega] at this;grind
noncomputable def cutR (t:List (Rat×Rat)) (b:Nat):List (Rat×Rat):=(lo t b,lo t b)::(t.drop (b+1)++(t.take b++[(lo t b,lo t b)]))
noncomputable def plc (n b k:Nat):Nat:=if k<b then n-b+k else k-b
noncomputable def We (t:List (Rat×Rat)) (b:Nat) (r:List Rat):List Rat:=(r.drop (t.length-b)).take b++r.take (t.length-b)
noncomputable def RingIs (t:List (Rat×Rat)) (K:Nat) (x:List Rat):Prop:=∃ b r,First t b/\Told (cutR t b) K r/\x=We t b r
theorem U1 {t:List (Rat×Rat)} {b:Nat} (h:b<t.length):(cutR t b).length=t.length+1:=by simp[cutR];omega
theorem Bs {t:List (Rat×Rat)} {b m:Nat} (h:b<t.length) (h0:0<m) (hm:m<t.length):(cutR t b)[m]?=t[(if m<t.length-b then b+m else m-(t.length-b))]?:=by
 obtain⟨m,rfl⟩:∃ j,m=j+1:=⟨m-1,by omega⟩;unfold cutR;rw[List.getElem?_cons_succ];by_cases c:m+1<t.length-b
 ·rw[if_pos c,List.getElem?_append_left (by simp;omega),List.getElem?_drop]
  congr 1;omega
 ·rw[if_neg c,List.getElem?_append_right (by simp;omega),List.length_drop]
  rw[List.getElem?_append_left (by simp;omega),List.getElem?_take_of_lt %[|5]]
  congr 1;omega
noncomputable def nxt (n k:Nat):Nat:=if k+1<n then k+1 else 0
noncomputable def prv (n k:Nat):Nat:=if k=0 then n-1 else k-1
noncomputable def rst (x:List Rat) (k:Nat):Rat:=ri x (nxt x.length k)-ri x k
structure RT (t:List (Rat×Rat)) (K:Nat) (x:List Rat):Prop where
 len:x.length=t.length
 sz:∀ v∈x,Sz (3*K+16) v
 low:∀ k,k<t.length->lo t k<=ri x k
 high:∀ k,k<t.length->ri x k<=hi t k
 up:∀ k,k<t.length->rst x (prv t.length k)<rst x k->ri x k=hi t k
 down:∀ k,k<t.length->rst x k<rst x (prv t.length k)->ri x k=lo t k
 level:∀ h,(∀ i,i<t.length->lo t i<=h/\h<=hi t i)->(∃ i,i<t.length/\lo t i=h)->x=List.replicate t.length h
theorem ZD {t:List (Rat×Rat)} {b k:Nat} {r:List Rat} (h:b<t.length) (hr:r.length=t.length+1) (hk:k<t.length):ri (We t b r) k=ri r (plc t.length b k):=by
 unfold We plc ri;simp only[List.getD];by_cases c:k<b
 ·rw[if_pos c,List.getElem?_append_left (by simp;omega),List.getElem?_take_of_lt c,List.getElem?_drop]
 ·rw[if_neg c,List.getElem?_append_right (by simp;omega)]
  rw[List.getElem?_take_of_lt (by simp;omega)]
  congr 2;simp;omega
theorem RingIs.rt {t:List (Rat×Rat)} {K:Nat} {x:List Rat} (h:RingIs t K x) (h1:3<=t.length) (ok:∀ i,i<t.length->lo t i<=hi t i):RT t K x:=by
 obtain⟨b,r,F,T,rfl⟩:=h;have hb:=F.lt;have cl:=U1 hb;have rl:=T.len;rw[cl] at rl;have tt:=T.taut;rw[cl,Nat.add_sub_cancel] at tt;have r0:ri r 0=lo t b:=T.first;have rn:ri r t.length=lo t b:=by
  have:=T.last;rw[cl,Nat.add_sub_cancel] at this;rw[this];unfold lo cutR;simp only[List.getD];obtain⟨n,hn⟩:∃ n,t.length=n+1:=⟨t.length-1,by omega⟩;rw[hn,List.getElem?_cons_succ,List.getElem?_append_right (by simp;omega),List.getElem?_append_right (by simp;omega)];simp;rw[show n-(t.length-(b+1))-min b t.length=0 by omega];simp[lo,List.getD]
 have clo:∀ m,0<m->m<t.length->lo (cutR t b) m=lo t (if m<t.length-b then b+m else m-(t.length-b))/\hi (cutR t b) m=hi t (if m<t.length-b then b+m else m-(t.length-b)):=fun m m0 m1=>by
  unfold lo hi;simp only[List.getD];rw[Bs hb m0 m1];exact⟨rfl,rfl⟩
 have bl:(We t b r).length=t.length:=by simp[We];omega
 have pk:∀ k,k<t.length->plc t.length b k<t.length:=fun k hk=>by unfold plc;split<;>omega
 have back:∀ k,k<t.length->k≠b->0<plc t.length b k/\(if plc t.length b k<t.length-b then b+plc t.length b k else plc t.length b k-(t.length-b))=k:=fun k hk hkb=>by
  unfold plc;split
  ·rw[if_neg %[|5]];omega
  ·rw[if_pos %[|5]];omega
 have at_b:plc t.length b b=0:=by unfold plc;simp
 have allo:∀ m,m<=t.length->lo (cutR t b) m<=lo t b:=fun m hm=>by
  rcases (by omega:m=0\/m=t.length\/(0<m/\m<t.length)) with rfl|rfl|⟨m0,m1⟩
  ·exact Rat.le_refl
  ·have:=tt.low t.length %[|3];grind
  ·rw[(clo m m0 m1).1];exact F.all _ (by split<;>omega)
 have f1:=AF tt %[|5] r0 rn allo;have f2:=FE tt %[|5] r0 rn allo;have nx:∀ k,k<t.length->ri (We t b r) (nxt t.length k)=ri r (plc t.length b k+1):=fun k hk=>by
  have hn:nxt t.length k<t.length:=by unfold nxt;split<;>omega
  rw[ZD hb rl hn];by_cases c:nxt t.length k=b
  ·rw[c,at_b,r0]
   have:plc t.length b k+1=t.length:=by unfold nxt at c;unfold plc;split at c<;>split<;>omega
   rw[this,rn]
  ·congr 1
   by_cases k1:k+1<t.length
   ·have e1:nxt t.length k=k+1:=if_pos k1
    rw[e1] at c ⊢;unfold plc;by_cases k2:k+1<b
    ·rw[if_pos k2,if_pos %[|5]];omega
    ·rw[if_neg k2,if_neg %[|5]];omega
   ·have e1:nxt t.length k=0:=if_neg k1
    rw[e1] at c ⊢;unfold plc;rw[if_pos %[|5],if_neg %[|5]];omega
 have stp:∀ k,k<t.length->rst (We t b r) k=ri r (plc t.length b k+1)-ri r (plc t.length b k):=fun k hk=>by
  unfold rst;rw[bl,nx k hk,ZD hb rl hk]
 have pv:∀ k,k<t.length->k≠b->prv t.length k<t.length/\plc t.length b (prv t.length k)+1=plc t.length b k:=fun k hk hkb=>by
  unfold prv plc;split<;>split<;>split<;>omega
 have pvb:prv t.length b<t.length/\plc t.length b (prv t.length b)=t.length-1:=by
  unfold prv plc;split<;>split<;>omega
 refine⟨bl,fun v hv=>?_,fun k hk=>?_,fun k hk=>?_,fun k hk h=>?_,fun k hk h=>?_,fun h hin hex=>?_⟩
 ·unfold We at hv
  rcases List.mem_append.mp hv with hv|hv
  ·exact T.sz v (List.mem_of_mem_drop (List.mem_of_mem_take hv))
  ·exact T.sz v (List.mem_of_mem_take hv)
 ·rw[ZD hb rl hk]
  by_cases c:k=b
  ·subst c;rw[at_b,r0];exact Rat.le_refl
  ·obtain⟨p0,pe⟩:=back k hk c
   have:=tt.low _ (Nat.le_of_lt (pk k hk))
   rwa [(clo _ p0 (pk k hk)).1,pe] at this
 ·rw[ZD hb rl hk]
  by_cases c:k=b
  ·subst c;rw[at_b,r0];exact ok _ hk
  ·obtain⟨p0,pe⟩:=back k hk c
   have:=tt.high _ (Nat.le_of_lt (pk k hk))
   rwa [(clo _ p0 (pk k hk)).2,pe] at this
 ·by_cases c:k=b
  ·subst c
   rw[stp _ pvb.1,stp _ hk,pvb.2,at_b,show t.length-1+1=t.length by omega] at h;rw[show 0+1=1 from rfl] at h;grind
  ·obtain⟨p0,pe⟩:=back k hk c
   obtain⟨q1,q2⟩:=pv k hk c;rw[stp _ q1,stp _ hk,q2] at h;rw[ZD hb rl hk];have:=tt.up _ p0 (pk k hk);rw[(clo _ p0 (pk k hk)).2,pe] at this;refine this ?_
   rwa [show plc t.length b k-1=plc t.length b (prv t.length k) by omega]
 ·by_cases c:k=b
  ·subst c;rw[ZD hb rl hk,at_b,r0]
  ·obtain⟨p0,pe⟩:=back k hk c
   obtain⟨q1,q2⟩:=pv k hk c;rw[stp _ q1,stp _ hk,q2] at h;rw[ZD hb rl hk];have:=tt.down _ p0 (pk k hk);rw[(clo _ p0 (pk k hk)).1,pe] at this;refine this ?_
   rwa [show plc t.length b k-1=plc t.length b (prv t.length k) by omega]
 ·have hL:h=lo t b:=by
   obtain⟨i,hi',e⟩:=hex;have a1:=F.all i hi';have a2:=(hin b hb).1;grind
  have hc:Taut (lo (cutR t b)) (hi (cutR t b)) (fun _=>lo t b) t.length:=by
   refine⟨allo,fun m hm=>?_,fun m _ _ z=>by grind,fun m _ _ z=>by grind⟩;rcases (by omega:m=0\/m=t.length\/(0<m/\m<t.length)) with rfl|rfl|⟨m0,m1⟩
   ·exact Rat.le_refl
   ·have:=tt.high t.length %[|3];grind
   ·rw[(clo m m0 m1).2,<- hL];exact (hin _ (by split<;>omega)).2
  have eq:=tt.unique hc r0 rn;refine Xj (by simp[bl]) fun i hi'=>?_;rw[bl] at hi';rw[ZD hb rl hi',eq _ (Nat.le_of_lt (pk i hi')),hL];simp[ri,List.getD,hi']
abbrev XS:DL.D:=.int 3
abbrev Zy:DL.D:=.int 24
structure Ring (t:List (Rat×Rat)) (k:Nat):Prop where
 few:3<=t.length
 most:t.length<=24
 box:Box t k
 bits:k<=200
theorem Ring.tube {t:List (Rat×Rat)} {k:Nat} (R:Ring t k):Tube t:=⟨by have:=R.few;omega,by have:=R.most;omega,R.box.ok⟩
theorem Ring.ok {t:List (Rat×Rat)} {k:Nat} (R:Ring t k):∀ i,i<t.length->lo t i<=hi t i:=fun i h=>by
 have:=R.box.ok (t[i]) (List.getElem_mem h)
 simpa[lo,hi,List.getD,h] using this
theorem Ring.gd {t:List (Rat×Rat)} {k:Nat} {M:Mem} (R:Ring t k):Gd M (tb t):=GK R.box (by have:=R.bits;omega)
noncomputable def S_34:DSp:=fun ds M Q E=>∃ t k,ds=[tb t]/\Ring t k/\∀ M',MExt M M'->Q (.bl true) M'
noncomputable def C_34:CSs:=%[.ret (.and (.call "is_tube" S_14 %[.var 0|0]) (.one (.chain .LtE .LtE (.glo "LEAST_PLACES" XS) (.bi .len %[.var 0|0]) (.glo "MOST_PLACES_rings" Zy))))|0]
theorem vc_34:∀ ds M R E,S_34 ds M R E->rSs C_34 (ends R E) (Y1 1 ds) M:=by
 rintro ds M R E ⟨t,k,rfl,G,q⟩;have:=G.few;have:=G.most;unfold C_34;sleep 7;refine⟨tb t,rfl,G.gd,fun M1 x1=>?_⟩;rw[isTube_iff.mpr ⟨t,rfl,G.tube⟩];simp;have e1:(3:Int)<=(t.length:Int):=by omega
 have e2:(t.length:Int)<=24:=by omega
 simp[e1,e2];exact q M1 x1
noncomputable def S_35:DSp:=fun ds M Q E=>∃ t k,ds=[tb t]/\Ring t k/\∀ M',MExt M M'->Q .non M'
noncomputable def C_35:CSs:=%[.ife (.not (.call "is_ring" S_34 %[.var 0|0])) %[.rse "NoTube" %[.str "this is no ring"|0]|0] .nil|0]
theorem vc_35:∀ ds M R E,S_35 ds M R E->rSs C_35 (ends R E) (Y1 1 ds) M:=by
 rintro ds M R E ⟨t,k,rfl,G,q⟩;unfold C_35;sleep 7;refine⟨t,k,rfl,G,fun M1 x1=>?_⟩;simp;exact q M1 x1
noncomputable def S_36:DSp:=fun ds M Q E=>∃ t k,ds=[tb t]/\Ring t k/\∀ x M',RingIs t k x->MExt M M'->Q (rw x) M'
noncomputable def C_36:CSs:=%[.expr (.call "want_ring" S_35 %[.var 0|0]),.set 1 (.call "highest_low" S_31 %[.var 0|0]),.set 2 (.ix (.ix (.var 0) (.var 1)) (.int 0)),.set 3 (.call "taut_row" S_25 %[.bin .Add (.bin .Add (.bin .Add (.tup %[.tup %[.var 2,.var 2|0]|0]) (.sl (.var 0) (.some (.bin .Add (.var 1) (.int 1))) .none)) (.sl (.var 0) .none (.some (.var 1)))) (.tup %[.tup %[.var 2,.var 2|0]|0])|0]),.set 4 (.bin .Sub (.bi .len %[.var 0|0]) (.var 1)),.ret (.bin .Add (.sl (.var 3) (.some (.var 4)) (.some (.neg (.int 1)))) (.sl (.var 3) .none (.some (.var 4))))|0]
theorem vc_36:∀ ds M R E,S_36 ds M R E->rSs C_36 (ends R E) (Y1 5 ds) M:=by
 rintro ds M R E ⟨t,k,rfl,G,q⟩;have few:=G.few;have most:=G.most;unfold C_36;sleep 7;refine⟨t,k,rfl,G,fun M1 x1=>?_⟩;sleep 7;refine⟨t,k,rfl,G.box,by have:=G.bits;omega,by omega,by omega,fun b M2 F x2=>?_⟩;have hb:=F.lt;sleep 7;refine AQ hb ?_;sleep 8;sleep 7;have c1:=X6 t (some ((b:Int)+1)) none;have c2:=X6 t none (some (b:Int));refine⟨by omega,by omega,by omega,?_⟩;have eC:D.tup (pl (lo t b,lo t b)::((cutG t (some ((b:Int)+1)) none).map pl++((cutG t none (some (b:Int))).map pl++[pl (lo t b,lo t b)])))=.tup ((cutR t b).map pl):=by
  rw[show ((b:Int)+1)=((b+1:Nat):Int) by omega,Jc _ _ %[|5],Jd _ _ %[|5]];simp[cutR]
 rw[show ∀ u v:List (Rat×Rat),tb ((lo t b,lo t b)::(u++(v++[(lo t b,lo t b)])))=D.tup (pl (lo t b,lo t b)::(u.map pl++(v.map pl++[pl (lo t b,lo t b)]))) from fun u v=>by simp[tb],eC];have cl:=U1 hb;have B:Box (cutR t b) k:=by
  have s1:=(G.box.sz hb).1;have mem:∀ p∈cutR t b,p∈t\/p=(lo t b,lo t b):=fun p hp=>by
   unfold cutR at hp;simp only[List.mem_cons,List.mem_append,List.not_mem_nil,or_false] at hp;rcases hp with h|h|h|h
   ·exact .inr h
   ·exact .inl (List.mem_of_mem_drop h)
   ·exact .inl (List.mem_of_mem_take h)
   ·exact .inr h
  refine⟨fun p hp=>?_,fun p hp=>?_,fun p hp=>?_⟩
  ·rcases mem p hp with h|rfl
   ·exact G.box.ok p h
   ·exact Rat.le_refl
  ·rcases mem p hp with h|rfl
   ·exact G.box.lo p h
   ·exact s1
  ·rcases mem p hp with h|rfl
   ·exact G.box.hi p h
   ·exact s1
 have P:Places (cutR t b) k:=⟨by omega,fun i hi'=>by
  have:=B.ok ((cutR t b)[i]) (List.getElem_mem hi')
  simpa[lo,hi,List.getD,hi'] using this,fun i h=>(B.sz h).1,fun i h=>(B.sz h).2,by have:=G.bits;omega⟩
 have last:(cutR t b)[(cutR t b).length-1]?=some (lo t b,lo t b):=by
  unfold cutR;rw[<- List.getLast?_eq_getElem?];rw[<- List.cons_append,<- List.append_assoc,List.getLast?_append]
  rfl
 refine⟨_,cutR t b,k,rfl,.inl rfl,P,by omega,rfl,?_,fun r M3 T x3=>?_⟩
 ·unfold lo hi
  simp only[List.getD];rw[last];rfl
 have rl:=T.len;rw[cl] at rl;sleep 7;have c3:=X6 r (some ((t.length:Int)-b)) (some (-1));have c4:=X6 r none (some ((t.length:Int)-b));sleep 7;refine⟨by omega,?_⟩;have eR:cutG r (some ((t.length:Int)-b)) (some (-1))++cutG r none (some ((t.length:Int)-b))=We t b r:=by
  rw[show ((t.length:Int)-(b:Int))=((t.length-b:Nat):Int) by omega,Jd _ _ %[|5]];unfold We
  congr 1
  unfold cutG;have e2:HT.sIx r.length r.length (some (-1))=r.length-1:=by
   show (if (-1:Int)<0 then ((-1:Int)+(r.length:Int)).toNat else min (-1:Int).toNat r.length)=_;rw[if_pos %[|4]];omega
  rw[HT.sIx_nat,Nat.min_eq_left %[|5],e2,rl]
  congr 1;omega
 rw[eR];exact q _ M3 ⟨b,r,F,T,rfl⟩ (x1.trans (x2.trans x3))
theorem FC {lo hi r:Nat->Rat} {n:Nat} (T:Taut lo hi r n):Taut (fun i=>-hi i) (fun i=>-lo i) (fun i=>-r i) n:=by
 refine⟨fun k hk=>?_,fun k hk=>?_,fun k k0 kn h=>?_,fun k k0 kn h=>?_⟩
 ·have:=T.high k hk;(try dsimp only);grind
 ·have:=T.low k hk;(try dsimp only);grind
 ·have:=T.down k k0 kn (by (try dsimp only at h);grind)
  (try dsimp only);rw[this]
 ·have:=T.up k k0 kn (by (try dsimp only at h);grind)
  (try dsimp only);rw[this]
theorem JI {lo hi r:Nat->Rat} {n:Nat} {L:Rat} (T:Taut lo hi r n) (hl:∀ k,k<=n->L<=hi k) (h0:L<=r 0) (hn:L<=r n) (k:Nat) (hk:k<=n):L<=r k:=by
 have:=W3 (L:=-L) (FC T) (fun k hk=>by have:=hl k hk;(try dsimp only);grind) (by (try dsimp only);grind) (by (try dsimp only);grind) k hk
 (try dsimp only at this)
 grind
section
variable {t:List (Rat×Rat)} {k:Nat} {r:List Rat}
theorem Lco.le (C:Lco t k r) {a:Rat} (ha:∀ i,i<t.length->lo t i<=a):∀ i,i<t.length->ri r i<=a:=fun i h=>by
 obtain⟨b,rr,F,R,rl,e⟩:=C.mir;have:=R.bn;have:=R.le (b+1+i) %[|5];have:=ha b R.bn;rw[e i h];grind
theorem Lco.ge (C:Lco t k r) {c:Rat} (hc:∀ i,i<t.length->c<=hi t i) (hl:∃ i,i<t.length/\c<=lo t i):∀ i,i<t.length->c<=ri r i:=fun i h=>by
 obtain⟨b,rr,F,R,rl,e⟩:=C.mir;have bn:=R.bn;have cb:c<=lo t b:=by
  obtain⟨j,hj,h⟩:=hl;have:=F.all j hj;grind
 rw[e i h];refine JI R.taut (fun j hj=>?_) (by rw[R.first];exact cb) (by rw[R.last];exact cb) _ %[|5]
 (try dsimp only)
 split
 ·exact cb
 ·exact hc _ (VO bn hj)
theorem Jy (I:RingIs t k r) (h1:3<=t.length):∃ b y,First t b/\Taut (lo (cutR t b)) (hi (cutR t b)) (ri y) t.length/\ri y 0=lo t b/\ri y t.length=lo t b/\(∀ i,i<t.length->ri r i=ri y (plc t.length b i))/\(∀ m,m<=t.length->∃ j,j<t.length/\lo (cutR t b) m=lo t j)/\(∀ m,m<=t.length->hi (cutR t b) m=lo t b\/∃ j,j<t.length/\hi (cutR t b) m=hi t j)/\lo (cutR t b) t.length=lo t b:=by
 obtain⟨b,y,F,T,rfl⟩:=I;have hb:=F.lt;have cl:=U1 hb;have rl:=T.len;rw[cl] at rl;have tt:=T.taut;rw[cl,Nat.add_sub_cancel] at tt;have cN:(cutR t b)[t.length]?=some (lo t b,lo t b):=by
  have:(cutR t b)[(cutR t b).length-1]?=some (lo t b,lo t b):=by
   unfold cutR;rw[<- List.getLast?_eq_getElem?];rw[<- List.cons_append,<- List.append_assoc,List.getLast?_append]
   rfl
  rwa [cl,Nat.add_sub_cancel] at this
 have lN:lo (cutR t b) t.length=lo t b:=by
  show ((cutR t b).getD _ _).1=_;simp only[List.getD];rw[cN];rfl
 have hN:hi (cutR t b) t.length=lo t b:=by
  show ((cutR t b).getD _ _).2=_;simp only[List.getD];rw[cN];rfl
 have rn:ri y t.length=lo t b:=by
  have:=T.last;rw[cl,Nat.add_sub_cancel] at this;rw[this,lN]
 have clo:∀ m,0<m->m<t.length->lo (cutR t b) m=lo t (if m<t.length-b then b+m else m-(t.length-b))/\hi (cutR t b) m=hi t (if m<t.length-b then b+m else m-(t.length-b)):=fun m m0 m1=>by
  unfold lo hi;simp only[List.getD];rw[Bs hb m0 m1];exact⟨rfl,rfl⟩
 refine⟨b,y,F,tt,T.first,rn,fun i hi'=>ZD hb rl hi',fun m hm=>?_,fun m hm=>?_,lN⟩
 ·rcases (by omega:m=0\/m=t.length\/(0<m/\m<t.length)) with rfl|rfl|⟨m0,m1⟩
  ·exact⟨b,hb,rfl⟩
  ·exact⟨b,hb,lN⟩
  ·exact⟨_,by split<;>omega,(clo m m0 m1).1⟩
 ·rcases (by omega:m=0\/m=t.length\/(0<m/\m<t.length)) with rfl|rfl|⟨m0,m1⟩
  ·exact .inl rfl
  ·exact .inl hN
  ·exact .inr ⟨_,by split<;>omega,(clo m m0 m1).2⟩
theorem D4 {n b i:Nat} (hb:b<n) (h:i<n):plc n b i<=n:=by unfold plc;split<;>omega
theorem RingIs.le (I:RingIs t k r) (h1:3<=t.length) {a:Rat} (ha:∀ i,i<t.length->lo t i<=a):∀ i,i<t.length->ri r i<=a:=fun i h=>by
 obtain⟨b,y,F,T,y0,yn,e,l1,l2,_⟩:=Jy I h1;rw[e i h];refine W3 T (fun m hm=>?_) ?_ ?_ _ (D4 F.lt h)
 ·obtain⟨j,hj,q⟩:=l1 m hm
  rw[q];exact ha j hj
 ·rw[y0];exact ha b F.lt
 ·rw[yn];exact ha b F.lt
theorem RingIs.ge (I:RingIs t k r) (h1:3<=t.length) {c:Rat} (hc:∀ i,i<t.length->c<=hi t i) (hl:∃ i,i<t.length/\c<=lo t i):∀ i,i<t.length->c<=ri r i:=fun i h=>by
 obtain⟨b,y,F,T,y0,yn,e,l1,l2,_⟩:=Jy I h1;have cb:c<=lo t b:=by
  obtain⟨j,hj,h⟩:=hl;have:=F.all j hj;grind
 rw[e i h];refine JI T (fun m hm=>?_) (by rw[y0];exact cb) (by rw[yn];exact cb) _ (D4 F.lt h);rcases l2 m hm with q|⟨j,hj,q⟩
 ·rw[q];exact cb
 ·rw[q];exact hc j hj
end
noncomputable def pv (κ:Bool) (n k:Nat):Nat:=if k=0 then (if κ then n-1 else 0) else k-1
noncomputable def nx (κ:Bool) (n k:Nat):Nat:=if k+1<n then k+1 else (if κ then 0 else n-1)
theorem AY {κ:Bool} {n k:Nat} (h:k<n):pv κ n k<n:=by
 unfold pv;split
 ·split<;>omega
 ·omega
theorem AZ {κ:Bool} {n k:Nat} (h:k<n):nx κ n k<n:=by
 unfold nx;split
 ·omega
 ·split<;>omega
theorem Dp {κ:Bool} {n:Nat} {A:Nat->Prop} {b:Nat} (hb:b<n) (h:A b) (c:∀ k,k<n->A k->A (pv κ n k)/\A (nx κ n k)):∀ k,k<n->A k:=by
 have up:∀ d,b+d<n->A (b+d):=by
  intro d
  induction d with
  | zero=>intro _;exact h
  | succ d ih =>
   intro hd;have:=(c (b+d) %[|5] (ih %[|5])).2;unfold nx at this
   rwa [if_pos %[|5]] at this
 have dn:∀ d,d<=b->A (b-d):=by
  intro d
  induction d with
  | zero=>intro _;exact h
  | succ d ih =>
   intro hd;have:=(c (b-d) %[|5] (ih %[|5])).1;unfold pv at this
   rwa [if_neg %[|5],show b-d-1=b-(d+1) by omega] at this
 intro k hk;rcases Nat.le_total b k with q|q
 ·have:=up (k-b) %[|5];rwa [show b+(k-b)=k by omega] at this
 ·have:=dn (b-k) %[|5];rwa [show b-(b-k)=k by omega] at this
structure Bal (κ:Bool) (t:List (Rat×Rat)) (r:List Rat):Prop where
 len:r.length=t.length
 low:∀ k,k<t.length->lo t k<=ri r k
 high:∀ k,k<t.length->ri r k<=hi t k
 up:∀ k,k<t.length->ri r k-ri r (pv κ t.length k)<ri r (nx κ t.length k)-ri r k->ri r k=hi t k
 down:∀ k,k<t.length->ri r (nx κ t.length k)-ri r k<ri r k-ri r (pv κ t.length k)->ri r k=lo t k
theorem A9 {f:Nat->Rat}:∀ {n:Nat},0<n->∃ k,k<n/\∀ j,j<n->f j<=f k:=by
 intro n
 induction n with
 | zero=>intro h;omega
 | succ n ih =>
  intro _;rcases (by omega:n=0\/0<n) with rfl|h
  ·exact⟨0,by omega,fun j hj=>by
    obtain rfl:j=0:=by omega
    exact Rat.le_refl⟩
  ·obtain⟨k,hk,m⟩:=ih h
   by_cases c:f k<=f n
   ·exact⟨n,by omega,fun j hj=>by
     rcases (by omega:j<n\/j=n) with z|rfl
     ·have:=m j z;grind
     ·exact Rat.le_refl⟩
   ·exact⟨k,by omega,fun j hj=>by
     rcases (by omega:j<n\/j=n) with z|rfl
     ·exact m j z
     ·grind⟩
theorem Bal.le {κ:Bool} {t:List (Rat×Rat)} {r s:List Rat} (R:Bal κ t r) (S:Bal κ t s) (tc:∃ b,b<t.length/\ri r b=lo t b):∀ k,k<t.length->ri r k<=ri s k:=by
 obtain⟨b,hb,eb⟩:=tc;obtain⟨m,hm,mx⟩:=A9 (f:=fun k=>ri r k-ri s k) (n:=t.length) %[|5];by_cases c:ri r m-ri s m<=0
 ·intro k hk
  have:=mx k hk
  (try dsimp only at this)
  grind
 ·exfalso
  have all:=Dp (κ:=κ) (A:=fun k=>ri r k-ri s k=ri r m-ri s m) hm rfl (fun k hk e=>by
   have nd:¬ ri r (nx κ t.length k)-ri r k<ri r k-ri r (pv κ t.length k):=fun z=>by
    have:=R.down k hk z;have:=S.low k hk;grind
   have nu:¬ ri s k-ri s (pv κ t.length k)<ri s (nx κ t.length k)-ri s k:=fun z=>by
    have:=S.up k hk z;have:=R.high k hk;grind
   have m1:=mx _ (AY (κ:=κ) hk);have m2:=mx _ (AZ (κ:=κ) hk)
   (try dsimp only at m1 m2)
   constructor<;>grind) b hb
  have:=S.low b hb
  (try dsimp only at all)
  grind
theorem Bal.same {κ:Bool} {t:List (Rat×Rat)} {r s:List Rat} (R:Bal κ t r) (S:Bal κ t s) (tr:∃ b,b<t.length/\ri r b=lo t b) (ts:∃ b,b<t.length/\ri s b=lo t b):r=s:=by
 refine Xj (by rw[R.len,S.len]) fun i h=>?_;rw[R.len] at h;have:=R.le S tr i h;have:=S.le R ts i h;grind
theorem Lco.bal {t:List (Rat×Rat)} {k:Nat} {r:List Rat} (C:Lco t k r) (h2:2<=t.length):Bal false t r:=by
 have T:=C.taut %[|5];have f:=C.first h2;have l:=C.last h2;refine⟨C.len,fun i h=>(C.row i h).1,fun i h=>(C.row i h).2,fun i h z=>?_,fun i h z=>?_⟩
 ·unfold pv nx at z
  rcases (by omega:i=0\/(0<i/\i+1<t.length)\/(0<i/\i+1=t.length)) with rfl|⟨a,b⟩|⟨a,b⟩
  ·simp[show 1<t.length by omega] at z;exact f.1 (by grind)
  ·simp[show ¬ i=0 by omega,b] at z;exact T.up i a %[|5] z
  ·obtain rfl:i=t.length-1:=by omega
   simp[show ¬ t.length-1=0 by omega,show ¬ t.length-1+1<t.length by omega] at z;refine l.2 ?_;rw[show t.length-2=t.length-1-1 by omega];grind
 ·unfold pv nx at z
  rcases (by omega:i=0\/(0<i/\i+1<t.length)\/(0<i/\i+1=t.length)) with rfl|⟨a,b⟩|⟨a,b⟩
  ·simp[show 1<t.length by omega] at z;exact f.2 (by grind)
  ·simp[show ¬ i=0 by omega,b] at z;exact T.down i a %[|5] z
  ·obtain rfl:i=t.length-1:=by omega
   simp[show ¬ t.length-1=0 by omega,show ¬ t.length-1+1<t.length by omega] at z;refine l.1 ?_;rw[show t.length-2=t.length-1-1 by omega];grind
theorem RT.bal {t:List (Rat×Rat)} {k:Nat} {x:List Rat} (X:RT t k x) (h3:3<=t.length):Bal true t x:=by
 have e1:∀ i,i<t.length->rst x i=ri x (nx true t.length i)-ri x i:=fun i h=>by
  unfold rst nxt nx;rw[X.len];rfl
 have e2:∀ i,i<t.length->rst x (prv t.length i)=ri x i-ri x (pv true t.length i):=fun i h=>by
  have:nxt t.length (prv t.length i)=i:=by
   unfold nxt prv;split<;>split<;>omega
  unfold rst;rw[X.len,this]
  rfl
 refine⟨X.len,X.low,X.high,fun i h z=>X.up i h ?_,fun i h z=>X.down i h ?_⟩
 ·rw[e1 i h,e2 i h];exact z
 ·rw[e1 i h,e2 i h];exact z
theorem TautOf.twice {s x y:List Rat} {b a b' a':Rat} (b0:0<=b') (a0:0<=a') (X:TautOf s b a x) (Y:TautOf x b' a' y):TautOf s (b+b') (a+a') y:=by
 have xl:=X.len;have yl:=Y.len;have fx:=X.fin;have fy:=Y.fin;rw[xl] at fy;have z:Y2 y 0-Y2 x 0=0:=by rw[Ya,Ya];grind
 have bd:∀ k,k<=s.length->-b'<=Y2 y k-Y2 x k/\Y2 y k-Y2 x k<=a':=fun k hk=>by
  rcases (by omega:k=0\/k=s.length\/(0<k/\k<s.length)) with rfl|rfl|⟨h1,h2⟩
  ·rw[z];constructor<;>grind
  ·rw[fy];constructor<;>grind
  ·exact⟨Y.low k h1 %[|5],Y.high k h1 %[|5]⟩
 have st:∀ k,0<k->k<s.length->(Y2 y (k+1)=Y2 y k+ri y k/\Y2 x (k+1)=Y2 x k+ri x k)/\Y2 y k=Y2 y (k-1)+ri y (k-1)/\Y2 x k=Y2 x (k-1)+ri x (k-1):=fun k k0 kn=>by
  have s3:=YD (s:=y) (k:=k-1) %[|5];have s4:=YD (s:=x) (k:=k-1) %[|5];rw[show k-1+1=k by omega] at s3 s4;exact⟨⟨YD %[|5],YD %[|5]⟩,s3,s4⟩
 refine⟨by omega,by grind,fun k k0 kn=>?_,fun k k0 kn=>?_,fun k k0 kn h=>?_,fun k k0 kn h=>?_⟩
 ·have:=X.low k k0 kn
  have:=bd k %[|5];grind
 ·have:=X.high k k0 kn
  have:=bd k %[|5];grind
 ·have e:=Y.up k k0 %[|5] h
  have u:=bd (k+1) %[|5];have v:=bd (k-1) %[|5];obtain⟨⟨s1,s2⟩,s3,s4⟩:=st k k0 kn;have:=X.up k k0 kn (by grind);grind
 ·have e:=Y.down k k0 %[|5] h
  have u:=bd (k+1) %[|5];have v:=bd (k-1) %[|5];obtain⟨⟨s1,s2⟩,s3,s4⟩:=st k k0 kn;have:=X.down k k0 kn (by grind);grind
theorem TautOf.uniq {s x y:List Rat} {b a:Rat} (h1:1<=s.length) (b0:0<=b) (a0:0<=a) (X:TautOf s b a x) (Y:TautOf s b a y):x=y:=by
 have tx:=Wo h1 b0 a0 X;have ty:=Wo h1 b0 a0 Y;have xl:=X.len;have yl:=Y.len;have fx:=X.fin;have fy:=Y.fin;have U:=tx.unique ty (by rw[Yd,Yd,Ya,Ya]) (by rw[Yd,Yd,fx,fy]);refine Xj %[|5] fun i hi=>?_;have a:=U i %[|5];have b:=U (i+1) %[|5];rw[Yd,Yd] at a b;rw[<- Zz hi,<- Zz (x:=y) %[|5],a,b]
theorem TautOf.needs {s x:List Rat} {q:Rat} (X:TautOf s 0 q x) (N:Needs s):Needs x:=by
 have xl:=X.len;have fx:=X.fin;have low:∀ k,k<=s.length->Y2 s k<=Y2 x k:=fun k hk=>by
  rcases (by omega:k=0\/k=s.length\/(0<k/\k<s.length)) with rfl|rfl|⟨h1,h2⟩
  ·rw[Ya,Ya];exact Rat.le_refl
  ·rw[fx];exact Rat.le_refl
  ·have:=X.low k h1 h2;grind
 have all:∀ k,k<s.length->0<=ri x k:=by
  intro k
  induction k with
  | zero =>
   intro h;have a:=low 1 %[|5];have b:=YD (s:=s) (k:=0) h;have c:=YD (s:=x) (k:=0) %[|5];have d:=N _ (YE (r:=s) (i:=0) h);rw[Ya] at b c;rw[show 0+1=1 from rfl] at b c;grind
  | succ k ih =>
   intro h;have p:=ih %[|5];refine Rat.not_lt.mp fun z=>?_;have e:=X.down (k+1) %[|5] h (by rw[Nat.add_sub_cancel];grind);have a:=low (k+1+1) %[|5];have b:=YD (s:=s) (k:=k+1) h;have c:=YD (s:=x) (k:=k+1) %[|5];have d:=N _ (YE (r:=s) (i:=k+1) h);grind
 intro v hv;obtain⟨i,hi,rfl⟩:=List.getElem_of_mem hv;have:=all i %[|5]
 simpa[ri,List.getD,hi] using this
theorem Aa {lo hi l2 h2 L H u v:Nat->Rat} {n:Nat} {b a:Rat} (b0:0<=b) (a0:0<=a) (U:Taut lo hi u n) (V:Taut l2 h2 v n) (e0:v 0=u 0) (en:v n=u n) (i2:∀ k,0<k->k<n->l2 k=u k-b/\h2 k=u k+a) (iL:∀ k,0<k->k<n->L k=lo k-b/\H k=hi k+a) (E:∀ k,k=0\/k=n->L k<=v k/\v k<=H k):Taut L H v n:=by
 have bd:∀ k,k<=n->u k-b<=v k/\v k<=u k+a:=fun k hk=>by
  rcases (by omega:k=0\/k=n\/(0<k/\k<n)) with rfl|rfl|⟨h1,h2⟩
  ·rw[e0];constructor<;>grind
  ·rw[en];constructor<;>grind
  ·obtain⟨x,y⟩:=i2 k h1 h2
   have:=V.low k hk;have:=V.high k hk;constructor<;>grind
 have ins:∀ k,k<=n->L k<=v k/\v k<=H k:=fun k hk=>by
  rcases (by omega:(k=0\/k=n)\/(0<k/\k<n)) with h|⟨h1,h2⟩
  ·exact E k h
  ·obtain⟨x,y⟩:=iL k h1 h2
   have:=U.low k hk;have:=U.high k hk;have:=bd k hk;constructor<;>grind
 refine⟨fun k hk=>(ins k hk).1,fun k hk=>(ins k hk).2,fun k k0 kn h=>?_,fun k k0 kn h=>?_⟩
 ·have e:=V.up k k0 kn h
  rw[(i2 k k0 kn).2] at e;have x:=bd (k-1) %[|5];have y:=bd (k+1) %[|5];have:=U.up k k0 kn (by grind);rw[(iL k k0 kn).2];grind
 ·have e:=V.down k k0 kn h
  rw[(i2 k k0 kn).1] at e;have x:=bd (k-1) %[|5];have y:=bd (k+1) %[|5];have:=U.down k k0 kn (by grind);rw[(iL k k0 kn).1];grind
theorem Bal.again {κ:Bool} {t t2 tw:List (Rat×Rat)} {u v:List Rat} {b a:Rat} (R:Bal κ t u) (V:Bal κ t2 v) (l2:t2.length=t.length) (lw:tw.length=t.length) (e2:∀ i,i<t.length->lo t2 i=ri u i-b/\hi t2 i=ri u i+a) (ew:∀ i,i<t.length->lo tw i=lo t i-b/\hi tw i=hi t i+a):Bal κ tw v:=by
 have vl:=V.len;have bd:∀ i,i<t.length->ri u i-b<=ri v i/\ri v i<=ri u i+a:=fun i h=>by
  have x:=V.low i %[|5];have y:=V.high i %[|5];rw[(e2 i h).1] at x;rw[(e2 i h).2] at y;exact⟨x,y⟩
 refine⟨by omega,fun i h=>?_,fun i h=>?_,fun i h z=>?_,fun i h z=>?_⟩<;>rw[lw] at h
 ·have:=R.low i h
  have:=bd i h;rw[(ew i h).1];grind
 ·have:=R.high i h
  have:=bd i h;rw[(ew i h).2];grind
 ·rw[lw] at z
  have e:=V.up i %[|5] (by rw[l2];exact z);rw[(e2 i h).2] at e;have x:=bd _ (AY (κ:=κ) h);have y:=bd _ (AZ (κ:=κ) h);have:=R.up i h (by grind);rw[(ew i h).2];grind
 ·rw[lw] at z
  have e:=V.down i %[|5] (by rw[l2];exact z);rw[(e2 i h).1] at e;have x:=bd _ (AY (κ:=κ) h);have y:=bd _ (AZ (κ:=κ) h);have:=R.down i h (by grind);rw[(ew i h).1];grind
theorem Bal.low_touch {κ:Bool} {t:List (Rat×Rat)} {r:List Rat} (R:Bal κ t r) (h1:0<t.length) (nl:¬ ∃ c,∀ i,i<t.length->lo t i<=c/\c<=hi t i):∃ b,b<t.length/\ri r b=lo t b:=by
 apply Classical.byContradiction;intro no;obtain⟨m,hm,mx⟩:=A9 (f:=fun k=>ri r k) (n:=t.length) h1;have all:=Dp (κ:=κ) (A:=fun k=>ri r k=ri r m) hm rfl (fun k hk e=>by
  have nu:¬ ri r (nx κ t.length k)-ri r k<ri r k-ri r (pv κ t.length k):=fun z=>no ⟨k,hk,R.down k hk z⟩;have m1:=mx _ (AY (κ:=κ) hk);have m2:=mx _ (AZ (κ:=κ) hk)
  (try dsimp only at m1 m2)
  constructor<;>grind)
 exact nl ⟨ri r m,fun i hi'=>by rw[<- all i hi'];exact⟨R.low i hi',R.high i hi'⟩⟩
noncomputable def Lvl (t:List (Rat×Rat)) (r:List Rat):Prop:=∀ c,(∀ i,i<t.length->lo t i<=c/\c<=hi t i)->(∃ i,i<t.length/\lo t i=c)->r=List.replicate t.length c
theorem Bal.once {κ:Bool} {t t2 tw:List (Rat×Rat)} {u v w:List Rat} {b a:Rat} (b0:0<=b) (a0:0<=a) (h1:0<t.length) (R:Bal κ t u) (V:Bal κ t2 v) (W:Bal κ tw w) (l2:t2.length=t.length) (lw:tw.length=t.length) (e2:∀ i,i<t.length->lo t2 i=ri u i-b/\hi t2 i=ri u i+a) (ew:∀ i,i<t.length->lo tw i=lo t i-b/\hi tw i=hi t i+a) (le:∀ c,(∀ i,i<t.length->lo t i<=c)->∀ i,i<t.length->ri u i<=c) (ge:∀ c,(∀ i,i<t.length->c<=hi t i)->(∃ i,i<t.length/\c<=lo t i)->∀ i,i<t.length->c<=ri u i) (lv:Lvl t2 v) (lw':Lvl tw w):v=w:=by
 have V':=R.again V l2 lw e2 ew;by_cases nl:∃ c,∀ i,i<tw.length->lo tw i<=c/\c<=hi tw i
 ·obtain⟨c,hc⟩:=nl
  obtain⟨j,hj,mx⟩:=A9 (f:=fun k=>lo t k) (n:=t.length) h1
  (try dsimp only at mx)
  have uj:∀ i,i<t.length->ri u i<=lo t j:=le _ mx;have hh:∀ i,i<t.length->lo t j-b-a<=hi t i:=fun i h=>by
   have x:=(hc j %[|5]).1;have y:=(hc i %[|5]).2;rw[(ew j hj).1] at x;rw[(ew i h).2] at y;grind
  have ug:=ge (lo t j-b-a) hh ⟨j,hj,by grind⟩;have e1:=lv (lo t j-b) (fun i h=>by
   rw[l2] at h;rw[(e2 i h).1,(e2 i h).2];have:=uj i h;have:=ug i h;constructor<;>grind) ⟨j,by omega,by
    rw[(e2 j hj).1];have:=uj j hj;have:=R.low j hj;grind⟩
  have e3:=lw' (lo t j-b) (fun i h=>by
   rw[lw] at h;rw[(ew i h).1,(ew i h).2];have:=mx i h;have:=hh i h;constructor<;>grind) ⟨j,by omega,(ew j hj).1⟩
  rw[e1,e3,l2,lw]
 ·exact V'.same W (V'.low_touch %[|5] nl) (W.low_touch %[|5] nl)
theorem Stair.at_ {d:List Rat} {us:List (Rat×List Rat)} (S:Stair d us) {q:Rat}:∀ n i (h:i<us.length),us.length-i=n->us[i].1<=q->TautOf d q q (atP us[i] (us.drop (i+1)) q)
 | 0,i,h,e,_=>by omega
 | n+1,i,h,e,hq=>by
  rcases Nat.lt_or_ge (i+1) us.length with c|c
  ·rw[List.drop_eq_getElem_cons c]
   unfold atP;split
   ·rename_i c'
    exact S.mid i c q hq (Rat.le_of_lt c')
   ·rename_i c'
    exact Stair.at_ S n (i+1) c %[|5] (by grind)
  ·rw[List.drop_eq_nil_of_le c]
   unfold atP;have hne:us≠[]:=fun z=>by rw[z] at h;simp at h
   have:us.getLast?=some us[i]:=by
    rw[List.getLast?_eq_some_getLast hne,List.getLast_eq_getElem hne]
    congr 2;omega
   exact (S.last _ this).2 q hq
theorem Stair.whole {d:List Rat} {u:Rat×List Rat} {us:List (Rat×List Rat)} (S:Stair d (u::us)) {q:Rat} (q0:0<=q):TautOf d q q (atP u us q)/\u=(0,d):=by
 have f:=S.first;simp at f;subst f;exact⟨S.at_ (q:=q) _ 0 (by simp) rfl q0,rfl⟩
theorem WK {r o:List Rat} {q:Rat} {k:Nat} (h:k<r.length) (h':k<o.length):ri (mixR r o q) k=ri r k+q*(ri o k-ri r k):=by
 simp[ri,List.getD,mixR,List.getElem?_zipWith,h,h']
theorem W0 {r o:List Rat} {q:Rat} (h:r.length=o.length):(mixR r o q).length=o.length:=by unfold mixR;rw[List.length_zipWith];omega
theorem FA {r o:List Rat} {q s:Rat} (h:r.length=o.length):mixR (mixR r o q) o s=mixR r o (q+s-q*s):=by
 have l:=W0 (q:=q) h;refine Xj (by rw[W0 (by rw[l]),W0 h]) fun i hi'=>?_;rw[W0 (by rw[l])] at hi';rw[WK %[|5] hi',WK %[|5] hi',WK %[|5] hi'];grind
theorem DH {r o:List Rat} (h:r.length=o.length):mixR r o 0=r:=by
 refine Xj (by rw[W0 h,h]) fun i hi'=>?_;rw[W0 h] at hi';rw[WK %[|5] hi'];grind
noncomputable def WQ (p:Rat) (u:Rat×List Rat):Rat×List Rat:=(u.1-p,u.2)
noncomputable def Ji (p:Rat) (us:List (Rat×List Rat)):List (Rat×List Rat):=(us.filter fun u=>decide (p<u.1)).map (WQ p)
theorem Uu {p:Rat}:∀ (us:List (Rat×List Rat)),(∀ i (h:i+1<us.length),us[i].1<us[i+1].1)->∃ j,j<=us.length/\(us.filter fun u=>decide (p<u.1))=us.drop j/\(∀ i (h:i<us.length),i<j->us[i].1<=p)/\∀ i (h:i<us.length),j<=i->p<us[i].1
 | [],_=>⟨0,Nat.le_refl _,rfl,fun i h=>by simp at h,fun i h=>by simp at h⟩
 | u::us,rise=>by
  obtain⟨j,jl,e,h1,h2⟩:=Uu us fun i h=>by have:=rise (i+1) (by simp;omega);simpa using this
  by_cases c:u.1<=p
  ·refine⟨j+1,by simp;omega,?_,fun i h q=>?_,fun i h q=>?_⟩
   ·rw[List.filter_cons_of_neg (by simp;grind),e];rfl
   ·cases i with
    | zero=>simpa using c
    | succ i=>simpa using h1 i (by simpa using h) %[|5]
   ·cases i with
    | zero=>omega
    | succ i=>simpa using h2 i (by simpa using h) %[|5]
  ·have c':p<u.1:=by grind
   obtain rfl:j=0:=by
    rcases Nat.eq_zero_or_pos j with z|z
    ·exact z
    ·have l0:0<us.length:=by omega
     have:=h1 0 l0 z;have:=rise 0 (by simp;omega);simp at this;grind
   refine⟨0,by omega,?_,fun i h q=>by omega,fun i h q=>?_⟩
   ·rw[List.filter_cons_of_pos (by simp;exact c'),e];rfl
   ·cases i with
    | zero=>simpa using c'
    | succ i=>simpa using h2 i (by simpa using h) %[|5]
theorem K1 {A B c q x:Rat} (h1:A<=c) (h2:c<B):(c-A) / (B-A)+(q-x) / (B-c)-(c-A) / (B-A)*((q-x) / (B-c))=(c-A+(q-x)) / (B-A):=by
 have d0:B-A≠0:=by grind
 have e0:B-c≠0:=by grind
 have hα:(c-A) / (B-A)*(B-A)=c-A:=Rat.div_mul_cancel d0;have hβ:(q-x) / (B-c)*(B-c)=q-x:=Rat.div_mul_cancel e0;generalize (c-A) / (B-A)=α at hα ⊢;generalize (q-x) / (B-c)=β at hβ ⊢;have e:(α+β-α*β)*(B-A)=c-A+(q-x):=by grind
 rw[<- e,Rat.mul_div_cancel d0]
theorem Stair.again {d row:List Rat} {us vs:List (Rat×List Rat)} {p:Rat} (h1:1<=d.length) (p0:0<=p) (S:Stair d us) (R:TautOf d p p row) (T:Stair row vs):Stair row ((0,row)::Ji p us):=by
 have rl:=R.len;have ex:∀ q,0<=q->∃ z,TautOf row q q z:=fun q q0=>by
  cases vs with
  | nil=>have:=T.first;cases this
  | cons v vs=>exact⟨_,(T.whole q0).1⟩
 have less:∀ q y,0<=q->TautOf d (p+q) (p+q) y->TautOf row q q y:=fun q y q0 Y=>by
  obtain⟨z,Z⟩:=ex q q0;have:=TautOf.one h1 (by grind) (R.twice q0 q0 Z) Y
  rwa [this] at Z
 have u0:0<us.length:=by
  rcases Nat.eq_zero_or_pos us.length with z|z
  ·rw[List.length_eq_zero_iff.mp z] at S;have:=S.first;cases this
  ·exact z
 have f0:us[0]=(0,d):=by
  have:=S.first;rw[List.head?_eq_getElem?,List.getElem?_eq_getElem u0] at this;injection this
 have ul:∀ i (h:i<us.length),us[i].2.length=d.length:=fun i h=>(S.taut i h).1.len;obtain⟨j,jl,ef,b1,b2⟩:=Uu (p:=p) us S.rise;have j0:0<j:=by
  rcases Nat.eq_zero_or_pos j with z|z
  ·have:=b2 0 u0 %[|5]
   rw[f0] at this;have:p<0:=this;grind
  ·exact z
 obtain⟨J,rfl⟩:∃ J,j=J+1:=⟨j-1,by omega⟩;have hp:=b1 J %[|5] %[|5];unfold Ji;rw[ef];obtain⟨B,hB⟩:∃ B,B=(0,row)::(us.drop (J+1)).map (WQ p):=⟨_,rfl⟩;rw[<- hB];have Bl:B.length=us.length-J:=by rw[hB];simp;omega
 have e0:∀ h:0<B.length,B[0]=(0,row):=fun h=>by subst hB;rfl
 have eS:∀ m (h:m+1<B.length) (h':J+1+m<us.length),B[m+1]=(us[J+1+m].1-p,us[J+1+m].2):=fun m h h'=>by
  subst hB;simp[WQ]
 have atJ:∀ (h:J+1<us.length),row=mixR us[J].2 us[J+1].2 ((p-us[J].1) / (us[J+1].1-us[J].1)):=fun h=>TautOf.one h1 p0 R (S.mid J h p hp (Rat.le_of_lt (b2 (J+1) h %[|5])));have gen:∀ i (h:i+1<B.length),∃ (n:Nat) (h':n+1<us.length),B[i+1]=(us[n+1].1-p,us[n+1].2)/\us[n].1<=p+B[i].1/\p+B[i].1<us[n+1].1/\B[i].2=mixR us[n].2 us[n+1].2 ((p+B[i].1-us[n].1) / (us[n+1].1-us[n].1)):=fun i h=>by
  cases i with
  | zero =>
   have h':J+1<us.length:=by omega
   refine⟨J,h',eS 0 h h',?_⟩;rw[e0 %[|5]];have:=b2 (J+1) h' %[|5];refine⟨by show us[J].1<=p+0;grind,by show p+0<us[J+1].1;grind,?_⟩;show row=mixR us[J].2 us[J+1].2 ((p+0-us[J].1) / (us[J+1].1-us[J].1));rw[show p+0=p by grind];exact atJ h'
  | succ m =>
   have h':J+1+m+1<us.length:=by omega
   refine⟨J+1+m,h',eS (m+1) h h',?_⟩;rw[eS m %[|5] %[|5]];have:=S.rise (J+1+m) h';refine⟨?_,?_,?_⟩
   ·show us[J+1+m].1<=p+(us[J+1+m].1-p);grind
   ·show p+(us[J+1+m].1-p)<us[J+1+m+1].1;grind
   ·show us[J+1+m].2=mixR us[J+1+m].2 us[J+1+m+1].2 ((p+(us[J+1+m].1-p)-us[J+1+m].1) / (us[J+1+m+1].1-us[J+1+m].1))
    rw[show p+(us[J+1+m].1-p)-us[J+1+m].1=0 by grind,Rat.div_def,Rat.zero_mul];rw[DH (by rw[ul _ %[|5],ul _ h'])]
 have B0:∀ i (h:i<B.length),0<=B[i].1/\TautOf row B[i].1 B[i].1 B[i].2:=fun i h=>by
  cases i with
  | zero =>
   rw[e0 h];exact⟨Rat.le_refl,TautOf.own row⟩
  | succ m =>
   have h':J+1+m<us.length:=by omega
   have q:=b2 (J+1+m) h' %[|5];rw[eS m h h'];have e:p+(us[J+1+m].1-p)=us[J+1+m].1:=by grind
   refine⟨by show 0<=us[J+1+m].1-p;grind,less (us[J+1+m].1-p) us[J+1+m].2 (by grind) ?_⟩;rw[e];exact (S.taut _ h').1
 have alike:∀ {r o:List Rat} {q:Rat} {k:Nat},r.length=d.length->o.length=d.length->0<k->k<d.length->ri r (k-1)=ri r k->ri o (k-1)=ri o k->ri (mixR r o q) (k-1)=ri (mixR r o q) k:=fun hr ho k0 kn e1 e2=>by
  rw[WK %[|5] %[|5],WK %[|5] %[|5],e1,e2]
 have key:∀ i (h:i+1<B.length) (n:Nat) (h':n+1<us.length) q,us[n].1<=p+B[i].1->p+B[i].1<us[n+1].1->B[i].2=mixR us[n].2 us[n+1].2 ((p+B[i].1-us[n].1) / (us[n+1].1-us[n].1))->B[i+1]=(us[n+1].1-p,us[n+1].2)->mixR B[i].2 B[i+1].2 ((q-B[i].1) / (B[i+1].1-B[i].1))=mixR us[n].2 us[n+1].2 ((p+q-us[n].1) / (us[n+1].1-us[n].1)):=fun i h n h' q g1 g2 g3 g4=>by
  rw[g4,g3];have e1:us[n+1].1-p-B[i].1=us[n+1].1-(p+B[i].1):=by grind
  show mixR (mixR us[n].2 us[n+1].2 _) us[n+1].2 ((q-B[i].1) / (us[n+1].1-p-B[i].1))=_;rw[e1,FA (by rw[ul _ %[|5],ul _ h']),K1 g1 g2];rw[show p+B[i].1-us[n].1+(q-B[i].1)=p+q-us[n].1 by grind]
 refine⟨by rw[hB];rfl,by have:=S.len;omega,fun i h=>⟨(B0 i h).2,(B0 i h).1⟩,fun i h=>?_,fun i h q q0 q1=>?_,fun i h q q0 q1 k k0 kn ek=>?_,fun i h k k0 kn ek=>?_,fun i h=>?_,fun u hu=>?_⟩
 ·obtain⟨n,h',g4,g1,g2,g3⟩:=gen i h
  rw[g4];show B[i].1<us[n+1].1-p;grind
 ·obtain⟨n,h',g4,g1,g2,g3⟩:=gen i h
  have b:=(B0 i %[|5]).1;rw[key i h n h' q g1 g2 g3 g4];refine less q _ (by grind) (S.mid n h' (p+q) (by grind) ?_);rw[g4] at q1;have:q<=us[n+1].1-p:=q1;grind
 ·obtain⟨n,h',g4,g1,g2,g3⟩:=gen i h
  rw[key i h n h' q g1 g2 g3 g4] at ek;rw[rl] at kn;rw[g4] at q1;have q1:q<us[n+1].1-p:=q1;have a1:=S.same n h' (p+q) (by grind) (by grind) k k0 kn ek;have a2:=S.alike n h' k k0 kn a1;rw[g3];exact alike (ul _ %[|5]) (ul _ h') k0 kn a1 a2
 ·obtain⟨n,h',g4,g1,g2,g3⟩:=gen i h
  rw[rl] at kn;rw[g3] at ek;have a1:=S.same n h' _ g1 g2 k k0 kn ek;rw[g4];exact S.alike n h' k k0 kn a1
 ·obtain⟨n,h',g4,g1,g2,g3⟩:=gen i h
  obtain⟨k,k0,kn,ne,al⟩:=S.joins n h';refine⟨k,k0,by omega,fun ek=>?_,by rw[g4];exact al⟩;rw[g3] at ek;exact ne (S.same n h' _ g1 g2 k k0 kn ek)
 ·have ln:us≠[]:=fun z=>by rw[z] at u0;simp at u0
  have lu:us.getLast?=some us[us.length-1]:=by rw[List.getLast?_eq_some_getLast ln,List.getLast_eq_getElem ln]
  obtain⟨x1,x2⟩:=S.last _ lu;have bn:B≠[]:=by rw[hB];simp
  have eb:u=B[B.length-1]'(by have:=List.length_pos_iff.mpr bn;omega):=by
   rw[List.getLast?_eq_some_getLast bn,List.getLast_eq_getElem bn] at hu;injection hu with hu
   exact hu.symm
  have e2:u.2=us[us.length-1].2/\us[us.length-1].1<=p+u.1/\0<=u.1:=by
   rcases (by omega:B.length=1\/2<=B.length) with q|q
   ·have:u=(0,row):=by
     rw[eb,<- e0 %[|5]]
     congr 1;omega
    rw[this];have eJ:J=us.length-1:=by omega
    have x2':=x2 p (by subst eJ;exact hp);exact⟨TautOf.one h1 p0 R x2',by subst eJ;show us[us.length-1].1<=p+0;grind,Rat.le_refl⟩
   ·have z:=eS (B.length-2) %[|5] %[|5]
    have:u=B[B.length-2+1]'%[|5]:=by
     rw[eb];congr 1;omega
    have i1:J+1+(B.length-2)=us.length-1:=by omega
    have b:=(B0 (B.length-2+1) %[|5]).1;rw[<- this] at b;rw[this,z];have i2:us[J+1+(B.length-2)]'%[|5]=us[us.length-1]:=by congr 1
    refine⟨by show us[J+1+(B.length-2)].2=_;rw[i2],?_,by rw[this,z] at b;exact b⟩;show us[us.length-1].1<=p+(us[J+1+(B.length-2)].1-p);rw[i2];grind
  refine⟨fun k k0 kn=>?_,fun q hq=>?_⟩
  ·rw[e2.1];exact x1 k k0 %[|5]
  ·rw[e2.1]
   exact less q _ (by grind) (x2 (p+q) (by grind))
noncomputable def widT (t:List (Rat×Rat)) (b a:Rat):List (Rat×Rat):=t.map fun p=>(p.1-b,p.2+a)
noncomputable def YA (r:List Rat):List (Rat×Rat):=r.map fun x=>(x,x)
theorem Zn (t:List (Rat×Rat)) (b a:Rat):(widT t b a).length=t.length:=by simp[widT]
theorem Zr (r:List Rat):(YA r).length=r.length:=by simp[YA]
theorem WG {t:List (Rat×Rat)} {b a:Rat} {i:Nat} (h:i<t.length):lo (widT t b a) i=lo t i-b/\hi (widT t b a) i=hi t i+a:=by simp[widT,lo,hi,List.getD,h]
theorem ZB {r:List Rat} {i:Nat} (h:i<r.length):lo (YA r) i=ri r i/\hi (YA r) i=ri r i:=by simp[YA,lo,hi,ri,List.getD,h]
theorem VJ {r:List Rat} {k:Nat} (h:∀ x∈r,Sz k x):Box (YA r) k:=by
 refine⟨fun p hp=>?_,fun p hp=>?_,fun p hp=>?_⟩<;>obtain⟨x,hx,rfl⟩:=List.mem_map.mp hp
 ·exact Rat.le_refl
 ·exact h x hx
 ·exact h x hx
theorem UJ {t:List (Rat×Rat)} {b a:Rat} {k:Nat} (B:Box t k) (sb:Sz 14 b) (sa:Sz 14 a) (b0:0<=b) (a0:0<=a):Box (widT t b a) (k+15):=by
 refine⟨fun p hp=>?_,fun p hp=>?_,fun p hp=>?_⟩<;>obtain⟨u,hu,rfl⟩:=List.mem_map.mp hp
 ·have:=B.ok u hu
  show u.1-b<=u.2+a;grind
 ·exact ((B.lo u hu).sub sb).mono %[|5]
 ·exact ((B.hi u hu).add sa).mono %[|5]
noncomputable def YJ (t:List (Rat×Rat)) (b a:Rat):List (Rat×Rat):=t.take 1++(widT (mid t) b a++t.drop (t.length-1))
theorem Wn {t:List (Rat×Rat)} {b a:Rat} (h:2<=t.length):(YJ t b a).length=t.length:=by
 unfold YJ;simp[Zn,Xo];omega
theorem Cm {t:List (Rat×Rat)} {b a:Rat} (h:2<=t.length) {i:Nat} (hi':i<t.length):(YJ t b a)[i]?=some (if i=0\/i=t.length-1 then t[i] else (t[i].1-b,t[i].2+a)):=by
 unfold YJ;have l1:(t.take 1).length=1:=by simp;omega
 have l2:(widT (mid t) b a).length=t.length-2:=by rw[Zn,Xo]
 rcases (by omega:i=0\/i=t.length-1\/(0<i/\i<t.length-1)) with rfl|rfl|⟨h1,h2⟩
 ·rw[if_pos (.inl rfl),List.getElem?_append_left %[|5],List.getElem?_take_of_lt %[|5],List.getElem?_eq_getElem hi']
 ·rw[if_pos (.inr rfl),List.getElem?_append_right %[|5],List.getElem?_append_right %[|5],List.getElem?_drop,l1,l2,show t.length-1+(t.length-1-1-(t.length-2))=t.length-1 by omega,List.getElem?_eq_getElem hi']
 ·rw[if_neg %[|5],List.getElem?_append_right %[|5],List.getElem?_append_left %[|5],l1]
  unfold widT mid;rw[List.getElem?_map,List.getElem?_take_of_lt %[|5],List.getElem?_drop,show 1+(i-1)=i by omega,List.getElem?_eq_getElem hi']
  rfl
theorem UI {t:List (Rat×Rat)} {b a:Rat} (h:2<=t.length) {i:Nat} (hi':i<t.length):(i=0\/i=t.length-1->lo (YJ t b a) i=lo t i/\hi (YJ t b a) i=hi t i)/\(0<i->i<t.length-1->lo (YJ t b a) i=lo t i-b/\hi (YJ t b a) i=hi t i+a):=by
 have e:=Cm (b:=b) (a:=a) h hi';simp only[lo,hi,List.getD,e,Option.getD_some,List.getElem?_eq_getElem hi'];refine⟨fun c=>?_,fun c1 c2=>?_⟩
 ·rw[if_pos c];exact⟨rfl,rfl⟩
 ·rw[if_neg %[|5]];exact⟨rfl,rfl⟩
theorem Uc {t:List (Rat×Rat)} {b a:Rat} {k:Nat} (h2:2<=t.length) (h25:t.length<=25) (tie:tied t=true) (B:Box t k) (sb:Sz 14 b) (sa:Sz 14 a) (b0:0<=b) (a0:0<=a) (hk:k<=1800):Fine (YJ t b a) (k+15):=by
 have wl:=Wn (b:=b) (a:=a) h2;have W:=fun i (h:i<t.length)=>UI (b:=b) (a:=a) h2 h;have P:=fun i (h:i<t.length)=>B.sz h;have ok:∀ i,i<t.length->lo (YJ t b a) i<=hi (YJ t b a) i/\Sz (k+15) (lo (YJ t b a) i)/\Sz (k+15) (hi (YJ t b a) i):=fun i h=>by
  have o:lo t i<=hi t i:=by
   have:=B.ok (t[i]) (List.getElem_mem h)
   simpa[lo,hi,List.getD,h] using this
  obtain⟨s1,s2⟩:=P i h;by_cases c:i=0\/i=t.length-1
  ·obtain⟨e1,e2⟩:=(W i h).1 c
   rw[e1,e2];exact⟨o,s1.mono %[|5],s2.mono %[|5]⟩
  ·obtain⟨e1,e2⟩:=(W i h).2 %[|5] %[|5]
   rw[e1,e2];exact⟨by grind,(s1.sub sb).mono %[|5],(s2.add sa).mono %[|5]⟩
 refine⟨⟨by omega,by omega,fun p hp=>?_⟩,?_,fun i h=>(ok i %[|5]).2.1,fun i h=>(ok i %[|5]).2.2,by omega⟩
 ·obtain⟨i,h,rfl⟩:=List.getElem_of_mem hp
  have:=(ok i %[|5]).1
  simpa[lo,hi,List.getD,h] using this
 ·unfold tied at tie ⊢
  rw[wl];obtain⟨e1,e2⟩:=(W 0 %[|5]).1 (.inl rfl);obtain⟨e3,e4⟩:=(W (t.length-1) %[|5]).1 (.inr rfl);rw[e1,e2,e3,e4];exact tie
theorem ES {t:List (Rat×Rat)} (h:tied t=true):lo t 0=hi t 0/\lo t (t.length-1)=hi t (t.length-1):=by
 unfold tied at h
 simpa using h
theorem AG {t:List (Rat×Rat)} {u v w:List Rat} {b a:Rat} {k1 k2 k3:Nat} (h2:2<=t.length) (tie:tied t=true) (b0:0<=b) (a0:0<=a) (U:Told t k1 u) (V:Told (YJ (YA u) b a) k2 v) (W:Told (YJ t b a) k3 w):v=w:=by
 have ul:=U.len;have pu:=Zr u;have l2:=Wn (t:=YA u) (b:=b) (a:=a) %[|5];have l3:=Wn (b:=b) (a:=a) h2;have vl:=V.len;have wl:=W.len;have tv:=V.taut;have tw:=W.taut;rw[show (YJ (YA u) b a).length-1=t.length-1 by omega] at tv;rw[show (YJ t b a).length-1=t.length-1 by omega] at tw;have A:=fun i (h:i<(YA u).length)=>UI (b:=b) (a:=a) (t:=YA u) %[|5] h;have B:=fun i (h:i<t.length)=>UI (b:=b) (a:=a) h2 h;have v0:ri v 0=ri u 0:=by
  rw[V.first,((A 0 %[|5]).1 (.inl rfl)).1,(ZB %[|5]).1]
 have vn:ri v (t.length-1)=ri u (t.length-1):=by
  have:=V.last;rw[show (YJ (YA u) b a).length-1=t.length-1 by omega,((A (t.length-1) %[|5]).1 (.inr %[|5])).1,(ZB %[|5]).1] at this;exact this
 have w0:ri w 0=ri u 0:=by
  rw[W.first,((B 0 %[|5]).1 (.inl rfl)).1,U.first]
 have wn:ri w (t.length-1)=ri u (t.length-1):=by
  have:=W.last;rw[show (YJ t b a).length-1=t.length-1 by omega,((B (t.length-1) %[|5]).1 (.inr rfl)).1] at this;rw[this,U.last]
 obtain⟨t0,tn⟩:=ES tie;have T:=Aa (L:=lo (YJ t b a)) (H:=hi (YJ t b a)) b0 a0 U.taut tv v0 vn (fun k k0 kn=>by
  obtain⟨e1,e2⟩:=(A k %[|5]).2 k0 %[|5];obtain⟨f1,f2⟩:=ZB (r:=u) (i:=k) %[|5];rw[e1,e2,f1,f2];exact⟨rfl,rfl⟩) (fun k k0 kn=>(B k %[|5]).2 k0 kn) fun k hk=>by
  obtain⟨e1,e2⟩:=(B k %[|5]).1 hk;rw[e1,e2];rcases hk with rfl|rfl
  ·rw[v0,U.first,<- t0];exact⟨Rat.le_refl,Rat.le_refl⟩
  ·rw[vn,U.last,<- tn];exact⟨Rat.le_refl,Rat.le_refl⟩
 exact Xj %[|5] fun i hi'=>T.unique tw (by rw[v0,w0]) (by rw[vn,wn]) i %[|5]
theorem Lco.lvl {t:List (Rat×Rat)} {k:Nat} {r:List Rat} (C:Lco t k r):Lvl t r:=fun c hc ⟨i,hi',e⟩=>C.level ⟨i,hi',e.symm⟩ (fun i h=>(hc i h).1) (fun i h=>(hc i h).2)
theorem JG {t:List (Rat×Rat)} {u v w:List Rat} {b a:Rat} {k1 k2 k3:Nat} (h2:2<=t.length) (b0:0<=b) (a0:0<=a) (U:Lco t k1 u) (V:Lco (widT (YA u) b a) k2 v) (W:Lco (widT t b a) k3 w):v=w:=by
 have ul:=U.len;have l1:(widT (YA u) b a).length=t.length:=by rw[Zn,Zr,ul]
 have l2:=Zn t b a;exact Bal.once b0 a0 %[|5] (U.bal h2) (V.bal %[|5]) (W.bal %[|5]) l1 l2 (fun i h=>by
  obtain⟨e1,e2⟩:=WG (t:=YA u) (b:=b) (a:=a) (i:=i) (by rw[Zr];omega);obtain⟨f1,f2⟩:=ZB (r:=u) (i:=i) %[|5];rw[e1,e2,f1,f2];exact⟨rfl,rfl⟩) (fun i h=>WG h) (fun c h=>U.le h) (fun c g1 g2=>U.ge g1 g2) V.lvl W.lvl
theorem Ah {t:List (Rat×Rat)} {u v w:List Rat} {b a:Rat} {k1 k2 k3:Nat} (h3:3<=t.length) (b0:0<=b) (a0:0<=a) (ok:∀ i,i<t.length->lo t i<=hi t i) (U:RingIs t k1 u) (V:RingIs (widT (YA u) b a) k2 v) (W:RingIs (widT t b a) k3 w):v=w:=by
 have U':=U.rt h3 ok;have ul:=U'.len;have l1:(widT (YA u) b a).length=t.length:=by rw[Zn,Zr,ul]
 have l2:=Zn t b a;have a1:∀ i,i<t.length->lo (widT (YA u) b a) i=ri u i-b/\hi (widT (YA u) b a) i=ri u i+a:=fun i h=>by
  obtain⟨e1,e2⟩:=WG (t:=YA u) (b:=b) (a:=a) (i:=i) (by rw[Zr];omega);obtain⟨f1,f2⟩:=ZB (r:=u) (i:=i) %[|5];rw[e1,e2,f1,f2];exact⟨rfl,rfl⟩
 have V':=V.rt %[|5] (fun i h=>by rw[(a1 i %[|5]).1,(a1 i %[|5]).2];grind);have W':=W.rt %[|5] (fun i h=>by have:=ok i %[|5];rw[(WG %[|5]).1,(WG %[|5]).2];grind);exact Bal.once b0 a0 %[|5] (U'.bal h3) (V'.bal %[|5]) (W'.bal %[|5]) l1 l2 a1 (fun i h=>WG h) (fun c h=>RingIs.le U h3 h) (fun c g1 g2=>RingIs.ge U h3 g1 g2) V'.level W'.level
noncomputable def S_63:DSp:=fun ds M Q E=>∃ (t:List (Rat×Rat)) (b a:Rat) (k:Nat),ds=[tb t,nm b,nm a]/\(∀ p∈t,Sz k p.1/\Sz k p.2)/\k<=3000/\Sz 14 b/\Sz 14 a/\t.length<=100/\∀ M',MExt M M'->Q (tb (widT t b a)) M'
noncomputable def C_63:CSs:=%[.ret (.bi .tuple %[.comp ["_law_places","_law_less","_law_more_here","_law_low_here","_law_high"] 2 (.tup %[.name 3,.name 4|0]) (.seq (.var 0)) (.tup %[.call "_law_less_by" S_53 %[.var 3,.var 1|0],.call "_law_more" S_52 %[.var 4,.var 2|0]|0])|0])|0]
theorem vc_63:∀ ds M R E,S_63 ds M R E->rSs C_63 (ends R E) (Y1 3 ds) M:=by
 rintro ds M R E ⟨t,b,a,k,rfl,hs,hk,sb,sa,l100,q⟩;unfold C_63;sleep 7;refine YB t pl (fun p=>pl (p.1-b,p.2+a)) (fun R' r'=>?_) %[|5] ?_ ?_
 ·sleep 8
  exact r' _ fun _ _=>trivial
 ·intro x hx l M' R' hl' e r'
  obtain⟨u1,u2,rfl⟩:=len2 hl';obtain⟨y1,y2⟩:=x;obtain⟨s1,s2⟩:=hs _ hx;sleep 8;refine⟨_,_,rfl,.mk s1 sb %[|5],?_⟩;refine⟨_,_,rfl,.mk s2 sa %[|5],?_⟩;exact r' [_,_] M' rfl (.refl _)
 intro p M' e x l;refine⟨_,l,?_⟩;have er:D.tup (t.map fun p=>pl (p.1-b,p.2+a))=tb (widT t b a):=by simp[tb,widT]
 rw[er];exact q M' x
noncomputable def S_64:DSp:=fun ds M Q E=>∃ (r:List Rat),ds=[rw r]/\r.length<=100/\∀ M',MExt M M'->Q (tb (YA r)) M'
noncomputable def C_64:CSs:=%[.ret (.bi .tuple %[.comp ["_law_row","_law_one"] 1 (.name 1) (.seq (.var 0)) (.tup %[.var 1,.var 1|0])|0])|0]
theorem vc_64:∀ ds M R E,S_64 ds M R E->rSs C_64 (ends R E) (Y1 1 ds) M:=by
 rintro ds M R E ⟨r,rfl,l100,q⟩;unfold C_64;sleep 7;refine YB r nm (fun x=>pl (x,x)) (fun R' r'=>?_) %[|5] ?_ ?_
 ·sleep 8
  exact r' _ fun _ _=>trivial
 ·intro x hx l M' R' hl' e r'
  obtain⟨u1,rfl⟩:=len1 hl';sleep 8;exact r' [_] M' rfl (.refl _)
 intro p M' e x l;refine⟨_,l,?_⟩;have er:D.tup (r.map fun x=>pl (x,x))=tb (YA r):=by simp[tb,YA]
 rw[er];exact q M' x
noncomputable def preS (s:List Rat) (b a:Rat) (i:Nat):List (Rat×Rat):=(List.range i).map fun j=>(Y2 s j-b,Y2 s j+a)
theorem Aj {s:List Rat} {b a:Rat} (h1:1<=s.length):(0,0)::((preS s b a s.length).drop 1++[(Y2 s s.length,Y2 s s.length)])=Yb s b a:=by
 have L:=Yz s b a;refine List.ext_getElem (by simp[preS,L];omega) fun i x y=>?_;rw[L] at y;have e2:(Yb s b a)[i]'(by rw[L];exact y)=YT s b a i:=by simp[Yb]
 rw[e2];unfold YT;cases i with
 | zero=>rw [if_pos rfl];rfl
 | succ j =>
  rw[if_neg %[|5],List.getElem_cons_succ];by_cases c:j+1=s.length
  ·rw[if_pos c,List.getElem_append_right (by simp[preS];omega)]
   simp[c]
  ·rw[if_neg c,List.getElem_append_left (by simp[preS];omega)]
   simp[preS,Nat.add_comm]
theorem Cw {L B:Nat} {s:List Rat} (l0:0<L) (h:∀ x∈s,Gr L B x):∀ k,k<=s.length->Gr L (k*B) (Y2 s k)
 | 0,_=>by rw[Ya];exact .zero
 | k+1,hk=>by
  rw[YD %[|5],Nat.succ_mul];exact (Cw l0 h k %[|5]).add l0 (h _ (YE %[|5]))
structure Dt (s:List Rat):Prop where
 one:1<=s.length
 most:s.length<=24
 gs:∀ x∈s,Gr 60 1200 x
theorem Dt.sum {s:List Rat} (D:Dt s) {k:Nat} (hk:k<=s.length):Gr 60 28800 (Y2 s k):=by
 have:=D.most;exact (Cw %[|4] D.gs k hk).mono %[|5]
noncomputable def S_66:DSp:=fun ds M Q E=>∃ (s:List Rat) (b a:Rat),ds=[rw s,nm b,nm a]/\Dt s/\Sz 16 b/\Sz 16 a/\∀ M',MExt M M'->Q (tb (Yb s b a)) M'
noncomputable def C_66:CSs:=%[.set 3 (.lst .nil),.set 4 (.tup %[.int 0,.int 1|0]),.fr (.name 5) (.seq (.var 0)) %[.expr (.app 3 (.tup %[.call "_law_less_by" S_53 %[.var 4,.var 1|0],.call "_law_more" S_52 %[.var 4,.var 2|0]|0])),.set 4 (.call "_law_more" S_52 %[.var 4,.var 5|0])|0],.ret (.bi .tuple %[.bin .Add (.bin .Add (.lst %[.tup %[.tup %[.int 0,.int 1|0],.tup %[.int 0,.int 1|0]|0]|0]) (.sl (.var 3) (.some (.int 1)) .none)) (.lst %[.tup %[.var 4,.var 4|0]|0])|0])|0]
theorem vc_66:∀ ds M R E,S_66 ds M R E->rSs C_66 (ends R E) (Y1 6 ds) M:=by
 rintro ds M R E ⟨s,b,a,rfl,dt,sb,sa,q⟩;have one:=dt.one;have most:=dt.most;have sz:∀ k,k<=s.length->Sz 16 (Y2 s k):=fun k hk=>(dt.sum hk).sz %[|4] %[|4] %[|4];unfold C_66;sleep 7;intro p1 M1 e1 x1 l1;sleep 7;rw[UZ];sleep 9;refine YN (fun i δ M'=>∃ (w5:Option DL.D),MExt M M'/\i<=s.length/\M' p1=some (.ls ((preS s b a i).map pl))/\δ=[some (rw s),some (nm b),some (nm a),some (.lst p1),some (nm (Y2 s i)),w5]) (fun _ _ _ _=>trivial) ?_ ?_ ⟨_,x1,by omega,l1,by rw[Ya]⟩
 ·rintro δ M2 ⟨w5,x2,_,l2,rfl⟩
  rw[List.length_map] at l2 ⊢;sleep 7;intro p3 M3 e3 x3 l3;refine⟨_,x3 _ _ l2,?_⟩;intro p4 M4 e4 x4 l4;refine⟨_,x4 _ _ l3,_,l4,by have:=X6 ((preS s b a s.length).map pl) (some 1) none;simp[preS] at this ⊢;omega,?_⟩;intro p5 M5 e5 x5 l5;intro p6 M6 e6 x6 l6;refine⟨_,x6 _ _ l5,_,l6,by have:=X6 ((preS s b a s.length).map pl) (some 1) none;simp[preS] at this ⊢;omega,?_⟩;intro p7 M7 e7 x7 l7;refine⟨_,l7,?_⟩;have er:D.tup ([D.tup [D.tup [D.int 0,D.int 1],D.tup [D.int 0,D.int 1]]]++cutG ((preS s b a s.length).map pl) (some 1) none++[pl (Y2 s s.length,Y2 s s.length)])=tb (Yb s b a):=by
   rw[<- Aj one,show (1:Int)=((1:Nat):Int) from rfl,Jc _ _ (by simp[preS];omega),<- List.map_drop];simp[tb]
   rfl
  rw[er];exact q M7 (x2.trans (x3.trans (x4.trans (x5.trans (x6.trans x7)))))
 ·rintro i y hy N hN δ M2 ⟨w5,x2,hi2,l2,rfl⟩
  obtain⟨hi,rfl⟩:∃ hi:i<s.length,y=nm (ri s i):=by
   obtain⟨h,e⟩:=List.getElem?_eq_some_iff.mp hy;have h':i<s.length:=by simpa using h
   exact⟨h',by rw[<- e];simp[ri,List.getD,h']⟩
  have sx:Sz 12 (ri s i):=(dt.gs _ (YE hi)).sz %[|4] %[|4] %[|4];have sy:=sz i %[|5];sleep 8;sleep 7;refine⟨⟨_,l2⟩,?_⟩;refine⟨_,_,rfl,.mk sy sb %[|4],?_⟩;refine⟨_,_,rfl,.mk sy sa %[|4],?_⟩;refine⟨_,l2,by simp[preS];omega,?_⟩;have l3:(M2.upd p1 (.ls ((preS s b a i).map pl++[D.tup [nm (Y2 s i-b),nm (Y2 s i+a)]]))) p1=some (.ls ((preS s b a (i+1)).map pl)):=by
   rw[mupd_same];unfold preS;rw[List.range_succ];simp
  have x3:=MExt.upd_new (o:=.ls ((preS s b a i).map pl++[D.tup [nm (Y2 s i-b),nm (Y2 s i+a)]])) e1 x2;show rSs _ _ _ (M2.upd p1 (.ls ((preS s b a i).map pl++[D.tup [nm (Y2 s i-b),nm (Y2 s i+a)]])));generalize M2.upd p1 (.ls ((preS s b a i).map pl++[D.tup [nm (Y2 s i-b),nm (Y2 s i+a)]]))=M3 at l3 x3;sleep 7;refine⟨_,_,rfl,.mk sy sx %[|4],?_⟩;rw[<- YD hi];exact hN _ _ ⟨_,x3,by omega,l3,rfl⟩
noncomputable def S_70:DSp:=fun ds M Q E=>∃ a,ds=[.lst a]/\Pk M a/\∀ q M',Gr 60 7200 q->0<=q->Dr a M M'->Q (nm q) M'
noncomputable def C_70:CSs:=%[.ret (.call "_law_low" S_51 %[.bin .Mult (.ix (.lst %[.int 0,.int 1,.int 2,.int 5,.int 9,.int 40|0]) (.call "_law_take" S_50 %[.var 0,.int 6|0])) (.bin .Add (.int 1) (.call "_law_take" S_50 %[.var 0,.int 3|0])),.bin .Add (.int 1) (.call "_law_take" S_50 %[.var 0,.int 3|0])|0])|0]
theorem vc_70:∀ ds M R E,S_70 ds M R E->rSs C_70 (ends R E) (Y1 1 ds) M:=by
 rintro ds M R E ⟨a,rfl,p,q⟩;unfold C_70;sleep 7;intro p0 M0 e0 x0 l0;refine YK (p.ext x0) %[|4] %[|4] fun r M1 r0 r1 y1=>?_;obtain⟨z,hz,hv⟩:=AJ (xs:=[D.int 0,D.int 1,D.int 2,D.int 5,D.int 9,D.int 40]) r0 (by simpa using r1);refine YZ (y1.keep _ _ (p.ne e0) l0) hv ?_;obtain⟨t,rfl,t0,t1⟩:∃ b:Int,z=.int b/\0<=b/\b<=40:=by
  simp at hz;rcases hz with rfl|rfl|rfl|rfl|rfl|rfl<;>exact⟨_,rfl,by decide,by decide⟩
 refine YK y1.pk %[|4] %[|4] fun u M2 u0 u1 y2=>?_;rw[J8,HN];refine⟨ZL (m:=64) (n:=64) %[|5] %[|5] %[|4],?_⟩;refine YK y2.pk %[|4] %[|4] fun v M3 v0 v1 y3=>?_;rw[J8];have vd:(1+v).toNat ∣ 60:=by rcases (by omega:v=0\/v=1\/v=2) with rfl|rfl|rfl<;>decide
 have tu:0<=t*(1+u)/\t*(1+u)<=120:=by
  rcases (by omega:u=0\/u=1\/u=2) with rfl|rfl|rfl<;>omega
 exact⟨_,_,rfl,by omega,WO (Nat.lt_of_lt_of_le (show (1+v).natAbs<2 ^ 4 by omega) (Xm %[|4])),q _ M3 (WR %[|5] vd %[|4] %[|5]) (divInt_nonneg tu.1 %[|5]) ((Dr.ext p x0).trans (y1.trans (y2.trans y3)))⟩
theorem HJ (p:Rat):D.tup [D.int (if p.num<0 then -p.num else p.num),D.int p.den]=nm (mag p):=by
 unfold nm mag;by_cases h:p<0
 ·have h':p.num<0:=by have:=(Rat.lt_iff p 0).mp h;simpa using this
  rw[if_pos h,if_pos h'];simp
 ·have h':¬ p.num<0:=fun z=>h ((Rat.lt_iff p 0).mpr (by simpa using z))
  rw[if_neg h,if_neg h']
theorem HY {L B:Nat} {x:Rat} (h:Gr L B x):Gr L B (mag x):=by
 unfold mag;split
 ·exact h.neg
 ·exact h
theorem HK {r:List Rat} {q:Rat} (h:Needs r) (hq:0<=q):Needs (r++[q]):=fun x hx=>by
 rcases List.mem_append.mp hx with h' | h'
 ·exact h x h'
 ·simp at h';subst h';exact hq
theorem Dr.none2 {a p:Addr} {M M':Mem} (pk:Pk M a) (y:Dr a M M') (h:M' p=none):M p=none:=by
 cases e:M p with
 | none=>rfl
 | some o=>rw [y.keep _ _ (y.pk.ne h) e] at h;cases h
noncomputable def S_69:DSp:=fun ds M Q E=>∃ (a:Addr) (b c:Bool),ds=[.lst a,.bl b,.bl c]/\Pk M a/\∀ r M',Dt r->(b=true->Needs r)->Dr a M M'->Q (rw r) M'
noncomputable def C_69:CSs:=%[.set 3 (.bin .Add (.int 1) (.call "_law_take" S_50 %[.var 0,.int 9|0])),.ife (.and (.cmp .Eq (.call "_law_take" S_50 %[.var 0,.int 8|0]) (.int 0)) (.one (.var 2))) %[.set 3 (.int 24)|0] .nil,.set 4 (.lst .nil),.fr (.name 5) (.rng %[.var 3|0]) %[.set 6 (.call "_law_number" S_58 %[.var 0,.int 9|0]),.ife (.var 1) %[.set 6 (.tup %[.bi .abs %[.ix (.var 6) (.int 0)|0],.ix (.var 6) (.int 1)|0])|0] .nil,.ife (.and (.cmp .NotEq (.var 4) (.lst .nil)) (.one (.cmp .Eq (.call "_law_take" S_50 %[.var 0,.int 4|0]) (.int 0)))) %[.set 6 (.ix (.var 4) (.neg (.int 1)))|0] .nil,.expr (.app 4 (.var 6))|0],.ret (.bi .tuple %[.var 4|0])|0]
theorem vc_69:∀ ds M R E,S_69 ds M R E->rSs C_69 (ends R E) (Y1 7 ds) M:=by
 rintro ds M R E ⟨a,b,c,rfl,pk,q⟩;unfold C_69;sleep 7;refine YK pk %[|4] %[|4] fun n M1 n0 n1 y1=>?_;rw[J8];refine Wf fun J hJ=>?_;have t1:∀ (n:Nat) M',1<=n->n<=24->Dr a M M'->J [some (.lst a),some (.bl b),some (.bl c),some (.int (n:Int)),none,none,none] M':=by
  intro n M2 n1 n24 d2;refine hJ _ _ ?_;sleep 7;intro p0 M0 e0 x0 l0;have d20:=d2;have hpa:=d2.pk.ne e0;have d0:=d2.trans (Dr.ext d2.pk x0);sleep 9;refine⟨by omega,?_⟩;refine YN (fun i δ M'=>∃ (r:List Rat) (w5 w6:Option DL.D),Dr a M M'/\M' p0=some (.ls (r.map nm))/\r.length=i/\(∀ x∈r,Gr 60 1200 x)/\(b=true->Needs r)/\δ=[some (.lst a),some (.bl b),some (.bl c),some (.int (n:Int)),some (.lst p0),w5,w6]) (fun _ _ _ _=>trivial) ?_ ?_ ⟨[],_,_,d0,l0,rfl,nofun,fun _=>nofun,rfl⟩
  ·rintro δ M' ⟨r,w4,w5,d,l,hl,gs,hn,rfl⟩
   rw[Xd] at hl;sleep 7;exact⟨_,l,q r M' ⟨by omega,by omega,gs⟩ hn d⟩
  ·rintro i y hy N hN δ M' ⟨r,w4,w5,d,l,hl,gs,hn,rfl⟩
   obtain⟨rfl,hi'⟩:=XU hy;sleep 8;sleep 7;refine⟨a,9,rfl,d.pk,by decide,by decide,fun u M1 gu y1=>?_⟩;have d1:=d.trans y1;have l1:=y1.keep _ _ hpa l;refine Wf fun J hJ=>?_;have t1:∀ v,Gr 60 1200 v->(b=true->0<=v)->J [some (.lst a),some (.bl b),some (.bl c),some (.int (n:Int)),some (.lst p0),some (.int (i:Int)),some (nm v)] M1:=by
    intro v gv v0;refine hJ _ _ ?_;refine Wf fun J hJ=>?_;have t2:∀ v M',Gr 60 1200 v->(b=true->0<=v)->Dr a M M'->M' p0=some (.ls (r.map nm))->J [some (.lst a),some (.bl b),some (.bl c),some (.int (n:Int)),some (.lst p0),some (.int (i:Int)),some (nm v)] M':=by
     intro v M2 gv v0 d2 l2;refine hJ _ _ ?_;sleep 7;refine⟨⟨_,l2⟩,_,l2,by rw[List.length_map];omega,?_⟩;have e0':M p0=none:=Dr.none2 pk d20 e0;exact hN _ _ ⟨r++[v],_,_,d2.upd_new e0' hpa,by rw[mupd_same,List.map_append];rfl,by simp[hl],DJ gs gv,fun h=>HK (hn h) (v0 h),rfl⟩
    sleep 8;intro p6 M6 e6 x6 l6;refine HM (x6 _ _ l1) l6 ?_;have d6:=d1.trans (Dr.ext y1.pk x6);by_cases hr:r=[]
    ·subst hr
     simp;exact t2 v M6 gv v0 d6 (x6 _ _ l1)
    ·have hl1:1<=r.length:=List.length_pos_iff.mpr hr
     simp[hr];refine YK (d1.pk.ext x6) %[|4] %[|4] fun c M7 c0 c1 y7=>?_;refine ZP false ?_;have l7:=y7.keep _ _ hpa (x6 _ _ l1);by_cases hu:c=0
     ·simp[hu]
      sleep 7;refine YZ l7 (Vh hl1) ?_;exact t2 _ M7 (gs _ (YE %[|5])) (fun h=>hn h _ (YE %[|5])) (d6.trans y7) l7
     ·simp[hu]
      exact t2 v M7 gv v0 (d6.trans y7) l7
   sleep 8;cases b with
   | false=>simp;exact t1 u gu nofun
   | true =>
    simp;sleep 7;rw[HJ];exact t1 (mag u) (HY gu) fun _=>(HL u).2.2
 sleep 8;refine YK y1.pk %[|4] %[|4] fun k M2 k0 k1 y2=>?_;refine ZP false ?_;obtain⟨n',hn'⟩:∃ n':Nat,1+n=(n':Int):=⟨(1+n).toNat,by omega⟩;rw[hn'];have d2:=y1.trans y2;by_cases hk:k=0
 ·simp[hk]
  by_cases hc:c=true
  ·simp[hc]
   sleep 7;rw[hc] at t1;exact t1 24 M2 %[|4] %[|4] d2
  ·simp[hc]
   have hc':c=false:=by simpa using hc
   rw[hc'] at t1;exact t1 n' M2 %[|5] %[|5] d2
 ·simp[hk]
  exact t1 n' M2 %[|5] %[|5] d2
noncomputable def S_57:DSp:=fun ds M Q E=>∃ a n w,ds=[.lst a,.int n,.int w]/\Pk M a/\2<=n/\n<=25/\0<=w/\w<1000/\∀ t M',(t.length:Int)=n->Box t 24->Dr a M M'->Q (tb t) M'
noncomputable def C_57:CSs:=%[.set 3 (.tup %[.int 0,.int 1|0]),.set 4 (.lst .nil),.fr (.name 5) (.rng %[.var 1|0]) %[.set 3 (.call "_law_more" S_52 %[.var 3,.tup %[.bin .Sub (.call "_law_take" S_50 %[.var 0,.int 7|0]) (.int 3),.int 1|0]|0]),.expr (.app 4 (.tup %[.var 3,.call "_law_more" S_52 %[.var 3,.call "_law_width" S_56 %[.var 0,.var 2|0]|0]|0]))|0],.ret (.bi .tuple %[.var 4|0])|0]
theorem vc_57:∀ ds M R E,S_57 ds M R E->rSs C_57 (ends R E) (Y1 6 ds) M:=by
 rintro ds M R E ⟨a,n,w,rfl,pk,n0,n1,w0,w1,q⟩;unfold C_57;sleep 7;sleep 7;intro p0 M0 e0 x0 l0;have hpa:=pk.ne e0;sleep 9;refine⟨by omega,by omega,?_⟩;refine YN (fun i δ M'=>∃ (z:Int) (t:List (Rat×Rat)) (w5:Option DL.D),Dr a M M'/\M' p0=some (.ls (t.map pl))/\t.length=i/\z.natAbs<=3*i/\Box t 24/\δ=[some (.lst a),some (.int n),some (.int w),some (nm (z:Rat)),some (.lst p0),w5]) (fun _ _ _ _=>trivial) ?_ ?_ ⟨0,[],_,Dr.ext pk x0,l0,rfl,by decide,.nil,rfl⟩
 ·rintro δ M' ⟨z',t,w5,d,l,hl,hz,B,rfl⟩
  rw[Xd] at hl;sleep 7;exact⟨_,l,q t M' %[|5] B d⟩
 ·rintro i y hy N hN δ M' ⟨z',t,w5,d,l,hl,hz,B,rfl⟩
  obtain⟨rfl,hi'⟩:=XU hy;sleep 8;sleep 7;refine YK d.pk %[|4] %[|4] fun r M3 r0 r1 y3=>?_;have sz:Sz 7 (z':Rat):=ZH %[|5];have sr:Sz 7 ((r-3:Int):Rat):=ZH %[|5];sleep 8;rw[nm_i];refine⟨_,_,rfl,.mk sz sr %[|5],?_⟩;have e1:(z':Rat)+((r-3:Int):Rat)=((z'+(r-3):Int):Rat):=by push_cast;rfl
  rw[e1];have hz':(z'+(r-3)).natAbs<=3*(i+1):=by omega
  generalize z'+(r-3)=z2 at hz';have sz1:Sz 7 (z2:Rat):=ZH %[|5];sleep 7;refine⟨⟨_,y3.keep _ _ hpa l⟩,a,w,rfl,y3.pk,w0,w1,fun v M4 v0 sv y4=>?_⟩;refine⟨_,_,rfl,.mk sz1 sv %[|4],?_⟩;refine⟨_,y4.keep _ _ hpa (y3.keep _ _ hpa l),by simp only[List.length_map];omega,?_⟩;refine hN _ _ ⟨z2,t++[((z2:Rat),(z2:Rat)+v)],_,((d.trans y3).trans y4).upd_new e0 hpa,?_,by simp[hl],by omega,B.add ?_ (sz1.mono %[|5]) ((sz1.add sv).mono %[|5]),rfl⟩
  ·rw[mupd_same];simp
  ·show (z2:Rat)<=(z2:Rat)+v
   grind
noncomputable def S_65:DSp:=fun ds M Q E=>∃ (t:List (Rat×Rat)) (e f:Int) (b a:Rat),ds=[tb t,.tup [.int e,.int f],nm b,nm a]/\(e=0\/e=1)/\(f=0\/f=1)/\Box t 24/\2<=t.length/\t.length<=9/\Sz 14 b/\Sz 14 a/\0<=b/\0<=a/\∀ M',MExt M M'->Q (.bl true) M'
theorem GB {p:Rat×Rat} {k:Int} {M:Mem} {Q:DK} (h:k=0\/k=1) (q:Q (nm (if k=0 then p.1 else p.2)) M):iOp (pl p) (.int k) M Q:=by
 rcases h with rfl|rfl
 ·exact pl0 (by simpa using q)
 ·exact pl1 (by simpa using q)
theorem Gg {α:Type} (xs:List α) (h:1<=xs.length):cutG xs (some (-1)) none=xs.drop (xs.length-1):=by
 unfold cutG;have e2:HT.sIx xs.length 0 (some (-1))=xs.length-1:=by
  show (if (-1:Int)<0 then ((-1:Int)+(xs.length:Int)).toNat else min (-1:Int).toNat xs.length)=_;rw[if_pos %[|4]];omega
 rw[HT.sIx_none,e2,List.take_of_length_le (by simp)]
theorem Gc {α:Type} (xs:List α) (h:1<=xs.length):cutG xs none (some 1)=xs.take 1:=by
 rw[show (1:Int)=((1:Nat):Int) from rfl,Jd _ _ h]
theorem JZ {α:Type} (xs:List α) (h:2<=xs.length):cutG xs (some 1) (some (-1))=mid xs:=by
 have:=Ge xs id h
 simpa using this
theorem AM {u:List (Rat×Rat)} {b a:Rat} {k:Nat} {M:Mem} {Q E:DK} (h2:2<=u.length) (h25:u.length<=25) (B:Box u k) (hk:k<=3000) (sb:Sz 14 b) (sa:Sz 14 a) (q:∀ M',MExt M M'->Q (tb (YJ u b a)) M'):S_63 [tb (cutG u (some 1) (some (-1))),nm b,nm a] M (fun y M2=>bAdd (tb (cutG u none (some 1))) y M2 fun x M1=>bAdd x (tb (cutG u (some (-1)) none)) M1 Q) E:=by
 refine⟨mid u,b,a,k,by rw[JZ u h2],fun p hp=>⟨B.lo p (J4 hp),B.hi p (J4 hp)⟩,hk,sb,sa,by rw[Xo];omega,fun M' x=>?_⟩;rw[Gc u %[|5],Gg u %[|5]];have m:=Xo u;have l1:=Zn (mid u) b a
 (try dsimp only)
 rw[DV,sizeLine_eq];refine⟨by rw[List.length_take];omega,?_⟩;rw[DV,sizeLine_eq];refine⟨by rw[List.length_append,List.length_take,List.length_drop];omega,?_⟩;have:=q M' x;unfold YJ at this;rw[List.append_assoc];exact this
theorem Je {t:List (Rat×Rat)} {k:Nat} {M:Mem} {Q E:DK} (G:Fine t k) (q:∀ (r:List Rat) M',Told t k r->MExt M M'->Q (rw r) M'):S_26 [tb t] M Q E:=⟨_,rfl,G.gd,.inr ⟨_,_,rfl,G,q⟩⟩
noncomputable def C_65:CSs:=%[.set 4 (.bin .Add (.bin .Add (.tup %[.bin .Mult (.tup %[.ix (.ix (.var 0) (.int 0)) (.ix (.var 1) (.int 0))|0]) (.int 2)|0]) (.sl (.var 0) (.some (.int 1)) (.some (.neg (.int 1))))) (.tup %[.bin .Mult (.tup %[.ix (.ix (.var 0) (.neg (.int 1))) (.ix (.var 1) (.int 1))|0]) (.int 2)|0])),.set 5 (.bin .Add (.bin .Add (.sl (.var 4) .none (.some (.int 1))) (.call "_law_wider" S_63 %[.sl (.var 4) (.some (.int 1)) (.some (.neg (.int 1))),.var 2,.var 3|0])) (.sl (.var 4) (.some (.neg (.int 1))) .none)),.set 6 (.call "_law_pairs" S_64 %[.call "cord" S_26 %[.var 4|0]|0]),.set 7 (.bin .Add (.bin .Add (.sl (.var 6) .none (.some (.int 1))) (.call "_law_wider" S_63 %[.sl (.var 6) (.some (.int 1)) (.some (.neg (.int 1))),.var 2,.var 3|0])) (.sl (.var 6) (.some (.neg (.int 1))) .none)),.ife (.or (.cmp .NotEq (.call "cord" S_26 %[.var 7|0]) (.call "_law_cord" S_62 %[.var 5|0])) (.one (.cmp .NotEq (.call "cord" S_26 %[.var 5|0]) (.call "_law_cord" S_62 %[.var 5|0])))) %[.ret (.bl false)|0] .nil,.set 5 (.call "_law_wider" S_63 %[.var 0,.var 2,.var 3|0]),.set 6 (.call "_law_pairs" S_64 %[.call "loose_cord" S_33 %[.var 0|0]|0]),.ife (.cmp .NotEq (.call "loose_cord" S_33 %[.call "_law_wider" S_63 %[.var 6,.var 2,.var 3|0]|0]) (.call "loose_cord" S_33 %[.var 5|0])) %[.ret (.bl false)|0] .nil,.ife (.cmp .Lt (.bi .len %[.var 0|0]) (.int 3)) %[.ret (.bl true)|0] .nil,.ret (.cmp .Eq (.call "ring_cord" S_36 %[.call "_law_wider" S_63 %[.call "_law_pairs" S_64 %[.call "ring_cord" S_36 %[.var 0|0]|0],.var 2,.var 3|0]|0]) (.call "ring_cord" S_36 %[.var 5|0]))|0]
theorem vc_65:∀ ds M R E,S_65 ds M R E->rSs C_65 (ends R E) (Y1 8 ds) M:=by
 rintro ds M R E ⟨t,e,f,b,a,rfl,he,hf,B,t2,t9,sb,sa,b0,a0,q⟩;unfold C_65;sleep 7;refine AQ (i:=0) %[|5] ?_;refine tix (Yf _ _) (GB he ?_);have c0:=X6 t (some 1) (some (-1));refine⟨by omega,?_⟩;refine Sq.ix (.inl rfl) (EU %[|5]) ?_;refine tix (Zv _ _ _) (GB hf ?_);refine⟨by omega,?_⟩;have s0:=B.sz (i:=0) %[|5];have s1:=B.sz (i:=t.length-1) %[|5];have sx:Sz 24 (if e=0 then (lo t 0,hi t 0).1 else (lo t 0,hi t 0).2):=by
  split
  ·exact s0.1
  ·exact s0.2
 have sy:Sz 24 (if f=0 then (lo t (t.length-1),hi t (t.length-1)).1 else (lo t (t.length-1),hi t (t.length-1)).2):=by
  split
  ·exact s1.1
  ·exact s1.2
 generalize (if e=0 then (lo t 0,hi t 0).1 else (lo t 0,hi t 0).2)=x at sx;generalize (if f=0 then (lo t (t.length-1),hi t (t.length-1)).1 else (lo t (t.length-1),hi t (t.length-1)).2)=y at sy;have G:=BA B t2 %[|5] sx sy %[|4];have tl:=Jo (f:=x) (l:=y) t2;rw[JZ t t2,ET];generalize tieT x y t=u at G tl;have ml:=Xo u;have ub:Box u 24:=by
  have fu:=G.tube;refine⟨fu.ok,fun p hp=>?_,fun p hp=>?_⟩<;>obtain⟨i,h,rfl⟩:=List.getElem_of_mem hp
  ·have:=G.slo i h
   simpa[lo,List.getD,h] using this
  ·have:=G.shi i h
   simpa[hi,List.getD,h] using this
 sleep 7;refine AM %[|5] %[|5] ub %[|4] sb sa fun M1 x1=>?_;have W1:=Uc %[|5] %[|5] G.tie ub sb sa b0 a0 %[|4];sleep 7;refine Je G fun r M2 T x2=>?_;have rl:=T.len;refine⟨r,rfl,by omega,fun M3 x3=>?_⟩;have pb:=VJ (k:=88) T.sz;have pl':=Zr r;have ptie:tied (YA r)=true:=by
  unfold tied;rw[(ZB %[|5]).1,(ZB %[|5]).2,(ZB %[|5]).1,(ZB %[|5]).2];simp
 have W2:=Uc %[|5] %[|5] ptie pb sb sa b0 a0 %[|4];sleep 7;refine AM %[|5] %[|5] pb %[|4] sb sa fun M4 x4=>?_;have X4:=x1.trans (x2.trans (x3.trans x4));refine Wf fun J hJ=>?_;have t1:∀ M' (d6 d7:Option DL.D) ,MExt M M'->J [some (tb t),some (D.tup [D.int e,D.int f]),some (nm b),some (nm a),some (tb u),some (tb (YJ u b a)),d6,d7] M':=by
  intro M' d6 d7 xm;refine hJ _ _ ?_;sleep 7;refine⟨t,b,a,24,rfl,fun p hp=>⟨B.lo p hp,B.hi p hp⟩,by decide,sb,sa,by omega,fun M5 x5=>?_⟩;have LT:Loo t 24:=⟨⟨t2,by omega,B.ok⟩,B,by decide⟩;have BW:=UJ B sb sa b0 a0;have wl:=Zn t b a;have LW:Loo (widT t b a) 39:=⟨⟨by omega,by omega,BW.ok⟩,BW,by decide⟩;sleep 7;refine⟨t,24,rfl,LT,fun r5 M6 C x6=>?_⟩;have cl:=C.len;refine⟨r5,rfl,by omega,fun M7 x7=>?_⟩;have pb5:=VJ (k:=88) C.sz;have pl5:=Zr r5;have BV:=UJ pb5 sb sa b0 a0;have vl:=Zn (YA r5) b a;have LV:Loo (widT (YA r5) b a) 103:=⟨⟨by omega,by omega,BV.ok⟩,BV,by decide⟩;have X7:=xm.trans (x5.trans (x6.trans x7));refine Wf fun J hJ=>?_;have t3:∀ M' d6 d7,MExt M M'->J [some (tb t),some (D.tup [D.int e,D.int f]),some (nm b),some (nm a),some (tb u),some (tb (widT t b a)),d6,d7] M':=by
   intro M' d6 d7 xm;refine hJ _ _ ?_;refine Wf fun J hJ=>?_;have t4:3<=t.length->J [some (tb t),some (D.tup [D.int e,D.int f]),some (nm b),some (nm a),some (tb u),some (tb (widT t b a)),d6,d7] M':=by
    intro t3;have RT:Ring t 24:=⟨t3,by omega,B,by decide⟩;have RW:Ring (widT t b a) 39:=⟨by omega,by omega,BW,by decide⟩;refine hJ _ _ ?_;sleep 7;refine⟨t,24,rfl,RT,fun r8 M8 I x8=>?_⟩;have I':=RingIs.rt I t3 RT.ok;have il:=I'.len;refine⟨r8,rfl,by omega,fun M9 x9=>?_⟩;have pb8:=VJ (k:=88) I'.sz;have pl8:=Zr r8;have BV8:=UJ pb8 sb sa b0 a0;have vl8:=Zn (YA r8) b a;have RV:Ring (widT (YA r8) b a) 103:=⟨by omega,by omega,BV8,by decide⟩;refine⟨YA r8,b,a,88,rfl,fun p hp=>⟨pb8.lo p hp,pb8.hi p hp⟩,by decide,sb,sa,by omega,fun M10 x10=>?_⟩;refine⟨_,103,rfl,RV,fun v M11 V x11=>?_⟩;refine⟨_,39,rfl,RW,fun w M12 W x12=>?_⟩;have e8:=Ah t3 b0 a0 RT.ok I V W;refine WA false ?_;simp[e8];exact q M12 (xm.trans (x8.trans (x9.trans (x10.trans (x11.trans x12)))))
   sleep 8;by_cases c3:t.length<3
   ·have c3':(t.length:Int)<3:=by omega
    simp[c3'];exact q M' xm
   ·have c3':¬ (t.length:Int)<3:=by omega
    simp[c3'];exact t4 %[|5]
  sleep 8;refine⟨YA r5,b,a,88,rfl,fun p hp=>⟨pb5.lo p hp,pb5.hi p hp⟩,by decide,sb,sa,by omega,fun M8 x8=>?_⟩;refine⟨_,103,rfl,LV,fun v M9 V x9=>?_⟩;refine⟨_,39,rfl,LW,fun w M10 W x10=>?_⟩;have e8:=JG t2 b0 a0 C V W;refine WA true ?_;simp[e8];exact t3 M10 _ _ (X7.trans (x8.trans (x9.trans x10)))
 sleep 8;refine Je W2 fun v M5 V x5=>?_;refine⟨_,_,rfl,W1,by decide,fun w M6 W x6=>?_⟩;have ew:=AG %[|5] G.tie b0 a0 T V W;refine WA true ?_;simp[ew];refine Je W1 fun v2 M7 V2 x7=>?_;refine⟨_,_,rfl,W1,by decide,fun w2 M8 W2' x8=>?_⟩;have l3:=Wn (t:=u) (b:=b) (a:=a) %[|5];have ew2:=V2.unique W2' %[|5];refine WA true ?_;simp[ew2];exact t1 M8 _ _ (X4.trans (x5.trans (x6.trans (x7.trans x8))))
theorem AH {α:Type} {n:Nat} {ti:DI} {g:DG} {tt:DT} {te:DE} {δ:DSt} {M:Mem} {Q:DK}
  (h:∀ K:List DL.D->(Mem->Prop)->Mem->Prop,(∀ (M1:Mem) (keep:Mem->Prop) (xs:List α) (e f:α->DL.D) (P:α->Bool),(∀ M',MExt M1 M'->keep M')->xs.length<=1000 ->
   (∀ x∈xs,∀ l M' (N:DSt->Mem->Prop),l.length=n->MExt M1 M'->(∀ l' ,l'.length=n->(∀ Qt:Bool->Mem->Prop,Qt (P x) M'->tt (δ++l') M' Qt)->(∀ Qe:DK,Qe (f x) M'->te (δ++l') M' Qe)->N (δ++l') M')->g (e x) (δ++l) M' N) ->
   (∀ p M',M1 p=none->MExt M1 M'->M' p=some (.ls ((xs.filter P).map f))->Q (.lst p) M')->K (xs.map e) keep M1)->ti δ M K):XN n ti g (bIf tt (XR te)) δ M Q:=by
 refine h _ fun M keep xs e f P hk hlen hel hq p hp=>⟨hk _ (.new hp),?_⟩;refine VR (fun i δ' M'=>(∃ l,l.length=n/\δ'=δ++l)/\MExt M M'/\M' p=some (.ls (((xs.take i).filter P).map f))) (fun _ _ _ h=>hk _ h.2.1) ?_ ?_ ⟨⟨_,by simp,rfl⟩,.new hp,mupd_same⟩
 ·rintro δ' M' ⟨_,x,l⟩
  rw[List.length_map,List.take_length] at l;exact⟨⟨_,l⟩,hq p M' hp x l⟩
 ·rintro i y hy N hN δ' M' ⟨⟨w,hw,rfl⟩,x,l⟩
  obtain⟨hi,rfl⟩:∃ hi:i<xs.length,y=e xs[i]:=by
   obtain⟨h,e⟩:=List.getElem?_eq_some_iff.mp hy;have h':i<xs.length:=by simpa using h
   exact⟨h',by rw[<- e];simp⟩
  have hm:=List.getElem_mem hi;have tk:(xs.take (i+1)).filter P=(xs.take i).filter P++[xs[i]].filter P:=by rw[List.take_succ_eq_append_getElem hi,List.filter_append]
  have fl:((xs.take i).filter P).length<=1000:=Nat.le_trans (List.length_filter_le _ _) (by rw[List.length_take];omega);generalize xs[i]=v at hm tk;refine hel v hm w M' _ hw x fun l' hl' htt hte=>?_;unfold bIf;refine htt _ ?_;cases hp':P v with
  | true =>
   rw[if_pos rfl];unfold XR;refine hte _ ⟨_,l,by rw[List.length_map,sizeLine_eq];omega,?_⟩;refine hN _ _ ⟨⟨_,hl',rfl⟩,MExt.upd_new hp x,?_⟩;rw[mupd_same,tk];simp[hp']
  | false =>
   rw[if_neg %[|4]];refine hN _ _ ⟨⟨_,hl',rfl⟩,x,?_⟩;rw[l,tk];simp[hp']
noncomputable def LW:Nat:=321253732800
noncomputable def BW49:Nat:=562949953421312
theorem TautOf.steps_gr {s x:List Rat} {b a:Rat} (dt:Dt s) (gb:Gr 60 14400 b) (ga:Gr 60 14400 a) (b0:0<=b) (a0:0<=a) (X:TautOf s b a x):∀ v∈x,Gr LW BW49 v:=by
 have one:=dt.one;have most:=dt.most;have xl:=X.len;have T:=Wo one b0 a0 X;have at_:∀ k,k<=s.length->Gr 60 43200 (lo (Yb s b a) k)/\Gr 60 43200 (hi (Yb s b a) k):=fun k hk=>by
  have g:=dt.sum hk;unfold lo hi;rw[Z4 hk];unfold YT;split
  ·exact⟨.zero,.zero⟩
  ·split
   ·exact⟨g.mono %[|4],g.mono %[|4]⟩
   ·exact⟨(g.sub %[|4] gb).mono %[|4],(g.add %[|4] ga).mono %[|4]⟩
 have E:=J6 (s:=s) (b:=b) (a:=a) one;have h0:ri (Y4 0 x) 0=lo (Yb s b a) 0:=by rw[Yd,Ya,E.1]
 have hn:ri (Y4 0 x) s.length=lo (Yb s b a) s.length:=by rw[Yd,X.fin,E.2.2.1]
 intro v hv;obtain⟨i,hi',rfl⟩:=List.getElem_of_mem hv;have e:x[i]=ri x i:=by simp[ri,List.getD,hi']
 rw[e,<- Zz hi',<- Yd,<- Yd];obtain⟨p,p1,p2,p3⟩:=Ue T h0 i %[|5];obtain⟨q,q1,q2,q3,q4⟩:=Vx T hn _ i rfl %[|5];have gt:∀ k,k<=s.length->(ri (Y4 0 x) k=lo (Yb s b a) k\/ri (Y4 0 x) k=hi (Yb s b a) k)->Gr 60 43200 (ri (Y4 0 x) k):=fun k hk h=>by
  rcases h with h|h<;>rw[h]
  ·exact (at_ k hk).1
  ·exact (at_ k hk).2
 have rp:=gt p %[|5] p2;have rq:=gt q q2 q3;have rI:=p3 i p1 %[|5];clear p2 q3 p3 gt at_ h0 hn T e;generalize ri (Y4 0 x)=r at *;have d0:(0:Rat)<((q-p:Nat):Rat):=by exact_mod_cast (by omega:0<q-p)
 have es:r q-r p=((q-p:Nat):Rat)*(r (i+1)-r i):=by
  rw[q4,rI,show q-p=(q-i)+(i-p) by omega];have:((q-i+(i-p):Nat):Rat)=((q-i:Nat):Rat)+((i-p:Nat):Rat):=by push_cast;rfl
  rw[this];grind
 have s':r (i+1)-r i=(r q-r p) / ((q-p:Nat):Rat):=by
  rw[es,Rat.mul_comm,Rat.mul_div_cancel (by grind)]
 rw[s'];exact ((rq.sub %[|4] rp).div (W:=5354228880) (d:=q-p) %[|5] (GQ ⟨q-p,by omega⟩ (by show 0<q-p;omega)) %[|4] %[|4]).mono %[|4]
theorem Dt.fit {s:List Rat} {b a:Rat} (dt:Dt s) (gb:Gr 60 14400 b) (ga:Gr 60 14400 a) (b0:0<=b) (a0:0<=a):Fit s b a 20 :=
 ⟨fun x hx=>(dt.gs x hx).sz %[|4] %[|4] %[|4],gb.sz %[|4] %[|4] %[|4],ga.sz %[|4] %[|4] %[|4],by decide,dt.one,dt.most,b0,a0⟩
theorem Ee {s:List Rat} {b a:Rat} (g:∀ x∈s,Gr LW BW49 x) (h1:1<=s.length) (h24:s.length<=24) (gb:Gr 60 14400 b) (ga:Gr 60 14400 a) (b0:0<=b) (a0:0<=a):Fit s b a 50 :=
 ⟨fun x hx=>(g x hx).sz %[|4] %[|4] %[|4],gb.sz %[|4] %[|4] %[|4],ga.sz %[|4] %[|4] %[|4],by decide,h1,h24,b0,a0⟩
theorem WI {s:List Rat} {p:Rat} {k:Nat} {M:Mem} {Q E:DK} (F:Fit s p p k) (q:∀ x M',TautOf s p p x->MExt M M'->Q (rw x) M'):S_30 [rw s,nm p] M Q E :=
 ⟨rw s,nm p,rfl,JQ F.sz (by have:=F.few;omega),gnm F.sa (by have:=F.few;omega),.inr (.inr ⟨s,p,k,rfl,rfl,F,fun r M' T x=>q _ M' (UN F.one T).1 x⟩)⟩
theorem WW {s:List Rat} {p:Rat} {k:Nat} {M:Mem} {Q E:DK} (F:Fit s 0 p k) (N:Needs s) (q:∀ x M',TautOf s 0 p x->MExt M M'->Q (rw x) M'):S_47 [rw s,nm p] M Q E :=
 ⟨rw s,nm p,rfl,JQ F.sz (by have:=F.few;omega),gnm F.sa (by have:=F.few;omega),.inr (.inr ⟨s,p,k,rfl,rfl,N,F,fun r M' T x=>q _ M' (UN F.one T).1 x⟩)⟩
theorem Em {s:List Rat} {b a:Rat} {M:Mem} {Q E:DK} (dt:Dt s) (gb:Gr 60 14400 b) (ga:Gr 60 14400 a) (b0:0<=b) (a0:0<=a) (q:∀ x M',TautOf s b a x->MExt M M'->Q (rw x) M'):S_66 [rw s,nm b,nm a] M (fun y M2=>S_62 [y] M2 (fun y M2=>S_59 [y] M2 Q E) E) E:=by
 have one:=dt.one;have most:=dt.most;refine⟨s,b,a,rfl,dt,gb.sz %[|4] %[|4] %[|4],ga.sz %[|4] %[|4] %[|4],fun M1 x1=>?_⟩;refine⟨_,_,rfl,(dt.fit gb ga b0 a0).fine,by decide,fun r M2 T x2=>?_⟩;have tl:=T.len;rw[Yz] at tl;refine⟨r,_,rfl,T.sz,by decide,by omega,by omega,fun M3 x3=>?_⟩;exact q _ M3 (UN one T).1 (x1.trans (x2.trans x3))
noncomputable def S_67:DSp:=fun ds M Q E=>∃ (s:List Rat) (p q:Rat),ds=[rw s,nm p,nm q]/\Dt s/\Gr 60 7200 p/\Gr 60 7200 q/\0<=p/\0<=q/\∀ M',MExt M M'->Q (.bl true) M'
noncomputable def C_67:CSs:=%[.set 3 (.call "smoothed" S_30 %[.var 0,.var 1|0]),.set 4 (.call "_law_more" S_52 %[.var 1,.var 2|0]),.set 5 (.call "_law_steps" S_59 %[.call "_law_cord" S_62 %[.call "_law_sums" S_66 %[.var 0,.var 4,.var 4|0]|0]|0]),.ife (.or (.cmp .NotEq (.call "smoothed" S_30 %[.var 3,.var 2|0]) (.var 5)) (.one (.cmp .NotEq (.call "smoothed" S_30 %[.var 0,.var 4|0]) (.var 5)))) %[.ret (.bl false)|0] .nil,.set 6 (.compI ["_law_data","_law_first","_law_second","_law_row","_law_both","_law_due","_law_beyond","_law_told","_law_price","_law_some_here"] 2 (.tup %[.name 8,.name 9|0]) (.seq (.call "stair" S_41 %[.var 0|0])) (.call "_law_under" S_55 %[.var 1,.var 8|0]) (.tup %[.call "_law_less_by" S_53 %[.var 8,.var 1|0],.var 9|0])),.set 7 (.call "stair" S_41 %[.var 3|0]),.ret (.and (.cmp .Eq (.var 7) (.bi .tuple %[.bin .Add (.lst %[.tup %[.tup %[.int 0,.int 1|0],.var 3|0]|0]) (.var 6)|0])) (.one (.cmp .Eq (.call "at_price" S_43 %[.var 7,.var 2|0]) (.var 5))))|0]
theorem vc_67:∀ ds M R E,S_67 ds M R E->rSs C_67 (ends R E) (Y1 8 ds) M:=by
 rintro ds M R E ⟨s,p,q,rfl,dt,gp,gq,p0,q0,k⟩;have one:=dt.one;have most:=dt.most;have hp:=gp.mono (show 7200<=14400 by decide);have hq:=gq.mono (show 7200<=14400 by decide);have hpq:Gr 60 14400 (p+q):=(gp.add %[|4] gq).mono %[|4];have pq0:0<=p+q:=by grind
 have sp':Sz 14 p:=gp.sz %[|4] %[|4] %[|4];have sq':Sz 14 q:=gq.sz %[|4] %[|4] %[|4];unfold C_67;sleep 7;refine WI (dt.fit hp hp p0 p0) fun row M1 X x1=>?_;have xl:=X.len;have xg:=X.steps_gr dt hp hp p0 p0;sleep 7;refine⟨_,_,rfl,.mk sp' sq' %[|4],?_⟩;sleep 7;refine Em dt hpq hpq pq0 pq0 fun due M2 Y x2=>?_;refine Wf fun J hJ=>?_;have t1:∀ M',MExt M M'->J [some (rw s),some (nm p),some (nm q),some (rw row),some (nm (p+q)),some (rw due),none,none] M':=by
  intro M3 x3;refine hJ _ _ ?_;sleep 7;refine AH (α:=Rat×List Rat) fun K hK=>?_;sleep 8;refine⟨rw s,rfl,JQ (k:=20) (fun x hx=>(dt.gs x hx).sz %[|4] %[|4] %[|4]) %[|4],.inr ⟨s,rfl,one,most,fun x hx=>(((dt.gs x hx).up (W:=5354228880) %[|4] %[|4]).mono (show _<=BX by decide):Gr 321253732800 BX x),fun ts M4 T hl x4=>?_⟩⟩;have S:=T.stair one most hl;have sz:=T.szn;rw[AT];generalize rows ts=us at S sz;clear T hl ts;have sl:=S.len;have szu:∀ v∈us,Sz 914 v.1:=fun v hv=>(sz v hv).1.mono %[|5];refine hK M4 _ us sp (fun u=>sp (WQ p u)) (fun u=>decide (p<u.1)) (fun _ _=>trivial) %[|5] ?_ ?_
  ·intro u hu l M' N' hl' ex r'
   obtain⟨u1,u2,rfl⟩:=len2 hl';have su:=szu u hu;rw[show sp u=.tup [nm u.1,rw u.2] from rfl];sleep 8;refine r' [_,_] rfl (fun Qt z=>?_) fun Qe z=>?_
   ·sleep 8
    exact⟨_,_,rfl,.mk sp' su %[|4],by simpa using z⟩
   ·sleep 8
    exact⟨_,_,rfl,.mk su sp' %[|4],z⟩
  intro p5 M5 e5 x5 l5;sleep 7;refine⟨rw row,rfl,JQ (k:=50) (fun x hx=>(xg x hx).sz %[|4] %[|4] %[|4]) %[|4],.inr ⟨row,rfl,by omega,by omega,fun x hx=>(xg x hx:Gr 321253732800 562949953421312 x),fun ts M6 T hl x6=>?_⟩⟩;have S':=T.stair %[|5] %[|5] hl;have sz':=T.szn;rw[AT];generalize rows ts=vs at S' sz';clear T hl ts;have ev:=S'.unique %[|5] (S.again one p0 X S');have sl':=S'.len;have l6:=x6 _ _ l5;sleep 7;intro p7 M7 e7 x7 l7;have fl:((us.filter fun u=>decide (p<u.1)).map fun u=>sp (WQ p u)).length<=us.length:=by rw[List.length_map];exact List.length_filter_le _ _
  refine⟨_,l7,_,x7 _ _ l6,by simp only[List.length_singleton];omega,?_⟩;intro p8 M8 e8 x8 l8;refine⟨_,l8,?_⟩;have ee:D.tup ([D.tup [D.tup [D.int 0,D.int 1],rw row]]++(us.filter fun u=>decide (p<u.1)).map fun u=>sp (WQ p u))=.tup (vs.map sp):=by
   rw[ev];unfold Ji;rw[List.map_cons,List.map_map]
   rfl
  rw[ee];refine HZ false ?_;simp;have X8:=x3.trans (x4.trans (x5.trans (x6.trans (x7.trans x8))));clear ev ee;obtain⟨v,vs,rfl⟩:∃ v vs',vs=v::vs':=by
   cases vs with
   | nil=>have:=S'.first;cases this
   | cons v vs=>exact⟨v,vs,rfl⟩
  simp only[List.length_cons] at sl';have szv:∀ u∈v::vs,SzU u:=fun u hu=>⟨(sz' u hu).1.mono %[|5],by have:=(sz' u hu).2.1;omega,fun x hx=>((sz' u hu).2.2 x hx).mono %[|5]⟩;obtain⟨Z,hv0⟩:=S'.whole q0;refine⟨v,vs,nm q,rfl,gnm sq',.inr ⟨q,rfl,q0,sq'.mono %[|4],by rw[hv0];exact Rat.le_refl,szv v List.mem_cons_self,fun u hu=>szv u (List.mem_cons_of_mem _ hu),by omega,fun M9 x9=>?_⟩⟩;have ez:=TautOf.one one pq0 (X.twice q0 q0 Z) Y;refine WA false ?_;simp[ez];exact k M9 (X8.trans x9)
 sleep 8;refine WI (Ee xg %[|5] %[|5] hq hq q0 q0) fun z M3 Z x3=>?_;have ez:z=due:=TautOf.one one pq0 (X.twice q0 q0 Z) Y;refine WA true ?_;simp[ez];refine WI (dt.fit hpq hpq pq0 pq0) fun z' M4 Z' x4=>?_;have ez':z'=due:=TautOf.one one pq0 Z' Y;refine WA true ?_;simp[ez'];exact t1 M4 (x1.trans (x2.trans (x3.trans x4)))
noncomputable def S_68:DSp:=fun ds M Q E=>∃ (s:List Rat) (p q:Rat),ds=[rw s,nm p,nm q]/\Dt s/\Needs s/\Gr 60 7200 p/\Gr 60 7200 q/\0<=p/\0<=q/\∀ M',MExt M M'->Q (.bl true) M'
noncomputable def C_68:CSs:=%[.set 3 (.call "bought" S_47 %[.var 0,.var 1|0]),.set 4 (.call "_law_more" S_52 %[.var 1,.var 2|0]),.set 5 (.call "_law_steps" S_59 %[.call "_law_cord" S_62 %[.call "_law_sums" S_66 %[.var 0,.tup %[.int 0,.int 1|0],.var 4|0]|0]|0]),.ret (.and (.cmp .Eq (.call "bought" S_47 %[.var 3,.var 2|0]) (.var 5)) (.one (.cmp .Eq (.call "bought" S_47 %[.var 0,.var 4|0]) (.var 5))))|0]
theorem vc_68:∀ ds M R E,S_68 ds M R E->rSs C_68 (ends R E) (Y1 6 ds) M:=by
 rintro ds M R E ⟨s,p,q,rfl,dt,N,gp,gq,p0,q0,k⟩;have one:=dt.one;have most:=dt.most;have hp:=gp.mono (show 7200<=14400 by decide);have hq:=gq.mono (show 7200<=14400 by decide);have hpq:Gr 60 14400 (p+q):=(gp.add %[|4] gq).mono %[|4];have pq0:0<=p+q:=by grind
 have sp':Sz 14 p:=gp.sz %[|4] %[|4] %[|4];have sq':Sz 14 q:=gq.sz %[|4] %[|4] %[|4];have z0:(0:Rat)<=0:=Rat.le_refl;unfold C_68;sleep 7;refine WW (dt.fit .zero hp z0 p0) N fun row M1 X x1=>?_;have xl:=X.len;have xg:=X.steps_gr dt .zero hp z0 p0;sleep 7;refine⟨_,_,rfl,.mk sp' sq' %[|4],?_⟩;sleep 7;rw[UZ];refine Em dt .zero hpq z0 pq0 fun due M2 Y x2=>?_;sleep 7;refine WW (Ee xg %[|5] %[|5] .zero hq z0 q0) (X.needs N) fun z M3 Z x3=>?_;have ez:z=due:=by
  have:=X.twice z0 q0 Z;rw[show (0:Rat)+0=0 by grind] at this;exact TautOf.uniq one z0 pq0 this Y
 refine WA false ?_;simp[ez];refine WW (dt.fit .zero hpq z0 pq0) N fun z' M4 Z' x4=>?_;have ez':z'=due:=TautOf.uniq one z0 pq0 Z' Y;refine WA false ?_;simp[ez'];exact k M4 (x1.trans (x2.trans (x3.trans x4)))
noncomputable def C_71:CSs:=%[.fr (.name 1) (.rng %[.int 0,.bi .max %[.int 1,.bi .min %[.bi .len %[.var 0|0],.int 12|0]|0],.int 4|0]) %[.par 2 3 (.call "_law_pack" S_49 %[.var 0,.var 1|0]) (.call "_law_pack" S_49 %[.var 0,.bin .Add (.var 1) (.int 2)|0]),.par 4 5 (.call "_law_amount" S_70 %[.var 2|0]) (.call "_law_amount" S_70 %[.var 2|0]),.set 6 (.tup %[.call "_law_take" S_50 %[.var 2,.int 2|0],.call "_law_take" S_50 %[.var 2,.int 2|0]|0]),.ife (.not (.call "_law_tubes_right" S_65 %[.call "_law_walk" S_57 %[.var 2,.bin .Add (.int 2) (.call "_law_take" S_50 %[.var 2,.int 8|0]),.int 6|0],.var 6,.var 4,.var 5|0])) %[.ret (.bl false)|0] .nil,.par 4 5 (.call "_law_amount" S_70 %[.var 2|0]) (.call "_law_amount" S_70 %[.var 3|0]),.ife (.not (.call "_law_data_right" S_67 %[.call "_law_some" S_69 %[.var 2,.bl false,.cmp .Eq (.var 1) (.int 0)|0],.var 4,.var 5|0])) %[.ret (.bl false)|0] .nil,.ife (.not (.call "_law_needs_right" S_68 %[.call "_law_some" S_69 %[.var 3,.bl true,.cmp .Eq (.var 1) (.int 0)|0],.var 4,.var 5|0])) %[.ret (.bl false)|0] .nil|0],.ret (.bl true)|0]
theorem vc_71:∀ ds M R E,SLaw ds M R E->rSs C_71 (ends R E) (Y1 7 ds) M:=by
 rintro ds M R E ⟨ns,rfl,hs,h⟩;unfold C_71;sleep 9;obtain⟨z,hz,hc,e⟩:=FD 12 ns.length %[|4] %[|4];rw[e];obtain⟨r1,r2,r3⟩:=Ag z %[|5];refine⟨XJ %[|4] (WO %[|4]),r1,r2,?_⟩;refine JT (fun δ M'=>∃ w1 w2 w3 w4 w5 w6,δ=[some (.fz (ns.map .int)),w1,w2,w3,w4,w5,w6]) (fun _ _ _=>trivial) ?_ ?_ ⟨_,_,_,_,_,_,rfl⟩
 ·rintro δ M' ⟨w1,w2,w3,w4,w5,w6,rfl⟩
  sleep 7;exact h M'
 ·rintro x hx N hN δ M0 ⟨w1,w2,w3,w4,w5,w6,rfl⟩
  obtain⟨i,hI,rfl⟩:=List.mem_map.mp hx;have hi2:=List.mem_range.mp hI;sleep 8;sleep 7;refine⟨ns,_,rfl,hs,by omega,by omega,fun v a M1 e1 x1 l1=>?_⟩;refine⟨ns,_,rfl,hs,by omega,by omega,fun v' b M2 e2 x2 l2=>?_⟩;have ne:a≠b:=fun z=>by rw[<- z,l1] at e2;cases e2
  have pa:Pk M2 a:=⟨v,x2 _ _ l1⟩;have kb:∀ {M M':Mem},Pk M b->Dr a M M'->Pk M' b:=fun ⟨v,h⟩ y=>⟨v,y.keep _ _ ne.symm h⟩;have ka:∀ {M M':Mem},Pk M a->Dr b M M'->Pk M' a:=fun ⟨v,h⟩ y=>⟨v,y.keep _ _ ne h⟩;sleep 7;refine⟨a,rfl,pa,fun p M3 gp p0 y3=>?_⟩;refine⟨a,rfl,y3.pk,fun q M4 gq q0 y4=>?_⟩;sleep 7;refine YK y4.pk %[|4] %[|4] fun e' M5 e0 e1' y5=>?_;refine YK y5.pk %[|4] %[|4] fun f' M6 f0 f1 y6=>?_;sleep 7;refine YK y6.pk %[|4] %[|4] fun n M7 n0 n1 y7=>?_;rw[J8];refine⟨a,2+n,6,rfl,y7.pk,by omega,by omega,by decide,by decide,fun t M8 tl B y8=>?_⟩;refine⟨t,e',f',p,q,rfl,by omega,by omega,B,by omega,by omega,gp.sz %[|4] %[|4] %[|4],gq.sz %[|4] %[|4] %[|4],p0,q0,fun M9 x9=>?_⟩;simp;have b9:=(kb ⟨v',l2⟩ (y3.trans (y4.trans (y5.trans (y6.trans (y7.trans y8)))))).ext x9;have a9:=y8.pk.ext x9;sleep 7;refine⟨a,rfl,a9,fun p' M10 gp' p0' y10=>?_⟩
  refine⟨b,rfl,kb b9 y10,fun q' M11 gq' q0' y11=>?_⟩;sleep 7;refine ZP false ?_;refine⟨a,false,_,rfl,ka y10.pk y11,fun s M12 dt _ y12=>?_⟩;refine⟨s,p',q',rfl,dt,gp',gq',p0',q0',fun M13 x13=>?_⟩;simp;have b13:=(kb y11.pk y12).ext x13;sleep 7;refine ZP false ?_;refine⟨b,true,_,rfl,b13,fun s' M14 dt' N' y14=>?_⟩;refine⟨s',p',q',rfl,dt',N' rfl,gp',gq',p0',q0',fun M15 x15=>?_⟩;simp;exact hN _ _ ⟨_,_,_,_,_,_,rfl⟩
end K
end
namespace PySem.W.Fast
set_option bootstrap.genMatcherCode true
local macro_rules | `(command| universe $xs*)=>do
  let cs<-xs.mapM fun x=>`(command| theorem $x :True:=⟨⟩)
  return Lean.mkNullNode cs
set_option bootstrap.genMatcherCode false
universe tw451241399012509791 tw3137702436695470422 tw6754941995581208205 tw10422268616829771240 tw15851518542934262079 tw2807538136690130435 tw3249736618415876379 tw2255322722919483224 tw6411705837480145821 tw683718668160218159 tw11725817773785047788 tw9480237350004896728 tw13538171318064002991 tw11233288029974418884 tw4130968948494980179 tw13739632442900364925 tw2397309099519480219 tw15840486451576562710 tw333473904854204461 tw2907383255990334364 tw16022914684987816065 tw14293290234697067897 tw1082148936194253856 tw12318999585229895413 tw9569996251645840458 tw16487901678286460323 tw5699589649941801914 tw2424525940011363460 tw14558512817415801851 tw7666433338109465566 tw13439338785220798548 tw5093855307175601670 tw14733036726303889163 tw4547557364080549812 tw15865242731561557428 tw11503471227797022933 tw3994397651504972911 tw11974880876637302442 tw8052861799760959938 tw15476897108847826992
universe tw6340832066115362131 tw8874904409521434884 tw18051434065914516468 tw6430689765313976377 tw13896748565011477110 tw7077730600305646090 tw3905200659495120927 tw17987072047283662329 tw5327913661419773006 tw5170324391211773150 tw9033906430022906897 tw13874819045038111871 tw8193038384317678764 tw17342496183023076947 tw8546028194570798084 tw11480041963132469330 tw888538877703156205 tw15945262107660102243 tw18333512129655445044 tw11356000614802539149 tw14582748728230655986 tw3014802913667136537 tw2926552161661001928 tw16904463903165453726 tw6742665177358448983 tw7983565879492154277 tw15325137954153668133 tw1153888046716114400 tw1685603323340228784 tw28860649106861658 tw11326179352493225347 tw14176564105902015055 tw17166114660142956881 tw11225099000175969179 tw3522887724614358500 tw10729244833824517626 tw817968052502112966 tw11549201690713812749 tw12026476899464689562 tw6800763314018606687
universe tw8962965296888933098 tw17659114579493319402 tw8339804694925869458 tw15818952835156039545 tw10388907932339642971 tw14154755652129265683 tw14154174600171313097 tw15831192799796963008 tw12973403978582533023 tw2100463282351384829 tw3942913127751153189 tw15738123546693838093 tw1017115081134252239 tw4438596387103822294 tw12835221529825663446 tw16048224815520514373 tw14469890688516689586 tw14071646951396739461 tw15205018483171511148 tw6287072230232192370 tw12731561703678371150 tw14259553690580462285 tw13563562664460325727 tw14222058698341228948 tw4853844505312693330 tw2106982595992311783 tw15337164121862050370 tw6858614941078383371 tw4417223838362721536 tw17186005298837659472 tw6962620529271923330 tw12221003052830111711 tw8629908724182677411 tw12520086803382089604 tw10402519562806331076 tw2485753294906430684 tw15958448218530082635 tw10778784585412571882 tw3394548654831842575 tw16095211141202344167
universe tw14540381516908951165 tw2263026794254235341 tw10942639925817259690 tw2883149617716836382 tw14490569588669795435 tw5578733872586353943 tw7743995415198869552 tw7689293320481318693 tw5567325597629603625 tw17640664536533199447 tw6536356120440768083 tw18309178266050580220 tw172111183127289269 tw16249476163749051831 tw5905958664650055063 tw16559823515785419722 tw519046233692594701 tw13384117357301469868 tw6693717185214068057 tw876196071272325997 tw15726476202761547590 tw651829429515898555 tw17664741972303692031 tw6354829554026656893 tw8789012412489936108 tw9992785389616737295 tw5004746711598162624 tw3786823462138000521 tw2063928230099904887 tw14887116972360810316 tw7899320205893767363 tw12330993002880273442 tw1183379802847038216 tw8539551025237000477 tw12171423108548621531 tw14968637402359535928 tw773918034390959769 tw3682219866788326394 tw742842564592765346 tw17635989529627085904
universe tw7916088557423158269 tw11638440379349999006 tw10293151317892754954 tw6293737015207923899 tw7614393267156704772 tw16253078535749658181 tw6659947529173791311 tw3594685932039174622 tw519561292402438670 tw4988822872640212322 tw16267203559537880164 tw1720949018087421650 tw18032654086292697121 tw8176291151959120842 tw5734367231059190200 tw4444428358822461249 tw15007558795933741635 tw652272936668450338 tw8731336089722640450 tw7211318498839349816 tw9203485521002499991 tw4320497992474408594 tw16568025124611705469 tw15573049361024689847 tw6201196546312380904 tw3281776709887581267 tw2984961429191426969 tw11270573310770363777 tw6926066736193553408 tw1485934923528634971 tw808644672041576349 tw64730700919989226 tw17573728417800419619 tw15430046673630722603 tw9256214569532414276 tw10887859123347316131 tw12143874146240512799 tw16139190233059567165 tw11704834033913554145 tw17764563814841384723
universe tw17236740124237367209 tw10897342424511219763 tw18179299150563121324 tw10156096441641186277 tw17182304328077864839 tw5619019616418429929 tw7209329707492995632 tw10954323016820587449 tw9099952690754457840 tw9045170752082858305 tw16615748373554892257 tw17715217976440137080 tw13115247460598680143 tw13542488458413717874 tw6827865986716177931 tw6594819952822610676 tw18390453240142026055 tw10525600035444729447 tw2669915449402797684 tw17159496030976369428 tw15931365524051706820 tw8136195908498924693 tw16854085299818149927 tw16468936751506581434 tw2673732625601593362 tw14902767778361524174 tw9430799287793895924 tw11399182794324761799 tw1429014044595275669 tw8280456896776879019 tw13916008667501047813 tw15777256705803091690 tw7205940579053787487 tw12859945770206082711 tw187836816246202359 tw9385853109610490131 tw8435334418096306158 tw17802007020054993116 tw12356873511722183823 tw9937842440719667194
universe tw1373721898719421972 tw13358217832388655888 tw3123784547880405843 tw9267372021679718964 tw12324938893604991247 tw14998018848387369308 tw16625339221483040316 tw10522099837826154995 tw9373087420338603480 tw12750462532192669334 tw12989745561186166318 tw12431110096040624983 tw18359771365587192459 tw14411753342479103832 tw3481498705134686202 tw828418787329202143 tw9247950269850495633 tw11572619740280689842 tw3929081341808405120 tw12488809714806412467 tw5699174973191074665 tw11116417601011669442 tw1679357961329870002 tw8940362690786629409 tw1420275815917540449 tw12844394472196333583 tw16569382070798525528 tw813520529642607129 tw2371951813629099079 tw10837890038487188414 tw5279394948166480553 tw16810328273355204486 tw13991346228996000554 tw7209458371254121211 tw9697656983756053758 tw14165492241819434723 tw18404053067919010501 tw13082749722424263486 tw17136184694042953474 tw12781491217718564343
universe tw11273373697051807560 tw777096451819055290 tw5047755210749480423 tw13665588747967431897 tw17015964814288383181 tw18020874240278141324 tw17826881696400527038 tw523024785068283331 tw13756558907912898878 tw3250327418723841141 tw10962285950728614193 tw1116639126030547686 tw11231742122631848324 tw2051461539710610699 tw6003406063941688844 tw13402461117321436822 tw7812338775483131569 tw6597217842622961119 tw13557568110714291690 tw16825409838246023405 tw14138189789333246623 tw13525991950040197039 tw12478566861026835420 tw6216858097829782520 tw2920360455368505336 tw5297168981336459521 tw5529380112029080428 tw13291963032987328171 tw4714501462003824595 tw14583027163793673665 tw7360078455545454595 tw9974645256379412579 tw16696740429853867561 tw4783764137736315893 tw4994333239684119408 tw1125870968697220460 tw11107877396458410852 tw1191961384586953928 tw13455483258460902638 tw13291480412155392103
universe tw501821127705672514 tw15693177615256238020 tw5496205820884270182 tw6669735843520582496 tw17709756662431913727 tw11357284284397829956 tw3018215691142141359 tw9635165613754887636 tw1563780920192632697 tw14383511907776571007 tw11394214158899000905 tw4664676760488657062 tw15428509652440672982 tw1429420053678248707 tw4256674002346865737 tw17399759417350304780 tw14687337219271118586 tw6906978038048911380 tw7319496605218188143 tw4167753551612129706 tw8802295271637407390 tw4375687813521645442 tw1386558204121846822 tw15136296921527975582 tw6747205301326521231 tw1991703601367333086 tw13861414358406916123 tw10278864658419735965 tw2955583121952813476 tw15663675098229876850 tw10068359669737423927 tw10885653357486349684 tw9009007661125738115 tw14672096195890627522 tw11632421249887074113 tw4437160223433617817 tw6898875066826724128 tw3804256278053693530 tw4826339415981722781 tw16531912512090868657
universe tw16243540455776189722 tw3978911355448701396 tw18239550076285942310 tw14995691518932125029 tw4037720301140102975 tw17871020375695666826 tw802138797474606763 tw14024616595132206620 tw6652629296724501855 tw15753454777094273176 tw16778431679136574019 tw10615142918940099251 tw10400440128926790557 tw1976712815852944232 tw9296696574035215529 tw10343736194521273554 tw585415462252199121 tw3916628760007888100 tw11901393267326417077 tw6948513974607351570 tw4537727097236450372 tw13832014429235599658 tw15672174368122765791 tw18431180706091054434 tw6827443463529392501 tw2414019324117207252 tw9244311673384767662 tw10993072046379348100 tw18427346869780410706 tw8187741978618152906 tw9190208339019995199 tw5769802714057682758 tw15874066226858887691 tw10917763120589694761 tw11299193965130394146 tw6542121619872121878 tw457173438757643304 tw12295879491821646104 tw18444994744407925699 tw8788363220332914506
universe tw15489260651141909016 tw8629044713328146877 tw3817418017058511699 tw7096374704184805349 tw10335325469289594714 tw9642681330866496517 tw1546793557352236102 tw8001180423001752544 tw5631501228507195815 tw5953414789731266575 tw4720851386812979333 tw10164507046861527406 tw8602531273443671667 tw18240065029237110235 tw13771825813306080990 tw13543646567533470399 tw13639230817480962065 tw6226529583311600487 tw10332465208302171995 tw15123091472926003658 tw2591268877154543956 tw16977587714081186141 tw8243622875751455079 tw1205549325606708552 tw3808879185715347678 tw8138758653697494598 tw4982207170584466486 tw1374915677732435040 tw14765279317567317572 tw9005343061955860441 tw10158633920416214459 tw10125034278784595721 tw4115050477570521585 tw4415638973155252298 tw7036395747119989141 tw7441283549746905159 tw11961017934961344494 tw16356956282602844083 tw8077915862978578320 tw3845695158626715434
universe tw17369623137593803975 tw3815398458288358370 tw14548352945516148060 tw13161562378155107752 tw14471412115908156444 tw13719049807531684473 tw3747618936836453730 tw2609250328769583725 tw3231812295950614135 tw18045066928273113635 tw4616049912585146067 tw9087993314356560512 tw9843980424108054501 tw9842810380164546946 tw7782124309473797266 tw6870692277854675881 tw5665761331283828022 tw6404523506128555558 tw15693123314645455102 tw6102132577220559745 tw10433547347318237802 tw12346670188433983033 tw1323701767248533591 tw17252166108910916126 tw8883582759639196909 tw734141057271871052 tw15650929402827575013 tw6479047448472560637 tw10414310933495112425 tw5701079303719622459 tw12829451771391770204 tw8193170405086086495 tw10966251657478516678 tw16911968404639947929 tw12956629515460887346 tw5899496472751656458 tw13247694870223795467 tw8937740070464982262 tw10821256245257570633 tw17449034807341074929
universe tw14995474227196504930 tw6964866098172561217 tw2585326686799303333 tw8182984230344368072 tw3984296267154577432 tw16630797105731892152 tw5277792580210562557 tw14271231139943218581 tw10433490177997522489 tw9352849948082754194 tw2715277157841392740 tw2577636331302461256 tw14472202393646337540 tw3047794201203761652 tw283070273416627453 tw7948025738902762771 tw14100275738324583568 tw17615865475123060483 tw133459837711084671 tw16167833387932684557 tw226457585952884733 tw13411674629047321925 tw7547318940791063551 tw17166196650761116414 tw5609010310750866518 tw12060020075925166314 tw162319537424817609 tw11387993618861384174 tw14616917291797230271 tw1438203634014296812 tw13195240132138602570 tw4435528420678012683 tw9733676876200880188 tw6043956952438364466 tw18232222438066656271 tw11977535214436229764 tw14371240089235825471 tw4865005255673933963 tw5129684014004683879 tw16155897587302761772
universe tw16887468987414467087 tw16288113332369061863 tw2373098301557335887 tw12508809204017844706 tw12337133825622478430 tw11477683353576913813 tw6304156389570914436 tw6690359401771081905 tw16561504983721716889 tw9022549269220006703 tw9824583284539907566 tw8788554026221166016 tw11727410821424517759 tw3599667966889683083 tw10534083379882243786 tw1731578017969617502 tw16384609332482753346 tw11298139744850969147 tw9146659070738615836 tw9007771399367925967 tw14861219398742030454 tw16664404644589583117 tw17376352554778462654 tw10152677555830804432 tw13167730218557454549 tw5997915082452330956 tw18122717220339416986 tw12825359791822524941 tw8839539127258247932 tw16172316347486316799 tw6700476419159324632 tw1705263349991637695 tw14217229903405631362 tw7653596460026482829
end PySem.W.Fast
namespace K
open PySem DL L2 PySem.W
set_option bootstrap.genMatcherCode true
local macro_rules
 | `(tactic| sleep 61)=>`(tactic| (rintro _ _ _ _ ⟨_,e,_⟩;rw[e];rfl))
 | `(tactic| sleep 62)=>`(tactic| (rintro _ _ _ _ ⟨_,_,e,_⟩;rw[e];rfl))
 | `(tactic| sleep 63)=>`(tactic| (rintro _ _ _ _ ⟨_,_,_,e,_⟩;rw[e];rfl))
 | `(tactic| sleep 64)=>`(tactic| (rintro _ _ _ _ ⟨_,_,_,_,e,_⟩;rw[e];rfl))
 | `(tactic| sleep 65)=>`(tactic| (rintro _ _ _ _ ⟨_,_,_,_,_,e,_⟩;rw[e];rfl))
 | `(tactic| sleep 66)=>`(tactic| (rintro _ _ _ _ ⟨_,_,_,_,_,_,e,_⟩;rw[e];rfl))
 | `(tactic| sleep 67)=>`(tactic| (rintro _ _ _ _ ⟨_,_,_,_,_,_,_,e,_⟩;rw[e];rfl))
 | `(tactic| sleep 68)=>`(tactic| (rintro _ _ _ _ ⟨_,_,_,_,_,_,_,_,e,_⟩;rw[e];rfl))
 | `(tactic| sleep 69)=>`(tactic| (rintro _ _ _ _ ⟨_,_,_,_,_,_,_,_,_,e,_⟩;rw[e];rfl))
 | `(tactic| sleep 71)=>`(tactic| (intros;rename_i us hl;obtain⟨_,e⟩:=us1 hl;subst e;rfl))
 | `(tactic| sleep 72)=>`(tactic| (intros;rename_i us hl;obtain⟨_,_,e⟩:=us2 hl;subst e;rfl))
 | `(tactic| sleep 73)=>`(tactic| (intros;rename_i us hl;obtain⟨_,_,_,e⟩:=us3 hl;subst e;rfl))
 | `(tactic| sleep 74)=>`(tactic| (intros;rename_i us hl;obtain⟨_,_,_,_,e⟩:=us4 hl;subst e;rfl))
set_option bootstrap.genMatcherCode false
set_option bootstrap.genMatcherCode true
local macro_rules | `(~~~$n:str)=>`(nsIn $(Lean.mkIdent `K) mainGlobals $n)
set_option bootstrap.genMatcherCode false
set_option bootstrap.genMatcherCode true
local macro_rules | `(#[$n:str,$s:ident,$f:ident,$o:ident,$p:ident,$a:ident,$b:ident,$c:ident,$d:ident,$e:ident,$g:ident,$h:ident])=>`($(Lean.mkIdent `K.lookup) $f=some ⟨$o,$p,.func (fnOf $n $n (X3 $s) (YX $s) (Ye $s) .none $a $b $c $d $e $g),$h⟩)
set_option bootstrap.genMatcherCode false
noncomputable def top (i:Nat):Stmt:=PySem.Challenge.pw_levelcord_k93_whole_drawn_again.main.body.getD i (.Pass ⟨0,0,0,0⟩)
theorem D_0:DefIs (top 11) ["thing"] 1 C_0 S_0:=⟨by sleep 50,by decide +kernel,by sleep 62,vc_0,(by sleep 71)⟩
theorem D_1:DefIs (top 12) ["one","other"] 2 C_1 S_1:=⟨by sleep 50,by decide +kernel,by sleep 62,vc_1,(by sleep 72)⟩
theorem D_2:DefIs (top 13) ["thing","top","bottom"] 1 C_2 S_2:=⟨by sleep 50,by decide +kernel,by sleep 61,vc_2,(by sleep 71)⟩
theorem D_3:DefIs (top 14) ["top","bottom","divisor"] 2 C_3 S_3:=⟨by sleep 50,by decide +kernel,by sleep 62,vc_3,(by sleep 72)⟩
theorem D_4:DefIs (top 15) ["one","other"] 2 C_4 S_4:=⟨by sleep 50,by decide +kernel,by sleep 62,vc_4,(by sleep 72)⟩
theorem D_5:DefIs (top 16) ["one","other"] 2 C_5 S_5:=⟨by sleep 50,by decide +kernel,by sleep 62,vc_5,(by sleep 72)⟩
theorem D_6:DefIs (top 17) ["one","other"] 2 C_6 S_6:=⟨by sleep 50,by decide +kernel,by sleep 62,vc_6,(by sleep 72)⟩
theorem D_7:DefIs (top 18) ["one","other"] 2 C_7 S_7:=⟨by sleep 50,by decide +kernel,by sleep 62,vc_7,(by sleep 72)⟩
theorem D_8:DefIs (top 19) ["one","other"] 2 C_8 S_8:=⟨by sleep 50,by decide +kernel,by sleep 62,vc_8,(by sleep 72)⟩
theorem D_9:DefIs (top 20) ["numbers","least","one"] 1 C_9 S_9:=⟨by sleep 50,by decide +kernel,by sleep 62,vc_9,(by sleep 71)⟩
theorem D_10:DefIs (top 21) ["numbers","greatest","one"] 1 C_10 S_10:=⟨by sleep 50,by decide +kernel,by sleep 63,vc_10,(by sleep 71)⟩
theorem D_11:DefIs (top 24) ["thing","least","most"] 3 C_11 S_11:=⟨by sleep 50,by decide +kernel,by sleep 63,vc_11,(by sleep 73)⟩
theorem D_12:DefIs (top 25) ["thing"] 1 C_12 S_12:=⟨by sleep 50,by decide +kernel,by sleep 61,vc_12,(by sleep 71)⟩
theorem D_13:DefIs (top 26) ["thing"] 1 C_13 S_13:=⟨by sleep 50,by decide +kernel,by sleep 61,vc_13,(by sleep 71)⟩
theorem D_14:DefIs (top 27) ["thing"] 1 C_14 S_14:=⟨by sleep 50,by decide +kernel,by sleep 61,vc_14,(by sleep 71)⟩
theorem D_15:DefIs (top 28) ["thing"] 1 C_15 S_15:=⟨by sleep 50,by decide +kernel,by sleep 61,vc_15,(by sleep 71)⟩
theorem D_16:DefIs (top 29) ["tube"] 1 C_16 S_16:=⟨by sleep 50,by decide +kernel,by sleep 61,vc_16,(by sleep 71)⟩
theorem D_17:DefIs (top 30) ["tube"] 1 C_17 S_17:=⟨by sleep 50,by decide +kernel,by sleep 61,vc_17,(by sleep 71)⟩
theorem D_18:DefIs (top 31) ["thing"] 1 C_18 S_18:=⟨by sleep 50,by decide +kernel,by sleep 61,vc_18,(by sleep 71)⟩
theorem D_19:DefIs (top 32) ["row"] 1 C_19 S_19:=⟨by sleep 50,by decide +kernel,by sleep 62,vc_19,(by sleep 71)⟩
theorem D_20:DefIs (top 33) ["first","steps","row","step"] 2 C_20 S_20:=⟨by sleep 50,by decide +kernel,by sleep 62,vc_20,(by sleep 72)⟩
theorem D_21:DefIs (top 34) ["numbers","below","above","sums","places"] 3 C_21 S_21:=⟨by sleep 50,by decide +kernel,by sleep 64,vc_21,(by sleep 73)⟩
theorem D_22:DefIs (top 36) ["begin","height","at","other_height"] 4 C_22 S_22:=⟨by sleep 50,by decide +kernel,by sleep 64,vc_22,(by sleep 74)⟩
theorem D_23:DefIs (top 37) ["places","begin","height","low_at","high_at","steepest_low","flattest_high","at","to_low","to_high"] 3 C_23 S_23:=⟨by sleep 50,by decide +kernel,by sleep 65,vc_23,(by sleep 73)⟩
theorem D_24:DefIs (top 38) ["begin","height","touch","at","other_height","climb"] 3 C_24 S_24:=⟨by sleep 50,by decide +kernel,by sleep 65,vc_24,(by sleep 73)⟩
theorem D_25:DefIs (top 39) ["places","end","row","begin","height","shown"] 1 C_25 S_25:=⟨by sleep 50,by decide +kernel,by sleep 63,vc_25,(by sleep 71)⟩
theorem D_26:DefIs (top 40) ["tube"] 1 C_26 S_26:=⟨by sleep 50,by decide +kernel,by sleep 61,vc_26,(by sleep 71)⟩
theorem D_27:DefIs (top 42) ["data"] 1 C_27 S_27:=⟨by sleep 50,by decide +kernel,by sleep 61,vc_27,(by sleep 71)⟩
theorem D_28:DefIs (top 43) ["price"] 1 C_28 S_28:=⟨by sleep 50,by decide +kernel,by sleep 61,vc_28,(by sleep 71)⟩
theorem D_29:DefIs (top 44) ["data","price"] 2 C_29 S_29:=⟨by sleep 50,by decide +kernel,by sleep 62,vc_29,(by sleep 72)⟩
theorem D_30:DefIs (top 45) ["data","price"] 2 C_30 S_30:=⟨by sleep 50,by decide +kernel,by sleep 62,vc_30,(by sleep 72)⟩
theorem D_31:DefIs (top 47) ["tube","lows"] 1 C_31 S_31:=⟨by sleep 50,by decide +kernel,by sleep 62,vc_31,(by sleep 71)⟩
theorem D_32:DefIs (top 48) ["tube","begin","back","again","low"] 2 C_32 S_32:=⟨by sleep 50,by decide +kernel,by sleep 62,vc_32,(by sleep 72)⟩
theorem D_33:DefIs (top 49) ["tube","begin"] 1 C_33 S_33:=⟨by sleep 50,by decide +kernel,by sleep 62,vc_33,(by sleep 71)⟩
theorem D_34:DefIs (top 53) ["thing"] 1 C_34 S_34:=⟨by sleep 50,by decide +kernel,by sleep 62,vc_34,(by sleep 71)⟩
theorem D_35:DefIs (top 54) ["tube"] 1 C_35 S_35:=⟨by sleep 50,by decide +kernel,by sleep 62,vc_35,(by sleep 71)⟩
theorem D_36:DefIs (top 55) ["tube","begin","low","row","end"] 1 C_36 S_36:=⟨by sleep 50,by decide +kernel,by sleep 62,vc_36,(by sleep 71)⟩
theorem D_37:DefIs (top 57) ["runs","told","height","many"] 1 C_37 S_37:=⟨by sleep 50,by decide +kernel,by sleep 62,vc_37,(by sleep 71)⟩
theorem D_38:DefIs (top 58) ["runs","row","height","many"] 1 C_38 S_38:=⟨by sleep 50,by decide +kernel,by sleep 62,vc_38,(by sleep 71)⟩
theorem D_39:DefIs (top 59) ["runs","at","height","many","near","above","below"] 2 C_39 S_39:=⟨by sleep 50,by decide +kernel,by sleep 63,vc_39,(by sleep 72)⟩
theorem D_40:DefIs (top 60) ["runs","climbs","waits","at","closing"] 2 C_40 S_40:=⟨by sleep 50,by decide +kernel,by sleep 64,vc_40,(by sleep 72)⟩
theorem D_41:DefIs (top 61) ["data","price","runs","told","climbs","more","moved"] 1 C_41 S_41:=⟨by sleep 50,by decide +kernel,by sleep 61,vc_41,(by sleep 71)⟩
theorem D_42:DefIs (top 62) ["row","other","share"] 3 C_42 S_42:=⟨by sleep 50,by decide +kernel,by sleep 63,vc_42,(by sleep 73)⟩
theorem D_43:DefIs (top 63) ["told","price","ahead","row","after","other"] 2 C_43 S_43:=⟨by sleep 50,by decide +kernel,by sleep 63,vc_43,(by sleep 72)⟩
theorem D_44:DefIs (top 65) ["needs"] 1 C_44 S_44:=⟨by sleep 50,by decide +kernel,by sleep 61,vc_44,(by sleep 71)⟩
theorem D_45:DefIs (top 66) ["room"] 1 C_45 S_45:=⟨by sleep 50,by decide +kernel,by sleep 61,vc_45,(by sleep 71)⟩
theorem D_46:DefIs (top 67) ["needs","room"] 2 C_46 S_46:=⟨by sleep 50,by decide +kernel,by sleep 62,vc_46,(by sleep 72)⟩
theorem D_47:DefIs (top 68) ["needs","room"] 2 C_47 S_47:=⟨by sleep 50,by decide +kernel,by sleep 62,vc_47,(by sleep 72)⟩
theorem D_48:DefIs (top 70) ["_law_cell"] 1 C_48 S_48:=⟨by sleep 50,by decide +kernel,by sleep 61,vc_48,(by sleep 71)⟩
theorem D_49:DefIs (top 71) ["_law_script","_law_k","_law_found","_law_at"] 2 C_49 S_49:=⟨by sleep 50,by decide +kernel,by sleep 62,vc_49,(by sleep 72)⟩
theorem D_50:DefIs (top 72) ["_law_pack_here","_law_size","_law_digit"] 2 C_50 S_50:=⟨by sleep 50,by decide +kernel,by sleep 63,vc_50,(by sleep 72)⟩
theorem D_51:DefIs (top 73) ["_law_top","_law_bottom","_law_one","_law_other"] 2 C_51 S_51:=⟨by sleep 50,by decide +kernel,by sleep 62,vc_51,(by sleep 72)⟩
theorem D_52:DefIs (top 74) ["_law_one","_law_other"] 2 C_52 S_52:=⟨by sleep 50,by decide +kernel,by sleep 62,vc_52,(by sleep 72)⟩
theorem D_53:DefIs (top 75) ["_law_one","_law_other"] 2 C_53 S_53:=⟨by sleep 50,by decide +kernel,by sleep 62,vc_53,(by sleep 72)⟩
theorem D_54:DefIs (top 76) ["_law_one","_law_other"] 2 C_54 S_54:=⟨by sleep 50,by decide +kernel,by sleep 63,vc_54,(by sleep 72)⟩
theorem D_55:DefIs (top 77) ["_law_one","_law_other"] 2 C_55 S_55:=⟨by sleep 50,by decide +kernel,by sleep 62,vc_55,(by sleep 72)⟩
theorem D_56:DefIs (top 78) ["_law_pack_here","_law_wide","_law_pick"] 2 C_56 S_56:=⟨by sleep 50,by decide +kernel,by sleep 62,vc_56,(by sleep 72)⟩
theorem D_57:DefIs (top 79) ["_law_pack_here","_law_size","_law_wide","_law_here","_law_found","_law_turn"] 3 C_57 S_57:=⟨by sleep 50,by decide +kernel,by sleep 63,vc_57,(by sleep 73)⟩
theorem D_58:DefIs (top 80) ["_law_pack_here","_law_wide","_law_bottom"] 2 C_58 S_58:=⟨by sleep 50,by decide +kernel,by sleep 62,vc_58,(by sleep 72)⟩
theorem D_59:DefIs (top 81) ["_law_row"] 1 C_59 S_59:=⟨by sleep 50,by decide +kernel,by sleep 62,vc_59,(by sleep 71)⟩
theorem D_60:DefIs (top 82) ["_law_first","_law_at","_law_other","_law_to"] 4 C_60 S_60:=⟨by sleep 50,by decide +kernel,by sleep 64,vc_60,(by sleep 74)⟩
theorem D_61:DefIs (top 83) ["_law_tube","_law_at","_law_height","_law_most","_law_few","_law_to","_law_low_here","_law_high"] 3 C_61 S_61:=⟨by sleep 50,by decide +kernel,by sleep 64,vc_61,(by sleep 73)⟩
theorem D_62:DefIs (top 84) ["_law_tube","_law_found","_law_at","_law_slope_here","_law_to","_law_height","_law_place"] 1 C_62 S_62:=⟨by sleep 50,by decide +kernel,by sleep 62,vc_62,(by sleep 71)⟩
theorem D_63:DefIs (top 85) ["_law_places","_law_less","_law_more_here"] 3 C_63 S_63:=⟨by sleep 50,by decide +kernel,by sleep 64,vc_63,(by sleep 73)⟩
theorem D_64:DefIs (top 86) ["_law_row"] 1 C_64 S_64:=⟨by sleep 50,by decide +kernel,by sleep 61,vc_64,(by sleep 71)⟩
theorem D_65:DefIs (top 87) ["_law_tube","_law_ends","_law_less","_law_more_here","_law_tied","_law_wide","_law_row","_law_again"] 4 C_65 S_65:=⟨by sleep 50,by decide +kernel,by sleep 65,vc_65,(by sleep 74)⟩
theorem D_66:DefIs (top 88) ["_law_some_here","_law_low_here","_law_high","_law_found","_law_here","_law_one"] 3 C_66 S_66:=⟨by sleep 50,by decide +kernel,by sleep 63,vc_66,(by sleep 73)⟩
theorem D_67:DefIs (top 89) ["_law_data","_law_first","_law_second","_law_row","_law_both","_law_due","_law_beyond","_law_told"] 3 C_67 S_67:=⟨by sleep 50,by decide +kernel,by sleep 63,vc_67,(by sleep 73)⟩
theorem D_68:DefIs (top 90) ["_law_needs","_law_first","_law_second","_law_plan","_law_both","_law_due"] 3 C_68 S_68:=⟨by sleep 50,by decide +kernel,by sleep 63,vc_68,(by sleep 73)⟩
theorem D_69:DefIs (top 91) ["_law_pack_here","_law_nought","_law_first","_law_size","_law_found","_law_turn","_law_one"] 3 C_69 S_69:=⟨by sleep 50,by decide +kernel,by sleep 63,vc_69,(by sleep 73)⟩
theorem D_70:DefIs (top 92) ["_law_pack_here"] 1 C_70 S_70:=⟨by sleep 50,by decide +kernel,by sleep 61,vc_70,(by sleep 71)⟩
noncomputable abbrev s_71:Stmt:=top 93
theorem ck_71:isSs ⟨["_law_script","_law_k","_law_pack_here","_law_more_here","_law_first","_law_second","_law_ends"],Ye s_71,true,true⟩ true C_71 (YX s_71)=true:=by decide +kernel
theorem sc_71:FnScope ["_law_script","_law_k","_law_pack_here","_law_more_here","_law_first","_law_second","_law_ends"] ["_law_script"] (Ye s_71):=by sleep 50
theorem len_71:∀ ds M R E,SLaw ds M R E->ds.length=1:=by sleep 61
set_option maxHeartbeats 0 in
theorem all_mk {l:OpenLaw} {w:World} {K:Frag} {h:Heap} {mg:Str->Option Value} {fa:Addr} (X:K.In h) (G:h.Ns mainGlobals mg) (hfa:mg "law"=some (.ref fa))
  (h0:Has K "is_whole" (top 11))
  (h1:Has K "greatest_divisor" (top 12))
  (h2:Has K "is_number" (top 13))
  (h3:Has K "number" (top 14))
  (h4:Has K "added" (top 15))
  (h5:Has K "taken" (top 16))
  (h6:Has K "multiplied" (top 17))
  (h7:Has K "parted" (top 18))
  (h8:Has K "is_less" (top 19))
  (h9:Has K "least_of" (top 20))
  (h10:Has K "greatest_of" (top 21))
  (h11:Has K "are_numbers" (top 24))
  (h12:Has K "are_steps" (top 25))
  (h13:Has K "is_place" (top 26))
  (h14:Has K "is_tube" (top 27))
  (h15:Has K "is_tied" (top 28))
  (h16:Has K "want_tube" (top 29))
  (h17:Has K "want_tied" (top 30))
  (h18:Has K "want_steps" (top 31))
  (h19:Has K "differences" (top 32))
  (h20:Has K "row_of" (top 33))
  (h21:Has K "tube_round_sums" (top 34))
  (h22:Has K "rise" (top 36))
  (h23:Has K "next_touch" (top 37))
  (h24:Has K "straight_on" (top 38))
  (h25:Has K "taut_row" (top 39))
  (h26:Has K "cord" (top 40))
  (h27:Has K "want_data" (top 42))
  (h28:Has K "want_price" (top 43))
  (h29:Has K "tube_of" (top 44))
  (h30:Has K "smoothed" (top 45))
  (h31:Has K "highest_low" (top 47))
  (h32:Has K "mirrored" (top 48))
  (h33:Has K "loose_cord" (top 49))
  (h34:Has K "is_ring" (top 53))
  (h35:Has K "want_ring" (top 54))
  (h36:Has K "ring_cord" (top 55))
  (h37:Has K "joined" (top 57))
  (h38:Has K "row_of_runs" (top 58))
  (h39:Has K "climb_of" (top 59))
  (h40:Has K "up_to_meeting" (top 60))
  (h41:Has K "stair" (top 61))
  (h42:Has K "row_between" (top 62))
  (h43:Has K "at_price" (top 63))
  (h44:Has K "want_needs" (top 65))
  (h45:Has K "want_room" (top 66))
  (h46:Has K "store_tube" (top 67))
  (h47:Has K "bought" (top 68))
  (h48:Has K "_law_mixed" (top 70))
  (h49:Has K "_law_pack" (top 71))
  (h50:Has K "_law_take" (top 72))
  (h51:Has K "_law_low" (top 73))
  (h52:Has K "_law_more" (top 74))
  (h53:Has K "_law_less_by" (top 75))
  (h54:Has K "_law_by" (top 76))
  (h55:Has K "_law_under" (top 77))
  (h56:Has K "_law_width" (top 78))
  (h57:Has K "_law_walk" (top 79))
  (h58:Has K "_law_number" (top 80))
  (h59:Has K "_law_steps" (top 81))
  (h60:Has K "_law_slope" (top 82))
  (h61:Has K "_law_next_touch" (top 83))
  (h62:Has K "_law_cord" (top 84))
  (h63:Has K "_law_wider" (top 85))
  (h64:Has K "_law_pairs" (top 86))
  (h65:Has K "_law_tubes_right" (top 87))
  (h66:Has K "_law_sums" (top 88))
  (h67:Has K "_law_data_right" (top 89))
  (h68:Has K "_law_needs_right" (top 90))
  (h69:Has K "_law_some" (top 91))
  (h70:Has K "_law_amount" (top 92))
  (h71:Has K "law" s_71)
  (z0: ~~~"abs"=some none)
  (z1: ~~~"all"=some none)
  (z2: ~~~"any"=some none)
  (z3: ~~~"divmod"=some none)
  (z4: ~~~"isinstance"=some none)
  (z5: ~~~"len"=some none)
  (z6: ~~~"max"=some none)
  (z7: ~~~"min"=some none)
  (z8: ~~~"str"=some none)
  (z9: ~~~"tuple"=some none)
  (z10: ~~~"list"=some none)
  (z11: ~~~"int"=some none)
  (z12: ~~~"bool"=some none)
  (z13: ~~~"dict"=some none)
  (z14: ~~~"range"=some none)
  (z15: ~~~"ValueError"=some none)
  (z16: ~~~"sum"=some none)
  (z17: ~~~"zip"=some none)
  (z18: ~~~"enumerate"=some none)
  (z19: ~~~"reversed"=some none)
  {C0:Tok} (gl0: ~~~"LEAST_PLACES"=some (some (.int 3 C0)))
  {C1:Tok} (gl1: ~~~"MOST_PLACES_rings"=some (some (.int 24 C1)))
  {C2:Tok} (gl2: ~~~"MOST_PLACES_tubes"=some (some (.int 25 C2)))
  {C3:Addr} {ta3 tb3:Tok} {dx3:Option Addr} {sx3:Array (Option Value)} {mx3:Nat} (gl3: ~~~"NOUGHT"=some (some (.ref C3))) (lk3:K.lookup C3=some ⟨.type "tuple",dx3,.seq #[.int 0 ta3,.int 1 tb3] mx3,sx3⟩)
  {C4:Addr} (gl4: ~~~"NoData"=some (some (.ref C4)))
  {C5:Addr} (gl5: ~~~"NoNeeds"=some (some (.ref C5)))
  {C6:Addr} (gl6: ~~~"NoNumber"=some (some (.ref C6)))
  {C7:Addr} (gl7: ~~~"NoPrice"=some (some (.ref C7)))
  {C8:Addr} (gl8: ~~~"NoRoom"=some (some (.ref C8)))
  {C9:Addr} (gl9: ~~~"NoRow"=some (some (.ref C9)))
  {C10:Addr} (gl10: ~~~"NoTube"=some (some (.ref C10)))
  (tab:Xr K=true)
  : ∃ fd:FuncData,(∀ (s:Shared) (v:Value),BindsTo s fd ⟨[v],[]⟩ [("_law_script",v)])/\∀ base:Heap,K.In base->base.Ns mainGlobals mg->FnOk l.prog w K mg base (CXR l.prog w) 72 fa fd ["_law_script"] (Wh K SLaw):=by
 obtain @⟨f71,oc71,od71,an71,sl71,kV71,dc71,pm71,cd71,ct71,a71,l71,c71,k71⟩:=h71;have e:=hfa.symm.trans (mg_of X G a71);cases e;have B:Blt mg:=⟨fun b=>by cases b<;>first|exact mg_none_of X G z0|exact mg_none_of X G z1|exact mg_none_of X G z2|exact mg_none_of X G z3|exact mg_none_of X G z4|exact mg_none_of X G z5|exact mg_none_of X G z6|exact mg_none_of X G z7|exact mg_none_of X G z8|exact mg_none_of X G z9|exact mg_none_of X G z10|exact mg_none_of X G z11|exact mg_none_of X G z16,fun t=>by cases t<;>first|exact mg_none_of X G z0|exact mg_none_of X G z1|exact mg_none_of X G z2|exact mg_none_of X G z3|exact mg_none_of X G z4|exact mg_none_of X G z5|exact mg_none_of X G z6|exact mg_none_of X G z7|exact mg_none_of X G z8|exact mg_none_of X G z9|exact mg_none_of X G z10|exact mg_none_of X G z11|exact mg_none_of X G z12|exact mg_none_of X G z13|exact mg_none_of X G z15,mg_none_of X G z14,mg_none_of X G z17,mg_none_of X G z18,mg_none_of X G z10,mg_none_of X G z19⟩
 have F71:=AC (st:=s_71) l71 c71 k71;refine⟨fnOf "law" "law" (X3 s_71) (YX s_71) (Ye s_71) .none kV71 dc71 pm71 an71 cd71 ct71,fun s v=>.of_eq rfl,fun base _ _=>?_⟩;have Z:Zc l.prog w K h mg base:=⟨X,G,B,tab⟩;have G0:GloE K mg "LEAST_PLACES" XS:=⟨_,.int 3,mg_of X G gl0,⟨_,rfl⟩,fun _=>.int _⟩;have G1:GloE K mg "MOST_PLACES_rings" Zy:=⟨_,.int 24,mg_of X G gl1,⟨_,rfl⟩,fun _=>.int _⟩;have G2:GloE K mg "MOST_PLACES_tubes" Z0:=⟨_,.int 25,mg_of X G gl2,⟨_,rfl⟩,fun _=>.int _⟩;have G3:GloE K mg "NOUGHT" Z9:=JP X G gl3 lk3;have G4:GloE K mg "NoData" (.cls "NoData"):=Z2 X G %[|4] gl4;have G5:GloE K mg "NoNeeds" (.cls "NoNeeds"):=Z2 X G %[|4] gl5;have G6:GloE K mg "NoNumber" (.cls "NoNumber"):=Z2 X G %[|4] gl6;have G7:GloE K mg "NoPrice" (.cls "NoPrice"):=Z2 X G %[|4] gl7;have G8:GloE K mg "NoRoom" (.cls "NoRoom"):=Z2 X G %[|4] gl8;have G9:GloE K mg "NoRow" (.cls "NoRow"):=Z2 X G %[|4] gl9
 have G10:GloE K mg "NoTube" (.cls "NoTube"):=Z2 X G %[|4] gl10;have E0:=DefIs.ok 0 D_0 h0 Z (by sleep 51);have E1:=DefIs.ok 1 D_1 h1 Z (by sleep 51);have E2:=DefIs.ok 2 D_2 h2 Z (by sleep 51);have E3:=DefIs.ok 3 D_3 h3 Z (by sleep 51);have E4:=DefIs.ok 4 D_4 h4 Z (by sleep 51);have E5:=DefIs.ok 5 D_5 h5 Z (by sleep 51);have E6:=DefIs.ok 6 D_6 h6 Z (by sleep 51);have E7:=DefIs.ok 7 D_7 h7 Z (by sleep 51);have E8:=DefIs.ok 8 D_8 h8 Z (by sleep 51);have E9:=DefIs.ok 9 D_9 h9 Z (by sleep 51);have E10:=DefIs.ok 10 D_10 h10 Z (by sleep 51);have E11:=DefIs.ok 11 D_11 h11 Z (by sleep 51);have E12:=DefIs.ok 12 D_12 h12 Z (by sleep 51);have E13:=DefIs.ok 13 D_13 h13 Z (by sleep 51);have E14:=DefIs.ok 14 D_14 h14 Z (by sleep 51);have E15:=DefIs.ok 15 D_15 h15 Z (by sleep 51);have E16:=DefIs.ok 16 D_16 h16 Z (by sleep 51);have E17:=DefIs.ok 17 D_17 h17 Z (by sleep 51);have E18:=DefIs.ok 18 D_18 h18 Z (by sleep 51)
 have E19:=DefIs.ok 19 D_19 h19 Z (by sleep 51);have E20:=DefIs.ok 20 D_20 h20 Z (by sleep 51);have E21:=DefIs.ok 21 D_21 h21 Z (by sleep 51);have E22:=DefIs.ok 22 D_22 h22 Z (by sleep 51);have E23:=DefIs.ok 23 D_23 h23 Z (by sleep 51);have E24:=DefIs.ok 24 D_24 h24 Z (by sleep 51);have E25:=DefIs.ok 25 D_25 h25 Z (by sleep 51);have E26:=DefIs.ok 26 D_26 h26 Z (by sleep 51);have E27:=DefIs.ok 27 D_27 h27 Z (by sleep 51);have E28:=DefIs.ok 28 D_28 h28 Z (by sleep 51);have E29:=DefIs.ok 29 D_29 h29 Z (by sleep 51);have E30:=DefIs.ok 30 D_30 h30 Z (by sleep 51);have E31:=DefIs.ok 31 D_31 h31 Z (by sleep 51);have E32:=DefIs.ok 32 D_32 h32 Z (by sleep 51);have E33:=DefIs.ok 33 D_33 h33 Z (by sleep 51);have E34:=DefIs.ok 34 D_34 h34 Z (by sleep 51);have E35:=DefIs.ok 35 D_35 h35 Z (by sleep 51);have E36:=DefIs.ok 36 D_36 h36 Z (by sleep 51);have E37:=DefIs.ok 37 D_37 h37 Z (by sleep 51);have E38:=DefIs.ok 38 D_38 h38 Z (by sleep 51)
 have E39:=DefIs.ok 39 D_39 h39 Z (by sleep 51);have E40:=DefIs.ok 40 D_40 h40 Z (by sleep 51);have E41:=DefIs.ok 41 D_41 h41 Z (by sleep 51);have E42:=DefIs.ok 42 D_42 h42 Z (by sleep 51);have E43:=DefIs.ok 43 D_43 h43 Z (by sleep 51);have E44:=DefIs.ok 44 D_44 h44 Z (by sleep 51);have E45:=DefIs.ok 45 D_45 h45 Z (by sleep 51);have E46:=DefIs.ok 46 D_46 h46 Z (by sleep 51);have E47:=DefIs.ok 47 D_47 h47 Z (by sleep 51);have E48:=DefIs.ok 48 D_48 h48 Z (by sleep 51);have E49:=DefIs.ok 49 D_49 h49 Z (by sleep 51);have E50:=DefIs.ok 50 D_50 h50 Z (by sleep 51);have E51:=DefIs.ok 51 D_51 h51 Z (by sleep 51);have E52:=DefIs.ok 52 D_52 h52 Z (by sleep 51);have E53:=DefIs.ok 53 D_53 h53 Z (by sleep 51);have E54:=DefIs.ok 54 D_54 h54 Z (by sleep 51);have E55:=DefIs.ok 55 D_55 h55 Z (by sleep 51);have E56:=DefIs.ok 56 D_56 h56 Z (by sleep 51);have E57:=DefIs.ok 57 D_57 h57 Z (by sleep 51);have E58:=DefIs.ok 58 D_58 h58 Z (by sleep 51)
 have E59:=DefIs.ok 59 D_59 h59 Z (by sleep 51);have E60:=DefIs.ok 60 D_60 h60 Z (by sleep 51);have E61:=DefIs.ok 61 D_61 h61 Z (by sleep 51);have E62:=DefIs.ok 62 D_62 h62 Z (by sleep 51);have E63:=DefIs.ok 63 D_63 h63 Z (by sleep 51);have E64:=DefIs.ok 64 D_64 h64 Z (by sleep 51);have E65:=DefIs.ok 65 D_65 h65 Z (by sleep 51);have E66:=DefIs.ok 66 D_66 h66 Z (by sleep 51);have E67:=DefIs.ok 67 D_67 h67 Z (by sleep 51);have E68:=DefIs.ok 68 D_68 h68 Z (by sleep 51);have E69:=DefIs.ok 69 D_69 h69 Z (by sleep 51);have E70:=DefIs.ok 70 D_70 h70 Z (by sleep 51);exact Ev (k:=71) C_71 F71 B tab sc_71 ck_71 (by sleep 51) len_71 vc_71
end K
set_option bootstrap.genMatcherCode true
open PySem PySem.W PyProof.Rows
set_option maxRecDepth 100000 in
set_option maxHeartbeats 0 in
theorem PySem.Challenge.cw_levelcord_k93_whole_drawn_again_holds : PySem.Challenge.rw_levelcord_k93_whole_drawn_again.Holds := by
 w_on;o_law;k_head;(case hw=>w_witness2)
 k_fill
 refine DL.walkD (l:=PySem.Challenge.rw_levelcord_k93_whole_drawn_again) (k:=72) (x:="_law_script") rfl rfl ⟨rfl,by decide,by decide⟩ (fun w h Y=>PySem.W.kIn_of Y) ?F
 case F =>
  intro w mg fa h KX G hmg;refine' K.all_mk KX G hmg ?h0 ?h1 ?h2 ?h3 ?h4 ?h5 ?h6 ?h7 ?h8 ?h9 ?h10 ?h11 ?h12 ?h13 ?h14 ?h15 ?h16 ?h17 ?h18 ?h19 ?h20 ?h21 ?h22 ?h23 ?h24 ?h25 ?h26 ?h27 ?h28 ?h29 ?h30 ?h31 ?h32 ?h33 ?h34 ?h35 ?h36 ?h37 ?h38 ?h39 ?h40 ?h41 ?h42 ?h43 ?h44 ?h45 ?h46 ?h47 ?h48 ?h49 ?h50 ?h51 ?h52 ?h53 ?h54 ?h55 ?h56 ?h57 ?h58 ?h59 ?h60 ?h61 ?h62 ?h63 ?h64 ?h65 ?h66 ?h67 ?h68 ?h69 ?h70 ?h71 ?z0 ?z1 ?z2 ?z3 ?z4 ?z5 ?z6 ?z7 ?z8 ?z9 ?z10 ?z11 ?z12 ?z13 ?z14 ?z15 ?z16 ?z17 ?z18 ?z19 ?gl0 ?gl1 ?gl2 ?gl3 ?lk3 ?gl4 ?gl5 ?gl6 ?gl7 ?gl8 ?gl9 ?gl10 ?tab
  case h0|h1|h2|h3|h4|h5|h6|h7|h8|h9|h10|h11|h12|h13|h14|h15|h16|h17|h18|h19|h20|h21|h22|h23|h24|h25|h26|h27|h28|h29|h30|h31|h32|h33|h34|h35|h36|h37|h38|h39|h40|h41|h42|h43|h44|h45|h46|h47|h48|h49|h50|h51|h52|h53|h54|h55|h56|h57|h58|h59|h60|h61|h62|h63|h64|h65|h66|h67|h68|h69|h70|h71=>(refine' DL.Has.mk ?a ?l ?c ?k;case a|l|c|k=>k_is)
  case z0|z1|z2|z3|z4|z5|z6|z7|z8|z9|z10|z11|z12|z13|z14|z15|z16|z17|z18|z19|gl0|gl1|gl2|gl3|lk3|gl4|gl5|gl6|gl7|gl8|gl9|gl10=>k_is
  (case tab=>kernel_rfl)
