import PyProof.Rows.All
import Wide.All
import OpenK.AllK
import Wide.FinOn
import Lean
import PyProof.EqAt
import PyProof.EqKinds
import PyProof.TupleCall
import PyProof.SumAnyB
import PySem.Challenge.RW_levelcord_k87_whole_texts_read_again
set_option Elab.async false
set_option linter.all false
set_option maxRecDepth 100000
set_option maxHeartbeats 4000000
set_option genSizeOf false
local macro_rules
 | `(tactic| simp[0,$xs,*])=>do
  let ys:=("ZR dVar dC d2 dNil YS dTup dLst dCB XR VW dAnd dOr dNot Dq dOrV dIfE bInt bOp cInt cOp fAbs fMax fMin fStr Uv fInt truD dTru Vs Do dNeg Ax Jh dSl Lb La dRev Ay dSeq Kg Lc FL dRet L9 dIfS Kf Xi FI CY FH dAsg dPar dTwo dAug FG fSum dApp dExt dIns dIdx FM A8 CGs.len plain rE rEs rO rG rGs rI Ke dTry rS Y1".splitOn " ").toArray.map fun s=>(⟨Lean.mkNode `Lean.Parser.Tactic.simpLemma #[Lean.mkNullNode,Lean.mkNullNode,Lean.mkIdent (`DL++s.toName)]⟩:Lean.TSyntax `Lean.Parser.Tactic.simpLemma)
  `(tactic| simp[$ys,*,$xs,*])
 | `(tactic| dsimp only[0,$xs,*])=>do
  let ys:=("ZR dVar dC d2 dNil YS dTup dLst dCB XR VW dAnd dOr dNot Dq dOrV dIfE bInt bOp cInt cOp fAbs fMax fMin fStr Uv fInt truD dTru Vs Do dNeg Ax Jh dSl Lb La dRev Ay dSeq Kg Lc FL dRet L9 dIfS Kf Xi FI CY FH dAsg dPar dTwo dAug FG fSum dApp dExt dIns dIdx FM A8 CGs.len plain rE rEs rO rG rGs rI Ke dTry rS Y1".splitOn " ").toArray.map fun s=>(⟨Lean.mkNode `Lean.Parser.Tactic.simpLemma #[Lean.mkNullNode,Lean.mkNullNode,Lean.mkIdent (`DL++s.toName)]⟩:Lean.TSyntax `Lean.Parser.Tactic.simpLemma)
  `(tactic| dsimp only[$ys,*,$xs,*])
local macro_rules | `(tactic| omega)=>`(tactic| lia)
set_option bootstrap.genMatcherCode false
set_option bootstrap.genMatcherCode true
local macro_rules | `(%[$xs,*|$n])=>match n.raw.isNatLit? with
 | some 0=>do
  let mut r:Lean.Term<-`(.nil)
  for x in xs.getElems.reverse do r<-`(.cons $x $r)
  return r
 | some 1=>`(⟨fun _ _=>rfl,fun _ _=>rfl,fun _=>rfl,fun _ _=>rfl,fun _ _ _ _=>rfl⟩)
 | some 2=>`((fun _ _ _ z=>nomatch z))
 | some 3=>`((Nat.le_refl _))
 | some 4=>`(by decide)
 | some 5=>`(by omega)
 | _=>Lean.Macro.throwUnsupported
set_option bootstrap.genMatcherCode false
open PySem.W (Frag hideAll)
noncomputable section
namespace L2
open PySem PySem.Spec PyProof.Rows
abbrev Key:=Sum Int Str
noncomputable def FE:Key->Value->Bool
 | .inl k,v=>Value.isInt k v
 | .inr x,v=>Value.isStrOf x v
noncomputable def keyH (w:World):Key->Int
 | .inl k=>hashInt k
 | .inr x=>hashStr w x
theorem YD:∀ {k:Key} {v:Value},FE k v=true->(∃ i t,k=Sum.inl i/\v=Value.int i t)\/(∃ x t,k=Sum.inr x/\v=Value.str x t)
 | .inl i,v,h=>by
  obtain⟨t,e⟩:=Value.isInt_shape (k:=i) (v:=v) h;exact .inl ⟨i,t,rfl,e⟩
 | .inr x,v,h=>by
  obtain⟨t,e⟩:=Value.isStrOf_shape (x:=x) (v:=v) h;exact .inr ⟨x,t,rfl,e⟩
theorem GM (a b:Int):decide ((Sum.inl a:Key)=Sum.inl b)=(a==b):=by
 by_cases e:a=b
 ·subst e;simp
 ·have h:¬ (Sum.inl a:Key)=Sum.inl b:=fun q=>e (Sum.inl.inj q)
  rw[decide_eq_false h];exact (beq_eq_false_iff_ne.mpr e).symm
theorem GJ (a b:Str):decide ((Sum.inr a:Key)=Sum.inr b)=decide (a=b):=by
 by_cases e:a=b
 ·subst e;simp
 ·have h:¬ (Sum.inr a:Key)=Sum.inr b:=fun q=>e (Sum.inr.inj q)
  rw[decide_eq_false h,decide_eq_false e]
theorem GL (a:Int) (b:Str):decide ((Sum.inl a:Key)=Sum.inr b)=false:=decide_eq_false (fun q=>nomatch q)
theorem GK (a:Str) (b:Int):decide ((Sum.inr a:Key)=Sum.inl b)=false:=decide_eq_false (fun q=>nomatch q)
noncomputable def Uq (prog:Program) (w:World):PySem.KeyKind prog w Key where
 is:=FE
 hash:=keyH w
 inj:=fun v a b ha hb=>by
  rcases YD ha with ⟨i,t,rfl,rfl⟩|⟨x,t,rfl,rfl⟩
  ·rcases YD hb with ⟨j,u,rfl,e⟩|⟨y,u,rfl,e⟩
   ·injection e with e1 _;rw[e1]
   ·exact nomatch e
  ·rcases YD hb with ⟨j,u,rfl,e⟩|⟨y,u,rfl,e⟩
   ·exact nomatch e
   ·injection e with e1 _;rw[e1]
 byValue:=fun k v h=>by
  rcases YD h with ⟨i,t,rfl,rfl⟩|⟨x,t,rfl,rfl⟩<;>rfl
 pyHash:=fun hv h=>by
  rcases YD hv with ⟨i,t,rfl,rfl⟩|⟨x,t,rfl,rfl⟩
  ·exact wpAny_pyHash_int h
  ·exact wpAny_pyHash_str h
 eqBool:=fun hu hv h=>by
  rcases YD hu with ⟨i,t,rfl,rfl⟩|⟨x,t,rfl,rfl⟩
  ·rcases YD hv with ⟨j,u,rfl,rfl⟩|⟨y,u,rfl,rfl⟩
   ·rw[GM] at h;exact wpAny_eqBool_int h
   ·rw[GL] at h;exact SeqAt.EqAt.int_str i t y u _ _ _ _ h
  ·rcases YD hv with ⟨j,u,rfl,rfl⟩|⟨y,u,rfl,rfl⟩
   ·rw[GK] at h;exact SeqAt.EqAt.str_int x t j u _ _ _ _ h
   ·rw[GJ] at h;exact wpAny_eqBool_str h
 «strs»:=fun k x t v h=>by
  rcases YD h with ⟨i,u,rfl,e⟩|⟨y,u,rfl,e⟩
  ·exact nomatch e
  ·injection e with e1 _
   subst e1;cases v<;>rfl
end L2
namespace L2
open PySem PySem.Spec PyProof.Rows
inductive V where
 | non|bl (b:Bool)|int (i:Int)|str (x:Str)|byt (b:Array UInt8)|flt (b:UInt64)|ref (a:Addr)|ty (n:String)
 deriving DecidableEq
noncomputable def RelV:V->Value->Prop
 | .non,u=>u=Value.none
 | .bl b,u=>u=Value.bool b
 | .int i,u=>∃ t,u=Value.int i t
 | .str x,u=>∃ t,u=Value.str x t
 | .byt b,u=>∃ t,u=Value.bytes b t
 | .flt b,u=>∃ t,u=Value.float b t
 | .ref a,u=>u=Value.ref a
 | .ty n,u=>u=Value.type n
abbrev Vals:List V->List Value->Prop:=Paired RelV
theorem Vals.length (r:Vals xs us):xs.length=us.length:=Paired.length r
theorem Vals.get:∀ {xs:List V} {us:List Value} {i:Nat} {x:V},Vals xs us->xs[i]?=some x->∃ u,us[i]?=some u/\RelV x u
 | _,_,_,_,.nil,e=>by simp at e
 | _,_,0,_,.cons r _,e=>by simp at e;subst e;exact⟨_,rfl,r⟩
 | _,_,i+1,x,.cons _ t,e=>by
  obtain⟨u,h1,h2⟩:=Vals.get (i:=i) (x:=x) t (by simpa using e);exact⟨u,by simpa using h1,h2⟩
theorem Vals.set (r:RelV x u):∀ {xs:List V} {us:List Value} (i:Nat),Vals xs us->Vals (xs.set i x) (us.set i u)
 | _,_,_,.nil=>.nil
 | _,_,0,.cons _ t=>.cons r t
 | _,_,i+1,.cons q t=>.cons q (Vals.set r i t)
theorem Vals.append:∀ {xs ys:List V} {us ws:List Value},Vals xs us->Vals ys ws->Vals (xs++ys) (us++ws)
 | _,_,_,_,.nil,s=>s
 | _,_,_,_,.cons r t,s=>.cons r (Vals.append t s)
theorem Vals.take:∀ {xs:List V} {us:List Value} (n:Nat),Vals xs us->Vals (xs.take n) (us.take n)
 | _,_,0,_=>.nil
 | _,_,_+1,.nil=>.nil
 | _,_,n+1,.cons r t=>.cons r (Vals.take n t)
theorem Vals.drop:∀ {xs:List V} {us:List Value} (n:Nat),Vals xs us->Vals (xs.drop n) (us.drop n)
 | _,_,0,r=>r
 | _,_,_+1,.nil=>.nil
 | _,_,n+1,.cons _ t=>Vals.drop n t
noncomputable def RelO:Option V->Option Value->Prop
 | some v,some u=>RelV v u
 | none,none=>True
 | _,_=>False
noncomputable def KV {κ:Type}:List (κ×V)->List (κ×Value)->Prop:=Paired fun (p:κ×V) (q:κ×Value)=>p.1=q.1/\RelV p.2 q.2
noncomputable def kV:Key->V
 | .inl i=>.int i
 | .inr x=>.str x
inductive HO where
 | lst (xs:List V)
 | tup (xs:List V)
 | dK (kvs:List (Key×V))|dT (kvs:List (List Key×V))
 | set (S:Int->Bool) (n:Nat)
 | ins (C dx:Addr) (fs:List (Str×V))
 | own (x:Addr)
 | xd (fs:List (Str×V))
 | met (f x:Addr)
 | rng (lo hi:Int)
 | frz (o:Obj) (u:HO)
 | tbl (ps:Array Value)
 | ext (φ:Heap->Prop)
abbrev Hp:=Addr->Option HO
noncomputable def upd (H:Hp) (a:Addr) (o:HO):Hp:=fun b=>if b=a then some o else H b
theorem upd_same:upd H a o a=some o:=by unfold upd;rw[if_pos rfl]
theorem Y6 (h:b≠a):upd H a o b=H b:=by unfold upd;rw[if_neg h]
theorem ZB {H:Hp} {a b:Addr} {o:HO} (h:H a=some o) (h':H b=none):a≠b:=by
 intro e;subst e;rw[h] at h';cases h'
section
variable (P:Program) (w:World)
noncomputable def ObjOk (H:Hp) (h:Heap) (a:Addr):HO->Prop
 | .lst xs=>xs.length<=sizeLine/\∃ (its:List Value) (n:Nat),Vals xs its/\h.get? a=some {cls:=.type "list",data:=.seq its.toArray n}
 | .tup xs=>xs.length<=sizeLine/\∃ its:List Value,Vals xs its/\IsTup h a its.toArray
 | .dK kvs=>kvs.length<=sizeLine/\(a==sysModules)=false/\∃ vs,KV kvs vs/\h.DictOf (Uq P w) a vs
 | .dT kvs=>kvs.length<=sizeLine/\(a==sysModules)=false/\∃ xs:List (List Key×Addr×Value),
   Paired (fun (p:List Key×V) (q:List Key×Addr×Value)=>p.1=q.1/\H q.2.1=some (.tup (p.1.map kV))/\RelV p.2 q.2.2) kvs xs /\
   ∃ o es ep,h.get? a=some o/\o.ExactDict/\o.data=.dict es ep/\es.toList=xs.map (entryOfKey (tupleKind (Uq P w)))/\(xs.map (·.1)).Nodup
 | .set S n=>h.SetOf (intKind P w) a S n
 | .ins C dx fs=>H dx=some (.own a)/\fs.length<=1000/\dx≠a/\h.get? a=some (PySem.W.instObj C dx) /\
   ∃ mA,h.Ns1 dx mA/\(∀ f,RelO (fs.lookup f) (mA f))/\PySem.Within mA (fs.map (·.1))
 | .own _=>∃ o,h.get? a=some o
 | .xd fs=>∃ mA,h.Ns1 a mA/\∀ f,RelO (fs.lookup f) (mA f)
 | .rng lo hi=>∃ t u v,h.get? a=some {cls:=.type "range",data:=.fields #[.int lo t,.int hi u,.int 1 v]}
 | .frz o u=>h.get? a=some o/\ObjOk H h a u
 | .tbl ps=>h.get? a=some {cls:=.none,data:=.fields ps}
 | .met f x=>h.get? a=some (PySem.W.methodObj (.ref f) (.ref x))
 | .ext φ=>φ h/\(∃ o,h.get? a=some o)/\∀ h1 h2:Heap,φ h1->(∀ o,h1.get? a=some o->h2.get? a=some o)->φ h2
noncomputable def HOk (H:Hp) (h:Heap):Prop:=∀ a o,H a=some o->ObjOk P w H h a o
end
section
variable {P:Program} {w:World} {H H':Hp} {h h':Heap} {a:Addr} {o:HO}
theorem ObjOk.lt (x:ObjOk P w H h a o):a<h.objs.size:=by
 cases o with
 | lst xs=>obtain⟨_,_,_,_,e⟩:=x;exact Heap.lt_size e
 | tup xs=>obtain⟨_,_,_,p⟩:=x;exact p.lt
 | dK kvs=>obtain⟨_,_,_,_,o,_,_,e,_⟩:=x;exact Heap.lt_size e
 | dT kvs=>obtain⟨_,_,_,_,o,_,_,e,_⟩:=x;exact Heap.lt_size e
 | set S n=>obtain⟨o,_,_,_,e,_⟩:=x;exact Heap.lt_size e
 | ins C dx fs=>obtain⟨_,_,_,e,_⟩:=x;exact Heap.lt_size e
 | own y=>obtain⟨_,e⟩:=x;exact Heap.lt_size e
 | xd fs=>obtain⟨_,⟨_,_,_,e,_⟩,_⟩:=x;exact Heap.lt_size e
 | rng lo hi=>obtain⟨_,_,_,e⟩:=x;exact Heap.lt_size e
 | frz ob u=>obtain⟨e,_⟩:=x;exact Heap.lt_size e
 | tbl ps=>exact Heap.lt_size (show h.get? a=some _ from x)
 | met f y=>exact Heap.lt_size (show h.get? a=some _ from x)
 | ext φ=>obtain⟨_,⟨_,e⟩,_⟩:=x;exact Heap.lt_size e
theorem Paired.mapP:∀ {l₁:List α} {l₂:List β},Paired F l₁ l₂->(∀ a b,F a b->G a b)->Paired G l₁ l₂
 | _,_,.nil,_=>.nil
 | _,_,.cons r t,f=>.cons (f _ _ r) (Paired.mapP t f)
theorem ObjOk.stay (x:ObjOk P w H h a o) (k:∀ b u,(b=a\/H b=some (.own a))->h.get? b=some u->h'.get? b=some u)
  (ho:∀ b,H b=some (.own a)->H' b=some (.own a)) (ht:∀ b xs,H b=some (.tup xs)->H' b=some (.tup xs)):ObjOk P w H' h' a o:=by
 induction o with
 | lst xs=>obtain⟨z,its,n,r,e⟩:=x;exact⟨z,its,n,r,k _ _ (.inl rfl) e⟩
 | tup xs=>obtain⟨z,its,r,ob,e,c⟩:=x;exact⟨z,its,r,ob,k _ _ (.inl rfl) e,c⟩
 | dK kvs=>obtain⟨z,y,vs,r,ob,es,ep,e,c⟩:=x;exact⟨z,y,vs,r,ob,es,ep,k _ _ (.inl rfl) e,c⟩
 | dT kvs =>
  obtain⟨z,y,xs,r,ob,es,ep,e,c⟩:=x;exact⟨z,y,xs,Paired.mapP r fun p q z=>⟨z.1,ht _ _ z.2.1,z.2.2⟩,ob,es,ep,k _ _ (.inl rfl) e,c⟩
 | set S n=>obtain⟨ob,es,ep,t,e,c⟩:=x;exact⟨ob,es,ep,t,k _ _ (.inl rfl) e,c⟩
 | ins C dx fs =>
  obtain⟨d,z,ne,e,mA,⟨od,es,ep,e2,c⟩,r⟩:=x;exact⟨ho _ d,z,ne,k _ _ (.inl rfl) e,mA,⟨od,es,ep,k _ _ (.inr d) e2,c⟩,r⟩
 | own y=>obtain⟨ob,e⟩:=x;exact⟨ob,k _ _ (.inl rfl) e⟩
 | xd fs=>obtain⟨mA,⟨od,es,ep,e,c⟩,r⟩:=x;exact⟨mA,⟨od,es,ep,k _ _ (.inl rfl) e,c⟩,r⟩
 | rng lo hi=>obtain⟨t,u,v,e⟩:=x;exact⟨t,u,v,k _ _ (.inl rfl) e⟩
 | frz ob u ih=>obtain⟨e,q⟩:=x;exact⟨k _ _ (.inl rfl) e,ih q⟩
 | tbl ps =>
  have e:h.get? a=some {cls:=.none,data:=.fields ps}:=x;show h'.get? a=some {cls:=.none,data:=.fields ps};exact k a _ (.inl rfl) e
 | met f y =>
  have e:h.get? a=some (PySem.W.methodObj (.ref f) (.ref y)):=x;show h'.get? a=some (PySem.W.methodObj (.ref f) (.ref y));exact k a _ (.inl rfl) e
 | ext φ=>obtain⟨p,⟨o,e⟩,st⟩:=x;exact⟨st _ _ p fun o q=>k _ _ (.inl rfl) q,⟨o,k _ _ (.inl rfl) e⟩,st⟩
theorem HOk.lt (x:HOk P w H h) (e:H a=some o):a<h.objs.size:=(x a o e).lt
theorem HOk.fresh (x:HOk P w H h) (e:h.objs.size<=a):H a=none:=by
 cases q:H a with
 | none=>rfl
 | some u=>exact absurd (Nat.lt_of_lt_of_le (x.lt q) e) (Nat.lt_irrefl _)
theorem HOk.kept (x:HOk P w H h) (k:∀ b u,h.get? b=some u->h'.get? b=some u):HOk P w H h':=fun a o e =>
 (x a o e).stay (fun b u _ q=>k b u q) (fun _ q=>q) fun _ _ q=>q
theorem HOk.laid (x:HOk P w H h) (k:∀ b u,h.get? b=some u->h'.get? b=some u) (hp:h.objs.size<=a) (new:ObjOk P w (upd H a o) h' a o):HOk P w (upd H a o) h':=fun b u e=>by
 have hn:=x.fresh hp;by_cases hb:b=a
 ·subst hb;rw[upd_same] at e;cases e;exact new
 ·rw[Y6 hb] at e
  exact (x b u e).stay (fun c v _ q=>k c v q) (fun c q=>by rw[Y6 (ZB q hn)];exact q) fun c xs q=>by rw[Y6 (ZB q hn)];exact q
end
noncomputable def Rd (H:Hp) (a:Addr) (u:HO):Prop:=H a=some u\/∃ o,H a=some (.frz o u)
theorem Rd.of (h:H a=some u):Rd H a u:=.inl h
theorem Rd.ok (r:Rd H a u) (x:HOk P w H h):ObjOk P w H h a u:=by
 rcases r with r|⟨o,r⟩
 ·exact x a u r
 ·obtain⟨_,q⟩:=x a _ r
  exact q
noncomputable def Mut:Option HO->Prop
 | some (.lst _)=>True
 | some (.dK _)=>True
 | some (.dT _)=>True
 | some (.set _ _)=>True
 | some (.ins _ _ _)=>True
 | some (.ext _)=>True
 | _=>False
section
variable {P:Program} {w:World} {H:Hp} {h h':Heap} {x e:Addr} {o':HO}
theorem HOk.write (ok:HOk P w H h) (mu:Mut (H x)) (he:e=x\/H e=some (.own x)) (k:∀ b u,b≠e->h.get? b=some u->h'.get? b=some u) (heo:∃ u,h'.get? e=some u)
  (new:ObjOk P w (upd H x o') h' x o'):HOk P w (upd H x o') h':=fun b u q=>by
 have nown:∀ c y,H c=some (.own y)->c≠x:=fun c y r z=>by subst z;rw[r] at mu;exact mu
 have ntup:∀ c xs,H c=some (.tup xs)->c≠x:=fun c xs r z=>by subst z;rw[r] at mu;exact mu
 by_cases hb:b=x
 ·subst hb;rw[upd_same] at q;cases q;exact new
 ·rw[Y6 hb] at q
  by_cases hbe:b=e
  ·have q':H b=some (.own x):=by
    rcases he with z|z
    ·exact absurd (hbe.trans z) hb
    ·rw[hbe];exact z
   rw[q] at q';cases q';obtain⟨v,hv⟩:=heo;exact⟨v,by rw[hbe];exact hv⟩
  ·refine (ok b u q).stay (fun c v hc r=>k c v ?_ r) (fun c r=>by rw[Y6 (nown c b r)];exact r) fun c xs r=>by rw[Y6 (ntup c xs r)];exact r
   rcases hc with rfl|hc
   ·exact hbe
   ·rintro rfl
    rcases he with z|z
    ·exact nown c b hc z
    ·rw[hc] at z;cases z;exact hb rfl
end
structure Un (fs ex:List Addr) (H H':Hp) (h h':Heap):Prop where
 keep:∀ b o,h.get? b=some o->H b=none->b ∉ fs->b ∉ ex->h'.get? b=some o
 slot:∀ b o,h.get? b=some o->H b=none->b∈fs->b ∉ ex->∃ sl,h'.get? b=some {o with slots:=sl}
 free:∀ b o,h.get? b=some o->H b=none->b ∉ ex->H' b=none
 there:∀ b o,h.get? b=some o->b ∉ ex->∃ o',h'.get? b=some o'
 tups:∀ b xs,H b=some (.tup xs)->H' b=some (.tup xs)
 frzs:∀ b o u,H b=some (.frz o u)->H' b=some (.frz o u)
 tbls:∀ b ps,H b=some (.tbl ps)->∃ more,H' b=some (.tbl (ps++more))
section
variable {fs fs' ex ex':List Addr} {H H1 H2:Hp} {h h1 h2 h':Heap} {a x e:Addr} {o:HO}
theorem Un.any (u:Un fs ex H H1 h h1) (q:h.get? b=some ob) (n:H b=none) (hx:b ∉ ex):∃ sl,h1.get? b=some {ob with slots:=sl}:=by
 by_cases hb:b∈fs
 ·exact u.slot b ob q n hb hx
 ·exact⟨ob.slots,u.keep b ob q n hb hx⟩
theorem Un.trans (a:Un fs ex H H1 h h1) (b:Un fs ex H1 H2 h1 h2):Un fs ex H H2 h h2 where
 keep:=fun c ob q n hc hx=>b.keep c ob (a.keep c ob q n hc hx) (a.free c ob q n hx) hc hx
 slot:=fun c ob q n hc hx=>by
  obtain⟨sl,e1⟩:=a.slot c ob q n hc hx;obtain⟨sl',e2⟩:=b.slot c _ e1 (a.free c ob q n hx) hc hx;exact⟨sl',e2⟩
 free:=fun c ob q n hx=>by
  obtain⟨o',e1⟩:=a.there c ob q hx;exact b.free c o' e1 (a.free c ob q n hx) hx
 there:=fun c ob q hx=>by
  obtain⟨o',e1⟩:=a.there c ob q hx;exact b.there c o' e1 hx
 tups:=fun c xs q=>b.tups c xs (a.tups c xs q)
 frzs:=fun c ob xs q=>b.frzs c ob xs (a.frzs c ob xs q)
 tbls:=fun c ps q=>by
  obtain⟨m1,e1⟩:=a.tbls c ps q;obtain⟨m2,e2⟩:=b.tbls c _ e1;exact⟨m1++m2,by rw[e2,Array.append_assoc]⟩
theorem Un.kept (k:∀ b u,h.get? b=some u->h'.get? b=some u):Un fs ex H H h h' :=
 ⟨fun b ob q _ _ _=>k b ob q,fun b ob q _ _ _=>⟨ob.slots,k b ob q⟩,fun _ _ _ n _=>n,fun b ob q _=>⟨ob,k b ob q⟩,fun _ _ q=>q,fun _ _ _ q=>q,fun _ ps q=>⟨#[],by rw[q];simp⟩⟩
theorem Un.refl:Un fs ex H H h h:=Un.kept fun _ _ q=>q
theorem Un.laid (k:∀ b u,h.get? b=some u->h'.get? b=some u) (hp:h.objs.size<=a) (hn:H a=none):Un fs ex H (upd H a o) h h' where
 keep:=fun b u q _ _ _=>k b u q
 slot:=fun b u q _ _ _=>⟨u.slots,k b u q⟩
 free:=fun b u q n _=>by rw[Y6 (Nat.ne_of_lt (Nat.lt_of_lt_of_le (Heap.lt_size q) hp))];exact n
 there:=fun b u q _=>⟨u,k b u q⟩
 tups:=fun b xs q=>by rw[Y6 (ZB q hn)];exact q
 frzs:=fun b u xs q=>by rw[Y6 (ZB q hn)];exact q
 tbls:=fun b ps q=>⟨#[],by rw[Y6 (ZB q hn),q];simp⟩
theorem Un.write (mu:Mut (H x)) (he:e=x\/H e=some (.own x)) (k:∀ b u,b≠e->h.get? b=some u->h'.get? b=some u) (heo:∃ u,h'.get? e=some u):Un fs ex H (upd H x o) h h':=by
 have hx:∀ b,H b=none->b≠x:=fun b n z=>by subst z;rw[n] at mu;exact mu
 have hb:∀ b,H b=none->b≠e:=fun b n z=>by
  subst z;rcases he with r|r
  ·exact hx b n r
  ·rw[n] at r;cases r
 have hm:∀ b u,H b=some u->¬ Mut (some u)->b≠x:=fun b u q nm z=>by subst z;rw[q] at mu;exact nm mu
 refine⟨fun b u q n _ _=>k b u (hb b n) q,fun b u q n _ _=>⟨u.slots,k b u (hb b n) q⟩,fun b u q n _=>by rw[Y6 (hx b n)];exact n,fun b u q _=>?_,
  fun b xs q=>by rw[Y6 (hm b _ q fun z=>z)];exact q,fun b u xs q=>by rw[Y6 (hm b _ q fun z=>z)];exact q,fun b ps q=>⟨#[],by rw[Y6 (hm b _ q fun z=>z),q];simp⟩⟩
 by_cases hbe:b=e
 ·subst hbe;exact heo
 ·exact⟨u,k b u hbe q⟩
theorem Un.mono (u:Un fs ex H H1 h h1) (hs:∀ b∈fs,b∈fs') (hx:∀ b∈ex,b∈ex'):Un fs' ex' H H1 h h1 :=
 ⟨fun b ob q n hb he=>u.keep b ob q n (fun z=>hb (hs b z)) fun z=>he (hx b z),fun _ _ q n _ he=>u.any q n fun z=>he (hx _ z),fun b ob q n he=>u.free b ob q n fun z=>he (hx b z),fun b ob q he=>u.there b ob q fun z=>he (hx b z),u.tups,u.frzs,u.tbls⟩
end
noncomputable def trk (h:Heap) (H:Hp):List Addr:=(List.range h.objs.size).filter fun a=>(H a).isSome
noncomputable def hidT (h:Heap) (H:Hp):Heap:=hideAll h (trk h H)
theorem B4 (h:Heap) (H:Hp):(hidT h H).objs.size=h.objs.size:=PySem.W.hideAll_size _ _
theorem CW (e:h.get? b=some o) (n:H b=none):(hidT h H).get? b=some o :=
 PySem.W.hideAll_get _ e fun hm=>by
  have q:(H b).isSome=true:=(List.mem_filter.mp hm).2;rw[n] at q;simp at q
theorem Ev (e:(hidT h H).get? b=some o):h.get? b=some o/\H b=none:=by
 have e':h.get? b=some o:=PySem.W.of_hideAll (trk h H) e;refine⟨e',?_⟩;cases q:H b with
 | none=>rfl
 | some x =>
  have hm:b∈trk h H:=List.mem_filter.mpr ⟨List.mem_range.mpr (Heap.lt_size e'),by simp[q]⟩;have z:(hidT h H).get? b=none:=PySem.W.hideAll_none (trk h H) hm;rw[z] at e;cases e
noncomputable def Ft (g h:Heap) (L:Addr):List (Addr×Obj):=(List.range h.objs.size).filterMap fun a=>if a=L\/(g.get? a).isSome=true then none else (h.get? a).map fun o=>(a,o)
noncomputable def rest (g h:Heap) (L d:Addr):List (Addr×Obj):=(Ft g h L).filter fun p=>decide (p.1≠d)
end L2
namespace L2
open PySem PySem.Spec PyProof.Rows
structure Mod (K:Frag) (mg:Str->Option Value) (base:Heap):Prop where
 kin:K.In base
 glob:base.Ns mainGlobals mg
 blt:∃ mb,base.Ns builtinsNs mb/\∀ x:Str,x≠"__name__"->mb x=bootBuiltins x
 nolimit:base.NoLimit
structure Cx where
 prog:Program
 w:World
 K:Frag
 mg:Str->Option Value
 base:Heap
 A:Around
 N:List Str
 s₀:Shared
 H₀:Hp
 env:Env
 outer:List Env
 stack:List Env
 ex:List Addr
 fn:Str->Bool
 calm:Bool
 pn:List (Addr×Obj)
 xe:Value->Shared->Prop
noncomputable def frs (l:List Env):List Addr:=l.filterMap (·.frame)
abbrev Cx.fs (X:Cx):List Addr:=frs X.outer
noncomputable def Vis (sc:Scope) (x:Str):Prop:=sc.names.lookup x=some .local\/sc.names.lookup x=some .cell\/sc.names.lookup x=some .free
noncomputable def Loc (sc:Scope) (x:Str):Prop:=sc.names.lookup x=some .local\/sc.names.lookup x=some .cell
noncomputable def Look (env:Env) (h:Heap) (m:Str->Option Value) (x:Str) (u:Value):Prop :=
 (env.kindOf x=some .local/\m x=some u)\/((env.kindOf x=some .cell\/env.kindOf x=some .free)/\∃ c,env.cells.lookup x=some c/\h.IsCell c (some u))
structure Cx.Ok (X:Cx):Prop where
 mod:Mod X.K X.mg X.base
 kind:X.env.scope.kind=.function
 glob:X.env.globals=mainGlobals
 blt:X.env.builtins=builtinsNs
 above:X.s₀.heap.objs.size<=X.env.locals
 inj:∀ x y c,X.env.cells.lookup x=some c->X.env.cells.lookup y=some c->x=y
 has:∀ x,(X.env.kindOf x=some .cell\/X.env.kindOf x=some .free)->∃ c,X.env.cells.lookup x=some c
 cab:∀ x c,X.fn x=true->X.env.cells.lookup x=some c->X.s₀.heap.objs.size<=c
 hd:X.calm=true->X.A.handled=none
 frames:X.A.frames=some X.stack
 stk:X.stack=X.outer\/(X.stack=X.env::X.outer/\X.env.frame=some X.env.locals)
 exf:∀ b∈X.ex,b≠X.env.locals/\∀ x c,X.env.cells.lookup x=some c->c≠b
 bs:∀ b o,X.base.get? b=some o->X.s₀.heap.get? b=some o/\X.H₀ b=none
 bsz:X.base.objs.size<=X.s₀.heap.objs.size
 noex:∀ b o,X.base.get? b=some o->b ∉ X.ex
 exfs:∀ b∈X.ex,b ∉ X.fs
 funs:X.s₀.heap.FunFrames X.base X.outer
 frf:∀ b∈X.fs,X.H₀ b=none
structure Inv (X:Cx) (pins:List (Addr×Obj)) (σ:List (Option V)) (H:Hp) (s:Shared):Prop where
 ok:X.Ok
 os:s.os=X.s₀.os
 bare:AllBare s.gens
 base:Un X.fs X.ex X.H₀ H X.s₀.heap s.heap
 loc:∃ m,s.heap.Ns X.env.locals m/\∀ (i:Nat) (x:Str) (v:V),X.N[i]?=some x->σ[i]?=some (some v)->Vis X.env.scope x->∃ u,RelV v u/\Look X.env s.heap m x u
 cell:∀ x c,X.env.cells.lookup x=some c->∃ v,s.heap.IsCell c v
 free:H X.env.locals=none
 freeC:∀ x c,X.env.cells.lookup x=some c->H c=none
 pin:∀ p∈X.pn++pins,s.heap.get? p.1=some p.2/\H p.1=none/\p.1≠X.env.locals/\p.1 ∉ X.fs/\∀ v,p.2.data≠.cell v
 hok:HOk X.prog X.w H s.heap
 len:σ.length=X.N.length
section
variable {X:Cx} {pins:List (Addr×Obj)} {σ:List (Option V)} {H H':Hp} {s:Shared} {h':Heap}
theorem Cx.Ok.nofr (ok:X.Ok) (e:X.base.get? b=some o):b ∉ X.fs:=fun hb=>by
 have:=(ok.funs.mem hb).1;rw[e] at this;cases this
theorem Inv.bs (I:Inv X pins σ H s):∀ b o,X.base.get? b=some o->s.heap.get? b=some o/\H b=none:=fun b o e =>
 ⟨I.base.keep b o (I.ok.bs b o e).1 (I.ok.bs b o e).2 (I.ok.nofr e) (I.ok.noex b o e),I.base.free b o (I.ok.bs b o e).1 (I.ok.bs b o e).2 (I.ok.noex b o e)⟩
theorem Inv.bk (I:Inv X pins σ H s):∀ b o,X.base.get? b=some o->s.heap.get? b=some o:=fun b o e=>(I.bs b o e).1
theorem Inv.mod (I:Inv X pins σ H s):Mod X.K X.mg X.base:=I.ok.mod
theorem Inv.kIn (I:Inv X pins σ H s):X.K.In s.heap:=I.ok.mod.kin.keeps I.bk
theorem Inv.lt (I:Inv X pins σ H s):X.env.locals<s.heap.objs.size:=let ⟨_,hn,_⟩:=I.loc;hn.lt
theorem Inv.sz (I:Inv X pins σ H s):X.s₀.heap.objs.size<=s.heap.objs.size:=Nat.le_trans I.ok.above (Nat.le_of_lt I.lt)
theorem Inv.nofs (I:Inv X pins σ H s) (h:s.heap.objs.size<=a):a ∉ X.fs:=fun hb=>by
 obtain⟨_,o,ho,_⟩:=I.ok.funs.mem hb;exact absurd (Nat.lt_of_lt_of_le (Heap.lt_size ho) (Nat.le_trans I.sz h)) (Nat.lt_irrefl _)
theorem Inv.cne (I:Inv X pins σ H s):∀ x c,X.env.cells.lookup x=some c->c≠X.env.locals:=fun x c e z=>by
 obtain⟨v,o,ho,hd⟩:=I.cell x c e;obtain⟨m,⟨o',es,ep,ho',hd',_⟩,_⟩:=I.loc;rw[z,ho'] at ho;cases ho;rw[hd'] at hd;cases hd
theorem Inv.funs (I:Inv X pins σ H s):s.heap.FunFrames X.base X.outer:=by
 have all:∀ (l:List Env),(∀ b∈frs l,b∈X.fs)->X.s₀.heap.FunFrames X.base l->s.heap.FunFrames X.base l:=by
  intro l
  induction l with
  | nil=>intro _ _;trivial
  | cons env r ih =>
   intro hs hl;obtain⟨hk,⟨L,o,hf,hn,ho,hd⟩,hr⟩:=hl;have hL:L∈X.fs:=hs L (by unfold frs;rw[List.filterMap_cons,hf];exact List.mem_cons_self);obtain⟨sl,e⟩:=I.base.slot L o ho (I.ok.frf L hL) hL fun z=>I.ok.exfs L z hL;exact⟨hk,⟨L,_,hf,hn,e,hd⟩,ih (fun b hb=>hs b (by unfold frs;rw[List.filterMap_cons,hf];exact List.mem_cons_of_mem _ hb)) hr⟩
 exact all X.outer (fun _ hb=>hb) I.ok.funs
theorem Inv.stack (I:Inv X pins σ H s):s.heap.FunFrames X.base X.stack:=by
 rcases I.ok.stk with e|⟨e,hf⟩
 ·rw[e];exact I.funs
 ·rw[e]
  obtain⟨m,hn,_⟩:=I.loc;refine .cons (by rw[I.ok.kind];decide) hf hn ?_ I.funs;exact Heap.get?_none_of_le (Nat.le_trans I.ok.bsz I.ok.above)
theorem Inv.stkSub (I:Inv X pins σ H s):∀ b∈frs X.stack,b∈X.env.locals::X.fs:=fun b hb=>by
 rcases I.ok.stk with e|⟨e,hf⟩
 ·rw[e] at hb;exact List.mem_cons_of_mem _ hb
 ·rw[e] at hb
  unfold frs at hb;rw[List.filterMap_cons,hf] at hb;exact hb
theorem Inv.stkFree (I:Inv X pins σ H s):∀ b∈frs X.stack,H b=none:=fun b hb=>by
 rcases List.mem_cons.mp (I.stkSub b hb) with e|hb
 ·rw[e];exact I.free
 ·obtain⟨_,o,ho,_⟩:=I.ok.funs.mem hb
  exact I.base.free b o ho (I.ok.frf b hb) fun z=>I.ok.exfs b z hb
theorem Inv.step {g':Array GenState} {t':Nat} {d':Drawn} {ch:List Addr} (I:Inv X pins σ H s)
  (hch:∀ b∈ch,(b∈X.ex\/X.s₀.heap.objs.size<=b)/\b≠X.env.locals/\(∀ x c,X.env.cells.lookup x=some c->c≠b)/\∀ p∈X.pn++pins,p.1≠b)
  (keep:∀ b o,b≠X.env.locals->b ∉ X.fs->b ∉ ch->s.heap.get? b=some o->H b=none->h'.get? b=some o)
  (slot:∀ b o,b≠X.env.locals->b∈X.fs->b ∉ ch->s.heap.get? b=some o->H b=none->∃ sl,h'.get? b=some {o with slots:=sl}) (free:∀ b o,b ∉ ch->s.heap.get? b=some o->H b=none->H' b=none)
  (there:∀ b o,b ∉ ch->s.heap.get? b=some o->∃ o',h'.get? b=some o')
  (tups:∀ b xs,H b=some (.tup xs)->H' b=some (.tup xs)) (frzs:∀ b o u,H b=some (.frz o u)->H' b=some (.frz o u)) (tbls:∀ b ps,H b=some (.tbl ps)->∃ more,H' b=some (.tbl (ps++more)))
  (ns:∀ m,s.heap.Ns X.env.locals m->h'.Ns X.env.locals m) (hok:HOk X.prog X.w H' h') (hg:AllBare g') :
  Inv X pins σ H' {s with heap:=h',gens:=g',drawn:=d',toks:=t'}:=by
 have neL:∀ b o,X.s₀.heap.get? b=some o->b≠X.env.locals:=fun b o e=>Nat.ne_of_lt (Nat.lt_of_lt_of_le (Heap.lt_size e) I.ok.above);have neC:∀ b o,X.s₀.heap.get? b=some o->b ∉ X.ex->b ∉ ch:=fun b o e hx hb=>by
  rcases (hch b hb).1 with z|z
  ·exact hx z
  ·exact absurd (Nat.lt_of_lt_of_le (Heap.lt_size e) z) (Nat.lt_irrefl _)
 have cellK:∀ x c,X.env.cells.lookup x=some c->∀ v,s.heap.IsCell c v->h'.IsCell c v:=fun x c e v ⟨o,ho,hd⟩=>by
  have nch:c ∉ ch:=fun z=>(hch c z).2.2.1 x c e rfl;by_cases hc:c∈X.fs
  ·obtain⟨sl,q⟩:=slot c o (I.cne x c e) hc nch ho (I.freeC x c e)
   exact⟨_,q,hd⟩
  ·exact⟨o,keep c o (I.cne x c e) hc nch ho (I.freeC x c e),hd⟩
 refine⟨I.ok,I.os,hg,⟨fun b o e n hb hx=>?_,fun b o e n hb hx=>?_,fun b o e n hx=>?_,fun b o e hx=>?_,fun b xs e=>tups b xs (I.base.tups b xs e),fun b o xs e=>frzs b o xs (I.base.frzs b o xs e),fun b ps e=>?_⟩,?_,fun x c e=>?_,?_,fun x c e=>?_,fun p hp=>?_,hok,I.len⟩
 ·exact keep b o (neL b o e) hb (neC b o e hx) (I.base.keep b o e n hb hx) (I.base.free b o e n hx)
 ·obtain⟨sl,e1⟩:=I.base.slot b o e n hb hx
  obtain⟨sl',e2⟩:=slot b _ (neL b o e) hb (neC b o e hx) e1 (I.base.free b o e n hx);exact⟨sl',e2⟩
 ·obtain⟨o',e1⟩:=I.base.there b o e hx
  exact free b o' (neC b o e hx) e1 (I.base.free b o e n hx)
 ·obtain⟨o',e1⟩:=I.base.there b o e hx
  exact there b o' (neC b o e hx) e1
 ·obtain⟨m1,e1⟩:=I.base.tbls b ps e
  obtain⟨m2,e2⟩:=tbls b _ e1;exact⟨m1++m2,by rw[e2,Array.append_assoc]⟩
 ·obtain⟨m,hn,hl⟩:=I.loc
  refine⟨m,ns m hn,fun i x v e1 e2 e3=>?_⟩;obtain⟨u,r,l⟩:=hl i x v e1 e2 e3;refine⟨u,r,?_⟩;rcases l with l|⟨k,c,e,z⟩
  ·exact .inl l
  ·exact .inr ⟨k,c,e,cellK x c e _ z⟩
 ·obtain⟨v,z⟩:=I.cell x c e
  exact⟨v,cellK x c e v z⟩
 ·obtain⟨m,⟨o,_,_,ho,_⟩,_⟩:=I.loc
  exact free _ o (fun z=>(hch _ z).2.1 rfl) ho I.free
 ·obtain⟨v,o,ho,hd⟩:=I.cell x c e
  exact free c o (fun z=>(hch c z).2.2.1 x c e rfl) ho (I.freeC x c e)
 ·obtain⟨e,n,ne,nf,d⟩:=I.pin p hp
  have nch:p.1 ∉ ch:=fun z=>(hch p.1 z).2.2.2 p hp rfl;exact⟨keep p.1 p.2 ne nf nch e n,free p.1 p.2 nch e n,ne,nf,d⟩
theorem Inv.un {t':Nat} (I:Inv X pins σ H s) (u:Un X.fs [] H H' s.heap h') (hok:HOk X.prog X.w H' h'):Inv X pins σ H' {s with heap:=h',toks:=t'}:=by
 obtain⟨m,⟨o,es,ep,ho,r⟩,_⟩:=id I.loc;obtain⟨sl,hL⟩:=u.any ho I.free (by simp);exact I.step (g':=s.gens) (d':=s.drawn) (ch:=[]) (fun _ z=>nomatch z) (fun b o _ hb _ e n=>u.keep b o e n hb (by simp)) (fun b o _ hb _ e n=>u.slot b o e n hb (by simp)) (fun b o _ e n=>u.free b o e n (by simp)) (fun b o _ e=>u.there b o e (by simp)) u.tups u.frzs u.tbls (fun m' hm=>by
  obtain⟨o',es',ep',ho',r'⟩:=hm;rw[ho] at ho';cases ho';exact⟨_,es',ep',hL,r'⟩) hok I.bare
theorem Inv.call {g':Array GenState} {t':Nat} {d':Drawn} {ch:List Addr} (I:Inv X pins σ H s) (u:Un (frs X.stack) ch H H' s.heap h') (hok:HOk X.prog X.w H' h') (hg:AllBare g')
  (hch:∀ b∈ch,(b∈X.ex\/X.s₀.heap.objs.size<=b)/\b≠X.env.locals/\(∀ x c,X.env.cells.lookup x=some c->c≠b)/\∀ p∈X.pn++pins,p.1≠b) :
  Inv X pins σ H' {s with heap:=h',gens:=g',drawn:=d',toks:=t'}:=by
 obtain⟨m,⟨o,es,ep,ho,r⟩,_⟩:=id I.loc;obtain⟨sl,hL⟩:=u.any ho I.free fun z=>(hch _ z).2.1 rfl;exact I.step (ch:=ch) hch (fun b o hL hb hc e n=>u.keep b o e n (fun z=>(List.mem_cons.mp (I.stkSub b z)).elim hL hb) hc) (fun b o _ _ hc e n=>u.any e n hc) (fun b o hc e n=>u.free b o e n hc) (fun b o hc e=>u.there b o e hc) u.tups u.frzs u.tbls (fun m' hm=>by
  obtain⟨o',es',ep',ho',r'⟩:=hm;rw[ho] at ho';cases ho';exact⟨_,es',ep',hL,r'⟩) hok hg
theorem Inv.turned {t':Nat} {it:Addr} (I:Inv X pins σ H s) (k:∀ b o,b≠it->s.heap.get? b=some o->h'.get? b=some o) (hn:H it=none) (hL:it≠X.env.locals)
  (h1:it∈X.ex\/X.s₀.heap.objs.size<=it) (h2:∀ x c,X.env.cells.lookup x=some c->c≠it) (h3:∀ p∈X.pn++pins,p.1≠it):Inv X pins σ H {s with heap:=h',toks:=t'}:=by
 have nit:∀ b u,H b=some u->b≠it:=fun b u e z=>by rw[z,hn] at e;cases e
 refine I.step (g':=s.gens) (d':=s.drawn) (ch:=[it]) (fun b hb=>?_) (fun b o _ _ hc e _=>k b o (fun z=>hc (by simp[z])) e) (fun b o _ _ hc e _=>⟨o.slots,k b o (fun z=>hc (by simp[z])) e⟩) (fun _ _ _ _ n=>n)
  (fun b o hc e=>⟨o,k b o (fun z=>hc (by simp[z])) e⟩) (fun _ _ e=>e) (fun _ _ _ e=>e) (fun b ps e=>⟨#[],by rw[e];simp⟩) (fun m hm=>?_) (fun b u e=>?_) I.bare
 ·have e:b=it:=by simpa using hb
  subst e;exact⟨h1,hL,h2,h3⟩
 ·obtain⟨o,es,ep,ho,r⟩:=hm
  exact⟨o,es,ep,k _ o (Ne.symm hL) ho,r⟩
 ·refine (I.hok b u e).stay (fun c v hc q=>k c v ?_ q) (fun _ q=>q) fun _ _ q=>q
  rcases hc with z|z
  ·rw[z];exact nit b u e
  ·exact nit c _ z
theorem Inv.tok (I:Inv X pins σ H s) (t:Nat):Inv X pins σ H {s with toks:=t}:=I.un (h':=s.heap) (t':=t) Un.refl I.hok
theorem Inv.kept (I:Inv X pins σ H s) (k:∀ b u,s.heap.get? b=some u->h'.get? b=some u):Inv X pins σ H {s with heap:=h',toks:=t'}:=I.un (Un.kept k) (I.hok.kept k)
theorem Inv.laid (I:Inv X pins σ H s) (k:∀ b u,s.heap.get? b=some u->h'.get? b=some u) (hp:s.heap.objs.size<=a) (new:ObjOk X.prog X.w (upd H a o) h' a o) :
  Inv X pins σ (upd H a o) {s with heap:=h',toks:=t'}:=I.un (Un.laid k hp (I.hok.fresh hp)) (I.hok.laid k hp new)
theorem Inv.write (I:Inv X pins σ H s) (mu:Mut (H x)) (he:e=x\/H e=some (.own x)) (k:∀ b u,b≠e->s.heap.get? b=some u->h'.get? b=some u) (heo:∃ u,h'.get? e=some u)
  (new:ObjOk X.prog X.w (upd H x o) h' x o):Inv X pins σ (upd H x o) {s with heap:=h',toks:=t'}:=I.un (Un.write mu he k heo) (I.hok.write mu he k heo new)
theorem Inv.pins_of (I:Inv X pins σ H s) (h:∀ p∈pins',s.heap.get? p.1=some p.2/\H p.1=none/\p.1≠X.env.locals/\p.1 ∉ X.fs/\∀ v,p.2.data≠.cell v):Inv X pins' σ H s :=
 ⟨I.ok,I.os,I.bare,I.base,I.loc,I.cell,I.free,I.freeC,fun p hp=>(List.mem_append.mp hp).elim (fun z=>I.pin p (List.mem_append_left _ z)) (h p),I.hok,I.len⟩
theorem ZA {N:List Str} (hN:N.Nodup) {i j:Nat} {x:Str} (a:N[i]?=some x) (b:N[j]?=some x):i=j:=by
 obtain⟨h1,e1⟩:=List.getElem?_eq_some_iff.mp a;obtain⟨h2,e2⟩:=List.getElem?_eq_some_iff.mp b;exact (List.getElem_inj hN).mp (e1.trans e2.symm)
theorem AJ {M:Model} {A:Around} {E:Value->Shared->Prop} {i:Nat} {x:Str} {v:V} {u:Value} {Q:Unit->Shared->Prop} (I:Inv X pins σ H s) (hN:X.N.Nodup) (hi:X.N[i]?=some x) (hx:Loc X.env.scope x) (r:RelV v u)
  (h:∀ s',Inv X pins (σ.set i (some v)) H s'->(∃ a,Heap.SameBut a s.heap s'.heap/\(a=X.env.locals\/X.env.cells.lookup x=some a))->Q () s') (hf:X.fn x=true\/X.env.scope.names.lookup x=some .local:=by first|exact .inl rfl|exact .inr rfl|assumption):wpAny M A (storeName X.env x u) Q E s:=by
 obtain⟨m,hn,hl⟩:=id I.loc;have hcls:(X.env.scope.kind==.class || (X.env.scope.kind==.module&&X.env.locals != X.env.globals))=false:=by rw[I.ok.kind];rfl
 have hiσ:i < σ.length:=by rw[I.len];exact (List.getElem?_eq_some_iff.mp hi).1
 have cne:=I.cne;have tracked:∀ {a:Addr} {h':Heap},(∃ o,s.heap.get? a=some o/\H a=none)->Heap.SameBut a s.heap h'->HOk X.prog X.w H h':=fun {a h'} ha hs b ob e=>by
  obtain⟨_,_,hfree⟩:=ha;refine (I.hok b ob e).stay (fun c w' hc q=>(hs.2 c ?_).trans q) (fun _ q=>q) fun _ _ q=>q;rintro rfl;rcases hc with rfl|hc
  ·rw[hfree] at e;cases e
  ·rw[hfree] at hc;cases hc
 rcases hx with hk|hk
 ·refine wpAny_storeName_local hk hn (fun h' hn' hs=>?_) hcls
  obtain⟨oL,_,_,hoL,_⟩:=id hn;refine h _ ⟨I.ok,I.os,I.bare,⟨fun b o e n hb hx=>?_,fun b o e n hb hx=>?_,I.base.free,fun b o e hx=>?_,I.base.tups,I.base.frzs,I.base.tbls⟩,⟨_,hn',fun j y v' e1 e2 e3=>?_⟩,fun y c e=>?_,I.free,I.freeC,fun p hp=>?_,tracked ⟨oL,hoL,I.free⟩ hs,by simpa using I.len⟩ ⟨_,hs,.inl rfl⟩
  ·exact (hs.2 b (Nat.ne_of_lt (Nat.lt_of_lt_of_le (Heap.lt_size e) I.ok.above))).trans (I.base.keep b o e n hb hx)
  ·obtain⟨sl,e1⟩:=I.base.slot b o e n hb hx
   exact⟨sl,(hs.2 b (Nat.ne_of_lt (Nat.lt_of_lt_of_le (Heap.lt_size e) I.ok.above))).trans e1⟩
  ·obtain⟨o',e1⟩:=I.base.there b o e hx
   exact⟨o',(hs.2 b (Nat.ne_of_lt (Nat.lt_of_lt_of_le (Heap.lt_size e) I.ok.above))).trans e1⟩
  ·by_cases hj:j=i
   ·subst hj
    rw[hi] at e1;cases e1;rw[List.getElem?_set_self hiσ] at e2;cases e2;exact⟨u,r,.inl ⟨hk,by simp⟩⟩
   ·rw[List.getElem?_set_ne (Ne.symm hj)] at e2
    obtain⟨u',r',q⟩:=hl j y v' e1 e2 e3;refine⟨u',r',?_⟩;rcases q with ⟨k,e⟩|⟨k,c,e,z⟩
    ·refine .inl ⟨k,?_⟩
     have:y≠x:=fun e=>hj (ZA hN e1 (e ▸ hi));simp[this,e]
    ·exact .inr ⟨k,c,e,z.sameBut hs (cne y c e)⟩
  ·obtain⟨w',z⟩:=I.cell y c e
   exact⟨w',z.sameBut hs (cne y c e)⟩
  ·obtain⟨e,n,ne,nf,d⟩:=I.pin p hp
   exact⟨(hs.2 p.1 ne).trans e,n,ne,nf,d⟩
 ·have hfn:X.fn x=true:=by
   rcases hf with z|z
   ·exact z
   ·rw[z] at hk;cases hk
  obtain⟨c,hc⟩:=I.ok.has x (.inl hk);obtain⟨w',z⟩:=I.cell x c hc;refine wpAny_storeName_cell I.ok.kind hk hc z (fun h' hc' hs=>?_);obtain⟨oc,hoc,hocd⟩:=id z;refine h {s with heap:=h'} ⟨I.ok,I.os,I.bare,⟨fun b o e n hb hx=>?_,fun b o e n hb hx=>?_,I.base.free,fun b o e hx=>?_,I.base.tups,I.base.frzs,I.base.tbls⟩,⟨m,hn.sameBut hs (Ne.symm (cne x c hc)),fun j y v' e1 e2 e3=>?_⟩,fun y c' e=>?_,I.free,I.freeC,fun p hp=>?_,tracked ⟨oc,hoc,I.freeC x c hc⟩ hs,by simpa using I.len⟩ ⟨c,hs,.inr hc⟩
  ·exact (hs.2 b (Nat.ne_of_lt (Nat.lt_of_lt_of_le (Heap.lt_size e) (I.ok.cab x c hfn hc)))).trans (I.base.keep b o e n hb hx)
  ·obtain⟨sl,e1⟩:=I.base.slot b o e n hb hx
   exact⟨sl,(hs.2 b (Nat.ne_of_lt (Nat.lt_of_lt_of_le (Heap.lt_size e) (I.ok.cab x c hfn hc)))).trans e1⟩
  ·obtain⟨o',e1⟩:=I.base.there b o e hx
   exact⟨o',(hs.2 b (Nat.ne_of_lt (Nat.lt_of_lt_of_le (Heap.lt_size e) (I.ok.cab x c hfn hc)))).trans e1⟩
  ·by_cases hj:j=i
   ·subst hj
    rw[hi] at e1;cases e1;rw[List.getElem?_set_self hiσ] at e2;cases e2;exact⟨u,r,.inr ⟨.inl hk,c,hc,hc'⟩⟩
   ·rw[List.getElem?_set_ne (Ne.symm hj)] at e2
    obtain⟨u',r',q⟩:=hl j y v' e1 e2 e3;refine⟨u',r',?_⟩;rcases q with q|⟨k,c',e,z'⟩
    ·exact .inl q
    ·refine .inr ⟨k,c',e,z'.sameBut hs ?_⟩
     rintro rfl;exact hj (ZA hN e1 (I.ok.inj _ _ _ e hc ▸ hi))
  ·by_cases hcc:c'=c
   ·subst hcc;exact⟨_,hc'⟩
   ·obtain⟨w2,z2⟩:=I.cell y c' e
    exact⟨w2,z2.sameBut hs hcc⟩
  ·obtain⟨e,n,ne,nf,d⟩:=I.pin p hp
   refine⟨(hs.2 p.1 ?_).trans e,n,ne,nf,d⟩;intro q;rw[q,hoc] at e;have q':oc=p.2:=Option.some.inj e;exact d w' (by rw[<- q'];exact hocd)
theorem Z0 (I:Inv X pins σ H s) (hN:X.N.Nodup) (hi:X.N[i]?=some x) (hx:Loc X.env.scope x) (r:RelV v u)
  (h:∀ s',Inv X pins (σ.set i (some v)) H s'->Q () s') (hf:X.fn x=true\/X.env.scope.names.lookup x=some .local:=by first|exact .inl rfl|exact .inr rfl|assumption):wpAny M A (storeName X.env x u) Q E s :=
 AJ I hN hi hx r (fun s' I' _=>h s' I') hf
theorem Inv.call' (I:Inv X pins σ H s) (ho:s'.os=s.os) (u:Un (frs X.stack) ch H H' s.heap s'.heap) (hok:HOk X.prog X.w H' s'.heap) (hg:AllBare s'.gens)
  (hch:∀ b∈ch,(b∈X.ex\/X.s₀.heap.objs.size<=b)/\b≠X.env.locals/\(∀ x c,X.env.cells.lookup x=some c->c≠b)/\∀ p∈X.pn++pins,p.1≠b):Inv X pins σ H' s':=by
 obtain⟨h',g',d',t',o'⟩:=s';have e:o'=s.os:=ho;subst e;exact I.call (g':=g') (t':=t') (d':=d') u hok hg hch
end
abbrev XK:=Value->Option Addr->Hp->Prop
abbrev St:=List (Option V)
abbrev VK:=V->Hp->Prop
abbrev TE:=St->Hp->VK->Prop
abbrev TT:=St->Hp->(Bool->Hp->Prop)->Prop
abbrev TA:=St->Hp->(List V->Hp->Prop)->Prop
structure Ends where
 nx:St->Hp->Prop
 rt:VK
 bk:St->Hp->Prop:=fun _ _=>False
 ct:St->Hp->Prop:=fun _ _=>False
abbrev TS:=Ends->St->Hp->Prop
noncomputable def EP (X:Cx) (pins:List (Addr×Obj)) (σ:St) (Q:VK) (u:Value) (s':Shared):Prop:=∃ v H',Inv X pins σ H' s'/\RelV v u/\Q v H'
noncomputable def TP (X:Cx) (pins:List (Addr×Obj)) (σ:St) (Q:Bool->Hp->Prop) (b:Bool) (s':Shared):Prop:=∃ H',Inv X pins σ H' s'/\Q b H'
noncomputable def AP (X:Cx) (pins:List (Addr×Obj)) (σ:St) (Q:List V->Hp->Prop) (us:List Value) (s':Shared):Prop:=∃ vs H',Inv X pins σ H' s'/\Vals vs us/\Q vs H'
noncomputable def SP (X:Cx) (pins:List (Addr×Obj)) (D:Ends) (f:Flow) (s':Shared):Prop :=
 match f with
 | .next=>∃ σ' H',Inv X pins σ' H' s'/\D.nx σ' H'
 | .brk=>∃ σ' H',Inv X pins σ' H' s'/\D.bk σ' H'
 | .cont=>∃ σ' H',Inv X pins σ' H' s'/\D.ct σ' H'
 | .ret u=>∃ v σ' H',Inv X pins σ' H' s'/\RelV v u/\D.rt v H'
noncomputable def PE (X:Cx) (e:Expr) (t:TE):Prop :=
 ∀ (pins:List (Addr×Obj)) (s:Shared) (σ:St) (H:Hp) (Q:VK),Inv X pins σ H s->t σ H Q->wpAny (model X.prog X.w) X.A (eval e X.env) (EP X pins σ Q) X.xe s
noncomputable def PT (X:Cx) (e:Expr) (t:TT):Prop :=
 ∀ (pins:List (Addr×Obj)) (s:Shared) (σ:St) (H:Hp) (Q:Bool->Hp->Prop),Inv X pins σ H s->t σ H Q->wpAny (model X.prog X.w) X.A (isTrue e X.env (eval e X.env)) (TP X pins σ Q) X.xe s
noncomputable def PW (X:Cx) (e:Expr) (t:TT):Prop :=
 ∀ (whole:Sem Value) (pins:List (Addr×Obj)) (s:Shared) (σ:St) (H:Hp) (Q:Bool->Hp->Prop),Inv X pins σ H s->t σ H Q->wpAny (model X.prog X.w) X.A (isTrue e X.env whole) (TP X pins σ Q) X.xe s
theorem PW.pt (h:PW X e t):PT X e t:=h _
noncomputable def PA (X:Cx) (es:List Expr) (t:TA):Prop :=
 ∀ (pos:Pos) (pins:List (Addr×Obj)) (s:Shared) (σ:St) (H:Hp) (Q:List V->Hp->Prop),Inv X pins σ H s->t σ H Q->wpAny (model X.prog X.w) X.A (spliced (backTo pos (starEach es X.env))) (AP X pins σ Q) X.xe s
noncomputable def PS (X:Cx) (st:Stmt) (t:TS):Prop :=
 ∀ (pins:List (Addr×Obj)) (s:Shared) (σ:St) (H:Hp) (D:Ends),Inv X pins σ H s->t D σ H->wpAny (model X.prog X.w) X.A (exec st X.env) (SP X pins D) X.xe s
noncomputable def PSs (X:Cx) (st:List Stmt) (t:TS):Prop :=
 ∀ (pins:List (Addr×Obj)) (s:Shared) (σ:St) (H:Hp) (D:Ends),Inv X pins σ H s->t D σ H->wpAny (model X.prog X.w) X.A (execs st X.env) (SP X pins D) X.xe s
theorem thn (h:wpAny M A t Q E s) (hQ:∀ a s,Q a s->Q' a s):wpAny M A t Q' E s:=wpAny_mono h hQ fun _ _ x=>x
end L2
namespace L2
open PySem PySem.Spec PyProof.Rows
section
variable {X:Cx}
theorem bin {a b:Expr} {ta tb:TE} (ha:PE X a ta) (hb:PE X b tb) {pins:List (Addr×Obj)} {s:Shared} {σ:St} {H:Hp} {R:V->V->Hp->Prop} (I:Inv X pins σ H s) (h:ta σ H fun x H1=>tb σ H1 fun y H2=>R x y H2)
  {α:Type} {Q:α->Shared->Prop} {f:Value->Value->Sem α}
  (hf:∀ v u s2 x y H2,Inv X pins σ H2 s2->RelV x v->RelV y u->R x y H2->wpAny (model X.prog X.w) X.A (f v u) Q X.xe s2) :
  wpAny (model X.prog X.w) X.A (eval a X.env) (fun v s₁=>wpAny (model X.prog X.w) X.A (eval b X.env) (fun u s₂=>wpAny (model X.prog X.w) X.A (f v u) Q X.xe s₂) X.xe s₁) X.xe s:=by
 refine thn (ha pins s σ H _ I h) fun v s1 hq2=>?_;obtain⟨x,H1,I1,r1,q1⟩:=hq2;refine thn (hb pins s1 σ H1 _ I1 q1) fun u s2 hq2=>?_;obtain⟨y,H2,I2,r2,q2⟩:=hq2;exact hf v u s2 x y H2 I2 r1 r2 q2
noncomputable def tVar (i:Nat):TE:=fun σ H Q=>∃ v,σ[i]?=some (some v)/\Q v H
noncomputable def tC (v:V):TE:=fun _ H Q=>Q v H
theorem XU (hN:X.N[i]?=some x) (hv:Vis X.env.scope x) (hd:(x==("__debug__":Str))=false:=by decide) (hcd:(x==("__classdict__":Str))=false:=by decide):PE X (.Name x pos) (tVar i):=by
 intro pins s σ H Q I h;obtain⟨v,e,h⟩:=h;obtain⟨m,hn,hl⟩:=I.loc;obtain⟨u,r,l⟩:=hl i x v hN e hv;have fin:EP X pins σ Q u s:=⟨v,H,I,r,h⟩;rcases l with ⟨hk,hm⟩|⟨hk,c,hc,hcell⟩
 ·exact wpAny_Name (wpAny_loadName_local I.ok.kind hk hn hm fin) hd
 ·rcases hk with hk|hk
  ·exact wpAny_Name (wpAny_loadName_cell I.ok.kind hk hc hcell fin) hd
  ·exact wpAny_Name (wpAny_loadName_free I.ok.kind hk hc hcell fin hcd) hd
theorem Gw {i j pos}:PE X (.Constant (.int i) j pos) (tC (.int i)):=fun _ _ _ H _ I h=>wpAny_Constant_int ⟨.int i,H,I.tok _,⟨_,rfl⟩,h⟩
theorem Iq {b j pos}:PE X (.Constant (.bool b) j pos) (tC (.bl b)):=fun _ _ _ H _ I h=>Constant_bool ⟨.bl b,H,I,rfl,h⟩
theorem Gu {j pos}:PE X (.Constant .none j pos) (tC .non):=fun _ _ _ H _ I h=>Constant_none ⟨.non,H,I,rfl,h⟩
theorem Wq {x j pos}:PE X (.Constant (.str x) j pos) (tC (.str x)):=fun _ _ _ H _ I h=>Calls.Constant_str ⟨.str x,H,I.tok _,⟨_,rfl⟩,h⟩
noncomputable def Gl (X:Cx) (x:Str):Prop:=X.env.kindOf x=some .globalImplicit
theorem Zu (I:Inv X pins σ H s) (hg:Gl X x) (hm:X.mg x=some u) (h:Q u s)
  (hd:(x==("__debug__":Str))=false:=by decide):wpAny (model X.prog X.w) X.A (eval (.Name x pos) X.env) Q E s :=
 Calls.Name_function_global I.ok.kind hg (Calls.loadGlobal_global (by rw[I.ok.glob];exact I.mod.glob.keeps I.bk) hm h) hd
theorem Wt (I:Inv X pins σ H s) (hg:Gl X x) (hm:X.mg x=none) (hv:bootBuiltins x=some u) (h:Q u s)
  (hn:x≠"__name__":=by decide) (hd:(x==("__debug__":Str))=false:=by decide):wpAny (model X.prog X.w) X.A (eval (.Name x pos) X.env) Q E s:=by
 obtain⟨mb,h1,h2⟩:=I.mod.blt;exact Calls.Name_function_global I.ok.kind hg (Calls.loadGlobal_builtin (by rw[I.ok.glob];exact I.mod.glob.keeps I.bk) hm (by rw[I.ok.blt];exact h1.keeps I.bk) ((h2 x hn).trans hv) h) hd
theorem El (hg:Gl X x) (hm:X.mg x=some u) (r:RelV v u) (hd:(x==("__debug__":Str))=false:=by decide):PE X (.Name x pos) (tC v) :=
 fun _ _ _ H _ I h=>Zu I hg hm ⟨v,H,I,r,h⟩ hd
theorem Eo (hg:Gl X x) (hm:X.mg x=none) (hv:bootBuiltins x=some u) (r:RelV v u) (hn:x≠"__name__":=by decide) (hd:(x==("__debug__":Str))=false:=by decide):PE X (.Name x pos) (tC v) :=
 fun _ _ _ H _ I h=>Wt I hg hm hv ⟨v,H,I,r,h⟩ hn hd
variable {a b:Expr} {ta tb:TE} {pos:Pos}
noncomputable def tB (t:TE):TT:=fun σ H Q=>t σ H fun x H1=>∃ c,x=.bl c/\Q c H1
variable {tA tB':TT} {rest:List Expr}
noncomputable def tAnd (t u:TT):TT:=fun σ H Q=>t σ H fun c H1=>if c=true then u σ H1 Q else Q false H1
noncomputable def tOr (t u:TT):TT:=fun σ H Q=>t σ H fun c H1=>if c=true then Q true H1 else u σ H1 Q
noncomputable def tNot (t:TT):TT:=fun σ H Q=>t σ H fun c H1=>Q (!c) H1
theorem Ec (ha:PT X a tA):PW X (.BoolOp .And [a] pos) tA:=by
 intro wh pins s σ H Q I h;refine isTrue_and (thn (ha pins s σ H Q I h) fun c s1 e=>?_);cases c with
 | true=>exact isTrue_and_nil e
 | false=>exact e
theorem Ge (ha:PT X a tA):PW X (.BoolOp .Or [a] pos) tA:=by
 intro wh pins s σ H Q I h;refine isTrue_or (thn (ha pins s σ H Q I h) fun c s1 e=>?_);cases c with
 | false=>exact isTrue_or_nil e
 | true=>exact e
theorem Gf (ha:PT X a tA) (hb:PW X (.BoolOp .And (b::rest) pos) tB'):PW X (.BoolOp .And (a::b::rest) pos) (tAnd tA tB'):=by
 intro wh pins s σ H Q I h;refine isTrue_and (thn (ha pins s σ H _ I h) fun c s1 hq2=>?_);obtain⟨H1,I1,q1⟩:=hq2;cases c with
 | true=>exact hb wh pins s1 σ H1 Q I1 q1
 | false=>exact⟨H1,I1,q1⟩
theorem Ij (ha:PT X a tA) (hb:PW X (.BoolOp .Or (b::rest) pos) tB'):PW X (.BoolOp .Or (a::b::rest) pos) (tOr tA tB'):=by
 intro wh pins s σ H Q I h;refine isTrue_or (thn (ha pins s σ H _ I h) fun c s1 hq2=>?_);obtain⟨H1,I1,q1⟩:=hq2;cases c with
 | true=>exact⟨H1,I1,q1⟩
 | false=>exact hb wh pins s1 σ H1 Q I1 q1
theorem Gh (ha:PT X a tA):PT X (.UnaryOp .Not a pos) (tNot tA):=by
 intro pins s σ H Q I h;exact isTrue_not (ha pins s σ H (fun c H1=>Q (!c) H1) I h)
noncomputable def Ia (ta tb:TE):TE:=fun σ H Q=>ta σ H fun x H1=>∃ c,x=.bl c/\if c=true then tb σ H1 Q else Q (.bl false) H1
noncomputable def tOrV (ta tb:TE):TE:=fun σ H Q=>ta σ H fun x H1=>∃ c,x=.bl c/\if c=true then Q (.bl true) H1 else tb σ H1 Q
noncomputable def HX (ta:TE):TE:=fun σ H Q=>ta σ H fun x H1=>∃ c,x=.bl c/\Q (.bl (!c)) H1
theorem Gr {op} (h:PE X a t):PE X (.BoolOp op [a] pos) t:=fun pins s σ H Q I hw=>BoolOp_one (h pins s σ H Q I hw)
theorem Gx (ha:PE X a ta) (hb:PE X (.BoolOp .And (b::rest) pos) tb):PE X (.BoolOp .And (a::b::rest) pos) (Ia ta tb):=by
 intro pins s σ H Q I h;refine BoolOp_and (thn (ha pins s σ H _ I h) fun v s1 hq2=>?_);obtain⟨x,H1,I1,r1,q1⟩:=hq2;obtain⟨c,rfl,q1⟩:=q1;cases r1;refine wpAny_truthy_bool ?_;cases c with
 | true=>exact hb pins s1 σ H1 Q I1 q1
 | false=>exact⟨.bl false,H1,I1,rfl,q1⟩
theorem Im (ha:PE X a ta) (hb:PE X (.BoolOp .Or (b::rest) pos) tb):PE X (.BoolOp .Or (a::b::rest) pos) (tOrV ta tb):=by
 intro pins s σ H Q I h;refine BoolOp_or (thn (ha pins s σ H _ I h) fun v s1 hq2=>?_);obtain⟨x,H1,I1,r1,q1⟩:=hq2;obtain⟨c,rfl,q1⟩:=q1;cases r1;refine wpAny_truthy_bool ?_;cases c with
 | false=>exact hb pins s1 σ H1 Q I1 q1
 | true=>exact⟨.bl true,H1,I1,rfl,q1⟩
theorem Gs (ha:PE X a ta):PE X (.UnaryOp .Not a pos) (HX ta):=by
 intro pins s σ H Q I h;refine UnaryOp_ (thn (ha pins s σ H _ I h) fun v s1 hq2=>?_);obtain⟨x,H1,I1,r1,q1⟩:=hq2;obtain⟨c,rfl,q1⟩:=q1;cases r1;exact not_of (wpAny_truthy_bool ⟨.bl (!c),H1,I1,rfl,q1⟩)
noncomputable def tIf (t:TT) (ta tb:TE):TE:=fun σ H Q=>t σ H fun c H1=>if c=true then ta σ H1 Q else tb σ H1 Q
theorem Ce (hc:PT X c tA) (ha:PE X a ta) (hb:PE X b tb):PE X (.IfExp c a b pos) (tIf tA ta tb):=by
 intro pins s σ H Q I h;refine wpAny_IfExp (thn (hc pins s σ H _ I h) fun d s1 hq2=>?_);obtain⟨H1,I1,q1⟩:=hq2;cases d with
 | true=>exact ha pins s1 σ H1 Q I1 q1
 | false=>exact hb pins s1 σ H1 Q I1 q1
end
end L2
namespace L2
open PySem PySem.Spec PyProof.Rows
noncomputable def SqL (K:Frag) (H:Hp) (a:Addr) (xs:List V):Prop :=
 Rd H a (.lst xs) \/
  ∃ (o:Obj) (its:Array Value) (n:Nat),K.lookup a=some o/\o.cls=.type "list"/\o.dict=none/\o.data=.seq its n/\its.size<=sizeLine/\Vals xs its.toList
noncomputable def SqT (K:Frag) (H:Hp) (a:Addr) (xs:List V):Prop :=
 Rd H a (.tup xs) \/
  ∃ (o:Obj) (its:Array Value) (n:Nat),K.lookup a=some o/\o.cls=.type "tuple"/\o.data=.seq its n/\its.size<=sizeLine/\Vals xs its.toList
noncomputable def absV:Value->Option V
 | .none=>some .non
 | .bool b=>some (.bl b)
 | .int i _=>some (.int i)
 | .str x _=>some (.str x)
 | .bytes b _=>some (.byt b)
 | .float b _=>some (.flt b)
 | .ref a=>some (.ref a)
 | .type n=>some (.ty n)
 | _=>none
theorem RelV.abs (r:RelV x u):absV u=some x:=by
 cases x with
 | non=>cases r;rfl
 | bl _=>cases r;rfl
 | int _=>obtain⟨t,rfl⟩:=r;rfl
 | str _=>obtain⟨t,rfl⟩:=r;rfl
 | byt _=>obtain⟨t,rfl⟩:=r;rfl
 | flt _=>obtain⟨t,rfl⟩:=r;rfl
 | ref _=>cases r;rfl
 | ty _=>cases r;rfl
theorem RelV.inj (r:RelV x u) (q:RelV y u):x=y:=Option.some.inj (r.abs.symm.trans q.abs)
theorem Vals.inj:∀ {xs ys:List V} {us:List Value},Vals xs us->Vals ys us->xs=ys
 | _,_,_,.nil,.nil=>rfl
 | _,_,_,.cons r t,.cons r' t'=>by rw[r.inj r',Vals.inj t t']
section
variable {X:Cx} {pins:List (Addr×Obj)} {σ:St} {H:Hp} {s:Shared} {a:Addr} {xs ys:List V}
theorem SqL.of {K:Frag} (h:H a=some (.lst xs)):SqL K H a xs:=.inl (.inl h)
theorem SqT.of {K:Frag} (h:H a=some (.tup xs)):SqT K H a xs:=.inl (.inl h)
theorem Inv.list (I:Inv X pins σ H s) (h:SqL X.K H a xs):∃ its:List Value,Vals xs its/\PlainL s.heap a its.toArray/\xs.length<=sizeLine:=by
 rcases h with h|⟨o,its,n,hk,hc,hd,hs,hz,r⟩
 ·obtain⟨z,its,n,r,e⟩:=h.ok I.hok
  exact⟨its,r,⟨_,n,e,rfl,rfl,rfl⟩,z⟩
 ·refine⟨its.toList,r,⟨o,n,I.kIn a o hk,hc,hd,by simpa using hs⟩,?_⟩
  have e:=r.length;simp only[Array.length_toList] at e;omega
theorem Inv.tuple (I:Inv X pins σ H s) (h:SqT X.K H a xs):∃ its:List Value,Vals xs its/\IsTup s.heap a its.toArray/\xs.length<=sizeLine:=by
 rcases h with h|⟨o,its,n,hk,hc,hs,hz,r⟩
 ·obtain⟨z,its,r,p⟩:=h.ok I.hok
  exact⟨its,r,p,z⟩
 ·refine⟨its.toList,r,⟨o,I.kIn a o hk,hc,n,by simpa using hs⟩,?_⟩
  have e:=r.length;simp only[Array.length_toList] at e;omega
theorem Inv.list_inj (I:Inv X pins σ H s) (h:SqL X.K H a xs) (h':SqL X.K H a ys):xs=ys:=by
 obtain⟨its,r,⟨o,n,e,_,_,d⟩,_⟩:=I.list h;obtain⟨its',r',⟨o',n',e',_,_,d'⟩,_⟩:=I.list h';rw[e] at e';cases e';rw[d] at d';injection d' with d1 _
 have:its=its':=by simpa using congrArg Array.toList d1
 subst this;exact r.inj r'
theorem Inv.tuple_inj (I:Inv X pins σ H s) (h:SqT X.K H a xs) (h':SqT X.K H a ys):xs=ys:=by
 obtain⟨its,r,⟨o,e,_,n,d⟩,_⟩:=I.tuple h;obtain⟨its',r',⟨o',e',_,n',d'⟩,_⟩:=I.tuple h';rw[e] at e';cases e';rw[d] at d';injection d' with d1 _
 have:its=its':=by simpa using congrArg Array.toList d1
 subst this;exact r.inj r'
end
section
variable {X:Cx} {pins:List (Addr×Obj)} {σ:St} {H:Hp} {s:Shared} {E:Value->Shared->Prop}
end
section
variable {X:Cx} {st:Stmt} {rest:List Stmt} {t u:TS} {e:Expr} {te:TE} {pos:Pos}
noncomputable def Fx:TS:=fun D σ H=>D.nx σ H
noncomputable def tSeq (t u:TS):TS:=fun D σ H=>t {D with nx:=u D} σ H
theorem pss_nil:PSs X [] Fx:=fun _ _ σ H _ I h=>wpAny_execs_nil ⟨σ,H,I,h⟩
theorem UW (h1:PS X st t) (h2:PSs X rest u):PSs X (st::rest) (tSeq t u):=by
 intro pins s σ H D I h;refine wpAny_execs_cons (thn (h1 pins s σ H {D with nx:=u D} I h) fun f s1 q=>?_);cases f with
 | next =>
  obtain⟨σ',H',I',q⟩:=q;exact h2 pins s1 σ' H' D I' q
 | ret v=>exact q
 | brk=>exact q
 | cont=>exact q
theorem Inv.quiet (I:Inv X pins σ H s):interactive X.env=false:=by simp[interactive,I.ok.kind]
noncomputable def HY (te:TE):TS:=fun D σ H=>te σ H fun _ H1=>D.nx σ H1
theorem Eg (he:PE X e te) (hs:swapsWith e none pos.line X.env=pure false:=by rfl):PS X (.Expr e pos) (HY te):=by
 intro pins s σ H D I h;exact wpAny_Expr_any (thn (he pins s σ H _ I h) (by rintro v s1 ⟨x,H1,I1,r1,q1⟩;exact⟨σ,H1,I1,q1⟩)) I.quiet hs
noncomputable def tRet (te:TE):TS:=fun D σ H=>te σ H D.rt
theorem Gi (he:PE X e te):PS X (.Return (some e) pos) (tRet te):=by
 intro pins s σ H D I h;exact wpAny_Return_some (thn (he pins s σ H _ I h) (by rintro v s1 ⟨x,H1,I1,r1,q1⟩;exact⟨x,σ,H1,I1,r1,q1⟩))
noncomputable def tIfS (c:TT) (t u:TS):TS:=fun D σ H=>c σ H fun b H1=>if b=true then t D σ H1 else u D σ H1
theorem Ik (hc:PT X c tc) (ha:PSs X a t) (hb:PSs X b u):PS X (.If c a b pos) (tIfS tc t u):=by
 intro pins s σ H D I h;refine wpAny_If (thn (hc pins s σ H _ I h) fun d s1 hq2=>?_);obtain⟨H1,I1,q1⟩:=hq2;cases d with
 | true=>exact ha pins s1 σ H1 D I1 q1
 | false=>exact hb pins s1 σ H1 D I1 q1
end
abbrev TG:=V->St->Hp->(St->Hp->Prop)->Prop
abbrev TGs:=List V->St->Hp->(St->Hp->Prop)->Prop
noncomputable def PG (X:Cx) (target:Expr) (t:TG):Prop :=
 ∀ (pins:List (Addr×Obj)) (s:Shared) (σ:St) (H:Hp) (v:V) (u:Value) (Q:St->Hp->Prop),Inv X pins σ H s->RelV v u->t v σ H Q ->
  wpAny (model X.prog X.w) X.A (assign target X.env u) (fun _ s'=>∃ σ' H',Inv X pins σ' H' s'/\Q σ' H') X.xe s
noncomputable def PGs (X:Cx) (ts:List Expr) (t:TGs):Prop :=
 ∀ (pins:List (Addr×Obj)) (s:Shared) (σ:St) (H:Hp) (vs:List V) (us:List Value) (Q:St->Hp->Prop),Inv X pins σ H s->Vals vs us->t vs σ H Q ->
  wpAny (model X.prog X.w) X.A (assignInOrder ((assignEach ts X.env).map (·.2)) us) (fun _ s'=>∃ σ' H',Inv X pins σ' H' s'/\Q σ' H') X.xe s
abbrev TSet:=V->V->V->Hp->(Hp->Prop)->Prop
noncomputable def PSet (X:Cx) (t:TSet):Prop :=
 ∀ (pins:List (Addr×Obj)) (s:Shared) (σ:St) (H:Hp) (o i v:V) (ov iv u:Value) (Q:Hp->Prop),Inv X pins σ H s->RelV o ov->RelV i iv->RelV v u->t o i v H Q ->
  wpAny (model X.prog X.w) X.A (setItem ov iv u) (fun _ s'=>∃ H',Inv X pins σ H' s'/\Q H') X.xe s
section
variable {X:Cx} {pos:Pos}
noncomputable def D0 (i:Nat):TG:=fun v σ H Q=>Q (σ.set i (some v)) H
theorem Ek (hN:X.N.Nodup) (hi:X.N[i]?=some x) (hx:Loc X.env.scope x) (hf:X.fn x=true\/X.env.scope.names.lookup x=some .local:=by first|exact .inl rfl|exact .inr rfl|assumption):PG X (.Name x pos) (D0 i):=by
 intro pins s σ H v u Q I r h;exact wpAny_assign_Name (Z0 I hN hi hx r (fun s' I'=>⟨_,H,I',h⟩) hf)
noncomputable def gNil:TGs:=fun vs σ H Q=>vs=[]/\Q σ H
noncomputable def Y7 (t:TG) (u:TGs):TGs:=fun vs σ H Q=>∃ v r,vs=v::r/\t v σ H fun σ' H'=>u r σ' H' Q
theorem pgs_nil:PGs X [] gNil:=by
 intro pins s σ H vs us Q I r h;obtain⟨e,h⟩:=h;subst e;cases r;exact assignInOrder_nil ⟨σ,H,I,h⟩
theorem Cd (h1:PG X e t) (h2:PGs X es u)
  (hs:(assignEach (e::es) X.env).map (·.2)=assign e X.env::(assignEach es X.env).map (·.2):=by rfl):PGs X (e::es) (Y7 t u):=by
 intro pins s σ H vs us Q I r h;obtain⟨v,vr,e1,h⟩:=h;subst e1;cases r with
 | cons r rr =>
  rw[hs];refine assignInOrder_cons (thn (h1 pins s σ H _ _ _ I r h) fun _ s1 hq2=>?_);obtain⟨σ1,H1,I1,q1⟩:=hq2;exact h2 pins s1 σ1 H1 _ _ Q I1 rr q1
noncomputable def gTup (K:Frag) (n:Nat) (t:TGs):TG:=fun v σ H Q=>∃ a xs,v=.ref a/\SqT K H a xs/\xs.length=n/\t xs σ H Q
theorem Go (hc:X.calm=true) (h:PGs X es t)
  (hn:(assignEach es X.env).length=n:=by rfl) (hst:(assignEach es X.env).findIdx? (·.1)=none:=by rfl):PG X (.Tuple es k pos) (gTup X.K n t):=by
 intro pins s σ H v u Q I r hw;obtain⟨a,xs,e1,hq,hl,hw⟩:=hw;subst e1;cases r;obtain⟨its,rv,ht,hz⟩:=I.tuple hq;refine assign_Tuple_tuple (I.ok.hd hc) ht (by simp[hn,<- hl,rv.length]) hst fun h' hx=>?_;have I1:Inv X pins σ H {s with heap:=h'}:=I.kept (t':=s.toks) fun b o e=>hx b o (Nat.ne_of_lt (Heap.lt_size e)) e;exact h pins _ σ H xs _ Q I1 (by simpa using rv) hw
noncomputable def gSub (to ti:TE) (t:TSet):TG:=fun v σ H Q=>to σ H fun o H1=>ti σ H1 fun i H2=>t o i v H2 fun H3=>Q σ H3
theorem Gp (ho:PE X o to) (hi:PE X i ti) (hs:PSet X t)
  (ha:∀ v,assign (.Subscript o i pos) X.env v=(do
   let ov <- holding [v] (eval o X.env)
   let iv <- holding [v,ov] (eval i X.env)
   standAt pos
   holding [v,ov,iv] (setItem ov iv v)
   release [v,ov,iv] []):=by intro _;rfl):PG X (.Subscript o i pos) (gSub to ti t):=by
 intro pins s σ H v u Q I r h;rw[ha];refine wpAny_bind (wpAny_holding (thn (ho pins s σ H _ I h) fun ov s1 hq2=>?_));obtain⟨x,H1,I1,r1,q1⟩:=hq2;refine wpAny_bind (wpAny_holding (thn (hi pins s1 σ H1 _ I1 q1) fun iv s2 hq2=>?_));obtain⟨y,H2,I2,r2,q2⟩:=hq2;refine wpAny_bind (wpAny_standAt (wpAny_bind (wpAny_holding (thn (hs pins s2 σ H2 x y v ov iv u _ I2 r1 r2 r q2) fun _ s3 hq2=>?_))));obtain⟨H3,I3,q3⟩:=hq2;exact wpAny_release ⟨σ,H3,I3,q3⟩
noncomputable def tAsg (te:TE) (g:TG):TS:=fun D σ H=>te σ H fun x H1=>g x σ H1 D.nx
theorem Gm (he:PE X e te) (hg:PG X tg g) (hs:swapsWithSole [tg] e pos.line X.env=pure false:=by rfl) (hw:swappedStores [tg] e X.env=pure none:=by rfl)
  (h1:(assignEach [tg] X.env).map (·.2)=[assign tg X.env]:=by rfl):PS X (.Assign [tg] e pos) (tAsg te g):=by
 intro pins s σ H D I h;refine wpAny_Assign_stores (thn (he pins s σ H _ I h) fun v s1 hq2=>?_) hs hw;obtain⟨x,H1,I1,r1,q1⟩:=hq2;rw[h1];exact thn (hg pins s1 σ H1 x v _ I1 r1 q1) fun _ s2 q=>q
theorem BX (hN:X.N.Nodup) (hi:X.N[i]?=some x) (hx:Loc X.env.scope x) (he:PE X e te) (hs:swapsWith e (some (.Name x pos')) pos.line X.env=pure false:=by rfl) (hf:X.fn x=true\/X.env.scope.names.lookup x=some .local:=by first|exact .inl rfl|exact .inr rfl|assumption) :
  PS X (.Assign [.Name x pos'] e pos) (tAsg te (D0 i)):=by
 intro pins s σ H D I h;refine wpAny_Assign_Name (thn (he pins s σ H _ I h) fun v s1 hq2=>?_) hs;obtain⟨y,H1,I1,r1,q1⟩:=hq2;exact Z0 I1 hN hi hx r1 (fun s2 I2=>⟨_,H1,I2,q1⟩) hf
noncomputable def tPar (i j:Nat) (ta:TA):TS:=fun D σ H=>ta σ H fun vs H1=>∃ v w,vs=[v,w]/\D.nx ((σ.set i (some v)).set j (some w)) H1
theorem Gj {kt k2 pt2} (hc:X.calm=true) (hN:X.N.Nodup) (hi:X.N[i]?=some x) (hj:X.N[j]?=some y) (hij:i≠j)
  (hx:X.env.scope.names.lookup x=some .local) (hy:X.env.scope.names.lookup y=some .local) (ha:PA X [a,b] ta)
  (hw:swappedStores [.Tuple [.Name x px,.Name y py] kt pt] (.Tuple [a,b] k2 pt2) X.env=pure (some [x,y]))
  (hs:swapsWithSole [.Tuple [.Name x px,.Name y py] kt pt] (.Tuple [a,b] k2 pt2) pos.line X.env=pure false:=by rfl) :
  PS X (.Assign [.Tuple [.Name x px,.Name y py] kt pt] (.Tuple [a,b] k2 pt2) pos) (tPar i j ta):=by
 intro pins s σ H D I h;rw[exec_Assign_arm];refine wpAny_bind (wpAny_standAt ?_);rw[hs];refine wpAny_bind (wpAny_pure ?_);rw[if_neg %[|4]];refine wpAny_bind (Tuple_ (thn (ha _ pins s σ H _ I h) fun us s1 hq2=>?_));obtain⟨vs,H1,I1,r1,q1⟩:=hq2;obtain⟨v,w,e1,q1⟩:=q1;subst e1;obtain⟨u1,u2,rfl,rv,rw'⟩:∃ u1 u2,us=[u1,u2]/\RelV v u1/\RelV w u2:=by
  cases r1 with
  | cons p q =>
   cases q with
   | cons p' q' =>
    cases q';exact⟨_,_,rfl,p,p'⟩
 refine wpAny_newObj_type ?_ (by show 2<=sizeLine;decide);have I2:Inv X pins σ H1 {s1 with heap:=s1.heap.push {cls:=.type "tuple",data:=.seq [u1,u2].toArray}}:=I1.kept (t':=s1.toks) fun b o e=>Heap.get?_push_of_some _ e;rw[hw];refine wpAny_bind (wpAny_pure ?_);show wpAny (model X.prog X.w) X.A (do rule "assign.swapped-stores";let items <- unpackItems (.ref s1.heap.objs.size) 2 none;assignInOrder [fun v=>bindName X.env y v,fun v=>bindName X.env x v] items.reverse;pure Flow.next) _ _ _;refine wpAny_bind (wpAny_rule (wpAny_bind (unpackItems_tuple (items:=#[u1,u2]) (I.ok.hd hc) (IsTup.new s1.heap _) fun h' hx'=>?_)));have I3:=I2.kept (h':=h') (t':=s1.toks) fun b o e=>hx' b o (Nat.ne_of_lt (Heap.lt_size e)) e;show wpAny _ _ (assignInOrder [fun v=>bindName X.env y v,fun v=>bindName X.env x v] [u2,u1] >>= fun _=>pure Flow.next) _ _ _;refine wpAny_bind (assignInOrder_cons (wpAny_bindName (Z0 I3 hN hj (.inl hy) rw' (fun s2 I4=>?_) (.inr hy))))
 refine assignInOrder_cons (wpAny_bindName (Z0 I4 hN hi (.inl hx) rv (fun s3 I5=>assignInOrder_nil (wpAny_pure ?_)) (.inr hx)));rw[List.set_comm _ _ (Ne.symm hij)] at I5;exact⟨_,H1,I5,q1⟩
end
section
variable {X:Cx} {pos:Pos}
noncomputable def FW (c:TT) (tb:TS):TS:=fun D σ H=>∃ W:Nat->St->Hp->Prop,(∃ m,W m σ H)/\∀ m σ H,W m σ H ->
 c σ H fun b H1=>if b=true then ∃ N:St->Hp->Prop,(∀ σ' H',N σ' H'->∃ m',m'<m/\W m' σ' H')/\tb {D with nx:=N,ct:=N,bk:=D.nx} σ H1 else D.nx σ H1
theorem BV (hp:PassesOwn (model X.prog X.w) X.A X.env X.xe) (hc:PT X c tc) (hb:PSs X body tb):PS X (.While c body [] pos) (FW tc tb):=by
 intro pins s σ H D I h;obtain⟨W,⟨m0,w0⟩,turn⟩:=h;refine wpAny_While (codeAny_whileLoop (fun n s'=>∃ σ' H',Inv X pins σ' H' s'/\W n σ' H') ?_ m0 ⟨σ,H,I,w0⟩);rintro n s1 ⟨σ1,H1,I1,w1⟩;refine wpAny_passesOwn hp (thn (hc pins s1 σ1 H1 _ I1 (turn n σ1 H1 w1)) fun b s2 hq2=>?_);obtain⟨H2,I2,q2⟩:=hq2;cases b with
 | true =>
  obtain⟨N,hN,q2⟩:=q2;rw[if_pos rfl];refine wpAny_passesOwn hp (thn (hb pins s2 σ1 H2 _ I2 q2) fun f s3 q3=>?_);cases f with
  | next =>
   obtain⟨σ3,H3,I3,n3⟩:=q3;obtain⟨m',hm,w3⟩:=hN σ3 H3 n3;exact⟨m',hm,σ3,H3,I3,w3⟩
  | cont =>
   obtain⟨σ3,H3,I3,n3⟩:=q3;obtain⟨m',hm,w3⟩:=hN σ3 H3 n3;exact⟨m',hm,σ3,H3,I3,w3⟩
  | brk=>exact q3
  | ret v=>exact q3
 | false =>
  rw[if_neg Bool.false_ne_true];exact wpAny_execs_nil ⟨σ1,H2,I2,q2⟩
end
structure It where
 go:Nat->Hp->Prop
 yld:Nat->Hp->V->Hp->Prop
 stop:Nat->Hp->Prop
noncomputable def FpOk (X:Cx) (pins:List (Addr×Obj)) (H:Hp) (b:Addr):Prop :=
 H b=none/\b≠X.env.locals/\b ∉ X.fs/\(b∈X.ex\/X.s₀.heap.objs.size<=b)/\(∀ x c,X.env.cells.lookup x=some c->c≠b)/\∀ p∈X.pn++pins,p.1≠b
theorem Inv.fpOk (I:Inv X pins σ H s) (hb:s.heap.objs.size<=b) (hn:H' b=none):FpOk X pins H' b:=by
 refine⟨hn,Nat.ne_of_gt (Nat.lt_of_lt_of_le I.lt hb),I.nofs hb,.inr (Nat.le_trans I.sz hb),fun x c e z=>?_,fun p hp z=>?_⟩
 ·obtain⟨v,q⟩:=I.cell x c e
  exact absurd (Nat.lt_of_lt_of_le q.lt (by rw[z];exact hb)) (Nat.lt_irrefl _)
 ·exact absurd (Nat.lt_of_lt_of_le (Heap.lt_size (I.pin p hp).1) (by rw[z];exact hb)) (Nat.lt_irrefl _)
structure Turn (P:Program) (w:World) (K:Frag) (tg:Expr) (J:It) (fp:List Addr) (it:Addr) (tn:Nat->Heap->Prop):Prop where
 mem:it∈fp
 obj:∀ i h,tn i h->∀ b∈fp,∃ o,h.get? b=some o/\∀ v,o.data≠.cell v
 keep:∀ i h h',tn i h->(∀ b∈fp,∀ o,h.get? b=some o->h'.get? b=some o)->tn i h'
 item:∀ (X:Cx),X.prog=P->X.w=w->X.K=K->X.calm=true->∀ (i:Nat) (pins:List (Addr×Obj)) (s:Shared) (σ:St) (H:Hp) (E:Value->Shared->Prop),Inv X pins σ H s->(∀ b∈fp,FpOk X pins H b)->tn i s.heap->J.go i H ->
  wpAny (model P w) X.A (pyNext (.ref it)) (fun r s1=>∃ u,r=some u /\
   wpAny (model P w) X.A (letOwnedTupleGo tg (.ref it) u) (fun _ s2=>∃ x H',Inv X pins σ H' s2/\RelV x u/\J.yld i H x H'/\tn (i+1) s2.heap/\∀ b∈fp,H' b=none) E s1) E s
 done:∀ (X:Cx),X.prog=P->X.w=w->X.K=K->X.calm=true->∀ (i:Nat) (pins:List (Addr×Obj)) (s:Shared) (σ:St) (H:Hp) (E:Value->Shared->Prop),Inv X pins σ H s->(∀ b∈fp,FpOk X pins H b)->tn i s.heap->J.stop i H ->
  wpAny (model P w) X.A (pyNext (.ref it)) (fun r s1=>r=none/\Inv X pins σ H s1) E s
 self:∀ (A:Around) (i:Nat) (s:Shared) (Q:Value->Shared->Prop) (E:Value->Shared->Prop),tn i s.heap->Q (.ref it) s->wpAny (model P w) A (pyIter (.ref it)) Q E s
abbrev TI:=St->Hp->(It->Hp->Prop)->Prop
noncomputable def PIE (X:Cx) (pins:List (Addr×Obj)) (σ:St) (tg:Expr) (R:It->Hp->Prop) (itv:Value) (s2:Shared):Prop :=
 ∃ (it:Addr) (fp:List Addr) (tn:Nat->Heap->Prop) (J:It) (H':Hp),itv=.ref it/\Inv X pins σ H' s2/\Turn X.prog X.w X.K tg J fp it tn/\tn 0 s2.heap/\(∀ b∈fp,FpOk X pins H' b)/\R J H'
noncomputable def PI (X:Cx) (tg iter:Expr) (wi:TI):Prop :=
 ∀ (pins:List (Addr×Obj)) (s:Shared) (σ:St) (H:Hp) (R:It->Hp->Prop),Inv X pins σ H s->wi σ H R ->
  wpAny (model X.prog X.w) X.A (eval iter X.env) (fun v s1=>wpAny (model X.prog X.w) X.A (pyIter v) (PIE X pins σ tg R) X.xe s1) X.xe s
theorem Jb (ho:s.heap.get? it=some o) (hc:o.cls=.type n) (hd:o.data=.fields vs)
    (hn:["enumerate","zip","dict_itemiterator","dict_reverseitemiterator","odict_iterator","itertools.zip_longest","itertools.pairwise"].contains n=false) (hQ:Q () s):wpAny M A (letOwnedTupleGo tg (.ref it) u) Q E s:=by
  unfold letOwnedTupleGo;cases tg<;>first
    | exact wpAny_pure hQ
    | (cases u<;>first
        | exact wpAny_pure hQ
        | (refine wpAny_bind (wpAny_load ho ?_)
           rw[hc,hd];show wpAny M A (if (["enumerate","zip","dict_itemiterator","dict_reverseitemiterator","odict_iterator","itertools.zip_longest","itertools.pairwise"].contains n&&vs[0]?==some (rawInt _))=true then _ else _) Q E s;rw[if_neg (by intro h;rw[hn,Bool.false_and] at h;cases h)];exact wpAny_pure hQ))
noncomputable def Itl (K:Frag) (a:Addr):It :=
 ⟨fun i H=>∃ xs x,SqL K H a xs/\xs[i]?=some x,fun i H x H'=>H'=H/\∀ xs,SqL K H a xs->xs[i]?=some x,fun i H=>∃ xs,SqL K H a xs/\xs.length<=i⟩
noncomputable def Itt (K:Frag) (a:Addr):It :=
 ⟨fun i H=>∃ xs x,SqT K H a xs/\xs[i]?=some x,fun i H x H'=>H'=H/\∀ xs,SqT K H a xs->xs[i]?=some x,fun i H=>∃ xs,SqT K H a xs/\xs.length<=i⟩
noncomputable def Itr (lo:Int) (n:Nat):It:=⟨fun i _=>i<n,fun i H x H'=>H'=H/\x=.int (lo+i),fun i _=>n<=i⟩
theorem AG {P:Program} {w:World} {K:Frag} {tg:Expr} (a it:Addr):Turn P w K tg (Itl K a) [it] it (fun i h=>h.IsListIter it a i) where
 mem:=by simp
 obj:=fun i h st b hb=>by
  have e:b=it:=by simpa using hb
  subst e;obtain⟨o,e,c,d⟩:=st;exact⟨o,e,fun v z=>by rw[d] at z;cases z⟩
 keep:=fun i h h' st k=>st.at fun o e=>k it (by simp) o e
 item:=by
  intro X hP hw hK hc i pins s σ H E I hf st hg;subst hP hw hK;obtain⟨xs,x,hq,hx⟩:=hg;obtain⟨its,rv,p,hz⟩:=I.list hq;obtain⟨u,hu,ru⟩:=rv.get hx;obtain⟨f0,f1,f2,f3,f4,f5⟩:=hf it (by simp);refine wpAny_pyNext_list_item st p.isList (x:=u) (by simpa using hu) fun h' st' sb=>?_;have I1:Inv X pins σ H {s with heap:=h'}:=I.turned (t':=s.toks) (fun b o hb e=>(sb.2 b hb).trans e) f0 f1 f3 f4 f5;obtain⟨o,e,c,d⟩:=id st';exact⟨u,rfl,Jb (s:={s with heap:=h'}) e c d %[|4] ⟨x,H,I1,ru,⟨rfl,fun ys hy=>by rw[I.list_inj hy hq];exact hx⟩,st',fun b hb=>(hf b hb).1⟩⟩
 done:=by
  intro X hP hw hK hc i pins s σ H E I hf st hg;subst hP hw hK;obtain⟨xs,hq,hx⟩:=hg;obtain⟨its,rv,p,hz⟩:=I.list hq;obtain⟨f0,f1,f2,f3,f4,f5⟩:=hf it (by simp);have hl:=rv.length;exact wpAny_pyNext_list_end (I.ok.hd hc) st p.isList (by simp;omega) fun h' eb=>⟨rfl,I.turned (t':=s.toks) (fun b o hb e=>eb b o hb e) f0 f1 f3 f4 f5⟩
 self:=fun _ _ _ _ _ st h=>wpAny_pyIter_listiter st h
theorem Jp {P:Program} {w:World} {K:Frag} {tg:Expr} (a it:Addr):Turn P w K tg (Itt K a) [it] it (fun i h=>h.IsTupleIter it a i) where
 mem:=by simp
 obj:=fun i h st b hb=>by
  have e:b=it:=by simpa using hb
  subst e;obtain⟨o,e,c,d⟩:=st;exact⟨o,e,fun v z=>by rw[d] at z;cases z⟩
 keep:=fun i h h' st k=>st.at fun o e=>k it (by simp) o e
 item:=by
  intro X hP hw hK hc i pins s σ H E I hf st hg;subst hP hw hK;obtain⟨xs,x,hq,hx⟩:=hg;obtain⟨its,rv,p,hz⟩:=I.tuple hq;obtain⟨u,hu,ru⟩:=rv.get hx;obtain⟨f0,f1,f2,f3,f4,f5⟩:=hf it (by simp);refine wpAny_pyNext_tuple_item st (show s.heap.IsTuple a its.toArray from p) (x:=u) (by simpa using hu) fun h' st' sb=>?_;have I1:Inv X pins σ H {s with heap:=h'}:=I.turned (t':=s.toks) (fun b o hb e=>(sb.2 b hb).trans e) f0 f1 f3 f4 f5;obtain⟨o,e,c,d⟩:=id st';exact⟨u,rfl,Jb (s:={s with heap:=h'}) e c d %[|4] ⟨x,H,I1,ru,⟨rfl,fun ys hy=>by rw[I.tuple_inj hy hq];exact hx⟩,st',fun b hb=>(hf b hb).1⟩⟩
 done:=by
  intro X hP hw hK hc i pins s σ H E I hf st hg;subst hP hw hK;obtain⟨xs,hq,hx⟩:=hg;obtain⟨its,rv,p,hz⟩:=I.tuple hq;obtain⟨f0,f1,f2,f3,f4,f5⟩:=hf it (by simp);have hl:=rv.length;exact wpAny_pyNext_tuple_end (I.ok.hd hc) st (show s.heap.IsTuple a its.toArray from p) (by simp;omega) fun h' eb=>⟨rfl,I.turned (t':=s.toks) (fun b o hb e=>eb b o hb e) f0 f1 f3 f4 f5⟩
 self:=fun _ _ _ _ _ st h=>wpAny_pyIter_tupleiter st h
theorem Jq {P:Program} {w:World} {K:Frag} {tg:Expr} (it:Addr) (lo:Int) (n:Nat):Turn P w K tg (Itr lo n) [it] it (fun i h=>IsRangeIter h it (lo+(i:Nat)*1) ((n:Int)-(i:Nat)) 1) where
 mem:=by simp
 obj:=fun i h st b hb=>by
  have e:b=it:=by simpa using hb
  subst e;exact⟨_,st,fun v z=>by
   have z':Data.fields _=Data.cell v:=z;cases z'⟩
 keep:=fun i h h' st k=>k it (by simp) _ st
 item:=by
  intro X hP hw hK hc i pins s σ H E I hf st hg;subst hP hw hK;obtain⟨f0,f1,f2,f3,f4,f5⟩:=hf it (by simp);have W:=Walks.range (prog:=X.prog) (w:=X.w) (I.ok.hd hc) it lo 1 n;refine W.item i s _ _ hg st fun v h' tk hv st' kk=>?_;obtain⟨t,rfl⟩:=hv;have I1:Inv X pins σ H {s with heap:=h',toks:=tk}:=I.turned (fun b o hb e=>kk b o (by simpa using hb) e) f0 f1 f3 f4 f5;refine⟨_,rfl,Jb (s:={s with heap:=h',toks:=tk}) (n:="range_iterator") st' rfl rfl %[|4] ⟨.int (lo+i),H,I1,⟨t,?_⟩,⟨rfl,rfl⟩,st',fun b hb=>(hf b hb).1⟩⟩;rw[Int.mul_one]
 done:=by
  intro X hP hw hK hc i pins s σ H E I hf st hg;subst hP hw hK;obtain⟨f0,f1,f2,f3,f4,f5⟩:=hf it (by simp);exact wpAny_pyNext_range_end (I.ok.hd hc) st (by have:n<=i:=hg;omega) fun h' eb=>⟨rfl,I.turned (t':=s.toks) (fun b o hb e=>eb b o hb e) f0 f1 f3 f4 f5⟩
 self:=fun _ _ _ _ _ st h=>wpAny_pyIter_rangeiter st h
end L2
namespace L2
open PySem PySem.Spec PyProof.Rows
section
variable {X:Cx} {tg:Expr}
theorem UV {pins:List (Addr×Obj)} {σ:St} {H:Hp} {s:Shared} {R:It->Hp->Prop} {E:Value->Shared->Prop} {lo hi:Int} {t u v:Tok} {tk:Nat} (I:Inv X pins σ H s) (h1:-(2 ^ 62)<=lo) (h2:lo<2 ^ 62) (h3:-(2 ^ 62)<=hi) (h4:hi<2 ^ 62)
  (q:R (Itr lo (hi-lo).toNat) H):wpAny (model X.prog X.w) X.A (pyIter (.ref s.heap.objs.size)) (PIE X pins σ tg R) E {s with heap:=s.heap.push {cls:=.type "range",data:=.fields #[.int lo t,.int hi u,.int 1 v]},toks:=tk}:=by
 refine wpAny_pyIter_range (IsRange.new ..) (small_one h1 h2 h3 h4) ?_;have I1:Inv X pins σ H {s with heap:=s.heap.push {cls:=.type "range",data:=.fields #[.int lo t,.int hi u,.int 1 v]},toks:=tk}:=I.kept fun b o e=>Heap.get?_push_of_some _ e;refine⟨(s.heap.push {cls:=.type "range",data:=.fields #[.int lo t,.int hi u,.int 1 v]}).objs.size,[(s.heap.push {cls:=.type "range",data:=.fields #[.int lo t,.int hi u,.int 1 v]}).objs.size],_,_,H,rfl,
  I1.kept (t':=tk) fun b o e=>Heap.get?_push_of_some _ e,Jq _ lo (hi-lo).toNat,?_,fun b hb=>?_,q⟩
 ·have e1:lo+((0:Nat):Int)*1=lo:=by simp
  have e2:(((hi-lo).toNat:Nat):Int)-((0:Nat):Int)=Builtin.Range.rangeSize lo hi 1:=by rw[rangeSize_one];split<;>omega
  show IsRangeIter _ _ (lo+((0:Nat):Int)*1) ((((hi-lo).toNat:Nat):Int)-((0:Nat):Int)) 1;rw[e1,e2];exact Heap.get?_push_size _ rfl
 ·have e:b=(s.heap.push {cls:=.type "range",data:=.fields #[.int lo t,.int hi u,.int 1 v]}).objs.size:=by simpa using hb
  subst e;exact I1.fpOk %[|3] (I1.hok.fresh %[|3])
noncomputable def tFor (wi:TI) (g:TG) (tb:TS):TS:=fun D σ H=>wi σ H fun J H1=>∃ W:Nat->Nat->St->Hp->Prop,(∃ m,W 0 m σ H1)/\∀ i m σ H,W i m σ H ->
 (J.stop i H/\D.nx σ H)\/(J.go i H/\∃ N:St->Hp->Prop,(∀ σ' H',N σ' H'->∃ m',m'<m/\W (i+1) m' σ' H')/\∀ x H',J.yld i H x H'->g x σ H' fun σ2 H2=>tb {D with nx:=N,ct:=N,bk:=D.nx} σ2 H2)
noncomputable def Vb (fp:List Addr) (h:Heap):List (Addr×Obj):=fp.filterMap fun b=>(h.get? b).map fun o=>(b,o)
theorem ZC (hb:b∈fp) (e:h.get? b=some o):(b,o)∈Vb fp h:=List.mem_filterMap.mpr ⟨b,hb,by rw[e];rfl⟩
theorem AW (hp:p∈Vb fp h):p.1∈fp/\h.get? p.1=some p.2:=by
 obtain⟨b,hb,e⟩:=List.mem_filterMap.mp hp;cases q:h.get? b with
 | none=>rw [q] at e;cases e
 | some o =>
  rw[q] at e;have e':(b,o)=p:=Option.some.inj e;subst e';exact⟨hb,q⟩
theorem Inv.pinned (I:Inv X pins σ H s) (hf:∀ b∈fp,FpOk X pins H b) (ho:∀ b∈fp,∃ o,s.heap.get? b=some o/\∀ v,o.data≠.cell v):Inv X (pins++Vb fp s.heap) σ H s :=
 I.pins_of fun p hp=>(List.mem_append.mp hp).elim (fun z=>I.pin p (List.mem_append_right _ z)) fun z=>by
  obtain⟨hb,e⟩:=AW z;obtain⟨f0,f1,f2,_⟩:=hf p.1 hb;obtain⟨o,e',d⟩:=ho p.1 hb;rw[e] at e';cases e';exact⟨e,f0,f1,f2,d⟩
theorem Inv.unpinned (I:Inv X (pins++pl) σ H s):Inv X pins σ H s:=I.pins_of fun p hp=>I.pin p (List.mem_append_right _ (List.mem_append_left _ hp))
theorem Gk (hp:PassesOwn (model X.prog X.w) X.A X.env X.xe) (hc:X.calm=true) (hi:PI X tg iter wi) (hg:PG X tg g) (hb:PSs X body tb)
  (hs:∀ x,foldedSetIterable iter X.env x=pure x:=by intro _;rfl):PS X (.For tg iter body [] pos) (tFor wi g tb):=by
 intro pins s σ H D I h;refine wpAny_For (thn (hi pins s σ H _ I h) fun v s1 h1=>thn h1 fun itv s2 h2=>?_) hs;obtain⟨it,fp,tn,J,H2,e,I2,T,st2,f2,W,⟨m0,w0⟩,turn⟩:=h2;subst e;have stat:∀ {H':Hp},(∀ b∈fp,H' b=none)->∀ b∈fp,FpOk X pins H' b:=fun hn b hb=>⟨hn b hb,(f2 b hb).2⟩;refine codeAny_forLoop_any (fun n s'=>∃ i σ' H',Inv X pins σ' H' s'/\tn i s'.heap/\(∀ b∈fp,H' b=none)/\W i n σ' H') ?_ m0 ⟨0,σ,H2,I2,st2,fun b hb=>(f2 b hb).1,w0⟩;rintro n s3 ⟨i,σ3,H3,I3,st3,fr3,w3⟩;rcases turn i n σ3 H3 w3 with ⟨stop,qn⟩|⟨go,N,hN,step⟩
 ·refine wpAny_passesOwn hp (thn (T.done X rfl rfl rfl hc i pins s3 σ3 H3 X.xe I3 (stat fr3) st3 stop) fun r s4 hq2=>?_)
  obtain⟨hr,I4⟩:=hq2;subst hr;exact wpAny_execs_nil ⟨σ3,H3,I4,qn⟩
 ·refine wpAny_passesOwn hp (thn (T.item X rfl rfl rfl hc i pins s3 σ3 H3 X.xe I3 (stat fr3) st3 go) fun r s4 hq2=>?_)
  obtain⟨u,hr,h4⟩:=hq2;subst hr;refine wpAny_passesOwn hp (thn h4 fun _ s5 hq2=>?_);obtain⟨x,H5,I5,r5,y5,st5,fr5⟩:=hq2;have I5':=I5.pinned (stat fr5) (T.obj _ _ st5);refine wpAny_passesOwn hp (thn (hg _ s5 σ3 H5 x u _ I5' r5 (step x H5 y5)) fun _ s6 hq2=>?_);obtain⟨σ6,H6,I6,q6⟩:=hq2;refine wpAny_passesOwn hp (thn (hb _ s6 σ6 H6 _ I6 q6) fun f s7 q7=>?_);have again:∀ {σ7:St} {H7:Hp},Inv X (pins++Vb fp s5.heap) σ7 H7 s7->N σ7 H7->∃ m,m<n/\∃ i σ' H',Inv X pins σ' H' s7/\tn i s7.heap/\(∀ b∈fp,H' b=none)/\W i m σ' H':=fun {σ7 H7} I7 n7=>by
   obtain⟨m',hm,w7⟩:=hN σ7 H7 n7;refine⟨m',hm,i+1,σ7,H7,I7.unpinned,T.keep _ _ _ st5 fun b hb o e=>(I7.pin (b,o) (List.mem_append_right _ (List.mem_append_right _ (ZC hb e)))).1,fun b hb=>?_,w7⟩;obtain⟨o,e,d⟩:=T.obj _ _ st5 b hb;exact (I7.pin (b,o) (List.mem_append_right _ (List.mem_append_right _ (ZC hb e)))).2.1
  cases f with
  | next=>obtain⟨σ7,H7,I7,n7⟩:=q7;exact again I7 n7
  | cont=>obtain⟨σ7,H7,I7,n7⟩:=q7;exact again I7 n7
  | brk=>obtain⟨σ7,H7,I7,q7⟩:=q7;exact⟨σ7,H7,I7.unpinned,q7⟩
  | ret v=>obtain⟨x7,σ7,H7,I7,r7,q7⟩:=q7;exact⟨x7,σ7,H7,I7.unpinned,r7,q7⟩
end
end L2
namespace L2
open PySem PySem.Spec PyProof.Rows
abbrev R2:=V->V->Hp->VK->Prop
noncomputable def OpR (X:Cx) (f:Value->Value->Sem Value) (r:R2):Prop :=
 ∀ (pins:List (Addr×Obj)) (s:Shared) (σ:St) (H:Hp) (x y:V) (v u:Value) (Q:VK),Inv X pins σ H s->RelV x v->RelV y u->r x y H Q ->
  wpAny (model X.prog X.w) X.A (f v u) (EP X pins σ Q) X.xe s
noncomputable def UnR (X:Cx) (f:Value->Sem Value) (r:V->Hp->VK->Prop):Prop :=
 ∀ (pins:List (Addr×Obj)) (s:Shared) (σ:St) (H:Hp) (x:V) (v:Value) (Q:VK),Inv X pins σ H s->RelV x v->r x H Q ->
  wpAny (model X.prog X.w) X.A (f v) (EP X pins σ Q) X.xe s
noncomputable def CallR (X:Cx) (f:Value) (r:List V->Hp->VK->Prop):Prop :=
 ∀ (pins:List (Addr×Obj)) (s:Shared) (σ:St) (H:Hp) (xs:List V) (us:List Value) (Q:VK),Inv X pins σ H s->Vals xs us->r xs H Q ->
  wpAny (model X.prog X.w) X.A (call f us) (EP X pins σ Q) X.xe s
noncomputable def TruR (X:Cx) (r:V->Hp->(Bool->Hp->Prop)->Prop):Prop :=
 ∀ (pins:List (Addr×Obj)) (s:Shared) (σ:St) (H:Hp) (x:V) (v:Value) (Q:Bool->Hp->Prop),Inv X pins σ H s->RelV x v->r x H Q ->
  wpAny (model X.prog X.w) X.A (truthy v) (TP X pins σ Q) X.xe s
noncomputable def tOp (r:R2) (ta tb:TE):TE:=fun σ H Q=>ta σ H fun x H1=>tb σ H1 fun y H2=>r x y H2 Q
noncomputable def tUn (r:V->Hp->VK->Prop) (ta:TE):TE:=fun σ H Q=>ta σ H fun x H1=>r x H1 Q
noncomputable def rI (C:Int->Int->Prop) (g:Int->Int->V):R2:=fun x y H Q=>∃ i j,x=.int i/\y=.int j/\C i j/\Q (g i j) H
noncomputable def rI0 (g:Int->Int->V):R2:=fun x y H Q=>∃ i j,x=.int i/\y=.int j/\Q (g i j) H
noncomputable def rU (g:Int->V):V->Hp->VK->Prop:=fun x H Q=>∃ i,x=.int i/\Q (g i) H
section
variable {X:Cx} {a b c:Expr} {ta tb tc:TE} {pos:Pos}
theorem binT (ha:PE X a ta) (hb:PE X b tb) {pins:List (Addr×Obj)} {s:Shared} {σ:St} {H:Hp} {R:V->V->Hp->Prop} (I:Inv X pins σ H s)
  (h:ta σ H fun x H1=>tb σ H1 fun y H2=>R x y H2) {Q:Value->Shared->Prop} {f:Value->Value->Sem Value}
  (hf:∀ v u s2 x y H2,Inv X pins σ H2 s2->RelV x v->RelV y u->R x y H2->wpAny (model X.prog X.w) X.A (f v u) Q X.xe s2) :
  wpAny (model X.prog X.w) X.A (eval a X.env) (fun v s₁=>wpAny (model X.prog X.w) X.A (eval b X.env) (fun u s₂=>wpAny (model X.prog X.w) X.A (f v u) Q X.xe s₂) X.xe s₁) X.xe s:=by
 refine thn (ha pins s σ H _ I h) fun v s1 hq2=>?_;obtain⟨x,H1,I1,r1,q1⟩:=hq2;refine thn (hb pins s1 σ H1 _ I1 q1) fun u s2 hq2=>?_;obtain⟨y,H2,I2,r2,q2⟩:=hq2;exact hf v u s2 x y H2 I2 r1 r2 q2
theorem Io {op:Operator} {r:R2} (ho:OpR X (binaryOp op) r) (ha:PE X a ta) (hb:PE X b tb):PE X (.BinOp a op b pos) (tOp r ta tb):=by
 intro pins s σ H Q I h;exact wpAny_BinOp (binT ha hb I h fun v u s2 x y H2 I2 rx ry q=>ho pins s2 σ H2 x y v u Q I2 rx ry q)
theorem Il (ho:UnR X (unaryOp op) r) (ha:PE X a ta):PE X (.UnaryOp op a pos) (tUn r ta):=by
 intro pins s σ H Q I h;exact UnaryOp_ (thn (ha pins s σ H _ I h) (by rintro v s1 ⟨x,H1,I1,r1,q1⟩;exact ho pins s1 σ H1 x v Q I1 r1 q1))
theorem opI {f:Value->Value->Sem Value} {C:Int->Int->Prop} {g:Int->Int->Int}
  (rule:∀ (i j:Int) (t u:Tok) (s:Shared) (Q:Value->Shared->Prop) (E:Value->Shared->Prop),C i j->Q (.int (g i j) s.toks) {s with toks:=s.toks+1}->wpAny (model X.prog X.w) X.A (f (.int i t) (.int j u)) Q E s) :
  OpR X f (rI C fun i j=>.int (g i j)):=by
 intro pins s σ H x y v u Q I rx ry h;obtain⟨i,j,rfl,rfl,hc,q⟩:=h;obtain⟨t,rfl⟩:=rx;obtain⟨t',rfl⟩:=ry;exact rule i j t t' s _ _ hc ⟨.int (g i j),H,I.tok _,⟨_,rfl⟩,q⟩
theorem opI0 {f:Value->Value->Sem Value} {g:Int->Int->Int}
  (rule:∀ (i j:Int) (t u:Tok) (s:Shared) (Q:Value->Shared->Prop) (E:Value->Shared->Prop),Q (.int (g i j) s.toks) {s with toks:=s.toks+1}->wpAny (model X.prog X.w) X.A (f (.int i t) (.int j u)) Q E s) :
  OpR X f (rI0 fun i j=>.int (g i j)):=by
 intro pins s σ H x y v u Q I rx ry h;obtain⟨i,j,rfl,rfl,q⟩:=h;obtain⟨t,rfl⟩:=rx;obtain⟨t',rfl⟩:=ry;exact rule i j t t' s _ _ ⟨.int (g i j),H,I.tok _,⟨_,rfl⟩,q⟩
theorem opB0 {f:Value->Value->Sem Value} {g:Int->Int->Bool}
  (rule:∀ (i j:Int) (t u:Tok) (s:Shared) (Q:Value->Shared->Prop) (E:Value->Shared->Prop),Q (.bool (g i j)) s->wpAny (model X.prog X.w) X.A (f (.int i t) (.int j u)) Q E s) :
  OpR X f (rI0 fun i j=>.bl (g i j)):=by
 intro pins s σ H x y v u Q I rx ry h;obtain⟨i,j,rfl,rfl,q⟩:=h;obtain⟨t,rfl⟩:=rx;obtain⟨t',rfl⟩:=ry;exact rule i j t t' s _ _ ⟨.bl (g i j),H,I,rfl,q⟩
noncomputable def CPow (i j:Int):Prop:=0<=j/\j<=1000000/\i.natAbs<2 ^ 64
theorem GF:OpR X (binaryOp .Add) (rI0 fun i j=>.int (i+j)):=opI0 fun _ _ _ _ _ _ _ q=>add_int q
theorem unI {f:Value->Sem Value} {g:Int->Int}
  (rule:∀ (i:Int) (t:Tok) (s:Shared) (Q:Value->Shared->Prop) (E:Value->Shared->Prop),Q (.int (g i) s.toks) {s with toks:=s.toks+1}->wpAny (model X.prog X.w) X.A (f (.int i t)) Q E s) :
  UnR X f (rU fun i=>.int (g i)):=by
 intro pins s σ H x v Q I rx h;obtain⟨i,rfl,q⟩:=h;obtain⟨t,rfl⟩:=rx;exact rule i t s _ _ ⟨.int (g i),H,I.tok _,⟨_,rfl⟩,q⟩
theorem FQ:UnR X (unaryOp .USub) (rU fun i=>.int (-i)):=unI fun _ _ _ _ _ q=>neg_int q
end
section
variable {X:Cx} {a b c:Expr} {ta tb tc:TE} {pos:Pos}
theorem GT (I:Inv X pins σ H s) (q:Q (.bl k) H) (e:k=k'):EP X pins σ Q (.bool k') s:=by
 subst e;exact⟨.bl k,H,I,rfl,q⟩
theorem Ir:OpR X (compareOp .Lt) (rI0 fun i j=>.bl (decide (i<j))):=opB0 fun _ _ _ _ _ _ _ q=>lt_int q
theorem Iu:OpR X (compareOp .LtE) (rI0 fun i j=>.bl (decide (i<=j))):=opB0 fun _ _ _ _ _ _ _ q=>le_int q
theorem Iv:OpR X (compareOp .Gt) (rI0 fun i j=>.bl (decide (j<i))):=opB0 fun _ _ _ _ _ _ _ q=>gt_int q
theorem Iw:OpR X (compareOp .GtE) (rI0 fun i j=>.bl (decide (j<=i))):=opB0 fun _ _ _ _ _ _ _ q=>ge_int q
theorem AU:OpR X (compareOp .In) (fun x y H Q=>∃ i j,x=.str i/\y=.str j/\Q (.bl (!(Builtin.Str.occurrences j i 0 j.length 1).isEmpty)) H):=by
 intro pins s σ H x y v u Q I rx ry h;obtain⟨i,j,rfl,rfl,q⟩:=h;obtain⟨t,rfl⟩:=rx;obtain⟨t',rfl⟩:=ry;exact in_str (GT I q rfl)
theorem En (ho:OpR X (compareOp op) r) (ha:PE X a ta) (hb:PE X b tb) (hm:behindInMarks op b=false):PE X (.Compare a [op] [b] pos) (tOp r ta tb):=by
 intro pins s σ H Q I h;exact wpAny_Compare1 (binT ha hb I h fun v u s2 x y H2 I2 rx ry q=>ho pins s2 σ H2 x y v u Q I2 rx ry q) hm
noncomputable def BI (t:TE):TT:=fun σ H Q=>t σ H fun x H'=>∃ k,x=.bl k/\Q k H'
theorem Ee (ho:OpR X (compareOp op) r) (ha:PE X a ta) (hb:PE X b tb) (hm:behindInMarks op b=false):PT X (.Compare a [op] [b] pos) (BI (tOp r ta tb)):=by
 intro pins s σ H Q I h;refine wpAny_isTrue_Compare1 (thn (ha pins s σ H _ I h) fun v s1 ⟨x,H1,I1,r1,q1⟩=>thn (hb pins s1 σ H1 _ I1 q1) fun u s2 ⟨y,H2,I2,r2,q2⟩ =>
  thn (ho pins s2 σ H2 x y v u _ I2 r1 r2 q2) fun c s3 hq2=>?_) hm
 obtain⟨z,H3,I3,r3,k,e,q3⟩:=hq2;subst e;cases r3;exact wpAny_truthy_bool ⟨H3,I3,q3⟩
noncomputable def Jw (r r':R2) (ta tb tc:TE):TE:=fun σ H Q=>ta σ H fun x H1=>tb σ H1 fun y H2=>r x y H2 fun z H3=>∃ k,z=.bl k /\
 (if k=true then tc σ H3 fun w' H4=>r' y w' H4 Q else Q (.bl false) H3)
theorem Ch (ho:OpR X (compareOp op) r) (ho':OpR X (compareOp op') r') (ha:PE X a ta) (hb:PE X b tb) (hc:PE X c tc)
  (hm:lastMarks [op,op'] [b,c]=false:=by with_unfolding_all rfl):PE X (.Compare a [op,op'] [b,c] pos) (Jw r r' ta tb tc):=by
 intro pins s σ H Q I h;refine Compare_chain (thn (ha pins s σ H _ I h) fun v s1 ⟨x,H1,I1,r1,q1⟩=>chain_link (thn (hb pins s1 σ H1 _ I1 q1) fun u s2 ⟨y,H2,I2,r2,q2⟩ =>
  thn (ho pins s2 σ H2 x y v u _ I2 r1 r2 q2) fun d s3 hq2=>?_)) hm
 obtain⟨z,H3,I3,r3,k,e,q3⟩:=hq2;subst e;cases r3;refine wpAny_truthy_bool ?_;cases k with
 | false=>exact ite_ff ⟨.bl false,H3,I3,rfl,q3⟩
 | true=>exact ite_tt (chain_last (thn (hc pins s3 σ H3 _ I3 q3) (by rintro w' s4 ⟨z',H4,I4,r4,q4⟩;exact ho' pins s4 σ H4 y z' u w' Q I4 r2 r4 q4)))
theorem BU (ho:OpR X (compareOp op) r) (ho':OpR X (compareOp op') r') (ha:PE X a ta) (hb:PE X b tb) (hc:PE X c tc)
  (hm:lastMarks [op,op'] [b,c]=false:=by with_unfolding_all rfl):PT X (.Compare a [op,op'] [b,c] pos) (BI (Jw r r' ta tb tc)):=by
 intro pins s σ H Q I h;refine isTrue_chain (thn (ha pins s σ H _ I h) fun v s1 ⟨x,H1,I1,r1,q1⟩=>test_link (thn (hb pins s1 σ H1 _ I1 q1) fun u s2 ⟨y,H2,I2,r2,q2⟩ =>
  thn (ho pins s2 σ H2 x y v u _ I2 r1 r2 q2) fun d s3 hq2=>?_)) hm
 obtain⟨z,H3,I3,r3,k,e,q3⟩:=hq2;subst e;cases r3;refine wpAny_truthy_bool ?_;cases k with
 | false =>
  obtain⟨k',e',q'⟩:=q3;cases e';exact ite_ff ⟨H3,I3,q'⟩
 | true =>
  refine ite_tt (test_last (thn (hc pins s3 σ H3 _ I3 q3) fun w' s4 ⟨z',H4,I4,r4,q4⟩=>thn (ho' pins s4 σ H4 y z' u w' _ I4 r2 r4 q4) fun d' s5 hq2=>?_));obtain⟨z2,H5,I5,r5,k2,e2,q5⟩:=hq2;subst e2;cases r5;exact wpAny_truthy_bool ⟨H5,I5,q5⟩
noncomputable def TruV (K:Frag) (x:V) (H:Hp) (k:Bool):Prop :=
 match x with
 | .non=>k=false
 | .bl b=>k=b
 | .int i=>k=(i != 0)
 | .str y=>y.length<=sizeLine/\k=((y.length:Int) != 0)
 | .byt y=>y.size<=sizeLine/\k=((y.size:Int) != 0)
 | .ref p=>(∃ xs,SqL K H p xs/\k=!xs.isEmpty)\/(∃ xs,SqT K H p xs/\k=!xs.isEmpty)\/∃ kvs,H p=some (.dK kvs)/\k=!kvs.isEmpty
 | _=>False
theorem JQ (r:KV kvs vs):(!vs.isEmpty)=!kvs.isEmpty:=by
 cases r<;>rfl
theorem Vi (r:Vals xs its):(!its.toArray.isEmpty)=!xs.isEmpty:=by
 cases r<;>simp
theorem XX:(sizeLine:Nat)<2 ^ 63:=by rw[sizeLine_eq];decide
theorem FT:TruR X (fun x H Q=>∃ k,TruV X.K x H k/\Q k H):=by
 intro pins s σ H x v Q I rx h;obtain⟨k,e,q⟩:=h;have hl:=XX;have hs:sizeLine=16777216:=sizeLine_eq;cases x with
 | non =>
  cases rx;have e':k=false:=e;subst e';exact truthy_none ⟨H,I,q⟩
 | bl b =>
  cases rx;have e':k=b:=e;subst e';exact wpAny_truthy_bool ⟨H,I,q⟩
 | int i =>
  obtain⟨t,rfl⟩:=rx;have e':k=(i != 0):=e;subst e';exact PySem.P.truthy_int ⟨H,I,q⟩
 | str y =>
  obtain⟨t,rfl⟩:=rx;obtain⟨hy,e'⟩:y.length<=sizeLine/\k=((y.length:Int) != 0):=e;subst e';exact PySem.P.truthy_str %[|5] ⟨H,I.tok _,q⟩
 | byt y =>
  obtain⟨t,rfl⟩:=rx;obtain⟨hy,e'⟩:y.size<=sizeLine/\k=((y.size:Int) != 0):=e;subst e';exact PySem.W.truthy_bytes %[|5] ⟨H,I.tok _,q⟩
 | ref p =>
  cases rx;have e':(∃ xs,SqL X.K H p xs/\k=!xs.isEmpty)\/(∃ xs,SqT X.K H p xs/\k=!xs.isEmpty)\/∃ kvs,H p=some (.dK kvs)/\k=!kvs.isEmpty:=e;rcases e' with ⟨xs,hx,e'⟩|⟨xs,hx,e'⟩|⟨kvs,hx,e'⟩
  ·subst e'
   obtain⟨its,r,pl,hz⟩:=I.list hx;have hlen:=r.length;exact wpAny_truthy_list pl.isList (by simp only[List.size_toArray];omega) ⟨H,I.tok _,by rw[Vi r];exact q⟩
  ·subst e'
   obtain⟨its,r,pl,hz⟩:=I.tuple hx;have hlen:=r.length;exact truthy_tuple pl (by simp only[List.size_toArray];omega) ⟨H,I.tok _,by rw[Vi r];exact q⟩
  ·subst e'
   obtain⟨hz,hS,vs,r,m⟩:kvs.length<=sizeLine/\(p==sysModules)=false/\∃ vs,KV kvs vs/\s.heap.DictOf (Uq X.prog X.w) p vs:=I.hok p _ hx;have hlen:kvs.length=vs.length:=Paired.length r;exact wpAny_truthy_dict hS m %[|5] ⟨H,I.tok _,by rw[JQ r];exact q⟩
 | _=>exact (show False from e).elim
theorem BT (ha:PE X a ta) (he:∀ whole,isTrue a X.env whole=(do let v <- whole;standAt a.pos;holding [v] (truthy v))) :
  PT X a (fun σ H Q=>ta σ H fun x H'=>∃ k,TruV X.K x H' k/\Q k H'):=by
 intro pins s σ H Q I h;exact isTrue_plain (thn (ha pins s σ H _ I h) (by rintro v s1 ⟨x,H1,I1,r1,q1⟩;exact FT pins s1 σ H1 x v Q I1 r1 q1)) (he _)
theorem JI:OpR X (binaryOp .Add) (fun x y H Q=>∃ i j,x=.str i/\y=.str j/\i.length+j.length<=sizeLine/\Q (.str (i++j)) H):=by
 intro pins s σ H x y v u Q I rx ry h;obtain⟨i,j,rfl,rfl,hz,q⟩:=h;obtain⟨t,rfl⟩:=rx;obtain⟨t',rfl⟩:=ry;exact add_str (fun t' tk=>⟨.str (i++j),H,I.tok _,⟨_,rfl⟩,q⟩) hz
theorem WE (r:Vals [x] us):∃ u,us=[u]/\RelV x u:=by
 cases r with
 | cons r1 r2=>cases r2;exact⟨_,rfl,r1⟩
theorem V3 (r:Vals [x,y] us):∃ u w',us=[u,w']/\RelV x u/\RelV y w':=by
 cases r with
 | cons r1 r2 =>
  cases r2 with
  | cons r3 r4=>cases r4;exact⟨_,_,rfl,r1,r3⟩
theorem Dv:CallR X (.builtin "abs") (fun xs H Q=>∃ i,xs=[.int i]/\Q (.int (if i<0 then -i else i)) H):=by
 intro pins s σ H xs us Q I r h;obtain⟨i,rfl,q⟩:=h;obtain⟨u,rfl,t,rfl⟩:=WE r;exact call_abs_int fun u tk=>⟨.int (if i<0 then -i else i),H,I.tok _,⟨_,rfl⟩,q⟩
theorem Bp (hc:X.calm=true):CallR X (.builtin "max") (fun xs H Q=>∃ i j,xs=[.int i,.int j]/\Q (.int (if j > i then j else i)) H):=by
 intro pins s σ H xs us Q I r h;obtain⟨i,j,rfl,q⟩:=h;obtain⟨u,w',rfl,⟨t,rfl⟩,⟨t',rfl⟩⟩:=V3 r;refine max_two_ints (I.ok.hd hc) fun h' tk k=>⟨_,H,I.kept k,?_,q⟩;by_cases hj:j > i
 ·rw[if_pos hj,if_pos hj];exact⟨_,rfl⟩
 ·rw[if_neg hj,if_neg hj];exact⟨_,rfl⟩
theorem Bo (hc:X.calm=true):CallR X (.builtin "min") (fun xs H Q=>∃ i j,xs=[.int i,.int j]/\Q (.int (if j<i then j else i)) H):=by
 intro pins s σ H xs us Q I r h;obtain⟨i,j,rfl,q⟩:=h;obtain⟨u,w',rfl,⟨t,rfl⟩,⟨t',rfl⟩⟩:=V3 r;refine min_two_ints (I.ok.hd hc) fun h' tk k=>⟨_,H,I.kept k,?_,q⟩;by_cases hj:j<i
 ·rw[if_pos hj,if_pos hj];exact⟨_,rfl⟩
 ·rw[if_neg hj,if_neg hj];exact⟨_,rfl⟩
theorem Bq:CallR X (.type "int") (fun xs H Q=>(∃ i,xs=[.int i]/\Q (.int i) H)\/∃ k,xs=[.bl k]/\Q (.int (if k then 1 else 0)) H):=by
 intro pins s σ H xs us Q I r h;rcases h with ⟨i,rfl,q⟩|⟨k,rfl,q⟩
 ·obtain⟨u,rfl,t,rfl⟩:=WE r
  exact call_int_int ⟨.int i,H,I,⟨_,rfl⟩,q⟩
 ·obtain⟨u,rfl,r1⟩:=WE r
  cases r1;exact call_int_bool ⟨.int (if k then 1 else 0),H,I.tok _,⟨_,rfl⟩,q⟩
theorem UD:CallR X (.type "str") (fun xs H Q=>∃ i,xs=[.int i]/\i.natAbs.log2<1920/\Q (.str (toString i)) H):=by
 intro pins s σ H xs us Q I r h;obtain⟨i,rfl,hz,q⟩:=h;obtain⟨u,rfl,t,rfl⟩:=WE r;exact PySem.P.str_of_int hz ⟨.str _,H,I.tok _,⟨_,rfl⟩,q⟩
end
end L2
namespace L2
open PySem PySem.Spec PyProof.Rows
theorem AY {h:Heap} {dx:Addr} {mA:Str->Option Value} (n:h.Ns1 dx mA):∃ od,h.get? dx=some od/\∀ name,PySem.W.lookIn name od=some (mA name):=by
 obtain⟨o,es,ep,ho,hd,hk,_,hm⟩:=n;refine⟨o,ho,fun name=>?_⟩;have e:=hm name;unfold nsFind findBy at e;rw[<- Array.find?_toList] at e;unfold PySem.W.lookIn;rw[hd];dsimp only;split
 ·rename_i y q
  rw[q] at e;exact congrArg some e
 ·rename_i q
  rw[q] at e;have a:es.toList.any (·.refKey)=false:=by
   rw[List.any_eq_false];intro y hy;obtain⟨z,t,hkey⟩:=hk y (Array.mem_toList_iff.mp hy);simp[DictEntry.refKey,hkey]
  have a':¬ es.toList.any (·.refKey)=true:=by rw[a];exact Bool.false_ne_true
  rw[if_neg a'];exact congrArg some e
section
variable {prog:Program} {w:World} {A:Around} {E:Value->Shared->Prop} {s:Shared} {K:Frag} {x dx C f:Addr} {mA:Str->Option Value} {name:Str} {v:Value}
end
theorem B5 (r:RelV v u):PySem.W.handedIn u=true:=by
 cases v with
 | non=>cases (show u=Value.none from r);rfl
 | bl b=>cases (show u=Value.bool b from r);rfl
 | int i=>obtain⟨t,e⟩:=(show ∃ t,u=Value.int i t from r);cases e;rfl
 | str x=>obtain⟨t,e⟩:=(show ∃ t,u=Value.str x t from r);cases e;rfl
 | byt b=>obtain⟨t,e⟩:=(show ∃ t,u=Value.bytes b t from r);cases e;rfl
 | flt b=>obtain⟨t,e⟩:=(show ∃ t,u=Value.float b t from r);cases e;rfl
 | ref a=>cases (show u=Value.ref a from r);rfl
 | ty n=>cases (show u=Value.type n from r);rfl
section
variable {P:Program} {w:World} {H H':Hp} {h h':Heap} {a C dx:Addr} {fs fs':List (Str×V)}
end
structure Meth (K:Frag) (C:Addr) (m:Str) (f:Addr):Prop where
 at_:PySem.W.findIn K (.ref C) m=some (some (.ref f))
 fn:PySem.W.isFn K (.ref f)=true
 kp:PySem.W.keepIn K (.ref f)=true
section
variable {X:Cx} {pins:List (Addr×Obj)} {σ:St} {H:Hp} {s:Shared} {a C dx:Addr} {fs:List (Str×V)} {f:Str} {v:V} {A:Around} {E:Value->Shared->Prop}
theorem Fr (hb:attributeBase e f env (eval e env)=eval e env)
  (h:wpAny (model prog w) A (eval e env) (fun o s₁=>wpAny (model prog w) A (getAttr o f true) Q E s₁) E s):wpAny (model prog w) A (eval (.Attribute e f pos) env) Q E s :=
 Attribute_any_ h (by rw[arm_eval_Attribute,hb])
end
section
variable {X:Cx} {o e value:Expr} {f:Str} {pos pos' tpos:Pos} {ta tv:TE}
end
section
variable {X:Cx} {pins:List (Addr×Obj)} {σ:St} {H:Hp} {s:Shared} {A:Around} {E:Value->Shared->Prop} {Q:Value->Shared->Prop} {c:Value} {b:Bool}
end
end L2
namespace L2
open PySem PySem.Spec PyProof.Rows
structure Room (k:Nat) (A:Around):Prop where
 hd:A.handled=none
 dp:A.depth+3*k+5<recursionLimit
 un:A.units+16*k+200<cLine
theorem Room.mono (r:Room k A) (h:j<=k):Room j A:=⟨r.hd,by have:=r.dp;omega,by have:=r.un;omega⟩
theorem Room.deeper (r:Room (k+1) A) (env:Env):Room k (A.deeper env) :=
 ⟨r.hd,by have:=r.dp;show A.depth+1+3*k+5 < _;omega,by have:=r.un;show A.units+3+16*k+200 < _;omega⟩
theorem make_depth {A:Around} {C:Addr} {us:List Value} {kw:List (Str×Value)}:(A.under (.builtin "type.__call__" ⟨.ref C::us,kw⟩)).depth=A.depth+1:=by
 first|rfl|simp[Around.under,Code.weight,Code.isCreation,Code.isGuard,Code.isCaller,Code.frames,Code.isFrame,guardIds]
theorem Room.depth (r:Room k A):A.depth<recursionLimit:=by have:=r.dp;omega
noncomputable def tNil:TA:=fun _ H Q=>Q [] H
noncomputable def HZ (ta:TE) (tr:TA):TA:=fun σ H Q=>ta σ H fun x H1=>tr σ H1 fun xs H2=>Q (x::xs) H2
section
variable {X:Cx} {e:Expr} {es:List Expr} {te:TE} {t:TA} {pos:Pos}
theorem JH:PA X [] tNil:=fun _ _ _ _ H Q I h=>Calls.spliced_nil ⟨[],H,I,.nil,h⟩
theorem WV (ha:PE X e te) (hr:PA X es t) (hs:starEach (e::es) X.env=(false,eval e X.env)::starEach es X.env:=by rfl):PA X (e::es) (HZ te t):=by
 intro pos pins s σ H Q I h;rw[hs];show wpAny _ _ (spliced ((false,eval e X.env)::backTo pos (starEach es X.env))) _ _ s;refine Calls.spliced_cons (thn (ha pins s σ H _ I h) fun u s1 hq2=>?_);obtain⟨x,H1,I1,r1,q1⟩:=hq2;exact thn (hr pos pins s1 σ H1 _ I1 q1) (by rintro us s2 ⟨xs,H2,I2,r2,q2⟩;exact⟨x::xs,H2,I2,.cons r1 r2,q2⟩)
noncomputable def tTup (t:TA):TE:=fun σ H Q=>t σ H fun xs H1=>xs.length<=sizeLine/\∀ p,H1 p=none->Q (.ref p) (upd H1 p (.tup xs))
noncomputable def tLst (t:TA):TE:=fun σ H Q=>t σ H fun xs H1=>xs.length<=sizeLine/\∀ p,H1 p=none->Q (.ref p) (upd H1 p (.lst xs))
theorem Gq {x1} (h:PA X es t):PE X (.Tuple es x1 pos) (tTup t):=by
 intro pins s σ H Q I hq;refine wpAny_Tuple_spliced (thn (h pos pins s σ H _ I hq) fun us s1 ⟨xs,H1,I1,r,z,q⟩=>⟨by rw[<- r.length];exact z,?_⟩);have hf:H1 s1.heap.objs.size=none:=I1.hok.fresh %[|3];refine⟨.ref s1.heap.objs.size,upd H1 s1.heap.objs.size (.tup xs),I1.laid (t':=s1.toks) (fun b u e=>Heap.get?_push_of_some _ e) %[|3] ?_,rfl,q _ hf⟩;exact⟨z,us,r,⟨_,Heap.get?_push_size _ rfl,rfl,_,rfl⟩⟩
theorem Gv (h:PA X es t):PE X (.List es pos) (tLst t):=by
 intro pins s σ H Q I hq;refine wpAny_List_spliced (thn (h pos pins s σ H _ I hq) fun us s1 ⟨xs,H1,I1,r,z,q⟩=>⟨by rw[<- r.length];exact z,?_⟩);have hf:H1 s1.heap.objs.size=none:=I1.hok.fresh %[|3];refine⟨.ref s1.heap.objs.size,upd H1 s1.heap.objs.size (.lst xs),I1.laid (t':=s1.toks) (fun b u e=>Heap.get?_push_of_some _ e) %[|3] ?_,rfl,q _ hf⟩;exact⟨z,us,0,r,Heap.get?_push_size _ rfl⟩
end
abbrev Sp:=List V->Hp->VK->XK->Prop
abbrev CXT:=List Env->Hp->Shared->XK->Value->Shared->Prop
structure Env0 (P:Program) (w:World) (K:Frag) (mg:Str->Option Value) (base:Heap) (A:Around) (outer:List Env) (s:Shared) (H:Hp):Prop where
 frames:A.frames=some outer
 mod:Mod K mg base
 bs:∀ b o,base.get? b=some o->s.heap.get? b=some o/\H b=none
 bsz:base.objs.size<=s.heap.objs.size
 funs:s.heap.FunFrames base outer
 frf:∀ b∈frs outer,H b=none
 hok:HOk P w H s.heap
 bare:AllBare s.gens
noncomputable def CE (outer:List Env) (P:Program) (w:World) (H:Hp) (s:Shared) (Q:VK) (u:Value) (s':Shared):Prop :=
 ∃ v H',s'.os=s.os/\AllBare s'.gens/\Un (frs outer) [] H H' s.heap s'.heap/\HOk P w H' s'.heap/\RelV v u/\Q v H'
noncomputable def CR (CX:CXT) (outer:List Env) (P:Program) (w:World) (H:Hp) (s:Shared) (Q:VK) (E:XK) (r:Result) (s':Shared):Prop :=
 match r with
 | .ok (.ret u)=>CE outer P w H s Q u s'
 | .ok _=>False
 | .error e=>CX outer H s E e s'
structure FnOk (P:Program) (w:World) (K:Frag) (mg:Str->Option Value) (base:Heap) (CX:CXT) (k:Nat) (f:Addr) (fd:FuncData) (ps:List Str) (sp:Sp):Prop where
 len:∀ vs H Q E,sp vs H Q E->vs.length=ps.length
 run:∀ (A:Around) (outer:List Env) (s:Shared) (H:Hp) (args:Args) (us:List Value) (vs:List V) (Q:VK) (E:XK),Room k A->Env0 P w K mg base A outer s H->BindsTo s fd args (ps.zip us)->Vals vs us->sp vs H Q E ->
  codeAny (model P w) A (.call (.ref f) args) (CR CX outer P w H s Q E) s
theorem FnOk.mono {P:Program} {w:World} {K:Frag} {mg:Str->Option Value} {base:Heap} {CX:CXT} {j k:Nat} {f:Addr} {fd:FuncData} {ps:List Str} {sp:Sp} (F:FnOk P w K mg base CX j f fd ps sp) (h:j<=k) :
  FnOk P w K mg base CX k f fd ps sp:=⟨F.len,fun A outer s H args us vs Q E hr=>F.run A outer s H args us vs Q E (hr.mono h)⟩
theorem Env0.make {P:Program} {w:World} {K:Frag} {mg:Str->Option Value} {base:Heap} {A:Around} {outer:List Env} {s:Shared} {H:Hp} (e:Env0 P w K mg base A outer s H) (C:Addr) (us:List Value) (kw:List (Str×Value)) :
  Env0 P w K mg base (A.under (.builtin "type.__call__" ⟨.ref C::us,kw⟩)) outer s H:=⟨by first|exact e.frames|(simpa[Around.under,Code.envs,Code.isFrame,pushEnvs] using e.frames),e.mod,e.bs,e.bsz,e.funs,e.frf,e.hok,e.bare⟩
section
variable {X:Cx} {pins:List (Addr×Obj)} {σ:St} {H:Hp} {s s':Shared}
theorem Inv.env0 (I:Inv X pins σ H s):Env0 X.prog X.w X.K X.mg X.base X.A X.stack s H :=
 ⟨I.ok.frames,I.ok.mod,I.bs,Nat.le_trans I.ok.bsz I.sz,I.stack,I.stkFree,I.hok,I.bare⟩
theorem Inv.after (I:Inv X pins σ H s) (h:CE X.stack X.prog X.w H s Q u s'):EP X pins σ Q u s':=by
 obtain⟨v,H',os,bare,un,hok,r,q⟩:=h;obtain⟨hh,g,d,t,os'⟩:=s';obtain rfl:os'=s.os:=os;exact⟨v,H',I.call (h':=hh) (g':=g) (d':=d) (t':=t) (ch:=[]) un hok bare (fun b z=>absurd z (by simp)),r,q⟩
end
noncomputable def Binds (K:Frag) (fd:FuncData) (ps:List Str) (ds:List Value):Prop :=
 ∀ (s:Shared) (us:List Value),K.In s.heap->(us++ds).length=ps.length->BindsTo s fd ⟨us,[]⟩ (ps.zip (us++ds))
theorem Binds.all {K:Frag} {fd:FuncData} {ps:List Str} (h:∀ us:List Value,us.length=ps.length->bindArgs fd ⟨us,[]⟩=pure (ps.zip us)):Binds K fd ps []:=fun s us _ hl=>by
 rw[List.append_nil] at hl ⊢;exact .of_eq (h us hl)
section
variable {X:Cx} {CX:CXT} {k:Nat} {f C:Addr} {fd:FuncData} {ps:List Str} {sp:Sp} {dvs:List V} {ds:List Value} {E:XK} {x m:Str} {p pos apos:Pos} {e o:Expr} {es:List Expr} {ta:TE} {t:TA}
structure Mk (K:Frag) (C f:Addr):Prop where
 makes:PySem.W.makesIn K C=true
 init:PySem.W.findIn K (.ref C) "__init__"=some (some (.ref f))
 fn:PySem.W.isFn K (.ref f)=true
 kp:PySem.W.keepIn K (.ref C)=true
end
section
variable {X:Cx} {CX:CXT} {k:Nat} {f C:Addr} {fd:FuncData} {ps ks:List Str} {sp:Sp} {E:XK} {x m:Str} {p pos apos kpos:Pos} {e o:Expr} {es:List Expr} {kws:List Keyword} {te ta:TE} {t tk:TA} {nm:Option Str}
variable {g:List Value->List Value->List Value} {gV:List V->List V->List V}
end
structure FnScope (N P:List Str) (sc:Scope):Prop where
 kind:sc.kind=.function
 co:sc.isCoroutine=false
 gen:sc.isGenerator=false
 nd:N.Nodup
 pre:N.take P.length=P
 par:∀ x∈P,sc.names.lookup x=some .local\/sc.names.lookup x=some .cell
 nofree:∀ y∈sc.names,y.2≠.free
theorem U0 {kindOf:Str->Option NameKind} {x:Str}:∀ {binds:List (Str×Value)} {m:Str->Option Value},(∀ v,(x,v) ∉ binds)->bindL kindOf binds m x=m x
 | [],_,_=>rfl
 | (n,v)::r,m,h=>by
  unfold bindL;rw[U0 fun w hw=>h w (List.mem_cons_of_mem _ hw)];split
  ·have:x≠n:=by rintro rfl;exact h v List.mem_cons_self
   simp[this]
  ·rfl
theorem U2 {kindOf:Str->Option NameKind} {x:Str}:∀ {binds:List (Str×Value)} {m:Str->Option Value},(∀ v,(x,v) ∉ binds)->bindC kindOf binds m x=m x
 | [],_,_=>rfl
 | (n,v)::r,m,h=>by
  unfold bindC;rw[U2 fun w hw=>h w (List.mem_cons_of_mem _ hw)];split
  ·rfl
  ·have:x≠n:=by rintro rfl;exact h v List.mem_cons_self
   simp[this]
theorem U1 {kindOf:Str->Option NameKind} {x:Str} {v:Value}:∀ {P:List Str} {vs:List Value} {i:Nat} {m:Str->Option Value},P.Nodup->P[i]?=some x->vs[i]?=some v->kindOf x=some .local ->
  bindL kindOf (P.zip vs) m x=some v
 | [],_,_,_,_,h,_,_=>by simp at h
 | _::_,[],_,_,_,_,h,_=>by simp at h
 | p::P,w::vs,0,m,nd,h1,h2,hk=>by
  simp at h1 h2;subst h1;subst h2;show bindL kindOf ((p,w)::P.zip vs) m p=_;unfold bindL;rw[U0 fun v hv=>(List.nodup_cons.mp nd).1 (List.of_mem_zip hv).1,if_pos hk];simp
 | p::P,w::vs,i+1,m,nd,h1,h2,hk=>by
  show bindL kindOf ((p,w)::P.zip vs) m x=_;unfold bindL;exact U1 (i:=i) (List.nodup_cons.mp nd).2 (by simpa using h1) (by simpa using h2) hk
theorem U3 {kindOf:Str->Option NameKind} {x:Str} {v:Value}:∀ {P:List Str} {vs:List Value} {i:Nat} {m:Str->Option Value},P.Nodup->P[i]?=some x->vs[i]?=some v->kindOf x≠some .local ->
  bindC kindOf (P.zip vs) m x=some v
 | [],_,_,_,_,h,_,_=>by simp at h
 | _::_,[],_,_,_,_,h,_=>by simp at h
 | p::P,w::vs,0,m,nd,h1,h2,hk=>by
  simp at h1 h2;subst h1;subst h2;show bindC kindOf ((p,w)::P.zip vs) m p=_;unfold bindC;rw[U2 fun v hv=>(List.nodup_cons.mp nd).1 (List.of_mem_zip hv).1,if_neg hk];simp
 | p::P,w::vs,i+1,m,nd,h1,h2,hk=>by
  show bindC kindOf ((p,w)::P.zip vs) m x=_;unfold bindC;exact U3 (i:=i) (List.nodup_cons.mp nd).2 (by simpa using h1) (by simpa using h2) hk
noncomputable def start (N:List Str) (vs:List V):St:=vs.map some++List.replicate (N.length-vs.length) none
noncomputable def cxOf (CX:CXT) (P:Program) (w:World) (K:Frag) (mg:Str->Option Value) (base:Heap) (N:List Str) (qual:Str) (scope:Scope) (f:Addr) (cd:Value) (A:Around) (outer:List Env) (s:Shared) (H:Hp) (E:XK):Cx where
 prog:=P
 w:=w
 K:=K
 mg:=mg
 base:=base
 A:=A.deeper (envOfC qual scope s.heap.objs.size f cd)
 N:=N
 s₀:=s
 H₀:=H
 env:=envOfC qual scope s.heap.objs.size f cd
 outer:=outer
 stack:=envOfC qual scope s.heap.objs.size f cd::outer
 ex:=[]
 calm:=true
 fn:=fun _=>true
 pn:=[]
 xe:=fun e s'=>wpAny (model P w) (A.deeper (envOfC qual scope s.heap.objs.size f cd)) (leaving (envOfC qual scope s.heap.objs.size f cd) e) (fun _ s''=>CX outer H s E e s'') (fun e' s''=>CX outer H s E e' s'') s'
theorem Jl {sc:Scope} {n:Nat} {x:Str} (h:sc.names.lookup x=some .cell):∃ c,(cellsFrom n sc.names []).lookup x=some c:=by
 have q:=PySem.W.cellsFrom_some sc.names n [] (.inl h);exact Option.isSome_iff_exists.mp q
theorem VO {CX:CXT} {P:Program} {w:World} {K:Frag} {mg:Str->Option Value} {base:Heap} {N ps:List Str} {qual:Str} {scope:Scope} {f:Addr} {cd:Value} {A:Around} {outer:List Env} {s s1:Shared} {H:Hp} {E:XK} {us:List Value} {vs:List V}
  (S:FnScope N ps scope) (hd:A.handled=none) (e0:Env0 P w K mg base A outer s H) (hl:vs.length=ps.length) (r:Vals vs us)
  (x:InCallC s s.heap.objs.size (bindL (envOfC qual scope s.heap.objs.size f cd).kindOf (ps.zip us) fun _=>none) (cellsFrom (s.heap.objs.size+1) scope.names []) (bindC (envOfC qual scope s.heap.objs.size f cd).kindOf (ps.zip us) fun _=>none) s1) :
  Inv (cxOf CX P w K mg base N qual scope f cd A outer s H E) [] (start N vs) H s1:=by
 have hpl:ps.length<=N.length:=by have:=congrArg List.length S.pre;rw[List.length_take] at this;omega
 obtain⟨h1,tk,rfl,hk⟩:=x.done;have noA:∀ b:Addr,b ∉ (cxOf CX P w K mg base N qual scope f cd A outer s H E).ex:=fun b z=>absurd (show b∈([]:List Addr) from z) (by simp);refine⟨⟨e0.mod,S.kind,rfl,rfl,Nat.le_refl _,fun y z c h1 h2=>?_,fun y hy=>?_,fun y c _ h=>?_,fun _=>hd,Around.frames_deeper e0.frames,.inr ⟨rfl,rfl⟩,fun b z=>absurd z (noA b),e0.bs,e0.bsz,fun b _ _=>noA b,fun b z=>absurd z (noA b),e0.funs,e0.frf⟩,
  rfl,e0.bare,Un.kept hk,⟨_,x.toInCall.ns,fun i y v h1 h2 h3=>?_⟩,fun y c h=>⟨_,x.cell y c h⟩,e0.hok.fresh %[|3],fun y c h=>?_,fun p hp=>absurd (show p∈([]:List (Addr×Obj)) from hp) (by simp),e0.hok.kept hk,?_⟩
 ·exact name_of_addr x.apart (PySem.mem_of_lookup h1) (PySem.mem_of_lookup h2)
 ·have hy:scope.names.lookup y=some .cell\/scope.names.lookup y=some .free:=hy
  rcases hy with hy|hy
  ·exact Jl hy
  ·exact absurd rfl (S.nofree _ (PySem.mem_of_lookup hy))
 ·exact Nat.le_of_lt (x.above y c (PySem.mem_of_lookup h))
 ·have hi:i<vs.length:=by
   unfold start at h2;by_cases hi:i<vs.length
   ·exact hi
   ·rw[List.getElem?_append_right (by simpa using hi)] at h2
    rw[List.getElem?_replicate] at h2;split at h2<;>cases h2
  have ha:vs[i]?=some v:=by
   unfold start at h2;rw[List.getElem?_append_left (by simpa using hi),List.getElem?_map] at h2;cases e:vs[i]? with
   | none=>rw [e] at h2;cases h2
   | some a=>rw [e] at h2;cases h2;rfl
  obtain⟨u,hu,rv⟩:=r.get ha;have hp:ps[i]?=some y:=by
   rw[<- S.pre,List.getElem?_take_of_lt %[|5]];exact h1
  have ndP:ps.Nodup:=by rw[<- S.pre];exact S.nd.sublist (List.take_sublist _ _)
  refine⟨u,rv,?_⟩;rcases S.par y (List.mem_of_getElem? hp) with k|k
  ·exact .inl ⟨k,U1 ndP hp hu k⟩
  ·obtain⟨c,e⟩:=Jl (n:=s.heap.objs.size+1) k
   refine .inr ⟨.inl k,c,e,?_⟩;have q:=x.cell y c e;rw[U3 ndP hp hu (by show scope.names.lookup y≠_;rw[k];decide)] at q;exact q
 ·exact e0.hok.fresh (Nat.le_of_lt (x.above y c (PySem.mem_of_lookup h)))
 ·unfold start
  show _=N.length;rw[List.length_append,List.length_map,List.length_replicate];omega
theorem IH {CX:CXT} {P:Program} {w:World} {K:Frag} {mg:Str->Option Value} {base:Heap} {k:Nat} {f:Addr} {name qual:Str} {params:Arguments} {body:List Stmt} {scope:Scope} {dV kV doc pm cdv ct oc:Value} {an od:Option Addr}
  {osl:Array (Option Value)} {N ps:List Str} {sp:Sp} (lk:K.lookup f=some ⟨oc,od,.func (PySem.W.fnOf name qual params body scope dV kV doc pm an cdv ct),osl⟩) (hcd:PySem.W.codeIn K cdv qual=true) (S:FnScope N ps scope)
  (len:∀ vs H Q E,sp vs H Q E->vs.length=ps.length)
  (hbody:∀ (A:Around) (outer:List Env) (s:Shared) (H:Hp) (vs:List V) (Q:VK) (E:XK),Room k (A.deeper (envOfC qual scope s.heap.objs.size f cdv))->sp vs H Q E ->
   ∃ t,PSs (cxOf CX P w K mg base N qual scope f cdv A outer s H E) body t/\t {nx:=fun _ H'=>Q .non H',rt:=Q} (start N vs) H) :
  FnOk P w K mg base CX (k+1) f (PySem.W.fnOf name qual params body scope dV kV doc pm an cdv ct) ps sp:=by
 refine⟨len,fun A outer s H args us vs Q E hr e0 hb r hsp=>?_⟩;have hl:=len _ _ _ _ hsp;have KX:K.In s.heap:=e0.mod.kin.keeps fun b o e=>(e0.bs b o e).1;have lim:s.heap.NoLimit:=e0.mod.nolimit.keeps fun b o e=>(e0.bs b o e).1;have hkind:∀ y∈ps.zip us,scope.names.lookup y.1=some .local\/(scope.names.lookup y.1=some .cell/\((cellsFrom (s.heap.objs.size+1) scope.names []).lookup y.1).isSome=true):=fun ⟨n,v⟩ hy=>by
  rcases S.par n (List.of_mem_zip hy).1 with q|q
  ·exact .inl q
  ·exact .inr ⟨q,PySem.W.cellsFrom_some _ _ _ (.inl q)⟩
 refine codeAny_call_function hr.depth (KX _ _ lk) rfl S.co S.gen rfl (PySem.W.codeRec_of KX hcd) (hb _ _ _ _ ?_);refine wpAny_newFunctionEnv_cells S.kind hkind fun env he s1 x=>?_;subst he;refine⟨lim.keeps x.toInCall.keep,codeAny_func ?_⟩;obtain⟨t,ht,hq⟩:=hbody A outer s H vs Q E (hr.deeper _) hsp;have I:Inv (cxOf CX P w K mg base N qual scope f cdv A outer s H E) [] (start N vs) H s1:=VO S hr.hd e0 hl r x;refine wpAny_mono (ht [] s1 (start N vs) H _ I hq) (fun fl s' hs=>?_) fun e s' hs=>hs;have fin:∀ {σ':St} {H':Hp} {v:V} {u:Value},Inv (cxOf CX P w K mg base N qual scope f cdv A outer s H E) [] σ' H' s'->RelV v u->Q v H'->CE outer P w H s Q u s' :=
  fun {σ' H' v u} J rv q=>⟨v,H',J.os,J.bare,J.base,J.hok,rv,q⟩
 cases fl with
 | ret u =>
  obtain⟨v,σ',H',J,rv,q⟩:=hs;exact fin J rv q
 | next =>
  obtain⟨σ',H',J,q⟩:=hs;exact fin (v:=V.non) (u:=Value.none) J rfl q
 | brk =>
  obtain⟨_,_,_,q⟩:=hs;exact False.elim q
 | cont =>
  obtain⟨_,_,_,q⟩:=hs;exact False.elim q
end L2
namespace L2
open PySem PySem.Spec PyProof.Rows
section
variable {X:Cx} {x:Str} {p pos:Pos} {e:Expr} {es:List Expr} {t:TA} {id T:String} {r:List V->Hp->VK->Prop}
noncomputable def tCB (r:List V->Hp->VK->Prop) (t:TA):TE:=fun σ H Q=>t σ H fun vs H1=>r vs H1 Q
theorem Zz (hc:CallR X (.builtin id) r) (hg:Gl X x) (hm:X.mg x=none) (hv:bootBuiltins x=some (.builtin id)) (ha:PA X (e::es) t) (hn:x≠"__name__":=by decide) (hdb:(x==("__debug__":Str))=false:=by decide)
  (he:starEach (e::es) X.env=(false,eval e X.env)::starEach es X.env:=by rfl) (hpl:(backTo pos (starEach es X.env)).any (·.1)=false:=by rfl):PE X (.Call (.Name x p) (e::es) [] pos) (tCB r t):=by
 intro pins s σ H Q I h;refine wpAny_Call_Name_kw (Wt I hg hm hv ?_ hn hdb);exact PyProof.Rows.callWith_builtin1 (thn (ha pos pins s σ H _ I h) (by rintro us s1 ⟨vs,H1,I1,r1,q1⟩;exact hc pins s1 σ H1 vs us Q I1 r1 q1)) he hpl
theorem XE (hc:CallR X (.type T) r) (hg:Gl X x) (hm:X.mg x=none) (hv:bootBuiltins x=some (.type T)) (ha:PA X (e::es) t) (hn:x≠"__name__":=by decide) (hdb:(x==("__debug__":Str))=false:=by decide)
  (he:starEach (e::es) X.env=(false,eval e X.env)::starEach es X.env:=by rfl) (hpl:(backTo pos (starEach es X.env)).any (·.1)=false:=by rfl):PE X (.Call (.Name x p) (e::es) [] pos) (tCB r t):=by
 intro pins s σ H Q I h;refine wpAny_Call_Name_kw (Wt I hg hm hv ?_ hn hdb);exact PyProof.Rows.callWith_type1 (thn (ha pos pins s σ H _ I h) (by rintro us s1 ⟨vs,H1,I1,r1,q1⟩;exact hc pins s1 σ H1 vs us Q I1 r1 q1)) he hpl
end
end L2
namespace HT
open PySem PyProof.Rows
section
open PySem.SeqAt
open PySem.AutoSeq1 (wpAny_loadPart')
open PySem.MeetsSeq PySem.MeetsSeq2 PySem.MeetsSeq3
end
section
variable {prog:Program} {w:World} {A:Around} {E:Value->Shared->Prop} {s:Shared}
theorem cat_tup (ht:IsTup s.heap t vs.toArray) (hb:IsTup s.heap b ws.toArray) (hv:vs≠[])
  (h1:ws=[]->Q (.ref t) s) (h2:ws≠[]->Q (.ref s.heap.objs.size) {s with heap:=s.heap.push {cls:=.type "tuple",data:=.seq (vs++ws).toArray}})
  (hsz:vs.length+ws.length<=sizeLine):wpAny (model prog w) A (binaryOp .Add (.ref t) (.ref b)) Q E s:=by
 obtain⟨⟨cls,dd,data,sl⟩,ho,hc,n,hd⟩:=id ht;obtain⟨⟨cls2,dd2,data2,sl2⟩,ho2,hc2,n2,hd2⟩:=id hb;simp only at hc hd hc2 hd2;subst hc hd hc2 hd2;have e:vs.toArray++ws.toArray=(vs++ws).toArray:=by simp
 by_cases hw:ws=[]
 ·exact concat_meets ⟨_,ho,rfl⟩ ⟨_,ho2,rfl⟩ noFill_tuple_add seq_tuple_add PySem.F.slot_tuple_add PySem.F.entry_tuple_add (PySem.F.args_tuple_add_2 _ _)
   (tuple_addW1 t b vs.toArray ws.toArray n n2 dd dd2 sl sl2 (by simpa using hv) (by simp[hw])) ⟨ho,ho2,h1 hw⟩
 ·refine concat_meets ⟨_,ho,rfl⟩ ⟨_,ho2,rfl⟩ noFill_tuple_add seq_tuple_add PySem.F.slot_tuple_add PySem.F.entry_tuple_add (PySem.F.args_tuple_add_2 _ _)
   (tuple_addW2 t b vs.toArray ws.toArray n n2 dd dd2 sl sl2 (by simpa using hv) (by simpa using hw) (by rw[List.size_toArray,List.size_toArray];exact hsz)) ⟨ho,ho2,?_⟩
  rw[e];exact h2 hw
noncomputable def sIx (n d:Nat):Option Int->Nat
 | none=>d
 | some v=>if v<0 then (v+(n:Int)).toNat else min v.toNat n
theorem sIx_none (n d:Nat):sIx n d none=d:=rfl
theorem sIx_nat (n d k:Nat):sIx n d (some (k:Int))=min k n:=by
 show (if (k:Int)<0 then ((k:Int)+(n:Int)).toNat else min (k:Int).toNat n)=min k n;rw[if_neg %[|5],Int.toNat_natCast]
theorem FZ (n d:Nat) (hd:d<=n) (o:Option Int):sIx n d o<=n:=by
 cases o with
 | none=>exact hd
 | some v =>
  show (if v<0 then (v+(n:Int)).toNat else min v.toNat n)<=n;by_cases hv:v<0
  ·rw[if_pos hv];omega
  ·rw[if_neg hv];exact Nat.min_le_right _ _
theorem AB (v:Int) (n d:Nat):(if v<0 then max (v+(n:Int)) 0 else min v (n:Int))=((sIx n d (some v):Nat):Int):=by
 show (if v<0 then max (v+(n:Int)) 0 else min v (n:Int))=(((if v<0 then (v+(n:Int)).toNat else min v.toNat n):Nat):Int);by_cases hv:v<0
 ·simp only[if_pos hv];omega
 ·simp only[if_neg hv];omega
theorem A5 (lo hi:Option Int) (n:Nat):Builtin.Slice.sliceAdjust lo hi 1 (n:Int)=(((sIx n 0 lo:Nat):Int),((sIx n n hi:Nat):Int)):=by
 have h1:¬ ((1:Int)<0):=by omega
 unfold Builtin.Slice.sliceAdjust;simp only[h1,if_false];refine Prod.ext ?_ ?_
 ·cases lo with
  | none=>rfl
  | some v=>exact AB v n 0
 ·cases hi with
  | none=>rfl
  | some v=>exact AB v n n
theorem JG (i j:Nat):Builtin.Slice.slicePlaces (i:Int) (j:Int) 1=j-i:=by
 unfold Builtin.Slice.slicePlaces;have h1:(1:Int) > 0:=by omega
 simp only[h1,if_true,Int.ediv_one];split<;>omega
theorem V8 (p:IsPart v o) (h:Q o s):wpAny (model prog w) A (Builtin.Slice.slicePartIndex v) Q E s:=by
 cases p with
 | none=>exact slicePart_none h
 | int i t=>exact slicePart_int h
theorem ZY {sl:Addr} {vl vu:Value} {lo hi:Option Int} {n:Nat} {Q:Int×Int×Nat->Shared->Prop} (hs:s.heap.IsSliceOf sl vl vu .none) (pl:IsPart vl lo) (pu:IsPart vu hi)
  (h:Q (((sIx n 0 lo:Nat):Int),1,sIx n n hi-sIx n 0 lo) s):wpAny (model prog w) A (Builtin.Slice.sliceApplied (.ref sl) (pure (n:Int))) Q E s:=by
 obtain⟨os,hos,hcs,hds⟩:=id hs;unfold Builtin.Slice.sliceApplied Builtin.Slice.sliceFields;refine wpAny_bind (wpAny_bind (wpAny_field hos hds (x:=vl) rfl (wpAny_bind (wpAny_field hos hds (x:=vu) rfl (wpAny_bind (wpAny_field hos hds (x:=.none) rfl (wpAny_pure ?_)))))));refine wpAny_bind (slicePart_none ?_);show wpAny _ _ (if ((1:Int)==0)=true then _ else _) _ _ s;rw[if_neg %[|4]];refine wpAny_bind (V8 pl (wpAny_bind (V8 pu (wpAny_bind (wpAny_pure ?_)))));show wpAny _ _ (match Builtin.Slice.sliceAdjust lo hi 1 (n:Int) with|(lo,hi)=>pure (lo,(1:Int),Builtin.Slice.slicePlaces lo hi 1)) _ _ s;rw[A5 lo hi n];show wpAny _ _ (pure (((sIx n 0 lo:Nat):Int),(1:Int),Builtin.Slice.slicePlaces ((sIx n 0 lo:Nat):Int) ((sIx n n hi:Nat):Int) 1)) _ _ s;rw[JG];exact wpAny_pure h
theorem Cb (xs:Array Value) (i k:Nat):((List.range k).filterMap fun (m:Nat)=>xs[((i:Int)+(m:Int)*1).toNat]?).toArray=((xs.toList.drop i).take k).toArray:=by
 have e:(fun (m:Nat)=>xs[((i:Int)+(m:Int)*1).toNat]?)=fun m=>xs[i+m]?:=by
  funext m
  have:((i:Int)+(m:Int)*1).toNat=i+m:=by omega
  rw[this]
 rw[e];have:=pick_run xs i k;rw[List.filterMap_map] at this;have e2:((fun x=>xs[x]?) ∘ fun x=>i+x)=fun m=>xs[i+m]?:=rfl;rw[e2] at this;rw[this]
theorem getItem_tuple_cut {t sl:Addr} {items:Array Value} {vl vu:Value} {lo hi:Option Int} {Q:Value->Shared->Prop} (ht:IsTup s.heap t items) (hs:s.heap.IsSliceOf sl vl vu .none) (pl:IsPart vl lo) (pu:IsPart vu hi)
  (hw:¬ (sIx items.size 0 lo=0/\sIx items.size items.size hi=items.size))
  (h:Q (.ref s.heap.objs.size) {s with heap:=s.heap.push {cls:=.type "tuple",data:=.seq ((items.toList.drop (sIx items.size 0 lo)).take (sIx items.size items.size hi-sIx items.size 0 lo)).toArray}})
  (hsz:items.size<=sizeLine):wpAny (model prog w) A (getItem (.ref t) (.ref sl)) Q E s:=by
 have htake:sizeOk (.seq ((items.toList.drop (sIx items.size 0 lo)).take (sIx items.size items.size hi-sIx items.size 0 lo)).toArray):=by
  show ((items.toList.drop (sIx items.size 0 lo)).take (sIx items.size items.size hi-sIx items.size 0 lo)).toArray.size<=sizeLine;rw[List.size_toArray,List.length_take,List.length_drop,Array.length_toList];omega
 have hj:sIx items.size items.size hi<=items.size:=FZ _ _ %[|3] hi;obtain⟨os,hos,hcs,hds⟩:=id hs;have hTs:s.TypeIs (.ref sl) "slice":=⟨os,hos,hcs⟩;unfold getItem
 try with_reducible refine wpAny_holding ?_
 first|refine wpAny_bind (wpAny_pure ?_)|skip
 refine wpAny_bind (wpAny_sequenceKey ht.typeIs %[|4] ?_);refine wpAny_bind (wpAny_callSpecial?_slot (name:=Str.ofString "__getitem__") ht.typeIs PyProof.Rows.slot_tuple_getitem
  (wpAny_call_entry PyProof.Rows.slot_tuple_getitem ht.typeIs entry_tuple_getitem ?_ (args_tuple_getitem _ _)))
 show wpAny _ _ (Builtin.Tuple.tupleItemsOf (.ref t) >>= _) _ _ s;refine wpAny_bind (tupleItemsOf_ ht ?_);refine wpAny_bind (wpAny_typeOf hTs ?_);rw[if_pos %[|4]];refine wpAny_bind (ZY hs pl pu ?_);have hno:¬ ((((sIx items.size 0 lo:Nat):Int)==0&&(1:Int)==1&&(sIx items.size items.size hi-sIx items.size 0 lo)==items.size)=true):=by
  intro q;rw[Bool.and_eq_true,Bool.and_eq_true] at q;have q1:((sIx items.size 0 lo:Nat):Int)=0:=eq_of_beq q.1.1;have q2:sIx items.size items.size hi-sIx items.size 0 lo=items.size:=eq_of_beq q.2;exact hw ⟨by omega,by omega⟩
 show wpAny _ _ (if (((sIx items.size 0 lo:Nat):Int)==0&&(1:Int)==1&&(sIx items.size items.size hi-sIx items.size 0 lo)==items.size)=true then _ else _) _ _ s;rw[if_neg hno,Cb]
 first
  | exact wpAny_bind (m:=Builtin.Tuple.tupleExact _) (wpAny_newObj_type (wpAny_pure ⟨_,rfl,wpAny_pure h⟩) htake)
  | exact wpAny_bind (m:=Builtin.Tuple.tupleExact _) (wpAny_newObj_type (wpAny_bind (wpAny_pure (wpAny_pure ⟨_,rfl,wpAny_pure h⟩))) htake)
  | exact wpAny_bind (wpAny_bind (m:=Builtin.Tuple.tupleExact _) (wpAny_newObj_type (wpAny_pure (wpAny_pure ⟨_,rfl,wpAny_pure h⟩)) htake))
  | exact wpAny_bind (wpAny_bind (m:=Builtin.Tuple.tupleExact _) (wpAny_newObj_type (wpAny_pure ⟨_,rfl,wpAny_pure h⟩) htake))
end
end HT
namespace L2
open PySem PySem.Spec PyProof.Rows
abbrev TO:=St->Hp->(Option Int->Hp->Prop)->Prop
noncomputable def PO (X:Cx) (e:Option Expr) (t:TO):Prop :=
 ∀ (pins:List (Addr×Obj)) (s:Shared) (σ:St) (H:Hp) (Q:Option Int->Hp->Prop),Inv X pins σ H s->t σ H Q ->
  wpAny (model X.prog X.w) X.A (evalPart e X.env) (fun u s'=>∃ o H',Inv X pins σ H' s'/\IsPart u o/\Q o H') X.xe s
noncomputable def DU:TO:=fun _ H Q=>Q none H
noncomputable def HW (t:TE):TO:=fun σ H Q=>t σ H fun x H1=>∃ i,x=.int i/\Q (some i) H1
section
variable {X:Cx} {e:Expr} {te:TE} {lo hi:Option Expr} {tl th:TO} {pos p2:Pos}
theorem Ei:PO X none DU:=by
 intro pins s σ H Q I h;rw[evalPart_none];exact wpAny_pure ⟨none,H,I,.none,h⟩
theorem Eh (h:PE X e te):PO X (some e) (HW te):=by
 intro pins s σ H Q I hw;rw[evalPart_some];refine thn (h pins s σ H _ I hw) fun u s1 hq2=>?_;obtain⟨x,H1,I1,r1,q1⟩:=hq2;obtain⟨i,rfl,q⟩:=q1;obtain⟨t,rfl⟩:=r1;exact⟨some i,H1,I1,.int i t,q⟩
noncomputable def SlR (X:Cx) (r:V->Option Int->Option Int->Hp->VK->Prop):Prop :=
 ∀ (pins:List (Addr×Obj)) (s:Shared) (σ:St) (H:Hp) (x:V) (v vl vu:Value) (lo hi:Option Int) (sl:Addr) (Q:VK),Inv X pins σ H s->RelV x v->s.heap.IsSliceOf sl vl vu .none->IsPart vl lo->IsPart vu hi->r x lo hi H Q ->
  ∃ T id,typeLookup (.type T) "__getitem__"=pure (some (.builtin id))/\s.TypeIs v T/\wpAny (model X.prog X.w) X.A (getItem v (.ref sl)) (EP X pins σ Q) X.xe s
noncomputable def tSl (r:V->Option Int->Option Int->Hp->VK->Prop) (te:TE) (tl th:TO):TE:=fun σ H Q=>te σ H fun x H1=>tl σ H1 fun l H2=>th σ H2 fun u H3=>r x l u H3 Q
theorem UX (hr:SlR X r) (he:PE X e te) (hl:PO X lo tl) (hu:PO X hi th):PE X (.Subscript e (.Slice lo hi none p2) pos) (tSl r te tl th):=by
 intro pins s σ H Q I h;refine Subscript_ (thn (he pins s σ H _ I h) fun v s1 hq2=>?_);obtain⟨x,H1,I1,r1,q1⟩:=hq2;refine wpAny_Slice (thn (hl pins s1 σ H1 _ I1 q1) fun vl s2 ⟨l,H2,I2,pl,q2⟩=>thn (hu pins s2 σ H2 _ I2 q2) fun vu s3 hq2=>?_);obtain⟨u,H3,I3,pu,q3⟩:=hq2;rw[evalPart_none];refine wpAny_pure ?_;have I4:Inv X pins σ H3 {s3 with heap:=s3.heap.push {cls:=.type "slice",data:=.fields #[vl,vu,.none]}}:=I3.kept (t':=s3.toks) fun b ob q=>Heap.get?_push_of_some _ q;obtain⟨T,id,hT,ht,hg⟩:=hr pins {s3 with heap:=s3.heap.push {cls:=.type "slice",data:=.fields #[vl,vu,.none]}} σ H3 x v vl vu l u s3.heap.objs.size Q I4 r1 (Heap.IsSliceOf.new ..) pl pu q3;show wpAny (model X.prog X.w) X.A (subscriptTail e (.Slice lo hi none p2) v (.ref s3.heap.objs.size)) (EP X pins σ Q) X.xe {s3 with heap:=s3.heap.push {cls:=.type "slice",data:=.fields #[vl,vu,.none]}};exact tail_any (ops:=[.ref s3.heap.objs.size,v]) ht hT hg (by with_unfolding_all rfl)
noncomputable def cutV (xs:List V) (lo hi:Option Int):List V:=(xs.drop (HT.sIx xs.length 0 lo)).take (HT.sIx xs.length xs.length hi-HT.sIx xs.length 0 lo)
theorem WM (xs:List V) (lo hi:Option Int):(cutV xs lo hi).length<=xs.length:=by
 unfold cutV;rw[List.length_take,List.length_drop];omega
noncomputable def rSlT (K:Frag):V->Option Int->Option Int->Hp->VK->Prop:=fun x lo hi H Q=>∃ a xs,x=.ref a/\SqT K H a xs /\
 ¬ (HT.sIx xs.length 0 lo=0/\HT.sIx xs.length xs.length hi=xs.length)/\∀ p,H p=none->Q (.ref p) (upd H p (.tup (cutV xs lo hi)))
theorem FX:SlR X (rSlT X.K):=by
 intro pins s σ H x v vl vu lo hi sl Q I rx hs pl pu h;obtain⟨a,xs,rfl,hx,hw,q⟩:=h;cases rx;obtain⟨its,r,ht,hz⟩:=I.tuple hx;have hlen:its.toArray.size=xs.length:=by rw[List.size_toArray];exact r.length.symm
 refine⟨"tuple",_,PyProof.Rows.slot_tuple_getitem.lookup,ht.typeIs,?_⟩;refine HT.getItem_tuple_cut ht hs pl pu (by rw[hlen];exact hw) ?_ (by rw[hlen];exact hz);rw[hlen];refine⟨.ref s.heap.objs.size,_,I.laid (t':=s.toks) (o:=.tup (cutV xs lo hi)) (fun b ob q=>Heap.get?_push_of_some _ q) %[|3] ?_,rfl,q _ (I.hok.fresh %[|3])⟩;exact⟨Nat.le_trans (WM xs lo hi) hz,_,(r.drop (HT.sIx xs.length 0 lo)).take (HT.sIx xs.length xs.length hi-HT.sIx xs.length 0 lo),IsTup.new _ _⟩
noncomputable def Ii (K:Frag):R2:=fun x y H Q=>∃ a b xs ys,x=.ref a/\y=.ref b/\SqT K H a xs/\SqT K H b ys/\xs≠[]/\xs.length+ys.length<=sizeLine /\
 (ys=[]->Q (.ref a) H)/\(ys≠[]->∀ p,H p=none->Q (.ref p) (upd H p (.tup (xs++ys))))
theorem Vals.nil_iff (r:Vals xs us):us=[] ↔ xs=[]:=by
 cases r with
 | nil=>simp
 | cons _ _=>simp
theorem Es:OpR X (binaryOp .Add) (Ii X.K):=by
 intro pins s σ H x y v u Q I rx ry h;obtain⟨a,b,xs,ys,rfl,rfl,ha,hb,hx,hz,q1,q2⟩:=h;cases rx;cases ry;obtain⟨its,r1,p1,_⟩:=I.tuple ha;obtain⟨its2,r2,p2,_⟩:=I.tuple hb;refine HT.cat_tup p1 p2 (fun z=>hx (r1.nil_iff.mp z)) (fun z=>⟨.ref a,H,I,rfl,q1 (r2.nil_iff.mp z)⟩) (fun z=>?_) (by rw[<- r1.length,<- r2.length];exact hz);refine⟨.ref s.heap.objs.size,_,I.laid (t':=s.toks) (o:=.tup (xs++ys)) (fun b ob q=>Heap.get?_push_of_some _ q) %[|3] ?_,rfl,q2 (fun w=>z (r2.nil_iff.mpr w)) _ (I.hok.fresh %[|3])⟩;exact⟨by rw[List.length_append];exact hz,_,r1.append r2,IsTup.new _ _⟩
end
end L2
namespace L2
open PySem PySem.Spec PyProof.Rows
noncomputable def ixN (n:Nat) (i:Int):Option Nat:=if 0<=i then (if i<n then some i.toNat else none) else if -(n:Int)<=i then some (i+n).toNat else none
noncomputable def atI {α:Type} (xs:List α) (i:Int):Option α:=(ixN xs.length i).bind fun j=>xs[j]?
theorem Ao (h:ixN n i=some j):seqIndex? i n=some j/\j<n/\-(n:Int)<=i/\i<n:=by
 unfold ixN at h;by_cases h0:0<=i
 ·rw[if_pos h0] at h
  by_cases h1:i<n
  ·rw[if_pos h1] at h
   have e:i.toNat=j:=Option.some.inj h;exact⟨by rw[seqIndex_of h0 h1,e],by omega,by omega,h1⟩
  ·rw[if_neg h1] at h;cases h
 ·rw[if_neg h0] at h
  by_cases h1:-(n:Int)<=i
  ·rw[if_pos h1] at h
   have e:(i+n).toNat=j:=Option.some.inj h;exact⟨by rw[seqIndex_neg %[|5] h1,e],by omega,h1,by omega⟩
  ·rw[if_neg h1] at h;cases h
theorem UH (h:atI xs i=some v):∃ j,seqIndex? i xs.length=some j/\xs[j]?=some v/\j<xs.length/\-(xs.length:Int)<=i/\i<xs.length:=by
 unfold atI at h;cases e:ixN xs.length i with
 | none=>rw [e] at h;cases h
 | some j =>
  rw[e] at h;obtain⟨h1,h2,h3,h4⟩:=Ao e;exact⟨j,h1,h,h2,h3,h4⟩
theorem atI_nat {α:Type} {xs:List α} {j:Nat} {v:α} (h:xs[j]?=some v):atI xs (j:Int)=some v:=by
 have hj:j<xs.length:=(List.getElem?_eq_some_iff.mp h).1;have e:ixN xs.length (j:Int)=some j:=by
  unfold ixN;rw[if_pos %[|5],if_pos %[|5]];simp
 unfold atI;rw[e];exact h
noncomputable def UI (b:Expr):Prop:=∀ o i,subscripted b false o i=operate [o,i] (getItem o i)
noncomputable def IxR (X:Cx) (r:R2):Prop :=
 ∀ (value slice:Expr) (pins:List (Addr×Obj)) (s:Shared) (σ:St) (H:Hp) (x y:V) (v u:Value) (Q:VK),Inv X pins σ H s->RelV x v->RelV y u->r x y H Q ->
  subscripted slice false v u=operate [v,u] (getItem v u)->wpAny (model X.prog X.w) X.A (subscriptTail value slice v u) (EP X pins σ Q) X.xe s
noncomputable def MtR (X:Cx) (id:String) (r:V->List V->Hp->VK->Prop):Prop :=
 ∀ (pins:List (Addr×Obj)) (s:Shared) (σ:St) (H:Hp) (x:V) (xs:List V) (v:Value) (us:List Value) (Q:VK),Inv X pins σ H s->RelV x v->Vals xs us->r x xs H Q ->
  wpAny (model X.prog X.w) X.A (call (.builtin id) (v::us)) (EP X pins σ Q) X.xe s
section
variable {X:Cx} {a b:Expr} {ta tb:TE} {pos:Pos}
theorem Ip (hr:IxR X r) (ha:PE X a ta) (hb:PE X b tb) (hs:UI b):PE X (.Subscript a b pos) (tOp r ta tb):=by
 intro pins s σ H Q I h;exact Subscript_ (binT ha hb I h fun v u s2 x y H2 I2 rx ry q=>hr a b pins s2 σ H2 x y v u Q I2 rx ry q (hs _ _))
noncomputable def rIxL (K:Frag):R2:=fun x y H Q=>∃ p xs i v,x=.ref p/\y=.int i/\SqL K H p xs/\atI xs i=some v/\Q v H
noncomputable def rIxT (K:Frag):R2:=fun x y H Q=>∃ p xs i v,x=.ref p/\y=.int i/\SqT K H p xs/\atI xs i=some v/\Q v H
noncomputable def rIxS:R2:=fun x y H Q=>∃ z i c,x=.str z/\y=.int i/\z.length<=sizeLine/\atI z.cps.toList i=some c/\Q (.str ⟨#[c]⟩) H
theorem An:IxR X (rIxL X.K):=by
 intro value slice pins s σ H x y v u Q I rx ry h hs;obtain⟨p,xs,i,z,rfl,rfl,hq,he,q⟩:=h;cases rx;obtain⟨t,rfl⟩:=ry;obtain⟨its,r,pl,hz⟩:=I.list hq;obtain⟨j,h1,h2,h3,h4,h5⟩:=UH he;obtain⟨w,ew,rw'⟩:=r.get h2;have hl:=r.length;have hn:=XX;have fin:EP X pins σ Q w s:=⟨z,H,I,rw',q⟩;by_cases h0:0<=i
 ·have hj:i.toNat=j:=by
   rw[seqIndex_of h0 h5] at h1;exact Option.some.inj h1
  exact item_listR pl.isList h0 %[|5] (by rw[hj];simpa using ew) fin hs
 ·have hj:(i+(its.toArray.size:Int)).toNat=j:=by
   rw[seqIndex_neg %[|5] h4] at h1;rw[List.size_toArray,<- hl];exact Option.some.inj h1
  exact subscriptTail_builtinR (x:=w) pl.isList.typeIs slot_list_getitem.lookup
   (wpAny_getItem_list_neg (Q:=fun r s'=>r=w/\EP X pins σ Q r s') pl.isList %[|5] (by rw[List.size_toArray]<;>omega) %[|5] (by rw[hj];simpa using ew) ⟨rfl,fin⟩) hs
theorem GN:IxR X (rIxT X.K):=by
 intro value slice pins s σ H x y v u Q I rx ry h hs;obtain⟨p,xs,i,z,rfl,rfl,hq,he,q⟩:=h;cases rx;obtain⟨t,rfl⟩:=ry;obtain⟨its,r,pl,hz⟩:=I.tuple hq;obtain⟨j,h1,h2,h3,h4,h5⟩:=UH he;obtain⟨w,ew,rw'⟩:=r.get h2;have hl:=r.length;have hn:=XX;have fin:EP X pins σ Q w s:=⟨z,H,I,rw',q⟩;exact subscriptTail_builtinR (x:=w) pl.typeIs slot_tuple_getitem.lookup
  (getItem_tuple (j:=j) (Q:=fun r s'=>r=w/\EP X pins σ Q r s') pl %[|5] %[|5] (by rw[List.size_toArray,<- hl];exact h1) (by simpa using ew) ⟨rfl,fin⟩) hs
theorem GO:IxR X rIxS:=by
 intro value slice pins s σ H x y v u Q I rx ry h hs;obtain⟨z,i,c,rfl,rfl,hz,he,q⟩:=h;obtain⟨t,rfl⟩:=rx;obtain⟨t',rfl⟩:=ry;obtain⟨j,h1,h2,h3,h4,h5⟩:=UH he;have hl:z.cps.toList.length=z.length:=by simp[Str.length]
 rw[hl] at h1 h4 h5;have hn:=XX;exact tail_any (typeIs_str s z t) slot_str_getitem.lookup (getItem_str (c:=c) (by
  have e1:decide (i < -(2 ^ 63:Int))=false:=decide_eq_false %[|5];have e2:decide (i ≥ 2 ^ 63)=false:=decide_eq_false %[|5];rw[e1,e2,Bool.or_false]) (by rw[h1];simpa using h2) ⟨.str ⟨#[c]⟩,H,I.tok _,⟨_,rfl⟩,q⟩) hs
theorem JP (its:List Value) (n j:Nat) (u:Value):Obj.mapSeq (·.setIfInBounds j u) {cls:=.type "list",data:=.seq its.toArray n}={cls:=.type "list",data:=.seq (its.set j u).toArray n}:=by
 simp[Obj.mapSeq]
theorem Inv.lst {pins:List (Addr×Obj)} {σ:St} {H:Hp} {s:Shared} {p:Addr} {xs:List V} (I:Inv X pins σ H s) (h:H p=some (.lst xs)) :
  ∃ (its:List Value) (n:Nat),Vals xs its/\s.heap.get? p=some {cls:=.type "list",data:=.seq its.toArray n}/\xs.length<=sizeLine:=by
 obtain⟨z,its,n,r,e⟩:=I.hok p _ h;exact⟨its,n,r,e,z⟩
theorem Inv.lstUpd {pins:List (Addr×Obj)} {σ:St} {H:Hp} {s:Shared} {p:Addr} {xs ys:List V} {its its':List Value} {n n':Nat} {f:Obj->Obj} (I:Inv X pins σ H s) (h:H p=some (.lst xs))
  (ho:s.heap.get? p=some {cls:=.type "list",data:=.seq its.toArray n}) (hf:f {cls:=.type "list",data:=.seq its.toArray n}={cls:=.type "list",data:=.seq its'.toArray n'}) (r:Vals ys its') (hz:ys.length<=sizeLine) (t:Nat) :
  Inv X pins σ (upd H p (.lst ys)) {s with heap:=s.heap.update p f,toks:=t}:=by
 have e:(s.heap.update p f).get? p=some {cls:=.type "list",data:=.seq its'.toArray n'}:=by
  rw[Heap.get?_update_self f ho (by rw[hf]<;>rfl),hf]
 refine I.write (x:=p) (e:=p) (by rw[h];trivial) (.inl rfl) (fun b u hb q=>(Heap.get?_update_other _ _ (Ne.symm hb)).trans q) ⟨_,e⟩ ?_;exact⟨hz,its',n',r,e⟩
noncomputable def Ig:V->V->V->Hp->(Hp->Prop)->Prop:=fun o i v H Q=>∃ p xs k j,o=.ref p/\i=.int k/\H p=some (.lst xs)/\ixN xs.length k=some j/\Q (upd H p (.lst (xs.set j v)))
theorem BN:PSet X Ig:=by
 intro pins s σ H o i v ov iv u Q I ro ri rv h;obtain⟨p,xs,k,j,rfl,rfl,hp,hj,q⟩:=h;cases ro;obtain⟨t,rfl⟩:=ri;obtain⟨its,n,r,ho,hz⟩:=I.lst hp;obtain⟨h1,h2,h3,h4⟩:=Ao hj;have hl:=r.length;have hn:=XX;have I':Inv X pins σ (upd H p (.lst (xs.set j v))) {s with heap:=s.heap.update p (Obj.mapSeq (·.setIfInBounds j u))} :=
  I.lstUpd hp ho (JP its n j u) (r.set rv j) (by rw[List.length_set];exact hz) s.toks
 by_cases h0:0<=k
 ·have hk:k.toNat=j:=by
   rw[seqIndex_of h0 h4] at h1;exact Option.some.inj h1
  exact PySem.W.ki_setAt ho h0 %[|5] (by rw[List.size_toArray,<- hl];exact h4) (by rw[hk];exact⟨_,I',q⟩)
 ·have hk:(k+(its.toArray.size:Int)).toNat=j:=by
   rw[seqIndex_neg %[|5] h3] at h1;rw[List.size_toArray,<- hl];exact Option.some.inj h1
  exact PySem.W.ki_setBack ho %[|5] (by rw[List.size_toArray,<- hl];exact h3) %[|5] (by rw[hk];exact⟨_,I',q⟩)
theorem Ud (lo hi:Option Int) (n:Nat):(sliceBounds lo hi none n).1=((HT.sIx n 0 lo:Nat):Int)/\(sliceBounds lo hi none n).2.1=((HT.sIx n n hi:Nat):Int)/\(sliceBounds lo hi none n).2.2=1:=by
 refine⟨?_,?_,rfl⟩
 ·cases lo with
  | none=>simp[sliceBounds,HT.sIx]
  | some i =>
   simp only[sliceBounds,HT.sIx,Option.getD_none,show (1:Int) > 0 by decide,if_true];by_cases h:i<0
   ·simp only[h,if_true]<;>omega
   ·simp only[h,if_false]<;>omega
 ·cases hi with
  | none=>simp[sliceBounds,HT.sIx]
  | some i =>
   simp only[sliceBounds,HT.sIx,Option.getD_none,show (1:Int) > 0 by decide,if_true];by_cases h:i<0
   ·simp only[h,if_true]<;>omega
   ·simp only[h,if_false]<;>omega
theorem Vz (its:List Value) (lo hi:Option Int):slicePick its.toArray lo hi none=((its.drop (HT.sIx its.length 0 lo)).take (HT.sIx its.length its.length hi-HT.sIx its.length 0 lo)).toArray:=by
 obtain⟨h1,h2,h3⟩:=Ud lo hi its.toArray.size;unfold slicePick;rw[h1,h2,h3];simp only[sliceRange_one,pick_run,List.size_toArray]<;>rfl
noncomputable def rSlL (K:Frag):V->Option Int->Option Int->Hp->VK->Prop:=fun x lo hi H Q=>∃ a xs,x=.ref a/\SqL K H a xs/\∀ p,H p=none->Q (.ref p) (upd H p (.lst (cutV xs lo hi)))
theorem Ac:SlR X (rSlL X.K):=by
 intro pins s σ H x v vl vu lo hi sl Q I rx hs pl pu h;obtain⟨a,xs,rfl,hx,q⟩:=h;cases rx;obtain⟨its,r,ht,hz⟩:=I.list hx;have hlen:=r.length;refine⟨"list",_,slot_list_getitem.lookup,ht.isList.typeIs,?_⟩;refine wpAny_getItem_list_slice ht.isList hs pl pu .none (by simp) ?_ (by rw[List.size_toArray]<;>omega);rw[Vz,<- hlen];refine⟨.ref s.heap.objs.size,_,I.laid (t':=s.toks) (o:=.lst (cutV xs lo hi)) (fun b ob q=>Heap.get?_push_of_some _ q) %[|3] ?_,rfl,q _ (I.hok.fresh %[|3])⟩;exact⟨Nat.le_trans (WM xs lo hi) hz,_,0,(r.drop (HT.sIx xs.length 0 lo)).take (HT.sIx xs.length xs.length hi-HT.sIx xs.length 0 lo),Heap.get?_push_size _ rfl⟩
theorem UF:CallR X (.builtin "len") (fun xs H Q=>∃ p ys,xs=[.ref p]/\(SqL X.K H p ys\/SqT X.K H p ys)/\Q (.int ys.length) H):=by
 intro pins s σ H xs us Q I r h;obtain⟨p,ys,rfl,hq,q⟩:=h;obtain⟨u,rfl,rx⟩:=WE r;cases rx;have hn:=XX;rcases hq with hq|hq
 ·obtain⟨its,r',pl,hz⟩:=I.list hq
  have hlen:=r'.length;exact Calls.call_len_list pl.isList (by simp only[List.size_toArray]<;>omega) ⟨.int ys.length,H,I.tok _,⟨s.toks+1,by rw[List.size_toArray,hlen]⟩,q⟩
 ·obtain⟨its,r',pl,hz⟩:=I.tuple hq
  have hlen:=r'.length;exact len_tuple pl (by simp only[List.size_toArray]<;>omega) ⟨.int ys.length,H,I.tok _,⟨s.toks+1,by rw[List.size_toArray,hlen]⟩,q⟩
theorem UE:CallR X (.builtin "len") (fun xs H Q=>∃ z,xs=[.str z]/\z.length<=sizeLine/\Q (.int z.length) H):=by
 intro pins s σ H xs us Q I r h;obtain⟨z,rfl,hz,q⟩:=h;obtain⟨u,rfl,t,rfl⟩:=WE r;have hn:=XX;exact len_str %[|5] ⟨.int z.length,H,I.tok _,⟨_,rfl⟩,q⟩
theorem CallR.or (h:CallR X f r) (h':CallR X f r'):CallR X f (fun xs H Q=>r xs H Q\/r' xs H Q):=by
 intro pins s σ H xs us Q I rs q;rcases q with q|q
 ·exact h pins s σ H xs us Q I rs q
 ·exact h' pins s σ H xs us Q I rs q
theorem VB:CallR X (.type "tuple") (fun xs H Q=>∃ p ys,xs=[.ref p]/\((SqL X.K H p ys/\∀ l,H l=none->Q (.ref l) (upd H l (.tup ys)))\/(SqT X.K H p ys/\Q (.ref p) H))):=by
 intro pins s σ H xs us Q I r h;obtain⟨p,ys,rfl,h⟩:=h;obtain⟨u,rfl,rx⟩:=WE r;cases rx;rcases h with ⟨hq,q⟩|⟨hq,q⟩
 ·obtain⟨its,r',pl,hz⟩:=I.list hq
  have hlen:=r'.length;refine call_tuple_list pl.isList (fun h' kp=>?_) (by simp only[List.size_toArray]<;>omega);have I1:Inv X pins σ H {s with heap:=h'}:=I.kept (t':=s.toks) kp;have I2:Inv X pins σ (upd H h'.objs.size (.tup ys)) {s with heap:=h'.push {cls:=.type "tuple",data:=.seq its.toArray}} :=
   I1.laid (t':=s.toks) (fun b o e=>Heap.get?_push_of_some _ e) %[|3] (show ObjOk X.prog X.w _ _ _ (.tup ys) from ⟨hz,its,r',IsTup.new _ _⟩)
  exact⟨.ref h'.objs.size,_,I2,rfl,q _ (I1.hok.fresh %[|3])⟩
 ·obtain⟨its,r',pl,hz⟩:=I.tuple hq
  exact call_tuple_same pl ⟨.ref p,H,I,rfl,q⟩
noncomputable def tyV (K:Frag) (T:String) (x:V) (H:Hp):Prop:=match x with
 | .str _=>T="str"
 | .int _=>T="int"
 | .ref p=>(T="list"/\∃ xs,SqL K H p xs)\/(T="tuple"/\∃ o,K.lookup p=some o/\o.cls=.type "tuple"/\o.dict=none) \/
   (T="dict"/\((∃ kvs,H p=some (.dK kvs))\/∃ kvs,H p=some (.dT kvs)))\/(T="set"/\∃ S n,H p=some (.set S n))
 | _=>False
theorem FR (I:Inv X pins σ H s) (r:RelV x v) (ty:tyV X.K T x H) :
  s.TypeIs v T/\∀ a,v=.ref a->∃ ob,s.heap.get? a=some ob/\ob.dict=none:=by
 cases x with
 | str z =>
  obtain⟨t,rfl⟩:=r;cases (show T="str" from ty);exact⟨typeIs_str s z t,fun _ e=>nomatch e⟩
 | int i =>
  obtain⟨t,rfl⟩:=r;cases (show T="int" from ty);exact⟨typeIs_int s i t,fun _ e=>nomatch e⟩
 | ref p =>
  cases r;rcases ty with ⟨rfl,xs,hq⟩|⟨rfl,o,hk,hc,hd⟩|⟨rfl,hk⟩|⟨rfl,S,n,hk⟩
  ·obtain⟨its,_,pl,_⟩:=I.list hq
   refine⟨pl.isList.typeIs,fun a e=>?_⟩;cases e;obtain⟨o,n,e,c,hd,_⟩:=pl;exact⟨o,e,hd⟩
  ·refine⟨⟨o,I.kIn p o hk,hc⟩,fun a e=>?_⟩
   cases e;exact⟨o,I.kIn _ o hk,hd⟩
  ·have z:∃ o,s.heap.get? p=some o/\o.ExactDict:=by
    rcases hk with ⟨kvs,hk⟩|⟨kvs,hk⟩
    ·obtain⟨_,_,_,_,o,_,_,e,ex,_⟩:=I.hok p _ hk
     exact⟨o,e,ex⟩
    ·obtain⟨_,_,_,_,o,_,_,e,ex,_⟩:=I.hok p _ hk
     exact⟨o,e,ex⟩
   obtain⟨o,e,ex⟩:=z;refine⟨⟨o,e,ex.1⟩,fun a e2=>?_⟩;cases e2;exact⟨o,e,ex.2.1⟩
  ·obtain⟨o,_,_,_,e,ex,_⟩:=I.hok p _ hk
   refine⟨⟨o,e,ex.1⟩,fun a e2=>?_⟩;cases e2;exact⟨o,e,ex.2.1⟩
 | _=>exact False.elim ty
noncomputable def tBM (K:Frag) (T:String) (r:V->List V->Hp->VK->Prop) (to:TE) (t:TA):TE:=fun σ H Q=>to σ H fun x H1=>tyV K T x H1/\t σ H1 fun xs H2=>r x xs H2 Q
variable {o e:Expr} {es:List Expr} {to:TE} {t:TA} {name:Str} {apos cpos:Pos} {T id:String} {r:V->List V->Hp->VK->Prop}
theorem UY (pa:PlainAttrs T) (slot:Slot T name id) (hty:typeOf (.builtin id)=pure (.type "method_descriptor")) (hm:MtR X id r) (ho:PE X o to) (ha:PA X (e::es) t)
  (hbase:attributeBase o name X.env (eval o X.env)=eval o X.env:=by rfl)
  (hfew:((backTo cpos (starEach (e::es) X.env)).all (fun x=>!x.1)&&(backToKw cpos (keywordEach [] X.env)).all (fun x=>x.1.isSome)
   && decide ((e::es).length+([]:List Keyword).length+(if ([]:List Keyword).isEmpty then 0 else 1)<30))=true:=by rfl)
  (hline:(apos.endLine==cpos.line)=true:=by rfl) (hs:starEach (e::es) X.env=(false,eval e X.env)::starEach es X.env:=by rfl) (hplain:(backTo cpos (starEach es X.env)).any (·.1)=false:=by rfl) :
  PE X (.Call (.Attribute o name apos) (e::es) [] cpos) (tBM X.K T r to t):=by
 intro pins s σ H Q I h;refine wpAny_Call_method_late hbase hfew hline rfl (thn (ho pins s σ H _ I h) fun v s1 hq2=>?_);obtain⟨x,H1,I1,r1,ty,q1⟩:=hq2;obtain⟨h1,h2⟩:=FR I1 r1 ty;refine⟨T,id,pa,slot,hty,h1,h2,?_⟩;have hA:=ha cpos pins s1 σ H1 _ I1 q1;rw[hs] at hA ⊢;refine Calls.callWith_builtin (by show (false || (backTo cpos (starEach es X.env)).any (·.1))=false;rw[hplain]<;>rfl) (Calls.evalArgs_plain ?_);exact thn hA (by rintro us s2 ⟨vs,H2,I2,r2,q2⟩;exact hm pins s2 σ H2 x vs v us Q I2 r1 r2 q2)
end
end L2
namespace L2
open PySem PySem.Spec PyProof.Rows
noncomputable def MtM (X:Cx) (id:String) (r:V->List V->Hp->VK->Prop):Prop :=
 ∀ (pins:List (Addr×Obj)) (s:Shared) (σ:St) (H:Hp) (x:V) (xs:List V) (v:Value) (us:List Value) (Q:VK),Inv X pins σ H s->RelV x v->Vals xs us->r x xs H Q ->
  wpAny (model X.prog X.w) X.A (call (.builtin id) (v::us)) (EP X pins σ Q) X.xe s
theorem Vals.one:∀ {x:V} {us:List Value},Vals [x] us->∃ u,us=[u]/\RelV x u
 | _,_,.cons r .nil=>⟨_,rfl,r⟩
theorem Vals.rep (h:Vals xs us):∀ k:Nat,Vals (List.replicate k xs).flatten (List.replicate k us).flatten
 | 0=>.nil
 | k+1=>by
  rw[List.replicate_succ,List.replicate_succ,List.flatten_cons,List.flatten_cons];exact Vals.append h (Vals.rep h k)
theorem XM (its:List Value):∀ (k:Nat) (acc:List Value),
  List.foldl (fun x1 x2=>x1++x2) acc.toArray (List.replicate k its.toArray)=(acc++(List.replicate k its).flatten).toArray
 | 0,acc=>by simp
 | k+1,acc=>by
  have e:acc.toArray++its.toArray=(acc++its).toArray:=by simp
  have e2:(acc++its)++(List.replicate k its).flatten=acc++(List.replicate (k+1) its).flatten:=by
   rw[List.replicate_succ,List.flatten_cons,List.append_assoc]
  rw[<- e2,<- XM its k (acc++its),<- e,List.replicate_succ,List.foldl_cons]
section
variable {X:Cx} {pins:List (Addr×Obj)} {σ:St} {H:Hp} {s:Shared} {l b:Addr} {xs ys zs:List V}
theorem Inv.lset {its its':List Value} {n:Nat} {f:Array Value->Array Value} {t':Nat} (I:Inv X pins σ H s) (hH:H l=some (.lst xs))
  (e:s.heap.get? l=some {cls:=.type "list",data:=.seq its.toArray n}) (hf:f its.toArray=its'.toArray) (hv:Vals ys its') (hz:ys.length<=sizeLine) :
  Inv X pins σ (upd H l (.lst ys)) {s with heap:=s.heap.update l (Obj.mapSeq f),toks:=t'}:=by
 have q:=PySem.IsL.update e f;rw[hf] at q;refine I.write (x:=l) (e:=l) (by rw[hH];exact trivial) (.inl rfl) (fun b' u hb hu=>(Heap.get?_update_other s.heap (Obj.mapSeq f) (Ne.symm hb)).trans hu) ⟨_,q⟩ ?_;exact⟨hz,its',_,hv,q⟩
theorem Inv.lnew (I:Inv X pins σ H s) (hv:Vals ys its) (hz:ys.length<=sizeLine) :
  Inv X pins σ (upd H s.heap.objs.size (.lst ys)) {s with heap:=s.heap.push {cls:=.type "list",data:=.seq its.toArray},toks:=t'} :=
 I.laid (fun _ _ q=>Heap.get?_push_of_some _ q) %[|3] ⟨hz,its,0,hv,Heap.get?_push_size _ rfl⟩
theorem Inv.fresh (I:Inv X pins σ H s):H s.heap.objs.size=none:=I.hok.fresh %[|3]
theorem Inv.lstM (I:Inv X pins σ H s) (hH:H l=some (.lst xs)):xs.length<=sizeLine/\∃ (its:List Value) (n:Nat),Vals xs its/\xs.length=its.length/\s.heap.get? l=some {cls:=.type "list",data:=.seq its.toArray n}:=by
 obtain⟨z,its,n,r,e⟩:=I.hok l _ hH;exact⟨z,its,n,r,r.length,e⟩
theorem J1 (h:n<=sizeLine):Builtin.List.listTooLong n=false:=by
 unfold Builtin.List.listTooLong;exact decide_eq_false %[|5]
end
section
variable {X:Cx}
noncomputable def Eb:V->List V->Hp->VK->Prop:=fun x vs H Q=>∃ l xs y,x=.ref l/\vs=[y]/\H l=some (.lst xs)/\xs.length<sizeLine/\Q .non (upd H l (.lst (xs++[y])))
theorem VL:MtM X "list.append" Eb:=by
 intro pins s σ H x vs v us Q I rx rv h;obtain⟨l,xs,y,rfl,rfl,hH,hz,q⟩:=h;cases rx;obtain⟨u,rfl,ru⟩:=rv.one;obtain⟨z,its,n,r,hl,e⟩:=I.lstM hH;refine call_meets F.slot_list_append ⟨_,e,rfl⟩ F.entry_list_append (F.args_list_append_2 _ _) (PySem.list_append l its.toArray n u (by rw[List.size_toArray];omega)) ⟨e,?_⟩;refine⟨.non,_,I.lset (its':=its++[u]) hH e (by simp) (r.append (.cons ru .nil)) ?_,rfl,q⟩;rw[List.length_append,List.length_singleton];omega
noncomputable def Ea:V->List V->Hp->VK->Prop:=fun x vs H Q=>∃ l b xs zs,x=.ref l/\vs=[.ref b]/\H l=some (.lst xs)/\H b=some (.lst zs)/\xs.length+zs.length<=sizeLine/\Q .non (upd H l (.lst (xs++zs)))
theorem HU:MtM X "list.extend" Ea:=by
 intro pins s σ H x vs v us Q I rx rv h;obtain⟨l,b,xs,zs,rfl,rfl,hH,hB,hz,q⟩:=h;cases rx;obtain⟨u,rfl,ru⟩:=rv.one;cases ru;obtain⟨z,its,n,r,hl,e⟩:=I.lstM hH;obtain⟨z2,its2,n2,r2,hl2,e2⟩:=I.lstM hB;have hsz:its.toArray.size+its2.toArray.size<=sizeLine:=by rw[List.size_toArray,List.size_toArray];omega
 have hlong:¬ (!its.toArray.isEmpty&&Builtin.List.listTooLong (its.toArray.size+its2.toArray.size))=true:=by
  rw[J1 hsz,Bool.and_false];exact Bool.false_ne_true
 refine call_meets F.slot_list_extend ⟨_,e,rfl⟩ F.entry_list_extend (F.args_list_extend_2 _ _)
  (AutoSeq1.list_extend_list_list_0 l its.toArray n b its2.toArray n2 hlong (by rw[List.size_toArray];omega) %[|5]) ⟨e,e2,?_⟩
 refine⟨.non,_,I.lset (its':=its++its2) hH e (by simp) (r.append r2) ?_,rfl,q⟩;rw[List.length_append];omega
noncomputable def rCat:R2:=fun x y H Q=>∃ l b xs zs,x=.ref l/\y=.ref b/\H l=some (.lst xs)/\H b=some (.lst zs)/\xs.length+zs.length<=sizeLine/\∀ p,H p=none->Q (.ref p) (upd H p (.lst (xs++zs)))
theorem GA:OpR X (binaryOp .Add) rCat:=by
 intro pins s σ H x y v u Q I rx ry h;obtain⟨l,b,xs,zs,rfl,rfl,hH,hB,hz,q⟩:=h;cases rx;cases ry;obtain⟨z,its,n,r,hl,e⟩:=I.lstM hH;obtain⟨z2,its2,n2,r2,hl2,e2⟩:=I.lstM hB;refine PySem.P.add_list e e2 ?_ (by rw[List.size_toArray,List.size_toArray];omega);have ea:its.toArray++its2.toArray=(its++its2).toArray:=by simp
 rw[ea];exact⟨.ref _,_,I.lnew (t':=s.toks) (r.append r2) (by rw[List.length_append];omega),rfl,q _ I.fresh⟩
noncomputable def rRep:R2:=fun x y H Q=>∃ l k xs,x=.ref l/\y=.int k/\H l=some (.lst xs)/\-(2 ^ 63)<=k/\k<2 ^ 63/\xs.length*k.toNat<=sizeLine /\
 ∀ p,H p=none->Q (.ref p) (upd H p (.lst (List.replicate k.toNat xs).flatten))
theorem Ur (xs:List α) (k:Nat):(List.replicate k xs).flatten.length=k*xs.length:=by
 induction k with
 | zero=>simp
 | succ k ih=>rw [List.replicate_succ,List.flatten_cons,List.length_append,ih,Nat.succ_mul,Nat.add_comm]
theorem Gz:OpR X (binaryOp .Mult) rRep:=by
 intro pins s σ H x y v u Q I rx ry h;obtain⟨l,k,xs,rfl,rfl,hH,h1,h2,hz,q⟩:=h;cases rx;obtain⟨t,rfl⟩:=ry;obtain⟨z,its,n,r,hl,e⟩:=I.lstM hH;have hlen:its.toArray.size*k.toNat<=sizeLine:=by rw[List.size_toArray,<- hl];exact hz
 have hcap:¬ its.toArray.size*k.toNat > (2 ^ 63-1) / 8:=by
  have:(sizeLine:Nat)<=(2 ^ 63-1) / 8:=by decide
  omega
 have hfit:¬ (!Builtin.List.listFitsIndex k)=true:=by
  rw[fitsIndex_both h1 h2];exact Bool.false_ne_true
 have hlong:¬ Builtin.List.listTooLong (its.toArray.size*k.toNat)=true:=by
  rw[J1 hlen];exact Bool.false_ne_true
 have hnew:List.foldl (fun x1 x2=>x1++x2) #[] (List.replicate (if its.toArray.isEmpty=true then 0 else k.toNat) its.toArray)=(List.replicate k.toNat its).flatten.toArray:=by
  have f0:∀ m:Nat,List.foldl (fun x1 x2=>x1++x2) #[] (List.replicate m its.toArray)=(List.replicate m its).flatten.toArray:=fun m=>by
   have:=XM its m [];rw[List.nil_append] at this;exact this
  rw[f0];cases its with
  | nil=>simp
  | cons a r'=>rw [if_neg (by simp)]
 refine wpAny_binaryOp_repeat_ref (T:="list") (U:="int") %[|4] ⟨_,e,rfl⟩ (fun s'=>typeIs_int s' k t) noFill_list_mul F.fills_int_mul F.slot_int_rmul repeat_list F.slot_int_index.lookup
  (call_meets F.slot_int_rmul (typeIs_int s k t) F.entry_int_rmul (F.args_int_rmul_2 _ _) (int___rmul___int_list k t l its.toArray n)
   ⟨e,rfl,⟨_,e,rfl⟩,call_meets F.slot_list_mul ⟨_,e,rfl⟩ F.entry_list_mul (F.args_list_mul_2 _ _) (AutoListH.list___mul___list_int_3 l its.toArray n k t hfit hcap hlong) ⟨e,?_⟩⟩)
 rw[hnew];exact⟨.ref _,_,I.lnew (t':=s.toks) (r.rep k.toNat) (by rw[Ur,Nat.mul_comm];exact hz),rfl,q _ I.fresh⟩
end
section
variable {prog:Program} {w:World} {A:Around} {E:Value->Shared->Prop} {s:Shared}
set_option maxRecDepth 100000 in
end
section
variable {X:Cx}
end
end L2
namespace Att
open PySem PySem.W PySem.Calls PyProof.Rows
theorem WQ:∀ (ns:List Int) (vs:List Value),WellAll P h vs (ns.map WData.int)->IntsAre vs ns:=by
 intro ns
 induction ns with
 | nil =>
  intro vs w;rw[List.map_nil] at w;cases w;exact .nil
 | cons n ns ih =>
  intro vs w;rw[List.map_cons] at w;cases w with
  | cons a b =>
   cases a;exact .cons _ _ (ih _ b)
theorem script_of {l:OpenLaw} {n:Nat} (hn:l.most=some n) {P:Params} {h:Heap} {args:List WData} {vals:List Value}
  (hpre:l.row.toRowW.claim.pre args=true) (hwl:WellAll P h vals args) :
  ∃ a vs ns,vals=[Value.ref a]/\args=[WData.list (ns.map WData.int)]/\h.get? a=some {cls:=.type "list",data:=.seq vs.toArray}/\IntsAre vs ns/\ns.length<=n:=by
 have hsh:WShape.hasAll [] args [.list .int]=true:=(pre_splitW hpre).1;have hc:l.pre.holds [] {args:=args}=true:=(pre_splitW hpre).2;obtain⟨d,r,rfl,h1,h2⟩:=hasAllW_cons hsh;obtain rfl:=hasAllW_nil h2;obtain⟨xs,rfl,h3⟩:=hasW_list h1;obtain⟨ns,rfl⟩:=items_int h3;have hlen:ns.length<=n:=by
  unfold OpenLaw.pre at hc;have h4:(WTm.not (.lt (.lit (.int (n:Int))) (.len (.arg 0)))).holds [] {args:=[.list (ns.map .int)]}=true:=by
   have h4:=(holds_andW hc).1;rw[hn] at h4;exact h4
  have h5:=condW_of h4 (w_not (w_lt w_lit (w_len_list (w_arg rfl))));rw[List.length_map] at h5;refine Nat.le_of_not_lt fun q=>?_;have q':(n:Int)<((ns.length:Nat):Int):=by omega
  first
   | (rw [decide_eq_true q'] at h5;exact absurd h5 %[|4])
   | (simp at h5;omega)
 cases hwl with
 | cons w1 w2 =>
  cases w2;cases w1 with
  | list ho hall=>exact⟨_,_,ns,rfl,rfl,ho,WQ ns _ hall,hlen⟩
theorem post_true (l:OpenLaw) (args:List WData):l.row.toRowW.claim.post args (.bool true) args=true :=
 postW_of (r:=l.row.toRowW) (X:=(true==true))
  (show WShape.has [] (.bool true) .bool=true by first|rfl|decide|simp[WShape.has,WShape.arms,WShape.armsAll])
  (show (WTm.eq .res (.lit (.bool true))).value [] {args:=args,res:=some (.bool true),after:=args}=some (.bool (true==true)) from w_eq_bool (w_res rfl) w_lit) rfl
section
variable {prog:Program} {w:World} {A:Around} {E:Value->Shared->Prop} {s:Shared} {K:Frag}
end
end Att
namespace L2
open PySem PySem.Spec PyProof.Rows
theorem vals_ints:∀ {vs:List Value} {ns:List Int},IntsAre vs ns->Vals (ns.map V.int) vs
 | _,_,.nil=>.nil
 | _,_,.cons n t h=>.cons ⟨t,rfl⟩ (vals_ints h)
noncomputable def Only (H:Hp):Prop:=∀ b,H b=none\/∃ o xs,H b=some (.frz o (.lst xs))
theorem CJ {P:Program} {w:World} {K:Frag} {mg mb:Str->Option Value} {CX:CXT} {k:Nat} {fa a:Addr} {fd:FuncData} {x:Str} {sp:Sp} {s₁:Shared} {vs:List Value} {ns:List Int}
  (KX:K.In s₁.heap) (hns:s₁.heap.Ns mainGlobals mg) (hb:s₁.heap.Ns builtinsNs mb) (hbb:∀ x:Str,x≠"__name__"->mb x=bootBuiltins x) (hlim:s₁.heap.NoLimit) (hg:s₁.gens=#[])
  (ha:s₁.heap.get? a=some {cls:=.type "list",data:=.seq vs.toArray}) (hi:IntsAre vs ns) (hl:ns.length<=sizeLine) (hr:Room k callerA)
  (F:∀ base:Heap,K.In base->base.Ns mainGlobals mg->FnOk P w K mg base CX k fa fd [x] sp) (hbind:∀ (s:Shared) (u:Value),BindsTo s fd ⟨[u],[]⟩ [(x,u)])
  (hsp:∀ H:Hp,Only H->SqL K H a (ns.map V.int)->sp [.ref a] H (fun v _=>v=.bl true) fun _ _ _=>False)
  (hCX:∀ H e s',CX [] H s₁ (fun _ _ _=>False) e s'->False) :
  codeAny (model P w) callerA (.call (.ref fa) ⟨[.ref a],[]⟩) (fun r s'=>r=.ok (.ret (.bool true))/\OldK s₁.heap s'.heap/\s'.os=s₁.os/\AllBare s'.gens) s₁:=by
 have rv:=vals_ints hi;have lenV:=hi.length;have core:∀ H:Hp,Only H->SqL K H a (ns.map V.int)->HOk P w H s₁.heap->(∀ b,H b≠none->b=a)->(H a≠none->K.lookup a=none) ->
   codeAny (model P w) callerA (.call (.ref fa) ⟨[.ref a],[]⟩) (fun r s'=>r=.ok (.ret (.bool true))/\OldK s₁.heap s'.heap/\s'.os=s₁.os/\AllBare s'.gens) s₁:=by
  intro H hO hS hok hA hK;have base_of:∀ {b:Addr} {o:Obj},s₁.heap.get? b=some o->H b=none->(hidT s₁.heap H).get? b=some o:=fun e n=>CW e n;have noA:∀ {b:Addr} {o:Obj} {es:Array DictEntry} {ep:Nat},s₁.heap.get? b=some o->o.data=.dict es ep->H b=none:=fun {b o es ep} e d=>by
   cases q:H b with
   | none=>rfl
   | some u =>
    have e':b=a:=hA b (by rw[q];simp);subst e';rw[ha] at e;cases e;have d':Data.seq vs.toArray _=Data.dict es ep:=d;cases d'
  have nsK:∀ {b:Addr} {m:Str->Option Value},s₁.heap.Ns b m->(hidT s₁.heap H).Ns b m:=fun {b m} ⟨o,es,ep,e,d,r⟩=>⟨o,es,ep,base_of e (noA e d),d,r⟩;have hKb:K.In (hidT s₁.heap H):=fun b o e=>base_of (KX b o e) (by
   cases q:H b with
   | none=>rfl
   | some u =>
    have e':b=a:=hA b (by rw[q];simp);subst e';rw[hK (by rw[q];simp)] at e;cases e)
  have hM:Mod K mg (hidT s₁.heap H):=⟨hKb,nsK hns,⟨mb,nsK hb,hbb⟩,let ⟨mc,h1,h2⟩:=hlim;⟨mc,nsK h1,h2⟩⟩;have e0:Env0 P w K mg (hidT s₁.heap H) callerA [] s₁ H:=⟨rfl,hM,fun b o e=>Ev e,Nat.le_of_eq (B4 _ _),trivial,fun b hb=>absurd (show b∈([]:List Addr) from hb) (by simp),hok,.of_eq hg⟩;refine codeAny_mono ((F _ hKb (nsK hns)).run callerA [] s₁ H ⟨[.ref a],[]⟩ [.ref a] [.ref a] _ _ hr e0 (hbind s₁ (.ref a)) (.cons rfl .nil) (hsp H hO hS)) fun r s' h=>?_;cases r with
  | error e=>exact (hCX H e s' h).elim
  | ok fl =>
   cases fl with
   | next=>exact False.elim h
   | brk=>exact False.elim h
   | cont=>exact False.elim h
   | ret u =>
    obtain⟨v,H',os,bare,un,hok',r',q⟩:=h;have q':v=.bl true:=q;subst q';obtain rfl:u=Value.bool true:=r';refine⟨rfl,OldK.of_keep fun b o e=>?_,os,bare⟩;cases q:H b with
    | none=>exact un.keep b o e q (by intro z;exact absurd (show b∈([]:List Addr) from z) (by simp)) (by simp)
    | some u =>
     rcases hO b with z|⟨ob,xs,z⟩
     ·rw[q] at z;cases z
     ·have z2:=un.frzs b ob _ z
      obtain⟨e1,_⟩:=hok b _ z;obtain⟨e2,_⟩:=hok' b _ z2;rw[e] at e1;cases e1;exact e2
 cases hk:K.lookup a with
 | some o =>
  have e:=KX a o hk;rw[ha] at e;cases e;refine core (fun _=>none) (fun _=>.inl rfl) (.inr ⟨_,vs.toArray,_,hk,rfl,rfl,rfl,by rw[List.size_toArray,lenV];exact hl,by simpa using rv⟩) (fun b u z=>by have z':(none:Option HO)=some u:=z;cases z') (fun b z=>absurd rfl z) fun z=>absurd rfl z
 | none =>
  refine core (fun b=>if b=a then some (.frz {cls:=.type "list",data:=.seq vs.toArray} (.lst (ns.map V.int))) else none) (fun b=>?_) (.inl (.inr ⟨{cls:=.type "list",data:=.seq vs.toArray},if_pos rfl⟩)) (fun b u z=>?_) (fun b z=>?_) fun _=>hk
  ·by_cases hb:b=a
   ·exact .inr ⟨_,_,if_pos hb⟩
   ·exact .inl (if_neg hb)
  ·by_cases hb:b=a
   ·have z':=(if_pos hb).symm.trans z
    cases z';subst hb;exact⟨ha,by rw[List.length_map];exact hl,vs,_,rv,ha⟩
   ·have z':=(if_neg hb).symm.trans z
    cases z'
  ·by_cases hb:b=a
   ·exact hb
   ·exact absurd (if_neg hb) z
end L2
namespace L2
open PySem PySem.Spec PyProof.Rows
end L2
namespace L2
open PySem PySem.Spec PyProof.Rows
noncomputable def ZT (s:Stmt):Arguments:=match s with
 | .FunctionDef _ a _ _ _ _ _ _ _ _=>a
 | _=>{posonlyargs:=[],args:=[],vararg:=none,kwonlyargs:=[],kw_defaults:=[],kwarg:=none,defaults:=[]}
noncomputable def Z1 (s:Stmt):List Stmt:=match s with
 | .FunctionDef _ _ b _ _ _ _ _ _ _=>b
 | _=>[]
noncomputable def Yp (s:Stmt):Scope:=match s with
 | .FunctionDef _ _ _ _ _ _ sc _ _ _=>sc
 | _=>{kind:=.function,names:=[],isGenerator:=false,isCoroutine:=false}
abbrev E0:XK:=fun _ _ _=>False
structure Fun (K:Frag) (x qual:Str) (st:Stmt) (f:Addr) (fd:FuncData):Prop where
 ex:∃ (oc:Value) (od:Option Addr) (kV doc pm:Value) (an:Option Addr) (cdv ct:Value) (osl:Array (Option Value)),
  fd=PySem.W.fnOf x qual (ZT st) (Z1 st) (Yp st) .none kV doc pm an cdv ct/\K.lookup f=some ⟨oc,od,.func fd,osl⟩/\PySem.W.codeIn K cdv qual=true
 kp:PySem.W.keepIn K (.ref f)=true
section
variable {P:Program} {w:World} {K:Frag} {mg:Str->Option Value} {base:Heap}
theorem Fun.binds {x qual:Str} {st:Stmt} {f:Addr} {fd:FuncData} {ps:List Str} (F:Fun K x qual st f fd)
  (h:∀ (kV doc pm:Value) (an:Option Addr) (cdv ct:Value) (us:List Value),us.length=ps.length->bindArgs (PySem.W.fnOf x qual (ZT st) (Z1 st) (Yp st) .none kV doc pm an cdv ct) ⟨us,[]⟩=pure (ps.zip us)):Binds K fd ps []:=by
 obtain⟨oc,od,kV,doc,pm,an,cdv,ct,osl,rfl,lk,hcd⟩:=F.ex;exact .all (h kV doc pm an cdv ct)
theorem JW {x qual:Str} {st:Stmt} {f:Addr} {oc:Value} {od an:Option Addr} {osl:Array (Option Value)} {kV doc pm cdv ct:Value} (l:K.lookup f=some ⟨oc,od,.func (PySem.W.fnOf x qual (ZT st) (Z1 st) (Yp st) .none kV doc pm an cdv ct),osl⟩)
  (c:PySem.W.codeIn K cdv qual=true) (k:PySem.W.keepIn K (.ref f)=true):Fun K x qual st f (PySem.W.fnOf x qual (ZT st) (Z1 st) (Yp st) .none kV doc pm an cdv ct):=⟨⟨oc,od,kV,doc,pm,an,cdv,ct,osl,rfl,l,c⟩,k⟩
end
section
variable {X:Cx}
end
end L2
end
noncomputable section
namespace L2
open PySem PySem.Spec PyProof.Rows
section
variable {κ:Type} [DecidableEq κ]
end
section
variable {P:Program} {w:World} {H:Hp} {h:Heap} {a:Addr}
end
section
variable {X:Cx} {pins:List (Addr×Obj)} {σ:St} {H:Hp} {s:Shared} {a:Addr} {y v:V} {u r:Value} {o:Option V} {A:Around} {E:Value->Shared->Prop}
end
section
variable {X:Cx} {pins:List (Addr×Obj)} {σ:St} {H:Hp} {s:Shared} {a:Addr} {kvs:List (Key×V)} {k:Key} {u:Value} {A:Around} {E:Value->Shared->Prop}
end
section
variable {X:Cx} {o i e value:Expr} {pos pos' tpos:Pos} {td ty tv:TE}
end
section
variable {X:Cx} {pos:Pos}
end
structure M1 (X:Cx) (o:Expr) (m:Str) (apos:Pos) (e:Expr) (cpos:Pos):Prop where
 base:attributeBase o m X.env (eval o X.env)=eval o X.env
 few:((backTo cpos (starEach [e] X.env)).all (fun x=>!x.1)&&(backToKw cpos (keywordEach [] X.env)).all (fun x=>x.1.isSome)
  && decide (([e]:List Expr).length+([]:List Keyword).length+(if ([]:List Keyword).isEmpty then 0 else 1)<30))=true
 line:(apos.endLine==cpos.line)=true
 trees:backTo cpos (starEach [e] X.env)=[(false,eval e X.env)]
structure M2 (X:Cx) (o:Expr) (m:Str) (apos:Pos) (e f:Expr) (cpos:Pos):Prop where
 base:attributeBase o m X.env (eval o X.env)=eval o X.env
 few:((backTo cpos (starEach [e,f] X.env)).all (fun x=>!x.1)&&(backToKw cpos (keywordEach [] X.env)).all (fun x=>x.1.isSome)
  && decide (([e,f]:List Expr).length+([]:List Keyword).length+(if ([]:List Keyword).isEmpty then 0 else 1)<30))=true
 line:(apos.endLine==cpos.line)=true
 trees:backTo cpos (starEach [e,f] X.env)=[(false,eval e X.env),(false,eval f X.env)]
section
variable {X:Cx} {pins:List (Addr×Obj)} {σ:St} {H:Hp} {s:Shared} {a:Addr} {y d:V} {u r:Value} {o:Option V} {A:Around} {E:Value->Shared->Prop}
end
section
variable {X:Cx} {o e f:Expr} {apos cpos:Pos} {td ty tx:TE}
end
section
variable {X:Cx} {pins:List (Addr×Obj)} {σ:St} {H:Hp} {s:Shared} {a:Addr} {kvs:List (Key×V)} {A:Around} {E:Value->Shared->Prop}
end
section
variable {X:Cx} {pins:List (Addr×Obj)} {σ:St} {H:Hp} {s:Shared} {a:Addr} {y:V} {u:Value} {A:Around} {E:Value->Shared->Prop}
end
end L2
end
noncomputable section
namespace DL
open PySem PySem.Spec PyProof.Rows L2
theorem ZG (o:Obj) (f):(o.mapFields f).dict=o.dict:=by obtain⟨c,d,dt,sl⟩:=o;cases dt<;>rfl
noncomputable def Xz (h:Heap) (b:Addr):Prop:=∃ o vs,h.get? b=some o/\o.data=.fields vs/\vs[2]?=some .none
noncomputable def Near (h h':Heap):Prop:=h.UpToSlots h'/\(∀ b o,h.get? b=some o->∃ o',h'.get? b=some o')/\∀ b,Xz h b->Xz h' b
theorem XO (hk:k≠2) (q:h.get? T=some oT) (dt:oT.data=.fields ts) (c:Xz h b):Xz (h.update T (Obj.mapFields (·.setIfInBounds k v))) b:=by
 obtain⟨o,vs,q1,q2,q3⟩:=c;by_cases z:b=T
 ·subst z
  rw[q] at q1;cases q1;rw[dt] at q2;cases q2;exact⟨_,_,Heap.get?_update_self _ q (Obj.isFreed_of_fields (Obj.data_mapFields dt _)),Obj.data_mapFields dt _,by rw[Array.getElem?_setIfInBounds_ne hk];exact q3⟩
 ·exact⟨o,vs,by rw[Heap.get?_update_other _ _ (Ne.symm z)];exact q1,q2,q3⟩
theorem Near.trans (a:Near h h1) (b:Near h1 h2):Near h h2:=⟨a.1.trans b.1,fun c o q=>let ⟨_,q1⟩:=a.2.1 c o q;b.2.1 c _ q1,fun c q=>b.2.2 c (a.2.2 c q)⟩
theorem Near.kept (k:∀ b o,h.get? b=some o->h'.get? b=some o):Near h h':=⟨.of_keeps k,fun b o q=>⟨o,k b o q⟩,fun b ⟨o,vs,q,r⟩=>⟨o,vs,k b o q,r⟩⟩
structure Flies (B:Heap) (l:List Env) (e:Addr) (cls:Value) (dd:Option Addr) (fl:Value) (h:Heap):Prop where
 stays:B.StaysIn h
 new:B.get? e=none
 frames:h.FunFrames B l
 tr:∃ oe vs T oT ts,h.get? e=some oe/\oe.cls=cls/\oe.dict=dd/\oe.data=.fields vs/\vs[1]?=some (.ref T)/\B.get? T=none/\T≠e/\h.get? T=some oT/\oT.data=.fields ts/\ts[3]?=some fl
section
variable {M:Model} {A:Around} {Z:Value->Shared->Prop} {s:Shared} {B:Heap} {env:Env} {outer:List Env} {L e:Addr} {Q:Unit->Shared->Prop}
theorem VS (fr:A.frames=some (env::outer)) (ff:s.heap.FunFrames B (env::outer)) (fl:env.frame=some L)
  (at_:s.heap.get? e=some oe) (st:B.StaysIn s.heap) (nw:B.get? e=none) (dt:oe.data=.fields vs) (sz:1<vs.size)
  (go:∀ h',Flies B (env::outer) e oe.cls oe.dict (rawInt L) h'->Near s.heap h'->Q () {s with heap:=h'}) :
  wpAny M A (do let x <- frameOf env;let y <- entryPlaceOf L hn;let z <- EntryCells.newEntry head x .none (rawInt L) .none y;setField (.ref e) 1 z) Q Z s:=by
 have nfr:e ∉ (env::outer).filterMap (·.frame):=fun z=>by
  obtain⟨_,o,q,r⟩:=ff.mem z;rw[at_] at q;cases q;exact r vs dt
 refine wpAny_bind (wpAny_frameOf_fun fr ff fl fun g sl=>wpAny_bind (wpAny_entryPlaceOf fun pl ok=>?_));unfold EntryCells.newEntry newFields;refine wpAny_bind (wpAny_newObj_type ?_ (ok.sizeOk5 _ _ _ _ _));generalize hO:({cls:=.type "traceback",dict:=none,data:=.fields ([head,.ref L,.none,rawInt L,.none]++(if pl.isEmpty then List.replicate 6 Value.none else pl)).toArray}:Obj)=ob;have ge:g.get? e=some oe:=(sl.2.1 e nfr).trans at_;have gB:B.StaysIn g:=fun b o q=>(sl.2.1 b fun z=>by rw[(ff.mem z).1] at q;cases q).trans (st b o q);have ge':(g.push ob).get? e=some oe:=Heap.get?_push_of_some _ ge;have obf:ob.isFreed=false:=by subst hO;rfl
 have gT:(g.push ob).get? g.objs.size=some ob:=Heap.get?_push_size g obf;have Te:g.objs.size≠e:=Nat.ne_of_gt (Heap.lt_size ge);refine wpAny_setField ge' dt sz ?_;have d3:=Obj.data_mapFields dt (·.setIfInBounds 1 (Value.ref g.objs.size));have e3:=Heap.get?_update_self (Obj.mapFields (·.setIfInBounds 1 (Value.ref g.objs.size))) ge' (Obj.isFreed_of_fields d3);have oth:∀ b o,b≠e->g.get? b=some o->((g.push ob).update e (Obj.mapFields (·.setIfInBounds 1 (Value.ref g.objs.size)))).get? b=some o:=fun b o n q=>by
  rw[Heap.get?_update_other _ _ (Ne.symm n)];exact Heap.get?_push_of_some _ q
 have nrec:∀ b o,s.heap.get? b=some o->(∀ ws,o.data≠.fields ws)->b≠e:=fun b o q r z=>by
  rw[z,at_] at q;cases q;exact r vs dt
 refine go _ ⟨fun b o q=>oth b o (fun z=>by rw[z,nw] at q;cases q) (gB b o q),nw,ff.of_keeps fun b o q r=>?_,?_⟩ ⟨fun b o q r=>?_,fun b o q=>?_,fun b c=>?_⟩
 ·obtain⟨x,y⟩:=sl.2.2 b o q
  exact⟨_,oth b _ (nrec b o q r) y,rfl⟩
 ·refine⟨_,_,g.objs.size,ob,_,e3,Obj.cls_mapFields _ _,ZG _ _,d3,by simp[sz],gB.fresh,Te,?_,by subst hO;rfl,?_⟩
  ·rw[Heap.get?_update_other _ _ (Ne.symm Te)];exact gT
  ·simp
 ·obtain⟨x,y⟩:=sl.2.2 b o q
  exact⟨x,oth b _ (nrec b o q r) y⟩
 ·by_cases z:b=e
  ·subst z;exact⟨_,e3⟩
  ·obtain⟨x,y⟩:=sl.2.2 b o q
   exact⟨_,oth b _ z y⟩
 ·obtain⟨o,ws,q1,q2,q3⟩:=c
  have nb:b ∉ (env::outer).filterMap (·.frame):=fun z=>by
   obtain⟨_,o',q,r⟩:=ff.mem z;rw[q1] at q;cases q;exact r ws q2
  exact XO %[|4] ge' dt ⟨o,ws,Heap.get?_push_of_some _ ((sl.2.1 b nb).trans q1),q2,q3⟩
theorem VR (fr:A.frames=some (env::outer)) (ff:s.heap.FunFrames B (env::outer)) (fl:env.frame=some L)
  (at_:s.heap.get? e=some oe) (st:B.StaysIn s.heap) (nw:B.get? e=none) (dt:oe.data=.fields vs) (v1:vs[1]?=some .none)
  (go:∀ h',Flies B (env::outer) e oe.cls oe.dict (rawInt L) h'->Near s.heap h'->Q () {s with heap:=h'}):wpAny M A (noteFrame (.ref e) env) Q Z s:=by
 unfold noteFrame;simp only[fl];refine wpAny_bind (wpAny_field at_ dt v1 ?_);rw[if_neg %[|4]];exact VS fr ff fl at_ st nw dt (Array.getElem?_eq_some_iff.mp v1).1 go
theorem Wf (fr:A.frames=some (env::outer)) (fl:env.frame=some L) (F:Flies B (env::outer) e cls dd .none s.heap)
  (go:∀ h',Flies B (env::outer) e cls dd (rawInt L) h'->Near s.heap h'->Q () {s with heap:=h'}):wpAny M A (noteFrame (.ref e) env) Q Z s:=by
 obtain⟨st,nw,ff,oe,vs,T,oT,ts,q1,rfl,rfl,q4,q5,q6,q7,q8,q9,q10⟩:=F;unfold noteFrame;simp only[fl];refine wpAny_bind (wpAny_field q1 q4 q5 ?_);rw[if_pos (show (Value.ref T != Value.none)=true from by simp)];refine wpAny_bind (wpAny_field q8 q9 q10 ?_);rw[if_neg (show ¬ ((Value.none==rawInt L)=true) from by simp[rawInt])];refine wpAny_bind (wpAny_setField q8 q9 (Array.getElem?_eq_some_iff.mp q10).1 ?_);have oth:∀ b,b≠T->(s.heap.update T (Obj.mapFields (·.setIfInBounds 3 Value.none))).get? b=s.heap.get? b:=fun b n=>Heap.get?_update_other _ _ (Ne.symm n);have nrec:∀ b o,s.heap.get? b=some o->(∀ ws,o.data≠.fields ws)->b≠T:=fun b o q r z=>by
  rw[z,q8] at q;cases q;exact r ts q9
 refine VS (s:={s with heap:=s.heap.update T (Obj.mapFields (·.setIfInBounds 3 Value.none))}) fr (ff.of_keeps fun b o q r=>⟨o,(oth b (nrec b o q r)).trans q,rfl⟩) fl ((oth e (Ne.symm q7)).trans q1) (fun b o q=>(oth b fun z=>by rw[z,q6] at q;cases q).trans (st b o q)) nw q4 (Array.getElem?_eq_some_iff.mp q5).1 fun h' x y=>?_;refine go h' x ⟨fun b o q r=>y.1 b o ((oth b (nrec b o q r)).trans q) r,fun b o q=>?_,fun b c=>y.2.2 b (XO %[|4] q8 q9 c)⟩;by_cases z:b=T
 ·subst z;exact y.2.1 _ _ (Heap.get?_update_self _ q8 (Obj.isFreed_of_fields (Obj.data_mapFields q9 _)))
 ·exact y.2.1 b o ((oth b z).trans q)
theorem Z8 (F:Flies B l e cls dd fl s.heap)
  (go:∀ h',Flies B l e cls dd .none h'->Near s.heap h'->Q () {s with heap:=h'}):wpAny M A (setFlight (.ref e) none) Q Z s:=by
 obtain⟨st,nw,ff,oe,vs,T,oT,ts,q1,q2,q3,q4,q5,q6,q7,q8,q9,q10⟩:=F;have sz:=(Array.getElem?_eq_some_iff.mp q10).1;have oth:∀ b,b≠T->(s.heap.update T (Obj.mapFields (·.setIfInBounds 3 ((none:Option Addr).elim Value.none fun f=>rawInt f)))).get? b=s.heap.get? b:=fun b n=>Heap.get?_update_other _ _ (Ne.symm n);have nrec:∀ b o,s.heap.get? b=some o->(∀ ws,o.data≠.fields ws)->b≠T:=fun b o q r z=>by
  rw[z,q8] at q;cases q;exact r ts q9
 unfold setFlight;refine wpAny_bind (wpAny_field q1 q4 q5 ?_);rw[if_pos (show (Value.ref T != Value.none)=true from by simp)];refine wpAny_setField q8 q9 sz (go _ ⟨fun b o q=>(oth b fun z=>by rw[z,q6] at q;cases q).trans (st b o q),nw,ff.of_keeps fun b o q r=>⟨o,(oth b (nrec b o q r)).trans q,rfl⟩,?_⟩ ⟨fun b o q r=>⟨o.slots,(oth b (nrec b o q r)).trans q⟩,fun b o q=>?_,fun b c=>XO %[|4] q8 q9 c⟩)
 rotate_left
 ·by_cases z:b=T
  ·subst z;exact⟨_,Heap.get?_update_self _ q8 (Obj.isFreed_of_fields (Obj.data_mapFields q9 _))⟩
  ·exact⟨o,(oth b z).trans q⟩
 exact⟨oe,vs,T,_,_,(oth e (Ne.symm q7)).trans q1,q2,q3,q4,q5,q6,q7,Heap.get?_update_self _ q8 (Obj.isFreed_of_fields (Obj.data_mapFields q9 _)),Obj.data_mapFields q9 _,by simp[sz]⟩
theorem D1 (F:Flies B l e cls dd fl s.heap)
  (go:∀ h',Flies B l e cls dd (rawInt L) h'->Near s.heap h'->Q () {s with heap:=h'}):wpAny M A (setFlight (.ref e) (some L)) Q Z s:=by
 obtain⟨st,nw,ff,oe,vs,T,oT,ts,q1,q2,q3,q4,q5,q6,q7,q8,q9,q10⟩:=F;have sz:=(Array.getElem?_eq_some_iff.mp q10).1;have oth:∀ b,b≠T->(s.heap.update T (Obj.mapFields (·.setIfInBounds 3 ((some L:Option Addr).elim Value.none fun f=>rawInt f)))).get? b=s.heap.get? b:=fun b n=>Heap.get?_update_other _ _ (Ne.symm n);have nrec:∀ b o,s.heap.get? b=some o->(∀ ws,o.data≠.fields ws)->b≠T:=fun b o q r z=>by
  rw[z,q8] at q;cases q;exact r ts q9
 unfold setFlight;refine wpAny_bind (wpAny_field q1 q4 q5 ?_);rw[if_pos (show (Value.ref T != Value.none)=true from by simp)];refine wpAny_setField q8 q9 sz (go _ ⟨fun b o q=>(oth b fun z=>by rw[z,q6] at q;cases q).trans (st b o q),nw,ff.of_keeps fun b o q r=>⟨o,(oth b (nrec b o q r)).trans q,rfl⟩,?_⟩ ⟨fun b o q r=>⟨o.slots,(oth b (nrec b o q r)).trans q⟩,fun b o q=>?_,fun b c=>XO %[|4] q8 q9 c⟩)
 rotate_left
 ·by_cases z:b=T
  ·subst z;exact⟨_,Heap.get?_update_self _ q8 (Obj.isFreed_of_fields (Obj.data_mapFields q9 _))⟩
  ·exact⟨o,(oth b z).trans q⟩
 exact⟨oe,vs,T,_,_,(oth e (Ne.symm q7)).trans q1,q2,q3,q4,q5,q6,q7,Heap.get?_update_self _ q8 (Obj.isFreed_of_fields (Obj.data_mapFields q9 _)),Obj.data_mapFields q9 _,by simp[sz]⟩
theorem Flies.off (F:Flies B (env::outer) e cls dd fl h):Flies B outer e cls dd fl h:=⟨F.stays,F.new,F.frames.2.2,F.tr⟩
theorem B8 (fr:A.frames=some (env::outer)) (fl:env.frame=some L) (F:Flies B (env::outer) e cls dd .none s.heap)
  (go:∀ h',Flies B outer e cls dd .none h'->Near s.heap h'->Q () {s with heap:=h'}):wpAny M A (leaving env (.ref e)) Q Z s:=by
 unfold leaving;exact wpAny_bind (Wf fr fl F fun h1 F1 u1=>Z8 F1 fun h2 F2 u2=>go h2 F2.off (u1.trans u2))
theorem JX (fl:env.frame=some L) (F:Flies B (env::outer) e cls dd (rawInt L) s.heap)
  (go:∀ h',Flies B outer e cls dd .none h'->Near s.heap h'->Q () {s with heap:=h'}):wpAny M A (leaving env (.ref e)) Q Z s:=by
 unfold leaving;refine wpAny_bind ?_;obtain⟨oe,vs,T,oT,ts,q1,q2,q3,q4,q5,q6,q7,q8,q9,q10⟩:=F.tr;unfold noteFrame;simp only[fl];refine wpAny_bind (wpAny_field q1 q4 q5 ?_);rw[if_pos (show (Value.ref T != Value.none)=true from by simp)];refine wpAny_bind (wpAny_field q8 q9 q10 ?_);rw[if_pos (show (rawInt L==rawInt L)=true from by simp)];exact wpAny_pure (Z8 F fun h2 F2 u2=>go h2 F2.off u2)
structure Made (h h':Heap) (e:Addr) (cls:Value) (dd:Option Addr):Prop where
 keeps:∀ b o,h.get? b=some o->h'.get? b=some o
 new:h.get? e=none
 at_:∃ oe vs,h'.get? e=some oe/\oe.cls=cls/\oe.dict=dd/\oe.data=.fields vs/\vs[1]?=some .none
theorem Made.fresh (mk:Made h h' e cls dd) (st:B.StaysIn h):B.get? e=none:=by
 cases q:B.get? e with
 | none=>rfl
 | some o=>have:=st e o q;rw[mk.new] at this;cases this
theorem JY (fr:A.frames=some (env::outer)) (fl:env.frame=some L) (ff:h.FunFrames B (env::outer)) (st:B.StaysIn h) (mk:Made h s.heap e cls dd)
  (go:∀ h',Flies B outer e cls dd .none h'->Near s.heap h'->Q () {s with heap:=h'}):wpAny M A (leaving env (.ref e)) Q Z s:=by
 obtain⟨oe,vs,q1,rfl,rfl,q4,q5⟩:=mk.at_;unfold leaving;exact wpAny_bind (VR fr (ff.of_keeps fun b o q _=>⟨o,mk.keeps b o q,rfl⟩) fl q1 (fun b o q=>mk.keeps b o (st b o q)) (mk.fresh st) q4 q5 fun h1 F1 u1=>Z8 F1 fun h2 F2 u2=>go h2 F2.off (u1.trans u2))
end
end DL
end
noncomputable section
namespace DL
open PySem PySem.Spec PyProof.Rows L2 PySem.W
section
variable {prog:Program} {w:World} {A:Around} {Z:Value->Shared->Prop} {s:Shared} {K:Frag} {x D:Addr} {ox:Obj} {od:Option Obj} {name:Str}
structure ExcCls (K:Frag) (D:Addr):Prop where
 ga:findIn K (.ref D) "__getattribute__"=some (some (.builtin "BaseException.__getattribute__"))
 hook:findIn K (.ref D) "__getattr__"=some none
 base:mroIn K D (.type "BaseException")=some true
 obj:mroIn K D (.type "object")=some true
 cls:(clsIn K D).isSome=true
 ca:findIn K (.ref D) "__class__"=some (some (.builtin "object.__class__"))
 cg:specialIn K (.builtin "object.__class__") "__get__"=some (some (.builtin "getset_descriptor.__get__"))
 ct:takesIn K (.builtin "object.__class__")=some true
theorem Ba (L4:Looks M s.heap (isInstance (.ref x) (.type "BaseException")) true) (hq:Q () s):wpAny M A (checkBuiltinCall "BaseException.__getattribute__" ⟨[.ref x,nameV],[]⟩) Q Z s:=by
 obtain⟨hh,g,d,t,os⟩:=s;have hk:builtinKind "BaseException.__getattribute__"=some .slot:=by decide +kernel
 have hsplit:splitId "BaseException.__getattribute__"=some ("BaseException","__getattribute__"):=by decide +kernel
 have ha:=PySem.F.args_bexc_ga (.ref x) nameV;simp only[checkBuiltinCall,hk,hsplit];refine wpAny_bind (L4.at ?_)
 repeat (first|assumption|wp_step)
theorem Jg {Q:Value->Shared->Prop} {fill expr:Bool} {tk:Tok} (X:K.In s.heap) (I:InstAt s.heap x ox D od) (F:ExcCls K D)
  (h:wpAny (model prog w) A.in1 (Builtin.«object.__getattribute__» ⟨[.ref x,.str name tk],[]⟩)
   (fun fin s'=>match fin with | .done (.ret v)=>wpAny (model prog w) A (handedOut v) Q (fun _ _=>False) s' | _=>False) (fun _ _=>False) s) :
  wpAny (model prog w) A (getAttrBy (.ref x) (.str name tk) fill expr) Q Z s:=by
 obtain⟨hh,g,d,t,os⟩:=s;have L0:=I.type (M:=model prog w);have L1:=looks_findIn (M:=model prog w) X F.ga;have L2:=looks_findIn (M:=model prog w) X F.hook;have L3:=looks_mroIn (M:=model prog w) X F.base;have hx2:(Value.builtin "BaseException.__getattribute__" == Value.builtin "object.__getattribute__")=false:=by decide +kernel
 have tf:typeOf (.builtin "BaseException.__getattribute__")=pure (.type "wrapper_descriptor"):=by kernel_rfl
 unfold getAttrBy;refine wpAny_holding (wpAny_bind (L0.at (wpAny_bind (L1.at ?_))));dsimp only;rw[if_neg (by rw[hx2];simp)];unfold getAttrByItsOwn hookBefore;rw[if_pos (show onTheHeap (Value.ref D)=true from rfl)];refine wpAny_bind (L2.at ?_);unfold callGetattribute;rw[show (expr&&onTheHeap (Value.builtin "BaseException.__getattribute__"))=false from Bool.and_false _,if_neg (by simp)];refine wpAny_bind (wpAny_attempt (wpAny_holding ?_));unfold boundAndCalled bindSpecial;rw[tf];refine wpAny_bind (wpAny_bind (wpAny_pure ?_));rw[if_pos %[|4]];refine wpAny_pure (wpAny_call (codeAny_call_builtin ?pl PySem.F.entry_bexc_ga ?ck))
 case pl=>exact PySem.F.excAttr_ValueError.ga.plain
 case ck =>
  refine Ba (L0.andThen L3) (wpAny_mono h (fun fin s' z=>?_) fun _ _ z=>z.elim);rcases fin with (_|_|_|_)|_<;>first|exact z.elim|exact wpAny_mono z (fun v s'' hv=>hv) fun _ _ z=>z.elim
theorem Vn (c:(clsIn K D).isSome=true) (F:ExcCls K D):findObj K D od "__class__"=some (.bind (.builtin "getset_descriptor.__get__") (.builtin "object.__class__")):=by
 obtain⟨cd,hc⟩:=Option.isSome_iff_exists.mp c;unfold findObj;rw[hc,Option.bind_some,F.ca,Option.bind_some];simp[F.cg,F.ct]
theorem B9 {Q:Option Value->Shared->Prop} (X:K.In s.heap) (I:InstAt s.heap x ox D od) (F:ExcCls K D) (h:Q (some (.ref D)) {s with toks:=s.toks+1}):wpAny (model prog w) A (getAttr? (.ref x) "__class__") Q Z s:=by
 unfold getAttr? getAttrBy?;refine wpAny_bind (wpAny_mkText (wpAny_bind (wpAny_attempt (Jg (s:={s with toks:=s.toks+1}) X I F ?_))));obtain⟨hh,g,d,t,os⟩:=s;have L0:=I.type (M:=model prog w);have L1:=looks_find (M:=model prog w) X I (Vn F.cls F);unfold Builtin.«object.__getattribute__»;refine wpAny_bind (wpAny_pure (wpAny_bind ?_));show wpAny _ _ (pure _) _ _ _;refine wpAny_pure (wpAny_bind (L0.at (wpAny_bind (L1.at ?_))));dsimp only;unfold Builtin.ObjectAttr.bindTo;refine wpAny_bind (wpAny_holding (wpAny_call (class_get (s:=⟨hh,g,d,t+1,os⟩) X I F.obj ?_)));refine wpAny_pure ?_;show wpAny _ _ (handedOut (.ref D)) _ _ _;refine wpAny_pure (wpAny_pure ?_);exact h
theorem Wa (F:ExcCls K D):KitX K (.ref x) (.ref D) (fun h=>∃ ox od,InstAt h x ox D od) where
 ty:=fun _ _ _ ⟨_,_,I⟩=>I.type
 it:=fun M h X _=>by
  obtain⟨cd,hc⟩:=Option.isSome_iff_exists.mp F.cls;unfold clsIn at hc;split at hc
  ·rename_i ho
   intro A' Q' E' s' k q;unfold isType loadHead;exact wpAny_bind (wpAny_loadPart (k _ _ (X _ _ ho)) (wpAny_pure q))
  ·cases hc
 ne:=fun h tp dd its n sl X htp=>by
  obtain⟨cd,hc⟩:=Option.isSome_iff_exists.mp F.cls;refine Bool.eq_false_iff.mpr fun q=>?_;obtain rfl:D=tp:=Value.ref.inj (beq_iff_eq.mp q);unfold clsIn at hc;split at hc
  ·rename_i ho
   have z:=(X _ _ ho).symm.trans htp;cases z
  ·cases hc
 ca:=fun X ⟨_,_,I⟩ k=>B9 X I F k
end
noncomputable def xPlain:List Str:=["NoNumber","NoTube","NoRow","NoMeasure","NoData","NoPrice","NoNeeds","NoRoom","NoJobs"]
noncomputable def xInit:List Str:=["NoText","NoLevel","NoCall","NoKept"]
noncomputable def xNames:List Str:="CordError" :: (xPlain++xInit)
noncomputable def ZR (n c:Str):Bool:=decide (n=c) || decide (c="CordError")
noncomputable def bmV:List Value:=[.type "ValueError",.type "Exception",.type "BaseException",.type "object"]
noncomputable def Xx (K:Frag) (n:Str):Option Addr:=match nsIn K mainGlobals n with|some (some (.ref C))=>some C|_=>none
noncomputable def Av (K:Frag) (D:Addr):Bool :=
 (findIn K (.ref D) "__getattribute__" == some (some (.builtin "BaseException.__getattribute__")))&&(findIn K (.ref D) "__getattr__" == some none)&&(mroIn K D (.type "BaseException")==some true)&&(mroIn K D (.type "object")==some true)&&(clsIn K D).isSome
 && (findIn K (.ref D) "__class__" == some (some (.builtin "object.__class__")))&&(specialIn K (.builtin "object.__class__") "__get__" == some (some (.builtin "getset_descriptor.__get__")))&&(takesIn K (.builtin "object.__class__")==some true)
noncomputable def Bw (K:Frag):Bool:=xNames.all fun n=>match Xx K n with
 | none=>true
 | some D=>Av K D&&(!(xPlain.contains n) || excIn K D bmV "ValueError.__new__")&&(kitOne K (.ref D) (.type "ValueError")==some true)&&(["int","bool","str","tuple","list","dict"].all fun T=>kitOne K (.ref D) (.type T)==some false)&&xNames.all fun c=>match Xx K c with
  | none=>true
  | some C=>(exmOne K (.ref D) (.ref C)==some (ZR n c))&&(kitOne K (.ref D) (.ref C)==some (ZR n c))
noncomputable def oNames:List Str:=["Funnel"]
noncomputable def oFields:List Str:=["places","touches","showing"]
noncomputable def FC (K:Frag):Bool:=oNames.all fun n=>match Xx K n with
 | none=>true
 | some C=>plainGet K C Str.empty&&hasDictIn K C&&plainOver K C&&(findIn K (.ref C) "__setattr__" == some (some (.builtin "object.__setattr__")))&&oFields.all fun f=>findIn K (.ref C) f==some none
noncomputable def YN (K:Frag) (n:Str) (C:Addr):Prop:=nsIn K mainGlobals n=some (some (.ref C))
section
variable {K:Frag} {n c:Str} {C D:Addr}
theorem Wh (h:YN K n D):Xx K n=some D:=by unfold Xx;rw[show nsIn K mainGlobals n=some (some (.ref D)) from h]
end
end DL
end
noncomputable section
namespace DL
open PySem PySem.Spec PyProof.Rows L2 PySem.W PySem.Builtin PySem.Builtin.ObjectAttr
theorem Y9 {c:Prop} [Decidable c] {f:c->Bool} (h:(if h:c then f h else false)=true):∃ h:c,f h=true:=by
 by_cases z:c
 ·rw[dif_pos z] at h;exact⟨z,h⟩
 ·rw[dif_neg z] at h;cases h
noncomputable def Yw (x:Expr) (q:Str->Pos->Bool):Bool:=if h:x.ctorIdx=23 then @Expr.Name.elim (fun _=>Bool) x h q else false
@[elab_as_elim] theorem gNm {P:Expr->Prop} (x) {q} (h:Yw x q) (k:∀ a b,q a b->P (.Name a b)):P x:=(Y9 h).elim fun i j=>@Expr.Name.elim (fun x=>∀ i,@Expr.Name.elim (fun _=>Bool) x i q->P x) x i (fun a b _=>k a b) i j
noncomputable def Yy (x:Expr) (q:Const->Nat->Pos->Bool):Bool:=if h:x.ctorIdx=19 then @Expr.Constant.elim (fun _=>Bool) x h q else false
@[elab_as_elim] theorem gConstant {P:Expr->Prop} (x) {q} (h:Yy x q) (k:∀ a b c,q a b c->P (.Constant a b c)):P x:=(Y9 h).elim fun i j=>@Expr.Constant.elim (fun x=>∀ i,@Expr.Constant.elim (fun _=>Bool) x i q->P x) x i (fun a b c _=>k a b c) i j
noncomputable def BS (x:Expr) (q:Expr->Operator->Expr->Pos->Bool):Bool:=if h:x.ctorIdx=2 then @Expr.BinOp.elim (fun _=>Bool) x h q else false
@[elab_as_elim] theorem gBinOp {P:Expr->Prop} (x) {q} (h:BS x q) (k:∀ a b c d,q a b c d->P (.BinOp a b c d)):P x:=(Y9 h).elim fun i j=>@Expr.BinOp.elim (fun x=>∀ i,@Expr.BinOp.elim (fun _=>Bool) x i q->P x) x i (fun a b c d _=>k a b c d) i j
noncomputable def Va (x:Expr) (q:UnaryOp->Expr->Pos->Bool):Bool:=if h:x.ctorIdx=3 then @Expr.UnaryOp.elim (fun _=>Bool) x h q else false
@[elab_as_elim] theorem gUnaryOp {P:Expr->Prop} (x) {q} (h:Va x q) (k:∀ a b c,q a b c->P (.UnaryOp a b c)):P x:=(Y9 h).elim fun i j=>@Expr.UnaryOp.elim (fun x=>∀ i,@Expr.UnaryOp.elim (fun _=>Bool) x i q->P x) x i (fun a b c _=>k a b c) i j
noncomputable def W4 (x:Expr) (q:Expr->(List CmpOp)->(List Expr)->Pos->Bool):Bool:=if h:x.ctorIdx=15 then @Expr.Compare.elim (fun _=>Bool) x h q else false
@[elab_as_elim] theorem gCompare {P:Expr->Prop} (x) {q} (h:W4 x q) (k:∀ a b c d,q a b c d->P (.Compare a b c d)):P x:=(Y9 h).elim fun i j=>@Expr.Compare.elim (fun x=>∀ i,@Expr.Compare.elim (fun _=>Bool) x i q->P x) x i (fun a b c d _=>k a b c d) i j
noncomputable def WU (x:Expr) (q:BoolOp->(List Expr)->Pos->Bool):Bool:=if h:x.ctorIdx=0 then @Expr.BoolOp.elim (fun _=>Bool) x h q else false
@[elab_as_elim] theorem gBoolOp {P:Expr->Prop} (x) {q} (h:WU x q) (k:∀ a b c,q a b c->P (.BoolOp a b c)):P x:=(Y9 h).elim fun i j=>@Expr.BoolOp.elim (fun x=>∀ i,@Expr.BoolOp.elim (fun _=>Bool) x i q->P x) x i (fun a b c _=>k a b c) i j
noncomputable def BQ (x:Expr) (q:Expr->Expr->Expr->Pos->Bool):Bool:=if h:x.ctorIdx=5 then @Expr.IfExp.elim (fun _=>Bool) x h q else false
@[elab_as_elim] theorem gIfExp {P:Expr->Prop} (x) {q} (h:BQ x q) (k:∀ a b c d,q a b c d->P (.IfExp a b c d)):P x:=(Y9 h).elim fun i j=>@Expr.IfExp.elim (fun x=>∀ i,@Expr.IfExp.elim (fun _=>Bool) x i q->P x) x i (fun a b c d _=>k a b c d) i j
noncomputable def Zx (x:Expr) (q:(List Expr)->Nat->Pos->Bool):Bool:=if h:x.ctorIdx=25 then @Expr.Tuple.elim (fun _=>Bool) x h q else false
@[elab_as_elim] theorem gTuple {P:Expr->Prop} (x) {q} (h:Zx x q) (k:∀ a b c,q a b c->P (.Tuple a b c)):P x:=(Y9 h).elim fun i j=>@Expr.Tuple.elim (fun x=>∀ i,@Expr.Tuple.elim (fun _=>Bool) x i q->P x) x i (fun a b c _=>k a b c) i j
noncomputable def FA (x:Expr) (q:(List Expr)->Pos->Bool):Bool:=if h:x.ctorIdx=24 then @Expr.List.elim (fun _=>Bool) x h q else false
@[elab_as_elim] theorem gList {P:Expr->Prop} (x) {q} (h:FA x q) (k:∀ a b,q a b->P (.List a b)):P x:=(Y9 h).elim fun i j=>@Expr.List.elim (fun x=>∀ i,@Expr.List.elim (fun _=>Bool) x i q->P x) x i (fun a b _=>k a b) i j
noncomputable def Ze (x:Expr) (q:Expr->Expr->Pos->Bool):Bool:=if h:x.ctorIdx=21 then @Expr.Subscript.elim (fun _=>Bool) x h q else false
@[elab_as_elim] theorem gSubscript {P:Expr->Prop} (x) {q} (h:Ze x q) (k:∀ a b c,q a b c->P (.Subscript a b c)):P x:=(Y9 h).elim fun i j=>@Expr.Subscript.elim (fun x=>∀ i,@Expr.Subscript.elim (fun _=>Bool) x i q->P x) x i (fun a b c _=>k a b c) i j
noncomputable def JC (x:Expr) (q:(Option Expr)->(Option Expr)->(Option Expr)->Pos->Bool):Bool:=if h:x.ctorIdx=26 then @Expr.Slice.elim (fun _=>Bool) x h q else false
@[elab_as_elim] theorem gSlice {P:Expr->Prop} (x) {q} (h:JC x q) (k:∀ a b c d,q a b c d->P (.Slice a b c d)):P x:=(Y9 h).elim fun i j=>@Expr.Slice.elim (fun x=>∀ i,@Expr.Slice.elim (fun _=>Bool) x i q->P x) x i (fun a b c d _=>k a b c d) i j
noncomputable def Zp (x:Expr) (q:Expr->(List Expr)->(List Keyword)->Pos->Bool):Bool:=if h:x.ctorIdx=16 then @Expr.Call.elim (fun _=>Bool) x h q else false
@[elab_as_elim] theorem gCall {P:Expr->Prop} (x) {q} (h:Zp x q) (k:∀ a b c d,q a b c d->P (.Call a b c d)):P x:=(Y9 h).elim fun i j=>@Expr.Call.elim (fun x=>∀ i,@Expr.Call.elim (fun _=>Bool) x i q->P x) x i (fun a b c d _=>k a b c d) i j
noncomputable def YJ (x:Expr) (q:Expr->Str->Pos->Bool):Bool:=if h:x.ctorIdx=20 then @Expr.Attribute.elim (fun _=>Bool) x h q else false
@[elab_as_elim] theorem gAttribute {P:Expr->Prop} (x) {q} (h:YJ x q) (k:∀ a b c,q a b c->P (.Attribute a b c)):P x:=(Y9 h).elim fun i j=>@Expr.Attribute.elim (fun x=>∀ i,@Expr.Attribute.elim (fun _=>Bool) x i q->P x) x i (fun a b c _=>k a b c) i j
noncomputable def X9 (x:Expr) (q:(List Expr)->Pos->Bool):Bool:=if h:x.ctorIdx=18 then @Expr.JoinedStr.elim (fun _=>Bool) x h q else false
@[elab_as_elim] theorem gJoinedStr {P:Expr->Prop} (x) {q} (h:X9 x q) (k:∀ a b,q a b->P (.JoinedStr a b)):P x:=(Y9 h).elim fun i j=>@Expr.JoinedStr.elim (fun x=>∀ i,@Expr.JoinedStr.elim (fun _=>Bool) x i q->P x) x i (fun a b _=>k a b) i j
noncomputable def Yo (x:Expr) (q:Expr->Int->(Option Expr)->Pos->Bool):Bool:=if h:x.ctorIdx=17 then @Expr.FormattedValue.elim (fun _=>Bool) x h q else false
@[elab_as_elim] theorem gFormattedValue {P:Expr->Prop} (x) {q} (h:Yo x q) (k:∀ a b c d,q a b c d->P (.FormattedValue a b c d)):P x:=(Y9 h).elim fun i j=>@Expr.FormattedValue.elim (fun x=>∀ i,@Expr.FormattedValue.elim (fun _=>Bool) x i q->P x) x i (fun a b c d _=>k a b c d) i j
noncomputable def VH (x:Expr) (q:Expr->(List Comprehension)->Scope->Pos->Bool):Bool:=if h:x.ctorIdx=8 then @Expr.ListComp.elim (fun _=>Bool) x h q else false
@[elab_as_elim] theorem gListComp {P:Expr->Prop} (x) {q} (h:VH x q) (k:∀ a b c d,q a b c d->P (.ListComp a b c d)):P x:=(Y9 h).elim fun i j=>@Expr.ListComp.elim (fun x=>∀ i,@Expr.ListComp.elim (fun _=>Bool) x i q->P x) x i (fun a b c d _=>k a b c d) i j
noncomputable def qMk (x:Comprehension) (q:Expr->Expr->(List Expr)->Int->Bool):Bool:=match x with | .mk a b c d=>q a b c d
@[elab_as_elim] theorem gMk {P:Comprehension->Prop} (x) {q} (h:qMk x q) (k:∀ a b c d,q a b c d->P (.mk a b c d)):P x:=by
 cases x with
 | mk a b c d=>exact k a b c d h
noncomputable def qInt (x:Const) (q:Int->Bool):Bool:=if h:x.ctorIdx=2 then @Const.int.elim (fun _=>Bool) x h q else false
@[elab_as_elim] theorem gInt {P:Const->Prop} (x) {q} (h:qInt x q) (k:∀ a,q a->P (.int a)):P x:=(Y9 h).elim fun i j=>@Const.int.elim (fun x=>∀ i,@Const.int.elim (fun _=>Bool) x i q->P x) x i (fun a _=>k a) i j
noncomputable def FB (x:Const) (q:Bool->Bool):Bool:=if h:x.ctorIdx=1 then @Const.bool.elim (fun _=>Bool) x h q else false
@[elab_as_elim] theorem gBool {P:Const->Prop} (x) {q} (h:FB x q) (k:∀ a,q a->P (.bool a)):P x:=(Y9 h).elim fun i j=>@Const.bool.elim (fun x=>∀ i,@Const.bool.elim (fun _=>Bool) x i q->P x) x i (fun a _=>k a) i j
noncomputable def qStr (x:Const) (q:Str->Bool):Bool:=if h:x.ctorIdx=5 then @Const.str.elim (fun _=>Bool) x h q else false
@[elab_as_elim] theorem gStr {P:Const->Prop} (x) {q} (h:qStr x q) (k:∀ a,q a->P (.str a)):P x:=(Y9 h).elim fun i j=>@Const.str.elim (fun x=>∀ i,@Const.str.elim (fun _=>Bool) x i q->P x) x i (fun a _=>k a) i j
noncomputable def JE (x:Const) (q:Bool):Bool:=if h:x.ctorIdx=0 then @Const.none.elim (fun _=>Bool) x h q else false
@[elab_as_elim] theorem gCnone {P:Const->Prop} (x) {q} (h:JE x q) (k:q->P .none):P x:=(Y9 h).elim fun i j=>@Const.none.elim (fun x=>∀ i,@Const.none.elim (fun _=>Bool) x i q->P x) x i (fun _=>k) i j
noncomputable def Fz (x:UnaryOp) (q:Bool):Bool:=if h:x.ctorIdx=3 then @UnaryOp.USub.elim (fun _=>Bool) x h q else false
@[elab_as_elim] theorem gUSub {P:UnaryOp->Prop} (x) {q} (h:Fz x q) (k:q->P .USub):P x:=(Y9 h).elim fun i j=>@UnaryOp.USub.elim (fun x=>∀ i,@UnaryOp.USub.elim (fun _=>Bool) x i q->P x) x i (fun _=>k) i j
noncomputable def qNot (x:UnaryOp) (q:Bool):Bool:=if h:x.ctorIdx=1 then @UnaryOp.Not.elim (fun _=>Bool) x h q else false
@[elab_as_elim] theorem gNot {P:UnaryOp->Prop} (x) {q} (h:qNot x q) (k:q->P .Not):P x:=(Y9 h).elim fun i j=>@UnaryOp.Not.elim (fun x=>∀ i,@UnaryOp.Not.elim (fun _=>Bool) x i q->P x) x i (fun _=>k) i j
noncomputable def qAnd (x:BoolOp) (q:Bool):Bool:=if h:x.ctorIdx=0 then @BoolOp.And.elim (fun _=>Bool) x h q else false
@[elab_as_elim] theorem gAnd {P:BoolOp->Prop} (x) {q} (h:qAnd x q) (k:q->P .And):P x:=(Y9 h).elim fun i j=>@BoolOp.And.elim (fun x=>∀ i,@BoolOp.And.elim (fun _=>Bool) x i q->P x) x i (fun _=>k) i j
noncomputable def qOr (x:BoolOp) (q:Bool):Bool:=if h:x.ctorIdx=1 then @BoolOp.Or.elim (fun _=>Bool) x h q else false
@[elab_as_elim] theorem gOr {P:BoolOp->Prop} (x) {q} (h:qOr x q) (k:q->P .Or):P x:=(Y9 h).elim fun i j=>@BoolOp.Or.elim (fun x=>∀ i,@BoolOp.Or.elim (fun _=>Bool) x i q->P x) x i (fun _=>k) i j
noncomputable def qNil {α:Type} (x:List α) (q:Bool):Bool:=if h:x.ctorIdx=0 then @List.nil.elim α (fun _=>Bool) x h q else false
@[elab_as_elim] theorem gNil {α:Type} {P:List α->Prop} (x) {q} (h:qNil x q) (k:q->P .nil):P x:=(Y9 h).elim fun i j=>@List.nil.elim α (fun x=>∀ i,@List.nil.elim α (fun _=>Bool) x i q->P x) x i (fun _=>k) i j
noncomputable def Y8 {α:Type} (x:List α) (q:α->(List α)->Bool):Bool:=if h:x.ctorIdx=1 then @List.cons.elim α (fun _=>Bool) x h q else false
@[elab_as_elim] theorem Y7 {α:Type} {P:List α->Prop} (x) {q} (h:Y8 x q) (k:∀ a b,q a b->P (.cons a b)):P x:=(Y9 h).elim fun i j=>@List.cons.elim α (fun x=>∀ i,@List.cons.elim α (fun _=>Bool) x i q->P x) x i (fun a b _=>k a b) i j
noncomputable def Xj {α:Type} (x:Option α) (q:Bool):Bool:=if h:x.ctorIdx=0 then @Option.none.elim α (fun _=>Bool) x h q else false
@[elab_as_elim] theorem gNone {α:Type} {P:Option α->Prop} (x) {q} (h:Xj x q) (k:q->P .none):P x:=(Y9 h).elim fun i j=>@Option.none.elim α (fun x=>∀ i,@Option.none.elim α (fun _=>Bool) x i q->P x) x i (fun _=>k) i j
noncomputable def WH {α:Type} (x:Option α) (q:α->Bool):Bool:=if h:x.ctorIdx=1 then @Option.some.elim α (fun _=>Bool) x h q else false
@[elab_as_elim] theorem gSome {α:Type} {P:Option α->Prop} (x) {q} (h:WH x q) (k:∀ a,q a->P (.some a)):P x:=(Y9 h).elim fun i j=>@Option.some.elim α (fun x=>∀ i,@Option.some.elim α (fun _=>Bool) x i q->P x) x i (fun a _=>k a) i j
noncomputable def XD (x:Stmt) (q:(List Expr)->Expr->Pos->Bool):Bool:=if h:x.ctorIdx=5 then @Stmt.Assign.elim (fun _=>Bool) x h q else false
@[elab_as_elim] theorem gAssign {P:Stmt->Prop} (x) {q} (h:XD x q) (k:∀ a b c,q a b c->P (.Assign a b c)):P x:=(Y9 h).elim fun i j=>@Stmt.Assign.elim (fun x=>∀ i,@Stmt.Assign.elim (fun _=>Bool) x i q->P x) x i (fun a b c _=>k a b c) i j
noncomputable def Ae (x:Stmt) (q:(Option Expr)->Pos->Bool):Bool:=if h:x.ctorIdx=3 then @Stmt.Return.elim (fun _=>Bool) x h q else false
@[elab_as_elim] theorem gReturn {P:Stmt->Prop} (x) {q} (h:Ae x q) (k:∀ a b,q a b->P (.Return a b)):P x:=(Y9 h).elim fun i j=>@Stmt.Return.elim (fun x=>∀ i,@Stmt.Return.elim (fun _=>Bool) x i q->P x) x i (fun a b _=>k a b) i j
noncomputable def qFor (x:Stmt) (q:Expr->Expr->(List Stmt)->(List Stmt)->Pos->Bool):Bool:=if h:x.ctorIdx=9 then @Stmt.For.elim (fun _=>Bool) x h q else false
@[elab_as_elim] theorem gFor {P:Stmt->Prop} (x) {q} (h:qFor x q) (k:∀ a b c d e,q a b c d e->P (.For a b c d e)):P x:=(Y9 h).elim fun i j=>@Stmt.For.elim (fun x=>∀ i,@Stmt.For.elim (fun _=>Bool) x i q->P x) x i (fun a b c d e _=>k a b c d e) i j
noncomputable def BP (x:Stmt) (q:Expr->(List Stmt)->(List Stmt)->Pos->Bool):Bool:=if h:x.ctorIdx=11 then @Stmt.While.elim (fun _=>Bool) x h q else false
@[elab_as_elim] theorem gWhile {P:Stmt->Prop} (x) {q} (h:BP x q) (k:∀ a b c d,q a b c d->P (.While a b c d)):P x:=(Y9 h).elim fun i j=>@Stmt.While.elim (fun x=>∀ i,@Stmt.While.elim (fun _=>Bool) x i q->P x) x i (fun a b c d _=>k a b c d) i j
noncomputable def qIf (x:Stmt) (q:Expr->(List Stmt)->(List Stmt)->Pos->Bool):Bool:=if h:x.ctorIdx=12 then @Stmt.If.elim (fun _=>Bool) x h q else false
@[elab_as_elim] theorem gIf {P:Stmt->Prop} (x) {q} (h:qIf x q) (k:∀ a b c d,q a b c d->P (.If a b c d)):P x:=(Y9 h).elim fun i j=>@Stmt.If.elim (fun x=>∀ i,@Stmt.If.elim (fun _=>Bool) x i q->P x) x i (fun a b c d _=>k a b c d) i j
noncomputable def JD (x:Stmt) (q:(Option Expr)->(Option Expr)->Pos->Bool):Bool:=if h:x.ctorIdx=16 then @Stmt.Raise.elim (fun _=>Bool) x h q else false
@[elab_as_elim] theorem gRaise {P:Stmt->Prop} (x) {q} (h:JD x q) (k:∀ a b c,q a b c->P (.Raise a b c)):P x:=(Y9 h).elim fun i j=>@Stmt.Raise.elim (fun x=>∀ i,@Stmt.Raise.elim (fun _=>Bool) x i q->P x) x i (fun a b c _=>k a b c) i j
noncomputable def qTry (x:Stmt) (q:(List Stmt)->(List ExceptHandler)->(List Stmt)->(List Stmt)->Pos->Bool):Bool:=if h:x.ctorIdx=17 then @Stmt.Try.elim (fun _=>Bool) x h q else false
@[elab_as_elim] theorem gTry {P:Stmt->Prop} (x) {q} (h:qTry x q) (k:∀ a b c d e,q a b c d e->P (.Try a b c d e)):P x:=(Y9 h).elim fun i j=>@Stmt.Try.elim (fun x=>∀ i,@Stmt.Try.elim (fun _=>Bool) x i q->P x) x i (fun a b c d e _=>k a b c d e) i j
noncomputable def BR (x:Stmt) (q:Expr->Pos->Bool):Bool:=if h:x.ctorIdx=24 then @Stmt.Expr.elim (fun _=>Bool) x h q else false
@[elab_as_elim] theorem gExpr {P:Stmt->Prop} (x) {q} (h:BR x q) (k:∀ a b,q a b->P (.Expr a b)):P x:=(Y9 h).elim fun i j=>@Stmt.Expr.elim (fun x=>∀ i,@Stmt.Expr.elim (fun _=>Bool) x i q->P x) x i (fun a b _=>k a b) i j
noncomputable def Zy (x:ExceptHandler) (q:(Option Expr)->(Option Str)->(List Stmt)->Pos->Bool):Bool:=match x with | .ExceptHandler a b c d=>q a b c d
@[elab_as_elim] theorem gExceptHandler {P:ExceptHandler->Prop} (x) {q} (h:Zy x q) (k:∀ a b c d,q a b c d->P (.ExceptHandler a b c d)):P x:=by
 cases x with
 | ExceptHandler a b c d=>exact k a b c d h
section
variable {prog:Program} {w:World} {A:Around} {E:Value->Shared->Prop} {h:Heap} {g:Array GenState} {d:Drawn} {t:Nat} {os:OsState}
variable {nm q:Str} {C N:Addr} {bs bm bmB bmN:List Value} {hdct:Bool} {sn:List Str} {sub:List Value} {ab:Bool} {col:Option Bool} {dd:Option Addr} {k0 k1 k2 k3 k5:Option Value} {B Bn newId nid initId inN:String}
theorem WP (Fn:ExcBaseFacts Bn newId inN bmN) (hBn:bmB.contains (.type Bn)=true) (F:ExcBaseFacts B nid initId bmB) (T:OwnTail h bmB bm) {mN:Str->Option Value} {rest:List Value} {fI:Addr} {oI:Obj} {Q:Fin->Shared->Prop}
  (hC:h.get? C=some (excClassObj nm q C N bs bm hdct sn sub ab col dd k0 k1 k2 k3 k5 newId)) (hn:h.Ns N mN) (hi:mN "__init__"=some (.ref fI)) (hfI:h.get? fI=some oI) (hfc:oI.cls=.type "function")
  (hq:∀ h' e,Heap.MadeExcOf h h' e (.ref C) rest->wpAny (model prog w) A (call (.ref fI) (.ref e::rest)) (fun r s'=>r=.none/\Q (.done (.ret (.ref e))) s') E ⟨h',g,d,t,os⟩) (hrest:rest.length<=sizeLine) :
  wpAny (model prog w) A (Builtin.«type.__call__» ⟨.ref C::rest,[]⟩) Q E ⟨h,g,d,t,os⟩:=by
 repeat (first|with_reducible refine wpAny_loadPart_at hC ?_|with_reducible refine wpAny_madeBy_exc hC ?_|wp_step)
 refine codeAny_call_builtin_code (Code.quiet_builtin _ Fn.quiet) (wpAny_check_new_subU Fn hBn T hC ?_);refine codeAny_exc_new_subU Fn hBn F T hC ?_ hrest;show wpAny _ _ _ _ _ _;have hC₁:=Heap.get?_push_of_some {cls:=.ref C,data:=.fields #[.ref h.objs.size,.none,.none,.none,.bool false,.none]}
  (Heap.get?_push_of_some {cls:=.type "tuple",data:=.seq rest.toArray} hC)
 have hfI₁:=Heap.get?_push_of_some {cls:=.ref C,data:=.fields #[.ref h.objs.size,.none,.none,.none,.bool false,.none]}
  (Heap.get?_push_of_some {cls:=.type "tuple",data:=.seq rest.toArray} hfI)
 have hn₁:((h.push {cls:=.type "tuple",data:=.seq rest.toArray}).push {cls:=.ref C,data:=.fields #[.ref h.objs.size,.none,.none,.none,.bool false,.none]}).Ns N mN :=
  let ⟨o,es,ep,e,r⟩:=hn;⟨o,es,ep,Heap.get?_push_of_some _ (Heap.get?_push_of_some _ e),r⟩
 have hget:((h.push {cls:=.type "tuple",data:=.seq rest.toArray}).push
   {cls:=.ref C,data:=.fields #[.ref h.objs.size,.none,.none,.none,.bool false,.none]}).get? (h.objs.size+1)=some
   {cls:=.ref C,data:=.fields #[.ref h.objs.size,.none,.none,.none,.bool false,.none]}:=by heap_get
 have hcC:(Value.ref C::bm).contains (.ref C)=true:=by simp
 have T₁:=T.keeps (h':=(h.push {cls:=.type "tuple",data:=.seq rest.toArray}).push {cls:=.ref C,data:=.fields #[.ref h.objs.size,.none,.none,.none,.bool false,.none]})
  fun b o e=>Heap.get?_push_of_some _ (Heap.get?_push_of_some _ e)
 unfold isInstance
 repeat (first|with_reducible refine wpAny_loadPart_at hget ?_|(with_reducible refine wpAny_isSubtype_exc hC₁ ?_;rw[hcC])|wp_step)
 show wpAny _ _ (typeLookup (.ref C) _) _ _ _;refine wpAny_typeLookup_tail hC₁ hn₁ T₁ F.mroIs F.init.lookup ?_;rw[hi];refine wpAny_holding (wpAny_bind ?_);unfold bindSpecial;refine wpAny_bind (wpAny_typeOf (T:="function") ⟨_,hfI₁,hfc⟩ ?_);rw[if_pos %[|4]];refine wpAny_pure (wpAny_bind (wpAny_mono (hq _ (h.objs.size+1) ⟨fun b o hb=>Heap.get?_push_of_some _ (Heap.get?_push_of_some _ hb),Heap.get?_none_of_le (Nat.le_succ _),h.objs.size,hget,Heap.get?_none_of_le %[|3],?_⟩) (fun r s' hr=>?_) fun _ _ x=>x))
 ·exact Heap.get?_push_of_some _ (Heap.get?_push_at rfl rfl)
 ·obtain⟨rfl,hQ⟩:=hr
  wp_walk
  exact hQ
theorem Xy (Fn:ExcBaseFacts Bn newId inN bmN) (hBn:bmB.contains (.type Bn)=true) (F:ExcBaseFacts B nid initId bmB) (T:OwnTail h bmB bm) {mN:Str->Option Value} {rest:List Value} {fI:Addr} {oI:Obj} {Q:Value->Shared->Prop}
  (hC:h.get? C=some (excClassObj nm q C N bs bm hdct sn sub ab col dd k0 k1 k2 k3 k5 newId)) (hn:h.Ns N mN) (hi:mN "__init__"=some (.ref fI)) (hfI:h.get? fI=some oI) (hfc:oI.cls=.type "function")
  (hq:∀ h' e,Heap.MadeExcOf h h' e (.ref C) rest->wpAny (model prog w) (A.under (.builtin "type.__call__" ⟨.ref C::rest,[]⟩)) (call (.ref fI) (.ref e::rest)) (fun r s'=>r=.none/\Q (.ref e) s') E ⟨h',g,d,t,os⟩) (hrest:rest.length<=sizeLine) :
  wpAny (model prog w) A (call (.ref C) rest) Q E ⟨h,g,d,t,os⟩:=by
 have f1:=tc_lookup;have f2:=tc_bind (.ref C);have hT:(⟨h,g,d,t,os⟩:Shared).TypeIs (.ref C) "type":=⟨_,hC,rfl⟩;refine wpAny_call (codeAny_of_tree ?_);show wpAny _ _ (callAny (.ref C) _) _ _ _
 repeat (any_goals (first|assumption|with_reducible refine wpAny_loadPart_at hC ?_|wp_step))
 refine⟨rfl,?_⟩;exact codeAny_call_builtin_at (Code.quiet_builtin _ (by decide +kernel)) entry_typeCall (wpAny_check_type_call_sub hC (WP Fn hBn F T hC hn hi hfI hfc (fun h' e hm=>hq h' e hm) hrest))
theorem CT (F:ExcBaseFacts B nid initId bmB) (T:OwnTail h bmB bm) {e t0:Addr} {ob:Obj} {vs:Array Value} {rest:List Value} {Q:Value->Shared->Prop}
  (hC:h.get? C=some (excClassObj nm q C N bs bm hdct sn sub ab col dd k0 k1 k2 k3 k5 newId)) (he:h.get? e=some ob) (hcls:ob.cls=.ref C) (hd:ob.data=.fields vs) (h0:vs[0]?=some (.ref t0))
  (hq:Q .none ⟨(h.push {cls:=.type "tuple",data:=.seq rest.toArray}).update e (Obj.mapFields (·.setIfInBounds 0 (.ref h.objs.size))),g,d,t,os⟩) (hrest:rest.length<=sizeLine) :
  wpAny (model prog w) A (call (.builtin initId) (.ref e::rest)) Q E ⟨h,g,d,t,os⟩:=by
 refine wpAny_call (codeAny_call_builtin F.init.plain F.initEntry (wpAny_check_init_subU F T hC he hcls ?_));unfold Builtin.«BaseException.__init__»;dsimp only;rw[if_neg (by simp)];unfold newTuple Builtin.BaseException.bexcPut;have hsz:0<vs.size:=(Array.getElem?_eq_some_iff.mp h0).1;have he₁:=Heap.get?_push_of_some (h:=h) {cls:=.type "tuple",data:=.seq rest.toArray} he;refine wpAny_bind (wpAny_newObj_type (wpAny_bind (wpAny_bind (wpAny_field he₁ hd h0 (wpAny_bind (wpAny_setField he₁ hd hsz ?_))))) (by show rest.toArray.size<=sizeLine;rw[List.size_toArray];exact hrest));exact wpAny_letGo (wpAny_pure hq)
theorem AN (hbase:bm.contains (.type "BaseException")=true) (hh:A.handled=none)
  (hx:wpAny M A x (fun v s₁=>∃ e ob vs,v=.ref e/\s₁.heap.get? C=some (excClassObj nm q C N bs bm hdct sn sub ab col dd k0 k1 k2 k3 k5 newId)/\s₁.heap.get? e=some ob/\ob.cls=.ref C/\ob.data=.fields vs/\vs[1]?=some .none/\E (.ref e) s₁) E s) :
  wpAny M A (raiseStmt env (some x) none) Q E s:=by
 have hcB:(Value.ref C::bm).contains (.type "BaseException")=true:=by rw[List.contains_cons,hbase,Bool.or_true]
 unfold raiseStmt;refine wpAny_bind (wpAny_mono hx (fun v s₁ h₁=>?_) fun _ _ x=>x);obtain⟨e,⟨oc,od,odt,osl⟩,vs,rfl,hC,he,hc,hdt,hv,hE⟩:=h₁;dsimp only at hc hdt;subst hc hdt;obtain⟨hp,g,d,tk,os⟩:=s₁
 repeat (first|with_reducible refine wpAny_loadPart_at he ?_|with_reducible refine wpAny_loadPart_at hC ?_|(with_reducible refine wpAny_isSubtype_exc hC ?_;rw[hcB])|wp_step)
 rw[hv];refine wpAny_pure ?_;rw[if_neg (by simp)];exact wpAny_pure (wpAny_raiseNew_none hh hE)
theorem Wo {env:Env} {s:Shared} (Fn:ExcBaseFacts Bn newId inN bmN) (hBn:bmB.contains (.type Bn)=true) (F:ExcBaseFacts B nid initId bmB) {mN:Str->Option Value} {x:Str} {np cpos pos:Pos} {args:List Expr} {fI:Addr} {Q:Flow->Shared->Prop}
  (hbase:bm.contains (.type "BaseException")=true) (hh:A.handled=none) (hplain:(backTo cpos (starEach args env)).any (·.1)=false) (hni:mN "__init__"=some (.ref fI))
  (hx:wpAny (model prog w) A (eval (.Name x np) env) (fun f s₁=>f=.ref C/\wpAny (model prog w) A (evalArgs (.ref C) true (backTo cpos (starEach args env)) [])
   (fun a s₂=>a.kw=[]/\a.pos.length<=sizeLine/\s₂.heap.get? C=some (excClassObj nm q C N bs bm hdct sn sub ab col dd k0 k1 k2 k3 k5 newId)/\s₂.heap.Ns N mN/\OwnTail s₂.heap bmB bm/\(∃ oI,s₂.heap.get? fI=some oI/\oI.cls=.type "function") /\
    ∀ h' e,Heap.MadeExcOf s₂.heap h' e (.ref C) a.pos->wpAny (model prog w) (A.under (.builtin "type.__call__" ⟨.ref C::a.pos,[]⟩)) (call (.ref fI) (.ref e::a.pos)) (fun r s'=>r=.none/\∃ ob vs,s'.heap.get? C=some (excClassObj nm q C N bs bm hdct sn sub ab col dd k0 k1 k2 k3 k5 newId)/\s'.heap.get? e=some ob/\ob.cls=.ref C/\ob.data=.fields vs/\vs[1]?=some .none/\E (.ref e) s') E {s₂ with heap:=h'}) E s₁) E s) :
  wpAny (model prog w) A (exec (.Raise (some (.Call (.Name x np) args [] cpos)) none pos) env) Q E s:=by
 rw[arm_exec_Raise];refine wpAny_bind (wpAny_standAt (AN (C:=C) (nm:=nm) (q:=q) (N:=N) (bs:=bs) (bm:=bm) (hdct:=hdct) (sn:=sn) (sub:=sub) (ab:=ab) (col:=col) (dd:=dd) (k0:=k0) (k1:=k1) (k2:=k2) (k3:=k3) (k5:=k5) (newId:=newId) hbase hh (wpAny_bind (wpAny_mono (wpAny_Call_ofName (wpAny_mono hx (fun f s₁ h₁=>?_) fun _ _ x=>x)) (fun v s₃ h₃=>wpAny_bind (wpAny_standAt (wpAny_pure h₃))) fun _ _ x=>x))));obtain⟨rfl,h₁⟩:=h₁;unfold callWith;refine wpAny_bind (wpAny_holding (wpAny_mono h₁ (fun a s₂ h₂=>wpAny_bind (wpAny_standAt ?_)) fun _ _ x=>x));obtain⟨apos,akw⟩:=a;obtain⟨hkw,hlen,hC,hn,T,⟨oI,hfI,hfc⟩,h₂⟩:=h₂;obtain rfl:akw=[]:=hkw;obtain⟨hp,g,d,tk,os⟩:=s₂;simp only[hplain];refine wpAny_bind (wpAny_keeperOf_exc hC ?_);refine wpAny_bind (Xy Fn hBn F T hC hn hni hfI hfc (fun h' e hm=>wpAny_mono (h₂ h' e hm) (fun r s' hr=>⟨hr.1,wpAny_bind (wpAny_holding (wpAny_point (wpAny_pure ?_)))⟩) fun _ _ z=>z) hlen)
 obtain⟨ob,vs,c1,c2,c3,c4,c5,c6⟩:=hr.2;exact⟨e,ob,vs,rfl,c1,c2,c3,c4,c5,c6⟩
end
noncomputable def W5:List Value->Bool
 | .ref _::r=>W5 r
 | l=>l==bmV
theorem WG (self:Value):∀ {l:List Value},W5 l=true->refuseLoop self "__setattr__" l=pure ()
 | [],e=>by simp[W5,bmV] at e
 | v::r,e=>by
  have other:v::r=bmV->refuseLoop self "__setattr__" (v::r)=pure ():=fun z=>by rw[z];exact PySem.F.store_ValueError.passes self
  cases v with
  | ref c=>rw [refuseLoop_ref];exact WG self (l:=r) (by simpa[W5] using e)
  | _=>exact other (by simpa[W5] using e)
section
variable {prog:Program} {w:World} {A:Around} {E:Value->Shared->Prop} {K:Frag} {C x:Addr} {s:Shared} {R:Result->Shared->Prop} {cd:ClassData}
theorem Ep (X:K.In s.heap) (I:InstAt s.heap x ox C od) (hc:clsIn K C=some cd) (ho:W5 cd.mro=true) (hob:mroIn K C (.type "object")=some true) (ht:findIn K (.ref C) name=some none)
  (h:wpAny (model prog w) A.in1 (storeInOwnDict (.ref x) (.ref C) (.str name tk) name v false)
   (fun fin s'=>match fin with | .done f=>R (.ok f) s' | .again c'=>c'.quiet=true/\codeAny (model prog w) A c' R s') (fun e s'=>R (.error e) s') s) :
  codeAny (model prog w) A (.call (.builtin "object.__setattr__") ⟨[.ref x,.str name tk,v],[]⟩) R s:=by
 have SF:=PySem.F.store_object;have sub:Looks (model prog w) s.heap (isInstance (.ref x) (.type "object")) true:=I.type.andThen (looks_mroIn X hob);refine codeAny_call_builtin SF.slot.plain SF.entry (@check_slot (model prog w) _ _ s "object.__setattr__" "object" "__setattr__" (.ref x) [.str name tk,v] [] _ SF.kind SF.split sub (SF.args (.ref x) (.str name tk) v) ?_);have hm:Looks (model prog w) s.heap (mroOf (.ref C)) cd.mro:=(looks_clsIn X hc).andThen .now;have L3:Looks (model prog w) s.heap (storeTaker? none) none:=.now;rw[osa_eq,refuse_eq];refine wpAny_bind (wpAny_bind (I.type.here (wpAny_bind (hm.here ?_))));rw[WG _ ho];refine wpAny_pure (wpAny_bind (I.type.here (wpAny_bind ((looks_findIn X ht).here (wpAny_bind (L3.here ?_))))));exact h
theorem EN (X:K.In s.heap) (hx:s.heap.get? x=some ox) (hcl:ox.cls=.ref C) (hd:ox.dict=none) (hdt:ox.data=.fields vs)
  (hs:findIn K (.ref C) "__setattr__"=some (some (.builtin "object.__setattr__"))) (hc:clsIn K C=some cd) (hdc:cd.hasDict=true) (ho:W5 cd.mro=true) (hob:mroIn K C (.type "object")=some true) (ht:findIn K (.ref C) name=some none)
  (h:∀ h' t',h'.get? x=some {ox with dict:=some s.heap.objs.size}->h'.Ns1 s.heap.objs.size (fun y=>if y=name then some v else none)->(∀ b o,b≠x->s.heap.get? b=some o->h'.get? b=some o)->Q () {s with heap:=h',toks:=t'}) :
  wpAny (model prog w) A (setAttr (.ref x) name v) Q E s:=by
 obtain⟨oc,odi,odt,osl⟩:=ox;dsimp only at hcl hd hdt;subst hcl hd hdt;have I:InstAt s.heap x ⟨.ref C,none,.fields vs,osl⟩ C none:=⟨hx,rfl,rfl,trivial⟩;refine set_plain X I hs (Ep (s:={s with toks:=s.toks+1}) X I hc ho hob ht ?_);have hx₁:(s.heap.push {cls:=.type "dict",data:=.dict #[]}).get? x=some ⟨.ref C,none,.fields vs,osl⟩:=Heap.get?_push_of_some _ hx;have hxs:x≠s.heap.objs.size:=Nat.ne_of_lt (Heap.lt_size hx);refine wpAny_bind (wpAny_pure (wpAny_bind (wpAny_bind (wpAny_loadPart hx (wpAny_bind (Looks.here (s:={s with toks:=s.toks+1}) (looks_clsIn X hc) ?_))))));rw[hdc];show wpAny _ _ (if (!true || !typeHasDict (.ref C))=true then _ else _) _ _ _;rw[if_neg (by simp[typeHasDict])];refine wpAny_bind (wpAny_alloc' ?_);refine wpAny_bind (wpAny_update' hx₁ ?_);refine wpAny_pure ?_;have hgd:((s.heap.push {cls:=.type "dict",data:=.dict #[]}).update x fun o=>{cls:=o.cls,dict:=some s.heap.objs.size,data:=o.data,slots:=o.slots}).get? s.heap.objs.size
   = some {cls:=.type "dict",data:=.dict #[]} :=
  (Heap.get?_update_ne _ _ _ _ hxs.symm).trans (Heap.get?_push_at rfl rfl)
 have hnd:((s.heap.push {cls:=.type "dict",data:=.dict #[]}).update x fun o=>{cls:=o.cls,dict:=some s.heap.objs.size,data:=o.data,slots:=o.slots}).Ns s.heap.objs.size (fun _=>none) :=
  ⟨_,#[],_,hgd,rfl,fun e he=>absurd he (by simp),fun _=>rfl⟩
 refine wpAny_bind (wpAny_pure (wpAny_bind (wpAny_nsSet1 (Heap.Ns1.of_empty hnd) fun h' hn' hs=>?_)));obtain⟨oD,esD,epD,hoD,hdD,hcD⟩:=hn'.count (PySem.Within.cons name v PySem.Within.nil);refine wpAny_bind (wpAny_lookBehind hoD (by rw[hdD];exact pastItsLine_dict (Nat.le_trans hcD (by rw[List.length_cons,List.length_nil,sizeLine_eq];omega))) ?_);refine wpAny_pure (h h' _ ?_ hn' fun b o hb e=>?_)
 ·refine (hs.2 x hxs).trans (Heap.get?_update_self _ hx₁ rfl)
 ·exact (hs.2 b (Nat.ne_of_lt (Heap.lt_size e))).trans ((Heap.get?_update_ne _ _ _ _ hb).trans (Heap.get?_push_of_some _ e))
theorem EO (X:K.In s.heap) (F:ExcCls K C) (hx:s.heap.get? x=some ox) (hcl:ox.cls=.ref C) (hd:ox.dict=some dx) (hdt:ox.data=.fields vs) (hn:s.heap.Ns1 dx mA) (hv:mA name=some v) (hh:handedIn v=true)
  (hc:clsIn K C=some cd) (hdc:cd.hasDict=true) (ht:findIn K (.ref C) name=some none)
  (h:Q v {s with toks:=s.toks+1}):wpAny (model prog w) A (getAttr (.ref x) name true) Q E s:=by
 obtain⟨od,ho,hl⟩:=AY hn;have I:InstAt s.heap x ox C (some od):=⟨hx,hcl,by unfold notCls;rw[hdt],by rw[hd];exact ho⟩;refine wpAny_bind (wpAny_mkText (Jg (s:={s with toks:=s.toks+1}) X I F ?_));obtain⟨hp,g,d,t,os⟩:=s;have L0:=I.type (M:=model prog w);have L1:=looks_find (M:=model prog w) (r:=.value v) X I (by unfold findObj;rw[hc,Option.bind_some,ht];simp[W.ownOf,hdc,hl,hv]);unfold Builtin.«object.__getattribute__»;refine wpAny_bind (wpAny_pure (wpAny_bind ?_));show wpAny _ _ (pure _) _ _ _;refine wpAny_pure (wpAny_bind (L0.at (wpAny_bind (L1.at ?_))));refine wpAny_pure ?_;show wpAny _ _ (handedOut v) _ _ _;rw[handedOut_of hh];exact wpAny_pure h
end
noncomputable def Yi (n:Str):Str:=if n="NoText" then "part" else if n="NoLevel" then "number" else if n="NoCall" then "row" else "name"
noncomputable def J9 (f:Str) (b:List Stmt):Bool:=Y8 b fun s1 r=>BR s1 fun c1 ep=>Zp c1 fun f1 xs kw cp=>YJ f1 fun o1 m ap=>Yw o1 fun c p1=>Y8 xs fun a1 ys=>Yw a1 fun s p2=>Y8 ys fun a2 zs=>Yy a2 fun q j p3=>qStr q fun t=>qNil zs (qNil kw (Y8 r fun s2 r2=>qNil r2 (XD s2 fun tg v ap3=>Y8 tg fun t1 t2=>qNil t2 (YJ t1 fun o2 g ap2=>Yw o2 fun n2 p4=>Yw v fun x p5=>c == "CordError" && m == "__init__" && s == "self" && n2 == "self" && g==f&&x==f&&(ap.endLine==cp.line)))))
noncomputable def Ww (f:Str) (sc:Scope):Bool:=sc.kind==.function&&!sc.isCoroutine&&!sc.isGenerator&&(sc.names==[(("self":Str),NameKind.local),(f,.local),("CordError",.globalImplicit)])
noncomputable def Ut (f:Str) (p:Arguments):Bool:=p.posonlyargs.isEmpty&&(p.args.map (·.arg)==[("self":Str),f])&&p.vararg.isNone&&p.kwonlyargs.isEmpty&&p.kw_defaults.isEmpty&&p.kwarg.isNone
noncomputable def CU (K:Frag) (f:Str) (fd:FuncData):Bool:=(match fd.body with | .stmts b=>J9 f b|_=>false)&&Ww f fd.scope&&Ut f fd.params&&fd.globals==mainGlobals&&fd.builtins==builtinsNs&&fd.closure.isEmpty&&codeIn K fd.code fd.qualname &&
 (match fd.defaults with | .ref T=>(match K.lookup T with|some ⟨_,_,.seq its _,_⟩=>its.size==1|_=>false)|_=>false)
noncomputable def Vj (K:Frag) (f:Str) (fI:Addr):Bool:=match K.lookup fI with
 | some ⟨.type "function",_,.func fd,_⟩=>CU K f fd
 | _=>false
noncomputable def Uw (K:Frag) (C:Addr):Option Addr:=match K.lookup C with
 | some ⟨.type "type",_,.cls cd,sl⟩=>(match cd.mro,sl.toList with
  | .ref C'::bm,[_,_,_,_,some (.builtin n),_]=>if (C'==C&&n == "ValueError.__new__" && !cd.hasDel&&tailIn K bmV bm&&nsOkIn K cd.ns&&cd.hasDict&&W5 cd.mro) then (match nsIn K cd.ns "__init__" with|some (some (.ref f))=>some f|_=>none) else none
  | _,_=>none)
 | _=>none
noncomputable def JT (K:Frag) (n:Str) (D:Addr):Bool:=match Xx K "CordError",Uw K D with
 | some B,some fI=>(findIn K (.ref D) "__setattr__" == some (some (.builtin "object.__setattr__")))&&(findIn K (.ref D) (Yi n)==some none)&&readsIn K B (.type "type")
   && (match findCls K (.ref B) (.type "type") "__init__" with|some (.val v)=>v==.builtin "ValueError.__init__" | _=>false)&&(specialIn K (.ref B) "__getattribute__" == some (some (.builtin "type.__getattribute__")))&&keepIn K (.ref D)&&Vj K (Yi n) fI
 | _,_=>false
noncomputable def CV (K:Frag):Bool:=xInit.all fun n=>match Xx K n with
 | none=>true
 | some D=>JT K n D
structure InitAt (K:Frag) (n:Str) (D B fI:Addr):Prop where
 ex:Uw K D=some fI
 b:Xx K "CordError"=some B
 sa:findIn K (.ref D) "__setattr__"=some (some (.builtin "object.__setattr__"))
 nf:findIn K (.ref D) (Yi n)=some none
 rd:readsIn K B (.type "type")=true
 fc:findCls K (.ref B) (.type "type") "__init__"=some (.val (.builtin "ValueError.__init__"))
 sp:specialIn K (.ref B) "__getattribute__"=some (some (.builtin "type.__getattribute__"))
 kp:keepIn K (.ref D)=true
 fn:Vj K (Yi n) fI=true
theorem B3 {K:Frag} {n:Str} {D:Addr} (h:JT K n D=true):∃ B fI,InitAt K n D B fI:=by
 unfold JT at h;split at h
 next B fI e1 e2 =>
  simp only[Bool.and_eq_true,beq_iff_eq] at h;obtain⟨⟨⟨⟨⟨⟨h1,h2⟩,h3⟩,h4⟩,h5⟩,h6⟩,h7⟩:=h;split at h4
  next v e=>exact⟨B,fI,e2,e1,h1,h2,h3,by rw[e,beq_iff_eq.mp h4],h5,h6,h7⟩
  next=>cases h4
 next=>cases h
theorem Ey {K:Frag} {h:Heap} {N:Addr} {mg:Str->Option Value} {n:Str} {v:Value} (X:K.In h) (G:h.Ns N mg) (e:nsIn K N n=some (some v)):mg n=some v:=by
 obtain⟨o,es,ep,ho,hd,_,hf⟩:=G;unfold nsIn at e;split at e
 ·rename_i c d es' n' sl q
  have:=X _ _ q;rw[ho] at this;cases this;cases hd;split at e
  ·rename_i en he
   cases e;rw[<- hf];unfold nsFind findBy;rw[<- Array.find?_toList,he]
   rfl
  ·split at e<;>cases e
 ·cases e
theorem V0 {K:Frag} {h:Heap} {C fI:Addr} (X:K.In h) (q:Uw K C=some fI) {P:Prop}
  (go:∀ bm N nm q bs sn sub ab col dd k0 k1 k2 k3 k5 mN,h.get? C=some (excClassObj nm q C N bs bm true sn sub ab col dd k0 k1 k2 k3 k5 "ValueError.__new__")->h.Ns N mN->mN "__init__"=some (.ref fI)->OwnTail h bmV bm->∀ cd,clsIn K C=some cd->cd.hasDict=true->W5 cd.mro=true->P):P:=by
 unfold Uw at q;split at q
 next dd cd sl ho =>
  split at q
  next C' bm a0 a1 a2 a3 id a5 em es =>
   split at q
   next hc =>
    simp only[Bool.and_eq_true,beq_iff_eq,Bool.not_eq_true'] at hc;obtain⟨⟨⟨⟨⟨⟨z1,z2⟩,z3⟩,z4⟩,z5⟩,z6⟩,z7⟩:=hc;split at q
    next f ei =>
     cases q;have hci:clsIn K C=some cd:=by unfold clsIn;rw[ho]
     obtain⟨nm,bs,mro,ns,qn,hd,sn,sub,ab,col,del⟩:=cd;have hsl:sl=#[a0,a1,a2,a3,some (.builtin "ValueError.__new__"),a5]:=by
      rw[z2] at es;rw[<- es]
     simp only at em z3 z5 z6 z7 ei hci;subst z1 em z3 hsl z6;refine go bm ns nm qn bs sn sub ab col dd a0 a1 a2 a3 a5 _ (X _ _ ho) (.of_isNs (isNs_of_in X z5)) ?_ (tail_of_in X z4) _ hci rfl z7;exact Ey X (.of_isNs (isNs_of_in X z5)) ei
    next=>cases q
   next=>cases q
  next=>cases q
 next=>cases q
theorem EF (hbase:attributeBase o m env (eval o env)=eval o env) (hpl:(backTo pos (starEach args env)).any (·.1)=false) (hn:args.length<30) (hline:(apos.endLine==pos.line)=true) :
  eval (.Call (.Attribute o m apos) args [] pos) env=(do
   let ov <- eval o env
   standAt apos.atName
   let (f,first) <- holding [ov] (getMethod ov m (do let b <- importBound o env;pure (b.getD true)))
   callWith pos f first (backTo pos (starEach args env)) (backToKw pos (keywordEach [] env))):=by
 have hf:methodCallForm (args.length+([]:List Keyword).length) (backTo pos (starEach args env)) (backToKw pos (keywordEach [] env))=true:=by
  have h1:(backTo pos (starEach args env)).all (fun x=>!x.1)=true:=by
   rw[List.all_eq_true];intro x hx;have:=List.any_eq_false.mp hpl x hx
   simpa using this
  have h2:backToKw pos (keywordEach [] env)=[]:=rfl;unfold methodCallForm;rw[h1,h2]
  simpa using hn
 rw[arm_eval_Call,hbase];unfold methodCall calleeOf methodCallPos;rw[hf,hline]
 rfl
theorem Bz (k:∀ b o,b≠e->h.get? b=some o->h'.get? b=some o):Un fs [e] H H h h' where
 keep:=fun b o q _ _ hx=>k b o (fun z=>hx (by simp[z])) q
 slot:=fun b o q _ _ hx=>⟨o.slots,k b o (fun z=>hx (by simp[z])) q⟩
 free:=fun _ _ _ n _=>n
 there:=fun b o q hx=>⟨o,k b o (fun z=>hx (by simp[z])) q⟩
 tups:=fun _ _ q=>q
 frzs:=fun _ _ _ q=>q
 tbls:=fun b ps q=>⟨#[],by simpa using q⟩
theorem As (hok:HOk P w H h) (hH:H e=none) (k:∀ b o,b≠e->h.get? b=some o->h'.get? b=some o):HOk P w H h':=fun a o q =>
 (hok a o q).stay (fun c u hc r=>k c u (fun z=>by
  subst z;rcases hc with rfl|hc
  ·rw[hH] at q;cases q
  ·rw[hH] at hc;cases hc) r) (fun _ q=>q) fun _ _ q=>q
theorem XJ (I:L2.Inv X pins σ H s) (h:∀ p∈X.pn++pl,s.heap.get? p.1=some p.2/\H p.1=none/\p.1≠X.env.locals/\p.1 ∉ X.fs/\∀ v,p.2.data≠.cell v):L2.Inv X pl σ H s :=
 ⟨I.ok,I.os,I.bare,I.base,I.loc,I.cell,I.free,I.freeC,h,I.hok,I.len⟩
structure InitEnd (P:Program) (w:World) (outer:List Env) (H:Hp) (s:Shared) (e D:Addr) (f:Str) (v:V) (vs0:Array Value) (s':Shared):Prop where
 os:s'.os=s.os
 bare:AllBare s'.gens
 un:Un (frs outer) [e] H H s.heap s'.heap
 hok:HOk P w H s'.heap
 at_:∃ ob ws d u,s'.heap.get? e=some ob/\ob.cls=.ref D/\ob.dict=some d/\ob.data=.fields ws/\ws[1]?=some .none/\ws[2]?=some .none/\ws.size=vs0.size/\RelV v u/\s'.heap.Ns1 d (fun y=>if y=f then some u else none)/\s.heap.objs.size<=d/\H d=none
theorem InitEnd.on {P:Program} {w:World} {outer:List Env} {H:Hp} {s:Shared} {e D:Addr} {f:Str} {v:V} {vs0:Array Value} {s':Shared} (E:InitEnd P w outer H s e D f v vs0 s') {Z:Prop} (go:∀ ob ws d u,s'.heap.get? e=some ob->ob.cls=.ref D->ob.dict=some d->ob.data=.fields ws->ws[1]?=some .none->ws[2]?=some .none->ws.size=vs0.size->RelV v u->s'.heap.Ns1 d (fun y=>if y=f then some u else none)->s.heap.objs.size<=d->H d=none->Z):Z:=by
 obtain⟨ob,ws,d,u,a1,a2,a3,a4,a5,a6,a7,a8,a9,b1,b2⟩:=E.at_;exact go ob ws d u a1 a2 a3 a4 a5 a6 a7 a8 a9 b1 b2
noncomputable def IB (f:Str) (b:List Stmt):Prop:=∃ (p1 ap p2:Pos) (t:Str) (j:Nat) (p3 cp ep p4 ap2 p5 ap3:Pos),b=[.Expr (.Call (.Attribute (.Name "CordError" p1) "__init__" ap) [.Name "self" p2,.Constant (.str t) j p3] [] cp) ep,.Assign [.Attribute (.Name "self" p4) f ap2] (.Name f p5) ap3]/\(ap.endLine==cp.line)=true
theorem J8 {f:Str} {b:List Stmt} (h:J9 f b=true):IB f b:=by
 refine Y7 b h fun s1 r h=>?_;refine gExpr s1 h fun c1 ep h=>?_;refine gCall c1 h fun f1 xs kw cp h=>?_;refine gAttribute f1 h fun o1 m ap h=>?_;refine gNm o1 h fun c p1 h=>?_;refine Y7 xs h fun a1 ys h=>?_;refine gNm a1 h fun s p2 h=>?_;refine Y7 ys h fun a2 zs h=>?_;refine gConstant a2 h fun q j p3 h=>?_;refine gStr q h fun t h=>?_;refine gNil zs h fun h=>?_;refine gNil kw h fun h=>?_;refine Y7 r h fun s2 r2 h=>?_;refine gNil r2 h fun h=>?_;refine gAssign s2 h fun tg v ap3 h=>?_;refine Y7 tg h fun t1 t2 h=>?_;refine gNil t2 h fun h=>?_;refine gAttribute t1 h fun o2 g ap2 h=>?_;refine gNm o2 h fun n2 p4 h=>?_;refine gNm v h fun x p5 h=>?_;simp only[Bool.and_eq_true,beq_iff_eq] at h;obtain⟨⟨⟨⟨⟨⟨rfl,rfl⟩,rfl⟩,rfl⟩,rfl⟩,rfl⟩,z⟩:=h
 delta IB
 exact⟨_,_,_,_,_,_,_,_,_,_,_,_,rfl,beq_iff_eq.mpr z⟩
theorem GR (n:Str):Yi n≠"self"/\Yi n≠"CordError"/\Yi n≠"__debug__"/\Yi n≠"__classdict__":=by
 unfold Yi;split
 ·decide
 split
 ·decide
 split
 ·decide
 ·decide
theorem GS (n:Str):Yi n="part"\/Yi n="number"\/Yi n="row"\/Yi n="name":=by
 unfold Yi;split
 ·exact .inl rfl
 split
 ·exact .inr (.inl rfl)
 split
 ·exact .inr (.inr (.inl rfl))
 ·exact .inr (.inr (.inr rfl))
theorem JR {f:Str} {sc:Scope} (hf:f≠"self") (h:Ww f sc=true):FnScope ["self",f] ["self",f] sc/\sc.names=[(("self":Str),NameKind.local),(f,.local),("CordError",.globalImplicit)]:=by
 unfold Ww at h;simp only[Bool.and_eq_true,beq_iff_eq,Bool.not_eq_true'] at h;obtain⟨⟨⟨h1,h2⟩,h3⟩,h4⟩:=h;refine⟨⟨h1,h2,h3,?_,rfl,fun x hx=>?_,fun y hy=>?_⟩,h4⟩
 ·simp[Ne.symm hf]
 ·rw[h4]
  simp only[List.mem_cons,List.not_mem_nil,or_false] at hx;rcases hx with rfl|rfl
  ·exact .inl rfl
  ·have hb:(x==("self":Str))=false:=by simpa using hf
   exact .inl (by simp only[List.lookup_cons,hb];simp)
 ·rw[h4] at hy
  simp only[List.mem_cons,List.not_mem_nil,or_false] at hy;rcases hy with rfl|rfl|rfl<;>exact (fun z=>nomatch z)
theorem JS {K:Frag} {s:Shared} {f name qual:Str} {par:Arguments} {body:List Stmt} {sc:Scope} {dV kw doc pm:Value} {an:Option Addr} {cd ct:Value} {a b:Value} (X:K.In s.heap) (hf:f="part"\/f="number"\/f="row"\/f="name") (hp:Ut f par=true)
  (hd:(match dV with | .ref T=>(match K.lookup T with|some ⟨_,_,.seq its _,_⟩=>its.size==1|_=>false)|_=>false)=true) :
  BindsTo s (PySem.W.fnOf name qual par body sc dV kw doc pm an cd ct) ⟨[a,b],[]⟩ ((["self",f]:List Str).zip [a,b]):=by
 split at hd
 next T =>
  split at hd
  next cc dd its mm sl lk =>
   unfold Ut at hp;simp only[Bool.and_eq_true,beq_iff_eq,List.isEmpty_iff,Option.isNone_iff_eq_none] at hp;obtain⟨po,ar,va,ko,kd,ka,df⟩:=par;obtain⟨⟨⟨⟨⟨rfl,h2⟩,rfl⟩,rfl⟩,rfl⟩,rfl⟩:=hp;obtain⟨n1,q1,n2,q2,rfl⟩:∃ n1 q1 n2 q2,ar=[⟨"self",n1,q1⟩,⟨f,n2,q2⟩]:=by
    rcases ar with _|⟨⟨a1,n1,q1⟩,_|⟨⟨a2,n2,q2⟩,_|⟨a3,r⟩⟩⟩<;>simp at h2
    exact⟨n1,q1,n2,q2,by rw[h2.1,h2.2]⟩
   have sz:its.size=1:=by simpa using hd
   obtain⟨d0,rfl⟩:∃ d0,its=#[d0]:=by
    obtain⟨l⟩:=its;rcases l with _|⟨d0,_|⟨d1,r⟩⟩<;>simp at sz
    exact⟨d0,rfl⟩
   rcases hf with rfl|rfl|rfl|rfl<;>exact .of_defaults rfl (X _ _ lk) rfl rfl rfl
  next=>cases hd
 next=>cases hd
theorem UT {P:Program} {w:World} {K:Frag} {mg:Str->Option Value} {base:Heap} {A:Around} {outer:List Env} {s:Shared} {H:Hp} {n:Str} {D B fI e t0:Addr} {oe:Obj} {vs:Array Value} {u:Value} {vv:V} {R:Result->Shared->Prop}
  (T:InitAt K n D B fI) (hob:mroIn K D (.type "object")=some true) (hm:mg "CordError"=some (.ref B)) (hdep:A.depth<recursionLimit) (e0:Env0 P w K mg base A outer s H)
  (he:s.heap.get? e=some oe) (hc:oe.cls=.ref D) (hdd:oe.dict=none) (hdt:oe.data=.fields vs) (h0:vs[0]?=some (.ref t0)) (h1:vs[1]?=some .none) (h2:vs[2]?=some .none) (hH:H e=none) (hb:base.get? e=none) (hfr:e ∉ frs outer) (rv:RelV vv u)
  (hq:∀ s',InitEnd P w outer H s e D (Yi n) vv vs s'->R (.ok (.ret .none)) s') :
  codeAny (model P w) A (.call (.ref fI) ⟨[.ref e,u],[]⟩) R s:=by
 have KX:K.In s.heap:=e0.mod.kin.keeps fun b o e=>(e0.bs b o e).1;have lim:s.heap.NoLimit:=e0.mod.nolimit.keeps fun b o e=>(e0.bs b o e).1;have tf:=T.fn;unfold Vj at tf;split at tf
 next od fd osl lk =>
  unfold CU at tf;simp only[Bool.and_eq_true,beq_iff_eq,List.isEmpty_iff] at tf;obtain⟨⟨⟨⟨⟨⟨⟨tb,tsc⟩,tpar⟩,tgl⟩,tbl⟩,tcl⟩,tcd⟩,tdf⟩:=tf;obtain⟨fname,fqual,fpar,fbody,fsc,fgl,fcl,fdf,fkw,fdoc,fpm,fan,fcd,fct,fbl⟩:=fd;simp only at tb tsc tpar tgl tbl tcl tcd tdf;subst tgl tbl tcl;split at tb
  next body =>
   have nf:=GR n;obtain⟨S,hnm⟩:=JR nf.1 tsc;obtain⟨p1,ap,p2,t,j,p3,cp,ep,p4,ap2,p5,ap3,rfl,hline⟩:=J8 tb;refine codeAny_call_function hdep (KX _ _ lk) rfl S.co S.gen rfl (PySem.W.codeRec_of KX tcd) (JS KX (GS n) tpar tdf _ _ _ _ ?_);refine wpAny_newFunctionEnv_cells S.kind (fun y hy=>?_) fun env he s1 x=>?_
   ·obtain⟨y1,y2⟩:=y
    rcases S.par y1 (List.of_mem_zip hy).1 with q|q
    ·exact .inl q
    ·exact .inr ⟨q,PySem.W.cellsFrom_some _ _ _ (.inl q)⟩
   subst he;refine⟨lim.keeps x.toInCall.keep,codeAny_func ?_⟩;have I:=VO (A:={A with handled:=none}) (CX:=fun _ _ _ _ e s''=>R (.error e) s'') (E:=fun _ _ _=>False) (vs:=[.ref e,vv]) (us:=[.ref e,u]) S rfl ⟨e0.frames,e0.mod,e0.bs,e0.bsz,e0.funs,e0.frf,e0.hok,e0.bare⟩ rfl (.cons rfl (.cons rv .nil)) x;obtain⟨X,hX⟩:∃ X:Cx,X={cxOf (fun _ _ _ _ e s''=>R (.error e) s'') P w K mg base ["self",Yi n] fqual fsc fI fcd A outer s H (fun _ _ _=>False) with ex:=[e],calm:=false}:=⟨_,rfl⟩;have lts:=Heap.lt_size he;have Ie:L2.Inv X [] (start ([("self":Str),Yi n]:List Str) [.ref e,vv]) H s1:=by
    rw[hX];have ok:=I.ok;refine⟨⟨ok.mod,ok.kind,ok.glob,ok.blt,ok.above,ok.inj,ok.has,ok.cab,fun z=>(by cases z),Around.frames_deeper e0.frames,ok.stk,fun b hb'=>?_,ok.bs,ok.bsz,fun b o q hb'=>?_,fun b hb'=>?_,ok.funs,ok.frf⟩,I.os,I.bare,I.base.mono (fun _ z=>z) (by simp[cxOf]),I.loc,I.cell,I.free,I.freeC,I.pin,I.hok,I.len⟩
    ·obtain rfl:b=e:=by simpa using hb'
     exact⟨Nat.ne_of_lt (Nat.lt_of_lt_of_le lts ok.above),fun y c q=>Nat.ne_of_gt (Nat.lt_of_lt_of_le lts (ok.cab y c rfl q))⟩
    ·obtain rfl:b=e:=by simpa using hb'
     exact absurd ((show base.get? b=some o from q).symm.trans hb) (by simp)
    ·obtain rfl:b=e:=by simpa using hb'
     exact hfr
   have eN:X.N=([("self":Str),Yi n]:List Str):=by rw[hX];rfl
   have escope:X.env.scope=fsc:=by rw[hX];rfl
   have eenv:X.env=envOfC fqual fsc s.heap.objs.size fI fcd:=by rw[hX];rfl
   have eA:X.A=A.deeper (envOfC fqual fsc s.heap.objs.size fI fcd):=by rw[hX];rfl
   have eM:model X.prog X.w=model P w:=by rw[hX];rfl
   have eK:X.K=K:=by rw[hX];rfl
   have emg:X.mg=mg:=by rw[hX];rfl
   have eex:X.ex=[e]:=by rw[hX]
   have efs:X.fs=frs outer:=by rw[hX];rfl
   have epn:X.pn=[]:=by rw[hX];rfl
   have eloc:X.env.locals=s.heap.objs.size:=by rw[eenv];rfl
   have exe:X.xe=fun e' s'=>wpAny (model P w) (A.deeper (envOfC fqual fsc s.heap.objs.size fI fcd)) (leaving (envOfC fqual fsc s.heap.objs.size fI fcd) e') (fun _ s''=>R (.error e') s'') (fun e'' s''=>R (.error e'') s'') s':=by rw[hX];rfl
   have es0:X.s₀=s:=by rw[hX];rfl
   have eH0:X.H₀=H:=by rw[hX];rfl
   have eP:X.prog=P:=by rw[hX];rfl
   have eW:X.w=w:=by rw[hX];rfl
   clear hX;have hvs:Vis X.env.scope "self":=.inl (by rw[escope,hnm];rfl);have hb0:(Yi n==("self":Str))=false:=by simpa using nf.1
   have hvf:Vis X.env.scope (Yi n):=.inl (by rw[escope,hnm];simp only[List.lookup_cons,hb0];simp);have hgl:Gl X "CordError":=by
    show X.env.scope.names.lookup _=_;rw[escope,hnm];have hb:(("CordError":Str)==Yi n)=false:=by simpa using Ne.symm nf.2.1
    have hb2:(("CordError":Str)==("self":Str))=false:=by decide
    simp only[List.lookup_cons,hb,hb2];simp
   have pin1:∀ {ob:Obj} {s2:Shared} {H2:Hp} {ws:Array Value},s2.heap.get? e=some ob->H2 e=none->ob.data=.fields ws->∀ p∈X.pn++[(e,ob)],s2.heap.get? p.1=some p.2/\H2 p.1=none/\p.1≠X.env.locals/\p.1 ∉ X.fs/\∀ v,p.2.data≠.cell v:=fun {ob s2 H2 ws} q1 q2 q3 p hp=>by
    rw[epn,List.nil_append,List.mem_singleton] at hp;subst hp;exact⟨q1,q2,by rw[eloc];exact Nat.ne_of_lt lts,by rw[efs];exact hfr,fun v z=>by rw[q3] at z;cases z⟩
   have pin0:∀ {s2:Shared} {H2:Hp},∀ p∈X.pn++([]:List (Addr×Obj)),s2.heap.get? p.1=some p.2/\H2 p.1=none/\p.1≠X.env.locals/\p.1 ∉ X.fs/\∀ v,p.2.data≠.cell v:=fun {s2 H2} p hp=>by
    rw[epn] at hp;cases hp
   have chg:∀ b∈[e],(b∈X.ex\/X.s₀.heap.objs.size<=b)/\b≠X.env.locals/\(∀ x c,X.env.cells.lookup x=some c->c≠b)/\∀ p∈X.pn++([]:List (Addr×Obj)),p.1≠b:=fun b hb'=>by
    have:=Ie.ok.exf b (by rw[eex];exact hb');exact⟨.inl (by rw[eex];exact hb'),this.1,this.2,fun p hp=>by rw[epn] at hp;cases hp⟩
   have KIn:∀ {pl:List (Addr×Obj)} {σ2:L2.St} {H2:Hp} {s2:Shared},L2.Inv X pl σ2 H2 s2->K.In s2.heap:=fun J=>eK ▸ J.kIn;have I1:=XJ Ie (pin1 (x.toInCall.keep e oe he) hH hdt);show wpAny (model P w) (A.deeper (envOfC fqual fsc s.heap.objs.size fI fcd)) (execs _ (envOfC fqual fsc s.heap.objs.size fI fcd)) _ (fun e' s'=>wpAny (model P w) (A.deeper (envOfC fqual fsc s.heap.objs.size fI fcd)) (leaving (envOfC fqual fsc s.heap.objs.size fI fcd) e') (fun _ s''=>R (.error e') s'') (fun e'' s''=>R (.error e'') s'') s') _;rw[<- exe,<- eM,<- eA,<- eenv];have hmX:X.mg "CordError"=some (.ref B):=by rw[emg];exact hm
   generalize hσ:start ([("self":Str),Yi n]:List Str) [.ref e,vv]=σ at I1 Ie;have hσ0:σ[0]?=some (some (.ref e)):=by rw[<- hσ];rfl
   have hσ1:σ[1]?=some (some vv):=by rw[<- hσ];rfl
   have hN0:X.N[0]?=some ("self":Str):=by rw[eN];rfl
   have hN1:X.N[1]?=some (Yi n):=by rw[eN];rfl
   refine wpAny_execs_cons (wpAny_Expr_any ?_ Ie.quiet rfl);refine PySem.W.methodCall_KW (Zu I1 hgl hmX ?_) (EF rfl rfl (by simp) hline);refine method_cls (KIn I1) T.sp (cls_value (KIn I1) T.rd T.fc (by decide +kernel) ?_);have I2:=I1.tok (s1.toks+1);refine PyProof.Rows.callWith_builtin1 (thn ((WV (XU hN0 hvs) (WV Wq JH)) cp [(e,oe)] _ σ H (fun vs H1=>H1=H/\∃ v2,vs=[.ref e,v2]) I2 ⟨_,hσ0,⟨rfl,_,rfl⟩⟩) ?_) rfl rfl;rintro us s3 ⟨vs3,H3,I3,r3,rfl,v2,rfl⟩;obtain⟨u0,us,rfl,ra,rb⟩:∃ u0 us',us=u0::us'/\RelV (.ref e) u0/\Vals [v2] us':=by cases r3 with|cons a b=>exact⟨_,_,rfl,a,b⟩
   obtain rfl:u0=Value.ref e:=ra;obtain⟨u2,rfl⟩:∃ u2,us=[u2]:=by cases rb with|cons a b=>cases b;exact⟨_,rfl⟩
   refine V0 (KIn I3) T.ex fun bm Nn nm qn bs sn sub ab col ddc k0 k1 k2 k3 k5 mN hC hNs hni OT cd hci hdc hpm=>?_;have p3:=I3.pin (e,oe) (by simp);have sz0:0<vs.size:=(Array.getElem?_eq_some_iff.mp h0).1;have sz1:1<vs.size:=(Array.getElem?_eq_some_iff.mp h1).1;obtain⟨hp3,g3,d3,t3,os3⟩:=s3;refine CT (F:=PySem.F.excBase_ValueError) (T:=OT) hC p3.1 hc hdt h0 ?_ (by simp[sizeLine_eq]);generalize hh4:(hp3.push {cls:=.type "tuple",data:=.seq [u2].toArray}).update e (Obj.mapFields (·.setIfInBounds 0 (.ref hp3.objs.size)))=h4;have k4:∀ b o,b≠e->hp3.get? b=some o->h4.get? b=some o:=fun b o hb' q=>by
    rw[<- hh4,Heap.get?_update_other _ _ (Ne.symm hb')];exact Heap.get?_push_of_some _ q
   have d4:=Obj.data_mapFields hdt (·.setIfInBounds 0 (.ref hp3.objs.size));have e4:h4.get? e=some (oe.mapFields (·.setIfInBounds 0 (.ref hp3.objs.size))):=by
    rw[<- hh4];exact Heap.get?_update_self _ (Heap.get?_push_of_some _ p3.1) (Obj.isFreed_of_fields d4)
   have I4:L2.Inv X [] σ H3 ⟨h4,g3,d3,t3,os3⟩:=(XJ I3 pin0).call' (s':=⟨h4,g3,d3,t3,os3⟩) (ch:=[e]) rfl (Bz k4) (As I3.hok hH k4) I3.bare chg;have I5:=XJ I4 (pin1 e4 hH d4);refine wpAny_execs_cons (plainObj_wpAny_Assign_Attribute (thn (XU hN1 hvf (by simpa using nf.2.2.1) (by simpa using nf.2.2.2) [(e,_)] _ σ H3 (fun v H'=>H'=H3/\v=vv) I5 ⟨_,hσ1,rfl,rfl⟩) ?_) rfl);rintro u5 s5 ⟨v5,H5,I6,r5,rfl,rfl⟩;refine thn (XU hN0 hvs %[|4] %[|4] [(e,_)] _ σ H5 (fun v H'=>H'=H5/\v=.ref e) I6 ⟨_,hσ0,rfl,rfl⟩) ?_;rintro u6 s6 ⟨v6,H6,I7,r6,rfl,rfl⟩;obtain rfl:u6=Value.ref e:=r6;have p7:=I7.pin (e,_) (by rw[epn];exact List.mem_cons_self);refine EN (KIn I7) p7.1 (by rw[Obj.cls_mapFields];exact hc) (by rw[ZG];exact hdd) d4 T.sa hci hdc hpm hob T.nf fun h8 t8 e8 n8 k8=>?_;have I8:L2.Inv X [] σ H6 ⟨h8,s6.gens,s6.drawn,t8,s6.os⟩:=(XJ I7 pin0).call' (s':=⟨h8,s6.gens,s6.drawn,t8,s6.os⟩) (ch:=[e]) rfl (Bz k8) (As I7.hok hH k8) I7.bare chg
   refine wpAny_execs_nil (hq _ ⟨I8.os.trans (by rw[es0]),I8.bare,?_,?_,_,_,s6.heap.objs.size,u5,e8,by show _=_;rw[Obj.cls_mapFields];exact hc,rfl,d4,?_,?_,?_,r5,n8,?_,?_⟩)
   ·have:=I8.base
    rw[efs,eex,eH0,es0] at this;exact this
   ·have:=I8.hok
    rw[eP,eW] at this;exact this
   ·rw[Array.getElem?_setIfInBounds_ne %[|4]];exact h1
   ·rw[Array.getElem?_setIfInBounds_ne %[|4]];exact h2
   ·simp
   ·have:=I7.sz
    rw[es0] at this;exact this
   ·exact I7.hok.fresh %[|3]
  next=>cases tb
 next=>cases tf
noncomputable def Cy (K:Frag):Bool:=xNames.all fun n=>match Xx K n with
 | none=>true
 | some D=>kitOne K (.type "NoneType") (.ref D)==some false
noncomputable def Zj (K:Frag):Bool:=Bw K&&FC K&&(CV K&&Cy K)
theorem U9 {K:Frag} (t:Zj K=true):Bw K=true/\FC K=true/\CV K=true/\Cy K=true:=by
 unfold Zj at t;simp only[Bool.and_eq_true] at t;exact⟨t.1.1,t.1.2,t.2⟩
section
variable {K:Frag} {n c:Str} {C D:Addr}
theorem YA (t:Zj K=true) (hn:n∈xNames) (h:YN K n D):ExcCls K D/\(xPlain.contains n=true->excIn K D bmV "ValueError.__new__"=true)/\(∀ T,(T="int"\/T="bool"\/T="str"\/T="tuple"\/T="list"\/T="dict"\/T="ValueError")->kitOne K (.ref D) (.type T)=some (T == "ValueError")) /\
  ∀ c C,c∈xNames->YN K c C->exmOne K (.ref D) (.ref C)=some (ZR n c)/\kitOne K (.ref D) (.ref C)=some (ZR n c):=by
 have t:=(U9 t).1;unfold Bw at t;have r:=List.all_eq_true.mp t n hn;rw[Wh h] at r;simp only[Bool.and_eq_true,beq_iff_eq,Bool.or_eq_true,Bool.not_eq_true'] at r;obtain⟨⟨⟨⟨r1,r2⟩,r3⟩,r3b⟩,r4⟩:=r;unfold Av at r1;simp only[Bool.and_eq_true,beq_iff_eq] at r1;obtain⟨⟨⟨⟨⟨⟨⟨q1,q2⟩,q3⟩,q4⟩,q5⟩,q6⟩,q7⟩,q8⟩:=r1;refine⟨⟨q1,q2,q3,q4,q5,q6,q7,q8⟩,fun z=>?_,fun T hT=>?_,fun c C hc hC=>?_⟩
 ·rcases r2 with r2|r2
  ·rw[z] at r2;cases r2
  ·exact r2
 ·have rT:∀ T∈["int","bool","str","tuple","list","dict"],kitOne K (.ref D) (.type T)=some false:=fun T hT=>beq_iff_eq.mp (List.all_eq_true.mp r3b T hT)
  rcases hT with rfl|rfl|rfl|rfl|rfl|rfl|rfl
  all_goals first|exact r3|exact rT _ %[|4]
 ·have r:=List.all_eq_true.mp r4 c hc
  rw[Wh hC] at r
  simpa only [Bool.and_eq_true,beq_iff_eq] using r
theorem Cw (t:Zj K=true) (hn:n∈xNames) (h:YN K n D):kitOne K (.type "NoneType") (.ref D)=some false:=by
 have t:=(U9 t).2.2.2;unfold Cy at t;have r:=List.all_eq_true.mp t n hn;rw[Wh h] at r;exact beq_iff_eq.mp r
theorem Vk (t:Zj K=true) (hn:n∈xInit) (h:YN K n D):∃ B fI,InitAt K n D B fI:=by
 have t:=(U9 t).2.2.1;unfold CV at t;have r:=List.all_eq_true.mp t n hn;rw[Wh h] at r;exact B3 r
end
end DL
end
noncomputable section
namespace DL
open PySem PySem.Spec PyProof.Rows L2
inductive D where
 | non|bl (b:Bool)|int (i:Int)|str (x:Str)|ty (n:String)
 | tup (ds:List D)|fz (ds:List D)|lst (a:Addr)|dct (a:Addr)|ref (a:Addr)
 | exc (n:Str) (x:D)|cls (n:Str)
 | fn (n:Str)
 | sd (xs:List Str) (ds:List D)
 | fd (xs:List Str) (ds:List D)
 deriving Inhabited
inductive MO where
 | ls (ds:List D)
 | dk (kvs:List (Key×D))
 | ob (n:Str) (fs:List (Str×D))
abbrev Mem:=Addr->Option MO
abbrev DSt:=List (Option D)
abbrev DK:=D->Mem->Prop
noncomputable def Mem.upd (M:Mem) (a:Addr) (o:MO):Mem:=fun b=>if b=a then some o else M b
theorem Yh {M:Mem} {a:Addr} {o:MO}:M.upd a o a=some o:=if_pos rfl
theorem YO {M:Mem} {a b:Addr} {o:MO} (h:b≠a):M.upd a o b=M b:=if_neg h
noncomputable def MExt (M M':Mem):Prop:=∀ a o,M a=some o->M' a=some o
theorem MExt.refl (M:Mem):MExt M M:=fun _ _ h=>h
theorem MExt.trans {M M1 M2:Mem} (a:MExt M M1) (b:MExt M1 M2):MExt M M2:=fun c o h=>b c o (a c o h)
theorem MExt.new {M:Mem} {p:Addr} {o:MO} (h:M p=none):MExt M (M.upd p o):=fun a u e=>by
 have:a≠p:=fun z=>by rw[z,h] at e;cases e
 rw[YO this];exact e
noncomputable def alloc (M:Mem) (o:MO) (Q:Addr->Mem->Prop):Prop:=∀ p M',M p=none->MExt M M'->M' p=some o->Q p M'
theorem alloc.at (h:alloc M o Q) (hp:M p=none):Q p (M.upd p o):=h p _ hp (.new hp) Yh
noncomputable def SqF (K:Frag) (H:Hp) (a:Addr) (xs:List V):Prop :=
 (∃ o,H a=some (.frz o (.lst xs))) \/
  ∃ (o:Obj) (its:Array Value) (n:Nat),K.lookup a=some o/\o.cls=.type "list"/\o.dict=none/\o.data=.seq its n/\its.size<=sizeLine/\Vals xs its.toList
theorem SqF.sq {K:Frag} {H:Hp} {a:Addr} {xs:List V} (h:SqF K H a xs):SqL K H a xs:=by
 rcases h with ⟨o,h⟩|h
 ·exact .inl (.inr ⟨o,h⟩)
 ·exact .inr h
inductive EntK:List DictEntry->List Str->List Value->Prop
 | nil:EntK [] [] []
 | cons {e:DictEntry} {x:Str} {t:Tok} {es:List DictEntry} {xs:List Str} {us:List Value} (k:e.key=.str x t) (r:EntK es xs us):EntK (e::es) (x::xs) (e.val::us)
noncomputable def TabK (K:Frag) (a:Addr) (xs:List Str) (vs:List V):Prop :=
 (a==sysModules)=false/\∃ (o:Obj) (es:Array DictEntry) (ep:Nat) (us:List Value),K.lookup a=some o/\o.ExactDict/\o.data=.dict es ep/\EntK es.toList xs us/\Vals vs us
noncomputable def fdK (xs:List Str) (vs:List V):List (Key×V):=(xs.zip vs).map fun p=>(Sum.inr p.1,p.2)
noncomputable def FdK (H:Hp) (a:Addr) (xs:List Str) (vs:List V):Prop:=xs.length=vs.length/\∃ o,H a=some (.frz o (.dK (fdK xs vs)))
noncomputable def Z4 (a C:Addr) (dd:Option Addr) (h:Heap):Prop:=∃ ob vs,h.get? a=some ob/\ob.cls=.ref C/\ob.dict=dd/\ob.data=.fields vs
noncomputable def ZJ (d:Addr) (f:Str) (v:V) (h:Heap):Prop:=∃ u,RelV v u/\h.Ns1 d (fun y=>if y=f then some u else none)
mutual
inductive RelD (K:Frag) (H:Hp):V->D->Prop
 | non:RelD K H .non .non
 | bl (b:Bool):RelD K H (.bl b) (.bl b)
 | int (i:Int):RelD K H (.int i) (.int i)
 | str (x:Str):RelD K H (.str x) (.str x)
 | ty (n:String):RelD K H (.ty n) (.ty n)
 | tup {a:Addr} {vs:List V} {ds:List D} (h:SqT K H a vs) (r:RelDs K H vs ds):RelD K H (.ref a) (.tup ds)
 | fz {a:Addr} {vs:List V} {ds:List D} (h:SqF K H a vs) (r:RelDs K H vs ds):RelD K H (.ref a) (.fz ds)
 | lst (a:Addr):RelD K H (.ref a) (.lst a)
 | dct (a:Addr):RelD K H (.ref a) (.dct a)
 | ref (a:Addr):RelD K H (.ref a) (.ref a)
 | cls {C:Addr} {n:Str} (hn:n∈xNames) (hc:YN K n C):RelD K H (.ref C) (.cls n)
 | fn {C:Addr} {n:Str} (hc:YN K n C):RelD K H (.ref C) (.fn n)
 | sd {a:Addr} {xs:List Str} {vs:List V} {ds:List D} (h:TabK K a xs vs) (r:RelDs K H vs ds):RelD K H (.ref a) (.sd xs ds)
 | fd {a:Addr} {xs:List Str} {vs:List V} {ds:List D} (h:FdK H a xs vs) (r:RelDs K H vs ds):RelD K H (.ref a) (.fd xs ds)
 | exc {a C:Addr} {n:Str} (hn:n∈xNames) (hi:n ∉ xInit) (hc:YN K n C) (h:H a=some (.ext (Z4 a C none))):RelD K H (.ref a) (.exc n .non)
 | excF {a C d:Addr} {n:Str} {v:V} {x:D} (hn:n∈xNames) (hi:n∈xInit) (hc:YN K n C) (h:H a=some (.ext (Z4 a C (some d)))) (hd:H d=some (.ext (ZJ d (Yi n) v))) (r:RelD K H v x):RelD K H (.ref a) (.exc n x)
inductive RelDs (K:Frag) (H:Hp):List V->List D->Prop
 | nil:RelDs K H [] []
 | cons {v:V} {d:D} {vs:List V} {ds:List D} (h:RelD K H v d) (r:RelDs K H vs ds):RelDs K H (v::vs) (d::ds)
end
structure HExt (K:Frag) (H H':Hp):Prop where
 tup:∀ a vs,SqT K H a vs->SqT K H' a vs
 fz:∀ a vs,SqF K H a vs->SqF K H' a vs
 ex:∀ a φ,H a=some (.ext φ)->H' a=some (.ext φ)
 fd:∀ a o kws,H a=some (.frz o (.dK kws))->H' a=some (.frz o (.dK kws))
theorem HExt.refl {K:Frag} (H:Hp):HExt K H H:=⟨fun _ _ h=>h,fun _ _ h=>h,fun _ _ h=>h,fun _ _ _ h=>h⟩
theorem HExt.trans {K:Frag} {H H1 H2:Hp} (a:HExt K H H1) (b:HExt K H1 H2):HExt K H H2:=⟨fun p vs h=>b.tup p vs (a.tup p vs h),fun p vs h=>b.fz p vs (a.fz p vs h),fun p C h=>b.ex p C (a.ex p C h),fun p o kws h=>b.fd p o kws (a.fd p o kws h)⟩
noncomputable def MutL:HO->Prop
 | .lst _=>True
 | .dK _=>True
 | .ins _ _ _=>True
 | _=>False
theorem HExt.upd {K:Frag} {H:Hp} {p:Addr} {o:HO} (h:H p=none\/∃ u,H p=some u/\MutL u):HExt K H (L2.upd H p o):=by
 refine⟨fun a vs q=>?_,fun a vs q=>?_,fun a C q=>?_,fun a ob kws q=>?_⟩
 ·rcases q with (q|⟨ob,q⟩)|q
  ·refine .inl (.inl ?_)
   rw[Y6];exact q;rintro rfl;rcases h with h|⟨u,h,m⟩
   ·rw[h] at q;cases q
   ·rw[h] at q;cases q;exact m
  ·refine .inl (.inr ⟨ob,?_⟩)
   rw[Y6];exact q;rintro rfl;rcases h with h|⟨u,h,m⟩
   ·rw[h] at q;cases q
   ·rw[h] at q;cases q;exact m
  ·exact .inr q
 ·rcases q with ⟨ob,q⟩|q
  ·refine .inl ⟨ob,?_⟩
   rw[Y6];exact q;rintro rfl;rcases h with h|⟨u,h,m⟩
   ·rw[h] at q;cases q
   ·rw[h] at q;cases q;exact m
  ·exact .inr q
 ·rw[Y6];exact q
  rintro rfl;rcases h with h|⟨u,h,m⟩
  ·rw[h] at q;cases q
  ·rw[h] at q;cases q;exact m
 ·rw[Y6];exact q
  rintro rfl;rcases h with h|⟨u,h,m⟩
  ·rw[h] at q;cases q
  ·rw[h] at q;cases q;exact m
theorem RelDs.ext {K:Frag} {H H':Hp} (x:HExt K H H') {vs:List V} {ds:List D} (h:RelDs K H vs ds):RelDs K H' vs ds:=by
 induction h using RelDs.rec (motive_1:=fun v d _=>RelD K H' v d) with
 | non=>exact .non
 | bl b=>exact .bl b
 | int i=>exact .int i
 | str y=>exact .str y
 | ty n=>exact .ty n
 | tup h r ih=>exact .tup (x.tup _ _ h) ih
 | fz h r ih=>exact .fz (x.fz _ _ h) ih
 | lst a=>exact .lst a
 | dct a=>exact .dct a
 | ref a=>exact .ref a
 | cls hn h=>exact .cls hn h
 | fn h=>exact .fn h
 | sd h r ih=>exact .sd h ih
 | fd h r ih=>exact .fd ⟨h.1,h.2.elim fun o e=>⟨o,x.fd _ _ _ e⟩⟩ ih
 | exc hn hi hc h=>exact .exc hn hi hc (x.ex _ _ h)
 | excF hn hi hc h hd r ih=>exact .excF hn hi hc (x.ex _ _ h) (x.ex _ _ hd) ih
 | nil=>exact .nil
 | cons h r i1 i2=>exact .cons i1 i2
theorem RelD.ext {K:Frag} {H H':Hp} (x:HExt K H H') {v:V} {d:D} (h:RelD K H v d):RelD K H' v d:=by
 cases RelDs.ext x (.cons h .nil) with
 | cons h _=>exact h
inductive ExD (K:Frag) (H:Hp) (n:Str):Option Addr->D->Prop
 | plain (hi:n ∉ xInit):ExD K H n none .non
 | fld {d:Addr} {v:V} {x:D} (hi:n∈xInit) (hd:H d=some (.ext (ZJ d (Yi n) v))) (r:RelD K H v x):ExD K H n (some d) x
theorem ExD.ext {K:Frag} {H H':Hp} (y:HExt K H H') {n:Str} {dd:Option Addr} {x:D} (h:ExD K H n dd x):ExD K H' n dd x:=by
 cases h with
 | plain hi=>exact .plain hi
 | fld hi hd r=>exact .fld hi (y.ex _ _ hd) (r.ext y)
theorem ExD.rel {K:Frag} {H:Hp} {n:Str} {a C:Addr} {dd:Option Addr} {x:D} (h:ExD K H n dd x) (hn:n∈xNames) (hc:YN K n C) (e:H a=some (.ext (Z4 a C dd))):RelD K H (.ref a) (.exc n x):=by
 cases h with
 | plain hi=>exact .exc hn hi hc e
 | fld hi hd r=>exact .excF hn hi hc e hd r
noncomputable def xarg:D->D
 | .exc _ x=>x
 | d=>d
@[simp] theorem HV (n:Str) (x:D):xarg (.exc n x)=x:=rfl
section
variable {K:Frag} {H:Hp}
theorem RelDs.length:∀ {vs:List V} {ds:List D},RelDs K H vs ds->vs.length=ds.length
 | _,_,.nil=>rfl
 | _,_,.cons _ r=>congrArg (·+1) (RelDs.length r)
theorem RelDs.append:∀ {vs ws:List V} {ds es:List D},RelDs K H vs ds->RelDs K H ws es->RelDs K H (vs++ws) (ds++es)
 | _,_,_,_,.nil,q=>q
 | _,_,_,_,.cons h r,q=>.cons h (RelDs.append r q)
theorem RelDs.drop:∀ {vs:List V} {ds:List D} (n:Nat),RelDs K H vs ds->RelDs K H (vs.drop n) (ds.drop n)
 | _,_,0,r=>r
 | _,_,_+1,.nil=>.nil
 | _,_,n+1,.cons _ r=>RelDs.drop n r
theorem RelDs.take:∀ {vs:List V} {ds:List D} (n:Nat),RelDs K H vs ds->RelDs K H (vs.take n) (ds.take n)
 | _,_,0,_=>.nil
 | _,_,_+1,.nil=>.nil
 | _,_,n+1,.cons h r=>.cons h (RelDs.take n r)
theorem RelDs.get:∀ {vs:List V} {ds:List D} {i:Nat} {d:D},RelDs K H vs ds->ds[i]?=some d->∃ v,vs[i]?=some v/\RelD K H v d
 | _,_,_,_,.nil,e=>by simp at e
 | _,_,0,_,.cons h _,e=>by simp at e;subst e;exact⟨_,rfl,h⟩
 | _,_,i+1,d,.cons _ r,e=>by
  obtain⟨v,h1,h2⟩:=RelDs.get (i:=i) (d:=d) r (by simpa using e);exact⟨v,by simpa using h1,h2⟩
theorem RelDs.set (h:RelD K H v d):∀ {vs:List V} {ds:List D} (i:Nat),RelDs K H vs ds->RelDs K H (vs.set i v) (ds.set i d)
 | _,_,_,.nil=>.nil
 | _,_,0,.cons _ r=>.cons h r
 | _,_,i+1,.cons q r=>.cons q (RelDs.set h i r)
theorem RelDs.ints:∀ (ns:List Int),RelDs K H (ns.map V.int) (ns.map D.int)
 | []=>.nil
 | n::r=>.cons (.int n) (RelDs.ints r)
end
noncomputable def MOk (K:Frag) (H:Hp) (a:Addr):MO->Prop
 | .ls ds=>∃ vs,H a=some (.lst vs)/\RelDs K H vs ds
 | .dk kvs=>∃ kws:List (Key×V),H a=some (.dK kws)/\kws.map (·.1)=kvs.map (·.1)/\RelDs K H (kws.map (·.2)) (kvs.map (·.2))
 | .ob n fs=>∃ (C dx:Addr) (vs:List (Str×V)),YN K n C/\H a=some (.ins C dx vs)/\vs.map (·.1)=fs.map (·.1)/\RelDs K H (vs.map (·.2)) (fs.map (·.2))
noncomputable def RepM (K:Frag) (H:Hp) (M:Mem):Prop:=∀ a o,M a=some o->MOk K H a o
structure LK where
 K:Frag
 ok:Hp->Prop
 mono:∀ H H',HExt K H H'->ok H->ok H'
structure Slots (K:Frag) (H:Hp) (δ:DSt) (σ:L2.St):Prop where
 len:δ.length=σ.length
 slot:∀ (i:Nat) (d:D),δ[i]?=some (some d)->∃ v,σ[i]?=some (some v)/\RelD K H v d
structure RepS (Λ:LK) (H:Hp) (δ:DSt) (σ:L2.St):Prop extends Slots Λ.K H δ σ where
 ok:Λ.ok H
section
variable {K:Frag} {Λ:LK} {H H':Hp} {M:Mem} {δ:DSt} {σ:L2.St}
theorem Slots.ext (x:HExt K H H') (r:Slots K H δ σ):Slots K H' δ σ:=⟨r.len,fun i d e=>let ⟨v,h,q⟩:=r.slot i d e;⟨v,h,q.ext x⟩⟩
theorem RepS.ext (x:HExt Λ.K H H') (r:RepS Λ H δ σ):RepS Λ H' δ σ:=⟨r.toSlots.ext x,Λ.mono _ _ x r.ok⟩
theorem Slots.set (r:Slots K H δ σ) (h:RelD K H v d) (i:Nat):Slots K H (δ.set i (some d)) (σ.set i (some v)):=by
 refine⟨by simp[r.len],fun j e q=>?_⟩;by_cases hj:j=i
 ·subst hj
  by_cases hl:j < δ.length
  ·rw[List.getElem?_set_self hl] at q;cases q
   exact⟨v,List.getElem?_set_self (by rw[<- r.len];exact hl),h⟩
  ·rw[List.getElem?_eq_none (by simp;omega)] at q;cases q
 ·rw[List.getElem?_set_ne (Ne.symm hj)] at q
  obtain⟨u,h1,h2⟩:=r.slot j e q;exact⟨u,by rw[List.getElem?_set_ne (Ne.symm hj)];exact h1,h2⟩
theorem RepS.set (r:RepS Λ H δ σ) (h:RelD Λ.K H v d) (i:Nat):RepS Λ H (δ.set i (some d)) (σ.set i (some v)):=⟨r.toSlots.set h i,r.ok⟩
theorem MOk.fresh (r:MOk K H a o):H a≠none:=by
 cases o with
 | ls ds=>obtain⟨vs,h,_⟩:=r;rw[h];simp
 | dk kvs=>obtain⟨vs,h,_⟩:=r;rw[h];simp
 | ob n fs=>obtain⟨C,dx,vs,_,h,_⟩:=r;rw[h];simp
theorem RepM.none (r:RepM K H M) (h:H p=.none):M p=.none:=by
 cases q:M p with
 | none=>rfl
 | some o=>exact absurd h (r p o q).fresh
theorem MOk.ext (x:HExt K H (upd H p u)) (h:a≠p) (r:MOk K H a o):MOk K (upd H p u) a o:=by
 cases o with
 | ls ds=>obtain⟨vs,e,q⟩:=r;exact⟨vs,by rw[Y6 h];exact e,q.ext x⟩
 | dk kvs=>obtain⟨vs,e,k,q⟩:=r;exact⟨vs,by rw[Y6 h];exact e,k,q.ext x⟩
 | ob n fs=>obtain⟨C,dx,vs,c,e,k,q⟩:=r;exact⟨C,dx,vs,c,by rw[Y6 h];exact e,k,q.ext x⟩
theorem RepM.tup {p:Addr} {vs:List V} (r:RepM K H M) (h:H p=.none):RepM K (upd H p (.tup vs)) M:=fun a o e =>
 (r a o e).ext (.upd (.inl h)) fun z=>by subst z;rw[r.none h] at e;cases e
theorem RepM.lst {p:Addr} {vs:List V} {ds:List D} (r:RepM K H M) (h:H p=.none) (q:RelDs K H vs ds):RepM K (upd H p (.lst vs)) (M.upd p (.ls ds)):=fun a o e=>by
 by_cases z:a=p
 ·subst z;rw[Yh] at e;cases e;exact⟨vs,upd_same,q.ext (.upd (.inl h))⟩
 ·rw[YO z] at e;exact (r a o e).ext (.upd (.inl h)) z
theorem RepM.write {p:Addr} {ws vs:List V} {ds:List D} (r:RepM K H M) (h:H p=some (.lst ws)) (q:RelDs K H vs ds):RepM K (upd H p (.lst vs)) (M.upd p (.ls ds)):=fun a o e=>by
 have x:HExt K H (upd H p (.lst vs)):=.upd (.inr ⟨_,h,trivial⟩);by_cases z:a=p
 ·subst z;rw[Yh] at e;cases e;exact⟨vs,upd_same,q.ext x⟩
 ·rw[YO z] at e;exact (r a o e).ext x z
theorem RepM.nil:RepM K H (fun _=>Option.none):=fun _ _ e=>by cases e
end
abbrev DE:=DSt->Mem->DK->Prop
abbrev DT:=DSt->Mem->(Bool->Mem->Prop)->Prop
abbrev DA:=DSt->Mem->(List D->Mem->Prop)->Prop
structure DEnds where
 nx:DSt->Mem->Prop
 rt:DK
 bk:DSt->Mem->Prop:=fun _ _=>False
 ct:DSt->Mem->Prop:=fun _ _=>False
 ex:DSt->DK:=fun _ _ _=>False
abbrev DS:=DEnds->DSt->Mem->Prop
abbrev DSp:=List D->Mem->DK->DK->Prop
noncomputable def V2 (H:Hp) (dd:Option Addr):Prop:=dd=none\/∃ d f,dd=some d/\H d=some (.ext (ZJ d f .non))
structure Thrown (P:Program) (w:World) (outer:List Env) (H:Hp) (s:Shared) (H':Hp) (e C:Addr) (dd:Option Addr) (s':Shared):Prop where
 ex:∃ B,s'.os=s.os/\AllBare s'.gens/\Un (frs outer) [] H H' s.heap s'.heap/\(∀ b o,s.heap.get? b=some o->H b=none->b ∉ frs outer->B.get? b=some o)/\HOk P w H' B/\Flies B outer e (.ref C) dd .none s'.heap
 cl:V2 H' dd->Xz s'.heap e
structure Back (P:Program) (w:World) (outer:List Env) (L:Addr) (H:Hp) (s:Shared) (H':Hp) (e C:Addr) (dd:Option Addr) (s':Shared):Prop where
 ex:∃ B,s'.os=s.os/\AllBare s'.gens/\Un (frs outer) [] H H' s.heap s'.heap/\(∀ b o,s.heap.get? b=some o->H b=none->b ∉ frs outer->B.get? b=some o)/\HOk P w H' B/\Flies B outer e (.ref C) dd (rawInt L) s'.heap
 cl:V2 H' dd->Xz s'.heap e
noncomputable def CXR (P:Program) (w:World):CXT:=fun outer H s E ev s'=>∃ e C dd H',ev=.ref e/\Thrown P w outer H s H' e C dd s'/\E (.ref C) dd H'
structure XeOk (X:Cx) (rz:Bool) (E:DSt->DK) (H:Hp):Prop where
 fly:∀ pins σ H1 s1 H' e C dd s' δ M' n x,HExt X.K H H'->L2.Inv X pins σ H1 s1->Thrown X.prog X.w X.stack H1 s1 H' e C dd s'->RepM X.K H' M'->Slots X.K H' δ σ->n∈xNames->YN X.K n C->ExD X.K H' n dd x->E δ (.exc n x) M'->X.xe (.ref e) s'
 made:rz=true->∀ pins σ H' h e C dd s' δ M' n x,HExt X.K H H'->L2.Inv X pins σ H' {s' with heap:=h}->Made h s'.heap e (.ref C) dd->(V2 H' dd->Xz s'.heap e)->RepM X.K H' M'->Slots X.K H' δ σ->n∈xNames->YN X.K n C->ExD X.K H' n dd x->E δ (.exc n x) M'->X.xe (.ref e) s'
 back:rz=true->∀ pins σ H1 s1 H' e C dd s' δ M' n x,HExt X.K H H'->L2.Inv X pins σ H1 s1->Back X.prog X.w X.stack X.env.locals H1 s1 H' e C dd s'->RepM X.K H' M'->Slots X.K H' δ σ->n∈xNames->YN X.K n C->ExD X.K H' n dd x->E δ (.exc n x) M'->X.xe (.ref e) s'
noncomputable def _root_.L2.Cx.L (X:Cx) (rz:Bool) (E:DSt->DK):LK where
 K:=X.K
 ok:=XeOk X rz E
 mono:=fun H H' x h=>⟨fun pins σ H1 s1 H2 e C dd s' δ M' n xd y=>h.fly pins σ H1 s1 H2 e C dd s' δ M' n xd (x.trans y),fun r pins σ H2 h0 e C dd s' δ M' n xd y=>h.made r pins σ H2 h0 e C dd s' δ M' n xd (x.trans y),fun r pins σ H1 s1 H2 e C dd s' δ M' n xd y=>h.back r pins σ H1 s1 H2 e C dd s' δ M' n xd (x.trans y)⟩
abbrev X0:DSt->DK:=fun _ _ _=>False
theorem Bv:XeOk X rz X0 H:=⟨fun _ _ _ _ _ _ _ _ _ _ _ _ _ _ _ _ _ _ _ _ _ z=>z.elim,fun _ _ _ _ _ _ _ _ _ _ _ _ _ _ _ _ _ _ _ _ _ _ z=>z.elim,fun _ _ _ _ _ _ _ _ _ _ _ _ _ _ _ _ _ _ _ _ _ _ z=>z.elim⟩
section
variable (Λ:LK) (K:Frag)
noncomputable def lift (t:DE):TE:=fun σ H Q=>∃ δ M R,RepS Λ H δ σ/\RepM Λ.K H M/\t δ M R/\∀ d M' v H',HExt Λ.K H H'->RepM Λ.K H' M'->RelD Λ.K H' v d->R d M'->Q v H'
noncomputable def Za (t:DT):TT:=fun σ H Q=>∃ δ M R,RepS Λ H δ σ/\RepM Λ.K H M/\t δ M R/\∀ b M' H',HExt Λ.K H H'->RepM Λ.K H' M'->R b M'->Q b H'
noncomputable def Zm (t:DA):TA:=fun σ H Q=>∃ δ M R,RepS Λ H δ σ/\RepM Λ.K H M/\t δ M R/\∀ ds M' vs H',HExt Λ.K H H'->RepM Λ.K H' M'->RelDs Λ.K H' vs ds->R ds M'->Q vs H'
noncomputable def Yx (X:Cx) (rz:Bool) (t:DS):TS:=fun E σ H=>∃ δ M D,RepS (X.L rz D.ex) H δ σ/\RepM X.K H M/\t D δ M /\
 (∀ δ' M' σ' H',HExt X.K H H'->RepS (X.L rz D.ex) H' δ' σ'->RepM X.K H' M'->D.nx δ' M'->E.nx σ' H') /\
 (∀ d M' v H',HExt X.K H H'->RepM X.K H' M'->RelD X.K H' v d->D.rt d M'->E.rt v H') /\
 (∀ δ' M' σ' H',HExt X.K H H'->RepS (X.L rz D.ex) H' δ' σ'->RepM X.K H' M'->D.bk δ' M'->E.bk σ' H') /\
 (∀ δ' M' σ' H',HExt X.K H H'->RepS (X.L rz D.ex) H' δ' σ'->RepM X.K H' M'->D.ct δ' M'->E.ct σ' H')
noncomputable def Z3 (f:D->D->Mem->DK->Prop):R2:=fun x y H Q=>∃ d e M R,RelD K H x d/\RelD K H y e/\RepM K H M/\f d e M R/\∀ d' M' v H',HExt K H H'->RepM K H' M'->RelD K H' v d'->R d' M'->Q v H'
noncomputable def Xk (f:List D->Mem->DK->Prop):List V->Hp->VK->Prop:=fun xs H Q=>∃ ds M R,RelDs K H xs ds/\RepM K H M/\f ds M R/\∀ d' M' v H',HExt K H H'->RepM K H' M'->RelD K H' v d'->R d' M'->Q v H'
noncomputable def XY (S:DSp):Sp:=fun xs H Q E=>∃ ds M R Ed,RelDs K H xs ds/\RepM K H M/\S ds M R Ed/\(∀ d' M' v H',HExt K H H'->RepM K H' M'->RelD K H' v d'->R d' M'->Q v H') /\
 ∀ n M' H' C dd x,HExt K H H'->RepM K H' M'->n∈xNames->YN K n C->ExD K H' n dd x->Ed (.exc n x) M'->E (.ref C) dd H'
end
theorem _root_.L2.PE.imp (h:PE X e t) (i:∀ σ H Q,t' σ H Q->t σ H Q):PE X e t':=fun pins s σ H Q I q=>h pins s σ H Q I (i _ _ _ q)
theorem _root_.L2.PT.imp (h:PT X e t) (i:∀ σ H Q,t' σ H Q->t σ H Q):PT X e t':=fun pins s σ H Q I q=>h pins s σ H Q I (i _ _ _ q)
theorem _root_.L2.PA.imp (h:PA X e t) (i:∀ σ H Q,t' σ H Q->t σ H Q):PA X e t':=fun pos pins s σ H Q I q=>h pos pins s σ H Q I (i _ _ _ q)
theorem _root_.L2.PSs.imp (h:PSs X e t) (i:∀ D σ H,t' D σ H->t D σ H):PSs X e t':=fun pins s σ H D I q=>h pins s σ H D I (i _ _ _ q)
theorem _root_.L2.OpR.imp (h:OpR X f r) (i:∀ x y H Q,r' x y H Q->r x y H Q):OpR X f r':=fun pins s σ H x y v u Q I a b q=>h pins s σ H x y v u Q I a b (i _ _ _ _ q)
theorem _root_.L2.CallR.imp (h:CallR X f r) (i:∀ x H Q,r' x H Q->r x H Q):CallR X f r':=fun pins s σ H x u Q I a q=>h pins s σ H x u Q I a (i _ _ _ q)
noncomputable def vHd:Option D->(D->Prop)->Prop
 | some d,P=>P d
 | none,_=>False
noncomputable def vAt:DSt->Nat->(D->Prop)->Prop
 | x::_,0,P=>vHd x P
 | _::r,i+1,P=>vAt r i P
 | [],_,_=>False
theorem By:∀ {δ:DSt} {i:Nat} {P:D->Prop},vAt δ i P->∃ d,δ[i]?=some (some d)/\P d
 | some d::_,0,_,h=>⟨d,rfl,h⟩
 | _::r,i+1,_,h=>By (δ:=r) h
theorem Bx:∀ {δ:DSt} {i:Nat} {P:D->Prop} {d:D},δ[i]?=some (some d)->P d->vAt δ i P
 | some d::_,0,_,_,e,h=>by cases e;exact h
 | none::_,0,_,_,e,_=>by cases e
 | _::r,i+1,P,_,e,h=>show vAt r i P from Bx (by simpa using e) h
noncomputable def dVar (i:Nat):DE:=fun δ M Q=>vAt δ i fun d=>Q d M
noncomputable def dC (d:D):DE:=fun _ M Q=>Q d M
noncomputable def d2 (f:D->D->Mem->DK->Prop) (ta tb:DE):DE:=fun δ M Q=>ta δ M fun x M1=>tb δ M1 fun y M2=>f x y M2 Q
noncomputable def d1 (f:D->Mem->DK->Prop) (ta:DE):DE:=fun δ M Q=>ta δ M fun x M1=>f x M1 Q
noncomputable def dNil:DA:=fun _ M Q=>Q [] M
noncomputable def YS (ta:DE) (tr:DA):DA:=fun δ M Q=>ta δ M fun x M1=>tr δ M1 fun xs M2=>Q (x::xs) M2
noncomputable def dTup (t:DA):DE:=fun δ M Q=>t δ M fun xs M1=>xs.length<=sizeLine/\Q (.tup xs) M1
noncomputable def dLst (t:DA):DE:=fun δ M Q=>t δ M fun xs M1=>xs.length<=sizeLine/\alloc M1 (.ls xs) fun p M'=>Q (.lst p) M'
noncomputable def dCB (f:List D->Mem->DK->Prop) (t:DA):DE:=fun δ M Q=>t δ M fun xs M1=>f xs M1 Q
noncomputable def XR (S:DSp) (E:DSt->DK) (t:DA):DE:=fun δ M Q=>t δ M fun xs M1=>S xs M1 Q (E δ)
noncomputable def VW (t:DE):DT:=fun δ M Q=>t δ M fun x M1=>∃ k,x=.bl k/\Q k M1
noncomputable def dAnd (t u:DT):DT:=fun δ M Q=>t δ M fun c M1=>if c=true then u δ M1 Q else Q false M1
noncomputable def dOr (t u:DT):DT:=fun δ M Q=>t δ M fun c M1=>if c=true then Q true M1 else u δ M1 Q
noncomputable def dNot (t:DT):DT:=fun δ M Q=>t δ M fun c M1=>Q (!c) M1
noncomputable def Dq (ta tb:DE):DE:=fun δ M Q=>ta δ M fun x M1=>∃ c,x=.bl c/\if c=true then tb δ M1 Q else Q (.bl false) M1
noncomputable def dOrV (ta tb:DE):DE:=fun δ M Q=>ta δ M fun x M1=>∃ c,x=.bl c/\if c=true then Q (.bl true) M1 else tb δ M1 Q
noncomputable def dIfE (c:DT) (ta tb:DE):DE:=fun δ M Q=>c δ M fun b M1=>if b=true then ta δ M1 Q else tb δ M1 Q
section
variable {X:Cx} {rz:Bool} {E:DSt->DK} {a b c:Expr} {ta tb tc:DE} {pos:Pos}
theorem seq2 {Λ:LK} {σ:L2.St} {H:Hp} {δ:DSt} {M:Mem} {R:D->D->Mem->Prop} {Q:V->V->Hp->Prop} (rs:RepS Λ H δ σ) (rm:RepM Λ.K H M) (h:ta δ M fun x M1=>tb δ M1 fun y M2=>R x y M2)
  (q:∀ x y M2 v u H2,HExt Λ.K H H2->RepM Λ.K H2 M2->RelD Λ.K H2 v x->RelD Λ.K H2 u y->R x y M2->Q v u H2):lift Λ ta σ H fun v H1=>lift Λ tb σ H1 fun u H2=>Q v u H2 :=
 ⟨δ,M,_,rs,rm,h,fun _ _ _ _ x1 m1 r1 h1=>⟨δ,_,_,rs.ext x1,m1,h1,fun _ _ _ _ x2 m2 r2 h2=>q _ _ _ _ _ _ (x1.trans x2) m2 (r1.ext x2) r2 h2⟩⟩
theorem Hu (h:PE X a (tVar i)):PE X a (lift (X.L rz E) (dVar i)):=by
 refine h.imp ?_;rintro σ H Q ⟨δ,M,R,rs,rm,t,q⟩;obtain⟨d,e,r⟩:=By t;obtain⟨v,h1,h2⟩:=rs.slot i d e;exact⟨v,h1,q _ _ _ _ (.refl H) rm h2 r⟩
theorem Wz (h:PE X a (tC v)) (r:∀ H,RelD X.K H v d):PE X a (lift (X.L rz E) (dC d)):=by
 refine h.imp ?_;rintro σ H Q ⟨δ,M,R,rs,rm,t,q⟩;exact q _ _ _ _ (.refl H) rm (r H) t
theorem Az (h:lift Λ (d2 f ta tb) σ H Q):tOp (Z3 Λ.K f) (lift Λ ta) (lift Λ tb) σ H Q:=by
 obtain⟨δ,M,R,rs,rm,t,q⟩:=h;exact seq2 (R:=fun x y M2=>f x y M2 R) rs rm t fun x y M2 v u H2 x2 m2 r1 r2 t2=>⟨x,y,M2,R,r1,r2,m2,t2,fun d M' w H' x3 m3 r3=>q d M' w H' (x2.trans x3) m3 r3⟩
theorem HC (ho:OpR X (binaryOp op) (Z3 X.K f)) (ha:PE X a (lift (X.L rz E) ta)) (hb:PE X b (lift (X.L rz E) tb)):PE X (.BinOp a op b pos) (lift (X.L rz E) (d2 f ta tb)) :=
 (Io ho ha hb).imp fun _ _ _=>Az
end
end DL
end
noncomputable section
namespace DL
open PySem PySem.Spec PyProof.Rows L2
theorem Zf:fillsNumberSlot (.type "tuple") "mul"=pure false :=
 PySem.fillsNumberSlot_seq (id:="tuple.__mul__") (r:=some (.builtin "tuple.__rmul__")) PySem.F.slot_tuple_mul.lookup (by decide +kernel) PySem.F.slot_tuple_rmul.lookup (by decide +kernel)
theorem X8:seqRepeat? (.type "tuple")=pure (some (.builtin "tuple.__mul__")):=by
 unfold seqRepeat?;rw[PySem.seqSlot_of (T:="tuple") (name:="__mul__") (id:="tuple.__mul__") PySem.F.slot_tuple_mul.lookup (by decide +kernel),PySem.seqSlot_of (T:="tuple") (name:="__rmul__") (id:="tuple.__rmul__") PySem.F.slot_tuple_rmul.lookup (by decide +kernel)]
 rfl
theorem ZE (a:Int) (t:Tok) (l:Addr) (items:Array Value) (n:Nat) (dd:Option Addr) (sl:Array (Option Value)) :
  Meets (Builtin.«int.__rmul__» ⟨[.int a t,.ref l],[]⟩) (fun _ R s=>s.heap.get? l=some {cls:=.type "tuple",dict:=dd,data:=.seq items n,slots:=sl}/\R (.ok (.ret Value.notImplemented)) s) :=
 .of_wp fun prog w A R s h=>by obtain⟨hp,g,d,tk,os⟩:=s;obtain⟨hl,h⟩:=h;wp_walk;exact⟨_,rfl,h⟩
theorem AH (l:Addr) (items:Array Value) (n:Nat) (dd:Option Addr) (sl:Array (Option Value)) (x:Int) (u:Tok) (h0:¬ items.isEmpty=true) (h2:2<=x) (h3:x<1000000) (hs:items.size*x.toNat<=16777216) :
  Meets (Builtin.«tuple.__mul__» ⟨[.ref l,.int x u],[]⟩) (fun _ R s=>s.heap.get? l=some {cls:=.type "tuple",dict:=dd,data:=.seq items n,slots:=sl}/\R (.ok (.ret (Value.ref s.heap.objs.size))) {s with heap:=s.heap.push {cls:=Value.type "tuple",data:=Data.seq (List.foldl (fun x1 x2=>x1++x2) #[] (List.replicate x.toNat items))}}) :=
 .of_wp fun prog w A R s h=>by
  obtain⟨hp,g,d,tk,os⟩:=s;obtain⟨hl,h⟩:=h;have c1:¬ (decide (x < -2 ^ 63) || decide (x ≥ 2 ^ 63))=true:=by simp;omega
  have c2:¬ (items.isEmpty || x==1)=true:=by
   have:¬ x=1:=by omega
   simp[this];simpa using h0
  have c3:¬ (decide (x<=0) || items.isEmpty)=true:=by
   have:¬ x<=0:=by omega
   simp[this];simpa using h0
  have e:(items.size:Int)*x=((items.size*x.toNat:Nat):Int):=by
   rw[Int.natCast_mul,Int.toNat_of_nonneg %[|5]]
  have c4:¬ ((items.size:Int)*x > (2 ^ 63-1) / 8):=by rw[e];omega
  have c5:¬ Builtin.Tuple.tupleTooMany ((items.size:Int)*x)=true:=by
   rw[Bool.not_eq_true];unfold Builtin.Tuple.tupleTooMany;rw[e];refine decide_eq_false ?_;have:(sizeLine:Int)=16777216:=by decide
   omega
  have c6:¬ (List.foldl (fun x1 x2=>x1++x2) #[] (List.replicate x.toNat items)).size > sizeLine:=by
   have:(List.foldl (fun x1 x2=>x1++x2) #[] (List.replicate x.toNat items)).size=x.toNat*items.size:=by
    have:=XM items.toList x.toNat [];rw[List.nil_append] at this;have e2:(List.foldl (fun x1 x2=>x1++x2) #[] (List.replicate x.toNat items))=(List.replicate x.toNat items.toList).flatten.toArray:=this;rw[e2,List.size_toArray,Ur];simp
   rw[this,Nat.mul_comm];exact Nat.not_lt.mpr hs
  wp_walk
  iterate 5
   (try (first|refine wpAny_ite_false (decide_eq_false c1) ?_|refine wpAny_ite_false (decide_eq_false c2) ?_|refine wpAny_ite_false (decide_eq_false c3) ?_|refine wpAny_ite_false (decide_eq_false c4) ?_|refine wpAny_ite_false (decide_eq_false c5) ?_))
   (try wp_walk)
  exact⟨_,rfl,h⟩
section
variable {X:Cx}
noncomputable def Ih (K:Frag):R2:=fun x y H Q=>∃ a k xs,x=.ref a/\y=.int k/\SqT K H a xs/\xs≠[]/\2<=k/\k<1000000/\xs.length*k.toNat<=sizeLine /\
 ∀ p,H p=none->Q (.ref p) (upd H p (.tup (List.replicate k.toNat xs).flatten))
theorem Er:OpR X (binaryOp .Mult) (Ih X.K):=by
 intro pins s σ H x y v u Q I rx ry h;obtain⟨a,k,xs,rfl,rfl,ha,hx,h1,h2,hz,q⟩:=h;cases rx;obtain⟨t,rfl⟩:=ry;obtain⟨its,r1,p1,_⟩:=I.tuple ha;obtain⟨⟨cls,dd,data,sl⟩,ho,hc,n,hd⟩:=id p1;simp only at hc hd;subst hc hd;have hnew:List.foldl (fun x1 x2=>x1++x2) #[] (List.replicate k.toNat its.toArray)=(List.replicate k.toNat its).flatten.toArray:=by
  have:=XM its k.toNat [];rw[List.nil_append] at this;exact this
 have hne:¬ its.toArray.isEmpty=true:=by
  have:its≠[]:=fun z=>hx (r1.nil_iff.mp z)
  simpa using this
 have hl:xs.length=its.length:=r1.length;refine wpAny_binaryOp_repeat_ref (T:="tuple") (U:="int") %[|4] ⟨_,ho,rfl⟩ (fun s'=>typeIs_int s' k t) Zf PySem.F.fills_int_mul PySem.F.slot_int_rmul X8 PySem.F.slot_int_index.lookup
  (call_meets PySem.F.slot_int_rmul (typeIs_int s k t) PySem.F.entry_int_rmul (PySem.F.args_int_rmul_2 _ _) (ZE k t a its.toArray n dd sl)
   ⟨ho,rfl,⟨_,ho,rfl⟩,call_meets PySem.F.slot_tuple_mul ⟨_,ho,rfl⟩ PySem.F.entry_tuple_mul (PySem.F.args_tuple_mul_2 _ _) (AH a its.toArray n dd sl k t hne h1 h2 (by rw[List.size_toArray,<- hl];exact hz)) ⟨ho,?_⟩⟩)
 rw[hnew];refine⟨.ref s.heap.objs.size,_,I.laid (t':=s.toks) (o:=.tup (List.replicate k.toNat xs).flatten) (fun b ob q=>Heap.get?_push_of_some _ q) %[|3] ?_,rfl,q _ (I.hok.fresh %[|3])⟩;exact⟨by rw[Ur,Nat.mul_comm];exact hz,_,r1.rep k.toNat,IsTup.new _ _⟩
end
end DL
end
noncomputable section
namespace DL
open PySem PySem.Spec PyProof.Rows L2
section
variable {prog:Program} {w:World} {A:Around} {E:Value->Shared->Prop} {s:Shared}
open HT
theorem XQ {t sl:Addr} {items:Array Value} {vl vu:Value} {lo hi:Option Int} {Q:Value->Shared->Prop} (ht:IsTup s.heap t items) (hs:s.heap.IsSliceOf sl vl vu .none) (pl:IsPart vl lo) (pu:IsPart vu hi)
  (hw:sIx items.size 0 lo=0/\sIx items.size items.size hi=items.size) (h:Q (.ref t) s):wpAny (model prog w) A (getItem (.ref t) (.ref sl)) Q E s:=by
 obtain⟨os,hos,hcs,hds⟩:=id hs;have hTs:s.TypeIs (.ref sl) "slice":=⟨os,hos,hcs⟩;unfold getItem
 try with_reducible refine wpAny_holding ?_
 first|refine wpAny_bind (wpAny_pure ?_)|skip
 refine wpAny_bind (wpAny_sequenceKey ht.typeIs %[|4] ?_);refine wpAny_bind (wpAny_callSpecial?_slot (name:=Str.ofString "__getitem__") ht.typeIs PyProof.Rows.slot_tuple_getitem
  (wpAny_call_entry PyProof.Rows.slot_tuple_getitem ht.typeIs entry_tuple_getitem ?_ (args_tuple_getitem _ _)))
 show wpAny _ _ (Builtin.Tuple.tupleItemsOf (.ref t) >>= _) _ _ s;refine wpAny_bind (tupleItemsOf_ ht ?_);refine wpAny_bind (wpAny_typeOf hTs ?_);rw[if_pos %[|4]];refine wpAny_bind (ZY hs pl pu ?_);rw[hw.1,hw.2];show wpAny _ _ (if (((0:Nat):Int)==0&&(1:Int)==1&&(items.size-0)==items.size)=true then _ else _) _ _ s;rw[if_pos (by simp)];have hT:=ht.typeIs;unfold Builtin.Tuple.tupleIsExact;refine wpAny_bind (wpAny_bind (wpAny_typeOf hT ?_));refine wpAny_pure ?_;rw[if_pos %[|4]];refine wpAny_bind (wpAny_rule ?_);exact wpAny_pure ⟨_,rfl,wpAny_pure h⟩
end
theorem Jt (l:Addr) (items:Array Value) (n:Nat) (dd:Option Addr) (sl:Array (Option Value)) (x:Int) (u:Tok) (h0:(items.isEmpty || x==1)=true) (h2:0<=x) (h3:x<1000000) :
  Meets (Builtin.«tuple.__mul__» ⟨[.ref l,.int x u],[]⟩) (fun _ R s=>s.heap.get? l=some {cls:=.type "tuple",dict:=dd,data:=.seq items n,slots:=sl}/\R (.ok (.ret (Value.ref l))) s) :=
 .of_wp fun prog w A R s h=>by
  obtain⟨hp,g,d,tk,os⟩:=s;obtain⟨hl,h⟩:=h;have c1:¬ (decide (x < -2 ^ 63) || decide (x ≥ 2 ^ 63))=true:=by simp;omega
  wp_walk
  iterate 5
   (try (first|refine wpAny_ite_false (decide_eq_false c1) ?_|refine wpAny_ite_true (decide_eq_true h0) ?_))
   (try wp_walk)
  exact⟨_,rfl,h⟩
theorem Ju (l:Addr) (items:Array Value) (n:Nat) (dd:Option Addr) (sl:Array (Option Value)) (u:Tok) (h0:¬ items.isEmpty=true) :
  Meets (Builtin.«tuple.__mul__» ⟨[.ref l,.int 0 u],[]⟩) (fun _ R s=>s.heap.get? l=some {cls:=.type "tuple",dict:=dd,data:=.seq items n,slots:=sl}/\R (.ok (.ret (Value.ref s.heap.objs.size))) {s with heap:=s.heap.push {cls:=Value.type "tuple",data:=Data.seq #[]}}) :=
 .of_wp fun prog w A R s h=>by
  obtain⟨hp,g,d,tk,os⟩:=s;obtain⟨hl,h⟩:=h;have c2:¬ (items.isEmpty || (0:Int)==1)=true:=by simpa using h0
  have c3:(decide ((0:Int)<=0) || items.isEmpty)=true:=by simp
  wp_walk
  iterate 5
   (try (first|refine wpAny_ite_false (decide_eq_false c2) ?_|refine wpAny_ite_true (decide_eq_true c3) ?_))
   (try wp_walk)
  exact⟨_,rfl,h⟩
section
variable {X:Cx}
theorem DW:SlR X (fun x lo hi H Q=>∃ a xs,x=.ref a/\SqT X.K H a xs/\(HT.sIx xs.length 0 lo=0/\HT.sIx xs.length xs.length hi=xs.length)/\Q (.ref a) H):=by
 intro pins s σ H x v vl vu lo hi sl Q I rx hs pl pu h;obtain⟨a,xs,rfl,hx,hw,q⟩:=h;cases rx;obtain⟨its,r,ht,hz⟩:=I.tuple hx;have hlen:its.toArray.size=xs.length:=by rw[List.size_toArray];exact r.length.symm
 refine⟨"tuple",_,PyProof.Rows.slot_tuple_getitem.lookup,ht.typeIs,?_⟩;exact XQ ht hs pl pu (by rw[hlen];exact hw) ⟨.ref a,H,I,rfl,q⟩
theorem Cm:OpR X (binaryOp .Add) (fun x y H Q=>∃ a b ys,x=.ref a/\y=.ref b/\SqT X.K H a []/\SqT X.K H b ys/\Q (.ref b) H):=by
 intro pins s σ H x y v u Q I rx ry h;obtain⟨a,b,ys,rfl,rfl,ha,hb,q⟩:=h;cases rx;cases ry;obtain⟨its,r1,p1,_⟩:=I.tuple ha;obtain⟨its2,r2,p2,_⟩:=I.tuple hb;cases r1;obtain⟨⟨cls,dd,data,sl⟩,ho,hc,n,hd⟩:=id p1;obtain⟨⟨cls2,dd2,data2,sl2⟩,ho2,hc2,n2,hd2⟩:=id p2;simp only at hc hd hc2 hd2;subst hc hd hc2 hd2;exact concat_meets ⟨_,ho,rfl⟩ ⟨_,ho2,rfl⟩ noFill_tuple_add seq_tuple_add PySem.F.slot_tuple_add PySem.F.entry_tuple_add (PySem.F.args_tuple_add_2 _ _)
  (PyProof.Rows.tuple_addW0 a b _ its2.toArray n n2 dd dd2 sl sl2 rfl) ⟨ho,ho2,.ref b,H,I,rfl,q⟩
theorem Cj:OpR X (binaryOp .Mult) (fun x y H Q=>∃ a k xs,x=.ref a/\y=.int k/\SqT X.K H a xs/\(xs=[]\/k=1)/\0<=k/\k<1000000/\Q (.ref a) H):=by
 intro pins s σ H x y v u Q I rx ry h;obtain⟨a,k,xs,rfl,rfl,ha,hx,h1,h2,q⟩:=h;cases rx;obtain⟨t,rfl⟩:=ry;obtain⟨its,r1,p1,_⟩:=I.tuple ha;obtain⟨⟨cls,dd,data,sl⟩,ho,hc,n,hd⟩:=id p1;simp only at hc hd;subst hc hd;have hne:(its.toArray.isEmpty || k==1)=true:=by
  rcases hx with rfl|rfl
  ·cases r1;rfl
  ·simp
 refine wpAny_binaryOp_repeat_ref (T:="tuple") (U:="int") %[|4] ⟨_,ho,rfl⟩ (fun s'=>typeIs_int s' k t) Zf PySem.F.fills_int_mul PySem.F.slot_int_rmul X8 PySem.F.slot_int_index.lookup
  (call_meets PySem.F.slot_int_rmul (typeIs_int s k t) PySem.F.entry_int_rmul (PySem.F.args_int_rmul_2 _ _) (ZE k t a its.toArray n dd sl)
   ⟨ho,rfl,⟨_,ho,rfl⟩,call_meets PySem.F.slot_tuple_mul ⟨_,ho,rfl⟩ PySem.F.entry_tuple_mul (PySem.F.args_tuple_mul_2 _ _) (Jt a its.toArray n dd sl k t hne h1 h2) ⟨ho,?_⟩⟩)
 exact⟨.ref a,H,I,rfl,q⟩
theorem Cl:OpR X (binaryOp .Mult) (fun x y H Q=>∃ a xs,x=.ref a/\y=.int 0/\SqT X.K H a xs/\xs≠[]/\∀ p,H p=none->Q (.ref p) (upd H p (.tup []))):=by
 intro pins s σ H x y v u Q I rx ry h;obtain⟨a,xs,rfl,rfl,ha,hx,q⟩:=h;cases rx;obtain⟨t,rfl⟩:=ry;obtain⟨its,r1,p1,_⟩:=I.tuple ha;obtain⟨⟨cls,dd,data,sl⟩,ho,hc,n,hd⟩:=id p1;simp only at hc hd;subst hc hd;have hne:¬ its.toArray.isEmpty=true:=by
  have:its≠[]:=fun z=>hx (r1.nil_iff.mp z)
  simpa using this
 refine wpAny_binaryOp_repeat_ref (T:="tuple") (U:="int") %[|4] ⟨_,ho,rfl⟩ (fun s'=>typeIs_int s' 0 t) Zf PySem.F.fills_int_mul PySem.F.slot_int_rmul X8 PySem.F.slot_int_index.lookup
  (call_meets PySem.F.slot_int_rmul (typeIs_int s 0 t) PySem.F.entry_int_rmul (PySem.F.args_int_rmul_2 _ _) (ZE 0 t a its.toArray n dd sl)
   ⟨ho,rfl,⟨_,ho,rfl⟩,call_meets PySem.F.slot_tuple_mul ⟨_,ho,rfl⟩ PySem.F.entry_tuple_mul (PySem.F.args_tuple_mul_2 _ _) (Ju a its.toArray n dd sl t hne) ⟨ho,?_⟩⟩)
 refine⟨.ref s.heap.objs.size,_,I.laid (t':=s.toks) (o:=.tup []) (fun b ob q=>Heap.get?_push_of_some _ q) %[|3] ?_,rfl,q _ (I.hok.fresh %[|3])⟩;exact⟨Nat.zero_le _,_,.nil,IsTup.new _ _⟩
end
end DL
end
noncomputable section
namespace DL
open PySem PySem.Spec PyProof.Rows L2
section
variable {prog:Program} {w:World} {A:Around} {E:Value->Shared->Prop} {s:Shared}
theorem WY (hj:s.heap.IsTupleIter j b n) (hb:s.heap.IsTuple b vs) (hv:vs[n]?=some v)
  (q:∀ g,g.IsTupleIter j b (n+1)->Heap.SameBut j s.heap g->Q v {s with heap:=g}):wpAny (model prog w) A (Builtin.SmallTypes.nextOf (.ref j)) Q E s:=by
 obtain⟨o,e1,e2,e3⟩:=id hj;obtain⟨p,f1,_,m,f3⟩:=hb;unfold Builtin.SmallTypes.nextOf;refine wpAny_bind (wpAny_callSpecial?_slot (name:=Str.ofString "__next__") hj.typeIs F.slot_tuple_iterator_next (wpAny_call_entry F.slot_tuple_iterator_next hj.typeIs F.entry_tuple_iterator_next ?_ (F.args_tuple_iterator_next_1 _)));show wpAny _ _ (field (.ref j) 0 >>= _) _ _ s;refine wpAny_bind (wpAny_field e1 e3 (x:=.ref b) rfl ?_);show wpAny _ _ (if (Value.ref b==Value.none)=true then _ else _) _ _ s;rw[if_neg (show ¬ ((Value.ref b==Value.none)=true) from Bool.false_ne_true)];show wpAny _ _ (field (.ref j) 1 >>= _) _ _ s;refine wpAny_bind (wpAny_field e1 e3 (x:=.int n 0) rfl ?_);show wpAny _ _ (seqItems? (.ref b) >>= _) _ _ s;refine wpAny_bind (wpAny_seqItems f1 f3 ?_);simp only[Int.toNat_natCast,hv];refine wpAny_bind (wpAny_setField e1 e3 (by simp) (wpAny_pure ⟨v,rfl,wpAny_pure (q _ ?_ (Heap.SameBut.update ..))⟩))
 exact⟨_,Heap.get?_update_self _ e1 (Obj.isFreed_of_fields (Obj.data_mapFields e3 _)),(Obj.cls_mapFields ..).trans e2,by rw[Obj.data_mapFields e3];simp[rawInt]⟩
theorem Uh (hh:A.handled=none) (hj:s.heap.IsTupleIter j b n) (hb:s.heap.IsTuple b vs) (hv:vs[n]?=none)
  (q:∀ g e,Heap.ExtBut j s.heap g->(∃ o,g.get? e=some o/\o.cls=.type "StopIteration")->E (.ref e) {s with heap:=g}):wpAny (model prog w) A (Builtin.SmallTypes.nextOf (.ref j)) Q E s:=by
 obtain⟨o,e1,e2,e3⟩:=id hj;obtain⟨p,f1,_,m,f3⟩:=hb;unfold Builtin.SmallTypes.nextOf;refine wpAny_bind (wpAny_callSpecial?_slot (name:=Str.ofString "__next__") hj.typeIs F.slot_tuple_iterator_next (wpAny_call_entry F.slot_tuple_iterator_next hj.typeIs F.entry_tuple_iterator_next ?_ (F.args_tuple_iterator_next_1 _)));show wpAny _ _ (field (.ref j) 0 >>= _) _ _ s;refine wpAny_bind (wpAny_field e1 e3 (x:=.ref b) rfl ?_);show wpAny _ _ (if (Value.ref b==Value.none)=true then _ else _) _ _ s;rw[if_neg (show ¬ ((Value.ref b==Value.none)=true) from Bool.false_ne_true)];show wpAny _ _ (field (.ref j) 1 >>= _) _ _ s;refine wpAny_bind (wpAny_field e1 e3 (x:=.int n 0) rfl ?_);show wpAny _ _ (seqItems? (.ref b) >>= _) _ _ s;refine wpAny_bind (wpAny_seqItems f1 f3 ?_);simp only[Int.toNat_natCast,hv];refine wpAny_bind (wpAny_rule (wpAny_bind (wpAny_setField e1 e3 (by simp) ?_)));show wpAny _ _ (newExc (.type "StopIteration") [] >>= _) _ _ _;refine wpAny_bind ?_;simp only[newExc,newTuple]
 refine wpAny_bind (wpAny_newObj_type ?_ (by size_fits));refine wpAny_bind (m:=firstArgMember _ _) (wpAny_of_eq (a:=Value.none) (by first|rfl|(simp only[firstArgMember];rfl)) ?_);refine wpAny_newObj_type ?_ (by size_fits);simp only[raiseNew];refine wpAny_bind (wpAny_handled ?_)
 (first|rw [show A.in1.handled=none from hh]|rw [hh]);refine wpAny_bind (wpAny_pure (wpAny_throw ?_))
 exact q _ _ (((Heap.SameBut.update ..).extBut.push _).push _) ⟨_,Heap.get?_push_size _ rfl,rfl⟩
theorem DM {z u v i j b c:Addr} {n:Nat} {xs ys:Array Value} {x y a d:Value} {Q:Value->Shared->Prop} (D:ZipApart z u v i j b c)
  (hz:IsZip s.heap z u v .none) (hu:IsPair s.heap u (.ref i) (.ref j)) (hv:IsPair s.heap v a d) (h1:s.heap.IsTupleIter i b n) (h2:s.heap.IsTupleIter j c n) (hb:s.heap.IsTuple b xs) (hc:s.heap.IsTuple c ys) (hx:xs[n]?=some x) (hy:ys[n]?=some y)
  (q:∀ g,IsZip g z u v (rawInt s.heap.objs.size)->IsPair g v x y->g.IsTupleIter i b (n+1)->g.IsTupleIter j c (n+1)->IsPair g s.heap.objs.size x y->g.objs.size=s.heap.objs.size+1 ->
   (∀ k o,k≠z->k≠v->k≠i->k≠j->s.heap.get? k=some o->g.get? k=some o)->Q (.ref s.heap.objs.size) {s with heap:=g}) :
  wpAny (model prog w) A (Builtin.«zip.__next__» ⟨[.ref z],[]⟩) (fun r s'=>∃ t,r=.done (.ret t)/\Q t s') E s:=by
 show wpAny _ _ (field (.ref z) 2 >>= _) _ _ _;refine wpAny_bind (wpAny_field hz rfl (x:=.bool false) rfl ?_);show wpAny _ _ (field (.ref z) 3 >>= _) _ _ _;refine wpAny_bind (wpAny_field hz rfl (x:=.ref u) rfl ?_);refine wpAny_bind (wpAny_seqItems hu rfl ?_);show wpAny _ _ (Builtin.SmallTypes.ownedTupleIsFree (.ref z) >>= _) _ _ _;refine wpAny_bind ?_;unfold Builtin.SmallTypes.ownedTupleIsFree;refine wpAny_bind (wpAny_field hz rfl (x:=.none) rfl (wpAny_pure ?_));simp only[if_true];refine wpAny_bind (wpAny_rule ?_);refine wpAny_bind (wpAny_field hz rfl (x:=.ref v) rfl ?_);refine wpAny_bind (wpAny_setField_rec hz (by simp) fun g1 z1 s1=>?_)
 replace z1:IsZip g1 z u v .ellipsis:=z1
 refine wpAny_bind ?_;simp only[List.zipIdx_cons,List.zipIdx_nil,List.forIn_cons,List.forIn_nil];refine wpAny_bind (wpAny_bind (wpAny_onRaise ?_));show wpAny _ _ (Builtin.SmallTypes.nextOf (.ref i) >>= _) _ _ _;refine wpAny_bind (WY (h1.extBut s1.extBut D.i1z) (hb.extBut s1.extBut D.l1z) hx fun g2 j2 s2=>wpAny_pure ?_);have v2:IsPair g2 v a d:=s2.extBut _ _ D.TOi1 (s1.extBut _ _ D.TOz hv);refine wpAny_bind (wpAny_seqItems v2 rfl ?_);refine wpAny_bind (wpAny_updateSeq_pair v2 fun g3 v3 s3=>?_)
 replace v3:IsPair g3 v x d:=v3
 refine wpAny_bind (wpAny_letGo (wpAny_pure ?_));refine wpAny_bind (wpAny_bind (wpAny_onRaise ?_));show wpAny _ _ (Builtin.SmallTypes.nextOf (.ref j) >>= _) _ _ _;refine wpAny_bind (WY (((h2.extBut s1.extBut D.i2z).extBut s2.extBut D.i12.symm).extBut s3.extBut D.TOi2.symm) (((hc.extBut s1.extBut D.l2z).extBut s2.extBut D.l2i1).extBut s3.extBut D.l2TO) hy fun g4 j4 s4=>wpAny_pure ?_);have v4:IsPair g4 v x d:=s4.extBut _ _ D.TOi2 v3;refine wpAny_bind (wpAny_seqItems v4 rfl ?_);refine wpAny_bind (wpAny_updateSeq_pair v4 fun g5 v5 s5=>?_)
 replace v5:IsPair g5 v x y:=v5
 refine wpAny_bind (wpAny_letGo (wpAny_pure (wpAny_pure ?_)));refine wpAny_bind (wpAny_seqItems v5 rfl ?_);refine wpAny_bind (wpAny_newTuple ?_);have sz:g5.objs.size=s.heap.objs.size:=by rw[s5.1,s4.1,s3.1,s2.1,s1.1]
 have z5:IsZip g5 z u v .ellipsis:=s5.extBut _ _ D.TOz.symm (s4.extBut _ _ D.i2z.symm (s3.extBut _ _ D.TOz.symm (s2.extBut _ _ D.i1z.symm z1)));have k5:∀ k o,k≠z->k≠v->k≠i->k≠j->s.heap.get? k=some o->g5.get? k=some o:=fun k o c1 c2 c3 c4 e=>s5.extBut _ _ c2 (s4.extBut _ _ c4 (s3.extBut _ _ c2 (s2.extBut _ _ c3 (s1.extBut _ _ c1 e))));have a5:g5.IsTupleIter i b (n+1):=((j2.extBut s3.extBut D.TOi1.symm).extBut s4.extBut D.i12).extBut s5.extBut D.TOi1.symm;have b5:g5.IsTupleIter j c (n+1):=j4.extBut s5.extBut D.TOi2.symm;have lz:z<g5.objs.size:=Heap.lt_size z5;show wpAny _ _ (Builtin.SmallTypes.ownedTupleHandOut (.ref z) (.ref g5.objs.size) >>= _) _ _ _;refine wpAny_bind ?_;unfold Builtin.SmallTypes.ownedTupleHandOut;have z6:IsZip (g5.push {cls:=.type "tuple",data:=.seq #[x,y]}) z u v .ellipsis:=Heap.get?_push_of_some _ z5;refine wpAny_bind (wpAny_setField_rec z6 (by simp) fun g7 z7 s7=>?_)
 replace z7:IsZip g7 z u v (rawInt g5.objs.size):=z7
 refine wpAny_setField_rec z7 (by simp) fun g8 z8 s8=>?_
 replace z8:IsZip g8 z u v (rawInt g5.objs.size):=z8
 have up:∀ k o,k≠z->g5.get? k=some o->g8.get? k=some o:=fun k o c1 e=>s8.extBut _ _ c1 (s7.extBut _ _ c1 (Heap.get?_push_of_some _ e));have t8:IsPair g8 g5.objs.size x y:=s8.extBut _ _ (Nat.ne_of_gt lz) (s7.extBut _ _ (Nat.ne_of_gt lz) (Heap.get?_push_size _ rfl));have n8:g8.objs.size=g5.objs.size+1:=by rw[s8.1,s7.1,Heap.size_push]
 rw[sz] at z8 t8 n8;refine wpAny_pure ⟨_,rfl,?_⟩;show Q (.ref g5.objs.size) _;rw[sz];exact q g8 z8 (up _ _ D.TOz v5) (a5.at fun o e=>up _ o D.i1z e) (b5.at fun o e=>up _ o D.i2z e) t8 n8 fun k o c1 c2 c3 c4 e=>up k o c1 (k5 k o c1 c2 c3 c4 e)
theorem FO (hh:A.handled=none) (D:ZipApart z u v i j b c)
  (hz:IsZip s.heap z u v .none) (hu:IsPair s.heap u (.ref i) (.ref j)) (hv:IsPair s.heap v a d) (h1:s.heap.IsTupleIter i b n) (h2:s.heap.IsTupleIter j c n) (hb:s.heap.IsTuple b xs) (hc:s.heap.IsTuple c ys) (he:xs[n]?=none\/ys[n]?=none)
  (q:∀ g e,(∀ k o,k≠z->k≠v->k≠i->k≠j->s.heap.get? k=some o->g.get? k=some o)->(∃ o,g.get? e=some o/\o.cls=.type "StopIteration")->E (.ref e) {s with heap:=g}) :
  wpAny (model prog w) A (Builtin.«zip.__next__» ⟨[.ref z],[]⟩) Q E s:=by
 show wpAny _ _ (field (.ref z) 2 >>= _) _ _ _;refine wpAny_bind (wpAny_field hz rfl (x:=.bool false) rfl ?_);show wpAny _ _ (field (.ref z) 3 >>= _) _ _ _;refine wpAny_bind (wpAny_field hz rfl (x:=.ref u) rfl ?_);refine wpAny_bind (wpAny_seqItems hu rfl ?_);show wpAny _ _ (Builtin.SmallTypes.ownedTupleIsFree (.ref z) >>= _) _ _ _;refine wpAny_bind ?_;unfold Builtin.SmallTypes.ownedTupleIsFree;refine wpAny_bind (wpAny_field hz rfl (x:=.none) rfl (wpAny_pure ?_));simp only[if_true];refine wpAny_bind (wpAny_rule ?_);refine wpAny_bind (wpAny_field hz rfl (x:=.ref v) rfl ?_);refine wpAny_bind (wpAny_setField_rec hz (by simp) fun g1 z1 s1=>?_)
 replace z1:IsZip g1 z u v .ellipsis:=z1
 refine wpAny_bind ?_;simp only[List.zipIdx_cons,List.zipIdx_nil,List.forIn_cons,List.forIn_nil];refine wpAny_bind (wpAny_bind (wpAny_onRaise ?_));show wpAny _ _ (Builtin.SmallTypes.nextOf (.ref i) >>= _) _ _ _;have off:∀ {g:Heap} {e:Addr} {f0:Value},IsZip g z u v f0->(∃ o,g.get? e=some o/\o.cls=.type "StopIteration")->e≠z:=fun hz ⟨o,ho,hs⟩ x=>by subst x;rw[hz] at ho;cases ho;simp at hs
 cases hx:xs[n]? with
 | none =>
  refine wpAny_bind (Uh hh (h1.extBut s1.extBut D.i1z) (hb.extBut s1.extBut D.l1z) hx fun g2 e s2 ho=>?_);have z2:IsZip g2 z u v .ellipsis:=s2 _ _ D.i1z.symm z1;have ez:=off z2 ho;obtain⟨o,ho,hs⟩:=ho;refine wpAny_setField_rec z2 (by simp) fun g3 _ s3=>q g3 e (fun k o c1 _ c3 _ x=>s3.extBut _ _ c1 (s2 _ _ c3 (s1.extBut _ _ c1 x))) ⟨o,s3.extBut _ _ ez ho,hs⟩
 | some x =>
  have hy:ys[n]?=none:=by rcases he with h|h;rw[hx] at h;cases h;exact h
  refine wpAny_bind (WY (h1.extBut s1.extBut D.i1z) (hb.extBut s1.extBut D.l1z) hx fun g2 j2 s2=>wpAny_pure ?_);have v2:IsPair g2 v a d:=s2.extBut _ _ D.TOi1 (s1.extBut _ _ D.TOz hv);refine wpAny_bind (wpAny_seqItems v2 rfl ?_);refine wpAny_bind (wpAny_updateSeq_pair v2 fun g3 v3 s3=>?_);refine wpAny_bind (wpAny_letGo (wpAny_pure ?_));refine wpAny_bind (wpAny_bind (wpAny_onRaise ?_));show wpAny _ _ (Builtin.SmallTypes.nextOf (.ref j) >>= _) _ _ _;refine wpAny_bind (Uh hh (((h2.extBut s1.extBut D.i2z).extBut s2.extBut D.i12.symm).extBut s3.extBut D.TOi2.symm) (((hc.extBut s1.extBut D.l2z).extBut s2.extBut D.l2i1).extBut s3.extBut D.l2TO) hy fun g4 e s4 ho=>?_);have z4:IsZip g4 z u v .ellipsis:=s4 _ _ D.i2z.symm (s3.extBut _ _ D.TOz.symm (s2.extBut _ _ D.i1z.symm z1));have ez:=off z4 ho;obtain⟨o,ho,hs⟩:=ho;refine wpAny_setField_rec z4 (by simp) fun g5 _ s5=>q g5 e (fun k o c1 c2 c3 c4 x=>s5.extBut _ _ c1 (s4 _ _ c4 (s3.extBut _ _ c2 (s2.extBut _ _ c3 (s1.extBut _ _ c1 x))))) ⟨o,s5.extBut _ _ ez ho,hs⟩
theorem DN (D:ZipApart z u v i j b c)
  (hz:IsZip s.heap z u v .none) (hu:IsPair s.heap u (.ref i) (.ref j)) (hv:IsPair s.heap v a d) (h1:s.heap.IsTupleIter i b n) (h2:s.heap.IsTupleIter j c n) (hb:s.heap.IsTuple b xs) (hc:s.heap.IsTuple c ys) (hx:xs[n]?=some x) (hy:ys[n]?=some y)
  (q:∀ g,IsZip g z u v (rawInt s.heap.objs.size)->IsPair g v x y->g.IsTupleIter i b (n+1)->g.IsTupleIter j c (n+1)->IsPair g s.heap.objs.size x y->g.objs.size=s.heap.objs.size+1 ->
   (∀ k o,k≠z->k≠v->k≠i->k≠j->s.heap.get? k=some o->g.get? k=some o)->Q (some (.ref s.heap.objs.size)) {s with heap:=g}):wpAny (model prog w) A (pyNext (.ref z)) Q E s:=by
 have t:s.TypeIs (.ref z) "zip":=⟨_,hz,rfl⟩;unfold pyNext;exact wpAny_bind (wpAny_attempt (wpAny_callSpecial?_slot (name:=Str.ofString "__next__") t F.slot_zip_next (wpAny_call_entry F.slot_zip_next t F.entry_zip_next (DM D hz hu hv h1 h2 hb hc hx hy fun g a1 a2 a3 a4 a5 a6 a7=>wpAny_pure (q g a1 a2 a3 a4 a5 a6 a7)) (F.args_zip_next_1 _))))
theorem FP (hh:A.handled=none) (D:ZipApart z u v i j b c)
  (hz:IsZip s.heap z u v .none) (hu:IsPair s.heap u (.ref i) (.ref j)) (hv:IsPair s.heap v a d) (h1:s.heap.IsTupleIter i b n) (h2:s.heap.IsTupleIter j c n) (hb:s.heap.IsTuple b xs) (hc:s.heap.IsTuple c ys) (he:xs[n]?=none\/ys[n]?=none)
  (q:∀ g,(∀ k o,k≠z->k≠v->k≠i->k≠j->s.heap.get? k=some o->g.get? k=some o)->Q none {s with heap:=g}):wpAny (model prog w) A (pyNext (.ref z)) Q E s:=by
 have t:s.TypeIs (.ref z) "zip":=⟨_,hz,rfl⟩;unfold pyNext;refine wpAny_bind (wpAny_attempt (wpAny_callSpecial?_slot (name:=Str.ofString "__next__") t F.slot_zip_next (wpAny_call_entry F.slot_zip_next t F.entry_zip_next (FO hh D hz hu hv h1 h2 hb hc he fun g e hk ho=>?_) (F.args_zip_next_1 _))));obtain⟨o,ho,hs⟩:=ho;refine wpAny_bind (wpAny_isInstance (T:="StopIteration") (b:=true) ⟨o,ho,hs⟩ isSubtype_stop ?_);exact wpAny_pure (q _ hk)
end
section
variable {X:Cx} {pins:List (Addr×Obj)} {σ:L2.St} {H:Hp} {s:Shared}
theorem ZK {h':Heap} {t':Nat} {fp:List Addr} (I:Inv X pins σ H s) (k:∀ b o,b ∉ fp->s.heap.get? b=some o->h'.get? b=some o) (f:∀ b∈fp,FpOk X pins H b):Inv X pins σ H {s with heap:=h',toks:=t'}:=by
 have nit:∀ b u,H b=some u->b ∉ fp:=fun b u e z=>by rw[(f b z).1] at e;cases e
 refine I.step (g':=s.gens) (d':=s.drawn) (ch:=fp) (fun b hb=>⟨(f b hb).2.2.2.1,(f b hb).2.1,(f b hb).2.2.2.2.1,(f b hb).2.2.2.2.2⟩) (fun b o _ _ hc e _=>k b o hc e) (fun b o _ _ hc e _=>⟨o.slots,k b o hc e⟩) (fun _ _ _ _ n=>n)
  (fun b o hc e=>⟨o,k b o hc e⟩) (fun _ _ e=>e) (fun _ _ _ e=>e) (fun b ps e=>⟨#[],by rw[e];simp⟩) (fun m hm=>?_) (fun b u e=>?_) I.bare
 ·obtain⟨o,es,ep,ho,r⟩:=hm
  exact⟨o,es,ep,k _ o (fun z=>(f _ z).2.1 rfl) ho,r⟩
 ·refine (I.hok b u e).stay (fun c v hc q=>k c v ?_ q) (fun _ q=>q) fun _ _ q=>q
  rcases hc with z|z
  ·rw[z];exact nit b u e
  ·exact nit c _ z
end
noncomputable def Itz (K:Frag) (b c:Addr):It :=
  ⟨fun i H=>∃ xs ys x y,SqT K H b xs/\SqT K H c ys/\xs[i]?=some x/\ys[i]?=some y,
   fun i H x H'=>∃ T p q,H T=none/\x=.ref T/\H'=upd H T (.tup [p,q])/\(∀ xs,SqT K H b xs->xs[i]?=some p)/\∀ ys,SqT K H c ys->ys[i]?=some q,
   fun i H=>∃ xs ys,SqT K H b xs/\SqT K H c ys/\(xs.length<=i\/ys.length<=i)⟩
noncomputable def zTn (z u v i j b c:Addr) (n:Nat) (h:Heap):Prop:=IsZip h z u v .none/\IsPair h u (.ref i) (.ref j)/\(∃ a d,IsPair h v a d)/\h.IsTupleIter i b n/\h.IsTupleIter j c n
theorem BB {P:Program} {w:World} {K:Frag} {elts:List Expr} {x1:Nat} {pos:Pos} {z u v i j b c:Addr} (D:ZipApart z u v i j b c) :
  Turn P w K (.Tuple elts x1 pos) (Itz K b c) [z,u,v,i,j] z (zTn z u v i j b c) where
 mem:=by simp
 obj:=fun n h st k hk=>by
  obtain⟨hz,hu,⟨a,d,hv⟩,⟨o1,e1,_,d1⟩,⟨o2,e2,_,d2⟩⟩:=st;simp only[List.mem_cons,List.not_mem_nil,or_false] at hk;rcases hk with rfl|rfl|rfl|rfl|rfl
  ·exact⟨_,hz,fun w e=>nomatch e⟩
  ·exact⟨_,hu,fun w e=>nomatch e⟩
  ·exact⟨_,hv,fun w e=>nomatch e⟩
  ·exact⟨_,e1,fun w e=>by rw[d1] at e;cases e⟩
  ·exact⟨_,e2,fun w e=>by rw[d2] at e;cases e⟩
 keep:=fun n h h' st k=>by
  obtain⟨hz,hu,⟨a,d,hv⟩,h1,h2⟩:=st;exact⟨k z (by simp) _ hz,k u (by simp) _ hu,⟨a,d,k v (by simp) _ hv⟩,h1.at fun o e=>k i (by simp) o e,h2.at fun o e=>k j (by simp) o e⟩
 item:=by
  intro X hP hw hK hc n pins s σ H E I hf st hg;subst hP hw hK;obtain⟨hz,hu,⟨a,d,hv⟩,h1,h2⟩:=st;obtain⟨xs,ys,x,y,q1,q2,hx,hy⟩:=hg;obtain⟨its,rv,p,sz1⟩:=I.tuple q1;obtain⟨its',rv',p',sz2⟩:=I.tuple q2;obtain⟨vx,hvx,rx⟩:=rv.get hx;obtain⟨vy,hvy,ry⟩:=rv'.get hy;refine DN D hz hu hv h1 h2 (show s.heap.IsTuple b its.toArray from p) (show s.heap.IsTuple c its'.toArray from p') (x:=vx) (y:=vy) (by simpa using hvx) (by simpa using hvy) fun g a1 a2 a3 a4 a5 a6 a7=>?_;have lt:∀ {k o},s.heap.get? k=some o->k≠s.heap.objs.size:=fun e=>Nat.ne_of_lt (Heap.lt_size e);have li:i≠s.heap.objs.size:=by obtain⟨o,e,_⟩:=h1;exact lt e
  have lj:j≠s.heap.objs.size:=by obtain⟨o,e,_⟩:=h2;exact lt e
  refine⟨_,rfl,wpAny_letOwnedTupleGo_zip a1 fun g' z' sb=>?_⟩;have tp:IsPair g' s.heap.objs.size vx vy:=sb.extBut _ _ (Ne.symm (lt hz)) a5;have nf:H s.heap.objs.size=none:=I.hok.fresh %[|3];have I1:Inv X pins σ (upd H s.heap.objs.size (.tup [x,y])) {s with heap:=s.heap.push {cls:=.type "tuple",data:=.seq #[vx,vy]},toks:=s.toks} :=
   I.laid (fun k o e=>Heap.get?_push_of_some _ e) %[|3] ⟨by simp only[List.length_cons,List.length_nil];rw[sizeLine_eq];decide,[vx,vy],.cons rx (.cons ry .nil),⟨_,Heap.get?_push_size _ rfl,rfl,_,rfl⟩⟩
  have ff:∀ k∈[z,u,v,i,j],k≠s.heap.objs.size:=fun k hk=>by
   simp only[List.mem_cons,List.not_mem_nil,or_false] at hk;rcases hk with rfl|rfl|rfl|rfl|rfl
   ·exact lt hz
   ·exact lt hu
   ·exact lt hv
   ·exact li
   ·exact lj
  have f':∀ k∈[z,u,v,i,j],FpOk X pins (upd H s.heap.objs.size (.tup [x,y])) k:=fun k hk=>⟨by rw[Y6 (ff k hk)];exact (hf k hk).1,(hf k hk).2⟩;have I2:Inv X pins σ (upd H s.heap.objs.size (.tup [x,y])) {s with heap:=g',toks:=s.toks}:=by
   refine ZK (s:={s with heap:=s.heap.push {cls:=.type "tuple",data:=.seq #[vx,vy]},toks:=s.toks}) (h':=g') (t':=s.toks) I1 (fun k o hk e=>?_) f';rcases Heap.get?_push_cases e with ⟨rfl,rfl⟩|e'
   ·exact tp
   ·simp only[List.mem_cons,List.not_mem_nil,or_false,not_or] at hk
    exact sb.extBut _ _ hk.1 (a7 k o hk.1 hk.2.2.1 hk.2.2.2.1 hk.2.2.2.2 e')
  refine⟨.ref s.heap.objs.size,_,I2,rfl,⟨_,x,y,nf,rfl,rfl,fun xs' q=>by rw[I.tuple_inj q q1];exact hx,fun ys' q=>by rw[I.tuple_inj q q2];exact hy⟩,?_,fun k hk=>(f' k hk).1⟩;exact⟨z',sb.extBut _ _ D.TIz (a7 _ _ D.TIz D.TITO D.TIi1 D.TIi2 hu),⟨_,_,sb.extBut _ _ D.TOz a2⟩,a3.extBut sb.extBut D.i1z,a4.extBut sb.extBut D.i2z⟩
 done:=by
  intro X hP hw hK hc n pins s σ H E I hf st hg;subst hP hw hK;obtain⟨hz,hu,⟨a,d,hv⟩,h1,h2⟩:=st;obtain⟨xs,ys,q1,q2,hx⟩:=hg;obtain⟨its,rv,p,sz1⟩:=I.tuple q1;obtain⟨its',rv',p',sz2⟩:=I.tuple q2;have l1:=rv.length;have l2:=rv'.length;refine FP (I.ok.hd hc) D hz hu hv h1 h2 (show s.heap.IsTuple b its.toArray from p) (show s.heap.IsTuple c its'.toArray from p') (by rcases hx with hx|hx;exact .inl (by simp;omega);exact .inr (by simp;omega)) fun g k=>⟨rfl,ZK (h':=g) (t':=s.toks) I (fun m o hm e=>?_) hf⟩;simp only[List.mem_cons,List.not_mem_nil,or_false,not_or] at hm;exact k m o hm.1 hm.2.2.1 hm.2.2.2.1 hm.2.2.2.2 e
 self:=fun _ _ _ _ _ st h=>wpAny_pyIter_zip st.1 h
end DL
end
noncomputable section
namespace DL
open PySem PySem.Spec PyProof.Rows L2
noncomputable def bAdd (d e:D) (M:Mem) (Q:DK):Prop :=
 match d,e with
 | .int i,.int j=>Q (.int (i+j)) M
 | .str x,.str y=>x.length+y.length<=sizeLine/\Q (.str (x++y)) M
 | .lst a,.lst b=>∃ xs ys,M a=some (.ls xs)/\M b=some (.ls ys)/\xs.length+ys.length<=sizeLine/\alloc M (.ls (xs++ys)) fun p M'=>Q (.lst p) M'
 | .tup xs,.tup ys=>xs.length+ys.length<=sizeLine/\Q (.tup (xs++ys)) M
 | _,_=>False
noncomputable def bInt (f:Int->Int->Prop) (g:Int->Int->Int) (d e:D) (M:Mem) (Q:DK):Prop :=
 match d,e with
 | .int i,.int j=>f i j/\Q (.int (g i j)) M
 | _,_=>False
noncomputable def bMul (d e:D) (M:Mem) (Q:DK):Prop :=
 match d,e with
 | .int i,.int j=>IntMulOk i j/\Q (.int (i*j)) M
 | .tup xs,.int k=>0<=k/\k<1000000/\xs.length*k.toNat<=sizeLine/\Q (.tup (List.replicate k.toNat xs).flatten) M
 | .lst a,.int k=>∃ xs,M a=some (.ls xs)/\0<=k/\k<1000000/\xs.length*k.toNat<=sizeLine/\alloc M (.ls (List.replicate k.toNat xs).flatten) fun p M'=>Q (.lst p) M'
 | _,_=>False
noncomputable def U6 (j:Int):Prop:=j≠0/\j.natAbs.log2<9000
noncomputable def bOp:Operator->D->D->Mem->DK->Prop
 | .Add=>bAdd
 | .Sub=>bInt (fun _ _=>True) fun i j=>i-j
 | .Mult=>bMul
 | .FloorDiv=>bInt (fun _ j=>U6 j) fun i j=>i.fdiv j
 | .Mod=>bInt (fun _ j=>j≠0) fun i j=>i.fmod j
 | .Pow=>bInt CPow fun i j=>i ^ j.toNat
 | _=>fun _ _ _ _=>False
theorem DD (h:bInt f g d e M Q):∃ i j,d=.int i/\e=.int j/\f i j/\Q (.int (g i j)) M:=by
 cases d with
 | int i=>cases e with
  | int j=>exact⟨i,j,rfl,rfl,h.1,h.2⟩
  | _=>exact h.elim
 | _=>exact h.elim
section
variable {X:Cx}
theorem WX
  (rule:∀ (i j:Int) (t u:Tok) (s:Shared) (Q:Value->Shared->Prop) (E:Value->Shared->Prop),C i j->Q (.int (g i j) s.toks) {s with toks:=s.toks+1}->wpAny (model X.prog X.w) X.A (f (.int i t) (.int j u)) Q E s) :
  OpR X f (Z3 X.K (bInt C g)):=by
 refine (opI (X:=X) (C:=C) (g:=g) rule).imp ?_;rintro x y H Q ⟨d,e,M,R,r1,r2,rm,h,q⟩;obtain⟨i,j,rfl,rfl,h1,h2⟩:=DD h;cases r1;cases r2;exact⟨_,_,rfl,rfl,h1,q _ _ _ _ (.refl H) rm (.int _) h2⟩
theorem Eu:OpR X (binaryOp .Add) (Z3 X.K bAdd):=by
  rintro pins s σ H x y v u Q I rx ry ⟨d,e,M,R,r1,r2,rm,h,q⟩;cases r1 with
  | int i =>
    cases r2<;>first
      | exact (show False from h).elim
      | exact GF pins s σ H _ _ v u Q I rx ry ⟨_,_,rfl,rfl,q _ _ _ _ (.refl H) rm (.int _) h⟩
  | str x =>
    cases r2<;>first
      | exact (show False from h).elim
      | exact JI pins s σ H _ _ v u Q I rx ry ⟨_,_,rfl,rfl,h.1,q _ _ _ _ (.refl H) rm (.str _) h.2⟩
  | lst a =>
    cases r2<;>first
      | exact (show False from h).elim
      | (obtain⟨xs,ys,h1,h2,h3,h4⟩:=h
         obtain⟨vs,e1,q1⟩:=rm _ _ h1;obtain⟨ws,e2,q2⟩:=rm _ _ h2;refine GA pins s σ H _ _ v u Q I rx ry ⟨_,_,vs,ws,rfl,rfl,e1,e2,by rw[q1.length,q2.length];exact h3,fun p hp=>?_⟩;exact q _ _ _ _ (.upd (.inl hp)) (rm.lst hp (q1.append q2)) (.lst p) (h4.at (rm.none hp)))
  | tup h1 q1 =>
    cases r2<;>first
      | exact (show False from h).elim
      | (rename_i h2 q2
         obtain⟨g2,g3⟩:=h;cases q1 with
         | nil=>exact Cm pins s σ H _ _ v u Q I rx ry ⟨_,_,_,rfl,rfl,h1,h2,q _ _ _ _ (.refl H) rm (.tup h2 q2) g3⟩
         | cons qa qb =>
           have q1:=RelDs.cons qa qb;refine Es pins s σ H _ _ v u Q I rx ry ⟨_,_,_,_,rfl,rfl,h1,h2,nofun,by rw[q1.length,q2.length];exact g2,fun z=>?_,fun z p hp=>?_⟩
           . subst z;cases q2;rw[List.append_nil] at g3;exact q _ _ _ _ (.refl H) rm (.tup h1 q1) g3
           . exact q _ _ _ _ (.upd (.inl hp)) (rm.tup hp) (.tup (.of upd_same) ((q1.append q2).ext (.upd (.inl hp)))) g3)
  | _=>exact (show False from h).elim
theorem RelDs.rep {K:Frag} {H:Hp} {vs:List V} {ds:List D} (r:RelDs K H vs ds):∀ k:Nat,RelDs K H (List.replicate k vs).flatten (List.replicate k ds).flatten
 | 0=>.nil
 | k+1=>by
  rw[List.replicate_succ,List.replicate_succ,List.flatten_cons,List.flatten_cons];exact r.append (RelDs.rep r k)
theorem Et:OpR X (binaryOp .Mult) (Z3 X.K bMul):=by
  rintro pins s σ H x y v u Q I rx ry ⟨d,e,M,R,r1,r2,rm,h,q⟩;cases r1 with
  | int i =>
    cases r2<;>first
      | exact (show False from h).elim
      | exact opI (X:=X) (C:=IntMulOk) (g:=fun i j=>i*j) (fun _ _ _ _ _ _ _ hc q=>mul_int q hc) pins s σ H _ _ v u Q I rx ry ⟨_,_,rfl,rfl,h.1,q _ _ _ _ (.refl H) rm (.int _) h.2⟩
  | lst a =>
    cases r2<;>first
      | exact (show False from h).elim
      | (obtain⟨xs,h1,g1,g2,h3,h4⟩:=h
         obtain⟨vs,e1,q1⟩:=rm _ _ h1;refine Gz pins s σ H _ _ v u Q I rx ry ⟨_,_,vs,rfl,rfl,e1,by omega,by omega,by rw[q1.length];exact h3,fun p hp=>?_⟩;exact q _ _ _ _ (.upd (.inl hp)) (rm.lst hp (q1.rep _)) (.lst p) (h4.at (rm.none hp)))
  | tup h1 q1 =>
    cases r2<;>first
      | exact (show False from h).elim
      | (rename_i ds k
         obtain⟨g2,g3,g4,g5⟩:=h;by_cases hx:ds=[]\/k=1
         . have e:(List.replicate k.toNat ds).flatten=ds:=by
             rcases hx with rfl|rfl
             . simp
             . simp
           rw[e] at g5;refine Cj pins s σ H _ _ v u Q I rx ry ⟨_,_,_,rfl,rfl,h1,?_,g2,g3,q _ _ _ _ (.refl H) rm (.tup h1 q1) g5⟩;rcases hx with rfl|hx
           . cases q1;exact .inl rfl
           . exact .inr hx
         . have hn:ds≠[]:=fun z=>hx (.inl z);by_cases hk:k=0
           . subst hk;refine Cl pins s σ H _ _ v u Q I rx ry ⟨_,_,rfl,rfl,h1,?_,fun p hp=>?_⟩
             . intro z;subst z;cases q1;exact hn rfl
             . exact q _ _ _ _ (.upd (.inl hp)) (rm.tup hp) (.tup (.of upd_same) .nil) g5
           . refine Er pins s σ H _ _ v u Q I rx ry ⟨_,_,_,rfl,rfl,h1,?_,by have:¬ k=1:=fun z=>hx (.inr z);omega,g3,by rw[q1.length];exact g4,fun p hp=>?_⟩
             . intro z;subst z;cases q1;exact hn rfl
             . exact q _ _ _ _ (.upd (.inl hp)) (rm.tup hp) (.tup (.of upd_same) ((q1.rep _).ext (.upd (.inl hp)))) g5)
  | _=>exact (show False from h).elim
theorem op_b (op:Operator):OpR X (binaryOp op) (Z3 X.K (bOp op)):=by
 cases op with
 | Add=>exact Eu
 | Sub=>exact WX fun _ _ _ _ _ _ _ _ q=>sub_int q
 | Mult=>exact Et
 | FloorDiv=>exact WX fun _ _ _ _ _ _ _ hc q=>floordiv_int hc.1 q (.inl (PyProof.noPylong_of_log2 hc.2))
 | Mod=>exact WX fun _ _ _ _ _ _ _ hc q=>mod_int' hc q
 | Pow=>exact WX fun _ _ _ _ _ _ _ hc q=>pow_int_small hc.1 hc.2.1 hc.2.2 q
 | _=>intro pins s σ H x y v u Q I rx ry ⟨d,e,M,R,r1,r2,rm,h,q⟩;exact (show False from h).elim
end
mutual
inductive Py (M:Mem):D->PyData->Prop
 | non:Py M .non .none
 | bl (b:Bool):Py M (.bl b) (.bool b)
 | int (i:Int):Py M (.int i) (.int i)
 | str (x:Str) (hx:(PyData.str x).canLay0=true):Py M (.str x) (.str x)
 | tup {ds:List D} {ps:List PyData} (h:Pys M ds ps):Py M (.tup ds) (.tuple ps)
 | fz {ds:List D} {ps:List PyData} (h:Pys M ds ps):Py M (.fz ds) (.list ps)
 | lst {a:Addr} {ds:List D} {ps:List PyData} (e:M a=some (.ls ds)) (h:Pys M ds ps):Py M (.lst a) (.list ps)
inductive Pys (M:Mem):List D->List PyData->Prop
 | nil:Pys M [] []
 | cons {d:D} {p:PyData} {ds:List D} {ps:List PyData} (h:Py M d p) (r:Pys M ds ps):Pys M (d::ds) (p::ps)
end
section
variable {X:Cx} {pins:List (Addr×Obj)} {s:Shared} {σ:L2.St} {H:Hp} {M:Mem}
theorem Pys.reads (I:L2.Inv X pins σ H s) (rm:RepM X.K H M) (h:Pys M ds ps):∀ {vs:List V} {us:List Value},RelDs X.K H vs ds->Vals vs us->∃ as,ReadsAll s.heap us ps as/\PyData.canLayAll0 ps=true:=by
 induction h using Pys.rec (motive_1:=fun d p _=>∀ (v:V) (u:Value),RelD X.K H v d->RelV v u->∃ as,Reads s.heap u p as/\p.canLay0=true) with
 | non=>rename_i v u r e;cases r;cases e;exact⟨_,.none,rfl⟩
 | bl b=>rename_i v u r e;cases r;cases e;exact⟨_,.bool b,rfl⟩
 | int i=>rename_i v u r e;cases r;obtain⟨_,rfl⟩:=e;exact⟨_,.int i _,rfl⟩
 | str x hx=>rename_i v u r e;cases r;obtain⟨_,rfl⟩:=e;exact⟨_,.str x _,hx⟩
 | tup h ih =>
  rename_i v u r e;cases r with
  | tup ht r =>
   cases e;obtain⟨its,rv,⟨o,e1,e2,n,e3⟩,_⟩:=I.tuple ht;obtain⟨as,q,c⟩:=ih r rv;exact⟨as,.tuple e1 e2 e3 q,c⟩
 | fz h ih =>
  rename_i v u r e;cases r with
  | fz hf r =>
   cases e;obtain⟨its,rv,⟨o,n,e1,e2,_,e3⟩,_⟩:=I.list hf.sq;obtain⟨as,q,c⟩:=ih r rv;exact⟨_,.list e1 e2 e3 q,c⟩
 | lst e h ih =>
  rename_i v u r z;cases r;cases z;obtain⟨vs,e0,r⟩:=rm _ _ e;obtain⟨its,rv,⟨o,n,e1,e2,_,e3⟩,_⟩:=I.list (.of e0);obtain⟨as,q,c⟩:=ih r rv;exact⟨_,.list e1 e2 e3 q,c⟩
 | nil=>intro vs us r e;cases r;cases e;exact⟨_,.nil,rfl⟩
 | cons h r i1 i2 =>
  intro vs us q z;cases q with
  | cons q qs =>
   cases z with
   | cons z zs =>
    obtain⟨as,a1,a2⟩:=i1 _ _ q z;obtain⟨bs,b1,b2⟩:=i2 qs zs;exact⟨_,.cons a1 b1,show (_&&_)=true by rw[a2,b2];rfl⟩
theorem Py.reads (I:L2.Inv X pins σ H s) (rm:RepM X.K H M) (h:Py M d p) (r:RelD X.K H v d) (e:RelV v u):∃ as,Reads s.heap u p as/\p.canLay0=true:=by
 obtain⟨as,a1,a2⟩:=Pys.reads I rm (.cons h .nil) (.cons r .nil) (.cons e .nil);cases a1 with
 | cons b1 b2=>exact⟨_,b1,by revert a2;show (_&&_)=true->_;cases p.canLay0 with|true=>exact fun _=>rfl|false=>exact fun z=>absurd z Bool.false_ne_true⟩
end
noncomputable def cInt (g:Int->Int->Bool) (d e:D) (M:Mem) (Q:DK):Prop :=
 match d,e with
 | .int i,.int j=>Q (.bl (g i j)) M
 | _,_=>False
noncomputable def cEq (neg:Bool) (d e:D) (M:Mem) (Q:DK):Prop :=
 match d with
 | .dct p=>neg=false/\(∃ kvs,M p=some (.dk kvs))/\(∃ xs,e=.tup xs)/\Q (.bl false) M
 | d=>∃ a b,Py M d a/\Py M e b/\min a.depth b.depth<=60/\Q (.bl (if neg then !PyData.eqv a b else PyData.eqv a b)) M
theorem A3 (h1:Py M d a) (h2:Py M e b) (h3:min a.depth b.depth<=60) (q:Q (.bl (if neg then !PyData.eqv a b else PyData.eqv a b)) M):cEq neg d e M Q:=by
 cases d with
 | dct p=>cases h1
 | _=>exact⟨a,b,h1,h2,h3,q⟩
theorem AD (h:cEq neg d e M Q):(∃ p kvs xs,d=.dct p/\neg=false/\M p=some (.dk kvs)/\e=.tup xs/\Q (.bl false) M)\/∃ a b,Py M d a/\Py M e b/\min a.depth b.depth<=60/\Q (.bl (if neg then !PyData.eqv a b else PyData.eqv a b)) M:=by
 cases d with
 | dct p=>obtain⟨h0,⟨kvs,h1⟩,⟨xs,h2⟩,h3⟩:=h;exact .inl ⟨p,kvs,xs,rfl,h0,h1,h2,h3⟩
 | _=>exact .inr h
noncomputable def sdAt {α:Type}:List Str->List α->Str->Option α
 | x::xs,d::ds,k=>if k=x then some d else sdAt xs ds k
 | _,_,_=>none
theorem EntK.exact (h:EntK l xs us):(l.all fun e=>isExactStrKey e.key)=true:=by
 induction h with
 | nil=>rfl
 | cons hk _ ih=>rw [List.all_cons,hk,ih];rfl
theorem EntK.find (h:EntK l xs us):(l.find? fun e=>e.key.isStr k).map (·.val)=sdAt xs us k:=by
 induction h with
 | nil=>rfl
 | @cons e x t es xs us hk _ ih =>
  rw[List.find?_cons,hk];show _=if k=x then some e.val else sdAt xs us k
  by_cases c:k=x
  ·subst c
   rw[if_pos rfl,show (Value.str k t).isStr k=true from by simp[Value.isStr]];rfl
  ·rw[if_neg c,show (Value.str x t).isStr k=false from by simp[Value.isStr];exact fun z=>c z.symm];exact ih
theorem US {K:Frag} {H:Hp} {k:Str} {d:D}:∀ {xs:List Str} {vs:List V} {ds:List D},RelDs K H vs ds->sdAt xs ds k=some d->∃ v,sdAt xs vs k=some v/\RelD K H v d
 | [],_,_,_,e=>by simp[sdAt] at e
 | _::_,_,_,.nil,e=>by simp[sdAt] at e
 | x::xs,_,_,.cons h r,e=>by
  unfold sdAt at e ⊢;by_cases c:k=x
  ·rw[if_pos c] at e ⊢;cases e;exact⟨_,rfl,h⟩
  ·rw[if_neg c] at e ⊢;exact US r e
theorem VG:∀ {xs:List Str} {vs:List V} {us:List Value},Vals vs us->sdAt xs vs k=some v->∃ u,sdAt xs us k=some u/\RelV v u
 | [],_,_,_,e=>by simp[sdAt] at e
 | _::_,_,_,.nil,e=>by simp[sdAt] at e
 | x::xs,_,_,.cons h r,e=>by
  unfold sdAt at e ⊢;by_cases c:k=x
  ·rw[if_pos c] at e ⊢;cases e;exact⟨_,rfl,h⟩
  ·rw[if_neg c] at e ⊢;exact VG r e
theorem EntK.mem (h:EntK l xs us):(sdAt xs us k).isSome=xs.contains k:=by
 induction h with
 | nil=>rfl
 | @cons e x t es xs us hk _ ih =>
  show (if k=x then some e.val else sdAt xs us k).isSome=_;rw[List.contains_cons];by_cases c:k=x
  ·subst c;simp
  ·rw[if_neg c,ih];simp[c]
theorem A9
  (ho:s.heap.get? a=some o) (hd:o.data=.dict es ep) (en:EntK es.toList xs us) (h:Q (sdAt xs us k) {s with toks:=s.toks+1}):wpAny (model prog w) A (dictGet a (.str k tk)) Q E s:=by
 unfold dictGet
 try with_reducible refine wpAny_holding ?_
 refine wpAny_bind (wpAny_pyHash_str (wpAny_bind (PyProof.Rows.KTD.kt_dictFind_strs (s:={s with toks:=s.toks+1}) ho hd (by obtain⟨l⟩:=es;simpa using en.exact) ?_)));have hq:Q (findBy (fun k v=>v.isStr k) es k) {s with toks:=s.toks+1}:=by
  have hf:findBy (fun k v=>v.isStr k) es k=(es.toList.find? fun e=>e.key.isStr k).map (·.val):=by
   obtain⟨l⟩:=es;simp[findBy]
  rw[hf,en.find];exact h
 rw[findBy_of_findIdx?] at hq;cases hi:es.findIdx? fun e=>e.key.isStr k with
 | none=>rw [hi] at hq;exact wpAny_pure hq
 | some i=>rw [hi] at hq;exact wpAny_bind (wpAny_dictEntries (s:={s with toks:=s.toks+1}) ho hd (wpAny_pure hq))
noncomputable def cIs (neg:Bool) (d e:D) (M:Mem) (Q:DK):Prop :=
 match e with
 | .non=>Q (.bl (if neg then (match d with | .non=>false|_=>true) else (match d with | .non=>true|_=>false))) M
 | .bl k=>Q (.bl (if neg then (match d with | .bl j=>!(j==k)|_=>true) else (match d with | .bl j=>j==k|_=>false))) M
 | _=>False
noncomputable def VQ (neg:Bool) (d:D) (xs:List D) (M:Mem) (Q:DK):Prop:=∃ ps p,Pys M xs ps/\Py M d p/\p.depth<=60/\Q (.bl (if neg then !(ps.any fun q=>PyData.eqv q p) else ps.any fun q=>PyData.eqv q p)) M
noncomputable def cIn (neg:Bool) (d e:D) (M:Mem) (Q:DK):Prop :=
 match e with
 | .str y=>∃ x,d=.str x/\Q (.bl (if neg then !(!(Builtin.Str.occurrences y x 0 y.length 1).isEmpty) else !(Builtin.Str.occurrences y x 0 y.length 1).isEmpty)) M
 | .tup xs=>VQ neg d xs M Q
 | .fz xs=>VQ neg d xs M Q
 | .lst a=>∃ xs,M a=some (.ls xs)/\VQ neg d xs M Q
 | .sd xs _=>∃ x,d=.str x/\Q (.bl (if neg then !(xs.contains x) else xs.contains x)) M
 | _=>False
noncomputable def cOp:CmpOp->D->D->Mem->DK->Prop
 | .Eq=>cEq false
 | .NotEq=>cEq true
 | .Lt=>cInt fun i j=>decide (i<j)
 | .LtE=>cInt fun i j=>decide (i<=j)
 | .Gt=>cInt fun i j=>decide (j<i)
 | .GtE=>cInt fun i j=>decide (j<=i)
 | .In=>cIn false
 | .NotIn=>fun _ _ _ _=>False
 | .Is=>cIs false
 | .IsNot=>cIs true
section
variable {X:Cx}
theorem Dx (h:cInt g d e M Q):∃ i j,d=.int i/\e=.int j/\Q (.bl (g i j)) M:=by
 cases d with
 | int i=>cases e with
  | int j=>exact⟨i,j,rfl,rfl,h⟩
  | _=>exact h.elim
 | _=>exact h.elim
theorem WW (h:OpR X f (rI0 fun i j=>.bl (g i j))):OpR X f (Z3 X.K (cInt g)):=by
 refine h.imp ?_;rintro x y H Q ⟨d,e,M,R,r1,r2,rm,h,q⟩;obtain⟨i,j,rfl,rfl,h⟩:=Dx h;cases r1;cases r2;exact⟨_,_,rfl,rfl,q _ _ _ _ (.refl H) rm (.bl _) h⟩
theorem Wx (ha:s.TypeIs (.ref a) "dict") (hb:s.TypeIs (.ref b) "tuple") (h:Q .notImplemented s) :
  wpAny (model prog w) A (call (.builtin "dict.__eq__") [.ref a,.ref b]) Q E s:=by
 refine wpAny_call_entry PySem.F.slot_dict_eq ha PySem.F.entry_dict_eq ?_ (PySem.F.args_dict_eq_2 _ _);show wpAny _ _ (Builtin.Dict.dictSlotArgs "__eq__" ⟨[.ref a,.ref b],[]⟩ >>= _) _ _ s;refine wpAny_bind ?_;unfold Builtin.Dict.dictSlotArgs;refine wpAny_bind (wpAny_notOrdered_dict ha ?_);show wpAny _ _ (pure (Value.ref a,Value.ref b)) _ _ s;refine wpAny_pure ?_;refine wpAny_bind (wpAny_isInstance (T:="tuple") hb PySem.F.sub_tuple_dict ?_);simp only[Bool.not_false,if_true];refine wpAny_bind (wpAny_rule ?_);exact wpAny_pure ⟨_,rfl,h⟩
theorem X3 (l b:Addr) (items:Array Value) (n:Nat) (dd:Option Addr) (sl:Array (Option Value)) (ob:Obj) (hcb:ob.cls=.type "dict") :
  Meets (Builtin.«tuple.__eq__» ⟨[.ref l,.ref b],[]⟩) (fun _ R s=>s.heap.get? l=some {cls:=.type "tuple",dict:=dd,data:=.seq items n,slots:=sl}/\s.heap.get? b=some ob/\R (.ok (.ret .notImplemented)) s) :=
 .of_wp fun prog w A R s h=>by obtain⟨hp,g,d,tk,os⟩:=s;obtain⟨hl,hb,h⟩:=h;obtain⟨c,dd2,da2,sl2⟩:=ob;cases hcb;have f1:=F.sub_dict_tuple;wp_walk using wpAny_loadPart' hl,wpAny_loadPart' hb;exact⟨_,rfl,h⟩
theorem VA (ha:s.heap.get? a=some oa) (hca:oa.cls=.type "dict") (hb:s.heap.IsTuple b items) (hu:A.units<cLine):SeqAt.RcAt A s (.ref a) (.ref b) false:=fun prog w E Q h=>by
 have hne:a≠b:=fun e=>by
  subst e;obtain⟨o2,ho2,hc2,_⟩:=hb;rw[ha] at ho2;cases ho2;rw[hca] at hc2;exact absurd hc2 (by simp)
 obtain⟨⟨cls2,dd2,data2,sl2⟩,ho2,hc2,n2,hd2⟩:=id hb;simp only at hc2 hd2;subst hc2 hd2;exact (SeqAt.rc_eq_decline_or (k:=false) ⟨_,ha,hca⟩ ⟨_,ho2,rfl⟩ %[|4] F.sub_tuple_dict F.slot_dict_eq F.slot_tuple_eq_refl
  (fun _ hq=>Wx ⟨_,ha,hca⟩ ⟨_,ho2,rfl⟩ hq)
  (fun _ hq=>call_meets F.slot_tuple_eq_refl ⟨_,ho2,rfl⟩ F.entry_tuple_eq (F.args_tuple_eq_2 _ _) (X3 b a items n2 dd2 sl2 oa hca) ⟨ho2,ha,hq⟩)
  (fun _ hq=>wpAny_isSame_ref_other hne ha ho2 (by rw[hca];simp) hq) (.inr hu) h)
theorem GE (hu:X.A.units+64<cLine):OpR X (compareOp .Eq) (Z3 X.K (cEq false)):=by
 rintro pins s σ H x y v u Q I rx ry ⟨d,e,M,R,r1,r2,rm,h,q⟩;rcases AD h with ⟨p,kvs,xs,rfl,_,h1,rfl,hq⟩|⟨a,b,p1,p2,hd,h⟩
 ·cases r1;cases rx
  cases r2 with
  | tup ht r =>
   cases ry;obtain⟨vs,e1,_⟩:=rm _ _ h1;obtain⟨_,_,vs,_,pp⟩:=(show ObjOk X.prog X.w H s.heap p (.dK vs) from I.hok p _ e1);obtain⟨o,es,ep,h1,h2,_⟩:=pp;obtain⟨its,rv,hT,_⟩:=I.tuple ht;exact VA h1 h2.1 hT %[|5] X.prog X.w _ _ ⟨.bl _,H,I,rfl,q _ _ _ _ (.refl H) rm (.bl _) hq⟩
 obtain⟨as,a1,a2⟩:=p1.reads I rm r1 rx;obtain⟨bs,b1,b2⟩:=p2.reads I rm r2 ry;exact SeqAt.compareEq_reads a1 b1 a2 b2 %[|5] ⟨.bl _,H,I,rfl,q _ _ _ _ (.refl H) rm (.bl _) h⟩
theorem GB (hu:X.A.units+64<cLine):OpR X (compareOp .NotEq) (Z3 X.K (cEq true)):=by
 rintro pins s σ H x y v u Q I rx ry ⟨d,e,M,R,r1,r2,rm,h,q⟩;rcases AD h with ⟨_,_,_,_,h0,_⟩|⟨a,b,p1,p2,hd,h⟩
 ·cases h0
 obtain⟨as,a1,a2⟩:=p1.reads I rm r1 rx;obtain⟨bs,b1,b2⟩:=p2.reads I rm r2 ry;exact SeqAt.compareNe_reads a1 b1 a2 b2 %[|5] ⟨.bl _,H,I,rfl,q _ _ _ _ (.refl H) rm (.bl _) h⟩
noncomputable def isB (d e:D):Option Bool :=
 match e with
 | .non=>some (match d with | .non=>true|_=>false)
 | .bl k=>some (match d with | .bl j=>j==k|_=>false)
 | _=>none
theorem AC (h:cIs neg d e M Q):(e=.non\/∃ k,e=.bl k)/\∃ b,isB d e=some b/\Q (.bl (if neg then !b else b)) M:=by
 cases e with
 | non =>
  refine⟨.inl rfl,_,rfl,?_⟩;cases d<;>exact h
 | bl k =>
  refine⟨.inr ⟨k,rfl⟩,_,rfl,?_⟩;cases d<;>exact h
 | _=>exact (show False from h).elim
theorem CQ {K:Frag} {H:Hp} {x y:V} {d e:D} {v u:Value} {b:Bool} (r1:RelD K H x d) (rx:RelV x v) (r2:RelD K H y e) (ry:RelV y u) (he:e=.non\/∃ k,e=.bl k) (hb:isB d e=some b):plainIs v u=true/\(v==u)=b:=by
 rcases he with rfl|⟨k,rfl⟩
 ·cases r2;cases ry;cases hb
  cases r1<;>first|(cases rx;exact⟨rfl,rfl⟩)|(obtain⟨t,rfl⟩:=rx;exact⟨rfl,rfl⟩)
 ·cases r2;cases ry;cases hb
  cases r1<;>first|(cases rx;exact⟨rfl,rfl⟩)|(obtain⟨t,rfl⟩:=rx;exact⟨rfl,rfl⟩)|(rename_i j;cases rx;cases j<;>cases k<;>exact⟨rfl,rfl⟩)
theorem GC:OpR X (compareOp .Is) (Z3 X.K (cIs false)):=by
 rintro pins s σ H x y v u Q I rx ry ⟨d,e,M,R,r1,r2,rm,h,q⟩;obtain⟨he,b,hb,h⟩:=AC h;obtain⟨a1,a2⟩:=CQ r1 rx r2 ry he hb;refine wpAny_is_plain a1 ?_;rw[a2];exact⟨.bl _,H,I,rfl,q _ _ _ _ (.refl H) rm (.bl _) h⟩
theorem AV:OpR X (compareOp .IsNot) (Z3 X.K (cIs true)):=by
 rintro pins s σ H x y v u Q I rx ry ⟨d,e,M,R,r1,r2,rm,h,q⟩;obtain⟨he,b,hb,h⟩:=AC h;obtain⟨a1,a2⟩:=CQ r1 rx r2 ry he hb;refine wpAny_isNot_plain a1 ?_;rw[a2];exact⟨.bl _,H,I,rfl,q _ _ _ _ (.refl H) rm (.bl _) h⟩
noncomputable def eqTo (h:Heap) (p:PyData) (y:Value):Bool:=by
 classical exact decide (∃ d as,Reads h y d as/\d.canLay0=true/\PyData.eqv d p=true)
theorem Aw (r:Reads h y d as) (c:d.canLay0=true):eqTo h p y=PyData.eqv d p:=by
 unfold eqTo;cases e:PyData.eqv d p with
 | true=>simpa using ⟨d,⟨as,r⟩,c,e⟩
 | false =>
  simp only[decide_eq_false_iff_not];rintro⟨d',as',r',c',e'⟩;have:=SeqAt.Reads.unique d d' y as as' c r r';subst this;rw[e] at e';cases e'
theorem FN (h:(a&&b)=true):a=true/\b=true:=by
 cases a with
 | true=>exact⟨rfl,h⟩
 | false=>exact absurd h Bool.false_ne_true
theorem Ug (r:ReadsAll h us ps as):PyData.canLayAll0 ps=true->us.any (eqTo h p)=ps.any fun q=>PyData.eqv q p:=by
 induction r using ReadsAll.rec (motive_1:=fun _ _ _ _=>True) with
 | nil=>exact fun _=>rfl
 | cons r rr _ ih =>
  intro c;obtain⟨c1,c2⟩:=FN (show (_&&_)=true from c);rw[List.any_cons,List.any_cons,Aw r c1,ih c2]
 | _=>trivial
theorem Af:∀ {us:List Value} {ps:List PyData} {as:List Addr},ReadsAll h us ps as->PyData.canLayAll0 ps=true->∀ y∈us,∃ d as,Reads h y d as/\d.canLay0=true
 | _,_,_,.nil,_,_,hy=>by cases hy
 | _,_,_,.cons r rr,c,y,hy=>by
  obtain⟨c1,c2⟩:=FN (show (_&&_)=true from c);rcases List.mem_cons.mp hy with rfl|hy
  ·exact⟨_,_,r,c1⟩
  ·exact Af rr c2 y hy
theorem Uy (hu:A.units+64<cLine) (r:ReadsAll s.heap us ps as) (c:PyData.canLayAll0 ps=true) (rx:Reads s.heap x p bs) (cx:p.canLay0=true) (hd:p.depth<=60) :
  ∀ y∈us,SeqAt.EqAt A s y x (eqTo s.heap p y):=fun y hy=>by
 obtain⟨d,as',ry,cy⟩:=Af r c y hy;rw[Aw ry cy];exact SeqAt.eqAt_reads d p A s y x _ _ ry rx cy cx %[|5]
theorem FU (lo:(a==sysModules)=false)
  (ho:s.heap.get? a=some o) (ex:o.ExactDict) (hd:o.data=.dict es ep) (en:EntK es.toList xs us) (h:Q (.bool (xs.contains k)) {s with toks:=s.toks+1}):wpAny (model prog w) A (compareOp .In (.str k tk) (.ref a)) Q E s:=by
 have tI:s.TypeIs (.ref a) "dict":=⟨o,ho,ex.1⟩;show wpAny _ _ (do return .bool ((<- contains (.ref a) (.str k tk)))) Q E s;refine wpAny_bind ?_;unfold contains
 try with_reducible refine wpAny_holding ?_
 refine wpAny_bind (wpAny_specialOf tI PySem.F.slot_dict_contains.lookup ?_);show wpAny _ _ (if (some (Value.builtin "dict.__contains__")==some Value.none)=true then _ else _) _ E s;rw[if_neg (by rw[beq_builtin_none];exact Bool.false_ne_true)];refine wpAny_bind (wpAny_callSpecialUnlessNone?_slot (name:=Str.ofString "__contains__") tI PySem.F.slot_dict_contains
  (wpAny_call_entry PySem.F.slot_dict_contains tI PySem.F.entry_dict_contains ?_ (PySem.F.args_dict_contains_2 _ _)))
 show wpAny _ _ (dictGet a (.str k tk) >>= _) _ _ s;refine wpAny_bind (A9 ho hd en ?_);have hb:=en.mem (k:=k);cases hs:sdAt xs us k with
 | some v =>
  rw[hs] at hb;rw[<- hb] at h;show wpAny _ _ (ret (.bool true)) _ _ _;exact wpAny_pure ⟨_,rfl,wpAny_truthy_bool (wpAny_pure h)⟩
 | none =>
  rw[hs] at hb;rw[<- hb] at h;show wpAny _ _ (Builtin.Dict.pendingKey? a (.str k tk) >>= _) _ _ _;exact wpAny_bind (wpAny_pendingKey_other lo (wpAny_pure ⟨_,rfl,wpAny_truthy_bool (wpAny_pure h)⟩))
theorem GD (hu:X.A.units+66<cLine):OpR X (compareOp .In) (Z3 X.K (cIn false)):=by
 rintro pins s σ H x y v u Q I rx ry ⟨d,e,M,R,r1,r2,rm,h,q⟩;cases r2 with
 | str z =>
  obtain⟨x',rfl,h2⟩:=(show ∃ x,d=.str x/\R (.bl (if false then !(!(Builtin.Str.occurrences z x 0 z.length 1).isEmpty) else !(Builtin.Str.occurrences z x 0 z.length 1).isEmpty)) M from h);cases r1;exact AU pins s σ H _ _ v u Q I rx ry ⟨_,_,rfl,rfl,q _ _ _ _ (.refl H) rm (.bl _) h2⟩
 | @tup a vs ds ht rr =>
  obtain⟨ps,p,p1,p2,hd,h⟩:=(show VQ false d ds M R from h);cases (show u=Value.ref a from ry);obtain⟨its,rv,ht',_⟩:=I.tuple ht;obtain⟨as,a1,a2⟩:=p1.reads I rm rr rv;obtain⟨bs,b1,b2⟩:=p2.reads I rm r1 rx;refine SeqAt.in_tupleAt (items:=its.toArray) (eqTo s.heap p) ht' (fun y hy=>Uy (A:=X.A.in1) (by show X.A.units+1+64<cLine;omega) a1 a2 b1 b2 hd y (by simpa using hy)) ⟨.bl _,H,I,rfl,q _ _ _ _ (.refl H) rm (.bl _) ?_⟩;rw[List.any_toArray,Ug a1 a2];exact h
 | @fz a vs ds ht rr =>
  obtain⟨ps,p,p1,p2,hd,h⟩:=(show VQ false d ds M R from h);cases (show u=Value.ref a from ry);obtain⟨its,rv,ht',_⟩:=I.list ht.sq;obtain⟨as,a1,a2⟩:=p1.reads I rm rr rv;obtain⟨bs,b1,b2⟩:=p2.reads I rm r1 rx;refine SeqAt.in_listAt (items:=its.toArray) (eqTo s.heap p) ht'.isList (fun y hy=>Uy (A:=X.A.in1) (by show X.A.units+1+64<cLine;omega) a1 a2 b1 b2 hd y (by simpa using hy)) ⟨.bl _,H,I,rfl,q _ _ _ _ (.refl H) rm (.bl _) ?_⟩;rw[List.any_toArray,Ug a1 a2];exact h
 | lst a =>
  obtain⟨ds,e0,ps,p,p1,p2,hd,h⟩:=(show ∃ xs,M a=some (.ls xs)/\VQ false d xs M R from h);cases (show u=Value.ref a from ry);obtain⟨vs,e1,rr⟩:=rm _ _ e0;obtain⟨its,rv,ht',_⟩:=I.list (.of e1);obtain⟨as,a1,a2⟩:=p1.reads I rm rr rv;obtain⟨bs,b1,b2⟩:=p2.reads I rm r1 rx;refine SeqAt.in_listAt (items:=its.toArray) (eqTo s.heap p) ht'.isList (fun y hy=>Uy (A:=X.A.in1) (by show X.A.units+1+64<cLine;omega) a1 a2 b1 b2 hd y (by simpa using hy)) ⟨.bl _,H,I,rfl,q _ _ _ _ (.refl H) rm (.bl _) ?_⟩;rw[List.any_toArray,Ug a1 a2];exact h
 | @sd a xs vs ds T rr =>
  obtain⟨x',rfl,h2⟩:=(show ∃ x,d=.str x/\R (.bl (if false then !(xs.contains x) else xs.contains x)) M from h);cases r1;obtain⟨tk,rfl⟩:=rx;cases (show u=Value.ref a from ry);obtain⟨lo,o,es,ep,us,lk,ex,hd,en,rv⟩:=T;exact FU lo (I.kIn _ _ lk) ex hd en ⟨.bl _,H,I.tok _,rfl,q _ _ _ _ (.refl H) rm (.bl _) h2⟩
 | _=>exact (show False from h).elim
theorem opF:OpR X f (Z3 X.K fun _ _ _ _=>False):=by
 rintro pins s σ H x y v u Q I rx ry ⟨d,e,M,R,r1,r2,rm,h,q⟩;exact h.elim
theorem op_c (hu:X.A.units+66<cLine) (op:CmpOp):OpR X (compareOp op) (Z3 X.K (cOp op)):=by
 cases op with
 | Eq=>exact GE %[|5]
 | NotEq=>exact GB %[|5]
 | Lt=>exact WW Ir
 | LtE=>exact WW Iu
 | Gt=>exact WW Iv
 | GtE=>exact WW Iw
 | In=>exact GD hu
 | NotIn=>exact opF
 | Is=>exact GC
 | IsNot=>exact AV
noncomputable def iOp (d e:D) (M:Mem) (Q:DK):Prop :=
 match d,e with
 | .tup xs,.int i=>∃ v,atI xs i=some v/\Q v M
 | .fz xs,.int i=>∃ v,atI xs i=some v/\Q v M
 | .lst a,.int i=>∃ xs v,M a=some (.ls xs)/\atI xs i=some v/\Q v M
 | .str z,.int i=>z.length<=sizeLine/\∃ c,atI z.cps.toList i=some c/\Q (.str ⟨#[c]⟩) M
 | .sd xs ds,.str k=>∃ v,sdAt xs ds k=some v/\Q v M
 | _,_=>False
theorem RelDs.atI {K:Frag} {H:Hp} {vs:List V} {ds:List D} {i:Int} {d:D} (r:RelDs K H vs ds) (e:L2.atI ds i=some d):∃ v,L2.atI vs i=some v/\RelD K H v d:=by
 unfold L2.atI at e ⊢;rw[r.length];cases q:ixN ds.length i with
 | none=>rw [q] at e;cases e
 | some j=>rw [q] at e;exact r.get e
theorem EL (hn:∀ i,e≠.int i) (hk:∀ i,e≠.str i) (h:iOp d e M Q):False:=by
 unfold iOp at h;split at h
 ·exact hn _ rfl
 ·exact hn _ rfl
 ·exact hn _ rfl
 ·exact hn _ rfl
 ·exact hk _ rfl
 ·exact h
theorem EK (h:iOp d (.str k) M Q):∃ xs ds v,d=.sd xs ds/\sdAt xs ds k=some v/\Q v M:=by
 cases d with
 | sd xs ds=>obtain⟨v,h1,h2⟩:=(show ∃ v,sdAt xs ds k=some v/\Q v M from h);exact⟨xs,ds,v,rfl,h1,h2⟩
 | _=>exact (show False from h).elim
theorem IC:IxR X (fun x y H Q=>∃ p xs vs k v,x=.ref p/\y=.str k/\TabK X.K p xs vs/\sdAt xs vs k=some v/\Q v H):=by
 intro value slice pins s σ H x y v u Q I rx ry h hs;obtain⟨p,xs,vs,k,z,rfl,rfl,⟨lo,o,es,ep,us,lk,ex,hd,en,rv⟩,e,q⟩:=h;cases rx;obtain⟨tk,rfl⟩:=ry;have ho:=I.kIn _ _ lk;have tI:s.TypeIs (.ref p) "dict":=⟨o,ho,ex.1⟩;obtain⟨w',ew,rw'⟩:=VG rv e;refine subscriptTail_builtinR (x:=w') tI PySem.F.slot_dict_getitem.lookup ?_ hs;unfold getItem
 try with_reducible refine wpAny_holding ?_
 refine wpAny_bind (wpAny_sequenceKey tI %[|4] ?_);refine wpAny_bind (wpAny_callSpecial?_slot (name:=Str.ofString "__getitem__") tI PySem.F.slot_dict_getitem
  (wpAny_call_entry PySem.F.slot_dict_getitem tI PySem.F.entry_dict_getitem ?_ (PySem.F.args_dict_getitem_2 _ _)))
 show wpAny _ _ (dictGet p (.str k tk) >>= _) _ _ s;refine wpAny_bind (A9 ho hd en ?_);rw[ew];exact wpAny_pure ⟨w',rfl,wpAny_pure ⟨rfl,z,H,I.tok _,rw',q⟩⟩
theorem ix_i:IxR X (Z3 X.K iOp):=by
 rintro value slice pins s σ H x y v u Q I rx ry ⟨d,e,M,R,r1,r2,rm,h,q⟩ hs;cases r2 with
 | int i =>
  cases r1 with
  | tup ht r =>
   obtain⟨d,e,h⟩:=(show ∃ v,L2.atI _ i=some v/\R v M from h);obtain⟨w,e1,r1⟩:=r.atI e;exact GN value slice pins s σ H _ _ v u Q I rx ry ⟨_,_,_,_,rfl,rfl,ht,e1,q _ _ _ _ (.refl H) rm r1 h⟩ hs
  | fz ht r =>
   obtain⟨d,e,h⟩:=(show ∃ v,L2.atI _ i=some v/\R v M from h);obtain⟨w,e1,r1⟩:=r.atI e;exact An value slice pins s σ H _ _ v u Q I rx ry ⟨_,_,_,_,rfl,rfl,ht.sq,e1,q _ _ _ _ (.refl H) rm r1 h⟩ hs
  | lst a =>
   obtain⟨xs,d,e0,e,h⟩:=(show ∃ xs v,M a=some (.ls xs)/\L2.atI xs i=some v/\R v M from h);obtain⟨vs,e1,r⟩:=rm _ _ e0;obtain⟨w,e1',r1⟩:=r.atI e;exact An value slice pins s σ H _ _ v u Q I rx ry ⟨_,_,_,_,rfl,rfl,.of e1,e1',q _ _ _ _ (.refl H) rm r1 h⟩ hs
  | str z =>
   obtain⟨hz,c,e,h⟩:=(show z.length<=sizeLine/\∃ c,L2.atI z.cps.toList i=some c/\R (.str ⟨#[c]⟩) M from h);exact GO value slice pins s σ H _ _ v u Q I rx ry ⟨_,_,_,rfl,rfl,hz,e,q _ _ _ _ (.refl H) rm (.str _) h⟩ hs
  | _=>exact (show False from h).elim
 | str k =>
  obtain⟨xs,ds,w',rfl,e,h⟩:=EK h;cases r1 with
  | sd T r =>
   obtain⟨z,e1,r1⟩:=US r e;exact IC value slice pins s σ H _ _ v u Q I rx ry ⟨_,_,_,_,_,rfl,rfl,T,e1,q _ _ _ _ (.refl H) rm r1 h⟩ hs
 | _=>exact (EL (by rintro i ⟨⟩) (by rintro i ⟨⟩) h).elim
noncomputable def cutG {α:Type} (xs:List α) (lo hi:Option Int):List α:=(xs.drop (HT.sIx xs.length 0 lo)).take (HT.sIx xs.length xs.length hi-HT.sIx xs.length 0 lo)
theorem RelDs.cut {K:Frag} {H:Hp} {vs:List V} {ds:List D} (r:RelDs K H vs ds) (lo hi:Option Int):RelDs K H (cutV vs lo hi) (cutG ds lo hi):=by
 unfold cutV cutG;rw[r.length];exact (r.drop _).take _
noncomputable def sOp (d:D) (lo hi:Option Int) (M:Mem) (Q:DK):Prop :=
 match d with
 | .fz xs=>alloc M (.ls (cutG xs lo hi)) fun p M'=>Q (.lst p) M'
 | .lst a=>∃ xs,M a=some (.ls xs)/\alloc M (.ls (cutG xs lo hi)) fun p M'=>Q (.lst p) M'
 | .tup xs=>Q (.tup (cutG xs lo hi)) M
 | _=>False
noncomputable def Iy (K:Frag) (f:D->Option Int->Option Int->Mem->DK->Prop):V->Option Int->Option Int->Hp->VK->Prop:=fun x lo hi H Q=>∃ d M R,RelD K H x d/\RepM K H M/\f d lo hi M R/\∀ d' M' v H',HExt K H H'->RepM K H' M'->RelD K H' v d'->R d' M'->Q v H'
theorem sl_s:SlR X (Iy X.K sOp):=by
 rintro pins s σ H x v vl vu lo hi sl Q I rx hs pl pu ⟨d,M,R,r1,rm,h,q⟩;cases r1 with
 | fz ht r =>
  exact Ac pins s σ H _ v vl vu lo hi sl Q I rx hs pl pu ⟨_,_,rfl,ht.sq,fun p hp=>q _ _ _ _ (.upd (.inl hp)) (rm.lst hp (r.cut lo hi)) (.lst p) ((show alloc M (.ls (cutG _ lo hi)) fun p M'=>R (.lst p) M' from h).at (rm.none hp))⟩
 | lst a =>
  obtain⟨xs,e0,h⟩:=(show ∃ xs,M a=some (.ls xs)/\alloc M (.ls (cutG xs lo hi)) fun p M'=>R (.lst p) M' from h);obtain⟨vs,e1,r⟩:=rm _ _ e0;exact Ac pins s σ H _ v vl vu lo hi sl Q I rx hs pl pu ⟨_,_,rfl,.of e1,fun p hp=>q _ _ _ _ (.upd (.inl hp)) (rm.lst hp (r.cut lo hi)) (.lst p) (h.at (rm.none hp))⟩
 | tup ht r =>
  rename_i vs ds;by_cases hw:HT.sIx vs.length 0 lo=0/\HT.sIx vs.length vs.length hi=vs.length
  ·have e:cutG ds lo hi=ds:=by
    unfold cutG;rw[<- r.length,hw.1,hw.2,List.drop_zero,Nat.sub_zero,r.length,List.take_length]
   have h':R (.tup (cutG ds lo hi)) M:=h;rw[e] at h';exact DW pins s σ H _ v vl vu lo hi sl Q I rx hs pl pu ⟨_,_,rfl,ht,hw,q _ _ _ _ (.refl H) rm (.tup ht r) h'⟩
  ·exact FX pins s σ H _ v vl vu lo hi sl Q I rx hs pl pu ⟨_,_,rfl,ht,hw,fun p hp=>q _ _ _ _ (.upd (.inl hp)) (rm.tup hp) (.tup (.of upd_same) ((r.cut lo hi).ext (.upd (.inl hp)))) h⟩
 | _=>exact (show False from h).elim
noncomputable def fAbs:List D->Mem->DK->Prop
 | [.int i],M,Q=>Q (.int (if i<0 then -i else i)) M
 | _,_,_=>False
noncomputable def fMax:List D->Mem->DK->Prop
 | [.int i,.int j],M,Q=>Q (.int (if j > i then j else i)) M
 | _,_,_=>False
noncomputable def fMin:List D->Mem->DK->Prop
 | [.int i,.int j],M,Q=>Q (.int (if j<i then j else i)) M
 | _,_,_=>False
noncomputable def fStr:List D->Mem->DK->Prop
 | [.int i],M,Q=>i.natAbs.log2<1920/\Q (.str (toString i)) M
 | _,_,_=>False
noncomputable def fLen:List D->Mem->DK->Prop
 | [.tup xs],M,Q=>Q (.int xs.length) M
 | [.fz xs],M,Q=>Q (.int xs.length) M
 | [.lst a],M,Q=>∃ xs,M a=some (.ls xs)/\Q (.int xs.length) M
 | [.str z],M,Q=>z.length<=sizeLine/\Q (.int z.length) M
 | _,_,_=>False
noncomputable def Uv:List D->Mem->DK->Prop
 | [.int i,.int j],M,Q=>U6 j/\Q (.tup [.int (i.fdiv j),.int (i.fmod j)]) M
 | _,_,_=>False
noncomputable def Yr:List D->Mem->DK->Prop
 | [.tup xs],M,Q=>Q (.tup xs) M
 | [.fz xs],M,Q=>Q (.tup xs) M
 | [.lst a],M,Q=>∃ xs,M a=some (.ls xs)/\Q (.tup xs) M
 | _,_,_=>False
noncomputable def YV:List D->Mem->DK->Prop
 | [.tup xs],M,Q=>alloc M (.ls xs) fun p M'=>Q (.lst p) M'
 | [.fz xs],M,Q=>alloc M (.ls xs) fun p M'=>Q (.lst p) M'
 | [.lst a],M,Q=>∃ xs,M a=some (.ls xs)/\alloc M (.ls xs) fun p M'=>Q (.lst p) M'
 | _,_,_=>False
noncomputable def fInt:List D->Mem->DK->Prop
 | [.int i],M,Q=>Q (.int i) M
 | [.bl b],M,Q=>Q (.int (if b then 1 else 0)) M
 | _,_,_=>False
theorem RelDs.one {K:Frag} {H:Hp} {vs:List V} {d:D} (r:RelDs K H vs [d]):∃ v,vs=[v]/\RelD K H v d:=by
 cases r with|cons h q=>cases q;exact⟨_,rfl,h⟩
theorem RelDs.two {K:Frag} {H:Hp} {vs:List V} {d e:D} (r:RelDs K H vs [d,e]):∃ v w,vs=[v,w]/\RelD K H v d/\RelD K H w e:=by
 cases r with|cons h q=>cases q with|cons h' q'=>cases q';exact⟨_,_,rfl,h,h'⟩
theorem HP:CallR X (.builtin "abs") (Xk X.K fAbs):=by
 refine (Dv (X:=X)).imp ?_;rintro xs H Q ⟨ds,M,R,r,rm,h,q⟩;unfold fAbs at h;split at h
 ·obtain⟨v,rfl,ra⟩:=r.one;cases ra;exact⟨_,rfl,q _ _ _ _ (.refl H) rm (.int _) h⟩
 ·exact h.elim
theorem HJ (hc:X.calm=true):CallR X (.builtin "max") (Xk X.K fMax):=by
 refine (Bp (X:=X) hc).imp ?_;rintro xs H Q ⟨ds,M,R,r,rm,h,q⟩;unfold fMax at h;split at h
 ·obtain⟨v,w,rfl,r1,r2⟩:=r.two;cases r1;cases r2;exact⟨_,_,rfl,q _ _ _ _ (.refl H) rm (.int _) h⟩
 ·exact h.elim
theorem HI (hc:X.calm=true):CallR X (.builtin "min") (Xk X.K fMin):=by
 refine (Bo (X:=X) hc).imp ?_;rintro xs H Q ⟨ds,M,R,r,rm,h,q⟩;unfold fMin at h;split at h
 ·obtain⟨v,w,rfl,r1,r2⟩:=r.two;cases r1;cases r2;exact⟨_,_,rfl,q _ _ _ _ (.refl H) rm (.int _) h⟩
 ·exact h.elim
theorem HH:CallR X (.type "str") (Xk X.K fStr):=by
 refine (UD (X:=X)).imp ?_;rintro xs H Q ⟨ds,M,R,r,rm,h,q⟩;unfold fStr at h;split at h
 ·obtain⟨v,rfl,ra⟩:=r.one;cases ra;exact⟨_,rfl,h.1,q _ _ _ _ (.refl H) rm (.str _) h.2⟩
 ·exact h.elim
theorem HM:CallR X (.type "int") (Xk X.K fInt):=by
 refine (Bq (X:=X)).imp ?_;rintro xs H Q ⟨ds,M,R,r,rm,h,q⟩;unfold fInt at h;split at h
 ·obtain⟨v,rfl,ra⟩:=r.one;cases ra;exact .inl ⟨_,rfl,q _ _ _ _ (.refl H) rm (.int _) h⟩
 ·obtain⟨v,rfl,ra⟩:=r.one;cases ra;exact .inr ⟨_,rfl,q _ _ _ _ (.refl H) rm (.int _) h⟩
 ·exact h.elim
theorem HK:CallR X (.builtin "len") (Xk X.K fLen):=by
 refine (UF (X:=X) |>.or UE).imp ?_;rintro xs H Q ⟨ds,M,R,r,rm,h,q⟩;unfold fLen at h;split at h
 ·obtain⟨v,rfl,ra⟩:=r.one;cases ra with|tup ht r=>exact .inl ⟨_,_,rfl,.inr ht,q _ _ _ _ (.refl H) rm (by rw[r.length];exact .int _) h⟩
 ·obtain⟨v,rfl,ra⟩:=r.one;cases ra with|fz ht r=>exact .inl ⟨_,_,rfl,.inl ht.sq,q _ _ _ _ (.refl H) rm (by rw[r.length];exact .int _) h⟩
 ·obtain⟨v,rfl,ra⟩:=r.one
  obtain⟨xs,e0,h⟩:=h;obtain⟨vs,e1,r'⟩:=rm _ _ e0;cases ra;exact .inl ⟨_,_,rfl,.inl (.of e1),q _ _ _ _ (.refl H) rm (by rw[r'.length];exact .int _) h⟩
 ·obtain⟨v,rfl,ra⟩:=r.one;cases ra;exact .inr ⟨_,rfl,h.1,q _ _ _ _ (.refl H) rm (.int _) h.2⟩
 ·exact h.elim
theorem Br:CallR X (.builtin "divmod") (Xk X.K Uv):=by
 rintro pins s σ H xs us Q I rv ⟨ds,M,R,r,rm,h,q⟩;unfold Uv at h;split at h
 ·rename_i i j
  obtain⟨v,w,rfl,r1,r2⟩:=r.two;cases r1;cases r2;obtain⟨u,w',rfl,⟨t,rfl⟩,⟨t',rfl⟩⟩:=V3 rv;refine divmod_int h.1.1 ?_ (.inl (PyProof.noPylong_of_log2 h.1.2));have hn:H s.heap.objs.size=none:=I.hok.fresh %[|3];refine⟨.ref s.heap.objs.size,upd H s.heap.objs.size (.tup [.int (i.fdiv j),.int (i.fmod j)]),?_,rfl,q _ _ _ _ (.upd (.inl hn)) (rm.tup hn) (.tup (.of upd_same) (.cons (.int _) (.cons (.int _) .nil))) h.2⟩;refine I.laid (fun b o e=>Heap.get?_push_of_some _ e) %[|3] ⟨by simp only[List.length_cons,List.length_nil];rw[sizeLine_eq];decide,[.int (i.fdiv j) s.toks,.int (i.fmod j) (s.toks+1)],.cons ⟨_,rfl⟩ (.cons ⟨_,rfl⟩ .nil),?_⟩;exact⟨_,Heap.get?_push_size s.heap rfl,rfl,0,rfl⟩
 ·exact h.elim
theorem Dw:CallR X (.type "tuple") (Xk X.K Yr):=by
 refine (VB (X:=X)).imp ?_;rintro xs H Q ⟨ds,M,R,r,rm,h,q⟩;unfold Yr at h;split at h
 ·obtain⟨v,rfl,ra⟩:=r.one;cases ra with|tup ht r=>exact⟨_,_,rfl,.inr ⟨ht,q _ _ _ _ (.refl H) rm (.tup ht r) h⟩⟩
 ·obtain⟨v,rfl,ra⟩:=r.one;cases ra with|fz ht r=>exact⟨_,_,rfl,.inl ⟨ht.sq,fun p hp=>q _ _ _ _ (.upd (.inl hp)) (rm.tup hp) (.tup (.of upd_same) (r.ext (.upd (.inl hp)))) h⟩⟩
 ·obtain⟨v,rfl,ra⟩:=r.one
  obtain⟨xs,e0,h⟩:=h;obtain⟨vs,e1,r'⟩:=rm _ _ e0;cases ra;exact⟨_,_,rfl,.inl ⟨.of e1,fun p hp=>q _ _ _ _ (.upd (.inl hp)) (rm.tup hp) (.tup (.of upd_same) (r'.ext (.upd (.inl hp)))) h⟩⟩
 ·exact h.elim
end
end DL
end
noncomputable section
namespace DL
open PySem PySem.Spec PyProof.Rows L2
noncomputable def tyD (M:Mem):D->Option String
 | .non=>some "NoneType"
 | .bl _=>some "bool"
 | .int _=>some "int"
 | .str _=>some "str"
 | .tup _=>some "tuple"
 | .fz _=>some "list"
 | .lst a=>match M a with|some (.ls _)=>some "list" | _=>none
 | .dct a=>match M a with|some (.dk _)=>some "dict" | _=>none
 | .exc _ _=>some "exc"
 | _=>none
noncomputable def isiT (a b:String):Bool:=a==b || (a == "bool" && b == "int") || (a == "exc" && b == "ValueError")
noncomputable def fIsi:List D->Mem->DK->Prop
 | [d,.ty T],M,Q=>∃ t,tyD M d=some t/\(T="int"\/T="bool"\/T="str"\/T="tuple"\/T="list"\/T="dict"\/T="ValueError")/\Q (.bl (isiT t T)) M
 | [.non,.cls _],M,Q=>Q (.bl false) M
 | [d,.cls c],M,Q=>∃ m,d=.exc m (xarg d)/\Q (.bl (ZR m c)) M
 | [d,.tup cs],M,Q=>∃ m,∃ ns:List Str,d=.exc m (xarg d)/\cs=ns.map .cls/\Q (.bl (ns.any (ZR m))) M
 | _,_,_=>False
theorem ZQ (K:Frag) (h:t="NoneType"\/t="bool"\/t="int"\/t="str"\/t="tuple"\/t="list"\/t="dict")
  (h':T="int"\/T="bool"\/T="str"\/T="tuple"\/T="list"\/T="dict"\/T="ValueError"):PySem.W.kitOne K (.type t) (.type T)=some (isiT t T):=by
 rcases h with rfl|rfl|rfl|rfl|rfl|rfl|rfl<;>rcases h' with rfl|rfl|rfl|rfl|rfl|rfl|rfl<;>kernel_rfl
section
variable {X:Cx} {rz:Bool} {Xe:DSt->DK}
theorem Wg (I:L2.Inv X pins σ H s) (r:RelD X.K H v (.exc n x)):∃ a C,v=.ref a/\n∈xNames/\YN X.K n C/\∃ ox od,PySem.W.InstAt s.heap a ox C od:=by
 cases r with
 | @exc a C n hn hi hc h =>
  obtain⟨ob,vs,h1,h2,h3,h4⟩:=(I.hok _ _ h).1;exact⟨a,C,rfl,hn,hc,ob,none,h1,h2,by unfold PySem.W.notCls;rw[h4],by rw[h3];trivial⟩
 | @excF a C d n v x hn hi hc h hd r =>
  obtain⟨ob,vs,h1,h2,h3,h4⟩:=(I.hok _ _ h).1;obtain⟨o,ho⟩:=(I.hok _ _ hd).2.1;exact⟨a,C,rfl,hn,hc,ob,some o,h1,h2,by unfold PySem.W.notCls;rw[h4],by rw[h3];exact ho⟩
theorem HL (tab:Zj X.K=true):CallR X (.builtin "isinstance") (Xk X.K fIsi):=by
 rintro pins s σ H xs us Q I rv ⟨ds,M,R,r,rm,h,q⟩;unfold fIsi at h;split at h
 ·rename_i d T
  obtain⟨v,w,rfl,r1,r2⟩:=r.two;cases r2;obtain⟨u,w',rfl,ru,rw'⟩:=V3 rv;cases (show w'=Value.type T from rw');obtain⟨t,e,hT,h⟩:=h;have fin:∀ tk,EP X pins σ Q (.bool (isiT t T)) {s with toks:=tk}:=fun tk=>⟨.bl _,H,I.tok tk,rfl,q _ _ _ _ (.refl H) rm (.bl _) h⟩;cases r1 with
  | non=>cases e;cases (show u=Value.none from ru);exact PySem.W.kia_one PySem.W.kitx_none I.kIn True.intro (ZQ _ (by simp) hT) (fun z=>nomatch z) fin
  | bl b=>cases e;cases (show u=Value.bool b from ru);exact PySem.W.kia_one PySem.W.kitx_bool I.kIn True.intro (ZQ _ (by simp) hT) (fun z=>nomatch z) fin
  | int i=>cases e;obtain⟨t,rfl⟩:=(show ∃ t,u=Value.int i t from ru);exact PySem.W.kia_one PySem.W.kitx_int I.kIn True.intro (ZQ _ (by simp) hT) (fun z=>nomatch z) fin
  | str x=>cases e;obtain⟨t,rfl⟩:=(show ∃ t,u=Value.str x t from ru);exact PySem.W.kia_one PySem.W.kitx_str I.kIn True.intro (ZQ _ (by simp) hT) (fun z=>nomatch z) fin
  | @tup a vs ds ht _ =>
   cases e;cases (show u=Value.ref a from ru);obtain⟨its,_,⟨o,h1,h2,_⟩,_⟩:=I.tuple ht;exact PySem.W.kia_one PySem.W.kitx_tuple I.kIn ⟨o,h1,h2⟩ (ZQ _ (by simp) hT) (fun z=>nomatch z) fin
  | @fz a vs ds ht _ =>
   cases e;cases (show u=Value.ref a from ru);obtain⟨its,_,⟨o,n,h1,h2,_⟩,_⟩:=I.list ht.sq;exact PySem.W.kia_one PySem.W.kitx_list I.kIn ⟨o,h1,h2⟩ (ZQ _ (by simp) hT) (fun z=>nomatch z) fin
  | lst a =>
   cases (show u=Value.ref a from ru);simp only[tyD] at e;split at e<;>cases e;rename_i ds e0;obtain⟨vs,e1,_⟩:=rm _ _ e0;obtain⟨its,_,⟨o,n,h1,h2,_⟩,_⟩:=I.list (.of e1);exact PySem.W.kia_one PySem.W.kitx_list I.kIn ⟨o,h1,h2⟩ (ZQ _ (by simp) hT) (fun z=>nomatch z) fin
  | dct a =>
   cases (show u=Value.ref a from ru);simp only[tyD] at e;split at e<;>cases e;rename_i ds e0;obtain⟨vs,e1,_⟩:=rm _ _ e0;obtain⟨_,_,vs,_,p⟩:=(show ObjOk X.prog X.w H s.heap a (.dK vs) from I.hok a _ e1);obtain⟨o,es,ep,h1,h2,_⟩:=p;exact PySem.W.kia_one PySem.W.kitx_dict I.kIn ⟨o,h1,h2.1⟩ (ZQ _ (by simp) hT) (fun z=>nomatch z) fin
  | @exc a C n hn hi hc hx =>
   obtain⟨a,C,ev,hn,hc,hx⟩:=Wg I (.exc hn hi hc hx);cases ev;cases e;cases (show u=Value.ref a from ru);have e:isiT "exc" T=(T == "ValueError"):=by rcases hT with rfl|rfl|rfl|rfl|rfl|rfl|rfl<;>decide
   rw[e] at fin;exact PySem.W.kia_one (Wa (YA tab hn hc).1) I.kIn hx ((YA tab hn hc).2.2.1 T hT) (fun z=>nomatch z) fin
  | @excF a C d n v x hn hi hc hx hd rr0 =>
   obtain⟨a,C,ev,hn,hc,hx⟩:=Wg I (.excF hn hi hc hx hd rr0);cases ev;cases e;cases (show u=Value.ref a from ru);have e:isiT "exc" T=(T == "ValueError"):=by rcases hT with rfl|rfl|rfl|rfl|rfl|rfl|rfl<;>decide
   rw[e] at fin;exact PySem.W.kia_one (Wa (YA tab hn hc).1) I.kIn hx ((YA tab hn hc).2.2.1 T hT) (fun z=>nomatch z) fin
  | _=>cases e
 ·rename_i c
  obtain⟨v,w,rfl,r1,r2⟩:=r.two;obtain⟨u,w',rfl,ru,rw'⟩:=V3 rv;cases r1;cases r2 with
  | @cls D' c' hn' hc' =>
   cases (show w'=Value.ref D' from rw');cases (show u=Value.none from ru);exact PySem.W.kia_one PySem.W.kitx_none I.kIn True.intro (Cw tab hn' hc') (fun z=>nomatch z) fun tk=>⟨.bl _,H,I.tok tk,rfl,q _ _ _ _ (.refl H) rm (.bl _) h⟩
 ·rename_i d c _
  obtain⟨v,w,rfl,r1,r2⟩:=r.two;obtain⟨u,w',rfl,ru,rw'⟩:=V3 rv;obtain⟨m,ed,h⟩:=h;rw[ed] at r1;cases r2 with
  | @cls D' c' hn' hc' =>
   cases (show w'=Value.ref D' from rw');obtain⟨a,C,ev,hn,hc,hx⟩:=Wg I r1;subst ev
   ·cases (show u=Value.ref a from ru)
    have fin:∀ tk,EP X pins σ Q (.bool (ZR m c)) {s with toks:=tk}:=fun tk=>⟨.bl _,H,I.tok tk,rfl,q _ _ _ _ (.refl H) rm (.bl _) h⟩;exact PySem.W.kia_one (Wa (YA tab hn hc).1) I.kIn hx ((YA tab hn hc).2.2.2 c D' hn' hc').2 (fun z=>nomatch z) fin
 ·rename_i d cs
  obtain⟨v,w,rfl,r1,r2⟩:=r.two;obtain⟨u,w',rfl,ru,rw'⟩:=V3 rv;obtain⟨m,ns,ed,rfl,h⟩:=h;rw[ed] at r1;cases r2 with
  | @tup b vs ds ht rr =>
   cases (show w'=Value.ref b from rw');obtain⟨a,C,ev,hn,hc,hx⟩:=Wg I r1;subst ev
   ·cases (show u=Value.ref a from ru)
    obtain⟨its,rv2,⟨o,h1,h2,n2,h3⟩,_⟩:=I.tuple ht;have key:∀ {ns:List Str} {vs:List V} {its:List Value},RelDs X.K H vs (ns.map .cls)->Vals vs its->PySem.W.kitAny X.K (.ref C) its=some (ns.any (ZR m)):=by
     intro ns
     induction ns with
     | nil=>intro vs its r q;cases r;cases q;rfl
     | cons c ns ih =>
      intro vs its r q;cases r with
      | cons e r =>
       cases e with
       | @cls D' c' hn' hc' =>
        cases q with
        | cons e2 q =>
         cases e2;have k1:=((YA tab hn hc).2.2.2 c D' hn' hc').2;show (match PySem.W.kitOne X.K (.ref C) (.ref D') with|some true=>some true|some false=>PySem.W.kitAny X.K (.ref C) _|none=>none)=_;rw[k1,List.any_cons];cases ZR m c with
         | true=>rfl
         | false=>exact ih r q
    have fin:∀ tk,EP X pins σ Q (.bool (ns.any (ZR m))) {s with toks:=tk}:=fun tk=>⟨.bl _,H,I.tok tk,rfl,q _ _ _ _ (.refl H) rm (.bl _) h⟩;obtain⟨oc,od,odt,osl⟩:=o;cases h2;cases h3;exact PySem.W.kia_tup (Wa (YA tab hn hc).1) I.kIn hx h1 (key rr rv2) (fun z=>nomatch z) fin
 ·exact h.elim
noncomputable def fAll:List D->Mem->DK->Prop
 | [.lst a],M,Q=>∃ bs:List Bool,M a=some (.ls (bs.map .bl))/\Q (.bl (bs.all id)) M
 | _,_,_=>False
noncomputable def fAny:List D->Mem->DK->Prop
 | [.lst a],M,Q=>∃ bs:List Bool,M a=some (.ls (bs.map .bl))/\Q (.bl (bs.any id)) M
 | _,_,_=>False
theorem Bs {K:Frag} {H:Hp} {bs:List Bool}:∀ {vs:List V} {us:List Value},RelDs K H vs (bs.map .bl)->Vals vs us->LSm.BoolsAre us bs:=by
 induction bs with
 | nil=>intro vs us r q;cases r;cases q;exact .nil
 | cons b bs ih =>
  intro vs us r q;cases r with
  | cons rb r =>
   cases rb;cases q with
   | cons e q =>
    cases e;exact .cons _ (ih r q)
theorem HN (hc:X.calm=true):CallR X (.builtin "all") (Xk X.K fAll):=by
 rintro pins s σ H xs us Q I rv ⟨ds,M,R,r,rm,h,q⟩;unfold fAll at h;split at h
 ·rename_i a
  obtain⟨v,rfl,ra⟩:=r.one;cases ra;obtain⟨u,rfl,ru⟩:=WE rv;cases (show u=Value.ref a from ru);obtain⟨bs,e0,h⟩:=h;obtain⟨vs,e1,r1⟩:=rm _ _ e0;obtain⟨its,r2,pl,_⟩:=I.list (.of e1);have hb:=Bs r1 r2;have hl:=pl.isList;have hlt:a<s.heap.objs.size:=by obtain⟨_,e,_⟩:=hl;exact Heap.lt_size e
  refine call_all_walk (wpAny_pyIter_list hl ?_);refine⟨s.heap.objs.size,[s.heap.objs.size,a],[s.heap.objs.size],its.toArray.size,_,_,fun i=>(bs[i]?).getD true,rfl,Walks.list (A:=X.A.in1) (I.ok.hd hc) _ a (Nat.ne_of_lt hlt) its.toArray,
   ⟨⟨_,Heap.get?_push_size _ rfl,rfl,rfl⟩,hl.push _⟩,fun i v s' Q' E' hP hQ=>?_,fun h' tk hk=>?_⟩
  ·obtain⟨b,e,rfl⟩:=hb.get i v (by simpa using hP)
   simp only[e,Option.getD_some] at hQ;exact wpAny_truthy_bool hQ
  ·have e:((List.range its.toArray.size).all fun i=>(bs[i]?).getD true)=bs.all id:=by
    rw[List.size_toArray,hb.length];exact LSm.range_all bs
   rw[e];exact⟨.bl _,H,I.kept (LSm.kept_iter hk),rfl,q _ _ _ _ (.refl H) rm (.bl _) h⟩
 ·exact h.elim
end
noncomputable def truD (d:D) (M:Mem) (Q:Bool->Mem->Prop):Prop :=
 match d with
 | .non=>Q false M
 | .bl b=>Q b M
 | .int i=>Q (i != 0) M
 | .str y=>y.length<=sizeLine/\Q ((y.length:Int) != 0) M
 | .tup xs=>Q (!xs.isEmpty) M
 | .fz xs=>Q (!xs.isEmpty) M
 | .lst a=>∃ xs,M a=some (.ls xs)/\Q (!xs.isEmpty) M
 | _=>False
noncomputable def dTru (t:DE):DT:=fun δ M Q=>t δ M fun d M1=>truD d M1 Q
section
variable {X:Cx} {rz:Bool} {Xe:DSt->DK} {a b c e:Expr} {es rest:List Expr} {ta tb tc:DE} {t:DA} {tA tB:DT} {pos:Pos}
theorem RelDs.isEmpty {K:Frag} {H:Hp} {vs:List V} {ds:List D} (r:RelDs K H vs ds):vs.isEmpty=ds.isEmpty:=by cases r<;>rfl
theorem GX (ha:PE X a (lift (X.L rz Xe) ta)) (he:∀ whole,isTrue a X.env whole=(do let v <- whole;standAt a.pos;holding [v] (truthy v))):PT X a (Za (X.L rz Xe) (dTru ta)) :=
 (BT ha he).imp fun σ H Q ⟨δ,M,R,rs,rm,t,q⟩=>⟨δ,M,_,rs,rm,t,fun d M' v H' x m r h=>by
  cases r with
  | non=>exact⟨_,rfl,q _ _ _ x m h⟩
  | bl b=>exact⟨_,rfl,q _ _ _ x m h⟩
  | int i=>exact⟨_,rfl,q _ _ _ x m h⟩
  | str y=>exact⟨_,⟨h.1,rfl⟩,q _ _ _ x m h.2⟩
  | tup ht r=>exact⟨_,.inr (.inl ⟨_,ht,rfl⟩),q _ _ _ x m (by rw[r.isEmpty];exact h)⟩
  | fz ht r=>exact⟨_,.inl ⟨_,ht.sq,rfl⟩,q _ _ _ x m (by rw[r.isEmpty];exact h)⟩
  | lst a =>
   obtain⟨xs,e0,h⟩:=h;obtain⟨vs,e1,r⟩:=m _ _ e0;exact⟨_,.inl ⟨_,.of e1,rfl⟩,q _ _ _ x m (by rw[r.isEmpty];exact h)⟩
  | _=>exact (show False from h).elim⟩
theorem GZ (hu:X.A.units+66<cLine) (ha:PE X a (lift (X.L rz Xe) ta)) (hb:PE X b (lift (X.L rz Xe) tb)) (hm:behindInMarks op b=false):PT X (.Compare a [op] [b] pos) (Za (X.L rz Xe) (VW (d2 (cOp op) ta tb))) :=
 (Ee (op_c hu op) ha hb hm).imp fun σ H Q ⟨δ,M,R,rs,rm,t,q⟩=>Az ⟨δ,M,_,rs,rm,t,fun d M' v H' x m r ⟨k,e,h⟩=>by
  subst e;cases r;exact⟨k,rfl,q _ _ _ x m h⟩⟩
theorem HB (hu:X.A.units+66<cLine) (ha:PE X a (lift (X.L rz Xe) ta)) (hb:PE X b (lift (X.L rz Xe) tb)) (hm:behindInMarks op b=false):PE X (.Compare a [op] [b] pos) (lift (X.L rz Xe) (d2 (cOp op) ta tb)) :=
 (En (op_c hu op) ha hb hm).imp fun _ _ _=>Az
noncomputable def Vs (f g:D->D->Mem->DK->Prop) (ta tb tc:DE):DE:=fun δ M Q=>ta δ M fun x M1=>tb δ M1 fun y M2=>f x y M2 fun z M3=>∃ k,z=.bl k/\if k=true then tc δ M3 fun w M4=>g y w M4 Q else Q (.bl false) M3
theorem VX (h:lift Λ (Vs f g ta tb tc) σ H Q):Jw (Z3 Λ.K f) (Z3 Λ.K g) (lift Λ ta) (lift Λ tb) (lift Λ tc) σ H Q:=by
 obtain⟨δ,M,R,rs,rm,t,q⟩:=h;refine seq2 (R:=fun x y M2=>f x y M2 _) rs rm t fun x y M2 v u H2 x2 m2 r1 r2 t2=>⟨x,y,M2,_,r1,r2,m2,t2,fun d M3 w H3 x3 m3 r3 hq7=>?_⟩;obtain⟨k,e,h⟩:=hq7;subst e;cases r3;refine⟨k,rfl,?_⟩;cases k with
 | true=>exact⟨δ,M3,_,rs.ext (x2.trans x3),m3,h,fun z M4 w4 H4 x4 m4 r4 h4=>⟨y,z,M4,R,(r2.ext x3).ext x4,r4,m4,h4,fun d' M' v' H' x5 m5 r5=>q d' M' v' H' (((x2.trans x3).trans x4).trans x5) m5 r5⟩⟩
 | false=>exact q _ _ _ _ (x2.trans x3) m3 (.bl false) h
theorem Dh (hu:X.A.units+66<cLine) (ha:PE X a (lift (X.L rz Xe) ta)) (hb:PE X b (lift (X.L rz Xe) tb)) (hc:PE X c (lift (X.L rz Xe) tc)) (hm:lastMarks [op,op'] [b,c]=false) :
  PE X (.Compare a [op,op'] [b,c] pos) (lift (X.L rz Xe) (Vs (cOp op) (cOp op') ta tb tc)):=(Ch (op_c hu op) (op_c hu op') ha hb hc hm).imp fun _ _ _=>VX
theorem D5 (hu:X.A.units+66<cLine) (ha:PE X a (lift (X.L rz Xe) ta)) (hb:PE X b (lift (X.L rz Xe) tb)) (hc:PE X c (lift (X.L rz Xe) tc)) (hm:lastMarks [op,op'] [b,c]=false) :
  PT X (.Compare a [op,op'] [b,c] pos) (Za (X.L rz Xe) (VW (Vs (cOp op) (cOp op') ta tb tc))):=by
 refine (BU (op_c hu op) (op_c hu op') ha hb hc hm).imp ?_;rintro σ H Q ⟨δ,M,R,rs,rm,t,q⟩;exact VX ⟨δ,M,_,rs,rm,t,fun d M' v H' x m r ⟨k,e,h⟩=>by
  subst e;cases r;exact⟨k,rfl,q _ _ _ x m h⟩⟩
theorem PW.imp {t t':TT} (h:PW X a t) (i:∀ σ H Q,t' σ H Q->t σ H Q):PW X a t':=fun whole pins s σ H Q I q=>h whole pins s σ H Q I (i _ _ _ q)
theorem GW (ha:PT X a (Za (X.L rz Xe) tA)) (hb:PW X (.BoolOp .And (b::rest) pos) (Za (X.L rz Xe) tB)):PW X (.BoolOp .And (a::b::rest) pos) (Za (X.L rz Xe) (dAnd tA tB)) :=
 PW.imp (Gf ha hb) fun σ H Q ⟨δ,M,R,rs,rm,t,q⟩=>⟨δ,M,_,rs,rm,t,fun k M' H' x m h=>by
  cases k with
  | true=>exact⟨δ,M',R,rs.ext x,m,h,fun b M2 H2 x2 m2=>q b M2 H2 (x.trans x2) m2⟩
  | false=>exact q _ _ _ x m h⟩
theorem II (ha:PT X a (Za (X.L rz Xe) tA)) (hb:PW X (.BoolOp .Or (b::rest) pos) (Za (X.L rz Xe) tB)):PW X (.BoolOp .Or (a::b::rest) pos) (Za (X.L rz Xe) (dOr tA tB)) :=
 PW.imp (Ij ha hb) fun σ H Q ⟨δ,M,R,rs,rm,t,q⟩=>⟨δ,M,_,rs,rm,t,fun k M' H' x m h=>by
  cases k with
  | false=>exact⟨δ,M',R,rs.ext x,m,h,fun b M2 H2 x2 m2=>q b M2 H2 (x.trans x2) m2⟩
  | true=>exact q _ _ _ x m h⟩
theorem GY (ha:PT X a (Za (X.L rz Xe) tA)):PT X (.UnaryOp .Not a pos) (Za (X.L rz Xe) (dNot tA)) :=
 (Gh ha).imp (by rintro σ H Q ⟨δ,M,R,rs,rm,t,q⟩;exact⟨δ,M,_,rs,rm,t,fun k M' H' x m h=>q _ _ _ x m h⟩)
theorem HE (ha:PE X a (lift (X.L rz Xe) ta)) (hb:PE X (.BoolOp .And (b::rest) pos) (lift (X.L rz Xe) tb)):PE X (.BoolOp .And (a::b::rest) pos) (lift (X.L rz Xe) (Dq ta tb)) :=
 (Gx ha hb).imp fun σ H Q ⟨δ,M,R,rs,rm,t,q⟩=>⟨δ,M,_,rs,rm,t,fun d M' v H' x m r ⟨k,e,h⟩=>by
  subst e;cases r;refine⟨k,rfl,?_⟩;cases k with
  | true=>exact⟨δ,M',R,rs.ext x,m,h,fun d' M2 v' H2 x2 m2=>q d' M2 v' H2 (x.trans x2) m2⟩
  | false=>exact q _ _ _ _ x m (.bl false) h⟩
theorem IM (ha:PE X a (lift (X.L rz Xe) ta)) (hb:PE X (.BoolOp .Or (b::rest) pos) (lift (X.L rz Xe) tb)):PE X (.BoolOp .Or (a::b::rest) pos) (lift (X.L rz Xe) (dOrV ta tb)) :=
 (Im ha hb).imp fun σ H Q ⟨δ,M,R,rs,rm,t,q⟩=>⟨δ,M,_,rs,rm,t,fun d M' v H' x m r ⟨k,e,h⟩=>by
  subst e;cases r;refine⟨k,rfl,?_⟩;cases k with
  | false=>exact⟨δ,M',R,rs.ext x,m,h,fun d' M2 v' H2 x2 m2=>q d' M2 v' H2 (x.trans x2) m2⟩
  | true=>exact q _ _ _ _ x m (.bl true) h⟩
noncomputable def Do (ta:DE):DE:=fun δ M Q=>ta δ M fun x M1=>∃ k,x=.bl k/\Q (.bl (!k)) M1
theorem Hx (ha:PE X a (lift (X.L rz Xe) ta)):PE X (.UnaryOp .Not a pos) (lift (X.L rz Xe) (Do ta)) :=
 (Gs ha).imp fun σ H Q ⟨δ,M,R,rs,rm,t,q⟩=>⟨δ,M,_,rs,rm,t,fun d M' v H' x m r ⟨k,e,h⟩=>by
  subst e;cases r;exact⟨k,rfl,q _ _ _ _ x m (.bl _) h⟩⟩
noncomputable def dNeg (ta:DE):DE:=fun δ M Q=>ta δ M fun x M1=>∃ i,x=.int i/\Q (.int (-i)) M1
theorem Hy (ha:PE X a (lift (X.L rz Xe) ta)):PE X (.UnaryOp .USub a pos) (lift (X.L rz Xe) (dNeg ta)) :=
 (Il FQ ha).imp fun σ H Q ⟨δ,M,R,rs,rm,t,q⟩=>⟨δ,M,_,rs,rm,t,fun d M' v H' x m r ⟨k,e,h⟩=>by
  subst e;cases r;exact⟨k,rfl,q _ _ _ _ x m (.int _) h⟩⟩
theorem HA (hc:PT X c (Za (X.L rz Xe) tA)) (ha:PE X a (lift (X.L rz Xe) ta)) (hb:PE X b (lift (X.L rz Xe) tb)):PE X (.IfExp c a b pos) (lift (X.L rz Xe) (dIfE tA ta tb)) :=
 (Ce hc ha hb).imp fun σ H Q ⟨δ,M,R,rs,rm,t,q⟩=>⟨δ,M,_,rs,rm,t,fun k M' H' x m h=>by
  cases k with
  | true=>exact⟨δ,M',R,rs.ext x,m,h,fun d' M2 v' H2 x2 m2=>q d' M2 v' H2 (x.trans x2) m2⟩
  | false=>exact⟨δ,M',R,rs.ext x,m,h,fun d' M2 v' H2 x2 m2=>q d' M2 v' H2 (x.trans x2) m2⟩⟩
theorem Xu:PA X [] (Zm (X.L rz Xe) dNil):=by
 refine (JH).imp ?_;rintro σ H Q ⟨δ,M,R,rs,rm,t,q⟩;exact q [] M [] H (.refl H) rm .nil t
theorem Z9 (ha:PE X e (lift (X.L rz Xe) ta)) (hr:PA X es (Zm (X.L rz Xe) t)) (hs:starEach (e::es) X.env=(false,eval e X.env)::starEach es X.env):PA X (e::es) (Zm (X.L rz Xe) (YS ta t)) :=
 (WV ha hr hs).imp (by rintro σ H Q ⟨δ,M,R,rs,rm,t,q⟩;exact⟨δ,M,_,rs,rm,t,fun d M' v H' x m r h=>⟨δ,M',_,rs.ext x,m,h,fun ds M2 vs H2 x2 m2 r2 h2=>q _ _ _ _ (x.trans x2) m2 (.cons (r.ext x2) r2) h2⟩⟩)
theorem Hv {x1} (h:PA X es (Zm (X.L rz Xe) t)):PE X (.Tuple es x1 pos) (lift (X.L rz Xe) (dTup t)) :=
 (Gq h).imp (by rintro σ H Q ⟨δ,M,R,rs,rm,t,q⟩;exact⟨δ,M,_,rs,rm,t,(by rintro ds M' vs H' x m r ⟨hz,h⟩;exact⟨by rw[r.length];exact hz,fun p hp=>q _ _ _ _ (x.trans (.upd (.inl hp))) (m.tup hp) (.tup (.of upd_same) (r.ext (.upd (.inl hp)))) h⟩)⟩)
theorem Hz (h:PA X es (Zm (X.L rz Xe) t)):PE X (.List es pos) (lift (X.L rz Xe) (dLst t)) :=
 (Gv h).imp (by rintro σ H Q ⟨δ,M,R,rs,rm,t,q⟩;exact⟨δ,M,_,rs,rm,t,(by rintro ds M' vs H' x m r ⟨hz,h⟩;exact⟨by rw[r.length];exact hz,fun p hp=>q _ _ _ _ (x.trans (.upd (.inl hp))) (m.lst hp r) (.lst p) (h.at (m.none hp))⟩)⟩)
theorem IN (ha:PE X a (lift (X.L rz Xe) ta)) (hb:PE X b (lift (X.L rz Xe) tb)) (hs:UI b):PE X (.Subscript a b pos) (lift (X.L rz Xe) (d2 iOp ta tb)):=(Ip ix_i ha hb hs).imp fun _ _ _=>Az
abbrev DO:=DSt->Mem->(Option Int->Mem->Prop)->Prop
noncomputable def Vd (Λ:LK) (t:DO):TO:=fun σ H Q=>∃ δ M R,RepS Λ H δ σ/\RepM Λ.K H M/\t δ M R/\∀ o M' H',HExt Λ.K H H'->RepM Λ.K H' M'->R o M'->Q o H'
noncomputable def Ax:DO:=fun _ M Q=>Q none M
noncomputable def Jh (t:DE):DO:=fun δ M Q=>t δ M fun x M1=>∃ i,x=.int i/\Q (some i) M1
theorem PO.imp {e:Option Expr} {t t':TO} (h:PO X e t) (i:∀ σ H Q,t' σ H Q->t σ H Q):PO X e t':=fun pins s σ H Q I q=>h pins s σ H Q I (i _ _ _ q)
theorem Fa:PO X none (Vd (X.L rz Xe) Ax):=PO.imp Ei (by rintro σ H Q ⟨δ,M,R,rs,rm,t,q⟩;exact q _ _ _ (.refl H) rm t)
theorem EZ (h:PE X e (lift (X.L rz Xe) ta)):PO X (some e) (Vd (X.L rz Xe) (Jh ta)):=PO.imp (Eh h) fun σ H Q ⟨δ,M,R,rs,rm,t,q⟩=>⟨δ,M,_,rs,rm,t,fun d M' v H' x m r ⟨i,e,h⟩=>by
  subst e;cases r;exact⟨i,rfl,q _ _ _ x m h⟩⟩
noncomputable def dSl (te:DE) (tl th:DO):DE:=fun δ M Q=>te δ M fun x M1=>tl δ M1 fun l M2=>th δ M2 fun u M3=>sOp x l u M3 Q
theorem IL {lo hi:Option Expr} {tl th:DO} {p2:Pos} (he:PE X e (lift (X.L rz Xe) ta)) (hl:PO X lo (Vd (X.L rz Xe) tl)) (hu:PO X hi (Vd (X.L rz Xe) th)):PE X (.Subscript e (.Slice lo hi none p2) pos) (lift (X.L rz Xe) (dSl ta tl th)) :=
 (UX sl_s he hl hu).imp fun σ H Q ⟨δ,M,R,rs,rm,t,q⟩=>⟨δ,M,_,rs,rm,t,fun d M1 v H1 x1 m1 r1 h1=>⟨δ,M1,_,rs.ext x1,m1,h1,fun l M2 H2 x2 m2 h2=>⟨δ,M2,_,rs.ext (x1.trans x2),m2,h2,fun u M3 H3 x3 m3 h3 =>
  ⟨d,M3,R,(r1.ext x2).ext x3,m3,h3,fun d' M' v' H' x4 m4 r4=>q d' M' v' H' (((x1.trans x2).trans x3).trans x4) m4 r4⟩⟩⟩⟩
theorem ZI (h:lift Λ (dCB f t) σ H Q):tCB (Xk Λ.K f) (Zm Λ t) σ H Q:=by
 obtain⟨δ,M,R,rs,rm,t,q⟩:=h;exact⟨δ,M,_,rs,rm,t,fun ds M' vs H' x m r h=>⟨ds,M',R,r,m,h,fun d' M2 v' H2 x2 m2 r2=>q d' M2 v' H2 (x.trans x2) m2 r2⟩⟩
end
end DL
end
noncomputable section
namespace DL
open PySem PySem.Spec PyProof.Rows L2
section
variable {K:Frag} {H:Hp} {M:Mem}
end
noncomputable def keyD:D->Option Key
 | .int i=>some (.inl i)
 | .str x=>some (.inr x)
 | _=>none
noncomputable def Lb:DE:=fun _ M Q=>alloc M (.dk []) fun p M'=>Q (.dct p) M'
noncomputable def La (tk tv:DE):DE:=fun δ M Q=>∀ p,M p=none->tk δ (M.upd p (.dk [])) fun x M1=>tv δ M1 fun y M2=>M2 p=some (.dk [])/\∃ k,keyD x=some k/\Q (.dct p) (M2.upd p (.dk [(k,y)]))
section
variable {X:Cx} {rz:Bool} {Xe:DSt->DK} {a b:Expr} {ta tb:DE} {pos:Pos}
end
end DL
end
noncomputable section
namespace DL
open PySem PySem.Spec PyProof.Rows L2
section
variable {X:Cx} {a b c d:Expr} {pos:Pos} {ta tb tc td:TE}
noncomputable def Ua (r r' r'':R2) (ta tb tc td:TE):TE:=fun σ H Q=>ta σ H fun x H1=>tb σ H1 fun y H2=>r x y H2 fun z H3=>∃ k,z=.bl k /\
 (if k=true then tc σ H3 fun w' H4=>r' y w' H4 fun z' H5=>∃ k',z'=.bl k'/\(if k'=true then td σ H5 fun v' H6=>r'' w' v' H6 Q else Q (.bl false) H5) else Q (.bl false) H3)
theorem AQ (ho:OpR X (compareOp op) r) (ho':OpR X (compareOp op') r') (ho'':OpR X (compareOp op'') r'') (ha:PE X a ta) (hb:PE X b tb) (hc:PE X c tc) (hd:PE X d td)
  (hm:lastMarks [op,op',op''] [b,c,d]=false):PE X (.Compare a [op,op',op''] [b,c,d] pos) (Ua r r' r'' ta tb tc td):=by
 intro pins s σ H Q I h;refine Compare_chain (thn (ha pins s σ H _ I h) fun v s1 ⟨x,H1,I1,r1,q1⟩=>chain_link (thn (hb pins s1 σ H1 _ I1 q1) fun u s2 ⟨y,H2,I2,r2,q2⟩ =>
  thn (ho pins s2 σ H2 x y v u _ I2 r1 r2 q2) fun d s3 hq2=>?_)) hm
 obtain⟨z,H3,I3,r3,k,e,q3⟩:=hq2;subst e;cases r3;refine wpAny_truthy_bool ?_;cases k with
 | false=>exact ite_ff ⟨.bl false,H3,I3,rfl,q3⟩
 | true =>
  refine ite_tt (chain_link (thn (hc pins s3 σ H3 _ I3 q3) fun w' s4 ⟨z',H4,I4,r4,q4⟩=>thn (ho' pins s4 σ H4 y z' u w' _ I4 r2 r4 q4) fun d' s5 hq5=>?_));obtain⟨z2,H5,I5,r5,k2,e2,q5⟩:=hq5;subst e2;cases r5;refine wpAny_truthy_bool ?_;cases k2 with
  | false=>exact ite_ff ⟨.bl false,H5,I5,rfl,q5⟩
  | true=>exact ite_tt (chain_last (thn (hd pins s5 σ H5 _ I5 q5) (by rintro w2 s6 ⟨z3,H6,I6,r6,q6⟩;exact ho'' pins s6 σ H6 z' z3 w' w2 Q I6 r4 r6 q6)))
theorem AO (ho:OpR X (compareOp op) r) (ho':OpR X (compareOp op') r') (ho'':OpR X (compareOp op'') r'') (ha:PE X a ta) (hb:PE X b tb) (hc:PE X c tc) (hd:PE X d td)
  (hm:lastMarks [op,op',op''] [b,c,d]=false):PT X (.Compare a [op,op',op''] [b,c,d] pos) (BI (Ua r r' r'' ta tb tc td)):=by
 intro pins s σ H Q I h;refine isTrue_chain (thn (ha pins s σ H _ I h) fun v s1 ⟨x,H1,I1,r1,q1⟩=>test_link (thn (hb pins s1 σ H1 _ I1 q1) fun u s2 ⟨y,H2,I2,r2,q2⟩ =>
  thn (ho pins s2 σ H2 x y v u _ I2 r1 r2 q2) fun d s3 hq2=>?_)) hm
 obtain⟨z,H3,I3,r3,k,e,q3⟩:=hq2;subst e;cases r3;refine wpAny_truthy_bool ?_;cases k with
 | false =>
  obtain⟨k',e',q'⟩:=q3;cases e';exact ite_ff ⟨H3,I3,q'⟩
 | true =>
  refine ite_tt (test_link (thn (hc pins s3 σ H3 _ I3 q3) fun w' s4 ⟨z',H4,I4,r4,q4⟩=>thn (ho' pins s4 σ H4 y z' u w' _ I4 r2 r4 q4) fun d' s5 hq5=>?_));obtain⟨z2,H5,I5,r5,k2,e2,q5⟩:=hq5;subst e2;cases r5;refine wpAny_truthy_bool ?_;cases k2 with
  | false =>
   obtain⟨k',e',q'⟩:=q5;cases e';exact ite_ff ⟨H5,I5,q'⟩
  | true =>
   refine ite_tt (test_last (thn (hd pins s5 σ H5 _ I5 q5) fun w2 s6 ⟨z3,H6,I6,r6,q6⟩=>thn (ho'' pins s6 σ H6 z' z3 w' w2 _ I6 r4 r6 q6) fun d' s7 hq7=>?_));obtain⟨z4,H7,I7,r7,k4,e4,q7⟩:=hq7;subst e4;cases r7;exact wpAny_truthy_bool ⟨H7,I7,q7⟩
end
section
variable {X:Cx} {rz:Bool} {Xe:DSt->DK} {a b c d:Expr} {pos:Pos} {ta tb tc td:DE}
noncomputable def XN (f g h:D->D->Mem->DK->Prop) (ta tb tc td:DE):DE:=fun δ M Q=>ta δ M fun x M1=>tb δ M1 fun y M2=>f x y M2 fun z M3=>∃ k,z=.bl k/\if k=true then (tc δ M3 fun w M4=>g y w M4 fun z' M5=>∃ k',z'=.bl k'/\if k'=true then (td δ M5 fun v M6=>h w v M6 Q) else Q (.bl false) M5) else Q (.bl false) M3
theorem Vr (hh:lift Λ (XN f g h ta tb tc td) σ H Q):Ua (Z3 Λ.K f) (Z3 Λ.K g) (Z3 Λ.K h) (lift Λ ta) (lift Λ tb) (lift Λ tc) (lift Λ td) σ H Q:=by
 obtain⟨δ,M,R,rs,rm,t,q⟩:=hh;refine seq2 (R:=fun x y M2=>f x y M2 _) rs rm t fun x y M2 v u H2 x2 m2 r1 r2 t2=>⟨x,y,M2,_,r1,r2,m2,t2,fun d M3 w H3 x3 m3 r3 hq7=>?_⟩;obtain⟨k,e,h'⟩:=hq7;subst e;cases r3;refine⟨k,rfl,?_⟩;cases k with
 | true =>
  refine⟨δ,M3,_,rs.ext (x2.trans x3),m3,h',fun z M4 w4 H4 x4 m4 r4 h4=>⟨y,z,M4,_,(r2.ext x3).ext x4,r4,m4,h4,fun d' M' v' H' x5 m5 r5 hq8=>?_⟩⟩;obtain⟨k',e',h''⟩:=hq8;subst e';cases r5;refine⟨k',rfl,?_⟩;cases k' with
  | true =>
   exact⟨δ,M',_,rs.ext (((x2.trans x3).trans x4).trans x5),m5,h'',fun z3 M6 w6 H6 x6 m6 r6 h6=>⟨z,z3,M6,R,(r4.ext x5).ext x6,r6,m6,h6,fun d2 M2' v2 H2' x7 m7 r7=>q d2 M2' v2 H2' (((((x2.trans x3).trans x4).trans x5).trans x6).trans x7) m7 r7⟩⟩
  | false=>exact q _ _ _ _ (((x2.trans x3).trans x4).trans x5) m5 (.bl false) h''
 | false=>exact q _ _ _ _ (x2.trans x3) m3 (.bl false) h'
theorem Bk (hu:X.A.units+66<cLine) (ha:PE X a (lift (X.L rz Xe) ta)) (hb:PE X b (lift (X.L rz Xe) tb)) (hc:PE X c (lift (X.L rz Xe) tc)) (hd:PE X d (lift (X.L rz Xe) td)) (hm:lastMarks [op,op',op''] [b,c,d]=false) :
  PE X (.Compare a [op,op',op''] [b,c,d] pos) (lift (X.L rz Xe) (XN (cOp op) (cOp op') (cOp op'') ta tb tc td)):=(AQ (op_c hu op) (op_c hu op') (op_c hu op'') ha hb hc hd hm).imp fun _ _ _=>Vr
theorem Be (hu:X.A.units+66<cLine) (ha:PE X a (lift (X.L rz Xe) ta)) (hb:PE X b (lift (X.L rz Xe) tb)) (hc:PE X c (lift (X.L rz Xe) tc)) (hd:PE X d (lift (X.L rz Xe) td)) (hm:lastMarks [op,op',op''] [b,c,d]=false) :
  PT X (.Compare a [op,op',op''] [b,c,d] pos) (Za (X.L rz Xe) (VW (XN (cOp op) (cOp op') (cOp op'') ta tb tc td))):=by
 refine (AO (op_c hu op) (op_c hu op') (op_c hu op'') ha hb hc hd hm).imp ?_;rintro σ H Q ⟨δ,M,R,rs,rm,t,q⟩;exact Vr ⟨δ,M,_,rs,rm,t,fun d M' v H' x m r ⟨k,e,h⟩=>by
  subst e;cases r;exact⟨k,rfl,q _ _ _ x m h⟩⟩
end
section
variable {X:Cx} {pins:List (Addr×Obj)} {s:Shared} {σ:L2.St} {H:Hp} {M:Mem}
end
section
variable {X:Cx} {rz:Bool} {Xe:DSt->DK} {a b:Expr} {ta tb:DE} {pos:Pos}
end
end DL
end
noncomputable section
namespace HT
open PySem PySem.Spec PyProof.Rows
section
variable {prog:Program} {w:World} {A:Around} {E:Value->Shared->Prop} {s:Shared}
end
end HT
namespace DL
open PySem PySem.Spec PyProof.Rows L2
section
variable {X:Cx} {rz:Bool} {Xe:DSt->DK} {e st:Expr} {ta ts:DE} {pos p2:Pos}
noncomputable def YL (d:D) (l:Option Int) (M:Mem) (Q:DK):Prop:=l=some (-1)/\match d with | .tup xs=>Q (.tup xs.reverse) M | .lst a=>∃ xs,M a=some (.ls xs)/\alloc M (.ls xs.reverse) fun p M'=>Q (.lst p) M' | _=>False
noncomputable def dRev (te:DE) (tl:DO):DE:=fun δ M Q=>te δ M fun x M1=>tl δ M1 fun l M2=>YL x l M2 Q
end
end DL
end
noncomputable section
namespace PySem
open PyProof.Rows
namespace F
end F
section
variable {prog:Program} {w:World} {A:Around} {E:Value->Shared->Prop} {s:Shared}
end
section
variable {prog:Program} {w:World} {A:Around} {s:Shared} {R:Result->Shared->Prop}
variable {I l:Addr} {items:Array Value}
end
section
variable {prog:Program} {w:World} {A:Around} {E:Value->Shared->Prop} {s:Shared}
variable {I l:Addr} {items:Array Value}
end
end PySem
namespace DL
open PySem PySem.Spec PyProof.Rows L2
section
variable {X:Cx} {e:Expr} {t:TA} {p p2 pos pos2:Pos}
end
end DL
namespace DL
open PySem PySem.Spec PyProof.Rows L2
section
variable {X:Cx} {rz:Bool} {Xe:DSt->DK} {e:Expr} {t:DA} {p p2 pos pos2:Pos}
end
end DL
end
noncomputable section
namespace DL
open PySem PySem.Spec PyProof.Rows L2
noncomputable def Ay:DS:=fun D δ M=>D.nx δ M
noncomputable def dSeq (t u:DS):DS:=fun D δ M=>t {D with nx:=u D} δ M
noncomputable def Kg:DS:=fun D δ M=>D.bk δ M
noncomputable def Lc:DS:=fun D δ M=>D.ct δ M
noncomputable def FL (te:(DSt->DK)->DE):DS:=fun D δ M=>te D.ex δ M fun _ M1=>D.nx δ M1
noncomputable def dRet (te:(DSt->DK)->DE):DS:=fun D δ M=>te D.ex δ M D.rt
noncomputable def L9:DS:=fun D _ M=>D.rt .non M
noncomputable def dIfS (c:(DSt->DK)->DT) (t u:DS):DS:=fun D δ M=>c D.ex δ M fun b M1=>if b=true then t D δ M1 else u D δ M1
noncomputable def Kf:DS:=fun _ _ _=>False
abbrev DG:=D->DSt->Mem->(DSt->Mem->Prop)->Prop
abbrev DGs:=List D->DSt->Mem->(DSt->Mem->Prop)->Prop
noncomputable def ZD (Λ:LK) (g:DG):TG:=fun v σ H Q=>∃ d δ M R,RelD Λ.K H v d/\RepS Λ H δ σ/\RepM Λ.K H M/\g d δ M R/\∀ δ' M' σ' H',HExt Λ.K H H'->RepS Λ H' δ' σ'->RepM Λ.K H' M'->R δ' M'->Q σ' H'
noncomputable def Ve (Λ:LK) (g:DGs):TGs:=fun vs σ H Q=>∃ ds δ M R,RelDs Λ.K H vs ds/\RepS Λ H δ σ/\RepM Λ.K H M/\g ds δ M R/\∀ δ' M' σ' H',HExt Λ.K H H'->RepS Λ H' δ' σ'->RepM Λ.K H' M'->R δ' M'->Q σ' H'
noncomputable def Xi (i:Nat):DG:=fun d δ M Q=>Q (δ.set i (some d)) M
noncomputable def FI:DGs:=fun ds δ M Q=>ds=[]/\Q δ M
noncomputable def CY (t:DG) (u:DGs):DGs:=fun ds δ M Q=>∃ d r,ds=d::r/\t d δ M fun δ' M'=>u r δ' M' Q
noncomputable def YQ (n:Nat) (t:DGs):DG:=fun d δ M Q=>∃ ds,d=.tup ds/\ds.length=n/\t ds δ M Q
noncomputable def FH (to ti:DE):DG:=fun v δ M Q=>to δ M fun o M1=>ti δ M1 fun i M2=>∃ a k xs j,o=.lst a/\i=.int k/\M2 a=some (.ls xs)/\ixN xs.length k=some j/\Q δ (M2.upd a (.ls (xs.set j v)))
noncomputable def dAsg (te:(DSt->DK)->DE) (g:(DSt->DK)->DG):DS:=fun D δ M=>te D.ex δ M fun x M1=>g D.ex x δ M1 D.nx
noncomputable def dPar (i j:Nat) (ta:(DSt->DK)->DA):DS:=fun D δ M=>ta D.ex δ M fun ds M1=>∃ v w,ds=[v,w]/\D.nx ((δ.set i (some v)).set j (some w)) M1
noncomputable def dTwo (te:(DSt->DK)->DE) (g h:(DSt->DK)->DG):DS:=fun D δ M=>te D.ex δ M fun x M1=>g D.ex x δ M1 fun δ2 M2=>h D.ex x δ2 M2 D.nx
noncomputable def dAug (i:Nat) (te:(DSt->DK)->DE) (f:Int->Int->Int):DS:=fun D δ M=>∃ x,δ[i]?=some (some (.int x))/\te D.ex δ M fun y M1=>∃ j,y=.int j/\D.nx (δ.set i (some (.int (f x j)))) M1
noncomputable def Dl (c:(DSt->DK)->DT) (tb:DS):DS:=fun D δ M=>∃ W:Nat->DSt->Mem->Prop,(∃ m,W m δ M)/\∀ m δ M,W m δ M ->
 c D.ex δ M fun b M1=>if b=true then ∃ N:DSt->Mem->Prop,(∀ δ' M',N δ' M'->∃ m',m'<m/\W m' δ' M')/\tb {D with nx:=N,ct:=N,bk:=D.nx} δ M1 else D.nx δ M1
section
variable {X:Cx} {rz:Bool} {Xe:DSt->DK} {st:Stmt} {rest:List Stmt} {t u:DS} {e tg:Expr} {es:List Expr} {te:DE} {g:DG} {gs:DGs} {pos:Pos}
theorem ET:PSs X [] (Yx X rz Ay):=by
 refine pss_nil.imp ?_;rintro E σ H ⟨δ,M,D,rs,rm,t,n,r,b,c⟩;exact n δ M σ H (.refl H) rs rm t
theorem Fj (h:Yx X rz (dSeq t u) E σ H):tSeq (Yx X rz t) (Yx X rz u) E σ H:=by
 obtain⟨δ,M,D,rs,rm,t,n,r,b,c⟩:=h;exact⟨δ,M,{D with nx:=u D},rs,rm,t,fun δ' M' σ' H' x rs' rm' h=>⟨δ',M',D,rs',rm',h,fun a b c d x2=>n a b c d (x.trans x2),fun a b c d x2=>r a b c d (x.trans x2),fun p q s t x2=>b p q s t (x.trans x2),fun p q s t x2=>c p q s t (x.trans x2)⟩,r,b,c⟩
theorem D6 (h1:PS X st (Yx X rz t)) (h2:PSs X rest (Yx X rz u)):PSs X (st::rest) (Yx X rz (dSeq t u)):=(UW h1 h2).imp fun _ _ _=>Fj
theorem EX {te:(DSt->DK)->DE} (he:∀ Xe,PE X e (lift (X.L rz Xe) (te Xe))) (hs:swapsWith e none pos.line X.env=pure false):PS X (.Expr e pos) (Yx X rz (FL te)):=by
 rintro pins s σ H E I ⟨δ,M,D,rs,rm,t,n,r,b,c⟩;exact (Eg (he D.ex) hs) pins s σ H E I <| ⟨δ,M,_,rs,rm,t,fun d M' v H' x m _ h=>n δ M' σ H' x (rs.ext x) m h⟩
theorem Hc {te:(DSt->DK)->DE} (he:∀ Xe,PE X e (lift (X.L rz Xe) (te Xe))):PS X (.Return (some e) pos) (Yx X rz (dRet te)):=by
 rintro pins s σ H E I ⟨δ,M,D,rs,rm,t,n,r,b,c⟩;exact (Gi (he D.ex)) pins s σ H E I <| ⟨δ,M,_,rs,rm,t,fun d M' v H' x m q h=>r d M' v H' x m q h⟩
theorem IJ (hc:∀ Xe,PT X c (Za (X.L rz Xe) (tc Xe))) (ha:PSs X a (Yx X rz t)) (hb:PSs X b (Yx X rz u)):PS X (.If c a b pos) (Yx X rz (dIfS tc t u)):=by
 rintro pins s σ H E I ⟨δ,M,D,rs,rm,t,n,r,b,c⟩;exact (Ik (hc D.ex) ha hb) pins s σ H E I <| ⟨δ,M,_,rs,rm,t,fun k M' H' x m h=>by
  cases k with
  | true=>exact⟨δ,M',D,rs.ext x,m,h,fun a b c d x2=>n a b c d (x.trans x2),fun a b c d x2=>r a b c d (x.trans x2),fun p q s t x2=>b p q s t (x.trans x2),fun p q s t x2=>c p q s t (x.trans x2)⟩
  | false=>exact⟨δ,M',D,rs.ext x,m,h,fun a b c d x2=>n a b c d (x.trans x2),fun a b c d x2=>r a b c d (x.trans x2),fun p q s t x2=>b p q s t (x.trans x2),fun p q s t x2=>c p q s t (x.trans x2)⟩⟩
theorem _root_.L2.PG.imp {t t':TG} (h:PG X tg t) (i:∀ v σ H Q,t' v σ H Q->t v σ H Q):PG X tg t':=fun pins s σ H v u Q I r q=>h pins s σ H v u Q I r (i _ _ _ _ q)
theorem _root_.L2.PGs.imp {t t':TGs} (h:PGs X es t) (i:∀ v σ H Q,t' v σ H Q->t v σ H Q):PGs X es t':=fun pins s σ H v u Q I r q=>h pins s σ H v u Q I r (i _ _ _ _ q)
theorem Fd {i:Nat} {x:Str} (hN:X.N.Nodup) (hi:X.N[i]?=some x) (hx:Loc X.env.scope x) (hf:X.fn x=true\/X.env.scope.names.lookup x=some .local):PG X (.Name x pos) (ZD (X.L rz Xe) (Xi i)) :=
 (Ek hN hi hx hf).imp (by rintro v σ H Q ⟨d,δ,M,R,r,rs,rm,h,q⟩;exact q _ _ _ _ (.refl H) (rs.set r i) rm h)
theorem Fc:PGs X [] (Ve (X.L rz Xe) FI):=by
 refine pgs_nil.imp ?_;rintro v σ H Q ⟨d,δ,M,R,r,rs,rm,h,q⟩;obtain⟨e,h⟩:=h;subst e;cases r;exact⟨rfl,q _ _ _ _ (.refl H) rs rm h⟩
theorem D9 (h1:PG X tg (ZD (X.L rz Xe) g)) (h2:PGs X es (Ve (X.L rz Xe) gs)) (hs:(assignEach (tg::es) X.env).map (·.2)=assign tg X.env::(assignEach es X.env).map (·.2)):PGs X (tg::es) (Ve (X.L rz Xe) (CY g gs)) :=
 (Cd h1 h2 hs).imp fun v σ H Q ⟨d,δ,M,R,r,rs,rm,h,q⟩=>by
  obtain⟨d,ds,e,h⟩:=h;subst e;cases r with
  | cons ra rr=>exact⟨_,_,rfl,d,δ,M,_,ra,rs,rm,h,fun δ' M' σ' H' x rs' rm' h'=>⟨ds,δ',M',R,rr.ext x,rs',rm',h',fun a b c d x2=>q a b c d (x.trans x2)⟩⟩
theorem Hn {k n:Nat} (hc:X.calm=true) (h:PGs X es (Ve (X.L rz Xe) gs)) (hn:(assignEach es X.env).length=n) (hst:(assignEach es X.env).findIdx? (·.1)=none):PG X (.Tuple es k pos) (ZD (X.L rz Xe) (YQ n gs)) :=
 (Go hc h hn hst).imp fun v σ H Q ⟨d,δ,M,R,r,rs,rm,h,q⟩=>by
  obtain⟨ds,e,hl,h⟩:=h;subst e;cases r with
  | tup ht rr=>exact⟨_,_,rfl,ht,by rw[rr.length];exact hl,ds,δ,M,R,rr,rs,rm,h,q⟩
theorem Ho {o i:Expr} {to ti:DE} (ho:PE X o (lift (X.L rz Xe) to)) (hi:PE X i (lift (X.L rz Xe) ti))
  (ha:∀ v,assign (.Subscript o i pos) X.env v=(do
   let ov <- holding [v] (eval o X.env)
   let iv <- holding [v,ov] (eval i X.env)
   standAt pos
   holding [v,ov,iv] (setItem ov iv v)
   release [v,ov,iv] [])):PG X (.Subscript o i pos) (ZD (X.L rz Xe) (FH to ti)) :=
 (Gp ho hi BN ha).imp fun v σ H Q ⟨d,δ,M,R,r,rs,rm,h,q⟩=>seq2 rs rm h fun x y M2 w u H2 x2 m2 r1 r2 ⟨a,k,xs,j,e1,e2,e3,e4,h2⟩=>by
  subst e1;subst e2;cases r1;cases r2;obtain⟨vs,ev,rv⟩:=m2 _ _ e3;exact⟨a,vs,k,j,rfl,rfl,ev,by rw[rv.length];exact e4,q _ _ _ _ (x2.trans (.upd (.inr ⟨_,ev,trivial⟩))) (rs.ext (x2.trans (.upd (.inr ⟨_,ev,trivial⟩)))) (m2.write ev (rv.set (r.ext x2) j)) h2⟩
theorem Hf {te:(DSt->DK)->DE} {g:(DSt->DK)->DG} (he:∀ Xe,PE X e (lift (X.L rz Xe) (te Xe))) (hg:∀ Xe,PG X tg (ZD (X.L rz Xe) (g Xe))) (hs:swapsWithSole [tg] e pos.line X.env=pure false) (hw:swappedStores [tg] e X.env=pure none)
  (h1:(assignEach [tg] X.env).map (·.2)=[assign tg X.env]):PS X (.Assign [tg] e pos) (Yx X rz (dAsg te g)) :=
 (by rintro pins s σ H E I ⟨δ,M,D,rs,rm,t,n,r,b,c⟩;exact (Gm (he D.ex) (hg D.ex) hs hw h1) pins s σ H E I <| ⟨δ,M,_,rs,rm,t,fun d M' v H' x m q h=>⟨d,δ,M',_,q,rs.ext x,m,h,fun a b c d x2=>n a b c d (x.trans x2)⟩⟩)
theorem D8 {te:(DSt->DK)->DE} {i:Nat} {x:Str} {pos':Pos} (hN:X.N.Nodup) (hi:X.N[i]?=some x) (hx:Loc X.env.scope x) (he:∀ Xe,PE X e (lift (X.L rz Xe) (te Xe))) (hs:swapsWith e (some (.Name x pos')) pos.line X.env=pure false) (hf:X.fn x=true\/X.env.scope.names.lookup x=some .local) :
  PS X (.Assign [.Name x pos'] e pos) (Yx X rz (dAsg te fun _=>Xi i)):=by
 rintro pins s σ H E I ⟨δ,M,D,rs,rm,t,n,r,b,c⟩;exact (BX hN hi hx (he D.ex) hs hf) pins s σ H E I <| ⟨δ,M,_,rs,rm,t,fun d M' v H' x m q h=>n _ _ _ _ x ((rs.ext x).set q i) m h⟩
theorem Hd {kt k2 pt2} (hc:X.calm=true) (hN:X.N.Nodup) (hi:X.N[i]?=some x) (hj:X.N[j]?=some y) (hij:i≠j)
  (hx:X.env.scope.names.lookup x=some .local) (hy:X.env.scope.names.lookup y=some .local) (ha:∀ Xe,PA X [a,b] (Zm (X.L rz Xe) (ta Xe)))
  (hw:swappedStores [.Tuple [.Name x px,.Name y py] kt pt] (.Tuple [a,b] k2 pt2) X.env=pure (some [x,y]))
  (hs:swapsWithSole [.Tuple [.Name x px,.Name y py] kt pt] (.Tuple [a,b] k2 pt2) pos.line X.env=pure false) :
  PS X (.Assign [.Tuple [.Name x px,.Name y py] kt pt] (.Tuple [a,b] k2 pt2) pos) (Yx X rz (dPar i j ta)):=by
 rintro pins s σ H E I ⟨δ,M,D,rs,rm,t,n,r,b,c⟩;exact (Gj hc hN hi hj hij hx hy (ha D.ex) hw hs) pins s σ H E I <| ⟨δ,M,_,rs,rm,t,fun ds M' vs H' x m q ⟨v,w,e,h⟩=>by
  subst e;obtain⟨v',w',rfl,r1,r2⟩:=q.two;exact⟨v',w',rfl,n _ _ _ _ x (((rs.ext x).set r1 i).set r2 j) m h⟩⟩
theorem D7 (hp:PassesOwn (model X.prog X.w) X.A X.env X.xe) (hc:∀ Xe,PT X c (Za (X.L rz Xe) (tc Xe))) (hb:PSs X body (Yx X rz tb)):PS X (.While c body [] pos) (Yx X rz (Dl tc tb)) :=
 fun pins s σ H E I ⟨δ,M,D,rs,rm,⟨W,⟨m0,w0⟩,turn⟩,n,r,b,c⟩=>(BV hp (hc D.ex) hb) pins s σ H E I <| by
  refine⟨fun m σ' H'=>∃ δ' M',HExt X.K H H'/\RepS (X.L rz D.ex) H' δ' σ'/\RepM X.K H' M'/\W m δ' M',⟨m0,δ,M,.refl H,rs,rm,w0⟩,?_⟩;rintro m σ1 H1 ⟨δ1,M1,x1,rs1,rm1,w1⟩;refine⟨δ1,M1,_,rs1,rm1,turn m δ1 M1 w1,fun k M2 H2 x2 m2 h=>?_⟩;cases k with
  | true =>
   obtain⟨N,hN,h⟩:=h;refine⟨fun σ' H'=>∃ δ' M',HExt X.K H H'/\RepS (X.L rz D.ex) H' δ' σ'/\RepM X.K H' M'/\N δ' M',fun σ' H' ⟨δ',M',y1,y2,y3,y4⟩=>?_,?_⟩
   ·obtain⟨m',l,w'⟩:=hN δ' M' y4
    exact⟨m',l,δ',M',y1,y2,y3,w'⟩
   ·exact⟨δ1,M2,{D with nx:=N,ct:=N,bk:=D.nx},rs1.ext x2,m2,h,fun δ' M' σ' H' y1 y2 y3 y4=>⟨δ',M',(x1.trans x2).trans y1,y2,y3,y4⟩,fun a b c d y1=>r a b c d ((x1.trans x2).trans y1),fun δ' M' σ' H' y1 y2 y3 y4=>n _ _ _ _ ((x1.trans x2).trans y1) y2 y3 y4,fun δ' M' σ' H' y1 y2 y3 y4=>⟨δ',M',(x1.trans x2).trans y1,y2,y3,y4⟩⟩
  | false=>exact n _ _ _ _ (x1.trans x2) (rs1.ext x2) m2 h
end
abbrev DI:=DSt->Mem->(List D->(Mem->Prop)->Mem->Prop)->Prop
noncomputable def ItD (K:Frag) (H0:Hp) (J:It) (items:List D) (keep:Mem->Prop):Prop:=∀ i H M,HExt K H0 H->RepM K H M->keep M ->
 (i<items.length->J.go i H)/\(items.length<=i->J.stop i H)/\∀ x H',J.yld i H x H'->HExt K H H'/\RepM K H' M/\∀ d,items[i]?=some d->RelD K H' x d
noncomputable def ZP (Λ:LK) (t:DI):TI:=fun σ H R=>∃ δ M Rd,RepS Λ H δ σ/\RepM Λ.K H M/\t δ M Rd/\∀ items keep M' J H',HExt Λ.K H H'->RepM Λ.K H' M'->keep M'->ItD Λ.K H' J items keep->Rd items keep M'->R J H'
noncomputable def forD (g:(DSt->DK)->DG) (tb:DS) (keep:Mem->Prop):List D->DS
 | []=>fun D δ M=>D.nx δ M
 | x::xs=>fun D δ M=>g D.ex x δ M fun δ1 M1=>tb {D with nx:=fun δ2 M2=>keep M2/\forD g tb keep xs D δ2 M2,ct:=fun δ2 M2=>keep M2/\forD g tb keep xs D δ2 M2,bk:=D.nx} δ1 M1
noncomputable def dFor (ti:(DSt->DK)->DI) (g:(DSt->DK)->DG) (tb:DS):DS:=fun D δ M=>ti D.ex δ M fun items keep M1=>forD g tb keep items D δ M1
section
variable {X:Cx} {rz:Bool} {Xe:DSt->DK} {tg:Expr} {pos:Pos}
theorem He (hp:PassesOwn (model X.prog X.w) X.A X.env X.xe) (hc:X.calm=true) (hi:∀ Xe,PI X tg iter (ZP (X.L rz Xe) (ti Xe))) (hg:∀ Xe,PG X tg (ZD (X.L rz Xe) (g Xe))) (hb:PSs X body (Yx X rz tb))
  (hs:∀ x,foldedSetIterable iter X.env x=pure x):PS X (.For tg iter body [] pos) (Yx X rz (dFor ti g tb)) :=
 fun pins s σ H E I ⟨δ,M,D,rs,rm,t,n,r,b,c⟩=>(Gk hp hc (hi D.ex) (hg D.ex) hb hs) pins s σ H E I <| by
  refine⟨δ,M,_,rs,rm,t,fun items keep M1 J H1 x1 m1 k1 it h1=>?_⟩;refine⟨fun i m σ' H'=>m=items.length-i/\i<=items.length/\∃ δ' M',HExt X.K H1 H'/\RepS (X.L rz D.ex) H' δ' σ'/\RepM X.K H' M'/\keep M'/\forD g tb keep (items.drop i) D δ' M',⟨_,rfl,Nat.zero_le _,δ,M1,.refl H1,rs.ext x1,m1,k1,h1⟩,?_⟩;rintro i m σ2 H2 ⟨rfl,hi,δ2,M2,x2,rs2,m2,k2,h2⟩;obtain⟨i1,i2,i3⟩:=it i H2 M2 x2 m2 k2;by_cases hl:i<items.length
  ·refine .inr ⟨i1 hl,fun σ' H'=>∃ δ' M',HExt X.K H1 H'/\RepS (X.L rz D.ex) H' δ' σ'/\RepM X.K H' M'/\keep M'/\forD g tb keep (items.drop (i+1)) D δ' M',fun σ' H' z=>⟨items.length-(i+1),by omega,rfl,hl,z⟩,fun x H3 y=>?_⟩
   obtain⟨x3,m3,r3⟩:=i3 x H3 y;rw[List.drop_eq_getElem_cons hl] at h2;refine⟨items[i],δ2,M2,_,r3 _ (by simp[hl]),rs2.ext x3,m3,h2,fun δ4 M4 σ4 H4 x4 rs4 m4 h4=>?_⟩;have xx:=(x2.trans x3).trans x4;exact⟨δ4,M4,{D with nx:=fun δ2 M2=>keep M2/\forD g tb keep (items.drop (i+1)) D δ2 M2,ct:=fun δ2 M2=>keep M2/\forD g tb keep (items.drop (i+1)) D δ2 M2,bk:=D.nx},rs4,m4,h4,fun δ' M' σ' H' y1 y2 y3 y4=>⟨δ',M',xx.trans y1,y2,y3,y4.1,y4.2⟩,fun a b c d y1=>r a b c d ((x1.trans xx).trans y1),fun δ' M' σ' H' y1 y2 y3 y4=>n _ _ _ _ ((x1.trans xx).trans y1) y2 y3 y4,fun δ' M' σ' H' y1 y2 y3 y4=>⟨δ',M',xx.trans y1,y2,y3,y4.1,y4.2⟩⟩
  ·have e:i=items.length:=by omega
   subst e;rw[List.drop_length] at h2;exact .inl ⟨i2 %[|3],n _ _ _ _ (x1.trans x2) rs2 m2 h2⟩
noncomputable def YH (d:D) (M:Mem) (R:List D->(Mem->Prop)->Mem->Prop):Prop :=
 match d with
 | .lst a=>∃ xs,M a=some (.ls xs)/\R xs (fun M'=>M' a=some (.ls xs)) M
 | .fz xs=>R xs (fun _=>True) M
 | .tup xs=>R xs (fun _=>True) M
 | _=>False
noncomputable def Ya (te:DE):DI:=fun δ M R=>te δ M fun d M1=>YH d M1 R
theorem CP {K:Frag} {H0:Hp} {a:Addr} {xs:List D}:ItD K H0 (Itl K a) xs (fun M'=>M' a=some (.ls xs)):=fun i H M x m k=>by
 obtain⟨vs,e,r⟩:=m _ _ k;refine⟨fun hl=>⟨vs,vs[i]'(by rw[r.length];exact hl),.of e,by simp[r.length,hl]⟩,fun hl=>⟨vs,.of e,by rw[r.length];exact hl⟩,fun y H' hq2=>?_⟩;obtain⟨e1,e2⟩:=hq2;subst e1;refine⟨.refl _,m,fun d hd=>?_⟩;obtain⟨v,h1,h2⟩:=r.get hd;rw[e2 vs (.of e)] at h1;cases h1;exact h2
theorem GP {K:Frag} {H0:Hp} {a:Addr} {vs:List V} {xs:List D} (ht:SqF K H0 a vs) (r:RelDs K H0 vs xs):ItD K H0 (Itl K a) xs (fun _=>True):=fun i H M x m k=>by
 have ht':=x.fz _ _ ht;have r':=r.ext x;refine⟨fun hl=>⟨vs,vs[i]'(by rw[r.length];exact hl),ht'.sq,by simp[r.length,hl]⟩,fun hl=>⟨vs,ht'.sq,by rw[r.length];exact hl⟩,fun y H' hq2=>?_⟩;obtain⟨e1,e2⟩:=hq2;subst e1;refine⟨.refl _,m,fun d hd=>?_⟩;obtain⟨v,h1,h2⟩:=r'.get hd;rw[e2 vs ht'.sq] at h1;cases h1;exact h2
theorem EI {K:Frag} {H0:Hp} {a:Addr} {vs:List V} {xs:List D} (ht:SqT K H0 a vs) (r:RelDs K H0 vs xs):ItD K H0 (Itt K a) xs (fun _=>True):=fun i H M x m k=>by
 have ht':=x.tup _ _ ht;have r':=r.ext x;refine⟨fun hl=>⟨vs,vs[i]'(by rw[r.length];exact hl),ht',by simp[r.length,hl]⟩,fun hl=>⟨vs,ht',by rw[r.length];exact hl⟩,fun y H' hq2=>?_⟩;obtain⟨e1,e2⟩:=hq2;subst e1;refine⟨.refl _,m,fun d hd=>?_⟩;obtain⟨v,h1,h2⟩:=r'.get hd;rw[e2 vs ht'] at h1;cases h1;exact h2
theorem Hk (hl:PE X l (lift (X.L rz Xe) te)):PI X tg l (ZP (X.L rz Xe) (Ya te)):=by
 rintro pins s σ H R I ⟨δ,M,Rd,rs,rm,t,q⟩;refine thn (hl pins s σ H (fun x H1=>(∃ a xs,x=.ref a/\SqL X.K H1 a xs/\R (Itl X.K a) H1)\/(∃ a xs,x=.ref a/\SqT X.K H1 a xs/\R (Itt X.K a) H1)) I ⟨δ,M,_,rs,rm,t,fun d M1 v H1 x1 m1 r1 h1=>?_⟩) fun v s1 ⟨x,H1,I1,r1,q1⟩=>?_
 ·cases r1 with
  | lst a =>
   obtain⟨xs,e0,h1⟩:=h1;obtain⟨vs,e,r⟩:=m1 _ _ e0;exact .inl ⟨a,vs,rfl,.of e,q _ _ _ _ _ x1 m1 e0 CP h1⟩
  | fz ht r=>exact .inl ⟨_,_,rfl,ht.sq,q _ _ _ _ _ x1 m1 trivial (GP ht r) h1⟩
  | tup ht r=>exact .inr ⟨_,_,rfl,ht,q _ _ _ _ _ x1 m1 trivial (EI ht r) h1⟩
  | _=>exact (show False from h1).elim
 ·rcases q1 with ⟨a,xs,e,hq,q⟩|⟨a,xs,e,hq,q⟩
  ·subst e
   cases r1;obtain⟨its,rv,p,hz⟩:=I1.list hq;refine wpAny_pyIter_list p.isList ?_;refine⟨s1.heap.objs.size,[s1.heap.objs.size],_,_,H1,rfl,I1.kept (t':=s1.toks) fun b o e=>Heap.get?_push_of_some _ e,AG a _,⟨_,Heap.get?_push_size _ rfl,rfl,rfl⟩,fun b hb=>?_,q⟩;have e:b=s1.heap.objs.size:=by simpa using hb
   subst e;exact I1.fpOk %[|3] (I1.hok.fresh %[|3])
  ·subst e
   cases r1;obtain⟨its,rv,p,hz⟩:=I1.tuple hq;refine wpAny_pyIter_tuple (show s1.heap.IsTuple a its.toArray from p) ?_;refine⟨s1.heap.objs.size,[s1.heap.objs.size],_,_,H1,rfl,I1.kept (t':=s1.toks) fun b o e=>Heap.get?_push_of_some _ e,Jp a _,⟨_,Heap.get?_push_size _ rfl,rfl,rfl⟩,fun b hb=>?_,q⟩;have e:b=s1.heap.objs.size:=by simpa using hb
   subst e;exact I1.fpOk %[|3] (I1.hok.fresh %[|3])
end
noncomputable def Itr3 (lo c:Int) (n:Nat):It:=⟨fun i _=>i<n,fun i H x H'=>H'=H/\x=.int (lo+i*c),fun i _=>n<=i⟩
theorem UJ {P:Program} {w:World} {K:Frag} {tg:Expr} (it:Addr) (lo c:Int) (n:Nat):Turn P w K tg (Itr3 lo c n) [it] it (fun i h=>IsRangeIter h it (lo+(i:Nat)*c) ((n:Int)-(i:Nat)) c) where
 mem:=by simp
 obj:=fun i h st b hb=>by
  have e:b=it:=by simpa using hb
  subst e;exact⟨_,st,fun v z=>by
   have z':Data.fields _=Data.cell v:=z;cases z'⟩
 keep:=fun i h h' st k=>k it (by simp) _ st
 item:=by
  intro X hP hw hK hc i pins s σ H E I hf st hg;subst hP hw hK;obtain⟨f0,f1,f2,f3,f4,f5⟩:=hf it (by simp);have W:=Walks.range (prog:=X.prog) (w:=X.w) (I.ok.hd hc) it lo c n;refine W.item i s _ _ hg st fun v h' tk hv st' kk=>?_;obtain⟨t,rfl⟩:=hv;have I1:L2.Inv X pins σ H {s with heap:=h',toks:=tk}:=I.turned (fun b o hb e=>kk b o (by simpa using hb) e) f0 f1 f3 f4 f5;exact⟨_,rfl,Jb (s:={s with heap:=h',toks:=tk}) (n:="range_iterator") st' rfl rfl %[|4] ⟨.int (lo+i*c),H,I1,⟨t,rfl⟩,⟨rfl,rfl⟩,st',fun b hb=>(hf b hb).1⟩⟩
 done:=by
  intro X hP hw hK hc i pins s σ H E I hf st hg;subst hP hw hK;obtain⟨f0,f1,f2,f3,f4,f5⟩:=hf it (by simp);exact wpAny_pyNext_range_end (I.ok.hd hc) st (by have:n<=i:=hg;omega) fun h' eb=>⟨rfl,I.turned (t':=s.toks) (fun b o hb e=>eb b o hb e) f0 f1 f3 f4 f5⟩
 self:=fun _ _ _ _ _ st h=>wpAny_pyIter_rangeiter st h
noncomputable def rngD (lo c:Int) (n:Nat):List D:=(List.range n).map fun i=>.int (lo+(i:Nat)*c)
noncomputable def rngN (i j c:Int):Nat:=(Builtin.Range.rangeSize i j c).toNat
noncomputable def FG:List D->Mem->(List D->(Mem->Prop)->Mem->Prop)->Prop
 | [.int j],M,R=>(-(2 ^ 62)<=j/\j<2 ^ 62)/\R (rngD 0 1 j.toNat) (fun _=>True) M
 | [.int i,.int j],M,R=>(-(2 ^ 62)<=i/\i<2 ^ 62/\-(2 ^ 62)<=j/\j<2 ^ 62)/\R (rngD i 1 (j-i).toNat) (fun _=>True) M
 | [.int i,.int j,.int c],M,R=>U6 c/\Builtin.Range.small i j c=true/\0<=Builtin.Range.rangeSize i j c/\R (rngD i c (rngN i j c)) (fun _=>True) M
 | _,_,_=>False
noncomputable def ZH (ta:DA):DI:=fun δ M R=>ta δ M fun ds M1=>FG ds M1 R
theorem J7 {K:Frag} {H0:Hp} {lo c:Int} {n:Nat}:ItD K H0 (Itr3 lo c n) (rngD lo c n) (fun _=>True):=fun i H M x m k=>by
 have hl:(rngD lo c n).length=n:=by simp[rngD]
 rw[hl];refine⟨fun h=>h,fun h=>h,fun y H' hq2=>?_⟩;obtain⟨e1,e2⟩:=hq2;subst e1 e2;refine⟨.refl _,m,fun d hd=>?_⟩;unfold rngD at hd;rw[List.getElem?_map] at hd;cases q:(List.range n)[i]? with
 | none=>rw [q] at hd;cases hd
 | some j =>
  rw[q] at hd;have hj:j=i:=by
   obtain⟨h1,h2⟩:=List.getElem?_eq_some_iff.mp q
   simpa using h2.symm
  subst hj;cases hd;exact .int _
theorem Ap {K:Frag} {H0:Hp} {lo:Int} {n:Nat}:ItD K H0 (Itr lo n) (rngD lo 1 n) (fun _=>True):=fun i H M x m k=>by
 obtain⟨a,b,c⟩:=J7 (K:=K) (H0:=H0) (lo:=lo) (c:=1) (n:=n) i H M x m k;refine⟨a,b,fun y H' ⟨e1,e2⟩=>c y H' ⟨e1,?_⟩⟩;rw[Int.mul_one];exact e2
theorem XC {K:Frag} {H:Hp} {vs:List V}:∀ {ns:List Int},RelDs K H vs (ns.map D.int)->vs=ns.map V.int
 | [],r=>by cases r;rfl
 | _::_,r=>by cases r with|cons h q=>cases h;exact congrArg _ (XC q)
section
variable {X:Cx} {rz:Bool} {Xe:DSt->DK} {tg:Expr} {pos:Pos}
theorem AM {pins:List (Addr×Obj)} {σ:L2.St} {H:Hp} {s:Shared} {R:It->Hp->Prop} {E:Value->Shared->Prop} {lo hi c:Int} {t u v:Tok} {tk:Nat} (I:L2.Inv X pins σ H s) (hs:Builtin.Range.small lo hi c=true) (hn:0<=Builtin.Range.rangeSize lo hi c)
  (q:R (Itr3 lo c (rngN lo hi c)) H):wpAny (model X.prog X.w) X.A (pyIter (.ref s.heap.objs.size)) (PIE X pins σ tg R) E {s with heap:=s.heap.push {cls:=.type "range",data:=.fields #[.int lo t,.int hi u,.int c v]},toks:=tk}:=by
 refine wpAny_pyIter_range (IsRange.new ..) hs ?_;have I1:L2.Inv X pins σ H {s with heap:=s.heap.push {cls:=.type "range",data:=.fields #[.int lo t,.int hi u,.int c v]},toks:=tk}:=I.kept fun b o e=>Heap.get?_push_of_some _ e;refine⟨(s.heap.push {cls:=.type "range",data:=.fields #[.int lo t,.int hi u,.int c v]}).objs.size,[(s.heap.push {cls:=.type "range",data:=.fields #[.int lo t,.int hi u,.int c v]}).objs.size],_,_,H,rfl,
  I1.kept (t':=tk) fun b o e=>Heap.get?_push_of_some _ e,UJ _ lo c (rngN lo hi c),?_,fun b hb=>?_,q⟩
 ·have e1:lo+((0:Nat):Int)*c=lo:=by simp
  have e2:((rngN lo hi c:Nat):Int)-((0:Nat):Int)=Builtin.Range.rangeSize lo hi c:=by unfold rngN;omega
  show IsRangeIter _ _ (lo+((0:Nat):Int)*c) (((rngN lo hi c:Nat):Int)-((0:Nat):Int)) c;rw[e1,e2];exact Heap.get?_push_size _ rfl
 ·have e:b=(s.heap.push {cls:=.type "range",data:=.fields #[.int lo t,.int hi u,.int c v]}).objs.size:=by simpa using hb
  subst e;exact I1.fpOk %[|3] (I1.hok.fresh %[|3])
theorem Hl {a:Expr} {es:List Expr} {ta:DA} {p:Pos} (hg:Gl X "range") (hm:X.mg "range"=none) (ha:PA X (a::es) (Zm (X.L rz Xe) ta)) (hs:starEach (a::es) X.env=(false,eval a X.env)::starEach es X.env) (hpl:(backTo pos (starEach es X.env)).any (·.1)=false) :
  PI X tg (.Call (.Name "range" p) (a::es) [] pos) (ZP (X.L rz Xe) (ZH ta)):=by
 rintro pins s σ H R I ⟨δ,M,Rd,rs,rm,t,q⟩;refine Call_ (Wt I hg hm boot_range (PyProof.Rows.callWith_type1 (thn (ha pos pins s σ H (fun vs H1=>(∃ j:Int,vs=[.int j]/\-(2 ^ 62)<=j/\j<2 ^ 62/\R (Itr 0 j.toNat) H1)\/(∃ i j:Int,vs=[.int i,.int j]/\(-(2 ^ 62)<=i/\i<2 ^ 62/\-(2 ^ 62)<=j/\j<2 ^ 62)/\R (Itr i (j-i).toNat) H1) \/
  (∃ i j c:Int,vs=[.int i,.int j,.int c]/\(U6 c/\Builtin.Range.small i j c=true/\0<=Builtin.Range.rangeSize i j c)/\R (Itr3 i c (rngN i j c)) H1)) I ⟨δ,M,_,rs,rm,t,fun ds M1 vs H1 x1 m1 r1 h1=>?_⟩) fun us s1 ⟨vs,H1,I1,r1,q1⟩=>?_) hs hpl))
 ·unfold FG at h1
  split at h1
  ·rename_i j;cases XC (ns:=[j]) r1;exact .inl ⟨_,rfl,h1.1.1,h1.1.2,q _ _ _ _ _ x1 m1 trivial Ap h1.2⟩
  ·rename_i i j;cases XC (ns:=[i,j]) r1;exact .inr (.inl ⟨_,_,rfl,h1.1,q _ _ _ _ _ x1 m1 trivial Ap h1.2⟩)
  ·rename_i i j c;cases XC (ns:=[i,j,c]) r1;exact .inr (.inr ⟨_,_,_,rfl,⟨h1.1,h1.2.1,h1.2.2.1⟩,q _ _ _ _ _ x1 m1 trivial J7 h1.2.2.2⟩)
  ·exact h1.elim
 ·rcases q1 with ⟨j,e,q1,q2,q⟩|⟨i,j,e,⟨q1,q2,q3,q4⟩,q⟩|⟨i,j,c,e,⟨q1,q2,q3⟩,q⟩
  ·subst e
   cases r1 with
   | cons r rr =>
    cases rr;obtain⟨t,rfl⟩:=r;exact call_range_1 (UV I1 %[|5] %[|5] q1 q2 (by simpa using q))
  ·subst e
   cases r1 with
   | cons r rr =>
    cases rr with
    | cons r' rr =>
     cases rr;obtain⟨t,rfl⟩:=r;obtain⟨t',rfl⟩:=r';exact call_range_2 (UV I1 q1 q2 q3 q4 q)
  ·subst e
   cases r1 with
   | cons r rr =>
    cases rr with
    | cons r' rr =>
     cases rr with
     | cons r'' rr =>
      cases rr;obtain⟨t,rfl⟩:=r;obtain⟨t',rfl⟩:=r';obtain⟨t'',rfl⟩:=r'';exact call_range_3 q1.1 (AM I1 q2 q3 q) (.inl (PyProof.noPylong_of_log2 q1.2))
end
section
variable {prog:Program} {w:World} {A:Around} {E:Value->Shared->Prop}
end
section
variable {X:Cx} {rz:Bool} {Xe:DSt->DK} {es:List Expr} {gs:DGs} {pos:Pos}
end
end DL
end
noncomputable section
namespace DL
open PySem PySem.Spec PyProof.Rows L2
noncomputable def clos (cells:List (Str×Addr)):List (Str×NameKind)->List (Str×Addr)->List (Str×Addr)
 | [],cs=>cs
 | (n,k)::r,cs=>if (k==.free)=true then clos cells r ((n,(cells.lookup n).getD 0)::cs) else clos cells r cs
theorem WR (h:∀ x∈scope.names,x.2=.free->∃ c,env.cells.lookup x.1=some c):closureFor scope env=pure (clos env.cells scope.names []):=by
 simp only[closureFor];generalize ([]:List (Str×Addr))=cs;generalize scope.names=names at h;have key:∀ (names:List (Str×NameKind)) (cs:List (Str×Addr)),(∀ x∈names,x.2=.free->∃ c,env.cells.lookup x.1=some c) ->
   (forIn names cs fun x r=>(if (x.2==NameKind.free)=true then do let a <- cellOf env x.1;pure (ForInStep.yield ((x.1,a)::r)) else pure (ForInStep.yield r)):Sem (List (Str×Addr)))=pure (clos env.cells names cs):=by
  intro names
  induction names with
  | nil=>intro cs _;rfl
  | cons x l ih =>
   intro cs h;obtain⟨n,k⟩:=x;rw[List.forIn_cons];by_cases hk:(k==NameKind.free)=true
   ·obtain⟨c,hc⟩:=h (n,k) List.mem_cons_self (by simpa using hk)
    have hcell:cellOf env n=pure c:=by unfold cellOf;rw[hc]
    rw[if_pos hk,hcell];simp only[pure_bind];rw[ih _ fun y hy=>h y (List.mem_cons_of_mem _ hy)];have:clos env.cells ((n,k)::l) cs=clos env.cells l ((n,c)::cs):=by
     conv=>lhs;unfold clos
     rw[if_pos hk,hc];rfl
    rw[this]
   ·rw[if_neg hk]
    simp only[pure_bind];rw[ih _ fun y hy=>h y (List.mem_cons_of_mem _ hy)]
    conv=>rhs;unfold clos
    rw[if_neg hk]
 have:=key names cs h
 first
  | exact (by simpa using this)
  | (rw [<- this];rfl)
theorem Vx:∀ {names:List (Str×NameKind)} {cs:List (Str×Addr)},(∀ x∈names,x.2=.free->∃ c,cells.lookup x.1=some c)->(∀ x c,cs.lookup x=some c->cells.lookup x=some c) ->
  ∀ x c,(clos cells names cs).lookup x=some c->cells.lookup x=some c
 | [],_,_,h,x,c,e=>h x c e
 | (n,k)::r,cs,hn,h,x,c,e=>by
  unfold clos at e;by_cases hk:(k==NameKind.free)=true
  ·rw[if_pos hk] at e
   obtain⟨c0,hc0⟩:=hn (n,k) List.mem_cons_self (by simpa using hk);refine Vx (fun y hy=>hn y (List.mem_cons_of_mem _ hy)) (fun y d q=>?_) x c e;rw[List.lookup_cons] at q;cases hy:y==n with
   | true=>rw [hy] at q;rw[eq_of_beq hy,hc0];rw[hc0] at q;exact q
   | false=>rw [hy] at q;exact h y d q
  ·rw[if_neg hk] at e
   exact Vx (fun y hy=>hn y (List.mem_cons_of_mem _ hy)) h x c e
theorem Wi:∀ {names:List (Str×NameKind)} {cs:List (Str×Addr)} {x:Str},((∃ c,cs.lookup x=some c)\/(x,NameKind.free)∈names)->∃ c,(clos cells names cs).lookup x=some c
 | [],_,_,h=>by
  rcases h with h|h
  ·exact h
  ·cases h
 | (n,k)::r,cs,x,h=>by
  unfold clos;by_cases hk:(k==NameKind.free)=true
  ·rw[if_pos hk]
   refine Wi ?_;cases hx:x==n with
   | true=>exact .inl ⟨_,by rw[List.lookup_cons,hx]⟩
   | false =>
    rcases h with ⟨c,h⟩|h
    ·exact .inl ⟨c,by rw[List.lookup_cons,hx];exact h⟩
    ·rcases List.mem_cons.mp h with h|h
     ·cases h;simp at hx
     ·exact .inr h
  ·rw[if_neg hk]
   refine Wi ?_;rcases h with h|h
   ·exact .inl h
   ·rcases List.mem_cons.mp h with h|h
    ·cases h;simp at hk
    ·exact .inr h
theorem YU {env:Env}:∀ {names:List (Str×NameKind)} {x:Str} {k:NameKind},
  (names.map fun (n,k)=>if (k==NameKind.free&&env.scope.kind==.function&&env.kindOf n==some .cell) then (n,NameKind.cell) else (n,k)).lookup x=some k ->
  ∃ k',names.lookup x=some k'/\(k=k'\/(k'=.free/\k=.cell))
 | [],_,_,h=>by simp at h
 | (n,k0)::r,x,k,h=>by
  have ih:=@YU env r x k;simp only[List.map_cons] at h;by_cases hc:(k0==NameKind.free&&env.scope.kind==.function&&env.kindOf n==some .cell)=true
  ·rw[if_pos hc] at h
   rw[List.lookup_cons] at h ⊢;cases hx:x==n with
   | true =>
    simp only[hx] at h;cases h;simp only[Bool.and_eq_true,beq_iff_eq] at hc;exact⟨k0,rfl,.inr ⟨hc.1.1,rfl⟩⟩
   | false=>simp only[hx] at h;exact ih h
  ·rw[if_neg hc] at h
   rw[List.lookup_cons] at h ⊢;cases hx:x==n with
   | true=>simp only[hx] at h;cases h;exact⟨k0,rfl,.inl rfl⟩
   | false=>simp only[hx] at h;exact ih h
structure BlkOk (N:List Str) (env:Env) (N':List Str) (scope:Scope):Prop where
 kind:scope.kind=.function
 cell:∀ y∈scope.names,y.2≠.cell
 names:∀ y∈scope.names,y.2=.local->scope.names.lookup y.1=some .local
 free:∀ y∈scope.names,y.2=.free->env.kindOf y.1=some .cell\/env.kindOf y.1=some .free
 agree:∀ i x,i<N.length->N'[i]?=some x->∀ k,scope.names.lookup x=some k->k=.globalImplicit\/k=.globalExplicit\/(k=.free/\N[i]?=some x)
 long:N.length<=N'.length
noncomputable def YE (X:Cx) (N':List Str) (scope:Scope) (cl:List (Str×Addr)) (C:Addr) (s:Shared) (H:Hp) (ex:List Addr) (pn:List (Addr×Obj)):Cx :=
 {X with N:=N',s₀:=s,H₀:=H,env:=compEnvC scope cl C X.env,outer:=X.stack,stack:=X.stack,ex:=ex,fn:=fun _=>false,pn:=pn,xe:=fun _ _=>False}
section
variable {X:Cx} {rz:Bool} {Xe:DSt->DK} {pins:List (Addr×Obj)} {σ:L2.St} {H:Hp} {s:Shared} {N':List Str} {scope:Scope} {fp:List Addr}
theorem Bt (I:L2.Inv X pins σ H s) (B:BlkOk X.N X.env N' scope) (hf:∀ b∈fp,FpOk X pins H b) (hflt:∀ b∈fp,b<s.heap.objs.size)
  (hns:h1.Ns s.heap.objs.size (fun x=>([]:List (Str×Value)).reverse.lookup x)) (hk:∀ b o,s.heap.get? b=some o->h1.get? b=some o) :
  L2.Inv (YE X N' scope (clos X.env.cells scope.names []) s.heap.objs.size s H fp []) [] (σ++List.replicate (N'.length-X.N.length) none) H {s with heap:=h1,toks:=tk}:=by
 have hcells:∀ x∈scope.names,x.2=.free->∃ c,X.env.cells.lookup x.1=some c:=fun x hx e=>I.ok.has x.1 (B.free x hx e);have csub:=Vx (cells:=X.env.cells) (names:=scope.names) (cs:=[]) hcells (fun x c e=>by simp at e);have noC:∀ x c,X.env.cells.lookup x=some c->c<s.heap.objs.size:=fun x c e=>by obtain⟨v,q⟩:=I.cell x c e;exact q.lt
 refine⟨⟨I.ok.mod,?_,I.ok.glob,I.ok.blt,Nat.le_refl _,fun x y c e1 e2=>I.ok.inj x y c (csub x c e1) (csub y c e2),fun x hx=>?_,fun x c e=>(by cases e),I.ok.hd,I.ok.frames,.inl rfl,fun b hb=>⟨Nat.ne_of_lt (hflt b hb),fun x c e=>(hf b hb).2.2.2.2.1 x c (csub x c e)⟩,
  I.bs,Nat.le_trans I.ok.bsz I.sz,fun b o e hb=>?_,fun b hb z=>?_,I.stack,I.stkFree⟩,rfl,I.bare,Un.kept hk,⟨_,hns,fun i x v e1 e2 e3=>?_⟩,fun x c e=>?_,I.hok.fresh %[|3],fun x c e=>I.freeC x c (csub x c e),fun p hp=>absurd (show p∈([]:List (Addr×Obj)) from hp) (by simp),I.hok.kept hk,?_⟩
 ·show (relabel scope X.env).kind=.function
  exact B.kind
 ·
  have hx':(relabel scope X.env).names.lookup x=some .cell\/(relabel scope X.env).names.lookup x=some .free:=hx;have fin:(x,NameKind.free)∈scope.names->∃ c,(clos X.env.cells scope.names []).lookup x=some c:=fun z=>Wi (.inr z);rcases hx' with z|z
  ·obtain⟨k',e1,e2⟩:=YU z
   have hm:=PySem.mem_of_lookup e1;rcases e2 with e2|⟨e2,_⟩
   ·subst e2;exact absurd rfl (B.cell _ hm)
   ·subst e2;exact fin hm
  ·obtain⟨k',e1,e2⟩:=YU z
   have hm:=PySem.mem_of_lookup e1;rcases e2 with e2|⟨_,e2⟩
   ·subst e2;exact fin hm
   ·cases e2
 ·
  obtain⟨_,_,_,z,_⟩:=hf b hb;rcases z with z|z
  ·exact I.ok.noex b o e z
  ·exact absurd (Nat.lt_of_lt_of_le (Heap.lt_size e) I.ok.bsz) (Nat.not_lt.mpr z)
 ·obtain⟨_,z1,z2,_⟩:=hf b hb
  rcases List.mem_cons.mp (I.stkSub b z) with q|q
  ·exact z1 q
  ·exact z2 q
 ·
  have e3':(relabel scope X.env).names.lookup x=some .local\/(relabel scope X.env).names.lookup x=some .cell\/(relabel scope X.env).names.lookup x=some .free:=e3;have hi:i < σ.length:=by
   by_cases hi:i < σ.length
   ·exact hi
   ·rw[List.getElem?_append_right %[|5],List.getElem?_replicate] at e2
    split at e2<;>cases e2
  rw[List.getElem?_append_left hi] at e2;have hiN:i<X.N.length:=by rw[<- I.len];exact hi
  obtain⟨k',q1,q2⟩:∃ k',scope.names.lookup x=some k'/\(k'=.local\/k'=.cell\/k'=.free):=by
   rcases e3' with z|z|z
   all_goals
    obtain⟨k',e1,e2⟩:=YU z;rcases e2 with e2|⟨e2,e4⟩
    ·exact⟨k',e1,by rw[<- e2];simp⟩
    ·exact⟨k',e1,by rw[e2];simp⟩
  obtain⟨hfree,hN⟩:k'=.free/\X.N[i]?=some x:=by
   rcases B.agree i x hiN e1 k' q1 with z|z|z
   ·subst z;simp at q2
   ·subst z;simp at q2
   ·exact z
  subst hfree;have hout:=B.free (x,.free) (PySem.mem_of_lookup q1) rfl;obtain⟨m,hn,hl⟩:=I.loc;have vis:Vis X.env.scope x:=by rcases hout with z|z;exact .inr (.inl z);exact .inr (.inr z)
  obtain⟨u,r,l⟩:=hl i x v hN e2 vis;refine⟨u,r,?_⟩;rcases l with ⟨hkk,_⟩|⟨_,c,hc,hcell⟩
  ·exfalso
   rcases hout with z|z
   ·rw[show X.env.kindOf x=some .cell from z] at hkk;cases hkk
   ·rw[show X.env.kindOf x=some .free from z] at hkk;cases hkk
  ·obtain⟨c',hc'⟩:=Wi (cells:=X.env.cells) (names:=scope.names) (cs:=[]) (.inr (PySem.mem_of_lookup q1))
   have:=csub x c' hc';rw[hc] at this;cases this;refine .inr ⟨?_,c,hc',(let ⟨o,e1,e2⟩:=hcell;⟨o,hk _ o e1,e2⟩)⟩;rcases e3' with z|z|z
   ·obtain⟨k',e1,e2⟩:=YU z
    rw[q1] at e1;cases e1;rcases e2 with e2|⟨_,e2⟩<;>cases e2
   ·exact .inl z
   ·exact .inr z
 ·obtain⟨v,q⟩:=I.cell x c (csub x c e)
  exact⟨v,let ⟨o,e1,e2⟩:=q;⟨o,hk _ o e1,e2⟩⟩
 ·show (σ++List.replicate (N'.length-X.N.length) none).length=N'.length
  rw[List.length_append,List.length_replicate,I.len];have:=B.long;omega
noncomputable def Zb (g:DG) (te:DE) (keep:Mem->Prop) (p:Addr):List D->List D->DSt->Mem->(Mem->Prop)->Prop
 | [],_,_,M,Q=>Q M
 | x::xs,acc,δ,M,Q=>g x δ M fun δ1 M1=>te δ1 M1 fun d M2=>M2 p=some (.ls acc)/\acc.length<sizeLine/\keep (M2.upd p (.ls (acc++[d])))/\Zb g te keep p xs (acc++[d]) δ1 (M2.upd p (.ls (acc++[d]))) Q
noncomputable def YX (n:Nat) (ti:DI) (g:DG) (te:DE):DE:=fun δ M Q=>ti δ M fun items keep M1=>∀ p,M1 p=none ->
 keep (M1.upd p (.ls []))/\Zb g te keep p items [] (δ++List.replicate n none) (M1.upd p (.ls [])) fun M2=>(∃ ds,M2 p=some (.ls ds))/\Q (.lst p) M2
theorem Slots.more {K:Frag} {H:Hp} {δ:DSt} {σ:L2.St} (r:Slots K H δ σ) (n:Nat):Slots K H (δ++List.replicate n none) (σ++List.replicate n none):=by
 refine⟨by simp[r.len],fun i d e=>?_⟩;by_cases hi:i < δ.length
 ·rw[List.getElem?_append_left hi] at e
  obtain⟨v,h1,h2⟩:=r.slot i d e;exact⟨v,by rw[List.getElem?_append_left (by rw[<- r.len];exact hi)];exact h1,h2⟩
 ·rw[List.getElem?_append_right %[|5],List.getElem?_replicate] at e
  split at e<;>cases e
end
end DL
end
noncomputable section
namespace DL
open PySem PySem.Spec PyProof.Rows L2
abbrev DB:=DSt->Mem->(DSt->Mem->Prop)->Prop
abbrev BW:=Program->World->Around->(Shared->Prop)->Shared->Prop
noncomputable def Ix (Λ:LK) (b:DB) (σ:L2.St) (H:Hp) (Q:L2.St->Hp->Prop):Prop:=∃ δ M R,RepS Λ H δ σ/\RepM Λ.K H M/\b δ M R/\∀ δ' M' σ' H',HExt Λ.K H H'->RepS Λ H' δ' σ'->RepM Λ.K H' M'->R δ' M'->Q σ' H'
noncomputable def PB (Y:Cx) (W:BW) (b:DB):Prop:=∀ (pins:List (Addr×Obj)) (s:Shared) (σ:L2.St) (H:Hp) (Q:L2.St->Hp->Prop),L2.Inv Y pins σ H s->Ix (Y.L false X0) b σ H Q ->
 W Y.prog Y.w Y.A (fun s'=>∃ σ' H',L2.Inv Y pins σ' H' s'/\Q σ' H') s
noncomputable def WI (g:DG) (b:DB) (keep:Mem->Prop):List D->DB
 | []=>fun δ M Q=>Q δ M
 | x::xs=>fun δ M Q=>g x δ M fun δ1 M1=>b δ1 M1 fun δ2 M2=>keep M2/\WI g b keep xs δ2 M2 Q
noncomputable def DF (te:DE) (p:Addr):DB:=fun δ M Q=>te δ M fun d M2=>∃ acc,M2 p=some (.ls acc)/\acc.length<sizeLine/\Q δ (M2.upd p (.ls (acc++[d])))
noncomputable def UB (n:Nat) (ti:DI) (g:DG) (b:Addr->DB):DE:=fun δ M Q=>ti δ M fun items keep M1=>∀ p,M1 p=none ->
 keep (M1.upd p (.ls []))/\WI g (b p) keep items (δ++List.replicate n none) (M1.upd p (.ls [])) fun _ M2=>(∃ ds,M2 p=some (.ls ds))/\Q (.lst p) M2
noncomputable def VT (elt:Expr) (acc:Value) (env:Env):BW:=fun prog w A Q s=>wpAny (model prog w) A (eval elt env) (fun x s1=>wpAny (model prog w) A (call (.builtin "list.append") [acc,x]) (fun _ s2=>Q s2) (fun _ _=>False) s1) (fun _ _=>False) s
noncomputable def WD (e target:Expr) (d:Nat) (it acc:Value) (env:Env) (body:BW):Prop:=∀ {prog:Program} {w:World} {A:Around} {R:Fin->Shared->Prop} {s:Shared},
 wpAny (model prog w) A (pyNext it) (fun r s₁=>match r with
   | none=>R (.done .next) s₁
   | some v=>wpAny (model prog w) A (letOwnedTupleGo target it v) (fun _ s₂=>wpAny (model prog w) A (assign target env v) (fun _ s₃=>body prog w A (fun s₄=>R (.again (.compLoop e d it acc env)) s₄) s₃) (fun _ _=>False) s₂) (fun _ _=>False) s₁) (fun _ _=>False) s ->
 wpAny (model prog w) A (compTurn e d it acc env) R (fun _ _=>False) s
theorem CF
  (ht:WD (.ListComp elt gs scope pos) target d it acc env body) (I:Nat->Shared->Prop)
  (turn:∀ n s,I n s->wpAny (model prog w) A (pyNext it) (fun r s₁=>match r with
   | none=>R (.ok .next) s₁
   | some v=>wpAny (model prog w) A (letOwnedTupleGo target it v) (fun _ s₂=>wpAny (model prog w) A (assign target env v) (fun _ s₃=>body prog w A (fun s₄=>∃ m,m<n/\I m s₄) s₃) (fun _ _=>False) s₂) (fun _ _=>False) s₁) (fun _ _=>False) s)
  (mono:∀ (A:Around) (Q Q':Shared->Prop) s,(∀ s',Q s'->Q' s')->body prog w A Q s->body prog w A Q' s)
  (n:Nat) (h:I n s):codeAny (model prog w) A (.compLoop (.ListComp elt gs scope pos) d it acc env) R s:=by
 refine codeAny_loop rfl I (fun n s hI=>?_) n h;show wpAny _ _ ((compTurn (.ListComp elt gs scope pos) d it acc env).onRaise (fun x=>do noteFrame x env;theTreesLotGoes x)) _ _ s;refine wpAny_noted (wpAny_mono (ht (R:=fun fin s'=>match fin with | .done f=>R (.ok f) s' | .again c'=>c'=.compLoop (.ListComp elt gs scope pos) d it acc env/\∃ m,m<n/\I m s') (wpAny_mono (turn n s hI) (fun r s₁ h₁=>?_) fun _ _ h'=>h'.elim)) (fun _ _ q=>q) fun _ _ h'=>h'.elim);cases r with
 | none=>exact h₁
 | some v=>exact wpAny_mono h₁ (fun _ s₂ h₂=>wpAny_mono h₂ (fun _ s₃ h₃=>mono _ _ _ _ (fun s' q=>⟨rfl,q⟩) h₃) fun _ _ h'=>h'.elim) fun _ _ h'=>h'.elim
theorem Vo (A:Around) (Q Q':Shared->Prop) (s) (hq:∀ s',Q s'->Q' s') (h:VT elt acc env prog w A Q s):VT elt acc env prog w A Q' s :=
 wpAny_mono h (fun _ _ h1=>wpAny_mono h1 (fun _ _ h2=>hq _ h2) fun _ _ h'=>h') fun _ _ h'=>h'
theorem UK:WD (.ListComp elt [⟨target,iter,[],0⟩] scope pos) target 0 it acc env (VT elt acc env):=by
 intro prog w A R s h;rw[compTurn_list1];refine wpAny_bind (wpAny_standAt (wpAny_bind (wpAny_mono h (fun r s₁ h₁=>?_) fun _ _ h'=>h'.elim)));cases r with
 | none=>exact wpAny_pure h₁
 | some v =>
  refine wpAny_bind (wpAny_mono h₁ (fun _ s₂ h₂=>?_) fun _ _ h'=>h'.elim);exact wpAny_bind (wpAny_mono h₂ (fun _ s₃ h₃=>wpAny_bind (wpAny_bind (wpAny_mono h₃ (fun x s₅ h₅=>wpAny_bind (wpAny_mono h₅ (fun _ s₆ h₆=>wpAny_pure (wpAny_pure h₆)) fun _ _ h'=>h'.elim)) fun _ _ h'=>h'.elim))) fun _ _ h'=>h'.elim)
noncomputable def gUp (g:DG):DG:=fun x δ M Q=>∃ R,g x δ M R/\∀ δ1 M1,R δ1 M1->Q δ1 M1
noncomputable def iUp (ti:DI):DI:=fun δ M R=>∃ R0,ti δ M R0/\∀ items keep M1,R0 items keep M1->R items keep M1
noncomputable def eUp (te:DE):DE:=fun δ M Q=>∃ R,te δ M R/\∀ d M1,R d M1->Q d M1
theorem VY:∀ {items acc:List D} {δ:DSt} {M:Mem},Zb g te keep p items acc δ M Q->WI (gUp g) (DF (eUp te) p) keep items δ M fun _ M2=>Q M2
 | [],_,_,_,h=>h
 | x::xs,acc,δ,M,h=>⟨_,h,fun δ1 M1 h1=>⟨_,h1,fun d M2 h2=>⟨acc,h2.1,h2.2.1,h2.2.2.1,VY h2.2.2.2⟩⟩⟩
theorem Ji (h:YX n ti g te δ M Q):UB n (iUp ti) (gUp g) (DF (eUp te)) δ M Q :=
 ⟨_,h,fun items keep M1 h1 p hp=>⟨(h1 p hp).1,VY (h1 p hp).2⟩⟩
theorem CH
  {δ:DSt} {M:Mem} {R:DSt->Mem->Prop} {Rr:Result->Shared->Prop} {H0:Hp} (hc:Y.calm=true) (hx:Y.xe=fun _ _=>False)
  (ht:WD (.ListComp elt gs scope pos) target d (.ref it) acc Y.env W) (mono:∀ (A:Around) (Q Q':Shared->Prop) s,(∀ s',Q s'->Q' s')->W Y.prog Y.w A Q s->W Y.prog Y.w A Q' s)
  (T:Turn Y.prog Y.w Y.K target J fp it tn) (itd:ItD Y.K H0 J items keep) (hg:PG Y target (ZD (Y.L false X0) g)) (hb:PB Y W b)
  (I:L2.Inv Y pins σ H s) (hf:∀ b∈fp,FpOk Y pins H b) (st:tn 0 s.heap) (x0:HExt Y.K H0 H) (rs:Slots Y.K H δ σ) (rm:RepM Y.K H M) (k:keep M) (h:WI g b keep items δ M R)
  (fin:∀ s' σ' H' δ' M',L2.Inv Y pins σ' H' s'->HExt Y.K H H'->Slots Y.K H' δ' σ'->RepM Y.K H' M'->R δ' M'->Rr (.ok .next) s') :
  codeAny (model Y.prog Y.w) Y.A (.compLoop (.ListComp elt gs scope pos) d (.ref it) acc Y.env) Rr s:=by
 have stat:∀ {H':Hp},(∀ b∈fp,H' b=none)->∀ b∈fp,FpOk Y pins H' b:=fun hn b hb=>⟨hn b hb,(hf b hb).2⟩;refine CF ht (fun n s'=>∃ i σ' H' δ' M',L2.Inv Y pins σ' H' s'/\tn i s'.heap/\(∀ b∈fp,H' b=none)/\n=items.length-i/\i<=items.length/\HExt Y.K H H'/\Slots Y.K H' δ' σ'/\RepM Y.K H' M'/\keep M'/\WI g b keep (items.drop i) δ' M' R) ?_ mono items.length
  ⟨0,σ,H,δ,M,I,st,fun b hbb=>(hf b hbb).1,rfl,Nat.zero_le _,.refl _,rs,rm,k,h⟩
 rintro n s5 ⟨i,σ5,H5,δ5,M5,I5,st5,fr5,rfl,hi5,x5,rs5,m5,k5,h5⟩;obtain⟨i1,i2,i3⟩:=itd i H5 M5 (x0.trans x5) m5 k5;by_cases hl:i<items.length
 ·rw[List.drop_eq_getElem_cons hl] at h5
  refine thn (T.item Y rfl rfl rfl hc i pins s5 σ5 H5 _ I5 (stat fr5) st5 (i1 hl)) fun r s6 hq2=>?_;obtain⟨u,hr,h6⟩:=hq2;subst hr;refine thn h6 fun _ s7 hq2=>?_;obtain⟨x,H7,I7,r7,y7,st7,fr7⟩:=hq2;obtain⟨x7,m7,r7'⟩:=i3 x H7 y7;have I7':=I7.pinned (stat fr7) (T.obj _ _ st7);have h8:=hg _ s7 σ5 H7 x u (fun σ8 H8=>∃ δ8 M8,HExt Y.K H7 H8/\Slots Y.K H8 δ8 σ8/\RepM Y.K H8 M8/\b δ8 M8 fun δ2 M2=>keep M2/\WI g b keep (items.drop (i+1)) δ2 M2 R) I7' r7
   ⟨items[i],δ5,M5,_,r7' _ (by simp[hl]),⟨rs5.ext x7,Bv⟩,m7,h5,fun δ8 M8 σ8 H8 x8 rs8 m8 h8=>⟨δ8,M8,x8,rs8.toSlots,m8,h8⟩⟩
  rw[hx] at h8;refine thn h8 fun _ s8 hq2=>?_;obtain⟨σ8,H8,I8,δ8,M8,x8,rs8,m8,h8⟩:=hq2;refine mono _ _ _ _ ?_ (hb _ s8 σ8 H8 (fun σ9 H9=>∃ δ9 M9,HExt Y.K H8 H9/\Slots Y.K H9 δ9 σ9/\RepM Y.K H9 M9/\keep M9/\WI g b keep (items.drop (i+1)) δ9 M9 R) I8 ⟨δ8,M8,_,⟨rs8,Bv⟩,m8,h8,fun δ9 M9 σ9 H9 x9 rs9 m9 h9=>⟨δ9,M9,x9,rs9.toSlots,m9,h9⟩⟩);rintro s9 ⟨σ9,H9,I9,δ9,M9,x9,rs9,m9,k9,h9⟩;refine⟨items.length-(i+1),by omega,i+1,σ9,H9,δ9,M9,I9.unpinned,T.keep _ _ _ st7 fun b hbb o e=>(I9.pin (b,o) (List.mem_append_right _ (List.mem_append_right _ (ZC hbb e)))).1,fun b hbb=>?_,rfl,hl,(((x5.trans x7).trans x8).trans x9),rs9,m9,k9,h9⟩;obtain⟨o,e,d'⟩:=T.obj _ _ st7 b hbb;exact (I9.pin (b,o) (List.mem_append_right _ (List.mem_append_right _ (ZC hbb e)))).2.1
 ·have e:i=items.length:=by omega
  subst e;rw[List.drop_length] at h5;refine thn (T.done Y rfl rfl rfl hc _ pins s5 σ5 H5 _ I5 (stat fr5) st5 (i2 %[|3])) fun r s6 hq2=>?_;obtain⟨hr,I6⟩:=hq2;subst hr;exact fin s6 σ5 H5 δ5 M5 I6 x5 rs5 m5 h5
theorem Ag (hx:Y.xe=fun _ _=>False) (he:PE Y elt (lift (Y.L false X0) te)):PB Y (VT elt (.ref p) Y.env) (DF te p):=by
 rintro pins s σ H Q I ⟨δ,M,R,rs,rm,h,q⟩;have h8:=he pins s σ H (fun v H9=>∃ d M9,HExt Y.K H H9/\RepM Y.K H9 M9/\RelD Y.K H9 v d/\∃ acc,M9 p=some (.ls acc)/\acc.length<sizeLine/\R δ (M9.upd p (.ls (acc++[d])))) I
  ⟨δ,M,_,rs,rm,h,fun d M9 v H9 x9 m9 r9 h9=>⟨d,M9,x9,m9,r9,h9⟩⟩
 rw[hx] at h8;refine thn h8 fun y s9 hq2=>?_;obtain⟨v,H9,I9,r9,d,M9,x9,m9,rd9,acc,a9,z9,h9⟩:=hq2;obtain⟨vs,ev,rv⟩:=m9 _ _ a9;have xw:HExt Y.K H9 (upd H9 p (.lst (vs++[v]))):=.upd (.inr ⟨_,ev,trivial⟩);have h10:=VL pins s9 σ H9 (.ref p) [v] (.ref p) [y] (fun _ H10=>H10=upd H9 p (.lst (vs++[v]))) I9 rfl (.cons r9 .nil) ⟨_,vs,v,rfl,rfl,ev,by rw[rv.length];exact z9,rfl⟩;rw[hx] at h10;refine thn h10 fun _ s10 hq2=>?_;obtain⟨_,H10,I10,_,e10⟩:=hq2;subst e10;exact⟨σ,_,I10,q _ _ _ _ (x9.trans xw) (rs.ext (x9.trans xw)) (m9.write ev (rv.append (.cons rd9 .nil))) h9⟩
section
variable {X:Cx} {rz:Bool} {Xe:DSt->DK} {N':List Str} {scope:Scope} {elt target iter:Expr} {ifs:List Expr} {rest:List Comprehension} {pos:Pos} {ti:DI} {g:DG} {b:Addr->DB}
theorem VZ (hc:X.calm=true) (B:BlkOk X.N X.env N' scope) (hi:PI X target iter (ZP (X.L rz Xe) ti))
  (W:Addr->Env->BW) (mono:∀ p env (A:Around) (Q Q':Shared->Prop) s,(∀ s',Q s'->Q' s')->W p env X.prog X.w A Q s->W p env X.prog X.w A Q' s)
  (hb:∀ cl C s H ex p,PG (YE X N' scope cl C s H ex []) target (ZD ((YE X N' scope cl C s H ex []).L false X0) g)/\PB (YE X N' scope cl C s H ex []) (W p (YE X N' scope cl C s H ex []).env) (b p))
  (ht:∀ it p env,WD (.ListComp elt (⟨target,iter,ifs,0⟩::rest) scope pos) target 0 it (.ref p) env (W p env))
  (hs:∀ x,foldedSetIterable iter X.env x=pure x) {use:Option (Value->Sem Unit)} {Post:Value->Shared->Prop} {pins:List (Addr×Obj)} {s:Shared} {σ:L2.St} {H:Hp} {δ:DSt} {M:Mem} {R:DK}
  (I:L2.Inv X pins σ H s) (rs:RepS (X.L rz Xe) H δ σ) (rm:RepM X.K H M) (t:UB (N'.length-X.N.length) ti g b δ M R)
  (fin:∀ (p C:Addr) (s6:Shared) (H5:Hp) (M5:Mem),HExt X.K H H5->RepM X.K H5 M5->R (.lst p) M5->L2.Inv X pins σ H5 s6->FpOk X pins H5 C->(∃ m,s6.heap.Ns C m)->(∀ h',Heap.SameBut C s6.heap h'->L2.Inv X pins σ H5 {s6 with heap:=h'})->compPost (model X.prog X.w) X.A X.xe use Post (.ref p) C (.ok .next) s6) :
  wpAny (model X.prog X.w) X.A (comprehension (.ListComp elt (⟨target,iter,ifs,0⟩::rest) scope pos) scope X.env (firstIterPos (⟨target,iter,ifs,0⟩::rest) pos) (newList []) (firstAsync (⟨target,iter,ifs,0⟩::rest)) (firstIter (⟨target,iter,ifs,0⟩::rest) X.env) use) Post X.xe s:=by
 have hcells:∀ x∈scope.names,x.2=.free->∃ c,X.env.cells.lookup x.1=some c:=fun x hx e=>I.ok.has x.1 (B.free x hx e);refine wpAny_comprehension_free (use:=use) (cl:=clos X.env.cells scope.names []) rfl hs (WR hcells) B.kind B.names ?_;refine thn (hi pins s σ H (fun J H1=>∃ items keep M1,HExt X.K H H1/\RepM X.K H1 M1/\keep M1/\ItD X.K H1 J items keep/\∀ p,M1 p=none->keep (M1.upd p (.ls []))/\WI g (b p) keep items (δ++List.replicate (N'.length-X.N.length) none) (M1.upd p (.ls [])) fun _ M2=>(∃ ds,M2 p=some (.ls ds))/\R (.lst p) M2) I
  ⟨δ,M,_,rs,rm,t,fun items keep M1 J H1 x1 m1 k1 it h1=>⟨items,keep,M1,x1,m1,k1,it,h1⟩⟩) fun v s1 h1=>thn h1 fun itv s2 h2=>?_
 obtain⟨it,fp,tn,J,H2,e,I2,T,st2,f2,items,keep,M1,x1,m1,k1,itd,h2⟩:=h2;subst e;have hflt2:∀ b∈fp,b<s2.heap.objs.size:=fun b hb=>let ⟨o,e,_⟩:=T.obj _ _ st2 b hb;Heap.lt_size e
 have hp:H2 s2.heap.objs.size=none:=I2.hok.fresh %[|3];refine wpAny_newObj_type ?_;have I3:=I2.lnew (ys:=[]) (its:=[]) (t':=s2.toks) .nil (Nat.zero_le _);have x3:HExt X.K H2 (upd H2 s2.heap.objs.size (.lst [])):=.upd (.inl hp);obtain⟨k3,h3⟩:=h2 _ (m1.none hp);have m3:=m1.lst (vs:=[]) (ds:=[]) hp .nil
 revert I3
 generalize hs3:(({s2 with heap:=s2.heap.push {cls:=.type "list",data:=.seq ([]:List Value).toArray},toks:=s2.toks}:Shared))=s3;intro I3;have hh3:s3.heap=s2.heap.push {cls:=.type "list",data:=.seq ([]:List Value).toArray}:=by rw[<- hs3]
 have sz3:s3.heap.objs.size=s2.heap.objs.size+1:=by rw[hh3,Heap.size_push]
 have st3:tn 0 s3.heap:=T.keep _ _ _ st2 fun b _ o e=>by rw[hh3];exact Heap.get?_push_of_some _ e
 have hflt3:∀ b∈fp,b<s3.heap.objs.size:=fun b hb=>by rw[sz3];exact Nat.lt_succ_of_lt (hflt2 b hb)
 have f3:∀ b∈fp,FpOk X pins (upd H2 s2.heap.objs.size (.lst [])) b:=fun b hb=>⟨by rw[Y6 (Nat.ne_of_lt (hflt2 b hb))];exact (f2 b hb).1,(f2 b hb).2⟩;have goal3:wpAny (model X.prog X.w) X.A (newFunctionEnv scope X.env.globals (clos X.env.cells scope.names []) [] X.env.qual none .none (some X.env)) (fun cenv s₄ =>
   codeAny (model X.prog X.w) X.A (.compStart (.ListComp elt (⟨target,iter,ifs,0⟩::rest) scope pos) 0 (.ref it) (.ref s2.heap.objs.size) {cenv with scope:=relabel scope X.env})
    (compPost (model X.prog X.w) X.A X.xe use Post (.ref s2.heap.objs.size) cenv.locals) s₄) X.xe s3:=by
  refine wpAny_newFunctionEnv B.cell (by intro y hy;simp at hy) (fun h₁ hns₁ hsb₁=>?_) B.kind;have old:∀ b o,s3.heap.get? b=some o->h₁.get? b=some o:=fun b o e=>hsb₁.extBut b o (Nat.ne_of_lt (Heap.lt_size e)) (Heap.get?_push_of_some _ e);have I4:=Bt (N':=N') (tk:=s3.toks+([]:List (Str×Value)).length) I3 B f3 hflt3 hns₁ old;obtain⟨hg,hbb⟩:=hb (clos X.env.cells scope.names []) s3.heap.objs.size s3 (upd H2 s2.heap.objs.size (.lst [])) fp s2.heap.objs.size;have st4:tn 0 h₁:=T.keep _ _ _ st3 fun b _ o e=>old b o e;have stat:∀ {H':Hp},(∀ b∈fp,H' b=none)->∀ b∈fp,FpOk (YE X N' scope (clos X.env.cells scope.names []) s3.heap.objs.size s3 (upd H2 s2.heap.objs.size (.lst [])) fp []) [] H' b:=fun hn b hbb=>by
   obtain⟨g1,g2⟩:=I4.ok.exf b hbb;exact⟨hn b hbb,g1,I4.ok.exfs b hbb,.inl hbb,g2,fun p hp=>absurd (show p∈([]:List (Addr×Obj)) from hp) (by simp)⟩
  have loop:codeAny (model X.prog X.w) X.A (.compLoop (.ListComp elt (⟨target,iter,ifs,0⟩::rest) scope pos) 0 (.ref it) (.ref s2.heap.objs.size) (compEnvC scope (clos X.env.cells scope.names []) s3.heap.objs.size X.env))
    (compPost (model X.prog X.w) X.A X.xe use Post (.ref s2.heap.objs.size) s3.heap.objs.size) {s3 with heap:=h₁,toks:=s3.toks+([]:List (Str×Value)).length}:=by
   refine CH (Y:=YE X N' scope (clos X.env.cells scope.names []) s3.heap.objs.size s3 (upd H2 s2.heap.objs.size (.lst [])) fp []) (H0:=H2) hc rfl (ht _ _ _) (mono _ _) T itd hg hbb I4 (stat fun b hbb=>(f3 b hbb).1) st4 x3 ((rs.toSlots.ext (x1.trans x3)).more _) m3 k3 h3 ?_;intro s6 σ5 H5 δ5 M5 I6 x5 rs5 m5 h5;obtain⟨_,h5⟩:=h5;obtain⟨mC,nC,_⟩:=I6.loc;have key:∀ h',Heap.SameBut s3.heap.objs.size s6.heap h'->L2.Inv X pins σ H5 {s6 with heap:=h'}:=fun h' hsb=>by
    have ne:∀ b o,s3.heap.get? b=some o->b≠s3.heap.objs.size:=fun b o e=>Nat.ne_of_lt (Heap.lt_size e);have un:=I6.base;have un':Un (frs X.stack) fp (upd H2 s2.heap.objs.size (.lst [])) H5 s3.heap h' :=
     ⟨fun b o e n1 n2 n3=>hsb.extBut b o (ne b o e) (un.keep b o e n1 n2 n3),fun b o e n1 n2 n3=>let ⟨sl,z⟩:=un.slot b o e n1 n2 n3;⟨sl,hsb.extBut _ _ (ne b o e) z⟩,un.free,fun b o e n1=>let ⟨o',z⟩:=un.there b o e n1;⟨o',hsb.extBut _ _ (ne b o e) z⟩,un.tups,un.frzs,un.tbls⟩
    have hok':HOk X.prog X.w H5 h':=fun b ob e=>by
     refine (I6.hok b ob e).stay (fun c w' hc' q'=>hsb.extBut _ _ ?_ q') (fun _ q=>q) fun _ _ q=>q;rintro rfl;rcases hc' with rfl|hc'
     ·rw[show H5 s3.heap.objs.size=none from I6.free] at e;cases e
     ·rw[show H5 s3.heap.objs.size=none from I6.free] at hc';cases hc'
    exact I3.call' (ch:=fp) (s':={s6 with heap:=h'}) I6.os un' hok' I6.bare fun b hbb=>⟨(f3 b hbb).2.2.2.1,(f3 b hbb).2.1,(f3 b hbb).2.2.2.2.1,(f3 b hbb).2.2.2.2.2⟩
   exact fin s2.heap.objs.size s3.heap.objs.size s6 H5 M5 ((x1.trans x3).trans x5) m5 h5 (key _ (.refl _ _)) (I3.fpOk %[|3] I6.free) ⟨mC,nC⟩ key
  exact codeAny_compStart_list loop (T.self X.A 0 _ _ _ st4 loop)
 subst hs3;exact goal3
theorem Dg (hc:X.calm=true) (B:BlkOk X.N X.env N' scope) (hi:PI X target iter (ZP (X.L rz Xe) ti))
  (W:Addr->Env->BW) (mono:∀ p env (A:Around) (Q Q':Shared->Prop) s,(∀ s',Q s'->Q' s')->W p env X.prog X.w A Q s->W p env X.prog X.w A Q' s)
  (hb:∀ cl C s H ex p,PG (YE X N' scope cl C s H ex []) target (ZD ((YE X N' scope cl C s H ex []).L false X0) g)/\PB (YE X N' scope cl C s H ex []) (W p (YE X N' scope cl C s H ex []).env) (b p))
  (ht:∀ it p env,WD (.ListComp elt (⟨target,iter,ifs,0⟩::rest) scope pos) target 0 it (.ref p) env (W p env))
  (hs:∀ x,foldedSetIterable iter X.env x=pure x):PE X (.ListComp elt (⟨target,iter,ifs,0⟩::rest) scope pos) (lift (X.L rz Xe) (UB (N'.length-X.N.length) ti g b)):=by
 rintro pins s σ H Q I ⟨δ,M,R,rs,rm,t,q⟩;rw[eval_ListComp];exact VZ hc B hi W mono hb ht hs (use:=none) I rs rm t (by rintro p C s6 H5 M5 x m r _ _ ⟨mC,nC⟩ key;exact⟨mC,nC,fun h' hsb=>⟨.ref p,H5,key h' hsb,rfl,q _ _ _ _ x m (.lst _) r⟩⟩)
theorem Fu (hi:PI X target iter (ZP (X.L rz Xe) ti)):PI X target iter (ZP (X.L rz Xe) (iUp ti)):=by
 intro pins s σ H R I h;obtain⟨δ,M,Rd,rs,rm,⟨R0,t,q0⟩,q⟩:=h;exact hi pins s σ H R I ⟨δ,M,R0,rs,rm,t,fun items keep M' J H' x m k it h=>q items keep M' J H' x m k it (q0 _ _ _ h)⟩
theorem Fv (hg:PG Y target (ZD (Y.L false X0) g)):PG Y target (ZD (Y.L false X0) (gUp g)):=by
 intro pins s σ H v u Q I r h;obtain⟨d,δ,M,R,rd,rs,rm,⟨R0,t,q0⟩,q⟩:=h;exact hg pins s σ H v u Q I r ⟨d,δ,M,R0,rd,rs,rm,t,fun δ' M' σ' H' x s' m h=>q δ' M' σ' H' x s' m (q0 _ _ h)⟩
theorem Fw (he:PE Y elt (lift (Y.L false X0) te)):PE Y elt (lift (Y.L false X0) (eUp te)):=by
 intro pins s σ H Q I h;obtain⟨δ,M,R,rs,rm,⟨R0,t,q0⟩,q⟩:=h;exact he pins s σ H Q I ⟨δ,M,R0,rs,rm,t,fun d M' v H' x m r h=>q d M' v H' x m r (q0 _ _ h)⟩
theorem Fh (hc:X.calm=true) (B:BlkOk X.N X.env N' scope) (hi:PI X target iter (ZP (X.L rz Xe) ti))
  (hb:∀ cl C s H ex,PG (YE X N' scope cl C s H ex []) target (ZD ((YE X N' scope cl C s H ex []).L false X0) g)/\PE (YE X N' scope cl C s H ex []) elt (lift ((YE X N' scope cl C s H ex []).L false X0) te))
  (hs:∀ x,foldedSetIterable iter X.env x=pure x):PE X (.ListComp elt [⟨target,iter,[],0⟩] scope pos) (lift (X.L rz Xe) (YX (N'.length-X.N.length) ti g te)) :=
 (Dg hc B (Fu hi) (fun p env=>VT elt (.ref p) env) (fun _ _=>Vo) (fun cl C s H ex p=>⟨Fv (hb cl C s H ex).1,Ag rfl (Fw (hb cl C s H ex).2)⟩) (fun _ _ _=>UK) hs).imp
  fun σ H Q h=>by obtain⟨δ,M,R,rs,rm,t,q⟩:=h;exact⟨δ,M,R,rs,rm,Ji t,q⟩
theorem EV {ti:(DSt->DK)->DI} {i:Nat} {x:Str} {pos' pos2:Pos} (hc:X.calm=true) (B:BlkOk X.N X.env N' scope) (hit:∀ Xe,PI X target iter (ZP (X.L rz Xe) (ti Xe)))
  (W:Addr->Env->BW) (mono:∀ p env (A:Around) (Q Q':Shared->Prop) s,(∀ s',Q s'->Q' s')->W p env X.prog X.w A Q s->W p env X.prog X.w A Q' s)
  (hb:∀ cl C s H ex p,PG (YE X N' scope cl C s H ex []) target (ZD ((YE X N' scope cl C s H ex []).L false X0) g)/\PB (YE X N' scope cl C s H ex []) (W p (YE X N' scope cl C s H ex []).env) (b p))
  (ht:∀ it p env,WD (.ListComp elt (⟨target,iter,ifs,0⟩::rest) scope pos) target 0 it (.ref p) env (W p env))
  (hs:∀ x,foldedSetIterable iter X.env x=pure x) (hsw:swapsWith (.ListComp elt (⟨target,iter,ifs,0⟩::rest) scope pos) (some (.Name x pos')) pos2.line X.env=pure true)
  (hN:X.N.Nodup) (hi:X.N[i]?=some x) (hx:Loc X.env.scope x) (hf:X.fn x=true\/X.env.scope.names.lookup x=some .local) :
  PS X (.Assign [.Name x pos'] (.ListComp elt (⟨target,iter,ifs,0⟩::rest) scope pos) pos2) (Yx X rz (dAsg (fun Xe=>UB (N'.length-X.N.length) (ti Xe) g b) fun _=>Xi i)):=by
 rintro pins s σ H E I ⟨δ,M,D,rs,rm,t,n,r,b,c⟩;rw[exec_Assign_Name_used _ _ _ _ hsw,arm_evalThenUse_ListComp];refine wpAny_bind (wpAny_standAt ?_);refine wpAny_bind (wpAny_bind (VZ hc B (hit D.ex) W mono hb ht hs (R:=fun d M1=>D.nx (δ.set i (some d)) M1) I rs rm t fun p C s6 H5 M5 x m r I5 fpc hq10 key=>?_));obtain⟨mC,nC⟩:=hq10;obtain⟨o,es,ep,ho,hd,hsk,hmm⟩:=id nC;have I5':=I5.pinned (fp:=[C]) (fun b hb=>by simp at hb;subst hb;exact fpc) (fun b hb=>by simp at hb;subst hb;exact⟨o,ho,fun v z=>by rw[hd] at z;cases z⟩);refine wpAny_assign_Name (Z0 I5' hN hi hx (v:=.ref p) rfl (fun s7 I7=>?_) hf);have hp7:(C,o)∈Vb [C] s6.heap:=ZC (by simp) ho;have h7:=(I7.pin (C,o) (List.mem_append_right _ (List.mem_append_right _ hp7))).1;refine⟨mC,⟨o,es,ep,h7,hd,hsk,hmm⟩,fun h' hsb=>?_⟩;have I8:=(I7.unpinned (pins:=pins)).turned (it:=C) (h':=h') (t':=s7.toks) (fun b o hb e=>(hsb.2 b hb).trans e) fpc.1 fpc.2.1 fpc.2.2.2.1 fpc.2.2.2.2.1 fpc.2.2.2.2.2
 exact wpAny_pure (wpAny_pure ⟨_,H5,I8,n _ _ _ _ x ((rs.ext x).set (.lst _) i) m r⟩)
theorem EU {te:DE} {ti:(DSt->DK)->DI} {i:Nat} {x:Str} {pos' pos2:Pos} (hc:X.calm=true) (B:BlkOk X.N X.env N' scope) (hit:∀ Xe,PI X target iter (ZP (X.L rz Xe) (ti Xe)))
  (hb:∀ cl C s H ex,PG (YE X N' scope cl C s H ex []) target (ZD ((YE X N' scope cl C s H ex []).L false X0) g)/\PE (YE X N' scope cl C s H ex []) elt (lift ((YE X N' scope cl C s H ex []).L false X0) te))
  (hs:∀ x,foldedSetIterable iter X.env x=pure x) (hsw:swapsWith (.ListComp elt [⟨target,iter,[],0⟩] scope pos) (some (.Name x pos')) pos2.line X.env=pure true)
  (hN:X.N.Nodup) (hi:X.N[i]?=some x) (hx:Loc X.env.scope x) (hf:X.fn x=true\/X.env.scope.names.lookup x=some .local) :
  PS X (.Assign [.Name x pos'] (.ListComp elt [⟨target,iter,[],0⟩] scope pos) pos2) (Yx X rz (dAsg (fun Xe=>YX (N'.length-X.N.length) (ti Xe) g te) fun _=>Xi i)):=by
 rintro pins s σ H E I ⟨δ,M,D,rs,rm,t,n,r,b,c⟩;exact EV hc B (fun Xe=>Fu (hit Xe)) (fun p env=>VT elt (.ref p) env) (fun _ _=>Vo) (fun cl C s H ex p=>⟨Fv (hb cl C s H ex).1,Ag rfl (Fw (hb cl C s H ex).2)⟩) (fun _ _ _=>UK) hs hsw hN hi hx hf pins s σ H E I ⟨δ,M,D,rs,rm,Ji (show YX (N'.length-X.N.length) (ti D.ex) g te δ M (fun d M1=>D.nx (δ.set i (some d)) M1) from t),n,r,b,c⟩
end
end DL
end
noncomputable section
namespace DL
open PySem PySem.Spec PyProof.Rows L2
noncomputable def fSum:List D->Mem->DK->Prop
 | [.lst a],M,Q=>∃ bs:List Bool,M a=some (.ls (bs.map .bl))/\Q (.int (bs.count true)) M
 | _,_,_=>False
section
variable {X:Cx}
noncomputable def IxAt (M:Mem) (xs:List D) (d:D) (j:Nat):Prop:=∃ ps p,Pys M xs ps/\Py M d p/\p.depth<=60/\xs.length<1000/\j<ps.length/\ps.findIdx (fun q=>PyData.eqv q p)=j
end
section
variable {X:Cx}
end
section
variable {X:Cx}
end
end DL
end
noncomputable section
namespace DL
open PySem PySem.Spec PyProof.Rows L2
noncomputable def IF {α:Type} (xs:List α) (k:Int) (y:α):List α:=xs.take k.toNat++y::xs.drop k.toNat
section
variable {X:Cx}
end
end DL
end
noncomputable section
namespace DL
open PySem PySem.Spec PyProof.Rows L2
abbrev zh1 (h:Heap) (b:Addr):Heap:=h.push {cls:=.type "tuple_iterator",data:=.fields #[.ref b,.int 0 0]}
abbrev zh2 (h:Heap) (b c:Addr):Heap:=(zh1 h b).push {cls:=.type "tuple_iterator",data:=.fields #[.ref c,.int 0 0]}
abbrev zh3 (h:Heap) (b c:Addr):Heap:=(zh2 h b c).push {cls:=.type "tuple",data:=.seq #[.ref h.objs.size,.ref (zh1 h b).objs.size]}
abbrev zh4 (h:Heap) (b c:Addr):Heap:=(zh3 h b c).push {cls:=.type "tuple",data:=.seq #[.none,.none]}
abbrev zh5 (h:Heap) (b c:Addr):Heap:=(zh4 h b c).push {cls:=.type "zip",data:=.fields #[.none,.bool false,.bool false,.ref (zh2 h b c).objs.size,.ref (zh3 h b c).objs.size]}
theorem CB (b c:Addr) (xs ys:Array Value) :
  Meets (Builtin.«zip.__new__» ⟨[.type "zip",.ref b,.ref c],[]⟩) (fun _ R s=>s.heap.IsTuple b xs/\s.heap.IsTuple c ys/\R (.ok (.ret (.ref (zh4 s.heap b c).objs.size))) {s with heap:=zh5 s.heap b c}) :=
 .of_wp fun prog w A R s h=>by
  obtain⟨hp,g,d,tk,os⟩:=s;obtain⟨h1,h2,h⟩:=h;have hsub:=sub_zip;have t1:Heap.IsTuple (Shared.heap ⟨hp,g,d,tk,os⟩) b xs:=h1;have t2:Heap.IsTuple (Shared.heap ⟨hp.push {cls:=.type "tuple_iterator",data:=.fields #[.ref b,.int 0 0]},g,d,tk,os⟩) c ys:=by
   obtain⟨o,e,r⟩:=h2;exact⟨o,Heap.get?_push_of_some _ e,r⟩
  wp_walk using wpAny_pyIter_tuple t1,wpAny_pyIter_tuple t2
  exact⟨_,rfl,h⟩
section
variable {prog:Program} {w:World} {A:Around} {E:Value->Shared->Prop} {s:Shared}
theorem Fo (hb:s.heap.IsTuple b xs) (hc:s.heap.IsTuple c ys)
  (q:∀ g,zTn (s.heap.objs.size+4) (s.heap.objs.size+2) (s.heap.objs.size+3) s.heap.objs.size (s.heap.objs.size+1) b c 0 g->(∀ k o,s.heap.get? k=some o->g.get? k=some o)->Q (.ref (s.heap.objs.size+4)) {s with heap:=g}) :
  wpAny (model prog w) A (call (.type "zip") [.ref b,.ref c]) Q E s:=by
 refine callType_new F.called_zip %[|4] (F.typeCall_zip_2 _ _) (F.newCall_zip_2 _ _) (fun obj=>F.args_object_init_3 obj _ _) F.entry_zip_new (CB b c xs ys) ⟨hb,hc,?_⟩;have z1:(zh1 s.heap b).objs.size=s.heap.objs.size+1:=Heap.size_push ..;have z2:(zh2 s.heap b c).objs.size=s.heap.objs.size+2:=by rw[Heap.size_push,z1]
 have z3:(zh3 s.heap b c).objs.size=s.heap.objs.size+3:=by rw[Heap.size_push,z2]
 have z4:(zh4 s.heap b c).objs.size=s.heap.objs.size+4:=by rw[Heap.size_push,z3]
 have g5:(zh5 s.heap b c).get? (zh4 s.heap b c).objs.size=some _:=Heap.get?_push_size _ rfl;have g4:(zh5 s.heap b c).get? (zh3 s.heap b c).objs.size=some _:=Heap.get?_push_of_some _ (Heap.get?_push_size _ rfl);have g3:(zh5 s.heap b c).get? (zh2 s.heap b c).objs.size=some _:=Heap.get?_push_of_some _ (Heap.get?_push_of_some _ (Heap.get?_push_size _ rfl));have g2:(zh5 s.heap b c).get? (zh1 s.heap b).objs.size=some _:=Heap.get?_push_of_some _ (Heap.get?_push_of_some _ (Heap.get?_push_of_some _ (Heap.get?_push_size _ rfl)));have g1:(zh5 s.heap b c).get? s.heap.objs.size=some _:=Heap.get?_push_of_some _ (Heap.get?_push_of_some _ (Heap.get?_push_of_some _ (Heap.get?_push_of_some _ (Heap.get?_push_size _ rfl))));show _/\_;rw[z2,z3,z4] at g5;rw[z1,z2] at g3;rw[z3] at g4;rw[z1] at g2;rw[z4];exact⟨⟨_,g5,rfl⟩,q _ ⟨g5,g3,⟨_,_,g4⟩,⟨_,g1,rfl,rfl⟩,⟨_,g2,rfl,rfl⟩⟩ fun k o x=>Heap.get?_push_of_some _ (Heap.get?_push_of_some _ (Heap.get?_push_of_some _ (Heap.get?_push_of_some _ (Heap.get?_push_of_some _ x))))⟩
end
noncomputable def ItzL (K:Frag) (b c:Addr):It :=
  ⟨fun i H=>∃ xs ys x y,SqL K H b xs/\SqL K H c ys/\xs[i]?=some x/\ys[i]?=some y,
   fun i H x H'=>∃ T p q,H T=none/\x=.ref T/\H'=upd H T (.tup [p,q])/\(∀ xs,SqL K H b xs->xs[i]?=some p)/\∀ ys,SqL K H c ys->ys[i]?=some q,
   fun i H=>∃ xs ys,SqL K H b xs/\SqL K H c ys/\(xs.length<=i\/ys.length<=i)⟩
noncomputable def zTnL (z u v i j b c:Addr) (n:Nat) (h:Heap):Prop:=IsZip h z u v .none/\IsPair h u (.ref i) (.ref j)/\(∃ a d,IsPair h v a d)/\h.IsListIter i b n/\h.IsListIter j c n
theorem AF {P:Program} {w:World} {K:Frag} {elts:List Expr} {x1:Nat} {pos:Pos} {z u v i j b c:Addr} (D:ZipApart z u v i j b c) :
  Turn P w K (.Tuple elts x1 pos) (ItzL K b c) [z,u,v,i,j] z (zTnL z u v i j b c) where
 mem:=by simp
 obj:=fun n h st k hk=>by
  obtain⟨hz,hu,⟨a,d,hv⟩,⟨o1,e1,_,d1⟩,⟨o2,e2,_,d2⟩⟩:=st;simp only[List.mem_cons,List.not_mem_nil,or_false] at hk;rcases hk with rfl|rfl|rfl|rfl|rfl
  ·exact⟨_,hz,fun w e=>nomatch e⟩
  ·exact⟨_,hu,fun w e=>nomatch e⟩
  ·exact⟨_,hv,fun w e=>nomatch e⟩
  ·exact⟨_,e1,fun w e=>by rw[d1] at e;cases e⟩
  ·exact⟨_,e2,fun w e=>by rw[d2] at e;cases e⟩
 keep:=fun n h h' st k=>by
  obtain⟨hz,hu,⟨a,d,hv⟩,h1,h2⟩:=st;exact⟨k z (by simp) _ hz,k u (by simp) _ hu,⟨a,d,k v (by simp) _ hv⟩,h1.at fun o e=>k i (by simp) o e,h2.at fun o e=>k j (by simp) o e⟩
 item:=by
  intro X hP hw hK hc n pins s σ H E I hf st hg;subst hP hw hK;obtain⟨hz,hu,⟨a,d,hv⟩,h1,h2⟩:=st;obtain⟨xs,ys,x,y,q1,q2,hx,hy⟩:=hg;obtain⟨its,rv,p,sz1⟩:=I.list q1;obtain⟨its',rv',p',sz2⟩:=I.list q2;obtain⟨vx,hvx,rx⟩:=rv.get hx;obtain⟨vy,hvy,ry⟩:=rv'.get hy;refine wpAny_pyNext_zip_item D hz hu hv h1 h2 p.isList p'.isList (x:=vx) (y:=vy) (by simpa using hvx) (by simpa using hvy) fun g a1 a2 a3 a4 a5 a6 a7=>?_;have lt:∀ {k o},s.heap.get? k=some o->k≠s.heap.objs.size:=fun e=>Nat.ne_of_lt (Heap.lt_size e);have li:i≠s.heap.objs.size:=by obtain⟨o,e,_⟩:=h1;exact lt e
  have lj:j≠s.heap.objs.size:=by obtain⟨o,e,_⟩:=h2;exact lt e
  refine⟨_,rfl,wpAny_letOwnedTupleGo_zip a1 fun g' z' sb=>?_⟩;have tp:IsPair g' s.heap.objs.size vx vy:=sb.extBut _ _ (Ne.symm (lt hz)) a5;have nf:H s.heap.objs.size=none:=I.hok.fresh %[|3];have I1:Inv X pins σ (upd H s.heap.objs.size (.tup [x,y])) {s with heap:=s.heap.push {cls:=.type "tuple",data:=.seq #[vx,vy]},toks:=s.toks} :=
   I.laid (fun k o e=>Heap.get?_push_of_some _ e) %[|3] ⟨by simp only[List.length_cons,List.length_nil];rw[sizeLine_eq];decide,[vx,vy],.cons rx (.cons ry .nil),⟨_,Heap.get?_push_size _ rfl,rfl,_,rfl⟩⟩
  have ff:∀ k∈[z,u,v,i,j],k≠s.heap.objs.size:=fun k hk=>by
   simp only[List.mem_cons,List.not_mem_nil,or_false] at hk;rcases hk with rfl|rfl|rfl|rfl|rfl
   ·exact lt hz
   ·exact lt hu
   ·exact lt hv
   ·exact li
   ·exact lj
  have f':∀ k∈[z,u,v,i,j],FpOk X pins (upd H s.heap.objs.size (.tup [x,y])) k:=fun k hk=>⟨by rw[Y6 (ff k hk)];exact (hf k hk).1,(hf k hk).2⟩;have I2:Inv X pins σ (upd H s.heap.objs.size (.tup [x,y])) {s with heap:=g',toks:=s.toks}:=by
   refine ZK (s:={s with heap:=s.heap.push {cls:=.type "tuple",data:=.seq #[vx,vy]},toks:=s.toks}) (h':=g') (t':=s.toks) I1 (fun k o hk e=>?_) f';rcases Heap.get?_push_cases e with ⟨rfl,rfl⟩|e'
   ·exact tp
   ·simp only[List.mem_cons,List.not_mem_nil,or_false,not_or] at hk
    exact sb.extBut _ _ hk.1 (a7 k o hk.1 hk.2.2.1 hk.2.2.2.1 hk.2.2.2.2 e')
  refine⟨.ref s.heap.objs.size,_,I2,rfl,⟨_,x,y,nf,rfl,rfl,fun xs' q=>by rw[I.list_inj q q1];exact hx,fun ys' q=>by rw[I.list_inj q q2];exact hy⟩,?_,fun k hk=>(f' k hk).1⟩;exact⟨z',sb.extBut _ _ D.TIz (a7 _ _ D.TIz D.TITO D.TIi1 D.TIi2 hu),⟨_,_,sb.extBut _ _ D.TOz a2⟩,a3.extBut sb.extBut D.i1z,a4.extBut sb.extBut D.i2z⟩
 done:=by
  intro X hP hw hK hc n pins s σ H E I hf st hg;subst hP hw hK;obtain⟨hz,hu,⟨a,d,hv⟩,h1,h2⟩:=st;obtain⟨xs,ys,q1,q2,hx⟩:=hg;obtain⟨its,rv,p,sz1⟩:=I.list q1;obtain⟨its',rv',p',sz2⟩:=I.list q2;have l1:=rv.length;have l2:=rv'.length;refine wpAny_pyNext_zip_end (I.ok.hd hc) D hz hu hv h1 h2 p.isList p'.isList (by rcases hx with hx|hx;exact .inl (by simp;omega);exact .inr (by simp;omega)) fun g k=>⟨rfl,ZK (h':=g) (t':=s.toks) I (fun m o hm e=>?_) hf⟩;simp only[List.mem_cons,List.not_mem_nil,or_false,not_or] at hm;exact k m o hm.1 hm.2.2.1 hm.2.2.2.1 hm.2.2.2.2 e
 self:=fun _ _ _ _ _ st h=>wpAny_pyIter_zip st.1 h
noncomputable def zipD (xs ys:List D):List D:=List.zipWith (fun x y=>.tup [x,y]) xs ys
noncomputable def VM:List D->Mem->(List D->(Mem->Prop)->Mem->Prop)->Prop
 | [.tup xs,.tup ys],M,R=>R (zipD xs ys) (fun _=>True) M
 | [.lst a,.lst b],M,R=>∃ xs ys,M a=some (.ls xs)/\M b=some (.ls ys)/\R (zipD xs ys) (fun M'=>M' a=some (.ls xs)/\M' b=some (.ls ys)) M
 | _,_,_=>False
noncomputable def Yj (ta:DA):DI:=fun δ M R=>ta δ M fun ds M1=>VM ds M1 R
theorem EH {K:Frag} {H0:Hp} {a b:Addr} {vs ws:List V} {xs ys:List D} (ha:SqT K H0 a vs) (hb:SqT K H0 b ws) (r:RelDs K H0 vs xs) (q:RelDs K H0 ws ys):ItD K H0 (Itz K a b) (zipD xs ys) (fun _=>True):=fun i H M x m k=>by
 have ha':=x.tup _ _ ha;have hb':=x.tup _ _ hb;have r':=r.ext x;have q':=q.ext x;have l1:=r.length;have l2:=q.length;refine⟨fun hl=>?_,fun hl=>?_,fun y H' hy=>?_⟩
 ·simp only[zipD,List.length_zipWith] at hl
  exact⟨vs,ws,vs[i]'%[|5],ws[i]'%[|5],ha',hb',List.getElem?_eq_getElem _,List.getElem?_eq_getElem _⟩
 ·simp only[zipD,List.length_zipWith] at hl
  exact⟨vs,ws,ha',hb',by omega⟩
 ·obtain⟨T,p,p',hn,rfl,rfl,e1,e2⟩:=hy
  have ex:HExt K H (L2.upd H T (.tup [p,p'])):=HExt.upd (.inl hn);refine⟨ex,m.tup hn,fun d hd=>?_⟩;simp only[zipD,List.getElem?_zipWith] at hd;have f1:=e1 _ ha';have f2:=e2 _ hb';cases h1:xs[i]? with
  | none=>rw [h1] at hd;simp at hd
  | some dx =>
   cases h2:ys[i]? with
   | none=>rw [h1,h2] at hd;simp at hd
   | some dy =>
    rw[h1,h2] at hd;simp at hd;subst hd;obtain⟨v1,g1,g2⟩:=r'.get h1;obtain⟨v2,g3,g4⟩:=q'.get h2;rw[f1] at g1;cases g1;rw[f2] at g3;cases g3;exact .tup (.inl (.of L2.upd_same)) (.cons (g2.ext ex) (.cons (g4.ext ex) .nil))
theorem CN {K:Frag} {H0:Hp} {a b:Addr} {xs ys:List D}:ItD K H0 (ItzL K a b) (zipD xs ys) (fun M'=>M' a=some (.ls xs)/\M' b=some (.ls ys)):=fun i H M x m k=>by
 obtain⟨vs,ev,r'⟩:=m _ _ k.1;obtain⟨ws,ew,q'⟩:=m _ _ k.2;have l1:=r'.length;have l2:=q'.length;refine⟨fun hl=>?_,fun hl=>?_,fun y H' hy=>?_⟩
 ·simp only[zipD,List.length_zipWith] at hl
  exact⟨vs,ws,vs[i]'%[|5],ws[i]'%[|5],.of ev,.of ew,List.getElem?_eq_getElem _,List.getElem?_eq_getElem _⟩
 ·simp only[zipD,List.length_zipWith] at hl
  exact⟨vs,ws,.of ev,.of ew,by omega⟩
 ·obtain⟨T,p,p',hn,rfl,rfl,e1,e2⟩:=hy
  have ex:HExt K H (L2.upd H T (.tup [p,p'])):=HExt.upd (.inl hn);refine⟨ex,m.tup hn,fun d hd=>?_⟩;simp only[zipD,List.getElem?_zipWith] at hd;have f1:=e1 _ (.of ev);have f2:=e2 _ (.of ew);cases h1:xs[i]? with
  | none=>rw [h1] at hd;simp at hd
  | some dx =>
   cases h2:ys[i]? with
   | none=>rw [h1,h2] at hd;simp at hd
   | some dy =>
    rw[h1,h2] at hd;simp at hd;subst hd;obtain⟨v1,g1,g2⟩:=r'.get h1;obtain⟨v2,g3,g4⟩:=q'.get h2;rw[f1] at g1;cases g1;rw[f2] at g3;cases g3;exact .tup (.inl (.of L2.upd_same)) (.cons (g2.ext ex) (.cons (g4.ext ex) .nil))
section
variable {X:Cx} {rz:Bool} {Xe:DSt->DK} {pos:Pos}
theorem Hi {a:Expr} {es:List Expr} {ta:DA} {p:Pos} {elts:List Expr} {x1:Nat} {tp:Pos} (hg:Gl X "zip") (hm:X.mg "zip"=none) (ha:PA X (a::es) (Zm (X.L rz Xe) ta)) (hs:starEach (a::es) X.env=(false,eval a X.env)::starEach es X.env) (hpl:(backTo pos (starEach es X.env)).any (·.1)=false) :
  PI X (.Tuple elts x1 tp) (.Call (.Name "zip" p) (a::es) [] pos) (ZP (X.L rz Xe) (Yj ta)):=by
 rintro pins s σ H R I ⟨δ,M,Rd,rs,rm,t,q⟩;refine Call_ (Wt I hg hm boot_zip (PyProof.Rows.callWith_type1 (thn (ha pos pins s σ H (fun vs H1=>(∃ b c xs ys,vs=[.ref b,.ref c]/\SqT X.K H1 b xs/\SqT X.K H1 c ys/\R (Itz X.K b c) H1)\/∃ b c xs ys,vs=[.ref b,.ref c]/\SqL X.K H1 b xs/\SqL X.K H1 c ys/\R (ItzL X.K b c) H1) I ⟨δ,M,_,rs,rm,t,fun ds M1 vs H1 x1 m1 r1 h1=>?_⟩) fun us s1 ⟨vs,H1,I1,r1,q1⟩=>?_) hs hpl))
 ·unfold VM at h1
  split at h1
  ·cases r1 with
   | cons ra rr =>
    cases rr with
    | cons rb rr =>
     cases rr;cases ra with
     | tup ha ra =>
      cases rb with
      | tup hb rb=>exact .inl ⟨_,_,_,_,rfl,ha,hb,q _ _ _ _ _ x1 m1 trivial (EH ha hb ra rb) h1⟩
  ·obtain⟨xs,ys,ea,eb,h1⟩:=h1
   cases r1 with
   | cons ra rr =>
    cases rr with
    | cons rb rr =>
     cases rr;cases ra;cases rb;obtain⟨vs,ev,_⟩:=m1 _ _ ea;obtain⟨ws,ew,_⟩:=m1 _ _ eb;exact .inr ⟨_,_,_,_,rfl,.of ev,.of ew,q _ _ _ _ _ x1 m1 ⟨ea,eb⟩ CN h1⟩
  ·exact h1.elim
 ·rcases q1 with q1|q1
  ·obtain⟨b,c,xs,ys,e,hb,hc,q⟩:=q1
   subst e;cases r1 with
   | cons r rr =>
    cases rr with
    | cons r' rr =>
     cases rr;cases r;cases r';obtain⟨its,rv,pb,_⟩:=I1.tuple hb;obtain⟨its',rv',pc,_⟩:=I1.tuple hc;have lb:b<s1.heap.objs.size:=by obtain⟨o,e,_⟩:=pb;exact Heap.lt_size e
     have lc:c<s1.heap.objs.size:=by obtain⟨o,e,_⟩:=pc;exact Heap.lt_size e
     refine Fo (show s1.heap.IsTuple b its.toArray from pb) (show s1.heap.IsTuple c its'.toArray from pc) fun g st k=>?_;refine wpAny_pyIter_zip st.1 ?_;refine⟨_,[s1.heap.objs.size+4,s1.heap.objs.size+2,s1.heap.objs.size+3,s1.heap.objs.size,s1.heap.objs.size+1],_,_,H1,rfl,I1.kept (t':=s1.toks) k,BB (zipApart_new lb lc),st,fun m hm=>?_,q⟩;have le:s1.heap.objs.size<=m:=by
      simp only[List.mem_cons,List.not_mem_nil,or_false] at hm;rcases hm with rfl|rfl|rfl|rfl|rfl
      ·exact Nat.le_add_right _ _
      ·exact Nat.le_add_right _ _
      ·exact Nat.le_add_right _ _
      ·exact Nat.le_refl _
      ·exact Nat.le_add_right _ _
     exact I1.fpOk le (I1.hok.fresh le)
  ·obtain⟨b,c,xs,ys,e,hb,hc,q⟩:=q1
   subst e;cases r1 with
   | cons r rr =>
    cases rr with
    | cons r' rr =>
     cases rr;cases r;cases r';obtain⟨its,rv,pb,_⟩:=I1.list hb;obtain⟨its',rv',pc,_⟩:=I1.list hc;have lb:b<s1.heap.objs.size:=by obtain⟨o,e,_⟩:=pb.isList;exact Heap.lt_size e
     have lc:c<s1.heap.objs.size:=by obtain⟨o,e,_⟩:=pc.isList;exact Heap.lt_size e
     refine call_zip_2 pb.isList pc.isList fun g st1 st2 st3 st4 st5 _ k=>?_;refine wpAny_pyIter_zip st1 ?_;refine⟨_,[s1.heap.objs.size+4,s1.heap.objs.size+2,s1.heap.objs.size+3,s1.heap.objs.size,s1.heap.objs.size+1],_,_,H1,rfl,I1.kept (t':=s1.toks) k,AF (zipApart_new lb lc),⟨st1,st2,⟨_,_,st3⟩,st4,st5⟩,fun m hm=>?_,q⟩;have le:s1.heap.objs.size<=m:=by
      simp only[List.mem_cons,List.not_mem_nil,or_false] at hm;rcases hm with rfl|rfl|rfl|rfl|rfl
      ·exact Nat.le_add_right _ _
      ·exact Nat.le_add_right _ _
      ·exact Nat.le_add_right _ _
      ·exact Nat.le_refl _
      ·exact Nat.le_add_right _ _
     exact I1.fpOk le (I1.hok.fresh le)
end
end DL
end
noncomputable section
namespace DL
open PySem PySem.Spec PyProof.Rows L2
section
variable {prog:Program} {w:World} {A:Around} {E:Value->Shared->Prop} {s:Shared}
theorem Bb {e it l:Addr} {i:Nat} {items:Array Value} {old:Value} {Q:Option Value->Shared->Prop} (hh:A.handled=none)
  (he:IsEnum s.heap e it i old) (hit:s.heap.IsTupleIter it l i) (hl:s.heap.IsTuple l items) (hx:items[i]?=none)
  (hQ:∀ h',Heap.ExtBut it s.heap h'->Q none {s with heap:=h'}):wpAny (model prog w) A (pyNext (.ref e)) Q E s:=by
 have hT:s.TypeIs (.ref e) "enumerate":=⟨_,he,rfl⟩;unfold pyNext;refine wpAny_bind (wpAny_attempt (wpAny_callSpecial?_slot (name:=Str.ofString "__next__") hT F.slot_enumerate_next
  (wpAny_call_entry F.slot_enumerate_next hT F.entry_enumerate_next ?_ (F.args_enumerate_next_1 _))))
 show wpAny _ _ (field (.ref e) 2 >>= _) _ _ _;refine wpAny_bind (wpAny_field he rfl (x:=.ref it) rfl ?_);refine wpAny_bind (Uh hh hit hl hx fun h' x he' hx'=>?_);obtain⟨o,ho,hc⟩:=hx';refine wpAny_bind (wpAny_isInstance (T:="StopIteration") (b:=true) ⟨o,ho,hc⟩ isSubtype_stop ?_);exact wpAny_pure (hQ _ he')
theorem Bd {e it l:Addr} {i:Nat} {items:Array Value} {old:Value} {Q:Option Value->Shared->Prop} (hh:A.handled=none)
  (he:IsEnum s.heap e it i old) (hit:s.heap.IsListIter it l i) (hl:s.heap.IsList l items) (hx:items[i]?=none)
  (hQ:∀ h',Heap.ExtBut it s.heap h'->Q none {s with heap:=h'}):wpAny (model prog w) A (pyNext (.ref e)) Q E s:=wpAny_pyNext_enum_end hh he hit hl hx hQ
theorem CC (l:Addr) (items:Array Value) (n:Nat) (dct:Option Addr) (sl:Array (Option Value)) :
  Meets (Builtin.«enumerate.__new__» ⟨[.type "enumerate",.ref l],[]⟩) (fun _ R s=>s.heap.get? l=some {cls:=.type "tuple",dict:=dct,data:=.seq items n,slots:=sl} /\
   R (.ok (.ret (.ref (s.heap.push {cls:=.type "tuple_iterator",data:=.fields #[.ref l,.int 0 0]}).objs.size)))
    {s with heap:=(s.heap.push {cls:=.type "tuple_iterator",data:=.fields #[.ref l,.int 0 0]}).push {cls:=.type "enumerate",data:=.fields #[.none,.bool false,.ref s.heap.objs.size,rawInt 0,.none,.none]}}) :=
 .of_wp fun prog w A R s h=>by
  obtain⟨hp,g,d,tk,os⟩:=s;obtain⟨hl,h⟩:=h;have hsub:=sub_enumerate;have hL:Heap.IsTuple (Shared.heap ⟨hp,g,d,tk,os⟩) l items:=⟨_,hl,rfl,n,rfl⟩
  wp_walk using AutoSeq1.wpAny_loadPart' hl
  refine wpAny_stack_any fun st=>wpAny_pure ?_;split
  ·rename_i c _ _ _ _ _
   cases (c==Value.type "enumerate")
   ·wp_walk using AutoSeq1.wpAny_loadPart' hl,wpAny_pyIter_tuple hL
    exact⟨_,rfl,h⟩
   ·wp_walk using AutoSeq1.wpAny_loadPart' hl,wpAny_pyIter_tuple hL
    exact⟨_,rfl,h⟩
  ·wp_walk using AutoSeq1.wpAny_loadPart' hl,wpAny_pyIter_tuple hL
   exact⟨_,rfl,h⟩
theorem A2 (hL:s.heap.IsTuple l items)
  (h:∀ h',IsEnum h' (s.heap.objs.size+1) s.heap.objs.size 0 .none->h'.IsTupleIter s.heap.objs.size l 0->h'.objs.size=s.heap.objs.size+2 ->
   (∀ b o,s.heap.get? b=some o->h'.get? b=some o)->Q (.ref (s.heap.objs.size+1)) {s with heap:=h'}) :
  wpAny (model prog w) A (call (.type "enumerate") [.ref l]) Q E s:=by
 obtain⟨⟨c,dct,dt,sl⟩,hl,hc,n,hd⟩:=hL
 replace hc:c=.type "tuple":=hc
 replace hd:dt=.seq items n:=hd
 subst hc hd;refine callType_new F.called_enumerate %[|4] (F.typeCall_enumerate_1 _) (F.newCall_enumerate_1 _) (fun obj=>F.args_object_init_2 obj _) F.entry_enumerate_new
  (CC l items n dct sl) ⟨hl,?_⟩
 have hz:(s.heap.push {cls:=.type "tuple_iterator",data:=.fields #[.ref l,.int 0 0]}).objs.size=s.heap.objs.size+1:=Heap.size_push ..;show _/\_;rw[hz];have he:IsEnum ((s.heap.push {cls:=.type "tuple_iterator",data:=.fields #[.ref l,.int 0 0]}).push
   {cls:=.type "enumerate",data:=.fields #[.none,.bool false,.ref s.heap.objs.size,rawInt 0,.none,.none]}) (s.heap.objs.size+1) s.heap.objs.size 0 .none:=by
  have:=Heap.get?_push_size (s.heap.push {cls:=.type "tuple_iterator",data:=.fields #[.ref l,.int 0 0]})
   (o:={cls:=.type "enumerate",data:=.fields #[.none,.bool false,.ref s.heap.objs.size,rawInt 0,.none,.none]}) rfl
  rw[hz] at this;exact this
 refine⟨⟨_,he,rfl⟩,h _ he ⟨_,Heap.get?_push_of_some _ (Heap.get?_push_size _ rfl),rfl,rfl⟩ (by rw[Heap.size_push,hz]) fun b o x=>Heap.get?_push_of_some _ (Heap.get?_push_of_some _ x)⟩
end
theorem Hg (hh:A.handled=none) (hne:it≠b) (vs:Array Value):Draws prog w A it [it,b] vs.size (fun i v=>vs[i]?=some v) (fun i h=>h.IsTupleIter it b i/\h.IsTuple b vs) where
 live:=fun _ _ st=>let ⟨o,ho,_⟩:=st.1;⟨o,ho⟩
 frame:=fun _ _ _ st hk=>⟨let ⟨o,ho,r⟩:=st.1;⟨o,hk it (by simp) o ho,r⟩,let ⟨o,ho,r⟩:=st.2;⟨o,hk b (by simp) o ho,r⟩⟩
 item:=fun i s Q E hi st hQ=>WY st.1 st.2 (show vs[i]?=some vs[i] by simp[hi]) fun g h1 sb=>hQ _ g s.toks (by simp[hi]) ⟨h1,let ⟨o,e,r⟩:=st.2;⟨o,sb.extBut _ _ hne.symm e,r⟩⟩ sb
 done:=fun s Q E st hE=>Uh hh st.1 st.2 (by simp) hE
noncomputable def IteT (K:Frag) (b:Addr):It :=
  ⟨fun i H=>∃ xs x,SqT K H b xs/\xs[i]?=some x,
   fun i H x H'=>∃ T p,H T=none/\x=.ref T/\H'=upd H T (.tup [.int (i:Int),p])/\∀ xs,SqT K H b xs->xs[i]?=some p,
   fun i H=>∃ xs,SqT K H b xs/\xs.length<=i⟩
noncomputable def eTnT (e it b:Addr) (n:Nat) (h:Heap):Prop:=(∃ old,IsEnum h e it n old)/\h.IsTupleIter it b n
theorem Jr {P:Program} {w:World} {K:Frag} {elts:List Expr} {x1:Nat} {pos:Pos} {e it b:Addr} (ei:e≠it) (eb:e≠b) (ib:it≠b) :
  Turn P w K (.Tuple elts x1 pos) (IteT K b) [e,it] e (eTnT e it b) where
 mem:=by simp
 obj:=fun n h st k hk=>by
  obtain⟨⟨old,he⟩,⟨o1,e1,_,d1⟩⟩:=st;simp only[List.mem_cons,List.not_mem_nil,or_false] at hk;rcases hk with rfl|rfl
  ·exact⟨_,he,fun w e=>nomatch e⟩
  ·exact⟨_,e1,fun w e=>by rw[d1] at e;cases e⟩
 keep:=fun n h h' st k=>by
  obtain⟨⟨old,he⟩,h1⟩:=st;exact⟨⟨old,k e (by simp) _ he⟩,h1.at fun o z=>k it (by simp) o z⟩
 item:=by
  intro X hP hw hK hc n pins s σ H E I hf st hg;subst hP hw hK;obtain⟨⟨old,he⟩,h1⟩:=st;obtain⟨xs,x,q1,hx⟩:=hg;obtain⟨its,rv,p,sz1⟩:=I.tuple q1;obtain⟨vx,hvx,rx⟩:=rv.get hx;have pt:s.heap.IsTuple b its.toArray:=p;have hn:n<its.toArray.size:=by
   have:=(List.getElem?_eq_some_iff.mp hvx).1
   simpa using this
  have D:=Hg (prog:=X.prog) (w:=X.w) (A:=X.A.in1) (I.ok.hd hc) ib its.toArray;refine wpAny_pyNext_enum_itemD D he ⟨h1,pt⟩ hn ei (by simp[ei,eb]) fun v g tk hv a1 a2 a3 a4 a5=>?_;have ev:v=vx:=by
   have:its.toArray[n]?=some vx:=by simpa using hvx
   rw[this] at hv;cases hv;rfl
  subst ev;have lt:∀ {k o},s.heap.get? k=some o->k≠s.heap.objs.size:=fun e=>Nat.ne_of_lt (Heap.lt_size e);have li:it≠s.heap.objs.size:=by obtain⟨o,e,_⟩:=h1;exact lt e
  refine⟨_,rfl,wpAny_letOwnedTupleGo_enum a1 fun g' z' sb=>?_⟩;have nf:H s.heap.objs.size=none:=I.hok.fresh %[|3];have tp:g'.get? s.heap.objs.size=some {cls:=.type "tuple",data:=.seq #[.int n tk,v]}:=sb.extBut _ _ (Ne.symm (lt he)) a3;have I1:Inv X pins σ (upd H s.heap.objs.size (.tup [.int (n:Int),x])) {s with heap:=s.heap.push {cls:=.type "tuple",data:=.seq #[.int n tk,v]},toks:=s.toks} :=
   I.laid (fun k o e=>Heap.get?_push_of_some _ e) %[|3] ⟨by simp only[List.length_cons,List.length_nil];rw[sizeLine_eq];decide,[.int n tk,v],.cons ⟨tk,rfl⟩ (.cons rx .nil),⟨_,Heap.get?_push_size _ rfl,rfl,_,rfl⟩⟩
  have ff:∀ k∈[e,it],k≠s.heap.objs.size:=fun k hk=>by
   simp only[List.mem_cons,List.not_mem_nil,or_false] at hk;rcases hk with rfl|rfl
   ·exact lt he
   ·exact li
  have f':∀ k∈[e,it],FpOk X pins (upd H s.heap.objs.size (.tup [.int (n:Int),x])) k:=fun k hk=>⟨by rw[Y6 (ff k hk)];exact (hf k hk).1,(hf k hk).2⟩;have I2:Inv X pins σ (upd H s.heap.objs.size (.tup [.int (n:Int),x])) {s with heap:=g',toks:=tk+1}:=by
   refine ZK (s:={s with heap:=s.heap.push {cls:=.type "tuple",data:=.seq #[.int n tk,v]},toks:=s.toks}) (h':=g') (t':=tk+1) I1 (fun k o hk e=>?_) f';rcases Heap.get?_push_cases e with ⟨rfl,rfl⟩|e'
   ·exact tp
   ·simp only[List.mem_cons,List.not_mem_nil,or_false,not_or] at hk
    exact sb.extBut _ _ hk.1 (a5 k o hk.1 hk.2 e')
  refine⟨.ref s.heap.objs.size,_,I2,rfl,⟨_,x,nf,rfl,rfl,fun xs' q=>by rw[I.tuple_inj q q1];exact hx⟩,?_,fun k hk=>(f' k hk).1⟩;exact⟨⟨_,z'⟩,a2.1.extBut sb.extBut ei.symm⟩
 done:=by
  intro X hP hw hK hc n pins s σ H E I hf st hg;subst hP hw hK;obtain⟨⟨old,he⟩,h1⟩:=st;obtain⟨xs,q1,hx⟩:=hg;obtain⟨its,rv,p,sz1⟩:=I.tuple q1;have l1:=rv.length;have pt:s.heap.IsTuple b its.toArray:=p;refine Bb (I.ok.hd hc) he h1 pt (by simp;omega) fun g k=>⟨rfl,ZK (h':=g) (t':=s.toks) I (fun m o hm e=>?_) hf⟩;simp only[List.mem_cons,List.not_mem_nil,or_false,not_or] at hm;exact k m o hm.2 e
 self:=fun _ _ _ _ _ st h=>by
  obtain⟨⟨old,he⟩,_⟩:=st;exact wpAny_pyIter_enum he h
theorem Hh (hh:A.handled=none) (hne:it≠b) (vs:Array Value):Draws prog w A it [it,b] vs.size (fun i v=>vs[i]?=some v) (fun i h=>h.IsListIter it b i/\h.IsList b vs) where
 live:=fun _ _ st=>let ⟨o,ho,_⟩:=st.1;⟨o,ho⟩
 frame:=fun _ _ _ st hk=>⟨let ⟨o,ho,r⟩:=st.1;⟨o,hk it (by simp) o ho,r⟩,let ⟨o,ho,r⟩:=st.2;⟨o,hk b (by simp) o ho,r⟩⟩
 item:=fun i s Q E hi st hQ=>wpAny_nextOf_list_item st.1 st.2 (show vs[i]?=some vs[i] by simp[hi]) fun g h1 sb=>hQ _ g s.toks (by simp[hi]) ⟨h1,let ⟨o,e,r⟩:=st.2;⟨o,sb.extBut _ _ hne.symm e,r⟩⟩ sb
 done:=fun s Q E st hE=>wpAny_nextOf_list_end hh st.1 st.2 (by simp) hE
noncomputable def IteL (K:Frag) (b:Addr):It :=
  ⟨fun i H=>∃ xs x,SqL K H b xs/\xs[i]?=some x,
   fun i H x H'=>∃ T p,H T=none/\x=.ref T/\H'=upd H T (.tup [.int (i:Int),p])/\∀ xs,SqL K H b xs->xs[i]?=some p,
   fun i H=>∃ xs,SqL K H b xs/\xs.length<=i⟩
noncomputable def eTnL (e it b:Addr) (n:Nat) (h:Heap):Prop:=(∃ old,IsEnum h e it n old)/\h.IsListIter it b n
theorem Js {P:Program} {w:World} {K:Frag} {elts:List Expr} {x1:Nat} {pos:Pos} {e it b:Addr} (ei:e≠it) (eb:e≠b) (ib:it≠b) :
  Turn P w K (.Tuple elts x1 pos) (IteL K b) [e,it] e (eTnL e it b) where
 mem:=by simp
 obj:=fun n h st k hk=>by
  obtain⟨⟨old,he⟩,⟨o1,e1,_,d1⟩⟩:=st;simp only[List.mem_cons,List.not_mem_nil,or_false] at hk;rcases hk with rfl|rfl
  ·exact⟨_,he,fun w e=>nomatch e⟩
  ·exact⟨_,e1,fun w e=>by rw[d1] at e;cases e⟩
 keep:=fun n h h' st k=>by
  obtain⟨⟨old,he⟩,h1⟩:=st;exact⟨⟨old,k e (by simp) _ he⟩,h1.at fun o z=>k it (by simp) o z⟩
 item:=by
  intro X hP hw hK hc n pins s σ H E I hf st hg;subst hP hw hK;obtain⟨⟨old,he⟩,h1⟩:=st;obtain⟨xs,x,q1,hx⟩:=hg;obtain⟨its,rv,p,sz1⟩:=I.list q1;obtain⟨vx,hvx,rx⟩:=rv.get hx;have pt:s.heap.IsList b its.toArray:=p.isList;have hn:n<its.toArray.size:=by
   have:=(List.getElem?_eq_some_iff.mp hvx).1
   simpa using this
  have D:=Hh (prog:=X.prog) (w:=X.w) (A:=X.A.in1) (I.ok.hd hc) ib its.toArray;refine wpAny_pyNext_enum_itemD D he ⟨h1,pt⟩ hn ei (by simp[ei,eb]) fun v g tk hv a1 a2 a3 a4 a5=>?_;have ev:v=vx:=by
   have:its.toArray[n]?=some vx:=by simpa using hvx
   rw[this] at hv;cases hv;rfl
  subst ev;have lt:∀ {k o},s.heap.get? k=some o->k≠s.heap.objs.size:=fun e=>Nat.ne_of_lt (Heap.lt_size e);have li:it≠s.heap.objs.size:=by obtain⟨o,e,_⟩:=h1;exact lt e
  refine⟨_,rfl,wpAny_letOwnedTupleGo_enum a1 fun g' z' sb=>?_⟩;have nf:H s.heap.objs.size=none:=I.hok.fresh %[|3];have tp:g'.get? s.heap.objs.size=some {cls:=.type "tuple",data:=.seq #[.int n tk,v]}:=sb.extBut _ _ (Ne.symm (lt he)) a3;have I1:Inv X pins σ (upd H s.heap.objs.size (.tup [.int (n:Int),x])) {s with heap:=s.heap.push {cls:=.type "tuple",data:=.seq #[.int n tk,v]},toks:=s.toks} :=
   I.laid (fun k o e=>Heap.get?_push_of_some _ e) %[|3] ⟨by simp only[List.length_cons,List.length_nil];rw[sizeLine_eq];decide,[.int n tk,v],.cons ⟨tk,rfl⟩ (.cons rx .nil),⟨_,Heap.get?_push_size _ rfl,rfl,_,rfl⟩⟩
  have ff:∀ k∈[e,it],k≠s.heap.objs.size:=fun k hk=>by
   simp only[List.mem_cons,List.not_mem_nil,or_false] at hk;rcases hk with rfl|rfl
   ·exact lt he
   ·exact li
  have f':∀ k∈[e,it],FpOk X pins (upd H s.heap.objs.size (.tup [.int (n:Int),x])) k:=fun k hk=>⟨by rw[Y6 (ff k hk)];exact (hf k hk).1,(hf k hk).2⟩;have I2:Inv X pins σ (upd H s.heap.objs.size (.tup [.int (n:Int),x])) {s with heap:=g',toks:=tk+1}:=by
   refine ZK (s:={s with heap:=s.heap.push {cls:=.type "tuple",data:=.seq #[.int n tk,v]},toks:=s.toks}) (h':=g') (t':=tk+1) I1 (fun k o hk e=>?_) f';rcases Heap.get?_push_cases e with ⟨rfl,rfl⟩|e'
   ·exact tp
   ·simp only[List.mem_cons,List.not_mem_nil,or_false,not_or] at hk
    exact sb.extBut _ _ hk.1 (a5 k o hk.1 hk.2 e')
  refine⟨.ref s.heap.objs.size,_,I2,rfl,⟨_,x,nf,rfl,rfl,fun xs' q=>by rw[I.list_inj q q1];exact hx⟩,?_,fun k hk=>(f' k hk).1⟩;exact⟨⟨_,z'⟩,a2.1.extBut sb.extBut ei.symm⟩
 done:=by
  intro X hP hw hK hc n pins s σ H E I hf st hg;subst hP hw hK;obtain⟨⟨old,he⟩,h1⟩:=st;obtain⟨xs,q1,hx⟩:=hg;obtain⟨its,rv,p,sz1⟩:=I.list q1;have l1:=rv.length;have pt:s.heap.IsList b its.toArray:=p.isList;refine Bd (I.ok.hd hc) he h1 pt (by simp;omega) fun g k=>⟨rfl,ZK (h':=g) (t':=s.toks) I (fun m o hm e=>?_) hf⟩;simp only[List.mem_cons,List.not_mem_nil,or_false,not_or] at hm;exact k m o hm.2 e
 self:=fun _ _ _ _ _ st h=>by
  obtain⟨⟨old,he⟩,_⟩:=st;exact wpAny_pyIter_enum he h
noncomputable def enD (xs:List D):List D:=xs.mapIdx fun i x=>.tup [.int (i:Int),x]
noncomputable def Vh:List D->Mem->(List D->(Mem->Prop)->Mem->Prop)->Prop
 | [.tup xs],M,R=>R (enD xs) (fun _=>True) M
 | [.lst a],M,R=>∃ xs,M a=some (.ls xs)/\R (enD xs) (fun M'=>M' a=some (.ls xs)) M
 | _,_,_=>False
noncomputable def Vp (ta:DA):DI:=fun δ M R=>ta δ M fun ds M1=>Vh ds M1 R
theorem B1 {K:Frag} {H0:Hp} {a:Addr} {vs:List V} {xs:List D} (ha:SqT K H0 a vs) (r:RelDs K H0 vs xs):ItD K H0 (IteT K a) (enD xs) (fun _=>True):=fun i H M x m k=>by
 have ha':=x.tup _ _ ha;have r':=r.ext x;have l1:=r.length;refine⟨fun hl=>?_,fun hl=>?_,fun y H' hy=>?_⟩
 ·simp only[enD,List.length_mapIdx] at hl
  exact⟨vs,vs[i]'%[|5],ha',List.getElem?_eq_getElem _⟩
 ·simp only[enD,List.length_mapIdx] at hl
  exact⟨vs,ha',by omega⟩
 ·obtain⟨T,p,hn,rfl,rfl,e1⟩:=hy
  have ex:HExt K H (L2.upd H T (.tup [.int (i:Int),p])):=HExt.upd (.inl hn);refine⟨ex,m.tup hn,fun d hd=>?_⟩;simp only[enD,List.getElem?_mapIdx] at hd;have f1:=e1 _ ha';cases h1:xs[i]? with
  | none=>rw [h1] at hd;simp at hd
  | some dx =>
   rw[h1] at hd;simp at hd;subst hd;obtain⟨v1,g1,g2⟩:=r'.get h1;rw[f1] at g1;cases g1;exact .tup (.inl (.of L2.upd_same)) (.cons (.int _) (.cons (g2.ext ex) .nil))
theorem B2 {K:Frag} {H0:Hp} {a:Addr} {xs:List D}:ItD K H0 (IteL K a) (enD xs) (fun M'=>M' a=some (.ls xs)):=fun i H M x m k=>by
 obtain⟨vs,ev,r'⟩:=m _ _ k;have l1:=r'.length;refine⟨fun hl=>?_,fun hl=>?_,fun y H' hy=>?_⟩
 ·simp only[enD,List.length_mapIdx] at hl
  exact⟨vs,vs[i]'%[|5],.of ev,List.getElem?_eq_getElem _⟩
 ·simp only[enD,List.length_mapIdx] at hl
  exact⟨vs,.of ev,by omega⟩
 ·obtain⟨T,p,hn,rfl,rfl,e1⟩:=hy
  have ex:HExt K H (L2.upd H T (.tup [.int (i:Int),p])):=HExt.upd (.inl hn);refine⟨ex,m.tup hn,fun d hd=>?_⟩;simp only[enD,List.getElem?_mapIdx] at hd;have f1:=e1 _ (.of ev);cases h1:xs[i]? with
  | none=>rw [h1] at hd;simp at hd
  | some dx =>
   rw[h1] at hd;simp at hd;subst hd;obtain⟨v1,g1,g2⟩:=r'.get h1;rw[f1] at g1;cases g1;exact .tup (.inl (.of L2.upd_same)) (.cons (.int _) (.cons (g2.ext ex) .nil))
section
variable {X:Cx} {rz:Bool} {Xe:DSt->DK} {pos:Pos}
theorem Fb {a:Expr} {es:List Expr} {ta:DA} {p:Pos} {elts:List Expr} {x1:Nat} {tp:Pos} (hg:Gl X "enumerate") (hm:X.mg "enumerate"=none) (ha:PA X (a::es) (Zm (X.L rz Xe) ta)) (hs:starEach (a::es) X.env=(false,eval a X.env)::starEach es X.env) (hpl:(backTo pos (starEach es X.env)).any (·.1)=false) :
  PI X (.Tuple elts x1 tp) (.Call (.Name "enumerate" p) (a::es) [] pos) (ZP (X.L rz Xe) (Vp ta)):=by
 rintro pins s σ H R I ⟨δ,M,Rd,rs,rm,t,q⟩;refine Call_ (Wt I hg hm boot_enumerate (PyProof.Rows.callWith_type1 (thn (ha pos pins s σ H (fun vs H1=>(∃ b xs,vs=[.ref b]/\SqT X.K H1 b xs/\R (IteT X.K b) H1)\/∃ b xs,vs=[.ref b]/\SqL X.K H1 b xs/\R (IteL X.K b) H1) I ⟨δ,M,_,rs,rm,t,fun ds M1 vs H1 x1 m1 r1 h1=>?_⟩) fun us s1 ⟨vs,H1,I1,r1,q1⟩=>?_) hs hpl))
 ·unfold Vh at h1
  split at h1
  ·cases r1 with
   | cons ra rr =>
    cases rr;cases ra with
    | tup ha ra=>exact .inl ⟨_,_,rfl,ha,q _ _ _ _ _ x1 m1 trivial (B1 ha ra) h1⟩
  ·obtain⟨xs,ea,h1⟩:=h1
   cases r1 with
   | cons ra rr =>
    cases rr;cases ra;obtain⟨vs,ev,_⟩:=m1 _ _ ea;exact .inr ⟨_,_,rfl,.of ev,q _ _ _ _ _ x1 m1 ea B2 h1⟩
  ·exact h1.elim
 ·have fin:∀ m∈[s1.heap.objs.size+1,s1.heap.objs.size],FpOk X pins H1 m:=fun m hm=>by
   have le:s1.heap.objs.size<=m:=by
    simp only[List.mem_cons,List.not_mem_nil,or_false] at hm;rcases hm with rfl|rfl
    ·exact Nat.le_add_right _ _
    ·exact Nat.le_refl _
   exact I1.fpOk le (I1.hok.fresh le)
  rcases q1 with q1|q1
  ·obtain⟨b,xs,e,hb,q⟩:=q1
   subst e;cases r1 with
   | cons r rr =>
    cases rr;cases r;obtain⟨its,rv,pb,_⟩:=I1.tuple hb;have lb:b<s1.heap.objs.size:=by obtain⟨o,e,_⟩:=pb;exact Heap.lt_size e
    refine A2 (show s1.heap.IsTuple b its.toArray from pb) fun g st1 st2 _ k=>?_;refine wpAny_pyIter_enum st1 ?_;exact⟨_,[s1.heap.objs.size+1,s1.heap.objs.size],_,_,H1,rfl,I1.kept (t':=s1.toks) k,Jr (Nat.succ_ne_self _) (Nat.ne_of_gt (Nat.lt_succ_of_lt lb)) (Nat.ne_of_gt lb),⟨⟨_,st1⟩,st2⟩,fin,q⟩
  ·obtain⟨b,xs,e,hb,q⟩:=q1
   subst e;cases r1 with
   | cons r rr =>
    cases rr;cases r;obtain⟨its,rv,pb,_⟩:=I1.list hb;have lb:b<s1.heap.objs.size:=by obtain⟨o,e,_⟩:=pb.isList;exact Heap.lt_size e
    refine call_enumerate_list pb.isList fun g st1 st2 _ k=>?_;refine wpAny_pyIter_enum st1 ?_;exact⟨_,[s1.heap.objs.size+1,s1.heap.objs.size],_,_,H1,rfl,I1.kept (t':=s1.toks) k,Js (Nat.succ_ne_self _) (Nat.ne_of_gt (Nat.lt_succ_of_lt lb)) (Nat.ne_of_gt lb),⟨⟨_,st1⟩,st2⟩,fin,q⟩
end
end DL
end
noncomputable section
namespace DL
open PySem PySem.Spec PyProof.Rows L2
section
variable {prog:Program} {w:World} {A:Around} {E:Value->Shared->Prop} {s:Shared}
end
section
variable {prog:Program} {w:World} {A:Around} {E:Value->Shared->Prop} {s:Shared}
end
section
variable {X:Cx} {rz:Bool} {Xe:DSt->DK} {pos p2:Pos}
end
end DL
end
noncomputable section
namespace DL
open PySem PySem.Spec PyProof.Rows L2
noncomputable def ini (c x:Str):Nat:=if c="" then 0 else if x="__init__" then 1 else 0
theorem ini0:ini "" x=0:=if_pos rfl
structure RefAt (K:Frag) (mg:Str->Option Value) (c x:Str) (f:Addr):Prop where
 fn:c=""->mg x=some (.ref f)/\PySem.W.keepIn K (.ref f)=true
 mt:c≠""->c∈oNames/\∃ C,YN K c C/\mg c=some (.ref C)/\(x≠"__init__"->Meth K C x f)/\(x="__init__"->Mk K C f)
structure FnAt (X:Cx) (c x:Str) (S:DSp):Prop where
 ex:∃ k f fd ps,FnOk X.prog X.w X.K X.mg X.base (CXR X.prog X.w) (k-ini c x) f fd ps (XY X.K S)/\ini c x<=k/\(X.calm=true->Room k X.A)/\RefAt X.K X.mg c x f/\Binds X.K fd ps []
noncomputable def putD (f:Str) (d:D):List (Str×D)->List (Str×D)
 | []=>[(f,d)]
 | (g,x)::r=>if g=f then (g,d)::r else (g,x)::putD f d r
noncomputable def dFld (n f:Str) (ta:DE):DE:=fun δ M Q=>ta δ M fun x M1=>∃ a fs d,x=.ref a/\M1 a=some (.ob n fs)/\fs.lookup f=some d/\Q d M1
noncomputable def dXfl (f:Str) (ta:DE):DE:=fun δ M Q=>ta δ M fun d M1=>∃ n x,d=.exc n x/\n∈xInit/\Yi n=f/\Q x M1
noncomputable def Ym (n m:Str) (S:DSp) (E:DSt->DK) (ta:DE) (t:DA):DE:=fun δ M Q=>ta δ M fun x M1=>∃ a fs,x=.ref a/\M1 a=some (.ob n fs)/\fs.lookup m=none/\t δ M1 fun xs M2=>S (.ref a::xs) M2 Q (E δ)
noncomputable def Yn (n:Str) (S:DSp) (E:DSt->DK) (t:DA):DE:=fun δ M Q=>t δ M fun xs M1=>alloc M1 (.ob n []) fun p M'=>S (.ref p::xs) M' (fun d M2=>d=.non/\Q (.ref p) M2) (E δ)
noncomputable def Yl (n f:Str) (i:Nat) (te:(DSt->DK)->DE):DS:=fun D δ M=>te D.ex δ M fun y M1=>∃ a fs,δ[i]?=some (some (.ref a))/\M1 a=some (.ob n fs)/\fs.length<1000/\D.nx δ (M1.upd a (.ob n (putD f y fs)))
section
variable {X:Cx} {rz:Bool} {Xe:DSt->DK} {e o:Expr} {es:List Expr} {t:DA} {te to:DE} {x n m f:Str} {p pos apos pos':Pos} {S:DSp}
theorem Ht (tab:Zj X.K=true) (ho:PE X o (lift (X.L rz Xe) to)) (hb:attributeBase o f X.env (eval o X.env)=eval o X.env):PE X (.Attribute o f pos) (lift (X.L rz Xe) (dXfl f to)):=by
 rintro pins s σ H Q I ⟨δ,M,R,rs,rm,t,q⟩;refine Fr hb (thn (ho pins s σ H (fun v H1=>∃ d M1,HExt X.K H H1/\RepM X.K H1 M1/\RelD X.K H1 v d/\∃ n x,d=.exc n x/\n∈xInit/\Yi n=f/\R x M1) I ⟨δ,M,_,rs,rm,t,fun d M1 v H1 x m r h=>⟨d,M1,x,m,r,h⟩⟩) ?_);rintro u s1 ⟨v,H1,I1,rv,d,M1,x1,m1,r1,n,x,rfl,hi,rfl,hq⟩;cases r1 with
 | exc hn hi' hc h=>exact absurd hi hi'
 | @excF a C d n v x hn hi' hc h hd r =>
  cases (show u=Value.ref a from rv);obtain⟨ob,vs,h1,h2,h3,h4⟩:=(I1.hok _ _ h).1;obtain⟨u',ru,ns⟩:=(I1.hok _ _ hd).1;obtain⟨B,fI,T⟩:=Vk tab hi hc;refine V0 I1.kIn T.ex fun bm Nn nm qn bs sn sub ab col ddc k0 k1 k2 k3 k5 mN hC hNs hni OT cd hci hdc hpm=>?_;exact EO I1.kIn (YA tab hn hc).1 h1 h2 h3 h4 ns (if_pos rfl) (B5 ru) hci hdc T.nf ⟨v,H1,I1.tok _,ru,q _ _ _ _ x1 m1 r hq⟩
theorem WT {k:Nat} {f:Addr} {fd:FuncData} {ps:List Str} {S:DSp} {pins:List (Addr×Obj)} {σ:L2.St} {H:Hp} {s:Shared} {Q:VK} {us:List Value} {vs:List V} {δ:DSt} {ds:List D} {M:Mem} {R:DK}
  (F:FnOk X.prog X.w X.K X.mg X.base (CXR X.prog X.w) k f fd ps (XY X.K S)) (hr:Room k X.A) (hb:Binds X.K fd ps []) (I:L2.Inv X pins σ H s) (r:Vals vs us)
  (rs:RepS (X.L rz Xe) H δ σ) (rm:RepM X.K H M) (rd:RelDs X.K H vs ds) (h:S ds M R (Xe δ)) (q:∀ d' M' v H',HExt X.K H H'->RepM X.K H' M'->RelD X.K H' v d'->R d' M'->Q v H') :
  wpAny (model X.prog X.w) X.A (call (.ref f) us) (EP X pins σ Q) X.xe s:=by
 obtain⟨Ex,hEx⟩:∃ Ex:XK,Ex=fun cv odx H'=>∃ n M' C x,cv=.ref C/\HExt X.K H H'/\RepM X.K H' M'/\n∈xNames/\YN X.K n C/\ExD X.K H' n odx x/\Xe δ (.exc n x) M':=⟨_,rfl⟩;have hsp:XY X.K S vs H Q Ex:=⟨ds,M,R,_,rd,rm,h,q,fun n M' H' C dd xd x m hn hc ed e=>by rw[hEx];exact⟨n,M',C,xd,rfl,x,m,hn,hc,ed,e⟩⟩;have hl:us.length=ps.length:=by rw[<- r.length];exact F.len _ _ _ _ hsp
 have hbb:=hb s us I.kIn (by simpa using hl);rw[List.append_nil] at hbb;refine wpAny_call (codeAny_mono (F.run X.A X.stack s H ⟨us,[]⟩ us vs Q Ex hr I.env0 hbb r hsp) fun res s' hq=>?_);cases res with
 | error e =>
  obtain⟨e0,C,dd,H',rfl,th,hE⟩:=(show CXR X.prog X.w X.stack H s Ex e s' from hq);rw[hEx] at hE;obtain⟨n,M',C',xd,hC,x,m,hn,hc,ed,hx⟩:=hE;cases hC;exact rs.ok.fly pins σ H s H' e0 C dd s' δ M' n xd x I th m (rs.toSlots.ext x) hn hc ed hx
 | ok fl =>
  cases fl with
  | ret u=>exact I.after hq
  | next=>exact False.elim hq
  | brk=>exact False.elim hq
  | cont=>exact False.elim hq
end
end DL
end
noncomputable section
namespace DL
open PySem PySem.Spec PyProof.Rows L2
theorem vals_ints:∀ {acc:List Value} {n:Nat} {k:Nat},acc.length=n->(∀ (j:Nat) (v:Value),acc[j]?=some v->∃ t,v=Value.int (i+((k+j:Nat):Int)*1) t)->Vals ((List.range' k n).map fun m:Nat=>V.int (i+(m:Int))) acc
 | [],n,k,hl,_=>by subst hl;exact .nil
 | v::acc,n,k,hl,h=>by
  subst hl;rw[List.length_cons,List.range'_succ,List.map_cons];refine .cons ?_ (vals_ints (k:=k+1) rfl fun j v hv=>?_)
  ·obtain⟨t,e⟩:=h 0 v rfl
   exact⟨t,by rw[e];simp⟩
  ·obtain⟨t,e⟩:=h (j+1) v (by simpa using hv)
   exact⟨t,by rw[e];congr 3;omega⟩
section
variable {X:Cx} {e:Expr} {es:List Expr} {t:TA} {p p2 pos pos2:Pos}
end
section
variable {X:Cx} {rz:Bool} {a b e:Expr} {te ta tb:(DSt->DK)->DE} {pos pos':Pos}
end
section
variable {X:Cx} {rz:Bool} {Xe:DSt->DK} {e:Expr} {es:List Expr} {t:DA} {p p2 pos pos2:Pos}
noncomputable def L8:List D->Mem->DK->Prop
 | [.int i,.int j],M,Q=>i.natAbs<=1000/\j.natAbs<=1000/\alloc M (.ls (rngD i 1 (j-i).toNat)) fun p M'=>Q (.lst p) M'
 | _,_,_=>False
end
section
variable {X:Cx} {a b:Expr} {rest:List Expr} {pos:Pos}
end
noncomputable def Dn (i j k:Nat) (ta:(DSt->DK)->DA):DS:=fun D δ M=>ta D.ex δ M fun ds M1=>∃ u v w,ds=[u,v,w]/\D.nx (((δ.set i (some u)).set j (some v)).set k (some w)) M1
section
variable {X:Cx} {i j k:Nat} {x y z:Str} {a b c:Expr} {px py pz pt pos:Pos} {kt k2:Nat} {pt2:Pos}
theorem Ef (hc:X.calm=true) (hN:X.N.Nodup) (hi:X.N[i]?=some x) (hj:X.N[j]?=some y) (hk:X.N[k]?=some z) (hij:i≠j) (hik:i≠k) (hjk:j≠k)
  (hx:X.env.scope.names.lookup x=some .local) (hy:X.env.scope.names.lookup y=some .local) (hz:X.env.scope.names.lookup z=some .local) (ha:PA X [a,b,c] ta)
  (hw:swappedStores [.Tuple [.Name x px,.Name y py,.Name z pz] kt pt] (.Tuple [a,b,c] k2 pt2) X.env=pure (some [x,y,z]))
  (hs:swapsWithSole [.Tuple [.Name x px,.Name y py,.Name z pz] kt pt] (.Tuple [a,b,c] k2 pt2) pos.line X.env=pure false) :
  PS X (.Assign [.Tuple [.Name x px,.Name y py,.Name z pz] kt pt] (.Tuple [a,b,c] k2 pt2) pos) (fun D σ H=>ta σ H fun vs H1=>∃ u v w,vs=[u,v,w]/\D.nx (((σ.set i (some u)).set j (some v)).set k (some w)) H1):=by
 intro pins s σ H D I h;rw[exec_Assign_arm];refine wpAny_bind (wpAny_standAt ?_);rw[hs];refine wpAny_bind (wpAny_pure ?_);rw[if_neg %[|4]];refine wpAny_bind (Tuple_ (thn (ha _ pins s σ H _ I h) fun us s1 hq2=>?_));obtain⟨vs,H1,I1,r1,q1⟩:=hq2;obtain⟨u,v,w,e1,q1⟩:=q1;subst e1;obtain⟨u1,u2,u3,rfl,ru,rv,rw'⟩:∃ u1 u2 u3,us=[u1,u2,u3]/\RelV u u1/\RelV v u2/\RelV w u3:=by
  cases r1 with
  | cons p q =>
   cases q with
   | cons p' q' =>
    cases q' with
    | cons p'' q'' =>
     cases q'';exact⟨_,_,_,rfl,p,p',p''⟩
 refine wpAny_newObj_type ?_ (by show 3<=sizeLine;decide);have I2:Inv X pins σ H1 {s1 with heap:=s1.heap.push {cls:=.type "tuple",data:=.seq [u1,u2,u3].toArray}}:=I1.kept (t':=s1.toks) fun b o e=>Heap.get?_push_of_some _ e;rw[hw];refine wpAny_bind (wpAny_pure ?_);show wpAny (model X.prog X.w) X.A (do rule "assign.swapped-stores";let items <- unpackItems (.ref s1.heap.objs.size) 3 none;assignInOrder [fun v=>bindName X.env z v,fun v=>bindName X.env y v,fun v=>bindName X.env x v] items.reverse;pure Flow.next) _ _ _;refine wpAny_bind (wpAny_rule (wpAny_bind (unpackItems_tuple (items:=#[u1,u2,u3]) (I.ok.hd hc) (IsTup.new s1.heap _) fun h' hx'=>?_)));have I3:=I2.kept (h':=h') (t':=s1.toks) fun b o e=>hx' b o (Nat.ne_of_lt (Heap.lt_size e)) e;show wpAny _ _ (assignInOrder [fun v=>bindName X.env z v,fun v=>bindName X.env y v,fun v=>bindName X.env x v] [u3,u2,u1] >>= fun _=>pure Flow.next) _ _ _;refine wpAny_bind (assignInOrder_cons (wpAny_bindName (Z0 I3 hN hk (.inl hz) rw' (fun s2 I4=>?_) (.inr hz))))
 refine assignInOrder_cons (wpAny_bindName (Z0 I4 hN hj (.inl hy) rv (fun s3 I5=>?_) (.inr hy)));refine assignInOrder_cons (wpAny_bindName (Z0 I5 hN hi (.inl hx) ru (fun s4 I6=>assignInOrder_nil (wpAny_pure ?_)) (.inr hx)));rw[List.set_comm _ _ (Ne.symm hij),List.set_comm _ _ (Ne.symm hik),List.set_comm _ _ (Ne.symm hjk)] at I6;exact⟨_,H1,I6,q1⟩
theorem EW (hc:X.calm=true) (hN:X.N.Nodup) (hi:X.N[i]?=some x) (hj:X.N[j]?=some y) (hk:X.N[k]?=some z) (hij:i≠j) (hik:i≠k) (hjk:j≠k)
  (hx:X.env.scope.names.lookup x=some .local) (hy:X.env.scope.names.lookup y=some .local) (hz:X.env.scope.names.lookup z=some .local) (ha:∀ Xe,PA X [a,b,c] (Zm (X.L rz Xe) (ta Xe)))
  (hw:swappedStores [.Tuple [.Name x px,.Name y py,.Name z pz] kt pt] (.Tuple [a,b,c] k2 pt2) X.env=pure (some [x,y,z]))
  (hs:swapsWithSole [.Tuple [.Name x px,.Name y py,.Name z pz] kt pt] (.Tuple [a,b,c] k2 pt2) pos.line X.env=pure false) :
  PS X (.Assign [.Tuple [.Name x px,.Name y py,.Name z pz] kt pt] (.Tuple [a,b,c] k2 pt2) pos) (Yx X rz (Dn i j k ta)):=by
 rintro pins s σ H E I ⟨δ,M,D,rs,rm,t,n,r,b,c⟩;exact (Ef hc hN hi hj hk hij hik hjk hx hy hz (ha D.ex) hw hs) pins s σ H E I <| ⟨δ,M,_,rs,rm,t,fun ds M' vs H' x m q ⟨u,v,w,e,h⟩=>by
  subst e;cases q with
  | cons r1 q =>
   obtain⟨v',w',rfl,r2,r3⟩:=q.two;exact⟨_,v',w',rfl,n _ _ _ _ x ((((rs.ext x).set r1 i).set r2 j).set r3 k) m h⟩⟩
end
end DL
namespace PySem
open Sem (wp)
section
variable {prog:Program} {w:World} {A:Around} {E:Value->Shared->Prop} {s:Shared}
end
end PySem
namespace DL
open PySem PySem.Spec PyProof.Rows L2
section
variable {z u v i j b c:Addr} {n:Nat}
variable {prog:Program} {w:World} {A:Around} {E:Value->Shared->Prop} {s:Shared} {xs ys:Array Value} {x y:Value}
end
section
variable {X:Cx} {pins:List (Addr×Obj)} {σ:L2.St} {z u v i j b c S:Addr} {A:Around} {R:Result->Shared->Prop} {res:Value} {vs ws:List V}
end
end DL
namespace PySem
namespace F
end F
end PySem
namespace DL
open PySem PySem.Spec PyProof.Rows L2
section
variable {X:Cx} {pins:List (Addr×Obj)} {σ:L2.St} {z u v i j b c S:Addr} {A:Around} {R:Result->Shared->Prop} {res:Value} {vs ws:List V} {H:Hp} {s:Shared}
end
end DL
namespace DL
open PySem PySem.Spec PyProof.Rows L2
section
variable {X:Cx} {e:Expr} {es:List Expr} {t:TA} {p p2 pos pos2:Pos}
end
section
variable {X:Cx} {rz:Bool} {Xe:DSt->DK} {e:Expr} {es:List Expr} {t:DA} {p p2 pos pos2:Pos}
end
end DL
namespace DL
open PySem PySem.Spec PyProof.Rows L2
section
variable {X:Cx}
theorem ED:MtR X "str.partition" (fun x xs H Q=>∃ a y,x=.str a/\xs=[.str y]/\(y.length==0)=false/\a.length<=sizeLine/\∀ T,H T=none->Q (.ref T) (L2.upd H T (.tup [.str (Txt.partition a y).1,.str (Txt.partition a y).2.1,.str (Txt.partition a y).2.2]))):=by
 intro pins s σ H x xs v us Q I rx rv h;obtain⟨a,y,rfl,rfl,hy,hz,q⟩:=h;obtain⟨t,rfl⟩:=rx;obtain⟨u,rfl,ru⟩:=rv.one;obtain⟨t',rfl⟩:=ru;refine call_meets F.slot_str_partition (typeIs_str _ _ _) F.entry_str_partition (F.args_str_partition_2 _ _) (meets_str_partition a y t t' hy hz) ?_;have q':=q s.heap.objs.size (I.hok.fresh %[|3]);have sl:sizeLine=16777216:=sizeLine_eq;unfold Txt.partition at q';cases ho:Builtin.Str.occurrences a y 0 a.length 1 with
 | nil =>
  rw[ho] at q';refine⟨.ref s.heap.objs.size,_,I.laid (o:=.tup [.str _,.str _,.str _]) (t':=s.toks+1) (fun k o e=>Heap.get?_push_of_some _ e) %[|3] ⟨by simp;omega,_,.cons ⟨_,rfl⟩ (.cons ⟨_,rfl⟩ (.cons ⟨_,rfl⟩ .nil)),⟨_,Heap.get?_push_size _ rfl,rfl,_,rfl⟩⟩,rfl,q'⟩
 | cons i r =>
  rw[ho] at q';refine⟨.ref s.heap.objs.size,_,I.laid (o:=.tup [.str _,.str _,.str _]) (t':=s.toks+1+1) (fun k o e=>Heap.get?_push_of_some _ e) %[|3] ⟨by simp;omega,_,.cons ⟨_,rfl⟩ (.cons ⟨_,rfl⟩ (.cons ⟨_,rfl⟩ .nil)),⟨_,Heap.get?_push_size _ rfl,rfl,_,rfl⟩⟩,rfl,q'⟩
theorem EC:MtR X "str.removeprefix" (fun x xs H Q=>∃ a y,x=.str a/\xs=[.str y]/\a.length<=sizeLine/\Q (.str (Txt.removeprefix a y)) H):=by
 intro pins s σ H x xs v us Q I rx rv h;obtain⟨a,y,rfl,rfl,hz,q⟩:=h;obtain⟨t,rfl⟩:=rx;obtain⟨u,rfl,ru⟩:=rv.one;obtain⟨t',rfl⟩:=ru;exact PySem.W.KXw.removeprefix rfl hz fun t'' k=>⟨.str _,H,I.tok _,⟨_,rfl⟩,q⟩
end
section
variable {X:Cx} {rz:Bool} {Xe:DSt->DK} {o e:Expr} {to ta:DE} {apos cpos:Pos}
noncomputable def UA (to:DE) (ts:DA):DE:=fun δ M Q=>to δ M fun x M1=>∃ a,x=.str a/\ts δ M1 fun ds M2=>∃ b,ds=[.str b]/\(b.length==0)=false/\a.length<=sizeLine/\Q (.tup [.str (Txt.partition a b).1,.str (Txt.partition a b).2.1,.str (Txt.partition a b).2.2]) M2
noncomputable def Dm (to:DE) (ts:DA):DE:=fun δ M Q=>to δ M fun x M1=>∃ a,x=.str a/\ts δ M1 fun ds M2=>∃ b,ds=[.str b]/\a.length<=sizeLine/\Q (.str (Txt.removeprefix a b)) M2
theorem Dd (ho:PE X o (lift (X.L rz Xe) to)) (ha:PE X e (lift (X.L rz Xe) ta)) (hbase:attributeBase o "partition" X.env (eval o X.env)=eval o X.env) (hline:(apos.endLine==cpos.line)=true) (hs:starEach [e] X.env=(false,eval e X.env)::starEach [] X.env) :
  PE X (.Call (.Attribute o "partition" apos) [e] [] cpos) (lift (X.L rz Xe) (UA to (YS ta dNil))):=by
 refine (UY F.plainAttrs_str F.slot_str_partition F.type_str_partition ED ho (Z9 ha Xu hs) hbase (by rw[hs];rfl) hline hs rfl).imp fun σ H Q ⟨δ,M,R,rs,rm,t,q⟩=>?_;refine⟨δ,M,_,rs,rm,t,fun d M' v H' x m r h=>?_⟩;obtain⟨a,rfl,h⟩:=h;cases r;refine⟨rfl,δ,M',_,rs.ext x,m,h,fun ds M2 vs H2 x2 m2 r2 h2=>?_⟩;obtain⟨b,rfl,hb,hz,h2⟩:=h2;obtain⟨v,rfl,rv⟩:=r2.one;cases rv;refine⟨a,b,rfl,rfl,hb,hz,fun T hT=>?_⟩;exact q _ _ _ _ ((x.trans x2).trans (.upd (.inl hT))) (m2.tup hT) (.tup (.of upd_same) (.cons (.str _) (.cons (.str _) (.cons (.str _) .nil)))) h2
theorem Fe (ho:PE X o (lift (X.L rz Xe) to)) (ha:PE X e (lift (X.L rz Xe) ta)) (hbase:attributeBase o "removeprefix" X.env (eval o X.env)=eval o X.env) (hline:(apos.endLine==cpos.line)=true) (hs:starEach [e] X.env=(false,eval e X.env)::starEach [] X.env) :
  PE X (.Call (.Attribute o "removeprefix" apos) [e] [] cpos) (lift (X.L rz Xe) (Dm to (YS ta dNil))):=by
 refine (UY F.plainAttrs_str F.slot_str_removeprefix F.type_str_removeprefix EC ho (Z9 ha Xu hs) hbase (by rw[hs];rfl) hline hs rfl).imp fun σ H Q ⟨δ,M,R,rs,rm,t,q⟩=>?_;refine⟨δ,M,_,rs,rm,t,fun d M' v H' x m r h=>?_⟩;obtain⟨a,rfl,h⟩:=h;cases r;refine⟨rfl,δ,M',_,rs.ext x,m,h,fun ds M2 vs H2 x2 m2 r2 h2=>?_⟩;obtain⟨b,rfl,hz,h2⟩:=h2;obtain⟨v,rfl,rv⟩:=r2.one;cases rv;exact⟨a,b,rfl,rfl,hz,q _ _ _ _ (x.trans x2) m2 (.str _) h2⟩
end
section
variable {X:Cx} {a b:Expr} {p1 p2 p3 pos:Pos} {k:Nat} {x:Str}
theorem Em (ha:PE X a ta) (hb:PE X b tb):PE X (.JoinedStr [.FormattedValue a (-1) none p1,.Constant (.str x) k p2,.FormattedValue b (-1) none p3] pos)
  (fun σ H Q=>ta σ H fun u H1=>∃ i,u=.int i/\i.natAbs.log2<1920/\(Str.ofString (toString i)++x).length<=sizeLine/\tb σ H1 fun v H2=>∃ j,v=.int j/\j.natAbs.log2<1920/\(Str.ofString (toString i)++x++Str.ofString (toString j)).length<=sizeLine/\Q (.str (Str.ofString (toString i)++x++Str.ofString (toString j))) H2):=by
 intro pins s σ H Q I h;refine wpAny_JoinedStr ?_;show wpAny _ _ (eval (.FormattedValue a (-1) none p1) X.env) _ _ _;refine wpAny_FormattedValue_plain (thn (ha pins s σ H _ I h) fun v s1 hq=>?_);obtain⟨u,H1,I1,r1,i,rfl,hi,hz,q1⟩:=hq;obtain⟨t,rfl⟩:=r1;refine wpAny_formatField_int hi ⟨_,_,rfl,?_,?_⟩
 ·rw[Str.empty_append];exact int_text_fits hi
 show wpAny _ _ (eval (.Constant (.str x) k p2) X.env) _ _ _;refine thn (Wq pins _ σ H1 (fun v H'=>v=.str x/\H'=H1) (I1.tok _) ⟨rfl,rfl⟩) fun v s2 hq=>?_;obtain⟨u,H2,I2,r2,rfl,rfl⟩:=hq;obtain⟨t2,rfl⟩:=r2;refine⟨_,_,rfl,by rw[Str.empty_append];exact hz,?_⟩;show wpAny _ _ (eval (.FormattedValue b (-1) none p3) X.env) _ _ _;refine wpAny_FormattedValue_plain (thn (hb pins s2 σ _ _ I2 q1) fun v s3 hq=>?_);obtain⟨u,H3,I3,r3,j,rfl,hj,hz3,q3⟩:=hq;obtain⟨t3,rfl⟩:=r3;refine wpAny_formatField_int hj ⟨_,_,rfl,?_,?_⟩
 ·rw[Str.empty_append];exact hz3
 show _/\_;rw[Str.empty_append];exact⟨hz3,.str _,H3,I3.tok _,⟨_,rfl⟩,q3⟩
end
section
variable {X:Cx} {rz:Bool} {Xe:DSt->DK} {a b:Expr} {ta tb:DE} {p1 p2 p3 pos:Pos} {k:Nat} {x:Str}
noncomputable def Dp (x:Str) (ta tb:DE):DE:=fun δ M Q=>ta δ M fun u M1=>∃ i,u=.int i/\i.natAbs.log2<1920/\(Str.ofString (toString i)++x).length<=sizeLine/\tb δ M1 fun v M2=>∃ j,v=.int j/\j.natAbs.log2<1920/\(Str.ofString (toString i)++x++Str.ofString (toString j)).length<=sizeLine/\Q (.str (Str.ofString (toString i)++x++Str.ofString (toString j))) M2
theorem Fg (ha:PE X a (lift (X.L rz Xe) ta)) (hb:PE X b (lift (X.L rz Xe) tb)):PE X (.JoinedStr [.FormattedValue a (-1) none p1,.Constant (.str x) k p2,.FormattedValue b (-1) none p3] pos) (lift (X.L rz Xe) (Dp x ta tb)) :=
 (Em ha hb).imp fun σ H Q ⟨δ,M,R,rs,rm,t,q⟩=>⟨δ,M,_,rs,rm,t,fun d M' v H' x1 m r ⟨i,e,hi,hz,h⟩=>by
  subst e;cases r;exact⟨i,rfl,hi,hz,δ,M',_,rs.ext x1,m,h,fun d M2 v H2 x2 m2 r2 ⟨j,e2,hj,hz2,h2⟩=>by
   subst e2;cases r2;exact⟨j,rfl,hj,hz2,q _ _ _ _ (x1.trans x2) m2 (.str _) h2⟩⟩⟩
end
section
variable {X:Cx}
noncomputable def Vm:List D->Mem->DK->Prop
 | [.str x],M,Q=>∃ n,PySem.intText? x=some n/\x.length<=640/\Q (.int n) M
 | _,_,_=>False
theorem Fp:CallR X (.type "int") (Xk X.K Vm):=by
 intro pins s σ H xs us Q I r h;obtain⟨ds,M,R,rd,rm,h,q⟩:=h;unfold Vm at h;split at h
 ·obtain⟨v,rfl,ra⟩:=rd.one
  cases ra;obtain⟨u,rfl,ru⟩:=r.one;obtain⟨t,rfl⟩:=ru;obtain⟨n,hn,hl,h⟩:=h;exact PySem.W.KIN.call_text hn hl ⟨.int n,H,I.tok _,⟨_,rfl⟩,q _ _ _ _ (.refl H) rm (.int _) h⟩
 ·exact h.elim
end
noncomputable def Its (x:Str):It:=⟨fun i _=>i<x.cps.size,fun i H v H'=>H'=H/\∃ c,x.cps[i]?=some c/\v=.str ⟨#[c]⟩,fun i _=>x.cps.size<=i⟩
theorem BC {P:Program} {w:World} {K:Frag} {tg:Expr} (it:Addr) (x:Str) (t:Tok):Turn P w K tg (Its x) [it] it (fun i h=>h.IsStrIter it "str_ascii_iterator" x t i) where
 mem:=by simp
 obj:=fun i h st b hb=>by
  have e:b=it:=by simpa using hb
  subst e;obtain⟨o,e,c,d⟩:=st;exact⟨o,e,fun v z=>by rw[d] at z;cases z⟩
 keep:=fun i h h' st k=>let ⟨o,ho,r⟩:=st;⟨o,k it (by simp) o ho,r⟩
 item:=by
  intro X hP hw hK hc i pins s σ H E I hf st hg;subst hP hw hK;obtain⟨f0,f1,f2,f3,f4,f5⟩:=hf it (by simp);have hg:i<x.cps.size:=hg;refine wpAny_pyNext_ascii_item st (c:=x.cps[i]) (by simp[hg]) fun h' st' sb=>?_;have I1:L2.Inv X pins σ H {s with heap:=h',toks:=s.toks+1}:=I.turned (t':=s.toks+1) (fun b o hb e=>(sb.2 b hb).trans e) f0 f1 f3 f4 f5;obtain⟨o,e,c,d⟩:=id st';exact⟨_,rfl,Jb (s:={s with heap:=h',toks:=s.toks+1}) e c d %[|4] ⟨.str ⟨#[x.cps[i]]⟩,H,I1,⟨_,rfl⟩,⟨rfl,_,by simp[hg],rfl⟩,st',fun b hb=>(hf b hb).1⟩⟩
 done:=by
  intro X hP hw hK hc i pins s σ H E I hf st hg;subst hP hw hK;obtain⟨f0,f1,f2,f3,f4,f5⟩:=hf it (by simp);have hg:x.cps.size<=i:=hg;exact wpAny_pyNext_ascii_end (I.ok.hd hc) st (by simp[hg]) fun h' eb=>⟨rfl,I.turned (t':=s.toks) (fun b o hb e=>eb b o hb e) f0 f1 f3 f4 f5⟩
 self:=fun _ _ _ _ _ st h=>wpAny_pyIter_striter_ascii st h
noncomputable def UP (x:Str):List D:=x.cps.toList.map fun c=>.str ⟨#[c]⟩
noncomputable def FJ (te:DE):DI:=fun δ M R=>te δ M fun d M1=>∃ x,d=.str x/\x.cps.all (·<128)=true/\R (UP x) (fun _=>True) M1
section
variable {X:Cx} {rz:Bool} {Xe:DSt->DK} {tg:Expr}
theorem EJ {K:Frag} {H0:Hp} {x:Str}:ItD K H0 (Its x) (UP x) (fun _=>True):=fun i H M x1 m k=>by
 refine⟨fun hl=>show i<x.cps.size by simpa[UP] using hl,fun hl=>show x.cps.size<=i by simpa[UP] using hl,fun y H' hy=>?_⟩;obtain⟨rfl,c,hc,rfl⟩:=hy;refine⟨.refl _,m,fun d hd=>?_⟩;obtain⟨h,e⟩:=Array.getElem?_eq_some_iff.mp hc;obtain rfl:d=.str ⟨#[c]⟩:=by
  simp[UP,h] at hd;rw[<- hd,e]
 exact .str _
theorem Hj {l:Expr} {te:DE} (hl:PE X l (lift (X.L rz Xe) te)):PI X tg l (ZP (X.L rz Xe) (FJ te)):=by
 rintro pins s σ H R I ⟨δ,M,Rd,rs,rm,t,q⟩;refine thn (hl pins s σ H (fun v H1=>∃ x,v=.str x/\x.cps.all (·<128)=true/\R (Its x) H1) I ⟨δ,M,_,rs,rm,t,fun d M1 v H1 x1 m1 r1 h1=>?_⟩) fun v s1 ⟨y,H1,I1,r1,x,e,ha,q1⟩=>?_
 ·obtain⟨x,rfl,ha,h1⟩:=h1
  cases r1;exact⟨x,rfl,ha,q _ _ _ _ _ x1 m1 trivial EJ h1⟩
 ·subst e
  obtain⟨t,rfl⟩:=r1;refine wpAny_pyIter_ascii ha ?_;refine⟨s1.heap.objs.size,[s1.heap.objs.size],_,_,H1,rfl,I1.kept (t':=s1.toks) fun b o e=>Heap.get?_push_of_some _ e,BC _ x t,⟨_,Heap.get?_push_size _ rfl,rfl,rfl⟩,fun b hb=>?_,q1⟩;have e:b=s1.heap.objs.size:=by simpa using hb
  subst e;exact I1.fpOk %[|3] (I1.hok.fresh %[|3])
end
section
variable {X:Cx} {rz:Bool} {a b e:Expr} {te ta tb:(DSt->DK)->DE} {pos pos':Pos}
end
section
variable {X:Cx} {rz:Bool} {Xe:DSt->DK} {o e f:Expr} {to ta tb:DE} {apos pos:Pos}
end
end DL
end
noncomputable section
namespace DL
open PySem PySem.Spec PyProof.Rows L2
section
variable {X:Cx} {rz:Bool} {Xe:DSt->DK} {pos:Pos}
variable {a b:Expr} {ta tb:DE}
end
section
variable {X:Cx} {rz:Bool} {Xe:DSt->DK} {tg:Expr}
end
section
variable {X:Cx}
theorem FY:SlR X (fun x lo hi H Q=>∃ z,x=.str z/\z.length<=sizeLine/\Q (.str (Txt.slice z lo hi)) H):=by
 intro pins s σ H x v vl vu lo hi sl Q I rx hs pl pu h;obtain⟨z,rfl,hz,q⟩:=h;obtain⟨t,rfl⟩:=rx;refine⟨"str",_,PySem.F.slot_str_getitem.lookup,rfl,?_⟩;have hp:∀ {v:Value} {l:Option Int},IsPart v l->∃ l':Option (Int×Tok),v=partValue l'/\l=l'.map (·.1):=by
  rintro v l (_|⟨i,t⟩)
  ·exact⟨none,rfl,rfl⟩
  ·exact⟨some (i,t),rfl,rfl⟩
 obtain⟨l',rfl,rfl⟩:=hp pl;obtain⟨u',rfl,rfl⟩:=hp pu;refine wpAny_getItem_str_slice (l:=l') (u:=u') (st:=none) hs rfl ?_;unfold Txt.slice at q;unfold sliceMade;by_cases c:((1:Int)==1&&(Builtin.Str.strSliceIndices (l'.map (·.1)) (u'.map (·.1)) 1 z.length).length==z.length)=true
 ·rw[if_pos c] at q
  rw[if_pos (show (((Option.map (fun x=>x.fst) (none:Option (Int×Tok))).getD 1==1&&(slicePicked z l' u' none).length==z.length)=true) from c)];exact⟨.str z,H,I,⟨_,rfl⟩,q⟩
 ·rw[if_neg c] at q
  rw[if_neg (show ¬ (((Option.map (fun x=>x.fst) (none:Option (Int×Tok))).getD 1==1&&(slicePicked z l' u' none).length==z.length)=true) from c)];have hlen:=PyProof.Txt.length_slice_le z (l'.map (·.1)) (u'.map (·.1));unfold Txt.slice at hlen;rw[if_neg c] at hlen;exact⟨Nat.le_trans hlen hz,.str _,H,I.tok _,⟨_,rfl⟩,q⟩
end
section
variable {X:Cx} {rz:Bool} {Xe:DSt->DK} {o:Expr} {to:DE} {apos cpos:Pos}
variable {e:Expr} {ta:DE} {pos:Pos}
noncomputable def dSsl (ta:DE) (tl th:DO):DE:=fun δ M Q=>ta δ M fun x M1=>tl δ M1 fun l M2=>th δ M2 fun u M3=>∃ z,x=.str z/\z.length<=sizeLine/\Q (.str (Txt.slice z l u)) M3
theorem Hw {lo hi:Option Expr} {tl th:DO} {p2:Pos} (he:PE X e (lift (X.L rz Xe) ta)) (hl:PO X lo (Vd (X.L rz Xe) tl)) (hu:PO X hi (Vd (X.L rz Xe) th)):PE X (.Subscript e (.Slice lo hi none p2) pos) (lift (X.L rz Xe) (dSsl ta tl th)) :=
 (UX FY he hl hu).imp fun σ H Q ⟨δ,M,R,rs,rm,t,q⟩=>⟨δ,M,_,rs,rm,t,fun d M1 v H1 x1 m1 r1 h1=>⟨δ,M1,_,rs.ext x1,m1,h1,fun l M2 H2 x2 m2 h2=>⟨δ,M2,_,rs.ext (x1.trans x2),m2,h2,fun u M3 H3 x3 m3 h3=>by
  obtain⟨z,rfl,hz,h3⟩:=h3;cases r1;exact⟨z,rfl,hz,q _ _ _ _ ((x1.trans x2).trans x3) m3 (.str _) h3⟩⟩⟩⟩
end
end DL
end
noncomputable section
namespace DL
open PySem PySem.Spec PyProof.Rows L2
theorem VC:∀ (n:Nat) (ys:List Str),Vals (ys.map V.str) (strsFrom n ys)
 | _,[]=>.nil
 | n,y::ys=>.cons ⟨_,rfl⟩ (VC (n+1) ys)
section
variable {X:Cx}
theorem CA:MtR X "str.split" (fun x xs H Q=>∃ a y,x=.str a/\xs=[.str y]/\(y.length==0)=false/\a.length<=sizeLine/\(Txt.split a y).length<=sizeLine/\∀ T,H T=none->Q (.ref T) (L2.upd H T (.lst ((Txt.split a y).map V.str)))):=by
 intro pins s σ H x xs v us Q I rx rv h;obtain⟨a,y,rfl,rfl,hy,hz,hl,q⟩:=h;obtain⟨t,rfl⟩:=rx;obtain⟨u,rfl,ru⟩:=rv.one;obtain⟨t',rfl⟩:=ru;have q':=q s.heap.objs.size (I.hok.fresh %[|3]);have sl:sizeLine=16777216:=sizeLine_eq;unfold Txt.split at q' hl;by_cases c1:(decide (a.length<y.length) || decide (Builtin.Str.strKind a<Builtin.Str.strKind y))=true
 ·rw[if_pos c1] at q'
  refine call_meets F.slot_str_split (typeIs_str _ _ _) F.entry_str_split (F.args_str_split_2 _ _) (meets_str_split_cannot_occur a y t t' c1) ?_;exact⟨.ref s.heap.objs.size,_,I.laid (o:=.lst [.str _]) (t':=s.toks) (fun k o e=>Heap.get?_push_of_some _ e) %[|3] ⟨by simp;omega,_,0,.cons ⟨_,rfl⟩ .nil,Heap.get?_push_size _ rfl⟩,rfl,q'⟩
 rw[if_neg c1] at q' hl;by_cases c2:(Builtin.Str.occurrences a y 0 a.length (a.length+1)).isEmpty=true
 ·rw[if_pos c2] at q'
  refine call_meets F.slot_str_split (typeIs_str _ _ _) F.entry_str_split (F.args_str_split_2 _ _) (meets_str_split_not_found a y t t' (Bool.eq_false_iff.mpr c1) hy c2) ?_;exact⟨.ref s.heap.objs.size,_,I.laid (o:=.lst [.str _]) (t':=s.toks) (fun k o e=>Heap.get?_push_of_some _ e) %[|3] ⟨by simp;omega,_,0,.cons ⟨_,rfl⟩ .nil,Heap.get?_push_size _ rfl⟩,rfl,q'⟩
 rw[if_neg c2] at q' hl;refine call_meets F.slot_str_split (typeIs_str _ _ _) F.entry_str_split (F.args_str_split_2 _ _) (meets_str_split_sep a y t t' (Bool.eq_false_iff.mpr c1) hy (Bool.eq_false_iff.mpr c2) hz hl) ?_;exact⟨.ref s.heap.objs.size,_,I.laid (o:=.lst (List.map V.str _)) (t':=s.toks+_) (fun k o e=>Heap.get?_push_of_some _ e) %[|3] ⟨by rw[List.length_map];exact hl,_,0,VC _ _,Heap.get?_push_size _ rfl⟩,rfl,q'⟩
theorem Aa:∀ {ys:List Str} {us:List Value},Vals (ys.map V.str) us->∃ l:List (Str×Tok),us=strValues l/\l.map (·.1)=ys
 | [],_,r=>by cases r;exact⟨[],rfl,rfl⟩
 | y::ys,_,r=>by
  cases r with
  | cons a b =>
   obtain⟨t,rfl⟩:=a;obtain⟨l,rfl,e⟩:=Aa b;exact⟨(y,t)::l,rfl,by rw[List.map_cons,e]⟩
theorem EE:MtR X "str.join" (fun x xs H Q=>∃ a T ys,x=.str a/\xs=[.ref T]/\H T=some (.lst (ys.map V.str))/\JoinOk a ys=true/\Q (.str (Txt.join a ys)) H):=by
 intro pins s σ H x xs v us Q I rx rv h;obtain⟨a,T,ys,rfl,rfl,hT,hj,q⟩:=h;obtain⟨t,rfl⟩:=rx;obtain⟨u,rfl,ru⟩:=rv.one;obtain rfl:u=Value.ref T:=ru;obtain⟨_,its,n,r,e⟩:=(show ObjOk X.prog X.w H s.heap T (.lst (ys.map V.str)) from I.hok T _ hT);obtain⟨l,rfl,el⟩:=Aa r;exact PySem.SC.join (l:=l) (texts:=ys) ⟨_,e,rfl,n,rfl⟩ el hj fun t' k=>⟨.str _,H,I.tok _,⟨_,rfl⟩,q⟩
end
section
variable {X:Cx} {rz:Bool} {Xe:DSt->DK} {o e:Expr} {to ta:DE} {apos cpos:Pos}
noncomputable def Zo (to:DE) (ts:DA):DE:=fun δ M Q=>to δ M fun x M1=>∃ a,x=.str a/\ts δ M1 fun ds M2=>∃ b,ds=[.str b]/\(b.length==0)=false/\a.length<=100000/\(Txt.split a b).length<=100000/\alloc M2 (.ls ((Txt.split a b).map .str)) fun p M'=>Q (.lst p) M'
noncomputable def WL (to:DE) (ts:DA):DE:=fun δ M Q=>to δ M fun x M1=>∃ a,x=.str a/\ts δ M1 fun ds M2=>∃ p ys,ds=[.lst p]/\M2 p=some (.ls (ys.map .str))/\JoinOk a ys=true/\Q (.str (Txt.join a ys)) M2
theorem UU {K:Frag} {H:Hp}:∀ ys:List Str,RelDs K H (ys.map V.str) (ys.map D.str)
 | []=>.nil
 | y::ys=>.cons (.str y) (UU ys)
theorem UO {K:Frag} {H:Hp}:∀ {ys:List Str} {vs:List V},RelDs K H vs (ys.map D.str)->vs=ys.map V.str
 | [],_,r=>by cases r;rfl
 | y::ys,_,r=>by
  cases r with
  | cons a b=>cases a;rw[UO b];rfl
theorem Dc (ho:PE X o (lift (X.L rz Xe) to)) (ha:PE X e (lift (X.L rz Xe) ta)) (hbase:attributeBase o "split" X.env (eval o X.env)=eval o X.env) (hline:(apos.endLine==cpos.line)=true) (hs:starEach [e] X.env=(false,eval e X.env)::starEach [] X.env) :
  PE X (.Call (.Attribute o "split" apos) [e] [] cpos) (lift (X.L rz Xe) (Zo to (YS ta dNil))):=by
 refine (UY F.plainAttrs_str F.slot_str_split F.type_str_split CA ho (Z9 ha Xu hs) hbase (by rw[hs];rfl) hline hs rfl).imp fun σ H Q ⟨δ,M,R,rs,rm,t,q⟩=>?_;refine⟨δ,M,_,rs,rm,t,fun d M' v H' x m r h=>?_⟩;obtain⟨a,rfl,h⟩:=h;cases r;refine⟨rfl,δ,M',_,rs.ext x,m,h,fun ds M2 vs H2 x2 m2 r2 h2=>?_⟩;obtain⟨b,rfl,hb,hz,hl,h2⟩:=h2;obtain⟨v,rfl,rv⟩:=r2.one;cases rv;have sl:sizeLine=16777216:=sizeLine_eq;exact⟨a,b,rfl,rfl,hb,by omega,by omega,fun T hT=>q _ _ _ _ ((x.trans x2).trans (.upd (.inl hT))) (m2.lst hT (UU _)) (.lst T) (h2.at (m2.none hT))⟩
theorem Ff (ho:PE X o (lift (X.L rz Xe) to)) (ha:PE X e (lift (X.L rz Xe) ta)) (hbase:attributeBase o "join" X.env (eval o X.env)=eval o X.env) (hline:(apos.endLine==cpos.line)=true) (hs:starEach [e] X.env=(false,eval e X.env)::starEach [] X.env) :
  PE X (.Call (.Attribute o "join" apos) [e] [] cpos) (lift (X.L rz Xe) (WL to (YS ta dNil))):=by
 refine (UY F.plainAttrs_str F.slot_str_join F.type_str_join EE ho (Z9 ha Xu hs) hbase (by rw[hs];rfl) hline hs rfl).imp fun σ H Q ⟨δ,M,R,rs,rm,t,q⟩=>?_;refine⟨δ,M,_,rs,rm,t,fun d M' v H' x m r h=>?_⟩;obtain⟨a,rfl,h⟩:=h;cases r;refine⟨rfl,δ,M',_,rs.ext x,m,h,fun ds M2 vs H2 x2 m2 r2 h2=>?_⟩;obtain⟨p,ys,rfl,hp,hj,h2⟩:=h2;obtain⟨v,rfl,rv⟩:=r2.one;cases rv;obtain⟨vs,e1,e2⟩:=m2 _ _ hp;obtain rfl:=UO e2;exact⟨a,p,ys,rfl,rfl,e1,hj,q _ _ _ _ (x.trans x2) m2 (.str _) h2⟩
end
section
variable {X:Cx} {a b:Expr} {p1 p2 p3 pos:Pos} {k:Nat} {x:Str}
theorem Cf (ha:PE X a ta) (hb:PE X b tb):PE X (.JoinedStr [.FormattedValue a (-1) none p1,.Constant (.str x) k p2,.FormattedValue b (-1) none p3] pos)
  (fun σ H Q=>ta σ H fun u H1=>∃ i,u=.str i/\i.length<=sizeLine/\(i++x).length<=sizeLine/\tb σ H1 fun v H2=>∃ j,v=.str j/\j.length<=sizeLine/\(i++x++j).length<=sizeLine/\Q (.str (i++x++j)) H2):=by
 intro pins s σ H Q I h;refine wpAny_JoinedStr ?_;show wpAny _ _ (eval (.FormattedValue a (-1) none p1) X.env) _ _ _;refine wpAny_FormattedValue_plain (thn (ha pins s σ H _ I h) fun v s1 hq=>?_);obtain⟨u,H1,I1,r1,i,rfl,hi,hz,q1⟩:=hq;obtain⟨t,rfl⟩:=r1;refine PyProof.Rows.formatField_str (fun t' tk=>⟨_,_,rfl,by rw[Str.empty_append];exact hi,?_⟩) hi;show wpAny _ _ (eval (.Constant (.str x) k p2) X.env) _ _ _;refine thn (Wq pins _ σ H1 (fun v H'=>v=.str x/\H'=H1) (I1.tok tk) ⟨rfl,rfl⟩) fun v s2 hq=>?_;obtain⟨u,H2,I2,r2,rfl,rfl⟩:=hq;obtain⟨t2,rfl⟩:=r2;refine⟨_,_,rfl,by rw[Str.empty_append];exact hz,?_⟩;show wpAny _ _ (eval (.FormattedValue b (-1) none p3) X.env) _ _ _;refine wpAny_FormattedValue_plain (thn (hb pins s2 σ _ _ I2 q1) fun v s3 hq=>?_);obtain⟨u,H3,I3,r3,j,rfl,hj,hz3,q3⟩:=hq;obtain⟨t3,rfl⟩:=r3;refine PyProof.Rows.formatField_str (fun t' tk=>⟨_,_,rfl,by rw[Str.empty_append];exact hz3,?_⟩) hj
 show _/\_;rw[Str.empty_append];exact⟨hz3,.str _,H3,I3.tok _,⟨_,rfl⟩,q3⟩
end
section
variable {X:Cx} {rz:Bool} {Xe:DSt->DK} {a b:Expr} {ta tb:DE} {p1 p2 p3 pos:Pos} {k:Nat} {x:Str}
noncomputable def JZ (x:Str) (ta tb:DE):DE:=fun δ M Q=>ta δ M fun u M1=>∃ i,u=.str i/\i.length<=sizeLine/\(i++x).length<=sizeLine/\tb δ M1 fun v M2=>∃ j,v=.str j/\j.length<=sizeLine/\(i++x++j).length<=sizeLine/\Q (.str (i++x++j)) M2
theorem De (ha:PE X a (lift (X.L rz Xe) ta)) (hb:PE X b (lift (X.L rz Xe) tb)):PE X (.JoinedStr [.FormattedValue a (-1) none p1,.Constant (.str x) k p2,.FormattedValue b (-1) none p3] pos) (lift (X.L rz Xe) (JZ x ta tb)) :=
 (Cf ha hb).imp fun σ H Q ⟨δ,M,R,rs,rm,t,q⟩=>⟨δ,M,_,rs,rm,t,fun d M' v H' x1 m r ⟨i,e,hi,hz,h⟩=>by
  subst e;cases r;exact⟨i,rfl,hi,hz,δ,M',_,rs.ext x1,m,h,fun d M2 v H2 x2 m2 r2 ⟨j,e2,hj,hz2,h2⟩=>by
   subst e2;cases r2;exact⟨j,rfl,hj,hz2,q _ _ _ _ (x1.trans x2) m2 (.str _) h2⟩⟩⟩
end
section
variable {X:Cx} {a b c:Expr} {p1 p2 p3 p4 p5 pos:Pos} {k k2:Nat} {x y:Str}
theorem Cg (ha:PE X a ta) (hb:PE X b tb) (hc:PE X c tc):PE X (.JoinedStr [.FormattedValue a (-1) none p1,.Constant (.str x) k p2,.FormattedValue b (-1) none p3,.Constant (.str y) k2 p4,.FormattedValue c (-1) none p5] pos)
  (fun σ H Q=>ta σ H fun u H1=>∃ i,u=.int i/\i.natAbs.log2<1920/\(Str.ofString (toString i)++x).length<=sizeLine/\tb σ H1 fun v H2=>∃ j,v=.int j/\j.natAbs.log2<1920/\(Str.ofString (toString i)++x++Str.ofString (toString j)).length<=sizeLine/\(Str.ofString (toString i)++x++Str.ofString (toString j)++y).length<=sizeLine/\tc σ H2 fun w H3=>∃ t,w=.str t/\t.length<=sizeLine/\(Str.ofString (toString i)++x++Str.ofString (toString j)++y++t).length<=sizeLine/\Q (.str (Str.ofString (toString i)++x++Str.ofString (toString j)++y++t)) H3):=by
 intro pins s σ H Q I h;refine wpAny_JoinedStr ?_;show wpAny _ _ (eval (.FormattedValue a (-1) none p1) X.env) _ _ _;refine wpAny_FormattedValue_plain (thn (ha pins s σ H _ I h) fun v s1 hq=>?_);obtain⟨u,H1,I1,r1,i,rfl,hi,hz,q1⟩:=hq;obtain⟨t,rfl⟩:=r1;refine wpAny_formatField_int hi ⟨_,_,rfl,?_,?_⟩
 ·rw[Str.empty_append];exact int_text_fits hi
 show wpAny _ _ (eval (.Constant (.str x) k p2) X.env) _ _ _;refine thn (Wq pins _ σ H1 (fun v H'=>v=.str x/\H'=H1) (I1.tok _) ⟨rfl,rfl⟩) fun v s2 hq=>?_;obtain⟨u,H2,I2,r2,rfl,rfl⟩:=hq;obtain⟨t2,rfl⟩:=r2;refine⟨_,_,rfl,by rw[Str.empty_append];exact hz,?_⟩;show wpAny _ _ (eval (.FormattedValue b (-1) none p3) X.env) _ _ _;refine wpAny_FormattedValue_plain (thn (hb pins s2 σ _ _ I2 q1) fun v s3 hq=>?_);obtain⟨u,H3,I3,r3,j,rfl,hj,hz3,hz4,q3⟩:=hq;obtain⟨t3,rfl⟩:=r3;refine wpAny_formatField_int hj ⟨_,_,rfl,?_,?_⟩
 ·rw[Str.empty_append];exact hz3
 show wpAny _ _ (eval (.Constant (.str y) k2 p4) X.env) _ _ _;refine thn (Wq pins _ σ H3 (fun v H'=>v=.str y/\H'=H3) (I3.tok _) ⟨rfl,rfl⟩) fun v s4 hq=>?_;obtain⟨u,H4,I4,r4,rfl,rfl⟩:=hq;obtain⟨t4,rfl⟩:=r4;refine⟨_,_,rfl,by rw[Str.empty_append];exact hz4,?_⟩;show wpAny _ _ (eval (.FormattedValue c (-1) none p5) X.env) _ _ _;refine wpAny_FormattedValue_plain (thn (hc pins s4 σ _ _ I4 q3) fun v s5 hq=>?_);obtain⟨u,H5,I5,r5,t5,rfl,h5,hz5,q5⟩:=hq;obtain⟨t6,rfl⟩:=r5;refine PyProof.Rows.formatField_str (fun t' tk=>⟨_,_,rfl,by rw[Str.empty_append];exact hz5,?_⟩) h5;show _/\_;rw[Str.empty_append];exact⟨hz5,.str _,H5,I5.tok _,⟨_,rfl⟩,q5⟩
end
section
variable {X:Cx} {rz:Bool} {Xe:DSt->DK} {a b c:Expr} {ta tb tc:DE} {p1 p2 p3 p4 p5 pos:Pos} {k k2:Nat} {x y:Str}
noncomputable def A0 (x y:Str) (ta tb tc:DE):DE:=fun δ M Q=>ta δ M fun u M1=>∃ i,u=.int i/\i.natAbs.log2<1920/\(Str.ofString (toString i)++x).length<=sizeLine/\tb δ M1 fun v M2=>∃ j,v=.int j/\j.natAbs.log2<1920/\(Str.ofString (toString i)++x++Str.ofString (toString j)).length<=sizeLine/\(Str.ofString (toString i)++x++Str.ofString (toString j)++y).length<=sizeLine/\tc δ M2 fun w M3=>∃ t,w=.str t/\t.length<=sizeLine/\(Str.ofString (toString i)++x++Str.ofString (toString j)++y++t).length<=sizeLine/\Q (.str (Str.ofString (toString i)++x++Str.ofString (toString j)++y++t)) M3
theorem Df (ha:PE X a (lift (X.L rz Xe) ta)) (hb:PE X b (lift (X.L rz Xe) tb)) (hc:PE X c (lift (X.L rz Xe) tc)):PE X (.JoinedStr [.FormattedValue a (-1) none p1,.Constant (.str x) k p2,.FormattedValue b (-1) none p3,.Constant (.str y) k2 p4,.FormattedValue c (-1) none p5] pos) (lift (X.L rz Xe) (A0 x y ta tb tc)) :=
 (Cg ha hb hc).imp fun σ H Q ⟨δ,M,R,rs,rm,t,q⟩=>⟨δ,M,_,rs,rm,t,fun d M' v H' x1 m r ⟨i,e,hi,hz,h⟩=>by
  subst e;cases r;exact⟨i,rfl,hi,hz,δ,M',_,rs.ext x1,m,h,fun d M2 v H2 x2 m2 r2 ⟨j,e2,hj,hz2,hz3,h2⟩=>by
   subst e2;cases r2;exact⟨j,rfl,hj,hz2,hz3,δ,M2,_,(rs.ext x1).ext x2,m2,h2,fun d M3 v H3 x3 m3 r3 ⟨t3,e3,ht,hz4,h3⟩=>by
    subst e3;cases r3;exact⟨t3,rfl,ht,hz4,q _ _ _ _ ((x1.trans x2).trans x3) m3 (.str _) h3⟩⟩⟩⟩
end
end DL
end
noncomputable section
namespace DL
open PySem PySem.W PyProof.Rows L2
section
variable (lt:Nat->Nat->Bool) (N:Nat)
variable {lt N}
noncomputable def gA (p:Array Nat) (i:Nat):Nat:=p.getD i 0
noncomputable def St (lt:Nat->Nat->Bool) (p:Array Nat) (k:Nat):Prop:=∀ i j,i<=j->j<k->lt (gA p j) (gA p i)=false
end
section
variable {prog:Program} {w:World} {A:Around} {E:Value->Shared->Prop} {s:Shared}
end
section
variable {X:Cx}
end
end DL
end
noncomputable section
namespace DL
open PySem PySem.Spec PyProof.Rows L2
section
variable {X:Cx} {rz:Bool} {Xe:DSt->DK} {e o:Expr} {es:List Expr} {t:DA} {te to:DE} {x:Str} {p pos apos:Pos}
theorem Fi (hcal:X.calm=true) (F:FnAt X "" x S) (hg:Gl X x) (ha:PA X (e::es) (Zm (X.L rz Xe) t)) (hdb:(x==("__debug__":Str))=false) (he:starEach (e::es) X.env=(false,eval e X.env)::starEach es X.env) (hpl:(backTo pos (starEach es X.env)).any (·.1)=false) :
  PE X (.Call (.Name x p) (e::es) [] pos) (lift (X.L rz Xe) (XR S Xe t)):=by
 obtain⟨k,f,fd,ps,F,_,hr,rf,hb⟩:=F.ex;rw[ini0,Nat.sub_zero] at F;obtain⟨hm,hk⟩:=rf.fn rfl;rintro pins s σ H Q I ⟨δ,M,R,rs,rm,t,q⟩;refine wpAny_Call_Name_kw (Zu I hg hm ?_ hdb);refine PySem.W.callWith_K (h₀:=X.base) I.ok.mod.kin hk (thn (ha pos pins s σ H (fun vs H1=>∃ ds M1,HExt X.K H H1/\RepM X.K H1 M1/\RelDs X.K H1 vs ds/\S ds M1 R (Xe δ)) I ⟨δ,M,_,rs,rm,t,fun ds M1 vs H1 x m r h=>⟨ds,M1,x,m,r,h⟩⟩) fun us s1 ⟨vs,H1,I1,r,ds,M1,x1,m1,r1,h1⟩=>⟨I1.kIn,?_⟩) he hpl;exact WT F (hr hcal) hb I1 r (rs.ext x1) m1 r1 h1 fun d' M' v H' x=>q d' M' v H' (x1.trans x)
theorem Dk (hcal:X.calm=true) (F:FnAt X "" x S) (hg:Gl X x) (hdb:(x==("__debug__":Str))=false):PE X (.Call (.Name x p) [] [] pos) (lift (X.L rz Xe) (XR S Xe dNil)):=by
 obtain⟨k,f,fd,ps,F,_,hr,rf,hb⟩:=F.ex;rw[ini0,Nat.sub_zero] at F;obtain⟨hm,hk⟩:=rf.fn rfl;rintro pins s σ H Q I ⟨δ,M,R,rs,rm,t,q⟩;refine wpAny_Call_Name_kw (Zu I hg hm ?_ hdb);exact PySem.W.callWith_K0 I.kIn hk (WT (us:=[]) F (hr hcal) hb I .nil rs rm .nil t q)
noncomputable def Y4 (alts:List (Str×DSp)) (i:Nat) (Xe:DSt->DK) (t:DA):DE:=fun δ M Q=>∃ n S,δ[i]?=some (some (.fn n))/\(n,S)∈alts/\t δ M fun ds M1=>S ds M1 Q (Xe δ)
structure GloAt (X:Cx) (x:Str) (d:D):Prop where
 ex:∃ u v,X.mg x=some u/\RelV v u/\∀ H,RelD X.K H v d
theorem Dj (hcal:X.calm=true) (A:∀ n S,(n,S)∈alts->FnAt X "" n S/\GloAt X n (.fn n)) (hv:PE X (.Name x p) (tVar i)) (ha:PA X (e::es) (Zm (X.L rz Xe) t)) (he:starEach (e::es) X.env=(false,eval e X.env)::starEach es X.env) (hpl:(backTo pos (starEach es X.env)).any (·.1)=false) :
  PE X (.Call (.Name x p) (e::es) [] pos) (lift (X.L rz Xe) (Y4 alts i Xe t)):=by
 rintro pins s σ H Q I ⟨δ,M,R,rs,rm,⟨n,S,e1,mem,t⟩,q⟩;obtain⟨F1,G⟩:=A n S mem;obtain⟨k,f,fd,ps,F,_,hr,rf,hb⟩:=F1.ex;rw[ini0,Nat.sub_zero] at F;obtain⟨hm,hk⟩:=rf.fn rfl;obtain⟨v,h1,h2⟩:=rs.slot i _ e1;have hvf:v=.ref f:=by
  obtain⟨u,v',g1,g2,g3⟩:=G.ex;cases h2 with
  | fn hc =>
   cases g3 fun _=>none with
   | fn hc' =>
    have g2:u=_:=g2;rw[g2] at g1;have z1:=g1.symm.trans hm;injection z1 with z1
    injection z1 with z1
    have z2:=hc.symm.trans hc';injection z2 with z2
    injection z2 with z2
    injection z2 with z2
    rw[z2,z1]
 subst hvf;refine wpAny_Call_Name_kw (thn (hv pins s σ H (fun v' H'=>v'=.ref f/\H'=H) I ⟨_,h1,rfl,rfl⟩) ?_);rintro u s0 ⟨v',H',I0,r0,ev,eH⟩;subst ev;subst eH;have r0:u=.ref f:=r0;subst r0;refine PySem.W.callWith_K (h₀:=X.base) I0.ok.mod.kin hk (thn (ha pos pins s0 σ H' (fun vs H1=>∃ ds M1,HExt X.K H' H1/\RepM X.K H1 M1/\RelDs X.K H1 vs ds/\S ds M1 R (Xe δ)) I0 ⟨δ,M,_,rs,rm,t,fun ds M1 vs H1 x m r h=>⟨ds,M1,x,m,r,h⟩⟩) fun us s1 ⟨vs,H1,I1,r,ds,M1,x1,m1,r1,h1⟩=>⟨I1.kIn,?_⟩) he hpl;exact WT F (hr hcal) hb I1 r (rs.ext x1) m1 r1 h1 fun d' M' v H' x=>q d' M' v H' (x1.trans x)
noncomputable def Vt (alts:List (Str×DSp)) (te:DE) (Xe:DSt->DK) (t:DA):DE:=fun δ M Q=>te δ M fun d M0=>∃ n S,d=.fn n/\(n,S)∈alts/\t δ M0 fun ds M1=>S ds M1 Q (Xe δ)
theorem Di (hcal:X.calm=true) (A:∀ n S,(n,S)∈alts->FnAt X "" n S/\GloAt X n (.fn n)) (hv:PE X (.Subscript f1 f2 p) (lift (X.L rz Xe) te)) (ha:PA X (e::es) (Zm (X.L rz Xe) t)) (he:starEach (e::es) X.env=(false,eval e X.env)::starEach es X.env) (hpl:(backTo pos (starEach es X.env)).any (·.1)=false) :
  PE X (.Call (.Subscript f1 f2 p) (e::es) [] pos) (lift (X.L rz Xe) (Vt alts te Xe t)):=by
 rintro pins s σ H Q I ⟨δ,M,R,rs,rm,t0,q⟩;rw[show eval (.Call (.Subscript f1 f2 p) (e::es) [] pos) X.env=(do callWith pos (<- eval (.Subscript f1 f2 p) X.env) [] (backTo pos (starEach (e::es) X.env)) (backToKw pos (keywordEach [] X.env))) from rfl];refine wpAny_bind (thn (hv pins s σ H (fun v' H0=>∃ d M0,HExt X.K H H0/\RepM X.K H0 M0/\RelD X.K H0 v' d/\∃ n S,d=.fn n/\(n,S)∈alts/\t δ M0 fun ds M1=>S ds M1 R (Xe δ)) I ⟨δ,M,_,rs,rm,t0,fun d M0 v' H0 x m r h=>⟨d,M0,x,m,r,h⟩⟩) ?_);rintro u s0 ⟨v',H0,I0,r0,d,M0,x0,m0,rd,n,S,rfl,mem,t1⟩;obtain⟨F1,G⟩:=A n S mem;obtain⟨k,f,fd,ps,F,_,hr,rf,hb⟩:=F1.ex;rw[ini0,Nat.sub_zero] at F;obtain⟨hm,hk⟩:=rf.fn rfl;have hvf:v'=.ref f:=by
  obtain⟨u,v',g1,g2,g3⟩:=G.ex;cases rd with
  | fn hc =>
   cases g3 fun _=>none with
   | fn hc' =>
    have g2:u=_:=g2;rw[g2] at g1;have z1:=g1.symm.trans hm;injection z1 with z1
    injection z1 with z1
    have z2:=hc.symm.trans hc';injection z2 with z2
    injection z2 with z2
    injection z2 with z2
    rw[z2,z1]
 subst hvf;have r0:u=.ref f:=r0;subst r0;refine PySem.W.callWith_K (h₀:=X.base) I0.ok.mod.kin hk (thn (ha pos pins s0 σ H0 (fun vs H1=>∃ ds M1,HExt X.K H0 H1/\RepM X.K H1 M1/\RelDs X.K H1 vs ds/\S ds M1 R (Xe δ)) I0 ⟨δ,M0,_,rs.ext x0,m0,t1,fun ds M1 vs H1 x m r h=>⟨ds,M1,x,m,r,h⟩⟩) fun us s1 ⟨vs,H1,I1,r,ds,M1,x1,m1,r1,h1⟩=>⟨I1.kIn,?_⟩) he hpl;exact WT F (hr hcal) hb I1 r ((rs.ext x0).ext x1) m1 r1 h1 fun d' M' v H' x=>q d' M' v H' (x0.trans (x1.trans x))
noncomputable def dApp (to te:DE):DE:=fun δ M Q=>to δ M fun o M1=>∃ a ys,o=.lst a/\M1 a=some (.ls ys)/\te δ M1 fun y M2=>∃ xs,M2 a=some (.ls xs)/\xs.length<sizeLine/\Q .non (M2.upd a (.ls (xs++[y])))
theorem HD (ho:PE X o (lift (X.L rz Xe) to)) (he:PE X e (lift (X.L rz Xe) te)) (hbase:attributeBase o "append" X.env (eval o X.env)=eval o X.env) (hs:∀ es,starEach (e::es) X.env=(false,eval e X.env)::starEach es X.env) (hline:(apos.endLine==pos.line)=true) :
  PE X (.Call (.Attribute o "append" apos) [e] [] pos) (lift (X.L rz Xe) (dApp to te)):=by
 refine (UY PySem.F.plainAttrs_list PySem.F.slot_list_append PySem.F.type_list_append VL ho (Z9 he Xu (hs _)) hbase (by rw[hs];rfl) hline (hs _) rfl).imp fun σ H Q h=>?_;obtain⟨δ,M,R,rs,rm,t,q⟩:=h;refine⟨δ,M,_,rs,rm,t,fun d M1 v H1 x1 m1 r1 hq7=>?_⟩;obtain⟨a,ys,e1,e2,h1⟩:=hq7;subst e1;cases r1;obtain⟨vs,ev,_⟩:=m1 _ _ e2;refine⟨.inl ⟨rfl,_,.of ev⟩,δ,M1,fun ds M2=>∃ y,ds=[y]/\∃ xs,M2 a=some (.ls xs)/\xs.length<sizeLine/\R .non (M2.upd a (.ls (xs++[y]))),rs.ext x1,m1,?_,fun ds M2 vs H2 x2 m2 r2 ⟨y,e3,xs,e4,hz,h2⟩=>?_⟩
 ·obtain⟨K',hK'⟩:∃ K':D->Mem->Prop,K'=fun y M2=>∃ xs,M2 a=some (.ls xs)/\xs.length<sizeLine/\R .non (M2.upd a (.ls (xs++[y]))):=⟨_,rfl⟩
  have:(fun x M2=>∃ y,[x]=[y]/\∃ xs,M2 a=some (.ls xs)/\xs.length<sizeLine/\R .non (M2.upd a (.ls (xs++[y]))))=K':=by
   rw[hK'];funext x M2;apply propext;constructor
   ·rintro⟨y,e,h⟩;cases e;exact h
   ·exact fun h=>⟨x,rfl,h⟩
  show te δ M1 fun x M2=>∃ y,[x]=[y]/\∃ xs,M2 a=some (.ls xs)/\xs.length<sizeLine/\R .non (M2.upd a (.ls (xs++[y])));rw[this,hK'];exact h1
 ·subst e3
  obtain⟨v,rfl,rv⟩:=r2.one;obtain⟨ws,ew,rw'⟩:=m2 _ _ e4;exact⟨a,ws,v,rfl,rfl,ew,by rw[rw'.length];exact hz,q _ _ _ _ ((x1.trans x2).trans (.upd (.inr ⟨_,ew,trivial⟩))) (m2.write ew (rw'.append (.cons rv .nil))) .non h2⟩
noncomputable def dExt (to te:DE):DE:=fun δ M Q=>to δ M fun o M1=>∃ a ys,o=.lst a/\M1 a=some (.ls ys)/\te δ M1 fun y M2=>∃ b xs zs,y=.lst b/\M2 a=some (.ls xs)/\M2 b=some (.ls zs)/\xs.length+zs.length<=sizeLine/\Q .non (M2.upd a (.ls (xs++zs)))
noncomputable def dIns (to ta te:DE):DE:=fun δ M Q=>to δ M fun o M1=>∃ a ys,o=.lst a/\M1 a=some (.ls ys)/\ta δ M1 fun x M2=>te δ M2 fun y M3=>∃ xs k,x=.int k/\M3 a=some (.ls xs)/\0<=k/\k<=xs.length/\xs.length<sizeLine/\Q .non (M3.upd a (.ls (IF xs k y)))
noncomputable def dIdx (to te:DE):DE:=fun δ M Q=>to δ M fun o M1=>∃ a ys,o=.lst a/\M1 a=some (.ls ys)/\te δ M1 fun y M2=>∃ xs j,M2 a=some (.ls xs)/\IxAt M2 xs y j/\Q (.int j) M2
end
inductive Bi|abs|all|divmod|isinstance|len|max|min|str|tuple|int|intS
 deriving DecidableEq
noncomputable def Vy:Bi->Str
 | .abs=>"abs" | .all=>"all" | .divmod=>"divmod" | .isinstance=>"isinstance" | .len=>"len" | .max=>"max" | .min=>"min" | .str=>"str" | .tuple=>"tuple" | .int=>"int" | .intS=>"int"
noncomputable def FM:Bi->List D->Mem->DK->Prop
 | .abs=>fAbs | .all=>fAll | .divmod=>Uv | .isinstance=>fIsi | .len=>fLen | .max=>fMax | .min=>fMin | .str=>fStr | .tuple=>Yr | .int=>fInt | .intS=>Vm
inductive Ty|int|bool|str|tuple|list|dict|valueError
 deriving DecidableEq
noncomputable def Wk:Ty->Str
 | .int=>"int" | .bool=>"bool" | .str=>"str" | .tuple=>"tuple" | .list=>"list" | .dict=>"dict" | .valueError=>"ValueError"
noncomputable def A8:Ty->String
 | .int=>"int" | .bool=>"bool" | .str=>"str" | .tuple=>"tuple" | .list=>"list" | .dict=>"dict" | .valueError=>"ValueError"
theorem DQ (t:Ty):bootBuiltins (Wk t)=some (.type (A8 t)):=by cases t<;>kernel_rfl
noncomputable def quiet:Bi->Bool
 | .isinstance=>true
 | .int=>true
 | _=>false
structure Blt (mg:Str->Option Value):Prop where
 bi:∀ b,mg (Vy b)=none
 ty:∀ t,mg (Wk t)=none
 range:mg "range"=none
 zip:mg "zip"=none
 enum:mg "enumerate"=none
section
variable {X:Cx} {rz:Bool} {Xe:DSt->DK} {e:Expr} {es:List Expr} {t:DA} {p pos:Pos}
theorem IO (b:Bi) (tab:Zj X.K=true) (hB:Blt X.mg) (hq:X.calm=true\/quiet b=true) (hg:Gl X (Vy b)) (ha:PA X (e::es) (Zm (X.L rz Xe) t)) (he:starEach (e::es) X.env=(false,eval e X.env)::starEach es X.env) (hpl:(backTo pos (starEach es X.env)).any (·.1)=false) :
  PE X (.Call (.Name (Vy b) p) (e::es) [] pos) (lift (X.L rz Xe) (dCB (FM b) t)):=by
 have hm:=hB.bi b;cases b with
 | abs=>exact (Zz HP hg hm (by kernel_rfl) ha %[|4] %[|4] he hpl).imp fun _ _ _=>ZI
 | all=>exact (Zz (HN (hq.resolve_right Bool.false_ne_true)) hg hm (by kernel_rfl) ha %[|4] %[|4] he hpl).imp fun _ _ _=>ZI
 | divmod=>exact (Zz Br hg hm (by kernel_rfl) ha %[|4] %[|4] he hpl).imp fun _ _ _=>ZI
 | isinstance=>exact (Zz (HL tab) hg hm (by kernel_rfl) ha %[|4] %[|4] he hpl).imp fun _ _ _=>ZI
 | len=>exact (Zz HK hg hm (by kernel_rfl) ha %[|4] %[|4] he hpl).imp fun _ _ _=>ZI
 | max=>exact (Zz (HJ (hq.resolve_right Bool.false_ne_true)) hg hm (by kernel_rfl) ha %[|4] %[|4] he hpl).imp fun _ _ _=>ZI
 | min=>exact (Zz (HI (hq.resolve_right Bool.false_ne_true)) hg hm (by kernel_rfl) ha %[|4] %[|4] he hpl).imp fun _ _ _=>ZI
 | str=>exact (XE HH hg hm (by kernel_rfl) ha %[|4] %[|4] he hpl).imp fun _ _ _=>ZI
 | tuple=>exact (XE Dw hg hm (by kernel_rfl) ha %[|4] %[|4] he hpl).imp fun _ _ _=>ZI
 | int=>exact (XE HM hg hm (by kernel_rfl) ha %[|4] %[|4] he hpl).imp fun _ _ _=>ZI
 | intS=>exact (XE Fp hg hm (by kernel_rfl) ha %[|4] %[|4] he hpl).imp fun _ _ _=>ZI
theorem IK (t:Ty) (hB:Blt X.mg) (hg:Gl X (Wk t)):PE X (.Name (Wk t) pos) (lift (X.L rz Xe) (dC (.ty (A8 t)))) :=
 Wz (Eo (v:=.ty (A8 t)) hg (hB.ty t) (DQ t) rfl (by cases t<;>decide) (by cases t<;>decide)) fun H=>.ty _
end
mutual
inductive CE where
 | var (i:Nat)
 | int (i:Int)|bl (b:Bool)|non|str (x:Str)
 | glo (x:Str) (d:D)|ty (t:Ty)
 | bin (op:Operator) (a b:CE)|neg (a:CE)|not (a:CE)
 | cmp (op:CmpOp) (a b:CE)|chain (op op':CmpOp) (a b c:CE)|chain3 (op op' op'':CmpOp) (a b c d:CE)
 | one (a:CE)|and (a b:CE)|or (a b:CE)
 | ife (c a b:CE)
 | tup (es:CEs)|lst (es:CEs)
 | ix (a b:CE)|sl (a:CE) (lo hi:CO)
 | call (x:Str) (S:DSp) (es:CEs)
 | callv (i:Nat) (alts:List (Str×DSp)) (es:CEs)
 | callx (a:CE) (alts:List (Str×DSp)) (es:CEs)
 | bi (b:Bi) (es:CEs)
 | app (i:Nat) (e:CE)
 | spart (i:Nat) (a:CE)
 | srem (i:Nat) (a:CE)
 | fstr (x:Str) (a b:CE)
 | ssl (a:CE) (lo hi:CO)
 | split (a b:CE)
 | join (a b:CE)
 | fstrT (x:Str) (a b:CE)
 | fstrJ (x y:Str) (a b c:CE)
 | xfl (f:Str) (a:CE)
 | comp (N':List Str) (n:Nat) (g:CG) (it:CI) (elt:CE)
inductive CEs where
 | nil|cons (e:CE) (es:CEs)
inductive CO where
 | none|some (e:CE)
inductive CG where
 | name (i:Nat)|tup (gs:CGs)|sub (a b:CE)
inductive CGs where
 | nil|cons (g:CG) (gs:CGs)
inductive CI where
 | seq (e:CE)|rng (es:CEs)|zip (es:CEs)|enum (es:CEs)|sgn (e:CE)
end
structure Rd where
 e:DE
 t:DT
noncomputable def CEs.len:CEs->Nat
 | .nil=>0
 | .cons _ es=>es.len+1
noncomputable def CGs.len:CGs->Nat
 | .nil=>0
 | .cons _ es=>es.len+1
noncomputable def plain (t:DE):Rd:=⟨t,dTru t⟩
mutual
noncomputable def rE (Xe:DSt->DK):CE->Rd
 | .var i=>plain (dVar i)
 | .int i=>⟨dC (.int i),fun _ _ _=>False⟩
 | .bl b=>⟨dC (.bl b),fun _ _ _=>False⟩
 | .non=>⟨dC .non,fun _ _ _=>False⟩
 | .str x=>⟨dC (.str x),fun _ _ _=>False⟩
 | .glo _ d=>plain (dC d)
 | .ty t=>plain (dC (.ty (A8 t)))
 | .bin op a b=>plain (d2 (bOp op) (rE Xe a).e (rE Xe b).e)
 | .neg a=>plain (dNeg (rE Xe a).e)
 | .not a=>⟨Do (rE Xe a).e,dNot (rE Xe a).t⟩
 | .cmp op a b=>⟨d2 (cOp op) (rE Xe a).e (rE Xe b).e,VW (d2 (cOp op) (rE Xe a).e (rE Xe b).e)⟩
 | .chain op op' a b c=>⟨Vs (cOp op) (cOp op') (rE Xe a).e (rE Xe b).e (rE Xe c).e,VW (Vs (cOp op) (cOp op') (rE Xe a).e (rE Xe b).e (rE Xe c).e)⟩
 | .chain3 op op' op'' a b c d=>⟨XN (cOp op) (cOp op') (cOp op'') (rE Xe a).e (rE Xe b).e (rE Xe c).e (rE Xe d).e,VW (XN (cOp op) (cOp op') (cOp op'') (rE Xe a).e (rE Xe b).e (rE Xe c).e (rE Xe d).e)⟩
 | .one a=>rE Xe a
 | .and a b=>⟨Dq (rE Xe a).e (rE Xe b).e,dAnd (rE Xe a).t (rE Xe b).t⟩
 | .or a b=>⟨dOrV (rE Xe a).e (rE Xe b).e,dOr (rE Xe a).t (rE Xe b).t⟩
 | .ife c a b=>⟨dIfE (rE Xe c).t (rE Xe a).e (rE Xe b).e,fun _ _ _=>False⟩
 | .tup es=>plain (dTup (rEs Xe es))
 | .lst es=>plain (dLst (rEs Xe es))
 | .ix a b=>plain (d2 iOp (rE Xe a).e (rE Xe b).e)
 | .sl a lo hi=>plain (dSl (rE Xe a).e (rO Xe lo) (rO Xe hi))
 | .spart i a=>plain (UA (dVar i) (YS (rE Xe a).e dNil))
 | .srem i a=>plain (Dm (dVar i) (YS (rE Xe a).e dNil))
 | .fstr x a b=>plain (Dp x (rE Xe a).e (rE Xe b).e)
 | .split a b=>plain (Zo (rE Xe a).e (YS (rE Xe b).e dNil))
 | .fstrT x a b=>plain (JZ x (rE Xe a).e (rE Xe b).e)
 | .fstrJ x y a b c=>plain (A0 x y (rE Xe a).e (rE Xe b).e (rE Xe c).e)
 | .join a b=>plain (WL (rE Xe a).e (YS (rE Xe b).e dNil))
 | .ssl a lo hi=>plain (dSsl (rE Xe a).e (rO Xe lo) (rO Xe hi))
 | .xfl f a=>plain (dXfl f (rE Xe a).e)
 | .call _ S es=>plain (XR S Xe (rEs Xe es))
 | .callv i alts es=>plain (Y4 alts i Xe (rEs Xe es))
 | .callx a alts es=>plain (Vt alts (rE Xe a).e Xe (rEs Xe es))
 | .bi b es=>plain (dCB (FM b) (rEs Xe es))
 | .app i e=>plain (dApp (dVar i) (rE Xe e).e)
 | .comp _ n g it elt=>plain (YX n (rI Xe it) (rG X0 g) (rE X0 elt).e)
noncomputable def rEs (Xe:DSt->DK):CEs->DA
 | .nil=>dNil
 | .cons e es=>YS (rE Xe e).e (rEs Xe es)
noncomputable def rO (Xe:DSt->DK):CO->DO
 | .none=>Ax
 | .some e=>Jh (rE Xe e).e
noncomputable def rG (Xe:DSt->DK):CG->DG
 | .name i=>Xi i
 | .tup gs=>YQ gs.len (rGs Xe gs)
 | .sub a b=>FH (rE Xe a).e (rE Xe b).e
noncomputable def rGs (Xe:DSt->DK):CGs->DGs
 | .nil=>FI
 | .cons g gs=>CY (rG Xe g) (rGs Xe gs)
noncomputable def rI (Xe:DSt->DK):CI->DI
 | .seq e=>Ya (rE Xe e).e
 | .rng es=>ZH (rEs Xe es)
 | .zip es=>Yj (rEs Xe es)
 | .enum es=>Vp (rEs Xe es)
 | .sgn e=>FJ (rE Xe e).e
end
structure Ck where
 N:List Str
 sc:Scope
 top:Bool
 cal:Bool
noncomputable def Ck.kind (k:Ck) (x:Str):Option NameKind:=k.sc.names.lookup x
noncomputable def Ck.gl (k:Ck) (x:Str):Bool:=decide (k.kind x=some .globalImplicit)
noncomputable def Ck.vis (k:Ck) (x:Str):Bool:=decide (k.kind x=some .local) || decide (k.kind x=some .cell) || decide (k.kind x=some .free)
noncomputable def Ck.loc (k:Ck) (x:Str):Bool:=decide (k.kind x=some .local) || (k.top&&decide (k.kind x=some .cell))
noncomputable def Z2 (x:Str):Bool:=!(x==("__debug__":Str))&&!(x==("__classdict__":Str))
noncomputable def Ck.slot (k:Ck) (i:Nat) (x:Str):Bool:=decide (k.N[i]?=some x)&&k.vis x&&Z2 x
noncomputable def blkB (k:Ck) (N':List Str) (sc:Scope):Bool :=
 decide (sc.kind=.function)&&sc.names.all (fun y=>!decide (y.2=.cell))&&sc.names.all (fun y=>!decide (y.2=.local) || decide (sc.names.lookup y.1=some .local))
 && sc.names.all (fun y=>!decide (y.2=.free) || decide (k.kind y.1=some .cell) || decide (k.kind y.1=some .free))
 && (List.range k.N.length).all (fun i=>match N'[i]? with
   | some x=>match sc.names.lookup x with
    | some .free=>decide (k.N[i]?=some x)
    | some .local=>false
    | some .cell=>false
    | _=>true
   | none=>true)&&decide (k.N.length<=N'.length)&&decide N'.Nodup
mutual
noncomputable def isE (k:Ck):CE->Expr->Bool
 | .var i,e=>Yw e fun x p=>k.slot i x
 | .int i,e=>Yy e fun c q p=>qInt c fun j=>decide (i=j)
 | .bl b,e=>Yy e fun c q p=>FB c fun j=>decide (b=j)
 | .non,e=>Yy e fun c q p=>JE c (true)
 | .str x,e=>Yy e fun c q p=>qStr c fun j=>decide (x=j)
 | .glo x _,e=>Yw e fun y p=>decide (x=y)&&k.gl x&&Z2 x
 | .ty t,e=>Yw e fun y p=>decide (Wk t=y)&&k.gl y
 | .bin op a b,e=>BS e fun x op' y p=>decide (op=op')&&isE k a x&&isE k b y
 | .neg a,e=>Va e fun o x p=>Fz o (isE k a x)
 | .not a,e=>Va e fun o x p=>qNot o (isE k a x)
 | .cmp op a b,e=>W4 e fun x os ys p=>Y8 os fun o os=>qNil os (Y8 ys fun y ys=>qNil ys (decide (op=o)&&isE k a x&&isE k b y))
 | .chain op op' a b c,e=>W4 e fun x os ys p=>Y8 os fun o os=>Y8 os fun o' os=>qNil os (Y8 ys fun y ys=>Y8 ys fun z ys=>qNil ys (decide (op=o)&&decide (op'=o')&&isE k a x&&isE k b y&&isE k c z))
 | .chain3 op op' op'' a b c d,e=>W4 e fun x os ys p=>Y8 os fun o os=>Y8 os fun o' os=>Y8 os fun o'' os=>qNil os (Y8 ys fun y ys=>Y8 ys fun z ys=>Y8 ys fun w ys=>qNil ys (decide (op=o)&&decide (op'=o')&&decide (op''=o'')&&isE k a x&&isE k b y&&isE k c z&&isE k d w))
 | .one a,e=>WU e fun op xs pos=>Y8 xs fun x xs=>qNil xs (isE k a x)
 | .and a b,e=>WU e fun op xs pos=>qAnd op (Y8 xs fun x xs=>Y8 xs fun y r=>isE k a x&&isE k b (.BoolOp .And (y::r) pos))
 | .or a b,e=>WU e fun op xs pos=>qOr op (Y8 xs fun x xs=>Y8 xs fun y r=>isE k a x&&isE k b (.BoolOp .Or (y::r) pos))
 | .ife c a b,e=>BQ e fun x y z p=>isE k c x&&isE k a y&&isE k b z
 | .tup es,e=>Zx e fun xs q p=>isEs k es xs
 | .lst es,e=>FA e fun xs p=>isEs k es xs
 | .ix a b,e=>Ze e fun x y p=>isE k a x&&isE k b y
 | .sl a lo hi,e=>Ze e fun x y p=>JC y fun l u s q=>Xj s (isE k a x&&isO k lo l&&isO k hi u)
 | .spart i a,e=>Zp e fun t1 t3 t5 pos=>YJ t1 fun t2 m ap=>Yw t2 fun x p=>Y8 t3 fun y t4=>qNil t4 (qNil t5 (decide (m="partition")&&k.slot i x&&isE k a y&&(ap.endLine==pos.line)))
 | .srem i a,e=>Zp e fun t1 t3 t5 pos=>YJ t1 fun t2 m ap=>Yw t2 fun x p=>Y8 t3 fun y t4=>qNil t4 (qNil t5 (decide (m="removeprefix")&&k.slot i x&&isE k a y&&(ap.endLine==pos.line)))
 | .fstr x a b,e=>X9 e fun t0 _=>Y8 t0 fun v1 t1=>Y8 t1 fun v2 t2=>Y8 t2 fun v3 t3=>qNil t3 ((Yo v1 fun u c1 fs _=>Xj fs (decide (c1=-1)&&isE k a u))&&(Yy v2 fun cc _ _=>qStr cc fun z=>decide (x=z))&&(Yo v3 fun u c1 fs _=>Xj fs (decide (c1=-1)&&isE k b u)))
 | .fstrT x a b,e=>X9 e fun t0 _=>Y8 t0 fun v1 t1=>Y8 t1 fun v2 t2=>Y8 t2 fun v3 t3=>qNil t3 ((Yo v1 fun u c1 fs _=>Xj fs (decide (c1=-1)&&isE k a u))&&(Yy v2 fun cc _ _=>qStr cc fun z=>decide (x=z))&&(Yo v3 fun u c1 fs _=>Xj fs (decide (c1=-1)&&isE k b u)))
 | .fstrJ x y a b c,e=>X9 e fun t0 _=>Y8 t0 fun v1 t1=>Y8 t1 fun v2 t2=>Y8 t2 fun v3 t3=>Y8 t3 fun v4 t4=>Y8 t4 fun v5 t5=>qNil t5 ((Yo v1 fun u c1 fs _=>Xj fs (decide (c1=-1)&&isE k a u))&&(Yy v2 fun cc _ _=>qStr cc fun z=>decide (x=z))&&(Yo v3 fun u c1 fs _=>Xj fs (decide (c1=-1)&&isE k b u))&&(Yy v4 fun cc _ _=>qStr cc fun z=>decide (y=z))&&(Yo v5 fun u c1 fs _=>Xj fs (decide (c1=-1)&&isE k c u)))
 | .split a b,e=>Zp e fun t1 t3 t5 pos=>YJ t1 fun t2 m ap=>Yw t2 fun x xp=>Y8 t3 fun y t4=>qNil t4 (qNil t5 (decide (m="split")&&isE k a (.Name x xp)&&isE k b y&&(ap.endLine==pos.line)))
 | .join a b,e=>Zp e fun t1 t4 t6 pos=>YJ t1 fun t2 m ap=>Yy t2 fun t3 cn xp=>qStr t3 fun x=>Y8 t4 fun y t5=>qNil t5 (qNil t6 (decide (m="join")&&isE k a (.Constant (.str x) cn xp)&&isE k b y&&(ap.endLine==pos.line)))
 | .ssl a lo hi,e=>Ze e fun x t1 pos=>JC t1 fun l u t2 p2=>Xj t2 (isE k a x&&isO k lo l&&isO k hi u)
 | .xfl f a,e=>YJ e fun o g p=>Yw o fun x q=>decide (f=g)&&isE k a (.Name x q)
 | .callv i _ es,e=>Zp e fun f xs kw pos=>Yw f fun y p=>qNil kw (Y8 xs fun a r=>k.slot i y&&isEs k es (a::r)&&k.cal)
 | .callx a _ es,e=>Zp e fun t1 t2 t3 pos=>Ze t1 fun f1 f2 p=>Y8 t2 fun x xs=>qNil t3 (isE k a (.Subscript f1 f2 p)&&isEs k es (x::xs)&&k.cal)
 | .call x _ es,e=>Zp e fun f xs kw pos=>Yw f fun y p=>qNil kw (decide (x=y)&&k.gl x&&Z2 x&&isEs k es xs&&k.cal)
 | .bi b es,e=>Zp e fun f xs kw pos=>Yw f fun y p=>Y8 xs fun a r=>qNil kw (decide (Vy b=y)&&k.gl y&&isEs k es (a::r)&&(k.cal || quiet b))
 | .app i a,e=>Zp e fun f xs kw pos=>YJ f fun o m ap=>Yw o fun x p=>Y8 xs fun y r=>qNil r (qNil kw (decide (m="append")&&k.slot i x&&isE k a y&&(ap.endLine==pos.line)))
 | .comp N' n g it elt,e=>VH e fun y gs sc p=>Y8 gs fun q gs=>qMk q fun tg iter ifs z=>qNil ifs (qNil gs (decide (z=0)&&blkB k N' sc&&decide (n=N'.length-k.N.length)&&isG ⟨N',sc,false,k.cal⟩ g tg&&isI k tg it iter&&isE ⟨N',sc,false,k.cal⟩ elt y&&k.cal))
noncomputable def isEs (k:Ck):CEs->List Expr->Bool
 | .nil,xs=>match xs with | []=>true|_=>false
 | .cons e es,xs=>match xs with|x::r=>isE k e x&&isEs k es r|_=>false
noncomputable def isO (k:Ck):CO->Option Expr->Bool
 | .none,x=>match x with|none=>true|_=>false
 | .some e,x=>match x with|some y=>isE k e y|_=>false
noncomputable def isG (k:Ck):CG->Expr->Bool
 | .name i,e=>Yw e fun x p=>decide (k.N[i]?=some x)&&k.loc x
 | .tup gs,e=>Zx e fun xs q p=>isGs k gs xs&&k.cal
 | .sub a b,e=>Ze e fun x y p=>isE k a x&&isE k b y
noncomputable def isGs (k:Ck):CGs->List Expr->Bool
 | .nil,xs=>match xs with | []=>true|_=>false
 | .cons e es,xs=>match xs with|x::r=>isG k e x&&isGs k es r|_=>false
noncomputable def isI (k:Ck) (tg:Expr):CI->Expr->Bool
 | .seq e,x=>isE k e x
 | .rng es,x=>Zp x fun f xs kw pos=>Yw f fun y p=>Y8 xs fun a r=>qNil kw (decide (y="range")&&k.gl y&&isEs k es (a::r))
 | .zip es,x=>Zx tg fun te tx tp=>Zp x fun f xs kw pos=>Yw f fun y p=>Y8 xs fun a r=>qNil kw (decide (y="zip")&&k.gl y&&isEs k es (a::r))
 | .enum es,x=>Zx tg fun te tx tp=>Zp x fun f xs kw pos=>Yw f fun y p=>Y8 xs fun a r=>qNil kw (decide (y="enumerate")&&k.gl y&&isEs k es (a::r))
 | .sgn e,x=>isE k e x
end
noncomputable def Wr (P:Str->Str->DSp->Prop) (G:Str->D->Prop):List (Str×DSp)->Prop
 | []=>True
 | a::r=>P "" a.1 a.2/\G a.1 (.fn a.1)/\Wr P G r
theorem XW:∀ {l:List (Str×DSp)},Wr P G l->(n,S)∈l->P "" n S/\G n (.fn n)
 | [],_,h=>nomatch h
 | a::r,o,h=>by
  rcases List.mem_cons.mp h with e|h
  ·subst e;exact⟨o.1,o.2.1⟩
  ·exact XW o.2.2 h
theorem Xn (p:∀ c x S,P c x S->P' c x S) (g:∀ x d,G x d->G' x d):∀ {l:List (Str×DSp)},Wr P G l->Wr P' G' l
 | [],_=>trivial
 | a::r,o=>⟨p _ _ _ o.1,g _ _ o.2.1,Xn p g o.2.2⟩
mutual
noncomputable def onE (P:Str->Str->DSp->Prop) (G:Str->D->Prop):CE->Prop
 | .var _ | .int _ | .bl _ | .non | .str _ | .ty _=>True
 | .glo x d=>G x d
 | .bin _ a b | .cmp _ a b | .and a b | .or a b | .ix a b=>onE P G a/\onE P G b
 | .neg a | .not a | .one a=>onE P G a
 | .chain _ _ a b c | .ife a b c=>onE P G a/\onE P G b/\onE P G c
 | .chain3 _ _ _ a b c d=>onE P G a/\onE P G b/\onE P G c/\onE P G d
 | .tup es | .lst es | .bi _ es=>onEs P G es
 | .sl a lo hi=>onE P G a/\onO P G lo/\onO P G hi
 | .spart _ a | .srem _ a=>onE P G a
 | .fstr _ a b=>onE P G a/\onE P G b
 | .fstrT _ a b=>onE P G a/\onE P G b
 | .fstrJ _ _ a b c=>onE P G a/\onE P G b/\onE P G c
 | .split a b | .join a b=>onE P G a/\onE P G b
 | .ssl a lo hi=>onE P G a/\onO P G lo/\onO P G hi
 | .call x S es=>P "" x S/\onEs P G es
 | .callv _ alts es=>Wr P G alts/\onEs P G es
 | .callx a alts es=>Wr P G alts/\onE P G a/\onEs P G es
 | .xfl _ a=>onE P G a
 | .app _ e=>onE P G e
 | .comp _ _ g it elt=>onG P G g/\onI P G it/\onE P G elt
noncomputable def onEs (P:Str->Str->DSp->Prop) (G:Str->D->Prop):CEs->Prop
 | .nil=>True
 | .cons e es=>onE P G e/\onEs P G es
noncomputable def onO (P:Str->Str->DSp->Prop) (G:Str->D->Prop):CO->Prop
 | .none=>True
 | .some e=>onE P G e
noncomputable def onG (P:Str->Str->DSp->Prop) (G:Str->D->Prop):CG->Prop
 | .name _=>True
 | .tup gs=>onGs P G gs
 | .sub a b=>onE P G a/\onE P G b
noncomputable def onGs (P:Str->Str->DSp->Prop) (G:Str->D->Prop):CGs->Prop
 | .nil=>True
 | .cons g gs=>onG P G g/\onGs P G gs
noncomputable def onI (P:Str->Str->DSp->Prop) (G:Str->D->Prop):CI->Prop
 | .seq e=>onE P G e
 | .rng es=>onEs P G es
 | .zip es=>onEs P G es
 | .enum es=>onEs P G es
 | .sgn e=>onE P G e
end
end DL
end
noncomputable section
namespace DL
open PySem PySem.Spec PyProof.Rows L2
structure CtxOk (X:Cx) (k:Ck):Prop where
 N:X.N=k.N
 nd:k.N.Nodup
 sc:∀ x κ,k.kind x=some κ->κ≠.free->X.env.kindOf x=some κ
 fr:∀ x,k.kind x=some .free->X.env.kindOf x=some .cell\/X.env.kindOf x=some .free
 fn:k.top=true->∀ x,X.fn x=true
 calm:k.cal=true->X.calm=true
 room:k.cal=true->Room 0 X.A
 hu:X.A.units+66<cLine
 blt:Blt X.mg
 po:PassesOwn (model X.prog X.w) X.A X.env X.xe
 tab:Zj X.K=true
 st:k.top=true->X.stack=X.env::X.outer/\X.env.frame=some X.env.locals
structure Sh (e:Expr):Prop where
 star:∀ env es,starEach (e::es) env=(false,eval e env)::starEach es env
 ix:UI e
 mark:∀ op,behindInMarks op e=false
 set:∀ env x,foldedSetIterable e env x=pure x
 sub:∀ o pos env v,assign (.Subscript o e pos) env v=(do
   let ov <- holding [v] (eval o env)
   let iv <- holding [v,ov] (eval e env)
   standAt pos
   holding [v,ov,iv] (setItem ov iv v)
   release [v,ov,iv] [])
structure SdE (X:Cx) (rz:Bool) (Xe:DSt->DK) (c:CE) (e:Expr):Prop where
 pe:PE X e (lift (X.L rz Xe) (rE Xe c).e)
 pt:PT X e (Za (X.L rz Xe) (rE Xe c).t)
 pw:∀ op vs pos,e=.BoolOp op vs pos->PW X e (Za (X.L rz Xe) (rE Xe c).t)
 sh:Sh e
structure SdEs (X:Cx) (rz:Bool) (Xe:DSt->DK) (c:CEs) (es:List Expr):Prop where
 pa:PA X es (Zm (X.L rz Xe) (rEs Xe c))
 pl:∀ pos env,(backTo pos (starEach es env)).any (·.1)=false
 hd:∀ e r,es=e::r->Sh e/\∀ pos env,(backTo pos (starEach r env)).any (·.1)=false
structure SdG (X:Cx) (rz:Bool) (Xe:DSt->DK) (c:CG) (e:Expr):Prop where
 pg:PG X e (ZD (X.L rz Xe) (rG Xe c))
 as:∀ env es,assignEach (e::es) env=(false,assign e env)::assignEach es env
structure SdGs (X:Cx) (rz:Bool) (Xe:DSt->DK) (c:CGs) (es:List Expr):Prop where
 pg:PGs X es (Ve (X.L rz Xe) (rGs Xe c))
 len:∀ env,(assignEach es env).length=c.len
 st:∀ env,(assignEach es env).findIdx? (·.1)=none
structure SdI (X:Cx) (rz:Bool) (Xe:DSt->DK) (tg:Expr) (c:CI) (e:Expr):Prop where
 pi:PI X tg e (ZP (X.L rz Xe) (rI Xe c))
 set:∀ env x,foldedSetIterable e env x=pure x
section
variable {X:Cx} {rz:Bool} {Xe:DSt->DK} {k:Ck}
theorem CtxOk.vis (C:CtxOk X k) (h:k.vis x=true):Vis X.env.scope x:=by
 unfold Ck.vis at h;simp only[Bool.or_eq_true,decide_eq_true_eq] at h;rcases h with (h|h)|h
 ·exact .inl (C.sc x _ h %[|4])
 ·exact .inr (.inl (C.sc x _ h %[|4]))
 ·exact .inr (C.fr x h)
theorem CtxOk.gl (C:CtxOk X k) (h:k.gl x=true):Gl X x:=by
 unfold Ck.gl at h;exact C.sc x _ (of_decide_eq_true h) %[|4]
theorem CtxOk.loc (C:CtxOk X k) (h:k.loc x=true):Loc X.env.scope x/\(X.fn x=true\/X.env.scope.names.lookup x=some .local):=by
 unfold Ck.loc at h;simp only[Bool.or_eq_true,Bool.and_eq_true,decide_eq_true_eq] at h;rcases h with h|⟨h1,h⟩
 ·have:=C.sc x _ h %[|4];exact⟨.inl this,.inr this⟩
 ·exact⟨.inr (C.sc x _ h %[|4]),.inl (C.fn h1 x)⟩
theorem CtxOk.var (C:CtxOk X k) (h:k.slot i x=true):PE X (.Name x pos) (lift (X.L rz Xe) (dVar i)):=by
 unfold Ck.slot Z2 at h;simp only[Bool.and_eq_true,decide_eq_true_eq,Bool.not_eq_true'] at h;exact Hu (XU (by rw[C.N];exact h.1.1) (C.vis h.1.2) h.2.1 h.2.2)
theorem CtxOk.tvar (C:CtxOk X k) (h:k.slot i x=true):PE X (.Name x pos) (tVar i):=by
 unfold Ck.slot Z2 at h;simp only[Bool.and_eq_true,decide_eq_true_eq,Bool.not_eq_true'] at h;exact XU (by rw[C.N];exact h.1.1) (C.vis h.1.2) h.2.1 h.2.2
theorem CtxOk.qt (C:CtxOk X k) (h:(k.cal || b)=true):X.calm=true\/b=true:=by
 cases hk:k.cal with
 | true=>exact .inl (C.calm hk)
 | false=>rw [hk] at h;exact .inr h
theorem ZO {env:Env}:∀ {names:List (Str×NameKind)} {x:Str} {κ:NameKind},names.lookup x=some κ->κ≠.free ->
  (names.map fun (n,k)=>if (k==NameKind.free&&env.scope.kind==.function&&env.kindOf n==some .cell) then (n,NameKind.cell) else (n,k)).lookup x=some κ
 | [],_,_,h,_=>by simp at h
 | (n,k)::r,x,κ,h,hne=>by
  have ih:=@ZO env r x κ;simp only[List.map_cons];rw[List.lookup_cons] at h;by_cases hc:(k==NameKind.free&&env.scope.kind==.function&&env.kindOf n==some .cell)=true
  ·rw[if_pos hc,List.lookup_cons]
   cases hx:x==n with
   | true =>
    simp only[hx] at h;cases h;simp only[Bool.and_eq_true,beq_iff_eq] at hc;exact absurd hc.1.1 hne
   | false=>simp only[hx] at h;exact ih h hne
  ·rw[if_neg hc,List.lookup_cons]
   cases hx:x==n with
   | true=>simp only[hx] at h;cases h;rfl
   | false=>simp only[hx] at h;exact ih h hne
theorem Zq {env:Env}:∀ {names:List (Str×NameKind)} {x:Str},names.lookup x=some .free ->
  (names.map fun (n,k)=>if (k==NameKind.free&&env.scope.kind==.function&&env.kindOf n==some .cell) then (n,NameKind.cell) else (n,k)).lookup x=some .cell \/
  (names.map fun (n,k)=>if (k==NameKind.free&&env.scope.kind==.function&&env.kindOf n==some .cell) then (n,NameKind.cell) else (n,k)).lookup x=some .free
 | [],_,h=>by simp at h
 | (n,k)::r,x,h=>by
  have ih:=@Zq env r x;simp only[List.map_cons];rw[List.lookup_cons] at h;by_cases hc:(k==NameKind.free&&env.scope.kind==.function&&env.kindOf n==some .cell)=true
  ·rw[if_pos hc,List.lookup_cons]
   cases hx:x==n with
   | true=>exact .inl rfl
   | false=>simp only[hx] at h;exact ih h
  ·rw[if_neg hc,List.lookup_cons]
   cases hx:x==n with
   | true=>simp only[hx] at h;cases h;exact .inr rfl
   | false=>simp only[hx] at h;exact ih h
theorem UG (C:CtxOk X k) (h:blkB k N' sc=true):BlkOk X.N X.env N' sc/\N'.Nodup:=by
 unfold blkB at h;simp only[Bool.and_eq_true,decide_eq_true_eq,List.all_eq_true,Bool.or_eq_true,Bool.not_eq_true',decide_eq_false_iff_not] at h;obtain⟨⟨⟨⟨⟨⟨h1,h2⟩,h3⟩,h4⟩,h5⟩,h6⟩,h7⟩:=h;refine⟨⟨h1,fun y hy=>h2 y hy,fun y hy e=>(h3 y hy).resolve_left fun z=>z e,fun y hy e=>?_,fun i x hi hx κ hκ=>?_,by rw[C.N];exact h6⟩,h7⟩
 ·rcases h4 y hy with (z|z)|z
  ·exact absurd e z
  ·exact .inl (C.sc _ _ z %[|4])
  ·exact C.fr _ z
 ·have q:=h5 i (List.mem_range.mpr (by rw[<- C.N];exact hi))
  rw[hx] at q;simp only[hκ] at q;cases κ with
  | «local»=>simp at q
  | cell=>simp at q
  | free=>exact .inr (.inr ⟨rfl,by rw[C.N];exact of_decide_eq_true q⟩)
  | globalExplicit=>exact .inr (.inl rfl)
  | globalImplicit=>exact .inl rfl
theorem CtxOk.blk (C:CtxOk X k) {N':List Str} {sc:Scope} (h:blkB k N' sc=true) (cl:List (Str×Addr)) (Cn:Addr) (s:Shared) (H:Hp) (ex:List Addr):CtxOk (YE X N' sc cl Cn s H ex []) ⟨N',sc,false,k.cal⟩ :=
 ⟨rfl,(UG C h).2,fun x κ e hne=>ZO (env:=X.env) e hne,fun x e=>Zq (env:=X.env) e,fun z=>(by cases z),C.calm,C.room,C.hu,C.blt,PassesOwn.never,C.tab,fun z=>(by cases z)⟩
end
theorem Up:∀ op vs pos,(Expr.Attribute a0 a1 a2)≠.BoolOp op vs pos:=fun _ _ _ z=>nomatch z
theorem Um {X:Cx} {a0:Expr} {a1:Str} {a2:Pos}:∀ whole,isTrue (Expr.Attribute a0 a1 a2) X.env whole=(do let v <- whole;standAt (Expr.pos (Expr.Attribute a0 a1 a2));holding [v] (truthy v)):=fun _=>rfl
theorem Uf:Sh (Expr.Attribute a0 a1 a2):=%[|1]
theorem Cv:∀ op vs pos,(Expr.BinOp a0 a1 a2 a3)≠.BoolOp op vs pos:=fun _ _ _ z=>nomatch z
theorem Cs {X:Cx} {a0:Expr} {a1:Operator} {a2:Expr} {a3:Pos}:∀ whole,isTrue (Expr.BinOp a0 a1 a2 a3) X.env whole=(do let v <- whole;standAt (Expr.pos (Expr.BinOp a0 a1 a2 a3));holding [v] (truthy v)):=fun _=>rfl
theorem BM:Sh (Expr.BinOp a0 a1 a2 a3):=%[|1]
theorem Wn:Sh (Expr.BoolOp a0 a1 a2):=%[|1]
theorem Zt:∀ op vs pos,(Expr.Call a0 a1 a2 a3)≠.BoolOp op vs pos:=fun _ _ _ z=>nomatch z
theorem Zs {X:Cx} {a0:Expr} {a1:List Expr} {a2:List Keyword} {a3:Pos}:∀ whole,isTrue (Expr.Call a0 a1 a2 a3) X.env whole=(do let v <- whole;standAt (Expr.pos (Expr.Call a0 a1 a2 a3));holding [v] (truthy v)):=fun _=>rfl
theorem Zr:Sh (Expr.Call a0 a1 a2 a3):=%[|1]
theorem XT:Sh (Expr.Compare a0 a1 a2 a3):=%[|1]
theorem ZM:∀ op vs pos,(Expr.Constant a0 a1 a2)≠.BoolOp op vs pos:=fun _ _ _ z=>nomatch z
theorem ZL:Sh (Expr.Constant a0 a1 a2):=%[|1]
theorem Cu:∀ op vs pos,(Expr.IfExp a0 a1 a2 a3)≠.BoolOp op vs pos:=fun _ _ _ z=>nomatch z
theorem BL:Sh (Expr.IfExp a0 a1 a2 a3):=%[|1]
theorem Xf:∀ op vs pos,(Expr.JoinedStr a0 a1)≠.BoolOp op vs pos:=fun _ _ _ z=>nomatch z
theorem Xc {X:Cx} {a0:List Expr} {a1:Pos}:∀ whole,isTrue (Expr.JoinedStr a0 a1) X.env whole=(do let v <- whole;standAt (Expr.pos (Expr.JoinedStr a0 a1));holding [v] (truthy v)):=fun _=>rfl
theorem X7:Sh (Expr.JoinedStr a0 a1):=%[|1]
theorem EB:∀ op vs pos,(Expr.List a0 a1)≠.BoolOp op vs pos:=fun _ _ _ z=>nomatch z
theorem EA {X:Cx} {a0:List Expr} {a1:Pos}:∀ whole,isTrue (Expr.List a0 a1) X.env whole=(do let v <- whole;standAt (Expr.pos (Expr.List a0 a1));holding [v] (truthy v)):=fun _=>rfl
theorem DX:Sh (Expr.List a0 a1):=%[|1]
theorem J4:∀ op vs pos,(Expr.ListComp a0 a1 a2 a3)≠.BoolOp op vs pos:=fun _ _ _ z=>nomatch z
theorem J3 {X:Cx} {a0:Expr} {a1:List Comprehension} {a2:Scope} {a3:Pos}:∀ whole,isTrue (Expr.ListComp a0 a1 a2 a3) X.env whole=(do let v <- whole;standAt (Expr.pos (Expr.ListComp a0 a1 a2 a3));holding [v] (truthy v)):=fun _=>rfl
theorem UQ:Sh (Expr.ListComp a0 a1 a2 a3):=%[|1]
theorem Uo:∀ op vs pos,(Expr.Name a0 a1)≠.BoolOp op vs pos:=fun _ _ _ z=>nomatch z
theorem Ul {X:Cx} {a0:Str} {a1:Pos}:∀ whole,isTrue (Expr.Name a0 a1) X.env whole=(do let v <- whole;standAt (Expr.pos (Expr.Name a0 a1));holding [v] (truthy v)):=fun _=>rfl
theorem Ue:Sh (Expr.Name a0 a1):=%[|1]
theorem Xd:∀ op vs pos,(Expr.Subscript a0 a1 a2)≠.BoolOp op vs pos:=fun _ _ _ z=>nomatch z
theorem Xb {X:Cx} {a0:Expr} {a1:Expr} {a2:Pos}:∀ whole,isTrue (Expr.Subscript a0 a1 a2) X.env whole=(do let v <- whole;standAt (Expr.pos (Expr.Subscript a0 a1 a2));holding [v] (truthy v)):=fun _=>rfl
theorem X6:Sh (Expr.Subscript a0 a1 a2):=%[|1]
theorem Ct:∀ op vs pos,(Expr.Tuple a0 a1 a2)≠.BoolOp op vs pos:=fun _ _ _ z=>nomatch z
theorem Cr {X:Cx} {a0:List Expr} {a1:Nat} {a2:Pos}:∀ whole,isTrue (Expr.Tuple a0 a1 a2) X.env whole=(do let v <- whole;standAt (Expr.pos (Expr.Tuple a0 a1 a2));holding [v] (truthy v)):=fun _=>rfl
theorem BK:Sh (Expr.Tuple a0 a1 a2):=%[|1]
theorem JM:∀ op vs pos,(Expr.UnaryOp a0 a1 a2)≠.BoolOp op vs pos:=fun _ _ _ z=>nomatch z
theorem JL {X:Cx} {a1:Expr} {a2:Pos}:∀ whole,isTrue (.UnaryOp .USub a1 a2) X.env whole=(do let v <- whole;standAt (Expr.pos (.UnaryOp .USub a1 a2));holding [v] (truthy v)):=fun _=>rfl
theorem V9:Sh (Expr.UnaryOp a0 a1 a2):=%[|1]
theorem Yf (hr:rE Xe c=plain t) (h:PE X e (lift (X.L rz Xe) t)) (hb:∀ op vs pos,e≠.BoolOp op vs pos) (he:∀ whole,isTrue e X.env whole=(do let v <- whole;standAt e.pos;holding [v] (truthy v))) (sh:Sh e):SdE X rz Xe c e :=
 ⟨by rw[hr];exact h,by rw[hr];exact GX h he,fun op vs pos z=>absurd z (hb op vs pos),sh⟩
theorem Xv (hr:rE Xe c=⟨t,fun _ _ _=>False⟩) (h:PE X e (lift (X.L rz Xe) t)) (hb:∀ op vs pos,e≠.BoolOp op vs pos) (sh:Sh e):SdE X rz Xe c e :=
 ⟨by rw[hr];exact h,by rw[hr];exact fun pins s σ H Q I h=>by obtain⟨_,_,_,_,_,t,_⟩:=h;exact t.elim,fun op vs pos z=>absurd z (hb op vs pos),sh⟩
mutual
theorem Y3:∀ (c:CE),(∀ c x S,P c x S->P' c x S)->(∀ x d,G x d->G' x d)->onE P G c->onE P' G' c
 | .var _,_,_,_ | .int _,_,_,_ | .bl _,_,_,_ | .non,_,_,_ | .str _,_,_,_ | .ty _,_,_,_=>True.intro
 | .glo x d,p,g,h=>g x d h
 | .bin _ a b,p,g,h | .cmp _ a b,p,g,h | .and a b,p,g,h | .or a b,p,g,h | .ix a b,p,g,h=>⟨Y3 a p g h.1,Y3 b p g h.2⟩
 | .neg a,p,g,h | .not a,p,g,h | .one a,p,g,h=>Y3 a p g h
 | .chain _ _ a b c,p,g,h | .ife a b c,p,g,h=>⟨Y3 a p g h.1,Y3 b p g h.2.1,Y3 c p g h.2.2⟩
 | .chain3 _ _ _ a b c d,p,g,h=>⟨Y3 a p g h.1,Y3 b p g h.2.1,Y3 c p g h.2.2.1,Y3 d p g h.2.2.2⟩
 | .tup es,p,g,h | .lst es,p,g,h | .bi _ es,p,g,h=>YW es p g h
 | .sl a lo hi,p,g,h=>⟨Y3 a p g h.1,W7 lo p g h.2.1,W7 hi p g h.2.2⟩
 | .spart _ a,p,g,h | .srem _ a,p,g,h=>Y3 a p g h
 | .fstr _ a b,p,g,h=>⟨Y3 a p g h.1,Y3 b p g h.2⟩
 | .fstrT _ a b,p,g,h=>⟨Y3 a p g h.1,Y3 b p g h.2⟩
 | .fstrJ _ _ a b c,p,g,h=>⟨Y3 a p g h.1,Y3 b p g h.2.1,Y3 c p g h.2.2⟩
 | .split a b,p,g,h | .join a b,p,g,h=>⟨Y3 a p g h.1,Y3 b p g h.2⟩
 | .ssl a lo hi,p,g,h=>⟨Y3 a p g h.1,W7 lo p g h.2.1,W7 hi p g h.2.2⟩
 | .call x S es,p,g,h=>⟨p "" x S h.1,YW es p g h.2⟩
 | .callv _ _ es,p,g,h=>⟨Xn p g h.1,YW es p g h.2⟩
 | .callx a _ es,p,g,h=>⟨Xn p g h.1,Y3 a p g h.2.1,YW es p g h.2.2⟩
 | .xfl _ a,p,g,h=>Y3 a p g h
 | .app _ e,p,g,h=>Y3 e p g h
 | .comp _ _ t it elt,p,g,h=>⟨ZZ t p g h.1,J0 it p g h.2.1,Y3 elt p g h.2.2⟩
theorem YW:∀ (c:CEs),(∀ c x S,P c x S->P' c x S)->(∀ x d,G x d->G' x d)->onEs P G c->onEs P' G' c
 | .nil,_,_,_=>True.intro
 | .cons e es,p,g,h=>⟨Y3 e p g h.1,YW es p g h.2⟩
theorem W7:∀ (c:CO),(∀ c x S,P c x S->P' c x S)->(∀ x d,G x d->G' x d)->onO P G c->onO P' G' c
 | .none,_,_,_=>True.intro
 | .some e,p,g,h=>Y3 e p g h
theorem ZZ:∀ (c:CG),(∀ c x S,P c x S->P' c x S)->(∀ x d,G x d->G' x d)->onG P G c->onG P' G' c
 | .name _,_,_,_=>True.intro
 | .tup gs,p,g,h=>VI gs p g h
 | .sub a b,p,g,h=>⟨Y3 a p g h.1,Y3 b p g h.2⟩
theorem VI:∀ (c:CGs),(∀ c x S,P c x S->P' c x S)->(∀ x d,G x d->G' x d)->onGs P G c->onGs P' G' c
 | .nil,_,_,_=>True.intro
 | .cons e es,p,g,h=>⟨ZZ e p g h.1,VI es p g h.2⟩
theorem J0:∀ (c:CI),(∀ c x S,P c x S->P' c x S)->(∀ x d,G x d->G' x d)->onI P G c->onI P' G' c
 | .seq e,p,g,h=>Y3 e p g h
 | .rng es,p,g,h=>YW es p g h
 | .zip es,p,g,h=>YW es p g h
 | .enum es,p,g,h=>YW es p g h
 | .sgn e,p,g,h=>Y3 e p g h
end
theorem and2 (h:(a&&b)=true):a=true/\b=true:=by
 cases a with
 | true=>exact⟨rfl,h⟩
 | false=>exact absurd h Bool.false_ne_true
theorem Xa (h:Z2 x=true):(x==("__debug__":Str))=false:=by
 obtain⟨h,_⟩:=and2 (show (!(x==("__debug__":Str))&&_)=true from h)
 revert h
 cases (x==("__debug__":Str)) with
 | true=>exact fun h=>absurd h Bool.false_ne_true
 | false=>exact fun _=>rfl
mutual
theorem sE:∀ (c:CE) (rz:Bool) (Xe:DSt->DK) (k:Ck) (X:Cx) (e:Expr),CtxOk X k->onE (FnAt X) (GloAt X) c->isE k c e=true->SdE X rz Xe c e
 | .var i,rz,Xe,k,X,e,C,on,h=>by
  refine gNm e h fun x p h=>?_;exact Yf rfl (C.var (show k.slot i x=true from h)) Uo Ul Ue
 | .int i,rz,Xe,k,X,e,C,on,h=>by
  refine gConstant e h fun c q p h=>?_;refine gInt c h fun j h=>?_;obtain rfl:=of_decide_eq_true (show decide (i=j)=true from h);exact Xv rfl (Wz Gw fun H=>.int _) ZM ZL
 | .bl i,rz,Xe,k,X,e,C,on,h=>by
  refine gConstant e h fun c q p h=>?_;refine gBool c h fun j h=>?_;obtain rfl:=of_decide_eq_true (show decide (i=j)=true from h);exact Xv rfl (Wz Iq fun H=>.bl _) ZM ZL
 | .non,rz,Xe,k,X,e,C,on,h=>by
  refine gConstant e h fun c q p h=>?_;refine gCnone c h fun h=>?_;exact Xv rfl (Wz Gu fun H=>.non) ZM ZL
 | .str i,rz,Xe,k,X,e,C,on,h=>by
  refine gConstant e h fun c q p h=>?_;refine gStr c h fun j h=>?_;obtain rfl:=of_decide_eq_true (show decide (i=j)=true from h);exact Xv rfl (Wz Wq fun H=>.str _) ZM ZL
 | .glo x d,rz,Xe,k,X,e,C,on,h=>by
  refine gNm e h fun y p h=>?_;obtain⟨h1,h3⟩:=and2 (show (_&&Z2 x)=true from h);obtain⟨h1,h2⟩:=and2 (show (decide (x=y)&&k.gl x)=true from h1);obtain rfl:=of_decide_eq_true h1;obtain⟨u,v,e1,e2,e3⟩:=(show GloAt X _ d from on).ex;exact Yf rfl (Wz (El (C.gl h2) e1 e2 (Xa h3)) e3) Uo Ul Ue
 | .ty t,rz,Xe,k,X,e,C,on,h=>by
  refine gNm e h fun y p h=>?_;obtain⟨h1,h2⟩:=and2 (show (decide (Wk t=y)&&k.gl y)=true from h);obtain rfl:=of_decide_eq_true h1;exact Yf rfl (IK t C.blt (C.gl h2)) Uo Ul Ue
 | .bin op a b,rz,Xe,k,X,e,C,on,h=>by
  refine gBinOp e h fun x op' y p h=>?_;obtain⟨h1,h3⟩:=and2 (show (_&&isE k b y)=true from h);obtain⟨h1,h2⟩:=and2 (show (decide (op=op')&&isE k a x)=true from h1);obtain rfl:=of_decide_eq_true h1;exact Yf rfl (HC (op_b op) (sE a rz Xe k X _ C on.1 h2).pe (sE b rz Xe k X _ C on.2 h3).pe) Cv Cs BM
 | .neg a,rz,Xe,k,X,e,C,on,h=>by
  refine gUnaryOp e h fun o x p h=>?_;refine gUSub o h fun h=>?_;exact Yf rfl (Hy (sE a rz Xe k X _ C on h).pe) JM JL V9
 | .not a,rz,Xe,k,X,e,C,on,h=>by
  refine gUnaryOp e h fun o x p h=>?_;refine gNot o h fun h=>?_;have s:=sE a rz Xe k X x C on h;exact⟨Hx s.pe,GY s.pt,fun _ _ _ z=>(nomatch z),V9⟩
 | .cmp op a b,rz,Xe,k,X,e,C,on,h=>by
  refine gCompare e h fun x os ys p h=>?_;refine Y7 os h fun o os h=>?_;refine gNil os h fun h=>?_;refine Y7 ys h fun y ys h=>?_;refine gNil ys h fun h=>?_;obtain⟨h1,h3⟩:=and2 (show (_&&isE k b y)=true from h);obtain⟨h1,h2⟩:=and2 (show (decide (op=o)&&isE k a x)=true from h1);obtain rfl:=of_decide_eq_true h1;have s1:=sE a rz Xe k X _ C on.1 h2;have s2:=sE b rz Xe k X _ C on.2 h3;exact⟨HB C.hu s1.pe s2.pe (s2.sh.mark op),GZ C.hu s1.pe s2.pe (s2.sh.mark op),fun _ _ _ z=>(nomatch z),XT⟩
 | .chain op op' a b c,rz,Xe,k,X,e,C,on,h=>by
  refine gCompare e h fun x os ys p h=>?_;refine Y7 os h fun o os h=>?_;refine Y7 os h fun o' os h=>?_;refine gNil os h fun h=>?_;refine Y7 ys h fun y ys h=>?_;refine Y7 ys h fun z ys h=>?_;refine gNil ys h fun h=>?_;obtain⟨h1,h4⟩:=and2 (show (_&&isE k c z)=true from h);obtain⟨h1,h3⟩:=and2 (show (_&&isE k b y)=true from h1);obtain⟨h1,h2⟩:=and2 (show (_&&isE k a x)=true from h1);obtain⟨h1,h0⟩:=and2 (show (decide (op=o)&&decide (op'=o'))=true from h1);obtain rfl:=of_decide_eq_true h1;obtain rfl:=of_decide_eq_true h0;have s1:=sE a rz Xe k X _ C on.1 h2;have s2:=sE b rz Xe k X _ C on.2.1 h3;have s3:=sE c rz Xe k X _ C on.2.2 h4;exact⟨Dh C.hu s1.pe s2.pe s3.pe (s3.sh.mark op'),D5 C.hu s1.pe s2.pe s3.pe (s3.sh.mark op'),fun _ _ _ z=>(nomatch z),XT⟩
 | .chain3 op op' op'' a b c d,rz,Xe,k,X,e,C,on,h=>by
  refine gCompare e h fun x os ys p h=>?_;refine Y7 os h fun o os h=>?_;refine Y7 os h fun o' os h=>?_;refine Y7 os h fun o'' os h=>?_;refine gNil os h fun h=>?_;refine Y7 ys h fun y ys h=>?_;refine Y7 ys h fun z ys h=>?_;refine Y7 ys h fun w ys h=>?_;refine gNil ys h fun h=>?_;obtain⟨h1,h5⟩:=and2 (show (_&&isE k d w)=true from h);obtain⟨h1,h4⟩:=and2 (show (_&&isE k c z)=true from h1);obtain⟨h1,h3⟩:=and2 (show (_&&isE k b y)=true from h1);obtain⟨h1,h2⟩:=and2 (show (_&&isE k a x)=true from h1);obtain⟨h1,h9⟩:=and2 (show (_&&decide (op''=o''))=true from h1);obtain⟨h1,h0⟩:=and2 (show (decide (op=o)&&decide (op'=o'))=true from h1);obtain rfl:=of_decide_eq_true h1;obtain rfl:=of_decide_eq_true h0;obtain rfl:=of_decide_eq_true h9;have s1:=sE a rz Xe k X _ C on.1 h2;have s2:=sE b rz Xe k X _ C on.2.1 h3;have s3:=sE c rz Xe k X _ C on.2.2.1 h4;have s4:=sE d rz Xe k X _ C on.2.2.2 h5;exact⟨Bk C.hu s1.pe s2.pe s3.pe s4.pe (s4.sh.mark op''),Be C.hu s1.pe s2.pe s3.pe s4.pe (s4.sh.mark op''),fun _ _ _ z=>(nomatch z),XT⟩
 | .one a,rz,Xe,k,X,e,C,on,h=>by
  refine gBoolOp e h fun op xs pos h=>?_;refine Y7 xs h fun x xs h=>?_;refine gNil xs h fun h=>?_;have s:=sE a rz Xe k X _ C on (show isE k a x=true from h);have w:PW X (.BoolOp op [x] pos) (Za (X.L rz Xe) (rE Xe a).t):=by
   cases op with
   | And=>exact Ec s.pt
   | Or=>exact Ge s.pt
  exact⟨Gr s.pe,w.pt,fun _ _ _ z=>by cases z;exact w,Wn⟩
 | .and a b,rz,Xe,k,X,e,C,on,h=>by
  refine gBoolOp e h fun op xs pos h=>?_;refine gAnd op h fun h=>?_;refine Y7 xs h fun x xs h=>?_;refine Y7 xs h fun y r h=>?_;obtain⟨h1,h2⟩:=and2 (show (isE k a x&&isE k b (.BoolOp .And (y::r) pos))=true from h);have s1:=sE a rz Xe k X _ C on.1 h1;have s2:=sE b rz Xe k X _ C on.2 h2;have w:=GW s1.pt (s2.pw _ _ _ rfl);exact⟨HE s1.pe s2.pe,w.pt,fun _ _ _ z=>by cases z;exact w,Wn⟩
 | .or a b,rz,Xe,k,X,e,C,on,h=>by
  refine gBoolOp e h fun op xs pos h=>?_;refine gOr op h fun h=>?_;refine Y7 xs h fun x xs h=>?_;refine Y7 xs h fun y r h=>?_;obtain⟨h1,h2⟩:=and2 (show (isE k a x&&isE k b (.BoolOp .Or (y::r) pos))=true from h);have s1:=sE a rz Xe k X _ C on.1 h1;have s2:=sE b rz Xe k X _ C on.2 h2;have w:=II s1.pt (s2.pw _ _ _ rfl);exact⟨IM s1.pe s2.pe,w.pt,fun _ _ _ z=>by cases z;exact w,Wn⟩
 | .ife c a b,rz,Xe,k,X,e,C,on,h=>by
  refine gIfExp e h fun x y z p h=>?_;obtain⟨h1,h3⟩:=and2 (show (_&&isE k b z)=true from h);obtain⟨h1,h2⟩:=and2 (show (isE k c x&&isE k a y)=true from h1);exact Xv rfl (HA (sE c rz Xe k X _ C on.1 h1).pt (sE a rz Xe k X _ C on.2.1 h2).pe (sE b rz Xe k X _ C on.2.2 h3).pe) Cu BL
 | .tup es,rz,Xe,k,X,e,C,on,h=>by
  refine gTuple e h fun xs q p h=>?_;exact Yf rfl (Hv (sEs es rz Xe k X _ C on h).pa) Ct Cr BK
 | .lst es,rz,Xe,k,X,e,C,on,h=>by
  refine gList e h fun xs p h=>?_;exact Yf rfl (Hz (sEs es rz Xe k X _ C on h).pa) EB EA DX
 | .ix a b,rz,Xe,k,X,e,C,on,h=>by
  refine gSubscript e h fun x y p h=>?_;obtain⟨h1,h2⟩:=and2 (show (isE k a x&&isE k b y)=true from h);have s2:=sE b rz Xe k X _ C on.2 h2;exact Yf rfl (IN (sE a rz Xe k X _ C on.1 h1).pe s2.pe s2.sh.ix) Xd Xb X6
 | .sl a lo hi,rz,Xe,k,X,e,C,on,h=>by
  refine gSubscript e h fun x y p h=>?_;refine gSlice y h fun l u s q h=>?_;refine gNone s h fun h=>?_;obtain⟨h1,h3⟩:=and2 (show (_&&isO k hi u)=true from h);obtain⟨h1,h2⟩:=and2 (show (isE k a x&&isO k lo l)=true from h1);exact Yf rfl (IL (sE a rz Xe k X _ C on.1 h1).pe (sO lo rz Xe k X _ C on.2.1 h2) (sO hi rz Xe k X _ C on.2.2 h3)) Xd Xb X6
 | .spart i a,rz,Xe,k,X,e,C,on,h=>by
  refine gCall e h fun t1 t3 t5 pos h=>?_;refine gAttribute t1 h fun t2 m ap h=>?_;refine gNm t2 h fun x p h=>?_;refine Y7 t3 h fun y t4 h=>?_;refine gNil t4 h fun h=>?_;refine gNil t5 h fun h=>?_;obtain⟨h1,h4⟩:=and2 h;obtain⟨h1,h3⟩:=and2 h1;obtain⟨h1,h2⟩:=and2 h1;obtain rfl:=of_decide_eq_true h1;have s:=sE a rz Xe k X _ C on h3;exact Yf rfl (Dd (C.var h2) s.pe rfl h4 (s.sh.star _ _)) Zt Zs Zr
 | .srem i a,rz,Xe,k,X,e,C,on,h=>by
  refine gCall e h fun t1 t3 t5 pos h=>?_;refine gAttribute t1 h fun t2 m ap h=>?_;refine gNm t2 h fun x p h=>?_;refine Y7 t3 h fun y t4 h=>?_;refine gNil t4 h fun h=>?_;refine gNil t5 h fun h=>?_;obtain⟨h1,h4⟩:=and2 h;obtain⟨h1,h3⟩:=and2 h1;obtain⟨h1,h2⟩:=and2 h1;obtain rfl:=of_decide_eq_true h1;have s:=sE a rz Xe k X _ C on h3;exact Yf rfl (Fe (C.var h2) s.pe rfl h4 (s.sh.star _ _)) Zt Zs Zr
 | .fstrJ x y a b c,rz,Xe,k,X,e,C,on,h=>by
  refine gJoinedStr e h fun t0 pos h=>?_;refine Y7 t0 h fun v1 t1 h=>?_;refine Y7 t1 h fun v2 t2 h=>?_;refine Y7 t2 h fun v3 t3 h=>?_;refine Y7 t3 h fun v4 t4 h=>?_;refine Y7 t4 h fun v5 t5 h=>?_;refine gNil t5 h fun h=>?_;obtain⟨h1,h5⟩:=and2 h;obtain⟨h1,h4⟩:=and2 h1;obtain⟨h1,h3⟩:=and2 h1;obtain⟨h1,h2⟩:=and2 h1;refine gFormattedValue v1 h1 fun u1 c1 f1 p1 h1=>?_;refine gNone f1 h1 fun h1=>?_;refine gConstant v2 h2 fun cc2 k2 p2 h2=>?_;refine gStr cc2 h2 fun z2 h2=>?_;refine gFormattedValue v3 h3 fun u3 c3 f3 p3 h3=>?_;refine gNone f3 h3 fun h3=>?_;refine gConstant v4 h4 fun cc4 k4 p4 h4=>?_;refine gStr cc4 h4 fun z4 h4=>?_;refine gFormattedValue v5 h5 fun u5 c5 f5 p5 h5=>?_;refine gNone f5 h5 fun h5=>?_;obtain⟨e1,h1⟩:=and2 h1;obtain rfl:=of_decide_eq_true e1;obtain rfl:=of_decide_eq_true h2;obtain⟨e3,h3⟩:=and2 h3;obtain rfl:=of_decide_eq_true e3;obtain rfl:=of_decide_eq_true h4;obtain⟨e5,h5⟩:=and2 h5
  obtain rfl:=of_decide_eq_true e5;exact Yf rfl (Df (sE a rz Xe k X _ C on.1 h1).pe (sE b rz Xe k X _ C on.2.1 h3).pe (sE c rz Xe k X _ C on.2.2 h5).pe) Xf Xc X7
 | .fstrT x a b,rz,Xe,k,X,e,C,on,h=>by
  refine gJoinedStr e h fun t0 pos h=>?_;refine Y7 t0 h fun v1 t1 h=>?_;refine Y7 t1 h fun v2 t2 h=>?_;refine Y7 t2 h fun v3 t3 h=>?_;refine gNil t3 h fun h=>?_;obtain⟨h1,h3⟩:=and2 h;obtain⟨h1,h2⟩:=and2 h1;refine gFormattedValue v1 h1 fun u1 c1 f1 p1 h1=>?_;refine gNone f1 h1 fun h1=>?_;refine gConstant v2 h2 fun cc2 k2 p2 h2=>?_;refine gStr cc2 h2 fun z2 h2=>?_;refine gFormattedValue v3 h3 fun u3 c3 f3 p3 h3=>?_;refine gNone f3 h3 fun h3=>?_;obtain⟨e1,h1⟩:=and2 h1;obtain rfl:=of_decide_eq_true e1;obtain rfl:=of_decide_eq_true h2;obtain⟨e3,h3⟩:=and2 h3;obtain rfl:=of_decide_eq_true e3;exact Yf rfl (De (sE a rz Xe k X _ C on.1 h1).pe (sE b rz Xe k X _ C on.2 h3).pe) Xf Xc X7
 | .fstr x a b,rz,Xe,k,X,e,C,on,h=>by
  refine gJoinedStr e h fun t0 pos h=>?_;refine Y7 t0 h fun v1 t1 h=>?_;refine Y7 t1 h fun v2 t2 h=>?_;refine Y7 t2 h fun v3 t3 h=>?_;refine gNil t3 h fun h=>?_;obtain⟨h1,h3⟩:=and2 h;obtain⟨h1,h2⟩:=and2 h1;refine gFormattedValue v1 h1 fun u1 c1 f1 p1 h1=>?_;refine gNone f1 h1 fun h1=>?_;refine gConstant v2 h2 fun cc2 k2 p2 h2=>?_;refine gStr cc2 h2 fun z2 h2=>?_;refine gFormattedValue v3 h3 fun u3 c3 f3 p3 h3=>?_;refine gNone f3 h3 fun h3=>?_;obtain⟨e1,h1⟩:=and2 h1;obtain rfl:=of_decide_eq_true e1;obtain rfl:=of_decide_eq_true h2;obtain⟨e3,h3⟩:=and2 h3;obtain rfl:=of_decide_eq_true e3;exact Yf rfl (Fg (sE a rz Xe k X _ C on.1 h1).pe (sE b rz Xe k X _ C on.2 h3).pe) Xf Xc X7
 | .split a b,rz,Xe,k,X,e,C,on,h=>by
  refine gCall e h fun t1 t3 t5 pos h=>?_;refine gAttribute t1 h fun t2 m ap h=>?_;refine gNm t2 h fun x xp h=>?_;refine Y7 t3 h fun y t4 h=>?_;refine gNil t4 h fun h=>?_;refine gNil t5 h fun h=>?_;obtain⟨h,h4⟩:=and2 h;obtain⟨h,h3⟩:=and2 h;obtain⟨h1,h2⟩:=and2 h;obtain rfl:=of_decide_eq_true h1;have s1:=sE a rz Xe k X _ C on.1 h2;have s2:=sE b rz Xe k X _ C on.2 h3;exact Yf rfl (Dc s1.pe s2.pe rfl h4 (s2.sh.star _ _)) Zt Zs Zr
 | .join a b,rz,Xe,k,X,e,C,on,h=>by
  refine gCall e h fun t1 t4 t6 pos h=>?_;refine gAttribute t1 h fun t2 m ap h=>?_;refine gConstant t2 h fun t3 cn xp h=>?_;refine gStr t3 h fun x h=>?_;refine Y7 t4 h fun y t5 h=>?_;refine gNil t5 h fun h=>?_;refine gNil t6 h fun h=>?_;obtain⟨h,h4⟩:=and2 h;obtain⟨h,h3⟩:=and2 h;obtain⟨h1,h2⟩:=and2 h;obtain rfl:=of_decide_eq_true h1;have s1:=sE a rz Xe k X _ C on.1 h2;have s2:=sE b rz Xe k X _ C on.2 h3;exact Yf rfl (Ff s1.pe s2.pe rfl h4 (s2.sh.star _ _)) Zt Zs Zr
 | .ssl a lo hi,rz,Xe,k,X,e,C,on,h=>by
  refine gSubscript e h fun x t1 pos h=>?_;refine gSlice t1 h fun l u t2 p2 h=>?_;refine gNone t2 h fun h=>?_;obtain⟨h,h3⟩:=and2 h;obtain⟨h1,h2⟩:=and2 h;exact Yf rfl (Hw (sE a rz Xe k X _ C on.1 h1).pe (sO lo rz Xe k X _ C on.2.1 h2) (sO hi rz Xe k X _ C on.2.2 h3)) Xd Xb X6
 | .xfl f a,rz,Xe,k,X,e,C,on,h=>by
  refine gAttribute e h fun o g p h=>?_;refine gNm o h fun x q h=>?_;obtain⟨h2,h4⟩:=and2 (show (decide (f=g)&&isE k a (.Name x q))=true from h);obtain rfl:=of_decide_eq_true h2;exact Yf rfl (Ht C.tab (sE a rz Xe k X _ C on h4).pe rfl) Up Um Uf
 | .call x S es,rz,Xe,k,X,e,C,on,h=>by
  refine gCall e h fun f xs kw pos h=>?_;refine gNm f h fun y p h=>?_;refine gNil kw h fun h=>?_;obtain⟨h,hcal⟩:=and2 (show (_&&k.cal)=true from h);obtain⟨h1,h4⟩:=and2 (show (_&&isEs k es xs)=true from h);obtain⟨h1,h3⟩:=and2 (show (_&&Z2 x)=true from h1);obtain⟨h1,h2⟩:=and2 (show (decide (x=y)&&k.gl x)=true from h1);obtain rfl:=of_decide_eq_true h1;have s:=sEs es rz Xe k X _ C on.2 h4;refine Yf rfl ?_ Zt Zs Zr;cases xs with
  | nil =>
   cases es with
   | nil=>exact Dk (C.calm hcal) on.1 (C.gl h2) (Xa h3)
   | cons _ _=>exact absurd h4 Bool.false_ne_true
  | cons a r=>exact Fi (C.calm hcal) on.1 (C.gl h2) s.pa (Xa h3) ((s.hd a r rfl).1.star _ _) ((s.hd a r rfl).2 _ _)
 | .callv i alts es,rz,Xe,k,X,e,C,on,h=>by
  refine gCall e h fun f xs kw pos h=>?_;refine gNm f h fun y p h=>?_;refine gNil kw h fun h=>?_;refine Y7 xs h fun a r h=>?_;obtain⟨h,hcal⟩:=and2 (show (_&&k.cal)=true from h);obtain⟨h1,h4⟩:=and2 (show (k.slot i y&&isEs k es (a::r))=true from h);have s:=sEs es rz Xe k X _ C on.2 h4;exact Yf rfl (Dj (C.calm hcal) (fun n S m=>XW on.1 m) (C.tvar h1) s.pa ((s.hd a r rfl).1.star _ _) ((s.hd a r rfl).2 _ _)) Zt Zs Zr
 | .callx a alts es,rz,Xe,k,X,e,C,on,h=>by
  refine gCall e h fun t1 t2 t3 pos h=>?_;refine gSubscript t1 h fun f1 f2 p h=>?_;refine Y7 t2 h fun x xs h=>?_;refine gNil t3 h fun h=>?_;obtain⟨h,hcal⟩:=and2 h;obtain⟨h1,h4⟩:=and2 h;have sa:=sE a rz Xe k X _ C on.2.1 h1;have s:=sEs es rz Xe k X _ C on.2.2 h4;exact Yf rfl (Di (C.calm hcal) (fun n S m=>XW on.1 m) sa.pe s.pa ((s.hd x xs rfl).1.star _ _) ((s.hd x xs rfl).2 _ _)) Zt Zs Zr
 | .bi b es,rz,Xe,k,X,e,C,on,h=>by
  refine gCall e h fun f xs kw pos h=>?_;refine gNm f h fun y p h=>?_;refine Y7 xs h fun a r h=>?_;refine gNil kw h fun h=>?_;obtain⟨h,hq⟩:=and2 (show (_&&(k.cal || quiet b))=true from h);obtain⟨h1,h3⟩:=and2 (show (_&&isEs k es (a::r))=true from h);obtain⟨h1,h2⟩:=and2 (show (decide (Vy b=y)&&k.gl y)=true from h1);obtain rfl:=of_decide_eq_true h1;have s:=sEs es rz Xe k X _ C on h3;exact Yf rfl (IO b C.tab C.blt (C.qt hq) (C.gl h2) s.pa ((s.hd _ _ rfl).1.star _ _) ((s.hd _ _ rfl).2 _ _)) Zt Zs Zr
 | .app i a,rz,Xe,k,X,e,C,on,h=>by
  refine gCall e h fun f xs kw pos h=>?_;refine gAttribute f h fun o m ap h=>?_;refine gNm o h fun x p h=>?_;refine Y7 xs h fun y r h=>?_;refine gNil r h fun h=>?_;refine gNil kw h fun h=>?_;obtain⟨h1,h4⟩:=and2 (show (_&&(ap.endLine==pos.line))=true from h);obtain⟨h1,h3⟩:=and2 (show (_&&isE k a y)=true from h1);obtain⟨h1,h2⟩:=and2 (show (decide (m="append")&&k.slot i x)=true from h1);obtain rfl:=of_decide_eq_true h1;have s:=sE a rz Xe k X _ C on h3;exact Yf rfl (HD (C.var h2) s.pe rfl (fun es=>s.sh.star _ es) h4) Zt Zs Zr
 | .comp N' n g it elt,rz,Xe,k,X,e,C,on,h=>by
  refine gListComp e h fun y gs sc p h=>?_;refine Y7 gs h fun q gs h=>?_;refine gMk q h fun tg iter ifs z h=>?_;refine gNil ifs h fun h=>?_;refine gNil gs h fun h=>?_;obtain⟨h,hcal⟩:=and2 (show (_&&k.cal)=true from h);obtain⟨h,h5⟩:=and2 (show (_&&isE ⟨N',sc,false,k.cal⟩ elt y)=true from h);obtain⟨h,h4⟩:=and2 (show (_&&isI k tg it iter)=true from h);obtain⟨h,h3⟩:=and2 (show (_&&isG ⟨N',sc,false,k.cal⟩ g tg)=true from h);obtain⟨h,h2⟩:=and2 (show (_&&decide (n=N'.length-k.N.length))=true from h);obtain⟨h,h1⟩:=and2 (show (decide (z=0)&&blkB k N' sc)=true from h);obtain rfl:=of_decide_eq_true h;obtain rfl:=of_decide_eq_true h2;have si:=sI it rz Xe k X tg _ C on.2.1 h4;refine Yf (t:=YX (N'.length-k.N.length) (rI Xe it) (rG X0 g) (rE X0 elt).e) rfl ?_ J4 J3 UQ;rw[<- C.N];exact Fh (C.calm hcal) (UG C h1).1 si.pi (fun cl Cn s H ex=>⟨(sG g false X0 ⟨N',_,false,k.cal⟩ (YE X N' _ cl Cn s H ex []) _ (C.blk h1 cl Cn s H ex) (ZZ g (fun c x S F=>⟨F.ex⟩) (fun x d F=>⟨F.ex⟩) on.1) h3).pg,
   (sE elt false X0 ⟨N',_,false,k.cal⟩ (YE X N' _ cl Cn s H ex []) _ (C.blk h1 cl Cn s H ex) (Y3 elt (fun c x S F=>⟨F.ex⟩) (fun x d F=>⟨F.ex⟩) on.2.2) h5).pe⟩) (si.set _)
theorem sEs:∀ (c:CEs) (rz:Bool) (Xe:DSt->DK) (k:Ck) (X:Cx) (es:List Expr),CtxOk X k->onEs (FnAt X) (GloAt X) c->isEs k c es=true->SdEs X rz Xe c es
 | .nil,rz,Xe,k,X,es,C,on,h=>by
  cases es with
  | nil=>exact⟨Xu,fun _ _=>rfl,fun _ _ z=>nomatch z⟩
  | cons _ _=>exact absurd h Bool.false_ne_true
 | .cons e es,rz,Xe,k,X,xs,C,on,h=>by
  cases xs with
  | nil=>exact absurd h Bool.false_ne_true
  | cons x r =>
   obtain⟨h1,h2⟩:=and2 (show (isE k e x&&isEs k es r)=true from h);have s1:=sE e rz Xe k X _ C on.1 h1;have s2:=sEs es rz Xe k X _ C on.2 h2;refine⟨Z9 s1.pe s2.pa (s1.sh.star _ _),fun pos env=>?_,fun _ _ z=>by cases z;exact⟨s1.sh,s2.pl⟩⟩;rw[s1.sh.star];show (false || _)=false;rw[Bool.false_or];exact s2.pl pos env
theorem sO:∀ (c:CO) (rz:Bool) (Xe:DSt->DK) (k:Ck) (X:Cx) (e:Option Expr),CtxOk X k->onO (FnAt X) (GloAt X) c->isO k c e=true->PO X e (Vd (X.L rz Xe) (rO Xe c))
 | .none,rz,Xe,k,X,e,C,on,h=>by
  cases e with
  | none=>exact Fa
  | some _=>exact absurd h Bool.false_ne_true
 | .some c,rz,Xe,k,X,e,C,on,h=>by
  cases e with
  | none=>exact absurd h Bool.false_ne_true
  | some e=>exact EZ (sE c rz Xe k X _ C on h).pe
theorem sG:∀ (c:CG) (rz:Bool) (Xe:DSt->DK) (k:Ck) (X:Cx) (e:Expr),CtxOk X k->onG (FnAt X) (GloAt X) c->isG k c e=true->SdG X rz Xe c e
 | .name i,rz,Xe,k,X,e,C,on,h=>by
  refine gNm e h fun x p h=>?_;obtain⟨h1,h2⟩:=and2 (show (decide (k.N[i]?=some x)&&k.loc x)=true from h);exact⟨Fd (by rw[C.N];exact C.nd) (by rw[C.N];exact of_decide_eq_true h1) (C.loc h2).1 (C.loc h2).2,fun _ _=>rfl⟩
 | .tup gs,rz,Xe,k,X,e,C,on,h=>by
  refine gTuple e h fun xs q p h=>?_;obtain⟨h,hcal⟩:=and2 (show (_&&k.cal)=true from h);have s:=sGs gs rz Xe k X _ C on (show isGs k gs xs=true from h);exact⟨Hn (C.calm hcal) s.pg (s.len _) (s.st _),fun _ _=>rfl⟩
 | .sub a b,rz,Xe,k,X,e,C,on,h=>by
  refine gSubscript e h fun x y p h=>?_;obtain⟨h1,h2⟩:=and2 (show (isE k a x&&isE k b y)=true from h);have s2:=sE b rz Xe k X _ C on.2 h2;exact⟨Ho (sE a rz Xe k X _ C on.1 h1).pe s2.pe (fun v=>s2.sh.sub _ _ _ v),fun _ _=>rfl⟩
theorem sGs:∀ (c:CGs) (rz:Bool) (Xe:DSt->DK) (k:Ck) (X:Cx) (es:List Expr),CtxOk X k->onGs (FnAt X) (GloAt X) c->isGs k c es=true->SdGs X rz Xe c es
 | .nil,rz,Xe,k,X,es,C,on,h=>by
  cases es with
  | nil=>exact⟨Fc,fun _=>rfl,fun _=>rfl⟩
  | cons _ _=>exact absurd h Bool.false_ne_true
 | .cons e es,rz,Xe,k,X,xs,C,on,h=>by
  cases xs with
  | nil=>exact absurd h Bool.false_ne_true
  | cons x r =>
   obtain⟨h1,h2⟩:=and2 (show (isG k e x&&isGs k es r)=true from h);have s1:=sG e rz Xe k X _ C on.1 h1;have s2:=sGs es rz Xe k X _ C on.2 h2;refine⟨D9 s1.pg s2.pg (by rw[s1.as];rfl),fun env=>?_,fun env=>?_⟩
   ·rw[s1.as,List.length_cons,s2.len];rfl
   ·rw[s1.as,List.findIdx?_cons]
    simp[s2.st]
theorem sI:∀ (c:CI) (rz:Bool) (Xe:DSt->DK) (k:Ck) (X:Cx) (tg e:Expr),CtxOk X k->onI (FnAt X) (GloAt X) c->isI k tg c e=true->SdI X rz Xe tg c e
 | .seq c,rz,Xe,k,X,tg,e,C,on,h =>
  have s:=sE c rz Xe k X e C on h
  ⟨Hk s.pe,s.sh.set⟩
 | .rng es,rz,Xe,k,X,tg,e,C,on,h=>by
  refine gCall e h fun f xs kw pos h=>?_;refine gNm f h fun y p h=>?_;refine Y7 xs h fun a r h=>?_;refine gNil kw h fun h=>?_;obtain⟨h1,h3⟩:=and2 (show (_&&isEs k es (a::r))=true from h);obtain⟨h1,h2⟩:=and2 (show (decide (y="range")&&k.gl y)=true from h1);obtain rfl:=of_decide_eq_true h1;have s:=sEs es rz Xe k X _ C on h3;exact⟨Hl (C.gl h2) C.blt.range s.pa ((s.hd _ _ rfl).1.star _ _) ((s.hd _ _ rfl).2 _ _),fun _ _=>rfl⟩
 | .zip es,rz,Xe,k,X,tg,e,C,on,h=>by
  refine gTuple tg h fun te tx tp h=>?_;refine gCall e h fun f xs kw pos h=>?_;refine gNm f h fun y p h=>?_;refine Y7 xs h fun a r h=>?_;refine gNil kw h fun h=>?_;obtain⟨h1,h3⟩:=and2 (show (_&&isEs k es (a::r))=true from h);obtain⟨h1,h2⟩:=and2 (show (decide (y="zip")&&k.gl y)=true from h1);obtain rfl:=of_decide_eq_true h1;have s:=sEs es rz Xe k X _ C on h3;exact⟨Hi (C.gl h2) C.blt.zip s.pa ((s.hd _ _ rfl).1.star _ _) ((s.hd _ _ rfl).2 _ _),fun _ _=>rfl⟩
 | .sgn c,rz,Xe,k,X,tg,e,C,on,h =>
  have s:=sE c rz Xe k X e C on h
  ⟨Hj s.pe,s.sh.set⟩
 | .enum es,rz,Xe,k,X,tg,e,C,on,h=>by
  refine gTuple tg h fun te tx tp h=>?_;refine gCall e h fun f xs kw pos h=>?_;refine gNm f h fun y p h=>?_;refine Y7 xs h fun a r h=>?_;refine gNil kw h fun h=>?_;obtain⟨h1,h3⟩:=and2 (show (_&&isEs k es (a::r))=true from h);obtain⟨h1,h2⟩:=and2 (show (decide (y="enumerate")&&k.gl y)=true from h1);obtain rfl:=of_decide_eq_true h1;have s:=sEs es rz Xe k X _ C on h3;exact⟨Fb (C.gl h2) C.blt.enum s.pa ((s.hd _ _ rfl).1.star _ _) ((s.hd _ _ rfl).2 _ _),fun _ _=>rfl⟩
end
end DL
end
noncomputable section
namespace DL
open PySem PySem.Spec PyProof.Rows L2
theorem Zl (x:ObjOk P w H h a o):∃ ob,h.get? a=some ob:=by
 cases o with
 | lst xs=>obtain⟨_,_,_,_,e⟩:=x;exact⟨_,e⟩
 | tup xs=>obtain⟨_,_,_,ob,e,_⟩:=x;exact⟨_,e⟩
 | dK kvs=>obtain⟨_,_,_,_,ob,_,_,e,_⟩:=x;exact⟨_,e⟩
 | dT kvs=>obtain⟨_,_,_,_,ob,_,_,e,_⟩:=x;exact⟨_,e⟩
 | set S n=>obtain⟨ob,_,_,_,e,_⟩:=x;exact⟨_,e⟩
 | ins C dx fs=>obtain⟨_,_,_,e,_⟩:=x;exact⟨_,e⟩
 | own y=>exact x
 | xd fs=>obtain⟨_,⟨ob,_,_,e,_⟩,_⟩:=x;exact⟨_,e⟩
 | rng lo hi=>obtain⟨_,_,_,e⟩:=x;exact⟨_,e⟩
 | frz ob u=>exact⟨_,x.1⟩
 | tbl ps=>exact⟨_,(show h.get? a=some _ from x)⟩
 | met f y=>exact⟨_,(show h.get? a=some _ from x)⟩
 | ext φ=>exact x.2.1
theorem Zh {fs:List Addr} {H1 H':Hp} {h1 h' h2 B:Heap} (un:Un fs [] H1 H' h1 h') (old:∀ b o,h1.get? b=some o->H1 b=none->b ∉ fs->B.get? b=some o) (st:B.StaysIn h2)
  (ff:∀ b∈fs,∃ o,h'.get? b=some o/\∀ vs,o.data≠.fields vs) (nr:Near h' h2):Un fs [] H1 H' h1 h2 where
 keep:=fun b o e n hb _=>st b o (old b o e n hb)
 slot:=fun b o e n hb hx=>by
  obtain⟨sl,e1⟩:=un.slot b o e n hb hx;obtain⟨o2,e2,d2⟩:=ff b hb;rw[e1] at e2;cases e2;obtain⟨sl2,e3⟩:=nr.1 b _ e1 d2;exact⟨sl2,e3⟩
 free:=un.free
 there:=fun b o e hx=>let ⟨o',e'⟩:=un.there b o e hx;nr.2.1 b o' e'
 tups:=un.tups
 frzs:=un.frzs
 tbls:=un.tbls
section
variable {X:Cx} {pins:List (Addr×Obj)} {σ:L2.St} {H H':Hp} {s s':Shared} {e C:Addr} {dd:Option Addr}
theorem Jf (h:env.frame=some L):frs (env::l)=L::frs l:=by simp[frs,h]
theorem XF (I:L2.Inv X pins σ H s) (hex:X.ex=[]) {B:Heap} (old:∀ b o,s.heap.get? b=some o->H b=none->b ∉ frs X.stack->B.get? b=some o) :
  ∀ b o,X.s₀.heap.get? b=some o->X.H₀ b=none->b ∉ X.fs->B.get? b=some o:=fun b o e n hb=>by
 have hx:b ∉ X.ex:=by rw[hex];simp
 refine old b o (I.base.keep b o e n hb hx) (I.base.free b o e n hx) fun z=>?_;rcases List.mem_cons.mp (I.stkSub b z) with q|q
 ·exact absurd (Nat.lt_of_lt_of_le (Heap.lt_size e) I.ok.above) (by rw[q];exact Nat.lt_irrefl _)
 ·exact hb q
theorem V4 (I:L2.Inv X pins σ H s) (hex:X.ex=[]) (st:X.stack=X.env::X.outer/\X.env.frame=some X.env.locals) {h' B:Heap} (un:Un (frs X.stack) [] H H' s.heap h') (old:∀ b o,s.heap.get? b=some o->H b=none->b ∉ frs X.stack->B.get? b=some o) (hB:B.StaysIn h') :
  Un X.fs [] X.H₀ H' X.s₀.heap h':=by
 have a:Un (frs X.stack) [] X.H₀ H X.s₀.heap s.heap:=I.base.mono (fun b hb=>by rw[st.1,Jf st.2];exact List.mem_cons_of_mem _ hb) (by rw[hex];simp);have t:=a.trans un;exact⟨fun b o e n hb hx=>hB b o (XF I hex old b o e n hb),fun b o e n hb hx=>t.any e n hx,t.free,t.there,t.tups,t.frzs,t.tbls⟩
end
section
variable {P:Program} {w:World} {K:Frag} {mg:Str->Option Value} {base:Heap} {N:List Str} {qual:Str} {scope:Scope} {f:Addr} {cd:Value} {A:Around} {outer:List Env} {s:Shared} {H:Hp} {E:XK}
theorem Bu (hE:∀ n M' H' C dd x,HExt K H H'->RepM K H' M'->n∈xNames->YN K n C->ExD K H' n dd x->Ed (.exc n x) M'->E (.ref C) dd H'):XeOk (cxOf (CXR P w) P w K mg base N qual scope f cd A outer s H E) true (fun _=>Ed) H where
 fly:=fun pins σ H1 s1 H' e C dd s' δ M' n xd x I th m sl hn hc ed hx=>by
  obtain⟨B,os,bare,un,old,hokB,fl⟩:=th.ex;show wpAny _ _ _ _ _ _;refine B8 I.ok.frames rfl fl fun h' F' nr=>?_;have ff:∀ b∈frs (cxOf (CXR P w) P w K mg base N qual scope f cd A outer s H E).stack,∃ o,s'.heap.get? b=some o/\∀ vs,o.data≠.fields vs:=fun b hb=>(fl.frames.mem hb).2;exact⟨e,C,dd,H',rfl,⟨⟨B,os.trans I.os,bare,V4 I rfl ⟨rfl,rfl⟩ (Zh un old F'.stays ff nr) old F'.stays,XF I rfl old,hokB,F'⟩,fun z=>nr.2.2 _ (th.cl z)⟩,hE n M' H' C dd xd x m hn hc ed hx⟩
 back:=fun _ pins σ H1 s1 H' e C dd s' δ M' n xd x I th m sl hn hc ed hx=>by
  obtain⟨B,os,bare,un,old,hokB,fl⟩:=th.ex;show wpAny _ _ _ _ _ _;refine JX rfl fl fun h' F' nr=>?_;have ff:∀ b∈frs (cxOf (CXR P w) P w K mg base N qual scope f cd A outer s H E).stack,∃ o,s'.heap.get? b=some o/\∀ vs,o.data≠.fields vs:=fun b hb=>(fl.frames.mem hb).2;exact⟨e,C,dd,H',rfl,⟨⟨B,os.trans I.os,bare,V4 I rfl ⟨rfl,rfl⟩ (Zh un old F'.stays ff nr) old F'.stays,XF I rfl old,hokB,F'⟩,fun z=>nr.2.2 _ (th.cl z)⟩,hE n M' H' C dd xd x m hn hc ed hx⟩
 made:=fun _ pins σ H' h e C dd s' δ M' n xd x I mk cl m sl hn hc ed hx=>by
  show wpAny _ _ _ _ _ _;have hin:∀ env∈(cxOf (CXR P w) P w K mg base N qual scope f cd A outer s H E).stack,∀ a,env.frame=some a->a∈frs (cxOf (CXR P w) P w K mg base N qual scope f cd A outer s H E).stack:=fun env he b hb=>List.mem_filterMap.mpr ⟨env,he,hb⟩;have st:(hideAll h (frs (cxOf (CXR P w) P w K mg base N qual scope f cd A outer s H E).stack)).StaysIn h:=fun b o q=>PySem.W.of_hideAll _ q;refine JY (h:=h) (B:=hideAll h (frs (cxOf (CXR P w) P w K mg base N qual scope f cd A outer s H E).stack)) I.ok.frames rfl (PySem.W.funFrames_hide I.stack hin) st mk fun h' F' nr=>?_;have old:∀ b o,h.get? b=some o->H' b=none->b ∉ frs (cxOf (CXR P w) P w K mg base N qual scope f cd A outer s H E).stack->(hideAll h (frs (cxOf (CXR P w) P w K mg base N qual scope f cd A outer s H E).stack)).get? b=some o:=fun b o q _ hb=>PySem.W.hideAll_get _ q hb;have ff:∀ b∈frs (cxOf (CXR P w) P w K mg base N qual scope f cd A outer s H E).stack,∃ o,h.get? b=some o/\∀ vs,o.data≠.fields vs:=fun b hb=>(I.stack.mem hb).2
  have un:Un (frs (cxOf (CXR P w) P w K mg base N qual scope f cd A outer s H E).stack) [] H' H' h h':=Zh .refl old F'.stays ff ((Near.kept mk.keeps).trans nr);refine⟨e,C,dd,H',rfl,⟨⟨_,I.os,I.bare,V4 I rfl ⟨rfl,rfl⟩ un old F'.stays,XF I rfl old,fun a o q=>?_,F'⟩,fun z=>nr.2.2 _ (cl z)⟩,hE n M' H' C dd xd x m hn hc ed hx⟩;refine (I.hok a o q).stay (fun c u hc r=>PySem.W.hideAll_get _ r fun z=>?_) (fun _ q=>q) fun _ _ q=>q;have:=I.stkFree c z;rcases hc with rfl|hc
  ·rw[q] at this;cases this
  ·rw[hc] at this;cases this
end
noncomputable def Ke (n:Str) (ta:(DSt->DK)->DA):DS:=fun D δ M=>ta D.ex δ M fun ds M1=>ds.length<=sizeLine/\D.ex δ (.exc n .non) M1
section
variable {X:Cx} {x:Str} {np cpos pos:Pos} {e:Expr} {es:List Expr} {ta:(DSt->DK)->DA}
end
noncomputable def YR (n:Str) (ta:(DSt->DK)->DA):DS:=fun D δ M=>ta D.ex δ M fun ds M1=>∃ x,ds=[x]/\D.ex δ (.exc n x) M1
section
variable {X:Cx} {x:Str} {np cpos pos:Pos} {e:Expr} {es:List Expr} {ta:(DSt->DK)->DA}
theorem Bf (hr:Room 0 X.A) (tab:Zj X.K=true) (hp:xInit.contains x=true) (hc:YN X.K x C) (hm:X.mg x=some (.ref C)) (hg:Gl X x) (hdb:(x==("__debug__":Str))=false) (ha:∀ Xe,PA X (e::es) (Zm (X.L true Xe) (ta Xe)))
  (he:starEach (e::es) X.env=(false,eval e X.env)::starEach es X.env) (hpl:(backTo cpos (starEach es X.env)).any (·.1)=false) :
  PS X (.Raise (some (.Call (.Name x np) (e::es) [] cpos)) none pos) (Yx X true (YR x ta)):=by
 rintro pins s σ H Z I ⟨δ,M,D,rs,rm,t,n,r,b,c⟩;have hi:x∈xInit:=by simpa using hp
 have hn:x∈xNames:=List.mem_cons_of_mem _ (List.mem_append_right _ hi);have FV:=PySem.F.excBase_ValueError;obtain⟨Bc,fI,T⟩:=Vk tab hi hc;refine V0 (C:=C) I.ok.mod.kin T.ex fun bm Nn nm q bs sn sub ab col dd k0 k1 k2 k3 k5 mN hC hN hni OT cd hci hdc hpm=>?_;obtain⟨oI,hfK,hfc⟩:∃ oI,X.K.lookup fI=some oI/\oI.cls=.type "function":=by
  have tf:=T.fn;unfold Vj at tf;split at tf
  next lk=>exact⟨_,lk,rfl⟩
  next=>cases tf
 have hmB:X.mg "CordError"=some (.ref Bc):=by
  have e:=T.b;unfold Xx at e;split at e
  next q=>cases e;exact PySem.W.mg_of I.ok.mod.kin I.ok.mod.glob q
  next=>cases e
 refine Wo (C:=C) (nm:=nm) (q:=q) (N:=Nn) (bs:=bs) (bm:=bm) (bmB:=bmV) (hdct:=true) (sn:=sn) (sub:=sub) (ab:=ab) (col:=col) (dd:=dd) (k0:=k0) (k1:=k1) (k2:=k2) (k3:=k3) (k5:=k5) (fI:=fI) FV %[|4] FV (mN:=mN)
  (OT.hasType %[|4]) hr.hd (by rw[he];show (false || (backTo cpos (starEach es X.env)).any (·.1))=false;rw[hpl];rfl) hni (Zu I hg hm ⟨rfl,?_⟩ hdb)
 rw[he];refine Calls.evalArgs_plain ?_;have sp:=ha D.ex cpos pins s σ H (fun vs H1=>∃ ds M1,HExt X.K H H1/\RepM X.K H1 M1/\RelDs X.K H1 vs ds/\∃ x0,ds=[x0]/\D.ex δ (.exc x x0) M1) I ⟨δ,M,_,rs,rm,t,fun ds M1 vs H1 x m r h=>⟨ds,M1,x,m,r,h⟩⟩;rw[he] at sp;refine wpAny_mono sp (fun us s1 hq1=>?_) fun _ _ z=>z;obtain⟨vs,H1,I1,r1,ds,M1,x1,m1,rd,x0,rfl,hx⟩:=hq1;obtain⟨v1,rfl,rx⟩:∃ v1,vs=[v1]/\RelD X.K H1 v1 x0:=by cases rd with|cons a b=>cases b;exact⟨_,rfl,a⟩
 obtain⟨u1,rfl,ru⟩:∃ u1,us=[u1]/\RelV v1 u1:=by cases r1 with|cons a b=>cases b;exact⟨_,rfl,a⟩
 refine⟨rfl,by show 1<=sizeLine;simp[sizeLine_eq],I1.bk _ _ hC,hN.keeps I1.bk,OT.keeps I1.bk,⟨oI,I1.kIn _ _ hfK,hfc⟩,fun h' e0 mk=>?_⟩;have ne1:∀ b o,s1.heap.get? b=some o->b≠e0:=fun b o q z=>by rw[z,mk.new] at q;cases q
 have H1e:H1 e0=none:=by
  cases q:H1 e0 with
  | none=>rfl
  | some u=>obtain⟨ob,z⟩:=Zl (I1.hok e0 u q);exact absurd rfl (ne1 _ _ z)
 have J:L2.Inv X pins σ H1 {s1 with heap:=h'}:=I1.call' (s':={s1 with heap:=h'}) (ch:=[]) rfl (Un.kept mk.keeps) (I1.hok.kept mk.keeps) I1.bare (fun b hb=>by cases hb);obtain⟨t0,q1,_,_⟩:=mk.there;refine wpAny_call (UT T (YA tab hn hc).1.obj hmB (by rw[L2.make_depth];have:=hr.dp;omega) (J.env0.make C [u1] []) q1 rfl rfl rfl rfl rfl rfl H1e ?_ (fun z=>?_) ru fun s3 E3=>⟨rfl,?_⟩)
 ·cases q:X.base.get? e0 with
  | none=>rfl
  | some o=>exact absurd rfl (ne1 _ _ (I1.bk _ _ q))
 ·obtain⟨_,o,q,_⟩:=I1.stack.mem z
  exact absurd rfl (ne1 _ _ q)
 refine E3.on fun ob ws d u a1 a2 a3 a4 a5 aC aZ a6 a7 a8 a9=>?_;have dn:∀ b o,s1.heap.get? b=some o->b≠d:=fun b o q z=>by
  have:=Heap.lt_size (mk.keeps b o q);rw[z] at this;exact absurd (Nat.lt_of_lt_of_le this a8) (Nat.lt_irrefl _)
 have de:d≠e0:=fun z=>by
  have:=Heap.lt_size q1;rw[<- z] at this;exact absurd (Nat.lt_of_lt_of_le this a8) (Nat.lt_irrefl _)
 have C3:s3.heap.get? C=some (excClassObj nm q C Nn bs bm true sn sub ab col dd k0 k1 k2 k3 k5 "ValueError.__new__"):=by
  have bC:=I1.bk _ _ hC;refine E3.un.keep C _ (mk.keeps _ _ bC) (I1.bs _ _ hC).2 (fun z=>?_) (by simpa using ne1 _ _ bC);have:=(I1.stack.mem z).1;rw[hC] at this;cases this
 refine⟨ob,ws,C3,a1,a2,a4,a5,?_⟩;have x5:HExt X.K H1 (upd H1 d (.ext (ZJ d (Yi x) v1))):=.upd (.inl a9);have m5:RepM X.K (upd H1 d (.ext (ZJ d (Yi x) v1))) M1:=fun a o q=>(m1 a o q).ext x5 fun z=>by subst z;exact absurd a9 (m1 a o q).fresh
 have neH:∀ b u,H1 b=some u->b≠d:=fun b u q z=>by rw[z,a9] at q;cases q
 have hid:∀ b o,b≠e0->s3.heap.get? b=some o->(hideAll s3.heap [e0]).get? b=some o:=fun b o n q=>PySem.W.hideAll_get _ q (by simpa using n);have un5:Un (frs X.stack) [] H1 (upd H1 d (.ext (ZJ d (Yi x) v1))) s1.heap (hideAll s3.heap [e0]):={
  keep:=fun b o q nn hf _=>hid b o (ne1 b o q) (E3.un.keep b o (mk.keeps b o q) nn hf (by simpa using ne1 b o q)),
  slot:=fun b o q nn hf _=>by obtain⟨sl,z⟩:=E3.un.slot b o (mk.keeps b o q) nn hf (by simpa using ne1 b o q);exact⟨sl,hid b _ (ne1 b o q) z⟩,
  free:=fun b o q nn _=>by rw[Y6 (dn b o q)];exact nn,
  there:=fun b o q _=>by obtain⟨o',z⟩:=E3.un.there b o (mk.keeps b o q) (by simpa using ne1 b o q);exact⟨o',hid b _ (ne1 b o q) z⟩,
  tups:=fun b xs q=>by rw[Y6 (neH b _ q)];exact q,
  frzs:=fun b o u q=>by rw[Y6 (neH b _ q)];exact q,
  tbls:=fun b ps q=>⟨#[],by rw[Y6 (neH b _ q)];simpa using q⟩}
 have hok5:HOk X.prog X.w (upd H1 d (.ext (ZJ d (Yi x) v1))) (hideAll s3.heap [e0]):=fun a o q=>by
  by_cases z:a=d
  ·subst z;rw[upd_same] at q;cases q
   have n7:(hideAll s3.heap [e0]).Ns1 a (fun y=>if y=Yi x then some u else none):=a7.at fun o q=>hid a o de q;obtain⟨o,es',ep',q',_⟩:=id n7;exact⟨⟨u,a6,n7⟩,⟨o,q'⟩,fun g1 g2 ⟨u',c1,c2⟩ k=>⟨u',c1,c2.at k⟩⟩
  ·rw[Y6 z] at q
   refine (E3.hok a o q).stay (fun c u hc r=>hid c u (fun z=>?_) r) (fun c q=>by rw[Y6 (neH c _ q)];exact q) fun c xs q=>by rw[Y6 (neH c _ q)];exact q
   subst z;rcases hc with rfl|hc
   ·rw[H1e] at q;cases q
   ·rw[H1e] at hc;cases hc
 have I5:L2.Inv X pins σ (upd H1 d (.ext (ZJ d (Yi x) v1))) {s3 with heap:=hideAll s3.heap [e0]}:=I1.call' (s':={s3 with heap:=hideAll s3.heap [e0]}) E3.os un5 hok5 E3.bare (fun b hb=>by cases hb);exact rs.ok.made rfl pins σ _ (hideAll s3.heap [e0]) e0 C (some d) s3 δ M1 x x0 (x1.trans x5) I5 ⟨fun b o q=>PySem.W.of_hideAll _ q,PySem.W.hideAll_none _ (List.mem_cons_self),ob,ws,a1,a2,a3,a4,a5⟩ (fun _=>⟨ob,ws,a1,a4,aC⟩) m5 (rs.toSlots.ext (x1.trans x5)) hn hc (.fld hi upd_same (rx.ext x5)) hx
end
section
variable {X:Cx} {pins:List (Addr×Obj)} {σ:L2.St} {H:Hp} {s:Shared}
theorem VD (I:L2.Inv X pins σ H s) (hN:X.N.Nodup) (hi:X.N[i]?=some x) (hk:X.env.kindOf x=some .local)
  (h:∀ s',L2.Inv X pins (σ.set i none) H s'->Q () s'):wpAny M A (do bindName X.env x .none;unbindBehindTheSuite X.env x pos) Q Z s:=by
 obtain⟨m,hn,hl⟩:=id I.loc;have hcls:(X.env.scope.kind==.class || (X.env.scope.kind==.module&&X.env.locals != X.env.globals))=false:=by rw[I.ok.kind];rfl
 refine wpAny_nameGoes_keeps hk hn hcls fun h' v hn' hs=>h _ ?_;have low:∀ b o,X.s₀.heap.get? b=some o->b≠X.env.locals:=fun b o e=>Nat.ne_of_lt (Nat.lt_of_lt_of_le (Heap.lt_size e) I.ok.above);refine⟨I.ok,I.os,I.bare,⟨fun b o e n hb hx=>(hs.2 b (low b o e)).trans (I.base.keep b o e n hb hx),fun b o e n hb hx=>?_,I.base.free,fun b o e hx=>?_,I.base.tups,I.base.frzs,I.base.tbls⟩,⟨_,hn',fun j y v' e1 e2 e3=>?_⟩,fun y c e=>?_,I.free,I.freeC,fun p hp=>?_,fun b ob e=>?_,by simpa using I.len⟩
 ·obtain⟨sl,q⟩:=I.base.slot b o e n hb hx
  exact⟨sl,(hs.2 b (low b o e)).trans q⟩
 ·obtain⟨o',q⟩:=I.base.there b o e hx
  exact⟨o',(hs.2 b (low b o e)).trans q⟩
 ·have hj:j≠i:=fun z=>by
   subst z;by_cases hl:j < σ.length
   ·rw[List.getElem?_set_self hl] at e2;cases e2
   ·rw[List.getElem?_eq_none (by simp;omega)] at e2;cases e2
  rw[List.getElem?_set_ne (Ne.symm hj)] at e2;obtain⟨u',r',q⟩:=hl j y v' e1 e2 e3;refine⟨u',r',?_⟩;rcases q with ⟨k,q⟩|⟨k,c,q,z⟩
  ·have ne:y≠x:=fun z=>hj (ZA hN e1 (z ▸ hi))
   exact .inl ⟨k,by simp[ne,q]⟩
  ·exact .inr ⟨k,c,q,z.sameBut hs (I.cne y c q)⟩
 ·obtain⟨w',z⟩:=I.cell y c e
  exact⟨w',z.sameBut hs (I.cne y c e)⟩
 ·obtain⟨q,n,ne,nf,d⟩:=I.pin p hp
  exact⟨(hs.2 p.1 ne).trans q,n,ne,nf,d⟩
 ·refine (I.hok b ob e).stay (fun c w' hc q=>(hs.2 c ?_).trans q) (fun _ q=>q) fun _ _ q=>q
  rintro rfl;rcases hc with rfl|hc
  ·rw[I.free] at e;cases e
  ·rw[I.free] at hc;cases hc
end
theorem Slots.forget {K:Frag} {H:Hp} {δ:DSt} {σ:L2.St} (r:Slots K H δ σ) (i:Nat):Slots K H (δ.set i none) (σ.set i none):=by
 refine⟨by simp[r.len],fun j d q=>?_⟩;have hj:j≠i:=fun z=>by
  subst z;by_cases hl:j < δ.length
  ·rw[List.getElem?_set_self hl] at q;cases q
  ·rw[List.getElem?_eq_none (by simp;omega)] at q;cases q
 rw[List.getElem?_set_ne (Ne.symm hj)] at q;obtain⟨u,h1,h2⟩:=r.slot j d q;exact⟨u,by rw[List.getElem?_set_ne (Ne.symm hj)];exact h1,h2⟩
abbrev _root_.L2.Cx.hnd (X:Cx) (e:Addr):Cx:={X with A:=X.A.mark (some (.ref e)),calm:=false,xe:=fun _ _=>False}
theorem XL (I:L2.Inv X pins σ H s) (e:Addr):L2.Inv (X.hnd e) pins σ H s :=
 ⟨⟨I.ok.mod,I.ok.kind,I.ok.glob,I.ok.blt,I.ok.above,I.ok.inj,I.ok.has,I.ok.cab,fun z=>(by cases z),I.ok.frames,I.ok.stk,I.ok.exf,I.ok.bs,I.ok.bsz,I.ok.noex,I.ok.exfs,I.ok.funs,I.ok.frf⟩,I.os,I.bare,I.base,I.loc,I.cell,I.free,I.freeC,I.pin,I.hok,I.len⟩
theorem Wv (ok:X.Ok) (I:L2.Inv (X.hnd e) pins σ H s):L2.Inv X pins σ H s :=
 ⟨ok,I.os,I.bare,I.base,I.loc,I.cell,I.free,I.freeC,I.pin,I.hok,I.len⟩
abbrev _root_.L2.Cx.tri (X:Cx) (xe:Value->Shared->Prop) (pins:List (Addr×Obj)):Cx:={X with xe:=xe,pn:=X.pn++pins}
theorem Us (I:L2.Inv X pins σ H s) (xe:Value->Shared->Prop):L2.Inv (X.tri xe pins) [] σ H s :=
 ⟨⟨I.ok.mod,I.ok.kind,I.ok.glob,I.ok.blt,I.ok.above,I.ok.inj,I.ok.has,I.ok.cab,I.ok.hd,I.ok.frames,I.ok.stk,I.ok.exf,I.ok.bs,I.ok.bsz,I.ok.noex,I.ok.exfs,I.ok.funs,I.ok.frf⟩,I.os,I.bare,I.base,I.loc,I.cell,I.free,I.freeC,fun p hp=>I.pin p (by simpa using hp),I.hok,I.len⟩
theorem Yq (ok:X.Ok) (I:L2.Inv (X.tri xe pins) pl σ H s):L2.Inv X pins σ H s :=
 ⟨ok,I.os,I.bare,I.base,I.loc,I.cell,I.free,I.freeC,fun p hp=>I.pin p (List.mem_append_left _ hp),I.hok,I.len⟩
noncomputable def dTry (t:DS) (c:Str) (ie ix:Nat):DS:=fun D δ M=>t {D with ex:=fun δ' d M'=>∃ n,d=.exc n (xarg d)/\ZR n c=true/\D.nx ((δ'.set ix (some d)).set ie none) M'} δ M
section
variable {X:Cx} {rz:Bool} {body:List Stmt} {t:DS} {cx ne x:Str} {np px pe apos hpos pos:Pos} {ie ix:Nat}
theorem Kd (st:X.stack=X.env::X.outer/\X.env.frame=some X.env.locals) (tab:Zj X.K=true) (hcx:cx∈xNames) (hc:YN X.K cx C) (hm:X.mg cx=some (.ref C)) (hg:Gl X cx) (hdb:(cx==("__debug__":Str))=false)
  (hN:X.N.Nodup) (hie:X.N[ie]?=some ne) (hix:X.N[ix]?=some x) (hne:ie≠ix) (ke:X.env.kindOf ne=some .local) (kx:Loc X.env.scope x) (fx:X.fn x=true\/X.env.scope.names.lookup x=some .local) (od1:(ne==("__debug__":Str))=false) (od2:(ne==("__classdict__":Str))=false)
  (hb:∀ xe pins,PassesOwn (model X.prog X.w) X.A X.env xe->PSs (X.tri xe pins) body (Yx (X.tri xe pins) false t)) :
  PS X (.Try body [.ExceptHandler (some (.Name cx np)) (some ne) [.Assign [.Name x px] (.Name ne pe) apos] hpos] [] [] pos) (Yx X rz (dTry t cx ie ix)):=by
 rintro pins s σ H Z I ⟨δ,M,D,rs,rm,t,n,r,b,c⟩;refine wpAny_Try_except ?_;generalize hxe:(fun e s₁=>wpAny (model X.prog X.w) X.A (noteFrame e X.env) (fun _ s₂=>wpAny (model X.prog X.w) X.A (setFlight e none) (fun _ s₃=>wpAny (model X.prog X.w) X.A (handleBy e X.env [.ExceptHandler (some (.Name cx np)) (some ne) [.Assign [.Name x px] (.Name ne pe) apos] hpos]) (SP X pins Z) X.xe s₃) X.xe s₂) X.xe s₁)=xe;have po:PassesOwn (model X.prog X.w) X.A X.env xe:=by rw[<- hxe];exact PassesOwn.looking
 have ok:=I.ok;refine wpAny_mono (hb xe pins po [] s σ H Z (Us I xe) ⟨δ,M,_,⟨rs.toSlots,⟨?_,fun z=>(by cases z),fun z=>(by cases z)⟩⟩,rm,t,fun δ' M' σ' H' x rs' m' h'=>n δ' M' σ' H' x ⟨rs'.toSlots,(X.L rz D.ex).mono _ _ x rs.ok⟩ m' h',r,fun δ' M' σ' H' x rs' m' h'=>b δ' M' σ' H' x ⟨rs'.toSlots,(X.L rz D.ex).mono _ _ x rs.ok⟩ m' h',fun δ' M' σ' H' x rs' m' h'=>c δ' M' σ' H' x ⟨rs'.toSlots,(X.L rz D.ex).mono _ _ x rs.ok⟩ m' h'⟩) (fun fl s' q=>?_) fun e s' q=>q
 ·intro pins' σ' H1 s1 H' e C' dd s' δ' M' n' xd x1 I1 th m' sl hn' hc' ed ⟨n2,en,hsub,hnx⟩
  cases en;rw[<- hxe];have I1':L2.Inv X pins σ' H1 s1:=Yq ok I1;obtain⟨B,os,bare,un,old,hokB,fl⟩:=th.ex;have fl':Flies B (X.env::X.outer) e (.ref C') dd .none s'.heap:=by rw[<- st.1];exact fl
  have fr:X.A.frames=some (X.env::X.outer):=by rw[<- st.1];exact ok.frames
  have ff:∀ b∈frs X.stack,∃ o,s'.heap.get? b=some o/\∀ vs,o.data≠.fields vs:=fun b hb=>(fl.frames.mem hb).2;refine Wf fr st.2 fl' fun h2 F2 n2'=>Z8 F2 fun h3 F3 n3=>?_;have I3:L2.Inv X pins σ' H' {s' with heap:=h3}:=I1'.call' (s':={s' with heap:=h3}) os (Zh un old F3.stays ff (n2'.trans n3)) (hokB.kept F3.stays) bare (fun b hb=>by cases hb);have I3h:=XL I3 e;have LT:PySem.W.Looks (model X.prog X.w) h3 (typeOf (.ref e)) (.ref C'):=by
   obtain⟨oe,vs,T,oT,ts,q1,q2,_⟩:=F3.tr;exact q2 ▸ (PySem.W.Looks.ld q1).andThen .now
  have hx:=((YA tab hn' hc').2.2.2 cx C hcx hc).1;rw[hsub] at hx;refine wpAny_handleBy_cons (codeAny_handlers_test (Zu (X:=X.hnd e) I3h hg hm ((PySem.W.exm_one I3.kIn LT hx).at ?_) hdb)) (by intro z;cases z);show codeAny _ _ _ _ _;refine codeAny_handlers_suite_as (Z8 (s:={s' with heap:=h3}) F3 fun h4 F4 n4=>?_);have fresh:H' e=none:=by
   cases q:H' e with
   | none=>rfl
   | some u=>obtain⟨ob,z⟩:=Zl (hokB e u q);rw[F4.new] at z;cases z
  have xe4:Z4 e C' dd h4:=by
   obtain⟨oe,vs,T,oT,ts,q1,q2,q3,q4,_⟩:=F4.tr;exact⟨oe,vs,q1,q2,q3,q4⟩
  have un4:=Zh un old F4.stays ff (n2'.trans (n3.trans n4));have ne1:∀ b o,s1.heap.get? b=some o->H1 b=none->b≠e:=fun b o q nn z=>by
   subst z;by_cases hf:b∈frs X.stack
   ·obtain⟨o1,q1,d1⟩:=ff b hf
    obtain⟨oe,vs,T,oT,ts,p1,p2,p3,p4,_⟩:=fl.tr;rw[q1] at p1;cases p1;exact d1 _ p4
   ·have:=old b o q nn hf
    rw[F4.new] at this;cases this
  have neH:∀ b u,H' b=some u->b≠e:=fun b u q z=>by rw[z,fresh] at q;cases q
  have un5:Un (frs X.stack) [] H1 (upd H' e (.ext (Z4 e C' dd))) s1.heap h4:=⟨un4.keep,un4.slot,fun b o q nn hx=>by rw[Y6 (ne1 b o q nn)];exact un4.free b o q nn hx,un4.there,fun b xs q=>by rw[Y6 (neH b _ (un4.tups b xs q))];exact un4.tups b xs q,fun b o u q=>by rw[Y6 (neH b _ (un4.frzs b o u q))];exact un4.frzs b o u q,
   fun b ps q=>by obtain⟨mo,q'⟩:=un4.tbls b ps q;exact⟨mo,by rw[Y6 (neH b _ q')];exact q'⟩⟩
  have hok5:HOk X.prog X.w (upd H' e (.ext (Z4 e C' dd))) h4:=fun a o q=>by
   by_cases z:a=e
   ·subst z;rw[upd_same] at q;cases q
    obtain⟨ob,vs,q1,q2⟩:=id xe4;exact⟨xe4,⟨ob,q1⟩,fun g1 g2 ⟨ob,vs,q1,q2⟩ k=>⟨ob,vs,k _ q1,q2⟩⟩
   ·rw[Y6 z] at q
    refine (hokB a o q).stay (fun c u _ r=>F4.stays c u r) (fun c q=>by rw[Y6 (neH c _ q)];exact q) fun c xs q=>by rw[Y6 (neH c _ q)];exact q
  have I5:L2.Inv X pins σ' (upd H' e (.ext (Z4 e C' dd))) {s' with heap:=h4}:=I1'.call' (s':={s' with heap:=h4}) os un5 hok5 bare (fun b hb=>by cases hb);have x5:HExt X.K H' (upd H' e (.ext (Z4 e C' dd))):=.upd (.inl fresh);have m5:RepM X.K (upd H' e (.ext (Z4 e C' dd))) M':=fun a o q=>(m' a o q).ext x5 fun z=>by subst z;exact absurd fresh (m' a o q).fresh
  have rd5:RelD X.K (upd H' e (.ext (Z4 e C' dd))) (.ref e) (.exc n' xd):=(ed.ext x5).rel hn' hc' upd_same;refine Z0 (X:=X.hnd e) (v:=.ref e) (XL I5 e) hN hie (.inl ke) rfl (fun s6 I6=>?_) (.inr ke);have pl:PSs (X.hnd e) [.Assign [.Name x px] (.Name ne pe) apos] (tSeq (tAsg (tVar ie) (D0 ix)) Fx):=UW (BX hN hix kx (XU hie (.inl ke) od1 od2) rfl fx) pss_nil;refine wpAny_mono (pl pins s6 (σ'.set ie (some (.ref e))) _ {nx:=fun σ'' H''=>σ''=(σ'.set ie (some (.ref e))).set ix (some (.ref e))/\H''=upd H' e (.ext (Z4 e C' dd)),rt:=fun _ _=>False} I6 ⟨.ref e,?_,rfl,rfl⟩) (fun f s7 h7=>?_) fun _ _ z=>z.elim
  ·rw[List.getElem?_set_self]
   have:=(List.getElem?_eq_some_iff.mp hie).1;rw[I1'.len];exact this
  ·cases f with
   | next =>
    obtain⟨σ7,H7,I7,rfl,rfl⟩:=h7;refine VD (Wv ok I7) hN hie ke fun s8 I8=>?_;have e8:((σ'.set ie (some (.ref e))).set ix (some (.ref e))).set ie none=(σ'.set ix (some (.ref e))).set ie none:=by
     rw[List.set_comm _ _ hne,List.set_set]
    rw[e8] at I8;have s8:Slots X.K (upd H' e (.ext (Z4 e C' dd))) ((δ'.set ix (some (.exc n' xd))).set ie none) ((σ'.set ix (some (.ref e))).set ie none):=((sl.ext x5).set rd5 ix).forget ie;exact⟨_,_,I8,n _ _ _ _ (x1.trans x5) ⟨s8,(X.L rz D.ex).mono _ _ (x1.trans x5) rs.ok⟩ m5 hnx⟩
   | brk=>obtain⟨_,_,_,z⟩:=h7;exact z.elim
   | cont=>obtain⟨_,_,_,z⟩:=h7;exact z.elim
   | ret u=>obtain⟨_,_,_,_,_,z⟩:=h7;exact z.elim
 ·have q':SP X pins Z fl s':=by
   cases fl with
   | next=>obtain⟨σ',H',I',z⟩:=q;exact⟨σ',H',Yq ok I',z⟩
   | brk=>obtain⟨σ',H',I',z⟩:=q;exact⟨σ',H',Yq ok I',z⟩
   | cont=>obtain⟨σ',H',I',z⟩:=q;exact⟨σ',H',Yq ok I',z⟩
   | ret u=>obtain⟨v,σ',H',I',rr,z⟩:=q;exact⟨v,σ',H',Yq ok I',rr,z⟩
  cases fl with
  | next =>
   obtain⟨σ',H',I',z⟩:=q';exact pss_nil pins s' σ' H' Z I' z
  | brk=>exact q'
  | cont=>exact q'
  | ret u=>exact q'
end
noncomputable def dTrh (t th:DS) (c:Str) (ie:Nat):DS:=fun D δ M=>t {D with ex:=fun δ' d M'=>∃ n,d=.exc n (xarg d)/\ZR n c=true/\th {nx:=fun δ'' M''=>D.nx (δ''.set ie none) M'',rt:=fun _ _=>False,bk:=fun _ _=>False,ct:=fun _ _=>False,ex:=X0} (δ'.set ie (some d)) M'} δ M
section
variable {X:Cx} {rz:Bool} {b0:Stmt} {body hb:List Stmt} {t th:DS} {cx ne:Str} {np hpos pos:Pos} {ie:Nat}
theorem Hb (st:X.stack=X.env::X.outer/\X.env.frame=some X.env.locals) (tab:Zj X.K=true) (hcx:cx∈xNames) (hc:YN X.K cx C) (hm:X.mg cx=some (.ref C)) (hg:Gl X cx) (hdb:(cx==("__debug__":Str))=false)
  (hN:X.N.Nodup) (hie:X.N[ie]?=some ne) (ke:X.env.kindOf ne=some .local)
  (hbd:∀ xe pins,PassesOwn (model X.prog X.w) X.A X.env xe->PSs (X.tri xe pins) body (Yx (X.tri xe pins) false t)) (hh:∀ e,PSs (X.hnd e) (b0::hb) (Yx (X.hnd e) false th)) :
  PS X (.Try body [.ExceptHandler (some (.Name cx np)) (some ne) (b0::hb) hpos] [] [] pos) (Yx X rz (dTrh t th cx ie)):=by
 rintro pins s σ H Z I ⟨δ,M,D,rs,rm,t,n,r,b,c⟩;refine wpAny_Try_except ?_;generalize hxe:(fun e s₁=>wpAny (model X.prog X.w) X.A (noteFrame e X.env) (fun _ s₂=>wpAny (model X.prog X.w) X.A (setFlight e none) (fun _ s₃=>wpAny (model X.prog X.w) X.A (handleBy e X.env [.ExceptHandler (some (.Name cx np)) (some ne) (b0::hb) hpos]) (SP X pins Z) X.xe s₃) X.xe s₂) X.xe s₁)=xe;have po:PassesOwn (model X.prog X.w) X.A X.env xe:=by rw[<- hxe];exact PassesOwn.looking
 have ok:=I.ok;refine wpAny_mono (hbd xe pins po [] s σ H Z (Us I xe) ⟨δ,M,_,⟨rs.toSlots,⟨?_,fun z=>(by cases z),fun z=>(by cases z)⟩⟩,rm,t,fun δ' M' σ' H' x rs' m' h'=>n δ' M' σ' H' x ⟨rs'.toSlots,(X.L rz D.ex).mono _ _ x rs.ok⟩ m' h',r,fun δ' M' σ' H' x rs' m' h'=>b δ' M' σ' H' x ⟨rs'.toSlots,(X.L rz D.ex).mono _ _ x rs.ok⟩ m' h',fun δ' M' σ' H' x rs' m' h'=>c δ' M' σ' H' x ⟨rs'.toSlots,(X.L rz D.ex).mono _ _ x rs.ok⟩ m' h'⟩) (fun fl s' q=>?_) fun e s' q=>q
 ·intro pins' σ' H1 s1 H' e C' dd s' δ' M' n' xd x1 I1 th m' sl hn' hc' ed ⟨n2,en,hsub,hnx⟩
  cases en;rw[<- hxe];have I1':L2.Inv X pins σ' H1 s1:=Yq ok I1;obtain⟨B,os,bare,un,old,hokB,fl⟩:=th.ex;have fl':Flies B (X.env::X.outer) e (.ref C') dd .none s'.heap:=by rw[<- st.1];exact fl
  have fr:X.A.frames=some (X.env::X.outer):=by rw[<- st.1];exact ok.frames
  have ff:∀ b∈frs X.stack,∃ o,s'.heap.get? b=some o/\∀ vs,o.data≠.fields vs:=fun b hb=>(fl.frames.mem hb).2;refine Wf fr st.2 fl' fun h2 F2 n2'=>Z8 F2 fun h3 F3 n3=>?_;have I3:L2.Inv X pins σ' H' {s' with heap:=h3}:=I1'.call' (s':={s' with heap:=h3}) os (Zh un old F3.stays ff (n2'.trans n3)) (hokB.kept F3.stays) bare (fun b hb=>by cases hb);have I3h:=XL I3 e;have LT:PySem.W.Looks (model X.prog X.w) h3 (typeOf (.ref e)) (.ref C'):=by
   obtain⟨oe,vs,T,oT,ts,q1,q2,_⟩:=F3.tr;exact q2 ▸ (PySem.W.Looks.ld q1).andThen .now
  have hx:=((YA tab hn' hc').2.2.2 cx C hcx hc).1;rw[hsub] at hx;refine wpAny_handleBy_cons (codeAny_handlers_test (Zu (X:=X.hnd e) I3h hg hm ((PySem.W.exm_one I3.kIn LT hx).at ?_) hdb)) (by intro z;cases z);show codeAny _ _ _ _ _;refine codeAny_handlers_suite_as (Z8 (s:={s' with heap:=h3}) F3 fun h4 F4 n4=>?_);have fresh:H' e=none:=by
   cases q:H' e with
   | none=>rfl
   | some u=>obtain⟨ob,z⟩:=Zl (hokB e u q);rw[F4.new] at z;cases z
  have xe4:Z4 e C' dd h4:=by
   obtain⟨oe,vs,T,oT,ts,q1,q2,q3,q4,_⟩:=F4.tr;exact⟨oe,vs,q1,q2,q3,q4⟩
  have un4:=Zh un old F4.stays ff (n2'.trans (n3.trans n4));have ne1:∀ b o,s1.heap.get? b=some o->H1 b=none->b≠e:=fun b o q nn z=>by
   subst z;by_cases hf:b∈frs X.stack
   ·obtain⟨o1,q1,d1⟩:=ff b hf
    obtain⟨oe,vs,T,oT,ts,p1,p2,p3,p4,_⟩:=fl.tr;rw[q1] at p1;cases p1;exact d1 _ p4
   ·have:=old b o q nn hf
    rw[F4.new] at this;cases this
  have neH:∀ b u,H' b=some u->b≠e:=fun b u q z=>by rw[z,fresh] at q;cases q
  have un5:Un (frs X.stack) [] H1 (upd H' e (.ext (Z4 e C' dd))) s1.heap h4:=⟨un4.keep,un4.slot,fun b o q nn hx=>by rw[Y6 (ne1 b o q nn)];exact un4.free b o q nn hx,un4.there,fun b xs q=>by rw[Y6 (neH b _ (un4.tups b xs q))];exact un4.tups b xs q,fun b o u q=>by rw[Y6 (neH b _ (un4.frzs b o u q))];exact un4.frzs b o u q,
   fun b ps q=>by obtain⟨mo,q'⟩:=un4.tbls b ps q;exact⟨mo,by rw[Y6 (neH b _ q')];exact q'⟩⟩
  have hok5:HOk X.prog X.w (upd H' e (.ext (Z4 e C' dd))) h4:=fun a o q=>by
   by_cases z:a=e
   ·subst z;rw[upd_same] at q;cases q
    obtain⟨ob,vs,q1,q2⟩:=id xe4;exact⟨xe4,⟨ob,q1⟩,fun g1 g2 ⟨ob,vs,q1,q2⟩ k=>⟨ob,vs,k _ q1,q2⟩⟩
   ·rw[Y6 z] at q
    refine (hokB a o q).stay (fun c u _ r=>F4.stays c u r) (fun c q=>by rw[Y6 (neH c _ q)];exact q) fun c xs q=>by rw[Y6 (neH c _ q)];exact q
  have I5:L2.Inv X pins σ' (upd H' e (.ext (Z4 e C' dd))) {s' with heap:=h4}:=I1'.call' (s':={s' with heap:=h4}) os un5 hok5 bare (fun b hb=>by cases hb);have x5:HExt X.K H' (upd H' e (.ext (Z4 e C' dd))):=.upd (.inl fresh);have m5:RepM X.K (upd H' e (.ext (Z4 e C' dd))) M':=fun a o q=>(m' a o q).ext x5 fun z=>by subst z;exact absurd fresh (m' a o q).fresh
  have rd5:RelD X.K (upd H' e (.ext (Z4 e C' dd))) (.ref e) (.exc n' xd):=(ed.ext x5).rel hn' hc' upd_same;refine Z0 (X:=X.hnd e) (v:=.ref e) (XL I5 e) hN hie (.inl ke) rfl (fun s6 I6=>?_) (.inr ke);refine wpAny_mono (hh e pins s6 (σ'.set ie (some (.ref e))) _ {nx:=fun σ7 H7=>∃ δ7 M7,HExt X.K (upd H' e (.ext (Z4 e C' dd))) H7/\Slots X.K H7 δ7 σ7/\RepM X.K H7 M7/\D.nx (δ7.set ie none) M7,rt:=fun _ _=>False} I6
   ⟨δ'.set ie (some (.exc n' xd)),M',{nx:=fun δ'' M''=>D.nx (δ''.set ie none) M'',rt:=fun _ _=>False,bk:=fun _ _=>False,ct:=fun _ _=>False,ex:=X0},⟨(sl.ext x5).set rd5 ie,Bv⟩,m5,hnx,fun δ7 M7 σ7 H7 x7 rs7 m7 h7=>⟨δ7,M7,x7,rs7.toSlots,m7,h7⟩,fun _ _ _ _ _ _ _ z=>z.elim,fun _ _ _ _ _ _ _ z=>z.elim,fun _ _ _ _ _ _ _ z=>z.elim⟩) (fun f s7 h7=>?_) fun _ _ z=>z.elim
  cases f with
  | next =>
   obtain⟨σ7,H7,I7,δ7,M7,x7,sl7,m7,hn7⟩:=h7;refine VD (Wv ok I7) hN hie ke fun s8 I8=>?_;exact⟨_,_,I8,n _ _ _ _ (x1.trans (x5.trans x7)) ⟨sl7.forget ie,(X.L rz D.ex).mono _ _ (x1.trans (x5.trans x7)) rs.ok⟩ m7 hn7⟩
  | brk=>obtain⟨_,_,_,z⟩:=h7;exact z.elim
  | cont=>obtain⟨_,_,_,z⟩:=h7;exact z.elim
  | ret u=>obtain⟨_,_,_,_,_,z⟩:=h7;exact z.elim
 ·have q':SP X pins Z fl s':=by
   cases fl with
   | next=>obtain⟨σ',H',I',z⟩:=q;exact⟨σ',H',Yq ok I',z⟩
   | brk=>obtain⟨σ',H',I',z⟩:=q;exact⟨σ',H',Yq ok I',z⟩
   | cont=>obtain⟨σ',H',I',z⟩:=q;exact⟨σ',H',Yq ok I',z⟩
   | ret u=>obtain⟨v,σ',H',I',rr,z⟩:=q;exact⟨v,σ',H',Yq ok I',rr,z⟩
  cases fl with
  | next =>
   obtain⟨σ',H',I',z⟩:=q';exact pss_nil pins s' σ' H' Z I' z
  | brk=>exact q'
  | cont=>exact q'
  | ret u=>exact q'
end
section
variable {X:Cx} {rz:Bool} {b0:Stmt} {body hb:List Stmt} {t th:DS} {cx:Str} {np hpos pos:Pos}
end
end DL
end
noncomputable section
namespace DL
open PySem PySem.Spec PyProof.Rows L2
section
variable {M:Model} {A:Around} {Z:Value->Shared->Prop} {s:Shared} {B:Heap} {env:Env} {outer:List Env} {L e:Addr}
theorem B7 (fr':A'.frames=some (env::outer)) (fl:env.frame=some L) (ff:h.FunFrames B (env::outer)) (st:B.StaysIn h) (mk:Made h s.heap e cls dd)
  (go:∀ h',Flies B (env::outer) e cls dd (rawInt L) h'->Near s.heap h'->E (.ref e) {s with heap:=h'}):wpAny M A' (noteFrame (.ref e) env) (fun _ s2=>cameBackBy M A env E (.ref e) s2) Z' s:=by
 obtain⟨oe,vs,q1,rfl,rfl,q4,q5⟩:=mk.at_;refine VR fr' (ff.of_keeps fun b o q _=>⟨o,mk.keeps b o q,rfl⟩) fl q1 (fun b o q=>mk.keeps b o (st b o q)) (mk.fresh st) q4 q5 fun h1 F1 u1=>?_;show wpAny _ _ _ _ _ _;obtain⟨oe',vs',T,oT,ts,p1,p2,p3,p4,p5,p6,p7,p8,p9,p10⟩:=F1.tr;refine wpAny_bind (wpAny_field p1 p4 p5 ?_);rw[if_neg (by simp),fl];exact D1 F1 fun h2 F2 u2=>go h2 F2 (u1.trans u2)
end
section
variable {prog:Program} {w:World} {A:Around} {E:Value->Shared->Prop} {h:Heap} {g:Array GenState} {d:Drawn} {t:Nat} {os:OsState}
theorem U8 {M:Model} {h:Addr} {s:Shared} {oh:Obj} {ws:Array Value} {e:Value} {Q:Value->Shared->Prop} (hm:M=model prog w) (h1:s.heap.get? h=some oh) (h2:oh.data=.fields ws) (h3:ws[2]?=some .none) (hq:Q .none s) :
  wpAny M A (runValue (.builtin "proto.unchain" ⟨[e,.ref h,.ref h,.bool false],[]⟩)) Q E s:=by
 subst hm;refine wpAny_runValue (codeAny_builtin (b:=Builtin.«proto.unchain») (by kernel_rfl) ?_);unfold Builtin.«proto.unchain»;refine wpAny_bind (wpAny_field h1 h2 h3 ?_);rw[if_pos (by rfl)];exact wpAny_pure hq
theorem JB {env:Env} {s:Shared} {x c:Sem Value} {h:Addr} {Q:Flow->Shared->Prop} (hbase:bm.contains (.type "BaseException")=true) (hh:A.handled=some (.ref h))
  (hc:∀ (v:Value) (s:Shared) (Q:Value->Shared->Prop),Q .none s->wpAny (model prog w) A (holding [v] c) Q E s)
  (hx:wpAny (model prog w) A x (fun v s₁=>∃ e ob vs oh ws,v=.ref e/\s₁.heap.get? C=some (excClassObj nm q C N bs bm hdct sn sub ab col dd k0 k1 k2 k3 k5 newId)/\s₁.heap.get? e=some ob/\ob.cls=.ref C/\ob.data=.fields vs/\vs[1]?=some .none/\vs.size=6/\h≠e/\s₁.heap.get? h=some oh/\oh.data=.fields ws/\ws[2]?=some .none /\
   ∀ h' ob' vs',h'.get? e=some ob'->ob'.cls=.ref C->ob'.dict=ob.dict->ob'.data=.fields vs'->vs'[1]?=some .none->(∀ b o,b≠e->s₁.heap.get? b=some o->h'.get? b=some o)->E (.ref e) {s₁ with heap:=h'}) E s) :
  wpAny (model prog w) A (raiseStmt env (some x) (some c)) Q E s:=by
 have hcB:(Value.ref C::bm).contains (.type "BaseException")=true:=by rw[List.contains_cons,hbase,Bool.or_true]
 unfold raiseStmt;refine wpAny_bind (wpAny_mono hx (fun v s₁ h₁=>?_) fun _ _ x=>x);obtain⟨e,⟨oc,od,odt,osl⟩,vs,oh,ws,rfl,hC,he,hcl,hdt,hv,hsz,hne,hh1,hh2,hh3,hE⟩:=h₁;dsimp only at hcl hdt;subst hcl hdt;dsimp only;refine wpAny_bind (hc _ _ _ ?_);obtain⟨hp,g,d,tk,os⟩:=s₁;dsimp only at hC he hh1 hE
 repeat (first|with_reducible refine wpAny_loadPart_at he ?_|with_reducible refine wpAny_loadPart_at hC ?_|(with_reducible refine wpAny_isSubtype_exc hC ?_;rw[hcB])|wp_step)
 have sz:∀ (k:Nat) (v:Value),(vs.setIfInBounds k v).size=6:=fun k v=>by simp[hsz]
 have he3:=Heap.get?_update_self (Obj.mapFields (·.setIfInBounds 3 Value.none)) he (Obj.isFreed_of_fields (Obj.data_mapFields rfl _));have he4:=Heap.get?_update_self (Obj.mapFields (·.setIfInBounds 4 (Value.bool true))) he3 (Obj.isFreed_of_fields (Obj.data_mapFields (Obj.data_mapFields rfl _) _));have oth:∀ b o,b≠e->hp.get? b=some o->((hp.update e (Obj.mapFields (·.setIfInBounds 3 Value.none))).update e (Obj.mapFields (·.setIfInBounds 4 (Value.bool true)))).get? b=some o:=fun b o n q=>by
  rw[Heap.get?_update_other _ _ (Ne.symm n),Heap.get?_update_other _ _ (Ne.symm n)];exact q
 have nCe:C≠e:=fun z=>by
  rw[z,he] at hC;cases hC
 have hCu:=oth C _ nCe hC;have hhu:=oth h _ hne hh1;refine wpAny_loadPart_at hCu ?_;refine wpAny_pure ?_;rw[if_pos (by rfl)];refine wpAny_pure (wpAny_bind ?_);obtain⟨o4,ho4⟩:∃ o4,o4=(Obj.mapFields (·.setIfInBounds 4 (Value.bool true)) (Obj.mapFields (·.setIfInBounds 3 Value.none) ({cls:=Value.ref C,dict:=od,data:=Data.fields vs,slots:=osl}:Obj))):=⟨_,rfl⟩;have d4:o4.data=.fields ((vs.setIfInBounds 3 Value.none).setIfInBounds 4 (Value.bool true)):=by rw[ho4];rfl
 have c4:o4.cls=.ref C:=by rw[ho4];rfl
 have e4:o4.dict=od:=by rw[ho4];rfl
 rw[<- ho4] at he4;generalize hhp:((hp.update e (Obj.mapFields (·.setIfInBounds 3 Value.none))).update e (Obj.mapFields (·.setIfInBounds 4 (Value.bool true))))=h5 at *;have v1:((vs.setIfInBounds 3 Value.none).setIfInBounds 4 (Value.bool true))[1]?=some .none:=by
  rw[Array.getElem?_setIfInBounds_ne %[|4],Array.getElem?_setIfInBounds_ne %[|4]];exact hv
 have z4:((vs.setIfInBounds 3 Value.none).setIfInBounds 4 (Value.bool true)).size=6:=by simp[hsz]
 generalize ((vs.setIfInBounds 3 Value.none).setIfInBounds 4 (Value.bool true))=v5 at d4 v1 z4;unfold setFlight;refine wpAny_bind (wpAny_field he4 d4 v1 ?_);rw[if_neg (by simp)];refine wpAny_pure ?_;unfold raiseNew;refine wpAny_bind (wpAny_handled ?_);rw[hh];dsimp only;rw[if_pos (by simpa using hne)];refine wpAny_bind (wpAny_holding (U8 rfl hhu hh2 hh3 ?_));unfold updateField;refine wpAny_bind (wpAny_bind (wpAny_load he4 ?_));rw[d4];dsimp only;rw[if_pos (by rw[z4];decide)];refine wpAny_update he4 (wpAny_throw ?_);refine hE _ _ _ (Heap.get?_update_self _ he4 (Obj.isFreed_of_fields (Obj.data_mapFields d4 _))) (by rw[Obj.cls_mapFields];exact c4) (by rw[ZG];exact e4) (Obj.data_mapFields d4 _) (by rw[Array.getElem?_setIfInBounds_ne %[|4]];exact v1) fun b o n q=>?_;rw[Heap.get?_update_other _ _ (Ne.symm n)];exact oth b o n q
theorem Wp {env:Env} {s:Shared} {h:Addr} (Fn:ExcBaseFacts Bn newId inN bmN) (hBn:bmB.contains (.type Bn)=true) (F:ExcBaseFacts B nid initId bmB) {mN:Str->Option Value} {x:Str} {np cpos pos cp:Pos} {ck:Nat} {args:List Expr} {fI:Addr} {Q:Flow->Shared->Prop}
  (hbase:bm.contains (.type "BaseException")=true) (hh:A.handled=some (.ref h)) (hplain:(backTo cpos (starEach args env)).any (·.1)=false) (hni:mN "__init__"=some (.ref fI))
  (hx:wpAny (model prog w) A (eval (.Name x np) env) (fun f s₁=>f=.ref C/\wpAny (model prog w) A (evalArgs (.ref C) true (backTo cpos (starEach args env)) [])
   (fun a s₂=>a.kw=[]/\a.pos.length<=sizeLine/\s₂.heap.get? C=some (excClassObj nm q C N bs bm hdct sn sub ab col dd k0 k1 k2 k3 k5 newId)/\s₂.heap.Ns N mN/\OwnTail s₂.heap bmB bm/\(∃ oI,s₂.heap.get? fI=some oI/\oI.cls=.type "function") /\
    ∀ h' e,Heap.MadeExcOf s₂.heap h' e (.ref C) a.pos->wpAny (model prog w) (A.under (.builtin "type.__call__" ⟨.ref C::a.pos,[]⟩)) (call (.ref fI) (.ref e::a.pos)) (fun r s'=>r=.none/\∃ ob vs oh ws,s'.heap.get? C=some (excClassObj nm q C N bs bm hdct sn sub ab col dd k0 k1 k2 k3 k5 newId)/\s'.heap.get? e=some ob/\ob.cls=.ref C/\ob.data=.fields vs/\vs[1]?=some .none/\vs.size=6/\h≠e/\s'.heap.get? h=some oh/\oh.data=.fields ws/\ws[2]?=some .none /\
     ∀ h' ob' vs',h'.get? e=some ob'->ob'.cls=.ref C->ob'.dict=ob.dict->ob'.data=.fields vs'->vs'[1]?=some .none->(∀ b o,b≠e->s'.heap.get? b=some o->h'.get? b=some o)->E (.ref e) {s' with heap:=h'}) E {s₂ with heap:=h'}) E s₁) E s) :
  wpAny (model prog w) A (exec (.Raise (some (.Call (.Name x np) args [] cpos)) (some (.Constant .none ck cp)) pos) env) Q E s:=by
 rw[arm_exec_Raise];refine wpAny_bind (wpAny_standAt (JB (C:=C) (nm:=nm) (q:=q) (N:=N) (bs:=bs) (bm:=bm) (hdct:=hdct) (sn:=sn) (sub:=sub) (ab:=ab) (col:=col) (dd:=dd) (k0:=k0) (k1:=k1) (k2:=k2) (k3:=k3) (k5:=k5) (newId:=newId) hbase hh
  (fun v s Q q=>wpAny_holding (wpAny_bind (wpAny_Constant_none (wpAny_bind (wpAny_standAt (wpAny_pure q))))))
  (wpAny_bind (wpAny_mono (wpAny_Call_ofName (wpAny_mono hx (fun f s₁ h₁=>?_) fun _ _ x=>x)) (fun v s₃ h₃=>wpAny_bind (wpAny_standAt (wpAny_pure h₃))) fun _ _ x=>x))))
 obtain⟨rfl,h₁⟩:=h₁;unfold callWith;refine wpAny_bind (wpAny_holding (wpAny_mono h₁ (fun a s₂ h₂=>wpAny_bind (wpAny_standAt ?_)) fun _ _ x=>x));obtain⟨apos,akw⟩:=a;obtain⟨hkw,hlen,hC,hn,T,⟨oI,hfI,hfc⟩,h₂⟩:=h₂;obtain rfl:akw=[]:=hkw;obtain⟨hp,g,d,tk,os⟩:=s₂;simp only[hplain];refine wpAny_bind (wpAny_keeperOf_exc hC ?_);refine wpAny_bind (Xy Fn hBn F T hC hn hni hfI hfc (fun h' e hm=>wpAny_mono (h₂ h' e hm) (fun r s' hr=>⟨hr.1,wpAny_bind (wpAny_holding (wpAny_point (wpAny_pure ?_)))⟩) fun _ _ z=>z) hlen);obtain⟨ob,vs,oh,ws,c⟩:=hr.2;exact⟨e,ob,vs,oh,ws,rfl,c⟩
end
noncomputable def dTrr (t:DS) (c x:Str) (i:Nat):DS:=fun D δ M=>t {D with ex:=fun δ' d M'=>∃ n,d=.exc n .non/\ZR n c=true/\∃ k:Int,δ'[i]?=some (some (.int k))/\D.ex δ' (.exc x (.int k)) M'} δ M
section
variable {X:Cx} {body:List Stmt} {t:DS} {cx x xn:Str} {np np2 ap cpos cp rpos hpos pos:Pos} {ck i:Nat}
theorem Ha {C C2:Addr} (hr:Room 0 X.A) (st:X.stack=X.env::X.outer/\X.env.frame=some X.env.locals) (tab:Zj X.K=true) (hcx:cx∈xNames) (hc:YN X.K cx C) (hm:X.mg cx=some (.ref C)) (hg:Gl X cx) (hdb:(cx==("__debug__":Str))=false)
  (hp:xInit.contains x=true) (hc2:YN X.K x C2) (hm2:X.mg x=some (.ref C2)) (hg2:Gl X x) (hdb2:(x==("__debug__":Str))=false)
  (hN:X.N[i]?=some xn) (hv:Vis X.env.scope xn) (hd1:(xn==("__debug__":Str))=false) (hd2:(xn==("__classdict__":Str))=false)
  (hbd:∀ xe pins,PassesOwn (model X.prog X.w) X.A X.env xe->PSs (X.tri xe pins) body (Yx (X.tri xe pins) false t)) :
  PS X (.Try body [.ExceptHandler (some (.Name cx np)) none [.Raise (some (.Call (.Name x np2) [.Name xn ap] [] cpos)) (some (.Constant .none ck cp)) rpos] hpos] [] [] pos) (Yx X true (dTrr t cx x i)):=by
 rintro pins s σ H Z I ⟨δ,M,D,rs,rm,t,n,r,b,c⟩;refine wpAny_Try_except ?_;generalize hxe:(fun e s₁=>wpAny (model X.prog X.w) X.A (noteFrame e X.env) (fun _ s₂=>wpAny (model X.prog X.w) X.A (setFlight e none) (fun _ s₃=>wpAny (model X.prog X.w) X.A (handleBy e X.env [.ExceptHandler (some (.Name cx np)) none [.Raise (some (.Call (.Name x np2) [.Name xn ap] [] cpos)) (some (.Constant .none ck cp)) rpos] hpos]) (SP X pins Z) X.xe s₃) X.xe s₂) X.xe s₁)=xe;have po:PassesOwn (model X.prog X.w) X.A X.env xe:=by rw[<- hxe];exact PassesOwn.looking
 have ok:=I.ok;refine wpAny_mono (hbd xe pins po [] s σ H Z (Us I xe) ⟨δ,M,_,⟨rs.toSlots,⟨?_,fun z=>(by cases z),fun z=>(by cases z)⟩⟩,rm,t,fun δ' M' σ' H' x rs' m' h'=>n δ' M' σ' H' x ⟨rs'.toSlots,(X.L true D.ex).mono _ _ x rs.ok⟩ m' h',r,fun δ' M' σ' H' x rs' m' h'=>b δ' M' σ' H' x ⟨rs'.toSlots,(X.L true D.ex).mono _ _ x rs.ok⟩ m' h',fun δ' M' σ' H' x rs' m' h'=>c δ' M' σ' H' x ⟨rs'.toSlots,(X.L true D.ex).mono _ _ x rs.ok⟩ m' h'⟩) (fun fl s' q=>?_) fun e s' q=>q
 ·intro pins' σ' H1 s1 H' e C' dd s' δ' M' n' xd x1 I1 th m' sl hn' hc' ed ⟨n2,en,hsub,kk,hkk,hex⟩
  cases en;rw[<- hxe];have I1':L2.Inv X pins σ' H1 s1:=Yq ok I1;have cle:Xz s'.heap e:=th.cl (by
   cases ed with
   | plain _=>exact .inl rfl
   | fld hi hd rx=>cases rx;exact .inr ⟨_,_,rfl,hd⟩)
  obtain⟨B,os,bare,un,old,hokB,fl⟩:=th.ex;have fl':Flies B (X.env::X.outer) e (.ref C') dd .none s'.heap:=by rw[<- st.1];exact fl
  have fr:X.A.frames=some (X.env::X.outer):=by rw[<- st.1];exact ok.frames
  have ff:∀ b∈frs X.stack,∃ o,s'.heap.get? b=some o/\∀ vs,o.data≠.fields vs:=fun b hb=>(fl.frames.mem hb).2;refine Wf fr st.2 fl' fun h2 F2 n2'=>Z8 F2 fun h3 F3 n3=>?_;have I3:L2.Inv X pins σ' H' {s' with heap:=h3}:=I1'.call' (s':={s' with heap:=h3}) os (Zh un old F3.stays ff (n2'.trans n3)) (hokB.kept F3.stays) bare (fun b hb=>by cases hb);have I3h:=XL I3 e;have LT:PySem.W.Looks (model X.prog X.w) h3 (typeOf (.ref e)) (.ref C'):=by
   obtain⟨oe,vs,T,oT,ts,q1,q2,_⟩:=F3.tr;exact q2 ▸ (PySem.W.Looks.ld q1).andThen .now
  have hx:=((YA tab hn' hc').2.2.2 cx C hcx hc).1;rw[hsub] at hx;refine wpAny_handleBy_cons (codeAny_handlers_test (Zu (X:=X.hnd e) I3h hg hm ((PySem.W.exm_one I3.kIn LT hx).at ?_) hdb)) (by intro z;cases z);show codeAny _ _ _ _ _;refine codeAny_handlers_suite (Z8 (s:={s' with heap:=h3}) F3 fun h4 F4 n4=>?_);have I4:L2.Inv X pins σ' H' {s' with heap:=h4}:=I1'.call' (s':={s' with heap:=h4}) os (Zh un old F4.stays ff (n2'.trans (n3.trans n4))) (hokB.kept F4.stays) bare (fun b hb=>by cases hb);have cl4:Xz h4 e:=n4.2.2 _ (n3.2.2 _ (n2'.2.2 _ cle));have H'e:H' e=none:=by
   cases q:H' e with
   | none=>rfl
   | some u=>obtain⟨ob,z⟩:=Zl (hokB e u q);rw[fl.new] at z;cases z
  have I4h:=XL I4 e;have hslot:=sl.slot i _ hkk;obtain⟨v1,hs1,rv1⟩:=hslot;obtain rfl:v1=.int kk:=by cases rv1;rfl
  have hi:x∈xInit:=by simpa using hp
  have hn:x∈xNames:=List.mem_cons_of_mem _ (List.mem_append_right _ hi);have FV:=PySem.F.excBase_ValueError;obtain⟨Bc,fI,T⟩:=Vk tab hi hc2;refine V0 (C:=C2) I.ok.mod.kin T.ex fun bm Nn nm q bs sn sub ab col ddc k0 k1 k2 k3 k5 mN hC hNs hni OT cd hci hdc hpm=>?_;obtain⟨oI,hfK,hfc⟩:∃ oI,X.K.lookup fI=some oI/\oI.cls=.type "function":=by
   have tf:=T.fn;unfold Vj at tf;split at tf
   next lk=>exact⟨_,lk,rfl⟩
   next=>cases tf
  have hmB:X.mg "CordError"=some (.ref Bc):=by
   have e:=T.b;unfold Xx at e;split at e
   next q=>cases e;exact PySem.W.mg_of I.ok.mod.kin I.ok.mod.glob q
   next=>cases e
  refine wpAny_execs_cons ?_;refine Wp (h:=e) (C:=C2) (nm:=nm) (q:=q) (N:=Nn) (bs:=bs) (bm:=bm) (bmB:=bmV) (hdct:=true) (sn:=sn) (sub:=sub) (ab:=ab) (col:=col) (dd:=ddc) (k0:=k0) (k1:=k1) (k2:=k2) (k3:=k3) (k5:=k5) (fI:=fI) FV %[|4] FV (mN:=mN)
   (OT.hasType %[|4]) rfl rfl hni (Zu (X:=X.hnd e) I4h hg2 hm2 ⟨rfl,?_⟩ hdb2)
  refine Calls.evalArgs_plain ?_;obtain⟨oe,ews,ce1,ce2,ce3⟩:=cl4;have efs:e ∉ frs X.stack:=fun z=>by
   obtain⟨_,o,q,rr⟩:=I4.stack.mem z;rw[ce1] at q;cases q;exact rr _ ce2
  have eloc:e≠X.env.locals:=fun z=>by
   obtain⟨m,⟨o,es,ep,g1,g2,_⟩,_⟩:=I4.loc;rw[<- z,ce1] at g1;cases g1;rw[ce2] at g2;cases g2
  have I4p:L2.Inv (X.hnd e) ((e,oe)::pins) σ' H' {s' with heap:=h4}:=XJ I4h fun p hp=>by
   rcases List.mem_append.mp hp with hp|hp
   ·exact I4h.pin p (List.mem_append_left _ hp)
   rcases List.mem_cons.mp hp with rfl|hp
   ·exact⟨ce1,H'e,eloc,fun z=>efs (by rw[st.1,Jf st.2];exact List.mem_cons_of_mem _ z),fun v z=>by rw[ce2] at z;cases z⟩
   ·exact I4h.pin p (List.mem_append_right _ hp)
  refine wpAny_mono ((WV (XU (X:=X.hnd e) hN hv hd1 hd2) JH) cpos ((e,oe)::pins) {s' with heap:=h4} σ' H' (fun vs H1=>H1=H'/\vs=[.int kk]) I4p ⟨_,hs1,rfl,rfl⟩) (fun us s5 hq1=>?_) fun _ _ z=>z.elim;obtain⟨vs,H5,I5p,r5,rfl,rfl⟩:=hq1;have hcl5:Xz s5.heap e:=⟨oe,ews,(I5p.pin (e,oe) (List.mem_append_right _ List.mem_cons_self)).1,ce2,ce3⟩;have I5h:L2.Inv (X.hnd e) pins σ' H5 s5:=XJ I5p fun p hp=>I5p.pin p (by
   rcases List.mem_append.mp hp with hp|hp
   ·exact List.mem_append_left _ hp
   ·exact List.mem_append_right _ (List.mem_cons_of_mem _ hp))
  have I5:=Wv ok I5h;obtain⟨u1,rfl,ru⟩:∃ u1,us=[u1]/\RelV (.int kk) u1:=by cases r5 with|cons a b=>cases b;exact⟨_,rfl,a⟩
  have cl5:Xz s5.heap e:=hcl5;obtain⟨oh,ows,ch1,ch2,ch3⟩:=cl5;refine⟨rfl,by show 1<=sizeLine;simp[sizeLine_eq],I5.bk _ _ hC,hNs.keeps I5.bk,OT.keeps I5.bk,⟨oI,I5.kIn _ _ hfK,hfc⟩,fun h' e0 mk=>?_⟩;have ne1:∀ b o,s5.heap.get? b=some o->b≠e0:=fun b o q z=>by rw[z,mk.new] at q;cases q
  have H1e:H5 e0=none:=by
   cases q:H5 e0 with
   | none=>rfl
   | some u=>obtain⟨ob,z⟩:=Zl (I5.hok e0 u q);exact absurd rfl (ne1 _ _ z)
  have J:L2.Inv (X.hnd e) pins σ' H5 {s5 with heap:=h'}:=I5h.call' (s':={s5 with heap:=h'}) (ch:=[]) rfl (Un.kept mk.keeps) (I5h.hok.kept mk.keeps) I5h.bare (fun b hb=>by cases hb);obtain⟨t0,q1,_,_⟩:=mk.there;refine wpAny_call (UT T (YA tab hn hc2).1.obj hmB (by rw[L2.make_depth];have:=hr.dp;show X.A.depth+_ < _;omega) (J.env0.make C2 [u1] []) q1 rfl rfl rfl rfl rfl rfl H1e ?_ (fun z=>?_) ru fun s3 E3=>⟨rfl,?_⟩)
  ·cases q:X.base.get? e0 with
   | none=>rfl
   | some o=>exact absurd rfl (ne1 _ _ (I5.bk _ _ q))
  ·obtain⟨_,o,q,_⟩:=I5.stack.mem z
   exact absurd rfl (ne1 _ _ q)
  refine E3.on fun ob ws d u a1 a2 a3 a4 a5 aC aZ a6 a7 a8 a9=>?_;have dn:∀ b o,s5.heap.get? b=some o->b≠d:=fun b o q z=>by
   have:=Heap.lt_size (mk.keeps b o q);rw[z] at this;exact absurd (Nat.lt_of_lt_of_le this a8) (Nat.lt_irrefl _)
  have de:d≠e0:=fun z=>by
   have:=Heap.lt_size q1;rw[<- z] at this;exact absurd (Nat.lt_of_lt_of_le this a8) (Nat.lt_irrefl _)
  have C3:s3.heap.get? C2=some (excClassObj nm q C2 Nn bs bm true sn sub ab col ddc k0 k1 k2 k3 k5 "ValueError.__new__"):=by
   have bC:=I5.bk _ _ hC;refine E3.un.keep C2 _ (mk.keeps _ _ bC) (I5.bs _ _ hC).2 (fun z=>?_) (by simpa using ne1 _ _ bC);have:=(I5.stack.mem z).1;rw[hC] at this;cases this
  have c3:s3.heap.get? e=some oh:=by
   refine E3.un.keep e _ (mk.keeps _ _ ch1) H'e (fun z=>?_) (by simpa using ne1 _ _ ch1);obtain⟨_,o,q,rr⟩:=I5.stack.mem z;rw[ch1] at q;cases q;exact rr _ ch2
  refine⟨ob,ws,oh,ows,C3,a1,a2,a4,a5,aZ,ne1 _ _ ch1,c3,ch2,ch3,fun hF obF vsF f1 f2 f3 f4 f5 f6=>?_⟩;have x5:HExt X.K H5 (upd H5 d (.ext (ZJ d (Yi x) (.int kk)))):=.upd (.inl a9);have m5:RepM X.K (upd H5 d (.ext (ZJ d (Yi x) (.int kk)))) M':=fun a o q=>(m' a o q).ext x5 fun z=>by subst z;exact absurd a9 (m' a o q).fresh
  have neH:∀ b u,H5 b=some u->b≠d:=fun b u q z=>by rw[z,a9] at q;cases q
  have hid:∀ b o,b≠e0->s3.heap.get? b=some o->(hideAll s3.heap [e0]).get? b=some o:=fun b o n q=>PySem.W.hideAll_get _ q (by simpa using n);have un5:Un (frs X.stack) [] H5 (upd H5 d (.ext (ZJ d (Yi x) (.int kk)))) s5.heap (hideAll s3.heap [e0]):={
   keep:=fun b o q nn hf _=>hid b o (ne1 b o q) (E3.un.keep b o (mk.keeps b o q) nn hf (by simpa using ne1 b o q)),
   slot:=fun b o q nn hf _=>by obtain⟨sl,z⟩:=E3.un.slot b o (mk.keeps b o q) nn hf (by simpa using ne1 b o q);exact⟨sl,hid b _ (ne1 b o q) z⟩,
   free:=fun b o q nn _=>by rw[Y6 (dn b o q)];exact nn,
   there:=fun b o q _=>by obtain⟨o',z⟩:=E3.un.there b o (mk.keeps b o q) (by simpa using ne1 b o q);exact⟨o',hid b _ (ne1 b o q) z⟩,
   tups:=fun b xs q=>by rw[Y6 (neH b _ q)];exact q,
   frzs:=fun b o u q=>by rw[Y6 (neH b _ q)];exact q,
   tbls:=fun b ps q=>⟨#[],by rw[Y6 (neH b _ q)];simpa using q⟩}
  have n7:(hideAll s3.heap [e0]).Ns1 d (fun y=>if y=Yi x then some u else none):=a7.at fun o q=>hid d o de q;have hok5:HOk X.prog X.w (upd H5 d (.ext (ZJ d (Yi x) (.int kk)))) (hideAll s3.heap [e0]):=fun a o q=>by
   by_cases z:a=d
   ·subst z;rw[upd_same] at q;cases q
    obtain⟨o,es',ep',q',_⟩:=id n7;exact⟨⟨u,a6,n7⟩,⟨o,q'⟩,fun g1 g2 ⟨u',c1,c2⟩ k=>⟨u',c1,c2.at k⟩⟩
   ·rw[Y6 z] at q
    refine (E3.hok a o q).stay (fun c u hc r=>hid c u (fun z=>?_) r) (fun c q=>by rw[Y6 (neH c _ q)];exact q) fun c xs q=>by rw[Y6 (neH c _ q)];exact q
    subst z;rcases hc with rfl|hc
    ·rw[H1e] at q;cases q
    ·rw[H1e] at hc;cases hc
  have I6:L2.Inv X pins σ' (upd H5 d (.ext (ZJ d (Yi x) (.int kk)))) {s3 with heap:=hideAll s3.heap [e0]}:=I5.call' (s':={s3 with heap:=hideAll s3.heap [e0]}) E3.os un5 hok5 E3.bare (fun b hb=>by cases hb);have cl6:¬ V2 (upd H5 d (.ext (ZJ d (Yi x) (.int kk)))) (some d):=by
   rintro (z|⟨d',f,z,q⟩)
   ·cases z
   cases z;obtain⟨⟨u',r1,r2⟩,_⟩:=hok5 d _ q;obtain⟨o1,es1,ep1,g1,g2,_,_,g3⟩:=r2;obtain⟨o2,es2,ep2,k1,k2,_,_,k3⟩:=n7;rw[g1] at k1;cases k1;rw[g2] at k2;cases k2;have this:(if Yi x=f then some u' else none)=(if Yi x=Yi x then some u else none):=(g3 (Yi x)).symm.trans (k3 (Yi x));rw[if_pos (rfl:Yi x=Yi x)] at this;split at this
   ·have e3:=Option.some.inj this
    have r3:u'=Value.none:=r1;have r4:RelV (.int kk) Value.none:=by rw[<- r3,e3];exact a6
    obtain⟨_,r4⟩:=r4;cases r4
   ·cases this
  have nd6:(hideAll s3.heap [e0]).get? e0=none:=PySem.W.hideAll_none _ List.mem_cons_self;have mk6:Made (hideAll s3.heap [e0]) hF e0 (.ref C2) (some d):=⟨fun b o q=>f6 b o (fun z=>by rw[z,nd6] at q;cases q) (PySem.W.of_hideAll _ q),nd6,obF,vsF,f1,f2,f3.trans a3,f4,f5⟩;generalize hideAll s3.heap [e0]=hX at I6 mk6;have hin:∀ env∈X.stack,∀ a,env.frame=some a->a∈frs X.stack:=fun env he b hb=>List.mem_filterMap.mpr ⟨env,he,hb⟩;have stB:(hideAll hX (frs X.stack)).StaysIn hX:=fun b o q=>PySem.W.of_hideAll _ q;have fF:=PySem.W.funFrames_hide I6.stack hin;rw[st.1] at fF;show wpAny (model X.prog X.w) (X.A.mark (some (.ref e))) (noteFrame (.ref e0) X.env) (fun _ s2=>cameBackBy (model X.prog X.w) X.A X.env X.xe (.ref e0) s2) _ {s3 with heap:=hF};refine B7 (A':=X.A.mark (some (.ref e))) (s:={s3 with heap:=hF}) fr st.2 fF (by rw[<- st.1];exact stB) mk6 fun h'' F'' nr=>?_
  rw[<- st.1] at F'';have old:∀ b o,hX.get? b=some o->(upd H5 d (.ext (ZJ d (Yi x) (.int kk)))) b=none->b ∉ frs X.stack->(hideAll hX (frs X.stack)).get? b=some o:=fun b o q _ hb=>PySem.W.hideAll_get _ q hb;have ffs:∀ b∈frs X.stack,∃ o,hX.get? b=some o/\∀ vs,o.data≠.fields vs:=fun b hb=>(I6.stack.mem hb).2;refine rs.ok.back rfl pins σ' _ {s3 with heap:=hX} _ e0 C2 (some d) {s3 with heap:=h''} δ' M' x (.int kk) (x1.trans x5) I6 ⟨⟨_,rfl,I6.bare,Zh .refl old F''.stays ffs ((Near.kept mk6.keeps).trans nr),old,fun a o q=>?_,F''⟩,fun z=>absurd z cl6⟩ m5 (sl.ext x5) hn hc2 (.fld hi upd_same (.int kk)) hex;refine (I6.hok a o q).stay (fun c u hc r=>PySem.W.hideAll_get _ r fun z=>?_) (fun _ q=>q) fun _ _ q=>q;have:=I6.stkFree c z;rcases hc with rfl|hc
  ·rw[q] at this;cases this
  ·rw[hc] at this;cases this
 ·have q':SP X pins Z fl s':=by
   cases fl with
   | next=>obtain⟨σ',H',I',z⟩:=q;exact⟨σ',H',Yq ok I',z⟩
   | brk=>obtain⟨σ',H',I',z⟩:=q;exact⟨σ',H',Yq ok I',z⟩
   | cont=>obtain⟨σ',H',I',z⟩:=q;exact⟨σ',H',Yq ok I',z⟩
   | ret u=>obtain⟨v,σ',H',I',rr,z⟩:=q;exact⟨v,σ',H',Yq ok I',rr,z⟩
  cases fl with
  | next =>
   obtain⟨σ',H',I',z⟩:=q';exact pss_nil pins s' σ' H' Z I' z
  | brk=>exact q'
  | cont=>exact q'
  | ret u=>exact q'
end
end DL
end
noncomputable section
namespace DL
open PySem PySem.Spec PyProof.Rows L2
mutual
inductive CS where
 | expr (e:CE)|ret (e:CE)
 | ife (c:CE) (a b:CSs)
 | set (i:Nat) (e:CE)
 | asg (g:CG) (e:CE)
 | par (i j:Nat) (a b:CE)
 | par3 (i j l:Nat) (a b c:CE)
 | whl (c:CE) (b:CSs)
 | fr (g:CG) (it:CI) (b:CSs)
 | rsi (x:Str) (es:CEs)
 | trh (b:CSs) (c:Str) (ie:Nat) (hs:CSs)
 | trr (b:CSs) (c x:Str) (i:Nat)
inductive CSs where
 | nil|cons (s:CS) (r:CSs)
end
mutual
noncomputable def rS:CS->DS
 | .expr e=>FL (fun Xe=>(rE Xe e).e)
 | .ret e=>dRet (fun Xe=>(rE Xe e).e)
 | .ife c a b=>dIfS (fun Xe=>(rE Xe c).t) (rSs a) (rSs b)
 | .set i e=>dAsg (fun Xe=>(rE Xe e).e) (fun _=>Xi i)
 | .asg g e=>dAsg (fun Xe=>(rE Xe e).e) (fun Xe=>rG Xe g)
 | .par i j a b=>dPar i j (fun Xe=>YS (rE Xe a).e (YS (rE Xe b).e dNil))
 | .par3 i j l a b c=>Dn i j l (fun Xe=>YS (rE Xe a).e (YS (rE Xe b).e (YS (rE Xe c).e dNil)))
 | .whl c b=>Dl (fun Xe=>(rE Xe c).t) (rSs b)
 | .fr g it b=>dFor (fun Xe=>rI Xe it) (fun Xe=>rG Xe g) (rSs b)
 | .rsi x es=>YR x (fun Xe=>rEs Xe es)
 | .trh b c ie hs=>dTrh (rSs b) (rSs hs) c ie
 | .trr b c x i=>dTrr (rSs b) c x i
noncomputable def rSs:CSs->DS
 | .nil=>Ay
 | .cons s r=>dSeq (rS s) (rSs r)
end
noncomputable def Xr:Expr->Bool
 | .ListComp ..=>true
 | .SetComp ..=>true
 | .DictComp ..=>true
 | _=>false
theorem Jx (h:env.kindOf x=some .cell) (y:Expr) (px:Pos) (n:Nat):swapsWith y (some (.Name x px)) n env=pure false:=by
 unfold swapsWith;split
 ·simp only[h]
  rw[show ((some NameKind.cell==some NameKind.local)=false) from rfl];simp
 ·rfl
noncomputable def Fy (k:Ck) (x:Str) (px:Pos) (e:CE) (y:Expr):Bool :=
 match e,y with
 | .comp ..,.ListComp _ _ sc p=>decide (k.sc.kind=.function)&&decide (k.kind x=some .local)&&decide (px.line=p.line)&&!(sc.names.any fun y=>y.1==x&&(y.2==.local || y.2==.cell))
 | _,_=>false
noncomputable def JK:Expr->Expr->Bool
 | .Tuple (.Subscript ..::_) _ _,.Tuple ..=>true
 | .Tuple ..,.Tuple vs _ _=>vs.all (foldedForSure 8)
 | .List ..,_=>false
 | _,_=>true
noncomputable def Dt (k:Ck) (tg y:Expr):Bool :=
 Zx tg fun xs _ _=>Y8 xs fun a r=>Yw a fun x _=>Y8 r fun b r=>Yw b fun z _=>qNil r (Zx y fun _ _ _=>decide (k.kind x=some .cell) || decide (k.kind z=some .cell))
noncomputable def YF:Expr->Bool
 | .Starred ..=>false
 | _=>true
mutual
noncomputable def isS (k:Ck) (rz:Bool):CS->Stmt->Bool
 | .expr e,s=>BR s fun x p=>isE k e x&&!Xr x
 | .ret e,s=>Ae s fun v p=>WH v fun v=>isE k e v
 | .ife c a b,s=>qIf s fun x xs ys p=>isE k c x&&isSs k rz a xs&&isSs k rz b ys
 | .set i e,s=>XD s fun ts y p=>Y8 ts fun tg ts=>qNil ts (Yw tg fun x px=>decide (k.N[i]?=some x)&&k.loc x&&isE k e y&&((!Xr y || decide (k.kind x=some .cell)) || Fy k x px e y))
 | .asg g e,s=>XD s fun ts y p=>Y8 ts fun tg ts=>qNil ts (isG k g tg&&isE k e y&&!Xr y&&(JK tg y || Dt k tg y))
 | .par i j a b,s=>XD s fun ts v p=>Y8 ts fun tg ts=>Zx tg fun xs q1 p1=>Y8 xs fun x xs=>Yw x fun x px=>Y8 xs fun y xs=>Yw y fun y py=>qNil xs (qNil ts (Zx v fun us q2 p2=>Y8 us fun u us=>Y8 us fun v us=>qNil us (decide (k.N[i]?=some x)&&decide (k.N[j]?=some y)&&!decide (i=j)&&decide (k.kind x=some .local)&&decide (k.kind y=some .local)&&isE k a u&&isE k b v&&decide (px.line=py.line)&&!([u,v].all (foldedForSure 8))&&!([u,v].all (constantsAlone 8))&&YF u&&YF v&&decide (k.sc.kind=.function)&&k.cal)))
 | .par3 i j l a b c,s=>XD s fun t1 t11 p=>Y8 t1 fun t2 t10=>Zx t2 fun t3 q1 p1=>Y8 t3 fun t4 t5=>Yw t4 fun x px=>Y8 t5 fun t6 t7=>Yw t6 fun y py=>Y8 t7 fun t8 t9=>Yw t8 fun z pz=>qNil t9 (qNil t10 (Zx t11 fun t12 q2 p2=>Y8 t12 fun u t13=>Y8 t13 fun v t14=>Y8 t14 fun w t15=>qNil t15 (decide (k.N[i]?=some x)&&decide (k.N[j]?=some y)&&decide (k.N[l]?=some z)&&!decide (i=j)&&!decide (i=l)&&!decide (j=l)&&decide (k.kind x=some .local)&&decide (k.kind y=some .local)&&decide (k.kind z=some .local)&&isE k a u&&isE k b v&&isE k c w&&decide (px.line=py.line)&&decide (px.line=pz.line)&&!([u,v,w].all (foldedForSure 8))&&!([u,v,w].all (constantsAlone 8))&&YF u&&YF v&&YF w&&decide (k.sc.kind=.function)&&k.cal)))
 | .whl c b,s=>BP s fun x xs ys p=>qNil ys (isE k c x&&isSs k rz b xs)
 | .fr g it b,s=>qFor s fun tg iter xs ys p=>qNil ys (isG k g tg&&isI k tg it iter&&isSs k rz b xs&&k.cal)
 | .rsi x es,s=>JD s fun v w p=>WH v fun v=>Zp v fun f xs kw q=>Yw f fun y q'=>Y8 xs fun a r=>qNil kw (Xj w (rz&&decide (x=y)&&xInit.contains x&&k.gl x&&Z2 x&&isEs k es (a::r)&&k.cal))
 | .trh b c ie hs,s=>qTry s fun body hds os fs p=>Y8 hds fun H hds=>Zy H fun ty nm hb hp=>WH ty fun ty=>Yw ty fun cx _=>WH nm fun ne=>Y8 hb fun b0 hb=>qNil hds (qNil os (qNil fs (k.top&&decide (c=cx)&&xNames.contains c&&k.gl c&&Z2 c&&decide (k.N[ie]?=some ne)&&decide (k.kind ne=some .local)&&isSs ⟨k.N,k.sc,k.top,false⟩ false hs (b0::hb)&&isSs k false b body)))
 | .trr b c x i,s=>qTry s fun body t1 t20 t21 p=>Y8 t1 fun t2 t19=>Zy t2 fun t3 t5 t6 hp=>WH t3 fun t4=>Yw t4 fun cx np=>Xj t5 (Y8 t6 fun t7 t18=>JD t7 fun t8 t15 rpos=>WH t8 fun t9=>Zp t9 fun t10 t11 t14 cpos=>Yw t10 fun y np2=>Y8 t11 fun t12 t13=>Yw t12 fun xn ap=>qNil t13 (qNil t14 (WH t15 fun t16=>Yy t16 fun t17 ck cp=>JE t17 (qNil t18 (qNil t19 (qNil t20 (qNil t21 (k.top&&rz&&k.cal&&decide (c=cx)&&xNames.contains c&&k.gl c&&Z2 c&&decide (x=y)&&xInit.contains x&&k.gl x&&Z2 x&&k.slot i xn&&isSs k false b body))))))))
noncomputable def isSs (k:Ck) (rz:Bool):CSs->List Stmt->Bool
 | .nil,xs=>match xs with | []=>true|_=>false
 | .cons s r,xs=>match xs with|x::ys=>isS k rz s x&&isSs k rz r ys|_=>false
end
mutual
noncomputable def onS (P:Str->Str->DSp->Prop) (G:Str->D->Prop):CS->Prop
 | .expr e | .ret e | .set _ e=>onE P G e
 | .ife c a b=>onE P G c/\onSs P G a/\onSs P G b
 | .asg g e=>onG P G g/\onE P G e
 | .par _ _ a b=>onE P G a/\onE P G b
 | .par3 _ _ _ a b c=>onE P G a/\onE P G b/\onE P G c
 | .whl c b=>onE P G c/\onSs P G b
 | .fr g it b=>onG P G g/\onI P G it/\onSs P G b
 | .rsi x es=>G x (.cls x)/\onEs P G es
 | .trh b c _ hs=>G c (.cls c)/\onSs P G b/\onSs P G hs
 | .trr b c x _=>G c (.cls c)/\G x (.cls x)/\onSs P G b
noncomputable def onSs (P:Str->Str->DSp->Prop) (G:Str->D->Prop):CSs->Prop
 | .nil=>True
 | .cons s r=>onS P G s/\onSs P G r
end
mutual
theorem Co:∀ (c:CS),(∀ c x S,P c x S->P' c x S)->(∀ x d,G x d->G' x d)->onS P G c->onS P' G' c
 | .expr e,p,g,h | .ret e,p,g,h | .set _ e,p,g,h=>Y3 e p g h
 | .ife c a b,p,g,h=>⟨Y3 c p g h.1,Yz a p g h.2.1,Yz b p g h.2.2⟩
 | .asg t e,p,g,h=>⟨ZZ t p g h.1,Y3 e p g h.2⟩
 | .par _ _ a b,p,g,h=>⟨Y3 a p g h.1,Y3 b p g h.2⟩
 | .par3 _ _ _ a b c,p,g,h=>⟨Y3 a p g h.1,Y3 b p g h.2.1,Y3 c p g h.2.2⟩
 | .whl c b,p,g,h=>⟨Y3 c p g h.1,Yz b p g h.2⟩
 | .fr t it b,p,g,h=>⟨ZZ t p g h.1,J0 it p g h.2.1,Yz b p g h.2.2⟩
 | .rsi x es,p,g,h=>⟨g _ _ h.1,YW es p g h.2⟩
 | .trh b c _ hs,p,g,h=>⟨g _ _ h.1,Yz b p g h.2.1,Yz hs p g h.2.2⟩
 | .trr b c x _,p,g,h=>⟨g _ _ h.1,g _ _ h.2.1,Yz b p g h.2.2⟩
theorem Yz:∀ (c:CSs),(∀ c x S,P c x S->P' c x S)->(∀ x d,G x d->G' x d)->onSs P G c->onSs P' G' c
 | .nil,_,_,_=>True.intro
 | .cons e es,p,g,h=>⟨Co e p g h.1,Yz es p g h.2⟩
end
theorem V7 (h:Xr e=false) (t:Option Expr) (l:Nat) (env:Env):swapsWith e t l env=pure false:=by
 cases e<;>first|rfl|(simp[Xr] at h)
theorem AI (hx:env.kindOf x=some .local) (hl:px.line=p.line) (hn:(sc.names.any fun y=>y.1==x&&(y.2==.local || y.2==.cell))=false) (hb:env.blockKind=.function) :
  swapsWith (.ListComp elt gs sc p) (some (.Name x px)) l env=pure true:=by
 show (pure (env.blockKind==.function&&env.kindOf x==some .local&&px.line==p.line&&!(sc.names.any fun y=>y.1==x&&(y.2==.local || y.2==.cell))):Sem Bool)=pure true;rw[hb,hx,hl,hn];simp
theorem WF (h:vs.all (foldedForSure 8)=true) (env:Env):swappedStores [.Tuple ts k p] (.Tuple vs k2 p2) env=pure none:=by
 unfold swappedStores;simp only[h,if_true]
 repeat' split
 all_goals rfl
theorem UN (env:Env):swappedStores [.Tuple (.Subscript a b p::ts) k q] (.Tuple vs k2 p2) env=pure none:=by
 unfold swappedStores;have hl:∀ f:Expr->Option Str,f (.Subscript a b p)=none->((Expr.Subscript a b p::ts).filterMap f).length≠(Expr.Subscript a b p::ts).length:=fun f hf=>by
  rw[List.filterMap_cons_none hf];have:=List.length_filterMap_le f ts;simp only[List.length_cons];omega
 dsimp only;split
 ·rfl
 ·split
  ·rfl
  ·rw[if_pos]
   ·have:=hl (fun | .Name id pos=>if env.kindOf id==some .local&&pos.line==(((Expr.Subscript a b p::ts).head?.map (·.pos.line)).getD 0) then some id else none|_=>none) rfl
    simp only[Bool.or_eq_true,bne_iff_ne];exact .inl this
theorem Jy (h:JK tg e=true) (env:Env):swappedStores [tg] e env=pure none:=by
 cases tg with
 | Tuple ts k p =>
  cases e with
  | Tuple vs k2 p2 =>
   cases ts with
   | nil=>exact WF h env
   | cons t ts =>
    cases t with
    | Subscript a b q=>exact UN env
    | _=>exact WF h env
  | _=>rfl
 | List ts p=>exact absurd h Bool.false_ne_true
 | _=>rfl
theorem UM (hx:env.kindOf x=some .local) (hy:env.kindOf y=some .local) (hne:x≠y) (hl:px.line=py.line) (hb:env.blockKind=.function)
  (h1:[u,v].all (foldedForSure 8)=false) (h2:[u,v].all (constantsAlone 8)=false) (hu:YF u=true) (hv:YF v=true) :
  swappedStores [.Tuple [.Name x px,.Name y py] kt pt] (.Tuple [u,v] k2 pt2) env=pure (some [x,y]):=by
 unfold swappedStores;have hs:∀ {z:Expr},YF z=true->(match z with | .Starred ..=>true|_=>false)=false:=fun {z} hz=>by
  cases z<;>first|rfl|exact absurd hz (by simp[YF])
 have hd:[x,y].eraseDups.length=2:=by
  have:(y==x)=false:=by simpa using Ne.symm hne
  simp[List.eraseDups_cons,this]
 have hany:([u,v].any fun | .Starred ..=>true|_=>false)=false:=by
  simp only[List.any_cons,List.any_nil,Bool.or_false];rw[hs hu,hs hv];rfl
 have ha:∀ (f:Expr->Bool),[u,v].all f=(f u&&f v):=fun f=>by simp
 rw[ha] at h1 h2;have hu':=hs hu;have hv':=hs hv;simp[hb,hx,hy,Expr.pos,hl,hd,ha,h1,h2];intro z;rcases z with z|z
 ·exact absurd (hu'.symm.trans z) %[|4]
 ·exact absurd (hv'.symm.trans z) %[|4]
theorem Ub (hx:env.kindOf x=some .local) (hy:env.kindOf y=some .local) (hz:env.kindOf z=some .local) (hxy:x≠y) (hxz:x≠z) (hyz:y≠z) (hl:px.line=py.line) (hl2:px.line=pz.line) (hb:env.blockKind=.function)
  (h1:[u,v,w].all (foldedForSure 8)=false) (h2:[u,v,w].all (constantsAlone 8)=false) (hu:YF u=true) (hv:YF v=true) (hw:YF w=true) :
  swappedStores [.Tuple [.Name x px,.Name y py,.Name z pz] kt pt] (.Tuple [u,v,w] k2 pt2) env=pure (some [x,y,z]):=by
 unfold swappedStores;have hs:∀ {z:Expr},YF z=true->(match z with | .Starred ..=>true|_=>false)=false:=fun {z} hz=>by
  cases z<;>first|rfl|exact absurd hz (by simp[YF])
 have hd:[x,y,z].eraseDups.length=3:=by
  have e1:(y==x)=false:=by simpa using Ne.symm hxy
  have e2:(z==x)=false:=by simpa using Ne.symm hxz
  have e3:(z==y)=false:=by simpa using Ne.symm hyz
  simp[List.eraseDups_cons,e1,e2,e3]
 have ha:∀ (f:Expr->Bool),[u,v,w].all f=(f u&&(f v&&f w)):=fun f=>by simp
 rw[ha] at h1 h2;have hu':=hs hu;have hv':=hs hv;have hw':=hs hw;simp[hb,hx,hy,hz,Expr.pos,<- hl,<- hl2,hd,ha,h1,h2];intro z;rcases z with z|z|z
 ·exact absurd (hu'.symm.trans z) %[|4]
 ·exact absurd (hv'.symm.trans z) %[|4]
 ·exact absurd (hw'.symm.trans z) %[|4]
theorem W9 (C:CtxOk X k):PassesOwn (model X.prog X.w) X.A X.env X.xe:=C.po
theorem CtxOk.tri (C:CtxOk X k) (pins:List (Addr×Obj)) (po:PassesOwn (model X.prog X.w) X.A X.env xe):CtxOk (X.tri xe pins) k :=
 ⟨C.N,C.nd,C.sc,C.fr,C.fn,C.calm,C.room,C.hu,C.blt,po,C.tab,C.st⟩
theorem CtxOk.hnd (C:CtxOk X k) (e:Addr):CtxOk (X.hnd e) ⟨k.N,k.sc,k.top,false⟩ :=
 ⟨C.N,C.nd,C.sc,C.fr,C.fn,fun z=>(by cases z),fun z=>(by cases z),C.hu,C.blt,PassesOwn.never,C.tab,C.st⟩
theorem WZ (G:GloAt X n (.cls n)):∃ C,X.mg n=some (.ref C)/\YN X.K n C:=by
 obtain⟨u,v,e1,e2,e3⟩:=G.ex;have:=e3 fun _=>none;cases this with
 | @cls C _ hn hc=>cases e2;exact⟨C,e1,hc⟩
theorem CtxOk.bk {X:Cx} {k:Ck} (hk:X.env.scope.kind=.function):X.env.blockKind=.function:=by unfold Env.blockKind;rw[hk];rfl
theorem Uc (C:CtxOk X k) (h:Dt k tg y=true):swappedStores [tg] y X.env=pure none:=by
 refine gTuple tg h fun xs kt pt h=>?_;refine Y7 xs h fun a r h=>?_;refine gNm a h fun x px h=>?_;refine Y7 r h fun b r h=>?_;refine gNm b h fun z pz h=>?_;refine gNil r h fun h=>?_;refine gTuple y h fun vs k2 p2 h=>?_;have e:X.env.kindOf x=some .cell\/X.env.kindOf z=some .cell:=by
  rw[Bool.or_eq_true] at h;rcases h with h|h
  ·exact .inl (C.sc _ _ (of_decide_eq_true h) %[|4])
  ·exact .inr (C.sc _ _ (of_decide_eq_true h) %[|4])
 unfold swappedStores;simp only[];split
 ·rfl
 ·split
  ·rfl
  ·rw[if_pos]
   rcases e with e|e
   ·simp[List.filterMap,e]
    split<;>simp
   ·simp[List.filterMap,e]
    split<;>simp
theorem not1 (h:(!a)=true):a=false:=by
 cases a with
 | true=>exact absurd h Bool.false_ne_true
 | false=>rfl
theorem or2 (h:(a || b)=true):a=true\/b=true:=by
 cases a with
 | true=>exact .inl rfl
 | false=>exact .inr h
mutual
theorem sS:∀ (c:CS) (rz:Bool) (k:Ck) (X:Cx) (s:Stmt),CtxOk X k->X.env.scope.kind=.function->onS (FnAt X) (GloAt X) c->isS k rz c s=true->PS X s (Yx X rz (rS c))
 | .expr e,rz,k,X,s,C,bk,on,h=>by
  refine gExpr s h fun x p h=>?_;obtain⟨h1,h2⟩:=and2 (show (isE k e x&&!Xr x)=true from h);exact EX (fun Xe=>(sE e rz Xe k X _ C on h1).pe) (V7 (not1 h2) _ _ _)
 | .ret e,rz,k,X,s,C,bk,on,h=>by
  refine gReturn s h fun v p h=>?_;refine gSome v h fun v h=>?_;exact Hc (fun Xe=>(sE e rz Xe k X v C on h).pe)
 | .ife c a b,rz,k,X,s,C,bk,on,h=>by
  refine gIf s h fun x xs ys p h=>?_;obtain⟨h1,h3⟩:=and2 (show (_&&isSs k rz b ys)=true from h);obtain⟨h1,h2⟩:=and2 (show (isE k c x&&isSs k rz a xs)=true from h1);exact IJ (fun Xe=>(sE c rz Xe k X _ C on.1 h1).pt) (sSs a rz k X _ C bk on.2.1 h2) (sSs b rz k X _ C bk on.2.2 h3)
 | .set i e,rz,k,X,s,C,bk,on,h=>by
  refine gAssign s h fun ts y p h=>?_;refine Y7 ts h fun tg ts h=>?_;refine gNil ts h fun h=>?_;refine gNm tg h fun x px h=>?_;obtain⟨h1,h4⟩:=and2 (show (_&&((!Xr y || decide (k.kind x=some .cell)) || Fy k x px e y))=true from h);obtain⟨h1,h3⟩:=and2 (show (_&&isE k e y)=true from h1);obtain⟨h1,h2⟩:=and2 (show (decide (k.N[i]?=some x)&&k.loc x)=true from h1);have hi:=of_decide_eq_true h1;clear h1;rcases or2 h4 with h4|h4
  ·rcases or2 h4 with h4|h4
   ·exact D8 (by rw[C.N];exact C.nd) (by rw[C.N];exact hi) (C.loc h2).1 (fun Xe=>(sE e rz Xe k X _ C on h3).pe) (V7 (not1 h4) _ _ _) (C.loc h2).2
   ·exact D8 (by rw[C.N];exact C.nd) (by rw[C.N];exact hi) (C.loc h2).1 (fun Xe=>(sE e rz Xe k X _ C on h3).pe) (Jx (C.sc _ _ (of_decide_eq_true h4) %[|4]) _ _ _) (C.loc h2).2
  ·cases e with
   | comp N' n g it elt =>
    cases y with
    | ListComp y gs sc p =>
     obtain⟨h4,h7⟩:=and2 (show (_&&!(sc.names.any fun y=>y.1==x&&(y.2==.local || y.2==.cell)))=true from h4);obtain⟨h4,h6⟩:=and2 (show (_&&decide (px.line=p.line))=true from h4);obtain⟨h4,h5⟩:=and2 (show (decide (k.sc.kind=.function)&&decide (k.kind x=some .local))=true from h4);refine Y7 gs (show Y8 gs _=true from h3) fun q r h3=>?_;refine gMk q h3 fun tg iter ifs z h3=>?_;refine gNil ifs h3 fun h3=>?_;refine gNil r h3 fun h3=>?_;obtain⟨h3,hcal⟩:=and2 (show (_&&k.cal)=true from h3);obtain⟨h3,g5⟩:=and2 (show (_&&isE ⟨N',sc,false,k.cal⟩ elt y)=true from h3);obtain⟨h3,g4⟩:=and2 (show (_&&isI k tg it iter)=true from h3);obtain⟨h3,g3⟩:=and2 (show (_&&isG ⟨N',sc,false,k.cal⟩ g tg)=true from h3);obtain⟨h3,g2⟩:=and2 (show (_&&decide (n=N'.length-k.N.length))=true from h3);obtain⟨h3,g1⟩:=and2 (show (decide (z=0)&&blkB k N' sc)=true from h3);obtain rfl:=of_decide_eq_true h3;obtain rfl:=of_decide_eq_true g2
     have si:=fun Xe=>sI it rz Xe k X tg _ C on.2.1 g4;rw[<- C.N];exact EU (C.calm hcal) (UG C g1).1 (fun Xe=>(si Xe).pi) (fun cl Cn s H ex=>⟨(sG g false X0 ⟨N',_,false,k.cal⟩ (YE X N' _ cl Cn s H ex []) _ (C.blk g1 cl Cn s H ex) (ZZ g (fun c x S F=>⟨F.ex⟩) (fun x d F=>⟨F.ex⟩) on.1) g3).pg,
      (sE elt false X0 ⟨N',_,false,k.cal⟩ (YE X N' _ cl Cn s H ex []) _ (C.blk g1 cl Cn s H ex) (Y3 elt (fun c x S F=>⟨F.ex⟩) (fun x d F=>⟨F.ex⟩) on.2.2) g5).pe⟩) ((si X0).set _)
      (AI (C.sc _ _ (of_decide_eq_true h5) %[|4]) (of_decide_eq_true h6) (not1 h7) (CtxOk.bk (k:=k) bk)) (by rw[C.N];exact C.nd) (by rw[C.N];exact hi) (C.loc h2).1 (C.loc h2).2
    | _=>exact absurd h4 Bool.false_ne_true
   | _=>exact absurd h4 Bool.false_ne_true
 | .asg g e,rz,k,X,s,C,bk,on,h=>by
  refine gAssign s h fun ts y p h=>?_;refine Y7 ts h fun tg ts h=>?_;refine gNil ts h fun h=>?_;obtain⟨h1,h4⟩:=and2 (show (_&&(JK tg y || Dt k tg y))=true from h);obtain⟨h1,h3⟩:=and2 (show (_&&!Xr y)=true from h1);obtain⟨h1,h2⟩:=and2 (show (isG k g tg&&isE k e y)=true from h1);have s1:=fun Xe=>sG g rz Xe k X _ C on.1 h1;have h5:swappedStores [tg] y X.env=pure none:=(or2 h4).elim (fun h4=>Jy h4 _) (fun h4=>Uc C h4);exact Hf (fun Xe=>(sE e rz Xe k X _ C on.2 h2).pe) (fun Xe=>(s1 Xe).pg) (V7 (not1 h3) _ _ _) h5 (by rw[(s1 X0).as];rfl)
 | .par i j a b,rz,k,X,s,C,bk,on,h=>by
  refine gAssign s h fun ts v p h=>?_;refine Y7 ts h fun tg ts h=>?_;refine gTuple tg h fun xs q1 p1 h=>?_;refine Y7 xs h fun x xs h=>?_;refine gNm x h fun x px h=>?_;refine Y7 xs h fun y xs h=>?_;refine gNm y h fun y py h=>?_;refine gNil xs h fun h=>?_;refine gNil ts h fun h=>?_;refine gTuple v h fun us q2 p2 h=>?_;refine Y7 us h fun u us h=>?_;refine Y7 us h fun v us h=>?_;refine gNil us h fun h=>?_;obtain⟨h,hcal⟩:=and2 (show (_&&k.cal)=true from h);obtain⟨h,h13⟩:=and2 (show (_&&decide (k.sc.kind=.function))=true from h);obtain⟨h,h12⟩:=and2 (show (_&&YF v)=true from h);obtain⟨h,h11⟩:=and2 (show (_&&YF u)=true from h);obtain⟨h,h10⟩:=and2 (show (_&&!([u,v].all (constantsAlone 8)))=true from h);obtain⟨h,h9⟩:=and2 (show (_&&!([u,v].all (foldedForSure 8)))=true from h);obtain⟨h,h8⟩:=and2 (show (_&&decide (px.line=py.line))=true from h);obtain⟨h,h7⟩:=and2 (show (_&&isE k b v)=true from h);obtain⟨h,h6⟩:=and2 (show (_&&isE k a u)=true from h)
  obtain⟨h,h5⟩:=and2 (show (_&&decide (k.kind y=some .local))=true from h);obtain⟨h,h4⟩:=and2 (show (_&&decide (k.kind x=some .local))=true from h);obtain⟨h,h3⟩:=and2 (show (_&&!decide (i=j))=true from h);obtain⟨h,h2⟩:=and2 (show (decide (k.N[i]?=some x)&&decide (k.N[j]?=some y))=true from h);have h1:=of_decide_eq_true h;have h2:=of_decide_eq_true h2;have h3:¬ i=j:=of_decide_eq_false (not1 h3);have s1:=fun Xe=>sE a rz Xe k X _ C on.1 h6;have s2:=fun Xe=>sE b rz Xe k X _ C on.2 h7;have kx:=C.sc _ _ (of_decide_eq_true h4) %[|4];have ky:=C.sc _ _ (of_decide_eq_true h5) %[|4];exact Hd (C.calm hcal) (by rw[C.N];exact C.nd) (by rw[C.N];exact h1) (by rw[C.N];exact h2) h3 kx ky (fun Xe=>Z9 (s1 Xe).pe (Z9 (s2 Xe).pe Xu ((s2 Xe).sh.star _ _)) ((s1 Xe).sh.star _ _))
   (UM kx ky (fun z=>h3 (ZA C.nd h1 (z ▸ h2))) (of_decide_eq_true h8) (CtxOk.bk (k:=k) bk) (not1 h9) (not1 h10) h11 h12) rfl
 | .par3 i j l a b c,rz,k,X,s,C,bk,on,h=>by
  refine gAssign s h fun t1 t11 p h=>?_;refine Y7 t1 h fun t2 t10 h=>?_;refine gTuple t2 h fun t3 q1 p1 h=>?_;refine Y7 t3 h fun t4 t5 h=>?_;refine gNm t4 h fun x px h=>?_;refine Y7 t5 h fun t6 t7 h=>?_;refine gNm t6 h fun y py h=>?_;refine Y7 t7 h fun t8 t9 h=>?_;refine gNm t8 h fun z pz h=>?_;refine gNil t9 h fun h=>?_;refine gNil t10 h fun h=>?_;refine gTuple t11 h fun t12 q2 p2 h=>?_;refine Y7 t12 h fun u t13 h=>?_;refine Y7 t13 h fun v t14 h=>?_;refine Y7 t14 h fun w t15 h=>?_;refine gNil t15 h fun h=>?_;obtain⟨h,hcal⟩:=and2 h;obtain⟨h,h13⟩:=and2 h;obtain⟨h,hw⟩:=and2 h;obtain⟨h,hv⟩:=and2 h;obtain⟨h,hu⟩:=and2 h;obtain⟨h,h10⟩:=and2 h;obtain⟨h,h9⟩:=and2 h;obtain⟨h,l2⟩:=and2 h;obtain⟨h,l1⟩:=and2 h;obtain⟨h,e3⟩:=and2 h;obtain⟨h,e2⟩:=and2 h;obtain⟨h,e1⟩:=and2 h;obtain⟨h,k3⟩:=and2 h;obtain⟨h,k2⟩:=and2 h;obtain⟨h,k1⟩:=and2 h;obtain⟨h,n3⟩:=and2 h;obtain⟨h,n2⟩:=and2 h;obtain⟨h,n1⟩:=and2 h;obtain⟨h,i3⟩:=and2 h
  obtain⟨i1,i2⟩:=and2 h;have i1:=of_decide_eq_true i1;have i2:=of_decide_eq_true i2;have i3:=of_decide_eq_true i3;have n1:¬ i=j:=of_decide_eq_false (not1 n1);have n2:¬ i=l:=of_decide_eq_false (not1 n2);have n3:¬ j=l:=of_decide_eq_false (not1 n3);have s1:=fun Xe=>sE a rz Xe k X _ C on.1 e1;have s2:=fun Xe=>sE b rz Xe k X _ C on.2.1 e2;have s3:=fun Xe=>sE c rz Xe k X _ C on.2.2 e3;have kx:=C.sc _ _ (of_decide_eq_true k1) %[|4];have ky:=C.sc _ _ (of_decide_eq_true k2) %[|4];have kz:=C.sc _ _ (of_decide_eq_true k3) %[|4];exact EW (C.calm hcal) (by rw[C.N];exact C.nd) (by rw[C.N];exact i1) (by rw[C.N];exact i2) (by rw[C.N];exact i3) n1 n2 n3 kx ky kz (fun Xe=>Z9 (s1 Xe).pe (Z9 (s2 Xe).pe (Z9 (s3 Xe).pe Xu ((s3 Xe).sh.star _ _)) ((s2 Xe).sh.star _ _)) ((s1 Xe).sh.star _ _))
   (Ub kx ky kz (fun z=>n1 (ZA C.nd i1 (z ▸ i2))) (fun z=>n2 (ZA C.nd i1 (z ▸ i3))) (fun z=>n3 (ZA C.nd i2 (z ▸ i3))) (of_decide_eq_true l1) (of_decide_eq_true l2) (CtxOk.bk (k:=k) bk) (not1 h9) (not1 h10) hu hv hw) rfl
 | .whl c b,rz,k,X,s,C,bk,on,h=>by
  refine gWhile s h fun x xs ys p h=>?_;refine gNil ys h fun h=>?_;obtain⟨h1,h2⟩:=and2 (show (isE k c x&&isSs k rz b xs)=true from h);exact D7 (W9 C) (fun Xe=>(sE c rz Xe k X _ C on.1 h1).pt) (sSs b rz k X _ C bk on.2 h2)
 | .fr g it b,rz,k,X,s,C,bk,on,h=>by
  refine gFor s h fun tg iter xs ys p h=>?_;refine gNil ys h fun h=>?_;obtain⟨h,hcal⟩:=and2 (show (_&&k.cal)=true from h);obtain⟨h1,h3⟩:=and2 (show (_&&isSs k rz b xs)=true from h);obtain⟨h1,h2⟩:=and2 (show (isG k g tg&&isI k tg it iter)=true from h1);have si:=fun Xe=>sI it rz Xe k X tg _ C on.2.1 h2;exact He (W9 C) (C.calm hcal) (fun Xe=>(si Xe).pi) (fun Xe=>(sG g rz Xe k X _ C on.1 h1).pg) (sSs b rz k X _ C bk on.2.2 h3) ((si X0).set _)
 | .rsi x es,rz,k,X,s,C,bk,on,h=>by
  refine gRaise s h fun v w p h=>?_;refine gSome v h fun v h=>?_;refine gCall v h fun f xs kw q h=>?_;refine gNm f h fun y q' h=>?_;refine Y7 xs h fun a r h=>?_;refine gNil kw h fun h=>?_;refine gNone w h fun h=>?_;obtain⟨h,hcal⟩:=and2 (show (_&&k.cal)=true from h);obtain⟨h,h6⟩:=and2 (show (_&&isEs k es (a::r))=true from h);obtain⟨h,h5⟩:=and2 (show (_&&Z2 x)=true from h);obtain⟨h,h4⟩:=and2 (show (_&&k.gl x)=true from h);obtain⟨h,h3⟩:=and2 (show (_&&xInit.contains x)=true from h);obtain⟨hz,h2⟩:=and2 (show (rz&&decide (x=y))=true from h);obtain rfl:=of_decide_eq_true h2;subst hz;obtain⟨Cc,hm,hc⟩:=WZ on.1;have s:=fun Xe=>sEs es true Xe k X _ C on.2 h6;exact Bf (C.room hcal) C.tab h3 hc hm (C.gl h4) (Xa h5) (fun Xe=>(s Xe).pa) (((s X0).hd _ _ rfl).1.star _ _) (((s X0).hd _ _ rfl).2 _ _)
 | .trh b c ie hs,rz,k,X,s,C,bk,on,h=>by
  refine gTry s h fun body hds os fs p h=>?_;refine Y7 hds h fun H hds h=>?_;refine gExceptHandler H h fun ty nm hb hp h=>?_;refine gSome ty h fun ty h=>?_;refine gNm ty h fun cx _ h=>?_;refine gSome nm h fun ne h=>?_;refine Y7 hb h fun b0 hb h=>?_;refine gNil hds h fun h=>?_;refine gNil os h fun h=>?_;refine gNil fs h fun h=>?_;obtain⟨h,h9⟩:=and2 (show (_&&isSs k false b body)=true from h);obtain⟨h,h8⟩:=and2 (show (_&&isSs ⟨k.N,k.sc,k.top,false⟩ false hs (b0::hb))=true from h);obtain⟨h,h7⟩:=and2 (show (_&&decide (k.kind ne=some .local))=true from h);obtain⟨h,h6⟩:=and2 (show (_&&decide (k.N[ie]?=some ne))=true from h);obtain⟨h,h5⟩:=and2 (show (_&&Z2 c)=true from h);obtain⟨h,h4⟩:=and2 (show (_&&k.gl c)=true from h);obtain⟨h,h3⟩:=and2 (show (_&&xNames.contains c)=true from h);obtain⟨h1,h2⟩:=and2 (show (k.top&&decide (c=cx))=true from h);obtain rfl:=of_decide_eq_true h2;have h6:=of_decide_eq_true h6
  obtain⟨Cc,hm,hc⟩:=WZ on.1;exact Hb (C.st h1) C.tab (by simpa using h3) hc hm (C.gl h4) (Xa h5) (by rw[C.N];exact C.nd) (by rw[C.N];exact h6) (C.sc _ _ (of_decide_eq_true h7) %[|4])
   (fun xe pins po=>sSs b false k (X.tri xe pins) _ (C.tri pins po) bk (Yz b (fun c x S F=>⟨F.ex⟩) (fun x d F=>⟨F.ex⟩) on.2.1) h9)
   (fun e=>sSs hs false ⟨k.N,k.sc,k.top,false⟩ (X.hnd e) _ (C.hnd e) bk (Yz hs (fun c x S ⟨k',f',fd',ps',a1,a2,a3,a4,a5⟩=>⟨k',f',fd',ps',a1,a2,fun z=>(by cases z),a4,a5⟩) (fun x d F=>⟨F.ex⟩) on.2.2) h8)
 | .trr b c x i,rz,k,X,s,C,bk,on,h=>by
  refine gTry s h fun body t1 t20 t21 p h=>?_;refine Y7 t1 h fun t2 t19 h=>?_;refine gExceptHandler t2 h fun t3 t5 t6 hp h=>?_;refine gSome t3 h fun t4 h=>?_;refine gNm t4 h fun cx np h=>?_;refine gNone t5 h fun h=>?_;refine Y7 t6 h fun t7 t18 h=>?_;refine gRaise t7 h fun t8 t15 rpos h=>?_;refine gSome t8 h fun t9 h=>?_;refine gCall t9 h fun t10 t11 t14 cpos h=>?_;refine gNm t10 h fun y np2 h=>?_;refine Y7 t11 h fun t12 t13 h=>?_;refine gNm t12 h fun xn ap h=>?_;refine gNil t13 h fun h=>?_;refine gNil t14 h fun h=>?_;refine gSome t15 h fun t16 h=>?_;refine gConstant t16 h fun t17 ck cp h=>?_;refine gCnone t17 h fun h=>?_;refine gNil t18 h fun h=>?_;refine gNil t19 h fun h=>?_;refine gNil t20 h fun h=>?_;refine gNil t21 h fun h=>?_;obtain⟨h,hD⟩:=and2 h;obtain⟨h,hC⟩:=and2 h;obtain⟨h,hB⟩:=and2 h;obtain⟨h,hA⟩:=and2 h;obtain⟨h,h9⟩:=and2 h;obtain⟨h,h8⟩:=and2 h;obtain⟨h,h7⟩:=and2 h;obtain⟨h,h6⟩:=and2 h
  obtain⟨h,h5⟩:=and2 h;obtain⟨h,h4⟩:=and2 h;obtain⟨h,h3⟩:=and2 h;obtain⟨h1,h2⟩:=and2 h;obtain rfl:=of_decide_eq_true h4;obtain rfl:=of_decide_eq_true h8;subst h2;obtain⟨Cc,hm,hc⟩:=WZ on.1;obtain⟨Cc2,hm2,hc2⟩:=WZ on.2.1;unfold Ck.slot at hC;obtain⟨hC,hC3⟩:=and2 hC;obtain⟨hC1,hC2⟩:=and2 hC;have hok:=hC3;unfold Z2 at hok;simp only[Bool.and_eq_true,Bool.not_eq_true'] at hok;exact Ha (C.room h3) (C.st h1) C.tab (by simpa using h5) hc hm (C.gl h6) (Xa h7) h9 hc2 hm2 (C.gl hA) (Xa hB) (by rw[C.N];exact of_decide_eq_true hC1) (C.vis hC2) hok.1 hok.2
   (fun xe pins po=>sSs b false k (X.tri xe pins) _ (C.tri pins po) bk (Yz b (fun c x S F=>⟨F.ex⟩) (fun x d F=>⟨F.ex⟩) on.2.2) hD)
theorem sSs:∀ (c:CSs) (rz:Bool) (k:Ck) (X:Cx) (s:List Stmt),CtxOk X k->X.env.scope.kind=.function->onSs (FnAt X) (GloAt X) c->isSs k rz c s=true->PSs X s (Yx X rz (rSs c))
 | .nil,rz,k,X,s,C,bk,on,h=>by
  cases s with
  | nil=>exact ET
  | cons _ _=>exact absurd h Bool.false_ne_true
 | .cons c r,rz,k,X,s,C,bk,on,h=>by
  cases s with
  | nil=>exact absurd h Bool.false_ne_true
  | cons x xs =>
   obtain⟨h1,h2⟩:=and2 (show (isS k rz c x&&isSs k rz r xs)=true from h);exact D6 (sS c rz k X _ C bk on.1 h1) (sSs r rz k X _ C bk on.2 h2)
end
section
variable (P:Program) (w:World) (K:Frag) (mg:Str->Option Value) (base:Heap)
structure FnE (k:Nat) (c x:Str) (S:DSp):Prop where
 ex:∃ f fd ps,FnOk P w K mg base (CXR P w) (k-ini c x) f fd ps (XY K S)/\ini c x<=k/\RefAt K mg c x f/\Binds K fd ps []
structure GloE (x:Str) (d:D):Prop where
 ex:∃ u v,mg x=some u/\RelV v u/\∀ H,RelD K H v d
end
noncomputable def Y1 (n:Nat) (ds:List D):DSt:=ds.map some++List.replicate (n-ds.length) none
theorem AK {K:Frag} {H:Hp} {N:List Str} {vs:List V} {ds:List D} (r:RelDs K H vs ds):Slots K H (Y1 N.length ds) (L2.start N vs):=by
 unfold Y1 L2.start;rw[<- r.length];refine Slots.more ⟨by simp[r.length],fun i d e=>?_⟩ _;rw[List.getElem?_map] at e;cases q:ds[i]? with
 | none=>rw [q] at e;cases e
 | some d' =>
  rw[q] at e;cases e;obtain⟨v,h1,h2⟩:=r.get q;exact⟨v,by rw[List.getElem?_map,h1];rfl,h2⟩
section
variable {P:Program} {w:World} {K:Frag} {mg:Str->Option Value} {base:Heap}
theorem FnE.mono (F:FnE P w K mg base j c x S) (h:j<=k):FnE P w K mg base k c x S:=by
 obtain⟨f,fd,ps,a,b,c,d⟩:=F.ex;exact⟨f,fd,ps,a.mono (Nat.sub_le_sub_right h _),Nat.le_trans b h,c,d⟩
theorem Db {x qu:Str} {st:Stmt} {f:Addr} {fd:FuncData} {N ps:List Str} {k:Nat} {S:DSp} (cs:CSs) (F:Fun K x qu st f fd) (hB:Blt mg) (tab:Zj K=true) (Sc:FnScope N ps (Yp st))
  (ck:isSs ⟨N,Yp st,true,true⟩ true cs (Z1 st)=true) (on:onSs (FnE P w K mg base k) (GloE K mg) cs)
  (len:∀ ds M R E,S ds M R E->ds.length=ps.length)
  (vc:∀ ds M R E,S ds M R E->rSs cs {nx:=fun _ M'=>R .non M',rt:=R,ex:=fun _=>E} (Y1 N.length ds) M):FnOk P w K mg base (CXR P w) (k+1) f fd ps (XY K S):=by
 obtain⟨oc,od,kV,doc,pm,an,cdv,ct,osl,rfl,lk,hcd⟩:=F.ex;refine IH lk hcd Sc (fun vs H Q E ⟨ds,M,R,Ed,r,_,h,_⟩=>by rw[r.length];exact len ds M R _ h) fun A outer s H vs Q E hr ⟨ds,M,R,Ed,r,rm,h,q,qe⟩=>?_;refine⟨Yx (cxOf (CXR P w) P w K mg base N qu (Yp st) f cdv A outer s H E) true (rSs cs),?_,?_⟩
 ·refine sSs cs true ⟨N,Yp st,true,true⟩ _ _ ⟨rfl,Sc.nd,fun x κ e _=>e,fun x e=>.inr e,fun _ _=>rfl,fun _=>rfl,fun _=>hr.mono (Nat.zero_le _),Nat.lt_of_le_of_lt (Nat.le_trans (Nat.add_le_add_left (by decide:66<=200) _) (Nat.add_le_add_right (Nat.le_add_right _ _) _)) hr.un,hB,PassesOwn.leaving,tab,fun _=>⟨rfl,rfl⟩⟩ Sc.kind ?_ ck
  exact Yz cs (fun _ x S ⟨f',fd',ps',a,b,c,d⟩=>⟨k,f',fd',ps',a,b,fun _=>hr,c,d⟩) (fun x d ⟨u,v,a,b,c⟩=>⟨u,v,a,b,c⟩) on
 ·exact⟨Y1 N.length ds,M,{nx:=fun _ M'=>R .non M',rt:=R,ex:=fun _=>Ed},⟨AK r,Bu qe⟩,rm,vc ds M R Ed h,fun δ' M' σ' H' x _ m h'=>q _ _ _ _ x m .non h',fun d M' v H' x m rr h'=>q _ _ _ _ x m rr h',fun _ _ _ _ _ _ _ z=>z.elim,fun _ _ _ _ _ _ _ z=>z.elim⟩
theorem Hs {x:Str} {st:Stmt} {f:Addr} {fd:FuncData} {N ps:List Str} {k:Nat} {S:DSp} (cs:CSs) (F:Fun K x x st f fd) (hm:mg x=some (.ref f)) (hb:Binds K fd ps []) (hB:Blt mg) (tab:Zj K=true) (Sc:FnScope N ps (Yp st))
  (ck:isSs ⟨N,Yp st,true,true⟩ true cs (Z1 st)=true) (on:onSs (FnE P w K mg base k) (GloE K mg) cs)
  (len:∀ ds M R E,S ds M R E->ds.length=ps.length)
  (vc:∀ ds M R E,S ds M R E->rSs cs {nx:=fun _ M'=>R .non M',rt:=R,ex:=fun _=>E} (Y1 N.length ds) M):FnE P w K mg base (k+1) "" x S :=
 ⟨f,fd,ps,by rw[ini0];exact Db cs F hB tab Sc ck on len vc,by rw[ini0];exact Nat.zero_le _,⟨fun _=>⟨hm,F.kp⟩,fun z=>absurd rfl z⟩,hb⟩
theorem usS (h:us.length=n+1):∃ a r,us=a::r/\r.length=n:=by
 cases us with
 | nil=>exact absurd h (Nat.succ_ne_zero n).symm
 | cons a r=>exact⟨a,r,rfl,Nat.succ.inj h⟩
theorem us0 (h:us.length=0):us=[]:=by
 cases us with
 | nil=>rfl
 | cons a r=>exact absurd h (Nat.succ_ne_zero _)
theorem us1 (h:us.length=1):∃ a,us=[a]:=by
 obtain⟨a,r,rfl,g⟩:=usS h;obtain rfl:=us0 g;exact⟨a,rfl⟩
theorem us2 (h:us.length=2):∃ a b,us=[a,b]:=by
 obtain⟨a,r,rfl,g⟩:=usS h;obtain⟨b,rfl⟩:=us1 g;exact⟨a,b,rfl⟩
theorem us3 (h:us.length=3):∃ a b c,us=[a,b,c]:=by
 obtain⟨a,r,rfl,g⟩:=usS h;obtain⟨b,c,rfl⟩:=us2 g;exact⟨a,b,c,rfl⟩
theorem us4 (h:us.length=4):∃ a b c d,us=[a,b,c,d]:=by
 obtain⟨a,r,rfl,g⟩:=usS h;obtain⟨b,c,d,rfl⟩:=us3 g;exact⟨a,b,c,d,rfl⟩
theorem B6 (X:K.In h) (G:h.Ns mainGlobals mg) (e:PySem.W.nsIn K mainGlobals n=some (some (.ref C))):GloE K mg n (.fn n) :=
 ⟨.ref C,.ref C,PySem.W.mg_of X G e,rfl,fun _=>.fn e⟩
theorem JU (X:K.In h) (G:h.Ns mainGlobals mg) (hn:n∈xNames) (e:PySem.W.nsIn K mainGlobals n=some (some (.ref C))):GloE K mg n (.cls n) :=
 ⟨.ref C,.ref C,PySem.W.mg_of X G e,rfl,fun _=>.cls hn e⟩
end
structure Script (ns:List Int):Prop where
 len:ns.length<=63
 bits:∀ n∈ns,Builtin.Int.intBits n<=1048576
noncomputable def SLaw:DSp:=fun ds M Q _=>∃ ns:List Int,ds=[.fz (ns.map .int)]/\Script ns/\∀ M',Q (.bl true) M'
theorem Xl:∀ {ns:List Int},PySem.W.WData.weightAll (ns.map PySem.W.WData.int)<=2 ^ 20->∀ n∈ns,Builtin.Int.intBits n<=1048576
 | n::r,h,m,hm=>by
  simp only[List.map_cons,PySem.W.WData.weightAll] at h;rcases List.mem_cons.mp hm with rfl|hm
  ·have e:Builtin.Int.intBits m=PySem.W.WData.weight (.int m):=by
    unfold Builtin.Int.intBits PySem.W.WData.weight
    rfl
   rw[e];omega
  ·exact Xl %[|5] m hm
theorem walkD {l:PySem.W.OpenLaw} {q:Program} {loose:List Str} {XP:(Str->Option Value)->Heap->Prop} {YP:World->Heap->Prop} {d:DefRec} {K:Params->Frag} {x:Str} {k:Nat} (hn:l.most=some 63) (hdf:d.params.defaults=[])
  (hr:Room k callerA) (hY:∀ (w:World) (h:Heap),YP w h->(K w.params).In h)
  (F:∀ (w:World) (mg:Str->Option Value) (fa:Addr) (h:Heap),(K w.params).In h->h.Ns mainGlobals mg->mg d.name=some (.ref fa) ->
   ∃ fd:FuncData,(∀ (s:Shared) (u:Value),BindsTo s fd ⟨[u],[]⟩ [(x,u)])/\∀ base:Heap,(K w.params).In base->base.Ns mainGlobals mg->FnOk l.prog w (K w.params) mg base (CXR l.prog w) k fa fd [x] (XY (K w.params) SLaw)) :
  PySem.W.WalkO q loose XP YP l.row.toRowW d [] (fun f vs=>PySem.call f vs):=by
 intro w s₀ s₁ mg mb G Y fa o pm cd doc dV kV ho hd hcd hD hmg hg args vals as hpre hlay hrd hwl hlo;obtain rfl:dV=.none:=PySem.W.Dflts.none hD hdf;obtain rfl:kV=.none:=PySem.W.Dflts.noKw hD;obtain⟨a,vs,ns,rfl,rfl,hobj,hints,hlen⟩:=Att.script_of hn hpre hwl;have KX:=hY w _ Y;obtain⟨fd,hb,hF⟩:=F w mg fa _ KX G.T.g hmg;have hbits:∀ n∈ns,Builtin.Int.intBits n<=1048576:=by
  refine Xl ?_;simp only[PySem.W.WData.layableAll,List.all_cons,List.all_nil,Bool.and_true,PySem.W.WData.layable,Bool.and_eq_true,decide_eq_true_eq] at hlay;exact hlay.2
 refine PySem.W.enter_call (codeAny_mono (CJ KX G.T.g G.T.b G.T.builtins G.T.nolimit hg hobj hints (Nat.le_trans hlen %[|4]) hr hF hb (fun H hO hS=>?_) fun H e s' ⟨_,_,_,_,_,_,z⟩=>z) fun r s' hq=>?_)
 ·have hf:SqF (K w.params) H a (ns.map V.int):=by
   rcases hS with (hS|⟨o,hS⟩)|hS
   ·rcases hO a with z|⟨o,xs,z⟩<;>rw[hS] at z<;>cases z
   ·exact .inl ⟨o,hS⟩
   ·exact .inr hS
  exact⟨[.fz (ns.map .int)],fun _=>none,fun d _=>d=.bl true,fun _ _=>False,.cons (.fz hf (.ints ns)) .nil,.nil,⟨ns,rfl,⟨hlen,hbits⟩,fun _=>rfl⟩,fun d' M' v H' _ _ r h=>by subst h;cases r;rfl,fun _ _ _ _ _ _ _ _ _ _ _ z=>z.elim⟩
 ·obtain⟨rfl,h2,h3,h4⟩:=hq
  exact⟨.inl ⟨.bool true,.bool true,[],rfl,fun _=>rfl,.bool true,Att.post_true l _,fun _=>⟨List.Pairwise.nil,fun _ hm=>(nomatch hm)⟩⟩,h2,h3,h4⟩
structure DefIs (s:Stmt) (N:List Str) (n:Nat) (C:CSs) (S:DSp):Prop where
 sc:FnScope N (N.take n) (Yp s)
 ck:isSs ⟨N,Yp s,true,true⟩ true C (Z1 s)=true
 len:∀ ds M R E,S ds M R E->ds.length=(N.take n).length
 vc:∀ ds M R E,S ds M R E->rSs C {nx:=fun _ M'=>R .non M',rt:=R,ex:=fun _=>E} (Y1 N.length ds) M
 bd:∀ (q:Str) (kV doc pm:Value) (an:Option Addr) (cdv ct:Value) (us:List Value),us.length=(N.take n).length->bindArgs (PySem.W.fnOf q q (ZT s) (Z1 s) (Yp s) .none kV doc pm an cdv ct) ⟨us,[]⟩=pure ((N.take n).zip us)
inductive Has (K:Frag) (q:Str) (s:Stmt):Prop
 | mk {f:Addr} {oc:Value} {od an:Option Addr} {sl:Array (Option Value)} {kV dc pm cd ct:Value} (a:PySem.W.nsIn K mainGlobals q=some (some (.ref f))) (l:K.lookup f=some ⟨oc,od,.func (PySem.W.fnOf q q (ZT s) (Z1 s) (Yp s) .none kV dc pm an cd ct),sl⟩) (c:PySem.W.codeIn K cd q=true) (k:PySem.W.keepIn K (.ref f)=true):Has K q s
theorem Yu {K:Frag} {h:Heap} {mg:Str->Option Value} {q:Str} {s:Stmt} (X:K.In h) (G:h.Ns mainGlobals mg) (H:Has K q s):GloE K mg q (.fn q):=by
 obtain⟨a,_,_,_⟩:=H;exact B6 X G a
structure Zc (P:Program) (w:World) (K:Frag) (h:Heap) (mg:Str->Option Value) (base:Heap):Prop where
 X:K.In h
 G:h.Ns mainGlobals mg
 B:Blt mg
 tab:Zj K=true
theorem DefIs.ok {P:Program} {w:World} {K:Frag} {h:Heap} {mg:Str->Option Value} {base:Heap} {s:Stmt} {N:List Str} {n:Nat} {C:CSs} {S:DSp} {q:Str} (k:Nat) (D:DefIs s N n C S) (H:Has K q s) (Z:Zc P w K h mg base) (on:onSs (FnE P w K mg base k) (GloE K mg) C):FnE P w K mg base (k+1) "" q S:=by
 obtain⟨a,l,c,kp⟩:=H;exact Hs C (JW l c kp) (PySem.W.mg_of Z.X Z.G a) ((JW (st:=s) l c kp).binds (D.bd q)) Z.B Z.tab D.sc D.ck on D.len D.vc
end DL
end
noncomputable section
namespace Q
theorem Je {a b:Int} (h:b≠0):0<Int.gcd a b:=Int.gcd_pos_of_ne_zero_right _ h
theorem GI (a b:Int) (h:b≠0):a.fdiv (if b<0 then -(Int.gcd a b:Int) else Int.gcd a b)=(Rat.divInt a b).num/\b.fdiv (if b<0 then -(Int.gcd a b:Int) else Int.gcd a b)=((Rat.divInt a b).den:Int):=by
 have hg:=Je (a:=a) h;obtain⟨x,hx⟩:(Int.gcd a b:Int) ∣ a:=Int.gcd_dvd_left ..;obtain⟨y,hy⟩:(Int.gcd a b:Int) ∣ b:=Int.gcd_dvd_right ..;have gc:Int.gcd b a=Int.gcd a b:=Int.gcd_comm b a;rw[Rat.num_divInt,Rat.den_divInt,if_neg h,gc];generalize hgg:Int.gcd a b=g at *;have g0:(g:Int)≠0:=by omega
 have hy0:y≠0:=fun z=>h (by rw[hy,z,Int.mul_zero]);by_cases hb:b<0
 ·rw[if_pos hb]
  have yneg:y<0:=by
   rcases Int.lt_trichotomy y 0 with z|z|z
   ·exact z
   ·exact absurd z hy0
   ·have:=Int.mul_pos (by omega:(0:Int)<g) z;omega
  have sb:b.sign=-1:=Int.sign_eq_neg_one_of_neg hb;have e1:a=(-(g:Int))*(-x):=by rw[Int.neg_mul_neg];exact hx
  have e2:b=(-(g:Int))*(-y):=by rw[Int.neg_mul_neg];exact hy
  have n0:(-(g:Int))≠0:=by omega
  constructor
  ·conv=>lhs;rw[e1]
   rw[Int.mul_fdiv_cancel_left _ n0,sb];have:(-1*a)=(g:Int)*(-x):=by rw[hx,Int.mul_neg];omega
   rw[this,Int.mul_ediv_cancel_left _ g0]
  ·conv=>lhs;rw[e2]
   rw[Int.mul_fdiv_cancel_left _ n0];have e3:b.natAbs=g*(-y).natAbs:=by rw[hy,Int.natAbs_mul];simp
   rw[e3,Nat.mul_div_cancel_left _ hg];omega
 ·rw[if_neg hb]
  have ypos:0<y:=by
   rcases Int.lt_trichotomy y 0 with z|z|z
   ·have:=Int.mul_neg_of_pos_of_neg (by omega:(0:Int)<g) z;omega
   ·exact absurd z hy0
   ·exact z
  have sb:b.sign=1:=Int.sign_eq_one_of_pos %[|5];constructor
  ·conv=>lhs;rw[hx]
   rw[Int.mul_fdiv_cancel_left _ g0,sb,Int.one_mul]
   conv=>rhs;rw[hx]
   rw[Int.mul_ediv_cancel_left _ g0]
  ·conv=>lhs;rw[hy]
   rw[Int.mul_fdiv_cancel_left _ g0];have e3:b.natAbs=g*y.natAbs:=by rw[hy,Int.natAbs_mul];simp
   rw[e3,Nat.mul_div_cancel_left _ hg];omega
theorem ZW (q:Rat):Rat.divInt q.num q.den=q:=Rat.num_divInt_den q
theorem CZ (q:Rat):Int.gcd q.num q.den=1:=q.reduced
theorem den_pos (q:Rat):(0:Int)<q.den:=by have:=q.den_nz;omega
theorem Cp {a b:Int} (hb:1<=b) (hg:Int.gcd a b=1):(Rat.divInt a b).num=a/\((Rat.divInt a b).den:Int)=b:=by
 have gc:Int.gcd b a=1:=by rw[Int.gcd_comm];exact hg
 rw[Rat.num_divInt,Rat.den_divInt,if_neg %[|5],gc,Int.sign_eq_one_of_pos %[|5]];simp;omega
theorem HS (p q:Rat):Rat.divInt (p.num*q.den+q.num*p.den) (p.den*q.den)=p+q:=by
 rw[<- Rat.divInt_add_divInt _ _ (by have:=p.den_nz;omega) (by have:=q.den_nz;omega),ZW,ZW]
theorem FD (p q:Rat):p.num*q.den<q.num*p.den ↔ p<q:=(Rat.lt_iff p q).symm
noncomputable def Sz (n:Nat) (q:Rat):Prop:=q.num.natAbs<2 ^ n/\q.den<2 ^ n
theorem Sz.mono {m n:Nat} {q:Rat} (h:Sz m q) (k:m<=n):Sz n q:=⟨Nat.lt_of_lt_of_le h.1 (Nat.pow_le_pow_right %[|4] k),Nat.lt_of_lt_of_le h.2 (Nat.pow_le_pow_right %[|4] k)⟩
theorem VV (a b:Int) (h:b≠0):(Rat.divInt a b).num.natAbs<=a.natAbs/\(Rat.divInt a b).den<=b.natAbs:=by
 rw[Rat.num_divInt,Rat.den_divInt,if_neg h];constructor
 ·have:(b.sign*a).natAbs<=a.natAbs:=by
   rw[Int.natAbs_mul];have:b.sign.natAbs<=1:=by rcases Int.lt_trichotomy b 0 with z|z|z<;>simp[Int.sign_eq_neg_one_of_neg,Int.sign_eq_one_of_pos,z]
   exact Nat.le_trans (Nat.mul_le_mul_right _ this) (by simp)
  exact Nat.le_trans (Int.natAbs_ediv_le_natAbs _ _) this
 ·exact Nat.div_le_self _ _
theorem XA {a b:Int} {n:Nat} (h:b≠0) (ha:a.natAbs<2 ^ n) (hb:b.natAbs<2 ^ n):Sz n (Rat.divInt a b) :=
 ⟨Nat.lt_of_le_of_lt (VV a b h).1 ha,Nat.lt_of_le_of_lt (VV a b h).2 hb⟩
theorem JO {a b m n:Nat} (ha:a<2 ^ m) (hb:b<2 ^ n):a*b<2 ^ (m+n):=by
 rw[Nat.pow_add];exact Nat.mul_lt_mul'' ha hb
theorem AE {a b:Int} {m n:Nat} (ha:a.natAbs<2 ^ m) (hb:b.natAbs<2 ^ n):(a*b).natAbs<2 ^ (m+n):=by
 rw[Int.natAbs_mul];exact JO ha hb
theorem ZS {n:Nat} {q:Rat} (h:Sz n q):(q.den:Int).natAbs<2 ^ n:=by simpa using h.2
theorem Hr (p q:Rat):(p.den:Int)*q.den≠0:=by
 have:=den_pos p;have:=den_pos q;exact Int.ne_of_gt (Int.mul_pos %[|5] %[|5])
theorem Sz.int {n:Nat} {i:Int} (h:i.natAbs<2 ^ n) (h1:1<=n):Sz n (i:Rat):=⟨by simpa using h,by
 show (1:Nat) < _;exact Nat.one_lt_two_pow %[|5]⟩
end Q
end
noncomputable section
namespace Q
theorem Id (d:Nat->Rat) (n:Nat) (h:∀ k,0<k->k<n->0<d k->d k-d (k-1)<=d (k+1)-d k):∀ m i,n-i=m->0<i->i<=n->0<d i->0<d i-d (i-1)->0<d n:=by
 intro m
 induction m with
 | zero =>
  intro i e h0 h1 h2 _;have:i=n:=by omega
  subst this;exact h2
 | succ m ih =>
  intro i e h0 h1 h2 h3;have hi:i<n:=by omega
  have:=h i h0 hi h2;refine ih (i+1) %[|5] %[|5] %[|5] (by grind) ?_;rw[Nat.add_sub_cancel];grind
theorem HG (d:Nat->Rat) (h0:d 0<=0):∀ k,0<d k->∃ i,0<i/\i<=k/\0<d i/\0<d i-d (i-1):=by
 intro k
 induction k with
 | zero=>intro h;grind
 | succ k ih =>
  intro h;by_cases hk:0<d k
  ·obtain⟨i,a,b,c,e⟩:=ih hk
   exact⟨i,a,by omega,c,e⟩
  ·exact⟨k+1,by omega,by omega,h,by rw[Nat.add_sub_cancel];grind⟩
theorem maxp (d:Nat->Rat) (n:Nat) (h0:d 0<=0) (hn:d n<=0) (h:∀ k,0<k->k<n->0<d k->d k-d (k-1)<=d (k+1)-d k):∀ k,k<=n->d k<=0:=by
 intro k hk;by_cases hd:0<d k
 ·obtain⟨i,a,b,c,e⟩:=HG d h0 k hd
  have:=Id d n h (n-i) i rfl a %[|5] c e;grind
 ·grind
structure Taut (lo hi r:Nat->Rat) (n:Nat):Prop where
 low:∀ k,k<=n->lo k<=r k
 high:∀ k,k<=n->r k<=hi k
 up:∀ k,0<k->k<n->r k-r (k-1)<r (k+1)-r k->r k=hi k
 down:∀ k,0<k->k<n->r (k+1)-r k<r k-r (k-1)->r k=lo k
theorem Taut.le {lo hi r lo' hi' r':Nat->Rat} {n:Nat} (a:Taut lo hi r n) (b:Taut lo' hi' r' n) (hl:∀ k,k<=n->lo k<=lo' k) (hh:∀ k,k<=n->hi k<=hi' k) (h0:r 0<=r' 0) (hn:r n<=r' n):∀ k,k<=n->r k<=r' k:=by
 intro k hk;have:=maxp (fun k=>r k-r' k) n (by grind) (by grind) (fun k k0 kn hd=>?_) k hk
 ·grind
 ·have l1:=hl k %[|5];have l2:=hh k %[|5];have l3:=b.low k %[|5];have l4:=a.high k %[|5];have l5:=a.low k %[|5];have l6:=b.high k %[|5]
  have u:=b.up k k0 kn;have d:=a.down k k0 kn;by_cases h1:r (k+1)-r k<r k-r (k-1)
  ·have:=d h1;grind
  ·by_cases h2:r' k-r' (k-1)<r' (k+1)-r' k
   ·have:=u h2;grind
   ·grind
theorem Taut.unique {lo hi r r':Nat->Rat} {n:Nat} (a:Taut lo hi r n) (b:Taut lo hi r' n) (h0:r 0=r' 0) (hn:r n=r' n):∀ k,k<=n->r k=r' k:=by
 intro k hk;have x:=a.le b (fun _ _=>by grind) (fun _ _=>by grind) (by grind) (by grind) k hk;have y:=b.le a (fun _ _=>by grind) (fun _ _=>by grind) (by grind) (by grind) k hk;grind
noncomputable def line (b:Nat) (h s:Rat) (t:Nat):Rat:=h+s*((t:Rat)-(b:Rat))
structure Free (lo hi:Nat->Rat) (b:Nat) (h s:Rat) (e:Nat):Prop where
 low:∀ t,b<t->t<e->lo t<=line b h s t
 high:∀ t,b<t->t<e->line b h s t<=hi t
inductive Seg (lo hi:Nat->Rat) (n b:Nat) (h s:Rat) (p:Nat):Prop
 | up (at_:Nat) (hb:b<p) (hp:p<at_) (hn:at_<=n) (f:Free lo hi b h s at_) (t:line b h s p=hi p) (g:∀ t,p<t->t<at_->line b h s t<hi t) (z:line b h s at_<lo at_)
 | down (at_:Nat) (hb:b<p) (hp:p<at_) (hn:at_<=n) (f:Free lo hi b h s at_) (t:line b h s p=lo p) (g:∀ t,p<t->t<at_->lo t<line b h s t) (z:hi at_<line b h s at_)
 | fin (hb:b<p) (hp:p=n) (f:Free lo hi b h s (n+1))
structure Drawn (lo hi r:Nat->Rat) (n b:Nat):Prop where
 le:b<=n
 low:∀ k,k<=b->lo k<=r k
 high:∀ k,k<=b->r k<=hi k
 up:∀ k,0<k->k<b->r k-r (k-1)<r (k+1)-r k->r k=hi k
 down:∀ k,0<k->k<b->r (k+1)-r k<r k-r (k-1)->r k=lo k
 pend:b=0\/b=n\/∃ a h s,a<b/\r b-r (b-1)=s/\r b=line a h s b/\Seg lo hi n a h s b
end Q
end
noncomputable section
namespace Q
end Q
end
noncomputable section
namespace Q
noncomputable def fs (f:Rat->Rat) (r:Nat->Rat):Nat->Rat
 | 0=>0
 | m+1=>fs f r m+f (r (m+1)-r m)
end Q
end
noncomputable section
namespace K
open PySem DL
abbrev ends (R E:DK):DEnds:={nx:=fun _ M'=>R .non M',rt:=R,ex:=fun _=>E}
theorem Vl {g:(DSt->DK)->DG} {tb:DS} {keep:Mem->Prop} {D:DEnds} (I:DSt->Mem->Prop) (hk:∀ δ M,I δ M->keep M) (he:∀ δ M,I δ M->D.nx δ M):∀ {items:List DL.D},
  (∀ x∈items,∀ N:DSt->Mem->Prop,(∀ δ M,I δ M->N δ M)->∀ δ M,I δ M->g D.ex x δ M fun δ1 M1=>tb {D with nx:=N,ct:=N,bk:=D.nx} δ1 M1)->∀ {δ M},I δ M->forD g tb keep items D δ M
 | [],_,δ,M,i=>he δ M i
 | x::xs,h,δ,M,i=>by
  unfold forD;exact h x List.mem_cons_self _ (fun δ' M' i'=>⟨hk δ' M' i',Vl I hk he (fun y hy=>h y (List.mem_cons_of_mem _ hy)) i'⟩) δ M i
theorem Zi {g:(DSt->DK)->DG} {tb:DS} {keep:Mem->Prop} {D:DEnds}:∀ {items:List DL.D} (I:Nat->DSt->Mem->Prop),(∀ i δ M,I i δ M->keep M)->(∀ δ M,I items.length δ M->D.nx δ M) ->
  (∀ i x,items[i]?=some x->∀ N:DSt->Mem->Prop,(∀ δ M,I (i+1) δ M->N δ M)->∀ δ M,I i δ M->g D.ex x δ M fun δ1 M1=>tb {D with nx:=N,ct:=N,bk:=D.nx} δ1 M1)->∀ {δ M},I 0 δ M->forD g tb keep items D δ M
 | [],I,hk,he,ht,δ,M,h0=>he δ M h0
 | x::xs,I,hk,he,ht,δ,M,h0=>by
  unfold forD;exact ht 0 x rfl _ (fun δ' M' i'=>⟨hk _ δ' M' i',Zi (fun i=>I (i+1)) (fun i=>hk (i+1)) he (fun i y hy N hN=>ht (i+1) y (by simpa using hy) N hN) i'⟩) δ M h0
theorem XB (h:(rngD lo c n)[i]?=some x):x=.int (lo+i*c)/\i<n:=by
 unfold rngD at h;rw[List.getElem?_map] at h;cases q:(List.range n)[i]? with
 | none=>rw [q] at h;cases h
 | some j =>
  obtain⟨h1,h2⟩:=List.getElem?_eq_some_iff.mp q;rw[q] at h;cases h;simp at h1 h2;subst h2;exact⟨rfl,h1⟩
theorem Zk:(rngD lo c n).length=n:=by simp[rngD]
theorem W0 (f:DL.D->DL.D) (I:DSt->Prop) (h0:M0 p=none) (hk:∀ M,MExt M0 M->keep M) :
  ∀ {items acc:List DL.D},(∀ x∈items,∀ δ M (R:DSt->DK),I δ->MExt M0 M->(∀ δ1 M',I δ1->MExt M M'->R δ1 (f x) M')->g x δ M fun δ1 M1=>te δ1 M1 fun d M2=>R δ1 d M2) ->
  (acc++items.map f).length<=1000->(∀ M',MExt M0 M'->M' p=some (.ls (acc++items.map f))->Q M')->∀ {δ M},I δ->MExt M0 M->M p=some (.ls acc)->Zb g te keep p items acc δ M Q
 | [],acc,_,_,q,δ,M,i,e,l=>by unfold Zb;exact q M e (by simpa using l)
 | x::xs,acc,h,hz,q,δ,M,i,e,l=>by
  unfold Zb;refine h x List.mem_cons_self δ M (fun δ1 d M2=>M2 p=some (.ls acc)/\acc.length<sizeLine/\keep (M2.upd p (.ls (acc++[d])))/\Zb g te keep p xs (acc++[d]) δ1 (M2.upd p (.ls (acc++[d]))) Q) i e fun δ1 M' i' e'=>?_;have e2:MExt M0 (M'.upd p (.ls (acc++[f x]))):=fun a o z=>by
   have:a≠p:=fun q=>by rw[q,h0] at z;cases z
   rw[YO this];exact e' _ _ (e _ _ z)
  refine⟨e' _ _ l,?_,hk _ e2,W0 f I h0 hk (fun y hy=>h y (List.mem_cons_of_mem _ hy)) (by simpa using hz) (fun M2 e3 l3=>q M2 e3 (by simpa using l3)) i' e2 Yh⟩;rw[sizeLine_eq];simp at hz;omega
theorem MExt.none (e:MExt M M') (h:M' p=Option.none):M p=Option.none:=by
 cases q:M p with
 | none=>rfl
 | some o=>rw [e _ _ q] at h;cases h
theorem Yg (x:α) (l:List α):L2.atI (x::l) 0=some x:=L2.atI_nat (j:=0) rfl
theorem V1 (h:k.natAbs<2 ^ n):Builtin.Int.intBits k<=n:=by
 unfold Builtin.Int.intBits;split
 ·exact Nat.zero_le _
 ·rename_i h0
  have hp:k.natAbs≠0:=by intro z;apply h0;simp;omega
  have:=(Nat.log2_lt hp).mpr h;omega
theorem Xo (ha:a.natAbs<2 ^ m) (hb:b.natAbs<2 ^ n) (h:m+n<=134217728):IntMulOk a b:=IntMulOk.of_le (V1 ha) (V1 hb) h
theorem Xs (h:j≠0) (hj:j.natAbs<2 ^ 8000):U6 j:=⟨h,by
 have:j.natAbs≠0:=by omega
 have:=(Nat.log2_lt this).mpr hj;omega⟩
theorem Jd (h0:0<=x) (h1:0<y):Int.gcd y (x.fmod y)=Int.gcd x y:=by
 obtain⟨n,rfl⟩:=Int.eq_ofNat_of_zero_le h0;obtain⟨m,rfl⟩:=Int.eq_ofNat_of_zero_le (Int.le_of_lt h1);rw[Int.fmod_eq_emod_of_nonneg _ (Int.le_of_lt h1)];show Nat.gcd m (((n:Int) % (m:Int)).natAbs)=Nat.gcd n m;have:((n:Int) % (m:Int)).natAbs=n % m:=by
  rw[<- Int.natCast_emod];rfl
 rw[this,Nat.gcd_comm n m,Nat.gcd_comm m (n % m)];exact (Nat.gcd_rec m n).symm
theorem Au (a b:Int):Int.gcd (if a<0 then -a else a) (if b<0 then -b else b)=Int.gcd a b:=by
 unfold Int.gcd
 congr 1<;>split<;>omega
theorem ZF {x y:Int} (h:0<y):0<=x.fmod y/\x.fmod y<y:=by
 rw[Int.fmod_eq_emod_of_nonneg _ (Int.le_of_lt h)];exact⟨Int.emod_nonneg _ %[|5],Int.emod_lt_of_pos _ h⟩
theorem Y2 {s:CS} {r:CSs} {D:DEnds} {δ:DSt} {M:Mem}:rSs (.cons s r) D δ M=rS s {D with nx:=rSs r D} δ M:=rfl
theorem Y5 {D:DEnds} {δ:DSt} {M:Mem}:rSs .nil D δ M=D.nx δ M:=rfl
theorem Yk (neg:Bool) (h:Q (.bl (if neg then !(i==j) else (i==j))) M):cEq neg (.int i) (.int j) M Q:=⟨_,_,.int i,.int j,by simp[PyData.depth],h⟩
noncomputable def S_13:DSp:=fun ds M Q _=>∃ a b:Int,ds=[.int a,.int b]/\Q (.int (Int.gcd a b)) M
noncomputable def C_13:CSs:=%[.par 0 1 (.bi .abs %[.var 0|0]) (.bi .abs %[.var 1|0]),.whl (.var 1) %[.par 0 1 (.var 1) (.bin .Mod (.var 0) (.var 1))|0],.ret (.var 0)|0]
theorem vc_13:∀ ds M R E,S_13 ds M R E->rSs C_13 (ends R E) (Y1 2 ds) M:=by
 rintro ds M R E ⟨a,b,rfl,h⟩;simp[0,C_13,rSs,YQ,vAt,vHd,Y4,YL,Ya,ZH,dFor,YX,bMul,bAdd,iOp,sOp,fLen,Yr,YV,fIsi,fAll,fAny,YH,and_assoc,sizeLine_eq];refine⟨fun m δ M'=>∃ x y:Int,δ=[some (.int x),some (.int y)]/\M'=M/\0<=x/\0<=y/\Int.gcd x y=Int.gcd a b/\m=y.toNat,⟨_,_,_,rfl,rfl,?_,?_,?_,rfl⟩,?_⟩
 ·split<;>omega
 ·split<;>omega
 ·exact Au a b
 ·rintro m δ M' ⟨x,y,rfl,rfl,h0,h1,hg,rfl⟩
  simp[0,rSs,YQ,vAt,vHd,Y4,YL,Ya,ZH,dFor,YX,bMul,bAdd,iOp,sOp,fLen,Yr,YV,fIsi,fAll,fAny,YH,and_assoc,sizeLine_eq];by_cases hy:y=0
  ·subst hy
   rw[if_pos rfl];rw[<- hg] at h;have e:((x.gcd 0:Nat):Int)=x:=by unfold Int.gcd;simp;omega
   rw[e] at h;exact h
  ·rw[if_neg hy]
   have yp:0<y:=by omega
   refine⟨fun δ' M1=>δ'=[some (.int y),some (.int (x.fmod y))]/\M1=M',?_,hy,rfl,rfl⟩;rintro δ' M1 ⟨rfl,rfl⟩;have:=ZF (x:=x) yp;exact⟨(x.fmod y).toNat,by omega,y,_,rfl,rfl,h1,this.1,by rw[Jd h0 yp];exact hg,rfl⟩
noncomputable def S_46:DSp:=fun ds M Q _=>∃ c:Int,ds=[.int c]/\Builtin.Int.intBits c<=2000000/\∀ r:Int,0<=r->r<10 ^ 60->Q (.int r) M
noncomputable def C_46:CSs:=%[.ret (.bin .Mod (.bin .Mult (.var 0) (.int 301029995663981195213738894724493026768189881462108541310427)) (.bin .Pow (.int 10) (.int 60)))|0]
theorem vc_46:∀ ds M R E,S_46 ds M R E->rSs C_46 (ends R E) (Y1 1 ds) M:=by
 rintro ds M R E ⟨c,rfl,hb,h⟩;simp[0,C_46,rSs,YQ,vAt,vHd,Y4,YL,Ya,ZH,dFor,YX,bMul,bAdd,iOp,sOp,fLen,Yr,YV,fIsi,fAll,fAny,YH,and_assoc,sizeLine_eq];exact⟨IntMulOk.of_le hb (V1 (n:=300) %[|4]) %[|4],⟨by decide,by decide,by decide⟩,h _ (ZF %[|4]).1 (ZF %[|4]).2⟩
noncomputable def S_1:DSp:=fun ds M Q _=>∃ a n v,ds=[.lst a,.int n]/\M a=some (.ls [.int v])/\0<n/\n.natAbs<2 ^ 8000/\∀ r v':Int,0<=r->r<n->Q (.int r) (M.upd a (.ls [.int v']))
noncomputable def C_1:CSs:=%[.asg (.tup %[.sub (.var 0) (.int 0),.name 2|0]) (.bi .divmod %[.ix (.var 0) (.int 0),.var 1|0]),.ret (.var 2)|0]
theorem vc_1:∀ ds M R E,S_1 ds M R E->rSs C_1 (ends R E) (Y1 3 ds) M:=by
 rintro ds M R E ⟨a,n,v,rfl,ha,hn,hn2,h⟩;simp[0,C_1,rSs,YQ,vAt,vHd,Y4,YL,Ya,ZH,dFor,YX,bMul,bAdd,iOp,sOp,fLen,Yr,YV,fIsi,fAll,fAny,YH,and_assoc,sizeLine_eq];refine⟨_,ha,.int v,rfl,?_⟩;have f:=ZF (x:=v) hn;simp[0,rSs,YQ,vAt,vHd,Y4,YL,Ya,ZH,dFor,YX,bMul,bAdd,iOp,sOp,fLen,Yr,YV,fIsi,fAll,fAny,YH,and_assoc,sizeLine_eq];exact⟨Xs %[|5] hn2,_,ha,0,rfl,h _ _ f.1 f.2⟩
theorem Fk (h:x∈cutG xs lo hi):x∈xs:=List.mem_of_mem_drop (List.mem_of_mem_take h)
theorem Fl (xs:List α) (lo hi:Option Int):(cutG xs lo hi).length<=xs.length:=by
 unfold cutG;rw[List.length_take,List.length_drop];omega
theorem Bl (ns:List Int) (lo hi:Option Int) (e:Int):∃ c,L2.atI (cutG (ns.map D.int) lo hi++[D.int e]) 0=some (.int c)/\(c∈ns\/c=e):=by
 cases q:cutG (ns.map D.int) lo hi with
 | nil=>exact⟨e,rfl,.inr rfl⟩
 | cons x r =>
  have:x∈ns.map D.int:=Fk (lo:=lo) (hi:=hi) (by rw[q];exact List.mem_cons_self);obtain⟨c,hc,rfl⟩:=List.mem_map.mp this;exact⟨c,Yg _ _,.inl hc⟩
theorem UZ (x:DL.D):[x].length<=sizeLine:=by rw[sizeLine_eq];exact (by decide:1<=16777216)
theorem BA (x y:DL.D):[x,y].length<=sizeLine:=by rw[sizeLine_eq];exact (by decide:2<=16777216)
theorem mulI (a:IntMulOk i j) (q:Q (.int (i*j)) M):bMul (.int i) (.int j) M Q:=⟨a,q⟩
theorem addI (q:Q (.int (i+j)) M):bAdd (.int i) (.int j) M Q:=q
noncomputable def S_47:DSp:=fun ds M Q _=>∃ (ns:List Int) (k:Int),ds=[.fz (ns.map .int),.int k]/\Script ns/\0<=k/\k<=1000/\∀ (v:Int) p M',M p=none->MExt M M'->M' p=some (.ls [.int v])->Q (.lst p) M'
noncomputable def C_47:CSs:=%[.set 2 (.int 0),.fr (.name 3) (.seq (.lst %[.bin .Add (.var 1) (.int 1),.var 1|0])) %[.set 2 (.bin .Add (.bin .Mult (.var 2) (.bin .Pow (.int 10) (.int 60))) (.call "_law_mixed" S_46 %[.ix (.bin .Add (.sl (.var 0) (.some (.var 3)) (.some (.bin .Add (.var 3) (.int 1)))) (.lst %[.bin .Add (.bin .Mult (.int 7907) (.var 3)) (.int 53)|0])) (.int 0)|0]))|0],.ret (.lst %[.var 2|0])|0]
theorem vc_47:∀ ds M R E,S_47 ds M R E->rSs C_47 (ends R E) (Y1 4 ds) M:=by
 rintro ds M R E ⟨ns,k,rfl,hs,h0,h1,h⟩;have turn:∀ (t found:Int) (M:Mem) (Q:DK),0<=t->t<=1001->found.natAbs<2 ^ 1000->(∀ v M',MExt M M'->v.natAbs<(found.natAbs+1)*10 ^ 60->Q (.int v) M') ->
   d2 bAdd (d2 bMul (dVar 2) (d2 (bInt L2.CPow fun i j=>i ^ j.toNat) (dC (D.int 10)) (dC (D.int 60))))
    (XR S_46 (fun _=>E) (YS (d2 iOp (d2 bAdd (dSl (dVar 0) (Jh (dVar 3)) (Jh (d2 bAdd (dVar 3) (dC (D.int 1))))) (dLst (YS (d2 bAdd (d2 bMul (dC (D.int 7907)) (dVar 3)) (dC (D.int 53))) dNil))) (dC (D.int 0))) dNil))
    [some (.fz (ns.map D.int)),some (.int k),some (.int found),some (.int t)] M Q:=by
  intro t found M Q h0 h1 hf hN;dsimp only[d2,dVar,vAt,vHd,dC,XR,YS,dNil,dLst,dSl,Jh];refine⟨⟨by decide,by decide,by decide⟩,mulI (Xo hf (n:=300) %[|4] %[|4]) ⟨_,rfl,addI ⟨_,rfl,fun p1 M1 e1 x1 l1=>mulI (Xo (m:=64) (n:=64) %[|4] %[|5] %[|4]) (addI ⟨UZ _,fun p2 M2 e2 x2 l2=>⟨_,_,x2 _ _ l1,l2,?_,fun p3 M3 e3 x3 l3=>?_⟩⟩)⟩⟩⟩
  ·have:=Fl (ns.map D.int) (some t) (some (t+1))
   rw[List.length_map] at this;have:=hs.len;rw[sizeLine_eq];show _+1<=_;omega
  obtain⟨c,hc,hm⟩:=Bl ns (some t) (some (t+1)) (7907*t+53);refine⟨_,_,l3,hc,c,rfl,?_,fun r r0 r1=>addI ?_⟩
  ·rcases hm with hm|hm
   ·exact Nat.le_trans (hs.bits c hm) %[|4]
   ·subst hm;exact Nat.le_trans (V1 (n:=64) %[|5]) %[|4]
  ·refine hN _ M3 (x1.trans (x2.trans x3)) ?_
   have a1:=Int.natAbs_add_le (found*1000000000000000000000000000000000000000000000000000000000000) r;rw[Int.natAbs_mul] at a1;have a2:r.natAbs<10 ^ 60:=by omega
   have a3:(1000000000000000000000000000000000000000000000000000000000000:Int).natAbs=10 ^ 60:=by decide
   rw[a3] at a1;rw[Nat.add_mul,Nat.one_mul];exact Nat.lt_of_le_of_lt a1 %[|5]
 unfold C_47;dsimp only[rSs,rS,rE,rEs,rG,rGs,rI,DL.plain,dSeq,dRet,dAsg,dFor,Xi,Ya,XR,YS,dNil,dLst,dVar,vAt,vHd,List.map,List.length_cons,List.length_nil,Nat.reduceAdd,Nat.reduceSub,List.replicate_succ,List.replicate_zero,List.cons_append,List.nil_append,List.set_cons_succ,List.set_cons_zero,dC,d2,bOp,Y1,Ay,dSl];refine addI ⟨BA (.int 0) (.int 0),fun p0 M0 e0 x0 l0=>⟨_,l0,?_⟩⟩;dsimp only[forD,Xi,dSeq,dAsg,Ay,rO];refine turn (k+1) 0 M0 _ %[|5] %[|5] %[|4] fun v1 M1 x1 b1=>?_;refine⟨x1 _ _ l0,?_⟩;refine turn k v1 M1 _ %[|5] %[|5] (Nat.lt_of_lt_of_le b1 %[|4]) fun v2 M2 x2 b2=>?_;refine⟨x2 _ _ (x1 _ _ l0),?_⟩;dsimp only[dRet,dLst,YS,dNil,dVar,List.set_cons_succ,List.set_cons_zero,vAt,vHd];refine⟨UZ _,fun p M' e x l=>?_⟩;exact h v2 p M' (K.MExt.none (x0.trans (x1.trans x2)) e) (x0.trans (x1.trans (x2.trans x))) l
end K
end
open PySem DL Q K
set_option bootstrap.genMatcherCode true
local macro_rules
 | `(tactic| sleep 1)=>`(tactic| ((try dsimp only);rw[Y2];sleep 2))
 | `(tactic| sleep 2)=>`(tactic| ((try dsimp only[0,YQ,vAt,vHd,List.set_cons_succ,List.set_cons_zero,List.cons_append,List.nil_append,List.map,List.length_cons,List.length_nil,Nat.reduceAdd,Nat.reduceSub,List.replicate_succ,List.replicate_zero,Y4,YL,bMul,bAdd,sOp,Yr,YV,fIsi,YH]);try simp[0,YQ,vAt,vHd,Y4,YL,bMul,bAdd,sOp,Yr,YV,fIsi,YH,and_assoc,sizeLine_eq,Y5]))
 | `(tactic| sleep 5)=>`(tactic| ((try dsimp only[0,rSs,YQ,vAt,vHd,List.set_cons_succ,List.set_cons_zero,List.cons_append,List.nil_append,List.map,List.length_cons,List.length_nil,Nat.reduceAdd,Nat.reduceSub,List.replicate_succ,List.replicate_zero,Y4,YL,Ya,ZH,dFor,YX,bMul,bAdd,iOp,sOp,fLen,Yr,YV,fIsi,fAll,fAny,YH]);try simp[0,rSs,YQ,vAt,vHd,Y4,YL,Ya,ZH,dFor,YX,bMul,bAdd,iOp,sOp,fLen,Yr,YV,fIsi,fAll,fAny,YH,and_assoc,sizeLine_eq]))
 | `(tactic| sleep 50)=>`(tactic| exact⟨rfl,rfl,rfl,by decide +kernel,rfl,by decide +kernel,by decide +kernel⟩)
 | `(tactic| sleep 51)=>`(tactic| repeat' (first|exact True.intro|assumption|refine And.intro ?_ ?_|exact FnE.mono (by assumption) %[|4]))
set_option bootstrap.genMatcherCode false
noncomputable section
namespace K
open PySem DL Q
noncomputable def nm (q:Rat):DL.D:=.tup [.int q.num,.int q.den]
theorem ZV (h:m<=n):2 ^ m<=2 ^ n:=Nat.pow_le_pow_right %[|4] h
theorem Bj (h:b≠0) (hb:b.natAbs<2 ^ 8000):U6 (if b<0 then -(Int.gcd a b:Int) else Int.gcd a b):=by
 have g0:=Je (a:=a) h;have gl:Int.gcd a b<=b.natAbs:=Nat.le_of_dvd %[|5] (Int.gcd_dvd_natAbs_right ..);split<;>exact Xs %[|5] (by simp;omega)
noncomputable def Ok2 (p q:Rat):Prop:=∃ m n,Sz m p/\Sz n q/\m+n<=7998
theorem Ok2.mk (a:Sz m p) (b:Sz n q) (h:m+n<=7998):Ok2 p q:=⟨m,n,a,b,h⟩
theorem Ok2.nd (h:Ok2 p q):IntMulOk p.num q.den/\IntMulOk q.num p.den/\IntMulOk p.den q.den/\IntMulOk p.num q.num/\IntMulOk (p.den:Int) q.num:=by
 obtain⟨m,n,a,b,h⟩:=h;exact⟨Xo a.1 (ZS b) %[|5],Xo b.1 (ZS a) %[|5],Xo (ZS a) (ZS b) %[|5],Xo a.1 b.1 %[|5],Xo (ZS a) b.1 %[|5]⟩
theorem Ok2.dd (h:Ok2 p q):((p.den:Int)*q.den).natAbs<2 ^ 8000/\((p.den:Int)*q.num).natAbs<2 ^ 8000:=by
 obtain⟨m,n,a,b,h⟩:=h;exact⟨Nat.lt_of_lt_of_le (AE (ZS a) (ZS b)) (ZV %[|5]),Nat.lt_of_lt_of_le (AE (ZS a) b.1) (ZV %[|5])⟩
theorem Yv (x y:α) (l:List α):L2.atI (x::y::l) 1=some y:=L2.atI_nat (j:=1) rfl
theorem ix0 (q:Q (.int p.num) M):iOp (nm p) (.int 0) M Q:=⟨_,Yg _ _,q⟩
theorem ix1 (q:Q (.int p.den) M):iOp (nm p) (.int 1) M Q:=⟨_,Yv _ _ _,q⟩
noncomputable def S_12:DSp:=fun ds M Q E=>∃ p q:Rat,ds=[nm p,nm q]/\Ok2 p q/\Q (.bl (decide (p<q))) M
noncomputable def C_12:CSs:=%[.ret (.cmp .Lt (.bin .Mult (.ix (.var 0) (.int 0)) (.ix (.var 1) (.int 1))) (.bin .Mult (.ix (.var 1) (.int 0)) (.ix (.var 0) (.int 1))))|0]
theorem vc_12:∀ ds M R E,S_12 ds M R E->rSs C_12 (ends R E) (Y1 2 ds) M:=by
 rintro ds M R E ⟨p,q,rfl,ok,h⟩;unfold C_12;dsimp only[rSs,rS,rE,rEs,DL.plain,dSeq,dRet,XR,YS,dNil,d2,dVar,vAt,vHd,List.map,List.length_cons,List.length_nil,Nat.reduceAdd,Nat.reduceSub,List.replicate_succ,List.replicate_zero,List.cons_append,List.nil_append,dC,bOp,cOp,Y1];have n:=ok.nd;refine (ix0 (ix1 (mulI n.1 (ix0 (ix1 (mulI n.2.1 ?_))))));show R (.bl (decide (p.num*q.den<q.num*p.den))) M;rw[show decide (p.num*(q.den:Int)<q.num*p.den)=decide (p<q) by simp only[FD]];exact h
noncomputable def S_5:DSp:=fun ds M Q _=>∃ a b:Int,ds=[.int a,.int b]/\b≠0/\b.natAbs<2 ^ 8000/\Q (nm (Rat.divInt a b)) M
noncomputable def C_5:CSs:=%[.par 2 3 (.bi .abs %[.var 0|0]) (.bi .abs %[.var 1|0]),.whl (.cmp .NotEq (.var 3) (.int 0)) %[.par 2 3 (.var 3) (.bin .Mod (.var 2) (.var 3))|0],.ife (.cmp .Lt (.var 1) (.int 0)) %[.set 2 (.bin .Sub (.int 0) (.var 2))|0] .nil,.ret (.tup %[.bin .FloorDiv (.var 0) (.var 2),.bin .FloorDiv (.var 1) (.var 2)|0])|0]
theorem vc_5:∀ ds M R E,S_5 ds M R E->rSs C_5 (ends R E) (Y1 4 ds) M:=by
 rintro ds M R E ⟨a,b,rfl,hb,hb2,h⟩;have L:=GI a b hb;have D:=Bj (a:=a) hb hb2;simp[0,C_5,rSs,YQ,vAt,vHd,Y4,YL,Ya,ZH,dFor,YX,bMul,bAdd,iOp,sOp,fLen,Yr,YV,fIsi,fAll,fAny,YH,and_assoc,sizeLine_eq];refine⟨fun m δ M'=>∃ x y:Int,δ=[some (.int a),some (.int b),some (.int x),some (.int y)]/\M'=M/\0<=x/\0<=y/\Int.gcd x y=Int.gcd a b/\m=y.toNat,⟨_,_,_,rfl,rfl,?_,?_,?_,rfl⟩,?_⟩
 ·split<;>omega
 ·split<;>omega
 ·exact Au a b
 ·rintro m δ M' ⟨x,y,rfl,rfl,h0,h1,hg,rfl⟩
  sleep 5;refine Yk true ?_;by_cases hy:y=0
  ·subst hy
   have e:((x.gcd 0:Nat):Int)=x:=by unfold Int.gcd;simp;omega
   rw[hg] at e;rw[e] at L D;unfold nm at h;by_cases nb:b<0
   ·rw[if_pos nb] at L D
    simp[nb,D];rw[L.1,L.2];exact h
   ·rw[if_neg nb] at L D
    simp[nb,D];rw[L.1,L.2];exact h
  ·have yp:0<y:=by omega
   simp[hy];refine⟨fun δ' M1=>δ'=[some (.int a),some (.int b),some (.int y),some (.int (x.fmod y))]/\M1=M',?_,rfl,rfl⟩;rintro δ' M1 ⟨rfl,rfl⟩;have:=ZF (x:=x) yp;exact⟨(x.fmod y).toNat,by omega,y,_,rfl,rfl,h1,this.1,by rw[Jd h0 yp];exact hg,rfl⟩
noncomputable def S_9:DSp:=fun ds M Q E=>∃ p q:Rat,ds=[nm p,nm q]/\Ok2 p q/\Q (nm (p+q)) M
noncomputable def C_9:CSs:=%[.ret (.call "_law_low" S_5 %[.bin .Add (.bin .Mult (.ix (.var 0) (.int 0)) (.ix (.var 1) (.int 1))) (.bin .Mult (.ix (.var 1) (.int 0)) (.ix (.var 0) (.int 1))),.bin .Mult (.ix (.var 0) (.int 1)) (.ix (.var 1) (.int 1))|0])|0]
theorem vc_9:∀ ds M R E,S_9 ds M R E->rSs C_9 (ends R E) (Y1 2 ds) M:=by
 rintro ds M R E ⟨p,q,rfl,ok,h⟩;unfold C_9;dsimp only[rSs,rS,rE,rEs,DL.plain,dSeq,dRet,XR,YS,dNil,d2,dVar,vAt,vHd,List.map,List.length_cons,List.length_nil,Nat.reduceAdd,Nat.reduceSub,List.replicate_succ,List.replicate_zero,List.cons_append,List.nil_append,dC,bOp,Y1];have n:=ok.nd;refine (ix0 (ix1 (mulI n.1 (ix0 (ix1 (mulI n.2.1 (addI (ix1 (ix1 (mulI n.2.2.1 ?_))))))))));refine⟨_,_,rfl,Hr p q,ok.dd.1,?_⟩;rw[HS];exact h
noncomputable def S_39:DSp:=fun ds M Q E=>∃ p q:Rat,ds=[nm p,nm q]/\Ok2 p q/\Q (.bl (decide (p<q))) M
noncomputable def C_39:CSs:=%[.ret (.cmp .Lt (.bin .Mult (.ix (.var 0) (.int 0)) (.ix (.var 1) (.int 1))) (.bin .Mult (.ix (.var 1) (.int 0)) (.ix (.var 0) (.int 1))))|0]
theorem vc_39:∀ ds M R E,S_39 ds M R E->rSs C_39 (ends R E) (Y1 2 ds) M:=by
 rintro ds M R E ⟨p,q,rfl,ok,h⟩;unfold C_39;dsimp only[rSs,rS,rE,rEs,DL.plain,dSeq,dRet,XR,YS,dNil,d2,dVar,vAt,vHd,List.map,List.length_cons,List.length_nil,Nat.reduceAdd,Nat.reduceSub,List.replicate_succ,List.replicate_zero,List.cons_append,List.nil_append,dC,bOp,cOp,Y1];have n:=ok.nd;refine (ix0 (ix1 (mulI n.1 (ix0 (ix1 (mulI n.2.1 ?_))))));show R (.bl (decide (p.num*q.den<q.num*p.den))) M;rw[show decide (p.num*(q.den:Int)<q.num*p.den)=decide (p<q) by simp only[FD]];exact h
theorem MExt.upd_new (h:M0 p=Option.none) (e:MExt M0 M):MExt M0 (M.upd p o):=fun a u z=>by
 have:a≠p:=fun q=>by rw[q,h] at z;cases z
 rw[YO this];exact e a u z
theorem Jk (xs:List DL.D) (f:DL.D->DL.D)
  (hti:∀ R:List DL.D->(Mem->Prop)->Mem->Prop,(∀ keep,(∀ M',MExt M M'->keep M')->R xs keep M)->ti δ M R) (hlen:xs.length<=1000)
  (hel:∀ x∈xs,∀ l M' (R:DSt->DK),l.length=n->MExt M M'->(∀ l' M'',l'.length=n->MExt M' M''->R (δ++l') (f x) M'')->g x (δ++l) M' fun δ1 M1=>te δ1 M1 fun d M2=>R δ1 d M2)
  (hq:∀ p M',M p=Option.none->MExt M M'->M' p=some (.ls (xs.map f))->Q (.lst p) M'):YX n ti g te δ M Q:=by
 refine hti _ fun keep hk p hp=>⟨hk _ (.new hp),?_⟩;refine W0 (M0:=M) f (fun δ'=>∃ l,l.length=n/\δ'=δ++l) hp hk ?_ (by simpa using hlen) ?_ ⟨_,by simp,rfl⟩ (.new hp) Yh
 ·rintro x hx δ' M' R ⟨l,hl,rfl⟩ e r
  exact hel x hx l M' R hl e fun l' M'' h1 h2=>r _ M'' ⟨l',h1,rfl⟩ h2
 ·intro M' e l
  exact⟨⟨_,l⟩,hq p M' hp e (by simpa using l)⟩
theorem Xw (e f:α->DL.D) (I:DSt->Prop) (h0:M0 p=none) (hk:∀ M,MExt M0 M->keep M) :
  ∀ {xs:List α} {acc:List DL.D},(∀ x∈xs,∀ δ M (R:DSt->DK),I δ->MExt M0 M->(∀ δ1 M',I δ1->MExt M M'->R δ1 (f x) M')->g (e x) δ M fun δ1 M1=>te δ1 M1 fun d M2=>R δ1 d M2) ->
  (acc++xs.map f).length<=1000->(∀ M',MExt M0 M'->M' p=some (.ls (acc++xs.map f))->Q M')->∀ {δ M},I δ->MExt M0 M->M p=some (.ls acc)->Zb g te keep p (xs.map e) acc δ M Q
 | [],acc,_,_,q,δ,M,i,e',l=>by show Zb g te keep p [] acc δ M Q;unfold Zb;exact q M e' (by simpa using l)
 | x::xs,acc,h,hz,q,δ,M,i,e',l=>by
  show Zb g te keep p (e x::xs.map e) acc δ M Q;unfold Zb;refine h x List.mem_cons_self δ M (fun δ1 d M2=>M2 p=some (.ls acc)/\acc.length<sizeLine/\keep (M2.upd p (.ls (acc++[d])))/\Zb g te keep p (xs.map e) (acc++[d]) δ1 (M2.upd p (.ls (acc++[d]))) Q) i e' fun δ1 M' i' e2=>?_;have e3:MExt M0 (M'.upd p (.ls (acc++[f x]))):=MExt.upd_new h0 (e'.trans e2);refine⟨e2 _ _ l,?_,hk _ e3,Xw e f I h0 hk (fun y hy=>h y (List.mem_cons_of_mem _ hy)) (by simpa using hz) (fun M2 e4 l4=>q M2 e4 (by simpa using l4)) i' e3 Yh⟩;rw[sizeLine_eq];simp at hz;omega
theorem Zg (xs:List α) (e f:α->DL.D)
  (hti:∀ R:List DL.D->(Mem->Prop)->Mem->Prop,(∀ keep,(∀ M',MExt M M'->keep M')->R (xs.map e) keep M)->ti δ M R) (hlen:xs.length<=1000)
  (hel:∀ x∈xs,∀ l M' (R:DSt->DK),l.length=n->MExt M M'->(∀ l' M'',l'.length=n->MExt M' M''->R (δ++l') (f x) M'')->g (e x) (δ++l) M' fun δ1 M1=>te δ1 M1 fun d M2=>R δ1 d M2)
  (hq:∀ p M',M p=Option.none->MExt M M'->M' p=some (.ls (xs.map f))->Q (.lst p) M'):YX n ti g te δ M Q:=by
 refine hti _ fun keep hk p hp=>⟨hk _ (.new hp),?_⟩;refine Xw (M0:=M) e f (fun δ'=>∃ l,l.length=n/\δ'=δ++l) hp hk ?_ (by simpa using hlen) ?_ ⟨_,by simp,rfl⟩ (.new hp) Yh
 ·rintro x hx δ' M' R ⟨l,hl,rfl⟩ e2 r
  exact hel x hx l M' R hl e2 fun l' M'' h1 h2=>r _ M'' ⟨l',h1,rfl⟩ h2
 ·intro M' e2 l
  exact⟨⟨_,l⟩,hq p M' hp e2 (by simpa using l)⟩
theorem BH (h:δ[i]?=some (some (.tup xs))):∀ R:List DL.D->(Mem->Prop)->Mem->Prop,(∀ keep,(∀ M',MExt M M'->keep M')->R xs keep M)->Ya (dVar i) δ M R :=
 fun R r=>Bx h (r _ fun _ _=>trivial)
theorem len1 (h:l.length=1):∃ a,l=[a]:=match l,h with | [a],_=>⟨a,rfl⟩
theorem len2 (h:l.length=2):∃ a b,l=[a,b]:=match l,h with | [a,b],_=>⟨a,b,rfl⟩
theorem len3 (h:l.length=3):∃ a b c,l=[a,b,c]:=match l,h with | [a,b,c],_=>⟨a,b,c,rfl⟩
theorem WC {M:Mem} {p:Addr} {Q:DK} {α:Type} {xs:List α} {f:α->Bool} (l:M p=some (.ls (xs.map fun x=>.bl (f x)))) (h:Q (.bl (xs.all f)) M):fAll [.lst p] M Q :=
 ⟨xs.map f,by rw[l,List.map_map];rfl,by rw[List.all_map];exact h⟩
mutual
noncomputable def Gd (M:Mem):DL.D->Prop
 | .tup xs=>Gds M xs
 | .int i=>i.natAbs<2 ^ 3000
 | .non=>True
 | .bl _=>True
 | .str _=>True
 | .fz _=>True
 | .lst a=>∃ xs,M a=some (.ls xs)
 | .dct a=>∃ xs,M a=some (.dk xs)
 | _=>False
noncomputable def Gds (M:Mem):List DL.D->Prop
 | []=>True
 | d::r=>Gd M d/\Gds M r
end
mutual
theorem Gd.ext (e:MExt M M'):∀ d,Gd M d->Gd M' d
 | .tup xs,h=>by unfold Gd at h ⊢;exact Gds.ext e xs h
 | .lst a,h=>by unfold Gd at h ⊢;exact let ⟨xs,q⟩:=h;⟨xs,e _ _ q⟩
 | .dct a,h=>by unfold Gd at h ⊢;exact let ⟨xs,q⟩:=h;⟨xs,e _ _ q⟩
 | .int i,h=>by unfold Gd at h ⊢;exact h
 | .non,_=>by unfold Gd;trivial
 | .bl _,_=>by unfold Gd;trivial
 | .str _,_=>by unfold Gd;trivial
 | .fz _,_=>by unfold Gd;trivial
 | .ty _,h=>by unfold Gd at h;exact h.elim
 | .ref _,h=>by unfold Gd at h;exact h.elim
 | .exc _ _,h=>by unfold Gd at h;exact h.elim
 | .cls _,h=>by unfold Gd at h;exact h.elim
theorem Gds.ext (e:MExt M M'):∀ ds,Gds M ds->Gds M' ds
 | [],_=>by unfold Gds;trivial
 | d::r,h=>by unfold Gds at h ⊢;exact⟨Gd.ext e d h.1,Gds.ext e r h.2⟩
end
theorem Gds.mem:∀ {ds:List DL.D},Gds M ds->∀ d∈ds,Gd M d
 | [],_,_,h=>by cases h
 | x::r,h,d,hd=>by
  unfold Gds at h;rcases List.mem_cons.mp hd with rfl|hd
  ·exact h.1
  ·exact Gds.mem h.2 d hd
theorem Gds.of:∀ {ds:List DL.D},(∀ d∈ds,Gd M d)->Gds M ds
 | [],_=>by unfold Gds;trivial
 | x::r,h=>by unfold Gds;exact⟨h x List.mem_cons_self,Gds.of fun d hd=>h d (List.mem_cons_of_mem _ hd)⟩
theorem Gd.tup (h:Gd M (.tup ds)):∀ d∈ds,Gd M d:=by unfold Gd at h;exact h.mem
theorem Gd.mk (h:∀ d∈ds,Gd M d):Gd M (.tup ds):=by unfold Gd;exact .of h
theorem Gd.ty (h:Gd M d):∃ t,tyD M d=some t:=by
 cases d<;>unfold Gd at h<;>first|exact⟨_,rfl⟩|exact h.elim|(obtain⟨xs,q⟩:=h;simp[tyD,q])
theorem Jo (hn:∀ ds,d≠.tup ds) (h:tyD M d=some t):isiT t "tuple"=false:=by
 cases d with
 | tup ds=>exact absurd rfl (hn ds)
 | lst a =>
  simp only[tyD] at h;split at h<;>cases h
  decide
 | dct a =>
  simp only[tyD] at h;split at h<;>cases h
  decide
 | _=>first|(cases h;decide)|cases h
theorem VP (h:tyD M d=some "int"):∃ i,d=.int i:=by
 cases d with
 | int i=>exact⟨i,rfl⟩
 | lst a=>simp only[tyD] at h;split at h<;>simp at h
 | dct a=>simp only[tyD] at h;split at h<;>simp at h
 | _=>simp[tyD] at h
noncomputable def S_14:DSp:=fun ds M Q _=>∃ d t,ds=[d]/\tyD M d=some t/\Q (.bl (decide (t="int"))) M
noncomputable def C_14:CSs:=%[.ret (.and (.bi .isinstance %[.var 0,.ty .int|0]) (.one (.not (.bi .isinstance %[.var 0,.ty .bool|0]))))|0]
theorem vc_14:∀ ds M R E,S_14 ds M R E->rSs C_14 (ends R E) (Y1 1 ds) M:=by
 rintro ds M R E ⟨d,t,rfl,ht,h⟩;simp[0,C_14,rSs,YQ,vAt,vHd,Y4,YL,Ya,ZH,dFor,YX,bMul,bAdd,iOp,sOp,fLen,Yr,YV,fIsi,fAll,fAny,YH,and_assoc,sizeLine_eq,ht];by_cases h1:t="int"
 ·subst h1;simp[isiT];exact h
 ·by_cases h2:t="bool"
  ·subst h2;simp[isiT];exact h
  ·simp[isiT,h1,h2];simpa[h1] using h
noncomputable def num?:DL.D->Option Rat
 | .tup [.int a,.int b]=>if 1<=b/\Int.gcd a b=1 then some (Rat.divInt a b) else none
 | _=>none
theorem Ui (a b:Int):num? (.tup [.int a,.int b])=if 1<=b/\Int.gcd a b=1 then some (Rat.divInt a b) else none:=rfl
theorem Uj (q:Rat):num? (nm q)=some q:=by
 unfold nm;have:=den_pos q;rw[Ui,if_pos ⟨by omega,CZ q⟩,ZW]
theorem JJ (h:num? d=some q):d=nm q:=by
 unfold num? at h;split at h
 ·rename_i a b
  split at h
  ·rename_i hc
   cases h;obtain⟨e1,e2⟩:=Cp hc.1 hc.2;unfold nm;rw[e1,e2]
  ·cases h
 ·cases h
noncomputable def Z7 (d:DL.D):Bool:=(num? d).isSome
theorem isNum_iff:Z7 d=true ↔ ∃ q,d=nm q:=by
 unfold Z7;constructor
 ·intro h;obtain⟨q,e⟩:=Option.isSome_iff_exists.mp h;exact⟨q,JJ e⟩
 ·rintro⟨q,rfl⟩;rw[Uj];rfl
theorem Wc (q:Rat):Z7 (nm q)=true:=isNum_iff.mpr ⟨q,rfl⟩
theorem VN (h:(∀ i,a≠.int i)\/∀ i,b≠.int i):Z7 (.tup [a,b])=false:=by
 unfold Z7 num?;split
 ·rename_i i j e
  simp at e;rcases h with h|h
  ·exact absurd e.1 (h i)
  ·exact absurd e.2 (h j)
 ·rfl
theorem Gd.sz (h:Gd M (nm q)):Sz 3000 q:=by
 have a:=h.tup (.int q.num) (by simp);have b:=h.tup (.int q.den) (by simp);unfold Gd at a b;exact⟨a,by simpa using b⟩
theorem Gd.nm (h:Sz n q) (hn:n<=3000):Gd M (nm q):=by
 refine .mk fun d hd=>?_;have:=h.mono hn;simp at hd;rcases hd with rfl|rfl<;>unfold Gd
 ·exact this.1
 ·simpa using this.2
noncomputable def S_15:DSp:=fun ds M Q _=>∃ d,ds=[d]/\Gd M d/\Q (.bl (Z7 d)) M
noncomputable def C_15:CSs:=%[.ife (.or (.not (.bi .isinstance %[.var 0,.ty .tuple|0])) (.one (.cmp .NotEq (.bi .len %[.var 0|0]) (.int 2)))) %[.ret (.bl false)|0] .nil,.asg (.tup %[.name 1,.name 2|0]) (.var 0),.ife (.or (.not (.call "is_whole" S_14 %[.var 1|0])) (.or (.not (.call "is_whole" S_14 %[.var 2|0])) (.one (.cmp .Lt (.var 2) (.int 1))))) %[.ret (.bl false)|0] .nil,.ret (.cmp .Eq (.call "greatest_divisor" S_13 %[.var 1,.var 2|0]) (.int 1))|0]
theorem vc_15:∀ ds M R E,S_15 ds M R E->rSs C_15 (ends R E) (Y1 3 ds) M:=by
 rintro ds M R E ⟨d,rfl,gd,h⟩;obtain⟨t,ht⟩:=gd.ty;by_cases hd:∃ xs,d=.tup xs
 ·obtain⟨xs,rfl⟩:=hd
  by_cases hl:xs.length=2
  ·obtain⟨a,b,rfl⟩:∃ a b,xs=[a,b]:=by
    match xs,hl with
    | [a,b],_=>exact⟨a,b,rfl⟩
   obtain⟨ta,hta⟩:=(gd.tup a (by simp)).ty;obtain⟨tb,htb⟩:=(gd.tup b (by simp)).ty;unfold C_15;rw[Y2];simp[0,YQ,vAt,vHd,Y4,YL,bMul,bAdd,sOp,Yr,YV,fIsi,YH,and_assoc,sizeLine_eq,Y5,fLen,tyD,isiT];refine Yk true ?_;simp;sleep 1;rw[Y2];sleep 2;refine⟨a,ta,rfl,hta,?_⟩;by_cases h1:ta="int"
   ·subst h1
    obtain⟨i,rfl⟩:=VP hta;simp;refine⟨b,tb,rfl,htb,?_⟩;by_cases h2:tb="int"
    ·subst h2
     obtain⟨j,rfl⟩:=VP htb;simp;by_cases h3:j<1
     ·have e:Z7 (.tup [.int i,.int j])=false:=by
       unfold Z7;rw[Ui,if_neg %[|5]];rfl
      simp[h3];rw[e] at h;exact h
     ·simp[h3]
      sleep 1;refine⟨i,j,rfl,?_⟩;refine Yk false ?_;have e:Z7 (.tup [.int i,.int j])=(((Int.gcd i j:Nat):Int)==1):=by
       unfold Z7;rw[Ui];by_cases hg:Int.gcd i j=1
       ·rw[if_pos ⟨by omega,hg⟩,hg];rfl
       ·rw[if_neg %[|5]]
        have:((Int.gcd i j:Nat):Int)≠1:=by omega
        simp[this]
      rw[e] at h;exact h
    ·simp[h2]
     have e:=VN (a:=.int i) (b:=b) (.inr fun j z=>h2 (by subst z;cases htb;rfl));rw[e] at h;exact h
   ·simp[h1]
    have e:=VN (a:=a) (b:=b) (.inl fun j z=>h1 (by subst z;cases hta;rfl));rw[e] at h;exact h
  ·have e:Z7 (.tup xs)=false:=by
    unfold Z7 num?;split
    ·rename_i z;cases z;simp at hl
    ·rfl
   rw[e] at h;unfold C_15;rw[Y2];simp[0,YQ,vAt,vHd,Y4,YL,bMul,bAdd,sOp,Yr,YV,fIsi,YH,and_assoc,sizeLine_eq,Y5,fLen,tyD,isiT];refine Yk true ?_;have:¬ ((xs.length:Int)=2):=by omega
   simp[this];exact h
 ·have hn:∀ ds,d≠.tup ds:=fun ds z=>hd ⟨ds,z⟩
  have e:Z7 d=false:=by
   unfold Z7 num?;split
   ·exact absurd rfl (hn _)
   ·rfl
  rw[e] at h;unfold C_15;rw[Y2];simp[0,YQ,vAt,vHd,Y4,YL,bMul,bAdd,sOp,Yr,YV,fIsi,YH,and_assoc,sizeLine_eq,Y5,ht,Jo hn ht];exact h
noncomputable def YK (l m:Int):DL.D->Bool
 | .tup xs=>decide (l<=xs.length)&&decide ((xs.length:Int)<=m)&&xs.all Z7
 | _=>false
noncomputable def S_16:DSp:=fun ds M Q _=>∃ d l m,ds=[d,.int l,.int m]/\m<=1000/\Gd M d/\∀ M',MExt M M'->Q (.bl (YK l m d)) M'
noncomputable def C_16:CSs:=%[.ife (.or (.not (.bi .isinstance %[.var 0,.ty .tuple|0])) (.one (.not (.chain .LtE .LtE (.var 1) (.bi .len %[.var 0|0]) (.var 2))))) %[.ret (.bl false)|0] .nil,.ret (.bi .all %[.comp ["thing","least","most","part"] 1 (.name 3) (.seq (.var 0)) (.call "is_number" S_15 %[.var 3|0])|0])|0]
theorem vc_16:∀ ds M R E,S_16 ds M R E->rSs C_16 (ends R E) (Y1 3 ds) M:=by
 rintro ds M R E ⟨d,l,m,rfl,hm,gd,h⟩;obtain⟨t,ht⟩:=gd.ty;by_cases hd:∃ xs,d=.tup xs
 ·obtain⟨xs,rfl⟩:=hd
  simp[0,C_16,rSs,YQ,vAt,vHd,YL,bMul,bAdd,iOp,sOp,fLen,Yr,YV,fIsi,YH,and_assoc,sizeLine_eq,tyD,isiT];by_cases h1:l<=(xs.length:Int)
  ·by_cases h2:(xs.length:Int)<=m
   ·rw[if_pos h1,if_pos h2]
    refine Jk xs (fun x=>.bl (Z7 x)) (BH rfl) %[|5] ?_ ?_
    ·intro x hx l' M' R' hl e r
     obtain⟨a,rfl⟩:=len1 hl;sleep 5;exact⟨x,rfl,(gd.tup x hx).ext e,r [some x] M' rfl (.refl _)⟩
    ·intro p M' hp e l'
     refine WC l' ?_;have:=h M' e
     simpa[YK,h1,h2] using this
   ·rw[if_pos h1,if_neg h2]
    have:=h M (.refl M)
    simpa[YK,h2] using this
  ·rw[if_neg h1]
   have:=h M (.refl M)
   simpa[YK,h1] using this
 ·have hn:∀ ds,d≠.tup ds:=fun ds z=>hd ⟨ds,z⟩
  have e:YK l m d=false:=by
   unfold YK;split
   ·exact absurd rfl (hn _)
   ·rfl
  rw[e] at h;simp[0,C_16,rSs,YQ,vAt,vHd,Y4,YL,Ya,ZH,dFor,YX,bMul,bAdd,iOp,sOp,fLen,Yr,YV,fIsi,fAll,fAny,YH,and_assoc,sizeLine_eq,ht,Jo hn ht];exact h M (.refl M)
structure EqEnc {α:Type} [DecidableEq α] (e:α->DL.D) (k:Nat):Prop where
 ex:∃ e':α->PyData,(∀ M a,Py M (e a) (e' a))/\(∀ a b,PyData.eqv (e' a) (e' b)=decide (a=b))/\∀ a,(e' a).depth<=k
theorem EqEnc.eq {α:Type} [DecidableEq α] {e:α->DL.D} {k:Nat} (h:EqEnc e k) (hk:k<=60) {M:Mem} {Q:DK} {a b:α} (neg:Bool) (q:Q (.bl (if neg then !decide (a=b) else decide (a=b))) M):cEq neg (e a) (e b) M Q:=by
 obtain⟨e',h1,h2,h3⟩:=h.ex;refine A3 (h1 M a) (h1 M b) ?_ (by rw[h2];exact q);have:=h3 a;omega
theorem enc_int:EqEnc (α:=Int) (fun i=>.int i) 1:=⟨fun i=>.int i,fun _ i=>.int i,fun a b=>by simp[PyData.eqv];rfl,fun a=>by simp[PyData.depth]⟩
theorem enc_nm:EqEnc nm 3:=by
 refine⟨fun q=>.tuple [.int q.num,.int q.den],fun M q=>.tup (.cons (.int _) (.cons (.int _) .nil)),fun p q=>?_,fun q=>by simp[PyData.depth,PyData.depthAll]⟩;simp only[PyData.eqv,PyData.eqvAll];by_cases h:p=q
 ·subst h;simp
 ·have:¬ (p.num=q.num/\(p.den:Int)=q.den):=fun ⟨a,b⟩=>h (Rat.ext a %[|5])
  simp only[h,decide_false];rw[Bool.eq_false_iff];intro z;simp at z;exact this ⟨z.1,by omega⟩
theorem Wy:∀ {l:List PyData},(∀ x∈l,x.depth<=k)->PyData.depthAll l<=k
 | [],_=>by simp[PyData.depthAll]
 | x::r,h=>by
  have a:=h x List.mem_cons_self;have b:=Wy fun y hy=>h y (List.mem_cons_of_mem _ hy);simp only[PyData.depthAll];omega
theorem JF {α:Type} {e:α->DL.D} {e':α->PyData} {M:Mem} (h:∀ a,Py M (e a) (e' a)):∀ l:List α,Pys M (l.map e) (l.map e')
 | []=>.nil
 | a::r=>.cons (h a) (JF h r)
theorem Ux [DecidableEq α] (h:∀ a b,PyData.eqv (e' a) (e' b)=decide (a=b)):∀ l m:List α,PyData.eqvAll (l.map e') (m.map e')=decide (l=m)
 | [],[]=>by simp[PyData.eqvAll]
 | [],_::_=>by simp[PyData.eqvAll]
 | _::_,[]=>by simp[PyData.eqvAll]
 | a::l,b::m=>by
  simp only[List.map_cons,PyData.eqvAll,h,Ux h l m,List.cons.injEq];by_cases h1:a=b<;>by_cases h2:l=m<;>simp[h1,h2]
theorem EqEnc.tup {α:Type} [DecidableEq α] {e:α->DL.D} {k:Nat} (h:EqEnc e k):EqEnc (fun l:List α=>.tup (l.map e)) (k+1):=by
 obtain⟨e',h1,h2,h3⟩:=h.ex;refine⟨fun l=>.tuple (l.map e'),fun M l=>.tup (JF (h1 M) l),fun a b=>by simp only[PyData.eqv];exact Ux h2 a b,fun l=>?_⟩;simp only[PyData.depth];have:=Wy (k:=k) (l:=l.map e') (by simp;exact fun a _=>h3 a);omega
theorem EqEnc.pair [DecidableEq α] [DecidableEq β] (h:EqEnc e k) (h':EqEnc f k):EqEnc (fun p:α×β=>.tup [e p.1,f p.2]) (k+1):=by
 obtain⟨e',h1,h2,h3⟩:=h.ex;obtain⟨f',g1,g2,g3⟩:=h'.ex;refine⟨fun p=>.tuple [e' p.1,f' p.2],fun M p=>.tup (.cons (h1 M _) (.cons (g1 M _) .nil)),fun a b=>?_,fun p=>?_⟩
 ·obtain⟨a1,a2⟩:=a
  obtain⟨b1,b2⟩:=b;simp only[PyData.eqv,PyData.eqvAll,h2,g2,Prod.mk.injEq];by_cases z1:a1=b1<;>by_cases z2:a2=b2<;>simp[z1,z2]
 ·simp only[PyData.depth,PyData.depthAll]
  have:=h3 p.1;have:=g3 p.2;omega
noncomputable def rw (r:List Rat):DL.D:=.tup (r.map nm)
noncomputable def pl (p:Rat×Rat):DL.D:=.tup [nm p.1,nm p.2]
noncomputable def tb (t:List (Rat×Rat)):DL.D:=.tup (t.map pl)
theorem enc_pl:EqEnc pl 4:=enc_nm.pair enc_nm
theorem D2 {M:Mem} {Q:DK} {a b:Rat} (neg:Bool) (q:Q (.bl (if neg then !decide (a=b) else decide (a=b))) M):cEq neg (nm a) (nm b) M Q:=enc_nm.eq %[|4] neg q
noncomputable def place?:DL.D->Option (Rat×Rat)
 | .tup [a,b]=>match num? a,num? b with
  | some p,some q=>if p<=q then some (p,q) else none
  | _,_=>none
 | _=>none
noncomputable def Z6 (d:DL.D):Bool:=(place? d).isSome
theorem Ca (h:place? d=some p):d=pl p/\p.1<=p.2:=by
 unfold place? at h;split at h
 ·rename_i a b
  split at h
  ·rename_i x y e1 e2
   split at h
   ·rename_i hl
    cases h;exact⟨by rw[JJ e1,JJ e2];rfl,hl⟩
   ·cases h
  ·cases h
 ·cases h
theorem BZ (h:p.1<=p.2):place? (pl p)=some p:=by
 unfold pl place?;simp only[Uj];rw[if_pos h]
theorem isPlace_iff:Z6 d=true ↔ ∃ p:Rat×Rat,d=pl p/\p.1<=p.2:=by
 unfold Z6;constructor
 ·intro h;obtain⟨p,e⟩:=Option.isSome_iff_exists.mp h;exact⟨p,Ca e⟩
 ·rintro⟨p,rfl,h⟩;rw[BZ h];rfl
noncomputable def S_17:DSp:=fun ds M Q _=>∃ d,ds=[d]/\Gd M d/\∀ M',MExt M M'->Q (.bl (Z6 d)) M'
noncomputable def C_17:CSs:=%[.ret (.and (.call "are_numbers" S_16 %[.var 0,.int 2,.int 2|0]) (.one (.not (.call "is_less" S_12 %[.ix (.var 0) (.int 1),.ix (.var 0) (.int 0)|0]))))|0]
theorem ID {a b:Prop} (h:a):if true=true then a else b:=h
theorem IE {a b:Prop} (h:b):if false=true then a else b:=h
theorem vc_17:∀ ds M R E,S_17 ds M R E->rSs C_17 (ends R E) (Y1 1 ds) M:=by
 rintro ds M R E ⟨d,rfl,gd,h⟩;unfold C_17;dsimp only[rSs,rS,rE,rEs,DL.plain,dSeq,dRet,XR,YS,dNil,d2,dVar,vAt,vHd,List.map,List.length_cons,List.length_nil,Nat.reduceAdd,Nat.reduceSub,List.replicate_succ,List.replicate_zero,List.cons_append,List.nil_append,List.set_cons_succ,List.set_cons_zero,dC,Y1,Dq,Do,dTru,dNot];refine⟨d,2,2,rfl,by decide,gd,fun M' e=>⟨_,rfl,?_⟩⟩;cases q:YK 2 2 d with
 | true =>
  obtain⟨a,b,rfl,ha,hb⟩:∃ a b,d=.tup [a,b]/\Z7 a=true/\Z7 b=true:=by
   unfold YK at q;split at q
   ·rename_i xs
    simp at q;obtain⟨a,b,rfl⟩:=len2 (l:=xs) %[|5];exact⟨a,b,rfl,by simpa using q.2 a (by simp),by simpa using q.2 b (by simp)⟩
   ·cases q
  obtain⟨x,rfl⟩:=isNum_iff.mp ha;obtain⟨y,rfl⟩:=isNum_iff.mp hb;have sx:=(gd.tup (nm x) (by simp)).sz;have sy:=(gd.tup (nm y) (by simp)).sz;refine ID ⟨_,Yv _ _ _,_,Yg _ _,y,x,rfl,.mk sy sx %[|4],?_⟩;have:=h M' e;have e2:Z6 (.tup [nm x,nm y])=!decide (y<x):=by
   unfold Z6 place?;simp only[Uj];by_cases z:x<=y
   ·rw[if_pos z,decide_eq_false (by grind)];rfl
   ·rw[if_neg z,decide_eq_true (by grind)];rfl
  rw[e2] at this;exact⟨_,rfl,this⟩
 | false =>
  refine IE ?_;have:=h M' e;have e2:Z6 d=false:=by
   cases z:Z6 d with
   | false=>rfl
   | true =>
    obtain⟨p,rfl,_⟩:=isPlace_iff.mp z;simp[YK,pl,Wc] at q
  rw[e2] at this;exact this
abbrev ZX:DL.D:=.int 25
noncomputable def Xq:DL.D->Bool
 | .tup xs=>decide (2<=xs.length)&&decide (xs.length<=25)&&xs.all Z6
 | _=>false
noncomputable def S_18:DSp:=fun ds M Q _=>∃ d,ds=[d]/\Gd M d/\∀ M',MExt M M'->Q (.bl (Xq d)) M'
noncomputable def C_18:CSs:=%[.ife (.or (.not (.bi .isinstance %[.var 0,.ty .tuple|0])) (.one (.not (.chain .LtE .LtE (.int 2) (.bi .len %[.var 0|0]) (.glo "MOST_PLACES" ZX))))) %[.ret (.bl false)|0] .nil,.ret (.bi .all %[.comp ["thing","part"] 1 (.name 1) (.seq (.var 0)) (.call "is_place" S_17 %[.var 1|0])|0])|0]
theorem vc_18:∀ ds M R E,S_18 ds M R E->rSs C_18 (ends R E) (Y1 1 ds) M:=by
 rintro ds M R E ⟨d,rfl,gd,h⟩;obtain⟨t,ht⟩:=gd.ty;by_cases hd:∃ xs,d=.tup xs
 ·obtain⟨xs,rfl⟩:=hd
  simp[0,C_18,rSs,YQ,vAt,vHd,YL,bMul,bAdd,iOp,sOp,fLen,Yr,YV,fIsi,YH,and_assoc,sizeLine_eq,tyD,isiT];by_cases h1:(2:Int)<=(xs.length:Int)
  ·by_cases h2:(xs.length:Int)<=25
   ·rw[if_pos h1,if_pos h2]
    refine Jk xs (fun x=>.bl (Z6 x)) (BH rfl) %[|5] ?_ ?_
    ·intro x hx l' M' R' hl e r
     obtain⟨a,rfl⟩:=len1 hl;sleep 5;exact⟨x,rfl,(gd.tup x hx).ext e,fun M'' e2=>r [some x] M'' rfl e2⟩
    ·intro p M' hp e l'
     refine WC l' ?_;have:=h M' e;have z1:2<=xs.length:=by omega
     have z2:xs.length<=25:=by omega
     simpa[Xq,z1,z2] using this
   ·rw[if_pos h1,if_neg h2]
    have:=h M (.refl M);have z2:¬ xs.length<=25:=by omega
    simpa[Xq,z2] using this
  ·rw[if_neg h1]
   have:=h M (.refl M);have z1:¬ 2<=xs.length:=by omega
   simpa[Xq,z1] using this
 ·have hn:∀ ds,d≠.tup ds:=fun ds z=>hd ⟨ds,z⟩
  have e:Xq d=false:=by
   unfold Xq;split
   ·exact absurd rfl (hn _)
   ·rfl
  rw[e] at h;simp[0,C_18,rSs,YQ,vAt,vHd,Y4,YL,Ya,ZH,dFor,YX,bMul,bAdd,iOp,sOp,fLen,Yr,YV,fIsi,fAll,fAny,YH,and_assoc,sizeLine_eq,ht,Jo hn ht];exact h M (.refl M)
theorem HQ {α:Type} {xs:List α} {i:Nat} {v:α} (h:xs[i]?=some v):L2.atI xs (i:Int)=some v:=L2.atI_nat h
theorem Fs (h:xs≠[]):L2.atI xs (-1)=some (xs.getLast h):=by
 unfold L2.atI L2.ixN;have:=List.length_pos_iff.mpr h;rw[if_neg %[|5],if_pos %[|5]];have e:(-1+(xs.length:Int)).toNat=xs.length-1:=by omega
 rw[e];simp[List.getLast_eq_getElem]
theorem GG (i:Int):nm (i:Rat)=.tup [.int i,.int 1]:=rfl
noncomputable def lo (t:List (Rat×Rat)) (i:Nat):Rat:=(t.getD i (0,0)).1
noncomputable def hi (t:List (Rat×Rat)) (i:Nat):Rat:=(t.getD i (0,0)).2
theorem tix (e:L2.atI xs i=some v) (q:Q v M):iOp (.tup xs) (.int i) M Q:=⟨v,e,q⟩
theorem pl0 (q:Q (nm p.1) M):iOp (pl p) (.int 0) M Q:=⟨_,Yg _ _,q⟩
theorem pl1 (q:Q (nm p.2) M):iOp (pl p) (.int 1) M Q:=⟨_,Yv _ _ _,q⟩
theorem W2 {i:Int} (h:i.natAbs<128):Sz 7 (i:Rat):=Sz.int (by simpa using h) %[|4]
noncomputable def ri (r:List Rat) (i:Nat):Rat:=r.getD i 0
noncomputable def Pk (M:Mem) (a:Addr):Prop:=∃ v:Int,M a=some (.ls [.int v])
structure Dr (a:Addr) (M M':Mem):Prop where
 pk:Pk M' a
 keep:∀ b o,b≠a->M b=some o->M' b=some o
theorem Dr.take:Dr a M (M.upd a (.ls [.int v])):=⟨⟨v,Yh⟩,fun b o h e=>by rw[YO h];exact e⟩
theorem Pk.ext (p:Pk M a) (e:MExt M M'):Pk M' a:=by obtain⟨v,h⟩:=p;exact⟨v,e _ _ h⟩
theorem Dr.ext (p:Pk M a) (e:MExt M M'):Dr a M M':=⟨p.ext e,fun b o _ h=>e b o h⟩
theorem Dr.trans (x:Dr a M M1) (y:Dr a M1 M2):Dr a M M2:=⟨y.pk,fun b o h e=>y.keep b o h (x.keep b o h e)⟩
theorem Pk.ne (k:Pk M a) (h:M p=none):p≠a:=fun z=>by obtain⟨v,e⟩:=k;rw[z,e] at h;cases h
theorem Dr.upd_new (x:Dr a M M') (h:M p=none) (hp:p≠a):Dr a M (M'.upd p o):=by
 obtain⟨v,e⟩:=x.pk;refine⟨⟨v,by rw[YO hp.symm];exact e⟩,fun b u hb e'=>?_⟩;have:b≠p:=fun z=>by rw[z,h] at e';cases e'
 rw[YO this];exact x.keep b u hb e'
theorem Ws {n:Nat} (h:n<2 ^ 200):n<2 ^ 8000:=Nat.lt_of_lt_of_le h (ZV %[|4])
theorem Ys {a:Addr} {n:Int} {M:Mem} {Q E:DK} (p:Pk M a) (hn:0<n) (hn2:n.natAbs<2 ^ 200) (q:∀ (r:Int) M',0<=r->r<n->Dr a M M'->Q (.int r) M'):S_1 [.lst a,.int n] M Q E:=by
 obtain⟨v,h⟩:=p;exact⟨a,n,v,rfl,h,hn,Ws hn2,fun r v' h0 h1=>q r _ h0 h1 .take⟩
theorem Ez:(D.tup [D.int 0,D.int 1])=nm 0:=rfl
theorem nm_i (i:Int):(D.tup [D.int i,D.int 1])=nm (i:Rat):=(GG i).symm
theorem CD (l:M p=some (.ls xs)) (e:L2.atI xs i=some v) (q:Q v M):iOp (.lst p) (.int i) M Q:=⟨xs,v,l,e,q⟩
theorem DJ (h0:0<=r) (h1:r<xs.length):∃ v,v∈xs/\L2.atI xs r=some v:=by
 obtain⟨n,rfl⟩:=Int.eq_ofNat_of_zero_le h0;have hn:n<xs.length:=by omega
 exact⟨xs[n],List.getElem_mem hn,HQ (List.getElem?_eq_getElem hn)⟩
theorem divInt_nonneg (ha:0<=a) (hb:0<=b):0<=Rat.divInt a b:=by
 exact Rat.divInt_nonneg ha hb
structure Box (t:List (Rat×Rat)) (k:Nat):Prop where
 ok:∀ p∈t,p.1<=p.2
 lo:∀ p∈t,Sz k p.1
 hi:∀ p∈t,Sz k p.2
noncomputable def LT (M:Mem) (a p:Addr) (m w:Int) (i:Nat) (δ:DSt) (M':Mem):Prop :=
 ∃ (z:Int) (t:List (Rat×Rat)) (w5:Option DL.D),Dr a M M'/\M' p=some (.ls (t.map pl))/\t.length=i/\z.natAbs<=3*i/\Box t 24/\δ=[some (.lst a),some (.int m),some (.int w),some (nm (z:Rat)),some (.lst p),w5]
theorem AL (n:Nat) (h:n<=100):Builtin.Range.small 0 (n:Int) 2=true/\0<=Builtin.Range.rangeSize 0 (n:Int) 2/\rngN 0 (n:Int) 2<=n:=by
 have key:∀ m:_root_.Fin 101,Builtin.Range.small 0 ((m.val:Nat):Int) 2=true/\0<=Builtin.Range.rangeSize 0 ((m.val:Nat):Int) 2/\rngN 0 ((m.val:Nat):Int) 2<=m.val:=by decide +kernel
 exact key ⟨n,by omega⟩
theorem EG (c:Int) (n:Nat) (h1:1<=c) (h2:c<=100):∃ z:Nat,z<=100/\(z:Int)<=c/\(if (1:Int)<(if c<(n:Int) then c else (n:Int)) then (if c<(n:Int) then c else (n:Int)) else 1)=(z:Int):=by
 by_cases a:c<(n:Int)
 ·rw[if_pos a]
  by_cases b:1<c
  ·rw[if_pos b];exact⟨c.toNat,by omega,by omega,by omega⟩
  ·rw[if_neg b];exact⟨1,by omega,by omega,by omega⟩
 ·rw[if_neg a]
  by_cases b:(1:Int)<n
  ·rw[if_pos b];exact⟨n,by omega,by omega,rfl⟩
  ·rw[if_neg b];exact⟨1,by omega,by omega,by omega⟩
structure Kp (M M':Mem):Prop where
 ls:∀ b xs,M b=some (.ls xs)->∃ ys,M' b=some (.ls ys)
 dk:∀ b xs,M b=some (.dk xs)->∃ ys,M' b=some (.dk ys)
mutual
theorem Gd.kp (e:Kp M M'):∀ d,Gd M d->Gd M' d
 | .tup xs,h=>by unfold Gd at h ⊢;exact Gds.kp e xs h
 | .lst a,h=>by unfold Gd at h ⊢;obtain⟨xs,q⟩:=h;exact e.ls _ _ q
 | .dct a,h=>by unfold Gd at h ⊢;obtain⟨xs,q⟩:=h;exact e.dk _ _ q
 | .int i,h=>by unfold Gd at h ⊢;exact h
 | .non,_=>by unfold Gd;trivial
 | .bl _,_=>by unfold Gd;trivial
 | .str _,_=>by unfold Gd;trivial
 | .fz _,_=>by unfold Gd;trivial
 | .ty _,h=>by unfold Gd at h;exact h.elim
 | .ref _,h=>by unfold Gd at h;exact h.elim
 | .exc _ _,h=>by unfold Gd at h;exact h.elim
 | .cls _,h=>by unfold Gd at h;exact h.elim
theorem Gds.kp (e:Kp M M'):∀ ds,Gds M ds->Gds M' ds
 | [],_=>by unfold Gds;trivial
 | d::r,h=>by unfold Gds at h ⊢;exact⟨Gd.kp e d h.1,Gds.kp e r h.2⟩
end
theorem gi (h:i.natAbs<2 ^ 3000):Gd M (.int i):=by unfold Gd;exact h
theorem gl (h:M p=some (.ls xs)):Gd M (.lst p):=by unfold Gd;exact⟨_,h⟩
theorem gs:Gd M (.str x):=by unfold Gd;trivial
theorem gt0:Gd M (.tup []):=.mk nofun
theorem gtc (h:Gd M d) (hr:Gd M (.tup r)):Gd M (.tup (d::r)):=.mk fun e he=>by
 rcases List.mem_cons.mp he with rfl|he
 ·exact h
 ·exact hr.tup e he
theorem gnm (h:Sz k q) (hk:k<=3000:=by decide):Gd M (nm q):=.nm h hk
theorem Fm {n:Nat} {g:DG} {te:DE} {δ:DSt} {M:Mem} {Q:DK} {keep:Mem->Prop} (xs:List DL.D) (f:DL.D->DL.D) (hk:∀ M',MExt M M'->keep M') (hlen:xs.length<=1000)
  (hel:∀ x∈xs,∀ l M' (R:DSt->DK),l.length=n->MExt M M'->(∀ l' M'',l'.length=n->MExt M' M''->R (δ++l') (f x) M'')->g x (δ++l) M' fun δ1 M1=>te δ1 M1 fun d M2=>R δ1 d M2)
  (hq:∀ p M',M p=Option.none->MExt M M'->M' p=some (.ls (xs.map f))->Q (.lst p) M'):∀ p,M p=none->keep (M.upd p (.ls []))/\Zb g te keep p xs [] (δ++List.replicate n none) (M.upd p (.ls [])) fun M2=>(∃ ds,M2 p=some (.ls ds))/\Q (.lst p) M2:=by
 intro p hp;refine⟨hk _ (.new hp),?_⟩;refine W0 (M0:=M) f (fun δ'=>∃ l,l.length=n/\δ'=δ++l) hp hk ?_ (by simpa using hlen) ?_ ⟨_,by simp,rfl⟩ (.new hp) Yh
 ·rintro x hx δ' M' R ⟨l,hl,rfl⟩ e r
  exact hel x hx l M' R hl e fun l' M'' h1 h2=>r _ M'' ⟨l',h1,rfl⟩ h2
 ·intro M' e l
  exact⟨⟨_,l⟩,hq p M' hp e (by simpa using l)⟩
theorem Bm
  (h:∀ K:List DL.D->(Mem->Prop)->Mem->Prop,(∀ (M1:Mem) (keep:Mem->Prop) (xs:List DL.D) (f:DL.D->DL.D),(∀ M',MExt M1 M'->keep M')->xs.length<=1000 ->
   (∀ x∈xs,∀ l M' (R:DSt->DK),l.length=n->MExt M1 M'->(∀ l' M'',l'.length=n->MExt M' M''->R (δ++l') (f x) M'')->g x (δ++l) M' fun δ1 M1=>te δ1 M1 fun d M2=>R δ1 d M2) ->
   (∀ p M',M1 p=Option.none->MExt M1 M'->M' p=some (.ls (xs.map f))->Q (.lst p) M')->K xs keep M1)->ti δ M K):YX n ti g te δ M Q :=
 h _ fun M1 keep xs f hk hl hel hq=>Fm xs f hk hl hel hq
theorem A4 (h1:l<=r.length) (h2:(r.length:Int)<=m):YK l m (rw r)=true:=by
 unfold YK rw;simp only[List.length_map,Bool.and_eq_true,decide_eq_true_eq];refine⟨⟨h1,h2⟩,?_⟩;rw[List.all_eq_true];intro x hx;obtain⟨q,_,rfl⟩:=List.mem_map.mp hx;exact Wc q
theorem IG (h:∀ x∈r,Sz k x) (hk:k<=2900):Gd M (rw r):=.mk fun d hd=>by
 obtain⟨q,hq,rfl⟩:=List.mem_map.mp hd;exact .nm (h q hq) %[|5]
section
variable {M:Mem} {Q:DK} {r s:List Rat} {t u:List (Rat×Rat)} {p:Rat×Rat} {q:Rat} {xs ys:List DL.D} {lo hi:Option Int} {i j k:Int} {a b:Addr} {d:DL.D}
@[simp] theorem IU:D.tup [nm q]=rw [q]:=rfl
@[simp] theorem IT:D.tup [nm x,nm y]=pl (x,y):=rfl
@[simp] theorem IV:D.tup [pl p]=tb [p]:=rfl
@[simp] theorem Kx:D.tup (r.map nm++nm q::s.map nm)=rw (r++q::s):=by unfold rw;simp
@[simp] theorem IW:D.tup (t.map pl++pl p::u.map pl)=tb (t++p::u):=by unfold tb;simp
@[simp] theorem Xg:bAdd (.int i) (.int j) M Q=Q (.int (i+j)) M:=rfl
@[simp] theorem K9:bAdd (.tup xs) (.tup ys) M Q=(xs.length+ys.length<=sizeLine/\Q (.tup (xs++ys)) M):=rfl
@[simp] theorem Kb:bAdd (.lst a) (.lst b) M Q=(∃ xs ys,M a=some (.ls xs)/\M b=some (.ls ys)/\xs.length+ys.length<=sizeLine/\DL.alloc M (.ls (xs++ys)) fun p M'=>Q (.lst p) M'):=rfl
@[simp] theorem Ka:bAdd (rw r) (rw s) M Q=(r.length+s.length<=sizeLine/\Q (rw (r++s)) M):=by
 show ((r.map nm).length+(s.map nm).length<=sizeLine/\Q (.tup (r.map nm++s.map nm)) M)=_;rw[List.length_map,List.length_map,<- List.map_append];rfl
@[simp] theorem Kc:bAdd (tb t) (tb u) M Q=(t.length+u.length<=sizeLine/\Q (tb (t++u)) M):=by
 show ((t.map pl).length+(u.map pl).length<=sizeLine/\Q (.tup (t.map pl++u.map pl)) M)=_;rw[List.length_map,List.length_map,<- List.map_append];rfl
@[simp] theorem IR:bAdd (rw r) (.tup ys) M Q=(r.length+ys.length<=sizeLine/\Q (.tup (r.map nm++ys)) M):=by
 show ((r.map nm).length+ys.length<=sizeLine/\Q (.tup (r.map nm++ys)) M)=_;rw[List.length_map]
@[simp] theorem IP:bAdd (.tup ys) (rw r) M Q=(ys.length+r.length<=sizeLine/\Q (.tup (ys++r.map nm)) M):=by
 show (ys.length+(r.map nm).length<=sizeLine/\Q (.tup (ys++r.map nm)) M)=_;rw[List.length_map]
@[simp] theorem IS:bAdd (tb t) (.tup ys) M Q=(t.length+ys.length<=sizeLine/\Q (.tup (t.map pl++ys)) M):=by
 show ((t.map pl).length+ys.length<=sizeLine/\Q (.tup (t.map pl++ys)) M)=_;rw[List.length_map]
@[simp] theorem IQ:bAdd (.tup ys) (tb t) M Q=(ys.length+t.length<=sizeLine/\Q (.tup (ys++t.map pl)) M):=by
 show (ys.length+(t.map pl).length<=sizeLine/\Q (.tup (ys++t.map pl)) M)=_;rw[List.length_map]
@[simp] theorem K0:bMul (.int i) (.int j) M Q=(IntMulOk i j/\Q (.int (i*j)) M):=rfl
@[simp] theorem IX:bMul (.tup xs) (.int k) M Q=(0<=k/\k<1000000/\xs.length*k.toNat<=sizeLine/\Q (.tup (List.replicate k.toNat xs).flatten) M):=rfl
@[simp] theorem IZ:bMul (.lst a) (.int k) M Q=(∃ xs,M a=some (.ls xs)/\0<=k/\k<1000000/\xs.length*k.toNat<=sizeLine/\DL.alloc M (.ls (List.replicate k.toNat xs).flatten) fun p M'=>Q (.lst p) M'):=rfl
theorem J5 (f:α->β) (n:Nat) (r:List α):(List.replicate n (r.map f)).flatten=((List.replicate n r).flatten).map f:=by
 induction n with
 | zero=>rfl
 | succ n ih=>rw [List.replicate_succ,List.replicate_succ,List.flatten_cons,List.flatten_cons,ih,List.map_append]
@[simp] theorem IY:bMul (rw r) (.int k) M Q=(0<=k/\k<1000000/\r.length*k.toNat<=sizeLine/\Q (rw (List.replicate k.toNat r).flatten) M):=by
 show (0<=k/\k<1000000/\(r.map nm).length*k.toNat<=sizeLine/\Q (.tup (List.replicate k.toNat (r.map nm)).flatten) M)=_;rw[List.length_map,J5];rfl
@[simp] theorem K1:bMul (tb t) (.int k) M Q=(0<=k/\k<1000000/\t.length*k.toNat<=sizeLine/\Q (tb (List.replicate k.toNat t).flatten) M):=by
 show (0<=k/\k<1000000/\(t.map pl).length*k.toNat<=sizeLine/\Q (.tup (List.replicate k.toNat (t.map pl)).flatten) M)=_;rw[List.length_map,J5];rfl
theorem AA (f:α->β) (xs:List α) (lo hi:Option Int):cutG (xs.map f) lo hi=(cutG xs lo hi).map f:=by
 unfold cutG;simp[List.map_take,List.map_drop]
@[simp] theorem Kq:sOp (.fz xs) lo hi M Q=DL.alloc M (.ls (cutG xs lo hi)) fun p M'=>Q (.lst p) M':=rfl
@[simp] theorem Ko:sOp (.lst a) lo hi M Q=(∃ xs,M a=some (.ls xs)/\DL.alloc M (.ls (cutG xs lo hi)) fun p M'=>Q (.lst p) M'):=rfl
@[simp] theorem Km:sOp (.tup xs) lo hi M Q=Q (.tup (cutG xs lo hi)) M:=rfl
@[simp] theorem Kn:sOp (rw r) lo hi M Q=Q (rw (cutG r lo hi)) M:=by
 show Q (.tup (cutG (r.map nm) lo hi)) M=_;rw[AA];rfl
@[simp] theorem Kr:sOp (tb t) lo hi M Q=Q (tb (cutG t lo hi)) M:=by
 show Q (.tup (cutG (t.map pl) lo hi)) M=_;rw[AA];rfl
@[simp] theorem Ks:YL (.tup xs) (some (-1)) M Q=Q (.tup xs.reverse) M:=by unfold YL;simp
@[simp] theorem Kt:YL (rw r) (some (-1)) M Q=Q (rw r.reverse) M:=by
 unfold YL;rw[show rw r=.tup (r.map nm) from rfl];simp[rw]
@[simp] theorem Ku:YL (tb t) (some (-1)) M Q=Q (tb t.reverse) M:=by
 unfold YL;rw[show tb t=.tup (t.map pl) from rfl];simp[tb]
@[simp] theorem K2:fLen [.tup xs] M Q=Q (.int xs.length) M:=rfl
@[simp] theorem K5:fLen [.fz xs] M Q=Q (.int xs.length) M:=rfl
@[simp] theorem K4:fLen [.lst a] M Q=(∃ xs,M a=some (.ls xs)/\Q (.int xs.length) M):=rfl
@[simp] theorem K3:fLen [rw r] M Q=Q (.int r.length) M:=by
 show Q (.int (r.map nm).length) M=_;rw[List.length_map]
@[simp] theorem K6:fLen [tb t] M Q=Q (.int t.length) M:=by
 show Q (.int (t.map pl).length) M=_;rw[List.length_map]
@[simp] theorem Kh:Yr [.tup xs] M Q=Q (.tup xs) M:=rfl
@[simp] theorem Kk:Yr [.fz xs] M Q=Q (.tup xs) M:=rfl
@[simp] theorem Kj:Yr [.lst a] M Q=(∃ xs,M a=some (.ls xs)/\Q (.tup xs) M):=rfl
@[simp] theorem Ki:Yr [rw r] M Q=Q (rw r) M:=rfl
@[simp] theorem Kl:Yr [tb t] M Q=Q (tb t) M:=rfl
@[simp] theorem Ky:YV [.tup xs] M Q=DL.alloc M (.ls xs) fun p M'=>Q (.lst p) M':=rfl
@[simp] theorem KB:YV [.fz xs] M Q=DL.alloc M (.ls xs) fun p M'=>Q (.lst p) M':=rfl
@[simp] theorem KA:YV [.lst a] M Q=(∃ xs,M a=some (.ls xs)/\DL.alloc M (.ls xs) fun p M'=>Q (.lst p) M'):=rfl
@[simp] theorem Kz:YV [rw r] M Q=DL.alloc M (.ls (r.map nm)) fun p M'=>Q (.lst p) M':=rfl
@[simp] theorem KC:YV [tb t] M Q=DL.alloc M (.ls (t.map pl)) fun p M'=>Q (.lst p) M':=rfl
theorem J6:fIsi [.tup xs,.ty "tuple"] M Q=Q (.bl true) M:=by
 unfold fIsi;simp[tyD,isiT]
@[simp] theorem K7:fIsi [.tup xs,.ty "tuple"] M Q=Q (.bl true) M:=J6
@[simp] theorem KO:fIsi [nm q,.ty "tuple"] M Q=Q (.bl true) M:=J6
@[simp] theorem KN:fIsi [pl p,.ty "tuple"] M Q=Q (.bl true) M:=J6
@[simp] theorem KM:fIsi [rw r,.ty "tuple"] M Q=Q (.bl true) M:=J6
@[simp] theorem KQ:fIsi [tb t,.ty "tuple"] M Q=Q (.bl true) M:=J6
@[simp] theorem KR:fIsi [.non,.ty "tuple"] M Q=Q (.bl false) M:=by unfold fIsi;simp[tyD,isiT]
@[simp] theorem KP:fIsi [.exc n x,.cls c] M Q=Q (.bl (ZR n c)) M:=by unfold fIsi;simp
@[simp] theorem K8:fIsi [.non,.cls c] M Q=Q (.bl false) M:=rfl
@[simp] theorem KL:fIsi [.exc n x,.ty "ValueError"] M Q=Q (.bl true) M:=by unfold fIsi;simp[tyD,isiT]
@[simp] theorem KH:iOp (nm q) (.int 0) M Q=Q (.int q.num) M:=by
 refine propext ⟨fun h=>?_,fun h=>ix0 h⟩;obtain⟨v,e,h⟩:=h;rw[Yg] at e;cases e;exact h
@[simp] theorem KG:iOp (nm q) (.int 1) M Q=Q (.int q.den) M:=by
 refine propext ⟨fun h=>?_,fun h=>ix1 h⟩;obtain⟨v,e,h⟩:=h;rw[Yv] at e;cases e;exact h
@[simp] theorem Kw:iOp (pl p) (.int 0) M Q=Q (nm p.1) M:=by
 refine propext ⟨fun h=>?_,fun h=>pl0 h⟩;obtain⟨v,e,h⟩:=h;rw[Yg] at e;cases e;exact h
@[simp] theorem Kv:iOp (pl p) (.int 1) M Q=Q (nm p.2) M:=by
 refine propext ⟨fun h=>?_,fun h=>pl1 h⟩;obtain⟨v,e,h⟩:=h;rw[Yv] at e;cases e;exact h
@[simp] theorem KS {n:Nat} {g:DGs} {δ:DSt} {Q:DSt->Mem->Prop}:YQ n g (.tup xs) δ M Q=(xs.length=n/\g xs δ M Q):=by
 unfold YQ;simp
@[simp] theorem KT {g:DGs} {δ:DSt} {Q:DSt->Mem->Prop}:YQ 2 g (pl p) δ M Q=g [nm p.1,nm p.2] δ M Q:=by
 refine propext ⟨fun h=>?_,fun h=>⟨_,rfl,rfl,h⟩⟩;obtain⟨ds,e,_,h⟩:=h;cases e;exact h
@[simp] theorem KU {g:DGs} {δ:DSt} {Q:DSt->Mem->Prop}:YQ 2 g (nm q) δ M Q=g [.int q.num,.int q.den] δ M Q:=by
 refine propext ⟨fun h=>?_,fun h=>⟨_,rfl,rfl,h⟩⟩;obtain⟨ds,e,_,h⟩:=h;cases e;exact h
@[simp] theorem Iz:YH (.tup xs) M R=R xs (fun _=>True) M:=rfl
@[simp] theorem KK:YH (.fz xs) M R=R xs (fun _=>True) M:=rfl
@[simp] theorem KJ:YH (.lst a) M R=(∃ xs,M a=some (.ls xs)/\R xs (fun M'=>M' a=some (.ls xs)) M):=rfl
@[simp] theorem KI:YH (rw r) M R=R (r.map nm) (fun _=>True) M:=rfl
@[simp] theorem IA:YH (tb t) M R=R (t.map pl) (fun _=>True) M:=rfl
@[simp] theorem KD:VM [rw r,rw s] M R=R ((List.zip r s).map fun z=>pl z) (fun _=>True) M:=by
 show R (zipD (r.map nm) (s.map nm)) _ _=_;unfold zipD;rw[List.zipWith_map,List.zip,List.map_zipWith];rfl
@[simp] theorem KF:VM [tb t,rw s] M R=R ((List.zip t s).map fun z=>.tup [pl z.1,nm z.2]) (fun _=>True) M:=by
 show R (zipD (t.map pl) (s.map nm)) _ _=_;unfold zipD;rw[List.zipWith_map,List.zip,List.map_zipWith]
@[simp] theorem KE:VM [rw s,tb t] M R=R ((List.zip s t).map fun z=>.tup [nm z.1,pl z.2]) (fun _=>True) M:=by
 show R (zipD (s.map nm) (t.map pl)) _ _=_;unfold zipD;rw[List.zipWith_map,List.zip,List.map_zipWith]
@[simp] theorem L5:cIs neg (nm q) .non M Q=Q (.bl neg) M:=by unfold cIs nm;cases neg<;>rfl
@[simp] theorem KZ:cIs neg (rw r) .non M Q=Q (.bl neg) M:=by unfold cIs rw;cases neg<;>rfl
@[simp] theorem L6:cIs neg (tb t) .non M Q=Q (.bl neg) M:=by unfold cIs tb;cases neg<;>rfl
@[simp] theorem KY:cIs neg (.exc n x) .non M Q=Q (.bl neg) M:=by unfold cIs;cases neg<;>rfl
@[simp] theorem L7:cIs neg .non .non M Q=Q (.bl !neg) M:=by unfold cIs;cases neg<;>rfl
@[simp] theorem KW {neg b c:Bool}:cIs neg (.bl b) (.bl c) M Q=Q (.bl (if neg then !(b==c) else b==c)) M:=by unfold cIs;cases neg<;>rfl
end
theorem YY {s:CS} {rest:CSs} {D:DEnds} {δ:DSt} {M:Mem} (h:∀ J:DSt->Mem->Prop,(∀ δ' M',rSs rest D δ' M'->J δ' M')->rS s {D with nx:=J} δ M):rSs (.cons s rest) D δ M:=by
 rw[Y2];exact h _ fun _ _ h=>h
theorem HF (xs:List α) (n:Nat) (h:n<=xs.length):cutG xs (some (n:Int)) none=xs.drop n:=by
 unfold cutG;rw[HT.sIx_none,HT.sIx_nat,Nat.min_eq_left %[|5],List.take_of_length_le (by simp)]
end K
end
set_option bootstrap.genMatcherCode true
local macro_rules
 | `(tactic| sleep 7)=>`(tactic| ((try dsimp only);rw[Y2];sleep 8))
 | `(tactic| sleep 8)=>`(tactic| ((try dsimp only[0,vAt,vHd,List.set_cons_succ,List.set_cons_zero,List.cons_append,List.nil_append,List.map,List.length_cons,List.length_nil,Nat.reduceAdd,Nat.reduceSub,List.replicate_succ,List.replicate_zero,Y4,Yj,Ya,dFld,Ym,Yn,Yl]);try simp[0,vAt,vHd,Y4,and_assoc,sizeLine_eq,Y5,Yj,Ya,dFld,Ym,Yn,Yl]))
 | `(tactic| sleep 9)=>`(tactic| ((try dsimp only);rw[Y2];(try dsimp only[rS,rI,dFor,ZH]);sleep 8))
set_option bootstrap.genMatcherCode false
noncomputable section
namespace K
open PySem DL Q
theorem Jc (X:K.In h) (G:h.Ns mainGlobals mg) (e:PySem.W.nsIn K mainGlobals n=some (some (.ref a)))
  (lk:K.lookup a=some ⟨.type "tuple",dd,.seq #[.int i t,.int j u] m,sl⟩):GloE K mg n (.tup [.int i,.int j]):=by
 refine⟨.ref a,.ref a,PySem.W.mg_of X G e,rfl,fun H=>.tup (vs:=[.int i,.int j]) (.inr ⟨_,#[.int i t,.int j u],m,lk,rfl,rfl,?_,?_⟩) (.cons (.int _) (.cons (.int _) .nil))⟩
 ·rw[sizeLine_eq];show 2<=16777216;decide
 ·exact .cons ⟨_,rfl⟩ (.cons ⟨_,rfl⟩ .nil)
abbrev Jn:DL.D:=.tup [.int 0,.int 1]
abbrev U5:DL.D:=.str "0123456789"
noncomputable def ts (i:Int):Str:=Str.ofString (toString i)
noncomputable def dg (m:Nat):List Nat:=(Nat.toDigits 10 m).map Char.toNat
theorem Zn (m:Nat):NumText.AllDigits (dg m):=fun c hc=>by
 obtain⟨ch,hch,e⟩:=List.mem_map.mp hc;rw[<- e];exact PyProof.Rows.digit_range (Nat.isDigit_of_mem_toDigits %[|4] %[|4] hch)
theorem Xt (m:Nat):dg m≠[]:=fun e=>by
 have h:=PySem.W.KIN.val_back m;have e':(Nat.toDigits 10 m).map Char.toNat=[]:=e;have h0:m=0:=by rw[e'] at h;exact h.symm
 subst h0
 revert e
 decide
theorem Zv (m:Nat):(ts (m:Int)).cps.toList=dg m:=by
 unfold ts dg;rw[PyProof.Rows.signs_ofString];show (Nat.repr m).toList.map Char.toNat=_;rw[Nat.toList_repr]
theorem XS (m:Nat):(ts (Int.negSucc m)).cps.toList=45::dg (m+1):=by
 unfold ts dg;rw[PyProof.Rows.signs_ofString];show ("-"++Nat.repr (m+1)).toList.map Char.toNat=_;rw[String.toList_append,List.map_append,Nat.toList_repr]
 rfl
theorem BD (i:Int):∃ cs,NumText.AllDigits cs/\cs≠[]/\((ts i).cps.toList=cs\/(ts i).cps.toList=45::cs):=by
 cases i with
 | ofNat m=>exact⟨dg m,Zn m,Xt m,.inl (Zv m)⟩
 | negSucc m=>exact⟨dg (m+1),Zn _,Xt _,.inr (XS m)⟩
theorem YI {i:Int} {c:Nat} (h:c∈(ts i).cps.toList):c=45\/(48<=c/\c<=57):=by
 obtain⟨cs,ha,_,e⟩:=BD i;rcases e with e|e<;>rw[e] at h
 ·exact .inr (ha c h)
 ·rcases List.mem_cons.mp h with rfl|h
  ·exact .inl rfl
  ·exact .inr (ha c h)
theorem V6 {i:Int} {k:Nat} (hk:0<k) (h:i.natAbs<10 ^ k):(ts i).length<=k+1:=by
 unfold ts;rw[ofString_length];exact int_text_length_le10 hk h
theorem Xm {i:Int} (h:(ts i).length<=640):intText? (ts i)=some i:=by
 cases i with
 | ofNat m =>
  have e:=intText_digits (x:=ts (m:Int)) (by rw[Zv];exact Zn m) (by rw[Zv];exact Xt m) (Nat.le_trans h %[|4]);rw[Zv] at e;rw[show NumText.digitsVal (dg m)=m from PySem.W.KIN.val_back m] at e;exact e
 | negSucc m =>
  have e:=intText_neg (x:=ts (Int.negSucc m)) (XS m) (Zn _) (Xt _) (Nat.le_trans h %[|4]);rw[show NumText.digitsVal (dg (m+1))=m+1 from PySem.W.KIN.val_back (m+1)] at e;rw[e];rfl
theorem Yt {x y:Str} (h:x.cps.toList=y.cps.toList):x=y:=by
 cases x;cases y;simp at h;simp[h]
theorem Yb (x y:Str):(x++y).cps.toList=x.cps.toList++y.cps.toList:=by
 show (x.cps++y.cps).toList=_;simp
theorem Gc (i:Int):∃ cs,NumText.AllDigits cs/\cs≠[]/\(Txt.removeprefix (ts i) "-").cps.toList=cs/\cs.length<=(ts i).length:=by
 have hm:("-":Str).cps.toList=[45]:=rfl;have hl1:("-":Str).length=1:=rfl;have tl:(ts i).cps.toList.length=(ts i).length:=Array.length_toList;rw[StrLaws.removeprefix_eq,StrLaws.subAt_eq,hm,hl1];cases i with
 | ofNat m =>
  have e:=Zv m;have ha:=Zn m;have hn:=Xt m
  change (ts (Int.ofNat m)).cps.toList=dg m at e
  rw[e];refine⟨dg m,ha,hn,?_,by rw[<- tl,e];exact Nat.le_refl _⟩;rw[if_neg]
  ·exact e
  ·cases hd:dg m with
   | nil=>exact absurd hd hn
   | cons c r =>
    have:=ha c (by rw[hd];exact List.mem_cons_self);simp;intro _ h;omega
 | negSucc m =>
  have e:=XS m;rw[e] at tl ⊢;have tl':(dg (m+1)).length+1=(ts (Int.negSucc m)).length:=by simpa using tl
  refine⟨dg (m+1),Zn _,Xt _,?_,by omega⟩;rw[if_pos (by simp;omega)];simp;rw[<- tl'];simp
theorem AS {x:Str} (h:47 ∉ x.cps.toList):Txt.partition x "/"=(x,Str.empty,Str.empty):=by
 have e:Builtin.Str.occurrences x "/" 0 x.length 1=[]:=by
  rw[List.eq_nil_iff_forall_not_mem];intro i hi;obtain⟨h1,h2⟩:=StrLaws.occ_spec x "/" 0 x.length 1 i hi;rw[StrLaws.subAt_eq,show ("/":Str).cps.toList=[47] from rfl] at h2;have:47∈(x.cps.toList.drop i).take ("/":Str).length:=by rw[eq_of_beq h2];simp
  exact h (List.mem_of_mem_drop (List.mem_of_mem_take this))
 unfold Txt.partition;rw[e]
theorem AR {a c:Str} (h:47 ∉ a.cps.toList):Txt.partition (a++"/"++c) "/"=(a,("/":Str),c):=by
 have ex:(a++"/"++c).cps.toList=a.cps.toList++47::c.cps.toList:=by
  rw[Yb,Yb,show ("/":Str).cps.toList=[47] from rfl];simp
 have al:a.cps.toList.length=a.length:=Array.length_toList;have xl:(a++"/"++c).length=a.length+1+c.length:=by rw[strLen_append,strLen_append];rfl
 have at_:StrLaws.At (a++"/"++c) "/" (a++"/"++c).length a.length:=by
  refine⟨by rw[xl];show a.length+1<=_;omega,?_⟩;rw[StrLaws.subAt_eq,ex,show ("/":Str).length=1 from rfl,show ("/":Str).cps.toList=[47] from rfl,List.drop_append_of_le_length %[|5],<- al,List.drop_length];simp
 have hd:=PyProof.Rows.partition_head (a++"/"++c) "/";have sm:=StrLaws.partition_sum (a++"/"++c) "/";rcases hd with ⟨_,hn⟩|⟨i,e1,ha,hf⟩
 ·exact absurd at_ (hn _)
 ·have i1:i=a.length:=by
   rcases Nat.lt_trichotomy i a.length with hlt|heq|hgt
   ·exfalso
    have h2:=ha.2;rw[StrLaws.subAt_eq,ex,show ("/":Str).length=1 from rfl,show ("/":Str).cps.toList=[47] from rfl,List.drop_append_of_le_length %[|5]] at h2;have h3:=eq_of_beq h2;have hi:i<a.cps.toList.length:=by omega
    rw[List.drop_eq_getElem_cons hi] at h3;simp at h3;exact h (by rw[<- h3];simp)
   ·exact heq
   ·exact absurd at_ (hf _ hgt)
  subst i1;have e0:(Txt.partition (a++"/"++c) "/").1=a:=by
   rw[e1];refine Yt ?_;rw[StrLaws.strSub_toList,ex];simp[al]
  have e2:(Txt.partition (a++"/"++c) "/").2.1="/":=by
   unfold Txt.partition;cases ho:Builtin.Str.occurrences (a++"/"++c) "/" 0 (a++"/"++c).length 1 with
   | nil =>
    exfalso;have:(Txt.partition (a++"/"++c) "/").1=a++"/"++c:=by unfold Txt.partition;rw[ho]
    rw[e0] at this;have:=congrArg Str.length this;rw[xl] at this;omega
   | cons _ _=>rfl
  have e3:(Txt.partition (a++"/"++c) "/").2.2=c:=by
   rw[e0,e2] at sm;refine Yt ?_;have:=congrArg (fun z=>z.cps.toList) sm;simp only[Yb] at this;exact List.append_cancel_left this
  generalize Txt.partition (a++"/"++c) "/"=p at e0 e2 e3;obtain⟨p1,p2,p3⟩:=p;simp only at e0 e2 e3;rw[e0,e2,e3]
noncomputable def Y0 (q:Rat):Str:=if q.den=1 then ts q.num else ts q.num++"/"++ts q.den
theorem X5 {q:Rat} (h:Sz 240 q):(ts q.num).length<=74/\(ts q.den).length<=74/\q.num.natAbs.log2<1920/\q.den.log2<1920:=by
 have e:(2:Nat) ^ 200<10 ^ 73:=by decide +kernel
 have lg:∀ n:Nat,n<2 ^ 240->n.log2<1920:=fun n hn=>by
  by_cases h0:n=0
  ·subst h0;decide
  ·exact Nat.lt_of_lt_of_le ((Nat.log2_lt h0).mpr hn) %[|4]
 refine⟨V6 %[|4] (by have:=h.1;omega),V6 %[|4] (by have:=h.2;simp;omega),lg _ h.1,lg _ h.2⟩
noncomputable def S_19:DSp:=fun ds M Q E=>∃ q:Rat,ds=[nm q]/\Sz 240 q/\Q (.str (Y0 q)) M
noncomputable def C_19:CSs:=%[.asg (.tup %[.name 1,.name 2|0]) (.var 0),.ret (.ife (.cmp .Eq (.var 2) (.int 1)) (.bi .str %[.var 1|0]) (.fstr "/" (.var 1) (.var 2)))|0]
theorem vc_19:∀ ds M R E,S_19 ds M R E->rSs C_19 (ends R E) (Y1 3 ds) M:=by
 rintro ds M R E ⟨q,rfl,sz,h⟩;obtain⟨l1,l2,g1,g2⟩:=X5 sz;rw[show nm q=.tup [.int q.num,.int q.den] from rfl];unfold C_19;sleep 7;sleep 7;refine Yk false ?_;unfold Y0 at h;by_cases hd:q.den=1
 ·rw[if_pos hd] at h
  exact .inr ⟨by simp[hd],g1,h⟩
 ·rw[if_neg hd] at h
  refine .inl ⟨by simp;omega,?_⟩;unfold Dp;have sl:sizeLine=16777216:=sizeLine_eq;have e1:(Str.ofString (toString q.num)++("/":Str)).length<=100:=by rw[strLen_append];show (ts q.num).length+1<=100;omega
  have e2:(Str.ofString (toString q.num)++("/":Str)++Str.ofString (toString (q.den:Int))).length<=200:=by rw[strLen_append];show _+(ts (q.den:Int)).length<=200;omega
  exact⟨_,rfl,g1,by omega,_,rfl,by simpa using g2,by omega,h⟩
theorem YB {x:Str} (h:∀ c∈x.cps.toList,c<128):(PyData.str x).canLay0=true:=by
 show x.cps.all (·<0x110000)=true;rw[Array.all_eq_true_iff_forall_mem];intro c hc;have:=h c (by simpa using hc);simp;omega
theorem Ab {x:Str} (h:∀ c∈x.cps.toList,c<128):x.cps.all (·<128)=true:=by
 rw[Array.all_eq_true_iff_forall_mem];intro c hc
 simpa using h c (by simpa using hc)
theorem YZ {M:Mem} {Q:DK} {x y:Str} (neg:Bool) (hx:(PyData.str x).canLay0=true) (hy:(PyData.str y).canLay0=true) (q:Q (.bl (if neg then !decide (x=y) else decide (x=y))) M):cEq neg (.str x) (.str y) M Q:=by
 refine⟨_,_,.str x hx,.str y hy,by simp[PyData.depth],?_⟩;have e:PyData.eqv (.str x) (.str y)=decide (x=y):=by
  simp only[PyData.eqv];rw[Bool.eq_iff_iff,beq_iff_eq,decide_eq_true_iff]
 rw[e];exact q
noncomputable def Asc (x:Str):Prop:=∀ c∈x.cps.toList,c<128
theorem Yd (x:Str):x.cps.toList.length=x.length:=Array.length_toList
theorem Vu {c:Nat}:∀ {a a' b b':List Nat},c ∉ a->c ∉ a'->a++c::b=a'++c::b'->a=a'/\b=b'
 | [],[],b,b',_,_,e=>by simpa using e
 | [],y::a',b,b',_,h,e=>by
  simp at e;exact absurd (by rw[e.1];simp) h
 | x::a,[],b,b',h,_,e=>by
  simp at e;exact absurd (by rw[e.1];simp) h
 | x::a,y::a',b,b',h,h',e=>by
  simp at e;obtain⟨rfl,e⟩:=e;have:=Vu (fun z=>h (List.mem_cons_of_mem _ z)) (fun z=>h' (List.mem_cons_of_mem _ z)) e;exact⟨by rw[this.1],this.2⟩
structure Two (x top bot:Str):Prop where
 is:(47 ∉ x.cps.toList/\top=x/\bot="1")\/(47 ∉ top.cps.toList/\x=top++"/"++bot)
theorem VE {i:Int}:47 ∉ (ts i).cps.toList:=fun hm=>by have:=YI hm;omega
theorem Zd (a b:Str):(a++"/"++b).cps.toList=a.cps.toList++47::b.cps.toList:=by
 rw[Yb,Yb,show ("/":Str).cps.toList=[47] from rfl];simp
theorem Two.num {top bot:Str} {q:Rat} (h:Two (Y0 q) top bot):top=ts q.num/\bot=ts q.den:=by
 obtain⟨h⟩:=h;by_cases hd:q.den=1
 ·have e:Y0 q=ts q.num:=by unfold Y0;rw[if_pos hd]
  rw[e] at h;rcases h with ⟨_,h1,h2⟩|⟨_,h2⟩
  ·exact⟨h1,by rw[h2,hd];rfl⟩
  ·exfalso
   have:=congrArg (fun z=>z.cps.toList) h2;simp only[Zd] at this;exact VE (i:=q.num) (by rw[this];simp)
 ·have e:Y0 q=ts q.num++"/"++ts q.den:=by unfold Y0;rw[if_neg hd]
  rw[e] at h;rcases h with ⟨h1,_⟩|⟨h1,h2⟩
  ·exact absurd (by rw[Zd];simp) h1
  ·have:=congrArg (fun z=>z.cps.toList) h2
   simp only[Zd] at this;have:=Vu VE h1 this;exact⟨(Yt this.1).symm,(Yt this.2).symm⟩
theorem Ci (x:Str):(47 ∉ x.cps.toList/\Txt.partition x "/"=(x,Str.empty,Str.empty))\/∃ a c:Str,47 ∉ a.cps.toList/\x=a++"/"++c/\Txt.partition x "/"=(a,("/":Str),c):=by
 by_cases h:47∈x.cps.toList
 ·obtain⟨l,r,e,hl⟩:=List.eq_append_cons_of_mem h
  have ex:x=(⟨l.toArray⟩:Str)++"/"++⟨r.toArray⟩:=Yt (by rw[Zd];simpa using e);refine .inr ⟨⟨l.toArray⟩,⟨r.toArray⟩,by simpa using hl,ex,?_⟩;rw[ex];exact AR (by simpa using hl)
 ·exact .inl ⟨h,AS h⟩
noncomputable def figB (l:List Nat):Bool:=!l.isEmpty&&l.all fun c=>decide (48<=c/\c<=57)
theorem figB_iff {l:List Nat}:figB l=true ↔ l≠[]/\NumText.AllDigits l:=by
 unfold figB;constructor
 ·intro h
  simp at h;exact⟨h.1,fun c hc=>h.2 c hc⟩
 ·rintro⟨h1,h2⟩
  simp;exact⟨h1,fun c hc=>h2 c hc⟩
noncomputable def S_20:DSp:=fun ds M Q E=>∃ x:Str,ds=[.str x]/\Asc x/\x.length<=1000/\∀ M',MExt M M'->Q (.bl (figB x.cps.toList)) M'
noncomputable def C_20:CSs:=%[.ret (.and (.cmp .NotEq (.var 0) (.str "")) (.one (.bi .all %[.comp ["text","sign"] 1 (.name 1) (.sgn (.var 0)) (.cmp .In (.var 1) (.glo "FIGURES" U5))|0])))|0]
theorem vc_20:∀ ds M R E,S_20 ds M R E->rSs C_20 (ends R E) (Y1 1 ds) M:=by
 rintro ds M R E ⟨x,rfl,sm,hl,q⟩;unfold C_20;sleep 7;refine YZ true (YB sm) (YB fun c hc=>by rw[show ("":Str).cps.toList=[] from rfl] at hc;cases hc) ?_;by_cases ne:x=("":Str)
 ·have:=q M (.refl M)
  rw[show figB x.cps.toList=false by rw[ne];rfl] at this;exact .inl ⟨by simp[ne],this⟩
 refine .inr ⟨by simp[ne],?_⟩;refine Zg x.cps.toList (fun c=>.str ⟨#[c]⟩) (fun c=>.bl (decide (48<=c/\c<=57))) (fun R' r'=>⟨x,rfl,Ab sm,r' _ fun _ _=>trivial⟩) (by rw[Array.length_toList];exact hl) ?_ ?_
 ·intro c hc l M' R' hl' ee r'
  obtain⟨z,rfl⟩:=len1 hl';have fig:∀ n,n<128->(!(Builtin.Str.occurrences ("0123456789":Str) ⟨#[n]⟩ 0 ("0123456789":Str).length 1).isEmpty)=decide (48<=n/\n<=57):=by decide +kernel
  have:=fig c (sm c hc);sleep 8;refine⟨_,rfl,?_⟩;rw[if_neg %[|4],this];exact r' [_] M' rfl (.refl _)
 intro p M1 e1 x1 l1;refine WC (f:=fun c=>decide (48<=c/\c<=57)) l1 ?_;have:=q M1 x1;have e:figB x.cps.toList=x.cps.toList.all (fun c=>decide (48<=c/\c<=57)):=by
  unfold figB;have:x.cps.toList.isEmpty=false:=by
   cases h:x.cps.toList with
   | nil=>exact absurd (Yt (by rw[h];rfl)) ne
   | cons _ _=>rfl
  rw[this];rfl
 rw[e] at this;exact this
theorem U7:∀ {cs:List Nat} {a k:Nat},NumText.AllDigits cs->a<10 ^ k->List.foldl (fun acc c=>acc*10+(c-48)) a cs<10 ^ (k+cs.length)
 | [],a,k,_,h=>by simpa using h
 | c::cs,a,k,hd,h=>by
  have hc:=hd c List.mem_cons_self;have:=U7 (cs:=cs) (a:=a*10+(c-48)) (k:=k+1) (fun d h=>hd d (List.mem_cons_of_mem _ h)) (by rw[Nat.pow_succ];omega);rw[List.foldl_cons,List.length_cons,show k+(cs.length+1)=k+1+cs.length by omega];exact this
noncomputable def unM:List Nat->List Nat
 | 45::r=>r
 | l=>l
theorem Ad (x:Str):(Txt.removeprefix x "-").cps.toList=unM x.cps.toList:=by
 have hm:("-":Str).cps.toList=[45]:=rfl;have hl1:("-":Str).length=1:=rfl;have tl:=Yd x;rw[StrLaws.removeprefix_eq,StrLaws.subAt_eq,hm,hl1];cases h:x.cps.toList with
 | nil =>
  rw[if_neg (by simp)];rw[h];rfl
 | cons c r =>
  rw[h] at tl;by_cases hc:c=45
  ·subst hc
   rw[if_pos (by simp;simp at tl;omega)];simp[h,unM];simp at tl;exact List.take_of_length_le %[|5]
  ·rw[if_neg (by simp;intro _ z;exact hc z)]
   rw[h];unfold unM;split
   ·rename_i e;cases e;exact absurd rfl hc
   ·rfl
theorem Ar {x:Str} (h:figB (unM x.cps.toList)=true) (hl:x.length<=70):∃ i:Int,intText? x=some i/\i.natAbs<10 ^ 70/\(45 ∉ x.cps.toList->0<=i):=by
 obtain⟨hn,ha⟩:=figB_iff.mp h;have tl:=Yd x;have p10:∀ n,n<=70->(10:Nat) ^ n<=10 ^ 70:=fun n hn=>Nat.pow_le_pow_right %[|4] hn;cases hx:x.cps.toList with
 | nil=>rw [hx] at hn;exact absurd rfl hn
 | cons c r =>
  rw[hx] at tl;by_cases hc:c=45
  ·subst hc
   rw[hx] at hn ha
   change r≠[] at hn
   change NumText.AllDigits r at ha
   refine⟨_,intText_neg hx ha hn %[|5],?_,fun z=>absurd (by simp) z⟩;have:=U7 (cs:=r) (a:=0) (k:=0) ha %[|4];have h2:=p10 (0+r.length) (by simp at tl;omega);rw[Int.natAbs_neg,Int.natAbs_natCast];exact Nat.lt_of_lt_of_le this h2
  ·have e:unM x.cps.toList=x.cps.toList:=by
    rw[hx];unfold unM;split
    ·rename_i e;cases e;exact absurd rfl hc
    ·rfl
   rw[e] at hn ha;refine⟨_,intText_digits ha hn %[|5],?_,fun _=>by omega⟩;have:=U7 (cs:=x.cps.toList) (a:=0) (k:=0) ha %[|4];have h2:=p10 (0+x.cps.toList.length) (by rw[hx];simp at tl ⊢;omega);rw[Int.natAbs_natCast];exact Nat.lt_of_lt_of_le this h2
theorem GU (i:Int):figB (unM (ts i).cps.toList)=true:=by
 obtain⟨cs,ca,cn,ce,_⟩:=Gc i;rw[<- Ad,ce];exact figB_iff.mpr ⟨cn,ca⟩
theorem EM (m:Nat):figB (ts (m:Int)).cps.toList=true:=by
 rw[Zv];exact figB_iff.mpr ⟨Xt m,Zn m⟩
theorem A7 {l:List Nat} (h:figB l=true):unM l=l:=by
 unfold unM;split
 ·rename_i r
  have:=(figB_iff.mp h).2 45 (by simp);omega
 ·rfl
structure Rd (M:Mem) (x:Str) (Q E:DK):Prop where
 yes:∀ q,x=Y0 q->∀ M',MExt M M'->Q (nm q) M'
 no:(∀ q,x≠Y0 q)->∀ M',MExt M M'->E (.exc "NoText" .non) M'
theorem Aq {M:Mem} {x:Str} {Q:DK} (z:Q (.bl true) M):fIsi [.str x,.ty "str"] M Q:=by unfold fIsi;simpa[tyD,isiT] using z
noncomputable def S_21:DSp:=fun ds M Q E=>∃ d:DL.D,ds=[d]/\((∃ x:Str,d=.str x/\Asc x/\x.length<=70/\Rd M x Q E)\/∃ t,tyD M d=some t/\isiT t "str"=false/\∀ M',MExt M M'->E (.exc "NoText" .non) M')
noncomputable def C_21:CSs:=%[.ife (.not (.bi .isinstance %[.var 0,.ty .str|0])) %[.rsi "NoText" %[.non|0]|0] .nil,.asg (.tup %[.name 1,.name 2,.name 3|0]) (.spart 0 (.str "/")),.ife (.not (.var 2)) %[.set 3 (.str "1")|0] .nil,.ife (.or (.not (.call "are_figures" S_20 %[.srem 1 (.str "-")|0])) (.one (.not (.call "are_figures" S_20 %[.var 3|0])))) %[.rsi "NoText" %[.non|0]|0] .nil,.set 4 (.tup %[.bi .intS %[.var 1|0],.bi .intS %[.var 3|0]|0]),.ife (.or (.not (.call "is_number" S_15 %[.var 4|0])) (.one (.cmp .NotEq (.call "show_number" S_19 %[.var 4|0]) (.var 0)))) %[.rsi "NoText" %[.non|0]|0] .nil,.ret (.var 4)|0]
theorem vc_21:∀ ds M R E,S_21 ds M R E->rSs C_21 (ends R E) (Y1 5 ds) M:=by
 rintro ds M R E ⟨d,rfl,⟨x,rfl,asc,xl,h⟩|⟨t,ht,hs,h⟩⟩
 ·unfold C_21
  have sl:sizeLine=16777216:=sizeLine_eq;sleep 7;refine Aq ?_;simp
  (try dsimp only);rw[Y2];simp[0,vAt,vHd,Y4,and_assoc,sizeLine_eq,Y5,Yj,Ya,dFld,Ym,Yn,Yl,UA]
  refine⟨by decide,by omega,?_⟩;refine YY fun J hJ=>?_;have tail:∀ top st bot:Str,Two x top bot->Asc top->Asc bot->top.length<=70->bot.length<=70->J [some (.str x),some (.str top),some (.str st),some (.str bot),none] M:=by
   intro top st bot two at' ab tl bl;refine hJ _ _ ?_;have rl:=Ad top;have ar:Asc (Txt.removeprefix top "-"):=fun c hc=>by
    rw[rl] at hc;refine at' c ?_;unfold unM at hc;split at hc
    ·rename_i r e;rw[e];exact List.mem_cons_of_mem _ hc
    ·exact hc
   have rlen:(Txt.removeprefix top "-").length<=70:=by
    rw[<- Yd,rl];have:=Yd top;unfold unM;split
    ·rename_i r e;rw[e] at this;simp at this;omega
    ·omega
   (try dsimp only);rw[Y2];simp[0,vAt,vHd,Y4,and_assoc,sizeLine_eq,Y5,Yj,Ya,dFld,Ym,Yn,Yl,Dm]
   refine⟨by omega,_,rfl,ar,by omega,fun M1 x1=>?_⟩;rw[rl];cases hf:figB (unM top.cps.toList) with
   | false =>
    simp;sleep 7
    (try simp only[YR])
    sleep 8;refine h.no (fun q e=>?_) M1 x1;rw[e] at two;rw[two.num.1,GU] at hf;cases hf
   | true =>
   simp;refine⟨_,rfl,ab,by omega,fun M2 x2=>?_⟩;cases hb:figB bot.cps.toList with
   | false =>
    simp;sleep 7
    (try simp only[YR])
    sleep 8;refine h.no (fun q e=>?_) M2 (x1.trans x2);rw[e] at two;rw[two.num.2,EM] at hb;cases hb
   | true =>
   simp;obtain⟨i,hi,gi',_⟩:=Ar hf tl;obtain⟨j,hj,gj,_⟩:=Ar (x:=bot) (by rw[A7 hb];exact hb) bl
   (try dsimp only);rw[Y2];simp[0,vAt,vHd,Y4,and_assoc,sizeLine_eq,Y5,Yj,Ya,dFld,Ym,Yn,Yl,Vm]
   refine⟨_,hi,by omega,_,hj,by omega,?_⟩;have p1:(10:Nat) ^ 60<2 ^ 240:=by decide +kernel
   have ij:∀ q,x=Y0 q->i=q.num/\j=q.den:=fun q e=>by
    subst e;have:=two.num;rw[this.1] at hi tl;rw[this.2] at hj bl;rw[Xm %[|5]] at hi hj;exact⟨(Option.some.inj hi).symm,(Option.some.inj hj).symm⟩
   sleep 7;refine⟨_,rfl,gtc (gi (Nat.lt_of_lt_of_le (show i.natAbs<2 ^ 240 by omega) (ZV %[|4]))) (gtc (gi (Nat.lt_of_lt_of_le (show j.natAbs<2 ^ 240 by omega) (ZV %[|4]))) gt0),?_⟩;cases hn:Z7 (.tup [.int i,.int j]) with
   | false =>
    simp;sleep 7
    (try simp only[YR])
    sleep 8;refine h.no (fun q e=>?_) M2 (x1.trans x2);obtain⟨rfl,rfl⟩:=ij q e;rw[show D.tup [.int q.num,.int q.den]=nm q from rfl,Wc] at hn;cases hn
   | true =>
   obtain⟨q,eq⟩:=isNum_iff.mp hn;have e1:i=q.num/\j=q.den:=by
    unfold nm at eq;injection eq with eq
    simp at eq;exact eq
   obtain⟨rfl,rfl⟩:=e1;have sz:Sz 240 q:=⟨by omega,by simp at gj;omega⟩;simp;refine⟨q,rfl,sz,?_⟩;have lay:(PyData.str (Y0 q)).canLay0=true:=YB fun c hc=>by
    unfold Y0 at hc;split at hc
    ·have:=YI hc;omega
    ·rw[Zd] at hc
     rcases List.mem_append.mp hc with hc|hc
     ·have:=YI hc;omega
     ·rcases List.mem_cons.mp hc with rfl|hc
      ·omega
      ·have:=YI hc;omega
   refine YZ true lay (YB asc) ?_;by_cases he:Y0 q=x
   ·simp[he]
    sleep 7;exact h.yes q he.symm M2 (x1.trans x2)
   ·simp[he]
    sleep 7
    (try simp only[YR])
    sleep 8;refine h.no (fun q' e=>?_) M2 (x1.trans x2);obtain⟨h1,h2⟩:=ij q' e;have:q=q':=Rat.ext h1 %[|5];exact he (by rw[this,e])
  sleep 8;rcases Ci x with ⟨hno,e⟩|⟨a,c,hno,ex,e⟩
  ·rw[e]
   dsimp only;have e0:Str.empty.length=0:=rfl;refine⟨by rw[e0];decide,?_⟩;rw[if_pos e0];sleep 7;exact tail x Str.empty "1" ⟨.inl ⟨hno,rfl,rfl⟩⟩ asc (fun c hc=>by rw[show ("1":Str).cps.toList=[49] from rfl] at hc;simp at hc;omega) xl %[|4]
  ·rw[e]
   dsimp only;have e0:("/":Str).length=1:=rfl;refine⟨by rw[e0];decide,?_⟩;rw[if_neg (by rw[e0];decide)];have xc:x.length=a.length+1+c.length:=by rw[ex,strLen_append,strLen_append];rfl
   refine tail a "/" c ⟨.inr ⟨hno,ex⟩⟩ (fun z hz=>asc z (by rw[ex,Zd];simp[hz])) (fun z hz=>asc z (by rw[ex,Zd];simp[hz])) %[|5] %[|5]
 ·unfold C_21
  sleep 7;refine⟨t,ht,by simp,?_⟩;rw[hs];simp;sleep 7
  (try simp only[YR])
  sleep 8;exact h M (.refl M)
noncomputable def tk:List Nat->List Nat
 | []=>[]
 | c::r=>if 48<=c/\c<=57 then c::tk r else []
noncomputable def dk:List Nat->List Nat
 | []=>[]
 | c::r=>if 48<=c/\c<=57 then dk r else c::r
noncomputable def lead:List Nat->Bool
 | []=>false
 | [_]=>true
 | c::_::_=>c != 48
theorem Uz (m:Nat):lead (dg m)=true:=by
 have hn:=Xt m;cases h:dg m with
 | nil=>exact absurd h hn
 | cons c r =>
  cases r with
  | nil=>rfl
  | cons d r =>
   show (c != 48)=true;rw[bne_iff_ne];rintro rfl;have hv:NumText.digitsVal (dg m)=m:=PySem.W.KIN.val_back m;have ha:=Zn m;rw[h] at hv ha;have hlt:=U7 (cs:=d::r) (a:=0) (k:=0) (fun x hx=>ha x (List.mem_cons_of_mem _ hx)) %[|4];have hv':List.foldl (fun acc c=>acc*10+(c-48)) 0 (d::r)=m:=hv;rw[hv'] at hlt;have hl:(dg m).length<=(d::r).length:=by
    unfold dg;rw[List.length_map];refine (Nat.length_toDigits_le_iff %[|4] (by simp)).mpr ?_
    simpa using hlt
   rw[h] at hl;simp at hl;omega
theorem Hm {m n:Nat} (h:dg m=dg n):m=n:=by
 have a:NumText.digitsVal (dg m)=m:=PySem.W.KIN.val_back m;have b:NumText.digitsVal (dg n)=n:=PySem.W.KIN.val_back n;rw[h] at a;exact a.symm.trans b
theorem dg0:dg 0=[48]:=rfl
theorem X4 {i j:Int} (hi:(ts i).length<=640) (hj:(ts j).length<=640) (h:ts i=ts j):i=j:=by
 have a:=Xm hi;rw[h,Xm hj] at a;exact (Option.some.inj a).symm
abbrev sp (x:Str):List Str:=Txt.split x " "
abbrev jn (l:List Str):Str:=Txt.join " " l
noncomputable def Fre (l:List Str):Prop:=∀ p∈l,32 ∉ p.cps.toList
theorem Al (l:List Str):jn l=Str.join " " l:=StrLaws.glued_eq_join _ _
theorem Xp (x:Str):jn [x]=x:=by rw[Al];rfl
theorem Xh (x y:Str) (r:List Str):(jn (x::y::r)).cps.toList=x.cps.toList++32::(jn (y::r)).cps.toList:=by
 rw[Al,Al,show Str.join " " (x::y::r)=x++" "++Str.join " " (y::r) from rfl,Yb,Yb,show (" ":Str).cps.toList=[32] from rfl];simp
theorem Ak:∀ {A B:List Str},A≠[]->B≠[]->Fre A->Fre B->jn A=jn B->A=B
 | [],_,h,_,_,_,_=>absurd rfl h
 | _,[],_,h,_,_,_=>absurd rfl h
 | [x],[y],_,_,_,_,e=>by rw[Xp,Xp] at e;rw[e]
 | [x],y::z::r,_,_,fa,_,e=>by
  have:=congrArg (fun s=>s.cps.toList) e;simp only[Xp,Xh] at this;exact absurd (by rw[this];simp) (fa x (by simp))
 | x::y::r,[z],_,_,_,fb,e=>by
  have:=congrArg (fun s=>s.cps.toList) e;simp only[Xp,Xh] at this;exact absurd (by rw[<- this];simp) (fb z (by simp))
 | x::y::r,z::w::s,_,_,fa,fb,e=>by
  have:=congrArg (fun s=>s.cps.toList) e;simp only[Xh] at this;obtain⟨h1,h2⟩:=Vu (fa x (by simp)) (fb z (by simp)) this;rw[Yt h1,Ak (by simp) (by simp) (fun p hp=>fa p (List.mem_cons_of_mem _ hp)) (fun p hp=>fb p (List.mem_cons_of_mem _ hp)) (Yt h2)]
theorem WJ (x:Str):jn (sp x)=x:=by rw[Al];exact StrLaws.join_split x " "
theorem DV (x:Str):Fre (sp x):=fun p hp=>StrLaws.split_free x 32 p hp
theorem Ib (x:Str):sp x≠[]:=fun e=>by
 have h:=WJ x;rw[e] at h;rw[<- h] at e;exact absurd e (by decide +kernel)
theorem Ic {A:List Str} (h:A≠[]) (f:Fre A):sp (jn A)=A:=Ak (Ib _) h (DV _) f (WJ _)
theorem JN (q:Rat):32 ∉ (Y0 q).cps.toList:=fun h=>by
 unfold Y0 at h;split at h
 ·have:=YI h;omega
 ·rw[Zd] at h
  rcases List.mem_append.mp h with h|h
  ·have:=YI h;omega
  ·rcases List.mem_cons.mp h with h|h
   ·omega
   ·have:=YI h;omega
theorem CK:∀ {l:List Str} {k:Nat},(∀ p∈l,p.length<=k)->(jn l).length<=l.length*(k+1)
 | [],k,_=>by rw[show (jn []).length=0 from rfl];omega
 | [x],k,h=>by rw[Xp];have:=h x (by simp);simp;omega
 | x::y::r,k,h=>by
  have ih:=CK (l:=y::r) (k:=k) fun p hp=>h p (List.mem_cons_of_mem _ hp);have e:=congrArg List.length (Xh x y r);rw[Yd,List.length_append,List.length_cons,Yd,Yd] at e;have:=h x (by simp);rw[List.length_cons,Nat.succ_mul,e];omega
theorem FK {m k:Nat} (hk:0<k) (h:(dg m).length<=k):m<10 ^ k:=by
 unfold dg at h;rw[List.length_map] at h;exact (Nat.length_toDigits_le_iff %[|4] hk).mp h
theorem V5 {i:Int} {k:Nat} (hk:0<k) (h:(ts i).length<=k):i.natAbs<10 ^ k:=by
 cases i with
 | ofNat m =>
  have:=congrArg List.length (Zv m);rw[Yd] at this;exact FK (m:=m) hk (by rw[<- this];exact h)
 | negSucc m =>
  have:=congrArg List.length (XS m);rw[Yd,List.length_cons] at this;exact FK (m:=m+1) hk %[|5]
theorem Z5 {q:Rat} (h:(Y0 q).length<=70):Sz 240 q:=by
 have p1:(10:Nat) ^ 60<2 ^ 240:=by decide +kernel
 unfold Y0 at h;split at h
 ·rename_i hd
  have:=V5 %[|4] h;exact⟨by omega,by rw[hd];decide⟩
 ·simp only[strLen_append] at h
  have h1:=V5 (k:=70) %[|4] (show (ts q.num).length<=70 by omega);have h2:=V5 (k:=70) %[|4] (show (ts (q.den:Int)).length<=70 by omega);exact⟨by omega,by simp at h2;omega⟩
theorem VJ {q:Rat} {k:Nat} (hk:0<k) (h1:q.num.natAbs<10 ^ k) (h2:q.den<10 ^ k):(Y0 q).length<=2*k+3:=by
 have l1:=V6 hk h1;have l2:=V6 (i:=(q.den:Int)) hk (by simpa using h2);unfold Y0;split
 ·omega
 ·simp only[strLen_append];show (ts q.num).length+1+(ts (q.den:Int)).length<=_;omega
noncomputable def Inf2 (c d:Nat) (l:List Nat):Prop:=∃ a b,l=a++c::d::b
theorem Gy (x y:Str):∀ (cuts:List Nat) (a f:Nat),StrLaws.ChainG x y x.length a cuts f->(∀ k,f<=k->¬ StrLaws.At x y x.length k)->1<=y.length->∀ p∈StrLaws.partsFrom x y.length a cuts,∀ i,¬ StrLaws.At p y p.length i:=by
 have key:∀ (a b i:Nat),StrLaws.At (Builtin.Str.strSub x a b) y (Builtin.Str.strSub x a b).length i->1<=y.length->StrLaws.At x y x.length (a+i)/\a+i<b:=by
  intro a b i ⟨h1,h2⟩ hy;have e:=StrLaws.strSub_toList x a b;have l1:=congrArg List.length e;rw[Yd,List.length_take,List.length_drop,Yd] at l1;rw[StrLaws.subAt_eq,e] at h2;refine⟨⟨by omega,?_⟩,by omega⟩;rw[StrLaws.subAt_eq];rw[List.drop_take,List.drop_drop,List.take_take,Nat.min_eq_left %[|5]] at h2;exact h2
 intro cuts
 induction cuts with
 | nil =>
  intro a f hc hf hy p hp i hi;have hc':f=a:=hc;have hp':p=Builtin.Str.strSub x a x.length:=by
   have:p∈[Builtin.Str.strSub x a x.length]:=hp
   simpa using this
  subst hp';obtain⟨h1,h2⟩:=key a _ i hi hy;exact hf (a+i) %[|5] h1
 | cons c r ih =>
  intro a f hc hf hy p hp i hi;obtain⟨h1,h2,h3,h4⟩:=(show a<=c/\StrLaws.At x y x.length c/\(∀ k,a<=k->k<c->¬ StrLaws.At x y x.length k)/\StrLaws.ChainG x y x.length (c+y.length) r f from hc);have hp':p∈Builtin.Str.strSub x a c::StrLaws.partsFrom x y.length (c+y.length) r:=hp;rcases List.mem_cons.mp hp' with rfl|hp'
  ·obtain⟨g1,g2⟩:=key a c i hi hy
   exact h3 (a+i) %[|5] g2 g1
  ·exact ih _ f h4 hf hy p hp' i hi
section
variable {s:Str} {c d:Nat}
noncomputable def Fre2 (c d:Nat) (l:List Str):Prop:=∀ p∈l,¬ Inf2 c d p.cps.toList
theorem Aj (hs:s.cps.toList=[c,d]):s.length=2:=by rw[<- Yd,hs];rfl
theorem DH {p:Str} (hs:s.cps.toList=[c,d]) (h:∀ i,¬ StrLaws.At p s p.length i):¬ Inf2 c d p.cps.toList:=fun ⟨a,b,e⟩=>by
 refine h a.length ⟨?_,?_⟩
 ·have:=congrArg List.length e
  rw[Yd] at this;simp at this;rw[Aj hs];omega
 ·rw[StrLaws.subAt_eq,e,Aj hs,hs]
  simp
theorem Jz (x:Str) (hs:s.cps.toList=[c,d]) (hk:Builtin.Str.strKind s=1):Fre2 c d (Txt.split x s):=by
 intro p hp;have ls:=Aj hs;unfold Txt.split at hp;have none:(∀ i,¬ StrLaws.At x s x.length i)->p∈[x]->¬ Inf2 c d p.cps.toList:=fun h hp=>by
  obtain rfl:p=x:=by simpa using hp
  exact DH hs h
 obtain⟨f,t1,t2⟩:=StrLaws.occ_tight x s %[|5];split at hp
 ·rename_i hc
  refine none (fun i hi=>?_) hp;rw[Bool.or_eq_true] at hc;rcases hc with hc|hc
  ·have:=of_decide_eq_true hc
   have:=hi.1;omega
  ·have hk':=of_decide_eq_true hc
   rw[hk] at hk';unfold Builtin.Str.strKind at hk';split at hk'
   ·omega
   ·split at hk'<;>omega
 ·split at hp
  ·rename_i he
   have he':=List.isEmpty_iff.mp he;rw[he'] at t1;have t1':f=0:=t1;exact none (fun i hi=>t2 i %[|5] hi) hp
  ·rw[StrLaws.partsBetween_eq] at hp
   exact DH hs (Gy x s _ 0 f t1 t2 %[|5] p hp)
structure Sep (s:Str) (c d:Nat):Prop where
 is:s.cps.toList=[c,d]
 ne:c≠d
 kd:Builtin.Str.strKind s=1
theorem j_is (l:List Str):Txt.join s l=Str.join s l:=StrLaws.glued_eq_join _ _
theorem Am (x:Str):Txt.join s [x]=x:=by rw[j_is];rfl
theorem FF (S:Sep s c d) (x y:Str) (r:List Str):(Txt.join s (x::y::r)).cps.toList=x.cps.toList++c::d::(Txt.join s (y::r)).cps.toList:=by
 rw[j_is,j_is,show Str.join s (x::y::r)=x++s++Str.join s (y::r) from rfl,Yb,Yb,S.is];simp
theorem XI (x:Str):Txt.join s (Txt.split x s)=x:=by rw[j_is];exact StrLaws.join_split x s
theorem W3 (S:Sep s c d) (x:Str):Txt.split x s≠[]:=fun e=>by
 have h:=XI (s:=s) x;rw[e] at h;rw[<- h] at e;have l2:=Aj S.is;have:Txt.split (Txt.join s []) s=[Txt.join s []]:=by
  unfold Txt.split;rw[if_pos];rw[Bool.or_eq_true];exact .inl (decide_eq_true (by rw[l2];exact (by decide:0<2)))
 rw[this] at e;cases e
theorem CL (S:Sep s c d):∀ {l:List Str} {k:Nat},(∀ p∈l,p.length<=k)->(Txt.join s l).length<=l.length*(k+2)
 | [],k,_=>by rw[show (Txt.join s []).length=0 from rfl];omega
 | [x],k,h=>by rw[Am];have:=h x (by simp);simp;omega
 | x::y::r,k,h=>by
  have ih:=CL S (l:=y::r) (k:=k) fun p hp=>h p (List.mem_cons_of_mem _ hp);have e:=congrArg List.length (FF S x y r);rw[Yd,List.length_append,List.length_cons,List.length_cons,Yd,Yd] at e;have:=h x (by simp);rw[List.length_cons,Nat.succ_mul,e];omega
theorem CM (S:Sep s c d) (hc:c<128) (hd:d<128):∀ {L:List Str},(∀ p∈L,Asc p)->Asc (Txt.join s L)
 | [],_=>fun c hc=>by simp[show (Txt.join s []).cps.toList=[] from rfl] at hc
 | [x],h=>by rw[Am];exact h x (by simp)
 | x::y::L,h=>fun z hz=>by
  rw[FF S] at hz;rcases List.mem_append.mp hz with hz|hz
  ·exact h x (by simp) z hz
  rcases List.mem_cons.mp hz with rfl|hz
  ·exact hc
  rcases List.mem_cons.mp hz with rfl|hz
  ·exact hd
  ·exact CM S hc hd (fun p hp=>h p (List.mem_cons_of_mem _ hp)) z hz
end
theorem Hq {n d:Nat} (hn:0<n) (hd:d<10):dg (10*n+d)=dg n++dg d:=by
 unfold dg;rw[<- Nat.toDigits_append_toDigits %[|4] hn hd,List.map_append]
theorem Da {c:Nat} (h:48<=c/\c<=57):dg (c-48)=[c]:=by
 have:∀ d<10,dg d=[d+48]:=by decide +kernel
 rw[this _ %[|5],show c-48+48=c by omega]
theorem DP (l:List Nat) (c:Nat):NumText.digitsVal (l++[c])=10*NumText.digitsVal l+(c-48):=by
 unfold NumText.digitsVal;rw[List.foldl_append];simp only[List.foldl_cons,List.foldl_nil];omega
theorem A6:∀ {l:List Nat} {a:Nat},0<a->0<List.foldl (fun acc c=>acc*10+(c-48)) a l
 | [],_,h=>h
 | c::l,a,h=>A6 (l:=l) (a:=a*10+(c-48)) %[|5]
theorem Du:∀ (n:Nat) (l:List Nat),l.length=n->l≠[]->NumText.AllDigits l->lead l=true->dg (NumText.digitsVal l)=l
 | 0,l,e,h,_,_=>absurd (List.length_eq_zero_iff.mp e) h
 | n+1,l,e,h,ha,hl=>by
  obtain⟨k,c,rfl⟩:∃ k c,l=k++[c]:=⟨_,_,(List.dropLast_concat_getLast h).symm⟩;have hc:=ha c (by simp);have kl:k.length=n:=by simpa using e
  have hk:NumText.AllDigits k:=fun x hx=>ha x (by simp[hx]);rw[DP];cases k with
  | nil =>
   show dg (10*0+(c-48))=_;rw[show 10*0+(c-48)=c-48 by omega,Da hc];rfl
  | cons x k =>
   have hx:x≠48:=by
    cases k with
    | nil=>simpa[lead] using hl
    | cons y k=>simpa[lead] using hl
   have hx2:=hk x (by simp);have lk:lead (x::k)=true:=by
    cases k with
    | nil=>rfl
    | cons y k=>simpa[lead] using hx
   have vp:0<NumText.digitsVal (x::k):=by
    unfold NumText.digitsVal;rw[List.foldl_cons];exact A6 %[|5]
   rw[Hq vp %[|5],Da hc,Du n (x::k) kl (by simp) hk lk]
theorem Uu {x:Str} (h:figB x.cps.toList=true) (hl:lead x.cps.toList=true):x=ts ((NumText.digitsVal x.cps.toList:Nat):Int):=by
 obtain⟨hn,ha⟩:=figB_iff.mp h;exact Yt (by rw[Zv,Du _ _ rfl hn ha hl])
theorem GH {x:Str} {r:List Nat} (hx:x.cps.toList=45::r) (h:figB r=true) (hl:lead r=true) (h0:r≠[48]):x=ts (-((NumText.digitsVal r:Nat):Int)):=by
 obtain⟨hn,ha⟩:=figB_iff.mp h;have c:=Du _ _ rfl hn ha hl;cases hv:NumText.digitsVal r with
 | zero =>
  rw[hv,dg0] at c;exact absurd c.symm h0
 | succ m =>
  rw[hv] at c;refine Yt ?_;rw[show (-((m+1:Nat):Int))=Int.negSucc m by omega,XS,c,hx]
theorem Jv (i:Int) (h:0<=i):figB (ts i).cps.toList=true/\lead (ts i).cps.toList=true:=by
 obtain⟨n,rfl⟩:=Int.eq_ofNat_of_zero_le h;rw[Zv];exact⟨figB_iff.mpr ⟨Xt n,Zn n⟩,Uz n⟩
theorem Bg {x:Str} (h:∀ i,¬ StrLaws.At x ".." x.length i):Txt.partition x ".."=(x,Str.empty,Str.empty):=by
 have e:Builtin.Str.occurrences x ".." 0 x.length 1=[]:=by
  rw[List.eq_nil_iff_forall_not_mem];intro i hi;exact h i (StrLaws.occ_spec x ".." 0 x.length 1 i hi)
 unfold Txt.partition;rw[e]
theorem VU {a c:Str} (h:46 ∉ a.cps.toList):Txt.partition (a++".."++c) ".."=(a,("..":Str),c):=by
 have ex:(a++".."++c).cps.toList=a.cps.toList++46::46::c.cps.toList:=by
  rw[Yb,Yb,show ("..":Str).cps.toList=[46,46] from rfl];simp
 have al:a.cps.toList.length=a.length:=Array.length_toList;have xl:(a++".."++c).length=a.length+2+c.length:=by rw[strLen_append,strLen_append];rfl
 have at_:StrLaws.At (a++".."++c) ".." (a++".."++c).length a.length:=by
  refine⟨by rw[xl];show a.length+2<=_;omega,?_⟩;rw[StrLaws.subAt_eq,ex,show ("..":Str).length=2 from rfl,show ("..":Str).cps.toList=[46,46] from rfl,List.drop_append_of_le_length %[|5],<- al,List.drop_length];simp
 have hd:=PyProof.Rows.partition_head (a++".."++c) "..";have sm:=StrLaws.partition_sum (a++".."++c) "..";rcases hd with ⟨_,hn⟩|⟨i,e1,ha,hf⟩
 ·exact absurd at_ (hn _)
 ·have i1:i=a.length:=by
   rcases Nat.lt_trichotomy i a.length with hlt|heq|hgt
   ·exfalso
    have h2:=ha.2;rw[StrLaws.subAt_eq,ex,show ("..":Str).length=2 from rfl,show ("..":Str).cps.toList=[46,46] from rfl,List.drop_append_of_le_length %[|5]] at h2;have h3:=eq_of_beq h2;have hi:i<a.cps.toList.length:=by omega
    rw[List.drop_eq_getElem_cons hi] at h3;simp at h3;exact h (by rw[<- h3.1];simp)
   ·exact heq
   ·exact absurd at_ (hf _ hgt)
  subst i1;have e0:(Txt.partition (a++".."++c) "..").1=a:=by
   rw[e1];refine Yt ?_;rw[StrLaws.strSub_toList,ex];simp[al]
  have e2:(Txt.partition (a++".."++c) "..").2.1="..":=by
   unfold Txt.partition;cases ho:Builtin.Str.occurrences (a++".."++c) ".." 0 (a++".."++c).length 1 with
   | nil =>
    exfalso;have:(Txt.partition (a++".."++c) "..").1=a++".."++c:=by unfold Txt.partition;rw[ho]
    rw[e0] at this;have:=congrArg Str.length this;rw[xl] at this;omega
   | cons _ _=>rfl
  have e3:(Txt.partition (a++".."++c) "..").2.2=c:=by
   rw[e0,e2] at sm;refine Yt ?_;have:=congrArg (fun z=>z.cps.toList) sm;simp only[Yb] at this;exact List.append_cancel_left this
  generalize Txt.partition (a++".."++c) ".."=p at e0 e2 e3;obtain⟨p1,p2,p3⟩:=p;simp only at e0 e2 e3;rw[e0,e2,e3]
theorem W1 {x:Str} (h:x.cps.toList.all (fun c=>decide (c<128))=true):Asc x:=fun c hc=>by
 have:=List.all_eq_true.mp h c hc
 simpa using this
theorem YT {q q':Rat} (h:Y0 q=Y0 q') (hl:(Y0 q).length<=600):q=q':=by
 have two:Two (Y0 q') (ts q.num) (ts q.den):=by
  rw[<- h];unfold Y0;split
  ·rename_i hd
   exact⟨.inl ⟨VE,rfl,by rw[hd];rfl⟩⟩
  ·exact⟨.inr ⟨VE,rfl⟩⟩
 have l1:(ts q.num).length<=600/\(ts q.den).length<=600:=by
  unfold Y0 at hl;split at hl
  ·rename_i hd
   exact⟨hl,by rw[hd];decide⟩
  ·simp only[strLen_append] at hl;omega
 obtain⟨h1,h2⟩:=two.num;have e1:=X4 %[|5] (by rw[<- h1];omega) h1;have e2:=X4 %[|5] (by rw[<- h2];omega) h2;exact Rat.ext e1 %[|5]
theorem ZN {q q':Rat} (h:Y0 q=Y0 q') (hl:(Y0 q).length<=70):q=q':=YT h %[|5]
theorem jok {L:List Str} (hl:L.length<=1000) (h:∀ p∈L,p.length<=70):JoinOk " " L=true:=by
 refine PyProof.Rows.joinOk_of ?_;have:∀ l:List Str,(∀ q∈l,q.length<=70)->(l.map (·.length)).sum<=l.length*70:=by
  intro l
  induction l with
  | nil=>intro _;simp
  | cons a l ih =>
   intro h;have h1:=ih fun q hq=>h q (List.mem_cons_of_mem _ hq);have:=h a List.mem_cons_self;simp only[List.map_cons,List.sum_cons,List.length_cons,Nat.succ_mul];omega
 have h1:=this L h;have:(" ":Str).length=1:=rfl;rw[this];omega
noncomputable def Ye (p:Rat×Rat):Str:=if p.1=p.2 then Y0 p.1 else Y0 p.1++".."++Y0 p.2
theorem YC (q:Rat):46 ∉ (Y0 q).cps.toList:=fun h=>by
 unfold Y0 at h;split at h
 ·have:=YI h;omega
 ·rw[Zd] at h
  rcases List.mem_append.mp h with h|h
  ·have:=YI h;omega
  ·rcases List.mem_cons.mp h with h|h
   ·omega
   ·have:=YI h;omega
theorem HR {x:Str} {i:Nat} (h:StrLaws.At x ".." x.length i):46∈x.cps.toList:=by
 have h2:=h.2;rw[StrLaws.subAt_eq,show ("..":Str).cps.toList=[46,46] from rfl] at h2;exact List.mem_of_mem_drop (List.mem_of_mem_take (i:=("..":Str).length) (by rw[eq_of_beq h2];simp))
theorem YG {p:Rat×Rat} (h:p.1=p.2):Ye p=Y0 p.1:=if_pos h
theorem YM {p:Rat×Rat} (h:p.1≠p.2):Ye p=Y0 p.1++".."++Y0 p.2:=if_neg h
theorem Bh (x:Str):(Txt.partition x ".."=(x,Str.empty,Str.empty)/\∀ p:Rat×Rat,p.1≠p.2->x≠Ye p)\/∃ a c:Str,Txt.partition x ".."=(a,("..": Str),c)/\x=a++".."++c/\(∀ p:Rat×Rat,p.1=p.2->x≠Ye p)/\∀ p:Rat×Rat,p.1≠p.2->x=Ye p->a=Y0 p.1/\c=Y0 p.2:=by
 have sm:=StrLaws.partition_sum x "..";have two:∀ {p:Rat×Rat},p.1≠p.2->x=Ye p->Txt.partition x ".."=(Y0 p.1,("..":Str),Y0 p.2):=fun h e=>by
  rw[e,YM h];exact VU (YC _)
 rcases PyProof.Rows.partition_head x ".." with ⟨_,hn⟩|⟨i,e1,ha,hf⟩
 ·have e:=Bg hn
  refine .inl ⟨e,fun p hp hx=>?_⟩;have:=two hp hx;rw[e] at this;have h3:(0:Nat)=2:=congrArg (fun z=>z.2.1.length) this;omega
 ·have e2:(Txt.partition x "..").2.1="..":=by
   unfold Txt.partition;cases ho:Builtin.Str.occurrences x ".." 0 x.length 1 with
   | nil =>
    exfalso;rcases StrLaws.occ_head x ".." 1 %[|4] with ⟨_,h⟩|⟨_,_,h,_⟩
    ·exact h i ha
    ·rw[ho] at h;cases h
   | cons _ _=>rfl
  refine .inr ⟨(Txt.partition x "..").1,(Txt.partition x "..").2.2,Prod.ext rfl (Prod.ext e2 rfl),by rw[e2] at sm;exact sm.symm,fun p hp hx=>?_,fun p hp hx=>?_⟩
  ·rw[YG hp] at hx
   rw[hx] at ha;exact YC _ (HR ha)
  ·rw[two hp hx];exact⟨rfl,rfl⟩
theorem X1 (q:Rat):∀ c∈(Y0 q).cps.toList,c<128:=by
 intro c hc;unfold Y0 at hc;split at hc
 ·have:=YI hc;omega
 ·rw[Yb,Yb] at hc
  rcases List.mem_append.mp hc with hc|hc
  ·rcases List.mem_append.mp hc with hc|hc
   ·have:=YI hc;omega
   ·have:c∈[47]:=hc
    simp at this;omega
  ·have:=YI hc;omega
noncomputable def S_3:DSp:=fun ds M Q E=>∃ (q:Rat),ds=[nm q]/\Sz 240 q/\Q (.str (Y0 q)) M
noncomputable def C_3:CSs:=%[.set 1 (.bi .str %[.ix (.var 0) (.int 0)|0]),.ife (.cmp .NotEq (.ix (.var 0) (.int 1)) (.int 1)) %[.set 1 (.bin .Add (.bin .Add (.var 1) (.str "/")) (.bi .str %[.ix (.var 0) (.int 1)|0]))|0] .nil,.ret (.var 1)|0]
theorem vc_3:∀ ds M R E,S_3 ds M R E->rSs C_3 (ends R E) (Y1 2 ds) M:=by
 rintro ds M R E ⟨q,rfl,sq,h⟩;unfold C_3;obtain⟨l1,l2,g1,g2⟩:=X5 sq;sleep 7;refine⟨g1,?_⟩;rw[show Str.ofString q.num.repr=ts q.num from rfl];sleep 7;unfold Y0 at h;refine Yk true ?_;by_cases hd:q.den=1
 ·rw[if_pos hd] at h
  simp[hd];sleep 7;exact h
 ·rw[if_neg hd] at h
  have nd:¬ ((q.den:Int)=1):=by omega
  refine .inr ⟨by simp[nd],?_⟩;sleep 7;have sl:sizeLine=16777216:=sizeLine_eq;have e1:(ts q.num++("/":Str)).length<=120:=by rw[strLen_append];show (ts q.num).length+1<=120;omega
  have e2:(ts q.num++("/":Str)++ts (q.den:Int)).length<=250:=by rw[strLen_append];omega
  rw[strLen_append] at e2;have e0:(Str.ofString "/").length=1:=rfl;refine⟨by omega,g2,by show (ts q.num++("/":Str)).length+(ts (q.den:Int)).length<=sizeLine;omega,?_⟩;rw[show Str.ofString (Int.repr (q.den:Int))=ts q.den from rfl];sleep 7;exact h
noncomputable def S_35:DSp:=fun ds M Q E=>∃ p:Rat×Rat,ds=[pl p]/\Sz 240 p.1/\Sz 240 p.2/\Q (.str (Ye p)) M
noncomputable def C_35:CSs:=%[.asg (.tup %[.name 1,.name 2|0]) (.var 0),.ret (.ife (.cmp .Eq (.var 1) (.var 2)) (.call "show_number" S_19 %[.var 1|0]) (.fstrT ".." (.call "show_number" S_19 %[.var 1|0]) (.call "show_number" S_19 %[.var 2|0])))|0]
theorem vc_35:∀ ds M R E,S_35 ds M R E->rSs C_35 (ends R E) (Y1 3 ds) M:=by
 rintro ds M R E ⟨p,rfl,s1,s2,h⟩;unfold C_35;have lT:∀ q:Rat,Sz 240 q->(Y0 q).length<=250:=fun q sq=>by
  obtain⟨l1,l2,_⟩:=X5 sq;unfold Y0;split
  ·omega
  ·simp only[strLen_append];show (ts q.num).length+1+(ts (q.den:Int)).length<=_;omega
 have sl:sizeLine=16777216:=sizeLine_eq;have l1:=lT _ s1;have l2:=lT _ s2;have d2':("..":Str).length=2:=rfl;sleep 7
 (try dsimp only);rw[Y2];simp[0,vAt,vHd,Y4,and_assoc,sizeLine_eq,Y5,Yj,Ya,dFld,Ym,Yn,Yl,JZ]
 refine D2 false ?_;by_cases hd:p.1=p.2
 ·refine .inr ⟨by simp[hd],p.1,rfl,s1,?_⟩
  rw[YG hd] at h;exact h
 ·refine .inl ⟨by simp[hd],p.1,rfl,s1,_,rfl,by omega,by simp only[strLen_append];omega,p.2,rfl,s2,_,rfl,by omega,by simp only[strLen_append];omega,?_⟩
  rw[YM hd] at h;exact h
noncomputable def S_22:DSp:=fun ds M Q E=>∃ x:Str,ds=[.str x]/\Asc x/\x.length<=70/\(∀ p,x=Ye p->∀ M',MExt M M'->Q (pl p) M')/\((∀ p,x≠Ye p)->∀ M',MExt M M'->E (.exc "NoText" .non) M')
noncomputable def C_22:CSs:=%[.asg (.tup %[.name 1,.name 2,.name 3|0]) (.spart 0 (.str "..")),.ife (.not (.var 2)) %[.set 4 (.call "read_number" S_21 %[.var 1|0]),.ret (.tup %[.var 4,.var 4|0])|0] .nil,.set 5 (.tup %[.call "read_number" S_21 %[.var 1|0],.call "read_number" S_21 %[.var 3|0]|0]),.ife (.cmp .Eq (.ix (.var 5) (.int 0)) (.ix (.var 5) (.int 1))) %[.rsi "NoText" %[.non|0]|0] .nil,.ret (.var 5)|0]
theorem vc_22:∀ ds M R E,S_22 ds M R E->rSs C_22 (ends R E) (Y1 6 ds) M:=by
 rintro ds M R E ⟨x,rfl,asc,xl,yes,no⟩;unfold C_22;have sl:sizeLine=16777216:=sizeLine_eq
 (try dsimp only);rw[Y2];simp[0,vAt,vHd,Y4,and_assoc,sizeLine_eq,Y5,Yj,Ya,dFld,Ym,Yn,Yl,UA]
 refine⟨by decide,by omega,?_⟩;rcases Bh x with ⟨e,hne⟩|⟨a,c,e,ex,heq,hne⟩
 ·rw[e]
  dsimp only;sleep 7;have e0:Str.empty.length=0:=rfl;refine⟨by rw[e0];decide,?_⟩;rw[if_pos e0];sleep 7;refine⟨_,rfl,.inl ⟨x,rfl,asc,xl,⟨fun q hq M1 x1=>?_,fun nq=>?_⟩⟩⟩
  ·sleep 7
   exact yes (q,q) (by rw[YG rfl];exact hq) M1 x1
  ·exact no fun p hp=>by
    by_cases hd:p.1=p.2
    ·exact nq p.1 (by rw[hp,YG hd])
    ·exact hne p hd hp
 ·rw[e]
  dsimp only;have l2:("..":Str).length=2:=rfl;have xc:x.length=a.length+2+c.length:=by rw[ex,strLen_append,strLen_append];rfl
  have aa:Asc a:=fun z hz=>asc z (by rw[ex,Yb,Yb];simp[hz]);have ac:Asc c:=fun z hz=>asc z (by rw[ex,Yb,Yb];simp[hz]);sleep 7;refine⟨by rw[l2];decide,?_⟩;rw[if_neg (by rw[l2];decide)];sleep 7;refine⟨_,rfl,.inl ⟨a,rfl,aa,by omega,⟨fun q hq M1 x1=>?_,fun nq=>no fun p hp=>?_⟩⟩⟩
  ·refine⟨_,rfl,.inl ⟨c,rfl,ac,by omega,⟨fun q2 hq2 M2 x2=>?_,fun nq=>?_⟩⟩⟩
   ·sleep 7
    refine D2 false ?_;by_cases hd:q=q2
    ·refine .inr ⟨by simp[hd],?_⟩
     sleep 7
     (try simp only[YR])
     sleep 8;refine no (fun p hp=>?_) M2 (x1.trans x2);by_cases hp':p.1=p.2
     ·exact heq p hp' hp
     ·obtain⟨h1,h2⟩:=hne p hp' hp
      refine hp' (ZN (by rw[<- h1,hq,hd,<- hq2,h2]) (by rw[<- h1];omega))
    ·refine .inl ⟨by simp[hd],?_⟩
     sleep 7;exact yes (q,q2) (by rw[YM hd,ex,hq,hq2]) M2 (x1.trans x2)
   ·intro M2 x2
    refine no (fun p hp=>?_) M2 (x1.trans x2);by_cases hd:p.1=p.2
    ·exact heq p hd hp
    ·exact nq p.2 (hne p hd hp).2
  ·by_cases hd:p.1=p.2
   ·exact heq p hd hp
   ·exact nq p.1 (hne p hd hp).1
noncomputable def S_23:DSp:=fun ds M Q E=>∃ (t:List (Rat×Rat)),ds=[tb t]/\1<=t.length/\t.length<=100/\(∀ p∈t,Sz 240 p.1/\Sz 240 p.2)/\∀ M',MExt M M'->Q (.bl (decide (t.length<=25)&&t.all fun p=>decide (p.1<=p.2))) M'
theorem WK (p:Rat×Rat):Z6 (pl p)=decide (p.1<=p.2):=by
 unfold Z6 place? pl;simp only[Uj];by_cases z:p.1<=p.2
 ·rw[if_pos z,decide_eq_true z];rfl
 ·rw[if_neg z,decide_eq_false z];rfl
theorem XZ (t:List (Rat×Rat)):Xq (tb t)=(decide (2<=t.length)&&decide (t.length<=25)&&t.all fun p=>decide (p.1<=p.2)):=by
 unfold Xq tb;dsimp only;rw[List.length_map,List.all_map]
 congr 1
 congr 1
 funext p
 exact WK p
theorem JV {M:Mem} {t:List (Rat×Rat)} (h:∀ p∈t,Sz 240 p.1/\Sz 240 p.2):Gd M (tb t):=.mk fun d hd=>by
 obtain⟨p,hp,rfl⟩:=List.mem_map.mp hd;exact gtc (.nm (h p hp).1 %[|4]) (gtc (.nm (h p hp).2 %[|4]) gt0)
noncomputable def C_23:CSs:=%[.ret (.ife (.cmp .Gt (.bi .len %[.var 0|0]) (.int 1)) (.call "is_tube" S_18 %[.var 0|0]) (.call "is_place" S_17 %[.ix (.var 0) (.int 0)|0]))|0]
theorem vc_23:∀ ds M R E,S_23 ds M R E->rSs C_23 (ends R E) (Y1 1 ds) M:=by
 rintro ds M R E ⟨t,rfl,h1,h100,sz,q⟩;unfold C_23;sleep 7;by_cases hl:t.length=1
 ·obtain⟨p,rfl⟩:∃ p,t=[p]:=by
   match t,hl with
   | [p],_=>exact⟨p,rfl⟩
  rw[if_neg (by simp)];refine⟨_,rfl,?_⟩;refine⟨pl p,rfl,gtc (.nm (sz p (by simp)).1 %[|4]) (gtc (.nm (sz p (by simp)).2 %[|4]) gt0),fun M1 x1=>?_⟩;have:=q M1 x1;rw[WK]
  simpa using this
 ·rw[if_pos %[|5]]
  refine⟨_,rfl,JV sz,fun M1 x1=>?_⟩;have:=q M1 x1;rw[XZ,decide_eq_true (show 2<=t.length by omega)]
  simpa using this
theorem Vc {p p':Rat×Rat} (h:Ye p=Ye p') (hl:(Ye p).length<=70):p=p':=by
 by_cases h1:p.1=p.2<;>by_cases h2:p'.1=p'.2
 ·rw[YG h1] at h hl
  rw[YG h2] at h;have:=ZN h hl;exact Prod.ext this (by rw[<- h1,this,h2])
 ·rw[YG h1] at h
  rw[YM h2] at h;exact absurd (by rw[h,Yb,Yb];simp[show ("..":Str).cps.toList=[46,46] from rfl]) (YC p.1)
 ·rw[YM h1] at h
  rw[YG h2] at h;exact absurd (by rw[<- h,Yb,Yb];simp[show ("..":Str).cps.toList=[46,46] from rfl]) (YC p'.1)
 ·rw[YM h1] at h hl
  rw[YM h2] at h;simp only[strLen_append] at hl;have:=congrArg (fun x=>Txt.partition x "..") h;simp only[VU (YC _),Prod.mk.injEq] at this;exact Prod.ext (ZN this.1 %[|5]) (ZN this.2.2 %[|5])
theorem W6 {p:Rat×Rat} (h:(Ye p).length<=70):Sz 240 p.1/\Sz 240 p.2:=by
 by_cases hd:p.1=p.2
 ·rw[YG hd] at h
  have:=Z5 h;exact⟨this,hd ▸ this⟩
 ·rw[YM hd] at h
  simp only[strLen_append] at h;exact⟨Z5 %[|5],Z5 %[|5]⟩
abbrev Wj:DL.D:=.int 24
abbrev WO:DL.D:=.int 12
structure RJ where
 a:Int
 d:Int
 w:Rat
deriving DecidableEq
noncomputable def rj (j:RJ):DL.D:=.tup [.int j.a,.int j.d,nm j.w]
noncomputable def Yc (j:RJ):Str:=jn [ts j.a,ts j.d,Y0 j.w]
theorem VF (i:Int):32 ∉ (ts i).cps.toList:=fun h=>by have:=YI h;omega
theorem AZ (j:RJ):Fre [ts j.a,ts j.d,Y0 j.w]:=fun p hp=>by
 simp only[List.mem_cons,List.not_mem_nil,or_false] at hp;rcases hp with rfl|rfl|rfl
 ·exact VF _
 ·exact VF _
 ·exact JN _
theorem Zw (j:RJ):sp (Yc j)=[ts j.a,ts j.d,Y0 j.w]:=Ic (by simp) (AZ j)
theorem Vg (j:RJ):Yc j=ts j.a++" "++ts j.d++" "++Y0 j.w:=Yt (by
 unfold Yc;rw[Xh,Xh,Xp,Yb,Yb,Yb,Yb,show (" ":Str).cps.toList=[32] from rfl];simp)
theorem Wu (j:RJ):(Yc j).length=(ts j.a).length+1+(ts j.d).length+1+(Y0 j.w).length:=by
 rw[Vg];simp only[strLen_append,show (" ":Str).length=1 from rfl]
theorem Vf {j j':RJ} (h:Yc j=Yc j') (hl:(Yc j).length<=70):j=j':=by
 have e:=Zw j;rw[h,Zw j'] at e;simp only[List.cons.injEq,and_true] at e;rw[Wu] at hl;obtain⟨e1,e2,e3⟩:=e;have h1:=X4 (i:=j'.a) (j:=j.a) (by rw[e1];omega) %[|5] e1;have h2:=X4 (i:=j'.d) (j:=j.d) (by rw[e2];omega) %[|5] e2;have h3:=YT (q:=j'.w) (q':=j.w) e3 (by rw[e3];omega);cases j;cases j';simp_all
theorem JA:∀ l:List Str,l.length<=(jn l).length+1
 | []=>by simp
 | [x]=>by simp
 | x::y::r=>by
  have ih:=JA (y::r);have e:=congrArg List.length (Xh x y r);rw[Yd,List.length_append,List.length_cons,Yd,Yd] at e;simp only[List.length_cons] at ih ⊢;omega
theorem XG (i:Int):Y0 (i:Rat)=ts i:=by unfold Y0;rw[if_pos (by simp)];simp
theorem DR {x:Str} {q:Rat} (h:x=Y0 q) (hd:q.den=1):x=ts q.num:=by rw[h];unfold Y0;rw[if_pos hd]
noncomputable def S_24:DSp:=fun ds M Q E=>∃ x:Str,ds=[.str x]/\Asc x/\x.length<=70/\(∀ i:Int,x=ts i->∀ M',MExt M M'->Q (.int i) M')/\((∀ i:Int,x≠ts i)->∀ M',MExt M M'->E (.exc "NoText" .non) M')
noncomputable def C_24:CSs:=%[.asg (.tup %[.name 1,.name 2|0]) (.call "read_number" S_21 %[.var 0|0]),.ife (.cmp .NotEq (.var 2) (.int 1)) %[.rsi "NoText" %[.non|0]|0] .nil,.ret (.var 1)|0]
theorem vc_24:∀ ds M R E,S_24 ds M R E->rSs C_24 (ends R E) (Y1 3 ds) M:=by
 rintro ds M R E ⟨x,rfl,asc,xl,yes,no⟩;unfold C_24;sleep 7;refine⟨_,rfl,.inl ⟨x,rfl,asc,xl,⟨fun q hq M1 x1=>?_,fun nq=>no fun i e=>nq (i:Rat) (by rw[XG];exact e)⟩⟩⟩;rw[show nm q=.tup [.int q.num,.int q.den] from rfl];sleep 8;sleep 7;refine Yk true ?_;by_cases hd:q.den=1
 ·refine .inl ⟨by simp[hd],?_⟩
  sleep 7;exact yes _ (DR hq hd) M1 x1
 ·refine .inr ⟨by simp;omega,?_⟩
  sleep 7
  (try simp only[YR])
  sleep 8;refine no (fun i e=>hd ?_) M1 x1;rw[<- XG,hq] at e;have:q=(i:Rat):=YT e (by rw[<- hq];omega);rw[this];simp
noncomputable def S_25:DSp:=fun ds M Q E=>∃ x:Str,ds=[.str x]/\Asc x/\x.length<=70/\(∀ j:RJ,x=Yc j->∀ M',MExt M M'->Q (rj j) M')/\((∀ j:RJ,x≠Yc j)->∀ M',MExt M M'->E (.exc "NoText" .non) M')
noncomputable def C_25:CSs:=%[.set 1 (.split (.var 0) (.str " ")),.ife (.cmp .NotEq (.bi .len %[.var 1|0]) (.int 3)) %[.rsi "NoText" %[.non|0]|0] .nil,.ret (.tup %[.call "read_hour" S_24 %[.ix (.var 1) (.int 0)|0],.call "read_hour" S_24 %[.ix (.var 1) (.int 1)|0],.call "read_number" S_21 %[.ix (.var 1) (.int 2)|0]|0])|0]
theorem vc_25:∀ ds M R E,S_25 ds M R E->rSs C_25 (ends R E) (Y1 2 ds) M:=by
 rintro ds M R E ⟨x,rfl,asc,xl,yes,no⟩;unfold C_25;have few:=JA (sp x);rw[WJ] at few
 (try dsimp only);rw[Y2];simp[0,vAt,vHd,Y4,and_assoc,sizeLine_eq,Y5,Yj,Ya,dFld,Ym,Yn,Yl,Zo]
 refine⟨by decide,by omega,by show (sp x).length<=_;omega,fun p M1 e1 x1 l1=>?_⟩;sleep 7;refine⟨_,l1,?_⟩;refine Yk true ?_;have bad:(sp x).length≠3->∀ j:RJ,x≠Yc j:=fun h j e=>h (by rw[e,Zw];rfl);by_cases h3:(sp x).length=3
 ·refine .inl ⟨by rw[List.length_map,show (Txt.split x " ").length=3 from h3];rfl,?_⟩
  obtain⟨a,b,c,e⟩:=len3 h3;have ex:x=jn [a,b,c]:=by rw[<- e,WJ]
  have xc:=congrArg (fun s=>s.cps.toList) ex;simp only[Xh,Xp] at xc;have aa:Asc a:=fun z hz=>asc z (by rw[xc];simp[hz]);have ab:Asc b:=fun z hz=>asc z (by rw[xc];simp[hz]);have ac:Asc c:=fun z hz=>asc z (by rw[xc];simp[hz]);have xn:=congrArg List.length xc;simp only[List.length_append,List.length_cons,Yd] at xn;have l1':M1 p=some (.ls [.str a,.str b,.str c]):=by rw[l1,show Txt.split x " "=[a,b,c] from e];rfl
  have ne:∀ j:RJ,x=Yc j->a=ts j.a/\b=ts j.d/\c=Y0 j.w:=fun j ej=>by
   have:=Zw j;rw[<- ej,e] at this
   simpa using this
  sleep 7;refine⟨_,.str a,l1',rfl,a,rfl,aa,by omega,fun i hi M2 x2=>?_,fun na M2 x2=>no (fun j ej=>na _ (ne j ej).1) M2 (x1.trans x2)⟩;refine⟨_,.str b,x2 _ _ l1',rfl,b,rfl,ab,by omega,fun i2 hi2 M3 x3=>?_,fun nb M3 x3=>no (fun j ej=>nb _ (ne j ej).2.1) M3 (x1.trans (x2.trans x3))⟩;refine⟨_,.str c,x3 _ _ (x2 _ _ l1'),rfl,_,rfl,.inl ⟨c,rfl,ac,by omega,⟨fun q hq M4 x4=>?_,fun nq M4 x4=>no (fun j ej=>nq _ (ne j ej).2.2) M4 (x1.trans (x2.trans (x3.trans x4)))⟩⟩⟩;exact yes ⟨i,i2,q⟩ (by rw[ex,hi,hi2,hq];rfl) M4 (x1.trans (x2.trans (x3.trans x4)))
 ·refine .inr ⟨by rw[List.length_map];simp;show ¬ (((sp x).length:Int)=3);omega,?_⟩
  sleep 7
  (try simp only[YR])
  sleep 8;exact no (bad h3) M1 x1
structure SzJ (j:RJ):Prop where
 a:j.a.natAbs<2 ^ 250
 d:j.d.natAbs<2 ^ 250
 w:Sz 240 j.w
theorem BJ {j:RJ} (h:(Yc j).length<=70):SzJ j:=by
 rw[Wu] at h;have p1:(10:Nat) ^ 60<2 ^ 250:=by decide +kernel
 have h1:=V5 (i:=j.a) (k:=70) %[|4] %[|5];have h2:=V5 (i:=j.d) (k:=70) %[|4] %[|5];exact⟨by omega,by omega,Z5 %[|5]⟩
noncomputable def okJ (j:RJ):Bool:=decide (0<=j.a)&&decide (j.a<j.d)&&decide (j.d<=24)&&decide (0<j.w)
noncomputable def S_27:DSp:=fun ds M Q E=>∃ j,ds=[rj j]/\SzJ j/\Q (.bl (okJ j)) M
noncomputable def C_27:CSs:=%[.ife (.or (.not (.bi .isinstance %[.var 0,.ty .tuple|0])) (.one (.cmp .NotEq (.bi .len %[.var 0|0]) (.int 3)))) %[.ret (.bl false)|0] .nil,.asg (.tup %[.name 1,.name 2,.name 3|0]) (.var 0),.ife (.or (.not (.call "is_whole" S_14 %[.var 1|0])) (.or (.not (.call "is_whole" S_14 %[.var 2|0])) (.one (.not (.chain3 .LtE .Lt .LtE (.int 0) (.var 1) (.var 2) (.glo "MOST_HOURS" Wj)))))) %[.ret (.bl false)|0] .nil,.ret (.and (.call "is_number" S_15 %[.var 3|0]) (.one (.call "is_less" S_12 %[.glo "NOUGHT" Jn,.var 3|0])))|0]
theorem vc_27:∀ ds M R E,S_27 ds M R E->rSs C_27 (ends R E) (Y1 4 ds) M:=by
 rintro ds M R E ⟨j,rfl,sj,q⟩;rw[show rj j=.tup [.int j.a,.int j.d,nm j.w] from rfl];unfold C_27;unfold okJ at q;have sa:=sj.a;have sd:=sj.d;sleep 7;refine Yk true ?_;simp;sleep 7;sleep 7;refine⟨_,"int",rfl,rfl,?_⟩;simp;refine⟨_,"int",rfl,rfl,?_⟩;simp[XN];sleep 8;by_cases c1:0<=j.a
 ·refine .inr ⟨c1,?_⟩
  by_cases c2:j.a<j.d
  ·refine .inr ⟨c2,?_⟩
   by_cases c3:j.d<=24
   ·refine .inr ⟨c3,?_⟩
    rw[decide_eq_true c1,decide_eq_true c2,decide_eq_true c3] at q;sleep 7;refine⟨nm j.w,rfl,gnm sj.w %[|4],?_⟩;rw[Wc];simp;refine⟨0,j.w,rfl,.mk (m:=1) (n:=240) ⟨by decide,by decide⟩ sj.w %[|4],?_⟩
    simpa using q
   ·refine .inl ⟨by omega,?_⟩
    rw[decide_eq_false c3] at q;sleep 7
    simpa using q
  ·refine .inl ⟨by omega,?_⟩
   rw[decide_eq_false c2] at q;sleep 7
   simpa using q
 ·refine .inl ⟨by omega,?_⟩
  rw[decide_eq_false c1] at q;sleep 7
  simpa using q
noncomputable def Le2 (x y:RJ):Prop:=x.a<=y.a/\x.d<=y.d
structure GoodJ (r:List RJ):Prop where
 one:1<=r.length
 most:r.length<=12
 ok:∀ j∈r,okJ j=true
 mon:r.Pairwise Le2
theorem Gb {r:List RJ}:zipD (r.map rj) (cutG (r.map rj) (some 1) none)=(List.range (r.length-1)).map fun i=>.tup [rj (r.getD i ⟨0,0,0⟩),rj (r.getD (i+1) ⟨0,0,0⟩)]:=by
 by_cases h1:1<=r.length
 ·rw[show (some (1:Int))=some ((1:Nat):Int) from rfl,HF _ _ (by simpa using h1)]
  apply List.ext_getElem
  ·simp[zipD]
  ·intro i a b
   simp at b;have h2:i<r.length:=by omega
   have h3:i+1<r.length:=by omega
   simp[zipD,List.getD,h2,h3,Nat.add_comm 1 i]
 ·have:r=[]:=List.length_eq_zero_iff.mp %[|5]
  subst this
  rfl
noncomputable def monJ (r:List RJ) (i:Nat):Bool:=decide ((r.getD i ⟨0,0,0⟩).a<=(r.getD (i+1) ⟨0,0,0⟩).a)&&decide ((r.getD i ⟨0,0,0⟩).d<=(r.getD (i+1) ⟨0,0,0⟩).d)
theorem Ai {r:List RJ} (h:∀ i,i+1<r.length->Le2 (r.getD i ⟨0,0,0⟩) (r.getD (i+1) ⟨0,0,0⟩)):∀ k i,i+k+1<r.length->Le2 (r.getD i ⟨0,0,0⟩) (r.getD (i+k+1) ⟨0,0,0⟩)
 | 0,i,hi=>h i hi
 | k+1,i,hi=>by
  have h1:=Ai h k i %[|5];have h2:=h (i+k+1) %[|5];exact⟨Int.le_trans h1.1 h2.1,Int.le_trans h1.2 h2.2⟩
theorem monJ_iff {r:List RJ}:(List.range (r.length-1)).all (monJ r)=true ↔ r.Pairwise Le2:=by
 rw[List.all_eq_true];constructor
 ·intro h
  rw[List.pairwise_iff_getElem];intro i j hi hj hij;have:=Ai (r:=r) (fun i hi=>by
   have:=h i (List.mem_range.mpr %[|5]);unfold monJ at this;rw[Bool.and_eq_true] at this;exact⟨of_decide_eq_true this.1,of_decide_eq_true this.2⟩) (j-i-1) i %[|5]
  rw[show i+(j-i-1)+1=j by omega] at this
  simpa[List.getD,hi,hj] using this
 ·intro h i hi
  have hi:=List.mem_range.mp hi;have h2:i<r.length:=by omega
  have h3:i+1<r.length:=by omega
  have:=List.pairwise_iff_getElem.mp h i (i+1) h2 h3 %[|5];unfold monJ;simp only[List.getD,List.getElem?_eq_getElem,h2,h3,Option.getD_some];rw[decide_eq_true this.1,decide_eq_true this.2];rfl
noncomputable def S_28:DSp:=fun ds M Q E=>∃ r:List RJ,ds=[.tup (r.map rj)]/\r.length<=100/\(∀ j∈r,SzJ j)/\(GoodJ r->∀ M',MExt M M'->Q (.bl true) M')/\(¬ GoodJ r->∀ M',MExt M M'->Q (.bl false) M')
noncomputable def C_28:CSs:=%[.ife (.or (.not (.bi .isinstance %[.var 0,.ty .tuple|0])) (.one (.not (.chain .LtE .LtE (.int 1) (.bi .len %[.var 0|0]) (.glo "MOST_JOBS" WO))))) %[.ret (.bl false)|0] .nil,.ife (.not (.bi .all %[.comp ["thing","part"] 1 (.name 1) (.seq (.var 0)) (.call "is_job" S_27 %[.var 1|0])|0])) %[.ret (.bl false)|0] .nil,.ret (.bi .all %[.comp ["thing","one","other"] 2 (.tup %[.name 1,.name 2|0]) (.zip %[.var 0,.sl (.var 0) (.some (.int 1)) .none|0]) (.and (.cmp .LtE (.ix (.var 1) (.int 0)) (.ix (.var 2) (.int 0))) (.one (.cmp .LtE (.ix (.var 1) (.int 1)) (.ix (.var 2) (.int 1)))))|0])|0]
theorem vc_28:∀ ds M R E,S_28 ds M R E->rSs C_28 (ends R E) (Y1 1 ds) M:=by
 rintro ds M R E ⟨r,rfl,hl,sz,yes,no⟩;unfold C_28;sleep 7;by_cases h1:1<=r.length
 ·have h1':(1:Int)<=(r.length:Int):=by omega
  by_cases h2:r.length<=12
  ·have h2':(r.length:Int)<=12:=by omega
   simp only[h1',h2',if_true];sleep 7;refine Zg r rj (fun j=>.bl (okJ j)) (fun R' r'=>r' _ fun _ _=>trivial) %[|5] ?_ ?_
   ·intro x hx l M' R' hl ee rr
    obtain⟨u,rfl⟩:=len1 hl;sleep 8;exact⟨x,rfl,sz x hx,rr [_] M' rfl (.refl M')⟩
   intro p2 M2 e2 x2 l2;refine WC l2 ?_;cases ha:r.all okJ with
   | false =>
    simp;sleep 7;refine no (fun g=>?_) M2 x2;rw[List.all_eq_true.mpr g.ok] at ha;cases ha
   | true =>
    simp;sleep 7;refine Zg (List.range (r.length-1)) (fun i=>.tup [rj (r.getD i ⟨0,0,0⟩),rj (r.getD (i+1) ⟨0,0,0⟩)]) (fun i=>.bl (monJ r i)) ?_ (by simp;omega) ?_ ?_
    ·intro R' r'
     simp[0,vAt,vHd,Y4,and_assoc,sizeLine_eq,Y5,Yj,Ya,dFld,Ym,Yn,Yl,Yj,VM];rw[Gb];exact r' _ fun _ _=>trivial
    ·intro i hi l M' R' hl' e r'
     obtain⟨u1,u2,rfl⟩:=len2 hl';have e2:monJ r i=(decide ((r.getD i ⟨0,0,0⟩).a<=(r.getD (i+1) ⟨0,0,0⟩).a)&&decide ((r.getD i ⟨0,0,0⟩).d<=(r.getD (i+1) ⟨0,0,0⟩).d)):=rfl;generalize r.getD i ⟨0,0,0⟩=x at e2;generalize r.getD (i+1) ⟨0,0,0⟩=y at e2;have fin:=r' [some (rj x),some (rj y)] M' rfl (.refl _);rw[e2] at fin;rw[show rj x=.tup [.int x.a,.int x.d,nm x.w] from rfl,show rj y=.tup [.int y.a,.int y.d,nm y.w] from rfl] at fin ⊢;sleep 8;refine tix (v:=.int x.a) (Yg _ _) ?_;refine tix (v:=.int y.a) (Yg _ _) ?_;by_cases c:x.a<=y.a
     ·simp[c] at fin ⊢
      refine tix (v:=.int x.d) (Yv _ _ _) ?_;refine tix (v:=.int y.d) (Yv _ _ _) ?_
      simpa using fin
     ·simp[c] at fin ⊢
      exact fin
    intro p3 M3 e3 x3 l3;refine WC l3 ?_;by_cases g:r.Pairwise Le2
    ·rw[monJ_iff.mpr g]
     exact yes ⟨h1,h2,fun j hj=>List.all_eq_true.mp ha j hj,g⟩ M3 (x2.trans x3)
    ·have:(List.range (r.length-1)).all (monJ r)=false:=by
      cases z:(List.range (r.length-1)).all (monJ r) with
      | false=>rfl
      | true=>exact absurd (monJ_iff.mp z) g
     rw[this];exact no (fun G=>g G.mon) M3 (x2.trans x3)
  ·have h2':¬ (r.length:Int)<=12:=by omega
   simp only[h1',h2',if_true,if_false];sleep 7;exact no (fun g=>h2 g.most) M (.refl M)
 ·have h1':¬ (1:Int)<=(r.length:Int):=by omega
  simp only[h1',if_false];sleep 7;exact no (fun g=>h1 g.one) M (.refl M)
noncomputable def fgB (l:List Nat):Bool:=figB l&&lead l
noncomputable def S_37:DSp:=fun ds M Q E=>∃ x:Str,ds=[.str x]/\Asc x/\x.length<=1000/\∀ M',MExt M M'->Q (.bl (fgB x.cps.toList)) M'
noncomputable def C_37:CSs:=%[.ife (.or (.cmp .Eq (.var 0) (.str "")) (.one (.not (.bi .all %[.comp ["_law_text","_law_sign"] 1 (.name 1) (.sgn (.var 0)) (.cmp .In (.var 1) (.str "0123456789"))|0])))) %[.ret (.bl false)|0] .nil,.ret (.or (.cmp .Eq (.var 0) (.str "0")) (.one (.cmp .NotEq (.ix (.var 0) (.int 0)) (.str "0"))))|0]
theorem vc_37:∀ ds M R E,S_37 ds M R E->rSs C_37 (ends R E) (Y1 1 ds) M:=by
 rintro ds M R E ⟨x,rfl,sm,hl,q⟩;unfold C_37;have lay0:∀ {y:Str},y.cps.toList.all (fun c=>decide (c<128))=true->(PyData.str y).canLay0=true:=fun h=>YB fun c hc=>by simpa using List.all_eq_true.mp h c hc
 refine YY fun J hJ=>?_;have tail:figB x.cps.toList=true->∀ M1,MExt M M1->J [some (.str x)] M1:=by
  intro hf M1 x1;refine hJ _ _ ?_;sleep 7;refine YZ false (YB sm) (lay0 %[|4]) ?_;have:=q M1 x1;unfold fgB at this;rw[hf,Bool.true_and] at this;by_cases h0:x=("0":Str)
  ·refine .inr ⟨by simp[h0],?_⟩
   rw[h0] at this;exact this
  ·refine .inl ⟨by simp[h0],?_⟩
   cases hx:x.cps.toList with
   | nil=>rw [hx] at hf;cases hf
   | cons c r =>
    have c1:=sm c (by rw[hx];simp);refine⟨by rw[sizeLine_eq];omega,c,by rw[hx];exact Yg _ _,?_⟩;refine YZ true (YB fun d hd=>by simp at hd;omega) (lay0 %[|4]) ?_;have e:((⟨#[c]⟩:Str)="0") ↔ c=48:=⟨fun z=>by
     have:=congrArg (fun s=>s.cps.toList) z;rw[show ("0":Str).cps.toList=[48] from rfl] at this
     simpa using this,fun z=>by rw[z];rfl⟩
    rw[hx] at this;have e2:lead (c::r)=(if true=true then !decide ((⟨#[c]⟩:Str)="0") else decide ((⟨#[c]⟩:Str)="0")):=by
     rw[if_pos rfl];cases r with
     | nil =>
      have:c≠48:=fun z=>h0 (Yt (by rw[hx,z];rfl));simp[lead,e,this]
     | cons y r =>
      show (c != 48)=_;by_cases hc:c=48
      ·rw[decide_eq_true (e.mpr hc),hc];rfl
      ·rw[decide_eq_false (fun z=>hc (e.mp z))];simpa using hc
    rw[e2] at this;exact this
 sleep 8;refine YZ false (YB sm) (lay0 %[|4]) ?_;by_cases ne:x=("":Str)
 ·have:=q M (.refl M)
  rw[show fgB x.cps.toList=false by rw[ne];rfl] at this;refine .inr ⟨by simp[ne],?_⟩;sleep 7;exact this
 refine .inl ⟨by simp[ne],?_⟩;refine Zg x.cps.toList (fun c=>.str ⟨#[c]⟩) (fun c=>.bl (decide (48<=c/\c<=57))) (fun R' r'=>⟨x,rfl,Ab sm,r' _ fun _ _=>trivial⟩) (by rw[Array.length_toList];exact hl) ?_ ?_
 ·intro c hc l M' R' hl' ee r'
  obtain⟨z,rfl⟩:=len1 hl';have fig:∀ n,n<128->(!(Builtin.Str.occurrences ("0123456789":Str) ⟨#[n]⟩ 0 ("0123456789":Str).length 1).isEmpty)=decide (48<=n/\n<=57):=by decide +kernel
  have:=fig c (sm c hc);sleep 8;refine⟨_,rfl,?_⟩;rw[if_neg %[|4],this];exact r' [_] M' rfl (.refl _)
 intro p M1 e1 x1 l1;refine WC (f:=fun c=>decide (48<=c/\c<=57)) l1 ?_;have ef:figB x.cps.toList=x.cps.toList.all (fun c=>decide (48<=c/\c<=57)):=by
  unfold figB;have:x.cps.toList.isEmpty=false:=by
   cases h:x.cps.toList with
   | nil=>exact absurd (Yt (by rw[h];rfl)) ne
   | cons _ _=>rfl
  rw[this];rfl
 rw[<- ef];cases hf:figB x.cps.toList with
 | true =>
  dsimp only;rw[if_pos rfl];exact tail hf M1 x1
 | false =>
  dsimp only;rw[if_neg %[|4]];sleep 7;have:=q M1 x1;unfold fgB at this;rw[hf,Bool.false_and] at this;exact this
theorem UC {x:Str} {l u:Option Int} {a b:Nat} (hab:a<=b) (hb:b<=x.length) (e:Builtin.Str.strSliceIndices l u 1 x.length=Builtin.Str.strSliceIndices (some (a:Int)) (some (b:Int)) 1 x.length):(Txt.slice x l u).cps.toList=(x.cps.toList.drop a).take (b-a):=by
 unfold Txt.slice;rw[e];split
 ·rename_i h
  have h2:(Builtin.Str.strSliceIndices (some (a:Int)) (some (b:Int)) 1 x.length).length=x.length:=by simpa using h
  rw[StrLaws.strSliceIndices_plain hab hb,List.length_map,List.length_range] at h2;have h3:=Yd x;rw[show a=0 by omega,List.drop_zero,List.take_of_length_le %[|5]]
 ·rw[StrLaws.sliced_plain x hab hb]
theorem Vv {x:Str} {a:Nat} (h:a<=x.length):(Txt.slice x (some (a:Int)) none).cps.toList=x.cps.toList.drop a:=by
 have h3:=Yd x;rw[UC h %[|3] (by simp[Builtin.Str.strSliceIndices];rw[if_neg (show ¬ ((x.length:Int)<0) by omega),show max 0 (min (x.length:Int) x.length)=x.length by omega]),List.take_of_length_le (by rw[List.length_drop];omega)]
theorem Jj {x:Str} {b:Nat} (h:b<=x.length):(Txt.slice x none (some (b:Int))).cps.toList=x.cps.toList.take b:=by
 have e0:max (0:Int) (min 0 (x.length:Int))=0:=by omega
 have e1:Builtin.Str.strSliceIndices none (some (b:Int)) 1 x.length=Builtin.Str.strSliceIndices (some ((0:Nat):Int)) (some (b:Int)) 1 x.length:=by
  simp[Builtin.Str.strSliceIndices,e0]
 rw[UC (Nat.zero_le _) h e1,List.drop_zero,Nat.sub_zero]
theorem BY (x:Str):(Txt.slice x (some (if decide (Txt.slice x none (some 1)=("-":Str)) then 1 else 0)) none).cps.toList=unM x.cps.toList:=by
 have tl:=Yd x;cases hx:x.cps.toList with
 | nil =>
  rw[hx] at tl;have e0:x="":=Yt (by rw[hx];rfl);rw[e0]
  decide +kernel
 | cons c r =>
  rw[hx] at tl;simp at tl;have h1:(Txt.slice x none (some 1)).cps.toList=[c]:=by
   rw[show (1:Int)=((1:Nat):Int) from rfl,Jj %[|5],hx];rfl
  by_cases hc:c=45
  ·have:Txt.slice x none (some 1)=("-":Str):=Yt (by rw[h1,hc];rfl)
   rw[decide_eq_true this,if_pos rfl,show (1:Int)=((1:Nat):Int) from rfl,Vv %[|5],hx,hc]
   rfl
  ·have:Txt.slice x none (some 1)≠("-":Str):=fun z=>hc (by
    rw[z] at h1;have:[45]=[c]:=h1
    simpa using this.symm)
   rw[decide_eq_false this,if_neg %[|4],show (0:Int)=((0:Nat):Int) from rfl,Vv %[|5],hx];unfold unM;split
   ·rename_i e;cases e;exact absurd rfl hc
   ·rfl
theorem GV (i:Int):fgB (unM (ts i).cps.toList)=true:=by
 cases i with
 | ofNat m =>
  rw[show (ts (Int.ofNat m)).cps.toList=dg m from Zv m];have h:figB (dg m)=true:=figB_iff.mpr ⟨Xt m,Zn m⟩;rw[A7 h];unfold fgB;rw[h,Uz];rfl
 | negSucc m =>
  rw[XS];show fgB (dg (m+1))=true;unfold fgB;rw[figB_iff.mpr ⟨Xt _,Zn _⟩,Uz];rfl
theorem AX (i:Int):Y0 (i:Rat)=ts i:=by unfold Y0;rw[if_pos (by simp)];simp
theorem FS (i:Int):ts i≠("-0":Str):=fun e=>by
 have e:=congrArg (fun s=>s.cps.toList) e;simp only[show ("-0":Str).cps.toList=[45,48] from rfl] at e;cases i with
 | ofNat m =>
  rw[show (ts (Int.ofNat m)).cps.toList=dg m from Zv m] at e;have:=Zn m 45 (by rw[e];simp);omega
 | negSucc m =>
  rw[XS] at e;have:dg (m+1)=[48]:=by simpa using e
  have:=Hm (this.trans dg0.symm);omega
theorem GQ {x:Str} (h:fgB (unM x.cps.toList)=true) (h0:x≠("-0":Str)):∃ i:Int,x=ts i:=by
 unfold fgB at h;rw[Bool.and_eq_true] at h;cases hx:x.cps.toList with
 | nil=>rw [hx] at h;exact absurd h.1 %[|4]
 | cons c r =>
  by_cases hc:c=45
  ·subst hc
   rw[hx] at h;refine⟨_,GH hx h.1 h.2 fun z=>h0 (Yt (by rw[hx,z];rfl))⟩
  ·have e:unM x.cps.toList=x.cps.toList:=by
    rw[hx];unfold unM;split
    ·rename_i e;cases e;exact absurd rfl hc
    ·rfl
   rw[e] at h;exact⟨_,Uu h.1 h.2⟩
theorem Wb {s:Str} (hs:1<=s.length):∀ l:List Str,l.length<=(Txt.join s l).length+1
 | []=>by simp
 | [x]=>by simp
 | x::y::r=>by
  have ih:=Wb hs (y::r);rw[show Txt.join s (y::r)=Str.join s (y::r) from StrLaws.glued_eq_join _ _] at ih;rw[show Txt.join s (x::y::r)=Str.join s (x::y::r) from StrLaws.glued_eq_join _ _,show Str.join s (x::y::r)=x++s++Str.join s (y::r) from rfl,strLen_append,strLen_append];simp only[List.length_cons] at ih ⊢;omega
theorem Wm {x:Str} {l u:Option Int} (h:Asc x):Asc (Txt.slice x l u):=fun c hc=>by
 refine h c ?_;unfold Txt.slice at hc;split at hc
 ·exact hc
 ·simp at hc
  obtain⟨i,_,h⟩:=hc;exact Array.mem_toList_iff.mpr (Array.mem_of_getElem? h)
theorem Gn {x:Str}:(∃ a,Txt.split x "/"=[a]/\x=a/\47 ∉ a.cps.toList)\/∃ a c r,Txt.split x "/"=a::c::r/\47 ∉ a.cps.toList/\47 ∉ c.cps.toList/\x=a++"/"++Txt.join "/" (c::r):=by
 have f:=StrLaws.split_free x 47;have j:Txt.join "/" (Txt.split x "/")=x:=by rw[show Txt.join "/" (Txt.split x "/")=Str.join "/" (Txt.split x "/") from StrLaws.glued_eq_join _ _];exact StrLaws.join_split x "/"
 cases h:Txt.split x "/" with
 | nil =>
  exfalso;rw[h] at j;rw[<- j] at h
  revert h
  decide +kernel
 | cons a r =>
  cases r with
  | nil =>
   rw[h] at j;exact .inl ⟨a,rfl,by rw[<- j];rfl,f a (by rw[show (⟨#[47]⟩:Str)="/" from rfl,h];simp)⟩
  | cons c r =>
   rw[h] at j;refine .inr ⟨a,c,r,rfl,f a (by rw[show (⟨#[47]⟩:Str)="/" from rfl,h];simp),f c (by rw[show (⟨#[47]⟩:Str)="/" from rfl,h];simp),?_⟩;rw[<- j,show Txt.join "/" (a::c::r)=Str.join "/" (a::c::r) from StrLaws.glued_eq_join _ _,show Txt.join "/" (c::r)=Str.join "/" (c::r) from StrLaws.glued_eq_join _ _]
   rfl
noncomputable def S_38:DSp:=fun ds M Q E=>∃ x:Str,ds=[.str x]/\Asc x/\x.length<=70/\(∀ q,x=Y0 q->∀ M',MExt M M'->Q (nm q) M')/\((∀ q,x≠Y0 q)->∀ M',MExt M M'->Q .non M')
noncomputable def C_38:CSs:=%[.set 1 (.split (.var 0) (.str "/")),.set 2 (.ix (.var 1) (.int 0)),.set 3 (.ssl (.var 2) (.some (.bi .int %[.cmp .Eq (.ssl (.var 2) .none (.some (.int 1))) (.str "-")|0])) .none),.ife (.or (.cmp .Gt (.bi .len %[.var 1|0]) (.int 2)) (.or (.not (.call "_law_figures" S_37 %[.var 3|0])) (.one (.cmp .Eq (.var 2) (.str "-0"))))) %[.ret .non|0] .nil,.ife (.cmp .Eq (.bi .len %[.var 1|0]) (.int 1)) %[.ret (.tup %[.bi .intS %[.var 2|0],.int 1|0])|0] .nil,.ife (.or (.not (.call "_law_figures" S_37 %[.ix (.var 1) (.int 1)|0])) (.one (.cmp .Lt (.bi .intS %[.ix (.var 1) (.int 1)|0]) (.int 2)))) %[.ret .non|0] .nil,.set 4 (.tup %[.bi .intS %[.var 2|0],.bi .intS %[.ix (.var 1) (.int 1)|0]|0]),.ife (.cmp .NotEq (.call "_law_low" S_5 %[.ix (.var 4) (.int 0),.ix (.var 4) (.int 1)|0]) (.var 4)) %[.ret .non|0] .nil,.ret (.var 4)|0]
theorem vc_38:∀ ds M R E,S_38 ds M R E->rSs C_38 (ends R E) (Y1 5 ds) M:=by
 rintro ds M R E ⟨x,rfl,asc,xl,yes,no⟩;unfold C_38;have two:∀ a b,Two x a b->∀ q,x=Y0 q->a=ts q.num/\b=ts q.den:=fun a b t q e=>by rw[e] at t;exact t.num
 have hp:∃ a ps,Txt.split x "/"=a::ps/\47 ∉ a.cps.toList/\((ps=[]/\x=a)\/∃ c r,ps=c::r/\47 ∉ c.cps.toList/\x=a++"/"++Txt.join "/" (c::r)):=by
  rcases Gn (x:=x) with ⟨a,h,e,f⟩|⟨a,c,r,h,f,f2,e⟩
  ·exact⟨_,_,h,f,.inl ⟨rfl,e⟩⟩
  ·exact⟨_,_,h,f,.inr ⟨_,_,rfl,f2,e⟩⟩
 obtain⟨a,ps,hps,fa,hx⟩:=hp;have few:(a::ps).length<=100:=by
  have:=Wb (s:="/") %[|4] (Txt.split x "/");rw[show Txt.join "/" (Txt.split x "/")=Str.join "/" (Txt.split x "/") from StrLaws.glued_eq_join _ _,StrLaws.join_split x "/",hps] at this;omega
 have la:a.length<=x.length/\Asc a:=by
  rcases hx with ⟨_,rfl⟩|⟨c,r,_,_,e⟩
  ·exact⟨Nat.le_refl _,asc⟩
  ·exact⟨by rw[e,strLen_append,strLen_append];omega,fun z hz=>asc z (by rw[e,Zd];simp[hz])⟩
 obtain⟨la,aa⟩:=la
 (try dsimp only);rw[Y2];simp[0,vAt,vHd,Y4,and_assoc,sizeLine_eq,Y5,Yj,Ya,dFld,Ym,Yn,Yl,Zo]
 refine⟨by decide,by omega,by rw[show Txt.split x (Str.ofString "/")=a::ps from hps];omega,fun p M1 e1 x1 l1=>?_⟩;rw[show Txt.split x (Str.ofString "/")=a::ps from hps] at l1;sleep 7;refine⟨_,.str a,l1,Yg _ _,?_⟩
 (try dsimp only);rw[Y2];simp[0,vAt,vHd,Y4,and_assoc,sizeLine_eq,Y5,Yj,Ya,dFld,Ym,Yn,Yl,dSsl]
 have sa:Asc (Txt.slice a none (some 1)):=Wm aa;refine⟨by omega,YZ false (YB sa) (YB fun d hd=>by simp[show ("-":Str).cps.toList=[45] from rfl] at hd;omega) ?_⟩;refine⟨_,rfl,by omega,?_⟩;have hP:=BY a;simp only[Bool.false_eq_true,if_false];obtain⟨P,ePP⟩:∃ P,P=Txt.slice a (some (if decide (Txt.slice a none (some 1)=Str.ofString "-")=true then 1 else 0)) none:=⟨_,rfl⟩;rw[<- ePP] at hP ⊢;have aP:Asc P:=fun c hc=>by
  rw[hP] at hc;refine aa c ?_;unfold unM at hc;split at hc
  ·rename_i r e;rw[e];exact List.mem_cons_of_mem _ hc
  ·exact hc
 have lP:P.length<=70:=by
  rw[<- Yd,hP];have:=Yd a;unfold unM;split
  ·rename_i r e;rw[e] at this;simp at this;omega
  ·omega
 have two1:∃ b,Two x a b/\(∀ c,ps=[c]->b=c)/\(2<=ps.length->47∈b.cps.toList):=by
  rcases hx with ⟨rfl,rfl⟩|⟨c,r,rfl,fc,e⟩
  ·refine⟨"1",⟨.inl ⟨fa,rfl,rfl⟩⟩,?_,?_⟩
   ·intro c z;cases z
   ·intro z;simp at z
  ·refine⟨_,⟨.inr ⟨fa,e⟩⟩,?_,?_⟩
   ·intro c' z;cases z;rfl
   ·intro z
    cases r with
    | nil=>simp at z
    | cons d r =>
     rw[show Txt.join "/" (c::d::r)=Str.join "/" (c::d::r) from StrLaws.glued_eq_join _ _,show Str.join "/" (c::d::r)=c++"/"++Str.join "/" (d::r) from rfl,Zd];simp
 obtain⟨b,tw,b2,b3⟩:=two1;have num:=fun q e=>two a b tw q e;refine YY fun J hJ=>?_;have tail:fgB (unM a.cps.toList)=true->a≠("-0":Str)->ps.length<=1->∀ M2,MExt M1 M2->J [some (.str x),some (.lst p),some (.str a),some (.str P),none] M2:=by
  intro hf h0 hl M2 x2;obtain⟨i,ei⟩:=GQ hf h0;refine hJ _ _ ?_;sleep 7;refine⟨_,x2 _ _ l1,?_⟩;refine Yk false ?_;have la640:(ts i).length<=640:=by rw[<- ei];omega
  have it:intText? a=some i:=by rw[ei];exact Xm la640
  rcases hx with ⟨rfl,e⟩|⟨c,r,rfl,fc,e⟩
  ·refine .inr ⟨by simp,?_⟩
   (try dsimp only);rw[Y2];simp[0,vAt,vHd,Y4,and_assoc,sizeLine_eq,Y5,Yj,Ya,dFld,Ym,Yn,Yl,Vm]
   refine⟨i,it,by omega,?_⟩;have:=yes (i:Rat) (by rw[AX,e,ei]) M2 (x1.trans x2)
   simpa[nm] using this
  ·have r0:r=[]:=by
    cases r with
    | nil=>rfl
    | cons d r=>simp at hl
   subst r0;obtain rfl:=b2 c rfl;have ec:x=a++"/"++b:=e;have lc:b.length<=70:=by rw[ec,strLen_append] at xl;omega
   have ac:Asc b:=fun z hz=>asc z (by rw[ec,Zd];simp[hz]);have nd:∀ q,x=Y0 q->q.den≠1:=fun q hq hd=>by
    have h47:47∈(Y0 q).cps.toList:=by rw[<- hq,ec,Zd];simp
    unfold Y0 at h47;rw[if_pos hd] at h47;exact VE h47
   refine .inl ⟨by simp,?_⟩;refine YY fun J2 hJ2=>?_;have lb640:b.length<=640:=by omega
   have tail2:∀ (d:Int),2<=d->b=ts d->∀ M3,MExt M2 M3->J2 [some (.str x),some (.lst p),some (.str a),some (.str P),none] M3:=by
    intro d d2' ed M3 x3;refine hJ2 _ _ ?_;have itd:intText? b=some d:=by rw[ed];exact Xm (by rw[<- ed];omega)
    have bd:d.natAbs<10 ^ 70:=V5 %[|4] (by rw[<- ed];omega);have ba:i.natAbs<10 ^ 70:=V5 %[|4] (by rw[<- ei];omega)
    (try dsimp only);rw[Y2];simp[0,vAt,vHd,Y4,and_assoc,sizeLine_eq,Y5,Yj,Ya,dFld,Ym,Yn,Yl,Vm]
    refine⟨i,it,by omega,_,.str b,x3 _ _ (x2 _ _ l1),Yv _ _ _,⟨d,itd,by omega,?_⟩⟩;sleep 7;refine tix (v:=.int i) (Yg _ _) ?_;refine tix (v:=.int d) (Yv _ _ _) ?_;refine⟨i,d,rfl,by omega,Nat.lt_trans bd (by decide +kernel),?_⟩;have fin:∀ q,x=Y0 q->q=Rat.divInt i d/\q.num=i/\(q.den:Int)=d:=fun q e=>by
     obtain⟨n1,n2⟩:=num q e;have h1:q.num=i:=X4 (by rw[<- n1];omega) la640 (by rw[<- n1,ei]);have h2:(q.den:Int)=d:=X4 (by rw[<- n2];omega) (by rw[<- ed];omega) (by rw[<- n2,ed]);exact⟨by rw[<- h1,<- h2];exact (Rat.num_divInt_den q).symm,h1,h2⟩
    refine (enc_int.pair enc_int).eq (a:=((Rat.divInt i d).num,((Rat.divInt i d).den:Int))) (b:=(i,d)) %[|4] true ?_;by_cases hq:(Rat.divInt i d).num=i/\((Rat.divInt i d).den:Int)=d
    ·refine .inl ⟨by simp[hq.1,hq.2],?_⟩
     sleep 7;have en:D.tup [.int i,.int d]=nm (Rat.divInt i d):=by unfold nm;rw[hq.1,hq.2]
     rw[en];refine yes _ ?_ M3 (x1.trans (x2.trans x3));unfold Y0;have nd1:(Rat.divInt i d).den≠1:=by omega
     rw[if_neg nd1,hq.1,hq.2,ec,ei,ed]
    ·refine .inr ⟨by rw[if_pos rfl,decide_eq_false (fun z=>hq ⟨(Prod.mk.inj z).1,(Prod.mk.inj z).2⟩)];rfl,?_⟩
     sleep 7;refine no (fun q e=>hq ?_) M3 (x1.trans (x2.trans x3));obtain⟨h1,h2,h3⟩:=fin q e;rw[<- h1];exact⟨h2,h3⟩
   sleep 8;refine⟨_,.str b,x2 _ _ l1,Yv _ _ _,?_⟩;refine⟨b,rfl,ac,by omega,fun M3 x3=>?_⟩;have bad:fgB b.cps.toList=false->∀ q,x≠Y0 q:=fun z q e=>by
    rw[(num q e).2] at z;obtain⟨k1,k2⟩:=Jv (q.den:Int) %[|5];unfold fgB at z;rw[k1,k2] at z;cases z
   cases hfb:fgB b.cps.toList with
   | false =>
    dsimp only;rw[if_neg %[|4]];sleep 7;exact no (bad hfb) M3 (x1.trans (x2.trans x3))
   | true =>
    have hfb':=hfb;unfold fgB at hfb';rw[Bool.and_eq_true] at hfb';have ed:=Uu hfb'.1 hfb'.2;generalize NumText.digitsVal b.cps.toList=d at ed;have itd:intText? b=some (d:Int):=by rw[ed];exact Xm (by rw[<- ed];omega)
    dsimp only;rw[if_pos rfl];refine⟨_,.str b,x3 _ _ (x2 _ _ l1),Yv _ _ _,?_⟩;refine⟨_,itd,by omega,?_⟩;dsimp only;by_cases d2':(d:Int)<2
    ·rw[if_pos d2']
     sleep 7;refine no (fun q e=>nd q e ?_) M3 (x1.trans (x2.trans x3));have h2:(q.den:Int)=d:=X4 (by rw[<- (num q e).2];omega) (by rw[<- ed];omega) (by rw[<- (num q e).2,<- ed]);have:=q.den_pos;omega
    ·rw[if_neg d2']
     exact tail2 d %[|5] ed M3 x3
 sleep 8;refine⟨_,l1,?_⟩;by_cases hl:2<=ps.length
 ·rw[if_pos (by simp;omega)]
  sleep 7;refine no (fun q e=>?_) M1 x1;have h47:=b3 hl;rw[(num q e).2] at h47;exact VE h47
 ·rw[if_neg (by simp;omega)]
  refine⟨P,rfl,aP,by omega,fun M2 x2=>?_⟩;rw[hP];cases hf:fgB (unM a.cps.toList) with
  | false =>
   dsimp only;rw[if_neg %[|4]];sleep 7;refine no (fun q e=>?_) M2 (x1.trans x2);rw[(num q e).1,GV] at hf;cases hf
  | true =>
   dsimp only;rw[if_pos rfl];refine YZ false (YB aa) (YB fun d hd=>by simp[show ("-0":Str).cps.toList=[45,48] from rfl] at hd;omega) ?_;by_cases h0:a=("-0":Str)
   ·refine .inr ⟨by simp[h0],?_⟩
    sleep 7;exact no (fun q e=>FS q.num (by rw[<- (num q e).1,h0])) M2 (x1.trans x2)
   ·exact .inl ⟨by simp[h0],tail hf h0 %[|5] M2 x2⟩
noncomputable def numD (x:Str):DL.D:=open Classical in if h:∃ q,x=Y0 q then nm h.choose else .non
theorem W8 {x:Str} {q:Rat} (h:x=Y0 q) (hl:x.length<=70):numD x=nm q:=by
 have hx:∃ q,x=Y0 q:=⟨q,h⟩;unfold numD;rw[dif_pos hx];have:=hx.choose_spec;rw[YT (q:=hx.choose) (q':=q) (by rw[<- this,h]) (by rw[<- this];omega)]
theorem Uk {x:Str} (h:∀ q,x≠Y0 q):numD x=.non:=by
 unfold numD;rw[dif_neg fun ⟨q,e⟩=>h q e]
theorem EY {a c n1 n2:List Nat} (h1:46 ∉ n1) (h2:46 ∉ n2) (e:a++46::46::c=n1++46::46::n2):a=n1/\c=n2:=by
 induction a generalizing n1 with
 | nil =>
  cases n1 with
  | nil=>simpa using e
  | cons x n1=>simp at e;exact absurd (by rw[<- e.1];simp) h1
 | cons y a ih =>
  cases n1 with
  | nil =>
   simp at e;obtain⟨rfl,e⟩:=e;cases a with
   | nil=>simp at e;exact absurd (by rw[<- e];simp) h2
   | cons z a =>
    simp at e;exact absurd (by rw[<- e.2];simp) h2
  | cons x n1 =>
   simp at e;obtain⟨rfl,e⟩:=e;obtain⟨k1,k2⟩:=ih (fun z=>h1 (List.mem_cons_of_mem _ z)) e;exact⟨by rw[k1],k2⟩
theorem Vq (a b:Str):(a++".."++b).cps.toList=a.cps.toList++46::46::b.cps.toList:=by
 rw[Yb,Yb,show ("..":Str).cps.toList=[46,46] from rfl];simp
theorem j_dd (l:List Str):Txt.join ".." l=Str.join ".." l:=StrLaws.glued_eq_join _ _
theorem Ej (x:Str):(∃ a,Txt.split x ".."=[a]/\x=a/\¬ Inf2 46 46 a.cps.toList)\/(∃ a c,Txt.split x ".."=[a,c]/\x=a++".."++c)\/∃ a c d r,Txt.split x ".."=a::c::d::r/\x=a++".."++(c++".."++Txt.join ".." (d::r)):=by
 have f:=Jz (s:="..") (c:=46) (d:=46) x rfl (by decide +kernel);have j:Txt.join ".." (Txt.split x "..")=x:=XI x;cases h:Txt.split x ".." with
 | nil =>
  exfalso;rw[h] at j;rw[<- j] at h
  revert h
  decide +kernel
 | cons a r =>
  rw[h] at j f;cases r with
  | nil=>exact .inl ⟨a,rfl,by rw[<- j];exact Am _,f a (by simp)⟩
  | cons c r =>
   cases r with
   | nil=>exact .inr (.inl ⟨a,c,rfl,by rw[<- j,j_dd];rfl⟩)
   | cons d r=>exact .inr (.inr ⟨a,c,d,r,rfl,by rw[<- j,j_dd,j_dd];rfl⟩)
theorem XV {p:Rat×Rat} {a c:Str} (h:a++".."++c=Ye p):p.1≠p.2/\a=Y0 p.1/\c=Y0 p.2:=by
 have h':=congrArg (fun s=>s.cps.toList) h;simp only[Vq] at h';have hd:p.1≠p.2:=fun z=>by
  rw[YG z] at h';exact YC p.1 (by rw[<- h'];simp)
 rw[YM hd,Vq] at h';obtain⟨k1,k2⟩:=EY (YC _) (YC _) h';exact⟨hd,Yt k1,Yt k2⟩
theorem XH {s y:Str}:∀ {l:List Str},y∈l->y.length<=(Txt.join s l).length/\∀ z∈y.cps.toList,z∈(Txt.join s l).cps.toList
 | [],h=>by cases h
 | [x],h=>by
  simp at h;rw[h,show Txt.join s [x]=x from Am x];exact⟨Nat.le_refl _,fun _ hz=>hz⟩
 | x::w::r,h=>by
  have e:Txt.join s (x::w::r)=x++s++Txt.join s (w::r):=by
   rw[show Txt.join s (x::w::r)=Str.join s (x::w::r) from StrLaws.glued_eq_join _ _,show Txt.join s (w::r)=Str.join s (w::r) from StrLaws.glued_eq_join _ _];rfl
  rw[e,strLen_append,strLen_append,Yb,Yb];rcases List.mem_cons.mp h with rfl|h
  ·exact⟨by omega,fun z hz=>by simp[hz]⟩
  ·obtain⟨h1,h2⟩:=XH (s:=s) h
   exact⟨by omega,fun z hz=>List.mem_append.mpr (.inr (h2 z hz))⟩
noncomputable def numF:DL.D->DL.D
 | .str y=>numD y
 | _=>.non
theorem Cq (l:List Str):(l.map DL.D.str).map numF=l.map numD:=by rw[List.map_map];rfl
noncomputable def Wd:DL.D->Bool
 | .non=>true
 | _=>false
theorem Ew (M:Mem) (y:Str):∃ q,Py M (numD y) q/\PyData.eqv q .none=Wd (numD y):=by
 by_cases h:∃ q,y=Y0 q
 ·have e:numD y=nm h.choose:=by unfold numD;rw[dif_pos h]
  rw[e];exact⟨_,.tup (.cons (.int _) (.cons (.int _) .nil)),by rfl⟩
 ·have e:numD y=.non:=Uk fun q z=>h ⟨q,z⟩
  rw[e];exact⟨.none,.non,by rfl⟩
theorem Ah (M:Mem):∀ l:List Str,∃ ps,Pys M (l.map numD) ps/\(ps.any fun q=>PyData.eqv q .none)=l.any fun y=>Wd (numD y)
 | []=>⟨[],.nil,rfl⟩
 | y::l=>by
  obtain⟨q,h1,h2⟩:=Ew M y;obtain⟨ps,h3,h4⟩:=Ah M l;exact⟨q::ps,.cons h1 h3,by rw[List.any_cons,List.any_cons,h2,h4]⟩
theorem isNon_iff {y:Str}:Wd (numD y)=true ↔ ∀ q,y≠Y0 q:=by
 by_cases h:∃ q,y=Y0 q
 ·have e:numD y=nm h.choose:=by unfold numD;rw[dif_pos h]
  rw[e];rw[show Wd (nm h.choose)=false from rfl];exact⟨fun z=>absurd z %[|4],fun z=>absurd h.choose_spec (z _)⟩
 ·have n:∀ q,y≠Y0 q:=fun q z=>h ⟨q,z⟩
  rw[Uk n];exact⟨fun _=>n,fun _=>rfl⟩
noncomputable def S_40:DSp:=fun ds M Q E=>∃ x:Str,ds=[.str x]/\Asc x/\x.length<=70/\(∀ p:Rat×Rat,p.1<=p.2->x=Ye p->∀ M',MExt M M'->Q (pl p) M')/\((∀ p:Rat×Rat,p.1<=p.2->x≠Ye p)->∀ M',MExt M M'->Q .non M')
noncomputable def C_40:CSs:=%[.set 1 (.comp ["_law_text","_law_some","_law_piece"] 1 (.name 2) (.seq (.split (.var 0) (.str ".."))) (.call "_law_number_of" S_38 %[.var 2|0])),.ife (.or (.cmp .In .non (.var 1)) (.one (.cmp .Gt (.bi .len %[.var 1|0]) (.int 2)))) %[.ret .non|0] .nil,.ife (.cmp .Eq (.bi .len %[.var 1|0]) (.int 1)) %[.ret (.tup %[.ix (.var 1) (.int 0),.ix (.var 1) (.int 0)|0])|0] .nil,.ife (.not (.call "_law_under" S_39 %[.ix (.var 1) (.int 0),.ix (.var 1) (.int 1)|0])) %[.ret .non|0] .nil,.ret (.tup %[.ix (.var 1) (.int 0),.ix (.var 1) (.int 1)|0])|0]
theorem vc_40:∀ ds M R E,S_40 ds M R E->rSs C_40 (ends R E) (Y1 2 ds) M:=by
 rintro ds M R E ⟨x,rfl,asc,xl,yes,no⟩;unfold C_40;have few:(Txt.split x "..").length<=100:=by
  have:=Wb (s:="..") %[|4] (Txt.split x "..");rw[show Txt.join ".." (Txt.split x "..")=x from XI x] at this;omega
 have prt:∀ y∈Txt.split x "..",Asc y/\y.length<=70:=fun y hy=>by
  obtain⟨h1,h2⟩:=XH (s:="..") hy;rw[show Txt.join ".." (Txt.split x "..")=x from XI x] at h1 h2;exact⟨fun z hz=>asc z (h2 z hz),by omega⟩
 (try dsimp only);rw[Y2];simp[0,vAt,vHd,Y4,and_assoc,sizeLine_eq,Y5,Yj,Ya,dFld,Ym,Yn,Yl]
 refine Bm fun K hK=>?_;simp[0,vAt,vHd,Y4,and_assoc,sizeLine_eq,Y5,Yj,Ya,dFld,Ym,Yn,Yl,Zo];refine⟨by decide,by omega,by rw[show Txt.split x (Str.ofString "..")=Txt.split x ".." from rfl];omega,fun p M1 e1 x1 l1=>?_⟩;refine⟨_,l1,?_⟩;refine hK M1 _ _ numF (fun M' x=>x _ _ l1) (by rw[List.length_map];omega) ?_ ?_
 ·intro y hy l M5 R' hl' ee rr
  obtain⟨z1,rfl⟩:=len1 hl';obtain⟨y,hy',rfl⟩:=List.mem_map.mp hy;sleep 8;obtain⟨py1,py2⟩:=prt y hy';refine⟨y,rfl,py1,py2,fun q e M6 x6=>?_,fun nq M6 x6=>?_⟩
  ·have:=rr [some (.str y)] M6 rfl x6
   rw[show numF (.str y)=numD y from rfl,W8 e py2] at this
   simpa using this
  ·have:=rr [some (.str y)] M6 rfl x6
   rw[show numF (.str y)=numD y from rfl,Uk nq] at this;exact this
 intro p5 M5 e5 x5 l5;rw[Cq] at l5;obtain⟨ps,hp1,hp2⟩:=Ah M5 (Txt.split x "..");sleep 7;refine⟨_,l5,ps,.none,hp1,.non,by decide,?_⟩;rw[hp2];have MM:=x1.trans x5;dsimp only;have isn:∀ y:Str,Wd (numD y)=false->∃ q,y=Y0 q:=fun y z=>by
  apply Classical.byContradiction;intro n;rw[isNon_iff.mpr fun q e=>n ⟨q,e⟩] at z;cases z
 rcases Ej x with ⟨a,h,e,ni⟩|⟨a,c,h,e⟩|⟨a,c,d,r,h,e⟩
 ·rw[h] at l5 ⊢
  cases hb:Wd (numD a) with
  | true =>
   refine .inr ⟨by simp[hb],?_⟩;sleep 7;refine no (fun p _ ep=>?_) M5 MM;by_cases hd:p.1=p.2
   ·exact isNon_iff.mp hb p.1 (by rw[<- e,ep,YG hd])
   ·refine ni ⟨(Y0 p.1).cps.toList,(Y0 p.2).cps.toList,?_⟩
    rw[<- e,ep,YM hd,Vq]
  | false =>
   obtain⟨q,eq⟩:=isn a hb;refine .inl ⟨by simp[hb],_,l5,?_⟩;rw[if_neg (by simp)];sleep 7;refine⟨_,l5,?_⟩;refine Yk false ?_;refine .inr ⟨by simp,?_⟩;sleep 7;refine⟨_,numD a,l5,Yg _ _,_,numD a,l5,Yg _ _,?_⟩;rw[W8 eq (by rw[<- e];exact xl)];exact yes (q,q) Rat.le_refl (by rw[YG rfl,e,eq]) M5 MM
 ·have la:a.length<=70/\c.length<=70:=by rw[e,strLen_append,strLen_append] at xl;omega
  rw[h] at l5 ⊢;cases hb:Wd (numD a) || Wd (numD c) with
  | true =>
   refine .inr ⟨by simpa using hb,?_⟩;sleep 7;refine no (fun p _ ep=>?_) M5 MM;obtain⟨hd,ea,ec⟩:=XV (e.symm.trans ep);rw[Bool.or_eq_true] at hb;rcases hb with hb|hb
   ·exact isNon_iff.mp hb _ ea
   ·exact isNon_iff.mp hb _ ec
  | false =>
   have hb':=hb;rw[Bool.or_eq_false_iff] at hb';obtain⟨q1,e1'⟩:=isn a hb'.1;obtain⟨q2,e2'⟩:=isn c hb'.2;have n1:=W8 e1' la.1;have n2:=W8 e2' la.2;have s1:Sz 240 q1:=Z5 (by rw[<- e1'];exact la.1);have s2:Sz 240 q2:=Z5 (by rw[<- e2'];exact la.2);refine .inl ⟨by simpa using hb,_,l5,?_⟩;rw[if_neg (by simp)];sleep 7;refine⟨_,l5,?_⟩;refine Yk false ?_;refine .inl ⟨by simp,?_⟩;rw[show [a,c].map numD=[nm q1,nm q2] by simp[n1,n2]] at l5;sleep 7;refine⟨_,nm q1,l5,Yg _ _,_,nm q2,l5,Yv _ _ _,?_⟩;refine⟨q1,q2,rfl,.mk s1 s2 %[|4],?_⟩;by_cases hlt:q1<q2
   ·rw[decide_eq_true hlt]
    dsimp only;rw[if_pos rfl];sleep 7;refine⟨_,nm q1,l5,Yg _ _,_,nm q2,l5,Yv _ _ _,?_⟩;exact yes (q1,q2) (Rat.le_of_lt hlt) (by rw[YM (show q1≠q2 from Rat.ne_of_lt hlt),e,e1',e2']) M5 MM
   ·rw[decide_eq_false hlt]
    dsimp only;rw[if_neg %[|4]];sleep 7;refine no (fun p hp ep=>?_) M5 MM;obtain⟨hd,ea,ec⟩:=XV (e.symm.trans ep);have k1:=YT (e1'.symm.trans ea) (by rw[<- e1'];omega);have k2:=YT (e2'.symm.trans ec) (by rw[<- e2'];omega);rw[k1,k2] at hlt;exact hd (Rat.le_antisymm hp (Rat.not_lt.mp hlt))
 ·have bad:∀ p:Rat×Rat,p.1<=p.2->x≠Ye p:=fun p _ ep=>by
   obtain⟨_,_,ec⟩:=XV (e.symm.trans ep);exact YC p.2 (by rw[<- ec,Vq];simp)
  rw[h] at l5 ⊢;cases hb:([a,c]++d::r).any fun y=>Wd (numD y) with
  | true =>
   refine .inr ⟨by rw[show (a::c::d::r)=[a,c]++d::r from rfl,hb];rfl,?_⟩;sleep 7;exact no bad M5 MM
  | false =>
   refine .inl ⟨by rw[show (a::c::d::r)=[a,c]++d::r from rfl,hb];rfl,_,l5,?_⟩;rw[if_pos (by simp;omega)];sleep 7;exact no bad M5 MM
theorem numP {w:Rat}:0<w.num ↔ 0<w:=by rw[Rat.lt_iff];simp
theorem enc_rj:EqEnc rj 4:=by
 obtain⟨f',g1,g2,g3⟩:=enc_nm.ex;refine⟨fun j=>.tuple [.int j.a,.int j.d,f' j.w],fun M j=>.tup (.cons (.int _) (.cons (.int _) (.cons (g1 M _) .nil))),fun x y=>?_,fun j=>?_⟩
 ·obtain⟨a1,a2,a3⟩:=x
  obtain⟨b1,b2,b3⟩:=y;simp only[PyData.eqv,PyData.eqvAll,g2,RJ.mk.injEq];by_cases z1:a1=b1<;>by_cases z2:a2=b2<;>by_cases z3:a3=b3<;>simp[z1,z2,z3]
 ·simp only[PyData.depth,PyData.depthAll]
  have:=g3 j.w;omega
theorem ER {M:Mem} {Q:DK} {p p':Addr} {r:List RJ} (h:M p=some (.ls (r.map rj))) (h':M p'=some (.ls [])) (q:Q (.bl (!decide (r=[]))) M):cEq true (.lst p) (.lst p') M Q:=by
 obtain⟨e',h1,h2,h3⟩:=enc_rj.ex;have hd:=Wy (k:=4) (l:=r.map e') (by simp;exact fun a _=>h3 a);refine A3 (.lst h (JF (h1 M) r)) (.lst h' .nil) ?_ ?_
 ·simp only[PyData.depth];omega
 ·rw[show PyData.eqv (.list (r.map e')) (.list [])=decide (r=[]) by
   rw[show ([]:List PyData)=([]:List RJ).map e' from rfl];simp only[PyData.eqv];exact Ux h2 r []]
  exact q
noncomputable def S_41:DSp:=fun ds M Q E=>∃ (x:Str) (p:Addr) (r:List RJ),ds=[.str x,.lst p]/\M p=some (.ls (r.map rj))/\(r=[]\/GoodJ r)/\Asc x/\x.length<=70/\(∀ q,x=Yc q->GoodJ (r++[q])->∀ M',MExt M M'->Q (rj q) M')/\((∀ q,x=Yc q->¬ GoodJ (r++[q]))->∀ M',MExt M M'->Q .non M')
noncomputable def C_41:CSs:=%[.set 2 (.split (.var 0) (.str " ")),.ife (.or (.cmp .NotEq (.bi .len %[.var 2|0]) (.int 3)) (.or (.not (.call "_law_figures" S_37 %[.ix (.var 2) (.int 0)|0])) (.one (.not (.call "_law_figures" S_37 %[.ix (.var 2) (.int 1)|0]))))) %[.ret .non|0] .nil,.par3 3 4 5 (.bi .intS %[.ix (.var 2) (.int 0)|0]) (.bi .intS %[.ix (.var 2) (.int 1)|0]) (.call "_law_number_of" S_38 %[.ix (.var 2) (.int 2)|0]),.ife (.or (.cmp .Is (.var 5) .non) (.or (.cmp .Lt (.ix (.var 5) (.int 0)) (.int 1)) (.or (.cmp .LtE (.var 4) (.var 3)) (.or (.cmp .Gt (.var 4) (.int 24)) (.one (.cmp .Gt (.bi .len %[.var 1|0]) (.int 11))))))) %[.ret .non|0] .nil,.ife (.and (.cmp .NotEq (.var 1) (.lst .nil)) (.one (.or (.cmp .Lt (.var 3) (.ix (.ix (.var 1) (.neg (.int 1))) (.int 0))) (.one (.cmp .Lt (.var 4) (.ix (.ix (.var 1) (.neg (.int 1))) (.int 1))))))) %[.ret .non|0] .nil,.ret (.tup %[.var 3,.var 4,.var 5|0])|0]
theorem vc_41:∀ ds M R E,S_41 ds M R E->rSs C_41 (ends R E) (Y1 6 ds) M:=by
 rintro ds M R E ⟨x,p,r,rfl,lp,gr,asc,xl,yes,no⟩;unfold C_41;have few:=JA (sp x);rw[WJ] at few
 (try dsimp only);rw[Y2];simp[0,vAt,vHd,Y4,and_assoc,sizeLine_eq,Y5,Yj,Ya,dFld,Ym,Yn,Yl,Zo]
 refine⟨by decide,by omega,by show (sp x).length<=_;omega,fun p1 M1 e1 x1 l1=>?_⟩;have prt:∀ y∈sp x,Asc y/\y.length<=70:=fun y hy=>by
  obtain⟨h1,h2⟩:=XH (s:=" ") hy;rw[show Txt.join " " (sp x)=x from WJ x] at h1 h2;exact⟨fun z hz=>asc z (h2 z hz),by omega⟩
 have okq:∀ q,GoodJ (r++[q])->0<=q.a/\q.a<q.d/\q.d<=24/\0<q.w:=fun q g=>by
  have:=g.ok q (by simp);unfold okJ at this
  simpa[and_assoc] using this
 refine YY fun J hJ=>?_;have tail:∀ a b c,sp x=[a,b,c]->fgB a.cps.toList=true->fgB b.cps.toList=true->∀ M2,MExt M1 M2->J [some (.str x),some (.lst p),some (.lst p1),none,none,none] M2:=by
  intro a b c h fa fb M2 x2;refine hJ _ _ ?_;have l1':M1 p1=some (.ls [.str a,.str b,.str c]):=by rw[l1,show Txt.split x " "=[a,b,c] from h];rfl
  unfold fgB at fa fb;rw[Bool.and_eq_true] at fa fb;have ea:=Uu fa.1 fa.2;have eb:=Uu fb.1 fb.2;generalize NumText.digitsVal a.cps.toList=A at ea;generalize NumText.digitsVal b.cps.toList=B at eb;obtain⟨_,la⟩:=prt a (by rw[h];simp);obtain⟨_,lb⟩:=prt b (by rw[h];simp);obtain⟨ac,lc⟩:=prt c (by rw[h];simp);have ia:intText? a=some (A:Int):=by rw[ea];exact Xm (by rw[<- ea];omega)
  have ib:intText? b=some (B:Int):=by rw[eb];exact Xm (by rw[<- eb];omega)
  have xj:∀ w,c=Y0 w->x=Yc ⟨A,B,w⟩:=fun w e=>by
   rw[<- WJ x,h,ea,eb,e];rfl
  (try dsimp only);rw[Y2];simp[0,vAt,vHd,Y4,and_assoc,sizeLine_eq,Y5,Yj,Ya,dFld,Ym,Yn,Yl,Dn,Vm]
  refine⟨_,.str a,x2 _ _ l1',Yg _ _,A,ia,by omega,_,.str b,x2 _ _ l1',Yv _ _ _,B,ib,by omega,_,.str c,x2 _ _ l1',L2.atI_nat (j:=2) rfl,?_⟩;dsimp only;have jq:∀ q,x=Yc q->q.a=A/\q.d=B/\c=Y0 q.w:=fun q e=>by
   have e2:=Zw q;rw[<- e,h,ea,eb] at e2;simp only[List.cons.injEq,and_true] at e2;obtain⟨k1,k2,k3⟩:=e2;exact⟨(X4 (by rw[<- ea];omega) (by rw[<- k1,<- ea];omega) k1).symm,(X4 (by rw[<- eb];omega) (by rw[<- k2,<- eb];omega) k2).symm,k3⟩
  refine⟨c,rfl,ac,by omega,fun w ew M3 x3=>?_,fun nw M3 x3=>?_⟩
  ·have MM:=x1.trans (x2.trans x3)
   have lp3:=MM _ _ lp;rw[show nm w=.tup [.int w.num,.int w.den] from rfl];refine YY fun J2 hJ2=>?_;have tail2:0<w->A<B->B<=24->r.length<=11->J2 [some (.str x),some (.lst p),some (.lst p1),some (.int A),some (.int B),some (nm w)] M3:=by
    intro w0 ab b24 r11;refine hJ2 _ _ ?_;sleep 7;intro p9 M9 e9 x9 l9;have lp9:=x9 _ _ lp3;have MM9:=MM.trans x9;refine ER lp9 l9 ?_;have ok1:okJ ⟨A,B,w⟩=true:=by
     unfold okJ;simp only[Bool.and_eq_true,decide_eq_true_eq];exact⟨⟨⟨by omega,by omega⟩,by omega⟩,w0⟩
    by_cases hr:r=[]
    ·refine .inl ⟨by simp[hr],?_⟩
     sleep 7;refine yes ⟨A,B,w⟩ (xj w ew) ?_ M9 MM9;rw[hr];exact⟨by simp,by simp,fun j hj=>by simp at hj;rw[hj];exact ok1,by simp⟩
    ·refine .inr ⟨by simp[hr],?_⟩
     have g:=gr.resolve_left hr;obtain⟨r0,l,rfl⟩:∃ r0 l,r=r0++[l]:=⟨_,_,(List.dropLast_concat_getLast hr).symm⟩;have hat:L2.atI ((r0++[l]).map rj) (-1)=some (rj l):=by
      rw[Fs (by simp)];simp
     have mon:∀ q,GoodJ (r0++[l]++[q])->l.a<=q.a/\l.d<=q.d:=fun q g=>(List.pairwise_append.mp g.mon).2.2 l (by simp) q (by simp);rw[show rj l=.tup [.int l.a,.int l.d,nm l.w] from rfl] at hat;refine⟨_,_,lp9,hat,?_⟩;refine tix (v:=.int l.a) (Yg _ _) ?_;dsimp only;by_cases k1:(A:Int)<l.a
     ·rw[if_pos k1]
      sleep 7;refine no (fun q e g=>?_) M9 MM9;have:=(mon q g).1;rw[(jq q e).1] at this;omega
     rw[if_neg k1];refine⟨_,_,lp9,hat,?_⟩;refine tix (v:=.int l.d) (Yv _ _ _) ?_;dsimp only;by_cases k2:(B:Int)<l.d
     ·rw[if_pos k2]
      sleep 7;refine no (fun q e g=>?_) M9 MM9;have:=(mon q g).2;rw[(jq q e).2.1] at this;omega
     rw[if_neg k2];sleep 7;refine yes ⟨A,B,w⟩ (xj w ew) ?_ M9 MM9;have old:∀ j∈r0++[l],Le2 j ⟨A,B,w⟩:=fun j hj=>by
      have jl:j.a<=l.a/\j.d<=l.d:=by
       rcases List.mem_append.mp hj with hj|hj
       ·exact (List.pairwise_append.mp g.mon).2.2 j hj l (by simp)
       ·simp at hj;rw[hj];exact⟨Int.le_refl _,Int.le_refl _⟩
      exact⟨by have:=jl.1;dsimp only;omega,by have:=jl.2;dsimp only;omega⟩
     refine⟨by simp,by rw[List.length_append,List.length_singleton];omega,fun j hj=>?_,?_⟩
     ·rcases List.mem_append.mp hj with hj|hj
      ·exact g.ok j hj
      ·simp at hj;rw[hj];exact ok1
     ·rw[List.pairwise_append]
      exact⟨g.mon,by simp,fun a ha b hb=>by simp at hb;rw[hb];exact old a ha⟩
   sleep 8;show _\/_;refine .inl ⟨rfl,?_⟩;refine tix (v:=.int w.num) (Yg _ _) ?_;dsimp only;have qw:∀ q,x=Yc q->q.w=w:=fun q e=>YT ((jq q e).2.2.symm.trans ew) (by rw[<- (jq q e).2.2];omega);by_cases c1:w.num<1
   ·rw[if_pos c1]
    sleep 7;refine no (fun q e g=>?_) M3 MM;have:=(okq q g).2.2.2;rw[qw q e] at this;have:=numP.mpr this;omega
   rw[if_neg c1];have w0:0<w:=numP.mp %[|5];by_cases c2:B<=A
   ·rw[if_pos c2]
    sleep 7;refine no (fun q e g=>?_) M3 MM;have:=(okq q g).2.1;rw[(jq q e).1,(jq q e).2.1] at this;omega
   rw[if_neg c2];by_cases c3:(24:Int)<B
   ·rw[if_pos c3]
    sleep 7;refine no (fun q e g=>?_) M3 MM;have:=(okq q g).2.2.1;rw[(jq q e).2.1] at this;omega
   rw[if_neg c3];refine⟨_,lp3,?_⟩;by_cases c4:11<r.length
   ·rw[if_pos (by rw[List.length_map];omega)]
    sleep 7;refine no (fun q e g=>?_) M3 MM;have:=g.most;simp at this;omega
   rw[if_neg (by rw[List.length_map];omega)];exact tail2 w0 %[|5] %[|5] %[|5]
  ·sleep 7
   exact no (fun q e _=>nw _ (jq q e).2.2) M3 (x1.trans (x2.trans x3))
 sleep 8;refine⟨_,l1,?_⟩;refine Yk true ?_;have bad:(sp x).length≠3->∀ q,x=Yc q->¬ GoodJ (r++[q]):=fun h q e _=>h (by rw[e,Zw];rfl);by_cases h3:(sp x).length=3
 ·refine .inl ⟨by rw[List.length_map,show (Txt.split x " ").length=3 from h3];rfl,?_⟩
  obtain⟨a,b,c,e⟩:=len3 h3;have l1':M1 p1=some (.ls [.str a,.str b,.str c]):=by rw[l1,show Txt.split x " "=[a,b,c] from e];rfl
  have ne:∀ q:RJ,x=Yc q->a=ts q.a/\b=ts q.d/\c=Y0 q.w:=fun q ej=>by
   have:=Zw q;rw[<- ej,e] at this
   simpa using this
  obtain⟨aa,la⟩:=prt a (by rw[e];simp);obtain⟨ab,lb⟩:=prt b (by rw[e];simp);have nfig:∀ i:Int,0<=i->fgB (ts i).cps.toList=true:=fun i h=>by
   unfold fgB;rw[(Jv i h).1,(Jv i h).2];rfl
  refine⟨_,.str a,l1',Yg _ _,?_⟩;refine⟨a,rfl,aa,by omega,fun M2 x2=>?_⟩;cases fa:fgB a.cps.toList with
  | false =>
   dsimp only;rw[if_neg %[|4]];sleep 7;refine no (fun q e g=>?_) M2 (x1.trans x2);rw[(ne q e).1,nfig _ (okq q g).1] at fa;cases fa
  | true =>
   dsimp only;rw[if_pos rfl];refine⟨_,.str b,x2 _ _ l1',Yv _ _ _,?_⟩;refine⟨b,rfl,ab,by omega,fun M3 x3=>?_⟩;cases fb:fgB b.cps.toList with
   | false =>
    dsimp only;rw[if_neg %[|4]];sleep 7;refine no (fun q e g=>?_) M3 (x1.trans (x2.trans x3));obtain⟨g1,g2,_⟩:=okq q g;rw[(ne q e).2.1,nfig _ %[|5]] at fb;cases fb
   | true =>
    dsimp only;rw[if_pos rfl];exact tail a b c e fa fb M3 (x2.trans x3)
 ·refine .inr ⟨by rw[List.length_map];simp;show ¬ (((sp x).length:Int)=3);omega,?_⟩
  sleep 7;exact no (bad h3) M1 x1
noncomputable def S_0:DSp:=fun ds M Q E=>ds=[]/\∀ y:Str,Asc y->1<=y.length->y.length<=100->Q (.str y) M
noncomputable def C_0:CSs:=%[.set 0 (.str " !\"#$&'()*+,-./0123456789:;<=>?@ABCDEFGHIJKLMNOPQRSTUVWXYZ[\\]^_`"),.ret (.bin .Add (.var 0) (.str "abcdefghijklmnopqrstuvwxyz{|}~\n\t"))|0]
theorem vc_0:∀ ds M R E,S_0 ds M R E->rSs C_0 (ends R E) (Y1 1 ds) M:=by
 rintro ds M R E ⟨rfl,h⟩;unfold C_0;sleep 7;sleep 7;refine⟨by decide,?_⟩;exact h _ (W1 (by decide +kernel)) (by decide +kernel) (by decide +kernel)
theorem Ds {x:Str} {a:Nat} (h:x.length<=a):(Txt.slice x (some (a:Int)) none).cps.toList=[]:=by
 have e1:Builtin.Str.strSliceIndices (some (a:Int)) none 1 x.length=Builtin.Str.strSliceIndices (some (x.length:Int)) (some (x.length:Int)) 1 x.length:=by
  simp[Builtin.Str.strSliceIndices];rw[if_neg (show ¬ ((a:Int)<0) by omega),if_neg (show ¬ ((x.length:Int)<0) by omega),show max 0 (min (x.length:Int) x.length)=x.length by omega,show max 0 (min (a:Int) x.length)=x.length by omega]
 rw[UC %[|3] %[|3] e1,Nat.sub_self,List.take_zero]
theorem BO {x:Str} {n a:Nat} (hn:n<=x.length) (h:n<=a):(Txt.slice x (some (a:Int)) none).length<=x.length-n:=by
 have e:=Yd x;rw[<- Yd];by_cases ha:a<=x.length
 ·rw[Vv ha,List.length_drop];omega
 ·rw[Ds %[|5]];simp
noncomputable def odL:List Str:=[("":Str),(" ":Str),("/":Str),("-":Str),("0":Str),("1":Str),("7":Str),("..":Str),(", ":Str),("; ":Str),(",":Str),(";":Str),(".":Str),("1/2":Str),(" 3":Str),("x":Str)]
noncomputable def S_2:DSp:=fun ds M Q E=>∃ (a:Addr) (x:Str),ds=[.lst a,.str x]/\Pk M a/\Asc x/\x.length<=100/\∀ y M',Asc y->y.length<=x.length+3->Dr a M M'->Q (.str y) M'
noncomputable def C_2:CSs:=%[.set 2 (.call "_law_take" S_1 %[.var 0,.bin .Add (.bi .len %[.var 1|0]) (.int 1)|0]),.set 3 (.ix (.lst %[.str "",.str " ",.str "/",.str "-",.str "0",.str "1",.str "7",.str "..",.str ", ",.str "; ",.str ",",.str ";",.str ".",.str "1/2",.str " 3",.str "x"|0]) (.call "_law_take" S_1 %[.var 0,.int 16|0])),.ife (.cmp .Eq (.call "_law_take" S_1 %[.var 0,.int 2|0]) (.int 1)) %[.set 4 (.call "_law_signs" S_0 .nil),.set 3 (.ix (.var 4) (.call "_law_take" S_1 %[.var 0,.bi .len %[.var 4|0]|0]))|0] .nil,.ret (.bin .Add (.bin .Add (.ssl (.var 1) .none (.some (.var 2))) (.var 3)) (.ssl (.var 1) (.some (.bin .Add (.var 2) (.call "_law_take" S_1 %[.var 0,.int 3|0]))) .none))|0]
theorem vc_2:∀ ds M R E,S_2 ds M R E->rSs C_2 (ends R E) (Y1 5 ds) M:=by
 rintro ds M R E ⟨a,x,rfl,pk,asc,xl,h⟩;unfold C_2;have odd_ok:∀ o∈odL,Asc o/\o.length<=3:=fun o ho=>by
  have:∀ o∈odL,o.cps.toList.all (fun c=>decide (c<128))=true/\o.length<=3:=by decide +kernel
  exact⟨W1 (this o ho).1,(this o ho).2⟩
 sleep 7;refine⟨by rw[sizeLine_eq];omega,?_⟩;dsimp only;rw[Xg];refine Ys pk %[|5] (Nat.lt_of_lt_of_le (show ((x.length:Int)+1).natAbs<2 ^ 10 by omega) (ZV %[|4])) fun z M1 z0 z1 y1=>?_;obtain⟨n,rfl⟩:=Int.eq_ofNat_of_zero_le z0;sleep 7;intro p2 M2 e2 x2 l2;refine Ys (y1.pk.ext x2) %[|4] %[|4] fun k M3 k0 k1 y3=>?_;obtain⟨j,rfl⟩:=Int.eq_ofNat_of_zero_le k0;have l3:=y3.keep _ _ (y1.pk.ne e2) l2;have hj:j<odL.length:=by show j<16;omega
 refine⟨_,.str odL[j],l3,L2.atI_nat (by rw[show [D.str "",D.str " ",D.str "/",D.str "-",D.str "0",D.str "1",D.str "7",D.str "..",D.str ", ",D.str "; ",D.str ",",D.str ";",D.str ".",D.str "1/2",D.str " 3",D.str "x"]=odL.map D.str from rfl];simp[hj]),?_⟩;obtain⟨oa,ol⟩:=odd_ok odL[j] (List.getElem_mem hj);generalize odL[j]=o at oa ol;have y03:=y1.trans ((Dr.ext y1.pk x2).trans y3);refine YY fun J hJ=>?_;have tail:∀ (o:Str) (w4:Option DL.D) M4,Asc o->o.length<=3->Dr a M M4->J [some (.lst a),some (.str x),some (.int n),some (.str o),w4] M4:=by
  intro o w4 M4 oa ol y4;refine hJ _ _ ?_
  (try dsimp only);rw[Y2];simp[0,vAt,vHd,Y4,and_assoc,sizeLine_eq,Y5,Yj,Ya,dFld,Ym,Yn,Yl,dSsl]
  have hn:n<=x.length:=by omega
  have lt:(Txt.slice x none (some (n:Int))).length=n:=by
   have:=Yd x;rw[<- Yd,Jj hn,List.length_take];omega
  have ta:Asc (Txt.slice x none (some (n:Int))):=Wm asc;generalize Txt.slice x none (some (n:Int))=T at lt ta;refine⟨by omega,⟨by rw[sizeLine_eq];omega,?_⟩⟩;refine Ys y4.pk %[|4] %[|4] fun k M5 k0 k1 y5=>?_;obtain⟨j,rfl⟩:=Int.eq_ofNat_of_zero_le k0;rw[Xg];refine⟨_,rfl,by omega,?_⟩;rw[show (n:Int)+(j:Int)=((n+j:Nat):Int) by omega];have lr:=BO hn (show n<=n+j by omega);have ra:Asc (Txt.slice x (some ((n+j:Nat):Int)) none):=Wm asc;generalize Txt.slice x (some ((n+j:Nat):Int)) none=Z at lr ra;refine⟨by rw[strLen_append,sizeLine_eq];omega,?_⟩;refine h _ M5 (fun c hc=>?_) (by rw[strLen_append,strLen_append];omega) (y4.trans y5);rw[Yb,Yb] at hc;rcases List.mem_append.mp hc with hc|hc
  ·rcases List.mem_append.mp hc with hc|hc
   ·exact ta c hc
   ·exact oa c hc
  ·exact ra c hc
 sleep 8;refine Ys y3.pk %[|4] %[|4] fun k M4 k0 k1 y4=>?_;refine Yk false ?_;by_cases h1:k=1
 ·refine .inr ⟨by simp[h1],?_⟩
  sleep 7;refine⟨rfl,fun sg sa sg1 sg2=>?_⟩;sleep 7;refine⟨by rw[sizeLine_eq];omega,?_⟩;refine Ys y4.pk %[|5] (Nat.lt_of_lt_of_le (show (sg.length:Int).natAbs<2 ^ 10 by omega) (ZV %[|4])) fun m M5 m0 m1 y5=>?_;obtain⟨j,rfl⟩:=Int.eq_ofNat_of_zero_le m0;have e:=Yd sg;have hj:j<sg.cps.toList.length:=by omega
  refine⟨by rw[sizeLine_eq];omega,sg.cps.toList[j],L2.atI_nat (by simp[hj]),?_⟩;exact tail _ (some (.str sg)) M5 (fun c hc=>by
   have hc:c=sg.cps.toList[j]:=by simpa using hc
   rw[hc];exact sa _ (List.getElem_mem hj)) (by show 1<=3;decide) (y03.trans (y4.trans y5))
 ·exact .inl ⟨by simp[h1],tail o none M4 oa ol (y03.trans y4)⟩
structure ShJ (j:RJ):Prop where
 a:j.a.natAbs<2 ^ 20
 d:j.d.natAbs<2 ^ 20
 w:Sz 240 j.w
theorem We {i:Int} (h:i.natAbs<2 ^ 20):(ts i).length<=100/\i.natAbs.log2<1920:=by
 have s:Sz 240 ((i:Int):Rat):=⟨by simp;exact Nat.lt_of_lt_of_le h (show (2:Nat) ^ 20<=2 ^ 240 from ZV %[|4]),by simp⟩;obtain⟨l1,l2,g1,g2⟩:=X5 s;simp at l1 g1;exact⟨by omega,g1⟩
theorem Cz {q:Rat} (sq:Sz 240 q):(Y0 q).length<=241:=by
 obtain⟨l1,l2,_⟩:=X5 sq;unfold Y0;split
 ·omega
 ·simp only[strLen_append];show (ts q.num).length+1+(ts (q.den:Int)).length<=_;omega
noncomputable def S_43:DSp:=fun ds M Q E=>∃ j,ds=[rj j]/\ShJ j/\Q (.str (Yc j)) M
noncomputable def C_43:CSs:=%[.asg (.tup %[.name 1,.name 2,.name 3|0]) (.var 0),.ret (.fstrJ " " " " (.var 1) (.var 2) (.call "show_number" S_19 %[.var 3|0]))|0]
theorem vc_43:∀ ds M R E,S_43 ds M R E->rSs C_43 (ends R E) (Y1 4 ds) M:=by
 rintro ds M R E ⟨j,rfl,sj,q⟩;rw[show rj j=.tup [.int j.a,.int j.d,nm j.w] from rfl];unfold C_43;sleep 7
 (try dsimp only);rw[Y2];simp[0,vAt,vHd,Y4,and_assoc,sizeLine_eq,Y5,Yj,Ya,dFld,Ym,Yn,Yl,A0]
 obtain⟨l1,g1⟩:=We sj.a;obtain⟨l2,g2⟩:=We sj.d;have sw:=sj.w.mono (n:=240) %[|4];have l3:=Cz sw;have sp1:(Str.ofString " ").length=1:=rfl;rw[show Str.ofString j.a.repr=ts j.a from rfl,show Str.ofString j.d.repr=ts j.d from rfl];refine⟨g1,by simp only[strLen_append];omega,g2,by simp only[strLen_append];omega,by simp only[strLen_append];omega,j.w,rfl,sw,_,rfl,by omega,by simp only[strLen_append];omega,?_⟩;rw[Vg] at q;exact q
noncomputable def S_4:DSp:=fun ds M Q E=>∃ j,ds=[rj j]/\ShJ j/\Q (.str (Yc j)) M
noncomputable def C_4:CSs:=%[.ret (.bin .Add (.bin .Add (.bin .Add (.bin .Add (.bi .str %[.ix (.var 0) (.int 0)|0]) (.str " ")) (.bi .str %[.ix (.var 0) (.int 1)|0])) (.str " ")) (.call "_law_number_text" S_3 %[.ix (.var 0) (.int 2)|0]))|0]
theorem vc_4:∀ ds M R E,S_4 ds M R E->rSs C_4 (ends R E) (Y1 1 ds) M:=by
 rintro ds M R E ⟨j,rfl,sj,q⟩;rw[show rj j=.tup [.int j.a,.int j.d,nm j.w] from rfl];unfold C_4;obtain⟨l1,g1⟩:=We sj.a;obtain⟨l2,g2⟩:=We sj.d;have sw:=sj.w.mono (n:=240) %[|4];have l3:=Cz sw;have sl:sizeLine=16777216:=sizeLine_eq;have sp1:(Str.ofString " ").length=1:=rfl;rw[Vg] at q;sleep 7;refine tix (v:=.int j.a) (Yg _ _) ?_;refine⟨g1,?_⟩;rw[show Str.ofString j.a.repr=ts j.a from rfl];refine⟨by rw[sp1,sl];omega,?_⟩;refine tix (v:=.int j.d) (Yv _ _ _) ?_;refine⟨g2,?_⟩;rw[show Str.ofString j.d.repr=ts j.d from rfl];refine⟨by simp only[strLen_append];omega,?_⟩;refine⟨by simp only[strLen_append];omega,?_⟩;refine tix (v:=nm j.w) (L2.atI_nat (j:=2) rfl) ?_;refine⟨j.w,rfl,sw,by simp only[strLen_append];omega,q⟩
theorem Gg {r:List RJ} {q:RJ} (h:r.Pairwise Le2) (hq:∀ j∈r,Le2 j q):(r++[q]).Pairwise Le2:=by
 rw[List.pairwise_append];exact⟨h,by simp,fun a ha b hb=>by simp at hb;rw[hb];exact hq a ha⟩
structure LJ (j:RJ):Prop where
 ok:okJ j=true
 w:Sz 5 j.w
theorem UL {i:Int} (h0:0<=i) (h:i<=24):(ts i).length<=2:=by
 obtain⟨n,rfl⟩:=Int.eq_ofNat_of_zero_le h0;have:∀ n<25,(ts ((n:Nat):Int)).length<=2:=by decide +kernel
 exact this n %[|5]
theorem LJ.get {j:RJ} (h:LJ j):0<=j.a/\j.a<j.d/\j.d<=24/\0<j.w:=by
 have:=h.ok;unfold okJ at this
 simpa[and_assoc] using this
theorem LJ.sh {j:RJ} (h:LJ j):ShJ j/\(Yc j).length<=13:=by
 obtain⟨h1,h2,h3,h4⟩:=h.get;refine⟨⟨by omega,by omega,h.w.mono %[|4]⟩,?_⟩;rw[Wu];have a:=UL h1 %[|5];have b:=UL (i:=j.d) %[|5] h3;have c:=VJ (q:=j.w) (k:=2) %[|4] (by have:=h.w.1;omega) (by have:=h.w.2;omega);omega
noncomputable def S_11:DSp:=fun ds M Q E=>∃ (a:Addr),ds=[.lst a,.int 4]/\Pk M a/\∀ (r:List RJ) M',GoodJ r->r.length<=4->(∀ j∈r,LJ j)->Dr a M M'->Q (.tup (r.map rj)) M'
noncomputable def C_11:CSs:=%[.set 2 (.lst .nil),.asg (.tup %[.name 3,.name 4|0]) (.tup %[.int 0,.int 0|0]),.fr (.name 5) (.rng %[.bin .Add (.int 1) (.call "_law_take" S_1 %[.var 0,.var 1|0])|0]) %[.set 3 (.bi .min %[.bin .Add (.var 3) (.call "_law_take" S_1 %[.var 0,.int 4|0]),.int 22|0]),.set 4 (.bi .min %[.bi .max %[.bin .Add (.var 4) (.call "_law_take" S_1 %[.var 0,.int 3|0]),.bin .Add (.bin .Add (.var 3) (.int 1)) (.call "_law_take" S_1 %[.var 0,.int 4|0])|0],.int 24|0]),.expr (.app 2 (.tup %[.var 3,.var 4,.call "_law_low" S_5 %[.bin .Add (.int 1) (.call "_law_take" S_1 %[.var 0,.int 30|0]),.ix (.lst %[.int 1,.int 1,.int 2,.int 3|0]) (.call "_law_take" S_1 %[.var 0,.int 4|0])|0]|0]))|0],.ret (.bi .tuple %[.var 2|0])|0]
theorem vc_11:∀ ds M R E,S_11 ds M R E->rSs C_11 (ends R E) (Y1 6 ds) M:=by
 rintro ds M R E ⟨a,rfl,pk,q⟩;unfold C_11;sleep 7;intro p0 M0 e0 x0 l0;have hpa:=pk.ne e0;sleep 7;sleep 9;refine Ys (pk.ext x0) %[|4] %[|4] fun n M2 n0 n1 y2=>?_;rw[Xg]
 (try dsimp only)
 refine⟨by omega,by omega,?_⟩;refine Zi (fun i δ M'=>∃ (r:List RJ) (c d:Int) (w5:Option DL.D),Dr a M M'/\M' p0=some (.ls (r.map rj))/\r.length=i/\(∀ j∈r,LJ j/\j.a<=c/\j.d<=d)/\r.Pairwise Le2/\0<=c/\c<=22/\0<=d/\d<=24/\δ=[some (.lst a),some (.int 4),some (.lst p0),some (.int c),some (.int d),w5]) (fun _ _ _ _=>trivial) ?_ ?_ ⟨[],0,0,_,(Dr.ext pk x0).trans y2,y2.keep _ _ hpa l0,rfl,nofun,.nil,by decide,by decide,by decide,by decide,rfl⟩
 ·rintro δ M3 ⟨r,c,d,w5,y3,l3,jl,hj,pw,c0,cc,d0,dd,rfl⟩
  rw[Zk] at jl;sleep 7;refine⟨_,l3,q r M3 ⟨by omega,by omega,fun j h=>(hj j h).1.ok,pw⟩ %[|5] (fun j h=>(hj j h).1) y3⟩
 ·rintro i z hz N hN δ M3 ⟨r,c,d,w5,y3,l3,jl,hj,pw,c0,cc,d0,dd,rfl⟩
  obtain⟨rfl,hi'⟩:=XB hz;sleep 8;sleep 7;refine Ys y3.pk %[|4] %[|4] fun u M4 u0 u1 y4=>?_;rw[Xg];sleep 8;obtain⟨c',hc',cc',c23⟩:∃ c':Int,(if (22:Int)<c+u then 22 else c+u)=c'/\c<=c'/\c'<=22:=by
   split
   ·exact⟨22,rfl,by omega,by omega⟩
   ·exact⟨c+u,rfl,by omega,by omega⟩
  rw[hc'];sleep 7;refine Ys y4.pk %[|4] %[|4] fun v M5 v0 v1 y5=>?_;rw[Xg];refine Ys y5.pk %[|4] %[|4] fun v2 M6 v20 v21 y6=>?_;rw[Xg];sleep 8;obtain⟨d',hd',dd',d24,cd⟩:∃ d':Int,(if 24<if d+v<c'+1+v2 then c'+1+v2 else d+v then 24 else if d+v<c'+1+v2 then c'+1+v2 else d+v)=d'/\d<=d'/\d'<=24/\c'<d':=by
   by_cases h1:d+v<c'+1+v2
   ·rw[if_pos h1]
    split
    ·exact⟨24,rfl,by omega,by omega,by omega⟩
    ·exact⟨_,rfl,by omega,by omega,by omega⟩
   ·rw[if_neg h1]
    split
    ·exact⟨24,rfl,by omega,by omega,by omega⟩
    ·exact⟨_,rfl,by omega,by omega,by omega⟩
  rw[hd'];have l6:=y6.keep _ _ hpa (y5.keep _ _ hpa (y4.keep _ _ hpa l3));sleep 7;refine⟨⟨_,l6⟩,?_⟩;refine Ys y6.pk %[|4] %[|4] fun s M7 s0 s1 y7=>?_;rw[Xg];sleep 8;intro p8 M8 e8 x8 l8;refine Ys (y7.pk.ext x8) %[|4] %[|4] fun s' M9 s0' s1' y9=>?_;sleep 8;have n8:p8≠a:=y7.pk.ne e8;have l9:=y9.keep _ _ n8 l8;obtain⟨b,hb,b1,b3⟩:∃ b:Int,L2.atI [DL.D.int 1,DL.D.int 1,DL.D.int 2,DL.D.int 3] s'=some (.int b)/\1<=b/\b<=3:=by
   obtain⟨n,rfl⟩:=Int.eq_ofNat_of_zero_le s0';have:n=0\/n=1\/n=2\/n=3:=by omega
   rcases this with rfl|rfl|rfl|rfl
   ·exact⟨1,L2.atI_nat (j:=0) rfl,by decide,by decide⟩
   ·exact⟨1,L2.atI_nat (j:=1) rfl,by decide,by decide⟩
   ·exact⟨2,L2.atI_nat (j:=2) rfl,by decide,by decide⟩
   ·exact⟨3,L2.atI_nat (j:=3) rfl,by decide,by decide⟩
  refine⟨_,_,l9,hb,?_⟩;refine⟨_,_,rfl,by omega,Ws (Nat.lt_of_lt_of_le (show b.natAbs<2 ^ 8 by omega) (ZV %[|4])),?_⟩;have sw:Sz 5 (Rat.divInt (1+s) b):=XA (n:=5) %[|5] %[|5] %[|5];have w0:(0:Rat)<Rat.divInt (1+s) b:=by
   rw[Rat.divInt_eq_div];have a1:(0:Rat)<((1+s:Int):Rat):=by exact_mod_cast (show (0:Int)<1+s by omega)
   have a2:(0:Rat)<((b:Int):Rat):=by exact_mod_cast (show (0:Int)<b by omega)
   rw[Rat.div_def];exact Rat.mul_pos a1 (Rat.inv_pos.mpr a2)
  generalize Rat.divInt (1+s) b=w at sw w0;have l7:=y9.keep _ _ hpa (x8 _ _ (y7.keep _ _ hpa l6));have lj:LJ ⟨c',d',w⟩:=⟨by
   unfold okJ;simp only[Bool.and_eq_true,decide_eq_true_eq];exact⟨⟨⟨by omega,cd⟩,d24⟩,w0⟩,sw⟩
  sleep 8;refine⟨_,l7,by rw[List.length_map];omega,?_⟩;refine hN _ _ ⟨r++[⟨c',d',w⟩],c',d',_,(y3.trans (y4.trans (y5.trans (y6.trans (y7.trans ((Dr.ext y7.pk x8).trans y9)))))).upd_new e0 hpa,?_,by simp;omega,?_,?_,by omega,c23,by omega,d24,rfl⟩
  ·rw[Yh,List.map_append];rfl
  ·intro j hj'
   rcases List.mem_append.mp hj' with h|h
   ·obtain⟨h1,h2,h3⟩:=hj j h
    exact⟨h1,by omega,by omega⟩
   ·simp at h;subst h
    exact⟨lj,Int.le_refl _,Int.le_refl _⟩
  ·exact Gg pw fun i hi=>by obtain⟨h1,h2,h3⟩:=hj i hi;exact⟨Int.le_trans h2 cc',Int.le_trans h3 dd'⟩
theorem sepC:Sep ", " 44 32:=⟨rfl,by decide,by decide +kernel⟩
theorem sepJ:Sep "; " 59 32:=⟨rfl,by decide,by decide +kernel⟩
abbrev scT (x:Str):List Str:=Txt.split x ", "
abbrev scJ (x:Str):List Str:=Txt.split x "; "
structure BadP (ps:List Str) (j:Nat):Prop where
 lt:j<ps.length
 le:j<=25
 ok:∃ r:List Rat,ps.take j=r.map Y0
 no:(∀ q,ps[j]?≠some (Y0 q))\/j=25
structure BadT (ps:List Str) (j:Nat):Prop where
 lt:j<ps.length
 le:j<=25
 ok:∃ r:List (Rat×Rat),ps.take j=r.map Ye/\∀ p∈r,p.1<=p.2
 no:(∀ p:Rat×Rat,p.1<=p.2->ps[j]?≠some (Ye p))\/j=25
structure BadJ (ps:List Str) (j:Nat):Prop where
 lt:j<ps.length
 ok:∃ r:List RJ,ps.take j=r.map Yc/\(j=0\/GoodJ r)/\∀ q,ps[j]?=some (Yc q)->¬ GoodJ (r++[q])
structure TxK (s:Str->List Str) (x:Str):Prop where
 len:x.length<=100000
 cnt:(s x).length<=90
 prt:∀ p∈s x,Asc p/\p.length<=70
noncomputable def RdR (M:Mem) (d:DL.D) (Q E:DK):Prop :=
 ∃ x,d=.str x/\TxK sp x/\(∀ r,sp x=r.map Y0->r.length<=25->∀ M',MExt M M'->Q (rw r) M')/\∀ j:Nat,BadP (sp x) j->∀ M',MExt M M'->E (.exc "NoText" (.int j)) M'
noncomputable def RdT (M:Mem) (d:DL.D) (Q E:DK) (B:List Str->Nat->Prop) (lo:Nat):Prop :=
 ∃ x,d=.str x/\TxK scT x/\(∀ r:List (Rat×Rat),scT x=r.map Ye->(∀ p∈r,p.1<=p.2)->lo<=r.length->r.length<=25->∀ M',MExt M M'->Q (tb r) M')/\∀ j:Nat,B (scT x) j->∀ M',MExt M M'->E (.exc "NoText" (.int j)) M'
noncomputable def RdJ (M:Mem) (d:DL.D) (Q E:DK):Prop :=
 ∃ x,d=.str x/\TxK scJ x/\(∀ r:List RJ,scJ x=r.map Yc->GoodJ r->∀ M',MExt M M'->Q (.tup (r.map rj)) M')/\∀ j:Nat,BadJ (scJ x) j->∀ M',MExt M M'->E (.exc "NoText" (.int j)) M'
noncomputable def S_26:DSp:=fun ds M Q E=>∃ d,ds=[d]/\Gd M d/\∀ M',MExt M M'->Q (.bl (YK 1 25 d)) M'
noncomputable def C_26:CSs:=%[.ret (.call "are_numbers" S_16 %[.var 0,.int 1,.glo "MOST_PLACES" ZX|0])|0]
theorem vc_26:∀ ds M R E,S_26 ds M R E->rSs C_26 (ends R E) (Y1 1 ds) M:=by
 rintro ds M R E ⟨d,rfl,g,q⟩;unfold C_26;sleep 1;exact⟨d,1,25,rfl,by decide,g,q⟩
noncomputable def S_29:DSp:=fun ds M Q E=>∃ (d s f g:DL.D),ds=[d,s,f,g]/\((s=.str " "/\f=.fn "read_number"/\g=.fn "is_written_row"/\RdR M d Q E)\/(s=.str ", "/\f=.fn "read_place"/\g=.fn "begins_tube"/\RdT M d Q E BadT 0)\/(s=.str "; "/\f=.fn "read_job"/\g=.fn "is_jobs"/\RdJ M d Q E))
noncomputable def C_29:CSs:=%[.ife (.not (.bi .isinstance %[.var 0,.ty .str|0])) %[.rsi "NoText" %[.non|0]|0] .nil,.set 4 (.lst .nil),.fr (.tup %[.name 5,.name 6|0]) (.enum %[.split (.var 0) (.var 1)|0]) %[.trr %[.expr (.app 4 (.callv 2 [("read_number",S_21),("read_place",S_22),("read_job",S_25)] %[.var 6|0]))|0] "NoText" "NoText" 5,.ife (.not (.callv 3 [("is_written_row",S_26),("begins_tube",S_23),("is_jobs",S_28)] %[.bi .tuple %[.var 4|0]|0])) %[.rsi "NoText" %[.var 5|0]|0] .nil|0],.ret (.bi .tuple %[.var 4|0])|0]
theorem Ga:∀ d M R E,RdR M d R E->rSs C_29 (ends R E) (Y1 7 [d,.str " ",.fn "read_number",.fn "is_written_row"]) M:=by
 rintro d M R E ⟨x,rfl,tx,good,bad⟩;unfold C_29;sleep 7;refine Aq ?_;simp;sleep 7;intro p M1 e1 x1 l1
 (try dsimp only);rw[Y2];simp[0,vAt,vHd,Y4,and_assoc,sizeLine_eq,Y5,Yj,Ya,dFld,Ym,Yn,Yl,dFor,Vp,Vh,Zo]
 refine⟨by decide,tx.len,by have:=tx.cnt;show (sp x).length<=_;omega,fun p1 M2 e2 x2 l2=>?_⟩;refine⟨_,l2,?_⟩;have np:p1≠p:=fun z=>by rw[z,l1] at e2;cases e2
 refine Zi (fun i δ M'=>∃ (r:List Rat) (w5 w6:Option DL.D),r.length=i/\i<=25/\(sp x).take i=r.map Y0/\MExt M M'/\M' p1=some (.ls ((sp x).map .str))/\M' p=some (.ls (r.map nm))/\δ=[some (.str x),some (.str " "),some (.fn "read_number"),some (.fn "is_written_row"),some (.lst p),w5,w6]) (fun _ _ _ ⟨_,_,_,_,_,_,_,h,_⟩=>h) ?_ ?_ ⟨[],none,none,rfl,by decide,by simp,x1.trans x2,l2,x2 _ _ l1,rfl⟩
 ·rintro δ M' ⟨r,w5,w6,rl,r25,rt,xm,m1,m2,rfl⟩
  sleep 7;have el:(enD ((sp x).map D.str)).length=(sp x).length:=by unfold enD;simp
  rw[el] at r25 rl;refine⟨_,m2,good r ?_ %[|5] M' xm⟩;rw[el,List.take_length] at rt;exact rt
 ·rintro i y hy N hN δ M' ⟨r,w5,w6,rl,r25,rt,xm,m1,m2,rfl⟩
  obtain⟨hi,rfl⟩:∃ h:i<(sp x).length,y=.tup [.int (i:Int),.str (sp x)[i]]:=by
   obtain⟨h,e⟩:=List.getElem?_eq_some_iff.mp hy;have h':i<(sp x).length:=by simpa[enD] using h
   exact⟨h',by rw[<- e];simp[enD]⟩
  have pt:=tx.prt _ (List.getElem_mem hi);obtain⟨part,hpart⟩:∃ part,part=(sp x)[i]:=⟨_,rfl⟩;rw[<- hpart] at pt ⊢;sleep 8;refine YY fun J hJ=>?_;have tail:∀ q M3,part=Y0 q->MExt M M3->M3 p1=some (.ls ((sp x).map .str))->M3 p=some (.ls ((r++[q]).map nm))->J [some (.str x),some (.str " "),some (.fn "read_number"),some (.fn "is_written_row"),some (.lst p),some (.int i),some (.str part)] M3:=by
   intro q M3 eq x3 l3 l4;refine hJ _ _ ?_;have tk1:(sp x).take (i+1)=(r++[q]).map Y0:=by
    rw[List.take_add_one,rt,List.getElem?_eq_getElem hi,<- hpart,eq];simp
   have sq:Sz 240 q:=Z5 (by rw[<- eq];exact pt.2);have szs:∀ z∈r++[q],Sz 240 z:=fun z hz=>by
    have hm:Y0 z∈(sp x).take (i+1):=by rw[tk1];exact List.mem_map_of_mem hz
    exact Z5 (tx.prt _ (List.mem_of_mem_take hm)).2
   sleep 7;refine .inl ⟨_,l4,_,rfl,IG szs %[|4],fun M4 x4=>?_⟩;dsimp only;have rl':(r++[q]).length=i+1:=by simp[rl]
   by_cases hc:i+1<=25
   ·rw[show YK 1 25 (.tup ((r++[q]).map nm))=true from A4 %[|5] %[|5],if_pos rfl]
    exact hN _ _ ⟨r++[q],_,_,rl',hc,tk1,x3.trans x4,x4 _ _ l3,x4 _ _ l4,rfl⟩
   ·rw[show YK 1 25 (.tup ((r++[q]).map nm))=false by (unfold YK;dsimp only;rw[List.length_map,rl'];simp;omega),if_neg %[|4]]
    sleep 7
    (try simp only[YR])
    sleep 8;exact bad i ⟨hi,r25,⟨r,rt⟩,.inr %[|5]⟩ M4 (x3.trans x4)
  simp only[rS,dTrr];rw[Y2];simp[0,vAt,vHd,Y4,and_assoc,sizeLine_eq,Y5,Yj,Ya,dFld,Ym,Yn,Yl];refine⟨⟨_,m2⟩,.inl ⟨_,rfl,.inl ⟨part,rfl,pt.1,pt.2,⟨fun q e M3 x3=>?_,fun no M3 x3=>⟨"NoText",rfl,.inl rfl,bad i ⟨hi,r25,⟨r,rt⟩,.inl fun q e=>no q ?_⟩ M3 (xm.trans x3)⟩⟩⟩⟩⟩
  ·refine⟨_,x3 _ _ m2,by rw[List.length_map];omega,tail q _ e (MExt.upd_new e1 (xm.trans x3)) (by rw[YO np];exact x3 _ _ m1) (by rw[Yh];simp)⟩
  ·rw[List.getElem?_eq_getElem hi,<- hpart] at e
   exact Option.some.inj e
theorem DY:∀ d M R E,RdT M d R E BadT 0->rSs C_29 (ends R E) (Y1 7 [d,.str ", ",.fn "read_place",.fn "begins_tube"]) M:=by
 rintro d M R E ⟨x,rfl,tx,good,bad⟩;unfold C_29;sleep 7;refine Aq ?_;simp;sleep 7;intro p M1 e1 x1 l1
 (try dsimp only);rw[Y2];simp[0,vAt,vHd,Y4,and_assoc,sizeLine_eq,Y5,Yj,Ya,dFld,Ym,Yn,Yl,dFor,Vp,Vh,Zo]
 refine⟨by decide,tx.len,by have:=tx.cnt;show (scT x).length<=_;omega,fun p1 M2 e2 x2 l2=>?_⟩;refine⟨_,l2,?_⟩;have np:p1≠p:=fun z=>by rw[z,l1] at e2;cases e2
 refine Zi (fun i δ M'=>∃ (r:List (Rat×Rat)) (w5 w6:Option DL.D),r.length=i/\i<=25/\(scT x).take i=r.map Ye/\(∀ p∈r,p.1<=p.2)/\MExt M M'/\M' p1=some (.ls ((scT x).map .str))/\M' p=some (.ls (r.map pl))/\δ=[some (.str x),some (.str ", "),some (.fn "read_place"),some (.fn "begins_tube"),some (.lst p),w5,w6]) (fun _ _ _ ⟨_,_,_,_,_,_,_,_,h,_⟩=>h) ?_ ?_ ⟨[],none,none,rfl,by decide,by simp,nofun,x1.trans x2,l2,x2 _ _ l1,rfl⟩
 ·rintro δ M' ⟨r,w5,w6,rl,r25,rt,rk,xm,m1,m2,rfl⟩
  sleep 7;have el:(enD ((scT x).map D.str)).length=(scT x).length:=by unfold enD;simp
  rw[el] at r25 rl;refine⟨_,m2,good r ?_ rk (Nat.zero_le _) %[|5] M' xm⟩;rw[el,List.take_length] at rt;exact rt
 ·rintro i y hy N hN δ M' ⟨r,w5,w6,rl,r25,rt,rk,xm,m1,m2,rfl⟩
  obtain⟨hi,rfl⟩:∃ h:i<(scT x).length,y=.tup [.int (i:Int),.str (scT x)[i]]:=by
   obtain⟨h,e⟩:=List.getElem?_eq_some_iff.mp hy;have h':i<(scT x).length:=by simpa[enD] using h
   exact⟨h',by rw[<- e];simp[enD]⟩
  have pt:=tx.prt _ (List.getElem_mem hi);obtain⟨part,hpart⟩:∃ part,part=(scT x)[i]:=⟨_,rfl⟩;rw[<- hpart] at pt ⊢;sleep 8;refine YY fun J hJ=>?_;have tail:∀ q M3,part=Ye q->MExt M M3->M3 p1=some (.ls ((scT x).map .str))->M3 p=some (.ls ((r++[q]).map pl))->J [some (.str x),some (.str ", "),some (.fn "read_place"),some (.fn "begins_tube"),some (.lst p),some (.int i),some (.str part)] M3:=by
   intro q M3 eq x3 l3 l4;refine hJ _ _ ?_;have tk1:(scT x).take (i+1)=(r++[q]).map Ye:=by
    rw[List.take_add_one,rt,List.getElem?_eq_getElem hi,<- hpart,eq];simp
   have szs:∀ z∈r++[q],Sz 240 z.1/\Sz 240 z.2:=fun z hz=>by
    have hm:Ye z∈(scT x).take (i+1):=by rw[tk1];exact List.mem_map_of_mem hz
    exact W6 (tx.prt _ (List.mem_of_mem_take hm)).2
   have rl':(r++[q]).length=i+1:=by simp[rl]
   sleep 7;refine⟨_,.inr (.inl rfl),_,l4,r++[q],rfl,by omega,by omega,szs,fun M4 x4=>?_⟩;dsimp only;by_cases hc:i+1<=25/\q.1<=q.2
   ·have ok:∀ p∈r++[q],p.1<=p.2:=fun p hp=>by
     rcases List.mem_append.mp hp with hp|hp
     ·exact rk p hp
     ·obtain rfl:p=q:=by simpa using hp
      exact hc.2
    rw[if_pos (by rw[decide_eq_true (show (r++[q]).length<=25 by omega),Bool.true_and,List.all_eq_true];exact fun p hp=>decide_eq_true (ok p hp))];exact hN _ _ ⟨r++[q],_,_,rl',hc.1,tk1,ok,x3.trans x4,x4 _ _ l3,x4 _ _ l4,rfl⟩
   ·rw[if_neg (by
     intro z;rw[Bool.and_eq_true,List.all_eq_true] at z;exact hc ⟨by have:=of_decide_eq_true z.1;omega,of_decide_eq_true (z.2 q (by simp))⟩)]
    sleep 7
    (try simp only[YR])
    sleep 8;refine bad i ⟨hi,r25,⟨r,rt,rk⟩,?_⟩ M4 (x3.trans x4);by_cases h25:i=25
    ·exact .inr h25
    ·refine .inl fun p' hp' e=>?_
     rw[List.getElem?_eq_getElem hi,<- hpart,eq] at e;have e2:=Vc (Option.some.inj e) (by rw[<- eq];exact pt.2);rw[<- e2] at hp';exact hc ⟨by omega,hp'⟩
  simp only[rS,dTrr];rw[Y2];simp[0,vAt,vHd,Y4,and_assoc,sizeLine_eq,Y5,Yj,Ya,dFld,Ym,Yn,Yl];refine⟨⟨_,m2⟩,_,.inr (.inl rfl),part,rfl,pt.1,pt.2,fun q e M3 x3=>?_,fun no M3 x3=>⟨"NoText",rfl,.inl rfl,bad i ⟨hi,r25,⟨r,rt,rk⟩,.inl fun q _ e=>no q ?_⟩ M3 (xm.trans x3)⟩⟩
  ·refine⟨_,x3 _ _ m2,by rw[List.length_map];omega,tail q _ e (MExt.upd_new e1 (xm.trans x3)) (by rw[YO np];exact x3 _ _ m1) (by rw[Yh];simp)⟩
  ·rw[List.getElem?_eq_getElem hi,<- hpart] at e
   exact Option.some.inj e
theorem DZ:∀ d M R E,RdJ M d R E->rSs C_29 (ends R E) (Y1 7 [d,.str "; ",.fn "read_job",.fn "is_jobs"]) M:=by
 rintro d M R E ⟨x,rfl,tx,good,bad⟩;unfold C_29;sleep 7;refine Aq ?_;simp;sleep 7;intro p M1 e1 x1 l1
 (try dsimp only);rw[Y2];simp[0,vAt,vHd,Y4,and_assoc,sizeLine_eq,Y5,Yj,Ya,dFld,Ym,Yn,Yl,dFor,Vp,Vh,Zo]
 refine⟨by decide,tx.len,by have:=tx.cnt;show (scJ x).length<=_;omega,fun p1 M2 e2 x2 l2=>?_⟩;refine⟨_,l2,?_⟩;have np:p1≠p:=fun z=>by rw[z,l1] at e2;cases e2
 refine Zi (fun i δ M'=>∃ (r:List RJ) (w5 w6:Option DL.D),r.length=i/\i<=90/\(scJ x).take i=r.map Yc/\(i=0\/GoodJ r)/\MExt M M'/\M' p1=some (.ls ((scJ x).map .str))/\M' p=some (.ls (r.map rj))/\δ=[some (.str x),some (.str "; "),some (.fn "read_job"),some (.fn "is_jobs"),some (.lst p),w5,w6]) (fun _ _ _ ⟨_,_,_,_,_,_,_,_,h,_⟩=>h) ?_ ?_ ⟨[],none,none,rfl,by decide,by simp,.inl rfl,x1.trans x2,l2,x2 _ _ l1,rfl⟩
 ·rintro δ M' ⟨r,w5,w6,rl,r25,rt,rk,xm,m1,m2,rfl⟩
  sleep 7;have el:(enD ((scJ x).map D.str)).length=(scJ x).length:=by unfold enD;simp
  rw[el] at r25 rl rk;have ne:=W3 sepJ x;have n0:(scJ x).length≠0:=fun z=>ne (List.length_eq_zero_iff.mp z);refine⟨_,m2,good r ?_ (rk.resolve_left n0) M' xm⟩;rw[el,List.take_length] at rt;exact rt
 ·rintro i y hy N hN δ M' ⟨r,w5,w6,rl,r25,rt,rk,xm,m1,m2,rfl⟩
  obtain⟨hi,rfl⟩:∃ h:i<(scJ x).length,y=.tup [.int (i:Int),.str (scJ x)[i]]:=by
   obtain⟨h,e⟩:=List.getElem?_eq_some_iff.mp hy;have h':i<(scJ x).length:=by simpa[enD] using h
   exact⟨h',by rw[<- e];simp[enD]⟩
  have cn:=tx.cnt;have pt:=tx.prt _ (List.getElem_mem hi);obtain⟨part,hpart⟩:∃ part,part=(scJ x)[i]:=⟨_,rfl⟩;rw[<- hpart] at pt ⊢;sleep 8;refine YY fun J hJ=>?_;have tail:∀ q M3,part=Yc q->MExt M M3->M3 p1=some (.ls ((scJ x).map .str))->M3 p=some (.ls ((r++[q]).map rj))->J [some (.str x),some (.str "; "),some (.fn "read_job"),some (.fn "is_jobs"),some (.lst p),some (.int i),some (.str part)] M3:=by
   intro q M3 eq x3 l3 l4;refine hJ _ _ ?_;have tk1:(scJ x).take (i+1)=(r++[q]).map Yc:=by
    rw[List.take_add_one,rt,List.getElem?_eq_getElem hi,<- hpart,eq];simp
   have szs:∀ z∈r++[q],SzJ z:=fun z hz=>by
    have hm:Yc z∈(scJ x).take (i+1):=by rw[tk1];exact List.mem_map_of_mem hz
    exact BJ (tx.prt _ (List.mem_of_mem_take hm)).2
   have rl':(r++[q]).length=i+1:=by simp[rl]
   sleep 7;refine⟨_,.inr (.inr rfl),_,l4,r++[q],rfl,by omega,szs,fun g M4 x4=>?_,fun g M4 x4=>?_⟩
   ·dsimp only
    rw[if_pos rfl];exact hN _ _ ⟨r++[q],_,_,rl',by omega,tk1,.inr g,x3.trans x4,x4 _ _ l3,x4 _ _ l4,rfl⟩
   ·dsimp only
    rw[if_neg %[|4]];sleep 7
    (try simp only[YR])
    sleep 8;refine bad i ⟨hi,r,rt,rk,fun q' e=>?_⟩ M4 (x3.trans x4);rw[List.getElem?_eq_getElem hi,<- hpart,eq] at e;have e2:=Vf (Option.some.inj e) (by rw[<- eq];exact pt.2);rw[<- e2];exact g
  simp only[rS,dTrr];rw[Y2];simp[0,vAt,vHd,Y4,and_assoc,sizeLine_eq,Y5,Yj,Ya,dFld,Ym,Yn,Yl];refine⟨⟨_,m2⟩,_,.inr (.inr rfl),part,rfl,pt.1,pt.2,fun q e M3 x3=>?_,fun no M3 x3=>⟨"NoText",rfl,.inl rfl,bad i ⟨hi,r,rt,rk,fun q e=>absurd ?_ (no q)⟩ M3 (xm.trans x3)⟩⟩
  ·refine⟨_,x3 _ _ m2,by rw[List.length_map];omega,tail q _ e (MExt.upd_new e1 (xm.trans x3)) (by rw[YO np];exact x3 _ _ m1) (by rw[Yh];simp)⟩
  ·rw[List.getElem?_eq_getElem hi,<- hpart] at e
   exact Option.some.inj e
theorem vc_29:∀ ds M R E,S_29 ds M R E->rSs C_29 (ends R E) (Y1 7 ds) M:=by
 rintro ds M R E ⟨d,s,f,g,rfl,⟨rfl,rfl,rfl,h⟩|⟨rfl,rfl,rfl,h⟩|⟨rfl,rfl,rfl,h⟩⟩
 ·exact Ga d M R E h
 ·exact DY d M R E h
 ·exact DZ d M R E h
abbrev jc (l:List Str):Str:=Txt.join ", " l
abbrev jj (l:List Str):Str:=Txt.join "; " l
noncomputable def BadU (ps:List Str) (j:Nat):Prop:=BadT ps j\/(j=1/\∃ p:Rat×Rat,ps=[Ye p]/\p.1<=p.2)
noncomputable def S_32:DSp:=fun ds M Q E=>∃ d,ds=[d]/\RdR M d Q E
noncomputable def C_32:CSs:=%[.ret (.call "read_parts" S_29 %[.var 0,.str " ",.glo "read_number" (.fn "read_number"),.glo "is_written_row" (.fn "is_written_row")|0])|0]
theorem vc_32:∀ ds M R E,S_32 ds M R E->rSs C_32 (ends R E) (Y1 1 ds) M:=by
 rintro ds M R E ⟨d,rfl,h⟩;unfold C_32;sleep 7;exact⟨d,_,_,_,rfl,.inl ⟨rfl,rfl,rfl,h⟩⟩
noncomputable def S_33:DSp:=fun ds M Q E=>∃ d,ds=[d]/\RdJ M d Q E
noncomputable def C_33:CSs:=%[.ret (.call "read_parts" S_29 %[.var 0,.str "; ",.glo "read_job" (.fn "read_job"),.glo "is_jobs" (.fn "is_jobs")|0])|0]
theorem vc_33:∀ ds M R E,S_33 ds M R E->rSs C_33 (ends R E) (Y1 1 ds) M:=by
 rintro ds M R E ⟨d,rfl,h⟩;unfold C_33;sleep 7;exact⟨d,_,_,_,rfl,.inr (.inr ⟨rfl,rfl,rfl,h⟩)⟩
noncomputable def S_30:DSp:=fun ds M Q E=>∃ d,ds=[d]/\RdT M d Q E BadU 2
noncomputable def C_30:CSs:=%[.set 1 (.call "read_parts" S_29 %[.var 0,.str ", ",.glo "read_place" (.fn "read_place"),.glo "begins_tube" (.fn "begins_tube")|0]),.ife (.not (.call "is_tube" S_18 %[.var 1|0])) %[.rsi "NoText" %[.bi .len %[.var 1|0]|0]|0] .nil,.ret (.var 1)|0]
theorem vc_30:∀ ds M R E,S_30 ds M R E->rSs C_30 (ends R E) (Y1 2 ds) M:=by
 rintro ds M R E ⟨d,rfl,h⟩;unfold C_30;sleep 7;refine⟨d,_,_,_,rfl,.inr (.inl ⟨rfl,rfl,rfl,?_⟩)⟩;obtain⟨x,rfl,tx,good,bad⟩:=h
 ·refine⟨x,rfl,tx,fun r hr ok h0 h25 M1 x1=>?_,fun j bj M1 x1=>bad j (.inl bj) M1 x1⟩
  have szs:∀ z∈r,Sz 240 z.1/\Sz 240 z.2:=fun z hz=>W6 (tx.prt _ (by rw[hr];exact List.mem_map_of_mem hz)).2;sleep 7;refine⟨_,rfl,JV szs,fun M2 x2=>?_⟩;dsimp only;rw[XZ,decide_eq_true h25,Bool.and_true,List.all_eq_true.mpr fun p hp=>decide_eq_true (ok p hp),Bool.and_true];by_cases h2:2<=r.length
  ·rw[if_pos (decide_eq_true h2)]
   sleep 7;exact good r hr ok h2 h25 M2 (x1.trans x2)
  ·rw[if_neg (by simpa using h2)]
   sleep 7
   (try simp only[YR])
   sleep 8;have r1:r.length=1:=by
    have:=W3 sepC x;rw[show Txt.split x ", "=r.map Ye from hr] at this;cases r with
    | nil=>exact absurd rfl this
    | cons a r=>simp at h2 ⊢;omega
   obtain⟨p,rfl⟩:∃ p,r=[p]:=by
    match r,r1 with
    | [p],_=>exact⟨p,rfl⟩
   exact bad 1 (.inr ⟨rfl,p,hr,ok p (by simp)⟩) M2 (x1.trans x2)
noncomputable def S_36:DSp:=fun ds M Q E=>∃ (t:List (Rat×Rat)),ds=[tb t]/\(∀ p∈t,(Ye p).length<=70)/\t.length<=100/\∀ M',MExt M M'->Q (.str (jc (t.map Ye))) M'
theorem jok2 {L:List Str} (hl:L.length<=1000) (h:∀ p∈L,p.length<=70):JoinOk ", " L=true:=by
 refine PyProof.Rows.joinOk_of ?_;have:∀ l:List Str,(∀ q∈l,q.length<=70)->(l.map (·.length)).sum<=l.length*70:=by
  intro l
  induction l with
  | nil=>intro _;simp
  | cons a l ih =>
   intro h;have h1:=ih fun q hq=>h q (List.mem_cons_of_mem _ hq);have:=h a List.mem_cons_self;simp only[List.map_cons,List.sum_cons,List.length_cons,Nat.succ_mul];omega
 have h1:=this L h;have:(", ":Str).length=2:=rfl;rw[this];omega
noncomputable def C_36:CSs:=%[.ret (.join (.str ", ") (.comp ["tube","place"] 1 (.name 1) (.seq (.var 0)) (.call "show_place" S_35 %[.var 1|0])))|0]
theorem vc_36:∀ ds M R E,S_36 ds M R E->rSs C_36 (ends R E) (Y1 1 ds) M:=by
 rintro ds M R E ⟨t,rfl,st,hl,q⟩;unfold C_36
 (try dsimp only);rw[Y2];simp[0,vAt,vHd,Y4,and_assoc,sizeLine_eq,Y5,Yj,Ya,dFld,Ym,Yn,Yl,WL]
 refine Zg t pl (fun q=>.str (Ye q)) (fun R' r'=>r' _ fun _ _=>trivial) %[|5] ?_ ?_
 ·intro q' hq' l M' R' hl' ee r'
  obtain⟨z,rfl⟩:=len1 hl';sleep 8;have:=W6 (st q' hq');exact⟨q',rfl,this.1,this.2,r' [_] M' rfl (.refl _)⟩
 intro p M1 e1 x1 l1;refine⟨p,rfl,t.map Ye,by rw[l1,List.map_map];rfl,jok2 (by rw[List.length_map];omega) (fun x hx=>?_),q M1 x1⟩;obtain⟨p,hp,rfl⟩:=List.mem_map.mp hx;exact st p hp
noncomputable def S_7:DSp:=fun ds M Q E=>∃ p:Rat×Rat,ds=[pl p]/\Sz 240 p.1/\Sz 240 p.2/\Q (.str (Ye p)) M
noncomputable def C_7:CSs:=%[.ife (.cmp .Eq (.ix (.var 0) (.int 0)) (.ix (.var 0) (.int 1))) %[.ret (.call "_law_number_text" S_3 %[.ix (.var 0) (.int 0)|0])|0] .nil,.ret (.bin .Add (.bin .Add (.call "_law_number_text" S_3 %[.ix (.var 0) (.int 0)|0]) (.str "..")) (.call "_law_number_text" S_3 %[.ix (.var 0) (.int 1)|0]))|0]
theorem vc_7:∀ ds M R E,S_7 ds M R E->rSs C_7 (ends R E) (Y1 1 ds) M:=by
 rintro ds M R E ⟨p,rfl,s1,s2,h⟩;unfold C_7;have lT:∀ q:Rat,Sz 240 q->(Y0 q).length<=250:=fun q sq=>by
  obtain⟨l1,l2,_⟩:=X5 sq;unfold Y0;split
  ·omega
  ·simp only[strLen_append];show (ts q.num).length+1+(ts (q.den:Int)).length<=_;omega
 have l1:=lT _ s1;have l2:=lT _ s2;have d2':("..":Str).length=2:=rfl;have sl:sizeLine=16777216:=sizeLine_eq;sleep 7;refine D2 false ?_;by_cases hd:p.1=p.2
 ·refine .inr ⟨by simp[hd],?_⟩
  sleep 7;rw[YG hd] at h;exact⟨p.1,rfl,s1,h⟩
 ·refine .inl ⟨by simp[hd],?_⟩
  sleep 7;rw[YM hd] at h;refine⟨p.1,rfl,s1,?_⟩;refine⟨by rw[sl];show (Y0 p.1).length+("..":Str).length<=_;omega,p.2,rfl,s2,?_⟩;refine⟨by rw[sl];show (Y0 p.1++("..":Str)).length+(Y0 p.2).length<=_;simp only[strLen_append];omega,h⟩
noncomputable def S_44:DSp:=fun ds M Q E=>∃ r:List RJ,ds=[.tup (r.map rj)]/\(∀ j∈r,ShJ j/\(Yc j).length<=70)/\r.length<=12/\∀ M',MExt M M'->Q (.str (jj (r.map Yc))) M'
theorem jok3 {L:List Str} (hl:L.length<=1000) (h:∀ p∈L,p.length<=70):JoinOk "; " L=true:=by
 refine PyProof.Rows.joinOk_of ?_;have:∀ l:List Str,(∀ q∈l,q.length<=70)->(l.map (·.length)).sum<=l.length*70:=by
  intro l
  induction l with
  | nil=>intro _;simp
  | cons a l ih =>
   intro h;have h1:=ih fun q hq=>h q (List.mem_cons_of_mem _ hq);have:=h a List.mem_cons_self;simp only[List.map_cons,List.sum_cons,List.length_cons,Nat.succ_mul];omega
 have h1:=this L h;have:("; ":Str).length=2:=rfl;rw[this];omega
noncomputable def C_44:CSs:=%[.ret (.join (.str "; ") (.comp ["jobs","job"] 1 (.name 1) (.seq (.var 0)) (.call "show_job" S_43 %[.var 1|0])))|0]
theorem vc_44:∀ ds M R E,S_44 ds M R E->rSs C_44 (ends R E) (Y1 1 ds) M:=by
 rintro ds M R E ⟨r,rfl,st,hl,q⟩;unfold C_44
 (try dsimp only);rw[Y2];simp[0,vAt,vHd,Y4,and_assoc,sizeLine_eq,Y5,Yj,Ya,dFld,Ym,Yn,Yl,WL]
 refine Zg r rj (fun q=>.str (Yc q)) (fun R' r'=>r' _ fun _ _=>trivial) %[|5] ?_ ?_
 ·intro q' hq' l M' R' hl' ee r'
  obtain⟨z,rfl⟩:=len1 hl';sleep 8;exact⟨q',rfl,(st q' hq').1,r' [_] M' rfl (.refl _)⟩
 intro p M1 e1 x1 l1;refine⟨p,rfl,r.map Yc,by rw[l1,List.map_map];rfl,jok3 (by rw[List.length_map];omega) (fun x hx=>?_),q M1 x1⟩;obtain⟨p,hp,rfl⟩:=List.mem_map.mp hx;exact (st p hp).2
noncomputable def S_31:DSp:=fun ds M Q E=>∃ r,ds=[rw r]/\(∀ q∈r,Sz 240 q)/\r.length<=100/\∀ M',MExt M M'->Q (.str (jn (r.map Y0))) M'
noncomputable def C_31:CSs:=%[.ret (.join (.str " ") (.comp ["row","one"] 1 (.name 1) (.seq (.var 0)) (.call "show_number" S_19 %[.var 1|0])))|0]
theorem vc_31:∀ ds M R E,S_31 ds M R E->rSs C_31 (ends R E) (Y1 1 ds) M:=by
 rintro ds M R E ⟨r,rfl,sr,hl,q⟩;unfold C_31
 (try dsimp only);rw[Y2];simp[0,vAt,vHd,Y4,and_assoc,sizeLine_eq,Y5,Yj,Ya,dFld,Ym,Yn,Yl,WL]
 refine Zg r nm (fun q=>.str (Y0 q)) (fun R' r'=>r' _ fun _ _=>trivial) %[|5] ?_ ?_
 ·intro q' hq' l M' R' hl' ee r'
  obtain⟨z,rfl⟩:=len1 hl';sleep 8;exact⟨q',rfl,sr q' hq',r' [_] M' rfl (.refl _)⟩
 intro p M1 e1 x1 l1;refine⟨p,rfl,r.map Y0,by rw[l1,List.map_map];rfl,PyProof.Rows.joinOk_of ?_,q M1 x1⟩;have:∀ l:List Rat,(∀ q∈l,Sz 240 q)->((l.map Y0).map (·.length)).sum<=l.length*240:=by
  intro l
  induction l with
  | nil=>intro _;simp
  | cons a l ih =>
   intro h;have h1:=ih fun q hq=>h q (List.mem_cons_of_mem _ hq);obtain⟨l1,l2,_⟩:=X5 (h a List.mem_cons_self);have:(Y0 a).length<=240:=by
    unfold Y0;split
    ·omega
    ·simp only[strLen_append];show (ts a.num).length+1+(ts (a.den:Int)).length<=_;omega
   simp only[List.map_cons,List.sum_cons,List.length_cons,Nat.succ_mul];omega
 have h1:=this r sr;have:(" ":Str).length=1:=rfl;rw[List.length_map,this];omega
noncomputable def X2 (d:DL.D):DL.D:=.tup [.str "read",d]
noncomputable def ZU (j:Nat):DL.D:=.tup [.str "none",.int j]
inductive TellT:Int->Str->DL.D->Prop
 | row {x:Str} {r:List Rat}:sp x=r.map Y0->r.length<=25->TellT 0 x (X2 (rw r))
 | rowN {x:Str} {j:Nat}:BadP (sp x) j->TellT 0 x (ZU j)
 | tub {x:Str} {r:List (Rat×Rat)}:scT x=r.map Ye->(∀ p∈r,p.1<=p.2)->2<=r.length->r.length<=25->TellT 1 x (X2 (tb r))
 | tubN {x:Str} {j:Nat}:BadU (scT x) j->TellT 1 x (ZU j)
 | job {x:Str} {r:List RJ}:scJ x=r.map Yc->GoodJ r->TellT 2 x (X2 (.tup (r.map rj)))
 | jobN {x:Str} {j:Nat}:BadJ (scJ x) j->TellT 2 x (ZU j)
structure TxA (x:Str):Prop where
 r:TxK sp x
 t:TxK scT x
 j:TxK scJ x
theorem txA {x:Str} (a:Asc x) (h:x.length<=70):TxA x:=by
 have key:∀ s:Str,1<=s.length->(Txt.split x s).length<=90/\∀ p∈Txt.split x s,Asc p/\p.length<=70:=fun s hs=>by
  have few:=Wb hs (Txt.split x s);have e:Txt.join s (Txt.split x s)=x:=by rw[show Txt.join s (Txt.split x s)=Str.join s (Txt.split x s) from StrLaws.glued_eq_join _ _];exact StrLaws.join_split x s
  rw[e] at few;refine⟨by omega,fun y hy=>?_⟩;obtain⟨h1,h2⟩:=XH (s:=s) hy;rw[e] at h1 h2;exact⟨fun z hz=>a z (h2 z hz),by omega⟩
 exact⟨⟨by omega,(key " " %[|4]).1,(key " " %[|4]).2⟩,⟨by omega,(key ", " %[|4]).1,(key ", " %[|4]).2⟩,⟨by omega,(key "; " %[|4]).1,(key "; " %[|4]).2⟩⟩
noncomputable def S_42:DSp:=fun ds M Q E=>∃ (k:Int) (x:Str),ds=[.int k,.str x]/\0<=k/\k<3/\TxA x/\∀ d,TellT k x d->∀ M',MExt M M'->Q d M'
noncomputable def C_42:CSs:=%[.set 2 (.lst .nil),.set 3 (.split (.var 1) (.ix (.lst %[.str " ",.str ", ",.str "; "|0]) (.var 0))),.fr (.name 4) (.rng %[.bi .len %[.var 3|0]|0]) %[.ife (.cmp .Eq (.var 0) (.int 2)) %[.set 5 (.call "_law_job_of" S_41 %[.ix (.var 3) (.var 4),.var 2|0])|0] %[.ife (.cmp .Eq (.var 0) (.int 1)) %[.set 5 (.call "_law_place_of" S_40 %[.ix (.var 3) (.var 4)|0])|0] %[.set 5 (.call "_law_number_of" S_38 %[.ix (.var 3) (.var 4)|0])|0]|0],.ife (.or (.cmp .Is (.var 5) .non) (.one (.cmp .Gt (.var 4) (.int 24)))) %[.ret (.tup %[.str "none",.var 4|0])|0] .nil,.expr (.app 2 (.var 5))|0],.ife (.and (.cmp .Eq (.var 0) (.int 1)) (.one (.cmp .Eq (.bi .len %[.var 2|0]) (.int 1)))) %[.ret (.tup %[.str "none",.int 1|0])|0] .nil,.ret (.tup %[.str "read",.bi .tuple %[.var 2|0]|0])|0]
theorem ES:∀ x M R E,TxK sp x->(∀ r,sp x=r.map Y0->r.length<=25->∀ M',MExt M M'->R (X2 (rw r)) M')->(∀ j,BadP (sp x) j->∀ M',MExt M M'->R (ZU j) M')->rSs C_42 (ends R E) (Y1 6 [.int 0,.str x]) M:=by
 rintro x M R E tx good bad;unfold C_42;sleep 7;intro p M1 e1 x1 l1
 (try dsimp only);rw[Y2];simp[0,vAt,vHd,Y4,and_assoc,sizeLine_eq,Y5,Yj,Ya,dFld,Ym,Yn,Yl,Zo]
 intro p0 M0 e0 x0 l0;refine⟨_,_,l0,Yg _ _,?_⟩;dsimp only;refine⟨_,rfl,by decide,tx.len,by have:=tx.cnt;show (sp x).length<=_;omega,fun p1 M2 e2 x2 l2=>?_⟩;have cn:=tx.cnt;have np:p1≠p:=fun z=>by rw[z,x0 _ _ l1] at e2;cases e2
 have lp:M2 p=some (.ls []):=x2 _ _ (x0 _ _ l1);sleep 9;refine⟨_,l2,?_⟩;refine⟨by rw[List.length_map];show ((sp x).length:Int) < _;omega,?_⟩;refine Zi (fun i δ M'=>∃ (r:List Rat) (w4 w5:Option DL.D),r.length=i/\i<=25/\(sp x).take i=r.map Y0/\MExt M M'/\M' p1=some (.ls ((sp x).map .str))/\M' p=some (.ls (r.map nm))/\δ=[some (.int 0),some (.str x),some (.lst p),some (.lst p1),w4,w5]) (fun _ _ _ _=>trivial) ?_ ?_ ⟨[],none,none,rfl,by decide,by simp,x1.trans (x0.trans x2),l2,lp,rfl⟩
 ·rintro δ M' ⟨r,w4,w5,rl,r25,rt,xm,m1,m2,rfl⟩
  rw[Zk,List.length_map] at rl r25 rt;rw[show Txt.split x (Str.ofString " ")=sp x from rfl] at rl r25 rt;rw[List.take_length] at rt;sleep 7;refine Yk false ?_;refine .inl ⟨by simp,?_⟩;sleep 7;refine⟨_,m2,?_⟩;exact good r rt %[|5] M' xm
 ·rintro i y hy N hN δ M' ⟨r,w4,w5,rl,r25,rt,xm,m1,m2,rfl⟩
  obtain⟨rfl,hi'⟩:=XB hy;rw[List.length_map,show Txt.split x (Str.ofString " ")=sp x from rfl] at hi';have pt:=tx.prt _ (List.getElem_mem hi');obtain⟨part,hpart⟩:∃ part,part=(sp x)[i]:=⟨_,rfl⟩;rw[<- hpart] at pt;have at_i:L2.atI ((sp x).map D.str) (i:Int)=some (.str part):=L2.atI_nat (by rw[hpart];simp[hi']);rw[show ((0:Int)+(i:Int)*1)=((i:Nat):Int) by omega];refine YY fun J hJ=>?_;have tail:∀ d M3,MExt M' M3->((∃ q,part=Y0 q/\d=nm q)\/((∀ q,part≠Y0 q)/\d=.non))->J [some (.int 0),some (.str x),some (.lst p),some (.lst p1),some (.int i),some d] M3:=by
   intro d M3 x3 hd;refine hJ _ _ ?_;sleep 7;have xx:=xm.trans x3;have lt:i<(sp x).length:=hi';rcases hd with ⟨q,eq,rfl⟩|⟨nq,rfl⟩
   ·show _\/_
    refine .inl ⟨rfl,?_⟩;by_cases h24:(24:Int)<(i:Int)
    ·rw[if_pos h24]
     sleep 7;exact bad i ⟨lt,r25,⟨r,rt⟩,.inr %[|5]⟩ M3 xx
    ·rw[if_neg h24]
     sleep 7;have mp:=x3 _ _ m2;refine⟨⟨_,mp⟩,_,mp,by rw[List.length_map];omega,?_⟩;refine hN _ _ ⟨r++[q],_,_,by simp[rl],by omega,?_,MExt.upd_new e1 xx,?_,?_,rfl⟩
     ·rw[List.take_add_one,rt,List.getElem?_eq_getElem hi',<- hpart,eq];simp
     ·rw[YO np];exact x3 _ _ m1
     ·rw[Yh];simp
   ·show _\/_
    refine .inr ⟨rfl,?_⟩;sleep 7;refine bad i ⟨lt,r25,⟨r,rt⟩,.inl fun q e=>nq q ?_⟩ M3 xx;rw[List.getElem?_eq_getElem hi',<- hpart] at e;exact Option.some.inj e
  sleep 8;refine Yk false ?_;refine .inl ⟨by simp,?_⟩;sleep 7;refine Yk false ?_;refine .inl ⟨by simp,?_⟩;sleep 7;refine⟨_,.str part,m1,at_i,part,rfl,pt.1,pt.2,fun q e M3 x3=>?_,fun nq M3 x3=>?_⟩
  ·exact tail _ M3 x3 (.inl ⟨q,e,rfl⟩)
  ·exact tail _ M3 x3 (.inr ⟨nq,rfl⟩)
theorem D3:∀ x M R E,TxK scT x->(∀ r:List (Rat×Rat),scT x=r.map Ye->(∀ p∈r,p.1<=p.2)->2<=r.length->r.length<=25->∀ M',MExt M M'->R (X2 (tb r)) M')->(∀ j,BadU (scT x) j->∀ M',MExt M M'->R (ZU j) M')->rSs C_42 (ends R E) (Y1 6 [.int 1,.str x]) M:=by
 rintro x M R E tx good bad;unfold C_42;sleep 7;intro p M1 e1 x1 l1
 (try dsimp only);rw[Y2];simp[0,vAt,vHd,Y4,and_assoc,sizeLine_eq,Y5,Yj,Ya,dFld,Ym,Yn,Yl,Zo]
 intro p0 M0 e0 x0 l0;refine⟨_,_,l0,Yv _ _ _,?_⟩;dsimp only;refine⟨_,rfl,by decide,tx.len,by have:=tx.cnt;show (scT x).length<=_;omega,fun p1 M2 e2 x2 l2=>?_⟩;have cn:=tx.cnt;have np:p1≠p:=fun z=>by rw[z,x0 _ _ l1] at e2;cases e2
 have lp:M2 p=some (.ls []):=x2 _ _ (x0 _ _ l1);sleep 9;refine⟨_,l2,?_⟩;refine⟨by rw[List.length_map];show ((scT x).length:Int) < _;omega,?_⟩;refine Zi (fun i δ M'=>∃ (r:List (Rat×Rat)) (w4 w5:Option DL.D),r.length=i/\i<=25/\(scT x).take i=r.map Ye/\(∀ p∈r,p.1<=p.2)/\MExt M M'/\M' p1=some (.ls ((scT x).map .str))/\M' p=some (.ls (r.map pl))/\δ=[some (.int 1),some (.str x),some (.lst p),some (.lst p1),w4,w5]) (fun _ _ _ _=>trivial) ?_ ?_ ⟨[],none,none,rfl,by decide,by simp,nofun,x1.trans (x0.trans x2),l2,lp,rfl⟩
 ·rintro δ M' ⟨r,w4,w5,rl,r25,rt,ok,xm,m1,m2,rfl⟩
  rw[Zk,List.length_map] at rl r25 rt;rw[show Txt.split x (Str.ofString ", ")=scT x from rfl] at rl r25 rt;rw[List.take_length] at rt;sleep 7;refine Yk false ?_;refine .inr ⟨by simp,_,m2,?_⟩;refine Yk false ?_;have n0:r.length≠0:=fun z=>W3 sepC x (by
   rw[show Txt.split x ", "=r.map Ye from rt,List.length_eq_zero_iff.mp z];rfl)
  by_cases h1:r.length=1
  ·refine .inr ⟨by simp[h1],?_⟩
   sleep 7;obtain⟨p0,rfl⟩:∃ p0,r=[p0]:=by
    match r,h1 with
    | [p0],_=>exact⟨p0,rfl⟩
   exact bad 1 (.inr ⟨rfl,p0,rt,ok p0 (by simp)⟩) M' xm
  ·refine .inl ⟨by simp;omega,?_⟩
   sleep 7;refine⟨_,m2,?_⟩;exact good r rt ok %[|5] %[|5] M' xm
 ·rintro i y hy N hN δ M' ⟨r,w4,w5,rl,r25,rt,ok,xm,m1,m2,rfl⟩
  obtain⟨rfl,hi'⟩:=XB hy;rw[List.length_map,show Txt.split x (Str.ofString ", ")=scT x from rfl] at hi';have pt:=tx.prt _ (List.getElem_mem hi');obtain⟨part,hpart⟩:∃ part,part=(scT x)[i]:=⟨_,rfl⟩;rw[<- hpart] at pt;have at_i:L2.atI ((scT x).map D.str) (i:Int)=some (.str part):=L2.atI_nat (by rw[hpart];simp[hi']);rw[show ((0:Int)+(i:Int)*1)=((i:Nat):Int) by omega];refine YY fun J hJ=>?_;have tail:∀ d M3,MExt M' M3->((∃ q:Rat×Rat,q.1<=q.2/\part=Ye q/\d=pl q)\/((∀ q:Rat×Rat,q.1<=q.2->part≠Ye q)/\d=.non))->J [some (.int 1),some (.str x),some (.lst p),some (.lst p1),some (.int i),some d] M3:=by
   intro d M3 x3 hd;refine hJ _ _ ?_;sleep 7;have xx:=xm.trans x3;have lt:i<(scT x).length:=hi';rcases hd with ⟨q,qo,eq,rfl⟩|⟨nq,rfl⟩
   ·show _\/_
    refine .inl ⟨rfl,?_⟩;by_cases h24:(24:Int)<(i:Int)
    ·rw[if_pos h24]
     sleep 7;exact bad i (.inl ⟨lt,r25,⟨r,rt,ok⟩,.inr %[|5]⟩) M3 xx
    ·rw[if_neg h24]
     sleep 7;have mp:=x3 _ _ m2;refine⟨⟨_,mp⟩,_,mp,by rw[List.length_map];omega,?_⟩;refine hN _ _ ⟨r++[q],_,_,by simp[rl],by omega,?_,fun p hp=>?_,MExt.upd_new e1 xx,?_,?_,rfl⟩
     ·rw[List.take_add_one,rt,List.getElem?_eq_getElem hi',<- hpart,eq];simp
     ·rcases List.mem_append.mp hp with hp|hp
      ·exact ok p hp
      ·simp at hp;rw[hp];exact qo
     ·rw[YO np];exact x3 _ _ m1
     ·rw[Yh];simp
   ·show _\/_
    refine .inr ⟨rfl,?_⟩;sleep 7;refine bad i (.inl ⟨lt,r25,⟨r,rt,ok⟩,.inl fun q qo e=>nq q qo ?_⟩) M3 xx;rw[List.getElem?_eq_getElem hi',<- hpart] at e;exact Option.some.inj e
  sleep 8;refine Yk false ?_;refine .inl ⟨by simp,?_⟩;sleep 7;refine Yk false ?_;refine .inr ⟨by simp,?_⟩;sleep 7;refine⟨_,.str part,m1,at_i,part,rfl,pt.1,pt.2,fun q qo e M3 x3=>?_,fun nq M3 x3=>?_⟩
  ·exact tail _ M3 x3 (.inl ⟨q,qo,e,rfl⟩)
  ·exact tail _ M3 x3 (.inr ⟨nq,rfl⟩)
theorem D4:∀ x M R E,TxK scJ x->(∀ r:List RJ,scJ x=r.map Yc->GoodJ r->∀ M',MExt M M'->R (X2 (.tup (r.map rj))) M')->(∀ j,BadJ (scJ x) j->∀ M',MExt M M'->R (ZU j) M')->rSs C_42 (ends R E) (Y1 6 [.int 2,.str x]) M:=by
 rintro x M R E tx good bad;unfold C_42;sleep 7;intro p M1 e1 x1 l1
 (try dsimp only);rw[Y2];simp[0,vAt,vHd,Y4,and_assoc,sizeLine_eq,Y5,Yj,Ya,dFld,Ym,Yn,Yl,Zo]
 intro p0 M0 e0 x0 l0;refine⟨_,_,l0,L2.atI_nat (j:=2) rfl,?_⟩;dsimp only;refine⟨_,rfl,by decide,tx.len,by have:=tx.cnt;show (scJ x).length<=_;omega,fun p1 M2 e2 x2 l2=>?_⟩;have cn:=tx.cnt;have np:p1≠p:=fun z=>by rw[z,x0 _ _ l1] at e2;cases e2
 have lp:M2 p=some (.ls []):=x2 _ _ (x0 _ _ l1);sleep 9;refine⟨_,l2,?_⟩;refine⟨by rw[List.length_map];show ((scJ x).length:Int) < _;omega,?_⟩;refine Zi (fun i δ M'=>∃ (r:List RJ) (w4 w5:Option DL.D),r.length=i/\i<=25/\(scJ x).take i=r.map Yc/\(i=0\/GoodJ r)/\MExt M M'/\M' p1=some (.ls ((scJ x).map .str))/\M' p=some (.ls (r.map rj))/\δ=[some (.int 2),some (.str x),some (.lst p),some (.lst p1),w4,w5]) (fun _ _ _ _=>trivial) ?_ ?_ ⟨[],none,none,rfl,by decide,by simp,.inl rfl,x1.trans (x0.trans x2),l2,lp,rfl⟩
 ·rintro δ M' ⟨r,w4,w5,rl,r25,rt,ok,xm,m1,m2,rfl⟩
  rw[Zk,List.length_map] at rl r25 rt ok;rw[show Txt.split x (Str.ofString "; ")=scJ x from rfl] at rl r25 rt ok;rw[List.take_length] at rt;sleep 7;refine Yk false ?_;refine .inl ⟨by simp,?_⟩;sleep 7;refine⟨_,m2,?_⟩;have n0:(scJ x).length≠0:=fun z=>W3 sepJ x (List.length_eq_zero_iff.mp z);exact good r rt (ok.resolve_left n0) M' xm
 ·rintro i y hy N hN δ M' ⟨r,w4,w5,rl,r25,rt,ok,xm,m1,m2,rfl⟩
  obtain⟨rfl,hi'⟩:=XB hy;rw[List.length_map,show Txt.split x (Str.ofString "; ")=scJ x from rfl] at hi';have pt:=tx.prt _ (List.getElem_mem hi');obtain⟨part,hpart⟩:∃ part,part=(scJ x)[i]:=⟨_,rfl⟩;rw[<- hpart] at pt;have at_i:L2.atI ((scJ x).map D.str) (i:Int)=some (.str part):=L2.atI_nat (by rw[hpart];simp[hi']);rw[show ((0:Int)+(i:Int)*1)=((i:Nat):Int) by omega];refine YY fun J hJ=>?_;have tail:∀ d M3,MExt M' M3->((∃ q,part=Yc q/\GoodJ (r++[q])/\d=rj q)\/((∀ q,part=Yc q->¬ GoodJ (r++[q]))/\d=.non))->J [some (.int 2),some (.str x),some (.lst p),some (.lst p1),some (.int i),some d] M3:=by
   intro d M3 x3 hd;refine hJ _ _ ?_;sleep 7;have xx:=xm.trans x3;have lt:i<(scJ x).length:=hi';have i12:i<=12:=by
    rcases ok with h|h
    ·omega
    ·have:=h.most;omega
   rcases hd with ⟨q,eq,gq,rfl⟩|⟨nq,rfl⟩
   ·show _\/_
    refine .inl ⟨rfl,?_⟩
    ·rw[if_neg (show ¬ (24:Int)<(i:Int) by omega)]
     sleep 7;have mp:=x3 _ _ m2;refine⟨⟨_,mp⟩,_,mp,by rw[List.length_map];omega,?_⟩;refine hN _ _ ⟨r++[q],_,_,by simp[rl],by omega,?_,.inr gq,MExt.upd_new e1 xx,?_,?_,rfl⟩
     ·rw[List.take_add_one,rt,List.getElem?_eq_getElem hi',<- hpart,eq];simp
     ·rw[YO np];exact x3 _ _ m1
     ·rw[Yh];simp
   ·show _\/_
    refine .inr ⟨rfl,?_⟩;sleep 7;refine bad i ⟨lt,r,rt,ok,fun q e=>nq q ?_⟩ M3 xx;rw[List.getElem?_eq_getElem hi',<- hpart] at e;exact Option.some.inj e
  sleep 8;refine Yk false ?_;refine .inr ⟨by simp,?_⟩;sleep 7;have rr:r=[]\/GoodJ r:=by
   rcases ok with h|h
   ·exact .inl (List.length_eq_zero_iff.mp %[|5])
   ·exact .inr h
  refine⟨_,.str part,m1,at_i,part,p,r,rfl,m2,rr,pt.1,pt.2,fun q e g M3 x3=>?_,fun nq M3 x3=>?_⟩
  ·exact tail _ M3 x3 (.inl ⟨q,e,g,rfl⟩)
  ·exact tail _ M3 x3 (.inr ⟨nq,rfl⟩)
theorem vc_42:∀ ds M R E,S_42 ds M R E->rSs C_42 (ends R E) (Y1 6 ds) M:=by
 rintro ds M R E ⟨k,x,rfl,k0,k3,tx,h⟩;have:k=0\/k=1\/k=2:=by omega
 rcases this with rfl|rfl|rfl
 ·exact ES x M R E tx.r (fun r e h25=>h _ (.row e h25)) fun j b=>h _ (.rowN b)
 ·exact D3 x M R E tx.t (fun r e ok h2 h25=>h _ (.tub e ok h2 h25)) fun j b=>h _ (.tubN b)
 ·exact D4 x M R E tx.j (fun r e g=>h _ (.job e g)) fun j b=>h _ (.jobN b)
theorem BF {b hs:CSs} {ie:Nat} {D:DEnds} {δ:DSt} {M:Mem} (h:∀ X:DSt->DK,(∀ δ' x M',rSs hs {nx:=fun δ'' M''=>D.nx (δ''.set ie none) M'',rt:=fun _ _=>False,bk:=fun _ _=>False,ct:=fun _ _=>False,ex:=X0} (δ'.set ie (some (.exc "NoText" x))) M'->X δ' (.exc "NoText" x) M')->rSs b {D with ex:=X} δ M):rS (.trh b "NoText" ie hs) D δ M :=
 h _ fun δ' x M' r=>⟨"NoText",rfl,by decide +kernel,r⟩
noncomputable def S_34:DSp:=fun ds M Q E=>∃ (n:Str) (k:Int) (x:Str),ds=[.fn n,.str x]/\(n="read_row"/\k=0\/n="read_tube"/\k=1\/n="read_jobs"/\k=2)/\TxA x/\∀ d,TellT k x d->∀ M',MExt M M'->Q d M'
noncomputable def C_34:CSs:=%[.set 2 .non,.trh %[.set 2 (.tup %[.str "read",.callv 0 [("read_row",S_32),("read_tube",S_30),("read_jobs",S_33)] %[.var 1|0]|0])|0] "NoText" 3 %[.set 2 (.tup %[.str "none",.xfl "part" (.var 3)|0]),.ife (.bi .isinstance %[.xfl "part" (.var 3),.ty .bool|0]) %[.set 2 .non|0] .nil|0],.ret (.var 2)|0]
theorem vc_34:∀ ds M R E,S_34 ds M R E->rSs C_34 (ends R E) (Y1 4 ds) M:=by
 rintro ds M R E ⟨n,k,x,rfl,hk,tx,q⟩;unfold C_34;sleep 7;refine YY fun J hJ=>?_;refine BF fun X hX=>?_;have good:∀ d M2,MExt M M2->TellT k x (X2 d)->J [some (.fn n),some (.str x),some (X2 d),none] M2:=by
  intro d M2 x2 t;refine hJ _ _ ?_;sleep 7;exact q _ t M2 x2
 have good':∀ (j:Nat) M2,MExt M M2->TellT k x (ZU j)->J [some (.fn n),some (.str x),some (ZU j),none] M2:=by
  intro d M2 x2 t;refine hJ _ _ ?_;sleep 7;exact q _ t M2 x2
 have bad:∀ j:Nat,TellT k x (ZU j)->∀ M2,MExt M M2->X [some (.fn n),some (.str x),some .non,none] (.exc "NoText" (.int j)) M2:=by
  intro j t M2 x2;refine hX _ _ _ ?_
  (try dsimp only);rw[Y2];simp[0,vAt,vHd,Y4,and_assoc,sizeLine_eq,Y5,Yj,Ya,dFld,Ym,Yn,Yl,dXfl]
  refine⟨by decide,by decide,?_⟩
  (try dsimp only);rw[Y2];simp[0,vAt,vHd,Y4,and_assoc,sizeLine_eq,Y5,Yj,Ya,dFld,Ym,Yn,Yl,dXfl]
  refine⟨by decide,by decide,?_⟩;unfold fIsi;simp[tyD,isiT];exact good' _ M2 x2 t
 rcases hk with ⟨rfl,rfl⟩|⟨rfl,rfl⟩|⟨rfl,rfl⟩
 ·sleep 8
  sleep 7;exact .inl ⟨_,rfl,x,rfl,tx.r,fun r e h M2 x2=>good _ M2 x2 (.row e h),fun j b M2 x2=>bad j (.rowN b) M2 x2⟩
 ·sleep 8
  sleep 7;exact⟨_,.inr (.inl rfl),_,rfl,x,rfl,tx.t,fun r e o h2 h M2 x2=>good _ M2 x2 (.tub e o h2 h),fun j b M2 x2=>bad j (.tubN b) M2 x2⟩
 ·sleep 8
  sleep 7;exact⟨_,.inr (.inr rfl),_,rfl,x,rfl,tx.j,fun r e g M2 x2=>good _ M2 x2 (.job e g),fun j b M2 x2=>bad j (.jobN b) M2 x2⟩
theorem Jm {ps:List Str} {r:List Rat} {j:Nat} (h:ps=r.map Y0) (h25:r.length<=25):¬ BadP ps j:=fun b=>by
 have lt:=b.lt;rw[h,List.length_map] at lt;rcases b.no with no|no
 ·exact no r[j] (by rw[h];simp[lt])
 ·omega
theorem Fq {ps:List Str} {i j:Nat} (a:BadP ps i) (b:BadP ps j):i=j:=by
 have key:∀ {i j:Nat},BadP ps i->BadP ps j->¬ i<j:=fun {i j} a b h=>by
  have ai:=a.lt;obtain⟨r,hr⟩:=b.ok;have jl:r.length=j:=by
   have:=congrArg List.length hr;rw[List.length_take,List.length_map] at this;have:=b.lt;omega
  rcases a.no with no|no
  ·have e:=congrArg (fun l=>l[i]?) hr
   simp only[List.getElem?_take,h,if_true,List.getElem?_map] at e;rw[List.getElem?_eq_getElem (show i<r.length by omega)] at e;exact no _ e
  ·have:=b.le;omega
 have h1:=key a b;have h2:=key b a;omega
theorem WA {ps:List Str} {r:List (Rat×Rat)} {j:Nat} (h:ps=r.map Ye) (ok:∀ p∈r,p.1<=p.2) (h25:r.length<=25):¬ BadT ps j:=fun b=>by
 have lt:=b.lt;rw[h,List.length_map] at lt;rcases b.no with no|no
 ·exact no r[j] (ok _ (List.getElem_mem lt)) (by rw[h];simp[lt])
 ·omega
theorem Dz {ps:List Str} {i j:Nat} (a:BadT ps i) (b:BadT ps j):i=j:=by
 have key:∀ {i j:Nat},BadT ps i->BadT ps j->¬ i<j:=fun {i j} a b h=>by
  have ai:=a.lt;obtain⟨r,hr,ok⟩:=b.ok;have jl:r.length=j:=by
   have:=congrArg List.length hr;rw[List.length_take,List.length_map] at this;have:=b.lt;omega
  rcases a.no with no|no
  ·have e:=congrArg (fun l=>l[i]?) hr
   simp only[List.getElem?_take,h,if_true,List.getElem?_map] at e;rw[List.getElem?_eq_getElem (show i<r.length by omega)] at e;exact no _ (ok _ (List.getElem_mem _)) e
  ·have:=b.le;omega
 have h1:=key a b;have h2:=key b a;omega
theorem Dy {ps:List Str} {i j:Nat} (a:BadU ps i) (b:BadU ps j):i=j:=by
 rcases a with a|⟨rfl,p,hp,ok⟩<;>rcases b with b|⟨rfl,p',hp',ok'⟩
 ·exact Dz a b
 ·exact absurd a (WA (r:=[p']) hp' (by simpa using ok') (by simp))
 ·exact absurd b (WA (r:=[p]) hp (by simpa using ok) (by simp))
 ·rfl
theorem U4 {ps:List Str} {r:List (Rat×Rat)} {j:Nat} (h:ps=r.map Ye) (ok:∀ p∈r,p.1<=p.2) (h2:2<=r.length) (h25:r.length<=25):¬ BadU ps j:=fun b=>by
 rcases b with b|⟨rfl,p,hp,_⟩
 ·exact WA h ok h25 b
 ·have:=congrArg List.length (h.symm.trans hp)
  simp at this;omega
theorem GoodJ.pre {r:List RJ} (g:GoodJ r) {n:Nat} (h1:1<=n):GoodJ (r.take n) :=
 ⟨by have:=g.one;rw[List.length_take];omega,by have:=g.most;rw[List.length_take];omega,fun j hj=>g.ok j (List.mem_of_mem_take hj),g.mon.sublist (List.take_sublist _ _)⟩
theorem WS {α:Type} {f:α->Str} (u:∀ a b,f a=f b->(f a).length<=70->a=b):∀ {r r':List α},r.map f=r'.map f->(∀ p∈r.map f,p.length<=70)->r=r'
 | [],[],_,_=>rfl
 | [],_::_,e,_=>by simp at e
 | _::_,[],e,_=>by simp at e
 | a::r,b::r',e,h=>by
  simp at e;rw[u a b e.1 (h _ (by simp)),WS u (r:=r) (r':=r') (by simpa using e.2) fun p hp=>h p (by simp at hp ⊢;exact .inr hp)]
theorem Wl {r r':List RJ} (e:r.map Yc=r'.map Yc) (h:∀ p∈r.map Yc,p.length<=70):r=r':=WS (fun _ _=>Vf) e h
theorem WB {ps:List Str} {r:List RJ} {j:Nat} (hp:∀ p∈ps,p.length<=70) (h:ps=r.map Yc) (g:GoodJ r):¬ BadJ ps j:=fun b=>by
 obtain⟨lt,r',e,_,no⟩:=b;have rl:j<r.length:=by rw[h,List.length_map] at lt;exact lt
 have e1:(r.take j).map Yc=r'.map Yc:=by rw[<- e,h,List.map_take]
 have e2:=Wl e1 fun p hp'=>by
  rw[List.map_take,<- h] at hp';exact hp p (List.mem_of_mem_take hp')
 refine no r[j] (by rw[h];simp[rl]) ?_;rw[<- e2,List.take_append_getElem rl];exact g.pre %[|5]
theorem DC {ps:List Str} {i j:Nat} (hp:∀ p∈ps,p.length<=70) (a:BadJ ps i) (b:BadJ ps j):i=j:=by
 have key:∀ {i j:Nat},BadJ ps i->BadJ ps j->¬ i<j:=fun {i j} a b h=>by
  obtain⟨lt,r',e,g,_⟩:=b;have gg:=g.resolve_left %[|5];obtain⟨lt2,r2,e2,_,no⟩:=a;have hl:∀ p∈ps.take j,p.length<=70:=fun p hp'=>hp p (List.mem_of_mem_take hp');refine WB (j:=i) hl e gg ⟨by rw[List.length_take];omega,r2,?_,?_,?_⟩
  ·rw[List.take_take,Nat.min_eq_left %[|5]];exact e2
  ·by_cases h0:i=0
   ·exact .inl h0
   ·right
    have e3:(r'.take i).map Yc=r2.map Yc:=by rw[List.map_take,<- e,List.take_take,Nat.min_eq_left %[|5],e2]
    have:=Wl e3 fun p hp'=>by
     rw[List.map_take,<- e] at hp';exact hl p (List.mem_of_mem_take hp')
    rw[<- this];exact gg.pre %[|5]
  ·intro q hq
   refine no q ?_;rw[List.getElem?_take,if_pos h] at hq;exact hq
 have h1:=key a b;have h2:=key b a;omega
theorem BG {k:Int} {x:Str} {d d':DL.D} (tx:TxA x) (a:TellT k x d) (b:TellT k x d'):d=d':=by
 have l1:∀ p∈sp x,p.length<=70:=fun p hp=>(tx.r.prt p hp).2;have l2:∀ p∈scT x,p.length<=70:=fun p hp=>(tx.t.prt p hp).2;have l3:∀ p∈scJ x,p.length<=70:=fun p hp=>(tx.j.prt p hp).2;cases a with
 | row e h =>
  cases b with
  | row e' h'=>rw [WS (fun _ _ h l=>YT h %[|5]) (e.symm.trans e') (by rw[<- e];exact l1)]
  | rowN b=>exact absurd b (Jm e h)
 | rowN a =>
  cases b with
  | row e' h'=>exact absurd a (Jm e' h')
  | rowN b=>rw [Fq a b]
 | tub e o h2 h =>
  cases b with
  | tub e' _ _ h'=>rw [WS (fun _ _ h l=>Vc h l) (e.symm.trans e') (by rw[<- e];exact l2)]
  | tubN b=>exact absurd b (U4 e o h2 h)
 | tubN a =>
  cases b with
  | tub e o h2 h=>exact absurd a (U4 e o h2 h)
  | tubN b=>rw [Dy a b]
 | job e g =>
  cases b with
  | job e' g'=>rw [Wl (e.symm.trans e') (by rw[<- e];exact l3)]
  | jobN b=>exact absurd b (WB l3 e g)
 | jobN a =>
  cases b with
  | job e g=>exact absurd a (WB l3 e g)
  | jobN b=>rw [DC l3 a b]
theorem EQ {k:Int} {x:Str} {d:DL.D} {M:Mem} {Q:DK} (t:TellT k x d) (q:Q (.bl false) M):cEq true d d M Q:=by
 have key:∀ {α:Type} [DecidableEq α] {e:α->DL.D} {n:Nat} (h:EqEnc e n) (hn:n<=20) (w:Str) (hw:(PyData.str w).canLay0=true) (a:α),cEq true (.tup [.str w,e a]) (.tup [.str w,e a]) M Q:=fun {α} _ e n h hn w hw a=>by
  obtain⟨e',h1,h2,h3⟩:=h.ex;have hd:=h3 a;refine A3 (a:=.tuple [.str w,e' a]) (b:=.tuple [.str w,e' a]) (.tup (.cons (.str w hw) (.cons (h1 M a) .nil))) (.tup (.cons (.str w hw) (.cons (h1 M a) .nil))) ?_ ?_
  ·simp only[PyData.depth,PyData.depthAll];omega
  ·have:PyData.eqv (.tuple [.str w,e' a]) (.tuple [.str w,e' a])=true:=by
    simp[PyData.eqv,PyData.eqvAll,h2]
   rw[this];exact q
 have read:∀ {α:Type} [DecidableEq α] {e:α->DL.D} {n:Nat} (h:EqEnc e n) (hn:n<=20) (a:α),cEq true (X2 (e a)) (X2 (e a)) M Q:=fun h hn a=>key h hn "read" (YB (W1 (by decide +kernel))) a;have none:∀ j:Nat,cEq true (ZU j) (ZU j) M Q:=fun j=>key enc_int %[|4] "none" (YB (W1 (by decide +kernel))) (j:Int);cases t with
 | row e h=>exact read enc_nm.tup %[|4] _
 | tub e o h2 h=>exact read enc_pl.tup %[|4] _
 | job e g=>exact read enc_rj.tup %[|4] _
 | rowN b=>exact none _
 | tubN b=>exact none _
 | jobN b=>exact none _
noncomputable def S_45:DSp:=fun ds M Q E=>∃ (k:Int) (x:Str),ds=[.int k,.str x]/\0<=k/\k<3/\TxA x/\Asc x/\∀ M',MExt M M'->Q (.bl true) M'
noncomputable def C_45:CSs:=%[.set 2 (.call "_law_due" S_42 %[.var 0,.var 1|0]),.ife (.cmp .NotEq (.call "_law_told" S_34 %[.ix (.lst %[.glo "read_row" (.fn "read_row"),.glo "read_tube" (.fn "read_tube"),.glo "read_jobs" (.fn "read_jobs")|0]) (.var 0),.var 1|0]) (.var 2)) %[.ret (.bl false)|0] .nil,.ife (.cmp .Eq (.ix (.var 2) (.int 0)) (.str "none")) %[.ret (.bl true)|0] .nil,.set 3 (.callx (.ix (.lst %[.glo "show_row" (.fn "show_row"),.glo "show_tube" (.fn "show_tube"),.glo "show_jobs" (.fn "show_jobs")|0]) (.var 0)) [("show_row",S_31),("show_tube",S_36),("show_jobs",S_44)] %[.ix (.var 2) (.int 1)|0]),.ife (.or (.and (.cmp .Eq (.var 0) (.int 1)) (.one (.cmp .IsNot (.call "is_tube" S_18 %[.ix (.var 2) (.int 1)|0]) (.bl true)))) (.one (.and (.cmp .Eq (.var 0) (.int 2)) (.one (.cmp .IsNot (.call "is_jobs" S_28 %[.ix (.var 2) (.int 1)|0]) (.bl true)))))) %[.ret (.bl false)|0] .nil,.ret (.cmp .Eq (.var 3) (.var 1))|0]
theorem vc_45:∀ ds M R E,S_45 ds M R E->rSs C_45 (ends R E) (Y1 4 ds) M:=by
 rintro ds M R E ⟨k,x,rfl,k0,k3,tx,xa,q⟩;unfold C_45;sleep 7;refine⟨k,x,rfl,k0,k3,tx,fun d td M1 x1=>?_⟩;sleep 7;intro p2 M2 e2 x2 l2;obtain⟨n,hn,hat⟩:∃ n:Str,(n="read_row"/\k=0\/n="read_tube"/\k=1\/n="read_jobs"/\k=2)/\L2.atI [DL.D.fn "read_row",DL.D.fn "read_tube",DL.D.fn "read_jobs"] k=some (.fn n):=by
  have:k=0\/k=1\/k=2:=by omega
  rcases this with rfl|rfl|rfl
  ·exact⟨_,.inl ⟨rfl,rfl⟩,Yg _ _⟩
  ·exact⟨_,.inr (.inl ⟨rfl,rfl⟩),Yv _ _ _⟩
  ·exact⟨_,.inr (.inr ⟨rfl,rfl⟩),L2.atI_nat (j:=2) rfl⟩
 refine⟨_,.fn n,l2,hat,n,k,x,rfl,hn,tx,fun d' td' M3 x3=>?_⟩;obtain rfl:=BG tx td td';refine EQ td (.inl ⟨rfl,?_⟩);have xx:=x1.trans (x2.trans x3);have lr:(PyData.str ("read":Str)).canLay0=true:=YB (W1 (by decide +kernel));have ln:(PyData.str ("none":Str)).canLay0=true:=YB (W1 (by decide +kernel));have lx:(PyData.str x).canLay0=true:=YB xa;sleep 7;cases td with
 | rowN b =>
  unfold ZU;refine tix (v:=.str "none") (Yg _ _) ?_;refine YZ false ln ln ?_;refine .inr ⟨by simp,?_⟩;sleep 7;exact q M3 xx
 | tubN b =>
  unfold ZU;refine tix (v:=.str "none") (Yg _ _) ?_;refine YZ false ln ln ?_;refine .inr ⟨by simp,?_⟩;sleep 7;exact q M3 xx
 | jobN b =>
  unfold ZU;refine tix (v:=.str "none") (Yg _ _) ?_;refine YZ false ln ln ?_;refine .inr ⟨by simp,?_⟩;sleep 7;exact q M3 xx
 | @row _ r e h =>
  unfold X2;refine tix (v:=.str "read") (Yg _ _) ?_;refine YZ false lr ln ?_;refine .inl ⟨rfl,?_⟩
  (try dsimp only);rw[Y2];simp[0,vAt,vHd,Y4,and_assoc,sizeLine_eq,Y5,Yj,Ya,dFld,Ym,Yn,Yl,Vt]
  intro p4 M4 e4 x4 l4;refine⟨_,.fn "show_row",l4,Yg _ _,"show_row",rfl,_,.inl ⟨rfl,rfl⟩,?_⟩;refine tix (v:=rw r) (Yv _ _ _) ?_;have szs:∀ z∈r,Sz 240 z:=fun z hz=>Z5 (tx.r.prt _ (by rw[e];exact List.mem_map_of_mem hz)).2;refine⟨r,rfl,szs,by omega,fun M5 x5=>?_⟩;rw[show jn (r.map Y0)=x by rw[<- e];exact WJ x];sleep 7;refine Yk false ?_;refine .inl ⟨by simp,?_⟩;refine Yk false ?_;refine .inl ⟨by simp,?_⟩;sleep 7;refine YZ false lx lx ?_;have:=q M5 (xx.trans (x4.trans x5))
  simpa using this
 | @tub _ r e o h2 h =>
  unfold X2;refine tix (v:=.str "read") (Yg _ _) ?_;refine YZ false lr ln ?_;refine .inl ⟨rfl,?_⟩
  (try dsimp only);rw[Y2];simp[0,vAt,vHd,Y4,and_assoc,sizeLine_eq,Y5,Yj,Ya,dFld,Ym,Yn,Yl,Vt]
  intro p4 M4 e4 x4 l4;refine⟨_,.fn "show_tube",l4,Yv _ _ _,"show_tube",rfl,_,.inr (.inl ⟨rfl,rfl⟩),?_⟩;refine tix (v:=tb r) (Yv _ _ _) ?_;have lens:∀ z∈r,(Ye z).length<=70:=fun z hz=>(tx.t.prt _ (by rw[e];exact List.mem_map_of_mem hz)).2;refine⟨r,rfl,lens,by omega,fun M5 x5=>?_⟩;rw[show jc (r.map Ye)=x by rw[<- e];exact XI x];sleep 7;refine Yk false ?_;refine .inr ⟨by simp,?_⟩;refine tix (v:=tb r) (Yv _ _ _) ?_;refine⟨_,rfl,JV fun z hz=>W6 (lens z hz),fun M6 x6=>?_⟩;rw[XZ,decide_eq_true h2,decide_eq_true h,List.all_eq_true.mpr fun p hp=>decide_eq_true (o p hp)];refine .inl ⟨by simp,?_⟩;refine Yk false ?_;refine .inl ⟨by simp,?_⟩;sleep 7;refine YZ false lx lx ?_;have:=q M6 (xx.trans (x4.trans (x5.trans x6)))
  simpa using this
 | @job _ r e g =>
  unfold X2;refine tix (v:=.str "read") (Yg _ _) ?_;refine YZ false lr ln ?_;refine .inl ⟨rfl,?_⟩
  (try dsimp only);rw[Y2];simp[0,vAt,vHd,Y4,and_assoc,sizeLine_eq,Y5,Yj,Ya,dFld,Ym,Yn,Yl,Vt]
  intro p4 M4 e4 x4 l4;refine⟨_,.fn "show_jobs",l4,L2.atI_nat (j:=2) rfl,"show_jobs",rfl,_,.inr (.inr ⟨rfl,rfl⟩),?_⟩;refine tix (v:=.tup (r.map rj)) (Yv _ _ _) ?_;have lens:∀ z∈r,(Yc z).length<=70:=fun z hz=>(tx.j.prt _ (by rw[e];exact List.mem_map_of_mem hz)).2;have szj:∀ j∈r,SzJ j:=fun j hj=>BJ (lens j hj);refine⟨r,rfl,fun j hj=>⟨?_,lens j hj⟩,g.most,fun M5 x5=>?_⟩
  ·have:=g.ok j hj
   unfold okJ at this;simp only[Bool.and_eq_true,decide_eq_true_eq] at this;exact⟨by omega,by omega,(szj j hj).w⟩
  rw[show jj (r.map Yc)=x by rw[<- e];exact XI x];sleep 7;refine Yk false ?_;refine .inl ⟨by simp,?_⟩;refine Yk false ?_;refine .inr ⟨by simp,?_⟩;refine tix (v:=.tup (r.map rj)) (Yv _ _ _) ?_;have:=g.most;refine⟨r,rfl,by omega,szj,fun _ M6 x6=>?_,fun ng=>absurd g ng⟩;refine .inl ⟨by simp,?_⟩;sleep 7;refine YZ false lx lx ?_;have:=q M6 (xx.trans (x4.trans (x5.trans x6)))
  simpa using this
noncomputable def S_6:DSp:=fun ds M Q E=>∃ (a:Addr),ds=[.lst a,.int 9]/\Pk M a/\∀ (q:Rat) M',Sz 4 q->Dr a M M'->Q (nm q) M'
noncomputable def C_6:CSs:=%[.set 2 (.ix (.lst %[.int 1,.int 1,.int 1,.int 2,.int 3,.int 5,.int 12,.int 1|0]) (.call "_law_take" S_1 %[.var 0,.int 8|0])),.ret (.call "_law_low" S_5 %[.bin .Sub (.call "_law_take" S_1 %[.var 0,.bin .Add (.bin .Mult (.int 2) (.var 1)) (.int 1)|0]) (.var 1),.var 2|0])|0]
theorem vc_6:∀ ds M R E,S_6 ds M R E->rSs C_6 (ends R E) (Y1 3 ds) M:=by
 rintro ds M R E ⟨a,rfl,p,q⟩;unfold C_6;sleep 7;intro p0 M0 e0 x0 l0;refine Ys (p.ext x0) %[|4] %[|4] fun r M1 r0 r1 y1=>?_;obtain⟨z,hz,hv⟩:=DJ (xs:=[D.int 1,D.int 1,D.int 1,D.int 2,D.int 3,D.int 5,D.int 12,D.int 1]) r0 (by simpa using r1);refine CD (y1.keep _ _ (p.ne e0) l0) hv ?_;obtain⟨b,rfl,b0,b1⟩:∃ b:Int,z=.int b/\0<b/\b<=12:=by
  simp at hz;rcases hz with rfl|rfl|rfl|rfl|rfl|rfl|rfl|rfl<;>exact⟨_,rfl,by decide,by decide⟩
 sleep 7;refine⟨Xo (m:=64) (n:=64) %[|4] %[|4] %[|4],?_⟩;refine Ys y1.pk %[|4] %[|4] fun v M2 v0 v1 y2=>?_;exact⟨_,_,rfl,by omega,Ws (Nat.lt_of_lt_of_le (show b.natAbs<2 ^ 4 by omega) (ZV %[|4])),q _ M2 (XA %[|5] %[|5] %[|5]) ((Dr.ext p x0).trans (y1.trans y2))⟩
noncomputable def S_8:DSp:=fun ds M Q E=>∃ a,ds=[.lst a,.int 5]/\Pk M a/\∀ (n:Int) M',0<=n->n<=10->Dr a M M'->Q (nm (Rat.divInt n 2)) M'
noncomputable def C_8:CSs:=%[.set 2 (.call "_law_take" S_1 %[.var 0,.int 4|0]),.ife (.cmp .Eq (.var 2) (.int 0)) %[.ret (.tup %[.int 0,.int 1|0])|0] .nil,.ret (.call "_law_low" S_5 %[.call "_law_take" S_1 %[.var 0,.bin .Add (.var 1) (.int 1)|0],.ix (.lst %[.int 1,.int 1,.int 1,.int 2|0]) (.var 2)|0])|0]
theorem vc_8:∀ ds M R E,S_8 ds M R E->rSs C_8 (ends R E) (Y1 3 ds) M:=by
 rintro ds M R E ⟨a,rfl,p,q⟩;unfold C_8;sleep 7;refine Ys p %[|4] %[|4] fun r M1 r0 r1 y1=>?_;sleep 7;refine Yk false ?_;by_cases hr:r=0
 ·refine .inr ⟨by simp[hr],?_⟩
  sleep 7;rw[Ez,show (0:Rat)=Rat.divInt 0 2 from rfl];exact q 0 M1 %[|4] %[|4] y1
 ·refine .inl ⟨by simp[hr],?_⟩
  sleep 7;refine Ys y1.pk %[|4] %[|4] fun v M2 v0 v1 y2=>?_;intro p0 M3 e0 x3 l3;obtain⟨z,hz,hv⟩:=DJ (xs:=[D.int 1,D.int 1,D.int 1,D.int 2]) r0 (by simpa using r1);refine CD l3 hv ?_;have y03:=y1.trans (y2.trans (Dr.ext y2.pk x3));simp at hz;have one:R (nm (Rat.divInt v 1)) M3:=by
   rw[show Rat.divInt v 1=Rat.divInt (v*2) 2 from (Rat.divInt_mul_right %[|4]).symm];exact q _ M3 %[|5] %[|5] y03
  rcases hz with rfl|rfl
  ·exact⟨_,_,rfl,by decide,Ws %[|4],one⟩
  ·exact⟨_,_,rfl,by decide,Ws %[|4],q _ M3 v0 %[|5] y03⟩
structure Plc (p:Rat×Rat):Prop where
 ok:p.1<=p.2
 s1:Sz 7 p.1
 s2:Sz 7 p.2
 len:(Ye p).length<=10
theorem ts2 {i:Int} (h:i.natAbs<100):(ts i).length<=3:=V6 (k:=2) %[|4] %[|5]
theorem Ja (z:Int):(z:Rat)=Rat.divInt (z*2) 2:=by
 have:=Rat.divInt_mul_right (n:=z) (d:=1) (a:=2) %[|4];rw[show Rat.divInt (z*2) 2=Rat.divInt (z*2) (1*2) from rfl,this];rw[Rat.divInt_eq_div];show (z:Rat)=(z:Rat) / (((1:Int)):Rat);grind
theorem plc {z n:Int} (hz:z.natAbs<=15) (n0:0<=n) (n1:n<=10):Plc ((z:Rat),(z:Rat)+Rat.divInt n 2):=by
 have e:(z:Rat)+Rat.divInt n 2=Rat.divInt (2*z+n) 2:=by
  rw[show (z:Rat)=Rat.divInt (2*z) 2 from by rw[Int.mul_comm];exact Ja z];rw[Rat.divInt_add_divInt _ _ %[|4] %[|4]];rw[show 2*z*2+n*2=(2*z+n)*2 by omega,show (2:Int)*2=2*2 from rfl,Rat.divInt_mul_right %[|4]]
 have s1:Sz 7 ((z:Int):Rat):=W2 %[|5];have s2:Sz 7 (Rat.divInt (2*z+n) 2):=XA %[|5] %[|5] %[|5];refine⟨?_,s1,by rw[e];exact s2,?_⟩
 ·have:(0:Rat)<=Rat.divInt n 2:=divInt_nonneg n0 %[|4]
  show (z:Rat)<=(z:Rat)+Rat.divInt n 2;grind
 ·rw[e]
  have l1:(Y0 (z:Rat)).length<=3:=by rw[XG];exact ts2 %[|5]
  have l2:(Y0 (Rat.divInt (2*z+n) 2)).length<=5:=by
   rcases Int.emod_two_eq (2*z+n) with h|h
   ·obtain⟨k,hk⟩:∃ k,2*z+n=k*2:=⟨(2*z+n) / 2,by omega⟩
    rw[hk,<- Ja,XG];have:=ts2 (i:=k) %[|5];omega
   ·have g:Int.gcd (2*z+n) 2=1:=by
     have h':(2*z+n).natAbs % 2=1:=by omega
     show Nat.gcd (2*z+n).natAbs 2=1;rw[Nat.gcd_comm,Nat.gcd_rec,h'];rfl
    obtain⟨h1,h2⟩:=Cp (a:=2*z+n) (b:=2) %[|4] g;unfold Y0;split
    ·rw[h1];have:=ts2 (i:=2*z+n) %[|5];omega
    ·rw[h1,h2]
     have:=ts2 (i:=2*z+n) %[|5];have e2:(ts (2:Int)).length=1:=by decide +kernel
     simp only[strLen_append];show (ts _).length+1+(ts (2:Int)).length<=_;omega
  unfold Ye;split
  ·show (Y0 (z:Rat)).length<=_;omega
  ·simp only[strLen_append];show (Y0 (z:Rat)).length+2+(Y0 _).length<=_;omega
noncomputable def S_10:DSp:=fun ds M Q E=>∃ a,ds=[.lst a,.int 5,.int 5]/\Pk M a/\∀ t M',2<=t.length->t.length<=5->(∀ p∈t,Plc p)->Dr a M M'->Q (tb t) M'
noncomputable def C_10:CSs:=%[.set 3 (.tup %[.int 0,.int 1|0]),.set 4 (.lst .nil),.fr (.name 5) (.rng %[.bin .Add (.int 2) (.call "_law_take" S_1 %[.var 0,.bin .Sub (.var 1) (.int 1)|0])|0]) %[.set 3 (.call "_law_more" S_9 %[.var 3,.tup %[.bin .Sub (.call "_law_take" S_1 %[.var 0,.int 7|0]) (.int 3),.int 1|0]|0]),.expr (.app 4 (.tup %[.var 3,.call "_law_more" S_9 %[.var 3,.call "_law_width" S_8 %[.var 0,.var 2|0]|0]|0]))|0],.ret (.bi .tuple %[.var 4|0])|0]
theorem vc_10:∀ ds M R E,S_10 ds M R E->rSs C_10 (ends R E) (Y1 6 ds) M:=by
 rintro ds M R E ⟨a,rfl,p,q⟩;unfold C_10;sleep 7;sleep 7;intro p0 M0 e0 x0 l0;have hpa:=p.ne e0;sleep 9;refine Ys (p.ext x0) %[|5] %[|4] fun n M1 n0 n1 y1=>?_;rw[Xg];refine⟨by omega,by omega,?_⟩;refine Zi (fun i δ M'=>∃ (z:Int) (t:List (Rat×Rat)) (w5:Option DL.D),Dr a M M'/\M' p0=some (.ls (t.map pl))/\t.length=i/\z.natAbs<=3*i/\(∀ p∈t,Plc p)/\δ=[some (.lst a),some (.int 5),some (.int 5),some (nm (z:Rat)),some (.lst p0),w5]) (fun _ _ _ _=>trivial) ?_ ?_ ⟨0,[],none,(Dr.ext p x0).trans y1,y1.keep _ _ hpa l0,rfl,by decide,nofun,rfl⟩
 ·rintro δ M' ⟨z,t,w5,d,l,hl,hz,B,rfl⟩
  rw[Zk] at hl hz;sleep 7;refine⟨_,l,?_⟩;exact q t M' %[|5] %[|5] B d
 ·rintro i x hx N hN δ M' ⟨z,t,w5,d,l,hl,hz,B,rfl⟩
  obtain⟨rfl,hi'⟩:=XB hx;sleep 8;sleep 7;refine Ys d.pk %[|4] %[|4] fun r M2 r0 r1 y2=>?_;have sz:Sz 7 (z:Rat):=W2 %[|5];have sr:Sz 7 ((r-3:Int):Rat):=W2 %[|5];dsimp only;refine⟨_,_,by rw[nm_i],.mk sz sr %[|5],?_⟩;have e1:(z:Rat)+((r-3:Int):Rat)=((z+(r-3):Int):Rat):=by push_cast;rfl
  rw[e1];have hz':(z+(r-3)).natAbs<=3*(i+1):=by omega
  generalize z+(r-3)=z' at *;have sz1:Sz 7 (z':Rat):=W2 %[|5];sleep 1;have y02:=d.trans y2;refine⟨⟨_,y2.keep _ _ hpa l⟩,a,rfl,y2.pk,fun v M3 v0 v1 y3=>?_⟩;have sv:Sz 7 (Rat.divInt v 2):=XA %[|5] %[|5] %[|5];refine⟨_,_,rfl,.mk sz1 sv %[|4],?_⟩;refine⟨_,y3.keep _ _ hpa (y2.keep _ _ hpa l),?_,?_⟩
  ·simp;omega
  ·refine hN _ _ ⟨z',t++[((z':Rat),(z':Rat)+Rat.divInt v 2)],_,(y02.trans y3).upd_new e0 hpa,?_,by simp[hl],by omega,fun p hp=>?_,rfl⟩
   ·rw[Yh,List.map_append];rfl
   ·rcases List.mem_append.mp hp with hp|hp
    ·exact B p hp
    ·simp at hp;rw[hp];exact plc %[|5] v0 v1
theorem WN {α:Type} {f:α->DL.D} {P:α->Prop} {g:DG} {te:DE} {keep:Mem->Prop} {p a:Addr} {Q:Mem->Prop} {M0:Mem} (pk0:Pk M0 a) (h0:M0 p=none) (I:DSt->Prop) (hk:∀ M,keep M) :
  ∀ {items:List DL.D} {acc:List α},(∀ x∈items,∀ δ M (R:DSt->DK),I δ->Dr a M0 M->(∀ δ1 q M',I δ1->P q->Dr a M M'->R δ1 (f q) M')->g x δ M fun δ1 M1=>te δ1 M1 fun d M2=>R δ1 d M2) ->
  acc.length+items.length<=1000->(∀ x∈acc,P x)->(∀ (r:List α) M',r.length=acc.length+items.length->(∀ x∈r,P x)->Dr a M0 M'->M' p=some (.ls (r.map f))->Q M') ->
  ∀ {δ M},I δ->Dr a M0 M->M p=some (.ls (acc.map f))->Zb g te keep p items (acc.map f) δ M Q
 | [],acc,_,_,hs,q,δ,M,i,y,l=>by unfold Zb;exact q acc M rfl hs y l
 | x::xs,acc,h,hz,hs,q,δ,M,i,y,l=>by
  have hpa:=pk0.ne h0;unfold Zb;refine h x List.mem_cons_self δ M (fun δ1 d M2=>M2 p=some (.ls (acc.map f))/\(acc.map f).length<sizeLine/\keep (M2.upd p (.ls (acc.map f++[d])))/\Zb g te keep p xs (acc.map f++[d]) δ1 (M2.upd p (.ls (acc.map f++[d]))) Q) i y fun δ1 q' M' i' sq y'=>?_;have e:acc.map f++[f q']=(acc++[q']).map f:=by simp
  rw[e];refine⟨y'.keep _ _ hpa l,?_,hk _,WN pk0 h0 I hk (fun z hz'=>h z (List.mem_cons_of_mem _ hz')) (by simp at hz ⊢;omega) ?_ (fun r M2 hr=>q r M2 (by simp at hr ⊢;omega)) i' ((y.trans y').upd_new h0 hpa) Yh⟩
  ·rw[sizeLine_eq,List.length_map];simp at hz;omega
  ·intro z hz'
   rcases List.mem_append.mp hz' with hz' | hz'
   ·exact hs z hz'
   ·simp at hz';subst hz';exact sq
theorem A1 {α:Type} (f:α->DL.D) (P:α->Prop) {te:DE} {a:Addr} {δ:DSt} {M:Mem} {Q:DK} {ti:DI} {n:Nat} (lo hi:Nat) (h1000:hi<=1000) (hn:δ.length=n)
  (hti:∀ K:List DL.D->(Mem->Prop)->Mem->Prop,(∀ M1 items,Dr a M M1->lo<=items.length->items.length<=hi->K items (fun _=>True) M1)->ti δ M K)
  (hel:∀ (x:Option DL.D) M' (R:DK),Dr a M M'->(∀ q M'',P q->Dr a M' M''->R (f q) M'')->te (δ++[x]) M' R)
  (hq:∀ (r:List α) p M',lo<=r.length->r.length<=hi->(∀ x∈r,P x)->Dr a M M'->M' p=some (.ls (r.map f))->Q (.lst p) M'):YX 1 ti (Xi n) te δ M Q:=by
 refine hti _ fun M1 items y1 i1 i2 p hp=>⟨trivial,?_⟩;refine WN (f:=f) (P:=P) (acc:=[]) y1.pk hp (fun δ'=>∃ x,δ'=δ++[x]) (fun _=>trivial) ?_ (by simp;omega) nofun ?_ ⟨none,rfl⟩ ((⟨y1.pk,fun _ _ _ e=>e⟩:Dr a M1 M1).upd_new hp (y1.pk.ne hp)) Yh
 ·rintro x hx δ' M' R ⟨y,rfl⟩ y' r
  show te ((δ++[y]).set n (some x)) M' _;rw[show (δ++[y]).set n (some x)=δ++[some x] by subst hn;simp];exact hel (some x) M' _ (y1.trans y') fun q M'' sq yy=>r _ q M'' ⟨_,rfl⟩ sq yy
 ·intro r M' hr hs y l
  simp at hr;exact⟨⟨_,l⟩,hq r p M' %[|5] %[|5] hs (y1.trans y) l⟩
noncomputable def Sh4 (x:Str):Prop:=Asc x/\x.length<=7
theorem sh4 {q:Rat} (h:Sz 4 q):Sh4 (Y0 q):=⟨X1 q,VJ (k:=2) %[|4] (by have:=h.1;omega) (by have:=h.2;omega)⟩
theorem UR {l:List Str} (h:∀ p∈l,Asc p):Asc (jn l):=by
 induction l with
 | nil=>exact W1 (by decide +kernel)
 | cons a l ih =>
  cases l with
  | nil=>rw [Xp];exact h a (by simp)
  | cons b l =>
   intro c hc;rw[Xh] at hc;rcases List.mem_append.mp hc with hc|hc
   ·exact h a (by simp) c hc
   rcases List.mem_cons.mp hc with hc|hc
   ·omega
   ·exact ih (fun p hp=>h p (List.mem_cons_of_mem _ hp)) c hc
theorem AT (p:Rat×Rat):Asc (Ye p):=fun c hc=>by
 unfold Ye at hc;split at hc
 ·exact X1 _ c hc
 ·rw[Vq] at hc
  rcases List.mem_append.mp hc with hc|hc
  ·exact X1 _ c hc
  rcases List.mem_cons.mp hc with hc|hc
  ·omega
  rcases List.mem_cons.mp hc with hc|hc
  ·omega
  ·exact X1 _ c hc
theorem BE (i:Int):∀ c∈(ts i).cps.toList,c<128:=fun c h=>by have:=YI h;omega
theorem B0 (j:RJ):Asc (Yc j):=UR fun p hp=>by
 simp at hp;rcases hp with rfl|rfl|rfl
 ·exact BE _
 ·exact BE _
 ·exact X1 _
theorem Vw {α:Type} {n:Nat} {ti:DI} {g:DG} {te:DE} {δ:DSt} {M:Mem} {Q:DK}
  (h:∀ K:List DL.D->(Mem->Prop)->Mem->Prop,(∀ (M1:Mem) (keep:Mem->Prop) (xs:List α) (e f:α->DL.D),(∀ M',MExt M1 M'->keep M')->xs.length<=1000 ->
   (∀ x∈xs,∀ l M' (R:DSt->DK),l.length=n->MExt M1 M'->(∀ l' M'',l'.length=n->MExt M' M''->R (δ++l') (f x) M'')->g (e x) (δ++l) M' fun δ1 M1=>te δ1 M1 fun d M2=>R δ1 d M2) ->
   (∀ p M',M1 p=Option.none->MExt M1 M'->M' p=some (.ls (xs.map f))->Q (.lst p) M')->K (xs.map e) keep M1)->ti δ M K):YX n ti g te δ M Q:=by
 refine h _ fun M1 keep xs e f hk hl hel hq p hp=>⟨hk _ (.new hp),?_⟩;refine Xw (M0:=M1) e f (fun δ'=>∃ l,l.length=n/\δ'=δ++l) hp hk ?_ (by simpa using hl) ?_ ⟨_,by simp,rfl⟩ (.new hp) Yh
 ·rintro x hx δ' M' R ⟨l,hl,rfl⟩ e2 r
  exact hel x hx l M' R hl e2 fun l' M'' h1 h2=>r _ M'' ⟨l',h1,rfl⟩ h2
 ·intro M' e2 l
  exact⟨⟨_,l⟩,hq p M' hp e2 (by simpa using l)⟩
noncomputable def C_48:CSs:=%[.fr (.name 1) (.rng %[.int 0,.bi .max %[.int 1,.bi .min %[.bi .len %[.var 0|0],.int 12|0]|0],.int 2|0]) %[.set 2 (.call "_law_pack" S_47 %[.var 0,.var 1|0]),.set 3 (.call "_law_take" S_1 %[.var 2,.int 3|0]),.set 4 (.join (.str " ") (.comp ["_law_script","_law_k","_law_pack_here","_law_kind","_law_text","<5>","_law_some","_law_step","_law_turn"] 1 (.name 8) (.rng %[.bin .Add (.int 1) (.call "_law_take" S_1 %[.var 2,.int 6|0])|0]) (.call "_law_number_text" S_3 %[.call "_law_number" S_6 %[.var 2,.int 9|0]|0]))),.ife (.cmp .Eq (.var 3) (.int 1)) %[.set 4 (.join (.str ", ") (.comp ["_law_script","_law_k","_law_pack_here","_law_kind","_law_text","_law_turn","_law_some","_law_step","_law_place"] 1 (.name 8) (.seq (.call "_law_loose_tube" S_10 %[.var 2,.int 5,.int 5|0])) (.call "_law_place_text" S_7 %[.var 8|0])))|0] .nil,.ife (.cmp .Eq (.var 3) (.int 2)) %[.set 4 (.join (.str "; ") (.comp ["_law_script","_law_k","_law_pack_here","_law_kind","_law_text","_law_turn","_law_some","_law_step","_law_job"] 1 (.name 8) (.seq (.call "_law_jobs" S_11 %[.var 2,.int 4|0])) (.call "_law_job_text" S_4 %[.var 8|0])))|0] .nil,.fr (.name 5) (.rng %[.int 6|0]) %[.set 6 (.var 4),.fr (.name 7) (.rng %[.call "_law_take" S_1 %[.var 2,.int 3|0]|0]) %[.set 6 (.call "_law_bent" S_2 %[.var 2,.var 6|0])|0],.ife (.not (.call "_law_right" S_45 %[.var 3,.var 6|0])) %[.ret (.bl false)|0] .nil|0]|0],.ret (.bl true)|0]
theorem vc_48:∀ ds M R E,SLaw ds M R E->rSs C_48 (ends R E) (Y1 8 ds) M:=by
 rintro ds M R E ⟨ns,rfl,hs,h⟩;unfold C_48;sleep 9;obtain⟨z,hz,hc,e⟩:=EG 12 ns.length %[|4] %[|4];rw[e];obtain⟨r1,r2,r3⟩:=AL z hz;refine⟨Xs %[|4] (Ws %[|4]),r1,r2,?_⟩;refine Vl (fun δ M'=>∃ w1 w2 w3 w4 w5 w6 w7,δ=[some (.fz (ns.map .int)),w1,w2,w3,w4,w5,w6,w7]) (fun _ _ _=>trivial) ?_ ?_ ⟨_,_,_,_,_,_,_,rfl⟩
 ·rintro δ M' ⟨w1,w2,w3,w4,w5,w6,w7,rfl⟩
  sleep 7;exact h M'
 ·rintro x hx N hN δ M0 ⟨w1,w2,w3,w4,w5,w6,w7,rfl⟩
  obtain⟨i,hi,rfl⟩:=List.mem_map.mp hx;have hi2:=List.mem_range.mp hi;simp[0,vAt,vHd,Y4,and_assoc,sizeLine_eq,Y5,Yj,Ya,dFld,Ym,Yn,Yl];sleep 7;refine⟨ns,_,rfl,hs,by omega,by omega,fun v p M1 e1 x1 l1=>?_⟩;have pk1:Pk M1 p:=⟨v,l1⟩;sleep 7;refine Ys pk1 %[|4] %[|4] fun k M2 k0 k1 y2=>?_
  (try dsimp only);rw[Y2];simp[0,vAt,vHd,Y4,and_assoc,sizeLine_eq,Y5,Yj,Ya,dFld,Ym,Yn,Yl,WL]
  refine A1 (a:=p) D.str Sh4 1 6 %[|4] rfl (fun K hK=>?_) ?_ ?_
  ·unfold ZH
   sleep 8;refine Ys y2.pk %[|4] %[|4] fun r M3 r0 r1 y3=>?_;rw[Xg];dsimp only;exact⟨by omega,by omega,hK M3 _ y3 (by rw[Zk];omega) (by rw[Zk];omega)⟩
  ·intro x M3 R' y3 rr
   sleep 8;refine⟨p,rfl,(y2.trans y3).pk,fun q M4 s4 y4=>?_⟩;refine⟨q,rfl,s4.mono %[|4],?_⟩;exact rr _ M4 (sh4 s4) y4
  intro L4 p4 M4 L41 L46 hL y4 l4;have a4:Asc (jn L4)/\(jn L4).length<=60:=by
   refine⟨UR fun p hp=>(hL p hp).1,?_⟩;have:=CK (l:=L4) (k:=7) fun p hp=>(hL p hp).2;omega
  refine⟨p4,rfl,L4,l4,jok %[|5] (fun p hp=>by have:=(hL p hp).2;omega),?_⟩;rw[show Txt.join (Str.ofString " ") L4=jn L4 from rfl];generalize jn L4=X at a4;have y14:=y2.trans y4;refine YY fun J hJ=>?_;have tail:∀ (X:Str) M5,Asc X->X.length<=60->Dr p M1 M5->J [some (.fz (ns.map .int)),some (.int ((i:Int)*2)),some (.lst p),some (.int k),some (.str X),w5,w6,w7] M5:=by
   clear a4 X;intro X M5 xa xl y5;refine hJ _ _ ?_;refine YY fun J2 hJ2=>?_;have tail2:∀ (X:Str) M5,Asc X->X.length<=60->Dr p M1 M5->J2 [some (.fz (ns.map .int)),some (.int ((i:Int)*2)),some (.lst p),some (.int k),some (.str X),w5,w6,w7] M5:=by
    clear xa xl y5;intro X M5 xa xl y5;refine hJ2 _ _ ?_;sleep 9;refine Vl (fun δ M'=>Dr p M1 M'/\∃ w5 w6 w7,δ=[some (.fz (ns.map .int)),some (.int ((i:Int)*2)),some (.lst p),some (.int k),some (.str X),w5,w6,w7]) (fun _ _ _=>trivial) ?_ ?_ ⟨y5,_,_,_,rfl⟩
    ·rintro δ M6 ⟨y6,w5,w6,w7,rfl⟩
     sleep 8;exact hN _ _ ⟨_,_,_,_,_,_,_,rfl⟩
    ·rintro x hx N2 hN2 δ M6 ⟨y6,w5,w6,w7,rfl⟩
     simp[0,vAt,vHd,Y4,and_assoc,sizeLine_eq,Y5,Yj,Ya,dFld,Ym,Yn,Yl];sleep 7;sleep 9;refine Ys y6.pk %[|4] %[|4] fun m M7 m0 m1 y7=>?_;dsimp only;refine⟨by omega,by omega,?_⟩;refine Zi (fun j δ M'=>Dr p M1 M'/\∃ (x5:Option DL.D) (Z:Str) (w7:Option DL.D),Asc Z/\Z.length<=60+3*j/\δ=[some (.fz (ns.map .int)),some (.int ((i:Int)*2)),some (.lst p),some (.int k),some (.str X),x5,some (.str Z),w7]) (fun _ _ _ _=>trivial) ?_ ?_ ⟨y6.trans y7,_,X,_,xa,xl,rfl⟩
     ·rintro δ M8 ⟨y8,x5,Z,w7,za,zl,rfl⟩
      rw[Zk] at zl;sleep 7;refine⟨k,Z,rfl,k0,k1,txA za %[|5],za,fun M9 x9=>?_⟩;sleep 8;exact hN2 _ _ ⟨y8.trans (Dr.ext y8.pk x9),_,_,_,rfl⟩
     ·rintro j x' hx' N3 hN3 δ M8 ⟨y8,x5,Z,w7,za,zl,rfl⟩
      obtain⟨rfl,hj'⟩:=XB hx';simp[0,vAt,vHd,Y4,and_assoc,sizeLine_eq,Y5,Yj,Ya,dFld,Ym,Yn,Yl];sleep 7;refine⟨p,Z,rfl,y8.pk,za,by omega,fun Z' M9 za' zl' y9=>?_⟩;sleep 8;exact hN3 _ _ ⟨y8.trans y9,_,Z',_,za',by omega,rfl⟩
   sleep 8;refine Yk false ?_;by_cases h2:k=2
   ·refine .inr ⟨by simp[h2],?_⟩
    (try dsimp only);rw[Y2];simp[0,vAt,vHd,Y4,and_assoc,sizeLine_eq,Y5,Yj,Ya,dFld,Ym,Yn,Yl,WL]
    refine Vw (α:=RJ) fun K hK=>?_;sleep 8;refine⟨p,rfl,y5.pk,fun r M6 g r4 lj y6=>?_⟩;show YH (D.tup (List.map rj r)) M6 K;rw[Iz];refine hK M6 _ r rj (fun j=>.str (Yc j)) (fun _ _=>trivial) %[|5] ?_ ?_
    ·intro q' hq' l M' R' hl' ee r'
     obtain⟨z,rfl⟩:=len1 hl';sleep 8;exact⟨q',rfl,(lj q' hq').sh.1,r' [_] M' rfl (.refl _)⟩
    intro p7 M7 e7 x7 l7;have l13:∀ p∈r.map Yc,p.length<=13:=fun p hp=>by
     obtain⟨j,hj,rfl⟩:=List.mem_map.mp hp;exact (lj j hj).sh.2
    refine⟨p7,rfl,r.map Yc,by rw[l7,List.map_map];rfl,jok3 (by rw[List.length_map];omega) (fun p hp=>by have:=l13 p hp;omega),?_⟩;refine tail2 _ _ (CM sepJ %[|4] %[|4] fun p hp=>?_) ?_ (y5.trans (y6.trans (Dr.ext y6.pk x7)))
    ·obtain⟨j,hj,rfl⟩:=List.mem_map.mp hp
     exact B0 j
    ·have:=CL sepJ (l:=r.map Yc) (k:=13) l13
     rw[List.length_map] at this;show (Txt.join "; " (r.map Yc)).length<=_;omega
   ·exact .inl ⟨by simp[h2],tail2 X M5 xa xl y5⟩
  sleep 8;refine Yk false ?_;by_cases h1:k=1
  ·refine .inr ⟨by simp[h1],?_⟩
   (try dsimp only);rw[Y2];simp[0,vAt,vHd,Y4,and_assoc,sizeLine_eq,Y5,Yj,Ya,dFld,Ym,Yn,Yl,WL]
   refine Vw (α:=Rat×Rat) fun K hK=>?_;sleep 8;refine⟨p,rfl,y14.pk,fun t M6 t2 t5 pc y6=>?_⟩;show YH (tb t) M6 K;rw[IA];refine hK M6 _ t pl (fun q=>.str (Ye q)) (fun _ _=>trivial) %[|5] ?_ ?_
   ·intro q' hq' l M' R' hl' ee r'
    obtain⟨z,rfl⟩:=len1 hl';sleep 8;exact⟨q',rfl,(pc q' hq').s1.mono %[|4],(pc q' hq').s2.mono %[|4],r' [_] M' rfl (.refl _)⟩
   intro p7 M7 e7 x7 l7;have l10:∀ p∈t.map Ye,p.length<=10:=fun p hp=>by
    obtain⟨j,hj,rfl⟩:=List.mem_map.mp hp;exact (pc j hj).len
   refine⟨p7,rfl,t.map Ye,by rw[l7,List.map_map];rfl,jok2 (by rw[List.length_map];omega) (fun p hp=>by have:=l10 p hp;omega),?_⟩;refine tail _ _ (CM sepC %[|4] %[|4] fun p hp=>?_) ?_ (y14.trans (y6.trans (Dr.ext y6.pk x7)))
   ·obtain⟨j,hj,rfl⟩:=List.mem_map.mp hp
    exact AT j
   ·have:=CL sepC (l:=t.map Ye) (k:=10) l10
    rw[List.length_map] at this;show (Txt.join ", " (t.map Ye)).length<=_;omega
  ·exact .inl ⟨by simp[h1],tail X _ a4.1 a4.2 y14⟩
end K
end
namespace PySem.W.Fast
set_option bootstrap.genMatcherCode true
local macro_rules | `(command| universe $xs*)=>do
  let cs<-xs.mapM fun x=>`(command| theorem $x :True:=⟨⟩)
  return Lean.mkNullNode cs
set_option bootstrap.genMatcherCode false
universe tw6602638865703010873 tw585632291005844825 tw14801268533867664552 tw10209935930199535759 tw1517308363675230840 tw9067505936191083273 tw16721739985156043017 tw4446013203375619454 tw12305922225569319 tw15686947451767160134 tw9463514486404794148 tw14201104657017197631 tw15711213266010344101 tw11858635125807835810 tw9134283335010725167 tw4259423427675851215 tw6595322914045132038 tw15228743234071782264 tw5650642324004808377 tw11268826663505412870 tw11985321966750827995 tw1678145215947645359 tw2355104368437531120 tw7143070791012481216 tw1220025925672170874 tw12195903066608877816 tw12123158978753110645 tw3285057017827543552 tw6641657530387536177 tw1692319188871016678 tw15036258722685613754 tw16571635995725409321 tw12183687508528061874 tw1673857974852340276 tw15700187109918663778 tw10086766874218549413 tw4185595237747740425 tw6446142222148886363 tw3527688232674278235 tw13261924939929966304
universe tw14352144417196817017 tw11930215497431352325 tw11298840592354150009 tw17108641210187234582 tw12188580109159934927 tw16573656301713038501 tw13926176857755294424 tw8374649869816356881 tw12877563059602735811 tw18238870997779199290 tw6245459186754296222 tw10538621531705420133 tw16603595776673021752 tw13505858222165026373 tw15542190516230798196 tw4130034238737424856 tw17793135446222716942 tw2033250746489515222 tw13467247645543877053 tw18010546001630461711 tw1356221899979320228 tw5659381749691560973 tw754811012771750707 tw13517044378396803668 tw6614778631193942608 tw3284518450816528816 tw2537490776168489814 tw6147323280984251679 tw10352741446076128927 tw12198834498100804764 tw13981697515898565818 tw991014878356419214 tw1293476741904148068 tw4602739514773554965 tw5540025884898602215 tw1034493145888232262 tw11405377491658682110 tw14355345807158257990 tw8988099054320428209 tw4287330157797947321
universe tw13809962058668752127 tw14359312043784006527 tw18034339113822303848 tw3961295475380741164 tw12293052462118244989 tw13241906130349436526 tw17210294789619400658 tw8373015770615507144 tw16189294002073845308 tw9114252918343445232 tw3562387113674300728 tw14048680685763178724 tw15545133827607724091 tw11060787966304316334 tw14868884551501110937 tw17992907298250714681 tw13501491872775178641 tw2801016663896094914 tw17209821755120992881 tw13514754860138850001 tw16936212389419158195 tw14688590913030893970 tw17972147382554159053 tw14087946881135798498 tw8329807020386137694 tw4196587106238439521 tw2620644185172135063 tw1546310417384334227 tw4207829391584653110 tw2194422189288788132 tw6298065112531378905 tw12484099466280269821 tw364835991724328954 tw5240881011986065311 tw2216007660135212415 tw8677755126522762897 tw13027806636731043144 tw6842933318052072965 tw3607178501105319436 tw11976046949356499490
universe tw11427507085880090620 tw13141427586447528044 tw2922945239643381188 tw6545756538554950485 tw1364275386940760586 tw12433271468769004956 tw3048914581716159660 tw3486460437072686664 tw7569721486304372587 tw17245912765055116113 tw387243565255078452 tw7046610215008100970 tw198830360847589280 tw1387273870408929583 tw16509426944278578588 tw2795470552909445536 tw2799477665018728951 tw14881957475227040575 tw18070941817933953573 tw15899855176021147553 tw14703301961710972872 tw4338770046165854733 tw597560486262688443 tw2267728537846289816 tw6378755741962327583 tw10138362005732373805 tw9749608826740303556 tw8352115538638667387 tw10712013579240800304 tw15299516687922493553 tw1207189708495804856 tw684169178161491178 tw1422837871298552922 tw15003950441420956243 tw5616186444360512314 tw3951029847491909338 tw4243926348523963454 tw3465394313426493169 tw4543447963869377980 tw10397444734686062772
universe tw15084007773623492929 tw10636137963365847436 tw7848831895746896842 tw9663862912033841538 tw9235744628691003681 tw13583515702469591168 tw3369537386642188492 tw16864497363099076432 tw7779473202282372151 tw11209893345389815333 tw5022980535826340328 tw11555585513998476586 tw8262870250078472760 tw3756377146634637321 tw9062240769121653446 tw15202503880756872558 tw5074489137173540321 tw14908149332370546196 tw16428109747299764223 tw10859942007912039 tw1530230137516534206 tw5851513383594775435 tw917555645340476827 tw5751868836828320511 tw17614318745971297280 tw4040856700137092168 tw2313685083669313608 tw17437650825224181242 tw13402773000240573641 tw6642365071905926791 tw3101893903120663070 tw13289193851852828423 tw8599387061391010653 tw14642329712146618356 tw15483560082191080315 tw16999532606350953212 tw6038307790451068163 tw1628810047417975046 tw8094703454331264994 tw8659744467081400115
universe tw17721375920254585151 tw11189355823491125380 tw770203894367570585 tw673362709172642003 tw9608766810271685108 tw13124933543558517154 tw12622174471849194690 tw10515992105270520541 tw13124217572516271959 tw3278347952210428783 tw351207419206654389 tw553988742376326767 tw7378674684400963493 tw17199465803944945730 tw18357873425944068204 tw15102293089285090387 tw1510190316106784214 tw6351360106807114489 tw10649288031594659089 tw13479288138000642086 tw1096496866131342918 tw17890841407125278092 tw15168638961445064901 tw13314226087996769019 tw4310941215698233447 tw15832826895275950479 tw8716180749941190427 tw9761067572370526361 tw16508760473172028761 tw12013515520736683881 tw8886920585724939530 tw855028859621818073 tw275047747047841729 tw6006919126380675995 tw11618093053577093477 tw1618547752029753323 tw982549978020339477 tw16294705666146432720 tw7918013267605289249 tw10502402275553239524
universe tw6085703005753712116 tw8865643125671086580 tw10167114628002109796 tw11548599799721764676 tw15826515800064666999 tw12054615459391899952 tw3574256931924218123 tw14684396271530086450 tw4025446454921724071 tw10748882003622444263 tw13088765337876599404 tw2906452097614965460 tw17835785901167827083 tw5618993189348930160 tw9714818548998375194 tw17711670002607795804 tw6274739000958046429 tw16858039974816320504 tw12154945533843767536 tw2688591231454599051 tw1975452766917028257 tw3505673420973013680 tw12822631345691503514 tw3210704811893728963 tw13574000841921266896 tw17718197133804844505 tw7147375744019556928 tw4072420467562218431 tw455526349741491207 tw9812411247375496964 tw3601236152794095421 tw9267646342520879231 tw8621343597474162853 tw7221960939068640794 tw11030578861467487921 tw15609927943085251001 tw15266368767897580031 tw15953735917237598487 tw2431303890863089287 tw4403510461964257817
universe tw8730907866850271290 tw5659724843033148708 tw16374683095977809748 tw13228459781340755528 tw3176295787478308131 tw8521934429648141498 tw17554512893264316692 tw3829337449937026640 tw14208128202285520431 tw12878105257799879659 tw14098394856019149317 tw13446999087557671992 tw6751624514720587427 tw10050849488084629156 tw14204744738855445722 tw1452655823433804865 tw664772565595700114 tw15281583169414896061 tw416783312867500064 tw3847476874671244036 tw15984125659754671203 tw13288052338668895958 tw938964664275520705 tw5259411689303198177 tw6951501497510800128 tw10203496601903079707 tw12174382577885762021 tw10144503026162595355 tw973775547652460944 tw610633680445760822 tw914362158058817343 tw9176637365908794313 tw13097042499109783337 tw14764007594180534287 tw5307147196426499674 tw91230076589076306 tw12620787212609294396 tw749148359371767432 tw1140666075011528345 tw12342875159873309375
universe tw9767832275804403825 tw2241323859144903365 tw1628944593116545292 tw988183231701794518 tw14502156129644092287 tw12039453283511516402 tw3225971940478677689 tw11474813487157262242 tw6072786034795842910 tw17061763507989091371 tw7881444889268194139 tw15076878347273841897 tw4716827034687424424 tw11633461702679400051 tw3462501336068553982
end PySem.W.Fast
namespace K
open PySem DL L2 PySem.W
set_option bootstrap.genMatcherCode true
local macro_rules
 | `(tactic| sleep 61)=>`(tactic| (rintro _ _ _ _ ⟨_,e,_⟩;rw[e];rfl))
 | `(tactic| sleep 62)=>`(tactic| (rintro _ _ _ _ ⟨_,_,e,_⟩;rw[e];rfl))
 | `(tactic| sleep 63)=>`(tactic| (rintro _ _ _ _ ⟨_,_,_,e,_⟩;rw[e];rfl))
 | `(tactic| sleep 64)=>`(tactic| (rintro _ _ _ _ ⟨_,_,_,_,e,_⟩;rw[e];rfl))
 | `(tactic| sleep 65)=>`(tactic| (rintro _ _ _ _ ⟨_,_,_,_,_,e,_⟩;rw[e];rfl))
 | `(tactic| sleep 66)=>`(tactic| (rintro _ _ _ _ ⟨_,_,_,_,_,_,e,_⟩;rw[e];rfl))
 | `(tactic| sleep 67)=>`(tactic| (rintro _ _ _ _ ⟨_,_,_,_,_,_,_,e,_⟩;rw[e];rfl))
 | `(tactic| sleep 68)=>`(tactic| (rintro _ _ _ _ ⟨_,_,_,_,_,_,_,_,e,_⟩;rw[e];rfl))
 | `(tactic| sleep 69)=>`(tactic| (rintro _ _ _ _ ⟨_,_,_,_,_,_,_,_,_,e,_⟩;rw[e];rfl))
 | `(tactic| sleep 71)=>`(tactic| (intros;rename_i us hl;obtain⟨_,e⟩:=us1 hl;subst e;rfl))
 | `(tactic| sleep 72)=>`(tactic| (intros;rename_i us hl;obtain⟨_,_,e⟩:=us2 hl;subst e;rfl))
 | `(tactic| sleep 73)=>`(tactic| (intros;rename_i us hl;obtain⟨_,_,_,e⟩:=us3 hl;subst e;rfl))
 | `(tactic| sleep 74)=>`(tactic| (intros;rename_i us hl;obtain⟨_,_,_,_,e⟩:=us4 hl;subst e;rfl))
set_option bootstrap.genMatcherCode false
set_option bootstrap.genMatcherCode true
local macro_rules | `(~~~$n:str)=>`(nsIn $(Lean.mkIdent `K) mainGlobals $n)
set_option bootstrap.genMatcherCode false
set_option bootstrap.genMatcherCode true
local macro_rules | `(#[$n:str,$s:ident,$f:ident,$o:ident,$p:ident,$a:ident,$b:ident,$c:ident,$d:ident,$e:ident,$g:ident,$h:ident])=>`($(Lean.mkIdent `K.lookup) $f=some ⟨$o,$p,.func (fnOf $n $n (ZT $s) (Z1 $s) (Yp $s) .none $a $b $c $d $e $g),$h⟩)
set_option bootstrap.genMatcherCode false
noncomputable def top (i:Nat):Stmt:=PySem.Challenge.pw_levelcord_k87_whole_texts_read_again.main.body.getD i (.Pass ⟨0,0,0,0⟩)
theorem D_0:DefIs (top 53) ["_law_signs_here"] 0 C_0 S_0:=⟨by sleep 50,by decide +kernel,fun _ _ _ _ h=>by obtain⟨e,_⟩:=h;rw[e];rfl,vc_0,fun _ _ _ _ _ _ _ us hl=>by obtain rfl:=us0 hl;rfl⟩
theorem D_1:DefIs (top 42) ["_law_pack_here","_law_size","_law_digit"] 2 C_1 S_1:=⟨by sleep 50,by decide +kernel,by sleep 63,vc_1,(by sleep 72)⟩
theorem D_2:DefIs (top 54) ["_law_pack_here","_law_text","_law_at","_law_odd","_law_signs_here"] 2 C_2 S_2:=⟨by sleep 50,by decide +kernel,by sleep 62,vc_2,(by sleep 72)⟩
theorem D_3:DefIs (top 48) ["_law_one","_law_text"] 1 C_3 S_3:=⟨by sleep 50,by decide +kernel,by sleep 61,vc_3,(by sleep 71)⟩
theorem D_4:DefIs (top 51) ["_law_job"] 1 C_4 S_4:=⟨by sleep 50,by decide +kernel,by sleep 61,vc_4,(by sleep 71)⟩
theorem D_5:DefIs (top 43) ["_law_top","_law_bottom","_law_one","_law_other"] 2 C_5 S_5:=⟨by sleep 50,by decide +kernel,by sleep 62,vc_5,(by sleep 72)⟩
theorem D_6:DefIs (top 45) ["_law_pack_here","_law_wide","_law_bottom"] 2 C_6 S_6:=⟨by sleep 50,by decide +kernel,by sleep 61,vc_6,(by sleep 72)⟩
theorem D_7:DefIs (top 49) ["_law_place"] 1 C_7 S_7:=⟨by sleep 50,by decide +kernel,by sleep 61,vc_7,(by sleep 71)⟩
theorem D_8:DefIs (top 46) ["_law_pack_here","_law_wide","_law_pick"] 2 C_8 S_8:=⟨by sleep 50,by decide +kernel,by sleep 61,vc_8,(by sleep 72)⟩
theorem D_9:DefIs (top 44) ["_law_one","_law_other"] 2 C_9 S_9:=⟨by sleep 50,by decide +kernel,by sleep 62,vc_9,(by sleep 72)⟩
theorem D_10:DefIs (top 47) ["_law_pack_here","_law_most","_law_wide","_law_here","_law_found","_law_turn"] 3 C_10 S_10:=⟨by sleep 50,by decide +kernel,by sleep 61,vc_10,(by sleep 73)⟩
theorem D_11:DefIs (top 50) ["_law_pack_here","_law_most","_law_found","_law_arrival","_law_due_here","_law_turn"] 2 C_11 S_11:=⟨by sleep 50,by decide +kernel,by sleep 61,vc_11,(by sleep 72)⟩
theorem D_12:DefIs (top 8) ["one","other"] 2 C_12 S_12:=⟨by sleep 50,by decide +kernel,by sleep 62,vc_12,(by sleep 72)⟩
theorem D_13:DefIs (top 6) ["one","other"] 2 C_13 S_13:=⟨by sleep 50,by decide +kernel,by sleep 62,vc_13,(by sleep 72)⟩
theorem D_14:DefIs (top 5) ["thing"] 1 C_14 S_14:=⟨by sleep 50,by decide +kernel,by sleep 62,vc_14,(by sleep 71)⟩
theorem D_15:DefIs (top 7) ["thing","top","bottom"] 1 C_15 S_15:=⟨by sleep 50,by decide +kernel,by sleep 61,vc_15,(by sleep 71)⟩
theorem D_16:DefIs (top 11) ["thing","least","most"] 3 C_16 S_16:=⟨by sleep 50,by decide +kernel,by sleep 63,vc_16,(by sleep 73)⟩
theorem D_17:DefIs (top 12) ["thing"] 1 C_17 S_17:=⟨by sleep 50,by decide +kernel,by sleep 61,vc_17,(by sleep 71)⟩
theorem D_18:DefIs (top 13) ["thing"] 1 C_18 S_18:=⟨by sleep 50,by decide +kernel,by sleep 61,vc_18,(by sleep 71)⟩
theorem D_19:DefIs (top 21) ["one","top","bottom"] 1 C_19 S_19:=⟨by sleep 50,by decide +kernel,by sleep 61,vc_19,(by sleep 71)⟩
theorem D_20:DefIs (top 22) ["text"] 1 C_20 S_20:=⟨by sleep 50,by decide +kernel,by sleep 61,vc_20,(by sleep 71)⟩
theorem D_21:DefIs (top 23) ["text","top","stroke","bottom","read"] 1 C_21 S_21:=⟨by sleep 50,by decide +kernel,by sleep 61,vc_21,(by sleep 71)⟩
theorem D_22:DefIs (top 31) ["text","low","dots","high","one","place"] 1 C_22 S_22:=⟨by sleep 50,by decide +kernel,by sleep 61,vc_22,(by sleep 71)⟩
theorem D_23:DefIs (top 27) ["places"] 1 C_23 S_23:=⟨by sleep 50,by decide +kernel,by sleep 61,vc_23,(by sleep 71)⟩
theorem D_24:DefIs (top 35) ["text","top","bottom"] 1 C_24 S_24:=⟨by sleep 50,by decide +kernel,by sleep 61,vc_24,(by sleep 71)⟩
theorem D_25:DefIs (top 36) ["text","words"] 1 C_25 S_25:=⟨by sleep 50,by decide +kernel,by sleep 61,vc_25,(by sleep 71)⟩
theorem D_26:DefIs (top 26) ["thing"] 1 C_26 S_26:=⟨by sleep 50,by decide +kernel,by sleep 61,vc_26,(by sleep 71)⟩
theorem D_27:DefIs (top 17) ["thing","arrival","due","work"] 1 C_27 S_27:=⟨by sleep 50,by decide +kernel,by sleep 61,vc_27,(by sleep 71)⟩
theorem D_28:DefIs (top 18) ["thing"] 1 C_28 S_28:=⟨by sleep 50,by decide +kernel,by sleep 61,vc_28,(by sleep 71)⟩
theorem D_29:DefIs (top 25) ["text","sign","read_part","may_stand","read","at","part"] 4 C_29 S_29:=⟨by sleep 50,by decide +kernel,by sleep 64,vc_29,(by sleep 74)⟩
theorem D_30:DefIs (top 33) ["text","places"] 1 C_30 S_30:=⟨by sleep 50,by decide +kernel,by sleep 61,vc_30,(by sleep 71)⟩
theorem D_31:DefIs (top 28) ["row"] 1 C_31 S_31:=⟨by sleep 50,by decide +kernel,by sleep 61,vc_31,(by sleep 71)⟩
theorem D_32:DefIs (top 29) ["text"] 1 C_32 S_32:=⟨by sleep 50,by decide +kernel,by sleep 61,vc_32,(by sleep 71)⟩
theorem D_33:DefIs (top 38) ["text"] 1 C_33 S_33:=⟨by sleep 50,by decide +kernel,by sleep 61,vc_33,(by sleep 71)⟩
theorem D_34:DefIs (top 55) ["_law_ask","_law_text","_law_found","e"] 2 C_34 S_34:=⟨by sleep 50,by decide +kernel,by sleep 63,vc_34,(by sleep 72)⟩
theorem D_35:DefIs (top 30) ["place","low","high"] 1 C_35 S_35:=⟨by sleep 50,by decide +kernel,by sleep 61,vc_35,(by sleep 71)⟩
theorem D_36:DefIs (top 32) ["tube"] 1 C_36 S_36:=⟨by sleep 50,by decide +kernel,by sleep 61,vc_36,(by sleep 71)⟩
theorem D_37:DefIs (top 56) ["_law_text"] 1 C_37 S_37:=⟨by sleep 50,by decide +kernel,by sleep 61,vc_37,(by sleep 71)⟩
theorem D_38:DefIs (top 57) ["_law_text","_law_pieces","_law_top","_law_plain","_law_one"] 1 C_38 S_38:=⟨by sleep 50,by decide +kernel,by sleep 61,vc_38,(by sleep 71)⟩
theorem D_39:DefIs (top 52) ["_law_one","_law_other"] 2 C_39 S_39:=⟨by sleep 50,by decide +kernel,by sleep 62,vc_39,(by sleep 72)⟩
theorem D_40:DefIs (top 58) ["_law_text","_law_some"] 1 C_40 S_40:=⟨by sleep 50,by decide +kernel,by sleep 61,vc_40,(by sleep 71)⟩
theorem D_41:DefIs (top 59) ["_law_text","_law_ahead","_law_words","_law_arrival","_law_due_here","_law_work"] 2 C_41 S_41:=⟨by sleep 50,by decide +kernel,by sleep 63,vc_41,(by sleep 72)⟩
theorem D_42:DefIs (top 60) ["_law_kind","_law_text","_law_found","_law_pieces","_law_place","_law_one"] 2 C_42 S_42:=⟨by sleep 50,by decide +kernel,by sleep 62,vc_42,(by sleep 72)⟩
theorem D_43:DefIs (top 34) ["job","arrival","due","work"] 1 C_43 S_43:=⟨by sleep 50,by decide +kernel,by sleep 61,vc_43,(by sleep 71)⟩
theorem D_44:DefIs (top 37) ["jobs"] 1 C_44 S_44:=⟨by sleep 50,by decide +kernel,by sleep 61,vc_44,(by sleep 71)⟩
theorem D_45:DefIs (top 61) ["_law_kind","_law_text","_law_due_here","_law_shown"] 2 C_45 S_45:=⟨by sleep 50,by decide +kernel,by sleep 62,vc_45,(by sleep 72)⟩
theorem D_46:DefIs (top 40) ["_law_cell"] 1 C_46 S_46:=⟨by sleep 50,by decide +kernel,by sleep 61,vc_46,(by sleep 71)⟩
theorem D_47:DefIs (top 41) ["_law_script","_law_k","_law_found","_law_at"] 2 C_47 S_47:=⟨by sleep 50,by decide +kernel,by sleep 62,vc_47,(by sleep 72)⟩
noncomputable abbrev s_48:Stmt:=top 62
theorem ck_48:isSs ⟨["_law_script","_law_k","_law_pack_here","_law_kind","_law_text","_law_turn","_law_some","_law_step"],Yp s_48,true,true⟩ true C_48 (Z1 s_48)=true:=by decide +kernel
theorem sc_48:FnScope ["_law_script","_law_k","_law_pack_here","_law_kind","_law_text","_law_turn","_law_some","_law_step"] ["_law_script"] (Yp s_48):=by sleep 50
theorem len_48:∀ ds M R E,SLaw ds M R E->ds.length=1:=by sleep 61
set_option maxHeartbeats 0 in
theorem all_mk {l:OpenLaw} {w:World} {K:Frag} {h:Heap} {mg:Str->Option Value} {fa:Addr} (X:K.In h) (G:h.Ns mainGlobals mg) (hfa:mg "law"=some (.ref fa))
  (h0:Has K "_law_signs" (top 53))
  (h1:Has K "_law_take" (top 42))
  (h2:Has K "_law_bent" (top 54))
  (h3:Has K "_law_number_text" (top 48))
  (h4:Has K "_law_job_text" (top 51))
  (h5:Has K "_law_low" (top 43))
  (h6:Has K "_law_number" (top 45))
  (h7:Has K "_law_place_text" (top 49))
  (h8:Has K "_law_width" (top 46))
  (h9:Has K "_law_more" (top 44))
  (h10:Has K "_law_loose_tube" (top 47))
  (h11:Has K "_law_jobs" (top 50))
  (h12:Has K "is_less" (top 8))
  (h13:Has K "greatest_divisor" (top 6))
  (h14:Has K "is_whole" (top 5))
  (h15:Has K "is_number" (top 7))
  (h16:Has K "are_numbers" (top 11))
  (h17:Has K "is_place" (top 12))
  (h18:Has K "is_tube" (top 13))
  (h19:Has K "show_number" (top 21))
  (h20:Has K "are_figures" (top 22))
  (h21:Has K "read_number" (top 23))
  (h22:Has K "read_place" (top 31))
  (h23:Has K "begins_tube" (top 27))
  (h24:Has K "read_hour" (top 35))
  (h25:Has K "read_job" (top 36))
  (h26:Has K "is_written_row" (top 26))
  (h27:Has K "is_job" (top 17))
  (h28:Has K "is_jobs" (top 18))
  (h29:Has K "read_parts" (top 25))
  (h30:Has K "read_tube" (top 33))
  (h31:Has K "show_row" (top 28))
  (h32:Has K "read_row" (top 29))
  (h33:Has K "read_jobs" (top 38))
  (h34:Has K "_law_told" (top 55))
  (h35:Has K "show_place" (top 30))
  (h36:Has K "show_tube" (top 32))
  (h37:Has K "_law_figures" (top 56))
  (h38:Has K "_law_number_of" (top 57))
  (h39:Has K "_law_under" (top 52))
  (h40:Has K "_law_place_of" (top 58))
  (h41:Has K "_law_job_of" (top 59))
  (h42:Has K "_law_due" (top 60))
  (h43:Has K "show_job" (top 34))
  (h44:Has K "show_jobs" (top 37))
  (h45:Has K "_law_right" (top 61))
  (h46:Has K "_law_mixed" (top 40))
  (h47:Has K "_law_pack" (top 41))
  (h48:Has K "law" s_48)
  (z0: ~~~"abs"=some none)
  (z1: ~~~"all"=some none)
  (z2: ~~~"any"=some none)
  (z3: ~~~"divmod"=some none)
  (z4: ~~~"isinstance"=some none)
  (z5: ~~~"len"=some none)
  (z6: ~~~"max"=some none)
  (z7: ~~~"min"=some none)
  (z8: ~~~"str"=some none)
  (z9: ~~~"tuple"=some none)
  (z10: ~~~"list"=some none)
  (z11: ~~~"int"=some none)
  (z12: ~~~"bool"=some none)
  (z13: ~~~"dict"=some none)
  (z14: ~~~"range"=some none)
  (z15: ~~~"ValueError"=some none)
  (z16: ~~~"sum"=some none)
  (z17: ~~~"zip"=some none)
  (z18: ~~~"enumerate"=some none)
  {C0:Tok} (gl0: ~~~"FIGURES"=some (some (.str "0123456789" C0)))
  {C1:Tok} (gl1: ~~~"MOST_HOURS"=some (some (.int 24 C1)))
  {C2:Tok} (gl2: ~~~"MOST_JOBS"=some (some (.int 12 C2)))
  {C3:Tok} (gl3: ~~~"MOST_PLACES"=some (some (.int 25 C3)))
  {C4:Addr} {ta4 tb4:Tok} {dx4:Option Addr} {sx4:Array (Option Value)} {mx4:Nat} (gl4: ~~~"NOUGHT"=some (some (.ref C4))) (lk4:K.lookup C4=some ⟨.type "tuple",dx4,.seq #[.int 0 ta4,.int 1 tb4] mx4,sx4⟩)
  {C5:Addr} (gl5: ~~~"NoText"=some (some (.ref C5)))
  (tab:Zj K=true)
  : ∃ fd:FuncData,(∀ (s:Shared) (v:Value),BindsTo s fd ⟨[v],[]⟩ [("_law_script",v)])/\∀ base:Heap,K.In base->base.Ns mainGlobals mg->FnOk l.prog w K mg base (CXR l.prog w) 49 fa fd ["_law_script"] (XY K SLaw):=by
 obtain @⟨f48,oc48,od48,an48,sl48,kV48,dc48,pm48,cd48,ct48,a48,l48,c48,k48⟩:=h48;have e:=hfa.symm.trans (mg_of X G a48);cases e;have B:Blt mg:=⟨fun b=>by cases b<;>first|exact mg_none_of X G z0|exact mg_none_of X G z1|exact mg_none_of X G z2|exact mg_none_of X G z3|exact mg_none_of X G z4|exact mg_none_of X G z5|exact mg_none_of X G z6|exact mg_none_of X G z7|exact mg_none_of X G z8|exact mg_none_of X G z9|exact mg_none_of X G z10|exact mg_none_of X G z11|exact mg_none_of X G z16,fun t=>by cases t<;>first|exact mg_none_of X G z0|exact mg_none_of X G z1|exact mg_none_of X G z2|exact mg_none_of X G z3|exact mg_none_of X G z4|exact mg_none_of X G z5|exact mg_none_of X G z6|exact mg_none_of X G z7|exact mg_none_of X G z8|exact mg_none_of X G z9|exact mg_none_of X G z10|exact mg_none_of X G z11|exact mg_none_of X G z12|exact mg_none_of X G z13|exact mg_none_of X G z15,mg_none_of X G z14,mg_none_of X G z17,mg_none_of X G z18⟩
 have F48:=JW (st:=s_48) l48 c48 k48;refine⟨fnOf "law" "law" (ZT s_48) (Z1 s_48) (Yp s_48) .none kV48 dc48 pm48 an48 cd48 ct48,fun s v=>.of_eq rfl,fun base _ _=>?_⟩;have Z:Zc l.prog w K h mg base:=⟨X,G,B,tab⟩;have G0:GloE K mg "FIGURES" U5:=⟨_,.str "0123456789",mg_of X G gl0,⟨_,rfl⟩,fun _=>.str _⟩;have G1:GloE K mg "MOST_HOURS" Wj:=⟨_,.int 24,mg_of X G gl1,⟨_,rfl⟩,fun _=>.int _⟩;have G2:GloE K mg "MOST_JOBS" WO:=⟨_,.int 12,mg_of X G gl2,⟨_,rfl⟩,fun _=>.int _⟩;have G3:GloE K mg "MOST_PLACES" ZX:=⟨_,.int 25,mg_of X G gl3,⟨_,rfl⟩,fun _=>.int _⟩;have G4:GloE K mg "NOUGHT" Jn:=Jc X G gl4 lk4;have G5:GloE K mg "NoText" (.cls "NoText"):=JU X G %[|4] gl5;have GF23:GloE K mg "begins_tube" (.fn "begins_tube"):=Yu X G h23;have GF28:GloE K mg "is_jobs" (.fn "is_jobs"):=Yu X G h28;have GF26:GloE K mg "is_written_row" (.fn "is_written_row"):=Yu X G h26;have GF25:GloE K mg "read_job" (.fn "read_job"):=Yu X G h25
 have GF33:GloE K mg "read_jobs" (.fn "read_jobs"):=Yu X G h33;have GF21:GloE K mg "read_number" (.fn "read_number"):=Yu X G h21;have GF22:GloE K mg "read_place" (.fn "read_place"):=Yu X G h22;have GF32:GloE K mg "read_row" (.fn "read_row"):=Yu X G h32;have GF30:GloE K mg "read_tube" (.fn "read_tube"):=Yu X G h30;have GF44:GloE K mg "show_jobs" (.fn "show_jobs"):=Yu X G h44;have GF31:GloE K mg "show_row" (.fn "show_row"):=Yu X G h31;have GF36:GloE K mg "show_tube" (.fn "show_tube"):=Yu X G h36;have E0:=DefIs.ok 0 D_0 h0 Z (by sleep 51);have E1:=DefIs.ok 1 D_1 h1 Z (by sleep 51);have E2:=DefIs.ok 2 D_2 h2 Z (by sleep 51);have E3:=DefIs.ok 3 D_3 h3 Z (by sleep 51);have E4:=DefIs.ok 4 D_4 h4 Z (by sleep 51);have E5:=DefIs.ok 5 D_5 h5 Z (by sleep 51);have E6:=DefIs.ok 6 D_6 h6 Z (by sleep 51);have E7:=DefIs.ok 7 D_7 h7 Z (by sleep 51);have E8:=DefIs.ok 8 D_8 h8 Z (by sleep 51);have E9:=DefIs.ok 9 D_9 h9 Z (by sleep 51)
 have E10:=DefIs.ok 10 D_10 h10 Z (by sleep 51);have E11:=DefIs.ok 11 D_11 h11 Z (by sleep 51);have E12:=DefIs.ok 12 D_12 h12 Z (by sleep 51);have E13:=DefIs.ok 13 D_13 h13 Z (by sleep 51);have E14:=DefIs.ok 14 D_14 h14 Z (by sleep 51);have E15:=DefIs.ok 15 D_15 h15 Z (by sleep 51);have E16:=DefIs.ok 16 D_16 h16 Z (by sleep 51);have E17:=DefIs.ok 17 D_17 h17 Z (by sleep 51);have E18:=DefIs.ok 18 D_18 h18 Z (by sleep 51);have E19:=DefIs.ok 19 D_19 h19 Z (by sleep 51);have E20:=DefIs.ok 20 D_20 h20 Z (by sleep 51);have E21:=DefIs.ok 21 D_21 h21 Z (by sleep 51);have E22:=DefIs.ok 22 D_22 h22 Z (by sleep 51);have E23:=DefIs.ok 23 D_23 h23 Z (by sleep 51);have E24:=DefIs.ok 24 D_24 h24 Z (by sleep 51);have E25:=DefIs.ok 25 D_25 h25 Z (by sleep 51);have E26:=DefIs.ok 26 D_26 h26 Z (by sleep 51);have E27:=DefIs.ok 27 D_27 h27 Z (by sleep 51);have E28:=DefIs.ok 28 D_28 h28 Z (by sleep 51);have E29:=DefIs.ok 29 D_29 h29 Z (by sleep 51)
 have E30:=DefIs.ok 30 D_30 h30 Z (by sleep 51);have E31:=DefIs.ok 31 D_31 h31 Z (by sleep 51);have E32:=DefIs.ok 32 D_32 h32 Z (by sleep 51);have E33:=DefIs.ok 33 D_33 h33 Z (by sleep 51);have E34:=DefIs.ok 34 D_34 h34 Z (by sleep 51);have E35:=DefIs.ok 35 D_35 h35 Z (by sleep 51);have E36:=DefIs.ok 36 D_36 h36 Z (by sleep 51);have E37:=DefIs.ok 37 D_37 h37 Z (by sleep 51);have E38:=DefIs.ok 38 D_38 h38 Z (by sleep 51);have E39:=DefIs.ok 39 D_39 h39 Z (by sleep 51);have E40:=DefIs.ok 40 D_40 h40 Z (by sleep 51);have E41:=DefIs.ok 41 D_41 h41 Z (by sleep 51);have E42:=DefIs.ok 42 D_42 h42 Z (by sleep 51);have E43:=DefIs.ok 43 D_43 h43 Z (by sleep 51);have E44:=DefIs.ok 44 D_44 h44 Z (by sleep 51);have E45:=DefIs.ok 45 D_45 h45 Z (by sleep 51);have E46:=DefIs.ok 46 D_46 h46 Z (by sleep 51);have E47:=DefIs.ok 47 D_47 h47 Z (by sleep 51);exact Db (k:=48) C_48 F48 B tab sc_48 ck_48 (by sleep 51) len_48 vc_48
end K
set_option bootstrap.genMatcherCode true
open PySem PySem.W PyProof.Rows
set_option maxRecDepth 100000 in
set_option maxHeartbeats 0 in
theorem PySem.Challenge.cw_levelcord_k87_whole_texts_read_again_holds : PySem.Challenge.rw_levelcord_k87_whole_texts_read_again.Holds := by
 w_on;o_law;k_head;(case hw=>w_witness2)
 k_fill
 refine DL.walkD (l:=PySem.Challenge.rw_levelcord_k87_whole_texts_read_again) (k:=49) (x:="_law_script") rfl rfl ⟨rfl,by decide,by decide⟩ (fun w h Y=>PySem.W.kIn_of Y) ?F
 case F =>
  intro w mg fa h KX G hmg;refine' K.all_mk KX G hmg ?h0 ?h1 ?h2 ?h3 ?h4 ?h5 ?h6 ?h7 ?h8 ?h9 ?h10 ?h11 ?h12 ?h13 ?h14 ?h15 ?h16 ?h17 ?h18 ?h19 ?h20 ?h21 ?h22 ?h23 ?h24 ?h25 ?h26 ?h27 ?h28 ?h29 ?h30 ?h31 ?h32 ?h33 ?h34 ?h35 ?h36 ?h37 ?h38 ?h39 ?h40 ?h41 ?h42 ?h43 ?h44 ?h45 ?h46 ?h47 ?h48 ?z0 ?z1 ?z2 ?z3 ?z4 ?z5 ?z6 ?z7 ?z8 ?z9 ?z10 ?z11 ?z12 ?z13 ?z14 ?z15 ?z16 ?z17 ?z18 ?gl0 ?gl1 ?gl2 ?gl3 ?gl4 ?lk4 ?gl5 ?tab
  case h0|h1|h2|h3|h4|h5|h6|h7|h8|h9|h10|h11|h12|h13|h14|h15|h16|h17|h18|h19|h20|h21|h22|h23|h24|h25|h26|h27|h28|h29|h30|h31|h32|h33|h34|h35|h36|h37|h38|h39|h40|h41|h42|h43|h44|h45|h46|h47|h48=>(refine' DL.Has.mk ?a ?l ?c ?k;case a|l|c|k=>k_is)
  case z0|z1|z2|z3|z4|z5|z6|z7|z8|z9|z10|z11|z12|z13|z14|z15|z16|z17|z18|gl0|gl1|gl2|gl3|gl4|lk4|gl5=>k_is
  (case tab=>kernel_rfl)
