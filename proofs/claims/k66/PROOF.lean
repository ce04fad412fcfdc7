import PyProof.Rows.All
import Wide.All
import OpenK.AllK
import Wide.FinOn
import Lean
import PyProof.EqAt
import PyProof.EqKinds
import PyProof.TupleCall
import PyProof.SumAnyB
import PySem.Challenge.RW_levelcord_k66_parts_of_jobs
set_option Elab.async false
set_option linter.all false
set_option maxRecDepth 100000
set_option maxHeartbeats 4000000
set_option genSizeOf false
local macro_rules
 | `(tactic| simp[0,$xs,*])=>do
  let ys:=("isSub dVar dC d2 dNil dCons dTup dLst dCB dCall dTest dAnd dOr dNot dAndV dOrV dIfE bInt bOp cInt cOp fAbs fMax fMin fStr fDivmod fInt truD dTru dChain dNotB dNeg dNoPart dPart dSl dDic0 dDic1 dRev dNext dSeq dBreak dCont dDrop dRet dRetN dIfS dNever gdName gdNil gdCons gdSub dAsg dPar dTwo dAug itRng fSum dApp dExt dIns dIdx biSem tyStr CGs.len plain rE rEs rO rG rGs rI dRaise dTry rS startD".splitOn " ").toArray.map fun s=>(⟨Lean.mkNode `Lean.Parser.Tactic.simpLemma #[Lean.mkNullNode,Lean.mkNullNode,Lean.mkIdent (`DL++s.toName)]⟩:Lean.TSyntax `Lean.Parser.Tactic.simpLemma)
  `(tactic| simp[$ys,*,$xs,*])
 | `(tactic| dsimp only[0,$xs,*])=>do
  let ys:=("isSub dVar dC d2 dNil dCons dTup dLst dCB dCall dTest dAnd dOr dNot dAndV dOrV dIfE bInt bOp cInt cOp fAbs fMax fMin fStr fDivmod fInt truD dTru dChain dNotB dNeg dNoPart dPart dSl dDic0 dDic1 dRev dNext dSeq dBreak dCont dDrop dRet dRetN dIfS dNever gdName gdNil gdCons gdSub dAsg dPar dTwo dAug itRng fSum dApp dExt dIns dIdx biSem tyStr CGs.len plain rE rEs rO rG rGs rI dRaise dTry rS startD".splitOn " ").toArray.map fun s=>(⟨Lean.mkNode `Lean.Parser.Tactic.simpLemma #[Lean.mkNullNode,Lean.mkNullNode,Lean.mkIdent (`DL++s.toName)]⟩:Lean.TSyntax `Lean.Parser.Tactic.simpLemma)
  `(tactic| dsimp only[$ys,*,$xs,*])
local macro_rules | `(tactic| omega)=>`(tactic| lia)
set_option bootstrap.genMatcherCode false
set_option bootstrap.genMatcherCode true
local macro_rules | `(%[$xs,*|$n])=>match n.raw.isNatLit? with
 | some 0=>do
  let mut r:Lean.Term<-`(.nil)
  for x in xs.getElems.reverse do r<-`(.cons $x $r)
  return r
 | some 1=>`(⟨fun _ _=>rfl,fun _ _=>rfl,fun _=>rfl,fun _ _=>rfl,fun _ _ _ _=>rfl⟩)
 | some 2=>`((fun _ _ _ z=>nomatch z))
 | some 3=>`((Nat.le_refl _))
 | some 4=>`(by decide)
 | some 5=>`(by omega)
 | _=>Lean.Macro.throwUnsupported
set_option bootstrap.genMatcherCode false
open PySem.W (Frag hideAll)
noncomputable section
namespace L2
open PySem PySem.Spec PyProof.Rows
abbrev Key:=Sum Int Str
noncomputable def keyIs:Key->Value->Bool
 | .inl k,v=>Value.isInt k v
 | .inr x,v=>Value.isStrOf x v
noncomputable def keyH (w:World):Key->Int
 | .inl k=>hashInt k
 | .inr x=>hashStr w x
theorem keyIs_shape:∀ {k:Key} {v:Value},keyIs k v=true->(∃ i t,k=Sum.inl i/\v=Value.int i t)\/(∃ x t,k=Sum.inr x/\v=Value.str x t)
 | .inl i,v,h=>by
  obtain⟨t,e⟩:=Value.isInt_shape (k:=i) (v:=v) h;exact .inl ⟨i,t,rfl,e⟩
 | .inr x,v,h=>by
  obtain⟨t,e⟩:=Value.isStrOf_shape (x:=x) (v:=v) h;exact .inr ⟨x,t,rfl,e⟩
theorem key_ll (a b:Int):decide ((Sum.inl a:Key)=Sum.inl b)=(a==b):=by
 by_cases e:a=b
 ·subst e;simp
 ·have h:¬ (Sum.inl a:Key)=Sum.inl b:=fun q=>e (Sum.inl.inj q)
  rw[decide_eq_false h];exact (beq_eq_false_iff_ne.mpr e).symm
theorem key_rr (a b:Str):decide ((Sum.inr a:Key)=Sum.inr b)=decide (a=b):=by
 by_cases e:a=b
 ·subst e;simp
 ·have h:¬ (Sum.inr a:Key)=Sum.inr b:=fun q=>e (Sum.inr.inj q)
  rw[decide_eq_false h,decide_eq_false e]
theorem key_lr (a:Int) (b:Str):decide ((Sum.inl a:Key)=Sum.inr b)=false:=decide_eq_false (fun q=>nomatch q)
theorem key_rl (a:Str) (b:Int):decide ((Sum.inr a:Key)=Sum.inl b)=false:=decide_eq_false (fun q=>nomatch q)
noncomputable def mixKind (prog:Program) (w:World):PySem.KeyKind prog w Key where
 is:=keyIs
 hash:=keyH w
 inj:=fun v a b ha hb=>by
  rcases keyIs_shape ha with ⟨i,t,rfl,rfl⟩|⟨x,t,rfl,rfl⟩
  ·rcases keyIs_shape hb with ⟨j,u,rfl,e⟩|⟨y,u,rfl,e⟩
   ·injection e with e1 _;rw[e1]
   ·exact nomatch e
  ·rcases keyIs_shape hb with ⟨j,u,rfl,e⟩|⟨y,u,rfl,e⟩
   ·exact nomatch e
   ·injection e with e1 _;rw[e1]
 byValue:=fun k v h=>by
  rcases keyIs_shape h with ⟨i,t,rfl,rfl⟩|⟨x,t,rfl,rfl⟩<;>rfl
 pyHash:=fun hv h=>by
  rcases keyIs_shape hv with ⟨i,t,rfl,rfl⟩|⟨x,t,rfl,rfl⟩
  ·exact wpAny_pyHash_int h
  ·exact wpAny_pyHash_str h
 eqBool:=fun hu hv h=>by
  rcases keyIs_shape hu with ⟨i,t,rfl,rfl⟩|⟨x,t,rfl,rfl⟩
  ·rcases keyIs_shape hv with ⟨j,u,rfl,rfl⟩|⟨y,u,rfl,rfl⟩
   ·rw[key_ll] at h;exact wpAny_eqBool_int h
   ·rw[key_lr] at h;exact SeqAt.EqAt.int_str i t y u _ _ _ _ h
  ·rcases keyIs_shape hv with ⟨j,u,rfl,rfl⟩|⟨y,u,rfl,rfl⟩
   ·rw[key_rl] at h;exact SeqAt.EqAt.str_int x t j u _ _ _ _ h
   ·rw[key_rr] at h;exact wpAny_eqBool_str h
 «strs»:=fun k x t v h=>by
  rcases keyIs_shape h with ⟨i,u,rfl,e⟩|⟨y,u,rfl,e⟩
  ·exact nomatch e
  ·injection e with e1 _
   subst e1;cases v<;>rfl
end L2
namespace L2
open PySem PySem.Spec PyProof.Rows
inductive V where
 | non|bl (b:Bool)|int (i:Int)|str (x:Str)|byt (b:Array UInt8)|flt (b:UInt64)|ref (a:Addr)|ty (n:String)
 deriving DecidableEq
noncomputable def RelV:V->Value->Prop
 | .non,u=>u=Value.none
 | .bl b,u=>u=Value.bool b
 | .int i,u=>∃ t,u=Value.int i t
 | .str x,u=>∃ t,u=Value.str x t
 | .byt b,u=>∃ t,u=Value.bytes b t
 | .flt b,u=>∃ t,u=Value.float b t
 | .ref a,u=>u=Value.ref a
 | .ty n,u=>u=Value.type n
abbrev Vals:List V->List Value->Prop:=Paired RelV
theorem Vals.length (r:Vals xs us):xs.length=us.length:=Paired.length r
theorem Vals.get:∀ {xs:List V} {us:List Value} {i:Nat} {x:V},Vals xs us->xs[i]?=some x->∃ u,us[i]?=some u/\RelV x u
 | _,_,_,_,.nil,e=>by simp at e
 | _,_,0,_,.cons r _,e=>by simp at e;subst e;exact⟨_,rfl,r⟩
 | _,_,i+1,x,.cons _ t,e=>by
  obtain⟨u,h1,h2⟩:=Vals.get (i:=i) (x:=x) t (by simpa using e);exact⟨u,by simpa using h1,h2⟩
theorem Vals.set (r:RelV x u):∀ {xs:List V} {us:List Value} (i:Nat),Vals xs us->Vals (xs.set i x) (us.set i u)
 | _,_,_,.nil=>.nil
 | _,_,0,.cons _ t=>.cons r t
 | _,_,i+1,.cons q t=>.cons q (Vals.set r i t)
theorem Vals.append:∀ {xs ys:List V} {us ws:List Value},Vals xs us->Vals ys ws->Vals (xs++ys) (us++ws)
 | _,_,_,_,.nil,s=>s
 | _,_,_,_,.cons r t,s=>.cons r (Vals.append t s)
theorem Vals.take:∀ {xs:List V} {us:List Value} (n:Nat),Vals xs us->Vals (xs.take n) (us.take n)
 | _,_,0,_=>.nil
 | _,_,_+1,.nil=>.nil
 | _,_,n+1,.cons r t=>.cons r (Vals.take n t)
theorem Vals.drop:∀ {xs:List V} {us:List Value} (n:Nat),Vals xs us->Vals (xs.drop n) (us.drop n)
 | _,_,0,r=>r
 | _,_,_+1,.nil=>.nil
 | _,_,n+1,.cons _ t=>Vals.drop n t
noncomputable def RelO:Option V->Option Value->Prop
 | some v,some u=>RelV v u
 | none,none=>True
 | _,_=>False
noncomputable def KV {κ:Type}:List (κ×V)->List (κ×Value)->Prop:=Paired fun (p:κ×V) (q:κ×Value)=>p.1=q.1/\RelV p.2 q.2
noncomputable def kV:Key->V
 | .inl i=>.int i
 | .inr x=>.str x
inductive HO where
 | lst (xs:List V)
 | tup (xs:List V)
 | dK (kvs:List (Key×V))|dT (kvs:List (List Key×V))
 | set (S:Int->Bool) (n:Nat)
 | ins (C dx:Addr) (fs:List (Str×V))
 | own (x:Addr)
 | xd (fs:List (Str×V))
 | met (f x:Addr)
 | rng (lo hi:Int)
 | frz (o:Obj) (u:HO)
 | tbl (ps:Array Value)
 | ext (φ:Heap->Prop)
abbrev Hp:=Addr->Option HO
noncomputable def upd (H:Hp) (a:Addr) (o:HO):Hp:=fun b=>if b=a then some o else H b
theorem upd_same:upd H a o a=some o:=by unfold upd;rw[if_pos rfl]
theorem upd_ne (h:b≠a):upd H a o b=H b:=by unfold upd;rw[if_neg h]
theorem ne_of_none {H:Hp} {a b:Addr} {o:HO} (h:H a=some o) (h':H b=none):a≠b:=by
 intro e;subst e;rw[h] at h';cases h'
section
variable (P:Program) (w:World)
noncomputable def ObjOk (H:Hp) (h:Heap) (a:Addr):HO->Prop
 | .lst xs=>xs.length<=sizeLine/\∃ (its:List Value) (n:Nat),Vals xs its/\h.get? a=some {cls:=.type "list",data:=.seq its.toArray n}
 | .tup xs=>xs.length<=sizeLine/\∃ its:List Value,Vals xs its/\IsTup h a its.toArray
 | .dK kvs=>kvs.length<=sizeLine/\(a==sysModules)=false/\∃ vs,KV kvs vs/\h.DictOf (mixKind P w) a vs
 | .dT kvs=>kvs.length<=sizeLine/\(a==sysModules)=false/\∃ xs:List (List Key×Addr×Value),
   Paired (fun (p:List Key×V) (q:List Key×Addr×Value)=>p.1=q.1/\H q.2.1=some (.tup (p.1.map kV))/\RelV p.2 q.2.2) kvs xs /\
   ∃ o es ep,h.get? a=some o/\o.ExactDict/\o.data=.dict es ep/\es.toList=xs.map (entryOfKey (tupleKind (mixKind P w)))/\(xs.map (·.1)).Nodup
 | .set S n=>h.SetOf (intKind P w) a S n
 | .ins C dx fs=>H dx=some (.own a)/\fs.length<=1000/\dx≠a/\h.get? a=some (PySem.W.instObj C dx) /\
   ∃ mA,h.Ns1 dx mA/\(∀ f,RelO (fs.lookup f) (mA f))/\PySem.Within mA (fs.map (·.1))
 | .own _=>∃ o,h.get? a=some o
 | .xd fs=>∃ mA,h.Ns1 a mA/\∀ f,RelO (fs.lookup f) (mA f)
 | .rng lo hi=>∃ t u v,h.get? a=some {cls:=.type "range",data:=.fields #[.int lo t,.int hi u,.int 1 v]}
 | .frz o u=>h.get? a=some o/\ObjOk H h a u
 | .tbl ps=>h.get? a=some {cls:=.none,data:=.fields ps}
 | .met f x=>h.get? a=some (PySem.W.methodObj (.ref f) (.ref x))
 | .ext φ=>φ h/\(∃ o,h.get? a=some o)/\∀ h1 h2:Heap,φ h1->(∀ o,h1.get? a=some o->h2.get? a=some o)->φ h2
noncomputable def HOk (H:Hp) (h:Heap):Prop:=∀ a o,H a=some o->ObjOk P w H h a o
end
section
variable {P:Program} {w:World} {H H':Hp} {h h':Heap} {a:Addr} {o:HO}
theorem ObjOk.lt (x:ObjOk P w H h a o):a<h.objs.size:=by
 cases o with
 | lst xs=>obtain⟨_,_,_,_,e⟩:=x;exact Heap.lt_size e
 | tup xs=>obtain⟨_,_,_,p⟩:=x;exact p.lt
 | dK kvs=>obtain⟨_,_,_,_,o,_,_,e,_⟩:=x;exact Heap.lt_size e
 | dT kvs=>obtain⟨_,_,_,_,o,_,_,e,_⟩:=x;exact Heap.lt_size e
 | set S n=>obtain⟨o,_,_,_,e,_⟩:=x;exact Heap.lt_size e
 | ins C dx fs=>obtain⟨_,_,_,e,_⟩:=x;exact Heap.lt_size e
 | own y=>obtain⟨_,e⟩:=x;exact Heap.lt_size e
 | xd fs=>obtain⟨_,⟨_,_,_,e,_⟩,_⟩:=x;exact Heap.lt_size e
 | rng lo hi=>obtain⟨_,_,_,e⟩:=x;exact Heap.lt_size e
 | frz ob u=>obtain⟨e,_⟩:=x;exact Heap.lt_size e
 | tbl ps=>exact Heap.lt_size (show h.get? a=some _ from x)
 | met f y=>exact Heap.lt_size (show h.get? a=some _ from x)
 | ext φ=>obtain⟨_,⟨_,e⟩,_⟩:=x;exact Heap.lt_size e
theorem Paired.mapP:∀ {l₁:List α} {l₂:List β},Paired F l₁ l₂->(∀ a b,F a b->G a b)->Paired G l₁ l₂
 | _,_,.nil,_=>.nil
 | _,_,.cons r t,f=>.cons (f _ _ r) (Paired.mapP t f)
theorem ObjOk.stay (x:ObjOk P w H h a o) (k:∀ b u,(b=a\/H b=some (.own a))->h.get? b=some u->h'.get? b=some u)
  (ho:∀ b,H b=some (.own a)->H' b=some (.own a)) (ht:∀ b xs,H b=some (.tup xs)->H' b=some (.tup xs)):ObjOk P w H' h' a o:=by
 induction o with
 | lst xs=>obtain⟨z,its,n,r,e⟩:=x;exact⟨z,its,n,r,k _ _ (.inl rfl) e⟩
 | tup xs=>obtain⟨z,its,r,ob,e,c⟩:=x;exact⟨z,its,r,ob,k _ _ (.inl rfl) e,c⟩
 | dK kvs=>obtain⟨z,y,vs,r,ob,es,ep,e,c⟩:=x;exact⟨z,y,vs,r,ob,es,ep,k _ _ (.inl rfl) e,c⟩
 | dT kvs =>
  obtain⟨z,y,xs,r,ob,es,ep,e,c⟩:=x;exact⟨z,y,xs,Paired.mapP r fun p q z=>⟨z.1,ht _ _ z.2.1,z.2.2⟩,ob,es,ep,k _ _ (.inl rfl) e,c⟩
 | set S n=>obtain⟨ob,es,ep,t,e,c⟩:=x;exact⟨ob,es,ep,t,k _ _ (.inl rfl) e,c⟩
 | ins C dx fs =>
  obtain⟨d,z,ne,e,mA,⟨od,es,ep,e2,c⟩,r⟩:=x;exact⟨ho _ d,z,ne,k _ _ (.inl rfl) e,mA,⟨od,es,ep,k _ _ (.inr d) e2,c⟩,r⟩
 | own y=>obtain⟨ob,e⟩:=x;exact⟨ob,k _ _ (.inl rfl) e⟩
 | xd fs=>obtain⟨mA,⟨od,es,ep,e,c⟩,r⟩:=x;exact⟨mA,⟨od,es,ep,k _ _ (.inl rfl) e,c⟩,r⟩
 | rng lo hi=>obtain⟨t,u,v,e⟩:=x;exact⟨t,u,v,k _ _ (.inl rfl) e⟩
 | frz ob u ih=>obtain⟨e,q⟩:=x;exact⟨k _ _ (.inl rfl) e,ih q⟩
 | tbl ps =>
  have e:h.get? a=some {cls:=.none,data:=.fields ps}:=x;show h'.get? a=some {cls:=.none,data:=.fields ps};exact k a _ (.inl rfl) e
 | met f y =>
  have e:h.get? a=some (PySem.W.methodObj (.ref f) (.ref y)):=x;show h'.get? a=some (PySem.W.methodObj (.ref f) (.ref y));exact k a _ (.inl rfl) e
 | ext φ=>obtain⟨p,⟨o,e⟩,st⟩:=x;exact⟨st _ _ p fun o q=>k _ _ (.inl rfl) q,⟨o,k _ _ (.inl rfl) e⟩,st⟩
theorem HOk.lt (x:HOk P w H h) (e:H a=some o):a<h.objs.size:=(x a o e).lt
theorem HOk.fresh (x:HOk P w H h) (e:h.objs.size<=a):H a=none:=by
 cases q:H a with
 | none=>rfl
 | some u=>exact absurd (Nat.lt_of_lt_of_le (x.lt q) e) (Nat.lt_irrefl _)
theorem HOk.kept (x:HOk P w H h) (k:∀ b u,h.get? b=some u->h'.get? b=some u):HOk P w H h':=fun a o e =>
 (x a o e).stay (fun b u _ q=>k b u q) (fun _ q=>q) fun _ _ q=>q
theorem HOk.laid (x:HOk P w H h) (k:∀ b u,h.get? b=some u->h'.get? b=some u) (hp:h.objs.size<=a) (new:ObjOk P w (upd H a o) h' a o):HOk P w (upd H a o) h':=fun b u e=>by
 have hn:=x.fresh hp;by_cases hb:b=a
 ·subst hb;rw[upd_same] at e;cases e;exact new
 ·rw[upd_ne hb] at e
  exact (x b u e).stay (fun c v _ q=>k c v q) (fun c q=>by rw[upd_ne (ne_of_none q hn)];exact q) fun c xs q=>by rw[upd_ne (ne_of_none q hn)];exact q
end
noncomputable def Rd (H:Hp) (a:Addr) (u:HO):Prop:=H a=some u\/∃ o,H a=some (.frz o u)
theorem Rd.of (h:H a=some u):Rd H a u:=.inl h
theorem Rd.ok (r:Rd H a u) (x:HOk P w H h):ObjOk P w H h a u:=by
 rcases r with r|⟨o,r⟩
 ·exact x a u r
 ·obtain⟨_,q⟩:=x a _ r
  exact q
noncomputable def Mut:Option HO->Prop
 | some (.lst _)=>True
 | some (.dK _)=>True
 | some (.dT _)=>True
 | some (.set _ _)=>True
 | some (.ins _ _ _)=>True
 | some (.ext _)=>True
 | _=>False
section
variable {P:Program} {w:World} {H:Hp} {h h':Heap} {x e:Addr} {o':HO}
theorem HOk.write (ok:HOk P w H h) (mu:Mut (H x)) (he:e=x\/H e=some (.own x)) (k:∀ b u,b≠e->h.get? b=some u->h'.get? b=some u) (heo:∃ u,h'.get? e=some u)
  (new:ObjOk P w (upd H x o') h' x o'):HOk P w (upd H x o') h':=fun b u q=>by
 have nown:∀ c y,H c=some (.own y)->c≠x:=fun c y r z=>by subst z;rw[r] at mu;exact mu
 have ntup:∀ c xs,H c=some (.tup xs)->c≠x:=fun c xs r z=>by subst z;rw[r] at mu;exact mu
 by_cases hb:b=x
 ·subst hb;rw[upd_same] at q;cases q;exact new
 ·rw[upd_ne hb] at q
  by_cases hbe:b=e
  ·have q':H b=some (.own x):=by
    rcases he with z|z
    ·exact absurd (hbe.trans z) hb
    ·rw[hbe];exact z
   rw[q] at q';cases q';obtain⟨v,hv⟩:=heo;exact⟨v,by rw[hbe];exact hv⟩
  ·refine (ok b u q).stay (fun c v hc r=>k c v ?_ r) (fun c r=>by rw[upd_ne (nown c b r)];exact r) fun c xs r=>by rw[upd_ne (ntup c xs r)];exact r
   rcases hc with rfl|hc
   ·exact hbe
   ·rintro rfl
    rcases he with z|z
    ·exact nown c b hc z
    ·rw[hc] at z;cases z;exact hb rfl
end
structure Un (fs ex:List Addr) (H H':Hp) (h h':Heap):Prop where
 keep:∀ b o,h.get? b=some o->H b=none->b ∉ fs->b ∉ ex->h'.get? b=some o
 slot:∀ b o,h.get? b=some o->H b=none->b∈fs->b ∉ ex->∃ sl,h'.get? b=some {o with slots:=sl}
 free:∀ b o,h.get? b=some o->H b=none->b ∉ ex->H' b=none
 there:∀ b o,h.get? b=some o->b ∉ ex->∃ o',h'.get? b=some o'
 tups:∀ b xs,H b=some (.tup xs)->H' b=some (.tup xs)
 frzs:∀ b o u,H b=some (.frz o u)->H' b=some (.frz o u)
 tbls:∀ b ps,H b=some (.tbl ps)->∃ more,H' b=some (.tbl (ps++more))
section
variable {fs fs' ex ex':List Addr} {H H1 H2:Hp} {h h1 h2 h':Heap} {a x e:Addr} {o:HO}
theorem Un.any (u:Un fs ex H H1 h h1) (q:h.get? b=some ob) (n:H b=none) (hx:b ∉ ex):∃ sl,h1.get? b=some {ob with slots:=sl}:=by
 by_cases hb:b∈fs
 ·exact u.slot b ob q n hb hx
 ·exact⟨ob.slots,u.keep b ob q n hb hx⟩
theorem Un.trans (a:Un fs ex H H1 h h1) (b:Un fs ex H1 H2 h1 h2):Un fs ex H H2 h h2 where
 keep:=fun c ob q n hc hx=>b.keep c ob (a.keep c ob q n hc hx) (a.free c ob q n hx) hc hx
 slot:=fun c ob q n hc hx=>by
  obtain⟨sl,e1⟩:=a.slot c ob q n hc hx;obtain⟨sl',e2⟩:=b.slot c _ e1 (a.free c ob q n hx) hc hx;exact⟨sl',e2⟩
 free:=fun c ob q n hx=>by
  obtain⟨o',e1⟩:=a.there c ob q hx;exact b.free c o' e1 (a.free c ob q n hx) hx
 there:=fun c ob q hx=>by
  obtain⟨o',e1⟩:=a.there c ob q hx;exact b.there c o' e1 hx
 tups:=fun c xs q=>b.tups c xs (a.tups c xs q)
 frzs:=fun c ob xs q=>b.frzs c ob xs (a.frzs c ob xs q)
 tbls:=fun c ps q=>by
  obtain⟨m1,e1⟩:=a.tbls c ps q;obtain⟨m2,e2⟩:=b.tbls c _ e1;exact⟨m1++m2,by rw[e2,Array.append_assoc]⟩
theorem Un.kept (k:∀ b u,h.get? b=some u->h'.get? b=some u):Un fs ex H H h h' :=
 ⟨fun b ob q _ _ _=>k b ob q,fun b ob q _ _ _=>⟨ob.slots,k b ob q⟩,fun _ _ _ n _=>n,fun b ob q _=>⟨ob,k b ob q⟩,fun _ _ q=>q,fun _ _ _ q=>q,fun _ ps q=>⟨#[],by rw[q];simp⟩⟩
theorem Un.refl:Un fs ex H H h h:=Un.kept fun _ _ q=>q
theorem Un.laid (k:∀ b u,h.get? b=some u->h'.get? b=some u) (hp:h.objs.size<=a) (hn:H a=none):Un fs ex H (upd H a o) h h' where
 keep:=fun b u q _ _ _=>k b u q
 slot:=fun b u q _ _ _=>⟨u.slots,k b u q⟩
 free:=fun b u q n _=>by rw[upd_ne (Nat.ne_of_lt (Nat.lt_of_lt_of_le (Heap.lt_size q) hp))];exact n
 there:=fun b u q _=>⟨u,k b u q⟩
 tups:=fun b xs q=>by rw[upd_ne (ne_of_none q hn)];exact q
 frzs:=fun b u xs q=>by rw[upd_ne (ne_of_none q hn)];exact q
 tbls:=fun b ps q=>⟨#[],by rw[upd_ne (ne_of_none q hn),q];simp⟩
theorem Un.write (mu:Mut (H x)) (he:e=x\/H e=some (.own x)) (k:∀ b u,b≠e->h.get? b=some u->h'.get? b=some u) (heo:∃ u,h'.get? e=some u):Un fs ex H (upd H x o) h h':=by
 have hx:∀ b,H b=none->b≠x:=fun b n z=>by subst z;rw[n] at mu;exact mu
 have hb:∀ b,H b=none->b≠e:=fun b n z=>by
  subst z;rcases he with r|r
  ·exact hx b n r
  ·rw[n] at r;cases r
 have hm:∀ b u,H b=some u->¬ Mut (some u)->b≠x:=fun b u q nm z=>by subst z;rw[q] at mu;exact nm mu
 refine⟨fun b u q n _ _=>k b u (hb b n) q,fun b u q n _ _=>⟨u.slots,k b u (hb b n) q⟩,fun b u q n _=>by rw[upd_ne (hx b n)];exact n,fun b u q _=>?_,
  fun b xs q=>by rw[upd_ne (hm b _ q fun z=>z)];exact q,fun b u xs q=>by rw[upd_ne (hm b _ q fun z=>z)];exact q,fun b ps q=>⟨#[],by rw[upd_ne (hm b _ q fun z=>z),q];simp⟩⟩
 by_cases hbe:b=e
 ·subst hbe;exact heo
 ·exact⟨u,k b u hbe q⟩
theorem Un.mono (u:Un fs ex H H1 h h1) (hs:∀ b∈fs,b∈fs') (hx:∀ b∈ex,b∈ex'):Un fs' ex' H H1 h h1 :=
 ⟨fun b ob q n hb he=>u.keep b ob q n (fun z=>hb (hs b z)) fun z=>he (hx b z),fun _ _ q n _ he=>u.any q n fun z=>he (hx _ z),fun b ob q n he=>u.free b ob q n fun z=>he (hx b z),fun b ob q he=>u.there b ob q fun z=>he (hx b z),u.tups,u.frzs,u.tbls⟩
end
noncomputable def trk (h:Heap) (H:Hp):List Addr:=(List.range h.objs.size).filter fun a=>(H a).isSome
noncomputable def hidT (h:Heap) (H:Hp):Heap:=hideAll h (trk h H)
theorem hidT_size (h:Heap) (H:Hp):(hidT h H).objs.size=h.objs.size:=PySem.W.hideAll_size _ _
theorem hidT_get (e:h.get? b=some o) (n:H b=none):(hidT h H).get? b=some o :=
 PySem.W.hideAll_get _ e fun hm=>by
  have q:(H b).isSome=true:=(List.mem_filter.mp hm).2;rw[n] at q;simp at q
theorem of_hidT (e:(hidT h H).get? b=some o):h.get? b=some o/\H b=none:=by
 have e':h.get? b=some o:=PySem.W.of_hideAll (trk h H) e;refine⟨e',?_⟩;cases q:H b with
 | none=>rfl
 | some x =>
  have hm:b∈trk h H:=List.mem_filter.mpr ⟨List.mem_range.mpr (Heap.lt_size e'),by simp[q]⟩;have z:(hidT h H).get? b=none:=PySem.W.hideAll_none (trk h H) hm;rw[z] at e;cases e
noncomputable def allNews (g h:Heap) (L:Addr):List (Addr×Obj):=(List.range h.objs.size).filterMap fun a=>if a=L\/(g.get? a).isSome=true then none else (h.get? a).map fun o=>(a,o)
noncomputable def rest (g h:Heap) (L d:Addr):List (Addr×Obj):=(allNews g h L).filter fun p=>decide (p.1≠d)
end L2
namespace L2
open PySem PySem.Spec PyProof.Rows
structure Mod (K:Frag) (mg:Str->Option Value) (base:Heap):Prop where
 kin:K.In base
 glob:base.Ns mainGlobals mg
 blt:∃ mb,base.Ns builtinsNs mb/\∀ x:Str,x≠"__name__"->mb x=bootBuiltins x
 nolimit:base.NoLimit
structure Cx where
 prog:Program
 w:World
 K:Frag
 mg:Str->Option Value
 base:Heap
 A:Around
 N:List Str
 s₀:Shared
 H₀:Hp
 env:Env
 outer:List Env
 stack:List Env
 ex:List Addr
 fn:Str->Bool
 calm:Bool
 pn:List (Addr×Obj)
 xe:Value->Shared->Prop
noncomputable def frs (l:List Env):List Addr:=l.filterMap (·.frame)
abbrev Cx.fs (X:Cx):List Addr:=frs X.outer
noncomputable def Vis (sc:Scope) (x:Str):Prop:=sc.names.lookup x=some .local\/sc.names.lookup x=some .cell\/sc.names.lookup x=some .free
noncomputable def Loc (sc:Scope) (x:Str):Prop:=sc.names.lookup x=some .local\/sc.names.lookup x=some .cell
noncomputable def Look (env:Env) (h:Heap) (m:Str->Option Value) (x:Str) (u:Value):Prop :=
 (env.kindOf x=some .local/\m x=some u)\/((env.kindOf x=some .cell\/env.kindOf x=some .free)/\∃ c,env.cells.lookup x=some c/\h.IsCell c (some u))
structure Cx.Ok (X:Cx):Prop where
 mod:Mod X.K X.mg X.base
 kind:X.env.scope.kind=.function
 glob:X.env.globals=mainGlobals
 blt:X.env.builtins=builtinsNs
 above:X.s₀.heap.objs.size<=X.env.locals
 inj:∀ x y c,X.env.cells.lookup x=some c->X.env.cells.lookup y=some c->x=y
 has:∀ x,(X.env.kindOf x=some .cell\/X.env.kindOf x=some .free)->∃ c,X.env.cells.lookup x=some c
 cab:∀ x c,X.fn x=true->X.env.cells.lookup x=some c->X.s₀.heap.objs.size<=c
 hd:X.calm=true->X.A.handled=none
 frames:X.A.frames=some X.stack
 stk:X.stack=X.outer\/(X.stack=X.env::X.outer/\X.env.frame=some X.env.locals)
 exf:∀ b∈X.ex,b≠X.env.locals/\∀ x c,X.env.cells.lookup x=some c->c≠b
 bs:∀ b o,X.base.get? b=some o->X.s₀.heap.get? b=some o/\X.H₀ b=none
 bsz:X.base.objs.size<=X.s₀.heap.objs.size
 noex:∀ b o,X.base.get? b=some o->b ∉ X.ex
 exfs:∀ b∈X.ex,b ∉ X.fs
 funs:X.s₀.heap.FunFrames X.base X.outer
 frf:∀ b∈X.fs,X.H₀ b=none
structure Inv (X:Cx) (pins:List (Addr×Obj)) (σ:List (Option V)) (H:Hp) (s:Shared):Prop where
 ok:X.Ok
 os:s.os=X.s₀.os
 bare:AllBare s.gens
 base:Un X.fs X.ex X.H₀ H X.s₀.heap s.heap
 loc:∃ m,s.heap.Ns X.env.locals m/\∀ (i:Nat) (x:Str) (v:V),X.N[i]?=some x->σ[i]?=some (some v)->Vis X.env.scope x->∃ u,RelV v u/\Look X.env s.heap m x u
 cell:∀ x c,X.env.cells.lookup x=some c->∃ v,s.heap.IsCell c v
 free:H X.env.locals=none
 freeC:∀ x c,X.env.cells.lookup x=some c->H c=none
 pin:∀ p∈X.pn++pins,s.heap.get? p.1=some p.2/\H p.1=none/\p.1≠X.env.locals/\p.1 ∉ X.fs/\∀ v,p.2.data≠.cell v
 hok:HOk X.prog X.w H s.heap
 len:σ.length=X.N.length
section
variable {X:Cx} {pins:List (Addr×Obj)} {σ:List (Option V)} {H H':Hp} {s:Shared} {h':Heap}
theorem Cx.Ok.nofr (ok:X.Ok) (e:X.base.get? b=some o):b ∉ X.fs:=fun hb=>by
 have:=(ok.funs.mem hb).1;rw[e] at this;cases this
theorem Inv.bs (I:Inv X pins σ H s):∀ b o,X.base.get? b=some o->s.heap.get? b=some o/\H b=none:=fun b o e =>
 ⟨I.base.keep b o (I.ok.bs b o e).1 (I.ok.bs b o e).2 (I.ok.nofr e) (I.ok.noex b o e),I.base.free b o (I.ok.bs b o e).1 (I.ok.bs b o e).2 (I.ok.noex b o e)⟩
theorem Inv.bk (I:Inv X pins σ H s):∀ b o,X.base.get? b=some o->s.heap.get? b=some o:=fun b o e=>(I.bs b o e).1
theorem Inv.mod (I:Inv X pins σ H s):Mod X.K X.mg X.base:=I.ok.mod
theorem Inv.kIn (I:Inv X pins σ H s):X.K.In s.heap:=I.ok.mod.kin.keeps I.bk
theorem Inv.lt (I:Inv X pins σ H s):X.env.locals<s.heap.objs.size:=let ⟨_,hn,_⟩:=I.loc;hn.lt
theorem Inv.sz (I:Inv X pins σ H s):X.s₀.heap.objs.size<=s.heap.objs.size:=Nat.le_trans I.ok.above (Nat.le_of_lt I.lt)
theorem Inv.nofs (I:Inv X pins σ H s) (h:s.heap.objs.size<=a):a ∉ X.fs:=fun hb=>by
 obtain⟨_,o,ho,_⟩:=I.ok.funs.mem hb;exact absurd (Nat.lt_of_lt_of_le (Heap.lt_size ho) (Nat.le_trans I.sz h)) (Nat.lt_irrefl _)
theorem Inv.cne (I:Inv X pins σ H s):∀ x c,X.env.cells.lookup x=some c->c≠X.env.locals:=fun x c e z=>by
 obtain⟨v,o,ho,hd⟩:=I.cell x c e;obtain⟨m,⟨o',es,ep,ho',hd',_⟩,_⟩:=I.loc;rw[z,ho'] at ho;cases ho;rw[hd'] at hd;cases hd
theorem Inv.funs (I:Inv X pins σ H s):s.heap.FunFrames X.base X.outer:=by
 have all:∀ (l:List Env),(∀ b∈frs l,b∈X.fs)->X.s₀.heap.FunFrames X.base l->s.heap.FunFrames X.base l:=by
  intro l
  induction l with
  | nil=>intro _ _;trivial
  | cons env r ih =>
   intro hs hl;obtain⟨hk,⟨L,o,hf,hn,ho,hd⟩,hr⟩:=hl;have hL:L∈X.fs:=hs L (by unfold frs;rw[List.filterMap_cons,hf];exact List.mem_cons_self);obtain⟨sl,e⟩:=I.base.slot L o ho (I.ok.frf L hL) hL fun z=>I.ok.exfs L z hL;exact⟨hk,⟨L,_,hf,hn,e,hd⟩,ih (fun b hb=>hs b (by unfold frs;rw[List.filterMap_cons,hf];exact List.mem_cons_of_mem _ hb)) hr⟩
 exact all X.outer (fun _ hb=>hb) I.ok.funs
theorem Inv.stack (I:Inv X pins σ H s):s.heap.FunFrames X.base X.stack:=by
 rcases I.ok.stk with e|⟨e,hf⟩
 ·rw[e];exact I.funs
 ·rw[e]
  obtain⟨m,hn,_⟩:=I.loc;refine .cons (by rw[I.ok.kind];decide) hf hn ?_ I.funs;exact Heap.get?_none_of_le (Nat.le_trans I.ok.bsz I.ok.above)
theorem Inv.stkSub (I:Inv X pins σ H s):∀ b∈frs X.stack,b∈X.env.locals::X.fs:=fun b hb=>by
 rcases I.ok.stk with e|⟨e,hf⟩
 ·rw[e] at hb;exact List.mem_cons_of_mem _ hb
 ·rw[e] at hb
  unfold frs at hb;rw[List.filterMap_cons,hf] at hb;exact hb
theorem Inv.stkFree (I:Inv X pins σ H s):∀ b∈frs X.stack,H b=none:=fun b hb=>by
 rcases List.mem_cons.mp (I.stkSub b hb) with e|hb
 ·rw[e];exact I.free
 ·obtain⟨_,o,ho,_⟩:=I.ok.funs.mem hb
  exact I.base.free b o ho (I.ok.frf b hb) fun z=>I.ok.exfs b z hb
theorem Inv.step {g':Array GenState} {t':Nat} {d':Drawn} {ch:List Addr} (I:Inv X pins σ H s)
  (hch:∀ b∈ch,(b∈X.ex\/X.s₀.heap.objs.size<=b)/\b≠X.env.locals/\(∀ x c,X.env.cells.lookup x=some c->c≠b)/\∀ p∈X.pn++pins,p.1≠b)
  (keep:∀ b o,b≠X.env.locals->b ∉ X.fs->b ∉ ch->s.heap.get? b=some o->H b=none->h'.get? b=some o)
  (slot:∀ b o,b≠X.env.locals->b∈X.fs->b ∉ ch->s.heap.get? b=some o->H b=none->∃ sl,h'.get? b=some {o with slots:=sl}) (free:∀ b o,b ∉ ch->s.heap.get? b=some o->H b=none->H' b=none)
  (there:∀ b o,b ∉ ch->s.heap.get? b=some o->∃ o',h'.get? b=some o')
  (tups:∀ b xs,H b=some (.tup xs)->H' b=some (.tup xs)) (frzs:∀ b o u,H b=some (.frz o u)->H' b=some (.frz o u)) (tbls:∀ b ps,H b=some (.tbl ps)->∃ more,H' b=some (.tbl (ps++more)))
  (ns:∀ m,s.heap.Ns X.env.locals m->h'.Ns X.env.locals m) (hok:HOk X.prog X.w H' h') (hg:AllBare g') :
  Inv X pins σ H' {s with heap:=h',gens:=g',drawn:=d',toks:=t'}:=by
 have neL:∀ b o,X.s₀.heap.get? b=some o->b≠X.env.locals:=fun b o e=>Nat.ne_of_lt (Nat.lt_of_lt_of_le (Heap.lt_size e) I.ok.above);have neC:∀ b o,X.s₀.heap.get? b=some o->b ∉ X.ex->b ∉ ch:=fun b o e hx hb=>by
  rcases (hch b hb).1 with z|z
  ·exact hx z
  ·exact absurd (Nat.lt_of_lt_of_le (Heap.lt_size e) z) (Nat.lt_irrefl _)
 have cellK:∀ x c,X.env.cells.lookup x=some c->∀ v,s.heap.IsCell c v->h'.IsCell c v:=fun x c e v ⟨o,ho,hd⟩=>by
  have nch:c ∉ ch:=fun z=>(hch c z).2.2.1 x c e rfl;by_cases hc:c∈X.fs
  ·obtain⟨sl,q⟩:=slot c o (I.cne x c e) hc nch ho (I.freeC x c e)
   exact⟨_,q,hd⟩
  ·exact⟨o,keep c o (I.cne x c e) hc nch ho (I.freeC x c e),hd⟩
 refine⟨I.ok,I.os,hg,⟨fun b o e n hb hx=>?_,fun b o e n hb hx=>?_,fun b o e n hx=>?_,fun b o e hx=>?_,fun b xs e=>tups b xs (I.base.tups b xs e),fun b o xs e=>frzs b o xs (I.base.frzs b o xs e),fun b ps e=>?_⟩,?_,fun x c e=>?_,?_,fun x c e=>?_,fun p hp=>?_,hok,I.len⟩
 ·exact keep b o (neL b o e) hb (neC b o e hx) (I.base.keep b o e n hb hx) (I.base.free b o e n hx)
 ·obtain⟨sl,e1⟩:=I.base.slot b o e n hb hx
  obtain⟨sl',e2⟩:=slot b _ (neL b o e) hb (neC b o e hx) e1 (I.base.free b o e n hx);exact⟨sl',e2⟩
 ·obtain⟨o',e1⟩:=I.base.there b o e hx
  exact free b o' (neC b o e hx) e1 (I.base.free b o e n hx)
 ·obtain⟨o',e1⟩:=I.base.there b o e hx
  exact there b o' (neC b o e hx) e1
 ·obtain⟨m1,e1⟩:=I.base.tbls b ps e
  obtain⟨m2,e2⟩:=tbls b _ e1;exact⟨m1++m2,by rw[e2,Array.append_assoc]⟩
 ·obtain⟨m,hn,hl⟩:=I.loc
  refine⟨m,ns m hn,fun i x v e1 e2 e3=>?_⟩;obtain⟨u,r,l⟩:=hl i x v e1 e2 e3;refine⟨u,r,?_⟩;rcases l with l|⟨k,c,e,z⟩
  ·exact .inl l
  ·exact .inr ⟨k,c,e,cellK x c e _ z⟩
 ·obtain⟨v,z⟩:=I.cell x c e
  exact⟨v,cellK x c e v z⟩
 ·obtain⟨m,⟨o,_,_,ho,_⟩,_⟩:=I.loc
  exact free _ o (fun z=>(hch _ z).2.1 rfl) ho I.free
 ·obtain⟨v,o,ho,hd⟩:=I.cell x c e
  exact free c o (fun z=>(hch c z).2.2.1 x c e rfl) ho (I.freeC x c e)
 ·obtain⟨e,n,ne,nf,d⟩:=I.pin p hp
  have nch:p.1 ∉ ch:=fun z=>(hch p.1 z).2.2.2 p hp rfl;exact⟨keep p.1 p.2 ne nf nch e n,free p.1 p.2 nch e n,ne,nf,d⟩
theorem Inv.un {t':Nat} (I:Inv X pins σ H s) (u:Un X.fs [] H H' s.heap h') (hok:HOk X.prog X.w H' h'):Inv X pins σ H' {s with heap:=h',toks:=t'}:=by
 obtain⟨m,⟨o,es,ep,ho,r⟩,_⟩:=id I.loc;obtain⟨sl,hL⟩:=u.any ho I.free (by simp);exact I.step (g':=s.gens) (d':=s.drawn) (ch:=[]) (fun _ z=>nomatch z) (fun b o _ hb _ e n=>u.keep b o e n hb (by simp)) (fun b o _ hb _ e n=>u.slot b o e n hb (by simp)) (fun b o _ e n=>u.free b o e n (by simp)) (fun b o _ e=>u.there b o e (by simp)) u.tups u.frzs u.tbls (fun m' hm=>by
  obtain⟨o',es',ep',ho',r'⟩:=hm;rw[ho] at ho';cases ho';exact⟨_,es',ep',hL,r'⟩) hok I.bare
theorem Inv.call {g':Array GenState} {t':Nat} {d':Drawn} {ch:List Addr} (I:Inv X pins σ H s) (u:Un (frs X.stack) ch H H' s.heap h') (hok:HOk X.prog X.w H' h') (hg:AllBare g')
  (hch:∀ b∈ch,(b∈X.ex\/X.s₀.heap.objs.size<=b)/\b≠X.env.locals/\(∀ x c,X.env.cells.lookup x=some c->c≠b)/\∀ p∈X.pn++pins,p.1≠b) :
  Inv X pins σ H' {s with heap:=h',gens:=g',drawn:=d',toks:=t'}:=by
 obtain⟨m,⟨o,es,ep,ho,r⟩,_⟩:=id I.loc;obtain⟨sl,hL⟩:=u.any ho I.free fun z=>(hch _ z).2.1 rfl;exact I.step (ch:=ch) hch (fun b o hL hb hc e n=>u.keep b o e n (fun z=>(List.mem_cons.mp (I.stkSub b z)).elim hL hb) hc) (fun b o _ _ hc e n=>u.any e n hc) (fun b o hc e n=>u.free b o e n hc) (fun b o hc e=>u.there b o e hc) u.tups u.frzs u.tbls (fun m' hm=>by
  obtain⟨o',es',ep',ho',r'⟩:=hm;rw[ho] at ho';cases ho';exact⟨_,es',ep',hL,r'⟩) hok hg
theorem Inv.turned {t':Nat} {it:Addr} (I:Inv X pins σ H s) (k:∀ b o,b≠it->s.heap.get? b=some o->h'.get? b=some o) (hn:H it=none) (hL:it≠X.env.locals)
  (h1:it∈X.ex\/X.s₀.heap.objs.size<=it) (h2:∀ x c,X.env.cells.lookup x=some c->c≠it) (h3:∀ p∈X.pn++pins,p.1≠it):Inv X pins σ H {s with heap:=h',toks:=t'}:=by
 have nit:∀ b u,H b=some u->b≠it:=fun b u e z=>by rw[z,hn] at e;cases e
 refine I.step (g':=s.gens) (d':=s.drawn) (ch:=[it]) (fun b hb=>?_) (fun b o _ _ hc e _=>k b o (fun z=>hc (by simp[z])) e) (fun b o _ _ hc e _=>⟨o.slots,k b o (fun z=>hc (by simp[z])) e⟩) (fun _ _ _ _ n=>n)
  (fun b o hc e=>⟨o,k b o (fun z=>hc (by simp[z])) e⟩) (fun _ _ e=>e) (fun _ _ _ e=>e) (fun b ps e=>⟨#[],by rw[e];simp⟩) (fun m hm=>?_) (fun b u e=>?_) I.bare
 ·have e:b=it:=by simpa using hb
  subst e;exact⟨h1,hL,h2,h3⟩
 ·obtain⟨o,es,ep,ho,r⟩:=hm
  exact⟨o,es,ep,k _ o (Ne.symm hL) ho,r⟩
 ·refine (I.hok b u e).stay (fun c v hc q=>k c v ?_ q) (fun _ q=>q) fun _ _ q=>q
  rcases hc with z|z
  ·rw[z];exact nit b u e
  ·exact nit c _ z
theorem Inv.tok (I:Inv X pins σ H s) (t:Nat):Inv X pins σ H {s with toks:=t}:=I.un (h':=s.heap) (t':=t) Un.refl I.hok
theorem Inv.kept (I:Inv X pins σ H s) (k:∀ b u,s.heap.get? b=some u->h'.get? b=some u):Inv X pins σ H {s with heap:=h',toks:=t'}:=I.un (Un.kept k) (I.hok.kept k)
theorem Inv.laid (I:Inv X pins σ H s) (k:∀ b u,s.heap.get? b=some u->h'.get? b=some u) (hp:s.heap.objs.size<=a) (new:ObjOk X.prog X.w (upd H a o) h' a o) :
  Inv X pins σ (upd H a o) {s with heap:=h',toks:=t'}:=I.un (Un.laid k hp (I.hok.fresh hp)) (I.hok.laid k hp new)
theorem Inv.write (I:Inv X pins σ H s) (mu:Mut (H x)) (he:e=x\/H e=some (.own x)) (k:∀ b u,b≠e->s.heap.get? b=some u->h'.get? b=some u) (heo:∃ u,h'.get? e=some u)
  (new:ObjOk X.prog X.w (upd H x o) h' x o):Inv X pins σ (upd H x o) {s with heap:=h',toks:=t'}:=I.un (Un.write mu he k heo) (I.hok.write mu he k heo new)
theorem Inv.pins_of (I:Inv X pins σ H s) (h:∀ p∈pins',s.heap.get? p.1=some p.2/\H p.1=none/\p.1≠X.env.locals/\p.1 ∉ X.fs/\∀ v,p.2.data≠.cell v):Inv X pins' σ H s :=
 ⟨I.ok,I.os,I.bare,I.base,I.loc,I.cell,I.free,I.freeC,fun p hp=>(List.mem_append.mp hp).elim (fun z=>I.pin p (List.mem_append_left _ z)) (h p),I.hok,I.len⟩
theorem nodup_ix {N:List Str} (hN:N.Nodup) {i j:Nat} {x:Str} (a:N[i]?=some x) (b:N[j]?=some x):i=j:=by
 obtain⟨h1,e1⟩:=List.getElem?_eq_some_iff.mp a;obtain⟨h2,e2⟩:=List.getElem?_eq_some_iff.mp b;exact (List.getElem_inj hN).mp (e1.trans e2.symm)
theorem store_ok2 {M:Model} {A:Around} {E:Value->Shared->Prop} {i:Nat} {x:Str} {v:V} {u:Value} {Q:Unit->Shared->Prop} (I:Inv X pins σ H s) (hN:X.N.Nodup) (hi:X.N[i]?=some x) (hx:Loc X.env.scope x) (r:RelV v u)
  (h:∀ s',Inv X pins (σ.set i (some v)) H s'->(∃ a,Heap.SameBut a s.heap s'.heap/\(a=X.env.locals\/X.env.cells.lookup x=some a))->Q () s') (hf:X.fn x=true\/X.env.scope.names.lookup x=some .local:=by first|exact .inl rfl|exact .inr rfl|assumption):wpAny M A (storeName X.env x u) Q E s:=by
 obtain⟨m,hn,hl⟩:=id I.loc;have hcls:(X.env.scope.kind==.class || (X.env.scope.kind==.module&&X.env.locals != X.env.globals))=false:=by rw[I.ok.kind];rfl
 have hiσ:i < σ.length:=by rw[I.len];exact (List.getElem?_eq_some_iff.mp hi).1
 have cne:=I.cne;have tracked:∀ {a:Addr} {h':Heap},(∃ o,s.heap.get? a=some o/\H a=none)->Heap.SameBut a s.heap h'->HOk X.prog X.w H h':=fun {a h'} ha hs b ob e=>by
  obtain⟨_,_,hfree⟩:=ha;refine (I.hok b ob e).stay (fun c w' hc q=>(hs.2 c ?_).trans q) (fun _ q=>q) fun _ _ q=>q;rintro rfl;rcases hc with rfl|hc
  ·rw[hfree] at e;cases e
  ·rw[hfree] at hc;cases hc
 rcases hx with hk|hk
 ·refine wpAny_storeName_local hk hn (fun h' hn' hs=>?_) hcls
  obtain⟨oL,_,_,hoL,_⟩:=id hn;refine h _ ⟨I.ok,I.os,I.bare,⟨fun b o e n hb hx=>?_,fun b o e n hb hx=>?_,I.base.free,fun b o e hx=>?_,I.base.tups,I.base.frzs,I.base.tbls⟩,⟨_,hn',fun j y v' e1 e2 e3=>?_⟩,fun y c e=>?_,I.free,I.freeC,fun p hp=>?_,tracked ⟨oL,hoL,I.free⟩ hs,by simpa using I.len⟩ ⟨_,hs,.inl rfl⟩
  ·exact (hs.2 b (Nat.ne_of_lt (Nat.lt_of_lt_of_le (Heap.lt_size e) I.ok.above))).trans (I.base.keep b o e n hb hx)
  ·obtain⟨sl,e1⟩:=I.base.slot b o e n hb hx
   exact⟨sl,(hs.2 b (Nat.ne_of_lt (Nat.lt_of_lt_of_le (Heap.lt_size e) I.ok.above))).trans e1⟩
  ·obtain⟨o',e1⟩:=I.base.there b o e hx
   exact⟨o',(hs.2 b (Nat.ne_of_lt (Nat.lt_of_lt_of_le (Heap.lt_size e) I.ok.above))).trans e1⟩
  ·by_cases hj:j=i
   ·subst hj
    rw[hi] at e1;cases e1;rw[List.getElem?_set_self hiσ] at e2;cases e2;exact⟨u,r,.inl ⟨hk,by simp⟩⟩
   ·rw[List.getElem?_set_ne (Ne.symm hj)] at e2
    obtain⟨u',r',q⟩:=hl j y v' e1 e2 e3;refine⟨u',r',?_⟩;rcases q with ⟨k,e⟩|⟨k,c,e,z⟩
    ·refine .inl ⟨k,?_⟩
     have:y≠x:=fun e=>hj (nodup_ix hN e1 (e ▸ hi));simp[this,e]
    ·exact .inr ⟨k,c,e,z.sameBut hs (cne y c e)⟩
  ·obtain⟨w',z⟩:=I.cell y c e
   exact⟨w',z.sameBut hs (cne y c e)⟩
  ·obtain⟨e,n,ne,nf,d⟩:=I.pin p hp
   exact⟨(hs.2 p.1 ne).trans e,n,ne,nf,d⟩
 ·have hfn:X.fn x=true:=by
   rcases hf with z|z
   ·exact z
   ·rw[z] at hk;cases hk
  obtain⟨c,hc⟩:=I.ok.has x (.inl hk);obtain⟨w',z⟩:=I.cell x c hc;refine wpAny_storeName_cell I.ok.kind hk hc z (fun h' hc' hs=>?_);obtain⟨oc,hoc,hocd⟩:=id z;refine h {s with heap:=h'} ⟨I.ok,I.os,I.bare,⟨fun b o e n hb hx=>?_,fun b o e n hb hx=>?_,I.base.free,fun b o e hx=>?_,I.base.tups,I.base.frzs,I.base.tbls⟩,⟨m,hn.sameBut hs (Ne.symm (cne x c hc)),fun j y v' e1 e2 e3=>?_⟩,fun y c' e=>?_,I.free,I.freeC,fun p hp=>?_,tracked ⟨oc,hoc,I.freeC x c hc⟩ hs,by simpa using I.len⟩ ⟨c,hs,.inr hc⟩
  ·exact (hs.2 b (Nat.ne_of_lt (Nat.lt_of_lt_of_le (Heap.lt_size e) (I.ok.cab x c hfn hc)))).trans (I.base.keep b o e n hb hx)
  ·obtain⟨sl,e1⟩:=I.base.slot b o e n hb hx
   exact⟨sl,(hs.2 b (Nat.ne_of_lt (Nat.lt_of_lt_of_le (Heap.lt_size e) (I.ok.cab x c hfn hc)))).trans e1⟩
  ·obtain⟨o',e1⟩:=I.base.there b o e hx
   exact⟨o',(hs.2 b (Nat.ne_of_lt (Nat.lt_of_lt_of_le (Heap.lt_size e) (I.ok.cab x c hfn hc)))).trans e1⟩
  ·by_cases hj:j=i
   ·subst hj
    rw[hi] at e1;cases e1;rw[List.getElem?_set_self hiσ] at e2;cases e2;exact⟨u,r,.inr ⟨.inl hk,c,hc,hc'⟩⟩
   ·rw[List.getElem?_set_ne (Ne.symm hj)] at e2
    obtain⟨u',r',q⟩:=hl j y v' e1 e2 e3;refine⟨u',r',?_⟩;rcases q with q|⟨k,c',e,z'⟩
    ·exact .inl q
    ·refine .inr ⟨k,c',e,z'.sameBut hs ?_⟩
     rintro rfl;exact hj (nodup_ix hN e1 (I.ok.inj _ _ _ e hc ▸ hi))
  ·by_cases hcc:c'=c
   ·subst hcc;exact⟨_,hc'⟩
   ·obtain⟨w2,z2⟩:=I.cell y c' e
    exact⟨w2,z2.sameBut hs hcc⟩
  ·obtain⟨e,n,ne,nf,d⟩:=I.pin p hp
   refine⟨(hs.2 p.1 ?_).trans e,n,ne,nf,d⟩;intro q;rw[q,hoc] at e;have q':oc=p.2:=Option.some.inj e;exact d w' (by rw[<- q'];exact hocd)
theorem store_ok (I:Inv X pins σ H s) (hN:X.N.Nodup) (hi:X.N[i]?=some x) (hx:Loc X.env.scope x) (r:RelV v u)
  (h:∀ s',Inv X pins (σ.set i (some v)) H s'->Q () s') (hf:X.fn x=true\/X.env.scope.names.lookup x=some .local:=by first|exact .inl rfl|exact .inr rfl|assumption):wpAny M A (storeName X.env x u) Q E s :=
 store_ok2 I hN hi hx r (fun s' I' _=>h s' I') hf
theorem Inv.call' (I:Inv X pins σ H s) (ho:s'.os=s.os) (u:Un (frs X.stack) ch H H' s.heap s'.heap) (hok:HOk X.prog X.w H' s'.heap) (hg:AllBare s'.gens)
  (hch:∀ b∈ch,(b∈X.ex\/X.s₀.heap.objs.size<=b)/\b≠X.env.locals/\(∀ x c,X.env.cells.lookup x=some c->c≠b)/\∀ p∈X.pn++pins,p.1≠b):Inv X pins σ H' s':=by
 obtain⟨h',g',d',t',o'⟩:=s';have e:o'=s.os:=ho;subst e;exact I.call (g':=g') (t':=t') (d':=d') u hok hg hch
end
abbrev XK:=Value->Option Addr->Hp->Prop
abbrev St:=List (Option V)
abbrev VK:=V->Hp->Prop
abbrev TE:=St->Hp->VK->Prop
abbrev TT:=St->Hp->(Bool->Hp->Prop)->Prop
abbrev TA:=St->Hp->(List V->Hp->Prop)->Prop
structure Ends where
 nx:St->Hp->Prop
 rt:VK
 bk:St->Hp->Prop:=fun _ _=>False
 ct:St->Hp->Prop:=fun _ _=>False
abbrev TS:=Ends->St->Hp->Prop
noncomputable def EP (X:Cx) (pins:List (Addr×Obj)) (σ:St) (Q:VK) (u:Value) (s':Shared):Prop:=∃ v H',Inv X pins σ H' s'/\RelV v u/\Q v H'
noncomputable def TP (X:Cx) (pins:List (Addr×Obj)) (σ:St) (Q:Bool->Hp->Prop) (b:Bool) (s':Shared):Prop:=∃ H',Inv X pins σ H' s'/\Q b H'
noncomputable def AP (X:Cx) (pins:List (Addr×Obj)) (σ:St) (Q:List V->Hp->Prop) (us:List Value) (s':Shared):Prop:=∃ vs H',Inv X pins σ H' s'/\Vals vs us/\Q vs H'
noncomputable def SP (X:Cx) (pins:List (Addr×Obj)) (D:Ends) (f:Flow) (s':Shared):Prop :=
 match f with
 | .next=>∃ σ' H',Inv X pins σ' H' s'/\D.nx σ' H'
 | .brk=>∃ σ' H',Inv X pins σ' H' s'/\D.bk σ' H'
 | .cont=>∃ σ' H',Inv X pins σ' H' s'/\D.ct σ' H'
 | .ret u=>∃ v σ' H',Inv X pins σ' H' s'/\RelV v u/\D.rt v H'
noncomputable def PE (X:Cx) (e:Expr) (t:TE):Prop :=
 ∀ (pins:List (Addr×Obj)) (s:Shared) (σ:St) (H:Hp) (Q:VK),Inv X pins σ H s->t σ H Q->wpAny (model X.prog X.w) X.A (eval e X.env) (EP X pins σ Q) X.xe s
noncomputable def PT (X:Cx) (e:Expr) (t:TT):Prop :=
 ∀ (pins:List (Addr×Obj)) (s:Shared) (σ:St) (H:Hp) (Q:Bool->Hp->Prop),Inv X pins σ H s->t σ H Q->wpAny (model X.prog X.w) X.A (isTrue e X.env (eval e X.env)) (TP X pins σ Q) X.xe s
noncomputable def PW (X:Cx) (e:Expr) (t:TT):Prop :=
 ∀ (whole:Sem Value) (pins:List (Addr×Obj)) (s:Shared) (σ:St) (H:Hp) (Q:Bool->Hp->Prop),Inv X pins σ H s->t σ H Q->wpAny (model X.prog X.w) X.A (isTrue e X.env whole) (TP X pins σ Q) X.xe s
theorem PW.pt (h:PW X e t):PT X e t:=h _
noncomputable def PA (X:Cx) (es:List Expr) (t:TA):Prop :=
 ∀ (pos:Pos) (pins:List (Addr×Obj)) (s:Shared) (σ:St) (H:Hp) (Q:List V->Hp->Prop),Inv X pins σ H s->t σ H Q->wpAny (model X.prog X.w) X.A (spliced (backTo pos (starEach es X.env))) (AP X pins σ Q) X.xe s
noncomputable def PS (X:Cx) (st:Stmt) (t:TS):Prop :=
 ∀ (pins:List (Addr×Obj)) (s:Shared) (σ:St) (H:Hp) (D:Ends),Inv X pins σ H s->t D σ H->wpAny (model X.prog X.w) X.A (exec st X.env) (SP X pins D) X.xe s
noncomputable def PSs (X:Cx) (st:List Stmt) (t:TS):Prop :=
 ∀ (pins:List (Addr×Obj)) (s:Shared) (σ:St) (H:Hp) (D:Ends),Inv X pins σ H s->t D σ H->wpAny (model X.prog X.w) X.A (execs st X.env) (SP X pins D) X.xe s
theorem thn (h:wpAny M A t Q E s) (hQ:∀ a s,Q a s->Q' a s):wpAny M A t Q' E s:=wpAny_mono h hQ fun _ _ x=>x
end L2
namespace L2
open PySem PySem.Spec PyProof.Rows
section
variable {X:Cx}
theorem bin {a b:Expr} {ta tb:TE} (ha:PE X a ta) (hb:PE X b tb) {pins:List (Addr×Obj)} {s:Shared} {σ:St} {H:Hp} {R:V->V->Hp->Prop} (I:Inv X pins σ H s) (h:ta σ H fun x H1=>tb σ H1 fun y H2=>R x y H2)
  {α:Type} {Q:α->Shared->Prop} {f:Value->Value->Sem α}
  (hf:∀ v u s2 x y H2,Inv X pins σ H2 s2->RelV x v->RelV y u->R x y H2->wpAny (model X.prog X.w) X.A (f v u) Q X.xe s2) :
  wpAny (model X.prog X.w) X.A (eval a X.env) (fun v s₁=>wpAny (model X.prog X.w) X.A (eval b X.env) (fun u s₂=>wpAny (model X.prog X.w) X.A (f v u) Q X.xe s₂) X.xe s₁) X.xe s:=by
 refine thn (ha pins s σ H _ I h) fun v s1 hq2=>?_;obtain⟨x,H1,I1,r1,q1⟩:=hq2;refine thn (hb pins s1 σ H1 _ I1 q1) fun u s2 hq2=>?_;obtain⟨y,H2,I2,r2,q2⟩:=hq2;exact hf v u s2 x y H2 I2 r1 r2 q2
noncomputable def tVar (i:Nat):TE:=fun σ H Q=>∃ v,σ[i]?=some (some v)/\Q v H
noncomputable def tC (v:V):TE:=fun _ H Q=>Q v H
theorem pe_var (hN:X.N[i]?=some x) (hv:Vis X.env.scope x) (hd:(x==("__debug__":Str))=false:=by decide) (hcd:(x==("__classdict__":Str))=false:=by decide):PE X (.Name x pos) (tVar i):=by
 intro pins s σ H Q I h;obtain⟨v,e,h⟩:=h;obtain⟨m,hn,hl⟩:=I.loc;obtain⟨u,r,l⟩:=hl i x v hN e hv;have fin:EP X pins σ Q u s:=⟨v,H,I,r,h⟩;rcases l with ⟨hk,hm⟩|⟨hk,c,hc,hcell⟩
 ·exact wpAny_Name (wpAny_loadName_local I.ok.kind hk hn hm fin) hd
 ·rcases hk with hk|hk
  ·exact wpAny_Name (wpAny_loadName_cell I.ok.kind hk hc hcell fin) hd
  ·exact wpAny_Name (wpAny_loadName_free I.ok.kind hk hc hcell fin hcd) hd
theorem pe_int {i j pos}:PE X (.Constant (.int i) j pos) (tC (.int i)):=fun _ _ _ H _ I h=>wpAny_Constant_int ⟨.int i,H,I.tok _,⟨_,rfl⟩,h⟩
theorem pe_bl {b j pos}:PE X (.Constant (.bool b) j pos) (tC (.bl b)):=fun _ _ _ H _ I h=>Constant_bool ⟨.bl b,H,I,rfl,h⟩
theorem pe_non {j pos}:PE X (.Constant .none j pos) (tC .non):=fun _ _ _ H _ I h=>Constant_none ⟨.non,H,I,rfl,h⟩
theorem pe_str {x j pos}:PE X (.Constant (.str x) j pos) (tC (.str x)):=fun _ _ _ H _ I h=>Calls.Constant_str ⟨.str x,H,I.tok _,⟨_,rfl⟩,h⟩
noncomputable def Gl (X:Cx) (x:Str):Prop:=X.env.kindOf x=some .globalImplicit
theorem ld_glob (I:Inv X pins σ H s) (hg:Gl X x) (hm:X.mg x=some u) (h:Q u s)
  (hd:(x==("__debug__":Str))=false:=by decide):wpAny (model X.prog X.w) X.A (eval (.Name x pos) X.env) Q E s :=
 Calls.Name_function_global I.ok.kind hg (Calls.loadGlobal_global (by rw[I.ok.glob];exact I.mod.glob.keeps I.bk) hm h) hd
theorem ld_blt (I:Inv X pins σ H s) (hg:Gl X x) (hm:X.mg x=none) (hv:bootBuiltins x=some u) (h:Q u s)
  (hn:x≠"__name__":=by decide) (hd:(x==("__debug__":Str))=false:=by decide):wpAny (model X.prog X.w) X.A (eval (.Name x pos) X.env) Q E s:=by
 obtain⟨mb,h1,h2⟩:=I.mod.blt;exact Calls.Name_function_global I.ok.kind hg (Calls.loadGlobal_builtin (by rw[I.ok.glob];exact I.mod.glob.keeps I.bk) hm (by rw[I.ok.blt];exact h1.keeps I.bk) ((h2 x hn).trans hv) h) hd
theorem pe_glob (hg:Gl X x) (hm:X.mg x=some u) (r:RelV v u) (hd:(x==("__debug__":Str))=false:=by decide):PE X (.Name x pos) (tC v) :=
 fun _ _ _ H _ I h=>ld_glob I hg hm ⟨v,H,I,r,h⟩ hd
theorem pe_bltn (hg:Gl X x) (hm:X.mg x=none) (hv:bootBuiltins x=some u) (r:RelV v u) (hn:x≠"__name__":=by decide) (hd:(x==("__debug__":Str))=false:=by decide):PE X (.Name x pos) (tC v) :=
 fun _ _ _ H _ I h=>ld_blt I hg hm hv ⟨v,H,I,r,h⟩ hn hd
variable {a b:Expr} {ta tb:TE} {pos:Pos}
noncomputable def tB (t:TE):TT:=fun σ H Q=>t σ H fun x H1=>∃ c,x=.bl c/\Q c H1
variable {tA tB':TT} {rest:List Expr}
noncomputable def tAnd (t u:TT):TT:=fun σ H Q=>t σ H fun c H1=>if c=true then u σ H1 Q else Q false H1
noncomputable def tOr (t u:TT):TT:=fun σ H Q=>t σ H fun c H1=>if c=true then Q true H1 else u σ H1 Q
noncomputable def tNot (t:TT):TT:=fun σ H Q=>t σ H fun c H1=>Q (!c) H1
theorem pw_and1 (ha:PT X a tA):PW X (.BoolOp .And [a] pos) tA:=by
 intro wh pins s σ H Q I h;refine isTrue_and (thn (ha pins s σ H Q I h) fun c s1 e=>?_);cases c with
 | true=>exact isTrue_and_nil e
 | false=>exact e
theorem pw_or1 (ha:PT X a tA):PW X (.BoolOp .Or [a] pos) tA:=by
 intro wh pins s σ H Q I h;refine isTrue_or (thn (ha pins s σ H Q I h) fun c s1 e=>?_);cases c with
 | false=>exact isTrue_or_nil e
 | true=>exact e
theorem pw_and (ha:PT X a tA) (hb:PW X (.BoolOp .And (b::rest) pos) tB'):PW X (.BoolOp .And (a::b::rest) pos) (tAnd tA tB'):=by
 intro wh pins s σ H Q I h;refine isTrue_and (thn (ha pins s σ H _ I h) fun c s1 hq2=>?_);obtain⟨H1,I1,q1⟩:=hq2;cases c with
 | true=>exact hb wh pins s1 σ H1 Q I1 q1
 | false=>exact⟨H1,I1,q1⟩
theorem pw_or (ha:PT X a tA) (hb:PW X (.BoolOp .Or (b::rest) pos) tB'):PW X (.BoolOp .Or (a::b::rest) pos) (tOr tA tB'):=by
 intro wh pins s σ H Q I h;refine isTrue_or (thn (ha pins s σ H _ I h) fun c s1 hq2=>?_);obtain⟨H1,I1,q1⟩:=hq2;cases c with
 | true=>exact⟨H1,I1,q1⟩
 | false=>exact hb wh pins s1 σ H1 Q I1 q1
theorem pt_not (ha:PT X a tA):PT X (.UnaryOp .Not a pos) (tNot tA):=by
 intro pins s σ H Q I h;exact isTrue_not (ha pins s σ H (fun c H1=>Q (!c) H1) I h)
noncomputable def tAndV (ta tb:TE):TE:=fun σ H Q=>ta σ H fun x H1=>∃ c,x=.bl c/\if c=true then tb σ H1 Q else Q (.bl false) H1
noncomputable def tOrV (ta tb:TE):TE:=fun σ H Q=>ta σ H fun x H1=>∃ c,x=.bl c/\if c=true then Q (.bl true) H1 else tb σ H1 Q
noncomputable def tNotV (ta:TE):TE:=fun σ H Q=>ta σ H fun x H1=>∃ c,x=.bl c/\Q (.bl (!c)) H1
theorem pe_one {op} (h:PE X a t):PE X (.BoolOp op [a] pos) t:=fun pins s σ H Q I hw=>BoolOp_one (h pins s σ H Q I hw)
theorem pe_and (ha:PE X a ta) (hb:PE X (.BoolOp .And (b::rest) pos) tb):PE X (.BoolOp .And (a::b::rest) pos) (tAndV ta tb):=by
 intro pins s σ H Q I h;refine BoolOp_and (thn (ha pins s σ H _ I h) fun v s1 hq2=>?_);obtain⟨x,H1,I1,r1,q1⟩:=hq2;obtain⟨c,rfl,q1⟩:=q1;cases r1;refine wpAny_truthy_bool ?_;cases c with
 | true=>exact hb pins s1 σ H1 Q I1 q1
 | false=>exact⟨.bl false,H1,I1,rfl,q1⟩
theorem pe_or (ha:PE X a ta) (hb:PE X (.BoolOp .Or (b::rest) pos) tb):PE X (.BoolOp .Or (a::b::rest) pos) (tOrV ta tb):=by
 intro pins s σ H Q I h;refine BoolOp_or (thn (ha pins s σ H _ I h) fun v s1 hq2=>?_);obtain⟨x,H1,I1,r1,q1⟩:=hq2;obtain⟨c,rfl,q1⟩:=q1;cases r1;refine wpAny_truthy_bool ?_;cases c with
 | false=>exact hb pins s1 σ H1 Q I1 q1
 | true=>exact⟨.bl true,H1,I1,rfl,q1⟩
theorem pe_not (ha:PE X a ta):PE X (.UnaryOp .Not a pos) (tNotV ta):=by
 intro pins s σ H Q I h;refine UnaryOp_ (thn (ha pins s σ H _ I h) fun v s1 hq2=>?_);obtain⟨x,H1,I1,r1,q1⟩:=hq2;obtain⟨c,rfl,q1⟩:=q1;cases r1;exact not_of (wpAny_truthy_bool ⟨.bl (!c),H1,I1,rfl,q1⟩)
noncomputable def tIf (t:TT) (ta tb:TE):TE:=fun σ H Q=>t σ H fun c H1=>if c=true then ta σ H1 Q else tb σ H1 Q
theorem pe_ifExp (hc:PT X c tA) (ha:PE X a ta) (hb:PE X b tb):PE X (.IfExp c a b pos) (tIf tA ta tb):=by
 intro pins s σ H Q I h;refine wpAny_IfExp (thn (hc pins s σ H _ I h) fun d s1 hq2=>?_);obtain⟨H1,I1,q1⟩:=hq2;cases d with
 | true=>exact ha pins s1 σ H1 Q I1 q1
 | false=>exact hb pins s1 σ H1 Q I1 q1
end
end L2
namespace L2
open PySem PySem.Spec PyProof.Rows
noncomputable def SqL (K:Frag) (H:Hp) (a:Addr) (xs:List V):Prop :=
 Rd H a (.lst xs) \/
  ∃ (o:Obj) (its:Array Value) (n:Nat),K.lookup a=some o/\o.cls=.type "list"/\o.dict=none/\o.data=.seq its n/\its.size<=sizeLine/\Vals xs its.toList
noncomputable def SqT (K:Frag) (H:Hp) (a:Addr) (xs:List V):Prop :=
 Rd H a (.tup xs) \/
  ∃ (o:Obj) (its:Array Value) (n:Nat),K.lookup a=some o/\o.cls=.type "tuple"/\o.data=.seq its n/\its.size<=sizeLine/\Vals xs its.toList
noncomputable def absV:Value->Option V
 | .none=>some .non
 | .bool b=>some (.bl b)
 | .int i _=>some (.int i)
 | .str x _=>some (.str x)
 | .bytes b _=>some (.byt b)
 | .float b _=>some (.flt b)
 | .ref a=>some (.ref a)
 | .type n=>some (.ty n)
 | _=>none
theorem RelV.abs (r:RelV x u):absV u=some x:=by
 cases x with
 | non=>cases r;rfl
 | bl _=>cases r;rfl
 | int _=>obtain⟨t,rfl⟩:=r;rfl
 | str _=>obtain⟨t,rfl⟩:=r;rfl
 | byt _=>obtain⟨t,rfl⟩:=r;rfl
 | flt _=>obtain⟨t,rfl⟩:=r;rfl
 | ref _=>cases r;rfl
 | ty _=>cases r;rfl
theorem RelV.inj (r:RelV x u) (q:RelV y u):x=y:=Option.some.inj (r.abs.symm.trans q.abs)
theorem Vals.inj:∀ {xs ys:List V} {us:List Value},Vals xs us->Vals ys us->xs=ys
 | _,_,_,.nil,.nil=>rfl
 | _,_,_,.cons r t,.cons r' t'=>by rw[r.inj r',Vals.inj t t']
section
variable {X:Cx} {pins:List (Addr×Obj)} {σ:St} {H:Hp} {s:Shared} {a:Addr} {xs ys:List V}
theorem SqL.of {K:Frag} (h:H a=some (.lst xs)):SqL K H a xs:=.inl (.inl h)
theorem SqT.of {K:Frag} (h:H a=some (.tup xs)):SqT K H a xs:=.inl (.inl h)
theorem Inv.list (I:Inv X pins σ H s) (h:SqL X.K H a xs):∃ its:List Value,Vals xs its/\PlainL s.heap a its.toArray/\xs.length<=sizeLine:=by
 rcases h with h|⟨o,its,n,hk,hc,hd,hs,hz,r⟩
 ·obtain⟨z,its,n,r,e⟩:=h.ok I.hok
  exact⟨its,r,⟨_,n,e,rfl,rfl,rfl⟩,z⟩
 ·refine⟨its.toList,r,⟨o,n,I.kIn a o hk,hc,hd,by simpa using hs⟩,?_⟩
  have e:=r.length;simp only[Array.length_toList] at e;omega
theorem Inv.tuple (I:Inv X pins σ H s) (h:SqT X.K H a xs):∃ its:List Value,Vals xs its/\IsTup s.heap a its.toArray/\xs.length<=sizeLine:=by
 rcases h with h|⟨o,its,n,hk,hc,hs,hz,r⟩
 ·obtain⟨z,its,r,p⟩:=h.ok I.hok
  exact⟨its,r,p,z⟩
 ·refine⟨its.toList,r,⟨o,I.kIn a o hk,hc,n,by simpa using hs⟩,?_⟩
  have e:=r.length;simp only[Array.length_toList] at e;omega
theorem Inv.list_inj (I:Inv X pins σ H s) (h:SqL X.K H a xs) (h':SqL X.K H a ys):xs=ys:=by
 obtain⟨its,r,⟨o,n,e,_,_,d⟩,_⟩:=I.list h;obtain⟨its',r',⟨o',n',e',_,_,d'⟩,_⟩:=I.list h';rw[e] at e';cases e';rw[d] at d';injection d' with d1 _
 have:its=its':=by simpa using congrArg Array.toList d1
 subst this;exact r.inj r'
theorem Inv.tuple_inj (I:Inv X pins σ H s) (h:SqT X.K H a xs) (h':SqT X.K H a ys):xs=ys:=by
 obtain⟨its,r,⟨o,e,_,n,d⟩,_⟩:=I.tuple h;obtain⟨its',r',⟨o',e',_,n',d'⟩,_⟩:=I.tuple h';rw[e] at e';cases e';rw[d] at d';injection d' with d1 _
 have:its=its':=by simpa using congrArg Array.toList d1
 subst this;exact r.inj r'
end
abbrev Cx.wish (X:Cx) (E:Value->Shared->Prop):Cx:={X with xe:=E}
abbrev Cx.nox (X:Cx):Cx:=X.wish fun _ _=>False
theorem Cx.Ok.wish {X:Cx} (ok:X.Ok) (E:Value->Shared->Prop):(X.wish E).Ok :=
 ⟨ok.mod,ok.kind,ok.glob,ok.blt,ok.above,ok.inj,ok.has,ok.cab,ok.hd,ok.frames,ok.stk,ok.exf,ok.bs,ok.bsz,ok.noex,ok.exfs,ok.funs,ok.frf⟩
theorem Cx.Ok.unwish {X:Cx} {E:Value->Shared->Prop} (ok:(X.wish E).Ok):X.Ok :=
 ⟨ok.mod,ok.kind,ok.glob,ok.blt,ok.above,ok.inj,ok.has,ok.cab,ok.hd,ok.frames,ok.stk,ok.exf,ok.bs,ok.bsz,ok.noex,ok.exfs,ok.funs,ok.frf⟩
section
variable {X:Cx} {pins:List (Addr×Obj)} {σ:St} {H:Hp} {s:Shared} {E:Value->Shared->Prop}
theorem Inv.wish (I:Inv X pins σ H s) (E:Value->Shared->Prop):Inv (X.wish E) pins σ H s:=⟨I.ok.wish E,I.os,I.bare,I.base,I.loc,I.cell,I.free,I.freeC,I.pin,I.hok,I.len⟩
theorem Inv.unwish (I:Inv (X.wish E) pins σ H s):Inv X pins σ H s:=⟨I.ok.unwish,I.os,I.bare,I.base,I.loc,I.cell,I.free,I.freeC,I.pin,I.hok,I.len⟩
theorem SP.unwish (h:SP (X.wish E) pins D f s'):SP X pins D f s':=by
 cases f with
 | next=>obtain⟨σ',H',I,q⟩:=h;exact⟨σ',H',I.unwish,q⟩
 | brk=>obtain⟨σ',H',I,q⟩:=h;exact⟨σ',H',I.unwish,q⟩
 | cont=>obtain⟨σ',H',I,q⟩:=h;exact⟨σ',H',I.unwish,q⟩
 | ret u=>obtain⟨v,σ',H',I,r,q⟩:=h;exact⟨v,σ',H',I.unwish,r,q⟩
theorem PSs.nox {st:List Stmt} {t:TS} (h:PSs X.nox st t):PSs X st t:=fun pins s σ H D I hw =>
 wpAny_mono (h pins s σ H D (I.wish _) hw) (fun _ _ q=>q.unwish) fun _ _ z=>False.elim z
end
section
variable {X:Cx} {st:Stmt} {rest:List Stmt} {t u:TS} {e:Expr} {te:TE} {pos:Pos}
noncomputable def tNext:TS:=fun D σ H=>D.nx σ H
noncomputable def tSeq (t u:TS):TS:=fun D σ H=>t {D with nx:=u D} σ H
theorem pss_nil:PSs X [] tNext:=fun _ _ σ H _ I h=>wpAny_execs_nil ⟨σ,H,I,h⟩
theorem pss_cons (h1:PS X st t) (h2:PSs X rest u):PSs X (st::rest) (tSeq t u):=by
 intro pins s σ H D I h;refine wpAny_execs_cons (thn (h1 pins s σ H {D with nx:=u D} I h) fun f s1 q=>?_);cases f with
 | next =>
  obtain⟨σ',H',I',q⟩:=q;exact h2 pins s1 σ' H' D I' q
 | ret v=>exact q
 | brk=>exact q
 | cont=>exact q
theorem Inv.quiet (I:Inv X pins σ H s):interactive X.env=false:=by simp[interactive,I.ok.kind]
noncomputable def tDrop (te:TE):TS:=fun D σ H=>te σ H fun _ H1=>D.nx σ H1
theorem ps_expr (he:PE X e te) (hs:swapsWith e none pos.line X.env=pure false:=by rfl):PS X (.Expr e pos) (tDrop te):=by
 intro pins s σ H D I h;exact wpAny_Expr_any (thn (he pins s σ H _ I h) (by rintro v s1 ⟨x,H1,I1,r1,q1⟩;exact⟨σ,H1,I1,q1⟩)) I.quiet hs
noncomputable def tRet (te:TE):TS:=fun D σ H=>te σ H D.rt
theorem ps_ret (he:PE X e te):PS X (.Return (some e) pos) (tRet te):=by
 intro pins s σ H D I h;exact wpAny_Return_some (thn (he pins s σ H _ I h) (by rintro v s1 ⟨x,H1,I1,r1,q1⟩;exact⟨x,σ,H1,I1,r1,q1⟩))
noncomputable def tIfS (c:TT) (t u:TS):TS:=fun D σ H=>c σ H fun b H1=>if b=true then t D σ H1 else u D σ H1
theorem ps_if (hc:PT X c tc) (ha:PSs X a t) (hb:PSs X b u):PS X (.If c a b pos) (tIfS tc t u):=by
 intro pins s σ H D I h;refine wpAny_If (thn (hc pins s σ H _ I h) fun d s1 hq2=>?_);obtain⟨H1,I1,q1⟩:=hq2;cases d with
 | true=>exact ha pins s1 σ H1 D I1 q1
 | false=>exact hb pins s1 σ H1 D I1 q1
end
abbrev TG:=V->St->Hp->(St->Hp->Prop)->Prop
abbrev TGs:=List V->St->Hp->(St->Hp->Prop)->Prop
noncomputable def PG (X:Cx) (target:Expr) (t:TG):Prop :=
 ∀ (pins:List (Addr×Obj)) (s:Shared) (σ:St) (H:Hp) (v:V) (u:Value) (Q:St->Hp->Prop),Inv X pins σ H s->RelV v u->t v σ H Q ->
  wpAny (model X.prog X.w) X.A (assign target X.env u) (fun _ s'=>∃ σ' H',Inv X pins σ' H' s'/\Q σ' H') X.xe s
noncomputable def PGs (X:Cx) (ts:List Expr) (t:TGs):Prop :=
 ∀ (pins:List (Addr×Obj)) (s:Shared) (σ:St) (H:Hp) (vs:List V) (us:List Value) (Q:St->Hp->Prop),Inv X pins σ H s->Vals vs us->t vs σ H Q ->
  wpAny (model X.prog X.w) X.A (assignInOrder ((assignEach ts X.env).map (·.2)) us) (fun _ s'=>∃ σ' H',Inv X pins σ' H' s'/\Q σ' H') X.xe s
abbrev TSet:=V->V->V->Hp->(Hp->Prop)->Prop
noncomputable def PSet (X:Cx) (t:TSet):Prop :=
 ∀ (pins:List (Addr×Obj)) (s:Shared) (σ:St) (H:Hp) (o i v:V) (ov iv u:Value) (Q:Hp->Prop),Inv X pins σ H s->RelV o ov->RelV i iv->RelV v u->t o i v H Q ->
  wpAny (model X.prog X.w) X.A (setItem ov iv u) (fun _ s'=>∃ H',Inv X pins σ H' s'/\Q H') X.xe s
section
variable {X:Cx} {pos:Pos}
noncomputable def gName (i:Nat):TG:=fun v σ H Q=>Q (σ.set i (some v)) H
theorem pg_name (hN:X.N.Nodup) (hi:X.N[i]?=some x) (hx:Loc X.env.scope x) (hf:X.fn x=true\/X.env.scope.names.lookup x=some .local:=by first|exact .inl rfl|exact .inr rfl|assumption):PG X (.Name x pos) (gName i):=by
 intro pins s σ H v u Q I r h;exact wpAny_assign_Name (store_ok I hN hi hx r (fun s' I'=>⟨_,H,I',h⟩) hf)
noncomputable def gNil:TGs:=fun vs σ H Q=>vs=[]/\Q σ H
noncomputable def gCons (t:TG) (u:TGs):TGs:=fun vs σ H Q=>∃ v r,vs=v::r/\t v σ H fun σ' H'=>u r σ' H' Q
theorem pgs_nil:PGs X [] gNil:=by
 intro pins s σ H vs us Q I r h;obtain⟨e,h⟩:=h;subst e;cases r;exact assignInOrder_nil ⟨σ,H,I,h⟩
theorem pgs_cons (h1:PG X e t) (h2:PGs X es u)
  (hs:(assignEach (e::es) X.env).map (·.2)=assign e X.env::(assignEach es X.env).map (·.2):=by rfl):PGs X (e::es) (gCons t u):=by
 intro pins s σ H vs us Q I r h;obtain⟨v,vr,e1,h⟩:=h;subst e1;cases r with
 | cons r rr =>
  rw[hs];refine assignInOrder_cons (thn (h1 pins s σ H _ _ _ I r h) fun _ s1 hq2=>?_);obtain⟨σ1,H1,I1,q1⟩:=hq2;exact h2 pins s1 σ1 H1 _ _ Q I1 rr q1
noncomputable def gTup (K:Frag) (n:Nat) (t:TGs):TG:=fun v σ H Q=>∃ a xs,v=.ref a/\SqT K H a xs/\xs.length=n/\t xs σ H Q
theorem pg_tup (hc:X.calm=true) (h:PGs X es t)
  (hn:(assignEach es X.env).length=n:=by rfl) (hst:(assignEach es X.env).findIdx? (·.1)=none:=by rfl):PG X (.Tuple es k pos) (gTup X.K n t):=by
 intro pins s σ H v u Q I r hw;obtain⟨a,xs,e1,hq,hl,hw⟩:=hw;subst e1;cases r;obtain⟨its,rv,ht,hz⟩:=I.tuple hq;refine assign_Tuple_tuple (I.ok.hd hc) ht (by simp[hn,<- hl,rv.length]) hst fun h' hx=>?_;have I1:Inv X pins σ H {s with heap:=h'}:=I.kept (t':=s.toks) fun b o e=>hx b o (Nat.ne_of_lt (Heap.lt_size e)) e;exact h pins _ σ H xs _ Q I1 (by simpa using rv) hw
noncomputable def gSub (to ti:TE) (t:TSet):TG:=fun v σ H Q=>to σ H fun o H1=>ti σ H1 fun i H2=>t o i v H2 fun H3=>Q σ H3
theorem pg_sub (ho:PE X o to) (hi:PE X i ti) (hs:PSet X t)
  (ha:∀ v,assign (.Subscript o i pos) X.env v=(do
   let ov <- holding [v] (eval o X.env)
   let iv <- holding [v,ov] (eval i X.env)
   standAt pos
   holding [v,ov,iv] (setItem ov iv v)
   release [v,ov,iv] []):=by intro _;rfl):PG X (.Subscript o i pos) (gSub to ti t):=by
 intro pins s σ H v u Q I r h;rw[ha];refine wpAny_bind (wpAny_holding (thn (ho pins s σ H _ I h) fun ov s1 hq2=>?_));obtain⟨x,H1,I1,r1,q1⟩:=hq2;refine wpAny_bind (wpAny_holding (thn (hi pins s1 σ H1 _ I1 q1) fun iv s2 hq2=>?_));obtain⟨y,H2,I2,r2,q2⟩:=hq2;refine wpAny_bind (wpAny_standAt (wpAny_bind (wpAny_holding (thn (hs pins s2 σ H2 x y v ov iv u _ I2 r1 r2 r q2) fun _ s3 hq2=>?_))));obtain⟨H3,I3,q3⟩:=hq2;exact wpAny_release ⟨σ,H3,I3,q3⟩
noncomputable def tAsg (te:TE) (g:TG):TS:=fun D σ H=>te σ H fun x H1=>g x σ H1 D.nx
theorem ps_asg (he:PE X e te) (hg:PG X tg g) (hs:swapsWithSole [tg] e pos.line X.env=pure false:=by rfl) (hw:swappedStores [tg] e X.env=pure none:=by rfl)
  (h1:(assignEach [tg] X.env).map (·.2)=[assign tg X.env]:=by rfl):PS X (.Assign [tg] e pos) (tAsg te g):=by
 intro pins s σ H D I h;refine wpAny_Assign_stores (thn (he pins s σ H _ I h) fun v s1 hq2=>?_) hs hw;obtain⟨x,H1,I1,r1,q1⟩:=hq2;rw[h1];exact thn (hg pins s1 σ H1 x v _ I1 r1 q1) fun _ s2 q=>q
theorem ps_set (hN:X.N.Nodup) (hi:X.N[i]?=some x) (hx:Loc X.env.scope x) (he:PE X e te) (hs:swapsWith e (some (.Name x pos')) pos.line X.env=pure false:=by rfl) (hf:X.fn x=true\/X.env.scope.names.lookup x=some .local:=by first|exact .inl rfl|exact .inr rfl|assumption) :
  PS X (.Assign [.Name x pos'] e pos) (tAsg te (gName i)):=by
 intro pins s σ H D I h;refine wpAny_Assign_Name (thn (he pins s σ H _ I h) fun v s1 hq2=>?_) hs;obtain⟨y,H1,I1,r1,q1⟩:=hq2;exact store_ok I1 hN hi hx r1 (fun s2 I2=>⟨_,H1,I2,q1⟩) hf
noncomputable def tPar (i j:Nat) (ta:TA):TS:=fun D σ H=>ta σ H fun vs H1=>∃ v w,vs=[v,w]/\D.nx ((σ.set i (some v)).set j (some w)) H1
theorem ps_par {kt k2 pt2} (hc:X.calm=true) (hN:X.N.Nodup) (hi:X.N[i]?=some x) (hj:X.N[j]?=some y) (hij:i≠j)
  (hx:X.env.scope.names.lookup x=some .local) (hy:X.env.scope.names.lookup y=some .local) (ha:PA X [a,b] ta)
  (hw:swappedStores [.Tuple [.Name x px,.Name y py] kt pt] (.Tuple [a,b] k2 pt2) X.env=pure (some [x,y]))
  (hs:swapsWithSole [.Tuple [.Name x px,.Name y py] kt pt] (.Tuple [a,b] k2 pt2) pos.line X.env=pure false:=by rfl) :
  PS X (.Assign [.Tuple [.Name x px,.Name y py] kt pt] (.Tuple [a,b] k2 pt2) pos) (tPar i j ta):=by
 intro pins s σ H D I h;rw[exec_Assign_arm];refine wpAny_bind (wpAny_standAt ?_);rw[hs];refine wpAny_bind (wpAny_pure ?_);rw[if_neg %[|4]];refine wpAny_bind (Tuple_ (thn (ha _ pins s σ H _ I h) fun us s1 hq2=>?_));obtain⟨vs,H1,I1,r1,q1⟩:=hq2;obtain⟨v,w,e1,q1⟩:=q1;subst e1;obtain⟨u1,u2,rfl,rv,rw'⟩:∃ u1 u2,us=[u1,u2]/\RelV v u1/\RelV w u2:=by
  cases r1 with
  | cons p q =>
   cases q with
   | cons p' q' =>
    cases q';exact⟨_,_,rfl,p,p'⟩
 refine wpAny_newObj_type ?_ (by show 2<=sizeLine;decide);have I2:Inv X pins σ H1 {s1 with heap:=s1.heap.push {cls:=.type "tuple",data:=.seq [u1,u2].toArray}}:=I1.kept (t':=s1.toks) fun b o e=>Heap.get?_push_of_some _ e;rw[hw];refine wpAny_bind (wpAny_pure ?_);show wpAny (model X.prog X.w) X.A (do rule "assign.swapped-stores";let items <- unpackItems (.ref s1.heap.objs.size) 2 none;assignInOrder [fun v=>bindName X.env y v,fun v=>bindName X.env x v] items.reverse;pure Flow.next) _ _ _;refine wpAny_bind (wpAny_rule (wpAny_bind (unpackItems_tuple (items:=#[u1,u2]) (I.ok.hd hc) (IsTup.new s1.heap _) fun h' hx'=>?_)));have I3:=I2.kept (h':=h') (t':=s1.toks) fun b o e=>hx' b o (Nat.ne_of_lt (Heap.lt_size e)) e;show wpAny _ _ (assignInOrder [fun v=>bindName X.env y v,fun v=>bindName X.env x v] [u2,u1] >>= fun _=>pure Flow.next) _ _ _;refine wpAny_bind (assignInOrder_cons (wpAny_bindName (store_ok I3 hN hj (.inl hy) rw' (fun s2 I4=>?_) (.inr hy))))
 refine assignInOrder_cons (wpAny_bindName (store_ok I4 hN hi (.inl hx) rv (fun s3 I5=>assignInOrder_nil (wpAny_pure ?_)) (.inr hx)));rw[List.set_comm _ _ (Ne.symm hij)] at I5;exact⟨_,H1,I5,q1⟩
end
section
variable {X:Cx} {pos:Pos}
noncomputable def tWhile (c:TT) (tb:TS):TS:=fun D σ H=>∃ W:Nat->St->Hp->Prop,(∃ m,W m σ H)/\∀ m σ H,W m σ H ->
 c σ H fun b H1=>if b=true then ∃ N:St->Hp->Prop,(∀ σ' H',N σ' H'->∃ m',m'<m/\W m' σ' H')/\tb {D with nx:=N,ct:=N,bk:=D.nx} σ H1 else D.nx σ H1
theorem ps_while (hp:PassesOwn (model X.prog X.w) X.A X.env X.xe) (hc:PT X c tc) (hb:PSs X body tb):PS X (.While c body [] pos) (tWhile tc tb):=by
 intro pins s σ H D I h;obtain⟨W,⟨m0,w0⟩,turn⟩:=h;refine wpAny_While (codeAny_whileLoop (fun n s'=>∃ σ' H',Inv X pins σ' H' s'/\W n σ' H') ?_ m0 ⟨σ,H,I,w0⟩);rintro n s1 ⟨σ1,H1,I1,w1⟩;refine wpAny_passesOwn hp (thn (hc pins s1 σ1 H1 _ I1 (turn n σ1 H1 w1)) fun b s2 hq2=>?_);obtain⟨H2,I2,q2⟩:=hq2;cases b with
 | true =>
  obtain⟨N,hN,q2⟩:=q2;rw[if_pos rfl];refine wpAny_passesOwn hp (thn (hb pins s2 σ1 H2 _ I2 q2) fun f s3 q3=>?_);cases f with
  | next =>
   obtain⟨σ3,H3,I3,n3⟩:=q3;obtain⟨m',hm,w3⟩:=hN σ3 H3 n3;exact⟨m',hm,σ3,H3,I3,w3⟩
  | cont =>
   obtain⟨σ3,H3,I3,n3⟩:=q3;obtain⟨m',hm,w3⟩:=hN σ3 H3 n3;exact⟨m',hm,σ3,H3,I3,w3⟩
  | brk=>exact q3
  | ret v=>exact q3
 | false =>
  rw[if_neg Bool.false_ne_true];exact wpAny_execs_nil ⟨σ1,H2,I2,q2⟩
end
structure It where
 go:Nat->Hp->Prop
 yld:Nat->Hp->V->Hp->Prop
 stop:Nat->Hp->Prop
noncomputable def FpOk (X:Cx) (pins:List (Addr×Obj)) (H:Hp) (b:Addr):Prop :=
 H b=none/\b≠X.env.locals/\b ∉ X.fs/\(b∈X.ex\/X.s₀.heap.objs.size<=b)/\(∀ x c,X.env.cells.lookup x=some c->c≠b)/\∀ p∈X.pn++pins,p.1≠b
theorem Inv.fpOk (I:Inv X pins σ H s) (hb:s.heap.objs.size<=b) (hn:H' b=none):FpOk X pins H' b:=by
 refine⟨hn,Nat.ne_of_gt (Nat.lt_of_lt_of_le I.lt hb),I.nofs hb,.inr (Nat.le_trans I.sz hb),fun x c e z=>?_,fun p hp z=>?_⟩
 ·obtain⟨v,q⟩:=I.cell x c e
  exact absurd (Nat.lt_of_lt_of_le q.lt (by rw[z];exact hb)) (Nat.lt_irrefl _)
 ·exact absurd (Nat.lt_of_lt_of_le (Heap.lt_size (I.pin p hp).1) (by rw[z];exact hb)) (Nat.lt_irrefl _)
structure Turn (P:Program) (w:World) (K:Frag) (tg:Expr) (J:It) (fp:List Addr) (it:Addr) (tn:Nat->Heap->Prop):Prop where
 mem:it∈fp
 obj:∀ i h,tn i h->∀ b∈fp,∃ o,h.get? b=some o/\∀ v,o.data≠.cell v
 keep:∀ i h h',tn i h->(∀ b∈fp,∀ o,h.get? b=some o->h'.get? b=some o)->tn i h'
 item:∀ (X:Cx),X.prog=P->X.w=w->X.K=K->X.calm=true->∀ (i:Nat) (pins:List (Addr×Obj)) (s:Shared) (σ:St) (H:Hp) (E:Value->Shared->Prop),Inv X pins σ H s->(∀ b∈fp,FpOk X pins H b)->tn i s.heap->J.go i H ->
  wpAny (model P w) X.A (pyNext (.ref it)) (fun r s1=>∃ u,r=some u /\
   wpAny (model P w) X.A (letOwnedTupleGo tg (.ref it) u) (fun _ s2=>∃ x H',Inv X pins σ H' s2/\RelV x u/\J.yld i H x H'/\tn (i+1) s2.heap/\∀ b∈fp,H' b=none) E s1) E s
 done:∀ (X:Cx),X.prog=P->X.w=w->X.K=K->X.calm=true->∀ (i:Nat) (pins:List (Addr×Obj)) (s:Shared) (σ:St) (H:Hp) (E:Value->Shared->Prop),Inv X pins σ H s->(∀ b∈fp,FpOk X pins H b)->tn i s.heap->J.stop i H ->
  wpAny (model P w) X.A (pyNext (.ref it)) (fun r s1=>r=none/\Inv X pins σ H s1) E s
 self:∀ (A:Around) (i:Nat) (s:Shared) (Q:Value->Shared->Prop) (E:Value->Shared->Prop),tn i s.heap->Q (.ref it) s->wpAny (model P w) A (pyIter (.ref it)) Q E s
abbrev TI:=St->Hp->(It->Hp->Prop)->Prop
noncomputable def PIE (X:Cx) (pins:List (Addr×Obj)) (σ:St) (tg:Expr) (R:It->Hp->Prop) (itv:Value) (s2:Shared):Prop :=
 ∃ (it:Addr) (fp:List Addr) (tn:Nat->Heap->Prop) (J:It) (H':Hp),itv=.ref it/\Inv X pins σ H' s2/\Turn X.prog X.w X.K tg J fp it tn/\tn 0 s2.heap/\(∀ b∈fp,FpOk X pins H' b)/\R J H'
noncomputable def PI (X:Cx) (tg iter:Expr) (wi:TI):Prop :=
 ∀ (pins:List (Addr×Obj)) (s:Shared) (σ:St) (H:Hp) (R:It->Hp->Prop),Inv X pins σ H s->wi σ H R ->
  wpAny (model X.prog X.w) X.A (eval iter X.env) (fun v s1=>wpAny (model X.prog X.w) X.A (pyIter v) (PIE X pins σ tg R) X.xe s1) X.xe s
theorem go_of (ho:s.heap.get? it=some o) (hc:o.cls=.type n) (hd:o.data=.fields vs)
    (hn:["enumerate","zip","dict_itemiterator","dict_reverseitemiterator","odict_iterator","itertools.zip_longest","itertools.pairwise"].contains n=false) (hQ:Q () s):wpAny M A (letOwnedTupleGo tg (.ref it) u) Q E s:=by
  unfold letOwnedTupleGo;cases tg<;>first
    | exact wpAny_pure hQ
    | (cases u<;>first
        | exact wpAny_pure hQ
        | (refine wpAny_bind (wpAny_load ho ?_)
           rw[hc,hd];show wpAny M A (if (["enumerate","zip","dict_itemiterator","dict_reverseitemiterator","odict_iterator","itertools.zip_longest","itertools.pairwise"].contains n&&vs[0]?==some (rawInt _))=true then _ else _) Q E s;rw[if_neg (by intro h;rw[hn,Bool.false_and] at h;cases h)];exact wpAny_pure hQ))
noncomputable def Itl (K:Frag) (a:Addr):It :=
 ⟨fun i H=>∃ xs x,SqL K H a xs/\xs[i]?=some x,fun i H x H'=>H'=H/\∀ xs,SqL K H a xs->xs[i]?=some x,fun i H=>∃ xs,SqL K H a xs/\xs.length<=i⟩
noncomputable def Itt (K:Frag) (a:Addr):It :=
 ⟨fun i H=>∃ xs x,SqT K H a xs/\xs[i]?=some x,fun i H x H'=>H'=H/\∀ xs,SqT K H a xs->xs[i]?=some x,fun i H=>∃ xs,SqT K H a xs/\xs.length<=i⟩
noncomputable def Itr (lo:Int) (n:Nat):It:=⟨fun i _=>i<n,fun i H x H'=>H'=H/\x=.int (lo+i),fun i _=>n<=i⟩
theorem turn_list {P:Program} {w:World} {K:Frag} {tg:Expr} (a it:Addr):Turn P w K tg (Itl K a) [it] it (fun i h=>h.IsListIter it a i) where
 mem:=by simp
 obj:=fun i h st b hb=>by
  have e:b=it:=by simpa using hb
  subst e;obtain⟨o,e,c,d⟩:=st;exact⟨o,e,fun v z=>by rw[d] at z;cases z⟩
 keep:=fun i h h' st k=>st.at fun o e=>k it (by simp) o e
 item:=by
  intro X hP hw hK hc i pins s σ H E I hf st hg;subst hP hw hK;obtain⟨xs,x,hq,hx⟩:=hg;obtain⟨its,rv,p,hz⟩:=I.list hq;obtain⟨u,hu,ru⟩:=rv.get hx;obtain⟨f0,f1,f2,f3,f4,f5⟩:=hf it (by simp);refine wpAny_pyNext_list_item st p.isList (x:=u) (by simpa using hu) fun h' st' sb=>?_;have I1:Inv X pins σ H {s with heap:=h'}:=I.turned (t':=s.toks) (fun b o hb e=>(sb.2 b hb).trans e) f0 f1 f3 f4 f5;obtain⟨o,e,c,d⟩:=id st';exact⟨u,rfl,go_of (s:={s with heap:=h'}) e c d %[|4] ⟨x,H,I1,ru,⟨rfl,fun ys hy=>by rw[I.list_inj hy hq];exact hx⟩,st',fun b hb=>(hf b hb).1⟩⟩
 done:=by
  intro X hP hw hK hc i pins s σ H E I hf st hg;subst hP hw hK;obtain⟨xs,hq,hx⟩:=hg;obtain⟨its,rv,p,hz⟩:=I.list hq;obtain⟨f0,f1,f2,f3,f4,f5⟩:=hf it (by simp);have hl:=rv.length;exact wpAny_pyNext_list_end (I.ok.hd hc) st p.isList (by simp;omega) fun h' eb=>⟨rfl,I.turned (t':=s.toks) (fun b o hb e=>eb b o hb e) f0 f1 f3 f4 f5⟩
 self:=fun _ _ _ _ _ st h=>wpAny_pyIter_listiter st h
theorem turn_tuple {P:Program} {w:World} {K:Frag} {tg:Expr} (a it:Addr):Turn P w K tg (Itt K a) [it] it (fun i h=>h.IsTupleIter it a i) where
 mem:=by simp
 obj:=fun i h st b hb=>by
  have e:b=it:=by simpa using hb
  subst e;obtain⟨o,e,c,d⟩:=st;exact⟨o,e,fun v z=>by rw[d] at z;cases z⟩
 keep:=fun i h h' st k=>st.at fun o e=>k it (by simp) o e
 item:=by
  intro X hP hw hK hc i pins s σ H E I hf st hg;subst hP hw hK;obtain⟨xs,x,hq,hx⟩:=hg;obtain⟨its,rv,p,hz⟩:=I.tuple hq;obtain⟨u,hu,ru⟩:=rv.get hx;obtain⟨f0,f1,f2,f3,f4,f5⟩:=hf it (by simp);refine wpAny_pyNext_tuple_item st (show s.heap.IsTuple a its.toArray from p) (x:=u) (by simpa using hu) fun h' st' sb=>?_;have I1:Inv X pins σ H {s with heap:=h'}:=I.turned (t':=s.toks) (fun b o hb e=>(sb.2 b hb).trans e) f0 f1 f3 f4 f5;obtain⟨o,e,c,d⟩:=id st';exact⟨u,rfl,go_of (s:={s with heap:=h'}) e c d %[|4] ⟨x,H,I1,ru,⟨rfl,fun ys hy=>by rw[I.tuple_inj hy hq];exact hx⟩,st',fun b hb=>(hf b hb).1⟩⟩
 done:=by
  intro X hP hw hK hc i pins s σ H E I hf st hg;subst hP hw hK;obtain⟨xs,hq,hx⟩:=hg;obtain⟨its,rv,p,hz⟩:=I.tuple hq;obtain⟨f0,f1,f2,f3,f4,f5⟩:=hf it (by simp);have hl:=rv.length;exact wpAny_pyNext_tuple_end (I.ok.hd hc) st (show s.heap.IsTuple a its.toArray from p) (by simp;omega) fun h' eb=>⟨rfl,I.turned (t':=s.toks) (fun b o hb e=>eb b o hb e) f0 f1 f3 f4 f5⟩
 self:=fun _ _ _ _ _ st h=>wpAny_pyIter_tupleiter st h
theorem turn_range {P:Program} {w:World} {K:Frag} {tg:Expr} (it:Addr) (lo:Int) (n:Nat):Turn P w K tg (Itr lo n) [it] it (fun i h=>IsRangeIter h it (lo+(i:Nat)*1) ((n:Int)-(i:Nat)) 1) where
 mem:=by simp
 obj:=fun i h st b hb=>by
  have e:b=it:=by simpa using hb
  subst e;exact⟨_,st,fun v z=>by
   have z':Data.fields _=Data.cell v:=z;cases z'⟩
 keep:=fun i h h' st k=>k it (by simp) _ st
 item:=by
  intro X hP hw hK hc i pins s σ H E I hf st hg;subst hP hw hK;obtain⟨f0,f1,f2,f3,f4,f5⟩:=hf it (by simp);have W:=Walks.range (prog:=X.prog) (w:=X.w) (I.ok.hd hc) it lo 1 n;refine W.item i s _ _ hg st fun v h' tk hv st' kk=>?_;obtain⟨t,rfl⟩:=hv;have I1:Inv X pins σ H {s with heap:=h',toks:=tk}:=I.turned (fun b o hb e=>kk b o (by simpa using hb) e) f0 f1 f3 f4 f5;refine⟨_,rfl,go_of (s:={s with heap:=h',toks:=tk}) (n:="range_iterator") st' rfl rfl %[|4] ⟨.int (lo+i),H,I1,⟨t,?_⟩,⟨rfl,rfl⟩,st',fun b hb=>(hf b hb).1⟩⟩;rw[Int.mul_one]
 done:=by
  intro X hP hw hK hc i pins s σ H E I hf st hg;subst hP hw hK;obtain⟨f0,f1,f2,f3,f4,f5⟩:=hf it (by simp);exact wpAny_pyNext_range_end (I.ok.hd hc) st (by have:n<=i:=hg;omega) fun h' eb=>⟨rfl,I.turned (t':=s.toks) (fun b o hb e=>eb b o hb e) f0 f1 f3 f4 f5⟩
 self:=fun _ _ _ _ _ st h=>wpAny_pyIter_rangeiter st h
end L2
namespace L2
open PySem PySem.Spec PyProof.Rows
section
variable {X:Cx} {tg:Expr}
theorem range_it {pins:List (Addr×Obj)} {σ:St} {H:Hp} {s:Shared} {R:It->Hp->Prop} {E:Value->Shared->Prop} {lo hi:Int} {t u v:Tok} {tk:Nat} (I:Inv X pins σ H s) (h1:-(2 ^ 62)<=lo) (h2:lo<2 ^ 62) (h3:-(2 ^ 62)<=hi) (h4:hi<2 ^ 62)
  (q:R (Itr lo (hi-lo).toNat) H):wpAny (model X.prog X.w) X.A (pyIter (.ref s.heap.objs.size)) (PIE X pins σ tg R) E {s with heap:=s.heap.push {cls:=.type "range",data:=.fields #[.int lo t,.int hi u,.int 1 v]},toks:=tk}:=by
 refine wpAny_pyIter_range (IsRange.new ..) (small_one h1 h2 h3 h4) ?_;have I1:Inv X pins σ H {s with heap:=s.heap.push {cls:=.type "range",data:=.fields #[.int lo t,.int hi u,.int 1 v]},toks:=tk}:=I.kept fun b o e=>Heap.get?_push_of_some _ e;refine⟨(s.heap.push {cls:=.type "range",data:=.fields #[.int lo t,.int hi u,.int 1 v]}).objs.size,[(s.heap.push {cls:=.type "range",data:=.fields #[.int lo t,.int hi u,.int 1 v]}).objs.size],_,_,H,rfl,
  I1.kept (t':=tk) fun b o e=>Heap.get?_push_of_some _ e,turn_range _ lo (hi-lo).toNat,?_,fun b hb=>?_,q⟩
 ·have e1:lo+((0:Nat):Int)*1=lo:=by simp
  have e2:(((hi-lo).toNat:Nat):Int)-((0:Nat):Int)=Builtin.Range.rangeSize lo hi 1:=by rw[rangeSize_one];split<;>omega
  show IsRangeIter _ _ (lo+((0:Nat):Int)*1) ((((hi-lo).toNat:Nat):Int)-((0:Nat):Int)) 1;rw[e1,e2];exact Heap.get?_push_size _ rfl
 ·have e:b=(s.heap.push {cls:=.type "range",data:=.fields #[.int lo t,.int hi u,.int 1 v]}).objs.size:=by simpa using hb
  subst e;exact I1.fpOk %[|3] (I1.hok.fresh %[|3])
noncomputable def tFor (wi:TI) (g:TG) (tb:TS):TS:=fun D σ H=>wi σ H fun J H1=>∃ W:Nat->Nat->St->Hp->Prop,(∃ m,W 0 m σ H1)/\∀ i m σ H,W i m σ H ->
 (J.stop i H/\D.nx σ H)\/(J.go i H/\∃ N:St->Hp->Prop,(∀ σ' H',N σ' H'->∃ m',m'<m/\W (i+1) m' σ' H')/\∀ x H',J.yld i H x H'->g x σ H' fun σ2 H2=>tb {D with nx:=N,ct:=N,bk:=D.nx} σ2 H2)
noncomputable def pinsAt (fp:List Addr) (h:Heap):List (Addr×Obj):=fp.filterMap fun b=>(h.get? b).map fun o=>(b,o)
theorem mem_pinsAt (hb:b∈fp) (e:h.get? b=some o):(b,o)∈pinsAt fp h:=List.mem_filterMap.mpr ⟨b,hb,by rw[e];rfl⟩
theorem of_pinsAt (hp:p∈pinsAt fp h):p.1∈fp/\h.get? p.1=some p.2:=by
 obtain⟨b,hb,e⟩:=List.mem_filterMap.mp hp;cases q:h.get? b with
 | none=>rw [q] at e;cases e
 | some o =>
  rw[q] at e;have e':(b,o)=p:=Option.some.inj e;subst e';exact⟨hb,q⟩
theorem Inv.pinned (I:Inv X pins σ H s) (hf:∀ b∈fp,FpOk X pins H b) (ho:∀ b∈fp,∃ o,s.heap.get? b=some o/\∀ v,o.data≠.cell v):Inv X (pins++pinsAt fp s.heap) σ H s :=
 I.pins_of fun p hp=>(List.mem_append.mp hp).elim (fun z=>I.pin p (List.mem_append_right _ z)) fun z=>by
  obtain⟨hb,e⟩:=of_pinsAt z;obtain⟨f0,f1,f2,_⟩:=hf p.1 hb;obtain⟨o,e',d⟩:=ho p.1 hb;rw[e] at e';cases e';exact⟨e,f0,f1,f2,d⟩
theorem Inv.unpinned (I:Inv X (pins++pl) σ H s):Inv X pins σ H s:=I.pins_of fun p hp=>I.pin p (List.mem_append_right _ (List.mem_append_left _ hp))
theorem ps_for (hp:PassesOwn (model X.prog X.w) X.A X.env X.xe) (hc:X.calm=true) (hi:PI X tg iter wi) (hg:PG X tg g) (hb:PSs X body tb)
  (hs:∀ x,foldedSetIterable iter X.env x=pure x:=by intro _;rfl):PS X (.For tg iter body [] pos) (tFor wi g tb):=by
 intro pins s σ H D I h;refine wpAny_For (thn (hi pins s σ H _ I h) fun v s1 h1=>thn h1 fun itv s2 h2=>?_) hs;obtain⟨it,fp,tn,J,H2,e,I2,T,st2,f2,W,⟨m0,w0⟩,turn⟩:=h2;subst e;have stat:∀ {H':Hp},(∀ b∈fp,H' b=none)->∀ b∈fp,FpOk X pins H' b:=fun hn b hb=>⟨hn b hb,(f2 b hb).2⟩;refine codeAny_forLoop_any (fun n s'=>∃ i σ' H',Inv X pins σ' H' s'/\tn i s'.heap/\(∀ b∈fp,H' b=none)/\W i n σ' H') ?_ m0 ⟨0,σ,H2,I2,st2,fun b hb=>(f2 b hb).1,w0⟩;rintro n s3 ⟨i,σ3,H3,I3,st3,fr3,w3⟩;rcases turn i n σ3 H3 w3 with ⟨stop,qn⟩|⟨go,N,hN,step⟩
 ·refine wpAny_passesOwn hp (thn (T.done X rfl rfl rfl hc i pins s3 σ3 H3 X.xe I3 (stat fr3) st3 stop) fun r s4 hq2=>?_)
  obtain⟨hr,I4⟩:=hq2;subst hr;exact wpAny_execs_nil ⟨σ3,H3,I4,qn⟩
 ·refine wpAny_passesOwn hp (thn (T.item X rfl rfl rfl hc i pins s3 σ3 H3 X.xe I3 (stat fr3) st3 go) fun r s4 hq2=>?_)
  obtain⟨u,hr,h4⟩:=hq2;subst hr;refine wpAny_passesOwn hp (thn h4 fun _ s5 hq2=>?_);obtain⟨x,H5,I5,r5,y5,st5,fr5⟩:=hq2;have I5':=I5.pinned (stat fr5) (T.obj _ _ st5);refine wpAny_passesOwn hp (thn (hg _ s5 σ3 H5 x u _ I5' r5 (step x H5 y5)) fun _ s6 hq2=>?_);obtain⟨σ6,H6,I6,q6⟩:=hq2;refine wpAny_passesOwn hp (thn (hb _ s6 σ6 H6 _ I6 q6) fun f s7 q7=>?_);have again:∀ {σ7:St} {H7:Hp},Inv X (pins++pinsAt fp s5.heap) σ7 H7 s7->N σ7 H7->∃ m,m<n/\∃ i σ' H',Inv X pins σ' H' s7/\tn i s7.heap/\(∀ b∈fp,H' b=none)/\W i m σ' H':=fun {σ7 H7} I7 n7=>by
   obtain⟨m',hm,w7⟩:=hN σ7 H7 n7;refine⟨m',hm,i+1,σ7,H7,I7.unpinned,T.keep _ _ _ st5 fun b hb o e=>(I7.pin (b,o) (List.mem_append_right _ (List.mem_append_right _ (mem_pinsAt hb e)))).1,fun b hb=>?_,w7⟩;obtain⟨o,e,d⟩:=T.obj _ _ st5 b hb;exact (I7.pin (b,o) (List.mem_append_right _ (List.mem_append_right _ (mem_pinsAt hb e)))).2.1
  cases f with
  | next=>obtain⟨σ7,H7,I7,n7⟩:=q7;exact again I7 n7
  | cont=>obtain⟨σ7,H7,I7,n7⟩:=q7;exact again I7 n7
  | brk=>obtain⟨σ7,H7,I7,q7⟩:=q7;exact⟨σ7,H7,I7.unpinned,q7⟩
  | ret v=>obtain⟨x7,σ7,H7,I7,r7,q7⟩:=q7;exact⟨x7,σ7,H7,I7.unpinned,r7,q7⟩
end
end L2
namespace L2
open PySem PySem.Spec PyProof.Rows
abbrev R2:=V->V->Hp->VK->Prop
noncomputable def OpR (X:Cx) (f:Value->Value->Sem Value) (r:R2):Prop :=
 ∀ (pins:List (Addr×Obj)) (s:Shared) (σ:St) (H:Hp) (x y:V) (v u:Value) (Q:VK),Inv X pins σ H s->RelV x v->RelV y u->r x y H Q ->
  wpAny (model X.prog X.w) X.A (f v u) (EP X pins σ Q) X.xe s
noncomputable def UnR (X:Cx) (f:Value->Sem Value) (r:V->Hp->VK->Prop):Prop :=
 ∀ (pins:List (Addr×Obj)) (s:Shared) (σ:St) (H:Hp) (x:V) (v:Value) (Q:VK),Inv X pins σ H s->RelV x v->r x H Q ->
  wpAny (model X.prog X.w) X.A (f v) (EP X pins σ Q) X.xe s
noncomputable def CallR (X:Cx) (f:Value) (r:List V->Hp->VK->Prop):Prop :=
 ∀ (pins:List (Addr×Obj)) (s:Shared) (σ:St) (H:Hp) (xs:List V) (us:List Value) (Q:VK),Inv X pins σ H s->Vals xs us->r xs H Q ->
  wpAny (model X.prog X.w) X.A (call f us) (EP X pins σ Q) X.xe s
noncomputable def TruR (X:Cx) (r:V->Hp->(Bool->Hp->Prop)->Prop):Prop :=
 ∀ (pins:List (Addr×Obj)) (s:Shared) (σ:St) (H:Hp) (x:V) (v:Value) (Q:Bool->Hp->Prop),Inv X pins σ H s->RelV x v->r x H Q ->
  wpAny (model X.prog X.w) X.A (truthy v) (TP X pins σ Q) X.xe s
noncomputable def tOp (r:R2) (ta tb:TE):TE:=fun σ H Q=>ta σ H fun x H1=>tb σ H1 fun y H2=>r x y H2 Q
noncomputable def tUn (r:V->Hp->VK->Prop) (ta:TE):TE:=fun σ H Q=>ta σ H fun x H1=>r x H1 Q
noncomputable def rI (C:Int->Int->Prop) (g:Int->Int->V):R2:=fun x y H Q=>∃ i j,x=.int i/\y=.int j/\C i j/\Q (g i j) H
noncomputable def rI0 (g:Int->Int->V):R2:=fun x y H Q=>∃ i j,x=.int i/\y=.int j/\Q (g i j) H
noncomputable def rU (g:Int->V):V->Hp->VK->Prop:=fun x H Q=>∃ i,x=.int i/\Q (g i) H
section
variable {X:Cx} {a b c:Expr} {ta tb tc:TE} {pos:Pos}
theorem binT (ha:PE X a ta) (hb:PE X b tb) {pins:List (Addr×Obj)} {s:Shared} {σ:St} {H:Hp} {R:V->V->Hp->Prop} (I:Inv X pins σ H s)
  (h:ta σ H fun x H1=>tb σ H1 fun y H2=>R x y H2) {Q:Value->Shared->Prop} {f:Value->Value->Sem Value}
  (hf:∀ v u s2 x y H2,Inv X pins σ H2 s2->RelV x v->RelV y u->R x y H2->wpAny (model X.prog X.w) X.A (f v u) Q X.xe s2) :
  wpAny (model X.prog X.w) X.A (eval a X.env) (fun v s₁=>wpAny (model X.prog X.w) X.A (eval b X.env) (fun u s₂=>wpAny (model X.prog X.w) X.A (f v u) Q X.xe s₂) X.xe s₁) X.xe s:=by
 refine thn (ha pins s σ H _ I h) fun v s1 hq2=>?_;obtain⟨x,H1,I1,r1,q1⟩:=hq2;refine thn (hb pins s1 σ H1 _ I1 q1) fun u s2 hq2=>?_;obtain⟨y,H2,I2,r2,q2⟩:=hq2;exact hf v u s2 x y H2 I2 r1 r2 q2
theorem pe_op {op:Operator} {r:R2} (ho:OpR X (binaryOp op) r) (ha:PE X a ta) (hb:PE X b tb):PE X (.BinOp a op b pos) (tOp r ta tb):=by
 intro pins s σ H Q I h;exact wpAny_BinOp (binT ha hb I h fun v u s2 x y H2 I2 rx ry q=>ho pins s2 σ H2 x y v u Q I2 rx ry q)
theorem pe_un (ho:UnR X (unaryOp op) r) (ha:PE X a ta):PE X (.UnaryOp op a pos) (tUn r ta):=by
 intro pins s σ H Q I h;exact UnaryOp_ (thn (ha pins s σ H _ I h) (by rintro v s1 ⟨x,H1,I1,r1,q1⟩;exact ho pins s1 σ H1 x v Q I1 r1 q1))
theorem opI {f:Value->Value->Sem Value} {C:Int->Int->Prop} {g:Int->Int->Int}
  (rule:∀ (i j:Int) (t u:Tok) (s:Shared) (Q:Value->Shared->Prop) (E:Value->Shared->Prop),C i j->Q (.int (g i j) s.toks) {s with toks:=s.toks+1}->wpAny (model X.prog X.w) X.A (f (.int i t) (.int j u)) Q E s) :
  OpR X f (rI C fun i j=>.int (g i j)):=by
 intro pins s σ H x y v u Q I rx ry h;obtain⟨i,j,rfl,rfl,hc,q⟩:=h;obtain⟨t,rfl⟩:=rx;obtain⟨t',rfl⟩:=ry;exact rule i j t t' s _ _ hc ⟨.int (g i j),H,I.tok _,⟨_,rfl⟩,q⟩
theorem opI0 {f:Value->Value->Sem Value} {g:Int->Int->Int}
  (rule:∀ (i j:Int) (t u:Tok) (s:Shared) (Q:Value->Shared->Prop) (E:Value->Shared->Prop),Q (.int (g i j) s.toks) {s with toks:=s.toks+1}->wpAny (model X.prog X.w) X.A (f (.int i t) (.int j u)) Q E s) :
  OpR X f (rI0 fun i j=>.int (g i j)):=by
 intro pins s σ H x y v u Q I rx ry h;obtain⟨i,j,rfl,rfl,q⟩:=h;obtain⟨t,rfl⟩:=rx;obtain⟨t',rfl⟩:=ry;exact rule i j t t' s _ _ ⟨.int (g i j),H,I.tok _,⟨_,rfl⟩,q⟩
theorem opB0 {f:Value->Value->Sem Value} {g:Int->Int->Bool}
  (rule:∀ (i j:Int) (t u:Tok) (s:Shared) (Q:Value->Shared->Prop) (E:Value->Shared->Prop),Q (.bool (g i j)) s->wpAny (model X.prog X.w) X.A (f (.int i t) (.int j u)) Q E s) :
  OpR X f (rI0 fun i j=>.bl (g i j)):=by
 intro pins s σ H x y v u Q I rx ry h;obtain⟨i,j,rfl,rfl,q⟩:=h;obtain⟨t,rfl⟩:=rx;obtain⟨t',rfl⟩:=ry;exact rule i j t t' s _ _ ⟨.bl (g i j),H,I,rfl,q⟩
noncomputable def CPow (i j:Int):Prop:=0<=j/\j<=1000000/\i.natAbs<2 ^ 64
theorem op_add:OpR X (binaryOp .Add) (rI0 fun i j=>.int (i+j)):=opI0 fun _ _ _ _ _ _ _ q=>add_int q
theorem unI {f:Value->Sem Value} {g:Int->Int}
  (rule:∀ (i:Int) (t:Tok) (s:Shared) (Q:Value->Shared->Prop) (E:Value->Shared->Prop),Q (.int (g i) s.toks) {s with toks:=s.toks+1}->wpAny (model X.prog X.w) X.A (f (.int i t)) Q E s) :
  UnR X f (rU fun i=>.int (g i)):=by
 intro pins s σ H x v Q I rx h;obtain⟨i,rfl,q⟩:=h;obtain⟨t,rfl⟩:=rx;exact rule i t s _ _ ⟨.int (g i),H,I.tok _,⟨_,rfl⟩,q⟩
theorem un_neg:UnR X (unaryOp .USub) (rU fun i=>.int (-i)):=unI fun _ _ _ _ _ q=>neg_int q
end
section
variable {X:Cx} {a b c:Expr} {ta tb tc:TE} {pos:Pos}
theorem fin_bl (I:Inv X pins σ H s) (q:Q (.bl k) H) (e:k=k'):EP X pins σ Q (.bool k') s:=by
 subst e;exact⟨.bl k,H,I,rfl,q⟩
theorem op_lt:OpR X (compareOp .Lt) (rI0 fun i j=>.bl (decide (i<j))):=opB0 fun _ _ _ _ _ _ _ q=>lt_int q
theorem op_le:OpR X (compareOp .LtE) (rI0 fun i j=>.bl (decide (i<=j))):=opB0 fun _ _ _ _ _ _ _ q=>le_int q
theorem op_gt:OpR X (compareOp .Gt) (rI0 fun i j=>.bl (decide (j<i))):=opB0 fun _ _ _ _ _ _ _ q=>gt_int q
theorem op_ge:OpR X (compareOp .GtE) (rI0 fun i j=>.bl (decide (j<=i))):=opB0 fun _ _ _ _ _ _ _ q=>ge_int q
theorem op_in_str:OpR X (compareOp .In) (fun x y H Q=>∃ i j,x=.str i/\y=.str j/\Q (.bl (!(Builtin.Str.occurrences j i 0 j.length 1).isEmpty)) H):=by
 intro pins s σ H x y v u Q I rx ry h;obtain⟨i,j,rfl,rfl,q⟩:=h;obtain⟨t,rfl⟩:=rx;obtain⟨t',rfl⟩:=ry;exact in_str (fin_bl I q rfl)
theorem op_notin_str:OpR X (compareOp .NotIn) (fun x y H Q=>∃ i j,x=.str i/\y=.str j/\Q (.bl (!(!(Builtin.Str.occurrences j i 0 j.length 1).isEmpty))) H):=by
 intro pins s σ H x y v u Q I rx ry h;obtain⟨i,j,rfl,rfl,q⟩:=h;obtain⟨t,rfl⟩:=rx;obtain⟨t',rfl⟩:=ry;exact notIn_str (fin_bl I q rfl)
theorem pe_cmpR (ho:OpR X (compareOp op) r) (ha:PE X a ta) (hb:PE X b tb) (hm:behindInMarks op b=false):PE X (.Compare a [op] [b] pos) (tOp r ta tb):=by
 intro pins s σ H Q I h;exact wpAny_Compare1 (binT ha hb I h fun v u s2 x y H2 I2 rx ry q=>ho pins s2 σ H2 x y v u Q I2 rx ry q) hm
noncomputable def tTest (t:TE):TT:=fun σ H Q=>t σ H fun x H'=>∃ k,x=.bl k/\Q k H'
theorem pt_cmpR (ho:OpR X (compareOp op) r) (ha:PE X a ta) (hb:PE X b tb) (hm:behindInMarks op b=false):PT X (.Compare a [op] [b] pos) (tTest (tOp r ta tb)):=by
 intro pins s σ H Q I h;refine wpAny_isTrue_Compare1 (thn (ha pins s σ H _ I h) fun v s1 ⟨x,H1,I1,r1,q1⟩=>thn (hb pins s1 σ H1 _ I1 q1) fun u s2 ⟨y,H2,I2,r2,q2⟩ =>
  thn (ho pins s2 σ H2 x y v u _ I2 r1 r2 q2) fun c s3 hq2=>?_) hm
 obtain⟨z,H3,I3,r3,k,e,q3⟩:=hq2;subst e;cases r3;exact wpAny_truthy_bool ⟨H3,I3,q3⟩
noncomputable def tChain (r r':R2) (ta tb tc:TE):TE:=fun σ H Q=>ta σ H fun x H1=>tb σ H1 fun y H2=>r x y H2 fun z H3=>∃ k,z=.bl k /\
 (if k=true then tc σ H3 fun w' H4=>r' y w' H4 Q else Q (.bl false) H3)
theorem pe_chain (ho:OpR X (compareOp op) r) (ho':OpR X (compareOp op') r') (ha:PE X a ta) (hb:PE X b tb) (hc:PE X c tc)
  (hm:lastMarks [op,op'] [b,c]=false:=by with_unfolding_all rfl):PE X (.Compare a [op,op'] [b,c] pos) (tChain r r' ta tb tc):=by
 intro pins s σ H Q I h;refine Compare_chain (thn (ha pins s σ H _ I h) fun v s1 ⟨x,H1,I1,r1,q1⟩=>chain_link (thn (hb pins s1 σ H1 _ I1 q1) fun u s2 ⟨y,H2,I2,r2,q2⟩ =>
  thn (ho pins s2 σ H2 x y v u _ I2 r1 r2 q2) fun d s3 hq2=>?_)) hm
 obtain⟨z,H3,I3,r3,k,e,q3⟩:=hq2;subst e;cases r3;refine wpAny_truthy_bool ?_;cases k with
 | false=>exact ite_ff ⟨.bl false,H3,I3,rfl,q3⟩
 | true=>exact ite_tt (chain_last (thn (hc pins s3 σ H3 _ I3 q3) (by rintro w' s4 ⟨z',H4,I4,r4,q4⟩;exact ho' pins s4 σ H4 y z' u w' Q I4 r2 r4 q4)))
theorem pt_chain (ho:OpR X (compareOp op) r) (ho':OpR X (compareOp op') r') (ha:PE X a ta) (hb:PE X b tb) (hc:PE X c tc)
  (hm:lastMarks [op,op'] [b,c]=false:=by with_unfolding_all rfl):PT X (.Compare a [op,op'] [b,c] pos) (tTest (tChain r r' ta tb tc)):=by
 intro pins s σ H Q I h;refine isTrue_chain (thn (ha pins s σ H _ I h) fun v s1 ⟨x,H1,I1,r1,q1⟩=>test_link (thn (hb pins s1 σ H1 _ I1 q1) fun u s2 ⟨y,H2,I2,r2,q2⟩ =>
  thn (ho pins s2 σ H2 x y v u _ I2 r1 r2 q2) fun d s3 hq2=>?_)) hm
 obtain⟨z,H3,I3,r3,k,e,q3⟩:=hq2;subst e;cases r3;refine wpAny_truthy_bool ?_;cases k with
 | false =>
  obtain⟨k',e',q'⟩:=q3;cases e';exact ite_ff ⟨H3,I3,q'⟩
 | true =>
  refine ite_tt (test_last (thn (hc pins s3 σ H3 _ I3 q3) fun w' s4 ⟨z',H4,I4,r4,q4⟩=>thn (ho' pins s4 σ H4 y z' u w' _ I4 r2 r4 q4) fun d' s5 hq2=>?_));obtain⟨z2,H5,I5,r5,k2,e2,q5⟩:=hq2;subst e2;cases r5;exact wpAny_truthy_bool ⟨H5,I5,q5⟩
noncomputable def TruV (K:Frag) (x:V) (H:Hp) (k:Bool):Prop :=
 match x with
 | .non=>k=false
 | .bl b=>k=b
 | .int i=>k=(i != 0)
 | .str y=>y.length<=sizeLine/\k=((y.length:Int) != 0)
 | .byt y=>y.size<=sizeLine/\k=((y.size:Int) != 0)
 | .ref p=>(∃ xs,SqL K H p xs/\k=!xs.isEmpty)\/(∃ xs,SqT K H p xs/\k=!xs.isEmpty)\/∃ kvs,H p=some (.dK kvs)/\k=!kvs.isEmpty
 | _=>False
theorem isEmpty_kv (r:KV kvs vs):(!vs.isEmpty)=!kvs.isEmpty:=by
 cases r<;>rfl
theorem isEmpty_of (r:Vals xs its):(!its.toArray.isEmpty)=!xs.isEmpty:=by
 cases r<;>simp
theorem line63:(sizeLine:Nat)<2 ^ 63:=by rw[sizeLine_eq];decide
theorem tru_ok:TruR X (fun x H Q=>∃ k,TruV X.K x H k/\Q k H):=by
 intro pins s σ H x v Q I rx h;obtain⟨k,e,q⟩:=h;have hl:=line63;have hs:sizeLine=16777216:=sizeLine_eq;cases x with
 | non =>
  cases rx;have e':k=false:=e;subst e';exact truthy_none ⟨H,I,q⟩
 | bl b =>
  cases rx;have e':k=b:=e;subst e';exact wpAny_truthy_bool ⟨H,I,q⟩
 | int i =>
  obtain⟨t,rfl⟩:=rx;have e':k=(i != 0):=e;subst e';exact PySem.P.truthy_int ⟨H,I,q⟩
 | str y =>
  obtain⟨t,rfl⟩:=rx;obtain⟨hy,e'⟩:y.length<=sizeLine/\k=((y.length:Int) != 0):=e;subst e';exact PySem.P.truthy_str %[|5] ⟨H,I.tok _,q⟩
 | byt y =>
  obtain⟨t,rfl⟩:=rx;obtain⟨hy,e'⟩:y.size<=sizeLine/\k=((y.size:Int) != 0):=e;subst e';exact PySem.W.truthy_bytes %[|5] ⟨H,I.tok _,q⟩
 | ref p =>
  cases rx;have e':(∃ xs,SqL X.K H p xs/\k=!xs.isEmpty)\/(∃ xs,SqT X.K H p xs/\k=!xs.isEmpty)\/∃ kvs,H p=some (.dK kvs)/\k=!kvs.isEmpty:=e;rcases e' with ⟨xs,hx,e'⟩|⟨xs,hx,e'⟩|⟨kvs,hx,e'⟩
  ·subst e'
   obtain⟨its,r,pl,hz⟩:=I.list hx;have hlen:=r.length;exact wpAny_truthy_list pl.isList (by simp only[List.size_toArray];omega) ⟨H,I.tok _,by rw[isEmpty_of r];exact q⟩
  ·subst e'
   obtain⟨its,r,pl,hz⟩:=I.tuple hx;have hlen:=r.length;exact truthy_tuple pl (by simp only[List.size_toArray];omega) ⟨H,I.tok _,by rw[isEmpty_of r];exact q⟩
  ·subst e'
   obtain⟨hz,hS,vs,r,m⟩:kvs.length<=sizeLine/\(p==sysModules)=false/\∃ vs,KV kvs vs/\s.heap.DictOf (mixKind X.prog X.w) p vs:=I.hok p _ hx;have hlen:kvs.length=vs.length:=Paired.length r;exact wpAny_truthy_dict hS m %[|5] ⟨H,I.tok _,by rw[isEmpty_kv r];exact q⟩
 | _=>exact (show False from e).elim
theorem pt_truth (ha:PE X a ta) (he:∀ whole,isTrue a X.env whole=(do let v <- whole;standAt a.pos;holding [v] (truthy v))) :
  PT X a (fun σ H Q=>ta σ H fun x H'=>∃ k,TruV X.K x H' k/\Q k H'):=by
 intro pins s σ H Q I h;exact isTrue_plain (thn (ha pins s σ H _ I h) (by rintro v s1 ⟨x,H1,I1,r1,q1⟩;exact tru_ok pins s1 σ H1 x v Q I1 r1 q1)) (he _)
theorem op_add_str:OpR X (binaryOp .Add) (fun x y H Q=>∃ i j,x=.str i/\y=.str j/\i.length+j.length<=sizeLine/\Q (.str (i++j)) H):=by
 intro pins s σ H x y v u Q I rx ry h;obtain⟨i,j,rfl,rfl,hz,q⟩:=h;obtain⟨t,rfl⟩:=rx;obtain⟨t',rfl⟩:=ry;exact add_str (fun t' tk=>⟨.str (i++j),H,I.tok _,⟨_,rfl⟩,q⟩) hz
theorem vals1 (r:Vals [x] us):∃ u,us=[u]/\RelV x u:=by
 cases r with
 | cons r1 r2=>cases r2;exact⟨_,rfl,r1⟩
theorem vals2 (r:Vals [x,y] us):∃ u w',us=[u,w']/\RelV x u/\RelV y w':=by
 cases r with
 | cons r1 r2 =>
  cases r2 with
  | cons r3 r4=>cases r4;exact⟨_,_,rfl,r1,r3⟩
theorem call_abs:CallR X (.builtin "abs") (fun xs H Q=>∃ i,xs=[.int i]/\Q (.int (if i<0 then -i else i)) H):=by
 intro pins s σ H xs us Q I r h;obtain⟨i,rfl,q⟩:=h;obtain⟨u,rfl,t,rfl⟩:=vals1 r;exact call_abs_int fun u tk=>⟨.int (if i<0 then -i else i),H,I.tok _,⟨_,rfl⟩,q⟩
theorem call_max2 (hc:X.calm=true):CallR X (.builtin "max") (fun xs H Q=>∃ i j,xs=[.int i,.int j]/\Q (.int (if j > i then j else i)) H):=by
 intro pins s σ H xs us Q I r h;obtain⟨i,j,rfl,q⟩:=h;obtain⟨u,w',rfl,⟨t,rfl⟩,⟨t',rfl⟩⟩:=vals2 r;refine max_two_ints (I.ok.hd hc) fun h' tk k=>⟨_,H,I.kept k,?_,q⟩;by_cases hj:j > i
 ·rw[if_pos hj,if_pos hj];exact⟨_,rfl⟩
 ·rw[if_neg hj,if_neg hj];exact⟨_,rfl⟩
theorem call_min2 (hc:X.calm=true):CallR X (.builtin "min") (fun xs H Q=>∃ i j,xs=[.int i,.int j]/\Q (.int (if j<i then j else i)) H):=by
 intro pins s σ H xs us Q I r h;obtain⟨i,j,rfl,q⟩:=h;obtain⟨u,w',rfl,⟨t,rfl⟩,⟨t',rfl⟩⟩:=vals2 r;refine min_two_ints (I.ok.hd hc) fun h' tk k=>⟨_,H,I.kept k,?_,q⟩;by_cases hj:j<i
 ·rw[if_pos hj,if_pos hj];exact⟨_,rfl⟩
 ·rw[if_neg hj,if_neg hj];exact⟨_,rfl⟩
end
end L2
namespace L2
open PySem PySem.Spec PyProof.Rows
section
variable {prog:Program} {w:World} {A:Around} {E:Value->Shared->Prop} {s:Shared} {K:Frag} {x dx C f:Addr} {mA:Str->Option Value} {name:Str} {v:Value}
end
section
variable {P:Program} {w:World} {H H':Hp} {h h':Heap} {a C dx:Addr} {fs fs':List (Str×V)}
end
structure Meth (K:Frag) (C:Addr) (m:Str) (f:Addr):Prop where
 at_:PySem.W.findIn K (.ref C) m=some (some (.ref f))
 fn:PySem.W.isFn K (.ref f)=true
 kp:PySem.W.keepIn K (.ref f)=true
section
variable {X:Cx} {pins:List (Addr×Obj)} {σ:St} {H:Hp} {s:Shared} {a C dx:Addr} {fs:List (Str×V)} {f:Str} {v:V} {A:Around} {E:Value->Shared->Prop}
end
section
variable {X:Cx} {o e value:Expr} {f:Str} {pos pos' tpos:Pos} {ta tv:TE}
end
section
variable {X:Cx} {pins:List (Addr×Obj)} {σ:St} {H:Hp} {s:Shared} {A:Around} {E:Value->Shared->Prop} {Q:Value->Shared->Prop} {c:Value} {b:Bool}
end
end L2
namespace L2
open PySem PySem.Spec PyProof.Rows
structure Room (k:Nat) (A:Around):Prop where
 hd:A.handled=none
 dp:A.depth+3*k+5<recursionLimit
 un:A.units+16*k+200<cLine
theorem Room.mono (r:Room k A) (h:j<=k):Room j A:=⟨r.hd,by have:=r.dp;omega,by have:=r.un;omega⟩
theorem Room.deeper (r:Room (k+1) A) (env:Env):Room k (A.deeper env) :=
 ⟨r.hd,by have:=r.dp;show A.depth+1+3*k+5 < _;omega,by have:=r.un;show A.units+3+16*k+200 < _;omega⟩
theorem Room.depth (r:Room k A):A.depth<recursionLimit:=by have:=r.dp;omega
noncomputable def tNil:TA:=fun _ H Q=>Q [] H
noncomputable def tCons (ta:TE) (tr:TA):TA:=fun σ H Q=>ta σ H fun x H1=>tr σ H1 fun xs H2=>Q (x::xs) H2
section
variable {X:Cx} {e:Expr} {es:List Expr} {te:TE} {t:TA} {pos:Pos}
theorem pa_nil:PA X [] tNil:=fun _ _ _ _ H Q I h=>Calls.spliced_nil ⟨[],H,I,.nil,h⟩
theorem pa_cons (ha:PE X e te) (hr:PA X es t) (hs:starEach (e::es) X.env=(false,eval e X.env)::starEach es X.env:=by rfl):PA X (e::es) (tCons te t):=by
 intro pos pins s σ H Q I h;rw[hs];show wpAny _ _ (spliced ((false,eval e X.env)::backTo pos (starEach es X.env))) _ _ s;refine Calls.spliced_cons (thn (ha pins s σ H _ I h) fun u s1 hq2=>?_);obtain⟨x,H1,I1,r1,q1⟩:=hq2;exact thn (hr pos pins s1 σ H1 _ I1 q1) (by rintro us s2 ⟨xs,H2,I2,r2,q2⟩;exact⟨x::xs,H2,I2,.cons r1 r2,q2⟩)
noncomputable def tTup (t:TA):TE:=fun σ H Q=>t σ H fun xs H1=>xs.length<=sizeLine/\∀ p,H1 p=none->Q (.ref p) (upd H1 p (.tup xs))
noncomputable def tLst (t:TA):TE:=fun σ H Q=>t σ H fun xs H1=>xs.length<=sizeLine/\∀ p,H1 p=none->Q (.ref p) (upd H1 p (.lst xs))
theorem pe_tup {x1} (h:PA X es t):PE X (.Tuple es x1 pos) (tTup t):=by
 intro pins s σ H Q I hq;refine wpAny_Tuple_spliced (thn (h pos pins s σ H _ I hq) fun us s1 ⟨xs,H1,I1,r,z,q⟩=>⟨by rw[<- r.length];exact z,?_⟩);have hf:H1 s1.heap.objs.size=none:=I1.hok.fresh %[|3];refine⟨.ref s1.heap.objs.size,upd H1 s1.heap.objs.size (.tup xs),I1.laid (t':=s1.toks) (fun b u e=>Heap.get?_push_of_some _ e) %[|3] ?_,rfl,q _ hf⟩;exact⟨z,us,r,⟨_,Heap.get?_push_size _ rfl,rfl,_,rfl⟩⟩
theorem pe_lst (h:PA X es t):PE X (.List es pos) (tLst t):=by
 intro pins s σ H Q I hq;refine wpAny_List_spliced (thn (h pos pins s σ H _ I hq) fun us s1 ⟨xs,H1,I1,r,z,q⟩=>⟨by rw[<- r.length];exact z,?_⟩);have hf:H1 s1.heap.objs.size=none:=I1.hok.fresh %[|3];refine⟨.ref s1.heap.objs.size,upd H1 s1.heap.objs.size (.lst xs),I1.laid (t':=s1.toks) (fun b u e=>Heap.get?_push_of_some _ e) %[|3] ?_,rfl,q _ hf⟩;exact⟨z,us,0,r,Heap.get?_push_size _ rfl⟩
end
abbrev Sp:=List V->Hp->VK->XK->Prop
abbrev CXT:=List Env->Hp->Shared->XK->Value->Shared->Prop
structure Env0 (P:Program) (w:World) (K:Frag) (mg:Str->Option Value) (base:Heap) (A:Around) (outer:List Env) (s:Shared) (H:Hp):Prop where
 frames:A.frames=some outer
 mod:Mod K mg base
 bs:∀ b o,base.get? b=some o->s.heap.get? b=some o/\H b=none
 bsz:base.objs.size<=s.heap.objs.size
 funs:s.heap.FunFrames base outer
 frf:∀ b∈frs outer,H b=none
 hok:HOk P w H s.heap
 bare:AllBare s.gens
noncomputable def CE (outer:List Env) (P:Program) (w:World) (H:Hp) (s:Shared) (Q:VK) (u:Value) (s':Shared):Prop :=
 ∃ v H',s'.os=s.os/\AllBare s'.gens/\Un (frs outer) [] H H' s.heap s'.heap/\HOk P w H' s'.heap/\RelV v u/\Q v H'
noncomputable def CR (CX:CXT) (outer:List Env) (P:Program) (w:World) (H:Hp) (s:Shared) (Q:VK) (E:XK) (r:Result) (s':Shared):Prop :=
 match r with
 | .ok (.ret u)=>CE outer P w H s Q u s'
 | .ok _=>False
 | .error e=>CX outer H s E e s'
structure FnOk (P:Program) (w:World) (K:Frag) (mg:Str->Option Value) (base:Heap) (CX:CXT) (k:Nat) (f:Addr) (fd:FuncData) (ps:List Str) (sp:Sp):Prop where
 len:∀ vs H Q E,sp vs H Q E->vs.length=ps.length
 run:∀ (A:Around) (outer:List Env) (s:Shared) (H:Hp) (args:Args) (us:List Value) (vs:List V) (Q:VK) (E:XK),Room k A->Env0 P w K mg base A outer s H->BindsTo s fd args (ps.zip us)->Vals vs us->sp vs H Q E ->
  codeAny (model P w) A (.call (.ref f) args) (CR CX outer P w H s Q E) s
theorem FnOk.mono {P:Program} {w:World} {K:Frag} {mg:Str->Option Value} {base:Heap} {CX:CXT} {j k:Nat} {f:Addr} {fd:FuncData} {ps:List Str} {sp:Sp} (F:FnOk P w K mg base CX j f fd ps sp) (h:j<=k) :
  FnOk P w K mg base CX k f fd ps sp:=⟨F.len,fun A outer s H args us vs Q E hr=>F.run A outer s H args us vs Q E (hr.mono h)⟩
section
variable {X:Cx} {pins:List (Addr×Obj)} {σ:St} {H:Hp} {s s':Shared}
theorem Inv.env0 (I:Inv X pins σ H s):Env0 X.prog X.w X.K X.mg X.base X.A X.stack s H :=
 ⟨I.ok.frames,I.ok.mod,I.bs,Nat.le_trans I.ok.bsz I.sz,I.stack,I.stkFree,I.hok,I.bare⟩
theorem Inv.after (I:Inv X pins σ H s) (h:CE X.stack X.prog X.w H s Q u s'):EP X pins σ Q u s':=by
 obtain⟨v,H',os,bare,un,hok,r,q⟩:=h;obtain⟨hh,g,d,t,os'⟩:=s';obtain rfl:os'=s.os:=os;exact⟨v,H',I.call (h':=hh) (g':=g) (d':=d) (t':=t) (ch:=[]) un hok bare (fun b z=>absurd z (by simp)),r,q⟩
end
noncomputable def Binds (K:Frag) (fd:FuncData) (ps:List Str) (ds:List Value):Prop :=
 ∀ (s:Shared) (us:List Value),K.In s.heap->(us++ds).length=ps.length->BindsTo s fd ⟨us,[]⟩ (ps.zip (us++ds))
theorem Binds.all {K:Frag} {fd:FuncData} {ps:List Str} (h:∀ us:List Value,us.length=ps.length->bindArgs fd ⟨us,[]⟩=pure (ps.zip us)):Binds K fd ps []:=fun s us _ hl=>by
 rw[List.append_nil] at hl ⊢;exact .of_eq (h us hl)
section
variable {X:Cx} {CX:CXT} {k:Nat} {f C:Addr} {fd:FuncData} {ps:List Str} {sp:Sp} {dvs:List V} {ds:List Value} {E:XK} {x m:Str} {p pos apos:Pos} {e o:Expr} {es:List Expr} {ta:TE} {t:TA}
structure Mk (K:Frag) (C f:Addr):Prop where
 makes:PySem.W.makesIn K C=true
 init:PySem.W.findIn K (.ref C) "__init__"=some (some (.ref f))
 fn:PySem.W.isFn K (.ref f)=true
 kp:PySem.W.keepIn K (.ref C)=true
end
section
variable {X:Cx} {CX:CXT} {k:Nat} {f C:Addr} {fd:FuncData} {ps ks:List Str} {sp:Sp} {E:XK} {x m:Str} {p pos apos kpos:Pos} {e o:Expr} {es:List Expr} {kws:List Keyword} {te ta:TE} {t tk:TA} {nm:Option Str}
variable {g:List Value->List Value->List Value} {gV:List V->List V->List V}
end
structure FnScope (N P:List Str) (sc:Scope):Prop where
 kind:sc.kind=.function
 co:sc.isCoroutine=false
 gen:sc.isGenerator=false
 nd:N.Nodup
 pre:N.take P.length=P
 par:∀ x∈P,sc.names.lookup x=some .local\/sc.names.lookup x=some .cell
 nofree:∀ y∈sc.names,y.2≠.free
theorem bindL_out {kindOf:Str->Option NameKind} {x:Str}:∀ {binds:List (Str×Value)} {m:Str->Option Value},(∀ v,(x,v) ∉ binds)->bindL kindOf binds m x=m x
 | [],_,_=>rfl
 | (n,v)::r,m,h=>by
  unfold bindL;rw[bindL_out fun w hw=>h w (List.mem_cons_of_mem _ hw)];split
  ·have:x≠n:=by rintro rfl;exact h v List.mem_cons_self
   simp[this]
  ·rfl
theorem bindC_out {kindOf:Str->Option NameKind} {x:Str}:∀ {binds:List (Str×Value)} {m:Str->Option Value},(∀ v,(x,v) ∉ binds)->bindC kindOf binds m x=m x
 | [],_,_=>rfl
 | (n,v)::r,m,h=>by
  unfold bindC;rw[bindC_out fun w hw=>h w (List.mem_cons_of_mem _ hw)];split
  ·rfl
  ·have:x≠n:=by rintro rfl;exact h v List.mem_cons_self
   simp[this]
theorem bindL_get {kindOf:Str->Option NameKind} {x:Str} {v:Value}:∀ {P:List Str} {vs:List Value} {i:Nat} {m:Str->Option Value},P.Nodup->P[i]?=some x->vs[i]?=some v->kindOf x=some .local ->
  bindL kindOf (P.zip vs) m x=some v
 | [],_,_,_,_,h,_,_=>by simp at h
 | _::_,[],_,_,_,_,h,_=>by simp at h
 | p::P,w::vs,0,m,nd,h1,h2,hk=>by
  simp at h1 h2;subst h1;subst h2;show bindL kindOf ((p,w)::P.zip vs) m p=_;unfold bindL;rw[bindL_out fun v hv=>(List.nodup_cons.mp nd).1 (List.of_mem_zip hv).1,if_pos hk];simp
 | p::P,w::vs,i+1,m,nd,h1,h2,hk=>by
  show bindL kindOf ((p,w)::P.zip vs) m x=_;unfold bindL;exact bindL_get (i:=i) (List.nodup_cons.mp nd).2 (by simpa using h1) (by simpa using h2) hk
theorem bindC_get {kindOf:Str->Option NameKind} {x:Str} {v:Value}:∀ {P:List Str} {vs:List Value} {i:Nat} {m:Str->Option Value},P.Nodup->P[i]?=some x->vs[i]?=some v->kindOf x≠some .local ->
  bindC kindOf (P.zip vs) m x=some v
 | [],_,_,_,_,h,_,_=>by simp at h
 | _::_,[],_,_,_,_,h,_=>by simp at h
 | p::P,w::vs,0,m,nd,h1,h2,hk=>by
  simp at h1 h2;subst h1;subst h2;show bindC kindOf ((p,w)::P.zip vs) m p=_;unfold bindC;rw[bindC_out fun v hv=>(List.nodup_cons.mp nd).1 (List.of_mem_zip hv).1,if_neg hk];simp
 | p::P,w::vs,i+1,m,nd,h1,h2,hk=>by
  show bindC kindOf ((p,w)::P.zip vs) m x=_;unfold bindC;exact bindC_get (i:=i) (List.nodup_cons.mp nd).2 (by simpa using h1) (by simpa using h2) hk
noncomputable def start (N:List Str) (vs:List V):St:=vs.map some++List.replicate (N.length-vs.length) none
noncomputable def cxOf (CX:CXT) (P:Program) (w:World) (K:Frag) (mg:Str->Option Value) (base:Heap) (N:List Str) (qual:Str) (scope:Scope) (f:Addr) (cd:Value) (A:Around) (outer:List Env) (s:Shared) (H:Hp) (E:XK):Cx where
 prog:=P
 w:=w
 K:=K
 mg:=mg
 base:=base
 A:=A.deeper (envOfC qual scope s.heap.objs.size f cd)
 N:=N
 s₀:=s
 H₀:=H
 env:=envOfC qual scope s.heap.objs.size f cd
 outer:=outer
 stack:=envOfC qual scope s.heap.objs.size f cd::outer
 ex:=[]
 calm:=true
 fn:=fun _=>true
 pn:=[]
 xe:=fun e s'=>wpAny (model P w) (A.deeper (envOfC qual scope s.heap.objs.size f cd)) (leaving (envOfC qual scope s.heap.objs.size f cd) e) (fun _ s''=>CX outer H s E e s'') (fun e' s''=>CX outer H s E e' s'') s'
theorem cell_has {sc:Scope} {n:Nat} {x:Str} (h:sc.names.lookup x=some .cell):∃ c,(cellsFrom n sc.names []).lookup x=some c:=by
 have q:=PySem.W.cellsFrom_some sc.names n [] (.inl h);exact Option.isSome_iff_exists.mp q
theorem inv_start {CX:CXT} {P:Program} {w:World} {K:Frag} {mg:Str->Option Value} {base:Heap} {N ps:List Str} {qual:Str} {scope:Scope} {f:Addr} {cd:Value} {A:Around} {outer:List Env} {s s1:Shared} {H:Hp} {E:XK} {us:List Value} {vs:List V}
  (S:FnScope N ps scope) (hd:A.handled=none) (e0:Env0 P w K mg base A outer s H) (hl:vs.length=ps.length) (r:Vals vs us)
  (x:InCallC s s.heap.objs.size (bindL (envOfC qual scope s.heap.objs.size f cd).kindOf (ps.zip us) fun _=>none) (cellsFrom (s.heap.objs.size+1) scope.names []) (bindC (envOfC qual scope s.heap.objs.size f cd).kindOf (ps.zip us) fun _=>none) s1) :
  Inv (cxOf CX P w K mg base N qual scope f cd A outer s H E) [] (start N vs) H s1:=by
 have hpl:ps.length<=N.length:=by have:=congrArg List.length S.pre;rw[List.length_take] at this;omega
 obtain⟨h1,tk,rfl,hk⟩:=x.done;have noA:∀ b:Addr,b ∉ (cxOf CX P w K mg base N qual scope f cd A outer s H E).ex:=fun b z=>absurd (show b∈([]:List Addr) from z) (by simp);refine⟨⟨e0.mod,S.kind,rfl,rfl,Nat.le_refl _,fun y z c h1 h2=>?_,fun y hy=>?_,fun y c _ h=>?_,fun _=>hd,Around.frames_deeper e0.frames,.inr ⟨rfl,rfl⟩,fun b z=>absurd z (noA b),e0.bs,e0.bsz,fun b _ _=>noA b,fun b z=>absurd z (noA b),e0.funs,e0.frf⟩,
  rfl,e0.bare,Un.kept hk,⟨_,x.toInCall.ns,fun i y v h1 h2 h3=>?_⟩,fun y c h=>⟨_,x.cell y c h⟩,e0.hok.fresh %[|3],fun y c h=>?_,fun p hp=>absurd (show p∈([]:List (Addr×Obj)) from hp) (by simp),e0.hok.kept hk,?_⟩
 ·exact name_of_addr x.apart (PySem.mem_of_lookup h1) (PySem.mem_of_lookup h2)
 ·have hy:scope.names.lookup y=some .cell\/scope.names.lookup y=some .free:=hy
  rcases hy with hy|hy
  ·exact cell_has hy
  ·exact absurd rfl (S.nofree _ (PySem.mem_of_lookup hy))
 ·exact Nat.le_of_lt (x.above y c (PySem.mem_of_lookup h))
 ·have hi:i<vs.length:=by
   unfold start at h2;by_cases hi:i<vs.length
   ·exact hi
   ·rw[List.getElem?_append_right (by simpa using hi)] at h2
    rw[List.getElem?_replicate] at h2;split at h2<;>cases h2
  have ha:vs[i]?=some v:=by
   unfold start at h2;rw[List.getElem?_append_left (by simpa using hi),List.getElem?_map] at h2;cases e:vs[i]? with
   | none=>rw [e] at h2;cases h2
   | some a=>rw [e] at h2;cases h2;rfl
  obtain⟨u,hu,rv⟩:=r.get ha;have hp:ps[i]?=some y:=by
   rw[<- S.pre,List.getElem?_take_of_lt %[|5]];exact h1
  have ndP:ps.Nodup:=by rw[<- S.pre];exact S.nd.sublist (List.take_sublist _ _)
  refine⟨u,rv,?_⟩;rcases S.par y (List.mem_of_getElem? hp) with k|k
  ·exact .inl ⟨k,bindL_get ndP hp hu k⟩
  ·obtain⟨c,e⟩:=cell_has (n:=s.heap.objs.size+1) k
   refine .inr ⟨.inl k,c,e,?_⟩;have q:=x.cell y c e;rw[bindC_get ndP hp hu (by show scope.names.lookup y≠_;rw[k];decide)] at q;exact q
 ·exact e0.hok.fresh (Nat.le_of_lt (x.above y c (PySem.mem_of_lookup h)))
 ·unfold start
  show _=N.length;rw[List.length_append,List.length_map,List.length_replicate];omega
theorem fn_of {CX:CXT} {P:Program} {w:World} {K:Frag} {mg:Str->Option Value} {base:Heap} {k:Nat} {f:Addr} {name qual:Str} {params:Arguments} {body:List Stmt} {scope:Scope} {dV kV doc pm cdv ct oc:Value} {an od:Option Addr}
  {osl:Array (Option Value)} {N ps:List Str} {sp:Sp} (lk:K.lookup f=some ⟨oc,od,.func (PySem.W.fnOf name qual params body scope dV kV doc pm an cdv ct),osl⟩) (hcd:PySem.W.codeIn K cdv qual=true) (S:FnScope N ps scope)
  (len:∀ vs H Q E,sp vs H Q E->vs.length=ps.length)
  (hbody:∀ (A:Around) (outer:List Env) (s:Shared) (H:Hp) (vs:List V) (Q:VK) (E:XK),Room k (A.deeper (envOfC qual scope s.heap.objs.size f cdv))->sp vs H Q E ->
   ∃ t,PSs (cxOf CX P w K mg base N qual scope f cdv A outer s H E) body t/\t {nx:=fun _ H'=>Q .non H',rt:=Q} (start N vs) H) :
  FnOk P w K mg base CX (k+1) f (PySem.W.fnOf name qual params body scope dV kV doc pm an cdv ct) ps sp:=by
 refine⟨len,fun A outer s H args us vs Q E hr e0 hb r hsp=>?_⟩;have hl:=len _ _ _ _ hsp;have KX:K.In s.heap:=e0.mod.kin.keeps fun b o e=>(e0.bs b o e).1;have lim:s.heap.NoLimit:=e0.mod.nolimit.keeps fun b o e=>(e0.bs b o e).1;have hkind:∀ y∈ps.zip us,scope.names.lookup y.1=some .local\/(scope.names.lookup y.1=some .cell/\((cellsFrom (s.heap.objs.size+1) scope.names []).lookup y.1).isSome=true):=fun ⟨n,v⟩ hy=>by
  rcases S.par n (List.of_mem_zip hy).1 with q|q
  ·exact .inl q
  ·exact .inr ⟨q,PySem.W.cellsFrom_some _ _ _ (.inl q)⟩
 refine codeAny_call_function hr.depth (KX _ _ lk) rfl S.co S.gen rfl (PySem.W.codeRec_of KX hcd) (hb _ _ _ _ ?_);refine wpAny_newFunctionEnv_cells S.kind hkind fun env he s1 x=>?_;subst he;refine⟨lim.keeps x.toInCall.keep,codeAny_func ?_⟩;obtain⟨t,ht,hq⟩:=hbody A outer s H vs Q E (hr.deeper _) hsp;have I:Inv (cxOf CX P w K mg base N qual scope f cdv A outer s H E) [] (start N vs) H s1:=inv_start S hr.hd e0 hl r x;refine wpAny_mono (ht [] s1 (start N vs) H _ I hq) (fun fl s' hs=>?_) fun e s' hs=>hs;have fin:∀ {σ':St} {H':Hp} {v:V} {u:Value},Inv (cxOf CX P w K mg base N qual scope f cdv A outer s H E) [] σ' H' s'->RelV v u->Q v H'->CE outer P w H s Q u s' :=
  fun {σ' H' v u} J rv q=>⟨v,H',J.os,J.bare,J.base,J.hok,rv,q⟩
 cases fl with
 | ret u =>
  obtain⟨v,σ',H',J,rv,q⟩:=hs;exact fin J rv q
 | next =>
  obtain⟨σ',H',J,q⟩:=hs;exact fin (v:=V.non) (u:=Value.none) J rfl q
 | brk =>
  obtain⟨_,_,_,q⟩:=hs;exact False.elim q
 | cont =>
  obtain⟨_,_,_,q⟩:=hs;exact False.elim q
end L2
namespace L2
open PySem PySem.Spec PyProof.Rows
section
variable {X:Cx} {x:Str} {p pos:Pos} {e:Expr} {es:List Expr} {t:TA} {id T:String} {r:List V->Hp->VK->Prop}
noncomputable def tCB (r:List V->Hp->VK->Prop) (t:TA):TE:=fun σ H Q=>t σ H fun vs H1=>r vs H1 Q
theorem pe_callB (hc:CallR X (.builtin id) r) (hg:Gl X x) (hm:X.mg x=none) (hv:bootBuiltins x=some (.builtin id)) (ha:PA X (e::es) t) (hn:x≠"__name__":=by decide) (hdb:(x==("__debug__":Str))=false:=by decide)
  (he:starEach (e::es) X.env=(false,eval e X.env)::starEach es X.env:=by rfl) (hpl:(backTo pos (starEach es X.env)).any (·.1)=false:=by rfl):PE X (.Call (.Name x p) (e::es) [] pos) (tCB r t):=by
 intro pins s σ H Q I h;refine wpAny_Call_Name_kw (ld_blt I hg hm hv ?_ hn hdb);exact PyProof.Rows.callWith_builtin1 (thn (ha pos pins s σ H _ I h) (by rintro us s1 ⟨vs,H1,I1,r1,q1⟩;exact hc pins s1 σ H1 vs us Q I1 r1 q1)) he hpl
theorem pe_callTy (hc:CallR X (.type T) r) (hg:Gl X x) (hm:X.mg x=none) (hv:bootBuiltins x=some (.type T)) (ha:PA X (e::es) t) (hn:x≠"__name__":=by decide) (hdb:(x==("__debug__":Str))=false:=by decide)
  (he:starEach (e::es) X.env=(false,eval e X.env)::starEach es X.env:=by rfl) (hpl:(backTo pos (starEach es X.env)).any (·.1)=false:=by rfl):PE X (.Call (.Name x p) (e::es) [] pos) (tCB r t):=by
 intro pins s σ H Q I h;refine wpAny_Call_Name_kw (ld_blt I hg hm hv ?_ hn hdb);exact PyProof.Rows.callWith_type1 (thn (ha pos pins s σ H _ I h) (by rintro us s1 ⟨vs,H1,I1,r1,q1⟩;exact hc pins s1 σ H1 vs us Q I1 r1 q1)) he hpl
end
end L2
namespace HT
open PySem PyProof.Rows
section
open PySem.SeqAt
open PySem.AutoSeq1 (wpAny_loadPart')
open PySem.MeetsSeq PySem.MeetsSeq2 PySem.MeetsSeq3
end
section
variable {prog:Program} {w:World} {A:Around} {E:Value->Shared->Prop} {s:Shared}
theorem cat_tup (ht:IsTup s.heap t vs.toArray) (hb:IsTup s.heap b ws.toArray) (hv:vs≠[])
  (h1:ws=[]->Q (.ref t) s) (h2:ws≠[]->Q (.ref s.heap.objs.size) {s with heap:=s.heap.push {cls:=.type "tuple",data:=.seq (vs++ws).toArray}})
  (hsz:vs.length+ws.length<=sizeLine):wpAny (model prog w) A (binaryOp .Add (.ref t) (.ref b)) Q E s:=by
 obtain⟨⟨cls,dd,data,sl⟩,ho,hc,n,hd⟩:=id ht;obtain⟨⟨cls2,dd2,data2,sl2⟩,ho2,hc2,n2,hd2⟩:=id hb;simp only at hc hd hc2 hd2;subst hc hd hc2 hd2;have e:vs.toArray++ws.toArray=(vs++ws).toArray:=by simp
 by_cases hw:ws=[]
 ·exact concat_meets ⟨_,ho,rfl⟩ ⟨_,ho2,rfl⟩ noFill_tuple_add seq_tuple_add PySem.F.slot_tuple_add PySem.F.entry_tuple_add (PySem.F.args_tuple_add_2 _ _)
   (tuple_addW1 t b vs.toArray ws.toArray n n2 dd dd2 sl sl2 (by simpa using hv) (by simp[hw])) ⟨ho,ho2,h1 hw⟩
 ·refine concat_meets ⟨_,ho,rfl⟩ ⟨_,ho2,rfl⟩ noFill_tuple_add seq_tuple_add PySem.F.slot_tuple_add PySem.F.entry_tuple_add (PySem.F.args_tuple_add_2 _ _)
   (tuple_addW2 t b vs.toArray ws.toArray n n2 dd dd2 sl sl2 (by simpa using hv) (by simpa using hw) (by rw[List.size_toArray,List.size_toArray];exact hsz)) ⟨ho,ho2,?_⟩
  rw[e];exact h2 hw
noncomputable def sIx (n d:Nat):Option Int->Nat
 | none=>d
 | some v=>if v<0 then (v+(n:Int)).toNat else min v.toNat n
theorem sIx_none (n d:Nat):sIx n d none=d:=rfl
theorem sIx_nat (n d k:Nat):sIx n d (some (k:Int))=min k n:=by
 show (if (k:Int)<0 then ((k:Int)+(n:Int)).toNat else min (k:Int).toNat n)=min k n;rw[if_neg %[|5],Int.toNat_natCast]
theorem sIx_le (n d:Nat) (hd:d<=n) (o:Option Int):sIx n d o<=n:=by
 cases o with
 | none=>exact hd
 | some v =>
  show (if v<0 then (v+(n:Int)).toNat else min v.toNat n)<=n;by_cases hv:v<0
  ·rw[if_pos hv];omega
  ·rw[if_neg hv];exact Nat.min_le_right _ _
theorem clip_eq (v:Int) (n d:Nat):(if v<0 then max (v+(n:Int)) 0 else min v (n:Int))=((sIx n d (some v):Nat):Int):=by
 show (if v<0 then max (v+(n:Int)) 0 else min v (n:Int))=(((if v<0 then (v+(n:Int)).toNat else min v.toNat n):Nat):Int);by_cases hv:v<0
 ·simp only[if_pos hv];omega
 ·simp only[if_neg hv];omega
theorem adjust_gen (lo hi:Option Int) (n:Nat):Builtin.Slice.sliceAdjust lo hi 1 (n:Int)=(((sIx n 0 lo:Nat):Int),((sIx n n hi:Nat):Int)):=by
 have h1:¬ ((1:Int)<0):=by omega
 unfold Builtin.Slice.sliceAdjust;simp only[h1,if_false];refine Prod.ext ?_ ?_
 ·cases lo with
  | none=>rfl
  | some v=>exact clip_eq v n 0
 ·cases hi with
  | none=>rfl
  | some v=>exact clip_eq v n n
theorem places_gen (i j:Nat):Builtin.Slice.slicePlaces (i:Int) (j:Int) 1=j-i:=by
 unfold Builtin.Slice.slicePlaces;have h1:(1:Int) > 0:=by omega
 simp only[h1,if_true,Int.ediv_one];split<;>omega
theorem slicePart_ (p:IsPart v o) (h:Q o s):wpAny (model prog w) A (Builtin.Slice.slicePartIndex v) Q E s:=by
 cases p with
 | none=>exact slicePart_none h
 | int i t=>exact slicePart_int h
theorem sliceApplied_gen {sl:Addr} {vl vu:Value} {lo hi:Option Int} {n:Nat} {Q:Int×Int×Nat->Shared->Prop} (hs:s.heap.IsSliceOf sl vl vu .none) (pl:IsPart vl lo) (pu:IsPart vu hi)
  (h:Q (((sIx n 0 lo:Nat):Int),1,sIx n n hi-sIx n 0 lo) s):wpAny (model prog w) A (Builtin.Slice.sliceApplied (.ref sl) (pure (n:Int))) Q E s:=by
 obtain⟨os,hos,hcs,hds⟩:=id hs;unfold Builtin.Slice.sliceApplied Builtin.Slice.sliceFields;refine wpAny_bind (wpAny_bind (wpAny_field hos hds (x:=vl) rfl (wpAny_bind (wpAny_field hos hds (x:=vu) rfl (wpAny_bind (wpAny_field hos hds (x:=.none) rfl (wpAny_pure ?_)))))));refine wpAny_bind (slicePart_none ?_);show wpAny _ _ (if ((1:Int)==0)=true then _ else _) _ _ s;rw[if_neg %[|4]];refine wpAny_bind (slicePart_ pl (wpAny_bind (slicePart_ pu (wpAny_bind (wpAny_pure ?_)))));show wpAny _ _ (match Builtin.Slice.sliceAdjust lo hi 1 (n:Int) with|(lo,hi)=>pure (lo,(1:Int),Builtin.Slice.slicePlaces lo hi 1)) _ _ s;rw[adjust_gen lo hi n];show wpAny _ _ (pure (((sIx n 0 lo:Nat):Int),(1:Int),Builtin.Slice.slicePlaces ((sIx n 0 lo:Nat):Int) ((sIx n n hi:Nat):Int) 1)) _ _ s;rw[places_gen];exact wpAny_pure h
theorem pick_gen (xs:Array Value) (i k:Nat):((List.range k).filterMap fun (m:Nat)=>xs[((i:Int)+(m:Int)*1).toNat]?).toArray=((xs.toList.drop i).take k).toArray:=by
 have e:(fun (m:Nat)=>xs[((i:Int)+(m:Int)*1).toNat]?)=fun m=>xs[i+m]?:=by
  funext m
  have:((i:Int)+(m:Int)*1).toNat=i+m:=by omega
  rw[this]
 rw[e];have:=pick_run xs i k;rw[List.filterMap_map] at this;have e2:((fun x=>xs[x]?) ∘ fun x=>i+x)=fun m=>xs[i+m]?:=rfl;rw[e2] at this;rw[this]
theorem getItem_tuple_cut {t sl:Addr} {items:Array Value} {vl vu:Value} {lo hi:Option Int} {Q:Value->Shared->Prop} (ht:IsTup s.heap t items) (hs:s.heap.IsSliceOf sl vl vu .none) (pl:IsPart vl lo) (pu:IsPart vu hi)
  (hw:¬ (sIx items.size 0 lo=0/\sIx items.size items.size hi=items.size))
  (h:Q (.ref s.heap.objs.size) {s with heap:=s.heap.push {cls:=.type "tuple",data:=.seq ((items.toList.drop (sIx items.size 0 lo)).take (sIx items.size items.size hi-sIx items.size 0 lo)).toArray}})
  (hsz:items.size<=sizeLine):wpAny (model prog w) A (getItem (.ref t) (.ref sl)) Q E s:=by
 have htake:sizeOk (.seq ((items.toList.drop (sIx items.size 0 lo)).take (sIx items.size items.size hi-sIx items.size 0 lo)).toArray):=by
  show ((items.toList.drop (sIx items.size 0 lo)).take (sIx items.size items.size hi-sIx items.size 0 lo)).toArray.size<=sizeLine;rw[List.size_toArray,List.length_take,List.length_drop,Array.length_toList];omega
 have hj:sIx items.size items.size hi<=items.size:=sIx_le _ _ %[|3] hi;obtain⟨os,hos,hcs,hds⟩:=id hs;have hTs:s.TypeIs (.ref sl) "slice":=⟨os,hos,hcs⟩;unfold getItem
 try with_reducible refine wpAny_holding ?_
 first|refine wpAny_bind (wpAny_pure ?_)|skip
 refine wpAny_bind (wpAny_sequenceKey ht.typeIs %[|4] ?_);refine wpAny_bind (wpAny_callSpecial?_slot (name:=Str.ofString "__getitem__") ht.typeIs PyProof.Rows.slot_tuple_getitem
  (wpAny_call_entry PyProof.Rows.slot_tuple_getitem ht.typeIs entry_tuple_getitem ?_ (args_tuple_getitem _ _)))
 show wpAny _ _ (Builtin.Tuple.tupleItemsOf (.ref t) >>= _) _ _ s;refine wpAny_bind (tupleItemsOf_ ht ?_);refine wpAny_bind (wpAny_typeOf hTs ?_);rw[if_pos %[|4]];refine wpAny_bind (sliceApplied_gen hs pl pu ?_);have hno:¬ ((((sIx items.size 0 lo:Nat):Int)==0&&(1:Int)==1&&(sIx items.size items.size hi-sIx items.size 0 lo)==items.size)=true):=by
  intro q;rw[Bool.and_eq_true,Bool.and_eq_true] at q;have q1:((sIx items.size 0 lo:Nat):Int)=0:=eq_of_beq q.1.1;have q2:sIx items.size items.size hi-sIx items.size 0 lo=items.size:=eq_of_beq q.2;exact hw ⟨by omega,by omega⟩
 show wpAny _ _ (if (((sIx items.size 0 lo:Nat):Int)==0&&(1:Int)==1&&(sIx items.size items.size hi-sIx items.size 0 lo)==items.size)=true then _ else _) _ _ s;rw[if_neg hno,pick_gen]
 first
  | exact wpAny_bind (m:=Builtin.Tuple.tupleExact _) (wpAny_newObj_type (wpAny_pure ⟨_,rfl,wpAny_pure h⟩) htake)
  | exact wpAny_bind (m:=Builtin.Tuple.tupleExact _) (wpAny_newObj_type (wpAny_bind (wpAny_pure (wpAny_pure ⟨_,rfl,wpAny_pure h⟩))) htake)
  | exact wpAny_bind (wpAny_bind (m:=Builtin.Tuple.tupleExact _) (wpAny_newObj_type (wpAny_pure (wpAny_pure ⟨_,rfl,wpAny_pure h⟩)) htake))
  | exact wpAny_bind (wpAny_bind (m:=Builtin.Tuple.tupleExact _) (wpAny_newObj_type (wpAny_pure ⟨_,rfl,wpAny_pure h⟩) htake))
end
end HT
namespace L2
open PySem PySem.Spec PyProof.Rows
abbrev TO:=St->Hp->(Option Int->Hp->Prop)->Prop
noncomputable def PO (X:Cx) (e:Option Expr) (t:TO):Prop :=
 ∀ (pins:List (Addr×Obj)) (s:Shared) (σ:St) (H:Hp) (Q:Option Int->Hp->Prop),Inv X pins σ H s->t σ H Q ->
  wpAny (model X.prog X.w) X.A (evalPart e X.env) (fun u s'=>∃ o H',Inv X pins σ H' s'/\IsPart u o/\Q o H') X.xe s
noncomputable def tNoPart:TO:=fun _ H Q=>Q none H
noncomputable def tPart (t:TE):TO:=fun σ H Q=>t σ H fun x H1=>∃ i,x=.int i/\Q (some i) H1
section
variable {X:Cx} {e:Expr} {te:TE} {lo hi:Option Expr} {tl th:TO} {pos p2:Pos}
theorem po_none:PO X none tNoPart:=by
 intro pins s σ H Q I h;rw[evalPart_none];exact wpAny_pure ⟨none,H,I,.none,h⟩
theorem po_some (h:PE X e te):PO X (some e) (tPart te):=by
 intro pins s σ H Q I hw;rw[evalPart_some];refine thn (h pins s σ H _ I hw) fun u s1 hq2=>?_;obtain⟨x,H1,I1,r1,q1⟩:=hq2;obtain⟨i,rfl,q⟩:=q1;obtain⟨t,rfl⟩:=r1;exact⟨some i,H1,I1,.int i t,q⟩
noncomputable def SlR (X:Cx) (r:V->Option Int->Option Int->Hp->VK->Prop):Prop :=
 ∀ (pins:List (Addr×Obj)) (s:Shared) (σ:St) (H:Hp) (x:V) (v vl vu:Value) (lo hi:Option Int) (sl:Addr) (Q:VK),Inv X pins σ H s->RelV x v->s.heap.IsSliceOf sl vl vu .none->IsPart vl lo->IsPart vu hi->r x lo hi H Q ->
  ∃ T id,typeLookup (.type T) "__getitem__"=pure (some (.builtin id))/\s.TypeIs v T/\wpAny (model X.prog X.w) X.A (getItem v (.ref sl)) (EP X pins σ Q) X.xe s
noncomputable def tSl (r:V->Option Int->Option Int->Hp->VK->Prop) (te:TE) (tl th:TO):TE:=fun σ H Q=>te σ H fun x H1=>tl σ H1 fun l H2=>th σ H2 fun u H3=>r x l u H3 Q
theorem pe_slice (hr:SlR X r) (he:PE X e te) (hl:PO X lo tl) (hu:PO X hi th):PE X (.Subscript e (.Slice lo hi none p2) pos) (tSl r te tl th):=by
 intro pins s σ H Q I h;refine Subscript_ (thn (he pins s σ H _ I h) fun v s1 hq2=>?_);obtain⟨x,H1,I1,r1,q1⟩:=hq2;refine wpAny_Slice (thn (hl pins s1 σ H1 _ I1 q1) fun vl s2 ⟨l,H2,I2,pl,q2⟩=>thn (hu pins s2 σ H2 _ I2 q2) fun vu s3 hq2=>?_);obtain⟨u,H3,I3,pu,q3⟩:=hq2;rw[evalPart_none];refine wpAny_pure ?_;have I4:Inv X pins σ H3 {s3 with heap:=s3.heap.push {cls:=.type "slice",data:=.fields #[vl,vu,.none]}}:=I3.kept (t':=s3.toks) fun b ob q=>Heap.get?_push_of_some _ q;obtain⟨T,id,hT,ht,hg⟩:=hr pins {s3 with heap:=s3.heap.push {cls:=.type "slice",data:=.fields #[vl,vu,.none]}} σ H3 x v vl vu l u s3.heap.objs.size Q I4 r1 (Heap.IsSliceOf.new ..) pl pu q3;show wpAny (model X.prog X.w) X.A (subscriptTail e (.Slice lo hi none p2) v (.ref s3.heap.objs.size)) (EP X pins σ Q) X.xe {s3 with heap:=s3.heap.push {cls:=.type "slice",data:=.fields #[vl,vu,.none]}};exact tail_any (ops:=[.ref s3.heap.objs.size,v]) ht hT hg (by with_unfolding_all rfl)
noncomputable def cutV (xs:List V) (lo hi:Option Int):List V:=(xs.drop (HT.sIx xs.length 0 lo)).take (HT.sIx xs.length xs.length hi-HT.sIx xs.length 0 lo)
theorem cutV_length (xs:List V) (lo hi:Option Int):(cutV xs lo hi).length<=xs.length:=by
 unfold cutV;rw[List.length_take,List.length_drop];omega
noncomputable def rSlT (K:Frag):V->Option Int->Option Int->Hp->VK->Prop:=fun x lo hi H Q=>∃ a xs,x=.ref a/\SqT K H a xs /\
 ¬ (HT.sIx xs.length 0 lo=0/\HT.sIx xs.length xs.length hi=xs.length)/\∀ p,H p=none->Q (.ref p) (upd H p (.tup (cutV xs lo hi)))
theorem sl_tup:SlR X (rSlT X.K):=by
 intro pins s σ H x v vl vu lo hi sl Q I rx hs pl pu h;obtain⟨a,xs,rfl,hx,hw,q⟩:=h;cases rx;obtain⟨its,r,ht,hz⟩:=I.tuple hx;have hlen:its.toArray.size=xs.length:=by rw[List.size_toArray];exact r.length.symm
 refine⟨"tuple",_,PyProof.Rows.slot_tuple_getitem.lookup,ht.typeIs,?_⟩;refine HT.getItem_tuple_cut ht hs pl pu (by rw[hlen];exact hw) ?_ (by rw[hlen];exact hz);rw[hlen];refine⟨.ref s.heap.objs.size,_,I.laid (t':=s.toks) (o:=.tup (cutV xs lo hi)) (fun b ob q=>Heap.get?_push_of_some _ q) %[|3] ?_,rfl,q _ (I.hok.fresh %[|3])⟩;exact⟨Nat.le_trans (cutV_length xs lo hi) hz,_,(r.drop (HT.sIx xs.length 0 lo)).take (HT.sIx xs.length xs.length hi-HT.sIx xs.length 0 lo),IsTup.new _ _⟩
noncomputable def rCatT (K:Frag):R2:=fun x y H Q=>∃ a b xs ys,x=.ref a/\y=.ref b/\SqT K H a xs/\SqT K H b ys/\xs≠[]/\xs.length+ys.length<=sizeLine /\
 (ys=[]->Q (.ref a) H)/\(ys≠[]->∀ p,H p=none->Q (.ref p) (upd H p (.tup (xs++ys))))
theorem Vals.nil_iff (r:Vals xs us):us=[] ↔ xs=[]:=by
 cases r with
 | nil=>simp
 | cons _ _=>simp
theorem op_catT:OpR X (binaryOp .Add) (rCatT X.K):=by
 intro pins s σ H x y v u Q I rx ry h;obtain⟨a,b,xs,ys,rfl,rfl,ha,hb,hx,hz,q1,q2⟩:=h;cases rx;cases ry;obtain⟨its,r1,p1,_⟩:=I.tuple ha;obtain⟨its2,r2,p2,_⟩:=I.tuple hb;refine HT.cat_tup p1 p2 (fun z=>hx (r1.nil_iff.mp z)) (fun z=>⟨.ref a,H,I,rfl,q1 (r2.nil_iff.mp z)⟩) (fun z=>?_) (by rw[<- r1.length,<- r2.length];exact hz);refine⟨.ref s.heap.objs.size,_,I.laid (t':=s.toks) (o:=.tup (xs++ys)) (fun b ob q=>Heap.get?_push_of_some _ q) %[|3] ?_,rfl,q2 (fun w=>z (r2.nil_iff.mpr w)) _ (I.hok.fresh %[|3])⟩;exact⟨by rw[List.length_append];exact hz,_,r1.append r2,IsTup.new _ _⟩
end
end L2
namespace L2
open PySem PySem.Spec PyProof.Rows
noncomputable def ixN (n:Nat) (i:Int):Option Nat:=if 0<=i then (if i<n then some i.toNat else none) else if -(n:Int)<=i then some (i+n).toNat else none
noncomputable def atI {α:Type} (xs:List α) (i:Int):Option α:=(ixN xs.length i).bind fun j=>xs[j]?
theorem ixN_seq (h:ixN n i=some j):seqIndex? i n=some j/\j<n/\-(n:Int)<=i/\i<n:=by
 unfold ixN at h;by_cases h0:0<=i
 ·rw[if_pos h0] at h
  by_cases h1:i<n
  ·rw[if_pos h1] at h
   have e:i.toNat=j:=Option.some.inj h;exact⟨by rw[seqIndex_of h0 h1,e],by omega,by omega,h1⟩
  ·rw[if_neg h1] at h;cases h
 ·rw[if_neg h0] at h
  by_cases h1:-(n:Int)<=i
  ·rw[if_pos h1] at h
   have e:(i+n).toNat=j:=Option.some.inj h;exact⟨by rw[seqIndex_neg %[|5] h1,e],by omega,h1,by omega⟩
  ·rw[if_neg h1] at h;cases h
theorem atI_get (h:atI xs i=some v):∃ j,seqIndex? i xs.length=some j/\xs[j]?=some v/\j<xs.length/\-(xs.length:Int)<=i/\i<xs.length:=by
 unfold atI at h;cases e:ixN xs.length i with
 | none=>rw [e] at h;cases h
 | some j =>
  rw[e] at h;obtain⟨h1,h2,h3,h4⟩:=ixN_seq e;exact⟨j,h1,h,h2,h3,h4⟩
theorem atI_nat {α:Type} {xs:List α} {j:Nat} {v:α} (h:xs[j]?=some v):atI xs (j:Int)=some v:=by
 have hj:j<xs.length:=(List.getElem?_eq_some_iff.mp h).1;have e:ixN xs.length (j:Int)=some j:=by
  unfold ixN;rw[if_pos %[|5],if_pos %[|5]];simp
 unfold atI;rw[e];exact h
noncomputable def PlainIx (b:Expr):Prop:=∀ o i,subscripted b false o i=operate [o,i] (getItem o i)
noncomputable def IxR (X:Cx) (r:R2):Prop :=
 ∀ (value slice:Expr) (pins:List (Addr×Obj)) (s:Shared) (σ:St) (H:Hp) (x y:V) (v u:Value) (Q:VK),Inv X pins σ H s->RelV x v->RelV y u->r x y H Q ->
  subscripted slice false v u=operate [v,u] (getItem v u)->wpAny (model X.prog X.w) X.A (subscriptTail value slice v u) (EP X pins σ Q) X.xe s
noncomputable def MtR (X:Cx) (id:String) (r:V->List V->Hp->VK->Prop):Prop :=
 ∀ (pins:List (Addr×Obj)) (s:Shared) (σ:St) (H:Hp) (x:V) (xs:List V) (v:Value) (us:List Value) (Q:VK),Inv X pins σ H s->RelV x v->Vals xs us->r x xs H Q ->
  wpAny (model X.prog X.w) X.A (call (.builtin id) (v::us)) (EP X pins σ Q) X.xe s
section
variable {X:Cx} {a b:Expr} {ta tb:TE} {pos:Pos}
theorem pe_ix (hr:IxR X r) (ha:PE X a ta) (hb:PE X b tb) (hs:PlainIx b):PE X (.Subscript a b pos) (tOp r ta tb):=by
 intro pins s σ H Q I h;exact Subscript_ (binT ha hb I h fun v u s2 x y H2 I2 rx ry q=>hr a b pins s2 σ H2 x y v u Q I2 rx ry q (hs _ _))
noncomputable def rIxL (K:Frag):R2:=fun x y H Q=>∃ p xs i v,x=.ref p/\y=.int i/\SqL K H p xs/\atI xs i=some v/\Q v H
noncomputable def rIxT (K:Frag):R2:=fun x y H Q=>∃ p xs i v,x=.ref p/\y=.int i/\SqT K H p xs/\atI xs i=some v/\Q v H
noncomputable def rIxS:R2:=fun x y H Q=>∃ z i c,x=.str z/\y=.int i/\z.length<=sizeLine/\atI z.cps.toList i=some c/\Q (.str ⟨#[c]⟩) H
theorem ix_list:IxR X (rIxL X.K):=by
 intro value slice pins s σ H x y v u Q I rx ry h hs;obtain⟨p,xs,i,z,rfl,rfl,hq,he,q⟩:=h;cases rx;obtain⟨t,rfl⟩:=ry;obtain⟨its,r,pl,hz⟩:=I.list hq;obtain⟨j,h1,h2,h3,h4,h5⟩:=atI_get he;obtain⟨w,ew,rw'⟩:=r.get h2;have hl:=r.length;have hn:=line63;have fin:EP X pins σ Q w s:=⟨z,H,I,rw',q⟩;by_cases h0:0<=i
 ·have hj:i.toNat=j:=by
   rw[seqIndex_of h0 h5] at h1;exact Option.some.inj h1
  exact item_listR pl.isList h0 %[|5] (by rw[hj];simpa using ew) fin hs
 ·have hj:(i+(its.toArray.size:Int)).toNat=j:=by
   rw[seqIndex_neg %[|5] h4] at h1;rw[List.size_toArray,<- hl];exact Option.some.inj h1
  exact subscriptTail_builtinR (x:=w) pl.isList.typeIs slot_list_getitem.lookup
   (wpAny_getItem_list_neg (Q:=fun r s'=>r=w/\EP X pins σ Q r s') pl.isList %[|5] (by rw[List.size_toArray]<;>omega) %[|5] (by rw[hj];simpa using ew) ⟨rfl,fin⟩) hs
theorem ix_tup:IxR X (rIxT X.K):=by
 intro value slice pins s σ H x y v u Q I rx ry h hs;obtain⟨p,xs,i,z,rfl,rfl,hq,he,q⟩:=h;cases rx;obtain⟨t,rfl⟩:=ry;obtain⟨its,r,pl,hz⟩:=I.tuple hq;obtain⟨j,h1,h2,h3,h4,h5⟩:=atI_get he;obtain⟨w,ew,rw'⟩:=r.get h2;have hl:=r.length;have hn:=line63;have fin:EP X pins σ Q w s:=⟨z,H,I,rw',q⟩;exact subscriptTail_builtinR (x:=w) pl.typeIs slot_tuple_getitem.lookup
  (getItem_tuple (j:=j) (Q:=fun r s'=>r=w/\EP X pins σ Q r s') pl %[|5] %[|5] (by rw[List.size_toArray,<- hl];exact h1) (by simpa using ew) ⟨rfl,fin⟩) hs
theorem ix_str:IxR X rIxS:=by
 intro value slice pins s σ H x y v u Q I rx ry h hs;obtain⟨z,i,c,rfl,rfl,hz,he,q⟩:=h;obtain⟨t,rfl⟩:=rx;obtain⟨t',rfl⟩:=ry;obtain⟨j,h1,h2,h3,h4,h5⟩:=atI_get he;have hl:z.cps.toList.length=z.length:=by simp[Str.length]
 rw[hl] at h1 h4 h5;have hn:=line63;exact tail_any (typeIs_str s z t) slot_str_getitem.lookup (getItem_str (c:=c) (by
  have e1:decide (i < -(2 ^ 63:Int))=false:=decide_eq_false %[|5];have e2:decide (i ≥ 2 ^ 63)=false:=decide_eq_false %[|5];rw[e1,e2,Bool.or_false]) (by rw[h1];simpa using h2) ⟨.str ⟨#[c]⟩,H,I.tok _,⟨_,rfl⟩,q⟩) hs
theorem mapSeq_set (its:List Value) (n j:Nat) (u:Value):Obj.mapSeq (·.setIfInBounds j u) {cls:=.type "list",data:=.seq its.toArray n}={cls:=.type "list",data:=.seq (its.set j u).toArray n}:=by
 simp[Obj.mapSeq]
theorem Inv.lst {pins:List (Addr×Obj)} {σ:St} {H:Hp} {s:Shared} {p:Addr} {xs:List V} (I:Inv X pins σ H s) (h:H p=some (.lst xs)) :
  ∃ (its:List Value) (n:Nat),Vals xs its/\s.heap.get? p=some {cls:=.type "list",data:=.seq its.toArray n}/\xs.length<=sizeLine:=by
 obtain⟨z,its,n,r,e⟩:=I.hok p _ h;exact⟨its,n,r,e,z⟩
theorem Inv.lstUpd {pins:List (Addr×Obj)} {σ:St} {H:Hp} {s:Shared} {p:Addr} {xs ys:List V} {its its':List Value} {n n':Nat} {f:Obj->Obj} (I:Inv X pins σ H s) (h:H p=some (.lst xs))
  (ho:s.heap.get? p=some {cls:=.type "list",data:=.seq its.toArray n}) (hf:f {cls:=.type "list",data:=.seq its.toArray n}={cls:=.type "list",data:=.seq its'.toArray n'}) (r:Vals ys its') (hz:ys.length<=sizeLine) (t:Nat) :
  Inv X pins σ (upd H p (.lst ys)) {s with heap:=s.heap.update p f,toks:=t}:=by
 have e:(s.heap.update p f).get? p=some {cls:=.type "list",data:=.seq its'.toArray n'}:=by
  rw[Heap.get?_update_self f ho (by rw[hf]<;>rfl),hf]
 refine I.write (x:=p) (e:=p) (by rw[h];trivial) (.inl rfl) (fun b u hb q=>(Heap.get?_update_other _ _ (Ne.symm hb)).trans q) ⟨_,e⟩ ?_;exact⟨hz,its',n',r,e⟩
noncomputable def rSetL:V->V->V->Hp->(Hp->Prop)->Prop:=fun o i v H Q=>∃ p xs k j,o=.ref p/\i=.int k/\H p=some (.lst xs)/\ixN xs.length k=some j/\Q (upd H p (.lst (xs.set j v)))
theorem set_list:PSet X rSetL:=by
 intro pins s σ H o i v ov iv u Q I ro ri rv h;obtain⟨p,xs,k,j,rfl,rfl,hp,hj,q⟩:=h;cases ro;obtain⟨t,rfl⟩:=ri;obtain⟨its,n,r,ho,hz⟩:=I.lst hp;obtain⟨h1,h2,h3,h4⟩:=ixN_seq hj;have hl:=r.length;have hn:=line63;have I':Inv X pins σ (upd H p (.lst (xs.set j v))) {s with heap:=s.heap.update p (Obj.mapSeq (·.setIfInBounds j u))} :=
  I.lstUpd hp ho (mapSeq_set its n j u) (r.set rv j) (by rw[List.length_set];exact hz) s.toks
 by_cases h0:0<=k
 ·have hk:k.toNat=j:=by
   rw[seqIndex_of h0 h4] at h1;exact Option.some.inj h1
  exact PySem.W.ki_setAt ho h0 %[|5] (by rw[List.size_toArray,<- hl];exact h4) (by rw[hk];exact⟨_,I',q⟩)
 ·have hk:(k+(its.toArray.size:Int)).toNat=j:=by
   rw[seqIndex_neg %[|5] h3] at h1;rw[List.size_toArray,<- hl];exact Option.some.inj h1
  exact PySem.W.ki_setBack ho %[|5] (by rw[List.size_toArray,<- hl];exact h3) %[|5] (by rw[hk];exact⟨_,I',q⟩)
theorem slice_bounds (lo hi:Option Int) (n:Nat):(sliceBounds lo hi none n).1=((HT.sIx n 0 lo:Nat):Int)/\(sliceBounds lo hi none n).2.1=((HT.sIx n n hi:Nat):Int)/\(sliceBounds lo hi none n).2.2=1:=by
 refine⟨?_,?_,rfl⟩
 ·cases lo with
  | none=>simp[sliceBounds,HT.sIx]
  | some i =>
   simp only[sliceBounds,HT.sIx,Option.getD_none,show (1:Int) > 0 by decide,if_true];by_cases h:i<0
   ·simp only[h,if_true]<;>omega
   ·simp only[h,if_false]<;>omega
 ·cases hi with
  | none=>simp[sliceBounds,HT.sIx]
  | some i =>
   simp only[sliceBounds,HT.sIx,Option.getD_none,show (1:Int) > 0 by decide,if_true];by_cases h:i<0
   ·simp only[h,if_true]<;>omega
   ·simp only[h,if_false]<;>omega
theorem slicePick_cut (its:List Value) (lo hi:Option Int):slicePick its.toArray lo hi none=((its.drop (HT.sIx its.length 0 lo)).take (HT.sIx its.length its.length hi-HT.sIx its.length 0 lo)).toArray:=by
 obtain⟨h1,h2,h3⟩:=slice_bounds lo hi its.toArray.size;unfold slicePick;rw[h1,h2,h3];simp only[sliceRange_one,pick_run,List.size_toArray]<;>rfl
noncomputable def rSlL (K:Frag):V->Option Int->Option Int->Hp->VK->Prop:=fun x lo hi H Q=>∃ a xs,x=.ref a/\SqL K H a xs/\∀ p,H p=none->Q (.ref p) (upd H p (.lst (cutV xs lo hi)))
theorem sl_list:SlR X (rSlL X.K):=by
 intro pins s σ H x v vl vu lo hi sl Q I rx hs pl pu h;obtain⟨a,xs,rfl,hx,q⟩:=h;cases rx;obtain⟨its,r,ht,hz⟩:=I.list hx;have hlen:=r.length;refine⟨"list",_,slot_list_getitem.lookup,ht.isList.typeIs,?_⟩;refine wpAny_getItem_list_slice ht.isList hs pl pu .none (by simp) ?_ (by rw[List.size_toArray]<;>omega);rw[slicePick_cut,<- hlen];refine⟨.ref s.heap.objs.size,_,I.laid (t':=s.toks) (o:=.lst (cutV xs lo hi)) (fun b ob q=>Heap.get?_push_of_some _ q) %[|3] ?_,rfl,q _ (I.hok.fresh %[|3])⟩;exact⟨Nat.le_trans (cutV_length xs lo hi) hz,_,0,(r.drop (HT.sIx xs.length 0 lo)).take (HT.sIx xs.length xs.length hi-HT.sIx xs.length 0 lo),Heap.get?_push_size _ rfl⟩
theorem call_len_seq:CallR X (.builtin "len") (fun xs H Q=>∃ p ys,xs=[.ref p]/\(SqL X.K H p ys\/SqT X.K H p ys)/\Q (.int ys.length) H):=by
 intro pins s σ H xs us Q I r h;obtain⟨p,ys,rfl,hq,q⟩:=h;obtain⟨u,rfl,rx⟩:=vals1 r;cases rx;have hn:=line63;rcases hq with hq|hq
 ·obtain⟨its,r',pl,hz⟩:=I.list hq
  have hlen:=r'.length;exact Calls.call_len_list pl.isList (by simp only[List.size_toArray]<;>omega) ⟨.int ys.length,H,I.tok _,⟨s.toks+1,by rw[List.size_toArray,hlen]⟩,q⟩
 ·obtain⟨its,r',pl,hz⟩:=I.tuple hq
  have hlen:=r'.length;exact len_tuple pl (by simp only[List.size_toArray]<;>omega) ⟨.int ys.length,H,I.tok _,⟨s.toks+1,by rw[List.size_toArray,hlen]⟩,q⟩
theorem call_len_str:CallR X (.builtin "len") (fun xs H Q=>∃ z,xs=[.str z]/\z.length<=sizeLine/\Q (.int z.length) H):=by
 intro pins s σ H xs us Q I r h;obtain⟨z,rfl,hz,q⟩:=h;obtain⟨u,rfl,t,rfl⟩:=vals1 r;have hn:=line63;exact len_str %[|5] ⟨.int z.length,H,I.tok _,⟨_,rfl⟩,q⟩
theorem CallR.or (h:CallR X f r) (h':CallR X f r'):CallR X f (fun xs H Q=>r xs H Q\/r' xs H Q):=by
 intro pins s σ H xs us Q I rs q;rcases q with q|q
 ·exact h pins s σ H xs us Q I rs q
 ·exact h' pins s σ H xs us Q I rs q
theorem call_list_of:CallR X (.type "list") (fun xs H Q=>∃ p ys,xs=[.ref p]/\(SqL X.K H p ys\/SqT X.K H p ys)/\∀ l,H l=none->Q (.ref l) (upd H l (.lst ys))):=by
 intro pins s σ H xs us Q I r h;obtain⟨p,ys,rfl,hq,q⟩:=h;obtain⟨u,rfl,rx⟩:=vals1 r;cases rx;have fin:∀ (its:List Value),Vals ys its->ys.length<=sizeLine->∀ (h':Heap) (c':Nat),(∀ b o',s.heap.get? b=some o'->h'.get? b=some o') ->
   h'.get? s.heap.objs.size=some {cls:=.type "list",dict:=none,data:=.seq its.toArray c',slots:=#[]}->EP X pins σ Q (.ref s.heap.objs.size) {s with heap:=h'}:=fun its r' hz h' c' kp e =>
  ⟨.ref s.heap.objs.size,_,I.laid (t':=s.toks) kp %[|3] (show ObjOk X.prog X.w _ h' _ (.lst ys) from ⟨hz,its,c',r',e⟩),rfl,q _ (I.hok.fresh %[|3])⟩
 rcases hq with hq|hq
 ·obtain⟨its,r',pl,hz⟩:=I.list hq
  have hlen:=r'.length;obtain⟨o,ho,hc,n,hd⟩:=pl.isList;exact call_list_seq p (.inl rfl) ho hc hd (fun h' c' kp e=>fin its r' hz h' c' kp e) (by simp only[List.size_toArray]<;>omega)
 ·obtain⟨its,r',pl,hz⟩:=I.tuple hq
  have hlen:=r'.length;obtain⟨o,ho,hc,n,hd⟩:=pl;exact call_list_seq p (.inr rfl) ho hc hd (fun h' c' kp e=>fin its r' hz h' c' kp e) (by simp only[List.size_toArray]<;>omega)
theorem call_tuple_of:CallR X (.type "tuple") (fun xs H Q=>∃ p ys,xs=[.ref p]/\((SqL X.K H p ys/\∀ l,H l=none->Q (.ref l) (upd H l (.tup ys)))\/(SqT X.K H p ys/\Q (.ref p) H))):=by
 intro pins s σ H xs us Q I r h;obtain⟨p,ys,rfl,h⟩:=h;obtain⟨u,rfl,rx⟩:=vals1 r;cases rx;rcases h with ⟨hq,q⟩|⟨hq,q⟩
 ·obtain⟨its,r',pl,hz⟩:=I.list hq
  have hlen:=r'.length;refine call_tuple_list pl.isList (fun h' kp=>?_) (by simp only[List.size_toArray]<;>omega);have I1:Inv X pins σ H {s with heap:=h'}:=I.kept (t':=s.toks) kp;have I2:Inv X pins σ (upd H h'.objs.size (.tup ys)) {s with heap:=h'.push {cls:=.type "tuple",data:=.seq its.toArray}} :=
   I1.laid (t':=s.toks) (fun b o e=>Heap.get?_push_of_some _ e) %[|3] (show ObjOk X.prog X.w _ _ _ (.tup ys) from ⟨hz,its,r',IsTup.new _ _⟩)
  exact⟨.ref h'.objs.size,_,I2,rfl,q _ (I1.hok.fresh %[|3])⟩
 ·obtain⟨its,r',pl,hz⟩:=I.tuple hq
  exact call_tuple_same pl ⟨.ref p,H,I,rfl,q⟩
noncomputable def tyV (K:Frag) (T:String) (x:V) (H:Hp):Prop:=match x with
 | .str _=>T="str"
 | .int _=>T="int"
 | .ref p=>(T="list"/\∃ xs,SqL K H p xs)\/(T="tuple"/\∃ o,K.lookup p=some o/\o.cls=.type "tuple"/\o.dict=none) \/
   (T="dict"/\((∃ kvs,H p=some (.dK kvs))\/∃ kvs,H p=some (.dT kvs)))\/(T="set"/\∃ S n,H p=some (.set S n))
 | _=>False
theorem tyV_is (I:Inv X pins σ H s) (r:RelV x v) (ty:tyV X.K T x H) :
  s.TypeIs v T/\∀ a,v=.ref a->∃ ob,s.heap.get? a=some ob/\ob.dict=none:=by
 cases x with
 | str z =>
  obtain⟨t,rfl⟩:=r;cases (show T="str" from ty);exact⟨typeIs_str s z t,fun _ e=>nomatch e⟩
 | int i =>
  obtain⟨t,rfl⟩:=r;cases (show T="int" from ty);exact⟨typeIs_int s i t,fun _ e=>nomatch e⟩
 | ref p =>
  cases r;rcases ty with ⟨rfl,xs,hq⟩|⟨rfl,o,hk,hc,hd⟩|⟨rfl,hk⟩|⟨rfl,S,n,hk⟩
  ·obtain⟨its,_,pl,_⟩:=I.list hq
   refine⟨pl.isList.typeIs,fun a e=>?_⟩;cases e;obtain⟨o,n,e,c,hd,_⟩:=pl;exact⟨o,e,hd⟩
  ·refine⟨⟨o,I.kIn p o hk,hc⟩,fun a e=>?_⟩
   cases e;exact⟨o,I.kIn _ o hk,hd⟩
  ·have z:∃ o,s.heap.get? p=some o/\o.ExactDict:=by
    rcases hk with ⟨kvs,hk⟩|⟨kvs,hk⟩
    ·obtain⟨_,_,_,_,o,_,_,e,ex,_⟩:=I.hok p _ hk
     exact⟨o,e,ex⟩
    ·obtain⟨_,_,_,_,o,_,_,e,ex,_⟩:=I.hok p _ hk
     exact⟨o,e,ex⟩
   obtain⟨o,e,ex⟩:=z;refine⟨⟨o,e,ex.1⟩,fun a e2=>?_⟩;cases e2;exact⟨o,e,ex.2.1⟩
  ·obtain⟨o,_,_,_,e,ex,_⟩:=I.hok p _ hk
   refine⟨⟨o,e,ex.1⟩,fun a e2=>?_⟩;cases e2;exact⟨o,e,ex.2.1⟩
 | _=>exact False.elim ty
noncomputable def tBM (K:Frag) (T:String) (r:V->List V->Hp->VK->Prop) (to:TE) (t:TA):TE:=fun σ H Q=>to σ H fun x H1=>tyV K T x H1/\t σ H1 fun xs H2=>r x xs H2 Q
variable {o e:Expr} {es:List Expr} {to:TE} {t:TA} {name:Str} {apos cpos:Pos} {T id:String} {r:V->List V->Hp->VK->Prop}
theorem pe_bm (pa:PlainAttrs T) (slot:Slot T name id) (hty:typeOf (.builtin id)=pure (.type "method_descriptor")) (hm:MtR X id r) (ho:PE X o to) (ha:PA X (e::es) t)
  (hbase:attributeBase o name X.env (eval o X.env)=eval o X.env:=by rfl)
  (hfew:((backTo cpos (starEach (e::es) X.env)).all (fun x=>!x.1)&&(backToKw cpos (keywordEach [] X.env)).all (fun x=>x.1.isSome)
   && decide ((e::es).length+([]:List Keyword).length+(if ([]:List Keyword).isEmpty then 0 else 1)<30))=true:=by rfl)
  (hline:(apos.endLine==cpos.line)=true:=by rfl) (hs:starEach (e::es) X.env=(false,eval e X.env)::starEach es X.env:=by rfl) (hplain:(backTo cpos (starEach es X.env)).any (·.1)=false:=by rfl) :
  PE X (.Call (.Attribute o name apos) (e::es) [] cpos) (tBM X.K T r to t):=by
 intro pins s σ H Q I h;refine wpAny_Call_method_late hbase hfew hline rfl (thn (ho pins s σ H _ I h) fun v s1 hq2=>?_);obtain⟨x,H1,I1,r1,ty,q1⟩:=hq2;obtain⟨h1,h2⟩:=tyV_is I1 r1 ty;refine⟨T,id,pa,slot,hty,h1,h2,?_⟩;have hA:=ha cpos pins s1 σ H1 _ I1 q1;rw[hs] at hA ⊢;refine Calls.callWith_builtin (by show (false || (backTo cpos (starEach es X.env)).any (·.1))=false;rw[hplain]<;>rfl) (Calls.evalArgs_plain ?_);exact thn hA (by rintro us s2 ⟨vs,H2,I2,r2,q2⟩;exact hm pins s2 σ H2 x vs v us Q I2 r1 r2 q2)
end
end L2
namespace L2
open PySem PySem.Spec PyProof.Rows
noncomputable def MtM (X:Cx) (id:String) (r:V->List V->Hp->VK->Prop):Prop :=
 ∀ (pins:List (Addr×Obj)) (s:Shared) (σ:St) (H:Hp) (x:V) (xs:List V) (v:Value) (us:List Value) (Q:VK),Inv X pins σ H s->RelV x v->Vals xs us->r x xs H Q ->
  wpAny (model X.prog X.w) X.A (call (.builtin id) (v::us)) (EP X pins σ Q) X.xe s
theorem Vals.one:∀ {x:V} {us:List Value},Vals [x] us->∃ u,us=[u]/\RelV x u
 | _,_,.cons r .nil=>⟨_,rfl,r⟩
theorem Vals.rep (h:Vals xs us):∀ k:Nat,Vals (List.replicate k xs).flatten (List.replicate k us).flatten
 | 0=>.nil
 | k+1=>by
  rw[List.replicate_succ,List.replicate_succ,List.flatten_cons,List.flatten_cons];exact Vals.append h (Vals.rep h k)
theorem foldl_rep (its:List Value):∀ (k:Nat) (acc:List Value),
  List.foldl (fun x1 x2=>x1++x2) acc.toArray (List.replicate k its.toArray)=(acc++(List.replicate k its).flatten).toArray
 | 0,acc=>by simp
 | k+1,acc=>by
  have e:acc.toArray++its.toArray=(acc++its).toArray:=by simp
  have e2:(acc++its)++(List.replicate k its).flatten=acc++(List.replicate (k+1) its).flatten:=by
   rw[List.replicate_succ,List.flatten_cons,List.append_assoc]
  rw[<- e2,<- foldl_rep its k (acc++its),<- e,List.replicate_succ,List.foldl_cons]
section
variable {X:Cx} {pins:List (Addr×Obj)} {σ:St} {H:Hp} {s:Shared} {l b:Addr} {xs ys zs:List V}
theorem Inv.lset {its its':List Value} {n:Nat} {f:Array Value->Array Value} {t':Nat} (I:Inv X pins σ H s) (hH:H l=some (.lst xs))
  (e:s.heap.get? l=some {cls:=.type "list",data:=.seq its.toArray n}) (hf:f its.toArray=its'.toArray) (hv:Vals ys its') (hz:ys.length<=sizeLine) :
  Inv X pins σ (upd H l (.lst ys)) {s with heap:=s.heap.update l (Obj.mapSeq f),toks:=t'}:=by
 have q:=PySem.IsL.update e f;rw[hf] at q;refine I.write (x:=l) (e:=l) (by rw[hH];exact trivial) (.inl rfl) (fun b' u hb hu=>(Heap.get?_update_other s.heap (Obj.mapSeq f) (Ne.symm hb)).trans hu) ⟨_,q⟩ ?_;exact⟨hz,its',_,hv,q⟩
theorem Inv.lnew (I:Inv X pins σ H s) (hv:Vals ys its) (hz:ys.length<=sizeLine) :
  Inv X pins σ (upd H s.heap.objs.size (.lst ys)) {s with heap:=s.heap.push {cls:=.type "list",data:=.seq its.toArray},toks:=t'} :=
 I.laid (fun _ _ q=>Heap.get?_push_of_some _ q) %[|3] ⟨hz,its,0,hv,Heap.get?_push_size _ rfl⟩
theorem Inv.fresh (I:Inv X pins σ H s):H s.heap.objs.size=none:=I.hok.fresh %[|3]
theorem Inv.lstM (I:Inv X pins σ H s) (hH:H l=some (.lst xs)):xs.length<=sizeLine/\∃ (its:List Value) (n:Nat),Vals xs its/\xs.length=its.length/\s.heap.get? l=some {cls:=.type "list",data:=.seq its.toArray n}:=by
 obtain⟨z,its,n,r,e⟩:=I.hok l _ hH;exact⟨z,its,n,r,r.length,e⟩
theorem notLongL (h:n<=sizeLine):Builtin.List.listTooLong n=false:=by
 unfold Builtin.List.listTooLong;exact decide_eq_false %[|5]
end
section
variable {X:Cx}
noncomputable def rAppend:V->List V->Hp->VK->Prop:=fun x vs H Q=>∃ l xs y,x=.ref l/\vs=[y]/\H l=some (.lst xs)/\xs.length<sizeLine/\Q .non (upd H l (.lst (xs++[y])))
theorem mt_append:MtM X "list.append" rAppend:=by
 intro pins s σ H x vs v us Q I rx rv h;obtain⟨l,xs,y,rfl,rfl,hH,hz,q⟩:=h;cases rx;obtain⟨u,rfl,ru⟩:=rv.one;obtain⟨z,its,n,r,hl,e⟩:=I.lstM hH;refine call_meets F.slot_list_append ⟨_,e,rfl⟩ F.entry_list_append (F.args_list_append_2 _ _) (PySem.list_append l its.toArray n u (by rw[List.size_toArray];omega)) ⟨e,?_⟩;refine⟨.non,_,I.lset (its':=its++[u]) hH e (by simp) (r.append (.cons ru .nil)) ?_,rfl,q⟩;rw[List.length_append,List.length_singleton];omega
noncomputable def rExtend:V->List V->Hp->VK->Prop:=fun x vs H Q=>∃ l b xs zs,x=.ref l/\vs=[.ref b]/\H l=some (.lst xs)/\H b=some (.lst zs)/\xs.length+zs.length<=sizeLine/\Q .non (upd H l (.lst (xs++zs)))
theorem mt_extend:MtM X "list.extend" rExtend:=by
 intro pins s σ H x vs v us Q I rx rv h;obtain⟨l,b,xs,zs,rfl,rfl,hH,hB,hz,q⟩:=h;cases rx;obtain⟨u,rfl,ru⟩:=rv.one;cases ru;obtain⟨z,its,n,r,hl,e⟩:=I.lstM hH;obtain⟨z2,its2,n2,r2,hl2,e2⟩:=I.lstM hB;have hsz:its.toArray.size+its2.toArray.size<=sizeLine:=by rw[List.size_toArray,List.size_toArray];omega
 have hlong:¬ (!its.toArray.isEmpty&&Builtin.List.listTooLong (its.toArray.size+its2.toArray.size))=true:=by
  rw[notLongL hsz,Bool.and_false];exact Bool.false_ne_true
 refine call_meets F.slot_list_extend ⟨_,e,rfl⟩ F.entry_list_extend (F.args_list_extend_2 _ _)
  (AutoSeq1.list_extend_list_list_0 l its.toArray n b its2.toArray n2 hlong (by rw[List.size_toArray];omega) %[|5]) ⟨e,e2,?_⟩
 refine⟨.non,_,I.lset (its':=its++its2) hH e (by simp) (r.append r2) ?_,rfl,q⟩;rw[List.length_append];omega
noncomputable def rCat:R2:=fun x y H Q=>∃ l b xs zs,x=.ref l/\y=.ref b/\H l=some (.lst xs)/\H b=some (.lst zs)/\xs.length+zs.length<=sizeLine/\∀ p,H p=none->Q (.ref p) (upd H p (.lst (xs++zs)))
theorem op_cat:OpR X (binaryOp .Add) rCat:=by
 intro pins s σ H x y v u Q I rx ry h;obtain⟨l,b,xs,zs,rfl,rfl,hH,hB,hz,q⟩:=h;cases rx;cases ry;obtain⟨z,its,n,r,hl,e⟩:=I.lstM hH;obtain⟨z2,its2,n2,r2,hl2,e2⟩:=I.lstM hB;refine PySem.P.add_list e e2 ?_ (by rw[List.size_toArray,List.size_toArray];omega);have ea:its.toArray++its2.toArray=(its++its2).toArray:=by simp
 rw[ea];exact⟨.ref _,_,I.lnew (t':=s.toks) (r.append r2) (by rw[List.length_append];omega),rfl,q _ I.fresh⟩
noncomputable def rRep:R2:=fun x y H Q=>∃ l k xs,x=.ref l/\y=.int k/\H l=some (.lst xs)/\-(2 ^ 63)<=k/\k<2 ^ 63/\xs.length*k.toNat<=sizeLine /\
 ∀ p,H p=none->Q (.ref p) (upd H p (.lst (List.replicate k.toNat xs).flatten))
theorem len_rep (xs:List α) (k:Nat):(List.replicate k xs).flatten.length=k*xs.length:=by
 induction k with
 | zero=>simp
 | succ k ih=>rw [List.replicate_succ,List.flatten_cons,List.length_append,ih,Nat.succ_mul,Nat.add_comm]
theorem op_rep:OpR X (binaryOp .Mult) rRep:=by
 intro pins s σ H x y v u Q I rx ry h;obtain⟨l,k,xs,rfl,rfl,hH,h1,h2,hz,q⟩:=h;cases rx;obtain⟨t,rfl⟩:=ry;obtain⟨z,its,n,r,hl,e⟩:=I.lstM hH;have hlen:its.toArray.size*k.toNat<=sizeLine:=by rw[List.size_toArray,<- hl];exact hz
 have hcap:¬ its.toArray.size*k.toNat > (2 ^ 63-1) / 8:=by
  have:(sizeLine:Nat)<=(2 ^ 63-1) / 8:=by decide
  omega
 have hfit:¬ (!Builtin.List.listFitsIndex k)=true:=by
  rw[fitsIndex_both h1 h2];exact Bool.false_ne_true
 have hlong:¬ Builtin.List.listTooLong (its.toArray.size*k.toNat)=true:=by
  rw[notLongL hlen];exact Bool.false_ne_true
 have hnew:List.foldl (fun x1 x2=>x1++x2) #[] (List.replicate (if its.toArray.isEmpty=true then 0 else k.toNat) its.toArray)=(List.replicate k.toNat its).flatten.toArray:=by
  have f0:∀ m:Nat,List.foldl (fun x1 x2=>x1++x2) #[] (List.replicate m its.toArray)=(List.replicate m its).flatten.toArray:=fun m=>by
   have:=foldl_rep its m [];rw[List.nil_append] at this;exact this
  rw[f0];cases its with
  | nil=>simp
  | cons a r'=>rw [if_neg (by simp)]
 refine wpAny_binaryOp_repeat_ref (T:="list") (U:="int") %[|4] ⟨_,e,rfl⟩ (fun s'=>typeIs_int s' k t) noFill_list_mul F.fills_int_mul F.slot_int_rmul repeat_list F.slot_int_index.lookup
  (call_meets F.slot_int_rmul (typeIs_int s k t) F.entry_int_rmul (F.args_int_rmul_2 _ _) (int___rmul___int_list k t l its.toArray n)
   ⟨e,rfl,⟨_,e,rfl⟩,call_meets F.slot_list_mul ⟨_,e,rfl⟩ F.entry_list_mul (F.args_list_mul_2 _ _) (AutoListH.list___mul___list_int_3 l its.toArray n k t hfit hcap hlong) ⟨e,?_⟩⟩)
 rw[hnew];exact⟨.ref _,_,I.lnew (t':=s.toks) (r.rep k.toNat) (by rw[len_rep,Nat.mul_comm];exact hz),rfl,q _ I.fresh⟩
end
section
variable {prog:Program} {w:World} {A:Around} {E:Value->Shared->Prop} {s:Shared}
set_option maxRecDepth 100000 in
end
section
variable {X:Cx}
end
end L2
namespace Att
open PySem PySem.W PySem.Calls PyProof.Rows
theorem ints_of_wellAll:∀ (ns:List Int) (vs:List Value),WellAll P h vs (ns.map WData.int)->IntsAre vs ns:=by
 intro ns
 induction ns with
 | nil =>
  intro vs w;rw[List.map_nil] at w;cases w;exact .nil
 | cons n ns ih =>
  intro vs w;rw[List.map_cons] at w;cases w with
  | cons a b =>
   cases a;exact .cons _ _ (ih _ b)
theorem script_of {l:OpenLaw} {n:Nat} (hn:l.most=some n) {P:Params} {h:Heap} {args:List WData} {vals:List Value}
  (hpre:l.row.toRowW.claim.pre args=true) (hwl:WellAll P h vals args) :
  ∃ a vs ns,vals=[Value.ref a]/\args=[WData.list (ns.map WData.int)]/\h.get? a=some {cls:=.type "list",data:=.seq vs.toArray}/\IntsAre vs ns/\ns.length<=n:=by
 have hsh:WShape.hasAll [] args [.list .int]=true:=(pre_splitW hpre).1;have hc:l.pre.holds [] {args:=args}=true:=(pre_splitW hpre).2;obtain⟨d,r,rfl,h1,h2⟩:=hasAllW_cons hsh;obtain rfl:=hasAllW_nil h2;obtain⟨xs,rfl,h3⟩:=hasW_list h1;obtain⟨ns,rfl⟩:=items_int h3;have hlen:ns.length<=n:=by
  unfold OpenLaw.pre at hc;have h4:(WTm.not (.lt (.lit (.int (n:Int))) (.len (.arg 0)))).holds [] {args:=[.list (ns.map .int)]}=true:=by
   have h4:=(holds_andW hc).1;rw[hn] at h4;exact h4
  have h5:=condW_of h4 (w_not (w_lt w_lit (w_len_list (w_arg rfl))));rw[List.length_map] at h5;refine Nat.le_of_not_lt fun q=>?_;have q':(n:Int)<((ns.length:Nat):Int):=by omega
  first
   | (rw [decide_eq_true q'] at h5;exact absurd h5 %[|4])
   | (simp at h5;omega)
 cases hwl with
 | cons w1 w2 =>
  cases w2;cases w1 with
  | list ho hall=>exact⟨_,_,ns,rfl,rfl,ho,ints_of_wellAll ns _ hall,hlen⟩
theorem post_true (l:OpenLaw) (args:List WData):l.row.toRowW.claim.post args (.bool true) args=true :=
 postW_of (r:=l.row.toRowW) (X:=(true==true))
  (show WShape.has [] (.bool true) .bool=true by first|rfl|decide|simp[WShape.has,WShape.arms,WShape.armsAll])
  (show (WTm.eq .res (.lit (.bool true))).value [] {args:=args,res:=some (.bool true),after:=args}=some (.bool (true==true)) from w_eq_bool (w_res rfl) w_lit) rfl
section
variable {prog:Program} {w:World} {A:Around} {E:Value->Shared->Prop} {s:Shared} {K:Frag}
end
end Att
namespace L2
open PySem PySem.Spec PyProof.Rows
theorem vals_ints:∀ {vs:List Value} {ns:List Int},IntsAre vs ns->Vals (ns.map V.int) vs
 | _,_,.nil=>.nil
 | _,_,.cons n t h=>.cons ⟨t,rfl⟩ (vals_ints h)
noncomputable def Only (H:Hp):Prop:=∀ b,H b=none\/∃ o xs,H b=some (.frz o (.lst xs))
theorem law_call {P:Program} {w:World} {K:Frag} {mg mb:Str->Option Value} {CX:CXT} {k:Nat} {fa a:Addr} {fd:FuncData} {x:Str} {sp:Sp} {s₁:Shared} {vs:List Value} {ns:List Int}
  (KX:K.In s₁.heap) (hns:s₁.heap.Ns mainGlobals mg) (hb:s₁.heap.Ns builtinsNs mb) (hbb:∀ x:Str,x≠"__name__"->mb x=bootBuiltins x) (hlim:s₁.heap.NoLimit) (hg:s₁.gens=#[])
  (ha:s₁.heap.get? a=some {cls:=.type "list",data:=.seq vs.toArray}) (hi:IntsAre vs ns) (hl:ns.length<=sizeLine) (hr:Room k callerA)
  (F:∀ base:Heap,K.In base->base.Ns mainGlobals mg->FnOk P w K mg base CX k fa fd [x] sp) (hbind:∀ (s:Shared) (u:Value),BindsTo s fd ⟨[u],[]⟩ [(x,u)])
  (hsp:∀ H:Hp,Only H->SqL K H a (ns.map V.int)->sp [.ref a] H (fun v _=>v=.bl true) fun _ _ _=>False)
  (hCX:∀ H e s',CX [] H s₁ (fun _ _ _=>False) e s'->False) :
  codeAny (model P w) callerA (.call (.ref fa) ⟨[.ref a],[]⟩) (fun r s'=>r=.ok (.ret (.bool true))/\OldK s₁.heap s'.heap/\s'.os=s₁.os/\AllBare s'.gens) s₁:=by
 have rv:=vals_ints hi;have lenV:=hi.length;have core:∀ H:Hp,Only H->SqL K H a (ns.map V.int)->HOk P w H s₁.heap->(∀ b,H b≠none->b=a)->(H a≠none->K.lookup a=none) ->
   codeAny (model P w) callerA (.call (.ref fa) ⟨[.ref a],[]⟩) (fun r s'=>r=.ok (.ret (.bool true))/\OldK s₁.heap s'.heap/\s'.os=s₁.os/\AllBare s'.gens) s₁:=by
  intro H hO hS hok hA hK;have base_of:∀ {b:Addr} {o:Obj},s₁.heap.get? b=some o->H b=none->(hidT s₁.heap H).get? b=some o:=fun e n=>hidT_get e n;have noA:∀ {b:Addr} {o:Obj} {es:Array DictEntry} {ep:Nat},s₁.heap.get? b=some o->o.data=.dict es ep->H b=none:=fun {b o es ep} e d=>by
   cases q:H b with
   | none=>rfl
   | some u =>
    have e':b=a:=hA b (by rw[q];simp);subst e';rw[ha] at e;cases e;have d':Data.seq vs.toArray _=Data.dict es ep:=d;cases d'
  have nsK:∀ {b:Addr} {m:Str->Option Value},s₁.heap.Ns b m->(hidT s₁.heap H).Ns b m:=fun {b m} ⟨o,es,ep,e,d,r⟩=>⟨o,es,ep,base_of e (noA e d),d,r⟩;have hKb:K.In (hidT s₁.heap H):=fun b o e=>base_of (KX b o e) (by
   cases q:H b with
   | none=>rfl
   | some u =>
    have e':b=a:=hA b (by rw[q];simp);subst e';rw[hK (by rw[q];simp)] at e;cases e)
  have hM:Mod K mg (hidT s₁.heap H):=⟨hKb,nsK hns,⟨mb,nsK hb,hbb⟩,let ⟨mc,h1,h2⟩:=hlim;⟨mc,nsK h1,h2⟩⟩;have e0:Env0 P w K mg (hidT s₁.heap H) callerA [] s₁ H:=⟨rfl,hM,fun b o e=>of_hidT e,Nat.le_of_eq (hidT_size _ _),trivial,fun b hb=>absurd (show b∈([]:List Addr) from hb) (by simp),hok,.of_eq hg⟩;refine codeAny_mono ((F _ hKb (nsK hns)).run callerA [] s₁ H ⟨[.ref a],[]⟩ [.ref a] [.ref a] _ _ hr e0 (hbind s₁ (.ref a)) (.cons rfl .nil) (hsp H hO hS)) fun r s' h=>?_;cases r with
  | error e=>exact (hCX H e s' h).elim
  | ok fl =>
   cases fl with
   | next=>exact False.elim h
   | brk=>exact False.elim h
   | cont=>exact False.elim h
   | ret u =>
    obtain⟨v,H',os,bare,un,hok',r',q⟩:=h;have q':v=.bl true:=q;subst q';obtain rfl:u=Value.bool true:=r';refine⟨rfl,OldK.of_keep fun b o e=>?_,os,bare⟩;cases q:H b with
    | none=>exact un.keep b o e q (by intro z;exact absurd (show b∈([]:List Addr) from z) (by simp)) (by simp)
    | some u =>
     rcases hO b with z|⟨ob,xs,z⟩
     ·rw[q] at z;cases z
     ·have z2:=un.frzs b ob _ z
      obtain⟨e1,_⟩:=hok b _ z;obtain⟨e2,_⟩:=hok' b _ z2;rw[e] at e1;cases e1;exact e2
 cases hk:K.lookup a with
 | some o =>
  have e:=KX a o hk;rw[ha] at e;cases e;refine core (fun _=>none) (fun _=>.inl rfl) (.inr ⟨_,vs.toArray,_,hk,rfl,rfl,rfl,by rw[List.size_toArray,lenV];exact hl,by simpa using rv⟩) (fun b u z=>by have z':(none:Option HO)=some u:=z;cases z') (fun b z=>absurd rfl z) fun z=>absurd rfl z
 | none =>
  refine core (fun b=>if b=a then some (.frz {cls:=.type "list",data:=.seq vs.toArray} (.lst (ns.map V.int))) else none) (fun b=>?_) (.inl (.inr ⟨{cls:=.type "list",data:=.seq vs.toArray},if_pos rfl⟩)) (fun b u z=>?_) (fun b z=>?_) fun _=>hk
  ·by_cases hb:b=a
   ·exact .inr ⟨_,_,if_pos hb⟩
   ·exact .inl (if_neg hb)
  ·by_cases hb:b=a
   ·have z':=(if_pos hb).symm.trans z
    cases z';subst hb;exact⟨ha,by rw[List.length_map];exact hl,vs,_,rv,ha⟩
   ·have z':=(if_neg hb).symm.trans z
    cases z'
  ·by_cases hb:b=a
   ·exact hb
   ·exact absurd (if_neg hb) z
end L2
namespace L2
open PySem PySem.Spec PyProof.Rows
end L2
namespace L2
open PySem PySem.Spec PyProof.Rows
noncomputable def defArgs (s:Stmt):Arguments:=match s with
 | .FunctionDef _ a _ _ _ _ _ _ _ _=>a
 | _=>{posonlyargs:=[],args:=[],vararg:=none,kwonlyargs:=[],kw_defaults:=[],kwarg:=none,defaults:=[]}
noncomputable def defBody (s:Stmt):List Stmt:=match s with
 | .FunctionDef _ _ b _ _ _ _ _ _ _=>b
 | _=>[]
noncomputable def defScope (s:Stmt):Scope:=match s with
 | .FunctionDef _ _ _ _ _ _ sc _ _ _=>sc
 | _=>{kind:=.function,names:=[],isGenerator:=false,isCoroutine:=false}
abbrev CX0:CXT:=fun _ _ _ _ _ _=>False
abbrev E0:XK:=fun _ _ _=>False
structure Fun (K:Frag) (x qual:Str) (st:Stmt) (f:Addr) (fd:FuncData):Prop where
 ex:∃ (oc:Value) (od:Option Addr) (kV doc pm:Value) (an:Option Addr) (cdv ct:Value) (osl:Array (Option Value)),
  fd=PySem.W.fnOf x qual (defArgs st) (defBody st) (defScope st) .none kV doc pm an cdv ct/\K.lookup f=some ⟨oc,od,.func fd,osl⟩/\PySem.W.codeIn K cdv qual=true
 kp:PySem.W.keepIn K (.ref f)=true
section
variable {P:Program} {w:World} {K:Frag} {mg:Str->Option Value} {base:Heap}
theorem Fun.ok {x qual:Str} {st:Stmt} {f:Addr} {fd:FuncData} {N ps:List Str} {k:Nat} {sp:Sp} (F:Fun K x qual st f fd) (S:FnScope N ps (defScope st)) (len:∀ vs H Q E,sp vs H Q E->vs.length=ps.length)
  (hbody:∀ (cdv:Value) (A:Around) (outer:List Env) (s:Shared) (H:Hp) (vs:List V) (Q:VK) (E:XK),Room k (A.deeper (envOfC qual (defScope st) s.heap.objs.size f cdv))->sp vs H Q E ->
   ∃ t,PSs (cxOf CX0 P w K mg base N qual (defScope st) f cdv A outer s H E).nox (defBody st) t/\t {nx:=fun _ H'=>Q .non H',rt:=Q} (start N vs) H):FnOk P w K mg base CX0 (k+1) f fd ps sp:=by
 obtain⟨oc,od,kV,doc,pm,an,cdv,ct,osl,rfl,lk,hcd⟩:=F.ex;refine fn_of lk hcd S len fun A outer s H vs Q E hr hsp=>?_;obtain⟨t,h,q⟩:=hbody cdv A outer s H vs Q E hr hsp;exact⟨t,h.nox,q⟩
theorem Fun.binds {x qual:Str} {st:Stmt} {f:Addr} {fd:FuncData} {ps:List Str} (F:Fun K x qual st f fd)
  (h:∀ (kV doc pm:Value) (an:Option Addr) (cdv ct:Value) (us:List Value),us.length=ps.length->bindArgs (PySem.W.fnOf x qual (defArgs st) (defBody st) (defScope st) .none kV doc pm an cdv ct) ⟨us,[]⟩=pure (ps.zip us)):Binds K fd ps []:=by
 obtain⟨oc,od,kV,doc,pm,an,cdv,ct,osl,rfl,lk,hcd⟩:=F.ex;exact .all (h kV doc pm an cdv ct)
theorem fun_mk {x qual:Str} {st:Stmt} {f:Addr} {oc:Value} {od an:Option Addr} {osl:Array (Option Value)} {kV doc pm cdv ct:Value} (l:K.lookup f=some ⟨oc,od,.func (PySem.W.fnOf x qual (defArgs st) (defBody st) (defScope st) .none kV doc pm an cdv ct),osl⟩)
  (c:PySem.W.codeIn K cdv qual=true) (k:PySem.W.keepIn K (.ref f)=true):Fun K x qual st f (PySem.W.fnOf x qual (defArgs st) (defBody st) (defScope st) .none kV doc pm an cdv ct):=⟨⟨oc,od,kV,doc,pm,an,cdv,ct,osl,rfl,l,c⟩,k⟩
end
section
variable {X:Cx}
theorem pv (i:Nat) (hN:X.N[i]?=some x:=by rfl) (hv:Vis X.env.scope x:=by first|exact Or.inl rfl|exact Or.inr (Or.inl rfl)|exact Or.inr (Or.inr rfl)) (hd:(x==("__debug__":Str))=false:=by decide)
  (hcd:(x==("__classdict__":Str))=false:=by decide):PE X (.Name x pos) (tVar i):=pe_var hN hv hd hcd
end
end L2
end
noncomputable section
namespace L2
open PySem PySem.Spec PyProof.Rows
section
variable {κ:Type} [DecidableEq κ]
end
section
variable {P:Program} {w:World} {H:Hp} {h:Heap} {a:Addr}
end
section
variable {X:Cx} {pins:List (Addr×Obj)} {σ:St} {H:Hp} {s:Shared} {a:Addr} {y v:V} {u r:Value} {o:Option V} {A:Around} {E:Value->Shared->Prop}
end
section
variable {X:Cx} {pins:List (Addr×Obj)} {σ:St} {H:Hp} {s:Shared} {a:Addr} {kvs:List (Key×V)} {k:Key} {u:Value} {A:Around} {E:Value->Shared->Prop}
end
section
variable {X:Cx} {o i e value:Expr} {pos pos' tpos:Pos} {td ty tv:TE}
end
section
variable {X:Cx} {pos:Pos}
end
structure M1 (X:Cx) (o:Expr) (m:Str) (apos:Pos) (e:Expr) (cpos:Pos):Prop where
 base:attributeBase o m X.env (eval o X.env)=eval o X.env
 few:((backTo cpos (starEach [e] X.env)).all (fun x=>!x.1)&&(backToKw cpos (keywordEach [] X.env)).all (fun x=>x.1.isSome)
  && decide (([e]:List Expr).length+([]:List Keyword).length+(if ([]:List Keyword).isEmpty then 0 else 1)<30))=true
 line:(apos.endLine==cpos.line)=true
 trees:backTo cpos (starEach [e] X.env)=[(false,eval e X.env)]
structure M2 (X:Cx) (o:Expr) (m:Str) (apos:Pos) (e f:Expr) (cpos:Pos):Prop where
 base:attributeBase o m X.env (eval o X.env)=eval o X.env
 few:((backTo cpos (starEach [e,f] X.env)).all (fun x=>!x.1)&&(backToKw cpos (keywordEach [] X.env)).all (fun x=>x.1.isSome)
  && decide (([e,f]:List Expr).length+([]:List Keyword).length+(if ([]:List Keyword).isEmpty then 0 else 1)<30))=true
 line:(apos.endLine==cpos.line)=true
 trees:backTo cpos (starEach [e,f] X.env)=[(false,eval e X.env),(false,eval f X.env)]
section
variable {X:Cx} {pins:List (Addr×Obj)} {σ:St} {H:Hp} {s:Shared} {a:Addr} {y d:V} {u r:Value} {o:Option V} {A:Around} {E:Value->Shared->Prop}
end
section
variable {X:Cx} {o e f:Expr} {apos cpos:Pos} {td ty tx:TE}
end
section
variable {X:Cx} {pins:List (Addr×Obj)} {σ:St} {H:Hp} {s:Shared} {a:Addr} {kvs:List (Key×V)} {A:Around} {E:Value->Shared->Prop}
end
section
variable {X:Cx} {pins:List (Addr×Obj)} {σ:St} {H:Hp} {s:Shared} {a:Addr} {y:V} {u:Value} {A:Around} {E:Value->Shared->Prop}
end
end L2
end
noncomputable section
namespace DL
open PySem PySem.Spec PyProof.Rows L2
theorem dict_mapFields (o:Obj) (f):(o.mapFields f).dict=o.dict:=by obtain⟨c,d,dt,sl⟩:=o;cases dt<;>rfl
noncomputable def Clean (h:Heap) (b:Addr):Prop:=∃ o vs,h.get? b=some o/\o.data=.fields vs/\vs[2]?=some .none
noncomputable def Near (h h':Heap):Prop:=h.UpToSlots h'/\(∀ b o,h.get? b=some o->∃ o',h'.get? b=some o')/\∀ b,Clean h b->Clean h' b
theorem clean_upd (hk:k≠2) (q:h.get? T=some oT) (dt:oT.data=.fields ts) (c:Clean h b):Clean (h.update T (Obj.mapFields (·.setIfInBounds k v))) b:=by
 obtain⟨o,vs,q1,q2,q3⟩:=c;by_cases z:b=T
 ·subst z
  rw[q] at q1;(first|cases (show _=_ from q1.inv)|cases q1);rw[dt] at q2;(first|cases (show _=_ from q2.inv)|cases q2);exact⟨_,_,Heap.get?_update_self _ q (Obj.isFreed_of_fields (Obj.data_mapFields dt _)),Obj.data_mapFields dt _,by rw[Array.getElem?_setIfInBounds_ne hk];exact q3⟩
 ·exact⟨o,vs,by rw[Heap.get?_update_other _ _ (Ne.symm z)];exact q1,q2,q3⟩
theorem Near.trans (a:Near h h1) (b:Near h1 h2):Near h h2:=⟨a.1.trans b.1,fun c o q=>let ⟨_,q1⟩:=a.2.1 c o q;b.2.1 c _ q1,fun c q=>b.2.2 c (a.2.2 c q)⟩
theorem Near.kept (k:∀ b o,h.get? b=some o->h'.get? b=some o):Near h h':=⟨.of_keeps k,fun b o q=>⟨o,k b o q⟩,fun b ⟨o,vs,q,r⟩=>⟨o,vs,k b o q,r⟩⟩
structure Flies (B:Heap) (l:List Env) (e:Addr) (cls:Value) (dd:Option Addr) (fl:Value) (h:Heap):Prop where
 stays:B.StaysIn h
 new:B.get? e=none
 frames:h.FunFrames B l
 tr:∃ oe vs T oT ts,h.get? e=some oe/\oe.cls=cls/\oe.dict=dd/\oe.data=.fields vs/\vs[1]?=some (.ref T)/\B.get? T=none/\T≠e/\h.get? T=some oT/\oT.data=.fields ts/\ts[3]?=some fl
section
variable {M:Model} {A:Around} {Z:Value->Shared->Prop} {s:Shared} {B:Heap} {env:Env} {outer:List Env} {L e:Addr} {Q:Unit->Shared->Prop}
theorem fly_entry (fr:A.frames=some (env::outer)) (ff:s.heap.FunFrames B (env::outer)) (fl:env.frame=some L)
  (at_:s.heap.get? e=some oe) (st:B.StaysIn s.heap) (nw:B.get? e=none) (dt:oe.data=.fields vs) (sz:1<vs.size)
  (go:∀ h',Flies B (env::outer) e oe.cls oe.dict (rawInt L) h'->Near s.heap h'->Q () {s with heap:=h'}) :
  wpAny M A (do let x <- frameOf env;let y <- entryPlaceOf L hn;let z <- EntryCells.newEntry head x .none (rawInt L) .none y;setField (.ref e) 1 z) Q Z s:=by
 have nfr:e ∉ (env::outer).filterMap (·.frame):=fun z=>by
  obtain⟨_,o,q,r⟩:=ff.mem z;rw[at_] at q;cases q;exact r vs dt
 refine wpAny_bind (wpAny_frameOf_fun fr ff fl fun g sl=>wpAny_bind (wpAny_entryPlaceOf fun pl ok=>?_));unfold EntryCells.newEntry newFields;refine wpAny_bind (wpAny_newObj_type ?_ (ok.sizeOk5 _ _ _ _ _));generalize hO:({cls:=.type "traceback",dict:=none,data:=.fields ([head,.ref L,.none,rawInt L,.none]++(if pl.isEmpty then List.replicate 6 Value.none else pl)).toArray}:Obj)=ob;have ge:g.get? e=some oe:=(sl.2.1 e nfr).trans at_;have gB:B.StaysIn g:=fun b o q=>(sl.2.1 b fun z=>by rw[(ff.mem z).1] at q;cases q).trans (st b o q);have ge':(g.push ob).get? e=some oe:=Heap.get?_push_of_some _ ge;have obf:ob.isFreed=false:=by subst hO;rfl
 have gT:(g.push ob).get? g.objs.size=some ob:=Heap.get?_push_size g obf;have Te:g.objs.size≠e:=Nat.ne_of_gt (Heap.lt_size ge);refine wpAny_setField ge' dt sz ?_;have d3:=Obj.data_mapFields dt (·.setIfInBounds 1 (Value.ref g.objs.size));have e3:=Heap.get?_update_self (Obj.mapFields (·.setIfInBounds 1 (Value.ref g.objs.size))) ge' (Obj.isFreed_of_fields d3);have oth:∀ b o,b≠e->g.get? b=some o->((g.push ob).update e (Obj.mapFields (·.setIfInBounds 1 (Value.ref g.objs.size)))).get? b=some o:=fun b o n q=>by
  rw[Heap.get?_update_other _ _ (Ne.symm n)];exact Heap.get?_push_of_some _ q
 have nrec:∀ b o,s.heap.get? b=some o->(∀ ws,o.data≠.fields ws)->b≠e:=fun b o q r z=>by
  rw[z,at_] at q;cases q;exact r vs dt
 refine go _ ⟨fun b o q=>oth b o (fun z=>by rw[z,nw] at q;cases q) (gB b o q),nw,ff.of_keeps fun b o q r=>?_,?_⟩ ⟨fun b o q r=>?_,fun b o q=>?_,fun b c=>?_⟩
 ·obtain⟨x,y⟩:=sl.2.2 b o q
  exact⟨_,oth b _ (nrec b o q r) y,rfl⟩
 ·refine⟨_,_,g.objs.size,ob,_,e3,Obj.cls_mapFields _ _,dict_mapFields _ _,d3,by simp[sz],gB.fresh,Te,?_,by subst hO;rfl,?_⟩
  ·rw[Heap.get?_update_other _ _ (Ne.symm Te)];exact gT
  ·simp
 ·obtain⟨x,y⟩:=sl.2.2 b o q
  exact⟨x,oth b _ (nrec b o q r) y⟩
 ·by_cases z:b=e
  ·subst z;exact⟨_,e3⟩
  ·obtain⟨x,y⟩:=sl.2.2 b o q
   exact⟨_,oth b _ z y⟩
 ·obtain⟨o,ws,q1,q2,q3⟩:=c
  have nb:b ∉ (env::outer).filterMap (·.frame):=fun z=>by
   obtain⟨_,o',q,r⟩:=ff.mem z;rw[q1] at q;cases q;exact r ws q2
  exact clean_upd %[|4] ge' dt ⟨o,ws,Heap.get?_push_of_some _ ((sl.2.1 b nb).trans q1),q2,q3⟩
theorem fly_note0 (fr:A.frames=some (env::outer)) (ff:s.heap.FunFrames B (env::outer)) (fl:env.frame=some L)
  (at_:s.heap.get? e=some oe) (st:B.StaysIn s.heap) (nw:B.get? e=none) (dt:oe.data=.fields vs) (v1:vs[1]?=some .none)
  (go:∀ h',Flies B (env::outer) e oe.cls oe.dict (rawInt L) h'->Near s.heap h'->Q () {s with heap:=h'}):wpAny M A (noteFrame (.ref e) env) Q Z s:=by
 unfold noteFrame;simp only[fl];refine wpAny_bind (wpAny_field at_ dt v1 ?_);rw[if_neg %[|4]];exact fly_entry fr ff fl at_ st nw dt (Array.getElem?_eq_some_iff.mp v1).1 go
theorem fly_note (fr:A.frames=some (env::outer)) (fl:env.frame=some L) (F:Flies B (env::outer) e cls dd .none s.heap)
  (go:∀ h',Flies B (env::outer) e cls dd (rawInt L) h'->Near s.heap h'->Q () {s with heap:=h'}):wpAny M A (noteFrame (.ref e) env) Q Z s:=by
 obtain⟨st,nw,ff,oe,vs,T,oT,ts,q1,rfl,rfl,q4,q5,q6,q7,q8,q9,q10⟩:=F;unfold noteFrame;simp only[fl];refine wpAny_bind (wpAny_field q1 q4 q5 ?_);rw[if_pos (show (Value.ref T != Value.none)=true from by simp)];refine wpAny_bind (wpAny_field q8 q9 q10 ?_);rw[if_neg (show ¬ ((Value.none==rawInt L)=true) from by simp[rawInt])];refine wpAny_bind (wpAny_setField q8 q9 (Array.getElem?_eq_some_iff.mp q10).1 ?_);have oth:∀ b,b≠T->(s.heap.update T (Obj.mapFields (·.setIfInBounds 3 Value.none))).get? b=s.heap.get? b:=fun b n=>Heap.get?_update_other _ _ (Ne.symm n);have nrec:∀ b o,s.heap.get? b=some o->(∀ ws,o.data≠.fields ws)->b≠T:=fun b o q r z=>by
  rw[z,q8] at q;cases q;exact r ts q9
 refine fly_entry (s:={s with heap:=s.heap.update T (Obj.mapFields (·.setIfInBounds 3 Value.none))}) fr (ff.of_keeps fun b o q r=>⟨o,(oth b (nrec b o q r)).trans q,rfl⟩) fl ((oth e (Ne.symm q7)).trans q1) (fun b o q=>(oth b fun z=>by rw[z,q6] at q;cases q).trans (st b o q)) nw q4 (Array.getElem?_eq_some_iff.mp q5).1 fun h' x y=>?_;refine go h' x ⟨fun b o q r=>y.1 b o ((oth b (nrec b o q r)).trans q) r,fun b o q=>?_,fun b c=>y.2.2 b (clean_upd %[|4] q8 q9 c)⟩;by_cases z:b=T
 ·subst z;exact y.2.1 _ _ (Heap.get?_update_self _ q8 (Obj.isFreed_of_fields (Obj.data_mapFields q9 _)))
 ·exact y.2.1 b o ((oth b z).trans q)
theorem fly_land (F:Flies B l e cls dd fl s.heap)
  (go:∀ h',Flies B l e cls dd .none h'->Near s.heap h'->Q () {s with heap:=h'}):wpAny M A (setFlight (.ref e) none) Q Z s:=by
 obtain⟨st,nw,ff,oe,vs,T,oT,ts,q1,q2,q3,q4,q5,q6,q7,q8,q9,q10⟩:=F;have sz:=(Array.getElem?_eq_some_iff.mp q10).1;have oth:∀ b,b≠T->(s.heap.update T (Obj.mapFields (·.setIfInBounds 3 ((none:Option Addr).elim Value.none fun f=>rawInt f)))).get? b=s.heap.get? b:=fun b n=>Heap.get?_update_other _ _ (Ne.symm n);have nrec:∀ b o,s.heap.get? b=some o->(∀ ws,o.data≠.fields ws)->b≠T:=fun b o q r z=>by
  rw[z,q8] at q;cases q;exact r ts q9
 unfold setFlight;refine wpAny_bind (wpAny_field q1 q4 q5 ?_);rw[if_pos (show (Value.ref T != Value.none)=true from by simp)];refine wpAny_setField q8 q9 sz (go _ ⟨fun b o q=>(oth b fun z=>by rw[z,q6] at q;cases q).trans (st b o q),nw,ff.of_keeps fun b o q r=>⟨o,(oth b (nrec b o q r)).trans q,rfl⟩,?_⟩ ⟨fun b o q r=>⟨o.slots,(oth b (nrec b o q r)).trans q⟩,fun b o q=>?_,fun b c=>clean_upd %[|4] q8 q9 c⟩)
 rotate_left
 ·by_cases z:b=T
  ·subst z;exact⟨_,Heap.get?_update_self _ q8 (Obj.isFreed_of_fields (Obj.data_mapFields q9 _))⟩
  ·exact⟨o,(oth b z).trans q⟩
 exact⟨oe,vs,T,_,_,(oth e (Ne.symm q7)).trans q1,q2,q3,q4,q5,q6,q7,Heap.get?_update_self _ q8 (Obj.isFreed_of_fields (Obj.data_mapFields q9 _)),Obj.data_mapFields q9 _,by simp[sz]⟩
theorem Flies.off (F:Flies B (env::outer) e cls dd fl h):Flies B outer e cls dd fl h:=⟨F.stays,F.new,F.frames.2.2,F.tr⟩
theorem fly_leave (fr:A.frames=some (env::outer)) (fl:env.frame=some L) (F:Flies B (env::outer) e cls dd .none s.heap)
  (go:∀ h',Flies B outer e cls dd .none h'->Near s.heap h'->Q () {s with heap:=h'}):wpAny M A (leaving env (.ref e)) Q Z s:=by
 unfold leaving;exact wpAny_bind (fly_note fr fl F fun h1 F1 u1=>fly_land F1 fun h2 F2 u2=>go h2 F2.off (u1.trans u2))
theorem fly_leaveL (fl:env.frame=some L) (F:Flies B (env::outer) e cls dd (rawInt L) s.heap)
  (go:∀ h',Flies B outer e cls dd .none h'->Near s.heap h'->Q () {s with heap:=h'}):wpAny M A (leaving env (.ref e)) Q Z s:=by
 unfold leaving;refine wpAny_bind ?_;obtain⟨oe,vs,T,oT,ts,q1,q2,q3,q4,q5,q6,q7,q8,q9,q10⟩:=F.tr;unfold noteFrame;simp only[fl];refine wpAny_bind (wpAny_field q1 q4 q5 ?_);rw[if_pos (show (Value.ref T != Value.none)=true from by simp)];refine wpAny_bind (wpAny_field q8 q9 q10 ?_);rw[if_pos (show (rawInt L==rawInt L)=true from by simp)];exact wpAny_pure (fly_land F fun h2 F2 u2=>go h2 F2.off u2)
structure Made (h h':Heap) (e:Addr) (cls:Value) (dd:Option Addr):Prop where
 keeps:∀ b o,h.get? b=some o->h'.get? b=some o
 new:h.get? e=none
 at_:∃ oe vs,h'.get? e=some oe/\oe.cls=cls/\oe.dict=dd/\oe.data=.fields vs/\vs[1]?=some .none
theorem Made.of (mk:Heap.MadeExcOf h h' e cls vs):Made h h' e cls none :=
 let ⟨_,q1,_,_⟩:=mk.there;⟨mk.keeps,mk.new,_,_,q1,rfl,rfl,rfl,rfl⟩
theorem clean_made (mk:Heap.MadeExcOf h h' e cls vs):Clean h' e:=let ⟨_,q1,_,_⟩:=mk.there;⟨_,_,q1,rfl,rfl⟩
theorem Made.fresh (mk:Made h h' e cls dd) (st:B.StaysIn h):B.get? e=none:=by
 cases q:B.get? e with
 | none=>rfl
 | some o=>have:=st e o q;rw[mk.new] at this;cases this
theorem fly_leave0 (fr:A.frames=some (env::outer)) (fl:env.frame=some L) (ff:h.FunFrames B (env::outer)) (st:B.StaysIn h) (mk:Made h s.heap e cls dd)
  (go:∀ h',Flies B outer e cls dd .none h'->Near s.heap h'->Q () {s with heap:=h'}):wpAny M A (leaving env (.ref e)) Q Z s:=by
 obtain⟨oe,vs,q1,rfl,rfl,q4,q5⟩:=mk.at_;unfold leaving;exact wpAny_bind (fly_note0 fr (ff.of_keeps fun b o q _=>⟨o,mk.keeps b o q,rfl⟩) fl q1 (fun b o q=>mk.keeps b o (st b o q)) (mk.fresh st) q4 q5 fun h1 F1 u1=>fly_land F1 fun h2 F2 u2=>go h2 F2.off (u1.trans u2))
end
end DL
end
noncomputable section
namespace DL
open PySem PySem.Spec PyProof.Rows L2 PySem.W
section
variable {prog:Program} {w:World} {A:Around} {Z:Value->Shared->Prop} {s:Shared} {K:Frag} {x D:Addr} {ox:Obj} {od:Option Obj} {name:Str}
structure ExcCls (K:Frag) (D:Addr):Prop where
 ga:findIn K (.ref D) "__getattribute__"=some (some (.builtin "BaseException.__getattribute__"))
 hook:findIn K (.ref D) "__getattr__"=some none
 base:mroIn K D (.type "BaseException")=some true
 obj:mroIn K D (.type "object")=some true
 cls:(clsIn K D).isSome=true
 ca:findIn K (.ref D) "__class__"=some (some (.builtin "object.__class__"))
 cg:specialIn K (.builtin "object.__class__") "__get__"=some (some (.builtin "getset_descriptor.__get__"))
 ct:takesIn K (.builtin "object.__class__")=some true
theorem exc_check (L4:Looks M s.heap (isInstance (.ref x) (.type "BaseException")) true) (hq:Q () s):wpAny M A (checkBuiltinCall "BaseException.__getattribute__" ⟨[.ref x,nameV],[]⟩) Q Z s:=by
 obtain⟨hh,g,d,t,os⟩:=s;have hk:builtinKind "BaseException.__getattribute__"=some .slot:=by decide +kernel
 have hsplit:splitId "BaseException.__getattribute__"=some ("BaseException","__getattribute__"):=by decide +kernel
 have ha:=PySem.F.args_bexc_ga (.ref x) nameV;simp only[checkBuiltinCall,hk,hsplit];refine wpAny_bind (L4.at ?_)
 repeat (first|assumption|wp_step)
theorem exc_attr {Q:Value->Shared->Prop} {fill expr:Bool} {tk:Tok} (X:K.In s.heap) (I:InstAt s.heap x ox D od) (F:ExcCls K D)
  (h:wpAny (model prog w) A.in1 (Builtin.«object.__getattribute__» ⟨[.ref x,.str name tk],[]⟩)
   (fun fin s'=>match fin with | .done (.ret v)=>wpAny (model prog w) A (handedOut v) Q (fun _ _=>False) s' | _=>False) (fun _ _=>False) s) :
  wpAny (model prog w) A (getAttrBy (.ref x) (.str name tk) fill expr) Q Z s:=by
 obtain⟨hh,g,d,t,os⟩:=s;have L0:=I.type (M:=model prog w);have L1:=looks_findIn (M:=model prog w) X F.ga;have L2:=looks_findIn (M:=model prog w) X F.hook;have L3:=looks_mroIn (M:=model prog w) X F.base;have hx2:(Value.builtin "BaseException.__getattribute__" == Value.builtin "object.__getattribute__")=false:=by decide +kernel
 have tf:typeOf (.builtin "BaseException.__getattribute__")=pure (.type "wrapper_descriptor"):=by kernel_rfl
 unfold getAttrBy;refine wpAny_holding (wpAny_bind (L0.at (wpAny_bind (L1.at ?_))));dsimp only;rw[if_neg (by rw[hx2];simp)];unfold getAttrByItsOwn hookBefore;rw[if_pos (show onTheHeap (Value.ref D)=true from rfl)];refine wpAny_bind (L2.at ?_);unfold callGetattribute;rw[show (expr&&onTheHeap (Value.builtin "BaseException.__getattribute__"))=false from Bool.and_false _,if_neg (by simp)];refine wpAny_bind (wpAny_attempt (wpAny_holding ?_));unfold boundAndCalled bindSpecial;rw[tf];refine wpAny_bind (wpAny_bind (wpAny_pure ?_));rw[if_pos %[|4]];refine wpAny_pure (wpAny_call (codeAny_call_builtin ?pl PySem.F.entry_bexc_ga ?ck))
 case pl=>exact PySem.F.excAttr_ValueError.ga.plain
 case ck =>
  refine exc_check (L0.andThen L3) (wpAny_mono h (fun fin s' z=>?_) fun _ _ z=>z.elim);rcases fin with (_|_|_|_)|_<;>first|exact z.elim|exact wpAny_mono z (fun v s'' hv=>hv) fun _ _ z=>z.elim
theorem exc_find_class (c:(clsIn K D).isSome=true) (F:ExcCls K D):findObj K D od "__class__"=some (.bind (.builtin "getset_descriptor.__get__") (.builtin "object.__class__")):=by
 obtain⟨cd,hc⟩:=Option.isSome_iff_exists.mp c;unfold findObj;rw[hc,Option.bind_some,F.ca,Option.bind_some];simp[F.cg,F.ct]
theorem exc_class {Q:Option Value->Shared->Prop} (X:K.In s.heap) (I:InstAt s.heap x ox D od) (F:ExcCls K D) (h:Q (some (.ref D)) {s with toks:=s.toks+1}):wpAny (model prog w) A (getAttr? (.ref x) "__class__") Q Z s:=by
 unfold getAttr? getAttrBy?;refine wpAny_bind (wpAny_mkText (wpAny_bind (wpAny_attempt (exc_attr (s:={s with toks:=s.toks+1}) X I F ?_))));obtain⟨hh,g,d,t,os⟩:=s;have L0:=I.type (M:=model prog w);have L1:=looks_find (M:=model prog w) X I (exc_find_class F.cls F);unfold Builtin.«object.__getattribute__»;refine wpAny_bind (wpAny_pure (wpAny_bind ?_));show wpAny _ _ (pure _) _ _ _;refine wpAny_pure (wpAny_bind (L0.at (wpAny_bind (L1.at ?_))));dsimp only;unfold Builtin.ObjectAttr.bindTo;refine wpAny_bind (wpAny_holding (wpAny_call (class_get (s:=⟨hh,g,d,t+1,os⟩) X I F.obj ?_)));refine wpAny_pure ?_;show wpAny _ _ (handedOut (.ref D)) _ _ _;refine wpAny_pure (wpAny_pure ?_);exact h
theorem kitx_exc (F:ExcCls K D):KitX K (.ref x) (.ref D) (fun h=>∃ ox od,InstAt h x ox D od) where
 ty:=fun _ _ _ ⟨_,_,I⟩=>I.type
 it:=fun M h X _=>by
  obtain⟨cd,hc⟩:=Option.isSome_iff_exists.mp F.cls;unfold clsIn at hc;split at hc
  ·rename_i ho
   intro A' Q' E' s' k q;unfold isType loadHead;exact wpAny_bind (wpAny_loadPart (k _ _ (X _ _ ho)) (wpAny_pure q))
  ·cases hc
 ne:=fun h tp dd its n sl X htp=>by
  obtain⟨cd,hc⟩:=Option.isSome_iff_exists.mp F.cls;refine Bool.eq_false_iff.mpr fun q=>?_;obtain rfl:D=tp:=Value.ref.inj (beq_iff_eq.mp q);unfold clsIn at hc;split at hc
  ·rename_i ho
   have z:=(X _ _ ho).symm.trans htp;cases z
  ·cases hc
 ca:=fun X ⟨_,_,I⟩ k=>exc_class X I F k
end
noncomputable def xPlain:List Str:=["NoNumber","NoTube","NoRow","NoMeasure","NoData","NoPrice","NoNeeds","NoRoom","NoJobs"]
noncomputable def xInit:List Str:=["NoText","NoLevel","NoCall","NoKept"]
noncomputable def xNames:List Str:="CordError" :: (xPlain++xInit)
noncomputable def isSub (n c:Str):Bool:=decide (n=c) || decide (c="CordError")
noncomputable def bmV:List Value:=[.type "ValueError",.type "Exception",.type "BaseException",.type "object"]
noncomputable def clsAt (K:Frag) (n:Str):Option Addr:=match nsIn K mainGlobals n with|some (some (.ref C))=>some C|_=>none
noncomputable def excClsB (K:Frag) (D:Addr):Bool :=
 (findIn K (.ref D) "__getattribute__" == some (some (.builtin "BaseException.__getattribute__")))&&(findIn K (.ref D) "__getattr__" == some none)&&(mroIn K D (.type "BaseException")==some true)&&(mroIn K D (.type "object")==some true)&&(clsIn K D).isSome
 && (findIn K (.ref D) "__class__" == some (some (.builtin "object.__class__")))&&(specialIn K (.builtin "object.__class__") "__get__" == some (some (.builtin "getset_descriptor.__get__")))&&(takesIn K (.builtin "object.__class__")==some true)
noncomputable def xTab0 (K:Frag):Bool:=xNames.all fun n=>match clsAt K n with
 | none=>true
 | some D=>excClsB K D&&(!(xPlain.contains n) || excIn K D bmV "ValueError.__new__")&&(kitOne K (.ref D) (.type "ValueError")==some true)&&(["int","bool","str","tuple","list","dict"].all fun T=>kitOne K (.ref D) (.type T)==some false)&&xNames.all fun c=>match clsAt K c with
  | none=>true
  | some C=>(exmOne K (.ref D) (.ref C)==some (isSub n c))&&(kitOne K (.ref D) (.ref C)==some (isSub n c))
noncomputable def oNames:List Str:=["Funnel"]
noncomputable def oFields:List Str:=["places","touches","showing"]
noncomputable def oTabB (K:Frag):Bool:=oNames.all fun n=>match clsAt K n with
 | none=>true
 | some C=>plainGet K C Str.empty&&hasDictIn K C&&plainOver K C&&(findIn K (.ref C) "__setattr__" == some (some (.builtin "object.__setattr__")))&&oFields.all fun f=>findIn K (.ref C) f==some none
noncomputable def ClsOf (K:Frag) (n:Str) (C:Addr):Prop:=nsIn K mainGlobals n=some (some (.ref C))
section
variable {K:Frag} {n c:Str} {C D:Addr}
theorem clsAt_of (h:ClsOf K n D):clsAt K n=some D:=by unfold clsAt;rw[show nsIn K mainGlobals n=some (some (.ref D)) from h]
end
end DL
end
noncomputable section
namespace DL
open PySem PySem.Spec PyProof.Rows L2 PySem.W PySem.Builtin PySem.Builtin.ObjectAttr
theorem of_dite {c:Prop} [Decidable c] {f:c->Bool} (h:(if h:c then f h else false)=true):∃ h:c,f h=true:=by
 by_cases z:c
 ·rw[dif_pos z] at h;exact⟨z,h⟩
 ·rw[dif_neg z] at h;cases h
noncomputable def qName (x:Expr) (q:Str->Pos->Bool):Bool:=if h:x.ctorIdx=23 then @Expr.Name.elim (fun _=>Bool) x h q else false
@[elab_as_elim] theorem gNm {P:Expr->Prop} (x) {q} (h:qName x q) (k:∀ a b,q a b->P (.Name a b)):P x:=(of_dite h).elim fun i j=>@Expr.Name.elim (fun x=>∀ i,@Expr.Name.elim (fun _=>Bool) x i q->P x) x i (fun a b _=>k a b) i j
noncomputable def qConstant (x:Expr) (q:Const->Nat->Pos->Bool):Bool:=if h:x.ctorIdx=19 then @Expr.Constant.elim (fun _=>Bool) x h q else false
@[elab_as_elim] theorem gConstant {P:Expr->Prop} (x) {q} (h:qConstant x q) (k:∀ a b c,q a b c->P (.Constant a b c)):P x:=(of_dite h).elim fun i j=>@Expr.Constant.elim (fun x=>∀ i,@Expr.Constant.elim (fun _=>Bool) x i q->P x) x i (fun a b c _=>k a b c) i j
noncomputable def qBinOp (x:Expr) (q:Expr->Operator->Expr->Pos->Bool):Bool:=if h:x.ctorIdx=2 then @Expr.BinOp.elim (fun _=>Bool) x h q else false
@[elab_as_elim] theorem gBinOp {P:Expr->Prop} (x) {q} (h:qBinOp x q) (k:∀ a b c d,q a b c d->P (.BinOp a b c d)):P x:=(of_dite h).elim fun i j=>@Expr.BinOp.elim (fun x=>∀ i,@Expr.BinOp.elim (fun _=>Bool) x i q->P x) x i (fun a b c d _=>k a b c d) i j
noncomputable def qUnaryOp (x:Expr) (q:UnaryOp->Expr->Pos->Bool):Bool:=if h:x.ctorIdx=3 then @Expr.UnaryOp.elim (fun _=>Bool) x h q else false
@[elab_as_elim] theorem gUnaryOp {P:Expr->Prop} (x) {q} (h:qUnaryOp x q) (k:∀ a b c,q a b c->P (.UnaryOp a b c)):P x:=(of_dite h).elim fun i j=>@Expr.UnaryOp.elim (fun x=>∀ i,@Expr.UnaryOp.elim (fun _=>Bool) x i q->P x) x i (fun a b c _=>k a b c) i j
noncomputable def qCompare (x:Expr) (q:Expr->(List CmpOp)->(List Expr)->Pos->Bool):Bool:=if h:x.ctorIdx=15 then @Expr.Compare.elim (fun _=>Bool) x h q else false
@[elab_as_elim] theorem gCompare {P:Expr->Prop} (x) {q} (h:qCompare x q) (k:∀ a b c d,q a b c d->P (.Compare a b c d)):P x:=(of_dite h).elim fun i j=>@Expr.Compare.elim (fun x=>∀ i,@Expr.Compare.elim (fun _=>Bool) x i q->P x) x i (fun a b c d _=>k a b c d) i j
noncomputable def qBoolOp (x:Expr) (q:BoolOp->(List Expr)->Pos->Bool):Bool:=if h:x.ctorIdx=0 then @Expr.BoolOp.elim (fun _=>Bool) x h q else false
@[elab_as_elim] theorem gBoolOp {P:Expr->Prop} (x) {q} (h:qBoolOp x q) (k:∀ a b c,q a b c->P (.BoolOp a b c)):P x:=(of_dite h).elim fun i j=>@Expr.BoolOp.elim (fun x=>∀ i,@Expr.BoolOp.elim (fun _=>Bool) x i q->P x) x i (fun a b c _=>k a b c) i j
noncomputable def qIfExp (x:Expr) (q:Expr->Expr->Expr->Pos->Bool):Bool:=if h:x.ctorIdx=5 then @Expr.IfExp.elim (fun _=>Bool) x h q else false
@[elab_as_elim] theorem gIfExp {P:Expr->Prop} (x) {q} (h:qIfExp x q) (k:∀ a b c d,q a b c d->P (.IfExp a b c d)):P x:=(of_dite h).elim fun i j=>@Expr.IfExp.elim (fun x=>∀ i,@Expr.IfExp.elim (fun _=>Bool) x i q->P x) x i (fun a b c d _=>k a b c d) i j
noncomputable def qTuple (x:Expr) (q:(List Expr)->Nat->Pos->Bool):Bool:=if h:x.ctorIdx=25 then @Expr.Tuple.elim (fun _=>Bool) x h q else false
@[elab_as_elim] theorem gTuple {P:Expr->Prop} (x) {q} (h:qTuple x q) (k:∀ a b c,q a b c->P (.Tuple a b c)):P x:=(of_dite h).elim fun i j=>@Expr.Tuple.elim (fun x=>∀ i,@Expr.Tuple.elim (fun _=>Bool) x i q->P x) x i (fun a b c _=>k a b c) i j
noncomputable def qList (x:Expr) (q:(List Expr)->Pos->Bool):Bool:=if h:x.ctorIdx=24 then @Expr.List.elim (fun _=>Bool) x h q else false
@[elab_as_elim] theorem gList {P:Expr->Prop} (x) {q} (h:qList x q) (k:∀ a b,q a b->P (.List a b)):P x:=(of_dite h).elim fun i j=>@Expr.List.elim (fun x=>∀ i,@Expr.List.elim (fun _=>Bool) x i q->P x) x i (fun a b _=>k a b) i j
noncomputable def qSubscript (x:Expr) (q:Expr->Expr->Pos->Bool):Bool:=if h:x.ctorIdx=21 then @Expr.Subscript.elim (fun _=>Bool) x h q else false
@[elab_as_elim] theorem gSubscript {P:Expr->Prop} (x) {q} (h:qSubscript x q) (k:∀ a b c,q a b c->P (.Subscript a b c)):P x:=(of_dite h).elim fun i j=>@Expr.Subscript.elim (fun x=>∀ i,@Expr.Subscript.elim (fun _=>Bool) x i q->P x) x i (fun a b c _=>k a b c) i j
noncomputable def qSlice (x:Expr) (q:(Option Expr)->(Option Expr)->(Option Expr)->Pos->Bool):Bool:=if h:x.ctorIdx=26 then @Expr.Slice.elim (fun _=>Bool) x h q else false
@[elab_as_elim] theorem gSlice {P:Expr->Prop} (x) {q} (h:qSlice x q) (k:∀ a b c d,q a b c d->P (.Slice a b c d)):P x:=(of_dite h).elim fun i j=>@Expr.Slice.elim (fun x=>∀ i,@Expr.Slice.elim (fun _=>Bool) x i q->P x) x i (fun a b c d _=>k a b c d) i j
noncomputable def qCall (x:Expr) (q:Expr->(List Expr)->(List Keyword)->Pos->Bool):Bool:=if h:x.ctorIdx=16 then @Expr.Call.elim (fun _=>Bool) x h q else false
@[elab_as_elim] theorem gCall {P:Expr->Prop} (x) {q} (h:qCall x q) (k:∀ a b c d,q a b c d->P (.Call a b c d)):P x:=(of_dite h).elim fun i j=>@Expr.Call.elim (fun x=>∀ i,@Expr.Call.elim (fun _=>Bool) x i q->P x) x i (fun a b c d _=>k a b c d) i j
noncomputable def qAttribute (x:Expr) (q:Expr->Str->Pos->Bool):Bool:=if h:x.ctorIdx=20 then @Expr.Attribute.elim (fun _=>Bool) x h q else false
@[elab_as_elim] theorem gAttribute {P:Expr->Prop} (x) {q} (h:qAttribute x q) (k:∀ a b c,q a b c->P (.Attribute a b c)):P x:=(of_dite h).elim fun i j=>@Expr.Attribute.elim (fun x=>∀ i,@Expr.Attribute.elim (fun _=>Bool) x i q->P x) x i (fun a b c _=>k a b c) i j
noncomputable def qListComp (x:Expr) (q:Expr->(List Comprehension)->Scope->Pos->Bool):Bool:=if h:x.ctorIdx=8 then @Expr.ListComp.elim (fun _=>Bool) x h q else false
@[elab_as_elim] theorem gListComp {P:Expr->Prop} (x) {q} (h:qListComp x q) (k:∀ a b c d,q a b c d->P (.ListComp a b c d)):P x:=(of_dite h).elim fun i j=>@Expr.ListComp.elim (fun x=>∀ i,@Expr.ListComp.elim (fun _=>Bool) x i q->P x) x i (fun a b c d _=>k a b c d) i j
noncomputable def qMk (x:Comprehension) (q:Expr->Expr->(List Expr)->Int->Bool):Bool:=match x with | .mk a b c d=>q a b c d
@[elab_as_elim] theorem gMk {P:Comprehension->Prop} (x) {q} (h:qMk x q) (k:∀ a b c d,q a b c d->P (.mk a b c d)):P x:=by
 cases x with
 | mk a b c d=>exact k a b c d h
noncomputable def qInt (x:Const) (q:Int->Bool):Bool:=if h:x.ctorIdx=2 then @Const.int.elim (fun _=>Bool) x h q else false
@[elab_as_elim] theorem gInt {P:Const->Prop} (x) {q} (h:qInt x q) (k:∀ a,q a->P (.int a)):P x:=(of_dite h).elim fun i j=>@Const.int.elim (fun x=>∀ i,@Const.int.elim (fun _=>Bool) x i q->P x) x i (fun a _=>k a) i j
noncomputable def qBool (x:Const) (q:Bool->Bool):Bool:=if h:x.ctorIdx=1 then @Const.bool.elim (fun _=>Bool) x h q else false
@[elab_as_elim] theorem gBool {P:Const->Prop} (x) {q} (h:qBool x q) (k:∀ a,q a->P (.bool a)):P x:=(of_dite h).elim fun i j=>@Const.bool.elim (fun x=>∀ i,@Const.bool.elim (fun _=>Bool) x i q->P x) x i (fun a _=>k a) i j
noncomputable def qStr (x:Const) (q:Str->Bool):Bool:=if h:x.ctorIdx=5 then @Const.str.elim (fun _=>Bool) x h q else false
@[elab_as_elim] theorem gStr {P:Const->Prop} (x) {q} (h:qStr x q) (k:∀ a,q a->P (.str a)):P x:=(of_dite h).elim fun i j=>@Const.str.elim (fun x=>∀ i,@Const.str.elim (fun _=>Bool) x i q->P x) x i (fun a _=>k a) i j
noncomputable def qCnone (x:Const) (q:Bool):Bool:=if h:x.ctorIdx=0 then @Const.none.elim (fun _=>Bool) x h q else false
@[elab_as_elim] theorem gCnone {P:Const->Prop} (x) {q} (h:qCnone x q) (k:q->P .none):P x:=(of_dite h).elim fun i j=>@Const.none.elim (fun x=>∀ i,@Const.none.elim (fun _=>Bool) x i q->P x) x i (fun _=>k) i j
noncomputable def qUSub (x:UnaryOp) (q:Bool):Bool:=if h:x.ctorIdx=3 then @UnaryOp.USub.elim (fun _=>Bool) x h q else false
@[elab_as_elim] theorem gUSub {P:UnaryOp->Prop} (x) {q} (h:qUSub x q) (k:q->P .USub):P x:=(of_dite h).elim fun i j=>@UnaryOp.USub.elim (fun x=>∀ i,@UnaryOp.USub.elim (fun _=>Bool) x i q->P x) x i (fun _=>k) i j
noncomputable def qNot (x:UnaryOp) (q:Bool):Bool:=if h:x.ctorIdx=1 then @UnaryOp.Not.elim (fun _=>Bool) x h q else false
@[elab_as_elim] theorem gNot {P:UnaryOp->Prop} (x) {q} (h:qNot x q) (k:q->P .Not):P x:=(of_dite h).elim fun i j=>@UnaryOp.Not.elim (fun x=>∀ i,@UnaryOp.Not.elim (fun _=>Bool) x i q->P x) x i (fun _=>k) i j
noncomputable def qAnd (x:BoolOp) (q:Bool):Bool:=if h:x.ctorIdx=0 then @BoolOp.And.elim (fun _=>Bool) x h q else false
@[elab_as_elim] theorem gAnd {P:BoolOp->Prop} (x) {q} (h:qAnd x q) (k:q->P .And):P x:=(of_dite h).elim fun i j=>@BoolOp.And.elim (fun x=>∀ i,@BoolOp.And.elim (fun _=>Bool) x i q->P x) x i (fun _=>k) i j
noncomputable def qOr (x:BoolOp) (q:Bool):Bool:=if h:x.ctorIdx=1 then @BoolOp.Or.elim (fun _=>Bool) x h q else false
@[elab_as_elim] theorem gOr {P:BoolOp->Prop} (x) {q} (h:qOr x q) (k:q->P .Or):P x:=(of_dite h).elim fun i j=>@BoolOp.Or.elim (fun x=>∀ i,@BoolOp.Or.elim (fun _=>Bool) x i q->P x) x i (fun _=>k) i j
noncomputable def qNil {α:Type} (x:List α) (q:Bool):Bool:=if h:x.ctorIdx=0 then @List.nil.elim α (fun _=>Bool) x h q else false
@[elab_as_elim] theorem gNil {α:Type} {P:List α->Prop} (x) {q} (h:qNil x q) (k:q->P .nil):P x:=(of_dite h).elim fun i j=>@List.nil.elim α (fun x=>∀ i,@List.nil.elim α (fun _=>Bool) x i q->P x) x i (fun _=>k) i j
noncomputable def qCons {α:Type} (x:List α) (q:α->(List α)->Bool):Bool:=if h:x.ctorIdx=1 then @List.cons.elim α (fun _=>Bool) x h q else false
@[elab_as_elim] theorem gCons {α:Type} {P:List α->Prop} (x) {q} (h:qCons x q) (k:∀ a b,q a b->P (.cons a b)):P x:=(of_dite h).elim fun i j=>@List.cons.elim α (fun x=>∀ i,@List.cons.elim α (fun _=>Bool) x i q->P x) x i (fun a b _=>k a b) i j
noncomputable def qNone {α:Type} (x:Option α) (q:Bool):Bool:=if h:x.ctorIdx=0 then @Option.none.elim α (fun _=>Bool) x h q else false
@[elab_as_elim] theorem gNone {α:Type} {P:Option α->Prop} (x) {q} (h:qNone x q) (k:q->P .none):P x:=(of_dite h).elim fun i j=>@Option.none.elim α (fun x=>∀ i,@Option.none.elim α (fun _=>Bool) x i q->P x) x i (fun _=>k) i j
noncomputable def qSome {α:Type} (x:Option α) (q:α->Bool):Bool:=if h:x.ctorIdx=1 then @Option.some.elim α (fun _=>Bool) x h q else false
@[elab_as_elim] theorem gSome {α:Type} {P:Option α->Prop} (x) {q} (h:qSome x q) (k:∀ a,q a->P (.some a)):P x:=(of_dite h).elim fun i j=>@Option.some.elim α (fun x=>∀ i,@Option.some.elim α (fun _=>Bool) x i q->P x) x i (fun a _=>k a) i j
noncomputable def qAssign (x:Stmt) (q:(List Expr)->Expr->Pos->Bool):Bool:=if h:x.ctorIdx=5 then @Stmt.Assign.elim (fun _=>Bool) x h q else false
@[elab_as_elim] theorem gAssign {P:Stmt->Prop} (x) {q} (h:qAssign x q) (k:∀ a b c,q a b c->P (.Assign a b c)):P x:=(of_dite h).elim fun i j=>@Stmt.Assign.elim (fun x=>∀ i,@Stmt.Assign.elim (fun _=>Bool) x i q->P x) x i (fun a b c _=>k a b c) i j
noncomputable def qReturn (x:Stmt) (q:(Option Expr)->Pos->Bool):Bool:=if h:x.ctorIdx=3 then @Stmt.Return.elim (fun _=>Bool) x h q else false
@[elab_as_elim] theorem gReturn {P:Stmt->Prop} (x) {q} (h:qReturn x q) (k:∀ a b,q a b->P (.Return a b)):P x:=(of_dite h).elim fun i j=>@Stmt.Return.elim (fun x=>∀ i,@Stmt.Return.elim (fun _=>Bool) x i q->P x) x i (fun a b _=>k a b) i j
noncomputable def qFor (x:Stmt) (q:Expr->Expr->(List Stmt)->(List Stmt)->Pos->Bool):Bool:=if h:x.ctorIdx=9 then @Stmt.For.elim (fun _=>Bool) x h q else false
@[elab_as_elim] theorem gFor {P:Stmt->Prop} (x) {q} (h:qFor x q) (k:∀ a b c d e,q a b c d e->P (.For a b c d e)):P x:=(of_dite h).elim fun i j=>@Stmt.For.elim (fun x=>∀ i,@Stmt.For.elim (fun _=>Bool) x i q->P x) x i (fun a b c d e _=>k a b c d e) i j
noncomputable def qWhile (x:Stmt) (q:Expr->(List Stmt)->(List Stmt)->Pos->Bool):Bool:=if h:x.ctorIdx=11 then @Stmt.While.elim (fun _=>Bool) x h q else false
@[elab_as_elim] theorem gWhile {P:Stmt->Prop} (x) {q} (h:qWhile x q) (k:∀ a b c d,q a b c d->P (.While a b c d)):P x:=(of_dite h).elim fun i j=>@Stmt.While.elim (fun x=>∀ i,@Stmt.While.elim (fun _=>Bool) x i q->P x) x i (fun a b c d _=>k a b c d) i j
noncomputable def qIf (x:Stmt) (q:Expr->(List Stmt)->(List Stmt)->Pos->Bool):Bool:=if h:x.ctorIdx=12 then @Stmt.If.elim (fun _=>Bool) x h q else false
@[elab_as_elim] theorem gIf {P:Stmt->Prop} (x) {q} (h:qIf x q) (k:∀ a b c d,q a b c d->P (.If a b c d)):P x:=(of_dite h).elim fun i j=>@Stmt.If.elim (fun x=>∀ i,@Stmt.If.elim (fun _=>Bool) x i q->P x) x i (fun a b c d _=>k a b c d) i j
noncomputable def qRaise (x:Stmt) (q:(Option Expr)->(Option Expr)->Pos->Bool):Bool:=if h:x.ctorIdx=16 then @Stmt.Raise.elim (fun _=>Bool) x h q else false
@[elab_as_elim] theorem gRaise {P:Stmt->Prop} (x) {q} (h:qRaise x q) (k:∀ a b c,q a b c->P (.Raise a b c)):P x:=(of_dite h).elim fun i j=>@Stmt.Raise.elim (fun x=>∀ i,@Stmt.Raise.elim (fun _=>Bool) x i q->P x) x i (fun a b c _=>k a b c) i j
noncomputable def qExpr (x:Stmt) (q:Expr->Pos->Bool):Bool:=if h:x.ctorIdx=24 then @Stmt.Expr.elim (fun _=>Bool) x h q else false
@[elab_as_elim] theorem gExpr {P:Stmt->Prop} (x) {q} (h:qExpr x q) (k:∀ a b,q a b->P (.Expr a b)):P x:=(of_dite h).elim fun i j=>@Stmt.Expr.elim (fun x=>∀ i,@Stmt.Expr.elim (fun _=>Bool) x i q->P x) x i (fun a b _=>k a b) i j
section
variable {prog:Program} {w:World} {A:Around} {E:Value->Shared->Prop} {h:Heap} {g:Array GenState} {d:Drawn} {t:Nat} {os:OsState}
variable {nm q:Str} {C N:Addr} {bs bm bmB bmN:List Value} {hdct:Bool} {sn:List Str} {sub:List Value} {ab:Bool} {col:Option Bool} {dd:Option Addr} {k0 k1 k2 k3 k5:Option Value} {B Bn newId nid initId inN:String}
end
noncomputable def passB:List Value->Bool
 | .ref _::r=>passB r
 | l=>l==bmV
section
variable {prog:Program} {w:World} {A:Around} {E:Value->Shared->Prop} {K:Frag} {C x:Addr} {s:Shared} {R:Result->Shared->Prop} {cd:ClassData}
end
noncomputable def fldOf (n:Str):Str:=if n="NoText" then "part" else if n="NoLevel" then "number" else if n="NoCall" then "row" else "name"
noncomputable def initBody (f:Str) (b:List Stmt):Bool:=qCons b fun s1 r=>qExpr s1 fun c1 ep=>qCall c1 fun f1 xs kw cp=>qAttribute f1 fun o1 m ap=>qName o1 fun c p1=>qCons xs fun a1 ys=>qName a1 fun s p2=>qCons ys fun a2 zs=>qConstant a2 fun q j p3=>qStr q fun t=>qNil zs (qNil kw (qCons r fun s2 r2=>qNil r2 (qAssign s2 fun tg v ap3=>qCons tg fun t1 t2=>qNil t2 (qAttribute t1 fun o2 g ap2=>qName o2 fun n2 p4=>qName v fun x p5=>c == "CordError" && m == "__init__" && s == "self" && n2 == "self" && g==f&&x==f&&(ap.endLine==cp.line)))))
noncomputable def initScope (f:Str) (sc:Scope):Bool:=sc.kind==.function&&!sc.isCoroutine&&!sc.isGenerator&&(sc.names==[(("self":Str),NameKind.local),(f,.local),("CordError",.globalImplicit)])
noncomputable def initPar (f:Str) (p:Arguments):Bool:=p.posonlyargs.isEmpty&&(p.args.map (·.arg)==[("self":Str),f])&&p.vararg.isNone&&p.kwonlyargs.isEmpty&&p.kw_defaults.isEmpty&&p.kwarg.isNone
noncomputable def initFd (K:Frag) (f:Str) (fd:FuncData):Bool:=(match fd.body with | .stmts b=>initBody f b|_=>false)&&initScope f fd.scope&&initPar f fd.params&&fd.globals==mainGlobals&&fd.builtins==builtinsNs&&fd.closure.isEmpty&&codeIn K fd.code fd.qualname &&
 (match fd.defaults with | .ref T=>(match K.lookup T with|some ⟨_,_,.seq its _,_⟩=>its.size==1|_=>false)|_=>false)
noncomputable def initFn (K:Frag) (f:Str) (fI:Addr):Bool:=match K.lookup fI with
 | some ⟨.type "function",_,.func fd,_⟩=>initFd K f fd
 | _=>false
noncomputable def excInI (K:Frag) (C:Addr):Option Addr:=match K.lookup C with
 | some ⟨.type "type",_,.cls cd,sl⟩=>(match cd.mro,sl.toList with
  | .ref C'::bm,[_,_,_,_,some (.builtin n),_]=>if (C'==C&&n == "ValueError.__new__" && !cd.hasDel&&tailIn K bmV bm&&nsOkIn K cd.ns&&cd.hasDict&&passB cd.mro) then (match nsIn K cd.ns "__init__" with|some (some (.ref f))=>some f|_=>none) else none
  | _,_=>none)
 | _=>none
noncomputable def initOk (K:Frag) (n:Str) (D:Addr):Bool:=match clsAt K "CordError",excInI K D with
 | some B,some fI=>(findIn K (.ref D) "__setattr__" == some (some (.builtin "object.__setattr__")))&&(findIn K (.ref D) (fldOf n)==some none)&&readsIn K B (.type "type")
   && (match findCls K (.ref B) (.type "type") "__init__" with|some (.val v)=>v==.builtin "ValueError.__init__" | _=>false)&&(specialIn K (.ref B) "__getattribute__" == some (some (.builtin "type.__getattribute__")))&&keepIn K (.ref D)&&initFn K (fldOf n) fI
 | _,_=>false
noncomputable def iTabB (K:Frag):Bool:=xInit.all fun n=>match clsAt K n with
 | none=>true
 | some D=>initOk K n D
structure InitAt (K:Frag) (n:Str) (D B fI:Addr):Prop where
 ex:excInI K D=some fI
 b:clsAt K "CordError"=some B
 sa:findIn K (.ref D) "__setattr__"=some (some (.builtin "object.__setattr__"))
 nf:findIn K (.ref D) (fldOf n)=some none
 rd:readsIn K B (.type "type")=true
 fc:findCls K (.ref B) (.type "type") "__init__"=some (.val (.builtin "ValueError.__init__"))
 sp:specialIn K (.ref B) "__getattribute__"=some (some (.builtin "type.__getattribute__"))
 kp:keepIn K (.ref D)=true
 fn:initFn K (fldOf n) fI=true
theorem initAt_of {K:Frag} {n:Str} {D:Addr} (h:initOk K n D=true):∃ B fI,InitAt K n D B fI:=by
 unfold initOk at h;split at h
 next B fI e1 e2 =>
  simp only[Bool.and_eq_true,beq_iff_eq] at h;obtain⟨⟨⟨⟨⟨⟨h1,h2⟩,h3⟩,h4⟩,h5⟩,h6⟩,h7⟩:=h;split at h4
  next v e=>exact⟨B,fI,e2,e1,h1,h2,h3,by rw[e,beq_iff_eq.mp h4],h5,h6,h7⟩
  next=>cases h4
 next=>cases h
structure InitEnd (P:Program) (w:World) (outer:List Env) (H:Hp) (s:Shared) (e D:Addr) (f:Str) (v:V) (vs0:Array Value) (s':Shared):Prop where
 os:s'.os=s.os
 bare:AllBare s'.gens
 un:Un (frs outer) [e] H H s.heap s'.heap
 hok:HOk P w H s'.heap
 at_:∃ ob ws d u,s'.heap.get? e=some ob/\ob.cls=.ref D/\ob.dict=some d/\ob.data=.fields ws/\ws[1]?=some .none/\ws[2]?=some .none/\ws.size=vs0.size/\RelV v u/\s'.heap.Ns1 d (fun y=>if y=f then some u else none)/\s.heap.objs.size<=d/\H d=none
theorem InitEnd.on {P:Program} {w:World} {outer:List Env} {H:Hp} {s:Shared} {e D:Addr} {f:Str} {v:V} {vs0:Array Value} {s':Shared} (E:InitEnd P w outer H s e D f v vs0 s') {Z:Prop} (go:∀ ob ws d u,s'.heap.get? e=some ob->ob.cls=.ref D->ob.dict=some d->ob.data=.fields ws->ws[1]?=some .none->ws[2]?=some .none->ws.size=vs0.size->RelV v u->s'.heap.Ns1 d (fun y=>if y=f then some u else none)->s.heap.objs.size<=d->H d=none->Z):Z:=by
 obtain⟨ob,ws,d,u,a1,a2,a3,a4,a5,a6,a7,a8,a9,b1,b2⟩:=E.at_;exact go ob ws d u a1 a2 a3 a4 a5 a6 a7 a8 a9 b1 b2
noncomputable def IB (f:Str) (b:List Stmt):Prop:=∃ (p1 ap p2:Pos) (t:Str) (j:Nat) (p3 cp ep p4 ap2 p5 ap3:Pos),b=[.Expr (.Call (.Attribute (.Name "CordError" p1) "__init__" ap) [.Name "self" p2,.Constant (.str t) j p3] [] cp) ep,.Assign [.Attribute (.Name "self" p4) f ap2] (.Name f p5) ap3]/\(ap.endLine==cp.line)=true
noncomputable def nTabB (K:Frag):Bool:=xNames.all fun n=>match clsAt K n with
 | none=>true
 | some D=>kitOne K (.type "NoneType") (.ref D)==some false
noncomputable def xTabB (K:Frag):Bool:=xTab0 K&&oTabB K&&(iTabB K&&nTabB K)
theorem tab_and {K:Frag} (t:xTabB K=true):xTab0 K=true/\oTabB K=true/\iTabB K=true/\nTabB K=true:=by
 unfold xTabB at t;simp only[Bool.and_eq_true] at t;exact⟨t.1.1,t.1.2,t.2⟩
section
variable {K:Frag} {n c:Str} {C D:Addr}
theorem xTab_row (t:xTabB K=true) (hn:n∈xNames) (h:ClsOf K n D):ExcCls K D/\(xPlain.contains n=true->excIn K D bmV "ValueError.__new__"=true)/\(∀ T,(T="int"\/T="bool"\/T="str"\/T="tuple"\/T="list"\/T="dict"\/T="ValueError")->kitOne K (.ref D) (.type T)=some (T == "ValueError")) /\
  ∀ c C,c∈xNames->ClsOf K c C->exmOne K (.ref D) (.ref C)=some (isSub n c)/\kitOne K (.ref D) (.ref C)=some (isSub n c):=by
 have t:=(tab_and t).1;unfold xTab0 at t;have r:=List.all_eq_true.mp t n hn;rw[clsAt_of h] at r;simp only[Bool.and_eq_true,beq_iff_eq,Bool.or_eq_true,Bool.not_eq_true'] at r;obtain⟨⟨⟨⟨r1,r2⟩,r3⟩,r3b⟩,r4⟩:=r;unfold excClsB at r1;simp only[Bool.and_eq_true,beq_iff_eq] at r1;obtain⟨⟨⟨⟨⟨⟨⟨q1,q2⟩,q3⟩,q4⟩,q5⟩,q6⟩,q7⟩,q8⟩:=r1;refine⟨⟨q1,q2,q3,q4,q5,q6,q7,q8⟩,fun z=>?_,fun T hT=>?_,fun c C hc hC=>?_⟩
 ·rcases r2 with r2|r2
  ·rw[z] at r2;(first|cases (show _=_ from r2.inv)|cases r2)
  ·exact r2
 ·have rT:∀ T∈["int","bool","str","tuple","list","dict"],kitOne K (.ref D) (.type T)=some false:=fun T hT=>beq_iff_eq.mp (List.all_eq_true.mp r3b T hT)
  rcases hT with rfl|rfl|rfl|rfl|rfl|rfl|rfl
  all_goals first|exact r3|exact rT _ %[|4]
 ·have r:=List.all_eq_true.mp r4 c hc
  rw[clsAt_of hC] at r
  simpa only [Bool.and_eq_true,beq_iff_eq] using r
theorem nTab_row (t:xTabB K=true) (hn:n∈xNames) (h:ClsOf K n D):kitOne K (.type "NoneType") (.ref D)=some false:=by
 have t:=(tab_and t).2.2.2;unfold nTabB at t;have r:=List.all_eq_true.mp t n hn;rw[clsAt_of h] at r;exact beq_iff_eq.mp r
end
end DL
end
noncomputable section
namespace DL
open PySem PySem.Spec PyProof.Rows L2
inductive D where
 | non|bl (b:Bool)|int (i:Int)|str (x:Str)|ty (n:String)
 | tup (ds:List D)|fz (ds:List D)|lst (a:Addr)|dct (a:Addr)|ref (a:Addr)
 | exc (n:Str) (x:D)|cls (n:Str)
 | fn (n:Str)
 | sd (xs:List Str) (ds:List D)
 | fd (xs:List Str) (ds:List D)
 deriving Inhabited
inductive MO where
 | ls (ds:List D)
 | dk (kvs:List (Key×D))
 | ob (n:Str) (fs:List (Str×D))
abbrev Mem:=Addr->Option MO
abbrev DSt:=List (Option D)
abbrev DK:=D->Mem->Prop
noncomputable def Mem.upd (M:Mem) (a:Addr) (o:MO):Mem:=fun b=>if b=a then some o else M b
theorem mupd_same {M:Mem} {a:Addr} {o:MO}:M.upd a o a=some o:=if_pos rfl
theorem mupd_ne {M:Mem} {a b:Addr} {o:MO} (h:b≠a):M.upd a o b=M b:=if_neg h
noncomputable def MExt (M M':Mem):Prop:=∀ a o,M a=some o->M' a=some o
theorem MExt.refl (M:Mem):MExt M M:=fun _ _ h=>h
theorem MExt.trans {M M1 M2:Mem} (a:MExt M M1) (b:MExt M1 M2):MExt M M2:=fun c o h=>b c o (a c o h)
theorem MExt.new {M:Mem} {p:Addr} {o:MO} (h:M p=none):MExt M (M.upd p o):=fun a u e=>by
 have:a≠p:=fun z=>by rw[z,h] at e;cases e
 rw[mupd_ne this];exact e
noncomputable def alloc (M:Mem) (o:MO) (Q:Addr->Mem->Prop):Prop:=∀ p M',M p=none->MExt M M'->M' p=some o->Q p M'
theorem alloc.at (h:alloc M o Q) (hp:M p=none):Q p (M.upd p o):=h p _ hp (.new hp) mupd_same
noncomputable def SqF (K:Frag) (H:Hp) (a:Addr) (xs:List V):Prop :=
 (∃ o,H a=some (.frz o (.lst xs))) \/
  ∃ (o:Obj) (its:Array Value) (n:Nat),K.lookup a=some o/\o.cls=.type "list"/\o.dict=none/\o.data=.seq its n/\its.size<=sizeLine/\Vals xs its.toList
theorem SqF.sq {K:Frag} {H:Hp} {a:Addr} {xs:List V} (h:SqF K H a xs):SqL K H a xs:=by
 rcases h with ⟨o,h⟩|h
 ·exact .inl (.inr ⟨o,h⟩)
 ·exact .inr h
inductive EntK:List DictEntry->List Str->List Value->Prop
 | nil:EntK [] [] []
 | cons {e:DictEntry} {x:Str} {t:Tok} {es:List DictEntry} {xs:List Str} {us:List Value} (k:e.key=.str x t) (r:EntK es xs us):EntK (e::es) (x::xs) (e.val::us)
noncomputable def TabK (K:Frag) (a:Addr) (xs:List Str) (vs:List V):Prop :=
 (a==sysModules)=false/\∃ (o:Obj) (es:Array DictEntry) (ep:Nat) (us:List Value),K.lookup a=some o/\o.ExactDict/\o.data=.dict es ep/\EntK es.toList xs us/\Vals vs us
noncomputable def fdK (xs:List Str) (vs:List V):List (Key×V):=(xs.zip vs).map fun p=>(Sum.inr p.1,p.2)
noncomputable def FdK (H:Hp) (a:Addr) (xs:List Str) (vs:List V):Prop:=xs.length=vs.length/\∃ o,H a=some (.frz o (.dK (fdK xs vs)))
noncomputable def ExcAt (a C:Addr) (dd:Option Addr) (h:Heap):Prop:=∃ ob vs,h.get? a=some ob/\ob.cls=.ref C/\ob.dict=dd/\ob.data=.fields vs
noncomputable def FldAt (d:Addr) (f:Str) (v:V) (h:Heap):Prop:=∃ u,RelV v u/\h.Ns1 d (fun y=>if y=f then some u else none)
mutual
inductive RelD (K:Frag) (H:Hp):V->D->Prop
 | non:RelD K H .non .non
 | bl (b:Bool):RelD K H (.bl b) (.bl b)
 | int (i:Int):RelD K H (.int i) (.int i)
 | str (x:Str):RelD K H (.str x) (.str x)
 | ty (n:String):RelD K H (.ty n) (.ty n)
 | tup {a:Addr} {vs:List V} {ds:List D} (h:SqT K H a vs) (r:RelDs K H vs ds):RelD K H (.ref a) (.tup ds)
 | fz {a:Addr} {vs:List V} {ds:List D} (h:SqF K H a vs) (r:RelDs K H vs ds):RelD K H (.ref a) (.fz ds)
 | lst (a:Addr):RelD K H (.ref a) (.lst a)
 | dct (a:Addr):RelD K H (.ref a) (.dct a)
 | ref (a:Addr):RelD K H (.ref a) (.ref a)
 | cls {C:Addr} {n:Str} (hn:n∈xNames) (hc:ClsOf K n C):RelD K H (.ref C) (.cls n)
 | fn {C:Addr} {n:Str} (hc:ClsOf K n C):RelD K H (.ref C) (.fn n)
 | sd {a:Addr} {xs:List Str} {vs:List V} {ds:List D} (h:TabK K a xs vs) (r:RelDs K H vs ds):RelD K H (.ref a) (.sd xs ds)
 | fd {a:Addr} {xs:List Str} {vs:List V} {ds:List D} (h:FdK H a xs vs) (r:RelDs K H vs ds):RelD K H (.ref a) (.fd xs ds)
 | exc {a C:Addr} {n:Str} (hn:n∈xNames) (hi:n ∉ xInit) (hc:ClsOf K n C) (h:H a=some (.ext (ExcAt a C none))):RelD K H (.ref a) (.exc n .non)
 | excF {a C d:Addr} {n:Str} {v:V} {x:D} (hn:n∈xNames) (hi:n∈xInit) (hc:ClsOf K n C) (h:H a=some (.ext (ExcAt a C (some d)))) (hd:H d=some (.ext (FldAt d (fldOf n) v))) (r:RelD K H v x):RelD K H (.ref a) (.exc n x)
inductive RelDs (K:Frag) (H:Hp):List V->List D->Prop
 | nil:RelDs K H [] []
 | cons {v:V} {d:D} {vs:List V} {ds:List D} (h:RelD K H v d) (r:RelDs K H vs ds):RelDs K H (v::vs) (d::ds)
end
structure HExt (K:Frag) (H H':Hp):Prop where
 tup:∀ a vs,SqT K H a vs->SqT K H' a vs
 fz:∀ a vs,SqF K H a vs->SqF K H' a vs
 ex:∀ a φ,H a=some (.ext φ)->H' a=some (.ext φ)
 fd:∀ a o kws,H a=some (.frz o (.dK kws))->H' a=some (.frz o (.dK kws))
theorem HExt.refl {K:Frag} (H:Hp):HExt K H H:=⟨fun _ _ h=>h,fun _ _ h=>h,fun _ _ h=>h,fun _ _ _ h=>h⟩
theorem HExt.trans {K:Frag} {H H1 H2:Hp} (a:HExt K H H1) (b:HExt K H1 H2):HExt K H H2:=⟨fun p vs h=>b.tup p vs (a.tup p vs h),fun p vs h=>b.fz p vs (a.fz p vs h),fun p C h=>b.ex p C (a.ex p C h),fun p o kws h=>b.fd p o kws (a.fd p o kws h)⟩
noncomputable def MutL:HO->Prop
 | .lst _=>True
 | .dK _=>True
 | .ins _ _ _=>True
 | _=>False
theorem HExt.upd {K:Frag} {H:Hp} {p:Addr} {o:HO} (h:H p=none\/∃ u,H p=some u/\MutL u):HExt K H (L2.upd H p o):=by
 refine⟨fun a vs q=>?_,fun a vs q=>?_,fun a C q=>?_,fun a ob kws q=>?_⟩
 ·rcases q with (q|⟨ob,q⟩)|q
  ·refine .inl (.inl ?_)
   rw[upd_ne];exact q;rintro rfl;rcases h with h|⟨u,h,m⟩
   ·rw[h] at q;cases q
   ·rw[h] at q;cases q;exact m
  ·refine .inl (.inr ⟨ob,?_⟩)
   rw[upd_ne];exact q;rintro rfl;rcases h with h|⟨u,h,m⟩
   ·rw[h] at q;cases q
   ·rw[h] at q;cases q;exact m
  ·exact .inr q
 ·rcases q with ⟨ob,q⟩|q
  ·refine .inl ⟨ob,?_⟩
   rw[upd_ne];exact q;rintro rfl;rcases h with h|⟨u,h,m⟩
   ·rw[h] at q;cases q
   ·rw[h] at q;cases q;exact m
  ·exact .inr q
 ·rw[upd_ne];exact q
  rintro rfl;rcases h with h|⟨u,h,m⟩
  ·rw[h] at q;cases q
  ·rw[h] at q;cases q;exact m
 ·rw[upd_ne];exact q
  rintro rfl;rcases h with h|⟨u,h,m⟩
  ·rw[h] at q;cases q
  ·rw[h] at q;cases q;exact m
theorem RelDs.ext {K:Frag} {H H':Hp} (x:HExt K H H') {vs:List V} {ds:List D} (h:RelDs K H vs ds):RelDs K H' vs ds:=by
 induction h using RelDs.rec (motive_1:=fun v d _=>RelD K H' v d) with
 | non=>exact .non
 | bl b=>exact .bl b
 | int i=>exact .int i
 | str y=>exact .str y
 | ty n=>exact .ty n
 | tup h r ih=>exact .tup (x.tup _ _ h) ih
 | fz h r ih=>exact .fz (x.fz _ _ h) ih
 | lst a=>exact .lst a
 | dct a=>exact .dct a
 | ref a=>exact .ref a
 | cls hn h=>exact .cls hn h
 | fn h=>exact .fn h
 | sd h r ih=>exact .sd h ih
 | fd h r ih=>exact .fd ⟨h.1,h.2.elim fun o e=>⟨o,x.fd _ _ _ e⟩⟩ ih
 | exc hn hi hc h=>exact .exc hn hi hc (x.ex _ _ h)
 | excF hn hi hc h hd r ih=>exact .excF hn hi hc (x.ex _ _ h) (x.ex _ _ hd) ih
 | nil=>exact .nil
 | cons h r i1 i2=>exact .cons i1 i2
theorem RelD.ext {K:Frag} {H H':Hp} (x:HExt K H H') {v:V} {d:D} (h:RelD K H v d):RelD K H' v d:=by
 cases RelDs.ext x (.cons h .nil) with
 | cons h _=>exact h
inductive ExD (K:Frag) (H:Hp) (n:Str):Option Addr->D->Prop
 | plain (hi:n ∉ xInit):ExD K H n none .non
 | fld {d:Addr} {v:V} {x:D} (hi:n∈xInit) (hd:H d=some (.ext (FldAt d (fldOf n) v))) (r:RelD K H v x):ExD K H n (some d) x
noncomputable def xarg:D->D
 | .exc _ x=>x
 | d=>d
@[simp] theorem xarg_exc (n:Str) (x:D):xarg (.exc n x)=x:=rfl
section
variable {K:Frag} {H:Hp}
noncomputable def InvD (K:Frag) (H:Hp) (v:V):D->Prop
 | .non=>v=.non
 | .bl b=>v=.bl b
 | .int i=>v=.int i
 | .str x=>v=.str x
 | .ty n=>v=.ty n
 | .tup ds=>∃ a vs,v=.ref a/\SqT K H a vs/\RelDs K H vs ds
 | .fz ds=>∃ a vs,v=.ref a/\SqF K H a vs/\RelDs K H vs ds
 | .lst a=>v=.ref a
 | .dct a=>v=.ref a
 | .ref a=>v=.ref a
 | .cls n=>∃ C,v=.ref C/\n∈xNames/\ClsOf K n C
 | .fn n=>∃ C,v=.ref C/\ClsOf K n C
 | _=>True
theorem RelD.inv {K:Frag} {H:Hp} {v:V} {d:D} (r:RelD K H v d):InvD K H v d:=by
 cases r with
 | tup h r=>exact⟨_,_,rfl,h,r⟩
 | fz h r=>exact⟨_,_,rfl,h,r⟩
 | cls hn hc=>exact⟨_,rfl,hn,hc⟩
 | fn hc=>exact⟨_,rfl,hc⟩
 | _=>first|rfl|trivial
noncomputable def InvDs (K:Frag) (H:Hp) (vs:List V):List D->Prop
 | []=>vs=[]
 | d::ds=>∃ v us,vs=v::us/\RelD K H v d/\RelDs K H us ds
theorem RelDs.inv {K:Frag} {H:Hp} {vs:List V} {ds:List D} (r:RelDs K H vs ds):InvDs K H vs ds:=by
 cases r with
 | nil=>rfl
 | cons h r=>exact⟨_,_,rfl,h,r⟩
theorem RelDs.inv1 {K:Frag} {H:Hp} {vs:List V} {d:D} (r:RelDs K H vs [d]) {P:Prop} (go:∀ v,vs=[v]->RelD K H v d->P):P:=by
 obtain⟨v,us,rfl,h,r⟩:=r.inv;obtain rfl:=r.inv;exact go v rfl h
theorem RelDs.inv2 {K:Frag} {H:Hp} {vs:List V} {d e:D} (r:RelDs K H vs [d,e]) {P:Prop} (go:∀ v w,vs=[v,w]->RelD K H v d->RelD K H w e->P):P:=by
 obtain⟨v,us,rfl,h,r⟩:=r.inv;exact r.inv1 fun w e h'=>go v w (by rw[e]) h h'
theorem vals_inv1 {v:V} {us:List Value} (r:Vals [v] us) {P:Prop} (go:∀ u,us=[u]->RelV v u->P):P:=by
 cases r with
 | cons h r=>cases r;exact go _ rfl h
theorem vals_inv2 {v w:V} {us:List Value} (r:Vals [v,w] us) {P:Prop} (go:∀ u x,us=[u,x]->RelV v u->RelV w x->P):P:=by
 cases r with
 | cons h r=>exact vals_inv1 r fun x e h'=>go _ x (by rw[e]) h h'
theorem RelDs.length:∀ {vs:List V} {ds:List D},RelDs K H vs ds->vs.length=ds.length
 | _,_,.nil=>rfl
 | _,_,.cons _ r=>congrArg (·+1) (RelDs.length r)
theorem RelDs.append:∀ {vs ws:List V} {ds es:List D},RelDs K H vs ds->RelDs K H ws es->RelDs K H (vs++ws) (ds++es)
 | _,_,_,_,.nil,q=>q
 | _,_,_,_,.cons h r,q=>.cons h (RelDs.append r q)
theorem RelDs.drop:∀ {vs:List V} {ds:List D} (n:Nat),RelDs K H vs ds->RelDs K H (vs.drop n) (ds.drop n)
 | _,_,0,r=>r
 | _,_,_+1,.nil=>.nil
 | _,_,n+1,.cons _ r=>RelDs.drop n r
theorem RelDs.take:∀ {vs:List V} {ds:List D} (n:Nat),RelDs K H vs ds->RelDs K H (vs.take n) (ds.take n)
 | _,_,0,_=>.nil
 | _,_,_+1,.nil=>.nil
 | _,_,n+1,.cons h r=>.cons h (RelDs.take n r)
theorem RelDs.get:∀ {vs:List V} {ds:List D} {i:Nat} {d:D},RelDs K H vs ds->ds[i]?=some d->∃ v,vs[i]?=some v/\RelD K H v d
 | _,_,_,_,.nil,e=>by simp at e
 | _,_,0,_,.cons h _,e=>by simp at e;subst e;exact⟨_,rfl,h⟩
 | _,_,i+1,d,.cons _ r,e=>by
  obtain⟨v,h1,h2⟩:=RelDs.get (i:=i) (d:=d) r (by simpa using e);exact⟨v,by simpa using h1,h2⟩
theorem RelDs.set (h:RelD K H v d):∀ {vs:List V} {ds:List D} (i:Nat),RelDs K H vs ds->RelDs K H (vs.set i v) (ds.set i d)
 | _,_,_,.nil=>.nil
 | _,_,0,.cons _ r=>.cons h r
 | _,_,i+1,.cons q r=>.cons q (RelDs.set h i r)
theorem RelDs.ints:∀ (ns:List Int),RelDs K H (ns.map V.int) (ns.map D.int)
 | []=>.nil
 | n::r=>.cons (.int n) (RelDs.ints r)
end
noncomputable def MOk (K:Frag) (H:Hp) (a:Addr):MO->Prop
 | .ls ds=>∃ vs,H a=some (.lst vs)/\RelDs K H vs ds
 | .dk kvs=>∃ kws:List (Key×V),H a=some (.dK kws)/\kws.map (·.1)=kvs.map (·.1)/\RelDs K H (kws.map (·.2)) (kvs.map (·.2))
 | .ob n fs=>∃ (C dx:Addr) (vs:List (Str×V)),ClsOf K n C/\H a=some (.ins C dx vs)/\vs.map (·.1)=fs.map (·.1)/\RelDs K H (vs.map (·.2)) (fs.map (·.2))
noncomputable def RepM (K:Frag) (H:Hp) (M:Mem):Prop:=∀ a o,M a=some o->MOk K H a o
structure LK where
 K:Frag
 ok:Hp->Prop
 mono:∀ H H',HExt K H H'->ok H->ok H'
structure Slots (K:Frag) (H:Hp) (δ:DSt) (σ:L2.St):Prop where
 len:δ.length=σ.length
 slot:∀ (i:Nat) (d:D),δ[i]?=some (some d)->∃ v,σ[i]?=some (some v)/\RelD K H v d
structure RepS (Λ:LK) (H:Hp) (δ:DSt) (σ:L2.St):Prop extends Slots Λ.K H δ σ where
 ok:Λ.ok H
section
variable {K:Frag} {Λ:LK} {H H':Hp} {M:Mem} {δ:DSt} {σ:L2.St}
theorem Slots.ext (x:HExt K H H') (r:Slots K H δ σ):Slots K H' δ σ:=⟨r.len,fun i d e=>let ⟨v,h,q⟩:=r.slot i d e;⟨v,h,q.ext x⟩⟩
theorem RepS.ext (x:HExt Λ.K H H') (r:RepS Λ H δ σ):RepS Λ H' δ σ:=⟨r.toSlots.ext x,Λ.mono _ _ x r.ok⟩
theorem Slots.set (r:Slots K H δ σ) (h:RelD K H v d) (i:Nat):Slots K H (δ.set i (some d)) (σ.set i (some v)):=by
 refine⟨by simp[r.len],fun j e q=>?_⟩;by_cases hj:j=i
 ·subst hj
  by_cases hl:j < δ.length
  ·rw[List.getElem?_set_self hl] at q;cases q
   exact⟨v,List.getElem?_set_self (by rw[<- r.len];exact hl),h⟩
  ·rw[List.getElem?_eq_none (by simp;omega)] at q;cases q
 ·rw[List.getElem?_set_ne (Ne.symm hj)] at q
  obtain⟨u,h1,h2⟩:=r.slot j e q;exact⟨u,by rw[List.getElem?_set_ne (Ne.symm hj)];exact h1,h2⟩
theorem RepS.set (r:RepS Λ H δ σ) (h:RelD Λ.K H v d) (i:Nat):RepS Λ H (δ.set i (some d)) (σ.set i (some v)):=⟨r.toSlots.set h i,r.ok⟩
theorem MOk.fresh (r:MOk K H a o):H a≠none:=by
 cases o with
 | ls ds=>obtain⟨vs,h,_⟩:=r;rw[h];simp
 | dk kvs=>obtain⟨vs,h,_⟩:=r;rw[h];simp
 | ob n fs=>obtain⟨C,dx,vs,_,h,_⟩:=r;rw[h];simp
theorem RepM.none (r:RepM K H M) (h:H p=.none):M p=.none:=by
 cases q:M p with
 | none=>rfl
 | some o=>exact absurd h (r p o q).fresh
theorem MOk.ext (x:HExt K H (upd H p u)) (h:a≠p) (r:MOk K H a o):MOk K (upd H p u) a o:=by
 cases o with
 | ls ds=>obtain⟨vs,e,q⟩:=r;exact⟨vs,by rw[upd_ne h];exact e,q.ext x⟩
 | dk kvs=>obtain⟨vs,e,k,q⟩:=r;exact⟨vs,by rw[upd_ne h];exact e,k,q.ext x⟩
 | ob n fs=>obtain⟨C,dx,vs,c,e,k,q⟩:=r;exact⟨C,dx,vs,c,by rw[upd_ne h];exact e,k,q.ext x⟩
theorem RepM.tup {p:Addr} {vs:List V} (r:RepM K H M) (h:H p=.none):RepM K (upd H p (.tup vs)) M:=fun a o e =>
 (r a o e).ext (.upd (.inl h)) fun z=>by subst z;rw[r.none h] at e;cases e
theorem RepM.lst {p:Addr} {vs:List V} {ds:List D} (r:RepM K H M) (h:H p=.none) (q:RelDs K H vs ds):RepM K (upd H p (.lst vs)) (M.upd p (.ls ds)):=fun a o e=>by
 by_cases z:a=p
 ·subst z;rw[mupd_same] at e;cases e;exact⟨vs,upd_same,q.ext (.upd (.inl h))⟩
 ·rw[mupd_ne z] at e;exact (r a o e).ext (.upd (.inl h)) z
theorem RepM.write {p:Addr} {ws vs:List V} {ds:List D} (r:RepM K H M) (h:H p=some (.lst ws)) (q:RelDs K H vs ds):RepM K (upd H p (.lst vs)) (M.upd p (.ls ds)):=fun a o e=>by
 have x:HExt K H (upd H p (.lst vs)):=.upd (.inr ⟨_,h,trivial⟩);by_cases z:a=p
 ·subst z;rw[mupd_same] at e;cases e;exact⟨vs,upd_same,q.ext x⟩
 ·rw[mupd_ne z] at e;exact (r a o e).ext x z
theorem RepM.nil:RepM K H (fun _=>Option.none):=fun _ _ e=>by cases e
end
abbrev DE:=DSt->Mem->DK->Prop
abbrev DT:=DSt->Mem->(Bool->Mem->Prop)->Prop
abbrev DA:=DSt->Mem->(List D->Mem->Prop)->Prop
structure DEnds where
 nx:DSt->Mem->Prop
 rt:DK
 bk:DSt->Mem->Prop:=fun _ _=>False
 ct:DSt->Mem->Prop:=fun _ _=>False
 ex:DSt->DK:=fun _ _ _=>False
abbrev DS:=DEnds->DSt->Mem->Prop
abbrev DSp:=List D->Mem->DK->DK->Prop
noncomputable def NoneFld (H:Hp) (dd:Option Addr):Prop:=dd=none\/∃ d f,dd=some d/\H d=some (.ext (FldAt d f .non))
structure Thrown (P:Program) (w:World) (outer:List Env) (H:Hp) (s:Shared) (H':Hp) (e C:Addr) (dd:Option Addr) (s':Shared):Prop where
 ex:∃ B,s'.os=s.os/\AllBare s'.gens/\Un (frs outer) [] H H' s.heap s'.heap/\(∀ b o,s.heap.get? b=some o->H b=none->b ∉ frs outer->B.get? b=some o)/\HOk P w H' B/\Flies B outer e (.ref C) dd .none s'.heap
 cl:NoneFld H' dd->Clean s'.heap e
structure Back (P:Program) (w:World) (outer:List Env) (L:Addr) (H:Hp) (s:Shared) (H':Hp) (e C:Addr) (dd:Option Addr) (s':Shared):Prop where
 ex:∃ B,s'.os=s.os/\AllBare s'.gens/\Un (frs outer) [] H H' s.heap s'.heap/\(∀ b o,s.heap.get? b=some o->H b=none->b ∉ frs outer->B.get? b=some o)/\HOk P w H' B/\Flies B outer e (.ref C) dd (rawInt L) s'.heap
 cl:NoneFld H' dd->Clean s'.heap e
noncomputable def CXR (P:Program) (w:World):CXT:=fun outer H s E ev s'=>∃ e C dd H',ev=.ref e/\Thrown P w outer H s H' e C dd s'/\E (.ref C) dd H'
structure XeOk (X:Cx) (rz:Bool) (E:DSt->DK) (H:Hp):Prop where
 fly:∀ pins σ H1 s1 H' e C dd s' δ M' n x,HExt X.K H H'->L2.Inv X pins σ H1 s1->Thrown X.prog X.w X.stack H1 s1 H' e C dd s'->RepM X.K H' M'->Slots X.K H' δ σ->n∈xNames->ClsOf X.K n C->ExD X.K H' n dd x->E δ (.exc n x) M'->X.xe (.ref e) s'
 made:rz=true->∀ pins σ H' h e C dd s' δ M' n x,HExt X.K H H'->L2.Inv X pins σ H' {s' with heap:=h}->Made h s'.heap e (.ref C) dd->(NoneFld H' dd->Clean s'.heap e)->RepM X.K H' M'->Slots X.K H' δ σ->n∈xNames->ClsOf X.K n C->ExD X.K H' n dd x->E δ (.exc n x) M'->X.xe (.ref e) s'
 back:rz=true->∀ pins σ H1 s1 H' e C dd s' δ M' n x,HExt X.K H H'->L2.Inv X pins σ H1 s1->Back X.prog X.w X.stack X.env.locals H1 s1 H' e C dd s'->RepM X.K H' M'->Slots X.K H' δ σ->n∈xNames->ClsOf X.K n C->ExD X.K H' n dd x->E δ (.exc n x) M'->X.xe (.ref e) s'
noncomputable def _root_.L2.Cx.L (X:Cx) (rz:Bool) (E:DSt->DK):LK where
 K:=X.K
 ok:=XeOk X rz E
 mono:=fun H H' x h=>⟨fun pins σ H1 s1 H2 e C dd s' δ M' n xd y=>h.fly pins σ H1 s1 H2 e C dd s' δ M' n xd (x.trans y),fun r pins σ H2 h0 e C dd s' δ M' n xd y=>h.made r pins σ H2 h0 e C dd s' δ M' n xd (x.trans y),fun r pins σ H1 s1 H2 e C dd s' δ M' n xd y=>h.back r pins σ H1 s1 H2 e C dd s' δ M' n xd (x.trans y)⟩
abbrev X0:DSt->DK:=fun _ _ _=>False
theorem xeOk0:XeOk X rz X0 H:=⟨fun _ _ _ _ _ _ _ _ _ _ _ _ _ _ _ _ _ _ _ _ _ z=>z.elim,fun _ _ _ _ _ _ _ _ _ _ _ _ _ _ _ _ _ _ _ _ _ _ z=>z.elim,fun _ _ _ _ _ _ _ _ _ _ _ _ _ _ _ _ _ _ _ _ _ _ z=>z.elim⟩
section
variable (Λ:LK) (K:Frag)
noncomputable def lift (t:DE):TE:=fun σ H Q=>∃ δ M R,RepS Λ H δ σ/\RepM Λ.K H M/\t δ M R/\∀ d M' v H',HExt Λ.K H H'->RepM Λ.K H' M'->RelD Λ.K H' v d->R d M'->Q v H'
noncomputable def liftT (t:DT):TT:=fun σ H Q=>∃ δ M R,RepS Λ H δ σ/\RepM Λ.K H M/\t δ M R/\∀ b M' H',HExt Λ.K H H'->RepM Λ.K H' M'->R b M'->Q b H'
noncomputable def liftA (t:DA):TA:=fun σ H Q=>∃ δ M R,RepS Λ H δ σ/\RepM Λ.K H M/\t δ M R/\∀ ds M' vs H',HExt Λ.K H H'->RepM Λ.K H' M'->RelDs Λ.K H' vs ds->R ds M'->Q vs H'
noncomputable def liftS (X:Cx) (rz:Bool) (t:DS):TS:=fun E σ H=>∃ δ M D,RepS (X.L rz D.ex) H δ σ/\RepM X.K H M/\t D δ M /\
 (∀ δ' M' σ' H',HExt X.K H H'->RepS (X.L rz D.ex) H' δ' σ'->RepM X.K H' M'->D.nx δ' M'->E.nx σ' H') /\
 (∀ d M' v H',HExt X.K H H'->RepM X.K H' M'->RelD X.K H' v d->D.rt d M'->E.rt v H') /\
 (∀ δ' M' σ' H',HExt X.K H H'->RepS (X.L rz D.ex) H' δ' σ'->RepM X.K H' M'->D.bk δ' M'->E.bk σ' H') /\
 (∀ δ' M' σ' H',HExt X.K H H'->RepS (X.L rz D.ex) H' δ' σ'->RepM X.K H' M'->D.ct δ' M'->E.ct σ' H')
noncomputable def lift2 (f:D->D->Mem->DK->Prop):R2:=fun x y H Q=>∃ d e M R,RelD K H x d/\RelD K H y e/\RepM K H M/\f d e M R/\∀ d' M' v H',HExt K H H'->RepM K H' M'->RelD K H' v d'->R d' M'->Q v H'
noncomputable def liftC (f:List D->Mem->DK->Prop):List V->Hp->VK->Prop:=fun xs H Q=>∃ ds M R,RelDs K H xs ds/\RepM K H M/\f ds M R/\∀ d' M' v H',HExt K H H'->RepM K H' M'->RelD K H' v d'->R d' M'->Q v H'
noncomputable def liftSp (S:DSp):Sp:=fun xs H Q E=>∃ ds M R Ed,RelDs K H xs ds/\RepM K H M/\S ds M R Ed/\(∀ d' M' v H',HExt K H H'->RepM K H' M'->RelD K H' v d'->R d' M'->Q v H') /\
 ∀ n M' H' C dd x,HExt K H H'->RepM K H' M'->n∈xNames->ClsOf K n C->ExD K H' n dd x->Ed (.exc n x) M'->E (.ref C) dd H'
end
theorem _root_.L2.PE.imp (h:PE X e t) (i:∀ σ H Q,t' σ H Q->t σ H Q):PE X e t':=fun pins s σ H Q I q=>h pins s σ H Q I (i _ _ _ q)
theorem _root_.L2.PT.imp (h:PT X e t) (i:∀ σ H Q,t' σ H Q->t σ H Q):PT X e t':=fun pins s σ H Q I q=>h pins s σ H Q I (i _ _ _ q)
theorem _root_.L2.PA.imp (h:PA X e t) (i:∀ σ H Q,t' σ H Q->t σ H Q):PA X e t':=fun pos pins s σ H Q I q=>h pos pins s σ H Q I (i _ _ _ q)
theorem _root_.L2.PSs.imp (h:PSs X e t) (i:∀ D σ H,t' D σ H->t D σ H):PSs X e t':=fun pins s σ H D I q=>h pins s σ H D I (i _ _ _ q)
theorem _root_.L2.OpR.imp (h:OpR X f r) (i:∀ x y H Q,r' x y H Q->r x y H Q):OpR X f r':=fun pins s σ H x y v u Q I a b q=>h pins s σ H x y v u Q I a b (i _ _ _ _ q)
theorem _root_.L2.CallR.imp (h:CallR X f r) (i:∀ x H Q,r' x H Q->r x H Q):CallR X f r':=fun pins s σ H x u Q I a q=>h pins s σ H x u Q I a (i _ _ _ q)
noncomputable def vHd:Option D->(D->Prop)->Prop
 | some d,P=>P d
 | none,_=>False
noncomputable def vAt:DSt->Nat->(D->Prop)->Prop
 | x::_,0,P=>vHd x P
 | _::r,i+1,P=>vAt r i P
 | [],_,_=>False
theorem vAt_ex:∀ {δ:DSt} {i:Nat} {P:D->Prop},vAt δ i P->∃ d,δ[i]?=some (some d)/\P d
 | some d::_,0,_,h=>⟨d,rfl,h⟩
 | _::r,i+1,_,h=>vAt_ex (δ:=r) h
theorem vAt_of:∀ {δ:DSt} {i:Nat} {P:D->Prop} {d:D},δ[i]?=some (some d)->P d->vAt δ i P
 | some d::_,0,_,_,e,h=>by cases e;exact h
 | none::_,0,_,_,e,_=>by cases e
 | _::r,i+1,P,_,e,h=>show vAt r i P from vAt_of (by simpa using e) h
noncomputable def dVar (i:Nat):DE:=fun δ M Q=>vAt δ i fun d=>Q d M
noncomputable def dC (d:D):DE:=fun _ M Q=>Q d M
noncomputable def d2 (f:D->D->Mem->DK->Prop) (ta tb:DE):DE:=fun δ M Q=>ta δ M fun x M1=>tb δ M1 fun y M2=>f x y M2 Q
noncomputable def d1 (f:D->Mem->DK->Prop) (ta:DE):DE:=fun δ M Q=>ta δ M fun x M1=>f x M1 Q
noncomputable def dNil:DA:=fun _ M Q=>Q [] M
noncomputable def dCons (ta:DE) (tr:DA):DA:=fun δ M Q=>ta δ M fun x M1=>tr δ M1 fun xs M2=>Q (x::xs) M2
noncomputable def dTup (t:DA):DE:=fun δ M Q=>t δ M fun xs M1=>xs.length<=sizeLine/\Q (.tup xs) M1
noncomputable def dLst (t:DA):DE:=fun δ M Q=>t δ M fun xs M1=>xs.length<=sizeLine/\alloc M1 (.ls xs) fun p M'=>Q (.lst p) M'
noncomputable def dCB (f:List D->Mem->DK->Prop) (t:DA):DE:=fun δ M Q=>t δ M fun xs M1=>f xs M1 Q
noncomputable def dCall (S:DSp) (E:DSt->DK) (t:DA):DE:=fun δ M Q=>t δ M fun xs M1=>S xs M1 Q (E δ)
noncomputable def dTest (t:DE):DT:=fun δ M Q=>t δ M fun x M1=>∃ k,x=.bl k/\Q k M1
noncomputable def dAnd (t u:DT):DT:=fun δ M Q=>t δ M fun c M1=>if c=true then u δ M1 Q else Q false M1
noncomputable def dOr (t u:DT):DT:=fun δ M Q=>t δ M fun c M1=>if c=true then Q true M1 else u δ M1 Q
noncomputable def dNot (t:DT):DT:=fun δ M Q=>t δ M fun c M1=>Q (!c) M1
noncomputable def dAndV (ta tb:DE):DE:=fun δ M Q=>ta δ M fun x M1=>∃ c,x=.bl c/\if c=true then tb δ M1 Q else Q (.bl false) M1
noncomputable def dOrV (ta tb:DE):DE:=fun δ M Q=>ta δ M fun x M1=>∃ c,x=.bl c/\if c=true then Q (.bl true) M1 else tb δ M1 Q
noncomputable def dIfE (c:DT) (ta tb:DE):DE:=fun δ M Q=>c δ M fun b M1=>if b=true then ta δ M1 Q else tb δ M1 Q
section
variable {X:Cx} {rz:Bool} {E:DSt->DK} {a b c:Expr} {ta tb tc:DE} {pos:Pos}
theorem seq2 {Λ:LK} {σ:L2.St} {H:Hp} {δ:DSt} {M:Mem} {R:D->D->Mem->Prop} {Q:V->V->Hp->Prop} (rs:RepS Λ H δ σ) (rm:RepM Λ.K H M) (h:ta δ M fun x M1=>tb δ M1 fun y M2=>R x y M2)
  (q:∀ x y M2 v u H2,HExt Λ.K H H2->RepM Λ.K H2 M2->RelD Λ.K H2 v x->RelD Λ.K H2 u y->R x y M2->Q v u H2):lift Λ ta σ H fun v H1=>lift Λ tb σ H1 fun u H2=>Q v u H2 :=
 ⟨δ,M,_,rs,rm,h,fun _ _ _ _ x1 m1 r1 h1=>⟨δ,_,_,rs.ext x1,m1,h1,fun _ _ _ _ x2 m2 r2 h2=>q _ _ _ _ _ _ (x1.trans x2) m2 (r1.ext x2) r2 h2⟩⟩
theorem de_var (h:PE X a (tVar i)):PE X a (lift (X.L rz E) (dVar i)):=by
 refine h.imp ?_;rintro σ H Q ⟨δ,M,R,rs,rm,t,q⟩;obtain⟨d,e,r⟩:=vAt_ex t;obtain⟨v,h1,h2⟩:=rs.slot i d e;exact⟨v,h1,q _ _ _ _ (.refl H) rm h2 r⟩
theorem de_con (h:PE X a (tC v)) (r:∀ H,RelD X.K H v d):PE X a (lift (X.L rz E) (dC d)):=by
 refine h.imp ?_;rintro σ H Q ⟨δ,M,R,rs,rm,t,q⟩;exact q _ _ _ _ (.refl H) rm (r H) t
theorem d2_op (h:lift Λ (d2 f ta tb) σ H Q):tOp (lift2 Λ.K f) (lift Λ ta) (lift Λ tb) σ H Q:=by
 obtain⟨δ,M,R,rs,rm,t,q⟩:=h;exact seq2 (R:=fun x y M2=>f x y M2 R) rs rm t fun x y M2 v u H2 x2 m2 r1 r2 t2=>⟨x,y,M2,R,r1,r2,m2,t2,fun d M' w H' x3 m3 r3=>q d M' w H' (x2.trans x3) m3 r3⟩
theorem de_bin (ho:OpR X (binaryOp op) (lift2 X.K f)) (ha:PE X a (lift (X.L rz E) ta)) (hb:PE X b (lift (X.L rz E) tb)):PE X (.BinOp a op b pos) (lift (X.L rz E) (d2 f ta tb)) :=
 (pe_op ho ha hb).imp fun _ _ _=>d2_op
end
end DL
end
noncomputable section
namespace DL
open PySem PySem.Spec PyProof.Rows L2
theorem noFill_tuple_mul:fillsNumberSlot (.type "tuple") "mul"=pure false :=
 PySem.fillsNumberSlot_seq (id:="tuple.__mul__") (r:=some (.builtin "tuple.__rmul__")) PySem.F.slot_tuple_mul.lookup (by decide +kernel) PySem.F.slot_tuple_rmul.lookup (by decide +kernel)
theorem repeat_tuple:seqRepeat? (.type "tuple")=pure (some (.builtin "tuple.__mul__")):=by
 unfold seqRepeat?;rw[PySem.seqSlot_of (T:="tuple") (name:="__mul__") (id:="tuple.__mul__") PySem.F.slot_tuple_mul.lookup (by decide +kernel),PySem.seqSlot_of (T:="tuple") (name:="__rmul__") (id:="tuple.__rmul__") PySem.F.slot_tuple_rmul.lookup (by decide +kernel)]
 rfl
theorem int_rmul_tuple (a:Int) (t:Tok) (l:Addr) (items:Array Value) (n:Nat) (dd:Option Addr) (sl:Array (Option Value)) :
  Meets (Builtin.«int.__rmul__» ⟨[.int a t,.ref l],[]⟩) (fun _ R s=>s.heap.get? l=some {cls:=.type "tuple",dict:=dd,data:=.seq items n,slots:=sl}/\R (.ok (.ret Value.notImplemented)) s) :=
 .of_wp fun prog w A R s h=>by obtain⟨hp,g,d,tk,os⟩:=s;obtain⟨hl,h⟩:=h;wp_walk;exact⟨_,rfl,h⟩
theorem tuple_mul (l:Addr) (items:Array Value) (n:Nat) (dd:Option Addr) (sl:Array (Option Value)) (x:Int) (u:Tok) (h0:¬ items.isEmpty=true) (h2:2<=x) (h3:x<1000000) (hs:items.size*x.toNat<=16777216) :
  Meets (Builtin.«tuple.__mul__» ⟨[.ref l,.int x u],[]⟩) (fun _ R s=>s.heap.get? l=some {cls:=.type "tuple",dict:=dd,data:=.seq items n,slots:=sl}/\R (.ok (.ret (Value.ref s.heap.objs.size))) {s with heap:=s.heap.push {cls:=Value.type "tuple",data:=Data.seq (List.foldl (fun x1 x2=>x1++x2) #[] (List.replicate x.toNat items))}}) :=
 .of_wp fun prog w A R s h=>by
  obtain⟨hp,g,d,tk,os⟩:=s;obtain⟨hl,h⟩:=h;have c1:¬ (decide (x < -2 ^ 63) || decide (x ≥ 2 ^ 63))=true:=by simp;omega
  have c2:¬ (items.isEmpty || x==1)=true:=by
   have:¬ x=1:=by omega
   simp[this];simpa using h0
  have c3:¬ (decide (x<=0) || items.isEmpty)=true:=by
   have:¬ x<=0:=by omega
   simp[this];simpa using h0
  have e:(items.size:Int)*x=((items.size*x.toNat:Nat):Int):=by
   rw[Int.natCast_mul,Int.toNat_of_nonneg %[|5]]
  have c4:¬ ((items.size:Int)*x > (2 ^ 63-1) / 8):=by rw[e];omega
  have c5:¬ Builtin.Tuple.tupleTooMany ((items.size:Int)*x)=true:=by
   rw[Bool.not_eq_true];unfold Builtin.Tuple.tupleTooMany;rw[e];refine decide_eq_false ?_;have:(sizeLine:Int)=16777216:=by decide
   omega
  have c6:¬ (List.foldl (fun x1 x2=>x1++x2) #[] (List.replicate x.toNat items)).size > sizeLine:=by
   have:(List.foldl (fun x1 x2=>x1++x2) #[] (List.replicate x.toNat items)).size=x.toNat*items.size:=by
    have:=foldl_rep items.toList x.toNat [];rw[List.nil_append] at this;have e2:(List.foldl (fun x1 x2=>x1++x2) #[] (List.replicate x.toNat items))=(List.replicate x.toNat items.toList).flatten.toArray:=this;rw[e2,List.size_toArray,len_rep];simp
   rw[this,Nat.mul_comm];exact Nat.not_lt.mpr hs
  wp_walk
  iterate 5
   (try (first|refine wpAny_ite_false (decide_eq_false c1) ?_|refine wpAny_ite_false (decide_eq_false c2) ?_|refine wpAny_ite_false (decide_eq_false c3) ?_|refine wpAny_ite_false (decide_eq_false c4) ?_|refine wpAny_ite_false (decide_eq_false c5) ?_))
   (try wp_walk)
  exact⟨_,rfl,h⟩
section
variable {X:Cx}
noncomputable def rRepT (K:Frag):R2:=fun x y H Q=>∃ a k xs,x=.ref a/\y=.int k/\SqT K H a xs/\xs≠[]/\2<=k/\k<1000000/\xs.length*k.toNat<=sizeLine /\
 ∀ p,H p=none->Q (.ref p) (upd H p (.tup (List.replicate k.toNat xs).flatten))
theorem op_repT:OpR X (binaryOp .Mult) (rRepT X.K):=by
 intro pins s σ H x y v u Q I rx ry h;obtain⟨a,k,xs,rfl,rfl,ha,hx,h1,h2,hz,q⟩:=h
 (first|cases (show _=_ from rx.inv)|cases rx)
 obtain⟨t,rfl⟩:=ry;obtain⟨its,r1,p1,_⟩:=I.tuple ha;obtain⟨⟨cls,dd,data,sl⟩,ho,hc,n,hd⟩:=id p1;simp only at hc hd;subst hc hd;have hnew:List.foldl (fun x1 x2=>x1++x2) #[] (List.replicate k.toNat its.toArray)=(List.replicate k.toNat its).flatten.toArray:=by
  have:=foldl_rep its k.toNat [];rw[List.nil_append] at this;exact this
 have hne:¬ its.toArray.isEmpty=true:=by
  have:its≠[]:=fun z=>hx (r1.nil_iff.mp z)
  simpa using this
 have hl:xs.length=its.length:=r1.length;refine wpAny_binaryOp_repeat_ref (T:="tuple") (U:="int") %[|4] ⟨_,ho,rfl⟩ (fun s'=>typeIs_int s' k t) noFill_tuple_mul PySem.F.fills_int_mul PySem.F.slot_int_rmul repeat_tuple PySem.F.slot_int_index.lookup
  (call_meets PySem.F.slot_int_rmul (typeIs_int s k t) PySem.F.entry_int_rmul (PySem.F.args_int_rmul_2 _ _) (int_rmul_tuple k t a its.toArray n dd sl)
   ⟨ho,rfl,⟨_,ho,rfl⟩,call_meets PySem.F.slot_tuple_mul ⟨_,ho,rfl⟩ PySem.F.entry_tuple_mul (PySem.F.args_tuple_mul_2 _ _) (tuple_mul a its.toArray n dd sl k t hne h1 h2 (by rw[List.size_toArray,<- hl];exact hz)) ⟨ho,?_⟩⟩)
 rw[hnew];refine⟨.ref s.heap.objs.size,_,I.laid (t':=s.toks) (o:=.tup (List.replicate k.toNat xs).flatten) (fun b ob q=>Heap.get?_push_of_some _ q) %[|3] ?_,rfl,q _ (I.hok.fresh %[|3])⟩;exact⟨by rw[len_rep,Nat.mul_comm];exact hz,_,r1.rep k.toNat,IsTup.new _ _⟩
end
end DL
end
noncomputable section
namespace DL
open PySem PySem.Spec PyProof.Rows L2
section
variable {prog:Program} {w:World} {A:Around} {E:Value->Shared->Prop} {s:Shared}
open HT
theorem getItem_tuple_whole {t sl:Addr} {items:Array Value} {vl vu:Value} {lo hi:Option Int} {Q:Value->Shared->Prop} (ht:IsTup s.heap t items) (hs:s.heap.IsSliceOf sl vl vu .none) (pl:IsPart vl lo) (pu:IsPart vu hi)
  (hw:sIx items.size 0 lo=0/\sIx items.size items.size hi=items.size) (h:Q (.ref t) s):wpAny (model prog w) A (getItem (.ref t) (.ref sl)) Q E s:=by
 obtain⟨os,hos,hcs,hds⟩:=id hs;have hTs:s.TypeIs (.ref sl) "slice":=⟨os,hos,hcs⟩;unfold getItem
 try with_reducible refine wpAny_holding ?_
 first|refine wpAny_bind (wpAny_pure ?_)|skip
 refine wpAny_bind (wpAny_sequenceKey ht.typeIs %[|4] ?_);refine wpAny_bind (wpAny_callSpecial?_slot (name:=Str.ofString "__getitem__") ht.typeIs PyProof.Rows.slot_tuple_getitem
  (wpAny_call_entry PyProof.Rows.slot_tuple_getitem ht.typeIs entry_tuple_getitem ?_ (args_tuple_getitem _ _)))
 show wpAny _ _ (Builtin.Tuple.tupleItemsOf (.ref t) >>= _) _ _ s;refine wpAny_bind (tupleItemsOf_ ht ?_);refine wpAny_bind (wpAny_typeOf hTs ?_);rw[if_pos %[|4]];refine wpAny_bind (sliceApplied_gen hs pl pu ?_);rw[hw.1,hw.2];show wpAny _ _ (if (((0:Nat):Int)==0&&(1:Int)==1&&(items.size-0)==items.size)=true then _ else _) _ _ s;rw[if_pos (by simp)];have hT:=ht.typeIs;unfold Builtin.Tuple.tupleIsExact;refine wpAny_bind (wpAny_bind (wpAny_typeOf hT ?_));refine wpAny_pure ?_;rw[if_pos %[|4]];refine wpAny_bind (wpAny_rule ?_);exact wpAny_pure ⟨_,rfl,wpAny_pure h⟩
end
theorem tuple_mul1 (l:Addr) (items:Array Value) (n:Nat) (dd:Option Addr) (sl:Array (Option Value)) (x:Int) (u:Tok) (h0:(items.isEmpty || x==1)=true) (h2:0<=x) (h3:x<1000000) :
  Meets (Builtin.«tuple.__mul__» ⟨[.ref l,.int x u],[]⟩) (fun _ R s=>s.heap.get? l=some {cls:=.type "tuple",dict:=dd,data:=.seq items n,slots:=sl}/\R (.ok (.ret (Value.ref l))) s) :=
 .of_wp fun prog w A R s h=>by
  obtain⟨hp,g,d,tk,os⟩:=s;obtain⟨hl,h⟩:=h;have c1:¬ (decide (x < -2 ^ 63) || decide (x ≥ 2 ^ 63))=true:=by simp;omega
  wp_walk
  iterate 5
   (try (first|refine wpAny_ite_false (decide_eq_false c1) ?_|refine wpAny_ite_true (decide_eq_true h0) ?_))
   (try wp_walk)
  exact⟨_,rfl,h⟩
theorem tuple_mul0 (l:Addr) (items:Array Value) (n:Nat) (dd:Option Addr) (sl:Array (Option Value)) (u:Tok) (h0:¬ items.isEmpty=true) :
  Meets (Builtin.«tuple.__mul__» ⟨[.ref l,.int 0 u],[]⟩) (fun _ R s=>s.heap.get? l=some {cls:=.type "tuple",dict:=dd,data:=.seq items n,slots:=sl}/\R (.ok (.ret (Value.ref s.heap.objs.size))) {s with heap:=s.heap.push {cls:=Value.type "tuple",data:=Data.seq #[]}}) :=
 .of_wp fun prog w A R s h=>by
  obtain⟨hp,g,d,tk,os⟩:=s;obtain⟨hl,h⟩:=h;have c2:¬ (items.isEmpty || (0:Int)==1)=true:=by simpa using h0
  have c3:(decide ((0:Int)<=0) || items.isEmpty)=true:=by simp
  wp_walk
  iterate 5
   (try (first|refine wpAny_ite_false (decide_eq_false c2) ?_|refine wpAny_ite_true (decide_eq_true c3) ?_))
   (try wp_walk)
  exact⟨_,rfl,h⟩
section
variable {X:Cx}
theorem sl_tupW:SlR X (fun x lo hi H Q=>∃ a xs,x=.ref a/\SqT X.K H a xs/\(HT.sIx xs.length 0 lo=0/\HT.sIx xs.length xs.length hi=xs.length)/\Q (.ref a) H):=by
 intro pins s σ H x v vl vu lo hi sl Q I rx hs pl pu h;obtain⟨a,xs,rfl,hx,hw,q⟩:=h
 (first|cases (show _=_ from rx.inv)|cases rx)
 obtain⟨its,r,ht,hz⟩:=I.tuple hx;have hlen:its.toArray.size=xs.length:=by rw[List.size_toArray];exact r.length.symm
 refine⟨"tuple",_,PyProof.Rows.slot_tuple_getitem.lookup,ht.typeIs,?_⟩;exact getItem_tuple_whole ht hs pl pu (by rw[hlen];exact hw) ⟨.ref a,H,I,rfl,q⟩
theorem op_catT0:OpR X (binaryOp .Add) (fun x y H Q=>∃ a b ys,x=.ref a/\y=.ref b/\SqT X.K H a []/\SqT X.K H b ys/\Q (.ref b) H):=by
 intro pins s σ H x y v u Q I rx ry h;obtain⟨a,b,ys,rfl,rfl,ha,hb,q⟩:=h
 (first|cases (show _=_ from rx.inv)|cases rx)
 cases ry;obtain⟨its,r1,p1,_⟩:=I.tuple ha;obtain⟨its2,r2,p2,_⟩:=I.tuple hb
 (first|cases (show _=_ from r1.inv)|cases r1)
 obtain⟨⟨cls,dd,data,sl⟩,ho,hc,n,hd⟩:=id p1;obtain⟨⟨cls2,dd2,data2,sl2⟩,ho2,hc2,n2,hd2⟩:=id p2;simp only at hc hd hc2 hd2;subst hc hd hc2 hd2;exact concat_meets ⟨_,ho,rfl⟩ ⟨_,ho2,rfl⟩ noFill_tuple_add seq_tuple_add PySem.F.slot_tuple_add PySem.F.entry_tuple_add (PySem.F.args_tuple_add_2 _ _)
  (PyProof.Rows.tuple_addW0 a b _ its2.toArray n n2 dd dd2 sl sl2 rfl) ⟨ho,ho2,.ref b,H,I,rfl,q⟩
theorem op_repT1:OpR X (binaryOp .Mult) (fun x y H Q=>∃ a k xs,x=.ref a/\y=.int k/\SqT X.K H a xs/\(xs=[]\/k=1)/\0<=k/\k<1000000/\Q (.ref a) H):=by
 intro pins s σ H x y v u Q I rx ry h;obtain⟨a,k,xs,rfl,rfl,ha,hx,h1,h2,q⟩:=h
 (first|cases (show _=_ from rx.inv)|cases rx)
 obtain⟨t,rfl⟩:=ry;obtain⟨its,r1,p1,_⟩:=I.tuple ha;obtain⟨⟨cls,dd,data,sl⟩,ho,hc,n,hd⟩:=id p1;simp only at hc hd;subst hc hd;have hne:(its.toArray.isEmpty || k==1)=true:=by
  rcases hx with rfl|rfl
  ·(first|cases (show _=_ from r1.inv)|cases r1);rfl
  ·simp
 refine wpAny_binaryOp_repeat_ref (T:="tuple") (U:="int") %[|4] ⟨_,ho,rfl⟩ (fun s'=>typeIs_int s' k t) noFill_tuple_mul PySem.F.fills_int_mul PySem.F.slot_int_rmul repeat_tuple PySem.F.slot_int_index.lookup
  (call_meets PySem.F.slot_int_rmul (typeIs_int s k t) PySem.F.entry_int_rmul (PySem.F.args_int_rmul_2 _ _) (int_rmul_tuple k t a its.toArray n dd sl)
   ⟨ho,rfl,⟨_,ho,rfl⟩,call_meets PySem.F.slot_tuple_mul ⟨_,ho,rfl⟩ PySem.F.entry_tuple_mul (PySem.F.args_tuple_mul_2 _ _) (tuple_mul1 a its.toArray n dd sl k t hne h1 h2) ⟨ho,?_⟩⟩)
 exact⟨.ref a,H,I,rfl,q⟩
theorem op_repT0:OpR X (binaryOp .Mult) (fun x y H Q=>∃ a xs,x=.ref a/\y=.int 0/\SqT X.K H a xs/\xs≠[]/\∀ p,H p=none->Q (.ref p) (upd H p (.tup []))):=by
 intro pins s σ H x y v u Q I rx ry h;obtain⟨a,xs,rfl,rfl,ha,hx,q⟩:=h
 (first|cases (show _=_ from rx.inv)|cases rx)
 obtain⟨t,rfl⟩:=ry;obtain⟨its,r1,p1,_⟩:=I.tuple ha;obtain⟨⟨cls,dd,data,sl⟩,ho,hc,n,hd⟩:=id p1;simp only at hc hd;subst hc hd;have hne:¬ its.toArray.isEmpty=true:=by
  have:its≠[]:=fun z=>hx (r1.nil_iff.mp z)
  simpa using this
 refine wpAny_binaryOp_repeat_ref (T:="tuple") (U:="int") %[|4] ⟨_,ho,rfl⟩ (fun s'=>typeIs_int s' 0 t) noFill_tuple_mul PySem.F.fills_int_mul PySem.F.slot_int_rmul repeat_tuple PySem.F.slot_int_index.lookup
  (call_meets PySem.F.slot_int_rmul (typeIs_int s 0 t) PySem.F.entry_int_rmul (PySem.F.args_int_rmul_2 _ _) (int_rmul_tuple 0 t a its.toArray n dd sl)
   ⟨ho,rfl,⟨_,ho,rfl⟩,call_meets PySem.F.slot_tuple_mul ⟨_,ho,rfl⟩ PySem.F.entry_tuple_mul (PySem.F.args_tuple_mul_2 _ _) (tuple_mul0 a its.toArray n dd sl t hne) ⟨ho,?_⟩⟩)
 refine⟨.ref s.heap.objs.size,_,I.laid (t':=s.toks) (o:=.tup []) (fun b ob q=>Heap.get?_push_of_some _ q) %[|3] ?_,rfl,q _ (I.hok.fresh %[|3])⟩;exact⟨Nat.zero_le _,_,.nil,IsTup.new _ _⟩
end
end DL
end
noncomputable section
namespace DL
open PySem PySem.Spec PyProof.Rows L2
section
variable {prog:Program} {w:World} {A:Around} {E:Value->Shared->Prop} {s:Shared}
theorem nx_item (hj:s.heap.IsTupleIter j b n) (hb:s.heap.IsTuple b vs) (hv:vs[n]?=some v)
  (q:∀ g,g.IsTupleIter j b (n+1)->Heap.SameBut j s.heap g->Q v {s with heap:=g}):wpAny (model prog w) A (Builtin.SmallTypes.nextOf (.ref j)) Q E s:=by
 obtain⟨o,e1,e2,e3⟩:=id hj;obtain⟨p,f1,_,m,f3⟩:=hb;unfold Builtin.SmallTypes.nextOf;refine wpAny_bind (wpAny_callSpecial?_slot (name:=Str.ofString "__next__") hj.typeIs F.slot_tuple_iterator_next (wpAny_call_entry F.slot_tuple_iterator_next hj.typeIs F.entry_tuple_iterator_next ?_ (F.args_tuple_iterator_next_1 _)));show wpAny _ _ (field (.ref j) 0 >>= _) _ _ s;refine wpAny_bind (wpAny_field e1 e3 (x:=.ref b) rfl ?_);show wpAny _ _ (if (Value.ref b==Value.none)=true then _ else _) _ _ s;rw[if_neg (show ¬ ((Value.ref b==Value.none)=true) from Bool.false_ne_true)];show wpAny _ _ (field (.ref j) 1 >>= _) _ _ s;refine wpAny_bind (wpAny_field e1 e3 (x:=.int n 0) rfl ?_);show wpAny _ _ (seqItems? (.ref b) >>= _) _ _ s;refine wpAny_bind (wpAny_seqItems f1 f3 ?_);simp only[Int.toNat_natCast,hv];refine wpAny_bind (wpAny_setField e1 e3 (by simp) (wpAny_pure ⟨v,rfl,wpAny_pure (q _ ?_ (Heap.SameBut.update ..))⟩))
 exact⟨_,Heap.get?_update_self _ e1 (Obj.isFreed_of_fields (Obj.data_mapFields e3 _)),(Obj.cls_mapFields ..).trans e2,by rw[Obj.data_mapFields e3];simp[rawInt]⟩
theorem nx_end (hh:A.handled=none) (hj:s.heap.IsTupleIter j b n) (hb:s.heap.IsTuple b vs) (hv:vs[n]?=none)
  (q:∀ g e,Heap.ExtBut j s.heap g->(∃ o,g.get? e=some o/\o.cls=.type "StopIteration")->E (.ref e) {s with heap:=g}):wpAny (model prog w) A (Builtin.SmallTypes.nextOf (.ref j)) Q E s:=by
 obtain⟨o,e1,e2,e3⟩:=id hj;obtain⟨p,f1,_,m,f3⟩:=hb;unfold Builtin.SmallTypes.nextOf;refine wpAny_bind (wpAny_callSpecial?_slot (name:=Str.ofString "__next__") hj.typeIs F.slot_tuple_iterator_next (wpAny_call_entry F.slot_tuple_iterator_next hj.typeIs F.entry_tuple_iterator_next ?_ (F.args_tuple_iterator_next_1 _)));show wpAny _ _ (field (.ref j) 0 >>= _) _ _ s;refine wpAny_bind (wpAny_field e1 e3 (x:=.ref b) rfl ?_);show wpAny _ _ (if (Value.ref b==Value.none)=true then _ else _) _ _ s;rw[if_neg (show ¬ ((Value.ref b==Value.none)=true) from Bool.false_ne_true)];show wpAny _ _ (field (.ref j) 1 >>= _) _ _ s;refine wpAny_bind (wpAny_field e1 e3 (x:=.int n 0) rfl ?_);show wpAny _ _ (seqItems? (.ref b) >>= _) _ _ s;refine wpAny_bind (wpAny_seqItems f1 f3 ?_);simp only[Int.toNat_natCast,hv];refine wpAny_bind (wpAny_rule (wpAny_bind (wpAny_setField e1 e3 (by simp) ?_)));show wpAny _ _ (newExc (.type "StopIteration") [] >>= _) _ _ _;refine wpAny_bind ?_;simp only[newExc,newTuple]
 refine wpAny_bind (wpAny_newObj_type ?_ (by size_fits));refine wpAny_bind (m:=firstArgMember _ _) (wpAny_of_eq (a:=Value.none) (by first|rfl|(simp only[firstArgMember];rfl)) ?_);refine wpAny_newObj_type ?_ (by size_fits);simp only[raiseNew];refine wpAny_bind (wpAny_handled ?_)
 (first|rw [show A.in1.handled=none from hh]|rw [hh]);refine wpAny_bind (wpAny_pure (wpAny_throw ?_))
 exact q _ _ (((Heap.SameBut.update ..).extBut.push _).push _) ⟨_,Heap.get?_push_size _ rfl,rfl⟩
theorem zp_item {z u v i j b c:Addr} {n:Nat} {xs ys:Array Value} {x y a d:Value} {Q:Value->Shared->Prop} (D:ZipApart z u v i j b c)
  (hz:IsZip s.heap z u v .none) (hu:IsPair s.heap u (.ref i) (.ref j)) (hv:IsPair s.heap v a d) (h1:s.heap.IsTupleIter i b n) (h2:s.heap.IsTupleIter j c n) (hb:s.heap.IsTuple b xs) (hc:s.heap.IsTuple c ys) (hx:xs[n]?=some x) (hy:ys[n]?=some y)
  (q:∀ g,IsZip g z u v (rawInt s.heap.objs.size)->IsPair g v x y->g.IsTupleIter i b (n+1)->g.IsTupleIter j c (n+1)->IsPair g s.heap.objs.size x y->g.objs.size=s.heap.objs.size+1 ->
   (∀ k o,k≠z->k≠v->k≠i->k≠j->s.heap.get? k=some o->g.get? k=some o)->Q (.ref s.heap.objs.size) {s with heap:=g}) :
  wpAny (model prog w) A (Builtin.«zip.__next__» ⟨[.ref z],[]⟩) (fun r s'=>∃ t,r=.done (.ret t)/\Q t s') E s:=by
 show wpAny _ _ (field (.ref z) 2 >>= _) _ _ _;refine wpAny_bind (wpAny_field hz rfl (x:=.bool false) rfl ?_);show wpAny _ _ (field (.ref z) 3 >>= _) _ _ _;refine wpAny_bind (wpAny_field hz rfl (x:=.ref u) rfl ?_);refine wpAny_bind (wpAny_seqItems hu rfl ?_);show wpAny _ _ (Builtin.SmallTypes.ownedTupleIsFree (.ref z) >>= _) _ _ _;refine wpAny_bind ?_;unfold Builtin.SmallTypes.ownedTupleIsFree;refine wpAny_bind (wpAny_field hz rfl (x:=.none) rfl (wpAny_pure ?_));simp only[if_true];refine wpAny_bind (wpAny_rule ?_);refine wpAny_bind (wpAny_field hz rfl (x:=.ref v) rfl ?_);refine wpAny_bind (wpAny_setField_rec hz (by simp) fun g1 z1 s1=>?_)
 replace z1:IsZip g1 z u v .ellipsis:=z1
 refine wpAny_bind ?_;simp only[List.zipIdx_cons,List.zipIdx_nil,List.forIn_cons,List.forIn_nil];refine wpAny_bind (wpAny_bind (wpAny_onRaise ?_));show wpAny _ _ (Builtin.SmallTypes.nextOf (.ref i) >>= _) _ _ _;refine wpAny_bind (nx_item (h1.extBut s1.extBut D.i1z) (hb.extBut s1.extBut D.l1z) hx fun g2 j2 s2=>wpAny_pure ?_);have v2:IsPair g2 v a d:=s2.extBut _ _ D.TOi1 (s1.extBut _ _ D.TOz hv);refine wpAny_bind (wpAny_seqItems v2 rfl ?_);refine wpAny_bind (wpAny_updateSeq_pair v2 fun g3 v3 s3=>?_)
 replace v3:IsPair g3 v x d:=v3
 refine wpAny_bind (wpAny_letGo (wpAny_pure ?_));refine wpAny_bind (wpAny_bind (wpAny_onRaise ?_));show wpAny _ _ (Builtin.SmallTypes.nextOf (.ref j) >>= _) _ _ _;refine wpAny_bind (nx_item (((h2.extBut s1.extBut D.i2z).extBut s2.extBut D.i12.symm).extBut s3.extBut D.TOi2.symm) (((hc.extBut s1.extBut D.l2z).extBut s2.extBut D.l2i1).extBut s3.extBut D.l2TO) hy fun g4 j4 s4=>wpAny_pure ?_);have v4:IsPair g4 v x d:=s4.extBut _ _ D.TOi2 v3;refine wpAny_bind (wpAny_seqItems v4 rfl ?_);refine wpAny_bind (wpAny_updateSeq_pair v4 fun g5 v5 s5=>?_)
 replace v5:IsPair g5 v x y:=v5
 refine wpAny_bind (wpAny_letGo (wpAny_pure (wpAny_pure ?_)));refine wpAny_bind (wpAny_seqItems v5 rfl ?_);refine wpAny_bind (wpAny_newTuple ?_);have sz:g5.objs.size=s.heap.objs.size:=by rw[s5.1,s4.1,s3.1,s2.1,s1.1]
 have z5:IsZip g5 z u v .ellipsis:=s5.extBut _ _ D.TOz.symm (s4.extBut _ _ D.i2z.symm (s3.extBut _ _ D.TOz.symm (s2.extBut _ _ D.i1z.symm z1)));have k5:∀ k o,k≠z->k≠v->k≠i->k≠j->s.heap.get? k=some o->g5.get? k=some o:=fun k o c1 c2 c3 c4 e=>s5.extBut _ _ c2 (s4.extBut _ _ c4 (s3.extBut _ _ c2 (s2.extBut _ _ c3 (s1.extBut _ _ c1 e))));have a5:g5.IsTupleIter i b (n+1):=((j2.extBut s3.extBut D.TOi1.symm).extBut s4.extBut D.i12).extBut s5.extBut D.TOi1.symm;have b5:g5.IsTupleIter j c (n+1):=j4.extBut s5.extBut D.TOi2.symm;have lz:z<g5.objs.size:=Heap.lt_size z5;show wpAny _ _ (Builtin.SmallTypes.ownedTupleHandOut (.ref z) (.ref g5.objs.size) >>= _) _ _ _;refine wpAny_bind ?_;unfold Builtin.SmallTypes.ownedTupleHandOut;have z6:IsZip (g5.push {cls:=.type "tuple",data:=.seq #[x,y]}) z u v .ellipsis:=Heap.get?_push_of_some _ z5;refine wpAny_bind (wpAny_setField_rec z6 (by simp) fun g7 z7 s7=>?_)
 replace z7:IsZip g7 z u v (rawInt g5.objs.size):=z7
 refine wpAny_setField_rec z7 (by simp) fun g8 z8 s8=>?_
 replace z8:IsZip g8 z u v (rawInt g5.objs.size):=z8
 have up:∀ k o,k≠z->g5.get? k=some o->g8.get? k=some o:=fun k o c1 e=>s8.extBut _ _ c1 (s7.extBut _ _ c1 (Heap.get?_push_of_some _ e));have t8:IsPair g8 g5.objs.size x y:=s8.extBut _ _ (Nat.ne_of_gt lz) (s7.extBut _ _ (Nat.ne_of_gt lz) (Heap.get?_push_size _ rfl));have n8:g8.objs.size=g5.objs.size+1:=by rw[s8.1,s7.1,Heap.size_push]
 rw[sz] at z8 t8 n8;refine wpAny_pure ⟨_,rfl,?_⟩;show Q (.ref g5.objs.size) _;rw[sz];exact q g8 z8 (up _ _ D.TOz v5) (a5.at fun o e=>up _ o D.i1z e) (b5.at fun o e=>up _ o D.i2z e) t8 n8 fun k o c1 c2 c3 c4 e=>up k o c1 (k5 k o c1 c2 c3 c4 e)
theorem zp_end (hh:A.handled=none) (D:ZipApart z u v i j b c)
  (hz:IsZip s.heap z u v .none) (hu:IsPair s.heap u (.ref i) (.ref j)) (hv:IsPair s.heap v a d) (h1:s.heap.IsTupleIter i b n) (h2:s.heap.IsTupleIter j c n) (hb:s.heap.IsTuple b xs) (hc:s.heap.IsTuple c ys) (he:xs[n]?=none\/ys[n]?=none)
  (q:∀ g e,(∀ k o,k≠z->k≠v->k≠i->k≠j->s.heap.get? k=some o->g.get? k=some o)->(∃ o,g.get? e=some o/\o.cls=.type "StopIteration")->E (.ref e) {s with heap:=g}) :
  wpAny (model prog w) A (Builtin.«zip.__next__» ⟨[.ref z],[]⟩) Q E s:=by
 show wpAny _ _ (field (.ref z) 2 >>= _) _ _ _;refine wpAny_bind (wpAny_field hz rfl (x:=.bool false) rfl ?_);show wpAny _ _ (field (.ref z) 3 >>= _) _ _ _;refine wpAny_bind (wpAny_field hz rfl (x:=.ref u) rfl ?_);refine wpAny_bind (wpAny_seqItems hu rfl ?_);show wpAny _ _ (Builtin.SmallTypes.ownedTupleIsFree (.ref z) >>= _) _ _ _;refine wpAny_bind ?_;unfold Builtin.SmallTypes.ownedTupleIsFree;refine wpAny_bind (wpAny_field hz rfl (x:=.none) rfl (wpAny_pure ?_));simp only[if_true];refine wpAny_bind (wpAny_rule ?_);refine wpAny_bind (wpAny_field hz rfl (x:=.ref v) rfl ?_);refine wpAny_bind (wpAny_setField_rec hz (by simp) fun g1 z1 s1=>?_)
 replace z1:IsZip g1 z u v .ellipsis:=z1
 refine wpAny_bind ?_;simp only[List.zipIdx_cons,List.zipIdx_nil,List.forIn_cons,List.forIn_nil];refine wpAny_bind (wpAny_bind (wpAny_onRaise ?_));show wpAny _ _ (Builtin.SmallTypes.nextOf (.ref i) >>= _) _ _ _;have off:∀ {g:Heap} {e:Addr} {f0:Value},IsZip g z u v f0->(∃ o,g.get? e=some o/\o.cls=.type "StopIteration")->e≠z:=fun hz ⟨o,ho,hs⟩ x=>by subst x;rw[hz] at ho;cases ho;simp at hs
 cases hx:xs[n]? with
 | none =>
  refine wpAny_bind (nx_end hh (h1.extBut s1.extBut D.i1z) (hb.extBut s1.extBut D.l1z) hx fun g2 e s2 ho=>?_);have z2:IsZip g2 z u v .ellipsis:=s2 _ _ D.i1z.symm z1;have ez:=off z2 ho;obtain⟨o,ho,hs⟩:=ho;refine wpAny_setField_rec z2 (by simp) fun g3 _ s3=>q g3 e (fun k o c1 _ c3 _ x=>s3.extBut _ _ c1 (s2 _ _ c3 (s1.extBut _ _ c1 x))) ⟨o,s3.extBut _ _ ez ho,hs⟩
 | some x =>
  have hy:ys[n]?=none:=by rcases he with h|h;rw[hx] at h;cases h;exact h
  refine wpAny_bind (nx_item (h1.extBut s1.extBut D.i1z) (hb.extBut s1.extBut D.l1z) hx fun g2 j2 s2=>wpAny_pure ?_);have v2:IsPair g2 v a d:=s2.extBut _ _ D.TOi1 (s1.extBut _ _ D.TOz hv);refine wpAny_bind (wpAny_seqItems v2 rfl ?_);refine wpAny_bind (wpAny_updateSeq_pair v2 fun g3 v3 s3=>?_);refine wpAny_bind (wpAny_letGo (wpAny_pure ?_));refine wpAny_bind (wpAny_bind (wpAny_onRaise ?_));show wpAny _ _ (Builtin.SmallTypes.nextOf (.ref j) >>= _) _ _ _;refine wpAny_bind (nx_end hh (((h2.extBut s1.extBut D.i2z).extBut s2.extBut D.i12.symm).extBut s3.extBut D.TOi2.symm) (((hc.extBut s1.extBut D.l2z).extBut s2.extBut D.l2i1).extBut s3.extBut D.l2TO) hy fun g4 e s4 ho=>?_);have z4:IsZip g4 z u v .ellipsis:=s4 _ _ D.i2z.symm (s3.extBut _ _ D.TOz.symm (s2.extBut _ _ D.i1z.symm z1));have ez:=off z4 ho;obtain⟨o,ho,hs⟩:=ho;refine wpAny_setField_rec z4 (by simp) fun g5 _ s5=>q g5 e (fun k o c1 c2 c3 c4 x=>s5.extBut _ _ c1 (s4 _ _ c4 (s3.extBut _ _ c2 (s2.extBut _ _ c3 (s1.extBut _ _ c1 x))))) ⟨o,s5.extBut _ _ ez ho,hs⟩
theorem zn_item (D:ZipApart z u v i j b c)
  (hz:IsZip s.heap z u v .none) (hu:IsPair s.heap u (.ref i) (.ref j)) (hv:IsPair s.heap v a d) (h1:s.heap.IsTupleIter i b n) (h2:s.heap.IsTupleIter j c n) (hb:s.heap.IsTuple b xs) (hc:s.heap.IsTuple c ys) (hx:xs[n]?=some x) (hy:ys[n]?=some y)
  (q:∀ g,IsZip g z u v (rawInt s.heap.objs.size)->IsPair g v x y->g.IsTupleIter i b (n+1)->g.IsTupleIter j c (n+1)->IsPair g s.heap.objs.size x y->g.objs.size=s.heap.objs.size+1 ->
   (∀ k o,k≠z->k≠v->k≠i->k≠j->s.heap.get? k=some o->g.get? k=some o)->Q (some (.ref s.heap.objs.size)) {s with heap:=g}):wpAny (model prog w) A (pyNext (.ref z)) Q E s:=by
 have t:s.TypeIs (.ref z) "zip":=⟨_,hz,rfl⟩;unfold pyNext;exact wpAny_bind (wpAny_attempt (wpAny_callSpecial?_slot (name:=Str.ofString "__next__") t F.slot_zip_next (wpAny_call_entry F.slot_zip_next t F.entry_zip_next (zp_item D hz hu hv h1 h2 hb hc hx hy fun g a1 a2 a3 a4 a5 a6 a7=>wpAny_pure (q g a1 a2 a3 a4 a5 a6 a7)) (F.args_zip_next_1 _))))
theorem zn_end (hh:A.handled=none) (D:ZipApart z u v i j b c)
  (hz:IsZip s.heap z u v .none) (hu:IsPair s.heap u (.ref i) (.ref j)) (hv:IsPair s.heap v a d) (h1:s.heap.IsTupleIter i b n) (h2:s.heap.IsTupleIter j c n) (hb:s.heap.IsTuple b xs) (hc:s.heap.IsTuple c ys) (he:xs[n]?=none\/ys[n]?=none)
  (q:∀ g,(∀ k o,k≠z->k≠v->k≠i->k≠j->s.heap.get? k=some o->g.get? k=some o)->Q none {s with heap:=g}):wpAny (model prog w) A (pyNext (.ref z)) Q E s:=by
 have t:s.TypeIs (.ref z) "zip":=⟨_,hz,rfl⟩;unfold pyNext;refine wpAny_bind (wpAny_attempt (wpAny_callSpecial?_slot (name:=Str.ofString "__next__") t F.slot_zip_next (wpAny_call_entry F.slot_zip_next t F.entry_zip_next (zp_end hh D hz hu hv h1 h2 hb hc he fun g e hk ho=>?_) (F.args_zip_next_1 _))));obtain⟨o,ho,hs⟩:=ho;refine wpAny_bind (wpAny_isInstance (T:="StopIteration") (b:=true) ⟨o,ho,hs⟩ isSubtype_stop ?_);exact wpAny_pure (q _ hk)
end
section
variable {X:Cx} {pins:List (Addr×Obj)} {σ:L2.St} {H:Hp} {s:Shared}
theorem turnedL {h':Heap} {t':Nat} {fp:List Addr} (I:Inv X pins σ H s) (k:∀ b o,b ∉ fp->s.heap.get? b=some o->h'.get? b=some o) (f:∀ b∈fp,FpOk X pins H b):Inv X pins σ H {s with heap:=h',toks:=t'}:=by
 have nit:∀ b u,H b=some u->b ∉ fp:=fun b u e z=>by rw[(f b z).1] at e;cases e
 refine I.step (g':=s.gens) (d':=s.drawn) (ch:=fp) (fun b hb=>⟨(f b hb).2.2.2.1,(f b hb).2.1,(f b hb).2.2.2.2.1,(f b hb).2.2.2.2.2⟩) (fun b o _ _ hc e _=>k b o hc e) (fun b o _ _ hc e _=>⟨o.slots,k b o hc e⟩) (fun _ _ _ _ n=>n)
  (fun b o hc e=>⟨o,k b o hc e⟩) (fun _ _ e=>e) (fun _ _ _ e=>e) (fun b ps e=>⟨#[],by rw[e];simp⟩) (fun m hm=>?_) (fun b u e=>?_) I.bare
 ·obtain⟨o,es,ep,ho,r⟩:=hm
  exact⟨o,es,ep,k _ o (fun z=>(f _ z).2.1 rfl) ho,r⟩
 ·refine (I.hok b u e).stay (fun c v hc q=>k c v ?_ q) (fun _ q=>q) fun _ _ q=>q
  rcases hc with z|z
  ·rw[z];exact nit b u e
  ·exact nit c _ z
end
noncomputable def Itz (K:Frag) (b c:Addr):It :=
  ⟨fun i H=>∃ xs ys x y,SqT K H b xs/\SqT K H c ys/\xs[i]?=some x/\ys[i]?=some y,
   fun i H x H'=>∃ T p q,H T=none/\x=.ref T/\H'=upd H T (.tup [p,q])/\(∀ xs,SqT K H b xs->xs[i]?=some p)/\∀ ys,SqT K H c ys->ys[i]?=some q,
   fun i H=>∃ xs ys,SqT K H b xs/\SqT K H c ys/\(xs.length<=i\/ys.length<=i)⟩
noncomputable def zTn (z u v i j b c:Addr) (n:Nat) (h:Heap):Prop:=IsZip h z u v .none/\IsPair h u (.ref i) (.ref j)/\(∃ a d,IsPair h v a d)/\h.IsTupleIter i b n/\h.IsTupleIter j c n
theorem turn_zip {P:Program} {w:World} {K:Frag} {elts:List Expr} {x1:Nat} {pos:Pos} {z u v i j b c:Addr} (D:ZipApart z u v i j b c) :
  Turn P w K (.Tuple elts x1 pos) (Itz K b c) [z,u,v,i,j] z (zTn z u v i j b c) where
 mem:=by simp
 obj:=fun n h st k hk=>by
  obtain⟨hz,hu,⟨a,d,hv⟩,⟨o1,e1,_,d1⟩,⟨o2,e2,_,d2⟩⟩:=st;simp only[List.mem_cons,List.not_mem_nil,or_false] at hk;rcases hk with rfl|rfl|rfl|rfl|rfl
  ·exact⟨_,hz,fun w e=>nomatch e⟩
  ·exact⟨_,hu,fun w e=>nomatch e⟩
  ·exact⟨_,hv,fun w e=>nomatch e⟩
  ·exact⟨_,e1,fun w e=>by rw[d1] at e;cases e⟩
  ·exact⟨_,e2,fun w e=>by rw[d2] at e;cases e⟩
 keep:=fun n h h' st k=>by
  obtain⟨hz,hu,⟨a,d,hv⟩,h1,h2⟩:=st;exact⟨k z (by simp) _ hz,k u (by simp) _ hu,⟨a,d,k v (by simp) _ hv⟩,h1.at fun o e=>k i (by simp) o e,h2.at fun o e=>k j (by simp) o e⟩
 item:=by
  intro X hP hw hK hc n pins s σ H E I hf st hg;subst hP hw hK;obtain⟨hz,hu,⟨a,d,hv⟩,h1,h2⟩:=st;obtain⟨xs,ys,x,y,q1,q2,hx,hy⟩:=hg;obtain⟨its,rv,p,sz1⟩:=I.tuple q1;obtain⟨its',rv',p',sz2⟩:=I.tuple q2;obtain⟨vx,hvx,rx⟩:=rv.get hx;obtain⟨vy,hvy,ry⟩:=rv'.get hy;refine zn_item D hz hu hv h1 h2 (show s.heap.IsTuple b its.toArray from p) (show s.heap.IsTuple c its'.toArray from p') (x:=vx) (y:=vy) (by simpa using hvx) (by simpa using hvy) fun g a1 a2 a3 a4 a5 a6 a7=>?_;have lt:∀ {k o},s.heap.get? k=some o->k≠s.heap.objs.size:=fun e=>Nat.ne_of_lt (Heap.lt_size e);have li:i≠s.heap.objs.size:=by obtain⟨o,e,_⟩:=h1;exact lt e
  have lj:j≠s.heap.objs.size:=by obtain⟨o,e,_⟩:=h2;exact lt e
  refine⟨_,rfl,wpAny_letOwnedTupleGo_zip a1 fun g' z' sb=>?_⟩;have tp:IsPair g' s.heap.objs.size vx vy:=sb.extBut _ _ (Ne.symm (lt hz)) a5;have nf:H s.heap.objs.size=none:=I.hok.fresh %[|3];have I1:Inv X pins σ (upd H s.heap.objs.size (.tup [x,y])) {s with heap:=s.heap.push {cls:=.type "tuple",data:=.seq #[vx,vy]},toks:=s.toks} :=
   I.laid (fun k o e=>Heap.get?_push_of_some _ e) %[|3] ⟨by simp only[List.length_cons,List.length_nil];rw[sizeLine_eq];decide,[vx,vy],.cons rx (.cons ry .nil),⟨_,Heap.get?_push_size _ rfl,rfl,_,rfl⟩⟩
  have ff:∀ k∈[z,u,v,i,j],k≠s.heap.objs.size:=fun k hk=>by
   simp only[List.mem_cons,List.not_mem_nil,or_false] at hk;rcases hk with rfl|rfl|rfl|rfl|rfl
   ·exact lt hz
   ·exact lt hu
   ·exact lt hv
   ·exact li
   ·exact lj
  have f':∀ k∈[z,u,v,i,j],FpOk X pins (upd H s.heap.objs.size (.tup [x,y])) k:=fun k hk=>⟨by rw[upd_ne (ff k hk)];exact (hf k hk).1,(hf k hk).2⟩;have I2:Inv X pins σ (upd H s.heap.objs.size (.tup [x,y])) {s with heap:=g',toks:=s.toks}:=by
   refine turnedL (s:={s with heap:=s.heap.push {cls:=.type "tuple",data:=.seq #[vx,vy]},toks:=s.toks}) (h':=g') (t':=s.toks) I1 (fun k o hk e=>?_) f';rcases Heap.get?_push_cases e with ⟨rfl,rfl⟩|e'
   ·exact tp
   ·simp only[List.mem_cons,List.not_mem_nil,or_false,not_or] at hk
    exact sb.extBut _ _ hk.1 (a7 k o hk.1 hk.2.2.1 hk.2.2.2.1 hk.2.2.2.2 e')
  refine⟨.ref s.heap.objs.size,_,I2,rfl,⟨_,x,y,nf,rfl,rfl,fun xs' q=>by rw[I.tuple_inj q q1];exact hx,fun ys' q=>by rw[I.tuple_inj q q2];exact hy⟩,?_,fun k hk=>(f' k hk).1⟩;exact⟨z',sb.extBut _ _ D.TIz (a7 _ _ D.TIz D.TITO D.TIi1 D.TIi2 hu),⟨_,_,sb.extBut _ _ D.TOz a2⟩,a3.extBut sb.extBut D.i1z,a4.extBut sb.extBut D.i2z⟩
 done:=by
  intro X hP hw hK hc n pins s σ H E I hf st hg;subst hP hw hK;obtain⟨hz,hu,⟨a,d,hv⟩,h1,h2⟩:=st;obtain⟨xs,ys,q1,q2,hx⟩:=hg;obtain⟨its,rv,p,sz1⟩:=I.tuple q1;obtain⟨its',rv',p',sz2⟩:=I.tuple q2;have l1:=rv.length;have l2:=rv'.length;refine zn_end (I.ok.hd hc) D hz hu hv h1 h2 (show s.heap.IsTuple b its.toArray from p) (show s.heap.IsTuple c its'.toArray from p') (by rcases hx with hx|hx;exact .inl (by simp;omega);exact .inr (by simp;omega)) fun g k=>⟨rfl,turnedL (h':=g) (t':=s.toks) I (fun m o hm e=>?_) hf⟩;simp only[List.mem_cons,List.not_mem_nil,or_false,not_or] at hm;exact k m o hm.1 hm.2.2.1 hm.2.2.2.1 hm.2.2.2.2 e
 self:=fun _ _ _ _ _ st h=>wpAny_pyIter_zip st.1 h
end DL
end
noncomputable section
namespace DL
open PySem PySem.Spec PyProof.Rows L2
noncomputable def bAdd (d e:D) (M:Mem) (Q:DK):Prop :=
 match d,e with
 | .int i,.int j=>Q (.int (i+j)) M
 | .str x,.str y=>x.length+y.length<=sizeLine/\Q (.str (x++y)) M
 | .lst a,.lst b=>∃ xs ys,M a=some (.ls xs)/\M b=some (.ls ys)/\xs.length+ys.length<=sizeLine/\alloc M (.ls (xs++ys)) fun p M'=>Q (.lst p) M'
 | .tup xs,.tup ys=>xs.length+ys.length<=sizeLine/\Q (.tup (xs++ys)) M
 | _,_=>False
noncomputable def bInt (f:Int->Int->Prop) (g:Int->Int->Int) (d e:D) (M:Mem) (Q:DK):Prop :=
 match d,e with
 | .int i,.int j=>f i j/\Q (.int (g i j)) M
 | _,_=>False
noncomputable def bMul (d e:D) (M:Mem) (Q:DK):Prop :=
 match d,e with
 | .int i,.int j=>IntMulOk i j/\Q (.int (i*j)) M
 | .tup xs,.int k=>0<=k/\k<1000000/\xs.length*k.toNat<=sizeLine/\Q (.tup (List.replicate k.toNat xs).flatten) M
 | .lst a,.int k=>∃ xs,M a=some (.ls xs)/\0<=k/\k<1000000/\xs.length*k.toNat<=sizeLine/\alloc M (.ls (List.replicate k.toNat xs).flatten) fun p M'=>Q (.lst p) M'
 | _,_=>False
noncomputable def DivOk (j:Int):Prop:=j≠0/\j.natAbs.log2<9000
noncomputable def bOp:Operator->D->D->Mem->DK->Prop
 | .Add=>bAdd
 | .Sub=>bInt (fun _ _=>True) fun i j=>i-j
 | .Mult=>bMul
 | .FloorDiv=>bInt (fun _ j=>DivOk j) fun i j=>i.fdiv j
 | .Mod=>bInt (fun _ j=>j≠0) fun i j=>i.fmod j
 | .Pow=>bInt CPow fun i j=>i ^ j.toNat
 | _=>fun _ _ _ _=>False
theorem bInt_inv (h:bInt f g d e M Q):∃ i j,d=.int i/\e=.int j/\f i j/\Q (.int (g i j)) M:=by
 cases d with
 | int i=>cases e with
  | int j=>exact⟨i,j,rfl,rfl,h.1,h.2⟩
  | _=>exact h.elim
 | _=>exact h.elim
section
variable {X:Cx}
theorem op_bInt
  (rule:∀ (i j:Int) (t u:Tok) (s:Shared) (Q:Value->Shared->Prop) (E:Value->Shared->Prop),C i j->Q (.int (g i j) s.toks) {s with toks:=s.toks+1}->wpAny (model X.prog X.w) X.A (f (.int i t) (.int j u)) Q E s) :
  OpR X f (lift2 X.K (bInt C g)):=by
 refine (opI (X:=X) (C:=C) (g:=g) rule).imp ?_;rintro x y H Q ⟨d,e,M,R,r1,r2,rm,h,q⟩;obtain⟨i,j,rfl,rfl,h1,h2⟩:=bInt_inv h
 (first|cases (show _=_ from r1.inv)|cases r1);(first|cases (show _=_ from r2.inv)|cases r2)
 exact⟨_,_,rfl,rfl,h1,q _ _ _ _ (.refl H) rm (.int _) h2⟩
theorem op_bAdd:OpR X (binaryOp .Add) (lift2 X.K bAdd):=by
 rintro pins s σ H x y v u Q I rx ry ⟨d,e,M,R,r1,r2,rm,h,q⟩;unfold bAdd at h;split at h
 ·cases (show x=_ from r1.inv);cases (show y=_ from r2.inv)
  exact op_add pins s σ H _ _ v u Q I rx ry ⟨_,_,rfl,rfl,q _ _ _ _ (.refl H) rm (.int _) h⟩
 ·cases (show x=_ from r1.inv);cases (show y=_ from r2.inv)
  exact op_add_str pins s σ H _ _ v u Q I rx ry ⟨_,_,rfl,rfl,h.1,q _ _ _ _ (.refl H) rm (.str _) h.2⟩
 ·cases (show x=_ from r1.inv);cases (show y=_ from r2.inv)
  obtain⟨xs,ys,h1,h2,h3,h4⟩:=h;obtain⟨vs,e1,q1⟩:=rm _ _ h1;obtain⟨ws,e2,q2⟩:=rm _ _ h2;refine op_cat pins s σ H _ _ v u Q I rx ry ⟨_,_,vs,ws,rfl,rfl,e1,e2,by rw[q1.length,q2.length];exact h3,fun p hp=>?_⟩;exact q _ _ _ _ (.upd (.inl hp)) (rm.lst hp (q1.append q2)) (.lst p) (h4.at (rm.none hp))
 ·rename_i xs ys
  obtain⟨a,vs,rfl,h1,q1⟩:=r1.inv;obtain⟨b,ws,rfl,h2,q2⟩:=r2.inv;obtain⟨g2,g3⟩:=h;cases xs with
  | nil=>cases (show vs=_ from q1.inv);exact op_catT0 pins s σ H _ _ v u Q I rx ry ⟨_,_,_,rfl,rfl,h1,h2,q _ _ _ _ (.refl H) rm (.tup h2 q2) g3⟩
  | cons x xs =>
   refine op_catT pins s σ H _ _ v u Q I rx ry ⟨_,_,_,_,rfl,rfl,h1,h2,fun z=>?_,by rw[q1.length,q2.length];exact g2,fun z=>?_,fun z p hp=>?_⟩
   ·subst z;exact nomatch q1.length
   ·subst z
    cases ys with
    | nil=>rw [List.append_nil] at g3;exact q _ _ _ _ (.refl H) rm (.tup h1 q1) g3
    | cons y ys=>exact nomatch q2.length
   ·exact q _ _ _ _ (.upd (.inl hp)) (rm.tup hp) (.tup (.of upd_same) ((q1.append q2).ext (.upd (.inl hp)))) g3
 ·exact h.elim
theorem RelDs.rep {K:Frag} {H:Hp} {vs:List V} {ds:List D} (r:RelDs K H vs ds):∀ k:Nat,RelDs K H (List.replicate k vs).flatten (List.replicate k ds).flatten
 | 0=>.nil
 | k+1=>by
  rw[List.replicate_succ,List.replicate_succ,List.flatten_cons,List.flatten_cons];exact r.append (RelDs.rep r k)
theorem op_bMul:OpR X (binaryOp .Mult) (lift2 X.K bMul):=by
 rintro pins s σ H x y v u Q I rx ry ⟨d,e,M,R,r1,r2,rm,h,q⟩;unfold bMul at h;split at h
 ·cases (show x=_ from r1.inv);cases (show y=_ from r2.inv)
  exact opI (X:=X) (C:=IntMulOk) (g:=fun i j=>i*j) (fun _ _ _ _ _ _ _ hc q=>mul_int q hc) pins s σ H _ _ v u Q I rx ry ⟨_,_,rfl,rfl,h.1,q _ _ _ _ (.refl H) rm (.int _) h.2⟩
 ·rename_i ds k
  obtain⟨a,vs,rfl,h1,q1⟩:=r1.inv;cases (show y=_ from r2.inv);obtain⟨g2,g3,g4,g5⟩:=h;have hv:vs=[] ↔ ds=[]:=by rw[<- List.length_eq_zero_iff,q1.length,List.length_eq_zero_iff]
  by_cases hx:ds=[]\/k=1
  ·have e:(List.replicate k.toNat ds).flatten=ds:=by
    rcases hx with rfl|rfl
    ·simp
    ·simp
   rw[e] at g5;refine op_repT1 pins s σ H _ _ v u Q I rx ry ⟨_,_,_,rfl,rfl,h1,?_,g2,g3,q _ _ _ _ (.refl H) rm (.tup h1 q1) g5⟩;exact hx.imp_left hv.2
  ·have hn:ds≠[]:=fun z=>hx (.inl z)
   by_cases hk:k=0
   ·subst hk
    refine op_repT0 pins s σ H _ _ v u Q I rx ry ⟨_,_,rfl,rfl,h1,fun z=>hn (hv.1 z),fun p hp=>?_⟩;exact q _ _ _ _ (.upd (.inl hp)) (rm.tup hp) (.tup (.of upd_same) .nil) g5
   ·refine op_repT pins s σ H _ _ v u Q I rx ry ⟨_,_,_,rfl,rfl,h1,fun z=>hn (hv.1 z),by have:¬ k=1:=fun z=>hx (.inr z);omega,g3,by rw[q1.length];exact g4,fun p hp=>?_⟩
    exact q _ _ _ _ (.upd (.inl hp)) (rm.tup hp) (.tup (.of upd_same) ((q1.rep _).ext (.upd (.inl hp)))) g5
 ·cases (show x=_ from r1.inv);cases (show y=_ from r2.inv)
  obtain⟨xs,h1,g1,g2,h3,h4⟩:=h;obtain⟨vs,e1,q1⟩:=rm _ _ h1;refine op_rep pins s σ H _ _ v u Q I rx ry ⟨_,_,vs,rfl,rfl,e1,by omega,by omega,by rw[q1.length];exact h3,fun p hp=>?_⟩;exact q _ _ _ _ (.upd (.inl hp)) (rm.lst hp (q1.rep _)) (.lst p) (h4.at (rm.none hp))
 ·exact h.elim
theorem op_b (op:Operator):OpR X (binaryOp op) (lift2 X.K (bOp op)):=by
 cases op with
 | Add=>exact op_bAdd
 | Sub=>exact op_bInt fun _ _ _ _ _ _ _ _ q=>sub_int q
 | Mult=>exact op_bMul
 | FloorDiv=>exact op_bInt fun _ _ _ _ _ _ _ hc q=>floordiv_int hc.1 q (.inl (PyProof.noPylong_of_log2 hc.2))
 | Mod=>exact op_bInt fun _ _ _ _ _ _ _ hc q=>mod_int' hc q
 | Pow=>exact op_bInt fun _ _ _ _ _ _ _ hc q=>pow_int_small hc.1 hc.2.1 hc.2.2 q
 | _=>intro pins s σ H x y v u Q I rx ry ⟨d,e,M,R,r1,r2,rm,h,q⟩;exact (show False from h).elim
end
mutual
inductive Py (M:Mem):D->PyData->Prop
 | non:Py M .non .none
 | bl (b:Bool):Py M (.bl b) (.bool b)
 | int (i:Int):Py M (.int i) (.int i)
 | str (x:Str) (hx:(PyData.str x).canLay0=true):Py M (.str x) (.str x)
 | tup {ds:List D} {ps:List PyData} (h:Pys M ds ps):Py M (.tup ds) (.tuple ps)
 | fz {ds:List D} {ps:List PyData} (h:Pys M ds ps):Py M (.fz ds) (.list ps)
 | lst {a:Addr} {ds:List D} {ps:List PyData} (e:M a=some (.ls ds)) (h:Pys M ds ps):Py M (.lst a) (.list ps)
inductive Pys (M:Mem):List D->List PyData->Prop
 | nil:Pys M [] []
 | cons {d:D} {p:PyData} {ds:List D} {ps:List PyData} (h:Py M d p) (r:Pys M ds ps):Pys M (d::ds) (p::ps)
end
section
variable {X:Cx} {pins:List (Addr×Obj)} {s:Shared} {σ:L2.St} {H:Hp} {M:Mem}
theorem Pys.reads (I:L2.Inv X pins σ H s) (rm:RepM X.K H M) (h:Pys M ds ps):∀ {vs:List V} {us:List Value},RelDs X.K H vs ds->Vals vs us->∃ as,ReadsAll s.heap us ps as/\PyData.canLayAll0 ps=true:=by
 induction h using Pys.rec (motive_1:=fun d p _=>∀ (v:V) (u:Value),RelD X.K H v d->RelV v u->∃ as,Reads s.heap u p as/\p.canLay0=true) with
 | non=>rename_i v u r e;cases (show v=_ from r.inv);cases e;exact⟨_,.none,rfl⟩
 | bl b=>rename_i v u r e;cases (show v=_ from r.inv);cases e;exact⟨_,.bool b,rfl⟩
 | int i=>rename_i v u r e;cases (show v=_ from r.inv);obtain⟨_,rfl⟩:=e;exact⟨_,.int i _,rfl⟩
 | str x hx=>rename_i v u r e;cases (show v=_ from r.inv);obtain⟨_,rfl⟩:=e;exact⟨_,.str x _,hx⟩
 | tup h ih =>
  rename_i v u r e;obtain⟨a,vs,rfl,ht,r⟩:=r.inv;cases e;obtain⟨its,rv,⟨o,e1,e2,n,e3⟩,_⟩:=I.tuple ht;obtain⟨as,q,c⟩:=ih r rv;exact⟨as,.tuple e1 e2 e3 q,c⟩
 | fz h ih =>
  rename_i v u r e;obtain⟨a,vs,rfl,hf,r⟩:=r.inv;cases e;obtain⟨its,rv,⟨o,n,e1,e2,_,e3⟩,_⟩:=I.list hf.sq;obtain⟨as,q,c⟩:=ih r rv;exact⟨_,.list e1 e2 e3 q,c⟩
 | lst e h ih =>
  rename_i v u r z;cases (show v=_ from r.inv);cases z;obtain⟨vs,e0,r⟩:=rm _ _ e;obtain⟨its,rv,⟨o,n,e1,e2,_,e3⟩,_⟩:=I.list (.of e0);obtain⟨as,q,c⟩:=ih r rv;exact⟨_,.list e1 e2 e3 q,c⟩
 | nil=>intro vs us r e;cases (show vs=_ from r.inv);cases e;exact⟨_,.nil,rfl⟩
 | cons h r i1 i2 =>
  intro vs us q z;obtain⟨v,vs,rfl,q,qs⟩:=q.inv
  ·cases z with
   | cons z zs =>
    obtain⟨as,a1,a2⟩:=i1 _ _ q z;obtain⟨bs,b1,b2⟩:=i2 qs zs;exact⟨_,.cons a1 b1,show (_&&_)=true by rw[a2,b2];rfl⟩
theorem Py.reads (I:L2.Inv X pins σ H s) (rm:RepM X.K H M) (h:Py M d p) (r:RelD X.K H v d) (e:RelV v u):∃ as,Reads s.heap u p as/\p.canLay0=true:=by
 obtain⟨as,a1,a2⟩:=Pys.reads I rm (.cons h .nil) (.cons r .nil) (.cons e .nil);cases a1 with
 | cons b1 b2=>exact⟨_,b1,by revert a2;show (_&&_)=true->_;cases p.canLay0 with|true=>exact fun _=>rfl|false=>exact fun z=>absurd z Bool.false_ne_true⟩
end
noncomputable def cInt (g:Int->Int->Bool) (d e:D) (M:Mem) (Q:DK):Prop :=
 match d,e with
 | .int i,.int j=>Q (.bl (g i j)) M
 | _,_=>False
noncomputable def cEq (neg:Bool) (d e:D) (M:Mem) (Q:DK):Prop :=
 match d with
 | .dct p=>neg=false/\(∃ kvs,M p=some (.dk kvs))/\(∃ xs,e=.tup xs)/\Q (.bl false) M
 | d=>∃ a b,Py M d a/\Py M e b/\min a.depth b.depth<=60/\Q (.bl (if neg then !PyData.eqv a b else PyData.eqv a b)) M
theorem cEq_of (h1:Py M d a) (h2:Py M e b) (h3:min a.depth b.depth<=60) (q:Q (.bl (if neg then !PyData.eqv a b else PyData.eqv a b)) M):cEq neg d e M Q:=by
 cases d with
 | dct p=>cases h1
 | _=>exact⟨a,b,h1,h2,h3,q⟩
theorem cEq_inv (h:cEq neg d e M Q):(∃ p kvs xs,d=.dct p/\neg=false/\M p=some (.dk kvs)/\e=.tup xs/\Q (.bl false) M)\/∃ a b,Py M d a/\Py M e b/\min a.depth b.depth<=60/\Q (.bl (if neg then !PyData.eqv a b else PyData.eqv a b)) M:=by
 cases d with
 | dct p=>obtain⟨h0,⟨kvs,h1⟩,⟨xs,h2⟩,h3⟩:=h;exact .inl ⟨p,kvs,xs,rfl,h0,h1,h2,h3⟩
 | _=>exact .inr h
noncomputable def sdAt {α:Type}:List Str->List α->Str->Option α
 | x::xs,d::ds,k=>if k=x then some d else sdAt xs ds k
 | _,_,_=>none
theorem EntK.exact (h:EntK l xs us):(l.all fun e=>isExactStrKey e.key)=true:=by
 induction h with
 | nil=>rfl
 | cons hk _ ih=>rw [List.all_cons,hk,ih];rfl
theorem EntK.find (h:EntK l xs us):(l.find? fun e=>e.key.isStr k).map (·.val)=sdAt xs us k:=by
 induction h with
 | nil=>rfl
 | @cons e x t es xs us hk _ ih =>
  rw[List.find?_cons,hk];show _=if k=x then some e.val else sdAt xs us k
  by_cases c:k=x
  ·subst c
   rw[if_pos rfl,show (Value.str k t).isStr k=true from by simp[Value.isStr]];rfl
  ·rw[if_neg c,show (Value.str x t).isStr k=false from by simp[Value.isStr];exact fun z=>c z.symm];exact ih
theorem sdAt_rel {K:Frag} {H:Hp} {k:Str} {d:D}:∀ {xs:List Str} {vs:List V} {ds:List D},RelDs K H vs ds->sdAt xs ds k=some d->∃ v,sdAt xs vs k=some v/\RelD K H v d
 | [],_,_,_,e=>by simp[sdAt] at e
 | _::_,_,_,.nil,e=>by simp[sdAt] at e
 | x::xs,_,_,.cons h r,e=>by
  unfold sdAt at e ⊢;by_cases c:k=x
  ·rw[if_pos c] at e ⊢;cases e;exact⟨_,rfl,h⟩
  ·rw[if_neg c] at e ⊢;exact sdAt_rel r e
theorem sdAt_vals:∀ {xs:List Str} {vs:List V} {us:List Value},Vals vs us->sdAt xs vs k=some v->∃ u,sdAt xs us k=some u/\RelV v u
 | [],_,_,_,e=>by simp[sdAt] at e
 | _::_,_,_,.nil,e=>by simp[sdAt] at e
 | x::xs,_,_,.cons h r,e=>by
  unfold sdAt at e ⊢;by_cases c:k=x
  ·rw[if_pos c] at e ⊢;cases e;exact⟨_,rfl,h⟩
  ·rw[if_neg c] at e ⊢;exact sdAt_vals r e
theorem EntK.mem (h:EntK l xs us):(sdAt xs us k).isSome=xs.contains k:=by
 induction h with
 | nil=>rfl
 | @cons e x t es xs us hk _ ih =>
  show (if k=x then some e.val else sdAt xs us k).isSome=_;rw[List.contains_cons];by_cases c:k=x
  ·subst c;simp
  ·rw[if_neg c,ih];simp[c]
theorem tab_get
  (ho:s.heap.get? a=some o) (hd:o.data=.dict es ep) (en:EntK es.toList xs us) (h:Q (sdAt xs us k) {s with toks:=s.toks+1}):wpAny (model prog w) A (dictGet a (.str k tk)) Q E s:=by
 unfold dictGet
 try with_reducible refine wpAny_holding ?_
 refine wpAny_bind (wpAny_pyHash_str (wpAny_bind (PyProof.Rows.KTD.kt_dictFind_strs (s:={s with toks:=s.toks+1}) ho hd (by obtain⟨l⟩:=es;simpa using en.exact) ?_)));have hq:Q (findBy (fun k v=>v.isStr k) es k) {s with toks:=s.toks+1}:=by
  have hf:findBy (fun k v=>v.isStr k) es k=(es.toList.find? fun e=>e.key.isStr k).map (·.val):=by
   obtain⟨l⟩:=es;simp[findBy]
  rw[hf,en.find];exact h
 rw[findBy_of_findIdx?] at hq;cases hi:es.findIdx? fun e=>e.key.isStr k with
 | none=>rw [hi] at hq;exact wpAny_pure hq
 | some i=>rw [hi] at hq;exact wpAny_bind (wpAny_dictEntries (s:={s with toks:=s.toks+1}) ho hd (wpAny_pure hq))
noncomputable def cIs (neg:Bool) (d e:D) (M:Mem) (Q:DK):Prop :=
 match e with
 | .non=>Q (.bl (if neg then (match d with | .non=>false|_=>true) else (match d with | .non=>true|_=>false))) M
 | .bl k=>Q (.bl (if neg then (match d with | .bl j=>!(j==k)|_=>true) else (match d with | .bl j=>j==k|_=>false))) M
 | _=>False
noncomputable def inSeq (neg:Bool) (d:D) (xs:List D) (M:Mem) (Q:DK):Prop:=∃ ps p,Pys M xs ps/\Py M d p/\p.depth<=60/\Q (.bl (if neg then !(ps.any fun q=>PyData.eqv q p) else ps.any fun q=>PyData.eqv q p)) M
noncomputable def cIn (neg:Bool) (d e:D) (M:Mem) (Q:DK):Prop :=
 match e with
 | .str y=>∃ x,d=.str x/\Q (.bl (if neg then !(!(Builtin.Str.occurrences y x 0 y.length 1).isEmpty) else !(Builtin.Str.occurrences y x 0 y.length 1).isEmpty)) M
 | .tup xs=>inSeq neg d xs M Q
 | .fz xs=>inSeq neg d xs M Q
 | .lst a=>∃ xs,M a=some (.ls xs)/\inSeq neg d xs M Q
 | .sd xs _=>∃ x,d=.str x/\Q (.bl (if neg then !(xs.contains x) else xs.contains x)) M
 | _=>False
noncomputable def cOp:CmpOp->D->D->Mem->DK->Prop
 | .Eq=>cEq false
 | .NotEq=>cEq true
 | .Lt=>cInt fun i j=>decide (i<j)
 | .LtE=>cInt fun i j=>decide (i<=j)
 | .Gt=>cInt fun i j=>decide (j<i)
 | .GtE=>cInt fun i j=>decide (j<=i)
 | .In=>cIn false
 | .NotIn=>cIn true
 | .Is=>cIs false
 | .IsNot=>cIs true
section
variable {X:Cx}
theorem cInt_inv (h:cInt g d e M Q):∃ i j,d=.int i/\e=.int j/\Q (.bl (g i j)) M:=by
 cases d with
 | int i=>cases e with
  | int j=>exact⟨i,j,rfl,rfl,h⟩
  | _=>exact h.elim
 | _=>exact h.elim
theorem op_cInt (h:OpR X f (rI0 fun i j=>.bl (g i j))):OpR X f (lift2 X.K (cInt g)):=by
 refine h.imp ?_;rintro x y H Q ⟨d,e,M,R,r1,r2,rm,h,q⟩;obtain⟨i,j,rfl,rfl,h⟩:=cInt_inv h
 (first|cases (show _=_ from r1.inv)|cases r1);(first|cases (show _=_ from r2.inv)|cases r2)
 exact⟨_,_,rfl,rfl,q _ _ _ _ (.refl H) rm (.bl _) h⟩
theorem dict_eq_declines (ha:s.TypeIs (.ref a) "dict") (hb:s.TypeIs (.ref b) "tuple") (h:Q .notImplemented s) :
  wpAny (model prog w) A (call (.builtin "dict.__eq__") [.ref a,.ref b]) Q E s:=by
 refine wpAny_call_entry PySem.F.slot_dict_eq ha PySem.F.entry_dict_eq ?_ (PySem.F.args_dict_eq_2 _ _);show wpAny _ _ (Builtin.Dict.dictSlotArgs "__eq__" ⟨[.ref a,.ref b],[]⟩ >>= _) _ _ s;refine wpAny_bind ?_;unfold Builtin.Dict.dictSlotArgs;refine wpAny_bind (wpAny_notOrdered_dict ha ?_);show wpAny _ _ (pure (Value.ref a,Value.ref b)) _ _ s;refine wpAny_pure ?_;refine wpAny_bind (wpAny_isInstance (T:="tuple") hb PySem.F.sub_tuple_dict ?_);simp only[Bool.not_false,if_true];refine wpAny_bind (wpAny_rule ?_);exact wpAny_pure ⟨_,rfl,h⟩
theorem tuple_eq_declines_dict (l b:Addr) (items:Array Value) (n:Nat) (dd:Option Addr) (sl:Array (Option Value)) (ob:Obj) (hcb:ob.cls=.type "dict") :
  Meets (Builtin.«tuple.__eq__» ⟨[.ref l,.ref b],[]⟩) (fun _ R s=>s.heap.get? l=some {cls:=.type "tuple",dict:=dd,data:=.seq items n,slots:=sl}/\s.heap.get? b=some ob/\R (.ok (.ret .notImplemented)) s) :=
 .of_wp fun prog w A R s h=>by obtain⟨hp,g,d,tk,os⟩:=s;obtain⟨hl,hb,h⟩:=h;obtain⟨c,dd2,da2,sl2⟩:=ob;cases hcb;have f1:=F.sub_dict_tuple;wp_walk using wpAny_loadPart' hl,wpAny_loadPart' hb;exact⟨_,rfl,h⟩
theorem rc_dict_tuple (ha:s.heap.get? a=some oa) (hca:oa.cls=.type "dict") (hb:s.heap.IsTuple b items) (hu:A.units<cLine):SeqAt.RcAt A s (.ref a) (.ref b) false:=fun prog w E Q h=>by
 have hne:a≠b:=fun e=>by
  subst e;obtain⟨o2,ho2,hc2,_⟩:=hb;rw[ha] at ho2;cases ho2;rw[hca] at hc2;exact absurd hc2 (by simp)
 obtain⟨⟨cls2,dd2,data2,sl2⟩,ho2,hc2,n2,hd2⟩:=id hb;simp only at hc2 hd2;subst hc2 hd2;exact (SeqAt.rc_eq_decline_or (k:=false) ⟨_,ha,hca⟩ ⟨_,ho2,rfl⟩ %[|4] F.sub_tuple_dict F.slot_dict_eq F.slot_tuple_eq_refl
  (fun _ hq=>dict_eq_declines ⟨_,ha,hca⟩ ⟨_,ho2,rfl⟩ hq)
  (fun _ hq=>call_meets F.slot_tuple_eq_refl ⟨_,ho2,rfl⟩ F.entry_tuple_eq (F.args_tuple_eq_2 _ _) (tuple_eq_declines_dict b a items n2 dd2 sl2 oa hca) ⟨ho2,ha,hq⟩)
  (fun _ hq=>wpAny_isSame_ref_other hne ha ho2 (by rw[hca];simp) hq) (.inr hu) h)
theorem op_cEq (hu:X.A.units+64<cLine):OpR X (compareOp .Eq) (lift2 X.K (cEq false)):=by
 rintro pins s σ H x y v u Q I rx ry ⟨d,e,M,R,r1,r2,rm,h,q⟩;rcases cEq_inv h with ⟨p,kvs,xs,rfl,_,h1,rfl,hq⟩|⟨a,b,p1,p2,hd,h⟩
 ·(first|cases (show _=_ from r1.inv)|cases r1);(first|cases (show _=_ from rx.inv)|cases rx)
  obtain⟨_,_,rfl,ht,r⟩:=r2.inv;cases ry;obtain⟨vs,e1,_⟩:=rm _ _ h1;obtain⟨_,_,vs,_,pp⟩:=(show ObjOk X.prog X.w H s.heap p (.dK vs) from I.hok p _ e1);obtain⟨o,es,ep,h1,h2,_⟩:=pp;obtain⟨its,rv,hT,_⟩:=I.tuple ht;exact rc_dict_tuple h1 h2.1 hT %[|5] X.prog X.w _ _ ⟨.bl _,H,I,rfl,q _ _ _ _ (.refl H) rm (.bl _) hq⟩
 obtain⟨as,a1,a2⟩:=p1.reads I rm r1 rx;obtain⟨bs,b1,b2⟩:=p2.reads I rm r2 ry;exact SeqAt.compareEq_reads a1 b1 a2 b2 %[|5] ⟨.bl _,H,I,rfl,q _ _ _ _ (.refl H) rm (.bl _) h⟩
theorem op_cNe (hu:X.A.units+64<cLine):OpR X (compareOp .NotEq) (lift2 X.K (cEq true)):=by
 rintro pins s σ H x y v u Q I rx ry ⟨d,e,M,R,r1,r2,rm,h,q⟩;rcases cEq_inv h with ⟨_,_,_,_,h0,_⟩|⟨a,b,p1,p2,hd,h⟩
 ·cases h0
 obtain⟨as,a1,a2⟩:=p1.reads I rm r1 rx;obtain⟨bs,b1,b2⟩:=p2.reads I rm r2 ry;exact SeqAt.compareNe_reads a1 b1 a2 b2 %[|5] ⟨.bl _,H,I,rfl,q _ _ _ _ (.refl H) rm (.bl _) h⟩
noncomputable def isB (d e:D):Option Bool :=
 match e with
 | .non=>some (match d with | .non=>true|_=>false)
 | .bl k=>some (match d with | .bl j=>j==k|_=>false)
 | _=>none
theorem cIs_inv (h:cIs neg d e M Q):(e=.non\/∃ k,e=.bl k)/\∃ b,isB d e=some b/\Q (.bl (if neg then !b else b)) M:=by
 cases e with
 | non =>
  refine⟨.inl rfl,_,rfl,?_⟩;cases d<;>exact h
 | bl k =>
  refine⟨.inr ⟨k,rfl⟩,_,rfl,?_⟩;cases d<;>exact h
 | _=>exact (show False from h).elim
theorem is_val {K:Frag} {H:Hp} {x y:V} {d e:D} {v u:Value} {b:Bool} (r1:RelD K H x d) (rx:RelV x v) (r2:RelD K H y e) (ry:RelV y u) (he:e=.non\/∃ k,e=.bl k) (hb:isB d e=some b):plainIs v u=true/\(v==u)=b:=by
 rcases he with rfl|⟨k,rfl⟩
 ·(first|cases (show _=_ from r2.inv)|cases r2);cases ry;cases hb
  cases r1<;>first|((first|cases (show _=_ from rx.inv)|cases rx);exact⟨rfl,rfl⟩)|(obtain⟨t,rfl⟩:=rx;exact⟨rfl,rfl⟩)
 ·(first|cases (show _=_ from r2.inv)|cases r2);cases ry;cases hb
  cases r1<;>first|((first|cases (show _=_ from rx.inv)|cases rx);exact⟨rfl,rfl⟩)|(obtain⟨t,rfl⟩:=rx;exact⟨rfl,rfl⟩)|(rename_i j;(first|cases (show _=_ from rx.inv)|cases rx);cases j<;>cases k<;>exact⟨rfl,rfl⟩)
theorem op_cIs:OpR X (compareOp .Is) (lift2 X.K (cIs false)):=by
 rintro pins s σ H x y v u Q I rx ry ⟨d,e,M,R,r1,r2,rm,h,q⟩;obtain⟨he,b,hb,h⟩:=cIs_inv h;obtain⟨a1,a2⟩:=is_val r1 rx r2 ry he hb;refine wpAny_is_plain a1 ?_;rw[a2];exact⟨.bl _,H,I,rfl,q _ _ _ _ (.refl H) rm (.bl _) h⟩
theorem op_cIsNot:OpR X (compareOp .IsNot) (lift2 X.K (cIs true)):=by
 rintro pins s σ H x y v u Q I rx ry ⟨d,e,M,R,r1,r2,rm,h,q⟩;obtain⟨he,b,hb,h⟩:=cIs_inv h;obtain⟨a1,a2⟩:=is_val r1 rx r2 ry he hb;refine wpAny_isNot_plain a1 ?_;rw[a2];exact⟨.bl _,H,I,rfl,q _ _ _ _ (.refl H) rm (.bl _) h⟩
noncomputable def eqTo (h:Heap) (p:PyData) (y:Value):Bool:=by
 classical exact decide (∃ d as,Reads h y d as/\d.canLay0=true/\PyData.eqv d p=true)
theorem eqTo_of (r:Reads h y d as) (c:d.canLay0=true):eqTo h p y=PyData.eqv d p:=by
 unfold eqTo;cases e:PyData.eqv d p with
 | true=>simpa using ⟨d,⟨as,r⟩,c,e⟩
 | false =>
  simp only[decide_eq_false_iff_not];rintro⟨d',as',r',c',e'⟩;have:=SeqAt.Reads.unique d d' y as as' c r r';subst this;rw[e] at e';cases e'
theorem and12 (h:(a&&b)=true):a=true/\b=true:=by
 cases a with
 | true=>exact⟨rfl,h⟩
 | false=>exact absurd h Bool.false_ne_true
theorem pys_any (r:ReadsAll h us ps as):PyData.canLayAll0 ps=true->us.any (eqTo h p)=ps.any fun q=>PyData.eqv q p:=by
 induction r using ReadsAll.rec (motive_1:=fun _ _ _ _=>True) with
 | nil=>exact fun _=>rfl
 | cons r rr _ ih =>
  intro c;obtain⟨c1,c2⟩:=and12 (show (_&&_)=true from c);rw[List.any_cons,List.any_cons,eqTo_of r c1,ih c2]
 | _=>trivial
theorem pys_mem:∀ {us:List Value} {ps:List PyData} {as:List Addr},ReadsAll h us ps as->PyData.canLayAll0 ps=true->∀ y∈us,∃ d as,Reads h y d as/\d.canLay0=true
 | _,_,_,.nil,_,_,hy=>by cases hy
 | _,_,_,.cons r rr,c,y,hy=>by
  obtain⟨c1,c2⟩:=and12 (show (_&&_)=true from c);rcases List.mem_cons.mp hy with rfl|hy
  ·exact⟨_,_,r,c1⟩
  ·exact pys_mem rr c2 y hy
theorem eqTo_at (hu:A.units+64<cLine) (r:ReadsAll s.heap us ps as) (c:PyData.canLayAll0 ps=true) (rx:Reads s.heap x p bs) (cx:p.canLay0=true) (hd:p.depth<=60) :
  ∀ y∈us,SeqAt.EqAt A s y x (eqTo s.heap p y):=fun y hy=>by
 obtain⟨d,as',ry,cy⟩:=pys_mem r c y hy;rw[eqTo_of ry cy];exact SeqAt.eqAt_reads d p A s y x _ _ ry rx cy cx %[|5]
theorem tab_in (lo:(a==sysModules)=false)
  (ho:s.heap.get? a=some o) (ex:o.ExactDict) (hd:o.data=.dict es ep) (en:EntK es.toList xs us) (h:Q (.bool (xs.contains k)) {s with toks:=s.toks+1}):wpAny (model prog w) A (compareOp .In (.str k tk) (.ref a)) Q E s:=by
 have tI:s.TypeIs (.ref a) "dict":=⟨o,ho,ex.1⟩;show wpAny _ _ (do return .bool ((<- contains (.ref a) (.str k tk)))) Q E s;refine wpAny_bind ?_;unfold contains
 try with_reducible refine wpAny_holding ?_
 refine wpAny_bind (wpAny_specialOf tI PySem.F.slot_dict_contains.lookup ?_);show wpAny _ _ (if (some (Value.builtin "dict.__contains__")==some Value.none)=true then _ else _) _ E s;rw[if_neg (by rw[beq_builtin_none];exact Bool.false_ne_true)];refine wpAny_bind (wpAny_callSpecialUnlessNone?_slot (name:=Str.ofString "__contains__") tI PySem.F.slot_dict_contains
  (wpAny_call_entry PySem.F.slot_dict_contains tI PySem.F.entry_dict_contains ?_ (PySem.F.args_dict_contains_2 _ _)))
 show wpAny _ _ (dictGet a (.str k tk) >>= _) _ _ s;refine wpAny_bind (tab_get ho hd en ?_);have hb:=en.mem (k:=k);cases hs:sdAt xs us k with
 | some v =>
  rw[hs] at hb;rw[<- hb] at h;show wpAny _ _ (ret (.bool true)) _ _ _;exact wpAny_pure ⟨_,rfl,wpAny_truthy_bool (wpAny_pure h)⟩
 | none =>
  rw[hs] at hb;rw[<- hb] at h;show wpAny _ _ (Builtin.Dict.pendingKey? a (.str k tk) >>= _) _ _ _;exact wpAny_bind (wpAny_pendingKey_other lo (wpAny_pure ⟨_,rfl,wpAny_truthy_bool (wpAny_pure h)⟩))
theorem tab_inN (lo:(a==sysModules)=false)
  (ho:s.heap.get? a=some o) (ex:o.ExactDict) (hd:o.data=.dict es ep) (en:EntK es.toList xs us) (h:Q (.bool (!xs.contains k)) {s with toks:=s.toks+1}):wpAny (model prog w) A (compareOp .NotIn (.str k tk) (.ref a)) Q E s:=by
 have tI:s.TypeIs (.ref a) "dict":=⟨o,ho,ex.1⟩;show wpAny _ _ (do return .bool (!(<- contains (.ref a) (.str k tk)))) Q E s;refine wpAny_bind ?_;unfold contains
 try with_reducible refine wpAny_holding ?_
 refine wpAny_bind (wpAny_specialOf tI PySem.F.slot_dict_contains.lookup ?_);show wpAny _ _ (if (some (Value.builtin "dict.__contains__")==some Value.none)=true then _ else _) _ E s;rw[if_neg (by rw[beq_builtin_none];exact Bool.false_ne_true)];refine wpAny_bind (wpAny_callSpecialUnlessNone?_slot (name:=Str.ofString "__contains__") tI PySem.F.slot_dict_contains
  (wpAny_call_entry PySem.F.slot_dict_contains tI PySem.F.entry_dict_contains ?_ (PySem.F.args_dict_contains_2 _ _)))
 show wpAny _ _ (dictGet a (.str k tk) >>= _) _ _ s;refine wpAny_bind (tab_get ho hd en ?_);have hb:=en.mem (k:=k);cases hs:sdAt xs us k with
 | some v =>
  rw[hs] at hb;rw[<- hb] at h;show wpAny _ _ (ret (.bool true)) _ _ _;exact wpAny_pure ⟨_,rfl,wpAny_truthy_bool (wpAny_pure h)⟩
 | none =>
  rw[hs] at hb;rw[<- hb] at h;show wpAny _ _ (Builtin.Dict.pendingKey? a (.str k tk) >>= _) _ _ _;exact wpAny_bind (wpAny_pendingKey_other lo (wpAny_pure ⟨_,rfl,wpAny_truthy_bool (wpAny_pure h)⟩))
theorem op_cIn (hu:X.A.units+66<cLine):OpR X (compareOp .In) (lift2 X.K (cIn false)):=by
 rintro pins s σ H x y v u Q I rx ry ⟨d,e,M,R,r1,r2,rm,h,q⟩;cases r2 with
 | str z =>
  obtain⟨x',rfl,h2⟩:=(show ∃ x,d=.str x/\R (.bl (if false then !(!(Builtin.Str.occurrences z x 0 z.length 1).isEmpty) else !(Builtin.Str.occurrences z x 0 z.length 1).isEmpty)) M from h)
  (first|cases (show _=_ from r1.inv)|cases r1)
  exact op_in_str pins s σ H _ _ v u Q I rx ry ⟨_,_,rfl,rfl,q _ _ _ _ (.refl H) rm (.bl _) h2⟩
 | @tup a vs ds ht rr =>
  obtain⟨ps,p,p1,p2,hd,h⟩:=(show inSeq false d ds M R from h);cases (show u=Value.ref a from ry);obtain⟨its,rv,ht',_⟩:=I.tuple ht;obtain⟨as,a1,a2⟩:=p1.reads I rm rr rv;obtain⟨bs,b1,b2⟩:=p2.reads I rm r1 rx;refine SeqAt.in_tupleAt (items:=its.toArray) (eqTo s.heap p) ht' (fun y hy=>eqTo_at (A:=X.A.in1) (by show X.A.units+1+64<cLine;omega) a1 a2 b1 b2 hd y (by simpa using hy)) ⟨.bl _,H,I,rfl,q _ _ _ _ (.refl H) rm (.bl _) ?_⟩;rw[List.any_toArray,pys_any a1 a2];exact h
 | @fz a vs ds ht rr =>
  obtain⟨ps,p,p1,p2,hd,h⟩:=(show inSeq false d ds M R from h);cases (show u=Value.ref a from ry);obtain⟨its,rv,ht',_⟩:=I.list ht.sq;obtain⟨as,a1,a2⟩:=p1.reads I rm rr rv;obtain⟨bs,b1,b2⟩:=p2.reads I rm r1 rx;refine SeqAt.in_listAt (items:=its.toArray) (eqTo s.heap p) ht'.isList (fun y hy=>eqTo_at (A:=X.A.in1) (by show X.A.units+1+64<cLine;omega) a1 a2 b1 b2 hd y (by simpa using hy)) ⟨.bl _,H,I,rfl,q _ _ _ _ (.refl H) rm (.bl _) ?_⟩;rw[List.any_toArray,pys_any a1 a2];exact h
 | lst a =>
  obtain⟨ds,e0,ps,p,p1,p2,hd,h⟩:=(show ∃ xs,M a=some (.ls xs)/\inSeq false d xs M R from h);cases (show u=Value.ref a from ry);obtain⟨vs,e1,rr⟩:=rm _ _ e0;obtain⟨its,rv,ht',_⟩:=I.list (.of e1);obtain⟨as,a1,a2⟩:=p1.reads I rm rr rv;obtain⟨bs,b1,b2⟩:=p2.reads I rm r1 rx;refine SeqAt.in_listAt (items:=its.toArray) (eqTo s.heap p) ht'.isList (fun y hy=>eqTo_at (A:=X.A.in1) (by show X.A.units+1+64<cLine;omega) a1 a2 b1 b2 hd y (by simpa using hy)) ⟨.bl _,H,I,rfl,q _ _ _ _ (.refl H) rm (.bl _) ?_⟩;rw[List.any_toArray,pys_any a1 a2];exact h
 | @sd a xs vs ds T rr =>
  obtain⟨x',rfl,h2⟩:=(show ∃ x,d=.str x/\R (.bl (if false then !(xs.contains x) else xs.contains x)) M from h)
  (first|cases (show _=_ from r1.inv)|cases r1)
  obtain⟨tk,rfl⟩:=rx;cases (show u=Value.ref a from ry);obtain⟨lo,o,es,ep,us,lk,ex,hd,en,rv⟩:=T;exact tab_in lo (I.kIn _ _ lk) ex hd en ⟨.bl _,H,I.tok _,rfl,q _ _ _ _ (.refl H) rm (.bl _) h2⟩
 | _=>exact (show False from h).elim
theorem op_cNotIn (hu:X.A.units+66<cLine):OpR X (compareOp .NotIn) (lift2 X.K (cIn true)):=by
 rintro pins s σ H x y v u Q I rx ry ⟨d,e,M,R,r1,r2,rm,h,q⟩;cases r2 with
 | str z =>
  obtain⟨x',rfl,h2⟩:=(show ∃ x,d=.str x/\R (.bl (if true then !(!(Builtin.Str.occurrences z x 0 z.length 1).isEmpty) else !(Builtin.Str.occurrences z x 0 z.length 1).isEmpty)) M from h)
  (first|cases (show _=_ from r1.inv)|cases r1)
  exact op_notin_str pins s σ H _ _ v u Q I rx ry ⟨_,_,rfl,rfl,q _ _ _ _ (.refl H) rm (.bl _) h2⟩
 | @tup a vs ds ht rr =>
  obtain⟨ps,p,p1,p2,hd,h⟩:=(show inSeq true d ds M R from h);cases (show u=Value.ref a from ry);obtain⟨its,rv,ht',_⟩:=I.tuple ht;obtain⟨as,a1,a2⟩:=p1.reads I rm rr rv;obtain⟨bs,b1,b2⟩:=p2.reads I rm r1 rx;refine SeqAt.notIn_tupleAt (items:=its.toArray) (eqTo s.heap p) ht' (fun y hy=>eqTo_at (A:=X.A.in1) (by show X.A.units+1+64<cLine;omega) a1 a2 b1 b2 hd y (by simpa using hy)) ⟨.bl _,H,I,rfl,q _ _ _ _ (.refl H) rm (.bl _) ?_⟩;rw[List.any_toArray,pys_any a1 a2];exact h
 | @fz a vs ds ht rr =>
  obtain⟨ps,p,p1,p2,hd,h⟩:=(show inSeq true d ds M R from h);cases (show u=Value.ref a from ry);obtain⟨its,rv,ht',_⟩:=I.list ht.sq;obtain⟨as,a1,a2⟩:=p1.reads I rm rr rv;obtain⟨bs,b1,b2⟩:=p2.reads I rm r1 rx;refine SeqAt.notIn_listAt (items:=its.toArray) (eqTo s.heap p) ht'.isList (fun y hy=>eqTo_at (A:=X.A.in1) (by show X.A.units+1+64<cLine;omega) a1 a2 b1 b2 hd y (by simpa using hy)) ⟨.bl _,H,I,rfl,q _ _ _ _ (.refl H) rm (.bl _) ?_⟩;rw[List.any_toArray,pys_any a1 a2];exact h
 | lst a =>
  obtain⟨ds,e0,ps,p,p1,p2,hd,h⟩:=(show ∃ xs,M a=some (.ls xs)/\inSeq true d xs M R from h);cases (show u=Value.ref a from ry);obtain⟨vs,e1,rr⟩:=rm _ _ e0;obtain⟨its,rv,ht',_⟩:=I.list (.of e1);obtain⟨as,a1,a2⟩:=p1.reads I rm rr rv;obtain⟨bs,b1,b2⟩:=p2.reads I rm r1 rx;refine SeqAt.notIn_listAt (items:=its.toArray) (eqTo s.heap p) ht'.isList (fun y hy=>eqTo_at (A:=X.A.in1) (by show X.A.units+1+64<cLine;omega) a1 a2 b1 b2 hd y (by simpa using hy)) ⟨.bl _,H,I,rfl,q _ _ _ _ (.refl H) rm (.bl _) ?_⟩;rw[List.any_toArray,pys_any a1 a2];exact h
 | @sd a xs vs ds T rr =>
  obtain⟨x',rfl,h2⟩:=(show ∃ x,d=.str x/\R (.bl (if true then !(xs.contains x) else xs.contains x)) M from h)
  (first|cases (show _=_ from r1.inv)|cases r1)
  obtain⟨tk,rfl⟩:=rx;cases (show u=Value.ref a from ry);obtain⟨lo,o,es,ep,us,lk,ex,hd,en,rv⟩:=T;exact tab_inN lo (I.kIn _ _ lk) ex hd en ⟨.bl _,H,I.tok _,rfl,q _ _ _ _ (.refl H) rm (.bl _) h2⟩
 | _=>exact (show False from h).elim
theorem op_c (hu:X.A.units+66<cLine) (op:CmpOp):OpR X (compareOp op) (lift2 X.K (cOp op)):=by
 cases op with
 | Eq=>exact op_cEq %[|5]
 | NotEq=>exact op_cNe %[|5]
 | Lt=>exact op_cInt op_lt
 | LtE=>exact op_cInt op_le
 | Gt=>exact op_cInt op_gt
 | GtE=>exact op_cInt op_ge
 | In=>exact op_cIn hu
 | NotIn=>exact op_cNotIn hu
 | Is=>exact op_cIs
 | IsNot=>exact op_cIsNot
noncomputable def iOp (d e:D) (M:Mem) (Q:DK):Prop :=
 match d,e with
 | .tup xs,.int i=>∃ v,atI xs i=some v/\Q v M
 | .fz xs,.int i=>∃ v,atI xs i=some v/\Q v M
 | .lst a,.int i=>∃ xs v,M a=some (.ls xs)/\atI xs i=some v/\Q v M
 | .str z,.int i=>z.length<=sizeLine/\∃ c,atI z.cps.toList i=some c/\Q (.str ⟨#[c]⟩) M
 | .sd xs ds,.str k=>∃ v,sdAt xs ds k=some v/\Q v M
 | _,_=>False
theorem RelDs.atI {K:Frag} {H:Hp} {vs:List V} {ds:List D} {i:Int} {d:D} (r:RelDs K H vs ds) (e:L2.atI ds i=some d):∃ v,L2.atI vs i=some v/\RelD K H v d:=by
 unfold L2.atI at e ⊢;rw[r.length];cases q:ixN ds.length i with
 | none=>rw [q] at e;cases e
 | some j=>rw [q] at e;exact r.get e
theorem iOp_int (hn:∀ i,e≠.int i) (hk:∀ i,e≠.str i) (h:iOp d e M Q):False:=by
 unfold iOp at h;split at h
 ·exact hn _ rfl
 ·exact hn _ rfl
 ·exact hn _ rfl
 ·exact hn _ rfl
 ·exact hk _ rfl
 ·exact h
theorem iOp_str (h:iOp d (.str k) M Q):∃ xs ds v,d=.sd xs ds/\sdAt xs ds k=some v/\Q v M:=by
 cases d with
 | sd xs ds=>obtain⟨v,h1,h2⟩:=(show ∃ v,sdAt xs ds k=some v/\Q v M from h);exact⟨xs,ds,v,rfl,h1,h2⟩
 | _=>exact (show False from h).elim
theorem ix_sd:IxR X (fun x y H Q=>∃ p xs vs k v,x=.ref p/\y=.str k/\TabK X.K p xs vs/\sdAt xs vs k=some v/\Q v H):=by
 intro value slice pins s σ H x y v u Q I rx ry h hs;obtain⟨p,xs,vs,k,z,rfl,rfl,⟨lo,o,es,ep,us,lk,ex,hd,en,rv⟩,e,q⟩:=h
 (first|cases (show _=_ from rx.inv)|cases rx)
 obtain⟨tk,rfl⟩:=ry;have ho:=I.kIn _ _ lk;have tI:s.TypeIs (.ref p) "dict":=⟨o,ho,ex.1⟩;obtain⟨w',ew,rw'⟩:=sdAt_vals rv e;refine subscriptTail_builtinR (x:=w') tI PySem.F.slot_dict_getitem.lookup ?_ hs;unfold getItem
 try with_reducible refine wpAny_holding ?_
 refine wpAny_bind (wpAny_sequenceKey tI %[|4] ?_);refine wpAny_bind (wpAny_callSpecial?_slot (name:=Str.ofString "__getitem__") tI PySem.F.slot_dict_getitem
  (wpAny_call_entry PySem.F.slot_dict_getitem tI PySem.F.entry_dict_getitem ?_ (PySem.F.args_dict_getitem_2 _ _)))
 show wpAny _ _ (dictGet p (.str k tk) >>= _) _ _ s;refine wpAny_bind (tab_get ho hd en ?_);rw[ew];exact wpAny_pure ⟨w',rfl,wpAny_pure ⟨rfl,z,H,I.tok _,rw',q⟩⟩
theorem ix_i:IxR X (lift2 X.K iOp):=by
 rintro value slice pins s σ H x y v u Q I rx ry ⟨d,e,M,R,r1,r2,rm,h,q⟩ hs;cases r2 with
 | int i =>
  cases r1 with
  | tup ht r =>
   obtain⟨d,e,h⟩:=(show ∃ v,L2.atI _ i=some v/\R v M from h);obtain⟨w,e1,r1⟩:=r.atI e;exact ix_tup value slice pins s σ H _ _ v u Q I rx ry ⟨_,_,_,_,rfl,rfl,ht,e1,q _ _ _ _ (.refl H) rm r1 h⟩ hs
  | fz ht r =>
   obtain⟨d,e,h⟩:=(show ∃ v,L2.atI _ i=some v/\R v M from h);obtain⟨w,e1,r1⟩:=r.atI e;exact ix_list value slice pins s σ H _ _ v u Q I rx ry ⟨_,_,_,_,rfl,rfl,ht.sq,e1,q _ _ _ _ (.refl H) rm r1 h⟩ hs
  | lst a =>
   obtain⟨xs,d,e0,e,h⟩:=(show ∃ xs v,M a=some (.ls xs)/\L2.atI xs i=some v/\R v M from h);obtain⟨vs,e1,r⟩:=rm _ _ e0;obtain⟨w,e1',r1⟩:=r.atI e;exact ix_list value slice pins s σ H _ _ v u Q I rx ry ⟨_,_,_,_,rfl,rfl,.of e1,e1',q _ _ _ _ (.refl H) rm r1 h⟩ hs
  | str z =>
   obtain⟨hz,c,e,h⟩:=(show z.length<=sizeLine/\∃ c,L2.atI z.cps.toList i=some c/\R (.str ⟨#[c]⟩) M from h);exact ix_str value slice pins s σ H _ _ v u Q I rx ry ⟨_,_,_,rfl,rfl,hz,e,q _ _ _ _ (.refl H) rm (.str _) h⟩ hs
  | _=>exact (show False from h).elim
 | str k =>
  obtain⟨xs,ds,w',rfl,e,h⟩:=iOp_str h;cases r1 with
  | sd T r =>
   obtain⟨z,e1,r1⟩:=sdAt_rel r e;exact ix_sd value slice pins s σ H _ _ v u Q I rx ry ⟨_,_,_,_,_,rfl,rfl,T,e1,q _ _ _ _ (.refl H) rm r1 h⟩ hs
 | _=>exact (iOp_int (by rintro i ⟨⟩) (by rintro i ⟨⟩) h).elim
noncomputable def cutG {α:Type} (xs:List α) (lo hi:Option Int):List α:=(xs.drop (HT.sIx xs.length 0 lo)).take (HT.sIx xs.length xs.length hi-HT.sIx xs.length 0 lo)
theorem RelDs.cut {K:Frag} {H:Hp} {vs:List V} {ds:List D} (r:RelDs K H vs ds) (lo hi:Option Int):RelDs K H (cutV vs lo hi) (cutG ds lo hi):=by
 unfold cutV cutG;rw[r.length];exact (r.drop _).take _
noncomputable def sOp (d:D) (lo hi:Option Int) (M:Mem) (Q:DK):Prop :=
 match d with
 | .fz xs=>alloc M (.ls (cutG xs lo hi)) fun p M'=>Q (.lst p) M'
 | .lst a=>∃ xs,M a=some (.ls xs)/\alloc M (.ls (cutG xs lo hi)) fun p M'=>Q (.lst p) M'
 | .tup xs=>Q (.tup (cutG xs lo hi)) M
 | _=>False
noncomputable def lift3 (K:Frag) (f:D->Option Int->Option Int->Mem->DK->Prop):V->Option Int->Option Int->Hp->VK->Prop:=fun x lo hi H Q=>∃ d M R,RelD K H x d/\RepM K H M/\f d lo hi M R/\∀ d' M' v H',HExt K H H'->RepM K H' M'->RelD K H' v d'->R d' M'->Q v H'
theorem sl_s:SlR X (lift3 X.K sOp):=by
 rintro pins s σ H x v vl vu lo hi sl Q I rx hs pl pu ⟨d,M,R,r1,rm,h,q⟩;cases r1 with
 | fz ht r =>
  exact sl_list pins s σ H _ v vl vu lo hi sl Q I rx hs pl pu ⟨_,_,rfl,ht.sq,fun p hp=>q _ _ _ _ (.upd (.inl hp)) (rm.lst hp (r.cut lo hi)) (.lst p) ((show alloc M (.ls (cutG _ lo hi)) fun p M'=>R (.lst p) M' from h).at (rm.none hp))⟩
 | lst a =>
  obtain⟨xs,e0,h⟩:=(show ∃ xs,M a=some (.ls xs)/\alloc M (.ls (cutG xs lo hi)) fun p M'=>R (.lst p) M' from h);obtain⟨vs,e1,r⟩:=rm _ _ e0;exact sl_list pins s σ H _ v vl vu lo hi sl Q I rx hs pl pu ⟨_,_,rfl,.of e1,fun p hp=>q _ _ _ _ (.upd (.inl hp)) (rm.lst hp (r.cut lo hi)) (.lst p) (h.at (rm.none hp))⟩
 | tup ht r =>
  rename_i vs ds;by_cases hw:HT.sIx vs.length 0 lo=0/\HT.sIx vs.length vs.length hi=vs.length
  ·have e:cutG ds lo hi=ds:=by
    unfold cutG;rw[<- r.length,hw.1,hw.2,List.drop_zero,Nat.sub_zero,r.length,List.take_length]
   have h':R (.tup (cutG ds lo hi)) M:=h;rw[e] at h';exact sl_tupW pins s σ H _ v vl vu lo hi sl Q I rx hs pl pu ⟨_,_,rfl,ht,hw,q _ _ _ _ (.refl H) rm (.tup ht r) h'⟩
  ·exact sl_tup pins s σ H _ v vl vu lo hi sl Q I rx hs pl pu ⟨_,_,rfl,ht,hw,fun p hp=>q _ _ _ _ (.upd (.inl hp)) (rm.tup hp) (.tup (.of upd_same) ((r.cut lo hi).ext (.upd (.inl hp)))) h⟩
 | _=>exact (show False from h).elim
noncomputable def fAbs:List D->Mem->DK->Prop
 | [.int i],M,Q=>Q (.int (if i<0 then -i else i)) M
 | _,_,_=>False
noncomputable def fMax:List D->Mem->DK->Prop
 | [.int i,.int j],M,Q=>Q (.int (if j > i then j else i)) M
 | _,_,_=>False
noncomputable def fMin:List D->Mem->DK->Prop
 | [.int i,.int j],M,Q=>Q (.int (if j<i then j else i)) M
 | _,_,_=>False
noncomputable def fStr:List D->Mem->DK->Prop
 | [.int i],M,Q=>i.natAbs.log2<1920/\Q (.str (toString i)) M
 | _,_,_=>False
noncomputable def fLen:List D->Mem->DK->Prop
 | [.tup xs],M,Q=>Q (.int xs.length) M
 | [.fz xs],M,Q=>Q (.int xs.length) M
 | [.lst a],M,Q=>∃ xs,M a=some (.ls xs)/\Q (.int xs.length) M
 | [.str z],M,Q=>z.length<=sizeLine/\Q (.int z.length) M
 | _,_,_=>False
noncomputable def fDivmod:List D->Mem->DK->Prop
 | [.int i,.int j],M,Q=>DivOk j/\Q (.tup [.int (i.fdiv j),.int (i.fmod j)]) M
 | _,_,_=>False
noncomputable def fTuple:List D->Mem->DK->Prop
 | [.tup xs],M,Q=>Q (.tup xs) M
 | [.fz xs],M,Q=>Q (.tup xs) M
 | [.lst a],M,Q=>∃ xs,M a=some (.ls xs)/\Q (.tup xs) M
 | _,_,_=>False
noncomputable def fList:List D->Mem->DK->Prop
 | [.tup xs],M,Q=>alloc M (.ls xs) fun p M'=>Q (.lst p) M'
 | [.fz xs],M,Q=>alloc M (.ls xs) fun p M'=>Q (.lst p) M'
 | [.lst a],M,Q=>∃ xs,M a=some (.ls xs)/\alloc M (.ls xs) fun p M'=>Q (.lst p) M'
 | _,_,_=>False
noncomputable def fInt:List D->Mem->DK->Prop
 | [.int i],M,Q=>Q (.int i) M
 | [.bl b],M,Q=>Q (.int (if b then 1 else 0)) M
 | _,_,_=>False
theorem RelDs.one {K:Frag} {H:Hp} {vs:List V} {d:D} (r:RelDs K H vs [d]):∃ v,vs=[v]/\RelD K H v d:=by
 cases r with|cons h q=>cases q;exact⟨_,rfl,h⟩
theorem RelDs.two {K:Frag} {H:Hp} {vs:List V} {d e:D} (r:RelDs K H vs [d,e]):∃ v w,vs=[v,w]/\RelD K H v d/\RelD K H w e:=by
 cases r with|cons h q=>cases q with|cons h' q'=>cases q';exact⟨_,_,rfl,h,h'⟩
theorem ca_abs:CallR X (.builtin "abs") (liftC X.K fAbs):=by
 refine (call_abs (X:=X)).imp ?_;rintro xs H Q ⟨ds,M,R,r,rm,h,q⟩;unfold fAbs at h;split at h
 ·obtain⟨v,rfl,ra⟩:=r.one;(first|cases (show _=_ from ra.inv)|cases ra);exact⟨_,rfl,q _ _ _ _ (.refl H) rm (.int _) h⟩
 ·exact h.elim
theorem ca_max (hc:X.calm=true):CallR X (.builtin "max") (liftC X.K fMax):=by
 refine (call_max2 (X:=X) hc).imp ?_;rintro xs H Q ⟨ds,M,R,r,rm,h,q⟩;unfold fMax at h;split at h
 ·obtain⟨v,w,rfl,r1,r2⟩:=r.two;(first|cases (show _=_ from r1.inv)|cases r1);(first|cases (show _=_ from r2.inv)|cases r2);exact⟨_,_,rfl,q _ _ _ _ (.refl H) rm (.int _) h⟩
 ·exact h.elim
theorem ca_min (hc:X.calm=true):CallR X (.builtin "min") (liftC X.K fMin):=by
 refine (call_min2 (X:=X) hc).imp ?_;rintro xs H Q ⟨ds,M,R,r,rm,h,q⟩;unfold fMin at h;split at h
 ·obtain⟨v,w,rfl,r1,r2⟩:=r.two;(first|cases (show _=_ from r1.inv)|cases r1);(first|cases (show _=_ from r2.inv)|cases r2);exact⟨_,_,rfl,q _ _ _ _ (.refl H) rm (.int _) h⟩
 ·exact h.elim
theorem ca_len:CallR X (.builtin "len") (liftC X.K fLen):=by
 refine (call_len_seq (X:=X) |>.or call_len_str).imp ?_;rintro xs H Q ⟨ds,M,R,r,rm,h,q⟩;unfold fLen at h;split at h
 ·obtain⟨v,rfl,ra⟩:=r.one;obtain⟨_,_,rfl,ht,r⟩:=ra.inv;exact .inl ⟨_,_,rfl,.inr ht,q _ _ _ _ (.refl H) rm (by rw[r.length];exact .int _) h⟩
 ·obtain⟨v,rfl,ra⟩:=r.one;obtain⟨_,_,rfl,ht,r⟩:=ra.inv;exact .inl ⟨_,_,rfl,.inl ht.sq,q _ _ _ _ (.refl H) rm (by rw[r.length];exact .int _) h⟩
 ·obtain⟨v,rfl,ra⟩:=r.one
  obtain⟨xs,e0,h⟩:=h;obtain⟨vs,e1,r'⟩:=rm _ _ e0
  (first|cases (show _=_ from ra.inv)|cases ra);exact .inl ⟨_,_,rfl,.inl (.of e1),q _ _ _ _ (.refl H) rm (by rw[r'.length];exact .int _) h⟩
 ·obtain⟨v,rfl,ra⟩:=r.one;(first|cases (show _=_ from ra.inv)|cases ra);exact .inr ⟨_,rfl,h.1,q _ _ _ _ (.refl H) rm (.int _) h.2⟩
 ·exact h.elim
theorem ca_divmod:CallR X (.builtin "divmod") (liftC X.K fDivmod):=by
 rintro pins s σ H xs us Q I rv ⟨ds,M,R,r,rm,h,q⟩;unfold fDivmod at h;split at h
 ·rename_i i j
  obtain⟨v,w,rfl,r1,r2⟩:=r.two;(first|cases (show _=_ from r1.inv)|cases r1);(first|cases (show _=_ from r2.inv)|cases r2);obtain⟨u,w',rfl,⟨t,rfl⟩,⟨t',rfl⟩⟩:=vals2 rv;refine divmod_int h.1.1 ?_ (.inl (PyProof.noPylong_of_log2 h.1.2));have hn:H s.heap.objs.size=none:=I.hok.fresh %[|3];refine⟨.ref s.heap.objs.size,upd H s.heap.objs.size (.tup [.int (i.fdiv j),.int (i.fmod j)]),?_,rfl,q _ _ _ _ (.upd (.inl hn)) (rm.tup hn) (.tup (.of upd_same) (.cons (.int _) (.cons (.int _) .nil))) h.2⟩;refine I.laid (fun b o e=>Heap.get?_push_of_some _ e) %[|3] ⟨by simp only[List.length_cons,List.length_nil];rw[sizeLine_eq];decide,[.int (i.fdiv j) s.toks,.int (i.fmod j) (s.toks+1)],.cons ⟨_,rfl⟩ (.cons ⟨_,rfl⟩ .nil),?_⟩;exact⟨_,Heap.get?_push_size s.heap rfl,rfl,0,rfl⟩
 ·exact h.elim
theorem ca_tuple:CallR X (.type "tuple") (liftC X.K fTuple):=by
 refine (call_tuple_of (X:=X)).imp ?_;rintro xs H Q ⟨ds,M,R,r,rm,h,q⟩;unfold fTuple at h;split at h
 ·obtain⟨v,rfl,ra⟩:=r.one;obtain⟨_,_,rfl,ht,r⟩:=ra.inv;exact⟨_,_,rfl,.inr ⟨ht,q _ _ _ _ (.refl H) rm (.tup ht r) h⟩⟩
 ·obtain⟨v,rfl,ra⟩:=r.one;obtain⟨_,_,rfl,ht,r⟩:=ra.inv;exact⟨_,_,rfl,.inl ⟨ht.sq,fun p hp=>q _ _ _ _ (.upd (.inl hp)) (rm.tup hp) (.tup (.of upd_same) (r.ext (.upd (.inl hp)))) h⟩⟩
 ·obtain⟨v,rfl,ra⟩:=r.one
  obtain⟨xs,e0,h⟩:=h;obtain⟨vs,e1,r'⟩:=rm _ _ e0
  (first|cases (show _=_ from ra.inv)|cases ra);exact⟨_,_,rfl,.inl ⟨.of e1,fun p hp=>q _ _ _ _ (.upd (.inl hp)) (rm.tup hp) (.tup (.of upd_same) (r'.ext (.upd (.inl hp)))) h⟩⟩
 ·exact h.elim
theorem ca_list:CallR X (.type "list") (liftC X.K fList):=by
 refine (call_list_of (X:=X)).imp ?_;rintro xs H Q ⟨ds,M,R,r,rm,h,q⟩;unfold fList at h;split at h
 ·obtain⟨v,rfl,ra⟩:=r.one;obtain⟨_,_,rfl,ht,r⟩:=ra.inv;exact⟨_,_,rfl,.inr ht,fun p hp=>q _ _ _ _ (.upd (.inl hp)) (rm.lst hp r) (.lst p) (h.at (rm.none hp))⟩
 ·obtain⟨v,rfl,ra⟩:=r.one;obtain⟨_,_,rfl,ht,r⟩:=ra.inv;exact⟨_,_,rfl,.inl ht.sq,fun p hp=>q _ _ _ _ (.upd (.inl hp)) (rm.lst hp r) (.lst p) (h.at (rm.none hp))⟩
 ·obtain⟨v,rfl,ra⟩:=r.one
  obtain⟨xs,e0,h⟩:=h;obtain⟨vs,e1,r'⟩:=rm _ _ e0
  (first|cases (show _=_ from ra.inv)|cases ra);exact⟨_,_,rfl,.inl (.of e1),fun p hp=>q _ _ _ _ (.upd (.inl hp)) (rm.lst hp r') (.lst p) (h.at (rm.none hp))⟩
 ·exact h.elim
end
end DL
end
noncomputable section
namespace DL
open PySem PySem.Spec PyProof.Rows L2
noncomputable def tyD (M:Mem):D->Option String
 | .non=>some "NoneType"
 | .bl _=>some "bool"
 | .int _=>some "int"
 | .str _=>some "str"
 | .tup _=>some "tuple"
 | .fz _=>some "list"
 | .lst a=>match M a with|some (.ls _)=>some "list" | _=>none
 | .dct a=>match M a with|some (.dk _)=>some "dict" | _=>none
 | .exc _ _=>some "exc"
 | _=>none
noncomputable def isiT (a b:String):Bool:=a==b || (a == "bool" && b == "int") || (a == "exc" && b == "ValueError")
noncomputable def fIsi:List D->Mem->DK->Prop
 | [d,.ty T],M,Q=>∃ t,tyD M d=some t/\(T="int"\/T="bool"\/T="str"\/T="tuple"\/T="list"\/T="dict"\/T="ValueError")/\Q (.bl (isiT t T)) M
 | [.non,.cls _],M,Q=>Q (.bl false) M
 | [d,.cls c],M,Q=>∃ m,d=.exc m (xarg d)/\Q (.bl (isSub m c)) M
 | [d,.tup cs],M,Q=>∃ m,∃ ns:List Str,d=.exc m (xarg d)/\cs=ns.map .cls/\Q (.bl (ns.any (isSub m))) M
 | _,_,_=>False
theorem kit_tab (K:Frag) (h:t="NoneType"\/t="bool"\/t="int"\/t="str"\/t="tuple"\/t="list"\/t="dict")
  (h':T="int"\/T="bool"\/T="str"\/T="tuple"\/T="list"\/T="dict"\/T="ValueError"):PySem.W.kitOne K (.type t) (.type T)=some (isiT t T):=by
 rcases h with rfl|rfl|rfl|rfl|rfl|rfl|rfl<;>rcases h' with rfl|rfl|rfl|rfl|rfl|rfl|rfl<;>kernel_rfl
section
variable {X:Cx} {rz:Bool} {Xe:DSt->DK}
theorem exc_inst (I:L2.Inv X pins σ H s) (r:RelD X.K H v (.exc n x)):∃ a C,v=.ref a/\n∈xNames/\ClsOf X.K n C/\∃ ox od,PySem.W.InstAt s.heap a ox C od:=by
 cases r with
 | @exc a C n hn hi hc h =>
  obtain⟨ob,vs,h1,h2,h3,h4⟩:=(I.hok _ _ h).1;exact⟨a,C,rfl,hn,hc,ob,none,h1,h2,by unfold PySem.W.notCls;rw[h4],by rw[h3];trivial⟩
 | @excF a C d n v x hn hi hc h hd r =>
  obtain⟨ob,vs,h1,h2,h3,h4⟩:=(I.hok _ _ h).1;obtain⟨o,ho⟩:=(I.hok _ _ hd).2.1;exact⟨a,C,rfl,hn,hc,ob,some o,h1,h2,by unfold PySem.W.notCls;rw[h4],by rw[h3];exact ho⟩
theorem ca_isi (tab:xTabB X.K=true):CallR X (.builtin "isinstance") (liftC X.K fIsi):=by
 rintro pins s σ H xs us Q I rv ⟨ds,M,R,r,rm,h,q⟩;unfold fIsi at h;split at h
 ·rename_i d T
  obtain⟨v,w,rfl,r1,r2⟩:=r.two;(first|cases (show _=_ from r2.inv)|cases r2);obtain⟨u,w',rfl,ru,rw'⟩:=vals2 rv;cases (show w'=Value.type T from rw');obtain⟨t,e,hT,h⟩:=h;have fin:∀ tk,EP X pins σ Q (.bool (isiT t T)) {s with toks:=tk}:=fun tk=>⟨.bl _,H,I.tok tk,rfl,q _ _ _ _ (.refl H) rm (.bl _) h⟩;cases r1 with
  | non=>cases e;cases (show u=Value.none from ru);exact PySem.W.kia_one PySem.W.kitx_none I.kIn True.intro (kit_tab _ (by simp) hT) (fun z=>nomatch z) fin
  | bl b=>cases e;cases (show u=Value.bool b from ru);exact PySem.W.kia_one PySem.W.kitx_bool I.kIn True.intro (kit_tab _ (by simp) hT) (fun z=>nomatch z) fin
  | int i=>cases e;obtain⟨t,rfl⟩:=(show ∃ t,u=Value.int i t from ru);exact PySem.W.kia_one PySem.W.kitx_int I.kIn True.intro (kit_tab _ (by simp) hT) (fun z=>nomatch z) fin
  | str x=>cases e;obtain⟨t,rfl⟩:=(show ∃ t,u=Value.str x t from ru);exact PySem.W.kia_one PySem.W.kitx_str I.kIn True.intro (kit_tab _ (by simp) hT) (fun z=>nomatch z) fin
  | @tup a vs ds ht _ =>
   cases e;cases (show u=Value.ref a from ru);obtain⟨its,_,⟨o,h1,h2,_⟩,_⟩:=I.tuple ht;exact PySem.W.kia_one PySem.W.kitx_tuple I.kIn ⟨o,h1,h2⟩ (kit_tab _ (by simp) hT) (fun z=>nomatch z) fin
  | @fz a vs ds ht _ =>
   cases e;cases (show u=Value.ref a from ru);obtain⟨its,_,⟨o,n,h1,h2,_⟩,_⟩:=I.list ht.sq;exact PySem.W.kia_one PySem.W.kitx_list I.kIn ⟨o,h1,h2⟩ (kit_tab _ (by simp) hT) (fun z=>nomatch z) fin
  | lst a =>
   cases (show u=Value.ref a from ru);simp only[tyD] at e;split at e<;>cases e;rename_i ds e0;obtain⟨vs,e1,_⟩:=rm _ _ e0;obtain⟨its,_,⟨o,n,h1,h2,_⟩,_⟩:=I.list (.of e1);exact PySem.W.kia_one PySem.W.kitx_list I.kIn ⟨o,h1,h2⟩ (kit_tab _ (by simp) hT) (fun z=>nomatch z) fin
  | dct a =>
   cases (show u=Value.ref a from ru);simp only[tyD] at e;split at e<;>cases e;rename_i ds e0;obtain⟨vs,e1,_⟩:=rm _ _ e0;obtain⟨_,_,vs,_,p⟩:=(show ObjOk X.prog X.w H s.heap a (.dK vs) from I.hok a _ e1);obtain⟨o,es,ep,h1,h2,_⟩:=p;exact PySem.W.kia_one PySem.W.kitx_dict I.kIn ⟨o,h1,h2.1⟩ (kit_tab _ (by simp) hT) (fun z=>nomatch z) fin
  | @exc a C n hn hi hc hx =>
   obtain⟨a,C,ev,hn,hc,hx⟩:=exc_inst I (.exc hn hi hc hx);cases ev;cases e;cases (show u=Value.ref a from ru);have e:isiT "exc" T=(T == "ValueError"):=by rcases hT with rfl|rfl|rfl|rfl|rfl|rfl|rfl<;>decide
   rw[e] at fin;exact PySem.W.kia_one (kitx_exc (xTab_row tab hn hc).1) I.kIn hx ((xTab_row tab hn hc).2.2.1 T hT) (fun z=>nomatch z) fin
  | @excF a C d n v x hn hi hc hx hd rr0 =>
   obtain⟨a,C,ev,hn,hc,hx⟩:=exc_inst I (.excF hn hi hc hx hd rr0);cases ev;cases e;cases (show u=Value.ref a from ru);have e:isiT "exc" T=(T == "ValueError"):=by rcases hT with rfl|rfl|rfl|rfl|rfl|rfl|rfl<;>decide
   rw[e] at fin;exact PySem.W.kia_one (kitx_exc (xTab_row tab hn hc).1) I.kIn hx ((xTab_row tab hn hc).2.2.1 T hT) (fun z=>nomatch z) fin
  | _=>cases e
 ·rename_i c
  obtain⟨v,w,rfl,r1,r2⟩:=r.two;obtain⟨u,w',rfl,ru,rw'⟩:=vals2 rv
  (first|cases (show _=_ from r1.inv)|cases r1)
  cases r2 with
  | @cls D' c' hn' hc' =>
   cases (show w'=Value.ref D' from rw');cases (show u=Value.none from ru);exact PySem.W.kia_one PySem.W.kitx_none I.kIn True.intro (nTab_row tab hn' hc') (fun z=>nomatch z) fun tk=>⟨.bl _,H,I.tok tk,rfl,q _ _ _ _ (.refl H) rm (.bl _) h⟩
 ·rename_i d c _
  obtain⟨v,w,rfl,r1,r2⟩:=r.two;obtain⟨u,w',rfl,ru,rw'⟩:=vals2 rv;obtain⟨m,ed,h⟩:=h;rw[ed] at r1;cases r2 with
  | @cls D' c' hn' hc' =>
   cases (show w'=Value.ref D' from rw');obtain⟨a,C,ev,hn,hc,hx⟩:=exc_inst I r1;subst ev
   ·cases (show u=Value.ref a from ru)
    have fin:∀ tk,EP X pins σ Q (.bool (isSub m c)) {s with toks:=tk}:=fun tk=>⟨.bl _,H,I.tok tk,rfl,q _ _ _ _ (.refl H) rm (.bl _) h⟩;exact PySem.W.kia_one (kitx_exc (xTab_row tab hn hc).1) I.kIn hx ((xTab_row tab hn hc).2.2.2 c D' hn' hc').2 (fun z=>nomatch z) fin
 ·rename_i d cs
  obtain⟨v,w,rfl,r1,r2⟩:=r.two;obtain⟨u,w',rfl,ru,rw'⟩:=vals2 rv;obtain⟨m,ns,ed,rfl,h⟩:=h;rw[ed] at r1;obtain⟨b,vs,rfl,ht,rr⟩:=r2.inv;cases (show w'=Value.ref b from rw');obtain⟨a,C,ev,hn,hc,hx⟩:=exc_inst I r1;subst ev
  ·cases (show u=Value.ref a from ru)
   obtain⟨its,rv2,⟨o,h1,h2,n2,h3⟩,_⟩:=I.tuple ht;have key:∀ {ns:List Str} {vs:List V} {its:List Value},RelDs X.K H vs (ns.map .cls)->Vals vs its->PySem.W.kitAny X.K (.ref C) its=some (ns.any (isSub m)):=by
    intro ns
    induction ns with
    | nil=>intro vs its r q;(first|cases (show _=_ from r.inv)|cases r);cases q;rfl
    | cons c ns ih =>
     intro vs its r q;cases r with
     | cons e r =>
      cases e with
      | @cls D' c' hn' hc' =>
       cases q with
       | cons e2 q =>
        cases e2;have k1:=((xTab_row tab hn hc).2.2.2 c D' hn' hc').2;show (match PySem.W.kitOne X.K (.ref C) (.ref D') with|some true=>some true|some false=>PySem.W.kitAny X.K (.ref C) _|none=>none)=_;rw[k1,List.any_cons];cases isSub m c with
        | true=>rfl
        | false=>exact ih r q
   have fin:∀ tk,EP X pins σ Q (.bool (ns.any (isSub m))) {s with toks:=tk}:=fun tk=>⟨.bl _,H,I.tok tk,rfl,q _ _ _ _ (.refl H) rm (.bl _) h⟩;obtain⟨oc,od,odt,osl⟩:=o;cases h2;cases h3;exact PySem.W.kia_tup (kitx_exc (xTab_row tab hn hc).1) I.kIn hx h1 (key rr rv2) (fun z=>nomatch z) fin
 ·exact h.elim
noncomputable def fAll:List D->Mem->DK->Prop
 | [.lst a],M,Q=>∃ bs:List Bool,M a=some (.ls (bs.map .bl))/\Q (.bl (bs.all id)) M
 | _,_,_=>False
noncomputable def fAny:List D->Mem->DK->Prop
 | [.lst a],M,Q=>∃ bs:List Bool,M a=some (.ls (bs.map .bl))/\Q (.bl (bs.any id)) M
 | _,_,_=>False
theorem bools_are {K:Frag} {H:Hp} {bs:List Bool}:∀ {vs:List V} {us:List Value},RelDs K H vs (bs.map .bl)->Vals vs us->LSm.BoolsAre us bs:=by
 induction bs with
 | nil=>intro vs us r q;(first|cases (show _=_ from r.inv)|cases r);cases q;exact .nil
 | cons b bs ih =>
  intro vs us r q;cases r with
  | cons rb r =>
   (first|cases (show _=_ from rb.inv)|cases rb)
   cases q with
   | cons e q =>
    cases e;exact .cons _ (ih r q)
theorem ca_all (hc:X.calm=true):CallR X (.builtin "all") (liftC X.K fAll):=by
 rintro pins s σ H xs us Q I rv ⟨ds,M,R,r,rm,h,q⟩;unfold fAll at h;split at h
 ·rename_i a
  obtain⟨v,rfl,ra⟩:=r.one;(first|cases (show _=_ from ra.inv)|cases ra);obtain⟨u,rfl,ru⟩:=vals1 rv;cases (show u=Value.ref a from ru);obtain⟨bs,e0,h⟩:=h;obtain⟨vs,e1,r1⟩:=rm _ _ e0;obtain⟨its,r2,pl,_⟩:=I.list (.of e1);have hb:=bools_are r1 r2;have hl:=pl.isList;have hlt:a<s.heap.objs.size:=by obtain⟨_,e,_⟩:=hl;exact Heap.lt_size e
  refine call_all_walk (wpAny_pyIter_list hl ?_);refine⟨s.heap.objs.size,[s.heap.objs.size,a],[s.heap.objs.size],its.toArray.size,_,_,fun i=>(bs[i]?).getD true,rfl,Walks.list (A:=X.A.in1) (I.ok.hd hc) _ a (Nat.ne_of_lt hlt) its.toArray,
   ⟨⟨_,Heap.get?_push_size _ rfl,rfl,rfl⟩,hl.push _⟩,fun i v s' Q' E' hP hQ=>?_,fun h' tk hk=>?_⟩
  ·obtain⟨b,e,rfl⟩:=hb.get i v (by simpa using hP)
   simp only[e,Option.getD_some] at hQ;exact wpAny_truthy_bool hQ
  ·have e:((List.range its.toArray.size).all fun i=>(bs[i]?).getD true)=bs.all id:=by
    rw[List.size_toArray,hb.length];exact LSm.range_all bs
   rw[e];exact⟨.bl _,H,I.kept (LSm.kept_iter hk),rfl,q _ _ _ _ (.refl H) rm (.bl _) h⟩
 ·exact h.elim
theorem ca_any (hc:X.calm=true):CallR X (.builtin "any") (liftC X.K fAny):=by
 rintro pins s σ H xs us Q I rv ⟨ds,M,R,r,rm,h,q⟩;unfold fAny at h;split at h
 ·rename_i a
  obtain⟨v,rfl,ra⟩:=r.one;(first|cases (show _=_ from ra.inv)|cases ra);obtain⟨u,rfl,ru⟩:=vals1 rv;cases (show u=Value.ref a from ru);obtain⟨bs,e0,h⟩:=h;obtain⟨vs,e1,r1⟩:=rm _ _ e0;obtain⟨its,r2,pl,_⟩:=I.list (.of e1);have hb:=bools_are r1 r2;have hl:=pl.isList;have hlt:a<s.heap.objs.size:=by obtain⟨_,e,_⟩:=hl;exact Heap.lt_size e
  refine call_any_walk (wpAny_pyIter_list hl ?_);refine⟨s.heap.objs.size,[s.heap.objs.size,a],[s.heap.objs.size],its.toArray.size,_,_,fun i=>(bs[i]?).getD false,rfl,Walks.list (A:=X.A.in1) (I.ok.hd hc) _ a (Nat.ne_of_lt hlt) its.toArray,
   ⟨⟨_,Heap.get?_push_size _ rfl,rfl,rfl⟩,hl.push _⟩,fun i v s' Q' E' hP hQ=>?_,fun h' tk hk=>?_⟩
  ·obtain⟨b,e,rfl⟩:=hb.get i v (by simpa using hP)
   simp only[e,Option.getD_some] at hQ;exact wpAny_truthy_bool hQ
  ·have e:((List.range its.toArray.size).any fun i=>(bs[i]?).getD false)=bs.any id:=by
    rw[List.size_toArray,hb.length];exact LSm.range_any bs
   rw[e];exact⟨.bl _,H,I.kept (LSm.kept_iter hk),rfl,q _ _ _ _ (.refl H) rm (.bl _) h⟩
 ·exact h.elim
end
noncomputable def truD (d:D) (M:Mem) (Q:Bool->Mem->Prop):Prop :=
 match d with
 | .non=>Q false M
 | .bl b=>Q b M
 | .int i=>Q (i != 0) M
 | .str y=>y.length<=sizeLine/\Q ((y.length:Int) != 0) M
 | .tup xs=>Q (!xs.isEmpty) M
 | .fz xs=>Q (!xs.isEmpty) M
 | .lst a=>∃ xs,M a=some (.ls xs)/\Q (!xs.isEmpty) M
 | _=>False
noncomputable def dTru (t:DE):DT:=fun δ M Q=>t δ M fun d M1=>truD d M1 Q
section
variable {X:Cx} {rz:Bool} {Xe:DSt->DK} {a b c e:Expr} {es rest:List Expr} {ta tb tc:DE} {t:DA} {tA tB:DT} {pos:Pos}
theorem RelDs.isEmpty {K:Frag} {H:Hp} {vs:List V} {ds:List D} (r:RelDs K H vs ds):vs.isEmpty=ds.isEmpty:=by cases r<;>rfl
theorem dt_tru (ha:PE X a (lift (X.L rz Xe) ta)) (he:∀ whole,isTrue a X.env whole=(do let v <- whole;standAt a.pos;holding [v] (truthy v))):PT X a (liftT (X.L rz Xe) (dTru ta)) :=
 (pt_truth ha he).imp fun σ H Q ⟨δ,M,R,rs,rm,t,q⟩=>⟨δ,M,_,rs,rm,t,fun d M' v H' x m r h=>by
  cases r with
  | non=>exact⟨_,rfl,q _ _ _ x m h⟩
  | bl b=>exact⟨_,rfl,q _ _ _ x m h⟩
  | int i=>exact⟨_,rfl,q _ _ _ x m h⟩
  | str y=>exact⟨_,⟨h.1,rfl⟩,q _ _ _ x m h.2⟩
  | tup ht r=>exact⟨_,.inr (.inl ⟨_,ht,rfl⟩),q _ _ _ x m (by rw[r.isEmpty];exact h)⟩
  | fz ht r=>exact⟨_,.inl ⟨_,ht.sq,rfl⟩,q _ _ _ x m (by rw[r.isEmpty];exact h)⟩
  | lst a =>
   obtain⟨xs,e0,h⟩:=h;obtain⟨vs,e1,r⟩:=m _ _ e0;exact⟨_,.inl ⟨_,.of e1,rfl⟩,q _ _ _ x m (by rw[r.isEmpty];exact h)⟩
  | _=>exact (show False from h).elim⟩
theorem dt_cmp (hu:X.A.units+66<cLine) (ha:PE X a (lift (X.L rz Xe) ta)) (hb:PE X b (lift (X.L rz Xe) tb)) (hm:behindInMarks op b=false):PT X (.Compare a [op] [b] pos) (liftT (X.L rz Xe) (dTest (d2 (cOp op) ta tb))) :=
 (pt_cmpR (op_c hu op) ha hb hm).imp fun σ H Q ⟨δ,M,R,rs,rm,t,q⟩=>d2_op ⟨δ,M,_,rs,rm,t,fun d M' v H' x m r ⟨k,e,h⟩=>by
  subst e;(first|cases (show _=_ from r.inv)|cases r);exact⟨k,rfl,q _ _ _ x m h⟩⟩
theorem de_cmp (hu:X.A.units+66<cLine) (ha:PE X a (lift (X.L rz Xe) ta)) (hb:PE X b (lift (X.L rz Xe) tb)) (hm:behindInMarks op b=false):PE X (.Compare a [op] [b] pos) (lift (X.L rz Xe) (d2 (cOp op) ta tb)) :=
 (pe_cmpR (op_c hu op) ha hb hm).imp fun _ _ _=>d2_op
noncomputable def dChain (f g:D->D->Mem->DK->Prop) (ta tb tc:DE):DE:=fun δ M Q=>ta δ M fun x M1=>tb δ M1 fun y M2=>f x y M2 fun z M3=>∃ k,z=.bl k/\if k=true then tc δ M3 fun w M4=>g y w M4 Q else Q (.bl false) M3
theorem dChain_op (h:lift Λ (dChain f g ta tb tc) σ H Q):tChain (lift2 Λ.K f) (lift2 Λ.K g) (lift Λ ta) (lift Λ tb) (lift Λ tc) σ H Q:=by
 obtain⟨δ,M,R,rs,rm,t,q⟩:=h;refine seq2 (R:=fun x y M2=>f x y M2 _) rs rm t fun x y M2 v u H2 x2 m2 r1 r2 t2=>⟨x,y,M2,_,r1,r2,m2,t2,fun d M3 w H3 x3 m3 r3 hq7=>?_⟩;obtain⟨k,e,h⟩:=hq7;subst e;cases r3;refine⟨k,rfl,?_⟩;cases k with
 | true=>exact⟨δ,M3,_,rs.ext (x2.trans x3),m3,h,fun z M4 w4 H4 x4 m4 r4 h4=>⟨y,z,M4,R,(r2.ext x3).ext x4,r4,m4,h4,fun d' M' v' H' x5 m5 r5=>q d' M' v' H' (((x2.trans x3).trans x4).trans x5) m5 r5⟩⟩
 | false=>exact q _ _ _ _ (x2.trans x3) m3 (.bl false) h
theorem de_chain (hu:X.A.units+66<cLine) (ha:PE X a (lift (X.L rz Xe) ta)) (hb:PE X b (lift (X.L rz Xe) tb)) (hc:PE X c (lift (X.L rz Xe) tc)) (hm:lastMarks [op,op'] [b,c]=false) :
  PE X (.Compare a [op,op'] [b,c] pos) (lift (X.L rz Xe) (dChain (cOp op) (cOp op') ta tb tc)):=(pe_chain (op_c hu op) (op_c hu op') ha hb hc hm).imp fun _ _ _=>dChain_op
theorem dt_chain (hu:X.A.units+66<cLine) (ha:PE X a (lift (X.L rz Xe) ta)) (hb:PE X b (lift (X.L rz Xe) tb)) (hc:PE X c (lift (X.L rz Xe) tc)) (hm:lastMarks [op,op'] [b,c]=false) :
  PT X (.Compare a [op,op'] [b,c] pos) (liftT (X.L rz Xe) (dTest (dChain (cOp op) (cOp op') ta tb tc))):=by
 refine (pt_chain (op_c hu op) (op_c hu op') ha hb hc hm).imp ?_;rintro σ H Q ⟨δ,M,R,rs,rm,t,q⟩;exact dChain_op ⟨δ,M,_,rs,rm,t,fun d M' v H' x m r ⟨k,e,h⟩=>by
  subst e;(first|cases (show _=_ from r.inv)|cases r);exact⟨k,rfl,q _ _ _ x m h⟩⟩
theorem PW.imp {t t':TT} (h:PW X a t) (i:∀ σ H Q,t' σ H Q->t σ H Q):PW X a t':=fun whole pins s σ H Q I q=>h whole pins s σ H Q I (i _ _ _ q)
theorem dw_and (ha:PT X a (liftT (X.L rz Xe) tA)) (hb:PW X (.BoolOp .And (b::rest) pos) (liftT (X.L rz Xe) tB)):PW X (.BoolOp .And (a::b::rest) pos) (liftT (X.L rz Xe) (dAnd tA tB)) :=
 PW.imp (pw_and ha hb) fun σ H Q ⟨δ,M,R,rs,rm,t,q⟩=>⟨δ,M,_,rs,rm,t,fun k M' H' x m h=>by
  cases k with
  | true=>exact⟨δ,M',R,rs.ext x,m,h,fun b M2 H2 x2 m2=>q b M2 H2 (x.trans x2) m2⟩
  | false=>exact q _ _ _ x m h⟩
theorem dw_or (ha:PT X a (liftT (X.L rz Xe) tA)) (hb:PW X (.BoolOp .Or (b::rest) pos) (liftT (X.L rz Xe) tB)):PW X (.BoolOp .Or (a::b::rest) pos) (liftT (X.L rz Xe) (dOr tA tB)) :=
 PW.imp (pw_or ha hb) fun σ H Q ⟨δ,M,R,rs,rm,t,q⟩=>⟨δ,M,_,rs,rm,t,fun k M' H' x m h=>by
  cases k with
  | false=>exact⟨δ,M',R,rs.ext x,m,h,fun b M2 H2 x2 m2=>q b M2 H2 (x.trans x2) m2⟩
  | true=>exact q _ _ _ x m h⟩
theorem dt_not (ha:PT X a (liftT (X.L rz Xe) tA)):PT X (.UnaryOp .Not a pos) (liftT (X.L rz Xe) (dNot tA)) :=
 (pt_not ha).imp (by rintro σ H Q ⟨δ,M,R,rs,rm,t,q⟩;exact⟨δ,M,_,rs,rm,t,fun k M' H' x m h=>q _ _ _ x m h⟩)
theorem de_and (ha:PE X a (lift (X.L rz Xe) ta)) (hb:PE X (.BoolOp .And (b::rest) pos) (lift (X.L rz Xe) tb)):PE X (.BoolOp .And (a::b::rest) pos) (lift (X.L rz Xe) (dAndV ta tb)) :=
 (pe_and ha hb).imp fun σ H Q ⟨δ,M,R,rs,rm,t,q⟩=>⟨δ,M,_,rs,rm,t,fun d M' v H' x m r ⟨k,e,h⟩=>by
  subst e;(first|cases (show _=_ from r.inv)|cases r);refine⟨k,rfl,?_⟩;cases k with
  | true=>exact⟨δ,M',R,rs.ext x,m,h,fun d' M2 v' H2 x2 m2=>q d' M2 v' H2 (x.trans x2) m2⟩
  | false=>exact q _ _ _ _ x m (.bl false) h⟩
theorem de_or (ha:PE X a (lift (X.L rz Xe) ta)) (hb:PE X (.BoolOp .Or (b::rest) pos) (lift (X.L rz Xe) tb)):PE X (.BoolOp .Or (a::b::rest) pos) (lift (X.L rz Xe) (dOrV ta tb)) :=
 (pe_or ha hb).imp fun σ H Q ⟨δ,M,R,rs,rm,t,q⟩=>⟨δ,M,_,rs,rm,t,fun d M' v H' x m r ⟨k,e,h⟩=>by
  subst e;(first|cases (show _=_ from r.inv)|cases r);refine⟨k,rfl,?_⟩;cases k with
  | false=>exact⟨δ,M',R,rs.ext x,m,h,fun d' M2 v' H2 x2 m2=>q d' M2 v' H2 (x.trans x2) m2⟩
  | true=>exact q _ _ _ _ x m (.bl true) h⟩
noncomputable def dNotB (ta:DE):DE:=fun δ M Q=>ta δ M fun x M1=>∃ k,x=.bl k/\Q (.bl (!k)) M1
theorem de_not (ha:PE X a (lift (X.L rz Xe) ta)):PE X (.UnaryOp .Not a pos) (lift (X.L rz Xe) (dNotB ta)) :=
 (pe_not ha).imp fun σ H Q ⟨δ,M,R,rs,rm,t,q⟩=>⟨δ,M,_,rs,rm,t,fun d M' v H' x m r ⟨k,e,h⟩=>by
  subst e;(first|cases (show _=_ from r.inv)|cases r);exact⟨k,rfl,q _ _ _ _ x m (.bl _) h⟩⟩
noncomputable def dNeg (ta:DE):DE:=fun δ M Q=>ta δ M fun x M1=>∃ i,x=.int i/\Q (.int (-i)) M1
theorem de_neg (ha:PE X a (lift (X.L rz Xe) ta)):PE X (.UnaryOp .USub a pos) (lift (X.L rz Xe) (dNeg ta)) :=
 (pe_un un_neg ha).imp fun σ H Q ⟨δ,M,R,rs,rm,t,q⟩=>⟨δ,M,_,rs,rm,t,fun d M' v H' x m r ⟨k,e,h⟩=>by
  subst e;(first|cases (show _=_ from r.inv)|cases r);exact⟨k,rfl,q _ _ _ _ x m (.int _) h⟩⟩
theorem de_ife (hc:PT X c (liftT (X.L rz Xe) tA)) (ha:PE X a (lift (X.L rz Xe) ta)) (hb:PE X b (lift (X.L rz Xe) tb)):PE X (.IfExp c a b pos) (lift (X.L rz Xe) (dIfE tA ta tb)) :=
 (pe_ifExp hc ha hb).imp fun σ H Q ⟨δ,M,R,rs,rm,t,q⟩=>⟨δ,M,_,rs,rm,t,fun k M' H' x m h=>by
  cases k with
  | true=>exact⟨δ,M',R,rs.ext x,m,h,fun d' M2 v' H2 x2 m2=>q d' M2 v' H2 (x.trans x2) m2⟩
  | false=>exact⟨δ,M',R,rs.ext x,m,h,fun d' M2 v' H2 x2 m2=>q d' M2 v' H2 (x.trans x2) m2⟩⟩
theorem da_nil:PA X [] (liftA (X.L rz Xe) dNil):=by
 refine (pa_nil).imp ?_;rintro σ H Q ⟨δ,M,R,rs,rm,t,q⟩;exact q [] M [] H (.refl H) rm .nil t
theorem da_cons (ha:PE X e (lift (X.L rz Xe) ta)) (hr:PA X es (liftA (X.L rz Xe) t)) (hs:starEach (e::es) X.env=(false,eval e X.env)::starEach es X.env):PA X (e::es) (liftA (X.L rz Xe) (dCons ta t)) :=
 (pa_cons ha hr hs).imp (by rintro σ H Q ⟨δ,M,R,rs,rm,t,q⟩;exact⟨δ,M,_,rs,rm,t,fun d M' v H' x m r h=>⟨δ,M',_,rs.ext x,m,h,fun ds M2 vs H2 x2 m2 r2 h2=>q _ _ _ _ (x.trans x2) m2 (.cons (r.ext x2) r2) h2⟩⟩)
theorem de_tup {x1} (h:PA X es (liftA (X.L rz Xe) t)):PE X (.Tuple es x1 pos) (lift (X.L rz Xe) (dTup t)) :=
 (pe_tup h).imp (by rintro σ H Q ⟨δ,M,R,rs,rm,t,q⟩;exact⟨δ,M,_,rs,rm,t,(by rintro ds M' vs H' x m r ⟨hz,h⟩;exact⟨by rw[r.length];exact hz,fun p hp=>q _ _ _ _ (x.trans (.upd (.inl hp))) (m.tup hp) (.tup (.of upd_same) (r.ext (.upd (.inl hp)))) h⟩)⟩)
theorem de_lst (h:PA X es (liftA (X.L rz Xe) t)):PE X (.List es pos) (lift (X.L rz Xe) (dLst t)) :=
 (pe_lst h).imp (by rintro σ H Q ⟨δ,M,R,rs,rm,t,q⟩;exact⟨δ,M,_,rs,rm,t,(by rintro ds M' vs H' x m r ⟨hz,h⟩;exact⟨by rw[r.length];exact hz,fun p hp=>q _ _ _ _ (x.trans (.upd (.inl hp))) (m.lst hp r) (.lst p) (h.at (m.none hp))⟩)⟩)
theorem de_ix (ha:PE X a (lift (X.L rz Xe) ta)) (hb:PE X b (lift (X.L rz Xe) tb)) (hs:PlainIx b):PE X (.Subscript a b pos) (lift (X.L rz Xe) (d2 iOp ta tb)):=(pe_ix ix_i ha hb hs).imp fun _ _ _=>d2_op
abbrev DO:=DSt->Mem->(Option Int->Mem->Prop)->Prop
noncomputable def liftO (Λ:LK) (t:DO):TO:=fun σ H Q=>∃ δ M R,RepS Λ H δ σ/\RepM Λ.K H M/\t δ M R/\∀ o M' H',HExt Λ.K H H'->RepM Λ.K H' M'->R o M'->Q o H'
noncomputable def dNoPart:DO:=fun _ M Q=>Q none M
noncomputable def dPart (t:DE):DO:=fun δ M Q=>t δ M fun x M1=>∃ i,x=.int i/\Q (some i) M1
theorem PO.imp {e:Option Expr} {t t':TO} (h:PO X e t) (i:∀ σ H Q,t' σ H Q->t σ H Q):PO X e t':=fun pins s σ H Q I q=>h pins s σ H Q I (i _ _ _ q)
theorem do_none:PO X none (liftO (X.L rz Xe) dNoPart):=PO.imp po_none (by rintro σ H Q ⟨δ,M,R,rs,rm,t,q⟩;exact q _ _ _ (.refl H) rm t)
theorem do_some (h:PE X e (lift (X.L rz Xe) ta)):PO X (some e) (liftO (X.L rz Xe) (dPart ta)):=PO.imp (po_some h) fun σ H Q ⟨δ,M,R,rs,rm,t,q⟩=>⟨δ,M,_,rs,rm,t,fun d M' v H' x m r ⟨i,e,h⟩=>by
  subst e;(first|cases (show _=_ from r.inv)|cases r);exact⟨i,rfl,q _ _ _ x m h⟩⟩
noncomputable def dSl (te:DE) (tl th:DO):DE:=fun δ M Q=>te δ M fun x M1=>tl δ M1 fun l M2=>th δ M2 fun u M3=>sOp x l u M3 Q
theorem de_sl {lo hi:Option Expr} {tl th:DO} {p2:Pos} (he:PE X e (lift (X.L rz Xe) ta)) (hl:PO X lo (liftO (X.L rz Xe) tl)) (hu:PO X hi (liftO (X.L rz Xe) th)):PE X (.Subscript e (.Slice lo hi none p2) pos) (lift (X.L rz Xe) (dSl ta tl th)) :=
 (pe_slice sl_s he hl hu).imp fun σ H Q ⟨δ,M,R,rs,rm,t,q⟩=>⟨δ,M,_,rs,rm,t,fun d M1 v H1 x1 m1 r1 h1=>⟨δ,M1,_,rs.ext x1,m1,h1,fun l M2 H2 x2 m2 h2=>⟨δ,M2,_,rs.ext (x1.trans x2),m2,h2,fun u M3 H3 x3 m3 h3 =>
  ⟨d,M3,R,(r1.ext x2).ext x3,m3,h3,fun d' M' v' H' x4 m4 r4=>q d' M' v' H' (((x1.trans x2).trans x3).trans x4) m4 r4⟩⟩⟩⟩
theorem dCB_op (h:lift Λ (dCB f t) σ H Q):tCB (liftC Λ.K f) (liftA Λ t) σ H Q:=by
 obtain⟨δ,M,R,rs,rm,t,q⟩:=h;exact⟨δ,M,_,rs,rm,t,fun ds M' vs H' x m r h=>⟨ds,M',R,r,m,h,fun d' M2 v' H2 x2 m2 r2=>q d' M2 v' H2 (x.trans x2) m2 r2⟩⟩
end
end DL
end
noncomputable section
namespace DL
open PySem PySem.Spec PyProof.Rows L2
section
variable {K:Frag} {H:Hp} {M:Mem}
end
noncomputable def keyD:D->Option Key
 | .int i=>some (.inl i)
 | .str x=>some (.inr x)
 | _=>none
noncomputable def dDic0:DE:=fun _ M Q=>alloc M (.dk []) fun p M'=>Q (.dct p) M'
noncomputable def dDic1 (tk tv:DE):DE:=fun δ M Q=>∀ p,M p=none->tk δ (M.upd p (.dk [])) fun x M1=>tv δ M1 fun y M2=>M2 p=some (.dk [])/\∃ k,keyD x=some k/\Q (.dct p) (M2.upd p (.dk [(k,y)]))
section
variable {X:Cx} {rz:Bool} {Xe:DSt->DK} {a b:Expr} {ta tb:DE} {pos:Pos}
end
end DL
end
noncomputable section
namespace DL
open PySem PySem.Spec PyProof.Rows L2
section
variable {X:Cx} {a b c d:Expr} {pos:Pos} {ta tb tc td:TE}
noncomputable def tChain3 (r r' r'':R2) (ta tb tc td:TE):TE:=fun σ H Q=>ta σ H fun x H1=>tb σ H1 fun y H2=>r x y H2 fun z H3=>∃ k,z=.bl k /\
 (if k=true then tc σ H3 fun w' H4=>r' y w' H4 fun z' H5=>∃ k',z'=.bl k'/\(if k'=true then td σ H5 fun v' H6=>r'' w' v' H6 Q else Q (.bl false) H5) else Q (.bl false) H3)
theorem pe_chain3 (ho:OpR X (compareOp op) r) (ho':OpR X (compareOp op') r') (ho'':OpR X (compareOp op'') r'') (ha:PE X a ta) (hb:PE X b tb) (hc:PE X c tc) (hd:PE X d td)
  (hm:lastMarks [op,op',op''] [b,c,d]=false):PE X (.Compare a [op,op',op''] [b,c,d] pos) (tChain3 r r' r'' ta tb tc td):=by
 intro pins s σ H Q I h;refine Compare_chain (thn (ha pins s σ H _ I h) fun v s1 ⟨x,H1,I1,r1,q1⟩=>chain_link (thn (hb pins s1 σ H1 _ I1 q1) fun u s2 ⟨y,H2,I2,r2,q2⟩ =>
  thn (ho pins s2 σ H2 x y v u _ I2 r1 r2 q2) fun d s3 hq2=>?_)) hm
 obtain⟨z,H3,I3,r3,k,e,q3⟩:=hq2;subst e;cases r3;refine wpAny_truthy_bool ?_;cases k with
 | false=>exact ite_ff ⟨.bl false,H3,I3,rfl,q3⟩
 | true =>
  refine ite_tt (chain_link (thn (hc pins s3 σ H3 _ I3 q3) fun w' s4 ⟨z',H4,I4,r4,q4⟩=>thn (ho' pins s4 σ H4 y z' u w' _ I4 r2 r4 q4) fun d' s5 hq5=>?_));obtain⟨z2,H5,I5,r5,k2,e2,q5⟩:=hq5;subst e2;cases r5;refine wpAny_truthy_bool ?_;cases k2 with
  | false=>exact ite_ff ⟨.bl false,H5,I5,rfl,q5⟩
  | true=>exact ite_tt (chain_last (thn (hd pins s5 σ H5 _ I5 q5) (by rintro w2 s6 ⟨z3,H6,I6,r6,q6⟩;exact ho'' pins s6 σ H6 z' z3 w' w2 Q I6 r4 r6 q6)))
theorem pt_chain3 (ho:OpR X (compareOp op) r) (ho':OpR X (compareOp op') r') (ho'':OpR X (compareOp op'') r'') (ha:PE X a ta) (hb:PE X b tb) (hc:PE X c tc) (hd:PE X d td)
  (hm:lastMarks [op,op',op''] [b,c,d]=false):PT X (.Compare a [op,op',op''] [b,c,d] pos) (tTest (tChain3 r r' r'' ta tb tc td)):=by
 intro pins s σ H Q I h;refine isTrue_chain (thn (ha pins s σ H _ I h) fun v s1 ⟨x,H1,I1,r1,q1⟩=>test_link (thn (hb pins s1 σ H1 _ I1 q1) fun u s2 ⟨y,H2,I2,r2,q2⟩ =>
  thn (ho pins s2 σ H2 x y v u _ I2 r1 r2 q2) fun d s3 hq2=>?_)) hm
 obtain⟨z,H3,I3,r3,k,e,q3⟩:=hq2;subst e;cases r3;refine wpAny_truthy_bool ?_;cases k with
 | false =>
  obtain⟨k',e',q'⟩:=q3;cases e';exact ite_ff ⟨H3,I3,q'⟩
 | true =>
  refine ite_tt (test_link (thn (hc pins s3 σ H3 _ I3 q3) fun w' s4 ⟨z',H4,I4,r4,q4⟩=>thn (ho' pins s4 σ H4 y z' u w' _ I4 r2 r4 q4) fun d' s5 hq5=>?_));obtain⟨z2,H5,I5,r5,k2,e2,q5⟩:=hq5;subst e2;cases r5;refine wpAny_truthy_bool ?_;cases k2 with
  | false =>
   obtain⟨k',e',q'⟩:=q5;cases e';exact ite_ff ⟨H5,I5,q'⟩
  | true =>
   refine ite_tt (test_last (thn (hd pins s5 σ H5 _ I5 q5) fun w2 s6 ⟨z3,H6,I6,r6,q6⟩=>thn (ho'' pins s6 σ H6 z' z3 w' w2 _ I6 r4 r6 q6) fun d' s7 hq7=>?_));obtain⟨z4,H7,I7,r7,k4,e4,q7⟩:=hq7;subst e4;cases r7;exact wpAny_truthy_bool ⟨H7,I7,q7⟩
end
section
variable {X:Cx} {rz:Bool} {Xe:DSt->DK} {a b c d:Expr} {pos:Pos} {ta tb tc td:DE}
noncomputable def dChain3 (f g h:D->D->Mem->DK->Prop) (ta tb tc td:DE):DE:=fun δ M Q=>ta δ M fun x M1=>tb δ M1 fun y M2=>f x y M2 fun z M3=>∃ k,z=.bl k/\if k=true then (tc δ M3 fun w M4=>g y w M4 fun z' M5=>∃ k',z'=.bl k'/\if k'=true then (td δ M5 fun v M6=>h w v M6 Q) else Q (.bl false) M5) else Q (.bl false) M3
theorem dChain3_op (hh:lift Λ (dChain3 f g h ta tb tc td) σ H Q):tChain3 (lift2 Λ.K f) (lift2 Λ.K g) (lift2 Λ.K h) (lift Λ ta) (lift Λ tb) (lift Λ tc) (lift Λ td) σ H Q:=by
 obtain⟨δ,M,R,rs,rm,t,q⟩:=hh;refine seq2 (R:=fun x y M2=>f x y M2 _) rs rm t fun x y M2 v u H2 x2 m2 r1 r2 t2=>⟨x,y,M2,_,r1,r2,m2,t2,fun d M3 w H3 x3 m3 r3 hq7=>?_⟩;obtain⟨k,e,h'⟩:=hq7;subst e;cases r3;refine⟨k,rfl,?_⟩;cases k with
 | true =>
  refine⟨δ,M3,_,rs.ext (x2.trans x3),m3,h',fun z M4 w4 H4 x4 m4 r4 h4=>⟨y,z,M4,_,(r2.ext x3).ext x4,r4,m4,h4,fun d' M' v' H' x5 m5 r5 hq8=>?_⟩⟩;obtain⟨k',e',h''⟩:=hq8;subst e';cases r5;refine⟨k',rfl,?_⟩;cases k' with
  | true =>
   exact⟨δ,M',_,rs.ext (((x2.trans x3).trans x4).trans x5),m5,h'',fun z3 M6 w6 H6 x6 m6 r6 h6=>⟨z,z3,M6,R,(r4.ext x5).ext x6,r6,m6,h6,fun d2 M2' v2 H2' x7 m7 r7=>q d2 M2' v2 H2' (((((x2.trans x3).trans x4).trans x5).trans x6).trans x7) m7 r7⟩⟩
  | false=>exact q _ _ _ _ (((x2.trans x3).trans x4).trans x5) m5 (.bl false) h''
 | false=>exact q _ _ _ _ (x2.trans x3) m3 (.bl false) h'
theorem de_chain3 (hu:X.A.units+66<cLine) (ha:PE X a (lift (X.L rz Xe) ta)) (hb:PE X b (lift (X.L rz Xe) tb)) (hc:PE X c (lift (X.L rz Xe) tc)) (hd:PE X d (lift (X.L rz Xe) td)) (hm:lastMarks [op,op',op''] [b,c,d]=false) :
  PE X (.Compare a [op,op',op''] [b,c,d] pos) (lift (X.L rz Xe) (dChain3 (cOp op) (cOp op') (cOp op'') ta tb tc td)):=(pe_chain3 (op_c hu op) (op_c hu op') (op_c hu op'') ha hb hc hd hm).imp fun _ _ _=>dChain3_op
theorem dt_chain3 (hu:X.A.units+66<cLine) (ha:PE X a (lift (X.L rz Xe) ta)) (hb:PE X b (lift (X.L rz Xe) tb)) (hc:PE X c (lift (X.L rz Xe) tc)) (hd:PE X d (lift (X.L rz Xe) td)) (hm:lastMarks [op,op',op''] [b,c,d]=false) :
  PT X (.Compare a [op,op',op''] [b,c,d] pos) (liftT (X.L rz Xe) (dTest (dChain3 (cOp op) (cOp op') (cOp op'') ta tb tc td))):=by
 refine (pt_chain3 (op_c hu op) (op_c hu op') (op_c hu op'') ha hb hc hd hm).imp ?_;rintro σ H Q ⟨δ,M,R,rs,rm,t,q⟩;exact dChain3_op ⟨δ,M,_,rs,rm,t,fun d M' v H' x m r ⟨k,e,h⟩=>by
  subst e;(first|cases (show _=_ from r.inv)|cases r);exact⟨k,rfl,q _ _ _ x m h⟩⟩
end
section
variable {X:Cx} {pins:List (Addr×Obj)} {s:Shared} {σ:L2.St} {H:Hp} {M:Mem}
end
section
variable {X:Cx} {rz:Bool} {Xe:DSt->DK} {a b:Expr} {ta tb:DE} {pos:Pos}
end
end DL
end
noncomputable section
namespace HT
open PySem PySem.Spec PyProof.Rows
section
variable {prog:Program} {w:World} {A:Around} {E:Value->Shared->Prop} {s:Shared}
end
end HT
namespace DL
open PySem PySem.Spec PyProof.Rows L2
section
variable {X:Cx} {rz:Bool} {Xe:DSt->DK} {e st:Expr} {ta ts:DE} {pos p2:Pos}
noncomputable def revOp (d:D) (l:Option Int) (M:Mem) (Q:DK):Prop:=l=some (-1)/\match d with | .tup xs=>Q (.tup xs.reverse) M | .lst a=>∃ xs,M a=some (.ls xs)/\alloc M (.ls xs.reverse) fun p M'=>Q (.lst p) M' | _=>False
noncomputable def dRev (te:DE) (tl:DO):DE:=fun δ M Q=>te δ M fun x M1=>tl δ M1 fun l M2=>revOp x l M2 Q
end
end DL
end
noncomputable section
namespace PySem
open PyProof.Rows
namespace F
end F
section
variable {prog:Program} {w:World} {A:Around} {E:Value->Shared->Prop} {s:Shared}
end
section
variable {prog:Program} {w:World} {A:Around} {s:Shared} {R:Result->Shared->Prop}
variable {I l:Addr} {items:Array Value}
end
section
variable {prog:Program} {w:World} {A:Around} {E:Value->Shared->Prop} {s:Shared}
variable {I l:Addr} {items:Array Value}
end
end PySem
namespace DL
open PySem PySem.Spec PyProof.Rows L2
section
variable {X:Cx} {e:Expr} {t:TA} {p p2 pos pos2:Pos}
end
end DL
namespace DL
open PySem PySem.Spec PyProof.Rows L2
section
variable {X:Cx} {rz:Bool} {Xe:DSt->DK} {e:Expr} {t:DA} {p p2 pos pos2:Pos}
end
end DL
end
noncomputable section
namespace DL
open PySem PySem.Spec PyProof.Rows L2
noncomputable def dNext:DS:=fun D δ M=>D.nx δ M
noncomputable def dSeq (t u:DS):DS:=fun D δ M=>t {D with nx:=u D} δ M
noncomputable def dBreak:DS:=fun D δ M=>D.bk δ M
noncomputable def dCont:DS:=fun D δ M=>D.ct δ M
noncomputable def dDrop (te:(DSt->DK)->DE):DS:=fun D δ M=>te D.ex δ M fun _ M1=>D.nx δ M1
noncomputable def dRet (te:(DSt->DK)->DE):DS:=fun D δ M=>te D.ex δ M D.rt
noncomputable def dRetN:DS:=fun D _ M=>D.rt .non M
noncomputable def dIfS (c:(DSt->DK)->DT) (t u:DS):DS:=fun D δ M=>c D.ex δ M fun b M1=>if b=true then t D δ M1 else u D δ M1
noncomputable def dNever:DS:=fun _ _ _=>False
abbrev DG:=D->DSt->Mem->(DSt->Mem->Prop)->Prop
abbrev DGs:=List D->DSt->Mem->(DSt->Mem->Prop)->Prop
noncomputable def liftG (Λ:LK) (g:DG):TG:=fun v σ H Q=>∃ d δ M R,RelD Λ.K H v d/\RepS Λ H δ σ/\RepM Λ.K H M/\g d δ M R/\∀ δ' M' σ' H',HExt Λ.K H H'->RepS Λ H' δ' σ'->RepM Λ.K H' M'->R δ' M'->Q σ' H'
noncomputable def liftGs (Λ:LK) (g:DGs):TGs:=fun vs σ H Q=>∃ ds δ M R,RelDs Λ.K H vs ds/\RepS Λ H δ σ/\RepM Λ.K H M/\g ds δ M R/\∀ δ' M' σ' H',HExt Λ.K H H'->RepS Λ H' δ' σ'->RepM Λ.K H' M'->R δ' M'->Q σ' H'
noncomputable def gdName (i:Nat):DG:=fun d δ M Q=>Q (δ.set i (some d)) M
noncomputable def gdNil:DGs:=fun ds δ M Q=>ds=[]/\Q δ M
noncomputable def gdCons (t:DG) (u:DGs):DGs:=fun ds δ M Q=>∃ d r,ds=d::r/\t d δ M fun δ' M'=>u r δ' M' Q
noncomputable def gdTup (n:Nat) (t:DGs):DG:=fun d δ M Q=>∃ ds,d=.tup ds/\ds.length=n/\t ds δ M Q
noncomputable def gdSub (to ti:DE):DG:=fun v δ M Q=>to δ M fun o M1=>ti δ M1 fun i M2=>∃ a k xs j,o=.lst a/\i=.int k/\M2 a=some (.ls xs)/\ixN xs.length k=some j/\Q δ (M2.upd a (.ls (xs.set j v)))
noncomputable def dAsg (te:(DSt->DK)->DE) (g:(DSt->DK)->DG):DS:=fun D δ M=>te D.ex δ M fun x M1=>g D.ex x δ M1 D.nx
noncomputable def dPar (i j:Nat) (ta:(DSt->DK)->DA):DS:=fun D δ M=>ta D.ex δ M fun ds M1=>∃ v w,ds=[v,w]/\D.nx ((δ.set i (some v)).set j (some w)) M1
noncomputable def dTwo (te:(DSt->DK)->DE) (g h:(DSt->DK)->DG):DS:=fun D δ M=>te D.ex δ M fun x M1=>g D.ex x δ M1 fun δ2 M2=>h D.ex x δ2 M2 D.nx
noncomputable def dAug (i:Nat) (te:(DSt->DK)->DE) (f:Int->Int->Int):DS:=fun D δ M=>∃ x,δ[i]?=some (some (.int x))/\te D.ex δ M fun y M1=>∃ j,y=.int j/\D.nx (δ.set i (some (.int (f x j)))) M1
noncomputable def dWhile (c:(DSt->DK)->DT) (tb:DS):DS:=fun D δ M=>∃ W:Nat->DSt->Mem->Prop,(∃ m,W m δ M)/\∀ m δ M,W m δ M ->
 c D.ex δ M fun b M1=>if b=true then ∃ N:DSt->Mem->Prop,(∀ δ' M',N δ' M'->∃ m',m'<m/\W m' δ' M')/\tb {D with nx:=N,ct:=N,bk:=D.nx} δ M1 else D.nx δ M1
section
variable {X:Cx} {rz:Bool} {Xe:DSt->DK} {st:Stmt} {rest:List Stmt} {t u:DS} {e tg:Expr} {es:List Expr} {te:DE} {g:DG} {gs:DGs} {pos:Pos}
theorem dss_nil:PSs X [] (liftS X rz dNext):=by
 refine pss_nil.imp ?_;rintro E σ H ⟨δ,M,D,rs,rm,t,n,r,b,c⟩;exact n δ M σ H (.refl H) rs rm t
theorem dSeq_op (h:liftS X rz (dSeq t u) E σ H):tSeq (liftS X rz t) (liftS X rz u) E σ H:=by
 obtain⟨δ,M,D,rs,rm,t,n,r,b,c⟩:=h;exact⟨δ,M,{D with nx:=u D},rs,rm,t,fun δ' M' σ' H' x rs' rm' h=>⟨δ',M',D,rs',rm',h,fun a b c d x2=>n a b c d (x.trans x2),fun a b c d x2=>r a b c d (x.trans x2),fun p q s t x2=>b p q s t (x.trans x2),fun p q s t x2=>c p q s t (x.trans x2)⟩,r,b,c⟩
theorem dss_cons (h1:PS X st (liftS X rz t)) (h2:PSs X rest (liftS X rz u)):PSs X (st::rest) (liftS X rz (dSeq t u)):=(pss_cons h1 h2).imp fun _ _ _=>dSeq_op
theorem ds_expr {te:(DSt->DK)->DE} (he:∀ Xe,PE X e (lift (X.L rz Xe) (te Xe))) (hs:swapsWith e none pos.line X.env=pure false):PS X (.Expr e pos) (liftS X rz (dDrop te)):=by
 rintro pins s σ H E I ⟨δ,M,D,rs,rm,t,n,r,b,c⟩;exact (ps_expr (he D.ex) hs) pins s σ H E I <| ⟨δ,M,_,rs,rm,t,fun d M' v H' x m _ h=>n δ M' σ H' x (rs.ext x) m h⟩
theorem ds_ret {te:(DSt->DK)->DE} (he:∀ Xe,PE X e (lift (X.L rz Xe) (te Xe))):PS X (.Return (some e) pos) (liftS X rz (dRet te)):=by
 rintro pins s σ H E I ⟨δ,M,D,rs,rm,t,n,r,b,c⟩;exact (ps_ret (he D.ex)) pins s σ H E I <| ⟨δ,M,_,rs,rm,t,fun d M' v H' x m q h=>r d M' v H' x m q h⟩
theorem ds_if (hc:∀ Xe,PT X c (liftT (X.L rz Xe) (tc Xe))) (ha:PSs X a (liftS X rz t)) (hb:PSs X b (liftS X rz u)):PS X (.If c a b pos) (liftS X rz (dIfS tc t u)):=by
 rintro pins s σ H E I ⟨δ,M,D,rs,rm,t,n,r,b,c⟩;exact (ps_if (hc D.ex) ha hb) pins s σ H E I <| ⟨δ,M,_,rs,rm,t,fun k M' H' x m h=>by
  cases k with
  | true=>exact⟨δ,M',D,rs.ext x,m,h,fun a b c d x2=>n a b c d (x.trans x2),fun a b c d x2=>r a b c d (x.trans x2),fun p q s t x2=>b p q s t (x.trans x2),fun p q s t x2=>c p q s t (x.trans x2)⟩
  | false=>exact⟨δ,M',D,rs.ext x,m,h,fun a b c d x2=>n a b c d (x.trans x2),fun a b c d x2=>r a b c d (x.trans x2),fun p q s t x2=>b p q s t (x.trans x2),fun p q s t x2=>c p q s t (x.trans x2)⟩⟩
theorem _root_.L2.PG.imp {t t':TG} (h:PG X tg t) (i:∀ v σ H Q,t' v σ H Q->t v σ H Q):PG X tg t':=fun pins s σ H v u Q I r q=>h pins s σ H v u Q I r (i _ _ _ _ q)
theorem _root_.L2.PGs.imp {t t':TGs} (h:PGs X es t) (i:∀ v σ H Q,t' v σ H Q->t v σ H Q):PGs X es t':=fun pins s σ H v u Q I r q=>h pins s σ H v u Q I r (i _ _ _ _ q)
theorem dg_name {i:Nat} {x:Str} (hN:X.N.Nodup) (hi:X.N[i]?=some x) (hx:Loc X.env.scope x) (hf:X.fn x=true\/X.env.scope.names.lookup x=some .local):PG X (.Name x pos) (liftG (X.L rz Xe) (gdName i)) :=
 (pg_name hN hi hx hf).imp (by rintro v σ H Q ⟨d,δ,M,R,r,rs,rm,h,q⟩;exact q _ _ _ _ (.refl H) (rs.set r i) rm h)
theorem dgs_nil:PGs X [] (liftGs (X.L rz Xe) gdNil):=by
 refine pgs_nil.imp ?_;rintro v σ H Q ⟨d,δ,M,R,r,rs,rm,h,q⟩;obtain⟨e,h⟩:=h;subst e;(first|cases (show _=_ from r.inv)|cases r);exact⟨rfl,q _ _ _ _ (.refl H) rs rm h⟩
theorem dgs_cons (h1:PG X tg (liftG (X.L rz Xe) g)) (h2:PGs X es (liftGs (X.L rz Xe) gs)) (hs:(assignEach (tg::es) X.env).map (·.2)=assign tg X.env::(assignEach es X.env).map (·.2)):PGs X (tg::es) (liftGs (X.L rz Xe) (gdCons g gs)) :=
 (pgs_cons h1 h2 hs).imp fun v σ H Q ⟨d,δ,M,R,r,rs,rm,h,q⟩=>by
  obtain⟨d,ds,e,h⟩:=h;subst e;cases r with
  | cons ra rr=>exact⟨_,_,rfl,d,δ,M,_,ra,rs,rm,h,fun δ' M' σ' H' x rs' rm' h'=>⟨ds,δ',M',R,rr.ext x,rs',rm',h',fun a b c d x2=>q a b c d (x.trans x2)⟩⟩
theorem dg_tup {k n:Nat} (hc:X.calm=true) (h:PGs X es (liftGs (X.L rz Xe) gs)) (hn:(assignEach es X.env).length=n) (hst:(assignEach es X.env).findIdx? (·.1)=none):PG X (.Tuple es k pos) (liftG (X.L rz Xe) (gdTup n gs)) :=
 (pg_tup hc h hn hst).imp fun v σ H Q ⟨d,δ,M,R,r,rs,rm,h,q⟩=>by
  obtain⟨ds,e,hl,h⟩:=h;subst e;obtain⟨_,_,rfl,ht,rr⟩:=r.inv;exact⟨_,_,rfl,ht,by rw[rr.length];exact hl,ds,δ,M,R,rr,rs,rm,h,q⟩
theorem dg_sub {o i:Expr} {to ti:DE} (ho:PE X o (lift (X.L rz Xe) to)) (hi:PE X i (lift (X.L rz Xe) ti))
  (ha:∀ v,assign (.Subscript o i pos) X.env v=(do
   let ov <- holding [v] (eval o X.env)
   let iv <- holding [v,ov] (eval i X.env)
   standAt pos
   holding [v,ov,iv] (setItem ov iv v)
   release [v,ov,iv] [])):PG X (.Subscript o i pos) (liftG (X.L rz Xe) (gdSub to ti)) :=
 (pg_sub ho hi set_list ha).imp fun v σ H Q ⟨d,δ,M,R,r,rs,rm,h,q⟩=>seq2 rs rm h fun x y M2 w u H2 x2 m2 r1 r2 ⟨a,k,xs,j,e1,e2,e3,e4,h2⟩=>by
  subst e1;subst e2;(first|cases (show _=_ from r1.inv)|cases r1);(first|cases (show _=_ from r2.inv)|cases r2);obtain⟨vs,ev,rv⟩:=m2 _ _ e3;exact⟨a,vs,k,j,rfl,rfl,ev,by rw[rv.length];exact e4,q _ _ _ _ (x2.trans (.upd (.inr ⟨_,ev,trivial⟩))) (rs.ext (x2.trans (.upd (.inr ⟨_,ev,trivial⟩)))) (m2.write ev (rv.set (r.ext x2) j)) h2⟩
theorem ds_asg {te:(DSt->DK)->DE} {g:(DSt->DK)->DG} (he:∀ Xe,PE X e (lift (X.L rz Xe) (te Xe))) (hg:∀ Xe,PG X tg (liftG (X.L rz Xe) (g Xe))) (hs:swapsWithSole [tg] e pos.line X.env=pure false) (hw:swappedStores [tg] e X.env=pure none)
  (h1:(assignEach [tg] X.env).map (·.2)=[assign tg X.env]):PS X (.Assign [tg] e pos) (liftS X rz (dAsg te g)) :=
 (by rintro pins s σ H E I ⟨δ,M,D,rs,rm,t,n,r,b,c⟩;exact (ps_asg (he D.ex) (hg D.ex) hs hw h1) pins s σ H E I <| ⟨δ,M,_,rs,rm,t,fun d M' v H' x m q h=>⟨d,δ,M',_,q,rs.ext x,m,h,fun a b c d x2=>n a b c d (x.trans x2)⟩⟩)
theorem ds_two {te:(DSt->DK)->DE} {g:(DSt->DK)->DG} {tg2:Expr} {g2:(DSt->DK)->DG} (he:∀ Xe,PE X e (lift (X.L rz Xe) (te Xe))) (hg:∀ Xe,PG X tg (liftG (X.L rz Xe) (g Xe))) (hg2:∀ Xe,PG X tg2 (liftG (X.L rz Xe) (g2 Xe))) (h1:(assignEach [tg,tg2] X.env).map (·.2)=[assign tg X.env,assign tg2 X.env]) (hw:swappedStores [tg,tg2] e X.env=pure none) :
  PS X (.Assign [tg,tg2] e pos) (liftS X rz (dTwo te g g2)):=by
 rintro pins s σ H E I ⟨δ,M,D,rs,rm,t,n,r,b,c⟩;refine wpAny_Assign_two (thn (he D.ex pins s σ H (fun v H1=>∃ d M1,HExt X.K H H1/\RepM X.K H1 M1/\RelD X.K H1 v d/\g D.ex d δ M1 fun δ2 M2=>g2 D.ex d δ2 M2 D.nx) I ⟨δ,M,_,rs,rm,t,fun d M' v H' x m q h=>⟨d,M',x,m,q,h⟩⟩) fun v s1 hq2=>?_) h1 hw;obtain⟨y,H1,I1,r1,d,M1,x1,m1,q1,h1'⟩:=hq2;refine thn (hg D.ex pins s1 σ H1 y v (fun σ2 H2=>∃ δ2 M2,HExt X.K H1 H2/\RepS (X.L rz D.ex) H2 δ2 σ2/\RepM X.K H2 M2/\g2 D.ex d δ2 M2 D.nx) I1 r1 ⟨d,δ,M1,_,q1,rs.ext x1,m1,h1',fun δ' M' σ' H' y1 y2 y3 y4=>⟨δ',M',y1,y2,y3,y4⟩⟩) fun _ s2 hq2=>?_;obtain⟨σ2,H2,I2,δ2,M2,x2,rs2,m2,h2⟩:=hq2;exact hg2 D.ex pins s2 σ2 H2 y v _ I2 r1 ⟨d,δ2,M2,_,q1.ext x2,rs2,m2,h2,fun a b c d y1=>n a b c d ((x1.trans x2).trans y1)⟩
theorem ds_set {te:(DSt->DK)->DE} {i:Nat} {x:Str} {pos':Pos} (hN:X.N.Nodup) (hi:X.N[i]?=some x) (hx:Loc X.env.scope x) (he:∀ Xe,PE X e (lift (X.L rz Xe) (te Xe))) (hs:swapsWith e (some (.Name x pos')) pos.line X.env=pure false) (hf:X.fn x=true\/X.env.scope.names.lookup x=some .local) :
  PS X (.Assign [.Name x pos'] e pos) (liftS X rz (dAsg te fun _=>gdName i)):=by
 rintro pins s σ H E I ⟨δ,M,D,rs,rm,t,n,r,b,c⟩;exact (ps_set hN hi hx (he D.ex) hs hf) pins s σ H E I <| ⟨δ,M,_,rs,rm,t,fun d M' v H' x m q h=>n _ _ _ _ x ((rs.ext x).set q i) m h⟩
theorem ds_par {kt k2 pt2} (hc:X.calm=true) (hN:X.N.Nodup) (hi:X.N[i]?=some x) (hj:X.N[j]?=some y) (hij:i≠j)
  (hx:X.env.scope.names.lookup x=some .local) (hy:X.env.scope.names.lookup y=some .local) (ha:∀ Xe,PA X [a,b] (liftA (X.L rz Xe) (ta Xe)))
  (hw:swappedStores [.Tuple [.Name x px,.Name y py] kt pt] (.Tuple [a,b] k2 pt2) X.env=pure (some [x,y]))
  (hs:swapsWithSole [.Tuple [.Name x px,.Name y py] kt pt] (.Tuple [a,b] k2 pt2) pos.line X.env=pure false) :
  PS X (.Assign [.Tuple [.Name x px,.Name y py] kt pt] (.Tuple [a,b] k2 pt2) pos) (liftS X rz (dPar i j ta)):=by
 rintro pins s σ H E I ⟨δ,M,D,rs,rm,t,n,r,b,c⟩;exact (ps_par hc hN hi hj hij hx hy (ha D.ex) hw hs) pins s σ H E I <| ⟨δ,M,_,rs,rm,t,fun ds M' vs H' x m q ⟨v,w,e,h⟩=>by
  subst e;obtain⟨v',w',rfl,r1,r2⟩:=q.two;exact⟨v',w',rfl,n _ _ _ _ x (((rs.ext x).set r1 i).set r2 j) m h⟩⟩
theorem ds_while (hp:PassesOwn (model X.prog X.w) X.A X.env X.xe) (hc:∀ Xe,PT X c (liftT (X.L rz Xe) (tc Xe))) (hb:PSs X body (liftS X rz tb)):PS X (.While c body [] pos) (liftS X rz (dWhile tc tb)) :=
 fun pins s σ H E I ⟨δ,M,D,rs,rm,⟨W,⟨m0,w0⟩,turn⟩,n,r,b,c⟩=>(ps_while hp (hc D.ex) hb) pins s σ H E I <| by
  refine⟨fun m σ' H'=>∃ δ' M',HExt X.K H H'/\RepS (X.L rz D.ex) H' δ' σ'/\RepM X.K H' M'/\W m δ' M',⟨m0,δ,M,.refl H,rs,rm,w0⟩,?_⟩;rintro m σ1 H1 ⟨δ1,M1,x1,rs1,rm1,w1⟩;refine⟨δ1,M1,_,rs1,rm1,turn m δ1 M1 w1,fun k M2 H2 x2 m2 h=>?_⟩;cases k with
  | true =>
   obtain⟨N,hN,h⟩:=h;refine⟨fun σ' H'=>∃ δ' M',HExt X.K H H'/\RepS (X.L rz D.ex) H' δ' σ'/\RepM X.K H' M'/\N δ' M',fun σ' H' ⟨δ',M',y1,y2,y3,y4⟩=>?_,?_⟩
   ·obtain⟨m',l,w'⟩:=hN δ' M' y4
    exact⟨m',l,δ',M',y1,y2,y3,w'⟩
   ·exact⟨δ1,M2,{D with nx:=N,ct:=N,bk:=D.nx},rs1.ext x2,m2,h,fun δ' M' σ' H' y1 y2 y3 y4=>⟨δ',M',(x1.trans x2).trans y1,y2,y3,y4⟩,fun a b c d y1=>r a b c d ((x1.trans x2).trans y1),fun δ' M' σ' H' y1 y2 y3 y4=>n _ _ _ _ ((x1.trans x2).trans y1) y2 y3 y4,fun δ' M' σ' H' y1 y2 y3 y4=>⟨δ',M',(x1.trans x2).trans y1,y2,y3,y4⟩⟩
  | false=>exact n _ _ _ _ (x1.trans x2) (rs1.ext x2) m2 h
end
abbrev DI:=DSt->Mem->(List D->(Mem->Prop)->Mem->Prop)->Prop
noncomputable def ItD (K:Frag) (H0:Hp) (J:It) (items:List D) (keep:Mem->Prop):Prop:=∀ i H M,HExt K H0 H->RepM K H M->keep M ->
 (i<items.length->J.go i H)/\(items.length<=i->J.stop i H)/\∀ x H',J.yld i H x H'->HExt K H H'/\RepM K H' M/\∀ d,items[i]?=some d->RelD K H' x d
noncomputable def liftI (Λ:LK) (t:DI):TI:=fun σ H R=>∃ δ M Rd,RepS Λ H δ σ/\RepM Λ.K H M/\t δ M Rd/\∀ items keep M' J H',HExt Λ.K H H'->RepM Λ.K H' M'->keep M'->ItD Λ.K H' J items keep->Rd items keep M'->R J H'
noncomputable def forD (g:(DSt->DK)->DG) (tb:DS) (keep:Mem->Prop):List D->DS
 | []=>fun D δ M=>D.nx δ M
 | x::xs=>fun D δ M=>g D.ex x δ M fun δ1 M1=>tb {D with nx:=fun δ2 M2=>keep M2/\forD g tb keep xs D δ2 M2,ct:=fun δ2 M2=>keep M2/\forD g tb keep xs D δ2 M2,bk:=D.nx} δ1 M1
noncomputable def dFor (ti:(DSt->DK)->DI) (g:(DSt->DK)->DG) (tb:DS):DS:=fun D δ M=>ti D.ex δ M fun items keep M1=>forD g tb keep items D δ M1
section
variable {X:Cx} {rz:Bool} {Xe:DSt->DK} {tg:Expr} {pos:Pos}
theorem ds_for (hp:PassesOwn (model X.prog X.w) X.A X.env X.xe) (hc:X.calm=true) (hi:∀ Xe,PI X tg iter (liftI (X.L rz Xe) (ti Xe))) (hg:∀ Xe,PG X tg (liftG (X.L rz Xe) (g Xe))) (hb:PSs X body (liftS X rz tb))
  (hs:∀ x,foldedSetIterable iter X.env x=pure x):PS X (.For tg iter body [] pos) (liftS X rz (dFor ti g tb)) :=
 fun pins s σ H E I ⟨δ,M,D,rs,rm,t,n,r,b,c⟩=>(ps_for hp hc (hi D.ex) (hg D.ex) hb hs) pins s σ H E I <| by
  refine⟨δ,M,_,rs,rm,t,fun items keep M1 J H1 x1 m1 k1 it h1=>?_⟩;refine⟨fun i m σ' H'=>m=items.length-i/\i<=items.length/\∃ δ' M',HExt X.K H1 H'/\RepS (X.L rz D.ex) H' δ' σ'/\RepM X.K H' M'/\keep M'/\forD g tb keep (items.drop i) D δ' M',⟨_,rfl,Nat.zero_le _,δ,M1,.refl H1,rs.ext x1,m1,k1,h1⟩,?_⟩;rintro i m σ2 H2 ⟨rfl,hi,δ2,M2,x2,rs2,m2,k2,h2⟩;obtain⟨i1,i2,i3⟩:=it i H2 M2 x2 m2 k2;by_cases hl:i<items.length
  ·refine .inr ⟨i1 hl,fun σ' H'=>∃ δ' M',HExt X.K H1 H'/\RepS (X.L rz D.ex) H' δ' σ'/\RepM X.K H' M'/\keep M'/\forD g tb keep (items.drop (i+1)) D δ' M',fun σ' H' z=>⟨items.length-(i+1),by omega,rfl,hl,z⟩,fun x H3 y=>?_⟩
   obtain⟨x3,m3,r3⟩:=i3 x H3 y;rw[List.drop_eq_getElem_cons hl] at h2;refine⟨items[i],δ2,M2,_,r3 _ (by simp[hl]),rs2.ext x3,m3,h2,fun δ4 M4 σ4 H4 x4 rs4 m4 h4=>?_⟩;have xx:=(x2.trans x3).trans x4;exact⟨δ4,M4,{D with nx:=fun δ2 M2=>keep M2/\forD g tb keep (items.drop (i+1)) D δ2 M2,ct:=fun δ2 M2=>keep M2/\forD g tb keep (items.drop (i+1)) D δ2 M2,bk:=D.nx},rs4,m4,h4,fun δ' M' σ' H' y1 y2 y3 y4=>⟨δ',M',xx.trans y1,y2,y3,y4.1,y4.2⟩,fun a b c d y1=>r a b c d ((x1.trans xx).trans y1),fun δ' M' σ' H' y1 y2 y3 y4=>n _ _ _ _ ((x1.trans xx).trans y1) y2 y3 y4,fun δ' M' σ' H' y1 y2 y3 y4=>⟨δ',M',xx.trans y1,y2,y3,y4.1,y4.2⟩⟩
  ·have e:i=items.length:=by omega
   subst e;rw[List.drop_length] at h2;exact .inl ⟨i2 %[|3],n _ _ _ _ (x1.trans x2) rs2 m2 h2⟩
noncomputable def itSeq (d:D) (M:Mem) (R:List D->(Mem->Prop)->Mem->Prop):Prop :=
 match d with
 | .lst a=>∃ xs,M a=some (.ls xs)/\R xs (fun M'=>M' a=some (.ls xs)) M
 | .fz xs=>R xs (fun _=>True) M
 | .tup xs=>R xs (fun _=>True) M
 | _=>False
noncomputable def diSeq (te:DE):DI:=fun δ M R=>te δ M fun d M1=>itSeq d M1 R
theorem itd_list {K:Frag} {H0:Hp} {a:Addr} {xs:List D}:ItD K H0 (Itl K a) xs (fun M'=>M' a=some (.ls xs)):=fun i H M x m k=>by
 obtain⟨vs,e,r⟩:=m _ _ k;refine⟨fun hl=>⟨vs,vs[i]'(by rw[r.length];exact hl),.of e,by simp[r.length,hl]⟩,fun hl=>⟨vs,.of e,by rw[r.length];exact hl⟩,fun y H' hq2=>?_⟩;obtain⟨e1,e2⟩:=hq2;subst e1;refine⟨.refl _,m,fun d hd=>?_⟩;obtain⟨v,h1,h2⟩:=r.get hd;rw[e2 vs (.of e)] at h1;cases h1;exact h2
theorem itd_fz {K:Frag} {H0:Hp} {a:Addr} {vs:List V} {xs:List D} (ht:SqF K H0 a vs) (r:RelDs K H0 vs xs):ItD K H0 (Itl K a) xs (fun _=>True):=fun i H M x m k=>by
 have ht':=x.fz _ _ ht;have r':=r.ext x;refine⟨fun hl=>⟨vs,vs[i]'(by rw[r.length];exact hl),ht'.sq,by simp[r.length,hl]⟩,fun hl=>⟨vs,ht'.sq,by rw[r.length];exact hl⟩,fun y H' hq2=>?_⟩;obtain⟨e1,e2⟩:=hq2;subst e1;refine⟨.refl _,m,fun d hd=>?_⟩;obtain⟨v,h1,h2⟩:=r'.get hd;rw[e2 vs ht'.sq] at h1;cases h1;exact h2
theorem itd_tup {K:Frag} {H0:Hp} {a:Addr} {vs:List V} {xs:List D} (ht:SqT K H0 a vs) (r:RelDs K H0 vs xs):ItD K H0 (Itt K a) xs (fun _=>True):=fun i H M x m k=>by
 have ht':=x.tup _ _ ht;have r':=r.ext x;refine⟨fun hl=>⟨vs,vs[i]'(by rw[r.length];exact hl),ht',by simp[r.length,hl]⟩,fun hl=>⟨vs,ht',by rw[r.length];exact hl⟩,fun y H' hq2=>?_⟩;obtain⟨e1,e2⟩:=hq2;subst e1;refine⟨.refl _,m,fun d hd=>?_⟩;obtain⟨v,h1,h2⟩:=r'.get hd;rw[e2 vs ht'] at h1;cases h1;exact h2
theorem di_seq (hl:PE X l (lift (X.L rz Xe) te)):PI X tg l (liftI (X.L rz Xe) (diSeq te)):=by
 rintro pins s σ H R I ⟨δ,M,Rd,rs,rm,t,q⟩;refine thn (hl pins s σ H (fun x H1=>(∃ a xs,x=.ref a/\SqL X.K H1 a xs/\R (Itl X.K a) H1)\/(∃ a xs,x=.ref a/\SqT X.K H1 a xs/\R (Itt X.K a) H1)) I ⟨δ,M,_,rs,rm,t,fun d M1 v H1 x1 m1 r1 h1=>?_⟩) fun v s1 ⟨x,H1,I1,r1,q1⟩=>?_
 ·cases r1 with
  | lst a =>
   obtain⟨xs,e0,h1⟩:=h1;obtain⟨vs,e,r⟩:=m1 _ _ e0;exact .inl ⟨a,vs,rfl,.of e,q _ _ _ _ _ x1 m1 e0 itd_list h1⟩
  | fz ht r=>exact .inl ⟨_,_,rfl,ht.sq,q _ _ _ _ _ x1 m1 trivial (itd_fz ht r) h1⟩
  | tup ht r=>exact .inr ⟨_,_,rfl,ht,q _ _ _ _ _ x1 m1 trivial (itd_tup ht r) h1⟩
  | _=>exact (show False from h1).elim
 ·rcases q1 with ⟨a,xs,e,hq,q⟩|⟨a,xs,e,hq,q⟩
  ·subst e
   (first|cases (show _=_ from r1.inv)|cases r1)
   obtain⟨its,rv,p,hz⟩:=I1.list hq;refine wpAny_pyIter_list p.isList ?_;refine⟨s1.heap.objs.size,[s1.heap.objs.size],_,_,H1,rfl,I1.kept (t':=s1.toks) fun b o e=>Heap.get?_push_of_some _ e,turn_list a _,⟨_,Heap.get?_push_size _ rfl,rfl,rfl⟩,fun b hb=>?_,q⟩;have e:b=s1.heap.objs.size:=by simpa using hb
   subst e;exact I1.fpOk %[|3] (I1.hok.fresh %[|3])
  ·subst e
   (first|cases (show _=_ from r1.inv)|cases r1)
   obtain⟨its,rv,p,hz⟩:=I1.tuple hq;refine wpAny_pyIter_tuple (show s1.heap.IsTuple a its.toArray from p) ?_;refine⟨s1.heap.objs.size,[s1.heap.objs.size],_,_,H1,rfl,I1.kept (t':=s1.toks) fun b o e=>Heap.get?_push_of_some _ e,turn_tuple a _,⟨_,Heap.get?_push_size _ rfl,rfl,rfl⟩,fun b hb=>?_,q⟩;have e:b=s1.heap.objs.size:=by simpa using hb
   subst e;exact I1.fpOk %[|3] (I1.hok.fresh %[|3])
end
noncomputable def Itr3 (lo c:Int) (n:Nat):It:=⟨fun i _=>i<n,fun i H x H'=>H'=H/\x=.int (lo+i*c),fun i _=>n<=i⟩
theorem turn_range3 {P:Program} {w:World} {K:Frag} {tg:Expr} (it:Addr) (lo c:Int) (n:Nat):Turn P w K tg (Itr3 lo c n) [it] it (fun i h=>IsRangeIter h it (lo+(i:Nat)*c) ((n:Int)-(i:Nat)) c) where
 mem:=by simp
 obj:=fun i h st b hb=>by
  have e:b=it:=by simpa using hb
  subst e;exact⟨_,st,fun v z=>by
   have z':Data.fields _=Data.cell v:=z;cases z'⟩
 keep:=fun i h h' st k=>k it (by simp) _ st
 item:=by
  intro X hP hw hK hc i pins s σ H E I hf st hg;subst hP hw hK;obtain⟨f0,f1,f2,f3,f4,f5⟩:=hf it (by simp);have W:=Walks.range (prog:=X.prog) (w:=X.w) (I.ok.hd hc) it lo c n;refine W.item i s _ _ hg st fun v h' tk hv st' kk=>?_;obtain⟨t,rfl⟩:=hv;have I1:L2.Inv X pins σ H {s with heap:=h',toks:=tk}:=I.turned (fun b o hb e=>kk b o (by simpa using hb) e) f0 f1 f3 f4 f5;exact⟨_,rfl,go_of (s:={s with heap:=h',toks:=tk}) (n:="range_iterator") st' rfl rfl %[|4] ⟨.int (lo+i*c),H,I1,⟨t,rfl⟩,⟨rfl,rfl⟩,st',fun b hb=>(hf b hb).1⟩⟩
 done:=by
  intro X hP hw hK hc i pins s σ H E I hf st hg;subst hP hw hK;obtain⟨f0,f1,f2,f3,f4,f5⟩:=hf it (by simp);exact wpAny_pyNext_range_end (I.ok.hd hc) st (by have:n<=i:=hg;omega) fun h' eb=>⟨rfl,I.turned (t':=s.toks) (fun b o hb e=>eb b o hb e) f0 f1 f3 f4 f5⟩
 self:=fun _ _ _ _ _ st h=>wpAny_pyIter_rangeiter st h
noncomputable def rngD (lo c:Int) (n:Nat):List D:=(List.range n).map fun i=>.int (lo+(i:Nat)*c)
noncomputable def rngN (i j c:Int):Nat:=(Builtin.Range.rangeSize i j c).toNat
noncomputable def itRng:List D->Mem->(List D->(Mem->Prop)->Mem->Prop)->Prop
 | [.int j],M,R=>(-(2 ^ 62)<=j/\j<2 ^ 62)/\R (rngD 0 1 j.toNat) (fun _=>True) M
 | [.int i,.int j],M,R=>(-(2 ^ 62)<=i/\i<2 ^ 62/\-(2 ^ 62)<=j/\j<2 ^ 62)/\R (rngD i 1 (j-i).toNat) (fun _=>True) M
 | [.int i,.int j,.int c],M,R=>DivOk c/\Builtin.Range.small i j c=true/\0<=Builtin.Range.rangeSize i j c/\R (rngD i c (rngN i j c)) (fun _=>True) M
 | _,_,_=>False
noncomputable def diRng (ta:DA):DI:=fun δ M R=>ta δ M fun ds M1=>itRng ds M1 R
theorem itd_rng3 {K:Frag} {H0:Hp} {lo c:Int} {n:Nat}:ItD K H0 (Itr3 lo c n) (rngD lo c n) (fun _=>True):=fun i H M x m k=>by
 have hl:(rngD lo c n).length=n:=by simp[rngD]
 rw[hl];refine⟨fun h=>h,fun h=>h,fun y H' hq2=>?_⟩;obtain⟨e1,e2⟩:=hq2;subst e1 e2;refine⟨.refl _,m,fun d hd=>?_⟩;unfold rngD at hd;rw[List.getElem?_map] at hd;cases q:(List.range n)[i]? with
 | none=>rw [q] at hd;cases hd
 | some j =>
  rw[q] at hd;have hj:j=i:=by
   obtain⟨h1,h2⟩:=List.getElem?_eq_some_iff.mp q
   simpa using h2.symm
  subst hj;cases hd;exact .int _
theorem itd_rng {K:Frag} {H0:Hp} {lo:Int} {n:Nat}:ItD K H0 (Itr lo n) (rngD lo 1 n) (fun _=>True):=fun i H M x m k=>by
 obtain⟨a,b,c⟩:=itd_rng3 (K:=K) (H0:=H0) (lo:=lo) (c:=1) (n:=n) i H M x m k;refine⟨a,b,fun y H' ⟨e1,e2⟩=>c y H' ⟨e1,?_⟩⟩;rw[Int.mul_one];exact e2
theorem rels_ints {K:Frag} {H:Hp} {vs:List V}:∀ {ns:List Int},RelDs K H vs (ns.map D.int)->vs=ns.map V.int
 | [],r=>by cases r;rfl
 | _::_,r=>by cases r with|cons h q=>cases h;exact congrArg _ (rels_ints q)
section
variable {X:Cx} {rz:Bool} {Xe:DSt->DK} {tg:Expr} {pos:Pos}
theorem range_it3 {pins:List (Addr×Obj)} {σ:L2.St} {H:Hp} {s:Shared} {R:It->Hp->Prop} {E:Value->Shared->Prop} {lo hi c:Int} {t u v:Tok} {tk:Nat} (I:L2.Inv X pins σ H s) (hs:Builtin.Range.small lo hi c=true) (hn:0<=Builtin.Range.rangeSize lo hi c)
  (q:R (Itr3 lo c (rngN lo hi c)) H):wpAny (model X.prog X.w) X.A (pyIter (.ref s.heap.objs.size)) (PIE X pins σ tg R) E {s with heap:=s.heap.push {cls:=.type "range",data:=.fields #[.int lo t,.int hi u,.int c v]},toks:=tk}:=by
 refine wpAny_pyIter_range (IsRange.new ..) hs ?_;have I1:L2.Inv X pins σ H {s with heap:=s.heap.push {cls:=.type "range",data:=.fields #[.int lo t,.int hi u,.int c v]},toks:=tk}:=I.kept fun b o e=>Heap.get?_push_of_some _ e;refine⟨(s.heap.push {cls:=.type "range",data:=.fields #[.int lo t,.int hi u,.int c v]}).objs.size,[(s.heap.push {cls:=.type "range",data:=.fields #[.int lo t,.int hi u,.int c v]}).objs.size],_,_,H,rfl,
  I1.kept (t':=tk) fun b o e=>Heap.get?_push_of_some _ e,turn_range3 _ lo c (rngN lo hi c),?_,fun b hb=>?_,q⟩
 ·have e1:lo+((0:Nat):Int)*c=lo:=by simp
  have e2:((rngN lo hi c:Nat):Int)-((0:Nat):Int)=Builtin.Range.rangeSize lo hi c:=by unfold rngN;omega
  show IsRangeIter _ _ (lo+((0:Nat):Int)*c) (((rngN lo hi c:Nat):Int)-((0:Nat):Int)) c;rw[e1,e2];exact Heap.get?_push_size _ rfl
 ·have e:b=(s.heap.push {cls:=.type "range",data:=.fields #[.int lo t,.int hi u,.int c v]}).objs.size:=by simpa using hb
  subst e;exact I1.fpOk %[|3] (I1.hok.fresh %[|3])
theorem di_rng {a:Expr} {es:List Expr} {ta:DA} {p:Pos} (hg:Gl X "range") (hm:X.mg "range"=none) (ha:PA X (a::es) (liftA (X.L rz Xe) ta)) (hs:starEach (a::es) X.env=(false,eval a X.env)::starEach es X.env) (hpl:(backTo pos (starEach es X.env)).any (·.1)=false) :
  PI X tg (.Call (.Name "range" p) (a::es) [] pos) (liftI (X.L rz Xe) (diRng ta)):=by
 rintro pins s σ H R I ⟨δ,M,Rd,rs,rm,t,q⟩;refine Call_ (ld_blt I hg hm boot_range (PyProof.Rows.callWith_type1 (thn (ha pos pins s σ H (fun vs H1=>(∃ j:Int,vs=[.int j]/\-(2 ^ 62)<=j/\j<2 ^ 62/\R (Itr 0 j.toNat) H1)\/(∃ i j:Int,vs=[.int i,.int j]/\(-(2 ^ 62)<=i/\i<2 ^ 62/\-(2 ^ 62)<=j/\j<2 ^ 62)/\R (Itr i (j-i).toNat) H1) \/
  (∃ i j c:Int,vs=[.int i,.int j,.int c]/\(DivOk c/\Builtin.Range.small i j c=true/\0<=Builtin.Range.rangeSize i j c)/\R (Itr3 i c (rngN i j c)) H1)) I ⟨δ,M,_,rs,rm,t,fun ds M1 vs H1 x1 m1 r1 h1=>?_⟩) fun us s1 ⟨vs,H1,I1,r1,q1⟩=>?_) hs hpl))
 ·unfold itRng at h1
  split at h1
  ·rename_i j;cases rels_ints (ns:=[j]) r1;exact .inl ⟨_,rfl,h1.1.1,h1.1.2,q _ _ _ _ _ x1 m1 trivial itd_rng h1.2⟩
  ·rename_i i j;cases rels_ints (ns:=[i,j]) r1;exact .inr (.inl ⟨_,_,rfl,h1.1,q _ _ _ _ _ x1 m1 trivial itd_rng h1.2⟩)
  ·rename_i i j c;cases rels_ints (ns:=[i,j,c]) r1;exact .inr (.inr ⟨_,_,_,rfl,⟨h1.1,h1.2.1,h1.2.2.1⟩,q _ _ _ _ _ x1 m1 trivial itd_rng3 h1.2.2.2⟩)
  ·exact h1.elim
 ·rcases q1 with ⟨j,e,q1,q2,q⟩|⟨i,j,e,⟨q1,q2,q3,q4⟩,q⟩|⟨i,j,c,e,⟨q1,q2,q3⟩,q⟩
  ·subst e
   cases r1 with
   | cons r rr =>
    cases rr;obtain⟨t,rfl⟩:=r;exact call_range_1 (range_it I1 %[|5] %[|5] q1 q2 (by simpa using q))
  ·subst e
   cases r1 with
   | cons r rr =>
    cases rr with
    | cons r' rr =>
     cases rr;obtain⟨t,rfl⟩:=r;obtain⟨t',rfl⟩:=r';exact call_range_2 (range_it I1 q1 q2 q3 q4 q)
  ·subst e
   cases r1 with
   | cons r rr =>
    cases rr with
    | cons r' rr =>
     cases rr with
     | cons r'' rr =>
      cases rr;obtain⟨t,rfl⟩:=r;obtain⟨t',rfl⟩:=r';obtain⟨t'',rfl⟩:=r'';exact call_range_3 q1.1 (range_it3 I1 q2 q3 q) (.inl (PyProof.noPylong_of_log2 q1.2))
end
section
variable {prog:Program} {w:World} {A:Around} {E:Value->Shared->Prop}
end
section
variable {X:Cx} {rz:Bool} {Xe:DSt->DK} {es:List Expr} {gs:DGs} {pos:Pos}
end
end DL
end
noncomputable section
namespace DL
open PySem PySem.Spec PyProof.Rows L2
noncomputable def clos (cells:List (Str×Addr)):List (Str×NameKind)->List (Str×Addr)->List (Str×Addr)
 | [],cs=>cs
 | (n,k)::r,cs=>if (k==.free)=true then clos cells r ((n,(cells.lookup n).getD 0)::cs) else clos cells r cs
theorem closureFor_some (h:∀ x∈scope.names,x.2=.free->∃ c,env.cells.lookup x.1=some c):closureFor scope env=pure (clos env.cells scope.names []):=by
 simp only[closureFor];generalize ([]:List (Str×Addr))=cs;generalize scope.names=names at h;have key:∀ (names:List (Str×NameKind)) (cs:List (Str×Addr)),(∀ x∈names,x.2=.free->∃ c,env.cells.lookup x.1=some c) ->
   (forIn names cs fun x r=>(if (x.2==NameKind.free)=true then do let a <- cellOf env x.1;pure (ForInStep.yield ((x.1,a)::r)) else pure (ForInStep.yield r)):Sem (List (Str×Addr)))=pure (clos env.cells names cs):=by
  intro names
  induction names with
  | nil=>intro cs _;rfl
  | cons x l ih =>
   intro cs h;obtain⟨n,k⟩:=x;rw[List.forIn_cons];by_cases hk:(k==NameKind.free)=true
   ·obtain⟨c,hc⟩:=h (n,k) List.mem_cons_self (by simpa using hk)
    have hcell:cellOf env n=pure c:=by unfold cellOf;rw[hc]
    rw[if_pos hk,hcell];simp only[pure_bind];rw[ih _ fun y hy=>h y (List.mem_cons_of_mem _ hy)];have:clos env.cells ((n,k)::l) cs=clos env.cells l ((n,c)::cs):=by
     conv=>lhs;unfold clos
     rw[if_pos hk,hc];rfl
    rw[this]
   ·rw[if_neg hk]
    simp only[pure_bind];rw[ih _ fun y hy=>h y (List.mem_cons_of_mem _ hy)]
    conv=>rhs;unfold clos
    rw[if_neg hk]
 have:=key names cs h
 first
  | exact (by simpa using this)
  | (rw [<- this];rfl)
theorem clos_sub:∀ {names:List (Str×NameKind)} {cs:List (Str×Addr)},(∀ x∈names,x.2=.free->∃ c,cells.lookup x.1=some c)->(∀ x c,cs.lookup x=some c->cells.lookup x=some c) ->
  ∀ x c,(clos cells names cs).lookup x=some c->cells.lookup x=some c
 | [],_,_,h,x,c,e=>h x c e
 | (n,k)::r,cs,hn,h,x,c,e=>by
  unfold clos at e;by_cases hk:(k==NameKind.free)=true
  ·rw[if_pos hk] at e
   obtain⟨c0,hc0⟩:=hn (n,k) List.mem_cons_self (by simpa using hk);refine clos_sub (fun y hy=>hn y (List.mem_cons_of_mem _ hy)) (fun y d q=>?_) x c e;rw[List.lookup_cons] at q;cases hy:y==n with
   | true=>rw [hy] at q;rw[eq_of_beq hy,hc0];rw[hc0] at q;exact q
   | false=>rw [hy] at q;exact h y d q
  ·rw[if_neg hk] at e
   exact clos_sub (fun y hy=>hn y (List.mem_cons_of_mem _ hy)) h x c e
theorem clos_has:∀ {names:List (Str×NameKind)} {cs:List (Str×Addr)} {x:Str},((∃ c,cs.lookup x=some c)\/(x,NameKind.free)∈names)->∃ c,(clos cells names cs).lookup x=some c
 | [],_,_,h=>by
  rcases h with h|h
  ·exact h
  ·cases h
 | (n,k)::r,cs,x,h=>by
  unfold clos;by_cases hk:(k==NameKind.free)=true
  ·rw[if_pos hk]
   refine clos_has ?_;cases hx:x==n with
   | true=>exact .inl ⟨_,by rw[List.lookup_cons,hx]⟩
   | false =>
    rcases h with ⟨c,h⟩|h
    ·exact .inl ⟨c,by rw[List.lookup_cons,hx];exact h⟩
    ·rcases List.mem_cons.mp h with h|h
     ·cases h;simp at hx
     ·exact .inr h
  ·rw[if_neg hk]
   refine clos_has ?_;rcases h with h|h
   ·exact .inl h
   ·rcases List.mem_cons.mp h with h|h
    ·cases h;simp at hk
    ·exact .inr h
theorem lookup_relabel {env:Env}:∀ {names:List (Str×NameKind)} {x:Str} {k:NameKind},
  (names.map fun (n,k)=>if (k==NameKind.free&&env.scope.kind==.function&&env.kindOf n==some .cell) then (n,NameKind.cell) else (n,k)).lookup x=some k ->
  ∃ k',names.lookup x=some k'/\(k=k'\/(k'=.free/\k=.cell))
 | [],_,_,h=>by simp at h
 | (n,k0)::r,x,k,h=>by
  have ih:=@lookup_relabel env r x k;simp only[List.map_cons] at h;by_cases hc:(k0==NameKind.free&&env.scope.kind==.function&&env.kindOf n==some .cell)=true
  ·rw[if_pos hc] at h
   rw[List.lookup_cons] at h ⊢;cases hx:x==n with
   | true =>
    simp only[hx] at h;cases h;simp only[Bool.and_eq_true,beq_iff_eq] at hc;exact⟨k0,rfl,.inr ⟨hc.1.1,rfl⟩⟩
   | false=>simp only[hx] at h;exact ih h
  ·rw[if_neg hc] at h
   rw[List.lookup_cons] at h ⊢;cases hx:x==n with
   | true=>simp only[hx] at h;cases h;exact⟨k0,rfl,.inl rfl⟩
   | false=>simp only[hx] at h;exact ih h
structure BlkOk (N:List Str) (env:Env) (N':List Str) (scope:Scope):Prop where
 kind:scope.kind=.function
 cell:∀ y∈scope.names,y.2≠.cell
 names:∀ y∈scope.names,y.2=.local->scope.names.lookup y.1=some .local
 free:∀ y∈scope.names,y.2=.free->env.kindOf y.1=some .cell\/env.kindOf y.1=some .free
 agree:∀ i x,i<N.length->N'[i]?=some x->∀ k,scope.names.lookup x=some k->k=.globalImplicit\/k=.globalExplicit\/(k=.free/\N[i]?=some x)
 long:N.length<=N'.length
noncomputable def blkCx (X:Cx) (N':List Str) (scope:Scope) (cl:List (Str×Addr)) (C:Addr) (s:Shared) (H:Hp) (ex:List Addr) (pn:List (Addr×Obj)):Cx :=
 {X with N:=N',s₀:=s,H₀:=H,env:=compEnvC scope cl C X.env,outer:=X.stack,stack:=X.stack,ex:=ex,fn:=fun _=>false,pn:=pn,xe:=fun _ _=>False}
section
variable {X:Cx} {rz:Bool} {Xe:DSt->DK} {pins:List (Addr×Obj)} {σ:L2.St} {H:Hp} {s:Shared} {N':List Str} {scope:Scope} {fp:List Addr}
theorem blk_start (I:L2.Inv X pins σ H s) (B:BlkOk X.N X.env N' scope) (hf:∀ b∈fp,FpOk X pins H b) (hflt:∀ b∈fp,b<s.heap.objs.size)
  (hns:h1.Ns s.heap.objs.size (fun x=>([]:List (Str×Value)).reverse.lookup x)) (hk:∀ b o,s.heap.get? b=some o->h1.get? b=some o) :
  L2.Inv (blkCx X N' scope (clos X.env.cells scope.names []) s.heap.objs.size s H fp []) [] (σ++List.replicate (N'.length-X.N.length) none) H {s with heap:=h1,toks:=tk}:=by
 have hcells:∀ x∈scope.names,x.2=.free->∃ c,X.env.cells.lookup x.1=some c:=fun x hx e=>I.ok.has x.1 (B.free x hx e);have csub:=clos_sub (cells:=X.env.cells) (names:=scope.names) (cs:=[]) hcells (fun x c e=>by simp at e);have noC:∀ x c,X.env.cells.lookup x=some c->c<s.heap.objs.size:=fun x c e=>by obtain⟨v,q⟩:=I.cell x c e;exact q.lt
 refine⟨⟨I.ok.mod,?_,I.ok.glob,I.ok.blt,Nat.le_refl _,fun x y c e1 e2=>I.ok.inj x y c (csub x c e1) (csub y c e2),fun x hx=>?_,fun x c e=>(by cases e),I.ok.hd,I.ok.frames,.inl rfl,fun b hb=>⟨Nat.ne_of_lt (hflt b hb),fun x c e=>(hf b hb).2.2.2.2.1 x c (csub x c e)⟩,
  I.bs,Nat.le_trans I.ok.bsz I.sz,fun b o e hb=>?_,fun b hb z=>?_,I.stack,I.stkFree⟩,rfl,I.bare,Un.kept hk,⟨_,hns,fun i x v e1 e2 e3=>?_⟩,fun x c e=>?_,I.hok.fresh %[|3],fun x c e=>I.freeC x c (csub x c e),fun p hp=>absurd (show p∈([]:List (Addr×Obj)) from hp) (by simp),I.hok.kept hk,?_⟩
 ·show (relabel scope X.env).kind=.function
  exact B.kind
 ·
  have hx':(relabel scope X.env).names.lookup x=some .cell\/(relabel scope X.env).names.lookup x=some .free:=hx;have fin:(x,NameKind.free)∈scope.names->∃ c,(clos X.env.cells scope.names []).lookup x=some c:=fun z=>clos_has (.inr z);rcases hx' with z|z
  ·obtain⟨k',e1,e2⟩:=lookup_relabel z
   have hm:=PySem.mem_of_lookup e1;rcases e2 with e2|⟨e2,_⟩
   ·subst e2;exact absurd rfl (B.cell _ hm)
   ·subst e2;exact fin hm
  ·obtain⟨k',e1,e2⟩:=lookup_relabel z
   have hm:=PySem.mem_of_lookup e1;rcases e2 with e2|⟨_,e2⟩
   ·subst e2;exact fin hm
   ·cases e2
 ·
  obtain⟨_,_,_,z,_⟩:=hf b hb;rcases z with z|z
  ·exact I.ok.noex b o e z
  ·exact absurd (Nat.lt_of_lt_of_le (Heap.lt_size e) I.ok.bsz) (Nat.not_lt.mpr z)
 ·obtain⟨_,z1,z2,_⟩:=hf b hb
  rcases List.mem_cons.mp (I.stkSub b z) with q|q
  ·exact z1 q
  ·exact z2 q
 ·
  have e3':(relabel scope X.env).names.lookup x=some .local\/(relabel scope X.env).names.lookup x=some .cell\/(relabel scope X.env).names.lookup x=some .free:=e3;have hi:i < σ.length:=by
   by_cases hi:i < σ.length
   ·exact hi
   ·rw[List.getElem?_append_right %[|5],List.getElem?_replicate] at e2
    split at e2<;>cases e2
  rw[List.getElem?_append_left hi] at e2;have hiN:i<X.N.length:=by rw[<- I.len];exact hi
  obtain⟨k',q1,q2⟩:∃ k',scope.names.lookup x=some k'/\(k'=.local\/k'=.cell\/k'=.free):=by
   rcases e3' with z|z|z
   all_goals
    obtain⟨k',e1,e2⟩:=lookup_relabel z;rcases e2 with e2|⟨e2,e4⟩
    ·exact⟨k',e1,by rw[<- e2];simp⟩
    ·exact⟨k',e1,by rw[e2];simp⟩
  obtain⟨hfree,hN⟩:k'=.free/\X.N[i]?=some x:=by
   rcases B.agree i x hiN e1 k' q1 with z|z|z
   ·subst z;simp at q2
   ·subst z;simp at q2
   ·exact z
  subst hfree;have hout:=B.free (x,.free) (PySem.mem_of_lookup q1) rfl;obtain⟨m,hn,hl⟩:=I.loc;have vis:Vis X.env.scope x:=by rcases hout with z|z;exact .inr (.inl z);exact .inr (.inr z)
  obtain⟨u,r,l⟩:=hl i x v hN e2 vis;refine⟨u,r,?_⟩;rcases l with ⟨hkk,_⟩|⟨_,c,hc,hcell⟩
  ·exfalso
   rcases hout with z|z
   ·rw[show X.env.kindOf x=some .cell from z] at hkk;cases hkk
   ·rw[show X.env.kindOf x=some .free from z] at hkk;cases hkk
  ·obtain⟨c',hc'⟩:=clos_has (cells:=X.env.cells) (names:=scope.names) (cs:=[]) (.inr (PySem.mem_of_lookup q1))
   have:=csub x c' hc';rw[hc] at this;cases this;refine .inr ⟨?_,c,hc',(let ⟨o,e1,e2⟩:=hcell;⟨o,hk _ o e1,e2⟩)⟩;rcases e3' with z|z|z
   ·obtain⟨k',e1,e2⟩:=lookup_relabel z
    rw[q1] at e1;cases e1;rcases e2 with e2|⟨_,e2⟩<;>cases e2
   ·exact .inl z
   ·exact .inr z
 ·obtain⟨v,q⟩:=I.cell x c (csub x c e)
  exact⟨v,let ⟨o,e1,e2⟩:=q;⟨o,hk _ o e1,e2⟩⟩
 ·show (σ++List.replicate (N'.length-X.N.length) none).length=N'.length
  rw[List.length_append,List.length_replicate,I.len];have:=B.long;omega
noncomputable def compD (g:DG) (te:DE) (keep:Mem->Prop) (p:Addr):List D->List D->DSt->Mem->(Mem->Prop)->Prop
 | [],_,_,M,Q=>Q M
 | x::xs,acc,δ,M,Q=>g x δ M fun δ1 M1=>te δ1 M1 fun d M2=>M2 p=some (.ls acc)/\acc.length<sizeLine/\keep (M2.upd p (.ls (acc++[d])))/\compD g te keep p xs (acc++[d]) δ1 (M2.upd p (.ls (acc++[d]))) Q
noncomputable def dComp (n:Nat) (ti:DI) (g:DG) (te:DE):DE:=fun δ M Q=>ti δ M fun items keep M1=>∀ p,M1 p=none ->
 keep (M1.upd p (.ls []))/\compD g te keep p items [] (δ++List.replicate n none) (M1.upd p (.ls [])) fun M2=>(∃ ds,M2 p=some (.ls ds))/\Q (.lst p) M2
theorem Slots.more {K:Frag} {H:Hp} {δ:DSt} {σ:L2.St} (r:Slots K H δ σ) (n:Nat):Slots K H (δ++List.replicate n none) (σ++List.replicate n none):=by
 refine⟨by simp[r.len],fun i d e=>?_⟩;by_cases hi:i < δ.length
 ·rw[List.getElem?_append_left hi] at e
  obtain⟨v,h1,h2⟩:=r.slot i d e;exact⟨v,by rw[List.getElem?_append_left (by rw[<- r.len];exact hi)];exact h1,h2⟩
 ·rw[List.getElem?_append_right %[|5],List.getElem?_replicate] at e
  split at e<;>cases e
end
end DL
end
noncomputable section
namespace DL
open PySem PySem.Spec PyProof.Rows L2
abbrev DB:=DSt->Mem->(DSt->Mem->Prop)->Prop
abbrev BW:=Program->World->Around->(Shared->Prop)->Shared->Prop
noncomputable def liftB (Λ:LK) (b:DB) (σ:L2.St) (H:Hp) (Q:L2.St->Hp->Prop):Prop:=∃ δ M R,RepS Λ H δ σ/\RepM Λ.K H M/\b δ M R/\∀ δ' M' σ' H',HExt Λ.K H H'->RepS Λ H' δ' σ'->RepM Λ.K H' M'->R δ' M'->Q σ' H'
noncomputable def PB (Y:Cx) (W:BW) (b:DB):Prop:=∀ (pins:List (Addr×Obj)) (s:Shared) (σ:L2.St) (H:Hp) (Q:L2.St->Hp->Prop),L2.Inv Y pins σ H s->liftB (Y.L false X0) b σ H Q ->
 W Y.prog Y.w Y.A (fun s'=>∃ σ' H',L2.Inv Y pins σ' H' s'/\Q σ' H') s
noncomputable def loopD (g:DG) (b:DB) (keep:Mem->Prop):List D->DB
 | []=>fun δ M Q=>Q δ M
 | x::xs=>fun δ M Q=>g x δ M fun δ1 M1=>b δ1 M1 fun δ2 M2=>keep M2/\loopD g b keep xs δ2 M2 Q
noncomputable def bEmit (te:DE) (p:Addr):DB:=fun δ M Q=>te δ M fun d M2=>∃ acc,M2 p=some (.ls acc)/\acc.length<sizeLine/\Q δ (M2.upd p (.ls (acc++[d])))
noncomputable def bIf (tt:DT) (b:Addr->DB) (p:Addr):DB:=fun δ M Q=>tt δ M fun k M1=>if k=true then b p δ M1 Q else Q δ M1
noncomputable def bFor (ti:DI) (g:DG) (b:Addr->DB) (p:Addr):DB:=fun δ M Q=>ti δ M fun items keep M1=>loopD g (b p) keep items δ M1 Q
noncomputable def dCompB (n:Nat) (ti:DI) (g:DG) (b:Addr->DB):DE:=fun δ M Q=>ti δ M fun items keep M1=>∀ p,M1 p=none ->
 keep (M1.upd p (.ls []))/\loopD g (b p) keep items (δ++List.replicate n none) (M1.upd p (.ls [])) fun _ M2=>(∃ ds,M2 p=some (.ls ds))/\Q (.lst p) M2
noncomputable def emitW (elt:Expr) (acc:Value) (env:Env):BW:=fun prog w A Q s=>wpAny (model prog w) A (eval elt env) (fun x s1=>wpAny (model prog w) A (call (.builtin "list.append") [acc,x]) (fun _ s2=>Q s2) (fun _ _=>False) s1) (fun _ _=>False) s
noncomputable def ifW (c:Expr) (env:Env) (b:BW):BW:=fun prog w A Q s=>wpAny (model prog w) A (isTrue c env (eval c env)) (fun ok s1=>if ok=true then b prog w A Q s1 else Q s1) (fun _ _=>False) s
noncomputable def forW (e iter:Expr) (d:Nat) (acc:Value) (env:Env):BW:=fun prog w A Q s=>wpAny (model prog w) A (eval iter env) (fun x s1=>wpAny (model prog w) A (pyIter x) (fun i s2=>codeAny (model prog w) A (.compStart e d i acc env) (fun r s'=>match r with | .ok _=>Q s' | .error _=>False) s2) (fun _ _=>False) s1) (fun _ _=>False) s
noncomputable def TurnOf (e target:Expr) (d:Nat) (it acc:Value) (env:Env) (body:BW):Prop:=∀ {prog:Program} {w:World} {A:Around} {R:Fin->Shared->Prop} {s:Shared},
 wpAny (model prog w) A (pyNext it) (fun r s₁=>match r with
   | none=>R (.done .next) s₁
   | some v=>wpAny (model prog w) A (letOwnedTupleGo target it v) (fun _ s₂=>wpAny (model prog w) A (assign target env v) (fun _ s₃=>body prog w A (fun s₄=>R (.again (.compLoop e d it acc env)) s₄) s₃) (fun _ _=>False) s₂) (fun _ _=>False) s₁) (fun _ _=>False) s ->
 wpAny (model prog w) A (compTurn e d it acc env) R (fun _ _=>False) s
theorem turn_if:TurnOf (.ListComp elt [⟨target,iter,[c],0⟩] scope pos) target 0 it acc env (ifW c env (emitW elt acc env)):=by
 intro prog w A R s h;rw[compTurn_list];refine wpAny_bind (wpAny_standAt (wpAny_bind (wpAny_mono h (fun r s₁ h₁=>?_) fun _ _ h'=>h'.elim)));cases r with
 | none=>exact wpAny_pure h₁
 | some v =>
  refine wpAny_bind (wpAny_mono h₁ (fun _ s₂ h₂=>?_) fun _ _ h'=>h'.elim);refine wpAny_bind (wpAny_mono h₂ (fun _ s₃ h₃=>?_) fun _ _ h'=>h'.elim);refine wpAny_bind (wpAny_tests_one (wpAny_mono h₃ (fun ok s₄ h₄=>?_) fun _ _ h'=>h'.elim));cases ok with
  | false=>exact wpAny_pure h₄
  | true=>exact wpAny_bind (wpAny_bind (wpAny_mono h₄ (fun x s₅ h₅=>wpAny_bind (wpAny_mono h₅ (fun _ s₆ h₆=>wpAny_pure (wpAny_pure h₆)) fun _ _ h'=>h'.elim)) fun _ _ h'=>h'.elim))
theorem compTurn_two0i (elt target iter t2 i2:Expr) (fs:List Expr) (scope:Scope) (pos:Pos) (it acc:Value) (env:Env) :
  compTurn (.ListComp elt [⟨target,iter,[],0⟩,⟨t2,i2,fs,0⟩] scope pos) 0 it acc env=(standAt iter.pos >>= fun _=>pyNext it >>= fun r=>match r with
   | none=>pure (.done .next)
   | some v=>letOwnedTupleGo target it v >>= fun _=>assign target env v >>= fun _ =>
    (eval i2 env >>= fun x=>standAt i2.pos >>= fun _=>foldedSetIterable i2 env x >>= fun x=>holding [x] (pyIter x) >>= fun i=>runOwn (.compStart (.ListComp elt [⟨target,iter,[],0⟩,⟨t2,i2,fs,0⟩] scope pos) 1 i acc env) env >>= fun _ =>
     again (.compLoop (.ListComp elt [⟨target,iter,[],0⟩,⟨t2,i2,fs,0⟩] scope pos) 0 it acc env))):=by rfl
theorem turn_two0i (hs:∀ x,foldedSetIterable i2 env x=pure x):TurnOf (.ListComp elt [⟨target,iter,[],0⟩,⟨t2,i2,fs,0⟩] scope pos) target 0 it acc env (forW (.ListComp elt [⟨target,iter,[],0⟩,⟨t2,i2,fs,0⟩] scope pos) i2 1 acc env):=by
 intro prog w A R s h;rw[compTurn_two0i];refine wpAny_bind (wpAny_standAt (wpAny_bind (wpAny_mono h (fun r s₁ h₁=>?_) fun _ _ h'=>h'.elim)));cases r with
 | none=>exact wpAny_pure h₁
 | some v =>
  refine wpAny_bind (wpAny_mono h₁ (fun _ s₂ h₂=>?_) fun _ _ h'=>h'.elim);refine wpAny_bind (wpAny_mono h₂ (fun _ s₃ h₃=>?_) fun _ _ h'=>h'.elim);refine wpAny_bind (wpAny_mono h₃ (fun x s₄ h₄=>?_) fun _ _ h'=>h'.elim);refine wpAny_bind (wpAny_standAt (wpAny_bind (wpAny_of_eq (hs x) (wpAny_bind (wpAny_holding (wpAny_mono h₄ (fun i s₅ h₅=>?_) fun _ _ h'=>h'.elim))))));refine wpAny_bind (wpAny_runOwn (codeAny_mono h₅ fun r s₆ h₆=>?_));cases r with
  | ok f=>exact wpAny_pure h₆
  | error e=>exact h₆.elim
theorem compTurn_two1i (elt target iter t2 i2:Expr) (fs:List Expr) (scope:Scope) (pos:Pos) (it acc:Value) (env:Env) :
  compTurn (.ListComp elt [⟨target,iter,[],0⟩,⟨t2,i2,fs,0⟩] scope pos) 1 it acc env=(standAt i2.pos >>= fun _=>pyNext it >>= fun r=>match r with
   | none=>pure (.done .next)
   | some v=>letOwnedTupleGo t2 it v >>= fun _=>assign t2 env v >>= fun _ =>
    (forIn fs true fun c r=>if r=true then PySem.isTrue c env (eval c env) >>= fun ok=>pure (ForInStep.yield ok) else pure (ForInStep.yield r)) >>= fun ok =>
    if ok=true then (eval elt env >>= fun x=>call (.builtin "list.append") [acc,x] >>= fun _=>pure ()) >>= fun _ =>
     again (.compLoop (.ListComp elt [⟨target,iter,[],0⟩,⟨t2,i2,fs,0⟩] scope pos) 1 it acc env) else again (.compLoop (.ListComp elt [⟨target,iter,[],0⟩,⟨t2,i2,fs,0⟩] scope pos) 1 it acc env)):=by rfl
theorem turn_two1i:TurnOf (.ListComp elt [⟨target,iter,[],0⟩,⟨t2,i2,[c],0⟩] scope pos) t2 1 it acc env (ifW c env (emitW elt acc env)):=by
 intro prog w A R s h;rw[compTurn_two1i];refine wpAny_bind (wpAny_standAt (wpAny_bind (wpAny_mono h (fun r s₁ h₁=>?_) fun _ _ h'=>h'.elim)));cases r with
 | none=>exact wpAny_pure h₁
 | some v =>
  refine wpAny_bind (wpAny_mono h₁ (fun _ s₂ h₂=>?_) fun _ _ h'=>h'.elim);refine wpAny_bind (wpAny_mono h₂ (fun _ s₃ h₃=>?_) fun _ _ h'=>h'.elim);refine wpAny_bind (wpAny_tests_one (wpAny_mono h₃ (fun ok s₄ h₄=>?_) fun _ _ h'=>h'.elim));cases ok with
  | false=>exact wpAny_pure h₄
  | true=>exact wpAny_bind (wpAny_bind (wpAny_mono h₄ (fun x s₅ h₅=>wpAny_bind (wpAny_mono h₅ (fun _ s₆ h₆=>wpAny_pure (wpAny_pure h₆)) fun _ _ h'=>h'.elim)) fun _ _ h'=>h'.elim))
theorem loop_own
  (ht:TurnOf (.ListComp elt gs scope pos) target d it acc env body) (I:Nat->Shared->Prop)
  (turn:∀ n s,I n s->wpAny (model prog w) A (pyNext it) (fun r s₁=>match r with
   | none=>R (.ok .next) s₁
   | some v=>wpAny (model prog w) A (letOwnedTupleGo target it v) (fun _ s₂=>wpAny (model prog w) A (assign target env v) (fun _ s₃=>body prog w A (fun s₄=>∃ m,m<n/\I m s₄) s₃) (fun _ _=>False) s₂) (fun _ _=>False) s₁) (fun _ _=>False) s)
  (mono:∀ (A:Around) (Q Q':Shared->Prop) s,(∀ s',Q s'->Q' s')->body prog w A Q s->body prog w A Q' s)
  (n:Nat) (h:I n s):codeAny (model prog w) A (.compLoop (.ListComp elt gs scope pos) d it acc env) R s:=by
 refine codeAny_loop rfl I (fun n s hI=>?_) n h;show wpAny _ _ ((compTurn (.ListComp elt gs scope pos) d it acc env).onRaise (fun x=>do noteFrame x env;theTreesLotGoes x)) _ _ s;refine wpAny_noted (wpAny_mono (ht (R:=fun fin s'=>match fin with | .done f=>R (.ok f) s' | .again c'=>c'=.compLoop (.ListComp elt gs scope pos) d it acc env/\∃ m,m<n/\I m s') (wpAny_mono (turn n s hI) (fun r s₁ h₁=>?_) fun _ _ h'=>h'.elim)) (fun _ _ q=>q) fun _ _ h'=>h'.elim);cases r with
 | none=>exact h₁
 | some v=>exact wpAny_mono h₁ (fun _ s₂ h₂=>wpAny_mono h₂ (fun _ s₃ h₃=>mono _ _ _ _ (fun s' q=>⟨rfl,q⟩) h₃) fun _ _ h'=>h'.elim) fun _ _ h'=>h'.elim
theorem emitW_mono (A:Around) (Q Q':Shared->Prop) (s) (hq:∀ s',Q s'->Q' s') (h:emitW elt acc env prog w A Q s):emitW elt acc env prog w A Q' s :=
 wpAny_mono h (fun _ _ h1=>wpAny_mono h1 (fun _ _ h2=>hq _ h2) fun _ _ h'=>h') fun _ _ h'=>h'
theorem ifW_mono (hb:∀ (A:Around) (Q Q':Shared->Prop) s,(∀ s',Q s'->Q' s')->b prog w A Q s->b prog w A Q' s) (A:Around) (Q Q':Shared->Prop) (s) (hq:∀ s',Q s'->Q' s') (h:ifW c env b prog w A Q s):ifW c env b prog w A Q' s :=
 wpAny_mono h (fun k s1 h1=>by
  cases k with
  | true=>exact hb _ _ _ _ hq h1
  | false=>exact hq _ h1) fun _ _ h'=>h'
theorem forW_mono (A:Around) (Q Q':Shared->Prop) (s) (hq:∀ s',Q s'->Q' s') (h:forW e iter d acc env prog w A Q s):forW e iter d acc env prog w A Q' s :=
 wpAny_mono h (fun _ _ h1=>wpAny_mono h1 (fun _ _ h2=>codeAny_mono h2 fun r s' q=>by
  cases r with
  | ok f=>exact hq _ q
  | error e=>exact q) fun _ _ h'=>h') fun _ _ h'=>h'
theorem turn_one:TurnOf (.ListComp elt [⟨target,iter,[],0⟩] scope pos) target 0 it acc env (emitW elt acc env):=by
 intro prog w A R s h;rw[compTurn_list1];refine wpAny_bind (wpAny_standAt (wpAny_bind (wpAny_mono h (fun r s₁ h₁=>?_) fun _ _ h'=>h'.elim)));cases r with
 | none=>exact wpAny_pure h₁
 | some v =>
  refine wpAny_bind (wpAny_mono h₁ (fun _ s₂ h₂=>?_) fun _ _ h'=>h'.elim);exact wpAny_bind (wpAny_mono h₂ (fun _ s₃ h₃=>wpAny_bind (wpAny_bind (wpAny_mono h₃ (fun x s₅ h₅=>wpAny_bind (wpAny_mono h₅ (fun _ s₆ h₆=>wpAny_pure (wpAny_pure h₆)) fun _ _ h'=>h'.elim)) fun _ _ h'=>h'.elim))) fun _ _ h'=>h'.elim)
noncomputable def gUp (g:DG):DG:=fun x δ M Q=>∃ R,g x δ M R/\∀ δ1 M1,R δ1 M1->Q δ1 M1
noncomputable def iUp (ti:DI):DI:=fun δ M R=>∃ R0,ti δ M R0/\∀ items keep M1,R0 items keep M1->R items keep M1
noncomputable def eUp (te:DE):DE:=fun δ M Q=>∃ R,te δ M R/\∀ d M1,R d M1->Q d M1
theorem comp_loop:∀ {items acc:List D} {δ:DSt} {M:Mem},compD g te keep p items acc δ M Q->loopD (gUp g) (bEmit (eUp te) p) keep items δ M fun _ M2=>Q M2
 | [],_,_,_,h=>h
 | x::xs,acc,δ,M,h=>⟨_,h,fun δ1 M1 h1=>⟨_,h1,fun d M2 h2=>⟨acc,h2.1,h2.2.1,h2.2.2.1,comp_loop h2.2.2.2⟩⟩⟩
theorem dComp_up (h:dComp n ti g te δ M Q):dCompB n (iUp ti) (gUp g) (bEmit (eUp te)) δ M Q :=
 ⟨_,h,fun items keep M1 h1 p hp=>⟨(h1 p hp).1,comp_loop (h1 p hp).2⟩⟩
theorem loop_gen
  {δ:DSt} {M:Mem} {R:DSt->Mem->Prop} {Rr:Result->Shared->Prop} {H0:Hp} (hc:Y.calm=true) (hx:Y.xe=fun _ _=>False)
  (ht:TurnOf (.ListComp elt gs scope pos) target d (.ref it) acc Y.env W) (mono:∀ (A:Around) (Q Q':Shared->Prop) s,(∀ s',Q s'->Q' s')->W Y.prog Y.w A Q s->W Y.prog Y.w A Q' s)
  (T:Turn Y.prog Y.w Y.K target J fp it tn) (itd:ItD Y.K H0 J items keep) (hg:PG Y target (liftG (Y.L false X0) g)) (hb:PB Y W b)
  (I:L2.Inv Y pins σ H s) (hf:∀ b∈fp,FpOk Y pins H b) (st:tn 0 s.heap) (x0:HExt Y.K H0 H) (rs:Slots Y.K H δ σ) (rm:RepM Y.K H M) (k:keep M) (h:loopD g b keep items δ M R)
  (fin:∀ s' σ' H' δ' M',L2.Inv Y pins σ' H' s'->HExt Y.K H H'->Slots Y.K H' δ' σ'->RepM Y.K H' M'->R δ' M'->Rr (.ok .next) s') :
  codeAny (model Y.prog Y.w) Y.A (.compLoop (.ListComp elt gs scope pos) d (.ref it) acc Y.env) Rr s:=by
 have stat:∀ {H':Hp},(∀ b∈fp,H' b=none)->∀ b∈fp,FpOk Y pins H' b:=fun hn b hb=>⟨hn b hb,(hf b hb).2⟩;refine loop_own ht (fun n s'=>∃ i σ' H' δ' M',L2.Inv Y pins σ' H' s'/\tn i s'.heap/\(∀ b∈fp,H' b=none)/\n=items.length-i/\i<=items.length/\HExt Y.K H H'/\Slots Y.K H' δ' σ'/\RepM Y.K H' M'/\keep M'/\loopD g b keep (items.drop i) δ' M' R) ?_ mono items.length
  ⟨0,σ,H,δ,M,I,st,fun b hbb=>(hf b hbb).1,rfl,Nat.zero_le _,.refl _,rs,rm,k,h⟩
 rintro n s5 ⟨i,σ5,H5,δ5,M5,I5,st5,fr5,rfl,hi5,x5,rs5,m5,k5,h5⟩;obtain⟨i1,i2,i3⟩:=itd i H5 M5 (x0.trans x5) m5 k5;by_cases hl:i<items.length
 ·rw[List.drop_eq_getElem_cons hl] at h5
  refine thn (T.item Y rfl rfl rfl hc i pins s5 σ5 H5 _ I5 (stat fr5) st5 (i1 hl)) fun r s6 hq2=>?_;obtain⟨u,hr,h6⟩:=hq2;subst hr;refine thn h6 fun _ s7 hq2=>?_;obtain⟨x,H7,I7,r7,y7,st7,fr7⟩:=hq2;obtain⟨x7,m7,r7'⟩:=i3 x H7 y7;have I7':=I7.pinned (stat fr7) (T.obj _ _ st7);have h8:=hg _ s7 σ5 H7 x u (fun σ8 H8=>∃ δ8 M8,HExt Y.K H7 H8/\Slots Y.K H8 δ8 σ8/\RepM Y.K H8 M8/\b δ8 M8 fun δ2 M2=>keep M2/\loopD g b keep (items.drop (i+1)) δ2 M2 R) I7' r7
   ⟨items[i],δ5,M5,_,r7' _ (by simp[hl]),⟨rs5.ext x7,xeOk0⟩,m7,h5,fun δ8 M8 σ8 H8 x8 rs8 m8 h8=>⟨δ8,M8,x8,rs8.toSlots,m8,h8⟩⟩
  rw[hx] at h8;refine thn h8 fun _ s8 hq2=>?_;obtain⟨σ8,H8,I8,δ8,M8,x8,rs8,m8,h8⟩:=hq2;refine mono _ _ _ _ ?_ (hb _ s8 σ8 H8 (fun σ9 H9=>∃ δ9 M9,HExt Y.K H8 H9/\Slots Y.K H9 δ9 σ9/\RepM Y.K H9 M9/\keep M9/\loopD g b keep (items.drop (i+1)) δ9 M9 R) I8 ⟨δ8,M8,_,⟨rs8,xeOk0⟩,m8,h8,fun δ9 M9 σ9 H9 x9 rs9 m9 h9=>⟨δ9,M9,x9,rs9.toSlots,m9,h9⟩⟩);rintro s9 ⟨σ9,H9,I9,δ9,M9,x9,rs9,m9,k9,h9⟩;refine⟨items.length-(i+1),by omega,i+1,σ9,H9,δ9,M9,I9.unpinned,T.keep _ _ _ st7 fun b hbb o e=>(I9.pin (b,o) (List.mem_append_right _ (List.mem_append_right _ (mem_pinsAt hbb e)))).1,fun b hbb=>?_,rfl,hl,(((x5.trans x7).trans x8).trans x9),rs9,m9,k9,h9⟩;obtain⟨o,e,d'⟩:=T.obj _ _ st7 b hbb;exact (I9.pin (b,o) (List.mem_append_right _ (List.mem_append_right _ (mem_pinsAt hbb e)))).2.1
 ·have e:i=items.length:=by omega
  subst e;rw[List.drop_length] at h5;refine thn (T.done Y rfl rfl rfl hc _ pins s5 σ5 H5 _ I5 (stat fr5) st5 (i2 %[|3])) fun r s6 hq2=>?_;obtain⟨hr,I6⟩:=hq2;subst hr;exact fin s6 σ5 H5 δ5 M5 I6 x5 rs5 m5 h5
theorem pb_emit (hx:Y.xe=fun _ _=>False) (he:PE Y elt (lift (Y.L false X0) te)):PB Y (emitW elt (.ref p) Y.env) (bEmit te p):=by
 rintro pins s σ H Q I ⟨δ,M,R,rs,rm,h,q⟩;have h8:=he pins s σ H (fun v H9=>∃ d M9,HExt Y.K H H9/\RepM Y.K H9 M9/\RelD Y.K H9 v d/\∃ acc,M9 p=some (.ls acc)/\acc.length<sizeLine/\R δ (M9.upd p (.ls (acc++[d])))) I
  ⟨δ,M,_,rs,rm,h,fun d M9 v H9 x9 m9 r9 h9=>⟨d,M9,x9,m9,r9,h9⟩⟩
 rw[hx] at h8;refine thn h8 fun y s9 hq2=>?_;obtain⟨v,H9,I9,r9,d,M9,x9,m9,rd9,acc,a9,z9,h9⟩:=hq2;obtain⟨vs,ev,rv⟩:=m9 _ _ a9;have xw:HExt Y.K H9 (upd H9 p (.lst (vs++[v]))):=.upd (.inr ⟨_,ev,trivial⟩);have h10:=mt_append pins s9 σ H9 (.ref p) [v] (.ref p) [y] (fun _ H10=>H10=upd H9 p (.lst (vs++[v]))) I9 rfl (.cons r9 .nil) ⟨_,vs,v,rfl,rfl,ev,by rw[rv.length];exact z9,rfl⟩;rw[hx] at h10;refine thn h10 fun _ s10 hq2=>?_;obtain⟨_,H10,I10,_,e10⟩:=hq2;subst e10;exact⟨σ,_,I10,q _ _ _ _ (x9.trans xw) (rs.ext (x9.trans xw)) (m9.write ev (rv.append (.cons rd9 .nil))) h9⟩
theorem pb_if (hx:Y.xe=fun _ _=>False) (hc:PT Y c (liftT (Y.L false X0) tt)) (hb:PB Y W (b p)):PB Y (ifW c Y.env W) (bIf tt b p):=by
 rintro pins s σ H Q I ⟨δ,M,R,rs,rm,h,q⟩;have h8:=hc pins s σ H (fun k H9=>∃ M9,HExt Y.K H H9/\RepM Y.K H9 M9/\if k=true then b p δ M9 R else R δ M9) I ⟨δ,M,_,rs,rm,h,fun k M9 H9 x9 m9 h9=>⟨M9,x9,m9,h9⟩⟩;rw[hx] at h8;refine thn h8 fun k s9 hq2=>?_;obtain⟨H9,I9,M9,x9,m9,h9⟩:=hq2;cases k with
 | true=>exact hb pins s9 σ H9 Q I9 ⟨δ,M9,R,rs.ext x9,m9,h9,fun δ' M' σ' H' x=>q δ' M' σ' H' (x9.trans x)⟩
 | false=>exact⟨σ,H9,I9,q _ _ _ _ x9 (rs.ext x9) m9 h9⟩
theorem compStart_1 {prog:Program} {w:World} {A:Around} {R:Result->Shared->Prop} {s:Shared} {elt:Expr} {c1:Comprehension} {target iter:Expr} {ifs:List Expr} {rest:List Comprehension} {scope:Scope} {pos:Pos} {it acc:Value} {env:Env}
  (h0:codeAny (model prog w) A (.compLoop (.ListComp elt (c1::⟨target,iter,ifs,0⟩::rest) scope pos) 1 it acc env) R s)
  (h:wpAny (model prog w) A (pyIter it) (fun it' s'=>codeAny (model prog w) A (.compLoop (.ListComp elt (c1::⟨target,iter,ifs,0⟩::rest) scope pos) 1 it' acc env) R s')
   (notedBy (model prog w) A env fun x s'=>R (.error x) s') s) :
  codeAny (model prog w) A (.compStart (.ListComp elt (c1::⟨target,iter,ifs,0⟩::rest) scope pos) 1 it acc env) R s:=by
 refine codeAny_of_tree ?_;show wpAny _ _ ((compStart (.ListComp elt (c1::⟨target,iter,ifs,0⟩::rest) scope pos) 1 it acc env).onRaise (fun x=>do noteFrame x env;standAt theWindowsPlace)) _ _ s;refine wpAny_notedAt ?_;unfold compStart;show wpAny _ _ (ask >>= _) _ _ s;refine wpAny_bind (wpAny_askSetting (wpAny_ite ?_));split
 ·first
   | exact wpAny_bind (wpAny_pure (wpAny_pure (And.intro rfl h0)))
   | exact wpAny_pure (And.intro rfl h0)
 ·first
   | exact wpAny_bind (wpAny_rule (wpAny_bind (wpAny_standAt (wpAny_bind (wpAny_mono h (fun it' s' h'=>wpAny_pure (And.intro rfl h')) fun _ _ x=>x)))))
   | (refine wpAny_bind (wpAny_rule ?_);show wpAny _ _ (standAt iter.pos >>= _) _ _ s;exact wpAny_bind (wpAny_standAt (wpAny_bind (wpAny_mono h (fun it' s' h'=>wpAny_pure (And.intro rfl h')) fun _ _ x=>x))))
theorem pb_for (hc:Y.calm=true) (hx:Y.xe=fun _ _=>False)
  (hi:PI Y t2 i2 (liftI (Y.L false X0) ti)) (hg:PG Y t2 (liftG (Y.L false X0) g)) (hb:PB Y W (b p)) (mono:∀ (A:Around) (Q Q':Shared->Prop) s,(∀ s',Q s'->Q' s')->W Y.prog Y.w A Q s->W Y.prog Y.w A Q' s)
  (ht:∀ it,TurnOf (.ListComp elt [c1,⟨t2,i2,fs,0⟩] scope pos) t2 1 it acc Y.env W):PB Y (forW (.ListComp elt [c1,⟨t2,i2,fs,0⟩] scope pos) i2 1 acc Y.env) (bFor ti g b p):=by
 rintro pins s σ H Q I ⟨δ,M,R,rs,rm,h,q⟩;have h8:=hi pins s σ H (fun J H1=>∃ items keep M1,HExt Y.K H H1/\RepM Y.K H1 M1/\keep M1/\ItD Y.K H1 J items keep/\loopD g (b p) keep items δ M1 R) I
  ⟨δ,M,_,rs,rm,h,fun items keep M1 J H1 x1 m1 k1 it h1=>⟨items,keep,M1,x1,m1,k1,it,h1⟩⟩
 rw[hx] at h8;refine thn h8 fun v s1 h1=>thn h1 fun itv s2 h2=>?_;obtain⟨it,fp,tn,J,H2,e,I2,T,st2,f2,items,keep,M1,x1,m1,k1,itd,h2⟩:=h2;subst e;have loop:codeAny (model Y.prog Y.w) Y.A (.compLoop (.ListComp elt [c1,⟨t2,i2,fs,0⟩] scope pos) 1 (.ref it) acc Y.env) (fun r s'=>match r with | .ok _=>∃ σ' H',L2.Inv Y pins σ' H' s'/\Q σ' H' | .error _=>False) s2 :=
  loop_gen (H0:=H2) hc hx (ht (.ref it)) mono T itd hg hb I2 f2 st2 (.refl _) (rs.toSlots.ext x1) m1 k1 h2 fun s' σ' H' δ' M' I' x' rs' m' r'=>⟨σ',H',I',q _ _ _ _ (x1.trans x') ⟨rs',xeOk0⟩ m' r'⟩
 exact compStart_1 loop (T.self Y.A 0 _ _ _ st2 loop)
section
variable {X:Cx} {rz:Bool} {Xe:DSt->DK} {N':List Str} {scope:Scope} {elt target iter:Expr} {ifs:List Expr} {rest:List Comprehension} {pos:Pos} {ti:DI} {g:DG} {b:Addr->DB}
theorem compB_gen (hc:X.calm=true) (B:BlkOk X.N X.env N' scope) (hi:PI X target iter (liftI (X.L rz Xe) ti))
  (W:Addr->Env->BW) (mono:∀ p env (A:Around) (Q Q':Shared->Prop) s,(∀ s',Q s'->Q' s')->W p env X.prog X.w A Q s->W p env X.prog X.w A Q' s)
  (hb:∀ cl C s H ex p,PG (blkCx X N' scope cl C s H ex []) target (liftG ((blkCx X N' scope cl C s H ex []).L false X0) g)/\PB (blkCx X N' scope cl C s H ex []) (W p (blkCx X N' scope cl C s H ex []).env) (b p))
  (ht:∀ it p env,TurnOf (.ListComp elt (⟨target,iter,ifs,0⟩::rest) scope pos) target 0 it (.ref p) env (W p env))
  (hs:∀ x,foldedSetIterable iter X.env x=pure x) {use:Option (Value->Sem Unit)} {Post:Value->Shared->Prop} {pins:List (Addr×Obj)} {s:Shared} {σ:L2.St} {H:Hp} {δ:DSt} {M:Mem} {R:DK}
  (I:L2.Inv X pins σ H s) (rs:RepS (X.L rz Xe) H δ σ) (rm:RepM X.K H M) (t:dCompB (N'.length-X.N.length) ti g b δ M R)
  (fin:∀ (p C:Addr) (s6:Shared) (H5:Hp) (M5:Mem),HExt X.K H H5->RepM X.K H5 M5->R (.lst p) M5->L2.Inv X pins σ H5 s6->FpOk X pins H5 C->(∃ m,s6.heap.Ns C m)->(∀ h',Heap.SameBut C s6.heap h'->L2.Inv X pins σ H5 {s6 with heap:=h'})->compPost (model X.prog X.w) X.A X.xe use Post (.ref p) C (.ok .next) s6) :
  wpAny (model X.prog X.w) X.A (comprehension (.ListComp elt (⟨target,iter,ifs,0⟩::rest) scope pos) scope X.env (firstIterPos (⟨target,iter,ifs,0⟩::rest) pos) (newList []) (firstAsync (⟨target,iter,ifs,0⟩::rest)) (firstIter (⟨target,iter,ifs,0⟩::rest) X.env) use) Post X.xe s:=by
 have hcells:∀ x∈scope.names,x.2=.free->∃ c,X.env.cells.lookup x.1=some c:=fun x hx e=>I.ok.has x.1 (B.free x hx e);refine wpAny_comprehension_free (use:=use) (cl:=clos X.env.cells scope.names []) rfl hs (closureFor_some hcells) B.kind B.names ?_;refine thn (hi pins s σ H (fun J H1=>∃ items keep M1,HExt X.K H H1/\RepM X.K H1 M1/\keep M1/\ItD X.K H1 J items keep/\∀ p,M1 p=none->keep (M1.upd p (.ls []))/\loopD g (b p) keep items (δ++List.replicate (N'.length-X.N.length) none) (M1.upd p (.ls [])) fun _ M2=>(∃ ds,M2 p=some (.ls ds))/\R (.lst p) M2) I
  ⟨δ,M,_,rs,rm,t,fun items keep M1 J H1 x1 m1 k1 it h1=>⟨items,keep,M1,x1,m1,k1,it,h1⟩⟩) fun v s1 h1=>thn h1 fun itv s2 h2=>?_
 obtain⟨it,fp,tn,J,H2,e,I2,T,st2,f2,items,keep,M1,x1,m1,k1,itd,h2⟩:=h2;subst e;have hflt2:∀ b∈fp,b<s2.heap.objs.size:=fun b hb=>let ⟨o,e,_⟩:=T.obj _ _ st2 b hb;Heap.lt_size e
 have hp:H2 s2.heap.objs.size=none:=I2.hok.fresh %[|3];refine wpAny_newObj_type ?_;have I3:=I2.lnew (ys:=[]) (its:=[]) (t':=s2.toks) .nil (Nat.zero_le _);have x3:HExt X.K H2 (upd H2 s2.heap.objs.size (.lst [])):=.upd (.inl hp);obtain⟨k3,h3⟩:=h2 _ (m1.none hp);have m3:=m1.lst (vs:=[]) (ds:=[]) hp .nil
 revert I3
 generalize hs3:(({s2 with heap:=s2.heap.push {cls:=.type "list",data:=.seq ([]:List Value).toArray},toks:=s2.toks}:Shared))=s3;intro I3;have hh3:s3.heap=s2.heap.push {cls:=.type "list",data:=.seq ([]:List Value).toArray}:=by rw[<- hs3]
 have sz3:s3.heap.objs.size=s2.heap.objs.size+1:=by rw[hh3,Heap.size_push]
 have st3:tn 0 s3.heap:=T.keep _ _ _ st2 fun b _ o e=>by rw[hh3];exact Heap.get?_push_of_some _ e
 have hflt3:∀ b∈fp,b<s3.heap.objs.size:=fun b hb=>by rw[sz3];exact Nat.lt_succ_of_lt (hflt2 b hb)
 have f3:∀ b∈fp,FpOk X pins (upd H2 s2.heap.objs.size (.lst [])) b:=fun b hb=>⟨by rw[upd_ne (Nat.ne_of_lt (hflt2 b hb))];exact (f2 b hb).1,(f2 b hb).2⟩;have goal3:wpAny (model X.prog X.w) X.A (newFunctionEnv scope X.env.globals (clos X.env.cells scope.names []) [] X.env.qual none .none (some X.env)) (fun cenv s₄ =>
   codeAny (model X.prog X.w) X.A (.compStart (.ListComp elt (⟨target,iter,ifs,0⟩::rest) scope pos) 0 (.ref it) (.ref s2.heap.objs.size) {cenv with scope:=relabel scope X.env})
    (compPost (model X.prog X.w) X.A X.xe use Post (.ref s2.heap.objs.size) cenv.locals) s₄) X.xe s3:=by
  refine wpAny_newFunctionEnv B.cell (by intro y hy;simp at hy) (fun h₁ hns₁ hsb₁=>?_) B.kind;have old:∀ b o,s3.heap.get? b=some o->h₁.get? b=some o:=fun b o e=>hsb₁.extBut b o (Nat.ne_of_lt (Heap.lt_size e)) (Heap.get?_push_of_some _ e);have I4:=blk_start (N':=N') (tk:=s3.toks+([]:List (Str×Value)).length) I3 B f3 hflt3 hns₁ old;obtain⟨hg,hbb⟩:=hb (clos X.env.cells scope.names []) s3.heap.objs.size s3 (upd H2 s2.heap.objs.size (.lst [])) fp s2.heap.objs.size;have st4:tn 0 h₁:=T.keep _ _ _ st3 fun b _ o e=>old b o e;have stat:∀ {H':Hp},(∀ b∈fp,H' b=none)->∀ b∈fp,FpOk (blkCx X N' scope (clos X.env.cells scope.names []) s3.heap.objs.size s3 (upd H2 s2.heap.objs.size (.lst [])) fp []) [] H' b:=fun hn b hbb=>by
   obtain⟨g1,g2⟩:=I4.ok.exf b hbb;exact⟨hn b hbb,g1,I4.ok.exfs b hbb,.inl hbb,g2,fun p hp=>absurd (show p∈([]:List (Addr×Obj)) from hp) (by simp)⟩
  have loop:codeAny (model X.prog X.w) X.A (.compLoop (.ListComp elt (⟨target,iter,ifs,0⟩::rest) scope pos) 0 (.ref it) (.ref s2.heap.objs.size) (compEnvC scope (clos X.env.cells scope.names []) s3.heap.objs.size X.env))
    (compPost (model X.prog X.w) X.A X.xe use Post (.ref s2.heap.objs.size) s3.heap.objs.size) {s3 with heap:=h₁,toks:=s3.toks+([]:List (Str×Value)).length}:=by
   refine loop_gen (Y:=blkCx X N' scope (clos X.env.cells scope.names []) s3.heap.objs.size s3 (upd H2 s2.heap.objs.size (.lst [])) fp []) (H0:=H2) hc rfl (ht _ _ _) (mono _ _) T itd hg hbb I4 (stat fun b hbb=>(f3 b hbb).1) st4 x3 ((rs.toSlots.ext (x1.trans x3)).more _) m3 k3 h3 ?_;intro s6 σ5 H5 δ5 M5 I6 x5 rs5 m5 h5;obtain⟨_,h5⟩:=h5;obtain⟨mC,nC,_⟩:=I6.loc;have key:∀ h',Heap.SameBut s3.heap.objs.size s6.heap h'->L2.Inv X pins σ H5 {s6 with heap:=h'}:=fun h' hsb=>by
    have ne:∀ b o,s3.heap.get? b=some o->b≠s3.heap.objs.size:=fun b o e=>Nat.ne_of_lt (Heap.lt_size e);have un:=I6.base;have un':Un (frs X.stack) fp (upd H2 s2.heap.objs.size (.lst [])) H5 s3.heap h' :=
     ⟨fun b o e n1 n2 n3=>hsb.extBut b o (ne b o e) (un.keep b o e n1 n2 n3),fun b o e n1 n2 n3=>let ⟨sl,z⟩:=un.slot b o e n1 n2 n3;⟨sl,hsb.extBut _ _ (ne b o e) z⟩,un.free,fun b o e n1=>let ⟨o',z⟩:=un.there b o e n1;⟨o',hsb.extBut _ _ (ne b o e) z⟩,un.tups,un.frzs,un.tbls⟩
    have hok':HOk X.prog X.w H5 h':=fun b ob e=>by
     refine (I6.hok b ob e).stay (fun c w' hc' q'=>hsb.extBut _ _ ?_ q') (fun _ q=>q) fun _ _ q=>q;rintro rfl;rcases hc' with rfl|hc'
     ·rw[show H5 s3.heap.objs.size=none from I6.free] at e;cases e
     ·rw[show H5 s3.heap.objs.size=none from I6.free] at hc';cases hc'
    exact I3.call' (ch:=fp) (s':={s6 with heap:=h'}) I6.os un' hok' I6.bare fun b hbb=>⟨(f3 b hbb).2.2.2.1,(f3 b hbb).2.1,(f3 b hbb).2.2.2.2.1,(f3 b hbb).2.2.2.2.2⟩
   exact fin s2.heap.objs.size s3.heap.objs.size s6 H5 M5 ((x1.trans x3).trans x5) m5 h5 (key _ (.refl _ _)) (I3.fpOk %[|3] I6.free) ⟨mC,nC⟩ key
  exact codeAny_compStart_list loop (T.self X.A 0 _ _ _ st4 loop)
 subst hs3;exact goal3
theorem de_compB (hc:X.calm=true) (B:BlkOk X.N X.env N' scope) (hi:PI X target iter (liftI (X.L rz Xe) ti))
  (W:Addr->Env->BW) (mono:∀ p env (A:Around) (Q Q':Shared->Prop) s,(∀ s',Q s'->Q' s')->W p env X.prog X.w A Q s->W p env X.prog X.w A Q' s)
  (hb:∀ cl C s H ex p,PG (blkCx X N' scope cl C s H ex []) target (liftG ((blkCx X N' scope cl C s H ex []).L false X0) g)/\PB (blkCx X N' scope cl C s H ex []) (W p (blkCx X N' scope cl C s H ex []).env) (b p))
  (ht:∀ it p env,TurnOf (.ListComp elt (⟨target,iter,ifs,0⟩::rest) scope pos) target 0 it (.ref p) env (W p env))
  (hs:∀ x,foldedSetIterable iter X.env x=pure x):PE X (.ListComp elt (⟨target,iter,ifs,0⟩::rest) scope pos) (lift (X.L rz Xe) (dCompB (N'.length-X.N.length) ti g b)):=by
 rintro pins s σ H Q I ⟨δ,M,R,rs,rm,t,q⟩;rw[eval_ListComp];exact compB_gen hc B hi W mono hb ht hs (use:=none) I rs rm t (by rintro p C s6 H5 M5 x m r _ _ ⟨mC,nC⟩ key;exact⟨mC,nC,fun h' hsb=>⟨.ref p,H5,key h' hsb,rfl,q _ _ _ _ x m (.lst _) r⟩⟩)
theorem up_pi (hi:PI X target iter (liftI (X.L rz Xe) ti)):PI X target iter (liftI (X.L rz Xe) (iUp ti)):=by
 intro pins s σ H R I h;obtain⟨δ,M,Rd,rs,rm,⟨R0,t,q0⟩,q⟩:=h;exact hi pins s σ H R I ⟨δ,M,R0,rs,rm,t,fun items keep M' J H' x m k it h=>q items keep M' J H' x m k it (q0 _ _ _ h)⟩
theorem up_pg (hg:PG Y target (liftG (Y.L false X0) g)):PG Y target (liftG (Y.L false X0) (gUp g)):=by
 intro pins s σ H v u Q I r h;obtain⟨d,δ,M,R,rd,rs,rm,⟨R0,t,q0⟩,q⟩:=h;exact hg pins s σ H v u Q I r ⟨d,δ,M,R0,rd,rs,rm,t,fun δ' M' σ' H' x s' m h=>q δ' M' σ' H' x s' m (q0 _ _ h)⟩
theorem up_pe (he:PE Y elt (lift (Y.L false X0) te)):PE Y elt (lift (Y.L false X0) (eUp te)):=by
 intro pins s σ H Q I h;obtain⟨δ,M,R,rs,rm,⟨R0,t,q0⟩,q⟩:=h;exact he pins s σ H Q I ⟨δ,M,R0,rs,rm,t,fun d M' v H' x m r h=>q d M' v H' x m r (q0 _ _ h)⟩
theorem de_comp (hc:X.calm=true) (B:BlkOk X.N X.env N' scope) (hi:PI X target iter (liftI (X.L rz Xe) ti))
  (hb:∀ cl C s H ex,PG (blkCx X N' scope cl C s H ex []) target (liftG ((blkCx X N' scope cl C s H ex []).L false X0) g)/\PE (blkCx X N' scope cl C s H ex []) elt (lift ((blkCx X N' scope cl C s H ex []).L false X0) te))
  (hs:∀ x,foldedSetIterable iter X.env x=pure x):PE X (.ListComp elt [⟨target,iter,[],0⟩] scope pos) (lift (X.L rz Xe) (dComp (N'.length-X.N.length) ti g te)) :=
 (de_compB hc B (up_pi hi) (fun p env=>emitW elt (.ref p) env) (fun _ _=>emitW_mono) (fun cl C s H ex p=>⟨up_pg (hb cl C s H ex).1,pb_emit rfl (up_pe (hb cl C s H ex).2)⟩) (fun _ _ _=>turn_one) hs).imp
  fun σ H Q h=>by obtain⟨δ,M,R,rs,rm,t,q⟩:=h;exact⟨δ,M,R,rs,rm,dComp_up t,q⟩
theorem ds_setB {ti:(DSt->DK)->DI} {i:Nat} {x:Str} {pos' pos2:Pos} (hc:X.calm=true) (B:BlkOk X.N X.env N' scope) (hit:∀ Xe,PI X target iter (liftI (X.L rz Xe) (ti Xe)))
  (W:Addr->Env->BW) (mono:∀ p env (A:Around) (Q Q':Shared->Prop) s,(∀ s',Q s'->Q' s')->W p env X.prog X.w A Q s->W p env X.prog X.w A Q' s)
  (hb:∀ cl C s H ex p,PG (blkCx X N' scope cl C s H ex []) target (liftG ((blkCx X N' scope cl C s H ex []).L false X0) g)/\PB (blkCx X N' scope cl C s H ex []) (W p (blkCx X N' scope cl C s H ex []).env) (b p))
  (ht:∀ it p env,TurnOf (.ListComp elt (⟨target,iter,ifs,0⟩::rest) scope pos) target 0 it (.ref p) env (W p env))
  (hs:∀ x,foldedSetIterable iter X.env x=pure x) (hsw:swapsWith (.ListComp elt (⟨target,iter,ifs,0⟩::rest) scope pos) (some (.Name x pos')) pos2.line X.env=pure true)
  (hN:X.N.Nodup) (hi:X.N[i]?=some x) (hx:Loc X.env.scope x) (hf:X.fn x=true\/X.env.scope.names.lookup x=some .local) :
  PS X (.Assign [.Name x pos'] (.ListComp elt (⟨target,iter,ifs,0⟩::rest) scope pos) pos2) (liftS X rz (dAsg (fun Xe=>dCompB (N'.length-X.N.length) (ti Xe) g b) fun _=>gdName i)):=by
 rintro pins s σ H E I ⟨δ,M,D,rs,rm,t,n,r,b,c⟩;rw[exec_Assign_Name_used _ _ _ _ hsw,arm_evalThenUse_ListComp];refine wpAny_bind (wpAny_standAt ?_);refine wpAny_bind (wpAny_bind (compB_gen hc B (hit D.ex) W mono hb ht hs (R:=fun d M1=>D.nx (δ.set i (some d)) M1) I rs rm t fun p C s6 H5 M5 x m r I5 fpc hq10 key=>?_));obtain⟨mC,nC⟩:=hq10;obtain⟨o,es,ep,ho,hd,hsk,hmm⟩:=id nC;have I5':=I5.pinned (fp:=[C]) (fun b hb=>by simp at hb;subst hb;exact fpc) (fun b hb=>by simp at hb;subst hb;exact⟨o,ho,fun v z=>by rw[hd] at z;cases z⟩);refine wpAny_assign_Name (store_ok I5' hN hi hx (v:=.ref p) rfl (fun s7 I7=>?_) hf);have hp7:(C,o)∈pinsAt [C] s6.heap:=mem_pinsAt (by simp) ho;have h7:=(I7.pin (C,o) (List.mem_append_right _ (List.mem_append_right _ hp7))).1;refine⟨mC,⟨o,es,ep,h7,hd,hsk,hmm⟩,fun h' hsb=>?_⟩;have I8:=(I7.unpinned (pins:=pins)).turned (it:=C) (h':=h') (t':=s7.toks) (fun b o hb e=>(hsb.2 b hb).trans e) fpc.1 fpc.2.1 fpc.2.2.2.1 fpc.2.2.2.2.1 fpc.2.2.2.2.2
 exact wpAny_pure (wpAny_pure ⟨_,H5,I8,n _ _ _ _ x ((rs.ext x).set (.lst _) i) m r⟩)
theorem ds_setc {te:DE} {ti:(DSt->DK)->DI} {i:Nat} {x:Str} {pos' pos2:Pos} (hc:X.calm=true) (B:BlkOk X.N X.env N' scope) (hit:∀ Xe,PI X target iter (liftI (X.L rz Xe) (ti Xe)))
  (hb:∀ cl C s H ex,PG (blkCx X N' scope cl C s H ex []) target (liftG ((blkCx X N' scope cl C s H ex []).L false X0) g)/\PE (blkCx X N' scope cl C s H ex []) elt (lift ((blkCx X N' scope cl C s H ex []).L false X0) te))
  (hs:∀ x,foldedSetIterable iter X.env x=pure x) (hsw:swapsWith (.ListComp elt [⟨target,iter,[],0⟩] scope pos) (some (.Name x pos')) pos2.line X.env=pure true)
  (hN:X.N.Nodup) (hi:X.N[i]?=some x) (hx:Loc X.env.scope x) (hf:X.fn x=true\/X.env.scope.names.lookup x=some .local) :
  PS X (.Assign [.Name x pos'] (.ListComp elt [⟨target,iter,[],0⟩] scope pos) pos2) (liftS X rz (dAsg (fun Xe=>dComp (N'.length-X.N.length) (ti Xe) g te) fun _=>gdName i)):=by
 rintro pins s σ H E I ⟨δ,M,D,rs,rm,t,n,r,b,c⟩;exact ds_setB hc B (fun Xe=>up_pi (hit Xe)) (fun p env=>emitW elt (.ref p) env) (fun _ _=>emitW_mono) (fun cl C s H ex p=>⟨up_pg (hb cl C s H ex).1,pb_emit rfl (up_pe (hb cl C s H ex).2)⟩) (fun _ _ _=>turn_one) hs hsw hN hi hx hf pins s σ H E I ⟨δ,M,D,rs,rm,dComp_up (show dComp (N'.length-X.N.length) (ti D.ex) g te δ M (fun d M1=>D.nx (δ.set i (some d)) M1) from t),n,r,b,c⟩
end
end DL
end
noncomputable section
namespace DL
open PySem PySem.Spec PyProof.Rows L2
noncomputable def fSum:List D->Mem->DK->Prop
 | [.lst a],M,Q=>∃ bs:List Bool,M a=some (.ls (bs.map .bl))/\Q (.int (bs.count true)) M
 | _,_,_=>False
section
variable {X:Cx}
noncomputable def IxAt (M:Mem) (xs:List D) (d:D) (j:Nat):Prop:=∃ ps p,Pys M xs ps/\Py M d p/\p.depth<=60/\xs.length<1000/\j<ps.length/\ps.findIdx (fun q=>PyData.eqv q p)=j
end
section
variable {X:Cx}
end
noncomputable def fSorted:List D->Mem->DK->Prop
 | [.lst a],M,Q=>∃ ns:List Int,M a=some (.ls (ns.map .int))/\ns.length<64/\∀ ms:List Int,ms.Perm ns->ms.Pairwise (fun x y=>x<=y)->alloc M (.ls (ms.map .int)) fun p M'=>Q (.lst p) M'
 | _,_,_=>False
theorem ints_vals {K:Frag} {H:Hp} {ns:List Int}:∀ {vs:List V} {us:List Value},RelDs K H vs (ns.map .int)->Vals vs us->IntsAre us ns:=by
 induction ns with
 | nil=>intro vs us r q;(first|cases (show _=_ from r.inv)|cases r);cases q;exact .nil
 | cons n ns ih =>
  intro vs us r q;cases r with
  | cons rb r =>
   (first|cases (show _=_ from rb.inv)|cases rb)
   cases q with
   | cons e q =>
    obtain⟨t,rfl⟩:=e;exact .cons _ _ (ih r q)
theorem ints_back {K:Frag} {H:Hp} {us:List Value} {ns:List Int} (h:IntsAre us ns):∃ vs:List V,Vals vs us/\RelDs K H vs (ns.map .int):=by
 induction h with
 | nil=>exact⟨[],.nil,.nil⟩
 | cons n t _ ih =>
  obtain⟨vs,h1,h2⟩:=ih;exact⟨.int n::vs,.cons ⟨t,rfl⟩ h1,.cons (.int n) h2⟩
theorem ints_len (h:IntsAre us ns):us.length=ns.length:=by
 induction h with
 | nil=>rfl
 | cons n t _ ih=>simp[ih]
section
variable {X:Cx}
theorem ca_sorted:CallR X (.builtin "sorted") (liftC X.K fSorted):=by
 rintro pins s σ H xs us Q I rv ⟨ds,M,R,r,rm,h,q⟩;unfold fSorted at h;split at h
 ·rename_i a
  obtain⟨ns,e0,h64,h⟩:=h;obtain⟨v,rfl,ra⟩:=r.one;(first|cases (show _=_ from ra.inv)|cases ra);obtain⟨u,rfl,ru⟩:=vals1 rv;cases (show u=Value.ref a from ru);obtain⟨vs,e1,r1⟩:=rm _ _ e0;obtain⟨its,r2,pl,_⟩:=I.list (.of e1);have hb:=ints_vals r1 r2;refine sorted_ints pl.isList hb (by rw[ints_len hb];exact h64) fun out ms ho hp hs=>?_;obtain⟨e,he⟩:=sortedAll_at s.heap its out;obtain⟨ws,k1,k2⟩:=ints_back (K:=X.K) (H:=H) ho;have hn:H (s.heap.objs.size+1)=none:=I.hok.fresh (Nat.le_succ _);have hlen:ws.length<=sizeLine:=by
   rw[k2.length,List.length_map,hp.length_eq,sizeLine_eq];omega
  have I2:=I.laid (h':=sortedAll s.heap its out) (t':=s.toks) (fun b o e=>sortedAll_old e) (Nat.le_succ _) (show ObjOk X.prog X.w _ (sortedAll s.heap its out) (s.heap.objs.size+1) (.lst ws) from ⟨hlen,out.toList,e,k1,by simpa using he⟩);exact⟨.ref _,_,I2,rfl,q _ _ _ _ (.upd (.inl hn)) (rm.lst hn k2) (.lst _) ((h ms hp hs).at (rm.none hn))⟩
 ·exact h.elim
end
end DL
end
noncomputable section
namespace DL
open PySem PySem.Spec PyProof.Rows L2
noncomputable def insAt {α:Type} (xs:List α) (k:Int) (y:α):List α:=xs.take k.toNat++y::xs.drop k.toNat
section
variable {X:Cx}
end
end DL
end
noncomputable section
namespace DL
open PySem PySem.Spec PyProof.Rows L2
abbrev zh1 (h:Heap) (b:Addr):Heap:=h.push {cls:=.type "tuple_iterator",data:=.fields #[.ref b,.int 0 0]}
abbrev zh2 (h:Heap) (b c:Addr):Heap:=(zh1 h b).push {cls:=.type "tuple_iterator",data:=.fields #[.ref c,.int 0 0]}
abbrev zh3 (h:Heap) (b c:Addr):Heap:=(zh2 h b c).push {cls:=.type "tuple",data:=.seq #[.ref h.objs.size,.ref (zh1 h b).objs.size]}
abbrev zh4 (h:Heap) (b c:Addr):Heap:=(zh3 h b c).push {cls:=.type "tuple",data:=.seq #[.none,.none]}
abbrev zh5 (h:Heap) (b c:Addr):Heap:=(zh4 h b c).push {cls:=.type "zip",data:=.fields #[.none,.bool false,.bool false,.ref (zh2 h b c).objs.size,.ref (zh3 h b c).objs.size]}
theorem meets_zt (b c:Addr) (xs ys:Array Value) :
  Meets (Builtin.«zip.__new__» ⟨[.type "zip",.ref b,.ref c],[]⟩) (fun _ R s=>s.heap.IsTuple b xs/\s.heap.IsTuple c ys/\R (.ok (.ret (.ref (zh4 s.heap b c).objs.size))) {s with heap:=zh5 s.heap b c}) :=
 .of_wp fun prog w A R s h=>by
  obtain⟨hp,g,d,tk,os⟩:=s;obtain⟨h1,h2,h⟩:=h;have hsub:=sub_zip;have t1:Heap.IsTuple (Shared.heap ⟨hp,g,d,tk,os⟩) b xs:=h1;have t2:Heap.IsTuple (Shared.heap ⟨hp.push {cls:=.type "tuple_iterator",data:=.fields #[.ref b,.int 0 0]},g,d,tk,os⟩) c ys:=by
   obtain⟨o,e,r⟩:=h2;exact⟨o,Heap.get?_push_of_some _ e,r⟩
  wp_walk using wpAny_pyIter_tuple t1,wpAny_pyIter_tuple t2
  exact⟨_,rfl,h⟩
section
variable {prog:Program} {w:World} {A:Around} {E:Value->Shared->Prop} {s:Shared}
theorem call_zt (hb:s.heap.IsTuple b xs) (hc:s.heap.IsTuple c ys)
  (q:∀ g,zTn (s.heap.objs.size+4) (s.heap.objs.size+2) (s.heap.objs.size+3) s.heap.objs.size (s.heap.objs.size+1) b c 0 g->(∀ k o,s.heap.get? k=some o->g.get? k=some o)->Q (.ref (s.heap.objs.size+4)) {s with heap:=g}) :
  wpAny (model prog w) A (call (.type "zip") [.ref b,.ref c]) Q E s:=by
 refine callType_new F.called_zip %[|4] (F.typeCall_zip_2 _ _) (F.newCall_zip_2 _ _) (fun obj=>F.args_object_init_3 obj _ _) F.entry_zip_new (meets_zt b c xs ys) ⟨hb,hc,?_⟩;have z1:(zh1 s.heap b).objs.size=s.heap.objs.size+1:=Heap.size_push ..;have z2:(zh2 s.heap b c).objs.size=s.heap.objs.size+2:=by rw[Heap.size_push,z1]
 have z3:(zh3 s.heap b c).objs.size=s.heap.objs.size+3:=by rw[Heap.size_push,z2]
 have z4:(zh4 s.heap b c).objs.size=s.heap.objs.size+4:=by rw[Heap.size_push,z3]
 have g5:(zh5 s.heap b c).get? (zh4 s.heap b c).objs.size=some _:=Heap.get?_push_size _ rfl;have g4:(zh5 s.heap b c).get? (zh3 s.heap b c).objs.size=some _:=Heap.get?_push_of_some _ (Heap.get?_push_size _ rfl);have g3:(zh5 s.heap b c).get? (zh2 s.heap b c).objs.size=some _:=Heap.get?_push_of_some _ (Heap.get?_push_of_some _ (Heap.get?_push_size _ rfl));have g2:(zh5 s.heap b c).get? (zh1 s.heap b).objs.size=some _:=Heap.get?_push_of_some _ (Heap.get?_push_of_some _ (Heap.get?_push_of_some _ (Heap.get?_push_size _ rfl)));have g1:(zh5 s.heap b c).get? s.heap.objs.size=some _:=Heap.get?_push_of_some _ (Heap.get?_push_of_some _ (Heap.get?_push_of_some _ (Heap.get?_push_of_some _ (Heap.get?_push_size _ rfl))));show _/\_;rw[z2,z3,z4] at g5;rw[z1,z2] at g3;rw[z3] at g4;rw[z1] at g2;rw[z4];exact⟨⟨_,g5,rfl⟩,q _ ⟨g5,g3,⟨_,_,g4⟩,⟨_,g1,rfl,rfl⟩,⟨_,g2,rfl,rfl⟩⟩ fun k o x=>Heap.get?_push_of_some _ (Heap.get?_push_of_some _ (Heap.get?_push_of_some _ (Heap.get?_push_of_some _ (Heap.get?_push_of_some _ x))))⟩
end
noncomputable def ItzL (K:Frag) (b c:Addr):It :=
  ⟨fun i H=>∃ xs ys x y,SqL K H b xs/\SqL K H c ys/\xs[i]?=some x/\ys[i]?=some y,
   fun i H x H'=>∃ T p q,H T=none/\x=.ref T/\H'=upd H T (.tup [p,q])/\(∀ xs,SqL K H b xs->xs[i]?=some p)/\∀ ys,SqL K H c ys->ys[i]?=some q,
   fun i H=>∃ xs ys,SqL K H b xs/\SqL K H c ys/\(xs.length<=i\/ys.length<=i)⟩
noncomputable def zTnL (z u v i j b c:Addr) (n:Nat) (h:Heap):Prop:=IsZip h z u v .none/\IsPair h u (.ref i) (.ref j)/\(∃ a d,IsPair h v a d)/\h.IsListIter i b n/\h.IsListIter j c n
theorem turn_zipL {P:Program} {w:World} {K:Frag} {elts:List Expr} {x1:Nat} {pos:Pos} {z u v i j b c:Addr} (D:ZipApart z u v i j b c) :
  Turn P w K (.Tuple elts x1 pos) (ItzL K b c) [z,u,v,i,j] z (zTnL z u v i j b c) where
 mem:=by simp
 obj:=fun n h st k hk=>by
  obtain⟨hz,hu,⟨a,d,hv⟩,⟨o1,e1,_,d1⟩,⟨o2,e2,_,d2⟩⟩:=st;simp only[List.mem_cons,List.not_mem_nil,or_false] at hk;rcases hk with rfl|rfl|rfl|rfl|rfl
  ·exact⟨_,hz,fun w e=>nomatch e⟩
  ·exact⟨_,hu,fun w e=>nomatch e⟩
  ·exact⟨_,hv,fun w e=>nomatch e⟩
  ·exact⟨_,e1,fun w e=>by rw[d1] at e;cases e⟩
  ·exact⟨_,e2,fun w e=>by rw[d2] at e;cases e⟩
 keep:=fun n h h' st k=>by
  obtain⟨hz,hu,⟨a,d,hv⟩,h1,h2⟩:=st;exact⟨k z (by simp) _ hz,k u (by simp) _ hu,⟨a,d,k v (by simp) _ hv⟩,h1.at fun o e=>k i (by simp) o e,h2.at fun o e=>k j (by simp) o e⟩
 item:=by
  intro X hP hw hK hc n pins s σ H E I hf st hg;subst hP hw hK;obtain⟨hz,hu,⟨a,d,hv⟩,h1,h2⟩:=st;obtain⟨xs,ys,x,y,q1,q2,hx,hy⟩:=hg;obtain⟨its,rv,p,sz1⟩:=I.list q1;obtain⟨its',rv',p',sz2⟩:=I.list q2;obtain⟨vx,hvx,rx⟩:=rv.get hx;obtain⟨vy,hvy,ry⟩:=rv'.get hy;refine wpAny_pyNext_zip_item D hz hu hv h1 h2 p.isList p'.isList (x:=vx) (y:=vy) (by simpa using hvx) (by simpa using hvy) fun g a1 a2 a3 a4 a5 a6 a7=>?_;have lt:∀ {k o},s.heap.get? k=some o->k≠s.heap.objs.size:=fun e=>Nat.ne_of_lt (Heap.lt_size e);have li:i≠s.heap.objs.size:=by obtain⟨o,e,_⟩:=h1;exact lt e
  have lj:j≠s.heap.objs.size:=by obtain⟨o,e,_⟩:=h2;exact lt e
  refine⟨_,rfl,wpAny_letOwnedTupleGo_zip a1 fun g' z' sb=>?_⟩;have tp:IsPair g' s.heap.objs.size vx vy:=sb.extBut _ _ (Ne.symm (lt hz)) a5;have nf:H s.heap.objs.size=none:=I.hok.fresh %[|3];have I1:Inv X pins σ (upd H s.heap.objs.size (.tup [x,y])) {s with heap:=s.heap.push {cls:=.type "tuple",data:=.seq #[vx,vy]},toks:=s.toks} :=
   I.laid (fun k o e=>Heap.get?_push_of_some _ e) %[|3] ⟨by simp only[List.length_cons,List.length_nil];rw[sizeLine_eq];decide,[vx,vy],.cons rx (.cons ry .nil),⟨_,Heap.get?_push_size _ rfl,rfl,_,rfl⟩⟩
  have ff:∀ k∈[z,u,v,i,j],k≠s.heap.objs.size:=fun k hk=>by
   simp only[List.mem_cons,List.not_mem_nil,or_false] at hk;rcases hk with rfl|rfl|rfl|rfl|rfl
   ·exact lt hz
   ·exact lt hu
   ·exact lt hv
   ·exact li
   ·exact lj
  have f':∀ k∈[z,u,v,i,j],FpOk X pins (upd H s.heap.objs.size (.tup [x,y])) k:=fun k hk=>⟨by rw[upd_ne (ff k hk)];exact (hf k hk).1,(hf k hk).2⟩;have I2:Inv X pins σ (upd H s.heap.objs.size (.tup [x,y])) {s with heap:=g',toks:=s.toks}:=by
   refine turnedL (s:={s with heap:=s.heap.push {cls:=.type "tuple",data:=.seq #[vx,vy]},toks:=s.toks}) (h':=g') (t':=s.toks) I1 (fun k o hk e=>?_) f';rcases Heap.get?_push_cases e with ⟨rfl,rfl⟩|e'
   ·exact tp
   ·simp only[List.mem_cons,List.not_mem_nil,or_false,not_or] at hk
    exact sb.extBut _ _ hk.1 (a7 k o hk.1 hk.2.2.1 hk.2.2.2.1 hk.2.2.2.2 e')
  refine⟨.ref s.heap.objs.size,_,I2,rfl,⟨_,x,y,nf,rfl,rfl,fun xs' q=>by rw[I.list_inj q q1];exact hx,fun ys' q=>by rw[I.list_inj q q2];exact hy⟩,?_,fun k hk=>(f' k hk).1⟩;exact⟨z',sb.extBut _ _ D.TIz (a7 _ _ D.TIz D.TITO D.TIi1 D.TIi2 hu),⟨_,_,sb.extBut _ _ D.TOz a2⟩,a3.extBut sb.extBut D.i1z,a4.extBut sb.extBut D.i2z⟩
 done:=by
  intro X hP hw hK hc n pins s σ H E I hf st hg;subst hP hw hK;obtain⟨hz,hu,⟨a,d,hv⟩,h1,h2⟩:=st;obtain⟨xs,ys,q1,q2,hx⟩:=hg;obtain⟨its,rv,p,sz1⟩:=I.list q1;obtain⟨its',rv',p',sz2⟩:=I.list q2;have l1:=rv.length;have l2:=rv'.length;refine wpAny_pyNext_zip_end (I.ok.hd hc) D hz hu hv h1 h2 p.isList p'.isList (by rcases hx with hx|hx;exact .inl (by simp;omega);exact .inr (by simp;omega)) fun g k=>⟨rfl,turnedL (h':=g) (t':=s.toks) I (fun m o hm e=>?_) hf⟩;simp only[List.mem_cons,List.not_mem_nil,or_false,not_or] at hm;exact k m o hm.1 hm.2.2.1 hm.2.2.2.1 hm.2.2.2.2 e
 self:=fun _ _ _ _ _ st h=>wpAny_pyIter_zip st.1 h
noncomputable def zipD (xs ys:List D):List D:=List.zipWith (fun x y=>.tup [x,y]) xs ys
noncomputable def itZip:List D->Mem->(List D->(Mem->Prop)->Mem->Prop)->Prop
 | [.tup xs,.tup ys],M,R=>R (zipD xs ys) (fun _=>True) M
 | [.lst a,.lst b],M,R=>∃ xs ys,M a=some (.ls xs)/\M b=some (.ls ys)/\R (zipD xs ys) (fun M'=>M' a=some (.ls xs)/\M' b=some (.ls ys)) M
 | _,_,_=>False
noncomputable def diZip (ta:DA):DI:=fun δ M R=>ta δ M fun ds M1=>itZip ds M1 R
theorem itd_zip {K:Frag} {H0:Hp} {a b:Addr} {vs ws:List V} {xs ys:List D} (ha:SqT K H0 a vs) (hb:SqT K H0 b ws) (r:RelDs K H0 vs xs) (q:RelDs K H0 ws ys):ItD K H0 (Itz K a b) (zipD xs ys) (fun _=>True):=fun i H M x m k=>by
 have ha':=x.tup _ _ ha;have hb':=x.tup _ _ hb;have r':=r.ext x;have q':=q.ext x;have l1:=r.length;have l2:=q.length;refine⟨fun hl=>?_,fun hl=>?_,fun y H' hy=>?_⟩
 ·simp only[zipD,List.length_zipWith] at hl
  exact⟨vs,ws,vs[i]'%[|5],ws[i]'%[|5],ha',hb',List.getElem?_eq_getElem _,List.getElem?_eq_getElem _⟩
 ·simp only[zipD,List.length_zipWith] at hl
  exact⟨vs,ws,ha',hb',by omega⟩
 ·obtain⟨T,p,p',hn,rfl,rfl,e1,e2⟩:=hy
  have ex:HExt K H (L2.upd H T (.tup [p,p'])):=HExt.upd (.inl hn);refine⟨ex,m.tup hn,fun d hd=>?_⟩;simp only[zipD,List.getElem?_zipWith] at hd;have f1:=e1 _ ha';have f2:=e2 _ hb';cases h1:xs[i]? with
  | none=>rw [h1] at hd;simp at hd
  | some dx =>
   cases h2:ys[i]? with
   | none=>rw [h1,h2] at hd;simp at hd
   | some dy =>
    rw[h1,h2] at hd;simp at hd;subst hd;obtain⟨v1,g1,g2⟩:=r'.get h1;obtain⟨v2,g3,g4⟩:=q'.get h2;rw[f1] at g1;cases g1;rw[f2] at g3;cases g3;exact .tup (.inl (.of L2.upd_same)) (.cons (g2.ext ex) (.cons (g4.ext ex) .nil))
theorem itd_zipL {K:Frag} {H0:Hp} {a b:Addr} {xs ys:List D}:ItD K H0 (ItzL K a b) (zipD xs ys) (fun M'=>M' a=some (.ls xs)/\M' b=some (.ls ys)):=fun i H M x m k=>by
 obtain⟨vs,ev,r'⟩:=m _ _ k.1;obtain⟨ws,ew,q'⟩:=m _ _ k.2;have l1:=r'.length;have l2:=q'.length;refine⟨fun hl=>?_,fun hl=>?_,fun y H' hy=>?_⟩
 ·simp only[zipD,List.length_zipWith] at hl
  exact⟨vs,ws,vs[i]'%[|5],ws[i]'%[|5],.of ev,.of ew,List.getElem?_eq_getElem _,List.getElem?_eq_getElem _⟩
 ·simp only[zipD,List.length_zipWith] at hl
  exact⟨vs,ws,.of ev,.of ew,by omega⟩
 ·obtain⟨T,p,p',hn,rfl,rfl,e1,e2⟩:=hy
  have ex:HExt K H (L2.upd H T (.tup [p,p'])):=HExt.upd (.inl hn);refine⟨ex,m.tup hn,fun d hd=>?_⟩;simp only[zipD,List.getElem?_zipWith] at hd;have f1:=e1 _ (.of ev);have f2:=e2 _ (.of ew);cases h1:xs[i]? with
  | none=>rw [h1] at hd;simp at hd
  | some dx =>
   cases h2:ys[i]? with
   | none=>rw [h1,h2] at hd;simp at hd
   | some dy =>
    rw[h1,h2] at hd;simp at hd;subst hd;obtain⟨v1,g1,g2⟩:=r'.get h1;obtain⟨v2,g3,g4⟩:=q'.get h2;rw[f1] at g1;cases g1;rw[f2] at g3;cases g3;exact .tup (.inl (.of L2.upd_same)) (.cons (g2.ext ex) (.cons (g4.ext ex) .nil))
section
variable {X:Cx} {rz:Bool} {Xe:DSt->DK} {pos:Pos}
theorem di_zip {a:Expr} {es:List Expr} {ta:DA} {p:Pos} {elts:List Expr} {x1:Nat} {tp:Pos} (hg:Gl X "zip") (hm:X.mg "zip"=none) (ha:PA X (a::es) (liftA (X.L rz Xe) ta)) (hs:starEach (a::es) X.env=(false,eval a X.env)::starEach es X.env) (hpl:(backTo pos (starEach es X.env)).any (·.1)=false) :
  PI X (.Tuple elts x1 tp) (.Call (.Name "zip" p) (a::es) [] pos) (liftI (X.L rz Xe) (diZip ta)):=by
 rintro pins s σ H R I ⟨δ,M,Rd,rs,rm,t,q⟩;refine Call_ (ld_blt I hg hm boot_zip (PyProof.Rows.callWith_type1 (thn (ha pos pins s σ H (fun vs H1=>(∃ b c xs ys,vs=[.ref b,.ref c]/\SqT X.K H1 b xs/\SqT X.K H1 c ys/\R (Itz X.K b c) H1)\/∃ b c xs ys,vs=[.ref b,.ref c]/\SqL X.K H1 b xs/\SqL X.K H1 c ys/\R (ItzL X.K b c) H1) I ⟨δ,M,_,rs,rm,t,fun ds M1 vs H1 x1 m1 r1 h1=>?_⟩) fun us s1 ⟨vs,H1,I1,r1,q1⟩=>?_) hs hpl))
 ·unfold itZip at h1
  split at h1
  ·refine r1.inv2 fun v w ev ra rb=>?_
   obtain⟨b,xs,e1,ha,ra⟩:=ra.inv;obtain⟨c,ys,e2,hb,rb⟩:=rb.inv;exact .inl ⟨_,_,_,_,by rw[ev,e1,e2],ha,hb,q _ _ _ _ _ x1 m1 trivial (itd_zip ha hb ra rb) h1⟩
  ·obtain⟨xs,ys,ea,eb,h1⟩:=h1
   refine r1.inv2 fun v w e0 ra rb=>?_;have e1:=ra.inv;have e2:=rb.inv;obtain⟨vs,ev,_⟩:=m1 _ _ ea;obtain⟨ws,ew,_⟩:=m1 _ _ eb;exact .inr ⟨_,_,_,_,by rw[e0,show v=_ from e1,show w=_ from e2],.of ev,.of ew,q _ _ _ _ _ x1 m1 ⟨ea,eb⟩ itd_zipL h1⟩
  ·exact h1.elim
 ·rcases q1 with q1|q1
  ·obtain⟨b,c,xs,ys,e,hb,hc,q⟩:=q1
   subst e;refine vals_inv2 r1 fun u w eu r r'=>?_;subst eu;cases (show u=Value.ref b from r);cases (show w=Value.ref c from r');obtain⟨its,rv,pb,_⟩:=I1.tuple hb;obtain⟨its',rv',pc,_⟩:=I1.tuple hc;have lb:b<s1.heap.objs.size:=by obtain⟨o,e,_⟩:=pb;exact Heap.lt_size e
   have lc:c<s1.heap.objs.size:=by obtain⟨o,e,_⟩:=pc;exact Heap.lt_size e
   refine call_zt (show s1.heap.IsTuple b its.toArray from pb) (show s1.heap.IsTuple c its'.toArray from pc) fun g st k=>?_;refine wpAny_pyIter_zip st.1 ?_;refine⟨_,[s1.heap.objs.size+4,s1.heap.objs.size+2,s1.heap.objs.size+3,s1.heap.objs.size,s1.heap.objs.size+1],_,_,H1,rfl,I1.kept (t':=s1.toks) k,turn_zip (zipApart_new lb lc),st,fun m hm=>?_,q⟩;have le:s1.heap.objs.size<=m:=by
    simp only[List.mem_cons,List.not_mem_nil,or_false] at hm;rcases hm with rfl|rfl|rfl|rfl|rfl
    ·exact Nat.le_add_right _ _
    ·exact Nat.le_add_right _ _
    ·exact Nat.le_add_right _ _
    ·exact Nat.le_refl _
    ·exact Nat.le_add_right _ _
   exact I1.fpOk le (I1.hok.fresh le)
  ·obtain⟨b,c,xs,ys,e,hb,hc,q⟩:=q1
   subst e;refine vals_inv2 r1 fun u w eu r r'=>?_;subst eu;cases (show u=Value.ref b from r);cases (show w=Value.ref c from r');obtain⟨its,rv,pb,_⟩:=I1.list hb;obtain⟨its',rv',pc,_⟩:=I1.list hc;have lb:b<s1.heap.objs.size:=by obtain⟨o,e,_⟩:=pb.isList;exact Heap.lt_size e
   have lc:c<s1.heap.objs.size:=by obtain⟨o,e,_⟩:=pc.isList;exact Heap.lt_size e
   refine call_zip_2 pb.isList pc.isList fun g st1 st2 st3 st4 st5 _ k=>?_;refine wpAny_pyIter_zip st1 ?_;refine⟨_,[s1.heap.objs.size+4,s1.heap.objs.size+2,s1.heap.objs.size+3,s1.heap.objs.size,s1.heap.objs.size+1],_,_,H1,rfl,I1.kept (t':=s1.toks) k,turn_zipL (zipApart_new lb lc),⟨st1,st2,⟨_,_,st3⟩,st4,st5⟩,fun m hm=>?_,q⟩;have le:s1.heap.objs.size<=m:=by
    simp only[List.mem_cons,List.not_mem_nil,or_false] at hm;rcases hm with rfl|rfl|rfl|rfl|rfl
    ·exact Nat.le_add_right _ _
    ·exact Nat.le_add_right _ _
    ·exact Nat.le_add_right _ _
    ·exact Nat.le_refl _
    ·exact Nat.le_add_right _ _
   exact I1.fpOk le (I1.hok.fresh le)
end
end DL
end
noncomputable section
namespace DL
open PySem PySem.Spec PyProof.Rows L2
section
variable {prog:Program} {w:World} {A:Around} {E:Value->Shared->Prop} {s:Shared}
end
section
variable {X:Cx} {rz:Bool} {Xe:DSt->DK} {pos:Pos}
end
end DL
end
noncomputable section
namespace DL
open PySem PySem.Spec PyProof.Rows L2
section
variable {prog:Program} {w:World} {A:Around} {E:Value->Shared->Prop} {s:Shared}
end
section
variable {prog:Program} {w:World} {A:Around} {E:Value->Shared->Prop} {s:Shared}
end
section
variable {X:Cx} {rz:Bool} {Xe:DSt->DK} {pos p2:Pos}
end
end DL
end
noncomputable section
namespace DL
open PySem PySem.Spec PyProof.Rows L2
noncomputable def ini (c x:Str):Nat:=if c="" then 0 else if x="__init__" then 1 else 0
theorem ini0:ini "" x=0:=if_pos rfl
structure RefAt (K:Frag) (mg:Str->Option Value) (c x:Str) (f:Addr):Prop where
 fn:c=""->mg x=some (.ref f)/\PySem.W.keepIn K (.ref f)=true
 mt:c≠""->c∈oNames/\∃ C,ClsOf K c C/\mg c=some (.ref C)/\(x≠"__init__"->Meth K C x f)/\(x="__init__"->Mk K C f)
structure FnAt (X:Cx) (c x:Str) (S:DSp):Prop where
 ex:∃ k f fd ps,FnOk X.prog X.w X.K X.mg X.base (CXR X.prog X.w) (k-ini c x) f fd ps (liftSp X.K S)/\ini c x<=k/\(X.calm=true->Room k X.A)/\RefAt X.K X.mg c x f/\Binds X.K fd ps []
noncomputable def putD (f:Str) (d:D):List (Str×D)->List (Str×D)
 | []=>[(f,d)]
 | (g,x)::r=>if g=f then (g,d)::r else (g,x)::putD f d r
noncomputable def dFld (n f:Str) (ta:DE):DE:=fun δ M Q=>ta δ M fun x M1=>∃ a fs d,x=.ref a/\M1 a=some (.ob n fs)/\fs.lookup f=some d/\Q d M1
noncomputable def dMeth (n m:Str) (S:DSp) (E:DSt->DK) (ta:DE) (t:DA):DE:=fun δ M Q=>ta δ M fun x M1=>∃ a fs,x=.ref a/\M1 a=some (.ob n fs)/\fs.lookup m=none/\t δ M1 fun xs M2=>S (.ref a::xs) M2 Q (E δ)
noncomputable def dMake (n:Str) (S:DSp) (E:DSt->DK) (t:DA):DE:=fun δ M Q=>t δ M fun xs M1=>alloc M1 (.ob n []) fun p M'=>S (.ref p::xs) M' (fun d M2=>d=.non/\Q (.ref p) M2) (E δ)
noncomputable def dSetF (n f:Str) (i:Nat) (te:(DSt->DK)->DE):DS:=fun D δ M=>te D.ex δ M fun y M1=>∃ a fs,δ[i]?=some (some (.ref a))/\M1 a=some (.ob n fs)/\fs.length<1000/\D.nx δ (M1.upd a (.ob n (putD f y fs)))
section
variable {X:Cx} {rz:Bool} {Xe:DSt->DK} {e o:Expr} {es:List Expr} {t:DA} {te to:DE} {x n m f:Str} {p pos apos pos':Pos} {S:DSp}
theorem run_fnR {k:Nat} {f:Addr} {fd:FuncData} {ps:List Str} {S:DSp} {pins:List (Addr×Obj)} {σ:L2.St} {H:Hp} {s:Shared} {Q:VK} {us:List Value} {vs:List V} {δ:DSt} {ds:List D} {M:Mem} {R:DK}
  (F:FnOk X.prog X.w X.K X.mg X.base (CXR X.prog X.w) k f fd ps (liftSp X.K S)) (hr:Room k X.A) (hb:Binds X.K fd ps []) (I:L2.Inv X pins σ H s) (r:Vals vs us)
  (rs:RepS (X.L rz Xe) H δ σ) (rm:RepM X.K H M) (rd:RelDs X.K H vs ds) (h:S ds M R (Xe δ)) (q:∀ d' M' v H',HExt X.K H H'->RepM X.K H' M'->RelD X.K H' v d'->R d' M'->Q v H') :
  wpAny (model X.prog X.w) X.A (call (.ref f) us) (EP X pins σ Q) X.xe s:=by
 obtain⟨Ex,hEx⟩:∃ Ex:XK,Ex=fun cv odx H'=>∃ n M' C x,cv=.ref C/\HExt X.K H H'/\RepM X.K H' M'/\n∈xNames/\ClsOf X.K n C/\ExD X.K H' n odx x/\Xe δ (.exc n x) M':=⟨_,rfl⟩;have hsp:liftSp X.K S vs H Q Ex:=⟨ds,M,R,_,rd,rm,h,q,fun n M' H' C dd xd x m hn hc ed e=>by rw[hEx];exact⟨n,M',C,xd,rfl,x,m,hn,hc,ed,e⟩⟩;have hl:us.length=ps.length:=by rw[<- r.length];exact F.len _ _ _ _ hsp
 have hbb:=hb s us I.kIn (by simpa using hl);rw[List.append_nil] at hbb;refine wpAny_call (codeAny_mono (F.run X.A X.stack s H ⟨us,[]⟩ us vs Q Ex hr I.env0 hbb r hsp) fun res s' hq=>?_);cases res with
 | error e =>
  obtain⟨e0,C,dd,H',rfl,th,hE⟩:=(show CXR X.prog X.w X.stack H s Ex e s' from hq);rw[hEx] at hE;obtain⟨n,M',C',xd,hC,x,m,hn,hc,ed,hx⟩:=hE;cases hC;exact rs.ok.fly pins σ H s H' e0 C dd s' δ M' n xd x I th m (rs.toSlots.ext x) hn hc ed hx
 | ok fl =>
  cases fl with
  | ret u=>exact I.after hq
  | next=>exact False.elim hq
  | brk=>exact False.elim hq
  | cont=>exact False.elim hq
end
end DL
end
noncomputable section
namespace DL
open PySem PySem.Spec PyProof.Rows L2
theorem vals_ints:∀ {acc:List Value} {n:Nat} {k:Nat},acc.length=n->(∀ (j:Nat) (v:Value),acc[j]?=some v->∃ t,v=Value.int (i+((k+j:Nat):Int)*1) t)->Vals ((List.range' k n).map fun m:Nat=>V.int (i+(m:Int))) acc
 | [],n,k,hl,_=>by subst hl;exact .nil
 | v::acc,n,k,hl,h=>by
  subst hl;rw[List.length_cons,List.range'_succ,List.map_cons];refine .cons ?_ (vals_ints (k:=k+1) rfl fun j v hv=>?_)
  ·obtain⟨t,e⟩:=h 0 v rfl
   exact⟨t,by rw[e];simp⟩
  ·obtain⟨t,e⟩:=h (j+1) v (by simpa using hv)
   exact⟨t,by rw[e];congr 3;omega⟩
section
variable {X:Cx} {e:Expr} {es:List Expr} {t:TA} {p p2 pos pos2:Pos}
end
section
variable {X:Cx} {rz:Bool} {a b e:Expr} {te ta tb:(DSt->DK)->DE} {pos pos':Pos}
end
section
variable {X:Cx} {rz:Bool} {Xe:DSt->DK} {e:Expr} {es:List Expr} {t:DA} {p p2 pos pos2:Pos}
end
section
variable {X:Cx} {a b:Expr} {rest:List Expr} {pos:Pos}
end
section
variable {X:Cx} {i j k:Nat} {x y z:Str} {a b c:Expr} {px py pz pt pos:Pos} {kt k2:Nat} {pt2:Pos}
end
end DL
namespace PySem
open Sem (wp)
section
variable {prog:Program} {w:World} {A:Around} {E:Value->Shared->Prop} {s:Shared}
end
end PySem
namespace DL
open PySem PySem.Spec PyProof.Rows L2
section
variable {z u v i j b c:Addr} {n:Nat}
variable {prog:Program} {w:World} {A:Around} {E:Value->Shared->Prop} {s:Shared} {xs ys:Array Value} {x y:Value}
end
section
variable {X:Cx} {pins:List (Addr×Obj)} {σ:L2.St} {z u v i j b c S:Addr} {A:Around} {R:Result->Shared->Prop} {res:Value} {vs ws:List V}
end
end DL
namespace PySem
namespace F
end F
end PySem
namespace DL
open PySem PySem.Spec PyProof.Rows L2
section
variable {X:Cx} {pins:List (Addr×Obj)} {σ:L2.St} {z u v i j b c S:Addr} {A:Around} {R:Result->Shared->Prop} {res:Value} {vs ws:List V} {H:Hp} {s:Shared}
end
end DL
namespace DL
open PySem PySem.Spec PyProof.Rows L2
section
variable {X:Cx} {e:Expr} {es:List Expr} {t:TA} {p p2 pos pos2:Pos}
end
section
variable {X:Cx} {rz:Bool} {Xe:DSt->DK} {e:Expr} {es:List Expr} {t:DA} {p p2 pos pos2:Pos}
end
end DL
namespace DL
open PySem PySem.Spec PyProof.Rows L2
section
variable {X:Cx}
end
section
variable {X:Cx} {rz:Bool} {Xe:DSt->DK} {o e:Expr} {to ta:DE} {apos cpos:Pos}
end
section
variable {X:Cx} {a b:Expr} {p1 p2 p3 pos:Pos} {k:Nat} {x:Str}
end
section
variable {X:Cx} {rz:Bool} {Xe:DSt->DK} {a b:Expr} {ta tb:DE} {p1 p2 p3 pos:Pos} {k:Nat} {x:Str}
end
section
variable {X:Cx}
end
section
variable {X:Cx} {rz:Bool} {Xe:DSt->DK} {tg:Expr}
end
section
variable {X:Cx} {rz:Bool} {a b e:Expr} {te ta tb:(DSt->DK)->DE} {pos pos':Pos}
end
section
variable {X:Cx} {rz:Bool} {Xe:DSt->DK} {o e f:Expr} {to ta tb:DE} {apos pos:Pos}
end
end DL
end
noncomputable section
namespace DL
open PySem PySem.Spec PyProof.Rows L2
section
variable {X:Cx} {rz:Bool} {Xe:DSt->DK} {pos:Pos}
variable {a b:Expr} {ta tb:DE}
end
section
variable {X:Cx} {rz:Bool} {Xe:DSt->DK} {tg:Expr}
end
section
variable {X:Cx}
end
section
variable {X:Cx} {rz:Bool} {Xe:DSt->DK} {o:Expr} {to:DE} {apos cpos:Pos}
variable {e:Expr} {ta:DE} {pos:Pos}
end
end DL
end
noncomputable section
namespace DL
open PySem PySem.Spec PyProof.Rows L2
section
variable {X:Cx}
end
section
variable {X:Cx} {rz:Bool} {Xe:DSt->DK} {o e:Expr} {to ta:DE} {apos cpos:Pos}
end
section
variable {X:Cx} {a b:Expr} {p1 p2 p3 pos:Pos} {k:Nat} {x:Str}
end
section
variable {X:Cx} {rz:Bool} {Xe:DSt->DK} {a b:Expr} {ta tb:DE} {p1 p2 p3 pos:Pos} {k:Nat} {x:Str}
end
section
variable {X:Cx} {a b c:Expr} {p1 p2 p3 p4 p5 pos:Pos} {k k2:Nat} {x y:Str}
end
section
variable {X:Cx} {rz:Bool} {Xe:DSt->DK} {a b c:Expr} {ta tb tc:DE} {p1 p2 p3 p4 p5 pos:Pos} {k k2:Nat} {x y:Str}
end
end DL
end
noncomputable section
namespace DL
open PySem PySem.W PyProof.Rows L2
section
variable (lt:Nat->Nat->Bool) (N:Nat)
variable {lt N}
noncomputable def gA (p:Array Nat) (i:Nat):Nat:=p.getD i 0
noncomputable def St (lt:Nat->Nat->Bool) (p:Array Nat) (k:Nat):Prop:=∀ i j,i<=j->j<k->lt (gA p j) (gA p i)=false
end
section
variable {prog:Program} {w:World} {A:Around} {E:Value->Shared->Prop} {s:Shared}
end
section
variable {X:Cx}
end
end DL
end
noncomputable section
namespace DL
open PySem PySem.Spec PyProof.Rows L2
section
variable {X:Cx} {rz:Bool} {Xe:DSt->DK} {e o:Expr} {es:List Expr} {t:DA} {te to:DE} {x:Str} {p pos apos:Pos}
theorem de_call (hcal:X.calm=true) (F:FnAt X "" x S) (hg:Gl X x) (ha:PA X (e::es) (liftA (X.L rz Xe) t)) (hdb:(x==("__debug__":Str))=false) (he:starEach (e::es) X.env=(false,eval e X.env)::starEach es X.env) (hpl:(backTo pos (starEach es X.env)).any (·.1)=false) :
  PE X (.Call (.Name x p) (e::es) [] pos) (lift (X.L rz Xe) (dCall S Xe t)):=by
 obtain⟨k,f,fd,ps,F,_,hr,rf,hb⟩:=F.ex;rw[ini0,Nat.sub_zero] at F;obtain⟨hm,hk⟩:=rf.fn rfl;rintro pins s σ H Q I ⟨δ,M,R,rs,rm,t,q⟩;refine wpAny_Call_Name_kw (ld_glob I hg hm ?_ hdb);refine PySem.W.callWith_K (h₀:=X.base) I.ok.mod.kin hk (thn (ha pos pins s σ H (fun vs H1=>∃ ds M1,HExt X.K H H1/\RepM X.K H1 M1/\RelDs X.K H1 vs ds/\S ds M1 R (Xe δ)) I ⟨δ,M,_,rs,rm,t,fun ds M1 vs H1 x m r h=>⟨ds,M1,x,m,r,h⟩⟩) fun us s1 ⟨vs,H1,I1,r,ds,M1,x1,m1,r1,h1⟩=>⟨I1.kIn,?_⟩) he hpl;exact run_fnR F (hr hcal) hb I1 r (rs.ext x1) m1 r1 h1 fun d' M' v H' x=>q d' M' v H' (x1.trans x)
theorem de_call0 (hcal:X.calm=true) (F:FnAt X "" x S) (hg:Gl X x) (hdb:(x==("__debug__":Str))=false):PE X (.Call (.Name x p) [] [] pos) (lift (X.L rz Xe) (dCall S Xe dNil)):=by
 obtain⟨k,f,fd,ps,F,_,hr,rf,hb⟩:=F.ex;rw[ini0,Nat.sub_zero] at F;obtain⟨hm,hk⟩:=rf.fn rfl;rintro pins s σ H Q I ⟨δ,M,R,rs,rm,t,q⟩;refine wpAny_Call_Name_kw (ld_glob I hg hm ?_ hdb);exact PySem.W.callWith_K0 I.kIn hk (run_fnR (us:=[]) F (hr hcal) hb I .nil rs rm .nil t q)
noncomputable def dCallV (alts:List (Str×DSp)) (i:Nat) (Xe:DSt->DK) (t:DA):DE:=fun δ M Q=>∃ n S,δ[i]?=some (some (.fn n))/\(n,S)∈alts/\t δ M fun ds M1=>S ds M1 Q (Xe δ)
structure GloAt (X:Cx) (x:Str) (d:D):Prop where
 ex:∃ u v,X.mg x=some u/\RelV v u/\∀ H,RelD X.K H v d
theorem de_callv (hcal:X.calm=true) (A:∀ n S,(n,S)∈alts->FnAt X "" n S/\GloAt X n (.fn n)) (hv:PE X (.Name x p) (tVar i)) (ha:PA X (e::es) (liftA (X.L rz Xe) t)) (he:starEach (e::es) X.env=(false,eval e X.env)::starEach es X.env) (hpl:(backTo pos (starEach es X.env)).any (·.1)=false) :
  PE X (.Call (.Name x p) (e::es) [] pos) (lift (X.L rz Xe) (dCallV alts i Xe t)):=by
 rintro pins s σ H Q I ⟨δ,M,R,rs,rm,⟨n,S,e1,mem,t⟩,q⟩;obtain⟨F1,G⟩:=A n S mem;obtain⟨k,f,fd,ps,F,_,hr,rf,hb⟩:=F1.ex;rw[ini0,Nat.sub_zero] at F;obtain⟨hm,hk⟩:=rf.fn rfl;obtain⟨v,h1,h2⟩:=rs.slot i _ e1;have hvf:v=.ref f:=by
  obtain⟨u,v',g1,g2,g3⟩:=G.ex;cases h2 with
  | fn hc =>
   cases g3 fun _=>none with
   | fn hc' =>
    have g2:u=_:=g2;rw[g2] at g1;have z1:=g1.symm.trans hm;injection z1 with z1
    injection z1 with z1
    have z2:=hc.symm.trans hc';injection z2 with z2
    injection z2 with z2
    injection z2 with z2
    rw[z2,z1]
 subst hvf;refine wpAny_Call_Name_kw (thn (hv pins s σ H (fun v' H'=>v'=.ref f/\H'=H) I ⟨_,h1,rfl,rfl⟩) ?_);rintro u s0 ⟨v',H',I0,r0,ev,eH⟩;subst ev;subst eH;have r0:u=.ref f:=r0;subst r0;refine PySem.W.callWith_K (h₀:=X.base) I0.ok.mod.kin hk (thn (ha pos pins s0 σ H' (fun vs H1=>∃ ds M1,HExt X.K H' H1/\RepM X.K H1 M1/\RelDs X.K H1 vs ds/\S ds M1 R (Xe δ)) I0 ⟨δ,M,_,rs,rm,t,fun ds M1 vs H1 x m r h=>⟨ds,M1,x,m,r,h⟩⟩) fun us s1 ⟨vs,H1,I1,r,ds,M1,x1,m1,r1,h1⟩=>⟨I1.kIn,?_⟩) he hpl;exact run_fnR F (hr hcal) hb I1 r (rs.ext x1) m1 r1 h1 fun d' M' v H' x=>q d' M' v H' (x1.trans x)
noncomputable def dApp (to te:DE):DE:=fun δ M Q=>to δ M fun o M1=>∃ a ys,o=.lst a/\M1 a=some (.ls ys)/\te δ M1 fun y M2=>∃ xs,M2 a=some (.ls xs)/\xs.length<sizeLine/\Q .non (M2.upd a (.ls (xs++[y])))
theorem de_app (ho:PE X o (lift (X.L rz Xe) to)) (he:PE X e (lift (X.L rz Xe) te)) (hbase:attributeBase o "append" X.env (eval o X.env)=eval o X.env) (hs:∀ es,starEach (e::es) X.env=(false,eval e X.env)::starEach es X.env) (hline:(apos.endLine==pos.line)=true) :
  PE X (.Call (.Attribute o "append" apos) [e] [] pos) (lift (X.L rz Xe) (dApp to te)):=by
 refine (pe_bm PySem.F.plainAttrs_list PySem.F.slot_list_append PySem.F.type_list_append mt_append ho (da_cons he da_nil (hs _)) hbase (by rw[hs];rfl) hline (hs _) rfl).imp fun σ H Q h=>?_;obtain⟨δ,M,R,rs,rm,t,q⟩:=h;refine⟨δ,M,_,rs,rm,t,fun d M1 v H1 x1 m1 r1 hq7=>?_⟩;obtain⟨a,ys,e1,e2,h1⟩:=hq7;subst e1
 (first|cases (show _=_ from r1.inv)|cases r1)
 obtain⟨vs,ev,_⟩:=m1 _ _ e2;refine⟨.inl ⟨rfl,_,.of ev⟩,δ,M1,fun ds M2=>∃ y,ds=[y]/\∃ xs,M2 a=some (.ls xs)/\xs.length<sizeLine/\R .non (M2.upd a (.ls (xs++[y]))),rs.ext x1,m1,?_,fun ds M2 vs H2 x2 m2 r2 ⟨y,e3,xs,e4,hz,h2⟩=>?_⟩
 ·obtain⟨K',hK'⟩:∃ K':D->Mem->Prop,K'=fun y M2=>∃ xs,M2 a=some (.ls xs)/\xs.length<sizeLine/\R .non (M2.upd a (.ls (xs++[y]))):=⟨_,rfl⟩
  have:(fun x M2=>∃ y,[x]=[y]/\∃ xs,M2 a=some (.ls xs)/\xs.length<sizeLine/\R .non (M2.upd a (.ls (xs++[y]))))=K':=by
   rw[hK'];funext x M2;apply propext;constructor
   ·rintro⟨y,e,h⟩;cases e;exact h
   ·exact fun h=>⟨x,rfl,h⟩
  show te δ M1 fun x M2=>∃ y,[x]=[y]/\∃ xs,M2 a=some (.ls xs)/\xs.length<sizeLine/\R .non (M2.upd a (.ls (xs++[y])));rw[this,hK'];exact h1
 ·subst e3
  obtain⟨v,rfl,rv⟩:=r2.one;obtain⟨ws,ew,rw'⟩:=m2 _ _ e4;exact⟨a,ws,v,rfl,rfl,ew,by rw[rw'.length];exact hz,q _ _ _ _ ((x1.trans x2).trans (.upd (.inr ⟨_,ew,trivial⟩))) (m2.write ew (rw'.append (.cons rv .nil))) .non h2⟩
noncomputable def dExt (to te:DE):DE:=fun δ M Q=>to δ M fun o M1=>∃ a ys,o=.lst a/\M1 a=some (.ls ys)/\te δ M1 fun y M2=>∃ b xs zs,y=.lst b/\M2 a=some (.ls xs)/\M2 b=some (.ls zs)/\xs.length+zs.length<=sizeLine/\Q .non (M2.upd a (.ls (xs++zs)))
theorem de_ext (ho:PE X o (lift (X.L rz Xe) to)) (he:PE X e (lift (X.L rz Xe) te)) (hbase:attributeBase o "extend" X.env (eval o X.env)=eval o X.env) (hs:∀ es,starEach (e::es) X.env=(false,eval e X.env)::starEach es X.env) (hline:(apos.endLine==pos.line)=true) :
  PE X (.Call (.Attribute o "extend" apos) [e] [] pos) (lift (X.L rz Xe) (dExt to te)):=by
 refine (pe_bm PySem.F.plainAttrs_list PySem.F.slot_list_extend PySem.F.type_list_extend mt_extend ho (da_cons he da_nil (hs _)) hbase (by rw[hs];rfl) hline (hs _) rfl).imp fun σ H Q h=>?_;obtain⟨δ,M,R,rs,rm,t,q⟩:=h;refine⟨δ,M,_,rs,rm,t,fun d M1 v H1 x1 m1 r1 hq7=>?_⟩;obtain⟨a,ys,e1,e2,h1⟩:=hq7;subst e1
 (first|cases (show _=_ from r1.inv)|cases r1)
 obtain⟨vs,ev,_⟩:=m1 _ _ e2;refine⟨.inl ⟨rfl,_,.of ev⟩,δ,M1,fun ds M2=>∃ y,ds=[y]/\∃ b xs zs,y=.lst b/\M2 a=some (.ls xs)/\M2 b=some (.ls zs)/\xs.length+zs.length<=sizeLine/\R .non (M2.upd a (.ls (xs++zs))),rs.ext x1,m1,?_,fun ds M2 vs H2 x2 m2 r2 ⟨y,e3,b,xs,zs,e5,e4,e6,hz,h2⟩=>?_⟩
 ·have:(fun (x:DL.D) (M2:Mem)=>∃ y,[x]=[y]/\∃ b xs zs,y=D.lst b/\M2 a=some (.ls xs)/\M2 b=some (.ls zs)/\xs.length+zs.length<=sizeLine/\R .non (M2.upd a (.ls (xs++zs))))=fun (y:DL.D) (M2:Mem)=>∃ b xs zs,y=D.lst b/\M2 a=some (.ls xs)/\M2 b=some (.ls zs)/\xs.length+zs.length<=sizeLine/\R .non (M2.upd a (.ls (xs++zs))):=by
   funext x M2;apply propext;constructor
   ·rintro⟨y,e,h⟩;cases e;exact h
   ·exact fun h=>⟨x,rfl,h⟩
  show te δ M1 fun x M2=>∃ y,[x]=[y]/\∃ b xs zs,y=D.lst b/\M2 a=some (.ls xs)/\M2 b=some (.ls zs)/\xs.length+zs.length<=sizeLine/\R .non (M2.upd a (.ls (xs++zs)));rw[this];exact h1
 ·subst e3
  subst e5;obtain⟨v,rfl,rv⟩:=r2.one;cases rv;obtain⟨ws,ew,rw'⟩:=m2 _ _ e4;obtain⟨us,eu,ru'⟩:=m2 _ _ e6;exact⟨a,b,ws,us,rfl,rfl,ew,eu,by rw[rw'.length,ru'.length];exact hz,q _ _ _ _ ((x1.trans x2).trans (.upd (.inr ⟨_,ew,trivial⟩))) (m2.write ew (rw'.append ru')) .non h2⟩
noncomputable def dIns (to ta te:DE):DE:=fun δ M Q=>to δ M fun o M1=>∃ a ys,o=.lst a/\M1 a=some (.ls ys)/\ta δ M1 fun x M2=>te δ M2 fun y M3=>∃ xs k,x=.int k/\M3 a=some (.ls xs)/\0<=k/\k<=xs.length/\xs.length<sizeLine/\Q .non (M3.upd a (.ls (insAt xs k y)))
noncomputable def dIdx (to te:DE):DE:=fun δ M Q=>to δ M fun o M1=>∃ a ys,o=.lst a/\M1 a=some (.ls ys)/\te δ M1 fun y M2=>∃ xs j,M2 a=some (.ls xs)/\IxAt M2 xs y j/\Q (.int j) M2
end
inductive Bi|abs|all|any|divmod|isinstance|len|max|min|tuple|list|sorted
 deriving DecidableEq
noncomputable def biName:Bi->Str
 | .abs=>"abs" | .all=>"all" | .any=>"any" | .divmod=>"divmod" | .isinstance=>"isinstance" | .len=>"len" | .max=>"max" | .min=>"min" | .tuple=>"tuple" | .list=>"list" | .sorted=>"sorted"
noncomputable def biSem:Bi->List D->Mem->DK->Prop
 | .abs=>fAbs | .all=>fAll | .any=>fAny | .divmod=>fDivmod | .isinstance=>fIsi | .len=>fLen | .max=>fMax | .min=>fMin | .tuple=>fTuple | .list=>fList | .sorted=>fSorted
inductive Ty|int|bool|str|tuple|list|dict|valueError
 deriving DecidableEq
noncomputable def tyName:Ty->Str
 | .int=>"int" | .bool=>"bool" | .str=>"str" | .tuple=>"tuple" | .list=>"list" | .dict=>"dict" | .valueError=>"ValueError"
noncomputable def tyStr:Ty->String
 | .int=>"int" | .bool=>"bool" | .str=>"str" | .tuple=>"tuple" | .list=>"list" | .dict=>"dict" | .valueError=>"ValueError"
theorem ty_boot (t:Ty):bootBuiltins (tyName t)=some (.type (tyStr t)):=by cases t<;>kernel_rfl
noncomputable def quiet:Bi->Bool
 | .isinstance=>true
 | _=>false
structure Blt (mg:Str->Option Value):Prop where
 bi:∀ b,mg (biName b)=none
 ty:∀ t,mg (tyName t)=none
 range:mg "range"=none
 zip:mg "zip"=none
 enum:mg "enumerate"=none
section
variable {X:Cx} {rz:Bool} {Xe:DSt->DK} {e:Expr} {es:List Expr} {t:DA} {p pos:Pos}
theorem de_bi (b:Bi) (tab:xTabB X.K=true) (hB:Blt X.mg) (hq:X.calm=true\/quiet b=true) (hg:Gl X (biName b)) (ha:PA X (e::es) (liftA (X.L rz Xe) t)) (he:starEach (e::es) X.env=(false,eval e X.env)::starEach es X.env) (hpl:(backTo pos (starEach es X.env)).any (·.1)=false) :
  PE X (.Call (.Name (biName b) p) (e::es) [] pos) (lift (X.L rz Xe) (dCB (biSem b) t)):=by
 have hm:=hB.bi b;cases b with
 | abs=>exact (pe_callB ca_abs hg hm (by kernel_rfl) ha %[|4] %[|4] he hpl).imp fun _ _ _=>dCB_op
 | all=>exact (pe_callB (ca_all (hq.resolve_right Bool.false_ne_true)) hg hm (by kernel_rfl) ha %[|4] %[|4] he hpl).imp fun _ _ _=>dCB_op
 | any=>exact (pe_callB (ca_any (hq.resolve_right Bool.false_ne_true)) hg hm (by kernel_rfl) ha %[|4] %[|4] he hpl).imp fun _ _ _=>dCB_op
 | sorted=>exact (pe_callB ca_sorted hg hm (by kernel_rfl) ha %[|4] %[|4] he hpl).imp fun _ _ _=>dCB_op
 | divmod=>exact (pe_callB ca_divmod hg hm (by kernel_rfl) ha %[|4] %[|4] he hpl).imp fun _ _ _=>dCB_op
 | isinstance=>exact (pe_callB (ca_isi tab) hg hm (by kernel_rfl) ha %[|4] %[|4] he hpl).imp fun _ _ _=>dCB_op
 | len=>exact (pe_callB ca_len hg hm (by kernel_rfl) ha %[|4] %[|4] he hpl).imp fun _ _ _=>dCB_op
 | max=>exact (pe_callB (ca_max (hq.resolve_right Bool.false_ne_true)) hg hm (by kernel_rfl) ha %[|4] %[|4] he hpl).imp fun _ _ _=>dCB_op
 | min=>exact (pe_callB (ca_min (hq.resolve_right Bool.false_ne_true)) hg hm (by kernel_rfl) ha %[|4] %[|4] he hpl).imp fun _ _ _=>dCB_op
 | tuple=>exact (pe_callTy ca_tuple hg hm (by kernel_rfl) ha %[|4] %[|4] he hpl).imp fun _ _ _=>dCB_op
 | list=>exact (pe_callTy ca_list hg hm (by kernel_rfl) ha %[|4] %[|4] he hpl).imp fun _ _ _=>dCB_op
theorem de_ty (t:Ty) (hB:Blt X.mg) (hg:Gl X (tyName t)):PE X (.Name (tyName t) pos) (lift (X.L rz Xe) (dC (.ty (tyStr t)))) :=
 de_con (pe_bltn (v:=.ty (tyStr t)) hg (hB.ty t) (ty_boot t) rfl (by cases t<;>decide) (by cases t<;>decide)) fun H=>.ty _
end
mutual
inductive CE where
 | var (i:Nat)
 | int (i:Int)|bl (b:Bool)|non|str (x:Str)
 | glo (x:Str) (d:D)|ty (t:Ty)
 | bin (op:Operator) (a b:CE)|neg (a:CE)|not (a:CE)
 | cmp (op:CmpOp) (a b:CE)|chain (op op':CmpOp) (a b c:CE)|chain3 (op op' op'':CmpOp) (a b c d:CE)
 | one (a:CE)|and (a b:CE)|or (a b:CE)
 | ife (c a b:CE)
 | tup (es:CEs)|lst (es:CEs)
 | ix (a b:CE)|sl (a:CE) (lo hi:CO)
 | call (x:Str) (S:DSp) (es:CEs)
 | callv (i:Nat) (alts:List (Str×DSp)) (es:CEs)
 | bi (b:Bi) (es:CEs)
 | app (i:Nat) (e:CE)|ext (i:Nat) (e:CE)
 | comp (N':List Str) (n:Nat) (g:CG) (it:CI) (elt:CE)
 | compI (N':List Str) (n:Nat) (g:CG) (it:CI) (c elt:CE)
 | comp2I (N':List Str) (n:Nat) (g:CG) (it:CI) (g2:CG) (it2:CI) (c elt:CE)
inductive CEs where
 | nil|cons (e:CE) (es:CEs)
inductive CO where
 | none|some (e:CE)
inductive CG where
 | name (i:Nat)|tup (gs:CGs)|sub (a b:CE)
inductive CGs where
 | nil|cons (g:CG) (gs:CGs)
inductive CI where
 | seq (e:CE)|rng (es:CEs)|zip (es:CEs)
end
structure Rd where
 e:DE
 t:DT
noncomputable def CEs.len:CEs->Nat
 | .nil=>0
 | .cons _ es=>es.len+1
noncomputable def CGs.len:CGs->Nat
 | .nil=>0
 | .cons _ es=>es.len+1
noncomputable def plain (t:DE):Rd:=⟨t,dTru t⟩
mutual
noncomputable def rE (Xe:DSt->DK):CE->Rd
 | .var i=>plain (dVar i)
 | .int i=>⟨dC (.int i),fun _ _ _=>False⟩
 | .bl b=>⟨dC (.bl b),fun _ _ _=>False⟩
 | .non=>⟨dC .non,fun _ _ _=>False⟩
 | .str x=>⟨dC (.str x),fun _ _ _=>False⟩
 | .glo _ d=>plain (dC d)
 | .ty t=>plain (dC (.ty (tyStr t)))
 | .bin op a b=>plain (d2 (bOp op) (rE Xe a).e (rE Xe b).e)
 | .neg a=>plain (dNeg (rE Xe a).e)
 | .not a=>⟨dNotB (rE Xe a).e,dNot (rE Xe a).t⟩
 | .cmp op a b=>⟨d2 (cOp op) (rE Xe a).e (rE Xe b).e,dTest (d2 (cOp op) (rE Xe a).e (rE Xe b).e)⟩
 | .chain op op' a b c=>⟨dChain (cOp op) (cOp op') (rE Xe a).e (rE Xe b).e (rE Xe c).e,dTest (dChain (cOp op) (cOp op') (rE Xe a).e (rE Xe b).e (rE Xe c).e)⟩
 | .chain3 op op' op'' a b c d=>⟨dChain3 (cOp op) (cOp op') (cOp op'') (rE Xe a).e (rE Xe b).e (rE Xe c).e (rE Xe d).e,dTest (dChain3 (cOp op) (cOp op') (cOp op'') (rE Xe a).e (rE Xe b).e (rE Xe c).e (rE Xe d).e)⟩
 | .one a=>rE Xe a
 | .and a b=>⟨dAndV (rE Xe a).e (rE Xe b).e,dAnd (rE Xe a).t (rE Xe b).t⟩
 | .or a b=>⟨dOrV (rE Xe a).e (rE Xe b).e,dOr (rE Xe a).t (rE Xe b).t⟩
 | .ife c a b=>⟨dIfE (rE Xe c).t (rE Xe a).e (rE Xe b).e,fun _ _ _=>False⟩
 | .tup es=>plain (dTup (rEs Xe es))
 | .lst es=>plain (dLst (rEs Xe es))
 | .ix a b=>plain (d2 iOp (rE Xe a).e (rE Xe b).e)
 | .sl a lo hi=>plain (dSl (rE Xe a).e (rO Xe lo) (rO Xe hi))
 | .call _ S es=>plain (dCall S Xe (rEs Xe es))
 | .callv i alts es=>plain (dCallV alts i Xe (rEs Xe es))
 | .bi b es=>plain (dCB (biSem b) (rEs Xe es))
 | .app i e=>plain (dApp (dVar i) (rE Xe e).e)
 | .ext i e=>plain (dExt (dVar i) (rE Xe e).e)
 | .comp _ n g it elt=>plain (dComp n (rI Xe it) (rG X0 g) (rE X0 elt).e)
 | .compI _ n g it c elt=>plain (dCompB n (rI Xe it) (rG X0 g) (bIf (rE X0 c).t (bEmit (rE X0 elt).e)))
 | .comp2I _ n g it g2 it2 c elt=>plain (dCompB n (rI Xe it) (rG X0 g) (bFor (rI X0 it2) (rG X0 g2) (bIf (rE X0 c).t (bEmit (rE X0 elt).e))))
noncomputable def rEs (Xe:DSt->DK):CEs->DA
 | .nil=>dNil
 | .cons e es=>dCons (rE Xe e).e (rEs Xe es)
noncomputable def rO (Xe:DSt->DK):CO->DO
 | .none=>dNoPart
 | .some e=>dPart (rE Xe e).e
noncomputable def rG (Xe:DSt->DK):CG->DG
 | .name i=>gdName i
 | .tup gs=>gdTup gs.len (rGs Xe gs)
 | .sub a b=>gdSub (rE Xe a).e (rE Xe b).e
noncomputable def rGs (Xe:DSt->DK):CGs->DGs
 | .nil=>gdNil
 | .cons g gs=>gdCons (rG Xe g) (rGs Xe gs)
noncomputable def rI (Xe:DSt->DK):CI->DI
 | .seq e=>diSeq (rE Xe e).e
 | .rng es=>diRng (rEs Xe es)
 | .zip es=>diZip (rEs Xe es)
end
structure Ck where
 N:List Str
 sc:Scope
 top:Bool
 cal:Bool
noncomputable def Ck.kind (k:Ck) (x:Str):Option NameKind:=k.sc.names.lookup x
noncomputable def Ck.gl (k:Ck) (x:Str):Bool:=decide (k.kind x=some .globalImplicit)
noncomputable def Ck.vis (k:Ck) (x:Str):Bool:=decide (k.kind x=some .local) || decide (k.kind x=some .cell) || decide (k.kind x=some .free)
noncomputable def Ck.loc (k:Ck) (x:Str):Bool:=decide (k.kind x=some .local) || (k.top&&decide (k.kind x=some .cell))
noncomputable def okName (x:Str):Bool:=!(x==("__debug__":Str))&&!(x==("__classdict__":Str))
noncomputable def Ck.slot (k:Ck) (i:Nat) (x:Str):Bool:=decide (k.N[i]?=some x)&&k.vis x&&okName x
noncomputable def blkB (k:Ck) (N':List Str) (sc:Scope):Bool :=
 decide (sc.kind=.function)&&sc.names.all (fun y=>!decide (y.2=.cell))&&sc.names.all (fun y=>!decide (y.2=.local) || decide (sc.names.lookup y.1=some .local))
 && sc.names.all (fun y=>!decide (y.2=.free) || decide (k.kind y.1=some .cell) || decide (k.kind y.1=some .free))
 && (List.range k.N.length).all (fun i=>match N'[i]? with
   | some x=>match sc.names.lookup x with
    | some .free=>decide (k.N[i]?=some x)
    | some .local=>false
    | some .cell=>false
    | _=>true
   | none=>true)&&decide (k.N.length<=N'.length)&&decide N'.Nodup
mutual
noncomputable def isE (k:Ck):CE->Expr->Bool
 | .var i,e=>qName e fun x p=>k.slot i x
 | .int i,e=>qConstant e fun c q p=>qInt c fun j=>decide (i=j)
 | .bl b,e=>qConstant e fun c q p=>qBool c fun j=>decide (b=j)
 | .non,e=>qConstant e fun c q p=>qCnone c (true)
 | .str x,e=>qConstant e fun c q p=>qStr c fun j=>decide (x=j)
 | .glo x _,e=>qName e fun y p=>decide (x=y)&&k.gl x&&okName x
 | .ty t,e=>qName e fun y p=>decide (tyName t=y)&&k.gl y
 | .bin op a b,e=>qBinOp e fun x op' y p=>decide (op=op')&&isE k a x&&isE k b y
 | .neg a,e=>qUnaryOp e fun o x p=>qUSub o (isE k a x)
 | .not a,e=>qUnaryOp e fun o x p=>qNot o (isE k a x)
 | .cmp op a b,e=>qCompare e fun x os ys p=>qCons os fun o os=>qNil os (qCons ys fun y ys=>qNil ys (decide (op=o)&&isE k a x&&isE k b y))
 | .chain op op' a b c,e=>qCompare e fun x os ys p=>qCons os fun o os=>qCons os fun o' os=>qNil os (qCons ys fun y ys=>qCons ys fun z ys=>qNil ys (decide (op=o)&&decide (op'=o')&&isE k a x&&isE k b y&&isE k c z))
 | .chain3 op op' op'' a b c d,e=>qCompare e fun x os ys p=>qCons os fun o os=>qCons os fun o' os=>qCons os fun o'' os=>qNil os (qCons ys fun y ys=>qCons ys fun z ys=>qCons ys fun w ys=>qNil ys (decide (op=o)&&decide (op'=o')&&decide (op''=o'')&&isE k a x&&isE k b y&&isE k c z&&isE k d w))
 | .one a,e=>qBoolOp e fun op xs pos=>qCons xs fun x xs=>qNil xs (isE k a x)
 | .and a b,e=>qBoolOp e fun op xs pos=>qAnd op (qCons xs fun x xs=>qCons xs fun y r=>isE k a x&&isE k b (.BoolOp .And (y::r) pos))
 | .or a b,e=>qBoolOp e fun op xs pos=>qOr op (qCons xs fun x xs=>qCons xs fun y r=>isE k a x&&isE k b (.BoolOp .Or (y::r) pos))
 | .ife c a b,e=>qIfExp e fun x y z p=>isE k c x&&isE k a y&&isE k b z
 | .tup es,e=>qTuple e fun xs q p=>isEs k es xs
 | .lst es,e=>qList e fun xs p=>isEs k es xs
 | .ix a b,e=>qSubscript e fun x y p=>isE k a x&&isE k b y
 | .sl a lo hi,e=>qSubscript e fun x y p=>qSlice y fun l u s q=>qNone s (isE k a x&&isO k lo l&&isO k hi u)
 | .callv i _ es,e=>qCall e fun f xs kw pos=>qName f fun y p=>qNil kw (qCons xs fun a r=>k.slot i y&&isEs k es (a::r)&&k.cal)
 | .call x _ es,e=>qCall e fun f xs kw pos=>qName f fun y p=>qNil kw (decide (x=y)&&k.gl x&&okName x&&isEs k es xs&&k.cal)
 | .bi b es,e=>qCall e fun f xs kw pos=>qName f fun y p=>qCons xs fun a r=>qNil kw (decide (biName b=y)&&k.gl y&&isEs k es (a::r)&&(k.cal || quiet b))
 | .app i a,e=>qCall e fun f xs kw pos=>qAttribute f fun o m ap=>qName o fun x p=>qCons xs fun y r=>qNil r (qNil kw (decide (m="append")&&k.slot i x&&isE k a y&&(ap.endLine==pos.line)))
 | .ext i a,e=>qCall e fun f xs kw pos=>qAttribute f fun o m ap=>qName o fun x p=>qCons xs fun y r=>qNil r (qNil kw (decide (m="extend")&&k.slot i x&&isE k a y&&(ap.endLine==pos.line)))
 | .comp N' n g it elt,e=>qListComp e fun y gs sc p=>qCons gs fun q gs=>qMk q fun tg iter ifs z=>qNil ifs (qNil gs (decide (z=0)&&blkB k N' sc&&decide (n=N'.length-k.N.length)&&isG ⟨N',sc,false,k.cal⟩ g tg&&isI k tg it iter&&isE ⟨N',sc,false,k.cal⟩ elt y&&k.cal))
 | .compI N' n g it c elt,e=>qListComp e fun y gs sc p=>qCons gs fun q gs=>qMk q fun tg iter ifs z=>qCons ifs fun x ifs=>qNil ifs (qNil gs (decide (z=0)&&blkB k N' sc&&decide (n=N'.length-k.N.length)&&isG ⟨N',sc,false,k.cal⟩ g tg&&isI k tg it iter&&isE ⟨N',sc,false,k.cal⟩ c x&&isE ⟨N',sc,false,k.cal⟩ elt y&&k.cal))
 | .comp2I N' n g it g2 it2 c elt,e=>qListComp e fun y gs sc p=>qCons gs fun q gs=>qMk q fun tg iter ifs z=>qNil ifs (qCons gs fun q2 gs=>qMk q2 fun tg2 iter2 ifs2 z2=>qCons ifs2 fun x ifs2=>qNil ifs2 (qNil gs (decide (z=0)&&decide (z2=0)&&blkB k N' sc&&decide (n=N'.length-k.N.length)&&isG ⟨N',sc,false,k.cal⟩ g tg&&isI k tg it iter&&isG ⟨N',sc,false,k.cal⟩ g2 tg2&&isI ⟨N',sc,false,k.cal⟩ tg2 it2 iter2&&isE ⟨N',sc,false,k.cal⟩ c x&&isE ⟨N',sc,false,k.cal⟩ elt y&&k.cal)))
noncomputable def isEs (k:Ck):CEs->List Expr->Bool
 | .nil,xs=>match xs with | []=>true|_=>false
 | .cons e es,xs=>match xs with|x::r=>isE k e x&&isEs k es r|_=>false
noncomputable def isO (k:Ck):CO->Option Expr->Bool
 | .none,x=>match x with|none=>true|_=>false
 | .some e,x=>match x with|some y=>isE k e y|_=>false
noncomputable def isG (k:Ck):CG->Expr->Bool
 | .name i,e=>qName e fun x p=>decide (k.N[i]?=some x)&&k.loc x
 | .tup gs,e=>qTuple e fun xs q p=>isGs k gs xs&&k.cal
 | .sub a b,e=>qSubscript e fun x y p=>isE k a x&&isE k b y
noncomputable def isGs (k:Ck):CGs->List Expr->Bool
 | .nil,xs=>match xs with | []=>true|_=>false
 | .cons e es,xs=>match xs with|x::r=>isG k e x&&isGs k es r|_=>false
noncomputable def isI (k:Ck) (tg:Expr):CI->Expr->Bool
 | .seq e,x=>isE k e x
 | .rng es,x=>qCall x fun f xs kw pos=>qName f fun y p=>qCons xs fun a r=>qNil kw (decide (y="range")&&k.gl y&&isEs k es (a::r))
 | .zip es,x=>qTuple tg fun te tx tp=>qCall x fun f xs kw pos=>qName f fun y p=>qCons xs fun a r=>qNil kw (decide (y="zip")&&k.gl y&&isEs k es (a::r))
end
noncomputable def onAlts (P:Str->Str->DSp->Prop) (G:Str->D->Prop):List (Str×DSp)->Prop
 | []=>True
 | a::r=>P "" a.1 a.2/\G a.1 (.fn a.1)/\onAlts P G r
theorem onAlts_mem:∀ {l:List (Str×DSp)},onAlts P G l->(n,S)∈l->P "" n S/\G n (.fn n)
 | [],_,h=>nomatch h
 | a::r,o,h=>by
  rcases List.mem_cons.mp h with e|h
  ·subst e;exact⟨o.1,o.2.1⟩
  ·exact onAlts_mem o.2.2 h
theorem onAlts_mono (p:∀ c x S,P c x S->P' c x S) (g:∀ x d,G x d->G' x d):∀ {l:List (Str×DSp)},onAlts P G l->onAlts P' G' l
 | [],_=>trivial
 | a::r,o=>⟨p _ _ _ o.1,g _ _ o.2.1,onAlts_mono p g o.2.2⟩
mutual
noncomputable def onE (P:Str->Str->DSp->Prop) (G:Str->D->Prop):CE->Prop
 | .var _ | .int _ | .bl _ | .non | .str _ | .ty _=>True
 | .glo x d=>G x d
 | .bin _ a b | .cmp _ a b | .and a b | .or a b | .ix a b=>onE P G a/\onE P G b
 | .neg a | .not a | .one a=>onE P G a
 | .chain _ _ a b c | .ife a b c=>onE P G a/\onE P G b/\onE P G c
 | .chain3 _ _ _ a b c d=>onE P G a/\onE P G b/\onE P G c/\onE P G d
 | .tup es | .lst es | .bi _ es=>onEs P G es
 | .sl a lo hi=>onE P G a/\onO P G lo/\onO P G hi
 | .call x S es=>P "" x S/\onEs P G es
 | .callv _ alts es=>onAlts P G alts/\onEs P G es
 | .app _ e | .ext _ e=>onE P G e
 | .comp _ _ g it elt=>onG P G g/\onI P G it/\onE P G elt
 | .compI _ _ g it c elt=>onG P G g/\onI P G it/\onE P G c/\onE P G elt
 | .comp2I _ _ g it g2 it2 c elt=>onG P G g/\onI P G it/\onG P G g2/\onI P G it2/\onE P G c/\onE P G elt
noncomputable def onEs (P:Str->Str->DSp->Prop) (G:Str->D->Prop):CEs->Prop
 | .nil=>True
 | .cons e es=>onE P G e/\onEs P G es
noncomputable def onO (P:Str->Str->DSp->Prop) (G:Str->D->Prop):CO->Prop
 | .none=>True
 | .some e=>onE P G e
noncomputable def onG (P:Str->Str->DSp->Prop) (G:Str->D->Prop):CG->Prop
 | .name _=>True
 | .tup gs=>onGs P G gs
 | .sub a b=>onE P G a/\onE P G b
noncomputable def onGs (P:Str->Str->DSp->Prop) (G:Str->D->Prop):CGs->Prop
 | .nil=>True
 | .cons g gs=>onG P G g/\onGs P G gs
noncomputable def onI (P:Str->Str->DSp->Prop) (G:Str->D->Prop):CI->Prop
 | .seq e=>onE P G e
 | .rng es=>onEs P G es
 | .zip es=>onEs P G es
end
end DL
end
noncomputable section
namespace DL
open PySem PySem.Spec PyProof.Rows L2
structure CtxOk (X:Cx) (k:Ck):Prop where
 N:X.N=k.N
 nd:k.N.Nodup
 sc:∀ x κ,k.kind x=some κ->κ≠.free->X.env.kindOf x=some κ
 fr:∀ x,k.kind x=some .free->X.env.kindOf x=some .cell\/X.env.kindOf x=some .free
 fn:k.top=true->∀ x,X.fn x=true
 calm:k.cal=true->X.calm=true
 room:k.cal=true->Room 0 X.A
 hu:X.A.units+66<cLine
 blt:Blt X.mg
 po:PassesOwn (model X.prog X.w) X.A X.env X.xe
 tab:xTabB X.K=true
 st:k.top=true->X.stack=X.env::X.outer/\X.env.frame=some X.env.locals
structure Sh (e:Expr):Prop where
 star:∀ env es,starEach (e::es) env=(false,eval e env)::starEach es env
 ix:PlainIx e
 mark:∀ op,behindInMarks op e=false
 set:∀ env x,foldedSetIterable e env x=pure x
 sub:∀ o pos env v,assign (.Subscript o e pos) env v=(do
   let ov <- holding [v] (eval o env)
   let iv <- holding [v,ov] (eval e env)
   standAt pos
   holding [v,ov,iv] (setItem ov iv v)
   release [v,ov,iv] [])
structure SdE (X:Cx) (rz:Bool) (Xe:DSt->DK) (c:CE) (e:Expr):Prop where
 pe:PE X e (lift (X.L rz Xe) (rE Xe c).e)
 pt:PT X e (liftT (X.L rz Xe) (rE Xe c).t)
 pw:∀ op vs pos,e=.BoolOp op vs pos->PW X e (liftT (X.L rz Xe) (rE Xe c).t)
 sh:Sh e
structure SdEs (X:Cx) (rz:Bool) (Xe:DSt->DK) (c:CEs) (es:List Expr):Prop where
 pa:PA X es (liftA (X.L rz Xe) (rEs Xe c))
 pl:∀ pos env,(backTo pos (starEach es env)).any (·.1)=false
 hd:∀ e r,es=e::r->Sh e/\∀ pos env,(backTo pos (starEach r env)).any (·.1)=false
structure SdG (X:Cx) (rz:Bool) (Xe:DSt->DK) (c:CG) (e:Expr):Prop where
 pg:PG X e (liftG (X.L rz Xe) (rG Xe c))
 as:∀ env es,assignEach (e::es) env=(false,assign e env)::assignEach es env
structure SdGs (X:Cx) (rz:Bool) (Xe:DSt->DK) (c:CGs) (es:List Expr):Prop where
 pg:PGs X es (liftGs (X.L rz Xe) (rGs Xe c))
 len:∀ env,(assignEach es env).length=c.len
 st:∀ env,(assignEach es env).findIdx? (·.1)=none
structure SdI (X:Cx) (rz:Bool) (Xe:DSt->DK) (tg:Expr) (c:CI) (e:Expr):Prop where
 pi:PI X tg e (liftI (X.L rz Xe) (rI Xe c))
 set:∀ env x,foldedSetIterable e env x=pure x
section
variable {X:Cx} {rz:Bool} {Xe:DSt->DK} {k:Ck}
theorem CtxOk.vis (C:CtxOk X k) (h:k.vis x=true):Vis X.env.scope x:=by
 unfold Ck.vis at h;simp only[Bool.or_eq_true,decide_eq_true_eq] at h;rcases h with (h|h)|h
 ·exact .inl (C.sc x _ h %[|4])
 ·exact .inr (.inl (C.sc x _ h %[|4]))
 ·exact .inr (C.fr x h)
theorem CtxOk.gl (C:CtxOk X k) (h:k.gl x=true):Gl X x:=by
 unfold Ck.gl at h;exact C.sc x _ (of_decide_eq_true h) %[|4]
theorem CtxOk.loc (C:CtxOk X k) (h:k.loc x=true):Loc X.env.scope x/\(X.fn x=true\/X.env.scope.names.lookup x=some .local):=by
 unfold Ck.loc at h;simp only[Bool.or_eq_true,Bool.and_eq_true,decide_eq_true_eq] at h;rcases h with h|⟨h1,h⟩
 ·have:=C.sc x _ h %[|4];exact⟨.inl this,.inr this⟩
 ·exact⟨.inr (C.sc x _ h %[|4]),.inl (C.fn h1 x)⟩
theorem CtxOk.var (C:CtxOk X k) (h:k.slot i x=true):PE X (.Name x pos) (lift (X.L rz Xe) (dVar i)):=by
 unfold Ck.slot okName at h;simp only[Bool.and_eq_true,decide_eq_true_eq,Bool.not_eq_true'] at h;exact de_var (pe_var (by rw[C.N];exact h.1.1) (C.vis h.1.2) h.2.1 h.2.2)
theorem CtxOk.tvar (C:CtxOk X k) (h:k.slot i x=true):PE X (.Name x pos) (tVar i):=by
 unfold Ck.slot okName at h;simp only[Bool.and_eq_true,decide_eq_true_eq,Bool.not_eq_true'] at h;exact pe_var (by rw[C.N];exact h.1.1) (C.vis h.1.2) h.2.1 h.2.2
theorem CtxOk.qt (C:CtxOk X k) (h:(k.cal || b)=true):X.calm=true\/b=true:=by
 cases hk:k.cal with
 | true=>exact .inl (C.calm hk)
 | false=>rw [hk] at h;exact .inr h
theorem lookup_relabel_ne {env:Env}:∀ {names:List (Str×NameKind)} {x:Str} {κ:NameKind},names.lookup x=some κ->κ≠.free ->
  (names.map fun (n,k)=>if (k==NameKind.free&&env.scope.kind==.function&&env.kindOf n==some .cell) then (n,NameKind.cell) else (n,k)).lookup x=some κ
 | [],_,_,h,_=>by simp at h
 | (n,k)::r,x,κ,h,hne=>by
  have ih:=@lookup_relabel_ne env r x κ;simp only[List.map_cons];rw[List.lookup_cons] at h;by_cases hc:(k==NameKind.free&&env.scope.kind==.function&&env.kindOf n==some .cell)=true
  ·rw[if_pos hc,List.lookup_cons]
   cases hx:x==n with
   | true =>
    simp only[hx] at h;cases h;simp only[Bool.and_eq_true,beq_iff_eq] at hc;exact absurd hc.1.1 hne
   | false=>simp only[hx] at h;exact ih h hne
  ·rw[if_neg hc,List.lookup_cons]
   cases hx:x==n with
   | true=>simp only[hx] at h;cases h;rfl
   | false=>simp only[hx] at h;exact ih h hne
theorem lookup_relabel_free {env:Env}:∀ {names:List (Str×NameKind)} {x:Str},names.lookup x=some .free ->
  (names.map fun (n,k)=>if (k==NameKind.free&&env.scope.kind==.function&&env.kindOf n==some .cell) then (n,NameKind.cell) else (n,k)).lookup x=some .cell \/
  (names.map fun (n,k)=>if (k==NameKind.free&&env.scope.kind==.function&&env.kindOf n==some .cell) then (n,NameKind.cell) else (n,k)).lookup x=some .free
 | [],_,h=>by simp at h
 | (n,k)::r,x,h=>by
  have ih:=@lookup_relabel_free env r x;simp only[List.map_cons];rw[List.lookup_cons] at h;by_cases hc:(k==NameKind.free&&env.scope.kind==.function&&env.kindOf n==some .cell)=true
  ·rw[if_pos hc,List.lookup_cons]
   cases hx:x==n with
   | true=>exact .inl rfl
   | false=>simp only[hx] at h;exact ih h
  ·rw[if_neg hc,List.lookup_cons]
   cases hx:x==n with
   | true=>simp only[hx] at h;cases h;exact .inr rfl
   | false=>simp only[hx] at h;exact ih h
theorem blkB_ok (C:CtxOk X k) (h:blkB k N' sc=true):BlkOk X.N X.env N' sc/\N'.Nodup:=by
 unfold blkB at h;simp only[Bool.and_eq_true,decide_eq_true_eq,List.all_eq_true,Bool.or_eq_true,Bool.not_eq_true',decide_eq_false_iff_not] at h;obtain⟨⟨⟨⟨⟨⟨h1,h2⟩,h3⟩,h4⟩,h5⟩,h6⟩,h7⟩:=h;refine⟨⟨h1,fun y hy=>h2 y hy,fun y hy e=>(h3 y hy).resolve_left fun z=>z e,fun y hy e=>?_,fun i x hi hx κ hκ=>?_,by rw[C.N];exact h6⟩,h7⟩
 ·rcases h4 y hy with (z|z)|z
  ·exact absurd e z
  ·exact .inl (C.sc _ _ z %[|4])
  ·exact C.fr _ z
 ·have q:=h5 i (List.mem_range.mpr (by rw[<- C.N];exact hi))
  rw[hx] at q;simp only[hκ] at q;cases κ with
  | «local»=>simp at q
  | cell=>simp at q
  | free=>exact .inr (.inr ⟨rfl,by rw[C.N];exact of_decide_eq_true q⟩)
  | globalExplicit=>exact .inr (.inl rfl)
  | globalImplicit=>exact .inl rfl
theorem CtxOk.blk (C:CtxOk X k) {N':List Str} {sc:Scope} (h:blkB k N' sc=true) (cl:List (Str×Addr)) (Cn:Addr) (s:Shared) (H:Hp) (ex:List Addr):CtxOk (blkCx X N' sc cl Cn s H ex []) ⟨N',sc,false,k.cal⟩ :=
 ⟨rfl,(blkB_ok C h).2,fun x κ e hne=>lookup_relabel_ne (env:=X.env) e hne,fun x e=>lookup_relabel_free (env:=X.env) e,fun z=>(by cases z),C.calm,C.room,C.hu,C.blt,PassesOwn.never,C.tab,fun z=>(by cases z)⟩
end
theorem nb_BinOp:∀ op vs pos,(Expr.BinOp a0 a1 a2 a3)≠.BoolOp op vs pos:=fun _ _ _ z=>nomatch z
theorem ne_BinOp {X:Cx} {a0:Expr} {a1:Operator} {a2:Expr} {a3:Pos}:∀ whole,isTrue (Expr.BinOp a0 a1 a2 a3) X.env whole=(do let v <- whole;standAt (Expr.pos (Expr.BinOp a0 a1 a2 a3));holding [v] (truthy v)):=fun _=>rfl
theorem sh_BinOp:Sh (Expr.BinOp a0 a1 a2 a3):=%[|1]
theorem sh_BoolOp:Sh (Expr.BoolOp a0 a1 a2):=%[|1]
theorem nb_Call:∀ op vs pos,(Expr.Call a0 a1 a2 a3)≠.BoolOp op vs pos:=fun _ _ _ z=>nomatch z
theorem ne_Call {X:Cx} {a0:Expr} {a1:List Expr} {a2:List Keyword} {a3:Pos}:∀ whole,isTrue (Expr.Call a0 a1 a2 a3) X.env whole=(do let v <- whole;standAt (Expr.pos (Expr.Call a0 a1 a2 a3));holding [v] (truthy v)):=fun _=>rfl
theorem sh_Call:Sh (Expr.Call a0 a1 a2 a3):=%[|1]
theorem sh_Compare:Sh (Expr.Compare a0 a1 a2 a3):=%[|1]
theorem nb_Constant:∀ op vs pos,(Expr.Constant a0 a1 a2)≠.BoolOp op vs pos:=fun _ _ _ z=>nomatch z
theorem sh_Constant:Sh (Expr.Constant a0 a1 a2):=%[|1]
theorem nb_IfExp:∀ op vs pos,(Expr.IfExp a0 a1 a2 a3)≠.BoolOp op vs pos:=fun _ _ _ z=>nomatch z
theorem sh_IfExp:Sh (Expr.IfExp a0 a1 a2 a3):=%[|1]
theorem nb_List:∀ op vs pos,(Expr.List a0 a1)≠.BoolOp op vs pos:=fun _ _ _ z=>nomatch z
theorem ne_List {X:Cx} {a0:List Expr} {a1:Pos}:∀ whole,isTrue (Expr.List a0 a1) X.env whole=(do let v <- whole;standAt (Expr.pos (Expr.List a0 a1));holding [v] (truthy v)):=fun _=>rfl
theorem sh_List:Sh (Expr.List a0 a1):=%[|1]
theorem nb_ListComp:∀ op vs pos,(Expr.ListComp a0 a1 a2 a3)≠.BoolOp op vs pos:=fun _ _ _ z=>nomatch z
theorem ne_ListComp {X:Cx} {a0:Expr} {a1:List Comprehension} {a2:Scope} {a3:Pos}:∀ whole,isTrue (Expr.ListComp a0 a1 a2 a3) X.env whole=(do let v <- whole;standAt (Expr.pos (Expr.ListComp a0 a1 a2 a3));holding [v] (truthy v)):=fun _=>rfl
theorem sh_ListComp:Sh (Expr.ListComp a0 a1 a2 a3):=%[|1]
theorem nb_Name:∀ op vs pos,(Expr.Name a0 a1)≠.BoolOp op vs pos:=fun _ _ _ z=>nomatch z
theorem ne_Name {X:Cx} {a0:Str} {a1:Pos}:∀ whole,isTrue (Expr.Name a0 a1) X.env whole=(do let v <- whole;standAt (Expr.pos (Expr.Name a0 a1));holding [v] (truthy v)):=fun _=>rfl
theorem sh_Name:Sh (Expr.Name a0 a1):=%[|1]
theorem nb_Subscript:∀ op vs pos,(Expr.Subscript a0 a1 a2)≠.BoolOp op vs pos:=fun _ _ _ z=>nomatch z
theorem ne_Subscript {X:Cx} {a0:Expr} {a1:Expr} {a2:Pos}:∀ whole,isTrue (Expr.Subscript a0 a1 a2) X.env whole=(do let v <- whole;standAt (Expr.pos (Expr.Subscript a0 a1 a2));holding [v] (truthy v)):=fun _=>rfl
theorem sh_Subscript:Sh (Expr.Subscript a0 a1 a2):=%[|1]
theorem nb_Tuple:∀ op vs pos,(Expr.Tuple a0 a1 a2)≠.BoolOp op vs pos:=fun _ _ _ z=>nomatch z
theorem ne_Tuple {X:Cx} {a0:List Expr} {a1:Nat} {a2:Pos}:∀ whole,isTrue (Expr.Tuple a0 a1 a2) X.env whole=(do let v <- whole;standAt (Expr.pos (Expr.Tuple a0 a1 a2));holding [v] (truthy v)):=fun _=>rfl
theorem sh_Tuple:Sh (Expr.Tuple a0 a1 a2):=%[|1]
theorem nb_UnaryOp:∀ op vs pos,(Expr.UnaryOp a0 a1 a2)≠.BoolOp op vs pos:=fun _ _ _ z=>nomatch z
theorem ne_UnaryOp {X:Cx} {a1:Expr} {a2:Pos}:∀ whole,isTrue (.UnaryOp .USub a1 a2) X.env whole=(do let v <- whole;standAt (Expr.pos (.UnaryOp .USub a1 a2));holding [v] (truthy v)):=fun _=>rfl
theorem sh_UnaryOp:Sh (Expr.UnaryOp a0 a1 a2):=%[|1]
theorem plain_sd (hr:rE Xe c=plain t) (h:PE X e (lift (X.L rz Xe) t)) (hb:∀ op vs pos,e≠.BoolOp op vs pos) (he:∀ whole,isTrue e X.env whole=(do let v <- whole;standAt e.pos;holding [v] (truthy v))) (sh:Sh e):SdE X rz Xe c e :=
 ⟨by rw[hr];exact h,by rw[hr];exact dt_tru h he,fun op vs pos z=>absurd z (hb op vs pos),sh⟩
theorem const_sd (hr:rE Xe c=⟨t,fun _ _ _=>False⟩) (h:PE X e (lift (X.L rz Xe) t)) (hb:∀ op vs pos,e≠.BoolOp op vs pos) (sh:Sh e):SdE X rz Xe c e :=
 ⟨by rw[hr];exact h,by rw[hr];exact fun pins s σ H Q I h=>by obtain⟨_,_,_,_,_,t,_⟩:=h;exact t.elim,fun op vs pos z=>absurd z (hb op vs pos),sh⟩
mutual
theorem onE_mono:∀ (c:CE),(∀ c x S,P c x S->P' c x S)->(∀ x d,G x d->G' x d)->onE P G c->onE P' G' c
 | .var _,_,_,_ | .int _,_,_,_ | .bl _,_,_,_ | .non,_,_,_ | .str _,_,_,_ | .ty _,_,_,_=>True.intro
 | .glo x d,p,g,h=>g x d h
 | .bin _ a b,p,g,h | .cmp _ a b,p,g,h | .and a b,p,g,h | .or a b,p,g,h | .ix a b,p,g,h=>⟨onE_mono a p g h.1,onE_mono b p g h.2⟩
 | .neg a,p,g,h | .not a,p,g,h | .one a,p,g,h=>onE_mono a p g h
 | .chain _ _ a b c,p,g,h | .ife a b c,p,g,h=>⟨onE_mono a p g h.1,onE_mono b p g h.2.1,onE_mono c p g h.2.2⟩
 | .chain3 _ _ _ a b c d,p,g,h=>⟨onE_mono a p g h.1,onE_mono b p g h.2.1,onE_mono c p g h.2.2.1,onE_mono d p g h.2.2.2⟩
 | .tup es,p,g,h | .lst es,p,g,h | .bi _ es,p,g,h=>onEs_mono es p g h
 | .sl a lo hi,p,g,h=>⟨onE_mono a p g h.1,onO_mono lo p g h.2.1,onO_mono hi p g h.2.2⟩
 | .call x S es,p,g,h=>⟨p "" x S h.1,onEs_mono es p g h.2⟩
 | .callv _ _ es,p,g,h=>⟨onAlts_mono p g h.1,onEs_mono es p g h.2⟩
 | .app _ e,p,g,h | .ext _ e,p,g,h=>onE_mono e p g h
 | .comp _ _ t it elt,p,g,h=>⟨onG_mono t p g h.1,onI_mono it p g h.2.1,onE_mono elt p g h.2.2⟩
 | .compI _ _ t it c elt,p,g,h=>⟨onG_mono t p g h.1,onI_mono it p g h.2.1,onE_mono c p g h.2.2.1,onE_mono elt p g h.2.2.2⟩
 | .comp2I _ _ t it t2 it2 c elt,p,g,h=>⟨onG_mono t p g h.1,onI_mono it p g h.2.1,onG_mono t2 p g h.2.2.1,onI_mono it2 p g h.2.2.2.1,onE_mono c p g h.2.2.2.2.1,onE_mono elt p g h.2.2.2.2.2⟩
theorem onEs_mono:∀ (c:CEs),(∀ c x S,P c x S->P' c x S)->(∀ x d,G x d->G' x d)->onEs P G c->onEs P' G' c
 | .nil,_,_,_=>True.intro
 | .cons e es,p,g,h=>⟨onE_mono e p g h.1,onEs_mono es p g h.2⟩
theorem onO_mono:∀ (c:CO),(∀ c x S,P c x S->P' c x S)->(∀ x d,G x d->G' x d)->onO P G c->onO P' G' c
 | .none,_,_,_=>True.intro
 | .some e,p,g,h=>onE_mono e p g h
theorem onG_mono:∀ (c:CG),(∀ c x S,P c x S->P' c x S)->(∀ x d,G x d->G' x d)->onG P G c->onG P' G' c
 | .name _,_,_,_=>True.intro
 | .tup gs,p,g,h=>onGs_mono gs p g h
 | .sub a b,p,g,h=>⟨onE_mono a p g h.1,onE_mono b p g h.2⟩
theorem onGs_mono:∀ (c:CGs),(∀ c x S,P c x S->P' c x S)->(∀ x d,G x d->G' x d)->onGs P G c->onGs P' G' c
 | .nil,_,_,_=>True.intro
 | .cons e es,p,g,h=>⟨onG_mono e p g h.1,onGs_mono es p g h.2⟩
theorem onI_mono:∀ (c:CI),(∀ c x S,P c x S->P' c x S)->(∀ x d,G x d->G' x d)->onI P G c->onI P' G' c
 | .seq e,p,g,h=>onE_mono e p g h
 | .rng es,p,g,h=>onEs_mono es p g h
 | .zip es,p,g,h=>onEs_mono es p g h
end
theorem and2 (h:(a&&b)=true):a=true/\b=true:=by
 cases a with
 | true=>exact⟨rfl,h⟩
 | false=>exact absurd h Bool.false_ne_true
theorem okName1 (h:okName x=true):(x==("__debug__":Str))=false:=by
 obtain⟨h,_⟩:=and2 (show (!(x==("__debug__":Str))&&_)=true from h)
 revert h
 cases (x==("__debug__":Str)) with
 | true=>exact fun h=>absurd h Bool.false_ne_true
 | false=>exact fun _=>rfl
mutual
theorem sE:∀ (c:CE) (rz:Bool) (Xe:DSt->DK) (k:Ck) (X:Cx) (e:Expr),CtxOk X k->onE (FnAt X) (GloAt X) c->isE k c e=true->SdE X rz Xe c e
 | .var i,rz,Xe,k,X,e,C,on,h=>by
  refine gNm e h fun x p h=>?_;exact plain_sd rfl (C.var (show k.slot i x=true from h)) nb_Name ne_Name sh_Name
 | .int i,rz,Xe,k,X,e,C,on,h=>by
  refine gConstant e h fun c q p h=>?_;refine gInt c h fun j h=>?_;obtain rfl:=of_decide_eq_true (show decide (i=j)=true from h);exact const_sd rfl (de_con pe_int fun H=>.int _) nb_Constant sh_Constant
 | .bl i,rz,Xe,k,X,e,C,on,h=>by
  refine gConstant e h fun c q p h=>?_;refine gBool c h fun j h=>?_;obtain rfl:=of_decide_eq_true (show decide (i=j)=true from h);exact const_sd rfl (de_con pe_bl fun H=>.bl _) nb_Constant sh_Constant
 | .non,rz,Xe,k,X,e,C,on,h=>by
  refine gConstant e h fun c q p h=>?_;refine gCnone c h fun h=>?_;exact const_sd rfl (de_con pe_non fun H=>.non) nb_Constant sh_Constant
 | .str i,rz,Xe,k,X,e,C,on,h=>by
  refine gConstant e h fun c q p h=>?_;refine gStr c h fun j h=>?_;obtain rfl:=of_decide_eq_true (show decide (i=j)=true from h);exact const_sd rfl (de_con pe_str fun H=>.str _) nb_Constant sh_Constant
 | .glo x d,rz,Xe,k,X,e,C,on,h=>by
  refine gNm e h fun y p h=>?_;obtain⟨h1,h3⟩:=and2 (show (_&&okName x)=true from h);obtain⟨h1,h2⟩:=and2 (show (decide (x=y)&&k.gl x)=true from h1);obtain rfl:=of_decide_eq_true h1;obtain⟨u,v,e1,e2,e3⟩:=(show GloAt X _ d from on).ex;exact plain_sd rfl (de_con (pe_glob (C.gl h2) e1 e2 (okName1 h3)) e3) nb_Name ne_Name sh_Name
 | .ty t,rz,Xe,k,X,e,C,on,h=>by
  refine gNm e h fun y p h=>?_;obtain⟨h1,h2⟩:=and2 (show (decide (tyName t=y)&&k.gl y)=true from h);obtain rfl:=of_decide_eq_true h1;exact plain_sd rfl (de_ty t C.blt (C.gl h2)) nb_Name ne_Name sh_Name
 | .bin op a b,rz,Xe,k,X,e,C,on,h=>by
  refine gBinOp e h fun x op' y p h=>?_;obtain⟨h1,h3⟩:=and2 (show (_&&isE k b y)=true from h);obtain⟨h1,h2⟩:=and2 (show (decide (op=op')&&isE k a x)=true from h1);obtain rfl:=of_decide_eq_true h1;exact plain_sd rfl (de_bin (op_b op) (sE a rz Xe k X _ C on.1 h2).pe (sE b rz Xe k X _ C on.2 h3).pe) nb_BinOp ne_BinOp sh_BinOp
 | .neg a,rz,Xe,k,X,e,C,on,h=>by
  refine gUnaryOp e h fun o x p h=>?_;refine gUSub o h fun h=>?_;exact plain_sd rfl (de_neg (sE a rz Xe k X _ C on h).pe) nb_UnaryOp ne_UnaryOp sh_UnaryOp
 | .not a,rz,Xe,k,X,e,C,on,h=>by
  refine gUnaryOp e h fun o x p h=>?_;refine gNot o h fun h=>?_;have s:=sE a rz Xe k X x C on h;exact⟨de_not s.pe,dt_not s.pt,fun _ _ _ z=>(nomatch z),sh_UnaryOp⟩
 | .cmp op a b,rz,Xe,k,X,e,C,on,h=>by
  refine gCompare e h fun x os ys p h=>?_;refine gCons os h fun o os h=>?_;refine gNil os h fun h=>?_;refine gCons ys h fun y ys h=>?_;refine gNil ys h fun h=>?_;obtain⟨h1,h3⟩:=and2 (show (_&&isE k b y)=true from h);obtain⟨h1,h2⟩:=and2 (show (decide (op=o)&&isE k a x)=true from h1);obtain rfl:=of_decide_eq_true h1;have s1:=sE a rz Xe k X _ C on.1 h2;have s2:=sE b rz Xe k X _ C on.2 h3;exact⟨de_cmp C.hu s1.pe s2.pe (s2.sh.mark op),dt_cmp C.hu s1.pe s2.pe (s2.sh.mark op),fun _ _ _ z=>(nomatch z),sh_Compare⟩
 | .chain op op' a b c,rz,Xe,k,X,e,C,on,h=>by
  refine gCompare e h fun x os ys p h=>?_;refine gCons os h fun o os h=>?_;refine gCons os h fun o' os h=>?_;refine gNil os h fun h=>?_;refine gCons ys h fun y ys h=>?_;refine gCons ys h fun z ys h=>?_;refine gNil ys h fun h=>?_;obtain⟨h1,h4⟩:=and2 (show (_&&isE k c z)=true from h);obtain⟨h1,h3⟩:=and2 (show (_&&isE k b y)=true from h1);obtain⟨h1,h2⟩:=and2 (show (_&&isE k a x)=true from h1);obtain⟨h1,h0⟩:=and2 (show (decide (op=o)&&decide (op'=o'))=true from h1);obtain rfl:=of_decide_eq_true h1;obtain rfl:=of_decide_eq_true h0;have s1:=sE a rz Xe k X _ C on.1 h2;have s2:=sE b rz Xe k X _ C on.2.1 h3;have s3:=sE c rz Xe k X _ C on.2.2 h4;exact⟨de_chain C.hu s1.pe s2.pe s3.pe (s3.sh.mark op'),dt_chain C.hu s1.pe s2.pe s3.pe (s3.sh.mark op'),fun _ _ _ z=>(nomatch z),sh_Compare⟩
 | .chain3 op op' op'' a b c d,rz,Xe,k,X,e,C,on,h=>by
  refine gCompare e h fun x os ys p h=>?_;refine gCons os h fun o os h=>?_;refine gCons os h fun o' os h=>?_;refine gCons os h fun o'' os h=>?_;refine gNil os h fun h=>?_;refine gCons ys h fun y ys h=>?_;refine gCons ys h fun z ys h=>?_;refine gCons ys h fun w ys h=>?_;refine gNil ys h fun h=>?_;obtain⟨h1,h5⟩:=and2 (show (_&&isE k d w)=true from h);obtain⟨h1,h4⟩:=and2 (show (_&&isE k c z)=true from h1);obtain⟨h1,h3⟩:=and2 (show (_&&isE k b y)=true from h1);obtain⟨h1,h2⟩:=and2 (show (_&&isE k a x)=true from h1);obtain⟨h1,h9⟩:=and2 (show (_&&decide (op''=o''))=true from h1);obtain⟨h1,h0⟩:=and2 (show (decide (op=o)&&decide (op'=o'))=true from h1);obtain rfl:=of_decide_eq_true h1;obtain rfl:=of_decide_eq_true h0;obtain rfl:=of_decide_eq_true h9;have s1:=sE a rz Xe k X _ C on.1 h2;have s2:=sE b rz Xe k X _ C on.2.1 h3;have s3:=sE c rz Xe k X _ C on.2.2.1 h4;have s4:=sE d rz Xe k X _ C on.2.2.2 h5
  exact⟨de_chain3 C.hu s1.pe s2.pe s3.pe s4.pe (s4.sh.mark op''),dt_chain3 C.hu s1.pe s2.pe s3.pe s4.pe (s4.sh.mark op''),fun _ _ _ z=>(nomatch z),sh_Compare⟩
 | .one a,rz,Xe,k,X,e,C,on,h=>by
  refine gBoolOp e h fun op xs pos h=>?_;refine gCons xs h fun x xs h=>?_;refine gNil xs h fun h=>?_;have s:=sE a rz Xe k X _ C on (show isE k a x=true from h);have w:PW X (.BoolOp op [x] pos) (liftT (X.L rz Xe) (rE Xe a).t):=by
   cases op with
   | And=>exact pw_and1 s.pt
   | Or=>exact pw_or1 s.pt
  exact⟨pe_one s.pe,w.pt,fun _ _ _ z=>by cases z;exact w,sh_BoolOp⟩
 | .and a b,rz,Xe,k,X,e,C,on,h=>by
  refine gBoolOp e h fun op xs pos h=>?_;refine gAnd op h fun h=>?_;refine gCons xs h fun x xs h=>?_;refine gCons xs h fun y r h=>?_;obtain⟨h1,h2⟩:=and2 (show (isE k a x&&isE k b (.BoolOp .And (y::r) pos))=true from h);have s1:=sE a rz Xe k X _ C on.1 h1;have s2:=sE b rz Xe k X _ C on.2 h2;have w:=dw_and s1.pt (s2.pw _ _ _ rfl);exact⟨de_and s1.pe s2.pe,w.pt,fun _ _ _ z=>by cases z;exact w,sh_BoolOp⟩
 | .or a b,rz,Xe,k,X,e,C,on,h=>by
  refine gBoolOp e h fun op xs pos h=>?_;refine gOr op h fun h=>?_;refine gCons xs h fun x xs h=>?_;refine gCons xs h fun y r h=>?_;obtain⟨h1,h2⟩:=and2 (show (isE k a x&&isE k b (.BoolOp .Or (y::r) pos))=true from h);have s1:=sE a rz Xe k X _ C on.1 h1;have s2:=sE b rz Xe k X _ C on.2 h2;have w:=dw_or s1.pt (s2.pw _ _ _ rfl);exact⟨de_or s1.pe s2.pe,w.pt,fun _ _ _ z=>by cases z;exact w,sh_BoolOp⟩
 | .ife c a b,rz,Xe,k,X,e,C,on,h=>by
  refine gIfExp e h fun x y z p h=>?_;obtain⟨h1,h3⟩:=and2 (show (_&&isE k b z)=true from h);obtain⟨h1,h2⟩:=and2 (show (isE k c x&&isE k a y)=true from h1);exact const_sd rfl (de_ife (sE c rz Xe k X _ C on.1 h1).pt (sE a rz Xe k X _ C on.2.1 h2).pe (sE b rz Xe k X _ C on.2.2 h3).pe) nb_IfExp sh_IfExp
 | .tup es,rz,Xe,k,X,e,C,on,h=>by
  refine gTuple e h fun xs q p h=>?_;exact plain_sd rfl (de_tup (sEs es rz Xe k X _ C on h).pa) nb_Tuple ne_Tuple sh_Tuple
 | .lst es,rz,Xe,k,X,e,C,on,h=>by
  refine gList e h fun xs p h=>?_;exact plain_sd rfl (de_lst (sEs es rz Xe k X _ C on h).pa) nb_List ne_List sh_List
 | .ix a b,rz,Xe,k,X,e,C,on,h=>by
  refine gSubscript e h fun x y p h=>?_;obtain⟨h1,h2⟩:=and2 (show (isE k a x&&isE k b y)=true from h);have s2:=sE b rz Xe k X _ C on.2 h2;exact plain_sd rfl (de_ix (sE a rz Xe k X _ C on.1 h1).pe s2.pe s2.sh.ix) nb_Subscript ne_Subscript sh_Subscript
 | .sl a lo hi,rz,Xe,k,X,e,C,on,h=>by
  refine gSubscript e h fun x y p h=>?_;refine gSlice y h fun l u s q h=>?_;refine gNone s h fun h=>?_;obtain⟨h1,h3⟩:=and2 (show (_&&isO k hi u)=true from h);obtain⟨h1,h2⟩:=and2 (show (isE k a x&&isO k lo l)=true from h1);exact plain_sd rfl (de_sl (sE a rz Xe k X _ C on.1 h1).pe (sO lo rz Xe k X _ C on.2.1 h2) (sO hi rz Xe k X _ C on.2.2 h3)) nb_Subscript ne_Subscript sh_Subscript
 | .call x S es,rz,Xe,k,X,e,C,on,h=>by
  refine gCall e h fun f xs kw pos h=>?_;refine gNm f h fun y p h=>?_;refine gNil kw h fun h=>?_;obtain⟨h,hcal⟩:=and2 (show (_&&k.cal)=true from h);obtain⟨h1,h4⟩:=and2 (show (_&&isEs k es xs)=true from h);obtain⟨h1,h3⟩:=and2 (show (_&&okName x)=true from h1);obtain⟨h1,h2⟩:=and2 (show (decide (x=y)&&k.gl x)=true from h1);obtain rfl:=of_decide_eq_true h1;have s:=sEs es rz Xe k X _ C on.2 h4;refine plain_sd rfl ?_ nb_Call ne_Call sh_Call;cases xs with
  | nil =>
   cases es with
   | nil=>exact de_call0 (C.calm hcal) on.1 (C.gl h2) (okName1 h3)
   | cons _ _=>exact absurd h4 Bool.false_ne_true
  | cons a r=>exact de_call (C.calm hcal) on.1 (C.gl h2) s.pa (okName1 h3) ((s.hd a r rfl).1.star _ _) ((s.hd a r rfl).2 _ _)
 | .callv i alts es,rz,Xe,k,X,e,C,on,h=>by
  refine gCall e h fun f xs kw pos h=>?_;refine gNm f h fun y p h=>?_;refine gNil kw h fun h=>?_;refine gCons xs h fun a r h=>?_;obtain⟨h,hcal⟩:=and2 (show (_&&k.cal)=true from h);obtain⟨h1,h4⟩:=and2 (show (k.slot i y&&isEs k es (a::r))=true from h);have s:=sEs es rz Xe k X _ C on.2 h4;exact plain_sd rfl (de_callv (C.calm hcal) (fun n S m=>onAlts_mem on.1 m) (C.tvar h1) s.pa ((s.hd a r rfl).1.star _ _) ((s.hd a r rfl).2 _ _)) nb_Call ne_Call sh_Call
 | .bi b es,rz,Xe,k,X,e,C,on,h=>by
  refine gCall e h fun f xs kw pos h=>?_;refine gNm f h fun y p h=>?_;refine gCons xs h fun a r h=>?_;refine gNil kw h fun h=>?_;obtain⟨h,hq⟩:=and2 (show (_&&(k.cal || quiet b))=true from h);obtain⟨h1,h3⟩:=and2 (show (_&&isEs k es (a::r))=true from h);obtain⟨h1,h2⟩:=and2 (show (decide (biName b=y)&&k.gl y)=true from h1);obtain rfl:=of_decide_eq_true h1;have s:=sEs es rz Xe k X _ C on h3;exact plain_sd rfl (de_bi b C.tab C.blt (C.qt hq) (C.gl h2) s.pa ((s.hd _ _ rfl).1.star _ _) ((s.hd _ _ rfl).2 _ _)) nb_Call ne_Call sh_Call
 | .app i a,rz,Xe,k,X,e,C,on,h=>by
  refine gCall e h fun f xs kw pos h=>?_;refine gAttribute f h fun o m ap h=>?_;refine gNm o h fun x p h=>?_;refine gCons xs h fun y r h=>?_;refine gNil r h fun h=>?_;refine gNil kw h fun h=>?_;obtain⟨h1,h4⟩:=and2 (show (_&&(ap.endLine==pos.line))=true from h);obtain⟨h1,h3⟩:=and2 (show (_&&isE k a y)=true from h1);obtain⟨h1,h2⟩:=and2 (show (decide (m="append")&&k.slot i x)=true from h1);obtain rfl:=of_decide_eq_true h1;have s:=sE a rz Xe k X _ C on h3;exact plain_sd rfl (de_app (C.var h2) s.pe rfl (fun es=>s.sh.star _ es) h4) nb_Call ne_Call sh_Call
 | .ext i a,rz,Xe,k,X,e,C,on,h=>by
  refine gCall e h fun f xs kw pos h=>?_;refine gAttribute f h fun o m ap h=>?_;refine gNm o h fun x p h=>?_;refine gCons xs h fun y r h=>?_;refine gNil r h fun h=>?_;refine gNil kw h fun h=>?_;obtain⟨h1,h4⟩:=and2 (show (_&&(ap.endLine==pos.line))=true from h);obtain⟨h1,h3⟩:=and2 (show (_&&isE k a y)=true from h1);obtain⟨h1,h2⟩:=and2 (show (decide (m="extend")&&k.slot i x)=true from h1);obtain rfl:=of_decide_eq_true h1;have s:=sE a rz Xe k X _ C on h3;exact plain_sd rfl (de_ext (C.var h2) s.pe rfl (fun es=>s.sh.star _ es) h4) nb_Call ne_Call sh_Call
 | .comp N' n g it elt,rz,Xe,k,X,e,C,on,h=>by
  refine gListComp e h fun y gs sc p h=>?_;refine gCons gs h fun q gs h=>?_;refine gMk q h fun tg iter ifs z h=>?_;refine gNil ifs h fun h=>?_;refine gNil gs h fun h=>?_;obtain⟨h,hcal⟩:=and2 (show (_&&k.cal)=true from h);obtain⟨h,h5⟩:=and2 (show (_&&isE ⟨N',sc,false,k.cal⟩ elt y)=true from h);obtain⟨h,h4⟩:=and2 (show (_&&isI k tg it iter)=true from h);obtain⟨h,h3⟩:=and2 (show (_&&isG ⟨N',sc,false,k.cal⟩ g tg)=true from h);obtain⟨h,h2⟩:=and2 (show (_&&decide (n=N'.length-k.N.length))=true from h);obtain⟨h,h1⟩:=and2 (show (decide (z=0)&&blkB k N' sc)=true from h);obtain rfl:=of_decide_eq_true h;obtain rfl:=of_decide_eq_true h2;have si:=sI it rz Xe k X tg _ C on.2.1 h4;refine plain_sd (t:=dComp (N'.length-k.N.length) (rI Xe it) (rG X0 g) (rE X0 elt).e) rfl ?_ nb_ListComp ne_ListComp sh_ListComp;rw[<- C.N];exact de_comp (C.calm hcal) (blkB_ok C h1).1 si.pi (fun cl Cn s H ex=>⟨(sG g false X0 ⟨N',_,false,k.cal⟩ (blkCx X N' _ cl Cn s H ex []) _ (C.blk h1 cl Cn s H ex) (onG_mono g (fun c x S F=>⟨F.ex⟩) (fun x d F=>⟨F.ex⟩) on.1) h3).pg,
   (sE elt false X0 ⟨N',_,false,k.cal⟩ (blkCx X N' _ cl Cn s H ex []) _ (C.blk h1 cl Cn s H ex) (onE_mono elt (fun c x S F=>⟨F.ex⟩) (fun x d F=>⟨F.ex⟩) on.2.2) h5).pe⟩) (si.set _)
 | .compI N' n g it c elt,rz,Xe,k,X,e,C,on,h=>by
  refine gListComp e h fun y gs sc p h=>?_;refine gCons gs h fun q gs h=>?_;refine gMk q h fun tg iter ifs z h=>?_;refine gCons ifs h fun x ifs h=>?_;refine gNil ifs h fun h=>?_;refine gNil gs h fun h=>?_;obtain⟨h,hcal⟩:=and2 (show (_&&k.cal)=true from h);obtain⟨h,h6⟩:=and2 (show (_&&isE ⟨N',sc,false,k.cal⟩ elt y)=true from h);obtain⟨h,h5⟩:=and2 (show (_&&isE ⟨N',sc,false,k.cal⟩ c x)=true from h);obtain⟨h,h4⟩:=and2 (show (_&&isI k tg it iter)=true from h);obtain⟨h,h3⟩:=and2 (show (_&&isG ⟨N',sc,false,k.cal⟩ g tg)=true from h);obtain⟨h,h2⟩:=and2 (show (_&&decide (n=N'.length-k.N.length))=true from h);obtain⟨h,h1⟩:=and2 (show (decide (z=0)&&blkB k N' sc)=true from h);obtain rfl:=of_decide_eq_true h;obtain rfl:=of_decide_eq_true h2;have si:=sI it rz Xe k X tg _ C on.2.1 h4;refine plain_sd (t:=dCompB (N'.length-k.N.length) (rI Xe it) (rG X0 g) (bIf (rE X0 c).t (bEmit (rE X0 elt).e))) rfl ?_ nb_ListComp ne_ListComp sh_ListComp
  rw[<- C.N];exact de_compB (C.calm hcal) (blkB_ok C h1).1 si.pi (fun p env=>ifW x env (emitW y (.ref p) env)) (fun p env=>ifW_mono emitW_mono) (fun cl Cn s H ex p=>⟨(sG g false X0 ⟨N',_,false,k.cal⟩ (blkCx X N' _ cl Cn s H ex []) _ (C.blk h1 cl Cn s H ex) (onG_mono g (fun c x S F=>⟨F.ex⟩) (fun x d F=>⟨F.ex⟩) on.1) h3).pg,
   pb_if rfl (sE c false X0 ⟨N',_,false,k.cal⟩ (blkCx X N' _ cl Cn s H ex []) _ (C.blk h1 cl Cn s H ex) (onE_mono c (fun c x S F=>⟨F.ex⟩) (fun x d F=>⟨F.ex⟩) on.2.2.1) h5).pt (pb_emit rfl (sE elt false X0 ⟨N',_,false,k.cal⟩ (blkCx X N' _ cl Cn s H ex []) _ (C.blk h1 cl Cn s H ex) (onE_mono elt (fun c x S F=>⟨F.ex⟩) (fun x d F=>⟨F.ex⟩) on.2.2.2) h6).pe)⟩) (fun _ _ _=>turn_if) (si.set _)
 | .comp2I N' n g it g2 it2 c elt,rz,Xe,k,X,e,C,on,h=>by
  refine gListComp e h fun y gs sc p h=>?_;refine gCons gs h fun q gs h=>?_;refine gMk q h fun tg iter ifs z h=>?_;refine gNil ifs h fun h=>?_;refine gCons gs h fun q2 gs h=>?_;refine gMk q2 h fun tg2 iter2 ifs2 z2 h=>?_;refine gCons ifs2 h fun x ifs2 h=>?_;refine gNil ifs2 h fun h=>?_;refine gNil gs h fun h=>?_;obtain⟨h,hcal⟩:=and2 (show (_&&k.cal)=true from h);obtain⟨h,h7⟩:=and2 (show (_&&isE ⟨N',sc,false,k.cal⟩ elt y)=true from h);obtain⟨h,h8⟩:=and2 (show (_&&isE ⟨N',sc,false,k.cal⟩ c x)=true from h);obtain⟨h,h6⟩:=and2 (show (_&&isI ⟨N',sc,false,k.cal⟩ tg2 it2 iter2)=true from h);obtain⟨h,h5⟩:=and2 (show (_&&isG ⟨N',sc,false,k.cal⟩ g2 tg2)=true from h);obtain⟨h,h4⟩:=and2 (show (_&&isI k tg it iter)=true from h);obtain⟨h,h3⟩:=and2 (show (_&&isG ⟨N',sc,false,k.cal⟩ g tg)=true from h);obtain⟨h,h2⟩:=and2 (show (_&&decide (n=N'.length-k.N.length))=true from h);obtain⟨h,h1⟩:=and2 (show (_&&blkB k N' sc)=true from h)
  obtain⟨h,h0⟩:=and2 (show (decide (z=0)&&decide (z2=0))=true from h);obtain rfl:=of_decide_eq_true h;obtain rfl:=of_decide_eq_true h0;obtain rfl:=of_decide_eq_true h2;have si:=sI it rz Xe k X tg _ C on.2.1 h4;refine plain_sd (t:=dCompB (N'.length-k.N.length) (rI Xe it) (rG X0 g) (bFor (rI X0 it2) (rG X0 g2) (bIf (rE X0 c).t (bEmit (rE X0 elt).e)))) rfl ?_ nb_ListComp ne_ListComp sh_ListComp;rw[<- C.N];have hs2:∀ env x,foldedSetIterable iter2 env x=pure x:=(sI it2 false X0 ⟨N',_,false,k.cal⟩ (blkCx X N' sc [] 0 X.s₀ X.H₀ [] []) tg2 _ (C.blk h1 [] 0 X.s₀ X.H₀ []) (onI_mono it2 (fun c x S F=>⟨F.ex⟩) (fun x d F=>⟨F.ex⟩) on.2.2.2.1) h6).set;exact de_compB (C.calm hcal) (blkB_ok C h1).1 si.pi (fun p' env=>forW (.ListComp y [⟨tg,iter,[],0⟩,⟨tg2,iter2,[x],0⟩] sc p) iter2 1 (.ref p') env) (fun p env=>forW_mono) (fun cl Cn s H ex p=>⟨(sG g false X0 ⟨N',_,false,k.cal⟩ (blkCx X N' _ cl Cn s H ex []) _ (C.blk h1 cl Cn s H ex) (onG_mono g (fun c x S F=>⟨F.ex⟩) (fun x d F=>⟨F.ex⟩) on.1) h3).pg,
   pb_for (W:=ifW x (blkCx X N' sc cl Cn s H ex []).env (emitW y (.ref p) (blkCx X N' sc cl Cn s H ex []).env)) (C.calm hcal) rfl (sI it2 false X0 ⟨N',_,false,k.cal⟩ (blkCx X N' sc cl Cn s H ex []) tg2 _ (C.blk h1 cl Cn s H ex) (onI_mono it2 (fun c x S F=>⟨F.ex⟩) (fun x d F=>⟨F.ex⟩) on.2.2.2.1) h6).pi
    (sG g2 false X0 ⟨N',_,false,k.cal⟩ (blkCx X N' _ cl Cn s H ex []) _ (C.blk h1 cl Cn s H ex) (onG_mono g2 (fun c x S F=>⟨F.ex⟩) (fun x d F=>⟨F.ex⟩) on.2.2.1) h5).pg
    (pb_if rfl (sE c false X0 ⟨N',_,false,k.cal⟩ (blkCx X N' _ cl Cn s H ex []) _ (C.blk h1 cl Cn s H ex) (onE_mono c (fun c x S F=>⟨F.ex⟩) (fun x d F=>⟨F.ex⟩) on.2.2.2.2.1) h8).pt (pb_emit rfl (sE elt false X0 ⟨N',_,false,k.cal⟩ (blkCx X N' _ cl Cn s H ex []) _ (C.blk h1 cl Cn s H ex) (onE_mono elt (fun c x S F=>⟨F.ex⟩) (fun x d F=>⟨F.ex⟩) on.2.2.2.2.2) h7).pe)) (ifW_mono emitW_mono) (fun _=>turn_two1i)⟩) (fun _ _ env=>turn_two0i (hs2 env)) (si.set _)
theorem sEs:∀ (c:CEs) (rz:Bool) (Xe:DSt->DK) (k:Ck) (X:Cx) (es:List Expr),CtxOk X k->onEs (FnAt X) (GloAt X) c->isEs k c es=true->SdEs X rz Xe c es
 | .nil,rz,Xe,k,X,es,C,on,h=>by
  cases es with
  | nil=>exact⟨da_nil,fun _ _=>rfl,fun _ _ z=>nomatch z⟩
  | cons _ _=>exact absurd h Bool.false_ne_true
 | .cons e es,rz,Xe,k,X,xs,C,on,h=>by
  cases xs with
  | nil=>exact absurd h Bool.false_ne_true
  | cons x r =>
   obtain⟨h1,h2⟩:=and2 (show (isE k e x&&isEs k es r)=true from h);have s1:=sE e rz Xe k X _ C on.1 h1;have s2:=sEs es rz Xe k X _ C on.2 h2;refine⟨da_cons s1.pe s2.pa (s1.sh.star _ _),fun pos env=>?_,fun _ _ z=>by cases z;exact⟨s1.sh,s2.pl⟩⟩;rw[s1.sh.star];show (false || _)=false;rw[Bool.false_or];exact s2.pl pos env
theorem sO:∀ (c:CO) (rz:Bool) (Xe:DSt->DK) (k:Ck) (X:Cx) (e:Option Expr),CtxOk X k->onO (FnAt X) (GloAt X) c->isO k c e=true->PO X e (liftO (X.L rz Xe) (rO Xe c))
 | .none,rz,Xe,k,X,e,C,on,h=>by
  cases e with
  | none=>exact do_none
  | some _=>exact absurd h Bool.false_ne_true
 | .some c,rz,Xe,k,X,e,C,on,h=>by
  cases e with
  | none=>exact absurd h Bool.false_ne_true
  | some e=>exact do_some (sE c rz Xe k X _ C on h).pe
theorem sG:∀ (c:CG) (rz:Bool) (Xe:DSt->DK) (k:Ck) (X:Cx) (e:Expr),CtxOk X k->onG (FnAt X) (GloAt X) c->isG k c e=true->SdG X rz Xe c e
 | .name i,rz,Xe,k,X,e,C,on,h=>by
  refine gNm e h fun x p h=>?_;obtain⟨h1,h2⟩:=and2 (show (decide (k.N[i]?=some x)&&k.loc x)=true from h);exact⟨dg_name (by rw[C.N];exact C.nd) (by rw[C.N];exact of_decide_eq_true h1) (C.loc h2).1 (C.loc h2).2,fun _ _=>rfl⟩
 | .tup gs,rz,Xe,k,X,e,C,on,h=>by
  refine gTuple e h fun xs q p h=>?_;obtain⟨h,hcal⟩:=and2 (show (_&&k.cal)=true from h);have s:=sGs gs rz Xe k X _ C on (show isGs k gs xs=true from h);exact⟨dg_tup (C.calm hcal) s.pg (s.len _) (s.st _),fun _ _=>rfl⟩
 | .sub a b,rz,Xe,k,X,e,C,on,h=>by
  refine gSubscript e h fun x y p h=>?_;obtain⟨h1,h2⟩:=and2 (show (isE k a x&&isE k b y)=true from h);have s2:=sE b rz Xe k X _ C on.2 h2;exact⟨dg_sub (sE a rz Xe k X _ C on.1 h1).pe s2.pe (fun v=>s2.sh.sub _ _ _ v),fun _ _=>rfl⟩
theorem sGs:∀ (c:CGs) (rz:Bool) (Xe:DSt->DK) (k:Ck) (X:Cx) (es:List Expr),CtxOk X k->onGs (FnAt X) (GloAt X) c->isGs k c es=true->SdGs X rz Xe c es
 | .nil,rz,Xe,k,X,es,C,on,h=>by
  cases es with
  | nil=>exact⟨dgs_nil,fun _=>rfl,fun _=>rfl⟩
  | cons _ _=>exact absurd h Bool.false_ne_true
 | .cons e es,rz,Xe,k,X,xs,C,on,h=>by
  cases xs with
  | nil=>exact absurd h Bool.false_ne_true
  | cons x r =>
   obtain⟨h1,h2⟩:=and2 (show (isG k e x&&isGs k es r)=true from h);have s1:=sG e rz Xe k X _ C on.1 h1;have s2:=sGs es rz Xe k X _ C on.2 h2;refine⟨dgs_cons s1.pg s2.pg (by rw[s1.as];rfl),fun env=>?_,fun env=>?_⟩
   ·rw[s1.as,List.length_cons,s2.len];rfl
   ·rw[s1.as,List.findIdx?_cons]
    simp[s2.st]
theorem sI:∀ (c:CI) (rz:Bool) (Xe:DSt->DK) (k:Ck) (X:Cx) (tg e:Expr),CtxOk X k->onI (FnAt X) (GloAt X) c->isI k tg c e=true->SdI X rz Xe tg c e
 | .seq c,rz,Xe,k,X,tg,e,C,on,h =>
  have s:=sE c rz Xe k X e C on h
  ⟨di_seq s.pe,s.sh.set⟩
 | .rng es,rz,Xe,k,X,tg,e,C,on,h=>by
  refine gCall e h fun f xs kw pos h=>?_;refine gNm f h fun y p h=>?_;refine gCons xs h fun a r h=>?_;refine gNil kw h fun h=>?_;obtain⟨h1,h3⟩:=and2 (show (_&&isEs k es (a::r))=true from h);obtain⟨h1,h2⟩:=and2 (show (decide (y="range")&&k.gl y)=true from h1);obtain rfl:=of_decide_eq_true h1;have s:=sEs es rz Xe k X _ C on h3;exact⟨di_rng (C.gl h2) C.blt.range s.pa ((s.hd _ _ rfl).1.star _ _) ((s.hd _ _ rfl).2 _ _),fun _ _=>rfl⟩
 | .zip es,rz,Xe,k,X,tg,e,C,on,h=>by
  refine gTuple tg h fun te tx tp h=>?_;refine gCall e h fun f xs kw pos h=>?_;refine gNm f h fun y p h=>?_;refine gCons xs h fun a r h=>?_;refine gNil kw h fun h=>?_;obtain⟨h1,h3⟩:=and2 (show (_&&isEs k es (a::r))=true from h);obtain⟨h1,h2⟩:=and2 (show (decide (y="zip")&&k.gl y)=true from h1);obtain rfl:=of_decide_eq_true h1;have s:=sEs es rz Xe k X _ C on h3;exact⟨di_zip (C.gl h2) C.blt.zip s.pa ((s.hd _ _ rfl).1.star _ _) ((s.hd _ _ rfl).2 _ _),fun _ _=>rfl⟩
end
end DL
end
noncomputable section
namespace DL
open PySem PySem.Spec PyProof.Rows L2
theorem un_near {fs:List Addr} {H1 H':Hp} {h1 h' h2 B:Heap} (un:Un fs [] H1 H' h1 h') (old:∀ b o,h1.get? b=some o->H1 b=none->b ∉ fs->B.get? b=some o) (st:B.StaysIn h2)
  (ff:∀ b∈fs,∃ o,h'.get? b=some o/\∀ vs,o.data≠.fields vs) (nr:Near h' h2):Un fs [] H1 H' h1 h2 where
 keep:=fun b o e n hb _=>st b o (old b o e n hb)
 slot:=fun b o e n hb hx=>by
  obtain⟨sl,e1⟩:=un.slot b o e n hb hx;obtain⟨o2,e2,d2⟩:=ff b hb;rw[e1] at e2;cases e2;obtain⟨sl2,e3⟩:=nr.1 b _ e1 d2;exact⟨sl2,e3⟩
 free:=un.free
 there:=fun b o e hx=>let ⟨o',e'⟩:=un.there b o e hx;nr.2.1 b o' e'
 tups:=un.tups
 frzs:=un.frzs
 tbls:=un.tbls
section
variable {X:Cx} {pins:List (Addr×Obj)} {σ:L2.St} {H H':Hp} {s s':Shared} {e C:Addr} {dd:Option Addr}
theorem frs_cons (h:env.frame=some L):frs (env::l)=L::frs l:=by simp[frs,h]
theorem old_entry (I:L2.Inv X pins σ H s) (hex:X.ex=[]) {B:Heap} (old:∀ b o,s.heap.get? b=some o->H b=none->b ∉ frs X.stack->B.get? b=some o) :
  ∀ b o,X.s₀.heap.get? b=some o->X.H₀ b=none->b ∉ X.fs->B.get? b=some o:=fun b o e n hb=>by
 have hx:b ∉ X.ex:=by rw[hex];simp
 refine old b o (I.base.keep b o e n hb hx) (I.base.free b o e n hx) fun z=>?_;rcases List.mem_cons.mp (I.stkSub b z) with q|q
 ·exact absurd (Nat.lt_of_lt_of_le (Heap.lt_size e) I.ok.above) (by rw[q];exact Nat.lt_irrefl _)
 ·exact hb q
theorem un_entry (I:L2.Inv X pins σ H s) (hex:X.ex=[]) (st:X.stack=X.env::X.outer/\X.env.frame=some X.env.locals) {h' B:Heap} (un:Un (frs X.stack) [] H H' s.heap h') (old:∀ b o,s.heap.get? b=some o->H b=none->b ∉ frs X.stack->B.get? b=some o) (hB:B.StaysIn h') :
  Un X.fs [] X.H₀ H' X.s₀.heap h':=by
 have a:Un (frs X.stack) [] X.H₀ H X.s₀.heap s.heap:=I.base.mono (fun b hb=>by rw[st.1,frs_cons st.2];exact List.mem_cons_of_mem _ hb) (by rw[hex];simp);have t:=a.trans un;exact⟨fun b o e n hb hx=>hB b o (old_entry I hex old b o e n hb),fun b o e n hb hx=>t.any e n hx,t.free,t.there,t.tups,t.frzs,t.tbls⟩
end
section
variable {P:Program} {w:World} {K:Frag} {mg:Str->Option Value} {base:Heap} {N:List Str} {qual:Str} {scope:Scope} {f:Addr} {cd:Value} {A:Around} {outer:List Env} {s:Shared} {H:Hp} {E:XK}
theorem xe_leave (hE:∀ n M' H' C dd x,HExt K H H'->RepM K H' M'->n∈xNames->ClsOf K n C->ExD K H' n dd x->Ed (.exc n x) M'->E (.ref C) dd H'):XeOk (cxOf (CXR P w) P w K mg base N qual scope f cd A outer s H E) true (fun _=>Ed) H where
 fly:=fun pins σ H1 s1 H' e C dd s' δ M' n xd x I th m sl hn hc ed hx=>by
  obtain⟨B,os,bare,un,old,hokB,fl⟩:=th.ex;show wpAny _ _ _ _ _ _;refine fly_leave I.ok.frames rfl fl fun h' F' nr=>?_;have ff:∀ b∈frs (cxOf (CXR P w) P w K mg base N qual scope f cd A outer s H E).stack,∃ o,s'.heap.get? b=some o/\∀ vs,o.data≠.fields vs:=fun b hb=>(fl.frames.mem hb).2;exact⟨e,C,dd,H',rfl,⟨⟨B,os.trans I.os,bare,un_entry I rfl ⟨rfl,rfl⟩ (un_near un old F'.stays ff nr) old F'.stays,old_entry I rfl old,hokB,F'⟩,fun z=>nr.2.2 _ (th.cl z)⟩,hE n M' H' C dd xd x m hn hc ed hx⟩
 back:=fun _ pins σ H1 s1 H' e C dd s' δ M' n xd x I th m sl hn hc ed hx=>by
  obtain⟨B,os,bare,un,old,hokB,fl⟩:=th.ex;show wpAny _ _ _ _ _ _;refine fly_leaveL rfl fl fun h' F' nr=>?_;have ff:∀ b∈frs (cxOf (CXR P w) P w K mg base N qual scope f cd A outer s H E).stack,∃ o,s'.heap.get? b=some o/\∀ vs,o.data≠.fields vs:=fun b hb=>(fl.frames.mem hb).2;exact⟨e,C,dd,H',rfl,⟨⟨B,os.trans I.os,bare,un_entry I rfl ⟨rfl,rfl⟩ (un_near un old F'.stays ff nr) old F'.stays,old_entry I rfl old,hokB,F'⟩,fun z=>nr.2.2 _ (th.cl z)⟩,hE n M' H' C dd xd x m hn hc ed hx⟩
 made:=fun _ pins σ H' h e C dd s' δ M' n xd x I mk cl m sl hn hc ed hx=>by
  show wpAny _ _ _ _ _ _;have hin:∀ env∈(cxOf (CXR P w) P w K mg base N qual scope f cd A outer s H E).stack,∀ a,env.frame=some a->a∈frs (cxOf (CXR P w) P w K mg base N qual scope f cd A outer s H E).stack:=fun env he b hb=>List.mem_filterMap.mpr ⟨env,he,hb⟩;have st:(hideAll h (frs (cxOf (CXR P w) P w K mg base N qual scope f cd A outer s H E).stack)).StaysIn h:=fun b o q=>PySem.W.of_hideAll _ q;refine fly_leave0 (h:=h) (B:=hideAll h (frs (cxOf (CXR P w) P w K mg base N qual scope f cd A outer s H E).stack)) I.ok.frames rfl (PySem.W.funFrames_hide I.stack hin) st mk fun h' F' nr=>?_;have old:∀ b o,h.get? b=some o->H' b=none->b ∉ frs (cxOf (CXR P w) P w K mg base N qual scope f cd A outer s H E).stack->(hideAll h (frs (cxOf (CXR P w) P w K mg base N qual scope f cd A outer s H E).stack)).get? b=some o:=fun b o q _ hb=>PySem.W.hideAll_get _ q hb;have ff:∀ b∈frs (cxOf (CXR P w) P w K mg base N qual scope f cd A outer s H E).stack,∃ o,h.get? b=some o/\∀ vs,o.data≠.fields vs:=fun b hb=>(I.stack.mem hb).2
  have un:Un (frs (cxOf (CXR P w) P w K mg base N qual scope f cd A outer s H E).stack) [] H' H' h h':=un_near .refl old F'.stays ff ((Near.kept mk.keeps).trans nr);refine⟨e,C,dd,H',rfl,⟨⟨_,I.os,I.bare,un_entry I rfl ⟨rfl,rfl⟩ un old F'.stays,old_entry I rfl old,fun a o q=>?_,F'⟩,fun z=>nr.2.2 _ (cl z)⟩,hE n M' H' C dd xd x m hn hc ed hx⟩;refine (I.hok a o q).stay (fun c u hc r=>PySem.W.hideAll_get _ r fun z=>?_) (fun _ q=>q) fun _ _ q=>q;have:=I.stkFree c z;rcases hc with rfl|hc
  ·rw[q] at this;cases this
  ·rw[hc] at this;cases this
end
theorem own_of {K:Frag} {h:Heap} {C:Addr} {bmB:List Value} {newId:String} (X:K.In h) (q:PySem.W.excIn K C bmB newId=true) {P:Prop}
  (go:∀ bm N nm q bs hdct sn sub ab col dd k0 k1 k2 k3 k5 mN,h.get? C=some (excClassObj nm q C N bs bm hdct sn sub ab col dd k0 k1 k2 k3 k5 newId)->h.Ns N mN->mN "__init__"=none->OwnTail h bmB bm->P):P:=by
 unfold PySem.W.excIn at q;split at q
 next dd cd sl ho =>
  split at q
  next C' bm a0 a1 a2 a3 id a5 em es =>
   simp only[Bool.and_eq_true,beq_iff_eq,Bool.not_eq_true'] at q;obtain⟨⟨⟨⟨⟨z1,z2⟩,z3⟩,z4⟩,z5⟩,z6⟩:=q;obtain⟨nm,bs,mro,ns,qn,hd,sn,sub,ab,col,del⟩:=cd;have hsl:sl=#[a0,a1,a2,a3,some (.builtin newId),a5]:=by
    rw[z2] at es;rw[<- es]
   simp only at em z3 z5 z6;subst z1 em z3 hsl;exact go bm ns nm qn bs hd sn sub ab col dd a0 a1 a2 a3 a5 _ (X _ _ ho) (.of_isNs (PySem.W.isNs_of_in X z5)) (PySem.W.nsMap_none_of_in X z5 z6) (PySem.W.tail_of_in X z4)
  next=>cases q
 next=>cases q
theorem plain_not (h:xPlain.contains n=true):n ∉ xInit:=by
 have:∀ m∈xPlain,m ∉ xInit:=by decide
 exact this n (by simpa using h)
noncomputable def dRaise (n:Str) (ta:(DSt->DK)->DA):DS:=fun D δ M=>ta D.ex δ M fun ds M1=>ds.length<=sizeLine/\D.ex δ (.exc n .non) M1
section
variable {X:Cx} {x:Str} {np cpos pos:Pos} {e:Expr} {es:List Expr} {ta:(DSt->DK)->DA}
theorem ds_raise {C:Addr} (hr:Room 0 X.A) (tab:xTabB X.K=true) (hp:xPlain.contains x=true) (hc:ClsOf X.K x C) (hm:X.mg x=some (.ref C)) (hg:Gl X x) (hdb:(x==("__debug__":Str))=false) (ha:∀ Xe,PA X (e::es) (liftA (X.L true Xe) (ta Xe)))
  (he:starEach (e::es) X.env=(false,eval e X.env)::starEach es X.env) (hpl:(backTo cpos (starEach es X.env)).any (·.1)=false) :
  PS X (.Raise (some (.Call (.Name x np) (e::es) [] cpos)) none pos) (liftS X true (dRaise x ta)):=by
 rintro pins s σ H Z I ⟨δ,M,D,rs,rm,t,n,r,b,c⟩;have hn:x∈xNames:=List.mem_cons_of_mem _ (List.mem_append_left _ (by simpa using hp));have FV:=PySem.F.excBase_ValueError;refine own_of (C:=C) I.ok.mod.kin ((xTab_row tab hn hc).2.1 hp) fun bm Nn nm q bs hdct sn sub ab col dd k0 k1 k2 k3 k5 mN hC hN hni T=>?_;refine wpAny_Raise_call_subU (C:=C) (nm:=nm) (q:=q) (N:=Nn) (bs:=bs) (bm:=bm) (bmB:=bmV) (hdct:=hdct) (sn:=sn) (sub:=sub) (ab:=ab) (col:=col) (dd:=dd) (k0:=k0) (k1:=k1) (k2:=k2) (k3:=k3) (k5:=k5) FV %[|4] FV (mN:=mN)
  (T.hasType %[|4]) hr.hd (by rw[he];show (false || (backTo cpos (starEach es X.env)).any (·.1))=false;rw[hpl];rfl) hni (ld_glob I hg hm ⟨rfl,?_⟩ hdb)
 rw[he];refine Calls.evalArgs_plain ?_;have sp:=ha D.ex cpos pins s σ H (fun vs H1=>∃ ds M1,HExt X.K H H1/\RepM X.K H1 M1/\RelDs X.K H1 vs ds/\ds.length<=sizeLine/\D.ex δ (.exc x .non) M1) I ⟨δ,M,_,rs,rm,t,fun ds M1 vs H1 x m r h=>⟨ds,M1,x,m,r,h.1,h.2⟩⟩;rw[he] at sp;refine wpAny_mono sp (fun us s1 ⟨vs,H1,I1,r1,ds,M1,x1,m1,rd,hl,hx⟩=>⟨rfl,by rw[<- r1.length,rd.length];exact hl,I1.bk _ _ hC,hN.keeps I1.bk,T.keeps I1.bk,fun h' e0 mk=>?_⟩) fun _ _ z=>z;exact rs.ok.made rfl pins σ H1 s1.heap e0 C none {s1 with heap:=h'} δ M1 x .non x1 I1 (Made.of mk) (fun _=>clean_made mk) m1 (rs.toSlots.ext x1) hn hc (.plain (plain_not hp)) hx
end
section
variable {X:Cx} {x:Str} {np cpos pos:Pos} {e:Expr} {es:List Expr} {ta:(DSt->DK)->DA}
end
section
variable {X:Cx} {pins:List (Addr×Obj)} {σ:L2.St} {H:Hp} {s:Shared}
end
noncomputable def dTry (t:DS) (c:Str) (ie ix:Nat):DS:=fun D δ M=>t {D with ex:=fun δ' d M'=>∃ n,d=.exc n (xarg d)/\isSub n c=true/\D.nx ((δ'.set ix (some d)).set ie none) M'} δ M
section
variable {X:Cx} {rz:Bool} {body:List Stmt} {t:DS} {cx ne x:Str} {np px pe apos hpos pos:Pos} {ie ix:Nat}
end
section
variable {X:Cx} {rz:Bool} {b0:Stmt} {body hb:List Stmt} {t th:DS} {cx ne:Str} {np hpos pos:Pos} {ie:Nat}
end
section
variable {X:Cx} {rz:Bool} {b0:Stmt} {body hb:List Stmt} {t th:DS} {cx:Str} {np hpos pos:Pos}
end
end DL
end
noncomputable section
namespace DL
open PySem PySem.Spec PyProof.Rows L2
section
variable {M:Model} {A:Around} {Z:Value->Shared->Prop} {s:Shared} {B:Heap} {env:Env} {outer:List Env} {L e:Addr}
end
section
variable {prog:Program} {w:World} {A:Around} {E:Value->Shared->Prop} {h:Heap} {g:Array GenState} {d:Drawn} {t:Nat} {os:OsState}
end
section
variable {X:Cx} {body:List Stmt} {t:DS} {cx x xn:Str} {np np2 ap cpos cp rpos hpos pos:Pos} {ck i:Nat}
end
end DL
end
noncomputable section
namespace DL
open PySem PySem.Spec PyProof.Rows L2
mutual
inductive CS where
 | expr (e:CE)|ret (e:CE)
 | ife (c:CE) (a b:CSs)
 | set (i:Nat) (e:CE)
 | asg (g:CG) (e:CE)
 | two (g h:CG) (e:CE)
 | par (i j:Nat) (a b:CE)
 | whl (c:CE) (b:CSs)
 | fr (g:CG) (it:CI) (b:CSs)
 | rse (x:Str) (es:CEs)
inductive CSs where
 | nil|cons (s:CS) (r:CSs)
end
mutual
noncomputable def rS:CS->DS
 | .expr e=>dDrop (fun Xe=>(rE Xe e).e)
 | .ret e=>dRet (fun Xe=>(rE Xe e).e)
 | .ife c a b=>dIfS (fun Xe=>(rE Xe c).t) (rSs a) (rSs b)
 | .set i e=>dAsg (fun Xe=>(rE Xe e).e) (fun _=>gdName i)
 | .asg g e=>dAsg (fun Xe=>(rE Xe e).e) (fun Xe=>rG Xe g)
 | .two g h e=>dTwo (fun Xe=>(rE Xe e).e) (fun Xe=>rG Xe g) (fun Xe=>rG Xe h)
 | .par i j a b=>dPar i j (fun Xe=>dCons (rE Xe a).e (dCons (rE Xe b).e dNil))
 | .whl c b=>dWhile (fun Xe=>(rE Xe c).t) (rSs b)
 | .fr g it b=>dFor (fun Xe=>rI Xe it) (fun Xe=>rG Xe g) (rSs b)
 | .rse x es=>dRaise x (fun Xe=>rEs Xe es)
noncomputable def rSs:CSs->DS
 | .nil=>dNext
 | .cons s r=>dSeq (rS s) (rSs r)
end
noncomputable def isComp:Expr->Bool
 | .ListComp ..=>true
 | .SetComp ..=>true
 | .DictComp ..=>true
 | _=>false
theorem swaps_cell (h:env.kindOf x=some .cell) (y:Expr) (px:Pos) (n:Nat):swapsWith y (some (.Name x px)) n env=pure false:=by
 unfold swapsWith;split
 ·simp only[h]
  rw[show ((some NameKind.cell==some NameKind.local)=false) from rfl];simp
 ·rfl
noncomputable def swapB (k:Ck) (x:Str) (px:Pos) (e:CE) (y:Expr):Bool :=
 match e,y with
 | .comp ..,.ListComp _ _ sc p=>decide (k.sc.kind=.function)&&decide (k.kind x=some .local)&&decide (px.line=p.line)&&!(sc.names.any fun y=>y.1==x&&(y.2==.local || y.2==.cell))
 | .compI ..,.ListComp _ _ sc p=>decide (k.sc.kind=.function)&&decide (k.kind x=some .local)&&decide (px.line=p.line)&&!(sc.names.any fun y=>y.1==x&&(y.2==.local || y.2==.cell))
 | _,_=>false
noncomputable def noSwap:Expr->Expr->Bool
 | .Tuple (.Subscript ..::_) _ _,.Tuple ..=>true
 | .Tuple ..,.Tuple vs _ _=>vs.all (foldedForSure 8)
 | .List ..,_=>false
 | _,_=>true
noncomputable def cellT (k:Ck) (tg y:Expr):Bool :=
 qTuple tg fun xs _ _=>qCons xs fun a r=>qName a fun x _=>qCons r fun b r=>qName b fun z _=>qNil r (qTuple y fun _ _ _=>decide (k.kind x=some .cell) || decide (k.kind z=some .cell))
noncomputable def notStar:Expr->Bool
 | .Starred ..=>false
 | _=>true
mutual
noncomputable def isS (k:Ck) (rz:Bool):CS->Stmt->Bool
 | .expr e,s=>qExpr s fun x p=>isE k e x&&!isComp x
 | .ret e,s=>qReturn s fun v p=>qSome v fun v=>isE k e v
 | .ife c a b,s=>qIf s fun x xs ys p=>isE k c x&&isSs k rz a xs&&isSs k rz b ys
 | .set i e,s=>qAssign s fun ts y p=>qCons ts fun tg ts=>qNil ts (qName tg fun x px=>decide (k.N[i]?=some x)&&k.loc x&&isE k e y&&((!isComp y || decide (k.kind x=some .cell)) || swapB k x px e y))
 | .asg g e,s=>qAssign s fun ts y p=>qCons ts fun tg ts=>qNil ts (isG k g tg&&isE k e y&&!isComp y&&(noSwap tg y || cellT k tg y))
 | .two g h e,s=>qAssign s fun ts y p=>qCons ts fun tg ts=>qCons ts fun tg2 ts=>qNil ts (isG k g tg&&isG k h tg2&&isE k e y)
 | .par i j a b,s=>qAssign s fun ts v p=>qCons ts fun tg ts=>qTuple tg fun xs q1 p1=>qCons xs fun x xs=>qName x fun x px=>qCons xs fun y xs=>qName y fun y py=>qNil xs (qNil ts (qTuple v fun us q2 p2=>qCons us fun u us=>qCons us fun v us=>qNil us (decide (k.N[i]?=some x)&&decide (k.N[j]?=some y)&&!decide (i=j)&&decide (k.kind x=some .local)&&decide (k.kind y=some .local)&&isE k a u&&isE k b v&&decide (px.line=py.line)&&!([u,v].all (foldedForSure 8))&&!([u,v].all (constantsAlone 8))&&notStar u&&notStar v&&decide (k.sc.kind=.function)&&k.cal)))
 | .whl c b,s=>qWhile s fun x xs ys p=>qNil ys (isE k c x&&isSs k rz b xs)
 | .fr g it b,s=>qFor s fun tg iter xs ys p=>qNil ys (isG k g tg&&isI k tg it iter&&isSs k rz b xs&&k.cal)
 | .rse x es,s=>qRaise s fun v w p=>qSome v fun v=>qCall v fun f xs kw q=>qName f fun y q'=>qCons xs fun a r=>qNil kw (qNone w (rz&&decide (x=y)&&xPlain.contains x&&k.gl x&&okName x&&isEs k es (a::r)&&k.cal))
noncomputable def isSs (k:Ck) (rz:Bool):CSs->List Stmt->Bool
 | .nil,xs=>match xs with | []=>true|_=>false
 | .cons s r,xs=>match xs with|x::ys=>isS k rz s x&&isSs k rz r ys|_=>false
end
mutual
noncomputable def onS (P:Str->Str->DSp->Prop) (G:Str->D->Prop):CS->Prop
 | .expr e | .ret e | .set _ e=>onE P G e
 | .ife c a b=>onE P G c/\onSs P G a/\onSs P G b
 | .asg g e=>onG P G g/\onE P G e
 | .two g h e=>onG P G g/\onG P G h/\onE P G e
 | .par _ _ a b=>onE P G a/\onE P G b
 | .whl c b=>onE P G c/\onSs P G b
 | .fr g it b=>onG P G g/\onI P G it/\onSs P G b
 | .rse x es=>G x (.cls x)/\onEs P G es
noncomputable def onSs (P:Str->Str->DSp->Prop) (G:Str->D->Prop):CSs->Prop
 | .nil=>True
 | .cons s r=>onS P G s/\onSs P G r
end
mutual
theorem onS_mono:∀ (c:CS),(∀ c x S,P c x S->P' c x S)->(∀ x d,G x d->G' x d)->onS P G c->onS P' G' c
 | .expr e,p,g,h | .ret e,p,g,h | .set _ e,p,g,h=>onE_mono e p g h
 | .ife c a b,p,g,h=>⟨onE_mono c p g h.1,onSs_mono a p g h.2.1,onSs_mono b p g h.2.2⟩
 | .asg t e,p,g,h=>⟨onG_mono t p g h.1,onE_mono e p g h.2⟩
 | .two t u e,p,g,h=>⟨onG_mono t p g h.1,onG_mono u p g h.2.1,onE_mono e p g h.2.2⟩
 | .par _ _ a b,p,g,h=>⟨onE_mono a p g h.1,onE_mono b p g h.2⟩
 | .whl c b,p,g,h=>⟨onE_mono c p g h.1,onSs_mono b p g h.2⟩
 | .fr t it b,p,g,h=>⟨onG_mono t p g h.1,onI_mono it p g h.2.1,onSs_mono b p g h.2.2⟩
 | .rse x es,p,g,h=>⟨g _ _ h.1,onEs_mono es p g h.2⟩
theorem onSs_mono:∀ (c:CSs),(∀ c x S,P c x S->P' c x S)->(∀ x d,G x d->G' x d)->onSs P G c->onSs P' G' c
 | .nil,_,_,_=>True.intro
 | .cons e es,p,g,h=>⟨onS_mono e p g h.1,onSs_mono es p g h.2⟩
end
theorem swaps_no (h:isComp e=false) (t:Option Expr) (l:Nat) (env:Env):swapsWith e t l env=pure false:=by
 cases e<;>first|rfl|(simp[isComp] at h)
theorem swaps_yes (hx:env.kindOf x=some .local) (hl:px.line=p.line) (hn:(sc.names.any fun y=>y.1==x&&(y.2==.local || y.2==.cell))=false) (hb:env.blockKind=.function) :
  swapsWith (.ListComp elt gs sc p) (some (.Name x px)) l env=pure true:=by
 show (pure (env.blockKind==.function&&env.kindOf x==some .local&&px.line==p.line&&!(sc.names.any fun y=>y.1==x&&(y.2==.local || y.2==.cell))):Sem Bool)=pure true;rw[hb,hx,hl,hn];simp
theorem swapped_con (h:vs.all (foldedForSure 8)=true) (env:Env):swappedStores [.Tuple ts k p] (.Tuple vs k2 p2) env=pure none:=by
 unfold swappedStores;simp only[h,if_true]
 repeat' split
 all_goals rfl
theorem swapped_sub (env:Env):swappedStores [.Tuple (.Subscript a b p::ts) k q] (.Tuple vs k2 p2) env=pure none:=by
 unfold swappedStores;have hl:∀ f:Expr->Option Str,f (.Subscript a b p)=none->((Expr.Subscript a b p::ts).filterMap f).length≠(Expr.Subscript a b p::ts).length:=fun f hf=>by
  rw[List.filterMap_cons_none hf];have:=List.length_filterMap_le f ts;simp only[List.length_cons];omega
 dsimp only;split
 ·rfl
 ·split
  ·rfl
  ·rw[if_pos]
   ·have:=hl (fun | .Name id pos=>if env.kindOf id==some .local&&pos.line==(((Expr.Subscript a b p::ts).head?.map (·.pos.line)).getD 0) then some id else none|_=>none) rfl
    simp only[Bool.or_eq_true,bne_iff_ne];exact .inl this
theorem swapped_no (h:noSwap tg e=true) (env:Env):swappedStores [tg] e env=pure none:=by
 cases tg with
 | Tuple ts k p =>
  cases e with
  | Tuple vs k2 p2 =>
   cases ts with
   | nil=>exact swapped_con h env
   | cons t ts =>
    cases t with
    | Subscript a b q=>exact swapped_sub env
    | _=>exact swapped_con h env
  | _=>rfl
 | List ts p=>exact absurd h Bool.false_ne_true
 | _=>rfl
theorem swapped_two (t1 t2 y:Expr) (env:Env):swappedStores [t1,t2] y env=pure none:=by
 cases t1<;>first|rfl|(cases y<;>rfl)
theorem swapped_yes (hx:env.kindOf x=some .local) (hy:env.kindOf y=some .local) (hne:x≠y) (hl:px.line=py.line) (hb:env.blockKind=.function)
  (h1:[u,v].all (foldedForSure 8)=false) (h2:[u,v].all (constantsAlone 8)=false) (hu:notStar u=true) (hv:notStar v=true) :
  swappedStores [.Tuple [.Name x px,.Name y py] kt pt] (.Tuple [u,v] k2 pt2) env=pure (some [x,y]):=by
 unfold swappedStores;have hs:∀ {z:Expr},notStar z=true->(match z with | .Starred ..=>true|_=>false)=false:=fun {z} hz=>by
  cases z<;>first|rfl|exact absurd hz (by simp[notStar])
 have hd:[x,y].eraseDups.length=2:=by
  have:(y==x)=false:=by simpa using Ne.symm hne
  simp[List.eraseDups_cons,this]
 have hany:([u,v].any fun | .Starred ..=>true|_=>false)=false:=by
  simp only[List.any_cons,List.any_nil,Bool.or_false];rw[hs hu,hs hv];rfl
 have ha:∀ (f:Expr->Bool),[u,v].all f=(f u&&f v):=fun f=>by simp
 rw[ha] at h1 h2;have hu':=hs hu;have hv':=hs hv;simp[hb,hx,hy,Expr.pos,hl,hd,ha,h1,h2];intro z;rcases z with z|z
 ·exact absurd (hu'.symm.trans z) %[|4]
 ·exact absurd (hv'.symm.trans z) %[|4]
theorem never_passes (C:CtxOk X k):PassesOwn (model X.prog X.w) X.A X.env X.xe:=C.po
theorem glo_cls (G:GloAt X n (.cls n)):∃ C,X.mg n=some (.ref C)/\ClsOf X.K n C:=by
 obtain⟨u,v,e1,e2,e3⟩:=G.ex;have:=e3 fun _=>none;cases this with
 | @cls C _ hn hc=>cases e2;exact⟨C,e1,hc⟩
theorem CtxOk.bk {X:Cx} {k:Ck} (hk:X.env.scope.kind=.function):X.env.blockKind=.function:=by unfold Env.blockKind;rw[hk];rfl
theorem swapped_cell (C:CtxOk X k) (h:cellT k tg y=true):swappedStores [tg] y X.env=pure none:=by
 refine gTuple tg h fun xs kt pt h=>?_;refine gCons xs h fun a r h=>?_;refine gNm a h fun x px h=>?_;refine gCons r h fun b r h=>?_;refine gNm b h fun z pz h=>?_;refine gNil r h fun h=>?_;refine gTuple y h fun vs k2 p2 h=>?_;have e:X.env.kindOf x=some .cell\/X.env.kindOf z=some .cell:=by
  rw[Bool.or_eq_true] at h;rcases h with h|h
  ·exact .inl (C.sc _ _ (of_decide_eq_true h) %[|4])
  ·exact .inr (C.sc _ _ (of_decide_eq_true h) %[|4])
 unfold swappedStores;simp only[];split
 ·rfl
 ·split
  ·rfl
  ·rw[if_pos]
   rcases e with e|e
   ·simp[List.filterMap,e]
    split<;>simp
   ·simp[List.filterMap,e]
    split<;>simp
theorem not1 (h:(!a)=true):a=false:=by
 cases a with
 | true=>exact absurd h Bool.false_ne_true
 | false=>rfl
theorem or2 (h:(a || b)=true):a=true\/b=true:=by
 cases a with
 | true=>exact .inl rfl
 | false=>exact .inr h
mutual
theorem sS:∀ (c:CS) (rz:Bool) (k:Ck) (X:Cx) (s:Stmt),CtxOk X k->X.env.scope.kind=.function->onS (FnAt X) (GloAt X) c->isS k rz c s=true->PS X s (liftS X rz (rS c))
 | .expr e,rz,k,X,s,C,bk,on,h=>by
  refine gExpr s h fun x p h=>?_;obtain⟨h1,h2⟩:=and2 (show (isE k e x&&!isComp x)=true from h);exact ds_expr (fun Xe=>(sE e rz Xe k X _ C on h1).pe) (swaps_no (not1 h2) _ _ _)
 | .ret e,rz,k,X,s,C,bk,on,h=>by
  refine gReturn s h fun v p h=>?_;refine gSome v h fun v h=>?_;exact ds_ret (fun Xe=>(sE e rz Xe k X v C on h).pe)
 | .ife c a b,rz,k,X,s,C,bk,on,h=>by
  refine gIf s h fun x xs ys p h=>?_;obtain⟨h1,h3⟩:=and2 (show (_&&isSs k rz b ys)=true from h);obtain⟨h1,h2⟩:=and2 (show (isE k c x&&isSs k rz a xs)=true from h1);exact ds_if (fun Xe=>(sE c rz Xe k X _ C on.1 h1).pt) (sSs a rz k X _ C bk on.2.1 h2) (sSs b rz k X _ C bk on.2.2 h3)
 | .set i e,rz,k,X,s,C,bk,on,h=>by
  refine gAssign s h fun ts y p h=>?_;refine gCons ts h fun tg ts h=>?_;refine gNil ts h fun h=>?_;refine gNm tg h fun x px h=>?_;obtain⟨h1,h4⟩:=and2 (show (_&&((!isComp y || decide (k.kind x=some .cell)) || swapB k x px e y))=true from h);obtain⟨h1,h3⟩:=and2 (show (_&&isE k e y)=true from h1);obtain⟨h1,h2⟩:=and2 (show (decide (k.N[i]?=some x)&&k.loc x)=true from h1);have hi:=of_decide_eq_true h1;clear h1;rcases or2 h4 with h4|h4
  ·rcases or2 h4 with h4|h4
   ·exact ds_set (by rw[C.N];exact C.nd) (by rw[C.N];exact hi) (C.loc h2).1 (fun Xe=>(sE e rz Xe k X _ C on h3).pe) (swaps_no (not1 h4) _ _ _) (C.loc h2).2
   ·exact ds_set (by rw[C.N];exact C.nd) (by rw[C.N];exact hi) (C.loc h2).1 (fun Xe=>(sE e rz Xe k X _ C on h3).pe) (swaps_cell (C.sc _ _ (of_decide_eq_true h4) %[|4]) _ _ _) (C.loc h2).2
  ·cases e with
   | comp N' n g it elt =>
    cases y with
    | ListComp y gs sc p =>
     obtain⟨h4,h7⟩:=and2 (show (_&&!(sc.names.any fun y=>y.1==x&&(y.2==.local || y.2==.cell)))=true from h4);obtain⟨h4,h6⟩:=and2 (show (_&&decide (px.line=p.line))=true from h4);obtain⟨h4,h5⟩:=and2 (show (decide (k.sc.kind=.function)&&decide (k.kind x=some .local))=true from h4);refine gCons gs (show qCons gs _=true from h3) fun q r h3=>?_;refine gMk q h3 fun tg iter ifs z h3=>?_;refine gNil ifs h3 fun h3=>?_;refine gNil r h3 fun h3=>?_;obtain⟨h3,hcal⟩:=and2 (show (_&&k.cal)=true from h3);obtain⟨h3,g5⟩:=and2 (show (_&&isE ⟨N',sc,false,k.cal⟩ elt y)=true from h3);obtain⟨h3,g4⟩:=and2 (show (_&&isI k tg it iter)=true from h3);obtain⟨h3,g3⟩:=and2 (show (_&&isG ⟨N',sc,false,k.cal⟩ g tg)=true from h3);obtain⟨h3,g2⟩:=and2 (show (_&&decide (n=N'.length-k.N.length))=true from h3);obtain⟨h3,g1⟩:=and2 (show (decide (z=0)&&blkB k N' sc)=true from h3);obtain rfl:=of_decide_eq_true h3;obtain rfl:=of_decide_eq_true g2
     have si:=fun Xe=>sI it rz Xe k X tg _ C on.2.1 g4;rw[<- C.N];exact ds_setc (C.calm hcal) (blkB_ok C g1).1 (fun Xe=>(si Xe).pi) (fun cl Cn s H ex=>⟨(sG g false X0 ⟨N',_,false,k.cal⟩ (blkCx X N' _ cl Cn s H ex []) _ (C.blk g1 cl Cn s H ex) (onG_mono g (fun c x S F=>⟨F.ex⟩) (fun x d F=>⟨F.ex⟩) on.1) g3).pg,
      (sE elt false X0 ⟨N',_,false,k.cal⟩ (blkCx X N' _ cl Cn s H ex []) _ (C.blk g1 cl Cn s H ex) (onE_mono elt (fun c x S F=>⟨F.ex⟩) (fun x d F=>⟨F.ex⟩) on.2.2) g5).pe⟩) ((si X0).set _)
      (swaps_yes (C.sc _ _ (of_decide_eq_true h5) %[|4]) (of_decide_eq_true h6) (not1 h7) (CtxOk.bk (k:=k) bk)) (by rw[C.N];exact C.nd) (by rw[C.N];exact hi) (C.loc h2).1 (C.loc h2).2
    | _=>exact absurd h4 Bool.false_ne_true
   | compI N' n g it c elt =>
    cases y with
    | ListComp y gs sc p =>
     obtain⟨h4,h7⟩:=and2 (show (_&&!(sc.names.any fun y=>y.1==x&&(y.2==.local || y.2==.cell)))=true from h4);obtain⟨h4,h6⟩:=and2 (show (_&&decide (px.line=p.line))=true from h4);obtain⟨h4,h5⟩:=and2 (show (decide (k.sc.kind=.function)&&decide (k.kind x=some .local))=true from h4);refine gCons gs (show qCons gs _=true from h3) fun q r h3=>?_;refine gMk q h3 fun tg iter ifs z h3=>?_;refine gCons ifs h3 fun x0 ifs h3=>?_;refine gNil ifs h3 fun h3=>?_;refine gNil r h3 fun h3=>?_;obtain⟨h3,hcal⟩:=and2 (show (_&&k.cal)=true from h3);obtain⟨h3,g6⟩:=and2 (show (_&&isE ⟨N',sc,false,k.cal⟩ elt y)=true from h3);obtain⟨h3,g5⟩:=and2 (show (_&&isE ⟨N',sc,false,k.cal⟩ c x0)=true from h3);obtain⟨h3,g4⟩:=and2 (show (_&&isI k tg it iter)=true from h3);obtain⟨h3,g3⟩:=and2 (show (_&&isG ⟨N',sc,false,k.cal⟩ g tg)=true from h3);obtain⟨h3,g2⟩:=and2 (show (_&&decide (n=N'.length-k.N.length))=true from h3);obtain⟨h3,g1⟩:=and2 (show (decide (z=0)&&blkB k N' sc)=true from h3)
     obtain rfl:=of_decide_eq_true h3;obtain rfl:=of_decide_eq_true g2;have si:=fun Xe=>sI it rz Xe k X tg _ C on.2.1 g4;rw[<- C.N];refine ds_setB (ti:=fun Xe=>rI Xe it) (g:=rG X0 g) (b:=bIf (rE X0 c).t (bEmit (rE X0 elt).e)) (C.calm hcal) (blkB_ok C g1).1 (fun Xe=>(si Xe).pi) (fun p env=>ifW x0 env (emitW y (.ref p) env)) (fun p env=>ifW_mono emitW_mono) (fun cl Cn s H ex p=>⟨(sG g false X0 ⟨N',_,false,k.cal⟩ (blkCx X N' _ cl Cn s H ex []) _ (C.blk g1 cl Cn s H ex) (onG_mono g (fun c x S F=>⟨F.ex⟩) (fun x d F=>⟨F.ex⟩) on.1) g3).pg,
      pb_if rfl (sE c false X0 ⟨N',_,false,k.cal⟩ (blkCx X N' _ cl Cn s H ex []) _ (C.blk g1 cl Cn s H ex) (onE_mono c (fun c x S F=>⟨F.ex⟩) (fun x d F=>⟨F.ex⟩) on.2.2.1) g5).pt (pb_emit rfl (sE elt false X0 ⟨N',_,false,k.cal⟩ (blkCx X N' _ cl Cn s H ex []) _ (C.blk g1 cl Cn s H ex) (onE_mono elt (fun c x S F=>⟨F.ex⟩) (fun x d F=>⟨F.ex⟩) on.2.2.2) g6).pe)⟩) (fun _ _ _=>turn_if) ((si X0).set _)
      (swaps_yes (C.sc _ _ (of_decide_eq_true h5) %[|4]) (of_decide_eq_true h6) (not1 h7) (CtxOk.bk (k:=k) bk)) (by rw[C.N];exact C.nd) (by rw[C.N];exact hi) (C.loc h2).1 (C.loc h2).2
    | _=>exact absurd h4 Bool.false_ne_true
   | _=>exact absurd h4 Bool.false_ne_true
 | .asg g e,rz,k,X,s,C,bk,on,h=>by
  refine gAssign s h fun ts y p h=>?_;refine gCons ts h fun tg ts h=>?_;refine gNil ts h fun h=>?_;obtain⟨h1,h4⟩:=and2 (show (_&&(noSwap tg y || cellT k tg y))=true from h);obtain⟨h1,h3⟩:=and2 (show (_&&!isComp y)=true from h1);obtain⟨h1,h2⟩:=and2 (show (isG k g tg&&isE k e y)=true from h1);have s1:=fun Xe=>sG g rz Xe k X _ C on.1 h1;have h5:swappedStores [tg] y X.env=pure none:=(or2 h4).elim (fun h4=>swapped_no h4 _) (fun h4=>swapped_cell C h4);exact ds_asg (fun Xe=>(sE e rz Xe k X _ C on.2 h2).pe) (fun Xe=>(s1 Xe).pg) (swaps_no (not1 h3) _ _ _) h5 (by rw[(s1 X0).as];rfl)
 | .two g g2 e,rz,k,X,s,C,bk,on,h=>by
  refine gAssign s h fun ts y p h=>?_;refine gCons ts h fun tg ts h=>?_;refine gCons ts h fun tg2 ts h=>?_;refine gNil ts h fun h=>?_;obtain⟨h1,h3⟩:=and2 (show (_&&isE k e y)=true from h);obtain⟨h1,h2⟩:=and2 (show (isG k g tg&&isG k g2 tg2)=true from h1);have s1:=fun Xe=>sG g rz Xe k X _ C on.1 h1;have s2:=fun Xe=>sG g2 rz Xe k X _ C on.2.1 h2;exact ds_two (fun Xe=>(sE e rz Xe k X _ C on.2.2 h3).pe) (fun Xe=>(s1 Xe).pg) (fun Xe=>(s2 Xe).pg) (by rw[(s1 X0).as,(s2 X0).as];rfl) (swapped_two _ _ _ _)
 | .par i j a b,rz,k,X,s,C,bk,on,h=>by
  refine gAssign s h fun ts v p h=>?_;refine gCons ts h fun tg ts h=>?_;refine gTuple tg h fun xs q1 p1 h=>?_;refine gCons xs h fun x xs h=>?_;refine gNm x h fun x px h=>?_;refine gCons xs h fun y xs h=>?_;refine gNm y h fun y py h=>?_;refine gNil xs h fun h=>?_;refine gNil ts h fun h=>?_;refine gTuple v h fun us q2 p2 h=>?_;refine gCons us h fun u us h=>?_;refine gCons us h fun v us h=>?_;refine gNil us h fun h=>?_;obtain⟨h,hcal⟩:=and2 (show (_&&k.cal)=true from h);obtain⟨h,h13⟩:=and2 (show (_&&decide (k.sc.kind=.function))=true from h);obtain⟨h,h12⟩:=and2 (show (_&&notStar v)=true from h);obtain⟨h,h11⟩:=and2 (show (_&&notStar u)=true from h);obtain⟨h,h10⟩:=and2 (show (_&&!([u,v].all (constantsAlone 8)))=true from h);obtain⟨h,h9⟩:=and2 (show (_&&!([u,v].all (foldedForSure 8)))=true from h);obtain⟨h,h8⟩:=and2 (show (_&&decide (px.line=py.line))=true from h);obtain⟨h,h7⟩:=and2 (show (_&&isE k b v)=true from h)
  obtain⟨h,h6⟩:=and2 (show (_&&isE k a u)=true from h);obtain⟨h,h5⟩:=and2 (show (_&&decide (k.kind y=some .local))=true from h);obtain⟨h,h4⟩:=and2 (show (_&&decide (k.kind x=some .local))=true from h);obtain⟨h,h3⟩:=and2 (show (_&&!decide (i=j))=true from h);obtain⟨h,h2⟩:=and2 (show (decide (k.N[i]?=some x)&&decide (k.N[j]?=some y))=true from h);have h1:=of_decide_eq_true h;have h2:=of_decide_eq_true h2;have h3:¬ i=j:=of_decide_eq_false (not1 h3);have s1:=fun Xe=>sE a rz Xe k X _ C on.1 h6;have s2:=fun Xe=>sE b rz Xe k X _ C on.2 h7;have kx:=C.sc _ _ (of_decide_eq_true h4) %[|4];have ky:=C.sc _ _ (of_decide_eq_true h5) %[|4];exact ds_par (C.calm hcal) (by rw[C.N];exact C.nd) (by rw[C.N];exact h1) (by rw[C.N];exact h2) h3 kx ky (fun Xe=>da_cons (s1 Xe).pe (da_cons (s2 Xe).pe da_nil ((s2 Xe).sh.star _ _)) ((s1 Xe).sh.star _ _))
   (swapped_yes kx ky (fun z=>h3 (nodup_ix C.nd h1 (z ▸ h2))) (of_decide_eq_true h8) (CtxOk.bk (k:=k) bk) (not1 h9) (not1 h10) h11 h12) rfl
 | .whl c b,rz,k,X,s,C,bk,on,h=>by
  refine gWhile s h fun x xs ys p h=>?_;refine gNil ys h fun h=>?_;obtain⟨h1,h2⟩:=and2 (show (isE k c x&&isSs k rz b xs)=true from h);exact ds_while (never_passes C) (fun Xe=>(sE c rz Xe k X _ C on.1 h1).pt) (sSs b rz k X _ C bk on.2 h2)
 | .fr g it b,rz,k,X,s,C,bk,on,h=>by
  refine gFor s h fun tg iter xs ys p h=>?_;refine gNil ys h fun h=>?_;obtain⟨h,hcal⟩:=and2 (show (_&&k.cal)=true from h);obtain⟨h1,h3⟩:=and2 (show (_&&isSs k rz b xs)=true from h);obtain⟨h1,h2⟩:=and2 (show (isG k g tg&&isI k tg it iter)=true from h1);have si:=fun Xe=>sI it rz Xe k X tg _ C on.2.1 h2;exact ds_for (never_passes C) (C.calm hcal) (fun Xe=>(si Xe).pi) (fun Xe=>(sG g rz Xe k X _ C on.1 h1).pg) (sSs b rz k X _ C bk on.2.2 h3) ((si X0).set _)
 | .rse x es,rz,k,X,s,C,bk,on,h=>by
  refine gRaise s h fun v w p h=>?_;refine gSome v h fun v h=>?_;refine gCall v h fun f xs kw q h=>?_;refine gNm f h fun y q' h=>?_;refine gCons xs h fun a r h=>?_;refine gNil kw h fun h=>?_;refine gNone w h fun h=>?_;obtain⟨h,hcal⟩:=and2 (show (_&&k.cal)=true from h);obtain⟨h,h6⟩:=and2 (show (_&&isEs k es (a::r))=true from h);obtain⟨h,h5⟩:=and2 (show (_&&okName x)=true from h);obtain⟨h,h4⟩:=and2 (show (_&&k.gl x)=true from h);obtain⟨h,h3⟩:=and2 (show (_&&xPlain.contains x)=true from h);obtain⟨hz,h2⟩:=and2 (show (rz&&decide (x=y))=true from h);obtain rfl:=of_decide_eq_true h2;subst hz;obtain⟨Cc,hm,hc⟩:=glo_cls on.1;have s:=fun Xe=>sEs es true Xe k X _ C on.2 h6;exact ds_raise (C.room hcal) C.tab h3 hc hm (C.gl h4) (okName1 h5) (fun Xe=>(s Xe).pa) (((s X0).hd _ _ rfl).1.star _ _) (((s X0).hd _ _ rfl).2 _ _)
theorem sSs:∀ (c:CSs) (rz:Bool) (k:Ck) (X:Cx) (s:List Stmt),CtxOk X k->X.env.scope.kind=.function->onSs (FnAt X) (GloAt X) c->isSs k rz c s=true->PSs X s (liftS X rz (rSs c))
 | .nil,rz,k,X,s,C,bk,on,h=>by
  cases s with
  | nil=>exact dss_nil
  | cons _ _=>exact absurd h Bool.false_ne_true
 | .cons c r,rz,k,X,s,C,bk,on,h=>by
  cases s with
  | nil=>exact absurd h Bool.false_ne_true
  | cons x xs =>
   obtain⟨h1,h2⟩:=and2 (show (isS k rz c x&&isSs k rz r xs)=true from h);exact dss_cons (sS c rz k X _ C bk on.1 h1) (sSs r rz k X _ C bk on.2 h2)
end
section
variable (P:Program) (w:World) (K:Frag) (mg:Str->Option Value) (base:Heap)
structure FnE (k:Nat) (c x:Str) (S:DSp):Prop where
 ex:∃ f fd ps,FnOk P w K mg base (CXR P w) (k-ini c x) f fd ps (liftSp K S)/\ini c x<=k/\RefAt K mg c x f/\Binds K fd ps []
structure GloE (x:Str) (d:D):Prop where
 ex:∃ u v,mg x=some u/\RelV v u/\∀ H,RelD K H v d
end
noncomputable def startD (n:Nat) (ds:List D):DSt:=ds.map some++List.replicate (n-ds.length) none
theorem start_rep {K:Frag} {H:Hp} {N:List Str} {vs:List V} {ds:List D} (r:RelDs K H vs ds):Slots K H (startD N.length ds) (L2.start N vs):=by
 unfold startD L2.start;rw[<- r.length];refine Slots.more ⟨by simp[r.length],fun i d e=>?_⟩ _;rw[List.getElem?_map] at e;cases q:ds[i]? with
 | none=>rw [q] at e;cases e
 | some d' =>
  rw[q] at e;cases e;obtain⟨v,h1,h2⟩:=r.get q;exact⟨v,by rw[List.getElem?_map,h1];rfl,h2⟩
section
variable {P:Program} {w:World} {K:Frag} {mg:Str->Option Value} {base:Heap}
theorem FnE.mono (F:FnE P w K mg base j c x S) (h:j<=k):FnE P w K mg base k c x S:=by
 obtain⟨f,fd,ps,a,b,c,d⟩:=F.ex;exact⟨f,fd,ps,a.mono (Nat.sub_le_sub_right h _),Nat.le_trans b h,c,d⟩
theorem def_fn {x qu:Str} {st:Stmt} {f:Addr} {fd:FuncData} {N ps:List Str} {k:Nat} {S:DSp} (cs:CSs) (F:Fun K x qu st f fd) (hB:Blt mg) (tab:xTabB K=true) (Sc:FnScope N ps (defScope st))
  (ck:isSs ⟨N,defScope st,true,true⟩ true cs (defBody st)=true) (on:onSs (FnE P w K mg base k) (GloE K mg) cs)
  (len:∀ ds M R E,S ds M R E->ds.length=ps.length)
  (vc:∀ ds M R E,S ds M R E->rSs cs {nx:=fun _ M'=>R .non M',rt:=R,ex:=fun _=>E} (startD N.length ds) M):FnOk P w K mg base (CXR P w) (k+1) f fd ps (liftSp K S):=by
 obtain⟨oc,od,kV,doc,pm,an,cdv,ct,osl,rfl,lk,hcd⟩:=F.ex;refine fn_of lk hcd Sc (fun vs H Q E ⟨ds,M,R,Ed,r,_,h,_⟩=>by rw[r.length];exact len ds M R _ h) fun A outer s H vs Q E hr ⟨ds,M,R,Ed,r,rm,h,q,qe⟩=>?_;refine⟨liftS (cxOf (CXR P w) P w K mg base N qu (defScope st) f cdv A outer s H E) true (rSs cs),?_,?_⟩
 ·refine sSs cs true ⟨N,defScope st,true,true⟩ _ _ ⟨rfl,Sc.nd,fun x κ e _=>e,fun x e=>.inr e,fun _ _=>rfl,fun _=>rfl,fun _=>hr.mono (Nat.zero_le _),Nat.lt_of_le_of_lt (Nat.le_trans (Nat.add_le_add_left (by decide:66<=200) _) (Nat.add_le_add_right (Nat.le_add_right _ _) _)) hr.un,hB,PassesOwn.leaving,tab,fun _=>⟨rfl,rfl⟩⟩ Sc.kind ?_ ck
  exact onSs_mono cs (fun _ x S ⟨f',fd',ps',a,b,c,d⟩=>⟨k,f',fd',ps',a,b,fun _=>hr,c,d⟩) (fun x d ⟨u,v,a,b,c⟩=>⟨u,v,a,b,c⟩) on
 ·exact⟨startD N.length ds,M,{nx:=fun _ M'=>R .non M',rt:=R,ex:=fun _=>Ed},⟨start_rep r,xe_leave qe⟩,rm,vc ds M R Ed h,fun δ' M' σ' H' x _ m h'=>q _ _ _ _ x m .non h',fun d M' v H' x m rr h'=>q _ _ _ _ x m rr h',fun _ _ _ _ _ _ _ z=>z.elim,fun _ _ _ _ _ _ _ z=>z.elim⟩
theorem def_ok {x y:Str} {st:Stmt} {f:Addr} {fd:FuncData} {N ps:List Str} {k:Nat} {S:DSp} (cs:CSs) (F:Fun K x x st f fd) (hm:mg y=some (.ref f)) (hb:Binds K fd ps []) (hB:Blt mg) (tab:xTabB K=true) (Sc:FnScope N ps (defScope st))
  (ck:isSs ⟨N,defScope st,true,true⟩ true cs (defBody st)=true) (on:onSs (FnE P w K mg base k) (GloE K mg) cs)
  (len:∀ ds M R E,S ds M R E->ds.length=ps.length)
  (vc:∀ ds M R E,S ds M R E->rSs cs {nx:=fun _ M'=>R .non M',rt:=R,ex:=fun _=>E} (startD N.length ds) M):FnE P w K mg base (k+1) "" y S :=
 ⟨f,fd,ps,by rw[ini0];exact def_fn cs F hB tab Sc ck on len vc,by rw[ini0];exact Nat.zero_le _,⟨fun _=>⟨hm,F.kp⟩,fun z=>absurd rfl z⟩,hb⟩
theorem usS (h:us.length=n+1):∃ a r,us=a::r/\r.length=n:=by
 cases us with
 | nil=>exact absurd h (Nat.succ_ne_zero n).symm
 | cons a r=>exact⟨a,r,rfl,Nat.succ.inj h⟩
theorem us0 (h:us.length=0):us=[]:=by
 cases us with
 | nil=>rfl
 | cons a r=>exact absurd h (Nat.succ_ne_zero _)
theorem us1 (h:us.length=1):∃ a,us=[a]:=by
 obtain⟨a,r,rfl,g⟩:=usS h;obtain rfl:=us0 g;exact⟨a,rfl⟩
theorem us2 (h:us.length=2):∃ a b,us=[a,b]:=by
 obtain⟨a,r,rfl,g⟩:=usS h;obtain⟨b,rfl⟩:=us1 g;exact⟨a,b,rfl⟩
theorem us3 (h:us.length=3):∃ a b c,us=[a,b,c]:=by
 obtain⟨a,r,rfl,g⟩:=usS h;obtain⟨b,c,rfl⟩:=us2 g;exact⟨a,b,c,rfl⟩
theorem us4 (h:us.length=4):∃ a b c d,us=[a,b,c,d]:=by
 obtain⟨a,r,rfl,g⟩:=usS h;obtain⟨b,c,d,rfl⟩:=us3 g;exact⟨a,b,c,d,rfl⟩
theorem glo_of_fn (X:K.In h) (G:h.Ns mainGlobals mg) (e:PySem.W.nsIn K mainGlobals n=some (some (.ref C))):GloE K mg n (.fn n) :=
 ⟨.ref C,.ref C,PySem.W.mg_of X G e,rfl,fun _=>.fn e⟩
theorem glo_of_sd (X:K.In h) (G:h.Ns mainGlobals mg) (e:PySem.W.nsIn K mainGlobals n=some (some (.ref C))) (lo:(C==sysModules)=false) (lk:K.lookup C=some o) (ex:o.ExactDict) (hd:o.data=.dict es ep) (en:EntK es.toList xs us) (rv:Vals vs us) (r:∀ H,RelDs K H vs ds):GloE K mg n (.sd xs ds) :=
 ⟨.ref C,.ref C,PySem.W.mg_of X G e,rfl,fun H=>.sd ⟨lo,o,es,ep,us,lk,ex,hd,en,rv⟩ (r H)⟩
theorem glo_of_cls (X:K.In h) (G:h.Ns mainGlobals mg) (hn:n∈xNames) (e:PySem.W.nsIn K mainGlobals n=some (some (.ref C))):GloE K mg n (.cls n) :=
 ⟨.ref C,.ref C,PySem.W.mg_of X G e,rfl,fun _=>.cls hn e⟩
end
structure Script (ns:List Int):Prop where
 len:ns.length<=63
 bits:∀ n∈ns,Builtin.Int.intBits n<=1048576
noncomputable def SLaw:DSp:=fun ds M Q _=>∃ ns:List Int,ds=[.fz (ns.map .int)]/\Script ns/\∀ M',Q (.bl true) M'
theorem bits_of_layable:∀ {ns:List Int},PySem.W.WData.weightAll (ns.map PySem.W.WData.int)<=2 ^ 20->∀ n∈ns,Builtin.Int.intBits n<=1048576
 | n::r,h,m,hm=>by
  simp only[List.map_cons,PySem.W.WData.weightAll] at h;rcases List.mem_cons.mp hm with rfl|hm
  ·have e:Builtin.Int.intBits m=PySem.W.WData.weight (.int m):=by
    unfold Builtin.Int.intBits PySem.W.WData.weight
    rfl
   rw[e];omega
  ·exact bits_of_layable %[|5] m hm
theorem walkD {l:PySem.W.OpenLaw} {q:Program} {loose:List Str} {XP:(Str->Option Value)->Heap->Prop} {YP:World->Heap->Prop} {d:DefRec} {K:Params->Frag} {x:Str} {k:Nat} (hn:l.most=some 63) (hdf:d.params.defaults=[])
  (hr:Room k callerA) (hY:∀ (w:World) (h:Heap),YP w h->(K w.params).In h)
  (F:∀ (w:World) (mg:Str->Option Value) (fa:Addr) (h:Heap),(K w.params).In h->h.Ns mainGlobals mg->mg d.name=some (.ref fa) ->
   ∃ fd:FuncData,(∀ (s:Shared) (u:Value),BindsTo s fd ⟨[u],[]⟩ [(x,u)])/\∀ base:Heap,(K w.params).In base->base.Ns mainGlobals mg->FnOk l.prog w (K w.params) mg base (CXR l.prog w) k fa fd [x] (liftSp (K w.params) SLaw)) :
  PySem.W.WalkO q loose XP YP l.row.toRowW d [] (fun f vs=>PySem.call f vs):=by
 intro w s₀ s₁ mg mb G Y fa o pm cd doc dV kV ho hd hcd hD hmg hg args vals as hpre hlay hrd hwl hlo;obtain rfl:dV=.none:=PySem.W.Dflts.none hD hdf;obtain rfl:kV=.none:=PySem.W.Dflts.noKw hD;obtain⟨a,vs,ns,rfl,rfl,hobj,hints,hlen⟩:=Att.script_of hn hpre hwl;have KX:=hY w _ Y;obtain⟨fd,hb,hF⟩:=F w mg fa _ KX G.T.g hmg;have hbits:∀ n∈ns,Builtin.Int.intBits n<=1048576:=by
  refine bits_of_layable ?_;simp only[PySem.W.WData.layableAll,List.all_cons,List.all_nil,Bool.and_true,PySem.W.WData.layable,Bool.and_eq_true,decide_eq_true_eq] at hlay;exact hlay.2
 refine PySem.W.enter_call (codeAny_mono (law_call KX G.T.g G.T.b G.T.builtins G.T.nolimit hg hobj hints (Nat.le_trans hlen %[|4]) hr hF hb (fun H hO hS=>?_) fun H e s' ⟨_,_,_,_,_,_,z⟩=>z) fun r s' hq=>?_)
 ·have hf:SqF (K w.params) H a (ns.map V.int):=by
   rcases hS with (hS|⟨o,hS⟩)|hS
   ·rcases hO a with z|⟨o,xs,z⟩<;>rw[hS] at z<;>cases z
   ·exact .inl ⟨o,hS⟩
   ·exact .inr hS
  exact⟨[.fz (ns.map .int)],fun _=>none,fun d _=>d=.bl true,fun _ _=>False,.cons (.fz hf (.ints ns)) .nil,.nil,⟨ns,rfl,⟨hlen,hbits⟩,fun _=>rfl⟩,fun d' M' v H' _ _ r h=>by subst h;(first|cases (show _=_ from r.inv)|cases r);rfl,fun _ _ _ _ _ _ _ _ _ _ _ z=>z.elim⟩
 ·obtain⟨rfl,h2,h3,h4⟩:=hq
  exact⟨.inl ⟨.bool true,.bool true,[],rfl,fun _=>rfl,.bool true,Att.post_true l _,fun _=>⟨List.Pairwise.nil,fun _ hm=>(nomatch hm)⟩⟩,h2,h3,h4⟩
structure DefIs (s:Stmt) (N:List Str) (n:Nat) (C:CSs) (S:DSp):Prop where
 sc:FnScope N (N.take n) (defScope s)
 ck:isSs ⟨N,defScope s,true,true⟩ true C (defBody s)=true
 len:∀ ds M R E,S ds M R E->ds.length=(N.take n).length
 vc:∀ ds M R E,S ds M R E->rSs C {nx:=fun _ M'=>R .non M',rt:=R,ex:=fun _=>E} (startD N.length ds) M
 bd:∀ (q:Str) (kV doc pm:Value) (an:Option Addr) (cdv ct:Value) (us:List Value),us.length=(N.take n).length->bindArgs (PySem.W.fnOf q q (defArgs s) (defBody s) (defScope s) .none kV doc pm an cdv ct) ⟨us,[]⟩=pure ((N.take n).zip us)
inductive Has (K:Frag) (q:Str) (s:Stmt):Prop
 | mk {f:Addr} {oc:Value} {od an:Option Addr} {sl:Array (Option Value)} {kV dc pm cd ct:Value} (a:PySem.W.nsIn K mainGlobals q=some (some (.ref f))) (l:K.lookup f=some ⟨oc,od,.func (PySem.W.fnOf q q (defArgs s) (defBody s) (defScope s) .none kV dc pm an cd ct),sl⟩) (c:PySem.W.codeIn K cd q=true) (k:PySem.W.keepIn K (.ref f)=true):Has K q s
theorem glo_of_has {K:Frag} {h:Heap} {mg:Str->Option Value} {q:Str} {s:Stmt} (X:K.In h) (G:h.Ns mainGlobals mg) (H:Has K q s):GloE K mg q (.fn q):=by
 obtain⟨a,_,_,_⟩:=H;exact glo_of_fn X G a
structure Zc (P:Program) (w:World) (K:Frag) (h:Heap) (mg:Str->Option Value) (base:Heap):Prop where
 X:K.In h
 G:h.Ns mainGlobals mg
 B:Blt mg
 tab:xTabB K=true
theorem DefIs.ok {P:Program} {w:World} {K:Frag} {h:Heap} {mg:Str->Option Value} {base:Heap} {s:Stmt} {N:List Str} {n:Nat} {C:CSs} {S:DSp} {q:Str} (k:Nat) (D:DefIs s N n C S) (H:Has K q s) (Z:Zc P w K h mg base) (on:onSs (FnE P w K mg base k) (GloE K mg) C):FnE P w K mg base (k+1) "" q S:=by
 obtain⟨a,l,c,kp⟩:=H;exact def_ok C (fun_mk l c kp) (PySem.W.mg_of Z.X Z.G a) ((fun_mk (st:=s) l c kp).binds (D.bd q)) Z.B Z.tab D.sc D.ck on D.len D.vc
inductive HasA (K:Frag) (q x:Str) (s:Stmt):Prop
 | mk {f:Addr} {oc:Value} {od an:Option Addr} {sl:Array (Option Value)} {kV dc pm cd ct:Value} (a:PySem.W.nsIn K mainGlobals q=some (some (.ref f))) (l:K.lookup f=some ⟨oc,od,.func (PySem.W.fnOf x x (defArgs s) (defBody s) (defScope s) .none kV dc pm an cd ct),sl⟩) (c:PySem.W.codeIn K cd x=true) (k:PySem.W.keepIn K (.ref f)=true):HasA K q x s
theorem DefIs.okA {P:Program} {w:World} {K:Frag} {h:Heap} {mg:Str->Option Value} {base:Heap} {s:Stmt} {N:List Str} {n:Nat} {C:CSs} {S:DSp} {q x:Str} (k:Nat) (D:DefIs s N n C S) (H:HasA K q x s) (Z:Zc P w K h mg base) (on:onSs (FnE P w K mg base k) (GloE K mg) C):FnE P w K mg base (k+1) "" q S:=by
 obtain⟨a,l,c,kp⟩:=H;exact def_ok C (fun_mk l c kp) (PySem.W.mg_of Z.X Z.G a) ((fun_mk (st:=s) l c kp).binds (D.bd x)) Z.B Z.tab D.sc D.ck on D.len D.vc
end DL
end
noncomputable section
namespace Q
theorem gcd_pos' {a b:Int} (h:b≠0):0<Int.gcd a b:=Int.gcd_pos_of_ne_zero_right _ h
theorem lowest (a b:Int) (h:b≠0):a.fdiv (if b<0 then -(Int.gcd a b:Int) else Int.gcd a b)=(Rat.divInt a b).num/\b.fdiv (if b<0 then -(Int.gcd a b:Int) else Int.gcd a b)=((Rat.divInt a b).den:Int):=by
 have hg:=gcd_pos' (a:=a) h;obtain⟨x,hx⟩:(Int.gcd a b:Int) ∣ a:=Int.gcd_dvd_left ..;obtain⟨y,hy⟩:(Int.gcd a b:Int) ∣ b:=Int.gcd_dvd_right ..;have gc:Int.gcd b a=Int.gcd a b:=Int.gcd_comm b a;rw[Rat.num_divInt,Rat.den_divInt,if_neg h,gc];generalize hgg:Int.gcd a b=g at *;have g0:(g:Int)≠0:=by omega
 have hy0:y≠0:=fun z=>h (by rw[hy,z,Int.mul_zero]);by_cases hb:b<0
 ·rw[if_pos hb]
  have yneg:y<0:=by
   rcases Int.lt_trichotomy y 0 with z|z|z
   ·exact z
   ·exact absurd z hy0
   ·have:=Int.mul_pos (by omega:(0:Int)<g) z;omega
  have sb:b.sign=-1:=Int.sign_eq_neg_one_of_neg hb;have e1:a=(-(g:Int))*(-x):=by rw[Int.neg_mul_neg];exact hx
  have e2:b=(-(g:Int))*(-y):=by rw[Int.neg_mul_neg];exact hy
  have n0:(-(g:Int))≠0:=by omega
  constructor
  ·conv=>lhs;rw[e1]
   rw[Int.mul_fdiv_cancel_left _ n0,sb];have:(-1*a)=(g:Int)*(-x):=by rw[hx,Int.mul_neg];omega
   rw[this,Int.mul_ediv_cancel_left _ g0]
  ·conv=>lhs;rw[e2]
   rw[Int.mul_fdiv_cancel_left _ n0];have e3:b.natAbs=g*(-y).natAbs:=by rw[hy,Int.natAbs_mul];simp
   rw[e3,Nat.mul_div_cancel_left _ hg];omega
 ·rw[if_neg hb]
  have ypos:0<y:=by
   rcases Int.lt_trichotomy y 0 with z|z|z
   ·have:=Int.mul_neg_of_pos_of_neg (by omega:(0:Int)<g) z;omega
   ·exact absurd z hy0
   ·exact z
  have sb:b.sign=1:=Int.sign_eq_one_of_pos %[|5];constructor
  ·conv=>lhs;rw[hx]
   rw[Int.mul_fdiv_cancel_left _ g0,sb,Int.one_mul]
   conv=>rhs;rw[hx]
   rw[Int.mul_ediv_cancel_left _ g0]
  ·conv=>lhs;rw[hy]
   rw[Int.mul_fdiv_cancel_left _ g0];have e3:b.natAbs=g*y.natAbs:=by rw[hy,Int.natAbs_mul];simp
   rw[e3,Nat.mul_div_cancel_left _ hg];omega
theorem divInt_lowest (q:Rat):Rat.divInt q.num q.den=q:=Rat.num_divInt_den q
theorem gcd_self (q:Rat):Int.gcd q.num q.den=1:=q.reduced
theorem den_pos (q:Rat):(0:Int)<q.den:=by have:=q.den_nz;omega
theorem of_gcd {a b:Int} (hb:1<=b) (hg:Int.gcd a b=1):(Rat.divInt a b).num=a/\((Rat.divInt a b).den:Int)=b:=by
 have gc:Int.gcd b a=1:=by rw[Int.gcd_comm];exact hg
 rw[Rat.num_divInt,Rat.den_divInt,if_neg %[|5],gc,Int.sign_eq_one_of_pos %[|5]];simp;omega
theorem add_eq (p q:Rat):Rat.divInt (p.num*q.den+q.num*p.den) (p.den*q.den)=p+q:=by
 rw[<- Rat.divInt_add_divInt _ _ (by have:=p.den_nz;omega) (by have:=q.den_nz;omega),divInt_lowest,divInt_lowest]
theorem sub_eq (p q:Rat):Rat.divInt (p.num*q.den-q.num*p.den) (p.den*q.den)=p-q:=by
 rw[<- Rat.divInt_sub_divInt _ _ (by have:=p.den_nz;omega) (by have:=q.den_nz;omega),divInt_lowest,divInt_lowest]
theorem mul_eq (p q:Rat):Rat.divInt (p.num*q.num) (p.den*q.den)=p*q:=by
 rw[<- Rat.divInt_mul_divInt,divInt_lowest,divInt_lowest]
theorem div_eq (p q:Rat):Rat.divInt (p.num*q.den) (p.den*q.num)=p / q:=by
 rw[Rat.div_def,Rat.inv_def,<- Rat.divInt_mul_divInt,divInt_lowest]
theorem lt_eq (p q:Rat):p.num*q.den<q.num*p.den ↔ p<q:=(Rat.lt_iff p q).symm
noncomputable def Sz (n:Nat) (q:Rat):Prop:=q.num.natAbs<2 ^ n/\q.den<2 ^ n
theorem Sz.mono {m n:Nat} {q:Rat} (h:Sz m q) (k:m<=n):Sz n q:=⟨Nat.lt_of_lt_of_le h.1 (Nat.pow_le_pow_right %[|4] k),Nat.lt_of_lt_of_le h.2 (Nat.pow_le_pow_right %[|4] k)⟩
theorem divInt_le (a b:Int) (h:b≠0):(Rat.divInt a b).num.natAbs<=a.natAbs/\(Rat.divInt a b).den<=b.natAbs:=by
 rw[Rat.num_divInt,Rat.den_divInt,if_neg h];constructor
 ·have:(b.sign*a).natAbs<=a.natAbs:=by
   rw[Int.natAbs_mul];have:b.sign.natAbs<=1:=by rcases Int.lt_trichotomy b 0 with z|z|z<;>simp[Int.sign_eq_neg_one_of_neg,Int.sign_eq_one_of_pos,z]
   exact Nat.le_trans (Nat.mul_le_mul_right _ this) (by simp)
  exact Nat.le_trans (Int.natAbs_ediv_le_natAbs _ _) this
 ·exact Nat.div_le_self _ _
theorem sz_divInt {a b:Int} {n:Nat} (h:b≠0) (ha:a.natAbs<2 ^ n) (hb:b.natAbs<2 ^ n):Sz n (Rat.divInt a b) :=
 ⟨Nat.lt_of_le_of_lt (divInt_le a b h).1 ha,Nat.lt_of_le_of_lt (divInt_le a b h).2 hb⟩
theorem mul_lt_pow {a b m n:Nat} (ha:a<2 ^ m) (hb:b<2 ^ n):a*b<2 ^ (m+n):=by
 rw[Nat.pow_add];exact Nat.mul_lt_mul'' ha hb
theorem abs_mul {a b:Int} {m n:Nat} (ha:a.natAbs<2 ^ m) (hb:b.natAbs<2 ^ n):(a*b).natAbs<2 ^ (m+n):=by
 rw[Int.natAbs_mul];exact mul_lt_pow ha hb
theorem abs_add {a b:Int} {n:Nat} (ha:a.natAbs<2 ^ n) (hb:b.natAbs<2 ^ n):(a+b).natAbs<2 ^ (n+1):=by
 have:=Int.natAbs_add_le a b;rw[Nat.pow_succ];omega
theorem abs_sub {a b:Int} {n:Nat} (ha:a.natAbs<2 ^ n) (hb:b.natAbs<2 ^ n):(a-b).natAbs<2 ^ (n+1):=by
 have:=Int.natAbs_sub_le a b;rw[Nat.pow_succ];omega
theorem den_abs {n:Nat} {q:Rat} (h:Sz n q):(q.den:Int).natAbs<2 ^ n:=by simpa using h.2
theorem den_ne (p q:Rat):(p.den:Int)*q.den≠0:=by
 have:=den_pos p;have:=den_pos q;exact Int.ne_of_gt (Int.mul_pos %[|5] %[|5])
theorem Sz.add {m n:Nat} {p q:Rat} (hp:Sz m p) (hq:Sz n q):Sz (m+n+1) (p+q):=by
 rw[<- add_eq];refine sz_divInt (den_ne p q) (abs_add (abs_mul hp.1 (den_abs hq)) ?_) (Nat.lt_of_lt_of_le (abs_mul (den_abs hp) (den_abs hq)) (Nat.pow_le_pow_right %[|4] %[|5]));rw[Nat.add_comm];exact abs_mul hq.1 (den_abs hp)
theorem Sz.sub {m n:Nat} {p q:Rat} (hp:Sz m p) (hq:Sz n q):Sz (m+n+1) (p-q):=by
 rw[<- sub_eq];refine sz_divInt (den_ne p q) (abs_sub (abs_mul hp.1 (den_abs hq)) ?_) (Nat.lt_of_lt_of_le (abs_mul (den_abs hp) (den_abs hq)) (Nat.pow_le_pow_right %[|4] %[|5]));rw[Nat.add_comm];exact abs_mul hq.1 (den_abs hp)
theorem Sz.mul {m n:Nat} {p q:Rat} (hp:Sz m p) (hq:Sz n q):Sz (m+n) (p*q):=by
 rw[<- mul_eq];exact sz_divInt (den_ne p q) (abs_mul hp.1 hq.1) (abs_mul (den_abs hp) (den_abs hq))
theorem num_ne {q:Rat} (h:q≠0):q.num≠0:=fun z=>h (Rat.num_eq_zero.mp z)
theorem Sz.div {m n:Nat} {p q:Rat} (hp:Sz m p) (hq:Sz n q) (h:q≠0):Sz (m+n) (p / q):=by
 rw[<- div_eq];have:=den_pos p;exact sz_divInt (Int.mul_ne_zero %[|5] (num_ne h)) (abs_mul hp.1 (den_abs hq)) (abs_mul (den_abs hp) hq.1)
theorem Sz.int {n:Nat} {i:Int} (h:i.natAbs<2 ^ n) (h1:1<=n):Sz n (i:Rat):=⟨by simpa using h,by
 show (1:Nat) < _;exact Nat.one_lt_two_pow %[|5]⟩
end Q
end
noncomputable section
namespace Q
theorem rises (d:Nat->Rat) (n:Nat) (h:∀ k,0<k->k<n->0<d k->d k-d (k-1)<=d (k+1)-d k):∀ m i,n-i=m->0<i->i<=n->0<d i->0<d i-d (i-1)->0<d n:=by
 intro m
 induction m with
 | zero =>
  intro i e h0 h1 h2 _;have:i=n:=by omega
  subst this;exact h2
 | succ m ih =>
  intro i e h0 h1 h2 h3;have hi:i<n:=by omega
  have:=h i h0 hi h2;refine ih (i+1) %[|5] %[|5] %[|5] (by grind) ?_;rw[Nat.add_sub_cancel];grind
theorem climbs (d:Nat->Rat) (h0:d 0<=0):∀ k,0<d k->∃ i,0<i/\i<=k/\0<d i/\0<d i-d (i-1):=by
 intro k
 induction k with
 | zero=>intro h;grind
 | succ k ih =>
  intro h;by_cases hk:0<d k
  ·obtain⟨i,a,b,c,e⟩:=ih hk
   exact⟨i,a,by omega,c,e⟩
  ·exact⟨k+1,by omega,by omega,h,by rw[Nat.add_sub_cancel];grind⟩
theorem maxp (d:Nat->Rat) (n:Nat) (h0:d 0<=0) (hn:d n<=0) (h:∀ k,0<k->k<n->0<d k->d k-d (k-1)<=d (k+1)-d k):∀ k,k<=n->d k<=0:=by
 intro k hk;by_cases hd:0<d k
 ·obtain⟨i,a,b,c,e⟩:=climbs d h0 k hd
  have:=rises d n h (n-i) i rfl a %[|5] c e;grind
 ·grind
structure Taut (lo hi r:Nat->Rat) (n:Nat):Prop where
 low:∀ k,k<=n->lo k<=r k
 high:∀ k,k<=n->r k<=hi k
 up:∀ k,0<k->k<n->r k-r (k-1)<r (k+1)-r k->r k=hi k
 down:∀ k,0<k->k<n->r (k+1)-r k<r k-r (k-1)->r k=lo k
theorem Taut.le {lo hi r lo' hi' r':Nat->Rat} {n:Nat} (a:Taut lo hi r n) (b:Taut lo' hi' r' n) (hl:∀ k,k<=n->lo k<=lo' k) (hh:∀ k,k<=n->hi k<=hi' k) (h0:r 0<=r' 0) (hn:r n<=r' n):∀ k,k<=n->r k<=r' k:=by
 intro k hk;have:=maxp (fun k=>r k-r' k) n (by grind) (by grind) (fun k k0 kn hd=>?_) k hk
 ·grind
 ·have l1:=hl k %[|5];have l2:=hh k %[|5];have l3:=b.low k %[|5];have l4:=a.high k %[|5];have l5:=a.low k %[|5];have l6:=b.high k %[|5]
  have u:=b.up k k0 kn;have d:=a.down k k0 kn;by_cases h1:r (k+1)-r k<r k-r (k-1)
  ·have:=d h1;grind
  ·by_cases h2:r' k-r' (k-1)<r' (k+1)-r' k
   ·have:=u h2;grind
   ·grind
theorem Taut.unique {lo hi r r':Nat->Rat} {n:Nat} (a:Taut lo hi r n) (b:Taut lo hi r' n) (h0:r 0=r' 0) (hn:r n=r' n):∀ k,k<=n->r k=r' k:=by
 intro k hk;have x:=a.le b (fun _ _=>by grind) (fun _ _=>by grind) (by grind) (by grind) k hk;have y:=b.le a (fun _ _=>by grind) (fun _ _=>by grind) (by grind) (by grind) k hk;grind
noncomputable def line (b:Nat) (h s:Rat) (t:Nat):Rat:=h+s*((t:Rat)-(b:Rat))
structure Free (lo hi:Nat->Rat) (b:Nat) (h s:Rat) (e:Nat):Prop where
 low:∀ t,b<t->t<e->lo t<=line b h s t
 high:∀ t,b<t->t<e->line b h s t<=hi t
inductive Seg (lo hi:Nat->Rat) (n b:Nat) (h s:Rat) (p:Nat):Prop
 | up (at_:Nat) (hb:b<p) (hp:p<at_) (hn:at_<=n) (f:Free lo hi b h s at_) (t:line b h s p=hi p) (g:∀ t,p<t->t<at_->line b h s t<hi t) (z:line b h s at_<lo at_)
 | down (at_:Nat) (hb:b<p) (hp:p<at_) (hn:at_<=n) (f:Free lo hi b h s at_) (t:line b h s p=lo p) (g:∀ t,p<t->t<at_->lo t<line b h s t) (z:hi at_<line b h s at_)
 | fin (hb:b<p) (hp:p=n) (f:Free lo hi b h s (n+1))
theorem line_line (b:Nat) (h s:Rat) (p t:Nat):line p (line b h s p) s t=line b h s t:=by unfold line;grind
theorem line_lt {b:Nat} {h s s':Rat} {t:Nat} (hb:b<t) (hl:line b h s t<line b h s' t):s<s':=by
 unfold line at hl;have hp:(0:Rat)<(t:Rat)-(b:Rat):=by
  have:(b:Rat)<(t:Rat):=by exact_mod_cast hb
  grind
 have h1:s*((t:Rat)-b)<s'*((t:Rat)-b):=by grind
 apply Decidable.byContradiction;intro hn;have:s'<=s:=by grind
 have:=Rat.mul_le_mul_of_nonneg_right this (Rat.le_of_lt hp);grind
theorem Seg.after_up {lo hi:Nat->Rat} {n b:Nat} {h s:Rat} {p at_ q:Nat} {s':Rat} (ok:∀ t,t<=n->lo t<=hi t) (hp:p<at_) (hn:at_<=n) (f:Free lo hi b h s at_) (hb:b<p)
  (g:∀ t,p<t->t<at_->line b h s t<hi t) (z:line b h s at_<lo at_) (S:Seg lo hi n p (line b h s p) s' q):s<s':=by
 have key:∀ t,p<t->line b h s t<line p (line b h s p) s' t->s<s':=fun t ht hl=>by
  rw[<- line_line b h s p t] at hl;exact line_lt ht hl
 cases S with
 | up a2 h1 h2 h3 f2 t2 g2 z2 =>
  by_cases hq:q<at_
  ·exact key q h1 (by rw[t2];exact g q h1 hq)
  ·have:=f2.low at_ hp %[|5]
   exact key at_ hp (by grind)
 | down a2 h1 h2 h3 f2 t2 g2 z2 =>
  by_cases ha:a2<at_
  ·have:=g a2 %[|5] ha
   exact key a2 %[|5] (by grind)
  ·by_cases he:at_<a2
   ·have:=f2.low at_ hp he
    exact key at_ hp (by grind)
   ·have e:at_=a2:=by omega
    subst e;have:=ok at_ hn;exact key at_ hp (by grind)
 | fin h1 h2 f2 =>
  have:=f2.low at_ hp %[|5];exact key at_ hp (by grind)
theorem Seg.after_down {lo hi:Nat->Rat} {n b:Nat} {h s:Rat} {p at_ q:Nat} {s':Rat} (ok:∀ t,t<=n->lo t<=hi t) (hp:p<at_) (hn:at_<=n) (f:Free lo hi b h s at_) (hb:b<p)
  (g:∀ t,p<t->t<at_->lo t<line b h s t) (z:hi at_<line b h s at_) (S:Seg lo hi n p (line b h s p) s' q):s'<s:=by
 have key:∀ t,p<t->line p (line b h s p) s' t<line b h s t->s'<s:=fun t ht hl=>by
  rw[<- line_line b h s p t] at hl;exact line_lt ht hl
 cases S with
 | up a2 h1 h2 h3 f2 t2 g2 z2 =>
  by_cases ha:a2<at_
  ·have:=g a2 %[|5] ha
   exact key a2 %[|5] (by grind)
  ·by_cases he:at_<a2
   ·have:=f2.high at_ hp he
    exact key at_ hp (by grind)
   ·have e:at_=a2:=by omega
    subst e;have:=ok at_ hn;exact key at_ hp (by grind)
 | down a2 h1 h2 h3 f2 t2 g2 z2 =>
  by_cases hq:q<at_
  ·exact key q h1 (by rw[t2];exact g q h1 hq)
  ·have:=f2.high at_ hp %[|5]
   exact key at_ hp (by grind)
 | fin h1 h2 f2 =>
  have:=f2.high at_ hp %[|5];exact key at_ hp (by grind)
structure Drawn (lo hi r:Nat->Rat) (n b:Nat):Prop where
 le:b<=n
 low:∀ k,k<=b->lo k<=r k
 high:∀ k,k<=b->r k<=hi k
 up:∀ k,0<k->k<b->r k-r (k-1)<r (k+1)-r k->r k=hi k
 down:∀ k,0<k->k<b->r (k+1)-r k<r k-r (k-1)->r k=lo k
 pend:b=0\/b=n\/∃ a h s,a<b/\r b-r (b-1)=s/\r b=line a h s b/\Seg lo hi n a h s b
theorem line_step (b:Nat) (h s:Rat) (t:Nat) (ht:0<t):line b h s t-line b h s (t-1)=s:=by
 unfold line;have:((t-1:Nat):Rat)=(t:Rat)-1:=by
  obtain⟨k,rfl⟩:∃ k,t=k+1:=⟨t-1,by omega⟩;rw[Nat.add_sub_cancel];have:((k+1:Nat):Rat)=(k:Rat)+1:=by push_cast;rfl
  grind
 grind
theorem line_at (b:Nat) (h s:Rat):line b h s b=h:=by unfold line;grind
theorem Drawn.next {lo hi r:Nat->Rat} {n b:Nat} (D:Drawn lo hi r n b) (hb:b<n) (ok:∀ t,t<=n->lo t<=hi t) (tie:lo n=hi n) {s:Rat} {p:Nat} (S:Seg lo hi n b (r b) s p) (hr:∀ t,b<t->t<=p->r t=line b (r b) s t):Drawn lo hi r n p:=by
 have hbp:b<p/\p<=n:=by cases S<;>omega
 have bnd:∀ t,b<t->t<=p->lo t<=line b (r b) s t/\line b (r b) s t<=hi t:=fun t h1 h2=>by
  cases S with
  | up a _ h4 _ f=>exact⟨f.low t h1 %[|5],f.high t h1 %[|5]⟩
  | down a _ h4 _ f=>exact⟨f.low t h1 %[|5],f.high t h1 %[|5]⟩
  | fin _ h4 f=>exact⟨f.low t h1 %[|5],f.high t h1 %[|5]⟩
 have st:∀ t,b<t->t<=p->r t-r (t-1)=s:=fun t h1 h2=>by
  rw[hr t h1 h2];by_cases h3:b<t-1
  ·rw[hr (t-1) h3 %[|5]];exact line_step _ _ _ _ %[|5]
  ·have e:t-1=b:=by omega
   rw[e];have:=line_step b (r b) s t %[|5];rw[e,line_at] at this;exact this
 have atb:0<b->(r b-r (b-1)<s->r b=hi b)/\(s<r b-r (b-1)->r b=lo b):=fun h0=>by
  rcases D.pend with z|z|⟨a,h,s0,ha,e1,e2,S0⟩
  ·omega
  ·omega
  ·rw[e2] at S
   cases S0 with
   | up x h1 h2 h3 f t g zz =>
    have:=Seg.after_up ok h2 h3 f h1 g zz S;exact⟨fun _=>by rw[e2];exact t,fun z=>by grind⟩
   | down x h1 h2 h3 f t g zz =>
    have:=Seg.after_down ok h2 h3 f h1 g zz S;exact⟨fun z=>by grind,fun _=>by rw[e2];exact t⟩
   | fin h1 h2 f=>omega
 refine⟨hbp.2,fun k hk=>?_,fun k hk=>?_,fun k k0 kp z=>?_,fun k k0 kp z=>?_,?_⟩
 ·by_cases h:k<=b
  ·exact D.low k h
  ·rw[hr k %[|5] hk];exact (bnd k %[|5] hk).1
 ·by_cases h:k<=b
  ·exact D.high k h
  ·rw[hr k %[|5] hk];exact (bnd k %[|5] hk).2
 ·by_cases h:k<b
  ·exact D.up k k0 h z
  ·have n1:=st (k+1) %[|5] %[|5]
   rw[Nat.add_sub_cancel] at n1;by_cases h2:k=b
   ·subst h2;exact (atb k0).1 (by grind)
   ·have n2:=st k %[|5] %[|5]
    grind
 ·by_cases h:k<b
  ·exact D.down k k0 h z
  ·have n1:=st (k+1) %[|5] %[|5]
   rw[Nat.add_sub_cancel] at n1;by_cases h2:k=b
   ·subst h2;exact (atb k0).2 (by grind)
   ·have n2:=st k %[|5] %[|5]
    grind
 ·by_cases hpn:p=n
  ·exact .inr (.inl hpn)
  ·exact .inr (.inr ⟨b,r b,s,hbp.1,st p hbp.1 %[|3],hr p hbp.1 %[|3],S⟩)
theorem Drawn.start {lo hi r:Nat->Rat} {n:Nat} (h:lo 0<=r 0) (h':r 0<=hi 0):Drawn lo hi r n 0:=by
 refine⟨Nat.zero_le _,fun k hk=>?_,fun k hk=>?_,fun k a b=>by omega,fun k a b=>by omega,.inl rfl⟩
 ·obtain rfl:k=0:=by omega
  exact h
 ·obtain rfl:k=0:=by omega
  exact h'
theorem Drawn.congr {lo hi r r':Nat->Rat} {n b:Nat} (D:Drawn lo hi r n b) (h:∀ k,k<=b->r k=r' k):Drawn lo hi r' n b:=by
 refine⟨D.le,fun k hk=>by rw[<- h k hk];exact D.low k hk,fun k hk=>by rw[<- h k hk];exact D.high k hk,fun k k0 kb z=>?_,fun k k0 kb z=>?_,?_⟩
 ·rw[<- h k %[|5]];rw[<- h k %[|5],<- h (k-1) %[|5],<- h (k+1) %[|5]] at z;exact D.up k k0 kb z
 ·rw[<- h k %[|5]];rw[<- h k %[|5],<- h (k-1) %[|5],<- h (k+1) %[|5]] at z;exact D.down k k0 kb z
 ·rcases D.pend with z|z|⟨a,hh,s,h1,h2,h3,h4⟩
  ·exact .inl z
  ·exact .inr (.inl z)
  ·exact .inr (.inr ⟨a,hh,s,h1,by rw[<- h b %[|5],<- h (b-1) %[|5]];exact h2,by rw[<- h b %[|5]];exact h3,h4⟩)
theorem Drawn.taut {lo hi r:Nat->Rat} {n:Nat} (D:Drawn lo hi r n n):Taut lo hi r n:=⟨D.low,D.high,D.up,D.down⟩
noncomputable def slope (b:Nat) (h:Rat) (t:Nat) (x:Rat):Rat:=(x-h) / ((t:Rat)-(b:Rat))
theorem gap_pos {b t:Nat} (hb:b<t):(0:Rat)<(t:Rat)-(b:Rat):=by
 have:(b:Rat)<(t:Rat):=by exact_mod_cast hb
 grind
theorem line_slope {b t:Nat} (h x:Rat) (hb:b<t):line b h (slope b h t x) t=x:=by
 have:=gap_pos hb;unfold line slope;grind
theorem line_le_iff {b t:Nat} {h s s':Rat} (hb:b<t):line b h s t<=line b h s' t ↔ s<=s':=by
 constructor
 ·intro q
  apply Decidable.byContradiction;intro hn;have h1:s'<s:=by grind
  have h2:=Rat.mul_lt_mul_of_pos_right h1 (gap_pos hb);unfold line at q;grind
 ·intro q
  have h2:=Rat.mul_le_mul_of_nonneg_right q (Rat.le_of_lt (gap_pos hb));unfold line;grind
theorem line_lt_iff {b t:Nat} {h s s':Rat} (hb:b<t):line b h s t<line b h s' t ↔ s<s':=by
 have:=line_le_iff (h:=h) (s:=s') (s':=s) hb;grind
theorem slope_le {b t:Nat} {h s x:Rat} (hb:b<t):slope b h t x<=s ↔ x<=line b h s t:=by
 rw[<- line_le_iff (h:=h) hb,line_slope h x hb]
theorem lt_slope {b t:Nat} {h s x:Rat} (hb:b<t):s<slope b h t x ↔ line b h s t<x:=by
 rw[<- line_lt_iff (h:=h) hb,line_slope h x hb]
theorem slope_lt {b t:Nat} {h s x:Rat} (hb:b<t):slope b h t x<s ↔ x<line b h s t:=by
 rw[<- line_lt_iff (h:=h) hb,line_slope h x hb]
structure Scan (lo hi:Nat->Rat) (b:Nat) (h:Rat) (la ha:Nat) (SL FH:Rat) (e:Nat):Prop where
 la0:b<la
 la1:la<e
 laE:SL=slope b h la (lo la)
 lo_le:∀ t,b<t->t<e->lo t<=line b h SL t
 lo_lt:∀ t,la<t->t<e->lo t<line b h SL t
 ha0:b<ha
 ha1:ha<e
 haE:FH=slope b h ha (hi ha)
 hi_le:∀ t,b<t->t<e->line b h FH t<=hi t
 hi_lt:∀ t,ha<t->t<e->line b h FH t<hi t
 le:SL<=FH
theorem line_mono {b t:Nat} {h s s':Rat} (hb:b<t) (q:s<=s'):line b h s t<=line b h s' t:=(line_le_iff hb).mpr q
theorem Scan.first {lo hi:Nat->Rat} {b:Nat} {h:Rat} (ok:lo (b+1)<=hi (b+1)):Scan lo hi b h (b+1) (b+1) (slope b h (b+1) (lo (b+1))) (slope b h (b+1) (hi (b+1))) (b+2):=by
 have one:∀ t,b<t->t<b+2->t=b+1:=fun t a c=>by omega
 have hb:b<b+1:=by omega
 refine⟨hb,by omega,rfl,fun t a c=>?_,fun t a c=>by omega,hb,by omega,rfl,fun t a c=>?_,fun t a c=>by omega,?_⟩
 ·rw[one t a c,line_slope _ _ hb];grind
 ·rw[one t a c,line_slope _ _ hb];grind
 ·rw[slope_le hb,line_slope _ _ hb];exact ok
theorem Scan.up {lo hi:Nat->Rat} {b la ha e n:Nat} {h SL FH:Rat} (S:Scan lo hi b h la ha SL FH e) (he:e<=n) (hz:FH<slope b h e (lo e)):Seg lo hi n b h FH ha:=by
 have hbe:b<e:=Nat.lt_trans S.ha0 S.ha1;refine .up e S.ha0 S.ha1 he ⟨fun t a c=>?_,S.hi_le⟩ (by rw[S.haE,line_slope _ _ S.ha0]) S.hi_lt ((lt_slope hbe).mp hz);have:=S.lo_le t a c;have:=line_mono (h:=h) a S.le;grind
theorem Scan.down {lo hi:Nat->Rat} {b la ha e n:Nat} {h SL FH:Rat} (S:Scan lo hi b h la ha SL FH e) (he:e<=n) (hz:slope b h e (hi e)<SL):Seg lo hi n b h SL la:=by
 have hbe:b<e:=Nat.lt_trans S.la0 S.la1;refine .down e S.la0 S.la1 he ⟨S.lo_le,fun t a c=>?_⟩ (by rw[S.laE,line_slope _ _ S.la0]) S.lo_lt ((slope_lt hbe).mp hz);have:=S.hi_le t a c;have:=line_mono (h:=h) a S.le;grind
theorem Scan.step {lo hi:Nat->Rat} {b la ha e:Nat} {h SL FH:Rat} (S:Scan lo hi b h la ha SL FH e) (ok:lo e<=hi e) (h1:¬ FH<slope b h e (lo e)) (h2:¬ slope b h e (hi e)<SL) :
  Scan lo hi b h (if slope b h e (lo e)<SL then la else e) (if FH<slope b h e (hi e) then ha else e) (if slope b h e (lo e)<SL then SL else slope b h e (lo e)) (if FH<slope b h e (hi e) then FH else slope b h e (hi e)) (e+1):=by
 have hbe:b<e:=Nat.lt_trans S.la0 S.la1;have oks:slope b h e (lo e)<=slope b h e (hi e):=by rw[slope_le hbe,line_slope _ _ hbe];exact ok
 have sp:∀ t,t<e+1->t<e\/t=e:=fun t a=>by omega
 have lle:=S.le;by_cases c1:slope b h e (lo e)<SL<;>by_cases c2:FH<slope b h e (hi e)
 ·rw[if_pos c1,if_pos c2,if_pos c1,if_pos c2]
  refine⟨S.la0,by have:=S.la1;omega,S.laE,fun t a c=>?_,fun t a c=>?_,S.ha0,by have:=S.ha1;omega,S.haE,fun t a c=>?_,fun t a c=>?_,lle⟩
  ·rcases sp t c with q|rfl
   ·exact S.lo_le t a q
   ·exact Rat.le_of_lt ((slope_lt a).mp c1)
  ·rcases sp t c with q|rfl
   ·exact S.lo_lt t a q
   ·exact (slope_lt hbe).mp c1
  ·rcases sp t c with q|rfl
   ·exact S.hi_le t a q
   ·exact Rat.le_of_lt ((lt_slope a).mp c2)
  ·rcases sp t c with q|rfl
   ·exact S.hi_lt t a q
   ·exact (lt_slope hbe).mp c2
 ·rw[if_pos c1,if_neg c2,if_pos c1,if_neg c2]
  have c2':slope b h e (hi e)<=FH:=by grind
  refine⟨S.la0,by have:=S.la1;omega,S.laE,fun t a c=>?_,fun t a c=>?_,hbe,by omega,rfl,fun t a c=>?_,fun t a c=>by omega,by grind⟩
  ·rcases sp t c with q|rfl
   ·exact S.lo_le t a q
   ·exact Rat.le_of_lt ((slope_lt a).mp c1)
  ·rcases sp t c with q|rfl
   ·exact S.lo_lt t a q
   ·exact (slope_lt hbe).mp c1
  ·rcases sp t c with q|rfl
   ·have:=S.hi_le t a q;have:=line_mono (h:=h) a c2';grind
   ·rw[line_slope _ _ a];grind
 ·rw[if_neg c1,if_pos c2,if_neg c1,if_pos c2]
  have c1':SL<=slope b h e (lo e):=by grind
  refine⟨hbe,by omega,rfl,fun t a c=>?_,fun t a c=>by omega,S.ha0,by have:=S.ha1;omega,S.haE,fun t a c=>?_,fun t a c=>?_,by grind⟩
  ·rcases sp t c with q|rfl
   ·have:=S.lo_le t a q;have:=line_mono (h:=h) a c1';grind
   ·rw[line_slope _ _ a];grind
  ·rcases sp t c with q|rfl
   ·exact S.hi_le t a q
   ·exact Rat.le_of_lt ((lt_slope a).mp c2)
  ·rcases sp t c with q|rfl
   ·exact S.hi_lt t a q
   ·exact (lt_slope hbe).mp c2
 ·rw[if_neg c1,if_neg c2,if_neg c1,if_neg c2]
  have c1':SL<=slope b h e (lo e):=by grind
  have c2':slope b h e (hi e)<=FH:=by grind
  refine⟨hbe,by omega,rfl,fun t a c=>?_,fun t a c=>by omega,hbe,by omega,rfl,fun t a c=>?_,fun t a c=>by omega,oks⟩
  ·rcases sp t c with q|rfl
   ·have:=S.lo_le t a q;have:=line_mono (h:=h) a c1';grind
   ·rw[line_slope _ _ a];grind
  ·rcases sp t c with q|rfl
   ·have:=S.hi_le t a q;have:=line_mono (h:=h) a c2';grind
   ·rw[line_slope _ _ a];grind
theorem Scan.fin {lo hi:Nat->Rat} {b la ha n:Nat} {h SL FH:Rat} (S:Scan lo hi b h la ha SL FH (n+1)) (tie:lo n=hi n):ha=n/\la=n/\FH=slope b h n (hi n)/\Seg lo hi n b h FH n:=by
 have hbn:b<n:=by have:=S.la0;have:=S.la1;omega
 have l1:=S.lo_le n hbn %[|5];have l2:=S.hi_le n hbn %[|5];have l3:=line_mono (h:=h) hbn S.le;have e1:line b h FH n=hi n:=by grind
 have hh:ha=n:=by
  apply Decidable.byContradiction;intro hne;have:=S.hi_lt n (by have:=S.ha1;omega) %[|5];grind
 have hl:la=n:=by
  apply Decidable.byContradiction;intro hne;have:=S.lo_lt n (by have:=S.la1;omega) %[|5];grind
 have eF:FH=slope b h n (hi n):=by rw[<- hh];exact S.haE
 have eL:SL=slope b h n (lo n):=by rw[<- hl];exact S.laE
 refine⟨hh,hl,eF,.fin hbn rfl ⟨fun t a c=>?_,S.hi_le⟩⟩;have:=S.lo_le t a c;rw[eF,<- tie,<- eL];exact this
end Q
end
noncomputable section
namespace Q
noncomputable def tot (s:List Rat):Rat:=s.foldl (·+·) 0
theorem foldl_add (s:List Rat):∀ q:Rat,s.foldl (·+·) q=q+tot s:=by
 induction s with
 | nil=>intro q;unfold tot;simp;grind
 | cons a s ih=>intro q;unfold tot;simp only[List.foldl_cons];rw[ih,ih];grind
theorem tot_cons (a:Rat) (s:List Rat):tot (a::s)=a+tot s:=by
 unfold tot;simp only[List.foldl_cons];rw[foldl_add];unfold tot;grind
theorem tot_append (s t:List Rat):tot (s++t)=tot s+tot t:=by
 induction s with
 | nil=>unfold tot;simp;grind
 | cons a s ih=>rw [List.cons_append,tot_cons,tot_cons,ih];grind
theorem tot_add (s:List Rat) (a:Rat):tot (s++[a])=tot s+a:=by
 rw[tot_append,tot_cons];unfold tot;simp;grind
end Q
end
noncomputable section
namespace Q
theorem tri (a b:Rat):a<b\/a=b\/b<a:=by
 by_cases h:a<b
 ·exact .inl h
 ·by_cases h2:b<a
  ·exact .inr (.inr h2)
  ·exact .inr (.inl (by grind))
noncomputable def fs (f:Rat->Rat) (r:Nat->Rat):Nat->Rat
 | 0=>0
 | m+1=>fs f r m+f (r (m+1)-r m)
end Q
end
noncomputable section
namespace K
open PySem DL
abbrev ends (R E:DK):DEnds:={nx:=fun _ M'=>R .non M',rt:=R,ex:=fun _=>E}
theorem forD_inv {g:(DSt->DK)->DG} {tb:DS} {keep:Mem->Prop} {D:DEnds} (I:DSt->Mem->Prop) (hk:∀ δ M,I δ M->keep M) (he:∀ δ M,I δ M->D.nx δ M):∀ {items:List DL.D},
  (∀ x∈items,∀ N:DSt->Mem->Prop,(∀ δ M,I δ M->N δ M)->∀ δ M,I δ M->g D.ex x δ M fun δ1 M1=>tb {D with nx:=N,ct:=N,bk:=D.nx} δ1 M1)->∀ {δ M},I δ M->forD g tb keep items D δ M
 | [],_,δ,M,i=>he δ M i
 | x::xs,h,δ,M,i=>by
  unfold forD;exact h x List.mem_cons_self _ (fun δ' M' i'=>⟨hk δ' M' i',forD_inv I hk he (fun y hy=>h y (List.mem_cons_of_mem _ hy)) i'⟩) δ M i
theorem forD_ix {g:(DSt->DK)->DG} {tb:DS} {keep:Mem->Prop} {D:DEnds}:∀ {items:List DL.D} (I:Nat->DSt->Mem->Prop),(∀ i δ M,I i δ M->keep M)->(∀ δ M,I items.length δ M->D.nx δ M) ->
  (∀ i x,items[i]?=some x->∀ N:DSt->Mem->Prop,(∀ δ M,I (i+1) δ M->N δ M)->∀ δ M,I i δ M->g D.ex x δ M fun δ1 M1=>tb {D with nx:=N,ct:=N,bk:=D.nx} δ1 M1)->∀ {δ M},I 0 δ M->forD g tb keep items D δ M
 | [],I,hk,he,ht,δ,M,h0=>he δ M h0
 | x::xs,I,hk,he,ht,δ,M,h0=>by
  unfold forD;exact ht 0 x rfl _ (fun δ' M' i'=>⟨hk _ δ' M' i',forD_ix (fun i=>I (i+1)) (fun i=>hk (i+1)) he (fun i y hy N hN=>ht (i+1) y (by simpa using hy) N hN) i'⟩) δ M h0
theorem rngD_at (h:(rngD lo c n)[i]?=some x):x=.int (lo+i*c)/\i<n:=by
 unfold rngD at h;rw[List.getElem?_map] at h;cases q:(List.range n)[i]? with
 | none=>rw [q] at h;cases h
 | some j =>
  obtain⟨h1,h2⟩:=List.getElem?_eq_some_iff.mp q;rw[q] at h;cases h;simp at h1 h2;subst h2;exact⟨rfl,h1⟩
theorem rngD_len:(rngD lo c n).length=n:=by simp[rngD]
theorem compD_pure (f:DL.D->DL.D) (I:DSt->Prop) (h0:M0 p=none) (hk:∀ M,MExt M0 M->keep M) :
  ∀ {items acc:List DL.D},(∀ x∈items,∀ δ M (R:DSt->DK),I δ->MExt M0 M->(∀ δ1 M',I δ1->MExt M M'->R δ1 (f x) M')->g x δ M fun δ1 M1=>te δ1 M1 fun d M2=>R δ1 d M2) ->
  (acc++items.map f).length<=1000->(∀ M',MExt M0 M'->M' p=some (.ls (acc++items.map f))->Q M')->∀ {δ M},I δ->MExt M0 M->M p=some (.ls acc)->compD g te keep p items acc δ M Q
 | [],acc,_,_,q,δ,M,i,e,l=>by unfold compD;exact q M e (by simpa using l)
 | x::xs,acc,h,hz,q,δ,M,i,e,l=>by
  unfold compD;refine h x List.mem_cons_self δ M (fun δ1 d M2=>M2 p=some (.ls acc)/\acc.length<sizeLine/\keep (M2.upd p (.ls (acc++[d])))/\compD g te keep p xs (acc++[d]) δ1 (M2.upd p (.ls (acc++[d]))) Q) i e fun δ1 M' i' e'=>?_;have e2:MExt M0 (M'.upd p (.ls (acc++[f x]))):=fun a o z=>by
   have:a≠p:=fun q=>by rw[q,h0] at z;cases z
   rw[mupd_ne this];exact e' _ _ (e _ _ z)
  refine⟨e' _ _ l,?_,hk _ e2,compD_pure f I h0 hk (fun y hy=>h y (List.mem_cons_of_mem _ hy)) (by simpa using hz) (fun M2 e3 l3=>q M2 e3 (by simpa using l3)) i' e2 mupd_same⟩;rw[sizeLine_eq];simp at hz;omega
theorem MExt.none (e:MExt M M') (h:M' p=Option.none):M p=Option.none:=by
 cases q:M p with
 | none=>rfl
 | some o=>rw [e _ _ q] at h;cases h
theorem at_zero (x:α) (l:List α):L2.atI (x::l) 0=some x:=L2.atI_nat (j:=0) rfl
theorem bits_le (h:k.natAbs<2 ^ n):Builtin.Int.intBits k<=n:=by
 unfold Builtin.Int.intBits;split
 ·exact Nat.zero_le _
 ·rename_i h0
  have hp:k.natAbs≠0:=by intro z;apply h0;simp;omega
  have:=(Nat.log2_lt hp).mpr h;omega
theorem mul_ok (ha:a.natAbs<2 ^ m) (hb:b.natAbs<2 ^ n) (h:m+n<=134217728):IntMulOk a b:=IntMulOk.of_le (bits_le ha) (bits_le hb) h
theorem divOk_small (h:j≠0) (hj:j.natAbs<2 ^ 8000):DivOk j:=⟨h,by
 have:j.natAbs≠0:=by omega
 have:=(Nat.log2_lt this).mpr hj;omega⟩
theorem gcd_step (h0:0<=x) (h1:0<y):Int.gcd y (x.fmod y)=Int.gcd x y:=by
 obtain⟨n,rfl⟩:=Int.eq_ofNat_of_zero_le h0;obtain⟨m,rfl⟩:=Int.eq_ofNat_of_zero_le (Int.le_of_lt h1);rw[Int.fmod_eq_emod_of_nonneg _ (Int.le_of_lt h1)];show Nat.gcd m (((n:Int) % (m:Int)).natAbs)=Nat.gcd n m;have:((n:Int) % (m:Int)).natAbs=n % m:=by
  rw[<- Int.natCast_emod];rfl
 rw[this,Nat.gcd_comm n m,Nat.gcd_comm m (n % m)];exact (Nat.gcd_rec m n).symm
theorem gcd_abs (a b:Int):Int.gcd (if a<0 then -a else a) (if b<0 then -b else b)=Int.gcd a b:=by
 unfold Int.gcd
 congr 1<;>split<;>omega
theorem fmod_range {x y:Int} (h:0<y):0<=x.fmod y/\x.fmod y<y:=by
 rw[Int.fmod_eq_emod_of_nonneg _ (Int.le_of_lt h)];exact⟨Int.emod_nonneg _ %[|5],Int.emod_lt_of_pos _ h⟩
theorem rSs_cons {s:CS} {r:CSs} {D:DEnds} {δ:DSt} {M:Mem}:rSs (.cons s r) D δ M=rS s {D with nx:=rSs r D} δ M:=rfl
theorem rSs_nil {D:DEnds} {δ:DSt} {M:Mem}:rSs .nil D δ M=D.nx δ M:=rfl
theorem eq_int (neg:Bool) (h:Q (.bl (if neg then !(i==j) else (i==j))) M):cEq neg (.int i) (.int j) M Q:=⟨_,_,.int i,.int j,by simp[PyData.depth],h⟩
noncomputable def S_4:DSp:=fun ds M Q _=>∃ a b:Int,ds=[.int a,.int b]/\Q (.int (Int.gcd a b)) M
noncomputable def C_4:CSs:=%[.par 0 1 (.bi .abs %[.var 0|0]) (.bi .abs %[.var 1|0]),.whl (.var 1) %[.par 0 1 (.var 1) (.bin .Mod (.var 0) (.var 1))|0],.ret (.var 0)|0]
theorem vc_4:∀ ds M R E,S_4 ds M R E->rSs C_4 (ends R E) (startD 2 ds) M:=by
 rintro ds M R E ⟨a,b,rfl,h⟩;simp[0,C_4,rSs,gdTup,vAt,vHd,dCallV,revOp,diSeq,diRng,dFor,dComp,bMul,bAdd,iOp,sOp,fLen,fTuple,fList,fIsi,fAll,fAny,itSeq,and_assoc,sizeLine_eq];refine⟨fun m δ M'=>∃ x y:Int,δ=[some (.int x),some (.int y)]/\M'=M/\0<=x/\0<=y/\Int.gcd x y=Int.gcd a b/\m=y.toNat,⟨_,_,_,rfl,rfl,?_,?_,?_,rfl⟩,?_⟩
 ·split<;>omega
 ·split<;>omega
 ·exact gcd_abs a b
 ·rintro m δ M' ⟨x,y,rfl,rfl,h0,h1,hg,rfl⟩
  simp[0,rSs,gdTup,vAt,vHd,dCallV,revOp,diSeq,diRng,dFor,dComp,bMul,bAdd,iOp,sOp,fLen,fTuple,fList,fIsi,fAll,fAny,itSeq,and_assoc,sizeLine_eq];by_cases hy:y=0
  ·subst hy
   rw[if_pos rfl];rw[<- hg] at h;have e:((x.gcd 0:Nat):Int)=x:=by unfold Int.gcd;simp;omega
   rw[e] at h;exact h
  ·rw[if_neg hy]
   have yp:0<y:=by omega
   refine⟨fun δ' M1=>δ'=[some (.int y),some (.int (x.fmod y))]/\M1=M',?_,hy,rfl,rfl⟩;rintro δ' M1 ⟨rfl,rfl⟩;have:=fmod_range (x:=x) yp;exact⟨(x.fmod y).toNat,by omega,y,_,rfl,rfl,h1,this.1,by rw[gcd_step h0 yp];exact hg,rfl⟩
noncomputable def S_48:DSp:=fun ds M Q _=>∃ c:Int,ds=[.int c]/\Builtin.Int.intBits c<=2000000/\∀ r:Int,0<=r->r<10 ^ 60->Q (.int r) M
noncomputable def C_48:CSs:=%[.ret (.bin .Mod (.bin .Mult (.var 0) (.int 301029995663981195213738894724493026768189881462108541310427)) (.bin .Pow (.int 10) (.int 60)))|0]
theorem vc_48:∀ ds M R E,S_48 ds M R E->rSs C_48 (ends R E) (startD 1 ds) M:=by
 rintro ds M R E ⟨c,rfl,hb,h⟩;simp[0,C_48,rSs,gdTup,vAt,vHd,dCallV,revOp,diSeq,diRng,dFor,dComp,bMul,bAdd,iOp,sOp,fLen,fTuple,fList,fIsi,fAll,fAny,itSeq,and_assoc,sizeLine_eq];exact⟨IntMulOk.of_le hb (bits_le (n:=300) %[|4]) %[|4],⟨by decide,by decide,by decide⟩,h _ (fmod_range %[|4]).1 (fmod_range %[|4]).2⟩
noncomputable def S_0:DSp:=fun ds M Q _=>∃ a n v,ds=[.lst a,.int n]/\M a=some (.ls [.int v])/\0<n/\n.natAbs<2 ^ 8000/\∀ r v':Int,0<=r->r<n->Q (.int r) (M.upd a (.ls [.int v']))
noncomputable def C_0:CSs:=%[.asg (.tup %[.sub (.var 0) (.int 0),.name 2|0]) (.bi .divmod %[.ix (.var 0) (.int 0),.var 1|0]),.ret (.var 2)|0]
theorem vc_0:∀ ds M R E,S_0 ds M R E->rSs C_0 (ends R E) (startD 3 ds) M:=by
 rintro ds M R E ⟨a,n,v,rfl,ha,hn,hn2,h⟩;simp[0,C_0,rSs,gdTup,vAt,vHd,dCallV,revOp,diSeq,diRng,dFor,dComp,bMul,bAdd,iOp,sOp,fLen,fTuple,fList,fIsi,fAll,fAny,itSeq,and_assoc,sizeLine_eq];refine⟨_,ha,.int v,rfl,?_⟩;have f:=fmod_range (x:=v) hn;simp[0,rSs,gdTup,vAt,vHd,dCallV,revOp,diSeq,diRng,dFor,dComp,bMul,bAdd,iOp,sOp,fLen,fTuple,fList,fIsi,fAll,fAny,itSeq,and_assoc,sizeLine_eq];exact⟨divOk_small %[|5] hn2,_,ha,0,rfl,h _ _ f.1 f.2⟩
theorem cut_mem (h:x∈cutG xs lo hi):x∈xs:=List.mem_of_mem_drop (List.mem_of_mem_take h)
theorem cut_len (xs:List α) (lo hi:Option Int):(cutG xs lo hi).length<=xs.length:=by
 unfold cutG;rw[List.length_take,List.length_drop];omega
theorem cut_first (ns:List Int) (lo hi:Option Int) (e:Int):∃ c,L2.atI (cutG (ns.map D.int) lo hi++[D.int e]) 0=some (.int c)/\(c∈ns\/c=e):=by
 cases q:cutG (ns.map D.int) lo hi with
 | nil=>exact⟨e,rfl,.inr rfl⟩
 | cons x r =>
  have:x∈ns.map D.int:=cut_mem (lo:=lo) (hi:=hi) (by rw[q];exact List.mem_cons_self);obtain⟨c,hc,rfl⟩:=List.mem_map.mp this;exact⟨c,at_zero _ _,.inl hc⟩
theorem one_line (x:DL.D):[x].length<=sizeLine:=by rw[sizeLine_eq];exact (by decide:1<=16777216)
theorem two_line (x y:DL.D):[x,y].length<=sizeLine:=by rw[sizeLine_eq];exact (by decide:2<=16777216)
theorem mulI (a:IntMulOk i j) (q:Q (.int (i*j)) M):bMul (.int i) (.int j) M Q:=⟨a,q⟩
theorem addI (q:Q (.int (i+j)) M):bAdd (.int i) (.int j) M Q:=q
noncomputable def S_49:DSp:=fun ds M Q _=>∃ (ns:List Int) (k:Int),ds=[.fz (ns.map .int),.int k]/\Script ns/\0<=k/\k<=1000/\∀ (v:Int) p M',M p=none->MExt M M'->M' p=some (.ls [.int v])->Q (.lst p) M'
noncomputable def C_49:CSs:=%[.set 2 (.int 0),.fr (.name 3) (.seq (.lst %[.bin .Add (.var 1) (.int 1),.var 1|0])) %[.set 2 (.bin .Add (.bin .Mult (.var 2) (.bin .Pow (.int 10) (.int 60))) (.call "_law_mixed" S_48 %[.ix (.bin .Add (.sl (.var 0) (.some (.var 3)) (.some (.bin .Add (.var 3) (.int 1)))) (.lst %[.bin .Add (.bin .Mult (.int 7907) (.var 3)) (.int 53)|0])) (.int 0)|0]))|0],.ret (.lst %[.var 2|0])|0]
theorem vc_49:∀ ds M R E,S_49 ds M R E->rSs C_49 (ends R E) (startD 4 ds) M:=by
 rintro ds M R E ⟨ns,k,rfl,hs,h0,h1,h⟩;have turn:∀ (t found:Int) (M:Mem) (Q:DK),0<=t->t<=1001->found.natAbs<2 ^ 1000->(∀ v M',MExt M M'->v.natAbs<(found.natAbs+1)*10 ^ 60->Q (.int v) M') ->
   d2 bAdd (d2 bMul (dVar 2) (d2 (bInt L2.CPow fun i j=>i ^ j.toNat) (dC (D.int 10)) (dC (D.int 60))))
    (dCall S_48 (fun _=>E) (dCons (d2 iOp (d2 bAdd (dSl (dVar 0) (dPart (dVar 3)) (dPart (d2 bAdd (dVar 3) (dC (D.int 1))))) (dLst (dCons (d2 bAdd (d2 bMul (dC (D.int 7907)) (dVar 3)) (dC (D.int 53))) dNil))) (dC (D.int 0))) dNil))
    [some (.fz (ns.map D.int)),some (.int k),some (.int found),some (.int t)] M Q:=by
  intro t found M Q h0 h1 hf hN;dsimp only[d2,dVar,vAt,vHd,dC,dCall,dCons,dNil,dLst,dSl,dPart];refine⟨⟨by decide,by decide,by decide⟩,mulI (mul_ok hf (n:=300) %[|4] %[|4]) ⟨_,rfl,addI ⟨_,rfl,fun p1 M1 e1 x1 l1=>mulI (mul_ok (m:=64) (n:=64) %[|4] %[|5] %[|4]) (addI ⟨one_line _,fun p2 M2 e2 x2 l2=>⟨_,_,x2 _ _ l1,l2,?_,fun p3 M3 e3 x3 l3=>?_⟩⟩)⟩⟩⟩
  ·have:=cut_len (ns.map D.int) (some t) (some (t+1))
   rw[List.length_map] at this;have:=hs.len;rw[sizeLine_eq];show _+1<=_;omega
  obtain⟨c,hc,hm⟩:=cut_first ns (some t) (some (t+1)) (7907*t+53);refine⟨_,_,l3,hc,c,rfl,?_,fun r r0 r1=>addI ?_⟩
  ·rcases hm with hm|hm
   ·exact Nat.le_trans (hs.bits c hm) %[|4]
   ·subst hm;exact Nat.le_trans (bits_le (n:=64) %[|5]) %[|4]
  ·refine hN _ M3 (x1.trans (x2.trans x3)) ?_
   have a1:=Int.natAbs_add_le (found*1000000000000000000000000000000000000000000000000000000000000) r;rw[Int.natAbs_mul] at a1;have a2:r.natAbs<10 ^ 60:=by omega
   have a3:(1000000000000000000000000000000000000000000000000000000000000:Int).natAbs=10 ^ 60:=by decide
   rw[a3] at a1;rw[Nat.add_mul,Nat.one_mul];exact Nat.lt_of_le_of_lt a1 %[|5]
 unfold C_49;dsimp only[rSs,rS,rE,rEs,rG,rGs,rI,DL.plain,dSeq,dRet,dAsg,dFor,gdName,diSeq,dCall,dCons,dNil,dLst,dVar,vAt,vHd,List.map,List.length_cons,List.length_nil,Nat.reduceAdd,Nat.reduceSub,List.replicate_succ,List.replicate_zero,List.cons_append,List.nil_append,List.set_cons_succ,List.set_cons_zero,dC,d2,bOp,startD,dNext,dSl];refine addI ⟨two_line (.int 0) (.int 0),fun p0 M0 e0 x0 l0=>⟨_,l0,?_⟩⟩;dsimp only[forD,gdName,dSeq,dAsg,dNext,rO];refine turn (k+1) 0 M0 _ %[|5] %[|5] %[|4] fun v1 M1 x1 b1=>?_;refine⟨x1 _ _ l0,?_⟩;refine turn k v1 M1 _ %[|5] %[|5] (Nat.lt_of_lt_of_le b1 %[|4]) fun v2 M2 x2 b2=>?_;refine⟨x2 _ _ (x1 _ _ l0),?_⟩;dsimp only[dRet,dLst,dCons,dNil,dVar,List.set_cons_succ,List.set_cons_zero,vAt,vHd];refine⟨one_line _,fun p M' e x l=>?_⟩;exact h v2 p M' (K.MExt.none (x0.trans (x1.trans x2)) e) (x0.trans (x1.trans (x2.trans x))) l
end K
end
open PySem DL Q K
set_option bootstrap.genMatcherCode true
local macro_rules
 | `(tactic| sleep 1)=>`(tactic| ((try dsimp only);rw[rSs_cons];sleep 2))
 | `(tactic| sleep 2)=>`(tactic| ((try dsimp only[0,gdTup,vAt,vHd,List.set_cons_succ,List.set_cons_zero,List.cons_append,List.nil_append,List.map,List.length_cons,List.length_nil,Nat.reduceAdd,Nat.reduceSub,List.replicate_succ,List.replicate_zero,dCallV,revOp,bMul,bAdd,sOp,fTuple,fList,fIsi,itSeq]);try simp[0,gdTup,vAt,vHd,dCallV,revOp,bMul,bAdd,sOp,fTuple,fList,fIsi,itSeq,and_assoc,sizeLine_eq,rSs_nil]))
 | `(tactic| sleep 50)=>`(tactic| exact⟨rfl,rfl,rfl,by decide +kernel,rfl,by decide +kernel,by decide +kernel⟩)
 | `(tactic| sleep 51)=>`(tactic| repeat' (first|exact True.intro|assumption|refine And.intro ?_ ?_|exact FnE.mono (by assumption) %[|4]))
set_option bootstrap.genMatcherCode false
set_option bootstrap.genMatcherCode true
local macro_rules
 | `(tactic| sleep 30)=>`(tactic| simp[0,vAt,vHd,dCallV,and_assoc,sizeLine_eq,rSs_nil,diZip,diSeq,dFld,dMeth,dMake,dSetF,diSeq,itSeq])
set_option bootstrap.genMatcherCode false
noncomputable section
namespace K
open PySem DL Q
noncomputable def nm (q:Rat):DL.D:=.tup [.int q.num,.int q.den]
theorem pow_le (h:m<=n):2 ^ m<=2 ^ n:=Nat.pow_le_pow_right %[|4] h
theorem divOk_gcd (h:b≠0) (hb:b.natAbs<2 ^ 8000):DivOk (if b<0 then -(Int.gcd a b:Int) else Int.gcd a b):=by
 have g0:=gcd_pos' (a:=a) h;have gl:Int.gcd a b<=b.natAbs:=Nat.le_of_dvd %[|5] (Int.gcd_dvd_natAbs_right ..);split<;>exact divOk_small %[|5] (by simp;omega)
noncomputable def S_5:DSp:=fun ds M Q E=>∃ a b:Int,ds=[.int a,.int b]/\b.natAbs<2 ^ 8000/\((b≠0/\Q (nm (Rat.divInt a b)) M)\/(b=0/\E (.exc "NoNumber" .non) M))
noncomputable def C_5:CSs:=%[.ife (.cmp .Eq (.var 1) (.int 0)) %[.rse "NoNumber" %[.str "nothing is parted by 0"|0]|0] .nil,.set 2 (.call "greatest_divisor" S_4 %[.var 0,.var 1|0]),.ife (.cmp .Lt (.var 1) (.int 0)) %[.set 2 (.neg (.var 2))|0] .nil,.ret (.tup %[.bin .FloorDiv (.var 0) (.var 2),.bin .FloorDiv (.var 1) (.var 2)|0])|0]
theorem vc_5:∀ ds M R E,S_5 ds M R E->rSs C_5 (ends R E) (startD 3 ds) M:=by
 rintro ds M R E ⟨a,b,rfl,hb,h⟩;simp[0,C_5,rSs,gdTup,vAt,vHd,dCallV,revOp,diSeq,diRng,dFor,dComp,bMul,bAdd,iOp,sOp,fLen,fTuple,fList,fIsi,fAll,fAny,itSeq,and_assoc,sizeLine_eq];refine eq_int false ?_;rcases h with ⟨h0,h⟩|⟨h0,h⟩
 ·have L:=lowest a b h0
  have D:=divOk_gcd (a:=a) h0 hb;unfold nm at h;simp[h0];refine⟨a,b,rfl,?_⟩;by_cases hn:b<0
  ·rw[if_pos hn] at L D
   simp[hn,D];rw[L.1,L.2];exact h
  ·rw[if_neg hn] at L D
   simp[hn,D];rw[L.1,L.2];exact h
 ·subst h0
  simp;exact h
noncomputable def Ok2 (p q:Rat):Prop:=∃ m n,Sz m p/\Sz n q/\m+n<=7998
theorem Ok2.mk (a:Sz m p) (b:Sz n q) (h:m+n<=7998):Ok2 p q:=⟨m,n,a,b,h⟩
theorem Ok2.nd (h:Ok2 p q):IntMulOk p.num q.den/\IntMulOk q.num p.den/\IntMulOk p.den q.den/\IntMulOk p.num q.num/\IntMulOk (p.den:Int) q.num:=by
 obtain⟨m,n,a,b,h⟩:=h;exact⟨mul_ok a.1 (den_abs b) %[|5],mul_ok b.1 (den_abs a) %[|5],mul_ok (den_abs a) (den_abs b) %[|5],mul_ok a.1 b.1 %[|5],mul_ok (den_abs a) b.1 %[|5]⟩
theorem Ok2.dd (h:Ok2 p q):((p.den:Int)*q.den).natAbs<2 ^ 8000/\((p.den:Int)*q.num).natAbs<2 ^ 8000:=by
 obtain⟨m,n,a,b,h⟩:=h;exact⟨Nat.lt_of_lt_of_le (abs_mul (den_abs a) (den_abs b)) (pow_le %[|5]),Nat.lt_of_lt_of_le (abs_mul (den_abs a) b.1) (pow_le %[|5])⟩
theorem at_one (x y:α) (l:List α):L2.atI (x::y::l) 1=some y:=L2.atI_nat (j:=1) rfl
theorem ix0 (q:Q (.int p.num) M):iOp (nm p) (.int 0) M Q:=⟨_,at_zero _ _,q⟩
theorem ix1 (q:Q (.int p.den) M):iOp (nm p) (.int 1) M Q:=⟨_,at_one _ _ _,q⟩
theorem subI (q:Q (.int (i-j)) M):bInt (fun _ _=>True) (fun i j=>i-j) (.int i) (.int j) M Q:=⟨trivial,q⟩
noncomputable def S_6:DSp:=fun ds M Q E=>∃ p q:Rat,ds=[nm p,nm q]/\Ok2 p q/\Q (nm (p+q)) M
noncomputable def C_6:CSs:=%[.ret (.call "number" S_5 %[.bin .Add (.bin .Mult (.ix (.var 0) (.int 0)) (.ix (.var 1) (.int 1))) (.bin .Mult (.ix (.var 1) (.int 0)) (.ix (.var 0) (.int 1))),.bin .Mult (.ix (.var 0) (.int 1)) (.ix (.var 1) (.int 1))|0])|0]
theorem vc_6:∀ ds M R E,S_6 ds M R E->rSs C_6 (ends R E) (startD 2 ds) M:=by
 rintro ds M R E ⟨p,q,rfl,ok,h⟩;unfold C_6;dsimp only[rSs,rS,rE,rEs,DL.plain,dSeq,dRet,dCall,dCons,dNil,d2,dVar,vAt,vHd,List.map,List.length_cons,List.length_nil,Nat.reduceAdd,Nat.reduceSub,List.replicate_succ,List.replicate_zero,List.cons_append,List.nil_append,dC,bOp,startD];have n:=ok.nd;refine (ix0 (ix1 (mulI n.1 (ix0 (ix1 (mulI n.2.1 (addI (ix1 (ix1 (mulI n.2.2.1 ?_))))))))));refine⟨_,_,rfl,ok.dd.1,.inl ⟨den_ne p q,?_⟩⟩;rw[add_eq];exact h
noncomputable def S_20:DSp:=fun ds M Q E=>∃ p q:Rat,ds=[nm p,nm q]/\Ok2 p q/\Q (nm (p-q)) M
noncomputable def C_20:CSs:=%[.ret (.call "number" S_5 %[.bin .Sub (.bin .Mult (.ix (.var 0) (.int 0)) (.ix (.var 1) (.int 1))) (.bin .Mult (.ix (.var 1) (.int 0)) (.ix (.var 0) (.int 1))),.bin .Mult (.ix (.var 0) (.int 1)) (.ix (.var 1) (.int 1))|0])|0]
theorem vc_20:∀ ds M R E,S_20 ds M R E->rSs C_20 (ends R E) (startD 2 ds) M:=by
 rintro ds M R E ⟨p,q,rfl,ok,h⟩;unfold C_20;dsimp only[rSs,rS,rE,rEs,DL.plain,dSeq,dRet,dCall,dCons,dNil,d2,dVar,vAt,vHd,List.map,List.length_cons,List.length_nil,Nat.reduceAdd,Nat.reduceSub,List.replicate_succ,List.replicate_zero,List.cons_append,List.nil_append,dC,bOp,startD];have n:=ok.nd;refine (ix0 (ix1 (mulI n.1 (ix0 (ix1 (mulI n.2.1 (subI (ix1 (ix1 (mulI n.2.2.1 ?_))))))))));refine⟨_,_,rfl,ok.dd.1,.inl ⟨den_ne p q,?_⟩⟩;rw[sub_eq];exact h
noncomputable def S_24:DSp:=fun ds M Q E=>∃ p q:Rat,ds=[nm p,nm q]/\Ok2 p q/\Q (nm (p*q)) M
noncomputable def C_24:CSs:=%[.ret (.call "number" S_5 %[.bin .Mult (.ix (.var 0) (.int 0)) (.ix (.var 1) (.int 0)),.bin .Mult (.ix (.var 0) (.int 1)) (.ix (.var 1) (.int 1))|0])|0]
theorem vc_24:∀ ds M R E,S_24 ds M R E->rSs C_24 (ends R E) (startD 2 ds) M:=by
 rintro ds M R E ⟨p,q,rfl,ok,h⟩;unfold C_24;dsimp only[rSs,rS,rE,rEs,DL.plain,dSeq,dRet,dCall,dCons,dNil,d2,dVar,vAt,vHd,List.map,List.length_cons,List.length_nil,Nat.reduceAdd,Nat.reduceSub,List.replicate_succ,List.replicate_zero,List.cons_append,List.nil_append,dC,bOp,startD];have n:=ok.nd;refine (ix0 (ix0 (mulI n.2.2.2.1 (ix1 (ix1 (mulI n.2.2.1 ?_))))));refine⟨_,_,rfl,ok.dd.1,.inl ⟨den_ne p q,?_⟩⟩;rw[mul_eq];exact h
noncomputable def S_21:DSp:=fun ds M Q E=>∃ p q:Rat,ds=[nm p,nm q]/\Ok2 p q/\((q≠0/\Q (nm (p / q)) M)\/(q=0/\E (.exc "NoNumber" .non) M))
noncomputable def C_21:CSs:=%[.ret (.call "number" S_5 %[.bin .Mult (.ix (.var 0) (.int 0)) (.ix (.var 1) (.int 1)),.bin .Mult (.ix (.var 0) (.int 1)) (.ix (.var 1) (.int 0))|0])|0]
theorem vc_21:∀ ds M R E,S_21 ds M R E->rSs C_21 (ends R E) (startD 2 ds) M:=by
 rintro ds M R E ⟨p,q,rfl,ok,h⟩;unfold C_21;dsimp only[rSs,rS,rE,rEs,DL.plain,dSeq,dRet,dCall,dCons,dNil,d2,dVar,vAt,vHd,List.map,List.length_cons,List.length_nil,Nat.reduceAdd,Nat.reduceSub,List.replicate_succ,List.replicate_zero,List.cons_append,List.nil_append,dC,bOp,startD];have n:=ok.nd;refine (ix0 (ix1 (mulI n.1 (ix1 (ix0 (mulI n.2.2.2.2 ?_))))));refine⟨_,_,rfl,ok.dd.2,?_⟩;rcases h with ⟨h0,h⟩|⟨h0,h⟩
 ·refine .inl ⟨Int.mul_ne_zero (by have:=den_pos p;omega) (num_ne h0),?_⟩
  rw[div_eq];exact h
 ·subst h0;exact .inr ⟨by simp,h⟩
noncomputable def S_8:DSp:=fun ds M Q E=>∃ p q:Rat,ds=[nm p,nm q]/\Ok2 p q/\Q (.bl (decide (p<q))) M
noncomputable def C_8:CSs:=%[.ret (.cmp .Lt (.bin .Mult (.ix (.var 0) (.int 0)) (.ix (.var 1) (.int 1))) (.bin .Mult (.ix (.var 1) (.int 0)) (.ix (.var 0) (.int 1))))|0]
theorem vc_8:∀ ds M R E,S_8 ds M R E->rSs C_8 (ends R E) (startD 2 ds) M:=by
 rintro ds M R E ⟨p,q,rfl,ok,h⟩;unfold C_8;dsimp only[rSs,rS,rE,rEs,DL.plain,dSeq,dRet,dCall,dCons,dNil,d2,dVar,vAt,vHd,List.map,List.length_cons,List.length_nil,Nat.reduceAdd,Nat.reduceSub,List.replicate_succ,List.replicate_zero,List.cons_append,List.nil_append,dC,bOp,cOp,startD];have n:=ok.nd;refine (ix0 (ix1 (mulI n.1 (ix0 (ix1 (mulI n.2.1 ?_))))));show R (.bl (decide (p.num*q.den<q.num*p.den))) M;rw[show decide (p.num*(q.den:Int)<q.num*p.den)=decide (p<q) by simp only[lt_eq]];exact h
noncomputable def S_1:DSp:=fun ds M Q _=>∃ a b:Int,ds=[.int a,.int b]/\b≠0/\b.natAbs<2 ^ 8000/\Q (nm (Rat.divInt a b)) M
noncomputable def C_1:CSs:=%[.par 2 3 (.bi .abs %[.var 0|0]) (.bi .abs %[.var 1|0]),.whl (.cmp .NotEq (.var 3) (.int 0)) %[.par 2 3 (.var 3) (.bin .Mod (.var 2) (.var 3))|0],.ife (.cmp .Lt (.var 1) (.int 0)) %[.set 2 (.bin .Sub (.int 0) (.var 2))|0] .nil,.ret (.tup %[.bin .FloorDiv (.var 0) (.var 2),.bin .FloorDiv (.var 1) (.var 2)|0])|0]
theorem vc_1:∀ ds M R E,S_1 ds M R E->rSs C_1 (ends R E) (startD 4 ds) M:=by
 rintro ds M R E ⟨a,b,rfl,hb,hb2,h⟩;have L:=lowest a b hb;have D:=divOk_gcd (a:=a) hb hb2;simp[0,C_1,rSs,gdTup,vAt,vHd,dCallV,revOp,diSeq,diRng,dFor,dComp,bMul,bAdd,iOp,sOp,fLen,fTuple,fList,fIsi,fAll,fAny,itSeq,and_assoc,sizeLine_eq];refine⟨fun m δ M'=>∃ x y:Int,δ=[some (.int a),some (.int b),some (.int x),some (.int y)]/\M'=M/\0<=x/\0<=y/\Int.gcd x y=Int.gcd a b/\m=y.toNat,⟨_,_,_,rfl,rfl,?_,?_,?_,rfl⟩,?_⟩
 ·split<;>omega
 ·split<;>omega
 ·exact gcd_abs a b
 ·rintro m δ M' ⟨x,y,rfl,rfl,h0,h1,hg,rfl⟩
  ((try dsimp only[0,rSs,gdTup,vAt,vHd,List.set_cons_succ,List.set_cons_zero,List.cons_append,List.nil_append,List.map,List.length_cons,List.length_nil,Nat.reduceAdd,Nat.reduceSub,List.replicate_succ,List.replicate_zero,dCallV,revOp,diSeq,diRng,dFor,dComp,bMul,bAdd,iOp,sOp,fLen,fTuple,fList,fIsi,fAll,fAny,itSeq]);try simp[0,rSs,gdTup,vAt,vHd,dCallV,revOp,diSeq,diRng,dFor,dComp,bMul,bAdd,iOp,sOp,fLen,fTuple,fList,fIsi,fAll,fAny,itSeq,and_assoc,sizeLine_eq])
  refine eq_int true ?_;by_cases hy:y=0
  ·subst hy
   have e:((x.gcd 0:Nat):Int)=x:=by unfold Int.gcd;simp;omega
   rw[hg] at e;rw[e] at L D;unfold nm at h;by_cases nb:b<0
   ·rw[if_pos nb] at L D
    simp[nb,D];rw[L.1,L.2];exact h
   ·rw[if_neg nb] at L D
    simp[nb,D];rw[L.1,L.2];exact h
  ·have yp:0<y:=by omega
   simp[hy];refine⟨fun δ' M1=>δ'=[some (.int a),some (.int b),some (.int y),some (.int (x.fmod y))]/\M1=M',?_,rfl,rfl⟩;rintro δ' M1 ⟨rfl,rfl⟩;have:=fmod_range (x:=x) yp;exact⟨(x.fmod y).toNat,by omega,y,_,rfl,rfl,h1,this.1,by rw[gcd_step h0 yp];exact hg,rfl⟩
noncomputable def S_33:DSp:=fun ds M Q E=>∃ p q:Rat,ds=[nm p,nm q]/\Ok2 p q/\Q (nm (p+q)) M
noncomputable def C_33:CSs:=%[.ret (.call "_law_low" S_1 %[.bin .Add (.bin .Mult (.ix (.var 0) (.int 0)) (.ix (.var 1) (.int 1))) (.bin .Mult (.ix (.var 1) (.int 0)) (.ix (.var 0) (.int 1))),.bin .Mult (.ix (.var 0) (.int 1)) (.ix (.var 1) (.int 1))|0])|0]
theorem vc_33:∀ ds M R E,S_33 ds M R E->rSs C_33 (ends R E) (startD 2 ds) M:=by
 rintro ds M R E ⟨p,q,rfl,ok,h⟩;unfold C_33;dsimp only[rSs,rS,rE,rEs,DL.plain,dSeq,dRet,dCall,dCons,dNil,d2,dVar,vAt,vHd,List.map,List.length_cons,List.length_nil,Nat.reduceAdd,Nat.reduceSub,List.replicate_succ,List.replicate_zero,List.cons_append,List.nil_append,dC,bOp,startD];have n:=ok.nd;refine (ix0 (ix1 (mulI n.1 (ix0 (ix1 (mulI n.2.1 (addI (ix1 (ix1 (mulI n.2.2.1 ?_))))))))));refine⟨_,_,rfl,den_ne p q,ok.dd.1,?_⟩;rw[add_eq];exact h
noncomputable def S_3:DSp:=fun ds M Q E=>∃ p q:Rat,ds=[nm p,nm q]/\Ok2 p q/\Q (nm (p-q)) M
noncomputable def C_3:CSs:=%[.ret (.call "_law_low" S_1 %[.bin .Sub (.bin .Mult (.ix (.var 0) (.int 0)) (.ix (.var 1) (.int 1))) (.bin .Mult (.ix (.var 1) (.int 0)) (.ix (.var 0) (.int 1))),.bin .Mult (.ix (.var 0) (.int 1)) (.ix (.var 1) (.int 1))|0])|0]
theorem vc_3:∀ ds M R E,S_3 ds M R E->rSs C_3 (ends R E) (startD 2 ds) M:=by
 rintro ds M R E ⟨p,q,rfl,ok,h⟩;unfold C_3;dsimp only[rSs,rS,rE,rEs,DL.plain,dSeq,dRet,dCall,dCons,dNil,d2,dVar,vAt,vHd,List.map,List.length_cons,List.length_nil,Nat.reduceAdd,Nat.reduceSub,List.replicate_succ,List.replicate_zero,List.cons_append,List.nil_append,dC,bOp,startD];have n:=ok.nd;refine (ix0 (ix1 (mulI n.1 (ix0 (ix1 (mulI n.2.1 (subI (ix1 (ix1 (mulI n.2.2.1 ?_))))))))));refine⟨_,_,rfl,den_ne p q,ok.dd.1,?_⟩;rw[sub_eq];exact h
theorem MExt.upd_new (h:M0 p=Option.none) (e:MExt M0 M):MExt M0 (M.upd p o):=fun a u z=>by
 have:a≠p:=fun q=>by rw[q,h] at z;cases z
 rw[mupd_ne this];exact e a u z
theorem comp_map (xs:List DL.D) (f:DL.D->DL.D)
  (hti:∀ R:List DL.D->(Mem->Prop)->Mem->Prop,(∀ keep,(∀ M',MExt M M'->keep M')->R xs keep M)->ti δ M R) (hlen:xs.length<=1000)
  (hel:∀ x∈xs,∀ l M' (R:DSt->DK),l.length=n->MExt M M'->(∀ l' M'',l'.length=n->MExt M' M''->R (δ++l') (f x) M'')->g x (δ++l) M' fun δ1 M1=>te δ1 M1 fun d M2=>R δ1 d M2)
  (hq:∀ p M',M p=Option.none->MExt M M'->M' p=some (.ls (xs.map f))->Q (.lst p) M'):dComp n ti g te δ M Q:=by
 refine hti _ fun keep hk p hp=>⟨hk _ (.new hp),?_⟩;refine compD_pure (M0:=M) f (fun δ'=>∃ l,l.length=n/\δ'=δ++l) hp hk ?_ (by simpa using hlen) ?_ ⟨_,by simp,rfl⟩ (.new hp) mupd_same
 ·rintro x hx δ' M' R ⟨l,hl,rfl⟩ e r
  exact hel x hx l M' R hl e fun l' M'' h1 h2=>r _ M'' ⟨l',h1,rfl⟩ h2
 ·intro M' e l
  exact⟨⟨_,l⟩,hq p M' hp e (by simpa using l)⟩
theorem compD_pureG (e f:α->DL.D) (I:DSt->Prop) (h0:M0 p=none) (hk:∀ M,MExt M0 M->keep M) :
  ∀ {xs:List α} {acc:List DL.D},(∀ x∈xs,∀ δ M (R:DSt->DK),I δ->MExt M0 M->(∀ δ1 M',I δ1->MExt M M'->R δ1 (f x) M')->g (e x) δ M fun δ1 M1=>te δ1 M1 fun d M2=>R δ1 d M2) ->
  (acc++xs.map f).length<=1000->(∀ M',MExt M0 M'->M' p=some (.ls (acc++xs.map f))->Q M')->∀ {δ M},I δ->MExt M0 M->M p=some (.ls acc)->compD g te keep p (xs.map e) acc δ M Q
 | [],acc,_,_,q,δ,M,i,e',l=>by show compD g te keep p [] acc δ M Q;unfold compD;exact q M e' (by simpa using l)
 | x::xs,acc,h,hz,q,δ,M,i,e',l=>by
  show compD g te keep p (e x::xs.map e) acc δ M Q;unfold compD;refine h x List.mem_cons_self δ M (fun δ1 d M2=>M2 p=some (.ls acc)/\acc.length<sizeLine/\keep (M2.upd p (.ls (acc++[d])))/\compD g te keep p (xs.map e) (acc++[d]) δ1 (M2.upd p (.ls (acc++[d]))) Q) i e' fun δ1 M' i' e2=>?_;have e3:MExt M0 (M'.upd p (.ls (acc++[f x]))):=MExt.upd_new h0 (e'.trans e2);refine⟨e2 _ _ l,?_,hk _ e3,compD_pureG e f I h0 hk (fun y hy=>h y (List.mem_cons_of_mem _ hy)) (by simpa using hz) (fun M2 e4 l4=>q M2 e4 (by simpa using l4)) i' e3 mupd_same⟩;rw[sizeLine_eq];simp at hz;omega
theorem comp_mapG (xs:List α) (e f:α->DL.D)
  (hti:∀ R:List DL.D->(Mem->Prop)->Mem->Prop,(∀ keep,(∀ M',MExt M M'->keep M')->R (xs.map e) keep M)->ti δ M R) (hlen:xs.length<=1000)
  (hel:∀ x∈xs,∀ l M' (R:DSt->DK),l.length=n->MExt M M'->(∀ l' M'',l'.length=n->MExt M' M''->R (δ++l') (f x) M'')->g (e x) (δ++l) M' fun δ1 M1=>te δ1 M1 fun d M2=>R δ1 d M2)
  (hq:∀ p M',M p=Option.none->MExt M M'->M' p=some (.ls (xs.map f))->Q (.lst p) M'):dComp n ti g te δ M Q:=by
 refine hti _ fun keep hk p hp=>⟨hk _ (.new hp),?_⟩;refine compD_pureG (M0:=M) e f (fun δ'=>∃ l,l.length=n/\δ'=δ++l) hp hk ?_ (by simpa using hlen) ?_ ⟨_,by simp,rfl⟩ (.new hp) mupd_same
 ·rintro x hx δ' M' R ⟨l,hl,rfl⟩ e2 r
  exact hel x hx l M' R hl e2 fun l' M'' h1 h2=>r _ M'' ⟨l',h1,rfl⟩ h2
 ·intro M' e2 l
  exact⟨⟨_,l⟩,hq p M' hp e2 (by simpa using l)⟩
theorem ti_tup (h:δ[i]?=some (some (.tup xs))):∀ R:List DL.D->(Mem->Prop)->Mem->Prop,(∀ keep,(∀ M',MExt M M'->keep M')->R xs keep M)->diSeq (dVar i) δ M R :=
 fun R r=>vAt_of h (r _ fun _ _=>trivial)
theorem ti_lst (h:δ[i]?=some (some (.lst a))) (l:M a=some (.ls xs)):∀ R:List DL.D->(Mem->Prop)->Mem->Prop,(∀ keep,(∀ M',MExt M M'->keep M')->R xs keep M)->diSeq (dVar i) δ M R :=
 fun R r=>vAt_of h ⟨_,l,r _ fun M' e=>e _ _ l⟩
theorem len1 (h:l.length=1):∃ a,l=[a]:=match l,h with | [a],_=>⟨a,rfl⟩
theorem len2 (h:l.length=2):∃ a b,l=[a,b]:=match l,h with | [a,b],_=>⟨a,b,rfl⟩
theorem len3 (h:l.length=3):∃ a b c,l=[a,b,c]:=match l,h with | [a,b,c],_=>⟨a,b,c,rfl⟩
theorem all_of {M:Mem} {p:Addr} {Q:DK} {α:Type} {xs:List α} {f:α->Bool} (l:M p=some (.ls (xs.map fun x=>.bl (f x)))) (h:Q (.bl (xs.all f)) M):fAll [.lst p] M Q :=
 ⟨xs.map f,by rw[l,List.map_map];rfl,by rw[List.all_map];exact h⟩
theorem any_of {M:Mem} {p:Addr} {Q:DK} {α:Type} {xs:List α} {f:α->Bool} (l:M p=some (.ls (xs.map fun x=>.bl (f x)))) (h:Q (.bl (xs.any f)) M):fAny [.lst p] M Q :=
 ⟨xs.map f,by rw[l,List.map_map];rfl,by rw[List.any_map];exact h⟩
mutual
noncomputable def Gd (M:Mem):DL.D->Prop
 | .tup xs=>Gds M xs
 | .int i=>i.natAbs<2 ^ 3000
 | .non=>True
 | .bl _=>True
 | .str _=>True
 | .fz _=>True
 | .lst a=>∃ xs,M a=some (.ls xs)
 | .dct a=>∃ xs,M a=some (.dk xs)
 | _=>False
noncomputable def Gds (M:Mem):List DL.D->Prop
 | []=>True
 | d::r=>Gd M d/\Gds M r
end
mutual
theorem Gd.ext (e:MExt M M'):∀ d,Gd M d->Gd M' d
 | .tup xs,h=>by unfold Gd at h ⊢;exact Gds.ext e xs h
 | .lst a,h=>by unfold Gd at h ⊢;exact let ⟨xs,q⟩:=h;⟨xs,e _ _ q⟩
 | .dct a,h=>by unfold Gd at h ⊢;exact let ⟨xs,q⟩:=h;⟨xs,e _ _ q⟩
 | .int i,h=>by unfold Gd at h ⊢;exact h
 | .non,_=>by unfold Gd;trivial
 | .bl _,_=>by unfold Gd;trivial
 | .str _,_=>by unfold Gd;trivial
 | .fz _,_=>by unfold Gd;trivial
 | .ty _,h=>by unfold Gd at h;exact h.elim
 | .ref _,h=>by unfold Gd at h;exact h.elim
 | .exc _ _,h=>by unfold Gd at h;exact h.elim
 | .cls _,h=>by unfold Gd at h;exact h.elim
theorem Gds.ext (e:MExt M M'):∀ ds,Gds M ds->Gds M' ds
 | [],_=>by unfold Gds;trivial
 | d::r,h=>by unfold Gds at h ⊢;exact⟨Gd.ext e d h.1,Gds.ext e r h.2⟩
end
theorem Gds.mem:∀ {ds:List DL.D},Gds M ds->∀ d∈ds,Gd M d
 | [],_,_,h=>by cases h
 | x::r,h,d,hd=>by
  unfold Gds at h;rcases List.mem_cons.mp hd with rfl|hd
  ·exact h.1
  ·exact Gds.mem h.2 d hd
theorem Gds.of:∀ {ds:List DL.D},(∀ d∈ds,Gd M d)->Gds M ds
 | [],_=>by unfold Gds;trivial
 | x::r,h=>by unfold Gds;exact⟨h x List.mem_cons_self,Gds.of fun d hd=>h d (List.mem_cons_of_mem _ hd)⟩
theorem Gd.tup (h:Gd M (.tup ds)):∀ d∈ds,Gd M d:=by unfold Gd at h;exact h.mem
theorem Gd.mk (h:∀ d∈ds,Gd M d):Gd M (.tup ds):=by unfold Gd;exact .of h
theorem Gd.ty (h:Gd M d):∃ t,tyD M d=some t:=by
 cases d<;>unfold Gd at h<;>first|exact⟨_,rfl⟩|exact h.elim|(obtain⟨xs,q⟩:=h;simp[tyD,q])
theorem tyD_nt (hn:∀ ds,d≠.tup ds) (h:tyD M d=some t):isiT t "tuple"=false:=by
 cases d with
 | tup ds=>exact absurd rfl (hn ds)
 | lst a =>
  simp only[tyD] at h;split at h<;>cases h
  decide
 | dct a =>
  simp only[tyD] at h;split at h<;>cases h
  decide
 | _=>first|(cases h;decide)|cases h
theorem int_of_ty (h:tyD M d=some "int"):∃ i,d=.int i:=by
 cases d with
 | int i=>exact⟨i,rfl⟩
 | lst a=>simp only[tyD] at h;split at h<;>simp at h
 | dct a=>simp only[tyD] at h;split at h<;>simp at h
 | _=>simp[tyD] at h
noncomputable def S_9:DSp:=fun ds M Q _=>∃ d t,ds=[d]/\tyD M d=some t/\Q (.bl (decide (t="int"))) M
noncomputable def C_9:CSs:=%[.ret (.and (.bi .isinstance %[.var 0,.ty .int|0]) (.one (.not (.bi .isinstance %[.var 0,.ty .bool|0]))))|0]
theorem vc_9:∀ ds M R E,S_9 ds M R E->rSs C_9 (ends R E) (startD 1 ds) M:=by
 rintro ds M R E ⟨d,t,rfl,ht,h⟩;simp[0,C_9,rSs,gdTup,vAt,vHd,dCallV,revOp,diSeq,diRng,dFor,dComp,bMul,bAdd,iOp,sOp,fLen,fTuple,fList,fIsi,fAll,fAny,itSeq,and_assoc,sizeLine_eq,ht];by_cases h1:t="int"
 ·subst h1;simp[isiT];exact h
 ·by_cases h2:t="bool"
  ·subst h2;simp[isiT];exact h
  ·simp[isiT,h1,h2];simpa[h1] using h
noncomputable def num?:DL.D->Option Rat
 | .tup [.int a,.int b]=>if 1<=b/\Int.gcd a b=1 then some (Rat.divInt a b) else none
 | _=>none
theorem num_two (a b:Int):num? (.tup [.int a,.int b])=if 1<=b/\Int.gcd a b=1 then some (Rat.divInt a b) else none:=rfl
theorem num_nm (q:Rat):num? (nm q)=some q:=by
 unfold nm;have:=den_pos q;rw[num_two,if_pos ⟨by omega,gcd_self q⟩,divInt_lowest]
theorem num_eq (h:num? d=some q):d=nm q:=by
 unfold num? at h;split at h
 ·rename_i a b
  split at h
  ·rename_i hc
   cases h;obtain⟨e1,e2⟩:=of_gcd hc.1 hc.2;unfold nm;rw[e1,e2]
  ·cases h
 ·cases h
noncomputable def isNum (d:DL.D):Bool:=(num? d).isSome
theorem isNum_iff:isNum d=true ↔ ∃ q,d=nm q:=by
 unfold isNum;constructor
 ·intro h;obtain⟨q,e⟩:=Option.isSome_iff_exists.mp h;exact⟨q,num_eq e⟩
 ·rintro⟨q,rfl⟩;rw[num_nm];rfl
theorem isNum_nm (q:Rat):isNum (nm q)=true:=isNum_iff.mpr ⟨q,rfl⟩
theorem isNum_not (h:(∀ i,a≠.int i)\/∀ i,b≠.int i):isNum (.tup [a,b])=false:=by
 unfold isNum num?;split
 ·rename_i i j e
  simp at e;rcases h with h|h
  ·exact absurd e.1 (h i)
  ·exact absurd e.2 (h j)
 ·rfl
theorem Gd.sz (h:Gd M (nm q)):Sz 3000 q:=by
 have a:=h.tup (.int q.num) (by simp);have b:=h.tup (.int q.den) (by simp);unfold Gd at a b;exact⟨a,by simpa using b⟩
theorem Gd.nm (h:Sz n q) (hn:n<=3000):Gd M (nm q):=by
 refine .mk fun d hd=>?_;have:=h.mono hn;simp at hd;rcases hd with rfl|rfl<;>unfold Gd
 ·exact this.1
 ·simpa using this.2
noncomputable def S_10:DSp:=fun ds M Q _=>∃ d,ds=[d]/\Gd M d/\Q (.bl (isNum d)) M
noncomputable def C_10:CSs:=%[.ife (.or (.not (.bi .isinstance %[.var 0,.ty .tuple|0])) (.one (.cmp .NotEq (.bi .len %[.var 0|0]) (.int 2)))) %[.ret (.bl false)|0] .nil,.asg (.tup %[.name 1,.name 2|0]) (.var 0),.ife (.or (.not (.call "is_whole" S_9 %[.var 1|0])) (.or (.not (.call "is_whole" S_9 %[.var 2|0])) (.one (.cmp .Lt (.var 2) (.int 1))))) %[.ret (.bl false)|0] .nil,.ret (.cmp .Eq (.call "greatest_divisor" S_4 %[.var 1,.var 2|0]) (.int 1))|0]
theorem vc_10:∀ ds M R E,S_10 ds M R E->rSs C_10 (ends R E) (startD 3 ds) M:=by
 rintro ds M R E ⟨d,rfl,gd,h⟩;obtain⟨t,ht⟩:=gd.ty;by_cases hd:∃ xs,d=.tup xs
 ·obtain⟨xs,rfl⟩:=hd
  by_cases hl:xs.length=2
  ·obtain⟨a,b,rfl⟩:∃ a b,xs=[a,b]:=by
    match xs,hl with
    | [a,b],_=>exact⟨a,b,rfl⟩
   obtain⟨ta,hta⟩:=(gd.tup a (by simp)).ty;obtain⟨tb,htb⟩:=(gd.tup b (by simp)).ty;unfold C_10;rw[rSs_cons];simp[0,gdTup,vAt,vHd,dCallV,revOp,bMul,bAdd,sOp,fTuple,fList,fIsi,itSeq,and_assoc,sizeLine_eq,rSs_nil,fLen,tyD,isiT];refine eq_int true ?_;simp;sleep 1;rw[rSs_cons];sleep 2;refine⟨a,ta,rfl,hta,?_⟩;by_cases h1:ta="int"
   ·subst h1
    obtain⟨i,rfl⟩:=int_of_ty hta;simp;refine⟨b,tb,rfl,htb,?_⟩;by_cases h2:tb="int"
    ·subst h2
     obtain⟨j,rfl⟩:=int_of_ty htb;simp;by_cases h3:j<1
     ·have e:isNum (.tup [.int i,.int j])=false:=by
       unfold isNum;rw[num_two,if_neg %[|5]];rfl
      simp[h3];rw[e] at h;exact h
     ·simp[h3]
      sleep 1;refine⟨i,j,rfl,?_⟩;refine eq_int false ?_;have e:isNum (.tup [.int i,.int j])=(((Int.gcd i j:Nat):Int)==1):=by
       unfold isNum;rw[num_two];by_cases hg:Int.gcd i j=1
       ·rw[if_pos ⟨by omega,hg⟩,hg];rfl
       ·rw[if_neg %[|5]]
        have:((Int.gcd i j:Nat):Int)≠1:=by omega
        simp[this]
      rw[e] at h;exact h
    ·simp[h2]
     have e:=isNum_not (a:=.int i) (b:=b) (.inr fun j z=>h2 (by subst z;cases htb;rfl));rw[e] at h;exact h
   ·simp[h1]
    have e:=isNum_not (a:=a) (b:=b) (.inl fun j z=>h1 (by subst z;cases hta;rfl));rw[e] at h;exact h
  ·have e:isNum (.tup xs)=false:=by
    unfold isNum num?;split
    ·rename_i z;cases z;simp at hl
    ·rfl
   rw[e] at h;unfold C_10;rw[rSs_cons];simp[0,gdTup,vAt,vHd,dCallV,revOp,bMul,bAdd,sOp,fTuple,fList,fIsi,itSeq,and_assoc,sizeLine_eq,rSs_nil,fLen,tyD,isiT];refine eq_int true ?_;have:¬ ((xs.length:Int)=2):=by omega
   simp[this];exact h
 ·have hn:∀ ds,d≠.tup ds:=fun ds z=>hd ⟨ds,z⟩
  have e:isNum d=false:=by
   unfold isNum num?;split
   ·exact absurd rfl (hn _)
   ·rfl
  rw[e] at h;unfold C_10;rw[rSs_cons];simp[0,gdTup,vAt,vHd,dCallV,revOp,bMul,bAdd,sOp,fTuple,fList,fIsi,itSeq,and_assoc,sizeLine_eq,rSs_nil,ht,tyD_nt hn ht];exact h
noncomputable def areNums (l m:Int):DL.D->Bool
 | .tup xs=>decide (l<=xs.length)&&decide ((xs.length:Int)<=m)&&xs.all isNum
 | _=>false
noncomputable def S_15:DSp:=fun ds M Q _=>∃ d l m,ds=[d,.int l,.int m]/\m<=1000/\Gd M d/\∀ M',MExt M M'->Q (.bl (areNums l m d)) M'
noncomputable def C_15:CSs:=%[.ife (.or (.not (.bi .isinstance %[.var 0,.ty .tuple|0])) (.one (.not (.chain .LtE .LtE (.var 1) (.bi .len %[.var 0|0]) (.var 2))))) %[.ret (.bl false)|0] .nil,.ret (.bi .all %[.comp ["thing","least","most","part"] 1 (.name 3) (.seq (.var 0)) (.call "is_number" S_10 %[.var 3|0])|0])|0]
theorem vc_15:∀ ds M R E,S_15 ds M R E->rSs C_15 (ends R E) (startD 3 ds) M:=by
 rintro ds M R E ⟨d,l,m,rfl,hm,gd,h⟩;obtain⟨t,ht⟩:=gd.ty;by_cases hd:∃ xs,d=.tup xs
 ·obtain⟨xs,rfl⟩:=hd
  simp[0,C_15,rSs,gdTup,vAt,vHd,revOp,bMul,bAdd,iOp,sOp,fLen,fTuple,fList,fIsi,itSeq,and_assoc,sizeLine_eq,tyD,isiT];by_cases h1:l<=(xs.length:Int)
  ·by_cases h2:(xs.length:Int)<=m
   ·rw[if_pos h1,if_pos h2]
    refine comp_map xs (fun x=>.bl (isNum x)) (ti_tup rfl) %[|5] ?_ ?_
    ·intro x hx l' M' R' hl e r
     obtain⟨a,rfl⟩:=len1 hl
     ((try dsimp only[0,rSs,gdTup,vAt,vHd,List.set_cons_succ,List.set_cons_zero,List.cons_append,List.nil_append,List.map,List.length_cons,List.length_nil,Nat.reduceAdd,Nat.reduceSub,List.replicate_succ,List.replicate_zero,dCallV,revOp,diSeq,diRng,dFor,dComp,bMul,bAdd,iOp,sOp,fLen,fTuple,fList,fIsi,fAll,fAny,itSeq]);try simp[0,rSs,gdTup,vAt,vHd,dCallV,revOp,diSeq,diRng,dFor,dComp,bMul,bAdd,iOp,sOp,fLen,fTuple,fList,fIsi,fAll,fAny,itSeq,and_assoc,sizeLine_eq])
     exact⟨x,rfl,(gd.tup x hx).ext e,r [some x] M' rfl (.refl _)⟩
    ·intro p M' hp e l'
     refine all_of l' ?_;have:=h M' e
     simpa[areNums,h1,h2] using this
   ·rw[if_pos h1,if_neg h2]
    have:=h M (.refl M)
    simpa[areNums,h2] using this
  ·rw[if_neg h1]
   have:=h M (.refl M)
   simpa[areNums,h1] using this
 ·have hn:∀ ds,d≠.tup ds:=fun ds z=>hd ⟨ds,z⟩
  have e:areNums l m d=false:=by
   unfold areNums;split
   ·exact absurd rfl (hn _)
   ·rfl
  rw[e] at h;simp[0,C_15,rSs,gdTup,vAt,vHd,dCallV,revOp,diSeq,diRng,dFor,dComp,bMul,bAdd,iOp,sOp,fLen,fTuple,fList,fIsi,fAll,fAny,itSeq,and_assoc,sizeLine_eq,ht,tyD_nt hn ht];exact h M (.refl M)
structure EqEnc {α:Type} [DecidableEq α] (e:α->DL.D) (k:Nat):Prop where
 ex:∃ e':α->PyData,(∀ M a,Py M (e a) (e' a))/\(∀ a b,PyData.eqv (e' a) (e' b)=decide (a=b))/\∀ a,(e' a).depth<=k
theorem EqEnc.eq {α:Type} [DecidableEq α] {e:α->DL.D} {k:Nat} (h:EqEnc e k) (hk:k<=60) {M:Mem} {Q:DK} {a b:α} (neg:Bool) (q:Q (.bl (if neg then !decide (a=b) else decide (a=b))) M):cEq neg (e a) (e b) M Q:=by
 obtain⟨e',h1,h2,h3⟩:=h.ex;refine cEq_of (h1 M a) (h1 M b) ?_ (by rw[h2];exact q);have:=h3 a;omega
theorem enc_int:EqEnc (α:=Int) (fun i=>.int i) 1:=⟨fun i=>.int i,fun _ i=>.int i,fun a b=>by simp[PyData.eqv];rfl,fun a=>by simp[PyData.depth]⟩
theorem enc_nm:EqEnc nm 3:=by
 refine⟨fun q=>.tuple [.int q.num,.int q.den],fun M q=>.tup (.cons (.int _) (.cons (.int _) .nil)),fun p q=>?_,fun q=>by simp[PyData.depth,PyData.depthAll]⟩;simp only[PyData.eqv,PyData.eqvAll];by_cases h:p=q
 ·subst h;simp
 ·have:¬ (p.num=q.num/\(p.den:Int)=q.den):=fun ⟨a,b⟩=>h (Rat.ext a %[|5])
  simp only[h,decide_false];rw[Bool.eq_false_iff];intro z;simp at z;exact this ⟨z.1,by omega⟩
theorem depth_all:∀ {l:List PyData},(∀ x∈l,x.depth<=k)->PyData.depthAll l<=k
 | [],_=>by simp[PyData.depthAll]
 | x::r,h=>by
  have a:=h x List.mem_cons_self;have b:=depth_all fun y hy=>h y (List.mem_cons_of_mem _ hy);simp only[PyData.depthAll];omega
theorem pys_of {α:Type} {e:α->DL.D} {e':α->PyData} {M:Mem} (h:∀ a,Py M (e a) (e' a)):∀ l:List α,Pys M (l.map e) (l.map e')
 | []=>.nil
 | a::r=>.cons (h a) (pys_of h r)
theorem eqv_all [DecidableEq α] (h:∀ a b,PyData.eqv (e' a) (e' b)=decide (a=b)):∀ l m:List α,PyData.eqvAll (l.map e') (m.map e')=decide (l=m)
 | [],[]=>by simp[PyData.eqvAll]
 | [],_::_=>by simp[PyData.eqvAll]
 | _::_,[]=>by simp[PyData.eqvAll]
 | a::l,b::m=>by
  simp only[List.map_cons,PyData.eqvAll,h,eqv_all h l m,List.cons.injEq];by_cases h1:a=b<;>by_cases h2:l=m<;>simp[h1,h2]
theorem EqEnc.tup {α:Type} [DecidableEq α] {e:α->DL.D} {k:Nat} (h:EqEnc e k):EqEnc (fun l:List α=>.tup (l.map e)) (k+1):=by
 obtain⟨e',h1,h2,h3⟩:=h.ex;refine⟨fun l=>.tuple (l.map e'),fun M l=>.tup (pys_of (h1 M) l),fun a b=>by simp only[PyData.eqv];exact eqv_all h2 a b,fun l=>?_⟩;simp only[PyData.depth];have:=depth_all (k:=k) (l:=l.map e') (by simp;exact fun a _=>h3 a);omega
theorem EqEnc.pair [DecidableEq α] [DecidableEq β] (h:EqEnc e k) (h':EqEnc f k):EqEnc (fun p:α×β=>.tup [e p.1,f p.2]) (k+1):=by
 obtain⟨e',h1,h2,h3⟩:=h.ex;obtain⟨f',g1,g2,g3⟩:=h'.ex;refine⟨fun p=>.tuple [e' p.1,f' p.2],fun M p=>.tup (.cons (h1 M _) (.cons (g1 M _) .nil)),fun a b=>?_,fun p=>?_⟩
 ·obtain⟨a1,a2⟩:=a
  obtain⟨b1,b2⟩:=b;simp only[PyData.eqv,PyData.eqvAll,h2,g2,Prod.mk.injEq];by_cases z1:a1=b1<;>by_cases z2:a2=b2<;>simp[z1,z2]
 ·simp only[PyData.depth,PyData.depthAll]
  have:=h3 p.1;have:=g3 p.2;omega
noncomputable def rw (r:List Rat):DL.D:=.tup (r.map nm)
noncomputable def pl (p:Rat×Rat):DL.D:=.tup [nm p.1,nm p.2]
noncomputable def tb (t:List (Rat×Rat)):DL.D:=.tup (t.map pl)
theorem eq_nm {M:Mem} {Q:DK} {a b:Rat} (neg:Bool) (q:Q (.bl (if neg then !decide (a=b) else decide (a=b))) M):cEq neg (nm a) (nm b) M Q:=enc_nm.eq %[|4] neg q
noncomputable def place?:DL.D->Option (Rat×Rat)
 | .tup [a,b]=>match num? a,num? b with
  | some p,some q=>if p<=q then some (p,q) else none
  | _,_=>none
 | _=>none
noncomputable def isPlace (d:DL.D):Bool:=(place? d).isSome
theorem place_eq (h:place? d=some p):d=pl p/\p.1<=p.2:=by
 unfold place? at h;split at h
 ·rename_i a b
  split at h
  ·rename_i x y e1 e2
   split at h
   ·rename_i hl
    cases h;exact⟨by rw[num_eq e1,num_eq e2];rfl,hl⟩
   ·cases h
  ·cases h
 ·cases h
theorem place_pl (h:p.1<=p.2):place? (pl p)=some p:=by
 unfold pl place?;simp only[num_nm];rw[if_pos h]
theorem isPlace_iff:isPlace d=true ↔ ∃ p:Rat×Rat,d=pl p/\p.1<=p.2:=by
 unfold isPlace;constructor
 ·intro h;obtain⟨p,e⟩:=Option.isSome_iff_exists.mp h;exact⟨p,place_eq e⟩
 ·rintro⟨p,rfl,h⟩;rw[place_pl h];rfl
noncomputable def S_16:DSp:=fun ds M Q _=>∃ d,ds=[d]/\Gd M d/\∀ M',MExt M M'->Q (.bl (isPlace d)) M'
noncomputable def C_16:CSs:=%[.ret (.and (.call "are_numbers" S_15 %[.var 0,.int 2,.int 2|0]) (.one (.not (.call "is_less" S_8 %[.ix (.var 0) (.int 1),.ix (.var 0) (.int 0)|0]))))|0]
theorem ite_t {a b:Prop} (h:a):if true=true then a else b:=h
theorem ite_f {a b:Prop} (h:b):if false=true then a else b:=h
theorem vc_16:∀ ds M R E,S_16 ds M R E->rSs C_16 (ends R E) (startD 1 ds) M:=by
 rintro ds M R E ⟨d,rfl,gd,h⟩;unfold C_16;dsimp only[rSs,rS,rE,rEs,DL.plain,dSeq,dRet,dCall,dCons,dNil,d2,dVar,vAt,vHd,List.map,List.length_cons,List.length_nil,Nat.reduceAdd,Nat.reduceSub,List.replicate_succ,List.replicate_zero,List.cons_append,List.nil_append,List.set_cons_succ,List.set_cons_zero,dC,startD,dAndV,dNotB,dTru,dNot];refine⟨d,2,2,rfl,by decide,gd,fun M' e=>⟨_,rfl,?_⟩⟩;cases q:areNums 2 2 d with
 | true =>
  obtain⟨a,b,rfl,ha,hb⟩:∃ a b,d=.tup [a,b]/\isNum a=true/\isNum b=true:=by
   unfold areNums at q;split at q
   ·rename_i xs
    simp at q;obtain⟨a,b,rfl⟩:=len2 (l:=xs) %[|5];exact⟨a,b,rfl,by simpa using q.2 a (by simp),by simpa using q.2 b (by simp)⟩
   ·cases q
  obtain⟨x,rfl⟩:=isNum_iff.mp ha;obtain⟨y,rfl⟩:=isNum_iff.mp hb;have sx:=(gd.tup (nm x) (by simp)).sz;have sy:=(gd.tup (nm y) (by simp)).sz;refine ite_t ⟨_,at_one _ _ _,_,at_zero _ _,y,x,rfl,.mk sy sx %[|4],?_⟩;have:=h M' e;have e2:isPlace (.tup [nm x,nm y])=!decide (y<x):=by
   unfold isPlace place?;simp only[num_nm];by_cases z:x<=y
   ·rw[if_pos z,decide_eq_false (by grind)];rfl
   ·rw[if_neg z,decide_eq_true (by grind)];rfl
  rw[e2] at this;exact⟨_,rfl,this⟩
 | false =>
  refine ite_f ?_;have:=h M' e;have e2:isPlace d=false:=by
   cases z:isPlace d with
   | false=>rfl
   | true =>
    obtain⟨p,rfl,_⟩:=isPlace_iff.mp z;simp[areNums,pl,isNum_nm] at q
  rw[e2] at this;exact this
abbrev G_MOST_PLACES:DL.D:=.int 25
noncomputable def isTube:DL.D->Bool
 | .tup xs=>decide (2<=xs.length)&&decide (xs.length<=25)&&xs.all isPlace
 | _=>false
noncomputable def S_17:DSp:=fun ds M Q _=>∃ d,ds=[d]/\Gd M d/\∀ M',MExt M M'->Q (.bl (isTube d)) M'
noncomputable def C_17:CSs:=%[.ife (.or (.not (.bi .isinstance %[.var 0,.ty .tuple|0])) (.one (.not (.chain .LtE .LtE (.int 2) (.bi .len %[.var 0|0]) (.glo "MOST_PLACES" G_MOST_PLACES))))) %[.ret (.bl false)|0] .nil,.ret (.bi .all %[.comp ["thing","part"] 1 (.name 1) (.seq (.var 0)) (.call "is_place" S_16 %[.var 1|0])|0])|0]
theorem vc_17:∀ ds M R E,S_17 ds M R E->rSs C_17 (ends R E) (startD 1 ds) M:=by
 rintro ds M R E ⟨d,rfl,gd,h⟩;obtain⟨t,ht⟩:=gd.ty;by_cases hd:∃ xs,d=.tup xs
 ·obtain⟨xs,rfl⟩:=hd
  simp[0,C_17,rSs,gdTup,vAt,vHd,revOp,bMul,bAdd,iOp,sOp,fLen,fTuple,fList,fIsi,itSeq,and_assoc,sizeLine_eq,tyD,isiT];by_cases h1:(2:Int)<=(xs.length:Int)
  ·by_cases h2:(xs.length:Int)<=25
   ·rw[if_pos h1,if_pos h2]
    refine comp_map xs (fun x=>.bl (isPlace x)) (ti_tup rfl) %[|5] ?_ ?_
    ·intro x hx l' M' R' hl e r
     obtain⟨a,rfl⟩:=len1 hl
     ((try dsimp only[0,rSs,gdTup,vAt,vHd,List.set_cons_succ,List.set_cons_zero,List.cons_append,List.nil_append,List.map,List.length_cons,List.length_nil,Nat.reduceAdd,Nat.reduceSub,List.replicate_succ,List.replicate_zero,dCallV,revOp,diSeq,diRng,dFor,dComp,bMul,bAdd,iOp,sOp,fLen,fTuple,fList,fIsi,fAll,fAny,itSeq]);try simp[0,rSs,gdTup,vAt,vHd,dCallV,revOp,diSeq,diRng,dFor,dComp,bMul,bAdd,iOp,sOp,fLen,fTuple,fList,fIsi,fAll,fAny,itSeq,and_assoc,sizeLine_eq])
     exact⟨x,rfl,(gd.tup x hx).ext e,fun M'' e2=>r [some x] M'' rfl e2⟩
    ·intro p M' hp e l'
     refine all_of l' ?_;have:=h M' e;have z1:2<=xs.length:=by omega
     have z2:xs.length<=25:=by omega
     simpa[isTube,z1,z2] using this
   ·rw[if_pos h1,if_neg h2]
    have:=h M (.refl M);have z2:¬ xs.length<=25:=by omega
    simpa[isTube,z2] using this
  ·rw[if_neg h1]
   have:=h M (.refl M);have z1:¬ 2<=xs.length:=by omega
   simpa[isTube,z1] using this
 ·have hn:∀ ds,d≠.tup ds:=fun ds z=>hd ⟨ds,z⟩
  have e:isTube d=false:=by
   unfold isTube;split
   ·exact absurd rfl (hn _)
   ·rfl
  rw[e] at h;simp[0,C_17,rSs,gdTup,vAt,vHd,dCallV,revOp,diSeq,diRng,dFor,dComp,bMul,bAdd,iOp,sOp,fLen,fTuple,fList,fIsi,fAll,fAny,itSeq,and_assoc,sizeLine_eq,ht,tyD_nt hn ht];exact h M (.refl M)
theorem all_place (h:xs.all isPlace=true):∃ t:List (Rat×Rat),xs=t.map pl/\∀ p∈t,p.1<=p.2:=by
 induction xs with
 | nil=>exact⟨[],rfl,by simp⟩
 | cons x r ih =>
  simp only[List.all_cons,Bool.and_eq_true] at h;obtain⟨p,rfl,hp⟩:=isPlace_iff.mp h.1;obtain⟨t,rfl,ht⟩:=ih h.2;refine⟨p::t,rfl,fun q hq=>?_⟩;rcases List.mem_cons.mp hq with rfl|hq
  ·exact hp
  ·exact ht q hq
structure Tube (t:List (Rat×Rat)):Prop where
 two:2<=t.length
 most:t.length<=25
 ok:∀ p∈t,p.1<=p.2
theorem isTube_iff:isTube d=true ↔ ∃ t,d=tb t/\Tube t:=by
 constructor
 ·intro h
  unfold isTube at h;split at h
  ·simp only[Bool.and_eq_true,decide_eq_true_eq] at h
   obtain⟨t,rfl,ht⟩:=all_place h.2;exact⟨t,rfl,by simpa using h.1.1,by simpa using h.1.2,ht⟩
  ·cases h
 ·rintro⟨t,rfl,ht⟩
  unfold isTube tb;have:=ht.two;have:=ht.most;simp only[List.length_map,Bool.and_eq_true,decide_eq_true_eq];refine⟨⟨ht.two,ht.most⟩,?_⟩;rw[List.all_eq_true];intro x hx;obtain⟨p,hp,rfl⟩:=List.mem_map.mp hx;exact isPlace_iff.mpr ⟨p,rfl,ht.ok p hp⟩
noncomputable def Sq (M:Mem) (d:DL.D) (xs:List DL.D):Prop:=d=.tup xs\/d=.fz xs\/∃ a,d=.lst a/\M a=some (.ls xs)
theorem Sq.ext (h:Sq M d xs) (e:MExt M M'):Sq M' d xs:=by
 rcases h with h|h|⟨a,h,l⟩
 ·exact .inl h
 ·exact .inr (.inl h)
 ·exact .inr (.inr ⟨a,h,e _ _ l⟩)
theorem Sq.ix (h:Sq M d xs) (e:L2.atI xs i=some v) (q:Q v M):iOp d (.int i) M Q:=by
 rcases h with rfl|rfl|⟨a,rfl,l⟩
 ·exact⟨v,e,q⟩
 ·exact⟨v,e,q⟩
 ·exact⟨xs,v,l,e,q⟩
theorem Sq.len (h:Sq M d xs) (q:Q (.int xs.length) M):fLen [d] M Q:=by
 rcases h with rfl|rfl|⟨a,rfl,l⟩
 ·exact q
 ·exact q
 ·exact⟨xs,l,q⟩
theorem at_nat {α:Type} {xs:List α} {i:Nat} {v:α} (h:xs[i]?=some v):L2.atI xs (i:Int)=some v:=L2.atI_nat h
theorem at_last (h:xs≠[]):L2.atI xs (-1)=some (xs.getLast h):=by
 unfold L2.atI L2.ixN;have:=List.length_pos_iff.mpr h;rw[if_neg %[|5],if_pos %[|5]];have e:(-1+(xs.length:Int)).toNat=xs.length-1:=by omega
 rw[e];simp[List.getLast_eq_getElem]
theorem nm_int (i:Int):nm (i:Rat)=.tup [.int i,.int 1]:=rfl
noncomputable def lo (t:List (Rat×Rat)) (i:Nat):Rat:=(t.getD i (0,0)).1
noncomputable def hi (t:List (Rat×Rat)) (i:Nat):Rat:=(t.getD i (0,0)).2
theorem tb_at (h:i<t.length):(t.map pl)[i]?=some (pl (lo t i,hi t i)):=by
 simp[h,lo,hi]
noncomputable def tied (t:List (Rat×Rat)):Bool:=decide (lo t 0=hi t 0)&&decide (lo t (t.length-1)=hi t (t.length-1))
noncomputable def isTied (d:DL.D):Bool:=by
 classical exact decide (∃ t,d=tb t/\Tube t/\tied t=true)
theorem pl_inj (h:pl p=pl q):p=q:=by
 unfold pl nm at h;simp at h;exact Prod.ext (Rat.ext h.1.1 %[|5]) (Rat.ext h.2.1 %[|5])
theorem map_pl_inj:∀ {s t:List (Rat×Rat)},s.map pl=t.map pl->s=t
 | [],[],_=>rfl
 | [],_::_,h=>by simp at h
 | _::_,[],h=>by simp at h
 | a::s,b::t,h=>by
  simp only[List.map_cons,List.cons.injEq] at h;rw[pl_inj h.1,map_pl_inj h.2]
theorem tb_inj (h:tb s=tb t):s=t:=by
 unfold tb at h;injection h with h
 exact map_pl_inj h
theorem isTied_tb (h:Tube t):isTied (tb t)=tied t:=by
 unfold isTied;cases e:tied t with
 | true=>simpa using ⟨t,rfl,h,e⟩
 | false =>
  simp only[decide_eq_false_iff_not];rintro⟨s,e1,_,e2⟩;rw[<- tb_inj e1,e] at e2;cases e2
theorem isTied_not (h:isTube d=false):isTied d=false:=by
 unfold isTied;simp only[decide_eq_false_iff_not];rintro⟨s,rfl,ht,_⟩;rw[isTube_iff.mpr ⟨s,rfl,ht⟩] at h;cases h
noncomputable def S_18:DSp:=fun ds M Q _=>∃ d,ds=[d]/\Gd M d/\∀ M',MExt M M'->Q (.bl (isTied d)) M'
noncomputable def C_18:CSs:=%[.ret (.and (.call "is_tube" S_17 %[.var 0|0]) (.and (.cmp .Eq (.ix (.ix (.var 0) (.int 0)) (.int 0)) (.ix (.ix (.var 0) (.int 0)) (.int 1))) (.one (.cmp .Eq (.ix (.ix (.var 0) (.neg (.int 1))) (.int 0)) (.ix (.ix (.var 0) (.neg (.int 1))) (.int 1))))))|0]
theorem tix (e:L2.atI xs i=some v) (q:Q v M):iOp (.tup xs) (.int i) M Q:=⟨v,e,q⟩
theorem pl0 (q:Q (nm p.1) M):iOp (pl p) (.int 0) M Q:=⟨_,at_zero _ _,q⟩
theorem pl1 (q:Q (nm p.2) M):iOp (pl p) (.int 1) M Q:=⟨_,at_one _ _ _,q⟩
theorem tb_ends {t:List (Rat×Rat)} (h2:2<=t.length):L2.atI (t.map pl) 0=some (pl (lo t 0,hi t 0))/\L2.atI (t.map pl) (-1)=some (pl (lo t (t.length-1),hi t (t.length-1))):=by
 refine⟨at_nat (i:=0) (tb_at %[|5]),?_⟩;have hne:t.map pl≠[]:=by intro z;simp at z;subst z;simp at h2
 rw[at_last hne];have:=tb_at (t:=t) (i:=t.length-1) %[|5];rw[List.getElem?_eq_getElem (by simp;omega)] at this;simp only[Option.some.injEq] at this;rw[<- this];simp[List.getLast_eq_getElem]
theorem vc_18:∀ ds M R E,S_18 ds M R E->rSs C_18 (ends R E) (startD 1 ds) M:=by
 rintro ds M R E ⟨d,rfl,gd,h⟩;unfold C_18;dsimp only[rSs,rS,rE,rEs,DL.plain,dSeq,dRet,dCall,dCons,dNil,d2,dVar,vAt,vHd,List.map,List.length_cons,List.length_nil,Nat.reduceAdd,Nat.reduceSub,List.replicate_succ,List.replicate_zero,List.cons_append,List.nil_append,List.set_cons_succ,List.set_cons_zero,dC,bOp,cOp,startD,dAndV,dNeg];refine⟨d,rfl,gd,fun M' e=>⟨_,rfl,?_⟩⟩;have hm:=h M' e;cases q:isTube d with
 | false =>
  rw[isTied_not q] at hm;exact hm
 | true =>
  obtain⟨t,rfl,ht⟩:=isTube_iff.mp q;rw[isTied_tb ht] at hm;obtain⟨a0,a1⟩:=tb_ends ht.two;unfold tied at hm;refine ite_t ?_;refine tix a0 (pl0 (tix a0 (pl1 (eq_nm false ⟨_,rfl,?_⟩))));by_cases z1:lo t 0=hi t 0
  ·rw[decide_eq_true z1,Bool.true_and] at hm
   show if decide (lo t 0=hi t 0)=true then _ else _
   rw[decide_eq_true z1];refine ite_t ?_;exact⟨_,rfl,tix a1 (pl0 ⟨_,rfl,tix a1 (pl1 (eq_nm false hm))⟩)⟩
  ·rw[decide_eq_false z1,Bool.false_and] at hm
   show if decide (lo t 0=hi t 0)=true then _ else _
   rw[decide_eq_false z1];exact hm
noncomputable def S_19:DSp:=fun ds M Q E=>∃ d,ds=[d]/\Gd M d/\∀ M',MExt M M'->if isTied d=true then Q .non M' else E (.exc "NoTube" .non) M'
noncomputable def C_19:CSs:=%[.ife (.not (.call "is_tied" S_18 %[.var 0|0])) %[.rse "NoTube" %[.str "this is no tied tube"|0]|0] .nil|0]
theorem vc_19:∀ ds M R E,S_19 ds M R E->rSs C_19 (ends R E) (startD 1 ds) M:=by
 rintro ds M R E ⟨d,rfl,gd,h⟩;simp[0,C_19,rSs,gdTup,vAt,vHd,dCallV,revOp,diSeq,diRng,dFor,dComp,bMul,bAdd,iOp,sOp,fLen,fTuple,fList,fIsi,fAll,fAny,itSeq,and_assoc,sizeLine_eq];refine⟨d,rfl,gd,fun M' e=>?_⟩;have:=h M' e;cases q:isTied d<;>simp[q] at this ⊢<;>exact this
theorem nat_sub_cast {b t:Nat} (h:b<=t):(((t:Int)-(b:Int):Int):Rat)=(t:Rat)-(b:Rat):=by push_cast;rfl
theorem sz_small {i:Int} (h:i.natAbs<128):Sz 7 (i:Rat):=Sz.int (by simpa using h) %[|4]
theorem sz_slope {m n b t:Nat} {h x:Rat} (hx:Sz m x) (hh:Sz n h) (hb:b<t) (ht:t<=100):Sz (m+n+8) (slope b h t x):=by
 unfold slope;have g:=gap_pos hb;have s:=sz_small (i:=(t:Int)-(b:Int)) %[|5];rw[nat_sub_cast %[|5]] at s;exact ((hx.sub hh).div s (by grind)).mono %[|5]
noncomputable def S_22:DSp:=fun ds M Q E=>∃ (b t:Nat) (h x:Rat),ds=[.int b,nm h,.int t,nm x]/\b<t/\t<=100/\(∃ m n,Sz m x/\Sz n h/\m+n<=7900)/\Q (nm (slope b h t x)) M
noncomputable def C_22:CSs:=%[.ret (.call "parted" S_21 %[.call "taken" S_20 %[.var 3,.var 1|0],.tup %[.bin .Sub (.var 2) (.var 0),.int 1|0]|0])|0]
theorem vc_22:∀ ds M R E,S_22 ds M R E->rSs C_22 (ends R E) (startD 4 ds) M:=by
 rintro ds M R E ⟨b,t,h,x,rfl,hb,ht,⟨m,n,sx,sh,hl⟩,q⟩;simp[0,C_22,rSs,gdTup,vAt,vHd,dCallV,revOp,diSeq,diRng,dFor,dComp,bMul,bAdd,iOp,sOp,fLen,fTuple,fList,fIsi,fAll,fAny,itSeq,and_assoc,sizeLine_eq];refine⟨x,h,rfl,.mk sx sh %[|5],?_⟩;have g:=gap_pos hb;have s:=sz_small (i:=(t:Int)-(b:Int)) %[|5];rw[nat_sub_cast %[|5]] at s;refine⟨x-h,(t:Rat)-(b:Rat),?_,.mk (sx.sub sh) s %[|5],.inl ⟨by grind,q⟩⟩;rw[<- nat_sub_cast %[|5],nm_int]
noncomputable def NT (t:List (Rat×Rat)) (b:Nat) (h:Rat):Option (Nat×Rat)->Prop
 | none=>b+1=t.length\/∃ la ha SL FH,Scan (lo t) (hi t) b h la ha SL FH t.length
 | some (p,v)=>∃ la ha SL FH e,Scan (lo t) (hi t) b h la ha SL FH e/\e<t.length/\((FH<slope b h e (lo t e)/\p=ha/\v=hi t ha)\/(¬ FH<slope b h e (lo t e)/\slope b h e (hi t e)<SL/\p=la/\v=lo t la))
noncomputable def ntD:Option (Nat×Rat)->Nat->DL.D
 | none,_=>.non
 | some (p,v),e=>.tup [.tup [.int p,nm v],.int e]
structure Places (t:List (Rat×Rat)) (k:Nat):Prop where
 most:t.length<=100
 ok:∀ i,i<t.length->lo t i<=hi t i
 slo:∀ i,i<t.length->Sz k (lo t i)
 shi:∀ i,i<t.length->Sz k (hi t i)
 few:k<=1900
noncomputable def S_23:DSp:=fun ds M Q E=>∃ d t k b h,ds=[d,.int (b:Nat),nm h]/\Sq M d (t.map pl)/\Places t k/\b<t.length/\Sz k h/\∀ res e,NT t b h res->Q (ntD res e) M
noncomputable def C_23:CSs:=%[.ife (.cmp .Eq (.bin .Add (.var 1) (.int 1)) (.bi .len %[.var 0|0])) %[.ret .non|0] .nil,.two (.name 3) (.name 4) (.bin .Add (.var 1) (.int 1)),.set 5 (.call "rise" S_22 %[.var 1,.var 2,.var 3,.ix (.ix (.var 0) (.var 3)) (.int 0)|0]),.set 6 (.call "rise" S_22 %[.var 1,.var 2,.var 4,.ix (.ix (.var 0) (.var 4)) (.int 1)|0]),.fr (.name 7) (.rng %[.bin .Add (.var 1) (.int 2),.bi .len %[.var 0|0]|0]) %[.set 8 (.call "rise" S_22 %[.var 1,.var 2,.var 7,.ix (.ix (.var 0) (.var 7)) (.int 0)|0]),.set 9 (.call "rise" S_22 %[.var 1,.var 2,.var 7,.ix (.ix (.var 0) (.var 7)) (.int 1)|0]),.ife (.call "is_less" S_8 %[.var 6,.var 8|0]) %[.ret (.tup %[.tup %[.var 4,.ix (.ix (.var 0) (.var 4)) (.int 1)|0],.var 7|0])|0] .nil,.ife (.call "is_less" S_8 %[.var 9,.var 5|0]) %[.ret (.tup %[.tup %[.var 3,.ix (.ix (.var 0) (.var 3)) (.int 0)|0],.var 7|0])|0] .nil,.ife (.not (.call "is_less" S_8 %[.var 8,.var 5|0])) %[.par 3 5 (.var 7) (.var 8)|0] .nil,.ife (.not (.call "is_less" S_8 %[.var 6,.var 9|0])) %[.par 4 6 (.var 7) (.var 9)|0] .nil|0],.ret .non|0]
theorem vc_23:∀ ds M R E,S_23 ds M R E->rSs C_23 (ends R E) (startD 10 ds) M:=by
 rintro ds M R E ⟨d,t,k,b,h,rfl,sq,P,hb,sh,q⟩;have lenD:∀ Q:DK,Q (.int t.length) M->fLen [d] M Q:=fun Q z=>sq.len (by simpa using z);have ix:∀ (i:Nat) (Q:DK),i<t.length->Q (pl (lo t i,hi t i)) M->iOp d (.int i) M Q:=fun i Q hi' z=>sq.ix (at_nat (tb_at hi')) z;have few:=P.few;unfold C_23;rw[rSs_cons];sleep 2;refine lenD _ (eq_int false ?_);by_cases hz:b+1=t.length
 ·refine .inr ⟨?_,?_⟩
  ·have:(b:Int)+1=t.length:=by omega
   simp[this]
  ·sleep 1
   exact q none 0 (.inl hz)
 ·refine .inl ⟨?_,?_⟩
  ·have:¬ (b:Int)+1=t.length:=by omega
   simp[this]
  have hb1:b+1<t.length:=by omega
  have most:=P.most;sleep 1;sleep 1;refine ix (b+1) _ hb1 ?_;refine (Sq.ix (.inl rfl) (at_zero _ _) ?_);refine⟨b,b+1,h,lo t (b+1),rfl,by omega,by omega,⟨k,k,P.slo _ hb1,sh,by omega⟩,?_⟩;sleep 1;refine ix (b+1) _ hb1 ?_;refine (Sq.ix (.inl rfl) (at_one _ _ _) ?_);refine⟨b,b+1,h,hi t (b+1),rfl,by omega,by omega,⟨k,k,P.shi _ hb1,sh,by omega⟩,?_⟩
  ((try dsimp only);rw[rSs_cons];(try dsimp only[0,gdTup,vAt,vHd,List.set_cons_succ,List.set_cons_zero,List.cons_append,List.nil_append,List.map,List.length_cons,List.length_nil,Nat.reduceAdd,Nat.reduceSub,List.replicate_succ,List.replicate_zero,dCallV,revOp,bMul,bAdd,sOp,fTuple,fList,fIsi,itSeq,dFor,diRng]);try simp[0,gdTup,vAt,vHd,dCallV,revOp,bMul,bAdd,sOp,fTuple,fList,fIsi,itSeq,and_assoc,sizeLine_eq,rSs_nil,dFor,diRng])
  refine lenD _ ⟨by omega,by omega,by omega,by omega,?_⟩;refine forD_ix (fun i δ M'=>M'=M/\∃ (la ha:Nat) (SL FH:Rat) (w7 w8 w9:Option DL.D),δ=[some d,some (.int b),some (nm h),some (.int la),some (.int ha),some (nm SL),some (nm FH),w7,w8,w9]/\Scan (lo t) (hi t) b h la ha SL FH (b+2+i)/\b+2+i<=t.length) (fun _ _ _ _=>trivial) ?_ ?_ ⟨rfl,b+1,b+1,_,_,_,_,_,rfl,Scan.first (P.ok _ hb1),by omega⟩
  ·rintro δ M' ⟨rfl,la,ha,SL,FH,w7,w8,w9,rfl,S,hle⟩
   rw[rngD_len] at S hle;have e:b+2+((t.length:Int)-((b:Int)+2)).toNat=t.length:=by omega
   rw[e] at S;sleep 1;exact q none 0 (.inr ⟨la,ha,SL,FH,S⟩)
  ·rintro i x hx N hN δ M' ⟨rfl,la,ha,SL,FH,w7,w8,w9,rfl,S,hle⟩
   obtain⟨rfl,hi'⟩:=rngD_at hx;have hbe:b+2+i<t.length:=by omega
   have eI:((b:Int)+2+(i:Int)*1)=((b+2+i:Nat):Int):=by omega
   rw[eI];have sSL:Sz (k+k+8) SL:=by rw[S.laE];exact sz_slope (P.slo _ (by have:=S.la1;omega)) sh S.la0 (by have:=S.la1;omega)
   have sFH:Sz (k+k+8) FH:=by rw[S.haE];exact sz_slope (P.shi _ (by have:=S.ha1;omega)) sh S.ha0 (by have:=S.ha1;omega)
   have sl1:Sz (k+k+8) (slope b h (b+2+i) (lo t (b+2+i))):=sz_slope (P.slo _ hbe) sh %[|5] %[|5];have sl2:Sz (k+k+8) (slope b h (b+2+i) (hi t (b+2+i))):=sz_slope (P.shi _ hbe) sh %[|5] %[|5];sleep 2;sleep 1;refine ix (b+2+i) _ hbe ?_;refine (Sq.ix (.inl rfl) (at_zero _ _) ?_);refine⟨b,b+2+i,h,lo t (b+2+i),rfl,by omega,by omega,⟨k,k,P.slo _ hbe,sh,by omega⟩,?_⟩;sleep 1;refine ix (b+2+i) _ hbe ?_;refine (Sq.ix (.inl rfl) (at_one _ _ _) ?_);refine⟨b,b+2+i,h,hi t (b+2+i),rfl,by omega,by omega,⟨k,k,P.shi _ hbe,sh,by omega⟩,?_⟩;sleep 1;refine⟨FH,_,rfl,.mk sFH sl1 %[|5],?_⟩;by_cases c1:FH<slope b h (b+2+i) (lo t (b+2+i))
   ·simp[c1]
    sleep 1;refine ix ha _ (by have:=S.ha1;omega) ?_;refine (Sq.ix (.inl rfl) (at_one _ _ _) ?_);exact q (some (ha,hi t ha)) (b+2+i) ⟨la,ha,SL,FH,_,S,hbe,.inl ⟨c1,rfl,rfl⟩⟩
   ·simp[c1]
    sleep 1;refine⟨_,SL,rfl,.mk sl2 sSL %[|5],?_⟩;by_cases c2:slope b h (b+2+i) (hi t (b+2+i))<SL
    ·simp[c2]
     sleep 1;refine ix la _ (by have:=S.la1;omega) ?_;refine (Sq.ix (.inl rfl) (at_zero _ _) ?_);exact q (some (la,lo t la)) (b+2+i) ⟨la,ha,SL,FH,_,S,hbe,.inr ⟨c1,c2,rfl,rfl⟩⟩
    ·simp[c2]
     have S':=S.step (P.ok _ hbe) c1 c2;sleep 1;refine⟨_,SL,rfl,.mk sl1 sSL %[|5],?_⟩;by_cases c3:slope b h (b+2+i) (lo t (b+2+i))<SL
     ·rw[if_pos c3,if_pos c3] at S'
      simp[c3];sleep 1;refine⟨FH,_,rfl,.mk sFH sl2 %[|5],?_⟩;by_cases c4:FH<slope b h (b+2+i) (hi t (b+2+i))
      ·rw[if_pos c4,if_pos c4] at S'
       simp[c4];exact hN _ _ ⟨rfl,_,_,_,_,_,_,_,rfl,S',by omega⟩
      ·rw[if_neg c4,if_neg c4] at S'
       simp[c4];sleep 1;exact hN _ _ ⟨rfl,_,_,_,_,_,_,_,rfl,S',by omega⟩
     ·rw[if_neg c3,if_neg c3] at S'
      simp[c3];sleep 1;sleep 1;refine⟨FH,_,rfl,.mk sFH sl2 %[|5],?_⟩;by_cases c4:FH<slope b h (b+2+i) (hi t (b+2+i))
      ·rw[if_pos c4,if_pos c4] at S'
       simp[c4];exact hN _ _ ⟨rfl,_,_,_,_,_,_,_,rfl,S',by omega⟩
      ·rw[if_neg c4,if_neg c4] at S'
       simp[c4];sleep 1;exact hN _ _ ⟨rfl,_,_,_,_,_,_,_,rfl,S',by omega⟩
noncomputable def ri (r:List Rat) (i:Nat):Rat:=r.getD i 0
noncomputable def seg (b p:Nat) (h s:Rat):List Rat:=(List.range (p-b)).map fun i=>line b h s (b+1+i)
theorem seg_len (b p:Nat) (h s:Rat):(seg b p h s).length=p-b:=by simp[seg]
theorem sz_line {b t k m:Nat} {h s:Rat} (hh:Sz k h) (hs:Sz m s) (hb:b<=t) (ht:t<=100):Sz (k+m+8) (line b h s t):=by
 unfold line;have s7:=sz_small (i:=(t:Int)-(b:Int)) %[|5];rw[nat_sub_cast hb] at s7;exact (hh.add (hs.mul s7)).mono %[|5]
noncomputable def S_25:DSp:=fun ds M Q E=>∃ (b p k:Nat) (h v:Rat),ds=[.int b,nm h,.tup [.int p,nm v]]/\b<p/\p<=100/\Sz k h/\Sz k v/\k<=1900 /\
 ∀ q M',M q=none->MExt M M'->M' q=some (.ls ((seg b p h (slope b h p v)).map nm))->Q (.lst q) M'
noncomputable def C_25:CSs:=%[.asg (.tup %[.name 3,.name 4|0]) (.var 2),.set 5 (.call "rise" S_22 %[.var 0,.var 1,.var 3,.var 4|0]),.ret (.comp ["begin","height","touch","at","other_height","climb","many"] 1 (.name 6) (.rng %[.int 1,.bin .Add (.bin .Sub (.var 3) (.var 0)) (.int 1)|0]) (.call "added" S_6 %[.var 1,.call "multiplied" S_24 %[.var 5,.tup %[.var 6,.int 1|0]|0]|0]))|0]
theorem vc_25:∀ ds M R E,S_25 ds M R E->rSs C_25 (ends R E) (startD 6 ds) M:=by
 rintro ds M R E ⟨b,p,k,h,v,rfl,hb,hp,sh,sv,hk,q⟩;unfold C_25;sleep 1;sleep 1;refine⟨b,p,h,v,rfl,hb,hp,⟨k,k,sv,sh,by omega⟩,?_⟩;sleep 1;have ss:=sz_slope sv sh hb hp;refine comp_mapG (List.range (p-b)) (fun i=>.int (1+(i:Int))) (fun i=>nm (line b h (slope b h p v) (b+1+i))) ?_ (by simp;omega) ?_ ?_
 ·intro R' r
  simp[0,rSs,gdTup,vAt,vHd,dCallV,revOp,diSeq,diRng,dFor,dComp,bMul,bAdd,iOp,sOp,fLen,fTuple,fList,fIsi,fAll,fAny,itSeq,and_assoc,sizeLine_eq,diRng];refine⟨by omega,by omega,?_⟩;have e:rngD 1 1 (p-b)=(List.range (p-b)).map fun i=>.int (1+(i:Int)):=by
   unfold rngD;simp
  rw[e];exact r _ fun _ _=>trivial
 ·intro i hi' l M' R' hl e r
  obtain⟨a,rfl⟩:=len1 hl;have hi2:i<p-b:=by simpa using hi'
  sleep 2;have s7:=sz_small (i:=1+(i:Int)) %[|5];have en:(D.tup [D.int (1+(i:Int)),D.int 1])=nm ((1+(i:Int):Int):Rat):=(nm_int _).symm;refine⟨_,((1+(i:Int):Int):Rat),by rw[en],.mk ss s7 %[|5],?_⟩;refine⟨h,_,rfl,.mk sh (ss.mul s7) %[|5],?_⟩;have el:h+slope b h p v*((1+(i:Int):Int):Rat)=line b h (slope b h p v) (b+1+i):=by
   unfold line;have:((b+1+i:Nat):Rat)-(b:Rat)=((1+(i:Int):Int):Rat):=by push_cast;grind
   rw[this]
  rw[el];exact r [_] M' rfl (.refl _)
 ·intro q' M' hq e l
  refine q q' M' hq e ?_;rw[l];simp[seg]
structure Told (t:List (Rat×Rat)) (k:Nat) (r:List Rat):Prop where
 len:r.length=t.length
 taut:Taut (lo t) (hi t) (ri r) (t.length-1)
 first:ri r 0=lo t 0
 last:ri r (t.length-1)=lo t (t.length-1)
 sz:∀ x∈r,Sz (3*k+16) x
noncomputable def S_26:DSp:=fun ds M Q E=>∃ d t k,ds=[d]/\Sq M d (t.map pl)/\Places t k/\1<=t.length/\lo t 0=hi t 0/\lo t (t.length-1)=hi t (t.length-1)/\∀ (r:List Rat) M',Told t k r->MExt M M'->Q (rw r) M'
noncomputable def C_26:CSs:=%[.set 1 (.tup %[.bin .Sub (.bi .len %[.var 0|0]) (.int 1),.ix (.ix (.var 0) (.neg (.int 1))) (.int 0)|0]),.set 2 (.lst %[.ix (.ix (.var 0) (.int 0)) (.int 0)|0]),.whl (.cmp .Lt (.bi .len %[.var 2|0]) (.bi .len %[.var 0|0])) %[.par 3 4 (.bin .Sub (.bi .len %[.var 2|0]) (.int 1)) (.ix (.var 2) (.neg (.int 1))),.set 5 (.call "next_touch" S_23 %[.var 0,.var 3,.var 4|0]),.expr (.ext 2 (.call "straight_on" S_25 %[.var 3,.var 4,.ife (.cmp .Is (.var 5) .non) (.var 1) (.ix (.var 5) (.int 0))|0]))|0],.ret (.bi .tuple %[.var 2|0])|0]
theorem ri_left {r s:List Rat} {i:Nat} (h:i<r.length):ri (r++s) i=ri r i:=by
 simp only[ri,List.getD];rw[List.getElem?_append_left h]
theorem ri_right {r s:List Rat} {i:Nat} (h:r.length<=i):ri (r++s) i=ri s (i-r.length):=by
 simp only[ri,List.getD];rw[List.getElem?_append_right h]
theorem ri_seg {b p:Nat} {h s:Rat} {i:Nat} (hi':i<p-b):ri (seg b p h s) i=line b h s (b+1+i):=by
 simp[ri,seg,List.getD,hi']
theorem ri_mem {r:List Rat} {i:Nat} (h:i<r.length):ri r i∈r:=by
 simp only[ri,List.getD,List.getElem?_eq_getElem h,Option.getD_some];exact List.getElem_mem h
theorem rw_at {r:List Rat} {i:Nat} (h:i<r.length):(r.map nm)[i]?=some (nm (ri r i)):=by
 simp[ri,List.getD,h]
theorem rw_last (h:1<=r.length):L2.atI (r.map nm) (-1)=some (nm (ri r (r.length-1))):=by
 have hne:r.map nm≠[]:=by intro z;simp at z;subst z;simp at h
 rw[at_last hne,List.getLast_eq_getElem];have hl':r.length-1<r.length:=by omega
 simp[ri,List.getD,hl']
theorem seg_mem (hx:x∈seg b p h s):∃ t,b<t/\t<=p/\x=line b h s t:=by
 unfold seg at hx;obtain⟨i,hi',rfl⟩:=List.mem_map.mp hx;have:=List.mem_range.mp hi';exact⟨b+1+i,by omega,by omega,rfl⟩
theorem NT.seg (P:Places t k) (hb:b+1<t.length) (tie:lo t (t.length-1)=hi t (t.length-1)) (N:NT t b h res) :
  ∃ p v,(res.getD (t.length-1,lo t (t.length-1)))=(p,v)/\b<p/\p<t.length/\Sz k v/\Seg (lo t) (hi t) (t.length-1) b h (slope b h p v) p/\(p=t.length-1->v=lo t (t.length-1)):=by
 cases res with
 | none =>
  rcases N with N|⟨la,ha,SL,FH,S⟩
  ·omega
  ·refine⟨_,_,rfl,by omega,by omega,P.slo _ %[|5],?_,fun _=>rfl⟩
   have en:t.length=t.length-1+1:=by omega
   rw[en] at S;obtain⟨_,_,e3,e4⟩:=S.fin tie;rw[tie,<- e3];exact e4
 | some pv =>
  obtain⟨p,v⟩:=pv;obtain⟨la,ha,SL,FH,e,S,he,c⟩:=N;rcases c with ⟨c,rfl,rfl⟩|⟨c0,c,rfl,rfl⟩
  ·have:=S.ha0;have:=S.ha1
   refine⟨_,_,rfl,by omega,by omega,P.shi _ %[|5],?_,fun z=>by omega⟩;rw[<- S.haE];exact S.up %[|5] c
  ·have:=S.la0;have:=S.la1
   refine⟨_,_,rfl,by omega,by omega,P.slo _ %[|5],?_,fun z=>by omega⟩;rw[<- S.laE];exact S.down %[|5] c
structure Part (t:List (Rat×Rat)) (k:Nat) (r:List Rat):Prop where
 one:1<=r.length
 le:r.length<=t.length
 drawn:Drawn (lo t) (hi t) (ri r) (t.length-1) (r.length-1)
 first:ri r 0=lo t 0
 szb:Sz k (ri r (r.length-1))
 sz:∀ x∈r,Sz (3*k+16) x
 last:r.length=t.length->ri r (t.length-1)=lo t (t.length-1)
theorem Part.start (P:Places t k) (h1:1<=t.length) (t0:lo t 0=hi t 0):Part t k [lo t 0]:=by
 refine⟨Nat.le_refl 1,h1,.start (by show lo t 0<=lo t 0;grind) (by show lo t 0<=hi t 0;grind),rfl,P.slo 0 %[|5],?_,?_⟩
 ·intro x hx;simp at hx;subst hx;exact (P.slo 0 %[|5]).mono %[|5]
 ·intro z;simp at z;rw[<- z];rfl
theorem Part.next (A:Part t k r) (P:Places t k) (tn:lo t (t.length-1)=hi t (t.length-1)) (hb:r.length-1<p) (hp:p<t.length) (sv:Sz k v)
  (S:Seg (lo t) (hi t) (t.length-1) (r.length-1) (ri r (r.length-1)) (slope (r.length-1) (ri r (r.length-1)) p v) p) (he:p=t.length-1->v=lo t (t.length-1)) :
  Part t k (r++seg (r.length-1) p (ri r (r.length-1)) (slope (r.length-1) (ri r (r.length-1)) p v))/\(r++seg (r.length-1) p (ri r (r.length-1)) (slope (r.length-1) (ri r (r.length-1)) p v)).length=p+1:=by
 have most:=P.most;have a1:=A.one;have szb:=A.szb;generalize hs:slope (r.length-1) (ri r (r.length-1)) p v=s at *;generalize hh:ri r (r.length-1)=h at *;have hL:(r++seg (r.length-1) p h s).length=p+1:=by rw[List.length_append,seg_len];omega
 have low:∀ i,i<=r.length-1->ri (r++seg (r.length-1) p h s) i=ri r i:=fun i hi'=>ri_left %[|5];have new:∀ i,r.length-1<i->i<=p->ri (r++seg (r.length-1) p h s) i=line (r.length-1) h s i:=fun i h1 h2=>by
  rw[ri_right %[|5],ri_seg %[|5]]
  congr 1;omega
 have ss:Sz (k+k+8) s:=by rw[<- hs];exact sz_slope sv szb hb %[|5]
 have atp:line (r.length-1) h s p=v:=by rw[<- hs];exact line_slope _ _ hb
 refine⟨⟨by omega,by omega,?_,by rw[low 0 %[|5]];exact A.first,?_,?_,?_⟩,hL⟩
 ·rw[hL,Nat.add_sub_cancel]
  have D':=A.drawn.congr (r':=ri (r++seg (r.length-1) p h s)) fun i hi'=>(low i hi').symm;have e0:ri (r++seg (r.length-1) p h s) (r.length-1)=h:=by rw[low _ %[|3]];exact hh
  refine D'.next (s:=s) %[|5] (fun i hi'=>P.ok i %[|5]) tn (by rw[e0];exact S) fun i h1 h2=>?_;rw[e0];exact new i h1 h2
 ·rw[hL,Nat.add_sub_cancel,new p hb %[|3],atp];exact sv
 ·intro x hx
  rcases List.mem_append.mp hx with hx|hx
  ·exact A.sz x hx
  ·obtain⟨i,h1,h2,rfl⟩:=seg_mem hx
   exact (sz_line szb ss %[|5] %[|5]).mono %[|5]
 ·intro z
  rw[hL] at z;have hp':p=t.length-1:=by omega
  rw[<- hp',new p hb %[|3],atp,he hp',hp']
noncomputable def TRow (M:Mem) (d:DL.D) (t:List (Rat×Rat)) (k:Nat) (p0:Addr) (m:Nat) (δ:DSt) (M':Mem):Prop :=
 ∃ (r:List Rat) (w3 w4 w5:Option DL.D),MExt M M'/\M' p0=some (.ls (r.map nm))/\Part t k r/\δ=[some d,some (.tup [.int ((t.length:Int)-1),nm (lo t (t.length-1))]),some (.lst p0),w3,w4,w5]/\m=t.length-r.length
theorem vc_26:∀ ds M R E,S_26 ds M R E->rSs C_26 (ends R E) (startD 6 ds) M:=by
 rintro ds M R E ⟨d,t,k,rfl,sq,P,h1,t0,tn,q⟩;have most:=P.most;have few:=P.few;have lenD:∀ M' (Q:DK),MExt M M'->Q (.int t.length) M'->fLen [d] M' Q:=fun M' Q e z=>(sq.ext e).len (by simpa using z);have ix:∀ M' (i:Nat) (Q:DK),MExt M M'->i<t.length->Q (pl (lo t i,hi t i)) M'->iOp d (.int i) M' Q:=fun M' i Q e hi' z=>(sq.ext e).ix (at_nat (tb_at hi')) z;have ixl:∀ (Q:DK),Q (pl (lo t (t.length-1),hi t (t.length-1))) M->iOp d (.int (-1)) M Q:=fun Q z=>by
  refine sq.ix ?_ z;have hne:t.map pl≠[]:=by intro z;simp at z;subst z;simp at h1
  rw[at_last hne];have:=tb_at (t:=t) (i:=t.length-1) %[|5];rw[List.getElem?_eq_getElem (by simp;omega)] at this;simp only[Option.some.injEq] at this;rw[<- this];simp[List.getLast_eq_getElem]
 unfold C_26;sleep 1;refine lenD M _ (.refl M) ?_;refine ixl _ ?_;refine Sq.ix (.inl rfl) (at_zero _ _) ?_;sleep 1;refine ix M 0 _ (.refl M) %[|5] ?_;refine Sq.ix (.inl rfl) (at_zero _ _) ?_;intro p0 M0 e0 x0 l0
 (try dsimp only);rw[rSs_cons];simp[0,gdTup,vAt,vHd,dCallV,revOp,bMul,bAdd,sOp,fTuple,fList,fIsi,itSeq,and_assoc,sizeLine_eq,rSs_nil,dWhile]
 refine⟨TRow M d t k p0,⟨_,[lo t 0],none,none,none,x0,l0,.start P h1 t0,rfl,rfl⟩,?_⟩;rintro m δ M1 ⟨r,w3,w4,w5,x1,l1,A,rfl,rfl⟩;have a1:=A.one;have a2:=A.le;have hlen:∀ (Q:DK),Q (.int r.length) M1->fLen [.lst p0] M1 Q:=fun Q z=>Sq.len (.inr (.inr ⟨p0,rfl,l1⟩)) (by simpa using z);sleep 2;refine hlen _ ?_;refine lenD M1 _ x1 ?_;by_cases hz:r.length<t.length
 ·simp[hz]
  refine⟨fun δ' M'=>∃ m',m'<t.length-r.length/\TRow M d t k p0 m' δ' M',fun _ _ z=>z,?_⟩;sleep 1;refine hlen _ ?_;refine Sq.ix (.inr (.inr ⟨p0,rfl,l1⟩)) (rw_last a1) ?_;have eb:((r.length:Int)-1)=((r.length-1:Nat):Int):=by omega
  rw[eb];sleep 1;refine⟨d,t,k,r.length-1,ri r (r.length-1),rfl,sq.ext x1,P,by omega,A.szb,fun res e' N=>?_⟩;obtain⟨p,v,e1,hbp,hpt,sv,S,hend⟩:=N.seg P %[|5] tn;obtain⟨B,hL⟩:=A.next P tn hbp hpt sv S hend;sleep 1;have fin:∀ (w3 w4 w5:Option DL.D) q' M',M1 q'=none->MExt M1 M'->M' q'=some (.ls ((seg (r.length-1) p (ri r (r.length-1)) (slope (r.length-1) (ri r (r.length-1)) p v)).map nm)) ->
    ∃ b,DL.D.lst q'=.lst b/\∃ xs,M' p0=some (.ls xs)/\∃ zs,M' b=some (.ls zs)/\xs.length+zs.length<=16777216/\∃ m',m'<t.length-r.length/\TRow M d t k p0 m' [some d,some (.tup [.int ((t.length:Int)-1),nm (lo t (t.length-1))]),some (.lst p0),w3,w4,w5] (M'.upd p0 (.ls (xs++zs))):=fun w3 w4 w5 q' M' n1 x2 l2=>by
   refine⟨q',rfl,_,x2 _ _ l1,_,l2,?_,t.length-(p+1),by omega,_,w3,w4,w5,MExt.upd_new e0 (x1.trans x2),mupd_same.trans (by rw[<- List.map_append]),B,rfl,by rw[hL]⟩;simp only[List.length_map,seg_len];omega
  cases res with
  | none =>
   simp only[Option.getD_none,Prod.mk.injEq] at e1;obtain⟨rfl,rfl⟩:=e1;refine⟨⟨_,l1⟩,?_⟩;refine Or.inr ⟨rfl,r.length-1,t.length-1,k,ri r (r.length-1),lo t (t.length-1),?_,hbp,by omega,A.szb,sv,P.few,fin _ _ _⟩;rw[show ((t.length:Int)-1)=((t.length-1:Nat):Int) by omega]
  | some pv =>
   simp only[Option.getD_some] at e1;subst e1;refine⟨⟨_,l1⟩,?_⟩;refine Or.inl ⟨rfl,Sq.ix (.inl rfl) (at_zero _ _) ?_⟩;exact⟨r.length-1,p,k,ri r (r.length-1),v,rfl,hbp,by omega,A.szb,sv,P.few,fin _ _ _⟩
 ·simp[hz]
  have el:r.length=t.length:=by omega
  sleep 1;refine⟨_,l1,?_⟩;refine q r M1 ⟨el,?_,A.first,A.last el,A.sz⟩ x1;have D:=A.drawn;rw[el] at D;exact D.taut
structure Fine (t:List (Rat×Rat)) (k:Nat):Prop where
 tube:Tube t
 tie:tied t=true
 slo:∀ i,i<t.length->Sz k (lo t i)
 shi:∀ i,i<t.length->Sz k (hi t i)
 few:k<=1900
theorem Fine.places (F:Fine t k):Places t k:=by
 refine⟨by have:=F.tube.most;omega,fun i hi'=>?_,F.slo,F.shi,F.few⟩;have:=F.tube.ok (t[i]) (List.getElem_mem hi')
 simpa[lo,hi,List.getD,hi'] using this
theorem Fine.gd (F:Fine t k):Gd M (tb t):=by
 refine .mk fun d hd=>?_;obtain⟨p,hp,rfl⟩:=List.mem_map.mp hd;obtain⟨i,hi',rfl⟩:=List.getElem_of_mem hp;have a:=F.slo i hi';have b:=F.shi i hi';have few:=F.few;simp[lo,hi,List.getD,hi'] at a b;refine .mk fun e he=>?_;simp at he;rcases he with rfl|rfl
 ·exact .nm a %[|5]
 ·exact .nm b %[|5]
noncomputable def S_27:DSp:=fun ds M Q E=>∃ d,ds=[d]/\Gd M d/\(isTied d=false/\(∀ M',MExt M M'->E (.exc "NoTube" .non) M')\/∃ t k,d=tb t/\Fine t k/\∀ (r:List Rat) M',Told t k r->MExt M M'->Q (rw r) M')
noncomputable def C_27:CSs:=%[.expr (.call "want_tied" S_19 %[.var 0|0]),.ret (.call "taut_row" S_26 %[.var 0|0])|0]
theorem vc_27:∀ ds M R E,S_27 ds M R E->rSs C_27 (ends R E) (startD 1 ds) M:=by
 rintro ds M R E ⟨d,rfl,gd,h⟩;unfold C_27;sleep 1;refine⟨d,rfl,gd,fun M1 x1=>?_⟩;rcases h with ⟨h,q⟩|⟨t,k,rfl,F,q⟩
 ·rw[h,if_neg %[|4]];exact q M1 x1
 ·rw[isTied_tb F.tube,F.tie,if_pos rfl]
  sleep 1;have two:=F.tube.two;have ti:=F.tie;unfold tied at ti;simp at ti;exact⟨_,t,k,rfl,.inl rfl,F.places,by omega,ti.1,ti.2,fun r M2 T x2=>q r M2 T (x1.trans x2)⟩
noncomputable def Pk (M:Mem) (a:Addr):Prop:=∃ v:Int,M a=some (.ls [.int v])
structure Dr (a:Addr) (M M':Mem):Prop where
 pk:Pk M' a
 keep:∀ b o,b≠a->M b=some o->M' b=some o
theorem Dr.take:Dr a M (M.upd a (.ls [.int v])):=⟨⟨v,mupd_same⟩,fun b o h e=>by rw[mupd_ne h];exact e⟩
theorem Pk.ext (p:Pk M a) (e:MExt M M'):Pk M' a:=by obtain⟨v,h⟩:=p;exact⟨v,e _ _ h⟩
theorem Dr.ext (p:Pk M a) (e:MExt M M'):Dr a M M':=⟨p.ext e,fun b o _ h=>e b o h⟩
theorem Dr.trans (x:Dr a M M1) (y:Dr a M1 M2):Dr a M M2:=⟨y.pk,fun b o h e=>y.keep b o h (x.keep b o h e)⟩
theorem Pk.ne (k:Pk M a) (h:M p=none):p≠a:=fun z=>by obtain⟨v,e⟩:=k;rw[z,e] at h;cases h
theorem Dr.upd_new (x:Dr a M M') (h:M p=none) (hp:p≠a):Dr a M (M'.upd p o):=by
 obtain⟨v,e⟩:=x.pk;refine⟨⟨v,by rw[mupd_ne hp.symm];exact e⟩,fun b u hb e'=>?_⟩;have:b≠p:=fun z=>by rw[z,h] at e';cases e'
 rw[mupd_ne this];exact x.keep b u hb e'
theorem lt8000 {n:Nat} (h:n<2 ^ 200):n<2 ^ 8000:=Nat.lt_of_lt_of_le h (pow_le %[|4])
theorem take_ok {a:Addr} {n:Int} {M:Mem} {Q E:DK} (p:Pk M a) (hn:0<n) (hn2:n.natAbs<2 ^ 200) (q:∀ (r:Int) M',0<=r->r<n->Dr a M M'->Q (.int r) M'):S_0 [.lst a,.int n] M Q E:=by
 obtain⟨v,h⟩:=p;exact⟨a,n,v,rfl,h,hn,lt8000 hn2,fun r v' h0 h1=>q r _ h0 h1 .take⟩
theorem nm_zero:(D.tup [D.int 0,D.int 1])=nm 0:=rfl
theorem lst_ix (l:M p=some (.ls xs)) (e:L2.atI xs i=some v) (q:Q v M):iOp (.lst p) (.int i) M Q:=⟨xs,v,l,e,q⟩
noncomputable def stepsOf (r:List Rat):List Rat:=(List.range (r.length-1)).map fun i=>ri r (i+1)-ri r i
theorem steps_len (r:List Rat):(stepsOf r).length=r.length-1:=by simp[stepsOf]
theorem steps_at (h:i+1<r.length):ri (stepsOf r) i=ri r (i+1)-ri r i:=by
 have:i<r.length-1:=by omega
 simp[ri,stepsOf,List.getD,this]
theorem rw_ix {r:List Rat} {i:Nat} {M:Mem} {Q:DK} (h:i<r.length) (q:Q (nm (ri r i)) M):iOp (rw r) (.int i) M Q:=Sq.ix (.inl rfl) (at_nat (rw_at h)) q
theorem rw_len (q:Q (.int r.length) M):fLen [rw r] M Q:=Sq.len (.inl rfl) (by simpa using q)
theorem ri_ext (h:r.length=r'.length) (e:∀ i,i<r.length->ri r i=ri r' i):r=r':=by
 refine List.ext_getElem h fun i h1 h2=>?_;have:=e i h1
 simpa[ri,List.getD,h1,h2] using this
theorem Told.unique (T:Told t k r) (T':Told t k r') (h:1<=t.length):r=r' :=
 ri_ext (by rw[T.len,T'.len]) fun i hi'=>T.taut.unique T'.taut (by rw[T.first,T'.first]) (by rw[T.last,T'.last]) i (by rw[T.len] at hi';omega)
theorem rng_small (n:Nat) (h:n<=100):Builtin.Range.small 0 (n:Int) 2=true/\0<=Builtin.Range.rangeSize 0 (n:Int) 2/\rngN 0 (n:Int) 2<=n:=by
 have key:∀ m:_root_.Fin 101,Builtin.Range.small 0 ((m.val:Nat):Int) 2=true/\0<=Builtin.Range.rangeSize 0 ((m.val:Nat):Int) 2/\rngN 0 ((m.val:Nat):Int) 2<=m.val:=by decide +kernel
 exact key ⟨n,by omega⟩
theorem law_top (c:Int) (n:Nat) (h1:1<=c) (h2:c<=100):∃ z:Nat,z<=100/\(z:Int)<=c/\(if (1:Int)<(if c<(n:Int) then c else (n:Int)) then (if c<(n:Int) then c else (n:Int)) else 1)=(z:Int):=by
 by_cases a:c<(n:Int)
 ·rw[if_pos a]
  by_cases b:1<c
  ·rw[if_pos b];exact⟨c.toNat,by omega,by omega,by omega⟩
  ·rw[if_neg b];exact⟨1,by omega,by omega,by omega⟩
 ·rw[if_neg a]
  by_cases b:(1:Int)<n
  ·rw[if_pos b];exact⟨n,by omega,by omega,rfl⟩
  ·rw[if_neg b];exact⟨1,by omega,by omega,by omega⟩
structure Kp (M M':Mem):Prop where
 ls:∀ b xs,M b=some (.ls xs)->∃ ys,M' b=some (.ls ys)
 dk:∀ b xs,M b=some (.dk xs)->∃ ys,M' b=some (.dk ys)
mutual
theorem Gd.kp (e:Kp M M'):∀ d,Gd M d->Gd M' d
 | .tup xs,h=>by unfold Gd at h ⊢;exact Gds.kp e xs h
 | .lst a,h=>by unfold Gd at h ⊢;obtain⟨xs,q⟩:=h;exact e.ls _ _ q
 | .dct a,h=>by unfold Gd at h ⊢;obtain⟨xs,q⟩:=h;exact e.dk _ _ q
 | .int i,h=>by unfold Gd at h ⊢;exact h
 | .non,_=>by unfold Gd;trivial
 | .bl _,_=>by unfold Gd;trivial
 | .str _,_=>by unfold Gd;trivial
 | .fz _,_=>by unfold Gd;trivial
 | .ty _,h=>by unfold Gd at h;exact h.elim
 | .ref _,h=>by unfold Gd at h;exact h.elim
 | .exc _ _,h=>by unfold Gd at h;exact h.elim
 | .cls _,h=>by unfold Gd at h;exact h.elim
theorem Gds.kp (e:Kp M M'):∀ ds,Gds M ds->Gds M' ds
 | [],_=>by unfold Gds;trivial
 | d::r,h=>by unfold Gds at h ⊢;exact⟨Gd.kp e d h.1,Gds.kp e r h.2⟩
end
theorem gl (h:M p=some (.ls xs)):Gd M (.lst p):=by unfold Gd;exact⟨_,h⟩
theorem gs:Gd M (.str x):=by unfold Gd;trivial
theorem cutG_len (xs:List α) (lo hi:Option Int):(cutG xs lo hi).length<=xs.length:=by
 unfold cutG;rw[List.length_take,List.length_drop];omega
theorem gnm (h:Sz k q) (hk:k<=3000:=by decide):Gd M (nm q):=.nm h hk
theorem areNums_rw (h1:l<=r.length) (h2:(r.length:Int)<=m):areNums l m (rw r)=true:=by
 unfold areNums rw;simp only[List.length_map,Bool.and_eq_true,decide_eq_true_eq];refine⟨⟨h1,h2⟩,?_⟩;rw[List.all_eq_true];intro x hx;obtain⟨q,_,rfl⟩:=List.mem_map.mp hx;exact isNum_nm q
theorem gd_rw (h:∀ x∈r,Sz k x) (hk:k<=2900):Gd M (rw r):=.mk fun d hd=>by
 obtain⟨q,hq,rfl⟩:=List.mem_map.mp hd;exact .nm (h q hq) %[|5]
noncomputable def S_28:DSp:=fun ds M Q E=>∃ r k,ds=[rw r]/\(∀ x∈r,Sz k x)/\k<=3900/\1<=r.length/\r.length<=100/\∀ M',MExt M M'->Q (rw (stepsOf r)) M'
noncomputable def C_28:CSs:=%[.ret (.bi .tuple %[.comp ["row","at"] 1 (.name 1) (.rng %[.int 1,.bi .len %[.var 0|0]|0]) (.call "taken" S_20 %[.ix (.var 0) (.var 1),.ix (.var 0) (.bin .Sub (.var 1) (.int 1))|0])|0])|0]
theorem vc_28:∀ ds M R E,S_28 ds M R E->rSs C_28 (ends R E) (startD 1 ds) M:=by
 rintro ds M R E ⟨r,k,rfl,sz,hk,h1,h2,q⟩;unfold C_28;sleep 1;refine comp_mapG (List.range (r.length-1)) (fun i=>.int (1+(i:Int))) (fun i=>nm (ri r (i+1)-ri r i)) ?_ (by simp;omega) ?_ ?_
 ·intro R' r'
  simp[0,gdTup,vAt,vHd,dCallV,revOp,bMul,bAdd,sOp,fTuple,fList,fIsi,itSeq,and_assoc,sizeLine_eq,rSs_nil,diRng];refine rw_len ?_;have e:rngD 1 1 (r.length-1)=(List.range (r.length-1)).map fun i=>.int (1+(i:Int)):=by
   unfold rngD;simp
  refine⟨by omega,by omega,?_⟩
  (try refine⟨by omega,by omega,?_⟩)
  rw[show ((r.length:Int)-1).toNat=r.length-1 by omega,e];exact r' _ fun _ _=>trivial
 ·intro i hi' l M' R' hl e r'
  obtain⟨a,rfl⟩:=len1 hl;have hi2:i<r.length-1:=by simpa using hi'
  sleep 2;rw[show (1:Int)+(i:Int)=((i+1:Nat):Int) by omega];refine rw_ix (i:=i+1) %[|5] ?_;rw[show ((i+1:Nat):Int)-1=(i:Int) by omega];refine rw_ix (i:=i) %[|5] ?_;refine⟨_,_,rfl,.mk (sz _ (ri_mem %[|5])) (sz _ (ri_mem %[|5])) %[|5],?_⟩;exact r' [_] M' rfl (.refl _)
 ·intro p M' hp e l
  refine⟨_,l,?_⟩;have:=q M' e
  simpa[rw,stepsOf,Function.comp_def] using this
section
variable {M:Mem} {Q:DK} {r s:List Rat} {t u:List (Rat×Rat)} {p:Rat×Rat} {q:Rat} {xs ys:List DL.D} {lo hi:Option Int} {i j k:Int} {a b:Addr} {d:DL.D}
@[simp] theorem l_tup1:D.tup [nm q]=rw [q]:=rfl
@[simp] theorem l_tupp:D.tup [nm x,nm y]=pl (x,y):=rfl
@[simp] theorem l_tub1:D.tup [pl p]=tb [p]:=rfl
@[simp] theorem l_put:D.tup (r.map nm++nm q::s.map nm)=rw (r++q::s):=by unfold rw;simp
@[simp] theorem l_putB:D.tup (t.map pl++pl p::u.map pl)=tb (t++p::u):=by unfold tb;simp
@[simp] theorem l_addI:bAdd (.int i) (.int j) M Q=Q (.int (i+j)) M:=rfl
@[simp] theorem l_addT:bAdd (.tup xs) (.tup ys) M Q=(xs.length+ys.length<=sizeLine/\Q (.tup (xs++ys)) M):=rfl
@[simp] theorem l_addL:bAdd (.lst a) (.lst b) M Q=(∃ xs ys,M a=some (.ls xs)/\M b=some (.ls ys)/\xs.length+ys.length<=sizeLine/\DL.alloc M (.ls (xs++ys)) fun p M'=>Q (.lst p) M'):=rfl
@[simp] theorem l_addR:bAdd (rw r) (rw s) M Q=(r.length+s.length<=sizeLine/\Q (rw (r++s)) M):=by
 show ((r.map nm).length+(s.map nm).length<=sizeLine/\Q (.tup (r.map nm++s.map nm)) M)=_;rw[List.length_map,List.length_map,<- List.map_append];rfl
@[simp] theorem l_addB:bAdd (tb t) (tb u) M Q=(t.length+u.length<=sizeLine/\Q (tb (t++u)) M):=by
 show ((t.map pl).length+(u.map pl).length<=sizeLine/\Q (.tup (t.map pl++u.map pl)) M)=_;rw[List.length_map,List.length_map,<- List.map_append];rfl
@[simp] theorem l_addRT:bAdd (rw r) (.tup ys) M Q=(r.length+ys.length<=sizeLine/\Q (.tup (r.map nm++ys)) M):=by
 show ((r.map nm).length+ys.length<=sizeLine/\Q (.tup (r.map nm++ys)) M)=_;rw[List.length_map]
@[simp] theorem l_addTR:bAdd (.tup ys) (rw r) M Q=(ys.length+r.length<=sizeLine/\Q (.tup (ys++r.map nm)) M):=by
 show (ys.length+(r.map nm).length<=sizeLine/\Q (.tup (ys++r.map nm)) M)=_;rw[List.length_map]
@[simp] theorem l_addBT:bAdd (tb t) (.tup ys) M Q=(t.length+ys.length<=sizeLine/\Q (.tup (t.map pl++ys)) M):=by
 show ((t.map pl).length+ys.length<=sizeLine/\Q (.tup (t.map pl++ys)) M)=_;rw[List.length_map]
@[simp] theorem l_addTB:bAdd (.tup ys) (tb t) M Q=(ys.length+t.length<=sizeLine/\Q (.tup (ys++t.map pl)) M):=by
 show (ys.length+(t.map pl).length<=sizeLine/\Q (.tup (ys++t.map pl)) M)=_;rw[List.length_map]
@[simp] theorem l_mulI:bMul (.int i) (.int j) M Q=(IntMulOk i j/\Q (.int (i*j)) M):=rfl
@[simp] theorem l_mulT:bMul (.tup xs) (.int k) M Q=(0<=k/\k<1000000/\xs.length*k.toNat<=sizeLine/\Q (.tup (List.replicate k.toNat xs).flatten) M):=rfl
@[simp] theorem l_mulL:bMul (.lst a) (.int k) M Q=(∃ xs,M a=some (.ls xs)/\0<=k/\k<1000000/\xs.length*k.toNat<=sizeLine/\DL.alloc M (.ls (List.replicate k.toNat xs).flatten) fun p M'=>Q (.lst p) M'):=rfl
theorem map_flat (f:α->β) (n:Nat) (r:List α):(List.replicate n (r.map f)).flatten=((List.replicate n r).flatten).map f:=by
 induction n with
 | zero=>rfl
 | succ n ih=>rw [List.replicate_succ,List.replicate_succ,List.flatten_cons,List.flatten_cons,ih,List.map_append]
@[simp] theorem l_mulR:bMul (rw r) (.int k) M Q=(0<=k/\k<1000000/\r.length*k.toNat<=sizeLine/\Q (rw (List.replicate k.toNat r).flatten) M):=by
 show (0<=k/\k<1000000/\(r.map nm).length*k.toNat<=sizeLine/\Q (.tup (List.replicate k.toNat (r.map nm)).flatten) M)=_;rw[List.length_map,map_flat];rfl
@[simp] theorem l_mulB:bMul (tb t) (.int k) M Q=(0<=k/\k<1000000/\t.length*k.toNat<=sizeLine/\Q (tb (List.replicate k.toNat t).flatten) M):=by
 show (0<=k/\k<1000000/\(t.map pl).length*k.toNat<=sizeLine/\Q (.tup (List.replicate k.toNat (t.map pl)).flatten) M)=_;rw[List.length_map,map_flat];rfl
theorem cut_map (f:α->β) (xs:List α) (lo hi:Option Int):cutG (xs.map f) lo hi=(cutG xs lo hi).map f:=by
 unfold cutG;simp[List.map_take,List.map_drop]
@[simp] theorem l_slF:sOp (.fz xs) lo hi M Q=DL.alloc M (.ls (cutG xs lo hi)) fun p M'=>Q (.lst p) M':=rfl
@[simp] theorem l_slL:sOp (.lst a) lo hi M Q=(∃ xs,M a=some (.ls xs)/\DL.alloc M (.ls (cutG xs lo hi)) fun p M'=>Q (.lst p) M'):=rfl
@[simp] theorem l_slT:sOp (.tup xs) lo hi M Q=Q (.tup (cutG xs lo hi)) M:=rfl
@[simp] theorem l_slR:sOp (rw r) lo hi M Q=Q (rw (cutG r lo hi)) M:=by
 show Q (.tup (cutG (r.map nm) lo hi)) M=_;rw[cut_map];rfl
@[simp] theorem l_slB:sOp (tb t) lo hi M Q=Q (tb (cutG t lo hi)) M:=by
 show Q (.tup (cutG (t.map pl) lo hi)) M=_;rw[cut_map];rfl
@[simp] theorem l_reT:revOp (.tup xs) (some (-1)) M Q=Q (.tup xs.reverse) M:=by unfold revOp;simp
@[simp] theorem l_reR:revOp (rw r) (some (-1)) M Q=Q (rw r.reverse) M:=by
 unfold revOp;rw[show rw r=.tup (r.map nm) from rfl];simp[rw]
@[simp] theorem l_reB:revOp (tb t) (some (-1)) M Q=Q (tb t.reverse) M:=by
 unfold revOp;rw[show tb t=.tup (t.map pl) from rfl];simp[tb]
@[simp] theorem l_lenT:fLen [.tup xs] M Q=Q (.int xs.length) M:=rfl
@[simp] theorem l_lenF:fLen [.fz xs] M Q=Q (.int xs.length) M:=rfl
@[simp] theorem l_lenL:fLen [.lst a] M Q=(∃ xs,M a=some (.ls xs)/\Q (.int xs.length) M):=rfl
@[simp] theorem l_lenR:fLen [rw r] M Q=Q (.int r.length) M:=by
 show Q (.int (r.map nm).length) M=_;rw[List.length_map]
@[simp] theorem l_lenB:fLen [tb t] M Q=Q (.int t.length) M:=by
 show Q (.int (t.map pl).length) M=_;rw[List.length_map]
@[simp] theorem l_tuT:fTuple [.tup xs] M Q=Q (.tup xs) M:=rfl
@[simp] theorem l_tuF:fTuple [.fz xs] M Q=Q (.tup xs) M:=rfl
@[simp] theorem l_tuL:fTuple [.lst a] M Q=(∃ xs,M a=some (.ls xs)/\Q (.tup xs) M):=rfl
@[simp] theorem l_tuR:fTuple [rw r] M Q=Q (rw r) M:=rfl
@[simp] theorem l_tuB:fTuple [tb t] M Q=Q (tb t) M:=rfl
@[simp] theorem l_liT:fList [.tup xs] M Q=DL.alloc M (.ls xs) fun p M'=>Q (.lst p) M':=rfl
@[simp] theorem l_liF:fList [.fz xs] M Q=DL.alloc M (.ls xs) fun p M'=>Q (.lst p) M':=rfl
@[simp] theorem l_liL:fList [.lst a] M Q=(∃ xs,M a=some (.ls xs)/\DL.alloc M (.ls xs) fun p M'=>Q (.lst p) M'):=rfl
@[simp] theorem l_liR:fList [rw r] M Q=DL.alloc M (.ls (r.map nm)) fun p M'=>Q (.lst p) M':=rfl
@[simp] theorem l_liB:fList [tb t] M Q=DL.alloc M (.ls (t.map pl)) fun p M'=>Q (.lst p) M':=rfl
theorem l_isT:fIsi [.tup xs,.ty "tuple"] M Q=Q (.bl true) M:=by
 unfold fIsi;simp[tyD,isiT]
@[simp] theorem l_isT':fIsi [.tup xs,.ty "tuple"] M Q=Q (.bl true) M:=l_isT
@[simp] theorem l_isN:fIsi [nm q,.ty "tuple"] M Q=Q (.bl true) M:=l_isT
@[simp] theorem l_isP:fIsi [pl p,.ty "tuple"] M Q=Q (.bl true) M:=l_isT
@[simp] theorem l_isR:fIsi [rw r,.ty "tuple"] M Q=Q (.bl true) M:=l_isT
@[simp] theorem l_isB:fIsi [tb t,.ty "tuple"] M Q=Q (.bl true) M:=l_isT
@[simp] theorem l_is0:fIsi [.non,.ty "tuple"] M Q=Q (.bl false) M:=by unfold fIsi;simp[tyD,isiT]
@[simp] theorem l_isC:fIsi [.exc n x,.cls c] M Q=Q (.bl (isSub n c)) M:=by unfold fIsi;simp
@[simp] theorem l_isC0:fIsi [.non,.cls c] M Q=Q (.bl false) M:=rfl
@[simp] theorem l_isV:fIsi [.exc n x,.ty "ValueError"] M Q=Q (.bl true) M:=by unfold fIsi;simp[tyD,isiT]
@[simp] theorem l_ix0:iOp (nm q) (.int 0) M Q=Q (.int q.num) M:=by
 refine propext ⟨fun h=>?_,fun h=>ix0 h⟩;obtain⟨v,e,h⟩:=h;rw[at_zero] at e;cases e;exact h
@[simp] theorem l_ix1:iOp (nm q) (.int 1) M Q=Q (.int q.den) M:=by
 refine propext ⟨fun h=>?_,fun h=>ix1 h⟩;obtain⟨v,e,h⟩:=h;rw[at_one] at e;cases e;exact h
@[simp] theorem l_px0:iOp (pl p) (.int 0) M Q=Q (nm p.1) M:=by
 refine propext ⟨fun h=>?_,fun h=>pl0 h⟩;obtain⟨v,e,h⟩:=h;rw[at_zero] at e;cases e;exact h
@[simp] theorem l_px1:iOp (pl p) (.int 1) M Q=Q (nm p.2) M:=by
 refine propext ⟨fun h=>?_,fun h=>pl1 h⟩;obtain⟨v,e,h⟩:=h;rw[at_one] at e;cases e;exact h
@[simp] theorem l_gtT {n:Nat} {g:DGs} {δ:DSt} {Q:DSt->Mem->Prop}:gdTup n g (.tup xs) δ M Q=(xs.length=n/\g xs δ M Q):=by
 unfold gdTup;simp
@[simp] theorem l_gtP {g:DGs} {δ:DSt} {Q:DSt->Mem->Prop}:gdTup 2 g (pl p) δ M Q=g [nm p.1,nm p.2] δ M Q:=by
 refine propext ⟨fun h=>?_,fun h=>⟨_,rfl,rfl,h⟩⟩;obtain⟨ds,e,_,h⟩:=h;cases e;exact h
@[simp] theorem l_gtN {g:DGs} {δ:DSt} {Q:DSt->Mem->Prop}:gdTup 2 g (nm q) δ M Q=g [.int q.num,.int q.den] δ M Q:=by
 refine propext ⟨fun h=>?_,fun h=>⟨_,rfl,rfl,h⟩⟩;obtain⟨ds,e,_,h⟩:=h;cases e;exact h
@[simp] theorem l_itT:itSeq (.tup xs) M R=R xs (fun _=>True) M:=rfl
@[simp] theorem l_itF:itSeq (.fz xs) M R=R xs (fun _=>True) M:=rfl
@[simp] theorem l_itL:itSeq (.lst a) M R=(∃ xs,M a=some (.ls xs)/\R xs (fun M'=>M' a=some (.ls xs)) M):=rfl
@[simp] theorem l_itR:itSeq (rw r) M R=R (r.map nm) (fun _=>True) M:=rfl
@[simp] theorem l_itB:itSeq (tb t) M R=R (t.map pl) (fun _=>True) M:=rfl
@[simp] theorem l_izR:itZip [rw r,rw s] M R=R ((List.zip r s).map fun z=>pl z) (fun _=>True) M:=by
 show R (zipD (r.map nm) (s.map nm)) _ _=_;unfold zipD;rw[List.zipWith_map,List.zip,List.map_zipWith];rfl
@[simp] theorem l_izB:itZip [tb t,rw s] M R=R ((List.zip t s).map fun z=>.tup [pl z.1,nm z.2]) (fun _=>True) M:=by
 show R (zipD (t.map pl) (s.map nm)) _ _=_;unfold zipD;rw[List.zipWith_map,List.zip,List.map_zipWith]
@[simp] theorem l_izC:itZip [rw s,tb t] M R=R ((List.zip s t).map fun z=>.tup [nm z.1,pl z.2]) (fun _=>True) M:=by
 show R (zipD (s.map nm) (t.map pl)) _ _=_;unfold zipD;rw[List.zipWith_map,List.zip,List.map_zipWith]
@[simp] theorem l_cnN:cIs neg (nm q) .non M Q=Q (.bl neg) M:=by unfold cIs nm;cases neg<;>rfl
@[simp] theorem l_cnR:cIs neg (rw r) .non M Q=Q (.bl neg) M:=by unfold cIs rw;cases neg<;>rfl
@[simp] theorem l_cnB:cIs neg (tb t) .non M Q=Q (.bl neg) M:=by unfold cIs tb;cases neg<;>rfl
@[simp] theorem l_cnX:cIs neg (.exc n x) .non M Q=Q (.bl neg) M:=by unfold cIs;cases neg<;>rfl
@[simp] theorem l_cn0:cIs neg .non .non M Q=Q (.bl !neg) M:=by unfold cIs;cases neg<;>rfl
@[simp] theorem l_ctt {neg b c:Bool}:cIs neg (.bl b) (.bl c) M Q=Q (.bl (if neg then !(b==c) else b==c)) M:=by unfold cIs;cases neg<;>rfl
end
theorem nm_pair (h:1<=b) (g:Int.gcd a b=1):D.tup [.int a,.int b]=nm (Rat.divInt a b):=by
 unfold nm;rw[(of_gcd h g).1,(of_gcd h g).2]
theorem nx_gen {s:CS} {rest:CSs} {D:DEnds} {δ:DSt} {M:Mem} (h:∀ J:DSt->Mem->Prop,(∀ δ' M',rSs rest D δ' M'->J δ' M')->rS s {D with nx:=J} δ M):rSs (.cons s rest) D δ M:=by
 rw[rSs_cons];exact h _ fun _ _ h=>h
theorem cut_hi (xs:List α) (n:Nat) (h:n<=xs.length):cutG xs none (some (n:Int))=xs.take n:=by
 unfold cutG;rw[HT.sIx_none,HT.sIx_nat,List.drop_zero,Nat.sub_zero,Nat.min_eq_left %[|5]]
theorem cut_lo (xs:List α) (n:Nat) (h:n<=xs.length):cutG xs (some (n:Int)) none=xs.drop n:=by
 unfold cutG;rw[HT.sIx_none,HT.sIx_nat,Nat.min_eq_left %[|5],List.take_of_length_le (by simp)]
end K
end
set_option bootstrap.genMatcherCode true
local macro_rules
 | `(tactic| sleep 7)=>`(tactic| ((try dsimp only);rw[rSs_cons];sleep 8))
 | `(tactic| sleep 8)=>`(tactic| ((try dsimp only[0,vAt,vHd,List.set_cons_succ,List.set_cons_zero,List.cons_append,List.nil_append,List.map,List.length_cons,List.length_nil,Nat.reduceAdd,Nat.reduceSub,List.replicate_succ,List.replicate_zero,dCallV,diZip,diSeq,dFld,dMeth,dMake,dSetF]);try simp[0,vAt,vHd,dCallV,and_assoc,sizeLine_eq,rSs_nil,diZip,diSeq,dFld,dMeth,dMake,dSetF]))
 | `(tactic| sleep 9)=>`(tactic| ((try dsimp only);rw[rSs_cons];(try dsimp only[rS,rI,dFor,diRng]);sleep 8))
set_option bootstrap.genMatcherCode false
noncomputable section
namespace K
open PySem DL Q
theorem glo_of_pair (X:K.In h) (G:h.Ns mainGlobals mg) (e:PySem.W.nsIn K mainGlobals n=some (some (.ref a)))
  (lk:K.lookup a=some ⟨.type "tuple",dd,.seq #[.int i t,.int j u] m,sl⟩):GloE K mg n (.tup [.int i,.int j]):=by
 refine⟨.ref a,.ref a,PySem.W.mg_of X G e,rfl,fun H=>.tup (vs:=[.int i,.int j]) (.inr ⟨_,#[.int i t,.int j u],m,lk,rfl,rfl,?_,?_⟩) (.cons (.int _) (.cons (.int _) .nil))⟩
 ·rw[sizeLine_eq];show 2<=16777216;decide
 ·exact .cons ⟨_,rfl⟩ (.cons ⟨_,rfl⟩ .nil)
abbrev G_NOUGHT:DL.D:=.tup [.int 0,.int 1]
noncomputable def kindsOf (n:Str):List Bool:=[isSub n "NoNumber",isSub n "NoText",isSub n "NoTube",isSub n "NoRow",isSub n "NoMeasure",isSub n "NoLevel",isSub n "NoData",isSub n "NoPrice",isSub n "NoNeeds",isSub n "NoRoom",isSub n "NoJobs",isSub n "NoCall",isSub n "NoKept"]
structure Only (n:Str) (i:Int):Prop where
 c:isSub n "CordError"=true
 k:kindsOf n=(List.range 13).map fun j:Nat=>decide ((j:Int)=i)
structure Pt where
 up:Bool
 at_:Rat
 wt:Rat
noncomputable def sd (b:Bool):DL.D:=.str (if b then "above" else "below")
noncomputable def pt (p:Pt):DL.D:=.tup [sd p.up,nm p.at_,nm p.wt]
noncomputable def Gr (L B:Nat) (x:Rat):Prop:=∃ n:Int,x=Rat.divInt n (L:Int)/\n.natAbs<=B
theorem Gr.mono (h:Gr L B x) (c:B<=C):Gr L C x:=by obtain⟨n,e,b⟩:=h;exact⟨n,e,by omega⟩
theorem Gr.sz (h:Gr L B x) (l0:0<L) (hL:L<2 ^ m) (hB:B<2 ^ m):Sz m x:=by
 obtain⟨n,rfl,b⟩:=h;exact sz_divInt %[|5] %[|5] (by simpa using hL)
theorem divInt_add_same (h:c≠0):Rat.divInt a c+Rat.divInt b c=Rat.divInt (a+b) c:=by
 rw[Rat.divInt_add_divInt _ _ h h,<- Int.add_mul,Rat.divInt_mul_right h]
theorem Gr.add (l0:0<L) (h:Gr L B x) (g:Gr L C y):Gr L (B+C) (x+y):=by
 obtain⟨n,rfl,b⟩:=h;obtain⟨m,rfl,c⟩:=g;refine⟨n+m,divInt_add_same %[|5],?_⟩;have:=Int.natAbs_add_le n m;omega
theorem Gr.neg (h:Gr L B x):Gr L B (-x):=by
 obtain⟨n,rfl,b⟩:=h;exact⟨-n,Rat.neg_divInt n _,by omega⟩
theorem Gr.sub (l0:0<L) (h:Gr L B x) (g:Gr L C y):Gr L (B+C) (x-y):=by
 rw[Rat.sub_eq_add_neg];exact h.add l0 g.neg
theorem Gr.zero:Gr L B 0:=⟨0,by rw[Rat.zero_divInt],by simp⟩
theorem Gr.of (l0:0<L) (h:x.den ∣ L):Gr L (x.num.natAbs*L) x:=by
 obtain⟨k,rfl⟩:=h;have k0:k≠0:=fun z=>by subst z;simp at l0
 refine⟨x.num*k,?_,?_⟩
 ·have:((x.den*k:Nat):Int)=(x.den:Int)*(k:Int):=by push_cast;rfl
  rw[this,Rat.divInt_mul_right %[|5],divInt_lowest]
 ·rw[Int.natAbs_mul]
  have:=x.den_nz;have h1:((k:Int)).natAbs=k:=by simp
  rw[h1];exact Nat.mul_le_mul_left _ (Nat.le_mul_of_pos_left k %[|5])
theorem Gr.div (h:Gr L B x) (d0:0<d) (dW:d ∣ W) (l0:0<L) (w0:0<W):Gr (L*W) (B*W) (x / (d:Rat)):=by
 obtain⟨n,rfl,b⟩:=h;obtain⟨k,rfl⟩:=dW;have k0:k≠0:=fun z=>by subst z;simp at w0
 refine⟨n*k,?_,?_⟩
 ·have e1:((d:Nat):Rat)=Rat.divInt (d:Int) 1:=(divInt_lowest ((d:Int):Rat)).symm
  rw[Rat.div_def,e1,Rat.inv_divInt,Rat.divInt_mul_divInt,Int.mul_one];have e2:((L*(d*k):Nat):Int)=((L:Int)*(d:Int))*(k:Int):=by push_cast;rw[Int.mul_assoc]
  rw[e2,Rat.divInt_mul_right %[|5]]
 ·rw[Int.natAbs_mul]
  have h1:((k:Int)).natAbs=k:=by simp
  rw[h1];exact Nat.le_trans (Nat.mul_le_mul_right _ b) (Nat.mul_le_mul_left _ (Nat.le_mul_of_pos_left k d0))
theorem Gr.up (h:Gr L B x) (l0:0<L) (w0:0<W):Gr (L*W) (B*W) x:=by
 have:=h.div (d:=1) %[|4] (Nat.one_dvd W) l0 w0
 rwa [show x / ((1:Nat):Rat)=x by rw[show ((1:Nat):Rat)=1 from rfl];grind] at this
theorem Gr.times (l0:0<L) (h:Gr L B x):∀ k:Nat,Gr L (k*B) ((k:Rat)*x)
 | 0=>by rw[show ((0:Nat):Rat)*x=0 by rw[show ((0:Nat):Rat)=0 from rfl];grind];exact .zero
 | k+1=>by
  rw[Nat.succ_mul,show ((k+1:Nat):Rat)*x=(k:Rat)*x+x by push_cast;grind];exact (Gr.times l0 h k).add l0 h
noncomputable def dprod:List Rat->Nat
 | []=>1
 | x::r=>x.den*dprod r
theorem dprod_pos:∀ l,0<dprod l
 | []=>by decide
 | x::r=>by
  have:=x.den_nz;exact Nat.mul_pos %[|5] (dprod_pos r)
theorem dprod_dvd:∀ {l:List Rat} {x:Rat},x∈l->x.den ∣ dprod l
 | y::r,x,h=>by
  rcases List.mem_cons.mp h with rfl|h
  ·exact Nat.dvd_mul_right _ _
  ·exact Nat.dvd_trans (dprod_dvd h) (Nat.dvd_mul_left _ _)
theorem dprod_le:∀ {l:List Rat},(∀ x∈l,Sz m x)->dprod l<=2 ^ (m*l.length)
 | [],_=>Nat.one_le_two_pow
 | x::r,h=>by
  have a:=(h x List.mem_cons_self).2;have b:=dprod_le fun y hy=>h y (List.mem_cons_of_mem _ hy);rw[List.length_cons,Nat.mul_succ,Nat.add_comm,Nat.pow_add];exact Nat.mul_le_mul (Nat.le_of_lt a) b
theorem div24:∀ d:_root_.Fin 25,0<d.val->d.val ∣ 5354228880:=by decide +kernel
theorem Gr.tot (l0:0<L):∀ {s:List Rat},(∀ x∈s,Gr L B x)->Gr L (s.length*B) (Q.tot s)
 | [],_=>.zero
 | x::s,h=>by
  rw[tot_cons,List.length_cons,Nat.succ_mul,Nat.add_comm];exact (h x List.mem_cons_self).add l0 (Gr.tot l0 fun y hy=>h y (List.mem_cons_of_mem _ hy))
theorem num_pos' {q:Rat}:0<q.num ↔ 0<q:=by
 rw[Rat.lt_iff 0 q];simp
theorem gr_divInt (hb:0<b) (hd:b.toNat ∣ L) (l0:0<L) (ha:a.natAbs*L<=B):Gr L B (Rat.divInt a b):=by
 obtain⟨k,rfl⟩:=hd;have k0:k≠0:=fun z=>by subst z;simp at l0
 refine⟨a*k,?_,?_⟩
 ·have:((b.toNat*k:Nat):Int)=b*(k:Int):=by push_cast;rw[Int.toNat_of_nonneg %[|5]]
  rw[this,Rat.divInt_mul_right %[|5]]
 ·rw[Int.natAbs_mul]
  have h1:((k:Int)).natAbs=k:=by simp
  rw[h1];exact Nat.le_trans (Nat.mul_le_mul_left _ (Nat.le_mul_of_pos_left k %[|5])) ha
theorem steps_gr (l0:0<L) (h:∀ x∈r,Gr L B x):∀ x∈stepsOf r,Gr L (B+B) x:=fun x hx=>by
 obtain⟨i,hi,rfl⟩:=List.mem_map.mp hx;have hi:=List.mem_range.mp hi;exact (h _ (ri_mem %[|5])).sub l0 (h _ (ri_mem %[|5]))
section
variable {ms:List Pt} {s:List Rat} {L B W C:Nat}
end
noncomputable def S_7:DSp:=fun ds M Q E=>∃ (p:Addr) (s:List Rat),ds=[.lst p]/\M p=some (.ls (s.map nm))/\(∀ x∈s,Sz 3900 x)/\(∀ i,Sz 3900 (tot (s.take i)))/\Q (nm (tot s)) M
noncomputable def C_7:CSs:=%[.set 1 (.glo "NOUGHT" G_NOUGHT),.fr (.name 2) (.seq (.var 0)) %[.set 1 (.call "added" S_6 %[.var 1,.var 2|0])|0],.ret (.var 1)|0]
theorem vc_7:∀ ds M R E,S_7 ds M R E->rSs C_7 (ends R E) (startD 3 ds) M:=by
 rintro ds M R E ⟨p,s,rfl,l,hs,ht,q⟩;unfold C_7;sleep 7;sleep 9;refine⟨_,l,?_⟩;refine forD_ix (fun i δ M'=>∃ w,M'=M/\δ=[some (.lst p),some (nm (tot (s.take i))),w]) (fun _ _ _ h=>by obtain⟨_,h,_⟩:=h;rw[h];exact l) ?_ ?_ ⟨none,rfl,rfl⟩
 ·rintro δ M' ⟨w,rfl,rfl⟩
  sleep 7;exact q
 ·rintro i x hx N hN δ M' ⟨w,rfl,rfl⟩
  obtain⟨hi,rfl⟩:∃ hi:i<s.length,x=nm s[i]:=by
   obtain⟨h,e⟩:=List.getElem?_eq_some_iff.mp hx;have h':i<s.length:=by simpa using h
   exact⟨h',by rw[<- e];simp⟩
  sleep 8;sleep 7;refine⟨_,_,rfl,.mk (ht i) (hs _ (List.getElem_mem hi)) %[|4],?_⟩;refine hN _ _ ⟨some (nm s[i]),rfl,?_⟩;rw[List.take_succ_eq_append_getElem hi,tot_add]
theorem loopD_ix:∀ {items:List DL.D} (I:Nat->DSt->Mem->Prop),(∀ i δ M,I i δ M->keep M)->(∀ δ M,I items.length δ M->Q δ M) ->
  (∀ i x,items[i]?=some x->∀ N:DSt->Mem->Prop,(∀ δ M,I (i+1) δ M->N δ M)->∀ δ M,I i δ M->g x δ M fun δ1 M1=>b δ1 M1 N)->∀ {δ M},I 0 δ M->loopD g b keep items δ M Q
 | [],I,hk,he,ht,δ,M,h0=>he δ M h0
 | x::xs,I,hk,he,ht,δ,M,h0=>by
  unfold loopD;exact ht 0 x rfl _ (fun δ' M' i'=>⟨hk _ δ' M' i',loopD_ix (fun i=>I (i+1)) (fun i=>hk (i+1)) he (fun i y hy N hN=>ht (i+1) y (by simpa using hy) N hN) i'⟩) δ M h0
noncomputable def wy (b:Bool):DL.D:=.str (if b then "up" else "down")
noncomputable def bd (z:Nat×Bool):DL.D:=.tup [.int z.1,wy z.2]
theorem taut_back {lo hi r:Nat->Rat} {n:Nat} (T:Taut lo hi r n) (h0:r 0=lo 0):∀ i,i<n->∃ b,b<=i/\(r b=lo b\/r b=hi b)/\∀ m,b<=m->m<=i+1->r m=r b+((m-b:Nat):Rat)*(r (i+1)-r i)
 | 0,_=>⟨0,Nat.le_refl _,.inl h0,fun m _ h=>by
   rcases (by omega:m=0\/m=1) with rfl|rfl
   ·show r 0=r 0+(0:Rat)*_;grind
   ·show r 1=r 0+(1:Rat)*(r 1-r 0);grind⟩
 | i+1,h=>by
  by_cases c:r (i+1)-r i=r (i+2)-r (i+1)
  ·obtain⟨b,b1,b2,b3⟩:=taut_back T h0 i %[|5]
   refine⟨b,by omega,b2,fun m m1 m2=>?_⟩;show r m=r b+_*(r (i+2)-r (i+1));rcases (by omega:m=i+2\/m<=i+1) with rfl|q
   ·have:=b3 (i+1) %[|5] %[|5]
    rw[show i+2-b=(i+1-b)+1 by omega];have e:((i+1-b+1:Nat):Rat)=((i+1-b:Nat):Rat)+1:=by push_cast;rfl
    rw[e,<- c];grind
   ·rw[b3 m m1 q,c]
  ·refine⟨i+1,Nat.le_refl _,?_,fun m m1 m2=>?_⟩
   ·rcases tri (r (i+1)-r i) (r (i+2)-r (i+1)) with z|z|z
    ·exact .inr (T.up (i+1) %[|5] h (by rw[Nat.add_sub_cancel];exact z))
    ·exact absurd z c
    ·exact .inl (T.down (i+1) %[|5] h (by rw[Nat.add_sub_cancel];exact z))
   ·rcases (by omega:m=i+1\/m=i+2) with rfl|rfl
    ·rw[Nat.sub_self];show r (i+1)=r (i+1)+(0:Rat)*_;grind
    ·rw[show i+2-(i+1)=1 by omega];show r (i+2)=r (i+1)+(1:Rat)*(r (i+2)-r (i+1));grind
theorem taut_forth {lo hi r:Nat->Rat} {n:Nat} (T:Taut lo hi r n) (hn:r n=lo n):∀ d i,n-i=d->i<n->∃ e,i<e/\e<=n/\(r e=lo e\/r e=hi e)/\r e=r i+((e-i:Nat):Rat)*(r (i+1)-r i)
 | 0,i,q,h=>by omega
 | d+1,i,q,h=>by
  by_cases hl:i+1=n
  ·refine⟨i+1,by omega,by omega,.inl (by rw[hl];exact hn),?_⟩
   rw[show i+1-i=1 by omega];show r (i+1)=r i+(1:Rat)*_;grind
  ·by_cases c:r (i+1)-r i=r (i+2)-r (i+1)
   ·obtain⟨e,e1,e2,e3,e4⟩:=taut_forth T hn d (i+1) %[|5] %[|5]
    refine⟨e,by omega,e2,e3,?_⟩;rw[e4,show r (i+1+1)-r (i+1)=r (i+1)-r i from c.symm,show e-i=(e-(i+1))+1 by omega];have e':((e-(i+1)+1:Nat):Rat)=((e-(i+1):Nat):Rat)+1:=by push_cast;rfl
    rw[e'];grind
   ·refine⟨i+1,by omega,by omega,?_,?_⟩
    ·rcases tri (r (i+1)-r i) (r (i+2)-r (i+1)) with z|z|z
     ·exact .inr (T.up (i+1) %[|5] %[|5] (by rw[Nat.add_sub_cancel];exact z))
     ·exact absurd z c
     ·exact .inl (T.down (i+1) %[|5] %[|5] (by rw[Nat.add_sub_cancel];exact z))
    ·rw[show i+1-i=1 by omega];show r (i+1)=r i+(1:Rat)*_;grind
theorem taut_grid {lo hi r:Nat->Rat} {n L B:Nat} (T:Taut lo hi r n) (h0:r 0=lo 0) (hn:r n=lo n) (h1:1<=n) (h2:n<=24) (l0:0<L) (g:∀ k,k<=n->Gr L B (lo k)/\Gr L B (hi k)):∀ i,i<=n->Gr (L*5354228880) (49*(B*5354228880)) (r i):=by
 have lw:0<L*5354228880:=by omega
 have gt:∀ k,k<=n->(r k=lo k\/r k=hi k)->Gr L B (r k):=fun k hk h=>by
  rcases h with h|h<;>rw[h]
  ·exact (g k hk).1
  ·exact (g k hk).2
 have main:∀ i,i<n->Gr (L*5354228880) (49*(B*5354228880)) (r i):=fun i hi'=>by
  obtain⟨b,b1,b2,b3⟩:=taut_back T h0 i hi';obtain⟨e,e1,e2,e3,e4⟩:=taut_forth T hn _ i rfl hi';have rb:=gt b %[|5] b2;have re:=gt e e2 e3;have ri':=b3 i b1 %[|5];have d0:(0:Rat)<((e-b:Nat):Rat):=by exact_mod_cast (by omega:0<e-b)
  have es:r e-r b=((e-b:Nat):Rat)*(r (i+1)-r i):=by
   rw[e4,ri',show e-b=(e-i)+(i-b) by omega];have:((e-i+(i-b):Nat):Rat)=((e-i:Nat):Rat)+((i-b:Nat):Rat):=by push_cast;rfl
   rw[this];grind
  have s:r (i+1)-r i=(r e-r b) / ((e-b:Nat):Rat):=by
   rw[es,Rat.mul_comm,Rat.mul_div_cancel (by grind)]
  have gs:=(re.sub l0 rb).div (W:=5354228880) (d:=e-b) %[|5] (div24 ⟨e-b,by omega⟩ (by show 0<e-b;omega)) l0 %[|4];rw[<- s] at gs;rw[ri'];refine ((rb.up l0 (W:=5354228880) %[|4]).add lw (gs.times lw (i-b))).mono ?_;have:(i-b)*((B+B)*5354228880)<=24*((B+B)*5354228880):=Nat.mul_le_mul_right _ %[|5];omega
 intro i hi';rcases (by omega:i<n\/i=n) with q|rfl
 ·exact main i q
 ·exact ((gt i %[|3] (.inl hn)).up l0 (W:=5354228880) %[|4]).mono %[|5]
abbrev G_MOST_HOURS:DL.D:=.int 24
abbrev G_MOST_JOBS_jobs:DL.D:=.int 12
structure Jb where
 a:Nat
 d:Nat
 w:Rat
noncomputable def jb (j:Jb):DL.D:=.tup [.int (j.a:Int),.int (j.d:Int),nm j.w]
noncomputable def jbs (js:List Jb):DL.D:=.tup (js.map jb)
structure Job (k:Nat) (j:Jb):Prop where
 ad:j.a<j.d
 d24:j.d<=24
 w0:0<j.w
 sw:Sz k j.w
structure Jobs (k:Nat) (js:List Jb):Prop where
 one:1<=js.length
 most:js.length<=12
 job:∀ j∈js,Job k j
 mon:js.Pairwise fun i j=>i.a<=j.a/\i.d<=j.d
 few:k<=40
noncomputable def lastD (js:List Jb):Nat:=(js.getLast?.map (·.d)).getD 0
theorem Jobs.last {k:Nat} {js:List Jb} (J:Jobs k js):∃ l,js.getLast?=some l/\l∈js/\lastD js=l.d/\∀ j∈js,j.d<=l.d:=by
 have hne:js≠[]:=fun e=>by have:=J.one;rw[e] at this;simp at this
 refine⟨js.getLast hne,List.getLast?_eq_some_getLast hne,List.getLast_mem hne,?_,fun j hj=>?_⟩
 ·unfold lastD;rw[List.getLast?_eq_some_getLast hne];rfl
 ·have e:=List.dropLast_concat_getLast hne
  rw[<- e] at hj;rcases List.mem_append.mp hj with h|h
  ·have p:=J.mon
   rw[<- e,List.pairwise_append] at p;exact (p.2.2 j h _ (by simp)).2
  ·simp at h
   rw[h];exact Nat.le_refl _
theorem Jobs.lastAt {k:Nat} {js:List Jb} (J:Jobs k js):∃ l,L2.atI (js.map jb) (-1)=some (jb l)/\lastD js=l.d:=by
 obtain⟨l,h,_,e,_⟩:=J.last;refine⟨l,?_,e⟩;have hne:js≠[]:=fun e=>by rw[e] at h;cases h
 have hm:js.map jb≠[]:=by simpa using hne
 rw[at_last hm];have:(js.map jb).getLast?=some (jb l):=by rw[List.getLast?_map,h];rfl
 rw[List.getLast?_eq_some_getLast hm] at this;exact this
theorem Jobs.last1 {k:Nat} {js:List Jb} (J:Jobs k js):1<=lastD js/\lastD js<=24:=by
 obtain⟨l,_,hm,e,_⟩:=J.last;have:=(J.job l hm).ad;have:=(J.job l hm).d24;omega
noncomputable def dueW (js:List Jb) (h:Nat):List Rat:=(js.filter fun j=>decide (j.d<=h)).map (·.w)
noncomputable def arrW (js:List Jb) (h:Nat):List Rat:=(js.filter fun j=>decide (j.a<h)).map (·.w)
noncomputable def jobP (js:List Jb) (h:Nat):Rat×Rat:=(tot (dueW js h),tot (arrW js h))
noncomputable def jobT (js:List Jb):List (Rat×Rat):=(List.range (lastD js+1)).map (jobP js)
theorem jobT_len (js:List Jb):(jobT js).length=lastD js+1:=by simp[jobT]
theorem jobT_at {js:List Jb} {h:Nat} (hh:h<=lastD js):(jobT js).getD h (0,0)=jobP js h:=by
 have:h<lastD js+1:=by omega
 simp[jobT,List.getD,this]
theorem tot_szn {k:Nat}:∀ {s:List Rat},(∀ x∈s,Sz k x)->Sz (1+s.length*(k+1)) (tot s)
 | [],_=>by
  have:Sz 1 (0:Rat):=⟨by decide,by decide⟩;exact this.mono (by simp)
 | a::s,h=>by
  rw[tot_cons];have:=(h a List.mem_cons_self).add (tot_szn fun x hx=>h x (List.mem_cons_of_mem _ hx));refine this.mono ?_;rw[List.length_cons,Nat.succ_mul];omega
theorem Jobs.sub {k:Nat} {js:List Jb} (J:Jobs k js) (P:Jb->Bool):∀ x∈(js.filter P).map (·.w),Sz k x:=fun x hx=>by
 obtain⟨j,hj,rfl⟩:=List.mem_map.mp hx;exact (J.job j (List.mem_filter.mp hj).1).sw
theorem sub_len (js:List Jb) (P:Jb->Bool):((js.filter P).map (·.w)).length<=js.length:=by rw[List.length_map];exact List.length_filter_le _ _
theorem tot_w {k:Nat} {s:List Rat} (h:∀ x∈s,Sz k x) (hl:s.length<=12) (hk:k<=40):Sz 500 (tot s):=by
 have m:s.length*(k+1)<=12*41:=Nat.mul_le_mul hl %[|5];exact (tot_szn h).mono %[|5]
theorem tot_filter_le {P R:Jb->Bool}:∀ {js:List Jb},(∀ j∈js,0<j.w)->(∀ j∈js,P j=true->R j=true)->tot ((js.filter P).map (·.w))<=tot ((js.filter R).map (·.w))
 | [],_,_=>Rat.le_refl
 | j::js,hw,h=>by
  have ih:=tot_filter_le (P:=P) (R:=R) (js:=js) (fun i hi=>hw i (List.mem_cons_of_mem _ hi)) (fun i hi=>h i (List.mem_cons_of_mem _ hi));have w:=hw j List.mem_cons_self;have hj:=h j List.mem_cons_self;rw[List.filter_cons,List.filter_cons];cases hp:P j with
  | true =>
   rw[hj hp,if_pos rfl,if_pos rfl,List.map_cons,List.map_cons,tot_cons,tot_cons];grind
  | false =>
   rw[if_neg %[|4]];split
   ·rw[List.map_cons,tot_cons];grind
   ·exact ih
theorem Jobs.fine {k:Nat} {js:List Jb} (J:Jobs k js):Fine (jobT js) 500:=by
 have L:=jobT_len js;have l1:=J.last1;obtain⟨l,_,hm,el,hd⟩:=J.last;have zero:jobP js 0=(0,0):=by
  have e1:dueW js 0=[]:=by
   unfold dueW;rw[List.filter_eq_nil_iff.mpr];rfl;intro j hj;have:=(J.job j hj).ad;simp;omega
  have e2:arrW js 0=[]:=by
   unfold arrW;rw[List.filter_eq_nil_iff.mpr];rfl;intro j hj;simp
  unfold jobP;rw[e1,e2];rfl
 have fin:(jobP js (lastD js)).1=(jobP js (lastD js)).2:=by
  have e1:dueW js (lastD js)=js.map (·.w):=by
   unfold dueW;rw[List.filter_eq_self.mpr];intro j hj;have:=hd j hj;simp;omega
  have e2:arrW js (lastD js)=js.map (·.w):=by
   unfold arrW;rw[List.filter_eq_self.mpr];intro j hj;have:=hd j hj;have:=(J.job j hj).ad;simp;omega
  unfold jobP;rw[e1,e2]
 have ln:=J.most;have few:=J.few;have sz:∀ h,Sz 500 (jobP js h).1/\Sz 500 (jobP js h).2:=fun h =>
  ⟨tot_w (J.sub _) (Nat.le_trans (sub_len js _) ln) few,tot_w (J.sub _) (Nat.le_trans (sub_len js _) ln) few⟩
 refine⟨⟨by omega,by omega,fun p hp=>?_⟩,?_,fun i hi'=>?_,fun i hi'=>?_,by decide⟩
 ·unfold jobT at hp
  obtain⟨h,_,rfl⟩:=List.mem_map.mp hp;refine tot_filter_le (fun j hj=>(J.job j hj).w0) fun j hj hh=>?_;have:=(J.job j hj).ad;simp at hh ⊢;omega
 ·unfold tied lo hi
  rw[jobT_at %[|5],L,Nat.add_sub_cancel,jobT_at %[|5],zero,fin];simp
 ·unfold lo;rw[jobT_at %[|5]];exact (sz i).1
 ·unfold hi;rw[jobT_at %[|5]];exact (sz i).2
theorem comp_filtG {α:Type} {n:Nat} {ti:DI} {g:DG} {tt:DT} {te:DE} {δ:DSt} {M:Mem} {Q:DK} (xs:List α) (e f:α->DL.D) (P:α->Bool)
  (hti:∀ R:List DL.D->(Mem->Prop)->Mem->Prop,(∀ keep,(∀ M',MExt M M'->keep M')->R (xs.map e) keep M)->ti δ M R) (hlen:xs.length<=1000)
  (hel:∀ x∈xs,∀ l M' (N:DSt->Mem->Prop),l.length=n->MExt M M'->(∀ l' ,l'.length=n->(∀ Qt:Bool->Mem->Prop,Qt (P x) M'->tt (δ++l') M' Qt)->(∀ Qe:DK,Qe (f x) M'->te (δ++l') M' Qe)->N (δ++l') M')->g (e x) (δ++l) M' N)
  (hq:∀ p M',M p=none->MExt M M'->M' p=some (.ls ((xs.filter P).map f))->Q (.lst p) M'):dCompB n ti g (bIf tt (bEmit te)) δ M Q:=by
 refine hti _ fun keep hk p hp=>⟨hk _ (.new hp),?_⟩;refine loopD_ix (fun i δ' M'=>(∃ l,l.length=n/\δ'=δ++l)/\MExt M M'/\M' p=some (.ls (((xs.take i).filter P).map f))) (fun _ _ _ h=>hk _ h.2.1) ?_ ?_ ⟨⟨_,by simp,rfl⟩,.new hp,mupd_same⟩
 ·rintro δ' M' ⟨_,x,l⟩
  rw[List.length_map,List.take_length] at l;exact⟨⟨_,l⟩,hq p M' hp x l⟩
 ·rintro i y hy N hN δ' M' ⟨⟨w,hw,rfl⟩,x,l⟩
  obtain⟨hi,rfl⟩:∃ hi:i<xs.length,y=e xs[i]:=by
   obtain⟨h,e⟩:=List.getElem?_eq_some_iff.mp hy;have h':i<xs.length:=by simpa using h
   exact⟨h',by rw[<- e];simp⟩
  have hm:=List.getElem_mem hi;have tk:(xs.take (i+1)).filter P=(xs.take i).filter P++[xs[i]].filter P:=by rw[List.take_succ_eq_append_getElem hi,List.filter_append]
  have fl:((xs.take i).filter P).length<=1000:=Nat.le_trans (List.length_filter_le _ _) (by rw[List.length_take];omega);generalize xs[i]=v at hm tk;refine hel v hm w M' _ hw x fun l' hl' htt hte=>?_;unfold bIf;refine htt _ ?_;cases hp':P v with
  | true =>
   rw[if_pos rfl];unfold bEmit;refine hte _ ⟨_,l,by rw[List.length_map,sizeLine_eq];omega,?_⟩;refine hN _ _ ⟨⟨_,hl',rfl⟩,MExt.upd_new hp x,?_⟩;rw[mupd_same,tk];simp[hp']
  | false =>
   rw[if_neg %[|4]];refine hN _ _ ⟨⟨_,hl',rfl⟩,x,?_⟩;rw[l,tk];simp[hp']
noncomputable def S_11:DSp:=fun ds M Q E=>∃ j k,ds=[jb j]/\Job k j/\k<=40/\Q (.bl true) M
noncomputable def C_11:CSs:=%[.ife (.or (.not (.bi .isinstance %[.var 0,.ty .tuple|0])) (.one (.cmp .NotEq (.bi .len %[.var 0|0]) (.int 3)))) %[.ret (.bl false)|0] .nil,.asg (.tup %[.name 1,.name 2,.name 3|0]) (.var 0),.ife (.or (.not (.call "is_whole" S_9 %[.var 1|0])) (.or (.not (.call "is_whole" S_9 %[.var 2|0])) (.one (.not (.chain3 .LtE .Lt .LtE (.int 0) (.var 1) (.var 2) (.glo "MOST_HOURS" G_MOST_HOURS)))))) %[.ret (.bl false)|0] .nil,.ret (.and (.call "is_number" S_10 %[.var 3|0]) (.one (.call "is_less" S_8 %[.glo "NOUGHT" G_NOUGHT,.var 3|0])))|0]
theorem vc_11:∀ ds M R E,S_11 ds M R E->rSs C_11 (ends R E) (startD 4 ds) M:=by
 rintro ds M R E ⟨j,k,rfl,J,hk,q⟩;have ad:=J.ad;have d24:=J.d24;rw[show jb j=.tup [.int (j.a:Int),.int (j.d:Int),nm j.w] from rfl];unfold C_11;sleep 7;refine eq_int true ?_;simp;sleep 7;sleep 7;refine⟨_,"int",rfl,rfl,?_⟩;simp;refine⟨_,"int",rfl,rfl,?_⟩;simp[dChain3];sleep 8;refine .inr ⟨ad,.inr ⟨by omega,?_⟩⟩;sleep 7;refine⟨nm j.w,rfl,gnm J.sw %[|5],?_⟩;rw[isNum_nm];simp;refine⟨0,j.w,rfl,.mk (m:=1) (n:=k) ⟨by decide,by decide⟩ J.sw %[|5],?_⟩;rw[decide_eq_true J.w0];exact q
theorem jb_zip {js:List Jb}:zipD (js.map jb) (cutG (js.map jb) (some 1) none)=(List.range (js.length-1)).map fun i=>.tup [jb (js.getD i ⟨0,0,0⟩),jb (js.getD (i+1) ⟨0,0,0⟩)]:=by
 by_cases h1:1<=js.length
 ·rw[show (some (1:Int))=some ((1:Nat):Int) from rfl,cut_lo _ _ (by simpa using h1)]
  apply List.ext_getElem
  ·simp[zipD]
  ·intro i a b
   simp at b;have h2:i<js.length:=by omega
   have h3:i+1<js.length:=by omega
   simp[zipD,List.getD,h2,h3,Nat.add_comm 1 i]
 ·have:js=[]:=List.length_eq_zero_iff.mp %[|5]
  subst this
  rfl
noncomputable def S_12:DSp:=fun ds M Q E=>∃ js k,ds=[jbs js]/\Jobs k js/\∀ M',MExt M M'->Q (.bl true) M'
noncomputable def C_12:CSs:=%[.ife (.or (.not (.bi .isinstance %[.var 0,.ty .tuple|0])) (.one (.not (.chain .LtE .LtE (.int 1) (.bi .len %[.var 0|0]) (.glo "MOST_JOBS_jobs" G_MOST_JOBS_jobs))))) %[.ret (.bl false)|0] .nil,.ife (.not (.bi .all %[.comp ["thing","part"] 1 (.name 1) (.seq (.var 0)) (.call "is_job_jobs" S_11 %[.var 1|0])|0])) %[.ret (.bl false)|0] .nil,.ret (.bi .all %[.comp ["thing","one","other"] 2 (.tup %[.name 1,.name 2|0]) (.zip %[.var 0,.sl (.var 0) (.some (.int 1)) .none|0]) (.and (.cmp .LtE (.ix (.var 1) (.int 0)) (.ix (.var 2) (.int 0))) (.one (.cmp .LtE (.ix (.var 1) (.int 1)) (.ix (.var 2) (.int 1)))))|0])|0]
theorem vc_12:∀ ds M R E,S_12 ds M R E->rSs C_12 (ends R E) (startD 1 ds) M:=by
 rintro ds M R E ⟨js,k,rfl,J,q⟩;have h1:=J.one;have h12:=J.most;have few:=J.few;rw[show jbs js=.tup (js.map jb) from rfl];unfold C_12;sleep 7;rw[if_pos %[|5],if_pos %[|5]];sleep 7;refine comp_mapG js jb (fun _=>.bl true) ?_ %[|5] ?_ ?_
 ·intro R' r'
  sleep 30;exact r' _ fun _ _=>trivial
 ·intro j hj l M' R' hl' e r'
  obtain⟨u,rfl⟩:=len1 hl';sleep 8;exact⟨j,k,rfl,J.job j hj,few,r' [_] M' rfl (.refl _)⟩
 intro p1 M1 e1 x1 l1;refine all_of (f:=fun _=>true) l1 ?_;rw[show (js.all fun _=>true)=true by simp];simp;sleep 7;refine comp_mapG (List.range (js.length-1)) (fun i=>.tup [jb (js.getD i ⟨0,0,0⟩),jb (js.getD (i+1) ⟨0,0,0⟩)]) (fun _=>.bl true) ?_ (by simp;omega) ?_ ?_
 ·intro R' r'
  simp[0,vAt,vHd,dCallV,and_assoc,sizeLine_eq,rSs_nil,diZip,diSeq,dFld,dMeth,dMake,dSetF,diZip,itZip];rw[jb_zip];exact r' _ fun _ _=>trivial
 ·intro i hi l M' R' hl' e r'
  obtain⟨u1,u2,rfl⟩:=len2 hl';have hi':=List.mem_range.mp hi;have a1:i<js.length:=by omega
  have a2:i+1<js.length:=by omega
  have m:=List.pairwise_iff_getElem.mp J.mon i (i+1) a1 a2 %[|5];have g1:js.getD i ⟨0,0,0⟩=js[i]:=by simp[List.getD,a1]
  have g2:js.getD (i+1) ⟨0,0,0⟩=js[i+1]:=by simp[List.getD,a2]
  rw[g1,g2];generalize js[i]=x at m;generalize js[i+1]=y at m;rw[show jb x=.tup [.int (x.a:Int),.int (x.d:Int),nm x.w] from rfl,show jb y=.tup [.int (y.a:Int),.int (y.d:Int),nm y.w] from rfl];sleep 8;refine tix (v:=.int (x.a:Int)) (at_zero _ _) ?_;refine tix (v:=.int (y.a:Int)) (at_zero _ _) ?_;simp[m.1];refine tix (v:=.int (x.d:Int)) (at_one _ _ _) ?_;refine tix (v:=.int (y.d:Int)) (at_one _ _ _) ?_;simp[m.2];exact r' [_,_] M' rfl (.refl _)
 intro p2 M2 e2 x2 l2;refine all_of (f:=fun _=>true) l2 ?_;rw[show ((List.range (js.length-1)).all fun _=>true)=true by simp];exact q M2 (x1.trans x2)
noncomputable def S_13:DSp:=fun ds M Q E=>∃ js k,ds=[jbs js]/\Jobs k js/\∀ M',MExt M M'->Q .non M'
noncomputable def C_13:CSs:=%[.ife (.not (.call "is_jobs" S_12 %[.var 0|0])) %[.rse "NoJobs" %[.str "these are no jobs"|0]|0] .nil|0]
theorem vc_13:∀ ds M R E,S_13 ds M R E->rSs C_13 (ends R E) (startD 1 ds) M:=by
 rintro ds M R E ⟨js,k,rfl,J,q⟩;unfold C_13;sleep 7;refine⟨js,k,rfl,J,fun M1 x1=>?_⟩;simp;exact q M1 x1
noncomputable def S_14:DSp:=fun ds M Q E=>∃ js k,ds=[jbs js]/\Jobs k js/\∀ M',MExt M M'->Q (tb (jobT js)) M'
noncomputable def C_14:CSs:=%[.expr (.call "want_jobs" S_13 %[.var 0|0]),.set 1 (.lst .nil),.fr (.name 2) (.rng %[.bin .Add (.ix (.ix (.var 0) (.neg (.int 1))) (.int 1)) (.int 1)|0]) %[.set 3 (.compI ["jobs","places","hour","due_by_then","arrived","arrival","due","work"] 3 (.tup %[.name 5,.name 6,.name 7|0]) (.seq (.var 0)) (.cmp .LtE (.var 6) (.var 2)) (.var 7)),.set 4 (.compI ["jobs","places","hour","due_by_then","arrived","arrival","due","work"] 3 (.tup %[.name 5,.name 6,.name 7|0]) (.seq (.var 0)) (.cmp .Lt (.var 5) (.var 2)) (.var 7)),.expr (.app 1 (.tup %[.call "total" S_7 %[.var 3|0],.call "total" S_7 %[.var 4|0]|0]))|0],.ret (.bi .tuple %[.var 1|0])|0]
theorem vc_14:∀ ds M R E,S_14 ds M R E->rSs C_14 (ends R E) (startD 5 ds) M:=by
 rintro ds M R E ⟨js,k,rfl,J,q⟩;have h12:=J.most;have few:=J.few;obtain⟨l,hat,el⟩:=J.lastAt;have l1:=J.last1;have ts:∀ P:Jb->Bool,∀ i,Sz 3900 (tot (((js.filter P).map (·.w)).take i)):=fun P i=>by
  refine (tot_w (fun x hx=>J.sub P x (List.mem_of_mem_take hx)) ?_ few).mono %[|4];have:=sub_len js P;rw[List.length_take];omega
 unfold C_14;sleep 7;refine⟨js,k,rfl,J,fun M1 x1=>?_⟩;sleep 7;intro p2 M2 e2 x2 l2;have n2:M p2=none:=MExt.none x1 e2;sleep 9;rw[show jbs js=.tup (js.map jb) from rfl];refine tix hat ?_;rw[show jb l=.tup [.int (l.a:Int),.int (l.d:Int),nm l.w] from rfl];refine tix (v:=.int (l.d:Int)) (at_one _ _ _) ?_;sleep 8;rw[<- el];refine⟨by omega,by omega,?_⟩;refine forD_ix (fun i δ M'=>∃ (w2 w3 w4:Option DL.D),MExt M M'/\M' p2=some (.ls (((List.range i).map (jobP js)).map pl))/\δ=[some (.tup (js.map jb)),some (.lst p2),w2,w3,w4]) (fun _ _ _ _=>trivial) ?_ ?_ ⟨_,_,_,x1.trans x2,l2,rfl⟩
 ·rintro δ M3 ⟨w2,w3,w4,x3,l3,rfl⟩
  rw[rngD_len] at l3;sleep 7;exact⟨_,l3,q M3 x3⟩
 ·rintro i y hy N hN δ M3 ⟨w2,w3,w4,x3,l3,rfl⟩
  obtain⟨rfl,hi'⟩:=rngD_at hy;rw[show ((0:Int)+(i:Int)*1)=((i:Nat):Int) by omega];sleep 8;sleep 7;refine comp_filtG js jb (fun j=>nm j.w) (fun j=>decide (j.d<=i)) ?_ %[|5] ?_ ?_
  ·intro R' r'
   sleep 30;exact r' _ fun _ _=>trivial
  ·intro j hj l M' N' hl' e n'
   obtain⟨u1,u2,u3,rfl⟩:=len3 hl';rw[show jb j=.tup [.int (j.a:Int),.int (j.d:Int),nm j.w] from rfl];sleep 8;refine n' [some (.int (j.a:Int)),some (.int (j.d:Int)),some (nm j.w)] rfl (fun Qt h=>?_) fun Qe h=>?_
   ·sleep 8
    by_cases c:j.d<=i<;>simpa[c] using h
   ·sleep 8
    exact h
  intro p4 M4 e4 x4 l4;sleep 7;refine comp_filtG js jb (fun j=>nm j.w) (fun j=>decide (j.a<i)) ?_ %[|5] ?_ ?_
  ·intro R' r'
   sleep 30;exact r' _ fun _ _=>trivial
  ·intro j hj l M' N' hl' e n'
   obtain⟨u1,u2,u3,rfl⟩:=len3 hl';rw[show jb j=.tup [.int (j.a:Int),.int (j.d:Int),nm j.w] from rfl];sleep 8;refine n' [some (.int (j.a:Int)),some (.int (j.d:Int)),some (nm j.w)] rfl (fun Qt h=>?_) fun Qe h=>?_
   ·sleep 8
    by_cases c:j.a<i<;>simpa[c] using h
   ·sleep 8
    exact h
  intro p5 M5 e5 x5 l5;have X5:=x4.trans x5;have l35:=X5 _ _ l3;have l4':M5 p4=some (.ls ((dueW js i).map nm)):=by rw[x5 _ _ l4];unfold dueW;rw[List.map_map];rfl
  have l5':M5 p5=some (.ls ((arrW js i).map nm)):=by rw[l5];unfold arrW;rw[List.map_map];rfl
  sleep 7;refine⟨⟨_,l35⟩,?_⟩;refine⟨p4,_,rfl,l4',fun x hx=>(J.sub _ x hx).mono %[|5],ts _,?_⟩;refine⟨p5,_,rfl,l5',fun x hx=>(J.sub _ x hx).mono %[|5],ts _,?_⟩;sleep 8;refine⟨_,l35,by simp;omega,?_⟩;refine hN _ _ ⟨_,_,_,MExt.upd_new n2 (x3.trans X5),?_,rfl⟩;rw[mupd_same,List.range_succ];simp[jobP]
noncomputable def S_29:DSp:=fun ds M Q E=>∃ js k,ds=[jbs js]/\Jobs k js/\∀ r M',Told (jobT js) 500 r->MExt M M'->Q (rw (stepsOf r)) M'
noncomputable def C_29:CSs:=%[.ret (.call "differences" S_28 %[.call "cord" S_27 %[.call "job_tube" S_14 %[.var 0|0]|0]|0])|0]
theorem vc_29:∀ ds M R E,S_29 ds M R E->rSs C_29 (ends R E) (startD 1 ds) M:=by
 rintro ds M R E ⟨js,k,rfl,J,q⟩;have L:=jobT_len js;have l1:=J.last1;unfold C_29;sleep 7;refine⟨js,k,rfl,J,fun M1 x1=>?_⟩;have G:=J.fine;refine⟨_,rfl,G.gd,.inr ⟨_,_,rfl,G,fun r M2 T x2=>?_⟩⟩;have tl:=T.len;exact⟨r,_,rfl,T.sz,by decide,by omega,by omega,fun M3 x3=>q r M3 T (x1.trans (x2.trans x3))⟩
noncomputable def sw (P:Jb->Bool) (js:List Jb):Rat:=tot ((js.filter P).map (·.w))
noncomputable def lowF (js:List Jb) (h:Nat):Rat:=sw (fun j=>decide (j.d<=h)) js
noncomputable def highF (js:List Jb) (h:Nat):Rat:=sw (fun j=>decide (j.a<h)) js
noncomputable def allW (js:List Jb):Rat:=tot (js.map (·.w))
theorem sw_app (P:Jb->Bool) (xs ys:List Jb):sw P (xs++ys)=sw P xs+sw P ys:=by
 unfold sw;rw[List.filter_append,List.map_append,tot_append]
theorem sw_all {P:Jb->Bool} {js:List Jb} (h:∀ j∈js,P j=true):sw P js=allW js:=by
 unfold sw allW;rw[List.filter_eq_self.mpr h]
theorem sw_none {P:Jb->Bool} {js:List Jb} (h:∀ j∈js,P j=false):sw P js=0:=by
 unfold sw;rw[List.filter_eq_nil_iff.mpr fun j hj=>by rw[h j hj];decide];rfl
theorem told_F {k:Nat} {js:List Jb} {r:List Rat} (J:Jobs k js) (T:Told (jobT js) 500 r):Taut (lowF js) (highF js) (ri r) (lastD js)/\r.length=lastD js+1/\ri r 0=0/\ri r (lastD js)=allW js:=by
 have L:=jobT_len js;have tl:=T.len;have tt:=T.taut;rw[L,Nat.add_sub_cancel] at tt;have lo_:∀ h,h<=lastD js->lo (jobT js) h=lowF js h:=fun h hh=>by unfold lo;rw[jobT_at hh];rfl
 have hi_:∀ h,h<=lastD js->hi (jobT js) h=highF js h:=fun h hh=>by unfold hi;rw[jobT_at hh];rfl
 obtain⟨l,_,hm,el,hd⟩:=J.last;refine⟨⟨fun h hh=>by rw[<- lo_ h hh];exact tt.low h hh,fun h hh=>by rw[<- hi_ h hh];exact tt.high h hh,fun h h0 hn c=>by rw[<- hi_ h %[|5]];exact tt.up h h0 hn c,fun h h0 hn c=>by rw[<- lo_ h %[|5]];exact tt.down h h0 hn c⟩,by omega,?_,?_⟩
 ·rw[T.first,lo_ 0 %[|5]]
  exact sw_none fun j hj=>by
   have:=(J.job j hj).ad;simp;omega
 ·have:=T.last
  rw[L,Nat.add_sub_cancel,lo_ _ %[|3]] at this;rw[this];exact sw_all fun j hj=>by
   have:=hd j hj;simp;omega
theorem back_run {P:Nat->Prop}:∀ h,P h->∃ a,a<=h/\(∀ i,a<=i->i<=h->P i)/\(a=0\/¬ P (a-1))
 | 0,p=>⟨0,Nat.le_refl _,fun i _ h=>by rwa [show i=0 by omega],.inl rfl⟩
 | h+1,p=>by
  by_cases c:P h
  ·obtain⟨a,h1,h2,h3⟩:=back_run h c
   refine⟨a,by omega,fun i q r=>?_,h3⟩;rcases (by omega:i=h+1\/i<=h) with rfl|z
   ·exact p
   ·exact h2 i q z
  ·exact⟨h+1,Nat.le_refl _,fun i q r=>by rwa [show i=h+1 by omega],.inr (by rwa [Nat.add_sub_cancel])⟩
theorem forth_run {P:Nat->Prop} {n:Nat}:∀ d h,n-h=d->h<n->P h->∃ b,h<b/\b<=n/\(∀ i,h<=i->i<b->P i)/\(b=n\/¬ P b)
 | 0,h,e,hn,_=>by omega
 | d+1,h,e,hn,p=>by
  by_cases hl:h+1=n
  ·exact⟨h+1,by omega,by omega,fun i q r=>by rwa [show i=h by omega],.inl hl⟩
  ·by_cases c:P (h+1)
   ·obtain⟨b,h1,h2,h3,h4⟩:=forth_run (n:=n) d (h+1) %[|5] %[|5] c
    refine⟨b,by omega,h2,fun i q r=>?_,h4⟩;rcases (by omega:i=h\/h+1<=i) with rfl|z
    ·exact p
    ·exact h3 i z r
   ·exact⟨h+1,by omega,by omega,fun i q r=>by rwa [show i=h by omega],.inr c⟩
theorem rise_run {u:Nat->Rat} {a:Nat}:∀ b,a<b->(∀ i,a<=i->i<b->u i<u (i+1))->u a<u b
 | 0,h,_=>by omega
 | b+1,h,p=>by
  have:=p b %[|5] %[|5];rcases (by omega:a=b\/a<b) with rfl|z
  ·exact this
  ·have:=rise_run b z fun i q r=>p i q %[|5]
   grind
theorem rows_rise {lo hi u:Nat->Rat} {n:Nat} (T:Taut lo hi u n) (z:u 0=lo 0) (e:u n=hi n) (L:∀ i j,i<=j->lo i<=lo j):∀ k,k<n->u k<=u (k+1):=fun k hk=>by
 refine Rat.not_lt.mp fun hc=>?_;obtain⟨a,a1,a2,a3⟩:=back_run (P:=fun i=>u (i+1)<u i) k hc;obtain⟨b,b1,b2,b3,b4⟩:=forth_run (P:=fun i=>u (i+1)<u i) (n-k) k rfl hk hc;have run:∀ i,a<=i->i<b->u (i+1)<u i:=fun i q r=>by
  rcases (by omega:i<=k\/k<=i) with w|w
  ·exact a2 i q w
  ·exact b3 i w r
 have up:=rise_run (u:=fun i=>-u i) (a:=a) b %[|5] fun i q r=>by have:=run i q r;grind
 have ua:u a=lo a:=by
  rcases a3 with rfl|q
  ·exact z
  ·by_cases a0:a=0
   ·rw[a0];exact z
   ·have r:=run a %[|3] %[|5]
    refine T.down a %[|5] %[|5] ?_;rw[show a-1+1=a by omega] at q;grind
 have ub:u b=hi b:=by
  rcases b4 with rfl|q
  ·exact e
  ·by_cases bn:b=n
   ·rw[bn];exact e
   ·have r:=run (b-1) %[|5] %[|5]
    refine T.up b %[|5] %[|5] ?_;rw[show b-1+1=b by omega] at r;grind
 have:=L a b %[|5];have:=T.low b b2;have:=T.high b b2;grind
theorem sw_le {k:Nat} {js:List Jb} (J:Jobs k js) {P R:Jb->Bool} (h:∀ j∈js,P j=true->R j=true):sw P js<=sw R js:=tot_filter_le (fun j hj=>(J.job j hj).w0) h
theorem Jobs.ends {k:Nat} {js:List Jb} (J:Jobs k js):lowF js 0=0/\highF js 0=0/\lowF js (lastD js)=allW js/\highF js (lastD js)=allW js:=by
 obtain⟨l,_,hm,el,hd⟩:=J.last;refine⟨sw_none fun j hj=>?_,sw_none fun j hj=>by simp,sw_all fun j hj=>?_,sw_all fun j hj=>?_⟩
 ·have:=(J.job j hj).ad
  simp;omega
 ·have:=hd j hj
  simp;omega
 ·have:=hd j hj
  have:=(J.job j hj).ad;simp;omega
theorem Jobs.rise {k:Nat} {js:List Jb} {r:List Rat} (J:Jobs k js) (T:Told (jobT js) 500 r):∀ i,i<lastD js->ri r i<=ri r (i+1):=by
 obtain⟨X,xl,x0,xn⟩:=told_F J T;obtain⟨e1,e2,e3,e4⟩:=J.ends;exact rows_rise X (by rw[x0,e1]) (by rw[xn,e4]) fun i j h=>sw_le J fun u _ hu=>by
  simp at hu ⊢;omega
noncomputable def mn (x y:Rat):Rat:=if y<x then y else x
noncomputable def mxx (x y:Rat):Rat:=if x<y then y else x
noncomputable def cl (b e x:Rat):Rat:=if x<b then b else if e<x then e else x
theorem cl_part {b e x y:Rat} (hb:b<=e) (hd:x<=y):(mxx x b<mn y e ↔ cl b e x<cl b e y)/\(mxx x b<mn y e->mn y e-mxx x b=cl b e y-cl b e x):=by
 unfold mn mxx cl;constructor
 ·constructor<;>intro h<;>split at h<;>split at h<;>split<;>split<;>grind
 ·intro h;split at h<;>split at h<;>split<;>split<;>grind
theorem cl_lt {b e x y:Rat} (hb:b<=e) (h:cl b e x<cl b e y):x<e/\b<y:=by
 unfold cl at h;constructor<;>(split at h<;>split at h<;>grind)
theorem cl_mono {b e x y:Rat} (hb:b<=e) (hd:x<=y):cl b e x<=cl b e y:=by unfold cl;split<;>split<;>grind
theorem cl_of {b e x:Rat} {P:Rat->Prop} (hb:P b) (he:P e) (hx:P x):P (cl b e x):=by
 unfold cl;split
 ·exact hb
 ·split
  ·exact he
  ·exact hx
noncomputable def sh (s:Nat×Rat):DL.D:=.tup [.int (s.1:Int),nm s.2]
noncomputable def shL (r:List Rat) (b e:Rat) (n:Nat):List (Nat×Rat):=((List.range n).filter fun h=>decide (cl b e (ri r h)<cl b e (ri r (h+1)))).map fun h=>(h,cl b e (ri r (h+1))-cl b e (ri r h))
theorem shL_succ (r:List Rat) (b e:Rat) (n:Nat):shL r b e (n+1)=shL r b e n++if cl b e (ri r n)<cl b e (ri r (n+1)) then [(n,cl b e (ri r (n+1))-cl b e (ri r n))] else []:=by
 unfold shL;rw[List.range_succ,List.filter_append,List.map_append]
 congr 1
 by_cases h:cl b e (ri r n)<cl b e (ri r (n+1))<;>simp[h]
theorem shL_mem {r:List Rat} {b e:Rat} {n:Nat} {s:Nat×Rat} (h:s∈shL r b e n):s.1<n/\cl b e (ri r s.1)<cl b e (ri r (s.1+1))/\s.2=cl b e (ri r (s.1+1))-cl b e (ri r s.1):=by
 unfold shL at h;obtain⟨i,hi,rfl⟩:=List.mem_map.mp h;obtain⟨h1,h2⟩:=List.mem_filter.mp hi;exact⟨List.mem_range.mp h1,of_decide_eq_true h2,rfl⟩
theorem shL_len (r:List Rat) (b e:Rat) (n:Nat):(shL r b e n).length<=n:=by
 unfold shL;rw[List.length_map];exact Nat.le_trans (List.length_filter_le _ _) (by simp)
theorem shL_rise (r:List Rat) (b e:Rat) (n:Nat):(shL r b e n).Pairwise fun x y=>x.1<y.1:=by
 unfold shL;rw[List.pairwise_map];exact (List.pairwise_lt_range (n:=n)).filter _
theorem shL_tot {r:List Rat} {b e:Rat} (hb:b<=e):∀ n,(∀ i,i<n->ri r i<=ri r (i+1))->tot ((shL r b e n).map (·.2))=cl b e (ri r n)-cl b e (ri r 0)
 | 0,_=>by show (0:Rat)=_;grind
 | n+1,h=>by
  have ih:=shL_tot hb n fun i hi=>h i %[|5];have m:=cl_mono hb (h n %[|5]);rw[shL_succ,List.map_append,tot_append,ih];split
  ·simp[tot];grind
  ·show _+(0:Rat)=_;grind
noncomputable def partAt (xs:List (Nat×Rat)) (h:Nat):Rat:=tot ((xs.filter fun s=>decide (s.1=h)).map (·.2))
theorem partAt_app (xs ys:List (Nat×Rat)) (h:Nat):partAt (xs++ys) h=partAt xs h+partAt ys h:=by
 unfold partAt;rw[List.filter_append,List.map_append,tot_append]
theorem partAt_one (s:Nat×Rat) (h:Nat):partAt [s] h=if s.1=h then s.2 else 0:=by
 unfold partAt;by_cases c:s.1=h
 ·simp[c,tot];grind
 ·simp[c,tot]
theorem shL_at {r:List Rat} {b e:Rat} (hb:b<=e) {h:Nat}:∀ n,(∀ i,i<n->ri r i<=ri r (i+1))->partAt (shL r b e n) h=if h<n then cl b e (ri r (h+1))-cl b e (ri r h) else 0
 | 0,_=>rfl
 | n+1,hr=>by
  have ih:=shL_at hb (h:=h) n fun i hi=>hr i %[|5];have m:=cl_mono hb (hr n %[|5]);rw[shL_succ,partAt_app,ih];by_cases c:cl b e (ri r n)<cl b e (ri r (n+1))
  ·rw[if_pos c,partAt_one]
   dsimp only;rcases (by omega:n=h\/h<n\/n<h) with rfl|q|q
   ·rw[if_neg %[|5],if_pos rfl,if_pos %[|5]];grind
   ·rw[if_pos q,if_neg %[|5],if_pos %[|5]];grind
   ·rw[if_neg %[|5],if_neg %[|5],if_neg %[|5]];grind
  ·rw[if_neg c,show partAt [] h=0 from rfl]
   rcases (by omega:n=h\/h<n\/n<h) with rfl|q|q
   ·rw[if_neg %[|5],if_pos %[|5]];grind
   ·rw[if_pos q,if_pos %[|5]];grind
   ·rw[if_neg %[|5],if_neg %[|5]];grind
noncomputable def begW (js:List Jb) (i:Nat):Rat:=tot ((js.take i).map (·.w))
theorem beg_succ {js:List Jb} {i:Nat} (h:i<js.length):begW js (i+1)=begW js i+(js[i]).w:=by
 unfold begW;rw[List.take_succ_eq_append_getElem h,List.map_append,tot_append];simp[tot];grind
noncomputable def shI (js:List Jb) (r:List Rat) (i:Nat):List (Nat×Rat):=shL r (begW js i) (begW js (i+1)) (r.length-1)
noncomputable def ptL (js:List Jb) (r:List Rat):List (List (Nat×Rat)):=(List.range js.length).map (shI js r)
structure Pj (js:List Jb) (r:List Rat) (L B:Nat):Prop where
 k:∃ k,Jobs k js
 len:r.length=lastD js+1
 taut:Taut (lowF js) (highF js) (ri r) (lastD js)
 zero:ri r 0=0
 all:ri r (lastD js)=allW js
 rise:∀ i,i<lastD js->ri r i<=ri r (i+1)
 l0:0<L
 hL:L<2 ^ 600
 hB:B<2 ^ 600
 gr:∀ x∈r,Gr L B x
 gb:∀ i,Gr L B (begW js i)
 gw:∀ j∈js,Gr L B j.w
theorem Jobs.pj {k:Nat} {js:List Jb} {r:List Rat} (J:Jobs k js) (T:Told (jobT js) 500 r):∃ L B,Pj js r L B:=by
 obtain⟨X,xl,x0,xn⟩:=told_F J T;obtain⟨e1,e2,e3,e4⟩:=J.ends;have l1:=J.last1;have most:=J.most;have few:=J.few;generalize hL0:dprod (js.map (·.w))=L0;have p0:0<L0:=by rw[<- hL0];exact dprod_pos _
 have bL:L0<=2 ^ 480:=by
  rw[<- hL0];refine Nat.le_trans (dprod_le (m:=40) fun x hx=>?_) (Nat.pow_le_pow_right %[|4] (by rw[List.length_map];omega));obtain⟨j,hj,rfl⟩:=List.mem_map.mp hx;exact (J.job j hj).sw.mono few
 have gw:∀ j∈js,Gr L0 (2 ^ 40*L0) j.w:=fun j hj=>by
  refine (Gr.of p0 (by rw[<- hL0];exact dprod_dvd (List.mem_map_of_mem hj))).mono (Nat.mul_le_mul_right _ ?_);exact Nat.le_of_lt ((J.job j hj).sw.mono few).1
 have gt:∀ ys:List Jb,ys.length<=12->(∀ j∈ys,j∈js)->Gr L0 (12*(2 ^ 40*L0)) (Q.tot (ys.map (·.w))):=fun ys hl hy=>by
  refine (Gr.tot (L:=L0) (B:=2 ^ 40*L0) p0 fun x hx=>?_).mono (Nat.mul_le_mul_right _ (by rw[List.length_map];exact hl));obtain⟨j,hj,rfl⟩:=List.mem_map.mp hx;exact gw j (hy j hj)
 have gs:∀ P:Jb->Bool,Gr L0 (12*(2 ^ 40*L0)) (sw P js):=fun P=>gt _ (Nat.le_trans (List.length_filter_le _ _) most) fun j hj=>(List.mem_filter.mp hj).1;have G:=taut_grid (L:=L0) (B:=12*(2 ^ 40*L0)) X (by rw[x0,e1]) (by rw[xn,e3]) %[|5] %[|5] p0 fun k _=>⟨gs _,gs _⟩;have big:49*(12*(2 ^ 40*L0)*5354228880)<2 ^ 600:=by
  refine Nat.lt_of_le_of_lt (m:=49*(12*(2 ^ 40*2 ^ 480)*5354228880)) ?_ (by decide +kernel);exact Nat.mul_le_mul_left _ (Nat.mul_le_mul_right _ (Nat.mul_le_mul_left _ (Nat.mul_le_mul_left _ bL)))
 have up:∀ {x:Rat} {C:Nat},C<=12*(2 ^ 40*L0)->Gr L0 C x->Gr (L0*5354228880) (49*(12*(2 ^ 40*L0)*5354228880)) x:=fun {x C} hC h =>
  (h.up p0 (W:=5354228880) %[|4]).mono (Nat.le_trans (Nat.mul_le_mul_right _ hC) (Nat.le_mul_of_pos_left _ %[|4]))
 refine⟨L0*5354228880,49*(12*(2 ^ 40*L0)*5354228880),⟨k,J⟩,xl,X,x0,xn,J.rise T,by omega,?_,big,fun x hx=>?_,fun i=>?_,fun j hj=>up %[|5] (gw j hj)⟩
 ·exact Nat.lt_of_le_of_lt (Nat.mul_le_mul_right 5354228880 bL) (by decide +kernel)
 ·obtain⟨i,hi,rfl⟩:=List.getElem_of_mem hx
  have e:r[i]=ri r i:=by simp[ri,List.getD,hi]
  rw[e];exact G i %[|5]
 ·exact up %[|3] (gt _ (by rw[List.length_take];omega) fun j hj=>List.mem_of_mem_take hj)
section
variable {js:List Jb} {r:List Rat} {L B:Nat}
theorem Pj.sz (P:Pj js r L B) {x:Rat} {n:Nat} (hn:n<=1000) (h:Gr L (n*B) x):Sz 610 x:=by
 refine h.sz P.l0 (Nat.lt_of_lt_of_le P.hL (pow_le %[|4])) ?_;refine Nat.lt_of_le_of_lt (Nat.mul_le_mul_right B hn) (Nat.lt_of_lt_of_le (Nat.mul_lt_mul_of_pos_left P.hB %[|4]) (by decide +kernel))
theorem Pj.le (P:Pj js r L B) {i:Nat} (h:i<js.length):begW js i<begW js (i+1):=by
 obtain⟨k,J⟩:=P.k;have:=(J.job _ (List.getElem_mem h)).w0;rw[beg_succ h];grind
theorem Pj.gcl (P:Pj js r L B) {i h:Nat} (hh:h<r.length):Gr L B (cl (begW js i) (begW js (i+1)) (ri r h)):=cl_of (P:=Gr L B) (P.gb _) (P.gb _) (P.gr _ (ri_mem hh))
theorem Pj.gsh (P:Pj js r L B) {i:Nat}:∀ s∈shI js r i,Gr L (B+B) s.2:=fun s hs=>by
 obtain⟨h1,_,h3⟩:=shL_mem hs;rw[h3];exact (P.gcl %[|5]).sub P.l0 (P.gcl %[|5])
theorem Pj.arr (P:Pj js r L B) {i h:Nat} (hi:i<js.length) (hh:h<=lastD js) (ha:h<=js[i].a):ri r h<=begW js i:=by
 obtain⟨k,J⟩:=P.k;have a:=P.taut.high h hh;have e:highF js h=sw (fun j=>decide (j.a<h)) (js.take i)+sw (fun j=>decide (j.a<h)) (js.drop i):=by
  unfold highF;rw[<- sw_app,List.take_append_drop]
 have z:sw (fun j=>decide (j.a<h)) (js.drop i)=0:=sw_none fun j hj=>by
  obtain⟨m,hm,rfl⟩:=List.getElem_of_mem hj;rw[List.length_drop] at hm;rw[List.getElem_drop];have:js[i].a<=js[i+m].a:=by
   rcases (by omega:m=0\/0<m) with rfl|q
   ·exact Nat.le_refl _
   ·exact (List.pairwise_iff_getElem.mp J.mon i (i+m) hi %[|5] %[|5]).1
  simp;omega
 have l:sw (fun j=>decide (j.a<h)) (js.take i)<=begW js i:=by
  have:=tot_filter_le (P:=fun j=>decide (j.a<h)) (R:=fun _=>true) (js:=js.take i) (fun j hj=>(J.job j (List.mem_of_mem_take hj)).w0) fun _ _ _=>rfl;rw[List.filter_eq_self.mpr (fun _ _=>rfl)] at this;exact this
 grind
theorem Pj.due (P:Pj js r L B) {i h:Nat} (hi:i<js.length) (hh:h<=lastD js) (ha:js[i].d<=h):begW js (i+1)<=ri r h:=by
 obtain⟨k,J⟩:=P.k;have a:=P.taut.low h hh;have e:lowF js h=sw (fun j=>decide (j.d<=h)) (js.take (i+1))+sw (fun j=>decide (j.d<=h)) (js.drop (i+1)):=by
  unfold lowF;rw[<- sw_app,List.take_append_drop]
 have z:sw (fun j=>decide (j.d<=h)) (js.take (i+1))=begW js (i+1):=sw_all fun j hj=>by
  obtain⟨m,hm,rfl⟩:=List.getElem_of_mem hj;rw[List.length_take] at hm;rw[List.getElem_take];have:js[m].d<=js[i].d:=by
   rcases (by omega:m=i\/m<i) with rfl|q
   ·exact Nat.le_refl _
   ·exact (List.pairwise_iff_getElem.mp J.mon m i %[|5] hi q).2
  simp;omega
 have l:0<=sw (fun j=>decide (j.d<=h)) (js.drop (i+1)):=by
  have:=tot_filter_le (P:=fun _=>false) (R:=fun j=>decide (j.d<=h)) (js:=js.drop (i+1)) (fun j hj=>(J.job j (List.mem_of_mem_drop hj)).w0) fun _ _ z=>by cases z
  rw[List.filter_eq_nil_iff.mpr (by simp)] at this;exact this
 grind
theorem Pj.within (P:Pj js r L B) {i:Nat} (hi:i<js.length):∀ s∈shI js r i,js[i].a<=s.1/\s.1<js[i].d/\0<s.2/\s.1<lastD js:=fun s hs=>by
 have ln:=P.len;obtain⟨h1,h2,h3⟩:=shL_mem hs;obtain⟨c1,c2⟩:=cl_lt (Rat.le_of_lt (P.le hi)) h2;refine⟨Nat.not_lt.mp fun c=>?_,Nat.not_le.mp fun c=>?_,by rw[h3];grind,by omega⟩
 ·have:=P.arr hi (h:=s.1+1) %[|5] %[|5]
  grind
 ·have:=P.due hi (h:=s.1) %[|5] c
  grind
theorem Pj.beg_le (P:Pj js r L B) {i:Nat} (hi:i<=js.length):0<=begW js i/\begW js i<=allW js:=by
 obtain⟨k,J⟩:=P.k;have p0:∀ {ys:List Jb},(∀ j∈ys,j∈js)->0<=tot (ys.map (·.w)):=fun {ys} hy=>by
  have:=tot_filter_le (P:=fun _=>false) (R:=fun _=>true) (js:=ys) (fun j hj=>(J.job j (hy j hj)).w0) fun _ _ z=>by cases z
  rw[List.filter_eq_nil_iff.mpr (by simp),List.filter_eq_self.mpr (fun _ _=>rfl)] at this;exact this
 have e:allW js=begW js i+tot ((js.drop i).map (·.w)):=by
  unfold allW begW;rw[<- tot_append,<- List.map_append,List.take_append_drop]
 have a:=p0 (ys:=js.take i) fun j hj=>List.mem_of_mem_take hj;have b:=p0 (ys:=js.drop i) fun j hj=>List.mem_of_mem_drop hj;constructor
 ·exact a
 ·grind
theorem Pj.riseN (P:Pj js r L B):∀ i,i<r.length-1->ri r i<=ri r (i+1):=fun i hi=>P.rise i (by have:=P.len;omega)
theorem Pj.work (P:Pj js r L B) {i:Nat} (hi:i<js.length):tot ((shI js r i).map (·.2))=js[i].w:=by
 have ln:=P.len;have le:=P.le hi;unfold shI;rw[shL_tot (Rat.le_of_lt le) _ P.riseN,ln,Nat.add_sub_cancel,P.all,P.zero];have a:=(P.beg_le (i:=i) %[|5]);have b:=(P.beg_le (i:=i+1) %[|5]);have s:=beg_succ hi;unfold cl;split<;>split<;>grind
theorem Pj.order (P:Pj js r L B) {i:Nat} (hi:i+1<js.length) {s t:Nat×Rat} (hs:s∈shI js r i) (ht:t∈shI js r (i+1)):s.1<=t.1:=by
 obtain⟨h1,h2,_⟩:=shL_mem hs;obtain⟨k1,k2,_⟩:=shL_mem ht;obtain⟨c1,_⟩:=cl_lt (Rat.le_of_lt (P.le (show i<js.length by omega))) h2;obtain⟨_,c2⟩:=cl_lt (Rat.le_of_lt (P.le hi)) k2;refine Nat.not_lt.mp fun c=>?_;have mono:∀ n m,n<=m->m<=r.length-1->ri r n<=ri r m:=fun n m hnm=>by
  induction m with
  | zero=>intro _;rw[show n=0 by omega];exact Rat.le_refl
  | succ m ih =>
   intro hm;rcases (by omega:n=m+1\/n<=m) with rfl|q
   ·exact Rat.le_refl
   ·have:=ih q %[|5]
    have:=P.riseN m %[|5];grind
 have:=mono (t.1+1) s.1 %[|5] %[|5];grind
theorem Pj.hour (P:Pj js r L B) {h:Nat} (hh:h<lastD js):∀ m,m<=js.length->partAt (((List.range m).map (shI js r)).flatten) h=cl 0 (begW js m) (ri r (h+1))-cl 0 (begW js m) (ri r h)
 | 0,_=>by
  have e:begW js 0=0:=rfl;have mono:=P.rise h hh;rw[e];show (0:Rat)=_;unfold cl;split<;>split<;>grind
 | m+1,hm=>by
  have ih:=P.hour hh m %[|5];have ln:=P.len;have le:=P.le (show m<js.length by omega);have b0:=(P.beg_le (i:=m) %[|5]).1;have r0:0<=ri r h/\0<=ri r (h+1):=by
   have mono:∀ n,n<=lastD js->0<=ri r n:=fun n=>by
    induction n with
    | zero=>intro _;rw[P.zero];exact Rat.le_refl
    | succ n ih =>
     intro hn;have:=ih %[|5];have:=P.rise n %[|5];grind
   exact⟨mono _ %[|5],mono _ %[|5]⟩
  have key:∀ x:Rat,0<=x->cl 0 (begW js (m+1)) x-cl 0 (begW js m) x=cl (begW js m) (begW js (m+1)) x-begW js m:=fun x hx=>by
   unfold cl;split<;>split<;>grind
  rw[List.range_succ,List.map_append,List.flatten_append,partAt_app,ih];have e:[m].map (shI js r)=[shI js r m]:=rfl;rw[e,List.flatten_cons,List.flatten_nil,List.append_nil];unfold shI;rw[shL_at (Rat.le_of_lt le) _ P.riseN,if_pos %[|5]];have k1:=key _ r0.1;have k2:=key _ r0.2;grind
theorem Pj.hours (P:Pj js r L B) {h:Nat} (hh:h<lastD js):partAt (ptL js r).flatten h=ri (stepsOf r) h:=by
 have ln:=P.len;have mono:∀ n m,n<=m->m<=lastD js->ri r n<=ri r m:=fun n m hnm=>by
  induction m with
  | zero=>intro _;rw[show n=0 by omega];exact Rat.le_refl
  | succ m ih =>
   intro hm;rcases (by omega:n=m+1\/n<=m) with rfl|q
   ·exact Rat.le_refl
   ·have:=ih q %[|5]
    have:=P.rise m %[|5];grind
 have a0:=mono 0 h %[|5] %[|5];have a1:=mono 0 (h+1) %[|5] %[|5];have b0:=mono h (lastD js) %[|5] %[|5];have b1:=mono (h+1) (lastD js) %[|5] %[|5];have e:begW js js.length=allW js:=by unfold begW allW;rw[List.take_length]
 unfold ptL;rw[P.hour hh _ %[|3],e,steps_at %[|5]];have z:=P.zero;have al:=P.all;unfold cl;split<;>split<;>grind
end
noncomputable def S_42:DSp:=fun ds M Q E=>∃ (x y:Rat),ds=[pl (x,y)]/\Sz 1600 x/\Sz 1600 y/\Q (nm (mn x y)) M
noncomputable def C_42:CSs:=%[.set 1 (.ix (.var 0) (.int 0)),.fr (.name 2) (.seq (.var 0)) %[.ife (.call "is_less" S_8 %[.var 2,.var 1|0]) %[.set 1 (.var 2)|0] .nil|0],.ret (.var 1)|0]
theorem vc_42:∀ ds M R E,S_42 ds M R E->rSs C_42 (ends R E) (startD 3 ds) M:=by
 rintro ds M R E ⟨x,y,rfl,sx,sy,q⟩;unfold C_42;sleep 7;rw[show pl (x,y)=.tup [nm x,nm y] from rfl];sleep 9;refine forD_ix (fun i δ M'=>∃ (w2:Option DL.D),M'=M/\δ=[some (.tup [nm x,nm y]),some (nm (if i<=1 then x else mn x y)),w2]) (fun _ _ _ _=>trivial) ?_ ?_ ⟨_,rfl,rfl⟩
 ·rintro δ M' ⟨w2,rfl,rfl⟩
  sleep 7;exact q
 ·rintro i z hz N hN δ M' ⟨w2,rfl,rfl⟩
  have hi:i<2:=(List.getElem?_eq_some_iff.mp hz).1;rcases (by omega:i=0\/i=1) with rfl|rfl
  ·obtain rfl:z=nm x:=by simpa using hz.symm
   sleep 8;sleep 7;refine⟨_,_,rfl,.mk sx sx %[|4],?_⟩;rw[decide_eq_false (by grind)];simp;exact hN _ _ ⟨_,rfl,rfl⟩
  ·obtain rfl:z=nm y:=by simpa using hz.symm
   sleep 8;sleep 7;refine⟨_,_,rfl,.mk sy sx %[|4],?_⟩;by_cases c:y<x
   ·rw[decide_eq_true c]
    simp;sleep 7;have e:(if 1+1<=1 then x else mn x y)=y:=by rw[if_neg %[|4]];unfold mn;rw[if_pos c]
    exact hN _ _ ⟨_,rfl,by rw[e];rfl⟩
   ·rw[decide_eq_false c]
    simp;have e:(if 1+1<=1 then x else mn x y)=x:=by rw[if_neg %[|4]];unfold mn;rw[if_neg c]
    exact hN _ _ ⟨_,rfl,by rw[e];rfl⟩
noncomputable def S_41:DSp:=fun ds M Q E=>∃ (x y:Rat),ds=[pl (x,y)]/\Sz 1600 x/\Sz 1600 y/\Q (nm (mxx x y)) M
noncomputable def C_41:CSs:=%[.set 1 (.ix (.var 0) (.int 0)),.fr (.name 2) (.seq (.var 0)) %[.ife (.call "is_less" S_8 %[.var 1,.var 2|0]) %[.set 1 (.var 2)|0] .nil|0],.ret (.var 1)|0]
theorem vc_41:∀ ds M R E,S_41 ds M R E->rSs C_41 (ends R E) (startD 3 ds) M:=by
 rintro ds M R E ⟨x,y,rfl,sx,sy,q⟩;unfold C_41;sleep 7;rw[show pl (x,y)=.tup [nm x,nm y] from rfl];sleep 9;refine forD_ix (fun i δ M'=>∃ (w2:Option DL.D),M'=M/\δ=[some (.tup [nm x,nm y]),some (nm (if i<=1 then x else mxx x y)),w2]) (fun _ _ _ _=>trivial) ?_ ?_ ⟨_,rfl,rfl⟩
 ·rintro δ M' ⟨w2,rfl,rfl⟩
  sleep 7;exact q
 ·rintro i z hz N hN δ M' ⟨w2,rfl,rfl⟩
  have hi:i<2:=(List.getElem?_eq_some_iff.mp hz).1;rcases (by omega:i=0\/i=1) with rfl|rfl
  ·obtain rfl:z=nm x:=by simpa using hz.symm
   sleep 8;sleep 7;refine⟨_,_,rfl,.mk sx sx %[|4],?_⟩;rw[decide_eq_false (by grind)];simp;exact hN _ _ ⟨_,rfl,rfl⟩
  ·obtain rfl:z=nm y:=by simpa using hz.symm
   sleep 8;sleep 7;refine⟨_,_,rfl,.mk sx sy %[|4],?_⟩;by_cases c:x<y
   ·rw[decide_eq_true c]
    simp;sleep 7;have e:(if 1+1<=1 then x else mxx x y)=y:=by rw[if_neg %[|4]];unfold mxx;rw[if_pos c]
    exact hN _ _ ⟨_,rfl,by rw[e];rfl⟩
   ·rw[decide_eq_false c]
    simp;have e:(if 1+1<=1 then x else mxx x y)=x:=by rw[if_neg %[|4]];unfold mxx;rw[if_neg c]
    exact hN _ _ ⟨_,rfl,by rw[e];rfl⟩
noncomputable def S_43:DSp:=fun ds M Q E=>∃ (r:List Rat) (b e:Rat),ds=[rw r,nm b,nm e]/\(∀ x∈r,Sz 700 x)/\Sz 700 b/\Sz 700 e/\1<=r.length/\r.length<=100/\b<=e/\(∀ i,i<r.length-1->ri r i<=ri r (i+1))/\∀ M',MExt M M'->Q (.tup ((shL r b e (r.length-1)).map sh)) M'
noncomputable def C_43:CSs:=%[.set 3 (.lst .nil),.fr (.name 4) (.rng %[.bin .Sub (.bi .len %[.var 0|0]) (.int 1)|0]) %[.set 5 (.call "taken" S_20 %[.call "least_of" S_42 %[.tup %[.ix (.var 0) (.bin .Add (.var 4) (.int 1)),.var 2|0]|0],.call "greatest_of" S_41 %[.tup %[.ix (.var 0) (.var 4),.var 1|0]|0]|0]),.ife (.call "is_less" S_8 %[.glo "NOUGHT" G_NOUGHT,.var 5|0]) %[.expr (.app 3 (.tup %[.var 4,.var 5|0]))|0] .nil|0],.ret (.bi .tuple %[.var 3|0])|0]
theorem vc_43:∀ ds M R E,S_43 ds M R E->rSs C_43 (ends R E) (startD 6 ds) M:=by
 rintro ds M R E ⟨r,b,e,rfl,sr,sb,se,h1,h100,hbe,rise,q⟩;have z0:Sz 1 (0:Rat):=⟨by decide,by decide⟩;unfold C_43;sleep 7;intro p0 M0 e0 x0 l0;sleep 9;refine⟨by omega,by omega,?_⟩;refine forD_ix (fun i δ M'=>∃ (w4 w5:Option DL.D),MExt M M'/\M' p0=some (.ls ((shL r b e i).map sh))/\δ=[some (rw r),some (nm b),some (nm e),some (.lst p0),w4,w5]) (fun _ _ _ _=>trivial) ?_ ?_ ⟨_,_,x0,l0,rfl⟩
 ·rintro δ M1 ⟨w4,w5,x1,l1,rfl⟩
  rw[rngD_len] at l1;sleep 7;exact⟨_,l1,q M1 x1⟩
 ·rintro i z hz N hN δ M1 ⟨w4,w5,x1,l1,rfl⟩
  obtain⟨rfl,hi'⟩:=rngD_at hz;have hi:i+1<r.length:=by omega
  rw[show ((0:Int)+(i:Int)*1)=((i:Nat):Int) by omega];have s1:=(sr _ (ri_mem hi)).mono (show 700<=1600 by decide);have s2:=(sr _ (ri_mem (show i<r.length by omega))).mono (show 700<=1600 by decide);have sl:=shL_len r b e i;sleep 8;sleep 7;rw[show ((i:Int)+1)=((i+1:Nat):Int) by omega];refine rw_ix hi ?_;sleep 8;refine⟨_,_,rfl,s1,se.mono %[|4],?_⟩;refine rw_ix %[|5] ?_;sleep 8;refine⟨_,_,rfl,s2,sb.mono %[|4],?_⟩;have su:Sz 1600 (mn (ri r (i+1)) e):=by unfold mn;split;exact se.mono %[|4];exact s1
  have sv:Sz 1600 (mxx (ri r i) b):=by unfold mxx;split;exact sb.mono %[|4];exact s2
  obtain⟨c1,c2⟩:=cl_part hbe (rise i %[|5]);refine⟨_,_,rfl,.mk su sv %[|4],?_⟩;have suv:=su.sub sv;sleep 7;refine⟨0,_,rfl,.mk z0 suv %[|4],?_⟩;rw[shL_succ,List.map_append] at hN;by_cases c:mxx (ri r i) b<mn (ri r (i+1)) e
  ·rw[decide_eq_true (by grind)]
   rw[if_pos (c1.mp c)] at hN;simp;sleep 7;refine⟨⟨_,l1⟩,_,l1,by rw[List.length_map];omega,?_⟩;rw[c2 c];exact hN _ _ ⟨_,_,MExt.upd_new e0 x1,mupd_same,rfl⟩
  ·rw[decide_eq_false (by grind)]
   rw[if_neg (fun z=>c (c1.mpr z)),List.map_nil,List.append_nil] at hN;simp;exact hN _ _ ⟨_,_,x1,l1,rfl⟩
noncomputable def shT (xs:List (Nat×Rat)):DL.D:=.tup (xs.map sh)
noncomputable def S_44:DSp:=fun ds M Q E=>∃ js k,ds=[jbs js]/\Jobs k js/\∀ r M',Told (jobT js) 500 r->MExt M M'->Q (.tup ((ptL js r).map shT)) M'
noncomputable def C_44:CSs:=%[.set 1 (.call "cord" S_27 %[.call "job_tube" S_14 %[.var 0|0]|0]),.set 2 (.lst .nil),.set 3 (.glo "NOUGHT" G_NOUGHT),.fr (.tup %[.name 4,.name 5,.name 6|0]) (.seq (.var 0)) %[.set 7 (.call "added" S_6 %[.var 3,.var 6|0]),.expr (.app 2 (.call "shared" S_43 %[.var 1,.var 3,.var 7|0])),.set 3 (.var 7)|0],.ret (.bi .tuple %[.var 2|0])|0]
theorem vc_44:∀ ds M R E,S_44 ds M R E->rSs C_44 (ends R E) (startD 8 ds) M:=by
 rintro ds M R E ⟨js,k,rfl,J,q⟩;have G:=J.fine;have Ln:=jobT_len js;have l1:=J.last1;have h12:=J.most;have few:=J.few;unfold C_44;sleep 7;refine⟨js,k,rfl,J,fun M1 x1=>?_⟩;refine⟨_,rfl,G.gd,.inr ⟨_,_,rfl,G,fun r M2 T x2=>?_⟩⟩;obtain⟨L,B,P⟩:=J.pj T;have tl:=T.len;have sr:∀ x∈r,Sz 700 x:=fun x hx=>(P.sz (n:=1) %[|4] (by rw[Nat.one_mul];exact P.gr x hx)).mono %[|4];have sb:∀ i,Sz 700 (begW js i):=fun i=>(P.sz (n:=1) %[|4] (by rw[Nat.one_mul];exact P.gb i)).mono %[|4];sleep 7;intro p3 M3 e3 x3 l3;have n3:M p3=none:=MExt.none (x1.trans x2) e3;sleep 7;rw[show jbs js=.tup (js.map jb) from rfl];sleep 9;refine forD_ix (fun i δ M'=>∃ (w4 w5 w6 w7:Option DL.D),MExt M M'/\M' p3=some (.ls (((List.range i).map (shI js r)).map shT))/\i<=js.length/\δ=[some (.tup (js.map jb)),some (rw r),some (.lst p3),some (nm (begW js i)),w4,w5,w6,w7]) (fun _ _ _ _=>trivial) ?_ ?_ ⟨_,_,_,_,x1.trans (x2.trans x3),l3,by omega,rfl⟩
 ·rintro δ M4 ⟨w4,w5,w6,w7,x4,l4,_,rfl⟩
  rw[List.length_map] at l4;sleep 7;exact⟨_,l4,q r M4 T x4⟩
 ·rintro i z hz N hN δ M4 ⟨w4,w5,w6,w7,x4,l4,hi2,rfl⟩
  obtain⟨hi,rfl⟩:∃ hi:i<js.length,z=jb js[i]:=by
   obtain⟨h,e⟩:=List.getElem?_eq_some_iff.mp hz;have h':i<js.length:=by simpa using h
   exact⟨h',by rw[<- e];simp⟩
  have jc:=J.job _ (List.getElem_mem hi);have tk:=beg_succ hi;have le:=P.le hi;have lr:((List.range i).map (shI js r)).length<=12:=by simp;omega
  have eN:((List.range (i+1)).map (shI js r)).map shT=((List.range i).map (shI js r)).map shT++[shT (shI js r i)]:=by rw[List.range_succ,List.map_append,List.map_append];rfl
  rw[eN] at hN;generalize js[i]=j at jc tk;generalize (List.range i).map (shI js r)=A at *;rw[show jb j=.tup [.int (j.a:Int),.int (j.d:Int),nm j.w] from rfl];sleep 8;sleep 7;refine⟨_,_,rfl,.mk (sb i) jc.sw %[|5],?_⟩;rw[<- tk];sleep 7;refine⟨⟨_,l4⟩,?_⟩;refine⟨r,_,_,rfl,sr,sb _,sb _,by omega,by omega,Rat.le_of_lt le,P.riseN,fun M5 x5=>?_⟩;have l5:=x5 _ _ l4;refine⟨_,l5,by rw[List.length_map];omega,?_⟩;sleep 7;exact hN _ _ ⟨_,_,_,_,MExt.upd_new n3 (x4.trans x5),mupd_same,by omega,rfl⟩
noncomputable def sizesK:List Str:=["taut","loose","ring","leveller","no leveller","not taut","smooth","stair","settled","store","speeds","done"]
noncomputable def sizesV:List DL.D:=[.int 2,.int 2,.int 2,.int 2,.int 2,.int 2,.int 3,.int 2,.int 2,.int 3,.int 2,.int 3]
noncomputable def withoutK:List Str:=["taut","loose","ring","smooth","stair","store","speeds","done"]
noncomputable def withoutV:List DL.D:=[.fn "taut_holds",.fn "loose_holds",.fn "ring_holds",.fn "smooth_holds",.fn "stair_holds",.fn "store_holds",.fn "speeds_hold",.fn "done_holds"]
noncomputable def withK:List Str:=["leveller","no leveller","not taut","settled"]
noncomputable def withV:List DL.D:=[.fn "leveller_holds",.fn "no_leveller_holds",.fn "not_taut_holds",.fn "settled_holds"]
noncomputable def G_SIZES:DL.D:=.sd sizesK sizesV
noncomputable def G_WITHOUT_PAPER:DL.D:=.sd withoutK withoutV
noncomputable def G_WITH_PAPER:DL.D:=.sd withK withV
theorem sd_in (h:xs.contains w=b) (q:Q (.bl b) M):cIn false (.str w) (.sd xs ds) M Q:=⟨w,rfl,by rw[h];exact q⟩
theorem sd_notIn (h:xs.contains w=b) (q:Q (.bl !b) M):cIn true (.str w) (.sd xs ds) M Q:=⟨w,rfl,by rw[h];exact q⟩
theorem sd_ix (h:sdAt xs ds w=some d) (q:Q d M):iOp (.sd xs ds) (.str w) M Q:=⟨d,h,q⟩
theorem is_str (q:Q (.bl true) M):fIsi [.str w,.ty "str"] M Q:=by unfold fIsi;simpa[tyD,isiT] using q
abbrev G_MOST_JOBS_checker:DL.D:=.int 12
abbrev G_LAST_HOUR:DL.D:=.int 24
inductive Sh
 | ok (h:Nat) (q:Rat)
 | lst (p:Addr)
 | tri (h:Nat) (q:Rat)
noncomputable def shD:Sh->DL.D
 | .ok h q=>.tup [.int (h:Int),nm q]
 | .lst p=>.lst p
 | .tri h q=>.tup [.int (h:Int),nm q,.int 0]
noncomputable def shK:Sh->Bool
 | .ok _ _=>true
 | _=>false
noncomputable def shP:Sh->Nat×Rat
 | .ok h q=>(h,q)
 | _=>(0,0)
noncomputable def shG (x:Sh):Bool:=shK x&&decide (0<(shP x).2)
noncomputable def ShOk (M:Mem):Sh->Prop
 | .lst p=>∃ xs,M p=some (.ls xs)
 | _=>True
theorem ShOk.ext {M M':Mem} {x:Sh} (h:ShOk M x) (e:MExt M M'):ShOk M' x:=by
 cases x with
 | lst p=>obtain⟨xs,h⟩:=h;exact⟨xs,e _ _ h⟩
 | ok=>trivial
 | tri=>trivial
noncomputable def S_38:DSp:=fun ds M Q E=>∃ x,ds=[shD x]/\ShOk M x/\Sz 700 (shP x).2/\Q (.bl (shK x)) M
noncomputable def C_38:CSs:=%[.ret (.and (.bi .isinstance %[.var 0,.ty .tuple|0]) (.and (.cmp .Eq (.bi .len %[.var 0|0]) (.int 2)) (.and (.call "is_whole" S_9 %[.ix (.var 0) (.int 0)|0]) (.one (.call "is_number" S_10 %[.ix (.var 0) (.int 1)|0])))))|0]
theorem vc_38:∀ ds M R E,S_38 ds M R E->rSs C_38 (ends R E) (startD 1 ds) M:=by
 rintro ds M R E ⟨x,rfl,hk,sz,q⟩;unfold C_38;cases x with
 | ok h q' =>
  rw[show shD (.ok h q')=.tup [.int (h:Int),nm q'] from rfl];have sz:Sz 700 q':=sz;sleep 7;refine eq_int false ?_;simp;refine tix (at_zero _ _) ?_;refine⟨_,"int",rfl,rfl,?_⟩;simp;refine tix (at_one _ _ _) ?_;refine⟨nm q',rfl,gnm sz,?_⟩;rw[isNum_nm];exact q
 | lst p =>
  obtain⟨xs,h⟩:=hk;rw[show shD (.lst p)=.lst p from rfl];sleep 7;have:fIsi [D.lst p,.ty "tuple"] M=fun Q=>Q (.bl false) M:=by
   funext Q;unfold fIsi;simp[tyD,isiT,h]
  rw[this];simp;exact q
 | tri h q' =>
  rw[show shD (.tri h q')=.tup [.int (h:Int),nm q',.int 0] from rfl];sleep 7;refine eq_int false ?_;simp;exact q
noncomputable def S_39:DSp:=fun ds M Q E=>∃ x,ds=[shD x]/\ShOk M x/\Sz 700 (shP x).2/\Q (.bl (shG x)) M
noncomputable def C_39:CSs:=%[.ret (.and (.call "is_touch" S_38 %[.var 0|0]) (.one (.call "is_less" S_8 %[.glo "NOUGHT" G_NOUGHT,.ix (.var 0) (.int 1)|0])))|0]
theorem vc_39:∀ ds M R E,S_39 ds M R E->rSs C_39 (ends R E) (startD 1 ds) M:=by
 rintro ds M R E ⟨x,rfl,hk,sz,q⟩;unfold C_39;sleep 7;refine⟨x,rfl,hk,sz,?_⟩;cases x with
 | ok h q' =>
  have sz:Sz 700 q':=sz;simp[shK];rw[show shD (.ok h q')=.tup [.int (h:Int),nm q'] from rfl];refine tix (at_one _ _ _) ?_;exact⟨0,q',rfl,.mk (show Sz 1 (0:Rat) from ⟨by decide,by decide⟩) sz %[|4],q⟩
 | lst p=>simp[shK];exact q
 | tri h q'=>simp[shK];exact q
noncomputable def riseB:Int->Nat->List (Nat×Rat)->Bool
 | _,_,[]=>true
 | l,d,s::xs=>decide (l<s.1)&&decide (s.1<d)&&riseB s.1 d xs
noncomputable def doesB (j:Jb) (xs:List Sh):Bool:=xs.all shG&&riseB ((j.a:Int)-1) j.d (xs.map shP)&&decide (tot (xs.map fun x=>(shP x).2)=j.w)
theorem shD_ok {x:Sh} (h:shG x=true):shD x=.tup [.int ((shP x).1:Int),nm (shP x).2]:=by
 cases x with
 | ok=>rfl
 | lst p=>cases h
 | tri a b=>cases h
noncomputable def shTD (xs:List Sh):DL.D:=.tup (xs.map shD)
structure ShsOk (M:Mem) (xs:List Sh) (L B:Nat):Prop where
 few:xs.length<=24
 ok:∀ x∈xs,ShOk M x
 gr:∀ x∈xs,Gr L B (shP x).2
 l0:0<L
 hL:L<2 ^ 690
 hB:1000*B<2 ^ 690
theorem ShsOk.sz {M:Mem} {xs:List Sh} {L B:Nat} (S:ShsOk M xs L B) {x:Sh} (h:x∈xs):Sz 700 (shP x).2:=((S.gr x h).sz S.l0 S.hL (Nat.lt_of_le_of_lt (Nat.le_mul_of_pos_left B %[|4]) S.hB)).mono %[|4]
theorem gr_sum {L B:Nat} {s:List Rat} (l0:0<L) (hL:L<2 ^ 690) (hB:1000*B<2 ^ 690) (h:∀ x∈s,Gr L B x) (hl:s.length<=1000):Sz 700 (tot s) :=
 ((Gr.tot l0 h).sz l0 hL (Nat.lt_of_le_of_lt (Nat.mul_le_mul_right B hl) hB)).mono %[|4]
theorem ShsOk.ext {M M':Mem} {xs:List Sh} {L B:Nat} (S:ShsOk M xs L B) (e:MExt M M'):ShsOk M' xs L B:=⟨S.few,fun x hx=>(S.ok x hx).ext e,S.gr,S.l0,S.hL,S.hB⟩
noncomputable def S_40:DSp:=fun ds M Q E=>∃ j xs L B,ds=[jb j,shTD xs]/\ShsOk M xs L B/\Sz 700 j.w/\∀ M',MExt M M'->Q (.bl (doesB j xs)) M'
noncomputable def C_40:CSs:=%[.asg (.tup %[.name 2,.name 3,.name 4|0]) (.var 0),.ife (.or (.not (.bi .isinstance %[.var 1,.ty .tuple|0])) (.one (.not (.bi .all %[.comp ["job","thing","arrival","due","work","ahead","stretch","part","share"] 1 (.name 8) (.seq (.var 1)) (.call "is_share" S_39 %[.var 8|0])|0])))) %[.ret (.bl false)|0] .nil,.set 5 (.bin .Sub (.var 2) (.int 1)),.fr (.tup %[.name 6,.name 7|0]) (.seq (.var 1)) %[.ife (.not (.chain .Lt .Lt (.var 5) (.var 6) (.var 3))) %[.ret (.bl false)|0] .nil,.set 5 (.var 6)|0],.ret (.cmp .Eq (.call "total" S_7 %[.comp ["job","thing","arrival","due","work","ahead","<6>","<7>","stretch","part"] 2 (.tup %[.name 8,.name 9|0]) (.seq (.var 1)) (.var 9)|0]) (.var 4))|0]
theorem vc_40:∀ ds M R E,S_40 ds M R E->rSs C_40 (ends R E) (startD 8 ds) M:=by
 rintro ds M R E ⟨j,xs,L,B,rfl,S,sw,q⟩;rw[show jb j=.tup [.int (j.a:Int),.int (j.d:Int),nm j.w] from rfl,show shTD xs=.tup (xs.map shD) from rfl];have few:=S.few;unfold C_40;sleep 7;sleep 7;refine comp_mapG xs shD (fun x=>.bl (shG x)) ?_ %[|5] ?_ ?_
 ·intro R' r'
  sleep 30;exact r' _ fun _ _=>trivial
 ·intro x hx l M' R' hl' e r'
  obtain⟨u,rfl⟩:=len1 hl';sleep 8;exact⟨x,rfl,(S.ok x hx).ext e,S.sz hx,r' [_] M' rfl (.refl _)⟩
 intro p1 M1 e1 x1 l1;refine all_of l1 ?_;cases al:xs.all shG with
 | false =>
  simp;sleep 7;have:=q M1 x1
  rwa [show doesB j xs=false by unfold doesB;rw[al];rfl] at this
 | true =>
  simp;have ok:=fun x hx=>shD_ok (List.all_eq_true.mp al x hx);sleep 7;sleep 9;refine forD_ix (fun i δ M'=>∃ (l:Int) (w6 w7:Option DL.D),M'=M1/\(riseB ((j.a:Int)-1) j.d (xs.map shP)=true ↔ riseB l j.d ((xs.map shP).drop i)=true)/\δ=[some (.tup [.int (j.a:Int),.int (j.d:Int),nm j.w]),some (.tup (xs.map shD)),some (.int (j.a:Int)),some (.int (j.d:Int)),some (nm j.w),some (.int l),w6,w7]) (fun _ _ _ _=>trivial) ?_ ?_ ⟨_,_,_,rfl,Iff.rfl,rfl⟩
  ·rintro δ M' ⟨l,w6,w7,rfl,hr,rfl⟩
   have ri1:riseB ((j.a:Int)-1) j.d (xs.map shP)=true:=hr.mpr (by
    rw[List.length_map,List.drop_eq_nil_of_le (by rw[List.length_map];exact Nat.le_refl _)];rfl)
   sleep 7;refine comp_mapG xs shD (fun x=>nm (shP x).2) ?_ %[|5] ?_ ?_
   ·intro R' r'
    sleep 30;exact r' _ fun _ _=>trivial
   ·intro x hx l M' R' hl' e r'
    obtain⟨u1,u2,rfl⟩:=len2 hl';rw[ok x hx];sleep 8;exact r' [_,_] M' rfl (.refl _)
   intro p2 M2 e2 x2 l2;have gq:∀ y∈xs.map (fun x=>(shP x).2),Gr L B y:=fun y hy=>by
    obtain⟨x,hx,rfl⟩:=List.mem_map.mp hy;exact S.gr x hx
   refine⟨p2,xs.map fun x=>(shP x).2,rfl,by rw[l2,List.map_map];rfl,fun y hy=>?_,fun i=>?_,?_⟩
   ·obtain⟨x,hx,rfl⟩:=List.mem_map.mp hy
    exact (S.sz hx).mono %[|4]
   ·exact (gr_sum S.l0 S.hL S.hB (fun y hy=>gq y (List.mem_of_mem_take hy)) (by rw[List.length_take,List.length_map];omega)).mono %[|4]
   refine eq_nm false ?_;have:=q M2 (x1.trans x2);unfold doesB at this;rw[al,ri1] at this
   simpa using this
  ·rintro i y hy N hN δ M' ⟨l,w6,w7,rfl,hr,rfl⟩
   obtain⟨hi,rfl⟩:∃ hi:i<xs.length,y=shD xs[i]:=by
    obtain⟨h,e⟩:=List.getElem?_eq_some_iff.mp hy;have h':i<xs.length:=by simpa using h
    exact⟨h',by rw[<- e];simp⟩
   have e0:=ok _ (List.getElem_mem hi);have ed:(xs.map shP).drop i=shP xs[i]::(xs.map shP).drop (i+1):=by
    rw[List.drop_eq_getElem_cons (by simpa using hi)];simp
   rw[ed] at hr;generalize xs[i]=x at e0 hr;rw[e0]
   conv at hr=>rhs;unfold riseB
   simp only[Bool.and_eq_true,decide_eq_true_eq] at hr;have no:¬ (l<((shP x).1:Int)/\(shP x).1<j.d)->R (.bl false) M':=fun h=>by
    have:=q M' x1
    rwa [show doesB j xs=false by
     unfold doesB;cases e:riseB ((j.a:Int)-1) j.d (xs.map shP) with
     | false=>rw [al];rfl
     | true=>exact absurd (hr.mp e).1 h] at this
   sleep 8;sleep 7;by_cases c1:l<((shP x).1:Int)
   ·by_cases c2:(shP x).1<j.d
    ·have c2':((shP x).1:Int)<(j.d:Int):=by omega
     simp[c1,c2,c2'];sleep 7;exact hN _ _ ⟨_,_,_,rfl,⟨fun h=>(hr.mp h).2,fun h=>hr.mpr ⟨⟨c1,c2⟩,h⟩⟩,rfl⟩
    ·have c2':¬ ((shP x).1:Int)<(j.d:Int):=by omega
     simp[c1,c2,c2'];sleep 7;exact no fun h=>c2 h.2
   ·simp[c1]
    sleep 7;exact no fun h=>c1 h.1
noncomputable def S_35:DSp:=fun ds M Q E=>∃ q,ds=[nm q]/\Sz 700 q/\Q (.bl (decide (0<=q))) M
noncomputable def C_35:CSs:=%[.ret (.and (.call "is_number" S_10 %[.var 0|0]) (.one (.not (.call "is_less" S_8 %[.var 0,.glo "NOUGHT" G_NOUGHT|0]))))|0]
theorem vc_35:∀ ds M R E,S_35 ds M R E->rSs C_35 (ends R E) (startD 1 ds) M:=by
 rintro ds M R E ⟨q,rfl,sq,k⟩;unfold C_35;sleep 7;refine⟨nm q,rfl,gnm sq,?_⟩;rw[isNum_nm];simp;refine⟨q,0,rfl,.mk sq (show Sz 1 (0:Rat) from ⟨by decide,by decide⟩) %[|4],?_⟩;by_cases c:q<0
 ·rw[decide_eq_false (show ¬ 0<=q by grind)] at k
  simpa[c] using k
 ·rw[decide_eq_true (show 0<=q by grind)] at k
  simpa[c] using k
noncomputable def S_36:DSp:=fun ds M Q E=>∃ j k,ds=[jb j]/\Job k j/\k<=40/\Q (.bl true) M
noncomputable def C_36:CSs:=%[.ife (.or (.not (.bi .isinstance %[.var 0,.ty .tuple|0])) (.or (.cmp .NotEq (.bi .len %[.var 0|0]) (.int 3)) (.or (.not (.call "is_whole" S_9 %[.ix (.var 0) (.int 0)|0])) (.one (.not (.call "is_whole" S_9 %[.ix (.var 0) (.int 1)|0])))))) %[.ret (.bl false)|0] .nil,.ret (.and (.chain3 .LtE .Lt .LtE (.int 0) (.ix (.var 0) (.int 0)) (.ix (.var 0) (.int 1)) (.glo "LAST_HOUR" G_LAST_HOUR)) (.and (.call "is_from_nought" S_35 %[.ix (.var 0) (.int 2)|0]) (.one (.cmp .NotEq (.ix (.var 0) (.int 2)) (.glo "NOUGHT" G_NOUGHT)))))|0]
theorem vc_36:∀ ds M R E,S_36 ds M R E->rSs C_36 (ends R E) (startD 1 ds) M:=by
 rintro ds M R E ⟨j,k,rfl,J,hk,q⟩;have ad:=J.ad;have d24:=J.d24;have w0:=J.w0;rw[show jb j=.tup [.int (j.a:Int),.int (j.d:Int),nm j.w] from rfl];have a0:∀ {Q:DK},Q (.int (j.a:Int)) M->iOp (.tup [.int (j.a:Int),.int (j.d:Int),nm j.w]) (.int 0) M Q:=fun h=>tix (at_zero _ _) h;have a1:∀ {Q:DK},Q (.int (j.d:Int)) M->iOp (.tup [.int (j.a:Int),.int (j.d:Int),nm j.w]) (.int 1) M Q:=fun h=>tix (at_one _ _ _) h;have a2:∀ {Q:DK},Q (nm j.w) M->iOp (.tup [.int (j.a:Int),.int (j.d:Int),nm j.w]) (.int 2) M Q:=fun h=>tix rfl h;unfold C_36;sleep 7;refine eq_int true ?_;simp;refine a0 ⟨_,"int",rfl,rfl,?_⟩;simp;refine a1 ⟨_,"int",rfl,rfl,?_⟩;simp
 (try dsimp only);rw[rSs_cons];simp[0,vAt,vHd,dCallV,and_assoc,sizeLine_eq,rSs_nil,diZip,diSeq,dFld,dMeth,dMake,dSetF,dChain3]
 refine a0 ?_
 (try dsimp only)
 rw[if_pos %[|5]];refine a1 ?_
 (try dsimp only)
 rw[if_pos %[|5],if_pos %[|5]];refine a2 ⟨j.w,rfl,J.sw.mono %[|5],?_⟩;rw[decide_eq_true (Rat.le_of_lt w0)];refine .inr ⟨rfl,a2 ?_⟩;rw[show G_NOUGHT=nm 0 from rfl];refine eq_nm true ?_;have ne:¬ j.w=0:=by grind
 simp[ne];exact q
theorem eq_intsE {M:Mem} {Q:DK} {p p':Addr} {a b:List Int} (l:M p=some (.ls (a.map .int))) (l':M p'=some (.ls (b.map .int))) (q:Q (.bl (decide (a=b))) M):cEq false (.lst p) (.lst p') M Q:=by
 obtain⟨e',h1,h2,h3⟩:=enc_int.ex;refine cEq_of (.lst l (pys_of (h1 M) a)) (.lst l' (pys_of (h1 M) b)) ?_ ?_
 ·have:=depth_all (k:=1) (l:=a.map e') (by simp;exact fun a _=>h3 a)
  simp only[PyData.depth];omega
 ·rw[show PyData.eqv (.list (a.map e')) (.list (b.map e'))=PyData.eqvAll (a.map e') (b.map e') by simp[PyData.eqv],eqv_all h2 a b]
  exact q
theorem sort_same {a b:List Int} (h:a.Pairwise (·<=·)) (hb:b.Pairwise (·<=·)) (p:b.Perm a):a=b :=
 (p.eq_of_pairwise (fun _ _ _ _ h1 h2=>Int.le_antisymm h1 h2) hb h).symm
noncomputable def S_37:DSp:=fun ds M Q E=>∃ js k,ds=[jbs js]/\Jobs k js/\∀ M',MExt M M'->Q (.bl true) M'
noncomputable def C_37:CSs:=%[.ife (.or (.not (.bi .isinstance %[.var 0,.ty .tuple|0])) (.or (.not (.chain .LtE .LtE (.int 1) (.bi .len %[.var 0|0]) (.glo "MOST_JOBS_checker" G_MOST_JOBS_checker))) (.one (.not (.bi .all %[.comp ["thing","arrivals","dues","job"] 1 (.name 3) (.seq (.var 0)) (.call "is_job_checker" S_36 %[.var 3|0])|0]))))) %[.ret (.bl false)|0] .nil,.par 1 2 (.comp ["thing","arrivals","dues","job"] 1 (.name 3) (.seq (.var 0)) (.ix (.var 3) (.int 0))) (.comp ["thing","arrivals","dues","job"] 1 (.name 3) (.seq (.var 0)) (.ix (.var 3) (.int 1))),.ret (.and (.cmp .Eq (.var 1) (.bi .sorted %[.var 1|0])) (.one (.cmp .Eq (.var 2) (.bi .sorted %[.var 2|0]))))|0]
theorem vc_37:∀ ds M R E,S_37 ds M R E->rSs C_37 (ends R E) (startD 3 ds) M:=by
 rintro ds M R E ⟨js,k,rfl,J,q⟩;have h1:=J.one;have h12:=J.most;have few:=J.few;rw[show jbs js=.tup (js.map jb) from rfl];have mon:∀ f:Jb->Nat,(∀ i j:Jb,i.a<=j.a/\i.d<=j.d->f i<=f j)->(js.map fun j=>((f j:Nat):Int)).Pairwise (·<=·):=fun f hf=>by
  rw[List.pairwise_map];exact J.mon.imp fun h=>by have:=hf _ _ h;omega
 unfold C_37;sleep 7;rw[if_pos %[|5],if_pos %[|5]];refine comp_mapG js jb (fun _=>.bl true) ?_ %[|5] ?_ ?_
 ·intro R' r'
  sleep 30;exact r' _ fun _ _=>trivial
 ·intro j hj l M' R' hl' e r'
  obtain⟨u,rfl⟩:=len1 hl';sleep 8;exact⟨j,k,rfl,J.job j hj,few,r' [_] M' rfl (.refl _)⟩
 intro p1 M1 e1 x1 l1;refine all_of (f:=fun _=>true) l1 ?_;rw[show (js.all fun _=>true)=true by simp];simp;sleep 7;refine comp_mapG js jb (fun j=>.int (j.a:Int)) ?_ %[|5] ?_ ?_
 ·intro R' r'
  sleep 30;exact r' _ fun _ _=>trivial
 ·intro j hj l M' R' hl' e r'
  obtain⟨u,rfl⟩:=len1 hl';rw[show jb j=.tup [.int (j.a:Int),.int (j.d:Int),nm j.w] from rfl];sleep 8;refine tix (at_zero _ _) ?_;exact r' [_] M' rfl (.refl _)
 intro p2 M2 e2 x2 l2;refine comp_mapG js jb (fun j=>.int (j.d:Int)) ?_ %[|5] ?_ ?_
 ·intro R' r'
  sleep 30;exact r' _ fun _ _=>trivial
 ·intro j hj l M' R' hl' e r'
  obtain⟨u,rfl⟩:=len1 hl';rw[show jb j=.tup [.int (j.a:Int),.int (j.d:Int),nm j.w] from rfl];sleep 8;refine tix (at_one _ _ _) ?_;exact r' [_] M' rfl (.refl _)
 intro p3 M3 e3 x3 l3;sleep 7;have m2:M3 p2=some (.ls ((js.map fun j=>((j.a:Nat):Int)).map .int)):=by rw[x3 _ _ l2,List.map_map];rfl
 have m3:M3 p3=some (.ls ((js.map fun j=>((j.d:Nat):Int)).map .int)):=by rw[l3,List.map_map];rfl
 refine⟨_,m2,by rw[List.length_map];omega,fun ms pm so=>?_⟩;intro p4 M4 e4 x4 l4;refine eq_intsE (x4 _ _ m2) l4 ?_;rw[decide_eq_true (sort_same (mon (·.a) fun _ _ h=>h.1) so pm)];refine .inr ⟨rfl,?_⟩;refine⟨_,x4 _ _ m3,by rw[List.length_map];omega,fun ns pn sn=>?_⟩;intro p5 M5 e5 x5 l5;refine eq_intsE (x5 _ _ (x4 _ _ m3)) l5 ?_;rw[decide_eq_true (sort_same (mon (·.d) fun _ _ h=>h.2) sn pn)];exact q M5 (x1.trans (x2.trans (x3.trans (x4.trans x5))))
noncomputable def doneB (js:List Jb) (s:List Rat) (xss:List (List Sh)):Bool:=(List.zip js xss).all (fun z=>doesB z.1 z.2)&&(List.range s.length).all fun h=>decide (partAt (xss.flatten.map shP) h=ri s h)
theorem zip_all {α β:Type} {P:α->β->Bool}:∀ {xs:List α} {ys:List β},xs.length=ys.length->(List.zip xs ys).all (fun z=>P z.1 z.2)=true->∀ y∈ys,∃ x∈xs,P x y=true
 | [],[],_,_,y,h=>by cases h
 | x::xs,y::ys,hl,h,z,hz=>by
  rw[List.zip_cons_cons,List.all_cons,Bool.and_eq_true] at h;rcases List.mem_cons.mp hz with rfl|hz
  ·exact⟨x,List.mem_cons_self,h.1⟩
  ·obtain⟨w,hw,e⟩:=zip_all (by simpa using hl) h.2 z hz
   exact⟨w,List.mem_cons_of_mem _ hw,e⟩
noncomputable def S_45:DSp:=fun ds M Q E=>∃ js k s xss L B,ds=[.tup [jbs js,rw s,.tup (xss.map shTD)]]/\Jobs k js/\s.length=lastD js/\(∀ x∈s,Sz 700 x)/\xss.length=js.length/\0<L/\L<2 ^ 690/\1000*B<2 ^ 690/\(∀ xs∈xss,ShsOk M xs L B)/\∀ M',MExt M M'->Q (.bl (doneB js s xss)) M'
noncomputable def C_45:CSs:=%[.asg (.tup %[.name 1,.name 2,.name 3|0]) (.var 0),.ife (.or (.not (.call "are_jobs" S_37 %[.var 1|0])) (.or (.not (.bi .isinstance %[.var 3,.ty .tuple|0])) (.one (.cmp .NotEq (.bi .len %[.var 3|0]) (.bi .len %[.var 1|0]))))) %[.ret (.bl false)|0] .nil,.set 4 (.ix (.ix (.var 1) (.neg (.int 1))) (.int 1)),.ife (.or (.not (.call "are_numbers" S_15 %[.var 2,.var 4,.var 4|0])) (.one (.not (.bi .all %[.comp ["parts","jobs","speeds","shares","hours","hour","job","own"] 2 (.tup %[.name 6,.name 7|0]) (.zip %[.var 1,.var 3|0]) (.call "does_job" S_40 %[.var 6,.var 7|0])|0])))) %[.ret (.bl false)|0] .nil,.fr (.name 5) (.rng %[.var 4|0]) %[.ife (.cmp .NotEq (.call "total" S_7 %[.comp2I ["parts","jobs","speeds","shares","hours","hour","own","stretch","part"] 3 (.name 6) (.seq (.var 3)) (.tup %[.name 7,.name 8|0]) (.seq (.var 6)) (.cmp .Eq (.var 7) (.var 5)) (.var 8)|0]) (.ix (.var 2) (.var 5))) %[.ret (.bl false)|0] .nil|0],.ret (.bl true)|0]
theorem vc_45:∀ ds M R E,S_45 ds M R E->rSs C_45 (ends R E) (startD 6 ds) M:=by
 rintro ds M R E ⟨js,k,s,xss,L,B,rfl,J,sl,ss,xl,l0,hL,hB,S,q⟩;have h12:=J.most;have few:=J.few;have l1:=J.last1;obtain⟨lj,hat,el⟩:=J.lastAt;unfold C_45;sleep 7;sleep 7;refine⟨js,k,rfl,J,fun M1 x1=>?_⟩;rw[show jbs js=.tup (js.map jb) from rfl];simp;refine eq_int true ?_;simp[xl];sleep 7;refine tix hat ?_;rw[show jb lj=.tup [.int (lj.a:Int),.int (lj.d:Int),nm lj.w] from rfl];refine tix (v:=.int (lj.d:Int)) (at_one _ _ _) ?_;rw[<- el];refine nx_gen fun K' hJ=>?_;have tail:(List.zip js xss).all (fun z=>doesB z.1 z.2)=true->∀ M',MExt M M'->K' [some (.tup [.tup (js.map jb),rw s,.tup (xss.map shTD)]),some (.tup (js.map jb)),some (rw s),some (.tup (xss.map shTD)),some (.int (lastD js:Int)),none] M':=by
  intro al M2 x2;have good:∀ xs∈xss,∀ x∈xs,shG x=true:=fun xs hxs x hx=>by
   obtain⟨j,_,h⟩:=zip_all xl.symm al xs hxs;unfold doesB at h;simp only[Bool.and_eq_true] at h;exact List.all_eq_true.mp h.1.1 x hx
  have tot_len:∀ n,((xss.take n).flatten).length<=300:=fun n=>by
   have key:∀ (ys:List (List Sh)),(∀ y∈ys,y.length<=24)->ys.flatten.length<=24*ys.length:=fun ys=>by
    induction ys with
    | nil=>intro _;simp
    | cons y ys ih =>
     intro h;have a:=h y List.mem_cons_self;have b:=ih fun z hz=>h z (List.mem_cons_of_mem _ hz);rw[List.flatten_cons,List.length_append,List.length_cons];omega
   have:=key (xss.take n) fun y hy=>(S y (List.mem_of_mem_take hy)).few;rw[List.length_take] at this;omega
  have all_gr:∀ x∈xss.flatten,Gr L B (shP x).2:=fun x hx=>by
   obtain⟨ys,hys,hx⟩:=List.mem_flatten.mp hx;exact (S ys hys).gr x hx
  refine hJ _ _ ?_;sleep 9;refine⟨by omega,?_⟩;refine forD_ix (fun i δ M'=>∃ (w5:Option DL.D),MExt M M'/\(∀ h,h<i->partAt (xss.flatten.map shP) h=ri s h)/\δ=[some (.tup [.tup (js.map jb),rw s,.tup (xss.map shTD)]),some (.tup (js.map jb)),some (rw s),some (.tup (xss.map shTD)),some (.int (lastD js:Int)),w5]) (fun _ _ _ _=>trivial) ?_ ?_ ⟨_,x2,nofun,rfl⟩
  ·rintro δ M3 ⟨w5,x3,hh,rfl⟩
   rw[rngD_len] at hh;sleep 7;have:=q M3 x3
   rwa [show doneB js s xss=true by
    unfold doneB;rw[al,Bool.true_and];exact List.all_eq_true.mpr fun h hm=>decide_eq_true (hh h (by have:=List.mem_range.mp hm;omega))] at this
  ·rintro i y hy N hN δ M3 ⟨w5,x3,hh,rfl⟩
   obtain⟨rfl,hi'⟩:=rngD_at hy;have hi:i<s.length:=by omega
   rw[show ((0:Int)+(i:Int)*1)=((i:Nat):Int) by omega];sleep 8;sleep 7
   let flt:List Sh->List Sh:=fun ys=>ys.filter fun x=>decide ((shP x).1=i)
   let out:List Sh->List DL.D:=fun ys=>(flt ys).map fun x=>nm (shP x).2
   have out_app:∀ a b,out (a++b)=out a++out b:=fun a b=>by simp only[out,flt];rw[List.filter_append,List.map_append]
   have out_len:∀ a:List Sh,(out a).length<=a.length:=fun a=>by simp only[out,flt];rw[List.length_map];exact List.length_filter_le _ _
   unfold dCompB;sleep 30;intro p hp;refine loopD_ix (fun n δ M'=>∃ (w6 w7 w8:Option DL.D),MExt M3 M'/\M' p=some (.ls (out (xss.take n).flatten))/\δ=[some (.tup [.tup (js.map jb),rw s,.tup (xss.map shTD)]),some (.tup (js.map jb)),some (rw s),some (.tup (xss.map shTD)),some (.int (lastD js:Int)),some (.int (i:Int)),w6,w7,w8]) (fun _ _ _ _=>trivial) ?_ ?_ ⟨_,_,_,MExt.upd_new hp (.refl _),mupd_same,rfl⟩
   ·rintro δ M4 ⟨w6,w7,w8,x4,l4,rfl⟩
    rw[List.length_map,List.take_length] at l4;refine⟨⟨_,l4⟩,?_⟩;have fl:xss.flatten.length<=300:=by have:=tot_len xss.length;rwa [List.take_length] at this
    have oe:out xss.flatten=((flt xss.flatten).map fun x=>(shP x).2).map nm:=by simp only[out];rw[List.map_map];rfl
    have ol:((flt xss.flatten).map fun x=>(shP x).2).length<=300:=by
     rw[List.length_map];exact Nat.le_trans (List.length_filter_le _ _) fl
    have og:∀ y∈(flt xss.flatten).map (fun x=>(shP x).2),Gr L B y:=fun y hy=>by
     obtain⟨x,hx,rfl⟩:=List.mem_map.mp hy;exact all_gr x (List.mem_filter.mp hx).1
    have pe:tot ((flt xss.flatten).map fun x=>(shP x).2)=partAt (xss.flatten.map shP) i:=by
     unfold partAt;rw[List.filter_map,List.map_map];rfl
    rw[oe] at l4;refine⟨p,_,rfl,l4,fun y hy=>?_,fun m=>?_,?_⟩
    ·exact ((og y hy).sz l0 hL (Nat.lt_of_le_of_lt (Nat.le_mul_of_pos_left B %[|4]) hB)).mono %[|4]
    ·exact (gr_sum l0 hL hB (fun y hy=>og y (List.mem_of_mem_take hy)) (by rw[List.length_take];omega)).mono %[|4]
    rw[pe];refine rw_ix hi ?_;refine eq_nm true ?_;have yes:partAt (xss.flatten.map shP) i=ri s i->N [some (.tup [.tup (js.map jb),rw s,.tup (xss.map shTD)]),some (.tup (js.map jb)),some (rw s),some (.tup (xss.map shTD)),some (.int (lastD js:Int)),some (.int (i:Int))] M4:=fun c=>hN _ _ ⟨_,x3.trans x4,fun h hlt=>by
     rcases (by omega:h=i\/h<i) with rfl|z
     ·exact c
     ·exact hh h z,rfl⟩
    have no:¬ partAt (xss.flatten.map shP) i=ri s i->R (.bl false) M4:=fun c=>by
     have:=q M4 (x3.trans x4)
     rwa [show doneB js s xss=false by
      unfold doneB;rw[al,Bool.true_and];cases e:(List.range s.length).all fun h=>decide (partAt (xss.flatten.map shP) h=ri s h) with
      | false=>rfl
      | true=>exact absurd (of_decide_eq_true (List.all_eq_true.mp e i (List.mem_range.mpr hi))) c] at this
    generalize partAt (xss.flatten.map shP) i=v at yes no;by_cases c:v=ri s i
    ·simp[c]
     exact yes c
    ·simp[c]
     sleep 7;exact no c
   ·rintro n y hy N' hN' δ M4 ⟨w6,w7,w8,x4,l4,rfl⟩
    obtain⟨hn,rfl⟩:∃ hn:n<xss.length,y=shTD xss[n]:=by
     obtain⟨h,e⟩:=List.getElem?_eq_some_iff.mp hy;have h':n<xss.length:=by simpa using h
     exact⟨h',by rw[<- e];simp⟩
    have hm:=List.getElem_mem hn;have gx:=good _ hm;have fx:=(S _ hm).few;have tk:(xss.take (n+1)).flatten=(xss.take n).flatten++xss[n]:=by rw[List.take_succ_eq_append_getElem hn,List.flatten_append];simp
    have tl:=tot_len n;rw[tk,out_app] at hN';generalize (xss.take n).flatten=A at *;generalize xss[n]=xs at *;rw[show shTD xs=.tup (xs.map shD) from rfl];unfold bFor;simp[0,vAt,vHd,dCallV,and_assoc,sizeLine_eq,rSs_nil,diZip,diSeq,dFld,dMeth,dMake,dSetF,diSeq,itSeq];refine loopD_ix (fun m δ M'=>∃ (w7 w8:Option DL.D),MExt M3 M'/\M' p=some (.ls (out A++out (xs.take m)))/\δ=[some (.tup [.tup (js.map jb),rw s,.tup (xss.map shTD)]),some (.tup (js.map jb)),some (rw s),some (.tup (xss.map shTD)),some (.int (lastD js:Int)),some (.int (i:Int)),some (.tup (xs.map shD)),w7,w8]) (fun _ _ _ _=>trivial) ?_ ?_ ⟨_,_,x4,by rw[l4];simp[out,flt],rfl⟩
    ·rintro δ M5 ⟨w7,w8,x5,l5,rfl⟩
     rw[List.length_map,List.take_length] at l5;exact hN' _ _ ⟨_,_,_,x5,l5,rfl⟩
    ·rintro m z hz N2 hN2 δ M5 ⟨w7,w8,x5,l5,rfl⟩
     obtain⟨hm2,rfl⟩:∃ hm:m<xs.length,z=shD xs[m]:=by
      obtain⟨h,e⟩:=List.getElem?_eq_some_iff.mp hz;have h':m<xs.length:=by simpa using h
      exact⟨h',by rw[<- e];simp⟩
     have gz:=gx _ (List.getElem_mem hm2);have tk2:xs.take (m+1)=xs.take m++[xs[m]]:=List.take_succ_eq_append_getElem hm2;have ln2:(out A++out (xs.take m)).length<=400:=by
      rw[List.length_append];have a:=out_len A;have b:=out_len (xs.take m);rw[List.length_take] at b;omega
     rw[tk2,out_app,<- List.append_assoc] at hN2;generalize out A++out (xs.take m)=acc at *;generalize xs[m]=x at *;rw[shD_ok gz];unfold bIf bEmit;simp[0,gdTup,vAt,vHd,dCallV,and_assoc,sizeLine_eq,rSs_nil,diZip,diSeq,dFld,dMeth,dMake,dSetF];refine eq_int false ?_;by_cases c:(shP x).1=i
     ·have o1:out [x]=[nm (shP x).2]:=by simp[out,flt,c]
      rw[o1] at hN2;simp[c];refine⟨_,l5,by omega,?_⟩;have:=hN2 _ _ ⟨some (.int ((shP x).1:Int)),some (nm (shP x).2),MExt.upd_new hp x5,mupd_same,rfl⟩
      rwa [c] at this
     ·have o1:out [x]=[]:=by simp[out,flt,c]
      rw[o1,List.append_nil] at hN2;have c':¬ (((shP x).1:Nat):Int)=(i:Int):=by omega
      simp[c'];exact hN2 _ _ ⟨_,_,x5,l5,rfl⟩
 sleep 8;refine⟨rw s,_,_,rfl,by omega,gd_rw ss %[|4],fun M2 x2=>?_⟩;rw[areNums_rw %[|5] %[|5]];simp;refine comp_mapG (List.zip js xss) (fun z=>.tup [jb z.1,shTD z.2]) (fun z=>.bl (doesB z.1 z.2)) ?_ (by rw[List.length_zip];omega) ?_ ?_
 ·intro R' r'
  simp[0,vAt,vHd,dCallV,and_assoc,sizeLine_eq,rSs_nil,diZip,diSeq,dFld,dMeth,dMake,dSetF,diZip,itZip];have e:zipD (js.map jb) (xss.map shTD)=(List.zip js xss).map fun z=>.tup [jb z.1,shTD z.2]:=by
   unfold zipD;rw[List.zipWith_map,List.zip,List.map_zipWith]
  rw[e];exact r' _ fun _ _=>trivial
 ·intro z hz l M' R' hl' e r'
  obtain⟨u1,u2,rfl⟩:=len2 hl';obtain⟨j,xs⟩:=z;have hj:=J.job j (List.of_mem_zip hz).1;have hx:=S xs (List.of_mem_zip hz).2;sleep 8;refine⟨j,xs,L,B,rfl,hx.ext (x1.trans (x2.trans e)),hj.sw.mono %[|5],fun M'' x''=>?_⟩;exact r' [_,_] M'' rfl x''
 intro p3 M3 e3 x3 l3;refine all_of l3 ?_;have x03:=x1.trans (x2.trans x3);cases al:(List.zip js xss).all fun z=>doesB z.1 z.2 with
 | true=>simp;exact tail al M3 x03
 | false =>
  simp;sleep 7;have:=q M3 x03
  rwa [show doneB js s xss=false by unfold doneB;rw[al];rfl] at this
noncomputable def S_46:DSp:=fun ds M Q E=>∃ js k s xss L B,ds=[.tup [.str "done",jbs js,rw s,.tup (xss.map shTD)],.non]/\Jobs k js/\s.length=lastD js/\(∀ x∈s,Sz 700 x)/\xss.length=js.length/\0<L/\L<2 ^ 690/\1000*B<2 ^ 690/\(∀ xs∈xss,ShsOk M xs L B)/\∀ M',MExt M M'->Q (.bl (doneB js s xss)) M'
noncomputable def C_46:CSs:=%[.ife (.or (.not (.bi .isinstance %[.var 0,.ty .tuple|0])) (.or (.cmp .Eq (.bi .len %[.var 0|0]) (.int 0)) (.one (.not (.bi .isinstance %[.ix (.var 0) (.int 0),.ty .str|0]))))) %[.ret (.bl false)|0] .nil,.par 2 3 (.ix (.var 0) (.int 0)) (.sl (.var 0) (.some (.int 1)) .none),.ife (.or (.cmp .NotIn (.var 2) (.glo "SIZES" G_SIZES)) (.one (.cmp .NotEq (.bi .len %[.var 3|0]) (.ix (.glo "SIZES" G_SIZES) (.var 2))))) %[.ret (.bl false)|0] .nil,.ife (.cmp .In (.var 2) (.glo "WITH_PAPER" G_WITH_PAPER)) %[.set 4 (.ix (.glo "WITH_PAPER" G_WITH_PAPER) (.var 2)),.ret (.callv 4 [] %[.var 3,.var 1|0])|0] .nil,.set 5 (.ix (.glo "WITHOUT_PAPER" G_WITHOUT_PAPER) (.var 2)),.ret (.and (.cmp .Is (.var 1) .non) (.one (.callv 5 [("done_holds",S_45)] %[.var 3|0])))|0]
theorem vc_46:∀ ds M R E,S_46 ds M R E->rSs C_46 (ends R E) (startD 6 ds) M:=by
 rintro ds M R E ⟨js,k,s,xss,L,B,rfl,J,sl,ss,xl,l0,hL,hB,S,q⟩;unfold C_46;have n1:sizesK.contains "done"=true:=by decide +kernel
 have n2:sdAt sizesK sizesV "done"=some (.int 3):=rfl;have n3:withK.contains "done"=false:=by decide +kernel
 have n4:sdAt withoutK withoutV "done"=some (.fn "done_holds"):=rfl;generalize hX:D.tup (xss.map shTD)=X at *;generalize hJs:jbs js=Y at *;refine nx_gen fun J hJ=>?_;have t1:J [some (.tup [.str "done",Y,rw s,X]),some .non,none,none,none,none] M:=by
  refine hJ _ _ ?_;sleep 7;refine⟨.str "done",at_zero _ _,?_⟩;rw[show cutG [D.str "done",Y,rw s,X] (some 1) none=[Y,rw s,X] from rfl]
  (try dsimp only)
  refine nx_gen fun J hJ=>?_;have t2:J [some (.tup [.str "done",Y,rw s,X]),some .non,some (.str "done"),some (.tup [Y,rw s,X]),none,none] M:=by
   refine hJ _ _ ?_;refine nx_gen fun J hJ=>?_;have t3:J [some (.tup [.str "done",Y,rw s,X]),some .non,some (.str "done"),some (.tup [Y,rw s,X]),none,none] M:=by
    refine hJ _ _ ?_;sleep 7;refine sd_ix n4 ?_;sleep 7;subst hX hJs;exact⟨js,k,s,xss,L,B,rfl,by assumption,sl,ss,xl,l0,hL,hB,S,q⟩
   sleep 8;refine sd_in n3 ?_;simp;exact t3
  sleep 8;refine sd_notIn n1 ?_;simp;refine sd_ix n2 ?_;refine eq_int true ?_;simp;exact t2
 sleep 8;refine eq_int false ?_;simp;refine⟨.str "done",at_zero _ _,?_⟩;refine is_str ?_;simp;exact t1
theorem enc_natS:EqEnc (α:=Nat) (fun i=>.int (i:Int)) 3:=⟨fun i=>.int (i:Int),fun _ i=>.int (i:Int),fun a b=>by simp[PyData.eqv];rw[Bool.eq_iff_iff];simp;omega,fun a=>by simp[PyData.depth]⟩
theorem enc_sh:EqEnc sh 4:=enc_natS.pair enc_nm
theorem enc_shT:EqEnc shT 5:=enc_sh.tup
theorem enc_pts:EqEnc (fun l:List (List (Nat×Rat))=>.tup (l.map shT)) 6:=enc_shT.tup
@[simp] theorem l_isS {xs:List (Nat×Rat)} {M:Mem} {Q:DK}:fIsi [shT xs,.ty "tuple"] M Q=Q (.bl true) M:=l_isT
theorem isi_int {i:Int} {M:Mem} {Q:DK}:fIsi [D.int i,.ty "int"] M Q=Q (.bl true) M:=by unfold fIsi;simp[tyD,isiT]
theorem isi_ib {i:Int} {M:Mem} {Q:DK}:fIsi [D.int i,.ty "bool"] M Q=Q (.bl false) M:=by unfold fIsi;simp[tyD,isiT]
noncomputable def S_30:DSp:=fun ds M Q E=>∃ q,ds=[nm q]/\Sz 700 q/\∀ M',MExt M M'->Q (.bl true) M'
noncomputable def C_30:CSs:=%[.ife (.or (.not (.bi .isinstance %[.var 0,.ty .tuple|0])) (.one (.cmp .NotEq (.bi .len %[.var 0|0]) (.int 2)))) %[.ret (.bl false)|0] .nil,.ife (.not (.bi .all %[.comp ["_law_thing","_law_part"] 1 (.name 1) (.seq (.var 0)) (.and (.bi .isinstance %[.var 1,.ty .int|0]) (.one (.not (.bi .isinstance %[.var 1,.ty .bool|0]))))|0])) %[.ret (.bl false)|0] .nil,.ret (.and (.cmp .Gt (.ix (.var 0) (.int 1)) (.int 0)) (.one (.cmp .Eq (.call "_law_low" S_1 %[.ix (.var 0) (.int 0),.ix (.var 0) (.int 1)|0]) (.var 0))))|0]
theorem vc_30:∀ ds M R E,S_30 ds M R E->rSs C_30 (ends R E) (startD 1 ds) M:=by
  rintro ds M R E ⟨q,rfl,sq,k⟩;have dp:=den_pos q;rw[show nm q=.tup [.int q.num,.int q.den] from rfl];unfold C_30;sleep 7;refine eq_int true ?_;simp;sleep 7;refine comp_mapG [q.num,(q.den:Int)] .int (fun _=>.bl true) ?_ (by simp) ?_ ?_
  . intro R' r';sleep 30;exact r' _ fun _ _=>trivial
  . intro x hx l M' R' hl' e r';obtain⟨u,rfl⟩:=len1 hl';sleep 8;rw[isi_int];simp[isi_ib];exact r' [_] M' rfl (.refl _)
  intro p1 M1 e1 x1 l1;refine all_of (f:=fun _=>true) l1 ?_;simp;sleep 7;refine tix (at_one _ _ _) ?_;simp;rw[if_pos %[|5]];refine tix (at_zero _ _) ?_;refine tix (at_one _ _ _) ?_;refine⟨_,_,rfl,by omega,by have:=sq.2;have h:((q.den:Int)).natAbs=q.den:=(by simp);rw[h];exact Nat.lt_of_lt_of_le this (pow_le %[|4]),?_⟩
  rw[divInt_lowest];rw[show D.tup [.int q.num,.int (q.den:Int)]=nm q from rfl];refine eq_nm false ?_;simp;exact k M1 x1
noncomputable def S_31:DSp:=fun ds M Q E=>∃ xs,ds=[shT xs]/\xs≠[]/\xs.length<=24/\(∀ x∈xs,0<x.2/\Sz 700 x.2)/\(xs.Pairwise fun x y=>x.1<y.1)/\∀ M',MExt M M'->Q (.bl true) M'
noncomputable def C_31:CSs:=%[.ife (.or (.not (.bi .isinstance %[.var 0,.ty .tuple|0])) (.one (.cmp .Eq (.var 0) (.tup .nil)))) %[.ret (.bl false)|0] .nil,.fr (.name 1) (.seq (.var 0)) %[.ife (.or (.not (.bi .isinstance %[.var 1,.ty .tuple|0])) (.or (.cmp .NotEq (.bi .len %[.var 1|0]) (.int 2)) (.or (.not (.bi .isinstance %[.ix (.var 1) (.int 0),.ty .int|0])) (.one (.bi .isinstance %[.ix (.var 1) (.int 0),.ty .bool|0]))))) %[.ret (.bl false)|0] .nil,.ife (.or (.not (.call "_law_is_number" S_30 %[.ix (.var 1) (.int 1)|0])) (.one (.cmp .LtE (.ix (.ix (.var 1) (.int 1)) (.int 0)) (.int 0)))) %[.ret (.bl false)|0] .nil|0],.ret (.bi .all %[.comp ["_law_told","_law_one","_law_k"] 1 (.name 2) (.rng %[.int 1,.bi .len %[.var 0|0]|0]) (.cmp .Lt (.ix (.ix (.var 0) (.bin .Sub (.var 2) (.int 1))) (.int 0)) (.ix (.ix (.var 0) (.var 2)) (.int 0)))|0])|0]
theorem vc_31:∀ ds M R E,S_31 ds M R E->rSs C_31 (ends R E) (startD 2 ds) M:=by
 rintro ds M R E ⟨xs,rfl,ne,few,hx,pw,q⟩;unfold C_31;refine nx_gen fun J hJ=>?_;have t1:J [some (shT xs),none] M:=by
  refine hJ _ _ ?_;rw[show shT xs=.tup (xs.map sh) from rfl];sleep 9;refine forD_ix (fun i δ M'=>∃ w1,MExt M M'/\δ=[some (.tup (xs.map sh)),w1]) (fun _ _ _ _=>trivial) ?_ ?_ ⟨_,.refl _,rfl⟩
  ·rintro δ M1 ⟨w1,x1,rfl⟩
   sleep 7;have l1:1<=xs.length:=List.length_pos_iff.mpr ne;refine comp_mapG (List.range (xs.length-1)) (fun i=>.int ((i+1:Nat):Int)) (fun _=>.bl true) ?_ (by simp;omega) ?_ ?_
   ·intro R' r'
    simp[0,vAt,vHd,dCallV,and_assoc,sizeLine_eq,rSs_nil,diZip,diSeq,dFld,dMeth,dMake,dSetF,diRng];have e:rngD 1 1 (xs.length-1)=(List.range (xs.length-1)).map fun i=>.int ((i:Int)+1):=by
     unfold rngD;exact List.map_congr_left fun i _=>by congr 1;omega
    rw[e];exact⟨by omega,r' _ fun _ _=>trivial⟩
   ·intro i hi l M' R' hl' e r'
    obtain⟨u,rfl⟩:=len1 hl';have hi':=List.mem_range.mp hi;have h1:i<xs.length:=by omega
    have h2:i+1<xs.length:=by omega
    have lt:=List.pairwise_iff_getElem.mp pw i (i+1) h1 h2 %[|5];have a1:(xs.map sh)[i]?=some (sh xs[i]):=by simp[h1]
    have a2:(xs.map sh)[i+1]?=some (sh xs[i+1]):=by simp[h2]
    generalize xs[i]=x at lt a1;generalize xs[i+1]=y at lt a2;sleep 8;refine tix (at_nat a1) ?_;rw[show sh x=.tup [.int (x.1:Int),nm x.2] from rfl];refine tix (at_zero _ _) ?_;rw[show ((i:Int)+1)=((i+1:Nat):Int) by omega];refine tix (at_nat a2) ?_;rw[show sh y=.tup [.int (y.1:Int),nm y.2] from rfl];refine tix (at_zero _ _) ?_;simp[lt];exact r' [_] M' rfl (.refl _)
   intro p M2 e2 x2 l2;refine all_of (f:=fun _=>true) l2 ?_;rw[show ((List.range (xs.length-1)).all fun _=>true)=true by simp];exact q M2 (x1.trans x2)
  ·rintro i y hy N hN δ M1 ⟨w1,x1,rfl⟩
   obtain⟨hi,rfl⟩:∃ hi:i<xs.length,y=sh xs[i]:=by
    obtain⟨h,e⟩:=List.getElem?_eq_some_iff.mp hy;have h':i<xs.length:=by simpa using h
    exact⟨h',by rw[<- e];simp⟩
   obtain⟨h0,sz⟩:=hx _ (List.getElem_mem hi);generalize xs[i]=x at h0 sz;rw[show sh x=.tup [.int (x.1:Int),nm x.2] from rfl];have np:0<x.2.num:=num_pos'.mpr h0;have nq:¬ x.2.num<=0:=by omega
   sleep 8;refine nx_gen fun J hJ=>?_;have t2:J [some (.tup (xs.map sh)),some (.tup [.int (x.1:Int),nm x.2])] M1:=by
    refine hJ _ _ ?_;sleep 7;refine tix (at_one _ _ _) ?_;refine⟨x.2,rfl,sz,fun M2 x2=>?_⟩;simp;refine tix (at_one _ _ _) ?_;simp[nq];exact hN _ _ ⟨_,x1.trans x2,rfl⟩
   sleep 8;refine eq_int true ?_;simp;refine tix (at_zero _ _) ?_;rw[isi_int];simp;refine tix (at_zero _ _) ?_;rw[isi_ib];simp;exact t2
 sleep 8;refine enc_shT.eq (a:=xs) (b:=[]) %[|4] false ?_;simp[ne];exact t1
noncomputable def roomL (s:List Rat) (P:List (Nat×Rat)):List Rat:=(List.range s.length).map fun h=>ri s h-partAt P h
theorem room_len (s:List Rat) (P:List (Nat×Rat)):(roomL s P).length=s.length:=by simp[roomL]
theorem room_ri {s:List Rat} {P:List (Nat×Rat)} {h:Nat} (hh:h<s.length):ri (roomL s P) h=ri s h-partAt P h:=by simp[roomL,ri,List.getD,hh]
theorem room_nil (s:List Rat):roomL s []=s:=ri_ext (room_len s []) fun i hi=>by
 rw[room_len] at hi;rw[room_ri hi];show _-(0:Rat)=_;grind
theorem room_set {s:List Rat} {P:List (Nat×Rat)} {x:Nat×Rat} (hx:x.1<s.length):(roomL s P).set x.1 (ri (roomL s P) x.1-x.2)=roomL s (P++[x]):=by
 refine ri_ext (by simp[room_len]) fun i hi=>?_;rw[List.length_set,room_len] at hi;rw[room_ri hi,partAt_app,partAt_one,room_ri hx];by_cases c:x.1=i
 ·subst c
  rw[if_pos rfl];have h1:x.1<(roomL s P).length:=by rw[room_len];exact hx
  simp[ri,List.getD,h1];grind
 ·rw[if_neg c]
  have e:ri ((roomL s P).set x.1 (ri s x.1-partAt P x.1-x.2)) i=ri (roomL s P) i:=by
   simp[ri,List.getD,List.getElem?_set,c]
  rw[e,room_ri hi];grind
theorem gr_part {L B:Nat} (l0:0<L) {P:List (Nat×Rat)} (h:∀ x∈P,Gr L B x.2) (i:Nat):Gr L (P.length*B) (partAt P i):=by
 refine (Gr.tot l0 fun y hy=>?_).mono (Nat.mul_le_mul_right B (by rw[List.length_map];exact List.length_filter_le _ _));obtain⟨x,hx,rfl⟩:=List.mem_map.mp hy;exact h x (List.mem_filter.mp hx).1
noncomputable def preL (js:List Jb) (r:List Rat) (i:Nat):List (Nat×Rat):=((List.range i).map (shI js r)).flatten
theorem pre_succ (js:List Jb) (r:List Rat) (i:Nat):preL js r (i+1)=preL js r i++shI js r i:=by
 unfold preL;rw[List.range_succ,List.map_append,List.flatten_append];simp
section
variable {js:List Jb} {r:List Rat} {L B:Nat}
theorem Pj.shlen (P:Pj js r L B) (i:Nat):(shI js r i).length<=24:=by
 obtain⟨k,J⟩:=P.k;have:=shL_len r (begW js i) (begW js (i+1)) (r.length-1);have:=J.last1;have:=P.len;unfold shI;omega
theorem Pj.prelen (P:Pj js r L B):∀ i,(preL js r i).length<=24*i
 | 0=>by simp[preL]
 | i+1=>by
  have:=P.prelen i;have:=P.shlen i;rw[pre_succ,List.length_append];omega
theorem Pj.pregr (P:Pj js r L B):∀ i,∀ x∈preL js r i,Gr L (B+B) x.2
 | 0,x,h=>by simp[preL] at h
 | i+1,x,h=>by
  rw[pre_succ] at h;rcases List.mem_append.mp h with h|h
  ·exact P.pregr i x h
  ·exact P.gsh x h
theorem Pj.ne (P:Pj js r L B) {i:Nat} (hi:i<js.length):shI js r i≠[]:=fun z=>by
 obtain⟨k,J⟩:=P.k;have w:=P.work hi;rw[z] at w;have:=(J.job _ (List.getElem_mem hi)).w0;have e:tot (([]:List (Nat×Rat)).map (·.2))=0:=rfl;grind
end
noncomputable def S_32:DSp:=fun ds M Q E=>∃ js k r,ds=[jbs js,.tup ((ptL js r).map shT)]/\Jobs k js/\Told (jobT js) 500 r/\∀ M',MExt M M'->Q (.bl true) M'
noncomputable def C_32:CSs:=%[.ife (.or (.not (.bi .isinstance %[.var 1,.ty .tuple|0])) (.or (.cmp .NotEq (.bi .len %[.var 1|0]) (.bi .len %[.var 0|0])) (.one (.not (.bi .all %[.comp ["_law_jobs_here","_law_told","_law_room","_law_last","_law_job","_law_some","_law_work","_law_stretch","_law_part","_law_one"] 1 (.name 9) (.seq (.var 1)) (.call "_law_is_told" S_31 %[.var 9|0])|0]))))) %[.ret (.bl false)|0] .nil,.set 2 (.bi .list %[.call "speeds" S_29 %[.var 0|0]|0]),.set 3 (.int 0),.fr (.tup %[.name 4,.name 5|0]) (.zip %[.var 0,.var 1|0]) %[.set 6 (.ix (.var 4) (.int 2)),.ife (.or (.cmp .Lt (.ix (.ix (.var 5) (.int 0)) (.int 0)) (.bi .max %[.ix (.var 4) (.int 0),.var 3|0])) (.one (.cmp .GtE (.ix (.ix (.var 5) (.neg (.int 1))) (.int 0)) (.ix (.var 4) (.int 1))))) %[.ret (.bl false)|0] .nil,.set 3 (.ix (.ix (.var 5) (.neg (.int 1))) (.int 0)),.fr (.tup %[.name 7,.name 8|0]) (.seq (.var 5)) %[.asg (.sub (.var 2) (.var 7)) (.call "_law_less_by" S_3 %[.ix (.var 2) (.var 7),.var 8|0]),.set 6 (.call "_law_less_by" S_3 %[.var 6,.var 8|0])|0],.ife (.cmp .NotEq (.var 6) (.tup %[.int 0,.int 1|0])) %[.ret (.bl false)|0] .nil|0],.ret (.not (.bi .any %[.comp ["_law_jobs_here","_law_told","_law_room","_law_last","_law_job","_law_some","_law_work","_law_stretch","_law_part","_law_one"] 1 (.name 9) (.seq (.var 2)) (.cmp .NotEq (.var 9) (.tup %[.int 0,.int 1|0]))|0]))|0]
theorem vc_32:∀ ds M R E,S_32 ds M R E->rSs C_32 (ends R E) (startD 9 ds) M:=by
 rintro ds M R E ⟨js,k,r,rfl,J,T,q⟩;obtain⟨L,B,P⟩:=J.pj T;have h12:=J.most;have l1:=J.last1;have ln:=P.len;have pl':(ptL js r).length=js.length:=by simp[ptL]
 have szp:∀ {x:Rat},Gr L (B+B) x->Sz 610 x:=fun h=>P.sz (n:=2) %[|4] (by rw[Nat.two_mul];exact h);rw[show jbs js=.tup (js.map jb) from rfl];unfold C_32;refine nx_gen fun K0 hK0=>?_;have t1:∀ M',MExt M M'->K0 [some (.tup (js.map jb)),some (.tup ((ptL js r).map shT)),none,none,none,none,none,none,none] M':=by
  intro M1 x1;refine hK0 _ _ ?_;sleep 7;refine⟨js,k,rfl,J,fun r' M2 T' x2=>?_⟩;obtain rfl:r'=r:=T'.unique T (by rw[jobT_len];omega);have sl:=steps_len r';simp;intro p M3 e3 x3 l3;have np:M p=none:=MExt.none (x1.trans x2) e3;sleep 7;sleep 9;simp only[itZip];have zl:(zipD (js.map jb) ((ptL js r').map shT)).length=js.length:=by simp[zipD,pl']
  refine forD_ix (fun i δ M'=>∃ (w4 w5 w6 w7 w8:Option DL.D) (last:Nat),MExt M M'/\M' p=some (.ls ((roomL (stepsOf r') (preL js r' i)).map nm))/\(∀ h:i<js.length,∀ x∈shI js r' i,last<=x.1)/\δ=[some (.tup (js.map jb)),some (.tup ((ptL js r').map shT)),some (.lst p),some (.int (last:Int)),w4,w5,w6,w7,w8]) (fun _ _ _ _=>trivial) ?_ ?_ ⟨_,_,_,_,_,0,x1.trans (x2.trans x3),by rw[l3,show preL js r' 0=[] from rfl,room_nil],fun _ _ _=>Nat.zero_le _,rfl⟩
  ·rintro δ M4 ⟨w4,w5,w6,w7,w8,last,x4,l4,_,rfl⟩
   rw[zl] at l4;have z0:∀ y∈roomL (stepsOf r') (preL js r' js.length),y=0:=fun y hy=>by
    obtain⟨h,hh,rfl⟩:=List.mem_map.mp hy;have hh:=List.mem_range.mp hh;have:=P.hours (h:=h) %[|5];have e:preL js r' js.length=(ptL js r').flatten:=rfl;rw[e,this];grind
   have rl:=room_len (stepsOf r') (preL js r' js.length);generalize roomL (stepsOf r') (preL js r' js.length)=ro at *;sleep 7;refine comp_mapG ro nm (fun _=>.bl false) (ti_lst rfl l4) %[|5] ?_ ?_
   ·intro y hy l M' R' hl' e r'
    obtain⟨u,rfl⟩:=len1 hl';sleep 8;rw[nm_zero];refine eq_nm true ?_;simp[z0 y hy];exact r' [_] M' rfl (.refl _)
   intro p5 M5 e5 x5 l5;refine any_of (f:=fun _=>false) l5 ?_;simp;exact q M5 (x4.trans x5)
  ·rintro i y hy N hN δ M4 ⟨w4,w5,w6,w7,w8,last,x4,l4,hlast,rfl⟩
   have hi:i<js.length:=by
    have:=(List.getElem?_eq_some_iff.mp hy).1;rw[zl] at this;exact this
   obtain rfl:y=.tup [jb js[i],shT (shI js r' i)]:=by
    simp[zipD,List.getElem?_zipWith,hi,ptL] at hy;exact hy.symm
   have wi:=P.within hi;have ws:=P.work hi;have ne:=P.ne hi;have few:=P.shlen i;have gx:=P.gsh (i:=i);have pl2:=P.prelen i;have pg:=P.pregr i;have od:∀ h:i+1<js.length,∀ s∈shI js r' i,∀ t∈shI js r' (i+1),s.1<=t.1:=fun h s hs t ht=>P.order h hs ht;have hl0:=hlast hi;have pe:=pre_succ js r' i;have jw:=(J.job _ (List.getElem_mem hi));have gj:=P.gw _ (List.getElem_mem hi);rw[pe] at hN;generalize shI js r' i=xs at *;generalize preL js r' i=A at *;generalize js[i]=j at *;obtain⟨f,fs,rfl⟩:∃ f fs,xs=f::fs:=by
    cases xs with
    | nil=>exact absurd rfl ne
    | cons f fs=>exact⟨f,fs,rfl⟩
   obtain⟨g,hg,gm⟩:∃ g,L2.atI ((f::fs).map sh) (-1)=some (sh g)/\g∈f::fs:=by
    refine⟨(f::fs).getLast (List.cons_ne_nil _ _),?_,List.getLast_mem _⟩;have hm:(f::fs).map sh≠[]:=by simp
    rw[at_last hm,List.getLast_map]
   have f0:=wi f List.mem_cons_self;have g0:=wi g gm;have fl:=hl0 f List.mem_cons_self;generalize hxs:f::fs=xs at *;have hf:L2.atI (xs.map sh) 0=some (sh f):=by rw[<- hxs];exact at_zero _ _
   rw[show jb j=.tup [.int (j.a:Int),.int (j.d:Int),nm j.w] from rfl,show shT xs=.tup (xs.map sh) from rfl];sleep 8;sleep 7;refine tix (v:=nm j.w) rfl ?_;refine nx_gen fun K1 hK1=>?_;have t2:K1 [some (.tup (js.map jb)),some (.tup ((ptL js r').map shT)),some (.lst p),some (.int (last:Int)),some (.tup [.int (j.a:Int),.int (j.d:Int),nm j.w]),some (.tup (xs.map sh)),some (nm j.w),w7,w8] M4:=by
    refine hK1 _ _ ?_;sleep 7;refine tix hg ?_;rw[show sh g=.tup [.int (g.1:Int),nm g.2] from rfl];refine tix (at_zero _ _) ?_;refine nx_gen fun K2 hK2=>?_;have t3:∀ (w7 w8:Option DL.D) M',MExt M M'->M' p=some (.ls ((roomL (stepsOf r') (A++xs)).map nm))->K2 [some (.tup (js.map jb)),some (.tup ((ptL js r').map shT)),some (.lst p),some (.int (g.1:Int)),some (.tup [.int (j.a:Int),.int (j.d:Int),nm j.w]),some (.tup (xs.map sh)),some (nm 0),w7,w8] M':=by
     intro w7 w8 M5 x5 l5;refine hK2 _ _ ?_;sleep 7;rw[nm_zero];refine eq_nm true ?_;simp;exact hN _ _ ⟨_,_,_,_,_,g.1,x5,l5,fun h x hx=>od h g gm x hx,rfl⟩
    sleep 9;refine forD_ix (fun m δ M'=>∃ (w7 w8:Option DL.D),MExt M M'/\M' p=some (.ls ((roomL (stepsOf r') (A++xs.take m)).map nm))/\δ=[some (.tup (js.map jb)),some (.tup ((ptL js r').map shT)),some (.lst p),some (.int (g.1:Int)),some (.tup [.int (j.a:Int),.int (j.d:Int),nm j.w]),some (.tup (xs.map sh)),some (nm (j.w-tot ((xs.take m).map (·.2)))),w7,w8]) (fun _ _ _ _=>trivial) ?_ ?_ ⟨_,_,x4,by simpa using l4,by
     have e:j.w-tot ((xs.take 0).map (·.2))=j.w:=by show _-(0:Rat)=_;grind
     rw[e]⟩
    ·rintro δ M5 ⟨w7,w8,x5,l5,rfl⟩
     rw[List.length_map,List.take_length] at l5 ⊢;rw[ws,show j.w-j.w=0 by grind];exact t3 _ _ M5 x5 l5
    ·rintro m z hz N2 hN2 δ M5 ⟨w7,w8,x5,l5,rfl⟩
     obtain⟨hm,rfl⟩:∃ hm:m<xs.length,z=sh xs[m]:=by
      obtain⟨h,e⟩:=List.getElem?_eq_some_iff.mp hz;have h':m<xs.length:=by simpa using h
      exact⟨h',by rw[<- e];simp⟩
     have wm:=wi _ (List.getElem_mem hm);have gm2:=gx _ (List.getElem_mem hm);have tk:xs.take (m+1)=xs.take m++[xs[m]]:=List.take_succ_eq_append_getElem hm;have gA:∀ x∈A++xs.take m,Gr L (B+B) x.2:=fun x hx=>by
      rcases List.mem_append.mp hx with h|h
      ·exact pg x h
      ·exact gx x (List.mem_of_mem_take h)
     have lA:(A++xs.take m).length<=312:=by rw[List.length_append,List.length_take];omega
     have gt:Gr L (24*(B+B)) (tot ((xs.take m).map (·.2))):=(Gr.tot (B:=B+B) P.l0 fun y hy=>by
      obtain⟨x,hx,rfl⟩:=List.mem_map.mp hy;exact gx x (List.mem_of_mem_take hx)).mono (Nat.mul_le_mul_right _ (by rw[List.length_map,List.length_take];omega))
     rw[tk,List.map_append,tot_append] at hN2;generalize (xs.take m)=pre at *;generalize xs[m]=x at *;have hx:x.1<(stepsOf r').length:=by omega
     have sr:Sz 610 (ri (stepsOf r') x.1-partAt (A++pre) x.1):=by
      have g1:Gr L (B+B) (ri (stepsOf r') x.1):=by
       rw[steps_at %[|5]];exact (P.gr _ (ri_mem %[|5])).sub P.l0 (P.gr _ (ri_mem %[|5]))
      have g2:=gr_part P.l0 gA x.1;have g3:=g1.sub P.l0 g2;refine P.sz (n:=700) %[|4] (g3.mono ?_);have:=Nat.mul_le_mul_right (B+B) lA;omega
     have sw2:Sz 610 (j.w-tot (pre.map (·.2))):=by
      refine P.sz (n:=60) %[|4] ((gj.sub P.l0 gt).mono %[|5])
     have sx:Sz 610 x.2:=szp gm2;have rs:=room_set (P:=A++pre) hx;have rr:=room_ri (P:=A++pre) hx;have rl:=room_len (stepsOf r') (A++pre);rw[rr] at rs;rw[show sh x=.tup [.int (x.1:Int),nm x.2] from rfl];sleep 8;sleep 7;refine lst_ix l5 (at_nat (rw_at %[|5])) ?_;rw[rr];refine⟨_,_,rfl,.mk sr sx %[|4],?_⟩;sleep 8;refine⟨_,l5,x.1,by simp[L2.ixN];omega,?_⟩;rw[<- List.map_set,rs];sleep 7;refine⟨_,_,rfl,.mk sw2 sx %[|4],?_⟩;refine hN2 _ _ ⟨some (.int (x.1:Int)),some (nm x.2),MExt.upd_new np x5,by rw[<- List.append_assoc];exact mupd_same,?_⟩;have e:j.w-(tot (pre.map (·.2))+tot ([x].map (·.2)))=j.w-tot (pre.map (·.2))-x.2:=by
      rw[show [x].map (·.2)=[x.2] from rfl,tot_cons,show tot []=0 from rfl];grind
     rw[e]
   sleep 8;refine tix hf ?_;rw[show sh f=.tup [.int (f.1:Int),nm f.2] from rfl];refine tix (at_zero _ _) (tix (at_zero _ _) ?_)
   (try dsimp only)
   rw[if_neg (by split<;>omega)];refine tix hg ?_;rw[show sh g=.tup [.int (g.1:Int),nm g.2] from rfl];refine tix (at_zero _ _) (tix (at_one _ _ _) ?_)
   (try dsimp only)
   rw[if_neg %[|5]];exact t2
 sleep 8;refine eq_int true ?_;simp[pl'];refine comp_mapG (ptL js r) shT (fun _=>.bl true) ?_ %[|5] ?_ ?_
 ·intro R' r'
  sleep 30;exact r' _ fun _ _=>trivial
 ·intro xs hx l M' R' hl' e r'
  obtain⟨u,rfl⟩:=len1 hl';obtain⟨i,hi,rfl⟩:=List.mem_map.mp hx;have hi:=List.mem_range.mp hi;sleep 8;refine⟨_,rfl,P.ne hi,P.shlen i,fun x hx=>⟨(P.within hi x hx).2.2.1,(szp (P.gsh x hx)).mono %[|4]⟩,shL_rise _ _ _ _,fun M'' x''=>?_⟩;exact r' [_] M'' rfl x''
 intro p1 M1 e1 x1 l1;refine all_of (f:=fun _=>true) l1 ?_;rw[show ((ptL js r).all fun _=>true)=true by simp];simp;exact t1 M1 x1
noncomputable def shO (s:Nat×Rat):Sh:=.ok s.1 s.2
theorem shO_D (xs:List (Nat×Rat)):shTD (xs.map shO)=shT xs:=by
 unfold shTD shT;rw[List.map_map];rfl
theorem shO_P (xs:List (Nat×Rat)):(xs.map shO).map shP=xs:=by
 rw[List.map_map];have:shP ∘ shO=id:=rfl;rw[this,List.map_id]
inductive Spoil (s:Nat×Rat):Sh->Prop
 | more:Spoil s (.ok s.1 (s.2+Rat.divInt 1 2))
 | later:Spoil s (.ok (s.1+1) s.2)
 | none:Spoil s (.ok s.1 0)
 | lst (p:Addr):Spoil s (.lst p)
 | tri:Spoil s (.tri s.1 s.2)
noncomputable def put1 (xs:List (Nat×Rat)) (m:Nat) (x:Sh):List Sh:=(xs.take m).map shO++(x::(xs.drop (m+1)).map shO)
noncomputable def put2 (xss:List (List (Nat×Rat))) (i m:Nat) (x:Sh):List (List Sh):=(xss.take i).map (fun ys=>ys.map shO)++(put1 (xss.getD i []) m x::(xss.drop (i+1)).map fun ys=>ys.map shO)
theorem split_at {α:Type} {xs:List α} {m:Nat} {d:α} (h:m<xs.length):xs=xs.take m++(xs.getD m d::xs.drop (m+1)):=by
 have e:xs.getD m d=xs[m]:=by simp[List.getD,h]
 rw[e,<- List.drop_eq_getElem_cons h,List.take_append_drop]
theorem half_pos:(0:Rat)<Rat.divInt 1 2:=by decide +kernel
section
variable {js:List Jb} {r:List Rat} {L B:Nat}
theorem Pj.spoilt (P:Pj js r L B) {i m:Nat} {x:Sh} (hi:i<js.length) (hm:m<(shI js r i).length) (S:Spoil ((shI js r i).getD m (0,0)) x):doneB js (stepsOf r) (put2 (ptL js r) i m x)=false:=by
 have ln:=P.len;have sl:=steps_len r;have pl':(ptL js r).length=js.length:=by simp[ptL]
 have pi:(ptL js r).getD i []=shI js r i:=by simp[ptL,List.getD,hi]
 have spl:=split_at (xs:=shI js r i) (d:=(0,0)) hm;have sm:(shI js r i).getD m (0,0)∈shI js r i:=by
  have e:(shI js r i).getD m (0,0)=(shI js r i)[m]:=by simp[List.getD,hm]
  rw[e];exact List.getElem_mem hm
 obtain⟨w1,w2,w3,w4⟩:=P.within hi _ sm;have wk:=P.work hi;cases hd:doneB js (stepsOf r) (put2 (ptL js r) i m x) with
 | false=>rfl
 | true =>
  exfalso;unfold doneB at hd;rw[Bool.and_eq_true] at hd;obtain⟨d1,d2⟩:=hd;have bad:doesB js[i] (put1 (shI js r i) m x)=true:=by
   have hz:(js[i],put1 (shI js r i) m x)∈List.zip js (put2 (ptL js r) i m x):=by
    have e:(put2 (ptL js r) i m x)[i]?=some (put1 (shI js r i) m x):=by
     unfold put2;rw[List.getElem?_append_right (by simp;omega)];simp only[List.length_map,List.length_take,pl',Nat.min_eq_left (Nat.le_of_lt hi),Nat.sub_self,List.getElem?_cons_zero,pi]
    exact List.mem_of_getElem? (i:=i) (List.getElem?_zip_eq_some.mpr ⟨by simp[hi],e⟩)
   exact List.all_eq_true.mp d1 _ hz
  unfold doesB at bad;simp only[Bool.and_eq_true,decide_eq_true_eq] at bad;obtain⟨⟨b1,b2⟩,b3⟩:=bad;have gx:shG x=true:=List.all_eq_true.mp b1 x (by unfold put1;simp);have tq:∀ ys:List (Nat×Rat),(ys.map shO).map (fun x=>(shP x).2)=ys.map (·.2):=fun ys=>by rw[List.map_map];rfl
  generalize hs:(shI js r i).getD m (0,0)=s at *;have tw:tot (((shI js r i).take m).map (·.2))+(s.2+tot (((shI js r i).drop (m+1)).map (·.2)))=js[i].w:=by
   rw[<- wk]
   conv=>rhs;rw[spl]
   rw[List.map_append,tot_append,List.map_cons,tot_cons]
  cases S with
  | more =>
   unfold put1 at b3;rw[List.map_append,tot_append,List.map_cons,tot_cons,tq,tq] at b3;have e:(shP (.ok s.1 (s.2+Rat.divInt 1 2))).2=s.2+Rat.divInt 1 2:=rfl;rw[e] at b3;have:=half_pos;grind
  | none =>
   unfold shG at gx;rw[Bool.and_eq_true,decide_eq_true_eq] at gx;have:(shP (.ok s.1 0)).2=0:=rfl;rw[this] at gx;exact absurd gx.2 %[|4]
  | lst p=>cases gx
  | tri=>cases gx
  | later =>
   have h1:=of_decide_eq_true (List.all_eq_true.mp d2 s.1 (List.mem_range.mpr %[|5]));have h2:=P.hours w4;have fl:(put2 (ptL js r) i m (.ok (s.1+1) s.2)).flatten.map shP=((ptL js r).take i).flatten++((shI js r i).take m++((s.1+1,s.2)::(shI js r i).drop (m+1)))++((ptL js r).drop (i+1)).flatten:=by
    have fm:∀ yss:List (List (Nat×Rat)),(yss.map fun ys=>ys.map shO).flatten.map shP=yss.flatten:=fun yss=>by
     rw[<- List.map_flatten,shO_P]
    unfold put2 put1;rw[pi,List.flatten_append,List.flatten_cons,List.map_append,List.map_append,fm,fm,List.map_append,List.map_cons,shO_P,shO_P];simp[shP]
   have fo:(ptL js r).flatten=((ptL js r).take i).flatten++((shI js r i).take m++(s::(shI js r i).drop (m+1)))++((ptL js r).drop (i+1)).flatten:=by
    conv=>lhs;rw[split_at (xs:=ptL js r) (m:=i) (d:=[]) %[|5],pi]
    rw[List.flatten_append,List.flatten_cons]
    conv=>lhs;rw[spl]
    simp
   have pc:∀ (y:Nat×Rat) (ys:List (Nat×Rat)),partAt (y::ys) s.1=(if y.1=s.1 then y.2 else 0)+partAt ys s.1:=fun y ys=>by
    have:=partAt_app [y] ys s.1;rw[partAt_one] at this;exact this
   rw[fl,partAt_app,partAt_app,partAt_app,pc] at h1;rw[fo,partAt_app,partAt_app,partAt_app,pc] at h2;rw[if_neg (show ¬ (s.1+1,s.2).1=s.1 by simp)] at h1;rw[if_pos rfl] at h2;grind
theorem doneB_ok (P:Pj js r L B):doneB js (stepsOf r) ((ptL js r).map fun ys=>ys.map shO)=true:=by
 have ln:=P.len;have sl:=steps_len r;unfold doneB;rw[Bool.and_eq_true];constructor
 ·refine List.all_eq_true.mpr fun z hz=>?_
  obtain⟨i,hi,rfl⟩:=List.getElem_of_mem hz;rw[List.length_zip,List.length_map] at hi;have h1:i<js.length:=by omega
  have pe:(ptL js r)[i]'%[|5]=shI js r i:=by simp[ptL]
  rw[List.getElem_zip];dsimp only;rw[List.getElem_map,pe];have wi:=P.within h1;have ws:=P.work h1;unfold doesB;rw[Bool.and_eq_true,Bool.and_eq_true];refine⟨⟨List.all_eq_true.mpr fun x hx=>?_,?_⟩,?_⟩
  ·obtain⟨s,hs,rfl⟩:=List.mem_map.mp hx
   unfold shG;rw[Bool.and_eq_true];exact⟨rfl,decide_eq_true (wi s hs).2.2.1⟩
  ·rw[shO_P]
   have key:∀ (xs:List (Nat×Rat)) (l:Int),(∀ s∈xs,l<(s.1:Int)/\s.1<js[i].d)->(xs.Pairwise fun x y=>x.1<y.1)->riseB l js[i].d xs=true:=fun xs=>by
    induction xs with
    | nil=>intro _ _ _;rfl
    | cons s xs ih =>
     intro l h pw;obtain⟨p1,p2⟩:=List.pairwise_cons.mp pw;have a:=h s List.mem_cons_self;unfold riseB;rw[decide_eq_true a.1,decide_eq_true a.2,ih _ (fun t ht=>⟨by have:=p1 t ht;omega,(h t (List.mem_cons_of_mem _ ht)).2⟩) p2];rfl
   refine key _ _ (fun s hs=>⟨by have:=(wi s hs).1;omega,(wi s hs).2.1⟩) (shL_rise _ _ _ _)
  ·refine decide_eq_true ?_
   rw[List.map_map];exact ws
 ·refine List.all_eq_true.mpr fun h hh=>decide_eq_true ?_
  have hh:=List.mem_range.mp hh;rw[<- List.map_flatten,shO_P];exact P.hours %[|5]
end
theorem Dr.mext3 {a:Addr} {M M1 M2:Mem} (h:M a=none) (x:MExt M M1) (y:Dr a M1 M2):MExt M M2:=fun b o e=>by
 have:b≠a:=fun z=>by rw[z,h] at e;cases e
 exact y.keep b o this (x b o e)
theorem pw_add {js:List Jb} {j:Jb} (h:js.Pairwise fun i j=>i.a<=j.a/\i.d<=j.d) (hj:∀ i∈js,i.a<=j.a/\i.d<=j.d):(js++[j]).Pairwise fun i j=>i.a<=j.a/\i.d<=j.d:=by
 rw[List.pairwise_append];exact⟨h,by simp,fun x hx y hy=>by simp at hy;subst hy;exact hj x hx⟩
noncomputable def S_2:DSp:=fun ds M Q E=>∃ a m,ds=[.lst a,.int m]/\Pk M a/\1<=m/\m<=12/\∀ js M',Jobs 10 js->Dr a M M'->Q (jbs js) M'
noncomputable def C_2:CSs:=%[.set 2 (.lst .nil),.set 3 (.call "_law_take" S_0 %[.var 0,.int 4|0]),.set 4 (.int 0),.fr (.name 5) (.rng %[.bin .Add (.int 1) (.call "_law_take" S_0 %[.var 0,.var 1|0])|0]) %[.set 3 (.bi .min %[.int 23,.bin .Add (.var 3) (.call "_law_take" S_0 %[.var 0,.int 4|0])|0]),.set 4 (.bi .min %[.int 24,.bi .max %[.var 4,.bin .Add (.bin .Add (.var 3) (.int 1)) (.call "_law_take" S_0 %[.var 0,.int 6|0])|0]|0]),.expr (.app 2 (.tup %[.var 3,.var 4,.call "_law_low" S_1 %[.bin .Add (.int 1) (.call "_law_take" S_0 %[.var 0,.int 12|0]),.bin .Add (.int 1) (.call "_law_take" S_0 %[.var 0,.int 3|0])|0]|0]))|0],.ret (.bi .tuple %[.var 2|0])|0]
theorem vc_2:∀ ds M R E,S_2 ds M R E->rSs C_2 (ends R E) (startD 6 ds) M:=by
 rintro ds M R E ⟨a,m,rfl,pk,m1,m12,q⟩;unfold C_2;sleep 7;intro p0 M0 e0 x0 l0;have hpa:=pk.ne e0;sleep 7;refine take_ok (pk.ext x0) %[|4] %[|4] fun t M1 t0 t1 y1=>?_;obtain⟨t,rfl⟩:=Int.eq_ofNat_of_zero_le t0;sleep 7;sleep 9;refine take_ok y1.pk %[|5] (Nat.lt_of_lt_of_le (show m.natAbs<2 ^ 10 by omega) (pow_le %[|4])) fun n M2 n0 n1 y2=>?_;rw[l_addI]
 (try dsimp only)
 refine⟨by omega,by omega,?_⟩;refine forD_ix (fun i δ M'=>∃ (js:List Jb) (c d:Nat) (w5:Option DL.D),Dr a M M'/\M' p0=some (.ls (js.map jb))/\js.length=i/\(∀ j∈js,Job 10 j/\j.a<=c/\j.d<=d)/\(js.Pairwise fun i j=>i.a<=j.a/\i.d<=j.d)/\c<=23/\d<=24/\δ=[some (.lst a),some (.int m),some (.lst p0),some (.int (c:Int)),some (.int (d:Int)),w5]) (fun _ _ _ _=>trivial) ?_ ?_ ⟨[],t,0,_,(Dr.ext pk x0).trans (y1.trans y2),y2.keep _ _ hpa (y1.keep _ _ hpa l0),rfl,nofun,.nil,by omega,by decide,rfl⟩
 ·rintro δ M3 ⟨js,c,d,w5,y3,l3,jl,hj,pw,_,_,rfl⟩
  rw[rngD_len] at jl;sleep 7;refine⟨_,l3,q js M3 ⟨by omega,by omega,fun j h=>(hj j h).1,pw,by decide⟩ y3⟩
 ·rintro i z hz N hN δ M3 ⟨js,c,d,w5,y3,l3,jl,hj,pw,hc,hd,rfl⟩
  obtain⟨rfl,hi'⟩:=rngD_at hz;sleep 8;sleep 7;refine take_ok y3.pk %[|4] %[|4] fun u M4 u0 u1 y4=>?_;rw[l_addI];sleep 8;obtain⟨c',hc',cc,c23⟩:∃ c':Nat,(if (c:Int)+u<23 then (c:Int)+u else 23)=(c':Int)/\c<=c'/\c'<=23:=by
   obtain⟨u,rfl⟩:=Int.eq_ofNat_of_zero_le u0;split
   ·exact⟨c+u,by omega,by omega,by omega⟩
   ·exact⟨23,rfl,hc,by decide⟩
  rw[hc'];sleep 7;refine take_ok y4.pk %[|4] %[|4] fun v M5 v0 v1 y5=>?_;rw[l_addI];sleep 8;obtain⟨d',hd',dd,d24,cd⟩:∃ d':Nat,(if (if (d:Int)<(c':Int)+1+v then (c':Int)+1+v else (d:Int))<24 then (if (d:Int)<(c':Int)+1+v then (c':Int)+1+v else (d:Int)) else 24)=(d':Int)/\d<=d'/\d'<=24/\c'<d':=by
   obtain⟨v,rfl⟩:=Int.eq_ofNat_of_zero_le v0;by_cases h1:(d:Int)<(c':Int)+1+(v:Int)
   ·rw[if_pos h1]
    split
    ·exact⟨c'+1+v,by omega,by omega,by omega,by omega⟩
    ·exact⟨24,rfl,hd,by decide,by omega⟩
   ·rw[if_neg h1]
    split
    ·exact⟨d,rfl,by omega,by omega,by omega⟩
    ·exact⟨24,rfl,hd,by decide,by omega⟩
  rw[hd'];have l5:=y5.keep _ _ hpa (y4.keep _ _ hpa l3);sleep 7;refine⟨⟨_,l5⟩,?_⟩;refine take_ok y5.pk %[|4] %[|4] fun s M6 s0 s1 y6=>?_;rw[l_addI]
  (try dsimp only)
  refine take_ok y6.pk %[|4] %[|4] fun s' M7 s0' s1' y7=>?_;rw[l_addI];refine⟨_,_,rfl,by omega,lt8000 (Nat.lt_of_lt_of_le (show (1+s').natAbs<2 ^ 8 by omega) (pow_le %[|4])),?_⟩;have sw:Sz 10 (Rat.divInt (1+s) (1+s')):=sz_divInt (n:=10) %[|5] %[|5] %[|5];have w0:(0:Rat)<Rat.divInt (1+s) (1+s'):=by
   rw[Rat.divInt_eq_div];have a1:(0:Rat)<((1+s:Int):Rat):=by exact_mod_cast (show (0:Int)<1+s by omega)
   have a2:(0:Rat)<((1+s':Int):Rat):=by exact_mod_cast (show (0:Int)<1+s' by omega)
   rw[Rat.div_def];exact Rat.mul_pos a1 (Rat.inv_pos.mpr a2)
  generalize Rat.divInt (1+s) (1+s')=w at sw w0;have l7:=y7.keep _ _ hpa (y6.keep _ _ hpa l5);sleep 8;refine⟨_,l7,by rw[List.length_map];omega,?_⟩;refine hN _ _ ⟨js++[⟨c',d',w⟩],c',d',_,(y3.trans (y4.trans (y5.trans (y6.trans y7)))).upd_new e0 hpa,?_,by simp;omega,?_,?_,c23,d24,rfl⟩
  ·rw[mupd_same,List.map_append];rfl
  ·intro j hj'
   rcases List.mem_append.mp hj' with h|h
   ·obtain⟨h1,h2,h3⟩:=hj j h
    exact⟨h1,by omega,by omega⟩
   ·simp at h;subst h
    exact⟨⟨cd,d24,w0,sw⟩,Nat.le_refl _,Nat.le_refl _⟩
  ·exact pw_add pw fun i hi=>by obtain⟨h1,h2,h3⟩:=hj i hi;exact⟨Nat.le_trans h2 cc,Nat.le_trans h3 dd⟩
theorem grt_num {c e:Int} (c0:0<=c) (c1:c<1000000000) (e0:0<=e) (e1:e<1000000):0<Rat.divInt (1+c) (1+e)/\Sz 31 (Rat.divInt (1+c) (1+e)):=by
 refine⟨?_,sz_divInt (n:=31) %[|5] %[|5] %[|5]⟩;rw[Rat.divInt_eq_div];have a1:(0:Rat)<((1+c:Int):Rat):=by exact_mod_cast (show (0:Int)<1+c by omega)
 have a2:(0:Rat)<((1+e:Int):Rat):=by exact_mod_cast (show (0:Int)<1+e by omega)
 rw[Rat.div_def];exact Rat.mul_pos a1 (Rat.inv_pos.mpr a2)
noncomputable def S_50:DSp:=fun ds M Q E=>∃ (ns:List Int) (k:Int),ds=[.fz (ns.map .int),.int k]/\Script ns/\0<=k/\k<=100/\∀ js M',Jobs 31 js->MExt M M'->Q (jbs js) M'
noncomputable def C_50:CSs:=%[.set 2 (.lst .nil),.fr (.name 3) (.rng %[.bin .Add (.int 2) (.call "_law_take" S_0 %[.call "_law_pack" S_49 %[.var 0,.var 1|0],.int 11|0])|0]) %[.set 4 (.call "_law_pack" S_49 %[.var 0,.bin .Add (.bin .Add (.var 1) (.int 1)) (.var 3)|0]),.set 5 (.call "_law_low" S_1 %[.bin .Add (.int 1) (.call "_law_take" S_0 %[.var 4,.bin .Pow (.int 10) (.int 9)|0]),.bin .Add (.int 1) (.call "_law_take" S_0 %[.var 4,.bin .Pow (.int 10) (.int 6)|0])|0]),.expr (.app 2 (.tup %[.var 3,.bin .Add (.var 3) (.int 3),.var 5|0]))|0],.ret (.bi .tuple %[.var 2|0])|0]
theorem vc_50:∀ ds M R E,S_50 ds M R E->rSs C_50 (ends R E) (startD 6 ds) M:=by
 rintro ds M R E ⟨ns,k,rfl,hs,k0,k1,q⟩;unfold C_50;sleep 7;intro p0 M0 e0 x0 l0;sleep 9;refine⟨ns,k,rfl,hs,by omega,by omega,fun v a M1 e1 x1 l1=>?_⟩;refine take_ok ⟨v,l1⟩ %[|4] %[|4] fun n M2 n0 n1 y2=>?_;rw[l_addI]
 (try dsimp only)
 refine⟨by omega,by omega,?_⟩;have X2:MExt M0 M2:=y2.mext3 e1 x1;refine forD_ix (fun i δ M'=>∃ (js:List Jb) (w3 w4 w5:Option DL.D),MExt M M'/\M' p0=some (.ls (js.map jb))/\js.length=i/\(∀ j∈js,Job 31 j/\j.a<i/\j.d<i+3)/\(js.Pairwise fun i j=>i.a<=j.a/\i.d<=j.d)/\δ=[some (.fz (ns.map .int)),some (.int k),some (.lst p0),w3,w4,w5]) (fun _ _ _ _=>trivial) ?_ ?_ ⟨[],_,_,_,x0.trans X2,X2 _ _ l0,rfl,nofun,.nil,rfl⟩
 ·rintro δ M3 ⟨js,w3,w4,w5,x3,l3,jl,hj,pw,rfl⟩
  rw[rngD_len] at jl;sleep 7;exact⟨_,l3,q js M3 ⟨by omega,by omega,fun j h=>(hj j h).1,pw,by decide⟩ x3⟩
 ·rintro i z hz N hN δ M3 ⟨js,w3,w4,w5,x3,l3,jl,hj,pw,rfl⟩
  obtain⟨rfl,hi'⟩:=rngD_at hz;have hi:i<12:=by omega
  rw[show ((0:Int)+(i:Int)*1)=((i:Nat):Int) by omega];sleep 8;sleep 7;refine⟨ns,_,rfl,hs,by omega,by omega,fun v' b M4 e4 x4 l4=>?_⟩;have l34:=x4 _ _ l3;have hb:p0≠b:=fun z=>by rw[<- z,l3] at e4;cases e4
  have nb:M b=none:=MExt.none x3 e4;sleep 7;refine⟨⟨by decide,by decide,by decide⟩,?_⟩;refine take_ok ⟨v',l4⟩ %[|4] %[|4] fun c M5 c0 c1 y5=>?_;rw[l_addI]
  (try dsimp only)
  refine⟨⟨by decide,by decide,by decide⟩,?_⟩;refine take_ok y5.pk %[|4] %[|4] fun e M6 e0' e1' y6=>?_;rw[l_addI];refine⟨_,_,rfl,by omega,lt8000 (Nat.lt_of_lt_of_le (show (1+e).natAbs<2 ^ 21 by omega) (pow_le %[|4])),?_⟩;obtain⟨w0,sw⟩:=grt_num c0 c1 e0' e1';generalize Rat.divInt (1+c) (1+e)=w at w0 sw;have l6:=y6.keep _ _ hb (y5.keep _ _ hb l34);have x6:MExt M M6:=(y5.trans y6).mext3 nb (x3.trans x4);sleep 7;refine⟨⟨_,l6⟩,_,l6,by rw[List.length_map];omega,?_⟩;refine hN _ _ ⟨js++[⟨i,i+3,w⟩],_,_,_,MExt.upd_new e0 x6,?_,by simp;omega,?_,?_,rfl⟩
  ·rw[mupd_same,List.map_append]
   simp[jb]
  ·intro j hj'
   rcases List.mem_append.mp hj' with h|h
   ·obtain⟨h1,h2,h3⟩:=hj j h
    exact⟨h1,by omega,by omega⟩
   ·simp at h;subst h
    exact⟨⟨by show i<i+3;omega,by show i+3<=24;omega,w0,sw⟩,by show i<i+1;omega,by show i+3<i+1+3;omega⟩
  ·exact pw_add pw fun j hj'=>by obtain⟨h1,h2,h3⟩:=hj j hj';exact⟨by show j.a<=i;omega,by show j.d<=i+3;omega⟩
theorem compD_drawX {α:Type} {e:α->DL.D} {P:Nat->α->Prop} {g:DG} {te:DE} {keep:Mem->Prop} {p a:Addr} {Q:Mem->Prop} {M0:Mem} (pk0:Pk M0 a) (h0:M0 p=none) (I:DSt->Prop) (hk:∀ M,keep M) :
  ∀ {items:List DL.D} {acc:List α},(∀ i x,items[i]?=some x->∀ δ M (R:DSt->DK),I δ->Dr a M0 M->(∀ δ1 q M',I δ1->P (acc.length+i) q->Dr a M M'->R δ1 (e q) M')->g x δ M fun δ1 M1=>te δ1 M1 fun d M2=>R δ1 d M2) ->
  acc.length+items.length<=1000->(∀ i x,acc[i]?=some x->P i x)->(∀ (r:List α) M',r.length=acc.length+items.length->(∀ i x,r[i]?=some x->P i x)->Dr a M0 M'->M' p=some (.ls (r.map e))->Q M') ->
  ∀ {δ M},I δ->Dr a M0 M->M p=some (.ls (acc.map e))->compD g te keep p items (acc.map e) δ M Q
 | [],acc,_,_,hs,q,δ,M,i,y,l=>by unfold compD;exact q acc M rfl hs y l
 | x::xs,acc,h,hz,hs,q,δ,M,i,y,l=>by
  have hpa:=pk0.ne h0;unfold compD;refine h 0 x rfl δ M (fun δ1 d M2=>M2 p=some (.ls (acc.map e))/\(acc.map e).length<sizeLine/\keep (M2.upd p (.ls (acc.map e++[d])))/\compD g te keep p xs (acc.map e++[d]) δ1 (M2.upd p (.ls (acc.map e++[d]))) Q) i y fun δ1 q' M' i' sq y'=>?_;have e':acc.map e++[e q']=(acc++[q']).map e:=by simp
  rw[e'];refine⟨y'.keep _ _ hpa l,?_,hk _,compD_drawX pk0 h0 I hk (fun j z hz' δ2 M2 R2 hi2 y2 r2=>h (j+1) z (by simpa using hz') δ2 M2 R2 hi2 y2 fun δ3 q3 M3 i3 p3 y3=>r2 δ3 q3 M3 i3 (by rw[List.length_append];simpa[Nat.add_assoc,Nat.add_comm 1 j] using p3) y3) (by simp at hz ⊢;omega) ?_ (fun r M2 hr=>q r M2 (by simp at hr ⊢;omega)) i' ((y.trans y').upd_new h0 hpa) mupd_same⟩
  ·rw[sizeLine_eq,List.length_map];simp at hz;omega
  ·intro j z hz'
   rcases Nat.lt_or_ge j acc.length with c|c
   ·rw[List.getElem?_append_left c] at hz'
    exact hs j z hz'
   ·rw[List.getElem?_append_right c] at hz'
    have:j-acc.length=0:=by
     rcases Nat.eq_zero_or_pos (j-acc.length) with h|h
     ·exact h
     ·rw[List.getElem?_eq_none (by simp;omega)] at hz';cases hz'
    rw[this] at hz';simp at hz';subst hz';have:j=acc.length+0:=by omega
    rw[this];exact sq
theorem comp_drawX {α:Type} (e:α->DL.D) (P:Nat->α->Prop) {te:DE} {a:Addr} {δ:DSt} {M:Mem} {Q:DK} {ti:DI} {n:Nat} (items:List DL.D) (hn:δ.length=n) (hi:items.length<=1000) (pk:Pk M a) (hti:∀ R:List DL.D->(Mem->Prop)->Mem->Prop,R items (fun _=>True) M->ti δ M R)
  (hel:∀ i x,items[i]?=some x->∀ M' (R:DK),Dr a M M'->(∀ q M'',P i q->Dr a M' M''->R (e q) M'')->te (δ++[some x]) M' R)
  (hq:∀ (r:List α) p M',r.length=items.length->(∀ i x,r[i]?=some x->P i x)->Dr a M M'->M p=none->M' p=some (.ls (r.map e))->Q (.lst p) M'):dComp 1 ti (gdName n) te δ M Q:=by
 refine hti _ fun p hp=>⟨trivial,?_⟩;refine compD_drawX (e:=e) (P:=P) (acc:=[]) pk hp (fun δ'=>∃ x,δ'=δ++[x]) (fun _=>trivial) ?_ (by simpa using hi) (fun i x h=>by simp at h) ?_ ⟨none,rfl⟩ ((⟨pk,fun _ _ _ e=>e⟩:Dr a M M).upd_new hp (pk.ne hp)) mupd_same
 ·rintro i x hx δ' M' R ⟨y,rfl⟩ y' r
  show te ((δ++[y]).set n (some x)) M' _;rw[show (δ++[y]).set n (some x)=δ++[some x] by subst hn;simp];exact hel i x hx M' _ y' fun q M'' sq yy=>r _ q M'' ⟨_,rfl⟩ (by simpa using sq) yy
 ·intro r M' hr hs y l
  exact⟨⟨_,l⟩,hq r p M' (by simpa using hr) hs y hp l⟩
noncomputable def S_34:DSp:=fun ds M Q E=>∃ (a:Addr) (xss:List (List (Nat×Rat))),ds=[.lst a,.tup (xss.map shT)]/\Pk M a/\1<=xss.length/\xss.length<=12/\(∀ xs∈xss,xs≠[]/\xs.length<=24/\∀ x∈xs,Sz 700 x.2)/\∀ i m x M',i<xss.length->m<(xss.getD i []).length->Spoil ((xss.getD i []).getD m (0,0)) x->ShOk M' x->Dr a M M'->Q (.tup ((put2 xss i m x).map shTD)) M'
noncomputable def C_34:CSs:=%[.set 2 (.call "_law_take" S_0 %[.var 0,.bi .len %[.var 1|0]|0]),.set 3 (.call "_law_take" S_0 %[.var 0,.bi .len %[.ix (.var 1) (.var 2)|0]|0]),.asg (.tup %[.name 4,.name 5|0]) (.ix (.ix (.var 1) (.var 2)) (.var 3)),.set 6 (.lst %[.tup %[.var 4,.call "_law_more" S_33 %[.var 5,.tup %[.int 1,.int 2|0]|0]|0],.tup %[.bin .Add (.var 4) (.int 1),.var 5|0],.tup %[.var 4,.tup %[.int 0,.int 1|0]|0],.lst %[.var 4,.var 5|0]|0]),.expr (.app 6 (.tup %[.var 4,.var 5,.int 0|0])),.set 7 (.bin .Add (.bin .Add (.sl (.ix (.var 1) (.var 2)) .none (.some (.var 3))) (.tup %[.ix (.var 6) (.call "_law_take" S_0 %[.var 0,.int 5|0])|0])) (.sl (.ix (.var 1) (.var 2)) (.some (.bin .Add (.var 3) (.int 1))) .none)),.ret (.bin .Add (.bin .Add (.sl (.var 1) .none (.some (.var 2))) (.tup %[.var 7|0])) (.sl (.var 1) (.some (.bin .Add (.var 2) (.int 1))) .none))|0]
theorem vc_34:∀ ds M R E,S_34 ds M R E->rSs C_34 (ends R E) (startD 8 ds) M:=by
 rintro ds M R E ⟨a,xss,rfl,pk,l1,l12,hx,q⟩;unfold C_34;sleep 7;refine take_ok pk %[|5] (Nat.lt_of_lt_of_le (show (xss.length:Int).natAbs<2 ^ 6 by omega) (pow_le %[|4])) fun i M1 i0 i1 y1=>?_;obtain⟨i,rfl⟩:=Int.eq_ofNat_of_zero_le i0;have hi:i<xss.length:=by omega
 have at1:(xss.map shT)[i]?=some (shT (xss.getD i [])):=by simp[List.getD,hi]
 have mi:xss.getD i []∈xss:=by
  have e:xss.getD i []=xss[i]:=by simp[List.getD,hi]
  rw[e];exact List.getElem_mem hi
 obtain⟨ne,few,sz⟩:=hx _ mi;have q:=fun m x M'=>q i m x M' hi;have pe:∀ m x,(put2 xss i m x).map shTD=(xss.take i).map shT++(shTD (put1 (xss.getD i []) m x)::(xss.drop (i+1)).map shT):=fun m x=>by
  unfold put2;rw[List.map_append,List.map_cons,List.map_map,List.map_map];have:shTD ∘ (fun ys=>ys.map shO)=shT:=funext shO_D;rw[this]
 sleep 7;generalize xss.getD i []=xs at *;have ln:1<=xs.length:=List.length_pos_iff.mpr ne;refine tix (at_nat at1) ?_;rw[show shT xs=.tup (xs.map sh) from rfl] at at1 ⊢;sleep 8;refine take_ok y1.pk %[|5] (Nat.lt_of_lt_of_le (show ((xs.length:Nat):Int).natAbs<2 ^ 6 by omega) (pow_le %[|4])) fun m M2 m0 m1 y2=>?_;obtain⟨m,rfl⟩:=Int.eq_ofNat_of_zero_le m0;have hm:m<xs.length:=by omega
 have at2:(xs.map sh)[m]?=some (sh (xs.getD m (0,0))):=by simp[List.getD,hm]
 have mm:xs.getD m (0,0)∈xs:=by
  have e:xs.getD m (0,0)=xs[m]:=by simp[List.getD,hm]
  rw[e];exact List.getElem_mem hm
 have q:=fun x M'=>q m x M' hm;have pe:=fun x=>pe m x;have p1:∀ x,shTD (put1 xs m x)=.tup ((xs.take m).map sh++(shD x::(xs.drop (m+1)).map sh)):=fun x=>by
  unfold put1 shTD;rw[List.map_append,List.map_cons,List.map_map,List.map_map];have:shD ∘ shO=sh:=rfl;rw[this]
 have ss:=sz _ mm;generalize xs.getD m (0,0)=s at *;have d2:=y1.trans y2;sleep 7;refine tix (at_nat at1) ?_;refine tix (at_nat at2) ?_;rw[show sh s=.tup [.int (s.1:Int),nm s.2] from rfl];sleep 8;have e12:D.tup [D.int 1,D.int 2]=nm (Rat.divInt 1 2):=nm_pair %[|4] %[|4];sleep 7;rw[e12];refine⟨_,_,rfl,.mk ss (show Sz 3 (Rat.divInt 1 2) from ⟨by decide +kernel,by decide +kernel⟩) %[|4],?_⟩
 (try dsimp only)
 intro p6 M6 e6 x6 l6;intro p7 M7 e7 x7 l7;have n67:p6≠p7:=fun z=>by rw[<- z,l6] at e7;cases e7
 have n7:M p7=none:=by
  have h6:M2 p7=none:=MExt.none x6 e7;cases h:M p7 with
  | none=>rfl
  | some o=>have:=d2.keep _ _ (d2.pk.ne h6) h;rw[h6] at this;cases this
 have d7:Dr a M M7:=d2.trans (Dr.ext d2.pk (x6.trans x7));have pa7:p7≠a:=(d2.pk.ext x6).ne e7;have l67:=x7 _ _ l6;sleep 7;refine⟨⟨_,l7⟩,_,l7,by simp,?_⟩;have l8:(M7.upd p7 (.ls ([D.tup [.int (s.1:Int),nm (s.2+Rat.divInt 1 2)],D.tup [.int ((s.1:Int)+1),nm s.2],D.tup [.int (s.1:Int),D.tup [.int 0,.int 1]],.lst p6]++[D.tup [.int (s.1:Int),nm s.2,.int 0]]))) p7=some (.ls [D.tup [.int (s.1:Int),nm (s.2+Rat.divInt 1 2)],D.tup [.int ((s.1:Int)+1),nm s.2],D.tup [.int (s.1:Int),D.tup [.int 0,.int 1]],.lst p6,D.tup [.int (s.1:Int),nm s.2,.int 0]]):=mupd_same;have l68:(M7.upd p7 (.ls ([D.tup [.int (s.1:Int),nm (s.2+Rat.divInt 1 2)],D.tup [.int ((s.1:Int)+1),nm s.2],D.tup [.int (s.1:Int),D.tup [.int 0,.int 1]],.lst p6]++[D.tup [.int (s.1:Int),nm s.2,.int 0]]))) p6=some (.ls [.int (s.1:Int),nm s.2]):=by rw[mupd_ne n67];exact l67
 have d8:Dr a M (M7.upd p7 (.ls ([D.tup [.int (s.1:Int),nm (s.2+Rat.divInt 1 2)],D.tup [.int ((s.1:Int)+1),nm s.2],D.tup [.int (s.1:Int),D.tup [.int 0,.int 1]],.lst p6]++[D.tup [.int (s.1:Int),nm s.2,.int 0]]))):=d7.upd_new n7 pa7;show rSs _ _ _ (M7.upd p7 (.ls ([D.tup [.int (s.1:Int),nm (s.2+Rat.divInt 1 2)],D.tup [.int ((s.1:Int)+1),nm s.2],D.tup [.int (s.1:Int),D.tup [.int 0,.int 1]],.lst p6]++[D.tup [.int (s.1:Int),nm s.2,.int 0]])));generalize M7.upd p7 (.ls ([D.tup [.int (s.1:Int),nm (s.2+Rat.divInt 1 2)],D.tup [.int ((s.1:Int)+1),nm s.2],D.tup [.int (s.1:Int),D.tup [.int 0,.int 1]],.lst p6]++[D.tup [.int (s.1:Int),nm s.2,.int 0]]))=M8 at *;sleep 7;refine tix (at_nat at1) ?_;sleep 8;refine take_ok d8.pk %[|4] %[|4] fun n M9 n0 n1 y9=>?_;have pa6:p6≠a:=d2.pk.ne e6;obtain⟨x,hx',hv,ho⟩:∃ x,Spoil s x/\L2.atI [D.tup [.int (s.1:Int),nm (s.2+Rat.divInt 1 2)],D.tup [.int ((s.1:Int)+1),nm s.2],D.tup [.int (s.1:Int),D.tup [.int 0,.int 1]],.lst p6,D.tup [.int (s.1:Int),nm s.2,.int 0]] n=some (shD x)/\ShOk M9 x:=by
  rcases (by omega:n=0\/n=1\/n=2\/n=3\/n=4) with rfl|rfl|rfl|rfl|rfl
  ·exact⟨_,.more,at_zero _ _,trivial⟩
  ·exact⟨_,.later,by rw[at_one];rfl,trivial⟩
  ·exact⟨_,.none,rfl,trivial⟩
  ·exact⟨_,.lst p6,rfl,⟨_,y9.keep _ _ pa6 l68⟩⟩
  ·exact⟨_,.tri,rfl,trivial⟩
 refine lst_ix (y9.keep _ _ pa7 l8) hv ?_;have c1:=cutG_len (xs.map sh) none (some (m:Int));have c2:=cutG_len (xs.map sh) (some ((m:Int)+1)) none;have c3:=cutG_len (xss.map shT) none (some (i:Int));have c4:=cutG_len (xss.map shT) (some ((i:Int)+1)) none;rw[List.length_map] at c1 c2 c3 c4;refine⟨by omega,tix (at_nat at1) ?_⟩;simp;refine⟨by rw[sizeLine_eq];omega,?_⟩;sleep 7;refine⟨by omega,by omega,?_⟩;have:=q x M9 hx' ho (d8.trans y9);rw[pe,p1] at this;rw[cut_hi _ _ (by simp;omega),show ((m:Int)+1)=((m+1:Nat):Int) by omega,cut_lo _ _ (by simp;omega),cut_hi _ _ (by simp;omega),show ((i:Int)+1)=((i+1:Nat):Int) by omega,cut_lo _ _ (by simp;omega)];rw[List.map_take,List.map_drop,List.map_take,List.map_drop] at this;exact this
noncomputable def S_47:DSp:=fun ds M Q E=>∃ js k a,ds=[jbs js,.lst a]/\Jobs k js/\Pk M a/\∀ M',Dr a M M'->Q (.bl true) M'
noncomputable def C_47:CSs:=%[.set 2 (.call "parts" S_44 %[.var 0|0]),.ife (.or (.not (.call "_law_all_right" S_32 %[.var 0,.var 2|0])) (.one (.cmp .NotEq (.call "parts" S_44 %[.var 0|0]) (.var 2)))) %[.ret (.bl false)|0] .nil,.ife (.cmp .IsNot (.call "holds" S_46 %[.tup %[.str "done",.var 0,.call "speeds" S_29 %[.var 0|0],.var 2|0],.non|0]) (.bl true)) %[.ret (.bl false)|0] .nil,.ret (.cmp .Is (.call "holds" S_46 %[.tup %[.str "done",.var 0,.call "speeds" S_29 %[.var 0|0],.call "_law_spoilt" S_34 %[.var 1,.var 2|0]|0],.non|0]) (.bl false))|0]
theorem vc_47:∀ ds M R E,S_47 ds M R E->rSs C_47 (ends R E) (startD 3 ds) M:=by
 rintro ds M R E ⟨js,k,a,rfl,J,pk,q⟩;have l1:=J.last1;have tl:=jobT_len js;have h12:=J.most;have one:=J.one;unfold C_47;sleep 7;refine⟨js,k,rfl,J,fun r M1 T x1=>?_⟩;have un:∀ {r'},Told (jobT js) 500 r'->r'=r:=fun T'=>T'.unique T %[|5];obtain⟨L,B,P⟩:=J.pj T;have ln:=P.len;have sl:=steps_len r;have pl':(ptL js r).length=js.length:=by simp[ptL]
 have sz2:∀ {x:Rat},Gr L (B+B) x->Sz 700 x:=fun h=>(P.sz (n:=2) %[|4] (by rw[Nat.two_mul];exact h)).mono %[|4];have ss:∀ x∈stepsOf r,Sz 700 x:=fun x hx=>sz2 (steps_gr P.l0 P.gr x hx);have shs:∀ xs∈ptL js r,xs≠[]/\xs.length<=24/\∀ x∈xs,Gr L (B+B) x.2:=fun xs hx=>by
  obtain⟨i,hi,rfl⟩:=List.mem_map.mp hx;exact⟨P.ne (List.mem_range.mp hi),P.shlen i,P.gsh⟩
 have l20:0<L*2:=by have:=P.l0;omega
 have l2L:L*2<2 ^ 690:=Nat.lt_of_lt_of_le (Nat.mul_lt_mul_of_pos_right P.hL %[|4]) (by decide +kernel);have l2B:1000*(4*B+2*L)<2 ^ 690:=by
  have a1:=P.hL;have a2:=P.hB;refine Nat.lt_of_lt_of_le (Nat.mul_lt_mul_of_pos_left (show 4*B+2*L<6*2 ^ 600 by omega) %[|4]) (by decide +kernel)
 have up:∀ {x:Rat},Gr L (B+B) x->Gr (L*2) (4*B+2*L) x:=fun h=>(h.up P.l0 (W:=2) %[|4]).mono %[|5];have hf:Gr (L*2) (2*L) (Rat.divInt 1 2):=gr_divInt %[|4] (by exact Nat.dvd_mul_left _ _) l20 (by simp;omega);have okO:∀ M (ys:List (Nat×Rat)),ys.length<=24->(∀ x∈ys,Gr L (B+B) x.2)->ShsOk M (ys.map shO) (L*2) (4*B+2*L):=fun M ys hl hg=>by
  refine⟨by rw[List.length_map];exact hl,fun x hx=>?_,fun x hx=>?_,l20,l2L,l2B⟩
  ·obtain⟨s,_,rfl⟩:=List.mem_map.mp hx;trivial
  ·obtain⟨s,hs,rfl⟩:=List.mem_map.mp hx
   exact up (hg s hs)
 have eO:(ptL js r).map shT=((ptL js r).map fun ys=>ys.map shO).map shTD:=by
  rw[List.map_map];exact List.map_congr_left fun ys _=>(shO_D ys).symm
 refine nx_gen fun K1 hK1=>?_;have t1:∀ M',MExt M M'->K1 [some (jbs js),some (.lst a),some (.tup ((ptL js r).map shT))] M':=by
  intro M2 x2;refine hK1 _ _ ?_;refine nx_gen fun K2 hK2=>?_;have t2:∀ M',MExt M M'->K2 [some (jbs js),some (.lst a),some (.tup ((ptL js r).map shT))] M':=by
   intro M3 x3;refine hK2 _ _ ?_;sleep 7;refine⟨js,k,rfl,J,fun r4 M4 T4 x4=>?_⟩;obtain rfl:=un T4;refine⟨a,ptL js r4,rfl,pk.ext (x3.trans x4),by omega,by omega,fun xs hx=>?_,fun i m x M5 hi hm S ho y5=>?_⟩
   ·obtain⟨b1,b2,b3⟩:=shs xs hx
    exact⟨b1,b2,fun x hx=>sz2 (b3 x hx)⟩
   have hi':i<js.length:=by omega
   have pi:(ptL js r4).getD i []=shI js r4 i:=by simp[ptL,List.getD,hi']
   rw[pi] at hm S;refine⟨js,k,stepsOf r4,put2 (ptL js r4) i m x,L*2,4*B+2*L,rfl,J,by omega,ss,?_,l20,l2L,l2B,?_,fun M6 x6=>?_⟩
   ·unfold put2;simp;omega
   ·intro ys hy
    unfold put2 at hy;rw[pi] at hy;rcases List.mem_append.mp hy with hy|hy
    ·obtain⟨zs,hz,rfl⟩:=List.mem_map.mp hy
     obtain⟨b1,b2,b3⟩:=shs zs (List.mem_of_mem_take hz);exact okO _ _ b2 b3
    ·rcases List.mem_cons.mp hy with rfl|hy
     ·have few:=P.shlen i
      have g0:=P.gsh (i:=i);have gm:(shI js r4 i).getD m (0,0)∈shI js r4 i:=by
       have e:(shI js r4 i).getD m (0,0)=(shI js r4 i)[m]:=by simp[List.getD,hm]
       rw[e];exact List.getElem_mem hm
      have gs:=g0 _ gm;generalize (shI js r4 i).getD m (0,0)=s at *;refine⟨by unfold put1;simp;omega,fun y hy=>?_,fun y hy=>?_,l20,l2L,l2B⟩
      ·unfold put1 at hy
       rcases List.mem_append.mp hy with h|h
       ·obtain⟨s,_,rfl⟩:=List.mem_map.mp h;trivial
       ·rcases List.mem_cons.mp h with rfl|h
        ·exact ho
        ·obtain⟨s,_,rfl⟩:=List.mem_map.mp h;trivial
      ·unfold put1 at hy
       rcases List.mem_append.mp hy with h|h
       ·obtain⟨s,hs,rfl⟩:=List.mem_map.mp h;exact up (g0 s (List.mem_of_mem_take hs))
       ·rcases List.mem_cons.mp h with rfl|h
        ·cases S with
         | more=>exact ((gs.up P.l0 (W:=2) %[|4]).add l20 hf).mono %[|5]
         | later=>exact up gs
         | none=>exact .zero
         | lst p=>exact .zero
         | tri=>exact .zero
        ·obtain⟨s,hs,rfl⟩:=List.mem_map.mp h;exact up (g0 s (List.mem_of_mem_drop hs))
     ·obtain⟨zs,hz,rfl⟩:=List.mem_map.mp hy
      obtain⟨b1,b2,b3⟩:=shs zs (List.mem_of_mem_drop hz);exact okO _ _ b2 b3
   ·rw[P.spoilt hi' hm S]
    (try dsimp only)
    rw[l_ctt];exact q M6 ((Dr.ext pk (x3.trans x4)).trans (y5.trans (Dr.ext y5.pk x6)))
  sleep 8;refine⟨js,k,rfl,J,fun r4 M4 T4 x4=>?_⟩;obtain rfl:=un T4;rw[eO];refine⟨js,k,stepsOf r4,(ptL js r4).map fun ys=>ys.map shO,L*2,4*B+2*L,rfl,J,by omega,ss,by rw[List.length_map];omega,l20,l2L,l2B,fun ys hy=>?_,fun M5 x5=>?_⟩
  ·obtain⟨zs,hz,rfl⟩:=List.mem_map.mp hy
   obtain⟨b1,b2,b3⟩:=shs zs hz;exact okO _ _ b2 b3
  rw[doneB_ok P];have z:=t2 M5 (x2.trans (x4.trans x5));rw[eO] at z;generalize ((ptL js r4).map fun ys=>ys.map shO).map shTD=pp at *;simp;exact z
 sleep 8;refine⟨js,k,r,rfl,J,T,fun M2 x2=>?_⟩;simp;refine⟨js,k,rfl,J,fun r3 M3 T3 x3=>?_⟩;obtain rfl:=un T3;refine enc_pts.eq %[|4] true ?_;simp;exact t1 M3 (x1.trans (x2.trans x3))
noncomputable def C_51:CSs:=%[.fr (.name 1) (.rng %[.int 0,.bi .max %[.int 1,.bi .min %[.bi .len %[.var 0|0],.int 10|0]|0],.int 2|0]) %[.ife (.not (.call "_law_right" S_47 %[.call "_law_jobs" S_2 %[.call "_law_pack" S_49 %[.var 0,.var 1|0],.int 12|0],.call "_law_pack" S_49 %[.var 0,.bin .Add (.var 1) (.int 10)|0]|0])) %[.ret (.bl false)|0] .nil|0],.set 2 (.call "_law_pack" S_49 %[.var 0,.int 20|0]),.set 3 (.bi .tuple %[.comp ["_law_script","_law_k","_law_pack_here","_law_great","_law_at"] 1 (.name 4) (.rng %[.int 12|0]) (.tup %[.var 4,.bin .Add (.int 13) (.var 4),.tup %[.bin .Add (.int 1) (.call "_law_take" S_0 %[.var 2,.int 40|0]),.int 1|0]|0])|0]),.ret (.and (.call "_law_right" S_47 %[.var 3,.var 2|0]) (.one (.call "_law_right" S_47 %[.call "_law_great_jobs" S_50 %[.var 0,.int 22|0],.var 2|0])))|0]
theorem vc_51:∀ ds M R E,SLaw ds M R E->rSs C_51 (ends R E) (startD 4 ds) M:=by
 rintro ds M R E ⟨ns,rfl,hs,q⟩;unfold C_51;sleep 9;obtain⟨z,hz,hc,e⟩:=law_top 10 ns.length %[|4] %[|4];rw[e];obtain⟨r1,r2,r3⟩:=rng_small z hz;refine⟨divOk_small %[|4] (lt8000 %[|4]),r1,r2,?_⟩;refine forD_inv (fun δ M'=>∃ w1,δ=[some (.fz (ns.map .int)),w1,none,none]) (fun _ _ _=>trivial) ?_ ?_ ⟨_,rfl⟩
 ·rintro δ M1 ⟨w1,rfl⟩
  sleep 7;refine⟨ns,_,rfl,hs,by decide,by decide,fun v a M2 e2 x2 l2=>?_⟩;sleep 7;refine comp_drawX jb (fun i j=>∃ u:Nat,u<40/\j=⟨i,13+i,((1+(u:Int):Int):Rat)⟩) (a:=a) (rngD 0 1 12) rfl %[|4] ⟨v,l2⟩ ?_ ?_ ?_
  ·intro R' r'
   simp[0,vAt,vHd,dCallV,and_assoc,sizeLine_eq,rSs_nil,diZip,diSeq,dFld,dMeth,dMake,dSetF,diRng];exact r'
  ·intro i x hx M' R' y r'
   obtain⟨rfl,hi'⟩:=rngD_at hx;rw[show ((0:Int)+(i:Int)*1)=((i:Nat):Int) by omega];sleep 8;refine take_ok y.pk %[|4] %[|4] fun u M'' u0 u1 y''=>?_;rw[l_addI];obtain⟨u,rfl⟩:=Int.eq_ofNat_of_zero_le u0;have:=r' ⟨i,13+i,((1+(u:Int):Int):Rat)⟩ M'' ⟨u,by omega,rfl⟩ y'';rw[show jb ⟨i,13+i,((1+(u:Int):Int):Rat)⟩=.tup [.int (i:Int),.int ((13+i:Nat):Int),.tup [.int (1+(u:Int)),.int 1]] from rfl] at this;exact this
  intro js2 p7 M7 jl hj y7 e7 l7;rw[rngD_len] at jl;refine⟨_,l7,?_⟩;rw[show D.tup (js2.map jb)=jbs js2 from rfl];have at2:∀ i (h:i<js2.length),∃ u:Nat,u<40/\js2[i]=⟨i,13+i,((1+(u:Int):Int):Rat)⟩:=fun i h=>hj i _ (List.getElem?_eq_getElem h);have J2:Jobs 31 js2:=by
   refine⟨by omega,by omega,fun j hj'=>?_,List.pairwise_iff_getElem.mpr fun i j hi hj' hij=>?_,by decide⟩
   ·obtain⟨i,hi,rfl⟩:=List.getElem_of_mem hj'
    obtain⟨u,hu,e⟩:=at2 i hi;rw[e];refine⟨by show i<13+i;omega,by show 13+i<=24;omega,?_,?_⟩
    ·show (0:Rat)<((1+(u:Int):Int):Rat)
     exact_mod_cast (show (0:Int)<1+(u:Int) by omega)
    ·exact⟨show (1+(u:Int)).natAbs<2 ^ 31 by omega,show (1:Nat)<2 ^ 31 by decide⟩
   ·obtain⟨u,hu,e⟩:=at2 i hi
    obtain⟨u',hu',e'⟩:=at2 j hj';rw[e,e'];exact⟨by show i<=j;omega,by show 13+i<=13+j;omega⟩
  have pk7:=y7.pk;sleep 7;refine⟨js2,31,a,rfl,J2,pk7,fun M8 y8=>?_⟩;refine .inr ⟨rfl,?_⟩;refine⟨ns,_,rfl,hs,by decide,by decide,fun js M9 J x9=>?_⟩;exact⟨js,31,a,rfl,J,y8.pk.ext x9,fun M10 y10=>q _⟩
 ·rintro x hx N hN δ M0 ⟨w1,rfl⟩
  obtain⟨i,hi,rfl⟩:=List.mem_map.mp hx;have hi2:=List.mem_range.mp hi;sleep 8;sleep 7;refine⟨ns,_,rfl,hs,by omega,by omega,fun v a M1 e1 x1 l1=>?_⟩;refine⟨a,12,rfl,⟨v,l1⟩,by decide,by decide,fun js M2 J y2=>?_⟩;refine⟨ns,_,rfl,hs,by omega,by omega,fun v' b M3 e3 x3 l3=>?_⟩;refine⟨js,10,b,rfl,J,⟨v',l3⟩,fun M4 y4=>?_⟩;simp;exact hN _ _ ⟨_,rfl⟩
end K
end
namespace PySem.W.Fast
set_option bootstrap.genMatcherCode true
local macro_rules | `(command| universe $xs*)=>do
  let cs<-xs.mapM fun x=>`(command| theorem $x :True:=⟨⟩)
  return Lean.mkNullNode cs
set_option bootstrap.genMatcherCode false
universe tw11106408595839529222 tw16358673030459688528 tw9095761968955544820 tw8139583921450740403 tw16185495488770467472 tw16256170179986644619 tw4928708969577656675 tw16514746974294536859 tw13654709423174253747 tw660351782125449029 tw13599118953097495258 tw1413156805143254597 tw2358537848100158257 tw10172253510386174534 tw4864716254340720335 tw8295809232448723771 tw6526234149020307752 tw81367273264072227 tw13647995600246252305 tw3290469616581401076 tw10818195335560142246 tw4978013907516187052 tw173865628707629075 tw9171654737918493582 tw3634989090681347389 tw65913359204548489 tw14451085503554763581 tw5622970317351785745 tw16341191657856075812 tw9964449307125374925 tw13156982804568802455 tw2742761529716099819 tw13727505244938783481 tw10335543390409621138 tw4165023635141031364 tw1470665581805797479 tw1265162956548665542 tw7500690835392620950 tw5417473585409261593 tw5113876032929515545
universe tw9647140534272960886 tw12851026209861142685 tw9536342540837982326 tw15147351534770610701 tw5683752606196519026 tw8404239725515485076 tw6633837708314767298 tw7674135721036851121 tw4815786086196384681 tw3499621329561175598 tw1405352422737760440 tw14195001955901450078 tw3661710017249608250 tw17087189624348827988 tw11357522646718888422 tw16968545589623465460 tw545884204219681538 tw3923691999076169139 tw6197474182356268098 tw12603008747807094621 tw8565139097165961883 tw14372227814522857648 tw5997100023462001938 tw2902168422506916455 tw7316382121214531261 tw8248777300578501901 tw13401131568058915938 tw3628406162162105712 tw10527010748764900379 tw3937397209174108748 tw1693710130335855500 tw5087528185158539072 tw1297083911903749947 tw17210260828844216123 tw2226963975887436475 tw16327684447213083332 tw14526061861758253623 tw766245114276845265 tw16586852947465673080 tw16090233755330530817
universe tw13604398548307724005 tw4090195505879093898 tw7290913662005360021 tw142683140616417628 tw17794532976065400721 tw4056590632371152764 tw3063031374900700929 tw17971342432914965681 tw10854554246813633067 tw14123330499893163807 tw316555637061712950 tw7593229077031651831 tw5780097595151332618 tw5448525004961351655 tw16202905746528273878 tw6990082027050725363 tw12692540975815026643 tw15800460268735321263 tw15455201730187625060 tw8277696646873870460 tw14003704884151314933 tw14205641603288694732 tw7668462829752463961 tw14344798613751492772 tw13937410926823292218 tw6878204768419071439 tw9004896709339416570 tw17567906288612424910 tw17748831903273667306 tw9387370274532768973 tw4069343639254469223 tw6143267224368615743 tw16876929830700708499 tw15510167267453735405 tw14721444729029158918 tw17257325005808342151 tw8684959058048814823 tw14087760484416634901 tw8920657315678936132 tw8545057500224030316
universe tw3110695001231899177 tw1546277516754430751 tw6791206943398480637 tw4471365810845674197 tw15899046459444749821 tw10010690145894509942 tw3383825162268887221 tw14543439223388446974 tw10528825508957978925 tw3661795906339966079 tw11257512987298046501 tw6163622164106972057 tw15020387772989297478 tw1316781227090285916 tw7163013769703138453 tw14531558162715891052 tw10633407035462163620 tw13689126856842802064 tw13869715832187122840 tw4214594655304680122 tw1900042887084955944 tw12525452899797289267 tw2931689716557689001 tw5478922865896640253 tw11956868786223654677 tw17263370707476720169 tw9873248102068891702 tw11716343208020818217 tw14967032295397158972 tw6068994425147183080 tw5947314998342669546 tw3980731980229157755 tw16069979476191071546 tw3026150516494804168 tw3995770574154302048 tw2591209480893222035 tw18405198394244554982 tw4973914589263045132 tw12846959987774941578 tw981822234453209159
universe tw7860118834524721915 tw3623116707356898158 tw7996476582869040193 tw18426200133153710969 tw10135494515648510779 tw18157699865578205640 tw16664208253877140865 tw906478304515373223 tw1288022935927692834 tw10092772505663365039 tw2383649967922230957 tw12997970300322301912 tw2151317899499861358 tw13907515545112963930 tw17960018470421066078 tw12720317820950782694 tw972447991657839369 tw6019043555829311227 tw15797935436269496405 tw359232105802637145 tw11120077113130124635 tw10400099051335940099 tw6418160876609921074 tw7707682372801607725 tw10706092176055403431 tw17041486607630512143 tw14692516294488365298 tw17680409026568108840 tw15635207414445622605 tw10866998190220240416 tw1797393084173806085 tw14101007725414761900 tw4223823504646328726 tw3845870248323214973 tw7267285593442234955 tw2972714930832050299 tw6866683404044691621 tw11934944916501498366 tw12127926279262497490 tw280788287185414004
universe tw8897818746673651162 tw6975168249117124398 tw5261941442855231563 tw12514073227295327863 tw16560745124437975360 tw1784636983082894801 tw11782264563903674101 tw1112146409203192232 tw10099031693297247519 tw14444340127152547877 tw15319409065792850226 tw9022041408152256448 tw8520454632875064538 tw8151702173023995222 tw13509437455996876258 tw12494088969102946599 tw4958478317758848095 tw5395282347722214084 tw816340240411150770 tw10286107951330371801 tw14886538464075667746 tw4397844110417547603 tw11767471513549464667 tw10626880525924832699 tw7744136092470491952 tw4848025864607862911 tw7426680758716829261 tw6628446808701835062 tw14866101487609991075 tw2571846651184800601 tw11791231903504632534 tw15410137226444752887 tw6761530525708401144 tw10340725687604151709 tw17749754642074130570 tw981725052557040406 tw15145889085789739421 tw10460080222702740337 tw3999257940311118872 tw5572969509592404496
universe tw4027595634630509710 tw16637942355628544682 tw12450339174674676866 tw17584810423951532123 tw12535125279227872645 tw18165997460373966584 tw16975094200802274420 tw11769684601869075618 tw3132953452687659391 tw12304161389761681757 tw8135427235732171750 tw11150739133454787257 tw3465123427891526788 tw12369207236539223285 tw9831455037129121494 tw8014732126995686494 tw8923624938167467651 tw7305601259681801859 tw17173723233758308198 tw4155653583029226750 tw15529570212528313776 tw10449156309109239570 tw13186889010529759753 tw14072463801592465539 tw10990306964217129698 tw5592034715837749391 tw7980621364847278786 tw1739089698971168931 tw2499440989794884937 tw16069545193550503295 tw17787128293317253400 tw9734062089437537540 tw10528789404947770747 tw16897943754434955358 tw10990085899634384802 tw12459717165508236279 tw6006051832316780069 tw12354419094994483404 tw18399697386607676102 tw14768178904469925383
universe tw16891616570887956185 tw15019662730180840614 tw1409752574556712788 tw17961594369638955171 tw3365064571728373592 tw13955627677515757533 tw7427608967489680274 tw16424038346207815449 tw18251735558112419302 tw11037874932612109896 tw1046119384099331831 tw8967780686355919921 tw9732135685146138684 tw13213160550929532029 tw7965228590383523347 tw10458226639820757782 tw12458175620037803003 tw16990631718592417826 tw12478287622955085069 tw5246180462663328894 tw14292011810665196259 tw4738078369029054352 tw7964832890456766105 tw7883990288459066904 tw16998040149971404828 tw2654129384634405769 tw2165526460101090449 tw1652241235711409320 tw6639127960187693300 tw567876354931332449 tw17719645775815047129 tw1495739579911103256 tw2208128817670054666 tw2419157175131794921 tw15506080264788584007 tw11779363650585830267 tw14701607661382158657 tw14318636669050432335 tw1772338697618665365 tw2721093518485240255
universe tw14664550509906507524 tw571093582434731938 tw10690138048505379376 tw11058324979228767824 tw665154415089767653 tw17604238882790828318 tw1765452720900530116 tw7231183660612433604 tw4069213228607680867 tw15280437250566012694 tw5172820148241491035 tw2361524351181296765 tw13079146731287244739 tw8835717774856563975 tw5463053783613053706 tw3436919299870032529 tw14633192428785441614 tw8507387846566801285 tw9276187101534285652 tw7985091167500778235 tw10363645091403532162 tw364260588227899310 tw16952763793933845729 tw8268636248881271055 tw9042934950652209763 tw17563208687472346754 tw8315411886056052773 tw14933734913965699466 tw16787709538283119591 tw3786594515171659642 tw9682654355391290924 tw10291107239562615949 tw1200659777136678028 tw15093913084376858243 tw710402320055474106 tw15038639904283905435 tw16433055818406116491 tw1495559775041915350 tw6914671567064339175 tw12537523002791069006
universe tw6852775974198426561 tw3114357485078408346 tw6718752145863056882 tw6039113241234461978 tw3239163151081822243 tw7828491011319106694 tw16358495937041107699 tw14515800881623088262 tw15730837398312865465 tw12554377072473084288 tw377942325637695738 tw17035638387047758066 tw4012005617572636111 tw12906374051176988696 tw7231678271994444580 tw13556988460374310358 tw17530326476225698559 tw4754475989622306902 tw1055882475494062150 tw17314427578788978680 tw4777626272517609982 tw3738540368362624816 tw332441910957239026 tw13841468556055934296 tw12630328303459735338 tw5303750108528528507 tw17964583575931512861 tw8810538884747175820 tw18105089650188205265 tw12464981189870357727 tw10597203487368986355 tw12960640234794469898 tw3063356309717739446 tw2892474723835352071 tw6521994437183316406 tw7917604781614415436 tw1961091940384772970 tw9691444652522997895 tw1022227262519893669 tw4520289295220624363
universe tw10295881403888721160 tw15045481743100959714 tw4350043153825973739 tw6201154838560472404 tw6292043346372511545 tw1224411533265960877 tw7050037680205786610 tw14021452666788864086 tw14584323825155666088 tw4339005793398790191 tw14151725426256624741 tw3879291220912823002 tw16126097557871372575 tw633932371783132763 tw12862478865964077601 tw449653478616280428 tw5887450772431550606 tw17809015451695127820 tw11517662075657741037 tw5561182997921666301 tw17133067846335435538 tw10059138552009137915 tw794668270060601393 tw7457425366445475969 tw8097815923260201213 tw11993298063069136899 tw6127188807339834972 tw13185907104476406197 tw884014772986565389 tw17888141255119577947 tw9704244722246736379 tw16850512680823344347 tw3018158060125047446 tw2327778629384358255 tw16080472936384963664 tw13477455696368208686 tw6533557145242504969 tw1973922512339354305 tw12290934892632635808 tw3582105360954579432
universe tw4181456499013839246 tw16479619912064481867 tw6588031051818990613 tw1027892408177658667 tw4914133788248431530 tw18038069617287019243 tw12783582412877723243 tw11146754719440112838 tw15058867776581127283 tw17545486790030521005 tw15421056343893657908 tw5768130909113183428 tw14832939565931182015 tw5788421050621479915 tw8753716256383232725 tw13693636978430592911 tw308800330176848305 tw4072843512921979136 tw1720963710906304409 tw17399764088873491008 tw15181714065949115378 tw11163310461100019085 tw15045170472189616432 tw16141656050575786602 tw17263699796474855331 tw14286275907834010352 tw7330353773319610074 tw12288965079316080472 tw13888386110792645342 tw6486892795554543437 tw7747104257692568350 tw11321562266121183834 tw3849019610386646234 tw6491374735434005570 tw5868364214602011075 tw17955825008256765074 tw12194274168124141152 tw2565459725307390408 tw7466478948546292426 tw2188159498167586683
universe tw6296711568306514023 tw11019693457901839988 tw7176284251345802338 tw7303537273651294224 tw3650486092487219910 tw12975637963434005864 tw8752394850585590008 tw9294714553719135795 tw1419629829739334941 tw12223531759834840211 tw15523916411072009655 tw2812016229334730553 tw7422924845194205654 tw5905515632265339576 tw3612149119421496711 tw10737123786754362364 tw3888697161509628869 tw9851413654260905673 tw4689027365237013676 tw5790523287404582559 tw16738799683445504578 tw10324149858985739111 tw2462641022236231049 tw9909805732701476586 tw14007024021669683977 tw15028120560742042292 tw9099068258856902370 tw15857418632745370231 tw2347272783531584596 tw14566089586565814905 tw8627263977897575265 tw1458986899301000869 tw17573206846785862276 tw543727119456306715 tw2367140726891039549 tw8841474480447159693 tw5747607302544108213 tw15294139209829062698 tw7537870353570893052 tw11689563049184601657
universe tw17631944579106865548 tw4542997891304739101 tw1438505347824999940 tw666312286357061086 tw11012325278394981108 tw18426225947302437743 tw3341267016388130292 tw15206278408044133817 tw10148422253008593576 tw15947025206030919165 tw7226301851346947397 tw3536288707276248441 tw6212582301310442600 tw2205083682352914334 tw16471991988785413333 tw16303785254986493520 tw12900241693062097369 tw7542077583384244960 tw13459569659735385824 tw6844175868595842161 tw5014979394823011864 tw6627240115198823588 tw13180400471408572535 tw6274174412130298317 tw3145567188910888987 tw7731332014786532994 tw8936415517089651507 tw13462753597613024090 tw14101789523089092680 tw14077499095429205836 tw6651954397403119335 tw17218215677912637976 tw10699510899076377195 tw10906242155704076646 tw12446724153175509342 tw2895656119568730482 tw17525832620901262667 tw10135595687704254758 tw15761997512463676371 tw14626508022669997972
universe tw8234482633212548787 tw1592043935137671683 tw1712439783637187420 tw7896997006351760687 tw14069882335426818368 tw1455995364757449657 tw110948064171891815 tw16458584348558366962 tw12258352840771401032 tw16680212970699019987 tw4485424217158956594 tw6399195293108446634 tw3073872762450855774 tw14412293165004318033 tw12259678458174407796 tw9585731731781522120 tw43574286829778250 tw16293981610968834516 tw4468042354511434621 tw5203753702933580398 tw1325691039236486167 tw16596279429172313732 tw8333078744357600294 tw4867010622582531697 tw15734133762716538059 tw13730525173080756644 tw5017791657843022270 tw3776411999209701645 tw8668676018045233131 tw12068547342179020427 tw13619652614687494143 tw5272624188010752741 tw16225062447813992333 tw2109436814849029699 tw7531511910777443846 tw6504665292027952052 tw11604522691662684123 tw14740181040451639782 tw16579547570285587510 tw2943250562683309127
universe tw18355252135615314520 tw16141981292105797941 tw17722723319807995505 tw11255956224122664385 tw1044569758998704488 tw17353827373947382106 tw2523393799473587559 tw11114266844106158499 tw2397450087216991860 tw12082506957678252643 tw4247915587438211575 tw10929069112514380338 tw1557084000222408805 tw7122427216827112271 tw13120227101441504614 tw14650428093456761053 tw14590654412814590377 tw17604838663856211022 tw2236330246317390053 tw8906085875644469347 tw6477421062561576170 tw18080954981067013711 tw3138509820634025983
end PySem.W.Fast
namespace K
open PySem DL L2 PySem.W
set_option bootstrap.genMatcherCode true
local macro_rules
 | `(tactic| sleep 61)=>`(tactic| (rintro _ _ _ _ ⟨_,e,_⟩;rw[e];rfl))
 | `(tactic| sleep 62)=>`(tactic| (rintro _ _ _ _ ⟨_,_,e,_⟩;rw[e];rfl))
 | `(tactic| sleep 63)=>`(tactic| (rintro _ _ _ _ ⟨_,_,_,e,_⟩;rw[e];rfl))
 | `(tactic| sleep 64)=>`(tactic| (rintro _ _ _ _ ⟨_,_,_,_,e,_⟩;rw[e];rfl))
 | `(tactic| sleep 65)=>`(tactic| (rintro _ _ _ _ ⟨_,_,_,_,_,e,_⟩;rw[e];rfl))
 | `(tactic| sleep 66)=>`(tactic| (rintro _ _ _ _ ⟨_,_,_,_,_,_,e,_⟩;rw[e];rfl))
 | `(tactic| sleep 67)=>`(tactic| (rintro _ _ _ _ ⟨_,_,_,_,_,_,_,e,_⟩;rw[e];rfl))
 | `(tactic| sleep 68)=>`(tactic| (rintro _ _ _ _ ⟨_,_,_,_,_,_,_,_,e,_⟩;rw[e];rfl))
 | `(tactic| sleep 69)=>`(tactic| (rintro _ _ _ _ ⟨_,_,_,_,_,_,_,_,_,e,_⟩;rw[e];rfl))
 | `(tactic| sleep 71)=>`(tactic| (intros;rename_i us hl;obtain⟨_,e⟩:=us1 hl;subst e;rfl))
 | `(tactic| sleep 72)=>`(tactic| (intros;rename_i us hl;obtain⟨_,_,e⟩:=us2 hl;subst e;rfl))
 | `(tactic| sleep 73)=>`(tactic| (intros;rename_i us hl;obtain⟨_,_,_,e⟩:=us3 hl;subst e;rfl))
 | `(tactic| sleep 74)=>`(tactic| (intros;rename_i us hl;obtain⟨_,_,_,_,e⟩:=us4 hl;subst e;rfl))
set_option bootstrap.genMatcherCode false
set_option bootstrap.genMatcherCode true
local macro_rules | `(~~~$n:str)=>`(nsIn $(Lean.mkIdent `K) mainGlobals $n)
set_option bootstrap.genMatcherCode false
set_option bootstrap.genMatcherCode true
local macro_rules | `(#[$n:str,$s:ident,$f:ident,$o:ident,$p:ident,$a:ident,$b:ident,$c:ident,$d:ident,$e:ident,$g:ident,$h:ident])=>`($(Lean.mkIdent `K.lookup) $f=some ⟨$o,$p,.func (fnOf $n $n (defArgs $s) (defBody $s) (defScope $s) .none $a $b $c $d $e $g),$h⟩)
set_option bootstrap.genMatcherCode false
noncomputable def top (i:Nat):Stmt:=PySem.Challenge.pw_levelcord_k66_parts_of_jobs.main.body.getD i (.Pass ⟨0,0,0,0⟩)
theorem D_0:DefIs (top 104) ["_law_pack_here","_law_size","_law_digit"] 2 C_0 S_0:=⟨by sleep 50,by decide +kernel,by sleep 63,vc_0,(by sleep 72)⟩
theorem D_1:DefIs (top 105) ["_law_top","_law_bottom","_law_one","_law_other"] 2 C_1 S_1:=⟨by sleep 50,by decide +kernel,by sleep 62,vc_1,(by sleep 72)⟩
theorem D_2:DefIs (top 109) ["_law_pack_here","_law_most","_law_found","_law_arrival","_law_due","_law_turn"] 2 C_2 S_2:=⟨by sleep 50,by decide +kernel,by sleep 62,vc_2,(by sleep 72)⟩
theorem D_3:DefIs (top 107) ["_law_one","_law_other"] 2 C_3 S_3:=⟨by sleep 50,by decide +kernel,by sleep 62,vc_3,(by sleep 72)⟩
theorem D_4:DefIs (top 10) ["one","other"] 2 C_4 S_4:=⟨by sleep 50,by decide +kernel,by sleep 62,vc_4,(by sleep 72)⟩
theorem D_5:DefIs (top 12) ["top","bottom","divisor"] 2 C_5 S_5:=⟨by sleep 50,by decide +kernel,by sleep 62,vc_5,(by sleep 72)⟩
theorem D_6:DefIs (top 13) ["one","other"] 2 C_6 S_6:=⟨by sleep 50,by decide +kernel,by sleep 62,vc_6,(by sleep 72)⟩
theorem D_7:DefIs (top 43) ["numbers","together","one"] 1 C_7 S_7:=⟨by sleep 50,by decide +kernel,by sleep 62,vc_7,(by sleep 71)⟩
theorem D_8:DefIs (top 17) ["one","other"] 2 C_8 S_8:=⟨by sleep 50,by decide +kernel,by sleep 62,vc_8,(by sleep 72)⟩
theorem D_9:DefIs (top 9) ["thing"] 1 C_9 S_9:=⟨by sleep 50,by decide +kernel,by sleep 62,vc_9,(by sleep 71)⟩
theorem D_10:DefIs (top 11) ["thing","top","bottom"] 1 C_10 S_10:=⟨by sleep 50,by decide +kernel,by sleep 61,vc_10,(by sleep 71)⟩
theorem D_11:DefIs (top 50) ["thing","arrival","due","work"] 1 C_11 S_11:=⟨by sleep 50,by decide +kernel,by sleep 62,vc_11,(by sleep 71)⟩
theorem D_12:DefIs (top 52) ["thing"] 1 C_12 S_12:=⟨by sleep 50,by decide +kernel,by sleep 62,vc_12,(by sleep 71)⟩
theorem D_13:DefIs (top 53) ["jobs"] 1 C_13 S_13:=⟨by sleep 50,by decide +kernel,by sleep 62,vc_13,(by sleep 71)⟩
theorem D_14:DefIs (top 54) ["jobs","places","hour","due_by_then","arrived"] 1 C_14 S_14:=⟨by sleep 50,by decide +kernel,by sleep 62,vc_14,(by sleep 71)⟩
theorem D_15:DefIs (top 22) ["thing","least","most"] 3 C_15 S_15:=⟨by sleep 50,by decide +kernel,by sleep 63,vc_15,(by sleep 73)⟩
theorem D_16:DefIs (top 24) ["thing"] 1 C_16 S_16:=⟨by sleep 50,by decide +kernel,by sleep 61,vc_16,(by sleep 71)⟩
theorem D_17:DefIs (top 25) ["thing"] 1 C_17 S_17:=⟨by sleep 50,by decide +kernel,by sleep 61,vc_17,(by sleep 71)⟩
theorem D_18:DefIs (top 26) ["thing"] 1 C_18 S_18:=⟨by sleep 50,by decide +kernel,by sleep 61,vc_18,(by sleep 71)⟩
theorem D_19:DefIs (top 30) ["tube"] 1 C_19 S_19:=⟨by sleep 50,by decide +kernel,by sleep 61,vc_19,(by sleep 71)⟩
theorem D_20:DefIs (top 14) ["one","other"] 2 C_20 S_20:=⟨by sleep 50,by decide +kernel,by sleep 62,vc_20,(by sleep 72)⟩
theorem D_21:DefIs (top 16) ["one","other"] 2 C_21 S_21:=⟨by sleep 50,by decide +kernel,by sleep 62,vc_21,(by sleep 72)⟩
theorem D_22:DefIs (top 37) ["begin","height","at","other_height"] 4 C_22 S_22:=⟨by sleep 50,by decide +kernel,by sleep 64,vc_22,(by sleep 74)⟩
theorem D_23:DefIs (top 38) ["places","begin","height","low_at","high_at","steepest_low","flattest_high","at","to_low","to_high"] 3 C_23 S_23:=⟨by sleep 50,by decide +kernel,by sleep 65,vc_23,(by sleep 73)⟩
theorem D_24:DefIs (top 15) ["one","other"] 2 C_24 S_24:=⟨by sleep 50,by decide +kernel,by sleep 62,vc_24,(by sleep 72)⟩
theorem D_25:DefIs (top 39) ["begin","height","touch","at","other_height","climb"] 3 C_25 S_25:=⟨by sleep 50,by decide +kernel,by sleep 65,vc_25,(by sleep 73)⟩
theorem D_26:DefIs (top 40) ["places","end","row","begin","height","shown"] 1 C_26 S_26:=⟨by sleep 50,by decide +kernel,by sleep 63,vc_26,(by sleep 71)⟩
theorem D_27:DefIs (top 41) ["tube"] 1 C_27 S_27:=⟨by sleep 50,by decide +kernel,by sleep 61,vc_27,(by sleep 71)⟩
theorem D_28:DefIs (top 32) ["row"] 1 C_28 S_28:=⟨by sleep 50,by decide +kernel,by sleep 62,vc_28,(by sleep 71)⟩
theorem D_29:DefIs (top 55) ["jobs"] 1 C_29 S_29:=⟨by sleep 50,by decide +kernel,by sleep 62,vc_29,(by sleep 71)⟩
theorem D_30:DefIs (top 108) ["_law_thing"] 1 C_30 S_30:=⟨by sleep 50,by decide +kernel,by sleep 61,vc_30,(by sleep 71)⟩
theorem D_31:DefIs (top 110) ["_law_told","_law_one"] 1 C_31 S_31:=⟨by sleep 50,by decide +kernel,by sleep 61,vc_31,(by sleep 71)⟩
theorem D_32:DefIs (top 111) ["_law_jobs_here","_law_told","_law_room","_law_last","_law_job","_law_some","_law_work","_law_stretch","_law_part"] 2 C_32 S_32:=⟨by sleep 50,by decide +kernel,by sleep 63,vc_32,(by sleep 72)⟩
theorem D_33:DefIs (top 106) ["_law_one","_law_other"] 2 C_33 S_33:=⟨by sleep 50,by decide +kernel,by sleep 62,vc_33,(by sleep 72)⟩
theorem D_34:DefIs (top 112) ["_law_pack_here","_law_told","_law_at","_law_to","_law_stretch","_law_part","_law_odd","_law_some"] 2 C_34 S_34:=⟨by sleep 50,by decide +kernel,by sleep 62,vc_34,(by sleep 72)⟩
theorem D_35:DefIs (top 67) ["thing"] 1 C_35 S_35:=⟨by sleep 50,by decide +kernel,by sleep 61,vc_35,(by sleep 71)⟩
theorem D_36:DefIs (top 89) ["thing"] 1 C_36 S_36:=⟨by sleep 50,by decide +kernel,by sleep 62,vc_36,(by sleep 71)⟩
theorem D_37:DefIs (top 91) ["thing","arrivals","dues"] 1 C_37 S_37:=⟨by sleep 50,by decide +kernel,by sleep 62,vc_37,(by sleep 71)⟩
theorem D_38:DefIs (top 84) ["thing"] 1 C_38 S_38:=⟨by sleep 50,by decide +kernel,by sleep 61,vc_38,(by sleep 71)⟩
theorem D_39:DefIs (top 94) ["thing"] 1 C_39 S_39:=⟨by sleep 50,by decide +kernel,by sleep 61,vc_39,(by sleep 71)⟩
theorem D_40:DefIs (top 95) ["job","thing","arrival","due","work","ahead","stretch","part"] 2 C_40 S_40:=⟨by sleep 50,by decide +kernel,by sleep 64,vc_40,(by sleep 72)⟩
theorem D_41:DefIs (top 19) ["numbers","greatest","one"] 1 C_41 S_41:=⟨by sleep 50,by decide +kernel,by sleep 62,vc_41,(by sleep 71)⟩
theorem D_42:DefIs (top 18) ["numbers","least","one"] 1 C_42 S_42:=⟨by sleep 50,by decide +kernel,by sleep 62,vc_42,(by sleep 71)⟩
theorem D_43:DefIs (top 56) ["done","begin","end","told","hour","part"] 3 C_43 S_43:=⟨by sleep 50,by decide +kernel,by sleep 63,vc_43,(by sleep 73)⟩
theorem D_44:DefIs (top 57) ["jobs","done","told","begin","arrival","due","work","end"] 1 C_44 S_44:=⟨by sleep 50,by decide +kernel,by sleep 62,vc_44,(by sleep 71)⟩
theorem D_45:DefIs (top 96) ["parts","jobs","speeds","shares","hours","hour"] 1 C_45 S_45:=⟨by sleep 50,by decide +kernel,by sleep 66,vc_45,(by sleep 71)⟩
theorem D_46:DefIs (top 100) ["claim","paper","word","parts","check_with","check"] 2 C_46 S_46:=⟨by sleep 50,by decide +kernel,by sleep 66,vc_46,(by sleep 72)⟩
theorem D_47:DefIs (top 113) ["_law_jobs_here","_law_pack_here","_law_told"] 2 C_47 S_47:=⟨by sleep 50,by decide +kernel,by sleep 63,vc_47,(by sleep 72)⟩
theorem D_48:DefIs (top 102) ["_law_cell"] 1 C_48 S_48:=⟨by sleep 50,by decide +kernel,by sleep 61,vc_48,(by sleep 71)⟩
theorem D_49:DefIs (top 103) ["_law_script","_law_k","_law_found","_law_at"] 2 C_49 S_49:=⟨by sleep 50,by decide +kernel,by sleep 62,vc_49,(by sleep 72)⟩
theorem D_50:DefIs (top 114) ["_law_script","_law_k","_law_found","_law_at","_law_pack_here","_law_work"] 2 C_50 S_50:=⟨by sleep 50,by decide +kernel,by sleep 62,vc_50,(by sleep 72)⟩
noncomputable abbrev s_51:Stmt:=top 115
theorem ck_51:isSs ⟨["_law_script","_law_k","_law_pack_here","_law_great"],defScope s_51,true,true⟩ true C_51 (defBody s_51)=true:=by decide +kernel
theorem sc_51:FnScope ["_law_script","_law_k","_law_pack_here","_law_great"] ["_law_script"] (defScope s_51):=by sleep 50
theorem len_51:∀ ds M R E,SLaw ds M R E->ds.length=1:=by sleep 61
set_option maxHeartbeats 0 in
theorem all_mk {l:OpenLaw} {w:World} {K:Frag} {h:Heap} {mg:Str->Option Value} {fa:Addr} (X:K.In h) (G:h.Ns mainGlobals mg) (hfa:mg "law"=some (.ref fa))
  (h0:Has K "_law_take" (top 104))
  (h1:Has K "_law_low" (top 105))
  (h2:Has K "_law_jobs" (top 109))
  (h3:Has K "_law_less_by" (top 107))
  (h4:Has K "greatest_divisor" (top 10))
  (h5:Has K "number" (top 12))
  (h6:Has K "added" (top 13))
  (h7:Has K "total" (top 43))
  (h8:Has K "is_less" (top 17))
  (h9:Has K "is_whole" (top 9))
  (h10:Has K "is_number" (top 11))
  (h11:HasA K "is_job_jobs" "is_job" (top 50))
  (h12:Has K "is_jobs" (top 52))
  (h13:Has K "want_jobs" (top 53))
  (h14:Has K "job_tube" (top 54))
  (h15:Has K "are_numbers" (top 22))
  (h16:Has K "is_place" (top 24))
  (h17:Has K "is_tube" (top 25))
  (h18:Has K "is_tied" (top 26))
  (h19:Has K "want_tied" (top 30))
  (h20:Has K "taken" (top 14))
  (h21:Has K "parted" (top 16))
  (h22:Has K "rise" (top 37))
  (h23:Has K "next_touch" (top 38))
  (h24:Has K "multiplied" (top 15))
  (h25:Has K "straight_on" (top 39))
  (h26:Has K "taut_row" (top 40))
  (h27:Has K "cord" (top 41))
  (h28:Has K "differences" (top 32))
  (h29:Has K "speeds" (top 55))
  (h30:Has K "_law_is_number" (top 108))
  (h31:Has K "_law_is_told" (top 110))
  (h32:Has K "_law_all_right" (top 111))
  (h33:Has K "_law_more" (top 106))
  (h34:Has K "_law_spoilt" (top 112))
  (h35:Has K "is_from_nought" (top 67))
  (h36:HasA K "is_job_checker" "is_job" (top 89))
  (h37:Has K "are_jobs" (top 91))
  (h38:Has K "is_touch" (top 84))
  (h39:Has K "is_share" (top 94))
  (h40:Has K "does_job" (top 95))
  (h41:Has K "greatest_of" (top 19))
  (h42:Has K "least_of" (top 18))
  (h43:Has K "shared" (top 56))
  (h44:Has K "parts" (top 57))
  (h45:Has K "done_holds" (top 96))
  (h46:Has K "holds" (top 100))
  (h47:Has K "_law_right" (top 113))
  (h48:Has K "_law_mixed" (top 102))
  (h49:Has K "_law_pack" (top 103))
  (h50:Has K "_law_great_jobs" (top 114))
  (h51:Has K "law" s_51)
  (z0: ~~~"abs"=some none)
  (z1: ~~~"all"=some none)
  (z2: ~~~"any"=some none)
  (z3: ~~~"divmod"=some none)
  (z4: ~~~"isinstance"=some none)
  (z5: ~~~"len"=some none)
  (z6: ~~~"max"=some none)
  (z7: ~~~"min"=some none)
  (z8: ~~~"str"=some none)
  (z9: ~~~"tuple"=some none)
  (z10: ~~~"list"=some none)
  (z11: ~~~"int"=some none)
  (z12: ~~~"bool"=some none)
  (z13: ~~~"dict"=some none)
  (z14: ~~~"range"=some none)
  (z15: ~~~"ValueError"=some none)
  (z16: ~~~"sum"=some none)
  (z17: ~~~"zip"=some none)
  (z18: ~~~"enumerate"=some none)
  (z19: ~~~"sorted"=some none)
  {C0:Tok} (gl0: ~~~"LAST_HOUR"=some (some (.int 24 C0)))
  {C1:Tok} (gl1: ~~~"MOST_HOURS"=some (some (.int 24 C1)))
  {C2:Tok} (gl2: ~~~"MOST_JOBS_checker"=some (some (.int 12 C2)))
  {C3:Tok} (gl3: ~~~"MOST_JOBS_jobs"=some (some (.int 12 C3)))
  {C4:Tok} (gl4: ~~~"MOST_PLACES"=some (some (.int 25 C4)))
  {C5:Addr} {ta5 tb5:Tok} {dx5:Option Addr} {sx5:Array (Option Value)} {mx5:Nat} (gl5: ~~~"NOUGHT"=some (some (.ref C5))) (lk5:K.lookup C5=some ⟨.type "tuple",dx5,.seq #[.int 0 ta5,.int 1 tb5] mx5,sx5⟩)
  {C6:Addr} (gl6: ~~~"NoJobs"=some (some (.ref C6)))
  {C7:Addr} (gl7: ~~~"NoNumber"=some (some (.ref C7)))
  {C8:Addr} (gl8: ~~~"NoTube"=some (some (.ref C8)))
  {C9:Addr} {ep9:Nat} {hh9_0 hh9_1 hh9_2 hh9_3 hh9_4 hh9_5 hh9_6 hh9_7 hh9_8 hh9_9 hh9_10 hh9_11:Int} {tt9_0 tt9_1 tt9_2 tt9_3 tt9_4 tt9_5 tt9_6 tt9_7 tt9_8 tt9_9 tt9_10 tt9_11:Tok} {vt9_0:Tok} {vt9_1:Tok} {vt9_2:Tok} {vt9_3:Tok} {vt9_4:Tok} {vt9_5:Tok} {vt9_6:Tok} {vt9_7:Tok} {vt9_8:Tok} {vt9_9:Tok} {vt9_10:Tok} {vt9_11:Tok} (gl9: ~~~"SIZES"=some (some (.ref C9))) (lo9:(C9==sysModules)=false)
  (lk9:K.lookup C9=some ⟨.type "dict",none,.dict #[⟨hh9_0,.str "taut" tt9_0,.int 2 vt9_0⟩,⟨hh9_1,.str "loose" tt9_1,.int 2 vt9_1⟩,⟨hh9_2,.str "ring" tt9_2,.int 2 vt9_2⟩,⟨hh9_3,.str "leveller" tt9_3,.int 2 vt9_3⟩,⟨hh9_4,.str "no leveller" tt9_4,.int 2 vt9_4⟩,⟨hh9_5,.str "not taut" tt9_5,.int 2 vt9_5⟩,⟨hh9_6,.str "smooth" tt9_6,.int 3 vt9_6⟩,⟨hh9_7,.str "stair" tt9_7,.int 2 vt9_7⟩,⟨hh9_8,.str "settled" tt9_8,.int 2 vt9_8⟩,⟨hh9_9,.str "store" tt9_9,.int 3 vt9_9⟩,⟨hh9_10,.str "speeds" tt9_10,.int 2 vt9_10⟩,⟨hh9_11,.str "done" tt9_11,.int 3 vt9_11⟩] ep9,#[]⟩)
  {C10:Addr} {ep10:Nat} {hh10_0 hh10_1 hh10_2 hh10_3 hh10_4 hh10_5 hh10_6 hh10_7:Int} {tt10_0 tt10_1 tt10_2 tt10_3 tt10_4 tt10_5 tt10_6 tt10_7:Tok} {vt10_0:Addr} {vt10_1:Addr} {vt10_2:Addr} {vt10_3:Addr} {vt10_4:Addr} {vt10_5:Addr} {vt10_6:Addr} {vt10_7:Addr} (gl10: ~~~"WITHOUT_PAPER"=some (some (.ref C10))) (lo10:(C10==sysModules)=false)
  (lk10:K.lookup C10=some ⟨.type "dict",none,.dict #[⟨hh10_0,.str "taut" tt10_0,.ref vt10_0⟩,⟨hh10_1,.str "loose" tt10_1,.ref vt10_1⟩,⟨hh10_2,.str "ring" tt10_2,.ref vt10_2⟩,⟨hh10_3,.str "smooth" tt10_3,.ref vt10_3⟩,⟨hh10_4,.str "stair" tt10_4,.ref vt10_4⟩,⟨hh10_5,.str "store" tt10_5,.ref vt10_5⟩,⟨hh10_6,.str "speeds" tt10_6,.ref vt10_6⟩,⟨hh10_7,.str "done" tt10_7,.ref vt10_7⟩] ep10,#[]⟩)
  (fn10_0: ~~~"taut_holds"=some (some (.ref vt10_0)))
  (fn10_1: ~~~"loose_holds"=some (some (.ref vt10_1)))
  (fn10_2: ~~~"ring_holds"=some (some (.ref vt10_2)))
  (fn10_3: ~~~"smooth_holds"=some (some (.ref vt10_3)))
  (fn10_4: ~~~"stair_holds"=some (some (.ref vt10_4)))
  (fn10_5: ~~~"store_holds"=some (some (.ref vt10_5)))
  (fn10_6: ~~~"speeds_hold"=some (some (.ref vt10_6)))
  (fn10_7: ~~~"done_holds"=some (some (.ref vt10_7)))
  {C11:Addr} {ep11:Nat} {hh11_0 hh11_1 hh11_2 hh11_3:Int} {tt11_0 tt11_1 tt11_2 tt11_3:Tok} {vt11_0:Addr} {vt11_1:Addr} {vt11_2:Addr} {vt11_3:Addr} (gl11: ~~~"WITH_PAPER"=some (some (.ref C11))) (lo11:(C11==sysModules)=false)
  (lk11:K.lookup C11=some ⟨.type "dict",none,.dict #[⟨hh11_0,.str "leveller" tt11_0,.ref vt11_0⟩,⟨hh11_1,.str "no leveller" tt11_1,.ref vt11_1⟩,⟨hh11_2,.str "not taut" tt11_2,.ref vt11_2⟩,⟨hh11_3,.str "settled" tt11_3,.ref vt11_3⟩] ep11,#[]⟩)
  (fn11_0: ~~~"leveller_holds"=some (some (.ref vt11_0)))
  (fn11_1: ~~~"no_leveller_holds"=some (some (.ref vt11_1)))
  (fn11_2: ~~~"not_taut_holds"=some (some (.ref vt11_2)))
  (fn11_3: ~~~"settled_holds"=some (some (.ref vt11_3)))
  (tab:xTabB K=true)
  : ∃ fd:FuncData,(∀ (s:Shared) (v:Value),BindsTo s fd ⟨[v],[]⟩ [("_law_script",v)])/\∀ base:Heap,K.In base->base.Ns mainGlobals mg->FnOk l.prog w K mg base (CXR l.prog w) 52 fa fd ["_law_script"] (liftSp K SLaw):=by
 obtain @⟨f51,oc51,od51,an51,sl51,kV51,dc51,pm51,cd51,ct51,a51,l51,c51,k51⟩:=h51;have e:=hfa.symm.trans (mg_of X G a51);cases e;have B:Blt mg:=⟨fun b=>by cases b<;>first|exact mg_none_of X G z0|exact mg_none_of X G z1|exact mg_none_of X G z2|exact mg_none_of X G z3|exact mg_none_of X G z4|exact mg_none_of X G z5|exact mg_none_of X G z6|exact mg_none_of X G z7|exact mg_none_of X G z8|exact mg_none_of X G z9|exact mg_none_of X G z10|exact mg_none_of X G z11|exact mg_none_of X G z16|exact mg_none_of X G z19,fun t=>by cases t<;>first|exact mg_none_of X G z0|exact mg_none_of X G z1|exact mg_none_of X G z2|exact mg_none_of X G z3|exact mg_none_of X G z4|exact mg_none_of X G z5|exact mg_none_of X G z6|exact mg_none_of X G z7|exact mg_none_of X G z8|exact mg_none_of X G z9|exact mg_none_of X G z10|exact mg_none_of X G z11|exact mg_none_of X G z12|exact mg_none_of X G z13|exact mg_none_of X G z15,mg_none_of X G z14,mg_none_of X G z17,mg_none_of X G z18⟩
 have F51:=fun_mk (st:=s_51) l51 c51 k51;refine⟨fnOf "law" "law" (defArgs s_51) (defBody s_51) (defScope s_51) .none kV51 dc51 pm51 an51 cd51 ct51,fun s v=>.of_eq rfl,fun base _ _=>?_⟩;have Z:Zc l.prog w K h mg base:=⟨X,G,B,tab⟩;have G0:GloE K mg "LAST_HOUR" G_LAST_HOUR:=⟨_,.int 24,mg_of X G gl0,⟨_,rfl⟩,fun _=>.int _⟩;have G1:GloE K mg "MOST_HOURS" G_MOST_HOURS:=⟨_,.int 24,mg_of X G gl1,⟨_,rfl⟩,fun _=>.int _⟩;have G2:GloE K mg "MOST_JOBS_checker" G_MOST_JOBS_checker:=⟨_,.int 12,mg_of X G gl2,⟨_,rfl⟩,fun _=>.int _⟩;have G3:GloE K mg "MOST_JOBS_jobs" G_MOST_JOBS_jobs:=⟨_,.int 12,mg_of X G gl3,⟨_,rfl⟩,fun _=>.int _⟩;have G4:GloE K mg "MOST_PLACES" G_MOST_PLACES:=⟨_,.int 25,mg_of X G gl4,⟨_,rfl⟩,fun _=>.int _⟩;have G5:GloE K mg "NOUGHT" G_NOUGHT:=glo_of_pair X G gl5 lk5;have G6:GloE K mg "NoJobs" (.cls "NoJobs"):=glo_of_cls X G %[|4] gl6;have G7:GloE K mg "NoNumber" (.cls "NoNumber"):=glo_of_cls X G %[|4] gl7
 have G8:GloE K mg "NoTube" (.cls "NoTube"):=glo_of_cls X G %[|4] gl8;have G9:GloE K mg "SIZES" G_SIZES:=glo_of_sd (us:=[.int 2 vt9_0,.int 2 vt9_1,.int 2 vt9_2,.int 2 vt9_3,.int 2 vt9_4,.int 2 vt9_5,.int 3 vt9_6,.int 2 vt9_7,.int 2 vt9_8,.int 3 vt9_9,.int 2 vt9_10,.int 3 vt9_11]) (vs:=[.int 2,.int 2,.int 2,.int 2,.int 2,.int 2,.int 3,.int 2,.int 2,.int 3,.int 2,.int 3]) X G gl9 lo9 lk9 ⟨rfl,rfl,rfl⟩ rfl (.cons rfl (.cons rfl (.cons rfl (.cons rfl (.cons rfl (.cons rfl (.cons rfl (.cons rfl (.cons rfl (.cons rfl (.cons rfl (.cons rfl .nil)))))))))))) (.cons ⟨_,rfl⟩ (.cons ⟨_,rfl⟩ (.cons ⟨_,rfl⟩ (.cons ⟨_,rfl⟩ (.cons ⟨_,rfl⟩ (.cons ⟨_,rfl⟩ (.cons ⟨_,rfl⟩ (.cons ⟨_,rfl⟩ (.cons ⟨_,rfl⟩ (.cons ⟨_,rfl⟩ (.cons ⟨_,rfl⟩ (.cons ⟨_,rfl⟩ .nil)))))))))))) (fun _=>.cons (.int _) (.cons (.int _) (.cons (.int _) (.cons (.int _) (.cons (.int _) (.cons (.int _) (.cons (.int _) (.cons (.int _) (.cons (.int _) (.cons (.int _) (.cons (.int _) (.cons (.int _) (.nil)))))))))))))
 have G10:GloE K mg "WITHOUT_PAPER" G_WITHOUT_PAPER:=glo_of_sd (us:=[.ref vt10_0,.ref vt10_1,.ref vt10_2,.ref vt10_3,.ref vt10_4,.ref vt10_5,.ref vt10_6,.ref vt10_7]) (vs:=[.ref vt10_0,.ref vt10_1,.ref vt10_2,.ref vt10_3,.ref vt10_4,.ref vt10_5,.ref vt10_6,.ref vt10_7]) X G gl10 lo10 lk10 ⟨rfl,rfl,rfl⟩ rfl (.cons rfl (.cons rfl (.cons rfl (.cons rfl (.cons rfl (.cons rfl (.cons rfl (.cons rfl .nil)))))))) (.cons rfl (.cons rfl (.cons rfl (.cons rfl (.cons rfl (.cons rfl (.cons rfl (.cons rfl .nil)))))))) (fun _=>.cons (.fn fn10_0) (.cons (.fn fn10_1) (.cons (.fn fn10_2) (.cons (.fn fn10_3) (.cons (.fn fn10_4) (.cons (.fn fn10_5) (.cons (.fn fn10_6) (.cons (.fn fn10_7) (.nil)))))))));have G11:GloE K mg "WITH_PAPER" G_WITH_PAPER:=glo_of_sd (us:=[.ref vt11_0,.ref vt11_1,.ref vt11_2,.ref vt11_3]) (vs:=[.ref vt11_0,.ref vt11_1,.ref vt11_2,.ref vt11_3]) X G gl11 lo11 lk11 ⟨rfl,rfl,rfl⟩ rfl (.cons rfl (.cons rfl (.cons rfl (.cons rfl .nil)))) (.cons rfl (.cons rfl (.cons rfl (.cons rfl .nil)))) (fun _=>.cons (.fn fn11_0) (.cons (.fn fn11_1) (.cons (.fn fn11_2) (.cons (.fn fn11_3) (.nil)))))
 have GF45:GloE K mg "done_holds" (.fn "done_holds"):=glo_of_has X G h45;have E0:=DefIs.ok 0 D_0 h0 Z (by sleep 51);have E1:=DefIs.ok 1 D_1 h1 Z (by sleep 51);have E2:=DefIs.ok 2 D_2 h2 Z (by sleep 51);have E3:=DefIs.ok 3 D_3 h3 Z (by sleep 51);have E4:=DefIs.ok 4 D_4 h4 Z (by sleep 51);have E5:=DefIs.ok 5 D_5 h5 Z (by sleep 51);have E6:=DefIs.ok 6 D_6 h6 Z (by sleep 51);have E7:=DefIs.ok 7 D_7 h7 Z (by sleep 51);have E8:=DefIs.ok 8 D_8 h8 Z (by sleep 51);have E9:=DefIs.ok 9 D_9 h9 Z (by sleep 51);have E10:=DefIs.ok 10 D_10 h10 Z (by sleep 51);have E11:=DefIs.okA 11 D_11 h11 Z (by sleep 51);have E12:=DefIs.ok 12 D_12 h12 Z (by sleep 51);have E13:=DefIs.ok 13 D_13 h13 Z (by sleep 51);have E14:=DefIs.ok 14 D_14 h14 Z (by sleep 51);have E15:=DefIs.ok 15 D_15 h15 Z (by sleep 51);have E16:=DefIs.ok 16 D_16 h16 Z (by sleep 51);have E17:=DefIs.ok 17 D_17 h17 Z (by sleep 51);have E18:=DefIs.ok 18 D_18 h18 Z (by sleep 51)
 have E19:=DefIs.ok 19 D_19 h19 Z (by sleep 51);have E20:=DefIs.ok 20 D_20 h20 Z (by sleep 51);have E21:=DefIs.ok 21 D_21 h21 Z (by sleep 51);have E22:=DefIs.ok 22 D_22 h22 Z (by sleep 51);have E23:=DefIs.ok 23 D_23 h23 Z (by sleep 51);have E24:=DefIs.ok 24 D_24 h24 Z (by sleep 51);have E25:=DefIs.ok 25 D_25 h25 Z (by sleep 51);have E26:=DefIs.ok 26 D_26 h26 Z (by sleep 51);have E27:=DefIs.ok 27 D_27 h27 Z (by sleep 51);have E28:=DefIs.ok 28 D_28 h28 Z (by sleep 51);have E29:=DefIs.ok 29 D_29 h29 Z (by sleep 51);have E30:=DefIs.ok 30 D_30 h30 Z (by sleep 51);have E31:=DefIs.ok 31 D_31 h31 Z (by sleep 51);have E32:=DefIs.ok 32 D_32 h32 Z (by sleep 51);have E33:=DefIs.ok 33 D_33 h33 Z (by sleep 51);have E34:=DefIs.ok 34 D_34 h34 Z (by sleep 51);have E35:=DefIs.ok 35 D_35 h35 Z (by sleep 51);have E36:=DefIs.okA 36 D_36 h36 Z (by sleep 51);have E37:=DefIs.ok 37 D_37 h37 Z (by sleep 51);have E38:=DefIs.ok 38 D_38 h38 Z (by sleep 51)
 have E39:=DefIs.ok 39 D_39 h39 Z (by sleep 51);have E40:=DefIs.ok 40 D_40 h40 Z (by sleep 51);have E41:=DefIs.ok 41 D_41 h41 Z (by sleep 51);have E42:=DefIs.ok 42 D_42 h42 Z (by sleep 51);have E43:=DefIs.ok 43 D_43 h43 Z (by sleep 51);have E44:=DefIs.ok 44 D_44 h44 Z (by sleep 51);have E45:=DefIs.ok 45 D_45 h45 Z (by sleep 51);have E46:=DefIs.ok 46 D_46 h46 Z (by sleep 51);have E47:=DefIs.ok 47 D_47 h47 Z (by sleep 51);have E48:=DefIs.ok 48 D_48 h48 Z (by sleep 51);have E49:=DefIs.ok 49 D_49 h49 Z (by sleep 51);have E50:=DefIs.ok 50 D_50 h50 Z (by sleep 51);exact def_fn (k:=51) C_51 F51 B tab sc_51 ck_51 (by sleep 51) len_51 vc_51
end K
set_option bootstrap.genMatcherCode true
open PySem PySem.W PyProof.Rows
set_option maxRecDepth 100000 in
set_option maxHeartbeats 0 in
theorem PySem.Challenge.cw_levelcord_k66_parts_of_jobs_holds : PySem.Challenge.rw_levelcord_k66_parts_of_jobs.Holds := by
 w_on;o_law;k_head;(case hw=>w_witness2)
 k_fill
 refine DL.walkD (l:=PySem.Challenge.rw_levelcord_k66_parts_of_jobs) (k:=52) (x:="_law_script") rfl rfl ⟨rfl,by decide,by decide⟩ (fun w h Y=>PySem.W.kIn_of Y) ?F
 case F =>
  intro w mg fa h KX G hmg;refine' K.all_mk KX G hmg ?h0 ?h1 ?h2 ?h3 ?h4 ?h5 ?h6 ?h7 ?h8 ?h9 ?h10 ?h11 ?h12 ?h13 ?h14 ?h15 ?h16 ?h17 ?h18 ?h19 ?h20 ?h21 ?h22 ?h23 ?h24 ?h25 ?h26 ?h27 ?h28 ?h29 ?h30 ?h31 ?h32 ?h33 ?h34 ?h35 ?h36 ?h37 ?h38 ?h39 ?h40 ?h41 ?h42 ?h43 ?h44 ?h45 ?h46 ?h47 ?h48 ?h49 ?h50 ?h51 ?z0 ?z1 ?z2 ?z3 ?z4 ?z5 ?z6 ?z7 ?z8 ?z9 ?z10 ?z11 ?z12 ?z13 ?z14 ?z15 ?z16 ?z17 ?z18 ?z19 ?gl0 ?gl1 ?gl2 ?gl3 ?gl4 ?gl5 ?lk5 ?gl6 ?gl7 ?gl8 ?gl9 ?lo9 ?lk9 ?gl10 ?lo10 ?lk10 ?fn10_0 ?fn10_1 ?fn10_2 ?fn10_3 ?fn10_4 ?fn10_5 ?fn10_6 ?fn10_7 ?gl11 ?lo11 ?lk11 ?fn11_0 ?fn11_1 ?fn11_2 ?fn11_3 ?tab
  case h0|h1|h2|h3|h4|h5|h6|h7|h8|h9|h10|h12|h13|h14|h15|h16|h17|h18|h19|h20|h21|h22|h23|h24|h25|h26|h27|h28|h29|h30|h31|h32|h33|h34|h35|h37|h38|h39|h40|h41|h42|h43|h44|h45|h46|h47|h48|h49|h50|h51=>(refine' DL.Has.mk ?a ?l ?c ?k;case a|l|c|k=>k_is)
  case h11|h36=>(refine' DL.HasA.mk ?a ?l ?c ?k;case a|l|c|k=>k_is)
  case z0|z1|z2|z3|z4|z5|z6|z7|z8|z9|z10|z11|z12|z13|z14|z15|z16|z17|z18|z19|gl0|gl1|gl2|gl3|gl4|gl5|lk5|gl6|gl7|gl8|gl9|lk9|gl10|lk10|fn10_0|fn10_1|fn10_2|fn10_3|fn10_4|fn10_5|fn10_6|fn10_7|gl11|lk11|fn11_0|fn11_1|fn11_2|fn11_3=>k_is
  case lo9|lo10|lo11=>kernel_rfl
  (case tab=>kernel_rfl)
