import PyProof.Rows.All
import Wide.All
import OpenK.AllK
import Wide.FinOn
import Lean
import PyProof.EqAt
import PyProof.EqKinds
import PyProof.TupleCall
import PyProof.SumAnyB
import PySem.Challenge.RW_levelcord_k86_jobs_written
set_option Elab.async false
set_option linter.all false
set_option maxRecDepth 100000
set_option maxHeartbeats 4000000
set_option genSizeOf false
local macro_rules
 | `(tactic| simp[0,$xs,*])=>do
  let ys:=("isSub dVar dC d2 dNil dCons dTup dLst dCB dCall dTest dAnd dOr dNot dAndV dOrV dIfE bInt bOp cInt cOp fAbs fMax fMin fStr fDivmod fInt truD dTru dChain dNotB dNeg dNoPart dPart dSl dDic0 dDic1 dRev dNext dSeq dBreak dCont dDrop dRet dRetN dIfS dNever gdName gdNil gdCons gdSub dAsg dPar dTwo dAug itRng fSum dCallV dApp dExt dIns dIdx biSem tyStr CGs.len plain rE rEs rO rG rGs rI dRaise dTry rS startD".splitOn " ").toArray.map fun s=>(⟨Lean.mkNode `Lean.Parser.Tactic.simpLemma #[Lean.mkNullNode,Lean.mkNullNode,Lean.mkIdent (`DL++s.toName)]⟩:Lean.TSyntax `Lean.Parser.Tactic.simpLemma)
  `(tactic| simp[$ys,*,$xs,*])
 | `(tactic| dsimp only[0,$xs,*])=>do
  let ys:=("isSub dVar dC d2 dNil dCons dTup dLst dCB dCall dTest dAnd dOr dNot dAndV dOrV dIfE bInt bOp cInt cOp fAbs fMax fMin fStr fDivmod fInt truD dTru dChain dNotB dNeg dNoPart dPart dSl dDic0 dDic1 dRev dNext dSeq dBreak dCont dDrop dRet dRetN dIfS dNever gdName gdNil gdCons gdSub dAsg dPar dTwo dAug itRng fSum dCallV dApp dExt dIns dIdx biSem tyStr CGs.len plain rE rEs rO rG rGs rI dRaise dTry rS startD".splitOn " ").toArray.map fun s=>(⟨Lean.mkNode `Lean.Parser.Tactic.simpLemma #[Lean.mkNullNode,Lean.mkNullNode,Lean.mkIdent (`DL++s.toName)]⟩:Lean.TSyntax `Lean.Parser.Tactic.simpLemma)
  `(tactic| dsimp only[$ys,*,$xs,*])
local macro_rules | `(tactic| omega)=>`(tactic| lia)
set_option bootstrap.genMatcherCode false
noncomputable section
namespace L2
open PySem PySem.Spec PyProof.Rows
set_option tactic.hygienic false
noncomputable abbrev Key:=Sum Int Str
noncomputable def keyIs:Key->Value->Bool
 | .inl k,v=>Value.isInt k v
 | .inr x,v=>Value.isStrOf x v
noncomputable def keyH (w:World):Key->Int
 | .inl k=>hashInt k
 | .inr x=>hashStr w x
theorem keyIs_shape:∀ {k:Key} {v:Value},keyIs k v=true->(∃ i t,k=Sum.inl i/\v=Value.int i t)\/(∃ x t,k=Sum.inr x/\v=Value.str x t)
 | .inl i,v,h=>by
  obtain⟨t,e⟩:=Value.isInt_shape (k:=i) (v:=v) h
  exact .inl ⟨i,t,rfl,e⟩
 | .inr x,v,h=>by
  obtain⟨t,e⟩:=Value.isStrOf_shape (x:=x) (v:=v) h
  exact .inr ⟨x,t,rfl,e⟩
theorem key_ll (a b:Int):decide ((Sum.inl a:Key)=Sum.inl b)=(a==b):=by
 by_cases e:a=b
 ·subst e;simp
 ·have h:¬ (Sum.inl a:Key)=Sum.inl b:=fun q=>e (Sum.inl.inj q)
  rw[decide_eq_false h]
  exact (beq_eq_false_iff_ne.mpr e).symm
theorem key_rr (a b:Str):decide ((Sum.inr a:Key)=Sum.inr b)=decide (a=b):=by
 by_cases e:a=b
 ·subst e;simp
 ·have h:¬ (Sum.inr a:Key)=Sum.inr b:=fun q=>e (Sum.inr.inj q)
  rw[decide_eq_false h,decide_eq_false e]
theorem key_lr (a:Int) (b:Str):decide ((Sum.inl a:Key)=Sum.inr b)=false:=decide_eq_false (fun q=>nomatch q)
theorem key_rl (a:Str) (b:Int):decide ((Sum.inr a:Key)=Sum.inl b)=false:=decide_eq_false (fun q=>nomatch q)
noncomputable def mixKind (prog:Program) (w:World):PySem.KeyKind prog w Key where
 is:=keyIs
 hash:=keyH w
 inj:=fun v a b ha hb=>by
  rcases keyIs_shape ha with ⟨i,t,rfl,rfl⟩|⟨x,t,rfl,rfl⟩
  ·rcases keyIs_shape hb with ⟨j,u,rfl,e⟩|⟨y,u,rfl,e⟩
   ·injection e with e1 _;rw[e1]
   ·exact nomatch e
  ·rcases keyIs_shape hb with ⟨j,u,rfl,e⟩|⟨y,u,rfl,e⟩
   ·exact nomatch e
   ·injection e with e1 _;rw[e1]
 byValue:=fun k v h=>by
  rcases keyIs_shape h with ⟨i,t,rfl,rfl⟩|⟨x,t,rfl,rfl⟩<;>rfl
 pyHash:=fun hv h=>by
  rcases keyIs_shape hv with ⟨i,t,rfl,rfl⟩|⟨x,t,rfl,rfl⟩
  ·exact wpAny_pyHash_int h
  ·exact wpAny_pyHash_str h
 eqBool:=fun hu hv h=>by
  rcases keyIs_shape hu with ⟨i,t,rfl,rfl⟩|⟨x,t,rfl,rfl⟩
  ·rcases keyIs_shape hv with ⟨j,u,rfl,rfl⟩|⟨y,u,rfl,rfl⟩
   ·rw[key_ll] at h;exact wpAny_eqBool_int h
   ·rw[key_lr] at h;exact SeqAt.EqAt.int_str i t y u _ _ _ _ h
  ·rcases keyIs_shape hv with ⟨j,u,rfl,rfl⟩|⟨y,u,rfl,rfl⟩
   ·rw[key_rl] at h;exact SeqAt.EqAt.str_int x t j u _ _ _ _ h
   ·rw[key_rr] at h;exact wpAny_eqBool_str h
 «strs»:=fun k x t v h=>by
  rcases keyIs_shape h with ⟨i,u,rfl,e⟩|⟨y,u,rfl,e⟩
  ·exact nomatch e
  ·injection e with e1 _
   subst e1
   cases v<;>rfl
end L2
namespace L2
open PySem PySem.Spec PyProof.Rows
inductive V where
 | non|bl (b:Bool)|int (i:Int)|str (x:Str)|byt (b:Array UInt8)|flt (b:UInt64)|ref (a:Addr)|ty (n:String)
 deriving DecidableEq
noncomputable def RelV:V->Value->Prop
 | .non,u=>u=Value.none
 | .bl b,u=>u=Value.bool b
 | .int i,u=>∃ t,u=Value.int i t
 | .str x,u=>∃ t,u=Value.str x t
 | .byt b,u=>∃ t,u=Value.bytes b t
 | .flt b,u=>∃ t,u=Value.float b t
 | .ref a,u=>u=Value.ref a
 | .ty n,u=>u=Value.type n
noncomputable abbrev Vals:List V->List Value->Prop:=Paired RelV
theorem Vals.length {xs:List V} {us:List Value} (r:Vals xs us):xs.length=us.length:=Paired.length r
theorem Vals.get:∀ {xs:List V} {us:List Value} {i:Nat} {x:V},Vals xs us->xs[i]?=some x->∃ u,us[i]?=some u/\RelV x u
 | _,_,_,_,.nil,e=>by simp at e
 | _,_,0,_,.cons r _,e=>by simp at e;subst e;exact⟨_,rfl,r⟩
 | _,_,i+1,x,.cons _ t,e=>by
  obtain⟨u,h1,h2⟩:=Vals.get (i:=i) (x:=x) t (by simpa using e)
  exact⟨u,by simpa using h1,h2⟩
theorem Vals.set {x:V} {u:Value} (r:RelV x u):∀ {xs:List V} {us:List Value} (i:Nat),Vals xs us->Vals (xs.set i x) (us.set i u)
 | _,_,_,.nil=>.nil
 | _,_,0,.cons _ t=>.cons r t
 | _,_,i+1,.cons q t=>.cons q (Vals.set r i t)
theorem Vals.append:∀ {xs ys:List V} {us ws:List Value},Vals xs us->Vals ys ws->Vals (xs++ys) (us++ws)
 | _,_,_,_,.nil,s=>s
 | _,_,_,_,.cons r t,s=>.cons r (Vals.append t s)
theorem Vals.take:∀ {xs:List V} {us:List Value} (n:Nat),Vals xs us->Vals (xs.take n) (us.take n)
 | _,_,0,_=>.nil
 | _,_,_+1,.nil=>.nil
 | _,_,n+1,.cons r t=>.cons r (Vals.take n t)
theorem Vals.drop:∀ {xs:List V} {us:List Value} (n:Nat),Vals xs us->Vals (xs.drop n) (us.drop n)
 | _,_,0,r=>r
 | _,_,_+1,.nil=>.nil
 | _,_,n+1,.cons _ t=>Vals.drop n t
noncomputable def RelO:Option V->Option Value->Prop
 | some v,some u=>RelV v u
 | none,none=>True
 | _,_=>False
noncomputable def KV {κ:Type}:List (κ×V)->List (κ×Value)->Prop:=Paired fun (p:κ×V) (q:κ×Value)=>p.1=q.1/\RelV p.2 q.2
noncomputable def kV:Key->V
 | .inl i=>.int i
 | .inr x=>.str x
inductive HO where
 | lst (xs:List V)
 | tup (xs:List V)
 | dK (kvs:List (Key×V))|dT (kvs:List (List Key×V))
 | set (S:Int->Bool) (n:Nat)
 | ins (C dx:Addr) (fs:List (Str×V))
 | own (x:Addr)
 | xd (fs:List (Str×V))
 | met (f x:Addr)
 | rng (lo hi:Int)
 | frz (o:Obj) (u:HO)
 | tbl (ps:Array Value)
 | ext (φ:Heap->Prop)
noncomputable abbrev Hp:=Addr->Option HO
noncomputable def upd (H:Hp) (a:Addr) (o:HO):Hp:=fun b=>if b=a then some o else H b
theorem upd_same {H:Hp} {a:Addr} {o:HO}:upd H a o a=some o:=by unfold upd;rw[if_pos rfl]
theorem upd_ne {H:Hp} {a b:Addr} {o:HO} (h:b≠a):upd H a o b=H b:=by unfold upd;rw[if_neg h]
theorem ne_of_none {H:Hp} {a b:Addr} {o:HO} (h:H a=some o) (h':H b=none):a≠b:=by
 intro e;subst e;rw[h] at h';cases h'
section
variable (P:Program) (w:World)
noncomputable def ObjOk (H:Hp) (h:Heap) (a:Addr):HO->Prop
 | .lst xs=>xs.length<=sizeLine/\∃ (its:List Value) (n:Nat),Vals xs its/\h.get? a=some {cls:=.type "list",data:=.seq its.toArray n}
 | .tup xs=>xs.length<=sizeLine/\∃ its:List Value,Vals xs its/\IsTup h a its.toArray
 | .dK kvs=>kvs.length<=sizeLine/\(a==sysModules)=false/\∃ vs,KV kvs vs/\h.DictOf (mixKind P w) a vs
 | .dT kvs=>kvs.length<=sizeLine/\(a==sysModules)=false/\∃ xs:List (List Key×Addr×Value),
   Paired (fun (p:List Key×V) (q:List Key×Addr×Value)=>p.1=q.1/\H q.2.1=some (.tup (p.1.map kV))/\RelV p.2 q.2.2) kvs xs /\
   ∃ o es ep,h.get? a=some o/\o.ExactDict/\o.data=.dict es ep/\es.toList=xs.map (entryOfKey (tupleKind (mixKind P w)))/\(xs.map (·.1)).Nodup
 | .set S n=>h.SetOf (intKind P w) a S n
 | .ins C dx fs=>H dx=some (.own a)/\fs.length<=1000/\dx≠a/\h.get? a=some (PySem.W.instObj C dx) /\
   ∃ mA,h.Ns1 dx mA/\(∀ f,RelO (fs.lookup f) (mA f))/\PySem.Within mA (fs.map (·.1))
 | .own _=>∃ o,h.get? a=some o
 | .xd fs=>∃ mA,h.Ns1 a mA/\∀ f,RelO (fs.lookup f) (mA f)
 | .rng lo hi=>∃ t u v,h.get? a=some {cls:=.type "range",data:=.fields #[.int lo t,.int hi u,.int 1 v]}
 | .frz o u=>h.get? a=some o/\ObjOk H h a u
 | .tbl ps=>h.get? a=some {cls:=.none,data:=.fields ps}
 | .met f x=>h.get? a=some (PySem.W.methodObj (.ref f) (.ref x))
 | .ext φ=>φ h/\(∃ o,h.get? a=some o)/\∀ h1 h2:Heap,φ h1->(∀ o,h1.get? a=some o->h2.get? a=some o)->φ h2
noncomputable def HOk (H:Hp) (h:Heap):Prop:=∀ a o,H a=some o->ObjOk P w H h a o
end
section
variable {P:Program} {w:World} {H H':Hp} {h h':Heap} {a:Addr} {o:HO}
theorem ObjOk.lt (x:ObjOk P w H h a o):a<h.objs.size:=by
 cases o with
 | lst xs=>obtain⟨_,_,_,_,e⟩:=x;exact Heap.lt_size e
 | tup xs=>obtain⟨_,_,_,p⟩:=x;exact p.lt
 | dK kvs=>obtain⟨_,_,_,_,o,_,_,e,_⟩:=x;exact Heap.lt_size e
 | dT kvs=>obtain⟨_,_,_,_,o,_,_,e,_⟩:=x;exact Heap.lt_size e
 | set S n=>obtain⟨o,_,_,_,e,_⟩:=x;exact Heap.lt_size e
 | ins C dx fs=>obtain⟨_,_,_,e,_⟩:=x;exact Heap.lt_size e
 | own y=>obtain⟨_,e⟩:=x;exact Heap.lt_size e
 | xd fs=>obtain⟨_,⟨_,_,_,e,_⟩,_⟩:=x;exact Heap.lt_size e
 | rng lo hi=>obtain⟨_,_,_,e⟩:=x;exact Heap.lt_size e
 | frz ob u=>obtain⟨e,_⟩:=x;exact Heap.lt_size e
 | tbl ps=>exact Heap.lt_size (show h.get? a=some _ from x)
 | met f y=>exact Heap.lt_size (show h.get? a=some _ from x)
 | ext φ=>obtain⟨_,⟨_,e⟩,_⟩:=x;exact Heap.lt_size e
theorem Paired.mapP {α β:Type} {F G:α->β->Prop}:∀ {l₁:List α} {l₂:List β},Paired F l₁ l₂->(∀ a b,F a b->G a b)->Paired G l₁ l₂
 | _,_,.nil,_=>.nil
 | _,_,.cons r t,f=>.cons (f _ _ r) (Paired.mapP t f)
theorem ObjOk.stay (x:ObjOk P w H h a o) (k:∀ b u,(b=a\/H b=some (.own a))->h.get? b=some u->h'.get? b=some u)
  (ho:∀ b,H b=some (.own a)->H' b=some (.own a)) (ht:∀ b xs,H b=some (.tup xs)->H' b=some (.tup xs)):ObjOk P w H' h' a o:=by
 induction o with
 | lst xs=>obtain⟨z,its,n,r,e⟩:=x;exact⟨z,its,n,r,k _ _ (.inl rfl) e⟩
 | tup xs=>obtain⟨z,its,r,ob,e,c⟩:=x;exact⟨z,its,r,ob,k _ _ (.inl rfl) e,c⟩
 | dK kvs=>obtain⟨z,y,vs,r,ob,es,ep,e,c⟩:=x;exact⟨z,y,vs,r,ob,es,ep,k _ _ (.inl rfl) e,c⟩
 | dT kvs =>
  obtain⟨z,y,xs,r,ob,es,ep,e,c⟩:=x
  exact⟨z,y,xs,Paired.mapP r fun p q z=>⟨z.1,ht _ _ z.2.1,z.2.2⟩,ob,es,ep,k _ _ (.inl rfl) e,c⟩
 | set S n=>obtain⟨ob,es,ep,t,e,c⟩:=x;exact⟨ob,es,ep,t,k _ _ (.inl rfl) e,c⟩
 | ins C dx fs =>
  obtain⟨d,z,ne,e,mA,⟨od,es,ep,e2,c⟩,r⟩:=x
  exact⟨ho _ d,z,ne,k _ _ (.inl rfl) e,mA,⟨od,es,ep,k _ _ (.inr d) e2,c⟩,r⟩
 | own y=>obtain⟨ob,e⟩:=x;exact⟨ob,k _ _ (.inl rfl) e⟩
 | xd fs=>obtain⟨mA,⟨od,es,ep,e,c⟩,r⟩:=x;exact⟨mA,⟨od,es,ep,k _ _ (.inl rfl) e,c⟩,r⟩
 | rng lo hi=>obtain⟨t,u,v,e⟩:=x;exact⟨t,u,v,k _ _ (.inl rfl) e⟩
 | frz ob u ih=>obtain⟨e,q⟩:=x;exact⟨k _ _ (.inl rfl) e,ih q⟩
 | tbl ps =>
  have e:h.get? a=some {cls:=.none,data:=.fields ps}:=x
  show h'.get? a=some {cls:=.none,data:=.fields ps}
  exact k a _ (.inl rfl) e
 | met f y =>
  have e:h.get? a=some (PySem.W.methodObj (.ref f) (.ref y)):=x
  show h'.get? a=some (PySem.W.methodObj (.ref f) (.ref y))
  exact k a _ (.inl rfl) e
 | ext φ=>obtain⟨p,⟨o,e⟩,st⟩:=x;exact⟨st _ _ p fun o q=>k _ _ (.inl rfl) q,⟨o,k _ _ (.inl rfl) e⟩,st⟩
theorem HOk.lt (x:HOk P w H h) (e:H a=some o):a<h.objs.size:=(x a o e).lt
theorem HOk.fresh (x:HOk P w H h) (e:h.objs.size<=a):H a=none:=by
 cases q:H a with
 | none=>rfl
 | some u=>exact absurd (Nat.lt_of_lt_of_le (x.lt q) e) (Nat.lt_irrefl _)
theorem HOk.kept (x:HOk P w H h) (k:∀ b u,h.get? b=some u->h'.get? b=some u):HOk P w H h':=fun a o e =>
 (x a o e).stay (fun b u _ q=>k b u q) (fun _ q=>q) fun _ _ q=>q
theorem HOk.laid (x:HOk P w H h) (k:∀ b u,h.get? b=some u->h'.get? b=some u) (hp:h.objs.size<=a) (new:ObjOk P w (upd H a o) h' a o):HOk P w (upd H a o) h':=fun b u e=>by
 have hn:=x.fresh hp
 by_cases hb:b=a
 ·subst hb;rw[upd_same] at e;cases e;exact new
 ·rw[upd_ne hb] at e
  exact (x b u e).stay (fun c v _ q=>k c v q) (fun c q=>by rw[upd_ne (ne_of_none q hn)];exact q) fun c xs q=>by rw[upd_ne (ne_of_none q hn)];exact q
end
noncomputable def Rd (H:Hp) (a:Addr) (u:HO):Prop:=H a=some u\/∃ o,H a=some (.frz o u)
theorem Rd.of {H:Hp} {a:Addr} {u:HO} (h:H a=some u):Rd H a u:=.inl h
theorem Rd.ok {P:Program} {w:World} {H:Hp} {h:Heap} {a:Addr} {u:HO} (r:Rd H a u) (x:HOk P w H h):ObjOk P w H h a u:=by
 rcases r with r|⟨o,r⟩
 ·exact x a u r
 ·obtain⟨_,q⟩:=x a _ r
  exact q
noncomputable def Mut:Option HO->Prop
 | some (.lst _)=>True
 | some (.dK _)=>True
 | some (.dT _)=>True
 | some (.set _ _)=>True
 | some (.ins _ _ _)=>True
 | some (.ext _)=>True
 | _=>False
section
variable {P:Program} {w:World} {H:Hp} {h h':Heap} {x e:Addr} {o':HO}
theorem HOk.write (ok:HOk P w H h) (mu:Mut (H x)) (he:e=x\/H e=some (.own x)) (k:∀ b u,b≠e->h.get? b=some u->h'.get? b=some u) (heo:∃ u,h'.get? e=some u)
  (new:ObjOk P w (upd H x o') h' x o'):HOk P w (upd H x o') h':=fun b u q=>by
 have nown:∀ c y,H c=some (.own y)->c≠x:=fun c y r z=>by subst z;rw[r] at mu;exact mu
 have ntup:∀ c xs,H c=some (.tup xs)->c≠x:=fun c xs r z=>by subst z;rw[r] at mu;exact mu
 by_cases hb:b=x
 ·subst hb;rw[upd_same] at q;cases q;exact new
 ·rw[upd_ne hb] at q
  by_cases hbe:b=e
  ·have q':H b=some (.own x):=by
    rcases he with z|z
    ·exact absurd (hbe.trans z) hb
    ·rw[hbe];exact z
   rw[q] at q';cases q'
   obtain⟨v,hv⟩:=heo
   exact⟨v,by rw[hbe];exact hv⟩
  ·refine (ok b u q).stay (fun c v hc r=>k c v ?_ r) (fun c r=>by rw[upd_ne (nown c b r)];exact r) fun c xs r=>by rw[upd_ne (ntup c xs r)];exact r
   rcases hc with rfl|hc
   ·exact hbe
   ·rintro rfl
    rcases he with z|z
    ·exact nown c b hc z
    ·rw[hc] at z;cases z;exact hb rfl
end
structure Un (fs ex:List Addr) (H H':Hp) (h h':Heap):Prop where
 keep:∀ b o,h.get? b=some o->H b=none->b ∉ fs->b ∉ ex->h'.get? b=some o
 slot:∀ b o,h.get? b=some o->H b=none->b∈fs->b ∉ ex->∃ sl,h'.get? b=some {o with slots:=sl}
 free:∀ b o,h.get? b=some o->H b=none->b ∉ ex->H' b=none
 there:∀ b o,h.get? b=some o->b ∉ ex->∃ o',h'.get? b=some o'
 tups:∀ b xs,H b=some (.tup xs)->H' b=some (.tup xs)
 frzs:∀ b o u,H b=some (.frz o u)->H' b=some (.frz o u)
 tbls:∀ b ps,H b=some (.tbl ps)->∃ more,H' b=some (.tbl (ps++more))
section
variable {fs fs' ex ex':List Addr} {H H1 H2:Hp} {h h1 h2 h':Heap} {a x e:Addr} {o:HO}
theorem Un.any (u:Un fs ex H H1 h h1) {b:Addr} {ob:Obj} (q:h.get? b=some ob) (n:H b=none) (hx:b ∉ ex):∃ sl,h1.get? b=some {ob with slots:=sl}:=by
 by_cases hb:b∈fs
 ·exact u.slot b ob q n hb hx
 ·exact⟨ob.slots,u.keep b ob q n hb hx⟩
theorem Un.trans (a:Un fs ex H H1 h h1) (b:Un fs ex H1 H2 h1 h2):Un fs ex H H2 h h2 where
 keep:=fun c ob q n hc hx=>b.keep c ob (a.keep c ob q n hc hx) (a.free c ob q n hx) hc hx
 slot:=fun c ob q n hc hx=>by
  obtain⟨sl,e1⟩:=a.slot c ob q n hc hx
  obtain⟨sl',e2⟩:=b.slot c _ e1 (a.free c ob q n hx) hc hx
  exact⟨sl',e2⟩
 free:=fun c ob q n hx=>by
  obtain⟨o',e1⟩:=a.there c ob q hx
  exact b.free c o' e1 (a.free c ob q n hx) hx
 there:=fun c ob q hx=>by
  obtain⟨o',e1⟩:=a.there c ob q hx
  exact b.there c o' e1 hx
 tups:=fun c xs q=>b.tups c xs (a.tups c xs q)
 frzs:=fun c ob xs q=>b.frzs c ob xs (a.frzs c ob xs q)
 tbls:=fun c ps q=>by
  obtain⟨m1,e1⟩:=a.tbls c ps q
  obtain⟨m2,e2⟩:=b.tbls c _ e1
  exact⟨m1++m2,by rw[e2,Array.append_assoc]⟩
theorem Un.kept (k:∀ b u,h.get? b=some u->h'.get? b=some u):Un fs ex H H h h' :=
 ⟨fun b ob q _ _ _=>k b ob q,fun b ob q _ _ _=>⟨ob.slots,k b ob q⟩,fun _ _ _ n _=>n,fun b ob q _=>⟨ob,k b ob q⟩,fun _ _ q=>q,fun _ _ _ q=>q,fun _ ps q=>⟨#[],by rw[q];simp⟩⟩
theorem Un.refl:Un fs ex H H h h:=Un.kept fun _ _ q=>q
theorem Un.laid (k:∀ b u,h.get? b=some u->h'.get? b=some u) (hp:h.objs.size<=a) (hn:H a=none):Un fs ex H (upd H a o) h h' where
 keep:=fun b u q _ _ _=>k b u q
 slot:=fun b u q _ _ _=>⟨u.slots,k b u q⟩
 free:=fun b u q n _=>by rw[upd_ne (Nat.ne_of_lt (Nat.lt_of_lt_of_le (Heap.lt_size q) hp))];exact n
 there:=fun b u q _=>⟨u,k b u q⟩
 tups:=fun b xs q=>by rw[upd_ne (ne_of_none q hn)];exact q
 frzs:=fun b u xs q=>by rw[upd_ne (ne_of_none q hn)];exact q
 tbls:=fun b ps q=>⟨#[],by rw[upd_ne (ne_of_none q hn),q];simp⟩
theorem Un.write (mu:Mut (H x)) (he:e=x\/H e=some (.own x)) (k:∀ b u,b≠e->h.get? b=some u->h'.get? b=some u) (heo:∃ u,h'.get? e=some u):Un fs ex H (upd H x o) h h':=by
 have hx:∀ b,H b=none->b≠x:=fun b n z=>by subst z;rw[n] at mu;exact mu
 have hb:∀ b,H b=none->b≠e:=fun b n z=>by
  subst z
  rcases he with r|r
  ·exact hx b n r
  ·rw[n] at r;cases r
 have hm:∀ b u,H b=some u->¬ Mut (some u)->b≠x:=fun b u q nm z=>by subst z;rw[q] at mu;exact nm mu
 refine⟨fun b u q n _ _=>k b u (hb b n) q,fun b u q n _ _=>⟨u.slots,k b u (hb b n) q⟩,fun b u q n _=>by rw[upd_ne (hx b n)];exact n,fun b u q _=>?_,
  fun b xs q=>by rw[upd_ne (hm b _ q fun z=>z)];exact q,fun b u xs q=>by rw[upd_ne (hm b _ q fun z=>z)];exact q,fun b ps q=>⟨#[],by rw[upd_ne (hm b _ q fun z=>z),q];simp⟩⟩
 by_cases hbe:b=e
 ·subst hbe;exact heo
 ·exact⟨u,k b u hbe q⟩
theorem Un.mono (u:Un fs ex H H1 h h1) (hs:∀ b∈fs,b∈fs') (hx:∀ b∈ex,b∈ex'):Un fs' ex' H H1 h h1 :=
 ⟨fun b ob q n hb he=>u.keep b ob q n (fun z=>hb (hs b z)) fun z=>he (hx b z),fun _ _ q n _ he=>u.any q n fun z=>he (hx _ z),fun b ob q n he=>u.free b ob q n fun z=>he (hx b z),fun b ob q he=>u.there b ob q fun z=>he (hx b z),u.tups,u.frzs,u.tbls⟩
end
noncomputable def trk (h:Heap) (H:Hp):List Addr:=(List.range h.objs.size).filter fun a=>(H a).isSome
noncomputable def hidT (h:Heap) (H:Hp):Heap:=PySem.W.hideAll h (trk h H)
theorem hidT_size (h:Heap) (H:Hp):(hidT h H).objs.size=h.objs.size:=PySem.W.hideAll_size _ _
theorem hidT_get {h:Heap} {H:Hp} {b:Addr} {o:Obj} (e:h.get? b=some o) (n:H b=none):(hidT h H).get? b=some o :=
 PySem.W.hideAll_get _ e fun hm=>by
  have q:(H b).isSome=true:=(List.mem_filter.mp hm).2
  rw[n] at q;simp at q
theorem of_hidT {h:Heap} {H:Hp} {b:Addr} {o:Obj} (e:(hidT h H).get? b=some o):h.get? b=some o/\H b=none:=by
 have e':h.get? b=some o:=PySem.W.of_hideAll (trk h H) e
 refine⟨e',?_⟩
 cases q:H b with
 | none=>rfl
 | some x =>
  have hm:b∈trk h H:=List.mem_filter.mpr ⟨List.mem_range.mpr (Heap.lt_size e'),by simp[q]⟩
  have z:(hidT h H).get? b=none:=PySem.W.hideAll_none (trk h H) hm
  rw[z] at e;cases e
noncomputable def allNews (g h:Heap) (L:Addr):List (Addr×Obj):=(List.range h.objs.size).filterMap fun a=>if a=L\/(g.get? a).isSome=true then none else (h.get? a).map fun o=>(a,o)
noncomputable def rest (g h:Heap) (L d:Addr):List (Addr×Obj):=(allNews g h L).filter fun p=>decide (p.1≠d)
end L2
namespace L2
open PySem PySem.Spec PyProof.Rows
structure Mod (K:PySem.W.Frag) (mg:Str->Option Value) (base:Heap):Prop where
 kin:K.In base
 glob:base.Ns mainGlobals mg
 blt:∃ mb,base.Ns builtinsNs mb/\∀ x:Str,x≠"__name__"->mb x=bootBuiltins x
 nolimit:base.NoLimit
structure Cx where
 prog:Program
 w:World
 K:PySem.W.Frag
 mg:Str->Option Value
 base:Heap
 A:Around
 N:List Str
 s₀:Shared
 H₀:Hp
 env:Env
 outer:List Env
 stack:List Env
 ex:List Addr
 fn:Str->Bool
 calm:Bool
 pn:List (Addr×Obj)
 xe:Value->Shared->Prop
noncomputable def frs (l:List Env):List Addr:=l.filterMap (·.frame)
noncomputable abbrev Cx.fs (X:Cx):List Addr:=frs X.outer
noncomputable def Vis (sc:Scope) (x:Str):Prop:=sc.names.lookup x=some .local\/sc.names.lookup x=some .cell\/sc.names.lookup x=some .free
noncomputable def Loc (sc:Scope) (x:Str):Prop:=sc.names.lookup x=some .local\/sc.names.lookup x=some .cell
noncomputable def Look (env:Env) (h:Heap) (m:Str->Option Value) (x:Str) (u:Value):Prop :=
 (env.kindOf x=some .local/\m x=some u)\/((env.kindOf x=some .cell\/env.kindOf x=some .free)/\∃ c,env.cells.lookup x=some c/\h.IsCell c (some u))
structure Cx.Ok (X:Cx):Prop where
 mod:Mod X.K X.mg X.base
 kind:X.env.scope.kind=.function
 glob:X.env.globals=mainGlobals
 blt:X.env.builtins=builtinsNs
 above:X.s₀.heap.objs.size<=X.env.locals
 inj:∀ x y c,X.env.cells.lookup x=some c->X.env.cells.lookup y=some c->x=y
 has:∀ x,(X.env.kindOf x=some .cell\/X.env.kindOf x=some .free)->∃ c,X.env.cells.lookup x=some c
 cab:∀ x c,X.fn x=true->X.env.cells.lookup x=some c->X.s₀.heap.objs.size<=c
 hd:X.calm=true->X.A.handled=none
 frames:X.A.frames=some X.stack
 stk:X.stack=X.outer\/(X.stack=X.env::X.outer/\X.env.frame=some X.env.locals)
 exf:∀ b∈X.ex,b≠X.env.locals/\∀ x c,X.env.cells.lookup x=some c->c≠b
 bs:∀ b o,X.base.get? b=some o->X.s₀.heap.get? b=some o/\X.H₀ b=none
 bsz:X.base.objs.size<=X.s₀.heap.objs.size
 noex:∀ b o,X.base.get? b=some o->b ∉ X.ex
 exfs:∀ b∈X.ex,b ∉ X.fs
 funs:X.s₀.heap.FunFrames X.base X.outer
 frf:∀ b∈X.fs,X.H₀ b=none
structure Inv (X:Cx) (pins:List (Addr×Obj)) (σ:List (Option V)) (H:Hp) (s:Shared):Prop where
 ok:X.Ok
 os:s.os=X.s₀.os
 bare:AllBare s.gens
 base:Un X.fs X.ex X.H₀ H X.s₀.heap s.heap
 loc:∃ m,s.heap.Ns X.env.locals m/\∀ (i:Nat) (x:Str) (v:V),X.N[i]?=some x->σ[i]?=some (some v)->Vis X.env.scope x->∃ u,RelV v u/\Look X.env s.heap m x u
 cell:∀ x c,X.env.cells.lookup x=some c->∃ v,s.heap.IsCell c v
 free:H X.env.locals=none
 freeC:∀ x c,X.env.cells.lookup x=some c->H c=none
 pin:∀ p∈X.pn++pins,s.heap.get? p.1=some p.2/\H p.1=none/\p.1≠X.env.locals/\p.1 ∉ X.fs/\∀ v,p.2.data≠.cell v
 hok:HOk X.prog X.w H s.heap
 len:σ.length=X.N.length
section
variable {X:Cx} {pins:List (Addr×Obj)} {σ:List (Option V)} {H H':Hp} {s:Shared} {h':Heap}
theorem Cx.Ok.nofr (ok:X.Ok) {b:Addr} {o:Obj} (e:X.base.get? b=some o):b ∉ X.fs:=fun hb=>by
 have:=(ok.funs.mem hb).1
 rw[e] at this;cases this
theorem Inv.bs (I:Inv X pins σ H s):∀ b o,X.base.get? b=some o->s.heap.get? b=some o/\H b=none:=fun b o e =>
 ⟨I.base.keep b o (I.ok.bs b o e).1 (I.ok.bs b o e).2 (I.ok.nofr e) (I.ok.noex b o e),I.base.free b o (I.ok.bs b o e).1 (I.ok.bs b o e).2 (I.ok.noex b o e)⟩
theorem Inv.bk (I:Inv X pins σ H s):∀ b o,X.base.get? b=some o->s.heap.get? b=some o:=fun b o e=>(I.bs b o e).1
theorem Inv.mod (I:Inv X pins σ H s):Mod X.K X.mg X.base:=I.ok.mod
theorem Inv.kIn (I:Inv X pins σ H s):X.K.In s.heap:=I.ok.mod.kin.keeps I.bk
theorem Inv.lt (I:Inv X pins σ H s):X.env.locals<s.heap.objs.size:=let ⟨_,hn,_⟩:=I.loc;hn.lt
theorem Inv.sz (I:Inv X pins σ H s):X.s₀.heap.objs.size<=s.heap.objs.size:=Nat.le_trans I.ok.above (Nat.le_of_lt I.lt)
theorem Inv.nofs (I:Inv X pins σ H s) {a:Addr} (h:s.heap.objs.size<=a):a ∉ X.fs:=fun hb=>by
 obtain⟨_,o,ho,_⟩:=I.ok.funs.mem hb
 exact absurd (Nat.lt_of_lt_of_le (Heap.lt_size ho) (Nat.le_trans I.sz h)) (Nat.lt_irrefl _)
theorem Inv.cne (I:Inv X pins σ H s):∀ x c,X.env.cells.lookup x=some c->c≠X.env.locals:=fun x c e z=>by
 obtain⟨v,o,ho,hd⟩:=I.cell x c e
 obtain⟨m,⟨o',es,ep,ho',hd',_⟩,_⟩:=I.loc
 rw[z,ho'] at ho;cases ho;rw[hd'] at hd;cases hd
theorem Inv.funs (I:Inv X pins σ H s):s.heap.FunFrames X.base X.outer:=by
 have all:∀ (l:List Env),(∀ b∈frs l,b∈X.fs)->X.s₀.heap.FunFrames X.base l->s.heap.FunFrames X.base l:=by
  intro l
  induction l with
  | nil=>intro _ _;trivial
  | cons env r ih =>
   intro hs hl
   obtain⟨hk,⟨L,o,hf,hn,ho,hd⟩,hr⟩:=hl
   have hL:L∈X.fs:=hs L (by unfold frs;rw[List.filterMap_cons,hf];exact List.mem_cons_self)
   obtain⟨sl,e⟩:=I.base.slot L o ho (I.ok.frf L hL) hL fun z=>I.ok.exfs L z hL
   exact⟨hk,⟨L,_,hf,hn,e,hd⟩,ih (fun b hb=>hs b (by unfold frs;rw[List.filterMap_cons,hf];exact List.mem_cons_of_mem _ hb)) hr⟩
 exact all X.outer (fun _ hb=>hb) I.ok.funs
theorem Inv.stack (I:Inv X pins σ H s):s.heap.FunFrames X.base X.stack:=by
 rcases I.ok.stk with e|⟨e,hf⟩
 ·rw[e];exact I.funs
 ·rw[e]
  obtain⟨m,hn,_⟩:=I.loc
  refine .cons (by rw[I.ok.kind];decide) hf hn ?_ I.funs
  exact Heap.get?_none_of_le (Nat.le_trans I.ok.bsz I.ok.above)
theorem Inv.stkSub (I:Inv X pins σ H s):∀ b∈frs X.stack,b∈X.env.locals::X.fs:=fun b hb=>by
 rcases I.ok.stk with e|⟨e,hf⟩
 ·rw[e] at hb;exact List.mem_cons_of_mem _ hb
 ·rw[e] at hb
  unfold frs at hb
  rw[List.filterMap_cons,hf] at hb
  exact hb
theorem Inv.stkFree (I:Inv X pins σ H s):∀ b∈frs X.stack,H b=none:=fun b hb=>by
 rcases List.mem_cons.mp (I.stkSub b hb) with e|hb
 ·rw[e];exact I.free
 ·obtain⟨_,o,ho,_⟩:=I.ok.funs.mem hb
  exact I.base.free b o ho (I.ok.frf b hb) fun z=>I.ok.exfs b z hb
theorem Inv.step {g':Array GenState} {t':Nat} {d':Drawn} {ch:List Addr} (I:Inv X pins σ H s)
  (hch:∀ b∈ch,(b∈X.ex\/X.s₀.heap.objs.size<=b)/\b≠X.env.locals/\(∀ x c,X.env.cells.lookup x=some c->c≠b)/\∀ p∈X.pn++pins,p.1≠b)
  (keep:∀ b o,b≠X.env.locals->b ∉ X.fs->b ∉ ch->s.heap.get? b=some o->H b=none->h'.get? b=some o)
  (slot:∀ b o,b≠X.env.locals->b∈X.fs->b ∉ ch->s.heap.get? b=some o->H b=none->∃ sl,h'.get? b=some {o with slots:=sl}) (free:∀ b o,b ∉ ch->s.heap.get? b=some o->H b=none->H' b=none)
  (there:∀ b o,b ∉ ch->s.heap.get? b=some o->∃ o',h'.get? b=some o')
  (tups:∀ b xs,H b=some (.tup xs)->H' b=some (.tup xs)) (frzs:∀ b o u,H b=some (.frz o u)->H' b=some (.frz o u)) (tbls:∀ b ps,H b=some (.tbl ps)->∃ more,H' b=some (.tbl (ps++more)))
  (ns:∀ m,s.heap.Ns X.env.locals m->h'.Ns X.env.locals m) (hok:HOk X.prog X.w H' h') (hg:AllBare g') :
  Inv X pins σ H' {s with heap:=h',gens:=g',drawn:=d',toks:=t'}:=by
 have neL:∀ b o,X.s₀.heap.get? b=some o->b≠X.env.locals:=fun b o e=>Nat.ne_of_lt (Nat.lt_of_lt_of_le (Heap.lt_size e) I.ok.above)
 have neC:∀ b o,X.s₀.heap.get? b=some o->b ∉ X.ex->b ∉ ch:=fun b o e hx hb=>by
  rcases (hch b hb).1 with z|z
  ·exact hx z
  ·exact absurd (Nat.lt_of_lt_of_le (Heap.lt_size e) z) (Nat.lt_irrefl _)
 have cellK:∀ x c,X.env.cells.lookup x=some c->∀ v,s.heap.IsCell c v->h'.IsCell c v:=fun x c e v ⟨o,ho,hd⟩=>by
  have nch:c ∉ ch:=fun z=>(hch c z).2.2.1 x c e rfl
  by_cases hc:c∈X.fs
  ·obtain⟨sl,q⟩:=slot c o (I.cne x c e) hc nch ho (I.freeC x c e)
   exact⟨_,q,hd⟩
  ·exact⟨o,keep c o (I.cne x c e) hc nch ho (I.freeC x c e),hd⟩
 refine⟨I.ok,I.os,hg,⟨fun b o e n hb hx=>?_,fun b o e n hb hx=>?_,fun b o e n hx=>?_,fun b o e hx=>?_,fun b xs e=>tups b xs (I.base.tups b xs e),fun b o xs e=>frzs b o xs (I.base.frzs b o xs e),fun b ps e=>?_⟩,?_,fun x c e=>?_,?_,fun x c e=>?_,fun p hp=>?_,hok,I.len⟩
 ·exact keep b o (neL b o e) hb (neC b o e hx) (I.base.keep b o e n hb hx) (I.base.free b o e n hx)
 ·obtain⟨sl,e1⟩:=I.base.slot b o e n hb hx
  obtain⟨sl',e2⟩:=slot b _ (neL b o e) hb (neC b o e hx) e1 (I.base.free b o e n hx)
  exact⟨sl',e2⟩
 ·obtain⟨o',e1⟩:=I.base.there b o e hx
  exact free b o' (neC b o e hx) e1 (I.base.free b o e n hx)
 ·obtain⟨o',e1⟩:=I.base.there b o e hx
  exact there b o' (neC b o e hx) e1
 ·obtain⟨m1,e1⟩:=I.base.tbls b ps e
  obtain⟨m2,e2⟩:=tbls b _ e1
  exact⟨m1++m2,by rw[e2,Array.append_assoc]⟩
 ·obtain⟨m,hn,hl⟩:=I.loc
  refine⟨m,ns m hn,fun i x v e1 e2 e3=>?_⟩
  obtain⟨u,r,l⟩:=hl i x v e1 e2 e3
  refine⟨u,r,?_⟩
  rcases l with l|⟨k,c,e,z⟩
  ·exact .inl l
  ·exact .inr ⟨k,c,e,cellK x c e _ z⟩
 ·obtain⟨v,z⟩:=I.cell x c e
  exact⟨v,cellK x c e v z⟩
 ·obtain⟨m,⟨o,_,_,ho,_⟩,_⟩:=I.loc
  exact free _ o (fun z=>(hch _ z).2.1 rfl) ho I.free
 ·obtain⟨v,o,ho,hd⟩:=I.cell x c e
  exact free c o (fun z=>(hch c z).2.2.1 x c e rfl) ho (I.freeC x c e)
 ·obtain⟨e,n,ne,nf,d⟩:=I.pin p hp
  have nch:p.1 ∉ ch:=fun z=>(hch p.1 z).2.2.2 p hp rfl
  exact⟨keep p.1 p.2 ne nf nch e n,free p.1 p.2 nch e n,ne,nf,d⟩
theorem Inv.un {t':Nat} (I:Inv X pins σ H s) (u:Un X.fs [] H H' s.heap h') (hok:HOk X.prog X.w H' h'):Inv X pins σ H' {s with heap:=h',toks:=t'}:=by
 obtain⟨m,⟨o,es,ep,ho,r⟩,_⟩:=id I.loc
 obtain⟨sl,hL⟩:=u.any ho I.free (by simp)
 exact I.step (g':=s.gens) (d':=s.drawn) (ch:=[]) (fun _ z=>nomatch z) (fun b o _ hb _ e n=>u.keep b o e n hb (by simp)) (fun b o _ hb _ e n=>u.slot b o e n hb (by simp)) (fun b o _ e n=>u.free b o e n (by simp)) (fun b o _ e=>u.there b o e (by simp)) u.tups u.frzs u.tbls (fun m' hm=>by
  obtain⟨o',es',ep',ho',r'⟩:=hm
  rw[ho] at ho';cases ho'
  exact⟨_,es',ep',hL,r'⟩) hok I.bare
theorem Inv.call {g':Array GenState} {t':Nat} {d':Drawn} {ch:List Addr} (I:Inv X pins σ H s) (u:Un (frs X.stack) ch H H' s.heap h') (hok:HOk X.prog X.w H' h') (hg:AllBare g')
  (hch:∀ b∈ch,(b∈X.ex\/X.s₀.heap.objs.size<=b)/\b≠X.env.locals/\(∀ x c,X.env.cells.lookup x=some c->c≠b)/\∀ p∈X.pn++pins,p.1≠b) :
  Inv X pins σ H' {s with heap:=h',gens:=g',drawn:=d',toks:=t'}:=by
 obtain⟨m,⟨o,es,ep,ho,r⟩,_⟩:=id I.loc
 obtain⟨sl,hL⟩:=u.any ho I.free fun z=>(hch _ z).2.1 rfl
 exact I.step (ch:=ch) hch (fun b o hL hb hc e n=>u.keep b o e n (fun z=>(List.mem_cons.mp (I.stkSub b z)).elim hL hb) hc) (fun b o _ _ hc e n=>u.any e n hc) (fun b o hc e n=>u.free b o e n hc) (fun b o hc e=>u.there b o e hc) u.tups u.frzs u.tbls (fun m' hm=>by
  obtain⟨o',es',ep',ho',r'⟩:=hm
  rw[ho] at ho';cases ho'
  exact⟨_,es',ep',hL,r'⟩) hok hg
theorem Inv.turned {t':Nat} {it:Addr} (I:Inv X pins σ H s) (k:∀ b o,b≠it->s.heap.get? b=some o->h'.get? b=some o) (hn:H it=none) (hL:it≠X.env.locals)
  (h1:it∈X.ex\/X.s₀.heap.objs.size<=it) (h2:∀ x c,X.env.cells.lookup x=some c->c≠it) (h3:∀ p∈X.pn++pins,p.1≠it):Inv X pins σ H {s with heap:=h',toks:=t'}:=by
 have nit:∀ b u,H b=some u->b≠it:=fun b u e z=>by rw[z,hn] at e;cases e
 refine I.step (g':=s.gens) (d':=s.drawn) (ch:=[it]) (fun b hb=>?_) (fun b o _ _ hc e _=>k b o (fun z=>hc (by simp[z])) e) (fun b o _ _ hc e _=>⟨o.slots,k b o (fun z=>hc (by simp[z])) e⟩) (fun _ _ _ _ n=>n)
  (fun b o hc e=>⟨o,k b o (fun z=>hc (by simp[z])) e⟩) (fun _ _ e=>e) (fun _ _ _ e=>e) (fun b ps e=>⟨#[],by rw[e];simp⟩) (fun m hm=>?_) (fun b u e=>?_) I.bare
 ·have e:b=it:=by simpa using hb
  subst e
  exact⟨h1,hL,h2,h3⟩
 ·obtain⟨o,es,ep,ho,r⟩:=hm
  exact⟨o,es,ep,k _ o (Ne.symm hL) ho,r⟩
 ·refine (I.hok b u e).stay (fun c v hc q=>k c v ?_ q) (fun _ q=>q) fun _ _ q=>q
  rcases hc with z|z
  ·rw[z];exact nit b u e
  ·exact nit c _ z
theorem Inv.tok (I:Inv X pins σ H s) (t:Nat):Inv X pins σ H {s with toks:=t}:=I.un (h':=s.heap) (t':=t) Un.refl I.hok
theorem Inv.kept {t':Nat} (I:Inv X pins σ H s) (k:∀ b u,s.heap.get? b=some u->h'.get? b=some u):Inv X pins σ H {s with heap:=h',toks:=t'}:=I.un (Un.kept k) (I.hok.kept k)
theorem Inv.laid {a:Addr} {o:HO} {t':Nat} (I:Inv X pins σ H s) (k:∀ b u,s.heap.get? b=some u->h'.get? b=some u) (hp:s.heap.objs.size<=a) (new:ObjOk X.prog X.w (upd H a o) h' a o) :
  Inv X pins σ (upd H a o) {s with heap:=h',toks:=t'}:=I.un (Un.laid k hp (I.hok.fresh hp)) (I.hok.laid k hp new)
theorem Inv.write {x e:Addr} {o:HO} {t':Nat} (I:Inv X pins σ H s) (mu:Mut (H x)) (he:e=x\/H e=some (.own x)) (k:∀ b u,b≠e->s.heap.get? b=some u->h'.get? b=some u) (heo:∃ u,h'.get? e=some u)
  (new:ObjOk X.prog X.w (upd H x o) h' x o):Inv X pins σ (upd H x o) {s with heap:=h',toks:=t'}:=I.un (Un.write mu he k heo) (I.hok.write mu he k heo new)
theorem Inv.pins_of {pins':List (Addr×Obj)} (I:Inv X pins σ H s) (h:∀ p∈pins',s.heap.get? p.1=some p.2/\H p.1=none/\p.1≠X.env.locals/\p.1 ∉ X.fs/\∀ v,p.2.data≠.cell v):Inv X pins' σ H s :=
 ⟨I.ok,I.os,I.bare,I.base,I.loc,I.cell,I.free,I.freeC,fun p hp=>(List.mem_append.mp hp).elim (fun z=>I.pin p (List.mem_append_left _ z)) (h p),I.hok,I.len⟩
theorem nodup_ix {N:List Str} (hN:N.Nodup) {i j:Nat} {x:Str} (a:N[i]?=some x) (b:N[j]?=some x):i=j:=by
 obtain⟨h1,e1⟩:=List.getElem?_eq_some_iff.mp a
 obtain⟨h2,e2⟩:=List.getElem?_eq_some_iff.mp b
 exact (List.getElem_inj hN).mp (e1.trans e2.symm)
theorem store_ok2 {M:Model} {A:Around} {E:Value->Shared->Prop} {i:Nat} {x:Str} {v:V} {u:Value} {Q:Unit->Shared->Prop} (I:Inv X pins σ H s) (hN:X.N.Nodup) (hi:X.N[i]?=some x) (hx:Loc X.env.scope x) (r:RelV v u)
  (h:∀ s',Inv X pins (σ.set i (some v)) H s'->(∃ a,Heap.SameBut a s.heap s'.heap/\(a=X.env.locals\/X.env.cells.lookup x=some a))->Q () s') (hf:X.fn x=true\/X.env.scope.names.lookup x=some .local:=by first|exact .inl rfl|exact .inr rfl|assumption):wpAny M A (storeName X.env x u) Q E s:=by
 obtain⟨m,hn,hl⟩:=id I.loc
 have hcls:(X.env.scope.kind==.class || (X.env.scope.kind==.module&&X.env.locals != X.env.globals))=false:=by rw[I.ok.kind];rfl
 have hiσ:i < σ.length:=by rw[I.len];exact (List.getElem?_eq_some_iff.mp hi).1
 have cne:=I.cne
 have tracked:∀ {a:Addr} {h':Heap},(∃ o,s.heap.get? a=some o/\H a=none)->Heap.SameBut a s.heap h'->HOk X.prog X.w H h':=fun {a h'} ha hs b ob e=>by
  obtain⟨_,_,hfree⟩:=ha
  refine (I.hok b ob e).stay (fun c w' hc q=>(hs.2 c ?_).trans q) (fun _ q=>q) fun _ _ q=>q
  rintro rfl
  rcases hc with rfl|hc
  ·rw[hfree] at e;cases e
  ·rw[hfree] at hc;cases hc
 rcases hx with hk|hk
 ·refine wpAny_storeName_local hk hn (fun h' hn' hs=>?_) hcls
  obtain⟨oL,_,_,hoL,_⟩:=id hn
  refine h _ ⟨I.ok,I.os,I.bare,⟨fun b o e n hb hx=>?_,fun b o e n hb hx=>?_,I.base.free,fun b o e hx=>?_,I.base.tups,I.base.frzs,I.base.tbls⟩,⟨_,hn',fun j y v' e1 e2 e3=>?_⟩,fun y c e=>?_,I.free,I.freeC,fun p hp=>?_,tracked ⟨oL,hoL,I.free⟩ hs,by simpa using I.len⟩ ⟨_,hs,.inl rfl⟩
  ·exact (hs.2 b (Nat.ne_of_lt (Nat.lt_of_lt_of_le (Heap.lt_size e) I.ok.above))).trans (I.base.keep b o e n hb hx)
  ·obtain⟨sl,e1⟩:=I.base.slot b o e n hb hx
   exact⟨sl,(hs.2 b (Nat.ne_of_lt (Nat.lt_of_lt_of_le (Heap.lt_size e) I.ok.above))).trans e1⟩
  ·obtain⟨o',e1⟩:=I.base.there b o e hx
   exact⟨o',(hs.2 b (Nat.ne_of_lt (Nat.lt_of_lt_of_le (Heap.lt_size e) I.ok.above))).trans e1⟩
  ·by_cases hj:j=i
   ·subst hj
    rw[hi] at e1;cases e1
    rw[List.getElem?_set_self hiσ] at e2
    cases e2
    exact⟨u,r,.inl ⟨hk,by simp⟩⟩
   ·rw[List.getElem?_set_ne (Ne.symm hj)] at e2
    obtain⟨u',r',q⟩:=hl j y v' e1 e2 e3
    refine⟨u',r',?_⟩
    rcases q with ⟨k,e⟩|⟨k,c,e,z⟩
    ·refine .inl ⟨k,?_⟩
     have:y≠x:=fun e=>hj (nodup_ix hN e1 (e ▸ hi))
     simp[this,e]
    ·exact .inr ⟨k,c,e,z.sameBut hs (cne y c e)⟩
  ·obtain⟨w',z⟩:=I.cell y c e
   exact⟨w',z.sameBut hs (cne y c e)⟩
  ·obtain⟨e,n,ne,nf,d⟩:=I.pin p hp
   exact⟨(hs.2 p.1 ne).trans e,n,ne,nf,d⟩
 ·have hfn:X.fn x=true:=by
   rcases hf with z|z
   ·exact z
   ·rw[z] at hk;cases hk
  obtain⟨c,hc⟩:=I.ok.has x (.inl hk)
  obtain⟨w',z⟩:=I.cell x c hc
  refine wpAny_storeName_cell I.ok.kind hk hc z (fun h' hc' hs=>?_)
  obtain⟨oc,hoc,hocd⟩:=id z
  refine h {s with heap:=h'} ⟨I.ok,I.os,I.bare,⟨fun b o e n hb hx=>?_,fun b o e n hb hx=>?_,I.base.free,fun b o e hx=>?_,I.base.tups,I.base.frzs,I.base.tbls⟩,⟨m,hn.sameBut hs (Ne.symm (cne x c hc)),fun j y v' e1 e2 e3=>?_⟩,fun y c' e=>?_,I.free,I.freeC,fun p hp=>?_,tracked ⟨oc,hoc,I.freeC x c hc⟩ hs,by simpa using I.len⟩ ⟨c,hs,.inr hc⟩
  ·exact (hs.2 b (Nat.ne_of_lt (Nat.lt_of_lt_of_le (Heap.lt_size e) (I.ok.cab x c hfn hc)))).trans (I.base.keep b o e n hb hx)
  ·obtain⟨sl,e1⟩:=I.base.slot b o e n hb hx
   exact⟨sl,(hs.2 b (Nat.ne_of_lt (Nat.lt_of_lt_of_le (Heap.lt_size e) (I.ok.cab x c hfn hc)))).trans e1⟩
  ·obtain⟨o',e1⟩:=I.base.there b o e hx
   exact⟨o',(hs.2 b (Nat.ne_of_lt (Nat.lt_of_lt_of_le (Heap.lt_size e) (I.ok.cab x c hfn hc)))).trans e1⟩
  ·by_cases hj:j=i
   ·subst hj
    rw[hi] at e1;cases e1
    rw[List.getElem?_set_self hiσ] at e2
    cases e2
    exact⟨u,r,.inr ⟨.inl hk,c,hc,hc'⟩⟩
   ·rw[List.getElem?_set_ne (Ne.symm hj)] at e2
    obtain⟨u',r',q⟩:=hl j y v' e1 e2 e3
    refine⟨u',r',?_⟩
    rcases q with q|⟨k,c',e,z'⟩
    ·exact .inl q
    ·refine .inr ⟨k,c',e,z'.sameBut hs ?_⟩
     rintro rfl
     exact hj (nodup_ix hN e1 (I.ok.inj _ _ _ e hc ▸ hi))
  ·by_cases hcc:c'=c
   ·subst hcc;exact⟨_,hc'⟩
   ·obtain⟨w2,z2⟩:=I.cell y c' e
    exact⟨w2,z2.sameBut hs hcc⟩
  ·obtain⟨e,n,ne,nf,d⟩:=I.pin p hp
   refine⟨(hs.2 p.1 ?_).trans e,n,ne,nf,d⟩
   intro q
   rw[q,hoc] at e
   have q':oc=p.2:=Option.some.inj e
   exact d w' (by rw[<- q'];exact hocd)
theorem store_ok {M:Model} {A:Around} {E:Value->Shared->Prop} {i:Nat} {x:Str} {v:V} {u:Value} {Q:Unit->Shared->Prop} (I:Inv X pins σ H s) (hN:X.N.Nodup) (hi:X.N[i]?=some x) (hx:Loc X.env.scope x) (r:RelV v u)
  (h:∀ s',Inv X pins (σ.set i (some v)) H s'->Q () s') (hf:X.fn x=true\/X.env.scope.names.lookup x=some .local:=by first|exact .inl rfl|exact .inr rfl|assumption):wpAny M A (storeName X.env x u) Q E s :=
 store_ok2 I hN hi hx r (fun s' I' _=>h s' I') hf
theorem Inv.call' {s':Shared} {ch:List Addr} (I:Inv X pins σ H s) (ho:s'.os=s.os) (u:Un (frs X.stack) ch H H' s.heap s'.heap) (hok:HOk X.prog X.w H' s'.heap) (hg:AllBare s'.gens)
  (hch:∀ b∈ch,(b∈X.ex\/X.s₀.heap.objs.size<=b)/\b≠X.env.locals/\(∀ x c,X.env.cells.lookup x=some c->c≠b)/\∀ p∈X.pn++pins,p.1≠b):Inv X pins σ H' s':=by
 obtain⟨h',g',d',t',o'⟩:=s'
 have e:o'=s.os:=ho
 subst e
 exact I.call (g':=g') (t':=t') (d':=d') u hok hg hch
end
noncomputable abbrev XK:=Value->Option Addr->Hp->Prop
noncomputable abbrev St:=List (Option V)
noncomputable abbrev VK:=V->Hp->Prop
noncomputable abbrev TE:=St->Hp->VK->Prop
noncomputable abbrev TT:=St->Hp->(Bool->Hp->Prop)->Prop
noncomputable abbrev TA:=St->Hp->(List V->Hp->Prop)->Prop
structure Ends where
 nx:St->Hp->Prop
 rt:VK
 bk:St->Hp->Prop:=fun _ _=>False
 ct:St->Hp->Prop:=fun _ _=>False
noncomputable abbrev TS:=Ends->St->Hp->Prop
noncomputable def EP (X:Cx) (pins:List (Addr×Obj)) (σ:St) (Q:VK) (u:Value) (s':Shared):Prop:=∃ v H',Inv X pins σ H' s'/\RelV v u/\Q v H'
noncomputable def TP (X:Cx) (pins:List (Addr×Obj)) (σ:St) (Q:Bool->Hp->Prop) (b:Bool) (s':Shared):Prop:=∃ H',Inv X pins σ H' s'/\Q b H'
noncomputable def AP (X:Cx) (pins:List (Addr×Obj)) (σ:St) (Q:List V->Hp->Prop) (us:List Value) (s':Shared):Prop:=∃ vs H',Inv X pins σ H' s'/\Vals vs us/\Q vs H'
noncomputable def SP (X:Cx) (pins:List (Addr×Obj)) (D:Ends) (f:Flow) (s':Shared):Prop :=
 match f with
 | .next=>∃ σ' H',Inv X pins σ' H' s'/\D.nx σ' H'
 | .brk=>∃ σ' H',Inv X pins σ' H' s'/\D.bk σ' H'
 | .cont=>∃ σ' H',Inv X pins σ' H' s'/\D.ct σ' H'
 | .ret u=>∃ v σ' H',Inv X pins σ' H' s'/\RelV v u/\D.rt v H'
noncomputable def PE (X:Cx) (e:Expr) (t:TE):Prop :=
 ∀ (pins:List (Addr×Obj)) (s:Shared) (σ:St) (H:Hp) (Q:VK),Inv X pins σ H s->t σ H Q->wpAny (model X.prog X.w) X.A (eval e X.env) (EP X pins σ Q) X.xe s
noncomputable def PT (X:Cx) (e:Expr) (t:TT):Prop :=
 ∀ (pins:List (Addr×Obj)) (s:Shared) (σ:St) (H:Hp) (Q:Bool->Hp->Prop),Inv X pins σ H s->t σ H Q->wpAny (model X.prog X.w) X.A (isTrue e X.env (eval e X.env)) (TP X pins σ Q) X.xe s
noncomputable def PW (X:Cx) (e:Expr) (t:TT):Prop :=
 ∀ (whole:Sem Value) (pins:List (Addr×Obj)) (s:Shared) (σ:St) (H:Hp) (Q:Bool->Hp->Prop),Inv X pins σ H s->t σ H Q->wpAny (model X.prog X.w) X.A (isTrue e X.env whole) (TP X pins σ Q) X.xe s
theorem PW.pt {X:Cx} {e:Expr} {t:TT} (h:PW X e t):PT X e t:=h _
noncomputable def PA (X:Cx) (es:List Expr) (t:TA):Prop :=
 ∀ (pos:Pos) (pins:List (Addr×Obj)) (s:Shared) (σ:St) (H:Hp) (Q:List V->Hp->Prop),Inv X pins σ H s->t σ H Q->wpAny (model X.prog X.w) X.A (spliced (backTo pos (starEach es X.env))) (AP X pins σ Q) X.xe s
noncomputable def PS (X:Cx) (st:Stmt) (t:TS):Prop :=
 ∀ (pins:List (Addr×Obj)) (s:Shared) (σ:St) (H:Hp) (D:Ends),Inv X pins σ H s->t D σ H->wpAny (model X.prog X.w) X.A (exec st X.env) (SP X pins D) X.xe s
noncomputable def PSs (X:Cx) (st:List Stmt) (t:TS):Prop :=
 ∀ (pins:List (Addr×Obj)) (s:Shared) (σ:St) (H:Hp) (D:Ends),Inv X pins σ H s->t D σ H->wpAny (model X.prog X.w) X.A (execs st X.env) (SP X pins D) X.xe s
theorem thn {α:Type} {t:Sem α} {Q Q':α->Shared->Prop} {M:Model} {A:Around} {E:Value->Shared->Prop} {s:Shared} (h:wpAny M A t Q E s) (hQ:∀ a s,Q a s->Q' a s):wpAny M A t Q' E s:=wpAny_mono h hQ fun _ _ x=>x
end L2
namespace L2
open PySem PySem.Spec PyProof.Rows
section
variable {X:Cx}
theorem bin {a b:Expr} {ta tb:TE} (ha:PE X a ta) (hb:PE X b tb) {pins:List (Addr×Obj)} {s:Shared} {σ:St} {H:Hp} {R:V->V->Hp->Prop} (I:Inv X pins σ H s) (h:ta σ H fun x H1=>tb σ H1 fun y H2=>R x y H2)
  {α:Type} {Q:α->Shared->Prop} {f:Value->Value->Sem α}
  (hf:∀ v u s2 x y H2,Inv X pins σ H2 s2->RelV x v->RelV y u->R x y H2->wpAny (model X.prog X.w) X.A (f v u) Q X.xe s2) :
  wpAny (model X.prog X.w) X.A (eval a X.env) (fun v s₁=>wpAny (model X.prog X.w) X.A (eval b X.env) (fun u s₂=>wpAny (model X.prog X.w) X.A (f v u) Q X.xe s₂) X.xe s₁) X.xe s:=by
 refine thn (ha pins s σ H _ I h) fun v s1 hq2=>?_
 obtain⟨x,H1,I1,r1,q1⟩:=hq2
 refine thn (hb pins s1 σ H1 _ I1 q1) fun u s2 hq2=>?_
 obtain⟨y,H2,I2,r2,q2⟩:=hq2
 exact hf v u s2 x y H2 I2 r1 r2 q2
noncomputable def tVar (i:Nat):TE:=fun σ H Q=>∃ v,σ[i]?=some (some v)/\Q v H
noncomputable def tC (v:V):TE:=fun _ H Q=>Q v H
theorem pe_var {i:Nat} {x:Str} {pos:Pos} (hN:X.N[i]?=some x) (hv:Vis X.env.scope x) (hd:(x==("__debug__":Str))=false:=by decide) (hcd:(x==("__classdict__":Str))=false:=by decide):PE X (.Name x pos) (tVar i):=by
 intro pins s σ H Q I h
 obtain⟨v,e,h⟩:=h
 obtain⟨m,hn,hl⟩:=I.loc
 obtain⟨u,r,l⟩:=hl i x v hN e hv
 have fin:EP X pins σ Q u s:=⟨v,H,I,r,h⟩
 rcases l with ⟨hk,hm⟩|⟨hk,c,hc,hcell⟩
 ·exact wpAny_Name (wpAny_loadName_local I.ok.kind hk hn hm fin) hd
 ·rcases hk with hk|hk
  ·exact wpAny_Name (wpAny_loadName_cell I.ok.kind hk hc hcell fin) hd
  ·exact wpAny_Name (wpAny_loadName_free I.ok.kind hk hc hcell fin hcd) hd
theorem pe_int {i j pos}:PE X (.Constant (.int i) j pos) (tC (.int i)):=fun _ _ _ H _ I h=>wpAny_Constant_int ⟨.int i,H,I.tok _,⟨_,rfl⟩,h⟩
theorem pe_bl {b j pos}:PE X (.Constant (.bool b) j pos) (tC (.bl b)):=fun _ _ _ H _ I h=>Constant_bool ⟨.bl b,H,I,rfl,h⟩
theorem pe_non {j pos}:PE X (.Constant .none j pos) (tC .non):=fun _ _ _ H _ I h=>Constant_none ⟨.non,H,I,rfl,h⟩
theorem pe_str {x j pos}:PE X (.Constant (.str x) j pos) (tC (.str x)):=fun _ _ _ H _ I h=>Calls.Constant_str ⟨.str x,H,I.tok _,⟨_,rfl⟩,h⟩
noncomputable def Gl (X:Cx) (x:Str):Prop:=X.env.kindOf x=some .globalImplicit
theorem ld_glob {E:Value->Shared->Prop} {pins:List (Addr×Obj)} {s:Shared} {σ:St} {H:Hp} {x:Str} {u:Value} {pos:Pos} {Q:Value->Shared->Prop} (I:Inv X pins σ H s) (hg:Gl X x) (hm:X.mg x=some u) (h:Q u s)
  (hd:(x==("__debug__":Str))=false:=by decide):wpAny (model X.prog X.w) X.A (eval (.Name x pos) X.env) Q E s :=
 Calls.Name_function_global I.ok.kind hg (Calls.loadGlobal_global (by rw[I.ok.glob];exact I.mod.glob.keeps I.bk) hm h) hd
theorem ld_blt {E:Value->Shared->Prop} {pins:List (Addr×Obj)} {s:Shared} {σ:St} {H:Hp} {x:Str} {u:Value} {pos:Pos} {Q:Value->Shared->Prop} (I:Inv X pins σ H s) (hg:Gl X x) (hm:X.mg x=none) (hv:bootBuiltins x=some u) (h:Q u s)
  (hn:x≠"__name__":=by decide) (hd:(x==("__debug__":Str))=false:=by decide):wpAny (model X.prog X.w) X.A (eval (.Name x pos) X.env) Q E s:=by
 obtain⟨mb,h1,h2⟩:=I.mod.blt
 exact Calls.Name_function_global I.ok.kind hg (Calls.loadGlobal_builtin (by rw[I.ok.glob];exact I.mod.glob.keeps I.bk) hm (by rw[I.ok.blt];exact h1.keeps I.bk) ((h2 x hn).trans hv) h) hd
theorem pe_glob {x:Str} {v:V} {u:Value} {pos:Pos} (hg:Gl X x) (hm:X.mg x=some u) (r:RelV v u) (hd:(x==("__debug__":Str))=false:=by decide):PE X (.Name x pos) (tC v) :=
 fun _ _ _ H _ I h=>ld_glob I hg hm ⟨v,H,I,r,h⟩ hd
theorem pe_bltn {x:Str} {v:V} {u:Value} {pos:Pos} (hg:Gl X x) (hm:X.mg x=none) (hv:bootBuiltins x=some u) (r:RelV v u) (hn:x≠"__name__":=by decide) (hd:(x==("__debug__":Str))=false:=by decide):PE X (.Name x pos) (tC v) :=
 fun _ _ _ H _ I h=>ld_blt I hg hm hv ⟨v,H,I,r,h⟩ hn hd
variable {a b:Expr} {ta tb:TE} {pos:Pos}
noncomputable def tB (t:TE):TT:=fun σ H Q=>t σ H fun x H1=>∃ c,x=.bl c/\Q c H1
variable {tA tB':TT} {rest:List Expr}
noncomputable def tAnd (t u:TT):TT:=fun σ H Q=>t σ H fun c H1=>if c=true then u σ H1 Q else Q false H1
noncomputable def tOr (t u:TT):TT:=fun σ H Q=>t σ H fun c H1=>if c=true then Q true H1 else u σ H1 Q
noncomputable def tNot (t:TT):TT:=fun σ H Q=>t σ H fun c H1=>Q (!c) H1
theorem pw_and1 (ha:PT X a tA):PW X (.BoolOp .And [a] pos) tA:=by
 intro wh pins s σ H Q I h
 refine isTrue_and (thn (ha pins s σ H Q I h) fun c s1 e=>?_)
 cases c with
 | true=>exact isTrue_and_nil e
 | false=>exact e
theorem pw_or1 (ha:PT X a tA):PW X (.BoolOp .Or [a] pos) tA:=by
 intro wh pins s σ H Q I h
 refine isTrue_or (thn (ha pins s σ H Q I h) fun c s1 e=>?_)
 cases c with
 | false=>exact isTrue_or_nil e
 | true=>exact e
theorem pw_and (ha:PT X a tA) (hb:PW X (.BoolOp .And (b::rest) pos) tB'):PW X (.BoolOp .And (a::b::rest) pos) (tAnd tA tB'):=by
 intro wh pins s σ H Q I h
 refine isTrue_and (thn (ha pins s σ H _ I h) fun c s1 hq2=>?_)
 obtain⟨H1,I1,q1⟩:=hq2
 cases c with
 | true=>exact hb wh pins s1 σ H1 Q I1 q1
 | false=>exact⟨H1,I1,q1⟩
theorem pw_or (ha:PT X a tA) (hb:PW X (.BoolOp .Or (b::rest) pos) tB'):PW X (.BoolOp .Or (a::b::rest) pos) (tOr tA tB'):=by
 intro wh pins s σ H Q I h
 refine isTrue_or (thn (ha pins s σ H _ I h) fun c s1 hq2=>?_)
 obtain⟨H1,I1,q1⟩:=hq2
 cases c with
 | true=>exact⟨H1,I1,q1⟩
 | false=>exact hb wh pins s1 σ H1 Q I1 q1
theorem pt_not (ha:PT X a tA):PT X (.UnaryOp .Not a pos) (tNot tA):=by
 intro pins s σ H Q I h
 exact isTrue_not (ha pins s σ H (fun c H1=>Q (!c) H1) I h)
noncomputable def tAndV (ta tb:TE):TE:=fun σ H Q=>ta σ H fun x H1=>∃ c,x=.bl c/\if c=true then tb σ H1 Q else Q (.bl false) H1
noncomputable def tOrV (ta tb:TE):TE:=fun σ H Q=>ta σ H fun x H1=>∃ c,x=.bl c/\if c=true then Q (.bl true) H1 else tb σ H1 Q
noncomputable def tNotV (ta:TE):TE:=fun σ H Q=>ta σ H fun x H1=>∃ c,x=.bl c/\Q (.bl (!c)) H1
theorem pe_one {op} {t:TE} (h:PE X a t):PE X (.BoolOp op [a] pos) t:=fun pins s σ H Q I hw=>BoolOp_one (h pins s σ H Q I hw)
theorem pe_and (ha:PE X a ta) (hb:PE X (.BoolOp .And (b::rest) pos) tb):PE X (.BoolOp .And (a::b::rest) pos) (tAndV ta tb):=by
 intro pins s σ H Q I h
 refine BoolOp_and (thn (ha pins s σ H _ I h) fun v s1 hq2=>?_)
 obtain⟨x,H1,I1,r1,q1⟩:=hq2
 obtain⟨c,rfl,q1⟩:=q1
 cases r1
 refine wpAny_truthy_bool ?_
 cases c with
 | true=>exact hb pins s1 σ H1 Q I1 q1
 | false=>exact⟨.bl false,H1,I1,rfl,q1⟩
theorem pe_or (ha:PE X a ta) (hb:PE X (.BoolOp .Or (b::rest) pos) tb):PE X (.BoolOp .Or (a::b::rest) pos) (tOrV ta tb):=by
 intro pins s σ H Q I h
 refine BoolOp_or (thn (ha pins s σ H _ I h) fun v s1 hq2=>?_)
 obtain⟨x,H1,I1,r1,q1⟩:=hq2
 obtain⟨c,rfl,q1⟩:=q1
 cases r1
 refine wpAny_truthy_bool ?_
 cases c with
 | false=>exact hb pins s1 σ H1 Q I1 q1
 | true=>exact⟨.bl true,H1,I1,rfl,q1⟩
theorem pe_not (ha:PE X a ta):PE X (.UnaryOp .Not a pos) (tNotV ta):=by
 intro pins s σ H Q I h
 refine UnaryOp_ (thn (ha pins s σ H _ I h) fun v s1 hq2=>?_)
 obtain⟨x,H1,I1,r1,q1⟩:=hq2
 obtain⟨c,rfl,q1⟩:=q1
 cases r1
 exact not_of (wpAny_truthy_bool ⟨.bl (!c),H1,I1,rfl,q1⟩)
noncomputable def tIf (t:TT) (ta tb:TE):TE:=fun σ H Q=>t σ H fun c H1=>if c=true then ta σ H1 Q else tb σ H1 Q
theorem pe_ifExp {c:Expr} (hc:PT X c tA) (ha:PE X a ta) (hb:PE X b tb):PE X (.IfExp c a b pos) (tIf tA ta tb):=by
 intro pins s σ H Q I h
 refine wpAny_IfExp (thn (hc pins s σ H _ I h) fun d s1 hq2=>?_)
 obtain⟨H1,I1,q1⟩:=hq2
 cases d with
 | true=>exact ha pins s1 σ H1 Q I1 q1
 | false=>exact hb pins s1 σ H1 Q I1 q1
end
end L2
namespace L2
open PySem PySem.Spec PyProof.Rows
noncomputable def SqL (K:PySem.W.Frag) (H:Hp) (a:Addr) (xs:List V):Prop :=
 Rd H a (.lst xs) \/
  ∃ (o:Obj) (its:Array Value) (n:Nat),K.lookup a=some o/\o.cls=.type "list"/\o.dict=none/\o.data=.seq its n/\its.size<=sizeLine/\Vals xs its.toList
noncomputable def SqT (K:PySem.W.Frag) (H:Hp) (a:Addr) (xs:List V):Prop :=
 Rd H a (.tup xs) \/
  ∃ (o:Obj) (its:Array Value) (n:Nat),K.lookup a=some o/\o.cls=.type "tuple"/\o.data=.seq its n/\its.size<=sizeLine/\Vals xs its.toList
noncomputable def absV:Value->Option V
 | .none=>some .non
 | .bool b=>some (.bl b)
 | .int i _=>some (.int i)
 | .str x _=>some (.str x)
 | .bytes b _=>some (.byt b)
 | .float b _=>some (.flt b)
 | .ref a=>some (.ref a)
 | .type n=>some (.ty n)
 | _=>none
theorem RelV.abs {x:V} {u:Value} (r:RelV x u):absV u=some x:=by
 cases x with
 | non=>cases r;rfl
 | bl _=>cases r;rfl
 | int _=>obtain⟨t,rfl⟩:=r;rfl
 | str _=>obtain⟨t,rfl⟩:=r;rfl
 | byt _=>obtain⟨t,rfl⟩:=r;rfl
 | flt _=>obtain⟨t,rfl⟩:=r;rfl
 | ref _=>cases r;rfl
 | ty _=>cases r;rfl
theorem RelV.inj {x y:V} {u:Value} (r:RelV x u) (q:RelV y u):x=y:=Option.some.inj (r.abs.symm.trans q.abs)
theorem Vals.inj:∀ {xs ys:List V} {us:List Value},Vals xs us->Vals ys us->xs=ys
 | _,_,_,.nil,.nil=>rfl
 | _,_,_,.cons r t,.cons r' t'=>by rw[r.inj r',Vals.inj t t']
section
variable {X:Cx} {pins:List (Addr×Obj)} {σ:St} {H:Hp} {s:Shared} {a:Addr} {xs ys:List V}
theorem SqL.of {K:PySem.W.Frag} (h:H a=some (.lst xs)):SqL K H a xs:=.inl (.inl h)
theorem SqT.of {K:PySem.W.Frag} (h:H a=some (.tup xs)):SqT K H a xs:=.inl (.inl h)
theorem Inv.list (I:Inv X pins σ H s) (h:SqL X.K H a xs):∃ its:List Value,Vals xs its/\PlainL s.heap a its.toArray/\xs.length<=sizeLine:=by
 rcases h with h|⟨o,its,n,hk,hc,hd,hs,hz,r⟩
 ·obtain⟨z,its,n,r,e⟩:=h.ok I.hok
  exact⟨its,r,⟨_,n,e,rfl,rfl,rfl⟩,z⟩
 ·refine⟨its.toList,r,⟨o,n,I.kIn a o hk,hc,hd,by simpa using hs⟩,?_⟩
  have e:=r.length
  simp only[Array.length_toList] at e
  omega
theorem Inv.tuple (I:Inv X pins σ H s) (h:SqT X.K H a xs):∃ its:List Value,Vals xs its/\IsTup s.heap a its.toArray/\xs.length<=sizeLine:=by
 rcases h with h|⟨o,its,n,hk,hc,hs,hz,r⟩
 ·obtain⟨z,its,r,p⟩:=h.ok I.hok
  exact⟨its,r,p,z⟩
 ·refine⟨its.toList,r,⟨o,I.kIn a o hk,hc,n,by simpa using hs⟩,?_⟩
  have e:=r.length
  simp only[Array.length_toList] at e
  omega
theorem Inv.list_inj (I:Inv X pins σ H s) (h:SqL X.K H a xs) (h':SqL X.K H a ys):xs=ys:=by
 obtain⟨its,r,⟨o,n,e,_,_,d⟩,_⟩:=I.list h
 obtain⟨its',r',⟨o',n',e',_,_,d'⟩,_⟩:=I.list h'
 rw[e] at e';cases e'
 rw[d] at d'
 injection d' with d1 _
 have:its=its':=by simpa using congrArg Array.toList d1
 subst this
 exact r.inj r'
theorem Inv.tuple_inj (I:Inv X pins σ H s) (h:SqT X.K H a xs) (h':SqT X.K H a ys):xs=ys:=by
 obtain⟨its,r,⟨o,e,_,n,d⟩,_⟩:=I.tuple h
 obtain⟨its',r',⟨o',e',_,n',d'⟩,_⟩:=I.tuple h'
 rw[e] at e';cases e'
 rw[d] at d'
 injection d' with d1 _
 have:its=its':=by simpa using congrArg Array.toList d1
 subst this
 exact r.inj r'
end
section
variable {X:Cx} {pins:List (Addr×Obj)} {σ:St} {H:Hp} {s:Shared} {E:Value->Shared->Prop}
end
section
variable {X:Cx} {st:Stmt} {rest:List Stmt} {t u:TS} {e:Expr} {te:TE} {pos:Pos}
noncomputable def tNext:TS:=fun D σ H=>D.nx σ H
noncomputable def tSeq (t u:TS):TS:=fun D σ H=>t {D with nx:=u D} σ H
theorem pss_nil:PSs X [] tNext:=fun _ _ σ H _ I h=>wpAny_execs_nil ⟨σ,H,I,h⟩
theorem pss_cons (h1:PS X st t) (h2:PSs X rest u):PSs X (st::rest) (tSeq t u):=by
 intro pins s σ H D I h
 refine wpAny_execs_cons (thn (h1 pins s σ H {D with nx:=u D} I h) fun f s1 q=>?_)
 cases f with
 | next =>
  obtain⟨σ',H',I',q⟩:=q
  exact h2 pins s1 σ' H' D I' q
 | ret v=>exact q
 | brk=>exact q
 | cont=>exact q
theorem Inv.quiet {pins:List (Addr×Obj)} {σ:St} {H:Hp} {s:Shared} (I:Inv X pins σ H s):interactive X.env=false:=by simp[interactive,I.ok.kind]
noncomputable def tDrop (te:TE):TS:=fun D σ H=>te σ H fun _ H1=>D.nx σ H1
theorem ps_expr (he:PE X e te) (hs:swapsWith e none pos.line X.env=pure false:=by rfl):PS X (.Expr e pos) (tDrop te):=by
 intro pins s σ H D I h
 exact wpAny_Expr_any (thn (he pins s σ H _ I h) (by rintro v s1 ⟨x,H1,I1,r1,q1⟩;exact⟨σ,H1,I1,q1⟩)) I.quiet hs
noncomputable def tRet (te:TE):TS:=fun D σ H=>te σ H D.rt
theorem ps_ret (he:PE X e te):PS X (.Return (some e) pos) (tRet te):=by
 intro pins s σ H D I h
 exact wpAny_Return_some (thn (he pins s σ H _ I h) (by rintro v s1 ⟨x,H1,I1,r1,q1⟩;exact⟨x,σ,H1,I1,r1,q1⟩))
noncomputable def tIfS (c:TT) (t u:TS):TS:=fun D σ H=>c σ H fun b H1=>if b=true then t D σ H1 else u D σ H1
theorem ps_if {c:Expr} {a b:List Stmt} {tc:TT} (hc:PT X c tc) (ha:PSs X a t) (hb:PSs X b u):PS X (.If c a b pos) (tIfS tc t u):=by
 intro pins s σ H D I h
 refine wpAny_If (thn (hc pins s σ H _ I h) fun d s1 hq2=>?_)
 obtain⟨H1,I1,q1⟩:=hq2
 cases d with
 | true=>exact ha pins s1 σ H1 D I1 q1
 | false=>exact hb pins s1 σ H1 D I1 q1
end
noncomputable abbrev TG:=V->St->Hp->(St->Hp->Prop)->Prop
noncomputable abbrev TGs:=List V->St->Hp->(St->Hp->Prop)->Prop
noncomputable def PG (X:Cx) (target:Expr) (t:TG):Prop :=
 ∀ (pins:List (Addr×Obj)) (s:Shared) (σ:St) (H:Hp) (v:V) (u:Value) (Q:St->Hp->Prop),Inv X pins σ H s->RelV v u->t v σ H Q ->
  wpAny (model X.prog X.w) X.A (assign target X.env u) (fun _ s'=>∃ σ' H',Inv X pins σ' H' s'/\Q σ' H') X.xe s
noncomputable def PGs (X:Cx) (ts:List Expr) (t:TGs):Prop :=
 ∀ (pins:List (Addr×Obj)) (s:Shared) (σ:St) (H:Hp) (vs:List V) (us:List Value) (Q:St->Hp->Prop),Inv X pins σ H s->Vals vs us->t vs σ H Q ->
  wpAny (model X.prog X.w) X.A (assignInOrder ((assignEach ts X.env).map (·.2)) us) (fun _ s'=>∃ σ' H',Inv X pins σ' H' s'/\Q σ' H') X.xe s
noncomputable abbrev TSet:=V->V->V->Hp->(Hp->Prop)->Prop
noncomputable def PSet (X:Cx) (t:TSet):Prop :=
 ∀ (pins:List (Addr×Obj)) (s:Shared) (σ:St) (H:Hp) (o i v:V) (ov iv u:Value) (Q:Hp->Prop),Inv X pins σ H s->RelV o ov->RelV i iv->RelV v u->t o i v H Q ->
  wpAny (model X.prog X.w) X.A (setItem ov iv u) (fun _ s'=>∃ H',Inv X pins σ H' s'/\Q H') X.xe s
section
variable {X:Cx} {pos:Pos}
noncomputable def gName (i:Nat):TG:=fun v σ H Q=>Q (σ.set i (some v)) H
theorem pg_name {i:Nat} {x:Str} (hN:X.N.Nodup) (hi:X.N[i]?=some x) (hx:Loc X.env.scope x) (hf:X.fn x=true\/X.env.scope.names.lookup x=some .local:=by first|exact .inl rfl|exact .inr rfl|assumption):PG X (.Name x pos) (gName i):=by
 intro pins s σ H v u Q I r h
 exact wpAny_assign_Name (store_ok I hN hi hx r (fun s' I'=>⟨_,H,I',h⟩) hf)
noncomputable def gNil:TGs:=fun vs σ H Q=>vs=[]/\Q σ H
noncomputable def gCons (t:TG) (u:TGs):TGs:=fun vs σ H Q=>∃ v r,vs=v::r/\t v σ H fun σ' H'=>u r σ' H' Q
theorem pgs_nil:PGs X [] gNil:=by
 intro pins s σ H vs us Q I r h
 obtain⟨e,h⟩:=h
 subst e
 cases r
 exact assignInOrder_nil ⟨σ,H,I,h⟩
theorem pgs_cons {e:Expr} {es:List Expr} {t:TG} {u:TGs} (h1:PG X e t) (h2:PGs X es u)
  (hs:(assignEach (e::es) X.env).map (·.2)=assign e X.env::(assignEach es X.env).map (·.2):=by rfl):PGs X (e::es) (gCons t u):=by
 intro pins s σ H vs us Q I r h
 obtain⟨v,vr,e1,h⟩:=h
 subst e1
 cases r with
 | cons r rr =>
  rw[hs]
  refine assignInOrder_cons (thn (h1 pins s σ H _ _ _ I r h) fun _ s1 hq2=>?_)
  obtain⟨σ1,H1,I1,q1⟩:=hq2
  exact h2 pins s1 σ1 H1 _ _ Q I1 rr q1
noncomputable def gTup (K:PySem.W.Frag) (n:Nat) (t:TGs):TG:=fun v σ H Q=>∃ a xs,v=.ref a/\SqT K H a xs/\xs.length=n/\t xs σ H Q
theorem pg_tup {es:List Expr} {k:Nat} {t:TGs} {n:Nat} (hc:X.calm=true) (h:PGs X es t)
  (hn:(assignEach es X.env).length=n:=by rfl) (hst:(assignEach es X.env).findIdx? (·.1)=none:=by rfl):PG X (.Tuple es k pos) (gTup X.K n t):=by
 intro pins s σ H v u Q I r hw
 obtain⟨a,xs,e1,hq,hl,hw⟩:=hw
 subst e1
 cases r
 obtain⟨its,rv,ht,hz⟩:=I.tuple hq
 refine assign_Tuple_tuple (I.ok.hd hc) ht (by simp[hn,<- hl,rv.length]) hst fun h' hx=>?_
 have I1:Inv X pins σ H {s with heap:=h'}:=I.kept (t':=s.toks) fun b o e=>hx b o (Nat.ne_of_lt (Heap.lt_size e)) e
 exact h pins _ σ H xs _ Q I1 (by simpa using rv) hw
noncomputable def gSub (to ti:TE) (t:TSet):TG:=fun v σ H Q=>to σ H fun o H1=>ti σ H1 fun i H2=>t o i v H2 fun H3=>Q σ H3
theorem pg_sub {o i:Expr} {to ti:TE} {t:TSet} (ho:PE X o to) (hi:PE X i ti) (hs:PSet X t)
  (ha:∀ v,assign (.Subscript o i pos) X.env v=(do
   let ov <- holding [v] (eval o X.env)
   let iv <- holding [v,ov] (eval i X.env)
   standAt pos
   holding [v,ov,iv] (setItem ov iv v)
   release [v,ov,iv] []):=by intro _;rfl):PG X (.Subscript o i pos) (gSub to ti t):=by
 intro pins s σ H v u Q I r h
 rw[ha]
 refine wpAny_bind (wpAny_holding (thn (ho pins s σ H _ I h) fun ov s1 hq2=>?_))
 obtain⟨x,H1,I1,r1,q1⟩:=hq2
 refine wpAny_bind (wpAny_holding (thn (hi pins s1 σ H1 _ I1 q1) fun iv s2 hq2=>?_))
 obtain⟨y,H2,I2,r2,q2⟩:=hq2
 refine wpAny_bind (wpAny_standAt (wpAny_bind (wpAny_holding (thn (hs pins s2 σ H2 x y v ov iv u _ I2 r1 r2 r q2) fun _ s3 hq2=>?_))))
 obtain⟨H3,I3,q3⟩:=hq2
 exact wpAny_release ⟨σ,H3,I3,q3⟩
noncomputable def tAsg (te:TE) (g:TG):TS:=fun D σ H=>te σ H fun x H1=>g x σ H1 D.nx
theorem ps_asg {tg e:Expr} {te:TE} {g:TG} (he:PE X e te) (hg:PG X tg g) (hs:swapsWithSole [tg] e pos.line X.env=pure false:=by rfl) (hw:swappedStores [tg] e X.env=pure none:=by rfl)
  (h1:(assignEach [tg] X.env).map (·.2)=[assign tg X.env]:=by rfl):PS X (.Assign [tg] e pos) (tAsg te g):=by
 intro pins s σ H D I h
 refine wpAny_Assign_stores (thn (he pins s σ H _ I h) fun v s1 hq2=>?_) hs hw
 obtain⟨x,H1,I1,r1,q1⟩:=hq2
 rw[h1]
 exact thn (hg pins s1 σ H1 x v _ I1 r1 q1) fun _ s2 q=>q
theorem ps_set {i:Nat} {x:Str} {e:Expr} {te:TE} {pos':Pos} (hN:X.N.Nodup) (hi:X.N[i]?=some x) (hx:Loc X.env.scope x) (he:PE X e te) (hs:swapsWith e (some (.Name x pos')) pos.line X.env=pure false:=by rfl) (hf:X.fn x=true\/X.env.scope.names.lookup x=some .local:=by first|exact .inl rfl|exact .inr rfl|assumption) :
  PS X (.Assign [.Name x pos'] e pos) (tAsg te (gName i)):=by
 intro pins s σ H D I h
 refine wpAny_Assign_Name (thn (he pins s σ H _ I h) fun v s1 hq2=>?_) hs
 obtain⟨y,H1,I1,r1,q1⟩:=hq2
 exact store_ok I1 hN hi hx r1 (fun s2 I2=>⟨_,H1,I2,q1⟩) hf
noncomputable def tPar (i j:Nat) (ta:TA):TS:=fun D σ H=>ta σ H fun vs H1=>∃ v w,vs=[v,w]/\D.nx ((σ.set i (some v)).set j (some w)) H1
theorem ps_par {i j:Nat} {x y:Str} {a b:Expr} {ta:TA} {px py pt:Pos} {kt k2 pt2} (hc:X.calm=true) (hN:X.N.Nodup) (hi:X.N[i]?=some x) (hj:X.N[j]?=some y) (hij:i≠j)
  (hx:X.env.scope.names.lookup x=some .local) (hy:X.env.scope.names.lookup y=some .local) (ha:PA X [a,b] ta)
  (hw:swappedStores [.Tuple [.Name x px,.Name y py] kt pt] (.Tuple [a,b] k2 pt2) X.env=pure (some [x,y]))
  (hs:swapsWithSole [.Tuple [.Name x px,.Name y py] kt pt] (.Tuple [a,b] k2 pt2) pos.line X.env=pure false:=by rfl) :
  PS X (.Assign [.Tuple [.Name x px,.Name y py] kt pt] (.Tuple [a,b] k2 pt2) pos) (tPar i j ta):=by
 intro pins s σ H D I h
 rw[exec_Assign_arm]
 refine wpAny_bind (wpAny_standAt ?_)
 rw[hs]
 refine wpAny_bind (wpAny_pure ?_)
 rw[if_neg (by decide)]
 refine wpAny_bind (Tuple_ (thn (ha _ pins s σ H _ I h) fun us s1 hq2=>?_))
 obtain⟨vs,H1,I1,r1,q1⟩:=hq2
 obtain⟨v,w,e1,q1⟩:=q1
 subst e1
 obtain⟨u1,u2,rfl,rv,rw'⟩:∃ u1 u2,us=[u1,u2]/\RelV v u1/\RelV w u2:=by
  cases r1 with
  | cons p q =>
   cases q with
   | cons p' q' =>
    cases q'
    exact⟨_,_,rfl,p,p'⟩
 refine wpAny_newObj_type ?_ (by show 2<=sizeLine;decide)
 have I2:Inv X pins σ H1 {s1 with heap:=s1.heap.push {cls:=.type "tuple",data:=.seq [u1,u2].toArray}}:=I1.kept (t':=s1.toks) fun b o e=>Heap.get?_push_of_some _ e
 rw[hw]
 refine wpAny_bind (wpAny_pure ?_)
 show wpAny (model X.prog X.w) X.A (do rule "assign.swapped-stores";let items <- unpackItems (.ref s1.heap.objs.size) 2 none;assignInOrder [fun v=>bindName X.env y v,fun v=>bindName X.env x v] items.reverse;pure Flow.next) _ _ _
 refine wpAny_bind (wpAny_rule (wpAny_bind (unpackItems_tuple (items:=#[u1,u2]) (I.ok.hd hc) (IsTup.new s1.heap _) fun h' hx'=>?_)))
 have I3:=I2.kept (h':=h') (t':=s1.toks) fun b o e=>hx' b o (Nat.ne_of_lt (Heap.lt_size e)) e
 show wpAny _ _ (assignInOrder [fun v=>bindName X.env y v,fun v=>bindName X.env x v] [u2,u1] >>= fun _=>pure Flow.next) _ _ _
 refine wpAny_bind (assignInOrder_cons (wpAny_bindName (store_ok I3 hN hj (.inl hy) rw' (fun s2 I4=>?_) (.inr hy))))
 refine assignInOrder_cons (wpAny_bindName (store_ok I4 hN hi (.inl hx) rv (fun s3 I5=>assignInOrder_nil (wpAny_pure ?_)) (.inr hx)))
 rw[List.set_comm _ _ (Ne.symm hij)] at I5
 exact⟨_,H1,I5,q1⟩
end
section
variable {X:Cx} {pos:Pos}
noncomputable def tWhile (c:TT) (tb:TS):TS:=fun D σ H=>∃ W:Nat->St->Hp->Prop,(∃ m,W m σ H)/\∀ m σ H,W m σ H ->
 c σ H fun b H1=>if b=true then ∃ N:St->Hp->Prop,(∀ σ' H',N σ' H'->∃ m',m'<m/\W m' σ' H')/\tb {D with nx:=N,ct:=N,bk:=D.nx} σ H1 else D.nx σ H1
theorem ps_while {c:Expr} {body:List Stmt} {tc:TT} {tb:TS} (hp:PassesOwn (model X.prog X.w) X.A X.env X.xe) (hc:PT X c tc) (hb:PSs X body tb):PS X (.While c body [] pos) (tWhile tc tb):=by
 intro pins s σ H D I h
 obtain⟨W,⟨m0,w0⟩,turn⟩:=h
 refine wpAny_While (codeAny_whileLoop (fun n s'=>∃ σ' H',Inv X pins σ' H' s'/\W n σ' H') ?_ m0 ⟨σ,H,I,w0⟩)
 rintro n s1 ⟨σ1,H1,I1,w1⟩
 refine wpAny_passesOwn hp (thn (hc pins s1 σ1 H1 _ I1 (turn n σ1 H1 w1)) fun b s2 hq2=>?_)
 obtain⟨H2,I2,q2⟩:=hq2
 cases b with
 | true =>
  obtain⟨N,hN,q2⟩:=q2
  rw[if_pos rfl]
  refine wpAny_passesOwn hp (thn (hb pins s2 σ1 H2 _ I2 q2) fun f s3 q3=>?_)
  cases f with
  | next =>
   obtain⟨σ3,H3,I3,n3⟩:=q3
   obtain⟨m',hm,w3⟩:=hN σ3 H3 n3
   exact⟨m',hm,σ3,H3,I3,w3⟩
  | cont =>
   obtain⟨σ3,H3,I3,n3⟩:=q3
   obtain⟨m',hm,w3⟩:=hN σ3 H3 n3
   exact⟨m',hm,σ3,H3,I3,w3⟩
  | brk=>exact q3
  | ret v=>exact q3
 | false =>
  rw[if_neg Bool.false_ne_true]
  exact wpAny_execs_nil ⟨σ1,H2,I2,q2⟩
end
structure It where
 go:Nat->Hp->Prop
 yld:Nat->Hp->V->Hp->Prop
 stop:Nat->Hp->Prop
noncomputable def FpOk (X:Cx) (pins:List (Addr×Obj)) (H:Hp) (b:Addr):Prop :=
 H b=none/\b≠X.env.locals/\b ∉ X.fs/\(b∈X.ex\/X.s₀.heap.objs.size<=b)/\(∀ x c,X.env.cells.lookup x=some c->c≠b)/\∀ p∈X.pn++pins,p.1≠b
theorem Inv.fpOk {X:Cx} {pins:List (Addr×Obj)} {σ:St} {H H':Hp} {s:Shared} {b:Addr} (I:Inv X pins σ H s) (hb:s.heap.objs.size<=b) (hn:H' b=none):FpOk X pins H' b:=by
 refine⟨hn,Nat.ne_of_gt (Nat.lt_of_lt_of_le I.lt hb),I.nofs hb,.inr (Nat.le_trans I.sz hb),fun x c e z=>?_,fun p hp z=>?_⟩
 ·obtain⟨v,q⟩:=I.cell x c e
  exact absurd (Nat.lt_of_lt_of_le q.lt (by rw[z];exact hb)) (Nat.lt_irrefl _)
 ·exact absurd (Nat.lt_of_lt_of_le (Heap.lt_size (I.pin p hp).1) (by rw[z];exact hb)) (Nat.lt_irrefl _)
structure Turn (P:Program) (w:World) (K:PySem.W.Frag) (tg:Expr) (J:It) (fp:List Addr) (it:Addr) (tn:Nat->Heap->Prop):Prop where
 mem:it∈fp
 obj:∀ i h,tn i h->∀ b∈fp,∃ o,h.get? b=some o/\∀ v,o.data≠.cell v
 keep:∀ i h h',tn i h->(∀ b∈fp,∀ o,h.get? b=some o->h'.get? b=some o)->tn i h'
 item:∀ (X:Cx),X.prog=P->X.w=w->X.K=K->X.calm=true->∀ (i:Nat) (pins:List (Addr×Obj)) (s:Shared) (σ:St) (H:Hp) (E:Value->Shared->Prop),Inv X pins σ H s->(∀ b∈fp,FpOk X pins H b)->tn i s.heap->J.go i H ->
  wpAny (model P w) X.A (pyNext (.ref it)) (fun r s1=>∃ u,r=some u /\
   wpAny (model P w) X.A (letOwnedTupleGo tg (.ref it) u) (fun _ s2=>∃ x H',Inv X pins σ H' s2/\RelV x u/\J.yld i H x H'/\tn (i+1) s2.heap/\∀ b∈fp,H' b=none) E s1) E s
 done:∀ (X:Cx),X.prog=P->X.w=w->X.K=K->X.calm=true->∀ (i:Nat) (pins:List (Addr×Obj)) (s:Shared) (σ:St) (H:Hp) (E:Value->Shared->Prop),Inv X pins σ H s->(∀ b∈fp,FpOk X pins H b)->tn i s.heap->J.stop i H ->
  wpAny (model P w) X.A (pyNext (.ref it)) (fun r s1=>r=none/\Inv X pins σ H s1) E s
 self:∀ (A:Around) (i:Nat) (s:Shared) (Q:Value->Shared->Prop) (E:Value->Shared->Prop),tn i s.heap->Q (.ref it) s->wpAny (model P w) A (pyIter (.ref it)) Q E s
noncomputable abbrev TI:=St->Hp->(It->Hp->Prop)->Prop
noncomputable def PIE (X:Cx) (pins:List (Addr×Obj)) (σ:St) (tg:Expr) (R:It->Hp->Prop) (itv:Value) (s2:Shared):Prop :=
 ∃ (it:Addr) (fp:List Addr) (tn:Nat->Heap->Prop) (J:It) (H':Hp),itv=.ref it/\Inv X pins σ H' s2/\Turn X.prog X.w X.K tg J fp it tn/\tn 0 s2.heap/\(∀ b∈fp,FpOk X pins H' b)/\R J H'
noncomputable def PI (X:Cx) (tg iter:Expr) (wi:TI):Prop :=
 ∀ (pins:List (Addr×Obj)) (s:Shared) (σ:St) (H:Hp) (R:It->Hp->Prop),Inv X pins σ H s->wi σ H R ->
  wpAny (model X.prog X.w) X.A (eval iter X.env) (fun v s1=>wpAny (model X.prog X.w) X.A (pyIter v) (PIE X pins σ tg R) X.xe s1) X.xe s
theorem go_of {M:Model} {A:Around} {E:Value->Shared->Prop} {s:Shared} {tg:Expr} {it:Addr} {u:Value} {o:Obj} {n:String} {vs:Array Value} {Q:Unit->Shared->Prop} (ho:s.heap.get? it=some o) (hc:o.cls=.type n) (hd:o.data=.fields vs)
    (hn:["enumerate","zip","dict_itemiterator","dict_reverseitemiterator","odict_iterator","itertools.zip_longest","itertools.pairwise"].contains n=false) (hQ:Q () s):wpAny M A (letOwnedTupleGo tg (.ref it) u) Q E s:=by
  unfold letOwnedTupleGo
  cases tg<;>first
    | exact wpAny_pure hQ
    | (cases u<;>first
        | exact wpAny_pure hQ
        | (refine wpAny_bind (wpAny_load ho ?_)
           rw[hc,hd]
           show wpAny M A (if (["enumerate","zip","dict_itemiterator","dict_reverseitemiterator","odict_iterator","itertools.zip_longest","itertools.pairwise"].contains n&&vs[0]?==some (rawInt _))=true then _ else _) Q E s
           rw[if_neg (by intro h;rw[hn,Bool.false_and] at h;cases h)]
           exact wpAny_pure hQ))
noncomputable def Itl (K:PySem.W.Frag) (a:Addr):It :=
 ⟨fun i H=>∃ xs x,SqL K H a xs/\xs[i]?=some x,fun i H x H'=>H'=H/\∀ xs,SqL K H a xs->xs[i]?=some x,fun i H=>∃ xs,SqL K H a xs/\xs.length<=i⟩
noncomputable def Itt (K:PySem.W.Frag) (a:Addr):It :=
 ⟨fun i H=>∃ xs x,SqT K H a xs/\xs[i]?=some x,fun i H x H'=>H'=H/\∀ xs,SqT K H a xs->xs[i]?=some x,fun i H=>∃ xs,SqT K H a xs/\xs.length<=i⟩
noncomputable def Itr (lo:Int) (n:Nat):It:=⟨fun i _=>i<n,fun i H x H'=>H'=H/\x=.int (lo+i),fun i _=>n<=i⟩
theorem turn_list {P:Program} {w:World} {K:PySem.W.Frag} {tg:Expr} (a it:Addr):Turn P w K tg (Itl K a) [it] it (fun i h=>h.IsListIter it a i) where
 mem:=by simp
 obj:=fun i h st b hb=>by
  have e:b=it:=by simpa using hb
  subst e
  obtain⟨o,e,c,d⟩:=st
  exact⟨o,e,fun v z=>by rw[d] at z;cases z⟩
 keep:=fun i h h' st k=>st.at fun o e=>k it (by simp) o e
 item:=by
  intro X hP hw hK hc i pins s σ H E I hf st hg
  subst hP hw hK
  obtain⟨xs,x,hq,hx⟩:=hg
  obtain⟨its,rv,p,hz⟩:=I.list hq
  obtain⟨u,hu,ru⟩:=rv.get hx
  obtain⟨f0,f1,f2,f3,f4,f5⟩:=hf it (by simp)
  refine wpAny_pyNext_list_item st p.isList (x:=u) (by simpa using hu) fun h' st' sb=>?_
  have I1:Inv X pins σ H {s with heap:=h'}:=I.turned (t':=s.toks) (fun b o hb e=>(sb.2 b hb).trans e) f0 f1 f3 f4 f5
  obtain⟨o,e,c,d⟩:=id st'
  exact⟨u,rfl,go_of (s:={s with heap:=h'}) e c d (by decide) ⟨x,H,I1,ru,⟨rfl,fun ys hy=>by rw[I.list_inj hy hq];exact hx⟩,st',fun b hb=>(hf b hb).1⟩⟩
 done:=by
  intro X hP hw hK hc i pins s σ H E I hf st hg
  subst hP hw hK
  obtain⟨xs,hq,hx⟩:=hg
  obtain⟨its,rv,p,hz⟩:=I.list hq
  obtain⟨f0,f1,f2,f3,f4,f5⟩:=hf it (by simp)
  have hl:=rv.length
  exact wpAny_pyNext_list_end (I.ok.hd hc) st p.isList (by simp;omega) fun h' eb=>⟨rfl,I.turned (t':=s.toks) (fun b o hb e=>eb b o hb e) f0 f1 f3 f4 f5⟩
 self:=fun _ _ _ _ _ st h=>wpAny_pyIter_listiter st h
theorem turn_tuple {P:Program} {w:World} {K:PySem.W.Frag} {tg:Expr} (a it:Addr):Turn P w K tg (Itt K a) [it] it (fun i h=>h.IsTupleIter it a i) where
 mem:=by simp
 obj:=fun i h st b hb=>by
  have e:b=it:=by simpa using hb
  subst e
  obtain⟨o,e,c,d⟩:=st
  exact⟨o,e,fun v z=>by rw[d] at z;cases z⟩
 keep:=fun i h h' st k=>st.at fun o e=>k it (by simp) o e
 item:=by
  intro X hP hw hK hc i pins s σ H E I hf st hg
  subst hP hw hK
  obtain⟨xs,x,hq,hx⟩:=hg
  obtain⟨its,rv,p,hz⟩:=I.tuple hq
  obtain⟨u,hu,ru⟩:=rv.get hx
  obtain⟨f0,f1,f2,f3,f4,f5⟩:=hf it (by simp)
  refine wpAny_pyNext_tuple_item st (show s.heap.IsTuple a its.toArray from p) (x:=u) (by simpa using hu) fun h' st' sb=>?_
  have I1:Inv X pins σ H {s with heap:=h'}:=I.turned (t':=s.toks) (fun b o hb e=>(sb.2 b hb).trans e) f0 f1 f3 f4 f5
  obtain⟨o,e,c,d⟩:=id st'
  exact⟨u,rfl,go_of (s:={s with heap:=h'}) e c d (by decide) ⟨x,H,I1,ru,⟨rfl,fun ys hy=>by rw[I.tuple_inj hy hq];exact hx⟩,st',fun b hb=>(hf b hb).1⟩⟩
 done:=by
  intro X hP hw hK hc i pins s σ H E I hf st hg
  subst hP hw hK
  obtain⟨xs,hq,hx⟩:=hg
  obtain⟨its,rv,p,hz⟩:=I.tuple hq
  obtain⟨f0,f1,f2,f3,f4,f5⟩:=hf it (by simp)
  have hl:=rv.length
  exact wpAny_pyNext_tuple_end (I.ok.hd hc) st (show s.heap.IsTuple a its.toArray from p) (by simp;omega) fun h' eb=>⟨rfl,I.turned (t':=s.toks) (fun b o hb e=>eb b o hb e) f0 f1 f3 f4 f5⟩
 self:=fun _ _ _ _ _ st h=>wpAny_pyIter_tupleiter st h
theorem turn_range {P:Program} {w:World} {K:PySem.W.Frag} {tg:Expr} (it:Addr) (lo:Int) (n:Nat):Turn P w K tg (Itr lo n) [it] it (fun i h=>IsRangeIter h it (lo+(i:Nat)*1) ((n:Int)-(i:Nat)) 1) where
 mem:=by simp
 obj:=fun i h st b hb=>by
  have e:b=it:=by simpa using hb
  subst e
  exact⟨_,st,fun v z=>by
   have z':Data.fields _=Data.cell v:=z
   cases z'⟩
 keep:=fun i h h' st k=>k it (by simp) _ st
 item:=by
  intro X hP hw hK hc i pins s σ H E I hf st hg
  subst hP hw hK
  obtain⟨f0,f1,f2,f3,f4,f5⟩:=hf it (by simp)
  have W:=Walks.range (prog:=X.prog) (w:=X.w) (I.ok.hd hc) it lo 1 n
  refine W.item i s _ _ hg st fun v h' tk hv st' kk=>?_
  obtain⟨t,rfl⟩:=hv
  have I1:Inv X pins σ H {s with heap:=h',toks:=tk}:=I.turned (fun b o hb e=>kk b o (by simpa using hb) e) f0 f1 f3 f4 f5
  refine⟨_,rfl,go_of (s:={s with heap:=h',toks:=tk}) (n:="range_iterator") st' rfl rfl (by decide) ⟨.int (lo+i),H,I1,⟨t,?_⟩,⟨rfl,rfl⟩,st',fun b hb=>(hf b hb).1⟩⟩
  rw[Int.mul_one]
 done:=by
  intro X hP hw hK hc i pins s σ H E I hf st hg
  subst hP hw hK
  obtain⟨f0,f1,f2,f3,f4,f5⟩:=hf it (by simp)
  exact wpAny_pyNext_range_end (I.ok.hd hc) st (by have:n<=i:=hg;omega) fun h' eb=>⟨rfl,I.turned (t':=s.toks) (fun b o hb e=>eb b o hb e) f0 f1 f3 f4 f5⟩
 self:=fun _ _ _ _ _ st h=>wpAny_pyIter_rangeiter st h
end L2
namespace L2
open PySem PySem.Spec PyProof.Rows
section
variable {X:Cx} {tg:Expr}
theorem range_it {pins:List (Addr×Obj)} {σ:St} {H:Hp} {s:Shared} {R:It->Hp->Prop} {E:Value->Shared->Prop} {lo hi:Int} {t u v:Tok} {tk:Nat} (I:Inv X pins σ H s) (h1:-(2 ^ 62)<=lo) (h2:lo<2 ^ 62) (h3:-(2 ^ 62)<=hi) (h4:hi<2 ^ 62)
  (q:R (Itr lo (hi-lo).toNat) H):wpAny (model X.prog X.w) X.A (pyIter (.ref s.heap.objs.size)) (PIE X pins σ tg R) E {s with heap:=s.heap.push {cls:=.type "range",data:=.fields #[.int lo t,.int hi u,.int 1 v]},toks:=tk}:=by
 refine wpAny_pyIter_range (IsRange.new ..) (small_one h1 h2 h3 h4) ?_
 have I1:Inv X pins σ H {s with heap:=s.heap.push {cls:=.type "range",data:=.fields #[.int lo t,.int hi u,.int 1 v]},toks:=tk}:=I.kept fun b o e=>Heap.get?_push_of_some _ e
 refine⟨(s.heap.push {cls:=.type "range",data:=.fields #[.int lo t,.int hi u,.int 1 v]}).objs.size,[(s.heap.push {cls:=.type "range",data:=.fields #[.int lo t,.int hi u,.int 1 v]}).objs.size],_,_,H,rfl,
  I1.kept (t':=tk) fun b o e=>Heap.get?_push_of_some _ e,turn_range _ lo (hi-lo).toNat,?_,fun b hb=>?_,q⟩
 ·have e1:lo+((0:Nat):Int)*1=lo:=by simp
  have e2:(((hi-lo).toNat:Nat):Int)-((0:Nat):Int)=Builtin.Range.rangeSize lo hi 1:=by rw[rangeSize_one];split<;>omega
  show IsRangeIter _ _ (lo+((0:Nat):Int)*1) ((((hi-lo).toNat:Nat):Int)-((0:Nat):Int)) 1
  rw[e1,e2]
  exact Heap.get?_push_size _ rfl
 ·have e:b=(s.heap.push {cls:=.type "range",data:=.fields #[.int lo t,.int hi u,.int 1 v]}).objs.size:=by simpa using hb
  subst e
  exact I1.fpOk (Nat.le_refl _) (I1.hok.fresh (Nat.le_refl _))
noncomputable def tFor (wi:TI) (g:TG) (tb:TS):TS:=fun D σ H=>wi σ H fun J H1=>∃ W:Nat->Nat->St->Hp->Prop,(∃ m,W 0 m σ H1)/\∀ i m σ H,W i m σ H ->
 (J.stop i H/\D.nx σ H)\/(J.go i H/\∃ N:St->Hp->Prop,(∀ σ' H',N σ' H'->∃ m',m'<m/\W (i+1) m' σ' H')/\∀ x H',J.yld i H x H'->g x σ H' fun σ2 H2=>tb {D with nx:=N,ct:=N,bk:=D.nx} σ2 H2)
noncomputable def pinsAt (fp:List Addr) (h:Heap):List (Addr×Obj):=fp.filterMap fun b=>(h.get? b).map fun o=>(b,o)
theorem mem_pinsAt {fp:List Addr} {h:Heap} {b:Addr} {o:Obj} (hb:b∈fp) (e:h.get? b=some o):(b,o)∈pinsAt fp h:=List.mem_filterMap.mpr ⟨b,hb,by rw[e];rfl⟩
theorem of_pinsAt {fp:List Addr} {h:Heap} {p:Addr×Obj} (hp:p∈pinsAt fp h):p.1∈fp/\h.get? p.1=some p.2:=by
 obtain⟨b,hb,e⟩:=List.mem_filterMap.mp hp
 cases q:h.get? b with
 | none=>rw [q] at e;cases e
 | some o =>
  rw[q] at e
  have e':(b,o)=p:=Option.some.inj e
  subst e'
  exact⟨hb,q⟩
theorem Inv.pinned {pins:List (Addr×Obj)} {σ:St} {H:Hp} {s:Shared} {fp:List Addr} (I:Inv X pins σ H s) (hf:∀ b∈fp,FpOk X pins H b) (ho:∀ b∈fp,∃ o,s.heap.get? b=some o/\∀ v,o.data≠.cell v):Inv X (pins++pinsAt fp s.heap) σ H s :=
 I.pins_of fun p hp=>(List.mem_append.mp hp).elim (fun z=>I.pin p (List.mem_append_right _ z)) fun z=>by
  obtain⟨hb,e⟩:=of_pinsAt z
  obtain⟨f0,f1,f2,_⟩:=hf p.1 hb
  obtain⟨o,e',d⟩:=ho p.1 hb
  rw[e] at e';cases e'
  exact⟨e,f0,f1,f2,d⟩
theorem Inv.unpinned {pins pl:List (Addr×Obj)} {σ:St} {H:Hp} {s:Shared} (I:Inv X (pins++pl) σ H s):Inv X pins σ H s:=I.pins_of fun p hp=>I.pin p (List.mem_append_right _ (List.mem_append_left _ hp))
theorem ps_for {iter:Expr} {body:List Stmt} {wi:TI} {g:TG} {tb:TS} {pos:Pos} (hp:PassesOwn (model X.prog X.w) X.A X.env X.xe) (hc:X.calm=true) (hi:PI X tg iter wi) (hg:PG X tg g) (hb:PSs X body tb)
  (hs:∀ x,foldedSetIterable iter X.env x=pure x:=by intro _;rfl):PS X (.For tg iter body [] pos) (tFor wi g tb):=by
 intro pins s σ H D I h
 refine wpAny_For (thn (hi pins s σ H _ I h) fun v s1 h1=>thn h1 fun itv s2 h2=>?_) hs
 obtain⟨it,fp,tn,J,H2,e,I2,T,st2,f2,W,⟨m0,w0⟩,turn⟩:=h2
 subst e
 have stat:∀ {H':Hp},(∀ b∈fp,H' b=none)->∀ b∈fp,FpOk X pins H' b:=fun hn b hb=>⟨hn b hb,(f2 b hb).2⟩
 refine codeAny_forLoop_any (fun n s'=>∃ i σ' H',Inv X pins σ' H' s'/\tn i s'.heap/\(∀ b∈fp,H' b=none)/\W i n σ' H') ?_ m0 ⟨0,σ,H2,I2,st2,fun b hb=>(f2 b hb).1,w0⟩
 rintro n s3 ⟨i,σ3,H3,I3,st3,fr3,w3⟩
 rcases turn i n σ3 H3 w3 with ⟨stop,qn⟩|⟨go,N,hN,step⟩
 ·refine wpAny_passesOwn hp (thn (T.done X rfl rfl rfl hc i pins s3 σ3 H3 X.xe I3 (stat fr3) st3 stop) fun r s4 hq2=>?_)
  obtain⟨hr,I4⟩:=hq2
  subst hr
  exact wpAny_execs_nil ⟨σ3,H3,I4,qn⟩
 ·refine wpAny_passesOwn hp (thn (T.item X rfl rfl rfl hc i pins s3 σ3 H3 X.xe I3 (stat fr3) st3 go) fun r s4 hq2=>?_)
  obtain⟨u,hr,h4⟩:=hq2
  subst hr
  refine wpAny_passesOwn hp (thn h4 fun _ s5 hq2=>?_)
  obtain⟨x,H5,I5,r5,y5,st5,fr5⟩:=hq2
  have I5':=I5.pinned (stat fr5) (T.obj _ _ st5)
  refine wpAny_passesOwn hp (thn (hg _ s5 σ3 H5 x u _ I5' r5 (step x H5 y5)) fun _ s6 hq2=>?_)
  obtain⟨σ6,H6,I6,q6⟩:=hq2
  refine wpAny_passesOwn hp (thn (hb _ s6 σ6 H6 _ I6 q6) fun f s7 q7=>?_)
  have again:∀ {σ7:St} {H7:Hp},Inv X (pins++pinsAt fp s5.heap) σ7 H7 s7->N σ7 H7->∃ m,m<n/\∃ i σ' H',Inv X pins σ' H' s7/\tn i s7.heap/\(∀ b∈fp,H' b=none)/\W i m σ' H':=fun {σ7 H7} I7 n7=>by
   obtain⟨m',hm,w7⟩:=hN σ7 H7 n7
   refine⟨m',hm,i+1,σ7,H7,I7.unpinned,T.keep _ _ _ st5 fun b hb o e=>(I7.pin (b,o) (List.mem_append_right _ (List.mem_append_right _ (mem_pinsAt hb e)))).1,fun b hb=>?_,w7⟩
   obtain⟨o,e,d⟩:=T.obj _ _ st5 b hb
   exact (I7.pin (b,o) (List.mem_append_right _ (List.mem_append_right _ (mem_pinsAt hb e)))).2.1
  cases f with
  | next=>obtain⟨σ7,H7,I7,n7⟩:=q7;exact again I7 n7
  | cont=>obtain⟨σ7,H7,I7,n7⟩:=q7;exact again I7 n7
  | brk=>obtain⟨σ7,H7,I7,q7⟩:=q7;exact⟨σ7,H7,I7.unpinned,q7⟩
  | ret v=>obtain⟨x7,σ7,H7,I7,r7,q7⟩:=q7;exact⟨x7,σ7,H7,I7.unpinned,r7,q7⟩
end
end L2
namespace L2
open PySem PySem.Spec PyProof.Rows
noncomputable abbrev R2:=V->V->Hp->VK->Prop
noncomputable def OpR (X:Cx) (f:Value->Value->Sem Value) (r:R2):Prop :=
 ∀ (pins:List (Addr×Obj)) (s:Shared) (σ:St) (H:Hp) (x y:V) (v u:Value) (Q:VK),Inv X pins σ H s->RelV x v->RelV y u->r x y H Q ->
  wpAny (model X.prog X.w) X.A (f v u) (EP X pins σ Q) X.xe s
noncomputable def UnR (X:Cx) (f:Value->Sem Value) (r:V->Hp->VK->Prop):Prop :=
 ∀ (pins:List (Addr×Obj)) (s:Shared) (σ:St) (H:Hp) (x:V) (v:Value) (Q:VK),Inv X pins σ H s->RelV x v->r x H Q ->
  wpAny (model X.prog X.w) X.A (f v) (EP X pins σ Q) X.xe s
noncomputable def CallR (X:Cx) (f:Value) (r:List V->Hp->VK->Prop):Prop :=
 ∀ (pins:List (Addr×Obj)) (s:Shared) (σ:St) (H:Hp) (xs:List V) (us:List Value) (Q:VK),Inv X pins σ H s->Vals xs us->r xs H Q ->
  wpAny (model X.prog X.w) X.A (call f us) (EP X pins σ Q) X.xe s
noncomputable def TruR (X:Cx) (r:V->Hp->(Bool->Hp->Prop)->Prop):Prop :=
 ∀ (pins:List (Addr×Obj)) (s:Shared) (σ:St) (H:Hp) (x:V) (v:Value) (Q:Bool->Hp->Prop),Inv X pins σ H s->RelV x v->r x H Q ->
  wpAny (model X.prog X.w) X.A (truthy v) (TP X pins σ Q) X.xe s
noncomputable def tOp (r:R2) (ta tb:TE):TE:=fun σ H Q=>ta σ H fun x H1=>tb σ H1 fun y H2=>r x y H2 Q
noncomputable def tUn (r:V->Hp->VK->Prop) (ta:TE):TE:=fun σ H Q=>ta σ H fun x H1=>r x H1 Q
noncomputable def rI (C:Int->Int->Prop) (g:Int->Int->V):R2:=fun x y H Q=>∃ i j,x=.int i/\y=.int j/\C i j/\Q (g i j) H
noncomputable def rI0 (g:Int->Int->V):R2:=fun x y H Q=>∃ i j,x=.int i/\y=.int j/\Q (g i j) H
noncomputable def rU (g:Int->V):V->Hp->VK->Prop:=fun x H Q=>∃ i,x=.int i/\Q (g i) H
section
variable {X:Cx} {a b c:Expr} {ta tb tc:TE} {pos:Pos}
theorem binT (ha:PE X a ta) (hb:PE X b tb) {pins:List (Addr×Obj)} {s:Shared} {σ:St} {H:Hp} {R:V->V->Hp->Prop} (I:Inv X pins σ H s)
  (h:ta σ H fun x H1=>tb σ H1 fun y H2=>R x y H2) {Q:Value->Shared->Prop} {f:Value->Value->Sem Value}
  (hf:∀ v u s2 x y H2,Inv X pins σ H2 s2->RelV x v->RelV y u->R x y H2->wpAny (model X.prog X.w) X.A (f v u) Q X.xe s2) :
  wpAny (model X.prog X.w) X.A (eval a X.env) (fun v s₁=>wpAny (model X.prog X.w) X.A (eval b X.env) (fun u s₂=>wpAny (model X.prog X.w) X.A (f v u) Q X.xe s₂) X.xe s₁) X.xe s:=by
 refine thn (ha pins s σ H _ I h) fun v s1 hq2=>?_
 obtain⟨x,H1,I1,r1,q1⟩:=hq2
 refine thn (hb pins s1 σ H1 _ I1 q1) fun u s2 hq2=>?_
 obtain⟨y,H2,I2,r2,q2⟩:=hq2
 exact hf v u s2 x y H2 I2 r1 r2 q2
theorem pe_op {op:Operator} {r:R2} (ho:OpR X (binaryOp op) r) (ha:PE X a ta) (hb:PE X b tb):PE X (.BinOp a op b pos) (tOp r ta tb):=by
 intro pins s σ H Q I h
 exact wpAny_BinOp (binT ha hb I h fun v u s2 x y H2 I2 rx ry q=>ho pins s2 σ H2 x y v u Q I2 rx ry q)
theorem pe_un {op:UnaryOp} {r:V->Hp->VK->Prop} (ho:UnR X (unaryOp op) r) (ha:PE X a ta):PE X (.UnaryOp op a pos) (tUn r ta):=by
 intro pins s σ H Q I h
 exact UnaryOp_ (thn (ha pins s σ H _ I h) (by rintro v s1 ⟨x,H1,I1,r1,q1⟩;exact ho pins s1 σ H1 x v Q I1 r1 q1))
theorem opI {f:Value->Value->Sem Value} {C:Int->Int->Prop} {g:Int->Int->Int}
  (rule:∀ (i j:Int) (t u:Tok) (s:Shared) (Q:Value->Shared->Prop) (E:Value->Shared->Prop),C i j->Q (.int (g i j) s.toks) {s with toks:=s.toks+1}->wpAny (model X.prog X.w) X.A (f (.int i t) (.int j u)) Q E s) :
  OpR X f (rI C fun i j=>.int (g i j)):=by
 intro pins s σ H x y v u Q I rx ry h
 obtain⟨i,j,rfl,rfl,hc,q⟩:=h
 obtain⟨t,rfl⟩:=rx
 obtain⟨t',rfl⟩:=ry
 exact rule i j t t' s _ _ hc ⟨.int (g i j),H,I.tok _,⟨_,rfl⟩,q⟩
theorem opI0 {f:Value->Value->Sem Value} {g:Int->Int->Int}
  (rule:∀ (i j:Int) (t u:Tok) (s:Shared) (Q:Value->Shared->Prop) (E:Value->Shared->Prop),Q (.int (g i j) s.toks) {s with toks:=s.toks+1}->wpAny (model X.prog X.w) X.A (f (.int i t) (.int j u)) Q E s) :
  OpR X f (rI0 fun i j=>.int (g i j)):=by
 intro pins s σ H x y v u Q I rx ry h
 obtain⟨i,j,rfl,rfl,q⟩:=h
 obtain⟨t,rfl⟩:=rx
 obtain⟨t',rfl⟩:=ry
 exact rule i j t t' s _ _ ⟨.int (g i j),H,I.tok _,⟨_,rfl⟩,q⟩
theorem opB0 {f:Value->Value->Sem Value} {g:Int->Int->Bool}
  (rule:∀ (i j:Int) (t u:Tok) (s:Shared) (Q:Value->Shared->Prop) (E:Value->Shared->Prop),Q (.bool (g i j)) s->wpAny (model X.prog X.w) X.A (f (.int i t) (.int j u)) Q E s) :
  OpR X f (rI0 fun i j=>.bl (g i j)):=by
 intro pins s σ H x y v u Q I rx ry h
 obtain⟨i,j,rfl,rfl,q⟩:=h
 obtain⟨t,rfl⟩:=rx
 obtain⟨t',rfl⟩:=ry
 exact rule i j t t' s _ _ ⟨.bl (g i j),H,I,rfl,q⟩
noncomputable def CPow (i j:Int):Prop:=0<=j/\j<=1000000/\i.natAbs<2 ^ 64
theorem op_add:OpR X (binaryOp .Add) (rI0 fun i j=>.int (i+j)):=opI0 fun _ _ _ _ _ _ _ q=>add_int q
theorem unI {f:Value->Sem Value} {g:Int->Int}
  (rule:∀ (i:Int) (t:Tok) (s:Shared) (Q:Value->Shared->Prop) (E:Value->Shared->Prop),Q (.int (g i) s.toks) {s with toks:=s.toks+1}->wpAny (model X.prog X.w) X.A (f (.int i t)) Q E s) :
  UnR X f (rU fun i=>.int (g i)):=by
 intro pins s σ H x v Q I rx h
 obtain⟨i,rfl,q⟩:=h
 obtain⟨t,rfl⟩:=rx
 exact rule i t s _ _ ⟨.int (g i),H,I.tok _,⟨_,rfl⟩,q⟩
theorem un_neg:UnR X (unaryOp .USub) (rU fun i=>.int (-i)):=unI fun _ _ _ _ _ q=>neg_int q
end
section
variable {X:Cx} {a b c:Expr} {ta tb tc:TE} {pos:Pos}
theorem fin_bl {pins:List (Addr×Obj)} {σ:St} {H:Hp} {s:Shared} {Q:VK} {k k':Bool} (I:Inv X pins σ H s) (q:Q (.bl k) H) (e:k=k'):EP X pins σ Q (.bool k') s:=by
 subst e
 exact⟨.bl k,H,I,rfl,q⟩
theorem op_lt:OpR X (compareOp .Lt) (rI0 fun i j=>.bl (decide (i<j))):=opB0 fun _ _ _ _ _ _ _ q=>lt_int q
theorem op_le:OpR X (compareOp .LtE) (rI0 fun i j=>.bl (decide (i<=j))):=opB0 fun _ _ _ _ _ _ _ q=>le_int q
theorem op_gt:OpR X (compareOp .Gt) (rI0 fun i j=>.bl (decide (j<i))):=opB0 fun _ _ _ _ _ _ _ q=>gt_int q
theorem op_ge:OpR X (compareOp .GtE) (rI0 fun i j=>.bl (decide (j<=i))):=opB0 fun _ _ _ _ _ _ _ q=>ge_int q
theorem op_in_str:OpR X (compareOp .In) (fun x y H Q=>∃ i j,x=.str i/\y=.str j/\Q (.bl (!(Builtin.Str.occurrences j i 0 j.length 1).isEmpty)) H):=by
 intro pins s σ H x y v u Q I rx ry h
 obtain⟨i,j,rfl,rfl,q⟩:=h
 obtain⟨t,rfl⟩:=rx
 obtain⟨t',rfl⟩:=ry
 exact in_str (fin_bl I q rfl)
theorem pe_cmpR {op:CmpOp} {r:R2} (ho:OpR X (compareOp op) r) (ha:PE X a ta) (hb:PE X b tb) (hm:behindInMarks op b=false):PE X (.Compare a [op] [b] pos) (tOp r ta tb):=by
 intro pins s σ H Q I h
 exact wpAny_Compare1 (binT ha hb I h fun v u s2 x y H2 I2 rx ry q=>ho pins s2 σ H2 x y v u Q I2 rx ry q) hm
noncomputable def tTest (t:TE):TT:=fun σ H Q=>t σ H fun x H'=>∃ k,x=.bl k/\Q k H'
theorem pt_cmpR {op:CmpOp} {r:R2} (ho:OpR X (compareOp op) r) (ha:PE X a ta) (hb:PE X b tb) (hm:behindInMarks op b=false):PT X (.Compare a [op] [b] pos) (tTest (tOp r ta tb)):=by
 intro pins s σ H Q I h
 refine wpAny_isTrue_Compare1 (thn (ha pins s σ H _ I h) fun v s1 ⟨x,H1,I1,r1,q1⟩=>thn (hb pins s1 σ H1 _ I1 q1) fun u s2 ⟨y,H2,I2,r2,q2⟩ =>
  thn (ho pins s2 σ H2 x y v u _ I2 r1 r2 q2) fun c s3 hq2=>?_) hm
 obtain⟨z,H3,I3,r3,k,e,q3⟩:=hq2
 subst e
 cases r3
 exact wpAny_truthy_bool ⟨H3,I3,q3⟩
noncomputable def tChain (r r':R2) (ta tb tc:TE):TE:=fun σ H Q=>ta σ H fun x H1=>tb σ H1 fun y H2=>r x y H2 fun z H3=>∃ k,z=.bl k /\
 (if k=true then tc σ H3 fun w' H4=>r' y w' H4 Q else Q (.bl false) H3)
theorem pe_chain {op op':CmpOp} {r r':R2} (ho:OpR X (compareOp op) r) (ho':OpR X (compareOp op') r') (ha:PE X a ta) (hb:PE X b tb) (hc:PE X c tc)
  (hm:lastMarks [op,op'] [b,c]=false:=by with_unfolding_all rfl):PE X (.Compare a [op,op'] [b,c] pos) (tChain r r' ta tb tc):=by
 intro pins s σ H Q I h
 refine Compare_chain (thn (ha pins s σ H _ I h) fun v s1 ⟨x,H1,I1,r1,q1⟩=>chain_link (thn (hb pins s1 σ H1 _ I1 q1) fun u s2 ⟨y,H2,I2,r2,q2⟩ =>
  thn (ho pins s2 σ H2 x y v u _ I2 r1 r2 q2) fun d s3 hq2=>?_)) hm
 obtain⟨z,H3,I3,r3,k,e,q3⟩:=hq2
 subst e
 cases r3
 refine wpAny_truthy_bool ?_
 cases k with
 | false=>exact ite_ff ⟨.bl false,H3,I3,rfl,q3⟩
 | true=>exact ite_tt (chain_last (thn (hc pins s3 σ H3 _ I3 q3) (by rintro w' s4 ⟨z',H4,I4,r4,q4⟩;exact ho' pins s4 σ H4 y z' u w' Q I4 r2 r4 q4)))
theorem pt_chain {op op':CmpOp} {r r':R2} (ho:OpR X (compareOp op) r) (ho':OpR X (compareOp op') r') (ha:PE X a ta) (hb:PE X b tb) (hc:PE X c tc)
  (hm:lastMarks [op,op'] [b,c]=false:=by with_unfolding_all rfl):PT X (.Compare a [op,op'] [b,c] pos) (tTest (tChain r r' ta tb tc)):=by
 intro pins s σ H Q I h
 refine isTrue_chain (thn (ha pins s σ H _ I h) fun v s1 ⟨x,H1,I1,r1,q1⟩=>test_link (thn (hb pins s1 σ H1 _ I1 q1) fun u s2 ⟨y,H2,I2,r2,q2⟩ =>
  thn (ho pins s2 σ H2 x y v u _ I2 r1 r2 q2) fun d s3 hq2=>?_)) hm
 obtain⟨z,H3,I3,r3,k,e,q3⟩:=hq2
 subst e
 cases r3
 refine wpAny_truthy_bool ?_
 cases k with
 | false =>
  obtain⟨k',e',q'⟩:=q3
  cases e'
  exact ite_ff ⟨H3,I3,q'⟩
 | true =>
  refine ite_tt (test_last (thn (hc pins s3 σ H3 _ I3 q3) fun w' s4 ⟨z',H4,I4,r4,q4⟩=>thn (ho' pins s4 σ H4 y z' u w' _ I4 r2 r4 q4) fun d' s5 hq2=>?_))
  obtain⟨z2,H5,I5,r5,k2,e2,q5⟩:=hq2
  subst e2
  cases r5
  exact wpAny_truthy_bool ⟨H5,I5,q5⟩
noncomputable def TruV (K:PySem.W.Frag) (x:V) (H:Hp) (k:Bool):Prop :=
 match x with
 | .non=>k=false
 | .bl b=>k=b
 | .int i=>k=(i != 0)
 | .str y=>y.length<=sizeLine/\k=((y.length:Int) != 0)
 | .byt y=>y.size<=sizeLine/\k=((y.size:Int) != 0)
 | .ref p=>(∃ xs,SqL K H p xs/\k=!xs.isEmpty)\/(∃ xs,SqT K H p xs/\k=!xs.isEmpty)\/∃ kvs,H p=some (.dK kvs)/\k=!kvs.isEmpty
 | _=>False
theorem isEmpty_kv {κ:Type} {kvs:List (κ×V)} {vs:List (κ×Value)} (r:KV kvs vs):(!vs.isEmpty)=!kvs.isEmpty:=by
 cases r<;>rfl
theorem isEmpty_of {xs:List V} {its:List Value} (r:Vals xs its):(!its.toArray.isEmpty)=!xs.isEmpty:=by
 cases r<;>simp
theorem line63:(sizeLine:Nat)<2 ^ 63:=by rw[sizeLine_eq];decide
theorem tru_ok:TruR X (fun x H Q=>∃ k,TruV X.K x H k/\Q k H):=by
 intro pins s σ H x v Q I rx h
 obtain⟨k,e,q⟩:=h
 have hl:=line63
 have hs:sizeLine=16777216:=sizeLine_eq
 cases x with
 | non =>
  cases rx
  have e':k=false:=e
  subst e'
  exact truthy_none ⟨H,I,q⟩
 | bl b =>
  cases rx
  have e':k=b:=e
  subst e'
  exact wpAny_truthy_bool ⟨H,I,q⟩
 | int i =>
  obtain⟨t,rfl⟩:=rx
  have e':k=(i != 0):=e
  subst e'
  exact PySem.P.truthy_int ⟨H,I,q⟩
 | str y =>
  obtain⟨t,rfl⟩:=rx
  obtain⟨hy,e'⟩:y.length<=sizeLine/\k=((y.length:Int) != 0):=e
  subst e'
  exact PySem.P.truthy_str (by omega) ⟨H,I.tok _,q⟩
 | byt y =>
  obtain⟨t,rfl⟩:=rx
  obtain⟨hy,e'⟩:y.size<=sizeLine/\k=((y.size:Int) != 0):=e
  subst e'
  exact PySem.W.truthy_bytes (by omega) ⟨H,I.tok _,q⟩
 | ref p =>
  cases rx
  have e':(∃ xs,SqL X.K H p xs/\k=!xs.isEmpty)\/(∃ xs,SqT X.K H p xs/\k=!xs.isEmpty)\/∃ kvs,H p=some (.dK kvs)/\k=!kvs.isEmpty:=e
  rcases e' with ⟨xs,hx,e'⟩|⟨xs,hx,e'⟩|⟨kvs,hx,e'⟩
  ·subst e'
   obtain⟨its,r,pl,hz⟩:=I.list hx
   have hlen:=r.length
   exact wpAny_truthy_list pl.isList (by simp only[List.size_toArray];omega) ⟨H,I.tok _,by rw[isEmpty_of r];exact q⟩
  ·subst e'
   obtain⟨its,r,pl,hz⟩:=I.tuple hx
   have hlen:=r.length
   exact truthy_tuple pl (by simp only[List.size_toArray];omega) ⟨H,I.tok _,by rw[isEmpty_of r];exact q⟩
  ·subst e'
   obtain⟨hz,hS,vs,r,m⟩:kvs.length<=sizeLine/\(p==sysModules)=false/\∃ vs,KV kvs vs/\s.heap.DictOf (mixKind X.prog X.w) p vs:=I.hok p _ hx
   have hlen:kvs.length=vs.length:=Paired.length r
   exact wpAny_truthy_dict hS m (by omega) ⟨H,I.tok _,by rw[isEmpty_kv r];exact q⟩
 | _=>exact (show False from e).elim
theorem pt_truth (ha:PE X a ta) (he:∀ whole,isTrue a X.env whole=(do let v <- whole;standAt a.pos;holding [v] (truthy v))) :
  PT X a (fun σ H Q=>ta σ H fun x H'=>∃ k,TruV X.K x H' k/\Q k H'):=by
 intro pins s σ H Q I h
 exact isTrue_plain (thn (ha pins s σ H _ I h) (by rintro v s1 ⟨x,H1,I1,r1,q1⟩;exact tru_ok pins s1 σ H1 x v Q I1 r1 q1)) (he _)
theorem op_add_str:OpR X (binaryOp .Add) (fun x y H Q=>∃ i j,x=.str i/\y=.str j/\i.length+j.length<=sizeLine/\Q (.str (i++j)) H):=by
 intro pins s σ H x y v u Q I rx ry h
 obtain⟨i,j,rfl,rfl,hz,q⟩:=h
 obtain⟨t,rfl⟩:=rx
 obtain⟨t',rfl⟩:=ry
 exact add_str (fun t' tk=>⟨.str (i++j),H,I.tok _,⟨_,rfl⟩,q⟩) hz
theorem vals1 {x:V} {us:List Value} (r:Vals [x] us):∃ u,us=[u]/\RelV x u:=by
 cases r with
 | cons r1 r2=>cases r2;exact⟨_,rfl,r1⟩
theorem vals2 {x y:V} {us:List Value} (r:Vals [x,y] us):∃ u w',us=[u,w']/\RelV x u/\RelV y w':=by
 cases r with
 | cons r1 r2 =>
  cases r2 with
  | cons r3 r4=>cases r4;exact⟨_,_,rfl,r1,r3⟩
theorem call_abs:CallR X (.builtin "abs") (fun xs H Q=>∃ i,xs=[.int i]/\Q (.int (if i<0 then -i else i)) H):=by
 intro pins s σ H xs us Q I r h
 obtain⟨i,rfl,q⟩:=h
 obtain⟨u,rfl,t,rfl⟩:=vals1 r
 exact call_abs_int fun u tk=>⟨.int (if i<0 then -i else i),H,I.tok _,⟨_,rfl⟩,q⟩
theorem call_max2 (hc:X.calm=true):CallR X (.builtin "max") (fun xs H Q=>∃ i j,xs=[.int i,.int j]/\Q (.int (if j > i then j else i)) H):=by
 intro pins s σ H xs us Q I r h
 obtain⟨i,j,rfl,q⟩:=h
 obtain⟨u,w',rfl,⟨t,rfl⟩,⟨t',rfl⟩⟩:=vals2 r
 refine max_two_ints (I.ok.hd hc) fun h' tk k=>⟨_,H,I.kept k,?_,q⟩
 by_cases hj:j > i
 ·rw[if_pos hj,if_pos hj];exact⟨_,rfl⟩
 ·rw[if_neg hj,if_neg hj];exact⟨_,rfl⟩
theorem call_min2 (hc:X.calm=true):CallR X (.builtin "min") (fun xs H Q=>∃ i j,xs=[.int i,.int j]/\Q (.int (if j<i then j else i)) H):=by
 intro pins s σ H xs us Q I r h
 obtain⟨i,j,rfl,q⟩:=h
 obtain⟨u,w',rfl,⟨t,rfl⟩,⟨t',rfl⟩⟩:=vals2 r
 refine min_two_ints (I.ok.hd hc) fun h' tk k=>⟨_,H,I.kept k,?_,q⟩
 by_cases hj:j<i
 ·rw[if_pos hj,if_pos hj];exact⟨_,rfl⟩
 ·rw[if_neg hj,if_neg hj];exact⟨_,rfl⟩
theorem call_str_int:CallR X (.type "str") (fun xs H Q=>∃ i,xs=[.int i]/\i.natAbs.log2<1920/\Q (.str (toString i)) H):=by
 intro pins s σ H xs us Q I r h
 obtain⟨i,rfl,hz,q⟩:=h
 obtain⟨u,rfl,t,rfl⟩:=vals1 r
 exact PySem.P.str_of_int hz ⟨.str _,H,I.tok _,⟨_,rfl⟩,q⟩
end
end L2
namespace L2
open PySem PySem.Spec PyProof.Rows
set_option tactic.hygienic true
theorem lookIn_ns {h:Heap} {dx:Addr} {mA:Str->Option Value} (n:h.Ns1 dx mA):∃ od,h.get? dx=some od/\∀ name,PySem.W.lookIn name od=some (mA name):=by
 obtain⟨o,es,ep,ho,hd,hk,_,hm⟩:=n
 refine⟨o,ho,fun name=>?_⟩
 have e:=hm name
 unfold nsFind findBy at e
 rw[<- Array.find?_toList] at e
 unfold PySem.W.lookIn
 rw[hd]
 dsimp only
 split
 ·rename_i y q
  rw[q] at e
  exact congrArg some e
 ·rename_i q
  rw[q] at e
  have a:es.toList.any (·.refKey)=false:=by
   rw[List.any_eq_false]
   intro y hy
   obtain⟨z,t,hkey⟩:=hk y (Array.mem_toList_iff.mp hy)
   simp[DictEntry.refKey,hkey]
  have a':¬ es.toList.any (·.refKey)=true:=by rw[a];exact Bool.false_ne_true
  rw[if_neg a']
  exact congrArg some e
section
variable {prog:Program} {w:World} {A:Around} {E:Value->Shared->Prop} {s:Shared} {K:PySem.W.Frag} {x dx C f:Addr} {mA:Str->Option Value} {name:Str} {v:Value}
end
set_option tactic.hygienic false
theorem handed_of {v:V} {u:Value} (r:RelV v u):PySem.W.handedIn u=true:=by
 cases v with
 | non=>cases (show u=Value.none from r);rfl
 | bl b=>cases (show u=Value.bool b from r);rfl
 | int i=>obtain⟨t,e⟩:=(show ∃ t,u=Value.int i t from r);cases e;rfl
 | str x=>obtain⟨t,e⟩:=(show ∃ t,u=Value.str x t from r);cases e;rfl
 | byt b=>obtain⟨t,e⟩:=(show ∃ t,u=Value.bytes b t from r);cases e;rfl
 | flt b=>obtain⟨t,e⟩:=(show ∃ t,u=Value.float b t from r);cases e;rfl
 | ref a=>cases (show u=Value.ref a from r);rfl
 | ty n=>cases (show u=Value.type n from r);rfl
section
variable {P:Program} {w:World} {H H':Hp} {h h':Heap} {a C dx:Addr} {fs fs':List (Str×V)}
end
structure Meth (K:PySem.W.Frag) (C:Addr) (m:Str) (f:Addr):Prop where
 at_:PySem.W.findIn K (.ref C) m=some (some (.ref f))
 fn:PySem.W.isFn K (.ref f)=true
 kp:PySem.W.keepIn K (.ref f)=true
section
variable {X:Cx} {pins:List (Addr×Obj)} {σ:St} {H:Hp} {s:Shared} {a C dx:Addr} {fs:List (Str×V)} {f:Str} {v:V} {A:Around} {E:Value->Shared->Prop}
theorem attr_of {prog:Program} {w:World} {env:Env} {e:Expr} {f:Str} {pos:Pos} {s:Shared} {Q:Value->Shared->Prop} (hb:attributeBase e f env (eval e env)=eval e env)
  (h:wpAny (model prog w) A (eval e env) (fun o s₁=>wpAny (model prog w) A (getAttr o f true) Q E s₁) E s):wpAny (model prog w) A (eval (.Attribute e f pos) env) Q E s :=
 Attribute_any_ h (by rw[arm_eval_Attribute,hb])
end
section
variable {X:Cx} {o e value:Expr} {f:Str} {pos pos' tpos:Pos} {ta tv:TE}
end
section
variable {X:Cx} {pins:List (Addr×Obj)} {σ:St} {H:Hp} {s:Shared} {A:Around} {E:Value->Shared->Prop} {Q:Value->Shared->Prop} {c:Value} {b:Bool}
end
end L2
namespace L2
open PySem PySem.Spec PyProof.Rows
structure Room (k:Nat) (A:Around):Prop where
 hd:A.handled=none
 dp:A.depth+3*k+5<recursionLimit
 un:A.units+16*k+200<cLine
theorem Room.mono {j k:Nat} {A:Around} (r:Room k A) (h:j<=k):Room j A:=⟨r.hd,by have:=r.dp;omega,by have:=r.un;omega⟩
theorem Room.deeper {k:Nat} {A:Around} (r:Room (k+1) A) (env:Env):Room k (A.deeper env) :=
 ⟨r.hd,by have:=r.dp;show A.depth+1+3*k+5 < _;omega,by have:=r.un;show A.units+3+16*k+200 < _;omega⟩
theorem make_depth {A:Around} {C:Addr} {us:List Value} {kw:List (Str×Value)}:(A.under (.builtin "type.__call__" ⟨.ref C::us,kw⟩)).depth=A.depth+1:=by
 first|rfl|simp[Around.under,Code.weight,Code.isCreation,Code.isGuard,Code.isCaller,Code.frames,Code.isFrame,guardIds]
theorem Room.depth {k:Nat} {A:Around} (r:Room k A):A.depth<recursionLimit:=by have:=r.dp;omega
noncomputable def tNil:TA:=fun _ H Q=>Q [] H
noncomputable def tCons (ta:TE) (tr:TA):TA:=fun σ H Q=>ta σ H fun x H1=>tr σ H1 fun xs H2=>Q (x::xs) H2
section
variable {X:Cx} {e:Expr} {es:List Expr} {te:TE} {t:TA} {pos:Pos}
theorem pa_nil:PA X [] tNil:=fun _ _ _ _ H Q I h=>Calls.spliced_nil ⟨[],H,I,.nil,h⟩
theorem pa_cons (ha:PE X e te) (hr:PA X es t) (hs:starEach (e::es) X.env=(false,eval e X.env)::starEach es X.env:=by rfl):PA X (e::es) (tCons te t):=by
 intro pos pins s σ H Q I h
 rw[hs]
 show wpAny _ _ (spliced ((false,eval e X.env)::backTo pos (starEach es X.env))) _ _ s
 refine Calls.spliced_cons (thn (ha pins s σ H _ I h) fun u s1 hq2=>?_)
 obtain⟨x,H1,I1,r1,q1⟩:=hq2
 exact thn (hr pos pins s1 σ H1 _ I1 q1) (by rintro us s2 ⟨xs,H2,I2,r2,q2⟩;exact⟨x::xs,H2,I2,.cons r1 r2,q2⟩)
noncomputable def tTup (t:TA):TE:=fun σ H Q=>t σ H fun xs H1=>xs.length<=sizeLine/\∀ p,H1 p=none->Q (.ref p) (upd H1 p (.tup xs))
noncomputable def tLst (t:TA):TE:=fun σ H Q=>t σ H fun xs H1=>xs.length<=sizeLine/\∀ p,H1 p=none->Q (.ref p) (upd H1 p (.lst xs))
theorem pe_tup {x1} (h:PA X es t):PE X (.Tuple es x1 pos) (tTup t):=by
 intro pins s σ H Q I hq
 refine wpAny_Tuple_spliced (thn (h pos pins s σ H _ I hq) fun us s1 ⟨xs,H1,I1,r,z,q⟩=>⟨by rw[<- r.length];exact z,?_⟩)
 have hf:H1 s1.heap.objs.size=none:=I1.hok.fresh (Nat.le_refl _)
 refine⟨.ref s1.heap.objs.size,upd H1 s1.heap.objs.size (.tup xs),I1.laid (t':=s1.toks) (fun b u e=>Heap.get?_push_of_some _ e) (Nat.le_refl _) ?_,rfl,q _ hf⟩
 exact⟨z,us,r,⟨_,Heap.get?_push_size _ rfl,rfl,_,rfl⟩⟩
theorem pe_lst (h:PA X es t):PE X (.List es pos) (tLst t):=by
 intro pins s σ H Q I hq
 refine wpAny_List_spliced (thn (h pos pins s σ H _ I hq) fun us s1 ⟨xs,H1,I1,r,z,q⟩=>⟨by rw[<- r.length];exact z,?_⟩)
 have hf:H1 s1.heap.objs.size=none:=I1.hok.fresh (Nat.le_refl _)
 refine⟨.ref s1.heap.objs.size,upd H1 s1.heap.objs.size (.lst xs),I1.laid (t':=s1.toks) (fun b u e=>Heap.get?_push_of_some _ e) (Nat.le_refl _) ?_,rfl,q _ hf⟩
 exact⟨z,us,0,r,Heap.get?_push_size _ rfl⟩
end
noncomputable abbrev Sp:=List V->Hp->VK->XK->Prop
noncomputable abbrev CXT:=List Env->Hp->Shared->XK->Value->Shared->Prop
structure Env0 (P:Program) (w:World) (K:PySem.W.Frag) (mg:Str->Option Value) (base:Heap) (A:Around) (outer:List Env) (s:Shared) (H:Hp):Prop where
 frames:A.frames=some outer
 mod:Mod K mg base
 bs:∀ b o,base.get? b=some o->s.heap.get? b=some o/\H b=none
 bsz:base.objs.size<=s.heap.objs.size
 funs:s.heap.FunFrames base outer
 frf:∀ b∈frs outer,H b=none
 hok:HOk P w H s.heap
 bare:AllBare s.gens
noncomputable def CE (outer:List Env) (P:Program) (w:World) (H:Hp) (s:Shared) (Q:VK) (u:Value) (s':Shared):Prop :=
 ∃ v H',s'.os=s.os/\AllBare s'.gens/\Un (frs outer) [] H H' s.heap s'.heap/\HOk P w H' s'.heap/\RelV v u/\Q v H'
noncomputable def CR (CX:CXT) (outer:List Env) (P:Program) (w:World) (H:Hp) (s:Shared) (Q:VK) (E:XK) (r:Result) (s':Shared):Prop :=
 match r with
 | .ok (.ret u)=>CE outer P w H s Q u s'
 | .ok _=>False
 | .error e=>CX outer H s E e s'
structure FnOk (P:Program) (w:World) (K:PySem.W.Frag) (mg:Str->Option Value) (base:Heap) (CX:CXT) (k:Nat) (f:Addr) (fd:FuncData) (ps:List Str) (sp:Sp):Prop where
 len:∀ vs H Q E,sp vs H Q E->vs.length=ps.length
 run:∀ (A:Around) (outer:List Env) (s:Shared) (H:Hp) (args:Args) (us:List Value) (vs:List V) (Q:VK) (E:XK),Room k A->Env0 P w K mg base A outer s H->BindsTo s fd args (ps.zip us)->Vals vs us->sp vs H Q E ->
  codeAny (model P w) A (.call (.ref f) args) (CR CX outer P w H s Q E) s
theorem FnOk.mono {P:Program} {w:World} {K:PySem.W.Frag} {mg:Str->Option Value} {base:Heap} {CX:CXT} {j k:Nat} {f:Addr} {fd:FuncData} {ps:List Str} {sp:Sp} (F:FnOk P w K mg base CX j f fd ps sp) (h:j<=k) :
  FnOk P w K mg base CX k f fd ps sp:=⟨F.len,fun A outer s H args us vs Q E hr=>F.run A outer s H args us vs Q E (hr.mono h)⟩
theorem Env0.make {P:Program} {w:World} {K:PySem.W.Frag} {mg:Str->Option Value} {base:Heap} {A:Around} {outer:List Env} {s:Shared} {H:Hp} (e:Env0 P w K mg base A outer s H) (C:Addr) (us:List Value) (kw:List (Str×Value)) :
  Env0 P w K mg base (A.under (.builtin "type.__call__" ⟨.ref C::us,kw⟩)) outer s H:=⟨by first|exact e.frames|(simpa[Around.under,Code.envs,Code.isFrame,pushEnvs] using e.frames),e.mod,e.bs,e.bsz,e.funs,e.frf,e.hok,e.bare⟩
section
variable {X:Cx} {pins:List (Addr×Obj)} {σ:St} {H:Hp} {s s':Shared}
theorem Inv.env0 (I:Inv X pins σ H s):Env0 X.prog X.w X.K X.mg X.base X.A X.stack s H :=
 ⟨I.ok.frames,I.ok.mod,I.bs,Nat.le_trans I.ok.bsz I.sz,I.stack,I.stkFree,I.hok,I.bare⟩
theorem Inv.after {Q:VK} {u:Value} (I:Inv X pins σ H s) (h:CE X.stack X.prog X.w H s Q u s'):EP X pins σ Q u s':=by
 obtain⟨v,H',os,bare,un,hok,r,q⟩:=h
 obtain⟨hh,g,d,t,os'⟩:=s'
 obtain rfl:os'=s.os:=os
 exact⟨v,H',I.call (h':=hh) (g':=g) (d':=d) (t':=t) (ch:=[]) un hok bare (fun b z=>absurd z (by simp)),r,q⟩
end
noncomputable def Binds (K:PySem.W.Frag) (fd:FuncData) (ps:List Str) (ds:List Value):Prop :=
 ∀ (s:Shared) (us:List Value),K.In s.heap->(us++ds).length=ps.length->BindsTo s fd ⟨us,[]⟩ (ps.zip (us++ds))
theorem Binds.all {K:PySem.W.Frag} {fd:FuncData} {ps:List Str} (h:∀ us:List Value,us.length=ps.length->bindArgs fd ⟨us,[]⟩=pure (ps.zip us)):Binds K fd ps []:=fun s us _ hl=>by
 rw[List.append_nil] at hl ⊢
 exact .of_eq (h us hl)
section
variable {X:Cx} {CX:CXT} {k:Nat} {f C:Addr} {fd:FuncData} {ps:List Str} {sp:Sp} {dvs:List V} {ds:List Value} {E:XK} {x m:Str} {p pos apos:Pos} {e o:Expr} {es:List Expr} {ta:TE} {t:TA}
structure Mk (K:PySem.W.Frag) (C f:Addr):Prop where
 makes:PySem.W.makesIn K C=true
 init:PySem.W.findIn K (.ref C) "__init__"=some (some (.ref f))
 fn:PySem.W.isFn K (.ref f)=true
 kp:PySem.W.keepIn K (.ref C)=true
end
section
variable {X:Cx} {CX:CXT} {k:Nat} {f C:Addr} {fd:FuncData} {ps ks:List Str} {sp:Sp} {E:XK} {x m:Str} {p pos apos kpos:Pos} {e o:Expr} {es:List Expr} {kws:List Keyword} {te ta:TE} {t tk:TA} {nm:Option Str}
variable {g:List Value->List Value->List Value} {gV:List V->List V->List V}
end
structure FnScope (N P:List Str) (sc:Scope):Prop where
 kind:sc.kind=.function
 co:sc.isCoroutine=false
 gen:sc.isGenerator=false
 nd:N.Nodup
 pre:N.take P.length=P
 par:∀ x∈P,sc.names.lookup x=some .local\/sc.names.lookup x=some .cell
 nofree:∀ y∈sc.names,y.2≠.free
theorem bindL_out {kindOf:Str->Option NameKind} {x:Str}:∀ {binds:List (Str×Value)} {m:Str->Option Value},(∀ v,(x,v) ∉ binds)->bindL kindOf binds m x=m x
 | [],_,_=>rfl
 | (n,v)::r,m,h=>by
  unfold bindL
  rw[bindL_out fun w hw=>h w (List.mem_cons_of_mem _ hw)]
  split
  ·have:x≠n:=by rintro rfl;exact h v List.mem_cons_self
   simp[this]
  ·rfl
theorem bindC_out {kindOf:Str->Option NameKind} {x:Str}:∀ {binds:List (Str×Value)} {m:Str->Option Value},(∀ v,(x,v) ∉ binds)->bindC kindOf binds m x=m x
 | [],_,_=>rfl
 | (n,v)::r,m,h=>by
  unfold bindC
  rw[bindC_out fun w hw=>h w (List.mem_cons_of_mem _ hw)]
  split
  ·rfl
  ·have:x≠n:=by rintro rfl;exact h v List.mem_cons_self
   simp[this]
theorem bindL_get {kindOf:Str->Option NameKind} {x:Str} {v:Value}:∀ {P:List Str} {vs:List Value} {i:Nat} {m:Str->Option Value},P.Nodup->P[i]?=some x->vs[i]?=some v->kindOf x=some .local ->
  bindL kindOf (P.zip vs) m x=some v
 | [],_,_,_,_,h,_,_=>by simp at h
 | _::_,[],_,_,_,_,h,_=>by simp at h
 | p::P,w::vs,0,m,nd,h1,h2,hk=>by
  simp at h1 h2;subst h1;subst h2
  show bindL kindOf ((p,w)::P.zip vs) m p=_
  unfold bindL
  rw[bindL_out fun v hv=>(List.nodup_cons.mp nd).1 (List.of_mem_zip hv).1,if_pos hk]
  simp
 | p::P,w::vs,i+1,m,nd,h1,h2,hk=>by
  show bindL kindOf ((p,w)::P.zip vs) m x=_
  unfold bindL
  exact bindL_get (i:=i) (List.nodup_cons.mp nd).2 (by simpa using h1) (by simpa using h2) hk
theorem bindC_get {kindOf:Str->Option NameKind} {x:Str} {v:Value}:∀ {P:List Str} {vs:List Value} {i:Nat} {m:Str->Option Value},P.Nodup->P[i]?=some x->vs[i]?=some v->kindOf x≠some .local ->
  bindC kindOf (P.zip vs) m x=some v
 | [],_,_,_,_,h,_,_=>by simp at h
 | _::_,[],_,_,_,_,h,_=>by simp at h
 | p::P,w::vs,0,m,nd,h1,h2,hk=>by
  simp at h1 h2;subst h1;subst h2
  show bindC kindOf ((p,w)::P.zip vs) m p=_
  unfold bindC
  rw[bindC_out fun v hv=>(List.nodup_cons.mp nd).1 (List.of_mem_zip hv).1,if_neg hk]
  simp
 | p::P,w::vs,i+1,m,nd,h1,h2,hk=>by
  show bindC kindOf ((p,w)::P.zip vs) m x=_
  unfold bindC
  exact bindC_get (i:=i) (List.nodup_cons.mp nd).2 (by simpa using h1) (by simpa using h2) hk
noncomputable def start (N:List Str) (vs:List V):St:=vs.map some++List.replicate (N.length-vs.length) none
noncomputable def cxOf (CX:CXT) (P:Program) (w:World) (K:PySem.W.Frag) (mg:Str->Option Value) (base:Heap) (N:List Str) (qual:Str) (scope:Scope) (f:Addr) (cd:Value) (A:Around) (outer:List Env) (s:Shared) (H:Hp) (E:XK):Cx where
 prog:=P
 w:=w
 K:=K
 mg:=mg
 base:=base
 A:=A.deeper (envOfC qual scope s.heap.objs.size f cd)
 N:=N
 s₀:=s
 H₀:=H
 env:=envOfC qual scope s.heap.objs.size f cd
 outer:=outer
 stack:=envOfC qual scope s.heap.objs.size f cd::outer
 ex:=[]
 calm:=true
 fn:=fun _=>true
 pn:=[]
 xe:=fun e s'=>wpAny (model P w) (A.deeper (envOfC qual scope s.heap.objs.size f cd)) (leaving (envOfC qual scope s.heap.objs.size f cd) e) (fun _ s''=>CX outer H s E e s'') (fun e' s''=>CX outer H s E e' s'') s'
theorem cell_has {sc:Scope} {n:Nat} {x:Str} (h:sc.names.lookup x=some .cell):∃ c,(cellsFrom n sc.names []).lookup x=some c:=by
 have q:=PySem.W.cellsFrom_some sc.names n [] (.inl h)
 exact Option.isSome_iff_exists.mp q
theorem inv_start {CX:CXT} {P:Program} {w:World} {K:PySem.W.Frag} {mg:Str->Option Value} {base:Heap} {N ps:List Str} {qual:Str} {scope:Scope} {f:Addr} {cd:Value} {A:Around} {outer:List Env} {s s1:Shared} {H:Hp} {E:XK} {us:List Value} {vs:List V}
  (S:FnScope N ps scope) (hd:A.handled=none) (e0:Env0 P w K mg base A outer s H) (hl:vs.length=ps.length) (r:Vals vs us)
  (x:InCallC s s.heap.objs.size (bindL (envOfC qual scope s.heap.objs.size f cd).kindOf (ps.zip us) fun _=>none) (cellsFrom (s.heap.objs.size+1) scope.names []) (bindC (envOfC qual scope s.heap.objs.size f cd).kindOf (ps.zip us) fun _=>none) s1) :
  Inv (cxOf CX P w K mg base N qual scope f cd A outer s H E) [] (start N vs) H s1:=by
 have hpl:ps.length<=N.length:=by have:=congrArg List.length S.pre;rw[List.length_take] at this;omega
 obtain⟨h1,tk,rfl,hk⟩:=x.done
 have noA:∀ b:Addr,b ∉ (cxOf CX P w K mg base N qual scope f cd A outer s H E).ex:=fun b z=>absurd (show b∈([]:List Addr) from z) (by simp)
 refine⟨⟨e0.mod,S.kind,rfl,rfl,Nat.le_refl _,fun y z c h1 h2=>?_,fun y hy=>?_,fun y c _ h=>?_,fun _=>hd,Around.frames_deeper e0.frames,.inr ⟨rfl,rfl⟩,fun b z=>absurd z (noA b),e0.bs,e0.bsz,fun b _ _=>noA b,fun b z=>absurd z (noA b),e0.funs,e0.frf⟩,
  rfl,e0.bare,Un.kept hk,⟨_,x.toInCall.ns,fun i y v h1 h2 h3=>?_⟩,fun y c h=>⟨_,x.cell y c h⟩,e0.hok.fresh (Nat.le_refl _),fun y c h=>?_,fun p hp=>absurd (show p∈([]:List (Addr×Obj)) from hp) (by simp),e0.hok.kept hk,?_⟩
 ·exact name_of_addr x.apart (PySem.mem_of_lookup h1) (PySem.mem_of_lookup h2)
 ·have hy:scope.names.lookup y=some .cell\/scope.names.lookup y=some .free:=hy
  rcases hy with hy|hy
  ·exact cell_has hy
  ·exact absurd rfl (S.nofree _ (PySem.mem_of_lookup hy))
 ·exact Nat.le_of_lt (x.above y c (PySem.mem_of_lookup h))
 ·have hi:i<vs.length:=by
   unfold start at h2
   by_cases hi:i<vs.length
   ·exact hi
   ·rw[List.getElem?_append_right (by simpa using hi)] at h2
    rw[List.getElem?_replicate] at h2
    split at h2<;>cases h2
  have ha:vs[i]?=some v:=by
   unfold start at h2
   rw[List.getElem?_append_left (by simpa using hi),List.getElem?_map] at h2
   cases e:vs[i]? with
   | none=>rw [e] at h2;cases h2
   | some a=>rw [e] at h2;cases h2;rfl
  obtain⟨u,hu,rv⟩:=r.get ha
  have hp:ps[i]?=some y:=by
   rw[<- S.pre,List.getElem?_take_of_lt (by omega)];exact h1
  have ndP:ps.Nodup:=by rw[<- S.pre];exact S.nd.sublist (List.take_sublist _ _)
  refine⟨u,rv,?_⟩
  rcases S.par y (List.mem_of_getElem? hp) with k|k
  ·exact .inl ⟨k,bindL_get ndP hp hu k⟩
  ·obtain⟨c,e⟩:=cell_has (n:=s.heap.objs.size+1) k
   refine .inr ⟨.inl k,c,e,?_⟩
   have q:=x.cell y c e
   rw[bindC_get ndP hp hu (by show scope.names.lookup y≠_;rw[k];decide)] at q
   exact q
 ·exact e0.hok.fresh (Nat.le_of_lt (x.above y c (PySem.mem_of_lookup h)))
 ·unfold start
  show _=N.length
  rw[List.length_append,List.length_map,List.length_replicate]
  omega
theorem fn_of {CX:CXT} {P:Program} {w:World} {K:PySem.W.Frag} {mg:Str->Option Value} {base:Heap} {k:Nat} {f:Addr} {name qual:Str} {params:Arguments} {body:List Stmt} {scope:Scope} {dV kV doc pm cdv ct oc:Value} {an od:Option Addr}
  {osl:Array (Option Value)} {N ps:List Str} {sp:Sp} (lk:K.lookup f=some ⟨oc,od,.func (PySem.W.fnOf name qual params body scope dV kV doc pm an cdv ct),osl⟩) (hcd:PySem.W.codeIn K cdv qual=true) (S:FnScope N ps scope)
  (len:∀ vs H Q E,sp vs H Q E->vs.length=ps.length)
  (hbody:∀ (A:Around) (outer:List Env) (s:Shared) (H:Hp) (vs:List V) (Q:VK) (E:XK),Room k (A.deeper (envOfC qual scope s.heap.objs.size f cdv))->sp vs H Q E ->
   ∃ t,PSs (cxOf CX P w K mg base N qual scope f cdv A outer s H E) body t/\t {nx:=fun _ H'=>Q .non H',rt:=Q} (start N vs) H) :
  FnOk P w K mg base CX (k+1) f (PySem.W.fnOf name qual params body scope dV kV doc pm an cdv ct) ps sp:=by
 refine⟨len,fun A outer s H args us vs Q E hr e0 hb r hsp=>?_⟩
 have hl:=len _ _ _ _ hsp
 have KX:K.In s.heap:=e0.mod.kin.keeps fun b o e=>(e0.bs b o e).1
 have lim:s.heap.NoLimit:=e0.mod.nolimit.keeps fun b o e=>(e0.bs b o e).1
 have hkind:∀ y∈ps.zip us,scope.names.lookup y.1=some .local\/(scope.names.lookup y.1=some .cell/\((cellsFrom (s.heap.objs.size+1) scope.names []).lookup y.1).isSome=true):=fun ⟨n,v⟩ hy=>by
  rcases S.par n (List.of_mem_zip hy).1 with q|q
  ·exact .inl q
  ·exact .inr ⟨q,PySem.W.cellsFrom_some _ _ _ (.inl q)⟩
 refine codeAny_call_function hr.depth (KX _ _ lk) rfl S.co S.gen rfl (PySem.W.codeRec_of KX hcd) (hb _ _ _ _ ?_)
 refine wpAny_newFunctionEnv_cells S.kind hkind fun env he s1 x=>?_
 subst he
 refine⟨lim.keeps x.toInCall.keep,codeAny_func ?_⟩
 obtain⟨t,ht,hq⟩:=hbody A outer s H vs Q E (hr.deeper _) hsp
 have I:Inv (cxOf CX P w K mg base N qual scope f cdv A outer s H E) [] (start N vs) H s1:=inv_start S hr.hd e0 hl r x
 refine wpAny_mono (ht [] s1 (start N vs) H _ I hq) (fun fl s' hs=>?_) fun e s' hs=>hs
 have fin:∀ {σ':St} {H':Hp} {v:V} {u:Value},Inv (cxOf CX P w K mg base N qual scope f cdv A outer s H E) [] σ' H' s'->RelV v u->Q v H'->CE outer P w H s Q u s' :=
  fun {σ' H' v u} J rv q=>⟨v,H',J.os,J.bare,J.base,J.hok,rv,q⟩
 cases fl with
 | ret u =>
  obtain⟨v,σ',H',J,rv,q⟩:=hs
  exact fin J rv q
 | next =>
  obtain⟨σ',H',J,q⟩:=hs
  exact fin (v:=V.non) (u:=Value.none) J rfl q
 | brk =>
  obtain⟨_,_,_,q⟩:=hs
  exact False.elim q
 | cont =>
  obtain⟨_,_,_,q⟩:=hs
  exact False.elim q
end L2
namespace L2
open PySem PySem.Spec PyProof.Rows
section
variable {X:Cx} {x:Str} {p pos:Pos} {e:Expr} {es:List Expr} {t:TA} {id T:String} {r:List V->Hp->VK->Prop}
noncomputable def tCB (r:List V->Hp->VK->Prop) (t:TA):TE:=fun σ H Q=>t σ H fun vs H1=>r vs H1 Q
theorem pe_callB (hc:CallR X (.builtin id) r) (hg:Gl X x) (hm:X.mg x=none) (hv:bootBuiltins x=some (.builtin id)) (ha:PA X (e::es) t) (hn:x≠"__name__":=by decide) (hdb:(x==("__debug__":Str))=false:=by decide)
  (he:starEach (e::es) X.env=(false,eval e X.env)::starEach es X.env:=by rfl) (hpl:(backTo pos (starEach es X.env)).any (·.1)=false:=by rfl):PE X (.Call (.Name x p) (e::es) [] pos) (tCB r t):=by
 intro pins s σ H Q I h
 refine wpAny_Call_Name_kw (ld_blt I hg hm hv ?_ hn hdb)
 exact PyProof.Rows.callWith_builtin1 (thn (ha pos pins s σ H _ I h) (by rintro us s1 ⟨vs,H1,I1,r1,q1⟩;exact hc pins s1 σ H1 vs us Q I1 r1 q1)) he hpl
theorem pe_callTy (hc:CallR X (.type T) r) (hg:Gl X x) (hm:X.mg x=none) (hv:bootBuiltins x=some (.type T)) (ha:PA X (e::es) t) (hn:x≠"__name__":=by decide) (hdb:(x==("__debug__":Str))=false:=by decide)
  (he:starEach (e::es) X.env=(false,eval e X.env)::starEach es X.env:=by rfl) (hpl:(backTo pos (starEach es X.env)).any (·.1)=false:=by rfl):PE X (.Call (.Name x p) (e::es) [] pos) (tCB r t):=by
 intro pins s σ H Q I h
 refine wpAny_Call_Name_kw (ld_blt I hg hm hv ?_ hn hdb)
 exact PyProof.Rows.callWith_type1 (thn (ha pos pins s σ H _ I h) (by rintro us s1 ⟨vs,H1,I1,r1,q1⟩;exact hc pins s1 σ H1 vs us Q I1 r1 q1)) he hpl
end
end L2
namespace HT
open PySem PyProof.Rows
section
open PySem.SeqAt
open PySem.AutoSeq1 (wpAny_loadPart')
open PySem.MeetsSeq PySem.MeetsSeq2 PySem.MeetsSeq3
end
section
variable {prog:Program} {w:World} {A:Around} {E:Value->Shared->Prop} {s:Shared}
theorem cat_tup {t b:Addr} {vs ws:List Value} {Q:Value->Shared->Prop} (ht:IsTup s.heap t vs.toArray) (hb:IsTup s.heap b ws.toArray) (hv:vs≠[])
  (h1:ws=[]->Q (.ref t) s) (h2:ws≠[]->Q (.ref s.heap.objs.size) {s with heap:=s.heap.push {cls:=.type "tuple",data:=.seq (vs++ws).toArray}})
  (hsz:vs.length+ws.length<=sizeLine):wpAny (model prog w) A (binaryOp .Add (.ref t) (.ref b)) Q E s:=by
 obtain⟨⟨cls,dd,data,sl⟩,ho,hc,n,hd⟩:=id ht
 obtain⟨⟨cls2,dd2,data2,sl2⟩,ho2,hc2,n2,hd2⟩:=id hb
 simp only at hc hd hc2 hd2
 subst hc hd hc2 hd2
 have e:vs.toArray++ws.toArray=(vs++ws).toArray:=by simp
 by_cases hw:ws=[]
 ·exact concat_meets ⟨_,ho,rfl⟩ ⟨_,ho2,rfl⟩ noFill_tuple_add seq_tuple_add PySem.F.slot_tuple_add PySem.F.entry_tuple_add (PySem.F.args_tuple_add_2 _ _)
   (tuple_addW1 t b vs.toArray ws.toArray n n2 dd dd2 sl sl2 (by simpa using hv) (by simp[hw])) ⟨ho,ho2,h1 hw⟩
 ·refine concat_meets ⟨_,ho,rfl⟩ ⟨_,ho2,rfl⟩ noFill_tuple_add seq_tuple_add PySem.F.slot_tuple_add PySem.F.entry_tuple_add (PySem.F.args_tuple_add_2 _ _)
   (tuple_addW2 t b vs.toArray ws.toArray n n2 dd dd2 sl sl2 (by simpa using hv) (by simpa using hw) (by rw[List.size_toArray,List.size_toArray];exact hsz)) ⟨ho,ho2,?_⟩
  rw[e]
  exact h2 hw
noncomputable def sIx (n d:Nat):Option Int->Nat
 | none=>d
 | some v=>if v<0 then (v+(n:Int)).toNat else min v.toNat n
theorem sIx_none (n d:Nat):sIx n d none=d:=rfl
theorem sIx_nat (n d k:Nat):sIx n d (some (k:Int))=min k n:=by
 show (if (k:Int)<0 then ((k:Int)+(n:Int)).toNat else min (k:Int).toNat n)=min k n
 rw[if_neg (by omega),Int.toNat_natCast]
theorem sIx_le (n d:Nat) (hd:d<=n) (o:Option Int):sIx n d o<=n:=by
 cases o with
 | none=>exact hd
 | some v =>
  show (if v<0 then (v+(n:Int)).toNat else min v.toNat n)<=n
  by_cases hv:v<0
  ·rw[if_pos hv];omega
  ·rw[if_neg hv];exact Nat.min_le_right _ _
theorem clip_eq (v:Int) (n d:Nat):(if v<0 then max (v+(n:Int)) 0 else min v (n:Int))=((sIx n d (some v):Nat):Int):=by
 show (if v<0 then max (v+(n:Int)) 0 else min v (n:Int))=(((if v<0 then (v+(n:Int)).toNat else min v.toNat n):Nat):Int)
 by_cases hv:v<0
 ·simp only[if_pos hv];omega
 ·simp only[if_neg hv];omega
theorem adjust_gen (lo hi:Option Int) (n:Nat):Builtin.Slice.sliceAdjust lo hi 1 (n:Int)=(((sIx n 0 lo:Nat):Int),((sIx n n hi:Nat):Int)):=by
 have h1:¬ ((1:Int)<0):=by omega
 unfold Builtin.Slice.sliceAdjust
 simp only[h1,if_false]
 refine Prod.ext ?_ ?_
 ·cases lo with
  | none=>rfl
  | some v=>exact clip_eq v n 0
 ·cases hi with
  | none=>rfl
  | some v=>exact clip_eq v n n
theorem places_gen (i j:Nat):Builtin.Slice.slicePlaces (i:Int) (j:Int) 1=j-i:=by
 unfold Builtin.Slice.slicePlaces
 have h1:(1:Int) > 0:=by omega
 simp only[h1,if_true,Int.ediv_one]
 split<;>omega
theorem slicePart_ {v:Value} {o:Option Int} {Q:Option Int->Shared->Prop} (p:IsPart v o) (h:Q o s):wpAny (model prog w) A (Builtin.Slice.slicePartIndex v) Q E s:=by
 cases p with
 | none=>exact slicePart_none h
 | int i t=>exact slicePart_int h
theorem sliceApplied_gen {sl:Addr} {vl vu:Value} {lo hi:Option Int} {n:Nat} {Q:Int×Int×Nat->Shared->Prop} (hs:s.heap.IsSliceOf sl vl vu .none) (pl:IsPart vl lo) (pu:IsPart vu hi)
  (h:Q (((sIx n 0 lo:Nat):Int),1,sIx n n hi-sIx n 0 lo) s):wpAny (model prog w) A (Builtin.Slice.sliceApplied (.ref sl) (pure (n:Int))) Q E s:=by
 obtain⟨os,hos,hcs,hds⟩:=id hs
 unfold Builtin.Slice.sliceApplied Builtin.Slice.sliceFields
 refine wpAny_bind (wpAny_bind (wpAny_field hos hds (x:=vl) rfl (wpAny_bind (wpAny_field hos hds (x:=vu) rfl (wpAny_bind (wpAny_field hos hds (x:=.none) rfl (wpAny_pure ?_)))))))
 refine wpAny_bind (slicePart_none ?_)
 show wpAny _ _ (if ((1:Int)==0)=true then _ else _) _ _ s
 rw[if_neg (by decide)]
 refine wpAny_bind (slicePart_ pl (wpAny_bind (slicePart_ pu (wpAny_bind (wpAny_pure ?_)))))
 show wpAny _ _ (match Builtin.Slice.sliceAdjust lo hi 1 (n:Int) with|(lo,hi)=>pure (lo,(1:Int),Builtin.Slice.slicePlaces lo hi 1)) _ _ s
 rw[adjust_gen lo hi n]
 show wpAny _ _ (pure (((sIx n 0 lo:Nat):Int),(1:Int),Builtin.Slice.slicePlaces ((sIx n 0 lo:Nat):Int) ((sIx n n hi:Nat):Int) 1)) _ _ s
 rw[places_gen]
 exact wpAny_pure h
theorem pick_gen (xs:Array Value) (i k:Nat):((List.range k).filterMap fun (m:Nat)=>xs[((i:Int)+(m:Int)*1).toNat]?).toArray=((xs.toList.drop i).take k).toArray:=by
 have e:(fun (m:Nat)=>xs[((i:Int)+(m:Int)*1).toNat]?)=fun m=>xs[i+m]?:=by
  funext m
  have:((i:Int)+(m:Int)*1).toNat=i+m:=by omega
  rw[this]
 rw[e]
 have:=pick_run xs i k
 rw[List.filterMap_map] at this
 have e2:((fun x=>xs[x]?) ∘ fun x=>i+x)=fun m=>xs[i+m]?:=rfl
 rw[e2] at this
 rw[this]
theorem getItem_tuple_cut {t sl:Addr} {items:Array Value} {vl vu:Value} {lo hi:Option Int} {Q:Value->Shared->Prop} (ht:IsTup s.heap t items) (hs:s.heap.IsSliceOf sl vl vu .none) (pl:IsPart vl lo) (pu:IsPart vu hi)
  (hw:¬ (sIx items.size 0 lo=0/\sIx items.size items.size hi=items.size))
  (h:Q (.ref s.heap.objs.size) {s with heap:=s.heap.push {cls:=.type "tuple",data:=.seq ((items.toList.drop (sIx items.size 0 lo)).take (sIx items.size items.size hi-sIx items.size 0 lo)).toArray}})
  (hsz:items.size<=sizeLine):wpAny (model prog w) A (getItem (.ref t) (.ref sl)) Q E s:=by
 have htake:sizeOk (.seq ((items.toList.drop (sIx items.size 0 lo)).take (sIx items.size items.size hi-sIx items.size 0 lo)).toArray):=by
  show ((items.toList.drop (sIx items.size 0 lo)).take (sIx items.size items.size hi-sIx items.size 0 lo)).toArray.size<=sizeLine
  rw[List.size_toArray,List.length_take,List.length_drop,Array.length_toList]
  omega
 have hj:sIx items.size items.size hi<=items.size:=sIx_le _ _ (Nat.le_refl _) hi
 obtain⟨os,hos,hcs,hds⟩:=id hs
 have hTs:s.TypeIs (.ref sl) "slice":=⟨os,hos,hcs⟩
 unfold getItem
 try with_reducible refine wpAny_holding ?_
 first|refine wpAny_bind (wpAny_pure ?_)|skip
 refine wpAny_bind (wpAny_sequenceKey ht.typeIs (by decide) ?_)
 refine wpAny_bind (wpAny_callSpecial?_slot (name:=Str.ofString "__getitem__") ht.typeIs PyProof.Rows.slot_tuple_getitem
  (wpAny_call_entry PyProof.Rows.slot_tuple_getitem ht.typeIs entry_tuple_getitem ?_ (args_tuple_getitem _ _)))
 show wpAny _ _ (Builtin.Tuple.tupleItemsOf (.ref t) >>= _) _ _ s
 refine wpAny_bind (tupleItemsOf_ ht ?_)
 refine wpAny_bind (wpAny_typeOf hTs ?_)
 rw[if_pos (by decide)]
 refine wpAny_bind (sliceApplied_gen hs pl pu ?_)
 have hno:¬ ((((sIx items.size 0 lo:Nat):Int)==0&&(1:Int)==1&&(sIx items.size items.size hi-sIx items.size 0 lo)==items.size)=true):=by
  intro q
  rw[Bool.and_eq_true,Bool.and_eq_true] at q
  have q1:((sIx items.size 0 lo:Nat):Int)=0:=eq_of_beq q.1.1
  have q2:sIx items.size items.size hi-sIx items.size 0 lo=items.size:=eq_of_beq q.2
  exact hw ⟨by omega,by omega⟩
 show wpAny _ _ (if (((sIx items.size 0 lo:Nat):Int)==0&&(1:Int)==1&&(sIx items.size items.size hi-sIx items.size 0 lo)==items.size)=true then _ else _) _ _ s
 rw[if_neg hno,pick_gen]
 first
  | exact wpAny_bind (m:=Builtin.Tuple.tupleExact _) (wpAny_newObj_type (wpAny_pure ⟨_,rfl,wpAny_pure h⟩) htake)
  | exact wpAny_bind (m:=Builtin.Tuple.tupleExact _) (wpAny_newObj_type (wpAny_bind (wpAny_pure (wpAny_pure ⟨_,rfl,wpAny_pure h⟩))) htake)
  | exact wpAny_bind (wpAny_bind (m:=Builtin.Tuple.tupleExact _) (wpAny_newObj_type (wpAny_pure (wpAny_pure ⟨_,rfl,wpAny_pure h⟩)) htake))
  | exact wpAny_bind (wpAny_bind (m:=Builtin.Tuple.tupleExact _) (wpAny_newObj_type (wpAny_pure ⟨_,rfl,wpAny_pure h⟩) htake))
end
end HT
namespace L2
open PySem PySem.Spec PyProof.Rows
noncomputable abbrev TO:=St->Hp->(Option Int->Hp->Prop)->Prop
noncomputable def PO (X:Cx) (e:Option Expr) (t:TO):Prop :=
 ∀ (pins:List (Addr×Obj)) (s:Shared) (σ:St) (H:Hp) (Q:Option Int->Hp->Prop),Inv X pins σ H s->t σ H Q ->
  wpAny (model X.prog X.w) X.A (evalPart e X.env) (fun u s'=>∃ o H',Inv X pins σ H' s'/\IsPart u o/\Q o H') X.xe s
noncomputable def tNoPart:TO:=fun _ H Q=>Q none H
noncomputable def tPart (t:TE):TO:=fun σ H Q=>t σ H fun x H1=>∃ i,x=.int i/\Q (some i) H1
section
variable {X:Cx} {e:Expr} {te:TE} {lo hi:Option Expr} {tl th:TO} {pos p2:Pos}
theorem po_none:PO X none tNoPart:=by
 intro pins s σ H Q I h
 rw[evalPart_none]
 exact wpAny_pure ⟨none,H,I,.none,h⟩
theorem po_some (h:PE X e te):PO X (some e) (tPart te):=by
 intro pins s σ H Q I hw
 rw[evalPart_some]
 refine thn (h pins s σ H _ I hw) fun u s1 hq2=>?_
 obtain⟨x,H1,I1,r1,q1⟩:=hq2
 obtain⟨i,rfl,q⟩:=q1
 obtain⟨t,rfl⟩:=r1
 exact⟨some i,H1,I1,.int i t,q⟩
noncomputable def SlR (X:Cx) (r:V->Option Int->Option Int->Hp->VK->Prop):Prop :=
 ∀ (pins:List (Addr×Obj)) (s:Shared) (σ:St) (H:Hp) (x:V) (v vl vu:Value) (lo hi:Option Int) (sl:Addr) (Q:VK),Inv X pins σ H s->RelV x v->s.heap.IsSliceOf sl vl vu .none->IsPart vl lo->IsPart vu hi->r x lo hi H Q ->
  ∃ T id,typeLookup (.type T) "__getitem__"=pure (some (.builtin id))/\s.TypeIs v T/\wpAny (model X.prog X.w) X.A (getItem v (.ref sl)) (EP X pins σ Q) X.xe s
noncomputable def tSl (r:V->Option Int->Option Int->Hp->VK->Prop) (te:TE) (tl th:TO):TE:=fun σ H Q=>te σ H fun x H1=>tl σ H1 fun l H2=>th σ H2 fun u H3=>r x l u H3 Q
theorem pe_slice {r:V->Option Int->Option Int->Hp->VK->Prop} (hr:SlR X r) (he:PE X e te) (hl:PO X lo tl) (hu:PO X hi th):PE X (.Subscript e (.Slice lo hi none p2) pos) (tSl r te tl th):=by
 intro pins s σ H Q I h
 refine Subscript_ (thn (he pins s σ H _ I h) fun v s1 hq2=>?_)
 obtain⟨x,H1,I1,r1,q1⟩:=hq2
 refine wpAny_Slice (thn (hl pins s1 σ H1 _ I1 q1) fun vl s2 ⟨l,H2,I2,pl,q2⟩=>thn (hu pins s2 σ H2 _ I2 q2) fun vu s3 hq2=>?_)
 obtain⟨u,H3,I3,pu,q3⟩:=hq2
 rw[evalPart_none]
 refine wpAny_pure ?_
 have I4:Inv X pins σ H3 {s3 with heap:=s3.heap.push {cls:=.type "slice",data:=.fields #[vl,vu,.none]}}:=I3.kept (t':=s3.toks) fun b ob q=>Heap.get?_push_of_some _ q
 obtain⟨T,id,hT,ht,hg⟩:=hr pins {s3 with heap:=s3.heap.push {cls:=.type "slice",data:=.fields #[vl,vu,.none]}} σ H3 x v vl vu l u s3.heap.objs.size Q I4 r1 (Heap.IsSliceOf.new ..) pl pu q3
 show wpAny (model X.prog X.w) X.A (subscriptTail e (.Slice lo hi none p2) v (.ref s3.heap.objs.size)) (EP X pins σ Q) X.xe {s3 with heap:=s3.heap.push {cls:=.type "slice",data:=.fields #[vl,vu,.none]}}
 exact tail_any (ops:=[.ref s3.heap.objs.size,v]) ht hT hg (by with_unfolding_all rfl)
noncomputable def cutV (xs:List V) (lo hi:Option Int):List V:=(xs.drop (HT.sIx xs.length 0 lo)).take (HT.sIx xs.length xs.length hi-HT.sIx xs.length 0 lo)
theorem cutV_length (xs:List V) (lo hi:Option Int):(cutV xs lo hi).length<=xs.length:=by
 unfold cutV
 rw[List.length_take,List.length_drop]
 omega
noncomputable def rSlT (K:PySem.W.Frag):V->Option Int->Option Int->Hp->VK->Prop:=fun x lo hi H Q=>∃ a xs,x=.ref a/\SqT K H a xs /\
 ¬ (HT.sIx xs.length 0 lo=0/\HT.sIx xs.length xs.length hi=xs.length)/\∀ p,H p=none->Q (.ref p) (upd H p (.tup (cutV xs lo hi)))
theorem sl_tup:SlR X (rSlT X.K):=by
 intro pins s σ H x v vl vu lo hi sl Q I rx hs pl pu h
 obtain⟨a,xs,rfl,hx,hw,q⟩:=h
 cases rx
 obtain⟨its,r,ht,hz⟩:=I.tuple hx
 have hlen:its.toArray.size=xs.length:=by rw[List.size_toArray];exact r.length.symm
 refine⟨"tuple",_,PyProof.Rows.slot_tuple_getitem.lookup,ht.typeIs,?_⟩
 refine HT.getItem_tuple_cut ht hs pl pu (by rw[hlen];exact hw) ?_ (by rw[hlen];exact hz)
 rw[hlen]
 refine⟨.ref s.heap.objs.size,_,I.laid (t':=s.toks) (o:=.tup (cutV xs lo hi)) (fun b ob q=>Heap.get?_push_of_some _ q) (Nat.le_refl _) ?_,rfl,q _ (I.hok.fresh (Nat.le_refl _))⟩
 exact⟨Nat.le_trans (cutV_length xs lo hi) hz,_,(r.drop (HT.sIx xs.length 0 lo)).take (HT.sIx xs.length xs.length hi-HT.sIx xs.length 0 lo),IsTup.new _ _⟩
noncomputable def rCatT (K:PySem.W.Frag):R2:=fun x y H Q=>∃ a b xs ys,x=.ref a/\y=.ref b/\SqT K H a xs/\SqT K H b ys/\xs≠[]/\xs.length+ys.length<=sizeLine /\
 (ys=[]->Q (.ref a) H)/\(ys≠[]->∀ p,H p=none->Q (.ref p) (upd H p (.tup (xs++ys))))
theorem Vals.nil_iff {xs:List V} {us:List Value} (r:Vals xs us):us=[] ↔ xs=[]:=by
 cases r with
 | nil=>simp
 | cons _ _=>simp
theorem op_catT:OpR X (binaryOp .Add) (rCatT X.K):=by
 intro pins s σ H x y v u Q I rx ry h
 obtain⟨a,b,xs,ys,rfl,rfl,ha,hb,hx,hz,q1,q2⟩:=h
 cases rx
 cases ry
 obtain⟨its,r1,p1,_⟩:=I.tuple ha
 obtain⟨its2,r2,p2,_⟩:=I.tuple hb
 refine HT.cat_tup p1 p2 (fun z=>hx (r1.nil_iff.mp z)) (fun z=>⟨.ref a,H,I,rfl,q1 (r2.nil_iff.mp z)⟩) (fun z=>?_) (by rw[<- r1.length,<- r2.length];exact hz)
 refine⟨.ref s.heap.objs.size,_,I.laid (t':=s.toks) (o:=.tup (xs++ys)) (fun b ob q=>Heap.get?_push_of_some _ q) (Nat.le_refl _) ?_,rfl,q2 (fun w=>z (r2.nil_iff.mpr w)) _ (I.hok.fresh (Nat.le_refl _))⟩
 exact⟨by rw[List.length_append];exact hz,_,r1.append r2,IsTup.new _ _⟩
end
end L2
namespace L2
open PySem PySem.Spec PyProof.Rows
noncomputable def ixN (n:Nat) (i:Int):Option Nat:=if 0<=i then (if i<n then some i.toNat else none) else if -(n:Int)<=i then some (i+n).toNat else none
noncomputable def atI {α:Type} (xs:List α) (i:Int):Option α:=(ixN xs.length i).bind fun j=>xs[j]?
theorem ixN_seq {n:Nat} {i:Int} {j:Nat} (h:ixN n i=some j):seqIndex? i n=some j/\j<n/\-(n:Int)<=i/\i<n:=by
 unfold ixN at h
 by_cases h0:0<=i
 ·rw[if_pos h0] at h
  by_cases h1:i<n
  ·rw[if_pos h1] at h
   have e:i.toNat=j:=Option.some.inj h
   exact⟨by rw[seqIndex_of h0 h1,e],by omega,by omega,h1⟩
  ·rw[if_neg h1] at h;cases h
 ·rw[if_neg h0] at h
  by_cases h1:-(n:Int)<=i
  ·rw[if_pos h1] at h
   have e:(i+n).toNat=j:=Option.some.inj h
   exact⟨by rw[seqIndex_neg (by omega) h1,e],by omega,h1,by omega⟩
  ·rw[if_neg h1] at h;cases h
theorem atI_get {α:Type} {xs:List α} {i:Int} {v:α} (h:atI xs i=some v):∃ j,seqIndex? i xs.length=some j/\xs[j]?=some v/\j<xs.length/\-(xs.length:Int)<=i/\i<xs.length:=by
 unfold atI at h
 cases e:ixN xs.length i with
 | none=>rw [e] at h;cases h
 | some j =>
  rw[e] at h
  obtain⟨h1,h2,h3,h4⟩:=ixN_seq e
  exact⟨j,h1,h,h2,h3,h4⟩
theorem atI_nat {α:Type} {xs:List α} {j:Nat} {v:α} (h:xs[j]?=some v):atI xs (j:Int)=some v:=by
 have hj:j<xs.length:=(List.getElem?_eq_some_iff.mp h).1
 have e:ixN xs.length (j:Int)=some j:=by
  unfold ixN
  rw[if_pos (by omega),if_pos (by omega)];simp
 unfold atI;rw[e];exact h
noncomputable def PlainIx (b:Expr):Prop:=∀ o i,subscripted b false o i=operate [o,i] (getItem o i)
noncomputable def IxR (X:Cx) (r:R2):Prop :=
 ∀ (value slice:Expr) (pins:List (Addr×Obj)) (s:Shared) (σ:St) (H:Hp) (x y:V) (v u:Value) (Q:VK),Inv X pins σ H s->RelV x v->RelV y u->r x y H Q ->
  subscripted slice false v u=operate [v,u] (getItem v u)->wpAny (model X.prog X.w) X.A (subscriptTail value slice v u) (EP X pins σ Q) X.xe s
noncomputable def MtR (X:Cx) (id:String) (r:V->List V->Hp->VK->Prop):Prop :=
 ∀ (pins:List (Addr×Obj)) (s:Shared) (σ:St) (H:Hp) (x:V) (xs:List V) (v:Value) (us:List Value) (Q:VK),Inv X pins σ H s->RelV x v->Vals xs us->r x xs H Q ->
  wpAny (model X.prog X.w) X.A (call (.builtin id) (v::us)) (EP X pins σ Q) X.xe s
section
variable {X:Cx} {a b:Expr} {ta tb:TE} {pos:Pos}
theorem pe_ix {r:R2} (hr:IxR X r) (ha:PE X a ta) (hb:PE X b tb) (hs:PlainIx b):PE X (.Subscript a b pos) (tOp r ta tb):=by
 intro pins s σ H Q I h
 exact Subscript_ (binT ha hb I h fun v u s2 x y H2 I2 rx ry q=>hr a b pins s2 σ H2 x y v u Q I2 rx ry q (hs _ _))
noncomputable def rIxL (K:PySem.W.Frag):R2:=fun x y H Q=>∃ p xs i v,x=.ref p/\y=.int i/\SqL K H p xs/\atI xs i=some v/\Q v H
noncomputable def rIxT (K:PySem.W.Frag):R2:=fun x y H Q=>∃ p xs i v,x=.ref p/\y=.int i/\SqT K H p xs/\atI xs i=some v/\Q v H
noncomputable def rIxS:R2:=fun x y H Q=>∃ z i c,x=.str z/\y=.int i/\z.length<=sizeLine/\atI z.cps.toList i=some c/\Q (.str ⟨#[c]⟩) H
theorem ix_list:IxR X (rIxL X.K):=by
 intro value slice pins s σ H x y v u Q I rx ry h hs
 obtain⟨p,xs,i,z,rfl,rfl,hq,he,q⟩:=h
 cases rx
 obtain⟨t,rfl⟩:=ry
 obtain⟨its,r,pl,hz⟩:=I.list hq
 obtain⟨j,h1,h2,h3,h4,h5⟩:=atI_get he
 obtain⟨w,ew,rw'⟩:=r.get h2
 have hl:=r.length
 have hn:=line63
 have fin:EP X pins σ Q w s:=⟨z,H,I,rw',q⟩
 by_cases h0:0<=i
 ·have hj:i.toNat=j:=by
   rw[seqIndex_of h0 h5] at h1
   exact Option.some.inj h1
  exact item_listR pl.isList h0 (by omega) (by rw[hj];simpa using ew) fin hs
 ·have hj:(i+(its.toArray.size:Int)).toNat=j:=by
   rw[seqIndex_neg (by omega) h4] at h1
   rw[List.size_toArray,<- hl]
   exact Option.some.inj h1
  exact subscriptTail_builtinR (x:=w) pl.isList.typeIs slot_list_getitem.lookup
   (wpAny_getItem_list_neg (Q:=fun r s'=>r=w/\EP X pins σ Q r s') pl.isList (by omega) (by rw[List.size_toArray]<;>omega) (by omega) (by rw[hj];simpa using ew) ⟨rfl,fin⟩) hs
theorem ix_tup:IxR X (rIxT X.K):=by
 intro value slice pins s σ H x y v u Q I rx ry h hs
 obtain⟨p,xs,i,z,rfl,rfl,hq,he,q⟩:=h
 cases rx
 obtain⟨t,rfl⟩:=ry
 obtain⟨its,r,pl,hz⟩:=I.tuple hq
 obtain⟨j,h1,h2,h3,h4,h5⟩:=atI_get he
 obtain⟨w,ew,rw'⟩:=r.get h2
 have hl:=r.length
 have hn:=line63
 have fin:EP X pins σ Q w s:=⟨z,H,I,rw',q⟩
 exact subscriptTail_builtinR (x:=w) pl.typeIs slot_tuple_getitem.lookup
  (getItem_tuple (j:=j) (Q:=fun r s'=>r=w/\EP X pins σ Q r s') pl (by omega) (by omega) (by rw[List.size_toArray,<- hl];exact h1) (by simpa using ew) ⟨rfl,fin⟩) hs
theorem ix_str:IxR X rIxS:=by
 intro value slice pins s σ H x y v u Q I rx ry h hs
 obtain⟨z,i,c,rfl,rfl,hz,he,q⟩:=h
 obtain⟨t,rfl⟩:=rx
 obtain⟨t',rfl⟩:=ry
 obtain⟨j,h1,h2,h3,h4,h5⟩:=atI_get he
 have hl:z.cps.toList.length=z.length:=by simp[Str.length]
 rw[hl] at h1 h4 h5
 have hn:=line63
 exact tail_any (typeIs_str s z t) slot_str_getitem.lookup (getItem_str (c:=c) (by
  have e1:decide (i < -(2 ^ 63:Int))=false:=decide_eq_false (by omega)
  have e2:decide (i ≥ 2 ^ 63)=false:=decide_eq_false (by omega)
  rw[e1,e2,Bool.or_false]) (by rw[h1];simpa using h2) ⟨.str ⟨#[c]⟩,H,I.tok _,⟨_,rfl⟩,q⟩) hs
theorem mapSeq_set (its:List Value) (n j:Nat) (u:Value):Obj.mapSeq (·.setIfInBounds j u) {cls:=.type "list",data:=.seq its.toArray n}={cls:=.type "list",data:=.seq (its.set j u).toArray n}:=by
 simp[Obj.mapSeq]
theorem Inv.lst {pins:List (Addr×Obj)} {σ:St} {H:Hp} {s:Shared} {p:Addr} {xs:List V} (I:Inv X pins σ H s) (h:H p=some (.lst xs)) :
  ∃ (its:List Value) (n:Nat),Vals xs its/\s.heap.get? p=some {cls:=.type "list",data:=.seq its.toArray n}/\xs.length<=sizeLine:=by
 obtain⟨z,its,n,r,e⟩:=I.hok p _ h
 exact⟨its,n,r,e,z⟩
theorem Inv.lstUpd {pins:List (Addr×Obj)} {σ:St} {H:Hp} {s:Shared} {p:Addr} {xs ys:List V} {its its':List Value} {n n':Nat} {f:Obj->Obj} (I:Inv X pins σ H s) (h:H p=some (.lst xs))
  (ho:s.heap.get? p=some {cls:=.type "list",data:=.seq its.toArray n}) (hf:f {cls:=.type "list",data:=.seq its.toArray n}={cls:=.type "list",data:=.seq its'.toArray n'}) (r:Vals ys its') (hz:ys.length<=sizeLine) (t:Nat) :
  Inv X pins σ (upd H p (.lst ys)) {s with heap:=s.heap.update p f,toks:=t}:=by
 have e:(s.heap.update p f).get? p=some {cls:=.type "list",data:=.seq its'.toArray n'}:=by
  rw[Heap.get?_update_self f ho (by rw[hf]<;>rfl),hf]
 refine I.write (x:=p) (e:=p) (by rw[h];trivial) (.inl rfl) (fun b u hb q=>(Heap.get?_update_other _ _ (Ne.symm hb)).trans q) ⟨_,e⟩ ?_
 exact⟨hz,its',n',r,e⟩
noncomputable def rSetL:V->V->V->Hp->(Hp->Prop)->Prop:=fun o i v H Q=>∃ p xs k j,o=.ref p/\i=.int k/\H p=some (.lst xs)/\ixN xs.length k=some j/\Q (upd H p (.lst (xs.set j v)))
theorem set_list:PSet X rSetL:=by
 intro pins s σ H o i v ov iv u Q I ro ri rv h
 obtain⟨p,xs,k,j,rfl,rfl,hp,hj,q⟩:=h
 cases ro
 obtain⟨t,rfl⟩:=ri
 obtain⟨its,n,r,ho,hz⟩:=I.lst hp
 obtain⟨h1,h2,h3,h4⟩:=ixN_seq hj
 have hl:=r.length
 have hn:=line63
 have I':Inv X pins σ (upd H p (.lst (xs.set j v))) {s with heap:=s.heap.update p (Obj.mapSeq (·.setIfInBounds j u))} :=
  I.lstUpd hp ho (mapSeq_set its n j u) (r.set rv j) (by rw[List.length_set];exact hz) s.toks
 by_cases h0:0<=k
 ·have hk:k.toNat=j:=by
   rw[seqIndex_of h0 h4] at h1
   exact Option.some.inj h1
  exact PySem.W.ki_setAt ho h0 (by omega) (by rw[List.size_toArray,<- hl];exact h4) (by rw[hk];exact⟨_,I',q⟩)
 ·have hk:(k+(its.toArray.size:Int)).toNat=j:=by
   rw[seqIndex_neg (by omega) h3] at h1
   rw[List.size_toArray,<- hl]
   exact Option.some.inj h1
  exact PySem.W.ki_setBack ho (by omega) (by rw[List.size_toArray,<- hl];exact h3) (by omega) (by rw[hk];exact⟨_,I',q⟩)
theorem slice_bounds (lo hi:Option Int) (n:Nat):(sliceBounds lo hi none n).1=((HT.sIx n 0 lo:Nat):Int)/\(sliceBounds lo hi none n).2.1=((HT.sIx n n hi:Nat):Int)/\(sliceBounds lo hi none n).2.2=1:=by
 refine⟨?_,?_,rfl⟩
 ·cases lo with
  | none=>simp[sliceBounds,HT.sIx]
  | some i =>
   simp only[sliceBounds,HT.sIx,Option.getD_none,show (1:Int) > 0 by decide,if_true]
   by_cases h:i<0
   ·simp only[h,if_true]<;>omega
   ·simp only[h,if_false]<;>omega
 ·cases hi with
  | none=>simp[sliceBounds,HT.sIx]
  | some i =>
   simp only[sliceBounds,HT.sIx,Option.getD_none,show (1:Int) > 0 by decide,if_true]
   by_cases h:i<0
   ·simp only[h,if_true]<;>omega
   ·simp only[h,if_false]<;>omega
theorem slicePick_cut (its:List Value) (lo hi:Option Int):slicePick its.toArray lo hi none=((its.drop (HT.sIx its.length 0 lo)).take (HT.sIx its.length its.length hi-HT.sIx its.length 0 lo)).toArray:=by
 obtain⟨h1,h2,h3⟩:=slice_bounds lo hi its.toArray.size
 unfold slicePick
 rw[h1,h2,h3]
 simp only[sliceRange_one,pick_run,List.size_toArray]<;>rfl
noncomputable def rSlL (K:PySem.W.Frag):V->Option Int->Option Int->Hp->VK->Prop:=fun x lo hi H Q=>∃ a xs,x=.ref a/\SqL K H a xs/\∀ p,H p=none->Q (.ref p) (upd H p (.lst (cutV xs lo hi)))
theorem sl_list:SlR X (rSlL X.K):=by
 intro pins s σ H x v vl vu lo hi sl Q I rx hs pl pu h
 obtain⟨a,xs,rfl,hx,q⟩:=h
 cases rx
 obtain⟨its,r,ht,hz⟩:=I.list hx
 have hlen:=r.length
 refine⟨"list",_,slot_list_getitem.lookup,ht.isList.typeIs,?_⟩
 refine wpAny_getItem_list_slice ht.isList hs pl pu .none (by simp) ?_ (by rw[List.size_toArray]<;>omega)
 rw[slicePick_cut,<- hlen]
 refine⟨.ref s.heap.objs.size,_,I.laid (t':=s.toks) (o:=.lst (cutV xs lo hi)) (fun b ob q=>Heap.get?_push_of_some _ q) (Nat.le_refl _) ?_,rfl,q _ (I.hok.fresh (Nat.le_refl _))⟩
 exact⟨Nat.le_trans (cutV_length xs lo hi) hz,_,0,(r.drop (HT.sIx xs.length 0 lo)).take (HT.sIx xs.length xs.length hi-HT.sIx xs.length 0 lo),Heap.get?_push_size _ rfl⟩
theorem call_len_seq:CallR X (.builtin "len") (fun xs H Q=>∃ p ys,xs=[.ref p]/\(SqL X.K H p ys\/SqT X.K H p ys)/\Q (.int ys.length) H):=by
 intro pins s σ H xs us Q I r h
 obtain⟨p,ys,rfl,hq,q⟩:=h
 obtain⟨u,rfl,rx⟩:=vals1 r
 cases rx
 have hn:=line63
 rcases hq with hq|hq
 ·obtain⟨its,r',pl,hz⟩:=I.list hq
  have hlen:=r'.length
  exact Calls.call_len_list pl.isList (by simp only[List.size_toArray]<;>omega) ⟨.int ys.length,H,I.tok _,⟨s.toks+1,by rw[List.size_toArray,hlen]⟩,q⟩
 ·obtain⟨its,r',pl,hz⟩:=I.tuple hq
  have hlen:=r'.length
  exact len_tuple pl (by simp only[List.size_toArray]<;>omega) ⟨.int ys.length,H,I.tok _,⟨s.toks+1,by rw[List.size_toArray,hlen]⟩,q⟩
theorem call_len_str:CallR X (.builtin "len") (fun xs H Q=>∃ z,xs=[.str z]/\z.length<=sizeLine/\Q (.int z.length) H):=by
 intro pins s σ H xs us Q I r h
 obtain⟨z,rfl,hz,q⟩:=h
 obtain⟨u,rfl,t,rfl⟩:=vals1 r
 have hn:=line63
 exact len_str (by omega) ⟨.int z.length,H,I.tok _,⟨_,rfl⟩,q⟩
theorem CallR.or {f:Value} {r r':List V->Hp->VK->Prop} (h:CallR X f r) (h':CallR X f r'):CallR X f (fun xs H Q=>r xs H Q\/r' xs H Q):=by
 intro pins s σ H xs us Q I rs q
 rcases q with q|q
 ·exact h pins s σ H xs us Q I rs q
 ·exact h' pins s σ H xs us Q I rs q
theorem call_tuple_of:CallR X (.type "tuple") (fun xs H Q=>∃ p ys,xs=[.ref p]/\((SqL X.K H p ys/\∀ l,H l=none->Q (.ref l) (upd H l (.tup ys)))\/(SqT X.K H p ys/\Q (.ref p) H))):=by
 intro pins s σ H xs us Q I r h
 obtain⟨p,ys,rfl,h⟩:=h
 obtain⟨u,rfl,rx⟩:=vals1 r
 cases rx
 rcases h with ⟨hq,q⟩|⟨hq,q⟩
 ·obtain⟨its,r',pl,hz⟩:=I.list hq
  have hlen:=r'.length
  refine call_tuple_list pl.isList (fun h' kp=>?_) (by simp only[List.size_toArray]<;>omega)
  have I1:Inv X pins σ H {s with heap:=h'}:=I.kept (t':=s.toks) kp
  have I2:Inv X pins σ (upd H h'.objs.size (.tup ys)) {s with heap:=h'.push {cls:=.type "tuple",data:=.seq its.toArray}} :=
   I1.laid (t':=s.toks) (fun b o e=>Heap.get?_push_of_some _ e) (Nat.le_refl _) (show ObjOk X.prog X.w _ _ _ (.tup ys) from ⟨hz,its,r',IsTup.new _ _⟩)
  exact⟨.ref h'.objs.size,_,I2,rfl,q _ (I1.hok.fresh (Nat.le_refl _))⟩
 ·obtain⟨its,r',pl,hz⟩:=I.tuple hq
  exact call_tuple_same pl ⟨.ref p,H,I,rfl,q⟩
noncomputable def tyV (K:PySem.W.Frag) (T:String) (x:V) (H:Hp):Prop:=match x with
 | .str _=>T="str"
 | .int _=>T="int"
 | .ref p=>(T="list"/\∃ xs,SqL K H p xs)\/(T="tuple"/\∃ o,K.lookup p=some o/\o.cls=.type "tuple"/\o.dict=none) \/
   (T="dict"/\((∃ kvs,H p=some (.dK kvs))\/∃ kvs,H p=some (.dT kvs)))\/(T="set"/\∃ S n,H p=some (.set S n))
 | _=>False
theorem tyV_is {pins:List (Addr×Obj)} {σ:St} {H:Hp} {s:Shared} {T:String} {x:V} {v:Value} (I:Inv X pins σ H s) (r:RelV x v) (ty:tyV X.K T x H) :
  s.TypeIs v T/\∀ a,v=.ref a->∃ ob,s.heap.get? a=some ob/\ob.dict=none:=by
 cases x with
 | str z =>
  obtain⟨t,rfl⟩:=r
  cases (show T="str" from ty)
  exact⟨typeIs_str s z t,fun _ e=>nomatch e⟩
 | int i =>
  obtain⟨t,rfl⟩:=r
  cases (show T="int" from ty)
  exact⟨typeIs_int s i t,fun _ e=>nomatch e⟩
 | ref p =>
  cases r
  rcases ty with ⟨rfl,xs,hq⟩|⟨rfl,o,hk,hc,hd⟩|⟨rfl,hk⟩|⟨rfl,S,n,hk⟩
  ·obtain⟨its,_,pl,_⟩:=I.list hq
   refine⟨pl.isList.typeIs,fun a e=>?_⟩
   cases e
   obtain⟨o,n,e,c,hd,_⟩:=pl
   exact⟨o,e,hd⟩
  ·refine⟨⟨o,I.kIn p o hk,hc⟩,fun a e=>?_⟩
   cases e
   exact⟨o,I.kIn _ o hk,hd⟩
  ·have z:∃ o,s.heap.get? p=some o/\o.ExactDict:=by
    rcases hk with ⟨kvs,hk⟩|⟨kvs,hk⟩
    ·obtain⟨_,_,_,_,o,_,_,e,ex,_⟩:=I.hok p _ hk
     exact⟨o,e,ex⟩
    ·obtain⟨_,_,_,_,o,_,_,e,ex,_⟩:=I.hok p _ hk
     exact⟨o,e,ex⟩
   obtain⟨o,e,ex⟩:=z
   refine⟨⟨o,e,ex.1⟩,fun a e2=>?_⟩
   cases e2
   exact⟨o,e,ex.2.1⟩
  ·obtain⟨o,_,_,_,e,ex,_⟩:=I.hok p _ hk
   refine⟨⟨o,e,ex.1⟩,fun a e2=>?_⟩
   cases e2
   exact⟨o,e,ex.2.1⟩
 | _=>exact False.elim ty
noncomputable def tBM (K:PySem.W.Frag) (T:String) (r:V->List V->Hp->VK->Prop) (to:TE) (t:TA):TE:=fun σ H Q=>to σ H fun x H1=>tyV K T x H1/\t σ H1 fun xs H2=>r x xs H2 Q
variable {o e:Expr} {es:List Expr} {to:TE} {t:TA} {name:Str} {apos cpos:Pos} {T id:String} {r:V->List V->Hp->VK->Prop}
theorem pe_bm (pa:PlainAttrs T) (slot:Slot T name id) (hty:typeOf (.builtin id)=pure (.type "method_descriptor")) (hm:MtR X id r) (ho:PE X o to) (ha:PA X (e::es) t)
  (hbase:attributeBase o name X.env (eval o X.env)=eval o X.env:=by rfl)
  (hfew:((backTo cpos (starEach (e::es) X.env)).all (fun x=>!x.1)&&(backToKw cpos (keywordEach [] X.env)).all (fun x=>x.1.isSome)
   && decide ((e::es).length+([]:List Keyword).length+(if ([]:List Keyword).isEmpty then 0 else 1)<30))=true:=by rfl)
  (hline:(apos.endLine==cpos.line)=true:=by rfl) (hs:starEach (e::es) X.env=(false,eval e X.env)::starEach es X.env:=by rfl) (hplain:(backTo cpos (starEach es X.env)).any (·.1)=false:=by rfl) :
  PE X (.Call (.Attribute o name apos) (e::es) [] cpos) (tBM X.K T r to t):=by
 intro pins s σ H Q I h
 refine wpAny_Call_method_late hbase hfew hline rfl (thn (ho pins s σ H _ I h) fun v s1 hq2=>?_)
 obtain⟨x,H1,I1,r1,ty,q1⟩:=hq2
 obtain⟨h1,h2⟩:=tyV_is I1 r1 ty
 refine⟨T,id,pa,slot,hty,h1,h2,?_⟩
 have hA:=ha cpos pins s1 σ H1 _ I1 q1
 rw[hs] at hA ⊢
 refine Calls.callWith_builtin (by show (false || (backTo cpos (starEach es X.env)).any (·.1))=false;rw[hplain]<;>rfl) (Calls.evalArgs_plain ?_)
 exact thn hA (by rintro us s2 ⟨vs,H2,I2,r2,q2⟩;exact hm pins s2 σ H2 x vs v us Q I2 r1 r2 q2)
end
end L2
namespace L2
open PySem PySem.Spec PyProof.Rows
noncomputable def MtM (X:Cx) (id:String) (r:V->List V->Hp->VK->Prop):Prop :=
 ∀ (pins:List (Addr×Obj)) (s:Shared) (σ:St) (H:Hp) (x:V) (xs:List V) (v:Value) (us:List Value) (Q:VK),Inv X pins σ H s->RelV x v->Vals xs us->r x xs H Q ->
  wpAny (model X.prog X.w) X.A (call (.builtin id) (v::us)) (EP X pins σ Q) X.xe s
theorem Vals.one:∀ {x:V} {us:List Value},Vals [x] us->∃ u,us=[u]/\RelV x u
 | _,_,.cons r .nil=>⟨_,rfl,r⟩
theorem Vals.rep {xs:List V} {us:List Value} (h:Vals xs us):∀ k:Nat,Vals (List.replicate k xs).flatten (List.replicate k us).flatten
 | 0=>.nil
 | k+1=>by
  rw[List.replicate_succ,List.replicate_succ,List.flatten_cons,List.flatten_cons]
  exact Vals.append h (Vals.rep h k)
theorem foldl_rep (its:List Value):∀ (k:Nat) (acc:List Value),
  List.foldl (fun x1 x2=>x1++x2) acc.toArray (List.replicate k its.toArray)=(acc++(List.replicate k its).flatten).toArray
 | 0,acc=>by simp
 | k+1,acc=>by
  have e:acc.toArray++its.toArray=(acc++its).toArray:=by simp
  have e2:(acc++its)++(List.replicate k its).flatten=acc++(List.replicate (k+1) its).flatten:=by
   rw[List.replicate_succ,List.flatten_cons,List.append_assoc]
  rw[<- e2,<- foldl_rep its k (acc++its),<- e,List.replicate_succ,List.foldl_cons]
section
variable {X:Cx} {pins:List (Addr×Obj)} {σ:St} {H:Hp} {s:Shared} {l b:Addr} {xs ys zs:List V}
theorem Inv.lset {its its':List Value} {n:Nat} {f:Array Value->Array Value} {t':Nat} (I:Inv X pins σ H s) (hH:H l=some (.lst xs))
  (e:s.heap.get? l=some {cls:=.type "list",data:=.seq its.toArray n}) (hf:f its.toArray=its'.toArray) (hv:Vals ys its') (hz:ys.length<=sizeLine) :
  Inv X pins σ (upd H l (.lst ys)) {s with heap:=s.heap.update l (Obj.mapSeq f),toks:=t'}:=by
 have q:=PySem.IsL.update e f
 rw[hf] at q
 refine I.write (x:=l) (e:=l) (by rw[hH];exact trivial) (.inl rfl) (fun b' u hb hu=>(Heap.get?_update_other s.heap (Obj.mapSeq f) (Ne.symm hb)).trans hu) ⟨_,q⟩ ?_
 exact⟨hz,its',_,hv,q⟩
theorem Inv.lnew {its:List Value} {t':Nat} (I:Inv X pins σ H s) (hv:Vals ys its) (hz:ys.length<=sizeLine) :
  Inv X pins σ (upd H s.heap.objs.size (.lst ys)) {s with heap:=s.heap.push {cls:=.type "list",data:=.seq its.toArray},toks:=t'} :=
 I.laid (fun _ _ q=>Heap.get?_push_of_some _ q) (Nat.le_refl _) ⟨hz,its,0,hv,Heap.get?_push_size _ rfl⟩
theorem Inv.fresh (I:Inv X pins σ H s):H s.heap.objs.size=none:=I.hok.fresh (Nat.le_refl _)
theorem Inv.lstM (I:Inv X pins σ H s) (hH:H l=some (.lst xs)):xs.length<=sizeLine/\∃ (its:List Value) (n:Nat),Vals xs its/\xs.length=its.length/\s.heap.get? l=some {cls:=.type "list",data:=.seq its.toArray n}:=by
 obtain⟨z,its,n,r,e⟩:=I.hok l _ hH
 exact⟨z,its,n,r,r.length,e⟩
theorem notLongL {n:Nat} (h:n<=sizeLine):Builtin.List.listTooLong n=false:=by
 unfold Builtin.List.listTooLong
 exact decide_eq_false (by omega)
end
section
variable {X:Cx}
noncomputable def rAppend:V->List V->Hp->VK->Prop:=fun x vs H Q=>∃ l xs y,x=.ref l/\vs=[y]/\H l=some (.lst xs)/\xs.length<sizeLine/\Q .non (upd H l (.lst (xs++[y])))
theorem mt_append:MtM X "list.append" rAppend:=by
 intro pins s σ H x vs v us Q I rx rv h
 obtain⟨l,xs,y,rfl,rfl,hH,hz,q⟩:=h
 cases rx
 obtain⟨u,rfl,ru⟩:=rv.one
 obtain⟨z,its,n,r,hl,e⟩:=I.lstM hH
 refine call_meets F.slot_list_append ⟨_,e,rfl⟩ F.entry_list_append (F.args_list_append_2 _ _) (PySem.list_append l its.toArray n u (by rw[List.size_toArray];omega)) ⟨e,?_⟩
 refine⟨.non,_,I.lset (its':=its++[u]) hH e (by simp) (r.append (.cons ru .nil)) ?_,rfl,q⟩
 rw[List.length_append,List.length_singleton]
 omega
noncomputable def rExtend:V->List V->Hp->VK->Prop:=fun x vs H Q=>∃ l b xs zs,x=.ref l/\vs=[.ref b]/\H l=some (.lst xs)/\H b=some (.lst zs)/\xs.length+zs.length<=sizeLine/\Q .non (upd H l (.lst (xs++zs)))
theorem mt_extend:MtM X "list.extend" rExtend:=by
 intro pins s σ H x vs v us Q I rx rv h
 obtain⟨l,b,xs,zs,rfl,rfl,hH,hB,hz,q⟩:=h
 cases rx
 obtain⟨u,rfl,ru⟩:=rv.one
 cases ru
 obtain⟨z,its,n,r,hl,e⟩:=I.lstM hH
 obtain⟨z2,its2,n2,r2,hl2,e2⟩:=I.lstM hB
 have hsz:its.toArray.size+its2.toArray.size<=sizeLine:=by rw[List.size_toArray,List.size_toArray];omega
 have hlong:¬ (!its.toArray.isEmpty&&Builtin.List.listTooLong (its.toArray.size+its2.toArray.size))=true:=by
  rw[notLongL hsz,Bool.and_false]
  exact Bool.false_ne_true
 refine call_meets F.slot_list_extend ⟨_,e,rfl⟩ F.entry_list_extend (F.args_list_extend_2 _ _)
  (AutoSeq1.list_extend_list_list_0 l its.toArray n b its2.toArray n2 hlong (by rw[List.size_toArray];omega) (by omega)) ⟨e,e2,?_⟩
 refine⟨.non,_,I.lset (its':=its++its2) hH e (by simp) (r.append r2) ?_,rfl,q⟩
 rw[List.length_append]
 omega
noncomputable def rCat:R2:=fun x y H Q=>∃ l b xs zs,x=.ref l/\y=.ref b/\H l=some (.lst xs)/\H b=some (.lst zs)/\xs.length+zs.length<=sizeLine/\∀ p,H p=none->Q (.ref p) (upd H p (.lst (xs++zs)))
theorem op_cat:OpR X (binaryOp .Add) rCat:=by
 intro pins s σ H x y v u Q I rx ry h
 obtain⟨l,b,xs,zs,rfl,rfl,hH,hB,hz,q⟩:=h
 cases rx
 cases ry
 obtain⟨z,its,n,r,hl,e⟩:=I.lstM hH
 obtain⟨z2,its2,n2,r2,hl2,e2⟩:=I.lstM hB
 refine PySem.P.add_list e e2 ?_ (by rw[List.size_toArray,List.size_toArray];omega)
 have ea:its.toArray++its2.toArray=(its++its2).toArray:=by simp
 rw[ea]
 exact⟨.ref _,_,I.lnew (t':=s.toks) (r.append r2) (by rw[List.length_append];omega),rfl,q _ I.fresh⟩
noncomputable def rRep:R2:=fun x y H Q=>∃ l k xs,x=.ref l/\y=.int k/\H l=some (.lst xs)/\-(2 ^ 63)<=k/\k<2 ^ 63/\xs.length*k.toNat<=sizeLine /\
 ∀ p,H p=none->Q (.ref p) (upd H p (.lst (List.replicate k.toNat xs).flatten))
theorem len_rep {α:Type} (xs:List α) (k:Nat):(List.replicate k xs).flatten.length=k*xs.length:=by
 induction k with
 | zero=>simp
 | succ k ih=>rw [List.replicate_succ,List.flatten_cons,List.length_append,ih,Nat.succ_mul,Nat.add_comm]
theorem op_rep:OpR X (binaryOp .Mult) rRep:=by
 intro pins s σ H x y v u Q I rx ry h
 obtain⟨l,k,xs,rfl,rfl,hH,h1,h2,hz,q⟩:=h
 cases rx
 obtain⟨t,rfl⟩:=ry
 obtain⟨z,its,n,r,hl,e⟩:=I.lstM hH
 have hlen:its.toArray.size*k.toNat<=sizeLine:=by rw[List.size_toArray,<- hl];exact hz
 have hcap:¬ its.toArray.size*k.toNat > (2 ^ 63-1) / 8:=by
  have:(sizeLine:Nat)<=(2 ^ 63-1) / 8:=by decide
  omega
 have hfit:¬ (!Builtin.List.listFitsIndex k)=true:=by
  rw[fitsIndex_both h1 h2]
  exact Bool.false_ne_true
 have hlong:¬ Builtin.List.listTooLong (its.toArray.size*k.toNat)=true:=by
  rw[notLongL hlen]
  exact Bool.false_ne_true
 have hnew:List.foldl (fun x1 x2=>x1++x2) #[] (List.replicate (if its.toArray.isEmpty=true then 0 else k.toNat) its.toArray)=(List.replicate k.toNat its).flatten.toArray:=by
  have f0:∀ m:Nat,List.foldl (fun x1 x2=>x1++x2) #[] (List.replicate m its.toArray)=(List.replicate m its).flatten.toArray:=fun m=>by
   have:=foldl_rep its m []
   rw[List.nil_append] at this
   exact this
  rw[f0]
  cases its with
  | nil=>simp
  | cons a r'=>rw [if_neg (by simp)]
 refine wpAny_binaryOp_repeat_ref (T:="list") (U:="int") (by decide) ⟨_,e,rfl⟩ (fun s'=>typeIs_int s' k t) noFill_list_mul F.fills_int_mul F.slot_int_rmul repeat_list F.slot_int_index.lookup
  (call_meets F.slot_int_rmul (typeIs_int s k t) F.entry_int_rmul (F.args_int_rmul_2 _ _) (int___rmul___int_list k t l its.toArray n)
   ⟨e,rfl,⟨_,e,rfl⟩,call_meets F.slot_list_mul ⟨_,e,rfl⟩ F.entry_list_mul (F.args_list_mul_2 _ _) (AutoListH.list___mul___list_int_3 l its.toArray n k t hfit hcap hlong) ⟨e,?_⟩⟩)
 rw[hnew]
 exact⟨.ref _,_,I.lnew (t':=s.toks) (r.rep k.toNat) (by rw[len_rep,Nat.mul_comm];exact hz),rfl,q _ I.fresh⟩
end
section
variable {prog:Program} {w:World} {A:Around} {E:Value->Shared->Prop} {s:Shared}
set_option maxRecDepth 100000 in
end
section
variable {X:Cx}
end
end L2
namespace Att
open PySem PySem.W PySem.Calls PyProof.Rows
theorem ints_of_wellAll {P:Params} {h:Heap}:∀ (ns:List Int) (vs:List Value),WellAll P h vs (ns.map WData.int)->IntsAre vs ns:=by
 intro ns
 induction ns with
 | nil =>
  intro vs w
  rw[List.map_nil] at w
  cases w
  exact .nil
 | cons n ns ih =>
  intro vs w
  rw[List.map_cons] at w
  cases w with
  | cons a b =>
   cases a
   exact .cons _ _ (ih _ b)
theorem script_of {l:OpenLaw} {n:Nat} (hn:l.most=some n) {P:Params} {h:Heap} {args:List WData} {vals:List Value}
  (hpre:l.row.toRowW.claim.pre args=true) (hwl:WellAll P h vals args) :
  ∃ a vs ns,vals=[Value.ref a]/\args=[WData.list (ns.map WData.int)]/\h.get? a=some {cls:=.type "list",data:=.seq vs.toArray}/\IntsAre vs ns/\ns.length<=n:=by
 have hsh:WShape.hasAll [] args [.list .int]=true:=(pre_splitW hpre).1
 have hc:l.pre.holds [] {args:=args}=true:=(pre_splitW hpre).2
 obtain⟨d,r,rfl,h1,h2⟩:=hasAllW_cons hsh
 obtain rfl:=hasAllW_nil h2
 obtain⟨xs,rfl,h3⟩:=hasW_list h1
 obtain⟨ns,rfl⟩:=items_int h3
 have hlen:ns.length<=n:=by
  unfold OpenLaw.pre at hc
  have h4:(WTm.not (.lt (.lit (.int (n:Int))) (.len (.arg 0)))).holds [] {args:=[.list (ns.map .int)]}=true:=by
   have h4:=(holds_andW hc).1
   rw[hn] at h4
   exact h4
  have h5:=condW_of h4 (w_not (w_lt w_lit (w_len_list (w_arg rfl))))
  rw[List.length_map] at h5
  refine Nat.le_of_not_lt fun q=>?_
  have q':(n:Int)<((ns.length:Nat):Int):=by omega
  first
   | (rw [decide_eq_true q'] at h5;exact absurd h5 (by decide))
   | (simp at h5;omega)
 cases hwl with
 | cons w1 w2 =>
  cases w2
  cases w1 with
  | list ho hall=>exact⟨_,_,ns,rfl,rfl,ho,ints_of_wellAll ns _ hall,hlen⟩
theorem post_true (l:OpenLaw) (args:List WData):l.row.toRowW.claim.post args (.bool true) args=true :=
 postW_of (r:=l.row.toRowW) (X:=(true==true))
  (show WShape.has [] (.bool true) .bool=true by first|rfl|decide|simp[WShape.has,WShape.arms,WShape.armsAll])
  (show (WTm.eq .res (.lit (.bool true))).value [] {args:=args,res:=some (.bool true),after:=args}=some (.bool (true==true)) from w_eq_bool (w_res rfl) w_lit) rfl
section
variable {prog:Program} {w:World} {A:Around} {E:Value->Shared->Prop} {s:Shared} {K:Frag}
end
end Att
namespace L2
open PySem PySem.Spec PyProof.Rows
theorem vals_ints:∀ {vs:List Value} {ns:List Int},IntsAre vs ns->Vals (ns.map V.int) vs
 | _,_,.nil=>.nil
 | _,_,.cons n t h=>.cons ⟨t,rfl⟩ (vals_ints h)
noncomputable def Only (H:Hp):Prop:=∀ b,H b=none\/∃ o xs,H b=some (.frz o (.lst xs))
theorem law_call {P:Program} {w:World} {K:PySem.W.Frag} {mg mb:Str->Option Value} {CX:CXT} {k:Nat} {fa a:Addr} {fd:FuncData} {x:Str} {sp:Sp} {s₁:Shared} {vs:List Value} {ns:List Int}
  (KX:K.In s₁.heap) (hns:s₁.heap.Ns mainGlobals mg) (hb:s₁.heap.Ns builtinsNs mb) (hbb:∀ x:Str,x≠"__name__"->mb x=bootBuiltins x) (hlim:s₁.heap.NoLimit) (hg:s₁.gens=#[])
  (ha:s₁.heap.get? a=some {cls:=.type "list",data:=.seq vs.toArray}) (hi:IntsAre vs ns) (hl:ns.length<=sizeLine) (hr:Room k callerA)
  (F:∀ base:Heap,K.In base->base.Ns mainGlobals mg->FnOk P w K mg base CX k fa fd [x] sp) (hbind:∀ (s:Shared) (u:Value),BindsTo s fd ⟨[u],[]⟩ [(x,u)])
  (hsp:∀ H:Hp,Only H->SqL K H a (ns.map V.int)->sp [.ref a] H (fun v _=>v=.bl true) fun _ _ _=>False)
  (hCX:∀ H e s',CX [] H s₁ (fun _ _ _=>False) e s'->False) :
  codeAny (model P w) callerA (.call (.ref fa) ⟨[.ref a],[]⟩) (fun r s'=>r=.ok (.ret (.bool true))/\OldK s₁.heap s'.heap/\s'.os=s₁.os/\AllBare s'.gens) s₁:=by
 have rv:=vals_ints hi
 have lenV:=hi.length
 have core:∀ H:Hp,Only H->SqL K H a (ns.map V.int)->HOk P w H s₁.heap->(∀ b,H b≠none->b=a)->(H a≠none->K.lookup a=none) ->
   codeAny (model P w) callerA (.call (.ref fa) ⟨[.ref a],[]⟩) (fun r s'=>r=.ok (.ret (.bool true))/\OldK s₁.heap s'.heap/\s'.os=s₁.os/\AllBare s'.gens) s₁:=by
  intro H hO hS hok hA hK
  have base_of:∀ {b:Addr} {o:Obj},s₁.heap.get? b=some o->H b=none->(hidT s₁.heap H).get? b=some o:=fun e n=>hidT_get e n
  have noA:∀ {b:Addr} {o:Obj} {es:Array DictEntry} {ep:Nat},s₁.heap.get? b=some o->o.data=.dict es ep->H b=none:=fun {b o es ep} e d=>by
   cases q:H b with
   | none=>rfl
   | some u =>
    have e':b=a:=hA b (by rw[q];simp)
    subst e'
    rw[ha] at e;cases e
    have d':Data.seq vs.toArray _=Data.dict es ep:=d
    cases d'
  have nsK:∀ {b:Addr} {m:Str->Option Value},s₁.heap.Ns b m->(hidT s₁.heap H).Ns b m:=fun {b m} ⟨o,es,ep,e,d,r⟩=>⟨o,es,ep,base_of e (noA e d),d,r⟩
  have hKb:K.In (hidT s₁.heap H):=fun b o e=>base_of (KX b o e) (by
   cases q:H b with
   | none=>rfl
   | some u =>
    have e':b=a:=hA b (by rw[q];simp)
    subst e'
    rw[hK (by rw[q];simp)] at e;cases e)
  have hM:Mod K mg (hidT s₁.heap H):=⟨hKb,nsK hns,⟨mb,nsK hb,hbb⟩,let ⟨mc,h1,h2⟩:=hlim;⟨mc,nsK h1,h2⟩⟩
  have e0:Env0 P w K mg (hidT s₁.heap H) callerA [] s₁ H:=⟨rfl,hM,fun b o e=>of_hidT e,Nat.le_of_eq (hidT_size _ _),trivial,fun b hb=>absurd (show b∈([]:List Addr) from hb) (by simp),hok,.of_eq hg⟩
  refine codeAny_mono ((F _ hKb (nsK hns)).run callerA [] s₁ H ⟨[.ref a],[]⟩ [.ref a] [.ref a] _ _ hr e0 (hbind s₁ (.ref a)) (.cons rfl .nil) (hsp H hO hS)) fun r s' h=>?_
  cases r with
  | error e=>exact (hCX H e s' h).elim
  | ok fl =>
   cases fl with
   | next=>exact False.elim h
   | brk=>exact False.elim h
   | cont=>exact False.elim h
   | ret u =>
    obtain⟨v,H',os,bare,un,hok',r',q⟩:=h
    have q':v=.bl true:=q
    subst q'
    obtain rfl:u=Value.bool true:=r'
    refine⟨rfl,OldK.of_keep fun b o e=>?_,os,bare⟩
    cases q:H b with
    | none=>exact un.keep b o e q (by intro z;exact absurd (show b∈([]:List Addr) from z) (by simp)) (by simp)
    | some u =>
     rcases hO b with z|⟨ob,xs,z⟩
     ·rw[q] at z;cases z
     ·have z2:=un.frzs b ob _ z
      obtain⟨e1,_⟩:=hok b _ z
      obtain⟨e2,_⟩:=hok' b _ z2
      rw[e] at e1;cases e1
      exact e2
 cases hk:K.lookup a with
 | some o =>
  have e:=KX a o hk
  rw[ha] at e
  cases e
  refine core (fun _=>none) (fun _=>.inl rfl) (.inr ⟨_,vs.toArray,_,hk,rfl,rfl,rfl,by rw[List.size_toArray,lenV];exact hl,by simpa using rv⟩) (fun b u z=>by have z':(none:Option HO)=some u:=z;cases z') (fun b z=>absurd rfl z) fun z=>absurd rfl z
 | none =>
  refine core (fun b=>if b=a then some (.frz {cls:=.type "list",data:=.seq vs.toArray} (.lst (ns.map V.int))) else none) (fun b=>?_) (.inl (.inr ⟨{cls:=.type "list",data:=.seq vs.toArray},if_pos rfl⟩)) (fun b u z=>?_) (fun b z=>?_) fun _=>hk
  ·by_cases hb:b=a
   ·exact .inr ⟨_,_,if_pos hb⟩
   ·exact .inl (if_neg hb)
  ·by_cases hb:b=a
   ·have z':=(if_pos hb).symm.trans z
    cases z'
    subst hb
    exact⟨ha,by rw[List.length_map];exact hl,vs,_,rv,ha⟩
   ·have z':=(if_neg hb).symm.trans z
    cases z'
  ·by_cases hb:b=a
   ·exact hb
   ·exact absurd (if_neg hb) z
end L2
namespace L2
open PySem PySem.Spec PyProof.Rows
end L2
namespace L2
open PySem PySem.Spec PyProof.Rows
noncomputable def defArgs (s:Stmt):Arguments:=match s with
 | .FunctionDef _ a _ _ _ _ _ _ _ _=>a
 | _=>{posonlyargs:=[],args:=[],vararg:=none,kwonlyargs:=[],kw_defaults:=[],kwarg:=none,defaults:=[]}
noncomputable def defBody (s:Stmt):List Stmt:=match s with
 | .FunctionDef _ _ b _ _ _ _ _ _ _=>b
 | _=>[]
noncomputable def defScope (s:Stmt):Scope:=match s with
 | .FunctionDef _ _ _ _ _ _ sc _ _ _=>sc
 | _=>{kind:=.function,names:=[],isGenerator:=false,isCoroutine:=false}
noncomputable abbrev E0:XK:=fun _ _ _=>False
structure Fun (K:PySem.W.Frag) (x qual:Str) (st:Stmt) (f:Addr) (fd:FuncData):Prop where
 ex:∃ (oc:Value) (od:Option Addr) (kV doc pm:Value) (an:Option Addr) (cdv ct:Value) (osl:Array (Option Value)),
  fd=PySem.W.fnOf x qual (defArgs st) (defBody st) (defScope st) .none kV doc pm an cdv ct/\K.lookup f=some ⟨oc,od,.func fd,osl⟩/\PySem.W.codeIn K cdv qual=true
 kp:PySem.W.keepIn K (.ref f)=true
section
variable {P:Program} {w:World} {K:PySem.W.Frag} {mg:Str->Option Value} {base:Heap}
theorem Fun.binds {x qual:Str} {st:Stmt} {f:Addr} {fd:FuncData} {ps:List Str} (F:Fun K x qual st f fd)
  (h:∀ (kV doc pm:Value) (an:Option Addr) (cdv ct:Value) (us:List Value),us.length=ps.length->bindArgs (PySem.W.fnOf x qual (defArgs st) (defBody st) (defScope st) .none kV doc pm an cdv ct) ⟨us,[]⟩=pure (ps.zip us)):Binds K fd ps []:=by
 obtain⟨oc,od,kV,doc,pm,an,cdv,ct,osl,rfl,lk,hcd⟩:=F.ex
 exact .all (h kV doc pm an cdv ct)
theorem fun_mk {x qual:Str} {st:Stmt} {f:Addr} {oc:Value} {od an:Option Addr} {osl:Array (Option Value)} {kV doc pm cdv ct:Value} (l:K.lookup f=some ⟨oc,od,.func (PySem.W.fnOf x qual (defArgs st) (defBody st) (defScope st) .none kV doc pm an cdv ct),osl⟩)
  (c:PySem.W.codeIn K cdv qual=true) (k:PySem.W.keepIn K (.ref f)=true):Fun K x qual st f (PySem.W.fnOf x qual (defArgs st) (defBody st) (defScope st) .none kV doc pm an cdv ct):=⟨⟨oc,od,kV,doc,pm,an,cdv,ct,osl,rfl,l,c⟩,k⟩
end
section
variable {X:Cx}
end
end L2
end
noncomputable section
namespace L2
open PySem PySem.Spec PyProof.Rows
section
variable {κ:Type} [DecidableEq κ]
end
section
variable {P:Program} {w:World} {H:Hp} {h:Heap} {a:Addr}
end
section
variable {X:Cx} {pins:List (Addr×Obj)} {σ:St} {H:Hp} {s:Shared} {a:Addr} {y v:V} {u r:Value} {o:Option V} {A:Around} {E:Value->Shared->Prop}
theorem Inv.big (I:Inv X pins σ H s):sysModules<s.heap.objs.size:=by
 have h:mainGlobals<s.heap.objs.size:=(I.mod.glob.keeps I.bk).lt
 exact Nat.lt_trans (by decide) h
end
section
variable {X:Cx} {pins:List (Addr×Obj)} {σ:St} {H:Hp} {s:Shared} {a:Addr} {kvs:List (Key×V)} {k:Key} {u:Value} {A:Around} {E:Value->Shared->Prop}
end
section
variable {X:Cx} {o i e value:Expr} {pos pos' tpos:Pos} {td ty tv:TE}
end
theorem dk_empty {P:Program} {w:World} {H:Hp} (h:Heap) (hb:sysModules<h.objs.size):ObjOk P w H (h.push {cls:=.type "dict",data:=.dict #[]}) h.objs.size (.dK []) :=
 ⟨Nat.zero_le _,beq_eq_false_iff_ne.mpr (Ne.symm (Nat.ne_of_lt hb)),[],.nil,Heap.DictOf.new h⟩
noncomputable def tDNewK:TE:=fun _ H Q=>∀ p,H p=none->Q (.ref p) (upd H p (.dK []))
section
variable {X:Cx} {pos:Pos}
theorem pe_dnewK:PE X (.Dict [] [] pos) tDNewK:=fun pins s σ H Q I h =>
 wpAny_Dict_empty ⟨.ref s.heap.objs.size,_,I.laid (a:=s.heap.objs.size) (o:=.dK []) (t':=s.toks) (fun _ _ q=>Heap.get?_push_of_some _ q) (Nat.le_refl _) (dk_empty s.heap I.big),rfl,h _ (I.hok.fresh (Nat.le_refl _))⟩
end
structure M1 (X:Cx) (o:Expr) (m:Str) (apos:Pos) (e:Expr) (cpos:Pos):Prop where
 base:attributeBase o m X.env (eval o X.env)=eval o X.env
 few:((backTo cpos (starEach [e] X.env)).all (fun x=>!x.1)&&(backToKw cpos (keywordEach [] X.env)).all (fun x=>x.1.isSome)
  && decide (([e]:List Expr).length+([]:List Keyword).length+(if ([]:List Keyword).isEmpty then 0 else 1)<30))=true
 line:(apos.endLine==cpos.line)=true
 trees:backTo cpos (starEach [e] X.env)=[(false,eval e X.env)]
structure M2 (X:Cx) (o:Expr) (m:Str) (apos:Pos) (e f:Expr) (cpos:Pos):Prop where
 base:attributeBase o m X.env (eval o X.env)=eval o X.env
 few:((backTo cpos (starEach [e,f] X.env)).all (fun x=>!x.1)&&(backToKw cpos (keywordEach [] X.env)).all (fun x=>x.1.isSome)
  && decide (([e,f]:List Expr).length+([]:List Keyword).length+(if ([]:List Keyword).isEmpty then 0 else 1)<30))=true
 line:(apos.endLine==cpos.line)=true
 trees:backTo cpos (starEach [e,f] X.env)=[(false,eval e X.env),(false,eval f X.env)]
section
variable {X:Cx} {pins:List (Addr×Obj)} {σ:St} {H:Hp} {s:Shared} {a:Addr} {y d:V} {u r:Value} {o:Option V} {A:Around} {E:Value->Shared->Prop}
end
section
variable {X:Cx} {o e f:Expr} {apos cpos:Pos} {td ty tx:TE}
end
section
variable {X:Cx} {pins:List (Addr×Obj)} {σ:St} {H:Hp} {s:Shared} {a:Addr} {kvs:List (Key×V)} {A:Around} {E:Value->Shared->Prop}
end
section
variable {X:Cx} {pins:List (Addr×Obj)} {σ:St} {H:Hp} {s:Shared} {a:Addr} {y:V} {u:Value} {A:Around} {E:Value->Shared->Prop}
end
end L2
end
noncomputable section
theorem nfx {P:Prop} (h:false=true):P:=absurd h Bool.false_ne_true
namespace DL
open PySem PySem.Spec PyProof.Rows L2
theorem dict_mapFields (o:Obj) (f):(o.mapFields f).dict=o.dict:=by obtain⟨c,d,dt,sl⟩:=o;cases dt<;>rfl
noncomputable def Clean (h:Heap) (b:Addr):Prop:=∃ o vs,h.get? b=some o/\o.data=.fields vs/\vs[2]?=some .none
noncomputable def Near (h h':Heap):Prop:=h.UpToSlots h'/\(∀ b o,h.get? b=some o->∃ o',h'.get? b=some o')/\∀ b,Clean h b->Clean h' b
theorem clean_upd {h:Heap} {b T:Addr} {oT:Obj} {ts:Array Value} {k:Nat} {v:Value} (hk:k≠2) (q:h.get? T=some oT) (dt:oT.data=.fields ts) (c:Clean h b):Clean (h.update T (Obj.mapFields (·.setIfInBounds k v))) b:=by
 obtain⟨o,vs,q1,q2,q3⟩:=c
 by_cases z:b=T
 ·subst z
  rw[q] at q1;cases q1
  rw[dt] at q2;cases q2
  exact⟨_,_,Heap.get?_update_self _ q (Obj.isFreed_of_fields (Obj.data_mapFields dt _)),Obj.data_mapFields dt _,by rw[Array.getElem?_setIfInBounds_ne hk];exact q3⟩
 ·exact⟨o,vs,by rw[Heap.get?_update_other _ _ (Ne.symm z)];exact q1,q2,q3⟩
theorem Near.trans {h h1 h2:Heap} (a:Near h h1) (b:Near h1 h2):Near h h2:=⟨a.1.trans b.1,fun c o q=>let ⟨_,q1⟩:=a.2.1 c o q;b.2.1 c _ q1,fun c q=>b.2.2 c (a.2.2 c q)⟩
theorem Near.kept {h h':Heap} (k:∀ b o,h.get? b=some o->h'.get? b=some o):Near h h':=⟨.of_keeps k,fun b o q=>⟨o,k b o q⟩,fun b ⟨o,vs,q,r⟩=>⟨o,vs,k b o q,r⟩⟩
structure Flies (B:Heap) (l:List Env) (e:Addr) (cls:Value) (dd:Option Addr) (fl:Value) (h:Heap):Prop where
 stays:B.StaysIn h
 new:B.get? e=none
 frames:h.FunFrames B l
 tr:∃ oe vs T oT ts,h.get? e=some oe/\oe.cls=cls/\oe.dict=dd/\oe.data=.fields vs/\vs[1]?=some (.ref T)/\B.get? T=none/\T≠e/\h.get? T=some oT/\oT.data=.fields ts/\ts[3]?=some fl
section
variable {M:Model} {A:Around} {Z:Value->Shared->Prop} {s:Shared} {B:Heap} {env:Env} {outer:List Env} {L e:Addr} {Q:Unit->Shared->Prop}
theorem fly_entry {oe:Obj} {vs:Array Value} {head:Value} {hn:Bool} (fr:A.frames=some (env::outer)) (ff:s.heap.FunFrames B (env::outer)) (fl:env.frame=some L)
  (at_:s.heap.get? e=some oe) (st:B.StaysIn s.heap) (nw:B.get? e=none) (dt:oe.data=.fields vs) (sz:1<vs.size)
  (go:∀ h',Flies B (env::outer) e oe.cls oe.dict (rawInt L) h'->Near s.heap h'->Q () {s with heap:=h'}) :
  wpAny M A (do let x <- frameOf env;let y <- entryPlaceOf L hn;let z <- EntryCells.newEntry head x .none (rawInt L) .none y;setField (.ref e) 1 z) Q Z s:=by
 have nfr:e ∉ (env::outer).filterMap (·.frame):=fun z=>by
  obtain⟨_,o,q,r⟩:=ff.mem z
  rw[at_] at q;cases q;exact r vs dt
 refine wpAny_bind (wpAny_frameOf_fun fr ff fl fun g sl=>wpAny_bind (wpAny_entryPlaceOf fun pl ok=>?_))
 unfold EntryCells.newEntry newFields
 refine wpAny_bind (wpAny_newObj_type ?_ (ok.sizeOk5 _ _ _ _ _))
 generalize hO:({cls:=.type "traceback",dict:=none,data:=.fields ([head,.ref L,.none,rawInt L,.none]++(if pl.isEmpty then List.replicate 6 Value.none else pl)).toArray}:Obj)=ob
 have ge:g.get? e=some oe:=(sl.2.1 e nfr).trans at_
 have gB:B.StaysIn g:=fun b o q=>(sl.2.1 b fun z=>by rw[(ff.mem z).1] at q;cases q).trans (st b o q)
 have ge':(g.push ob).get? e=some oe:=Heap.get?_push_of_some _ ge
 have obf:ob.isFreed=false:=by subst hO;rfl
 have gT:(g.push ob).get? g.objs.size=some ob:=Heap.get?_push_size g obf
 have Te:g.objs.size≠e:=Nat.ne_of_gt (Heap.lt_size ge)
 refine wpAny_setField ge' dt sz ?_
 have d3:=Obj.data_mapFields dt (·.setIfInBounds 1 (Value.ref g.objs.size))
 have e3:=Heap.get?_update_self (Obj.mapFields (·.setIfInBounds 1 (Value.ref g.objs.size))) ge' (Obj.isFreed_of_fields d3)
 have oth:∀ b o,b≠e->g.get? b=some o->((g.push ob).update e (Obj.mapFields (·.setIfInBounds 1 (Value.ref g.objs.size)))).get? b=some o:=fun b o n q=>by
  rw[Heap.get?_update_other _ _ (Ne.symm n)];exact Heap.get?_push_of_some _ q
 have nrec:∀ b o,s.heap.get? b=some o->(∀ ws,o.data≠.fields ws)->b≠e:=fun b o q r z=>by
  rw[z,at_] at q;cases q;exact r vs dt
 refine go _ ⟨fun b o q=>oth b o (fun z=>by rw[z,nw] at q;cases q) (gB b o q),nw,ff.of_keeps fun b o q r=>?_,?_⟩ ⟨fun b o q r=>?_,fun b o q=>?_,fun b c=>?_⟩
 ·obtain⟨x,y⟩:=sl.2.2 b o q
  exact⟨_,oth b _ (nrec b o q r) y,rfl⟩
 ·refine⟨_,_,g.objs.size,ob,_,e3,Obj.cls_mapFields _ _,dict_mapFields _ _,d3,by simp[sz],gB.fresh,Te,?_,by subst hO;rfl,?_⟩
  ·rw[Heap.get?_update_other _ _ (Ne.symm Te)];exact gT
  ·simp
 ·obtain⟨x,y⟩:=sl.2.2 b o q
  exact⟨x,oth b _ (nrec b o q r) y⟩
 ·by_cases z:b=e
  ·subst z;exact⟨_,e3⟩
  ·obtain⟨x,y⟩:=sl.2.2 b o q
   exact⟨_,oth b _ z y⟩
 ·obtain⟨o,ws,q1,q2,q3⟩:=c
  have nb:b ∉ (env::outer).filterMap (·.frame):=fun z=>by
   obtain⟨_,o',q,r⟩:=ff.mem z
   rw[q1] at q;cases q;exact r ws q2
  exact clean_upd (by decide) ge' dt ⟨o,ws,Heap.get?_push_of_some _ ((sl.2.1 b nb).trans q1),q2,q3⟩
theorem fly_note0 {oe:Obj} {vs:Array Value} (fr:A.frames=some (env::outer)) (ff:s.heap.FunFrames B (env::outer)) (fl:env.frame=some L)
  (at_:s.heap.get? e=some oe) (st:B.StaysIn s.heap) (nw:B.get? e=none) (dt:oe.data=.fields vs) (v1:vs[1]?=some .none)
  (go:∀ h',Flies B (env::outer) e oe.cls oe.dict (rawInt L) h'->Near s.heap h'->Q () {s with heap:=h'}):wpAny M A (noteFrame (.ref e) env) Q Z s:=by
 unfold noteFrame
 simp only[fl]
 refine wpAny_bind (wpAny_field at_ dt v1 ?_)
 rw[if_neg (by decide)]
 exact fly_entry fr ff fl at_ st nw dt (Array.getElem?_eq_some_iff.mp v1).1 go
theorem fly_note {cls:Value} {dd:Option Addr} (fr:A.frames=some (env::outer)) (fl:env.frame=some L) (F:Flies B (env::outer) e cls dd .none s.heap)
  (go:∀ h',Flies B (env::outer) e cls dd (rawInt L) h'->Near s.heap h'->Q () {s with heap:=h'}):wpAny M A (noteFrame (.ref e) env) Q Z s:=by
 obtain⟨st,nw,ff,oe,vs,T,oT,ts,q1,rfl,rfl,q4,q5,q6,q7,q8,q9,q10⟩:=F
 unfold noteFrame
 simp only[fl]
 refine wpAny_bind (wpAny_field q1 q4 q5 ?_)
 rw[if_pos (show (Value.ref T != Value.none)=true from by simp)]
 refine wpAny_bind (wpAny_field q8 q9 q10 ?_)
 rw[if_neg (show ¬ ((Value.none==rawInt L)=true) from by simp[rawInt])]
 refine wpAny_bind (wpAny_setField q8 q9 (Array.getElem?_eq_some_iff.mp q10).1 ?_)
 have oth:∀ b,b≠T->(s.heap.update T (Obj.mapFields (·.setIfInBounds 3 Value.none))).get? b=s.heap.get? b:=fun b n=>Heap.get?_update_other _ _ (Ne.symm n)
 have nrec:∀ b o,s.heap.get? b=some o->(∀ ws,o.data≠.fields ws)->b≠T:=fun b o q r z=>by
  rw[z,q8] at q;cases q;exact r ts q9
 refine fly_entry (s:={s with heap:=s.heap.update T (Obj.mapFields (·.setIfInBounds 3 Value.none))}) fr (ff.of_keeps fun b o q r=>⟨o,(oth b (nrec b o q r)).trans q,rfl⟩) fl ((oth e (Ne.symm q7)).trans q1) (fun b o q=>(oth b fun z=>by rw[z,q6] at q;cases q).trans (st b o q)) nw q4 (Array.getElem?_eq_some_iff.mp q5).1 fun h' x y=>?_
 refine go h' x ⟨fun b o q r=>y.1 b o ((oth b (nrec b o q r)).trans q) r,fun b o q=>?_,fun b c=>y.2.2 b (clean_upd (by decide) q8 q9 c)⟩
 by_cases z:b=T
 ·subst z;exact y.2.1 _ _ (Heap.get?_update_self _ q8 (Obj.isFreed_of_fields (Obj.data_mapFields q9 _)))
 ·exact y.2.1 b o ((oth b z).trans q)
theorem fly_land {l:List Env} {cls fl:Value} {dd:Option Addr} (F:Flies B l e cls dd fl s.heap)
  (go:∀ h',Flies B l e cls dd .none h'->Near s.heap h'->Q () {s with heap:=h'}):wpAny M A (setFlight (.ref e) none) Q Z s:=by
 obtain⟨st,nw,ff,oe,vs,T,oT,ts,q1,q2,q3,q4,q5,q6,q7,q8,q9,q10⟩:=F
 have sz:=(Array.getElem?_eq_some_iff.mp q10).1
 have oth:∀ b,b≠T->(s.heap.update T (Obj.mapFields (·.setIfInBounds 3 ((none:Option Addr).elim Value.none fun f=>rawInt f)))).get? b=s.heap.get? b:=fun b n=>Heap.get?_update_other _ _ (Ne.symm n)
 have nrec:∀ b o,s.heap.get? b=some o->(∀ ws,o.data≠.fields ws)->b≠T:=fun b o q r z=>by
  rw[z,q8] at q;cases q;exact r ts q9
 unfold setFlight
 refine wpAny_bind (wpAny_field q1 q4 q5 ?_)
 rw[if_pos (show (Value.ref T != Value.none)=true from by simp)]
 refine wpAny_setField q8 q9 sz (go _ ⟨fun b o q=>(oth b fun z=>by rw[z,q6] at q;cases q).trans (st b o q),nw,ff.of_keeps fun b o q r=>⟨o,(oth b (nrec b o q r)).trans q,rfl⟩,?_⟩ ⟨fun b o q r=>⟨o.slots,(oth b (nrec b o q r)).trans q⟩,fun b o q=>?_,fun b c=>clean_upd (by decide) q8 q9 c⟩)
 rotate_left
 ·by_cases z:b=T
  ·subst z;exact⟨_,Heap.get?_update_self _ q8 (Obj.isFreed_of_fields (Obj.data_mapFields q9 _))⟩
  ·exact⟨o,(oth b z).trans q⟩
 exact⟨oe,vs,T,_,_,(oth e (Ne.symm q7)).trans q1,q2,q3,q4,q5,q6,q7,Heap.get?_update_self _ q8 (Obj.isFreed_of_fields (Obj.data_mapFields q9 _)),Obj.data_mapFields q9 _,by simp[sz]⟩
theorem fly_back {l:List Env} {cls fl:Value} {dd:Option Addr} (F:Flies B l e cls dd fl s.heap)
  (go:∀ h',Flies B l e cls dd (rawInt L) h'->Near s.heap h'->Q () {s with heap:=h'}):wpAny M A (setFlight (.ref e) (some L)) Q Z s:=by
 obtain⟨st,nw,ff,oe,vs,T,oT,ts,q1,q2,q3,q4,q5,q6,q7,q8,q9,q10⟩:=F
 have sz:=(Array.getElem?_eq_some_iff.mp q10).1
 have oth:∀ b,b≠T->(s.heap.update T (Obj.mapFields (·.setIfInBounds 3 ((some L:Option Addr).elim Value.none fun f=>rawInt f)))).get? b=s.heap.get? b:=fun b n=>Heap.get?_update_other _ _ (Ne.symm n)
 have nrec:∀ b o,s.heap.get? b=some o->(∀ ws,o.data≠.fields ws)->b≠T:=fun b o q r z=>by
  rw[z,q8] at q;cases q;exact r ts q9
 unfold setFlight
 refine wpAny_bind (wpAny_field q1 q4 q5 ?_)
 rw[if_pos (show (Value.ref T != Value.none)=true from by simp)]
 refine wpAny_setField q8 q9 sz (go _ ⟨fun b o q=>(oth b fun z=>by rw[z,q6] at q;cases q).trans (st b o q),nw,ff.of_keeps fun b o q r=>⟨o,(oth b (nrec b o q r)).trans q,rfl⟩,?_⟩ ⟨fun b o q r=>⟨o.slots,(oth b (nrec b o q r)).trans q⟩,fun b o q=>?_,fun b c=>clean_upd (by decide) q8 q9 c⟩)
 rotate_left
 ·by_cases z:b=T
  ·subst z;exact⟨_,Heap.get?_update_self _ q8 (Obj.isFreed_of_fields (Obj.data_mapFields q9 _))⟩
  ·exact⟨o,(oth b z).trans q⟩
 exact⟨oe,vs,T,_,_,(oth e (Ne.symm q7)).trans q1,q2,q3,q4,q5,q6,q7,Heap.get?_update_self _ q8 (Obj.isFreed_of_fields (Obj.data_mapFields q9 _)),Obj.data_mapFields q9 _,by simp[sz]⟩
theorem Flies.off {cls fl:Value} {dd:Option Addr} {h:Heap} (F:Flies B (env::outer) e cls dd fl h):Flies B outer e cls dd fl h:=⟨F.stays,F.new,F.frames.2.2,F.tr⟩
theorem fly_leave {cls:Value} {dd:Option Addr} (fr:A.frames=some (env::outer)) (fl:env.frame=some L) (F:Flies B (env::outer) e cls dd .none s.heap)
  (go:∀ h',Flies B outer e cls dd .none h'->Near s.heap h'->Q () {s with heap:=h'}):wpAny M A (leaving env (.ref e)) Q Z s:=by
 unfold leaving
 exact wpAny_bind (fly_note fr fl F fun h1 F1 u1=>fly_land F1 fun h2 F2 u2=>go h2 F2.off (u1.trans u2))
theorem fly_leaveL {cls:Value} {dd:Option Addr} (fl:env.frame=some L) (F:Flies B (env::outer) e cls dd (rawInt L) s.heap)
  (go:∀ h',Flies B outer e cls dd .none h'->Near s.heap h'->Q () {s with heap:=h'}):wpAny M A (leaving env (.ref e)) Q Z s:=by
 unfold leaving
 refine wpAny_bind ?_
 obtain⟨oe,vs,T,oT,ts,q1,q2,q3,q4,q5,q6,q7,q8,q9,q10⟩:=F.tr
 unfold noteFrame
 simp only[fl]
 refine wpAny_bind (wpAny_field q1 q4 q5 ?_)
 rw[if_pos (show (Value.ref T != Value.none)=true from by simp)]
 refine wpAny_bind (wpAny_field q8 q9 q10 ?_)
 rw[if_pos (show (rawInt L==rawInt L)=true from by simp)]
 exact wpAny_pure (fly_land F fun h2 F2 u2=>go h2 F2.off u2)
structure Made (h h':Heap) (e:Addr) (cls:Value) (dd:Option Addr):Prop where
 keeps:∀ b o,h.get? b=some o->h'.get? b=some o
 new:h.get? e=none
 at_:∃ oe vs,h'.get? e=some oe/\oe.cls=cls/\oe.dict=dd/\oe.data=.fields vs/\vs[1]?=some .none
theorem Made.fresh {cls:Value} {dd:Option Addr} {h h':Heap} (mk:Made h h' e cls dd) (st:B.StaysIn h):B.get? e=none:=by
 cases q:B.get? e with
 | none=>rfl
 | some o=>have:=st e o q;rw[mk.new] at this;cases this
theorem fly_leave0 {cls:Value} {dd:Option Addr} {h:Heap} (fr:A.frames=some (env::outer)) (fl:env.frame=some L) (ff:h.FunFrames B (env::outer)) (st:B.StaysIn h) (mk:Made h s.heap e cls dd)
  (go:∀ h',Flies B outer e cls dd .none h'->Near s.heap h'->Q () {s with heap:=h'}):wpAny M A (leaving env (.ref e)) Q Z s:=by
 obtain⟨oe,vs,q1,rfl,rfl,q4,q5⟩:=mk.at_
 unfold leaving
 exact wpAny_bind (fly_note0 fr (ff.of_keeps fun b o q _=>⟨o,mk.keeps b o q,rfl⟩) fl q1 (fun b o q=>mk.keeps b o (st b o q)) (mk.fresh st) q4 q5 fun h1 F1 u1=>fly_land F1 fun h2 F2 u2=>go h2 F2.off (u1.trans u2))
end
end DL
end
noncomputable section
namespace DL
open PySem PySem.Spec PyProof.Rows L2 PySem.W
section
variable {prog:Program} {w:World} {A:Around} {Z:Value->Shared->Prop} {s:Shared} {K:PySem.W.Frag} {x D:Addr} {ox:Obj} {od:Option Obj} {name:Str}
structure ExcCls (K:PySem.W.Frag) (D:Addr):Prop where
 ga:findIn K (.ref D) "__getattribute__"=some (some (.builtin "BaseException.__getattribute__"))
 hook:findIn K (.ref D) "__getattr__"=some none
 base:mroIn K D (.type "BaseException")=some true
 obj:mroIn K D (.type "object")=some true
 cls:(clsIn K D).isSome=true
 ca:findIn K (.ref D) "__class__"=some (some (.builtin "object.__class__"))
 cg:specialIn K (.builtin "object.__class__") "__get__"=some (some (.builtin "getset_descriptor.__get__"))
 ct:takesIn K (.builtin "object.__class__")=some true
theorem exc_check {M:Model} {nameV:Value} {Q:Unit->Shared->Prop} (L4:Looks M s.heap (isInstance (.ref x) (.type "BaseException")) true) (hq:Q () s):wpAny M A (checkBuiltinCall "BaseException.__getattribute__" ⟨[.ref x,nameV],[]⟩) Q Z s:=by
 obtain⟨hh,g,d,t,os⟩:=s
 have hk:builtinKind "BaseException.__getattribute__"=some .slot:=by decide +kernel
 have hsplit:splitId "BaseException.__getattribute__"=some ("BaseException","__getattribute__"):=by decide +kernel
 have ha:=PySem.F.args_bexc_ga (.ref x) nameV
 simp only[checkBuiltinCall,hk,hsplit]
 refine wpAny_bind (L4.at ?_)
 repeat (first|assumption|wp_step)
theorem exc_attr {Q:Value->Shared->Prop} {fill expr:Bool} {tk:Tok} (X:K.In s.heap) (I:InstAt s.heap x ox D od) (F:ExcCls K D)
  (h:wpAny (model prog w) A.in1 (Builtin.«object.__getattribute__» ⟨[.ref x,.str name tk],[]⟩)
   (fun fin s'=>match fin with | .done (.ret v)=>wpAny (model prog w) A (handedOut v) Q (fun _ _=>False) s' | _=>False) (fun _ _=>False) s) :
  wpAny (model prog w) A (getAttrBy (.ref x) (.str name tk) fill expr) Q Z s:=by
 obtain⟨hh,g,d,t,os⟩:=s
 have L0:=I.type (M:=model prog w)
 have L1:=looks_findIn (M:=model prog w) X F.ga
 have L2:=looks_findIn (M:=model prog w) X F.hook
 have L3:=looks_mroIn (M:=model prog w) X F.base
 have hx2:(Value.builtin "BaseException.__getattribute__" == Value.builtin "object.__getattribute__")=false:=by decide +kernel
 have tf:typeOf (.builtin "BaseException.__getattribute__")=pure (.type "wrapper_descriptor"):=by kernel_rfl
 unfold getAttrBy
 refine wpAny_holding (wpAny_bind (L0.at (wpAny_bind (L1.at ?_))))
 dsimp only
 rw[if_neg (by rw[hx2];simp)]
 unfold getAttrByItsOwn hookBefore
 rw[if_pos (show onTheHeap (Value.ref D)=true from rfl)]
 refine wpAny_bind (L2.at ?_)
 unfold callGetattribute
 rw[show (expr&&onTheHeap (Value.builtin "BaseException.__getattribute__"))=false from Bool.and_false _,if_neg (by simp)]
 refine wpAny_bind (wpAny_attempt (wpAny_holding ?_))
 unfold boundAndCalled bindSpecial
 rw[tf]
 refine wpAny_bind (wpAny_bind (wpAny_pure ?_))
 rw[if_pos (by decide)]
 refine wpAny_pure (wpAny_call (codeAny_call_builtin ?pl PySem.F.entry_bexc_ga ?ck))
 case pl=>exact PySem.F.excAttr_ValueError.ga.plain
 case ck =>
  refine exc_check (L0.andThen L3) (wpAny_mono h (fun fin s' z=>?_) fun _ _ z=>z.elim)
  rcases fin with (_|_|_|_)|_<;>first|exact z.elim|exact wpAny_mono z (fun v s'' hv=>hv) fun _ _ z=>z.elim
theorem exc_find_class (c:(clsIn K D).isSome=true) (F:ExcCls K D):findObj K D od "__class__"=some (.bind (.builtin "getset_descriptor.__get__") (.builtin "object.__class__")):=by
 obtain⟨cd,hc⟩:=Option.isSome_iff_exists.mp c
 unfold findObj
 rw[hc,Option.bind_some,F.ca,Option.bind_some]
 simp[F.cg,F.ct]
theorem exc_class {Q:Option Value->Shared->Prop} (X:K.In s.heap) (I:InstAt s.heap x ox D od) (F:ExcCls K D) (h:Q (some (.ref D)) {s with toks:=s.toks+1}):wpAny (model prog w) A (getAttr? (.ref x) "__class__") Q Z s:=by
 unfold getAttr? getAttrBy?
 refine wpAny_bind (wpAny_mkText (wpAny_bind (wpAny_attempt (exc_attr (s:={s with toks:=s.toks+1}) X I F ?_))))
 obtain⟨hh,g,d,t,os⟩:=s
 have L0:=I.type (M:=model prog w)
 have L1:=looks_find (M:=model prog w) X I (exc_find_class F.cls F)
 unfold Builtin.«object.__getattribute__»
 refine wpAny_bind (wpAny_pure (wpAny_bind ?_))
 show wpAny _ _ (pure _) _ _ _
 refine wpAny_pure (wpAny_bind (L0.at (wpAny_bind (L1.at ?_))))
 dsimp only
 unfold Builtin.ObjectAttr.bindTo
 refine wpAny_bind (wpAny_holding (wpAny_call (class_get (s:=⟨hh,g,d,t+1,os⟩) X I F.obj ?_)))
 refine wpAny_pure ?_
 show wpAny _ _ (handedOut (.ref D)) _ _ _
 refine wpAny_pure (wpAny_pure ?_)
 exact h
set_option tactic.hygienic true
theorem kitx_exc (F:ExcCls K D):KitX K (.ref x) (.ref D) (fun h=>∃ ox od,InstAt h x ox D od) where
 ty:=fun _ _ _ ⟨_,_,I⟩=>I.type
 it:=fun M h X _=>by
  obtain⟨cd,hc⟩:=Option.isSome_iff_exists.mp F.cls
  unfold clsIn at hc
  split at hc
  ·rename_i ho
   intro A' Q' E' s' k q
   unfold isType loadHead
   exact wpAny_bind (wpAny_loadPart (k _ _ (X _ _ ho)) (wpAny_pure q))
  ·cases hc
 ne:=fun h tp dd its n sl X htp=>by
  obtain⟨cd,hc⟩:=Option.isSome_iff_exists.mp F.cls
  refine Bool.eq_false_iff.mpr fun q=>?_
  obtain rfl:D=tp:=Value.ref.inj (beq_iff_eq.mp q)
  unfold clsIn at hc
  split at hc
  ·rename_i ho
   have z:=(X _ _ ho).symm.trans htp
   cases z
  ·cases hc
 ca:=fun X ⟨_,_,I⟩ k=>exc_class X I F k
end
set_option tactic.hygienic false
noncomputable def xPlain:List Str:=["NoNumber","NoTube","NoRow","NoMeasure","NoData","NoPrice","NoNeeds","NoRoom","NoJobs"]
noncomputable def xInit:List Str:=["NoText","NoLevel","NoCall","NoKept"]
noncomputable def xNames:List Str:="CordError" :: (xPlain++xInit)
noncomputable def isSub (n c:Str):Bool:=decide (n=c) || decide (c="CordError")
noncomputable def bmV:List Value:=[.type "ValueError",.type "Exception",.type "BaseException",.type "object"]
noncomputable def clsAt (K:PySem.W.Frag) (n:Str):Option Addr:=match nsIn K mainGlobals n with|some (some (.ref C))=>some C|_=>none
noncomputable def excClsB (K:PySem.W.Frag) (D:Addr):Bool :=
 (findIn K (.ref D) "__getattribute__" == some (some (.builtin "BaseException.__getattribute__")))&&(findIn K (.ref D) "__getattr__" == some none)&&(mroIn K D (.type "BaseException")==some true)&&(mroIn K D (.type "object")==some true)&&(clsIn K D).isSome
 && (findIn K (.ref D) "__class__" == some (some (.builtin "object.__class__")))&&(specialIn K (.builtin "object.__class__") "__get__" == some (some (.builtin "getset_descriptor.__get__")))&&(takesIn K (.builtin "object.__class__")==some true)
noncomputable def xTab0 (K:PySem.W.Frag):Bool:=xNames.all fun n=>match clsAt K n with
 | none=>true
 | some D=>excClsB K D&&(!(xPlain.contains n) || excIn K D bmV "ValueError.__new__")&&(kitOne K (.ref D) (.type "ValueError")==some true)&&(["int","bool","str","tuple","list","dict"].all fun T=>kitOne K (.ref D) (.type T)==some false)&&xNames.all fun c=>match clsAt K c with
  | none=>true
  | some C=>(exmOne K (.ref D) (.ref C)==some (isSub n c))&&(kitOne K (.ref D) (.ref C)==some (isSub n c))
noncomputable def oNames:List Str:=["Funnel"]
noncomputable def oFields:List Str:=["places","touches","showing"]
noncomputable def oTabB (K:PySem.W.Frag):Bool:=oNames.all fun n=>match clsAt K n with
 | none=>true
 | some C=>plainGet K C Str.empty&&hasDictIn K C&&plainOver K C&&(findIn K (.ref C) "__setattr__" == some (some (.builtin "object.__setattr__")))&&oFields.all fun f=>findIn K (.ref C) f==some none
noncomputable def ClsOf (K:PySem.W.Frag) (n:Str) (C:Addr):Prop:=nsIn K mainGlobals n=some (some (.ref C))
section
variable {K:PySem.W.Frag} {n c:Str} {C D:Addr}
theorem clsAt_of (h:ClsOf K n D):clsAt K n=some D:=by unfold clsAt;rw[show nsIn K mainGlobals n=some (some (.ref D)) from h]
end
end DL
end
noncomputable section
namespace DL
open PySem PySem.Spec PyProof.Rows L2 PySem.W PySem.Builtin PySem.Builtin.ObjectAttr
section
variable {prog:Program} {w:World} {A:Around} {E:Value->Shared->Prop} {h:Heap} {g:Array GenState} {d:Drawn} {t:Nat} {os:OsState}
variable {nm q:Str} {C N:Addr} {bs bm bmB bmN:List Value} {hdct:Bool} {sn:List Str} {sub:List Value} {ab:Bool} {col:Option Bool} {dd:Option Addr} {k0 k1 k2 k3 k5:Option Value} {B Bn newId nid initId inN:String}
theorem type_call_initU (Fn:ExcBaseFacts Bn newId inN bmN) (hBn:bmB.contains (.type Bn)=true) (F:ExcBaseFacts B nid initId bmB) (T:OwnTail h bmB bm) {mN:Str->Option Value} {rest:List Value} {fI:Addr} {oI:Obj} {Q:Fin->Shared->Prop}
  (hC:h.get? C=some (excClassObj nm q C N bs bm hdct sn sub ab col dd k0 k1 k2 k3 k5 newId)) (hn:h.Ns N mN) (hi:mN "__init__"=some (.ref fI)) (hfI:h.get? fI=some oI) (hfc:oI.cls=.type "function")
  (hq:∀ h' e,Heap.MadeExcOf h h' e (.ref C) rest->wpAny (model prog w) A (call (.ref fI) (.ref e::rest)) (fun r s'=>r=.none/\Q (.done (.ret (.ref e))) s') E ⟨h',g,d,t,os⟩) (hrest:rest.length<=sizeLine) :
  wpAny (model prog w) A (Builtin.«type.__call__» ⟨.ref C::rest,[]⟩) Q E ⟨h,g,d,t,os⟩:=by
 repeat (first|with_reducible refine wpAny_loadPart_at hC ?_|with_reducible refine wpAny_madeBy_exc hC ?_|wp_step)
 refine codeAny_call_builtin_code (Code.quiet_builtin _ Fn.quiet) (wpAny_check_new_subU Fn hBn T hC ?_)
 refine codeAny_exc_new_subU Fn hBn F T hC ?_ hrest
 show wpAny _ _ _ _ _ _
 have hC₁:=Heap.get?_push_of_some {cls:=.ref C,data:=.fields #[.ref h.objs.size,.none,.none,.none,.bool false,.none]}
  (Heap.get?_push_of_some {cls:=.type "tuple",data:=.seq rest.toArray} hC)
 have hfI₁:=Heap.get?_push_of_some {cls:=.ref C,data:=.fields #[.ref h.objs.size,.none,.none,.none,.bool false,.none]}
  (Heap.get?_push_of_some {cls:=.type "tuple",data:=.seq rest.toArray} hfI)
 have hn₁:((h.push {cls:=.type "tuple",data:=.seq rest.toArray}).push {cls:=.ref C,data:=.fields #[.ref h.objs.size,.none,.none,.none,.bool false,.none]}).Ns N mN :=
  let ⟨o,es,ep,e,r⟩:=hn;⟨o,es,ep,Heap.get?_push_of_some _ (Heap.get?_push_of_some _ e),r⟩
 have hget:((h.push {cls:=.type "tuple",data:=.seq rest.toArray}).push
   {cls:=.ref C,data:=.fields #[.ref h.objs.size,.none,.none,.none,.bool false,.none]}).get? (h.objs.size+1)=some
   {cls:=.ref C,data:=.fields #[.ref h.objs.size,.none,.none,.none,.bool false,.none]}:=by heap_get
 have hcC:(Value.ref C::bm).contains (.ref C)=true:=by simp
 have T₁:=T.keeps (h':=(h.push {cls:=.type "tuple",data:=.seq rest.toArray}).push {cls:=.ref C,data:=.fields #[.ref h.objs.size,.none,.none,.none,.bool false,.none]})
  fun b o e=>Heap.get?_push_of_some _ (Heap.get?_push_of_some _ e)
 unfold isInstance
 repeat (first|with_reducible refine wpAny_loadPart_at hget ?_|(with_reducible refine wpAny_isSubtype_exc hC₁ ?_;rw[hcC])|wp_step)
 show wpAny _ _ (typeLookup (.ref C) _) _ _ _
 refine wpAny_typeLookup_tail hC₁ hn₁ T₁ F.mroIs F.init.lookup ?_
 rw[hi]
 refine wpAny_holding (wpAny_bind ?_)
 unfold bindSpecial
 refine wpAny_bind (wpAny_typeOf (T:="function") ⟨_,hfI₁,hfc⟩ ?_)
 rw[if_pos (by decide)]
 refine wpAny_pure (wpAny_bind (wpAny_mono (hq _ (h.objs.size+1) ⟨fun b o hb=>Heap.get?_push_of_some _ (Heap.get?_push_of_some _ hb),Heap.get?_none_of_le (Nat.le_succ _),h.objs.size,hget,Heap.get?_none_of_le (Nat.le_refl _),?_⟩) (fun r s' hr=>?_) fun _ _ x=>x))
 ·exact Heap.get?_push_of_some _ (Heap.get?_push_at rfl rfl)
 ·obtain⟨rfl,hQ⟩:=hr
  wp_walk
  exact hQ
theorem call_exc_initU (Fn:ExcBaseFacts Bn newId inN bmN) (hBn:bmB.contains (.type Bn)=true) (F:ExcBaseFacts B nid initId bmB) (T:OwnTail h bmB bm) {mN:Str->Option Value} {rest:List Value} {fI:Addr} {oI:Obj} {Q:Value->Shared->Prop}
  (hC:h.get? C=some (excClassObj nm q C N bs bm hdct sn sub ab col dd k0 k1 k2 k3 k5 newId)) (hn:h.Ns N mN) (hi:mN "__init__"=some (.ref fI)) (hfI:h.get? fI=some oI) (hfc:oI.cls=.type "function")
  (hq:∀ h' e,Heap.MadeExcOf h h' e (.ref C) rest->wpAny (model prog w) (A.under (.builtin "type.__call__" ⟨.ref C::rest,[]⟩)) (call (.ref fI) (.ref e::rest)) (fun r s'=>r=.none/\Q (.ref e) s') E ⟨h',g,d,t,os⟩) (hrest:rest.length<=sizeLine) :
  wpAny (model prog w) A (call (.ref C) rest) Q E ⟨h,g,d,t,os⟩:=by
 have f1:=tc_lookup
 have f2:=tc_bind (.ref C)
 have hT:(⟨h,g,d,t,os⟩:Shared).TypeIs (.ref C) "type":=⟨_,hC,rfl⟩
 refine wpAny_call (codeAny_of_tree ?_)
 show wpAny _ _ (callAny (.ref C) _) _ _ _
 repeat (any_goals (first|assumption|with_reducible refine wpAny_loadPart_at hC ?_|wp_step))
 refine⟨rfl,?_⟩
 exact codeAny_call_builtin_at (Code.quiet_builtin _ (by decide +kernel)) entry_typeCall (wpAny_check_type_call_sub hC (type_call_initU Fn hBn F T hC hn hi hfI hfc (fun h' e hm=>hq h' e hm) hrest))
theorem init_own (F:ExcBaseFacts B nid initId bmB) (T:OwnTail h bmB bm) {e t0:Addr} {ob:Obj} {vs:Array Value} {rest:List Value} {Q:Value->Shared->Prop}
  (hC:h.get? C=some (excClassObj nm q C N bs bm hdct sn sub ab col dd k0 k1 k2 k3 k5 newId)) (he:h.get? e=some ob) (hcls:ob.cls=.ref C) (hd:ob.data=.fields vs) (h0:vs[0]?=some (.ref t0))
  (hq:Q .none ⟨(h.push {cls:=.type "tuple",data:=.seq rest.toArray}).update e (Obj.mapFields (·.setIfInBounds 0 (.ref h.objs.size))),g,d,t,os⟩) (hrest:rest.length<=sizeLine) :
  wpAny (model prog w) A (call (.builtin initId) (.ref e::rest)) Q E ⟨h,g,d,t,os⟩:=by
 refine wpAny_call (codeAny_call_builtin F.init.plain F.initEntry (wpAny_check_init_subU F T hC he hcls ?_))
 unfold Builtin.«BaseException.__init__»
 dsimp only
 rw[if_neg (by simp)]
 unfold newTuple Builtin.BaseException.bexcPut
 have hsz:0<vs.size:=(Array.getElem?_eq_some_iff.mp h0).1
 have he₁:=Heap.get?_push_of_some (h:=h) {cls:=.type "tuple",data:=.seq rest.toArray} he
 refine wpAny_bind (wpAny_newObj_type (wpAny_bind (wpAny_bind (wpAny_field he₁ hd h0 (wpAny_bind (wpAny_setField he₁ hd hsz ?_))))) (by show rest.toArray.size<=sizeLine;rw[List.size_toArray];exact hrest))
 exact wpAny_letGo (wpAny_pure hq)
theorem raise_own {M:Model} {env:Env} {s:Shared} {x:Sem Value} {Q:Flow->Shared->Prop} (hbase:bm.contains (.type "BaseException")=true) (hh:A.handled=none)
  (hx:wpAny M A x (fun v s₁=>∃ e ob vs,v=.ref e/\s₁.heap.get? C=some (excClassObj nm q C N bs bm hdct sn sub ab col dd k0 k1 k2 k3 k5 newId)/\s₁.heap.get? e=some ob/\ob.cls=.ref C/\ob.data=.fields vs/\vs[1]?=some .none/\E (.ref e) s₁) E s) :
  wpAny M A (raiseStmt env (some x) none) Q E s:=by
 have hcB:(Value.ref C::bm).contains (.type "BaseException")=true:=by rw[List.contains_cons,hbase,Bool.or_true]
 unfold raiseStmt
 refine wpAny_bind (wpAny_mono hx (fun v s₁ h₁=>?_) fun _ _ x=>x)
 obtain⟨e,⟨oc,od,odt,osl⟩,vs,rfl,hC,he,hc,hdt,hv,hE⟩:=h₁
 dsimp only at hc hdt
 subst hc hdt
 obtain⟨hp,g,d,tk,os⟩:=s₁
 repeat (first|with_reducible refine wpAny_loadPart_at he ?_|with_reducible refine wpAny_loadPart_at hC ?_|(with_reducible refine wpAny_isSubtype_exc hC ?_;rw[hcB])|wp_step)
 rw[hv]
 refine wpAny_pure ?_
 rw[if_neg (by simp)]
 exact wpAny_pure (wpAny_raiseNew_none hh hE)
theorem raise_call_initU {env:Env} {s:Shared} (Fn:ExcBaseFacts Bn newId inN bmN) (hBn:bmB.contains (.type Bn)=true) (F:ExcBaseFacts B nid initId bmB) {mN:Str->Option Value} {x:Str} {np cpos pos:Pos} {args:List Expr} {fI:Addr} {Q:Flow->Shared->Prop}
  (hbase:bm.contains (.type "BaseException")=true) (hh:A.handled=none) (hplain:(backTo cpos (starEach args env)).any (·.1)=false) (hni:mN "__init__"=some (.ref fI))
  (hx:wpAny (model prog w) A (eval (.Name x np) env) (fun f s₁=>f=.ref C/\wpAny (model prog w) A (evalArgs (.ref C) true (backTo cpos (starEach args env)) [])
   (fun a s₂=>a.kw=[]/\a.pos.length<=sizeLine/\s₂.heap.get? C=some (excClassObj nm q C N bs bm hdct sn sub ab col dd k0 k1 k2 k3 k5 newId)/\s₂.heap.Ns N mN/\OwnTail s₂.heap bmB bm/\(∃ oI,s₂.heap.get? fI=some oI/\oI.cls=.type "function") /\
    ∀ h' e,Heap.MadeExcOf s₂.heap h' e (.ref C) a.pos->wpAny (model prog w) (A.under (.builtin "type.__call__" ⟨.ref C::a.pos,[]⟩)) (call (.ref fI) (.ref e::a.pos)) (fun r s'=>r=.none/\∃ ob vs,s'.heap.get? C=some (excClassObj nm q C N bs bm hdct sn sub ab col dd k0 k1 k2 k3 k5 newId)/\s'.heap.get? e=some ob/\ob.cls=.ref C/\ob.data=.fields vs/\vs[1]?=some .none/\E (.ref e) s') E {s₂ with heap:=h'}) E s₁) E s) :
  wpAny (model prog w) A (exec (.Raise (some (.Call (.Name x np) args [] cpos)) none pos) env) Q E s:=by
 rw[arm_exec_Raise]
 refine wpAny_bind (wpAny_standAt (raise_own (C:=C) (nm:=nm) (q:=q) (N:=N) (bs:=bs) (bm:=bm) (hdct:=hdct) (sn:=sn) (sub:=sub) (ab:=ab) (col:=col) (dd:=dd) (k0:=k0) (k1:=k1) (k2:=k2) (k3:=k3) (k5:=k5) (newId:=newId) hbase hh (wpAny_bind (wpAny_mono (wpAny_Call_ofName (wpAny_mono hx (fun f s₁ h₁=>?_) fun _ _ x=>x)) (fun v s₃ h₃=>wpAny_bind (wpAny_standAt (wpAny_pure h₃))) fun _ _ x=>x))))
 obtain⟨rfl,h₁⟩:=h₁
 unfold callWith
 refine wpAny_bind (wpAny_holding (wpAny_mono h₁ (fun a s₂ h₂=>wpAny_bind (wpAny_standAt ?_)) fun _ _ x=>x))
 obtain⟨apos,akw⟩:=a
 obtain⟨hkw,hlen,hC,hn,T,⟨oI,hfI,hfc⟩,h₂⟩:=h₂
 obtain rfl:akw=[]:=hkw
 obtain⟨hp,g,d,tk,os⟩:=s₂
 simp only[hplain]
 refine wpAny_bind (wpAny_keeperOf_exc hC ?_)
 refine wpAny_bind (call_exc_initU Fn hBn F T hC hn hni hfI hfc (fun h' e hm=>wpAny_mono (h₂ h' e hm) (fun r s' hr=>⟨hr.1,wpAny_bind (wpAny_holding (wpAny_point (wpAny_pure ?_)))⟩) fun _ _ z=>z) hlen)
 obtain⟨ob,vs,c1,c2,c3,c4,c5,c6⟩:=hr.2
 exact⟨e,ob,vs,rfl,c1,c2,c3,c4,c5,c6⟩
end
noncomputable def passB:List Value->Bool
 | .ref _::r=>passB r
 | l=>l==bmV
theorem refuse_pass (self:Value):∀ {l:List Value},passB l=true->refuseLoop self "__setattr__" l=pure ()
 | [],e=>by simp[passB,bmV] at e
 | v::r,e=>by
  have other:v::r=bmV->refuseLoop self "__setattr__" (v::r)=pure ():=fun z=>by rw[z];exact PySem.F.store_ValueError.passes self
  cases v with
  | ref c=>rw [refuseLoop_ref];exact refuse_pass self (l:=r) (by simpa[passB] using e)
  | _=>exact other (by simpa[passB] using e)
section
variable {prog:Program} {w:World} {A:Around} {E:Value->Shared->Prop} {K:PySem.W.Frag} {C x:Addr} {s:Shared} {R:Result->Shared->Prop} {cd:ClassData}
theorem osa_exc {ox:Obj} {od:Option Obj} {name:Str} {tk:Tok} {v:Value} (X:K.In s.heap) (I:InstAt s.heap x ox C od) (hc:clsIn K C=some cd) (ho:passB cd.mro=true) (hob:mroIn K C (.type "object")=some true) (ht:findIn K (.ref C) name=some none)
  (h:wpAny (model prog w) A.in1 (storeInOwnDict (.ref x) (.ref C) (.str name tk) name v false)
   (fun fin s'=>match fin with | .done f=>R (.ok f) s' | .again c'=>c'.quiet=true/\codeAny (model prog w) A c' R s') (fun e s'=>R (.error e) s') s) :
  codeAny (model prog w) A (.call (.builtin "object.__setattr__") ⟨[.ref x,.str name tk,v],[]⟩) R s:=by
 have SF:=PySem.F.store_object
 have sub:Looks (model prog w) s.heap (isInstance (.ref x) (.type "object")) true:=I.type.andThen (looks_mroIn X hob)
 refine codeAny_call_builtin SF.slot.plain SF.entry (@check_slot (model prog w) _ _ s "object.__setattr__" "object" "__setattr__" (.ref x) [.str name tk,v] [] _ SF.kind SF.split sub (SF.args (.ref x) (.str name tk) v) ?_)
 have hm:Looks (model prog w) s.heap (mroOf (.ref C)) cd.mro:=(looks_clsIn X hc).andThen .now
 have L3:Looks (model prog w) s.heap (storeTaker? none) none:=.now
 rw[osa_eq,refuse_eq]
 refine wpAny_bind (wpAny_bind (I.type.here (wpAny_bind (hm.here ?_))))
 rw[refuse_pass _ ho]
 refine wpAny_pure (wpAny_bind (I.type.here (wpAny_bind ((looks_findIn X ht).here (wpAny_bind (L3.here ?_))))))
 exact h
theorem exc_set {ox:Obj} {vs:Array Value} {name:Str} {v:Value} {Q:Unit->Shared->Prop} (X:K.In s.heap) (hx:s.heap.get? x=some ox) (hcl:ox.cls=.ref C) (hd:ox.dict=none) (hdt:ox.data=.fields vs)
  (hs:findIn K (.ref C) "__setattr__"=some (some (.builtin "object.__setattr__"))) (hc:clsIn K C=some cd) (hdc:cd.hasDict=true) (ho:passB cd.mro=true) (hob:mroIn K C (.type "object")=some true) (ht:findIn K (.ref C) name=some none)
  (h:∀ h' t',h'.get? x=some {ox with dict:=some s.heap.objs.size}->h'.Ns1 s.heap.objs.size (fun y=>if y=name then some v else none)->(∀ b o,b≠x->s.heap.get? b=some o->h'.get? b=some o)->Q () {s with heap:=h',toks:=t'}) :
  wpAny (model prog w) A (setAttr (.ref x) name v) Q E s:=by
 obtain⟨oc,odi,odt,osl⟩:=ox
 dsimp only at hcl hd hdt
 subst hcl hd hdt
 have I:InstAt s.heap x ⟨.ref C,none,.fields vs,osl⟩ C none:=⟨hx,rfl,rfl,trivial⟩
 refine set_plain X I hs (osa_exc (s:={s with toks:=s.toks+1}) X I hc ho hob ht ?_)
 have hx₁:(s.heap.push {cls:=.type "dict",data:=.dict #[]}).get? x=some ⟨.ref C,none,.fields vs,osl⟩:=Heap.get?_push_of_some _ hx
 have hxs:x≠s.heap.objs.size:=Nat.ne_of_lt (Heap.lt_size hx)
 refine wpAny_bind (wpAny_pure (wpAny_bind (wpAny_bind (wpAny_loadPart hx (wpAny_bind (Looks.here (s:={s with toks:=s.toks+1}) (looks_clsIn X hc) ?_))))))
 rw[hdc]
 show wpAny _ _ (if (!true || !typeHasDict (.ref C))=true then _ else _) _ _ _
 rw[if_neg (by simp[typeHasDict])]
 refine wpAny_bind (wpAny_alloc' ?_)
 refine wpAny_bind (wpAny_update' hx₁ ?_)
 refine wpAny_pure ?_
 have hgd:((s.heap.push {cls:=.type "dict",data:=.dict #[]}).update x fun o=>{cls:=o.cls,dict:=some s.heap.objs.size,data:=o.data,slots:=o.slots}).get? s.heap.objs.size
   = some {cls:=.type "dict",data:=.dict #[]} :=
  (Heap.get?_update_ne _ _ _ _ hxs.symm).trans (Heap.get?_push_at rfl rfl)
 have hnd:((s.heap.push {cls:=.type "dict",data:=.dict #[]}).update x fun o=>{cls:=o.cls,dict:=some s.heap.objs.size,data:=o.data,slots:=o.slots}).Ns s.heap.objs.size (fun _=>none) :=
  ⟨_,#[],_,hgd,rfl,fun e he=>absurd he (by simp),fun _=>rfl⟩
 refine wpAny_bind (wpAny_pure (wpAny_bind (wpAny_nsSet1 (Heap.Ns1.of_empty hnd) fun h' hn' hs=>?_)))
 obtain⟨oD,esD,epD,hoD,hdD,hcD⟩:=hn'.count (PySem.Within.cons name v PySem.Within.nil)
 refine wpAny_bind (wpAny_lookBehind hoD (by rw[hdD];exact pastItsLine_dict (Nat.le_trans hcD (by rw[List.length_cons,List.length_nil,sizeLine_eq];omega))) ?_)
 refine wpAny_pure (h h' _ ?_ hn' fun b o hb e=>?_)
 ·refine (hs.2 x hxs).trans (Heap.get?_update_self _ hx₁ rfl)
 ·exact (hs.2 b (Nat.ne_of_lt (Heap.lt_size e))).trans ((Heap.get?_update_ne _ _ _ _ hb).trans (Heap.get?_push_of_some _ e))
theorem exc_get {ox:Obj} {dx:Addr} {vs:Array Value} {name:Str} {v:Value} {mA:Str->Option Value} {fill:Bool} {Q:Value->Shared->Prop} (X:K.In s.heap) (F:ExcCls K C) (hx:s.heap.get? x=some ox) (hcl:ox.cls=.ref C) (hd:ox.dict=some dx) (hdt:ox.data=.fields vs) (hn:s.heap.Ns1 dx mA) (hv:mA name=some v) (hh:handedIn v=true)
  (hc:clsIn K C=some cd) (hdc:cd.hasDict=true) (ht:findIn K (.ref C) name=some none)
  (h:Q v {s with toks:=s.toks+1}):wpAny (model prog w) A (getAttr (.ref x) name true) Q E s:=by
 obtain⟨od,ho,hl⟩:=lookIn_ns hn
 have I:InstAt s.heap x ox C (some od):=⟨hx,hcl,by unfold notCls;rw[hdt],by rw[hd];exact ho⟩
 refine wpAny_bind (wpAny_mkText (exc_attr (s:={s with toks:=s.toks+1}) X I F ?_))
 obtain⟨hp,g,d,t,os⟩:=s
 have L0:=I.type (M:=model prog w)
 have L1:=looks_find (M:=model prog w) (r:=.value v) X I (by unfold findObj;rw[hc,Option.bind_some,ht];simp[W.ownOf,hdc,hl,hv])
 unfold Builtin.«object.__getattribute__»
 refine wpAny_bind (wpAny_pure (wpAny_bind ?_))
 show wpAny _ _ (pure _) _ _ _
 refine wpAny_pure (wpAny_bind (L0.at (wpAny_bind (L1.at ?_))))
 refine wpAny_pure ?_
 show wpAny _ _ (handedOut v) _ _ _
 rw[handedOut_of hh]
 exact wpAny_pure h
end
noncomputable def fldOf (n:Str):Str:=if n="NoText" then "part" else if n="NoLevel" then "number" else if n="NoCall" then "row" else "name"
noncomputable def initBody (f:Str):List Stmt->Bool
 | [.Expr (.Call (.Attribute (.Name c _) m ap) [.Name s _,.Constant (.str _) _ _] [] cp) _,.Assign [.Attribute (.Name s2 _) g _] (.Name x _) _]=>c == "CordError" && m == "__init__" && s == "self" && s2 == "self" && g==f&&x==f&&(ap.endLine==cp.line)
 | _=>false
noncomputable def initScope (f:Str) (sc:Scope):Bool:=sc.kind==.function&&!sc.isCoroutine&&!sc.isGenerator&&(sc.names==[(("self":Str),NameKind.local),(f,.local),("CordError",.globalImplicit)])
noncomputable def initPar (f:Str) (p:Arguments):Bool:=p.posonlyargs.isEmpty&&(p.args.map (·.arg)==[("self":Str),f])&&p.vararg.isNone&&p.kwonlyargs.isEmpty&&p.kw_defaults.isEmpty&&p.kwarg.isNone
noncomputable def initFd (K:PySem.W.Frag) (f:Str) (fd:FuncData):Bool:=(match fd.body with | .stmts b=>initBody f b|_=>false)&&initScope f fd.scope&&initPar f fd.params&&fd.globals==mainGlobals&&fd.builtins==builtinsNs&&fd.closure.isEmpty&&codeIn K fd.code fd.qualname &&
 (match fd.defaults with | .ref T=>(match K.lookup T with|some ⟨_,_,.seq its _,_⟩=>its.size==1|_=>false)|_=>false)
noncomputable def initFn (K:PySem.W.Frag) (f:Str) (fI:Addr):Bool:=match K.lookup fI with
 | some ⟨.type "function",_,.func fd,_⟩=>initFd K f fd
 | _=>false
noncomputable def excInI (K:PySem.W.Frag) (C:Addr):Option Addr:=match K.lookup C with
 | some ⟨.type "type",_,.cls cd,sl⟩=>(match cd.mro,sl.toList with
  | .ref C'::bm,[_,_,_,_,some (.builtin n),_]=>if (C'==C&&n == "ValueError.__new__" && !cd.hasDel&&tailIn K bmV bm&&nsOkIn K cd.ns&&cd.hasDict&&passB cd.mro) then (match nsIn K cd.ns "__init__" with|some (some (.ref f))=>some f|_=>none) else none
  | _,_=>none)
 | _=>none
noncomputable def initOk (K:PySem.W.Frag) (n:Str) (D:Addr):Bool:=match clsAt K "CordError",excInI K D with
 | some B,some fI=>(findIn K (.ref D) "__setattr__" == some (some (.builtin "object.__setattr__")))&&(findIn K (.ref D) (fldOf n)==some none)&&readsIn K B (.type "type")
   && (match findCls K (.ref B) (.type "type") "__init__" with|some (.val v)=>v==.builtin "ValueError.__init__" | _=>false)&&(specialIn K (.ref B) "__getattribute__" == some (some (.builtin "type.__getattribute__")))&&keepIn K (.ref D)&&initFn K (fldOf n) fI
 | _,_=>false
noncomputable def iTabB (K:PySem.W.Frag):Bool:=xInit.all fun n=>match clsAt K n with
 | none=>true
 | some D=>initOk K n D
structure InitAt (K:PySem.W.Frag) (n:Str) (D B fI:Addr):Prop where
 ex:excInI K D=some fI
 b:clsAt K "CordError"=some B
 sa:findIn K (.ref D) "__setattr__"=some (some (.builtin "object.__setattr__"))
 nf:findIn K (.ref D) (fldOf n)=some none
 rd:readsIn K B (.type "type")=true
 fc:findCls K (.ref B) (.type "type") "__init__"=some (.val (.builtin "ValueError.__init__"))
 sp:specialIn K (.ref B) "__getattribute__"=some (some (.builtin "type.__getattribute__"))
 kp:keepIn K (.ref D)=true
 fn:initFn K (fldOf n) fI=true
set_option tactic.hygienic true
theorem initAt_of {K:PySem.W.Frag} {n:Str} {D:Addr} (h:initOk K n D=true):∃ B fI,InitAt K n D B fI:=by
 unfold initOk at h
 split at h
 next B fI e1 e2 =>
  simp only[Bool.and_eq_true,beq_iff_eq] at h
  obtain⟨⟨⟨⟨⟨⟨h1,h2⟩,h3⟩,h4⟩,h5⟩,h6⟩,h7⟩:=h
  split at h4
  next v e=>exact⟨B,fI,e2,e1,h1,h2,h3,by rw[e,beq_iff_eq.mp h4],h5,h6,h7⟩
  next=>cases h4
 next=>cases h
theorem ns_some {K:PySem.W.Frag} {h:Heap} {N:Addr} {mg:Str->Option Value} {n:Str} {v:Value} (X:K.In h) (G:h.Ns N mg) (e:nsIn K N n=some (some v)):mg n=some v:=by
 obtain⟨o,es,ep,ho,hd,_,hf⟩:=G
 unfold nsIn at e
 split at e
 ·rename_i c d es' n' sl q
  have:=X _ _ q
  rw[ho] at this
  cases this
  cases hd
  split at e
  ·rename_i en he
   cases e
   rw[<- hf]
   unfold nsFind findBy
   rw[<- Array.find?_toList,he]
   rfl
  ·split at e<;>cases e
 ·cases e
theorem excI_of {K:PySem.W.Frag} {h:Heap} {C fI:Addr} (X:K.In h) (q:excInI K C=some fI) :
  ∃ bm N nm q bs sn sub ab col dd k0 k1 k2 k3 k5 mN,h.get? C=some (excClassObj nm q C N bs bm true sn sub ab col dd k0 k1 k2 k3 k5 "ValueError.__new__")/\h.Ns N mN/\mN "__init__"=some (.ref fI)/\OwnTail h bmV bm/\∃ cd,clsIn K C=some cd/\cd.hasDict=true/\passB cd.mro=true:=by
 unfold excInI at q
 split at q
 next dd cd sl ho =>
  split at q
  next C' bm a0 a1 a2 a3 id a5 em es =>
   split at q
   next hc =>
    simp only[Bool.and_eq_true,beq_iff_eq,Bool.not_eq_true'] at hc
    obtain⟨⟨⟨⟨⟨⟨z1,z2⟩,z3⟩,z4⟩,z5⟩,z6⟩,z7⟩:=hc
    split at q
    next f ei =>
     cases q
     have hci:clsIn K C=some cd:=by unfold clsIn;rw[ho]
     obtain⟨nm,bs,mro,ns,qn,hd,sn,sub,ab,col,del⟩:=cd
     have hsl:sl=#[a0,a1,a2,a3,some (.builtin "ValueError.__new__"),a5]:=by
      rw[z2] at es
      rw[<- es]
     simp only at em z3 z5 z6 z7 ei hci
     subst z1 em z3 hsl z6
     refine⟨bm,ns,nm,qn,bs,sn,sub,ab,col,dd,a0,a1,a2,a3,a5,_,X _ _ ho,.of_isNs (isNs_of_in X z5),?_,tail_of_in X z4,_,hci,rfl,z7⟩
     exact ns_some X (.of_isNs (isNs_of_in X z5)) ei
    next=>cases q
   next=>cases q
  next=>cases q
 next=>cases q
set_option tactic.hygienic false
theorem meth_eq {o:Expr} {m:Str} {apos pos:Pos} {args:List Expr} {env:Env} (hbase:attributeBase o m env (eval o env)=eval o env) (hpl:(backTo pos (starEach args env)).any (·.1)=false) (hn:args.length<30) (hline:(apos.endLine==pos.line)=true) :
  eval (.Call (.Attribute o m apos) args [] pos) env=(do
   let ov <- eval o env
   standAt apos.atName
   let (f,first) <- holding [ov] (getMethod ov m (do let b <- importBound o env;pure (b.getD true)))
   callWith pos f first (backTo pos (starEach args env)) (backToKw pos (keywordEach [] env))):=by
 have hf:methodCallForm (args.length+([]:List Keyword).length) (backTo pos (starEach args env)) (backToKw pos (keywordEach [] env))=true:=by
  have h1:(backTo pos (starEach args env)).all (fun x=>!x.1)=true:=by
   rw[List.all_eq_true]
   intro x hx
   have:=List.any_eq_false.mp hpl x hx
   simpa using this
  have h2:backToKw pos (keywordEach [] env)=[]:=rfl
  unfold methodCallForm
  rw[h1,h2]
  simpa using hn
 rw[arm_eval_Call,hbase]
 unfold methodCall calleeOf methodCallPos
 rw[hf,hline]
 rfl
theorem un_but {fs:List Addr} {H:Hp} {h h':Heap} {e:Addr} (k:∀ b o,b≠e->h.get? b=some o->h'.get? b=some o):Un fs [e] H H h h' where
 keep:=fun b o q _ _ hx=>k b o (fun z=>hx (by simp[z])) q
 slot:=fun b o q _ _ hx=>⟨o.slots,k b o (fun z=>hx (by simp[z])) q⟩
 free:=fun _ _ _ n _=>n
 there:=fun b o q hx=>⟨o,k b o (fun z=>hx (by simp[z])) q⟩
 tups:=fun _ _ q=>q
 frzs:=fun _ _ _ q=>q
 tbls:=fun b ps q=>⟨#[],by simpa using q⟩
theorem hok_but {P:Program} {w:World} {H:Hp} {h h':Heap} {e:Addr} (hok:HOk P w H h) (hH:H e=none) (k:∀ b o,b≠e->h.get? b=some o->h'.get? b=some o):HOk P w H h':=fun a o q =>
 (hok a o q).stay (fun c u hc r=>k c u (fun z=>by
  subst z
  rcases hc with rfl|hc
  ·rw[hH] at q;cases q
  ·rw[hH] at hc;cases hc) r) (fun _ q=>q) fun _ _ q=>q
theorem inv_pin {X:Cx} {pins pl:List (Addr×Obj)} {σ:L2.St} {H:Hp} {s:Shared} (I:L2.Inv X pins σ H s) (h:∀ p∈X.pn++pl,s.heap.get? p.1=some p.2/\H p.1=none/\p.1≠X.env.locals/\p.1 ∉ X.fs/\∀ v,p.2.data≠.cell v):L2.Inv X pl σ H s :=
 ⟨I.ok,I.os,I.bare,I.base,I.loc,I.cell,I.free,I.freeC,h,I.hok,I.len⟩
structure InitEnd (P:Program) (w:World) (outer:List Env) (H:Hp) (s:Shared) (e D:Addr) (f:Str) (v:V) (vs0:Array Value) (s':Shared):Prop where
 os:s'.os=s.os
 bare:AllBare s'.gens
 un:Un (frs outer) [e] H H s.heap s'.heap
 hok:HOk P w H s'.heap
 at_:∃ ob ws d u,s'.heap.get? e=some ob/\ob.cls=.ref D/\ob.dict=some d/\ob.data=.fields ws/\ws[1]?=some .none/\ws[2]?=some .none/\ws.size=vs0.size/\RelV v u/\s'.heap.Ns1 d (fun y=>if y=f then some u else none)/\s.heap.objs.size<=d/\H d=none
theorem initBody_eq {f:Str} {b:List Stmt} (h:initBody f b=true):∃ (p1 ap p2:Pos) (t:Str) (j:Nat) (p3 cp ep p4 ap2 p5 ap3:Pos),b=[.Expr (.Call (.Attribute (.Name "CordError" p1) "__init__" ap) [.Name "self" p2,.Constant (.str t) j p3] [] cp) ep,.Assign [.Attribute (.Name "self" p4) f ap2] (.Name f p5) ap3]/\(ap.endLine==cp.line)=true:=by
 unfold initBody at h
 split at h
 ·simp only[Bool.and_eq_true,beq_iff_eq] at h
  obtain⟨⟨⟨⟨⟨⟨rfl,rfl⟩,rfl⟩,rfl⟩,rfl⟩,rfl⟩,z⟩:=h
  exact⟨_,_,_,_,_,_,_,_,_,_,_,_,rfl,beq_iff_eq.mpr z⟩
 ·cases h
theorem fld_ne (n:Str):fldOf n≠"self"/\fldOf n≠"CordError"/\fldOf n≠"__debug__"/\fldOf n≠"__classdict__":=by
 unfold fldOf
 split
 ·decide
 split
 ·decide
 split
 ·decide
 ·decide
theorem fld_is (n:Str):fldOf n="part"\/fldOf n="number"\/fldOf n="row"\/fldOf n="name":=by
 unfold fldOf
 split
 ·exact .inl rfl
 split
 ·exact .inr (.inl rfl)
 split
 ·exact .inr (.inr (.inl rfl))
 ·exact .inr (.inr (.inr rfl))
theorem init_scope {f:Str} {sc:Scope} (hf:f≠"self") (h:initScope f sc=true):FnScope ["self",f] ["self",f] sc/\sc.names=[(("self":Str),NameKind.local),(f,.local),("CordError",.globalImplicit)]:=by
 unfold initScope at h
 simp only[Bool.and_eq_true,beq_iff_eq,Bool.not_eq_true'] at h
 obtain⟨⟨⟨h1,h2⟩,h3⟩,h4⟩:=h
 refine⟨⟨h1,h2,h3,?_,rfl,fun x hx=>?_,fun y hy=>?_⟩,h4⟩
 ·simp[Ne.symm hf]
 ·rw[h4]
  simp only[List.mem_cons,List.not_mem_nil,or_false] at hx
  rcases hx with rfl|rfl
  ·exact .inl rfl
  ·have hb:(x==("self":Str))=false:=by simpa using hf
   exact .inl (by simp only[List.lookup_cons,hb];simp)
 ·rw[h4] at hy
  simp only[List.mem_cons,List.not_mem_nil,or_false] at hy
  rcases hy with rfl|rfl|rfl<;>exact (fun z=>nomatch z)
set_option tactic.hygienic true
theorem init_binds {K:PySem.W.Frag} {s:Shared} {f name qual:Str} {par:Arguments} {body:List Stmt} {sc:Scope} {dV kw doc pm:Value} {an:Option Addr} {cd ct:Value} {a b:Value} (X:K.In s.heap) (hf:f="part"\/f="number"\/f="row"\/f="name") (hp:initPar f par=true)
  (hd:(match dV with | .ref T=>(match K.lookup T with|some ⟨_,_,.seq its _,_⟩=>its.size==1|_=>false)|_=>false)=true) :
  BindsTo s (PySem.W.fnOf name qual par body sc dV kw doc pm an cd ct) ⟨[a,b],[]⟩ ((["self",f]:List Str).zip [a,b]):=by
 split at hd
 next T =>
  split at hd
  next cc dd its mm sl lk =>
   unfold initPar at hp
   simp only[Bool.and_eq_true,beq_iff_eq,List.isEmpty_iff,Option.isNone_iff_eq_none] at hp
   obtain⟨po,ar,va,ko,kd,ka,df⟩:=par
   obtain⟨⟨⟨⟨⟨rfl,h2⟩,rfl⟩,rfl⟩,rfl⟩,rfl⟩:=hp
   obtain⟨n1,q1,n2,q2,rfl⟩:∃ n1 q1 n2 q2,ar=[⟨"self",n1,q1⟩,⟨f,n2,q2⟩]:=by
    rcases ar with _|⟨⟨a1,n1,q1⟩,_|⟨⟨a2,n2,q2⟩,_|⟨a3,r⟩⟩⟩<;>simp at h2
    exact⟨n1,q1,n2,q2,by rw[h2.1,h2.2]⟩
   have sz:its.size=1:=by simpa using hd
   obtain⟨d0,rfl⟩:∃ d0,its=#[d0]:=by
    obtain⟨l⟩:=its
    rcases l with _|⟨d0,_|⟨d1,r⟩⟩<;>simp at sz
    exact⟨d0,rfl⟩
   rcases hf with rfl|rfl|rfl|rfl<;>exact .of_defaults rfl (X _ _ lk) rfl rfl rfl
  next=>cases hd
 next=>cases hd
theorem run_init {P:Program} {w:World} {K:PySem.W.Frag} {mg:Str->Option Value} {base:Heap} {A:Around} {outer:List Env} {s:Shared} {H:Hp} {n:Str} {D B fI e t0:Addr} {oe:Obj} {vs:Array Value} {u:Value} {vv:V} {R:Result->Shared->Prop}
  (T:InitAt K n D B fI) (hob:mroIn K D (.type "object")=some true) (hm:mg "CordError"=some (.ref B)) (hdep:A.depth<recursionLimit) (e0:Env0 P w K mg base A outer s H)
  (he:s.heap.get? e=some oe) (hc:oe.cls=.ref D) (hdd:oe.dict=none) (hdt:oe.data=.fields vs) (h0:vs[0]?=some (.ref t0)) (h1:vs[1]?=some .none) (h2:vs[2]?=some .none) (hH:H e=none) (hb:base.get? e=none) (hfr:e ∉ frs outer) (rv:RelV vv u)
  (hq:∀ s',InitEnd P w outer H s e D (fldOf n) vv vs s'->R (.ok (.ret .none)) s') :
  codeAny (model P w) A (.call (.ref fI) ⟨[.ref e,u],[]⟩) R s:=by
 have KX:K.In s.heap:=e0.mod.kin.keeps fun b o e=>(e0.bs b o e).1
 have lim:s.heap.NoLimit:=e0.mod.nolimit.keeps fun b o e=>(e0.bs b o e).1
 have tf:=T.fn
 unfold initFn at tf
 split at tf
 next od fd osl lk =>
  unfold initFd at tf
  simp only[Bool.and_eq_true,beq_iff_eq,List.isEmpty_iff] at tf
  obtain⟨⟨⟨⟨⟨⟨⟨tb,tsc⟩,tpar⟩,tgl⟩,tbl⟩,tcl⟩,tcd⟩,tdf⟩:=tf
  obtain⟨fname,fqual,fpar,fbody,fsc,fgl,fcl,fdf,fkw,fdoc,fpm,fan,fcd,fct,fbl⟩:=fd
  simp only at tb tsc tpar tgl tbl tcl tcd tdf
  subst tgl tbl tcl
  split at tb
  next body =>
   have nf:=fld_ne n
   obtain⟨S,hnm⟩:=init_scope nf.1 tsc
   obtain⟨p1,ap,p2,t,j,p3,cp,ep,p4,ap2,p5,ap3,rfl,hline⟩:=initBody_eq tb
   refine codeAny_call_function hdep (KX _ _ lk) rfl S.co S.gen rfl (PySem.W.codeRec_of KX tcd) (init_binds KX (fld_is n) tpar tdf _ _ _ _ ?_)
   refine wpAny_newFunctionEnv_cells S.kind (fun y hy=>?_) fun env he s1 x=>?_
   ·obtain⟨y1,y2⟩:=y
    rcases S.par y1 (List.of_mem_zip hy).1 with q|q
    ·exact .inl q
    ·exact .inr ⟨q,PySem.W.cellsFrom_some _ _ _ (.inl q)⟩
   subst he
   refine⟨lim.keeps x.toInCall.keep,codeAny_func ?_⟩
   have I:=inv_start (A:={A with handled:=none}) (CX:=fun _ _ _ _ e s''=>R (.error e) s'') (E:=fun _ _ _=>False) (vs:=[.ref e,vv]) (us:=[.ref e,u]) S rfl ⟨e0.frames,e0.mod,e0.bs,e0.bsz,e0.funs,e0.frf,e0.hok,e0.bare⟩ rfl (.cons rfl (.cons rv .nil)) x
   obtain⟨X,hX⟩:∃ X:Cx,X={cxOf (fun _ _ _ _ e s''=>R (.error e) s'') P w K mg base ["self",fldOf n] fqual fsc fI fcd A outer s H (fun _ _ _=>False) with ex:=[e],calm:=false}:=⟨_,rfl⟩
   have lts:=Heap.lt_size he
   have Ie:L2.Inv X [] (start ([("self":Str),fldOf n]:List Str) [.ref e,vv]) H s1:=by
    rw[hX]
    have ok:=I.ok
    refine⟨⟨ok.mod,ok.kind,ok.glob,ok.blt,ok.above,ok.inj,ok.has,ok.cab,fun z=>(by cases z),Around.frames_deeper e0.frames,ok.stk,fun b hb'=>?_,ok.bs,ok.bsz,fun b o q hb'=>?_,fun b hb'=>?_,ok.funs,ok.frf⟩,I.os,I.bare,I.base.mono (fun _ z=>z) (by simp[cxOf]),I.loc,I.cell,I.free,I.freeC,I.pin,I.hok,I.len⟩
    ·obtain rfl:b=e:=by simpa using hb'
     exact⟨Nat.ne_of_lt (Nat.lt_of_lt_of_le lts ok.above),fun y c q=>Nat.ne_of_gt (Nat.lt_of_lt_of_le lts (ok.cab y c rfl q))⟩
    ·obtain rfl:b=e:=by simpa using hb'
     exact absurd ((show base.get? b=some o from q).symm.trans hb) (by simp)
    ·obtain rfl:b=e:=by simpa using hb'
     exact hfr
   have eN:X.N=([("self":Str),fldOf n]:List Str):=by rw[hX];rfl
   have escope:X.env.scope=fsc:=by rw[hX];rfl
   have eenv:X.env=envOfC fqual fsc s.heap.objs.size fI fcd:=by rw[hX];rfl
   have eA:X.A=A.deeper (envOfC fqual fsc s.heap.objs.size fI fcd):=by rw[hX];rfl
   have eM:model X.prog X.w=model P w:=by rw[hX];rfl
   have eK:X.K=K:=by rw[hX];rfl
   have emg:X.mg=mg:=by rw[hX];rfl
   have eex:X.ex=[e]:=by rw[hX]
   have efs:X.fs=frs outer:=by rw[hX];rfl
   have epn:X.pn=[]:=by rw[hX];rfl
   have eloc:X.env.locals=s.heap.objs.size:=by rw[eenv];rfl
   have exe:X.xe=fun e' s'=>wpAny (model P w) (A.deeper (envOfC fqual fsc s.heap.objs.size fI fcd)) (leaving (envOfC fqual fsc s.heap.objs.size fI fcd) e') (fun _ s''=>R (.error e') s'') (fun e'' s''=>R (.error e'') s'') s':=by rw[hX];rfl
   have es0:X.s₀=s:=by rw[hX];rfl
   have eH0:X.H₀=H:=by rw[hX];rfl
   have eP:X.prog=P:=by rw[hX];rfl
   have eW:X.w=w:=by rw[hX];rfl
   clear hX
   have hvs:Vis X.env.scope "self":=.inl (by rw[escope,hnm];rfl)
   have hb0:(fldOf n==("self":Str))=false:=by simpa using nf.1
   have hvf:Vis X.env.scope (fldOf n):=.inl (by rw[escope,hnm];simp only[List.lookup_cons,hb0];simp)
   have hgl:Gl X "CordError":=by
    show X.env.scope.names.lookup _=_
    rw[escope,hnm]
    have hb:(("CordError":Str)==fldOf n)=false:=by simpa using Ne.symm nf.2.1
    have hb2:(("CordError":Str)==("self":Str))=false:=by decide
    simp only[List.lookup_cons,hb,hb2];simp
   have pin1:∀ {ob:Obj} {s2:Shared} {H2:Hp} {ws:Array Value},s2.heap.get? e=some ob->H2 e=none->ob.data=.fields ws->∀ p∈X.pn++[(e,ob)],s2.heap.get? p.1=some p.2/\H2 p.1=none/\p.1≠X.env.locals/\p.1 ∉ X.fs/\∀ v,p.2.data≠.cell v:=fun {ob s2 H2 ws} q1 q2 q3 p hp=>by
    rw[epn,List.nil_append,List.mem_singleton] at hp
    subst hp
    exact⟨q1,q2,by rw[eloc];exact Nat.ne_of_lt lts,by rw[efs];exact hfr,fun v z=>by rw[q3] at z;cases z⟩
   have pin0:∀ {s2:Shared} {H2:Hp},∀ p∈X.pn++([]:List (Addr×Obj)),s2.heap.get? p.1=some p.2/\H2 p.1=none/\p.1≠X.env.locals/\p.1 ∉ X.fs/\∀ v,p.2.data≠.cell v:=fun {s2 H2} p hp=>by
    rw[epn] at hp;cases hp
   have chg:∀ b∈[e],(b∈X.ex\/X.s₀.heap.objs.size<=b)/\b≠X.env.locals/\(∀ x c,X.env.cells.lookup x=some c->c≠b)/\∀ p∈X.pn++([]:List (Addr×Obj)),p.1≠b:=fun b hb'=>by
    have:=Ie.ok.exf b (by rw[eex];exact hb')
    exact⟨.inl (by rw[eex];exact hb'),this.1,this.2,fun p hp=>by rw[epn] at hp;cases hp⟩
   have KIn:∀ {pl:List (Addr×Obj)} {σ2:L2.St} {H2:Hp} {s2:Shared},L2.Inv X pl σ2 H2 s2->K.In s2.heap:=fun J=>eK ▸ J.kIn
   have I1:=inv_pin Ie (pin1 (x.toInCall.keep e oe he) hH hdt)
   show wpAny (model P w) (A.deeper (envOfC fqual fsc s.heap.objs.size fI fcd)) (execs _ (envOfC fqual fsc s.heap.objs.size fI fcd)) _ (fun e' s'=>wpAny (model P w) (A.deeper (envOfC fqual fsc s.heap.objs.size fI fcd)) (leaving (envOfC fqual fsc s.heap.objs.size fI fcd) e') (fun _ s''=>R (.error e') s'') (fun e'' s''=>R (.error e'') s'') s') _
   rw[<- exe,<- eM,<- eA,<- eenv]
   have hmX:X.mg "CordError"=some (.ref B):=by rw[emg];exact hm
   generalize hσ:start ([("self":Str),fldOf n]:List Str) [.ref e,vv]=σ at I1 Ie
   have hσ0:σ[0]?=some (some (.ref e)):=by rw[<- hσ];rfl
   have hσ1:σ[1]?=some (some vv):=by rw[<- hσ];rfl
   have hN0:X.N[0]?=some ("self":Str):=by rw[eN];rfl
   have hN1:X.N[1]?=some (fldOf n):=by rw[eN];rfl
   refine wpAny_execs_cons (wpAny_Expr_any ?_ Ie.quiet rfl)
   refine PySem.W.methodCall_KW (ld_glob I1 hgl hmX ?_) (meth_eq rfl rfl (by simp) hline)
   refine method_cls (KIn I1) T.sp (cls_value (KIn I1) T.rd T.fc (by decide +kernel) ?_)
   have I2:=I1.tok (s1.toks+1)
   refine PyProof.Rows.callWith_builtin1 (thn ((pa_cons (pe_var hN0 hvs) (pa_cons pe_str pa_nil)) cp [(e,oe)] _ σ H (fun vs H1=>H1=H/\∃ v2,vs=[.ref e,v2]) I2 ⟨_,hσ0,⟨rfl,_,rfl⟩⟩) ?_) rfl rfl
   rintro us s3 ⟨vs3,H3,I3,r3,rfl,v2,rfl⟩
   obtain⟨u0,us,rfl,ra,rb⟩:∃ u0 us',us=u0::us'/\RelV (.ref e) u0/\Vals [v2] us':=by cases r3 with|cons a b=>exact⟨_,_,rfl,a,b⟩
   obtain rfl:u0=Value.ref e:=ra
   obtain⟨u2,rfl⟩:∃ u2,us=[u2]:=by cases rb with|cons a b=>cases b;exact⟨_,rfl⟩
   obtain⟨bm,Nn,nm,qn,bs,sn,sub,ab,col,ddc,k0,k1,k2,k3,k5,mN,hC,hNs,hni,OT,cd,hci,hdc,hpm⟩:=excI_of (KIn I3) T.ex
   have p3:=I3.pin (e,oe) (by simp)
   have sz0:0<vs.size:=(Array.getElem?_eq_some_iff.mp h0).1
   have sz1:1<vs.size:=(Array.getElem?_eq_some_iff.mp h1).1
   obtain⟨hp3,g3,d3,t3,os3⟩:=s3
   refine init_own (F:=PySem.F.excBase_ValueError) (T:=OT) hC p3.1 hc hdt h0 ?_ (by simp[sizeLine_eq])
   generalize hh4:(hp3.push {cls:=.type "tuple",data:=.seq [u2].toArray}).update e (Obj.mapFields (·.setIfInBounds 0 (.ref hp3.objs.size)))=h4
   have k4:∀ b o,b≠e->hp3.get? b=some o->h4.get? b=some o:=fun b o hb' q=>by
    rw[<- hh4,Heap.get?_update_other _ _ (Ne.symm hb')];exact Heap.get?_push_of_some _ q
   have d4:=Obj.data_mapFields hdt (·.setIfInBounds 0 (.ref hp3.objs.size))
   have e4:h4.get? e=some (oe.mapFields (·.setIfInBounds 0 (.ref hp3.objs.size))):=by
    rw[<- hh4];exact Heap.get?_update_self _ (Heap.get?_push_of_some _ p3.1) (Obj.isFreed_of_fields d4)
   have I4:L2.Inv X [] σ H3 ⟨h4,g3,d3,t3,os3⟩:=(inv_pin I3 pin0).call' (s':=⟨h4,g3,d3,t3,os3⟩) (ch:=[e]) rfl (un_but k4) (hok_but I3.hok hH k4) I3.bare chg
   have I5:=inv_pin I4 (pin1 e4 hH d4)
   refine wpAny_execs_cons (plainObj_wpAny_Assign_Attribute (thn (pe_var hN1 hvf (by simpa using nf.2.2.1) (by simpa using nf.2.2.2) [(e,_)] _ σ H3 (fun v H'=>H'=H3/\v=vv) I5 ⟨_,hσ1,rfl,rfl⟩) ?_) rfl)
   rintro u5 s5 ⟨v5,H5,I6,r5,rfl,rfl⟩
   refine thn (pe_var hN0 hvs (by decide) (by decide) [(e,_)] _ σ H5 (fun v H'=>H'=H5/\v=.ref e) I6 ⟨_,hσ0,rfl,rfl⟩) ?_
   rintro u6 s6 ⟨v6,H6,I7,r6,rfl,rfl⟩
   obtain rfl:u6=Value.ref e:=r6
   have p7:=I7.pin (e,_) (by rw[epn];exact List.mem_cons_self)
   refine exc_set (KIn I7) p7.1 (by rw[Obj.cls_mapFields];exact hc) (by rw[dict_mapFields];exact hdd) d4 T.sa hci hdc hpm hob T.nf fun h8 t8 e8 n8 k8=>?_
   have I8:L2.Inv X [] σ H6 ⟨h8,s6.gens,s6.drawn,t8,s6.os⟩:=(inv_pin I7 pin0).call' (s':=⟨h8,s6.gens,s6.drawn,t8,s6.os⟩) (ch:=[e]) rfl (un_but k8) (hok_but I7.hok hH k8) I7.bare chg
   refine wpAny_execs_nil (hq _ ⟨I8.os.trans (by rw[es0]),I8.bare,?_,?_,_,_,s6.heap.objs.size,u5,e8,by show _=_;rw[Obj.cls_mapFields];exact hc,rfl,d4,?_,?_,?_,r5,n8,?_,?_⟩)
   ·have:=I8.base
    rw[efs,eex,eH0,es0] at this
    exact this
   ·have:=I8.hok
    rw[eP,eW] at this
    exact this
   ·rw[Array.getElem?_setIfInBounds_ne (by decide)];exact h1
   ·rw[Array.getElem?_setIfInBounds_ne (by decide)];exact h2
   ·simp
   ·have:=I7.sz
    rw[es0] at this
    exact this
   ·exact I7.hok.fresh (Nat.le_refl _)
  next=>cases tb
 next=>cases tf
set_option tactic.hygienic false
noncomputable def nTabB (K:PySem.W.Frag):Bool:=xNames.all fun n=>match clsAt K n with
 | none=>true
 | some D=>kitOne K (.type "NoneType") (.ref D)==some false
noncomputable def xTabB (K:PySem.W.Frag):Bool:=xTab0 K&&oTabB K&&(iTabB K&&nTabB K)
theorem tab_and {K:PySem.W.Frag} (t:xTabB K=true):xTab0 K=true/\oTabB K=true/\iTabB K=true/\nTabB K=true:=by
 unfold xTabB at t
 simp only[Bool.and_eq_true] at t
 exact⟨t.1.1,t.1.2,t.2⟩
section
variable {K:PySem.W.Frag} {n c:Str} {C D:Addr}
theorem xTab_row (t:xTabB K=true) (hn:n∈xNames) (h:ClsOf K n D):ExcCls K D/\(xPlain.contains n=true->excIn K D bmV "ValueError.__new__"=true)/\(∀ T,(T="int"\/T="bool"\/T="str"\/T="tuple"\/T="list"\/T="dict"\/T="ValueError")->kitOne K (.ref D) (.type T)=some (T == "ValueError")) /\
  ∀ c C,c∈xNames->ClsOf K c C->exmOne K (.ref D) (.ref C)=some (isSub n c)/\kitOne K (.ref D) (.ref C)=some (isSub n c):=by
 have t:=(tab_and t).1
 unfold xTab0 at t
 have r:=List.all_eq_true.mp t n hn
 rw[clsAt_of h] at r
 simp only[Bool.and_eq_true,beq_iff_eq,Bool.or_eq_true,Bool.not_eq_true'] at r
 obtain⟨⟨⟨⟨r1,r2⟩,r3⟩,r3b⟩,r4⟩:=r
 unfold excClsB at r1
 simp only[Bool.and_eq_true,beq_iff_eq] at r1
 obtain⟨⟨⟨⟨⟨⟨⟨q1,q2⟩,q3⟩,q4⟩,q5⟩,q6⟩,q7⟩,q8⟩:=r1
 refine⟨⟨q1,q2,q3,q4,q5,q6,q7,q8⟩,fun z=>?_,fun T hT=>?_,fun c C hc hC=>?_⟩
 ·rcases r2 with r2|r2
  ·rw[z] at r2;cases r2
  ·exact r2
 ·have rT:∀ T∈["int","bool","str","tuple","list","dict"],kitOne K (.ref D) (.type T)=some false:=fun T hT=>beq_iff_eq.mp (List.all_eq_true.mp r3b T hT)
  rcases hT with rfl|rfl|rfl|rfl|rfl|rfl|rfl
  all_goals first|exact r3|exact rT _ (by decide)
 ·have r:=List.all_eq_true.mp r4 c hc
  rw[clsAt_of hC] at r
  simpa only [Bool.and_eq_true,beq_iff_eq] using r
theorem nTab_row (t:xTabB K=true) (hn:n∈xNames) (h:ClsOf K n D):kitOne K (.type "NoneType") (.ref D)=some false:=by
 have t:=(tab_and t).2.2.2
 unfold nTabB at t
 have r:=List.all_eq_true.mp t n hn
 rw[clsAt_of h] at r
 exact beq_iff_eq.mp r
theorem iTab_row (t:xTabB K=true) (hn:n∈xInit) (h:ClsOf K n D):∃ B fI,InitAt K n D B fI:=by
 have t:=(tab_and t).2.2.1
 unfold iTabB at t
 have r:=List.all_eq_true.mp t n hn
 rw[clsAt_of h] at r
 exact initAt_of r
end
end DL
end
noncomputable section
namespace DL
open PySem PySem.Spec PyProof.Rows L2
inductive D where
 | non|bl (b:Bool)|int (i:Int)|str (x:Str)|ty (n:String)
 | tup (ds:List D)|fz (ds:List D)|lst (a:Addr)|dct (a:Addr)|ref (a:Addr)
 | exc (n:Str) (x:D)|cls (n:Str)
 | fn (n:Str)
 | sd (xs:List Str) (ds:List D)
 | fd (xs:List Str) (ds:List D)
 deriving Inhabited
inductive MO where
 | ls (ds:List D)
 | dk (kvs:List (Key×D))
 | ob (n:Str) (fs:List (Str×D))
noncomputable abbrev Mem:=Addr->Option MO
noncomputable abbrev DSt:=List (Option D)
noncomputable abbrev DK:=D->Mem->Prop
noncomputable def Mem.upd (M:Mem) (a:Addr) (o:MO):Mem:=fun b=>if b=a then some o else M b
theorem mupd_same {M:Mem} {a:Addr} {o:MO}:M.upd a o a=some o:=if_pos rfl
theorem mupd_ne {M:Mem} {a b:Addr} {o:MO} (h:b≠a):M.upd a o b=M b:=if_neg h
noncomputable def MExt (M M':Mem):Prop:=∀ a o,M a=some o->M' a=some o
theorem MExt.refl (M:Mem):MExt M M:=fun _ _ h=>h
theorem MExt.trans {M M1 M2:Mem} (a:MExt M M1) (b:MExt M1 M2):MExt M M2:=fun c o h=>b c o (a c o h)
theorem MExt.new {M:Mem} {p:Addr} {o:MO} (h:M p=none):MExt M (M.upd p o):=fun a u e=>by
 have:a≠p:=fun z=>by rw[z,h] at e;cases e
 rw[mupd_ne this];exact e
noncomputable def alloc (M:Mem) (o:MO) (Q:Addr->Mem->Prop):Prop:=∀ p M',M p=none->MExt M M'->M' p=some o->Q p M'
theorem alloc.at {M:Mem} {o:MO} {Q:Addr->Mem->Prop} {p:Addr} (h:alloc M o Q) (hp:M p=none):Q p (M.upd p o):=h p _ hp (.new hp) mupd_same
noncomputable def SqF (K:PySem.W.Frag) (H:Hp) (a:Addr) (xs:List V):Prop :=
 (∃ o,H a=some (.frz o (.lst xs))) \/
  ∃ (o:Obj) (its:Array Value) (n:Nat),K.lookup a=some o/\o.cls=.type "list"/\o.dict=none/\o.data=.seq its n/\its.size<=sizeLine/\Vals xs its.toList
theorem SqF.sq {K:PySem.W.Frag} {H:Hp} {a:Addr} {xs:List V} (h:SqF K H a xs):SqL K H a xs:=by
 rcases h with ⟨o,h⟩|h
 ·exact .inl (.inr ⟨o,h⟩)
 ·exact .inr h
inductive EntK:List DictEntry->List Str->List Value->Prop
 | nil:EntK [] [] []
 | cons {e:DictEntry} {x:Str} {t:Tok} {es:List DictEntry} {xs:List Str} {us:List Value} (k:e.key=.str x t) (r:EntK es xs us):EntK (e::es) (x::xs) (e.val::us)
noncomputable def TabK (K:PySem.W.Frag) (a:Addr) (xs:List Str) (vs:List V):Prop :=
 (a==sysModules)=false/\∃ (o:Obj) (es:Array DictEntry) (ep:Nat) (us:List Value),K.lookup a=some o/\o.ExactDict/\o.data=.dict es ep/\EntK es.toList xs us/\Vals vs us
noncomputable def fdK (xs:List Str) (vs:List V):List (Key×V):=(xs.zip vs).map fun p=>(Sum.inr p.1,p.2)
noncomputable def FdK (H:Hp) (a:Addr) (xs:List Str) (vs:List V):Prop:=xs.length=vs.length/\∃ o,H a=some (.frz o (.dK (fdK xs vs)))
noncomputable def ExcAt (a C:Addr) (dd:Option Addr) (h:Heap):Prop:=∃ ob vs,h.get? a=some ob/\ob.cls=.ref C/\ob.dict=dd/\ob.data=.fields vs
noncomputable def FldAt (d:Addr) (f:Str) (v:V) (h:Heap):Prop:=∃ u,RelV v u/\h.Ns1 d (fun y=>if y=f then some u else none)
mutual
inductive RelD (K:PySem.W.Frag) (H:Hp):V->D->Prop
 | non:RelD K H .non .non
 | bl (b:Bool):RelD K H (.bl b) (.bl b)
 | int (i:Int):RelD K H (.int i) (.int i)
 | str (x:Str):RelD K H (.str x) (.str x)
 | ty (n:String):RelD K H (.ty n) (.ty n)
 | tup {a:Addr} {vs:List V} {ds:List D} (h:SqT K H a vs) (r:RelDs K H vs ds):RelD K H (.ref a) (.tup ds)
 | fz {a:Addr} {vs:List V} {ds:List D} (h:SqF K H a vs) (r:RelDs K H vs ds):RelD K H (.ref a) (.fz ds)
 | lst (a:Addr):RelD K H (.ref a) (.lst a)
 | dct (a:Addr):RelD K H (.ref a) (.dct a)
 | ref (a:Addr):RelD K H (.ref a) (.ref a)
 | cls {C:Addr} {n:Str} (hn:n∈xNames) (hc:ClsOf K n C):RelD K H (.ref C) (.cls n)
 | fn {C:Addr} {n:Str} (hc:ClsOf K n C):RelD K H (.ref C) (.fn n)
 | sd {a:Addr} {xs:List Str} {vs:List V} {ds:List D} (h:TabK K a xs vs) (r:RelDs K H vs ds):RelD K H (.ref a) (.sd xs ds)
 | fd {a:Addr} {xs:List Str} {vs:List V} {ds:List D} (h:FdK H a xs vs) (r:RelDs K H vs ds):RelD K H (.ref a) (.fd xs ds)
 | exc {a C:Addr} {n:Str} (hn:n∈xNames) (hi:n ∉ xInit) (hc:ClsOf K n C) (h:H a=some (.ext (ExcAt a C none))):RelD K H (.ref a) (.exc n .non)
 | excF {a C d:Addr} {n:Str} {v:V} {x:D} (hn:n∈xNames) (hi:n∈xInit) (hc:ClsOf K n C) (h:H a=some (.ext (ExcAt a C (some d)))) (hd:H d=some (.ext (FldAt d (fldOf n) v))) (r:RelD K H v x):RelD K H (.ref a) (.exc n x)
inductive RelDs (K:PySem.W.Frag) (H:Hp):List V->List D->Prop
 | nil:RelDs K H [] []
 | cons {v:V} {d:D} {vs:List V} {ds:List D} (h:RelD K H v d) (r:RelDs K H vs ds):RelDs K H (v::vs) (d::ds)
end
structure HExt (K:PySem.W.Frag) (H H':Hp):Prop where
 tup:∀ a vs,SqT K H a vs->SqT K H' a vs
 fz:∀ a vs,SqF K H a vs->SqF K H' a vs
 ex:∀ a φ,H a=some (.ext φ)->H' a=some (.ext φ)
 fd:∀ a o kws,H a=some (.frz o (.dK kws))->H' a=some (.frz o (.dK kws))
theorem HExt.refl {K:PySem.W.Frag} (H:Hp):HExt K H H:=⟨fun _ _ h=>h,fun _ _ h=>h,fun _ _ h=>h,fun _ _ _ h=>h⟩
theorem HExt.trans {K:PySem.W.Frag} {H H1 H2:Hp} (a:HExt K H H1) (b:HExt K H1 H2):HExt K H H2:=⟨fun p vs h=>b.tup p vs (a.tup p vs h),fun p vs h=>b.fz p vs (a.fz p vs h),fun p C h=>b.ex p C (a.ex p C h),fun p o kws h=>b.fd p o kws (a.fd p o kws h)⟩
noncomputable def MutL:HO->Prop
 | .lst _=>True
 | .dK _=>True
 | .ins _ _ _=>True
 | _=>False
theorem HExt.upd {K:PySem.W.Frag} {H:Hp} {p:Addr} {o:HO} (h:H p=none\/∃ u,H p=some u/\MutL u):HExt K H (L2.upd H p o):=by
 refine⟨fun a vs q=>?_,fun a vs q=>?_,fun a C q=>?_,fun a ob kws q=>?_⟩
 ·rcases q with (q|⟨ob,q⟩)|q
  ·refine .inl (.inl ?_)
   rw[upd_ne];exact q
   rintro rfl
   rcases h with h|⟨u,h,m⟩
   ·rw[h] at q;cases q
   ·rw[h] at q;cases q;exact m
  ·refine .inl (.inr ⟨ob,?_⟩)
   rw[upd_ne];exact q
   rintro rfl
   rcases h with h|⟨u,h,m⟩
   ·rw[h] at q;cases q
   ·rw[h] at q;cases q;exact m
  ·exact .inr q
 ·rcases q with ⟨ob,q⟩|q
  ·refine .inl ⟨ob,?_⟩
   rw[upd_ne];exact q
   rintro rfl
   rcases h with h|⟨u,h,m⟩
   ·rw[h] at q;cases q
   ·rw[h] at q;cases q;exact m
  ·exact .inr q
 ·rw[upd_ne];exact q
  rintro rfl
  rcases h with h|⟨u,h,m⟩
  ·rw[h] at q;cases q
  ·rw[h] at q;cases q;exact m
 ·rw[upd_ne];exact q
  rintro rfl
  rcases h with h|⟨u,h,m⟩
  ·rw[h] at q;cases q
  ·rw[h] at q;cases q;exact m
theorem RelDs.ext {K:PySem.W.Frag} {H H':Hp} (x:HExt K H H') {vs:List V} {ds:List D} (h:RelDs K H vs ds):RelDs K H' vs ds:=by
 induction h using RelDs.rec (motive_1:=fun v d _=>RelD K H' v d) with
 | non=>exact .non
 | bl b=>exact .bl b
 | int i=>exact .int i
 | str y=>exact .str y
 | ty n=>exact .ty n
 | tup h r ih=>exact .tup (x.tup _ _ h) ih
 | fz h r ih=>exact .fz (x.fz _ _ h) ih
 | lst a=>exact .lst a
 | dct a=>exact .dct a
 | ref a=>exact .ref a
 | cls hn h=>exact .cls hn h
 | fn h=>exact .fn h
 | sd h r ih=>exact .sd h ih
 | fd h r ih=>exact .fd ⟨h.1,h.2.elim fun o e=>⟨o,x.fd _ _ _ e⟩⟩ ih
 | exc hn hi hc h=>exact .exc hn hi hc (x.ex _ _ h)
 | excF hn hi hc h hd r ih=>exact .excF hn hi hc (x.ex _ _ h) (x.ex _ _ hd) ih
 | nil=>exact .nil
 | cons h r i1 i2=>exact .cons i1 i2
theorem RelD.ext {K:PySem.W.Frag} {H H':Hp} (x:HExt K H H') {v:V} {d:D} (h:RelD K H v d):RelD K H' v d:=by
 cases RelDs.ext x (.cons h .nil) with
 | cons h _=>exact h
inductive ExD (K:PySem.W.Frag) (H:Hp) (n:Str):Option Addr->D->Prop
 | plain (hi:n ∉ xInit):ExD K H n none .non
 | fld {d:Addr} {v:V} {x:D} (hi:n∈xInit) (hd:H d=some (.ext (FldAt d (fldOf n) v))) (r:RelD K H v x):ExD K H n (some d) x
theorem ExD.ext {K:PySem.W.Frag} {H H':Hp} (y:HExt K H H') {n:Str} {dd:Option Addr} {x:D} (h:ExD K H n dd x):ExD K H' n dd x:=by
 cases h with
 | plain hi=>exact .plain hi
 | fld hi hd r=>exact .fld hi (y.ex _ _ hd) (r.ext y)
theorem ExD.rel {K:PySem.W.Frag} {H:Hp} {n:Str} {a C:Addr} {dd:Option Addr} {x:D} (h:ExD K H n dd x) (hn:n∈xNames) (hc:ClsOf K n C) (e:H a=some (.ext (ExcAt a C dd))):RelD K H (.ref a) (.exc n x):=by
 cases h with
 | plain hi=>exact .exc hn hi hc e
 | fld hi hd r=>exact .excF hn hi hc e hd r
noncomputable def xarg:D->D
 | .exc _ x=>x
 | d=>d
@[simp] theorem xarg_exc (n:Str) (x:D):xarg (.exc n x)=x:=rfl
section
variable {K:PySem.W.Frag} {H:Hp}
theorem RelDs.length:∀ {vs:List V} {ds:List D},RelDs K H vs ds->vs.length=ds.length
 | _,_,.nil=>rfl
 | _,_,.cons _ r=>congrArg (·+1) (RelDs.length r)
theorem RelDs.append:∀ {vs ws:List V} {ds es:List D},RelDs K H vs ds->RelDs K H ws es->RelDs K H (vs++ws) (ds++es)
 | _,_,_,_,.nil,q=>q
 | _,_,_,_,.cons h r,q=>.cons h (RelDs.append r q)
theorem RelDs.drop:∀ {vs:List V} {ds:List D} (n:Nat),RelDs K H vs ds->RelDs K H (vs.drop n) (ds.drop n)
 | _,_,0,r=>r
 | _,_,_+1,.nil=>.nil
 | _,_,n+1,.cons _ r=>RelDs.drop n r
theorem RelDs.take:∀ {vs:List V} {ds:List D} (n:Nat),RelDs K H vs ds->RelDs K H (vs.take n) (ds.take n)
 | _,_,0,_=>.nil
 | _,_,_+1,.nil=>.nil
 | _,_,n+1,.cons h r=>.cons h (RelDs.take n r)
theorem RelDs.get:∀ {vs:List V} {ds:List D} {i:Nat} {d:D},RelDs K H vs ds->ds[i]?=some d->∃ v,vs[i]?=some v/\RelD K H v d
 | _,_,_,_,.nil,e=>by simp at e
 | _,_,0,_,.cons h _,e=>by simp at e;subst e;exact⟨_,rfl,h⟩
 | _,_,i+1,d,.cons _ r,e=>by
  obtain⟨v,h1,h2⟩:=RelDs.get (i:=i) (d:=d) r (by simpa using e)
  exact⟨v,by simpa using h1,h2⟩
theorem RelDs.set {v:V} {d:D} (h:RelD K H v d):∀ {vs:List V} {ds:List D} (i:Nat),RelDs K H vs ds->RelDs K H (vs.set i v) (ds.set i d)
 | _,_,_,.nil=>.nil
 | _,_,0,.cons _ r=>.cons h r
 | _,_,i+1,.cons q r=>.cons q (RelDs.set h i r)
theorem RelDs.ints:∀ (ns:List Int),RelDs K H (ns.map V.int) (ns.map D.int)
 | []=>.nil
 | n::r=>.cons (.int n) (RelDs.ints r)
end
noncomputable def MOk (K:PySem.W.Frag) (H:Hp) (a:Addr):MO->Prop
 | .ls ds=>∃ vs,H a=some (.lst vs)/\RelDs K H vs ds
 | .dk kvs=>∃ kws:List (Key×V),H a=some (.dK kws)/\kws.map (·.1)=kvs.map (·.1)/\RelDs K H (kws.map (·.2)) (kvs.map (·.2))
 | .ob n fs=>∃ (C dx:Addr) (vs:List (Str×V)),ClsOf K n C/\H a=some (.ins C dx vs)/\vs.map (·.1)=fs.map (·.1)/\RelDs K H (vs.map (·.2)) (fs.map (·.2))
noncomputable def RepM (K:PySem.W.Frag) (H:Hp) (M:Mem):Prop:=∀ a o,M a=some o->MOk K H a o
structure LK where
 K:PySem.W.Frag
 ok:Hp->Prop
 mono:∀ H H',HExt K H H'->ok H->ok H'
structure Slots (K:PySem.W.Frag) (H:Hp) (δ:DSt) (σ:L2.St):Prop where
 len:δ.length=σ.length
 slot:∀ (i:Nat) (d:D),δ[i]?=some (some d)->∃ v,σ[i]?=some (some v)/\RelD K H v d
structure RepS (Λ:LK) (H:Hp) (δ:DSt) (σ:L2.St):Prop extends Slots Λ.K H δ σ where
 ok:Λ.ok H
section
variable {K:PySem.W.Frag} {Λ:LK} {H H':Hp} {M:Mem} {δ:DSt} {σ:L2.St}
theorem Slots.ext (x:HExt K H H') (r:Slots K H δ σ):Slots K H' δ σ:=⟨r.len,fun i d e=>let ⟨v,h,q⟩:=r.slot i d e;⟨v,h,q.ext x⟩⟩
theorem RepS.ext (x:HExt Λ.K H H') (r:RepS Λ H δ σ):RepS Λ H' δ σ:=⟨r.toSlots.ext x,Λ.mono _ _ x r.ok⟩
theorem Slots.set {v:V} {d:D} (r:Slots K H δ σ) (h:RelD K H v d) (i:Nat):Slots K H (δ.set i (some d)) (σ.set i (some v)):=by
 refine⟨by simp[r.len],fun j e q=>?_⟩
 by_cases hj:j=i
 ·subst hj
  by_cases hl:j < δ.length
  ·rw[List.getElem?_set_self hl] at q;cases q
   exact⟨v,List.getElem?_set_self (by rw[<- r.len];exact hl),h⟩
  ·rw[List.getElem?_eq_none (by simp;omega)] at q;cases q
 ·rw[List.getElem?_set_ne (Ne.symm hj)] at q
  obtain⟨u,h1,h2⟩:=r.slot j e q
  exact⟨u,by rw[List.getElem?_set_ne (Ne.symm hj)];exact h1,h2⟩
theorem RepS.set {v:V} {d:D} (r:RepS Λ H δ σ) (h:RelD Λ.K H v d) (i:Nat):RepS Λ H (δ.set i (some d)) (σ.set i (some v)):=⟨r.toSlots.set h i,r.ok⟩
theorem MOk.fresh {a:Addr} {o:MO} (r:MOk K H a o):H a≠none:=by
 cases o with
 | ls ds=>obtain⟨vs,h,_⟩:=r;rw[h];simp
 | dk kvs=>obtain⟨vs,h,_⟩:=r;rw[h];simp
 | ob n fs=>obtain⟨C,dx,vs,_,h,_⟩:=r;rw[h];simp
theorem RepM.none (r:RepM K H M) {p:Addr} (h:H p=.none):M p=.none:=by
 cases q:M p with
 | none=>rfl
 | some o=>exact absurd h (r p o q).fresh
theorem MOk.ext {a p:Addr} {o:MO} {u:HO} (x:HExt K H (upd H p u)) (h:a≠p) (r:MOk K H a o):MOk K (upd H p u) a o:=by
 cases o with
 | ls ds=>obtain⟨vs,e,q⟩:=r;exact⟨vs,by rw[upd_ne h];exact e,q.ext x⟩
 | dk kvs=>obtain⟨vs,e,k,q⟩:=r;exact⟨vs,by rw[upd_ne h];exact e,k,q.ext x⟩
 | ob n fs=>obtain⟨C,dx,vs,c,e,k,q⟩:=r;exact⟨C,dx,vs,c,by rw[upd_ne h];exact e,k,q.ext x⟩
theorem RepM.tup {p:Addr} {vs:List V} (r:RepM K H M) (h:H p=.none):RepM K (upd H p (.tup vs)) M:=fun a o e =>
 (r a o e).ext (.upd (.inl h)) fun z=>by subst z;rw[r.none h] at e;cases e
theorem RepM.lst {p:Addr} {vs:List V} {ds:List D} (r:RepM K H M) (h:H p=.none) (q:RelDs K H vs ds):RepM K (upd H p (.lst vs)) (M.upd p (.ls ds)):=fun a o e=>by
 by_cases z:a=p
 ·subst z;rw[mupd_same] at e;cases e;exact⟨vs,upd_same,q.ext (.upd (.inl h))⟩
 ·rw[mupd_ne z] at e;exact (r a o e).ext (.upd (.inl h)) z
theorem RepM.write {p:Addr} {ws vs:List V} {ds:List D} (r:RepM K H M) (h:H p=some (.lst ws)) (q:RelDs K H vs ds):RepM K (upd H p (.lst vs)) (M.upd p (.ls ds)):=fun a o e=>by
 have x:HExt K H (upd H p (.lst vs)):=.upd (.inr ⟨_,h,trivial⟩)
 by_cases z:a=p
 ·subst z;rw[mupd_same] at e;cases e;exact⟨vs,upd_same,q.ext x⟩
 ·rw[mupd_ne z] at e;exact (r a o e).ext x z
theorem RepM.nil:RepM K H (fun _=>Option.none):=fun _ _ e=>by cases e
end
noncomputable abbrev DE:=DSt->Mem->DK->Prop
noncomputable abbrev DT:=DSt->Mem->(Bool->Mem->Prop)->Prop
noncomputable abbrev DA:=DSt->Mem->(List D->Mem->Prop)->Prop
structure DEnds where
 nx:DSt->Mem->Prop
 rt:DK
 bk:DSt->Mem->Prop:=fun _ _=>False
 ct:DSt->Mem->Prop:=fun _ _=>False
 ex:DSt->DK:=fun _ _ _=>False
noncomputable abbrev DS:=DEnds->DSt->Mem->Prop
noncomputable abbrev DSp:=List D->Mem->DK->DK->Prop
noncomputable def NoneFld (H:Hp) (dd:Option Addr):Prop:=dd=none\/∃ d f,dd=some d/\H d=some (.ext (FldAt d f .non))
structure Thrown (P:Program) (w:World) (outer:List Env) (H:Hp) (s:Shared) (H':Hp) (e C:Addr) (dd:Option Addr) (s':Shared):Prop where
 ex:∃ B,s'.os=s.os/\AllBare s'.gens/\Un (frs outer) [] H H' s.heap s'.heap/\(∀ b o,s.heap.get? b=some o->H b=none->b ∉ frs outer->B.get? b=some o)/\HOk P w H' B/\Flies B outer e (.ref C) dd .none s'.heap
 cl:NoneFld H' dd->Clean s'.heap e
structure Back (P:Program) (w:World) (outer:List Env) (L:Addr) (H:Hp) (s:Shared) (H':Hp) (e C:Addr) (dd:Option Addr) (s':Shared):Prop where
 ex:∃ B,s'.os=s.os/\AllBare s'.gens/\Un (frs outer) [] H H' s.heap s'.heap/\(∀ b o,s.heap.get? b=some o->H b=none->b ∉ frs outer->B.get? b=some o)/\HOk P w H' B/\Flies B outer e (.ref C) dd (rawInt L) s'.heap
 cl:NoneFld H' dd->Clean s'.heap e
noncomputable def CXR (P:Program) (w:World):CXT:=fun outer H s E ev s'=>∃ e C dd H',ev=.ref e/\Thrown P w outer H s H' e C dd s'/\E (.ref C) dd H'
structure XeOk (X:Cx) (rz:Bool) (E:DSt->DK) (H:Hp):Prop where
 fly:∀ pins σ H1 s1 H' e C dd s' δ M' n x,HExt X.K H H'->L2.Inv X pins σ H1 s1->Thrown X.prog X.w X.stack H1 s1 H' e C dd s'->RepM X.K H' M'->Slots X.K H' δ σ->n∈xNames->ClsOf X.K n C->ExD X.K H' n dd x->E δ (.exc n x) M'->X.xe (.ref e) s'
 made:rz=true->∀ pins σ H' h e C dd s' δ M' n x,HExt X.K H H'->L2.Inv X pins σ H' {s' with heap:=h}->Made h s'.heap e (.ref C) dd->(NoneFld H' dd->Clean s'.heap e)->RepM X.K H' M'->Slots X.K H' δ σ->n∈xNames->ClsOf X.K n C->ExD X.K H' n dd x->E δ (.exc n x) M'->X.xe (.ref e) s'
 back:rz=true->∀ pins σ H1 s1 H' e C dd s' δ M' n x,HExt X.K H H'->L2.Inv X pins σ H1 s1->Back X.prog X.w X.stack X.env.locals H1 s1 H' e C dd s'->RepM X.K H' M'->Slots X.K H' δ σ->n∈xNames->ClsOf X.K n C->ExD X.K H' n dd x->E δ (.exc n x) M'->X.xe (.ref e) s'
noncomputable def _root_.L2.Cx.L (X:Cx) (rz:Bool) (E:DSt->DK):LK where
 K:=X.K
 ok:=XeOk X rz E
 mono:=fun H H' x h=>⟨fun pins σ H1 s1 H2 e C dd s' δ M' n xd y=>h.fly pins σ H1 s1 H2 e C dd s' δ M' n xd (x.trans y),fun r pins σ H2 h0 e C dd s' δ M' n xd y=>h.made r pins σ H2 h0 e C dd s' δ M' n xd (x.trans y),fun r pins σ H1 s1 H2 e C dd s' δ M' n xd y=>h.back r pins σ H1 s1 H2 e C dd s' δ M' n xd (x.trans y)⟩
noncomputable abbrev X0:DSt->DK:=fun _ _ _=>False
theorem xeOk0 {X:Cx} {rz:Bool} {H:Hp}:XeOk X rz X0 H:=⟨fun _ _ _ _ _ _ _ _ _ _ _ _ _ _ _ _ _ _ _ _ _ z=>z.elim,fun _ _ _ _ _ _ _ _ _ _ _ _ _ _ _ _ _ _ _ _ _ _ z=>z.elim,fun _ _ _ _ _ _ _ _ _ _ _ _ _ _ _ _ _ _ _ _ _ _ z=>z.elim⟩
section
variable (Λ:LK) (K:PySem.W.Frag)
noncomputable def lift (t:DE):TE:=fun σ H Q=>∃ δ M R,RepS Λ H δ σ/\RepM Λ.K H M/\t δ M R/\∀ d M' v H',HExt Λ.K H H'->RepM Λ.K H' M'->RelD Λ.K H' v d->R d M'->Q v H'
noncomputable def liftT (t:DT):TT:=fun σ H Q=>∃ δ M R,RepS Λ H δ σ/\RepM Λ.K H M/\t δ M R/\∀ b M' H',HExt Λ.K H H'->RepM Λ.K H' M'->R b M'->Q b H'
noncomputable def liftA (t:DA):TA:=fun σ H Q=>∃ δ M R,RepS Λ H δ σ/\RepM Λ.K H M/\t δ M R/\∀ ds M' vs H',HExt Λ.K H H'->RepM Λ.K H' M'->RelDs Λ.K H' vs ds->R ds M'->Q vs H'
noncomputable def liftS (X:Cx) (rz:Bool) (t:DS):TS:=fun E σ H=>∃ δ M D,RepS (X.L rz D.ex) H δ σ/\RepM X.K H M/\t D δ M /\
 (∀ δ' M' σ' H',HExt X.K H H'->RepS (X.L rz D.ex) H' δ' σ'->RepM X.K H' M'->D.nx δ' M'->E.nx σ' H') /\
 (∀ d M' v H',HExt X.K H H'->RepM X.K H' M'->RelD X.K H' v d->D.rt d M'->E.rt v H') /\
 (∀ δ' M' σ' H',HExt X.K H H'->RepS (X.L rz D.ex) H' δ' σ'->RepM X.K H' M'->D.bk δ' M'->E.bk σ' H') /\
 (∀ δ' M' σ' H',HExt X.K H H'->RepS (X.L rz D.ex) H' δ' σ'->RepM X.K H' M'->D.ct δ' M'->E.ct σ' H')
noncomputable def lift2 (f:D->D->Mem->DK->Prop):R2:=fun x y H Q=>∃ d e M R,RelD K H x d/\RelD K H y e/\RepM K H M/\f d e M R/\∀ d' M' v H',HExt K H H'->RepM K H' M'->RelD K H' v d'->R d' M'->Q v H'
noncomputable def liftC (f:List D->Mem->DK->Prop):List V->Hp->VK->Prop:=fun xs H Q=>∃ ds M R,RelDs K H xs ds/\RepM K H M/\f ds M R/\∀ d' M' v H',HExt K H H'->RepM K H' M'->RelD K H' v d'->R d' M'->Q v H'
noncomputable def liftSp (S:DSp):Sp:=fun xs H Q E=>∃ ds M R Ed,RelDs K H xs ds/\RepM K H M/\S ds M R Ed/\(∀ d' M' v H',HExt K H H'->RepM K H' M'->RelD K H' v d'->R d' M'->Q v H') /\
 ∀ n M' H' C dd x,HExt K H H'->RepM K H' M'->n∈xNames->ClsOf K n C->ExD K H' n dd x->Ed (.exc n x) M'->E (.ref C) dd H'
end
theorem _root_.L2.PE.imp {X:Cx} {e:Expr} {t t':TE} (h:PE X e t) (i:∀ σ H Q,t' σ H Q->t σ H Q):PE X e t':=fun pins s σ H Q I q=>h pins s σ H Q I (i _ _ _ q)
theorem _root_.L2.PT.imp {X:Cx} {e:Expr} {t t':TT} (h:PT X e t) (i:∀ σ H Q,t' σ H Q->t σ H Q):PT X e t':=fun pins s σ H Q I q=>h pins s σ H Q I (i _ _ _ q)
theorem _root_.L2.PA.imp {X:Cx} {e:List Expr} {t t':TA} (h:PA X e t) (i:∀ σ H Q,t' σ H Q->t σ H Q):PA X e t':=fun pos pins s σ H Q I q=>h pos pins s σ H Q I (i _ _ _ q)
theorem _root_.L2.PSs.imp {X:Cx} {e:List Stmt} {t t':TS} (h:PSs X e t) (i:∀ D σ H,t' D σ H->t D σ H):PSs X e t':=fun pins s σ H D I q=>h pins s σ H D I (i _ _ _ q)
theorem _root_.L2.OpR.imp {X:Cx} {f:Value->Value->Sem Value} {r r':R2} (h:OpR X f r) (i:∀ x y H Q,r' x y H Q->r x y H Q):OpR X f r':=fun pins s σ H x y v u Q I a b q=>h pins s σ H x y v u Q I a b (i _ _ _ _ q)
theorem _root_.L2.CallR.imp {X:Cx} {f:Value} {r r':List V->Hp->VK->Prop} (h:CallR X f r) (i:∀ x H Q,r' x H Q->r x H Q):CallR X f r':=fun pins s σ H x u Q I a q=>h pins s σ H x u Q I a (i _ _ _ q)
noncomputable def dVar (i:Nat):DE:=fun δ M Q=>∃ d,δ[i]?=some (some d)/\Q d M
noncomputable def dC (d:D):DE:=fun _ M Q=>Q d M
noncomputable def d2 (f:D->D->Mem->DK->Prop) (ta tb:DE):DE:=fun δ M Q=>ta δ M fun x M1=>tb δ M1 fun y M2=>f x y M2 Q
noncomputable def d1 (f:D->Mem->DK->Prop) (ta:DE):DE:=fun δ M Q=>ta δ M fun x M1=>f x M1 Q
noncomputable def dNil:DA:=fun _ M Q=>Q [] M
noncomputable def dCons (ta:DE) (tr:DA):DA:=fun δ M Q=>ta δ M fun x M1=>tr δ M1 fun xs M2=>Q (x::xs) M2
noncomputable def dTup (t:DA):DE:=fun δ M Q=>t δ M fun xs M1=>xs.length<=sizeLine/\Q (.tup xs) M1
noncomputable def dLst (t:DA):DE:=fun δ M Q=>t δ M fun xs M1=>xs.length<=sizeLine/\alloc M1 (.ls xs) fun p M'=>Q (.lst p) M'
noncomputable def dCB (f:List D->Mem->DK->Prop) (t:DA):DE:=fun δ M Q=>t δ M fun xs M1=>f xs M1 Q
noncomputable def dCall (S:DSp) (E:DSt->DK) (t:DA):DE:=fun δ M Q=>t δ M fun xs M1=>S xs M1 Q (E δ)
noncomputable def dTest (t:DE):DT:=fun δ M Q=>t δ M fun x M1=>∃ k,x=.bl k/\Q k M1
noncomputable def dAnd (t u:DT):DT:=fun δ M Q=>t δ M fun c M1=>if c=true then u δ M1 Q else Q false M1
noncomputable def dOr (t u:DT):DT:=fun δ M Q=>t δ M fun c M1=>if c=true then Q true M1 else u δ M1 Q
noncomputable def dNot (t:DT):DT:=fun δ M Q=>t δ M fun c M1=>Q (!c) M1
noncomputable def dAndV (ta tb:DE):DE:=fun δ M Q=>ta δ M fun x M1=>∃ c,x=.bl c/\if c=true then tb δ M1 Q else Q (.bl false) M1
noncomputable def dOrV (ta tb:DE):DE:=fun δ M Q=>ta δ M fun x M1=>∃ c,x=.bl c/\if c=true then Q (.bl true) M1 else tb δ M1 Q
noncomputable def dIfE (c:DT) (ta tb:DE):DE:=fun δ M Q=>c δ M fun b M1=>if b=true then ta δ M1 Q else tb δ M1 Q
section
variable {X:Cx} {rz:Bool} {E:DSt->DK} {a b c:Expr} {ta tb tc:DE} {pos:Pos}
theorem seq2 {Λ:LK} {σ:L2.St} {H:Hp} {δ:DSt} {M:Mem} {R:D->D->Mem->Prop} {Q:V->V->Hp->Prop} (rs:RepS Λ H δ σ) (rm:RepM Λ.K H M) (h:ta δ M fun x M1=>tb δ M1 fun y M2=>R x y M2)
  (q:∀ x y M2 v u H2,HExt Λ.K H H2->RepM Λ.K H2 M2->RelD Λ.K H2 v x->RelD Λ.K H2 u y->R x y M2->Q v u H2):lift Λ ta σ H fun v H1=>lift Λ tb σ H1 fun u H2=>Q v u H2 :=
 ⟨δ,M,_,rs,rm,h,fun _ _ _ _ x1 m1 r1 h1=>⟨δ,_,_,rs.ext x1,m1,h1,fun _ _ _ _ x2 m2 r2 h2=>q _ _ _ _ _ _ (x1.trans x2) m2 (r1.ext x2) r2 h2⟩⟩
theorem de_var {i:Nat} (h:PE X a (tVar i)):PE X a (lift (X.L rz E) (dVar i)):=by
 refine h.imp ?_
 rintro σ H Q ⟨δ,M,R,rs,rm,⟨d,e,r⟩,q⟩
 obtain⟨v,h1,h2⟩:=rs.slot i d e
 exact⟨v,h1,q _ _ _ _ (.refl H) rm h2 r⟩
theorem de_con {d:D} {v:V} (h:PE X a (tC v)) (r:∀ H,RelD X.K H v d):PE X a (lift (X.L rz E) (dC d)):=by
 refine h.imp ?_
 rintro σ H Q ⟨δ,M,R,rs,rm,t,q⟩
 exact q _ _ _ _ (.refl H) rm (r H) t
theorem d2_op {Λ:LK} {f:D->D->Mem->DK->Prop} {σ:L2.St} {H:Hp} {Q:VK} (h:lift Λ (d2 f ta tb) σ H Q):tOp (lift2 Λ.K f) (lift Λ ta) (lift Λ tb) σ H Q:=by
 obtain⟨δ,M,R,rs,rm,t,q⟩:=h
 exact seq2 (R:=fun x y M2=>f x y M2 R) rs rm t fun x y M2 v u H2 x2 m2 r1 r2 t2=>⟨x,y,M2,R,r1,r2,m2,t2,fun d M' w H' x3 m3 r3=>q d M' w H' (x2.trans x3) m3 r3⟩
theorem de_bin {op:Operator} {f:D->D->Mem->DK->Prop} (ho:OpR X (binaryOp op) (lift2 X.K f)) (ha:PE X a (lift (X.L rz E) ta)) (hb:PE X b (lift (X.L rz E) tb)):PE X (.BinOp a op b pos) (lift (X.L rz E) (d2 f ta tb)) :=
 (pe_op ho ha hb).imp fun _ _ _=>d2_op
end
end DL
end
noncomputable section
namespace DL
open PySem PySem.Spec PyProof.Rows L2
theorem noFill_tuple_mul:fillsNumberSlot (.type "tuple") "mul"=pure false :=
 PySem.fillsNumberSlot_seq (id:="tuple.__mul__") (r:=some (.builtin "tuple.__rmul__")) PySem.F.slot_tuple_mul.lookup (by decide +kernel) PySem.F.slot_tuple_rmul.lookup (by decide +kernel)
theorem repeat_tuple:seqRepeat? (.type "tuple")=pure (some (.builtin "tuple.__mul__")):=by
 unfold seqRepeat?
 rw[PySem.seqSlot_of (T:="tuple") (name:="__mul__") (id:="tuple.__mul__") PySem.F.slot_tuple_mul.lookup (by decide +kernel),PySem.seqSlot_of (T:="tuple") (name:="__rmul__") (id:="tuple.__rmul__") PySem.F.slot_tuple_rmul.lookup (by decide +kernel)]
 rfl
theorem int_rmul_tuple (a:Int) (t:Tok) (l:Addr) (items:Array Value) (n:Nat) (dd:Option Addr) (sl:Array (Option Value)) :
  Meets (Builtin.«int.__rmul__» ⟨[.int a t,.ref l],[]⟩) (fun _ R s=>s.heap.get? l=some {cls:=.type "tuple",dict:=dd,data:=.seq items n,slots:=sl}/\R (.ok (.ret Value.notImplemented)) s) :=
 .of_wp fun prog w A R s h=>by obtain⟨hp,g,d,tk,os⟩:=s;obtain⟨hl,h⟩:=h;wp_walk;exact⟨_,rfl,h⟩
theorem tuple_mul (l:Addr) (items:Array Value) (n:Nat) (dd:Option Addr) (sl:Array (Option Value)) (x:Int) (u:Tok) (h0:¬ items.isEmpty=true) (h2:2<=x) (h3:x<1000000) (hs:items.size*x.toNat<=16777216) :
  Meets (Builtin.«tuple.__mul__» ⟨[.ref l,.int x u],[]⟩) (fun _ R s=>s.heap.get? l=some {cls:=.type "tuple",dict:=dd,data:=.seq items n,slots:=sl}/\R (.ok (.ret (Value.ref s.heap.objs.size))) {s with heap:=s.heap.push {cls:=Value.type "tuple",data:=Data.seq (List.foldl (fun x1 x2=>x1++x2) #[] (List.replicate x.toNat items))}}) :=
 .of_wp fun prog w A R s h=>by
  obtain⟨hp,g,d,tk,os⟩:=s;obtain⟨hl,h⟩:=h
  have c1:¬ (decide (x < -2 ^ 63) || decide (x ≥ 2 ^ 63))=true:=by simp;omega
  have c2:¬ (items.isEmpty || x==1)=true:=by
   have:¬ x=1:=by omega
   simp[this];simpa using h0
  have c3:¬ (decide (x<=0) || items.isEmpty)=true:=by
   have:¬ x<=0:=by omega
   simp[this];simpa using h0
  have e:(items.size:Int)*x=((items.size*x.toNat:Nat):Int):=by
   rw[Int.natCast_mul,Int.toNat_of_nonneg (by omega)]
  have c4:¬ ((items.size:Int)*x > (2 ^ 63-1) / 8):=by rw[e];omega
  have c5:¬ Builtin.Tuple.tupleTooMany ((items.size:Int)*x)=true:=by
   rw[Bool.not_eq_true]
   unfold Builtin.Tuple.tupleTooMany
   rw[e]
   refine decide_eq_false ?_
   have:(sizeLine:Int)=16777216:=by decide
   omega
  have c6:¬ (List.foldl (fun x1 x2=>x1++x2) #[] (List.replicate x.toNat items)).size > sizeLine:=by
   have:(List.foldl (fun x1 x2=>x1++x2) #[] (List.replicate x.toNat items)).size=x.toNat*items.size:=by
    have:=foldl_rep items.toList x.toNat []
    rw[List.nil_append] at this
    have e2:(List.foldl (fun x1 x2=>x1++x2) #[] (List.replicate x.toNat items))=(List.replicate x.toNat items.toList).flatten.toArray:=this
    rw[e2,List.size_toArray,len_rep];simp
   rw[this,Nat.mul_comm]
   exact Nat.not_lt.mpr hs
  wp_walk
  iterate 5
   (try (first|refine wpAny_ite_false (decide_eq_false c1) ?_|refine wpAny_ite_false (decide_eq_false c2) ?_|refine wpAny_ite_false (decide_eq_false c3) ?_|refine wpAny_ite_false (decide_eq_false c4) ?_|refine wpAny_ite_false (decide_eq_false c5) ?_))
   (try wp_walk)
  exact⟨_,rfl,h⟩
section
variable {X:Cx}
noncomputable def rRepT (K:PySem.W.Frag):R2:=fun x y H Q=>∃ a k xs,x=.ref a/\y=.int k/\SqT K H a xs/\xs≠[]/\2<=k/\k<1000000/\xs.length*k.toNat<=sizeLine /\
 ∀ p,H p=none->Q (.ref p) (upd H p (.tup (List.replicate k.toNat xs).flatten))
theorem op_repT:OpR X (binaryOp .Mult) (rRepT X.K):=by
 intro pins s σ H x y v u Q I rx ry h
 obtain⟨a,k,xs,rfl,rfl,ha,hx,h1,h2,hz,q⟩:=h
 cases rx
 obtain⟨t,rfl⟩:=ry
 obtain⟨its,r1,p1,_⟩:=I.tuple ha
 obtain⟨⟨cls,dd,data,sl⟩,ho,hc,n,hd⟩:=id p1
 simp only at hc hd
 subst hc hd
 have hnew:List.foldl (fun x1 x2=>x1++x2) #[] (List.replicate k.toNat its.toArray)=(List.replicate k.toNat its).flatten.toArray:=by
  have:=foldl_rep its k.toNat []
  rw[List.nil_append] at this
  exact this
 have hne:¬ its.toArray.isEmpty=true:=by
  have:its≠[]:=fun z=>hx (r1.nil_iff.mp z)
  simpa using this
 have hl:xs.length=its.length:=r1.length
 refine wpAny_binaryOp_repeat_ref (T:="tuple") (U:="int") (by decide) ⟨_,ho,rfl⟩ (fun s'=>typeIs_int s' k t) noFill_tuple_mul PySem.F.fills_int_mul PySem.F.slot_int_rmul repeat_tuple PySem.F.slot_int_index.lookup
  (call_meets PySem.F.slot_int_rmul (typeIs_int s k t) PySem.F.entry_int_rmul (PySem.F.args_int_rmul_2 _ _) (int_rmul_tuple k t a its.toArray n dd sl)
   ⟨ho,rfl,⟨_,ho,rfl⟩,call_meets PySem.F.slot_tuple_mul ⟨_,ho,rfl⟩ PySem.F.entry_tuple_mul (PySem.F.args_tuple_mul_2 _ _) (tuple_mul a its.toArray n dd sl k t hne h1 h2 (by rw[List.size_toArray,<- hl];exact hz)) ⟨ho,?_⟩⟩)
 rw[hnew]
 refine⟨.ref s.heap.objs.size,_,I.laid (t':=s.toks) (o:=.tup (List.replicate k.toNat xs).flatten) (fun b ob q=>Heap.get?_push_of_some _ q) (Nat.le_refl _) ?_,rfl,q _ (I.hok.fresh (Nat.le_refl _))⟩
 exact⟨by rw[len_rep,Nat.mul_comm];exact hz,_,r1.rep k.toNat,IsTup.new _ _⟩
end
end DL
end
noncomputable section
namespace DL
open PySem PySem.Spec PyProof.Rows L2
section
variable {prog:Program} {w:World} {A:Around} {E:Value->Shared->Prop} {s:Shared}
open HT
theorem getItem_tuple_whole {t sl:Addr} {items:Array Value} {vl vu:Value} {lo hi:Option Int} {Q:Value->Shared->Prop} (ht:IsTup s.heap t items) (hs:s.heap.IsSliceOf sl vl vu .none) (pl:IsPart vl lo) (pu:IsPart vu hi)
  (hw:sIx items.size 0 lo=0/\sIx items.size items.size hi=items.size) (h:Q (.ref t) s):wpAny (model prog w) A (getItem (.ref t) (.ref sl)) Q E s:=by
 obtain⟨os,hos,hcs,hds⟩:=id hs
 have hTs:s.TypeIs (.ref sl) "slice":=⟨os,hos,hcs⟩
 unfold getItem
 try with_reducible refine wpAny_holding ?_
 first|refine wpAny_bind (wpAny_pure ?_)|skip
 refine wpAny_bind (wpAny_sequenceKey ht.typeIs (by decide) ?_)
 refine wpAny_bind (wpAny_callSpecial?_slot (name:=Str.ofString "__getitem__") ht.typeIs PyProof.Rows.slot_tuple_getitem
  (wpAny_call_entry PyProof.Rows.slot_tuple_getitem ht.typeIs entry_tuple_getitem ?_ (args_tuple_getitem _ _)))
 show wpAny _ _ (Builtin.Tuple.tupleItemsOf (.ref t) >>= _) _ _ s
 refine wpAny_bind (tupleItemsOf_ ht ?_)
 refine wpAny_bind (wpAny_typeOf hTs ?_)
 rw[if_pos (by decide)]
 refine wpAny_bind (sliceApplied_gen hs pl pu ?_)
 rw[hw.1,hw.2]
 show wpAny _ _ (if (((0:Nat):Int)==0&&(1:Int)==1&&(items.size-0)==items.size)=true then _ else _) _ _ s
 rw[if_pos (by simp)]
 have hT:=ht.typeIs
 unfold Builtin.Tuple.tupleIsExact
 refine wpAny_bind (wpAny_bind (wpAny_typeOf hT ?_))
 refine wpAny_pure ?_
 rw[if_pos (by decide)]
 refine wpAny_bind (wpAny_rule ?_)
 exact wpAny_pure ⟨_,rfl,wpAny_pure h⟩
end
theorem tuple_mul1 (l:Addr) (items:Array Value) (n:Nat) (dd:Option Addr) (sl:Array (Option Value)) (x:Int) (u:Tok) (h0:(items.isEmpty || x==1)=true) (h2:0<=x) (h3:x<1000000) :
  Meets (Builtin.«tuple.__mul__» ⟨[.ref l,.int x u],[]⟩) (fun _ R s=>s.heap.get? l=some {cls:=.type "tuple",dict:=dd,data:=.seq items n,slots:=sl}/\R (.ok (.ret (Value.ref l))) s) :=
 .of_wp fun prog w A R s h=>by
  obtain⟨hp,g,d,tk,os⟩:=s;obtain⟨hl,h⟩:=h
  have c1:¬ (decide (x < -2 ^ 63) || decide (x ≥ 2 ^ 63))=true:=by simp;omega
  wp_walk
  iterate 5
   (try (first|refine wpAny_ite_false (decide_eq_false c1) ?_|refine wpAny_ite_true (decide_eq_true h0) ?_))
   (try wp_walk)
  exact⟨_,rfl,h⟩
theorem tuple_mul0 (l:Addr) (items:Array Value) (n:Nat) (dd:Option Addr) (sl:Array (Option Value)) (u:Tok) (h0:¬ items.isEmpty=true) :
  Meets (Builtin.«tuple.__mul__» ⟨[.ref l,.int 0 u],[]⟩) (fun _ R s=>s.heap.get? l=some {cls:=.type "tuple",dict:=dd,data:=.seq items n,slots:=sl}/\R (.ok (.ret (Value.ref s.heap.objs.size))) {s with heap:=s.heap.push {cls:=Value.type "tuple",data:=Data.seq #[]}}) :=
 .of_wp fun prog w A R s h=>by
  obtain⟨hp,g,d,tk,os⟩:=s;obtain⟨hl,h⟩:=h
  have c2:¬ (items.isEmpty || (0:Int)==1)=true:=by simpa using h0
  have c3:(decide ((0:Int)<=0) || items.isEmpty)=true:=by simp
  wp_walk
  iterate 5
   (try (first|refine wpAny_ite_false (decide_eq_false c2) ?_|refine wpAny_ite_true (decide_eq_true c3) ?_))
   (try wp_walk)
  exact⟨_,rfl,h⟩
section
variable {X:Cx}
theorem sl_tupW:SlR X (fun x lo hi H Q=>∃ a xs,x=.ref a/\SqT X.K H a xs/\(HT.sIx xs.length 0 lo=0/\HT.sIx xs.length xs.length hi=xs.length)/\Q (.ref a) H):=by
 intro pins s σ H x v vl vu lo hi sl Q I rx hs pl pu h
 obtain⟨a,xs,rfl,hx,hw,q⟩:=h
 cases rx
 obtain⟨its,r,ht,hz⟩:=I.tuple hx
 have hlen:its.toArray.size=xs.length:=by rw[List.size_toArray];exact r.length.symm
 refine⟨"tuple",_,PyProof.Rows.slot_tuple_getitem.lookup,ht.typeIs,?_⟩
 exact getItem_tuple_whole ht hs pl pu (by rw[hlen];exact hw) ⟨.ref a,H,I,rfl,q⟩
theorem op_catT0:OpR X (binaryOp .Add) (fun x y H Q=>∃ a b ys,x=.ref a/\y=.ref b/\SqT X.K H a []/\SqT X.K H b ys/\Q (.ref b) H):=by
 intro pins s σ H x y v u Q I rx ry h
 obtain⟨a,b,ys,rfl,rfl,ha,hb,q⟩:=h
 cases rx
 cases ry
 obtain⟨its,r1,p1,_⟩:=I.tuple ha
 obtain⟨its2,r2,p2,_⟩:=I.tuple hb
 cases r1
 obtain⟨⟨cls,dd,data,sl⟩,ho,hc,n,hd⟩:=id p1
 obtain⟨⟨cls2,dd2,data2,sl2⟩,ho2,hc2,n2,hd2⟩:=id p2
 simp only at hc hd hc2 hd2
 subst hc hd hc2 hd2
 exact concat_meets ⟨_,ho,rfl⟩ ⟨_,ho2,rfl⟩ noFill_tuple_add seq_tuple_add PySem.F.slot_tuple_add PySem.F.entry_tuple_add (PySem.F.args_tuple_add_2 _ _)
  (PyProof.Rows.tuple_addW0 a b _ its2.toArray n n2 dd dd2 sl sl2 rfl) ⟨ho,ho2,.ref b,H,I,rfl,q⟩
theorem op_repT1:OpR X (binaryOp .Mult) (fun x y H Q=>∃ a k xs,x=.ref a/\y=.int k/\SqT X.K H a xs/\(xs=[]\/k=1)/\0<=k/\k<1000000/\Q (.ref a) H):=by
 intro pins s σ H x y v u Q I rx ry h
 obtain⟨a,k,xs,rfl,rfl,ha,hx,h1,h2,q⟩:=h
 cases rx
 obtain⟨t,rfl⟩:=ry
 obtain⟨its,r1,p1,_⟩:=I.tuple ha
 obtain⟨⟨cls,dd,data,sl⟩,ho,hc,n,hd⟩:=id p1
 simp only at hc hd
 subst hc hd
 have hne:(its.toArray.isEmpty || k==1)=true:=by
  rcases hx with rfl|rfl
  ·cases r1;rfl
  ·simp
 refine wpAny_binaryOp_repeat_ref (T:="tuple") (U:="int") (by decide) ⟨_,ho,rfl⟩ (fun s'=>typeIs_int s' k t) noFill_tuple_mul PySem.F.fills_int_mul PySem.F.slot_int_rmul repeat_tuple PySem.F.slot_int_index.lookup
  (call_meets PySem.F.slot_int_rmul (typeIs_int s k t) PySem.F.entry_int_rmul (PySem.F.args_int_rmul_2 _ _) (int_rmul_tuple k t a its.toArray n dd sl)
   ⟨ho,rfl,⟨_,ho,rfl⟩,call_meets PySem.F.slot_tuple_mul ⟨_,ho,rfl⟩ PySem.F.entry_tuple_mul (PySem.F.args_tuple_mul_2 _ _) (tuple_mul1 a its.toArray n dd sl k t hne h1 h2) ⟨ho,?_⟩⟩)
 exact⟨.ref a,H,I,rfl,q⟩
theorem op_repT0:OpR X (binaryOp .Mult) (fun x y H Q=>∃ a xs,x=.ref a/\y=.int 0/\SqT X.K H a xs/\xs≠[]/\∀ p,H p=none->Q (.ref p) (upd H p (.tup []))):=by
 intro pins s σ H x y v u Q I rx ry h
 obtain⟨a,xs,rfl,rfl,ha,hx,q⟩:=h
 cases rx
 obtain⟨t,rfl⟩:=ry
 obtain⟨its,r1,p1,_⟩:=I.tuple ha
 obtain⟨⟨cls,dd,data,sl⟩,ho,hc,n,hd⟩:=id p1
 simp only at hc hd
 subst hc hd
 have hne:¬ its.toArray.isEmpty=true:=by
  have:its≠[]:=fun z=>hx (r1.nil_iff.mp z)
  simpa using this
 refine wpAny_binaryOp_repeat_ref (T:="tuple") (U:="int") (by decide) ⟨_,ho,rfl⟩ (fun s'=>typeIs_int s' 0 t) noFill_tuple_mul PySem.F.fills_int_mul PySem.F.slot_int_rmul repeat_tuple PySem.F.slot_int_index.lookup
  (call_meets PySem.F.slot_int_rmul (typeIs_int s 0 t) PySem.F.entry_int_rmul (PySem.F.args_int_rmul_2 _ _) (int_rmul_tuple 0 t a its.toArray n dd sl)
   ⟨ho,rfl,⟨_,ho,rfl⟩,call_meets PySem.F.slot_tuple_mul ⟨_,ho,rfl⟩ PySem.F.entry_tuple_mul (PySem.F.args_tuple_mul_2 _ _) (tuple_mul0 a its.toArray n dd sl t hne) ⟨ho,?_⟩⟩)
 refine⟨.ref s.heap.objs.size,_,I.laid (t':=s.toks) (o:=.tup []) (fun b ob q=>Heap.get?_push_of_some _ q) (Nat.le_refl _) ?_,rfl,q _ (I.hok.fresh (Nat.le_refl _))⟩
 exact⟨Nat.zero_le _,_,.nil,IsTup.new _ _⟩
end
end DL
end
noncomputable section
namespace DL
open PySem PySem.Spec PyProof.Rows L2
section
variable {prog:Program} {w:World} {A:Around} {E:Value->Shared->Prop} {s:Shared}
theorem nx_item {j b:Addr} {n:Nat} {vs:Array Value} {v:Value} {Q:Value->Shared->Prop} (hj:s.heap.IsTupleIter j b n) (hb:s.heap.IsTuple b vs) (hv:vs[n]?=some v)
  (q:∀ g,g.IsTupleIter j b (n+1)->Heap.SameBut j s.heap g->Q v {s with heap:=g}):wpAny (model prog w) A (Builtin.SmallTypes.nextOf (.ref j)) Q E s:=by
 obtain⟨o,e1,e2,e3⟩:=id hj
 obtain⟨p,f1,_,m,f3⟩:=hb
 unfold Builtin.SmallTypes.nextOf
 refine wpAny_bind (wpAny_callSpecial?_slot (name:=Str.ofString "__next__") hj.typeIs F.slot_tuple_iterator_next (wpAny_call_entry F.slot_tuple_iterator_next hj.typeIs F.entry_tuple_iterator_next ?_ (F.args_tuple_iterator_next_1 _)))
 show wpAny _ _ (field (.ref j) 0 >>= _) _ _ s
 refine wpAny_bind (wpAny_field e1 e3 (x:=.ref b) rfl ?_)
 show wpAny _ _ (if (Value.ref b==Value.none)=true then _ else _) _ _ s
 rw[if_neg (show ¬ ((Value.ref b==Value.none)=true) from Bool.false_ne_true)]
 show wpAny _ _ (field (.ref j) 1 >>= _) _ _ s
 refine wpAny_bind (wpAny_field e1 e3 (x:=.int n 0) rfl ?_)
 show wpAny _ _ (seqItems? (.ref b) >>= _) _ _ s
 refine wpAny_bind (wpAny_seqItems f1 f3 ?_)
 simp only[Int.toNat_natCast,hv]
 refine wpAny_bind (wpAny_setField e1 e3 (by simp) (wpAny_pure ⟨v,rfl,wpAny_pure (q _ ?_ (Heap.SameBut.update ..))⟩))
 exact⟨_,Heap.get?_update_self _ e1 (Obj.isFreed_of_fields (Obj.data_mapFields e3 _)),(Obj.cls_mapFields ..).trans e2,by rw[Obj.data_mapFields e3];simp[rawInt]⟩
theorem nx_end {j b:Addr} {n:Nat} {vs:Array Value} {Q:Value->Shared->Prop} (hh:A.handled=none) (hj:s.heap.IsTupleIter j b n) (hb:s.heap.IsTuple b vs) (hv:vs[n]?=none)
  (q:∀ g e,Heap.ExtBut j s.heap g->(∃ o,g.get? e=some o/\o.cls=.type "StopIteration")->E (.ref e) {s with heap:=g}):wpAny (model prog w) A (Builtin.SmallTypes.nextOf (.ref j)) Q E s:=by
 obtain⟨o,e1,e2,e3⟩:=id hj
 obtain⟨p,f1,_,m,f3⟩:=hb
 unfold Builtin.SmallTypes.nextOf
 refine wpAny_bind (wpAny_callSpecial?_slot (name:=Str.ofString "__next__") hj.typeIs F.slot_tuple_iterator_next (wpAny_call_entry F.slot_tuple_iterator_next hj.typeIs F.entry_tuple_iterator_next ?_ (F.args_tuple_iterator_next_1 _)))
 show wpAny _ _ (field (.ref j) 0 >>= _) _ _ s
 refine wpAny_bind (wpAny_field e1 e3 (x:=.ref b) rfl ?_)
 show wpAny _ _ (if (Value.ref b==Value.none)=true then _ else _) _ _ s
 rw[if_neg (show ¬ ((Value.ref b==Value.none)=true) from Bool.false_ne_true)]
 show wpAny _ _ (field (.ref j) 1 >>= _) _ _ s
 refine wpAny_bind (wpAny_field e1 e3 (x:=.int n 0) rfl ?_)
 show wpAny _ _ (seqItems? (.ref b) >>= _) _ _ s
 refine wpAny_bind (wpAny_seqItems f1 f3 ?_)
 simp only[Int.toNat_natCast,hv]
 refine wpAny_bind (wpAny_rule (wpAny_bind (wpAny_setField e1 e3 (by simp) ?_)))
 show wpAny _ _ (newExc (.type "StopIteration") [] >>= _) _ _ _;refine wpAny_bind ?_;simp only[newExc,newTuple]
 refine wpAny_bind (wpAny_newObj_type ?_ (by size_fits));refine wpAny_bind (m:=firstArgMember _ _) (wpAny_of_eq (a:=Value.none) (by first|rfl|(simp only[firstArgMember];rfl)) ?_)
 refine wpAny_newObj_type ?_ (by size_fits);simp only[raiseNew];refine wpAny_bind (wpAny_handled ?_)
 (first|rw [show A.in1.handled=none from hh]|rw [hh]);refine wpAny_bind (wpAny_pure (wpAny_throw ?_))
 exact q _ _ (((Heap.SameBut.update ..).extBut.push _).push _) ⟨_,Heap.get?_push_size _ rfl,rfl⟩
theorem zp_item {z u v i j b c:Addr} {n:Nat} {xs ys:Array Value} {x y a d:Value} {Q:Value->Shared->Prop} (D:ZipApart z u v i j b c)
  (hz:IsZip s.heap z u v .none) (hu:IsPair s.heap u (.ref i) (.ref j)) (hv:IsPair s.heap v a d) (h1:s.heap.IsTupleIter i b n) (h2:s.heap.IsTupleIter j c n) (hb:s.heap.IsTuple b xs) (hc:s.heap.IsTuple c ys) (hx:xs[n]?=some x) (hy:ys[n]?=some y)
  (q:∀ g,IsZip g z u v (rawInt s.heap.objs.size)->IsPair g v x y->g.IsTupleIter i b (n+1)->g.IsTupleIter j c (n+1)->IsPair g s.heap.objs.size x y->g.objs.size=s.heap.objs.size+1 ->
   (∀ k o,k≠z->k≠v->k≠i->k≠j->s.heap.get? k=some o->g.get? k=some o)->Q (.ref s.heap.objs.size) {s with heap:=g}) :
  wpAny (model prog w) A (Builtin.«zip.__next__» ⟨[.ref z],[]⟩) (fun r s'=>∃ t,r=.done (.ret t)/\Q t s') E s:=by
 show wpAny _ _ (field (.ref z) 2 >>= _) _ _ _;refine wpAny_bind (wpAny_field hz rfl (x:=.bool false) rfl ?_)
 show wpAny _ _ (field (.ref z) 3 >>= _) _ _ _;refine wpAny_bind (wpAny_field hz rfl (x:=.ref u) rfl ?_)
 refine wpAny_bind (wpAny_seqItems hu rfl ?_)
 show wpAny _ _ (Builtin.SmallTypes.ownedTupleIsFree (.ref z) >>= _) _ _ _;refine wpAny_bind ?_;unfold Builtin.SmallTypes.ownedTupleIsFree
 refine wpAny_bind (wpAny_field hz rfl (x:=.none) rfl (wpAny_pure ?_));simp only[if_true];refine wpAny_bind (wpAny_rule ?_)
 refine wpAny_bind (wpAny_field hz rfl (x:=.ref v) rfl ?_)
 refine wpAny_bind (wpAny_setField_rec hz (by simp) fun g1 z1 s1=>?_)
 replace z1:IsZip g1 z u v .ellipsis:=z1
 refine wpAny_bind ?_;simp only[List.zipIdx_cons,List.zipIdx_nil,List.forIn_cons,List.forIn_nil];refine wpAny_bind (wpAny_bind (wpAny_onRaise ?_))
 show wpAny _ _ (Builtin.SmallTypes.nextOf (.ref i) >>= _) _ _ _
 refine wpAny_bind (nx_item (h1.extBut s1.extBut D.i1z) (hb.extBut s1.extBut D.l1z) hx fun g2 j2 s2=>wpAny_pure ?_)
 have v2:IsPair g2 v a d:=s2.extBut _ _ D.TOi1 (s1.extBut _ _ D.TOz hv)
 refine wpAny_bind (wpAny_seqItems v2 rfl ?_)
 refine wpAny_bind (wpAny_updateSeq_pair v2 fun g3 v3 s3=>?_)
 replace v3:IsPair g3 v x d:=v3
 refine wpAny_bind (wpAny_letGo (wpAny_pure ?_));refine wpAny_bind (wpAny_bind (wpAny_onRaise ?_))
 show wpAny _ _ (Builtin.SmallTypes.nextOf (.ref j) >>= _) _ _ _
 refine wpAny_bind (nx_item (((h2.extBut s1.extBut D.i2z).extBut s2.extBut D.i12.symm).extBut s3.extBut D.TOi2.symm) (((hc.extBut s1.extBut D.l2z).extBut s2.extBut D.l2i1).extBut s3.extBut D.l2TO) hy fun g4 j4 s4=>wpAny_pure ?_)
 have v4:IsPair g4 v x d:=s4.extBut _ _ D.TOi2 v3
 refine wpAny_bind (wpAny_seqItems v4 rfl ?_)
 refine wpAny_bind (wpAny_updateSeq_pair v4 fun g5 v5 s5=>?_)
 replace v5:IsPair g5 v x y:=v5
 refine wpAny_bind (wpAny_letGo (wpAny_pure (wpAny_pure ?_)));refine wpAny_bind (wpAny_seqItems v5 rfl ?_);refine wpAny_bind (wpAny_newTuple ?_)
 have sz:g5.objs.size=s.heap.objs.size:=by rw[s5.1,s4.1,s3.1,s2.1,s1.1]
 have z5:IsZip g5 z u v .ellipsis:=s5.extBut _ _ D.TOz.symm (s4.extBut _ _ D.i2z.symm (s3.extBut _ _ D.TOz.symm (s2.extBut _ _ D.i1z.symm z1)))
 have k5:∀ k o,k≠z->k≠v->k≠i->k≠j->s.heap.get? k=some o->g5.get? k=some o:=fun k o c1 c2 c3 c4 e=>s5.extBut _ _ c2 (s4.extBut _ _ c4 (s3.extBut _ _ c2 (s2.extBut _ _ c3 (s1.extBut _ _ c1 e))))
 have a5:g5.IsTupleIter i b (n+1):=((j2.extBut s3.extBut D.TOi1.symm).extBut s4.extBut D.i12).extBut s5.extBut D.TOi1.symm
 have b5:g5.IsTupleIter j c (n+1):=j4.extBut s5.extBut D.TOi2.symm
 have lz:z<g5.objs.size:=Heap.lt_size z5
 show wpAny _ _ (Builtin.SmallTypes.ownedTupleHandOut (.ref z) (.ref g5.objs.size) >>= _) _ _ _;refine wpAny_bind ?_;unfold Builtin.SmallTypes.ownedTupleHandOut
 have z6:IsZip (g5.push {cls:=.type "tuple",data:=.seq #[x,y]}) z u v .ellipsis:=Heap.get?_push_of_some _ z5
 refine wpAny_bind (wpAny_setField_rec z6 (by simp) fun g7 z7 s7=>?_)
 replace z7:IsZip g7 z u v (rawInt g5.objs.size):=z7
 refine wpAny_setField_rec z7 (by simp) fun g8 z8 s8=>?_
 replace z8:IsZip g8 z u v (rawInt g5.objs.size):=z8
 have up:∀ k o,k≠z->g5.get? k=some o->g8.get? k=some o:=fun k o c1 e=>s8.extBut _ _ c1 (s7.extBut _ _ c1 (Heap.get?_push_of_some _ e))
 have t8:IsPair g8 g5.objs.size x y:=s8.extBut _ _ (Nat.ne_of_gt lz) (s7.extBut _ _ (Nat.ne_of_gt lz) (Heap.get?_push_size _ rfl))
 have n8:g8.objs.size=g5.objs.size+1:=by rw[s8.1,s7.1,Heap.size_push]
 rw[sz] at z8 t8 n8
 refine wpAny_pure ⟨_,rfl,?_⟩;show Q (.ref g5.objs.size) _;rw[sz]
 exact q g8 z8 (up _ _ D.TOz v5) (a5.at fun o e=>up _ o D.i1z e) (b5.at fun o e=>up _ o D.i2z e) t8 n8 fun k o c1 c2 c3 c4 e=>up k o c1 (k5 k o c1 c2 c3 c4 e)
theorem zp_end {z u v i j b c:Addr} {n:Nat} {xs ys:Array Value} {a d:Value} {Q:Fin->Shared->Prop} (hh:A.handled=none) (D:ZipApart z u v i j b c)
  (hz:IsZip s.heap z u v .none) (hu:IsPair s.heap u (.ref i) (.ref j)) (hv:IsPair s.heap v a d) (h1:s.heap.IsTupleIter i b n) (h2:s.heap.IsTupleIter j c n) (hb:s.heap.IsTuple b xs) (hc:s.heap.IsTuple c ys) (he:xs[n]?=none\/ys[n]?=none)
  (q:∀ g e,(∀ k o,k≠z->k≠v->k≠i->k≠j->s.heap.get? k=some o->g.get? k=some o)->(∃ o,g.get? e=some o/\o.cls=.type "StopIteration")->E (.ref e) {s with heap:=g}) :
  wpAny (model prog w) A (Builtin.«zip.__next__» ⟨[.ref z],[]⟩) Q E s:=by
 show wpAny _ _ (field (.ref z) 2 >>= _) _ _ _;refine wpAny_bind (wpAny_field hz rfl (x:=.bool false) rfl ?_)
 show wpAny _ _ (field (.ref z) 3 >>= _) _ _ _;refine wpAny_bind (wpAny_field hz rfl (x:=.ref u) rfl ?_)
 refine wpAny_bind (wpAny_seqItems hu rfl ?_)
 show wpAny _ _ (Builtin.SmallTypes.ownedTupleIsFree (.ref z) >>= _) _ _ _;refine wpAny_bind ?_;unfold Builtin.SmallTypes.ownedTupleIsFree
 refine wpAny_bind (wpAny_field hz rfl (x:=.none) rfl (wpAny_pure ?_));simp only[if_true];refine wpAny_bind (wpAny_rule ?_)
 refine wpAny_bind (wpAny_field hz rfl (x:=.ref v) rfl ?_)
 refine wpAny_bind (wpAny_setField_rec hz (by simp) fun g1 z1 s1=>?_)
 replace z1:IsZip g1 z u v .ellipsis:=z1
 refine wpAny_bind ?_;simp only[List.zipIdx_cons,List.zipIdx_nil,List.forIn_cons,List.forIn_nil];refine wpAny_bind (wpAny_bind (wpAny_onRaise ?_))
 show wpAny _ _ (Builtin.SmallTypes.nextOf (.ref i) >>= _) _ _ _
 have off:∀ {g:Heap} {e:Addr} {f0:Value},IsZip g z u v f0->(∃ o,g.get? e=some o/\o.cls=.type "StopIteration")->e≠z:=fun hz ⟨o,ho,hs⟩ x=>by subst x;rw[hz] at ho;cases ho;simp at hs
 cases hx:xs[n]? with
 | none =>
  refine wpAny_bind (nx_end hh (h1.extBut s1.extBut D.i1z) (hb.extBut s1.extBut D.l1z) hx fun g2 e s2 ho=>?_)
  have z2:IsZip g2 z u v .ellipsis:=s2 _ _ D.i1z.symm z1
  have ez:=off z2 ho
  obtain⟨o,ho,hs⟩:=ho
  refine wpAny_setField_rec z2 (by simp) fun g3 _ s3=>q g3 e (fun k o c1 _ c3 _ x=>s3.extBut _ _ c1 (s2 _ _ c3 (s1.extBut _ _ c1 x))) ⟨o,s3.extBut _ _ ez ho,hs⟩
 | some x =>
  have hy:ys[n]?=none:=by rcases he with h|h;rw[hx] at h;cases h;exact h
  refine wpAny_bind (nx_item (h1.extBut s1.extBut D.i1z) (hb.extBut s1.extBut D.l1z) hx fun g2 j2 s2=>wpAny_pure ?_)
  have v2:IsPair g2 v a d:=s2.extBut _ _ D.TOi1 (s1.extBut _ _ D.TOz hv)
  refine wpAny_bind (wpAny_seqItems v2 rfl ?_)
  refine wpAny_bind (wpAny_updateSeq_pair v2 fun g3 v3 s3=>?_)
  refine wpAny_bind (wpAny_letGo (wpAny_pure ?_));refine wpAny_bind (wpAny_bind (wpAny_onRaise ?_))
  show wpAny _ _ (Builtin.SmallTypes.nextOf (.ref j) >>= _) _ _ _
  refine wpAny_bind (nx_end hh (((h2.extBut s1.extBut D.i2z).extBut s2.extBut D.i12.symm).extBut s3.extBut D.TOi2.symm) (((hc.extBut s1.extBut D.l2z).extBut s2.extBut D.l2i1).extBut s3.extBut D.l2TO) hy fun g4 e s4 ho=>?_)
  have z4:IsZip g4 z u v .ellipsis:=s4 _ _ D.i2z.symm (s3.extBut _ _ D.TOz.symm (s2.extBut _ _ D.i1z.symm z1))
  have ez:=off z4 ho
  obtain⟨o,ho,hs⟩:=ho
  refine wpAny_setField_rec z4 (by simp) fun g5 _ s5=>q g5 e (fun k o c1 c2 c3 c4 x=>s5.extBut _ _ c1 (s4 _ _ c4 (s3.extBut _ _ c2 (s2.extBut _ _ c3 (s1.extBut _ _ c1 x))))) ⟨o,s5.extBut _ _ ez ho,hs⟩
theorem zn_item {z u v i j b c:Addr} {n:Nat} {xs ys:Array Value} {x y a d:Value} {Q:Option Value->Shared->Prop} (D:ZipApart z u v i j b c)
  (hz:IsZip s.heap z u v .none) (hu:IsPair s.heap u (.ref i) (.ref j)) (hv:IsPair s.heap v a d) (h1:s.heap.IsTupleIter i b n) (h2:s.heap.IsTupleIter j c n) (hb:s.heap.IsTuple b xs) (hc:s.heap.IsTuple c ys) (hx:xs[n]?=some x) (hy:ys[n]?=some y)
  (q:∀ g,IsZip g z u v (rawInt s.heap.objs.size)->IsPair g v x y->g.IsTupleIter i b (n+1)->g.IsTupleIter j c (n+1)->IsPair g s.heap.objs.size x y->g.objs.size=s.heap.objs.size+1 ->
   (∀ k o,k≠z->k≠v->k≠i->k≠j->s.heap.get? k=some o->g.get? k=some o)->Q (some (.ref s.heap.objs.size)) {s with heap:=g}):wpAny (model prog w) A (pyNext (.ref z)) Q E s:=by
 have t:s.TypeIs (.ref z) "zip":=⟨_,hz,rfl⟩
 unfold pyNext
 exact wpAny_bind (wpAny_attempt (wpAny_callSpecial?_slot (name:=Str.ofString "__next__") t F.slot_zip_next (wpAny_call_entry F.slot_zip_next t F.entry_zip_next (zp_item D hz hu hv h1 h2 hb hc hx hy fun g a1 a2 a3 a4 a5 a6 a7=>wpAny_pure (q g a1 a2 a3 a4 a5 a6 a7)) (F.args_zip_next_1 _))))
theorem zn_end {z u v i j b c:Addr} {n:Nat} {xs ys:Array Value} {a d:Value} {Q:Option Value->Shared->Prop} (hh:A.handled=none) (D:ZipApart z u v i j b c)
  (hz:IsZip s.heap z u v .none) (hu:IsPair s.heap u (.ref i) (.ref j)) (hv:IsPair s.heap v a d) (h1:s.heap.IsTupleIter i b n) (h2:s.heap.IsTupleIter j c n) (hb:s.heap.IsTuple b xs) (hc:s.heap.IsTuple c ys) (he:xs[n]?=none\/ys[n]?=none)
  (q:∀ g,(∀ k o,k≠z->k≠v->k≠i->k≠j->s.heap.get? k=some o->g.get? k=some o)->Q none {s with heap:=g}):wpAny (model prog w) A (pyNext (.ref z)) Q E s:=by
 have t:s.TypeIs (.ref z) "zip":=⟨_,hz,rfl⟩
 unfold pyNext
 refine wpAny_bind (wpAny_attempt (wpAny_callSpecial?_slot (name:=Str.ofString "__next__") t F.slot_zip_next (wpAny_call_entry F.slot_zip_next t F.entry_zip_next (zp_end hh D hz hu hv h1 h2 hb hc he fun g e hk ho=>?_) (F.args_zip_next_1 _))))
 obtain⟨o,ho,hs⟩:=ho
 refine wpAny_bind (wpAny_isInstance (T:="StopIteration") (b:=true) ⟨o,ho,hs⟩ isSubtype_stop ?_);exact wpAny_pure (q _ hk)
end
section
variable {X:Cx} {pins:List (Addr×Obj)} {σ:L2.St} {H:Hp} {s:Shared}
theorem turnedL {h':Heap} {t':Nat} {fp:List Addr} (I:Inv X pins σ H s) (k:∀ b o,b ∉ fp->s.heap.get? b=some o->h'.get? b=some o) (f:∀ b∈fp,FpOk X pins H b):Inv X pins σ H {s with heap:=h',toks:=t'}:=by
 have nit:∀ b u,H b=some u->b ∉ fp:=fun b u e z=>by rw[(f b z).1] at e;cases e
 refine I.step (g':=s.gens) (d':=s.drawn) (ch:=fp) (fun b hb=>⟨(f b hb).2.2.2.1,(f b hb).2.1,(f b hb).2.2.2.2.1,(f b hb).2.2.2.2.2⟩) (fun b o _ _ hc e _=>k b o hc e) (fun b o _ _ hc e _=>⟨o.slots,k b o hc e⟩) (fun _ _ _ _ n=>n)
  (fun b o hc e=>⟨o,k b o hc e⟩) (fun _ _ e=>e) (fun _ _ _ e=>e) (fun b ps e=>⟨#[],by rw[e];simp⟩) (fun m hm=>?_) (fun b u e=>?_) I.bare
 ·obtain⟨o,es,ep,ho,r⟩:=hm
  exact⟨o,es,ep,k _ o (fun z=>(f _ z).2.1 rfl) ho,r⟩
 ·refine (I.hok b u e).stay (fun c v hc q=>k c v ?_ q) (fun _ q=>q) fun _ _ q=>q
  rcases hc with z|z
  ·rw[z];exact nit b u e
  ·exact nit c _ z
end
noncomputable def Itz (K:PySem.W.Frag) (b c:Addr):It :=
  ⟨fun i H=>∃ xs ys x y,SqT K H b xs/\SqT K H c ys/\xs[i]?=some x/\ys[i]?=some y,
   fun i H x H'=>∃ T p q,H T=none/\x=.ref T/\H'=upd H T (.tup [p,q])/\(∀ xs,SqT K H b xs->xs[i]?=some p)/\∀ ys,SqT K H c ys->ys[i]?=some q,
   fun i H=>∃ xs ys,SqT K H b xs/\SqT K H c ys/\(xs.length<=i\/ys.length<=i)⟩
noncomputable def zTn (z u v i j b c:Addr) (n:Nat) (h:Heap):Prop:=IsZip h z u v .none/\IsPair h u (.ref i) (.ref j)/\(∃ a d,IsPair h v a d)/\h.IsTupleIter i b n/\h.IsTupleIter j c n
theorem turn_zip {P:Program} {w:World} {K:PySem.W.Frag} {elts:List Expr} {x1:Nat} {pos:Pos} {z u v i j b c:Addr} (D:ZipApart z u v i j b c) :
  Turn P w K (.Tuple elts x1 pos) (Itz K b c) [z,u,v,i,j] z (zTn z u v i j b c) where
 mem:=by simp
 obj:=fun n h st k hk=>by
  obtain⟨hz,hu,⟨a,d,hv⟩,⟨o1,e1,_,d1⟩,⟨o2,e2,_,d2⟩⟩:=st
  simp only[List.mem_cons,List.not_mem_nil,or_false] at hk
  rcases hk with rfl|rfl|rfl|rfl|rfl
  ·exact⟨_,hz,fun w e=>nomatch e⟩
  ·exact⟨_,hu,fun w e=>nomatch e⟩
  ·exact⟨_,hv,fun w e=>nomatch e⟩
  ·exact⟨_,e1,fun w e=>by rw[d1] at e;cases e⟩
  ·exact⟨_,e2,fun w e=>by rw[d2] at e;cases e⟩
 keep:=fun n h h' st k=>by
  obtain⟨hz,hu,⟨a,d,hv⟩,h1,h2⟩:=st
  exact⟨k z (by simp) _ hz,k u (by simp) _ hu,⟨a,d,k v (by simp) _ hv⟩,h1.at fun o e=>k i (by simp) o e,h2.at fun o e=>k j (by simp) o e⟩
 item:=by
  intro X hP hw hK hc n pins s σ H E I hf st hg
  subst hP hw hK
  obtain⟨hz,hu,⟨a,d,hv⟩,h1,h2⟩:=st
  obtain⟨xs,ys,x,y,q1,q2,hx,hy⟩:=hg
  obtain⟨its,rv,p,sz1⟩:=I.tuple q1
  obtain⟨its',rv',p',sz2⟩:=I.tuple q2
  obtain⟨vx,hvx,rx⟩:=rv.get hx
  obtain⟨vy,hvy,ry⟩:=rv'.get hy
  refine zn_item D hz hu hv h1 h2 (show s.heap.IsTuple b its.toArray from p) (show s.heap.IsTuple c its'.toArray from p') (x:=vx) (y:=vy) (by simpa using hvx) (by simpa using hvy) fun g a1 a2 a3 a4 a5 a6 a7=>?_
  have lt:∀ {k o},s.heap.get? k=some o->k≠s.heap.objs.size:=fun e=>Nat.ne_of_lt (Heap.lt_size e)
  have li:i≠s.heap.objs.size:=by obtain⟨o,e,_⟩:=h1;exact lt e
  have lj:j≠s.heap.objs.size:=by obtain⟨o,e,_⟩:=h2;exact lt e
  refine⟨_,rfl,wpAny_letOwnedTupleGo_zip a1 fun g' z' sb=>?_⟩
  have tp:IsPair g' s.heap.objs.size vx vy:=sb.extBut _ _ (Ne.symm (lt hz)) a5
  have nf:H s.heap.objs.size=none:=I.hok.fresh (Nat.le_refl _)
  have I1:Inv X pins σ (upd H s.heap.objs.size (.tup [x,y])) {s with heap:=s.heap.push {cls:=.type "tuple",data:=.seq #[vx,vy]},toks:=s.toks} :=
   I.laid (fun k o e=>Heap.get?_push_of_some _ e) (Nat.le_refl _) ⟨by simp only[List.length_cons,List.length_nil];rw[sizeLine_eq];decide,[vx,vy],.cons rx (.cons ry .nil),⟨_,Heap.get?_push_size _ rfl,rfl,_,rfl⟩⟩
  have ff:∀ k∈[z,u,v,i,j],k≠s.heap.objs.size:=fun k hk=>by
   simp only[List.mem_cons,List.not_mem_nil,or_false] at hk
   rcases hk with rfl|rfl|rfl|rfl|rfl
   ·exact lt hz
   ·exact lt hu
   ·exact lt hv
   ·exact li
   ·exact lj
  have f':∀ k∈[z,u,v,i,j],FpOk X pins (upd H s.heap.objs.size (.tup [x,y])) k:=fun k hk=>⟨by rw[upd_ne (ff k hk)];exact (hf k hk).1,(hf k hk).2⟩
  have I2:Inv X pins σ (upd H s.heap.objs.size (.tup [x,y])) {s with heap:=g',toks:=s.toks}:=by
   refine turnedL (s:={s with heap:=s.heap.push {cls:=.type "tuple",data:=.seq #[vx,vy]},toks:=s.toks}) (h':=g') (t':=s.toks) I1 (fun k o hk e=>?_) f'
   rcases Heap.get?_push_cases e with ⟨rfl,rfl⟩|e'
   ·exact tp
   ·simp only[List.mem_cons,List.not_mem_nil,or_false,not_or] at hk
    exact sb.extBut _ _ hk.1 (a7 k o hk.1 hk.2.2.1 hk.2.2.2.1 hk.2.2.2.2 e')
  refine⟨.ref s.heap.objs.size,_,I2,rfl,⟨_,x,y,nf,rfl,rfl,fun xs' q=>by rw[I.tuple_inj q q1];exact hx,fun ys' q=>by rw[I.tuple_inj q q2];exact hy⟩,?_,fun k hk=>(f' k hk).1⟩
  exact⟨z',sb.extBut _ _ D.TIz (a7 _ _ D.TIz D.TITO D.TIi1 D.TIi2 hu),⟨_,_,sb.extBut _ _ D.TOz a2⟩,a3.extBut sb.extBut D.i1z,a4.extBut sb.extBut D.i2z⟩
 done:=by
  intro X hP hw hK hc n pins s σ H E I hf st hg
  subst hP hw hK
  obtain⟨hz,hu,⟨a,d,hv⟩,h1,h2⟩:=st
  obtain⟨xs,ys,q1,q2,hx⟩:=hg
  obtain⟨its,rv,p,sz1⟩:=I.tuple q1
  obtain⟨its',rv',p',sz2⟩:=I.tuple q2
  have l1:=rv.length
  have l2:=rv'.length
  refine zn_end (I.ok.hd hc) D hz hu hv h1 h2 (show s.heap.IsTuple b its.toArray from p) (show s.heap.IsTuple c its'.toArray from p') (by rcases hx with hx|hx;exact .inl (by simp;omega);exact .inr (by simp;omega)) fun g k=>⟨rfl,turnedL (h':=g) (t':=s.toks) I (fun m o hm e=>?_) hf⟩
  simp only[List.mem_cons,List.not_mem_nil,or_false,not_or] at hm
  exact k m o hm.1 hm.2.2.1 hm.2.2.2.1 hm.2.2.2.2 e
 self:=fun _ _ _ _ _ st h=>wpAny_pyIter_zip st.1 h
end DL
end
noncomputable section
namespace DL
open PySem PySem.Spec PyProof.Rows L2
noncomputable def bAdd (d e:D) (M:Mem) (Q:DK):Prop :=
 match d,e with
 | .int i,.int j=>Q (.int (i+j)) M
 | .str x,.str y=>x.length+y.length<=sizeLine/\Q (.str (x++y)) M
 | .lst a,.lst b=>∃ xs ys,M a=some (.ls xs)/\M b=some (.ls ys)/\xs.length+ys.length<=sizeLine/\alloc M (.ls (xs++ys)) fun p M'=>Q (.lst p) M'
 | .tup xs,.tup ys=>xs.length+ys.length<=sizeLine/\Q (.tup (xs++ys)) M
 | _,_=>False
noncomputable def bInt (f:Int->Int->Prop) (g:Int->Int->Int) (d e:D) (M:Mem) (Q:DK):Prop :=
 match d,e with
 | .int i,.int j=>f i j/\Q (.int (g i j)) M
 | _,_=>False
noncomputable def bMul (d e:D) (M:Mem) (Q:DK):Prop :=
 match d,e with
 | .int i,.int j=>IntMulOk i j/\Q (.int (i*j)) M
 | .tup xs,.int k=>0<=k/\k<1000000/\xs.length*k.toNat<=sizeLine/\Q (.tup (List.replicate k.toNat xs).flatten) M
 | .lst a,.int k=>∃ xs,M a=some (.ls xs)/\0<=k/\k<1000000/\xs.length*k.toNat<=sizeLine/\alloc M (.ls (List.replicate k.toNat xs).flatten) fun p M'=>Q (.lst p) M'
 | _,_=>False
noncomputable def DivOk (j:Int):Prop:=j≠0/\j.natAbs.log2<9000
noncomputable def bOp:Operator->D->D->Mem->DK->Prop
 | .Add=>bAdd
 | .Sub=>bInt (fun _ _=>True) fun i j=>i-j
 | .Mult=>bMul
 | .FloorDiv=>bInt (fun _ j=>DivOk j) fun i j=>i.fdiv j
 | .Mod=>bInt (fun _ j=>j≠0) fun i j=>i.fmod j
 | .Pow=>bInt CPow fun i j=>i ^ j.toNat
 | _=>fun _ _ _ _=>False
theorem bInt_inv {f:Int->Int->Prop} {g:Int->Int->Int} {d e:D} {M:Mem} {Q:DK} (h:bInt f g d e M Q):∃ i j,d=.int i/\e=.int j/\f i j/\Q (.int (g i j)) M:=by
 cases d with
 | int i=>cases e with
  | int j=>exact⟨i,j,rfl,rfl,h.1,h.2⟩
  | _=>exact h.elim
 | _=>exact h.elim
section
variable {X:Cx}
theorem op_bInt {f:Value->Value->Sem Value} {C:Int->Int->Prop} {g:Int->Int->Int}
  (rule:∀ (i j:Int) (t u:Tok) (s:Shared) (Q:Value->Shared->Prop) (E:Value->Shared->Prop),C i j->Q (.int (g i j) s.toks) {s with toks:=s.toks+1}->wpAny (model X.prog X.w) X.A (f (.int i t) (.int j u)) Q E s) :
  OpR X f (lift2 X.K (bInt C g)):=by
 refine (opI (X:=X) (C:=C) (g:=g) rule).imp ?_
 rintro x y H Q ⟨d,e,M,R,r1,r2,rm,h,q⟩
 obtain⟨i,j,rfl,rfl,h1,h2⟩:=bInt_inv h
 cases r1;cases r2
 exact⟨_,_,rfl,rfl,h1,q _ _ _ _ (.refl H) rm (.int _) h2⟩
set_option tactic.hygienic true
theorem op_bAdd:OpR X (binaryOp .Add) (lift2 X.K bAdd):=by
  rintro pins s σ H x y v u Q I rx ry ⟨d,e,M,R,r1,r2,rm,h,q⟩
  cases r1 with
  | int i =>
    cases r2<;>first
      | exact (show False from h).elim
      | exact op_add pins s σ H _ _ v u Q I rx ry ⟨_,_,rfl,rfl,q _ _ _ _ (.refl H) rm (.int _) h⟩
  | str x =>
    cases r2<;>first
      | exact (show False from h).elim
      | exact op_add_str pins s σ H _ _ v u Q I rx ry ⟨_,_,rfl,rfl,h.1,q _ _ _ _ (.refl H) rm (.str _) h.2⟩
  | lst a =>
    cases r2<;>first
      | exact (show False from h).elim
      | (obtain⟨xs,ys,h1,h2,h3,h4⟩:=h
         obtain⟨vs,e1,q1⟩:=rm _ _ h1
         obtain⟨ws,e2,q2⟩:=rm _ _ h2
         refine op_cat pins s σ H _ _ v u Q I rx ry ⟨_,_,vs,ws,rfl,rfl,e1,e2,by rw[q1.length,q2.length];exact h3,fun p hp=>?_⟩
         exact q _ _ _ _ (.upd (.inl hp)) (rm.lst hp (q1.append q2)) (.lst p) (h4.at (rm.none hp)))
  | tup h1 q1 =>
    cases r2<;>first
      | exact (show False from h).elim
      | (rename_i h2 q2
         obtain⟨g2,g3⟩:=h
         cases q1 with
         | nil=>exact op_catT0 pins s σ H _ _ v u Q I rx ry ⟨_,_,_,rfl,rfl,h1,h2,q _ _ _ _ (.refl H) rm (.tup h2 q2) g3⟩
         | cons qa qb =>
           have q1:=RelDs.cons qa qb
           refine op_catT pins s σ H _ _ v u Q I rx ry ⟨_,_,_,_,rfl,rfl,h1,h2,nofun,by rw[q1.length,q2.length];exact g2,fun z=>?_,fun z p hp=>?_⟩
           · subst z;cases q2;rw[List.append_nil] at g3;exact q _ _ _ _ (.refl H) rm (.tup h1 q1) g3
           · exact q _ _ _ _ (.upd (.inl hp)) (rm.tup hp) (.tup (.of upd_same) ((q1.append q2).ext (.upd (.inl hp)))) g3)
  | _=>exact (show False from h).elim
set_option tactic.hygienic false
theorem RelDs.rep {K:PySem.W.Frag} {H:Hp} {vs:List V} {ds:List D} (r:RelDs K H vs ds):∀ k:Nat,RelDs K H (List.replicate k vs).flatten (List.replicate k ds).flatten
 | 0=>.nil
 | k+1=>by
  rw[List.replicate_succ,List.replicate_succ,List.flatten_cons,List.flatten_cons]
  exact r.append (RelDs.rep r k)
set_option tactic.hygienic true
theorem op_bMul:OpR X (binaryOp .Mult) (lift2 X.K bMul):=by
  rintro pins s σ H x y v u Q I rx ry ⟨d,e,M,R,r1,r2,rm,h,q⟩
  cases r1 with
  | int i =>
    cases r2<;>first
      | exact (show False from h).elim
      | exact opI (X:=X) (C:=IntMulOk) (g:=fun i j=>i*j) (fun _ _ _ _ _ _ _ hc q=>mul_int q hc) pins s σ H _ _ v u Q I rx ry ⟨_,_,rfl,rfl,h.1,q _ _ _ _ (.refl H) rm (.int _) h.2⟩
  | lst a =>
    cases r2<;>first
      | exact (show False from h).elim
      | (obtain⟨xs,h1,g1,g2,h3,h4⟩:=h
         obtain⟨vs,e1,q1⟩:=rm _ _ h1
         refine op_rep pins s σ H _ _ v u Q I rx ry ⟨_,_,vs,rfl,rfl,e1,by omega,by omega,by rw[q1.length];exact h3,fun p hp=>?_⟩
         exact q _ _ _ _ (.upd (.inl hp)) (rm.lst hp (q1.rep _)) (.lst p) (h4.at (rm.none hp)))
  | tup h1 q1 =>
    cases r2<;>first
      | exact (show False from h).elim
      | (rename_i ds k
         obtain⟨g2,g3,g4,g5⟩:=h
         by_cases hx:ds=[]\/k=1
         · have e:(List.replicate k.toNat ds).flatten=ds:=by
             rcases hx with rfl|rfl
             · simp
             · simp
           rw[e] at g5
           refine op_repT1 pins s σ H _ _ v u Q I rx ry ⟨_,_,_,rfl,rfl,h1,?_,g2,g3,q _ _ _ _ (.refl H) rm (.tup h1 q1) g5⟩
           rcases hx with rfl|hx
           · cases q1;exact .inl rfl
           · exact .inr hx
         · have hn:ds≠[]:=fun z=>hx (.inl z)
           by_cases hk:k=0
           · subst hk
             refine op_repT0 pins s σ H _ _ v u Q I rx ry ⟨_,_,rfl,rfl,h1,?_,fun p hp=>?_⟩
             · intro z;subst z;cases q1;exact hn rfl
             · exact q _ _ _ _ (.upd (.inl hp)) (rm.tup hp) (.tup (.of upd_same) .nil) g5
           · refine op_repT pins s σ H _ _ v u Q I rx ry ⟨_,_,_,rfl,rfl,h1,?_,by have:¬ k=1:=fun z=>hx (.inr z);omega,g3,by rw[q1.length];exact g4,fun p hp=>?_⟩
             · intro z;subst z;cases q1;exact hn rfl
             · exact q _ _ _ _ (.upd (.inl hp)) (rm.tup hp) (.tup (.of upd_same) ((q1.rep _).ext (.upd (.inl hp)))) g5)
  | _=>exact (show False from h).elim
set_option tactic.hygienic false
theorem op_b (op:Operator):OpR X (binaryOp op) (lift2 X.K (bOp op)):=by
 cases op with
 | Add=>exact op_bAdd
 | Sub=>exact op_bInt fun _ _ _ _ _ _ _ _ q=>sub_int q
 | Mult=>exact op_bMul
 | FloorDiv=>exact op_bInt fun _ _ _ _ _ _ _ hc q=>floordiv_int hc.1 q (.inl (PyProof.noPylong_of_log2 hc.2))
 | Mod=>exact op_bInt fun _ _ _ _ _ _ _ hc q=>mod_int' hc q
 | Pow=>exact op_bInt fun _ _ _ _ _ _ _ hc q=>pow_int_small hc.1 hc.2.1 hc.2.2 q
 | _=>intro pins s σ H x y v u Q I rx ry ⟨d,e,M,R,r1,r2,rm,h,q⟩;exact (show False from h).elim
end
mutual
inductive Py (M:Mem):D->PyData->Prop
 | non:Py M .non .none
 | bl (b:Bool):Py M (.bl b) (.bool b)
 | int (i:Int):Py M (.int i) (.int i)
 | str (x:Str) (hx:(PyData.str x).canLay0=true):Py M (.str x) (.str x)
 | tup {ds:List D} {ps:List PyData} (h:Pys M ds ps):Py M (.tup ds) (.tuple ps)
 | fz {ds:List D} {ps:List PyData} (h:Pys M ds ps):Py M (.fz ds) (.list ps)
 | lst {a:Addr} {ds:List D} {ps:List PyData} (e:M a=some (.ls ds)) (h:Pys M ds ps):Py M (.lst a) (.list ps)
inductive Pys (M:Mem):List D->List PyData->Prop
 | nil:Pys M [] []
 | cons {d:D} {p:PyData} {ds:List D} {ps:List PyData} (h:Py M d p) (r:Pys M ds ps):Pys M (d::ds) (p::ps)
end
section
variable {X:Cx} {pins:List (Addr×Obj)} {s:Shared} {σ:L2.St} {H:Hp} {M:Mem}
set_option tactic.hygienic true
theorem Pys.reads (I:L2.Inv X pins σ H s) (rm:RepM X.K H M) {ds:List D} {ps:List PyData} (h:Pys M ds ps):∀ {vs:List V} {us:List Value},RelDs X.K H vs ds->Vals vs us->∃ as,ReadsAll s.heap us ps as/\PyData.canLayAll0 ps=true:=by
 induction h using Pys.rec (motive_1:=fun d p _=>∀ (v:V) (u:Value),RelD X.K H v d->RelV v u->∃ as,Reads s.heap u p as/\p.canLay0=true) with
 | non=>rename_i v u r e;cases r;cases e;exact⟨_,.none,rfl⟩
 | bl b=>rename_i v u r e;cases r;cases e;exact⟨_,.bool b,rfl⟩
 | int i=>rename_i v u r e;cases r;obtain⟨_,rfl⟩:=e;exact⟨_,.int i _,rfl⟩
 | str x hx=>rename_i v u r e;cases r;obtain⟨_,rfl⟩:=e;exact⟨_,.str x _,hx⟩
 | tup h ih =>
  rename_i v u r e
  cases r with
  | tup ht r =>
   cases e
   obtain⟨its,rv,⟨o,e1,e2,n,e3⟩,_⟩:=I.tuple ht
   obtain⟨as,q,c⟩:=ih r rv
   exact⟨as,.tuple e1 e2 e3 q,c⟩
 | fz h ih =>
  rename_i v u r e
  cases r with
  | fz hf r =>
   cases e
   obtain⟨its,rv,⟨o,n,e1,e2,_,e3⟩,_⟩:=I.list hf.sq
   obtain⟨as,q,c⟩:=ih r rv
   exact⟨_,.list e1 e2 e3 q,c⟩
 | lst e h ih =>
  rename_i v u r z
  cases r
  cases z
  obtain⟨vs,e0,r⟩:=rm _ _ e
  obtain⟨its,rv,⟨o,n,e1,e2,_,e3⟩,_⟩:=I.list (.of e0)
  obtain⟨as,q,c⟩:=ih r rv
  exact⟨_,.list e1 e2 e3 q,c⟩
 | nil=>intro vs us r e;cases r;cases e;exact⟨_,.nil,rfl⟩
 | cons h r i1 i2 =>
  intro vs us q z
  cases q with
  | cons q qs =>
   cases z with
   | cons z zs =>
    obtain⟨as,a1,a2⟩:=i1 _ _ q z
    obtain⟨bs,b1,b2⟩:=i2 qs zs
    exact⟨_,.cons a1 b1,show (_&&_)=true by rw[a2,b2];rfl⟩
set_option tactic.hygienic false
theorem Py.reads (I:L2.Inv X pins σ H s) (rm:RepM X.K H M) {d:D} {p:PyData} {v:V} {u:Value} (h:Py M d p) (r:RelD X.K H v d) (e:RelV v u):∃ as,Reads s.heap u p as/\p.canLay0=true:=by
 obtain⟨as,a1,a2⟩:=Pys.reads I rm (.cons h .nil) (.cons r .nil) (.cons e .nil)
 cases a1 with
 | cons b1 b2=>exact⟨_,b1,by revert a2;show (_&&_)=true->_;cases p.canLay0 with|true=>exact fun _=>rfl|false=>exact fun z=>absurd z Bool.false_ne_true⟩
end
noncomputable def cInt (g:Int->Int->Bool) (d e:D) (M:Mem) (Q:DK):Prop :=
 match d,e with
 | .int i,.int j=>Q (.bl (g i j)) M
 | _,_=>False
noncomputable def cEq (neg:Bool) (d e:D) (M:Mem) (Q:DK):Prop :=
 match d with
 | .dct p=>neg=false/\(∃ kvs,M p=some (.dk kvs))/\(∃ xs,e=.tup xs)/\Q (.bl false) M
 | d=>∃ a b,Py M d a/\Py M e b/\min a.depth b.depth<=60/\Q (.bl (if neg then !PyData.eqv a b else PyData.eqv a b)) M
theorem cEq_of {neg:Bool} {d e:D} {M:Mem} {Q:DK} {a b:PyData} (h1:Py M d a) (h2:Py M e b) (h3:min a.depth b.depth<=60) (q:Q (.bl (if neg then !PyData.eqv a b else PyData.eqv a b)) M):cEq neg d e M Q:=by
 cases d with
 | dct p=>cases h1
 | _=>exact⟨a,b,h1,h2,h3,q⟩
theorem cEq_inv {neg:Bool} {d e:D} {M:Mem} {Q:DK} (h:cEq neg d e M Q):(∃ p kvs xs,d=.dct p/\neg=false/\M p=some (.dk kvs)/\e=.tup xs/\Q (.bl false) M)\/∃ a b,Py M d a/\Py M e b/\min a.depth b.depth<=60/\Q (.bl (if neg then !PyData.eqv a b else PyData.eqv a b)) M:=by
 cases d with
 | dct p=>obtain⟨h0,⟨kvs,h1⟩,⟨xs,h2⟩,h3⟩:=h;exact .inl ⟨p,kvs,xs,rfl,h0,h1,h2,h3⟩
 | _=>exact .inr h
noncomputable def sdAt {α:Type}:List Str->List α->Str->Option α
 | x::xs,d::ds,k=>if k=x then some d else sdAt xs ds k
 | _,_,_=>none
theorem EntK.exact {l:List DictEntry} {xs:List Str} {us:List Value} (h:EntK l xs us):(l.all fun e=>isExactStrKey e.key)=true:=by
 induction h with
 | nil=>rfl
 | cons hk _ ih=>rw [List.all_cons,hk,ih];rfl
theorem EntK.find {k:Str} {l:List DictEntry} {xs:List Str} {us:List Value} (h:EntK l xs us):(l.find? fun e=>e.key.isStr k).map (·.val)=sdAt xs us k:=by
 induction h with
 | nil=>rfl
 | @cons e x t es xs us hk _ ih =>
  rw[List.find?_cons,hk]
  show _=if k=x then some e.val else sdAt xs us k
  by_cases c:k=x
  ·subst c
   rw[if_pos rfl,show (Value.str k t).isStr k=true from by simp[Value.isStr]];rfl
  ·rw[if_neg c,show (Value.str x t).isStr k=false from by simp[Value.isStr];exact fun z=>c z.symm];exact ih
theorem sdAt_rel {K:PySem.W.Frag} {H:Hp} {k:Str} {d:D}:∀ {xs:List Str} {vs:List V} {ds:List D},RelDs K H vs ds->sdAt xs ds k=some d->∃ v,sdAt xs vs k=some v/\RelD K H v d
 | [],_,_,_,e=>by simp[sdAt] at e
 | _::_,_,_,.nil,e=>by simp[sdAt] at e
 | x::xs,_,_,.cons h r,e=>by
  unfold sdAt at e ⊢
  by_cases c:k=x
  ·rw[if_pos c] at e ⊢;cases e;exact⟨_,rfl,h⟩
  ·rw[if_neg c] at e ⊢;exact sdAt_rel r e
theorem sdAt_vals {k:Str} {v:V}:∀ {xs:List Str} {vs:List V} {us:List Value},Vals vs us->sdAt xs vs k=some v->∃ u,sdAt xs us k=some u/\RelV v u
 | [],_,_,_,e=>by simp[sdAt] at e
 | _::_,_,_,.nil,e=>by simp[sdAt] at e
 | x::xs,_,_,.cons h r,e=>by
  unfold sdAt at e ⊢
  by_cases c:k=x
  ·rw[if_pos c] at e ⊢;cases e;exact⟨_,rfl,h⟩
  ·rw[if_neg c] at e ⊢;exact sdAt_vals r e
theorem EntK.mem {k:Str} {l:List DictEntry} {xs:List Str} {us:List Value} (h:EntK l xs us):(sdAt xs us k).isSome=xs.contains k:=by
 induction h with
 | nil=>rfl
 | @cons e x t es xs us hk _ ih =>
  show (if k=x then some e.val else sdAt xs us k).isSome=_
  rw[List.contains_cons]
  by_cases c:k=x
  ·subst c;simp
  ·rw[if_neg c,ih];simp[c]
theorem tab_get {prog:Program} {w:World} {A:Around} {E:Value->Shared->Prop} {s:Shared} {a:Addr} {o:Obj} {es:Array DictEntry} {ep:Nat} {xs:List Str} {us:List Value} {k:Str} {tk:Tok} {Q:Option Value->Shared->Prop}
  (ho:s.heap.get? a=some o) (hd:o.data=.dict es ep) (en:EntK es.toList xs us) (h:Q (sdAt xs us k) {s with toks:=s.toks+1}):wpAny (model prog w) A (dictGet a (.str k tk)) Q E s:=by
 unfold dictGet
 try with_reducible refine wpAny_holding ?_
 refine wpAny_bind (wpAny_pyHash_str (wpAny_bind (PyProof.Rows.KTD.kt_dictFind_strs (s:={s with toks:=s.toks+1}) ho hd (by obtain⟨l⟩:=es;simpa using en.exact) ?_)))
 have hq:Q (findBy (fun k v=>v.isStr k) es k) {s with toks:=s.toks+1}:=by
  have hf:findBy (fun k v=>v.isStr k) es k=(es.toList.find? fun e=>e.key.isStr k).map (·.val):=by
   obtain⟨l⟩:=es
   simp[findBy]
  rw[hf,en.find];exact h
 rw[findBy_of_findIdx?] at hq
 cases hi:es.findIdx? fun e=>e.key.isStr k with
 | none=>rw [hi] at hq;exact wpAny_pure hq
 | some i=>rw [hi] at hq;exact wpAny_bind (wpAny_dictEntries (s:={s with toks:=s.toks+1}) ho hd (wpAny_pure hq))
noncomputable def cIs (neg:Bool) (d e:D) (M:Mem) (Q:DK):Prop :=
 match e with
 | .non=>Q (.bl (if neg then (match d with | .non=>false|_=>true) else (match d with | .non=>true|_=>false))) M
 | .bl k=>Q (.bl (if neg then (match d with | .bl j=>!(j==k)|_=>true) else (match d with | .bl j=>j==k|_=>false))) M
 | _=>False
noncomputable def inSeq (neg:Bool) (d:D) (xs:List D) (M:Mem) (Q:DK):Prop:=∃ ps p,Pys M xs ps/\Py M d p/\p.depth<=60/\Q (.bl (if neg then !(ps.any fun q=>PyData.eqv q p) else ps.any fun q=>PyData.eqv q p)) M
noncomputable def cIn (neg:Bool) (d e:D) (M:Mem) (Q:DK):Prop :=
 match e with
 | .str y=>∃ x,d=.str x/\Q (.bl (if neg then !(!(Builtin.Str.occurrences y x 0 y.length 1).isEmpty) else !(Builtin.Str.occurrences y x 0 y.length 1).isEmpty)) M
 | .tup xs=>inSeq neg d xs M Q
 | .fz xs=>inSeq neg d xs M Q
 | .lst a=>∃ xs,M a=some (.ls xs)/\inSeq neg d xs M Q
 | .sd xs _=>∃ x,d=.str x/\Q (.bl (if neg then !(xs.contains x) else xs.contains x)) M
 | _=>False
noncomputable def cOp:CmpOp->D->D->Mem->DK->Prop
 | .Eq=>cEq false
 | .NotEq=>cEq true
 | .Lt=>cInt fun i j=>decide (i<j)
 | .LtE=>cInt fun i j=>decide (i<=j)
 | .Gt=>cInt fun i j=>decide (j<i)
 | .GtE=>cInt fun i j=>decide (j<=i)
 | .In=>cIn false
 | .NotIn=>fun _ _ _ _=>False
 | .Is=>fun _ _ _ _=>False
 | .IsNot=>cIs true
section
variable {X:Cx}
theorem cInt_inv {g:Int->Int->Bool} {d e:D} {M:Mem} {Q:DK} (h:cInt g d e M Q):∃ i j,d=.int i/\e=.int j/\Q (.bl (g i j)) M:=by
 cases d with
 | int i=>cases e with
  | int j=>exact⟨i,j,rfl,rfl,h⟩
  | _=>exact h.elim
 | _=>exact h.elim
theorem op_cInt {f:Value->Value->Sem Value} {g:Int->Int->Bool} (h:OpR X f (rI0 fun i j=>.bl (g i j))):OpR X f (lift2 X.K (cInt g)):=by
 refine h.imp ?_
 rintro x y H Q ⟨d,e,M,R,r1,r2,rm,h,q⟩
 obtain⟨i,j,rfl,rfl,h⟩:=cInt_inv h
 cases r1;cases r2
 exact⟨_,_,rfl,rfl,q _ _ _ _ (.refl H) rm (.bl _) h⟩
theorem dict_eq_declines {a b:Addr} {prog:Program} {w:World} {A:Around} {E:Value->Shared->Prop} {s:Shared} {Q:Value->Shared->Prop} (ha:s.TypeIs (.ref a) "dict") (hb:s.TypeIs (.ref b) "tuple") (h:Q .notImplemented s) :
  wpAny (model prog w) A (call (.builtin "dict.__eq__") [.ref a,.ref b]) Q E s:=by
 refine wpAny_call_entry PySem.F.slot_dict_eq ha PySem.F.entry_dict_eq ?_ (PySem.F.args_dict_eq_2 _ _)
 show wpAny _ _ (Builtin.Dict.dictSlotArgs "__eq__" ⟨[.ref a,.ref b],[]⟩ >>= _) _ _ s
 refine wpAny_bind ?_
 unfold Builtin.Dict.dictSlotArgs
 refine wpAny_bind (wpAny_notOrdered_dict ha ?_)
 show wpAny _ _ (pure (Value.ref a,Value.ref b)) _ _ s
 refine wpAny_pure ?_
 refine wpAny_bind (wpAny_isInstance (T:="tuple") hb PySem.F.sub_tuple_dict ?_)
 simp only[Bool.not_false,if_true]
 refine wpAny_bind (wpAny_rule ?_)
 exact wpAny_pure ⟨_,rfl,h⟩
theorem tuple_eq_declines_dict (l b:Addr) (items:Array Value) (n:Nat) (dd:Option Addr) (sl:Array (Option Value)) (ob:Obj) (hcb:ob.cls=.type "dict") :
  Meets (Builtin.«tuple.__eq__» ⟨[.ref l,.ref b],[]⟩) (fun _ R s=>s.heap.get? l=some {cls:=.type "tuple",dict:=dd,data:=.seq items n,slots:=sl}/\s.heap.get? b=some ob/\R (.ok (.ret .notImplemented)) s) :=
 .of_wp fun prog w A R s h=>by obtain⟨hp,g,d,tk,os⟩:=s;obtain⟨hl,hb,h⟩:=h;obtain⟨c,dd2,da2,sl2⟩:=ob;cases hcb;have f1:=F.sub_dict_tuple;wp_walk using wpAny_loadPart' hl,wpAny_loadPart' hb;exact⟨_,rfl,h⟩
theorem rc_dict_tuple {A:Around} {s:Shared} {a b:Addr} {oa:Obj} {items:Array Value} (ha:s.heap.get? a=some oa) (hca:oa.cls=.type "dict") (hb:s.heap.IsTuple b items) (hu:A.units<cLine):SeqAt.RcAt A s (.ref a) (.ref b) false:=fun prog w E Q h=>by
 have hne:a≠b:=fun e=>by
  subst e
  obtain⟨o2,ho2,hc2,_⟩:=hb
  rw[ha] at ho2
  cases ho2
  rw[hca] at hc2
  exact absurd hc2 (by simp)
 obtain⟨⟨cls2,dd2,data2,sl2⟩,ho2,hc2,n2,hd2⟩:=id hb
 simp only at hc2 hd2
 subst hc2 hd2
 exact (SeqAt.rc_eq_decline_or (k:=false) ⟨_,ha,hca⟩ ⟨_,ho2,rfl⟩ (by decide) F.sub_tuple_dict F.slot_dict_eq F.slot_tuple_eq_refl
  (fun _ hq=>dict_eq_declines ⟨_,ha,hca⟩ ⟨_,ho2,rfl⟩ hq)
  (fun _ hq=>call_meets F.slot_tuple_eq_refl ⟨_,ho2,rfl⟩ F.entry_tuple_eq (F.args_tuple_eq_2 _ _) (tuple_eq_declines_dict b a items n2 dd2 sl2 oa hca) ⟨ho2,ha,hq⟩)
  (fun _ hq=>wpAny_isSame_ref_other hne ha ho2 (by rw[hca];simp) hq) (.inr hu) h)
theorem op_cEq (hu:X.A.units+64<cLine):OpR X (compareOp .Eq) (lift2 X.K (cEq false)):=by
 rintro pins s σ H x y v u Q I rx ry ⟨d,e,M,R,r1,r2,rm,h,q⟩
 rcases cEq_inv h with ⟨p,kvs,xs,rfl,_,h1,rfl,hq⟩|⟨a,b,p1,p2,hd,h⟩
 ·cases r1;cases rx
  cases r2 with
  | tup ht r =>
   cases ry
   obtain⟨vs,e1,_⟩:=rm _ _ h1
   obtain⟨_,_,vs,_,pp⟩:=(show ObjOk X.prog X.w H s.heap p (.dK vs) from I.hok p _ e1)
   obtain⟨o,es,ep,h1,h2,_⟩:=pp
   obtain⟨its,rv,hT,_⟩:=I.tuple ht
   exact rc_dict_tuple h1 h2.1 hT (by omega) X.prog X.w _ _ ⟨.bl _,H,I,rfl,q _ _ _ _ (.refl H) rm (.bl _) hq⟩
 obtain⟨as,a1,a2⟩:=p1.reads I rm r1 rx
 obtain⟨bs,b1,b2⟩:=p2.reads I rm r2 ry
 exact SeqAt.compareEq_reads a1 b1 a2 b2 (by omega) ⟨.bl _,H,I,rfl,q _ _ _ _ (.refl H) rm (.bl _) h⟩
theorem op_cNe (hu:X.A.units+64<cLine):OpR X (compareOp .NotEq) (lift2 X.K (cEq true)):=by
 rintro pins s σ H x y v u Q I rx ry ⟨d,e,M,R,r1,r2,rm,h,q⟩
 rcases cEq_inv h with ⟨_,_,_,_,h0,_⟩|⟨a,b,p1,p2,hd,h⟩
 ·cases h0
 obtain⟨as,a1,a2⟩:=p1.reads I rm r1 rx
 obtain⟨bs,b1,b2⟩:=p2.reads I rm r2 ry
 exact SeqAt.compareNe_reads a1 b1 a2 b2 (by omega) ⟨.bl _,H,I,rfl,q _ _ _ _ (.refl H) rm (.bl _) h⟩
noncomputable def isB (d e:D):Option Bool :=
 match e with
 | .non=>some (match d with | .non=>true|_=>false)
 | .bl k=>some (match d with | .bl j=>j==k|_=>false)
 | _=>none
theorem cIs_inv {neg:Bool} {d e:D} {M:Mem} {Q:DK} (h:cIs neg d e M Q):(e=.non\/∃ k,e=.bl k)/\∃ b,isB d e=some b/\Q (.bl (if neg then !b else b)) M:=by
 cases e with
 | non =>
  refine⟨.inl rfl,_,rfl,?_⟩
  cases d<;>exact h
 | bl k =>
  refine⟨.inr ⟨k,rfl⟩,_,rfl,?_⟩
  cases d<;>exact h
 | _=>exact (show False from h).elim
set_option tactic.hygienic true
theorem is_val {K:PySem.W.Frag} {H:Hp} {x y:V} {d e:D} {v u:Value} {b:Bool} (r1:RelD K H x d) (rx:RelV x v) (r2:RelD K H y e) (ry:RelV y u) (he:e=.non\/∃ k,e=.bl k) (hb:isB d e=some b):plainIs v u=true/\(v==u)=b:=by
 rcases he with rfl|⟨k,rfl⟩
 ·cases r2;cases ry;cases hb
  cases r1<;>first|(cases rx;exact⟨rfl,rfl⟩)|(obtain⟨t,rfl⟩:=rx;exact⟨rfl,rfl⟩)
 ·cases r2;cases ry;cases hb
  cases r1<;>first|(cases rx;exact⟨rfl,rfl⟩)|(obtain⟨t,rfl⟩:=rx;exact⟨rfl,rfl⟩)|(rename_i j;cases rx;cases j<;>cases k<;>exact⟨rfl,rfl⟩)
set_option tactic.hygienic false
theorem op_cIsNot:OpR X (compareOp .IsNot) (lift2 X.K (cIs true)):=by
 rintro pins s σ H x y v u Q I rx ry ⟨d,e,M,R,r1,r2,rm,h,q⟩
 obtain⟨he,b,hb,h⟩:=cIs_inv h
 obtain⟨a1,a2⟩:=is_val r1 rx r2 ry he hb
 refine wpAny_isNot_plain a1 ?_
 rw[a2]
 exact⟨.bl _,H,I,rfl,q _ _ _ _ (.refl H) rm (.bl _) h⟩
noncomputable def eqTo (h:Heap) (p:PyData) (y:Value):Bool:=by
 classical exact decide (∃ d as,Reads h y d as/\d.canLay0=true/\PyData.eqv d p=true)
theorem eqTo_of {h:Heap} {p d:PyData} {y:Value} {as:List Addr} (r:Reads h y d as) (c:d.canLay0=true):eqTo h p y=PyData.eqv d p:=by
 unfold eqTo
 cases e:PyData.eqv d p with
 | true=>simpa using ⟨d,⟨as,r⟩,c,e⟩
 | false =>
  simp only[decide_eq_false_iff_not]
  rintro⟨d',as',r',c',e'⟩
  have:=SeqAt.Reads.unique d d' y as as' c r r'
  subst this
  rw[e] at e';cases e'
theorem and12 {a b:Bool} (h:(a&&b)=true):a=true/\b=true:=by
 cases a with
 | true=>exact⟨rfl,h⟩
 | false=>exact nfx h
theorem pys_any {h:Heap} {p:PyData} {us:List Value} {ps:List PyData} {as:List Addr} (r:ReadsAll h us ps as):PyData.canLayAll0 ps=true->us.any (eqTo h p)=ps.any fun q=>PyData.eqv q p:=by
 induction r using ReadsAll.rec (motive_1:=fun _ _ _ _=>True) with
 | nil=>exact fun _=>rfl
 | cons r rr _ ih =>
  intro c
  obtain⟨c1,c2⟩:=and12 (show (_&&_)=true from c)
  rw[List.any_cons,List.any_cons,eqTo_of r c1,ih c2]
 | _=>trivial
theorem pys_mem {h:Heap}:∀ {us:List Value} {ps:List PyData} {as:List Addr},ReadsAll h us ps as->PyData.canLayAll0 ps=true->∀ y∈us,∃ d as,Reads h y d as/\d.canLay0=true
 | _,_,_,.nil,_,_,hy=>by cases hy
 | _,_,_,.cons r rr,c,y,hy=>by
  obtain⟨c1,c2⟩:=and12 (show (_&&_)=true from c)
  rcases List.mem_cons.mp hy with rfl|hy
  ·exact⟨_,_,r,c1⟩
  ·exact pys_mem rr c2 y hy
theorem eqTo_at {A:Around} {s:Shared} {p:PyData} {us:List Value} {ps:List PyData} {as bs:List Addr} {x:Value} (hu:A.units+64<cLine) (r:ReadsAll s.heap us ps as) (c:PyData.canLayAll0 ps=true) (rx:Reads s.heap x p bs) (cx:p.canLay0=true) (hd:p.depth<=60) :
  ∀ y∈us,SeqAt.EqAt A s y x (eqTo s.heap p y):=fun y hy=>by
 obtain⟨d,as',ry,cy⟩:=pys_mem r c y hy
 rw[eqTo_of ry cy]
 exact SeqAt.eqAt_reads d p A s y x _ _ ry rx cy cx (by omega)
theorem tab_in {prog:Program} {w:World} {A:Around} {E:Value->Shared->Prop} {s:Shared} {a:Addr} {o:Obj} {es:Array DictEntry} {ep:Nat} {xs:List Str} {us:List Value} {k:Str} {tk:Tok} {Q:Value->Shared->Prop} (lo:(a==sysModules)=false)
  (ho:s.heap.get? a=some o) (ex:o.ExactDict) (hd:o.data=.dict es ep) (en:EntK es.toList xs us) (h:Q (.bool (xs.contains k)) {s with toks:=s.toks+1}):wpAny (model prog w) A (compareOp .In (.str k tk) (.ref a)) Q E s:=by
 have tI:s.TypeIs (.ref a) "dict":=⟨o,ho,ex.1⟩
 show wpAny _ _ (do return .bool ((<- contains (.ref a) (.str k tk)))) Q E s
 refine wpAny_bind ?_
 unfold contains
 try with_reducible refine wpAny_holding ?_
 refine wpAny_bind (wpAny_specialOf tI PySem.F.slot_dict_contains.lookup ?_)
 show wpAny _ _ (if (some (Value.builtin "dict.__contains__")==some Value.none)=true then _ else _) _ E s
 rw[if_neg (by rw[beq_builtin_none];exact Bool.false_ne_true)]
 refine wpAny_bind (wpAny_callSpecialUnlessNone?_slot (name:=Str.ofString "__contains__") tI PySem.F.slot_dict_contains
  (wpAny_call_entry PySem.F.slot_dict_contains tI PySem.F.entry_dict_contains ?_ (PySem.F.args_dict_contains_2 _ _)))
 show wpAny _ _ (dictGet a (.str k tk) >>= _) _ _ s
 refine wpAny_bind (tab_get ho hd en ?_)
 have hb:=en.mem (k:=k)
 cases hs:sdAt xs us k with
 | some v =>
  rw[hs] at hb;rw[<- hb] at h
  show wpAny _ _ (ret (.bool true)) _ _ _
  exact wpAny_pure ⟨_,rfl,wpAny_truthy_bool (wpAny_pure h)⟩
 | none =>
  rw[hs] at hb;rw[<- hb] at h
  show wpAny _ _ (Builtin.Dict.pendingKey? a (.str k tk) >>= _) _ _ _
  exact wpAny_bind (wpAny_pendingKey_other lo (wpAny_pure ⟨_,rfl,wpAny_truthy_bool (wpAny_pure h)⟩))
theorem op_cIn (hu:X.A.units+66<cLine):OpR X (compareOp .In) (lift2 X.K (cIn false)):=by
 rintro pins s σ H x y v u Q I rx ry ⟨d,e,M,R,r1,r2,rm,h,q⟩
 cases r2 with
 | str z =>
  obtain⟨x',rfl,h2⟩:=(show ∃ x,d=.str x/\R (.bl (if false then !(!(Builtin.Str.occurrences z x 0 z.length 1).isEmpty) else !(Builtin.Str.occurrences z x 0 z.length 1).isEmpty)) M from h)
  cases r1
  exact op_in_str pins s σ H _ _ v u Q I rx ry ⟨_,_,rfl,rfl,q _ _ _ _ (.refl H) rm (.bl _) h2⟩
 | @tup a vs ds ht rr =>
  obtain⟨ps,p,p1,p2,hd,h⟩:=(show inSeq false d ds M R from h)
  cases (show u=Value.ref a from ry)
  obtain⟨its,rv,ht',_⟩:=I.tuple ht
  obtain⟨as,a1,a2⟩:=p1.reads I rm rr rv
  obtain⟨bs,b1,b2⟩:=p2.reads I rm r1 rx
  refine SeqAt.in_tupleAt (items:=its.toArray) (eqTo s.heap p) ht' (fun y hy=>eqTo_at (A:=X.A.in1) (by show X.A.units+1+64<cLine;omega) a1 a2 b1 b2 hd y (by simpa using hy)) ⟨.bl _,H,I,rfl,q _ _ _ _ (.refl H) rm (.bl _) ?_⟩
  rw[List.any_toArray,pys_any a1 a2];exact h
 | @fz a vs ds ht rr =>
  obtain⟨ps,p,p1,p2,hd,h⟩:=(show inSeq false d ds M R from h)
  cases (show u=Value.ref a from ry)
  obtain⟨its,rv,ht',_⟩:=I.list ht.sq
  obtain⟨as,a1,a2⟩:=p1.reads I rm rr rv
  obtain⟨bs,b1,b2⟩:=p2.reads I rm r1 rx
  refine SeqAt.in_listAt (items:=its.toArray) (eqTo s.heap p) ht'.isList (fun y hy=>eqTo_at (A:=X.A.in1) (by show X.A.units+1+64<cLine;omega) a1 a2 b1 b2 hd y (by simpa using hy)) ⟨.bl _,H,I,rfl,q _ _ _ _ (.refl H) rm (.bl _) ?_⟩
  rw[List.any_toArray,pys_any a1 a2];exact h
 | lst a =>
  obtain⟨ds,e0,ps,p,p1,p2,hd,h⟩:=(show ∃ xs,M a=some (.ls xs)/\inSeq false d xs M R from h)
  cases (show u=Value.ref a from ry)
  obtain⟨vs,e1,rr⟩:=rm _ _ e0
  obtain⟨its,rv,ht',_⟩:=I.list (.of e1)
  obtain⟨as,a1,a2⟩:=p1.reads I rm rr rv
  obtain⟨bs,b1,b2⟩:=p2.reads I rm r1 rx
  refine SeqAt.in_listAt (items:=its.toArray) (eqTo s.heap p) ht'.isList (fun y hy=>eqTo_at (A:=X.A.in1) (by show X.A.units+1+64<cLine;omega) a1 a2 b1 b2 hd y (by simpa using hy)) ⟨.bl _,H,I,rfl,q _ _ _ _ (.refl H) rm (.bl _) ?_⟩
  rw[List.any_toArray,pys_any a1 a2];exact h
 | @sd a xs vs ds T rr =>
  obtain⟨x',rfl,h2⟩:=(show ∃ x,d=.str x/\R (.bl (if false then !(xs.contains x) else xs.contains x)) M from h)
  cases r1
  obtain⟨tk,rfl⟩:=rx
  cases (show u=Value.ref a from ry)
  obtain⟨lo,o,es,ep,us,lk,ex,hd,en,rv⟩:=T
  exact tab_in lo (I.kIn _ _ lk) ex hd en ⟨.bl _,H,I.tok _,rfl,q _ _ _ _ (.refl H) rm (.bl _) h2⟩
 | _=>exact (show False from h).elim
theorem opF {f:Value->Value->Sem Value}:OpR X f (lift2 X.K fun _ _ _ _=>False):=by
 rintro pins s σ H x y v u Q I rx ry ⟨d,e,M,R,r1,r2,rm,h,q⟩
 exact h.elim
theorem op_c (hu:X.A.units+66<cLine) (op:CmpOp):OpR X (compareOp op) (lift2 X.K (cOp op)):=by
 cases op with
 | Eq=>exact op_cEq (by omega)
 | NotEq=>exact op_cNe (by omega)
 | Lt=>exact op_cInt op_lt
 | LtE=>exact op_cInt op_le
 | Gt=>exact op_cInt op_gt
 | GtE=>exact op_cInt op_ge
 | In=>exact op_cIn hu
 | NotIn=>exact opF
 | Is=>exact opF
 | IsNot=>exact op_cIsNot
noncomputable def iOp (d e:D) (M:Mem) (Q:DK):Prop :=
 match d,e with
 | .tup xs,.int i=>∃ v,atI xs i=some v/\Q v M
 | .fz xs,.int i=>∃ v,atI xs i=some v/\Q v M
 | .lst a,.int i=>∃ xs v,M a=some (.ls xs)/\atI xs i=some v/\Q v M
 | .str z,.int i=>z.length<=sizeLine/\∃ c,atI z.cps.toList i=some c/\Q (.str ⟨#[c]⟩) M
 | .sd xs ds,.str k=>∃ v,sdAt xs ds k=some v/\Q v M
 | _,_=>False
theorem RelDs.atI {K:PySem.W.Frag} {H:Hp} {vs:List V} {ds:List D} {i:Int} {d:D} (r:RelDs K H vs ds) (e:L2.atI ds i=some d):∃ v,L2.atI vs i=some v/\RelD K H v d:=by
 unfold L2.atI at e ⊢
 rw[r.length]
 cases q:ixN ds.length i with
 | none=>rw [q] at e;cases e
 | some j=>rw [q] at e;exact r.get e
theorem iOp_int {d e:D} {M:Mem} {Q:DK} (hn:∀ i,e≠.int i) (hk:∀ i,e≠.str i) (h:iOp d e M Q):False:=by
 unfold iOp at h
 split at h
 ·exact hn _ rfl
 ·exact hn _ rfl
 ·exact hn _ rfl
 ·exact hn _ rfl
 ·exact hk _ rfl
 ·exact h
theorem iOp_str {d:D} {k:Str} {M:Mem} {Q:DK} (h:iOp d (.str k) M Q):∃ xs ds v,d=.sd xs ds/\sdAt xs ds k=some v/\Q v M:=by
 cases d with
 | sd xs ds=>obtain⟨v,h1,h2⟩:=(show ∃ v,sdAt xs ds k=some v/\Q v M from h);exact⟨xs,ds,v,rfl,h1,h2⟩
 | _=>exact (show False from h).elim
theorem ix_sd:IxR X (fun x y H Q=>∃ p xs vs k v,x=.ref p/\y=.str k/\TabK X.K p xs vs/\sdAt xs vs k=some v/\Q v H):=by
 intro value slice pins s σ H x y v u Q I rx ry h hs
 obtain⟨p,xs,vs,k,z,rfl,rfl,⟨lo,o,es,ep,us,lk,ex,hd,en,rv⟩,e,q⟩:=h
 cases rx
 obtain⟨tk,rfl⟩:=ry
 have ho:=I.kIn _ _ lk
 have tI:s.TypeIs (.ref p) "dict":=⟨o,ho,ex.1⟩
 obtain⟨w',ew,rw'⟩:=sdAt_vals rv e
 refine subscriptTail_builtinR (x:=w') tI PySem.F.slot_dict_getitem.lookup ?_ hs
 unfold getItem
 try with_reducible refine wpAny_holding ?_
 refine wpAny_bind (wpAny_sequenceKey tI (by decide) ?_)
 refine wpAny_bind (wpAny_callSpecial?_slot (name:=Str.ofString "__getitem__") tI PySem.F.slot_dict_getitem
  (wpAny_call_entry PySem.F.slot_dict_getitem tI PySem.F.entry_dict_getitem ?_ (PySem.F.args_dict_getitem_2 _ _)))
 show wpAny _ _ (dictGet p (.str k tk) >>= _) _ _ s
 refine wpAny_bind (tab_get ho hd en ?_)
 rw[ew]
 exact wpAny_pure ⟨w',rfl,wpAny_pure ⟨rfl,z,H,I.tok _,rw',q⟩⟩
theorem ix_i:IxR X (lift2 X.K iOp):=by
 rintro value slice pins s σ H x y v u Q I rx ry ⟨d,e,M,R,r1,r2,rm,h,q⟩ hs
 cases r2 with
 | int i =>
  cases r1 with
  | tup ht r =>
   obtain⟨d,e,h⟩:=(show ∃ v,L2.atI _ i=some v/\R v M from h)
   obtain⟨w,e1,r1⟩:=r.atI e
   exact ix_tup value slice pins s σ H _ _ v u Q I rx ry ⟨_,_,_,_,rfl,rfl,ht,e1,q _ _ _ _ (.refl H) rm r1 h⟩ hs
  | fz ht r =>
   obtain⟨d,e,h⟩:=(show ∃ v,L2.atI _ i=some v/\R v M from h)
   obtain⟨w,e1,r1⟩:=r.atI e
   exact ix_list value slice pins s σ H _ _ v u Q I rx ry ⟨_,_,_,_,rfl,rfl,ht.sq,e1,q _ _ _ _ (.refl H) rm r1 h⟩ hs
  | lst a =>
   obtain⟨xs,d,e0,e,h⟩:=(show ∃ xs v,M a=some (.ls xs)/\L2.atI xs i=some v/\R v M from h)
   obtain⟨vs,e1,r⟩:=rm _ _ e0
   obtain⟨w,e1',r1⟩:=r.atI e
   exact ix_list value slice pins s σ H _ _ v u Q I rx ry ⟨_,_,_,_,rfl,rfl,.of e1,e1',q _ _ _ _ (.refl H) rm r1 h⟩ hs
  | str z =>
   obtain⟨hz,c,e,h⟩:=(show z.length<=sizeLine/\∃ c,L2.atI z.cps.toList i=some c/\R (.str ⟨#[c]⟩) M from h)
   exact ix_str value slice pins s σ H _ _ v u Q I rx ry ⟨_,_,_,rfl,rfl,hz,e,q _ _ _ _ (.refl H) rm (.str _) h⟩ hs
  | _=>exact (show False from h).elim
 | str k =>
  obtain⟨xs,ds,w',rfl,e,h⟩:=iOp_str h
  cases r1 with
  | sd T r =>
   obtain⟨z,e1,r1⟩:=sdAt_rel r e
   exact ix_sd value slice pins s σ H _ _ v u Q I rx ry ⟨_,_,_,_,_,rfl,rfl,T,e1,q _ _ _ _ (.refl H) rm r1 h⟩ hs
 | _=>exact (iOp_int (by rintro i ⟨⟩) (by rintro i ⟨⟩) h).elim
noncomputable def cutG {α:Type} (xs:List α) (lo hi:Option Int):List α:=(xs.drop (HT.sIx xs.length 0 lo)).take (HT.sIx xs.length xs.length hi-HT.sIx xs.length 0 lo)
theorem RelDs.cut {K:PySem.W.Frag} {H:Hp} {vs:List V} {ds:List D} (r:RelDs K H vs ds) (lo hi:Option Int):RelDs K H (cutV vs lo hi) (cutG ds lo hi):=by
 unfold cutV cutG;rw[r.length];exact (r.drop _).take _
noncomputable def sOp (d:D) (lo hi:Option Int) (M:Mem) (Q:DK):Prop :=
 match d with
 | .fz xs=>alloc M (.ls (cutG xs lo hi)) fun p M'=>Q (.lst p) M'
 | .lst a=>∃ xs,M a=some (.ls xs)/\alloc M (.ls (cutG xs lo hi)) fun p M'=>Q (.lst p) M'
 | .tup xs=>Q (.tup (cutG xs lo hi)) M
 | _=>False
noncomputable def lift3 (K:PySem.W.Frag) (f:D->Option Int->Option Int->Mem->DK->Prop):V->Option Int->Option Int->Hp->VK->Prop:=fun x lo hi H Q=>∃ d M R,RelD K H x d/\RepM K H M/\f d lo hi M R/\∀ d' M' v H',HExt K H H'->RepM K H' M'->RelD K H' v d'->R d' M'->Q v H'
set_option tactic.hygienic true
theorem sl_s:SlR X (lift3 X.K sOp):=by
 rintro pins s σ H x v vl vu lo hi sl Q I rx hs pl pu ⟨d,M,R,r1,rm,h,q⟩
 cases r1 with
 | fz ht r =>
  exact sl_list pins s σ H _ v vl vu lo hi sl Q I rx hs pl pu ⟨_,_,rfl,ht.sq,fun p hp=>q _ _ _ _ (.upd (.inl hp)) (rm.lst hp (r.cut lo hi)) (.lst p) ((show alloc M (.ls (cutG _ lo hi)) fun p M'=>R (.lst p) M' from h).at (rm.none hp))⟩
 | lst a =>
  obtain⟨xs,e0,h⟩:=(show ∃ xs,M a=some (.ls xs)/\alloc M (.ls (cutG xs lo hi)) fun p M'=>R (.lst p) M' from h)
  obtain⟨vs,e1,r⟩:=rm _ _ e0
  exact sl_list pins s σ H _ v vl vu lo hi sl Q I rx hs pl pu ⟨_,_,rfl,.of e1,fun p hp=>q _ _ _ _ (.upd (.inl hp)) (rm.lst hp (r.cut lo hi)) (.lst p) (h.at (rm.none hp))⟩
 | tup ht r =>
  rename_i vs ds
  by_cases hw:HT.sIx vs.length 0 lo=0/\HT.sIx vs.length vs.length hi=vs.length
  ·have e:cutG ds lo hi=ds:=by
    unfold cutG
    rw[<- r.length,hw.1,hw.2,List.drop_zero,Nat.sub_zero,r.length,List.take_length]
   have h':R (.tup (cutG ds lo hi)) M:=h
   rw[e] at h'
   exact sl_tupW pins s σ H _ v vl vu lo hi sl Q I rx hs pl pu ⟨_,_,rfl,ht,hw,q _ _ _ _ (.refl H) rm (.tup ht r) h'⟩
  ·exact sl_tup pins s σ H _ v vl vu lo hi sl Q I rx hs pl pu ⟨_,_,rfl,ht,hw,fun p hp=>q _ _ _ _ (.upd (.inl hp)) (rm.tup hp) (.tup (.of upd_same) ((r.cut lo hi).ext (.upd (.inl hp)))) h⟩
 | _=>exact (show False from h).elim
set_option tactic.hygienic false
noncomputable def fAbs:List D->Mem->DK->Prop
 | [.int i],M,Q=>Q (.int (if i<0 then -i else i)) M
 | _,_,_=>False
noncomputable def fMax:List D->Mem->DK->Prop
 | [.int i,.int j],M,Q=>Q (.int (if j > i then j else i)) M
 | _,_,_=>False
noncomputable def fMin:List D->Mem->DK->Prop
 | [.int i,.int j],M,Q=>Q (.int (if j<i then j else i)) M
 | _,_,_=>False
noncomputable def fStr:List D->Mem->DK->Prop
 | [.int i],M,Q=>i.natAbs.log2<1920/\Q (.str (toString i)) M
 | _,_,_=>False
noncomputable def fLen:List D->Mem->DK->Prop
 | [.tup xs],M,Q=>Q (.int xs.length) M
 | [.fz xs],M,Q=>Q (.int xs.length) M
 | [.lst a],M,Q=>∃ xs,M a=some (.ls xs)/\Q (.int xs.length) M
 | [.str z],M,Q=>z.length<=sizeLine/\Q (.int z.length) M
 | _,_,_=>False
noncomputable def fDivmod:List D->Mem->DK->Prop
 | [.int i,.int j],M,Q=>DivOk j/\Q (.tup [.int (i.fdiv j),.int (i.fmod j)]) M
 | _,_,_=>False
noncomputable def fTuple:List D->Mem->DK->Prop
 | [.tup xs],M,Q=>Q (.tup xs) M
 | [.fz xs],M,Q=>Q (.tup xs) M
 | [.lst a],M,Q=>∃ xs,M a=some (.ls xs)/\Q (.tup xs) M
 | _,_,_=>False
noncomputable def fList:List D->Mem->DK->Prop
 | [.tup xs],M,Q=>alloc M (.ls xs) fun p M'=>Q (.lst p) M'
 | [.fz xs],M,Q=>alloc M (.ls xs) fun p M'=>Q (.lst p) M'
 | [.lst a],M,Q=>∃ xs,M a=some (.ls xs)/\alloc M (.ls xs) fun p M'=>Q (.lst p) M'
 | _,_,_=>False
noncomputable def fInt:List D->Mem->DK->Prop
 | [.int i],M,Q=>Q (.int i) M
 | [.bl b],M,Q=>Q (.int (if b then 1 else 0)) M
 | _,_,_=>False
theorem RelDs.one {K:PySem.W.Frag} {H:Hp} {vs:List V} {d:D} (r:RelDs K H vs [d]):∃ v,vs=[v]/\RelD K H v d:=by
 cases r with|cons h q=>cases q;exact⟨_,rfl,h⟩
theorem RelDs.two {K:PySem.W.Frag} {H:Hp} {vs:List V} {d e:D} (r:RelDs K H vs [d,e]):∃ v w,vs=[v,w]/\RelD K H v d/\RelD K H w e:=by
 cases r with|cons h q=>cases q with|cons h' q'=>cases q';exact⟨_,_,rfl,h,h'⟩
theorem ca_abs:CallR X (.builtin "abs") (liftC X.K fAbs):=by
 refine (call_abs (X:=X)).imp ?_
 rintro xs H Q ⟨ds,M,R,r,rm,h,q⟩
 unfold fAbs at h;split at h
 ·obtain⟨v,rfl,ra⟩:=r.one;cases ra;exact⟨_,rfl,q _ _ _ _ (.refl H) rm (.int _) h⟩
 ·exact h.elim
theorem ca_max (hc:X.calm=true):CallR X (.builtin "max") (liftC X.K fMax):=by
 refine (call_max2 (X:=X) hc).imp ?_
 rintro xs H Q ⟨ds,M,R,r,rm,h,q⟩
 unfold fMax at h;split at h
 ·obtain⟨v,w,rfl,r1,r2⟩:=r.two;cases r1;cases r2;exact⟨_,_,rfl,q _ _ _ _ (.refl H) rm (.int _) h⟩
 ·exact h.elim
theorem ca_min (hc:X.calm=true):CallR X (.builtin "min") (liftC X.K fMin):=by
 refine (call_min2 (X:=X) hc).imp ?_
 rintro xs H Q ⟨ds,M,R,r,rm,h,q⟩
 unfold fMin at h;split at h
 ·obtain⟨v,w,rfl,r1,r2⟩:=r.two;cases r1;cases r2;exact⟨_,_,rfl,q _ _ _ _ (.refl H) rm (.int _) h⟩
 ·exact h.elim
theorem ca_str:CallR X (.type "str") (liftC X.K fStr):=by
 refine (call_str_int (X:=X)).imp ?_
 rintro xs H Q ⟨ds,M,R,r,rm,h,q⟩
 unfold fStr at h;split at h
 ·obtain⟨v,rfl,ra⟩:=r.one;cases ra;exact⟨_,rfl,h.1,q _ _ _ _ (.refl H) rm (.str _) h.2⟩
 ·exact h.elim
theorem ca_len:CallR X (.builtin "len") (liftC X.K fLen):=by
 refine (call_len_seq (X:=X) |>.or call_len_str).imp ?_
 rintro xs H Q ⟨ds,M,R,r,rm,h,q⟩
 unfold fLen at h;split at h
 ·obtain⟨v,rfl,ra⟩:=r.one;cases ra with|tup ht r=>exact .inl ⟨_,_,rfl,.inr ht,q _ _ _ _ (.refl H) rm (by rw[r.length];exact .int _) h⟩
 ·obtain⟨v,rfl,ra⟩:=r.one;cases ra with|fz ht r=>exact .inl ⟨_,_,rfl,.inl ht.sq,q _ _ _ _ (.refl H) rm (by rw[r.length];exact .int _) h⟩
 ·obtain⟨v,rfl,ra⟩:=r.one
  obtain⟨xs,e0,h⟩:=h
  obtain⟨vs,e1,r'⟩:=rm _ _ e0
  cases ra;exact .inl ⟨_,_,rfl,.inl (.of e1),q _ _ _ _ (.refl H) rm (by rw[r'.length];exact .int _) h⟩
 ·obtain⟨v,rfl,ra⟩:=r.one;cases ra;exact .inr ⟨_,rfl,h.1,q _ _ _ _ (.refl H) rm (.int _) h.2⟩
 ·exact h.elim
set_option tactic.hygienic true
theorem ca_divmod:CallR X (.builtin "divmod") (liftC X.K fDivmod):=by
 rintro pins s σ H xs us Q I rv ⟨ds,M,R,r,rm,h,q⟩
 unfold fDivmod at h;split at h
 ·rename_i i j
  obtain⟨v,w,rfl,r1,r2⟩:=r.two;cases r1;cases r2
  obtain⟨u,w',rfl,⟨t,rfl⟩,⟨t',rfl⟩⟩:=vals2 rv
  refine divmod_int h.1.1 ?_ (.inl (PyProof.noPylong_of_log2 h.1.2))
  have hn:H s.heap.objs.size=none:=I.hok.fresh (Nat.le_refl _)
  refine⟨.ref s.heap.objs.size,upd H s.heap.objs.size (.tup [.int (i.fdiv j),.int (i.fmod j)]),?_,rfl,q _ _ _ _ (.upd (.inl hn)) (rm.tup hn) (.tup (.of upd_same) (.cons (.int _) (.cons (.int _) .nil))) h.2⟩
  refine I.laid (fun b o e=>Heap.get?_push_of_some _ e) (Nat.le_refl _) ⟨by simp only[List.length_cons,List.length_nil];rw[sizeLine_eq];decide,[.int (i.fdiv j) s.toks,.int (i.fmod j) (s.toks+1)],.cons ⟨_,rfl⟩ (.cons ⟨_,rfl⟩ .nil),?_⟩
  exact⟨_,Heap.get?_push_size s.heap rfl,rfl,0,rfl⟩
 ·exact h.elim
set_option tactic.hygienic false
theorem ca_tuple:CallR X (.type "tuple") (liftC X.K fTuple):=by
 refine (call_tuple_of (X:=X)).imp ?_
 rintro xs H Q ⟨ds,M,R,r,rm,h,q⟩
 unfold fTuple at h;split at h
 ·obtain⟨v,rfl,ra⟩:=r.one;cases ra with|tup ht r=>exact⟨_,_,rfl,.inr ⟨ht,q _ _ _ _ (.refl H) rm (.tup ht r) h⟩⟩
 ·obtain⟨v,rfl,ra⟩:=r.one;cases ra with|fz ht r=>exact⟨_,_,rfl,.inl ⟨ht.sq,fun p hp=>q _ _ _ _ (.upd (.inl hp)) (rm.tup hp) (.tup (.of upd_same) (r.ext (.upd (.inl hp)))) h⟩⟩
 ·obtain⟨v,rfl,ra⟩:=r.one
  obtain⟨xs,e0,h⟩:=h
  obtain⟨vs,e1,r'⟩:=rm _ _ e0
  cases ra;exact⟨_,_,rfl,.inl ⟨.of e1,fun p hp=>q _ _ _ _ (.upd (.inl hp)) (rm.tup hp) (.tup (.of upd_same) (r'.ext (.upd (.inl hp)))) h⟩⟩
 ·exact h.elim
end
end DL
end
noncomputable section
namespace DL
open PySem PySem.Spec PyProof.Rows L2
noncomputable def tyD (M:Mem):D->Option String
 | .non=>some "NoneType"
 | .bl _=>some "bool"
 | .int _=>some "int"
 | .str _=>some "str"
 | .tup _=>some "tuple"
 | .fz _=>some "list"
 | .lst a=>match M a with|some (.ls _)=>some "list" | _=>none
 | .dct a=>match M a with|some (.dk _)=>some "dict" | _=>none
 | .exc _ _=>some "exc"
 | _=>none
noncomputable def isiT (a b:String):Bool:=a==b || (a == "bool" && b == "int") || (a == "exc" && b == "ValueError")
noncomputable def fIsi:List D->Mem->DK->Prop
 | [d,.ty T],M,Q=>∃ t,tyD M d=some t/\(T="int"\/T="bool"\/T="str"\/T="tuple"\/T="list"\/T="dict"\/T="ValueError")/\Q (.bl (isiT t T)) M
 | [.non,.cls _],M,Q=>Q (.bl false) M
 | [d,.cls c],M,Q=>∃ m,d=.exc m (xarg d)/\Q (.bl (isSub m c)) M
 | [d,.tup cs],M,Q=>∃ m,∃ ns:List Str,d=.exc m (xarg d)/\cs=ns.map .cls/\Q (.bl (ns.any (isSub m))) M
 | _,_,_=>False
theorem kit_tab (K:PySem.W.Frag) {t T:String} (h:t="NoneType"\/t="bool"\/t="int"\/t="str"\/t="tuple"\/t="list"\/t="dict")
  (h':T="int"\/T="bool"\/T="str"\/T="tuple"\/T="list"\/T="dict"\/T="ValueError"):PySem.W.kitOne K (.type t) (.type T)=some (isiT t T):=by
 rcases h with rfl|rfl|rfl|rfl|rfl|rfl|rfl<;>rcases h' with rfl|rfl|rfl|rfl|rfl|rfl|rfl<;>kernel_rfl
section
variable {X:Cx} {rz:Bool} {Xe:DSt->DK}
theorem exc_inst {pins:List (Addr×Obj)} {σ:L2.St} {H:Hp} {s:Shared} {v:V} {n:Str} {x:D} (I:L2.Inv X pins σ H s) (r:RelD X.K H v (.exc n x)):∃ a C,v=.ref a/\n∈xNames/\ClsOf X.K n C/\∃ ox od,PySem.W.InstAt s.heap a ox C od:=by
 cases r with
 | @exc a C n hn hi hc h =>
  obtain⟨ob,vs,h1,h2,h3,h4⟩:=(I.hok _ _ h).1
  exact⟨a,C,rfl,hn,hc,ob,none,h1,h2,by unfold PySem.W.notCls;rw[h4],by rw[h3];trivial⟩
 | @excF a C d n v x hn hi hc h hd r =>
  obtain⟨ob,vs,h1,h2,h3,h4⟩:=(I.hok _ _ h).1
  obtain⟨o,ho⟩:=(I.hok _ _ hd).2.1
  exact⟨a,C,rfl,hn,hc,ob,some o,h1,h2,by unfold PySem.W.notCls;rw[h4],by rw[h3];exact ho⟩
set_option tactic.hygienic true
theorem ca_isi (tab:xTabB X.K=true):CallR X (.builtin "isinstance") (liftC X.K fIsi):=by
 rintro pins s σ H xs us Q I rv ⟨ds,M,R,r,rm,h,q⟩
 unfold fIsi at h;split at h
 ·rename_i d T
  obtain⟨v,w,rfl,r1,r2⟩:=r.two;cases r2
  obtain⟨u,w',rfl,ru,rw'⟩:=vals2 rv
  cases (show w'=Value.type T from rw')
  obtain⟨t,e,hT,h⟩:=h
  have fin:∀ tk,EP X pins σ Q (.bool (isiT t T)) {s with toks:=tk}:=fun tk=>⟨.bl _,H,I.tok tk,rfl,q _ _ _ _ (.refl H) rm (.bl _) h⟩
  cases r1 with
  | non=>cases e;cases (show u=Value.none from ru);exact PySem.W.kia_one PySem.W.kitx_none I.kIn True.intro (kit_tab _ (by simp) hT) (fun z=>nomatch z) fin
  | bl b=>cases e;cases (show u=Value.bool b from ru);exact PySem.W.kia_one PySem.W.kitx_bool I.kIn True.intro (kit_tab _ (by simp) hT) (fun z=>nomatch z) fin
  | int i=>cases e;obtain⟨t,rfl⟩:=(show ∃ t,u=Value.int i t from ru);exact PySem.W.kia_one PySem.W.kitx_int I.kIn True.intro (kit_tab _ (by simp) hT) (fun z=>nomatch z) fin
  | str x=>cases e;obtain⟨t,rfl⟩:=(show ∃ t,u=Value.str x t from ru);exact PySem.W.kia_one PySem.W.kitx_str I.kIn True.intro (kit_tab _ (by simp) hT) (fun z=>nomatch z) fin
  | @tup a vs ds ht _ =>
   cases e;cases (show u=Value.ref a from ru)
   obtain⟨its,_,⟨o,h1,h2,_⟩,_⟩:=I.tuple ht
   exact PySem.W.kia_one PySem.W.kitx_tuple I.kIn ⟨o,h1,h2⟩ (kit_tab _ (by simp) hT) (fun z=>nomatch z) fin
  | @fz a vs ds ht _ =>
   cases e;cases (show u=Value.ref a from ru)
   obtain⟨its,_,⟨o,n,h1,h2,_⟩,_⟩:=I.list ht.sq
   exact PySem.W.kia_one PySem.W.kitx_list I.kIn ⟨o,h1,h2⟩ (kit_tab _ (by simp) hT) (fun z=>nomatch z) fin
  | lst a =>
   cases (show u=Value.ref a from ru)
   simp only[tyD] at e
   split at e<;>cases e
   rename_i ds e0
   obtain⟨vs,e1,_⟩:=rm _ _ e0
   obtain⟨its,_,⟨o,n,h1,h2,_⟩,_⟩:=I.list (.of e1)
   exact PySem.W.kia_one PySem.W.kitx_list I.kIn ⟨o,h1,h2⟩ (kit_tab _ (by simp) hT) (fun z=>nomatch z) fin
  | dct a =>
   cases (show u=Value.ref a from ru)
   simp only[tyD] at e
   split at e<;>cases e
   rename_i ds e0
   obtain⟨vs,e1,_⟩:=rm _ _ e0
   obtain⟨_,_,vs,_,p⟩:=(show ObjOk X.prog X.w H s.heap a (.dK vs) from I.hok a _ e1)
   obtain⟨o,es,ep,h1,h2,_⟩:=p
   exact PySem.W.kia_one PySem.W.kitx_dict I.kIn ⟨o,h1,h2.1⟩ (kit_tab _ (by simp) hT) (fun z=>nomatch z) fin
  | @exc a C n hn hi hc hx =>
   obtain⟨a,C,ev,hn,hc,hx⟩:=exc_inst I (.exc hn hi hc hx)
   cases ev
   cases e;cases (show u=Value.ref a from ru)
   have e:isiT "exc" T=(T == "ValueError"):=by rcases hT with rfl|rfl|rfl|rfl|rfl|rfl|rfl<;>decide
   rw[e] at fin
   exact PySem.W.kia_one (kitx_exc (xTab_row tab hn hc).1) I.kIn hx ((xTab_row tab hn hc).2.2.1 T hT) (fun z=>nomatch z) fin
  | @excF a C d n v x hn hi hc hx hd rr0 =>
   obtain⟨a,C,ev,hn,hc,hx⟩:=exc_inst I (.excF hn hi hc hx hd rr0)
   cases ev
   cases e;cases (show u=Value.ref a from ru)
   have e:isiT "exc" T=(T == "ValueError"):=by rcases hT with rfl|rfl|rfl|rfl|rfl|rfl|rfl<;>decide
   rw[e] at fin
   exact PySem.W.kia_one (kitx_exc (xTab_row tab hn hc).1) I.kIn hx ((xTab_row tab hn hc).2.2.1 T hT) (fun z=>nomatch z) fin
  | _=>cases e
 ·rename_i c
  obtain⟨v,w,rfl,r1,r2⟩:=r.two
  obtain⟨u,w',rfl,ru,rw'⟩:=vals2 rv
  cases r1
  cases r2 with
  | @cls D' c' hn' hc' =>
   cases (show w'=Value.ref D' from rw')
   cases (show u=Value.none from ru)
   exact PySem.W.kia_one PySem.W.kitx_none I.kIn True.intro (nTab_row tab hn' hc') (fun z=>nomatch z) fun tk=>⟨.bl _,H,I.tok tk,rfl,q _ _ _ _ (.refl H) rm (.bl _) h⟩
 ·rename_i d c _
  obtain⟨v,w,rfl,r1,r2⟩:=r.two
  obtain⟨u,w',rfl,ru,rw'⟩:=vals2 rv
  obtain⟨m,ed,h⟩:=h
  rw[ed] at r1
  cases r2 with
  | @cls D' c' hn' hc' =>
   cases (show w'=Value.ref D' from rw')
   obtain⟨a,C,ev,hn,hc,hx⟩:=exc_inst I r1
   subst ev
   ·cases (show u=Value.ref a from ru)
    have fin:∀ tk,EP X pins σ Q (.bool (isSub m c)) {s with toks:=tk}:=fun tk=>⟨.bl _,H,I.tok tk,rfl,q _ _ _ _ (.refl H) rm (.bl _) h⟩
    exact PySem.W.kia_one (kitx_exc (xTab_row tab hn hc).1) I.kIn hx ((xTab_row tab hn hc).2.2.2 c D' hn' hc').2 (fun z=>nomatch z) fin
 ·rename_i d cs
  obtain⟨v,w,rfl,r1,r2⟩:=r.two
  obtain⟨u,w',rfl,ru,rw'⟩:=vals2 rv
  obtain⟨m,ns,ed,rfl,h⟩:=h
  rw[ed] at r1
  cases r2 with
  | @tup b vs ds ht rr =>
   cases (show w'=Value.ref b from rw')
   obtain⟨a,C,ev,hn,hc,hx⟩:=exc_inst I r1
   subst ev
   ·cases (show u=Value.ref a from ru)
    obtain⟨its,rv2,⟨o,h1,h2,n2,h3⟩,_⟩:=I.tuple ht
    have key:∀ {ns:List Str} {vs:List V} {its:List Value},RelDs X.K H vs (ns.map .cls)->Vals vs its->PySem.W.kitAny X.K (.ref C) its=some (ns.any (isSub m)):=by
     intro ns
     induction ns with
     | nil=>intro vs its r q;cases r;cases q;rfl
     | cons c ns ih =>
      intro vs its r q
      cases r with
      | cons e r =>
       cases e with
       | @cls D' c' hn' hc' =>
        cases q with
        | cons e2 q =>
         cases e2
         have k1:=((xTab_row tab hn hc).2.2.2 c D' hn' hc').2
         show (match PySem.W.kitOne X.K (.ref C) (.ref D') with|some true=>some true|some false=>PySem.W.kitAny X.K (.ref C) _|none=>none)=_
         rw[k1,List.any_cons]
         cases isSub m c with
         | true=>rfl
         | false=>exact ih r q
    have fin:∀ tk,EP X pins σ Q (.bool (ns.any (isSub m))) {s with toks:=tk}:=fun tk=>⟨.bl _,H,I.tok tk,rfl,q _ _ _ _ (.refl H) rm (.bl _) h⟩
    obtain⟨oc,od,odt,osl⟩:=o
    cases h2
    cases h3
    exact PySem.W.kia_tup (kitx_exc (xTab_row tab hn hc).1) I.kIn hx h1 (key rr rv2) (fun z=>nomatch z) fin
 ·exact h.elim
set_option tactic.hygienic false
noncomputable def fAll:List D->Mem->DK->Prop
 | [.lst a],M,Q=>∃ bs:List Bool,M a=some (.ls (bs.map .bl))/\Q (.bl (bs.all id)) M
 | _,_,_=>False
noncomputable def fAny:List D->Mem->DK->Prop
 | [.lst a],M,Q=>∃ bs:List Bool,M a=some (.ls (bs.map .bl))/\Q (.bl (bs.any id)) M
 | _,_,_=>False
theorem bools_are {K:PySem.W.Frag} {H:Hp} {bs:List Bool}:∀ {vs:List V} {us:List Value},RelDs K H vs (bs.map .bl)->Vals vs us->LSm.BoolsAre us bs:=by
 induction bs with
 | nil=>intro vs us r q;cases r;cases q;exact .nil
 | cons b bs ih =>
  intro vs us r q
  cases r with
  | cons rb r =>
   cases rb
   cases q with
   | cons e q =>
    cases e
    exact .cons _ (ih r q)
set_option tactic.hygienic true
theorem ca_all (hc:X.calm=true):CallR X (.builtin "all") (liftC X.K fAll):=by
 rintro pins s σ H xs us Q I rv ⟨ds,M,R,r,rm,h,q⟩
 unfold fAll at h;split at h
 ·rename_i a
  obtain⟨v,rfl,ra⟩:=r.one;cases ra
  obtain⟨u,rfl,ru⟩:=vals1 rv
  cases (show u=Value.ref a from ru)
  obtain⟨bs,e0,h⟩:=h
  obtain⟨vs,e1,r1⟩:=rm _ _ e0
  obtain⟨its,r2,pl,_⟩:=I.list (.of e1)
  have hb:=bools_are r1 r2
  have hl:=pl.isList
  have hlt:a<s.heap.objs.size:=by obtain⟨_,e,_⟩:=hl;exact Heap.lt_size e
  refine call_all_walk (wpAny_pyIter_list hl ?_)
  refine⟨s.heap.objs.size,[s.heap.objs.size,a],[s.heap.objs.size],its.toArray.size,_,_,fun i=>(bs[i]?).getD true,rfl,Walks.list (A:=X.A.in1) (I.ok.hd hc) _ a (Nat.ne_of_lt hlt) its.toArray,
   ⟨⟨_,Heap.get?_push_size _ rfl,rfl,rfl⟩,hl.push _⟩,fun i v s' Q' E' hP hQ=>?_,fun h' tk hk=>?_⟩
  ·obtain⟨b,e,rfl⟩:=hb.get i v (by simpa using hP)
   simp only[e,Option.getD_some] at hQ
   exact wpAny_truthy_bool hQ
  ·have e:((List.range its.toArray.size).all fun i=>(bs[i]?).getD true)=bs.all id:=by
    rw[List.size_toArray,hb.length];exact LSm.range_all bs
   rw[e]
   exact⟨.bl _,H,I.kept (LSm.kept_iter hk),rfl,q _ _ _ _ (.refl H) rm (.bl _) h⟩
 ·exact h.elim
end
set_option tactic.hygienic false
noncomputable def truD (d:D) (M:Mem) (Q:Bool->Mem->Prop):Prop :=
 match d with
 | .non=>Q false M
 | .bl b=>Q b M
 | .int i=>Q (i != 0) M
 | .str y=>y.length<=sizeLine/\Q ((y.length:Int) != 0) M
 | .tup xs=>Q (!xs.isEmpty) M
 | .fz xs=>Q (!xs.isEmpty) M
 | .lst a=>∃ xs,M a=some (.ls xs)/\Q (!xs.isEmpty) M
 | _=>False
noncomputable def dTru (t:DE):DT:=fun δ M Q=>t δ M fun d M1=>truD d M1 Q
section
variable {X:Cx} {rz:Bool} {Xe:DSt->DK} {a b c e:Expr} {es rest:List Expr} {ta tb tc:DE} {t:DA} {tA tB:DT} {pos:Pos}
theorem RelDs.isEmpty {K:PySem.W.Frag} {H:Hp} {vs:List V} {ds:List D} (r:RelDs K H vs ds):vs.isEmpty=ds.isEmpty:=by cases r<;>rfl
theorem dt_tru (ha:PE X a (lift (X.L rz Xe) ta)) (he:∀ whole,isTrue a X.env whole=(do let v <- whole;standAt a.pos;holding [v] (truthy v))):PT X a (liftT (X.L rz Xe) (dTru ta)) :=
 (pt_truth ha he).imp fun σ H Q ⟨δ,M,R,rs,rm,t,q⟩=>⟨δ,M,_,rs,rm,t,fun d M' v H' x m r h=>by
  cases r with
  | non=>exact⟨_,rfl,q _ _ _ x m h⟩
  | bl b=>exact⟨_,rfl,q _ _ _ x m h⟩
  | int i=>exact⟨_,rfl,q _ _ _ x m h⟩
  | str y=>exact⟨_,⟨h.1,rfl⟩,q _ _ _ x m h.2⟩
  | tup ht r=>exact⟨_,.inr (.inl ⟨_,ht,rfl⟩),q _ _ _ x m (by rw[r.isEmpty];exact h)⟩
  | fz ht r=>exact⟨_,.inl ⟨_,ht.sq,rfl⟩,q _ _ _ x m (by rw[r.isEmpty];exact h)⟩
  | lst a =>
   obtain⟨xs,e0,h⟩:=h
   obtain⟨vs,e1,r⟩:=m _ _ e0
   exact⟨_,.inl ⟨_,.of e1,rfl⟩,q _ _ _ x m (by rw[r.isEmpty];exact h)⟩
  | _=>exact (show False from h).elim⟩
theorem dt_cmp {op:CmpOp} (hu:X.A.units+66<cLine) (ha:PE X a (lift (X.L rz Xe) ta)) (hb:PE X b (lift (X.L rz Xe) tb)) (hm:behindInMarks op b=false):PT X (.Compare a [op] [b] pos) (liftT (X.L rz Xe) (dTest (d2 (cOp op) ta tb))) :=
 (pt_cmpR (op_c hu op) ha hb hm).imp fun σ H Q ⟨δ,M,R,rs,rm,t,q⟩=>d2_op ⟨δ,M,_,rs,rm,t,fun d M' v H' x m r ⟨k,e,h⟩=>by
  subst e;cases r;exact⟨k,rfl,q _ _ _ x m h⟩⟩
theorem de_cmp {op:CmpOp} (hu:X.A.units+66<cLine) (ha:PE X a (lift (X.L rz Xe) ta)) (hb:PE X b (lift (X.L rz Xe) tb)) (hm:behindInMarks op b=false):PE X (.Compare a [op] [b] pos) (lift (X.L rz Xe) (d2 (cOp op) ta tb)) :=
 (pe_cmpR (op_c hu op) ha hb hm).imp fun _ _ _=>d2_op
noncomputable def dChain (f g:D->D->Mem->DK->Prop) (ta tb tc:DE):DE:=fun δ M Q=>ta δ M fun x M1=>tb δ M1 fun y M2=>f x y M2 fun z M3=>∃ k,z=.bl k/\if k=true then tc δ M3 fun w M4=>g y w M4 Q else Q (.bl false) M3
theorem dChain_op {f g:D->D->Mem->DK->Prop} {Λ:LK} {σ:L2.St} {H:Hp} {Q:VK} (h:lift Λ (dChain f g ta tb tc) σ H Q):tChain (lift2 Λ.K f) (lift2 Λ.K g) (lift Λ ta) (lift Λ tb) (lift Λ tc) σ H Q:=by
 obtain⟨δ,M,R,rs,rm,t,q⟩:=h
 refine seq2 (R:=fun x y M2=>f x y M2 _) rs rm t fun x y M2 v u H2 x2 m2 r1 r2 t2=>⟨x,y,M2,_,r1,r2,m2,t2,fun d M3 w H3 x3 m3 r3 hq7=>?_⟩
 obtain⟨k,e,h⟩:=hq7
 subst e;cases r3
 refine⟨k,rfl,?_⟩
 cases k with
 | true=>exact⟨δ,M3,_,rs.ext (x2.trans x3),m3,h,fun z M4 w4 H4 x4 m4 r4 h4=>⟨y,z,M4,R,(r2.ext x3).ext x4,r4,m4,h4,fun d' M' v' H' x5 m5 r5=>q d' M' v' H' (((x2.trans x3).trans x4).trans x5) m5 r5⟩⟩
 | false=>exact q _ _ _ _ (x2.trans x3) m3 (.bl false) h
theorem de_chain {op op':CmpOp} (hu:X.A.units+66<cLine) (ha:PE X a (lift (X.L rz Xe) ta)) (hb:PE X b (lift (X.L rz Xe) tb)) (hc:PE X c (lift (X.L rz Xe) tc)) (hm:lastMarks [op,op'] [b,c]=false) :
  PE X (.Compare a [op,op'] [b,c] pos) (lift (X.L rz Xe) (dChain (cOp op) (cOp op') ta tb tc)):=(pe_chain (op_c hu op) (op_c hu op') ha hb hc hm).imp fun _ _ _=>dChain_op
theorem dt_chain {op op':CmpOp} (hu:X.A.units+66<cLine) (ha:PE X a (lift (X.L rz Xe) ta)) (hb:PE X b (lift (X.L rz Xe) tb)) (hc:PE X c (lift (X.L rz Xe) tc)) (hm:lastMarks [op,op'] [b,c]=false) :
  PT X (.Compare a [op,op'] [b,c] pos) (liftT (X.L rz Xe) (dTest (dChain (cOp op) (cOp op') ta tb tc))):=by
 refine (pt_chain (op_c hu op) (op_c hu op') ha hb hc hm).imp ?_
 rintro σ H Q ⟨δ,M,R,rs,rm,t,q⟩
 exact dChain_op ⟨δ,M,_,rs,rm,t,fun d M' v H' x m r ⟨k,e,h⟩=>by
  subst e;cases r;exact⟨k,rfl,q _ _ _ x m h⟩⟩
theorem PW.imp {t t':TT} (h:PW X a t) (i:∀ σ H Q,t' σ H Q->t σ H Q):PW X a t':=fun whole pins s σ H Q I q=>h whole pins s σ H Q I (i _ _ _ q)
theorem dw_and (ha:PT X a (liftT (X.L rz Xe) tA)) (hb:PW X (.BoolOp .And (b::rest) pos) (liftT (X.L rz Xe) tB)):PW X (.BoolOp .And (a::b::rest) pos) (liftT (X.L rz Xe) (dAnd tA tB)) :=
 PW.imp (pw_and ha hb) fun σ H Q ⟨δ,M,R,rs,rm,t,q⟩=>⟨δ,M,_,rs,rm,t,fun k M' H' x m h=>by
  cases k with
  | true=>exact⟨δ,M',R,rs.ext x,m,h,fun b M2 H2 x2 m2=>q b M2 H2 (x.trans x2) m2⟩
  | false=>exact q _ _ _ x m h⟩
theorem dw_or (ha:PT X a (liftT (X.L rz Xe) tA)) (hb:PW X (.BoolOp .Or (b::rest) pos) (liftT (X.L rz Xe) tB)):PW X (.BoolOp .Or (a::b::rest) pos) (liftT (X.L rz Xe) (dOr tA tB)) :=
 PW.imp (pw_or ha hb) fun σ H Q ⟨δ,M,R,rs,rm,t,q⟩=>⟨δ,M,_,rs,rm,t,fun k M' H' x m h=>by
  cases k with
  | false=>exact⟨δ,M',R,rs.ext x,m,h,fun b M2 H2 x2 m2=>q b M2 H2 (x.trans x2) m2⟩
  | true=>exact q _ _ _ x m h⟩
theorem dt_not (ha:PT X a (liftT (X.L rz Xe) tA)):PT X (.UnaryOp .Not a pos) (liftT (X.L rz Xe) (dNot tA)) :=
 (pt_not ha).imp (by rintro σ H Q ⟨δ,M,R,rs,rm,t,q⟩;exact⟨δ,M,_,rs,rm,t,fun k M' H' x m h=>q _ _ _ x m h⟩)
theorem de_and (ha:PE X a (lift (X.L rz Xe) ta)) (hb:PE X (.BoolOp .And (b::rest) pos) (lift (X.L rz Xe) tb)):PE X (.BoolOp .And (a::b::rest) pos) (lift (X.L rz Xe) (dAndV ta tb)) :=
 (pe_and ha hb).imp fun σ H Q ⟨δ,M,R,rs,rm,t,q⟩=>⟨δ,M,_,rs,rm,t,fun d M' v H' x m r ⟨k,e,h⟩=>by
  subst e;cases r;refine⟨k,rfl,?_⟩
  cases k with
  | true=>exact⟨δ,M',R,rs.ext x,m,h,fun d' M2 v' H2 x2 m2=>q d' M2 v' H2 (x.trans x2) m2⟩
  | false=>exact q _ _ _ _ x m (.bl false) h⟩
theorem de_or (ha:PE X a (lift (X.L rz Xe) ta)) (hb:PE X (.BoolOp .Or (b::rest) pos) (lift (X.L rz Xe) tb)):PE X (.BoolOp .Or (a::b::rest) pos) (lift (X.L rz Xe) (dOrV ta tb)) :=
 (pe_or ha hb).imp fun σ H Q ⟨δ,M,R,rs,rm,t,q⟩=>⟨δ,M,_,rs,rm,t,fun d M' v H' x m r ⟨k,e,h⟩=>by
  subst e;cases r;refine⟨k,rfl,?_⟩
  cases k with
  | false=>exact⟨δ,M',R,rs.ext x,m,h,fun d' M2 v' H2 x2 m2=>q d' M2 v' H2 (x.trans x2) m2⟩
  | true=>exact q _ _ _ _ x m (.bl true) h⟩
noncomputable def dNotB (ta:DE):DE:=fun δ M Q=>ta δ M fun x M1=>∃ k,x=.bl k/\Q (.bl (!k)) M1
theorem de_not (ha:PE X a (lift (X.L rz Xe) ta)):PE X (.UnaryOp .Not a pos) (lift (X.L rz Xe) (dNotB ta)) :=
 (pe_not ha).imp fun σ H Q ⟨δ,M,R,rs,rm,t,q⟩=>⟨δ,M,_,rs,rm,t,fun d M' v H' x m r ⟨k,e,h⟩=>by
  subst e;cases r;exact⟨k,rfl,q _ _ _ _ x m (.bl _) h⟩⟩
noncomputable def dNeg (ta:DE):DE:=fun δ M Q=>ta δ M fun x M1=>∃ i,x=.int i/\Q (.int (-i)) M1
theorem de_neg (ha:PE X a (lift (X.L rz Xe) ta)):PE X (.UnaryOp .USub a pos) (lift (X.L rz Xe) (dNeg ta)) :=
 (pe_un un_neg ha).imp fun σ H Q ⟨δ,M,R,rs,rm,t,q⟩=>⟨δ,M,_,rs,rm,t,fun d M' v H' x m r ⟨k,e,h⟩=>by
  subst e;cases r;exact⟨k,rfl,q _ _ _ _ x m (.int _) h⟩⟩
theorem de_ife (hc:PT X c (liftT (X.L rz Xe) tA)) (ha:PE X a (lift (X.L rz Xe) ta)) (hb:PE X b (lift (X.L rz Xe) tb)):PE X (.IfExp c a b pos) (lift (X.L rz Xe) (dIfE tA ta tb)) :=
 (pe_ifExp hc ha hb).imp fun σ H Q ⟨δ,M,R,rs,rm,t,q⟩=>⟨δ,M,_,rs,rm,t,fun k M' H' x m h=>by
  cases k with
  | true=>exact⟨δ,M',R,rs.ext x,m,h,fun d' M2 v' H2 x2 m2=>q d' M2 v' H2 (x.trans x2) m2⟩
  | false=>exact⟨δ,M',R,rs.ext x,m,h,fun d' M2 v' H2 x2 m2=>q d' M2 v' H2 (x.trans x2) m2⟩⟩
theorem da_nil:PA X [] (liftA (X.L rz Xe) dNil):=by
 refine (pa_nil).imp ?_
 rintro σ H Q ⟨δ,M,R,rs,rm,t,q⟩
 exact q [] M [] H (.refl H) rm .nil t
theorem da_cons (ha:PE X e (lift (X.L rz Xe) ta)) (hr:PA X es (liftA (X.L rz Xe) t)) (hs:starEach (e::es) X.env=(false,eval e X.env)::starEach es X.env):PA X (e::es) (liftA (X.L rz Xe) (dCons ta t)) :=
 (pa_cons ha hr hs).imp (by rintro σ H Q ⟨δ,M,R,rs,rm,t,q⟩;exact⟨δ,M,_,rs,rm,t,fun d M' v H' x m r h=>⟨δ,M',_,rs.ext x,m,h,fun ds M2 vs H2 x2 m2 r2 h2=>q _ _ _ _ (x.trans x2) m2 (.cons (r.ext x2) r2) h2⟩⟩)
theorem de_tup {x1} (h:PA X es (liftA (X.L rz Xe) t)):PE X (.Tuple es x1 pos) (lift (X.L rz Xe) (dTup t)) :=
 (pe_tup h).imp (by rintro σ H Q ⟨δ,M,R,rs,rm,t,q⟩;exact⟨δ,M,_,rs,rm,t,(by rintro ds M' vs H' x m r ⟨hz,h⟩;exact⟨by rw[r.length];exact hz,fun p hp=>q _ _ _ _ (x.trans (.upd (.inl hp))) (m.tup hp) (.tup (.of upd_same) (r.ext (.upd (.inl hp)))) h⟩)⟩)
theorem de_lst (h:PA X es (liftA (X.L rz Xe) t)):PE X (.List es pos) (lift (X.L rz Xe) (dLst t)) :=
 (pe_lst h).imp (by rintro σ H Q ⟨δ,M,R,rs,rm,t,q⟩;exact⟨δ,M,_,rs,rm,t,(by rintro ds M' vs H' x m r ⟨hz,h⟩;exact⟨by rw[r.length];exact hz,fun p hp=>q _ _ _ _ (x.trans (.upd (.inl hp))) (m.lst hp r) (.lst p) (h.at (m.none hp))⟩)⟩)
theorem de_ix (ha:PE X a (lift (X.L rz Xe) ta)) (hb:PE X b (lift (X.L rz Xe) tb)) (hs:PlainIx b):PE X (.Subscript a b pos) (lift (X.L rz Xe) (d2 iOp ta tb)):=(pe_ix ix_i ha hb hs).imp fun _ _ _=>d2_op
noncomputable abbrev DO:=DSt->Mem->(Option Int->Mem->Prop)->Prop
noncomputable def liftO (Λ:LK) (t:DO):TO:=fun σ H Q=>∃ δ M R,RepS Λ H δ σ/\RepM Λ.K H M/\t δ M R/\∀ o M' H',HExt Λ.K H H'->RepM Λ.K H' M'->R o M'->Q o H'
noncomputable def dNoPart:DO:=fun _ M Q=>Q none M
noncomputable def dPart (t:DE):DO:=fun δ M Q=>t δ M fun x M1=>∃ i,x=.int i/\Q (some i) M1
theorem PO.imp {e:Option Expr} {t t':TO} (h:PO X e t) (i:∀ σ H Q,t' σ H Q->t σ H Q):PO X e t':=fun pins s σ H Q I q=>h pins s σ H Q I (i _ _ _ q)
theorem do_none:PO X none (liftO (X.L rz Xe) dNoPart):=PO.imp po_none (by rintro σ H Q ⟨δ,M,R,rs,rm,t,q⟩;exact q _ _ _ (.refl H) rm t)
theorem do_some (h:PE X e (lift (X.L rz Xe) ta)):PO X (some e) (liftO (X.L rz Xe) (dPart ta)):=PO.imp (po_some h) fun σ H Q ⟨δ,M,R,rs,rm,t,q⟩=>⟨δ,M,_,rs,rm,t,fun d M' v H' x m r ⟨i,e,h⟩=>by
  subst e;cases r;exact⟨i,rfl,q _ _ _ x m h⟩⟩
noncomputable def dSl (te:DE) (tl th:DO):DE:=fun δ M Q=>te δ M fun x M1=>tl δ M1 fun l M2=>th δ M2 fun u M3=>sOp x l u M3 Q
theorem de_sl {lo hi:Option Expr} {tl th:DO} {p2:Pos} (he:PE X e (lift (X.L rz Xe) ta)) (hl:PO X lo (liftO (X.L rz Xe) tl)) (hu:PO X hi (liftO (X.L rz Xe) th)):PE X (.Subscript e (.Slice lo hi none p2) pos) (lift (X.L rz Xe) (dSl ta tl th)) :=
 (pe_slice sl_s he hl hu).imp fun σ H Q ⟨δ,M,R,rs,rm,t,q⟩=>⟨δ,M,_,rs,rm,t,fun d M1 v H1 x1 m1 r1 h1=>⟨δ,M1,_,rs.ext x1,m1,h1,fun l M2 H2 x2 m2 h2=>⟨δ,M2,_,rs.ext (x1.trans x2),m2,h2,fun u M3 H3 x3 m3 h3 =>
  ⟨d,M3,R,(r1.ext x2).ext x3,m3,h3,fun d' M' v' H' x4 m4 r4=>q d' M' v' H' (((x1.trans x2).trans x3).trans x4) m4 r4⟩⟩⟩⟩
theorem dCB_op {f:List D->Mem->DK->Prop} {Λ:LK} {σ:L2.St} {H:Hp} {Q:VK} (h:lift Λ (dCB f t) σ H Q):tCB (liftC Λ.K f) (liftA Λ t) σ H Q:=by
 obtain⟨δ,M,R,rs,rm,t,q⟩:=h
 exact⟨δ,M,_,rs,rm,t,fun ds M' vs H' x m r h=>⟨ds,M',R,r,m,h,fun d' M2 v' H2 x2 m2 r2=>q d' M2 v' H2 (x.trans x2) m2 r2⟩⟩
end
end DL
end
noncomputable section
namespace DL
open PySem PySem.Spec PyProof.Rows L2
section
variable {K:PySem.W.Frag} {H:Hp} {M:Mem}
theorem RepM.dk {p:Addr} {kws:List (Key×V)} {kvs:List (Key×D)} (r:RepM K H M) (h:H p=.none) (hk:kws.map (·.1)=kvs.map (·.1)) (q:RelDs K H (kws.map (·.2)) (kvs.map (·.2))):RepM K (upd H p (.dK kws)) (M.upd p (.dk kvs)):=fun a o e=>by
 by_cases z:a=p
 ·subst z;rw[mupd_same] at e;cases e;exact⟨kws,upd_same,hk,q.ext (.upd (.inl h))⟩
 ·rw[mupd_ne z] at e;exact (r a o e).ext (.upd (.inl h)) z
end
noncomputable def keyD:D->Option Key
 | .int i=>some (.inl i)
 | .str x=>some (.inr x)
 | _=>none
noncomputable def dDic0:DE:=fun _ M Q=>alloc M (.dk []) fun p M'=>Q (.dct p) M'
noncomputable def dDic1 (tk tv:DE):DE:=fun δ M Q=>∀ p,M p=none->tk δ (M.upd p (.dk [])) fun x M1=>tv δ M1 fun y M2=>M2 p=some (.dk [])/\∃ k,keyD x=some k/\Q (.dct p) (M2.upd p (.dk [(k,y)]))
section
variable {X:Cx} {rz:Bool} {Xe:DSt->DK} {a b:Expr} {ta tb:DE} {pos:Pos}
theorem de_dic0:PE X (.Dict [] [] pos) (lift (X.L rz Xe) dDic0):=pe_dnewK.imp fun σ H Q ⟨δ,M,R,rs,rm,t,q⟩ p hp=>q _ _ _ _ (.upd (.inl hp)) (rm.dk hp rfl .nil) (.dct p) (t.at (rm.none hp))
end
end DL
end
noncomputable section
namespace DL
open PySem PySem.Spec PyProof.Rows L2
section
variable {X:Cx} {a b c d:Expr} {pos:Pos} {ta tb tc td:TE}
noncomputable def tChain3 (r r' r'':R2) (ta tb tc td:TE):TE:=fun σ H Q=>ta σ H fun x H1=>tb σ H1 fun y H2=>r x y H2 fun z H3=>∃ k,z=.bl k /\
 (if k=true then tc σ H3 fun w' H4=>r' y w' H4 fun z' H5=>∃ k',z'=.bl k'/\(if k'=true then td σ H5 fun v' H6=>r'' w' v' H6 Q else Q (.bl false) H5) else Q (.bl false) H3)
theorem pe_chain3 {op op' op'':CmpOp} {r r' r'':R2} (ho:OpR X (compareOp op) r) (ho':OpR X (compareOp op') r') (ho'':OpR X (compareOp op'') r'') (ha:PE X a ta) (hb:PE X b tb) (hc:PE X c tc) (hd:PE X d td)
  (hm:lastMarks [op,op',op''] [b,c,d]=false):PE X (.Compare a [op,op',op''] [b,c,d] pos) (tChain3 r r' r'' ta tb tc td):=by
 intro pins s σ H Q I h
 refine Compare_chain (thn (ha pins s σ H _ I h) fun v s1 ⟨x,H1,I1,r1,q1⟩=>chain_link (thn (hb pins s1 σ H1 _ I1 q1) fun u s2 ⟨y,H2,I2,r2,q2⟩ =>
  thn (ho pins s2 σ H2 x y v u _ I2 r1 r2 q2) fun d s3 hq2=>?_)) hm
 obtain⟨z,H3,I3,r3,k,e,q3⟩:=hq2
 subst e
 cases r3
 refine wpAny_truthy_bool ?_
 cases k with
 | false=>exact ite_ff ⟨.bl false,H3,I3,rfl,q3⟩
 | true =>
  refine ite_tt (chain_link (thn (hc pins s3 σ H3 _ I3 q3) fun w' s4 ⟨z',H4,I4,r4,q4⟩=>thn (ho' pins s4 σ H4 y z' u w' _ I4 r2 r4 q4) fun d' s5 hq5=>?_))
  obtain⟨z2,H5,I5,r5,k2,e2,q5⟩:=hq5
  subst e2
  cases r5
  refine wpAny_truthy_bool ?_
  cases k2 with
  | false=>exact ite_ff ⟨.bl false,H5,I5,rfl,q5⟩
  | true=>exact ite_tt (chain_last (thn (hd pins s5 σ H5 _ I5 q5) (by rintro w2 s6 ⟨z3,H6,I6,r6,q6⟩;exact ho'' pins s6 σ H6 z' z3 w' w2 Q I6 r4 r6 q6)))
theorem pt_chain3 {op op' op'':CmpOp} {r r' r'':R2} (ho:OpR X (compareOp op) r) (ho':OpR X (compareOp op') r') (ho'':OpR X (compareOp op'') r'') (ha:PE X a ta) (hb:PE X b tb) (hc:PE X c tc) (hd:PE X d td)
  (hm:lastMarks [op,op',op''] [b,c,d]=false):PT X (.Compare a [op,op',op''] [b,c,d] pos) (tTest (tChain3 r r' r'' ta tb tc td)):=by
 intro pins s σ H Q I h
 refine isTrue_chain (thn (ha pins s σ H _ I h) fun v s1 ⟨x,H1,I1,r1,q1⟩=>test_link (thn (hb pins s1 σ H1 _ I1 q1) fun u s2 ⟨y,H2,I2,r2,q2⟩ =>
  thn (ho pins s2 σ H2 x y v u _ I2 r1 r2 q2) fun d s3 hq2=>?_)) hm
 obtain⟨z,H3,I3,r3,k,e,q3⟩:=hq2
 subst e
 cases r3
 refine wpAny_truthy_bool ?_
 cases k with
 | false =>
  obtain⟨k',e',q'⟩:=q3
  cases e'
  exact ite_ff ⟨H3,I3,q'⟩
 | true =>
  refine ite_tt (test_link (thn (hc pins s3 σ H3 _ I3 q3) fun w' s4 ⟨z',H4,I4,r4,q4⟩=>thn (ho' pins s4 σ H4 y z' u w' _ I4 r2 r4 q4) fun d' s5 hq5=>?_))
  obtain⟨z2,H5,I5,r5,k2,e2,q5⟩:=hq5
  subst e2
  cases r5
  refine wpAny_truthy_bool ?_
  cases k2 with
  | false =>
   obtain⟨k',e',q'⟩:=q5
   cases e'
   exact ite_ff ⟨H5,I5,q'⟩
  | true =>
   refine ite_tt (test_last (thn (hd pins s5 σ H5 _ I5 q5) fun w2 s6 ⟨z3,H6,I6,r6,q6⟩=>thn (ho'' pins s6 σ H6 z' z3 w' w2 _ I6 r4 r6 q6) fun d' s7 hq7=>?_))
   obtain⟨z4,H7,I7,r7,k4,e4,q7⟩:=hq7
   subst e4
   cases r7
   exact wpAny_truthy_bool ⟨H7,I7,q7⟩
end
section
variable {X:Cx} {rz:Bool} {Xe:DSt->DK} {a b c d:Expr} {pos:Pos} {ta tb tc td:DE}
noncomputable def dChain3 (f g h:D->D->Mem->DK->Prop) (ta tb tc td:DE):DE:=fun δ M Q=>ta δ M fun x M1=>tb δ M1 fun y M2=>f x y M2 fun z M3=>∃ k,z=.bl k/\if k=true then (tc δ M3 fun w M4=>g y w M4 fun z' M5=>∃ k',z'=.bl k'/\if k'=true then (td δ M5 fun v M6=>h w v M6 Q) else Q (.bl false) M5) else Q (.bl false) M3
theorem dChain3_op {f g h:D->D->Mem->DK->Prop} {Λ:LK} {σ:L2.St} {H:Hp} {Q:VK} (hh:lift Λ (dChain3 f g h ta tb tc td) σ H Q):tChain3 (lift2 Λ.K f) (lift2 Λ.K g) (lift2 Λ.K h) (lift Λ ta) (lift Λ tb) (lift Λ tc) (lift Λ td) σ H Q:=by
 obtain⟨δ,M,R,rs,rm,t,q⟩:=hh
 refine seq2 (R:=fun x y M2=>f x y M2 _) rs rm t fun x y M2 v u H2 x2 m2 r1 r2 t2=>⟨x,y,M2,_,r1,r2,m2,t2,fun d M3 w H3 x3 m3 r3 hq7=>?_⟩
 obtain⟨k,e,h'⟩:=hq7
 subst e;cases r3
 refine⟨k,rfl,?_⟩
 cases k with
 | true =>
  refine⟨δ,M3,_,rs.ext (x2.trans x3),m3,h',fun z M4 w4 H4 x4 m4 r4 h4=>⟨y,z,M4,_,(r2.ext x3).ext x4,r4,m4,h4,fun d' M' v' H' x5 m5 r5 hq8=>?_⟩⟩
  obtain⟨k',e',h''⟩:=hq8
  subst e';cases r5
  refine⟨k',rfl,?_⟩
  cases k' with
  | true =>
   exact⟨δ,M',_,rs.ext (((x2.trans x3).trans x4).trans x5),m5,h'',fun z3 M6 w6 H6 x6 m6 r6 h6=>⟨z,z3,M6,R,(r4.ext x5).ext x6,r6,m6,h6,fun d2 M2' v2 H2' x7 m7 r7=>q d2 M2' v2 H2' (((((x2.trans x3).trans x4).trans x5).trans x6).trans x7) m7 r7⟩⟩
  | false=>exact q _ _ _ _ (((x2.trans x3).trans x4).trans x5) m5 (.bl false) h''
 | false=>exact q _ _ _ _ (x2.trans x3) m3 (.bl false) h'
theorem de_chain3 {op op' op'':CmpOp} (hu:X.A.units+66<cLine) (ha:PE X a (lift (X.L rz Xe) ta)) (hb:PE X b (lift (X.L rz Xe) tb)) (hc:PE X c (lift (X.L rz Xe) tc)) (hd:PE X d (lift (X.L rz Xe) td)) (hm:lastMarks [op,op',op''] [b,c,d]=false) :
  PE X (.Compare a [op,op',op''] [b,c,d] pos) (lift (X.L rz Xe) (dChain3 (cOp op) (cOp op') (cOp op'') ta tb tc td)):=(pe_chain3 (op_c hu op) (op_c hu op') (op_c hu op'') ha hb hc hd hm).imp fun _ _ _=>dChain3_op
theorem dt_chain3 {op op' op'':CmpOp} (hu:X.A.units+66<cLine) (ha:PE X a (lift (X.L rz Xe) ta)) (hb:PE X b (lift (X.L rz Xe) tb)) (hc:PE X c (lift (X.L rz Xe) tc)) (hd:PE X d (lift (X.L rz Xe) td)) (hm:lastMarks [op,op',op''] [b,c,d]=false) :
  PT X (.Compare a [op,op',op''] [b,c,d] pos) (liftT (X.L rz Xe) (dTest (dChain3 (cOp op) (cOp op') (cOp op'') ta tb tc td))):=by
 refine (pt_chain3 (op_c hu op) (op_c hu op') (op_c hu op'') ha hb hc hd hm).imp ?_
 rintro σ H Q ⟨δ,M,R,rs,rm,t,q⟩
 exact dChain3_op ⟨δ,M,_,rs,rm,t,fun d M' v H' x m r ⟨k,e,h⟩=>by
  subst e;cases r;exact⟨k,rfl,q _ _ _ x m h⟩⟩
end
end DL
end
noncomputable section
namespace HT
open PySem PySem.Spec PyProof.Rows
section
variable {prog:Program} {w:World} {A:Around} {E:Value->Shared->Prop} {s:Shared}
end
end HT
namespace DL
open PySem PySem.Spec PyProof.Rows L2
section
variable {X:Cx} {rz:Bool} {Xe:DSt->DK} {e st:Expr} {ta ts:DE} {pos p2:Pos}
noncomputable def revOp (d:D) (l:Option Int) (M:Mem) (Q:DK):Prop:=l=some (-1)/\match d with | .tup xs=>Q (.tup xs.reverse) M | .lst a=>∃ xs,M a=some (.ls xs)/\alloc M (.ls xs.reverse) fun p M'=>Q (.lst p) M' | _=>False
noncomputable def dRev (te:DE) (tl:DO):DE:=fun δ M Q=>te δ M fun x M1=>tl δ M1 fun l M2=>revOp x l M2 Q
end
end DL
end
noncomputable section
namespace PySem
open PyProof.Rows
namespace F
end F
section
variable {prog:Program} {w:World} {A:Around} {E:Value->Shared->Prop} {s:Shared}
end
section
variable {prog:Program} {w:World} {A:Around} {s:Shared} {R:Result->Shared->Prop}
variable {I l:Addr} {items:Array Value}
end
section
variable {prog:Program} {w:World} {A:Around} {E:Value->Shared->Prop} {s:Shared}
variable {I l:Addr} {items:Array Value}
end
end PySem
namespace DL
open PySem PySem.Spec PyProof.Rows L2
section
variable {X:Cx} {e:Expr} {t:TA} {p p2 pos pos2:Pos}
end
end DL
namespace DL
open PySem PySem.Spec PyProof.Rows L2
section
variable {X:Cx} {rz:Bool} {Xe:DSt->DK} {e:Expr} {t:DA} {p p2 pos pos2:Pos}
end
end DL
end
noncomputable section
namespace DL
open PySem PySem.Spec PyProof.Rows L2
noncomputable def dNext:DS:=fun D δ M=>D.nx δ M
noncomputable def dSeq (t u:DS):DS:=fun D δ M=>t {D with nx:=u D} δ M
noncomputable def dBreak:DS:=fun D δ M=>D.bk δ M
noncomputable def dCont:DS:=fun D δ M=>D.ct δ M
noncomputable def dDrop (te:(DSt->DK)->DE):DS:=fun D δ M=>te D.ex δ M fun _ M1=>D.nx δ M1
noncomputable def dRet (te:(DSt->DK)->DE):DS:=fun D δ M=>te D.ex δ M D.rt
noncomputable def dRetN:DS:=fun D _ M=>D.rt .non M
noncomputable def dIfS (c:(DSt->DK)->DT) (t u:DS):DS:=fun D δ M=>c D.ex δ M fun b M1=>if b=true then t D δ M1 else u D δ M1
noncomputable def dNever:DS:=fun _ _ _=>False
noncomputable abbrev DG:=D->DSt->Mem->(DSt->Mem->Prop)->Prop
noncomputable abbrev DGs:=List D->DSt->Mem->(DSt->Mem->Prop)->Prop
noncomputable def liftG (Λ:LK) (g:DG):TG:=fun v σ H Q=>∃ d δ M R,RelD Λ.K H v d/\RepS Λ H δ σ/\RepM Λ.K H M/\g d δ M R/\∀ δ' M' σ' H',HExt Λ.K H H'->RepS Λ H' δ' σ'->RepM Λ.K H' M'->R δ' M'->Q σ' H'
noncomputable def liftGs (Λ:LK) (g:DGs):TGs:=fun vs σ H Q=>∃ ds δ M R,RelDs Λ.K H vs ds/\RepS Λ H δ σ/\RepM Λ.K H M/\g ds δ M R/\∀ δ' M' σ' H',HExt Λ.K H H'->RepS Λ H' δ' σ'->RepM Λ.K H' M'->R δ' M'->Q σ' H'
noncomputable def gdName (i:Nat):DG:=fun d δ M Q=>Q (δ.set i (some d)) M
noncomputable def gdNil:DGs:=fun ds δ M Q=>ds=[]/\Q δ M
noncomputable def gdCons (t:DG) (u:DGs):DGs:=fun ds δ M Q=>∃ d r,ds=d::r/\t d δ M fun δ' M'=>u r δ' M' Q
noncomputable def gdTup (n:Nat) (t:DGs):DG:=fun d δ M Q=>∃ ds,d=.tup ds/\ds.length=n/\t ds δ M Q
noncomputable def gdSub (to ti:DE):DG:=fun v δ M Q=>to δ M fun o M1=>ti δ M1 fun i M2=>∃ a k xs j,o=.lst a/\i=.int k/\M2 a=some (.ls xs)/\ixN xs.length k=some j/\Q δ (M2.upd a (.ls (xs.set j v)))
noncomputable def dAsg (te:(DSt->DK)->DE) (g:(DSt->DK)->DG):DS:=fun D δ M=>te D.ex δ M fun x M1=>g D.ex x δ M1 D.nx
noncomputable def dPar (i j:Nat) (ta:(DSt->DK)->DA):DS:=fun D δ M=>ta D.ex δ M fun ds M1=>∃ v w,ds=[v,w]/\D.nx ((δ.set i (some v)).set j (some w)) M1
noncomputable def dTwo (te:(DSt->DK)->DE) (g h:(DSt->DK)->DG):DS:=fun D δ M=>te D.ex δ M fun x M1=>g D.ex x δ M1 fun δ2 M2=>h D.ex x δ2 M2 D.nx
noncomputable def dAug (i:Nat) (te:(DSt->DK)->DE) (f:Int->Int->Int):DS:=fun D δ M=>∃ x,δ[i]?=some (some (.int x))/\te D.ex δ M fun y M1=>∃ j,y=.int j/\D.nx (δ.set i (some (.int (f x j)))) M1
noncomputable def dWhile (c:(DSt->DK)->DT) (tb:DS):DS:=fun D δ M=>∃ W:Nat->DSt->Mem->Prop,(∃ m,W m δ M)/\∀ m δ M,W m δ M ->
 c D.ex δ M fun b M1=>if b=true then ∃ N:DSt->Mem->Prop,(∀ δ' M',N δ' M'->∃ m',m'<m/\W m' δ' M')/\tb {D with nx:=N,ct:=N,bk:=D.nx} δ M1 else D.nx δ M1
section
variable {X:Cx} {rz:Bool} {Xe:DSt->DK} {st:Stmt} {rest:List Stmt} {t u:DS} {e tg:Expr} {es:List Expr} {te:DE} {g:DG} {gs:DGs} {pos:Pos}
theorem dss_nil:PSs X [] (liftS X rz dNext):=by
 refine pss_nil.imp ?_
 rintro E σ H ⟨δ,M,D,rs,rm,t,n,r,b,c⟩
 exact n δ M σ H (.refl H) rs rm t
theorem dSeq_op {E:Ends} {σ:L2.St} {H:Hp} (h:liftS X rz (dSeq t u) E σ H):tSeq (liftS X rz t) (liftS X rz u) E σ H:=by
 obtain⟨δ,M,D,rs,rm,t,n,r,b,c⟩:=h
 exact⟨δ,M,{D with nx:=u D},rs,rm,t,fun δ' M' σ' H' x rs' rm' h=>⟨δ',M',D,rs',rm',h,fun a b c d x2=>n a b c d (x.trans x2),fun a b c d x2=>r a b c d (x.trans x2),fun p q s t x2=>b p q s t (x.trans x2),fun p q s t x2=>c p q s t (x.trans x2)⟩,r,b,c⟩
theorem dss_cons (h1:PS X st (liftS X rz t)) (h2:PSs X rest (liftS X rz u)):PSs X (st::rest) (liftS X rz (dSeq t u)):=(pss_cons h1 h2).imp fun _ _ _=>dSeq_op
theorem ds_expr {te:(DSt->DK)->DE} (he:∀ Xe,PE X e (lift (X.L rz Xe) (te Xe))) (hs:swapsWith e none pos.line X.env=pure false):PS X (.Expr e pos) (liftS X rz (dDrop te)):=by
 rintro pins s σ H E I ⟨δ,M,D,rs,rm,t,n,r,b,c⟩
 exact (ps_expr (he D.ex) hs) pins s σ H E I <| ⟨δ,M,_,rs,rm,t,fun d M' v H' x m _ h=>n δ M' σ H' x (rs.ext x) m h⟩
theorem ds_ret {te:(DSt->DK)->DE} (he:∀ Xe,PE X e (lift (X.L rz Xe) (te Xe))):PS X (.Return (some e) pos) (liftS X rz (dRet te)):=by
 rintro pins s σ H E I ⟨δ,M,D,rs,rm,t,n,r,b,c⟩
 exact (ps_ret (he D.ex)) pins s σ H E I <| ⟨δ,M,_,rs,rm,t,fun d M' v H' x m q h=>r d M' v H' x m q h⟩
theorem ds_if {c:Expr} {a b:List Stmt} {tc:(DSt->DK)->DT} (hc:∀ Xe,PT X c (liftT (X.L rz Xe) (tc Xe))) (ha:PSs X a (liftS X rz t)) (hb:PSs X b (liftS X rz u)):PS X (.If c a b pos) (liftS X rz (dIfS tc t u)):=by
 rintro pins s σ H E I ⟨δ,M,D,rs,rm,t,n,r,b,c⟩
 exact (ps_if (hc D.ex) ha hb) pins s σ H E I <| ⟨δ,M,_,rs,rm,t,fun k M' H' x m h=>by
  cases k with
  | true=>exact⟨δ,M',D,rs.ext x,m,h,fun a b c d x2=>n a b c d (x.trans x2),fun a b c d x2=>r a b c d (x.trans x2),fun p q s t x2=>b p q s t (x.trans x2),fun p q s t x2=>c p q s t (x.trans x2)⟩
  | false=>exact⟨δ,M',D,rs.ext x,m,h,fun a b c d x2=>n a b c d (x.trans x2),fun a b c d x2=>r a b c d (x.trans x2),fun p q s t x2=>b p q s t (x.trans x2),fun p q s t x2=>c p q s t (x.trans x2)⟩⟩
theorem _root_.L2.PG.imp {t t':TG} (h:PG X tg t) (i:∀ v σ H Q,t' v σ H Q->t v σ H Q):PG X tg t':=fun pins s σ H v u Q I r q=>h pins s σ H v u Q I r (i _ _ _ _ q)
theorem _root_.L2.PGs.imp {t t':TGs} (h:PGs X es t) (i:∀ v σ H Q,t' v σ H Q->t v σ H Q):PGs X es t':=fun pins s σ H v u Q I r q=>h pins s σ H v u Q I r (i _ _ _ _ q)
theorem dg_name {i:Nat} {x:Str} (hN:X.N.Nodup) (hi:X.N[i]?=some x) (hx:Loc X.env.scope x) (hf:X.fn x=true\/X.env.scope.names.lookup x=some .local):PG X (.Name x pos) (liftG (X.L rz Xe) (gdName i)) :=
 (pg_name hN hi hx hf).imp (by rintro v σ H Q ⟨d,δ,M,R,r,rs,rm,h,q⟩;exact q _ _ _ _ (.refl H) (rs.set r i) rm h)
theorem dgs_nil:PGs X [] (liftGs (X.L rz Xe) gdNil):=by
 refine pgs_nil.imp ?_
 rintro v σ H Q ⟨d,δ,M,R,r,rs,rm,h,q⟩
 obtain⟨e,h⟩:=h;subst e;cases r;exact⟨rfl,q _ _ _ _ (.refl H) rs rm h⟩
theorem dgs_cons (h1:PG X tg (liftG (X.L rz Xe) g)) (h2:PGs X es (liftGs (X.L rz Xe) gs)) (hs:(assignEach (tg::es) X.env).map (·.2)=assign tg X.env::(assignEach es X.env).map (·.2)):PGs X (tg::es) (liftGs (X.L rz Xe) (gdCons g gs)) :=
 (pgs_cons h1 h2 hs).imp fun v σ H Q ⟨d,δ,M,R,r,rs,rm,h,q⟩=>by
  obtain⟨d,ds,e,h⟩:=h
  subst e
  cases r with
  | cons ra rr=>exact⟨_,_,rfl,d,δ,M,_,ra,rs,rm,h,fun δ' M' σ' H' x rs' rm' h'=>⟨ds,δ',M',R,rr.ext x,rs',rm',h',fun a b c d x2=>q a b c d (x.trans x2)⟩⟩
theorem dg_tup {k n:Nat} (hc:X.calm=true) (h:PGs X es (liftGs (X.L rz Xe) gs)) (hn:(assignEach es X.env).length=n) (hst:(assignEach es X.env).findIdx? (·.1)=none):PG X (.Tuple es k pos) (liftG (X.L rz Xe) (gdTup n gs)) :=
 (pg_tup hc h hn hst).imp fun v σ H Q ⟨d,δ,M,R,r,rs,rm,h,q⟩=>by
  obtain⟨ds,e,hl,h⟩:=h
  subst e
  cases r with
  | tup ht rr=>exact⟨_,_,rfl,ht,by rw[rr.length];exact hl,ds,δ,M,R,rr,rs,rm,h,q⟩
theorem dg_sub {o i:Expr} {to ti:DE} (ho:PE X o (lift (X.L rz Xe) to)) (hi:PE X i (lift (X.L rz Xe) ti))
  (ha:∀ v,assign (.Subscript o i pos) X.env v=(do
   let ov <- holding [v] (eval o X.env)
   let iv <- holding [v,ov] (eval i X.env)
   standAt pos
   holding [v,ov,iv] (setItem ov iv v)
   release [v,ov,iv] [])):PG X (.Subscript o i pos) (liftG (X.L rz Xe) (gdSub to ti)) :=
 (pg_sub ho hi set_list ha).imp fun v σ H Q ⟨d,δ,M,R,r,rs,rm,h,q⟩=>seq2 rs rm h fun x y M2 w u H2 x2 m2 r1 r2 ⟨a,k,xs,j,e1,e2,e3,e4,h2⟩=>by
  subst e1;subst e2;cases r1;cases r2
  obtain⟨vs,ev,rv⟩:=m2 _ _ e3
  exact⟨a,vs,k,j,rfl,rfl,ev,by rw[rv.length];exact e4,q _ _ _ _ (x2.trans (.upd (.inr ⟨_,ev,trivial⟩))) (rs.ext (x2.trans (.upd (.inr ⟨_,ev,trivial⟩)))) (m2.write ev (rv.set (r.ext x2) j)) h2⟩
theorem ds_asg {te:(DSt->DK)->DE} {g:(DSt->DK)->DG} (he:∀ Xe,PE X e (lift (X.L rz Xe) (te Xe))) (hg:∀ Xe,PG X tg (liftG (X.L rz Xe) (g Xe))) (hs:swapsWithSole [tg] e pos.line X.env=pure false) (hw:swappedStores [tg] e X.env=pure none)
  (h1:(assignEach [tg] X.env).map (·.2)=[assign tg X.env]):PS X (.Assign [tg] e pos) (liftS X rz (dAsg te g)) :=
 (by rintro pins s σ H E I ⟨δ,M,D,rs,rm,t,n,r,b,c⟩;exact (ps_asg (he D.ex) (hg D.ex) hs hw h1) pins s σ H E I <| ⟨δ,M,_,rs,rm,t,fun d M' v H' x m q h=>⟨d,δ,M',_,q,rs.ext x,m,h,fun a b c d x2=>n a b c d (x.trans x2)⟩⟩)
theorem ds_set {te:(DSt->DK)->DE} {i:Nat} {x:Str} {pos':Pos} (hN:X.N.Nodup) (hi:X.N[i]?=some x) (hx:Loc X.env.scope x) (he:∀ Xe,PE X e (lift (X.L rz Xe) (te Xe))) (hs:swapsWith e (some (.Name x pos')) pos.line X.env=pure false) (hf:X.fn x=true\/X.env.scope.names.lookup x=some .local) :
  PS X (.Assign [.Name x pos'] e pos) (liftS X rz (dAsg te fun _=>gdName i)):=by
 rintro pins s σ H E I ⟨δ,M,D,rs,rm,t,n,r,b,c⟩
 exact (ps_set hN hi hx (he D.ex) hs hf) pins s σ H E I <| ⟨δ,M,_,rs,rm,t,fun d M' v H' x m q h=>n _ _ _ _ x ((rs.ext x).set q i) m h⟩
theorem ds_par {i j:Nat} {x y:Str} {a b:Expr} {ta:(DSt->DK)->DA} {px py pt:Pos} {kt k2 pt2} (hc:X.calm=true) (hN:X.N.Nodup) (hi:X.N[i]?=some x) (hj:X.N[j]?=some y) (hij:i≠j)
  (hx:X.env.scope.names.lookup x=some .local) (hy:X.env.scope.names.lookup y=some .local) (ha:∀ Xe,PA X [a,b] (liftA (X.L rz Xe) (ta Xe)))
  (hw:swappedStores [.Tuple [.Name x px,.Name y py] kt pt] (.Tuple [a,b] k2 pt2) X.env=pure (some [x,y]))
  (hs:swapsWithSole [.Tuple [.Name x px,.Name y py] kt pt] (.Tuple [a,b] k2 pt2) pos.line X.env=pure false) :
  PS X (.Assign [.Tuple [.Name x px,.Name y py] kt pt] (.Tuple [a,b] k2 pt2) pos) (liftS X rz (dPar i j ta)):=by
 rintro pins s σ H E I ⟨δ,M,D,rs,rm,t,n,r,b,c⟩
 exact (ps_par hc hN hi hj hij hx hy (ha D.ex) hw hs) pins s σ H E I <| ⟨δ,M,_,rs,rm,t,fun ds M' vs H' x m q ⟨v,w,e,h⟩=>by
  subst e
  obtain⟨v',w',rfl,r1,r2⟩:=q.two
  exact⟨v',w',rfl,n _ _ _ _ x (((rs.ext x).set r1 i).set r2 j) m h⟩⟩
theorem ds_while {c:Expr} {body:List Stmt} {tc:(DSt->DK)->DT} {tb:DS} (hp:PassesOwn (model X.prog X.w) X.A X.env X.xe) (hc:∀ Xe,PT X c (liftT (X.L rz Xe) (tc Xe))) (hb:PSs X body (liftS X rz tb)):PS X (.While c body [] pos) (liftS X rz (dWhile tc tb)) :=
 fun pins s σ H E I ⟨δ,M,D,rs,rm,⟨W,⟨m0,w0⟩,turn⟩,n,r,b,c⟩=>(ps_while hp (hc D.ex) hb) pins s σ H E I <| by
  refine⟨fun m σ' H'=>∃ δ' M',HExt X.K H H'/\RepS (X.L rz D.ex) H' δ' σ'/\RepM X.K H' M'/\W m δ' M',⟨m0,δ,M,.refl H,rs,rm,w0⟩,?_⟩
  rintro m σ1 H1 ⟨δ1,M1,x1,rs1,rm1,w1⟩
  refine⟨δ1,M1,_,rs1,rm1,turn m δ1 M1 w1,fun k M2 H2 x2 m2 h=>?_⟩
  cases k with
  | true =>
   obtain⟨N,hN,h⟩:=h
   refine⟨fun σ' H'=>∃ δ' M',HExt X.K H H'/\RepS (X.L rz D.ex) H' δ' σ'/\RepM X.K H' M'/\N δ' M',fun σ' H' ⟨δ',M',y1,y2,y3,y4⟩=>?_,?_⟩
   ·obtain⟨m',l,w'⟩:=hN δ' M' y4
    exact⟨m',l,δ',M',y1,y2,y3,w'⟩
   ·exact⟨δ1,M2,{D with nx:=N,ct:=N,bk:=D.nx},rs1.ext x2,m2,h,fun δ' M' σ' H' y1 y2 y3 y4=>⟨δ',M',(x1.trans x2).trans y1,y2,y3,y4⟩,fun a b c d y1=>r a b c d ((x1.trans x2).trans y1),fun δ' M' σ' H' y1 y2 y3 y4=>n _ _ _ _ ((x1.trans x2).trans y1) y2 y3 y4,fun δ' M' σ' H' y1 y2 y3 y4=>⟨δ',M',(x1.trans x2).trans y1,y2,y3,y4⟩⟩
  | false=>exact n _ _ _ _ (x1.trans x2) (rs1.ext x2) m2 h
end
noncomputable abbrev DI:=DSt->Mem->(List D->(Mem->Prop)->Mem->Prop)->Prop
noncomputable def ItD (K:PySem.W.Frag) (H0:Hp) (J:It) (items:List D) (keep:Mem->Prop):Prop:=∀ i H M,HExt K H0 H->RepM K H M->keep M ->
 (i<items.length->J.go i H)/\(items.length<=i->J.stop i H)/\∀ x H',J.yld i H x H'->HExt K H H'/\RepM K H' M/\∀ d,items[i]?=some d->RelD K H' x d
noncomputable def liftI (Λ:LK) (t:DI):TI:=fun σ H R=>∃ δ M Rd,RepS Λ H δ σ/\RepM Λ.K H M/\t δ M Rd/\∀ items keep M' J H',HExt Λ.K H H'->RepM Λ.K H' M'->keep M'->ItD Λ.K H' J items keep->Rd items keep M'->R J H'
noncomputable def forD (g:(DSt->DK)->DG) (tb:DS) (keep:Mem->Prop):List D->DS
 | []=>fun D δ M=>D.nx δ M
 | x::xs=>fun D δ M=>g D.ex x δ M fun δ1 M1=>tb {D with nx:=fun δ2 M2=>keep M2/\forD g tb keep xs D δ2 M2,ct:=fun δ2 M2=>keep M2/\forD g tb keep xs D δ2 M2,bk:=D.nx} δ1 M1
noncomputable def dFor (ti:(DSt->DK)->DI) (g:(DSt->DK)->DG) (tb:DS):DS:=fun D δ M=>ti D.ex δ M fun items keep M1=>forD g tb keep items D δ M1
section
variable {X:Cx} {rz:Bool} {Xe:DSt->DK} {tg:Expr} {pos:Pos}
theorem ds_for {iter:Expr} {body:List Stmt} {ti:(DSt->DK)->DI} {g:(DSt->DK)->DG} {tb:DS} (hp:PassesOwn (model X.prog X.w) X.A X.env X.xe) (hc:X.calm=true) (hi:∀ Xe,PI X tg iter (liftI (X.L rz Xe) (ti Xe))) (hg:∀ Xe,PG X tg (liftG (X.L rz Xe) (g Xe))) (hb:PSs X body (liftS X rz tb))
  (hs:∀ x,foldedSetIterable iter X.env x=pure x):PS X (.For tg iter body [] pos) (liftS X rz (dFor ti g tb)) :=
 fun pins s σ H E I ⟨δ,M,D,rs,rm,t,n,r,b,c⟩=>(ps_for hp hc (hi D.ex) (hg D.ex) hb hs) pins s σ H E I <| by
  refine⟨δ,M,_,rs,rm,t,fun items keep M1 J H1 x1 m1 k1 it h1=>?_⟩
  refine⟨fun i m σ' H'=>m=items.length-i/\i<=items.length/\∃ δ' M',HExt X.K H1 H'/\RepS (X.L rz D.ex) H' δ' σ'/\RepM X.K H' M'/\keep M'/\forD g tb keep (items.drop i) D δ' M',⟨_,rfl,Nat.zero_le _,δ,M1,.refl H1,rs.ext x1,m1,k1,h1⟩,?_⟩
  rintro i m σ2 H2 ⟨rfl,hi,δ2,M2,x2,rs2,m2,k2,h2⟩
  obtain⟨i1,i2,i3⟩:=it i H2 M2 x2 m2 k2
  by_cases hl:i<items.length
  ·refine .inr ⟨i1 hl,fun σ' H'=>∃ δ' M',HExt X.K H1 H'/\RepS (X.L rz D.ex) H' δ' σ'/\RepM X.K H' M'/\keep M'/\forD g tb keep (items.drop (i+1)) D δ' M',fun σ' H' z=>⟨items.length-(i+1),by omega,rfl,hl,z⟩,fun x H3 y=>?_⟩
   obtain⟨x3,m3,r3⟩:=i3 x H3 y
   rw[List.drop_eq_getElem_cons hl] at h2
   refine⟨items[i],δ2,M2,_,r3 _ (by simp[hl]),rs2.ext x3,m3,h2,fun δ4 M4 σ4 H4 x4 rs4 m4 h4=>?_⟩
   have xx:=(x2.trans x3).trans x4
   exact⟨δ4,M4,{D with nx:=fun δ2 M2=>keep M2/\forD g tb keep (items.drop (i+1)) D δ2 M2,ct:=fun δ2 M2=>keep M2/\forD g tb keep (items.drop (i+1)) D δ2 M2,bk:=D.nx},rs4,m4,h4,fun δ' M' σ' H' y1 y2 y3 y4=>⟨δ',M',xx.trans y1,y2,y3,y4.1,y4.2⟩,fun a b c d y1=>r a b c d ((x1.trans xx).trans y1),fun δ' M' σ' H' y1 y2 y3 y4=>n _ _ _ _ ((x1.trans xx).trans y1) y2 y3 y4,fun δ' M' σ' H' y1 y2 y3 y4=>⟨δ',M',xx.trans y1,y2,y3,y4.1,y4.2⟩⟩
  ·have e:i=items.length:=by omega
   subst e
   rw[List.drop_length] at h2
   exact .inl ⟨i2 (Nat.le_refl _),n _ _ _ _ (x1.trans x2) rs2 m2 h2⟩
noncomputable def itSeq (d:D) (M:Mem) (R:List D->(Mem->Prop)->Mem->Prop):Prop :=
 match d with
 | .lst a=>∃ xs,M a=some (.ls xs)/\R xs (fun M'=>M' a=some (.ls xs)) M
 | .fz xs=>R xs (fun _=>True) M
 | .tup xs=>R xs (fun _=>True) M
 | _=>False
noncomputable def diSeq (te:DE):DI:=fun δ M R=>te δ M fun d M1=>itSeq d M1 R
theorem itd_list {K:PySem.W.Frag} {H0:Hp} {a:Addr} {xs:List D}:ItD K H0 (Itl K a) xs (fun M'=>M' a=some (.ls xs)):=fun i H M x m k=>by
 obtain⟨vs,e,r⟩:=m _ _ k
 refine⟨fun hl=>⟨vs,vs[i]'(by rw[r.length];exact hl),.of e,by simp[r.length,hl]⟩,fun hl=>⟨vs,.of e,by rw[r.length];exact hl⟩,fun y H' hq2=>?_⟩
 obtain⟨e1,e2⟩:=hq2
 subst e1
 refine⟨.refl _,m,fun d hd=>?_⟩
 obtain⟨v,h1,h2⟩:=r.get hd
 rw[e2 vs (.of e)] at h1;cases h1;exact h2
theorem itd_fz {K:PySem.W.Frag} {H0:Hp} {a:Addr} {vs:List V} {xs:List D} (ht:SqF K H0 a vs) (r:RelDs K H0 vs xs):ItD K H0 (Itl K a) xs (fun _=>True):=fun i H M x m k=>by
 have ht':=x.fz _ _ ht
 have r':=r.ext x
 refine⟨fun hl=>⟨vs,vs[i]'(by rw[r.length];exact hl),ht'.sq,by simp[r.length,hl]⟩,fun hl=>⟨vs,ht'.sq,by rw[r.length];exact hl⟩,fun y H' hq2=>?_⟩
 obtain⟨e1,e2⟩:=hq2
 subst e1
 refine⟨.refl _,m,fun d hd=>?_⟩
 obtain⟨v,h1,h2⟩:=r'.get hd
 rw[e2 vs ht'.sq] at h1;cases h1;exact h2
theorem itd_tup {K:PySem.W.Frag} {H0:Hp} {a:Addr} {vs:List V} {xs:List D} (ht:SqT K H0 a vs) (r:RelDs K H0 vs xs):ItD K H0 (Itt K a) xs (fun _=>True):=fun i H M x m k=>by
 have ht':=x.tup _ _ ht
 have r':=r.ext x
 refine⟨fun hl=>⟨vs,vs[i]'(by rw[r.length];exact hl),ht',by simp[r.length,hl]⟩,fun hl=>⟨vs,ht',by rw[r.length];exact hl⟩,fun y H' hq2=>?_⟩
 obtain⟨e1,e2⟩:=hq2
 subst e1
 refine⟨.refl _,m,fun d hd=>?_⟩
 obtain⟨v,h1,h2⟩:=r'.get hd
 rw[e2 vs ht'] at h1;cases h1;exact h2
theorem di_seq {l:Expr} {te:DE} (hl:PE X l (lift (X.L rz Xe) te)):PI X tg l (liftI (X.L rz Xe) (diSeq te)):=by
 rintro pins s σ H R I ⟨δ,M,Rd,rs,rm,t,q⟩
 refine thn (hl pins s σ H (fun x H1=>(∃ a xs,x=.ref a/\SqL X.K H1 a xs/\R (Itl X.K a) H1)\/(∃ a xs,x=.ref a/\SqT X.K H1 a xs/\R (Itt X.K a) H1)) I ⟨δ,M,_,rs,rm,t,fun d M1 v H1 x1 m1 r1 h1=>?_⟩) fun v s1 ⟨x,H1,I1,r1,q1⟩=>?_
 ·cases r1 with
  | lst a =>
   obtain⟨xs,e0,h1⟩:=h1
   obtain⟨vs,e,r⟩:=m1 _ _ e0
   exact .inl ⟨a,vs,rfl,.of e,q _ _ _ _ _ x1 m1 e0 itd_list h1⟩
  | fz ht r=>exact .inl ⟨_,_,rfl,ht.sq,q _ _ _ _ _ x1 m1 trivial (itd_fz ht r) h1⟩
  | tup ht r=>exact .inr ⟨_,_,rfl,ht,q _ _ _ _ _ x1 m1 trivial (itd_tup ht r) h1⟩
  | _=>exact (show False from h1).elim
 ·rcases q1 with ⟨a,xs,e,hq,q⟩|⟨a,xs,e,hq,q⟩
  ·subst e
   cases r1
   obtain⟨its,rv,p,hz⟩:=I1.list hq
   refine wpAny_pyIter_list p.isList ?_
   refine⟨s1.heap.objs.size,[s1.heap.objs.size],_,_,H1,rfl,I1.kept (t':=s1.toks) fun b o e=>Heap.get?_push_of_some _ e,turn_list a _,⟨_,Heap.get?_push_size _ rfl,rfl,rfl⟩,fun b hb=>?_,q⟩
   have e:b=s1.heap.objs.size:=by simpa using hb
   subst e
   exact I1.fpOk (Nat.le_refl _) (I1.hok.fresh (Nat.le_refl _))
  ·subst e
   cases r1
   obtain⟨its,rv,p,hz⟩:=I1.tuple hq
   refine wpAny_pyIter_tuple (show s1.heap.IsTuple a its.toArray from p) ?_
   refine⟨s1.heap.objs.size,[s1.heap.objs.size],_,_,H1,rfl,I1.kept (t':=s1.toks) fun b o e=>Heap.get?_push_of_some _ e,turn_tuple a _,⟨_,Heap.get?_push_size _ rfl,rfl,rfl⟩,fun b hb=>?_,q⟩
   have e:b=s1.heap.objs.size:=by simpa using hb
   subst e
   exact I1.fpOk (Nat.le_refl _) (I1.hok.fresh (Nat.le_refl _))
end
noncomputable def Itr3 (lo c:Int) (n:Nat):It:=⟨fun i _=>i<n,fun i H x H'=>H'=H/\x=.int (lo+i*c),fun i _=>n<=i⟩
theorem turn_range3 {P:Program} {w:World} {K:PySem.W.Frag} {tg:Expr} (it:Addr) (lo c:Int) (n:Nat):Turn P w K tg (Itr3 lo c n) [it] it (fun i h=>IsRangeIter h it (lo+(i:Nat)*c) ((n:Int)-(i:Nat)) c) where
 mem:=by simp
 obj:=fun i h st b hb=>by
  have e:b=it:=by simpa using hb
  subst e
  exact⟨_,st,fun v z=>by
   have z':Data.fields _=Data.cell v:=z
   cases z'⟩
 keep:=fun i h h' st k=>k it (by simp) _ st
 item:=by
  intro X hP hw hK hc i pins s σ H E I hf st hg
  subst hP hw hK
  obtain⟨f0,f1,f2,f3,f4,f5⟩:=hf it (by simp)
  have W:=Walks.range (prog:=X.prog) (w:=X.w) (I.ok.hd hc) it lo c n
  refine W.item i s _ _ hg st fun v h' tk hv st' kk=>?_
  obtain⟨t,rfl⟩:=hv
  have I1:L2.Inv X pins σ H {s with heap:=h',toks:=tk}:=I.turned (fun b o hb e=>kk b o (by simpa using hb) e) f0 f1 f3 f4 f5
  exact⟨_,rfl,go_of (s:={s with heap:=h',toks:=tk}) (n:="range_iterator") st' rfl rfl (by decide) ⟨.int (lo+i*c),H,I1,⟨t,rfl⟩,⟨rfl,rfl⟩,st',fun b hb=>(hf b hb).1⟩⟩
 done:=by
  intro X hP hw hK hc i pins s σ H E I hf st hg
  subst hP hw hK
  obtain⟨f0,f1,f2,f3,f4,f5⟩:=hf it (by simp)
  exact wpAny_pyNext_range_end (I.ok.hd hc) st (by have:n<=i:=hg;omega) fun h' eb=>⟨rfl,I.turned (t':=s.toks) (fun b o hb e=>eb b o hb e) f0 f1 f3 f4 f5⟩
 self:=fun _ _ _ _ _ st h=>wpAny_pyIter_rangeiter st h
noncomputable def rngD (lo c:Int) (n:Nat):List D:=(List.range n).map fun i=>.int (lo+(i:Nat)*c)
noncomputable def rngN (i j c:Int):Nat:=(Builtin.Range.rangeSize i j c).toNat
noncomputable def itRng:List D->Mem->(List D->(Mem->Prop)->Mem->Prop)->Prop
 | [.int j],M,R=>(-(2 ^ 62)<=j/\j<2 ^ 62)/\R (rngD 0 1 j.toNat) (fun _=>True) M
 | [.int i,.int j],M,R=>(-(2 ^ 62)<=i/\i<2 ^ 62/\-(2 ^ 62)<=j/\j<2 ^ 62)/\R (rngD i 1 (j-i).toNat) (fun _=>True) M
 | [.int i,.int j,.int c],M,R=>DivOk c/\Builtin.Range.small i j c=true/\0<=Builtin.Range.rangeSize i j c/\R (rngD i c (rngN i j c)) (fun _=>True) M
 | _,_,_=>False
noncomputable def diRng (ta:DA):DI:=fun δ M R=>ta δ M fun ds M1=>itRng ds M1 R
theorem itd_rng3 {K:PySem.W.Frag} {H0:Hp} {lo c:Int} {n:Nat}:ItD K H0 (Itr3 lo c n) (rngD lo c n) (fun _=>True):=fun i H M x m k=>by
 have hl:(rngD lo c n).length=n:=by simp[rngD]
 rw[hl]
 refine⟨fun h=>h,fun h=>h,fun y H' hq2=>?_⟩
 obtain⟨e1,e2⟩:=hq2
 subst e1 e2
 refine⟨.refl _,m,fun d hd=>?_⟩
 unfold rngD at hd
 rw[List.getElem?_map] at hd
 cases q:(List.range n)[i]? with
 | none=>rw [q] at hd;cases hd
 | some j =>
  rw[q] at hd
  have hj:j=i:=by
   obtain⟨h1,h2⟩:=List.getElem?_eq_some_iff.mp q
   simpa using h2.symm
  subst hj
  cases hd
  exact .int _
theorem itd_rng {K:PySem.W.Frag} {H0:Hp} {lo:Int} {n:Nat}:ItD K H0 (Itr lo n) (rngD lo 1 n) (fun _=>True):=fun i H M x m k=>by
 obtain⟨a,b,c⟩:=itd_rng3 (K:=K) (H0:=H0) (lo:=lo) (c:=1) (n:=n) i H M x m k
 refine⟨a,b,fun y H' ⟨e1,e2⟩=>c y H' ⟨e1,?_⟩⟩
 rw[Int.mul_one];exact e2
theorem rels_ints {K:PySem.W.Frag} {H:Hp} {vs:List V}:∀ {ns:List Int},RelDs K H vs (ns.map D.int)->vs=ns.map V.int
 | [],r=>by cases r;rfl
 | _::_,r=>by cases r with|cons h q=>cases h;exact congrArg _ (rels_ints q)
section
variable {X:Cx} {rz:Bool} {Xe:DSt->DK} {tg:Expr} {pos:Pos}
theorem range_it3 {pins:List (Addr×Obj)} {σ:L2.St} {H:Hp} {s:Shared} {R:It->Hp->Prop} {E:Value->Shared->Prop} {lo hi c:Int} {t u v:Tok} {tk:Nat} (I:L2.Inv X pins σ H s) (hs:Builtin.Range.small lo hi c=true) (hn:0<=Builtin.Range.rangeSize lo hi c)
  (q:R (Itr3 lo c (rngN lo hi c)) H):wpAny (model X.prog X.w) X.A (pyIter (.ref s.heap.objs.size)) (PIE X pins σ tg R) E {s with heap:=s.heap.push {cls:=.type "range",data:=.fields #[.int lo t,.int hi u,.int c v]},toks:=tk}:=by
 refine wpAny_pyIter_range (IsRange.new ..) hs ?_
 have I1:L2.Inv X pins σ H {s with heap:=s.heap.push {cls:=.type "range",data:=.fields #[.int lo t,.int hi u,.int c v]},toks:=tk}:=I.kept fun b o e=>Heap.get?_push_of_some _ e
 refine⟨(s.heap.push {cls:=.type "range",data:=.fields #[.int lo t,.int hi u,.int c v]}).objs.size,[(s.heap.push {cls:=.type "range",data:=.fields #[.int lo t,.int hi u,.int c v]}).objs.size],_,_,H,rfl,
  I1.kept (t':=tk) fun b o e=>Heap.get?_push_of_some _ e,turn_range3 _ lo c (rngN lo hi c),?_,fun b hb=>?_,q⟩
 ·have e1:lo+((0:Nat):Int)*c=lo:=by simp
  have e2:((rngN lo hi c:Nat):Int)-((0:Nat):Int)=Builtin.Range.rangeSize lo hi c:=by unfold rngN;omega
  show IsRangeIter _ _ (lo+((0:Nat):Int)*c) (((rngN lo hi c:Nat):Int)-((0:Nat):Int)) c
  rw[e1,e2]
  exact Heap.get?_push_size _ rfl
 ·have e:b=(s.heap.push {cls:=.type "range",data:=.fields #[.int lo t,.int hi u,.int c v]}).objs.size:=by simpa using hb
  subst e
  exact I1.fpOk (Nat.le_refl _) (I1.hok.fresh (Nat.le_refl _))
set_option tactic.hygienic true
theorem di_rng {a:Expr} {es:List Expr} {ta:DA} {p:Pos} (hg:Gl X "range") (hm:X.mg "range"=none) (ha:PA X (a::es) (liftA (X.L rz Xe) ta)) (hs:starEach (a::es) X.env=(false,eval a X.env)::starEach es X.env) (hpl:(backTo pos (starEach es X.env)).any (·.1)=false) :
  PI X tg (.Call (.Name "range" p) (a::es) [] pos) (liftI (X.L rz Xe) (diRng ta)):=by
 rintro pins s σ H R I ⟨δ,M,Rd,rs,rm,t,q⟩
 refine Call_ (ld_blt I hg hm boot_range (PyProof.Rows.callWith_type1 (thn (ha pos pins s σ H (fun vs H1=>(∃ j:Int,vs=[.int j]/\-(2 ^ 62)<=j/\j<2 ^ 62/\R (Itr 0 j.toNat) H1)\/(∃ i j:Int,vs=[.int i,.int j]/\(-(2 ^ 62)<=i/\i<2 ^ 62/\-(2 ^ 62)<=j/\j<2 ^ 62)/\R (Itr i (j-i).toNat) H1) \/
  (∃ i j c:Int,vs=[.int i,.int j,.int c]/\(DivOk c/\Builtin.Range.small i j c=true/\0<=Builtin.Range.rangeSize i j c)/\R (Itr3 i c (rngN i j c)) H1)) I ⟨δ,M,_,rs,rm,t,fun ds M1 vs H1 x1 m1 r1 h1=>?_⟩) fun us s1 ⟨vs,H1,I1,r1,q1⟩=>?_) hs hpl))
 ·unfold itRng at h1
  split at h1
  ·rename_i j;cases rels_ints (ns:=[j]) r1;exact .inl ⟨_,rfl,h1.1.1,h1.1.2,q _ _ _ _ _ x1 m1 trivial itd_rng h1.2⟩
  ·rename_i i j;cases rels_ints (ns:=[i,j]) r1;exact .inr (.inl ⟨_,_,rfl,h1.1,q _ _ _ _ _ x1 m1 trivial itd_rng h1.2⟩)
  ·rename_i i j c;cases rels_ints (ns:=[i,j,c]) r1;exact .inr (.inr ⟨_,_,_,rfl,⟨h1.1,h1.2.1,h1.2.2.1⟩,q _ _ _ _ _ x1 m1 trivial itd_rng3 h1.2.2.2⟩)
  ·exact h1.elim
 ·rcases q1 with ⟨j,e,q1,q2,q⟩|⟨i,j,e,⟨q1,q2,q3,q4⟩,q⟩|⟨i,j,c,e,⟨q1,q2,q3⟩,q⟩
  ·subst e
   cases r1 with
   | cons r rr =>
    cases rr
    obtain⟨t,rfl⟩:=r
    exact call_range_1 (range_it I1 (by omega) (by omega) q1 q2 (by simpa using q))
  ·subst e
   cases r1 with
   | cons r rr =>
    cases rr with
    | cons r' rr =>
     cases rr
     obtain⟨t,rfl⟩:=r
     obtain⟨t',rfl⟩:=r'
     exact call_range_2 (range_it I1 q1 q2 q3 q4 q)
  ·subst e
   cases r1 with
   | cons r rr =>
    cases rr with
    | cons r' rr =>
     cases rr with
     | cons r'' rr =>
      cases rr
      obtain⟨t,rfl⟩:=r
      obtain⟨t',rfl⟩:=r'
      obtain⟨t'',rfl⟩:=r''
      exact call_range_3 q1.1 (range_it3 I1 q2 q3 q) (.inl (PyProof.noPylong_of_log2 q1.2))
end
section
variable {prog:Program} {w:World} {A:Around} {E:Value->Shared->Prop}
end
section
variable {X:Cx} {rz:Bool} {Xe:DSt->DK} {es:List Expr} {gs:DGs} {pos:Pos}
end
end DL
end
noncomputable section
namespace DL
open PySem PySem.Spec PyProof.Rows L2
set_option tactic.hygienic false
noncomputable def clos (cells:List (Str×Addr)):List (Str×NameKind)->List (Str×Addr)->List (Str×Addr)
 | [],cs=>cs
 | (n,k)::r,cs=>if (k==.free)=true then clos cells r ((n,(cells.lookup n).getD 0)::cs) else clos cells r cs
theorem closureFor_some {scope:Scope} {env:Env} (h:∀ x∈scope.names,x.2=.free->∃ c,env.cells.lookup x.1=some c):closureFor scope env=pure (clos env.cells scope.names []):=by
 simp only[closureFor]
 generalize ([]:List (Str×Addr))=cs
 generalize scope.names=names at h
 have key:∀ (names:List (Str×NameKind)) (cs:List (Str×Addr)),(∀ x∈names,x.2=.free->∃ c,env.cells.lookup x.1=some c) ->
   (forIn names cs fun x r=>(if (x.2==NameKind.free)=true then do let a <- cellOf env x.1;pure (ForInStep.yield ((x.1,a)::r)) else pure (ForInStep.yield r)):Sem (List (Str×Addr)))=pure (clos env.cells names cs):=by
  intro names
  induction names with
  | nil=>intro cs _;rfl
  | cons x l ih =>
   intro cs h
   obtain⟨n,k⟩:=x
   rw[List.forIn_cons]
   by_cases hk:(k==NameKind.free)=true
   ·obtain⟨c,hc⟩:=h (n,k) List.mem_cons_self (by simpa using hk)
    have hcell:cellOf env n=pure c:=by unfold cellOf;rw[hc]
    rw[if_pos hk,hcell]
    simp only[pure_bind]
    rw[ih _ fun y hy=>h y (List.mem_cons_of_mem _ hy)]
    have:clos env.cells ((n,k)::l) cs=clos env.cells l ((n,c)::cs):=by
     conv=>lhs;unfold clos
     rw[if_pos hk,hc];rfl
    rw[this]
   ·rw[if_neg hk]
    simp only[pure_bind]
    rw[ih _ fun y hy=>h y (List.mem_cons_of_mem _ hy)]
    conv=>rhs;unfold clos
    rw[if_neg hk]
 have:=key names cs h
 first
  | exact (by simpa using this)
  | (rw [<- this];rfl)
theorem clos_sub {cells:List (Str×Addr)}:∀ {names:List (Str×NameKind)} {cs:List (Str×Addr)},(∀ x∈names,x.2=.free->∃ c,cells.lookup x.1=some c)->(∀ x c,cs.lookup x=some c->cells.lookup x=some c) ->
  ∀ x c,(clos cells names cs).lookup x=some c->cells.lookup x=some c
 | [],_,_,h,x,c,e=>h x c e
 | (n,k)::r,cs,hn,h,x,c,e=>by
  unfold clos at e
  by_cases hk:(k==NameKind.free)=true
  ·rw[if_pos hk] at e
   obtain⟨c0,hc0⟩:=hn (n,k) List.mem_cons_self (by simpa using hk)
   refine clos_sub (fun y hy=>hn y (List.mem_cons_of_mem _ hy)) (fun y d q=>?_) x c e
   rw[List.lookup_cons] at q
   cases hy:y==n with
   | true=>rw [hy] at q;rw[eq_of_beq hy,hc0];rw[hc0] at q;exact q
   | false=>rw [hy] at q;exact h y d q
  ·rw[if_neg hk] at e
   exact clos_sub (fun y hy=>hn y (List.mem_cons_of_mem _ hy)) h x c e
theorem clos_has {cells:List (Str×Addr)}:∀ {names:List (Str×NameKind)} {cs:List (Str×Addr)} {x:Str},((∃ c,cs.lookup x=some c)\/(x,NameKind.free)∈names)->∃ c,(clos cells names cs).lookup x=some c
 | [],_,_,h=>by
  rcases h with h|h
  ·exact h
  ·cases h
 | (n,k)::r,cs,x,h=>by
  unfold clos
  by_cases hk:(k==NameKind.free)=true
  ·rw[if_pos hk]
   refine clos_has ?_
   cases hx:x==n with
   | true=>exact .inl ⟨_,by rw[List.lookup_cons,hx]⟩
   | false =>
    rcases h with ⟨c,h⟩|h
    ·exact .inl ⟨c,by rw[List.lookup_cons,hx];exact h⟩
    ·rcases List.mem_cons.mp h with h|h
     ·cases h;simp at hx
     ·exact .inr h
  ·rw[if_neg hk]
   refine clos_has ?_
   rcases h with h|h
   ·exact .inl h
   ·rcases List.mem_cons.mp h with h|h
    ·cases h;simp at hk
    ·exact .inr h
theorem lookup_relabel {env:Env}:∀ {names:List (Str×NameKind)} {x:Str} {k:NameKind},
  (names.map fun (n,k)=>if (k==NameKind.free&&env.scope.kind==.function&&env.kindOf n==some .cell) then (n,NameKind.cell) else (n,k)).lookup x=some k ->
  ∃ k',names.lookup x=some k'/\(k=k'\/(k'=.free/\k=.cell))
 | [],_,_,h=>by simp at h
 | (n,k0)::r,x,k,h=>by
  have ih:=@lookup_relabel env r x k
  simp only[List.map_cons] at h
  by_cases hc:(k0==NameKind.free&&env.scope.kind==.function&&env.kindOf n==some .cell)=true
  ·rw[if_pos hc] at h
   rw[List.lookup_cons] at h ⊢
   cases hx:x==n with
   | true =>
    simp only[hx] at h;cases h
    simp only[Bool.and_eq_true,beq_iff_eq] at hc
    exact⟨k0,rfl,.inr ⟨hc.1.1,rfl⟩⟩
   | false=>simp only[hx] at h;exact ih h
  ·rw[if_neg hc] at h
   rw[List.lookup_cons] at h ⊢
   cases hx:x==n with
   | true=>simp only[hx] at h;cases h;exact⟨k0,rfl,.inl rfl⟩
   | false=>simp only[hx] at h;exact ih h
structure BlkOk (N:List Str) (env:Env) (N':List Str) (scope:Scope):Prop where
 kind:scope.kind=.function
 cell:∀ y∈scope.names,y.2≠.cell
 names:∀ y∈scope.names,y.2=.local->scope.names.lookup y.1=some .local
 free:∀ y∈scope.names,y.2=.free->env.kindOf y.1=some .cell\/env.kindOf y.1=some .free
 agree:∀ i x,i<N.length->N'[i]?=some x->∀ k,scope.names.lookup x=some k->k=.globalImplicit\/k=.globalExplicit\/(k=.free/\N[i]?=some x)
 long:N.length<=N'.length
noncomputable def blkCx (X:Cx) (N':List Str) (scope:Scope) (cl:List (Str×Addr)) (C:Addr) (s:Shared) (H:Hp) (ex:List Addr) (pn:List (Addr×Obj)):Cx :=
 {X with N:=N',s₀:=s,H₀:=H,env:=compEnvC scope cl C X.env,outer:=X.stack,stack:=X.stack,ex:=ex,fn:=fun _=>false,pn:=pn,xe:=fun _ _=>False}
section
variable {X:Cx} {rz:Bool} {Xe:DSt->DK} {pins:List (Addr×Obj)} {σ:L2.St} {H:Hp} {s:Shared} {N':List Str} {scope:Scope} {fp:List Addr}
theorem blk_start {tk:Nat} {h1:Heap} (I:L2.Inv X pins σ H s) (B:BlkOk X.N X.env N' scope) (hf:∀ b∈fp,FpOk X pins H b) (hflt:∀ b∈fp,b<s.heap.objs.size)
  (hns:h1.Ns s.heap.objs.size (fun x=>([]:List (Str×Value)).reverse.lookup x)) (hk:∀ b o,s.heap.get? b=some o->h1.get? b=some o) :
  L2.Inv (blkCx X N' scope (clos X.env.cells scope.names []) s.heap.objs.size s H fp []) [] (σ++List.replicate (N'.length-X.N.length) none) H {s with heap:=h1,toks:=tk}:=by
 have hcells:∀ x∈scope.names,x.2=.free->∃ c,X.env.cells.lookup x.1=some c:=fun x hx e=>I.ok.has x.1 (B.free x hx e)
 have csub:=clos_sub (cells:=X.env.cells) (names:=scope.names) (cs:=[]) hcells (fun x c e=>by simp at e)
 have noC:∀ x c,X.env.cells.lookup x=some c->c<s.heap.objs.size:=fun x c e=>by obtain⟨v,q⟩:=I.cell x c e;exact q.lt
 refine⟨⟨I.ok.mod,?_,I.ok.glob,I.ok.blt,Nat.le_refl _,fun x y c e1 e2=>I.ok.inj x y c (csub x c e1) (csub y c e2),fun x hx=>?_,fun x c e=>(by cases e),I.ok.hd,I.ok.frames,.inl rfl,fun b hb=>⟨Nat.ne_of_lt (hflt b hb),fun x c e=>(hf b hb).2.2.2.2.1 x c (csub x c e)⟩,
  I.bs,Nat.le_trans I.ok.bsz I.sz,fun b o e hb=>?_,fun b hb z=>?_,I.stack,I.stkFree⟩,rfl,I.bare,Un.kept hk,⟨_,hns,fun i x v e1 e2 e3=>?_⟩,fun x c e=>?_,I.hok.fresh (Nat.le_refl _),fun x c e=>I.freeC x c (csub x c e),fun p hp=>absurd (show p∈([]:List (Addr×Obj)) from hp) (by simp),I.hok.kept hk,?_⟩
 ·show (relabel scope X.env).kind=.function
  exact B.kind
 ·
  have hx':(relabel scope X.env).names.lookup x=some .cell\/(relabel scope X.env).names.lookup x=some .free:=hx
  have fin:(x,NameKind.free)∈scope.names->∃ c,(clos X.env.cells scope.names []).lookup x=some c:=fun z=>clos_has (.inr z)
  rcases hx' with z|z
  ·obtain⟨k',e1,e2⟩:=lookup_relabel z
   have hm:=PySem.mem_of_lookup e1
   rcases e2 with e2|⟨e2,_⟩
   ·subst e2;exact absurd rfl (B.cell _ hm)
   ·subst e2;exact fin hm
  ·obtain⟨k',e1,e2⟩:=lookup_relabel z
   have hm:=PySem.mem_of_lookup e1
   rcases e2 with e2|⟨_,e2⟩
   ·subst e2;exact fin hm
   ·cases e2
 ·
  obtain⟨_,_,_,z,_⟩:=hf b hb
  rcases z with z|z
  ·exact I.ok.noex b o e z
  ·exact absurd (Nat.lt_of_lt_of_le (Heap.lt_size e) I.ok.bsz) (Nat.not_lt.mpr z)
 ·obtain⟨_,z1,z2,_⟩:=hf b hb
  rcases List.mem_cons.mp (I.stkSub b z) with q|q
  ·exact z1 q
  ·exact z2 q
 ·
  have e3':(relabel scope X.env).names.lookup x=some .local\/(relabel scope X.env).names.lookup x=some .cell\/(relabel scope X.env).names.lookup x=some .free:=e3
  have hi:i < σ.length:=by
   by_cases hi:i < σ.length
   ·exact hi
   ·rw[List.getElem?_append_right (by omega),List.getElem?_replicate] at e2
    split at e2<;>cases e2
  rw[List.getElem?_append_left hi] at e2
  have hiN:i<X.N.length:=by rw[<- I.len];exact hi
  obtain⟨k',q1,q2⟩:∃ k',scope.names.lookup x=some k'/\(k'=.local\/k'=.cell\/k'=.free):=by
   rcases e3' with z|z|z
   all_goals
    obtain⟨k',e1,e2⟩:=lookup_relabel z
    rcases e2 with e2|⟨e2,e4⟩
    ·exact⟨k',e1,by rw[<- e2];simp⟩
    ·exact⟨k',e1,by rw[e2];simp⟩
  obtain⟨hfree,hN⟩:k'=.free/\X.N[i]?=some x:=by
   rcases B.agree i x hiN e1 k' q1 with z|z|z
   ·subst z;simp at q2
   ·subst z;simp at q2
   ·exact z
  subst hfree
  have hout:=B.free (x,.free) (PySem.mem_of_lookup q1) rfl
  obtain⟨m,hn,hl⟩:=I.loc
  have vis:Vis X.env.scope x:=by rcases hout with z|z;exact .inr (.inl z);exact .inr (.inr z)
  obtain⟨u,r,l⟩:=hl i x v hN e2 vis
  refine⟨u,r,?_⟩
  rcases l with ⟨hkk,_⟩|⟨_,c,hc,hcell⟩
  ·exfalso
   rcases hout with z|z
   ·rw[show X.env.kindOf x=some .cell from z] at hkk;cases hkk
   ·rw[show X.env.kindOf x=some .free from z] at hkk;cases hkk
  ·obtain⟨c',hc'⟩:=clos_has (cells:=X.env.cells) (names:=scope.names) (cs:=[]) (.inr (PySem.mem_of_lookup q1))
   have:=csub x c' hc'
   rw[hc] at this;cases this
   refine .inr ⟨?_,c,hc',(let ⟨o,e1,e2⟩:=hcell;⟨o,hk _ o e1,e2⟩)⟩
   rcases e3' with z|z|z
   ·obtain⟨k',e1,e2⟩:=lookup_relabel z
    rw[q1] at e1;cases e1
    rcases e2 with e2|⟨_,e2⟩<;>cases e2
   ·exact .inl z
   ·exact .inr z
 ·obtain⟨v,q⟩:=I.cell x c (csub x c e)
  exact⟨v,let ⟨o,e1,e2⟩:=q;⟨o,hk _ o e1,e2⟩⟩
 ·show (σ++List.replicate (N'.length-X.N.length) none).length=N'.length
  rw[List.length_append,List.length_replicate,I.len]
  have:=B.long
  omega
noncomputable def compD (g:DG) (te:DE) (keep:Mem->Prop) (p:Addr):List D->List D->DSt->Mem->(Mem->Prop)->Prop
 | [],_,_,M,Q=>Q M
 | x::xs,acc,δ,M,Q=>g x δ M fun δ1 M1=>te δ1 M1 fun d M2=>M2 p=some (.ls acc)/\acc.length<sizeLine/\keep (M2.upd p (.ls (acc++[d])))/\compD g te keep p xs (acc++[d]) δ1 (M2.upd p (.ls (acc++[d]))) Q
noncomputable def dComp (n:Nat) (ti:DI) (g:DG) (te:DE):DE:=fun δ M Q=>ti δ M fun items keep M1=>∀ p,M1 p=none ->
 keep (M1.upd p (.ls []))/\compD g te keep p items [] (δ++List.replicate n none) (M1.upd p (.ls [])) fun M2=>(∃ ds,M2 p=some (.ls ds))/\Q (.lst p) M2
theorem Slots.more {K:PySem.W.Frag} {H:Hp} {δ:DSt} {σ:L2.St} (r:Slots K H δ σ) (n:Nat):Slots K H (δ++List.replicate n none) (σ++List.replicate n none):=by
 refine⟨by simp[r.len],fun i d e=>?_⟩
 by_cases hi:i < δ.length
 ·rw[List.getElem?_append_left hi] at e
  obtain⟨v,h1,h2⟩:=r.slot i d e
  exact⟨v,by rw[List.getElem?_append_left (by rw[<- r.len];exact hi)];exact h1,h2⟩
 ·rw[List.getElem?_append_right (by omega),List.getElem?_replicate] at e
  split at e<;>cases e
end
end DL
end
noncomputable section
namespace DL
open PySem PySem.Spec PyProof.Rows L2
noncomputable abbrev DB:=DSt->Mem->(DSt->Mem->Prop)->Prop
noncomputable abbrev BW:=Program->World->Around->(Shared->Prop)->Shared->Prop
noncomputable def liftB (Λ:LK) (b:DB) (σ:L2.St) (H:Hp) (Q:L2.St->Hp->Prop):Prop:=∃ δ M R,RepS Λ H δ σ/\RepM Λ.K H M/\b δ M R/\∀ δ' M' σ' H',HExt Λ.K H H'->RepS Λ H' δ' σ'->RepM Λ.K H' M'->R δ' M'->Q σ' H'
noncomputable def PB (Y:Cx) (W:BW) (b:DB):Prop:=∀ (pins:List (Addr×Obj)) (s:Shared) (σ:L2.St) (H:Hp) (Q:L2.St->Hp->Prop),L2.Inv Y pins σ H s->liftB (Y.L false X0) b σ H Q ->
 W Y.prog Y.w Y.A (fun s'=>∃ σ' H',L2.Inv Y pins σ' H' s'/\Q σ' H') s
noncomputable def loopD (g:DG) (b:DB) (keep:Mem->Prop):List D->DB
 | []=>fun δ M Q=>Q δ M
 | x::xs=>fun δ M Q=>g x δ M fun δ1 M1=>b δ1 M1 fun δ2 M2=>keep M2/\loopD g b keep xs δ2 M2 Q
noncomputable def bEmit (te:DE) (p:Addr):DB:=fun δ M Q=>te δ M fun d M2=>∃ acc,M2 p=some (.ls acc)/\acc.length<sizeLine/\Q δ (M2.upd p (.ls (acc++[d])))
noncomputable def dCompB (n:Nat) (ti:DI) (g:DG) (b:Addr->DB):DE:=fun δ M Q=>ti δ M fun items keep M1=>∀ p,M1 p=none ->
 keep (M1.upd p (.ls []))/\loopD g (b p) keep items (δ++List.replicate n none) (M1.upd p (.ls [])) fun _ M2=>(∃ ds,M2 p=some (.ls ds))/\Q (.lst p) M2
noncomputable def emitW (elt:Expr) (acc:Value) (env:Env):BW:=fun prog w A Q s=>wpAny (model prog w) A (eval elt env) (fun x s1=>wpAny (model prog w) A (call (.builtin "list.append") [acc,x]) (fun _ s2=>Q s2) (fun _ _=>False) s1) (fun _ _=>False) s
noncomputable def TurnOf (e target:Expr) (d:Nat) (it acc:Value) (env:Env) (body:BW):Prop:=∀ {prog:Program} {w:World} {A:Around} {R:Fin->Shared->Prop} {s:Shared},
 wpAny (model prog w) A (pyNext it) (fun r s₁=>match r with
   | none=>R (.done .next) s₁
   | some v=>wpAny (model prog w) A (letOwnedTupleGo target it v) (fun _ s₂=>wpAny (model prog w) A (assign target env v) (fun _ s₃=>body prog w A (fun s₄=>R (.again (.compLoop e d it acc env)) s₄) s₃) (fun _ _=>False) s₂) (fun _ _=>False) s₁) (fun _ _=>False) s ->
 wpAny (model prog w) A (compTurn e d it acc env) R (fun _ _=>False) s
theorem loop_own {prog:Program} {w:World} {A:Around} {R:Result->Shared->Prop} {s:Shared} {elt target:Expr} {gs:List Comprehension} {scope:Scope} {pos:Pos} {d:Nat} {it acc:Value} {env:Env} {body:BW}
  (ht:TurnOf (.ListComp elt gs scope pos) target d it acc env body) (I:Nat->Shared->Prop)
  (turn:∀ n s,I n s->wpAny (model prog w) A (pyNext it) (fun r s₁=>match r with
   | none=>R (.ok .next) s₁
   | some v=>wpAny (model prog w) A (letOwnedTupleGo target it v) (fun _ s₂=>wpAny (model prog w) A (assign target env v) (fun _ s₃=>body prog w A (fun s₄=>∃ m,m<n/\I m s₄) s₃) (fun _ _=>False) s₂) (fun _ _=>False) s₁) (fun _ _=>False) s)
  (mono:∀ (A:Around) (Q Q':Shared->Prop) s,(∀ s',Q s'->Q' s')->body prog w A Q s->body prog w A Q' s)
  (n:Nat) (h:I n s):codeAny (model prog w) A (.compLoop (.ListComp elt gs scope pos) d it acc env) R s:=by
 refine codeAny_loop rfl I (fun n s hI=>?_) n h
 show wpAny _ _ ((compTurn (.ListComp elt gs scope pos) d it acc env).onRaise (fun x=>do noteFrame x env;theTreesLotGoes x)) _ _ s
 refine wpAny_noted (wpAny_mono (ht (R:=fun fin s'=>match fin with | .done f=>R (.ok f) s' | .again c'=>c'=.compLoop (.ListComp elt gs scope pos) d it acc env/\∃ m,m<n/\I m s') (wpAny_mono (turn n s hI) (fun r s₁ h₁=>?_) fun _ _ h'=>h'.elim)) (fun _ _ q=>q) fun _ _ h'=>h'.elim)
 cases r with
 | none=>exact h₁
 | some v=>exact wpAny_mono h₁ (fun _ s₂ h₂=>wpAny_mono h₂ (fun _ s₃ h₃=>mono _ _ _ _ (fun s' q=>⟨rfl,q⟩) h₃) fun _ _ h'=>h'.elim) fun _ _ h'=>h'.elim
theorem emitW_mono {elt:Expr} {acc:Value} {env:Env} {prog:Program} {w:World} (A:Around) (Q Q':Shared->Prop) (s) (hq:∀ s',Q s'->Q' s') (h:emitW elt acc env prog w A Q s):emitW elt acc env prog w A Q' s :=
 wpAny_mono h (fun _ _ h1=>wpAny_mono h1 (fun _ _ h2=>hq _ h2) fun _ _ h'=>h') fun _ _ h'=>h'
theorem turn_one {elt target iter:Expr} {scope:Scope} {pos:Pos} {it acc:Value} {env:Env}:TurnOf (.ListComp elt [⟨target,iter,[],0⟩] scope pos) target 0 it acc env (emitW elt acc env):=by
 intro prog w A R s h
 rw[compTurn_list1]
 refine wpAny_bind (wpAny_standAt (wpAny_bind (wpAny_mono h (fun r s₁ h₁=>?_) fun _ _ h'=>h'.elim)))
 cases r with
 | none=>exact wpAny_pure h₁
 | some v =>
  refine wpAny_bind (wpAny_mono h₁ (fun _ s₂ h₂=>?_) fun _ _ h'=>h'.elim)
  exact wpAny_bind (wpAny_mono h₂ (fun _ s₃ h₃=>wpAny_bind (wpAny_bind (wpAny_mono h₃ (fun x s₅ h₅=>wpAny_bind (wpAny_mono h₅ (fun _ s₆ h₆=>wpAny_pure (wpAny_pure h₆)) fun _ _ h'=>h'.elim)) fun _ _ h'=>h'.elim))) fun _ _ h'=>h'.elim)
noncomputable def gUp (g:DG):DG:=fun x δ M Q=>∃ R,g x δ M R/\∀ δ1 M1,R δ1 M1->Q δ1 M1
noncomputable def iUp (ti:DI):DI:=fun δ M R=>∃ R0,ti δ M R0/\∀ items keep M1,R0 items keep M1->R items keep M1
noncomputable def eUp (te:DE):DE:=fun δ M Q=>∃ R,te δ M R/\∀ d M1,R d M1->Q d M1
theorem comp_loop {g:DG} {te:DE} {keep:Mem->Prop} {p:Addr} {Q:Mem->Prop}:∀ {items acc:List D} {δ:DSt} {M:Mem},compD g te keep p items acc δ M Q->loopD (gUp g) (bEmit (eUp te) p) keep items δ M fun _ M2=>Q M2
 | [],_,_,_,h=>h
 | x::xs,acc,δ,M,h=>⟨_,h,fun δ1 M1 h1=>⟨_,h1,fun d M2 h2=>⟨acc,h2.1,h2.2.1,h2.2.2.1,comp_loop h2.2.2.2⟩⟩⟩
theorem dComp_up {n:Nat} {ti:DI} {g:DG} {te:DE} {δ:DSt} {M:Mem} {Q:DK} (h:dComp n ti g te δ M Q):dCompB n (iUp ti) (gUp g) (bEmit (eUp te)) δ M Q :=
 ⟨_,h,fun items keep M1 h1 p hp=>⟨(h1 p hp).1,comp_loop (h1 p hp).2⟩⟩
theorem loop_gen {Y:Cx} {pins:List (Addr×Obj)} {s:Shared} {σ:L2.St} {H:Hp} {elt target:Expr} {gs:List Comprehension} {scope:Scope} {pos:Pos} {d:Nat} {acc:Value} {W:BW} {g:DG} {b:DB} {items:List D} {keep:Mem->Prop} {J:It} {fp:List Addr} {it:Addr} {tn:Nat->Heap->Prop}
  {δ:DSt} {M:Mem} {R:DSt->Mem->Prop} {Rr:Result->Shared->Prop} {H0:Hp} (hc:Y.calm=true) (hx:Y.xe=fun _ _=>False)
  (ht:TurnOf (.ListComp elt gs scope pos) target d (.ref it) acc Y.env W) (mono:∀ (A:Around) (Q Q':Shared->Prop) s,(∀ s',Q s'->Q' s')->W Y.prog Y.w A Q s->W Y.prog Y.w A Q' s)
  (T:Turn Y.prog Y.w Y.K target J fp it tn) (itd:ItD Y.K H0 J items keep) (hg:PG Y target (liftG (Y.L false X0) g)) (hb:PB Y W b)
  (I:L2.Inv Y pins σ H s) (hf:∀ b∈fp,FpOk Y pins H b) (st:tn 0 s.heap) (x0:HExt Y.K H0 H) (rs:Slots Y.K H δ σ) (rm:RepM Y.K H M) (k:keep M) (h:loopD g b keep items δ M R)
  (fin:∀ s' σ' H' δ' M',L2.Inv Y pins σ' H' s'->HExt Y.K H H'->Slots Y.K H' δ' σ'->RepM Y.K H' M'->R δ' M'->Rr (.ok .next) s') :
  codeAny (model Y.prog Y.w) Y.A (.compLoop (.ListComp elt gs scope pos) d (.ref it) acc Y.env) Rr s:=by
 have stat:∀ {H':Hp},(∀ b∈fp,H' b=none)->∀ b∈fp,FpOk Y pins H' b:=fun hn b hb=>⟨hn b hb,(hf b hb).2⟩
 refine loop_own ht (fun n s'=>∃ i σ' H' δ' M',L2.Inv Y pins σ' H' s'/\tn i s'.heap/\(∀ b∈fp,H' b=none)/\n=items.length-i/\i<=items.length/\HExt Y.K H H'/\Slots Y.K H' δ' σ'/\RepM Y.K H' M'/\keep M'/\loopD g b keep (items.drop i) δ' M' R) ?_ mono items.length
  ⟨0,σ,H,δ,M,I,st,fun b hbb=>(hf b hbb).1,rfl,Nat.zero_le _,.refl _,rs,rm,k,h⟩
 rintro n s5 ⟨i,σ5,H5,δ5,M5,I5,st5,fr5,rfl,hi5,x5,rs5,m5,k5,h5⟩
 obtain⟨i1,i2,i3⟩:=itd i H5 M5 (x0.trans x5) m5 k5
 by_cases hl:i<items.length
 ·rw[List.drop_eq_getElem_cons hl] at h5
  refine thn (T.item Y rfl rfl rfl hc i pins s5 σ5 H5 _ I5 (stat fr5) st5 (i1 hl)) fun r s6 hq2=>?_
  obtain⟨u,hr,h6⟩:=hq2
  subst hr
  refine thn h6 fun _ s7 hq2=>?_
  obtain⟨x,H7,I7,r7,y7,st7,fr7⟩:=hq2
  obtain⟨x7,m7,r7'⟩:=i3 x H7 y7
  have I7':=I7.pinned (stat fr7) (T.obj _ _ st7)
  have h8:=hg _ s7 σ5 H7 x u (fun σ8 H8=>∃ δ8 M8,HExt Y.K H7 H8/\Slots Y.K H8 δ8 σ8/\RepM Y.K H8 M8/\b δ8 M8 fun δ2 M2=>keep M2/\loopD g b keep (items.drop (i+1)) δ2 M2 R) I7' r7
   ⟨items[i],δ5,M5,_,r7' _ (by simp[hl]),⟨rs5.ext x7,xeOk0⟩,m7,h5,fun δ8 M8 σ8 H8 x8 rs8 m8 h8=>⟨δ8,M8,x8,rs8.toSlots,m8,h8⟩⟩
  rw[hx] at h8
  refine thn h8 fun _ s8 hq2=>?_
  obtain⟨σ8,H8,I8,δ8,M8,x8,rs8,m8,h8⟩:=hq2
  refine mono _ _ _ _ ?_ (hb _ s8 σ8 H8 (fun σ9 H9=>∃ δ9 M9,HExt Y.K H8 H9/\Slots Y.K H9 δ9 σ9/\RepM Y.K H9 M9/\keep M9/\loopD g b keep (items.drop (i+1)) δ9 M9 R) I8 ⟨δ8,M8,_,⟨rs8,xeOk0⟩,m8,h8,fun δ9 M9 σ9 H9 x9 rs9 m9 h9=>⟨δ9,M9,x9,rs9.toSlots,m9,h9⟩⟩)
  rintro s9 ⟨σ9,H9,I9,δ9,M9,x9,rs9,m9,k9,h9⟩
  refine⟨items.length-(i+1),by omega,i+1,σ9,H9,δ9,M9,I9.unpinned,T.keep _ _ _ st7 fun b hbb o e=>(I9.pin (b,o) (List.mem_append_right _ (List.mem_append_right _ (mem_pinsAt hbb e)))).1,fun b hbb=>?_,rfl,hl,(((x5.trans x7).trans x8).trans x9),rs9,m9,k9,h9⟩
  obtain⟨o,e,d'⟩:=T.obj _ _ st7 b hbb
  exact (I9.pin (b,o) (List.mem_append_right _ (List.mem_append_right _ (mem_pinsAt hbb e)))).2.1
 ·have e:i=items.length:=by omega
  subst e
  rw[List.drop_length] at h5
  refine thn (T.done Y rfl rfl rfl hc _ pins s5 σ5 H5 _ I5 (stat fr5) st5 (i2 (Nat.le_refl _))) fun r s6 hq2=>?_
  obtain⟨hr,I6⟩:=hq2
  subst hr
  exact fin s6 σ5 H5 δ5 M5 I6 x5 rs5 m5 h5
theorem pb_emit {Y:Cx} {elt:Expr} {te:DE} {p:Addr} (hx:Y.xe=fun _ _=>False) (he:PE Y elt (lift (Y.L false X0) te)):PB Y (emitW elt (.ref p) Y.env) (bEmit te p):=by
 rintro pins s σ H Q I ⟨δ,M,R,rs,rm,h,q⟩
 have h8:=he pins s σ H (fun v H9=>∃ d M9,HExt Y.K H H9/\RepM Y.K H9 M9/\RelD Y.K H9 v d/\∃ acc,M9 p=some (.ls acc)/\acc.length<sizeLine/\R δ (M9.upd p (.ls (acc++[d])))) I
  ⟨δ,M,_,rs,rm,h,fun d M9 v H9 x9 m9 r9 h9=>⟨d,M9,x9,m9,r9,h9⟩⟩
 rw[hx] at h8
 refine thn h8 fun y s9 hq2=>?_
 obtain⟨v,H9,I9,r9,d,M9,x9,m9,rd9,acc,a9,z9,h9⟩:=hq2
 obtain⟨vs,ev,rv⟩:=m9 _ _ a9
 have xw:HExt Y.K H9 (upd H9 p (.lst (vs++[v]))):=.upd (.inr ⟨_,ev,trivial⟩)
 have h10:=mt_append pins s9 σ H9 (.ref p) [v] (.ref p) [y] (fun _ H10=>H10=upd H9 p (.lst (vs++[v]))) I9 rfl (.cons r9 .nil) ⟨_,vs,v,rfl,rfl,ev,by rw[rv.length];exact z9,rfl⟩
 rw[hx] at h10
 refine thn h10 fun _ s10 hq2=>?_
 obtain⟨_,H10,I10,_,e10⟩:=hq2
 subst e10
 exact⟨σ,_,I10,q _ _ _ _ (x9.trans xw) (rs.ext (x9.trans xw)) (m9.write ev (rv.append (.cons rd9 .nil))) h9⟩
section
variable {X:Cx} {rz:Bool} {Xe:DSt->DK} {N':List Str} {scope:Scope} {elt target iter:Expr} {ifs:List Expr} {rest:List Comprehension} {pos:Pos} {ti:DI} {g:DG} {b:Addr->DB}
theorem compB_gen (hc:X.calm=true) (B:BlkOk X.N X.env N' scope) (hi:PI X target iter (liftI (X.L rz Xe) ti))
  (W:Addr->Env->BW) (mono:∀ p env (A:Around) (Q Q':Shared->Prop) s,(∀ s',Q s'->Q' s')->W p env X.prog X.w A Q s->W p env X.prog X.w A Q' s)
  (hb:∀ cl C s H ex p,PG (blkCx X N' scope cl C s H ex []) target (liftG ((blkCx X N' scope cl C s H ex []).L false X0) g)/\PB (blkCx X N' scope cl C s H ex []) (W p (blkCx X N' scope cl C s H ex []).env) (b p))
  (ht:∀ it p env,TurnOf (.ListComp elt (⟨target,iter,ifs,0⟩::rest) scope pos) target 0 it (.ref p) env (W p env))
  (hs:∀ x,foldedSetIterable iter X.env x=pure x) {use:Option (Value->Sem Unit)} {Post:Value->Shared->Prop} {pins:List (Addr×Obj)} {s:Shared} {σ:L2.St} {H:Hp} {δ:DSt} {M:Mem} {R:DK}
  (I:L2.Inv X pins σ H s) (rs:RepS (X.L rz Xe) H δ σ) (rm:RepM X.K H M) (t:dCompB (N'.length-X.N.length) ti g b δ M R)
  (fin:∀ (p C:Addr) (s6:Shared) (H5:Hp) (M5:Mem),HExt X.K H H5->RepM X.K H5 M5->R (.lst p) M5->L2.Inv X pins σ H5 s6->FpOk X pins H5 C->(∃ m,s6.heap.Ns C m)->(∀ h',Heap.SameBut C s6.heap h'->L2.Inv X pins σ H5 {s6 with heap:=h'})->compPost (model X.prog X.w) X.A X.xe use Post (.ref p) C (.ok .next) s6) :
  wpAny (model X.prog X.w) X.A (comprehension (.ListComp elt (⟨target,iter,ifs,0⟩::rest) scope pos) scope X.env (firstIterPos (⟨target,iter,ifs,0⟩::rest) pos) (newList []) (firstAsync (⟨target,iter,ifs,0⟩::rest)) (firstIter (⟨target,iter,ifs,0⟩::rest) X.env) use) Post X.xe s:=by
 have hcells:∀ x∈scope.names,x.2=.free->∃ c,X.env.cells.lookup x.1=some c:=fun x hx e=>I.ok.has x.1 (B.free x hx e)
 refine wpAny_comprehension_free (use:=use) (cl:=clos X.env.cells scope.names []) rfl hs (closureFor_some hcells) B.kind B.names ?_
 refine thn (hi pins s σ H (fun J H1=>∃ items keep M1,HExt X.K H H1/\RepM X.K H1 M1/\keep M1/\ItD X.K H1 J items keep/\∀ p,M1 p=none->keep (M1.upd p (.ls []))/\loopD g (b p) keep items (δ++List.replicate (N'.length-X.N.length) none) (M1.upd p (.ls [])) fun _ M2=>(∃ ds,M2 p=some (.ls ds))/\R (.lst p) M2) I
  ⟨δ,M,_,rs,rm,t,fun items keep M1 J H1 x1 m1 k1 it h1=>⟨items,keep,M1,x1,m1,k1,it,h1⟩⟩) fun v s1 h1=>thn h1 fun itv s2 h2=>?_
 obtain⟨it,fp,tn,J,H2,e,I2,T,st2,f2,items,keep,M1,x1,m1,k1,itd,h2⟩:=h2
 subst e
 have hflt2:∀ b∈fp,b<s2.heap.objs.size:=fun b hb=>let ⟨o,e,_⟩:=T.obj _ _ st2 b hb;Heap.lt_size e
 have hp:H2 s2.heap.objs.size=none:=I2.hok.fresh (Nat.le_refl _)
 refine wpAny_newObj_type ?_
 have I3:=I2.lnew (ys:=[]) (its:=[]) (t':=s2.toks) .nil (Nat.zero_le _)
 have x3:HExt X.K H2 (upd H2 s2.heap.objs.size (.lst [])):=.upd (.inl hp)
 obtain⟨k3,h3⟩:=h2 _ (m1.none hp)
 have m3:=m1.lst (vs:=[]) (ds:=[]) hp .nil
 revert I3
 generalize hs3:(({s2 with heap:=s2.heap.push {cls:=.type "list",data:=.seq ([]:List Value).toArray},toks:=s2.toks}:Shared))=s3
 intro I3
 have hh3:s3.heap=s2.heap.push {cls:=.type "list",data:=.seq ([]:List Value).toArray}:=by rw[<- hs3]
 have sz3:s3.heap.objs.size=s2.heap.objs.size+1:=by rw[hh3,Heap.size_push]
 have st3:tn 0 s3.heap:=T.keep _ _ _ st2 fun b _ o e=>by rw[hh3];exact Heap.get?_push_of_some _ e
 have hflt3:∀ b∈fp,b<s3.heap.objs.size:=fun b hb=>by rw[sz3];exact Nat.lt_succ_of_lt (hflt2 b hb)
 have f3:∀ b∈fp,FpOk X pins (upd H2 s2.heap.objs.size (.lst [])) b:=fun b hb=>⟨by rw[upd_ne (Nat.ne_of_lt (hflt2 b hb))];exact (f2 b hb).1,(f2 b hb).2⟩
 have goal3:wpAny (model X.prog X.w) X.A (newFunctionEnv scope X.env.globals (clos X.env.cells scope.names []) [] X.env.qual none .none (some X.env)) (fun cenv s₄ =>
   codeAny (model X.prog X.w) X.A (.compStart (.ListComp elt (⟨target,iter,ifs,0⟩::rest) scope pos) 0 (.ref it) (.ref s2.heap.objs.size) {cenv with scope:=relabel scope X.env})
    (compPost (model X.prog X.w) X.A X.xe use Post (.ref s2.heap.objs.size) cenv.locals) s₄) X.xe s3:=by
  refine wpAny_newFunctionEnv B.cell (by intro y hy;simp at hy) (fun h₁ hns₁ hsb₁=>?_) B.kind
  have old:∀ b o,s3.heap.get? b=some o->h₁.get? b=some o:=fun b o e=>hsb₁.extBut b o (Nat.ne_of_lt (Heap.lt_size e)) (Heap.get?_push_of_some _ e)
  have I4:=blk_start (N':=N') (tk:=s3.toks+([]:List (Str×Value)).length) I3 B f3 hflt3 hns₁ old
  obtain⟨hg,hbb⟩:=hb (clos X.env.cells scope.names []) s3.heap.objs.size s3 (upd H2 s2.heap.objs.size (.lst [])) fp s2.heap.objs.size
  have st4:tn 0 h₁:=T.keep _ _ _ st3 fun b _ o e=>old b o e
  have stat:∀ {H':Hp},(∀ b∈fp,H' b=none)->∀ b∈fp,FpOk (blkCx X N' scope (clos X.env.cells scope.names []) s3.heap.objs.size s3 (upd H2 s2.heap.objs.size (.lst [])) fp []) [] H' b:=fun hn b hbb=>by
   obtain⟨g1,g2⟩:=I4.ok.exf b hbb
   exact⟨hn b hbb,g1,I4.ok.exfs b hbb,.inl hbb,g2,fun p hp=>absurd (show p∈([]:List (Addr×Obj)) from hp) (by simp)⟩
  have loop:codeAny (model X.prog X.w) X.A (.compLoop (.ListComp elt (⟨target,iter,ifs,0⟩::rest) scope pos) 0 (.ref it) (.ref s2.heap.objs.size) (compEnvC scope (clos X.env.cells scope.names []) s3.heap.objs.size X.env))
    (compPost (model X.prog X.w) X.A X.xe use Post (.ref s2.heap.objs.size) s3.heap.objs.size) {s3 with heap:=h₁,toks:=s3.toks+([]:List (Str×Value)).length}:=by
   refine loop_gen (Y:=blkCx X N' scope (clos X.env.cells scope.names []) s3.heap.objs.size s3 (upd H2 s2.heap.objs.size (.lst [])) fp []) (H0:=H2) hc rfl (ht _ _ _) (mono _ _) T itd hg hbb I4 (stat fun b hbb=>(f3 b hbb).1) st4 x3 ((rs.toSlots.ext (x1.trans x3)).more _) m3 k3 h3 ?_
   intro s6 σ5 H5 δ5 M5 I6 x5 rs5 m5 h5
   obtain⟨_,h5⟩:=h5
   obtain⟨mC,nC,_⟩:=I6.loc
   have key:∀ h',Heap.SameBut s3.heap.objs.size s6.heap h'->L2.Inv X pins σ H5 {s6 with heap:=h'}:=fun h' hsb=>by
    have ne:∀ b o,s3.heap.get? b=some o->b≠s3.heap.objs.size:=fun b o e=>Nat.ne_of_lt (Heap.lt_size e)
    have un:=I6.base
    have un':Un (frs X.stack) fp (upd H2 s2.heap.objs.size (.lst [])) H5 s3.heap h' :=
     ⟨fun b o e n1 n2 n3=>hsb.extBut b o (ne b o e) (un.keep b o e n1 n2 n3),fun b o e n1 n2 n3=>let ⟨sl,z⟩:=un.slot b o e n1 n2 n3;⟨sl,hsb.extBut _ _ (ne b o e) z⟩,un.free,fun b o e n1=>let ⟨o',z⟩:=un.there b o e n1;⟨o',hsb.extBut _ _ (ne b o e) z⟩,un.tups,un.frzs,un.tbls⟩
    have hok':HOk X.prog X.w H5 h':=fun b ob e=>by
     refine (I6.hok b ob e).stay (fun c w' hc' q'=>hsb.extBut _ _ ?_ q') (fun _ q=>q) fun _ _ q=>q
     rintro rfl
     rcases hc' with rfl|hc'
     ·rw[show H5 s3.heap.objs.size=none from I6.free] at e;cases e
     ·rw[show H5 s3.heap.objs.size=none from I6.free] at hc';cases hc'
    exact I3.call' (ch:=fp) (s':={s6 with heap:=h'}) I6.os un' hok' I6.bare fun b hbb=>⟨(f3 b hbb).2.2.2.1,(f3 b hbb).2.1,(f3 b hbb).2.2.2.2.1,(f3 b hbb).2.2.2.2.2⟩
   exact fin s2.heap.objs.size s3.heap.objs.size s6 H5 M5 ((x1.trans x3).trans x5) m5 h5 (key _ (.refl _ _)) (I3.fpOk (Nat.le_refl _) I6.free) ⟨mC,nC⟩ key
  exact codeAny_compStart_list loop (T.self X.A 0 _ _ _ st4 loop)
 subst hs3
 exact goal3
theorem de_compB (hc:X.calm=true) (B:BlkOk X.N X.env N' scope) (hi:PI X target iter (liftI (X.L rz Xe) ti))
  (W:Addr->Env->BW) (mono:∀ p env (A:Around) (Q Q':Shared->Prop) s,(∀ s',Q s'->Q' s')->W p env X.prog X.w A Q s->W p env X.prog X.w A Q' s)
  (hb:∀ cl C s H ex p,PG (blkCx X N' scope cl C s H ex []) target (liftG ((blkCx X N' scope cl C s H ex []).L false X0) g)/\PB (blkCx X N' scope cl C s H ex []) (W p (blkCx X N' scope cl C s H ex []).env) (b p))
  (ht:∀ it p env,TurnOf (.ListComp elt (⟨target,iter,ifs,0⟩::rest) scope pos) target 0 it (.ref p) env (W p env))
  (hs:∀ x,foldedSetIterable iter X.env x=pure x):PE X (.ListComp elt (⟨target,iter,ifs,0⟩::rest) scope pos) (lift (X.L rz Xe) (dCompB (N'.length-X.N.length) ti g b)):=by
 rintro pins s σ H Q I ⟨δ,M,R,rs,rm,t,q⟩
 rw[eval_ListComp]
 exact compB_gen hc B hi W mono hb ht hs (use:=none) I rs rm t (by rintro p C s6 H5 M5 x m r _ _ ⟨mC,nC⟩ key;exact⟨mC,nC,fun h' hsb=>⟨.ref p,H5,key h' hsb,rfl,q _ _ _ _ x m (.lst _) r⟩⟩)
theorem up_pi (hi:PI X target iter (liftI (X.L rz Xe) ti)):PI X target iter (liftI (X.L rz Xe) (iUp ti)):=by
 intro pins s σ H R I h
 obtain⟨δ,M,Rd,rs,rm,⟨R0,t,q0⟩,q⟩:=h
 exact hi pins s σ H R I ⟨δ,M,R0,rs,rm,t,fun items keep M' J H' x m k it h=>q items keep M' J H' x m k it (q0 _ _ _ h)⟩
theorem up_pg {Y:Cx} (hg:PG Y target (liftG (Y.L false X0) g)):PG Y target (liftG (Y.L false X0) (gUp g)):=by
 intro pins s σ H v u Q I r h
 obtain⟨d,δ,M,R,rd,rs,rm,⟨R0,t,q0⟩,q⟩:=h
 exact hg pins s σ H v u Q I r ⟨d,δ,M,R0,rd,rs,rm,t,fun δ' M' σ' H' x s' m h=>q δ' M' σ' H' x s' m (q0 _ _ h)⟩
theorem up_pe {Y:Cx} {te:DE} (he:PE Y elt (lift (Y.L false X0) te)):PE Y elt (lift (Y.L false X0) (eUp te)):=by
 intro pins s σ H Q I h
 obtain⟨δ,M,R,rs,rm,⟨R0,t,q0⟩,q⟩:=h
 exact he pins s σ H Q I ⟨δ,M,R0,rs,rm,t,fun d M' v H' x m r h=>q d M' v H' x m r (q0 _ _ h)⟩
theorem de_comp {te:DE} (hc:X.calm=true) (B:BlkOk X.N X.env N' scope) (hi:PI X target iter (liftI (X.L rz Xe) ti))
  (hb:∀ cl C s H ex,PG (blkCx X N' scope cl C s H ex []) target (liftG ((blkCx X N' scope cl C s H ex []).L false X0) g)/\PE (blkCx X N' scope cl C s H ex []) elt (lift ((blkCx X N' scope cl C s H ex []).L false X0) te))
  (hs:∀ x,foldedSetIterable iter X.env x=pure x):PE X (.ListComp elt [⟨target,iter,[],0⟩] scope pos) (lift (X.L rz Xe) (dComp (N'.length-X.N.length) ti g te)) :=
 (de_compB hc B (up_pi hi) (fun p env=>emitW elt (.ref p) env) (fun _ _=>emitW_mono) (fun cl C s H ex p=>⟨up_pg (hb cl C s H ex).1,pb_emit rfl (up_pe (hb cl C s H ex).2)⟩) (fun _ _ _=>turn_one) hs).imp
  fun σ H Q h=>by obtain⟨δ,M,R,rs,rm,t,q⟩:=h;exact⟨δ,M,R,rs,rm,dComp_up t,q⟩
theorem ds_setB {ti:(DSt->DK)->DI} {i:Nat} {x:Str} {pos' pos2:Pos} (hc:X.calm=true) (B:BlkOk X.N X.env N' scope) (hit:∀ Xe,PI X target iter (liftI (X.L rz Xe) (ti Xe)))
  (W:Addr->Env->BW) (mono:∀ p env (A:Around) (Q Q':Shared->Prop) s,(∀ s',Q s'->Q' s')->W p env X.prog X.w A Q s->W p env X.prog X.w A Q' s)
  (hb:∀ cl C s H ex p,PG (blkCx X N' scope cl C s H ex []) target (liftG ((blkCx X N' scope cl C s H ex []).L false X0) g)/\PB (blkCx X N' scope cl C s H ex []) (W p (blkCx X N' scope cl C s H ex []).env) (b p))
  (ht:∀ it p env,TurnOf (.ListComp elt (⟨target,iter,ifs,0⟩::rest) scope pos) target 0 it (.ref p) env (W p env))
  (hs:∀ x,foldedSetIterable iter X.env x=pure x) (hsw:swapsWith (.ListComp elt (⟨target,iter,ifs,0⟩::rest) scope pos) (some (.Name x pos')) pos2.line X.env=pure true)
  (hN:X.N.Nodup) (hi:X.N[i]?=some x) (hx:Loc X.env.scope x) (hf:X.fn x=true\/X.env.scope.names.lookup x=some .local) :
  PS X (.Assign [.Name x pos'] (.ListComp elt (⟨target,iter,ifs,0⟩::rest) scope pos) pos2) (liftS X rz (dAsg (fun Xe=>dCompB (N'.length-X.N.length) (ti Xe) g b) fun _=>gdName i)):=by
 rintro pins s σ H E I ⟨δ,M,D,rs,rm,t,n,r,b,c⟩
 rw[exec_Assign_Name_used _ _ _ _ hsw,arm_evalThenUse_ListComp]
 refine wpAny_bind (wpAny_standAt ?_)
 refine wpAny_bind (wpAny_bind (compB_gen hc B (hit D.ex) W mono hb ht hs (R:=fun d M1=>D.nx (δ.set i (some d)) M1) I rs rm t fun p C s6 H5 M5 x m r I5 fpc hq10 key=>?_))
 obtain⟨mC,nC⟩:=hq10
 obtain⟨o,es,ep,ho,hd,hsk,hmm⟩:=id nC
 have I5':=I5.pinned (fp:=[C]) (fun b hb=>by simp at hb;subst hb;exact fpc) (fun b hb=>by simp at hb;subst hb;exact⟨o,ho,fun v z=>by rw[hd] at z;cases z⟩)
 refine wpAny_assign_Name (store_ok I5' hN hi hx (v:=.ref p) rfl (fun s7 I7=>?_) hf)
 have hp7:(C,o)∈pinsAt [C] s6.heap:=mem_pinsAt (by simp) ho
 have h7:=(I7.pin (C,o) (List.mem_append_right _ (List.mem_append_right _ hp7))).1
 refine⟨mC,⟨o,es,ep,h7,hd,hsk,hmm⟩,fun h' hsb=>?_⟩
 have I8:=(I7.unpinned (pins:=pins)).turned (it:=C) (h':=h') (t':=s7.toks) (fun b o hb e=>(hsb.2 b hb).trans e) fpc.1 fpc.2.1 fpc.2.2.2.1 fpc.2.2.2.2.1 fpc.2.2.2.2.2
 exact wpAny_pure (wpAny_pure ⟨_,H5,I8,n _ _ _ _ x ((rs.ext x).set (.lst _) i) m r⟩)
theorem ds_setc {te:DE} {ti:(DSt->DK)->DI} {i:Nat} {x:Str} {pos' pos2:Pos} (hc:X.calm=true) (B:BlkOk X.N X.env N' scope) (hit:∀ Xe,PI X target iter (liftI (X.L rz Xe) (ti Xe)))
  (hb:∀ cl C s H ex,PG (blkCx X N' scope cl C s H ex []) target (liftG ((blkCx X N' scope cl C s H ex []).L false X0) g)/\PE (blkCx X N' scope cl C s H ex []) elt (lift ((blkCx X N' scope cl C s H ex []).L false X0) te))
  (hs:∀ x,foldedSetIterable iter X.env x=pure x) (hsw:swapsWith (.ListComp elt [⟨target,iter,[],0⟩] scope pos) (some (.Name x pos')) pos2.line X.env=pure true)
  (hN:X.N.Nodup) (hi:X.N[i]?=some x) (hx:Loc X.env.scope x) (hf:X.fn x=true\/X.env.scope.names.lookup x=some .local) :
  PS X (.Assign [.Name x pos'] (.ListComp elt [⟨target,iter,[],0⟩] scope pos) pos2) (liftS X rz (dAsg (fun Xe=>dComp (N'.length-X.N.length) (ti Xe) g te) fun _=>gdName i)):=by
 rintro pins s σ H E I ⟨δ,M,D,rs,rm,t,n,r,b,c⟩
 exact ds_setB hc B (fun Xe=>up_pi (hit Xe)) (fun p env=>emitW elt (.ref p) env) (fun _ _=>emitW_mono) (fun cl C s H ex p=>⟨up_pg (hb cl C s H ex).1,pb_emit rfl (up_pe (hb cl C s H ex).2)⟩) (fun _ _ _=>turn_one) hs hsw hN hi hx hf pins s σ H E I ⟨δ,M,D,rs,rm,dComp_up (show dComp (N'.length-X.N.length) (ti D.ex) g te δ M (fun d M1=>D.nx (δ.set i (some d)) M1) from t),n,r,b,c⟩
end
end DL
end
noncomputable section
namespace DL
open PySem PySem.Spec PyProof.Rows L2
noncomputable def fSum:List D->Mem->DK->Prop
 | [.lst a],M,Q=>∃ bs:List Bool,M a=some (.ls (bs.map .bl))/\Q (.int (bs.count true)) M
 | _,_,_=>False
theorem preSum_bools (bs:List Bool):∀ n,n<=bs.length->preSum (fun i=>if (bs[i]?).getD false=true then 1 else 0) n=((bs.take n).count true:Nat):=by
 intro n
 induction n with
 | zero=>intro _;rfl
 | succ n ih =>
  intro h
  show preSum _ n+_=_
  have hn:n<bs.length:=by omega
  rw[ih (by omega),List.take_succ_eq_append_getElem hn,List.count_append]
  simp only[List.getElem?_eq_getElem hn,Option.getD_some]
  cases bs[n]<;>simp
theorem fSum_inv {ds:List D} {M:Mem} {Q:DK} (h:fSum ds M Q):∃ a bs,ds=[.lst a]/\M a=some (.ls ((bs:List Bool).map .bl))/\Q (.int (bs.count true)) M:=by
 unfold fSum at h
 split at h
 ·obtain⟨bs,h1,h2⟩:=h;exact⟨_,bs,rfl,h1,h2⟩
 ·exact h.elim
section
variable {X:Cx}
theorem ca_sum (hc:X.calm=true):CallR X (.builtin "sum") (liftC X.K fSum):=by
 rintro pins s σ H xs us Q I rv ⟨ds,M,R,r,rm,h,q⟩
 obtain⟨a,bs,rfl,e0,h⟩:=fSum_inv h
 obtain⟨v,rfl,ra⟩:=r.one;cases ra
 obtain⟨u,rfl,ru⟩:=vals1 rv
 cases (show u=Value.ref a from ru)
 obtain⟨vs,e1,r1⟩:=rm _ _ e0
 obtain⟨its,r2,pl,_⟩:=I.list (.of e1)
 have hb:=bools_are r1 r2
 have hl:=pl.isList
 have hlt:a<s.heap.objs.size:=by obtain⟨_,e,_⟩:=hl;exact Heap.lt_size e
 have W:=(Walks.list (prog:=X.prog) (w:=X.w) (A:=X.A.in1) (I.ok.hd hc) s.heap.objs.size a (Nat.ne_of_lt hlt) its.toArray).toS
 refine call_sum_walkAnyB (wpAny_pyIter_list hl ?_)
 refine⟨s.heap.objs.size,_,_,_,_,_,_,fun i=>if (bs[i]?).getD false=true then 1 else 0,rfl,W,⟨⟨_,Heap.get?_push_size _ rfl,rfl,rfl⟩,hl.push _⟩,fun b hb=>?_,fun i v hP=>?_,fun s' t' hm=>?_⟩
 ·rcases List.mem_cons.mp hb with rfl|hb
  ·exact Heap.lt_size (Heap.get?_push_size _ rfl)
  ·obtain rfl:=List.mem_singleton.mp hb
   obtain⟨o,e,_⟩:=hl
   exact Heap.lt_size (Heap.get?_push_of_some _ e)
 ·obtain⟨b,e,rfl⟩:=hb.get i v (by simpa using hP)
  refine .inr ⟨b,rfl,?_⟩
  simp only[e,Option.getD_some]
 ·obtain⟨h',g',d',tk',os'⟩:=s'
  have e1:g'=s.gens:=hm.gens
  have e2:d'=s.drawn:=hm.drawn
  have e3:os'=s.os:=hm.os
  subst e1 e2 e3
  have e:preSum (fun i=>if (bs[i]?).getD false=true then 1 else 0) its.toArray.size=(bs.count true:Nat):=by
   rw[List.size_toArray,hb.length,preSum_bools bs _ (Nat.le_refl _),List.take_length]
  refine⟨.int _,H,I.kept (t':=tk') fun b o e=>hm.heap b o (fun hb=>absurd (Heap.lt_size e) ((List.mem_singleton.mp hb) ▸ Nat.lt_irrefl _)) (Heap.get?_push_of_some _ e),⟨_,rfl⟩,?_⟩
  rw[e]
  exact q _ _ _ _ (.refl H) rm (.int _) h
noncomputable def IxAt (M:Mem) (xs:List D) (d:D) (j:Nat):Prop:=∃ ps p,Pys M xs ps/\Py M d p/\p.depth<=60/\xs.length<1000/\j<ps.length/\ps.findIdx (fun q=>PyData.eqv q p)=j
noncomputable def rIndex (K:PySem.W.Frag):V->List V->Hp->VK->Prop:=fun x vs H Q=>∃ l y M ds d j,x=.ref l/\vs=[y]/\RepM K H M/\M l=some (.ls ds)/\RelD K H y d/\IxAt M ds d j/\Q (.int j) H
theorem pys_find {h:Heap} {p:PyData} {us:List Value} {ps:List PyData} {as:List Addr} (r:ReadsAll h us ps as):PyData.canLayAll0 ps=true->us.length=ps.length/\us.findIdx (eqTo h p)=ps.findIdx fun q=>PyData.eqv q p:=by
 induction r using ReadsAll.rec (motive_1:=fun _ _ _ _=>True) with
 | nil=>exact fun _=>⟨rfl,rfl⟩
 | cons r rr _ ih =>
  intro c
  obtain⟨c1,c2⟩:=and12 (show (_&&_)=true from c)
  rw[List.findIdx_cons,List.findIdx_cons,eqTo_of r c1,(ih c2).2,List.length_cons,List.length_cons,(ih c2).1]
  exact⟨rfl,rfl⟩
 | _=>trivial
theorem mt_index (hu:X.A.units+66<cLine):MtM X "list.index" (rIndex X.K):=by
 intro pins s σ H x vs v us Q I rx rv h
 obtain⟨l,y,M,ds,d,j,rfl,rfl,rm,e0,rd,⟨ps,p,p1,p2,hd,hz,hj,hf⟩,q⟩:=h
 cases rx
 obtain⟨u,rfl,ru⟩:=rv.one
 obtain⟨vs,hH,rr⟩:=rm _ _ e0
 obtain⟨z,its,n,r,hl,e⟩:=I.lstM hH
 obtain⟨as,a1,a2⟩:=p1.reads I rm rr r
 obtain⟨bs,b1,b2⟩:=p2.reads I rm rd ru
 obtain⟨f1,f2⟩:=pys_find (p:=p) a1 a2
 have hj':its.findIdx (eqTo s.heap p)<its.length:=by rw[f2,f1,hf];exact hj
 have l1:=r.length
 have l2:=rr.length
 rw[<- hf,<- f2] at q
 refine call_meets F.slot_list_index ⟨_,e,rfl⟩ F.entry_list_index (F.args_list_index_2 _ _)
  (SeqAt.list_indexAt l its.toArray n _ _ u (eqTo s.heap p) (its.findIdx (eqTo s.heap p)) (by simpa using hj') (by omega) ?_ ?_) ⟨e,?_,?_⟩
 ·simp only[List.getElem_toArray]
  exact List.findIdx_getElem (w:=hj')
 ·intro m hm hlt
  simp only[List.getElem_toArray]
  simpa using List.not_of_lt_findIdx hlt
 ·intro y hy
  exact eqTo_at (A:=X.A.in1) (by show X.A.units+1+64<cLine;omega) a1 a2 b1 b2 hd y (by simpa using hy)
 ·exact⟨.int _,H,I.tok _,⟨_,rfl⟩,q⟩
end
section
variable {X:Cx}
end
section
variable {X:Cx}
end
end DL
end
noncomputable section
namespace DL
open PySem PySem.Spec PyProof.Rows L2
noncomputable def insAt {α:Type} (xs:List α) (k:Int) (y:α):List α:=xs.take k.toNat++y::xs.drop k.toNat
section
variable {X:Cx}
end
end DL
end
noncomputable section
namespace DL
open PySem PySem.Spec PyProof.Rows L2
noncomputable abbrev zh1 (h:Heap) (b:Addr):Heap:=h.push {cls:=.type "tuple_iterator",data:=.fields #[.ref b,.int 0 0]}
noncomputable abbrev zh2 (h:Heap) (b c:Addr):Heap:=(zh1 h b).push {cls:=.type "tuple_iterator",data:=.fields #[.ref c,.int 0 0]}
noncomputable abbrev zh3 (h:Heap) (b c:Addr):Heap:=(zh2 h b c).push {cls:=.type "tuple",data:=.seq #[.ref h.objs.size,.ref (zh1 h b).objs.size]}
noncomputable abbrev zh4 (h:Heap) (b c:Addr):Heap:=(zh3 h b c).push {cls:=.type "tuple",data:=.seq #[.none,.none]}
noncomputable abbrev zh5 (h:Heap) (b c:Addr):Heap:=(zh4 h b c).push {cls:=.type "zip",data:=.fields #[.none,.bool false,.bool false,.ref (zh2 h b c).objs.size,.ref (zh3 h b c).objs.size]}
theorem meets_zt (b c:Addr) (xs ys:Array Value) :
  Meets (Builtin.«zip.__new__» ⟨[.type "zip",.ref b,.ref c],[]⟩) (fun _ R s=>s.heap.IsTuple b xs/\s.heap.IsTuple c ys/\R (.ok (.ret (.ref (zh4 s.heap b c).objs.size))) {s with heap:=zh5 s.heap b c}) :=
 .of_wp fun prog w A R s h=>by
  obtain⟨hp,g,d,tk,os⟩:=s;obtain⟨h1,h2,h⟩:=h
  have hsub:=sub_zip
  have t1:Heap.IsTuple (Shared.heap ⟨hp,g,d,tk,os⟩) b xs:=h1
  have t2:Heap.IsTuple (Shared.heap ⟨hp.push {cls:=.type "tuple_iterator",data:=.fields #[.ref b,.int 0 0]},g,d,tk,os⟩) c ys:=by
   obtain⟨o,e,r⟩:=h2
   exact⟨o,Heap.get?_push_of_some _ e,r⟩
  wp_walk using wpAny_pyIter_tuple t1,wpAny_pyIter_tuple t2
  exact⟨_,rfl,h⟩
section
variable {prog:Program} {w:World} {A:Around} {E:Value->Shared->Prop} {s:Shared}
theorem call_zt {b c:Addr} {xs ys:Array Value} {Q:Value->Shared->Prop} (hb:s.heap.IsTuple b xs) (hc:s.heap.IsTuple c ys)
  (q:∀ g,zTn (s.heap.objs.size+4) (s.heap.objs.size+2) (s.heap.objs.size+3) s.heap.objs.size (s.heap.objs.size+1) b c 0 g->(∀ k o,s.heap.get? k=some o->g.get? k=some o)->Q (.ref (s.heap.objs.size+4)) {s with heap:=g}) :
  wpAny (model prog w) A (call (.type "zip") [.ref b,.ref c]) Q E s:=by
 refine callType_new F.called_zip (by decide) (F.typeCall_zip_2 _ _) (F.newCall_zip_2 _ _) (fun obj=>F.args_object_init_3 obj _ _) F.entry_zip_new (meets_zt b c xs ys) ⟨hb,hc,?_⟩
 have z1:(zh1 s.heap b).objs.size=s.heap.objs.size+1:=Heap.size_push ..
 have z2:(zh2 s.heap b c).objs.size=s.heap.objs.size+2:=by rw[Heap.size_push,z1]
 have z3:(zh3 s.heap b c).objs.size=s.heap.objs.size+3:=by rw[Heap.size_push,z2]
 have z4:(zh4 s.heap b c).objs.size=s.heap.objs.size+4:=by rw[Heap.size_push,z3]
 have g5:(zh5 s.heap b c).get? (zh4 s.heap b c).objs.size=some _:=Heap.get?_push_size _ rfl
 have g4:(zh5 s.heap b c).get? (zh3 s.heap b c).objs.size=some _:=Heap.get?_push_of_some _ (Heap.get?_push_size _ rfl)
 have g3:(zh5 s.heap b c).get? (zh2 s.heap b c).objs.size=some _:=Heap.get?_push_of_some _ (Heap.get?_push_of_some _ (Heap.get?_push_size _ rfl))
 have g2:(zh5 s.heap b c).get? (zh1 s.heap b).objs.size=some _:=Heap.get?_push_of_some _ (Heap.get?_push_of_some _ (Heap.get?_push_of_some _ (Heap.get?_push_size _ rfl)))
 have g1:(zh5 s.heap b c).get? s.heap.objs.size=some _:=Heap.get?_push_of_some _ (Heap.get?_push_of_some _ (Heap.get?_push_of_some _ (Heap.get?_push_of_some _ (Heap.get?_push_size _ rfl))))
 show _/\_
 rw[z2,z3,z4] at g5
 rw[z1,z2] at g3
 rw[z3] at g4
 rw[z1] at g2
 rw[z4]
 exact⟨⟨_,g5,rfl⟩,q _ ⟨g5,g3,⟨_,_,g4⟩,⟨_,g1,rfl,rfl⟩,⟨_,g2,rfl,rfl⟩⟩ fun k o x=>Heap.get?_push_of_some _ (Heap.get?_push_of_some _ (Heap.get?_push_of_some _ (Heap.get?_push_of_some _ (Heap.get?_push_of_some _ x))))⟩
end
noncomputable def ItzL (K:PySem.W.Frag) (b c:Addr):It :=
  ⟨fun i H=>∃ xs ys x y,SqL K H b xs/\SqL K H c ys/\xs[i]?=some x/\ys[i]?=some y,
   fun i H x H'=>∃ T p q,H T=none/\x=.ref T/\H'=upd H T (.tup [p,q])/\(∀ xs,SqL K H b xs->xs[i]?=some p)/\∀ ys,SqL K H c ys->ys[i]?=some q,
   fun i H=>∃ xs ys,SqL K H b xs/\SqL K H c ys/\(xs.length<=i\/ys.length<=i)⟩
noncomputable def zTnL (z u v i j b c:Addr) (n:Nat) (h:Heap):Prop:=IsZip h z u v .none/\IsPair h u (.ref i) (.ref j)/\(∃ a d,IsPair h v a d)/\h.IsListIter i b n/\h.IsListIter j c n
theorem turn_zipL {P:Program} {w:World} {K:PySem.W.Frag} {elts:List Expr} {x1:Nat} {pos:Pos} {z u v i j b c:Addr} (D:ZipApart z u v i j b c) :
  Turn P w K (.Tuple elts x1 pos) (ItzL K b c) [z,u,v,i,j] z (zTnL z u v i j b c) where
 mem:=by simp
 obj:=fun n h st k hk=>by
  obtain⟨hz,hu,⟨a,d,hv⟩,⟨o1,e1,_,d1⟩,⟨o2,e2,_,d2⟩⟩:=st
  simp only[List.mem_cons,List.not_mem_nil,or_false] at hk
  rcases hk with rfl|rfl|rfl|rfl|rfl
  ·exact⟨_,hz,fun w e=>nomatch e⟩
  ·exact⟨_,hu,fun w e=>nomatch e⟩
  ·exact⟨_,hv,fun w e=>nomatch e⟩
  ·exact⟨_,e1,fun w e=>by rw[d1] at e;cases e⟩
  ·exact⟨_,e2,fun w e=>by rw[d2] at e;cases e⟩
 keep:=fun n h h' st k=>by
  obtain⟨hz,hu,⟨a,d,hv⟩,h1,h2⟩:=st
  exact⟨k z (by simp) _ hz,k u (by simp) _ hu,⟨a,d,k v (by simp) _ hv⟩,h1.at fun o e=>k i (by simp) o e,h2.at fun o e=>k j (by simp) o e⟩
 item:=by
  intro X hP hw hK hc n pins s σ H E I hf st hg
  subst hP hw hK
  obtain⟨hz,hu,⟨a,d,hv⟩,h1,h2⟩:=st
  obtain⟨xs,ys,x,y,q1,q2,hx,hy⟩:=hg
  obtain⟨its,rv,p,sz1⟩:=I.list q1
  obtain⟨its',rv',p',sz2⟩:=I.list q2
  obtain⟨vx,hvx,rx⟩:=rv.get hx
  obtain⟨vy,hvy,ry⟩:=rv'.get hy
  refine wpAny_pyNext_zip_item D hz hu hv h1 h2 p.isList p'.isList (x:=vx) (y:=vy) (by simpa using hvx) (by simpa using hvy) fun g a1 a2 a3 a4 a5 a6 a7=>?_
  have lt:∀ {k o},s.heap.get? k=some o->k≠s.heap.objs.size:=fun e=>Nat.ne_of_lt (Heap.lt_size e)
  have li:i≠s.heap.objs.size:=by obtain⟨o,e,_⟩:=h1;exact lt e
  have lj:j≠s.heap.objs.size:=by obtain⟨o,e,_⟩:=h2;exact lt e
  refine⟨_,rfl,wpAny_letOwnedTupleGo_zip a1 fun g' z' sb=>?_⟩
  have tp:IsPair g' s.heap.objs.size vx vy:=sb.extBut _ _ (Ne.symm (lt hz)) a5
  have nf:H s.heap.objs.size=none:=I.hok.fresh (Nat.le_refl _)
  have I1:Inv X pins σ (upd H s.heap.objs.size (.tup [x,y])) {s with heap:=s.heap.push {cls:=.type "tuple",data:=.seq #[vx,vy]},toks:=s.toks} :=
   I.laid (fun k o e=>Heap.get?_push_of_some _ e) (Nat.le_refl _) ⟨by simp only[List.length_cons,List.length_nil];rw[sizeLine_eq];decide,[vx,vy],.cons rx (.cons ry .nil),⟨_,Heap.get?_push_size _ rfl,rfl,_,rfl⟩⟩
  have ff:∀ k∈[z,u,v,i,j],k≠s.heap.objs.size:=fun k hk=>by
   simp only[List.mem_cons,List.not_mem_nil,or_false] at hk
   rcases hk with rfl|rfl|rfl|rfl|rfl
   ·exact lt hz
   ·exact lt hu
   ·exact lt hv
   ·exact li
   ·exact lj
  have f':∀ k∈[z,u,v,i,j],FpOk X pins (upd H s.heap.objs.size (.tup [x,y])) k:=fun k hk=>⟨by rw[upd_ne (ff k hk)];exact (hf k hk).1,(hf k hk).2⟩
  have I2:Inv X pins σ (upd H s.heap.objs.size (.tup [x,y])) {s with heap:=g',toks:=s.toks}:=by
   refine turnedL (s:={s with heap:=s.heap.push {cls:=.type "tuple",data:=.seq #[vx,vy]},toks:=s.toks}) (h':=g') (t':=s.toks) I1 (fun k o hk e=>?_) f'
   rcases Heap.get?_push_cases e with ⟨rfl,rfl⟩|e'
   ·exact tp
   ·simp only[List.mem_cons,List.not_mem_nil,or_false,not_or] at hk
    exact sb.extBut _ _ hk.1 (a7 k o hk.1 hk.2.2.1 hk.2.2.2.1 hk.2.2.2.2 e')
  refine⟨.ref s.heap.objs.size,_,I2,rfl,⟨_,x,y,nf,rfl,rfl,fun xs' q=>by rw[I.list_inj q q1];exact hx,fun ys' q=>by rw[I.list_inj q q2];exact hy⟩,?_,fun k hk=>(f' k hk).1⟩
  exact⟨z',sb.extBut _ _ D.TIz (a7 _ _ D.TIz D.TITO D.TIi1 D.TIi2 hu),⟨_,_,sb.extBut _ _ D.TOz a2⟩,a3.extBut sb.extBut D.i1z,a4.extBut sb.extBut D.i2z⟩
 done:=by
  intro X hP hw hK hc n pins s σ H E I hf st hg
  subst hP hw hK
  obtain⟨hz,hu,⟨a,d,hv⟩,h1,h2⟩:=st
  obtain⟨xs,ys,q1,q2,hx⟩:=hg
  obtain⟨its,rv,p,sz1⟩:=I.list q1
  obtain⟨its',rv',p',sz2⟩:=I.list q2
  have l1:=rv.length
  have l2:=rv'.length
  refine wpAny_pyNext_zip_end (I.ok.hd hc) D hz hu hv h1 h2 p.isList p'.isList (by rcases hx with hx|hx;exact .inl (by simp;omega);exact .inr (by simp;omega)) fun g k=>⟨rfl,turnedL (h':=g) (t':=s.toks) I (fun m o hm e=>?_) hf⟩
  simp only[List.mem_cons,List.not_mem_nil,or_false,not_or] at hm
  exact k m o hm.1 hm.2.2.1 hm.2.2.2.1 hm.2.2.2.2 e
 self:=fun _ _ _ _ _ st h=>wpAny_pyIter_zip st.1 h
noncomputable def zipD (xs ys:List D):List D:=List.zipWith (fun x y=>.tup [x,y]) xs ys
noncomputable def itZip:List D->Mem->(List D->(Mem->Prop)->Mem->Prop)->Prop
 | [.tup xs,.tup ys],M,R=>R (zipD xs ys) (fun _=>True) M
 | [.lst a,.lst b],M,R=>∃ xs ys,M a=some (.ls xs)/\M b=some (.ls ys)/\R (zipD xs ys) (fun M'=>M' a=some (.ls xs)/\M' b=some (.ls ys)) M
 | _,_,_=>False
noncomputable def diZip (ta:DA):DI:=fun δ M R=>ta δ M fun ds M1=>itZip ds M1 R
theorem itd_zip {K:PySem.W.Frag} {H0:Hp} {a b:Addr} {vs ws:List V} {xs ys:List D} (ha:SqT K H0 a vs) (hb:SqT K H0 b ws) (r:RelDs K H0 vs xs) (q:RelDs K H0 ws ys):ItD K H0 (Itz K a b) (zipD xs ys) (fun _=>True):=fun i H M x m k=>by
 have ha':=x.tup _ _ ha
 have hb':=x.tup _ _ hb
 have r':=r.ext x
 have q':=q.ext x
 have l1:=r.length
 have l2:=q.length
 refine⟨fun hl=>?_,fun hl=>?_,fun y H' hy=>?_⟩
 ·simp only[zipD,List.length_zipWith] at hl
  exact⟨vs,ws,vs[i]'(by omega),ws[i]'(by omega),ha',hb',List.getElem?_eq_getElem _,List.getElem?_eq_getElem _⟩
 ·simp only[zipD,List.length_zipWith] at hl
  exact⟨vs,ws,ha',hb',by omega⟩
 ·obtain⟨T,p,p',hn,rfl,rfl,e1,e2⟩:=hy
  have ex:HExt K H (L2.upd H T (.tup [p,p'])):=HExt.upd (.inl hn)
  refine⟨ex,m.tup hn,fun d hd=>?_⟩
  simp only[zipD,List.getElem?_zipWith] at hd
  have f1:=e1 _ ha'
  have f2:=e2 _ hb'
  cases h1:xs[i]? with
  | none=>rw [h1] at hd;simp at hd
  | some dx =>
   cases h2:ys[i]? with
   | none=>rw [h1,h2] at hd;simp at hd
   | some dy =>
    rw[h1,h2] at hd
    simp at hd
    subst hd
    obtain⟨v1,g1,g2⟩:=r'.get h1
    obtain⟨v2,g3,g4⟩:=q'.get h2
    rw[f1] at g1;cases g1
    rw[f2] at g3;cases g3
    exact .tup (.inl (.of L2.upd_same)) (.cons (g2.ext ex) (.cons (g4.ext ex) .nil))
theorem itd_zipL {K:PySem.W.Frag} {H0:Hp} {a b:Addr} {xs ys:List D}:ItD K H0 (ItzL K a b) (zipD xs ys) (fun M'=>M' a=some (.ls xs)/\M' b=some (.ls ys)):=fun i H M x m k=>by
 obtain⟨vs,ev,r'⟩:=m _ _ k.1
 obtain⟨ws,ew,q'⟩:=m _ _ k.2
 have l1:=r'.length
 have l2:=q'.length
 refine⟨fun hl=>?_,fun hl=>?_,fun y H' hy=>?_⟩
 ·simp only[zipD,List.length_zipWith] at hl
  exact⟨vs,ws,vs[i]'(by omega),ws[i]'(by omega),.of ev,.of ew,List.getElem?_eq_getElem _,List.getElem?_eq_getElem _⟩
 ·simp only[zipD,List.length_zipWith] at hl
  exact⟨vs,ws,.of ev,.of ew,by omega⟩
 ·obtain⟨T,p,p',hn,rfl,rfl,e1,e2⟩:=hy
  have ex:HExt K H (L2.upd H T (.tup [p,p'])):=HExt.upd (.inl hn)
  refine⟨ex,m.tup hn,fun d hd=>?_⟩
  simp only[zipD,List.getElem?_zipWith] at hd
  have f1:=e1 _ (.of ev)
  have f2:=e2 _ (.of ew)
  cases h1:xs[i]? with
  | none=>rw [h1] at hd;simp at hd
  | some dx =>
   cases h2:ys[i]? with
   | none=>rw [h1,h2] at hd;simp at hd
   | some dy =>
    rw[h1,h2] at hd
    simp at hd
    subst hd
    obtain⟨v1,g1,g2⟩:=r'.get h1
    obtain⟨v2,g3,g4⟩:=q'.get h2
    rw[f1] at g1;cases g1
    rw[f2] at g3;cases g3
    exact .tup (.inl (.of L2.upd_same)) (.cons (g2.ext ex) (.cons (g4.ext ex) .nil))
section
variable {X:Cx} {rz:Bool} {Xe:DSt->DK} {pos:Pos}
theorem di_zip {a:Expr} {es:List Expr} {ta:DA} {p:Pos} {elts:List Expr} {x1:Nat} {tp:Pos} (hg:Gl X "zip") (hm:X.mg "zip"=none) (ha:PA X (a::es) (liftA (X.L rz Xe) ta)) (hs:starEach (a::es) X.env=(false,eval a X.env)::starEach es X.env) (hpl:(backTo pos (starEach es X.env)).any (·.1)=false) :
  PI X (.Tuple elts x1 tp) (.Call (.Name "zip" p) (a::es) [] pos) (liftI (X.L rz Xe) (diZip ta)):=by
 rintro pins s σ H R I ⟨δ,M,Rd,rs,rm,t,q⟩
 refine Call_ (ld_blt I hg hm boot_zip (PyProof.Rows.callWith_type1 (thn (ha pos pins s σ H (fun vs H1=>(∃ b c xs ys,vs=[.ref b,.ref c]/\SqT X.K H1 b xs/\SqT X.K H1 c ys/\R (Itz X.K b c) H1)\/∃ b c xs ys,vs=[.ref b,.ref c]/\SqL X.K H1 b xs/\SqL X.K H1 c ys/\R (ItzL X.K b c) H1) I ⟨δ,M,_,rs,rm,t,fun ds M1 vs H1 x1 m1 r1 h1=>?_⟩) fun us s1 ⟨vs,H1,I1,r1,q1⟩=>?_) hs hpl))
 ·unfold itZip at h1
  split at h1
  ·cases r1 with
   | cons ra rr =>
    cases rr with
    | cons rb rr =>
     cases rr
     cases ra with
     | tup ha ra =>
      cases rb with
      | tup hb rb=>exact .inl ⟨_,_,_,_,rfl,ha,hb,q _ _ _ _ _ x1 m1 trivial (itd_zip ha hb ra rb) h1⟩
  ·obtain⟨xs,ys,ea,eb,h1⟩:=h1
   cases r1 with
   | cons ra rr =>
    cases rr with
    | cons rb rr =>
     cases rr
     cases ra
     cases rb
     obtain⟨vs,ev,_⟩:=m1 _ _ ea
     obtain⟨ws,ew,_⟩:=m1 _ _ eb
     exact .inr ⟨_,_,_,_,rfl,.of ev,.of ew,q _ _ _ _ _ x1 m1 ⟨ea,eb⟩ itd_zipL h1⟩
  ·exact h1.elim
 ·rcases q1 with q1|q1
  ·obtain⟨b,c,xs,ys,e,hb,hc,q⟩:=q1
   subst e
   cases r1 with
   | cons r rr =>
    cases rr with
    | cons r' rr =>
     cases rr
     cases r
     cases r'
     obtain⟨its,rv,pb,_⟩:=I1.tuple hb
     obtain⟨its',rv',pc,_⟩:=I1.tuple hc
     have lb:b<s1.heap.objs.size:=by obtain⟨o,e,_⟩:=pb;exact Heap.lt_size e
     have lc:c<s1.heap.objs.size:=by obtain⟨o,e,_⟩:=pc;exact Heap.lt_size e
     refine call_zt (show s1.heap.IsTuple b its.toArray from pb) (show s1.heap.IsTuple c its'.toArray from pc) fun g st k=>?_
     refine wpAny_pyIter_zip st.1 ?_
     refine⟨_,[s1.heap.objs.size+4,s1.heap.objs.size+2,s1.heap.objs.size+3,s1.heap.objs.size,s1.heap.objs.size+1],_,_,H1,rfl,I1.kept (t':=s1.toks) k,turn_zip (zipApart_new lb lc),st,fun m hm=>?_,q⟩
     have le:s1.heap.objs.size<=m:=by
      simp only[List.mem_cons,List.not_mem_nil,or_false] at hm
      rcases hm with rfl|rfl|rfl|rfl|rfl
      ·exact Nat.le_add_right _ _
      ·exact Nat.le_add_right _ _
      ·exact Nat.le_add_right _ _
      ·exact Nat.le_refl _
      ·exact Nat.le_add_right _ _
     exact I1.fpOk le (I1.hok.fresh le)
  ·obtain⟨b,c,xs,ys,e,hb,hc,q⟩:=q1
   subst e
   cases r1 with
   | cons r rr =>
    cases rr with
    | cons r' rr =>
     cases rr
     cases r
     cases r'
     obtain⟨its,rv,pb,_⟩:=I1.list hb
     obtain⟨its',rv',pc,_⟩:=I1.list hc
     have lb:b<s1.heap.objs.size:=by obtain⟨o,e,_⟩:=pb.isList;exact Heap.lt_size e
     have lc:c<s1.heap.objs.size:=by obtain⟨o,e,_⟩:=pc.isList;exact Heap.lt_size e
     refine call_zip_2 pb.isList pc.isList fun g st1 st2 st3 st4 st5 _ k=>?_
     refine wpAny_pyIter_zip st1 ?_
     refine⟨_,[s1.heap.objs.size+4,s1.heap.objs.size+2,s1.heap.objs.size+3,s1.heap.objs.size,s1.heap.objs.size+1],_,_,H1,rfl,I1.kept (t':=s1.toks) k,turn_zipL (zipApart_new lb lc),⟨st1,st2,⟨_,_,st3⟩,st4,st5⟩,fun m hm=>?_,q⟩
     have le:s1.heap.objs.size<=m:=by
      simp only[List.mem_cons,List.not_mem_nil,or_false] at hm
      rcases hm with rfl|rfl|rfl|rfl|rfl
      ·exact Nat.le_add_right _ _
      ·exact Nat.le_add_right _ _
      ·exact Nat.le_add_right _ _
      ·exact Nat.le_refl _
      ·exact Nat.le_add_right _ _
     exact I1.fpOk le (I1.hok.fresh le)
end
end DL
end
noncomputable section
namespace DL
open PySem PySem.Spec PyProof.Rows L2
section
variable {prog:Program} {w:World} {A:Around} {E:Value->Shared->Prop} {s:Shared}
theorem enum_endT {e it l:Addr} {i:Nat} {items:Array Value} {old:Value} {Q:Option Value->Shared->Prop} (hh:A.handled=none)
  (he:IsEnum s.heap e it i old) (hit:s.heap.IsTupleIter it l i) (hl:s.heap.IsTuple l items) (hx:items[i]?=none)
  (hQ:∀ h',Heap.ExtBut it s.heap h'->Q none {s with heap:=h'}):wpAny (model prog w) A (pyNext (.ref e)) Q E s:=by
 have hT:s.TypeIs (.ref e) "enumerate":=⟨_,he,rfl⟩
 unfold pyNext
 refine wpAny_bind (wpAny_attempt (wpAny_callSpecial?_slot (name:=Str.ofString "__next__") hT F.slot_enumerate_next
  (wpAny_call_entry F.slot_enumerate_next hT F.entry_enumerate_next ?_ (F.args_enumerate_next_1 _))))
 show wpAny _ _ (field (.ref e) 2 >>= _) _ _ _
 refine wpAny_bind (wpAny_field he rfl (x:=.ref it) rfl ?_)
 refine wpAny_bind (nx_end hh hit hl hx fun h' x he' hx'=>?_)
 obtain⟨o,ho,hc⟩:=hx'
 refine wpAny_bind (wpAny_isInstance (T:="StopIteration") (b:=true) ⟨o,ho,hc⟩ isSubtype_stop ?_)
 exact wpAny_pure (hQ _ he')
theorem enum_endL {e it l:Addr} {i:Nat} {items:Array Value} {old:Value} {Q:Option Value->Shared->Prop} (hh:A.handled=none)
  (he:IsEnum s.heap e it i old) (hit:s.heap.IsListIter it l i) (hl:s.heap.IsList l items) (hx:items[i]?=none)
  (hQ:∀ h',Heap.ExtBut it s.heap h'->Q none {s with heap:=h'}):wpAny (model prog w) A (pyNext (.ref e)) Q E s:=wpAny_pyNext_enum_end hh he hit hl hx hQ
set_option tactic.hygienic true
theorem meets_et (l:Addr) (items:Array Value) (n:Nat) (dct:Option Addr) (sl:Array (Option Value)) :
  Meets (Builtin.«enumerate.__new__» ⟨[.type "enumerate",.ref l],[]⟩) (fun _ R s=>s.heap.get? l=some {cls:=.type "tuple",dict:=dct,data:=.seq items n,slots:=sl} /\
   R (.ok (.ret (.ref (s.heap.push {cls:=.type "tuple_iterator",data:=.fields #[.ref l,.int 0 0]}).objs.size)))
    {s with heap:=(s.heap.push {cls:=.type "tuple_iterator",data:=.fields #[.ref l,.int 0 0]}).push {cls:=.type "enumerate",data:=.fields #[.none,.bool false,.ref s.heap.objs.size,rawInt 0,.none,.none]}}) :=
 .of_wp fun prog w A R s h=>by
  obtain⟨hp,g,d,tk,os⟩:=s;obtain⟨hl,h⟩:=h
  have hsub:=sub_enumerate
  have hL:Heap.IsTuple (Shared.heap ⟨hp,g,d,tk,os⟩) l items:=⟨_,hl,rfl,n,rfl⟩
  wp_walk using AutoSeq1.wpAny_loadPart' hl
  refine wpAny_stack_any fun st=>wpAny_pure ?_
  split
  ·rename_i c _ _ _ _ _
   cases (c==Value.type "enumerate")
   ·wp_walk using AutoSeq1.wpAny_loadPart' hl,wpAny_pyIter_tuple hL
    exact⟨_,rfl,h⟩
   ·wp_walk using AutoSeq1.wpAny_loadPart' hl,wpAny_pyIter_tuple hL
    exact⟨_,rfl,h⟩
  ·wp_walk using AutoSeq1.wpAny_loadPart' hl,wpAny_pyIter_tuple hL
   exact⟨_,rfl,h⟩
set_option tactic.hygienic false
theorem call_enumT {l:Addr} {items:Array Value} {Q:Value->Shared->Prop} (hL:s.heap.IsTuple l items)
  (h:∀ h',IsEnum h' (s.heap.objs.size+1) s.heap.objs.size 0 .none->h'.IsTupleIter s.heap.objs.size l 0->h'.objs.size=s.heap.objs.size+2 ->
   (∀ b o,s.heap.get? b=some o->h'.get? b=some o)->Q (.ref (s.heap.objs.size+1)) {s with heap:=h'}) :
  wpAny (model prog w) A (call (.type "enumerate") [.ref l]) Q E s:=by
 obtain⟨⟨c,dct,dt,sl⟩,hl,hc,n,hd⟩:=hL
 replace hc:c=.type "tuple":=hc
 replace hd:dt=.seq items n:=hd
 subst hc hd
 refine callType_new F.called_enumerate (by decide) (F.typeCall_enumerate_1 _) (F.newCall_enumerate_1 _) (fun obj=>F.args_object_init_2 obj _) F.entry_enumerate_new
  (meets_et l items n dct sl) ⟨hl,?_⟩
 have hz:(s.heap.push {cls:=.type "tuple_iterator",data:=.fields #[.ref l,.int 0 0]}).objs.size=s.heap.objs.size+1:=Heap.size_push ..
 show _/\_
 rw[hz]
 have he:IsEnum ((s.heap.push {cls:=.type "tuple_iterator",data:=.fields #[.ref l,.int 0 0]}).push
   {cls:=.type "enumerate",data:=.fields #[.none,.bool false,.ref s.heap.objs.size,rawInt 0,.none,.none]}) (s.heap.objs.size+1) s.heap.objs.size 0 .none:=by
  have:=Heap.get?_push_size (s.heap.push {cls:=.type "tuple_iterator",data:=.fields #[.ref l,.int 0 0]})
   (o:={cls:=.type "enumerate",data:=.fields #[.none,.bool false,.ref s.heap.objs.size,rawInt 0,.none,.none]}) rfl
  rw[hz] at this;exact this
 refine⟨⟨_,he,rfl⟩,h _ he ⟨_,Heap.get?_push_of_some _ (Heap.get?_push_size _ rfl),rfl,rfl⟩ (by rw[Heap.size_push,hz]) fun b o x=>Heap.get?_push_of_some _ (Heap.get?_push_of_some _ x)⟩
end
theorem drawsT {prog:Program} {w:World} {A:Around} (hh:A.handled=none) {it b:Addr} (hne:it≠b) (vs:Array Value):Draws prog w A it [it,b] vs.size (fun i v=>vs[i]?=some v) (fun i h=>h.IsTupleIter it b i/\h.IsTuple b vs) where
 live:=fun _ _ st=>let ⟨o,ho,_⟩:=st.1;⟨o,ho⟩
 frame:=fun _ _ _ st hk=>⟨let ⟨o,ho,r⟩:=st.1;⟨o,hk it (by simp) o ho,r⟩,let ⟨o,ho,r⟩:=st.2;⟨o,hk b (by simp) o ho,r⟩⟩
 item:=fun i s Q E hi st hQ=>nx_item st.1 st.2 (show vs[i]?=some vs[i] by simp[hi]) fun g h1 sb=>hQ _ g s.toks (by simp[hi]) ⟨h1,let ⟨o,e,r⟩:=st.2;⟨o,sb.extBut _ _ hne.symm e,r⟩⟩ sb
 done:=fun s Q E st hE=>nx_end hh st.1 st.2 (by simp) hE
noncomputable def IteT (K:PySem.W.Frag) (b:Addr):It :=
  ⟨fun i H=>∃ xs x,SqT K H b xs/\xs[i]?=some x,
   fun i H x H'=>∃ T p,H T=none/\x=.ref T/\H'=upd H T (.tup [.int (i:Int),p])/\∀ xs,SqT K H b xs->xs[i]?=some p,
   fun i H=>∃ xs,SqT K H b xs/\xs.length<=i⟩
noncomputable def eTnT (e it b:Addr) (n:Nat) (h:Heap):Prop:=(∃ old,IsEnum h e it n old)/\h.IsTupleIter it b n
theorem turn_enumT {P:Program} {w:World} {K:PySem.W.Frag} {elts:List Expr} {x1:Nat} {pos:Pos} {e it b:Addr} (ei:e≠it) (eb:e≠b) (ib:it≠b) :
  Turn P w K (.Tuple elts x1 pos) (IteT K b) [e,it] e (eTnT e it b) where
 mem:=by simp
 obj:=fun n h st k hk=>by
  obtain⟨⟨old,he⟩,⟨o1,e1,_,d1⟩⟩:=st
  simp only[List.mem_cons,List.not_mem_nil,or_false] at hk
  rcases hk with rfl|rfl
  ·exact⟨_,he,fun w e=>nomatch e⟩
  ·exact⟨_,e1,fun w e=>by rw[d1] at e;cases e⟩
 keep:=fun n h h' st k=>by
  obtain⟨⟨old,he⟩,h1⟩:=st
  exact⟨⟨old,k e (by simp) _ he⟩,h1.at fun o z=>k it (by simp) o z⟩
 item:=by
  intro X hP hw hK hc n pins s σ H E I hf st hg
  subst hP hw hK
  obtain⟨⟨old,he⟩,h1⟩:=st
  obtain⟨xs,x,q1,hx⟩:=hg
  obtain⟨its,rv,p,sz1⟩:=I.tuple q1
  obtain⟨vx,hvx,rx⟩:=rv.get hx
  have pt:s.heap.IsTuple b its.toArray:=p
  have hn:n<its.toArray.size:=by
   have:=(List.getElem?_eq_some_iff.mp hvx).1
   simpa using this
  have D:=drawsT (prog:=X.prog) (w:=X.w) (A:=X.A.in1) (I.ok.hd hc) ib its.toArray
  refine wpAny_pyNext_enum_itemD D he ⟨h1,pt⟩ hn ei (by simp[ei,eb]) fun v g tk hv a1 a2 a3 a4 a5=>?_
  have ev:v=vx:=by
   have:its.toArray[n]?=some vx:=by simpa using hvx
   rw[this] at hv;cases hv;rfl
  subst ev
  have lt:∀ {k o},s.heap.get? k=some o->k≠s.heap.objs.size:=fun e=>Nat.ne_of_lt (Heap.lt_size e)
  have li:it≠s.heap.objs.size:=by obtain⟨o,e,_⟩:=h1;exact lt e
  refine⟨_,rfl,wpAny_letOwnedTupleGo_enum a1 fun g' z' sb=>?_⟩
  have nf:H s.heap.objs.size=none:=I.hok.fresh (Nat.le_refl _)
  have tp:g'.get? s.heap.objs.size=some {cls:=.type "tuple",data:=.seq #[.int n tk,v]}:=sb.extBut _ _ (Ne.symm (lt he)) a3
  have I1:Inv X pins σ (upd H s.heap.objs.size (.tup [.int (n:Int),x])) {s with heap:=s.heap.push {cls:=.type "tuple",data:=.seq #[.int n tk,v]},toks:=s.toks} :=
   I.laid (fun k o e=>Heap.get?_push_of_some _ e) (Nat.le_refl _) ⟨by simp only[List.length_cons,List.length_nil];rw[sizeLine_eq];decide,[.int n tk,v],.cons ⟨tk,rfl⟩ (.cons rx .nil),⟨_,Heap.get?_push_size _ rfl,rfl,_,rfl⟩⟩
  have ff:∀ k∈[e,it],k≠s.heap.objs.size:=fun k hk=>by
   simp only[List.mem_cons,List.not_mem_nil,or_false] at hk
   rcases hk with rfl|rfl
   ·exact lt he
   ·exact li
  have f':∀ k∈[e,it],FpOk X pins (upd H s.heap.objs.size (.tup [.int (n:Int),x])) k:=fun k hk=>⟨by rw[upd_ne (ff k hk)];exact (hf k hk).1,(hf k hk).2⟩
  have I2:Inv X pins σ (upd H s.heap.objs.size (.tup [.int (n:Int),x])) {s with heap:=g',toks:=tk+1}:=by
   refine turnedL (s:={s with heap:=s.heap.push {cls:=.type "tuple",data:=.seq #[.int n tk,v]},toks:=s.toks}) (h':=g') (t':=tk+1) I1 (fun k o hk e=>?_) f'
   rcases Heap.get?_push_cases e with ⟨rfl,rfl⟩|e'
   ·exact tp
   ·simp only[List.mem_cons,List.not_mem_nil,or_false,not_or] at hk
    exact sb.extBut _ _ hk.1 (a5 k o hk.1 hk.2 e')
  refine⟨.ref s.heap.objs.size,_,I2,rfl,⟨_,x,nf,rfl,rfl,fun xs' q=>by rw[I.tuple_inj q q1];exact hx⟩,?_,fun k hk=>(f' k hk).1⟩
  exact⟨⟨_,z'⟩,a2.1.extBut sb.extBut ei.symm⟩
 done:=by
  intro X hP hw hK hc n pins s σ H E I hf st hg
  subst hP hw hK
  obtain⟨⟨old,he⟩,h1⟩:=st
  obtain⟨xs,q1,hx⟩:=hg
  obtain⟨its,rv,p,sz1⟩:=I.tuple q1
  have l1:=rv.length
  have pt:s.heap.IsTuple b its.toArray:=p
  refine enum_endT (I.ok.hd hc) he h1 pt (by simp;omega) fun g k=>⟨rfl,turnedL (h':=g) (t':=s.toks) I (fun m o hm e=>?_) hf⟩
  simp only[List.mem_cons,List.not_mem_nil,or_false,not_or] at hm
  exact k m o hm.2 e
 self:=fun _ _ _ _ _ st h=>by
  obtain⟨⟨old,he⟩,_⟩:=st
  exact wpAny_pyIter_enum he h
theorem drawsL {prog:Program} {w:World} {A:Around} (hh:A.handled=none) {it b:Addr} (hne:it≠b) (vs:Array Value):Draws prog w A it [it,b] vs.size (fun i v=>vs[i]?=some v) (fun i h=>h.IsListIter it b i/\h.IsList b vs) where
 live:=fun _ _ st=>let ⟨o,ho,_⟩:=st.1;⟨o,ho⟩
 frame:=fun _ _ _ st hk=>⟨let ⟨o,ho,r⟩:=st.1;⟨o,hk it (by simp) o ho,r⟩,let ⟨o,ho,r⟩:=st.2;⟨o,hk b (by simp) o ho,r⟩⟩
 item:=fun i s Q E hi st hQ=>wpAny_nextOf_list_item st.1 st.2 (show vs[i]?=some vs[i] by simp[hi]) fun g h1 sb=>hQ _ g s.toks (by simp[hi]) ⟨h1,let ⟨o,e,r⟩:=st.2;⟨o,sb.extBut _ _ hne.symm e,r⟩⟩ sb
 done:=fun s Q E st hE=>wpAny_nextOf_list_end hh st.1 st.2 (by simp) hE
noncomputable def IteL (K:PySem.W.Frag) (b:Addr):It :=
  ⟨fun i H=>∃ xs x,SqL K H b xs/\xs[i]?=some x,
   fun i H x H'=>∃ T p,H T=none/\x=.ref T/\H'=upd H T (.tup [.int (i:Int),p])/\∀ xs,SqL K H b xs->xs[i]?=some p,
   fun i H=>∃ xs,SqL K H b xs/\xs.length<=i⟩
noncomputable def eTnL (e it b:Addr) (n:Nat) (h:Heap):Prop:=(∃ old,IsEnum h e it n old)/\h.IsListIter it b n
theorem turn_enumL {P:Program} {w:World} {K:PySem.W.Frag} {elts:List Expr} {x1:Nat} {pos:Pos} {e it b:Addr} (ei:e≠it) (eb:e≠b) (ib:it≠b) :
  Turn P w K (.Tuple elts x1 pos) (IteL K b) [e,it] e (eTnL e it b) where
 mem:=by simp
 obj:=fun n h st k hk=>by
  obtain⟨⟨old,he⟩,⟨o1,e1,_,d1⟩⟩:=st
  simp only[List.mem_cons,List.not_mem_nil,or_false] at hk
  rcases hk with rfl|rfl
  ·exact⟨_,he,fun w e=>nomatch e⟩
  ·exact⟨_,e1,fun w e=>by rw[d1] at e;cases e⟩
 keep:=fun n h h' st k=>by
  obtain⟨⟨old,he⟩,h1⟩:=st
  exact⟨⟨old,k e (by simp) _ he⟩,h1.at fun o z=>k it (by simp) o z⟩
 item:=by
  intro X hP hw hK hc n pins s σ H E I hf st hg
  subst hP hw hK
  obtain⟨⟨old,he⟩,h1⟩:=st
  obtain⟨xs,x,q1,hx⟩:=hg
  obtain⟨its,rv,p,sz1⟩:=I.list q1
  obtain⟨vx,hvx,rx⟩:=rv.get hx
  have pt:s.heap.IsList b its.toArray:=p.isList
  have hn:n<its.toArray.size:=by
   have:=(List.getElem?_eq_some_iff.mp hvx).1
   simpa using this
  have D:=drawsL (prog:=X.prog) (w:=X.w) (A:=X.A.in1) (I.ok.hd hc) ib its.toArray
  refine wpAny_pyNext_enum_itemD D he ⟨h1,pt⟩ hn ei (by simp[ei,eb]) fun v g tk hv a1 a2 a3 a4 a5=>?_
  have ev:v=vx:=by
   have:its.toArray[n]?=some vx:=by simpa using hvx
   rw[this] at hv;cases hv;rfl
  subst ev
  have lt:∀ {k o},s.heap.get? k=some o->k≠s.heap.objs.size:=fun e=>Nat.ne_of_lt (Heap.lt_size e)
  have li:it≠s.heap.objs.size:=by obtain⟨o,e,_⟩:=h1;exact lt e
  refine⟨_,rfl,wpAny_letOwnedTupleGo_enum a1 fun g' z' sb=>?_⟩
  have nf:H s.heap.objs.size=none:=I.hok.fresh (Nat.le_refl _)
  have tp:g'.get? s.heap.objs.size=some {cls:=.type "tuple",data:=.seq #[.int n tk,v]}:=sb.extBut _ _ (Ne.symm (lt he)) a3
  have I1:Inv X pins σ (upd H s.heap.objs.size (.tup [.int (n:Int),x])) {s with heap:=s.heap.push {cls:=.type "tuple",data:=.seq #[.int n tk,v]},toks:=s.toks} :=
   I.laid (fun k o e=>Heap.get?_push_of_some _ e) (Nat.le_refl _) ⟨by simp only[List.length_cons,List.length_nil];rw[sizeLine_eq];decide,[.int n tk,v],.cons ⟨tk,rfl⟩ (.cons rx .nil),⟨_,Heap.get?_push_size _ rfl,rfl,_,rfl⟩⟩
  have ff:∀ k∈[e,it],k≠s.heap.objs.size:=fun k hk=>by
   simp only[List.mem_cons,List.not_mem_nil,or_false] at hk
   rcases hk with rfl|rfl
   ·exact lt he
   ·exact li
  have f':∀ k∈[e,it],FpOk X pins (upd H s.heap.objs.size (.tup [.int (n:Int),x])) k:=fun k hk=>⟨by rw[upd_ne (ff k hk)];exact (hf k hk).1,(hf k hk).2⟩
  have I2:Inv X pins σ (upd H s.heap.objs.size (.tup [.int (n:Int),x])) {s with heap:=g',toks:=tk+1}:=by
   refine turnedL (s:={s with heap:=s.heap.push {cls:=.type "tuple",data:=.seq #[.int n tk,v]},toks:=s.toks}) (h':=g') (t':=tk+1) I1 (fun k o hk e=>?_) f'
   rcases Heap.get?_push_cases e with ⟨rfl,rfl⟩|e'
   ·exact tp
   ·simp only[List.mem_cons,List.not_mem_nil,or_false,not_or] at hk
    exact sb.extBut _ _ hk.1 (a5 k o hk.1 hk.2 e')
  refine⟨.ref s.heap.objs.size,_,I2,rfl,⟨_,x,nf,rfl,rfl,fun xs' q=>by rw[I.list_inj q q1];exact hx⟩,?_,fun k hk=>(f' k hk).1⟩
  exact⟨⟨_,z'⟩,a2.1.extBut sb.extBut ei.symm⟩
 done:=by
  intro X hP hw hK hc n pins s σ H E I hf st hg
  subst hP hw hK
  obtain⟨⟨old,he⟩,h1⟩:=st
  obtain⟨xs,q1,hx⟩:=hg
  obtain⟨its,rv,p,sz1⟩:=I.list q1
  have l1:=rv.length
  have pt:s.heap.IsList b its.toArray:=p.isList
  refine enum_endL (I.ok.hd hc) he h1 pt (by simp;omega) fun g k=>⟨rfl,turnedL (h':=g) (t':=s.toks) I (fun m o hm e=>?_) hf⟩
  simp only[List.mem_cons,List.not_mem_nil,or_false,not_or] at hm
  exact k m o hm.2 e
 self:=fun _ _ _ _ _ st h=>by
  obtain⟨⟨old,he⟩,_⟩:=st
  exact wpAny_pyIter_enum he h
noncomputable def enD (xs:List D):List D:=xs.mapIdx fun i x=>.tup [.int (i:Int),x]
noncomputable def itEnum:List D->Mem->(List D->(Mem->Prop)->Mem->Prop)->Prop
 | [.tup xs],M,R=>R (enD xs) (fun _=>True) M
 | [.lst a],M,R=>∃ xs,M a=some (.ls xs)/\R (enD xs) (fun M'=>M' a=some (.ls xs)) M
 | _,_,_=>False
noncomputable def diEnum (ta:DA):DI:=fun δ M R=>ta δ M fun ds M1=>itEnum ds M1 R
theorem itd_enumT {K:PySem.W.Frag} {H0:Hp} {a:Addr} {vs:List V} {xs:List D} (ha:SqT K H0 a vs) (r:RelDs K H0 vs xs):ItD K H0 (IteT K a) (enD xs) (fun _=>True):=fun i H M x m k=>by
 have ha':=x.tup _ _ ha
 have r':=r.ext x
 have l1:=r.length
 refine⟨fun hl=>?_,fun hl=>?_,fun y H' hy=>?_⟩
 ·simp only[enD,List.length_mapIdx] at hl
  exact⟨vs,vs[i]'(by omega),ha',List.getElem?_eq_getElem _⟩
 ·simp only[enD,List.length_mapIdx] at hl
  exact⟨vs,ha',by omega⟩
 ·obtain⟨T,p,hn,rfl,rfl,e1⟩:=hy
  have ex:HExt K H (L2.upd H T (.tup [.int (i:Int),p])):=HExt.upd (.inl hn)
  refine⟨ex,m.tup hn,fun d hd=>?_⟩
  simp only[enD,List.getElem?_mapIdx] at hd
  have f1:=e1 _ ha'
  cases h1:xs[i]? with
  | none=>rw [h1] at hd;simp at hd
  | some dx =>
   rw[h1] at hd
   simp at hd
   subst hd
   obtain⟨v1,g1,g2⟩:=r'.get h1
   rw[f1] at g1;cases g1
   exact .tup (.inl (.of L2.upd_same)) (.cons (.int _) (.cons (g2.ext ex) .nil))
theorem itd_enumL {K:PySem.W.Frag} {H0:Hp} {a:Addr} {xs:List D}:ItD K H0 (IteL K a) (enD xs) (fun M'=>M' a=some (.ls xs)):=fun i H M x m k=>by
 obtain⟨vs,ev,r'⟩:=m _ _ k
 have l1:=r'.length
 refine⟨fun hl=>?_,fun hl=>?_,fun y H' hy=>?_⟩
 ·simp only[enD,List.length_mapIdx] at hl
  exact⟨vs,vs[i]'(by omega),.of ev,List.getElem?_eq_getElem _⟩
 ·simp only[enD,List.length_mapIdx] at hl
  exact⟨vs,.of ev,by omega⟩
 ·obtain⟨T,p,hn,rfl,rfl,e1⟩:=hy
  have ex:HExt K H (L2.upd H T (.tup [.int (i:Int),p])):=HExt.upd (.inl hn)
  refine⟨ex,m.tup hn,fun d hd=>?_⟩
  simp only[enD,List.getElem?_mapIdx] at hd
  have f1:=e1 _ (.of ev)
  cases h1:xs[i]? with
  | none=>rw [h1] at hd;simp at hd
  | some dx =>
   rw[h1] at hd
   simp at hd
   subst hd
   obtain⟨v1,g1,g2⟩:=r'.get h1
   rw[f1] at g1;cases g1
   exact .tup (.inl (.of L2.upd_same)) (.cons (.int _) (.cons (g2.ext ex) .nil))
section
variable {X:Cx} {rz:Bool} {Xe:DSt->DK} {pos:Pos}
theorem di_enum {a:Expr} {es:List Expr} {ta:DA} {p:Pos} {elts:List Expr} {x1:Nat} {tp:Pos} (hg:Gl X "enumerate") (hm:X.mg "enumerate"=none) (ha:PA X (a::es) (liftA (X.L rz Xe) ta)) (hs:starEach (a::es) X.env=(false,eval a X.env)::starEach es X.env) (hpl:(backTo pos (starEach es X.env)).any (·.1)=false) :
  PI X (.Tuple elts x1 tp) (.Call (.Name "enumerate" p) (a::es) [] pos) (liftI (X.L rz Xe) (diEnum ta)):=by
 rintro pins s σ H R I ⟨δ,M,Rd,rs,rm,t,q⟩
 refine Call_ (ld_blt I hg hm boot_enumerate (PyProof.Rows.callWith_type1 (thn (ha pos pins s σ H (fun vs H1=>(∃ b xs,vs=[.ref b]/\SqT X.K H1 b xs/\R (IteT X.K b) H1)\/∃ b xs,vs=[.ref b]/\SqL X.K H1 b xs/\R (IteL X.K b) H1) I ⟨δ,M,_,rs,rm,t,fun ds M1 vs H1 x1 m1 r1 h1=>?_⟩) fun us s1 ⟨vs,H1,I1,r1,q1⟩=>?_) hs hpl))
 ·unfold itEnum at h1
  split at h1
  ·cases r1 with
   | cons ra rr =>
    cases rr
    cases ra with
    | tup ha ra=>exact .inl ⟨_,_,rfl,ha,q _ _ _ _ _ x1 m1 trivial (itd_enumT ha ra) h1⟩
  ·obtain⟨xs,ea,h1⟩:=h1
   cases r1 with
   | cons ra rr =>
    cases rr
    cases ra
    obtain⟨vs,ev,_⟩:=m1 _ _ ea
    exact .inr ⟨_,_,rfl,.of ev,q _ _ _ _ _ x1 m1 ea itd_enumL h1⟩
  ·exact h1.elim
 ·have fin:∀ m∈[s1.heap.objs.size+1,s1.heap.objs.size],FpOk X pins H1 m:=fun m hm=>by
   have le:s1.heap.objs.size<=m:=by
    simp only[List.mem_cons,List.not_mem_nil,or_false] at hm
    rcases hm with rfl|rfl
    ·exact Nat.le_add_right _ _
    ·exact Nat.le_refl _
   exact I1.fpOk le (I1.hok.fresh le)
  rcases q1 with q1|q1
  ·obtain⟨b,xs,e,hb,q⟩:=q1
   subst e
   cases r1 with
   | cons r rr =>
    cases rr
    cases r
    obtain⟨its,rv,pb,_⟩:=I1.tuple hb
    have lb:b<s1.heap.objs.size:=by obtain⟨o,e,_⟩:=pb;exact Heap.lt_size e
    refine call_enumT (show s1.heap.IsTuple b its.toArray from pb) fun g st1 st2 _ k=>?_
    refine wpAny_pyIter_enum st1 ?_
    exact⟨_,[s1.heap.objs.size+1,s1.heap.objs.size],_,_,H1,rfl,I1.kept (t':=s1.toks) k,turn_enumT (Nat.succ_ne_self _) (Nat.ne_of_gt (Nat.lt_succ_of_lt lb)) (Nat.ne_of_gt lb),⟨⟨_,st1⟩,st2⟩,fin,q⟩
  ·obtain⟨b,xs,e,hb,q⟩:=q1
   subst e
   cases r1 with
   | cons r rr =>
    cases rr
    cases r
    obtain⟨its,rv,pb,_⟩:=I1.list hb
    have lb:b<s1.heap.objs.size:=by obtain⟨o,e,_⟩:=pb.isList;exact Heap.lt_size e
    refine call_enumerate_list pb.isList fun g st1 st2 _ k=>?_
    refine wpAny_pyIter_enum st1 ?_
    exact⟨_,[s1.heap.objs.size+1,s1.heap.objs.size],_,_,H1,rfl,I1.kept (t':=s1.toks) k,turn_enumL (Nat.succ_ne_self _) (Nat.ne_of_gt (Nat.lt_succ_of_lt lb)) (Nat.ne_of_gt lb),⟨⟨_,st1⟩,st2⟩,fin,q⟩
end
end DL
end
noncomputable section
namespace DL
open PySem PySem.Spec PyProof.Rows L2
noncomputable def ini (c x:Str):Nat:=if c="" then 0 else if x="__init__" then 1 else 0
theorem ini0 {x:Str}:ini "" x=0:=if_pos rfl
structure RefAt (K:PySem.W.Frag) (mg:Str->Option Value) (c x:Str) (f:Addr):Prop where
 fn:c=""->mg x=some (.ref f)/\PySem.W.keepIn K (.ref f)=true
 mt:c≠""->c∈oNames/\∃ C,ClsOf K c C/\mg c=some (.ref C)/\(x≠"__init__"->Meth K C x f)/\(x="__init__"->Mk K C f)
structure FnAt (X:Cx) (c x:Str) (S:DSp):Prop where
 ex:∃ k f fd ps,FnOk X.prog X.w X.K X.mg X.base (CXR X.prog X.w) (k-ini c x) f fd ps (liftSp X.K S)/\ini c x<=k/\(X.calm=true->Room k X.A)/\RefAt X.K X.mg c x f/\Binds X.K fd ps []
noncomputable def putD (f:Str) (d:D):List (Str×D)->List (Str×D)
 | []=>[(f,d)]
 | (g,x)::r=>if g=f then (g,d)::r else (g,x)::putD f d r
noncomputable def dFld (n f:Str) (ta:DE):DE:=fun δ M Q=>ta δ M fun x M1=>∃ a fs d,x=.ref a/\M1 a=some (.ob n fs)/\fs.lookup f=some d/\Q d M1
noncomputable def dXfl (f:Str) (ta:DE):DE:=fun δ M Q=>ta δ M fun d M1=>∃ n x,d=.exc n x/\n∈xInit/\fldOf n=f/\Q x M1
noncomputable def dMeth (n m:Str) (S:DSp) (E:DSt->DK) (ta:DE) (t:DA):DE:=fun δ M Q=>ta δ M fun x M1=>∃ a fs,x=.ref a/\M1 a=some (.ob n fs)/\fs.lookup m=none/\t δ M1 fun xs M2=>S (.ref a::xs) M2 Q (E δ)
noncomputable def dMake (n:Str) (S:DSp) (E:DSt->DK) (t:DA):DE:=fun δ M Q=>t δ M fun xs M1=>alloc M1 (.ob n []) fun p M'=>S (.ref p::xs) M' (fun d M2=>d=.non/\Q (.ref p) M2) (E δ)
noncomputable def dSetF (n f:Str) (i:Nat) (te:(DSt->DK)->DE):DS:=fun D δ M=>te D.ex δ M fun y M1=>∃ a fs,δ[i]?=some (some (.ref a))/\M1 a=some (.ob n fs)/\fs.length<1000/\D.nx δ (M1.upd a (.ob n (putD f y fs)))
section
variable {X:Cx} {rz:Bool} {Xe:DSt->DK} {e o:Expr} {es:List Expr} {t:DA} {te to:DE} {x n m f:Str} {p pos apos pos':Pos} {S:DSp}
theorem de_xfl (tab:xTabB X.K=true) (ho:PE X o (lift (X.L rz Xe) to)) (hb:attributeBase o f X.env (eval o X.env)=eval o X.env):PE X (.Attribute o f pos) (lift (X.L rz Xe) (dXfl f to)):=by
 rintro pins s σ H Q I ⟨δ,M,R,rs,rm,t,q⟩
 refine attr_of hb (thn (ho pins s σ H (fun v H1=>∃ d M1,HExt X.K H H1/\RepM X.K H1 M1/\RelD X.K H1 v d/\∃ n x,d=.exc n x/\n∈xInit/\fldOf n=f/\R x M1) I ⟨δ,M,_,rs,rm,t,fun d M1 v H1 x m r h=>⟨d,M1,x,m,r,h⟩⟩) ?_)
 rintro u s1 ⟨v,H1,I1,rv,d,M1,x1,m1,r1,n,x,rfl,hi,rfl,hq⟩
 cases r1 with
 | exc hn hi' hc h=>exact absurd hi hi'
 | @excF a C d n v x hn hi' hc h hd r =>
  cases (show u=Value.ref a from rv)
  obtain⟨ob,vs,h1,h2,h3,h4⟩:=(I1.hok _ _ h).1
  obtain⟨u',ru,ns⟩:=(I1.hok _ _ hd).1
  obtain⟨B,fI,T⟩:=iTab_row tab hi hc
  obtain⟨bm,Nn,nm,qn,bs,sn,sub,ab,col,ddc,k0,k1,k2,k3,k5,mN,hC,hNs,hni,OT,cd,hci,hdc,hpm⟩:=excI_of I1.kIn T.ex
  exact exc_get (fill:=true) I1.kIn (xTab_row tab hn hc).1 h1 h2 h3 h4 ns (if_pos rfl) (handed_of ru) hci hdc T.nf ⟨v,H1,I1.tok _,ru,q _ _ _ _ x1 m1 r hq⟩
theorem run_fnR {k:Nat} {f:Addr} {fd:FuncData} {ps:List Str} {S:DSp} {pins:List (Addr×Obj)} {σ:L2.St} {H:Hp} {s:Shared} {Q:VK} {us:List Value} {vs:List V} {δ:DSt} {ds:List D} {M:Mem} {R:DK}
  (F:FnOk X.prog X.w X.K X.mg X.base (CXR X.prog X.w) k f fd ps (liftSp X.K S)) (hr:Room k X.A) (hb:Binds X.K fd ps []) (I:L2.Inv X pins σ H s) (r:Vals vs us)
  (rs:RepS (X.L rz Xe) H δ σ) (rm:RepM X.K H M) (rd:RelDs X.K H vs ds) (h:S ds M R (Xe δ)) (q:∀ d' M' v H',HExt X.K H H'->RepM X.K H' M'->RelD X.K H' v d'->R d' M'->Q v H') :
  wpAny (model X.prog X.w) X.A (call (.ref f) us) (EP X pins σ Q) X.xe s:=by
 obtain⟨Ex,hEx⟩:∃ Ex:XK,Ex=fun cv odx H'=>∃ n M' C x,cv=.ref C/\HExt X.K H H'/\RepM X.K H' M'/\n∈xNames/\ClsOf X.K n C/\ExD X.K H' n odx x/\Xe δ (.exc n x) M':=⟨_,rfl⟩
 have hsp:liftSp X.K S vs H Q Ex:=⟨ds,M,R,_,rd,rm,h,q,fun n M' H' C dd xd x m hn hc ed e=>by rw[hEx];exact⟨n,M',C,xd,rfl,x,m,hn,hc,ed,e⟩⟩
 have hl:us.length=ps.length:=by rw[<- r.length];exact F.len _ _ _ _ hsp
 have hbb:=hb s us I.kIn (by simpa using hl)
 rw[List.append_nil] at hbb
 refine wpAny_call (codeAny_mono (F.run X.A X.stack s H ⟨us,[]⟩ us vs Q Ex hr I.env0 hbb r hsp) fun res s' hq=>?_)
 cases res with
 | error e =>
  obtain⟨e0,C,dd,H',rfl,th,hE⟩:=(show CXR X.prog X.w X.stack H s Ex e s' from hq)
  rw[hEx] at hE
  obtain⟨n,M',C',xd,hC,x,m,hn,hc,ed,hx⟩:=hE
  cases hC
  exact rs.ok.fly pins σ H s H' e0 C dd s' δ M' n xd x I th m (rs.toSlots.ext x) hn hc ed hx
 | ok fl =>
  cases fl with
  | ret u=>exact I.after hq
  | next=>exact False.elim hq
  | brk=>exact False.elim hq
  | cont=>exact False.elim hq
end
end DL
end
noncomputable section
namespace DL
open PySem PySem.Spec PyProof.Rows L2
theorem vals_ints {i:Int}:∀ {acc:List Value} {n:Nat} {k:Nat},acc.length=n->(∀ (j:Nat) (v:Value),acc[j]?=some v->∃ t,v=Value.int (i+((k+j:Nat):Int)*1) t)->Vals ((List.range' k n).map fun m:Nat=>V.int (i+(m:Int))) acc
 | [],n,k,hl,_=>by subst hl;exact .nil
 | v::acc,n,k,hl,h=>by
  subst hl
  rw[List.length_cons,List.range'_succ,List.map_cons]
  refine .cons ?_ (vals_ints (k:=k+1) rfl fun j v hv=>?_)
  ·obtain⟨t,e⟩:=h 0 v rfl
   exact⟨t,by rw[e];simp⟩
  ·obtain⟨t,e⟩:=h (j+1) v (by simpa using hv)
   exact⟨t,by rw[e];congr 3;omega⟩
section
variable {X:Cx} {e:Expr} {es:List Expr} {t:TA} {p p2 pos pos2:Pos}
end
section
variable {X:Cx} {rz:Bool} {a b e:Expr} {te ta tb:(DSt->DK)->DE} {pos pos':Pos}
end
section
variable {X:Cx} {rz:Bool} {Xe:DSt->DK} {e:Expr} {es:List Expr} {t:DA} {p p2 pos pos2:Pos}
noncomputable def fLrng:List D->Mem->DK->Prop
 | [.int i,.int j],M,Q=>i.natAbs<=1000/\j.natAbs<=1000/\alloc M (.ls (rngD i 1 (j-i).toNat)) fun p M'=>Q (.lst p) M'
 | _,_,_=>False
end
section
variable {X:Cx} {a b:Expr} {rest:List Expr} {pos:Pos}
end
section
variable {X:Cx} {i j k:Nat} {x y z:Str} {a b c:Expr} {px py pz pt pos:Pos} {kt k2:Nat} {pt2:Pos}
end
end DL
namespace PySem
open Sem (wp)
section
variable {prog:Program} {w:World} {A:Around} {E:Value->Shared->Prop} {s:Shared}
end
end PySem
namespace DL
open PySem PySem.Spec PyProof.Rows L2
section
variable {z u v i j b c:Addr} {n:Nat}
variable {prog:Program} {w:World} {A:Around} {E:Value->Shared->Prop} {s:Shared} {xs ys:Array Value} {x y:Value}
end
section
variable {X:Cx} {pins:List (Addr×Obj)} {σ:L2.St} {z u v i j b c S:Addr} {A:Around} {R:Result->Shared->Prop} {res:Value} {vs ws:List V}
end
end DL
namespace PySem
namespace F
end F
end PySem
namespace DL
open PySem PySem.Spec PyProof.Rows L2
section
variable {X:Cx} {pins:List (Addr×Obj)} {σ:L2.St} {z u v i j b c S:Addr} {A:Around} {R:Result->Shared->Prop} {res:Value} {vs ws:List V} {H:Hp} {s:Shared}
end
end DL
namespace DL
open PySem PySem.Spec PyProof.Rows L2
section
variable {X:Cx} {e:Expr} {es:List Expr} {t:TA} {p p2 pos pos2:Pos}
end
section
variable {X:Cx} {rz:Bool} {Xe:DSt->DK} {e:Expr} {es:List Expr} {t:DA} {p p2 pos pos2:Pos}
end
end DL
namespace DL
open PySem PySem.Spec PyProof.Rows L2
section
variable {X:Cx}
theorem mt_part:MtR X "str.partition" (fun x xs H Q=>∃ a y,x=.str a/\xs=[.str y]/\(y.length==0)=false/\a.length<=sizeLine/\∀ T,H T=none->Q (.ref T) (L2.upd H T (.tup [.str (Txt.partition a y).1,.str (Txt.partition a y).2.1,.str (Txt.partition a y).2.2]))):=by
 intro pins s σ H x xs v us Q I rx rv h
 obtain⟨a,y,rfl,rfl,hy,hz,q⟩:=h
 obtain⟨t,rfl⟩:=rx
 obtain⟨u,rfl,ru⟩:=rv.one
 obtain⟨t',rfl⟩:=ru
 refine call_meets F.slot_str_partition (typeIs_str _ _ _) F.entry_str_partition (F.args_str_partition_2 _ _) (meets_str_partition a y t t' hy hz) ?_
 have q':=q s.heap.objs.size (I.hok.fresh (Nat.le_refl _))
 have sl:sizeLine=16777216:=sizeLine_eq
 unfold Txt.partition at q'
 cases ho:Builtin.Str.occurrences a y 0 a.length 1 with
 | nil =>
  rw[ho] at q'
  refine⟨.ref s.heap.objs.size,_,I.laid (o:=.tup [.str _,.str _,.str _]) (t':=s.toks+1) (fun k o e=>Heap.get?_push_of_some _ e) (Nat.le_refl _) ⟨by simp;omega,_,.cons ⟨_,rfl⟩ (.cons ⟨_,rfl⟩ (.cons ⟨_,rfl⟩ .nil)),⟨_,Heap.get?_push_size _ rfl,rfl,_,rfl⟩⟩,rfl,q'⟩
 | cons i r =>
  rw[ho] at q'
  refine⟨.ref s.heap.objs.size,_,I.laid (o:=.tup [.str _,.str _,.str _]) (t':=s.toks+1+1) (fun k o e=>Heap.get?_push_of_some _ e) (Nat.le_refl _) ⟨by simp;omega,_,.cons ⟨_,rfl⟩ (.cons ⟨_,rfl⟩ (.cons ⟨_,rfl⟩ .nil)),⟨_,Heap.get?_push_size _ rfl,rfl,_,rfl⟩⟩,rfl,q'⟩
theorem mt_rpre:MtR X "str.removeprefix" (fun x xs H Q=>∃ a y,x=.str a/\xs=[.str y]/\a.length<=sizeLine/\Q (.str (Txt.removeprefix a y)) H):=by
 intro pins s σ H x xs v us Q I rx rv h
 obtain⟨a,y,rfl,rfl,hz,q⟩:=h
 obtain⟨t,rfl⟩:=rx
 obtain⟨u,rfl,ru⟩:=rv.one
 obtain⟨t',rfl⟩:=ru
 exact PySem.W.KXw.removeprefix rfl hz fun t'' k=>⟨.str _,H,I.tok _,⟨_,rfl⟩,q⟩
end
section
variable {X:Cx} {rz:Bool} {Xe:DSt->DK} {o e:Expr} {to ta:DE} {apos cpos:Pos}
noncomputable def dSpart (to:DE) (ts:DA):DE:=fun δ M Q=>to δ M fun x M1=>∃ a,x=.str a/\ts δ M1 fun ds M2=>∃ b,ds=[.str b]/\(b.length==0)=false/\a.length<=sizeLine/\Q (.tup [.str (Txt.partition a b).1,.str (Txt.partition a b).2.1,.str (Txt.partition a b).2.2]) M2
noncomputable def dSrem (to:DE) (ts:DA):DE:=fun δ M Q=>to δ M fun x M1=>∃ a,x=.str a/\ts δ M1 fun ds M2=>∃ b,ds=[.str b]/\a.length<=sizeLine/\Q (.str (Txt.removeprefix a b)) M2
theorem de_spart (ho:PE X o (lift (X.L rz Xe) to)) (ha:PE X e (lift (X.L rz Xe) ta)) (hbase:attributeBase o "partition" X.env (eval o X.env)=eval o X.env) (hline:(apos.endLine==cpos.line)=true) (hs:starEach [e] X.env=(false,eval e X.env)::starEach [] X.env) :
  PE X (.Call (.Attribute o "partition" apos) [e] [] cpos) (lift (X.L rz Xe) (dSpart to (dCons ta dNil))):=by
 refine (pe_bm F.plainAttrs_str F.slot_str_partition F.type_str_partition mt_part ho (da_cons ha da_nil hs) hbase (by rw[hs];rfl) hline hs rfl).imp fun σ H Q ⟨δ,M,R,rs,rm,t,q⟩=>?_
 refine⟨δ,M,_,rs,rm,t,fun d M' v H' x m r h=>?_⟩
 obtain⟨a,rfl,h⟩:=h
 cases r
 refine⟨rfl,δ,M',_,rs.ext x,m,h,fun ds M2 vs H2 x2 m2 r2 h2=>?_⟩
 obtain⟨b,rfl,hb,hz,h2⟩:=h2
 obtain⟨v,rfl,rv⟩:=r2.one
 cases rv
 refine⟨a,b,rfl,rfl,hb,hz,fun T hT=>?_⟩
 exact q _ _ _ _ ((x.trans x2).trans (.upd (.inl hT))) (m2.tup hT) (.tup (.of upd_same) (.cons (.str _) (.cons (.str _) (.cons (.str _) .nil)))) h2
theorem de_srem (ho:PE X o (lift (X.L rz Xe) to)) (ha:PE X e (lift (X.L rz Xe) ta)) (hbase:attributeBase o "removeprefix" X.env (eval o X.env)=eval o X.env) (hline:(apos.endLine==cpos.line)=true) (hs:starEach [e] X.env=(false,eval e X.env)::starEach [] X.env) :
  PE X (.Call (.Attribute o "removeprefix" apos) [e] [] cpos) (lift (X.L rz Xe) (dSrem to (dCons ta dNil))):=by
 refine (pe_bm F.plainAttrs_str F.slot_str_removeprefix F.type_str_removeprefix mt_rpre ho (da_cons ha da_nil hs) hbase (by rw[hs];rfl) hline hs rfl).imp fun σ H Q ⟨δ,M,R,rs,rm,t,q⟩=>?_
 refine⟨δ,M,_,rs,rm,t,fun d M' v H' x m r h=>?_⟩
 obtain⟨a,rfl,h⟩:=h
 cases r
 refine⟨rfl,δ,M',_,rs.ext x,m,h,fun ds M2 vs H2 x2 m2 r2 h2=>?_⟩
 obtain⟨b,rfl,hz,h2⟩:=h2
 obtain⟨v,rfl,rv⟩:=r2.one
 cases rv
 exact⟨a,b,rfl,rfl,hz,q _ _ _ _ (x.trans x2) m2 (.str _) h2⟩
end
section
variable {X:Cx} {a b:Expr} {p1 p2 p3 pos:Pos} {k:Nat} {x:Str}
theorem pe_fstr {ta tb:TE} (ha:PE X a ta) (hb:PE X b tb):PE X (.JoinedStr [.FormattedValue a (-1) none p1,.Constant (.str x) k p2,.FormattedValue b (-1) none p3] pos)
  (fun σ H Q=>ta σ H fun u H1=>∃ i,u=.int i/\i.natAbs.log2<1920/\(Str.ofString (toString i)++x).length<=sizeLine/\tb σ H1 fun v H2=>∃ j,v=.int j/\j.natAbs.log2<1920/\(Str.ofString (toString i)++x++Str.ofString (toString j)).length<=sizeLine/\Q (.str (Str.ofString (toString i)++x++Str.ofString (toString j))) H2):=by
 intro pins s σ H Q I h
 refine wpAny_JoinedStr ?_
 show wpAny _ _ (eval (.FormattedValue a (-1) none p1) X.env) _ _ _
 refine wpAny_FormattedValue_plain (thn (ha pins s σ H _ I h) fun v s1 hq=>?_)
 obtain⟨u,H1,I1,r1,i,rfl,hi,hz,q1⟩:=hq
 obtain⟨t,rfl⟩:=r1
 refine wpAny_formatField_int hi ⟨_,_,rfl,?_,?_⟩
 ·rw[Str.empty_append];exact int_text_fits hi
 show wpAny _ _ (eval (.Constant (.str x) k p2) X.env) _ _ _
 refine thn (pe_str pins _ σ H1 (fun v H'=>v=.str x/\H'=H1) (I1.tok _) ⟨rfl,rfl⟩) fun v s2 hq=>?_
 obtain⟨u,H2,I2,r2,rfl,rfl⟩:=hq
 obtain⟨t2,rfl⟩:=r2
 refine⟨_,_,rfl,by rw[Str.empty_append];exact hz,?_⟩
 show wpAny _ _ (eval (.FormattedValue b (-1) none p3) X.env) _ _ _
 refine wpAny_FormattedValue_plain (thn (hb pins s2 σ _ _ I2 q1) fun v s3 hq=>?_)
 obtain⟨u,H3,I3,r3,j,rfl,hj,hz3,q3⟩:=hq
 obtain⟨t3,rfl⟩:=r3
 refine wpAny_formatField_int hj ⟨_,_,rfl,?_,?_⟩
 ·rw[Str.empty_append];exact hz3
 show _/\_
 rw[Str.empty_append]
 exact⟨hz3,.str _,H3,I3.tok _,⟨_,rfl⟩,q3⟩
end
section
variable {X:Cx} {rz:Bool} {Xe:DSt->DK} {a b:Expr} {ta tb:DE} {p1 p2 p3 pos:Pos} {k:Nat} {x:Str}
noncomputable def dFstr (x:Str) (ta tb:DE):DE:=fun δ M Q=>ta δ M fun u M1=>∃ i,u=.int i/\i.natAbs.log2<1920/\(Str.ofString (toString i)++x).length<=sizeLine/\tb δ M1 fun v M2=>∃ j,v=.int j/\j.natAbs.log2<1920/\(Str.ofString (toString i)++x++Str.ofString (toString j)).length<=sizeLine/\Q (.str (Str.ofString (toString i)++x++Str.ofString (toString j))) M2
theorem de_fstr (ha:PE X a (lift (X.L rz Xe) ta)) (hb:PE X b (lift (X.L rz Xe) tb)):PE X (.JoinedStr [.FormattedValue a (-1) none p1,.Constant (.str x) k p2,.FormattedValue b (-1) none p3] pos) (lift (X.L rz Xe) (dFstr x ta tb)) :=
 (pe_fstr ha hb).imp fun σ H Q ⟨δ,M,R,rs,rm,t,q⟩=>⟨δ,M,_,rs,rm,t,fun d M' v H' x1 m r ⟨i,e,hi,hz,h⟩=>by
  subst e;cases r
  exact⟨i,rfl,hi,hz,δ,M',_,rs.ext x1,m,h,fun d M2 v H2 x2 m2 r2 ⟨j,e2,hj,hz2,h2⟩=>by
   subst e2;cases r2
   exact⟨j,rfl,hj,hz2,q _ _ _ _ (x1.trans x2) m2 (.str _) h2⟩⟩⟩
end
section
variable {X:Cx}
noncomputable def fIntS:List D->Mem->DK->Prop
 | [.str x],M,Q=>∃ n,PySem.intText? x=some n/\x.length<=640/\Q (.int n) M
 | _,_,_=>False
theorem ca_intS:CallR X (.type "int") (liftC X.K fIntS):=by
 intro pins s σ H xs us Q I r h
 obtain⟨ds,M,R,rd,rm,h,q⟩:=h
 unfold fIntS at h
 split at h
 ·obtain⟨v,rfl,ra⟩:=rd.one
  cases ra
  obtain⟨u,rfl,ru⟩:=r.one
  obtain⟨t,rfl⟩:=ru
  obtain⟨n,hn,hl,h⟩:=h
  exact PySem.W.KIN.call_text hn hl ⟨.int n,H,I.tok _,⟨_,rfl⟩,q _ _ _ _ (.refl H) rm (.int _) h⟩
 ·exact h.elim
end
noncomputable def Its (x:Str):It:=⟨fun i _=>i<x.cps.size,fun i H v H'=>H'=H/\∃ c,x.cps[i]?=some c/\v=.str ⟨#[c]⟩,fun i _=>x.cps.size<=i⟩
theorem turn_str {P:Program} {w:World} {K:PySem.W.Frag} {tg:Expr} (it:Addr) (x:Str) (t:Tok):Turn P w K tg (Its x) [it] it (fun i h=>h.IsStrIter it "str_ascii_iterator" x t i) where
 mem:=by simp
 obj:=fun i h st b hb=>by
  have e:b=it:=by simpa using hb
  subst e
  obtain⟨o,e,c,d⟩:=st
  exact⟨o,e,fun v z=>by rw[d] at z;cases z⟩
 keep:=fun i h h' st k=>let ⟨o,ho,r⟩:=st;⟨o,k it (by simp) o ho,r⟩
 item:=by
  intro X hP hw hK hc i pins s σ H E I hf st hg
  subst hP hw hK
  obtain⟨f0,f1,f2,f3,f4,f5⟩:=hf it (by simp)
  have hg:i<x.cps.size:=hg
  refine wpAny_pyNext_ascii_item st (c:=x.cps[i]) (by simp[hg]) fun h' st' sb=>?_
  have I1:L2.Inv X pins σ H {s with heap:=h',toks:=s.toks+1}:=I.turned (t':=s.toks+1) (fun b o hb e=>(sb.2 b hb).trans e) f0 f1 f3 f4 f5
  obtain⟨o,e,c,d⟩:=id st'
  exact⟨_,rfl,go_of (s:={s with heap:=h',toks:=s.toks+1}) e c d (by decide) ⟨.str ⟨#[x.cps[i]]⟩,H,I1,⟨_,rfl⟩,⟨rfl,_,by simp[hg],rfl⟩,st',fun b hb=>(hf b hb).1⟩⟩
 done:=by
  intro X hP hw hK hc i pins s σ H E I hf st hg
  subst hP hw hK
  obtain⟨f0,f1,f2,f3,f4,f5⟩:=hf it (by simp)
  have hg:x.cps.size<=i:=hg
  exact wpAny_pyNext_ascii_end (I.ok.hd hc) st (by simp[hg]) fun h' eb=>⟨rfl,I.turned (t':=s.toks) (fun b o hb e=>eb b o hb e) f0 f1 f3 f4 f5⟩
 self:=fun _ _ _ _ _ st h=>wpAny_pyIter_striter_ascii st h
noncomputable def signs (x:Str):List D:=x.cps.toList.map fun c=>.str ⟨#[c]⟩
noncomputable def diStr (te:DE):DI:=fun δ M R=>te δ M fun d M1=>∃ x,d=.str x/\x.cps.all (·<128)=true/\R (signs x) (fun _=>True) M1
section
variable {X:Cx} {rz:Bool} {Xe:DSt->DK} {tg:Expr}
theorem itd_str {K:PySem.W.Frag} {H0:Hp} {x:Str}:ItD K H0 (Its x) (signs x) (fun _=>True):=fun i H M x1 m k=>by
 refine⟨fun hl=>show i<x.cps.size by simpa[signs] using hl,fun hl=>show x.cps.size<=i by simpa[signs] using hl,fun y H' hy=>?_⟩
 obtain⟨rfl,c,hc,rfl⟩:=hy
 refine⟨.refl _,m,fun d hd=>?_⟩
 obtain⟨h,e⟩:=Array.getElem?_eq_some_iff.mp hc
 obtain rfl:d=.str ⟨#[c]⟩:=by
  simp[signs,h] at hd
  rw[<- hd,e]
 exact .str _
theorem di_str {l:Expr} {te:DE} (hl:PE X l (lift (X.L rz Xe) te)):PI X tg l (liftI (X.L rz Xe) (diStr te)):=by
 rintro pins s σ H R I ⟨δ,M,Rd,rs,rm,t,q⟩
 refine thn (hl pins s σ H (fun v H1=>∃ x,v=.str x/\x.cps.all (·<128)=true/\R (Its x) H1) I ⟨δ,M,_,rs,rm,t,fun d M1 v H1 x1 m1 r1 h1=>?_⟩) fun v s1 ⟨y,H1,I1,r1,x,e,ha,q1⟩=>?_
 ·obtain⟨x,rfl,ha,h1⟩:=h1
  cases r1
  exact⟨x,rfl,ha,q _ _ _ _ _ x1 m1 trivial itd_str h1⟩
 ·subst e
  obtain⟨t,rfl⟩:=r1
  refine wpAny_pyIter_ascii ha ?_
  refine⟨s1.heap.objs.size,[s1.heap.objs.size],_,_,H1,rfl,I1.kept (t':=s1.toks) fun b o e=>Heap.get?_push_of_some _ e,turn_str _ x t,⟨_,Heap.get?_push_size _ rfl,rfl,rfl⟩,fun b hb=>?_,q1⟩
  have e:b=s1.heap.objs.size:=by simpa using hb
  subst e
  exact I1.fpOk (Nat.le_refl _) (I1.hok.fresh (Nat.le_refl _))
end
section
variable {X:Cx} {rz:Bool} {a b e:Expr} {te ta tb:(DSt->DK)->DE} {pos pos':Pos}
end
section
variable {X:Cx} {rz:Bool} {Xe:DSt->DK} {o e f:Expr} {to ta tb:DE} {apos pos:Pos}
end
end DL
end
noncomputable section
namespace DL
open PySem PySem.Spec PyProof.Rows L2
section
variable {X:Cx} {rz:Bool} {Xe:DSt->DK} {pos:Pos}
variable {a b:Expr} {ta tb:DE}
end
section
variable {X:Cx} {rz:Bool} {Xe:DSt->DK} {tg:Expr}
end
section
variable {X:Cx}
end
section
variable {X:Cx} {rz:Bool} {Xe:DSt->DK} {o:Expr} {to:DE} {apos cpos:Pos}
variable {e:Expr} {ta:DE} {pos:Pos}
end
end DL
end
noncomputable section
namespace DL
open PySem PySem.Spec PyProof.Rows L2
theorem vals_from:∀ (n:Nat) (ys:List Str),Vals (ys.map V.str) (strsFrom n ys)
 | _,[]=>.nil
 | n,y::ys=>.cons ⟨_,rfl⟩ (vals_from (n+1) ys)
section
variable {X:Cx}
theorem mt_split:MtR X "str.split" (fun x xs H Q=>∃ a y,x=.str a/\xs=[.str y]/\(y.length==0)=false/\a.length<=sizeLine/\(Txt.split a y).length<=sizeLine/\∀ T,H T=none->Q (.ref T) (L2.upd H T (.lst ((Txt.split a y).map V.str)))):=by
 intro pins s σ H x xs v us Q I rx rv h
 obtain⟨a,y,rfl,rfl,hy,hz,hl,q⟩:=h
 obtain⟨t,rfl⟩:=rx
 obtain⟨u,rfl,ru⟩:=rv.one
 obtain⟨t',rfl⟩:=ru
 have q':=q s.heap.objs.size (I.hok.fresh (Nat.le_refl _))
 have sl:sizeLine=16777216:=sizeLine_eq
 unfold Txt.split at q' hl
 by_cases c1:(decide (a.length<y.length) || decide (Builtin.Str.strKind a<Builtin.Str.strKind y))=true
 ·rw[if_pos c1] at q'
  refine call_meets F.slot_str_split (typeIs_str _ _ _) F.entry_str_split (F.args_str_split_2 _ _) (meets_str_split_cannot_occur a y t t' c1) ?_
  exact⟨.ref s.heap.objs.size,_,I.laid (o:=.lst [.str _]) (t':=s.toks) (fun k o e=>Heap.get?_push_of_some _ e) (Nat.le_refl _) ⟨by simp;omega,_,0,.cons ⟨_,rfl⟩ .nil,Heap.get?_push_size _ rfl⟩,rfl,q'⟩
 rw[if_neg c1] at q' hl
 by_cases c2:(Builtin.Str.occurrences a y 0 a.length (a.length+1)).isEmpty=true
 ·rw[if_pos c2] at q'
  refine call_meets F.slot_str_split (typeIs_str _ _ _) F.entry_str_split (F.args_str_split_2 _ _) (meets_str_split_not_found a y t t' (Bool.eq_false_iff.mpr c1) hy c2) ?_
  exact⟨.ref s.heap.objs.size,_,I.laid (o:=.lst [.str _]) (t':=s.toks) (fun k o e=>Heap.get?_push_of_some _ e) (Nat.le_refl _) ⟨by simp;omega,_,0,.cons ⟨_,rfl⟩ .nil,Heap.get?_push_size _ rfl⟩,rfl,q'⟩
 rw[if_neg c2] at q' hl
 refine call_meets F.slot_str_split (typeIs_str _ _ _) F.entry_str_split (F.args_str_split_2 _ _) (meets_str_split_sep a y t t' (Bool.eq_false_iff.mpr c1) hy (Bool.eq_false_iff.mpr c2) hz hl) ?_
 exact⟨.ref s.heap.objs.size,_,I.laid (o:=.lst (List.map V.str _)) (t':=s.toks+_) (fun k o e=>Heap.get?_push_of_some _ e) (Nat.le_refl _) ⟨by rw[List.length_map];exact hl,_,0,vals_from _ _,Heap.get?_push_size _ rfl⟩,rfl,q'⟩
theorem strs_of:∀ {ys:List Str} {us:List Value},Vals (ys.map V.str) us->∃ l:List (Str×Tok),us=strValues l/\l.map (·.1)=ys
 | [],_,r=>by cases r;exact⟨[],rfl,rfl⟩
 | y::ys,_,r=>by
  cases r with
  | cons a b =>
   obtain⟨t,rfl⟩:=a
   obtain⟨l,rfl,e⟩:=strs_of b
   exact⟨(y,t)::l,rfl,by rw[List.map_cons,e]⟩
theorem mt_join:MtR X "str.join" (fun x xs H Q=>∃ a T ys,x=.str a/\xs=[.ref T]/\H T=some (.lst (ys.map V.str))/\JoinOk a ys=true/\Q (.str (Txt.join a ys)) H):=by
 intro pins s σ H x xs v us Q I rx rv h
 obtain⟨a,T,ys,rfl,rfl,hT,hj,q⟩:=h
 obtain⟨t,rfl⟩:=rx
 obtain⟨u,rfl,ru⟩:=rv.one
 obtain rfl:u=Value.ref T:=ru
 obtain⟨_,its,n,r,e⟩:=(show ObjOk X.prog X.w H s.heap T (.lst (ys.map V.str)) from I.hok T _ hT)
 obtain⟨l,rfl,el⟩:=strs_of r
 exact PySem.SC.join (l:=l) (texts:=ys) ⟨_,e,rfl,n,rfl⟩ el hj fun t' k=>⟨.str _,H,I.tok _,⟨_,rfl⟩,q⟩
end
section
variable {X:Cx} {rz:Bool} {Xe:DSt->DK} {o e:Expr} {to ta:DE} {apos cpos:Pos}
noncomputable def dSplit (to:DE) (ts:DA):DE:=fun δ M Q=>to δ M fun x M1=>∃ a,x=.str a/\ts δ M1 fun ds M2=>∃ b,ds=[.str b]/\(b.length==0)=false/\a.length<=100000/\(Txt.split a b).length<=100000/\alloc M2 (.ls ((Txt.split a b).map .str)) fun p M'=>Q (.lst p) M'
noncomputable def dJoin (to:DE) (ts:DA):DE:=fun δ M Q=>to δ M fun x M1=>∃ a,x=.str a/\ts δ M1 fun ds M2=>∃ p ys,ds=[.lst p]/\M2 p=some (.ls (ys.map .str))/\JoinOk a ys=true/\Q (.str (Txt.join a ys)) M2
theorem rel_strs {K:PySem.W.Frag} {H:Hp}:∀ ys:List Str,RelDs K H (ys.map V.str) (ys.map D.str)
 | []=>.nil
 | y::ys=>.cons (.str y) (rel_strs ys)
theorem strs_rel {K:PySem.W.Frag} {H:Hp}:∀ {ys:List Str} {vs:List V},RelDs K H vs (ys.map D.str)->vs=ys.map V.str
 | [],_,r=>by cases r;rfl
 | y::ys,_,r=>by
  cases r with
  | cons a b=>cases a;rw[strs_rel b];rfl
theorem de_split (ho:PE X o (lift (X.L rz Xe) to)) (ha:PE X e (lift (X.L rz Xe) ta)) (hbase:attributeBase o "split" X.env (eval o X.env)=eval o X.env) (hline:(apos.endLine==cpos.line)=true) (hs:starEach [e] X.env=(false,eval e X.env)::starEach [] X.env) :
  PE X (.Call (.Attribute o "split" apos) [e] [] cpos) (lift (X.L rz Xe) (dSplit to (dCons ta dNil))):=by
 refine (pe_bm F.plainAttrs_str F.slot_str_split F.type_str_split mt_split ho (da_cons ha da_nil hs) hbase (by rw[hs];rfl) hline hs rfl).imp fun σ H Q ⟨δ,M,R,rs,rm,t,q⟩=>?_
 refine⟨δ,M,_,rs,rm,t,fun d M' v H' x m r h=>?_⟩
 obtain⟨a,rfl,h⟩:=h
 cases r
 refine⟨rfl,δ,M',_,rs.ext x,m,h,fun ds M2 vs H2 x2 m2 r2 h2=>?_⟩
 obtain⟨b,rfl,hb,hz,hl,h2⟩:=h2
 obtain⟨v,rfl,rv⟩:=r2.one
 cases rv
 have sl:sizeLine=16777216:=sizeLine_eq
 exact⟨a,b,rfl,rfl,hb,by omega,by omega,fun T hT=>q _ _ _ _ ((x.trans x2).trans (.upd (.inl hT))) (m2.lst hT (rel_strs _)) (.lst T) (h2.at (m2.none hT))⟩
theorem de_join (ho:PE X o (lift (X.L rz Xe) to)) (ha:PE X e (lift (X.L rz Xe) ta)) (hbase:attributeBase o "join" X.env (eval o X.env)=eval o X.env) (hline:(apos.endLine==cpos.line)=true) (hs:starEach [e] X.env=(false,eval e X.env)::starEach [] X.env) :
  PE X (.Call (.Attribute o "join" apos) [e] [] cpos) (lift (X.L rz Xe) (dJoin to (dCons ta dNil))):=by
 refine (pe_bm F.plainAttrs_str F.slot_str_join F.type_str_join mt_join ho (da_cons ha da_nil hs) hbase (by rw[hs];rfl) hline hs rfl).imp fun σ H Q ⟨δ,M,R,rs,rm,t,q⟩=>?_
 refine⟨δ,M,_,rs,rm,t,fun d M' v H' x m r h=>?_⟩
 obtain⟨a,rfl,h⟩:=h
 cases r
 refine⟨rfl,δ,M',_,rs.ext x,m,h,fun ds M2 vs H2 x2 m2 r2 h2=>?_⟩
 obtain⟨p,ys,rfl,hp,hj,h2⟩:=h2
 obtain⟨v,rfl,rv⟩:=r2.one
 cases rv
 obtain⟨vs,e1,e2⟩:=m2 _ _ hp
 obtain rfl:=strs_rel e2
 exact⟨a,p,ys,rfl,rfl,e1,hj,q _ _ _ _ (x.trans x2) m2 (.str _) h2⟩
end
section
variable {X:Cx} {a b:Expr} {p1 p2 p3 pos:Pos} {k:Nat} {x:Str}
end
section
variable {X:Cx} {rz:Bool} {Xe:DSt->DK} {a b:Expr} {ta tb:DE} {p1 p2 p3 pos:Pos} {k:Nat} {x:Str}
end
section
variable {X:Cx} {a b c:Expr} {p1 p2 p3 p4 p5 pos:Pos} {k k2:Nat} {x y:Str}
theorem pe_fstrJ {ta tb tc:TE} (ha:PE X a ta) (hb:PE X b tb) (hc:PE X c tc):PE X (.JoinedStr [.FormattedValue a (-1) none p1,.Constant (.str x) k p2,.FormattedValue b (-1) none p3,.Constant (.str y) k2 p4,.FormattedValue c (-1) none p5] pos)
  (fun σ H Q=>ta σ H fun u H1=>∃ i,u=.int i/\i.natAbs.log2<1920/\(Str.ofString (toString i)++x).length<=sizeLine/\tb σ H1 fun v H2=>∃ j,v=.int j/\j.natAbs.log2<1920/\(Str.ofString (toString i)++x++Str.ofString (toString j)).length<=sizeLine/\(Str.ofString (toString i)++x++Str.ofString (toString j)++y).length<=sizeLine/\tc σ H2 fun w H3=>∃ t,w=.str t/\t.length<=sizeLine/\(Str.ofString (toString i)++x++Str.ofString (toString j)++y++t).length<=sizeLine/\Q (.str (Str.ofString (toString i)++x++Str.ofString (toString j)++y++t)) H3):=by
 intro pins s σ H Q I h
 refine wpAny_JoinedStr ?_
 show wpAny _ _ (eval (.FormattedValue a (-1) none p1) X.env) _ _ _
 refine wpAny_FormattedValue_plain (thn (ha pins s σ H _ I h) fun v s1 hq=>?_)
 obtain⟨u,H1,I1,r1,i,rfl,hi,hz,q1⟩:=hq
 obtain⟨t,rfl⟩:=r1
 refine wpAny_formatField_int hi ⟨_,_,rfl,?_,?_⟩
 ·rw[Str.empty_append];exact int_text_fits hi
 show wpAny _ _ (eval (.Constant (.str x) k p2) X.env) _ _ _
 refine thn (pe_str pins _ σ H1 (fun v H'=>v=.str x/\H'=H1) (I1.tok _) ⟨rfl,rfl⟩) fun v s2 hq=>?_
 obtain⟨u,H2,I2,r2,rfl,rfl⟩:=hq
 obtain⟨t2,rfl⟩:=r2
 refine⟨_,_,rfl,by rw[Str.empty_append];exact hz,?_⟩
 show wpAny _ _ (eval (.FormattedValue b (-1) none p3) X.env) _ _ _
 refine wpAny_FormattedValue_plain (thn (hb pins s2 σ _ _ I2 q1) fun v s3 hq=>?_)
 obtain⟨u,H3,I3,r3,j,rfl,hj,hz3,hz4,q3⟩:=hq
 obtain⟨t3,rfl⟩:=r3
 refine wpAny_formatField_int hj ⟨_,_,rfl,?_,?_⟩
 ·rw[Str.empty_append];exact hz3
 show wpAny _ _ (eval (.Constant (.str y) k2 p4) X.env) _ _ _
 refine thn (pe_str pins _ σ H3 (fun v H'=>v=.str y/\H'=H3) (I3.tok _) ⟨rfl,rfl⟩) fun v s4 hq=>?_
 obtain⟨u,H4,I4,r4,rfl,rfl⟩:=hq
 obtain⟨t4,rfl⟩:=r4
 refine⟨_,_,rfl,by rw[Str.empty_append];exact hz4,?_⟩
 show wpAny _ _ (eval (.FormattedValue c (-1) none p5) X.env) _ _ _
 refine wpAny_FormattedValue_plain (thn (hc pins s4 σ _ _ I4 q3) fun v s5 hq=>?_)
 obtain⟨u,H5,I5,r5,t5,rfl,h5,hz5,q5⟩:=hq
 obtain⟨t6,rfl⟩:=r5
 refine PyProof.Rows.formatField_str (fun t' tk=>⟨_,_,rfl,by rw[Str.empty_append];exact hz5,?_⟩) h5
 show _/\_
 rw[Str.empty_append]
 exact⟨hz5,.str _,H5,I5.tok _,⟨_,rfl⟩,q5⟩
end
section
variable {X:Cx} {rz:Bool} {Xe:DSt->DK} {a b c:Expr} {ta tb tc:DE} {p1 p2 p3 p4 p5 pos:Pos} {k k2:Nat} {x y:Str}
noncomputable def dFstrJ (x y:Str) (ta tb tc:DE):DE:=fun δ M Q=>ta δ M fun u M1=>∃ i,u=.int i/\i.natAbs.log2<1920/\(Str.ofString (toString i)++x).length<=sizeLine/\tb δ M1 fun v M2=>∃ j,v=.int j/\j.natAbs.log2<1920/\(Str.ofString (toString i)++x++Str.ofString (toString j)).length<=sizeLine/\(Str.ofString (toString i)++x++Str.ofString (toString j)++y).length<=sizeLine/\tc δ M2 fun w M3=>∃ t,w=.str t/\t.length<=sizeLine/\(Str.ofString (toString i)++x++Str.ofString (toString j)++y++t).length<=sizeLine/\Q (.str (Str.ofString (toString i)++x++Str.ofString (toString j)++y++t)) M3
theorem de_fstrJ (ha:PE X a (lift (X.L rz Xe) ta)) (hb:PE X b (lift (X.L rz Xe) tb)) (hc:PE X c (lift (X.L rz Xe) tc)):PE X (.JoinedStr [.FormattedValue a (-1) none p1,.Constant (.str x) k p2,.FormattedValue b (-1) none p3,.Constant (.str y) k2 p4,.FormattedValue c (-1) none p5] pos) (lift (X.L rz Xe) (dFstrJ x y ta tb tc)) :=
 (pe_fstrJ ha hb hc).imp fun σ H Q ⟨δ,M,R,rs,rm,t,q⟩=>⟨δ,M,_,rs,rm,t,fun d M' v H' x1 m r ⟨i,e,hi,hz,h⟩=>by
  subst e;cases r
  exact⟨i,rfl,hi,hz,δ,M',_,rs.ext x1,m,h,fun d M2 v H2 x2 m2 r2 ⟨j,e2,hj,hz2,hz3,h2⟩=>by
   subst e2;cases r2
   exact⟨j,rfl,hj,hz2,hz3,δ,M2,_,(rs.ext x1).ext x2,m2,h2,fun d M3 v H3 x3 m3 r3 ⟨t3,e3,ht,hz4,h3⟩=>by
    subst e3;cases r3
    exact⟨t3,rfl,ht,hz4,q _ _ _ _ ((x1.trans x2).trans x3) m3 (.str _) h3⟩⟩⟩⟩
end
end DL
end
noncomputable section
namespace DL
open PySem PySem.W PyProof.Rows L2
section
variable (lt:Nat->Nat->Bool) (N:Nat)
variable {lt N}
noncomputable def gA (p:Array Nat) (i:Nat):Nat:=p.getD i 0
noncomputable def St (lt:Nat->Nat->Bool) (p:Array Nat) (k:Nat):Prop:=∀ i j,i<=j->j<k->lt (gA p j) (gA p i)=false
end
section
variable {prog:Program} {w:World} {A:Around} {E:Value->Shared->Prop} {s:Shared}
end
noncomputable def pD (p:Int×Int):D:=.tup [.int p.1,.int p.2]
section
variable {X:Cx}
end
end DL
end
noncomputable section
namespace DL
open PySem PySem.Spec PyProof.Rows L2
section
variable {X:Cx} {rz:Bool} {Xe:DSt->DK} {e o:Expr} {es:List Expr} {t:DA} {te to:DE} {x:Str} {p pos apos:Pos}
theorem de_call {S:DSp} (hcal:X.calm=true) (F:FnAt X "" x S) (hg:Gl X x) (ha:PA X (e::es) (liftA (X.L rz Xe) t)) (hdb:(x==("__debug__":Str))=false) (he:starEach (e::es) X.env=(false,eval e X.env)::starEach es X.env) (hpl:(backTo pos (starEach es X.env)).any (·.1)=false) :
  PE X (.Call (.Name x p) (e::es) [] pos) (lift (X.L rz Xe) (dCall S Xe t)):=by
 obtain⟨k,f,fd,ps,F,_,hr,rf,hb⟩:=F.ex
 rw[ini0,Nat.sub_zero] at F
 obtain⟨hm,hk⟩:=rf.fn rfl
 rintro pins s σ H Q I ⟨δ,M,R,rs,rm,t,q⟩
 refine wpAny_Call_Name_kw (ld_glob I hg hm ?_ hdb)
 refine PySem.W.callWith_K (h₀:=X.base) I.ok.mod.kin hk (thn (ha pos pins s σ H (fun vs H1=>∃ ds M1,HExt X.K H H1/\RepM X.K H1 M1/\RelDs X.K H1 vs ds/\S ds M1 R (Xe δ)) I ⟨δ,M,_,rs,rm,t,fun ds M1 vs H1 x m r h=>⟨ds,M1,x,m,r,h⟩⟩) fun us s1 ⟨vs,H1,I1,r,ds,M1,x1,m1,r1,h1⟩=>⟨I1.kIn,?_⟩) he hpl
 exact run_fnR F (hr hcal) hb I1 r (rs.ext x1) m1 r1 h1 fun d' M' v H' x=>q d' M' v H' (x1.trans x)
theorem de_call0 {S:DSp} (hcal:X.calm=true) (F:FnAt X "" x S) (hg:Gl X x) (hdb:(x==("__debug__":Str))=false):PE X (.Call (.Name x p) [] [] pos) (lift (X.L rz Xe) (dCall S Xe dNil)):=by
 obtain⟨k,f,fd,ps,F,_,hr,rf,hb⟩:=F.ex
 rw[ini0,Nat.sub_zero] at F
 obtain⟨hm,hk⟩:=rf.fn rfl
 rintro pins s σ H Q I ⟨δ,M,R,rs,rm,t,q⟩
 refine wpAny_Call_Name_kw (ld_glob I hg hm ?_ hdb)
 exact PySem.W.callWith_K0 I.kIn hk (run_fnR (us:=[]) F (hr hcal) hb I .nil rs rm .nil t q)
noncomputable def dCallV (alts:List (Str×DSp)) (i:Nat) (Xe:DSt->DK) (t:DA):DE:=fun δ M Q=>∃ n S,δ[i]?=some (some (.fn n))/\(n,S)∈alts/\t δ M fun ds M1=>S ds M1 Q (Xe δ)
structure GloAt (X:Cx) (x:Str) (d:D):Prop where
 ex:∃ u v,X.mg x=some u/\RelV v u/\∀ H,RelD X.K H v d
theorem de_callv {alts:List (Str×DSp)} {i:Nat} (hcal:X.calm=true) (A:∀ n S,(n,S)∈alts->FnAt X "" n S/\GloAt X n (.fn n)) (hv:PE X (.Name x p) (tVar i)) (ha:PA X (e::es) (liftA (X.L rz Xe) t)) (he:starEach (e::es) X.env=(false,eval e X.env)::starEach es X.env) (hpl:(backTo pos (starEach es X.env)).any (·.1)=false) :
  PE X (.Call (.Name x p) (e::es) [] pos) (lift (X.L rz Xe) (dCallV alts i Xe t)):=by
 rintro pins s σ H Q I ⟨δ,M,R,rs,rm,⟨n,S,e1,mem,t⟩,q⟩
 obtain⟨F1,G⟩:=A n S mem
 obtain⟨k,f,fd,ps,F,_,hr,rf,hb⟩:=F1.ex
 rw[ini0,Nat.sub_zero] at F
 obtain⟨hm,hk⟩:=rf.fn rfl
 obtain⟨v,h1,h2⟩:=rs.slot i _ e1
 have hvf:v=.ref f:=by
  obtain⟨u,v',g1,g2,g3⟩:=G.ex
  cases h2 with
  | fn hc =>
   cases g3 fun _=>none with
   | fn hc' =>
    have g2:u=_:=g2
    rw[g2] at g1
    have z1:=g1.symm.trans hm
    injection z1 with z1
    injection z1 with z1
    have z2:=hc.symm.trans hc'
    injection z2 with z2
    injection z2 with z2
    injection z2 with z2
    rw[z2,z1]
 subst hvf
 refine wpAny_Call_Name_kw (thn (hv pins s σ H (fun v' H'=>v'=.ref f/\H'=H) I ⟨_,h1,rfl,rfl⟩) ?_)
 rintro u s0 ⟨v',H',I0,r0,ev,eH⟩
 subst ev
 subst eH
 have r0:u=.ref f:=r0
 subst r0
 refine PySem.W.callWith_K (h₀:=X.base) I0.ok.mod.kin hk (thn (ha pos pins s0 σ H' (fun vs H1=>∃ ds M1,HExt X.K H' H1/\RepM X.K H1 M1/\RelDs X.K H1 vs ds/\S ds M1 R (Xe δ)) I0 ⟨δ,M,_,rs,rm,t,fun ds M1 vs H1 x m r h=>⟨ds,M1,x,m,r,h⟩⟩) fun us s1 ⟨vs,H1,I1,r,ds,M1,x1,m1,r1,h1⟩=>⟨I1.kIn,?_⟩) he hpl
 exact run_fnR F (hr hcal) hb I1 r (rs.ext x1) m1 r1 h1 fun d' M' v H' x=>q d' M' v H' (x1.trans x)
noncomputable def dApp (to te:DE):DE:=fun δ M Q=>to δ M fun o M1=>∃ a ys,o=.lst a/\M1 a=some (.ls ys)/\te δ M1 fun y M2=>∃ xs,M2 a=some (.ls xs)/\xs.length<sizeLine/\Q .non (M2.upd a (.ls (xs++[y])))
theorem de_app (ho:PE X o (lift (X.L rz Xe) to)) (he:PE X e (lift (X.L rz Xe) te)) (hbase:attributeBase o "append" X.env (eval o X.env)=eval o X.env) (hs:∀ es,starEach (e::es) X.env=(false,eval e X.env)::starEach es X.env) (hline:(apos.endLine==pos.line)=true) :
  PE X (.Call (.Attribute o "append" apos) [e] [] pos) (lift (X.L rz Xe) (dApp to te)):=by
 refine (pe_bm PySem.F.plainAttrs_list PySem.F.slot_list_append PySem.F.type_list_append mt_append ho (da_cons he da_nil (hs _)) hbase (by rw[hs];rfl) hline (hs _) rfl).imp fun σ H Q h=>?_
 obtain⟨δ,M,R,rs,rm,t,q⟩:=h
 refine⟨δ,M,_,rs,rm,t,fun d M1 v H1 x1 m1 r1 hq7=>?_⟩
 obtain⟨a,ys,e1,e2,h1⟩:=hq7
 subst e1
 cases r1
 obtain⟨vs,ev,_⟩:=m1 _ _ e2
 refine⟨.inl ⟨rfl,_,.of ev⟩,δ,M1,fun ds M2=>∃ y,ds=[y]/\∃ xs,M2 a=some (.ls xs)/\xs.length<sizeLine/\R .non (M2.upd a (.ls (xs++[y]))),rs.ext x1,m1,?_,fun ds M2 vs H2 x2 m2 r2 ⟨y,e3,xs,e4,hz,h2⟩=>?_⟩
 ·obtain⟨K',hK'⟩:∃ K':D->Mem->Prop,K'=fun y M2=>∃ xs,M2 a=some (.ls xs)/\xs.length<sizeLine/\R .non (M2.upd a (.ls (xs++[y]))):=⟨_,rfl⟩
  have:(fun x M2=>∃ y,[x]=[y]/\∃ xs,M2 a=some (.ls xs)/\xs.length<sizeLine/\R .non (M2.upd a (.ls (xs++[y]))))=K':=by
   rw[hK'];funext x M2;apply propext;constructor
   ·rintro⟨y,e,h⟩;cases e;exact h
   ·exact fun h=>⟨x,rfl,h⟩
  show te δ M1 fun x M2=>∃ y,[x]=[y]/\∃ xs,M2 a=some (.ls xs)/\xs.length<sizeLine/\R .non (M2.upd a (.ls (xs++[y])))
  rw[this,hK'];exact h1
 ·subst e3
  obtain⟨v,rfl,rv⟩:=r2.one
  obtain⟨ws,ew,rw'⟩:=m2 _ _ e4
  exact⟨a,ws,v,rfl,rfl,ew,by rw[rw'.length];exact hz,q _ _ _ _ ((x1.trans x2).trans (.upd (.inr ⟨_,ew,trivial⟩))) (m2.write ew (rw'.append (.cons rv .nil))) .non h2⟩
noncomputable def dExt (to te:DE):DE:=fun δ M Q=>to δ M fun o M1=>∃ a ys,o=.lst a/\M1 a=some (.ls ys)/\te δ M1 fun y M2=>∃ b xs zs,y=.lst b/\M2 a=some (.ls xs)/\M2 b=some (.ls zs)/\xs.length+zs.length<=sizeLine/\Q .non (M2.upd a (.ls (xs++zs)))
noncomputable def dIns (to ta te:DE):DE:=fun δ M Q=>to δ M fun o M1=>∃ a ys,o=.lst a/\M1 a=some (.ls ys)/\ta δ M1 fun x M2=>te δ M2 fun y M3=>∃ xs k,x=.int k/\M3 a=some (.ls xs)/\0<=k/\k<=xs.length/\xs.length<sizeLine/\Q .non (M3.upd a (.ls (insAt xs k y)))
noncomputable def dIdx (to te:DE):DE:=fun δ M Q=>to δ M fun o M1=>∃ a ys,o=.lst a/\M1 a=some (.ls ys)/\te δ M1 fun y M2=>∃ xs j,M2 a=some (.ls xs)/\IxAt M2 xs y j/\Q (.int j) M2
theorem de_idx (hu:X.A.units+66<cLine) (ho:PE X o (lift (X.L rz Xe) to)) (he:PE X e (lift (X.L rz Xe) te)) (hbase:attributeBase o "index" X.env (eval o X.env)=eval o X.env) (hs:∀ es,starEach (e::es) X.env=(false,eval e X.env)::starEach es X.env) (hline:(apos.endLine==pos.line)=true) :
  PE X (.Call (.Attribute o "index" apos) [e] [] pos) (lift (X.L rz Xe) (dIdx to te)):=by
 refine (pe_bm PySem.F.plainAttrs_list PySem.F.slot_list_index PySem.F.type_list_index (mt_index hu) ho (da_cons he da_nil (hs _)) hbase (by rw[hs];rfl) hline (hs _) rfl).imp fun σ H Q h=>?_
 obtain⟨δ,M,R,rs,rm,t,q⟩:=h
 refine⟨δ,M,_,rs,rm,t,fun d M1 v H1 x1 m1 r1 hq7=>?_⟩
 obtain⟨a,ys,e1,e2,h1⟩:=hq7
 subst e1
 cases r1
 obtain⟨vs,ev,_⟩:=m1 _ _ e2
 refine⟨.inl ⟨rfl,_,.of ev⟩,δ,M1,fun ds M2=>∃ y,ds=[y]/\∃ xs j,M2 a=some (.ls xs)/\IxAt M2 xs y j/\R (.int j) M2,rs.ext x1,m1,?_,fun ds M2 vs H2 x2 m2 r2 hq8=>?_⟩
 ·have:(fun (x:DL.D) (M2:Mem)=>∃ y,[x]=[y]/\∃ xs j,M2 a=some (.ls xs)/\IxAt M2 xs y j/\R (.int j) M2)=fun (y:DL.D) (M2:Mem)=>∃ xs j,M2 a=some (.ls xs)/\IxAt M2 xs y j/\R (.int j) M2:=by
   funext x M2;apply propext;constructor
   ·rintro⟨y,e,h⟩;cases e;exact h
   ·exact fun h=>⟨x,rfl,h⟩
  show te δ M1 fun x M2=>∃ y,[x]=[y]/\∃ (xs:List DL.D) (j:Nat),M2 a=some (.ls xs)/\IxAt M2 xs y j/\R (.int j) M2
  rw[this];exact h1
 ·obtain⟨y,e3,xs,j,e4,hx,h2⟩:=hq8
  subst e3
  obtain⟨v,rfl,rv⟩:=r2.one
  exact⟨a,v,M2,xs,y,j,rfl,rfl,m2,e4,rv,hx,q _ _ _ _ (x1.trans x2) m2 (.int _) h2⟩
end
inductive Bi|abs|all|divmod|isinstance|len|max|min|str|tuple|intS|sum
 deriving DecidableEq
noncomputable def biName:Bi->Str
 | .abs=>"abs" | .all=>"all" | .divmod=>"divmod" | .isinstance=>"isinstance" | .len=>"len" | .max=>"max" | .min=>"min" | .str=>"str" | .tuple=>"tuple" | .intS=>"int" | .sum=>"sum"
noncomputable def biSem:Bi->List D->Mem->DK->Prop
 | .abs=>fAbs | .all=>fAll | .divmod=>fDivmod | .isinstance=>fIsi | .len=>fLen | .max=>fMax | .min=>fMin | .str=>fStr | .tuple=>fTuple | .intS=>fIntS | .sum=>fSum
inductive Ty|int|bool|str|tuple|list|dict|valueError
 deriving DecidableEq
noncomputable def tyName:Ty->Str
 | .int=>"int" | .bool=>"bool" | .str=>"str" | .tuple=>"tuple" | .list=>"list" | .dict=>"dict" | .valueError=>"ValueError"
noncomputable def tyStr:Ty->String
 | .int=>"int" | .bool=>"bool" | .str=>"str" | .tuple=>"tuple" | .list=>"list" | .dict=>"dict" | .valueError=>"ValueError"
theorem ty_boot (t:Ty):bootBuiltins (tyName t)=some (.type (tyStr t)):=by cases t<;>kernel_rfl
noncomputable def quiet:Bi->Bool
 | .isinstance=>true
 | _=>false
structure Blt (mg:Str->Option Value):Prop where
 bi:∀ b,mg (biName b)=none
 ty:∀ t,mg (tyName t)=none
 range:mg "range"=none
 zip:mg "zip"=none
 enum:mg "enumerate"=none
section
variable {X:Cx} {rz:Bool} {Xe:DSt->DK} {e:Expr} {es:List Expr} {t:DA} {p pos:Pos}
theorem de_bi (b:Bi) (tab:xTabB X.K=true) (hB:Blt X.mg) (hq:X.calm=true\/quiet b=true) (hg:Gl X (biName b)) (ha:PA X (e::es) (liftA (X.L rz Xe) t)) (he:starEach (e::es) X.env=(false,eval e X.env)::starEach es X.env) (hpl:(backTo pos (starEach es X.env)).any (·.1)=false) :
  PE X (.Call (.Name (biName b) p) (e::es) [] pos) (lift (X.L rz Xe) (dCB (biSem b) t)):=by
 have hm:=hB.bi b
 cases b with
 | abs=>exact (pe_callB ca_abs hg hm (by kernel_rfl) ha (by decide) (by decide) he hpl).imp fun _ _ _=>dCB_op
 | all=>exact (pe_callB (ca_all (hq.resolve_right Bool.false_ne_true)) hg hm (by kernel_rfl) ha (by decide) (by decide) he hpl).imp fun _ _ _=>dCB_op
 | sum=>exact (pe_callB (ca_sum (hq.resolve_right Bool.false_ne_true)) hg hm (by kernel_rfl) ha (by decide) (by decide) he hpl).imp fun _ _ _=>dCB_op
 | divmod=>exact (pe_callB ca_divmod hg hm (by kernel_rfl) ha (by decide) (by decide) he hpl).imp fun _ _ _=>dCB_op
 | isinstance=>exact (pe_callB (ca_isi tab) hg hm (by kernel_rfl) ha (by decide) (by decide) he hpl).imp fun _ _ _=>dCB_op
 | len=>exact (pe_callB ca_len hg hm (by kernel_rfl) ha (by decide) (by decide) he hpl).imp fun _ _ _=>dCB_op
 | max=>exact (pe_callB (ca_max (hq.resolve_right Bool.false_ne_true)) hg hm (by kernel_rfl) ha (by decide) (by decide) he hpl).imp fun _ _ _=>dCB_op
 | min=>exact (pe_callB (ca_min (hq.resolve_right Bool.false_ne_true)) hg hm (by kernel_rfl) ha (by decide) (by decide) he hpl).imp fun _ _ _=>dCB_op
 | str=>exact (pe_callTy ca_str hg hm (by kernel_rfl) ha (by decide) (by decide) he hpl).imp fun _ _ _=>dCB_op
 | tuple=>exact (pe_callTy ca_tuple hg hm (by kernel_rfl) ha (by decide) (by decide) he hpl).imp fun _ _ _=>dCB_op
 | intS=>exact (pe_callTy ca_intS hg hm (by kernel_rfl) ha (by decide) (by decide) he hpl).imp fun _ _ _=>dCB_op
theorem de_ty (t:Ty) (hB:Blt X.mg) (hg:Gl X (tyName t)):PE X (.Name (tyName t) pos) (lift (X.L rz Xe) (dC (.ty (tyStr t)))) :=
 de_con (pe_bltn (v:=.ty (tyStr t)) hg (hB.ty t) (ty_boot t) rfl (by cases t<;>decide) (by cases t<;>decide)) fun H=>.ty _
end
mutual
inductive CE where
 | var (i:Nat)
 | int (i:Int)|bl (b:Bool)|non|str (x:Str)
 | glo (x:Str) (d:D)|ty (t:Ty)
 | bin (op:Operator) (a b:CE)|neg (a:CE)|not (a:CE)
 | cmp (op:CmpOp) (a b:CE)|chain (op op':CmpOp) (a b c:CE)|chain3 (op op' op'':CmpOp) (a b c d:CE)
 | one (a:CE)|and (a b:CE)|or (a b:CE)
 | ife (c a b:CE)
 | tup (es:CEs)|lst (es:CEs)|dic0
 | ix (a b:CE)|sl (a:CE) (lo hi:CO)
 | call (x:Str) (S:DSp) (es:CEs)
 | callv (i:Nat) (alts:List (Str×DSp)) (es:CEs)
 | bi (b:Bi) (es:CEs)
 | app (i:Nat) (e:CE)|idx (i:Nat) (e:CE)
 | spart (i:Nat) (a:CE)
 | srem (i:Nat) (a:CE)
 | fstr (x:Str) (a b:CE)
 | split (a b:CE)
 | join (a b:CE)
 | fstrJ (x y:Str) (a b c:CE)
 | xfl (f:Str) (a:CE)
 | comp (N':List Str) (n:Nat) (g:CG) (it:CI) (elt:CE)
inductive CEs where
 | nil|cons (e:CE) (es:CEs)
inductive CO where
 | none|some (e:CE)
inductive CG where
 | name (i:Nat)|tup (gs:CGs)|sub (a b:CE)
inductive CGs where
 | nil|cons (g:CG) (gs:CGs)
inductive CI where
 | seq (e:CE)|rng (es:CEs)|zip (es:CEs)|enum (es:CEs)|sgn (e:CE)
end
structure Rd where
 e:DE
 t:DT
noncomputable def CEs.len:CEs->Nat
 | .nil=>0
 | .cons _ es=>es.len+1
noncomputable def CGs.len:CGs->Nat
 | .nil=>0
 | .cons _ es=>es.len+1
noncomputable def plain (t:DE):Rd:=⟨t,dTru t⟩
mutual
noncomputable def rE (Xe:DSt->DK):CE->Rd
 | .var i=>plain (dVar i)
 | .int i=>⟨dC (.int i),fun _ _ _=>False⟩
 | .bl b=>⟨dC (.bl b),fun _ _ _=>False⟩
 | .non=>⟨dC .non,fun _ _ _=>False⟩
 | .str x=>⟨dC (.str x),fun _ _ _=>False⟩
 | .glo _ d=>plain (dC d)
 | .ty t=>plain (dC (.ty (tyStr t)))
 | .bin op a b=>plain (d2 (bOp op) (rE Xe a).e (rE Xe b).e)
 | .neg a=>plain (dNeg (rE Xe a).e)
 | .not a=>⟨dNotB (rE Xe a).e,dNot (rE Xe a).t⟩
 | .cmp op a b=>⟨d2 (cOp op) (rE Xe a).e (rE Xe b).e,dTest (d2 (cOp op) (rE Xe a).e (rE Xe b).e)⟩
 | .chain op op' a b c=>⟨dChain (cOp op) (cOp op') (rE Xe a).e (rE Xe b).e (rE Xe c).e,dTest (dChain (cOp op) (cOp op') (rE Xe a).e (rE Xe b).e (rE Xe c).e)⟩
 | .chain3 op op' op'' a b c d=>⟨dChain3 (cOp op) (cOp op') (cOp op'') (rE Xe a).e (rE Xe b).e (rE Xe c).e (rE Xe d).e,dTest (dChain3 (cOp op) (cOp op') (cOp op'') (rE Xe a).e (rE Xe b).e (rE Xe c).e (rE Xe d).e)⟩
 | .one a=>rE Xe a
 | .and a b=>⟨dAndV (rE Xe a).e (rE Xe b).e,dAnd (rE Xe a).t (rE Xe b).t⟩
 | .or a b=>⟨dOrV (rE Xe a).e (rE Xe b).e,dOr (rE Xe a).t (rE Xe b).t⟩
 | .ife c a b=>⟨dIfE (rE Xe c).t (rE Xe a).e (rE Xe b).e,fun _ _ _=>False⟩
 | .tup es=>plain (dTup (rEs Xe es))
 | .lst es=>plain (dLst (rEs Xe es))
 | .dic0=>⟨dDic0,fun _ _ _=>False⟩
 | .ix a b=>plain (d2 iOp (rE Xe a).e (rE Xe b).e)
 | .sl a lo hi=>plain (dSl (rE Xe a).e (rO Xe lo) (rO Xe hi))
 | .spart i a=>plain (dSpart (dVar i) (dCons (rE Xe a).e dNil))
 | .srem i a=>plain (dSrem (dVar i) (dCons (rE Xe a).e dNil))
 | .fstr x a b=>plain (dFstr x (rE Xe a).e (rE Xe b).e)
 | .split a b=>plain (dSplit (rE Xe a).e (dCons (rE Xe b).e dNil))
 | .fstrJ x y a b c=>plain (dFstrJ x y (rE Xe a).e (rE Xe b).e (rE Xe c).e)
 | .join a b=>plain (dJoin (rE Xe a).e (dCons (rE Xe b).e dNil))
 | .xfl f a=>plain (dXfl f (rE Xe a).e)
 | .call _ S es=>plain (dCall S Xe (rEs Xe es))
 | .callv i alts es=>plain (dCallV alts i Xe (rEs Xe es))
 | .bi b es=>plain (dCB (biSem b) (rEs Xe es))
 | .app i e=>plain (dApp (dVar i) (rE Xe e).e)
 | .idx i e=>plain (dIdx (dVar i) (rE Xe e).e)
 | .comp _ n g it elt=>plain (dComp n (rI Xe it) (rG X0 g) (rE X0 elt).e)
noncomputable def rEs (Xe:DSt->DK):CEs->DA
 | .nil=>dNil
 | .cons e es=>dCons (rE Xe e).e (rEs Xe es)
noncomputable def rO (Xe:DSt->DK):CO->DO
 | .none=>dNoPart
 | .some e=>dPart (rE Xe e).e
noncomputable def rG (Xe:DSt->DK):CG->DG
 | .name i=>gdName i
 | .tup gs=>gdTup gs.len (rGs Xe gs)
 | .sub a b=>gdSub (rE Xe a).e (rE Xe b).e
noncomputable def rGs (Xe:DSt->DK):CGs->DGs
 | .nil=>gdNil
 | .cons g gs=>gdCons (rG Xe g) (rGs Xe gs)
noncomputable def rI (Xe:DSt->DK):CI->DI
 | .seq e=>diSeq (rE Xe e).e
 | .rng es=>diRng (rEs Xe es)
 | .zip es=>diZip (rEs Xe es)
 | .enum es=>diEnum (rEs Xe es)
 | .sgn e=>diStr (rE Xe e).e
end
structure Ck where
 N:List Str
 sc:Scope
 top:Bool
 cal:Bool
noncomputable def Ck.kind (k:Ck) (x:Str):Option NameKind:=k.sc.names.lookup x
noncomputable def Ck.gl (k:Ck) (x:Str):Bool:=decide (k.kind x=some .globalImplicit)
noncomputable def Ck.vis (k:Ck) (x:Str):Bool:=decide (k.kind x=some .local) || decide (k.kind x=some .cell) || decide (k.kind x=some .free)
noncomputable def Ck.loc (k:Ck) (x:Str):Bool:=decide (k.kind x=some .local) || (k.top&&decide (k.kind x=some .cell))
noncomputable def okName (x:Str):Bool:=!(x==("__debug__":Str))&&!(x==("__classdict__":Str))
noncomputable def Ck.slot (k:Ck) (i:Nat) (x:Str):Bool:=decide (k.N[i]?=some x)&&k.vis x&&okName x
noncomputable def blkB (k:Ck) (N':List Str) (sc:Scope):Bool :=
 decide (sc.kind=.function)&&sc.names.all (fun y=>!decide (y.2=.cell))&&sc.names.all (fun y=>!decide (y.2=.local) || decide (sc.names.lookup y.1=some .local))
 && sc.names.all (fun y=>!decide (y.2=.free) || decide (k.kind y.1=some .cell) || decide (k.kind y.1=some .free))
 && (List.range k.N.length).all (fun i=>match N'[i]? with
   | some x=>match sc.names.lookup x with
    | some .free=>decide (k.N[i]?=some x)
    | some .local=>false
    | some .cell=>false
    | _=>true
   | none=>true)&&decide (k.N.length<=N'.length)&&decide N'.Nodup
mutual
noncomputable def isE (k:Ck):CE->Expr->Bool
 | .var i,e=>match e with | .Name x _=>k.slot i x|_=>false
 | .int i,e=>match e with | .Constant (.int j) _ _=>decide (i=j)|_=>false
 | .bl b,e=>match e with | .Constant (.bool c) _ _=>decide (b=c)|_=>false
 | .non,e=>match e with | .Constant .none _ _=>true|_=>false
 | .str x,e=>match e with | .Constant (.str y) _ _=>decide (x=y)|_=>false
 | .glo x _,e=>match e with | .Name y _=>decide (x=y)&&k.gl x&&okName x|_=>false
 | .ty t,e=>match e with | .Name y _=>decide (tyName t=y)&&k.gl y|_=>false
 | .bin op a b,e=>match e with | .BinOp x op' y _=>decide (op=op')&&isE k a x&&isE k b y|_=>false
 | .neg a,e=>match e with | .UnaryOp .USub x _=>isE k a x|_=>false
 | .not a,e=>match e with | .UnaryOp .Not x _=>isE k a x|_=>false
 | .cmp op a b,e=>match e with | .Compare x [op'] [y] _=>decide (op=op')&&isE k a x&&isE k b y|_=>false
 | .chain op op' a b c,e=>match e with | .Compare x [p,p'] [y,z] _=>decide (op=p)&&decide (op'=p')&&isE k a x&&isE k b y&&isE k c z|_=>false
 | .chain3 op op' op'' a b c d,e=>match e with | .Compare x [p,p',p''] [y,z,w] _=>decide (op=p)&&decide (op'=p')&&decide (op''=p'')&&isE k a x&&isE k b y&&isE k c z&&isE k d w|_=>false
 | .one a,e=>match e with | .BoolOp _ [x] _=>isE k a x|_=>false
 | .and a b,e=>match e with | .BoolOp .And (x::y::r) pos=>isE k a x&&isE k b (.BoolOp .And (y::r) pos)|_=>false
 | .or a b,e=>match e with | .BoolOp .Or (x::y::r) pos=>isE k a x&&isE k b (.BoolOp .Or (y::r) pos)|_=>false
 | .ife c a b,e=>match e with | .IfExp x y z _=>isE k c x&&isE k a y&&isE k b z|_=>false
 | .tup es,e=>match e with | .Tuple xs _ _=>isEs k es xs|_=>false
 | .lst es,e=>match e with | .List xs _=>isEs k es xs|_=>false
 | .dic0,e=>match e with | .Dict [] [] _=>true|_=>false
 | .ix a b,e=>match e with | .Subscript x y _=>isE k a x&&isE k b y|_=>false
 | .sl a lo hi,e=>match e with | .Subscript x (.Slice l h none _) _=>isE k a x&&isO k lo l&&isO k hi h|_=>false
 | .spart i a,e=>match e with | .Call (.Attribute (.Name x _) m ap) [y] [] p=>decide (m="partition")&&k.slot i x&&isE k a y&&(ap.endLine==p.line)|_=>false
 | .srem i a,e=>match e with | .Call (.Attribute (.Name x _) m ap) [y] [] p=>decide (m="removeprefix")&&k.slot i x&&isE k a y&&(ap.endLine==p.line)|_=>false
 | .fstr x a b,e=>match e with | .JoinedStr [v1,v2,v3] _=>(match v1 with | .FormattedValue u c1 none _=>decide (c1=-1)&&isE k a u|_=>false)&&(match v2 with | .Constant (.str z) _ _=>decide (x=z)|_=>false)&&(match v3 with | .FormattedValue u c1 none _=>decide (c1=-1)&&isE k b u|_=>false)|_=>false
 | .fstrJ x y a b c,e=>match e with | .JoinedStr [v1,v2,v3,v4,v5] _=>(match v1 with | .FormattedValue u c1 none _=>decide (c1=-1)&&isE k a u|_=>false)&&(match v2 with | .Constant (.str z) _ _=>decide (x=z)|_=>false)&&(match v3 with | .FormattedValue u c1 none _=>decide (c1=-1)&&isE k b u|_=>false)&&(match v4 with | .Constant (.str z) _ _=>decide (y=z)|_=>false)&&(match v5 with | .FormattedValue u c1 none _=>decide (c1=-1)&&isE k c u|_=>false)|_=>false
 | .split a b,e=>match e with | .Call (.Attribute (.Name x xp) m ap) [y] [] p=>decide (m="split")&&isE k a (.Name x xp)&&isE k b y&&(ap.endLine==p.line)|_=>false
 | .join a b,e=>match e with | .Call (.Attribute (.Constant (.str x) cn xp) m ap) [y] [] p=>decide (m="join")&&isE k a (.Constant (.str x) cn xp)&&isE k b y&&(ap.endLine==p.line)|_=>false
 | .xfl f a,e=>match e with | .Attribute (.Name x p) g _=>decide (f=g)&&isE k a (.Name x p)|_=>false
 | .callv i _ es,e=>match e with | .Call (.Name y _) (x::xs) [] _=>k.slot i y&&isEs k es (x::xs)&&k.cal|_=>false
 | .call x _ es,e=>match e with | .Call (.Name y _) xs [] _=>decide (x=y)&&k.gl x&&okName x&&isEs k es xs&&k.cal|_=>false
 | .bi b es,e=>match e with | .Call (.Name y _) (x::xs) [] _=>decide (biName b=y)&&k.gl y&&isEs k es (x::xs)&&(k.cal || quiet b)|_=>false
 | .app i a,e=>match e with | .Call (.Attribute (.Name x _) m ap) [y] [] p=>decide (m="append")&&k.slot i x&&isE k a y&&(ap.endLine==p.line)|_=>false
 | .idx i a,e=>match e with | .Call (.Attribute (.Name x _) m ap) [y] [] p=>decide (m="index")&&k.slot i x&&isE k a y&&(ap.endLine==p.line)|_=>false
 | .comp N' n g it elt,e=>match e with
  | .ListComp y [⟨tg,iter,[],z⟩] sc _=>decide (z=0)&&blkB k N' sc&&decide (n=N'.length-k.N.length)&&isG ⟨N',sc,false,k.cal⟩ g tg&&isI k tg it iter&&isE ⟨N',sc,false,k.cal⟩ elt y&&k.cal
  | _=>false
noncomputable def isEs (k:Ck):CEs->List Expr->Bool
 | .nil,xs=>match xs with | []=>true|_=>false
 | .cons e es,xs=>match xs with|x::r=>isE k e x&&isEs k es r|_=>false
noncomputable def isO (k:Ck):CO->Option Expr->Bool
 | .none,x=>match x with|none=>true|_=>false
 | .some e,x=>match x with|some y=>isE k e y|_=>false
noncomputable def isG (k:Ck):CG->Expr->Bool
 | .name i,e=>match e with | .Name x _=>decide (k.N[i]?=some x)&&k.loc x|_=>false
 | .tup gs,e=>match e with | .Tuple xs _ _=>isGs k gs xs&&k.cal|_=>false
 | .sub a b,e=>match e with | .Subscript x y _=>isE k a x&&isE k b y|_=>false
noncomputable def isGs (k:Ck):CGs->List Expr->Bool
 | .nil,xs=>match xs with | []=>true|_=>false
 | .cons e es,xs=>match xs with|x::r=>isG k e x&&isGs k es r|_=>false
noncomputable def isI (k:Ck) (tg:Expr):CI->Expr->Bool
 | .seq e,x=>isE k e x
 | .rng es,x=>match x with | .Call (.Name y _) (a::r) [] _=>decide (y="range")&&k.gl y&&isEs k es (a::r)|_=>false
 | .zip es,x=>match tg with | .Tuple _ _ _=>(match x with | .Call (.Name y _) (a::r) [] _=>decide (y="zip")&&k.gl y&&isEs k es (a::r)|_=>false)|_=>false
 | .enum es,x=>match tg with | .Tuple _ _ _=>(match x with | .Call (.Name y _) (a::r) [] _=>decide (y="enumerate")&&k.gl y&&isEs k es (a::r)|_=>false)|_=>false
 | .sgn e,x=>isE k e x
end
noncomputable def onAlts (P:Str->Str->DSp->Prop) (G:Str->D->Prop):List (Str×DSp)->Prop
 | []=>True
 | a::r=>P "" a.1 a.2/\G a.1 (.fn a.1)/\onAlts P G r
theorem onAlts_mem {P:Str->Str->DSp->Prop} {G:Str->D->Prop} {n:Str} {S:DSp}:∀ {l:List (Str×DSp)},onAlts P G l->(n,S)∈l->P "" n S/\G n (.fn n)
 | [],_,h=>nomatch h
 | a::r,o,h=>by
  rcases List.mem_cons.mp h with e|h
  ·subst e;exact⟨o.1,o.2.1⟩
  ·exact onAlts_mem o.2.2 h
theorem onAlts_mono {P P':Str->Str->DSp->Prop} {G G':Str->D->Prop} (p:∀ c x S,P c x S->P' c x S) (g:∀ x d,G x d->G' x d):∀ {l:List (Str×DSp)},onAlts P G l->onAlts P' G' l
 | [],_=>trivial
 | a::r,o=>⟨p _ _ _ o.1,g _ _ o.2.1,onAlts_mono p g o.2.2⟩
mutual
noncomputable def onE (P:Str->Str->DSp->Prop) (G:Str->D->Prop):CE->Prop
 | .var _ | .int _ | .bl _ | .non | .str _ | .ty _ | .dic0=>True
 | .glo x d=>G x d
 | .bin _ a b | .cmp _ a b | .and a b | .or a b | .ix a b=>onE P G a/\onE P G b
 | .neg a | .not a | .one a=>onE P G a
 | .chain _ _ a b c | .ife a b c=>onE P G a/\onE P G b/\onE P G c
 | .chain3 _ _ _ a b c d=>onE P G a/\onE P G b/\onE P G c/\onE P G d
 | .tup es | .lst es | .bi _ es=>onEs P G es
 | .sl a lo hi=>onE P G a/\onO P G lo/\onO P G hi
 | .spart _ a | .srem _ a=>onE P G a
 | .fstr _ a b=>onE P G a/\onE P G b
 | .fstrJ _ _ a b c=>onE P G a/\onE P G b/\onE P G c
 | .split a b | .join a b=>onE P G a/\onE P G b
 | .call x S es=>P "" x S/\onEs P G es
 | .callv _ alts es=>onAlts P G alts/\onEs P G es
 | .xfl _ a=>onE P G a
 | .app _ e | .idx _ e=>onE P G e
 | .comp _ _ g it elt=>onG P G g/\onI P G it/\onE P G elt
noncomputable def onEs (P:Str->Str->DSp->Prop) (G:Str->D->Prop):CEs->Prop
 | .nil=>True
 | .cons e es=>onE P G e/\onEs P G es
noncomputable def onO (P:Str->Str->DSp->Prop) (G:Str->D->Prop):CO->Prop
 | .none=>True
 | .some e=>onE P G e
noncomputable def onG (P:Str->Str->DSp->Prop) (G:Str->D->Prop):CG->Prop
 | .name _=>True
 | .tup gs=>onGs P G gs
 | .sub a b=>onE P G a/\onE P G b
noncomputable def onGs (P:Str->Str->DSp->Prop) (G:Str->D->Prop):CGs->Prop
 | .nil=>True
 | .cons g gs=>onG P G g/\onGs P G gs
noncomputable def onI (P:Str->Str->DSp->Prop) (G:Str->D->Prop):CI->Prop
 | .seq e=>onE P G e
 | .rng es=>onEs P G es
 | .zip es=>onEs P G es
 | .enum es=>onEs P G es
 | .sgn e=>onE P G e
end
end DL
end
noncomputable section
namespace DL
open PySem PySem.Spec PyProof.Rows L2
structure CtxOk (X:Cx) (k:Ck):Prop where
 N:X.N=k.N
 nd:k.N.Nodup
 sc:∀ x κ,k.kind x=some κ->κ≠.free->X.env.kindOf x=some κ
 fr:∀ x,k.kind x=some .free->X.env.kindOf x=some .cell\/X.env.kindOf x=some .free
 fn:k.top=true->∀ x,X.fn x=true
 calm:k.cal=true->X.calm=true
 room:k.cal=true->Room 0 X.A
 hu:X.A.units+66<cLine
 blt:Blt X.mg
 po:PassesOwn (model X.prog X.w) X.A X.env X.xe
 tab:xTabB X.K=true
 st:k.top=true->X.stack=X.env::X.outer/\X.env.frame=some X.env.locals
structure Sh (e:Expr):Prop where
 star:∀ env es,starEach (e::es) env=(false,eval e env)::starEach es env
 ix:PlainIx e
 mark:∀ op,behindInMarks op e=false
 set:∀ env x,foldedSetIterable e env x=pure x
 sub:∀ o pos env v,assign (.Subscript o e pos) env v=(do
   let ov <- holding [v] (eval o env)
   let iv <- holding [v,ov] (eval e env)
   standAt pos
   holding [v,ov,iv] (setItem ov iv v)
   release [v,ov,iv] [])
structure SdE (X:Cx) (rz:Bool) (Xe:DSt->DK) (c:CE) (e:Expr):Prop where
 pe:PE X e (lift (X.L rz Xe) (rE Xe c).e)
 pt:PT X e (liftT (X.L rz Xe) (rE Xe c).t)
 pw:∀ op vs pos,e=.BoolOp op vs pos->PW X e (liftT (X.L rz Xe) (rE Xe c).t)
 sh:Sh e
structure SdEs (X:Cx) (rz:Bool) (Xe:DSt->DK) (c:CEs) (es:List Expr):Prop where
 pa:PA X es (liftA (X.L rz Xe) (rEs Xe c))
 pl:∀ pos env,(backTo pos (starEach es env)).any (·.1)=false
 hd:∀ e r,es=e::r->Sh e/\∀ pos env,(backTo pos (starEach r env)).any (·.1)=false
structure SdG (X:Cx) (rz:Bool) (Xe:DSt->DK) (c:CG) (e:Expr):Prop where
 pg:PG X e (liftG (X.L rz Xe) (rG Xe c))
 as:∀ env es,assignEach (e::es) env=(false,assign e env)::assignEach es env
structure SdGs (X:Cx) (rz:Bool) (Xe:DSt->DK) (c:CGs) (es:List Expr):Prop where
 pg:PGs X es (liftGs (X.L rz Xe) (rGs Xe c))
 len:∀ env,(assignEach es env).length=c.len
 st:∀ env,(assignEach es env).findIdx? (·.1)=none
structure SdI (X:Cx) (rz:Bool) (Xe:DSt->DK) (tg:Expr) (c:CI) (e:Expr):Prop where
 pi:PI X tg e (liftI (X.L rz Xe) (rI Xe c))
 set:∀ env x,foldedSetIterable e env x=pure x
section
variable {X:Cx} {rz:Bool} {Xe:DSt->DK} {k:Ck}
theorem CtxOk.vis (C:CtxOk X k) {x:Str} (h:k.vis x=true):Vis X.env.scope x:=by
 unfold Ck.vis at h
 simp only[Bool.or_eq_true,decide_eq_true_eq] at h
 rcases h with (h|h)|h
 ·exact .inl (C.sc x _ h (by decide))
 ·exact .inr (.inl (C.sc x _ h (by decide)))
 ·exact .inr (C.fr x h)
theorem CtxOk.gl (C:CtxOk X k) {x:Str} (h:k.gl x=true):Gl X x:=by
 unfold Ck.gl at h
 exact C.sc x _ (of_decide_eq_true h) (by decide)
theorem CtxOk.loc (C:CtxOk X k) {x:Str} (h:k.loc x=true):Loc X.env.scope x/\(X.fn x=true\/X.env.scope.names.lookup x=some .local):=by
 unfold Ck.loc at h
 simp only[Bool.or_eq_true,Bool.and_eq_true,decide_eq_true_eq] at h
 rcases h with h|⟨h1,h⟩
 ·have:=C.sc x _ h (by decide);exact⟨.inl this,.inr this⟩
 ·exact⟨.inr (C.sc x _ h (by decide)),.inl (C.fn h1 x)⟩
theorem CtxOk.var (C:CtxOk X k) {i:Nat} {x:Str} {pos:Pos} (h:k.slot i x=true):PE X (.Name x pos) (lift (X.L rz Xe) (dVar i)):=by
 unfold Ck.slot okName at h
 simp only[Bool.and_eq_true,decide_eq_true_eq,Bool.not_eq_true'] at h
 exact de_var (pe_var (by rw[C.N];exact h.1.1) (C.vis h.1.2) h.2.1 h.2.2)
theorem CtxOk.tvar (C:CtxOk X k) {i:Nat} {x:Str} {pos:Pos} (h:k.slot i x=true):PE X (.Name x pos) (tVar i):=by
 unfold Ck.slot okName at h
 simp only[Bool.and_eq_true,decide_eq_true_eq,Bool.not_eq_true'] at h
 exact pe_var (by rw[C.N];exact h.1.1) (C.vis h.1.2) h.2.1 h.2.2
theorem CtxOk.qt (C:CtxOk X k) {b:Bool} (h:(k.cal || b)=true):X.calm=true\/b=true:=by
 cases hk:k.cal with
 | true=>exact .inl (C.calm hk)
 | false=>rw [hk] at h;exact .inr h
theorem lookup_relabel_ne {env:Env}:∀ {names:List (Str×NameKind)} {x:Str} {κ:NameKind},names.lookup x=some κ->κ≠.free ->
  (names.map fun (n,k)=>if (k==NameKind.free&&env.scope.kind==.function&&env.kindOf n==some .cell) then (n,NameKind.cell) else (n,k)).lookup x=some κ
 | [],_,_,h,_=>by simp at h
 | (n,k)::r,x,κ,h,hne=>by
  have ih:=@lookup_relabel_ne env r x κ
  simp only[List.map_cons]
  rw[List.lookup_cons] at h
  by_cases hc:(k==NameKind.free&&env.scope.kind==.function&&env.kindOf n==some .cell)=true
  ·rw[if_pos hc,List.lookup_cons]
   cases hx:x==n with
   | true =>
    simp only[hx] at h;cases h
    simp only[Bool.and_eq_true,beq_iff_eq] at hc
    exact absurd hc.1.1 hne
   | false=>simp only[hx] at h;exact ih h hne
  ·rw[if_neg hc,List.lookup_cons]
   cases hx:x==n with
   | true=>simp only[hx] at h;cases h;rfl
   | false=>simp only[hx] at h;exact ih h hne
theorem lookup_relabel_free {env:Env}:∀ {names:List (Str×NameKind)} {x:Str},names.lookup x=some .free ->
  (names.map fun (n,k)=>if (k==NameKind.free&&env.scope.kind==.function&&env.kindOf n==some .cell) then (n,NameKind.cell) else (n,k)).lookup x=some .cell \/
  (names.map fun (n,k)=>if (k==NameKind.free&&env.scope.kind==.function&&env.kindOf n==some .cell) then (n,NameKind.cell) else (n,k)).lookup x=some .free
 | [],_,h=>by simp at h
 | (n,k)::r,x,h=>by
  have ih:=@lookup_relabel_free env r x
  simp only[List.map_cons]
  rw[List.lookup_cons] at h
  by_cases hc:(k==NameKind.free&&env.scope.kind==.function&&env.kindOf n==some .cell)=true
  ·rw[if_pos hc,List.lookup_cons]
   cases hx:x==n with
   | true=>exact .inl rfl
   | false=>simp only[hx] at h;exact ih h
  ·rw[if_neg hc,List.lookup_cons]
   cases hx:x==n with
   | true=>simp only[hx] at h;cases h;exact .inr rfl
   | false=>simp only[hx] at h;exact ih h
theorem blkB_ok (C:CtxOk X k) {N':List Str} {sc:Scope} (h:blkB k N' sc=true):BlkOk X.N X.env N' sc/\N'.Nodup:=by
 unfold blkB at h
 simp only[Bool.and_eq_true,decide_eq_true_eq,List.all_eq_true,Bool.or_eq_true,Bool.not_eq_true',decide_eq_false_iff_not] at h
 obtain⟨⟨⟨⟨⟨⟨h1,h2⟩,h3⟩,h4⟩,h5⟩,h6⟩,h7⟩:=h
 refine⟨⟨h1,fun y hy=>h2 y hy,fun y hy e=>(h3 y hy).resolve_left fun z=>z e,fun y hy e=>?_,fun i x hi hx κ hκ=>?_,by rw[C.N];exact h6⟩,h7⟩
 ·rcases h4 y hy with (z|z)|z
  ·exact absurd e z
  ·exact .inl (C.sc _ _ z (by decide))
  ·exact C.fr _ z
 ·have q:=h5 i (List.mem_range.mpr (by rw[<- C.N];exact hi))
  rw[hx] at q
  simp only[hκ] at q
  cases κ with
  | «local»=>simp at q
  | cell=>simp at q
  | free=>exact .inr (.inr ⟨rfl,by rw[C.N];exact of_decide_eq_true q⟩)
  | globalExplicit=>exact .inr (.inl rfl)
  | globalImplicit=>exact .inl rfl
theorem CtxOk.blk (C:CtxOk X k) {N':List Str} {sc:Scope} (h:blkB k N' sc=true) (cl:List (Str×Addr)) (Cn:Addr) (s:Shared) (H:Hp) (ex:List Addr):CtxOk (blkCx X N' sc cl Cn s H ex []) ⟨N',sc,false,k.cal⟩ :=
 ⟨rfl,(blkB_ok C h).2,fun x κ e hne=>lookup_relabel_ne (env:=X.env) e hne,fun x e=>lookup_relabel_free (env:=X.env) e,fun z=>(by cases z),C.calm,C.room,C.hu,C.blt,PassesOwn.never,C.tab,fun z=>(by cases z)⟩
end
theorem plain_sd {X:Cx} {rz:Bool} {Xe:DSt->DK} {c:CE} {e:Expr} {t:DE} (hr:rE Xe c=plain t) (h:PE X e (lift (X.L rz Xe) t)) (hb:∀ op vs pos,e≠.BoolOp op vs pos) (he:∀ whole,isTrue e X.env whole=(do let v <- whole;standAt e.pos;holding [v] (truthy v))) (sh:Sh e):SdE X rz Xe c e :=
 ⟨by rw[hr];exact h,by rw[hr];exact dt_tru h he,fun op vs pos z=>absurd z (hb op vs pos),sh⟩
theorem const_sd {X:Cx} {rz:Bool} {Xe:DSt->DK} {c:CE} {e:Expr} {t:DE} (hr:rE Xe c=⟨t,fun _ _ _=>False⟩) (h:PE X e (lift (X.L rz Xe) t)) (hb:∀ op vs pos,e≠.BoolOp op vs pos) (sh:Sh e):SdE X rz Xe c e :=
 ⟨by rw[hr];exact h,by rw[hr];exact fun pins s σ H Q I h=>by obtain⟨_,_,_,_,_,t,_⟩:=h;exact t.elim,fun op vs pos z=>absurd z (hb op vs pos),sh⟩
mutual
theorem onE_mono {P P':Str->Str->DSp->Prop} {G G':Str->D->Prop}:∀ (c:CE),(∀ c x S,P c x S->P' c x S)->(∀ x d,G x d->G' x d)->onE P G c->onE P' G' c
 | .var _,_,_,_ | .int _,_,_,_ | .bl _,_,_,_ | .non,_,_,_ | .str _,_,_,_ | .ty _,_,_,_ | .dic0,_,_,_=>True.intro
 | .glo x d,p,g,h=>g x d h
 | .bin _ a b,p,g,h | .cmp _ a b,p,g,h | .and a b,p,g,h | .or a b,p,g,h | .ix a b,p,g,h=>⟨onE_mono a p g h.1,onE_mono b p g h.2⟩
 | .neg a,p,g,h | .not a,p,g,h | .one a,p,g,h=>onE_mono a p g h
 | .chain _ _ a b c,p,g,h | .ife a b c,p,g,h=>⟨onE_mono a p g h.1,onE_mono b p g h.2.1,onE_mono c p g h.2.2⟩
 | .chain3 _ _ _ a b c d,p,g,h=>⟨onE_mono a p g h.1,onE_mono b p g h.2.1,onE_mono c p g h.2.2.1,onE_mono d p g h.2.2.2⟩
 | .tup es,p,g,h | .lst es,p,g,h | .bi _ es,p,g,h=>onEs_mono es p g h
 | .sl a lo hi,p,g,h=>⟨onE_mono a p g h.1,onO_mono lo p g h.2.1,onO_mono hi p g h.2.2⟩
 | .spart _ a,p,g,h | .srem _ a,p,g,h=>onE_mono a p g h
 | .fstr _ a b,p,g,h=>⟨onE_mono a p g h.1,onE_mono b p g h.2⟩
 | .fstrJ _ _ a b c,p,g,h=>⟨onE_mono a p g h.1,onE_mono b p g h.2.1,onE_mono c p g h.2.2⟩
 | .split a b,p,g,h | .join a b,p,g,h=>⟨onE_mono a p g h.1,onE_mono b p g h.2⟩
 | .call x S es,p,g,h=>⟨p "" x S h.1,onEs_mono es p g h.2⟩
 | .callv _ _ es,p,g,h=>⟨onAlts_mono p g h.1,onEs_mono es p g h.2⟩
 | .xfl _ a,p,g,h=>onE_mono a p g h
 | .app _ e,p,g,h | .idx _ e,p,g,h=>onE_mono e p g h
 | .comp _ _ t it elt,p,g,h=>⟨onG_mono t p g h.1,onI_mono it p g h.2.1,onE_mono elt p g h.2.2⟩
theorem onEs_mono {P P':Str->Str->DSp->Prop} {G G':Str->D->Prop}:∀ (c:CEs),(∀ c x S,P c x S->P' c x S)->(∀ x d,G x d->G' x d)->onEs P G c->onEs P' G' c
 | .nil,_,_,_=>True.intro
 | .cons e es,p,g,h=>⟨onE_mono e p g h.1,onEs_mono es p g h.2⟩
theorem onO_mono {P P':Str->Str->DSp->Prop} {G G':Str->D->Prop}:∀ (c:CO),(∀ c x S,P c x S->P' c x S)->(∀ x d,G x d->G' x d)->onO P G c->onO P' G' c
 | .none,_,_,_=>True.intro
 | .some e,p,g,h=>onE_mono e p g h
theorem onG_mono {P P':Str->Str->DSp->Prop} {G G':Str->D->Prop}:∀ (c:CG),(∀ c x S,P c x S->P' c x S)->(∀ x d,G x d->G' x d)->onG P G c->onG P' G' c
 | .name _,_,_,_=>True.intro
 | .tup gs,p,g,h=>onGs_mono gs p g h
 | .sub a b,p,g,h=>⟨onE_mono a p g h.1,onE_mono b p g h.2⟩
theorem onGs_mono {P P':Str->Str->DSp->Prop} {G G':Str->D->Prop}:∀ (c:CGs),(∀ c x S,P c x S->P' c x S)->(∀ x d,G x d->G' x d)->onGs P G c->onGs P' G' c
 | .nil,_,_,_=>True.intro
 | .cons e es,p,g,h=>⟨onG_mono e p g h.1,onGs_mono es p g h.2⟩
theorem onI_mono {P P':Str->Str->DSp->Prop} {G G':Str->D->Prop}:∀ (c:CI),(∀ c x S,P c x S->P' c x S)->(∀ x d,G x d->G' x d)->onI P G c->onI P' G' c
 | .seq e,p,g,h=>onE_mono e p g h
 | .rng es,p,g,h=>onEs_mono es p g h
 | .zip es,p,g,h=>onEs_mono es p g h
 | .enum es,p,g,h=>onEs_mono es p g h
 | .sgn e,p,g,h=>onE_mono e p g h
end
theorem and2 {a b:Bool} (h:(a&&b)=true):a=true/\b=true:=by
 cases a with
 | true=>exact⟨rfl,h⟩
 | false=>exact nfx h
theorem okName1 {x:Str} (h:okName x=true):(x==("__debug__":Str))=false:=by
 obtain⟨h,_⟩:=and2 (show (!(x==("__debug__":Str))&&_)=true from h)
 revert h
 cases (x==("__debug__":Str)) with
 | true=>exact fun h=>absurd h Bool.false_ne_true
 | false=>exact fun _=>rfl
set_option tactic.hygienic true
mutual
theorem sE:∀ (c:CE) (rz:Bool) (Xe:DSt->DK) (k:Ck) (X:Cx) (e:Expr),CtxOk X k->onE (FnAt X) (GloAt X) c->isE k c e=true->SdE X rz Xe c e
  | .var i,rz,Xe,k,X,e,C,on,h=>by
    cases e with
    | Name x p=>exact plain_sd rfl (C.var (show k.slot i x=true from h)) (fun _ _ _ z=>nomatch z) (fun _=>rfl) ⟨fun _ _=>rfl,fun _ _=>rfl,fun _=>rfl,fun _ _=>rfl,fun _ _ _ _=>rfl⟩
    | _=>exact nfx h
  | .int i,rz,Xe,k,X,e,C,on,h=>by
    cases e with
    | Constant c q p =>
      cases c with
      | int j =>
        obtain rfl:=of_decide_eq_true (show decide (i=j)=true from h)
        exact const_sd rfl (de_con pe_int fun H=>.int _) (fun _ _ _ z=>nomatch z) ⟨fun _ _=>rfl,fun _ _=>rfl,fun _=>rfl,fun _ _=>rfl,fun _ _ _ _=>rfl⟩
      | _=>exact nfx h
    | _=>exact nfx h
  | .bl i,rz,Xe,k,X,e,C,on,h=>by
    cases e with
    | Constant c q p =>
      cases c with
      | bool j =>
        obtain rfl:=of_decide_eq_true (show decide (i=j)=true from h)
        exact const_sd rfl (de_con pe_bl fun H=>.bl _) (fun _ _ _ z=>nomatch z) ⟨fun _ _=>rfl,fun _ _=>rfl,fun _=>rfl,fun _ _=>rfl,fun _ _ _ _=>rfl⟩
      | _=>exact nfx h
    | _=>exact nfx h
  | .non,rz,Xe,k,X,e,C,on,h=>by
    cases e with
    | Constant c q p =>
      cases c with
      | none=>exact const_sd rfl (de_con pe_non fun H=>.non) (fun _ _ _ z=>nomatch z) ⟨fun _ _=>rfl,fun _ _=>rfl,fun _=>rfl,fun _ _=>rfl,fun _ _ _ _=>rfl⟩
      | _=>exact nfx h
    | _=>exact nfx h
  | .str i,rz,Xe,k,X,e,C,on,h=>by
    cases e with
    | Constant c q p =>
      cases c with
      | str j =>
        obtain rfl:=of_decide_eq_true (show decide (i=j)=true from h)
        exact const_sd rfl (de_con pe_str fun H=>.str _) (fun _ _ _ z=>nomatch z) ⟨fun _ _=>rfl,fun _ _=>rfl,fun _=>rfl,fun _ _=>rfl,fun _ _ _ _=>rfl⟩
      | _=>exact nfx h
    | _=>exact nfx h
  | .glo x d,rz,Xe,k,X,e,C,on,h=>by
    cases e with
    | Name y p =>
      obtain⟨h1,h3⟩:=and2 (show (_&&okName x)=true from h)
      obtain⟨h1,h2⟩:=and2 (show (decide (x=y)&&k.gl x)=true from h1)
      obtain rfl:=of_decide_eq_true h1
      obtain⟨u,v,e1,e2,e3⟩:=(show GloAt X _ d from on).ex
      exact plain_sd rfl (de_con (pe_glob (C.gl h2) e1 e2 (okName1 h3)) e3) (fun _ _ _ z=>nomatch z) (fun _=>rfl) ⟨fun _ _=>rfl,fun _ _=>rfl,fun _=>rfl,fun _ _=>rfl,fun _ _ _ _=>rfl⟩
    | _=>exact nfx h
  | .ty t,rz,Xe,k,X,e,C,on,h=>by
    cases e with
    | Name y p =>
      obtain⟨h1,h2⟩:=and2 (show (decide (tyName t=y)&&k.gl y)=true from h)
      obtain rfl:=of_decide_eq_true h1
      exact plain_sd rfl (de_ty t C.blt (C.gl h2)) (fun _ _ _ z=>nomatch z) (fun _=>rfl) ⟨fun _ _=>rfl,fun _ _=>rfl,fun _=>rfl,fun _ _=>rfl,fun _ _ _ _=>rfl⟩
    | _=>exact nfx h
  | .bin op a b,rz,Xe,k,X,e,C,on,h=>by
    cases e with
    | BinOp x op' y p =>
      obtain⟨h1,h3⟩:=and2 (show (_&&isE k b y)=true from h)
      obtain⟨h1,h2⟩:=and2 (show (decide (op=op')&&isE k a x)=true from h1)
      obtain rfl:=of_decide_eq_true h1
      exact plain_sd rfl (de_bin (op_b op) (sE a rz Xe k X _ C on.1 h2).pe (sE b rz Xe k X _ C on.2 h3).pe) (fun _ _ _ z=>nomatch z) (fun _=>rfl) ⟨fun _ _=>rfl,fun _ _=>rfl,fun _=>rfl,fun _ _=>rfl,fun _ _ _ _=>rfl⟩
    | _=>exact nfx h
  | .neg a,rz,Xe,k,X,e,C,on,h=>by
    cases e with
    | UnaryOp o x p =>
      cases o with
      | USub=>exact plain_sd rfl (de_neg (sE a rz Xe k X _ C on h).pe) (fun _ _ _ z=>nomatch z) (fun _=>rfl) ⟨fun _ _=>rfl,fun _ _=>rfl,fun _=>rfl,fun _ _=>rfl,fun _ _ _ _=>rfl⟩
      | _=>exact nfx h
    | _=>exact nfx h
  | .not a,rz,Xe,k,X,e,C,on,h=>by
    cases e with
    | UnaryOp o x p =>
      cases o with
      | Not =>
        have s:=sE a rz Xe k X x C on h
        exact⟨de_not s.pe,dt_not s.pt,fun _ _ _ z=>(nomatch z),⟨fun _ _=>rfl,fun _ _=>rfl,fun _=>rfl,fun _ _=>rfl,fun _ _ _ _=>rfl⟩⟩
      | _=>exact nfx h
    | _=>exact nfx h
  | .cmp op a b,rz,Xe,k,X,e,C,on,h=>by
    cases e with
    | Compare x os ys p =>
      cases os with
      | nil=>exact nfx h
      | cons o os =>
        cases os with
        | cons _ _=>exact nfx h
        | nil =>
          cases ys with
          | nil=>exact nfx h
          | cons y ys =>
            cases ys with
            | cons _ _=>exact nfx h
            | nil =>
              obtain⟨h1,h3⟩:=and2 (show (_&&isE k b y)=true from h)
              obtain⟨h1,h2⟩:=and2 (show (decide (op=o)&&isE k a x)=true from h1)
              obtain rfl:=of_decide_eq_true h1
              have s1:=sE a rz Xe k X _ C on.1 h2
              have s2:=sE b rz Xe k X _ C on.2 h3
              exact⟨de_cmp C.hu s1.pe s2.pe (s2.sh.mark op),dt_cmp C.hu s1.pe s2.pe (s2.sh.mark op),fun _ _ _ z=>(nomatch z),⟨fun _ _=>rfl,fun _ _=>rfl,fun _=>rfl,fun _ _=>rfl,fun _ _ _ _=>rfl⟩⟩
    | _=>exact nfx h
  | .chain op op' a b c,rz,Xe,k,X,e,C,on,h=>by
    cases e with
    | Compare x os ys p =>
      cases os with
      | nil=>exact nfx h
      | cons o os =>
        cases os with
        | nil=>exact nfx h
        | cons o' os =>
          cases os with
          | cons _ _=>exact nfx h
          | nil =>
            cases ys with
            | nil=>exact nfx h
            | cons y ys =>
              cases ys with
              | nil=>exact nfx h
              | cons z ys =>
                cases ys with
                | cons _ _=>exact nfx h
                | nil =>
                  obtain⟨h1,h4⟩:=and2 (show (_&&isE k c z)=true from h)
                  obtain⟨h1,h3⟩:=and2 (show (_&&isE k b y)=true from h1)
                  obtain⟨h1,h2⟩:=and2 (show (_&&isE k a x)=true from h1)
                  obtain⟨h1,h0⟩:=and2 (show (decide (op=o)&&decide (op'=o'))=true from h1)
                  obtain rfl:=of_decide_eq_true h1
                  obtain rfl:=of_decide_eq_true h0
                  have s1:=sE a rz Xe k X _ C on.1 h2
                  have s2:=sE b rz Xe k X _ C on.2.1 h3
                  have s3:=sE c rz Xe k X _ C on.2.2 h4
                  exact⟨de_chain C.hu s1.pe s2.pe s3.pe (s3.sh.mark op'),dt_chain C.hu s1.pe s2.pe s3.pe (s3.sh.mark op'),fun _ _ _ z=>(nomatch z),⟨fun _ _=>rfl,fun _ _=>rfl,fun _=>rfl,fun _ _=>rfl,fun _ _ _ _=>rfl⟩⟩
    | _=>exact nfx h
  | .chain3 op op' op'' a b c d,rz,Xe,k,X,e,C,on,h=>by
    cases e with
    | Compare x os ys p =>
      cases os with
      | nil=>exact nfx h
      | cons o os =>
        cases os with
        | nil=>exact nfx h
        | cons o' os =>
         cases os with
         | nil=>exact nfx h
         | cons o'' os =>
          cases os with
          | cons _ _=>exact nfx h
          | nil =>
            cases ys with
            | nil=>exact nfx h
            | cons y ys =>
              cases ys with
              | nil=>exact nfx h
              | cons z ys =>
               cases ys with
               | nil=>exact nfx h
               | cons w ys =>
                cases ys with
                | cons _ _=>exact nfx h
                | nil =>
                  obtain⟨h1,h5⟩:=and2 (show (_&&isE k d w)=true from h)
                  obtain⟨h1,h4⟩:=and2 (show (_&&isE k c z)=true from h1)
                  obtain⟨h1,h3⟩:=and2 (show (_&&isE k b y)=true from h1)
                  obtain⟨h1,h2⟩:=and2 (show (_&&isE k a x)=true from h1)
                  obtain⟨h1,h9⟩:=and2 (show (_&&decide (op''=o''))=true from h1)
                  obtain⟨h1,h0⟩:=and2 (show (decide (op=o)&&decide (op'=o'))=true from h1)
                  obtain rfl:=of_decide_eq_true h1
                  obtain rfl:=of_decide_eq_true h0
                  obtain rfl:=of_decide_eq_true h9
                  have s1:=sE a rz Xe k X _ C on.1 h2
                  have s2:=sE b rz Xe k X _ C on.2.1 h3
                  have s3:=sE c rz Xe k X _ C on.2.2.1 h4
                  have s4:=sE d rz Xe k X _ C on.2.2.2 h5
                  exact⟨de_chain3 C.hu s1.pe s2.pe s3.pe s4.pe (s4.sh.mark op''),dt_chain3 C.hu s1.pe s2.pe s3.pe s4.pe (s4.sh.mark op''),fun _ _ _ z=>(nomatch z),⟨fun _ _=>rfl,fun _ _=>rfl,fun _=>rfl,fun _ _=>rfl,fun _ _ _ _=>rfl⟩⟩
    | _=>exact nfx h
  | .one a,rz,Xe,k,X,e,C,on,h=>by
    cases e with
    | BoolOp op xs pos =>
      cases xs with
      | nil=>exact nfx h
      | cons x xs =>
        cases xs with
        | cons _ _=>exact nfx h
        | nil =>
          have s:=sE a rz Xe k X _ C on (show isE k a x=true from h)
          have w:PW X (.BoolOp op [x] pos) (liftT (X.L rz Xe) (rE Xe a).t):=by
            cases op with
            | And=>exact pw_and1 s.pt
            | Or=>exact pw_or1 s.pt
          exact⟨pe_one s.pe,w.pt,fun _ _ _ z=>by cases z;exact w,⟨fun _ _=>rfl,fun _ _=>rfl,fun _=>rfl,fun _ _=>rfl,fun _ _ _ _=>rfl⟩⟩
    | _=>exact nfx h
  | .and a b,rz,Xe,k,X,e,C,on,h=>by
    cases e with
    | BoolOp op xs pos =>
      cases op with
      | Or=>exact nfx h
      | And =>
        cases xs with
        | nil=>exact nfx h
        | cons x xs =>
          cases xs with
          | nil=>exact nfx h
          | cons y r =>
            obtain⟨h1,h2⟩:=and2 (show (isE k a x&&isE k b (.BoolOp .And (y::r) pos))=true from h)
            have s1:=sE a rz Xe k X _ C on.1 h1
            have s2:=sE b rz Xe k X _ C on.2 h2
            have w:=dw_and s1.pt (s2.pw _ _ _ rfl)
            exact⟨de_and s1.pe s2.pe,w.pt,fun _ _ _ z=>by cases z;exact w,⟨fun _ _=>rfl,fun _ _=>rfl,fun _=>rfl,fun _ _=>rfl,fun _ _ _ _=>rfl⟩⟩
    | _=>exact nfx h
  | .or a b,rz,Xe,k,X,e,C,on,h=>by
    cases e with
    | BoolOp op xs pos =>
      cases op with
      | And=>exact nfx h
      | Or =>
        cases xs with
        | nil=>exact nfx h
        | cons x xs =>
          cases xs with
          | nil=>exact nfx h
          | cons y r =>
            obtain⟨h1,h2⟩:=and2 (show (isE k a x&&isE k b (.BoolOp .Or (y::r) pos))=true from h)
            have s1:=sE a rz Xe k X _ C on.1 h1
            have s2:=sE b rz Xe k X _ C on.2 h2
            have w:=dw_or s1.pt (s2.pw _ _ _ rfl)
            exact⟨de_or s1.pe s2.pe,w.pt,fun _ _ _ z=>by cases z;exact w,⟨fun _ _=>rfl,fun _ _=>rfl,fun _=>rfl,fun _ _=>rfl,fun _ _ _ _=>rfl⟩⟩
    | _=>exact nfx h
  | .ife c a b,rz,Xe,k,X,e,C,on,h=>by
    cases e with
    | IfExp x y z p =>
      obtain⟨h1,h3⟩:=and2 (show (_&&isE k b z)=true from h)
      obtain⟨h1,h2⟩:=and2 (show (isE k c x&&isE k a y)=true from h1)
      exact const_sd rfl (de_ife (sE c rz Xe k X _ C on.1 h1).pt (sE a rz Xe k X _ C on.2.1 h2).pe (sE b rz Xe k X _ C on.2.2 h3).pe) (fun _ _ _ z=>nomatch z) ⟨fun _ _=>rfl,fun _ _=>rfl,fun _=>rfl,fun _ _=>rfl,fun _ _ _ _=>rfl⟩
    | _=>exact nfx h
  | .tup es,rz,Xe,k,X,e,C,on,h=>by
    cases e with
    | Tuple xs q p=>exact plain_sd rfl (de_tup (sEs es rz Xe k X _ C on h).pa) (fun _ _ _ z=>nomatch z) (fun _=>rfl) ⟨fun _ _=>rfl,fun _ _=>rfl,fun _=>rfl,fun _ _=>rfl,fun _ _ _ _=>rfl⟩
    | _=>exact nfx h
  | .lst es,rz,Xe,k,X,e,C,on,h=>by
    cases e with
    | List xs p=>exact plain_sd rfl (de_lst (sEs es rz Xe k X _ C on h).pa) (fun _ _ _ z=>nomatch z) (fun _=>rfl) ⟨fun _ _=>rfl,fun _ _=>rfl,fun _=>rfl,fun _ _=>rfl,fun _ _ _ _=>rfl⟩
    | _=>exact nfx h
  | .dic0,rz,Xe,k,X,e,C,on,h=>by
    cases e with
    | Dict ks vs p =>
      cases ks with
      | cons _ _=>exact nfx h
      | nil =>
        cases vs with
        | cons _ _=>exact nfx h
        | nil=>exact const_sd rfl de_dic0 (fun _ _ _ z=>nomatch z) ⟨fun _ _=>rfl,fun _ _=>rfl,fun _=>rfl,fun _ _=>rfl,fun _ _ _ _=>rfl⟩
    | _=>exact nfx h
  | .ix a b,rz,Xe,k,X,e,C,on,h=>by
    cases e with
    | Subscript x y p =>
      obtain⟨h1,h2⟩:=and2 (show (isE k a x&&isE k b y)=true from h)
      have s2:=sE b rz Xe k X _ C on.2 h2
      exact plain_sd rfl (de_ix (sE a rz Xe k X _ C on.1 h1).pe s2.pe s2.sh.ix) (fun _ _ _ z=>nomatch z) (fun _=>rfl) ⟨fun _ _=>rfl,fun _ _=>rfl,fun _=>rfl,fun _ _=>rfl,fun _ _ _ _=>rfl⟩
    | _=>exact nfx h
  | .sl a lo hi,rz,Xe,k,X,e,C,on,h=>by
    cases e with
    | Subscript x y p =>
      cases y with
      | Slice l u s q =>
        cases s with
        | some _=>exact nfx h
        | none =>
          obtain⟨h1,h3⟩:=and2 (show (_&&isO k hi u)=true from h)
          obtain⟨h1,h2⟩:=and2 (show (isE k a x&&isO k lo l)=true from h1)
          exact plain_sd rfl (de_sl (sE a rz Xe k X _ C on.1 h1).pe (sO lo rz Xe k X _ C on.2.1 h2) (sO hi rz Xe k X _ C on.2.2 h3)) (fun _ _ _ z=>nomatch z) (fun _=>rfl) ⟨fun _ _=>rfl,fun _ _=>rfl,fun _=>rfl,fun _ _=>rfl,fun _ _ _ _=>rfl⟩
      | _=>exact nfx h
    | _=>exact nfx h
  | .spart i a,rz,Xe,k,X,e,C,on,h=>by
    unfold isE at h
    split at h
    · rename_i x p m ap y pos
      obtain⟨h1,h4⟩:=and2 h
      obtain⟨h1,h3⟩:=and2 h1
      obtain⟨h1,h2⟩:=and2 h1
      obtain rfl:=of_decide_eq_true h1
      have s:=sE a rz Xe k X _ C on h3
      exact plain_sd rfl (de_spart (C.var h2) s.pe rfl h4 (s.sh.star _ _)) (fun _ _ _ z=>nomatch z) (fun _=>rfl) ⟨fun _ _=>rfl,fun _ _=>rfl,fun _=>rfl,fun _ _=>rfl,fun _ _ _ _=>rfl⟩
    · exact nfx h
  | .srem i a,rz,Xe,k,X,e,C,on,h=>by
    unfold isE at h
    split at h
    · rename_i x p m ap y pos
      obtain⟨h1,h4⟩:=and2 h
      obtain⟨h1,h3⟩:=and2 h1
      obtain⟨h1,h2⟩:=and2 h1
      obtain rfl:=of_decide_eq_true h1
      have s:=sE a rz Xe k X _ C on h3
      exact plain_sd rfl (de_srem (C.var h2) s.pe rfl h4 (s.sh.star _ _)) (fun _ _ _ z=>nomatch z) (fun _=>rfl) ⟨fun _ _=>rfl,fun _ _=>rfl,fun _=>rfl,fun _ _=>rfl,fun _ _ _ _=>rfl⟩
    · exact nfx h
  | .fstrJ x y a b c,rz,Xe,k,X,e,C,on,h=>by
    unfold isE at h
    split at h
    · rename_i v1 v2 v3 v4 v5 pos
      obtain⟨h1,h5⟩:=and2 h
      obtain⟨h1,h4⟩:=and2 h1
      obtain⟨h1,h3⟩:=and2 h1
      obtain⟨h1,h2⟩:=and2 h1
      split at h1
      · rename_i u1 c1 p1
        split at h2
        · rename_i z1 k1 p2
          split at h3
          · rename_i u3 c3 p3
            split at h4
            · rename_i z2 k2 p4
              split at h5
              · rename_i u5 c5 p5
                obtain⟨g1,h1⟩:=and2 h1
                obtain⟨g3,h3⟩:=and2 h3
                obtain⟨g5,h5⟩:=and2 h5
                obtain rfl:=of_decide_eq_true g1
                obtain rfl:=of_decide_eq_true g3
                obtain rfl:=of_decide_eq_true g5
                obtain rfl:=of_decide_eq_true h2
                obtain rfl:=of_decide_eq_true h4
                exact plain_sd rfl (de_fstrJ (sE a rz Xe k X _ C on.1 h1).pe (sE b rz Xe k X _ C on.2.1 h3).pe (sE c rz Xe k X _ C on.2.2 h5).pe) (fun _ _ _ z=>nomatch z) (fun _=>rfl) ⟨fun _ _=>rfl,fun _ _=>rfl,fun _=>rfl,fun _ _=>rfl,fun _ _ _ _=>rfl⟩
              · exact absurd h5 Bool.false_ne_true
            · exact absurd h4 Bool.false_ne_true
          · exact absurd h3 Bool.false_ne_true
        · exact absurd h2 Bool.false_ne_true
      · exact absurd h1 Bool.false_ne_true
    · exact nfx h
  | .fstr x a b,rz,Xe,k,X,e,C,on,h=>by
    unfold isE at h
    split at h
    · rename_i v1 v2 v3 pos
      obtain⟨h1,h3⟩:=and2 h
      obtain⟨h1,h2⟩:=and2 h1
      split at h1
      · rename_i u1 c1 p1
        split at h2
        · rename_i z1 k1 p2
          split at h3
          · rename_i u3 c3 p3
            obtain⟨g1,h1⟩:=and2 h1
            obtain⟨g3,h3⟩:=and2 h3
            obtain rfl:=of_decide_eq_true g1
            obtain rfl:=of_decide_eq_true g3
            obtain rfl:=of_decide_eq_true h2
            exact plain_sd rfl (de_fstr (sE a rz Xe k X _ C on.1 h1).pe (sE b rz Xe k X _ C on.2 h3).pe) (fun _ _ _ z=>nomatch z) (fun _=>rfl) ⟨fun _ _=>rfl,fun _ _=>rfl,fun _=>rfl,fun _ _=>rfl,fun _ _ _ _=>rfl⟩
          · exact absurd h3 Bool.false_ne_true
        · exact absurd h2 Bool.false_ne_true
      · exact absurd h1 Bool.false_ne_true
    · exact nfx h
  | .split a b,rz,Xe,k,X,e,C,on,h=>by
    unfold isE at h
    split at h
    · rename_i x xp m ap y pos
      obtain⟨h,h4⟩:=and2 h
      obtain⟨h,h3⟩:=and2 h
      obtain⟨h1,h2⟩:=and2 h
      obtain rfl:=of_decide_eq_true h1
      have s1:=sE a rz Xe k X _ C on.1 h2
      have s2:=sE b rz Xe k X _ C on.2 h3
      exact plain_sd rfl (de_split s1.pe s2.pe rfl h4 (s2.sh.star _ _)) (fun _ _ _ z=>nomatch z) (fun _=>rfl) ⟨fun _ _=>rfl,fun _ _=>rfl,fun _=>rfl,fun _ _=>rfl,fun _ _ _ _=>rfl⟩
    · exact nfx h
  | .join a b,rz,Xe,k,X,e,C,on,h=>by
    unfold isE at h
    split at h
    · rename_i x cn xp m ap y pos
      obtain⟨h,h4⟩:=and2 h
      obtain⟨h,h3⟩:=and2 h
      obtain⟨h1,h2⟩:=and2 h
      obtain rfl:=of_decide_eq_true h1
      have s1:=sE a rz Xe k X _ C on.1 h2
      have s2:=sE b rz Xe k X _ C on.2 h3
      exact plain_sd rfl (de_join s1.pe s2.pe rfl h4 (s2.sh.star _ _)) (fun _ _ _ z=>nomatch z) (fun _=>rfl) ⟨fun _ _=>rfl,fun _ _=>rfl,fun _=>rfl,fun _ _=>rfl,fun _ _ _ _=>rfl⟩
    · exact nfx h
  | .xfl f a,rz,Xe,k,X,e,C,on,h=>by
    cases e with
    | Attribute o g p =>
      cases o with
      | Name x q =>
        obtain⟨h2,h4⟩:=and2 (show (decide (f=g)&&isE k a (.Name x q))=true from h)
        obtain rfl:=of_decide_eq_true h2
        exact plain_sd rfl (de_xfl C.tab (sE a rz Xe k X _ C on h4).pe rfl) (fun _ _ _ z=>nomatch z) (fun _=>rfl) ⟨fun _ _=>rfl,fun _ _=>rfl,fun _=>rfl,fun _ _=>rfl,fun _ _ _ _=>rfl⟩
      | _=>exact nfx h
    | _=>exact nfx h
  | .call x S es,rz,Xe,k,X,e,C,on,h=>by
    cases e with
    | Call f xs kw pos =>
      cases f with
      | Name y p =>
        cases kw with
        | cons _ _=>exact nfx h
        | nil =>
          obtain⟨h,hcal⟩:=and2 (show (_&&k.cal)=true from h)
          obtain⟨h1,h4⟩:=and2 (show (_&&isEs k es xs)=true from h)
          obtain⟨h1,h3⟩:=and2 (show (_&&okName x)=true from h1)
          obtain⟨h1,h2⟩:=and2 (show (decide (x=y)&&k.gl x)=true from h1)
          obtain rfl:=of_decide_eq_true h1
          have s:=sEs es rz Xe k X _ C on.2 h4
          refine plain_sd rfl ?_ (fun _ _ _ z=>nomatch z) (fun _=>rfl) ⟨fun _ _=>rfl,fun _ _=>rfl,fun _=>rfl,fun _ _=>rfl,fun _ _ _ _=>rfl⟩
          cases xs with
          | nil =>
            cases es with
            | nil=>exact de_call0 (C.calm hcal) on.1 (C.gl h2) (okName1 h3)
            | cons _ _=>exact absurd h4 Bool.false_ne_true
          | cons a r=>exact de_call (C.calm hcal) on.1 (C.gl h2) s.pa (okName1 h3) ((s.hd a r rfl).1.star _ _) ((s.hd a r rfl).2 _ _)
      | _=>exact nfx h
    | _=>exact nfx h
  | .callv i alts es,rz,Xe,k,X,e,C,on,h=>by
    cases e with
    | Call f xs kw pos =>
      cases f with
      | Name y p =>
        cases kw with
        | cons _ _=>cases xs<;>exact nfx h
        | nil =>
          cases xs with
          | nil=>exact nfx h
          | cons a r =>
            obtain⟨h,hcal⟩:=and2 (show (_&&k.cal)=true from h)
            obtain⟨h1,h4⟩:=and2 (show (k.slot i y&&isEs k es (a::r))=true from h)
            have s:=sEs es rz Xe k X _ C on.2 h4
            exact plain_sd rfl (de_callv (C.calm hcal) (fun n S m=>onAlts_mem on.1 m) (C.tvar h1) s.pa ((s.hd a r rfl).1.star _ _) ((s.hd a r rfl).2 _ _)) (fun _ _ _ z=>nomatch z) (fun _=>rfl) ⟨fun _ _=>rfl,fun _ _=>rfl,fun _=>rfl,fun _ _=>rfl,fun _ _ _ _=>rfl⟩
      | _=>cases xs<;>exact nfx h
    | _=>exact nfx h
  | .bi b es,rz,Xe,k,X,e,C,on,h=>by
    cases e with
    | Call f xs kw pos =>
      cases f with
      | Name y p =>
        cases xs with
        | nil=>exact nfx h
        | cons a r =>
          cases kw with
          | cons _ _=>exact nfx h
          | nil =>
            obtain⟨h,hq⟩:=and2 (show (_&&(k.cal || quiet b))=true from h)
            obtain⟨h1,h3⟩:=and2 (show (_&&isEs k es (a::r))=true from h)
            obtain⟨h1,h2⟩:=and2 (show (decide (biName b=y)&&k.gl y)=true from h1)
            obtain rfl:=of_decide_eq_true h1
            have s:=sEs es rz Xe k X _ C on h3
            exact plain_sd rfl (de_bi b C.tab C.blt (C.qt hq) (C.gl h2) s.pa ((s.hd _ _ rfl).1.star _ _) ((s.hd _ _ rfl).2 _ _)) (fun _ _ _ z=>nomatch z) (fun _=>rfl) ⟨fun _ _=>rfl,fun _ _=>rfl,fun _=>rfl,fun _ _=>rfl,fun _ _ _ _=>rfl⟩
      | _=>exact nfx h
    | _=>exact nfx h
  | .app i a,rz,Xe,k,X,e,C,on,h=>by
    cases e with
    | Call f xs kw pos =>
      cases f with
      | Attribute o m ap =>
        cases o with
        | Name x p =>
          cases xs with
          | nil=>exact nfx h
          | cons y r =>
            cases r with
            | cons _ _=>exact nfx h
            | nil =>
              cases kw with
              | cons _ _=>exact nfx h
              | nil =>
                obtain⟨h1,h4⟩:=and2 (show (_&&(ap.endLine==pos.line))=true from h)
                obtain⟨h1,h3⟩:=and2 (show (_&&isE k a y)=true from h1)
                obtain⟨h1,h2⟩:=and2 (show (decide (m="append")&&k.slot i x)=true from h1)
                obtain rfl:=of_decide_eq_true h1
                have s:=sE a rz Xe k X _ C on h3
                exact plain_sd rfl (de_app (C.var h2) s.pe rfl (fun es=>s.sh.star _ es) h4) (fun _ _ _ z=>nomatch z) (fun _=>rfl) ⟨fun _ _=>rfl,fun _ _=>rfl,fun _=>rfl,fun _ _=>rfl,fun _ _ _ _=>rfl⟩
        | _=>exact nfx h
      | _=>exact nfx h
    | _=>exact nfx h
  | .idx i a,rz,Xe,k,X,e,C,on,h=>by
    cases e with
    | Call f xs kw pos =>
      cases f with
      | Attribute o m ap =>
        cases o with
        | Name x p =>
          cases xs with
          | nil=>exact nfx h
          | cons y r =>
            cases r with
            | cons _ _=>exact nfx h
            | nil =>
              cases kw with
              | cons _ _=>exact nfx h
              | nil =>
                obtain⟨h1,h4⟩:=and2 (show (_&&(ap.endLine==pos.line))=true from h)
                obtain⟨h1,h3⟩:=and2 (show (_&&isE k a y)=true from h1)
                obtain⟨h1,h2⟩:=and2 (show (decide (m="index")&&k.slot i x)=true from h1)
                obtain rfl:=of_decide_eq_true h1
                have s:=sE a rz Xe k X _ C on h3
                exact plain_sd rfl (de_idx C.hu (C.var h2) s.pe rfl (fun es=>s.sh.star _ es) h4) (fun _ _ _ z=>nomatch z) (fun _=>rfl) ⟨fun _ _=>rfl,fun _ _=>rfl,fun _=>rfl,fun _ _=>rfl,fun _ _ _ _=>rfl⟩
        | _=>exact nfx h
      | _=>exact nfx h
    | _=>exact nfx h
  | .comp N' n g it elt,rz,Xe,k,X,e,C,on,h=>by
    cases e with
    | ListComp y gs sc p =>
      cases gs with
      | nil=>exact nfx h
      | cons q gs =>
        cases q with
        | mk tg iter ifs z =>
          cases ifs with
          | cons _ _=>exact nfx h
          | nil =>
            cases gs with
            | cons _ _=>exact nfx h
            | nil =>
              obtain⟨h,hcal⟩:=and2 (show (_&&k.cal)=true from h)
              obtain⟨h,h5⟩:=and2 (show (_&&isE ⟨N',sc,false,k.cal⟩ elt y)=true from h)
              obtain⟨h,h4⟩:=and2 (show (_&&isI k tg it iter)=true from h)
              obtain⟨h,h3⟩:=and2 (show (_&&isG ⟨N',sc,false,k.cal⟩ g tg)=true from h)
              obtain⟨h,h2⟩:=and2 (show (_&&decide (n=N'.length-k.N.length))=true from h)
              obtain⟨h,h1⟩:=and2 (show (decide (z=0)&&blkB k N' sc)=true from h)
              obtain rfl:=of_decide_eq_true h
              obtain rfl:=of_decide_eq_true h2
              have si:=sI it rz Xe k X tg _ C on.2.1 h4
              refine plain_sd (t:=dComp (N'.length-k.N.length) (rI Xe it) (rG X0 g) (rE X0 elt).e) rfl ?_ (fun _ _ _ z=>nomatch z) (fun _=>rfl) ⟨fun _ _=>rfl,fun _ _=>rfl,fun _=>rfl,fun _ _=>rfl,fun _ _ _ _=>rfl⟩
              rw[<- C.N]
              exact de_comp (C.calm hcal) (blkB_ok C h1).1 si.pi (fun cl Cn s H ex=>⟨(sG g false X0 ⟨N',_,false,k.cal⟩ (blkCx X N' _ cl Cn s H ex []) _ (C.blk h1 cl Cn s H ex) (onG_mono g (fun c x S F=>⟨F.ex⟩) (fun x d F=>⟨F.ex⟩) on.1) h3).pg,
                (sE elt false X0 ⟨N',_,false,k.cal⟩ (blkCx X N' _ cl Cn s H ex []) _ (C.blk h1 cl Cn s H ex) (onE_mono elt (fun c x S F=>⟨F.ex⟩) (fun x d F=>⟨F.ex⟩) on.2.2) h5).pe⟩) (si.set _)
    | _=>exact nfx h
theorem sEs:∀ (c:CEs) (rz:Bool) (Xe:DSt->DK) (k:Ck) (X:Cx) (es:List Expr),CtxOk X k->onEs (FnAt X) (GloAt X) c->isEs k c es=true->SdEs X rz Xe c es
 | .nil,rz,Xe,k,X,es,C,on,h=>by
  cases es with
  | nil=>exact⟨da_nil,fun _ _=>rfl,fun _ _ z=>nomatch z⟩
  | cons _ _=>exact nfx h
 | .cons e es,rz,Xe,k,X,xs,C,on,h=>by
  cases xs with
  | nil=>exact nfx h
  | cons x r =>
   obtain⟨h1,h2⟩:=and2 (show (isE k e x&&isEs k es r)=true from h)
   have s1:=sE e rz Xe k X _ C on.1 h1
   have s2:=sEs es rz Xe k X _ C on.2 h2
   refine⟨da_cons s1.pe s2.pa (s1.sh.star _ _),fun pos env=>?_,fun _ _ z=>by cases z;exact⟨s1.sh,s2.pl⟩⟩
   rw[s1.sh.star]
   show (false || _)=false
   rw[Bool.false_or]
   exact s2.pl pos env
theorem sO:∀ (c:CO) (rz:Bool) (Xe:DSt->DK) (k:Ck) (X:Cx) (e:Option Expr),CtxOk X k->onO (FnAt X) (GloAt X) c->isO k c e=true->PO X e (liftO (X.L rz Xe) (rO Xe c))
 | .none,rz,Xe,k,X,e,C,on,h=>by
  cases e with
  | none=>exact do_none
  | some _=>exact nfx h
 | .some c,rz,Xe,k,X,e,C,on,h=>by
  cases e with
  | none=>exact nfx h
  | some e=>exact do_some (sE c rz Xe k X _ C on h).pe
theorem sG:∀ (c:CG) (rz:Bool) (Xe:DSt->DK) (k:Ck) (X:Cx) (e:Expr),CtxOk X k->onG (FnAt X) (GloAt X) c->isG k c e=true->SdG X rz Xe c e
 | .name i,rz,Xe,k,X,e,C,on,h=>by
  cases e with
  | Name x p =>
   obtain⟨h1,h2⟩:=and2 (show (decide (k.N[i]?=some x)&&k.loc x)=true from h)
   exact⟨dg_name (by rw[C.N];exact C.nd) (by rw[C.N];exact of_decide_eq_true h1) (C.loc h2).1 (C.loc h2).2,fun _ _=>rfl⟩
  | _=>exact nfx h
 | .tup gs,rz,Xe,k,X,e,C,on,h=>by
  cases e with
  | Tuple xs q p =>
   obtain⟨h,hcal⟩:=and2 (show (_&&k.cal)=true from h)
   have s:=sGs gs rz Xe k X _ C on (show isGs k gs xs=true from h)
   exact⟨dg_tup (C.calm hcal) s.pg (s.len _) (s.st _),fun _ _=>rfl⟩
  | _=>exact nfx h
 | .sub a b,rz,Xe,k,X,e,C,on,h=>by
  cases e with
  | Subscript x y p =>
   obtain⟨h1,h2⟩:=and2 (show (isE k a x&&isE k b y)=true from h)
   have s2:=sE b rz Xe k X _ C on.2 h2
   exact⟨dg_sub (sE a rz Xe k X _ C on.1 h1).pe s2.pe (fun v=>s2.sh.sub _ _ _ v),fun _ _=>rfl⟩
  | _=>exact nfx h
theorem sGs:∀ (c:CGs) (rz:Bool) (Xe:DSt->DK) (k:Ck) (X:Cx) (es:List Expr),CtxOk X k->onGs (FnAt X) (GloAt X) c->isGs k c es=true->SdGs X rz Xe c es
 | .nil,rz,Xe,k,X,es,C,on,h=>by
  cases es with
  | nil=>exact⟨dgs_nil,fun _=>rfl,fun _=>rfl⟩
  | cons _ _=>exact nfx h
 | .cons e es,rz,Xe,k,X,xs,C,on,h=>by
  cases xs with
  | nil=>exact nfx h
  | cons x r =>
   obtain⟨h1,h2⟩:=and2 (show (isG k e x&&isGs k es r)=true from h)
   have s1:=sG e rz Xe k X _ C on.1 h1
   have s2:=sGs es rz Xe k X _ C on.2 h2
   refine⟨dgs_cons s1.pg s2.pg (by rw[s1.as];rfl),fun env=>?_,fun env=>?_⟩
   ·rw[s1.as,List.length_cons,s2.len];rfl
   ·rw[s1.as,List.findIdx?_cons]
    simp[s2.st]
theorem sI:∀ (c:CI) (rz:Bool) (Xe:DSt->DK) (k:Ck) (X:Cx) (tg e:Expr),CtxOk X k->onI (FnAt X) (GloAt X) c->isI k tg c e=true->SdI X rz Xe tg c e
  | .seq c,rz,Xe,k,X,tg,e,C,on,h =>
    have s:=sE c rz Xe k X e C on h
    ⟨di_seq s.pe,s.sh.set⟩
  | .rng es,rz,Xe,k,X,tg,e,C,on,h=>by
    cases e with
    | Call f xs kw pos =>
      cases f with
      | Name y p =>
        cases xs with
        | nil=>exact nfx h
        | cons a r =>
          cases kw with
          | cons _ _=>exact nfx h
          | nil =>
            obtain⟨h1,h3⟩:=and2 (show (_&&isEs k es (a::r))=true from h)
            obtain⟨h1,h2⟩:=and2 (show (decide (y="range")&&k.gl y)=true from h1)
            obtain rfl:=of_decide_eq_true h1
            have s:=sEs es rz Xe k X _ C on h3
            exact⟨di_rng (C.gl h2) C.blt.range s.pa ((s.hd _ _ rfl).1.star _ _) ((s.hd _ _ rfl).2 _ _),fun _ _=>rfl⟩
      | _=>exact nfx h
    | _=>exact nfx h
  | .zip es,rz,Xe,k,X,tg,e,C,on,h=>by
   cases tg with
   | Tuple te tx tp =>
    cases e with
    | Call f xs kw pos =>
      cases f with
      | Name y p =>
        cases xs with
        | nil=>exact nfx h
        | cons a r =>
          cases kw with
          | cons _ _=>exact nfx h
          | nil =>
            obtain⟨h1,h3⟩:=and2 (show (_&&isEs k es (a::r))=true from h)
            obtain⟨h1,h2⟩:=and2 (show (decide (y="zip")&&k.gl y)=true from h1)
            obtain rfl:=of_decide_eq_true h1
            have s:=sEs es rz Xe k X _ C on h3
            exact⟨di_zip (C.gl h2) C.blt.zip s.pa ((s.hd _ _ rfl).1.star _ _) ((s.hd _ _ rfl).2 _ _),fun _ _=>rfl⟩
      | _=>exact nfx h
    | _=>exact nfx h
   | _=>exact nfx h
  | .sgn c,rz,Xe,k,X,tg,e,C,on,h =>
    have s:=sE c rz Xe k X e C on h
    ⟨di_str s.pe,s.sh.set⟩
  | .enum es,rz,Xe,k,X,tg,e,C,on,h=>by
   cases tg with
   | Tuple te tx tp =>
    cases e with
    | Call f xs kw pos =>
      cases f with
      | Name y p =>
        cases xs with
        | nil=>exact nfx h
        | cons a r =>
          cases kw with
          | cons _ _=>exact nfx h
          | nil =>
            obtain⟨h1,h3⟩:=and2 (show (_&&isEs k es (a::r))=true from h)
            obtain⟨h1,h2⟩:=and2 (show (decide (y="enumerate")&&k.gl y)=true from h1)
            obtain rfl:=of_decide_eq_true h1
            have s:=sEs es rz Xe k X _ C on h3
            exact⟨di_enum (C.gl h2) C.blt.enum s.pa ((s.hd _ _ rfl).1.star _ _) ((s.hd _ _ rfl).2 _ _),fun _ _=>rfl⟩
      | _=>exact nfx h
    | _=>exact nfx h
   | _=>exact nfx h
end
end DL
end
noncomputable section
namespace DL
open PySem PySem.Spec PyProof.Rows L2
set_option tactic.hygienic false
theorem objOk_there {P:Program} {w:World} {H:Hp} {h:Heap} {a:Addr} {o:HO} (x:ObjOk P w H h a o):∃ ob,h.get? a=some ob:=by
 cases o with
 | lst xs=>obtain⟨_,_,_,_,e⟩:=x;exact⟨_,e⟩
 | tup xs=>obtain⟨_,_,_,ob,e,_⟩:=x;exact⟨_,e⟩
 | dK kvs=>obtain⟨_,_,_,_,ob,_,_,e,_⟩:=x;exact⟨_,e⟩
 | dT kvs=>obtain⟨_,_,_,_,ob,_,_,e,_⟩:=x;exact⟨_,e⟩
 | set S n=>obtain⟨ob,_,_,_,e,_⟩:=x;exact⟨_,e⟩
 | ins C dx fs=>obtain⟨_,_,_,e,_⟩:=x;exact⟨_,e⟩
 | own y=>exact x
 | xd fs=>obtain⟨_,⟨ob,_,_,e,_⟩,_⟩:=x;exact⟨_,e⟩
 | rng lo hi=>obtain⟨_,_,_,e⟩:=x;exact⟨_,e⟩
 | frz ob u=>exact⟨_,x.1⟩
 | tbl ps=>exact⟨_,(show h.get? a=some _ from x)⟩
 | met f y=>exact⟨_,(show h.get? a=some _ from x)⟩
 | ext φ=>exact x.2.1
theorem un_near {fs:List Addr} {H1 H':Hp} {h1 h' h2 B:Heap} (un:Un fs [] H1 H' h1 h') (old:∀ b o,h1.get? b=some o->H1 b=none->b ∉ fs->B.get? b=some o) (st:B.StaysIn h2)
  (ff:∀ b∈fs,∃ o,h'.get? b=some o/\∀ vs,o.data≠.fields vs) (nr:Near h' h2):Un fs [] H1 H' h1 h2 where
 keep:=fun b o e n hb _=>st b o (old b o e n hb)
 slot:=fun b o e n hb hx=>by
  obtain⟨sl,e1⟩:=un.slot b o e n hb hx
  obtain⟨o2,e2,d2⟩:=ff b hb
  rw[e1] at e2;cases e2
  obtain⟨sl2,e3⟩:=nr.1 b _ e1 d2
  exact⟨sl2,e3⟩
 free:=un.free
 there:=fun b o e hx=>let ⟨o',e'⟩:=un.there b o e hx;nr.2.1 b o' e'
 tups:=un.tups
 frzs:=un.frzs
 tbls:=un.tbls
section
variable {X:Cx} {pins:List (Addr×Obj)} {σ:L2.St} {H H':Hp} {s s':Shared} {e C:Addr} {dd:Option Addr}
theorem frs_cons {env:Env} {L:Addr} {l:List Env} (h:env.frame=some L):frs (env::l)=L::frs l:=by simp[frs,h]
theorem old_entry (I:L2.Inv X pins σ H s) (hex:X.ex=[]) {B:Heap} (old:∀ b o,s.heap.get? b=some o->H b=none->b ∉ frs X.stack->B.get? b=some o) :
  ∀ b o,X.s₀.heap.get? b=some o->X.H₀ b=none->b ∉ X.fs->B.get? b=some o:=fun b o e n hb=>by
 have hx:b ∉ X.ex:=by rw[hex];simp
 refine old b o (I.base.keep b o e n hb hx) (I.base.free b o e n hx) fun z=>?_
 rcases List.mem_cons.mp (I.stkSub b z) with q|q
 ·exact absurd (Nat.lt_of_lt_of_le (Heap.lt_size e) I.ok.above) (by rw[q];exact Nat.lt_irrefl _)
 ·exact hb q
theorem un_entry (I:L2.Inv X pins σ H s) (hex:X.ex=[]) (st:X.stack=X.env::X.outer/\X.env.frame=some X.env.locals) {h' B:Heap} (un:Un (frs X.stack) [] H H' s.heap h') (old:∀ b o,s.heap.get? b=some o->H b=none->b ∉ frs X.stack->B.get? b=some o) (hB:B.StaysIn h') :
  Un X.fs [] X.H₀ H' X.s₀.heap h':=by
 have a:Un (frs X.stack) [] X.H₀ H X.s₀.heap s.heap:=I.base.mono (fun b hb=>by rw[st.1,frs_cons st.2];exact List.mem_cons_of_mem _ hb) (by rw[hex];simp)
 have t:=a.trans un
 exact⟨fun b o e n hb hx=>hB b o (old_entry I hex old b o e n hb),fun b o e n hb hx=>t.any e n hx,t.free,t.there,t.tups,t.frzs,t.tbls⟩
end
section
variable {P:Program} {w:World} {K:PySem.W.Frag} {mg:Str->Option Value} {base:Heap} {N:List Str} {qual:Str} {scope:Scope} {f:Addr} {cd:Value} {A:Around} {outer:List Env} {s:Shared} {H:Hp} {E:XK}
theorem xe_leave {Ed:DK} (hE:∀ n M' H' C dd x,HExt K H H'->RepM K H' M'->n∈xNames->ClsOf K n C->ExD K H' n dd x->Ed (.exc n x) M'->E (.ref C) dd H'):XeOk (cxOf (CXR P w) P w K mg base N qual scope f cd A outer s H E) true (fun _=>Ed) H where
 fly:=fun pins σ H1 s1 H' e C dd s' δ M' n xd x I th m sl hn hc ed hx=>by
  obtain⟨B,os,bare,un,old,hokB,fl⟩:=th.ex
  show wpAny _ _ _ _ _ _
  refine fly_leave I.ok.frames rfl fl fun h' F' nr=>?_
  have ff:∀ b∈frs (cxOf (CXR P w) P w K mg base N qual scope f cd A outer s H E).stack,∃ o,s'.heap.get? b=some o/\∀ vs,o.data≠.fields vs:=fun b hb=>(fl.frames.mem hb).2
  exact⟨e,C,dd,H',rfl,⟨⟨B,os.trans I.os,bare,un_entry I rfl ⟨rfl,rfl⟩ (un_near un old F'.stays ff nr) old F'.stays,old_entry I rfl old,hokB,F'⟩,fun z=>nr.2.2 _ (th.cl z)⟩,hE n M' H' C dd xd x m hn hc ed hx⟩
 back:=fun _ pins σ H1 s1 H' e C dd s' δ M' n xd x I th m sl hn hc ed hx=>by
  obtain⟨B,os,bare,un,old,hokB,fl⟩:=th.ex
  show wpAny _ _ _ _ _ _
  refine fly_leaveL rfl fl fun h' F' nr=>?_
  have ff:∀ b∈frs (cxOf (CXR P w) P w K mg base N qual scope f cd A outer s H E).stack,∃ o,s'.heap.get? b=some o/\∀ vs,o.data≠.fields vs:=fun b hb=>(fl.frames.mem hb).2
  exact⟨e,C,dd,H',rfl,⟨⟨B,os.trans I.os,bare,un_entry I rfl ⟨rfl,rfl⟩ (un_near un old F'.stays ff nr) old F'.stays,old_entry I rfl old,hokB,F'⟩,fun z=>nr.2.2 _ (th.cl z)⟩,hE n M' H' C dd xd x m hn hc ed hx⟩
 made:=fun _ pins σ H' h e C dd s' δ M' n xd x I mk cl m sl hn hc ed hx=>by
  show wpAny _ _ _ _ _ _
  have hin:∀ env∈(cxOf (CXR P w) P w K mg base N qual scope f cd A outer s H E).stack,∀ a,env.frame=some a->a∈frs (cxOf (CXR P w) P w K mg base N qual scope f cd A outer s H E).stack:=fun env he b hb=>List.mem_filterMap.mpr ⟨env,he,hb⟩
  have st:(PySem.W.hideAll h (frs (cxOf (CXR P w) P w K mg base N qual scope f cd A outer s H E).stack)).StaysIn h:=fun b o q=>PySem.W.of_hideAll _ q
  refine fly_leave0 (h:=h) (B:=PySem.W.hideAll h (frs (cxOf (CXR P w) P w K mg base N qual scope f cd A outer s H E).stack)) I.ok.frames rfl (PySem.W.funFrames_hide I.stack hin) st mk fun h' F' nr=>?_
  have old:∀ b o,h.get? b=some o->H' b=none->b ∉ frs (cxOf (CXR P w) P w K mg base N qual scope f cd A outer s H E).stack->(PySem.W.hideAll h (frs (cxOf (CXR P w) P w K mg base N qual scope f cd A outer s H E).stack)).get? b=some o:=fun b o q _ hb=>PySem.W.hideAll_get _ q hb
  have ff:∀ b∈frs (cxOf (CXR P w) P w K mg base N qual scope f cd A outer s H E).stack,∃ o,h.get? b=some o/\∀ vs,o.data≠.fields vs:=fun b hb=>(I.stack.mem hb).2
  have un:Un (frs (cxOf (CXR P w) P w K mg base N qual scope f cd A outer s H E).stack) [] H' H' h h':=un_near .refl old F'.stays ff ((Near.kept mk.keeps).trans nr)
  refine⟨e,C,dd,H',rfl,⟨⟨_,I.os,I.bare,un_entry I rfl ⟨rfl,rfl⟩ un old F'.stays,old_entry I rfl old,fun a o q=>?_,F'⟩,fun z=>nr.2.2 _ (cl z)⟩,hE n M' H' C dd xd x m hn hc ed hx⟩
  refine (I.hok a o q).stay (fun c u hc r=>PySem.W.hideAll_get _ r fun z=>?_) (fun _ q=>q) fun _ _ q=>q
  have:=I.stkFree c z
  rcases hc with rfl|hc
  ·rw[q] at this;cases this
  ·rw[hc] at this;cases this
end
noncomputable def dRaise (n:Str) (ta:(DSt->DK)->DA):DS:=fun D δ M=>ta D.ex δ M fun ds M1=>ds.length<=sizeLine/\D.ex δ (.exc n .non) M1
section
variable {X:Cx} {x:Str} {np cpos pos:Pos} {e:Expr} {es:List Expr} {ta:(DSt->DK)->DA}
end
noncomputable def dRaiseI (n:Str) (ta:(DSt->DK)->DA):DS:=fun D δ M=>ta D.ex δ M fun ds M1=>∃ x,ds=[x]/\D.ex δ (.exc n x) M1
section
variable {X:Cx} {x:Str} {np cpos pos:Pos} {e:Expr} {es:List Expr} {ta:(DSt->DK)->DA}
set_option tactic.hygienic true
theorem ds_raiseI {C:Addr} (hr:Room 0 X.A) (tab:xTabB X.K=true) (hp:xInit.contains x=true) (hc:ClsOf X.K x C) (hm:X.mg x=some (.ref C)) (hg:Gl X x) (hdb:(x==("__debug__":Str))=false) (ha:∀ Xe,PA X (e::es) (liftA (X.L true Xe) (ta Xe)))
  (he:starEach (e::es) X.env=(false,eval e X.env)::starEach es X.env) (hpl:(backTo cpos (starEach es X.env)).any (·.1)=false) :
  PS X (.Raise (some (.Call (.Name x np) (e::es) [] cpos)) none pos) (liftS X true (dRaiseI x ta)):=by
 rintro pins s σ H Z I ⟨δ,M,D,rs,rm,t,n,r,b,c⟩
 have hi:x∈xInit:=by simpa using hp
 have hn:x∈xNames:=List.mem_cons_of_mem _ (List.mem_append_right _ hi)
 have FV:=PySem.F.excBase_ValueError
 obtain⟨Bc,fI,T⟩:=iTab_row tab hi hc
 obtain⟨bm,Nn,nm,q,bs,sn,sub,ab,col,dd,k0,k1,k2,k3,k5,mN,hC,hN,hni,OT,cd,hci,hdc,hpm⟩:=excI_of (C:=C) I.ok.mod.kin T.ex
 obtain⟨oI,hfK,hfc⟩:∃ oI,X.K.lookup fI=some oI/\oI.cls=.type "function":=by
  have tf:=T.fn
  unfold initFn at tf
  split at tf
  next lk=>exact⟨_,lk,rfl⟩
  next=>cases tf
 have hmB:X.mg "CordError"=some (.ref Bc):=by
  have e:=T.b
  unfold clsAt at e
  split at e
  next q=>cases e;exact PySem.W.mg_of I.ok.mod.kin I.ok.mod.glob q
  next=>cases e
 refine raise_call_initU (C:=C) (nm:=nm) (q:=q) (N:=Nn) (bs:=bs) (bm:=bm) (bmB:=bmV) (hdct:=true) (sn:=sn) (sub:=sub) (ab:=ab) (col:=col) (dd:=dd) (k0:=k0) (k1:=k1) (k2:=k2) (k3:=k3) (k5:=k5) (fI:=fI) FV (by decide) FV (mN:=mN)
  (OT.hasType (by decide)) hr.hd (by rw[he];show (false || (backTo cpos (starEach es X.env)).any (·.1))=false;rw[hpl];rfl) hni (ld_glob I hg hm ⟨rfl,?_⟩ hdb)
 rw[he]
 refine Calls.evalArgs_plain ?_
 have sp:=ha D.ex cpos pins s σ H (fun vs H1=>∃ ds M1,HExt X.K H H1/\RepM X.K H1 M1/\RelDs X.K H1 vs ds/\∃ x0,ds=[x0]/\D.ex δ (.exc x x0) M1) I ⟨δ,M,_,rs,rm,t,fun ds M1 vs H1 x m r h=>⟨ds,M1,x,m,r,h⟩⟩
 rw[he] at sp
 refine wpAny_mono sp (fun us s1 hq1=>?_) fun _ _ z=>z
 obtain⟨vs,H1,I1,r1,ds,M1,x1,m1,rd,x0,rfl,hx⟩:=hq1
 obtain⟨v1,rfl,rx⟩:∃ v1,vs=[v1]/\RelD X.K H1 v1 x0:=by cases rd with|cons a b=>cases b;exact⟨_,rfl,a⟩
 obtain⟨u1,rfl,ru⟩:∃ u1,us=[u1]/\RelV v1 u1:=by cases r1 with|cons a b=>cases b;exact⟨_,rfl,a⟩
 refine⟨rfl,by show 1<=sizeLine;simp[sizeLine_eq],I1.bk _ _ hC,hN.keeps I1.bk,OT.keeps I1.bk,⟨oI,I1.kIn _ _ hfK,hfc⟩,fun h' e0 mk=>?_⟩
 have ne1:∀ b o,s1.heap.get? b=some o->b≠e0:=fun b o q z=>by rw[z,mk.new] at q;cases q
 have H1e:H1 e0=none:=by
  cases q:H1 e0 with
  | none=>rfl
  | some u=>obtain⟨ob,z⟩:=objOk_there (I1.hok e0 u q);exact absurd rfl (ne1 _ _ z)
 have J:L2.Inv X pins σ H1 {s1 with heap:=h'}:=I1.call' (s':={s1 with heap:=h'}) (ch:=[]) rfl (Un.kept mk.keeps) (I1.hok.kept mk.keeps) I1.bare (fun b hb=>by cases hb)
 obtain⟨t0,q1,_,_⟩:=mk.there
 refine wpAny_call (run_init T (xTab_row tab hn hc).1.obj hmB (by rw[L2.make_depth];have:=hr.dp;omega) (J.env0.make C [u1] []) q1 rfl rfl rfl rfl rfl rfl H1e ?_ (fun z=>?_) ru fun s3 E3=>⟨rfl,?_⟩)
 ·cases q:X.base.get? e0 with
  | none=>rfl
  | some o=>exact absurd rfl (ne1 _ _ (I1.bk _ _ q))
 ·obtain⟨_,o,q,_⟩:=I1.stack.mem z
  exact absurd rfl (ne1 _ _ q)
 obtain⟨ob,ws,d,u,a1,a2,a3,a4,a5,aC,aZ,a6,a7,a8,a9⟩:=E3.at_
 have dn:∀ b o,s1.heap.get? b=some o->b≠d:=fun b o q z=>by
  have:=Heap.lt_size (mk.keeps b o q)
  rw[z] at this
  exact absurd (Nat.lt_of_lt_of_le this a8) (Nat.lt_irrefl _)
 have de:d≠e0:=fun z=>by
  have:=Heap.lt_size q1
  rw[<- z] at this
  exact absurd (Nat.lt_of_lt_of_le this a8) (Nat.lt_irrefl _)
 have C3:s3.heap.get? C=some (excClassObj nm q C Nn bs bm true sn sub ab col dd k0 k1 k2 k3 k5 "ValueError.__new__"):=by
  have bC:=I1.bk _ _ hC
  refine E3.un.keep C _ (mk.keeps _ _ bC) (I1.bs _ _ hC).2 (fun z=>?_) (by simpa using ne1 _ _ bC)
  have:=(I1.stack.mem z).1
  rw[hC] at this;cases this
 refine⟨ob,ws,C3,a1,a2,a4,a5,?_⟩
 have x5:HExt X.K H1 (upd H1 d (.ext (FldAt d (fldOf x) v1))):=.upd (.inl a9)
 have m5:RepM X.K (upd H1 d (.ext (FldAt d (fldOf x) v1))) M1:=fun a o q=>(m1 a o q).ext x5 fun z=>by subst z;exact absurd a9 (m1 a o q).fresh
 have neH:∀ b u,H1 b=some u->b≠d:=fun b u q z=>by rw[z,a9] at q;cases q
 have hid:∀ b o,b≠e0->s3.heap.get? b=some o->(PySem.W.hideAll s3.heap [e0]).get? b=some o:=fun b o n q=>PySem.W.hideAll_get _ q (by simpa using n)
 have un5:Un (frs X.stack) [] H1 (upd H1 d (.ext (FldAt d (fldOf x) v1))) s1.heap (PySem.W.hideAll s3.heap [e0]):={
  keep:=fun b o q nn hf _=>hid b o (ne1 b o q) (E3.un.keep b o (mk.keeps b o q) nn hf (by simpa using ne1 b o q)),
  slot:=fun b o q nn hf _=>by obtain⟨sl,z⟩:=E3.un.slot b o (mk.keeps b o q) nn hf (by simpa using ne1 b o q);exact⟨sl,hid b _ (ne1 b o q) z⟩,
  free:=fun b o q nn _=>by rw[upd_ne (dn b o q)];exact nn,
  there:=fun b o q _=>by obtain⟨o',z⟩:=E3.un.there b o (mk.keeps b o q) (by simpa using ne1 b o q);exact⟨o',hid b _ (ne1 b o q) z⟩,
  tups:=fun b xs q=>by rw[upd_ne (neH b _ q)];exact q,
  frzs:=fun b o u q=>by rw[upd_ne (neH b _ q)];exact q,
  tbls:=fun b ps q=>⟨#[],by rw[upd_ne (neH b _ q)];simpa using q⟩}
 have hok5:HOk X.prog X.w (upd H1 d (.ext (FldAt d (fldOf x) v1))) (PySem.W.hideAll s3.heap [e0]):=fun a o q=>by
  by_cases z:a=d
  ·subst z;rw[upd_same] at q;cases q
   have n7:(PySem.W.hideAll s3.heap [e0]).Ns1 a (fun y=>if y=fldOf x then some u else none):=a7.at fun o q=>hid a o de q
   obtain⟨o,es',ep',q',_⟩:=id n7
   exact⟨⟨u,a6,n7⟩,⟨o,q'⟩,fun g1 g2 ⟨u',c1,c2⟩ k=>⟨u',c1,c2.at k⟩⟩
  ·rw[upd_ne z] at q
   refine (E3.hok a o q).stay (fun c u hc r=>hid c u (fun z=>?_) r) (fun c q=>by rw[upd_ne (neH c _ q)];exact q) fun c xs q=>by rw[upd_ne (neH c _ q)];exact q
   subst z
   rcases hc with rfl|hc
   ·rw[H1e] at q;cases q
   ·rw[H1e] at hc;cases hc
 have I5:L2.Inv X pins σ (upd H1 d (.ext (FldAt d (fldOf x) v1))) {s3 with heap:=PySem.W.hideAll s3.heap [e0]}:=I1.call' (s':={s3 with heap:=PySem.W.hideAll s3.heap [e0]}) E3.os un5 hok5 E3.bare (fun b hb=>by cases hb)
 exact rs.ok.made rfl pins σ _ (PySem.W.hideAll s3.heap [e0]) e0 C (some d) s3 δ M1 x x0 (x1.trans x5) I5 ⟨fun b o q=>PySem.W.of_hideAll _ q,PySem.W.hideAll_none _ (List.mem_cons_self),ob,ws,a1,a2,a3,a4,a5⟩ (fun _=>⟨ob,ws,a1,a4,aC⟩) m5 (rs.toSlots.ext (x1.trans x5)) hn hc (.fld hi upd_same (rx.ext x5)) hx
end
section
variable {X:Cx} {pins:List (Addr×Obj)} {σ:L2.St} {H:Hp} {s:Shared}
set_option tactic.hygienic false
theorem unbind_ok {M:Model} {A:Around} {Z:Value->Shared->Prop} {i:Nat} {x:Str} {pos:Pos} {Q:Unit->Shared->Prop} (I:L2.Inv X pins σ H s) (hN:X.N.Nodup) (hi:X.N[i]?=some x) (hk:X.env.kindOf x=some .local)
  (h:∀ s',L2.Inv X pins (σ.set i none) H s'->Q () s'):wpAny M A (do bindName X.env x .none;unbindBehindTheSuite X.env x pos) Q Z s:=by
 obtain⟨m,hn,hl⟩:=id I.loc
 have hcls:(X.env.scope.kind==.class || (X.env.scope.kind==.module&&X.env.locals != X.env.globals))=false:=by rw[I.ok.kind];rfl
 refine wpAny_nameGoes_keeps hk hn hcls fun h' v hn' hs=>h _ ?_
 have low:∀ b o,X.s₀.heap.get? b=some o->b≠X.env.locals:=fun b o e=>Nat.ne_of_lt (Nat.lt_of_lt_of_le (Heap.lt_size e) I.ok.above)
 refine⟨I.ok,I.os,I.bare,⟨fun b o e n hb hx=>(hs.2 b (low b o e)).trans (I.base.keep b o e n hb hx),fun b o e n hb hx=>?_,I.base.free,fun b o e hx=>?_,I.base.tups,I.base.frzs,I.base.tbls⟩,⟨_,hn',fun j y v' e1 e2 e3=>?_⟩,fun y c e=>?_,I.free,I.freeC,fun p hp=>?_,fun b ob e=>?_,by simpa using I.len⟩
 ·obtain⟨sl,q⟩:=I.base.slot b o e n hb hx
  exact⟨sl,(hs.2 b (low b o e)).trans q⟩
 ·obtain⟨o',q⟩:=I.base.there b o e hx
  exact⟨o',(hs.2 b (low b o e)).trans q⟩
 ·have hj:j≠i:=fun z=>by
   subst z
   by_cases hl:j < σ.length
   ·rw[List.getElem?_set_self hl] at e2;cases e2
   ·rw[List.getElem?_eq_none (by simp;omega)] at e2;cases e2
  rw[List.getElem?_set_ne (Ne.symm hj)] at e2
  obtain⟨u',r',q⟩:=hl j y v' e1 e2 e3
  refine⟨u',r',?_⟩
  rcases q with ⟨k,q⟩|⟨k,c,q,z⟩
  ·have ne:y≠x:=fun z=>hj (nodup_ix hN e1 (z ▸ hi))
   exact .inl ⟨k,by simp[ne,q]⟩
  ·exact .inr ⟨k,c,q,z.sameBut hs (I.cne y c q)⟩
 ·obtain⟨w',z⟩:=I.cell y c e
  exact⟨w',z.sameBut hs (I.cne y c e)⟩
 ·obtain⟨q,n,ne,nf,d⟩:=I.pin p hp
  exact⟨(hs.2 p.1 ne).trans q,n,ne,nf,d⟩
 ·refine (I.hok b ob e).stay (fun c w' hc q=>(hs.2 c ?_).trans q) (fun _ q=>q) fun _ _ q=>q
  rintro rfl
  rcases hc with rfl|hc
  ·rw[I.free] at e;cases e
  ·rw[I.free] at hc;cases hc
end
theorem Slots.forget {K:PySem.W.Frag} {H:Hp} {δ:DSt} {σ:L2.St} (r:Slots K H δ σ) (i:Nat):Slots K H (δ.set i none) (σ.set i none):=by
 refine⟨by simp[r.len],fun j d q=>?_⟩
 have hj:j≠i:=fun z=>by
  subst z
  by_cases hl:j < δ.length
  ·rw[List.getElem?_set_self hl] at q;cases q
  ·rw[List.getElem?_eq_none (by simp;omega)] at q;cases q
 rw[List.getElem?_set_ne (Ne.symm hj)] at q
 obtain⟨u,h1,h2⟩:=r.slot j d q
 exact⟨u,by rw[List.getElem?_set_ne (Ne.symm hj)];exact h1,h2⟩
noncomputable abbrev _root_.L2.Cx.hnd (X:Cx) (e:Addr):Cx:={X with A:=X.A.mark (some (.ref e)),calm:=false,xe:=fun _ _=>False}
theorem inv_hnd {X:Cx} {pins:List (Addr×Obj)} {σ:L2.St} {H:Hp} {s:Shared} (I:L2.Inv X pins σ H s) (e:Addr):L2.Inv (X.hnd e) pins σ H s :=
 ⟨⟨I.ok.mod,I.ok.kind,I.ok.glob,I.ok.blt,I.ok.above,I.ok.inj,I.ok.has,I.ok.cab,fun z=>(by cases z),I.ok.frames,I.ok.stk,I.ok.exf,I.ok.bs,I.ok.bsz,I.ok.noex,I.ok.exfs,I.ok.funs,I.ok.frf⟩,I.os,I.bare,I.base,I.loc,I.cell,I.free,I.freeC,I.pin,I.hok,I.len⟩
theorem inv_unhnd {X:Cx} {pins:List (Addr×Obj)} {σ:L2.St} {H:Hp} {s:Shared} {e:Addr} (ok:X.Ok) (I:L2.Inv (X.hnd e) pins σ H s):L2.Inv X pins σ H s :=
 ⟨ok,I.os,I.bare,I.base,I.loc,I.cell,I.free,I.freeC,I.pin,I.hok,I.len⟩
noncomputable abbrev _root_.L2.Cx.tri (X:Cx) (xe:Value->Shared->Prop) (pins:List (Addr×Obj)):Cx:={X with xe:=xe,pn:=X.pn++pins}
theorem inv_tri {X:Cx} {pins:List (Addr×Obj)} {σ:L2.St} {H:Hp} {s:Shared} (I:L2.Inv X pins σ H s) (xe:Value->Shared->Prop):L2.Inv (X.tri xe pins) [] σ H s :=
 ⟨⟨I.ok.mod,I.ok.kind,I.ok.glob,I.ok.blt,I.ok.above,I.ok.inj,I.ok.has,I.ok.cab,I.ok.hd,I.ok.frames,I.ok.stk,I.ok.exf,I.ok.bs,I.ok.bsz,I.ok.noex,I.ok.exfs,I.ok.funs,I.ok.frf⟩,I.os,I.bare,I.base,I.loc,I.cell,I.free,I.freeC,fun p hp=>I.pin p (by simpa using hp),I.hok,I.len⟩
theorem inv_untri {X:Cx} {pins pl:List (Addr×Obj)} {σ:L2.St} {H:Hp} {s:Shared} {xe:Value->Shared->Prop} (ok:X.Ok) (I:L2.Inv (X.tri xe pins) pl σ H s):L2.Inv X pins σ H s :=
 ⟨ok,I.os,I.bare,I.base,I.loc,I.cell,I.free,I.freeC,fun p hp=>I.pin p (List.mem_append_left _ hp),I.hok,I.len⟩
noncomputable def dTry (t:DS) (c:Str) (ie ix:Nat):DS:=fun D δ M=>t {D with ex:=fun δ' d M'=>∃ n,d=.exc n (xarg d)/\isSub n c=true/\D.nx ((δ'.set ix (some d)).set ie none) M'} δ M
section
variable {X:Cx} {rz:Bool} {body:List Stmt} {t:DS} {cx ne x:Str} {np px pe apos hpos pos:Pos} {ie ix:Nat}
theorem ds_try {C:Addr} (st:X.stack=X.env::X.outer/\X.env.frame=some X.env.locals) (tab:xTabB X.K=true) (hcx:cx∈xNames) (hc:ClsOf X.K cx C) (hm:X.mg cx=some (.ref C)) (hg:Gl X cx) (hdb:(cx==("__debug__":Str))=false)
  (hN:X.N.Nodup) (hie:X.N[ie]?=some ne) (hix:X.N[ix]?=some x) (hne:ie≠ix) (ke:X.env.kindOf ne=some .local) (kx:Loc X.env.scope x) (fx:X.fn x=true\/X.env.scope.names.lookup x=some .local) (od1:(ne==("__debug__":Str))=false) (od2:(ne==("__classdict__":Str))=false)
  (hb:∀ xe pins,PassesOwn (model X.prog X.w) X.A X.env xe->PSs (X.tri xe pins) body (liftS (X.tri xe pins) false t)) :
  PS X (.Try body [.ExceptHandler (some (.Name cx np)) (some ne) [.Assign [.Name x px] (.Name ne pe) apos] hpos] [] [] pos) (liftS X rz (dTry t cx ie ix)):=by
 rintro pins s σ H Z I ⟨δ,M,D,rs,rm,t,n,r,b,c⟩
 refine wpAny_Try_except ?_
 generalize hxe:(fun e s₁=>wpAny (model X.prog X.w) X.A (noteFrame e X.env) (fun _ s₂=>wpAny (model X.prog X.w) X.A (setFlight e none) (fun _ s₃=>wpAny (model X.prog X.w) X.A (handleBy e X.env [.ExceptHandler (some (.Name cx np)) (some ne) [.Assign [.Name x px] (.Name ne pe) apos] hpos]) (SP X pins Z) X.xe s₃) X.xe s₂) X.xe s₁)=xe
 have po:PassesOwn (model X.prog X.w) X.A X.env xe:=by rw[<- hxe];exact PassesOwn.looking
 have ok:=I.ok
 refine wpAny_mono (hb xe pins po [] s σ H Z (inv_tri I xe) ⟨δ,M,_,⟨rs.toSlots,⟨?_,fun z=>(by cases z),fun z=>(by cases z)⟩⟩,rm,t,fun δ' M' σ' H' x rs' m' h'=>n δ' M' σ' H' x ⟨rs'.toSlots,(X.L rz D.ex).mono _ _ x rs.ok⟩ m' h',r,fun δ' M' σ' H' x rs' m' h'=>b δ' M' σ' H' x ⟨rs'.toSlots,(X.L rz D.ex).mono _ _ x rs.ok⟩ m' h',fun δ' M' σ' H' x rs' m' h'=>c δ' M' σ' H' x ⟨rs'.toSlots,(X.L rz D.ex).mono _ _ x rs.ok⟩ m' h'⟩) (fun fl s' q=>?_) fun e s' q=>q
 ·intro pins' σ' H1 s1 H' e C' dd s' δ' M' n' xd x1 I1 th m' sl hn' hc' ed ⟨n2,en,hsub,hnx⟩
  cases en
  rw[<- hxe]
  have I1':L2.Inv X pins σ' H1 s1:=inv_untri ok I1
  obtain⟨B,os,bare,un,old,hokB,fl⟩:=th.ex
  have fl':Flies B (X.env::X.outer) e (.ref C') dd .none s'.heap:=by rw[<- st.1];exact fl
  have fr:X.A.frames=some (X.env::X.outer):=by rw[<- st.1];exact ok.frames
  have ff:∀ b∈frs X.stack,∃ o,s'.heap.get? b=some o/\∀ vs,o.data≠.fields vs:=fun b hb=>(fl.frames.mem hb).2
  refine fly_note fr st.2 fl' fun h2 F2 n2'=>fly_land F2 fun h3 F3 n3=>?_
  have I3:L2.Inv X pins σ' H' {s' with heap:=h3}:=I1'.call' (s':={s' with heap:=h3}) os (un_near un old F3.stays ff (n2'.trans n3)) (hokB.kept F3.stays) bare (fun b hb=>by cases hb)
  have I3h:=inv_hnd I3 e
  have LT:PySem.W.Looks (model X.prog X.w) h3 (typeOf (.ref e)) (.ref C'):=by
   obtain⟨oe,vs,T,oT,ts,q1,q2,_⟩:=F3.tr
   exact q2 ▸ (PySem.W.Looks.ld q1).andThen .now
  have hx:=((xTab_row tab hn' hc').2.2.2 cx C hcx hc).1
  rw[hsub] at hx
  refine wpAny_handleBy_cons (codeAny_handlers_test (ld_glob (X:=X.hnd e) I3h hg hm ((PySem.W.exm_one I3.kIn LT hx).at ?_) hdb)) (by intro z;cases z)
  show codeAny _ _ _ _ _
  refine codeAny_handlers_suite_as (fly_land (s:={s' with heap:=h3}) F3 fun h4 F4 n4=>?_)
  have fresh:H' e=none:=by
   cases q:H' e with
   | none=>rfl
   | some u=>obtain⟨ob,z⟩:=objOk_there (hokB e u q);rw[F4.new] at z;cases z
  have xe4:ExcAt e C' dd h4:=by
   obtain⟨oe,vs,T,oT,ts,q1,q2,q3,q4,_⟩:=F4.tr
   exact⟨oe,vs,q1,q2,q3,q4⟩
  have un4:=un_near un old F4.stays ff (n2'.trans (n3.trans n4))
  have ne1:∀ b o,s1.heap.get? b=some o->H1 b=none->b≠e:=fun b o q nn z=>by
   subst z
   by_cases hf:b∈frs X.stack
   ·obtain⟨o1,q1,d1⟩:=ff b hf
    obtain⟨oe,vs,T,oT,ts,p1,p2,p3,p4,_⟩:=fl.tr
    rw[q1] at p1;cases p1;exact d1 _ p4
   ·have:=old b o q nn hf
    rw[F4.new] at this;cases this
  have neH:∀ b u,H' b=some u->b≠e:=fun b u q z=>by rw[z,fresh] at q;cases q
  have un5:Un (frs X.stack) [] H1 (upd H' e (.ext (ExcAt e C' dd))) s1.heap h4:=⟨un4.keep,un4.slot,fun b o q nn hx=>by rw[upd_ne (ne1 b o q nn)];exact un4.free b o q nn hx,un4.there,fun b xs q=>by rw[upd_ne (neH b _ (un4.tups b xs q))];exact un4.tups b xs q,fun b o u q=>by rw[upd_ne (neH b _ (un4.frzs b o u q))];exact un4.frzs b o u q,
   fun b ps q=>by obtain⟨mo,q'⟩:=un4.tbls b ps q;exact⟨mo,by rw[upd_ne (neH b _ q')];exact q'⟩⟩
  have hok5:HOk X.prog X.w (upd H' e (.ext (ExcAt e C' dd))) h4:=fun a o q=>by
   by_cases z:a=e
   ·subst z;rw[upd_same] at q;cases q
    obtain⟨ob,vs,q1,q2⟩:=id xe4
    exact⟨xe4,⟨ob,q1⟩,fun g1 g2 ⟨ob,vs,q1,q2⟩ k=>⟨ob,vs,k _ q1,q2⟩⟩
   ·rw[upd_ne z] at q
    refine (hokB a o q).stay (fun c u _ r=>F4.stays c u r) (fun c q=>by rw[upd_ne (neH c _ q)];exact q) fun c xs q=>by rw[upd_ne (neH c _ q)];exact q
  have I5:L2.Inv X pins σ' (upd H' e (.ext (ExcAt e C' dd))) {s' with heap:=h4}:=I1'.call' (s':={s' with heap:=h4}) os un5 hok5 bare (fun b hb=>by cases hb)
  have x5:HExt X.K H' (upd H' e (.ext (ExcAt e C' dd))):=.upd (.inl fresh)
  have m5:RepM X.K (upd H' e (.ext (ExcAt e C' dd))) M':=fun a o q=>(m' a o q).ext x5 fun z=>by subst z;exact absurd fresh (m' a o q).fresh
  have rd5:RelD X.K (upd H' e (.ext (ExcAt e C' dd))) (.ref e) (.exc n' xd):=(ed.ext x5).rel hn' hc' upd_same
  refine store_ok (X:=X.hnd e) (v:=.ref e) (inv_hnd I5 e) hN hie (.inl ke) rfl (fun s6 I6=>?_) (.inr ke)
  have pl:PSs (X.hnd e) [.Assign [.Name x px] (.Name ne pe) apos] (tSeq (tAsg (tVar ie) (gName ix)) tNext):=pss_cons (ps_set hN hix kx (pe_var hie (.inl ke) od1 od2) rfl fx) pss_nil
  refine wpAny_mono (pl pins s6 (σ'.set ie (some (.ref e))) _ {nx:=fun σ'' H''=>σ''=(σ'.set ie (some (.ref e))).set ix (some (.ref e))/\H''=upd H' e (.ext (ExcAt e C' dd)),rt:=fun _ _=>False} I6 ⟨.ref e,?_,rfl,rfl⟩) (fun f s7 h7=>?_) fun _ _ z=>z.elim
  ·rw[List.getElem?_set_self]
   have:=(List.getElem?_eq_some_iff.mp hie).1
   rw[I1'.len];exact this
  ·cases f with
   | next =>
    obtain⟨σ7,H7,I7,rfl,rfl⟩:=h7
    refine unbind_ok (inv_unhnd ok I7) hN hie ke fun s8 I8=>?_
    have e8:((σ'.set ie (some (.ref e))).set ix (some (.ref e))).set ie none=(σ'.set ix (some (.ref e))).set ie none:=by
     rw[List.set_comm _ _ hne,List.set_set]
    rw[e8] at I8
    have s8:Slots X.K (upd H' e (.ext (ExcAt e C' dd))) ((δ'.set ix (some (.exc n' xd))).set ie none) ((σ'.set ix (some (.ref e))).set ie none):=((sl.ext x5).set rd5 ix).forget ie
    exact⟨_,_,I8,n _ _ _ _ (x1.trans x5) ⟨s8,(X.L rz D.ex).mono _ _ (x1.trans x5) rs.ok⟩ m5 hnx⟩
   | brk=>obtain⟨_,_,_,z⟩:=h7;exact z.elim
   | cont=>obtain⟨_,_,_,z⟩:=h7;exact z.elim
   | ret u=>obtain⟨_,_,_,_,_,z⟩:=h7;exact z.elim
 ·have q':SP X pins Z fl s':=by
   cases fl with
   | next=>obtain⟨σ',H',I',z⟩:=q;exact⟨σ',H',inv_untri ok I',z⟩
   | brk=>obtain⟨σ',H',I',z⟩:=q;exact⟨σ',H',inv_untri ok I',z⟩
   | cont=>obtain⟨σ',H',I',z⟩:=q;exact⟨σ',H',inv_untri ok I',z⟩
   | ret u=>obtain⟨v,σ',H',I',rr,z⟩:=q;exact⟨v,σ',H',inv_untri ok I',rr,z⟩
  cases fl with
  | next =>
   obtain⟨σ',H',I',z⟩:=q'
   exact pss_nil pins s' σ' H' Z I' z
  | brk=>exact q'
  | cont=>exact q'
  | ret u=>exact q'
end
section
variable {X:Cx} {rz:Bool} {b0:Stmt} {body hb:List Stmt} {t th:DS} {cx ne:Str} {np hpos pos:Pos} {ie:Nat}
end
section
variable {X:Cx} {rz:Bool} {b0:Stmt} {body hb:List Stmt} {t th:DS} {cx:Str} {np hpos pos:Pos}
end
end DL
end
noncomputable section
namespace DL
open PySem PySem.Spec PyProof.Rows L2
section
variable {M:Model} {A:Around} {Z:Value->Shared->Prop} {s:Shared} {B:Heap} {env:Env} {outer:List Env} {L e:Addr}
theorem fly_made2 {A':Around} {cls:Value} {dd:Option Addr} {h:Heap} {E:Value->Shared->Prop} {Z':Value->Shared->Prop} (fr':A'.frames=some (env::outer)) (fl:env.frame=some L) (ff:h.FunFrames B (env::outer)) (st:B.StaysIn h) (mk:Made h s.heap e cls dd)
  (go:∀ h',Flies B (env::outer) e cls dd (rawInt L) h'->Near s.heap h'->E (.ref e) {s with heap:=h'}):wpAny M A' (noteFrame (.ref e) env) (fun _ s2=>cameBackBy M A env E (.ref e) s2) Z' s:=by
 obtain⟨oe,vs,q1,rfl,rfl,q4,q5⟩:=mk.at_
 refine fly_note0 fr' (ff.of_keeps fun b o q _=>⟨o,mk.keeps b o q,rfl⟩) fl q1 (fun b o q=>mk.keeps b o (st b o q)) (mk.fresh st) q4 q5 fun h1 F1 u1=>?_
 show wpAny _ _ _ _ _ _
 obtain⟨oe',vs',T,oT,ts,p1,p2,p3,p4,p5,p6,p7,p8,p9,p10⟩:=F1.tr
 refine wpAny_bind (wpAny_field p1 p4 p5 ?_)
 rw[if_neg (by simp),fl]
 exact fly_back F1 fun h2 F2 u2=>go h2 F2 (u1.trans u2)
end
section
variable {prog:Program} {w:World} {A:Around} {E:Value->Shared->Prop} {h:Heap} {g:Array GenState} {d:Drawn} {t:Nat} {os:OsState}
theorem unchain_none {M:Model} {h:Addr} {s:Shared} {oh:Obj} {ws:Array Value} {e:Value} {Q:Value->Shared->Prop} (hm:M=model prog w) (h1:s.heap.get? h=some oh) (h2:oh.data=.fields ws) (h3:ws[2]?=some .none) (hq:Q .none s) :
  wpAny M A (runValue (.builtin "proto.unchain" ⟨[e,.ref h,.ref h,.bool false],[]⟩)) Q E s:=by
 subst hm
 refine wpAny_runValue (codeAny_builtin (b:=Builtin.«proto.unchain») (by kernel_rfl) ?_)
 unfold Builtin.«proto.unchain»
 refine wpAny_bind (wpAny_field h1 h2 h3 ?_)
 rw[if_pos (by rfl)]
 exact wpAny_pure hq
theorem raise_ownN {env:Env} {s:Shared} {x c:Sem Value} {h:Addr} {Q:Flow->Shared->Prop} (hbase:bm.contains (.type "BaseException")=true) (hh:A.handled=some (.ref h))
  (hc:∀ (v:Value) (s:Shared) (Q:Value->Shared->Prop),Q .none s->wpAny (model prog w) A (holding [v] c) Q E s)
  (hx:wpAny (model prog w) A x (fun v s₁=>∃ e ob vs oh ws,v=.ref e/\s₁.heap.get? C=some (excClassObj nm q C N bs bm hdct sn sub ab col dd k0 k1 k2 k3 k5 newId)/\s₁.heap.get? e=some ob/\ob.cls=.ref C/\ob.data=.fields vs/\vs[1]?=some .none/\vs.size=6/\h≠e/\s₁.heap.get? h=some oh/\oh.data=.fields ws/\ws[2]?=some .none /\
   ∀ h' ob' vs',h'.get? e=some ob'->ob'.cls=.ref C->ob'.dict=ob.dict->ob'.data=.fields vs'->vs'[1]?=some .none->(∀ b o,b≠e->s₁.heap.get? b=some o->h'.get? b=some o)->E (.ref e) {s₁ with heap:=h'}) E s) :
  wpAny (model prog w) A (raiseStmt env (some x) (some c)) Q E s:=by
 have hcB:(Value.ref C::bm).contains (.type "BaseException")=true:=by rw[List.contains_cons,hbase,Bool.or_true]
 unfold raiseStmt
 refine wpAny_bind (wpAny_mono hx (fun v s₁ h₁=>?_) fun _ _ x=>x)
 obtain⟨e,⟨oc,od,odt,osl⟩,vs,oh,ws,rfl,hC,he,hcl,hdt,hv,hsz,hne,hh1,hh2,hh3,hE⟩:=h₁
 dsimp only at hcl hdt
 subst hcl hdt
 dsimp only
 refine wpAny_bind (hc _ _ _ ?_)
 obtain⟨hp,g,d,tk,os⟩:=s₁
 dsimp only at hC he hh1 hE
 repeat (first|with_reducible refine wpAny_loadPart_at he ?_|with_reducible refine wpAny_loadPart_at hC ?_|(with_reducible refine wpAny_isSubtype_exc hC ?_;rw[hcB])|wp_step)
 have sz:∀ (k:Nat) (v:Value),(vs.setIfInBounds k v).size=6:=fun k v=>by simp[hsz]
 have he3:=Heap.get?_update_self (Obj.mapFields (·.setIfInBounds 3 Value.none)) he (Obj.isFreed_of_fields (Obj.data_mapFields rfl _))
 have he4:=Heap.get?_update_self (Obj.mapFields (·.setIfInBounds 4 (Value.bool true))) he3 (Obj.isFreed_of_fields (Obj.data_mapFields (Obj.data_mapFields rfl _) _))
 have oth:∀ b o,b≠e->hp.get? b=some o->((hp.update e (Obj.mapFields (·.setIfInBounds 3 Value.none))).update e (Obj.mapFields (·.setIfInBounds 4 (Value.bool true)))).get? b=some o:=fun b o n q=>by
  rw[Heap.get?_update_other _ _ (Ne.symm n),Heap.get?_update_other _ _ (Ne.symm n)];exact q
 have nCe:C≠e:=fun z=>by
  rw[z,he] at hC
  cases hC
 have hCu:=oth C _ nCe hC
 have hhu:=oth h _ hne hh1
 refine wpAny_loadPart_at hCu ?_
 refine wpAny_pure ?_
 rw[if_pos (by rfl)]
 refine wpAny_pure (wpAny_bind ?_)
 obtain⟨o4,ho4⟩:∃ o4,o4=(Obj.mapFields (·.setIfInBounds 4 (Value.bool true)) (Obj.mapFields (·.setIfInBounds 3 Value.none) ({cls:=Value.ref C,dict:=od,data:=Data.fields vs,slots:=osl}:Obj))):=⟨_,rfl⟩
 have d4:o4.data=.fields ((vs.setIfInBounds 3 Value.none).setIfInBounds 4 (Value.bool true)):=by rw[ho4];rfl
 have c4:o4.cls=.ref C:=by rw[ho4];rfl
 have e4:o4.dict=od:=by rw[ho4];rfl
 rw[<- ho4] at he4
 generalize hhp:((hp.update e (Obj.mapFields (·.setIfInBounds 3 Value.none))).update e (Obj.mapFields (·.setIfInBounds 4 (Value.bool true))))=h5 at *
 have v1:((vs.setIfInBounds 3 Value.none).setIfInBounds 4 (Value.bool true))[1]?=some .none:=by
  rw[Array.getElem?_setIfInBounds_ne (by decide),Array.getElem?_setIfInBounds_ne (by decide)];exact hv
 have z4:((vs.setIfInBounds 3 Value.none).setIfInBounds 4 (Value.bool true)).size=6:=by simp[hsz]
 generalize ((vs.setIfInBounds 3 Value.none).setIfInBounds 4 (Value.bool true))=v5 at d4 v1 z4
 unfold setFlight
 refine wpAny_bind (wpAny_field he4 d4 v1 ?_)
 rw[if_neg (by simp)]
 refine wpAny_pure ?_
 unfold raiseNew
 refine wpAny_bind (wpAny_handled ?_)
 rw[hh]
 dsimp only
 rw[if_pos (by simpa using hne)]
 refine wpAny_bind (wpAny_holding (unchain_none rfl hhu hh2 hh3 ?_))
 unfold updateField
 refine wpAny_bind (wpAny_bind (wpAny_load he4 ?_))
 rw[d4]
 dsimp only
 rw[if_pos (by rw[z4];decide)]
 refine wpAny_update he4 (wpAny_throw ?_)
 refine hE _ _ _ (Heap.get?_update_self _ he4 (Obj.isFreed_of_fields (Obj.data_mapFields d4 _))) (by rw[Obj.cls_mapFields];exact c4) (by rw[dict_mapFields];exact e4) (Obj.data_mapFields d4 _) (by rw[Array.getElem?_setIfInBounds_ne (by decide)];exact v1) fun b o n q=>?_
 rw[Heap.get?_update_other _ _ (Ne.symm n)]
 exact oth b o n q
theorem raise_call_initN {env:Env} {s:Shared} {h:Addr} (Fn:ExcBaseFacts Bn newId inN bmN) (hBn:bmB.contains (.type Bn)=true) (F:ExcBaseFacts B nid initId bmB) {mN:Str->Option Value} {x:Str} {np cpos pos cp:Pos} {ck:Nat} {args:List Expr} {fI:Addr} {Q:Flow->Shared->Prop}
  (hbase:bm.contains (.type "BaseException")=true) (hh:A.handled=some (.ref h)) (hplain:(backTo cpos (starEach args env)).any (·.1)=false) (hni:mN "__init__"=some (.ref fI))
  (hx:wpAny (model prog w) A (eval (.Name x np) env) (fun f s₁=>f=.ref C/\wpAny (model prog w) A (evalArgs (.ref C) true (backTo cpos (starEach args env)) [])
   (fun a s₂=>a.kw=[]/\a.pos.length<=sizeLine/\s₂.heap.get? C=some (excClassObj nm q C N bs bm hdct sn sub ab col dd k0 k1 k2 k3 k5 newId)/\s₂.heap.Ns N mN/\OwnTail s₂.heap bmB bm/\(∃ oI,s₂.heap.get? fI=some oI/\oI.cls=.type "function") /\
    ∀ h' e,Heap.MadeExcOf s₂.heap h' e (.ref C) a.pos->wpAny (model prog w) (A.under (.builtin "type.__call__" ⟨.ref C::a.pos,[]⟩)) (call (.ref fI) (.ref e::a.pos)) (fun r s'=>r=.none/\∃ ob vs oh ws,s'.heap.get? C=some (excClassObj nm q C N bs bm hdct sn sub ab col dd k0 k1 k2 k3 k5 newId)/\s'.heap.get? e=some ob/\ob.cls=.ref C/\ob.data=.fields vs/\vs[1]?=some .none/\vs.size=6/\h≠e/\s'.heap.get? h=some oh/\oh.data=.fields ws/\ws[2]?=some .none /\
     ∀ h' ob' vs',h'.get? e=some ob'->ob'.cls=.ref C->ob'.dict=ob.dict->ob'.data=.fields vs'->vs'[1]?=some .none->(∀ b o,b≠e->s'.heap.get? b=some o->h'.get? b=some o)->E (.ref e) {s' with heap:=h'}) E {s₂ with heap:=h'}) E s₁) E s) :
  wpAny (model prog w) A (exec (.Raise (some (.Call (.Name x np) args [] cpos)) (some (.Constant .none ck cp)) pos) env) Q E s:=by
 rw[arm_exec_Raise]
 refine wpAny_bind (wpAny_standAt (raise_ownN (C:=C) (nm:=nm) (q:=q) (N:=N) (bs:=bs) (bm:=bm) (hdct:=hdct) (sn:=sn) (sub:=sub) (ab:=ab) (col:=col) (dd:=dd) (k0:=k0) (k1:=k1) (k2:=k2) (k3:=k3) (k5:=k5) (newId:=newId) hbase hh
  (fun v s Q q=>wpAny_holding (wpAny_bind (wpAny_Constant_none (wpAny_bind (wpAny_standAt (wpAny_pure q))))))
  (wpAny_bind (wpAny_mono (wpAny_Call_ofName (wpAny_mono hx (fun f s₁ h₁=>?_) fun _ _ x=>x)) (fun v s₃ h₃=>wpAny_bind (wpAny_standAt (wpAny_pure h₃))) fun _ _ x=>x))))
 obtain⟨rfl,h₁⟩:=h₁
 unfold callWith
 refine wpAny_bind (wpAny_holding (wpAny_mono h₁ (fun a s₂ h₂=>wpAny_bind (wpAny_standAt ?_)) fun _ _ x=>x))
 obtain⟨apos,akw⟩:=a
 obtain⟨hkw,hlen,hC,hn,T,⟨oI,hfI,hfc⟩,h₂⟩:=h₂
 obtain rfl:akw=[]:=hkw
 obtain⟨hp,g,d,tk,os⟩:=s₂
 simp only[hplain]
 refine wpAny_bind (wpAny_keeperOf_exc hC ?_)
 refine wpAny_bind (call_exc_initU Fn hBn F T hC hn hni hfI hfc (fun h' e hm=>wpAny_mono (h₂ h' e hm) (fun r s' hr=>⟨hr.1,wpAny_bind (wpAny_holding (wpAny_point (wpAny_pure ?_)))⟩) fun _ _ z=>z) hlen)
 obtain⟨ob,vs,oh,ws,c⟩:=hr.2
 exact⟨e,ob,vs,oh,ws,rfl,c⟩
end
noncomputable def dTrr (t:DS) (c x:Str) (i:Nat):DS:=fun D δ M=>t {D with ex:=fun δ' d M'=>∃ n,d=.exc n .non/\isSub n c=true/\∃ k:Int,δ'[i]?=some (some (.int k))/\D.ex δ' (.exc x (.int k)) M'} δ M
section
variable {X:Cx} {body:List Stmt} {t:DS} {cx x xn:Str} {np np2 ap cpos cp rpos hpos pos:Pos} {ck i:Nat}
set_option tactic.hygienic true
theorem ds_trr {C C2:Addr} (hr:Room 0 X.A) (st:X.stack=X.env::X.outer/\X.env.frame=some X.env.locals) (tab:xTabB X.K=true) (hcx:cx∈xNames) (hc:ClsOf X.K cx C) (hm:X.mg cx=some (.ref C)) (hg:Gl X cx) (hdb:(cx==("__debug__":Str))=false)
  (hp:xInit.contains x=true) (hc2:ClsOf X.K x C2) (hm2:X.mg x=some (.ref C2)) (hg2:Gl X x) (hdb2:(x==("__debug__":Str))=false)
  (hN:X.N[i]?=some xn) (hv:Vis X.env.scope xn) (hd1:(xn==("__debug__":Str))=false) (hd2:(xn==("__classdict__":Str))=false)
  (hbd:∀ xe pins,PassesOwn (model X.prog X.w) X.A X.env xe->PSs (X.tri xe pins) body (liftS (X.tri xe pins) false t)) :
  PS X (.Try body [.ExceptHandler (some (.Name cx np)) none [.Raise (some (.Call (.Name x np2) [.Name xn ap] [] cpos)) (some (.Constant .none ck cp)) rpos] hpos] [] [] pos) (liftS X true (dTrr t cx x i)):=by
 rintro pins s σ H Z I ⟨δ,M,D,rs,rm,t,n,r,b,c⟩
 refine wpAny_Try_except ?_
 generalize hxe:(fun e s₁=>wpAny (model X.prog X.w) X.A (noteFrame e X.env) (fun _ s₂=>wpAny (model X.prog X.w) X.A (setFlight e none) (fun _ s₃=>wpAny (model X.prog X.w) X.A (handleBy e X.env [.ExceptHandler (some (.Name cx np)) none [.Raise (some (.Call (.Name x np2) [.Name xn ap] [] cpos)) (some (.Constant .none ck cp)) rpos] hpos]) (SP X pins Z) X.xe s₃) X.xe s₂) X.xe s₁)=xe
 have po:PassesOwn (model X.prog X.w) X.A X.env xe:=by rw[<- hxe];exact PassesOwn.looking
 have ok:=I.ok
 refine wpAny_mono (hbd xe pins po [] s σ H Z (inv_tri I xe) ⟨δ,M,_,⟨rs.toSlots,⟨?_,fun z=>(by cases z),fun z=>(by cases z)⟩⟩,rm,t,fun δ' M' σ' H' x rs' m' h'=>n δ' M' σ' H' x ⟨rs'.toSlots,(X.L true D.ex).mono _ _ x rs.ok⟩ m' h',r,fun δ' M' σ' H' x rs' m' h'=>b δ' M' σ' H' x ⟨rs'.toSlots,(X.L true D.ex).mono _ _ x rs.ok⟩ m' h',fun δ' M' σ' H' x rs' m' h'=>c δ' M' σ' H' x ⟨rs'.toSlots,(X.L true D.ex).mono _ _ x rs.ok⟩ m' h'⟩) (fun fl s' q=>?_) fun e s' q=>q
 ·intro pins' σ' H1 s1 H' e C' dd s' δ' M' n' xd x1 I1 th m' sl hn' hc' ed ⟨n2,en,hsub,kk,hkk,hex⟩
  cases en
  rw[<- hxe]
  have I1':L2.Inv X pins σ' H1 s1:=inv_untri ok I1
  have cle:Clean s'.heap e:=th.cl (by
   cases ed with
   | plain _=>exact .inl rfl
   | fld hi hd rx=>cases rx;exact .inr ⟨_,_,rfl,hd⟩)
  obtain⟨B,os,bare,un,old,hokB,fl⟩:=th.ex
  have fl':Flies B (X.env::X.outer) e (.ref C') dd .none s'.heap:=by rw[<- st.1];exact fl
  have fr:X.A.frames=some (X.env::X.outer):=by rw[<- st.1];exact ok.frames
  have ff:∀ b∈frs X.stack,∃ o,s'.heap.get? b=some o/\∀ vs,o.data≠.fields vs:=fun b hb=>(fl.frames.mem hb).2
  refine fly_note fr st.2 fl' fun h2 F2 n2'=>fly_land F2 fun h3 F3 n3=>?_
  have I3:L2.Inv X pins σ' H' {s' with heap:=h3}:=I1'.call' (s':={s' with heap:=h3}) os (un_near un old F3.stays ff (n2'.trans n3)) (hokB.kept F3.stays) bare (fun b hb=>by cases hb)
  have I3h:=inv_hnd I3 e
  have LT:PySem.W.Looks (model X.prog X.w) h3 (typeOf (.ref e)) (.ref C'):=by
   obtain⟨oe,vs,T,oT,ts,q1,q2,_⟩:=F3.tr
   exact q2 ▸ (PySem.W.Looks.ld q1).andThen .now
  have hx:=((xTab_row tab hn' hc').2.2.2 cx C hcx hc).1
  rw[hsub] at hx
  refine wpAny_handleBy_cons (codeAny_handlers_test (ld_glob (X:=X.hnd e) I3h hg hm ((PySem.W.exm_one I3.kIn LT hx).at ?_) hdb)) (by intro z;cases z)
  show codeAny _ _ _ _ _
  refine codeAny_handlers_suite (fly_land (s:={s' with heap:=h3}) F3 fun h4 F4 n4=>?_)
  have I4:L2.Inv X pins σ' H' {s' with heap:=h4}:=I1'.call' (s':={s' with heap:=h4}) os (un_near un old F4.stays ff (n2'.trans (n3.trans n4))) (hokB.kept F4.stays) bare (fun b hb=>by cases hb)
  have cl4:Clean h4 e:=n4.2.2 _ (n3.2.2 _ (n2'.2.2 _ cle))
  have H'e:H' e=none:=by
   cases q:H' e with
   | none=>rfl
   | some u=>obtain⟨ob,z⟩:=objOk_there (hokB e u q);rw[fl.new] at z;cases z
  have I4h:=inv_hnd I4 e
  have hslot:=sl.slot i _ hkk
  obtain⟨v1,hs1,rv1⟩:=hslot
  obtain rfl:v1=.int kk:=by cases rv1;rfl
  have hi:x∈xInit:=by simpa using hp
  have hn:x∈xNames:=List.mem_cons_of_mem _ (List.mem_append_right _ hi)
  have FV:=PySem.F.excBase_ValueError
  obtain⟨Bc,fI,T⟩:=iTab_row tab hi hc2
  obtain⟨bm,Nn,nm,q,bs,sn,sub,ab,col,ddc,k0,k1,k2,k3,k5,mN,hC,hNs,hni,OT,cd,hci,hdc,hpm⟩:=excI_of (C:=C2) I.ok.mod.kin T.ex
  obtain⟨oI,hfK,hfc⟩:∃ oI,X.K.lookup fI=some oI/\oI.cls=.type "function":=by
   have tf:=T.fn
   unfold initFn at tf
   split at tf
   next lk=>exact⟨_,lk,rfl⟩
   next=>cases tf
  have hmB:X.mg "CordError"=some (.ref Bc):=by
   have e:=T.b
   unfold clsAt at e
   split at e
   next q=>cases e;exact PySem.W.mg_of I.ok.mod.kin I.ok.mod.glob q
   next=>cases e
  refine wpAny_execs_cons ?_
  refine raise_call_initN (h:=e) (C:=C2) (nm:=nm) (q:=q) (N:=Nn) (bs:=bs) (bm:=bm) (bmB:=bmV) (hdct:=true) (sn:=sn) (sub:=sub) (ab:=ab) (col:=col) (dd:=ddc) (k0:=k0) (k1:=k1) (k2:=k2) (k3:=k3) (k5:=k5) (fI:=fI) FV (by decide) FV (mN:=mN)
   (OT.hasType (by decide)) rfl rfl hni (ld_glob (X:=X.hnd e) I4h hg2 hm2 ⟨rfl,?_⟩ hdb2)
  refine Calls.evalArgs_plain ?_
  obtain⟨oe,ews,ce1,ce2,ce3⟩:=cl4
  have efs:e ∉ frs X.stack:=fun z=>by
   obtain⟨_,o,q,rr⟩:=I4.stack.mem z
   rw[ce1] at q;cases q
   exact rr _ ce2
  have eloc:e≠X.env.locals:=fun z=>by
   obtain⟨m,⟨o,es,ep,g1,g2,_⟩,_⟩:=I4.loc
   rw[<- z,ce1] at g1;cases g1
   rw[ce2] at g2;cases g2
  have I4p:L2.Inv (X.hnd e) ((e,oe)::pins) σ' H' {s' with heap:=h4}:=inv_pin I4h fun p hp=>by
   rcases List.mem_append.mp hp with hp|hp
   ·exact I4h.pin p (List.mem_append_left _ hp)
   rcases List.mem_cons.mp hp with rfl|hp
   ·exact⟨ce1,H'e,eloc,fun z=>efs (by rw[st.1,frs_cons st.2];exact List.mem_cons_of_mem _ z),fun v z=>by rw[ce2] at z;cases z⟩
   ·exact I4h.pin p (List.mem_append_right _ hp)
  refine wpAny_mono ((pa_cons (pe_var (X:=X.hnd e) hN hv hd1 hd2) pa_nil) cpos ((e,oe)::pins) {s' with heap:=h4} σ' H' (fun vs H1=>H1=H'/\vs=[.int kk]) I4p ⟨_,hs1,rfl,rfl⟩) (fun us s5 hq1=>?_) fun _ _ z=>z.elim
  obtain⟨vs,H5,I5p,r5,rfl,rfl⟩:=hq1
  have hcl5:Clean s5.heap e:=⟨oe,ews,(I5p.pin (e,oe) (List.mem_append_right _ List.mem_cons_self)).1,ce2,ce3⟩
  have I5h:L2.Inv (X.hnd e) pins σ' H5 s5:=inv_pin I5p fun p hp=>I5p.pin p (by
   rcases List.mem_append.mp hp with hp|hp
   ·exact List.mem_append_left _ hp
   ·exact List.mem_append_right _ (List.mem_cons_of_mem _ hp))
  have I5:=inv_unhnd ok I5h
  obtain⟨u1,rfl,ru⟩:∃ u1,us=[u1]/\RelV (.int kk) u1:=by cases r5 with|cons a b=>cases b;exact⟨_,rfl,a⟩
  have cl5:Clean s5.heap e:=hcl5
  obtain⟨oh,ows,ch1,ch2,ch3⟩:=cl5
  refine⟨rfl,by show 1<=sizeLine;simp[sizeLine_eq],I5.bk _ _ hC,hNs.keeps I5.bk,OT.keeps I5.bk,⟨oI,I5.kIn _ _ hfK,hfc⟩,fun h' e0 mk=>?_⟩
  have ne1:∀ b o,s5.heap.get? b=some o->b≠e0:=fun b o q z=>by rw[z,mk.new] at q;cases q
  have H1e:H5 e0=none:=by
   cases q:H5 e0 with
   | none=>rfl
   | some u=>obtain⟨ob,z⟩:=objOk_there (I5.hok e0 u q);exact absurd rfl (ne1 _ _ z)
  have J:L2.Inv (X.hnd e) pins σ' H5 {s5 with heap:=h'}:=I5h.call' (s':={s5 with heap:=h'}) (ch:=[]) rfl (Un.kept mk.keeps) (I5h.hok.kept mk.keeps) I5h.bare (fun b hb=>by cases hb)
  obtain⟨t0,q1,_,_⟩:=mk.there
  refine wpAny_call (run_init T (xTab_row tab hn hc2).1.obj hmB (by rw[L2.make_depth];have:=hr.dp;show X.A.depth+_ < _;omega) (J.env0.make C2 [u1] []) q1 rfl rfl rfl rfl rfl rfl H1e ?_ (fun z=>?_) ru fun s3 E3=>⟨rfl,?_⟩)
  ·cases q:X.base.get? e0 with
   | none=>rfl
   | some o=>exact absurd rfl (ne1 _ _ (I5.bk _ _ q))
  ·obtain⟨_,o,q,_⟩:=I5.stack.mem z
   exact absurd rfl (ne1 _ _ q)
  obtain⟨ob,ws,d,u,a1,a2,a3,a4,a5,aC,aZ,a6,a7,a8,a9⟩:=E3.at_
  have dn:∀ b o,s5.heap.get? b=some o->b≠d:=fun b o q z=>by
   have:=Heap.lt_size (mk.keeps b o q)
   rw[z] at this
   exact absurd (Nat.lt_of_lt_of_le this a8) (Nat.lt_irrefl _)
  have de:d≠e0:=fun z=>by
   have:=Heap.lt_size q1
   rw[<- z] at this
   exact absurd (Nat.lt_of_lt_of_le this a8) (Nat.lt_irrefl _)
  have C3:s3.heap.get? C2=some (excClassObj nm q C2 Nn bs bm true sn sub ab col ddc k0 k1 k2 k3 k5 "ValueError.__new__"):=by
   have bC:=I5.bk _ _ hC
   refine E3.un.keep C2 _ (mk.keeps _ _ bC) (I5.bs _ _ hC).2 (fun z=>?_) (by simpa using ne1 _ _ bC)
   have:=(I5.stack.mem z).1
   rw[hC] at this;cases this
  have c3:s3.heap.get? e=some oh:=by
   refine E3.un.keep e _ (mk.keeps _ _ ch1) H'e (fun z=>?_) (by simpa using ne1 _ _ ch1)
   obtain⟨_,o,q,rr⟩:=I5.stack.mem z
   rw[ch1] at q;cases q
   exact rr _ ch2
  refine⟨ob,ws,oh,ows,C3,a1,a2,a4,a5,aZ,ne1 _ _ ch1,c3,ch2,ch3,fun hF obF vsF f1 f2 f3 f4 f5 f6=>?_⟩
  have x5:HExt X.K H5 (upd H5 d (.ext (FldAt d (fldOf x) (.int kk)))):=.upd (.inl a9)
  have m5:RepM X.K (upd H5 d (.ext (FldAt d (fldOf x) (.int kk)))) M':=fun a o q=>(m' a o q).ext x5 fun z=>by subst z;exact absurd a9 (m' a o q).fresh
  have neH:∀ b u,H5 b=some u->b≠d:=fun b u q z=>by rw[z,a9] at q;cases q
  have hid:∀ b o,b≠e0->s3.heap.get? b=some o->(PySem.W.hideAll s3.heap [e0]).get? b=some o:=fun b o n q=>PySem.W.hideAll_get _ q (by simpa using n)
  have un5:Un (frs X.stack) [] H5 (upd H5 d (.ext (FldAt d (fldOf x) (.int kk)))) s5.heap (PySem.W.hideAll s3.heap [e0]):={
   keep:=fun b o q nn hf _=>hid b o (ne1 b o q) (E3.un.keep b o (mk.keeps b o q) nn hf (by simpa using ne1 b o q)),
   slot:=fun b o q nn hf _=>by obtain⟨sl,z⟩:=E3.un.slot b o (mk.keeps b o q) nn hf (by simpa using ne1 b o q);exact⟨sl,hid b _ (ne1 b o q) z⟩,
   free:=fun b o q nn _=>by rw[upd_ne (dn b o q)];exact nn,
   there:=fun b o q _=>by obtain⟨o',z⟩:=E3.un.there b o (mk.keeps b o q) (by simpa using ne1 b o q);exact⟨o',hid b _ (ne1 b o q) z⟩,
   tups:=fun b xs q=>by rw[upd_ne (neH b _ q)];exact q,
   frzs:=fun b o u q=>by rw[upd_ne (neH b _ q)];exact q,
   tbls:=fun b ps q=>⟨#[],by rw[upd_ne (neH b _ q)];simpa using q⟩}
  have n7:(PySem.W.hideAll s3.heap [e0]).Ns1 d (fun y=>if y=fldOf x then some u else none):=a7.at fun o q=>hid d o de q
  have hok5:HOk X.prog X.w (upd H5 d (.ext (FldAt d (fldOf x) (.int kk)))) (PySem.W.hideAll s3.heap [e0]):=fun a o q=>by
   by_cases z:a=d
   ·subst z;rw[upd_same] at q;cases q
    obtain⟨o,es',ep',q',_⟩:=id n7
    exact⟨⟨u,a6,n7⟩,⟨o,q'⟩,fun g1 g2 ⟨u',c1,c2⟩ k=>⟨u',c1,c2.at k⟩⟩
   ·rw[upd_ne z] at q
    refine (E3.hok a o q).stay (fun c u hc r=>hid c u (fun z=>?_) r) (fun c q=>by rw[upd_ne (neH c _ q)];exact q) fun c xs q=>by rw[upd_ne (neH c _ q)];exact q
    subst z
    rcases hc with rfl|hc
    ·rw[H1e] at q;cases q
    ·rw[H1e] at hc;cases hc
  have I6:L2.Inv X pins σ' (upd H5 d (.ext (FldAt d (fldOf x) (.int kk)))) {s3 with heap:=PySem.W.hideAll s3.heap [e0]}:=I5.call' (s':={s3 with heap:=PySem.W.hideAll s3.heap [e0]}) E3.os un5 hok5 E3.bare (fun b hb=>by cases hb)
  have cl6:¬ NoneFld (upd H5 d (.ext (FldAt d (fldOf x) (.int kk)))) (some d):=by
   rintro (z|⟨d',f,z,q⟩)
   ·cases z
   cases z
   obtain⟨⟨u',r1,r2⟩,_⟩:=hok5 d _ q
   obtain⟨o1,es1,ep1,g1,g2,_,_,g3⟩:=r2
   obtain⟨o2,es2,ep2,k1,k2,_,_,k3⟩:=n7
   rw[g1] at k1;cases k1
   rw[g2] at k2;cases k2
   have this:(if fldOf x=f then some u' else none)=(if fldOf x=fldOf x then some u else none):=(g3 (fldOf x)).symm.trans (k3 (fldOf x))
   rw[if_pos (rfl:fldOf x=fldOf x)] at this
   split at this
   ·have e3:=Option.some.inj this
    have r3:u'=Value.none:=r1
    have r4:RelV (.int kk) Value.none:=by rw[<- r3,e3];exact a6
    obtain⟨_,r4⟩:=r4
    cases r4
   ·cases this
  have nd6:(PySem.W.hideAll s3.heap [e0]).get? e0=none:=PySem.W.hideAll_none _ List.mem_cons_self
  have mk6:Made (PySem.W.hideAll s3.heap [e0]) hF e0 (.ref C2) (some d):=⟨fun b o q=>f6 b o (fun z=>by rw[z,nd6] at q;cases q) (PySem.W.of_hideAll _ q),nd6,obF,vsF,f1,f2,f3.trans a3,f4,f5⟩
  generalize PySem.W.hideAll s3.heap [e0]=hX at I6 mk6
  have hin:∀ env∈X.stack,∀ a,env.frame=some a->a∈frs X.stack:=fun env he b hb=>List.mem_filterMap.mpr ⟨env,he,hb⟩
  have stB:(PySem.W.hideAll hX (frs X.stack)).StaysIn hX:=fun b o q=>PySem.W.of_hideAll _ q
  have fF:=PySem.W.funFrames_hide I6.stack hin
  rw[st.1] at fF
  show wpAny (model X.prog X.w) (X.A.mark (some (.ref e))) (noteFrame (.ref e0) X.env) (fun _ s2=>cameBackBy (model X.prog X.w) X.A X.env X.xe (.ref e0) s2) _ {s3 with heap:=hF}
  refine fly_made2 (A':=X.A.mark (some (.ref e))) (s:={s3 with heap:=hF}) fr st.2 fF (by rw[<- st.1];exact stB) mk6 fun h'' F'' nr=>?_
  rw[<- st.1] at F''
  have old:∀ b o,hX.get? b=some o->(upd H5 d (.ext (FldAt d (fldOf x) (.int kk)))) b=none->b ∉ frs X.stack->(PySem.W.hideAll hX (frs X.stack)).get? b=some o:=fun b o q _ hb=>PySem.W.hideAll_get _ q hb
  have ffs:∀ b∈frs X.stack,∃ o,hX.get? b=some o/\∀ vs,o.data≠.fields vs:=fun b hb=>(I6.stack.mem hb).2
  refine rs.ok.back rfl pins σ' _ {s3 with heap:=hX} _ e0 C2 (some d) {s3 with heap:=h''} δ' M' x (.int kk) (x1.trans x5) I6 ⟨⟨_,rfl,I6.bare,un_near .refl old F''.stays ffs ((Near.kept mk6.keeps).trans nr),old,fun a o q=>?_,F''⟩,fun z=>absurd z cl6⟩ m5 (sl.ext x5) hn hc2 (.fld hi upd_same (.int kk)) hex
  refine (I6.hok a o q).stay (fun c u hc r=>PySem.W.hideAll_get _ r fun z=>?_) (fun _ q=>q) fun _ _ q=>q
  have:=I6.stkFree c z
  rcases hc with rfl|hc
  ·rw[q] at this;cases this
  ·rw[hc] at this;cases this
 ·have q':SP X pins Z fl s':=by
   cases fl with
   | next=>obtain⟨σ',H',I',z⟩:=q;exact⟨σ',H',inv_untri ok I',z⟩
   | brk=>obtain⟨σ',H',I',z⟩:=q;exact⟨σ',H',inv_untri ok I',z⟩
   | cont=>obtain⟨σ',H',I',z⟩:=q;exact⟨σ',H',inv_untri ok I',z⟩
   | ret u=>obtain⟨v,σ',H',I',rr,z⟩:=q;exact⟨v,σ',H',inv_untri ok I',rr,z⟩
  cases fl with
  | next =>
   obtain⟨σ',H',I',z⟩:=q'
   exact pss_nil pins s' σ' H' Z I' z
  | brk=>exact q'
  | cont=>exact q'
  | ret u=>exact q'
end
end DL
end
noncomputable section
namespace DL
open PySem PySem.Spec PyProof.Rows L2
set_option tactic.hygienic false
mutual
inductive CS where
 | expr (e:CE)|ret (e:CE)
 | ife (c:CE) (a b:CSs)
 | set (i:Nat) (e:CE)
 | asg (g:CG) (e:CE)
 | par (i j:Nat) (a b:CE)
 | whl (c:CE) (b:CSs)
 | fr (g:CG) (it:CI) (b:CSs)
 | rsi (x:Str) (es:CEs)
 | tri (b:CSs) (c:Str) (ie ix:Nat)
 | trr (b:CSs) (c x:Str) (i:Nat)
inductive CSs where
 | nil|cons (s:CS) (r:CSs)
end
mutual
noncomputable def rS:CS->DS
 | .expr e=>dDrop (fun Xe=>(rE Xe e).e)
 | .ret e=>dRet (fun Xe=>(rE Xe e).e)
 | .ife c a b=>dIfS (fun Xe=>(rE Xe c).t) (rSs a) (rSs b)
 | .set i e=>dAsg (fun Xe=>(rE Xe e).e) (fun _=>gdName i)
 | .asg g e=>dAsg (fun Xe=>(rE Xe e).e) (fun Xe=>rG Xe g)
 | .par i j a b=>dPar i j (fun Xe=>dCons (rE Xe a).e (dCons (rE Xe b).e dNil))
 | .whl c b=>dWhile (fun Xe=>(rE Xe c).t) (rSs b)
 | .fr g it b=>dFor (fun Xe=>rI Xe it) (fun Xe=>rG Xe g) (rSs b)
 | .rsi x es=>dRaiseI x (fun Xe=>rEs Xe es)
 | .tri b c ie ix=>dTry (rSs b) c ie ix
 | .trr b c x i=>dTrr (rSs b) c x i
noncomputable def rSs:CSs->DS
 | .nil=>dNext
 | .cons s r=>dSeq (rS s) (rSs r)
end
noncomputable def isComp:Expr->Bool
 | .ListComp ..=>true
 | .SetComp ..=>true
 | .DictComp ..=>true
 | _=>false
theorem swaps_cell {x:Str} {env:Env} (h:env.kindOf x=some .cell) (y:Expr) (px:Pos) (n:Nat):swapsWith y (some (.Name x px)) n env=pure false:=by
 unfold swapsWith
 split
 ·simp only[h]
  rw[show ((some NameKind.cell==some NameKind.local)=false) from rfl]
  simp
 ·rfl
noncomputable def swapB (k:Ck) (x:Str) (px:Pos) (e:CE) (y:Expr):Bool :=
 match e,y with
 | .comp ..,.ListComp _ _ sc p=>decide (k.sc.kind=.function)&&decide (k.kind x=some .local)&&decide (px.line=p.line)&&!(sc.names.any fun y=>y.1==x&&(y.2==.local || y.2==.cell))
 | _,_=>false
noncomputable def noSwap:Expr->Expr->Bool
 | .Tuple (.Subscript ..::_) _ _,.Tuple ..=>true
 | .Tuple ..,.Tuple vs _ _=>vs.all (foldedForSure 8)
 | .List ..,_=>false
 | _,_=>true
noncomputable def cellT (k:Ck) (tg y:Expr):Bool :=
 match tg,y with
 | .Tuple [.Name x _,.Name z _] _ _,.Tuple _ _ _=>decide (k.kind x=some .cell) || decide (k.kind z=some .cell)
 | _,_=>false
noncomputable def notStar:Expr->Bool
 | .Starred ..=>false
 | _=>true
mutual
noncomputable def isS (k:Ck) (rz:Bool):CS->Stmt->Bool
 | .expr e,s=>match s with | .Expr x _=>isE k e x&&!isComp x|_=>false
 | .ret e,s=>match s with | .Return (some x) _=>isE k e x|_=>false
 | .ife c a b,s=>match s with | .If x xs ys _=>isE k c x&&isSs k rz a xs&&isSs k rz b ys|_=>false
 | .set i e,s=>match s with | .Assign [.Name x px] y _=>decide (k.N[i]?=some x)&&k.loc x&&isE k e y&&((!isComp y || decide (k.kind x=some .cell)) || swapB k x px e y)|_=>false
 | .asg g e,s=>match s with | .Assign [tg] y _=>isG k g tg&&isE k e y&&!isComp y&&(noSwap tg y || cellT k tg y)|_=>false
 | .par i j a b,s=>match s with
  | .Assign [.Tuple [.Name x px,.Name y py] _ _] (.Tuple [u,v] _ _) _=>decide (k.N[i]?=some x)&&decide (k.N[j]?=some y)&&!decide (i=j)&&decide (k.kind x=some .local)&&decide (k.kind y=some .local)
   && isE k a u&&isE k b v&&decide (px.line=py.line)&&!([u,v].all (foldedForSure 8))&&!([u,v].all (constantsAlone 8))&&notStar u&&notStar v&&decide (k.sc.kind=.function)&&k.cal
  | _=>false
 | .whl c b,s=>match s with | .While x xs [] _=>isE k c x&&isSs k rz b xs|_=>false
 | .fr g it b,s=>match s with | .For tg iter xs [] _=>isG k g tg&&isI k tg it iter&&isSs k rz b xs&&k.cal|_=>false
 | .rsi x es,s=>match s with | .Raise (some (.Call (.Name y _) (a::r) [] _)) none _=>rz&&decide (x=y)&&xInit.contains x&&k.gl x&&okName x&&isEs k es (a::r)&&k.cal|_=>false
 | .tri b c ie ix,s=>match s with
  | .Try body [.ExceptHandler (some (.Name cx _)) (some ne) [.Assign [.Name x _] (.Name ne' _) _] _] [] [] _=>k.top&&decide (c=cx)&&xNames.contains c&&k.gl c&&okName c&&decide (k.N[ie]?=some ne)&&decide (k.N[ix]?=some x)&&!decide (ie=ix)&&decide (k.kind ne=some .local)&&decide (ne=ne')&&k.loc x&&okName ne&&isSs k false b body
  | _=>false
 | .trr b c x i,s=>match s with
  | .Try body [.ExceptHandler (some (.Name cx _)) none [.Raise (some (.Call (.Name y _) [.Name xn _] [] _)) (some (.Constant .none _ _)) _] _] [] [] _=>k.top&&rz&&k.cal&&decide (c=cx)&&xNames.contains c&&k.gl c&&okName c&&decide (x=y)&&xInit.contains x&&k.gl x&&okName x&&k.slot i xn&&isSs k false b body
  | _=>false
noncomputable def isSs (k:Ck) (rz:Bool):CSs->List Stmt->Bool
 | .nil,xs=>match xs with | []=>true|_=>false
 | .cons s r,xs=>match xs with|x::ys=>isS k rz s x&&isSs k rz r ys|_=>false
end
mutual
noncomputable def onS (P:Str->Str->DSp->Prop) (G:Str->D->Prop):CS->Prop
 | .expr e | .ret e | .set _ e=>onE P G e
 | .ife c a b=>onE P G c/\onSs P G a/\onSs P G b
 | .asg g e=>onG P G g/\onE P G e
 | .par _ _ a b=>onE P G a/\onE P G b
 | .whl c b=>onE P G c/\onSs P G b
 | .fr g it b=>onG P G g/\onI P G it/\onSs P G b
 | .rsi x es=>G x (.cls x)/\onEs P G es
 | .tri b c _ _=>G c (.cls c)/\onSs P G b
 | .trr b c x _=>G c (.cls c)/\G x (.cls x)/\onSs P G b
noncomputable def onSs (P:Str->Str->DSp->Prop) (G:Str->D->Prop):CSs->Prop
 | .nil=>True
 | .cons s r=>onS P G s/\onSs P G r
end
mutual
theorem onS_mono {P P':Str->Str->DSp->Prop} {G G':Str->D->Prop}:∀ (c:CS),(∀ c x S,P c x S->P' c x S)->(∀ x d,G x d->G' x d)->onS P G c->onS P' G' c
 | .expr e,p,g,h | .ret e,p,g,h | .set _ e,p,g,h=>onE_mono e p g h
 | .ife c a b,p,g,h=>⟨onE_mono c p g h.1,onSs_mono a p g h.2.1,onSs_mono b p g h.2.2⟩
 | .asg t e,p,g,h=>⟨onG_mono t p g h.1,onE_mono e p g h.2⟩
 | .par _ _ a b,p,g,h=>⟨onE_mono a p g h.1,onE_mono b p g h.2⟩
 | .whl c b,p,g,h=>⟨onE_mono c p g h.1,onSs_mono b p g h.2⟩
 | .fr t it b,p,g,h=>⟨onG_mono t p g h.1,onI_mono it p g h.2.1,onSs_mono b p g h.2.2⟩
 | .rsi x es,p,g,h=>⟨g _ _ h.1,onEs_mono es p g h.2⟩
 | .tri b c _ _,p,g,h=>⟨g _ _ h.1,onSs_mono b p g h.2⟩
 | .trr b c x _,p,g,h=>⟨g _ _ h.1,g _ _ h.2.1,onSs_mono b p g h.2.2⟩
theorem onSs_mono {P P':Str->Str->DSp->Prop} {G G':Str->D->Prop}:∀ (c:CSs),(∀ c x S,P c x S->P' c x S)->(∀ x d,G x d->G' x d)->onSs P G c->onSs P' G' c
 | .nil,_,_,_=>True.intro
 | .cons e es,p,g,h=>⟨onS_mono e p g h.1,onSs_mono es p g h.2⟩
end
theorem swaps_no {e:Expr} (h:isComp e=false) (t:Option Expr) (l:Nat) (env:Env):swapsWith e t l env=pure false:=by
 cases e<;>first|rfl|(simp[isComp] at h)
theorem swaps_yes {x:Str} {px p:Pos} {elt:Expr} {gs:List Comprehension} {sc:Scope} {l:Nat} {env:Env} (hx:env.kindOf x=some .local) (hl:px.line=p.line) (hn:(sc.names.any fun y=>y.1==x&&(y.2==.local || y.2==.cell))=false) (hb:env.blockKind=.function) :
  swapsWith (.ListComp elt gs sc p) (some (.Name x px)) l env=pure true:=by
 show (pure (env.blockKind==.function&&env.kindOf x==some .local&&px.line==p.line&&!(sc.names.any fun y=>y.1==x&&(y.2==.local || y.2==.cell))):Sem Bool)=pure true
 rw[hb,hx,hl,hn]
 simp
theorem swapped_con {ts vs:List Expr} {k k2:Nat} {p p2:Pos} (h:vs.all (foldedForSure 8)=true) (env:Env):swappedStores [.Tuple ts k p] (.Tuple vs k2 p2) env=pure none:=by
 unfold swappedStores
 simp only[h,if_true]
 repeat' split
 all_goals rfl
theorem swapped_sub {a b:Expr} {p q p2:Pos} {ts vs:List Expr} {k k2:Nat} (env:Env):swappedStores [.Tuple (.Subscript a b p::ts) k q] (.Tuple vs k2 p2) env=pure none:=by
 unfold swappedStores
 have hl:∀ f:Expr->Option Str,f (.Subscript a b p)=none->((Expr.Subscript a b p::ts).filterMap f).length≠(Expr.Subscript a b p::ts).length:=fun f hf=>by
  rw[List.filterMap_cons_none hf]
  have:=List.length_filterMap_le f ts
  simp only[List.length_cons];omega
 dsimp only
 split
 ·rfl
 ·split
  ·rfl
  ·rw[if_pos]
   ·have:=hl (fun | .Name id pos=>if env.kindOf id==some .local&&pos.line==(((Expr.Subscript a b p::ts).head?.map (·.pos.line)).getD 0) then some id else none|_=>none) rfl
    simp only[Bool.or_eq_true,bne_iff_ne]
    exact .inl this
theorem swapped_no {tg e:Expr} (h:noSwap tg e=true) (env:Env):swappedStores [tg] e env=pure none:=by
 cases tg with
 | Tuple ts k p =>
  cases e with
  | Tuple vs k2 p2 =>
   cases ts with
   | nil=>exact swapped_con h env
   | cons t ts =>
    cases t with
    | Subscript a b q=>exact swapped_sub env
    | _=>exact swapped_con h env
  | _=>rfl
 | List ts p=>exact nfx h
 | _=>rfl
theorem swapped_yes {x y:Str} {px py pt pt2:Pos} {kt k2:Nat} {u v:Expr} {env:Env} (hx:env.kindOf x=some .local) (hy:env.kindOf y=some .local) (hne:x≠y) (hl:px.line=py.line) (hb:env.blockKind=.function)
  (h1:[u,v].all (foldedForSure 8)=false) (h2:[u,v].all (constantsAlone 8)=false) (hu:notStar u=true) (hv:notStar v=true) :
  swappedStores [.Tuple [.Name x px,.Name y py] kt pt] (.Tuple [u,v] k2 pt2) env=pure (some [x,y]):=by
 unfold swappedStores
 have hs:∀ {z:Expr},notStar z=true->(match z with | .Starred ..=>true|_=>false)=false:=fun {z} hz=>by
  cases z<;>first|rfl|exact absurd hz (by simp[notStar])
 have hd:[x,y].eraseDups.length=2:=by
  have:(y==x)=false:=by simpa using Ne.symm hne
  simp[List.eraseDups_cons,this]
 have hany:([u,v].any fun | .Starred ..=>true|_=>false)=false:=by
  simp only[List.any_cons,List.any_nil,Bool.or_false]
  rw[hs hu,hs hv];rfl
 have ha:∀ (f:Expr->Bool),[u,v].all f=(f u&&f v):=fun f=>by simp
 rw[ha] at h1 h2
 have hu':=hs hu
 have hv':=hs hv
 simp[hb,hx,hy,Expr.pos,hl,hd,ha,h1,h2]
 intro z
 rcases z with z|z
 ·exact absurd (hu'.symm.trans z) (by decide)
 ·exact absurd (hv'.symm.trans z) (by decide)
theorem never_passes {X:Cx} {k:Ck} (C:CtxOk X k):PassesOwn (model X.prog X.w) X.A X.env X.xe:=C.po
theorem CtxOk.tri {X:Cx} {k:Ck} (C:CtxOk X k) {xe:Value->Shared->Prop} (pins:List (Addr×Obj)) (po:PassesOwn (model X.prog X.w) X.A X.env xe):CtxOk (X.tri xe pins) k :=
 ⟨C.N,C.nd,C.sc,C.fr,C.fn,C.calm,C.room,C.hu,C.blt,po,C.tab,C.st⟩
theorem glo_cls {X:Cx} {n:Str} (G:GloAt X n (.cls n)):∃ C,X.mg n=some (.ref C)/\ClsOf X.K n C:=by
 obtain⟨u,v,e1,e2,e3⟩:=G.ex
 have:=e3 fun _=>none
 cases this with
 | @cls C _ hn hc=>cases e2;exact⟨C,e1,hc⟩
theorem CtxOk.bk {X:Cx} {k:Ck} (hk:X.env.scope.kind=.function):X.env.blockKind=.function:=by unfold Env.blockKind;rw[hk];rfl
set_option tactic.hygienic true
theorem swapped_cell {X:Cx} {k:Ck} (C:CtxOk X k) {tg y:Expr} (h:cellT k tg y=true):swappedStores [tg] y X.env=pure none:=by
 unfold cellT at h
 split at h
 ·rename_i x px z pz kt pt vs k2 p2
  have e:X.env.kindOf x=some .cell\/X.env.kindOf z=some .cell:=by
   rw[Bool.or_eq_true] at h
   rcases h with h|h
   ·exact .inl (C.sc _ _ (of_decide_eq_true h) (by decide))
   ·exact .inr (C.sc _ _ (of_decide_eq_true h) (by decide))
  unfold swappedStores
  simp only[]
  split
  ·rfl
  ·split
   ·rfl
   ·rw[if_pos]
    rcases e with e|e
    ·simp[List.filterMap,e]
     split<;>simp
    ·simp[List.filterMap,e]
     split<;>simp
 ·cases h
set_option tactic.hygienic false
theorem not1 {a:Bool} (h:(!a)=true):a=false:=by
 cases a with
 | true=>exact nfx h
 | false=>rfl
theorem or2 {a b:Bool} (h:(a || b)=true):a=true\/b=true:=by
 cases a with
 | true=>exact .inl rfl
 | false=>exact .inr h
theorem okName2 {x:Str} (h:okName x=true):(x==("__classdict__":Str))=false:=not1 (and2 h).2
set_option tactic.hygienic true
mutual
theorem sS:∀ (c:CS) (rz:Bool) (k:Ck) (X:Cx) (s:Stmt),CtxOk X k->X.env.scope.kind=.function->onS (FnAt X) (GloAt X) c->isS k rz c s=true->PS X s (liftS X rz (rS c))
 | .expr e,rz,k,X,s,C,bk,on,h=>by
  cases s with
  | Expr x p =>
   obtain⟨h1,h2⟩:=and2 (show (isE k e x&&!isComp x)=true from h)
   exact ds_expr (fun Xe=>(sE e rz Xe k X _ C on h1).pe) (swaps_no (not1 h2) _ _ _)
  | _=>exact nfx h
 | .ret e,rz,k,X,s,C,bk,on,h=>by
  cases s with
  | Return v p =>
   cases v with
   | none=>exact nfx h
   | some v=>exact ds_ret (fun Xe=>(sE e rz Xe k X v C on h).pe)
  | _=>exact nfx h
 | .ife c a b,rz,k,X,s,C,bk,on,h=>by
  cases s with
  | If x xs ys p =>
   obtain⟨h1,h3⟩:=and2 (show (_&&isSs k rz b ys)=true from h)
   obtain⟨h1,h2⟩:=and2 (show (isE k c x&&isSs k rz a xs)=true from h1)
   exact ds_if (fun Xe=>(sE c rz Xe k X _ C on.1 h1).pt) (sSs a rz k X _ C bk on.2.1 h2) (sSs b rz k X _ C bk on.2.2 h3)
  | _=>exact nfx h
 | .set i e,rz,k,X,s,C,bk,on,h=>by
  cases s with
  | Assign ts y p =>
   cases ts with
   | nil=>exact nfx h
   | cons tg ts =>
    cases ts with
    | cons _ _=>cases tg<;>exact nfx h
    | nil =>
     cases tg with
     | Name x px =>
      obtain⟨h1,h4⟩:=and2 (show (_&&((!isComp y || decide (k.kind x=some .cell)) || swapB k x px e y))=true from h)
      obtain⟨h1,h3⟩:=and2 (show (_&&isE k e y)=true from h1)
      obtain⟨h1,h2⟩:=and2 (show (decide (k.N[i]?=some x)&&k.loc x)=true from h1)
      have hi:=of_decide_eq_true h1
      clear h1
      rcases or2 h4 with h4|h4
      ·rcases or2 h4 with h4|h4
       ·exact ds_set (by rw[C.N];exact C.nd) (by rw[C.N];exact hi) (C.loc h2).1 (fun Xe=>(sE e rz Xe k X _ C on h3).pe) (swaps_no (not1 h4) _ _ _) (C.loc h2).2
       ·exact ds_set (by rw[C.N];exact C.nd) (by rw[C.N];exact hi) (C.loc h2).1 (fun Xe=>(sE e rz Xe k X _ C on h3).pe) (swaps_cell (C.sc _ _ (of_decide_eq_true h4) (by decide)) _ _ _) (C.loc h2).2
      ·cases e with
       | comp N' n g it elt =>
        cases y with
        | ListComp y gs sc p =>
         obtain⟨h4,h7⟩:=and2 (show (_&&!(sc.names.any fun y=>y.1==x&&(y.2==.local || y.2==.cell)))=true from h4)
         obtain⟨h4,h6⟩:=and2 (show (_&&decide (px.line=p.line))=true from h4)
         obtain⟨h4,h5⟩:=and2 (show (decide (k.sc.kind=.function)&&decide (k.kind x=some .local))=true from h4)
         cases gs with
         | nil=>exact absurd h3 Bool.false_ne_true
         | cons q gs =>
          cases q with
          | mk tg iter ifs z =>
           cases ifs with
           | cons _ _=>exact absurd h3 Bool.false_ne_true
           | nil =>
            cases gs with
            | cons _ _=>exact absurd h3 Bool.false_ne_true
            | nil =>
             obtain⟨h3,hcal⟩:=and2 (show (_&&k.cal)=true from h3)
             obtain⟨h3,g5⟩:=and2 (show (_&&isE ⟨N',sc,false,k.cal⟩ elt y)=true from h3)
             obtain⟨h3,g4⟩:=and2 (show (_&&isI k tg it iter)=true from h3)
             obtain⟨h3,g3⟩:=and2 (show (_&&isG ⟨N',sc,false,k.cal⟩ g tg)=true from h3)
             obtain⟨h3,g2⟩:=and2 (show (_&&decide (n=N'.length-k.N.length))=true from h3)
             obtain⟨h3,g1⟩:=and2 (show (decide (z=0)&&blkB k N' sc)=true from h3)
             obtain rfl:=of_decide_eq_true h3
             obtain rfl:=of_decide_eq_true g2
             have si:=fun Xe=>sI it rz Xe k X tg _ C on.2.1 g4
             rw[<- C.N]
             exact ds_setc (C.calm hcal) (blkB_ok C g1).1 (fun Xe=>(si Xe).pi) (fun cl Cn s H ex=>⟨(sG g false X0 ⟨N',_,false,k.cal⟩ (blkCx X N' _ cl Cn s H ex []) _ (C.blk g1 cl Cn s H ex) (onG_mono g (fun c x S F=>⟨F.ex⟩) (fun x d F=>⟨F.ex⟩) on.1) g3).pg,
              (sE elt false X0 ⟨N',_,false,k.cal⟩ (blkCx X N' _ cl Cn s H ex []) _ (C.blk g1 cl Cn s H ex) (onE_mono elt (fun c x S F=>⟨F.ex⟩) (fun x d F=>⟨F.ex⟩) on.2.2) g5).pe⟩) ((si X0).set _)
              (swaps_yes (C.sc _ _ (of_decide_eq_true h5) (by decide)) (of_decide_eq_true h6) (not1 h7) (CtxOk.bk (k:=k) bk)) (by rw[C.N];exact C.nd) (by rw[C.N];exact hi) (C.loc h2).1 (C.loc h2).2
        | _=>exact absurd h4 Bool.false_ne_true
       | _=>exact absurd h4 Bool.false_ne_true
     | _=>exact nfx h
  | _=>exact nfx h
 | .asg g e,rz,k,X,s,C,bk,on,h=>by
  cases s with
  | Assign ts y p =>
   cases ts with
   | nil=>exact nfx h
   | cons tg ts =>
    cases ts with
    | cons _ _=>exact nfx h
    | nil =>
     obtain⟨h1,h4⟩:=and2 (show (_&&(noSwap tg y || cellT k tg y))=true from h)
     obtain⟨h1,h3⟩:=and2 (show (_&&!isComp y)=true from h1)
     obtain⟨h1,h2⟩:=and2 (show (isG k g tg&&isE k e y)=true from h1)
     have s1:=fun Xe=>sG g rz Xe k X _ C on.1 h1
     have h5:swappedStores [tg] y X.env=pure none:=(or2 h4).elim (fun h4=>swapped_no h4 _) (fun h4=>swapped_cell C h4)
     exact ds_asg (fun Xe=>(sE e rz Xe k X _ C on.2 h2).pe) (fun Xe=>(s1 Xe).pg) (swaps_no (not1 h3) _ _ _) h5 (by rw[(s1 X0).as];rfl)
  | _=>exact nfx h
 | .par i j a b,rz,k,X,s,C,bk,on,h=>by
  cases s with
  | Assign ts v p =>
   cases ts with
   | nil=>exact nfx h
   | cons tg ts =>
    cases tg with
    | Tuple xs q1 p1 =>
     cases xs with
     | nil=>exact nfx h
     | cons x xs =>
      cases x with
      | Name x px =>
       cases xs with
       | nil=>exact nfx h
       | cons y xs =>
        cases y with
        | Name y py =>
         cases xs with
         | cons _ _=>exact nfx h
         | nil =>
          cases ts with
          | cons _ _=>exact nfx h
          | nil =>
           cases v with
           | Tuple us q2 p2 =>
            cases us with
            | nil=>exact nfx h
            | cons u us =>
             cases us with
             | nil=>exact nfx h
             | cons v us =>
              cases us with
              | cons _ _=>exact nfx h
              | nil =>
               obtain⟨h,hcal⟩:=and2 (show (_&&k.cal)=true from h)
               obtain⟨h,h13⟩:=and2 (show (_&&decide (k.sc.kind=.function))=true from h)
               obtain⟨h,h12⟩:=and2 (show (_&&notStar v)=true from h)
               obtain⟨h,h11⟩:=and2 (show (_&&notStar u)=true from h)
               obtain⟨h,h10⟩:=and2 (show (_&&!([u,v].all (constantsAlone 8)))=true from h)
               obtain⟨h,h9⟩:=and2 (show (_&&!([u,v].all (foldedForSure 8)))=true from h)
               obtain⟨h,h8⟩:=and2 (show (_&&decide (px.line=py.line))=true from h)
               obtain⟨h,h7⟩:=and2 (show (_&&isE k b v)=true from h)
               obtain⟨h,h6⟩:=and2 (show (_&&isE k a u)=true from h)
               obtain⟨h,h5⟩:=and2 (show (_&&decide (k.kind y=some .local))=true from h)
               obtain⟨h,h4⟩:=and2 (show (_&&decide (k.kind x=some .local))=true from h)
               obtain⟨h,h3⟩:=and2 (show (_&&!decide (i=j))=true from h)
               obtain⟨h,h2⟩:=and2 (show (decide (k.N[i]?=some x)&&decide (k.N[j]?=some y))=true from h)
               have h1:=of_decide_eq_true h
               have h2:=of_decide_eq_true h2
               have h3:¬ i=j:=of_decide_eq_false (not1 h3)
               have s1:=fun Xe=>sE a rz Xe k X _ C on.1 h6
               have s2:=fun Xe=>sE b rz Xe k X _ C on.2 h7
               have kx:=C.sc _ _ (of_decide_eq_true h4) (by decide)
               have ky:=C.sc _ _ (of_decide_eq_true h5) (by decide)
               exact ds_par (C.calm hcal) (by rw[C.N];exact C.nd) (by rw[C.N];exact h1) (by rw[C.N];exact h2) h3 kx ky (fun Xe=>da_cons (s1 Xe).pe (da_cons (s2 Xe).pe da_nil ((s2 Xe).sh.star _ _)) ((s1 Xe).sh.star _ _))
                (swapped_yes kx ky (fun z=>h3 (nodup_ix C.nd h1 (z ▸ h2))) (of_decide_eq_true h8) (CtxOk.bk (k:=k) bk) (not1 h9) (not1 h10) h11 h12) rfl
           | _=>exact nfx h
        | _=>exact nfx h
      | _=>exact nfx h
    | _=>exact nfx h
  | _=>exact nfx h
 | .whl c b,rz,k,X,s,C,bk,on,h=>by
  cases s with
  | While x xs ys p =>
   cases ys with
   | cons _ _=>exact nfx h
   | nil =>
    obtain⟨h1,h2⟩:=and2 (show (isE k c x&&isSs k rz b xs)=true from h)
    exact ds_while (never_passes C) (fun Xe=>(sE c rz Xe k X _ C on.1 h1).pt) (sSs b rz k X _ C bk on.2 h2)
  | _=>exact nfx h
 | .fr g it b,rz,k,X,s,C,bk,on,h=>by
  cases s with
  | For tg iter xs ys p =>
   cases ys with
   | cons _ _=>exact nfx h
   | nil =>
    obtain⟨h,hcal⟩:=and2 (show (_&&k.cal)=true from h)
    obtain⟨h1,h3⟩:=and2 (show (_&&isSs k rz b xs)=true from h)
    obtain⟨h1,h2⟩:=and2 (show (isG k g tg&&isI k tg it iter)=true from h1)
    have si:=fun Xe=>sI it rz Xe k X tg _ C on.2.1 h2
    exact ds_for (never_passes C) (C.calm hcal) (fun Xe=>(si Xe).pi) (fun Xe=>(sG g rz Xe k X _ C on.1 h1).pg) (sSs b rz k X _ C bk on.2.2 h3) ((si X0).set _)
  | _=>exact nfx h
 | .rsi x es,rz,k,X,s,C,bk,on,h=>by
  cases s with
  | Raise v w p =>
   cases v with
   | none=>exact nfx h
   | some v =>
    cases v with
    | Call f xs kw q =>
     cases f with
     | Name y q' =>
      cases xs with
      | nil=>exact nfx h
      | cons a r =>
       cases kw with
       | cons _ _=>exact nfx h
       | nil =>
        cases w with
        | some _=>exact nfx h
        | none =>
         obtain⟨h,hcal⟩:=and2 (show (_&&k.cal)=true from h)
         obtain⟨h,h6⟩:=and2 (show (_&&isEs k es (a::r))=true from h)
         obtain⟨h,h5⟩:=and2 (show (_&&okName x)=true from h)
         obtain⟨h,h4⟩:=and2 (show (_&&k.gl x)=true from h)
         obtain⟨h,h3⟩:=and2 (show (_&&xInit.contains x)=true from h)
         obtain⟨hz,h2⟩:=and2 (show (rz&&decide (x=y))=true from h)
         obtain rfl:=of_decide_eq_true h2
         subst hz
         obtain⟨Cc,hm,hc⟩:=glo_cls on.1
         have s:=fun Xe=>sEs es true Xe k X _ C on.2 h6
         exact ds_raiseI (C.room hcal) C.tab h3 hc hm (C.gl h4) (okName1 h5) (fun Xe=>(s Xe).pa) (((s X0).hd _ _ rfl).1.star _ _) (((s X0).hd _ _ rfl).2 _ _)
     | _=>exact nfx h
    | _=>exact nfx h
  | _=>exact nfx h
 | .tri b c ie ix,rz,k,X,s,C,bk,on,h=>by
  cases s with
  | Try body hs os fs p =>
   cases hs with
   | nil=>exact nfx h
   | cons H hs =>
    cases H with
    | ExceptHandler ty nm hb hp =>
     cases ty with
     | none=>exact nfx h
     | some ty =>
      cases ty with
      | Name cx _ =>
       cases nm with
       | none=>exact nfx h
       | some ne =>
        cases hb with
        | nil=>exact nfx h
        | cons st hb =>
         cases st with
         | Assign ts v _ =>
          cases ts with
          | nil=>exact nfx h
          | cons tg ts =>
           cases tg with
           | Name x _ =>
            cases ts with
            | cons _ _=>exact nfx h
            | nil =>
             cases v with
             | Name ne' _ =>
              cases hb with
              | cons _ _=>exact nfx h
              | nil =>
               cases hs with
               | cons _ _=>exact nfx h
               | nil =>
                cases os with
                | cons _ _=>exact nfx h
                | nil =>
                 cases fs with
                 | cons _ _=>exact nfx h
                 | nil =>
                  obtain⟨h,h13⟩:=and2 (show (_&&isSs k false b body)=true from h)
                  obtain⟨h,h12⟩:=and2 (show (_&&okName ne)=true from h)
                  obtain⟨h,h11⟩:=and2 (show (_&&k.loc x)=true from h)
                  obtain⟨h,h10⟩:=and2 (show (_&&decide (ne=ne'))=true from h)
                  obtain⟨h,h9⟩:=and2 (show (_&&decide (k.kind ne=some .local))=true from h)
                  obtain⟨h,h8⟩:=and2 (show (_&&!decide (ie=ix))=true from h)
                  obtain⟨h,h7⟩:=and2 (show (_&&decide (k.N[ix]?=some x))=true from h)
                  obtain⟨h,h6⟩:=and2 (show (_&&decide (k.N[ie]?=some ne))=true from h)
                  obtain⟨h,h5⟩:=and2 (show (_&&okName c)=true from h)
                  obtain⟨h,h4⟩:=and2 (show (_&&k.gl c)=true from h)
                  obtain⟨h,h3⟩:=and2 (show (_&&xNames.contains c)=true from h)
                  obtain⟨h1,h2⟩:=and2 (show (k.top&&decide (c=cx))=true from h)
                  obtain rfl:=of_decide_eq_true h2
                  obtain rfl:=of_decide_eq_true h10
                  have h6:=of_decide_eq_true h6
                  have h7:=of_decide_eq_true h7
                  obtain⟨Cc,hm,hc⟩:=glo_cls on.1
                  exact ds_try (C.st h1) C.tab (by simpa using h3) hc hm (C.gl h4) (okName1 h5) (by rw[C.N];exact C.nd) (by rw[C.N];exact h6) (by rw[C.N];exact h7) (of_decide_eq_false (not1 h8)) (C.sc _ _ (of_decide_eq_true h9) (by decide)) (C.loc h11).1 (C.loc h11).2 (okName1 h12) (okName2 h12)
                   fun xe pins po=>sSs b false k (X.tri xe pins) _ (C.tri pins po) bk (onSs_mono b (fun c x S F=>⟨F.ex⟩) (fun x d F=>⟨F.ex⟩) on.2) h13
             | _=>exact nfx h
           | _=>exact nfx h
         | _=>exact nfx h
      | _=>exact nfx h
  | _=>exact nfx h
 | .trr b c x i,rz,k,X,s,C,bk,on,h=>by
  unfold isS at h
  split at h
  ·rename_i body cx np y np2 xn ap cpos ck cp rpos hp p
   obtain⟨h,hD⟩:=and2 h
   obtain⟨h,hC⟩:=and2 h
   obtain⟨h,hB⟩:=and2 h
   obtain⟨h,hA⟩:=and2 h
   obtain⟨h,h9⟩:=and2 h
   obtain⟨h,h8⟩:=and2 h
   obtain⟨h,h7⟩:=and2 h
   obtain⟨h,h6⟩:=and2 h
   obtain⟨h,h5⟩:=and2 h
   obtain⟨h,h4⟩:=and2 h
   obtain⟨h,h3⟩:=and2 h
   obtain⟨h1,h2⟩:=and2 h
   obtain rfl:=of_decide_eq_true h4
   obtain rfl:=of_decide_eq_true h8
   subst h2
   obtain⟨Cc,hm,hc⟩:=glo_cls on.1
   obtain⟨Cc2,hm2,hc2⟩:=glo_cls on.2.1
   unfold Ck.slot at hC
   obtain⟨hC,hC3⟩:=and2 hC
   obtain⟨hC1,hC2⟩:=and2 hC
   have hok:=hC3
   unfold okName at hok
   simp only[Bool.and_eq_true,Bool.not_eq_true'] at hok
   exact ds_trr (C.room h3) (C.st h1) C.tab (by simpa using h5) hc hm (C.gl h6) (okName1 h7) h9 hc2 hm2 (C.gl hA) (okName1 hB) (by rw[C.N];exact of_decide_eq_true hC1) (C.vis hC2) hok.1 hok.2
    (fun xe pins po=>sSs b false k (X.tri xe pins) _ (C.tri pins po) bk (onSs_mono b (fun c x S F=>⟨F.ex⟩) (fun x d F=>⟨F.ex⟩) on.2.2) hD)
  ·exact nfx h
theorem sSs:∀ (c:CSs) (rz:Bool) (k:Ck) (X:Cx) (s:List Stmt),CtxOk X k->X.env.scope.kind=.function->onSs (FnAt X) (GloAt X) c->isSs k rz c s=true->PSs X s (liftS X rz (rSs c))
 | .nil,rz,k,X,s,C,bk,on,h=>by
  cases s with
  | nil=>exact dss_nil
  | cons _ _=>exact nfx h
 | .cons c r,rz,k,X,s,C,bk,on,h=>by
  cases s with
  | nil=>exact nfx h
  | cons x xs =>
   obtain⟨h1,h2⟩:=and2 (show (isS k rz c x&&isSs k rz r xs)=true from h)
   exact dss_cons (sS c rz k X _ C bk on.1 h1) (sSs r rz k X _ C bk on.2 h2)
end
section
variable (P:Program) (w:World) (K:PySem.W.Frag) (mg:Str->Option Value) (base:Heap)
structure FnE (k:Nat) (c x:Str) (S:DSp):Prop where
 ex:∃ f fd ps,FnOk P w K mg base (CXR P w) (k-ini c x) f fd ps (liftSp K S)/\ini c x<=k/\RefAt K mg c x f/\Binds K fd ps []
structure GloE (x:Str) (d:D):Prop where
 ex:∃ u v,mg x=some u/\RelV v u/\∀ H,RelD K H v d
end
set_option tactic.hygienic false
noncomputable def startD (n:Nat) (ds:List D):DSt:=ds.map some++List.replicate (n-ds.length) none
theorem start_rep {K:PySem.W.Frag} {H:Hp} {N:List Str} {vs:List V} {ds:List D} (r:RelDs K H vs ds):Slots K H (startD N.length ds) (L2.start N vs):=by
 unfold startD L2.start
 rw[<- r.length]
 refine Slots.more ⟨by simp[r.length],fun i d e=>?_⟩ _
 rw[List.getElem?_map] at e
 cases q:ds[i]? with
 | none=>rw [q] at e;cases e
 | some d' =>
  rw[q] at e;cases e
  obtain⟨v,h1,h2⟩:=r.get q
  exact⟨v,by rw[List.getElem?_map,h1];rfl,h2⟩
section
variable {P:Program} {w:World} {K:PySem.W.Frag} {mg:Str->Option Value} {base:Heap}
theorem FnE.mono {j k:Nat} {c x:Str} {S:DSp} (F:FnE P w K mg base j c x S) (h:j<=k):FnE P w K mg base k c x S:=by
 obtain⟨f,fd,ps,a,b,c,d⟩:=F.ex
 exact⟨f,fd,ps,a.mono (Nat.sub_le_sub_right h _),Nat.le_trans b h,c,d⟩
theorem def_fn {x qu:Str} {st:Stmt} {f:Addr} {fd:FuncData} {N ps:List Str} {k:Nat} {S:DSp} (cs:CSs) (F:Fun K x qu st f fd) (hB:Blt mg) (tab:xTabB K=true) (Sc:FnScope N ps (defScope st))
  (ck:isSs ⟨N,defScope st,true,true⟩ true cs (defBody st)=true) (on:onSs (FnE P w K mg base k) (GloE K mg) cs)
  (len:∀ ds M R E,S ds M R E->ds.length=ps.length)
  (vc:∀ ds M R E,S ds M R E->rSs cs {nx:=fun _ M'=>R .non M',rt:=R,ex:=fun _=>E} (startD N.length ds) M):FnOk P w K mg base (CXR P w) (k+1) f fd ps (liftSp K S):=by
 obtain⟨oc,od,kV,doc,pm,an,cdv,ct,osl,rfl,lk,hcd⟩:=F.ex
 refine fn_of lk hcd Sc (fun vs H Q E ⟨ds,M,R,Ed,r,_,h,_⟩=>by rw[r.length];exact len ds M R _ h) fun A outer s H vs Q E hr ⟨ds,M,R,Ed,r,rm,h,q,qe⟩=>?_
 refine⟨liftS (cxOf (CXR P w) P w K mg base N qu (defScope st) f cdv A outer s H E) true (rSs cs),?_,?_⟩
 ·refine sSs cs true ⟨N,defScope st,true,true⟩ _ _ ⟨rfl,Sc.nd,fun x κ e _=>e,fun x e=>.inr e,fun _ _=>rfl,fun _=>rfl,fun _=>hr.mono (Nat.zero_le _),Nat.lt_of_le_of_lt (Nat.le_trans (Nat.add_le_add_left (by decide:66<=200) _) (Nat.add_le_add_right (Nat.le_add_right _ _) _)) hr.un,hB,PassesOwn.leaving,tab,fun _=>⟨rfl,rfl⟩⟩ Sc.kind ?_ ck
  exact onSs_mono cs (fun _ x S ⟨f',fd',ps',a,b,c,d⟩=>⟨k,f',fd',ps',a,b,fun _=>hr,c,d⟩) (fun x d ⟨u,v,a,b,c⟩=>⟨u,v,a,b,c⟩) on
 ·exact⟨startD N.length ds,M,{nx:=fun _ M'=>R .non M',rt:=R,ex:=fun _=>Ed},⟨start_rep r,xe_leave qe⟩,rm,vc ds M R Ed h,fun δ' M' σ' H' x _ m h'=>q _ _ _ _ x m .non h',fun d M' v H' x m rr h'=>q _ _ _ _ x m rr h',fun _ _ _ _ _ _ _ z=>z.elim,fun _ _ _ _ _ _ _ z=>z.elim⟩
theorem def_ok {x:Str} {st:Stmt} {f:Addr} {fd:FuncData} {N ps:List Str} {k:Nat} {S:DSp} (cs:CSs) (F:Fun K x x st f fd) (hm:mg x=some (.ref f)) (hb:Binds K fd ps []) (hB:Blt mg) (tab:xTabB K=true) (Sc:FnScope N ps (defScope st))
  (ck:isSs ⟨N,defScope st,true,true⟩ true cs (defBody st)=true) (on:onSs (FnE P w K mg base k) (GloE K mg) cs)
  (len:∀ ds M R E,S ds M R E->ds.length=ps.length)
  (vc:∀ ds M R E,S ds M R E->rSs cs {nx:=fun _ M'=>R .non M',rt:=R,ex:=fun _=>E} (startD N.length ds) M):FnE P w K mg base (k+1) "" x S :=
 ⟨f,fd,ps,by rw[ini0];exact def_fn cs F hB tab Sc ck on len vc,by rw[ini0];exact Nat.zero_le _,⟨fun _=>⟨hm,F.kp⟩,fun z=>absurd rfl z⟩,hb⟩
theorem usS {n:Nat} {us:List Value} (h:us.length=n+1):∃ a r,us=a::r/\r.length=n:=by
 cases us with
 | nil=>exact absurd h (Nat.succ_ne_zero n).symm
 | cons a r=>exact⟨a,r,rfl,Nat.succ.inj h⟩
theorem us0 {us:List Value} (h:us.length=0):us=[]:=by
 cases us with
 | nil=>rfl
 | cons a r=>exact absurd h (Nat.succ_ne_zero _)
theorem us1 {us:List Value} (h:us.length=1):∃ a,us=[a]:=by
 obtain⟨a,r,rfl,g⟩:=usS h
 obtain rfl:=us0 g
 exact⟨a,rfl⟩
theorem us2 {us:List Value} (h:us.length=2):∃ a b,us=[a,b]:=by
 obtain⟨a,r,rfl,g⟩:=usS h
 obtain⟨b,rfl⟩:=us1 g
 exact⟨a,b,rfl⟩
theorem us3 {us:List Value} (h:us.length=3):∃ a b c,us=[a,b,c]:=by
 obtain⟨a,r,rfl,g⟩:=usS h
 obtain⟨b,c,rfl⟩:=us2 g
 exact⟨a,b,c,rfl⟩
theorem us4 {us:List Value} (h:us.length=4):∃ a b c d,us=[a,b,c,d]:=by
 obtain⟨a,r,rfl,g⟩:=usS h
 obtain⟨b,c,d,rfl⟩:=us3 g
 exact⟨a,b,c,d,rfl⟩
theorem glo_of_fn {n:Str} {C:Addr} {h:Heap} (X:K.In h) (G:h.Ns mainGlobals mg) (e:PySem.W.nsIn K mainGlobals n=some (some (.ref C))):GloE K mg n (.fn n) :=
 ⟨.ref C,.ref C,PySem.W.mg_of X G e,rfl,fun _=>.fn e⟩
theorem glo_of_cls {n:Str} {C:Addr} {h:Heap} (X:K.In h) (G:h.Ns mainGlobals mg) (hn:n∈xNames) (e:PySem.W.nsIn K mainGlobals n=some (some (.ref C))):GloE K mg n (.cls n) :=
 ⟨.ref C,.ref C,PySem.W.mg_of X G e,rfl,fun _=>.cls hn e⟩
end
structure Script (ns:List Int):Prop where
 len:ns.length<=63
 bits:∀ n∈ns,Builtin.Int.intBits n<=1048576
noncomputable def SLaw:DSp:=fun ds M Q _=>∃ ns:List Int,ds=[.fz (ns.map .int)]/\Script ns/\∀ M',Q (.bl true) M'
theorem bits_of_layable:∀ {ns:List Int},PySem.W.WData.weightAll (ns.map PySem.W.WData.int)<=2 ^ 20->∀ n∈ns,Builtin.Int.intBits n<=1048576
 | n::r,h,m,hm=>by
  simp only[List.map_cons,PySem.W.WData.weightAll] at h
  rcases List.mem_cons.mp hm with rfl|hm
  ·have e:Builtin.Int.intBits m=PySem.W.WData.weight (.int m):=by
    unfold Builtin.Int.intBits PySem.W.WData.weight
    rfl
   rw[e];omega
  ·exact bits_of_layable (by omega) m hm
theorem walkD {l:PySem.W.OpenLaw} {q:Program} {loose:List Str} {XP:(Str->Option Value)->Heap->Prop} {YP:World->Heap->Prop} {d:DefRec} {K:Params->PySem.W.Frag} {x:Str} {k:Nat} (hn:l.most=some 63) (hdf:d.params.defaults=[])
  (hr:Room k callerA) (hY:∀ (w:World) (h:Heap),YP w h->(K w.params).In h)
  (F:∀ (w:World) (mg:Str->Option Value) (fa:Addr) (h:Heap),(K w.params).In h->h.Ns mainGlobals mg->mg d.name=some (.ref fa) ->
   ∃ fd:FuncData,(∀ (s:Shared) (u:Value),BindsTo s fd ⟨[u],[]⟩ [(x,u)])/\∀ base:Heap,(K w.params).In base->base.Ns mainGlobals mg->FnOk l.prog w (K w.params) mg base (CXR l.prog w) k fa fd [x] (liftSp (K w.params) SLaw)) :
  PySem.W.WalkO q loose XP YP l.row.toRowW d [] (fun f vs=>PySem.call f vs):=by
 intro w s₀ s₁ mg mb G Y fa o pm cd doc dV kV ho hd hcd hD hmg hg args vals as hpre hlay hrd hwl hlo
 obtain rfl:dV=.none:=PySem.W.Dflts.none hD hdf
 obtain rfl:kV=.none:=PySem.W.Dflts.noKw hD
 obtain⟨a,vs,ns,rfl,rfl,hobj,hints,hlen⟩:=Att.script_of hn hpre hwl
 have KX:=hY w _ Y
 obtain⟨fd,hb,hF⟩:=F w mg fa _ KX G.T.g hmg
 have hbits:∀ n∈ns,Builtin.Int.intBits n<=1048576:=by
  refine bits_of_layable ?_
  simp only[PySem.W.WData.layableAll,List.all_cons,List.all_nil,Bool.and_true,PySem.W.WData.layable,Bool.and_eq_true,decide_eq_true_eq] at hlay
  exact hlay.2
 refine PySem.W.enter_call (codeAny_mono (law_call KX G.T.g G.T.b G.T.builtins G.T.nolimit hg hobj hints (Nat.le_trans hlen (by decide)) hr hF hb (fun H hO hS=>?_) fun H e s' ⟨_,_,_,_,_,_,z⟩=>z) fun r s' hq=>?_)
 ·have hf:SqF (K w.params) H a (ns.map V.int):=by
   rcases hS with (hS|⟨o,hS⟩)|hS
   ·rcases hO a with z|⟨o,xs,z⟩<;>rw[hS] at z<;>cases z
   ·exact .inl ⟨o,hS⟩
   ·exact .inr hS
  exact⟨[.fz (ns.map .int)],fun _=>none,fun d _=>d=.bl true,fun _ _=>False,.cons (.fz hf (.ints ns)) .nil,.nil,⟨ns,rfl,⟨hlen,hbits⟩,fun _=>rfl⟩,fun d' M' v H' _ _ r h=>by subst h;cases r;rfl,fun _ _ _ _ _ _ _ _ _ _ _ z=>z.elim⟩
 ·obtain⟨rfl,h2,h3,h4⟩:=hq
  exact⟨.inl ⟨.bool true,.bool true,[],rfl,fun _=>rfl,.bool true,Att.post_true l _,fun _=>⟨List.Pairwise.nil,fun _ hm=>(nomatch hm)⟩⟩,h2,h3,h4⟩
end DL
end
noncomputable section
namespace Q
theorem gcd_pos' {a b:Int} (h:b≠0):0<Int.gcd a b:=Int.gcd_pos_of_ne_zero_right _ h
theorem lowest (a b:Int) (h:b≠0):a.fdiv (if b<0 then -(Int.gcd a b:Int) else Int.gcd a b)=(Rat.divInt a b).num/\b.fdiv (if b<0 then -(Int.gcd a b:Int) else Int.gcd a b)=((Rat.divInt a b).den:Int):=by
 have hg:=gcd_pos' (a:=a) h
 obtain⟨x,hx⟩:(Int.gcd a b:Int) ∣ a:=Int.gcd_dvd_left ..
 obtain⟨y,hy⟩:(Int.gcd a b:Int) ∣ b:=Int.gcd_dvd_right ..
 have gc:Int.gcd b a=Int.gcd a b:=Int.gcd_comm b a
 rw[Rat.num_divInt,Rat.den_divInt,if_neg h,gc]
 generalize hgg:Int.gcd a b=g at *
 have g0:(g:Int)≠0:=by omega
 have hy0:y≠0:=fun z=>h (by rw[hy,z,Int.mul_zero])
 by_cases hb:b<0
 ·rw[if_pos hb]
  have yneg:y<0:=by
   rcases Int.lt_trichotomy y 0 with z|z|z
   ·exact z
   ·exact absurd z hy0
   ·have:=Int.mul_pos (by omega:(0:Int)<g) z;omega
  have sb:b.sign=-1:=Int.sign_eq_neg_one_of_neg hb
  have e1:a=(-(g:Int))*(-x):=by rw[Int.neg_mul_neg];exact hx
  have e2:b=(-(g:Int))*(-y):=by rw[Int.neg_mul_neg];exact hy
  have n0:(-(g:Int))≠0:=by omega
  constructor
  ·conv=>lhs;rw[e1]
   rw[Int.mul_fdiv_cancel_left _ n0,sb]
   have:(-1*a)=(g:Int)*(-x):=by rw[hx,Int.mul_neg];omega
   rw[this,Int.mul_ediv_cancel_left _ g0]
  ·conv=>lhs;rw[e2]
   rw[Int.mul_fdiv_cancel_left _ n0]
   have e3:b.natAbs=g*(-y).natAbs:=by rw[hy,Int.natAbs_mul];simp
   rw[e3,Nat.mul_div_cancel_left _ hg]
   omega
 ·rw[if_neg hb]
  have ypos:0<y:=by
   rcases Int.lt_trichotomy y 0 with z|z|z
   ·have:=Int.mul_neg_of_pos_of_neg (by omega:(0:Int)<g) z;omega
   ·exact absurd z hy0
   ·exact z
  have sb:b.sign=1:=Int.sign_eq_one_of_pos (by omega)
  constructor
  ·conv=>lhs;rw[hx]
   rw[Int.mul_fdiv_cancel_left _ g0,sb,Int.one_mul]
   conv=>rhs;rw[hx]
   rw[Int.mul_ediv_cancel_left _ g0]
  ·conv=>lhs;rw[hy]
   rw[Int.mul_fdiv_cancel_left _ g0]
   have e3:b.natAbs=g*y.natAbs:=by rw[hy,Int.natAbs_mul];simp
   rw[e3,Nat.mul_div_cancel_left _ hg]
   omega
theorem divInt_lowest (q:Rat):Rat.divInt q.num q.den=q:=Rat.num_divInt_den q
theorem gcd_self (q:Rat):Int.gcd q.num q.den=1:=q.reduced
theorem den_pos (q:Rat):(0:Int)<q.den:=by have:=q.den_nz;omega
theorem of_gcd {a b:Int} (hb:1<=b) (hg:Int.gcd a b=1):(Rat.divInt a b).num=a/\((Rat.divInt a b).den:Int)=b:=by
 have gc:Int.gcd b a=1:=by rw[Int.gcd_comm];exact hg
 rw[Rat.num_divInt,Rat.den_divInt,if_neg (by omega),gc,Int.sign_eq_one_of_pos (by omega)]
 simp;omega
theorem lt_eq (p q:Rat):p.num*q.den<q.num*p.den ↔ p<q:=(Rat.lt_iff p q).symm
noncomputable def Sz (n:Nat) (q:Rat):Prop:=q.num.natAbs<2 ^ n/\q.den<2 ^ n
theorem Sz.mono {m n:Nat} {q:Rat} (h:Sz m q) (k:m<=n):Sz n q:=⟨Nat.lt_of_lt_of_le h.1 (Nat.pow_le_pow_right (by decide) k),Nat.lt_of_lt_of_le h.2 (Nat.pow_le_pow_right (by decide) k)⟩
theorem divInt_le (a b:Int) (h:b≠0):(Rat.divInt a b).num.natAbs<=a.natAbs/\(Rat.divInt a b).den<=b.natAbs:=by
 rw[Rat.num_divInt,Rat.den_divInt,if_neg h]
 constructor
 ·have:(b.sign*a).natAbs<=a.natAbs:=by
   rw[Int.natAbs_mul]
   have:b.sign.natAbs<=1:=by rcases Int.lt_trichotomy b 0 with z|z|z<;>simp[Int.sign_eq_neg_one_of_neg,Int.sign_eq_one_of_pos,z]
   exact Nat.le_trans (Nat.mul_le_mul_right _ this) (by simp)
  exact Nat.le_trans (Int.natAbs_ediv_le_natAbs _ _) this
 ·exact Nat.div_le_self _ _
theorem sz_divInt {a b:Int} {n:Nat} (h:b≠0) (ha:a.natAbs<2 ^ n) (hb:b.natAbs<2 ^ n):Sz n (Rat.divInt a b) :=
 ⟨Nat.lt_of_le_of_lt (divInt_le a b h).1 ha,Nat.lt_of_le_of_lt (divInt_le a b h).2 hb⟩
theorem den_abs {n:Nat} {q:Rat} (h:Sz n q):(q.den:Int).natAbs<2 ^ n:=by simpa using h.2
end Q
end
noncomputable section
namespace Q
theorem rises (d:Nat->Rat) (n:Nat) (h:∀ k,0<k->k<n->0<d k->d k-d (k-1)<=d (k+1)-d k):∀ m i,n-i=m->0<i->i<=n->0<d i->0<d i-d (i-1)->0<d n:=by
 intro m
 induction m with
 | zero =>
  intro i e h0 h1 h2 _
  have:i=n:=by omega
  subst this;exact h2
 | succ m ih =>
  intro i e h0 h1 h2 h3
  have hi:i<n:=by omega
  have:=h i h0 hi h2
  refine ih (i+1) (by omega) (by omega) (by omega) (by grind) ?_
  rw[Nat.add_sub_cancel];grind
theorem climbs (d:Nat->Rat) (h0:d 0<=0):∀ k,0<d k->∃ i,0<i/\i<=k/\0<d i/\0<d i-d (i-1):=by
 intro k
 induction k with
 | zero=>intro h;grind
 | succ k ih =>
  intro h
  by_cases hk:0<d k
  ·obtain⟨i,a,b,c,e⟩:=ih hk
   exact⟨i,a,by omega,c,e⟩
  ·exact⟨k+1,by omega,by omega,h,by rw[Nat.add_sub_cancel];grind⟩
theorem maxp (d:Nat->Rat) (n:Nat) (h0:d 0<=0) (hn:d n<=0) (h:∀ k,0<k->k<n->0<d k->d k-d (k-1)<=d (k+1)-d k):∀ k,k<=n->d k<=0:=by
 intro k hk
 by_cases hd:0<d k
 ·obtain⟨i,a,b,c,e⟩:=climbs d h0 k hd
  have:=rises d n h (n-i) i rfl a (by omega) c e
  grind
 ·grind
structure Taut (lo hi r:Nat->Rat) (n:Nat):Prop where
 low:∀ k,k<=n->lo k<=r k
 high:∀ k,k<=n->r k<=hi k
 up:∀ k,0<k->k<n->r k-r (k-1)<r (k+1)-r k->r k=hi k
 down:∀ k,0<k->k<n->r (k+1)-r k<r k-r (k-1)->r k=lo k
theorem Taut.le {lo hi r lo' hi' r':Nat->Rat} {n:Nat} (a:Taut lo hi r n) (b:Taut lo' hi' r' n) (hl:∀ k,k<=n->lo k<=lo' k) (hh:∀ k,k<=n->hi k<=hi' k) (h0:r 0<=r' 0) (hn:r n<=r' n):∀ k,k<=n->r k<=r' k:=by
 intro k hk
 have:=maxp (fun k=>r k-r' k) n (by grind) (by grind) (fun k k0 kn hd=>?_) k hk
 ·grind
 ·have l1:=hl k (by omega);have l2:=hh k (by omega);have l3:=b.low k (by omega);have l4:=a.high k (by omega);have l5:=a.low k (by omega);have l6:=b.high k (by omega)
  have u:=b.up k k0 kn
  have d:=a.down k k0 kn
  by_cases h1:r (k+1)-r k<r k-r (k-1)
  ·have:=d h1;grind
  ·by_cases h2:r' k-r' (k-1)<r' (k+1)-r' k
   ·have:=u h2;grind
   ·grind
theorem Taut.unique {lo hi r r':Nat->Rat} {n:Nat} (a:Taut lo hi r n) (b:Taut lo hi r' n) (h0:r 0=r' 0) (hn:r n=r' n):∀ k,k<=n->r k=r' k:=by
 intro k hk
 have x:=a.le b (fun _ _=>by grind) (fun _ _=>by grind) (by grind) (by grind) k hk
 have y:=b.le a (fun _ _=>by grind) (fun _ _=>by grind) (by grind) (by grind) k hk
 grind
noncomputable def line (b:Nat) (h s:Rat) (t:Nat):Rat:=h+s*((t:Rat)-(b:Rat))
structure Free (lo hi:Nat->Rat) (b:Nat) (h s:Rat) (e:Nat):Prop where
 low:∀ t,b<t->t<e->lo t<=line b h s t
 high:∀ t,b<t->t<e->line b h s t<=hi t
inductive Seg (lo hi:Nat->Rat) (n b:Nat) (h s:Rat) (p:Nat):Prop
 | up (at_:Nat) (hb:b<p) (hp:p<at_) (hn:at_<=n) (f:Free lo hi b h s at_) (t:line b h s p=hi p) (g:∀ t,p<t->t<at_->line b h s t<hi t) (z:line b h s at_<lo at_)
 | down (at_:Nat) (hb:b<p) (hp:p<at_) (hn:at_<=n) (f:Free lo hi b h s at_) (t:line b h s p=lo p) (g:∀ t,p<t->t<at_->lo t<line b h s t) (z:hi at_<line b h s at_)
 | fin (hb:b<p) (hp:p=n) (f:Free lo hi b h s (n+1))
structure Drawn (lo hi r:Nat->Rat) (n b:Nat):Prop where
 le:b<=n
 low:∀ k,k<=b->lo k<=r k
 high:∀ k,k<=b->r k<=hi k
 up:∀ k,0<k->k<b->r k-r (k-1)<r (k+1)-r k->r k=hi k
 down:∀ k,0<k->k<b->r (k+1)-r k<r k-r (k-1)->r k=lo k
 pend:b=0\/b=n\/∃ a h s,a<b/\r b-r (b-1)=s/\r b=line a h s b/\Seg lo hi n a h s b
end Q
end
noncomputable section
namespace Q
end Q
end
noncomputable section
namespace Q
theorem tri (a b:Rat):a<b\/a=b\/b<a:=by
 by_cases h:a<b
 ·exact .inl h
 ·by_cases h2:b<a
  ·exact .inr (.inr h2)
  ·exact .inr (.inl (by grind))
noncomputable def fs (f:Rat->Rat) (r:Nat->Rat):Nat->Rat
 | 0=>0
 | m+1=>fs f r m+f (r (m+1)-r m)
end Q
end
noncomputable section
namespace K
open PySem DL
noncomputable abbrev F0:DK:=fun _ _=>False
noncomputable abbrev ends (R E:DK):DEnds:={nx:=fun _ M'=>R .non M',rt:=R,ex:=fun _=>E}
theorem forD_inv {g:(DSt->DK)->DG} {tb:DS} {keep:Mem->Prop} {D:DEnds} (I:DSt->Mem->Prop) (hk:∀ δ M,I δ M->keep M) (he:∀ δ M,I δ M->D.nx δ M):∀ {items:List DL.D},
  (∀ x∈items,∀ N:DSt->Mem->Prop,(∀ δ M,I δ M->N δ M)->∀ δ M,I δ M->g D.ex x δ M fun δ1 M1=>tb {D with nx:=N,ct:=N,bk:=D.nx} δ1 M1)->∀ {δ M},I δ M->forD g tb keep items D δ M
 | [],_,δ,M,i=>he δ M i
 | x::xs,h,δ,M,i=>by
  unfold forD
  exact h x List.mem_cons_self _ (fun δ' M' i'=>⟨hk δ' M' i',forD_inv I hk he (fun y hy=>h y (List.mem_cons_of_mem _ hy)) i'⟩) δ M i
theorem forD_ix {g:(DSt->DK)->DG} {tb:DS} {keep:Mem->Prop} {D:DEnds}:∀ {items:List DL.D} (I:Nat->DSt->Mem->Prop),(∀ i δ M,I i δ M->keep M)->(∀ δ M,I items.length δ M->D.nx δ M) ->
  (∀ i x,items[i]?=some x->∀ N:DSt->Mem->Prop,(∀ δ M,I (i+1) δ M->N δ M)->∀ δ M,I i δ M->g D.ex x δ M fun δ1 M1=>tb {D with nx:=N,ct:=N,bk:=D.nx} δ1 M1)->∀ {δ M},I 0 δ M->forD g tb keep items D δ M
 | [],I,hk,he,ht,δ,M,h0=>he δ M h0
 | x::xs,I,hk,he,ht,δ,M,h0=>by
  unfold forD
  exact ht 0 x rfl _ (fun δ' M' i'=>⟨hk _ δ' M' i',forD_ix (fun i=>I (i+1)) (fun i=>hk (i+1)) he (fun i y hy N hN=>ht (i+1) y (by simpa using hy) N hN) i'⟩) δ M h0
theorem rngD_at {lo c:Int} {n i:Nat} {x:DL.D} (h:(rngD lo c n)[i]?=some x):x=.int (lo+i*c)/\i<n:=by
 unfold rngD at h
 rw[List.getElem?_map] at h
 cases q:(List.range n)[i]? with
 | none=>rw [q] at h;cases h
 | some j =>
  obtain⟨h1,h2⟩:=List.getElem?_eq_some_iff.mp q
  rw[q] at h;cases h
  simp at h1 h2
  subst h2
  exact⟨rfl,h1⟩
theorem rngD_len {lo c:Int} {n:Nat}:(rngD lo c n).length=n:=by simp[rngD]
theorem MExt.none {M M':Mem} (e:MExt M M') {p:Addr} (h:M' p=Option.none):M p=Option.none:=by
 cases q:M p with
 | none=>rfl
 | some o=>rw [e _ _ q] at h;cases h
theorem at_zero {α:Type} (x:α) (l:List α):L2.atI (x::l) 0=some x:=L2.atI_nat (j:=0) rfl
set_option tactic.hygienic true
theorem bits_le {k:Int} {n:Nat} (h:k.natAbs<2 ^ n):Builtin.Int.intBits k<=n:=by
 unfold Builtin.Int.intBits
 split
 ·exact Nat.zero_le _
 ·rename_i h0
  have hp:k.natAbs≠0:=by intro z;apply h0;simp;omega
  have:=(Nat.log2_lt hp).mpr h
  omega
set_option tactic.hygienic false
theorem mul_ok {a b:Int} {m n:Nat} (ha:a.natAbs<2 ^ m) (hb:b.natAbs<2 ^ n) (h:m+n<=134217728):IntMulOk a b:=IntMulOk.of_le (bits_le ha) (bits_le hb) h
theorem divOk_small {j:Int} (h:j≠0) (hj:j.natAbs<2 ^ 8000):DivOk j:=⟨h,by
 have:j.natAbs≠0:=by omega
 have:=(Nat.log2_lt this).mpr hj
 omega⟩
theorem gcd_step {x y:Int} (h0:0<=x) (h1:0<y):Int.gcd y (x.fmod y)=Int.gcd x y:=by
 obtain⟨n,rfl⟩:=Int.eq_ofNat_of_zero_le h0
 obtain⟨m,rfl⟩:=Int.eq_ofNat_of_zero_le (Int.le_of_lt h1)
 rw[Int.fmod_eq_emod_of_nonneg _ (Int.le_of_lt h1)]
 show Nat.gcd m (((n:Int) % (m:Int)).natAbs)=Nat.gcd n m
 have:((n:Int) % (m:Int)).natAbs=n % m:=by
  rw[<- Int.natCast_emod];rfl
 rw[this,Nat.gcd_comm n m,Nat.gcd_comm m (n % m)]
 exact (Nat.gcd_rec m n).symm
theorem gcd_abs (a b:Int):Int.gcd (if a<0 then -a else a) (if b<0 then -b else b)=Int.gcd a b:=by
 unfold Int.gcd
 congr 1<;>split<;>omega
theorem fmod_range {x y:Int} (h:0<y):0<=x.fmod y/\x.fmod y<y:=by
 rw[Int.fmod_eq_emod_of_nonneg _ (Int.le_of_lt h)]
 exact⟨Int.emod_nonneg _ (by omega),Int.emod_lt_of_pos _ h⟩
theorem rSs_cons {s:CS} {r:CSs} {D:DEnds} {δ:DSt} {M:Mem}:rSs (.cons s r) D δ M=rS s {D with nx:=rSs r D} δ M:=by rw[rSs];rfl
theorem rSs_nil {D:DEnds} {δ:DSt} {M:Mem}:rSs .nil D δ M=D.nx δ M:=by rw[rSs];rfl
theorem eq_int {M:Mem} {Q:DK} {i j:Int} (neg:Bool) (h:Q (.bl (if neg then !(i==j) else (i==j))) M):cEq neg (.int i) (.int j) M Q:=⟨_,_,.int i,.int j,by simp[PyData.depth],h⟩
noncomputable def S_5:DSp:=fun ds M Q _=>∃ a b:Int,ds=[.int a,.int b]/\Q (.int (Int.gcd a b)) M
noncomputable def C_5:CSs:=.cons (.par 0 1 (.bi .abs (.cons (.var 0) (.nil))) (.bi .abs (.cons (.var 1) (.nil)))) (.cons (.whl (.var 1) (.cons (.par 0 1 (.var 1) (.bin .Mod (.var 0) (.var 1))) (.nil))) (.cons (.ret (.var 0)) (.nil)))
theorem vc_5:∀ ds M R E,S_5 ds M R E->rSs C_5 (ends R E) (startD 2 ds) M:=by
 rintro ds M R E ⟨a,b,rfl,h⟩
 simp[0,C_5,rSs,gdTup,revOp,diSeq,diRng,dFor,dComp,bMul,bAdd,iOp,sOp,fLen,fTuple,fList,fIsi,fAll,fAny,itSeq,and_assoc,sizeLine_eq]
 refine⟨fun m δ M'=>∃ x y:Int,δ=[some (.int x),some (.int y)]/\M'=M/\0<=x/\0<=y/\Int.gcd x y=Int.gcd a b/\m=y.toNat,⟨_,_,_,rfl,rfl,?_,?_,?_,rfl⟩,?_⟩
 ·split<;>omega
 ·split<;>omega
 ·exact gcd_abs a b
 ·rintro m δ M' ⟨x,y,rfl,rfl,h0,h1,hg,rfl⟩
  simp[0,rSs,gdTup,revOp,diSeq,diRng,dFor,dComp,bMul,bAdd,iOp,sOp,fLen,fTuple,fList,fIsi,fAll,fAny,itSeq,and_assoc,sizeLine_eq]
  by_cases hy:y=0
  ·subst hy
   rw[if_pos rfl]
   rw[<- hg] at h
   have e:((x.gcd 0:Nat):Int)=x:=by unfold Int.gcd;simp;omega
   rw[e] at h;exact h
  ·rw[if_neg hy]
   have yp:0<y:=by omega
   refine⟨fun δ' M1=>δ'=[some (.int y),some (.int (x.fmod y))]/\M1=M',?_,hy,rfl,rfl⟩
   rintro δ' M1 ⟨rfl,rfl⟩
   have:=fmod_range (x:=x) yp
   exact⟨(x.fmod y).toNat,by omega,y,_,rfl,rfl,h1,this.1,by rw[gcd_step h0 yp];exact hg,rfl⟩
noncomputable def S_0:DSp:=fun ds M Q _=>∃ c:Int,ds=[.int c]/\Builtin.Int.intBits c<=2000000/\∀ r:Int,0<=r->r<10 ^ 60->Q (.int r) M
noncomputable def C_0:CSs:=.cons (.ret (.bin .Mod (.bin .Mult (.var 0) (.int 301029995663981195213738894724493026768189881462108541310427)) (.bin .Pow (.int 10) (.int 60)))) (.nil)
theorem vc_0:∀ ds M R E,S_0 ds M R E->rSs C_0 (ends R E) (startD 1 ds) M:=by
 rintro ds M R E ⟨c,rfl,hb,h⟩
 simp[0,C_0,rSs,gdTup,revOp,diSeq,diRng,dFor,dComp,bMul,bAdd,iOp,sOp,fLen,fTuple,fList,fIsi,fAll,fAny,itSeq,and_assoc,sizeLine_eq]
 exact⟨IntMulOk.of_le hb (bits_le (n:=300) (by decide)) (by decide),⟨by decide,by decide,by decide⟩,h _ (fmod_range (by decide)).1 (fmod_range (by decide)).2⟩
noncomputable def S_22:DSp:=fun ds M Q _=>∃ a n v,ds=[.lst a,.int n]/\M a=some (.ls [.int v])/\0<n/\n.natAbs<2 ^ 8000/\∀ r v':Int,0<=r->r<n->Q (.int r) (M.upd a (.ls [.int v']))
noncomputable def C_22:CSs:=.cons (.asg (.tup (.cons (.sub (.var 0) (.int 0)) (.cons (.name 2) (.nil)))) (.bi .divmod (.cons (.ix (.var 0) (.int 0)) (.cons (.var 1) (.nil))))) (.cons (.ret (.var 2)) (.nil))
theorem vc_22:∀ ds M R E,S_22 ds M R E->rSs C_22 (ends R E) (startD 3 ds) M:=by
 rintro ds M R E ⟨a,n,v,rfl,ha,hn,hn2,h⟩
 simp[0,C_22,rSs,gdTup,revOp,diSeq,diRng,dFor,dComp,bMul,bAdd,iOp,sOp,fLen,fTuple,fList,fIsi,fAll,fAny,itSeq,and_assoc,sizeLine_eq]
 refine⟨_,ha,.int v,rfl,?_⟩
 have f:=fmod_range (x:=v) hn
 simp[0,rSs,gdTup,revOp,diSeq,diRng,dFor,dComp,bMul,bAdd,iOp,sOp,fLen,fTuple,fList,fIsi,fAll,fAny,itSeq,and_assoc,sizeLine_eq]
 exact⟨divOk_small (by omega) hn2,_,ha,0,rfl,h _ _ f.1 f.2⟩
theorem cut_mem {α:Type} {xs:List α} {lo hi:Option Int} {x:α} (h:x∈cutG xs lo hi):x∈xs:=List.mem_of_mem_drop (List.mem_of_mem_take h)
theorem cut_len {α:Type} (xs:List α) (lo hi:Option Int):(cutG xs lo hi).length<=xs.length:=by
 unfold cutG;rw[List.length_take,List.length_drop];omega
theorem cut_first (ns:List Int) (lo hi:Option Int) (e:Int):∃ c,L2.atI (cutG (ns.map D.int) lo hi++[D.int e]) 0=some (.int c)/\(c∈ns\/c=e):=by
 cases q:cutG (ns.map D.int) lo hi with
 | nil=>exact⟨e,rfl,.inr rfl⟩
 | cons x r =>
  have:x∈ns.map D.int:=cut_mem (lo:=lo) (hi:=hi) (by rw[q];exact List.mem_cons_self)
  obtain⟨c,hc,rfl⟩:=List.mem_map.mp this
  exact⟨c,at_zero _ _,.inl hc⟩
theorem one_line (x:DL.D):[x].length<=sizeLine:=by rw[sizeLine_eq];exact (by decide:1<=16777216)
theorem two_line (x y:DL.D):[x,y].length<=sizeLine:=by rw[sizeLine_eq];exact (by decide:2<=16777216)
theorem mulI {i j:Int} {M:Mem} {Q:DK} (a:IntMulOk i j) (q:Q (.int (i*j)) M):bMul (.int i) (.int j) M Q:=⟨a,q⟩
theorem addI {i j:Int} {M:Mem} {Q:DK} (q:Q (.int (i+j)) M):bAdd (.int i) (.int j) M Q:=q
noncomputable def S_1:DSp:=fun ds M Q _=>∃ (ns:List Int) (k:Int),ds=[.fz (ns.map .int),.int k]/\Script ns/\0<=k/\k<=1000/\∀ (v:Int) p M',M p=none->MExt M M'->M' p=some (.ls [.int v])->Q (.lst p) M'
noncomputable def C_1:CSs:=.cons (.set 2 (.int 0)) (.cons (.fr (.name 3) (.seq (.lst (.cons (.bin .Add (.var 1) (.int 1)) (.cons (.var 1) (.nil))))) (.cons (.set 2 (.bin .Add (.bin .Mult (.var 2) (.bin .Pow (.int 10) (.int 60))) (.call "_law_mixed" S_0 (.cons (.ix (.bin .Add (.sl (.var 0) (.some (.var 3)) (.some (.bin .Add (.var 3) (.int 1)))) (.lst (.cons (.bin .Add (.bin .Mult (.int 7907) (.var 3)) (.int 53)) (.nil)))) (.int 0)) (.nil))))) (.nil))) (.cons (.ret (.lst (.cons (.var 2) (.nil)))) (.nil)))
theorem vc_1:∀ ds M R E,S_1 ds M R E->rSs C_1 (ends R E) (startD 4 ds) M:=by
 rintro ds M R E ⟨ns,k,rfl,hs,h0,h1,h⟩
 have turn:∀ (t found:Int) (M:Mem) (Q:DK),0<=t->t<=1001->found.natAbs<2 ^ 1000->(∀ v M',MExt M M'->v.natAbs<(found.natAbs+1)*10 ^ 60->Q (.int v) M') ->
   d2 bAdd (d2 bMul (dVar 2) (d2 (bInt L2.CPow fun i j=>i ^ j.toNat) (dC (D.int 10)) (dC (D.int 60))))
    (dCall S_0 (fun _=>E) (dCons (d2 iOp (d2 bAdd (dSl (dVar 0) (dPart (dVar 3)) (dPart (d2 bAdd (dVar 3) (dC (D.int 1))))) (dLst (dCons (d2 bAdd (d2 bMul (dC (D.int 7907)) (dVar 3)) (dC (D.int 53))) dNil))) (dC (D.int 0))) dNil))
    [some (.fz (ns.map D.int)),some (.int k),some (.int found),some (.int t)] M Q:=by
  intro t found M Q h0 h1 hf hN
  dsimp only[d2,dVar,dC,dCall,dCons,dNil,dLst,dSl,dPart]
  refine⟨_,rfl,⟨by decide,by decide,by decide⟩,mulI (mul_ok hf (n:=300) (by decide) (by decide)) ⟨_,rfl,_,rfl,_,rfl,_,rfl,addI ⟨_,rfl,fun p1 M1 e1 x1 l1=>⟨_,rfl,mulI (mul_ok (m:=64) (n:=64) (by decide) (by omega) (by decide)) (addI ⟨one_line _,fun p2 M2 e2 x2 l2=>⟨_,_,x2 _ _ l1,l2,?_,fun p3 M3 e3 x3 l3=>?_⟩⟩)⟩⟩⟩⟩
  ·have:=cut_len (ns.map D.int) (some t) (some (t+1))
   rw[List.length_map] at this
   have:=hs.len
   rw[sizeLine_eq]
   show _+1<=_
   omega
  obtain⟨c,hc,hm⟩:=cut_first ns (some t) (some (t+1)) (7907*t+53)
  refine⟨_,_,l3,hc,c,rfl,?_,fun r r0 r1=>addI ?_⟩
  ·rcases hm with hm|hm
   ·exact Nat.le_trans (hs.bits c hm) (by decide)
   ·subst hm;exact Nat.le_trans (bits_le (n:=64) (by omega)) (by decide)
  ·refine hN _ M3 (x1.trans (x2.trans x3)) ?_
   have a1:=Int.natAbs_add_le (found*1000000000000000000000000000000000000000000000000000000000000) r
   rw[Int.natAbs_mul] at a1
   have a2:r.natAbs<10 ^ 60:=by omega
   have a3:(1000000000000000000000000000000000000000000000000000000000000:Int).natAbs=10 ^ 60:=by decide
   rw[a3] at a1
   rw[Nat.add_mul,Nat.one_mul]
   exact Nat.lt_of_le_of_lt a1 (by omega)
 unfold C_1
 dsimp only[rSs,rS,rE,rEs,rG,rGs,rI,DL.plain,dSeq,dRet,dAsg,dFor,gdName,diSeq,dCall,dCons,dNil,dLst,dVar,dC,d2,bOp,startD,dNext,dSl]
 refine⟨_,rfl,addI ⟨_,rfl,two_line _ _,fun p0 M0 e0 x0 l0=>⟨_,l0,?_⟩⟩⟩
 dsimp only[forD,gdName,dSeq,dAsg,dNext,rO]
 refine turn (k+1) 0 M0 _ (by omega) (by omega) (by decide) fun v1 M1 x1 b1=>?_
 refine⟨x1 _ _ l0,?_⟩
 refine turn k v1 M1 _ (by omega) (by omega) (Nat.lt_of_lt_of_le b1 (by decide)) fun v2 M2 x2 b2=>?_
 refine⟨x2 _ _ (x1 _ _ l0),?_⟩
 dsimp only[dRet,dLst,dCons,dNil,dVar]
 refine⟨_,rfl,one_line _,fun p M' e x l=>?_⟩
 exact h v2 p M' (K.MExt.none (x0.trans (x1.trans x2)) e) (x0.trans (x1.trans (x2.trans x))) l
end K
end
open PySem DL Q K
set_option bootstrap.genMatcherCode true
local macro_rules
 | `(tactic| sleep 1)=>`(tactic| ((try dsimp only);rw[rSs_cons];sleep 2))
 | `(tactic| sleep 2)=>`(tactic| ((try dsimp only[0,gdTup,revOp,bMul,bAdd,sOp,fTuple,fList,fIsi,itSeq]);try simp[0,gdTup,revOp,bMul,bAdd,sOp,fTuple,fList,fIsi,itSeq,and_assoc,sizeLine_eq,rSs_nil]))
 | `(tactic| sleep 50)=>`(tactic| exact⟨rfl,rfl,rfl,by decide +kernel,rfl,by decide +kernel,by decide +kernel⟩)
 | `(tactic| sleep 51)=>`(tactic| repeat' (first|exact True.intro|assumption|refine And.intro ?_ ?_))
set_option bootstrap.genMatcherCode false
noncomputable section
namespace K
open PySem DL Q
noncomputable def nm (q:Rat):DL.D:=.tup [.int q.num,.int q.den]
theorem pow_le {m n:Nat} (h:m<=n):2 ^ m<=2 ^ n:=Nat.pow_le_pow_right (by decide) h
theorem divOk_gcd {a b:Int} (h:b≠0) (hb:b.natAbs<2 ^ 8000):DivOk (if b<0 then -(Int.gcd a b:Int) else Int.gcd a b):=by
 have g0:=gcd_pos' (a:=a) h
 have gl:Int.gcd a b<=b.natAbs:=Nat.le_of_dvd (by omega) (Int.gcd_dvd_natAbs_right ..)
 split<;>exact divOk_small (by omega) (by simp;omega)
noncomputable def Ok2 (p q:Rat):Prop:=∃ m n,Sz m p/\Sz n q/\m+n<=7998
theorem Ok2.mk {p q:Rat} {m n:Nat} (a:Sz m p) (b:Sz n q) (h:m+n<=7998):Ok2 p q:=⟨m,n,a,b,h⟩
theorem Ok2.nd {p q:Rat} (h:Ok2 p q):IntMulOk p.num q.den/\IntMulOk q.num p.den/\IntMulOk p.den q.den/\IntMulOk p.num q.num/\IntMulOk (p.den:Int) q.num:=by
 obtain⟨m,n,a,b,h⟩:=h
 exact⟨mul_ok a.1 (den_abs b) (by omega),mul_ok b.1 (den_abs a) (by omega),mul_ok (den_abs a) (den_abs b) (by omega),mul_ok a.1 b.1 (by omega),mul_ok (den_abs a) b.1 (by omega)⟩
theorem at_one {α:Type} (x y:α) (l:List α):L2.atI (x::y::l) 1=some y:=L2.atI_nat (j:=1) rfl
theorem ix0 {p:Rat} {M:Mem} {Q:DK} (q:Q (.int p.num) M):iOp (nm p) (.int 0) M Q:=⟨_,at_zero _ _,q⟩
theorem ix1 {p:Rat} {M:Mem} {Q:DK} (q:Q (.int p.den) M):iOp (nm p) (.int 1) M Q:=⟨_,at_one _ _ _,q⟩
noncomputable def S_7:DSp:=fun ds M Q E=>∃ p q:Rat,ds=[nm p,nm q]/\Ok2 p q/\Q (.bl (decide (p<q))) M
noncomputable def C_7:CSs:=.cons (.ret (.cmp .Lt (.bin .Mult (.ix (.var 0) (.int 0)) (.ix (.var 1) (.int 1))) (.bin .Mult (.ix (.var 1) (.int 0)) (.ix (.var 0) (.int 1))))) (.nil)
theorem vc_7:∀ ds M R E,S_7 ds M R E->rSs C_7 (ends R E) (startD 2 ds) M:=by
 rintro ds M R E ⟨p,q,rfl,ok,h⟩
 unfold C_7
 dsimp only[rSs,rS,rE,rEs,DL.plain,dSeq,dRet,dCall,dCons,dNil,d2,dVar,dC,bOp,cOp,startD]
 have n:=ok.nd
 refine⟨_,rfl,ix0 ⟨_,rfl,ix1 (mulI n.1 ⟨_,rfl,ix0 ⟨_,rfl,ix1 (mulI n.2.1 ?_)⟩⟩)⟩⟩
 show R (.bl (decide (p.num*q.den<q.num*p.den))) M
 rw[show decide (p.num*(q.den:Int)<q.num*p.den)=decide (p<q) by simp only[lt_eq]]
 exact h
noncomputable def S_24:DSp:=fun ds M Q _=>∃ a b:Int,ds=[.int a,.int b]/\b≠0/\b.natAbs<2 ^ 8000/\Q (nm (Rat.divInt a b)) M
noncomputable def C_24:CSs:=.cons (.par 2 3 (.bi .abs (.cons (.var 0) (.nil))) (.bi .abs (.cons (.var 1) (.nil)))) (.cons (.whl (.cmp .NotEq (.var 3) (.int 0)) (.cons (.par 2 3 (.var 3) (.bin .Mod (.var 2) (.var 3))) (.nil))) (.cons (.ife (.cmp .Lt (.var 1) (.int 0)) (.cons (.set 2 (.bin .Sub (.int 0) (.var 2))) (.nil)) (.nil)) (.cons (.ret (.tup (.cons (.bin .FloorDiv (.var 0) (.var 2)) (.cons (.bin .FloorDiv (.var 1) (.var 2)) (.nil))))) (.nil))))
theorem vc_24:∀ ds M R E,S_24 ds M R E->rSs C_24 (ends R E) (startD 4 ds) M:=by
 rintro ds M R E ⟨a,b,rfl,hb,hb2,h⟩
 have L:=lowest a b hb
 have D:=divOk_gcd (a:=a) hb hb2
 simp[0,C_24,rSs,gdTup,revOp,diSeq,diRng,dFor,dComp,bMul,bAdd,iOp,sOp,fLen,fTuple,fList,fIsi,fAll,fAny,itSeq,and_assoc,sizeLine_eq]
 refine⟨fun m δ M'=>∃ x y:Int,δ=[some (.int a),some (.int b),some (.int x),some (.int y)]/\M'=M/\0<=x/\0<=y/\Int.gcd x y=Int.gcd a b/\m=y.toNat,⟨_,_,_,rfl,rfl,?_,?_,?_,rfl⟩,?_⟩
 ·split<;>omega
 ·split<;>omega
 ·exact gcd_abs a b
 ·rintro m δ M' ⟨x,y,rfl,rfl,h0,h1,hg,rfl⟩
  ((try dsimp only[0,rSs,gdTup,revOp,diSeq,diRng,dFor,dComp,bMul,bAdd,iOp,sOp,fLen,fTuple,fList,fIsi,fAll,fAny,itSeq]);try simp[0,rSs,gdTup,revOp,diSeq,diRng,dFor,dComp,bMul,bAdd,iOp,sOp,fLen,fTuple,fList,fIsi,fAll,fAny,itSeq,and_assoc,sizeLine_eq])
  refine eq_int true ?_
  by_cases hy:y=0
  ·subst hy
   have e:((x.gcd 0:Nat):Int)=x:=by unfold Int.gcd;simp;omega
   rw[hg] at e
   rw[e] at L D
   unfold nm at h
   by_cases nb:b<0
   ·rw[if_pos nb] at L D
    simp[nb,D]
    rw[L.1,L.2];exact h
   ·rw[if_neg nb] at L D
    simp[nb,D]
    rw[L.1,L.2];exact h
  ·have yp:0<y:=by omega
   simp[hy]
   refine⟨fun δ' M1=>δ'=[some (.int a),some (.int b),some (.int y),some (.int (x.fmod y))]/\M1=M',?_,rfl,rfl⟩
   rintro δ' M1 ⟨rfl,rfl⟩
   have:=fmod_range (x:=x) yp
   exact⟨(x.fmod y).toNat,by omega,y,_,rfl,rfl,h1,this.1,by rw[gcd_step h0 yp];exact hg,rfl⟩
end K
end
noncomputable section
namespace K
open PySem DL Q
theorem MExt.upd_new {M0 M:Mem} {p:Addr} {o:MO} (h:M0 p=Option.none) (e:MExt M0 M):MExt M0 (M.upd p o):=fun a u z=>by
 have:a≠p:=fun q=>by rw[q,h] at z;cases z
 rw[mupd_ne this];exact e a u z
theorem compD_pureG {α:Type} {g:DG} {te:DE} {keep:Mem->Prop} {p:Addr} {Q:Mem->Prop} {M0:Mem} (e f:α->DL.D) (I:DSt->Prop) (h0:M0 p=none) (hk:∀ M,MExt M0 M->keep M) :
  ∀ {xs:List α} {acc:List DL.D},(∀ x∈xs,∀ δ M (R:DSt->DK),I δ->MExt M0 M->(∀ δ1 M',I δ1->MExt M M'->R δ1 (f x) M')->g (e x) δ M fun δ1 M1=>te δ1 M1 fun d M2=>R δ1 d M2) ->
  (acc++xs.map f).length<=1000->(∀ M',MExt M0 M'->M' p=some (.ls (acc++xs.map f))->Q M')->∀ {δ M},I δ->MExt M0 M->M p=some (.ls acc)->compD g te keep p (xs.map e) acc δ M Q
 | [],acc,_,_,q,δ,M,i,e',l=>by show compD g te keep p [] acc δ M Q;unfold compD;exact q M e' (by simpa using l)
 | x::xs,acc,h,hz,q,δ,M,i,e',l=>by
  show compD g te keep p (e x::xs.map e) acc δ M Q
  unfold compD
  refine h x List.mem_cons_self δ M (fun δ1 d M2=>M2 p=some (.ls acc)/\acc.length<sizeLine/\keep (M2.upd p (.ls (acc++[d])))/\compD g te keep p (xs.map e) (acc++[d]) δ1 (M2.upd p (.ls (acc++[d]))) Q) i e' fun δ1 M' i' e2=>?_
  have e3:MExt M0 (M'.upd p (.ls (acc++[f x]))):=MExt.upd_new h0 (e'.trans e2)
  refine⟨e2 _ _ l,?_,hk _ e3,compD_pureG e f I h0 hk (fun y hy=>h y (List.mem_cons_of_mem _ hy)) (by simpa using hz) (fun M2 e4 l4=>q M2 e4 (by simpa using l4)) i' e3 mupd_same⟩
  rw[sizeLine_eq];simp at hz;omega
theorem comp_mapG {α:Type} {n:Nat} {ti:DI} {g:DG} {te:DE} {δ:DSt} {M:Mem} {Q:DK} (xs:List α) (e f:α->DL.D)
  (hti:∀ R:List DL.D->(Mem->Prop)->Mem->Prop,(∀ keep,(∀ M',MExt M M'->keep M')->R (xs.map e) keep M)->ti δ M R) (hlen:xs.length<=1000)
  (hel:∀ x∈xs,∀ l M' (R:DSt->DK),l.length=n->MExt M M'->(∀ l' M'',l'.length=n->MExt M' M''->R (δ++l') (f x) M'')->g (e x) (δ++l) M' fun δ1 M1=>te δ1 M1 fun d M2=>R δ1 d M2)
  (hq:∀ p M',M p=Option.none->MExt M M'->M' p=some (.ls (xs.map f))->Q (.lst p) M'):dComp n ti g te δ M Q:=by
 refine hti _ fun keep hk p hp=>⟨hk _ (.new hp),?_⟩
 refine compD_pureG (M0:=M) e f (fun δ'=>∃ l,l.length=n/\δ'=δ++l) hp hk ?_ (by simpa using hlen) ?_ ⟨_,by simp,rfl⟩ (.new hp) mupd_same
 ·rintro x hx δ' M' R ⟨l,hl,rfl⟩ e2 r
  exact hel x hx l M' R hl e2 fun l' M'' h1 h2=>r _ M'' ⟨l',h1,rfl⟩ h2
 ·intro M' e2 l
  exact⟨⟨_,l⟩,hq p M' hp e2 (by simpa using l)⟩
theorem ti_lst {i:Nat} {δ:DSt} {M:Mem} {a:Addr} {xs:List DL.D} (h:δ[i]?=some (some (.lst a))) (l:M a=some (.ls xs)):∀ R:List DL.D->(Mem->Prop)->Mem->Prop,(∀ keep,(∀ M',MExt M M'->keep M')->R xs keep M)->diSeq (dVar i) δ M R :=
 fun R r=>⟨_,h,_,l,r _ fun M' e=>e _ _ l⟩
theorem len1 {α:Type} {l:List α} (h:l.length=1):∃ a,l=[a]:=match l,h with | [a],_=>⟨a,rfl⟩
theorem len2 {α:Type} {l:List α} (h:l.length=2):∃ a b,l=[a,b]:=match l,h with | [a,b],_=>⟨a,b,rfl⟩
theorem len3 {α:Type} {l:List α} (h:l.length=3):∃ a b c,l=[a,b,c]:=match l,h with | [a,b,c],_=>⟨a,b,c,rfl⟩
theorem all_of {M:Mem} {p:Addr} {Q:DK} {α:Type} {xs:List α} {f:α->Bool} (l:M p=some (.ls (xs.map fun x=>.bl (f x)))) (h:Q (.bl (xs.all f)) M):fAll [.lst p] M Q :=
 ⟨xs.map f,by rw[l,List.map_map];rfl,by rw[List.all_map];exact h⟩
mutual
noncomputable def Gd (M:Mem):DL.D->Prop
 | .tup xs=>Gds M xs
 | .int i=>i.natAbs<2 ^ 3000
 | .non=>True
 | .bl _=>True
 | .str _=>True
 | .fz _=>True
 | .lst a=>∃ xs,M a=some (.ls xs)
 | .dct a=>∃ xs,M a=some (.dk xs)
 | _=>False
noncomputable def Gds (M:Mem):List DL.D->Prop
 | []=>True
 | d::r=>Gd M d/\Gds M r
end
mutual
theorem Gd.ext {M M':Mem} (e:MExt M M'):∀ d,Gd M d->Gd M' d
 | .tup xs,h=>by unfold Gd at h ⊢;exact Gds.ext e xs h
 | .lst a,h=>by unfold Gd at h ⊢;exact let ⟨xs,q⟩:=h;⟨xs,e _ _ q⟩
 | .dct a,h=>by unfold Gd at h ⊢;exact let ⟨xs,q⟩:=h;⟨xs,e _ _ q⟩
 | .int i,h=>by unfold Gd at h ⊢;exact h
 | .non,_=>by unfold Gd;trivial
 | .bl _,_=>by unfold Gd;trivial
 | .str _,_=>by unfold Gd;trivial
 | .fz _,_=>by unfold Gd;trivial
 | .ty _,h=>by unfold Gd at h;exact h.elim
 | .ref _,h=>by unfold Gd at h;exact h.elim
 | .exc _ _,h=>by unfold Gd at h;exact h.elim
 | .cls _,h=>by unfold Gd at h;exact h.elim
theorem Gds.ext {M M':Mem} (e:MExt M M'):∀ ds,Gds M ds->Gds M' ds
 | [],_=>by unfold Gds;trivial
 | d::r,h=>by unfold Gds at h ⊢;exact⟨Gd.ext e d h.1,Gds.ext e r h.2⟩
end
theorem Gds.mem {M:Mem}:∀ {ds:List DL.D},Gds M ds->∀ d∈ds,Gd M d
 | [],_,_,h=>by cases h
 | x::r,h,d,hd=>by
  unfold Gds at h
  rcases List.mem_cons.mp hd with rfl|hd
  ·exact h.1
  ·exact Gds.mem h.2 d hd
theorem Gds.of {M:Mem}:∀ {ds:List DL.D},(∀ d∈ds,Gd M d)->Gds M ds
 | [],_=>by unfold Gds;trivial
 | x::r,h=>by unfold Gds;exact⟨h x List.mem_cons_self,Gds.of fun d hd=>h d (List.mem_cons_of_mem _ hd)⟩
theorem Gd.tup {M:Mem} {ds:List DL.D} (h:Gd M (.tup ds)):∀ d∈ds,Gd M d:=by unfold Gd at h;exact h.mem
theorem Gd.mk {M:Mem} {ds:List DL.D} (h:∀ d∈ds,Gd M d):Gd M (.tup ds):=by unfold Gd;exact .of h
theorem Gd.ty {M:Mem} {d:DL.D} (h:Gd M d):∃ t,tyD M d=some t:=by
 cases d<;>unfold Gd at h<;>first|exact⟨_,rfl⟩|exact h.elim|(obtain⟨xs,q⟩:=h;simp[tyD,q])
theorem tyD_nt {M:Mem} {d:DL.D} {t:String} (hn:∀ ds,d≠.tup ds) (h:tyD M d=some t):isiT t "tuple"=false:=by
 cases d with
 | tup ds=>exact absurd rfl (hn ds)
 | lst a =>
  simp only[tyD] at h
  split at h<;>cases h
  decide
 | dct a =>
  simp only[tyD] at h
  split at h<;>cases h
  decide
 | _=>first|(cases h;decide)|cases h
theorem int_of_ty {M:Mem} {d:DL.D} (h:tyD M d=some "int"):∃ i,d=.int i:=by
 cases d with
 | int i=>exact⟨i,rfl⟩
 | lst a=>simp only[tyD] at h;split at h<;>simp at h
 | dct a=>simp only[tyD] at h;split at h<;>simp at h
 | _=>simp[tyD] at h
noncomputable def S_4:DSp:=fun ds M Q _=>∃ d t,ds=[d]/\tyD M d=some t/\Q (.bl (decide (t="int"))) M
noncomputable def C_4:CSs:=.cons (.ret (.and (.bi .isinstance (.cons (.var 0) (.cons (.ty .int) (.nil)))) (.one (.not (.bi .isinstance (.cons (.var 0) (.cons (.ty .bool) (.nil)))))))) (.nil)
theorem vc_4:∀ ds M R E,S_4 ds M R E->rSs C_4 (ends R E) (startD 1 ds) M:=by
 rintro ds M R E ⟨d,t,rfl,ht,h⟩
 simp[0,C_4,rSs,gdTup,revOp,diSeq,diRng,dFor,dComp,bMul,bAdd,iOp,sOp,fLen,fTuple,fList,fIsi,fAll,fAny,itSeq,and_assoc,sizeLine_eq,ht]
 by_cases h1:t="int"
 ·subst h1;simp[isiT];exact h
 ·by_cases h2:t="bool"
  ·subst h2;simp[isiT];exact h
  ·simp[isiT,h1,h2];simpa[h1] using h
noncomputable def num?:DL.D->Option Rat
 | .tup [.int a,.int b]=>if 1<=b/\Int.gcd a b=1 then some (Rat.divInt a b) else none
 | _=>none
theorem num_two (a b:Int):num? (.tup [.int a,.int b])=if 1<=b/\Int.gcd a b=1 then some (Rat.divInt a b) else none:=rfl
theorem num_nm (q:Rat):num? (nm q)=some q:=by
 unfold nm
 have:=den_pos q
 rw[num_two,if_pos ⟨by omega,gcd_self q⟩,divInt_lowest]
set_option tactic.hygienic true
theorem num_eq {d:DL.D} {q:Rat} (h:num? d=some q):d=nm q:=by
 unfold num? at h
 split at h
 ·rename_i a b
  split at h
  ·rename_i hc
   cases h
   obtain⟨e1,e2⟩:=of_gcd hc.1 hc.2
   unfold nm;rw[e1,e2]
  ·cases h
 ·cases h
set_option tactic.hygienic false
noncomputable def isNum (d:DL.D):Bool:=(num? d).isSome
theorem isNum_iff {d:DL.D}:isNum d=true ↔ ∃ q,d=nm q:=by
 unfold isNum
 constructor
 ·intro h;obtain⟨q,e⟩:=Option.isSome_iff_exists.mp h;exact⟨q,num_eq e⟩
 ·rintro⟨q,rfl⟩;rw[num_nm];rfl
theorem isNum_nm (q:Rat):isNum (nm q)=true:=isNum_iff.mpr ⟨q,rfl⟩
set_option tactic.hygienic true
theorem isNum_not {a b:DL.D} (h:(∀ i,a≠.int i)\/∀ i,b≠.int i):isNum (.tup [a,b])=false:=by
 unfold isNum num?
 split
 ·rename_i i j e
  simp at e
  rcases h with h|h
  ·exact absurd e.1 (h i)
  ·exact absurd e.2 (h j)
 ·rfl
set_option tactic.hygienic false
theorem Gd.nm {M:Mem} {q:Rat} {n:Nat} (h:Sz n q) (hn:n<=3000):Gd M (nm q):=by
 refine .mk fun d hd=>?_
 have:=h.mono hn
 simp at hd
 rcases hd with rfl|rfl<;>unfold Gd
 ·exact this.1
 ·simpa using this.2
noncomputable def S_6:DSp:=fun ds M Q _=>∃ d,ds=[d]/\Gd M d/\Q (.bl (isNum d)) M
noncomputable def C_6:CSs:=.cons (.ife (.or (.not (.bi .isinstance (.cons (.var 0) (.cons (.ty .tuple) (.nil))))) (.one (.cmp .NotEq (.bi .len (.cons (.var 0) (.nil))) (.int 2)))) (.cons (.ret (.bl false)) (.nil)) (.nil)) (.cons (.asg (.tup (.cons (.name 1) (.cons (.name 2) (.nil)))) (.var 0)) (.cons (.ife (.or (.not (.call "is_whole" S_4 (.cons (.var 1) (.nil)))) (.or (.not (.call "is_whole" S_4 (.cons (.var 2) (.nil)))) (.one (.cmp .Lt (.var 2) (.int 1))))) (.cons (.ret (.bl false)) (.nil)) (.nil)) (.cons (.ret (.cmp .Eq (.call "greatest_divisor" S_5 (.cons (.var 1) (.cons (.var 2) (.nil)))) (.int 1))) (.nil))))
set_option tactic.hygienic true
theorem vc_6:∀ ds M R E,S_6 ds M R E->rSs C_6 (ends R E) (startD 3 ds) M:=by
 rintro ds M R E ⟨d,rfl,gd,h⟩
 obtain⟨t,ht⟩:=gd.ty
 by_cases hd:∃ xs,d=.tup xs
 ·obtain⟨xs,rfl⟩:=hd
  by_cases hl:xs.length=2
  ·obtain⟨a,b,rfl⟩:∃ a b,xs=[a,b]:=by
    match xs,hl with
    | [a,b],_=>exact⟨a,b,rfl⟩
   obtain⟨ta,hta⟩:=(gd.tup a (by simp)).ty
   obtain⟨tb,htb⟩:=(gd.tup b (by simp)).ty
   unfold C_6
   rw[rSs_cons]
   simp[0,gdTup,revOp,bMul,bAdd,sOp,fTuple,fList,fIsi,itSeq,and_assoc,sizeLine_eq,rSs_nil,fLen,tyD,isiT]
   refine eq_int true ?_
   simp
   sleep 1
   rw[rSs_cons]
   sleep 2
   refine⟨a,ta,rfl,hta,?_⟩
   by_cases h1:ta="int"
   ·subst h1
    obtain⟨i,rfl⟩:=int_of_ty hta
    simp
    refine⟨b,tb,rfl,htb,?_⟩
    by_cases h2:tb="int"
    ·subst h2
     obtain⟨j,rfl⟩:=int_of_ty htb
     simp
     by_cases h3:j<1
     ·have e:isNum (.tup [.int i,.int j])=false:=by
       unfold isNum;rw[num_two,if_neg (by omega)];rfl
      simp[h3];rw[e] at h;exact h
     ·simp[h3]
      sleep 1
      refine⟨i,j,rfl,?_⟩
      refine eq_int false ?_
      have e:isNum (.tup [.int i,.int j])=(((Int.gcd i j:Nat):Int)==1):=by
       unfold isNum;rw[num_two]
       by_cases hg:Int.gcd i j=1
       ·rw[if_pos ⟨by omega,hg⟩,hg];rfl
       ·rw[if_neg (by omega)]
        have:((Int.gcd i j:Nat):Int)≠1:=by omega
        simp[this]
      rw[e] at h;exact h
    ·simp[h2]
     have e:=isNum_not (a:=.int i) (b:=b) (.inr fun j z=>h2 (by subst z;cases htb;rfl))
     rw[e] at h;exact h
   ·simp[h1]
    have e:=isNum_not (a:=a) (b:=b) (.inl fun j z=>h1 (by subst z;cases hta;rfl))
    rw[e] at h;exact h
  ·have e:isNum (.tup xs)=false:=by
    unfold isNum num?;split
    ·rename_i z;cases z;simp at hl
    ·rfl
   rw[e] at h
   unfold C_6
   rw[rSs_cons]
   simp[0,gdTup,revOp,bMul,bAdd,sOp,fTuple,fList,fIsi,itSeq,and_assoc,sizeLine_eq,rSs_nil,fLen,tyD,isiT]
   refine eq_int true ?_
   have:¬ ((xs.length:Int)=2):=by omega
   simp[this];exact h
 ·have hn:∀ ds,d≠.tup ds:=fun ds z=>hd ⟨ds,z⟩
  have e:isNum d=false:=by
   unfold isNum num?;split
   ·exact absurd rfl (hn _)
   ·rfl
  rw[e] at h
  unfold C_6
  rw[rSs_cons]
  simp[0,gdTup,revOp,bMul,bAdd,sOp,fTuple,fList,fIsi,itSeq,and_assoc,sizeLine_eq,rSs_nil,ht,tyD_nt hn ht]
  exact h
end K
end
noncomputable section
namespace K
open PySem DL Q
structure EqEnc {α:Type} [DecidableEq α] (e:α->DL.D) (k:Nat):Prop where
 ex:∃ e':α->PyData,(∀ M a,Py M (e a) (e' a))/\(∀ a b,PyData.eqv (e' a) (e' b)=decide (a=b))/\∀ a,(e' a).depth<=k
set_option tactic.hygienic false
theorem EqEnc.eq {α:Type} [DecidableEq α] {e:α->DL.D} {k:Nat} (h:EqEnc e k) (hk:k<=60) {M:Mem} {Q:DK} {a b:α} (neg:Bool) (q:Q (.bl (if neg then !decide (a=b) else decide (a=b))) M):cEq neg (e a) (e b) M Q:=by
 obtain⟨e',h1,h2,h3⟩:=h.ex
 refine cEq_of (h1 M a) (h1 M b) ?_ (by rw[h2];exact q)
 have:=h3 a;omega
theorem enc_nm:EqEnc nm 3:=by
 refine⟨fun q=>.tuple [.int q.num,.int q.den],fun M q=>.tup (.cons (.int _) (.cons (.int _) .nil)),fun p q=>?_,fun q=>by simp[PyData.depth,PyData.depthAll]⟩
 simp only[PyData.eqv,PyData.eqvAll]
 by_cases h:p=q
 ·subst h;simp
 ·have:¬ (p.num=q.num/\(p.den:Int)=q.den):=fun ⟨a,b⟩=>h (Rat.ext a (by omega))
  simp only[h,decide_false]
  rw[Bool.eq_false_iff]
  intro z
  simp at z
  exact this ⟨z.1,by omega⟩
theorem depth_all {k:Nat}:∀ {l:List PyData},(∀ x∈l,x.depth<=k)->PyData.depthAll l<=k
 | [],_=>by simp[PyData.depthAll]
 | x::r,h=>by
  have a:=h x List.mem_cons_self
  have b:=depth_all fun y hy=>h y (List.mem_cons_of_mem _ hy)
  simp only[PyData.depthAll];omega
theorem pys_of {α:Type} {e:α->DL.D} {e':α->PyData} {M:Mem} (h:∀ a,Py M (e a) (e' a)):∀ l:List α,Pys M (l.map e) (l.map e')
 | []=>.nil
 | a::r=>.cons (h a) (pys_of h r)
theorem eqv_all {α:Type} [DecidableEq α] {e':α->PyData} (h:∀ a b,PyData.eqv (e' a) (e' b)=decide (a=b)):∀ l m:List α,PyData.eqvAll (l.map e') (m.map e')=decide (l=m)
 | [],[]=>by simp[PyData.eqvAll]
 | [],_::_=>by simp[PyData.eqvAll]
 | _::_,[]=>by simp[PyData.eqvAll]
 | a::l,b::m=>by
  simp only[List.map_cons,PyData.eqvAll,h,eqv_all h l m,List.cons.injEq]
  by_cases h1:a=b<;>by_cases h2:l=m<;>simp[h1,h2]
theorem EqEnc.tup {α:Type} [DecidableEq α] {e:α->DL.D} {k:Nat} (h:EqEnc e k):EqEnc (fun l:List α=>.tup (l.map e)) (k+1):=by
 obtain⟨e',h1,h2,h3⟩:=h.ex
 refine⟨fun l=>.tuple (l.map e'),fun M l=>.tup (pys_of (h1 M) l),fun a b=>by simp only[PyData.eqv];exact eqv_all h2 a b,fun l=>?_⟩
 simp only[PyData.depth]
 have:=depth_all (k:=k) (l:=l.map e') (by simp;exact fun a _=>h3 a)
 omega
noncomputable def rw (r:List Rat):DL.D:=.tup (r.map nm)
noncomputable def pl (p:Rat×Rat):DL.D:=.tup [nm p.1,nm p.2]
noncomputable def tb (t:List (Rat×Rat)):DL.D:=.tup (t.map pl)
theorem ite_f {a b:Prop} (h:b):if false=true then a else b:=h
end K
end
noncomputable section
namespace K
open PySem DL Q
theorem at_last {α:Type} {xs:List α} (h:xs≠[]):L2.atI xs (-1)=some (xs.getLast h):=by
 unfold L2.atI L2.ixN
 have:=List.length_pos_iff.mpr h
 rw[if_neg (by omega),if_pos (by omega)]
 have e:(-1+(xs.length:Int)).toNat=xs.length-1:=by omega
 rw[e]
 simp[List.getLast_eq_getElem]
noncomputable def lo (t:List (Rat×Rat)) (i:Nat):Rat:=(t.getD i (0,0)).1
noncomputable def hi (t:List (Rat×Rat)) (i:Nat):Rat:=(t.getD i (0,0)).2
theorem tix {xs:List DL.D} {i:Int} {v:DL.D} {M:Mem} {Q:DK} (e:L2.atI xs i=some v) (q:Q v M):iOp (.tup xs) (.int i) M Q:=⟨v,e,q⟩
theorem pl0 {p:Rat×Rat} {M:Mem} {Q:DK} (q:Q (nm p.1) M):iOp (pl p) (.int 0) M Q:=⟨_,at_zero _ _,q⟩
theorem pl1 {p:Rat×Rat} {M:Mem} {Q:DK} (q:Q (nm p.2) M):iOp (pl p) (.int 1) M Q:=⟨_,at_one _ _ _,q⟩
end K
end
noncomputable section
namespace K
open PySem DL Q
noncomputable def ri (r:List Rat) (i:Nat):Rat:=r.getD i 0
end K
end
noncomputable section
namespace K
open PySem DL Q
noncomputable def Pk (M:Mem) (a:Addr):Prop:=∃ v:Int,M a=some (.ls [.int v])
structure Dr (a:Addr) (M M':Mem):Prop where
 pk:Pk M' a
 keep:∀ b o,b≠a->M b=some o->M' b=some o
theorem Dr.take {a:Addr} {M:Mem} {v:Int}:Dr a M (M.upd a (.ls [.int v])):=⟨⟨v,mupd_same⟩,fun b o h e=>by rw[mupd_ne h];exact e⟩
theorem Pk.ext {a:Addr} {M M':Mem} (p:Pk M a) (e:MExt M M'):Pk M' a:=by obtain⟨v,h⟩:=p;exact⟨v,e _ _ h⟩
theorem Dr.ext {a:Addr} {M M':Mem} (p:Pk M a) (e:MExt M M'):Dr a M M':=⟨p.ext e,fun b o _ h=>e b o h⟩
theorem Dr.trans {a:Addr} {M M1 M2:Mem} (x:Dr a M M1) (y:Dr a M1 M2):Dr a M M2:=⟨y.pk,fun b o h e=>y.keep b o h (x.keep b o h e)⟩
theorem Pk.ne {a p:Addr} {M:Mem} (k:Pk M a) (h:M p=none):p≠a:=fun z=>by obtain⟨v,e⟩:=k;rw[z,e] at h;cases h
theorem Dr.upd_new {a p:Addr} {M M':Mem} {o:MO} (x:Dr a M M') (h:M p=none) (hp:p≠a):Dr a M (M'.upd p o):=by
 obtain⟨v,e⟩:=x.pk
 refine⟨⟨v,by rw[mupd_ne hp.symm];exact e⟩,fun b u hb e'=>?_⟩
 have:b≠p:=fun z=>by rw[z,h] at e';cases e'
 rw[mupd_ne this];exact x.keep b u hb e'
theorem lt8000 {n:Nat} (h:n<2 ^ 200):n<2 ^ 8000:=Nat.lt_of_lt_of_le h (pow_le (by decide))
theorem take_ok {a:Addr} {n:Int} {M:Mem} {Q E:DK} (p:Pk M a) (hn:0<n) (hn2:n.natAbs<2 ^ 200) (q:∀ (r:Int) M',0<=r->r<n->Dr a M M'->Q (.int r) M'):S_22 [.lst a,.int n] M Q E:=by
 obtain⟨v,h⟩:=p
 exact⟨a,n,v,rfl,h,hn,lt8000 hn2,fun r v' h0 h1=>q r _ h0 h1 .take⟩
structure Box (t:List (Rat×Rat)) (k:Nat):Prop where
 ok:∀ p∈t,p.1<=p.2
 lo:∀ p∈t,Sz k p.1
 hi:∀ p∈t,Sz k p.2
noncomputable def LT (M:Mem) (a p:Addr) (m w:Int) (i:Nat) (δ:DSt) (M':Mem):Prop :=
 ∃ (z:Int) (t:List (Rat×Rat)) (w5:Option DL.D),Dr a M M'/\M' p=some (.ls (t.map pl))/\t.length=i/\z.natAbs<=3*i/\Box t 24/\δ=[some (.lst a),some (.int m),some (.int w),some (nm (z:Rat)),some (.lst p),w5]
end K
end
noncomputable section
namespace K
open PySem DL Q
end K
end
noncomputable section
namespace K
open PySem DL Q
theorem rng_small (n:Nat) (h:n<=100):Builtin.Range.small 0 (n:Int) 2=true/\0<=Builtin.Range.rangeSize 0 (n:Int) 2/\rngN 0 (n:Int) 2<=n:=by
 have key:∀ m:_root_.Fin 101,Builtin.Range.small 0 ((m.val:Nat):Int) 2=true/\0<=Builtin.Range.rangeSize 0 ((m.val:Nat):Int) 2/\rngN 0 ((m.val:Nat):Int) 2<=m.val:=by decide +kernel
 exact key ⟨n,by omega⟩
theorem law_top (c:Int) (n:Nat) (h1:1<=c) (h2:c<=100):∃ z:Nat,z<=100/\(z:Int)<=c/\(if (1:Int)<(if c<(n:Int) then c else (n:Int)) then (if c<(n:Int) then c else (n:Int)) else 1)=(z:Int):=by
 by_cases a:c<(n:Int)
 ·rw[if_pos a]
  by_cases b:1<c
  ·rw[if_pos b];exact⟨c.toNat,by omega,by omega,by omega⟩
  ·rw[if_neg b];exact⟨1,by omega,by omega,by omega⟩
 ·rw[if_neg a]
  by_cases b:(1:Int)<n
  ·rw[if_pos b];exact⟨n,by omega,by omega,rfl⟩
  ·rw[if_neg b];exact⟨1,by omega,by omega,by omega⟩
end K
end
noncomputable section
namespace K
open PySem DL Q
structure Kp (M M':Mem):Prop where
 ls:∀ b xs,M b=some (.ls xs)->∃ ys,M' b=some (.ls ys)
 dk:∀ b xs,M b=some (.dk xs)->∃ ys,M' b=some (.dk ys)
mutual
theorem Gd.kp {M M':Mem} (e:Kp M M'):∀ d,Gd M d->Gd M' d
 | .tup xs,h=>by unfold Gd at h ⊢;exact Gds.kp e xs h
 | .lst a,h=>by unfold Gd at h ⊢;obtain⟨xs,q⟩:=h;exact e.ls _ _ q
 | .dct a,h=>by unfold Gd at h ⊢;obtain⟨xs,q⟩:=h;exact e.dk _ _ q
 | .int i,h=>by unfold Gd at h ⊢;exact h
 | .non,_=>by unfold Gd;trivial
 | .bl _,_=>by unfold Gd;trivial
 | .str _,_=>by unfold Gd;trivial
 | .fz _,_=>by unfold Gd;trivial
 | .ty _,h=>by unfold Gd at h;exact h.elim
 | .ref _,h=>by unfold Gd at h;exact h.elim
 | .exc _ _,h=>by unfold Gd at h;exact h.elim
 | .cls _,h=>by unfold Gd at h;exact h.elim
theorem Gds.kp {M M':Mem} (e:Kp M M'):∀ ds,Gds M ds->Gds M' ds
 | [],_=>by unfold Gds;trivial
 | d::r,h=>by unfold Gds at h ⊢;exact⟨Gd.kp e d h.1,Gds.kp e r h.2⟩
end
theorem gi {M:Mem} {i:Int} (h:i.natAbs<2 ^ 3000):Gd M (.int i):=by unfold Gd;exact h
theorem gl {M:Mem} {p:Addr} {xs:List DL.D} (h:M p=some (.ls xs)):Gd M (.lst p):=by unfold Gd;exact⟨_,h⟩
theorem gs {M:Mem} {x:Str}:Gd M (.str x):=by unfold Gd;trivial
theorem gt0 {M:Mem}:Gd M (.tup []):=.mk nofun
theorem gtc {M:Mem} {d:DL.D} {r:List DL.D} (h:Gd M d) (hr:Gd M (.tup r)):Gd M (.tup (d::r)):=.mk fun e he=>by
 rcases List.mem_cons.mp he with rfl|he
 ·exact h
 ·exact hr.tup e he
theorem gnm {M:Mem} {q:Rat} {k:Nat} (h:Sz k q) (hk:k<=3000:=by decide):Gd M (nm q):=.nm h hk
end K
end
noncomputable section
namespace K
open PySem DL Q
end K
end
noncomputable section
namespace K
open PySem DL Q
section
variable {M:Mem} {Q:DK} {r s:List Rat} {t u:List (Rat×Rat)} {p:Rat×Rat} {q:Rat} {xs ys:List DL.D} {lo hi:Option Int} {i j k:Int} {a b:Addr} {d:DL.D}
@[simp] theorem l_tup1:D.tup [nm q]=rw [q]:=rfl
@[simp] theorem l_tupp {x y:Rat}:D.tup [nm x,nm y]=pl (x,y):=rfl
@[simp] theorem l_tub1:D.tup [pl p]=tb [p]:=rfl
@[simp] theorem l_put:D.tup (r.map nm++nm q::s.map nm)=rw (r++q::s):=by unfold rw;simp
@[simp] theorem l_putB:D.tup (t.map pl++pl p::u.map pl)=tb (t++p::u):=by unfold tb;simp
@[simp] theorem l_addI:bAdd (.int i) (.int j) M Q=Q (.int (i+j)) M:=rfl
@[simp] theorem l_addT:bAdd (.tup xs) (.tup ys) M Q=(xs.length+ys.length<=sizeLine/\Q (.tup (xs++ys)) M):=rfl
@[simp] theorem l_addL:bAdd (.lst a) (.lst b) M Q=(∃ xs ys,M a=some (.ls xs)/\M b=some (.ls ys)/\xs.length+ys.length<=sizeLine/\DL.alloc M (.ls (xs++ys)) fun p M'=>Q (.lst p) M'):=rfl
@[simp] theorem l_addR:bAdd (rw r) (rw s) M Q=(r.length+s.length<=sizeLine/\Q (rw (r++s)) M):=by
 show ((r.map nm).length+(s.map nm).length<=sizeLine/\Q (.tup (r.map nm++s.map nm)) M)=_
 rw[List.length_map,List.length_map,<- List.map_append];rfl
@[simp] theorem l_addB:bAdd (tb t) (tb u) M Q=(t.length+u.length<=sizeLine/\Q (tb (t++u)) M):=by
 show ((t.map pl).length+(u.map pl).length<=sizeLine/\Q (.tup (t.map pl++u.map pl)) M)=_
 rw[List.length_map,List.length_map,<- List.map_append];rfl
@[simp] theorem l_addRT:bAdd (rw r) (.tup ys) M Q=(r.length+ys.length<=sizeLine/\Q (.tup (r.map nm++ys)) M):=by
 show ((r.map nm).length+ys.length<=sizeLine/\Q (.tup (r.map nm++ys)) M)=_
 rw[List.length_map]
@[simp] theorem l_addTR:bAdd (.tup ys) (rw r) M Q=(ys.length+r.length<=sizeLine/\Q (.tup (ys++r.map nm)) M):=by
 show (ys.length+(r.map nm).length<=sizeLine/\Q (.tup (ys++r.map nm)) M)=_
 rw[List.length_map]
@[simp] theorem l_addBT:bAdd (tb t) (.tup ys) M Q=(t.length+ys.length<=sizeLine/\Q (.tup (t.map pl++ys)) M):=by
 show ((t.map pl).length+ys.length<=sizeLine/\Q (.tup (t.map pl++ys)) M)=_
 rw[List.length_map]
@[simp] theorem l_addTB:bAdd (.tup ys) (tb t) M Q=(ys.length+t.length<=sizeLine/\Q (.tup (ys++t.map pl)) M):=by
 show (ys.length+(t.map pl).length<=sizeLine/\Q (.tup (ys++t.map pl)) M)=_
 rw[List.length_map]
@[simp] theorem l_mulI:bMul (.int i) (.int j) M Q=(IntMulOk i j/\Q (.int (i*j)) M):=rfl
@[simp] theorem l_mulT:bMul (.tup xs) (.int k) M Q=(0<=k/\k<1000000/\xs.length*k.toNat<=sizeLine/\Q (.tup (List.replicate k.toNat xs).flatten) M):=rfl
@[simp] theorem l_mulL:bMul (.lst a) (.int k) M Q=(∃ xs,M a=some (.ls xs)/\0<=k/\k<1000000/\xs.length*k.toNat<=sizeLine/\DL.alloc M (.ls (List.replicate k.toNat xs).flatten) fun p M'=>Q (.lst p) M'):=rfl
theorem map_flat {α β:Type} (f:α->β) (n:Nat) (r:List α):(List.replicate n (r.map f)).flatten=((List.replicate n r).flatten).map f:=by
 induction n with
 | zero=>rfl
 | succ n ih=>rw [List.replicate_succ,List.replicate_succ,List.flatten_cons,List.flatten_cons,ih,List.map_append]
@[simp] theorem l_mulR:bMul (rw r) (.int k) M Q=(0<=k/\k<1000000/\r.length*k.toNat<=sizeLine/\Q (rw (List.replicate k.toNat r).flatten) M):=by
 show (0<=k/\k<1000000/\(r.map nm).length*k.toNat<=sizeLine/\Q (.tup (List.replicate k.toNat (r.map nm)).flatten) M)=_
 rw[List.length_map,map_flat];rfl
@[simp] theorem l_mulB:bMul (tb t) (.int k) M Q=(0<=k/\k<1000000/\t.length*k.toNat<=sizeLine/\Q (tb (List.replicate k.toNat t).flatten) M):=by
 show (0<=k/\k<1000000/\(t.map pl).length*k.toNat<=sizeLine/\Q (.tup (List.replicate k.toNat (t.map pl)).flatten) M)=_
 rw[List.length_map,map_flat];rfl
theorem cut_map {α β:Type} (f:α->β) (xs:List α) (lo hi:Option Int):cutG (xs.map f) lo hi=(cutG xs lo hi).map f:=by
 unfold cutG;simp[List.map_take,List.map_drop]
@[simp] theorem l_slF:sOp (.fz xs) lo hi M Q=DL.alloc M (.ls (cutG xs lo hi)) fun p M'=>Q (.lst p) M':=rfl
@[simp] theorem l_slL:sOp (.lst a) lo hi M Q=(∃ xs,M a=some (.ls xs)/\DL.alloc M (.ls (cutG xs lo hi)) fun p M'=>Q (.lst p) M'):=rfl
@[simp] theorem l_slT:sOp (.tup xs) lo hi M Q=Q (.tup (cutG xs lo hi)) M:=rfl
@[simp] theorem l_slR:sOp (rw r) lo hi M Q=Q (rw (cutG r lo hi)) M:=by
 show Q (.tup (cutG (r.map nm) lo hi)) M=_
 rw[cut_map];rfl
@[simp] theorem l_slB:sOp (tb t) lo hi M Q=Q (tb (cutG t lo hi)) M:=by
 show Q (.tup (cutG (t.map pl) lo hi)) M=_
 rw[cut_map];rfl
@[simp] theorem l_reT:revOp (.tup xs) (some (-1)) M Q=Q (.tup xs.reverse) M:=by unfold revOp;simp
@[simp] theorem l_reR:revOp (rw r) (some (-1)) M Q=Q (rw r.reverse) M:=by
 unfold revOp;rw[show rw r=.tup (r.map nm) from rfl];simp[rw]
@[simp] theorem l_reB:revOp (tb t) (some (-1)) M Q=Q (tb t.reverse) M:=by
 unfold revOp;rw[show tb t=.tup (t.map pl) from rfl];simp[tb]
@[simp] theorem l_lenT:fLen [.tup xs] M Q=Q (.int xs.length) M:=rfl
@[simp] theorem l_lenF:fLen [.fz xs] M Q=Q (.int xs.length) M:=rfl
@[simp] theorem l_lenL:fLen [.lst a] M Q=(∃ xs,M a=some (.ls xs)/\Q (.int xs.length) M):=rfl
@[simp] theorem l_lenR:fLen [rw r] M Q=Q (.int r.length) M:=by
 show Q (.int (r.map nm).length) M=_
 rw[List.length_map]
@[simp] theorem l_lenB:fLen [tb t] M Q=Q (.int t.length) M:=by
 show Q (.int (t.map pl).length) M=_
 rw[List.length_map]
@[simp] theorem l_tuT:fTuple [.tup xs] M Q=Q (.tup xs) M:=rfl
@[simp] theorem l_tuF:fTuple [.fz xs] M Q=Q (.tup xs) M:=rfl
@[simp] theorem l_tuL:fTuple [.lst a] M Q=(∃ xs,M a=some (.ls xs)/\Q (.tup xs) M):=rfl
@[simp] theorem l_tuR:fTuple [rw r] M Q=Q (rw r) M:=rfl
@[simp] theorem l_tuB:fTuple [tb t] M Q=Q (tb t) M:=rfl
@[simp] theorem l_liT:fList [.tup xs] M Q=DL.alloc M (.ls xs) fun p M'=>Q (.lst p) M':=rfl
@[simp] theorem l_liF:fList [.fz xs] M Q=DL.alloc M (.ls xs) fun p M'=>Q (.lst p) M':=rfl
@[simp] theorem l_liL:fList [.lst a] M Q=(∃ xs,M a=some (.ls xs)/\DL.alloc M (.ls xs) fun p M'=>Q (.lst p) M'):=rfl
@[simp] theorem l_liR:fList [rw r] M Q=DL.alloc M (.ls (r.map nm)) fun p M'=>Q (.lst p) M':=rfl
@[simp] theorem l_liB:fList [tb t] M Q=DL.alloc M (.ls (t.map pl)) fun p M'=>Q (.lst p) M':=rfl
theorem l_isT:fIsi [.tup xs,.ty "tuple"] M Q=Q (.bl true) M:=by
 unfold fIsi;simp[tyD,isiT]
@[simp] theorem l_isT':fIsi [.tup xs,.ty "tuple"] M Q=Q (.bl true) M:=l_isT
@[simp] theorem l_isN:fIsi [nm q,.ty "tuple"] M Q=Q (.bl true) M:=l_isT
@[simp] theorem l_isP:fIsi [pl p,.ty "tuple"] M Q=Q (.bl true) M:=l_isT
@[simp] theorem l_isR:fIsi [rw r,.ty "tuple"] M Q=Q (.bl true) M:=l_isT
@[simp] theorem l_isB:fIsi [tb t,.ty "tuple"] M Q=Q (.bl true) M:=l_isT
@[simp] theorem l_is0:fIsi [.non,.ty "tuple"] M Q=Q (.bl false) M:=by unfold fIsi;simp[tyD,isiT]
@[simp] theorem l_isC {n c:Str} {x:DL.D}:fIsi [.exc n x,.cls c] M Q=Q (.bl (isSub n c)) M:=by unfold fIsi;simp
@[simp] theorem l_isC0 {c:Str}:fIsi [.non,.cls c] M Q=Q (.bl false) M:=rfl
@[simp] theorem l_isV {n:Str} {x:DL.D}:fIsi [.exc n x,.ty "ValueError"] M Q=Q (.bl true) M:=by unfold fIsi;simp[tyD,isiT]
@[simp] theorem l_ix0:iOp (nm q) (.int 0) M Q=Q (.int q.num) M:=by
 refine propext ⟨fun h=>?_,fun h=>ix0 h⟩
 obtain⟨v,e,h⟩:=h
 rw[at_zero] at e;cases e;exact h
@[simp] theorem l_ix1:iOp (nm q) (.int 1) M Q=Q (.int q.den) M:=by
 refine propext ⟨fun h=>?_,fun h=>ix1 h⟩
 obtain⟨v,e,h⟩:=h
 rw[at_one] at e;cases e;exact h
@[simp] theorem l_px0:iOp (pl p) (.int 0) M Q=Q (nm p.1) M:=by
 refine propext ⟨fun h=>?_,fun h=>pl0 h⟩
 obtain⟨v,e,h⟩:=h
 rw[at_zero] at e;cases e;exact h
@[simp] theorem l_px1:iOp (pl p) (.int 1) M Q=Q (nm p.2) M:=by
 refine propext ⟨fun h=>?_,fun h=>pl1 h⟩
 obtain⟨v,e,h⟩:=h
 rw[at_one] at e;cases e;exact h
@[simp] theorem l_gtT {n:Nat} {g:DGs} {δ:DSt} {Q:DSt->Mem->Prop}:gdTup n g (.tup xs) δ M Q=(xs.length=n/\g xs δ M Q):=by
 unfold gdTup;simp
@[simp] theorem l_gtP {g:DGs} {δ:DSt} {Q:DSt->Mem->Prop}:gdTup 2 g (pl p) δ M Q=g [nm p.1,nm p.2] δ M Q:=by
 refine propext ⟨fun h=>?_,fun h=>⟨_,rfl,rfl,h⟩⟩
 obtain⟨ds,e,_,h⟩:=h
 cases e;exact h
@[simp] theorem l_gtN {g:DGs} {δ:DSt} {Q:DSt->Mem->Prop}:gdTup 2 g (nm q) δ M Q=g [.int q.num,.int q.den] δ M Q:=by
 refine propext ⟨fun h=>?_,fun h=>⟨_,rfl,rfl,h⟩⟩
 obtain⟨ds,e,_,h⟩:=h
 cases e;exact h
@[simp] theorem l_itT {R:List DL.D->(Mem->Prop)->Mem->Prop}:itSeq (.tup xs) M R=R xs (fun _=>True) M:=rfl
@[simp] theorem l_itF {R:List DL.D->(Mem->Prop)->Mem->Prop}:itSeq (.fz xs) M R=R xs (fun _=>True) M:=rfl
@[simp] theorem l_itL {R:List DL.D->(Mem->Prop)->Mem->Prop}:itSeq (.lst a) M R=(∃ xs,M a=some (.ls xs)/\R xs (fun M'=>M' a=some (.ls xs)) M):=rfl
@[simp] theorem l_itR {R:List DL.D->(Mem->Prop)->Mem->Prop}:itSeq (rw r) M R=R (r.map nm) (fun _=>True) M:=rfl
@[simp] theorem l_itB {R:List DL.D->(Mem->Prop)->Mem->Prop}:itSeq (tb t) M R=R (t.map pl) (fun _=>True) M:=rfl
@[simp] theorem l_izR {R:List DL.D->(Mem->Prop)->Mem->Prop}:itZip [rw r,rw s] M R=R ((List.zip r s).map fun z=>pl z) (fun _=>True) M:=by
 show R (zipD (r.map nm) (s.map nm)) _ _=_
 unfold zipD
 rw[List.zipWith_map,List.zip,List.map_zipWith];rfl
@[simp] theorem l_izB {R:List DL.D->(Mem->Prop)->Mem->Prop}:itZip [tb t,rw s] M R=R ((List.zip t s).map fun z=>.tup [pl z.1,nm z.2]) (fun _=>True) M:=by
 show R (zipD (t.map pl) (s.map nm)) _ _=_
 unfold zipD
 rw[List.zipWith_map,List.zip,List.map_zipWith]
@[simp] theorem l_izC {R:List DL.D->(Mem->Prop)->Mem->Prop}:itZip [rw s,tb t] M R=R ((List.zip s t).map fun z=>.tup [nm z.1,pl z.2]) (fun _=>True) M:=by
 show R (zipD (s.map nm) (t.map pl)) _ _=_
 unfold zipD
 rw[List.zipWith_map,List.zip,List.map_zipWith]
@[simp] theorem l_cnN {neg:Bool}:cIs neg (nm q) .non M Q=Q (.bl neg) M:=by unfold cIs nm;cases neg<;>rfl
@[simp] theorem l_cnR {neg:Bool}:cIs neg (rw r) .non M Q=Q (.bl neg) M:=by unfold cIs rw;cases neg<;>rfl
@[simp] theorem l_cnB {neg:Bool}:cIs neg (tb t) .non M Q=Q (.bl neg) M:=by unfold cIs tb;cases neg<;>rfl
@[simp] theorem l_cnX {neg:Bool} {n:Str} {x:DL.D}:cIs neg (.exc n x) .non M Q=Q (.bl neg) M:=by unfold cIs;cases neg<;>rfl
@[simp] theorem l_cn0 {neg:Bool}:cIs neg .non .non M Q=Q (.bl !neg) M:=by unfold cIs;cases neg<;>rfl
@[simp] theorem l_ctt {neg b c:Bool}:cIs neg (.bl b) (.bl c) M Q=Q (.bl (if neg then !(b==c) else b==c)) M:=by unfold cIs;cases neg<;>rfl
end
theorem nx_gen {s:CS} {rest:CSs} {D:DEnds} {δ:DSt} {M:Mem} (h:∀ J:DSt->Mem->Prop,(∀ δ' M',rSs rest D δ' M'->J δ' M')->rS s {D with nx:=J} δ M):rSs (.cons s rest) D δ M:=by
 rw[rSs_cons];exact h _ fun _ _ h=>h
theorem cut_hi {α:Type} (xs:List α) (n:Nat) (h:n<=xs.length):cutG xs none (some (n:Int))=xs.take n:=by
 unfold cutG
 rw[HT.sIx_none,HT.sIx_nat,List.drop_zero,Nat.sub_zero,Nat.min_eq_left (by omega)]
theorem cut_lo {α:Type} (xs:List α) (n:Nat) (h:n<=xs.length):cutG xs (some (n:Int)) none=xs.drop n:=by
 unfold cutG
 rw[HT.sIx_none,HT.sIx_nat,Nat.min_eq_left (by omega),List.take_of_length_le (by simp)]
end K
end
set_option bootstrap.genMatcherCode true
local macro_rules
 | `(tactic| sleep 7)=>`(tactic| ((try dsimp only);rw[rSs_cons];sleep 8))
 | `(tactic| sleep 8)=>`(tactic| ((try dsimp only[0,diZip,diSeq,dFld,dMeth,dMake,dSetF]);try simp[0,and_assoc,sizeLine_eq,rSs_nil,diZip,diSeq,dFld,dMeth,dMake,dSetF]))
 | `(tactic| sleep 9)=>`(tactic| ((try dsimp only);rw[rSs_cons];(try dsimp only[rS,rI,dFor,diRng]);sleep 8))
set_option bootstrap.genMatcherCode false
noncomputable section
namespace K
open PySem DL Q
theorem glo_of_pair {K:PySem.W.Frag} {mg:Str->Option Value} {n:Str} {a:Addr} {h:Heap} {i j:Int} {t u:Tok} {dd:Option Addr} {sl:Array (Option Value)} {m:Nat} (X:K.In h) (G:h.Ns mainGlobals mg) (e:PySem.W.nsIn K mainGlobals n=some (some (.ref a)))
  (lk:K.lookup a=some ⟨.type "tuple",dd,.seq #[.int i t,.int j u] m,sl⟩):GloE K mg n (.tup [.int i,.int j]):=by
 refine⟨.ref a,.ref a,PySem.W.mg_of X G e,rfl,fun H=>.tup (vs:=[.int i,.int j]) (.inr ⟨_,#[.int i t,.int j u],m,lk,rfl,rfl,?_,?_⟩) (.cons (.int _) (.cons (.int _) .nil))⟩
 ·rw[sizeLine_eq];show 2<=16777216;decide
 ·exact .cons ⟨_,rfl⟩ (.cons ⟨_,rfl⟩ .nil)
noncomputable abbrev G_NOUGHT:DL.D:=.tup [.int 0,.int 1]
end K
end
noncomputable section
namespace K
open PySem DL Q
noncomputable abbrev G_FIGURES:DL.D:=.str "0123456789"
noncomputable def ts (i:Int):Str:=Str.ofString (toString i)
noncomputable def dg (m:Nat):List Nat:=(Nat.toDigits 10 m).map Char.toNat
theorem dg_all (m:Nat):NumText.AllDigits (dg m):=fun c hc=>by
 obtain⟨ch,hch,e⟩:=List.mem_map.mp hc
 rw[<- e]
 exact PyProof.Rows.digit_range (Nat.isDigit_of_mem_toDigits (by decide) (by decide) hch)
theorem dg_ne (m:Nat):dg m≠[]:=fun e=>by
 have h:=PySem.W.KIN.val_back m
 have e':(Nat.toDigits 10 m).map Char.toNat=[]:=e
 have h0:m=0:=by rw[e'] at h;exact h.symm
 subst h0
 revert e
 decide
theorem ts_nat (m:Nat):(ts (m:Int)).cps.toList=dg m:=by
 unfold ts dg
 rw[PyProof.Rows.signs_ofString]
 show (Nat.repr m).toList.map Char.toNat=_
 rw[Nat.toList_repr]
theorem ts_neg (m:Nat):(ts (Int.negSucc m)).cps.toList=45::dg (m+1):=by
 unfold ts dg
 rw[PyProof.Rows.signs_ofString]
 show ("-"++Nat.repr (m+1)).toList.map Char.toNat=_
 rw[String.toList_append,List.map_append,Nat.toList_repr]
 rfl
theorem ts_signs (i:Int):∃ cs,NumText.AllDigits cs/\cs≠[]/\((ts i).cps.toList=cs\/(ts i).cps.toList=45::cs):=by
 cases i with
 | ofNat m=>exact⟨dg m,dg_all m,dg_ne m,.inl (ts_nat m)⟩
 | negSucc m=>exact⟨dg (m+1),dg_all _,dg_ne _,.inr (ts_neg m)⟩
theorem ts_free {i:Int} {c:Nat} (h:c∈(ts i).cps.toList):c=45\/(48<=c/\c<=57):=by
 obtain⟨cs,ha,_,e⟩:=ts_signs i
 rcases e with e|e<;>rw[e] at h
 ·exact .inr (ha c h)
 ·rcases List.mem_cons.mp h with rfl|h
  ·exact .inl rfl
  ·exact .inr (ha c h)
theorem ts_len {i:Int} {k:Nat} (hk:0<k) (h:i.natAbs<10 ^ k):(ts i).length<=k+1:=by
 unfold ts
 rw[ofString_length]
 exact int_text_length_le10 hk h
theorem ts_int {i:Int} (h:(ts i).length<=640):intText? (ts i)=some i:=by
 cases i with
 | ofNat m =>
  have e:=intText_digits (x:=ts (m:Int)) (by rw[ts_nat];exact dg_all m) (by rw[ts_nat];exact dg_ne m) (Nat.le_trans h (by decide))
  rw[ts_nat] at e
  rw[show NumText.digitsVal (dg m)=m from PySem.W.KIN.val_back m] at e
  exact e
 | negSucc m =>
  have e:=intText_neg (x:=ts (Int.negSucc m)) (ts_neg m) (dg_all _) (dg_ne _) (Nat.le_trans h (by decide))
  rw[show NumText.digitsVal (dg (m+1))=m+1 from PySem.W.KIN.val_back (m+1)] at e
  rw[e];rfl
theorem str_ext {x y:Str} (h:x.cps.toList=y.cps.toList):x=y:=by
 cases x;cases y
 simp at h
 simp[h]
theorem str_app (x y:Str):(x++y).cps.toList=x.cps.toList++y.cps.toList:=by
 show (x.cps++y.cps).toList=_
 simp
theorem rem_ok (i:Int):∃ cs,NumText.AllDigits cs/\cs≠[]/\(Txt.removeprefix (ts i) "-").cps.toList=cs/\cs.length<=(ts i).length:=by
 have hm:("-":Str).cps.toList=[45]:=rfl
 have hl1:("-":Str).length=1:=rfl
 have tl:(ts i).cps.toList.length=(ts i).length:=Array.length_toList
 rw[StrLaws.removeprefix_eq,StrLaws.subAt_eq,hm,hl1]
 cases i with
 | ofNat m =>
  have e:=ts_nat m
  have ha:=dg_all m
  have hn:=dg_ne m
  change (ts (Int.ofNat m)).cps.toList=dg m at e
  rw[e]
  refine⟨dg m,ha,hn,?_,by rw[<- tl,e];exact Nat.le_refl _⟩
  rw[if_neg]
  ·exact e
  ·cases hd:dg m with
   | nil=>exact absurd hd hn
   | cons c r =>
    have:=ha c (by rw[hd];exact List.mem_cons_self)
    simp
    intro _ h
    omega
 | negSucc m =>
  have e:=ts_neg m
  rw[e] at tl ⊢
  have tl':(dg (m+1)).length+1=(ts (Int.negSucc m)).length:=by simpa using tl
  refine⟨dg (m+1),dg_all _,dg_ne _,?_,by omega⟩
  rw[if_pos (by simp;omega)]
  simp
  rw[<- tl']
  simp
theorem part_none {x:Str} (h:47 ∉ x.cps.toList):Txt.partition x "/"=(x,Str.empty,Str.empty):=by
 have e:Builtin.Str.occurrences x "/" 0 x.length 1=[]:=by
  rw[List.eq_nil_iff_forall_not_mem]
  intro i hi
  obtain⟨h1,h2⟩:=StrLaws.occ_spec x "/" 0 x.length 1 i hi
  rw[StrLaws.subAt_eq,show ("/":Str).cps.toList=[47] from rfl] at h2
  have:47∈(x.cps.toList.drop i).take ("/":Str).length:=by rw[eq_of_beq h2];simp
  exact h (List.mem_of_mem_drop (List.mem_of_mem_take this))
 unfold Txt.partition
 rw[e]
theorem part_some {a c:Str} (h:47 ∉ a.cps.toList):Txt.partition (a++"/"++c) "/"=(a,("/":Str),c):=by
 have ex:(a++"/"++c).cps.toList=a.cps.toList++47::c.cps.toList:=by
  rw[str_app,str_app,show ("/":Str).cps.toList=[47] from rfl];simp
 have al:a.cps.toList.length=a.length:=Array.length_toList
 have xl:(a++"/"++c).length=a.length+1+c.length:=by rw[strLen_append,strLen_append];rfl
 have at_:StrLaws.At (a++"/"++c) "/" (a++"/"++c).length a.length:=by
  refine⟨by rw[xl];show a.length+1<=_;omega,?_⟩
  rw[StrLaws.subAt_eq,ex,show ("/":Str).length=1 from rfl,show ("/":Str).cps.toList=[47] from rfl,List.drop_append_of_le_length (by omega),<- al,List.drop_length]
  simp
 have hd:=PyProof.Rows.partition_head (a++"/"++c) "/"
 have sm:=StrLaws.partition_sum (a++"/"++c) "/"
 rcases hd with ⟨_,hn⟩|⟨i,e1,ha,hf⟩
 ·exact absurd at_ (hn _)
 ·have i1:i=a.length:=by
   rcases Nat.lt_trichotomy i a.length with hlt|heq|hgt
   ·exfalso
    have h2:=ha.2
    rw[StrLaws.subAt_eq,ex,show ("/":Str).length=1 from rfl,show ("/":Str).cps.toList=[47] from rfl,List.drop_append_of_le_length (by omega)] at h2
    have h3:=eq_of_beq h2
    have hi:i<a.cps.toList.length:=by omega
    rw[List.drop_eq_getElem_cons hi] at h3
    simp at h3
    exact h (by rw[<- h3];simp)
   ·exact heq
   ·exact absurd at_ (hf _ hgt)
  subst i1
  have e0:(Txt.partition (a++"/"++c) "/").1=a:=by
   rw[e1]
   refine str_ext ?_
   rw[StrLaws.strSub_toList,ex]
   simp[al]
  have e2:(Txt.partition (a++"/"++c) "/").2.1="/":=by
   unfold Txt.partition
   cases ho:Builtin.Str.occurrences (a++"/"++c) "/" 0 (a++"/"++c).length 1 with
   | nil =>
    exfalso
    have:(Txt.partition (a++"/"++c) "/").1=a++"/"++c:=by unfold Txt.partition;rw[ho]
    rw[e0] at this
    have:=congrArg Str.length this
    rw[xl] at this
    omega
   | cons _ _=>rfl
  have e3:(Txt.partition (a++"/"++c) "/").2.2=c:=by
   rw[e0,e2] at sm
   refine str_ext ?_
   have:=congrArg (fun z=>z.cps.toList) sm
   simp only[str_app] at this
   exact List.append_cancel_left this
  generalize Txt.partition (a++"/"++c) "/"=p at e0 e2 e3
  obtain⟨p1,p2,p3⟩:=p
  simp only at e0 e2 e3
  rw[e0,e2,e3]
noncomputable def nText (q:Rat):Str:=if q.den=1 then ts q.num else ts q.num++"/"++ts q.den
theorem sz_text {q:Rat} (h:Sz 200 q):(ts q.num).length<=62/\(ts q.den).length<=62/\q.num.natAbs.log2<1920/\q.den.log2<1920:=by
 have e:(2:Nat) ^ 200<10 ^ 61:=by decide +kernel
 have lg:∀ n:Nat,n<2 ^ 200->n.log2<1920:=fun n hn=>by
  by_cases h0:n=0
  ·subst h0;decide
  ·exact Nat.lt_of_lt_of_le ((Nat.log2_lt h0).mpr hn) (by decide)
 refine⟨ts_len (by decide) (by have:=h.1;omega),ts_len (by decide) (by have:=h.2;simp;omega),lg _ h.1,lg _ h.2⟩
noncomputable def S_10:DSp:=fun ds M Q E=>∃ q:Rat,ds=[nm q]/\Sz 200 q/\Q (.str (nText q)) M
noncomputable def C_10:CSs:=.cons (.asg (.tup (.cons (.name 1) (.cons (.name 2) (.nil)))) (.var 0)) (.cons (.ret (.ife (.cmp .Eq (.var 2) (.int 1)) (.bi .str (.cons (.var 1) (.nil))) (.fstr "/" (.var 1) (.var 2)))) (.nil))
theorem vc_10:∀ ds M R E,S_10 ds M R E->rSs C_10 (ends R E) (startD 3 ds) M:=by
 rintro ds M R E ⟨q,rfl,sz,h⟩
 obtain⟨l1,l2,g1,g2⟩:=sz_text sz
 rw[show nm q=.tup [.int q.num,.int q.den] from rfl]
 unfold C_10
 sleep 7
 sleep 7
 refine eq_int false ?_
 unfold nText at h
 by_cases hd:q.den=1
 ·rw[if_pos hd] at h
  exact .inr ⟨by simp[hd],g1,h⟩
 ·rw[if_neg hd] at h
  refine .inl ⟨by simp;omega,?_⟩
  unfold dFstr
  have sl:sizeLine=16777216:=sizeLine_eq
  have e1:(Str.ofString (toString q.num)++("/":Str)).length<=100:=by rw[strLen_append];show (ts q.num).length+1<=100;omega
  have e2:(Str.ofString (toString q.num)++("/":Str)++Str.ofString (toString (q.den:Int))).length<=200:=by rw[strLen_append];show _+(ts (q.den:Int)).length<=200;omega
  exact⟨_,rfl,_,rfl,g1,by omega,_,rfl,_,rfl,by simpa using g2,by omega,h⟩
theorem str_lay {x:Str} (h:∀ c∈x.cps.toList,c<128):(PyData.str x).canLay0=true:=by
 show x.cps.all (·<0x110000)=true
 rw[Array.all_eq_true_iff_forall_mem]
 intro c hc
 have:=h c (by simpa using hc)
 simp;omega
theorem str_asc {x:Str} (h:∀ c∈x.cps.toList,c<128):x.cps.all (·<128)=true:=by
 rw[Array.all_eq_true_iff_forall_mem]
 intro c hc
 simpa using h c (by simpa using hc)
theorem eq_str {M:Mem} {Q:DK} {x y:Str} (neg:Bool) (hx:(PyData.str x).canLay0=true) (hy:(PyData.str y).canLay0=true) (q:Q (.bl (if neg then !decide (x=y) else decide (x=y))) M):cEq neg (.str x) (.str y) M Q:=by
 refine⟨_,_,.str x hx,.str y hy,by simp[PyData.depth],?_⟩
 have e:PyData.eqv (.str x) (.str y)=decide (x=y):=by
  simp only[PyData.eqv]
  rw[Bool.eq_iff_iff,beq_iff_eq,decide_eq_true_iff]
 rw[e];exact q
end K
end
noncomputable section
namespace K
open PySem DL Q
noncomputable def Asc (x:Str):Prop:=∀ c∈x.cps.toList,c<128
theorem len_cps (x:Str):x.cps.toList.length=x.length:=Array.length_toList
theorem cut_uniq {c:Nat}:∀ {a a' b b':List Nat},c ∉ a->c ∉ a'->a++c::b=a'++c::b'->a=a'/\b=b'
 | [],[],b,b',_,_,e=>by simpa using e
 | [],y::a',b,b',_,h,e=>by
  simp at e
  exact absurd (by rw[e.1];simp) h
 | x::a,[],b,b',h,_,e=>by
  simp at e
  exact absurd (by rw[e.1];simp) h
 | x::a,y::a',b,b',h,h',e=>by
  simp at e
  obtain⟨rfl,e⟩:=e
  have:=cut_uniq (fun z=>h (List.mem_cons_of_mem _ z)) (fun z=>h' (List.mem_cons_of_mem _ z)) e
  exact⟨by rw[this.1],this.2⟩
structure Two (x top bot:Str):Prop where
 is:(47 ∉ x.cps.toList/\top=x/\bot="1")\/(47 ∉ top.cps.toList/\x=top++"/"++bot)
theorem ts_no {i:Int}:47 ∉ (ts i).cps.toList:=fun hm=>by have:=ts_free hm;omega
theorem sl_cps (a b:Str):(a++"/"++b).cps.toList=a.cps.toList++47::b.cps.toList:=by
 rw[str_app,str_app,show ("/":Str).cps.toList=[47] from rfl];simp
theorem Two.num {top bot:Str} {q:Rat} (h:Two (nText q) top bot):top=ts q.num/\bot=ts q.den:=by
 obtain⟨h⟩:=h
 by_cases hd:q.den=1
 ·have e:nText q=ts q.num:=by unfold nText;rw[if_pos hd]
  rw[e] at h
  rcases h with ⟨_,h1,h2⟩|⟨_,h2⟩
  ·exact⟨h1,by rw[h2,hd];rfl⟩
  ·exfalso
   have:=congrArg (fun z=>z.cps.toList) h2
   simp only[sl_cps] at this
   exact ts_no (i:=q.num) (by rw[this];simp)
 ·have e:nText q=ts q.num++"/"++ts q.den:=by unfold nText;rw[if_neg hd]
  rw[e] at h
  rcases h with ⟨h1,_⟩|⟨h1,h2⟩
  ·exact absurd (by rw[sl_cps];simp) h1
  ·have:=congrArg (fun z=>z.cps.toList) h2
   simp only[sl_cps] at this
   have:=cut_uniq ts_no h1 this
   exact⟨(str_ext this.1).symm,(str_ext this.2).symm⟩
theorem part_any (x:Str):(47 ∉ x.cps.toList/\Txt.partition x "/"=(x,Str.empty,Str.empty))\/∃ a c:Str,47 ∉ a.cps.toList/\x=a++"/"++c/\Txt.partition x "/"=(a,("/":Str),c):=by
 by_cases h:47∈x.cps.toList
 ·obtain⟨l,r,e,hl⟩:=List.eq_append_cons_of_mem h
  have ex:x=(⟨l.toArray⟩:Str)++"/"++⟨r.toArray⟩:=str_ext (by rw[sl_cps];simpa using e)
  refine .inr ⟨⟨l.toArray⟩,⟨r.toArray⟩,by simpa using hl,ex,?_⟩
  rw[ex]
  exact part_some (by simpa using hl)
 ·exact .inl ⟨h,part_none h⟩
noncomputable def figB (l:List Nat):Bool:=!l.isEmpty&&l.all fun c=>decide (48<=c/\c<=57)
theorem figB_iff {l:List Nat}:figB l=true ↔ l≠[]/\NumText.AllDigits l:=by
 unfold figB
 constructor
 ·intro h
  simp at h
  exact⟨h.1,fun c hc=>h.2 c hc⟩
 ·rintro⟨h1,h2⟩
  simp
  exact⟨h1,fun c hc=>h2 c hc⟩
noncomputable def S_11:DSp:=fun ds M Q E=>∃ x:Str,ds=[.str x]/\Asc x/\x.length<=1000/\∀ M',MExt M M'->Q (.bl (figB x.cps.toList)) M'
noncomputable def C_11:CSs:=.cons (.ret (.and (.cmp .NotEq (.var 0) (.str "")) (.one (.bi .all (.cons (.comp ["text","sign"] 1 (.name 1) (.sgn (.var 0)) (.cmp .In (.var 1) (.glo "FIGURES" G_FIGURES))) (.nil)))))) (.nil)
theorem vc_11:∀ ds M R E,S_11 ds M R E->rSs C_11 (ends R E) (startD 1 ds) M:=by
 rintro ds M R E ⟨x,rfl,sm,hl,q⟩
 unfold C_11
 sleep 7
 refine eq_str true (str_lay sm) (str_lay fun c hc=>by rw[show ("":Str).cps.toList=[] from rfl] at hc;cases hc) ?_
 by_cases ne:x=("":Str)
 ·have:=q M (.refl M)
  rw[show figB x.cps.toList=false by rw[ne];rfl] at this
  exact .inl ⟨by simp[ne],this⟩
 refine .inr ⟨by simp[ne],?_⟩
 refine comp_mapG x.cps.toList (fun c=>.str ⟨#[c]⟩) (fun c=>.bl (decide (48<=c/\c<=57))) (fun R' r'=>⟨_,rfl,x,rfl,str_asc sm,r' _ fun _ _=>trivial⟩) (by rw[Array.length_toList];exact hl) ?_ ?_
 ·intro c hc l M' R' hl' ee r'
  obtain⟨z,rfl⟩:=len1 hl'
  have fig:∀ n,n<128->(!(Builtin.Str.occurrences ("0123456789":Str) ⟨#[n]⟩ 0 ("0123456789":Str).length 1).isEmpty)=decide (48<=n/\n<=57):=by decide +kernel
  have:=fig c (sm c hc)
  sleep 8
  refine⟨_,rfl,?_⟩
  rw[if_neg (by decide),this]
  exact r' [_] M' rfl (.refl _)
 intro p M1 e1 x1 l1
 refine all_of (f:=fun c=>decide (48<=c/\c<=57)) l1 ?_
 have:=q M1 x1
 have e:figB x.cps.toList=x.cps.toList.all (fun c=>decide (48<=c/\c<=57)):=by
  unfold figB
  have:x.cps.toList.isEmpty=false:=by
   cases h:x.cps.toList with
   | nil=>exact absurd (str_ext (by rw[h];rfl)) ne
   | cons _ _=>rfl
  rw[this];rfl
 rw[e] at this
 exact this
theorem val_lt:∀ {cs:List Nat} {a k:Nat},NumText.AllDigits cs->a<10 ^ k->List.foldl (fun acc c=>acc*10+(c-48)) a cs<10 ^ (k+cs.length)
 | [],a,k,_,h=>by simpa using h
 | c::cs,a,k,hd,h=>by
  have hc:=hd c List.mem_cons_self
  have:=val_lt (cs:=cs) (a:=a*10+(c-48)) (k:=k+1) (fun d h=>hd d (List.mem_cons_of_mem _ h)) (by rw[Nat.pow_succ];omega)
  rw[List.foldl_cons,List.length_cons,show k+(cs.length+1)=k+1+cs.length by omega]
  exact this
noncomputable def unM:List Nat->List Nat
 | 45::r=>r
 | l=>l
set_option tactic.hygienic true
theorem rem_any (x:Str):(Txt.removeprefix x "-").cps.toList=unM x.cps.toList:=by
 have hm:("-":Str).cps.toList=[45]:=rfl
 have hl1:("-":Str).length=1:=rfl
 have tl:=len_cps x
 rw[StrLaws.removeprefix_eq,StrLaws.subAt_eq,hm,hl1]
 cases h:x.cps.toList with
 | nil =>
  rw[if_neg (by simp)]
  rw[h];rfl
 | cons c r =>
  rw[h] at tl
  by_cases hc:c=45
  ·subst hc
   rw[if_pos (by simp;simp at tl;omega)]
   simp[h,unM]
   simp at tl
   exact List.take_of_length_le (by omega)
  ·rw[if_neg (by simp;intro _ z;exact hc z)]
   rw[h]
   unfold unM
   split
   ·rename_i e;cases e;exact absurd rfl hc
   ·rfl
theorem int_any {x:Str} (h:figB (unM x.cps.toList)=true) (hl:x.length<=60):∃ i:Int,intText? x=some i/\i.natAbs<10 ^ 60/\(45 ∉ x.cps.toList->0<=i):=by
 obtain⟨hn,ha⟩:=figB_iff.mp h
 have tl:=len_cps x
 have p10:∀ n,n<=60->(10:Nat) ^ n<=10 ^ 60:=fun n hn=>Nat.pow_le_pow_right (by decide) hn
 cases hx:x.cps.toList with
 | nil=>rw [hx] at hn;exact absurd rfl hn
 | cons c r =>
  rw[hx] at tl
  by_cases hc:c=45
  ·subst hc
   rw[hx] at hn ha
   change r≠[] at hn
   change NumText.AllDigits r at ha
   refine⟨_,intText_neg hx ha hn (by omega),?_,fun z=>absurd (by simp) z⟩
   have:=val_lt (cs:=r) (a:=0) (k:=0) ha (by decide)
   have h2:=p10 (0+r.length) (by simp at tl;omega)
   rw[Int.natAbs_neg,Int.natAbs_natCast]
   exact Nat.lt_of_lt_of_le this h2
  ·have e:unM x.cps.toList=x.cps.toList:=by
    rw[hx]
    unfold unM
    split
    ·rename_i e;cases e;exact absurd rfl hc
    ·rfl
   rw[e] at hn ha
   refine⟨_,intText_digits ha hn (by omega),?_,fun _=>by omega⟩
   have:=val_lt (cs:=x.cps.toList) (a:=0) (k:=0) ha (by decide)
   have h2:=p10 (0+x.cps.toList.length) (by rw[hx];simp at tl ⊢;omega)
   rw[Int.natAbs_natCast]
   exact Nat.lt_of_lt_of_le this h2
set_option tactic.hygienic false
theorem fig_ts (i:Int):figB (unM (ts i).cps.toList)=true:=by
 obtain⟨cs,ca,cn,ce,_⟩:=rem_ok i
 rw[<- rem_any,ce]
 exact figB_iff.mpr ⟨cn,ca⟩
theorem fig_nat (m:Nat):figB (ts (m:Int)).cps.toList=true:=by
 rw[ts_nat]
 exact figB_iff.mpr ⟨dg_ne m,dg_all m⟩
set_option tactic.hygienic true
theorem unM_fig {l:List Nat} (h:figB l=true):unM l=l:=by
 unfold unM
 split
 ·rename_i r
  have:=(figB_iff.mp h).2 45 (by simp)
  omega
 ·rfl
structure Rd (M:Mem) (x:Str) (Q E:DK):Prop where
 yes:∀ q,x=nText q->∀ M',MExt M M'->Q (nm q) M'
 no:(∀ q,x≠nText q)->∀ M',MExt M M'->E (.exc "NoText" .non) M'
set_option tactic.hygienic false
theorem is_sT {M:Mem} {x:Str} {Q:DK} (z:Q (.bl true) M):fIsi [.str x,.ty "str"] M Q:=by unfold fIsi;simpa[tyD,isiT] using z
noncomputable def S_12:DSp:=fun ds M Q E=>∃ d:DL.D,ds=[d]/\((∃ x:Str,d=.str x/\Asc x/\x.length<=60/\Rd M x Q E)\/∃ t,tyD M d=some t/\isiT t "str"=false/\∀ M',MExt M M'->E (.exc "NoText" .non) M')
noncomputable def C_12:CSs:=.cons (.ife (.not (.bi .isinstance (.cons (.var 0) (.cons (.ty .str) (.nil))))) (.cons (.rsi "NoText" (.cons (.non) (.nil))) (.nil)) (.nil)) (.cons (.asg (.tup (.cons (.name 1) (.cons (.name 2) (.cons (.name 3) (.nil))))) (.spart 0 (.str "/"))) (.cons (.ife (.not (.var 2)) (.cons (.set 3 (.str "1")) (.nil)) (.nil)) (.cons (.ife (.or (.not (.call "are_figures" S_11 (.cons (.srem 1 (.str "-")) (.nil)))) (.one (.not (.call "are_figures" S_11 (.cons (.var 3) (.nil)))))) (.cons (.rsi "NoText" (.cons (.non) (.nil))) (.nil)) (.nil)) (.cons (.set 4 (.tup (.cons (.bi .intS (.cons (.var 1) (.nil))) (.cons (.bi .intS (.cons (.var 3) (.nil))) (.nil))))) (.cons (.ife (.or (.not (.call "is_number" S_6 (.cons (.var 4) (.nil)))) (.one (.cmp .NotEq (.call "show_number" S_10 (.cons (.var 4) (.nil))) (.var 0)))) (.cons (.rsi "NoText" (.cons (.non) (.nil))) (.nil)) (.nil)) (.cons (.ret (.var 4)) (.nil)))))))
set_option tactic.hygienic true
theorem vc_12:∀ ds M R E,S_12 ds M R E->rSs C_12 (ends R E) (startD 5 ds) M:=by
 rintro ds M R E ⟨d,rfl,⟨x,rfl,asc,xl,h⟩|⟨t,ht,hs,h⟩⟩
 ·unfold C_12
  have sl:sizeLine=16777216:=sizeLine_eq
  sleep 7
  refine is_sT ?_
  simp
  (try dsimp only);rw[rSs_cons];simp[0,and_assoc,sizeLine_eq,rSs_nil,diZip,diSeq,dFld,dMeth,dMake,dSetF,dSpart]
  refine⟨by decide,by omega,?_⟩
  refine nx_gen fun J hJ=>?_
  have tail:∀ top st bot:Str,Two x top bot->Asc top->Asc bot->top.length<=60->bot.length<=60->J [some (.str x),some (.str top),some (.str st),some (.str bot),none] M:=by
   intro top st bot two at' ab tl bl
   refine hJ _ _ ?_
   have rl:=rem_any top
   have ar:Asc (Txt.removeprefix top "-"):=fun c hc=>by
    rw[rl] at hc
    refine at' c ?_
    unfold unM at hc
    split at hc
    ·rename_i r e;rw[e];exact List.mem_cons_of_mem _ hc
    ·exact hc
   have rlen:(Txt.removeprefix top "-").length<=60:=by
    rw[<- len_cps,rl]
    have:=len_cps top
    unfold unM
    split
    ·rename_i r e;rw[e] at this;simp at this;omega
    ·omega
   (try dsimp only);rw[rSs_cons];simp[0,and_assoc,sizeLine_eq,rSs_nil,diZip,diSeq,dFld,dMeth,dMake,dSetF,dSrem]
   refine⟨by omega,_,rfl,ar,by omega,fun M1 x1=>?_⟩
   rw[rl]
   cases hf:figB (unM top.cps.toList) with
   | false =>
    simp
    sleep 7
    (try simp only[dRaiseI])
    sleep 8
    refine h.no (fun q e=>?_) M1 x1
    rw[e] at two
    rw[two.num.1,fig_ts] at hf;cases hf
   | true =>
   simp
   refine⟨_,rfl,ab,by omega,fun M2 x2=>?_⟩
   cases hb:figB bot.cps.toList with
   | false =>
    simp
    sleep 7
    (try simp only[dRaiseI])
    sleep 8
    refine h.no (fun q e=>?_) M2 (x1.trans x2)
    rw[e] at two
    rw[two.num.2,fig_nat] at hb;cases hb
   | true =>
   simp
   obtain⟨i,hi,gi',_⟩:=int_any hf tl
   obtain⟨j,hj,gj,_⟩:=int_any (x:=bot) (by rw[unM_fig hb];exact hb) bl
   (try dsimp only);rw[rSs_cons];simp[0,and_assoc,sizeLine_eq,rSs_nil,diZip,diSeq,dFld,dMeth,dMake,dSetF,fIntS]
   refine⟨_,hi,by omega,_,hj,by omega,?_⟩
   have p1:(10:Nat) ^ 60<2 ^ 200:=by decide +kernel
   have ij:∀ q,x=nText q->i=q.num/\j=q.den:=fun q e=>by
    subst e
    have:=two.num
    rw[this.1] at hi tl
    rw[this.2] at hj bl
    rw[ts_int (by omega)] at hi hj
    exact⟨(Option.some.inj hi).symm,(Option.some.inj hj).symm⟩
   sleep 7
   refine⟨_,rfl,gtc (gi (Nat.lt_of_lt_of_le (show i.natAbs<2 ^ 200 by omega) (pow_le (by decide)))) (gtc (gi (Nat.lt_of_lt_of_le (show j.natAbs<2 ^ 200 by omega) (pow_le (by decide)))) gt0),?_⟩
   cases hn:isNum (.tup [.int i,.int j]) with
   | false =>
    simp
    sleep 7
    (try simp only[dRaiseI])
    sleep 8
    refine h.no (fun q e=>?_) M2 (x1.trans x2)
    obtain⟨rfl,rfl⟩:=ij q e
    rw[show D.tup [.int q.num,.int q.den]=nm q from rfl,isNum_nm] at hn;cases hn
   | true =>
   obtain⟨q,eq⟩:=isNum_iff.mp hn
   have e1:i=q.num/\j=q.den:=by
    unfold nm at eq
    injection eq with eq
    simp at eq
    exact eq
   obtain⟨rfl,rfl⟩:=e1
   have sz:Sz 200 q:=⟨by omega,by simp at gj;omega⟩
   simp
   refine⟨q,rfl,sz,?_⟩
   have lay:(PyData.str (nText q)).canLay0=true:=str_lay fun c hc=>by
    unfold nText at hc
    split at hc
    ·have:=ts_free hc;omega
    ·rw[sl_cps] at hc
     rcases List.mem_append.mp hc with hc|hc
     ·have:=ts_free hc;omega
     ·rcases List.mem_cons.mp hc with rfl|hc
      ·omega
      ·have:=ts_free hc;omega
   refine eq_str true lay (str_lay asc) ?_
   by_cases he:nText q=x
   ·simp[he]
    sleep 7
    exact h.yes q he.symm M2 (x1.trans x2)
   ·simp[he]
    sleep 7
    (try simp only[dRaiseI])
    sleep 8
    refine h.no (fun q' e=>?_) M2 (x1.trans x2)
    obtain⟨h1,h2⟩:=ij q' e
    have:q=q':=Rat.ext h1 (by omega)
    exact he (by rw[this,e])
  sleep 8
  rcases part_any x with ⟨hno,e⟩|⟨a,c,hno,ex,e⟩
  ·rw[e]
   dsimp only
   have e0:Str.empty.length=0:=rfl
   refine⟨by rw[e0];decide,?_⟩
   rw[if_pos e0]
   sleep 7
   exact tail x Str.empty "1" ⟨.inl ⟨hno,rfl,rfl⟩⟩ asc (fun c hc=>by rw[show ("1":Str).cps.toList=[49] from rfl] at hc;simp at hc;omega) xl (by decide)
  ·rw[e]
   dsimp only
   have e0:("/":Str).length=1:=rfl
   refine⟨by rw[e0];decide,?_⟩
   rw[if_neg (by rw[e0];decide)]
   have xc:x.length=a.length+1+c.length:=by rw[ex,strLen_append,strLen_append];rfl
   refine tail a "/" c ⟨.inr ⟨hno,ex⟩⟩ (fun z hz=>asc z (by rw[ex,sl_cps];simp[hz])) (fun z hz=>asc z (by rw[ex,sl_cps];simp[hz])) (by omega) (by omega)
 ·unfold C_12
  sleep 7
  refine⟨t,ht,by simp,?_⟩
  rw[hs]
  simp
  sleep 7
  (try simp only[dRaiseI])
  sleep 8
  exact h M (.refl M)
end K
end
noncomputable section
namespace K
open PySem DL Q
set_option tactic.hygienic false
noncomputable def tk:List Nat->List Nat
 | []=>[]
 | c::r=>if 48<=c/\c<=57 then c::tk r else []
noncomputable def dk:List Nat->List Nat
 | []=>[]
 | c::r=>if 48<=c/\c<=57 then dk r else c::r
theorem tk_app:∀ {A R:List Nat},NumText.AllDigits A->tk (A++R)=A++tk R
 | [],_,_=>rfl
 | c::A,R,h=>by
  have:=h c List.mem_cons_self
  show (if 48<=c/\c<=57 then c::tk (A++R) else [])=_
  rw[if_pos this,tk_app fun d hd=>h d (List.mem_cons_of_mem _ hd)];rfl
theorem dk_app:∀ {A R:List Nat},NumText.AllDigits A->dk (A++R)=dk R
 | [],_,_=>rfl
 | c::A,R,h=>by
  have:=h c List.mem_cons_self
  show (if 48<=c/\c<=57 then dk (A++R) else _)=_
  rw[if_pos this,dk_app fun d hd=>h d (List.mem_cons_of_mem _ hd)]
theorem tk_all {A:List Nat} (h:NumText.AllDigits A):tk A=A:=by simpa[tk] using tk_app (R:=[]) h
theorem dk_all {A:List Nat} (h:NumText.AllDigits A):dk A=[]:=by simpa[dk] using dk_app (R:=[]) h
noncomputable def lead:List Nat->Bool
 | []=>false
 | [_]=>true
 | c::_::_=>c != 48
noncomputable def botB:List Nat->Bool
 | []=>true
 | c::r=>c==47&&lead (tk r)&&(dk r).isEmpty&&tk r != [49]&&tk r != [48]
noncomputable def ckB (l:List Nat):Bool:=lead (tk (unM l))&&botB (dk (unM l))&&(tk (unM l) != [48] || l==[48])
theorem dg_lead (m:Nat):lead (dg m)=true:=by
 have hn:=dg_ne m
 cases h:dg m with
 | nil=>exact absurd h hn
 | cons c r =>
  cases r with
  | nil=>rfl
  | cons d r =>
   show (c != 48)=true
   rw[bne_iff_ne]
   rintro rfl
   have hv:NumText.digitsVal (dg m)=m:=PySem.W.KIN.val_back m
   have ha:=dg_all m
   rw[h] at hv ha
   have hlt:=val_lt (cs:=d::r) (a:=0) (k:=0) (fun x hx=>ha x (List.mem_cons_of_mem _ hx)) (by decide)
   have hv':List.foldl (fun acc c=>acc*10+(c-48)) 0 (d::r)=m:=hv
   rw[hv'] at hlt
   have hl:(dg m).length<=(d::r).length:=by
    unfold dg
    rw[List.length_map]
    refine (Nat.length_toDigits_le_iff (by decide) (by simp)).mpr ?_
    simpa using hlt
   rw[h] at hl
   simp at hl
   omega
theorem dg_val {m n:Nat} (h:dg m=dg n):m=n:=by
 have a:NumText.digitsVal (dg m)=m:=PySem.W.KIN.val_back m
 have b:NumText.digitsVal (dg n)=n:=PySem.W.KIN.val_back n
 rw[h] at a
 exact a.symm.trans b
set_option tactic.hygienic true
theorem unM_dg (m:Nat) (r:List Nat):unM (dg m++r)=dg m++r:=by
 cases h:dg m with
 | nil=>exact absurd h (dg_ne m)
 | cons c s =>
  have:=dg_all m c (by rw[h];exact List.mem_cons_self)
  unfold unM
  split
  ·rename_i e;simp at e;omega
  ·rfl
set_option tactic.hygienic false
theorem dg1:dg 1=[49]:=rfl
theorem dg0:dg 0=[48]:=rfl
theorem ck_top (s:List Nat) (m:Nat) (R:List Nat) (hs:s=[]\/s=[45]) (hm:m=0->s=[]/\R=[]) (hR:tk R=[]) (hd:dk R=R) (hb:botB R=true):ckB (s++(dg m++R))=true:=by
 have u:unM (s++(dg m++R))=dg m++R:=by
  rcases hs with rfl|rfl
  ·exact unM_dg m R
  ·rfl
 unfold ckB
 rw[u,tk_app (dg_all m),dk_app (dg_all m),hR,hd,List.append_nil,dg_lead,hb]
 by_cases h0:m=0
 ·obtain⟨rfl,rfl⟩:=hm h0
  subst h0
  rfl
 ·have:dg m≠[48]:=fun e=>h0 (dg_val (e.trans dg0.symm))
  simp[this]
set_option tactic.hygienic true
theorem ck_num (q:Rat):ckB (nText q).cps.toList=true:=by
 have key:∀ R:List Nat,(q.num=0->R=[])->tk R=[]->dk R=R->botB R=true->ckB ((ts q.num).cps.toList++R)=true:=by
  intro R h0 h1 h2 h3
  cases hq:q.num with
  | ofNat m =>
   rw[show (ts (Int.ofNat m)).cps.toList=dg m from ts_nat m]
   exact ck_top [] m R (.inl rfl) (fun z=>⟨rfl,h0 (by rw[hq,z];rfl)⟩) h1 h2 h3
  | negSucc m =>
   rw[ts_neg]
   exact ck_top [45] (m+1) R (.inr rfl) (fun z=>by omega) h1 h2 h3
 unfold nText
 split
 ·simpa using key [] (fun _=>rfl) rfl rfl rfl
 ·rename_i hd
  rw[sl_cps,ts_nat]
  refine key (47::dg q.den) (fun z=>?_) rfl rfl ?_
  ·have:q=0:=by rw[<- Rat.num_eq_zero];exact z
   rw[this] at hd;exact absurd rfl hd
  ·have h1:dg q.den≠[49]:=fun e=>hd (dg_val (e.trans dg1.symm))
   have h0:dg q.den≠[48]:=fun e=>by
    have:=dg_val (e.trans dg0.symm)
    exact q.den_nz this
   simp[botB,tk_all (dg_all q.den),dk_all (dg_all q.den),dg_lead,h1,h0]
set_option tactic.hygienic false
theorem no_ck {x:Str} (h:ckB x.cps.toList=false):∀ q,x≠nText q:=fun q e=>by
 rw[e,ck_num] at h;cases h
theorem ts_inj {i j:Int} (hi:(ts i).length<=640) (hj:(ts j).length<=640) (h:ts i=ts j):i=j:=by
 have a:=ts_int hi
 rw[h,ts_int hj] at a
 exact (Option.some.inj a).symm
theorem no_low {a b:Int} (hl:(ts a).length<=640) (hl2:(ts b).length<=640) (h:Int.gcd a b≠1):∀ q,ts a++"/"++ts b≠nText q:=fun q e=>by
 have two:Two (nText q) (ts a) (ts b):=⟨.inr ⟨ts_no,e.symm⟩⟩
 obtain⟨h1,h2⟩:=two.num
 have e1:=ts_inj hl (by rw[<- h1];exact hl) h1
 have e2:=ts_inj hl2 (by rw[<- h2];exact hl2) h2
 rw[e1,e2] at h
 exact h q.reduced
theorem pys_bl (M:Mem):∀ bs:List Bool,Pys M (bs.map .bl) (bs.map .bool)
 | []=>.nil
 | b::bs=>.cons (.bl b) (pys_bl M bs)
noncomputable def sortsOf (n:Str):List Bool:=[isSub n "NoText",isSub n "NoNumber",isSub n "NoTube",isSub n "NoRow",isSub n "NoMeasure",isSub n "NoLevel",isSub n "NoData",isSub n "NoPrice",isSub n "NoNeeds",isSub n "NoRoom",isSub n "NoJobs",isSub n "NoCall",isSub n "NoKept"]
noncomputable def SortIs (n:Str) (i:Nat):Prop:=(sortsOf n).count true=1/\((sortsOf n).map PyData.bool).findIdx (fun q=>PyData.eqv q (.bool true))=i/\i<13
theorem sort_text:SortIs "NoText" 0:=by unfold SortIs;decide +kernel
theorem few_line {n:Nat} (h:n<100):n<=sizeLine/\n<sizeLine:=by rw[sizeLine_eq];omega
theorem tru_not_t {M:Mem} {A B:Mem->Prop} (h:B M):truD (.bl true) M fun c M1=>if (!c)=true then A M1 else B M1:=h
noncomputable def S_19:DSp:=fun ds M Q _=>∃ (n:Str) (x:DL.D) (i:Nat),ds=[.exc n x]/\SortIs n i/\∀ M',MExt M M'->Q (.int i) M'
noncomputable def C_19:CSs:=.cons (.set 1 (.lst (.cons (.bi .isinstance (.cons (.var 0) (.cons (.glo "NoText" (.cls "NoText")) (.nil)))) (.cons (.bi .isinstance (.cons (.var 0) (.cons (.glo "NoNumber" (.cls "NoNumber")) (.nil)))) (.cons (.bi .isinstance (.cons (.var 0) (.cons (.glo "NoTube" (.cls "NoTube")) (.nil)))) (.cons (.bi .isinstance (.cons (.var 0) (.cons (.glo "NoRow" (.cls "NoRow")) (.nil)))) (.nil))))))) (.cons (.set 1 (.bin .Add (.var 1) (.lst (.cons (.bi .isinstance (.cons (.var 0) (.cons (.glo "NoMeasure" (.cls "NoMeasure")) (.nil)))) (.cons (.bi .isinstance (.cons (.var 0) (.cons (.glo "NoLevel" (.cls "NoLevel")) (.nil)))) (.cons (.bi .isinstance (.cons (.var 0) (.cons (.glo "NoData" (.cls "NoData")) (.nil)))) (.cons (.bi .isinstance (.cons (.var 0) (.cons (.glo "NoPrice" (.cls "NoPrice")) (.nil)))) (.nil)))))))) (.cons (.set 1 (.bin .Add (.var 1) (.lst (.cons (.bi .isinstance (.cons (.var 0) (.cons (.glo "NoNeeds" (.cls "NoNeeds")) (.nil)))) (.cons (.bi .isinstance (.cons (.var 0) (.cons (.glo "NoRoom" (.cls "NoRoom")) (.nil)))) (.cons (.bi .isinstance (.cons (.var 0) (.cons (.glo "NoJobs" (.cls "NoJobs")) (.nil)))) (.cons (.bi .isinstance (.cons (.var 0) (.cons (.glo "NoCall" (.cls "NoCall")) (.nil)))) (.nil)))))))) (.cons (.expr (.app 1 (.bi .isinstance (.cons (.var 0) (.cons (.glo "NoKept" (.cls "NoKept")) (.nil)))))) (.cons (.ife (.or (.not (.bi .isinstance (.cons (.var 0) (.cons (.ty .valueError) (.nil))))) (.one (.cmp .NotEq (.bi .sum (.cons (.var 1) (.nil))) (.int 1)))) (.cons (.ret (.non)) (.nil)) (.nil)) (.cons (.ret (.idx 1 (.bl true))) (.nil))))))
theorem vc_19:∀ ds M R E,S_19 ds M R E->rSs C_19 (ends R E) (startD 2 ds) M:=by
 rintro ds M R E ⟨n,x,i,rfl,⟨s1,s2,s3⟩,h⟩
 unfold C_19
 (try dsimp only);rw[rSs_cons]
 dsimp only[rS,rE,rEs,DL.plain,dAsg,dLst,dCons,dNil,dCB,biSem,fIsi,dVar,dC,gdName,startD]
 refine⟨_,rfl,_,rfl,_,rfl,_,rfl,_,rfl,_,rfl,_,rfl,_,rfl,(few_line (n:=4) (by decide)).1,fun p1 M1 e1 x1 l1=>?_⟩
 (try dsimp only);rw[rSs_cons]
 dsimp only[rS,rE,rEs,DL.plain,dAsg,dLst,dCons,dNil,dCB,biSem,fIsi,dVar,dC,gdName,d2,bOp]
 refine⟨_,rfl,_,rfl,_,rfl,_,rfl,_,rfl,_,rfl,_,rfl,_,rfl,_,rfl,(few_line (n:=4) (by decide)).1,fun p2 M2 e2 x2 l2=>⟨_,_,x2 _ _ l1,l2,(few_line (n:=8) (by decide)).1,fun p3 M3 e3 x3 l3=>?_⟩⟩
 (try dsimp only);rw[rSs_cons]
 dsimp only[rS,rE,rEs,DL.plain,dAsg,dLst,dCons,dNil,dCB,biSem,fIsi,dVar,dC,gdName,d2,bOp]
 refine⟨_,rfl,_,rfl,_,rfl,_,rfl,_,rfl,_,rfl,_,rfl,_,rfl,_,rfl,(few_line (n:=4) (by decide)).1,fun p4 M4 e4 x4 l4=>⟨_,_,x4 _ _ l3,l4,(few_line (n:=12) (by decide)).1,fun p5 M5 e5 x5 l5=>?_⟩⟩
 (try dsimp only);rw[rSs_cons]
 dsimp only[rS,rE,rEs,DL.plain,dDrop,dApp,dCons,dNil,dCB,biSem,fIsi,dVar,dC]
 refine⟨_,rfl,p5,_,rfl,l5,_,rfl,_,rfl,_,l5,(few_line (n:=12) (by decide)).2,?_⟩
 have x6:MExt M (M5.upd p5 (.ls ((sortsOf n).map .bl))):=MExt.upd_new (MExt.none (x1.trans (x2.trans (x3.trans x4))) e5) (x1.trans (x2.trans (x3.trans (x4.trans x5))))
 have l6:(M5.upd p5 (.ls ((sortsOf n).map .bl))) p5=some (.ls ((sortsOf n).map .bl)):=mupd_same
 show rSs _ _ _ (M5.upd p5 (.ls ((sortsOf n).map .bl)))
 generalize M5.upd p5 (.ls ((sortsOf n).map .bl))=M6 at x6 l6
 (try dsimp only);rw[rSs_cons]
 dsimp only[rS,rE,rEs,DL.plain,dIfS,dOr,dNot,dTru,dTest,d2,cOp,dCons,dNil,dCB,biSem,fIsi,fSum,dVar,dC,tyStr]
 refine⟨_,rfl,"exc",rfl,by decide,?_⟩
 rw[show isiT "exc" "ValueError"=true by decide]
 refine tru_not_t ⟨_,rfl,sortsOf n,l6,?_⟩
 rw[s1]
 refine eq_int true ⟨_,rfl,ite_f ?_⟩
 rw[rSs_nil]
 (try dsimp only);rw[rSs_cons]
 dsimp only[rS,rE,rEs,DL.plain,dRet,dIdx,dVar,dC]
 exact⟨_,rfl,p5,_,rfl,l6,_,i,l6,⟨_,.bool true,pys_bl M6 (sortsOf n),.bl true,by simp[PyData.depth],(show (List.map PyData.bool (sortsOf n)).length<1000 by rw[List.length_map];exact (show 13<1000 by decide)),(show i<(List.map PyData.bool (sortsOf n)).length by rw[List.length_map];exact s3),s2⟩,h M6 x6⟩
end K
end
noncomputable section
namespace K
open PySem DL Q
noncomputable abbrev sp (x:Str):List Str:=Txt.split x " "
noncomputable abbrev jn (l:List Str):Str:=Txt.join " " l
noncomputable def Fre (l:List Str):Prop:=∀ p∈l,32 ∉ p.cps.toList
theorem jn_is (l:List Str):jn l=Str.join " " l:=StrLaws.glued_eq_join _ _
theorem jn_one (x:Str):jn [x]=x:=by rw[jn_is];rfl
theorem jn_two (x y:Str) (r:List Str):(jn (x::y::r)).cps.toList=x.cps.toList++32::(jn (y::r)).cps.toList:=by
 rw[jn_is,jn_is,show Str.join " " (x::y::r)=x++" "++Str.join " " (y::r) from rfl,str_app,str_app,show (" ":Str).cps.toList=[32] from rfl]
 simp
theorem jn_uniq:∀ {A B:List Str},A≠[]->B≠[]->Fre A->Fre B->jn A=jn B->A=B
 | [],_,h,_,_,_,_=>absurd rfl h
 | _,[],_,h,_,_,_=>absurd rfl h
 | [x],[y],_,_,_,_,e=>by rw[jn_one,jn_one] at e;rw[e]
 | [x],y::z::r,_,_,fa,_,e=>by
  have:=congrArg (fun s=>s.cps.toList) e
  simp only[jn_one,jn_two] at this
  exact absurd (by rw[this];simp) (fa x (by simp))
 | x::y::r,[z],_,_,_,fb,e=>by
  have:=congrArg (fun s=>s.cps.toList) e
  simp only[jn_one,jn_two] at this
  exact absurd (by rw[<- this];simp) (fb z (by simp))
 | x::y::r,z::w::s,_,_,fa,fb,e=>by
  have:=congrArg (fun s=>s.cps.toList) e
  simp only[jn_two] at this
  obtain⟨h1,h2⟩:=cut_uniq (fa x (by simp)) (fb z (by simp)) this
  rw[str_ext h1,jn_uniq (by simp) (by simp) (fun p hp=>fa p (List.mem_cons_of_mem _ hp)) (fun p hp=>fb p (List.mem_cons_of_mem _ hp)) (str_ext h2)]
theorem jn_sp (x:Str):jn (sp x)=x:=by rw[jn_is];exact StrLaws.join_split x " "
theorem sp_free (x:Str):Fre (sp x):=fun p hp=>StrLaws.split_free x 32 p hp
theorem sp_ne (x:Str):sp x≠[]:=fun e=>by
 have h:=jn_sp x
 rw[e] at h
 rw[<- h] at e
 exact absurd e (by decide +kernel)
theorem sp_jn {A:List Str} (h:A≠[]) (f:Fre A):sp (jn A)=A:=jn_uniq (sp_ne _) h (sp_free _) f (jn_sp _)
theorem nText_free (q:Rat):32 ∉ (nText q).cps.toList:=fun h=>by
 unfold nText at h
 split at h
 ·have:=ts_free h;omega
 ·rw[sl_cps] at h
  rcases List.mem_append.mp h with h|h
  ·have:=ts_free h;omega
  ·rcases List.mem_cons.mp h with h|h
   ·omega
   ·have:=ts_free h;omega
theorem dg_lt {m k:Nat} (hk:0<k) (h:(dg m).length<=k):m<10 ^ k:=by
 unfold dg at h
 rw[List.length_map] at h
 exact (Nat.length_toDigits_le_iff (by decide) hk).mp h
theorem ts_lt {i:Int} {k:Nat} (hk:0<k) (h:(ts i).length<=k):i.natAbs<10 ^ k:=by
 cases i with
 | ofNat m =>
  have:=congrArg List.length (ts_nat m)
  rw[len_cps] at this
  exact dg_lt (m:=m) hk (by rw[<- this];exact h)
 | negSucc m =>
  have:=congrArg List.length (ts_neg m)
  rw[len_cps,List.length_cons] at this
  exact dg_lt (m:=m+1) hk (by omega)
set_option tactic.hygienic true
theorem nText_sz {q:Rat} (h:(nText q).length<=60):Sz 200 q:=by
 have p1:(10:Nat) ^ 60<2 ^ 200:=by decide +kernel
 unfold nText at h
 split at h
 ·rename_i hd
  have:=ts_lt (by decide) h
  exact⟨by omega,by rw[hd];decide⟩
 ·simp only[strLen_append] at h
  have h1:=ts_lt (k:=60) (by decide) (show (ts q.num).length<=60 by omega)
  have h2:=ts_lt (k:=60) (by decide) (show (ts (q.den:Int)).length<=60 by omega)
  exact⟨by omega,by simp at h2;omega⟩
set_option tactic.hygienic false
theorem nText_len {q:Rat} {k:Nat} (hk:0<k) (h1:q.num.natAbs<10 ^ k) (h2:q.den<10 ^ k):(nText q).length<=2*k+3:=by
 have l1:=ts_len hk h1
 have l2:=ts_len (i:=(q.den:Int)) hk (by simpa using h2)
 unfold nText
 split
 ·omega
 ·simp only[strLen_append];show (ts q.num).length+1+(ts (q.den:Int)).length<=_;omega
end K
end
noncomputable section
namespace K
open PySem DL Q
noncomputable def Inf2 (c d:Nat) (l:List Nat):Prop:=∃ a b,l=a++c::d::b
theorem inf2_tail {c d x:Nat} {l:List Nat} (h:¬ Inf2 c d (x::l)):¬ Inf2 c d l:=fun ⟨a,b,e⟩=>h ⟨x::a,b,by rw[e];rfl⟩
theorem cut2 {c d:Nat} (hcd:c≠d):∀ {a a' b b':List Nat},¬ Inf2 c d a->¬ Inf2 c d a'->a++c::d::b=a'++c::d::b'->a=a'/\b=b'
 | [],[],b,b',_,_,e=>by simpa using e
 | [],y::a',b,b',_,h,e=>by
  simp at e
  obtain⟨rfl,e⟩:=e
  cases a' with
  | nil=>simp at e;exact absurd e.1.symm hcd
  | cons z a' =>
   simp at e
   obtain⟨rfl,e⟩:=e
   exact absurd ⟨[],a',rfl⟩ h
 | x::a,[],b,b',h,_,e=>by
  simp at e
  obtain⟨rfl,e⟩:=e
  cases a with
  | nil=>simp at e;exact absurd e.1 hcd
  | cons z a' =>
   simp at e
   obtain⟨rfl,e⟩:=e
   exact absurd ⟨[],a',rfl⟩ h
 | x::a,y::a',b,b',h,h',e=>by
  simp at e
  obtain⟨rfl,e⟩:=e
  obtain⟨h1,h2⟩:=cut2 hcd (inf2_tail h) (inf2_tail h') e
  exact⟨by rw[h1],h2⟩
theorem parts2 (x y:Str):∀ (cuts:List Nat) (a f:Nat),StrLaws.ChainG x y x.length a cuts f->(∀ k,f<=k->¬ StrLaws.At x y x.length k)->1<=y.length->∀ p∈StrLaws.partsFrom x y.length a cuts,∀ i,¬ StrLaws.At p y p.length i:=by
 have key:∀ (a b i:Nat),StrLaws.At (Builtin.Str.strSub x a b) y (Builtin.Str.strSub x a b).length i->1<=y.length->StrLaws.At x y x.length (a+i)/\a+i<b:=by
  intro a b i ⟨h1,h2⟩ hy
  have e:=StrLaws.strSub_toList x a b
  have l1:=congrArg List.length e
  rw[len_cps,List.length_take,List.length_drop,len_cps] at l1
  rw[StrLaws.subAt_eq,e] at h2
  refine⟨⟨by omega,?_⟩,by omega⟩
  rw[StrLaws.subAt_eq]
  rw[List.drop_take,List.drop_drop,List.take_take,Nat.min_eq_left (by omega)] at h2
  exact h2
 intro cuts
 induction cuts with
 | nil =>
  intro a f hc hf hy p hp i hi
  have hc':f=a:=hc
  have hp':p=Builtin.Str.strSub x a x.length:=by
   have:p∈[Builtin.Str.strSub x a x.length]:=hp
   simpa using this
  subst hp'
  obtain⟨h1,h2⟩:=key a _ i hi hy
  exact hf (a+i) (by omega) h1
 | cons c r ih =>
  intro a f hc hf hy p hp i hi
  obtain⟨h1,h2,h3,h4⟩:=(show a<=c/\StrLaws.At x y x.length c/\(∀ k,a<=k->k<c->¬ StrLaws.At x y x.length k)/\StrLaws.ChainG x y x.length (c+y.length) r f from hc)
  have hp':p∈Builtin.Str.strSub x a c::StrLaws.partsFrom x y.length (c+y.length) r:=hp
  rcases List.mem_cons.mp hp' with rfl|hp'
  ·obtain⟨g1,g2⟩:=key a c i hi hy
   exact h3 (a+i) (by omega) g2 g1
  ·exact ih _ f h4 hf hy p hp' i hi
section
variable {s:Str} {c d:Nat}
noncomputable def Fre2 (c d:Nat) (l:List Str):Prop:=∀ p∈l,¬ Inf2 c d p.cps.toList
theorem len2s (hs:s.cps.toList=[c,d]):s.length=2:=by rw[<- len_cps,hs];rfl
theorem at_inf {p:Str} (hs:s.cps.toList=[c,d]) (h:∀ i,¬ StrLaws.At p s p.length i):¬ Inf2 c d p.cps.toList:=fun ⟨a,b,e⟩=>by
 refine h a.length ⟨?_,?_⟩
 ·have:=congrArg List.length e
  rw[len_cps] at this
  simp at this
  rw[len2s hs];omega
 ·rw[StrLaws.subAt_eq,e,len2s hs,hs]
  simp
set_option tactic.hygienic true
theorem split_fre2 (x:Str) (hs:s.cps.toList=[c,d]) (hk:Builtin.Str.strKind s=1):Fre2 c d (Txt.split x s):=by
 intro p hp
 have ls:=len2s hs
 unfold Txt.split at hp
 have none:(∀ i,¬ StrLaws.At x s x.length i)->p∈[x]->¬ Inf2 c d p.cps.toList:=fun h hp=>by
  obtain rfl:p=x:=by simpa using hp
  exact at_inf hs h
 obtain⟨f,t1,t2⟩:=StrLaws.occ_tight x s (by omega)
 split at hp
 ·rename_i hc
  refine none (fun i hi=>?_) hp
  rw[Bool.or_eq_true] at hc
  rcases hc with hc|hc
  ·have:=of_decide_eq_true hc
   have:=hi.1
   omega
  ·have hk':=of_decide_eq_true hc
   rw[hk] at hk'
   unfold Builtin.Str.strKind at hk'
   split at hk'
   ·omega
   ·split at hk'<;>omega
 ·split at hp
  ·rename_i he
   have he':=List.isEmpty_iff.mp he
   rw[he'] at t1
   have t1':f=0:=t1
   exact none (fun i hi=>t2 i (by omega) hi) hp
  ·rw[StrLaws.partsBetween_eq] at hp
   exact at_inf hs (parts2 x s _ 0 f t1 t2 (by omega) p hp)
structure Sep (s:Str) (c d:Nat):Prop where
 is:s.cps.toList=[c,d]
 ne:c≠d
 kd:Builtin.Str.strKind s=1
set_option tactic.hygienic false
theorem j_is (l:List Str):Txt.join s l=Str.join s l:=StrLaws.glued_eq_join _ _
theorem j_one (x:Str):Txt.join s [x]=x:=by rw[j_is];rfl
theorem j_two (S:Sep s c d) (x y:Str) (r:List Str):(Txt.join s (x::y::r)).cps.toList=x.cps.toList++c::d::(Txt.join s (y::r)).cps.toList:=by
 rw[j_is,j_is,show Str.join s (x::y::r)=x++s++Str.join s (y::r) from rfl,str_app,str_app,S.is]
 simp
theorem j_uniq (S:Sep s c d):∀ {A B:List Str},A≠[]->B≠[]->Fre2 c d A->Fre2 c d B->Txt.join s A=Txt.join s B->A=B
 | [],_,h,_,_,_,_=>absurd rfl h
 | _,[],_,h,_,_,_=>absurd rfl h
 | [x],[y],_,_,_,_,e=>by rw[j_one,j_one] at e;rw[e]
 | [x],y::z::r,_,_,fa,_,e=>by
  have:=congrArg (fun s=>s.cps.toList) e
  simp only[j_one,j_two S] at this
  exact absurd ⟨_,_,this⟩ (fa x (by simp))
 | x::y::r,[z],_,_,_,fb,e=>by
  have:=congrArg (fun s=>s.cps.toList) e
  simp only[j_one,j_two S] at this
  exact absurd ⟨_,_,this.symm⟩ (fb z (by simp))
 | x::y::r,z::w::t,_,_,fa,fb,e=>by
  have:=congrArg (fun s=>s.cps.toList) e
  simp only[j_two S] at this
  obtain⟨h1,h2⟩:=cut2 S.ne (fa x (by simp)) (fb z (by simp)) this
  rw[str_ext h1,j_uniq S (by simp) (by simp) (fun p hp=>fa p (List.mem_cons_of_mem _ hp)) (fun p hp=>fb p (List.mem_cons_of_mem _ hp)) (str_ext h2)]
theorem j_split (x:Str):Txt.join s (Txt.split x s)=x:=by rw[j_is];exact StrLaws.join_split x s
theorem split_ne (S:Sep s c d) (x:Str):Txt.split x s≠[]:=fun e=>by
 have h:=j_split (s:=s) x
 rw[e] at h
 rw[<- h] at e
 have l2:=len2s S.is
 have:Txt.split (Txt.join s []) s=[Txt.join s []]:=by
  unfold Txt.split
  rw[if_pos]
  rw[Bool.or_eq_true]
  exact .inl (decide_eq_true (by rw[l2];exact (by decide:0<2)))
 rw[this] at e
 cases e
theorem split_j (S:Sep s c d) {A:List Str} (h:A≠[]) (f:Fre2 c d A):Txt.split (Txt.join s A) s=A:=j_uniq S (split_ne S _) h (split_fre2 _ S.is S.kd) f (j_split _)
theorem j_len (S:Sep s c d):∀ {l:List Str} {k:Nat},(∀ p∈l,p.length<=k)->(Txt.join s l).length<=l.length*(k+2)
 | [],k,_=>by rw[show (Txt.join s []).length=0 from rfl];omega
 | [x],k,h=>by rw[j_one];have:=h x (by simp);simp;omega
 | x::y::r,k,h=>by
  have ih:=j_len S (l:=y::r) (k:=k) fun p hp=>h p (List.mem_cons_of_mem _ hp)
  have e:=congrArg List.length (j_two S x y r)
  rw[len_cps,List.length_append,List.length_cons,List.length_cons,len_cps,len_cps] at e
  have:=h x (by simp)
  rw[List.length_cons,Nat.succ_mul,e]
  omega
theorem j_asc (S:Sep s c d) (hc:c<128) (hd:d<128):∀ {L:List Str},(∀ p∈L,Asc p)->Asc (Txt.join s L)
 | [],_=>fun c hc=>by simp[show (Txt.join s []).cps.toList=[] from rfl] at hc
 | [x],h=>by rw[j_one];exact h x (by simp)
 | x::y::L,h=>fun z hz=>by
  rw[j_two S] at hz
  rcases List.mem_append.mp hz with hz|hz
  ·exact h x (by simp) z hz
  rcases List.mem_cons.mp hz with rfl|hz
  ·exact hc
  rcases List.mem_cons.mp hz with rfl|hz
  ·exact hd
  ·exact j_asc S hc hd (fun p hp=>h p (List.mem_cons_of_mem _ hp)) z hz
theorem j_app (S:Sep s c d):∀ {L B:List Str},L≠[]->B≠[]->Txt.join s (L++B)=Txt.join s L++s++Txt.join s B
 | [],_,h,_=>absurd rfl h
 | [x],[],_,h=>absurd rfl h
 | [x],y::r,_,_=>str_ext (by rw[List.singleton_append,j_two S,j_one,str_app,str_app,S.is];simp)
 | x::y::r,B,_,h=>str_ext (by
  have ih:=congrArg (fun s=>s.cps.toList) (j_app S (L:=y::r) (by simp) h)
  rw[List.cons_append,List.cons_append,j_two S,str_app,str_app,j_two S]
  rw[<- List.cons_append,show (Txt.join s (y::r++B)).cps.toList=_ from ih,str_app,str_app]
  simp)
theorem inf2_mem {c d:Nat} {l:List Nat} (h:Inf2 c d l):c∈l/\d∈l:=by
 obtain⟨a,b,rfl⟩:=h
 simp
end
end K
end
noncomputable section
namespace K
open PySem DL Q
noncomputable abbrev G_MOST_HOURS:DL.D:=.int 24
noncomputable abbrev G_MOST_JOBS:DL.D:=.int 12
theorem asc_of {x:Str} (h:x.cps.toList.all (fun c=>decide (c<128))=true):Asc x:=fun c hc=>by
 have:=List.all_eq_true.mp h c hc
 simpa using this
set_option tactic.hygienic true
theorem nText_uniq {q q':Rat} (h:nText q=nText q') (hl:(nText q).length<=600):q=q':=by
 have two:Two (nText q') (ts q.num) (ts q.den):=by
  rw[<- h]
  unfold nText
  split
  ·rename_i hd
   exact⟨.inl ⟨ts_no,rfl,by rw[hd];rfl⟩⟩
  ·exact⟨.inr ⟨ts_no,rfl⟩⟩
 have l1:(ts q.num).length<=600/\(ts q.den).length<=600:=by
  unfold nText at hl
  split at hl
  ·rename_i hd
   exact⟨hl,by rw[hd];decide⟩
  ·simp only[strLen_append] at hl;omega
 obtain⟨h1,h2⟩:=two.num
 have e1:=ts_inj (by omega) (by rw[<- h1];omega) h1
 have e2:=ts_inj (by omega) (by rw[<- h2];omega) h2
 exact Rat.ext e1 (by omega)
set_option tactic.hygienic false
theorem nText_asc (q:Rat):∀ c∈(nText q).cps.toList,c<128:=by
 intro c hc
 unfold nText at hc
 split at hc
 ·have:=ts_free hc;omega
 ·rw[str_app,str_app] at hc
  rcases List.mem_append.mp hc with hc|hc
  ·rcases List.mem_append.mp hc with hc|hc
   ·have:=ts_free hc;omega
   ·have:c∈[47]:=hc
    simp at this
    omega
  ·have:=ts_free hc;omega
noncomputable def S_2:DSp:=fun ds M Q E=>∃ (q:Rat),ds=[nm q]/\Sz 200 q/\Q (.str (nText q)) M
noncomputable def C_2:CSs:=.cons (.set 1 (.bi .str (.cons (.ix (.var 0) (.int 0)) (.nil)))) (.cons (.ife (.cmp .NotEq (.ix (.var 0) (.int 1)) (.int 1)) (.cons (.set 1 (.bin .Add (.bin .Add (.var 1) (.str "/")) (.bi .str (.cons (.ix (.var 0) (.int 1)) (.nil))))) (.nil)) (.nil)) (.cons (.ret (.var 1)) (.nil)))
theorem vc_2:∀ ds M R E,S_2 ds M R E->rSs C_2 (ends R E) (startD 2 ds) M:=by
 rintro ds M R E ⟨q,rfl,sq,h⟩
 unfold C_2
 obtain⟨l1,l2,g1,g2⟩:=sz_text sq
 sleep 7
 refine⟨g1,?_⟩
 rw[show Str.ofString q.num.repr=ts q.num from rfl]
 sleep 7
 unfold nText at h
 refine eq_int true ?_
 by_cases hd:q.den=1
 ·rw[if_pos hd] at h
  simp[hd]
  sleep 7
  exact h
 ·rw[if_neg hd] at h
  have nd:¬ ((q.den:Int)=1):=by omega
  refine .inr ⟨by simp[nd],?_⟩
  sleep 7
  have sl:sizeLine=16777216:=sizeLine_eq
  have e1:(ts q.num++("/":Str)).length<=100:=by rw[strLen_append];show (ts q.num).length+1<=100;omega
  have e2:(ts q.num++("/":Str)++ts (q.den:Int)).length<=200:=by rw[strLen_append];omega
  rw[strLen_append] at e2
  have e0:(Str.ofString "/").length=1:=rfl
  refine⟨by omega,g2,by show (ts q.num++("/":Str)).length+(ts (q.den:Int)).length<=sizeLine;omega,?_⟩
  rw[show Str.ofString (Int.repr (q.den:Int))=ts q.den from rfl]
  sleep 7
  exact h
structure RJ where
 a:Int
 d:Int
 w:Rat
deriving DecidableEq
noncomputable def rj (j:RJ):DL.D:=.tup [.int j.a,.int j.d,nm j.w]
noncomputable def jText (j:RJ):Str:=jn [ts j.a,ts j.d,nText j.w]
theorem ts_free32 (i:Int):32 ∉ (ts i).cps.toList:=fun h=>by have:=ts_free h;omega
theorem jText_fre (j:RJ):Fre [ts j.a,ts j.d,nText j.w]:=fun p hp=>by
 simp only[List.mem_cons,List.not_mem_nil,or_false] at hp
 rcases hp with rfl|rfl|rfl
 ·exact ts_free32 _
 ·exact ts_free32 _
 ·exact nText_free _
theorem sp_jText (j:RJ):sp (jText j)=[ts j.a,ts j.d,nText j.w]:=sp_jn (by simp) (jText_fre j)
theorem jText_is (j:RJ):jText j=ts j.a++" "++ts j.d++" "++nText j.w:=str_ext (by
 unfold jText
 rw[jn_two,jn_two,jn_one,str_app,str_app,str_app,str_app,show (" ":Str).cps.toList=[32] from rfl]
 simp)
theorem jText_len (j:RJ):(jText j).length=(ts j.a).length+1+(ts j.d).length+1+(nText j.w).length:=by
 rw[jText_is];simp only[strLen_append,show (" ":Str).length=1 from rfl]
theorem jText_uniq {j j':RJ} (h:jText j=jText j') (hl:(jText j).length<=60):j=j':=by
 have e:=sp_jText j
 rw[h,sp_jText j'] at e
 simp only[List.cons.injEq,and_true] at e
 rw[jText_len] at hl
 obtain⟨e1,e2,e3⟩:=e
 have h1:=ts_inj (i:=j'.a) (j:=j.a) (by rw[e1];omega) (by omega) e1
 have h2:=ts_inj (i:=j'.d) (j:=j.d) (by rw[e2];omega) (by omega) e2
 have h3:=nText_uniq (q:=j'.w) (q':=j.w) e3 (by rw[e3];omega)
 cases j;cases j';simp_all
theorem sp_few:∀ l:List Str,l.length<=(jn l).length+1
 | []=>by simp
 | [x]=>by simp
 | x::y::r=>by
  have ih:=sp_few (y::r)
  have e:=congrArg List.length (jn_two x y r)
  rw[len_cps,List.length_append,List.length_cons,len_cps,len_cps] at e
  simp only[List.length_cons] at ih ⊢
  omega
theorem nText_int (i:Int):nText (i:Rat)=ts i:=by unfold nText;rw[if_pos (by simp)];simp
theorem ts_eq_n {x:Str} {q:Rat} (h:x=nText q) (hd:q.den=1):x=ts q.num:=by rw[h];unfold nText;rw[if_pos hd]
noncomputable def S_13:DSp:=fun ds M Q E=>∃ x:Str,ds=[.str x]/\Asc x/\x.length<=60/\(∀ i:Int,x=ts i->∀ M',MExt M M'->Q (.int i) M')/\((∀ i:Int,x≠ts i)->∀ M',MExt M M'->E (.exc "NoText" .non) M')
noncomputable def C_13:CSs:=.cons (.asg (.tup (.cons (.name 1) (.cons (.name 2) (.nil)))) (.call "read_number" S_12 (.cons (.var 0) (.nil)))) (.cons (.ife (.cmp .NotEq (.var 2) (.int 1)) (.cons (.rsi "NoText" (.cons (.non) (.nil))) (.nil)) (.nil)) (.cons (.ret (.var 1)) (.nil)))
theorem vc_13:∀ ds M R E,S_13 ds M R E->rSs C_13 (ends R E) (startD 3 ds) M:=by
 rintro ds M R E ⟨x,rfl,asc,xl,yes,no⟩
 unfold C_13
 sleep 7
 refine⟨_,rfl,.inl ⟨x,rfl,asc,xl,⟨fun q hq M1 x1=>?_,fun nq=>no fun i e=>nq (i:Rat) (by rw[nText_int];exact e)⟩⟩⟩
 rw[show nm q=.tup [.int q.num,.int q.den] from rfl]
 sleep 8
 sleep 7
 refine eq_int true ?_
 by_cases hd:q.den=1
 ·refine .inl ⟨by simp[hd],?_⟩
  sleep 7
  exact yes _ (ts_eq_n hq hd) M1 x1
 ·refine .inr ⟨by simp;omega,?_⟩
  sleep 7
  (try simp only[dRaiseI])
  sleep 8
  refine no (fun i e=>hd ?_) M1 x1
  rw[<- nText_int,hq] at e
  have:q=(i:Rat):=nText_uniq e (by rw[<- hq];omega)
  rw[this];simp
noncomputable def S_14:DSp:=fun ds M Q E=>∃ x:Str,ds=[.str x]/\Asc x/\x.length<=60/\(∀ j:RJ,x=jText j->∀ M',MExt M M'->Q (rj j) M')/\((∀ j:RJ,x≠jText j)->∀ M',MExt M M'->E (.exc "NoText" .non) M')
noncomputable def C_14:CSs:=.cons (.set 1 (.split (.var 0) (.str " "))) (.cons (.ife (.cmp .NotEq (.bi .len (.cons (.var 1) (.nil))) (.int 3)) (.cons (.rsi "NoText" (.cons (.non) (.nil))) (.nil)) (.nil)) (.cons (.ret (.tup (.cons (.call "read_hour" S_13 (.cons (.ix (.var 1) (.int 0)) (.nil))) (.cons (.call "read_hour" S_13 (.cons (.ix (.var 1) (.int 1)) (.nil))) (.cons (.call "read_number" S_12 (.cons (.ix (.var 1) (.int 2)) (.nil))) (.nil)))))) (.nil)))
theorem vc_14:∀ ds M R E,S_14 ds M R E->rSs C_14 (ends R E) (startD 2 ds) M:=by
 rintro ds M R E ⟨x,rfl,asc,xl,yes,no⟩
 unfold C_14
 have few:=sp_few (sp x)
 rw[jn_sp] at few
 (try dsimp only);rw[rSs_cons];simp[0,and_assoc,sizeLine_eq,rSs_nil,diZip,diSeq,dFld,dMeth,dMake,dSetF,dSplit]
 refine⟨by decide,by omega,by show (sp x).length<=_;omega,fun p M1 e1 x1 l1=>?_⟩
 sleep 7
 refine⟨_,l1,?_⟩
 refine eq_int true ?_
 have bad:(sp x).length≠3->∀ j:RJ,x≠jText j:=fun h j e=>h (by rw[e,sp_jText];rfl)
 by_cases h3:(sp x).length=3
 ·refine .inl ⟨by rw[List.length_map,show (Txt.split x " ").length=3 from h3];rfl,?_⟩
  obtain⟨a,b,c,e⟩:=len3 h3
  have ex:x=jn [a,b,c]:=by rw[<- e,jn_sp]
  have xc:=congrArg (fun s=>s.cps.toList) ex
  simp only[jn_two,jn_one] at xc
  have aa:Asc a:=fun z hz=>asc z (by rw[xc];simp[hz])
  have ab:Asc b:=fun z hz=>asc z (by rw[xc];simp[hz])
  have ac:Asc c:=fun z hz=>asc z (by rw[xc];simp[hz])
  have xn:=congrArg List.length xc
  simp only[List.length_append,List.length_cons,len_cps] at xn
  have l1':M1 p=some (.ls [.str a,.str b,.str c]):=by rw[l1,show Txt.split x " "=[a,b,c] from e];rfl
  have ne:∀ j:RJ,x=jText j->a=ts j.a/\b=ts j.d/\c=nText j.w:=fun j ej=>by
   have:=sp_jText j
   rw[<- ej,e] at this
   simpa using this
  sleep 7
  refine⟨_,.str a,l1',rfl,a,rfl,aa,by omega,fun i hi M2 x2=>?_,fun na M2 x2=>no (fun j ej=>na _ (ne j ej).1) M2 (x1.trans x2)⟩
  refine⟨_,.str b,x2 _ _ l1',rfl,b,rfl,ab,by omega,fun i2 hi2 M3 x3=>?_,fun nb M3 x3=>no (fun j ej=>nb _ (ne j ej).2.1) M3 (x1.trans (x2.trans x3))⟩
  refine⟨_,.str c,x3 _ _ (x2 _ _ l1'),rfl,_,rfl,.inl ⟨c,rfl,ac,by omega,⟨fun q hq M4 x4=>?_,fun nq M4 x4=>no (fun j ej=>nq _ (ne j ej).2.2) M4 (x1.trans (x2.trans (x3.trans x4)))⟩⟩⟩
  exact yes ⟨i,i2,q⟩ (by rw[ex,hi,hi2,hq];rfl) M4 (x1.trans (x2.trans (x3.trans x4)))
 ·refine .inr ⟨by rw[List.length_map];simp;show ¬ (((sp x).length:Int)=3);omega,?_⟩
  sleep 7
  (try simp only[dRaiseI])
  sleep 8
  exact no (bad h3) M1 x1
end K
end
noncomputable section
namespace K
open PySem DL Q
structure SzJ (j:RJ):Prop where
 a:j.a.natAbs<2 ^ 210
 d:j.d.natAbs<2 ^ 210
 w:Sz 200 j.w
theorem szJ_of {j:RJ} (h:(jText j).length<=60):SzJ j:=by
 rw[jText_len] at h
 have p1:(10:Nat) ^ 60<2 ^ 210:=by decide +kernel
 have h1:=ts_lt (i:=j.a) (k:=60) (by decide) (by omega)
 have h2:=ts_lt (i:=j.d) (k:=60) (by decide) (by omega)
 exact⟨by omega,by omega,nText_sz (by omega)⟩
noncomputable def okJ (j:RJ):Bool:=decide (0<=j.a)&&decide (j.a<j.d)&&decide (j.d<=24)&&decide (0<j.w)
noncomputable def S_8:DSp:=fun ds M Q E=>∃ j,ds=[rj j]/\SzJ j/\Q (.bl (okJ j)) M
noncomputable def C_8:CSs:=.cons (.ife (.or (.not (.bi .isinstance (.cons (.var 0) (.cons (.ty .tuple) (.nil))))) (.one (.cmp .NotEq (.bi .len (.cons (.var 0) (.nil))) (.int 3)))) (.cons (.ret (.bl false)) (.nil)) (.nil)) (.cons (.asg (.tup (.cons (.name 1) (.cons (.name 2) (.cons (.name 3) (.nil))))) (.var 0)) (.cons (.ife (.or (.not (.call "is_whole" S_4 (.cons (.var 1) (.nil)))) (.or (.not (.call "is_whole" S_4 (.cons (.var 2) (.nil)))) (.one (.not (.chain3 .LtE .Lt .LtE (.int 0) (.var 1) (.var 2) (.glo "MOST_HOURS" G_MOST_HOURS)))))) (.cons (.ret (.bl false)) (.nil)) (.nil)) (.cons (.ret (.and (.call "is_number" S_6 (.cons (.var 3) (.nil))) (.one (.call "is_less" S_7 (.cons (.glo "NOUGHT" G_NOUGHT) (.cons (.var 3) (.nil))))))) (.nil))))
theorem vc_8:∀ ds M R E,S_8 ds M R E->rSs C_8 (ends R E) (startD 4 ds) M:=by
 rintro ds M R E ⟨j,rfl,sj,q⟩
 rw[show rj j=.tup [.int j.a,.int j.d,nm j.w] from rfl]
 unfold C_8
 unfold okJ at q
 have sa:=sj.a
 have sd:=sj.d
 sleep 7
 refine eq_int true ?_
 simp
 sleep 7
 sleep 7
 refine⟨_,"int",rfl,rfl,?_⟩
 simp
 refine⟨_,"int",rfl,rfl,?_⟩
 simp[dChain3]
 sleep 8
 by_cases c1:0<=j.a
 ·refine .inr ⟨c1,?_⟩
  by_cases c2:j.a<j.d
  ·refine .inr ⟨c2,?_⟩
   by_cases c3:j.d<=24
   ·refine .inr ⟨c3,?_⟩
    rw[decide_eq_true c1,decide_eq_true c2,decide_eq_true c3] at q
    sleep 7
    refine⟨nm j.w,rfl,gnm sj.w (by decide),?_⟩
    rw[isNum_nm]
    simp
    refine⟨0,j.w,rfl,.mk (m:=1) (n:=200) ⟨by decide,by decide⟩ sj.w (by decide),?_⟩
    simpa using q
   ·refine .inl ⟨by omega,?_⟩
    rw[decide_eq_false c3] at q
    sleep 7
    simpa using q
  ·refine .inl ⟨by omega,?_⟩
   rw[decide_eq_false c2] at q
   sleep 7
   simpa using q
 ·refine .inl ⟨by omega,?_⟩
  rw[decide_eq_false c1] at q
  sleep 7
  simpa using q
noncomputable def Le2 (x y:RJ):Prop:=x.a<=y.a/\x.d<=y.d
structure GoodJ (r:List RJ):Prop where
 one:1<=r.length
 most:r.length<=12
 ok:∀ j∈r,okJ j=true
 mon:r.Pairwise Le2
theorem rj_zip {r:List RJ}:zipD (r.map rj) (cutG (r.map rj) (some 1) none)=(List.range (r.length-1)).map fun i=>.tup [rj (r.getD i ⟨0,0,0⟩),rj (r.getD (i+1) ⟨0,0,0⟩)]:=by
 by_cases h1:1<=r.length
 ·rw[show (some (1:Int))=some ((1:Nat):Int) from rfl,cut_lo _ _ (by simpa using h1)]
  apply List.ext_getElem
  ·simp[zipD]
  ·intro i a b
   simp at b
   have h2:i<r.length:=by omega
   have h3:i+1<r.length:=by omega
   simp[zipD,List.getD,h2,h3,Nat.add_comm 1 i]
 ·have:r=[]:=List.length_eq_zero_iff.mp (by omega)
  subst this
  rfl
noncomputable def monJ (r:List RJ) (i:Nat):Bool:=decide ((r.getD i ⟨0,0,0⟩).a<=(r.getD (i+1) ⟨0,0,0⟩).a)&&decide ((r.getD i ⟨0,0,0⟩).d<=(r.getD (i+1) ⟨0,0,0⟩).d)
theorem mon_far {r:List RJ} (h:∀ i,i+1<r.length->Le2 (r.getD i ⟨0,0,0⟩) (r.getD (i+1) ⟨0,0,0⟩)):∀ k i,i+k+1<r.length->Le2 (r.getD i ⟨0,0,0⟩) (r.getD (i+k+1) ⟨0,0,0⟩)
 | 0,i,hi=>h i hi
 | k+1,i,hi=>by
  have h1:=mon_far h k i (by omega)
  have h2:=h (i+k+1) (by omega)
  exact⟨Int.le_trans h1.1 h2.1,Int.le_trans h1.2 h2.2⟩
theorem monJ_iff {r:List RJ}:(List.range (r.length-1)).all (monJ r)=true ↔ r.Pairwise Le2:=by
 rw[List.all_eq_true]
 constructor
 ·intro h
  rw[List.pairwise_iff_getElem]
  intro i j hi hj hij
  have:=mon_far (r:=r) (fun i hi=>by
   have:=h i (List.mem_range.mpr (by omega))
   unfold monJ at this
   rw[Bool.and_eq_true] at this
   exact⟨of_decide_eq_true this.1,of_decide_eq_true this.2⟩) (j-i-1) i (by omega)
  rw[show i+(j-i-1)+1=j by omega] at this
  simpa[List.getD,hi,hj] using this
 ·intro h i hi
  have hi:=List.mem_range.mp hi
  have h2:i<r.length:=by omega
  have h3:i+1<r.length:=by omega
  have:=List.pairwise_iff_getElem.mp h i (i+1) h2 h3 (by omega)
  unfold monJ
  simp only[List.getD,List.getElem?_eq_getElem,h2,h3,Option.getD_some]
  rw[decide_eq_true this.1,decide_eq_true this.2];rfl
noncomputable def S_9:DSp:=fun ds M Q E=>∃ r:List RJ,ds=[.tup (r.map rj)]/\r.length<=100/\(∀ j∈r,SzJ j)/\(GoodJ r->∀ M',MExt M M'->Q (.bl true) M')/\(¬ GoodJ r->∀ M',MExt M M'->Q (.bl false) M')
noncomputable def C_9:CSs:=.cons (.ife (.or (.not (.bi .isinstance (.cons (.var 0) (.cons (.ty .tuple) (.nil))))) (.one (.not (.chain .LtE .LtE (.int 1) (.bi .len (.cons (.var 0) (.nil))) (.glo "MOST_JOBS" G_MOST_JOBS))))) (.cons (.ret (.bl false)) (.nil)) (.nil)) (.cons (.ife (.not (.bi .all (.cons (.comp ["thing","part"] 1 (.name 1) (.seq (.var 0)) (.call "is_job" S_8 (.cons (.var 1) (.nil)))) (.nil)))) (.cons (.ret (.bl false)) (.nil)) (.nil)) (.cons (.ret (.bi .all (.cons (.comp ["thing","one","other"] 2 (.tup (.cons (.name 1) (.cons (.name 2) (.nil)))) (.zip (.cons (.var 0) (.cons (.sl (.var 0) (.some (.int 1)) (.none)) (.nil)))) (.and (.cmp .LtE (.ix (.var 1) (.int 0)) (.ix (.var 2) (.int 0))) (.one (.cmp .LtE (.ix (.var 1) (.int 1)) (.ix (.var 2) (.int 1)))))) (.nil)))) (.nil)))
theorem vc_9:∀ ds M R E,S_9 ds M R E->rSs C_9 (ends R E) (startD 1 ds) M:=by
 rintro ds M R E ⟨r,rfl,hl,sz,yes,no⟩
 unfold C_9
 sleep 7
 by_cases h1:1<=r.length
 ·have h1':(1:Int)<=(r.length:Int):=by omega
  by_cases h2:r.length<=12
  ·have h2':(r.length:Int)<=12:=by omega
   simp only[h1',h2',if_true]
   sleep 7
   refine comp_mapG r rj (fun j=>.bl (okJ j)) (fun R' r'=>⟨_,rfl,r' _ fun _ _=>trivial⟩) (by omega) ?_ ?_
   ·intro x hx l M' R' hl ee rr
    obtain⟨u,rfl⟩:=len1 hl
    sleep 8
    exact⟨x,rfl,sz x hx,rr [_] M' rfl (.refl M')⟩
   intro p2 M2 e2 x2 l2
   refine all_of l2 ?_
   cases ha:r.all okJ with
   | false =>
    simp
    sleep 7
    refine no (fun g=>?_) M2 x2
    rw[List.all_eq_true.mpr g.ok] at ha;cases ha
   | true =>
    simp
    sleep 7
    refine comp_mapG (List.range (r.length-1)) (fun i=>.tup [rj (r.getD i ⟨0,0,0⟩),rj (r.getD (i+1) ⟨0,0,0⟩)]) (fun i=>.bl (monJ r i)) ?_ (by simp;omega) ?_ ?_
    ·intro R' r'
     simp[0,and_assoc,sizeLine_eq,rSs_nil,diZip,diSeq,dFld,dMeth,dMake,dSetF,diZip,itZip]
     rw[rj_zip]
     exact r' _ fun _ _=>trivial
    ·intro i hi l M' R' hl' e r'
     obtain⟨u1,u2,rfl⟩:=len2 hl'
     have e2:monJ r i=(decide ((r.getD i ⟨0,0,0⟩).a<=(r.getD (i+1) ⟨0,0,0⟩).a)&&decide ((r.getD i ⟨0,0,0⟩).d<=(r.getD (i+1) ⟨0,0,0⟩).d)):=rfl
     generalize r.getD i ⟨0,0,0⟩=x at e2
     generalize r.getD (i+1) ⟨0,0,0⟩=y at e2
     have fin:=r' [some (rj x),some (rj y)] M' rfl (.refl _)
     rw[e2] at fin
     rw[show rj x=.tup [.int x.a,.int x.d,nm x.w] from rfl,show rj y=.tup [.int y.a,.int y.d,nm y.w] from rfl] at fin ⊢
     sleep 8
     refine tix (v:=.int x.a) (at_zero _ _) ?_
     refine tix (v:=.int y.a) (at_zero _ _) ?_
     by_cases c:x.a<=y.a
     ·simp[c] at fin ⊢
      refine tix (v:=.int x.d) (at_one _ _ _) ?_
      refine tix (v:=.int y.d) (at_one _ _ _) ?_
      simpa using fin
     ·simp[c] at fin ⊢
      exact fin
    intro p3 M3 e3 x3 l3
    refine all_of l3 ?_
    by_cases g:r.Pairwise Le2
    ·rw[monJ_iff.mpr g]
     exact yes ⟨h1,h2,fun j hj=>List.all_eq_true.mp ha j hj,g⟩ M3 (x2.trans x3)
    ·have:(List.range (r.length-1)).all (monJ r)=false:=by
      cases z:(List.range (r.length-1)).all (monJ r) with
      | false=>rfl
      | true=>exact absurd (monJ_iff.mp z) g
     rw[this]
     exact no (fun G=>g G.mon) M3 (x2.trans x3)
  ·have h2':¬ (r.length:Int)<=12:=by omega
   simp only[h1',h2',if_true,if_false]
   sleep 7
   exact no (fun g=>h2 g.most) M (.refl M)
 ·have h1':¬ (1:Int)<=(r.length:Int):=by omega
  simp only[h1',if_false]
  sleep 7
  exact no (fun g=>h1 g.one) M (.refl M)
end K
end
noncomputable section
namespace K
open PySem DL Q
theorem sepJ:Sep "; " 59 32:=⟨rfl,by decide,by decide +kernel⟩
noncomputable abbrev sc (x:Str):List Str:=Txt.split x "; "
noncomputable abbrev jc (l:List Str):Str:=Txt.join "; " l
structure BadJ (ps:List Str) (j:Nat):Prop where
 lt:j<ps.length
 ok:∃ r:List RJ,ps.take j=r.map jText/\(j=0\/GoodJ r)/\∀ q,ps[j]?=some (jText q)->¬ GoodJ (r++[q])
structure Tx2 (x:Str):Prop where
 len:x.length<=100000
 cnt:(sc x).length<=90
 prt:∀ p∈sc x,Asc p/\p.length<=60
noncomputable def RdJ (M:Mem) (d:DL.D) (Q E:DK):Prop :=
 (∃ x,d=.str x/\Tx2 x/\(∀ r:List RJ,sc x=r.map jText->GoodJ r->∀ M',MExt M M'->Q (.tup (r.map rj)) M')/\∀ j:Nat,BadJ (sc x) j->∀ M',MExt M M'->E (.exc "NoText" (.int j)) M') \/
 ∃ t,tyD M d=some t/\isiT t "str"=false/\∀ M',MExt M M'->E (.exc "NoText" .non) M'
noncomputable def S_15:DSp:=fun ds M Q E=>∃ d,ds=[d,.str "; ",.fn "read_job",.fn "is_jobs"]/\RdJ M d Q E
noncomputable def C_15:CSs:=.cons (.ife (.not (.bi .isinstance (.cons (.var 0) (.cons (.ty .str) (.nil))))) (.cons (.rsi "NoText" (.cons (.non) (.nil))) (.nil)) (.nil)) (.cons (.set 4 (.lst (.nil))) (.cons (.fr (.tup (.cons (.name 5) (.cons (.name 6) (.nil)))) (.enum (.cons (.split (.var 0) (.var 1)) (.nil))) (.cons (.trr (.cons (.expr (.app 4 (.callv 2 [("read_job",S_14)] (.cons (.var 6) (.nil))))) (.nil)) "NoText" "NoText" 5) (.cons (.ife (.not (.callv 3 [("is_jobs",S_9)] (.cons (.bi .tuple (.cons (.var 4) (.nil))) (.nil)))) (.cons (.rsi "NoText" (.cons (.var 5) (.nil))) (.nil)) (.nil)) (.nil)))) (.cons (.ret (.bi .tuple (.cons (.var 4) (.nil)))) (.nil))))
theorem vc_15:∀ ds M R E,S_15 ds M R E->rSs C_15 (ends R E) (startD 7 ds) M:=by
 rintro ds M R E ⟨d,rfl,⟨x,rfl,tx,good,bad⟩|⟨t,ht,hs,h⟩⟩
 ·unfold C_15
  sleep 7
  refine is_sT ?_
  simp
  sleep 7
  intro p M1 e1 x1 l1
  (try dsimp only);rw[rSs_cons];simp[0,and_assoc,sizeLine_eq,rSs_nil,diZip,diSeq,dFld,dMeth,dMake,dSetF,dFor,diEnum,itEnum,dSplit]
  refine⟨by decide,tx.len,by have:=tx.cnt;show (sc x).length<=_;omega,fun p1 M2 e2 x2 l2=>?_⟩
  refine⟨_,l2,?_⟩
  have np:p1≠p:=fun z=>by rw[z,l1] at e2;cases e2
  refine forD_ix (fun i δ M'=>∃ (r:List RJ) (w5 w6:Option DL.D),r.length=i/\i<=90/\(sc x).take i=r.map jText/\(i=0\/GoodJ r)/\MExt M M'/\M' p1=some (.ls ((sc x).map .str))/\M' p=some (.ls (r.map rj))/\δ=[some (.str x),some (.str "; "),some (.fn "read_job"),some (.fn "is_jobs"),some (.lst p),w5,w6]) (fun _ _ _ ⟨_,_,_,_,_,_,_,_,h,_⟩=>h) ?_ ?_ ⟨[],none,none,rfl,by decide,by simp,.inl rfl,x1.trans x2,l2,x2 _ _ l1,rfl⟩
  ·rintro δ M' ⟨r,w5,w6,rl,r25,rt,rk,xm,m1,m2,rfl⟩
   sleep 7
   have el:(enD ((sc x).map D.str)).length=(sc x).length:=by unfold enD;simp
   rw[el] at r25 rl rk
   have ne:=split_ne sepJ x
   have n0:(sc x).length≠0:=fun z=>ne (List.length_eq_zero_iff.mp z)
   refine⟨_,m2,good r ?_ (rk.resolve_left n0) M' xm⟩
   rw[el,List.take_length] at rt
   exact rt
  ·rintro i y hy N hN δ M' ⟨r,w5,w6,rl,r25,rt,rk,xm,m1,m2,rfl⟩
   obtain⟨hi,rfl⟩:∃ h:i<(sc x).length,y=.tup [.int (i:Int),.str (sc x)[i]]:=by
    obtain⟨h,e⟩:=List.getElem?_eq_some_iff.mp hy
    have h':i<(sc x).length:=by simpa[enD] using h
    exact⟨h',by rw[<- e];simp[enD]⟩
   have cn:=tx.cnt
   have pt:=tx.prt _ (List.getElem_mem hi)
   obtain⟨part,hpart⟩:∃ part,part=(sc x)[i]:=⟨_,rfl⟩
   rw[<- hpart] at pt ⊢
   sleep 8
   refine nx_gen fun J hJ=>?_
   have tail:∀ q M3,part=jText q->MExt M M3->M3 p1=some (.ls ((sc x).map .str))->M3 p=some (.ls ((r++[q]).map rj))->J [some (.str x),some (.str "; "),some (.fn "read_job"),some (.fn "is_jobs"),some (.lst p),some (.int i),some (.str part)] M3:=by
    intro q M3 eq x3 l3 l4
    refine hJ _ _ ?_
    have tk1:(sc x).take (i+1)=(r++[q]).map jText:=by
     rw[List.take_add_one,rt,List.getElem?_eq_getElem hi,<- hpart,eq];simp
    have szs:∀ z∈r++[q],SzJ z:=fun z hz=>by
     have hm:jText z∈(sc x).take (i+1):=by rw[tk1];exact List.mem_map_of_mem hz
     exact szJ_of (tx.prt _ (List.mem_of_mem_take hm)).2
    have rl':(r++[q]).length=i+1:=by simp[rl]
    sleep 7
    refine⟨_,l4,r++[q],rfl,by omega,szs,fun g M4 x4=>?_,fun g M4 x4=>?_⟩
    ·dsimp only
     rw[if_pos rfl]
     exact hN _ _ ⟨r++[q],_,_,rl',by omega,tk1,.inr g,x3.trans x4,x4 _ _ l3,x4 _ _ l4,rfl⟩
    ·dsimp only
     rw[if_neg (by decide)]
     sleep 7
     (try simp only[dRaiseI])
     sleep 8
     refine bad i ⟨hi,r,rt,rk,fun q' e=>?_⟩ M4 (x3.trans x4)
     rw[List.getElem?_eq_getElem hi,<- hpart,eq] at e
     have e2:=jText_uniq (Option.some.inj e) (by rw[<- eq];exact pt.2)
     rw[<- e2];exact g
   simp only[rS,dTrr]
   rw[rSs_cons]
   simp[0,and_assoc,sizeLine_eq,rSs_nil,diZip,diSeq,dFld,dMeth,dMake,dSetF]
   refine⟨⟨_,m2⟩,part,rfl,pt.1,pt.2,fun q e M3 x3=>?_,fun no M3 x3=>⟨"NoText",rfl,.inl rfl,bad i ⟨hi,r,rt,rk,fun q e=>absurd ?_ (no q)⟩ M3 (xm.trans x3)⟩⟩
   ·refine⟨_,x3 _ _ m2,by rw[List.length_map];omega,tail q _ e (MExt.upd_new e1 (xm.trans x3)) (by rw[mupd_ne np];exact x3 _ _ m1) (by rw[mupd_same];simp)⟩
   ·rw[List.getElem?_eq_getElem hi,<- hpart] at e
    exact Option.some.inj e
 ·unfold C_15
  sleep 7
  refine⟨t,ht,by simp,?_⟩
  rw[hs]
  simp
  sleep 7
  (try simp only[dRaiseI])
  sleep 8
  exact h M (.refl M)
noncomputable def S_16:DSp:=fun ds M Q E=>∃ d,ds=[d]/\RdJ M d Q E
noncomputable def C_16:CSs:=.cons (.ret (.call "read_parts" S_15 (.cons (.var 0) (.cons (.str "; ") (.cons (.glo "read_job" (.fn "read_job")) (.cons (.glo "is_jobs" (.fn "is_jobs")) (.nil))))))) (.nil)
theorem vc_16:∀ ds M R E,S_16 ds M R E->rSs C_16 (ends R E) (startD 1 ds) M:=by
 rintro ds M R E ⟨d,rfl,h⟩
 unfold C_16
 sleep 7
 exact⟨d,rfl,h⟩
structure ShJ (j:RJ):Prop where
 a:j.a.natAbs<2 ^ 20
 d:j.d.natAbs<2 ^ 20
 w:Sz 40 j.w
theorem int_text {i:Int} (h:i.natAbs<2 ^ 20):(ts i).length<=100/\i.natAbs.log2<1920:=by
 have s:Sz 200 ((i:Int):Rat):=⟨by simp;exact Nat.lt_of_lt_of_le h (show (2:Nat) ^ 20<=2 ^ 200 from pow_le (by decide)),by simp⟩
 obtain⟨l1,l2,g1,g2⟩:=sz_text s
 simp at l1 g1
 exact⟨by omega,g1⟩
theorem nT_len {q:Rat} (sq:Sz 200 q):(nText q).length<=201:=by
 obtain⟨l1,l2,_⟩:=sz_text sq
 unfold nText
 split
 ·omega
 ·simp only[strLen_append];show (ts q.num).length+1+(ts (q.den:Int)).length<=_;omega
noncomputable def S_17:DSp:=fun ds M Q E=>∃ j,ds=[rj j]/\ShJ j/\Q (.str (jText j)) M
noncomputable def C_17:CSs:=.cons (.asg (.tup (.cons (.name 1) (.cons (.name 2) (.cons (.name 3) (.nil))))) (.var 0)) (.cons (.ret (.fstrJ " " " " (.var 1) (.var 2) (.call "show_number" S_10 (.cons (.var 3) (.nil))))) (.nil))
theorem vc_17:∀ ds M R E,S_17 ds M R E->rSs C_17 (ends R E) (startD 4 ds) M:=by
 rintro ds M R E ⟨j,rfl,sj,q⟩
 rw[show rj j=.tup [.int j.a,.int j.d,nm j.w] from rfl]
 unfold C_17
 sleep 7
 (try dsimp only);rw[rSs_cons];simp[0,and_assoc,sizeLine_eq,rSs_nil,diZip,diSeq,dFld,dMeth,dMake,dSetF,dFstrJ]
 obtain⟨l1,g1⟩:=int_text sj.a
 obtain⟨l2,g2⟩:=int_text sj.d
 have sw:=sj.w.mono (n:=200) (by decide)
 have l3:=nT_len sw
 have sp1:(Str.ofString " ").length=1:=rfl
 rw[show Str.ofString j.a.repr=ts j.a from rfl,show Str.ofString j.d.repr=ts j.d from rfl]
 refine⟨g1,by simp only[strLen_append];omega,g2,by simp only[strLen_append];omega,by simp only[strLen_append];omega,j.w,rfl,sw,_,rfl,by omega,by simp only[strLen_append];omega,?_⟩
 rw[jText_is] at q
 exact q
noncomputable def S_3:DSp:=fun ds M Q E=>∃ j,ds=[rj j]/\ShJ j/\Q (.str (jText j)) M
noncomputable def C_3:CSs:=.cons (.ret (.bin .Add (.bin .Add (.bin .Add (.bin .Add (.bi .str (.cons (.ix (.var 0) (.int 0)) (.nil))) (.str " ")) (.bi .str (.cons (.ix (.var 0) (.int 1)) (.nil)))) (.str " ")) (.call "_law_number_text" S_2 (.cons (.ix (.var 0) (.int 2)) (.nil))))) (.nil)
theorem vc_3:∀ ds M R E,S_3 ds M R E->rSs C_3 (ends R E) (startD 1 ds) M:=by
 rintro ds M R E ⟨j,rfl,sj,q⟩
 rw[show rj j=.tup [.int j.a,.int j.d,nm j.w] from rfl]
 unfold C_3
 obtain⟨l1,g1⟩:=int_text sj.a
 obtain⟨l2,g2⟩:=int_text sj.d
 have sw:=sj.w.mono (n:=200) (by decide)
 have l3:=nT_len sw
 have sl:sizeLine=16777216:=sizeLine_eq
 have sp1:(Str.ofString " ").length=1:=rfl
 rw[jText_is] at q
 sleep 7
 refine tix (v:=.int j.a) (at_zero _ _) ?_
 refine⟨g1,?_⟩
 rw[show Str.ofString j.a.repr=ts j.a from rfl]
 refine⟨by rw[sp1,sl];omega,?_⟩
 refine tix (v:=.int j.d) (at_one _ _ _) ?_
 refine⟨g2,?_⟩
 rw[show Str.ofString j.d.repr=ts j.d from rfl]
 refine⟨by simp only[strLen_append];omega,?_⟩
 refine⟨by simp only[strLen_append];omega,?_⟩
 refine tix (v:=nm j.w) (L2.atI_nat (j:=2) rfl) ?_
 refine⟨j.w,rfl,sw,by simp only[strLen_append];omega,q⟩
noncomputable def S_18:DSp:=fun ds M Q E=>∃ r:List RJ,ds=[.tup (r.map rj)]/\(∀ j∈r,ShJ j/\(jText j).length<=60)/\r.length<=12/\∀ M',MExt M M'->Q (.str (jc (r.map jText))) M'
theorem jok2 {L:List Str} (hl:L.length<=1000) (h:∀ p∈L,p.length<=60):JoinOk "; " L=true:=by
 refine PyProof.Rows.joinOk_of ?_
 have:∀ l:List Str,(∀ q∈l,q.length<=60)->(l.map (·.length)).sum<=l.length*60:=by
  intro l
  induction l with
  | nil=>intro _;simp
  | cons a l ih =>
   intro h
   have h1:=ih fun q hq=>h q (List.mem_cons_of_mem _ hq)
   have:=h a List.mem_cons_self
   simp only[List.map_cons,List.sum_cons,List.length_cons,Nat.succ_mul]
   omega
 have h1:=this L h
 have:("; ":Str).length=2:=rfl
 rw[this]
 omega
noncomputable def C_18:CSs:=.cons (.ret (.join (.str "; ") (.comp ["jobs","job"] 1 (.name 1) (.seq (.var 0)) (.call "show_job" S_17 (.cons (.var 1) (.nil)))))) (.nil)
theorem vc_18:∀ ds M R E,S_18 ds M R E->rSs C_18 (ends R E) (startD 1 ds) M:=by
 rintro ds M R E ⟨r,rfl,st,hl,q⟩
 unfold C_18
 (try dsimp only);rw[rSs_cons];simp[0,and_assoc,sizeLine_eq,rSs_nil,diZip,diSeq,dFld,dMeth,dMake,dSetF,dJoin]
 refine comp_mapG r rj (fun q=>.str (jText q)) (fun R' r'=>⟨_,rfl,r' _ fun _ _=>trivial⟩) (by omega) ?_ ?_
 ·intro q' hq' l M' R' hl' ee r'
  obtain⟨z,rfl⟩:=len1 hl'
  sleep 8
  exact⟨q',rfl,(st q' hq').1,r' [_] M' rfl (.refl _)⟩
 intro p M1 e1 x1 l1
 refine⟨p,rfl,r.map jText,by rw[l1,List.map_map];rfl,jok2 (by rw[List.length_map];omega) (fun x hx=>?_),q M1 x1⟩
 obtain⟨p,hp,rfl⟩:=List.mem_map.mp hx
 exact (st p hp).2
theorem GoodJ.pre {r:List RJ} (g:GoodJ r) {n:Nat} (h1:1<=n):GoodJ (r.take n) :=
 ⟨by have:=g.one;rw[List.length_take];omega,by have:=g.most;rw[List.length_take];omega,fun j hj=>g.ok j (List.mem_of_mem_take hj),g.mon.sublist (List.take_sublist _ _)⟩
theorem take_uniq {r r':List RJ} (e:r.map jText=r'.map jText) (h:∀ p∈r.map jText,p.length<=60):r=r':=by
 induction r generalizing r' with
 | nil=>cases r' with
  | nil=>rfl
  | cons b r'=>simp at e
 | cons a r ih=>cases r' with
  | nil=>simp at e
  | cons b r' =>
   simp at e
   rw[jText_uniq e.1 (h _ (by simp)),ih (r':=r') (by simpa using e.2) fun p hp=>h p (by simp at hp ⊢;exact .inr hp)]
theorem badJ_good {ps:List Str} {r:List RJ} {j:Nat} (hp:∀ p∈ps,p.length<=60) (h:ps=r.map jText) (g:GoodJ r):¬ BadJ ps j:=fun b=>by
 obtain⟨lt,r',e,_,no⟩:=b
 have rl:j<r.length:=by rw[h,List.length_map] at lt;exact lt
 have e1:(r.take j).map jText=r'.map jText:=by rw[<- e,h,List.map_take]
 have e2:=take_uniq e1 fun p hp'=>by
  rw[List.map_take,<- h] at hp'
  exact hp p (List.mem_of_mem_take hp')
 refine no r[j] (by rw[h];simp[rl]) ?_
 rw[<- e2,List.take_append_getElem rl]
 exact g.pre (by omega)
theorem badJ_one {ps:List Str} {i j:Nat} (hp:∀ p∈ps,p.length<=60) (a:BadJ ps i) (b:BadJ ps j):i=j:=by
 have key:∀ {i j:Nat},BadJ ps i->BadJ ps j->¬ i<j:=fun {i j} a b h=>by
  obtain⟨lt,r',e,g,_⟩:=b
  have gg:=g.resolve_left (by omega)
  obtain⟨lt2,r2,e2,_,no⟩:=a
  have hl:∀ p∈ps.take j,p.length<=60:=fun p hp'=>hp p (List.mem_of_mem_take hp')
  refine badJ_good (j:=i) hl e gg ⟨by rw[List.length_take];omega,r2,?_,?_,?_⟩
  ·rw[List.take_take,Nat.min_eq_left (by omega)];exact e2
  ·by_cases h0:i=0
   ·exact .inl h0
   ·right
    have e3:(r'.take i).map jText=r2.map jText:=by rw[List.map_take,<- e,List.take_take,Nat.min_eq_left (by omega),e2]
    have:=take_uniq e3 fun p hp'=>by
     rw[List.map_take,<- e] at hp'
     exact hl p (List.mem_of_mem_take hp')
    rw[<- this]
    exact gg.pre (by omega)
  ·intro q hq
   refine no q ?_
   rw[List.getElem?_take,if_pos h] at hq
   exact hq
 have h1:=key a b
 have h2:=key b a
 omega
noncomputable def Fits (M:Mem) (d:DL.D) (e:DL.D):Prop:=(∃ x,d=.str x/\Tx2 x/\∃ j:Nat,BadJ (sc x) j/\e=.int j)\/∃ t,tyD M d=some t/\isiT t "str"=false/\e=.non
noncomputable def S_20:DSp:=fun ds M Q E=>∃ d e,ds=[.fn "read_jobs",d,e]/\Fits M d e/\∀ M',MExt M M'->Q (.bl true) M'
noncomputable def C_20:CSs:=.cons (.set 3 (.non)) (.cons (.tri (.cons (.expr (.callv 0 [("read_jobs",S_16)] (.cons (.var 1) (.nil)))) (.nil)) "CordError" 4 3) (.cons (.ret (.and (.cmp .IsNot (.var 3) (.non)) (.and (.cmp .Eq (.call "_law_sort" S_19 (.cons (.var 3) (.nil))) (.int 0)) (.and (.cmp .Eq (.xfl "part" (.var 3)) (.var 2)) (.one (.not (.bi .isinstance (.cons (.xfl "part" (.var 3)) (.cons (.ty .bool) (.nil)))))))))) (.nil)))
theorem vc_20:∀ ds M R E,S_20 ds M R E->rSs C_20 (ends R E) (startD 5 ds) M:=by
 rintro ds M R E ⟨d,e,rfl,hf,q⟩
 unfold C_20
 sleep 7
 refine nx_gen fun J hJ=>?_
 have tail:∀ M2,MExt M M2->(e=.non\/∃ j:Nat,e=.int j)->J [some (.fn "read_jobs"),some d,some e,some (.exc "NoText" e),none] M2:=by
  intro M2 x2 he
  refine hJ _ _ ?_
  sleep 7
  refine⟨_,_,_,rfl,sort_text,fun M3 x3=>?_⟩
  dsimp only
  refine eq_int false ?_
  refine .inr ⟨by simp,?_⟩
  simp[0,and_assoc,sizeLine_eq,rSs_nil,diZip,diSeq,dFld,dMeth,dMake,dSetF,dXfl]
  refine⟨by decide,by decide,?_⟩
  rcases he with rfl|⟨j,rfl⟩
  ·refine⟨_,_,.non,.non,by simp[PyData.depth],?_⟩
   refine .inr ⟨by simp[PyData.eqv],by decide,by decide,?_⟩
   exact⟨_,rfl,by simp,.inl ⟨by rfl,q M3 (x2.trans x3)⟩⟩
  ·refine eq_int false ?_
   refine .inr ⟨by simp,by decide,by decide,?_⟩
   exact⟨_,rfl,by simp,.inl ⟨by rfl,q M3 (x2.trans x3)⟩⟩
 sleep 8
 sleep 7
 have ex:(e=.non\/∃ j:Nat,e=.int j)->∀ M2,MExt M M2->(∃ x,D.exc "NoText" e=D.exc x (xarg (D.exc "NoText" e)))/\J [some (.fn "read_jobs"),some d,some e,some (D.exc "NoText" e),none] M2:=fun he M2 x2=>⟨⟨_,rfl⟩,tail M2 x2 he⟩
 rcases hf with ⟨x,rfl,tx,j,bj,rfl⟩|⟨t,ht,hs,rfl⟩
 ·have pl':∀ p∈sc x,p.length<=60:=fun p hp=>(tx.prt p hp).2
  refine⟨_,rfl,.inl ⟨x,rfl,tx,fun r hr ok=>?_,fun j' bj' M2 x2=>?_⟩⟩
  ·exact absurd bj (badJ_good pl' hr ok)
  ·rw[badJ_one pl' bj' bj];exact ex (.inr ⟨j,rfl⟩) M2 x2
 ·exact⟨_,rfl,.inr ⟨t,ht,hs,fun M2 x2=>ex (.inl rfl) M2 x2⟩⟩
end K
end
noncomputable section
namespace K
open PySem DL Q
noncomputable def oddJ:List Str:=[("":Str),(" ":Str),("0":Str),("0 1":Str),("0 1 ":Str),(" 0 1 1":Str),("0  1 1":Str),("0 1 1 1":Str),("0 1 0":Str),("0 1 -1":Str),("0 1 2/4":Str),("0 1 3/1":Str),("0 1 x":Str),("0 1 1;":Str),("0 0 1":Str),("1 1 1":Str),("3 2 1":Str),("-1 2 1":Str),("0 25 1":Str),("24 24 1":Str),("00 1 1":Str),("0 01 1":Str),("+0 1 1":Str),("0 1/2 1":Str),("1/2 1 1":Str),("0 1 +1":Str),("0 1 01":Str),("a b c":Str),("0,1,1":Str),("0 1 1,":Str),("0 24 0/5":Str),("0 99 1":Str),("0 1 1\n":Str),("0 1 -0":Str),("x 1 1":Str),("0 x 1":Str),("0\t1 1":Str),("0 1 1\t":Str),("\t0 1 1":Str)]
theorem no_24:∀ q,("2/4":Str)≠nText q:=no_low (a:=2) (b:=4) (by decide +kernel) (by decide +kernel) (by decide)
noncomputable def nn (x:Str):Bool:=!ckB x.cps.toList || decide (x="2/4")
theorem nn_no {x:Str} (h:nn x=true):∀ q,x≠nText q:=by
 unfold nn at h
 rw[Bool.or_eq_true] at h
 rcases h with h|h
 ·exact no_ck (by simpa using h)
 ·rw[of_decide_eq_true h];exact no_24
noncomputable def ni (x:Str):Bool:=!ckB x.cps.toList || x.cps.toList.contains 47
theorem ni_no {x:Str} (h:ni x=true):∀ i:Int,x≠ts i:=fun i e=>by
 unfold ni at h
 rw[Bool.or_eq_true] at h
 rcases h with h|h
 ·exact no_ck (x:=x) (by simpa using h) (i:Rat) (by rw[nText_int];exact e)
 ·rw[List.contains_iff_mem,e] at h
  exact ts_no h
noncomputable def inf2B (c d:Nat):List Nat->Bool
 | []=>false
 | [_]=>false
 | x::y::r=>(x==c&&y==d) || inf2B c d (y::r)
theorem inf2B_ok {c d:Nat}:∀ {l:List Nat},inf2B c d l=false->¬ Inf2 c d l
 | [],_,⟨a,b,e⟩=>by simp at e
 | [x],_,⟨a,b,e⟩=>by
  have:=congrArg List.length e
  simp at this
  omega
 | x::y::r,h,⟨a,b,e⟩=>by
  unfold inf2B at h
  rw[Bool.or_eq_false_iff] at h
  cases a with
  | nil =>
   simp at e
   obtain⟨rfl,rfl,_⟩:=e
   simp at h
  | cons z a =>
   simp at e
   exact inf2B_ok h.2 ⟨a,b,e.2⟩
noncomputable def chk3:List Str->Bool
 | [a,b,c]=>ni a || ni b || nn c
 | _=>true
theorem chk3_no {o:Str} (h:chk3 (sp o)=true):∀ q,o≠jText q:=fun q e=>by
 rw[e,sp_jText] at h
 unfold chk3 at h
 rw[Bool.or_eq_true,Bool.or_eq_true] at h
 rcases h with (h|h)|h
 ·exact ni_no h _ rfl
 ·exact ni_no h _ rfl
 ·exact nn_no h _ rfl
noncomputable def spJ:List (Str×RJ):=[(("0 1 0":Str),⟨0,1,0⟩),(("0 1 -1":Str),⟨0,1,-1⟩),(("0 0 1":Str),⟨0,0,1⟩),(("1 1 1":Str),⟨1,1,1⟩),(("3 2 1":Str),⟨3,2,1⟩),(("-1 2 1":Str),⟨-1,2,1⟩),(("0 25 1":Str),⟨0,25,1⟩),(("24 24 1":Str),⟨24,24,1⟩),(("0 99 1":Str),⟨0,99,1⟩)]
theorem spJ_ok:∀ s∈spJ,s.1=jText s.2/\okJ s.2=false/\s.1.length<=60:=by decide +kernel
theorem oddJ_chk:∀ o∈oddJ,(inf2B 59 32 o.cps.toList=false/\o.cps.toList.all (fun c=>decide (c<128))=true/\o.length<=60)/\(chk3 (sp o) || (spJ.map (·.1)).contains o)=true:=by decide +kernel
structure Prt (p:Str):Prop where
 fr:¬ Inf2 59 32 p.cps.toList
 asc:Asc p
 len:p.length<=60
structure OddJ (o:Str):Prop where
 prt:Prt o
 no:∀ q,okJ q=true->o≠jText q
theorem oddJ_ok {o:Str} (ho:o∈oddJ):OddJ o:=by
 obtain⟨⟨h1,h2,h3⟩,h⟩:=oddJ_chk o ho
 refine⟨⟨inf2B_ok h1,asc_of h2,h3⟩,?_⟩
 rw[Bool.or_eq_true] at h
 rcases h with h|h
 ·exact fun q _=>chk3_no h q
 ·have hm:o∈spJ.map (·.1):=by simpa using h
  obtain⟨s,hs,rfl⟩:=List.mem_map.mp hm
  obtain⟨k1,k2,k3⟩:=spJ_ok s hs
  intro q hq e
  have:=jText_uniq (k1.symm.trans e) (by rw[<- k1];exact k3)
  rw[<- this,k2] at hq;cases hq
noncomputable def S_21:DSp:=fun ds M Q E=>ds=[]/\∀ p M',MExt M M'->M' p=some (.ls (oddJ.map .str))->Q (.lst p) M'
noncomputable def C_21:CSs:=.cons (.set 0 (.lst (.cons (.str "") (.cons (.str " ") (.cons (.str "0") (.cons (.str "0 1") (.cons (.str "0 1 ") (.cons (.str " 0 1 1") (.cons (.str "0  1 1") (.cons (.str "0 1 1 1") (.cons (.str "0 1 0") (.cons (.str "0 1 -1") (.cons (.str "0 1 2/4") (.nil)))))))))))))) (.cons (.set 0 (.bin .Add (.var 0) (.lst (.cons (.str "0 1 3/1") (.cons (.str "0 1 x") (.cons (.str "0 1 1;") (.nil))))))) (.cons (.set 0 (.bin .Add (.var 0) (.lst (.cons (.str "0 0 1") (.cons (.str "1 1 1") (.cons (.str "3 2 1") (.cons (.str "-1 2 1") (.cons (.str "0 25 1") (.cons (.str "24 24 1") (.cons (.str "00 1 1") (.cons (.str "0 01 1") (.cons (.str "+0 1 1") (.nil))))))))))))) (.cons (.set 0 (.bin .Add (.var 0) (.lst (.cons (.str "0 1/2 1") (.cons (.str "1/2 1 1") (.nil)))))) (.cons (.set 0 (.bin .Add (.var 0) (.lst (.cons (.str "0 1 +1") (.cons (.str "0 1 01") (.cons (.str "a b c") (.cons (.str "0,1,1") (.cons (.str "0 1 1,") (.cons (.str "0 24 0/5") (.cons (.str "0 99 1") (.cons (.str "0 1 1\n") (.cons (.str "0 1 -0") (.nil))))))))))))) (.cons (.ret (.bin .Add (.var 0) (.lst (.cons (.str "x 1 1") (.cons (.str "0 x 1") (.cons (.str "0\t1 1") (.cons (.str "0 1 1\t") (.cons (.str "\t0 1 1") (.nil))))))))) (.nil))))))
theorem vc_21:∀ ds M R E,S_21 ds M R E->rSs C_21 (ends R E) (startD 1 ds) M:=by
 rintro ds M R E ⟨rfl,q⟩
 unfold C_21
 sleep 7
 intro p1 M1 e1 x1 l1
 sleep 7
 intro p2 M2 e2 x2 l2
 refine⟨_,x2 _ _ l1,_,l2,by simp,?_⟩
 intro p3 M3 e3 x3 l3
 sleep 7
 intro p4 M4 e4 x4 l4
 refine⟨_,x4 _ _ l3,_,l4,by simp,?_⟩
 intro p5 M5 e5 x5 l5
 sleep 7
 intro p6 M6 e6 x6 l6
 refine⟨_,x6 _ _ l5,_,l6,by simp,?_⟩
 intro p7 M7 e7 x7 l7
 sleep 7
 intro p8 M8 e8 x8 l8
 refine⟨_,x8 _ _ l7,_,l8,by simp,?_⟩
 intro p9 M9 e9 x9 l9
 sleep 7
 intro pA MA eA xA lA
 refine⟨_,xA _ _ l9,_,lA,by simp,?_⟩
 intro pB MB eB xB lB
 refine q pB MB (x1.trans (x2.trans (x3.trans (x4.trans (x5.trans (x6.trans (x7.trans (x8.trans (x9.trans (xA.trans xB)))))))))) ?_
 rw[lB]
 simp only[oddJ,List.map_cons,List.map_nil,List.cons_append,List.nil_append]
theorem pw_add {r:List RJ} {q:RJ} (h:r.Pairwise Le2) (hq:∀ j∈r,Le2 j q):(r++[q]).Pairwise Le2:=by
 rw[List.pairwise_append]
 exact⟨h,by simp,fun a ha b hb=>by simp at hb;rw[hb];exact hq a ha⟩
structure LJ (j:RJ):Prop where
 ok:okJ j=true
 w:Sz 10 j.w
theorem ts_small {i:Int} (h0:0<=i) (h:i<=24):(ts i).length<=2:=by
 obtain⟨n,rfl⟩:=Int.eq_ofNat_of_zero_le h0
 have:∀ n<25,(ts ((n:Nat):Int)).length<=2:=by decide +kernel
 exact this n (by omega)
theorem LJ.get {j:RJ} (h:LJ j):0<=j.a/\j.a<j.d/\j.d<=24/\0<j.w:=by
 have:=h.ok
 unfold okJ at this
 simpa[and_assoc] using this
theorem LJ.sh {j:RJ} (h:LJ j):ShJ j/\(jText j).length<=60:=by
 obtain⟨h1,h2,h3,h4⟩:=h.get
 refine⟨⟨by omega,by omega,h.w.mono (by decide)⟩,?_⟩
 rw[jText_len]
 have a:=ts_small h1 (by omega)
 have b:=ts_small (i:=j.d) (by omega) h3
 have c:=nText_len (q:=j.w) (k:=4) (by decide) (by have:=h.w.1;omega) (by have:=h.w.2;omega)
 omega
noncomputable def S_25:DSp:=fun ds M Q E=>∃ (a:Addr),ds=[.lst a,.int 11]/\Pk M a/\∀ (r:List RJ) M',GoodJ r->r.length<=11->(∀ j∈r,LJ j)->Dr a M M'->Q (.tup (r.map rj)) M'
noncomputable def C_25:CSs:=.cons (.set 2 (.lst (.nil))) (.cons (.asg (.tup (.cons (.name 3) (.cons (.name 4) (.nil)))) (.tup (.cons (.int 0) (.cons (.int 0) (.nil))))) (.cons (.fr (.name 5) (.rng (.cons (.bin .Add (.int 1) (.call "_law_take" S_22 (.cons (.var 0) (.cons (.var 1) (.nil))))) (.nil))) (.cons (.set 3 (.bi .min (.cons (.bin .Add (.var 3) (.call "_law_take" S_22 (.cons (.var 0) (.cons (.int 4) (.nil))))) (.cons (.int 22) (.nil))))) (.cons (.set 4 (.bi .min (.cons (.bi .max (.cons (.bin .Add (.var 4) (.call "_law_take" S_22 (.cons (.var 0) (.cons (.int 3) (.nil))))) (.cons (.bin .Add (.bin .Add (.var 3) (.int 1)) (.call "_law_take" S_22 (.cons (.var 0) (.cons (.int 4) (.nil))))) (.nil)))) (.cons (.int 24) (.nil))))) (.cons (.expr (.app 2 (.tup (.cons (.var 3) (.cons (.var 4) (.cons (.call "_law_low" S_24 (.cons (.bin .Add (.int 1) (.call "_law_take" S_22 (.cons (.var 0) (.cons (.int 30) (.nil))))) (.cons (.ix (.lst (.cons (.int 1) (.cons (.int 1) (.cons (.int 2) (.cons (.int 3) (.nil)))))) (.call "_law_take" S_22 (.cons (.var 0) (.cons (.int 4) (.nil))))) (.nil)))) (.nil))))))) (.nil))))) (.cons (.ret (.bi .tuple (.cons (.var 2) (.nil)))) (.nil))))
theorem vc_25:∀ ds M R E,S_25 ds M R E->rSs C_25 (ends R E) (startD 6 ds) M:=by
 rintro ds M R E ⟨a,rfl,pk,q⟩
 unfold C_25
 sleep 7
 intro p0 M0 e0 x0 l0
 have hpa:=pk.ne e0
 sleep 7
 sleep 9
 refine take_ok (pk.ext x0) (by decide) (by decide) fun n M2 n0 n1 y2=>?_
 rw[l_addI]
 (try dsimp only)
 refine⟨by omega,by omega,?_⟩
 refine forD_ix (fun i δ M'=>∃ (r:List RJ) (c d:Int) (w5:Option DL.D),Dr a M M'/\M' p0=some (.ls (r.map rj))/\r.length=i/\(∀ j∈r,LJ j/\j.a<=c/\j.d<=d)/\r.Pairwise Le2/\0<=c/\c<=22/\0<=d/\d<=24/\δ=[some (.lst a),some (.int 11),some (.lst p0),some (.int c),some (.int d),w5]) (fun _ _ _ _=>trivial) ?_ ?_ ⟨[],0,0,_,(Dr.ext pk x0).trans y2,y2.keep _ _ hpa l0,rfl,nofun,.nil,by decide,by decide,by decide,by decide,rfl⟩
 ·rintro δ M3 ⟨r,c,d,w5,y3,l3,jl,hj,pw,c0,cc,d0,dd,rfl⟩
  rw[rngD_len] at jl
  sleep 7
  refine⟨_,l3,q r M3 ⟨by omega,by omega,fun j h=>(hj j h).1.ok,pw⟩ (by omega) (fun j h=>(hj j h).1) y3⟩
 ·rintro i z hz N hN δ M3 ⟨r,c,d,w5,y3,l3,jl,hj,pw,c0,cc,d0,dd,rfl⟩
  obtain⟨rfl,hi'⟩:=rngD_at hz
  sleep 8
  sleep 7
  refine take_ok y3.pk (by decide) (by decide) fun u M4 u0 u1 y4=>?_
  rw[l_addI]
  sleep 8
  obtain⟨c',hc',cc',c23⟩:∃ c':Int,(if (22:Int)<c+u then 22 else c+u)=c'/\c<=c'/\c'<=22:=by
   split
   ·exact⟨22,rfl,by omega,by omega⟩
   ·exact⟨c+u,rfl,by omega,by omega⟩
  rw[hc']
  sleep 7
  refine take_ok y4.pk (by decide) (by decide) fun v M5 v0 v1 y5=>?_
  rw[l_addI]
  refine take_ok y5.pk (by decide) (by decide) fun v2 M6 v20 v21 y6=>?_
  rw[l_addI]
  sleep 8
  obtain⟨d',hd',dd',d24,cd⟩:∃ d':Int,(if 24<if d+v<c'+1+v2 then c'+1+v2 else d+v then 24 else if d+v<c'+1+v2 then c'+1+v2 else d+v)=d'/\d<=d'/\d'<=24/\c'<d':=by
   by_cases h1:d+v<c'+1+v2
   ·rw[if_pos h1]
    split
    ·exact⟨24,rfl,by omega,by omega,by omega⟩
    ·exact⟨_,rfl,by omega,by omega,by omega⟩
   ·rw[if_neg h1]
    split
    ·exact⟨24,rfl,by omega,by omega,by omega⟩
    ·exact⟨_,rfl,by omega,by omega,by omega⟩
  rw[hd']
  have l6:=y6.keep _ _ hpa (y5.keep _ _ hpa (y4.keep _ _ hpa l3))
  sleep 7
  refine⟨⟨_,l6⟩,?_⟩
  refine take_ok y6.pk (by decide) (by decide) fun s M7 s0 s1 y7=>?_
  rw[l_addI]
  sleep 8
  intro p8 M8 e8 x8 l8
  refine take_ok (y7.pk.ext x8) (by decide) (by decide) fun s' M9 s0' s1' y9=>?_
  sleep 8
  have n8:p8≠a:=y7.pk.ne e8
  have l9:=y9.keep _ _ n8 l8
  obtain⟨b,hb,b1,b3⟩:∃ b:Int,L2.atI [DL.D.int 1,DL.D.int 1,DL.D.int 2,DL.D.int 3] s'=some (.int b)/\1<=b/\b<=3:=by
   obtain⟨n,rfl⟩:=Int.eq_ofNat_of_zero_le s0'
   have:n=0\/n=1\/n=2\/n=3:=by omega
   rcases this with rfl|rfl|rfl|rfl
   ·exact⟨1,L2.atI_nat (j:=0) rfl,by decide,by decide⟩
   ·exact⟨1,L2.atI_nat (j:=1) rfl,by decide,by decide⟩
   ·exact⟨2,L2.atI_nat (j:=2) rfl,by decide,by decide⟩
   ·exact⟨3,L2.atI_nat (j:=3) rfl,by decide,by decide⟩
  refine⟨_,_,l9,hb,?_⟩
  refine⟨_,_,rfl,by omega,lt8000 (Nat.lt_of_lt_of_le (show b.natAbs<2 ^ 8 by omega) (pow_le (by decide))),?_⟩
  have sw:Sz 10 (Rat.divInt (1+s) b):=sz_divInt (n:=10) (by omega) (by omega) (by omega)
  have w0:(0:Rat)<Rat.divInt (1+s) b:=by
   rw[Rat.divInt_eq_div]
   have a1:(0:Rat)<((1+s:Int):Rat):=by exact_mod_cast (show (0:Int)<1+s by omega)
   have a2:(0:Rat)<((b:Int):Rat):=by exact_mod_cast (show (0:Int)<b by omega)
   rw[Rat.div_def]
   exact Rat.mul_pos a1 (Rat.inv_pos.mpr a2)
  generalize Rat.divInt (1+s) b=w at sw w0
  have l7:=y9.keep _ _ hpa (x8 _ _ (y7.keep _ _ hpa l6))
  have lj:LJ ⟨c',d',w⟩:=⟨by
   unfold okJ
   simp only[Bool.and_eq_true,decide_eq_true_eq]
   exact⟨⟨⟨by omega,cd⟩,d24⟩,w0⟩,sw⟩
  sleep 8
  refine⟨_,l7,by rw[List.length_map];omega,?_⟩
  refine hN _ _ ⟨r++[⟨c',d',w⟩],c',d',_,(y3.trans (y4.trans (y5.trans (y6.trans (y7.trans ((Dr.ext y7.pk x8).trans y9)))))).upd_new e0 hpa,?_,by simp;omega,?_,?_,by omega,c23,by omega,d24,rfl⟩
  ·rw[mupd_same,List.map_append];rfl
  ·intro j hj'
   rcases List.mem_append.mp hj' with h|h
   ·obtain⟨h1,h2,h3⟩:=hj j h
    exact⟨h1,by omega,by omega⟩
   ·simp at h;subst h
    exact⟨lj,Int.le_refl _,Int.le_refl _⟩
  ·exact pw_add pw fun i hi=>by obtain⟨h1,h2,h3⟩:=hj i hi;exact⟨Int.le_trans h2 cc',Int.le_trans h3 dd'⟩
end K
end
noncomputable section
namespace K
open PySem DL Q
theorem nText_no (q:Rat) {c:Nat} (h:c=59\/c=44):c ∉ (nText q).cps.toList:=fun hm=>by
 unfold nText at hm
 split at hm
 ·have:=ts_free hm;omega
 ·rw[sl_cps] at hm
  rcases List.mem_append.mp hm with hm|hm
  ·have:=ts_free hm;omega
  ·rcases List.mem_cons.mp hm with hm|hm
   ·omega
   ·have:=ts_free hm;omega
theorem jText_cps (j:RJ):(jText j).cps.toList=(ts j.a).cps.toList++32::((ts j.d).cps.toList++32::(nText j.w).cps.toList):=by
 unfold jText
 rw[jn_two,jn_two,jn_one]
theorem jText_free (j:RJ):¬ Inf2 59 32 (jText j).cps.toList:=fun h=>by
 have h:=(inf2_mem h).1
 rw[jText_cps] at h
 rcases List.mem_append.mp h with h|h
 ·have:=ts_free h;omega
 rcases List.mem_cons.mp h with h|h
 ·omega
 rcases List.mem_append.mp h with h|h
 ·have:=ts_free h;omega
 rcases List.mem_cons.mp h with h|h
 ·omega
 ·exact nText_no _ (.inl rfl) h
theorem ts_asc (i:Int):∀ c∈(ts i).cps.toList,c<128:=fun c h=>by have:=ts_free h;omega
theorem jText_asc (j:RJ):Asc (jText j):=fun c h=>by
 rw[jText_cps] at h
 rcases List.mem_append.mp h with h|h
 ·exact ts_asc _ c h
 rcases List.mem_cons.mp h with h|h
 ·omega
 rcases List.mem_append.mp h with h|h
 ·exact ts_asc _ c h
 rcases List.mem_cons.mp h with h|h
 ·omega
 ·exact nText_asc _ c h
theorem LJ.prt {j:RJ} (h:LJ j):Prt (jText j):=⟨jText_free j,jText_asc j,h.sh.2⟩
theorem tx2_of {L:List Str} (h0:L≠[]) (hl:L.length<=80) (h:∀ p∈L,Prt p):sc (jc L)=L/\Tx2 (jc L):=by
 have e:sc (jc L)=L:=split_j sepJ h0 fun p hp=>(h p hp).fr
 refine⟨e,?_,by rw[e];omega,by rw[e];exact fun p hp=>⟨(h p hp).asc,(h p hp).len⟩⟩
 have h1:=j_len sepJ (l:=L) (k:=60) fun p hp=>(h p hp).len
 have h2:L.length*62<=80*62:=Nat.mul_le_mul_right _ hl
 show (Txt.join "; " L).length<=_
 omega
theorem bad_at {r:List RJ} (g:GoodJ r) {n:Nat} (hn:n<=r.length) {o:Str} {B:List Str} (no:∀ q,o=jText q->¬ GoodJ (r.take n++[q])):BadJ ((r.take n).map jText++o::B) n:=by
 have al:((r.take n).map jText).length=n:=by rw[List.length_map,List.length_take];omega
 refine⟨by rw[List.length_append,List.length_cons];omega,r.take n,?_,?_,fun q e=>no q ?_⟩
 ·rw[List.take_append,al,Nat.sub_self,List.take_of_length_le (by omega)];simp
 ·by_cases h0:n=0
  ·exact .inl h0
  ·exact .inr (g.pre (by omega))
 ·rw[List.getElem?_append_right (by omega),al,Nat.sub_self] at e
  simpa using e
theorem OddJ.bad {o:Str} (h:OddJ o) {A:List RJ}:∀ q,o=jText q->¬ GoodJ (A++[q]):=fun q e g=>h.no q (g.ok q (by simp)) e
theorem enc_rj:EqEnc rj 4:=by
 obtain⟨f',g1,g2,g3⟩:=enc_nm.ex
 refine⟨fun j=>.tuple [.int j.a,.int j.d,f' j.w],fun M j=>.tup (.cons (.int _) (.cons (.int _) (.cons (g1 M _) .nil))),fun x y=>?_,fun j=>?_⟩
 ·obtain⟨a1,a2,a3⟩:=x
  obtain⟨b1,b2,b3⟩:=y
  simp only[PyData.eqv,PyData.eqvAll,g2,RJ.mk.injEq]
  by_cases z1:a1=b1<;>by_cases z2:a2=b2<;>by_cases z3:a3=b3<;>simp[z1,z2,z3]
 ·simp only[PyData.depth,PyData.depthAll]
  have:=g3 j.w;omega
theorem enc_rjs:EqEnc (fun r:List RJ=>.tup (r.map rj)) 5:=enc_rj.tup
theorem eq_rjs {M:Mem} {Q:DK} {a b:List RJ} (neg:Bool) (q:Q (.bl (if neg then !decide (a=b) else decide (a=b))) M):cEq neg (.tup (a.map rj)) (.tup (b.map rj)) M Q:=enc_rjs.eq (by decide) neg q
theorem str_assoc (a b c:Str):a++(b++c)=a++b++c:=str_ext (by simp only[str_app,List.append_assoc])
theorem jText_24 (i:Int):jText ⟨i,24,1⟩=ts i++(" 24 1":Str):=by
 rw[jText_is]
 have:(" 24 1":Str)=" "++ts 24++" "++nText 1:=by decide +kernel
 rw[this,str_assoc,str_assoc,str_assoc]
theorem jText_1 (i j:Int):jText ⟨i,j,1⟩=ts i++(" ":Str)++ts j++(" 1":Str):=by
 rw[jText_is]
 have:(" 1":Str)=" "++nText 1:=by decide +kernel
 rw[this,str_assoc]
theorem jc_add {ps:List Str} (ne:ps≠[]) (o:Str):jc (ps++[o])=jc ps++("; ":Str)++o:=by
 rw[show jc (ps++[o])=jc ps++("; ":Str)++jc [o] from j_app sepJ ne (by simp),show jc [o]=o from j_one _]
theorem t1_ok {a d:Int} (h0:0<=a) (h1:a<=24) (h2:0<=d) (h3:d<=24):Prt (jText ⟨a,d,1⟩):=by
 refine⟨jText_free _,jText_asc _,?_⟩
 rw[jText_len]
 have x:=ts_small h0 h1
 have y:=ts_small h2 h3
 have:(nText 1).length=1:=by decide +kernel
 dsimp only
 omega
theorem bad_end {r:List RJ} (g:GoodJ r) (r11:r.length<=11) {ps:List Str} (hps:ps=r.map jText) (pr:∀ p∈ps,Prt p) {o:Str} (ho:Prt o) (no:∀ q,o=jText q->¬ GoodJ (r++[q])):Tx2 (jc ps++("; ":Str)++o)/\BadJ (sc (jc ps++("; ":Str)++o)) ps.length:=by
 have pl':ps.length=r.length:=by rw[hps,List.length_map]
 have ne:ps≠[]:=fun z=>by rw[z] at pl';have:=g.one;simp at pl';omega
 obtain⟨e,tx⟩:=tx2_of (L:=ps++[o]) (by simp) (by simp;omega) fun p hp=>by
  rcases List.mem_append.mp hp with hp|hp
  ·exact pr p hp
  ·simp at hp;rw[hp];exact ho
 rw[jc_add ne] at e tx
 refine⟨tx,?_⟩
 rw[e,hps,List.length_map]
 have:=bad_at g (n:=r.length) (Nat.le_refl _) (o:=o) (B:=[]) (by rw[List.take_length];exact no)
 rw[List.take_length] at this
 exact this
theorem add_no {r:List RJ} {q l:RJ} (hl:l∈r) (h:¬ Le2 l q) (hq:(jText q).length<=60):∀ q',jText q=jText q'->¬ GoodJ (r++[q']):=fun q' e g=>by
 rw[<- jText_uniq e hq] at g
 exact h ((List.pairwise_append.mp g.mon).2.2 l hl q (by simp))
theorem x_ok:OddJ "x":=⟨⟨inf2B_ok (by decide +kernel),asc_of (by decide +kernel),by decide⟩,fun q _=>chk3_no (by decide +kernel) q⟩
theorem e_ok:OddJ "":=oddJ_ok (by decide)
noncomputable def S_23:DSp:=fun ds M Q E=>∃ (a:Addr) (r:List RJ),ds=[.lst a,.tup (r.map rj)]/\Pk M a/\GoodJ r/\r.length<=11/\(∀ j∈r,LJ j)/\∀ M',Dr a M M'->Q (.bl true) M'
noncomputable def C_23:CSs:=.cons (.set 2 (.comp ["_law_pack_here","_law_jobs_here","_law_pieces","_law_text","_law_found","_law_at","_law_odd","_law_arrival","_law_due","_law_less","_law_fallen","_law_job"] 1 (.name 11) (.seq (.var 1)) (.call "_law_job_text" S_3 (.cons (.var 11) (.nil))))) (.cons (.set 3 (.join (.str "; ") (.var 2))) (.cons (.set 4 (.call "read_jobs" S_16 (.cons (.var 3) (.nil)))) (.cons (.ife (.or (.cmp .NotEq (.call "show_jobs" S_18 (.cons (.var 1) (.nil))) (.var 3)) (.or (.cmp .NotEq (.var 4) (.var 1)) (.one (.cmp .IsNot (.call "is_jobs" S_9 (.cons (.var 4) (.nil))) (.bl true))))) (.cons (.ret (.bl false)) (.nil)) (.nil)) (.cons (.set 5 (.call "_law_take" S_22 (.cons (.var 0) (.cons (.bi .len (.cons (.var 2) (.nil))) (.nil))))) (.cons (.fr (.name 6) (.seq (.call "_law_odd_jobs" S_21 (.nil))) (.cons (.ife (.not (.call "_law_refused" S_20 (.cons (.glo "read_jobs" (.fn "read_jobs")) (.cons (.join (.str "; ") (.bin .Add (.bin .Add (.sl (.var 2) (.none) (.some (.var 5))) (.lst (.cons (.var 6) (.nil)))) (.sl (.var 2) (.some (.bin .Add (.var 5) (.int 1))) (.none)))) (.cons (.var 5) (.nil)))))) (.cons (.ret (.bl false)) (.nil)) (.nil)) (.nil))) (.cons (.asg (.tup (.cons (.name 7) (.cons (.name 8) (.nil)))) (.sl (.ix (.var 1) (.neg (.int 1))) (.none) (.some (.int 2)))) (.cons (.ife (.and (.cmp .Gt (.var 7) (.int 0)) (.one (.not (.call "_law_refused" S_20 (.cons (.glo "read_jobs" (.fn "read_jobs")) (.cons (.bin .Add (.bin .Add (.bin .Add (.var 3) (.str "; ")) (.bi .str (.cons (.bin .Sub (.var 7) (.int 1)) (.nil)))) (.str " 24 1")) (.cons (.bi .len (.cons (.var 2) (.nil))) (.nil)))))))) (.cons (.ret (.bl false)) (.nil)) (.nil)) (.cons (.set 9 (.bin .Add (.bin .Add (.bin .Add (.bin .Add (.bin .Add (.var 3) (.str "; ")) (.bi .str (.cons (.var 7) (.nil)))) (.str " ")) (.bi .str (.cons (.bin .Sub (.var 8) (.int 1)) (.nil)))) (.str " 1"))) (.cons (.ife (.and (.cmp .Gt (.bin .Sub (.var 8) (.int 1)) (.var 7)) (.one (.not (.call "_law_refused" S_20 (.cons (.glo "read_jobs" (.fn "read_jobs")) (.cons (.var 9) (.cons (.bi .len (.cons (.var 2) (.nil))) (.nil)))))))) (.cons (.ret (.bl false)) (.nil)) (.nil)) (.cons (.set 10 (.join (.str "; ") (.bin .Add (.bin .Add (.bin .Add (.sl (.var 2) (.none) (.some (.bin .Add (.var 5) (.int 1)))) (.lst (.cons (.str "0 24 1") (.nil)))) (.sl (.var 2) (.some (.bin .Add (.var 5) (.int 1))) (.none))) (.lst (.cons (.str "x") (.nil)))))) (.cons (.ife (.and (.cmp .Gt (.ix (.ix (.var 1) (.var 5)) (.int 0)) (.int 0)) (.one (.not (.call "_law_refused" S_20 (.cons (.glo "read_jobs" (.fn "read_jobs")) (.cons (.var 10) (.cons (.bin .Add (.var 5) (.int 1)) (.nil)))))))) (.cons (.ret (.bl false)) (.nil)) (.nil)) (.cons (.ret (.call "_law_refused" S_20 (.cons (.glo "read_jobs" (.fn "read_jobs")) (.cons (.bin .Add (.var 3) (.str "; ")) (.cons (.bi .len (.cons (.var 2) (.nil))) (.nil)))))) (.nil)))))))))))))
theorem vc_23:∀ ds M R E,S_23 ds M R E->rSs C_23 (ends R E) (startD 11 ds) M:=by
 rintro ds M R E ⟨a,r,rfl,pk,g,r11,lj,q⟩
 unfold C_23
 have r1:=g.one
 sleep 7
 refine comp_mapG r rj (fun j=>.str (jText j)) (fun R' r'=>⟨_,rfl,r' _ fun _ _=>trivial⟩) (by omega) ?_ ?_
 ·intro q' hq' l M' R' hl' ee r'
  obtain⟨z,rfl⟩:=len1 hl'
  sleep 8
  exact⟨q',rfl,(lj q' hq').sh.1,r' [_] M' rfl (.refl _)⟩
 intro p1 M1 e1 x1 l1
 rw[show r.map (fun j=>DL.D.str (jText j))=(r.map jText).map .str by rw[List.map_map];rfl] at l1
 have pl':(r.map jText).length=r.length:=List.length_map _
 obtain⟨ps,hps⟩:∃ ps,ps=r.map jText:=⟨_,rfl⟩
 have pr:∀ p∈ps,Prt p:=by
  rw[hps]
  intro p hp
  obtain⟨j,hj,rfl⟩:=List.mem_map.mp hp
  exact (lj j hj).prt
 have p60:∀ p∈ps,p.length<=60:=fun p hp=>(pr p hp).len
 rw[<- hps] at l1 pl'
 have ne:ps≠[]:=fun z=>by rw[z] at pl';simp at pl';omega
 obtain⟨es,tx⟩:=tx2_of ne (by omega) pr
 obtain⟨X,hX⟩:∃ X,X=jc ps:=⟨_,rfl⟩
 rw[<- hX] at es tx
 (try dsimp only);rw[rSs_cons];simp[0,and_assoc,sizeLine_eq,rSs_nil,diZip,diSeq,dFld,dMeth,dMake,dSetF,dJoin]
 refine⟨ps,l1,jok2 (by omega) (fun p hp=>(pr p hp).len),?_⟩
 rw[show Txt.join (Str.ofString "; ") ps=X from hX.symm]
 have Xl:X.length<=100000:=tx.len
 have Xa:(PyData.str X).canLay0=true:=str_lay (by rw[hX];exact j_asc sepJ (by decide) (by decide) fun p hp=>(pr p hp).asc)
 sleep 7
 refine⟨_,rfl,.inl ⟨X,rfl,tx,fun r' hr' ok' M2 x2=>?_,fun j bj=>absurd bj (badJ_good (by rw[es];exact p60) (es.trans hps) g)⟩⟩
 obtain rfl:r=r':=take_uniq (by rw[<- hps,<- es,hr']) (by rw[<- hps];exact p60)
 sleep 7
 refine⟨r,rfl,fun j hj=>(lj j hj).sh,by omega,fun M3 x3=>?_⟩
 rw[<- hps,<- hX]
 dsimp only
 refine eq_str true Xa Xa ?_
 refine .inl ⟨by simp,eq_rjs true ?_⟩
 refine .inl ⟨by simp,?_⟩
 refine⟨r,rfl,by omega,fun j hj=>szJ_of (lj j hj).sh.2,fun _ M3b x3b=>?_,fun ng=>absurd g ng⟩
 dsimp only
 refine .inl ⟨rfl,?_⟩
 have x3:=x3.trans x3b
 sleep 7
 refine⟨_,x3 _ _ (x2 _ _ l1),?_⟩
 sleep 8
 refine take_ok (((pk.ext x1).ext x2).ext x3) (by omega) (Nat.lt_of_lt_of_le (show (ps.length:Int).natAbs<2 ^ 10 by omega) (pow_le (by decide))) fun z M4 t0 t1 y4=>?_
 obtain⟨n,rfl⟩:=Int.eq_ofNat_of_zero_le t0
 have hn:n<r.length:=by omega
 have ne1:p1≠a:=pk.ne e1
 have ls4:M4 p1=some (.ls (ps.map .str)):=y4.keep _ _ ne1 (x3 _ _ (x2 _ _ l1))
 have y04:Dr a M M4:=(Dr.ext pk (x1.trans (x2.trans x3))).trans y4
 have c1:cutG (ps.map D.str) none (some (n:Int))=(ps.take n).map .str:=by rw[cut_map,cut_hi _ _ (by omega)]
 have c2:cutG (ps.map D.str) (some ((n:Int)+1)) none=(ps.drop (n+1)).map .str:=by rw[cut_map,show (n:Int)+1=((n+1:Nat):Int) by omega,cut_lo _ _ (by omega)]
 have c4:cutG (ps.map D.str) none (some ((n:Int)+1))=(ps.take (n+1)).map .str:=by rw[cut_map,show (n:Int)+1=((n+1:Nat):Int) by omega,cut_hi _ _ (by omega)]
 have tk:∀ n,ps.take n=(r.take n).map jText:=fun n=>by rw[hps,List.map_take]
 sleep 9
 refine⟨rfl,fun p5 M5 x5 l5=>?_⟩
 refine⟨_,l5,?_⟩
 refine forD_inv (fun δ M'=>Dr a M M'/\M' p1=some (.ls (ps.map .str))/\M' p5=some (.ls (oddJ.map .str))/\∃ w6,δ=[some (.lst a),some (.tup (r.map rj)),some (.lst p1),some (.str X),some (.tup (r.map rj)),some (.int n),w6,none,none,none,none]) (fun _ _ ⟨_,_,h,_⟩=>h) ?_ ?_ ⟨y04.trans (Dr.ext y04.pk x5),x5 _ _ ls4,l5,_,rfl⟩
 ·rintro δ M' ⟨yy,m1,m5,w6,rfl⟩
  obtain⟨l,hl,hat⟩:∃ l∈r,L2.atI (r.map rj) (-1)=some (rj l):=by
   have hne:r≠[]:=fun e=>by rw[e] at r1;simp at r1
   refine⟨r.getLast hne,List.getLast_mem hne,?_⟩
   have hm:r.map rj≠[]:=by simpa using hne
   rw[at_last hm,List.getLast_map]
  obtain⟨g1,g2,g3,g4⟩:=(lj l hl).get
  sleep 7
  refine tix hat ?_
  rw[show rj l=.tup [.int l.a,.int l.d,nm l.w] from rfl,l_slT]
  rw[show cutG [DL.D.int l.a,.int l.d,nm l.w] none (some 2)=[.int l.a,.int l.d] from rfl]
  sleep 8
  refine nx_gen fun J hJ=>?_
  have sl:sizeLine=16777216:=sizeLine_eq
  obtain⟨la,ga⟩:=int_text (i:=l.a) (by omega)
  have s2:(Str.ofString "; ").length=2:=rfl
  have s3:(Str.ofString " 24 1").length=5:=rfl
  have s4:(Str.ofString " 1").length=2:=rfl
  have s5:(Str.ofString " ").length=1:=rfl
  obtain⟨ld,gd⟩:=int_text (i:=l.d-1) (by omega)
  have tail1:∀ M6,Dr a M M6->M6 p1=some (.ls (ps.map .str))->J [some (.lst a),some (.tup (r.map rj)),some (.lst p1),some (.str X),some (.tup (r.map rj)),some (.int n),w6,some (.int l.a),some (.int l.d),none,none] M6:=by
   intro M6 y6 m6
   refine hJ _ _ ?_
   sleep 7
   refine⟨by omega,ga,?_⟩
   rw[show Str.ofString l.a.repr=ts l.a from rfl,show Str.ofString (l.d-1).repr=ts (l.d-1) from rfl]
   refine⟨by simp only[strLen_append];omega,by simp only[strLen_append];omega,gd,?_⟩
   refine⟨by simp only[strLen_append];omega,by simp only[strLen_append];omega,?_⟩
   have eT:X++Str.ofString "; "++ts l.a++Str.ofString " "++ts (l.d-1)++Str.ofString " 1"=jc ps++("; ":Str)++jText ⟨l.a,l.d-1,1⟩:=by
    rw[jText_1,<- hX,str_assoc,str_assoc,str_assoc]
   rw[eT]
   refine nx_gen fun J2 hJ2=>?_
   have tail2:∀ M6,Dr a M M6->M6 p1=some (.ls (ps.map .str))->J2 [some (.lst a),some (.tup (r.map rj)),some (.lst p1),some (.str X),some (.tup (r.map rj)),some (.int n),w6,some (.int l.a),some (.int l.d),some (.str (jc ps++("; ":Str)++jText ⟨l.a,l.d-1,1⟩)),none] M6:=by
    intro M6 y6 m6
    refine hJ2 _ _ ?_
    (try dsimp only);rw[rSs_cons];simp[0,and_assoc,sizeLine_eq,rSs_nil,diZip,diSeq,dFld,dMeth,dMake,dSetF,dJoin]
    refine⟨_,m6,?_⟩
    rw[c4]
    intro p7 M7 e7 x7 l7 p8 M8 e8 x8 l8
    refine⟨_,x8 _ _ l7,_,l8,by simp;omega,?_⟩
    intro p9 M9 e9 x9 l9
    refine⟨_,x9 _ _ (x8 _ _ (x7 _ _ m6)),?_⟩
    rw[c2]
    intro pA MA eA xA lA
    refine⟨_,xA _ _ l9,_,lA,by simp;omega,?_⟩
    intro pB MB eB xB lB pC MC eC xC lC
    refine⟨_,xC _ _ lB,_,lC,by simp;omega,?_⟩
    intro pD MD eD xD lD
    have x6D:=x7.trans (x8.trans (x9.trans (xA.trans (xB.trans (xC.trans xD)))))
    obtain⟨Y,hY⟩:∃ Y,Y=(r.take (n+1)).map jText++("0 24 1":Str)::(ps.drop (n+1)++[("x":Str)]):=⟨_,rfl⟩
    have lY:MD pD=some (.ls (Y.map .str)):=by rw[lD,hY,<- tk];simp
    have p241:("0 24 1":Str)=jText ⟨0,24,1⟩:=by decide +kernel
    have prY:∀ p∈Y,Prt p:=by
     intro p hp
     rw[hY,<- tk] at hp
     rcases List.mem_append.mp hp with hp|hp
     ·exact pr p (List.mem_of_mem_take hp)
     rcases List.mem_cons.mp hp with rfl|hp
     ·rw[p241];exact t1_ok (by decide) (by decide) (by decide) (by decide)
     rcases List.mem_append.mp hp with hp|hp
     ·exact pr p (List.mem_of_mem_drop hp)
     ·obtain rfl:p="x":=by simpa using hp
      exact x_ok.prt
    have Yl:Y.length=r.length+2:=by rw[hY,<- tk];simp;omega
    obtain⟨eY,tY⟩:=tx2_of (fun z=>by rw[z] at Yl;simp at Yl) (by omega) prY
    refine⟨Y,lY,jok2 (by omega) fun p hp=>(prY p hp).len,?_⟩
    rw[show Txt.join (Str.ofString "; ") Y=jc Y from rfl]
    have yD:=y6.trans (Dr.ext y6.pk x6D)
    have mD:=x6D _ _ m6
    refine nx_gen fun J3 hJ3=>?_
    have tail3:∀ M6,Dr a M M6->M6 p1=some (.ls (ps.map .str))->J3 [some (.lst a),some (.tup (r.map rj)),some (.lst p1),some (.str X),some (.tup (r.map rj)),some (.int n),w6,some (.int l.a),some (.int l.d),some (.str (jc ps++("; ":Str)++jText ⟨l.a,l.d-1,1⟩)),some (.str (jc Y))] M6:=by
     intro M6 y6 m6
     refine hJ3 _ _ ?_
     sleep 7
     obtain⟨tB,bB⟩:=bad_end g r11 hps pr e_ok.prt (o:="") e_ok.bad
     have eE:X++Str.ofString "; "=jc ps++("; ":Str)++("":Str):=by
      rw[<- hX];exact str_ext (by rw[str_app,str_app,str_app,show ("":Str).cps.toList=[] from rfl,List.append_nil])
     refine⟨by omega,_,m6,?_⟩
     rw[eE]
     exact⟨_,_,rfl,.inl ⟨_,rfl,tB,_,bB,by rw[List.length_map]⟩,fun MB xB=>q MB (y6.trans (Dr.ext y6.pk xB))⟩
    have at_n:L2.atI (r.map rj) (n:Int)=some (rj r[n]):=L2.atI_nat (by simp[hn])
    sleep 8
    refine tix at_n ?_
    rw[show rj r[n]=.tup [.int r[n].a,.int r[n].d,nm r[n].w] from rfl]
    refine tix (v:=.int r[n].a) (at_zero _ _) ?_
    sleep 8
    by_cases c:0<r[n].a
    ·rw[if_pos c]
     have bY:BadJ (sc (jc Y)) (n+1):=by
      rw[eY,hY]
      refine bad_at g (by omega) ?_
      rw[p241]
      exact add_no (l:=r[n]) (by rw[List.take_succ_eq_append_getElem hn];exact List.mem_append.mpr (.inr List.mem_cons_self)) (fun h=>by have:=h.1;dsimp only at this;omega) (by rw[<- p241];decide)
     refine⟨_,_,rfl,.inl ⟨_,rfl,tY,n+1,bY,rfl⟩,fun MB xB=>?_⟩
     dsimp only
     rw[if_pos rfl]
     exact tail3 MB (yD.trans (Dr.ext yD.pk xB)) (xB _ _ mD)
    ·rw[if_neg c]
     exact tail3 _ yD mD
   sleep 8
   by_cases c:l.a<l.d-1
   ·rw[if_pos c]
    have pq:=t1_ok (a:=l.a) (d:=l.d-1) (by omega) (by omega) (by omega) (by omega)
    obtain⟨tB,bB⟩:=bad_end g r11 hps pr pq (add_no hl (fun h=>by have:=h.2;dsimp only at this;omega) pq.len)
    refine⟨_,m6,_,_,rfl,.inl ⟨_,rfl,tB,_,bB,by rw[List.length_map]⟩,fun MB xB=>?_⟩
    dsimp only
    rw[if_pos rfl]
    exact tail2 MB (y6.trans (Dr.ext y6.pk xB)) (xB _ _ m6)
   ·rw[if_neg c]
    exact tail2 M6 y6 m6
  sleep 8
  by_cases c:0<l.a
  ·rw[if_pos c]
   obtain⟨lb,gb⟩:=int_text (i:=l.a-1) (by omega)
   refine⟨by omega,gb,?_⟩
   rw[show Str.ofString (l.a-1).repr=ts (l.a-1) from rfl]
   refine⟨by simp only[strLen_append];omega,by simp only[strLen_append];omega,?_⟩
   have eT:X++Str.ofString "; "++ts (l.a-1)++Str.ofString " 24 1"=jc ps++("; ":Str)++jText ⟨l.a-1,24,1⟩:=by
    rw[jText_24,<- hX,str_assoc]
   rw[eT]
   have pq:=t1_ok (a:=l.a-1) (d:=24) (by omega) (by omega) (by decide) (by decide)
   obtain⟨tB,bB⟩:=bad_end g r11 hps pr pq (add_no hl (fun h=>by have:=h.1;dsimp only at this;omega) pq.len)
   refine⟨_,m1,_,_,rfl,.inl ⟨_,rfl,tB,_,bB,by rw[List.length_map]⟩,fun MB xB=>?_⟩
   dsimp only
   rw[if_pos rfl]
   exact tail1 MB (yy.trans (Dr.ext yy.pk xB)) (xB _ _ m1)
  ·rw[if_neg c]
   exact tail1 M' yy m1
 ·rintro x hx N hN δ M' ⟨yy,m1,m5,w6,rfl⟩
  obtain⟨o,ho,rfl⟩:=List.mem_map.mp hx
  have op:=oddJ_ok ho
  sleep 8
  (try dsimp only);rw[rSs_cons];simp[0,and_assoc,sizeLine_eq,rSs_nil,diZip,diSeq,dFld,dMeth,dMake,dSetF,dJoin]
  refine⟨_,m1,?_⟩
  rw[c1]
  intro p6 M6 e6 x6 l6 p7 M7 e7 x7 l7
  refine⟨_,x7 _ _ l6,_,l7,by simp;omega,?_⟩
  intro p8 M8 e8 x8 l8
  refine⟨_,x8 _ _ (x7 _ _ (x6 _ _ m1)),?_⟩
  rw[c2]
  intro p9 M9 e9 x9 l9
  refine⟨_,x9 _ _ l8,_,l9,by simp;omega,?_⟩
  intro pA MA eA xA lA
  have x6A:=x6.trans (x7.trans (x8.trans (x9.trans xA)))
  obtain⟨Y,hY⟩:∃ Y,Y=(r.take n).map jText++o::ps.drop (n+1):=⟨_,rfl⟩
  have lY:MA pA=some (.ls (Y.map .str)):=by rw[lA,hY,<- tk];simp
  have prY:∀ p∈Y,Prt p:=by
   intro p hp
   rw[hY,<- tk] at hp
   rcases List.mem_append.mp hp with hp|hp
   ·exact pr p (List.mem_of_mem_take hp)
   rcases List.mem_cons.mp hp with rfl|hp
   ·exact op.prt
   ·exact pr p (List.mem_of_mem_drop hp)
  have Yl:Y.length=r.length:=by rw[hY,<- tk];simp;omega
  obtain⟨eY,tY⟩:=tx2_of (fun z=>by rw[z] at Yl;simp at Yl;omega) (by omega) prY
  have bY:BadJ (sc (jc Y)) n:=by
   rw[eY,hY]
   exact bad_at g (by omega) op.bad
  refine⟨Y,lY,jok2 (by omega) fun p hp=>(prY p hp).len,?_⟩
  refine⟨_,_,rfl,.inl ⟨_,rfl,tY,n,bY,rfl⟩,fun MB xB=>?_⟩
  dsimp only
  rw[if_pos rfl]
  exact hN _ _ ⟨yy.trans (Dr.ext yy.pk (x6A.trans xB)),xB _ _ (x6A _ _ m1),xB _ _ (x6A _ _ m5),_,rfl⟩
theorem j24_ok:LJ ⟨0,24,1⟩:=⟨by decide +kernel,by decide,by decide⟩
theorem p241:("0 24 1":Str)=jText ⟨0,24,1⟩:=by decide +kernel
theorem rep_good {n:Nat} (h1:1<=n) (h12:n<=12):GoodJ (List.replicate n ⟨0,24,1⟩) :=
 ⟨by simpa using h1,by simpa using h12,fun j hj=>by rw[(List.mem_replicate.mp hj).2];exact j24_ok.ok,by rw[List.pairwise_replicate];exact .inr ⟨Int.le_refl _,Int.le_refl _⟩⟩
theorem rep_prt {n:Nat}:∀ p∈List.replicate n ("0 24 1":Str),Prt p:=fun p hp=>by
 rw[(List.mem_replicate.mp hp).2,p241];exact j24_ok.prt
theorem rep_map (n:Nat):List.replicate n ("0 24 1":Str)=(List.replicate n (⟨0,24,1⟩:RJ)).map jText:=by rw[List.map_replicate,p241]
theorem t12:sc (jc (List.replicate 12 ("0 24 1":Str)))=List.replicate 12 ("0 24 1":Str)/\Tx2 (jc (List.replicate 12 ("0 24 1":Str))):=tx2_of (by simp) (by simp) rep_prt
theorem t13:Tx2 (jc (List.replicate 13 ("0 24 1":Str)))/\BadJ (sc (jc (List.replicate 13 ("0 24 1":Str)))) 12:=by
 obtain⟨e,tx⟩:=tx2_of (L:=List.replicate 13 ("0 24 1":Str)) (by simp) (by simp) rep_prt
 refine⟨tx,?_⟩
 rw[e]
 refine⟨by simp,List.replicate 12 ⟨0,24,1⟩,by rw[<- rep_map];rfl,.inr (rep_good (by decide) (by decide)),fun q _ g=>?_⟩
 have:=g.most
 simp at this
noncomputable def C_26:CSs:=.cons (.fr (.name 1) (.rng (.cons (.int 0) (.cons (.bi .max (.cons (.int 1) (.cons (.bi .min (.cons (.bi .len (.cons (.var 0) (.nil))) (.cons (.int 16) (.nil)))) (.nil)))) (.cons (.int 2) (.nil))))) (.cons (.set 2 (.call "_law_pack" S_1 (.cons (.var 0) (.cons (.var 1) (.nil))))) (.cons (.ife (.not (.call "_law_right" S_23 (.cons (.var 2) (.cons (.call "_law_jobs" S_25 (.cons (.var 2) (.cons (.int 11) (.nil)))) (.nil))))) (.cons (.ret (.bl false)) (.nil)) (.nil)) (.nil)))) (.cons (.set 3 (.bin .Mult (.lst (.cons (.str "0 24 1") (.nil))) (.int 12))) (.cons (.ife (.or (.cmp .NotEq (.bi .len (.cons (.call "read_jobs" S_16 (.cons (.join (.str "; ") (.var 3)) (.nil))) (.nil))) (.int 12)) (.one (.not (.call "_law_refused" S_20 (.cons (.glo "read_jobs" (.fn "read_jobs")) (.cons (.join (.str "; ") (.bin .Add (.var 3) (.lst (.cons (.str "0 24 1") (.nil))))) (.cons (.int 12) (.nil)))))))) (.cons (.ret (.bl false)) (.nil)) (.nil)) (.cons (.set 4 (.lst (.cons (.non) (.cons (.int 7) (.cons (.bl true) (.cons (.tup (.nil)) (.cons (.lst (.cons (.str "0 1 1") (.nil))) (.cons (.dic0) (.cons (.tup (.cons (.tup (.cons (.int 0) (.cons (.int 1) (.cons (.tup (.cons (.int 1) (.cons (.int 1) (.nil)))) (.nil))))) (.nil))) (.nil)))))))))) (.cons (.ret (.bi .all (.cons (.comp ["_law_script","_law_k","_law_pack_here","_law_twelve","_law_things","_law_thing"] 1 (.name 5) (.seq (.var 4)) (.call "_law_refused" S_20 (.cons (.glo "read_jobs" (.fn "read_jobs")) (.cons (.var 5) (.cons (.non) (.nil)))))) (.nil)))) (.nil)))))
theorem vc_26:∀ ds M R E,SLaw ds M R E->rSs C_26 (ends R E) (startD 5 ds) M:=by
 rintro ds M R E ⟨ns,rfl,hs,h⟩
 unfold C_26
 sleep 9
 obtain⟨z,hz,hc,e⟩:=law_top 16 ns.length (by decide) (by decide)
 rw[e]
 obtain⟨r1,r2,r3⟩:=rng_small z hz
 refine⟨divOk_small (by decide) (lt8000 (by decide)),r1,r2,?_⟩
 refine forD_inv (fun δ M'=>∃ w1 w2,δ=[some (.fz (ns.map .int)),w1,w2,none,none]) (fun _ _ _=>trivial) ?_ ?_ ⟨_,_,rfl⟩
 ·rintro δ M' ⟨w1,w2,rfl⟩
  sleep 7
  intro p7 M7 e7 x7 l7
  refine⟨_,l7,by simp,?_⟩
  intro p8 M8 e8 x8 l8
  have l8':M8 p8=some (.ls ((List.replicate 12 ("0 24 1":Str)).map .str)):=by rw[l8];rfl
  (try dsimp only);rw[rSs_cons];simp[0,and_assoc,sizeLine_eq,rSs_nil,diZip,diSeq,dFld,dMeth,dMake,dSetF,dJoin]
  refine⟨_,l8',jok2 (by decide) (fun p hp=>(rep_prt p hp).len),?_⟩
  refine⟨_,rfl,.inl ⟨_,rfl,t12.2,fun r' hr' ok' M9 x9=>?_,fun j bj=>absurd bj (badJ_good (by rw[t12.1];exact fun p hp=>(rep_prt p hp).len) (t12.1.trans (rep_map 12)) (rep_good (by decide) (by decide)))⟩⟩
  have l9:r'.length=12:=by
   have:=congrArg List.length (hr'.symm.trans t12.1)
   rw[List.length_map,List.length_replicate] at this
   exact this
  dsimp only
  rw[l_lenT]
  refine eq_int true ?_
  refine .inl ⟨by rw[List.length_map,l9];rfl,?_⟩
  intro pA MA eA xA lA
  refine⟨_,xA _ _ (x9 _ _ l8'),_,lA,by simp,?_⟩
  intro pB MB eB xB lB
  refine⟨List.replicate 13 "0 24 1",by rw[lB];rfl,jok2 (by decide) (fun p hp=>(rep_prt p hp).len),?_⟩
  refine⟨_,_,rfl,.inl ⟨_,rfl,t13.1,12,t13.2,rfl⟩,fun MC xC=>?_⟩
  dsimp only
  rw[if_pos rfl]
  (try dsimp only);rw[rSs_cons];simp[0,and_assoc,sizeLine_eq,rSs_nil,diZip,diSeq,dFld,dMeth,dMake,dSetF,dJoin]
  intro q2 N2 f2 y2' m2 q3 N3 f3 y3' m3 q4 N4 f4 y4' m4
  sleep 7
  refine comp_mapG [D.non,D.int 7,D.bl true,D.tup [],D.lst q2,D.dct q3,D.tup [D.tup [D.int 0,D.int 1,D.tup [D.int 1,D.int 1]]]] (fun d=>d) (fun _=>.bl true) (ti_lst rfl m4) (by simp) ?_ ?_
  ·intro x hx l M5 R' hl' ee rr
   obtain⟨z1,rfl⟩:=len1 hl'
   sleep 8
   refine⟨_,_,rfl,.inr ?_,fun M6 x6=>rr [_] M6 rfl x6⟩
   simp at hx
   rcases hx with rfl|rfl|rfl|rfl|rfl|rfl|rfl
   ·exact⟨_,rfl,by decide,rfl⟩
   ·exact⟨_,rfl,by decide,rfl⟩
   ·exact⟨_,rfl,by decide,rfl⟩
   ·exact⟨_,rfl,by decide,rfl⟩
   ·exact⟨"list",by show (match M5 q2 with|some (.ls _)=>some "list" | _=>none)=_;rw[ee _ _ (y4' _ _ (y3' _ _ m2))],by decide,rfl⟩
   ·exact⟨"dict",by show (match M5 q3 with|some (.dk _)=>some "dict" | _=>none)=_;rw[ee _ _ (y4' _ _ m3)],by decide,rfl⟩
   ·exact⟨_,rfl,by decide,rfl⟩
  intro p5 M5 e5 x5 l5
  refine all_of (f:=fun _=>true) l5 ?_
  simpa using h M5
 ·rintro x hx N hN δ M0 ⟨w1,w2,rfl⟩
  obtain⟨i,hi,rfl⟩:=List.mem_map.mp hx
  have hi2:=List.mem_range.mp hi
  simp[0,and_assoc,sizeLine_eq,rSs_nil,diZip,diSeq,dFld,dMeth,dMake,dSetF]
  sleep 7
  refine⟨ns,_,rfl,hs,by omega,by omega,fun v p M1 e1 x1 l1=>?_⟩
  have pk1:Pk M1 p:=⟨v,l1⟩
  sleep 7
  refine⟨p,rfl,pk1,fun r M2 g r11 lj y2=>?_⟩
  sleep 8
  refine⟨p,r,rfl,y2.pk,g,r11,lj,fun M3 y3=>?_⟩
  sleep 8
  exact hN _ _ ⟨_,_,rfl⟩
end K
end
namespace PySem.W.Fast
set_option bootstrap.genMatcherCode true
local macro_rules | `(command| universe $xs*)=>do
  let cs<-xs.mapM fun x=>`(command| theorem $x :True:=⟨⟩)
  return Lean.mkNullNode cs
set_option bootstrap.genMatcherCode false
universe tw16254265873060394668 tw258481426052669279 tw1771347204463355336 tw7152165811683515819 tw18378281511489602878 tw12499226213108893181 tw18203439241234426647 tw1811360872034582735 tw5274781435112081960 tw7084126354085620438 tw9391154775553850579 tw15667737223447791313 tw5555760916818787803 tw2903530314275335933 tw10507935955696748545 tw12379921819081434740 tw12637082548008071974 tw8235196168624922656 tw3337603248309429051 tw12585900623960754659 tw11759526724838515681 tw8786244775936646661 tw4042471608205226730 tw12348986314725366349 tw11520858296658583323 tw4359732343305454992 tw14335624503475936155 tw12174828435599508388 tw1166843438976832562 tw276698516231650382 tw5668104507467137636 tw15162260329615563902 tw15111753744835872335 tw10855159155251699033 tw11053891152440751306 tw3241968176099929930 tw14682541763808808988 tw14238086796941670886 tw15929107028162497277 tw15957130101812313435
universe tw14109988207618009602 tw11203989867924151620 tw4271486840211353060 tw8685017184411981051 tw4818532935017002955 tw9300274354837058124 tw7067936956507738684 tw1204793107800418973 tw1575087044956472094 tw17213281232208958106 tw10391151738060096053 tw5204802344773873350 tw8079998274455565354 tw12296663249775378438 tw5908543966077619239 tw12348887938695582612 tw2413406949670324723 tw15666789088971597498 tw14916085989623590506 tw16144388809024873762 tw3593298014382799056 tw18392344596079107755 tw4592087980097946745 tw5350671750969214457 tw3935658468523496392 tw11769966454282852633 tw12389273079928136374 tw17027975690866502866 tw9619860098301398668 tw7288029115371358024 tw14967908882692545121 tw5002640559194922912 tw10221995726223526926 tw11896799525947023722 tw6441076396204800722 tw16145909491076375277 tw3233252784697052731 tw5869655327506538478 tw3908931264525822093 tw8012660094538620251
universe tw7991737255310019188 tw7944243655033934429 tw9865223074419701972 tw1787705889544331768 tw5846179770001625711 tw14919848895203295040 tw11127001396165102009 tw1883311479286767674 tw4711257031892567436 tw15354090316782665352 tw10358561149013639985 tw8508488948470674741 tw6646530231301544353 tw2432368544979109558 tw4466920651105751602 tw11659978126618208482 tw1070281806658425097 tw8831738923299419821 tw5993088751652201991 tw5144016097018014062 tw13973367546192129270 tw7479894892268942532 tw15788705429426968676 tw14761893471958312254 tw6748632060369254615 tw9550745387003533371 tw10765413406659179567 tw12058828622719793980 tw10320090091924222495 tw9028071989870898918 tw17058604024051430440 tw6925156341818917646 tw5260943163893993689 tw8570627160539771858 tw1010213790898147857 tw2357860410928071434 tw12037491457255887211 tw3086611675408407920 tw2237298293562927670 tw8875823425129616713
universe tw1586759912912925879 tw10947745596176339208 tw4322498849427002813 tw12654760460739666793 tw6850494898366453874 tw13953388476761698689 tw12860140748669348531 tw7318793045091982982 tw300407309122165293 tw11531717023632339117 tw12164911591389801170 tw8732445382914360059 tw695091040952827301 tw7618218528903543955 tw15931322479159853627 tw14194252409203848173 tw7870725214020036591 tw5146399744346107717 tw3649606129431930736 tw17339893757784445001 tw6428523950022796813 tw5699708128850385254 tw3648651245546985990 tw699920795801566278 tw5303834313197933227 tw13817696180638759200 tw11213052348826645476 tw6520727163652015891 tw14637040034720746351 tw8505087172817336662 tw12052236512624978267 tw16211660146585108149 tw2560611140234671603 tw9557871650866342186 tw3449871785977288834 tw8822800385628789315 tw297180063309571601 tw7301828573065449441 tw952043510456444754 tw14531071520754041833
universe tw6890306889985792123 tw1855680880079359234 tw8622960490812873395 tw7315293009531011463 tw4275825060912375839 tw14023350711959963594 tw4430519265812515719 tw3920046602959605330 tw11893688174256571697 tw13219059464194076035 tw10811063192746113735 tw7216612926788773995 tw18322475199835745625 tw1729428962960943411 tw15014993149918728553 tw116825050102572413 tw6507209172958171268 tw15911288452307017276 tw14733712286852040978 tw3336029313783428790 tw8589715044734724987 tw1735697180613249856 tw3924077041987531350 tw13564914359414105985 tw18263305581142961950 tw8701109118934001486 tw9981041240868830124 tw8448852816860425896 tw16180153627791255311 tw1693763037341532411 tw16390129483957694747 tw8404889959405665380 tw10295664337424394251 tw16008426751592959400 tw6205279751808615854 tw7131533773141386502 tw17932451314494437002 tw509799998788461 tw17217376853752152695 tw4887857627619056163
universe tw13852741478038784588 tw1927640997832198587 tw13300981645570747961 tw16496495689437351542 tw2768324369608064491 tw1426478510114318036 tw17018074714527734808 tw9413959745452363303 tw1722611729682267141 tw16954835901684589112 tw9935349675686019061 tw274510739721157390 tw8609555675324558237 tw9424812795073410426 tw6212222807191586422 tw10904674350868274311 tw8052415402545821968 tw7482071720237338680 tw4700942621264220192 tw16810912604414676118 tw9381867944364065598 tw17894484804892422336 tw7774819142321375521 tw18253134185608055355 tw13532506188509178170 tw755802474940762037 tw16688075367457715181 tw12849896900612050321 tw577333863086243144 tw5196135610796740358 tw6137917050264916479 tw78682784203255636 tw8439557352724680037 tw11669426072220630948 tw12399414242855300865 tw10748654841277775751 tw12375099927586303235 tw9613821186483331868 tw9300012940197581525 tw8473898136188271725
universe tw3346128391311612591 tw9656059161677733830 tw7899315008441518629 tw9161830236323261800 tw13620893016582356304 tw5622195506365571840 tw4219964959206311527 tw16890492644635302755 tw3326039175951455013 tw12937088041329989613 tw1205559878502942241 tw6566133084190197223 tw1609521855505188487 tw16829181900766410267 tw4182166146482284112 tw2614419697775316410 tw16262831657785137355 tw15148013166085830571 tw353408503238687395 tw9734548302515941550 tw6269617771398047468 tw10977556823162275839 tw14876337605325168325 tw7933754412148969046 tw9790398809042753670 tw16018624737026899115 tw12222911951622419783 tw5416053922502306226 tw2122705177336073232 tw7112813773740247701 tw10144145078623353946 tw9869056265166599915 tw16349841980253368364 tw6828709111730104520 tw6266665917928805411 tw2450438906226943387 tw15246444074802631959 tw331906705593473850 tw4888940486624454120 tw973651387467926484
universe tw16507335775122917018 tw2881098803123273542 tw14592747089250975372 tw11793495454061512382 tw14894923474531243395 tw445869402237522249 tw9860123205010126720 tw2695723081953953585 tw13695420125483057775 tw1636753700212820089 tw7916280663262573485 tw2811097639544043256 tw3567782938135955571 tw813338484041111582 tw16014005090375315986 tw3696330117755294600 tw14982996515958861273 tw5805679878073933090 tw845701584725763135 tw6238126682712293250 tw1850305650136452909 tw813721762152335289 tw3266182886309632724 tw2735841743360666201 tw1706463371514696873 tw17800072188441630600 tw14944675038899774875 tw442308838154528523 tw16986234008972760589 tw6663567424459879746 tw15043916460810362097 tw3259676301228345001 tw16129301717787429831 tw9659568312624470178 tw2688306959634463756 tw11490152658651272493 tw5771590660634482946 tw7059597425374615645 tw6987413169781224496 tw4482274241493895124
universe tw5608793488874661544 tw13680301600048777470 tw4978061733772268142 tw5467731570946787867 tw2045485379039289581 tw5431573895622213028 tw13888754851252451693 tw1289577919814304283 tw7518358489787606475 tw15035855488309379002 tw15739830775971992590 tw3298087328414192877 tw5789787676968198484 tw744812105549258456 tw8690307026732504385 tw12316248612804222820 tw813622504435028 tw11203922095838535565 tw3813844048397185494 tw6274940458126679685 tw3124295108621417529 tw13442358166064974434 tw3582756908883263661 tw7385599284134093758 tw3946447061349741320 tw16791692460662099828 tw4125620409725750843 tw15244034468720829205 tw11470964228920556766 tw1295618756454504487 tw17351974925449597741 tw3834764290933982735 tw10996014431110478787 tw10719545720900115719 tw16828924955383979845 tw960489886188769346 tw10439043716623687877 tw17775915377537470823 tw13753703613156532902 tw7435196376419168294
universe tw12813361752769932959 tw3650258097881403744 tw10228003338295091564 tw15477977359749386595 tw2625763706680612901 tw3247224800876657594 tw859554665903280841 tw7160769960636042107 tw11553761332775496139 tw15077709220001197234 tw14270652599565636669 tw17005551911561093655 tw3123219700335460147 tw17569260779757504486 tw3857875932761457709 tw13102117395504337841 tw6311107335098153880 tw797921463771197274 tw4274337174059532398 tw10767501200578540206 tw1378257004898339037 tw3851955249014605715 tw9979263815050465691 tw8371500772362960989 tw16522645334479370242 tw7685243039860479977 tw5725650814170755858 tw17666825347683413471 tw11169196116290147434 tw16207042996362619069 tw7343029287255425491 tw5495441302446719456 tw16181858478583505159 tw12294297140466072679 tw11562206541701768989 tw2424632918515312497 tw9997792299041601406 tw9199852496840261389 tw16406301853129783169 tw18091827905448326881
universe tw7312099759854494972 tw17410105680427370699 tw10641353439047017155 tw12119368545302204824 tw6949646755349594823 tw4050513043840305602 tw10305859059044441766 tw16359811153378526087
end PySem.W.Fast
namespace K
open PySem DL L2 PySem.W
set_option bootstrap.genMatcherCode true
local macro_rules
 | `(tactic| sleep 61)=>`(tactic| (rintro _ _ _ _ ⟨_,e,_⟩;rw[e];rfl))
 | `(tactic| sleep 62)=>`(tactic| (rintro _ _ _ _ ⟨_,_,e,_⟩;rw[e];rfl))
 | `(tactic| sleep 63)=>`(tactic| (rintro _ _ _ _ ⟨_,_,_,e,_⟩;rw[e];rfl))
 | `(tactic| sleep 64)=>`(tactic| (rintro _ _ _ _ ⟨_,_,_,_,e,_⟩;rw[e];rfl))
 | `(tactic| sleep 65)=>`(tactic| (rintro _ _ _ _ ⟨_,_,_,_,_,e,_⟩;rw[e];rfl))
 | `(tactic| sleep 66)=>`(tactic| (rintro _ _ _ _ ⟨_,_,_,_,_,_,e,_⟩;rw[e];rfl))
 | `(tactic| sleep 67)=>`(tactic| (rintro _ _ _ _ ⟨_,_,_,_,_,_,_,e,_⟩;rw[e];rfl))
 | `(tactic| sleep 68)=>`(tactic| (rintro _ _ _ _ ⟨_,_,_,_,_,_,_,_,e,_⟩;rw[e];rfl))
 | `(tactic| sleep 69)=>`(tactic| (rintro _ _ _ _ ⟨_,_,_,_,_,_,_,_,_,e,_⟩;rw[e];rfl))
 | `(tactic| sleep 71)=>`(tactic| (intro _ _ _ _ _ _ us hl;obtain⟨_,e⟩:=us1 hl;subst e;rfl))
 | `(tactic| sleep 72)=>`(tactic| (intro _ _ _ _ _ _ us hl;obtain⟨_,_,e⟩:=us2 hl;subst e;rfl))
 | `(tactic| sleep 73)=>`(tactic| (intro _ _ _ _ _ _ us hl;obtain⟨_,_,_,e⟩:=us3 hl;subst e;rfl))
 | `(tactic| sleep 74)=>`(tactic| (intro _ _ _ _ _ _ us hl;obtain⟨_,_,_,_,e⟩:=us4 hl;subst e;rfl))
set_option bootstrap.genMatcherCode false
set_option bootstrap.genMatcherCode true
local macro_rules | `(~~~$n:str)=>`(nsIn $(Lean.mkIdent `K) mainGlobals $n)
set_option bootstrap.genMatcherCode false
set_option bootstrap.genMatcherCode true
local macro_rules | `(#[$n:str,$s:ident,$f:ident,$o:ident,$p:ident,$a:ident,$b:ident,$c:ident,$d:ident,$e:ident,$g:ident,$h:ident])=>`($(Lean.mkIdent `K.lookup) $f=some ⟨$o,$p,.func (fnOf $n $n (defArgs $s) (defBody $s) (defScope $s) .none $a $b $c $d $e $g),$h⟩)
set_option bootstrap.genMatcherCode false
noncomputable def top (i:Nat):Stmt:=PySem.Challenge.pw_levelcord_k86_jobs_written.main.body.getD i (.Pass ⟨0,0,0,0⟩)
noncomputable abbrev s_0:Stmt:=top 39
theorem ck_0:isSs ⟨["_law_cell"],defScope s_0,true,true⟩ true C_0 (defBody s_0)=true:=by decide +kernel
theorem sc_0:FnScope ["_law_cell"] ["_law_cell"] (defScope s_0):=by sleep 50
theorem len_0:∀ ds M R E,S_0 ds M R E->ds.length=1:=by sleep 61
noncomputable abbrev s_1:Stmt:=top 40
theorem ck_1:isSs ⟨["_law_script","_law_k","_law_found","_law_at"],defScope s_1,true,true⟩ true C_1 (defBody s_1)=true:=by decide +kernel
theorem sc_1:FnScope ["_law_script","_law_k","_law_found","_law_at"] ["_law_script","_law_k"] (defScope s_1):=by sleep 50
theorem len_1:∀ ds M R E,S_1 ds M R E->ds.length=2:=by sleep 62
noncomputable abbrev s_2:Stmt:=top 43
theorem ck_2:isSs ⟨["_law_one","_law_text"],defScope s_2,true,true⟩ true C_2 (defBody s_2)=true:=by decide +kernel
theorem sc_2:FnScope ["_law_one","_law_text"] ["_law_one"] (defScope s_2):=by sleep 50
theorem len_2:∀ ds M R E,S_2 ds M R E->ds.length=1:=by sleep 61
noncomputable abbrev s_3:Stmt:=top 45
theorem ck_3:isSs ⟨["_law_job"],defScope s_3,true,true⟩ true C_3 (defBody s_3)=true:=by decide +kernel
theorem sc_3:FnScope ["_law_job"] ["_law_job"] (defScope s_3):=by sleep 50
theorem len_3:∀ ds M R E,S_3 ds M R E->ds.length=1:=by sleep 61
noncomputable abbrev s_4:Stmt:=top 17
theorem ck_4:isSs ⟨["thing"],defScope s_4,true,true⟩ true C_4 (defBody s_4)=true:=by decide +kernel
theorem sc_4:FnScope ["thing"] ["thing"] (defScope s_4):=by sleep 50
theorem len_4:∀ ds M R E,S_4 ds M R E->ds.length=1:=by sleep 62
noncomputable abbrev s_5:Stmt:=top 18
theorem ck_5:isSs ⟨["one","other"],defScope s_5,true,true⟩ true C_5 (defBody s_5)=true:=by decide +kernel
theorem sc_5:FnScope ["one","other"] ["one","other"] (defScope s_5):=by sleep 50
theorem len_5:∀ ds M R E,S_5 ds M R E->ds.length=2:=by sleep 62
noncomputable abbrev s_6:Stmt:=top 19
theorem ck_6:isSs ⟨["thing","top","bottom"],defScope s_6,true,true⟩ true C_6 (defBody s_6)=true:=by decide +kernel
theorem sc_6:FnScope ["thing","top","bottom"] ["thing"] (defScope s_6):=by sleep 50
theorem len_6:∀ ds M R E,S_6 ds M R E->ds.length=1:=by sleep 61
noncomputable abbrev s_7:Stmt:=top 20
theorem ck_7:isSs ⟨["one","other"],defScope s_7,true,true⟩ true C_7 (defBody s_7)=true:=by decide +kernel
theorem sc_7:FnScope ["one","other"] ["one","other"] (defScope s_7):=by sleep 50
theorem len_7:∀ ds M R E,S_7 ds M R E->ds.length=2:=by sleep 62
noncomputable abbrev s_8:Stmt:=top 24
theorem ck_8:isSs ⟨["thing","arrival","due","work"],defScope s_8,true,true⟩ true C_8 (defBody s_8)=true:=by decide +kernel
theorem sc_8:FnScope ["thing","arrival","due","work"] ["thing"] (defScope s_8):=by sleep 50
theorem len_8:∀ ds M R E,S_8 ds M R E->ds.length=1:=by sleep 61
noncomputable abbrev s_9:Stmt:=top 25
theorem ck_9:isSs ⟨["thing"],defScope s_9,true,true⟩ true C_9 (defBody s_9)=true:=by decide +kernel
theorem sc_9:FnScope ["thing"] ["thing"] (defScope s_9):=by sleep 50
theorem len_9:∀ ds M R E,S_9 ds M R E->ds.length=1:=by sleep 61
noncomputable abbrev s_10:Stmt:=top 28
theorem ck_10:isSs ⟨["one","top","bottom"],defScope s_10,true,true⟩ true C_10 (defBody s_10)=true:=by decide +kernel
theorem sc_10:FnScope ["one","top","bottom"] ["one"] (defScope s_10):=by sleep 50
theorem len_10:∀ ds M R E,S_10 ds M R E->ds.length=1:=by sleep 61
noncomputable abbrev s_11:Stmt:=top 29
theorem ck_11:isSs ⟨["text"],defScope s_11,true,true⟩ true C_11 (defBody s_11)=true:=by decide +kernel
theorem sc_11:FnScope ["text"] ["text"] (defScope s_11):=by sleep 50
theorem len_11:∀ ds M R E,S_11 ds M R E->ds.length=1:=by sleep 61
noncomputable abbrev s_12:Stmt:=top 30
theorem ck_12:isSs ⟨["text","top","stroke","bottom","read"],defScope s_12,true,true⟩ true C_12 (defBody s_12)=true:=by decide +kernel
theorem sc_12:FnScope ["text","top","stroke","bottom","read"] ["text"] (defScope s_12):=by sleep 50
theorem len_12:∀ ds M R E,S_12 ds M R E->ds.length=1:=by sleep 61
noncomputable abbrev s_13:Stmt:=top 34
theorem ck_13:isSs ⟨["text","top","bottom"],defScope s_13,true,true⟩ true C_13 (defBody s_13)=true:=by decide +kernel
theorem sc_13:FnScope ["text","top","bottom"] ["text"] (defScope s_13):=by sleep 50
theorem len_13:∀ ds M R E,S_13 ds M R E->ds.length=1:=by sleep 61
noncomputable abbrev s_14:Stmt:=top 35
theorem ck_14:isSs ⟨["text","words"],defScope s_14,true,true⟩ true C_14 (defBody s_14)=true:=by decide +kernel
theorem sc_14:FnScope ["text","words"] ["text"] (defScope s_14):=by sleep 50
theorem len_14:∀ ds M R E,S_14 ds M R E->ds.length=1:=by sleep 61
noncomputable abbrev s_15:Stmt:=top 32
theorem ck_15:isSs ⟨["text","sign","read_part","may_stand","read","at","part"],defScope s_15,true,true⟩ true C_15 (defBody s_15)=true:=by decide +kernel
theorem sc_15:FnScope ["text","sign","read_part","may_stand","read","at","part"] ["text","sign","read_part","may_stand"] (defScope s_15):=by sleep 50
theorem len_15:∀ ds M R E,S_15 ds M R E->ds.length=4:=by sleep 61
noncomputable abbrev s_16:Stmt:=top 37
theorem ck_16:isSs ⟨["text"],defScope s_16,true,true⟩ true C_16 (defBody s_16)=true:=by decide +kernel
theorem sc_16:FnScope ["text"] ["text"] (defScope s_16):=by sleep 50
theorem len_16:∀ ds M R E,S_16 ds M R E->ds.length=1:=by sleep 61
noncomputable abbrev s_17:Stmt:=top 33
theorem ck_17:isSs ⟨["job","arrival","due","work"],defScope s_17,true,true⟩ true C_17 (defBody s_17)=true:=by decide +kernel
theorem sc_17:FnScope ["job","arrival","due","work"] ["job"] (defScope s_17):=by sleep 50
theorem len_17:∀ ds M R E,S_17 ds M R E->ds.length=1:=by sleep 61
noncomputable abbrev s_18:Stmt:=top 36
theorem ck_18:isSs ⟨["jobs"],defScope s_18,true,true⟩ true C_18 (defBody s_18)=true:=by decide +kernel
theorem sc_18:FnScope ["jobs"] ["jobs"] (defScope s_18):=by sleep 50
theorem len_18:∀ ds M R E,S_18 ds M R E->ds.length=1:=by sleep 61
noncomputable abbrev s_19:Stmt:=top 46
theorem ck_19:isSs ⟨["_law_e","_law_sorts"],defScope s_19,true,true⟩ true C_19 (defBody s_19)=true:=by decide +kernel
theorem sc_19:FnScope ["_law_e","_law_sorts"] ["_law_e"] (defScope s_19):=by sleep 50
theorem len_19:∀ ds M R E,S_19 ds M R E->ds.length=1:=by sleep 63
noncomputable abbrev s_20:Stmt:=top 47
theorem ck_20:isSs ⟨["_law_ask","_law_text","_law_part","_law_caught","_law_e"],defScope s_20,true,true⟩ true C_20 (defBody s_20)=true:=by decide +kernel
theorem sc_20:FnScope ["_law_ask","_law_text","_law_part","_law_caught","_law_e"] ["_law_ask","_law_text","_law_part"] (defScope s_20):=by sleep 50
theorem len_20:∀ ds M R E,S_20 ds M R E->ds.length=3:=by sleep 62
noncomputable abbrev s_21:Stmt:=top 48
theorem ck_21:isSs ⟨["_law_found"],defScope s_21,true,true⟩ true C_21 (defBody s_21)=true:=by decide +kernel
theorem sc_21:FnScope ["_law_found"] [] (defScope s_21):=by sleep 50
theorem len_21:∀ ds M R E,S_21 ds M R E->ds.length=0:=fun _ _ _ _ h=>by obtain⟨e,_⟩:=h;rw[e];rfl
noncomputable abbrev s_22:Stmt:=top 41
theorem ck_22:isSs ⟨["_law_pack_here","_law_size","_law_digit"],defScope s_22,true,true⟩ true C_22 (defBody s_22)=true:=by decide +kernel
theorem sc_22:FnScope ["_law_pack_here","_law_size","_law_digit"] ["_law_pack_here","_law_size"] (defScope s_22):=by sleep 50
theorem len_22:∀ ds M R E,S_22 ds M R E->ds.length=2:=by sleep 63
noncomputable abbrev s_23:Stmt:=top 49
theorem ck_23:isSs ⟨["_law_pack_here","_law_jobs_here","_law_pieces","_law_text","_law_found","_law_at","_law_odd","_law_arrival","_law_due","_law_less","_law_fallen"],defScope s_23,true,true⟩ true C_23 (defBody s_23)=true:=by decide +kernel
theorem sc_23:FnScope ["_law_pack_here","_law_jobs_here","_law_pieces","_law_text","_law_found","_law_at","_law_odd","_law_arrival","_law_due","_law_less","_law_fallen"] ["_law_pack_here","_law_jobs_here"] (defScope s_23):=by sleep 50
theorem len_23:∀ ds M R E,S_23 ds M R E->ds.length=2:=by sleep 62
noncomputable abbrev s_24:Stmt:=top 42
theorem ck_24:isSs ⟨["_law_top","_law_bottom","_law_one","_law_other"],defScope s_24,true,true⟩ true C_24 (defBody s_24)=true:=by decide +kernel
theorem sc_24:FnScope ["_law_top","_law_bottom","_law_one","_law_other"] ["_law_top","_law_bottom"] (defScope s_24):=by sleep 50
theorem len_24:∀ ds M R E,S_24 ds M R E->ds.length=2:=by sleep 62
noncomputable abbrev s_25:Stmt:=top 44
theorem ck_25:isSs ⟨["_law_pack_here","_law_most","_law_found","_law_arrival","_law_due","_law_turn"],defScope s_25,true,true⟩ true C_25 (defBody s_25)=true:=by decide +kernel
theorem sc_25:FnScope ["_law_pack_here","_law_most","_law_found","_law_arrival","_law_due","_law_turn"] ["_law_pack_here","_law_most"] (defScope s_25):=by sleep 50
theorem len_25:∀ ds M R E,S_25 ds M R E->ds.length=2:=by sleep 61
noncomputable abbrev s_26:Stmt:=top 50
theorem ck_26:isSs ⟨["_law_script","_law_k","_law_pack_here","_law_twelve","_law_things"],defScope s_26,true,true⟩ true C_26 (defBody s_26)=true:=by decide +kernel
theorem sc_26:FnScope ["_law_script","_law_k","_law_pack_here","_law_twelve","_law_things"] ["_law_script"] (defScope s_26):=by sleep 50
theorem len_26:∀ ds M R E,SLaw ds M R E->ds.length=1:=by sleep 61
set_option maxHeartbeats 0 in
set_option tactic.hygienic true
theorem all_mk {l:OpenLaw} {w:World} {K:Frag} {h:Heap} {mg:Str->Option Value} {fa:Addr} (X:K.In h) (G:h.Ns mainGlobals mg) (hfa:mg "law"=some (.ref fa))
  {f0 f1 f2 f3 f4 f5 f6 f7 f8 f9 f10 f11 f12 f13 f14 f15 f16 f17 f18 f19 f20 f21 f22 f23 f24 f25 f26:Addr} {od0 an0 od1 an1 od2 an2 od3 an3 od4 an4 od5 an5 od6 an6 od7 an7 od8 an8 od9 an9 od10 an10 od11 an11 od12 an12 od13 an13 od14 an14 od15 an15 od16 an16 od17 an17 od18 an18 od19 an19 od20 an20 od21 an21 od22 an22 od23 an23 od24 an24 od25 an25 od26 an26:Option Addr} {sl0 sl1 sl2 sl3 sl4 sl5 sl6 sl7 sl8 sl9 sl10 sl11 sl12 sl13 sl14 sl15 sl16 sl17 sl18 sl19 sl20 sl21 sl22 sl23 sl24 sl25 sl26:Array (Option Value)} {oc0 kV0 dc0 pm0 cd0 ct0 oc1 kV1 dc1 pm1 cd1 ct1 oc2 kV2 dc2 pm2 cd2 ct2 oc3 kV3 dc3 pm3 cd3 ct3 oc4 kV4 dc4 pm4 cd4 ct4 oc5 kV5 dc5 pm5 cd5 ct5 oc6 kV6 dc6 pm6 cd6 ct6 oc7 kV7 dc7 pm7 cd7 ct7 oc8 kV8 dc8 pm8 cd8 ct8 oc9 kV9 dc9 pm9 cd9 ct9 oc10 kV10 dc10 pm10 cd10 ct10 oc11 kV11 dc11 pm11 cd11 ct11 oc12 kV12 dc12 pm12 cd12 ct12 oc13 kV13 dc13 pm13 cd13 ct13 oc14 kV14 dc14 pm14 cd14 ct14 oc15 kV15 dc15 pm15 cd15 ct15 oc16 kV16 dc16 pm16 cd16 ct16 oc17 kV17 dc17 pm17 cd17 ct17 oc18 kV18 dc18 pm18 cd18 ct18 oc19 kV19 dc19 pm19 cd19 ct19 oc20 kV20 dc20 pm20 cd20 ct20 oc21 kV21 dc21 pm21 cd21 ct21 oc22 kV22 dc22 pm22 cd22 ct22 oc23 kV23 dc23 pm23 cd23 ct23 oc24 kV24 dc24 pm24 cd24 ct24 oc25 kV25 dc25 pm25 cd25 ct25 oc26 kV26 dc26 pm26 cd26 ct26:Value}
  (a0: ~~~"_law_mixed"=some (some (.ref f0))) (l0:#["_law_mixed",s_0,f0,oc0,od0,kV0,dc0,pm0,an0,cd0,ct0,sl0]) (c0:codeIn K cd0 "_law_mixed"=true) (k0:keepIn K (.ref f0)=true)
  (a1: ~~~"_law_pack"=some (some (.ref f1))) (l1:#["_law_pack",s_1,f1,oc1,od1,kV1,dc1,pm1,an1,cd1,ct1,sl1]) (c1:codeIn K cd1 "_law_pack"=true) (k1:keepIn K (.ref f1)=true)
  (a2: ~~~"_law_number_text"=some (some (.ref f2))) (l2:#["_law_number_text",s_2,f2,oc2,od2,kV2,dc2,pm2,an2,cd2,ct2,sl2]) (c2:codeIn K cd2 "_law_number_text"=true) (k2:keepIn K (.ref f2)=true)
  (a3: ~~~"_law_job_text"=some (some (.ref f3))) (l3:#["_law_job_text",s_3,f3,oc3,od3,kV3,dc3,pm3,an3,cd3,ct3,sl3]) (c3:codeIn K cd3 "_law_job_text"=true) (k3:keepIn K (.ref f3)=true)
  (a4: ~~~"is_whole"=some (some (.ref f4))) (l4:#["is_whole",s_4,f4,oc4,od4,kV4,dc4,pm4,an4,cd4,ct4,sl4]) (c4:codeIn K cd4 "is_whole"=true) (k4:keepIn K (.ref f4)=true)
  (a5: ~~~"greatest_divisor"=some (some (.ref f5))) (l5:#["greatest_divisor",s_5,f5,oc5,od5,kV5,dc5,pm5,an5,cd5,ct5,sl5]) (c5:codeIn K cd5 "greatest_divisor"=true) (k5:keepIn K (.ref f5)=true)
  (a6: ~~~"is_number"=some (some (.ref f6))) (l6:#["is_number",s_6,f6,oc6,od6,kV6,dc6,pm6,an6,cd6,ct6,sl6]) (c6:codeIn K cd6 "is_number"=true) (k6:keepIn K (.ref f6)=true)
  (a7: ~~~"is_less"=some (some (.ref f7))) (l7:#["is_less",s_7,f7,oc7,od7,kV7,dc7,pm7,an7,cd7,ct7,sl7]) (c7:codeIn K cd7 "is_less"=true) (k7:keepIn K (.ref f7)=true)
  (a8: ~~~"is_job"=some (some (.ref f8))) (l8:#["is_job",s_8,f8,oc8,od8,kV8,dc8,pm8,an8,cd8,ct8,sl8]) (c8:codeIn K cd8 "is_job"=true) (k8:keepIn K (.ref f8)=true)
  (a9: ~~~"is_jobs"=some (some (.ref f9))) (l9:#["is_jobs",s_9,f9,oc9,od9,kV9,dc9,pm9,an9,cd9,ct9,sl9]) (c9:codeIn K cd9 "is_jobs"=true) (k9:keepIn K (.ref f9)=true)
  (a10: ~~~"show_number"=some (some (.ref f10))) (l10:#["show_number",s_10,f10,oc10,od10,kV10,dc10,pm10,an10,cd10,ct10,sl10]) (c10:codeIn K cd10 "show_number"=true) (k10:keepIn K (.ref f10)=true)
  (a11: ~~~"are_figures"=some (some (.ref f11))) (l11:#["are_figures",s_11,f11,oc11,od11,kV11,dc11,pm11,an11,cd11,ct11,sl11]) (c11:codeIn K cd11 "are_figures"=true) (k11:keepIn K (.ref f11)=true)
  (a12: ~~~"read_number"=some (some (.ref f12))) (l12:#["read_number",s_12,f12,oc12,od12,kV12,dc12,pm12,an12,cd12,ct12,sl12]) (c12:codeIn K cd12 "read_number"=true) (k12:keepIn K (.ref f12)=true)
  (a13: ~~~"read_hour"=some (some (.ref f13))) (l13:#["read_hour",s_13,f13,oc13,od13,kV13,dc13,pm13,an13,cd13,ct13,sl13]) (c13:codeIn K cd13 "read_hour"=true) (k13:keepIn K (.ref f13)=true)
  (a14: ~~~"read_job"=some (some (.ref f14))) (l14:#["read_job",s_14,f14,oc14,od14,kV14,dc14,pm14,an14,cd14,ct14,sl14]) (c14:codeIn K cd14 "read_job"=true) (k14:keepIn K (.ref f14)=true)
  (a15: ~~~"read_parts"=some (some (.ref f15))) (l15:#["read_parts",s_15,f15,oc15,od15,kV15,dc15,pm15,an15,cd15,ct15,sl15]) (c15:codeIn K cd15 "read_parts"=true) (k15:keepIn K (.ref f15)=true)
  (a16: ~~~"read_jobs"=some (some (.ref f16))) (l16:#["read_jobs",s_16,f16,oc16,od16,kV16,dc16,pm16,an16,cd16,ct16,sl16]) (c16:codeIn K cd16 "read_jobs"=true) (k16:keepIn K (.ref f16)=true)
  (a17: ~~~"show_job"=some (some (.ref f17))) (l17:#["show_job",s_17,f17,oc17,od17,kV17,dc17,pm17,an17,cd17,ct17,sl17]) (c17:codeIn K cd17 "show_job"=true) (k17:keepIn K (.ref f17)=true)
  (a18: ~~~"show_jobs"=some (some (.ref f18))) (l18:#["show_jobs",s_18,f18,oc18,od18,kV18,dc18,pm18,an18,cd18,ct18,sl18]) (c18:codeIn K cd18 "show_jobs"=true) (k18:keepIn K (.ref f18)=true)
  (a19: ~~~"_law_sort"=some (some (.ref f19))) (l19:#["_law_sort",s_19,f19,oc19,od19,kV19,dc19,pm19,an19,cd19,ct19,sl19]) (c19:codeIn K cd19 "_law_sort"=true) (k19:keepIn K (.ref f19)=true)
  (a20: ~~~"_law_refused"=some (some (.ref f20))) (l20:#["_law_refused",s_20,f20,oc20,od20,kV20,dc20,pm20,an20,cd20,ct20,sl20]) (c20:codeIn K cd20 "_law_refused"=true) (k20:keepIn K (.ref f20)=true)
  (a21: ~~~"_law_odd_jobs"=some (some (.ref f21))) (l21:#["_law_odd_jobs",s_21,f21,oc21,od21,kV21,dc21,pm21,an21,cd21,ct21,sl21]) (c21:codeIn K cd21 "_law_odd_jobs"=true) (k21:keepIn K (.ref f21)=true)
  (a22: ~~~"_law_take"=some (some (.ref f22))) (l22:#["_law_take",s_22,f22,oc22,od22,kV22,dc22,pm22,an22,cd22,ct22,sl22]) (c22:codeIn K cd22 "_law_take"=true) (k22:keepIn K (.ref f22)=true)
  (a23: ~~~"_law_right"=some (some (.ref f23))) (l23:#["_law_right",s_23,f23,oc23,od23,kV23,dc23,pm23,an23,cd23,ct23,sl23]) (c23:codeIn K cd23 "_law_right"=true) (k23:keepIn K (.ref f23)=true)
  (a24: ~~~"_law_low"=some (some (.ref f24))) (l24:#["_law_low",s_24,f24,oc24,od24,kV24,dc24,pm24,an24,cd24,ct24,sl24]) (c24:codeIn K cd24 "_law_low"=true) (k24:keepIn K (.ref f24)=true)
  (a25: ~~~"_law_jobs"=some (some (.ref f25))) (l25:#["_law_jobs",s_25,f25,oc25,od25,kV25,dc25,pm25,an25,cd25,ct25,sl25]) (c25:codeIn K cd25 "_law_jobs"=true) (k25:keepIn K (.ref f25)=true)
  (a26: ~~~"law"=some (some (.ref f26))) (l26:#["law",s_26,f26,oc26,od26,kV26,dc26,pm26,an26,cd26,ct26,sl26]) (c26:codeIn K cd26 "law"=true) (k26:keepIn K (.ref f26)=true)
  (z0: ~~~"abs"=some none)
  (z1: ~~~"all"=some none)
  (z2: ~~~"any"=some none)
  (z3: ~~~"divmod"=some none)
  (z4: ~~~"isinstance"=some none)
  (z5: ~~~"len"=some none)
  (z6: ~~~"max"=some none)
  (z7: ~~~"min"=some none)
  (z8: ~~~"str"=some none)
  (z9: ~~~"tuple"=some none)
  (z10: ~~~"list"=some none)
  (z11: ~~~"int"=some none)
  (z12: ~~~"bool"=some none)
  (z13: ~~~"dict"=some none)
  (z14: ~~~"range"=some none)
  (z15: ~~~"ValueError"=some none)
  (z16: ~~~"sum"=some none)
  (z17: ~~~"zip"=some none)
  (z18: ~~~"enumerate"=some none)
  {C0:Addr} (gl0: ~~~"CordError"=some (some (.ref C0)))
  {C1:Tok} (gl1: ~~~"FIGURES"=some (some (.str "0123456789" C1)))
  {C2:Tok} (gl2: ~~~"MOST_HOURS"=some (some (.int 24 C2)))
  {C3:Tok} (gl3: ~~~"MOST_JOBS"=some (some (.int 12 C3)))
  {C4:Addr} {ta4 tb4:Tok} {dx4:Option Addr} {sx4:Array (Option Value)} {mx4:Nat} (gl4: ~~~"NOUGHT"=some (some (.ref C4))) (lk4:K.lookup C4=some ⟨.type "tuple",dx4,.seq #[.int 0 ta4,.int 1 tb4] mx4,sx4⟩)
  {C5:Addr} (gl5: ~~~"NoCall"=some (some (.ref C5)))
  {C6:Addr} (gl6: ~~~"NoData"=some (some (.ref C6)))
  {C7:Addr} (gl7: ~~~"NoJobs"=some (some (.ref C7)))
  {C8:Addr} (gl8: ~~~"NoKept"=some (some (.ref C8)))
  {C9:Addr} (gl9: ~~~"NoLevel"=some (some (.ref C9)))
  {C10:Addr} (gl10: ~~~"NoMeasure"=some (some (.ref C10)))
  {C11:Addr} (gl11: ~~~"NoNeeds"=some (some (.ref C11)))
  {C12:Addr} (gl12: ~~~"NoNumber"=some (some (.ref C12)))
  {C13:Addr} (gl13: ~~~"NoPrice"=some (some (.ref C13)))
  {C14:Addr} (gl14: ~~~"NoRoom"=some (some (.ref C14)))
  {C15:Addr} (gl15: ~~~"NoRow"=some (some (.ref C15)))
  {C16:Addr} (gl16: ~~~"NoText"=some (some (.ref C16)))
  {C17:Addr} (gl17: ~~~"NoTube"=some (some (.ref C17)))
  (tab:xTabB K=true)
  : ∃ fd:FuncData,(∀ (s:Shared) (v:Value),BindsTo s fd ⟨[v],[]⟩ [("_law_script",v)])/\∀ base:Heap,K.In base->base.Ns mainGlobals mg->FnOk l.prog w K mg base (CXR l.prog w) 27 fa fd ["_law_script"] (liftSp K SLaw):=by
 have e:=hfa.symm.trans (mg_of X G a26)
 cases e
 have B:Blt mg:=⟨fun b=>by cases b<;>first|exact mg_none_of X G z0|exact mg_none_of X G z1|exact mg_none_of X G z2|exact mg_none_of X G z3|exact mg_none_of X G z4|exact mg_none_of X G z5|exact mg_none_of X G z6|exact mg_none_of X G z7|exact mg_none_of X G z8|exact mg_none_of X G z9|exact mg_none_of X G z10|exact mg_none_of X G z11|exact mg_none_of X G z16,fun t=>by cases t<;>first|exact mg_none_of X G z0|exact mg_none_of X G z1|exact mg_none_of X G z2|exact mg_none_of X G z3|exact mg_none_of X G z4|exact mg_none_of X G z5|exact mg_none_of X G z6|exact mg_none_of X G z7|exact mg_none_of X G z8|exact mg_none_of X G z9|exact mg_none_of X G z10|exact mg_none_of X G z11|exact mg_none_of X G z12|exact mg_none_of X G z13|exact mg_none_of X G z15,mg_none_of X G z14,mg_none_of X G z17,mg_none_of X G z18⟩
 have F0:=fun_mk (st:=s_0) l0 c0 k0
 have b0:=F0.binds (ps:=["_law_cell"]) (by sleep 71)
 have F1:=fun_mk (st:=s_1) l1 c1 k1
 have b1:=F1.binds (ps:=["_law_script","_law_k"]) (by sleep 72)
 have F2:=fun_mk (st:=s_2) l2 c2 k2
 have b2:=F2.binds (ps:=["_law_one"]) (by sleep 71)
 have F3:=fun_mk (st:=s_3) l3 c3 k3
 have b3:=F3.binds (ps:=["_law_job"]) (by sleep 71)
 have F4:=fun_mk (st:=s_4) l4 c4 k4
 have b4:=F4.binds (ps:=["thing"]) (by sleep 71)
 have F5:=fun_mk (st:=s_5) l5 c5 k5
 have b5:=F5.binds (ps:=["one","other"]) (by sleep 72)
 have F6:=fun_mk (st:=s_6) l6 c6 k6
 have b6:=F6.binds (ps:=["thing"]) (by sleep 71)
 have F7:=fun_mk (st:=s_7) l7 c7 k7
 have b7:=F7.binds (ps:=["one","other"]) (by sleep 72)
 have F8:=fun_mk (st:=s_8) l8 c8 k8
 have b8:=F8.binds (ps:=["thing"]) (by sleep 71)
 have F9:=fun_mk (st:=s_9) l9 c9 k9
 have b9:=F9.binds (ps:=["thing"]) (by sleep 71)
 have F10:=fun_mk (st:=s_10) l10 c10 k10
 have b10:=F10.binds (ps:=["one"]) (by sleep 71)
 have F11:=fun_mk (st:=s_11) l11 c11 k11
 have b11:=F11.binds (ps:=["text"]) (by sleep 71)
 have F12:=fun_mk (st:=s_12) l12 c12 k12
 have b12:=F12.binds (ps:=["text"]) (by sleep 71)
 have F13:=fun_mk (st:=s_13) l13 c13 k13
 have b13:=F13.binds (ps:=["text"]) (by sleep 71)
 have F14:=fun_mk (st:=s_14) l14 c14 k14
 have b14:=F14.binds (ps:=["text"]) (by sleep 71)
 have F15:=fun_mk (st:=s_15) l15 c15 k15
 have b15:=F15.binds (ps:=["text","sign","read_part","may_stand"]) (by sleep 74)
 have F16:=fun_mk (st:=s_16) l16 c16 k16
 have b16:=F16.binds (ps:=["text"]) (by sleep 71)
 have F17:=fun_mk (st:=s_17) l17 c17 k17
 have b17:=F17.binds (ps:=["job"]) (by sleep 71)
 have F18:=fun_mk (st:=s_18) l18 c18 k18
 have b18:=F18.binds (ps:=["jobs"]) (by sleep 71)
 have F19:=fun_mk (st:=s_19) l19 c19 k19
 have b19:=F19.binds (ps:=["_law_e"]) (by sleep 71)
 have F20:=fun_mk (st:=s_20) l20 c20 k20
 have b20:=F20.binds (ps:=["_law_ask","_law_text","_law_part"]) (by sleep 73)
 have F21:=fun_mk (st:=s_21) l21 c21 k21
 have b21:=F21.binds (ps:=[]) fun _ _ _ _ _ _ us hl=>by obtain rfl:=us0 hl;rfl
 have F22:=fun_mk (st:=s_22) l22 c22 k22
 have b22:=F22.binds (ps:=["_law_pack_here","_law_size"]) (by sleep 72)
 have F23:=fun_mk (st:=s_23) l23 c23 k23
 have b23:=F23.binds (ps:=["_law_pack_here","_law_jobs_here"]) (by sleep 72)
 have F24:=fun_mk (st:=s_24) l24 c24 k24
 have b24:=F24.binds (ps:=["_law_top","_law_bottom"]) (by sleep 72)
 have F25:=fun_mk (st:=s_25) l25 c25 k25
 have b25:=F25.binds (ps:=["_law_pack_here","_law_most"]) (by sleep 72)
 have F26:=fun_mk (st:=s_26) l26 c26 k26
 refine⟨fnOf "law" "law" (defArgs s_26) (defBody s_26) (defScope s_26) .none kV26 dc26 pm26 an26 cd26 ct26,fun s v=>.of_eq rfl,fun base _ _=>?_⟩
 have G0:GloE K mg "CordError" (.cls "CordError"):=glo_of_cls X G (by decide) gl0
 have G1:GloE K mg "FIGURES" G_FIGURES:=⟨_,.str "0123456789",mg_of X G gl1,⟨_,rfl⟩,fun _=>.str _⟩
 have G2:GloE K mg "MOST_HOURS" G_MOST_HOURS:=⟨_,.int 24,mg_of X G gl2,⟨_,rfl⟩,fun _=>.int _⟩
 have G3:GloE K mg "MOST_JOBS" G_MOST_JOBS:=⟨_,.int 12,mg_of X G gl3,⟨_,rfl⟩,fun _=>.int _⟩
 have G4:GloE K mg "NOUGHT" G_NOUGHT:=glo_of_pair X G gl4 lk4
 have G5:GloE K mg "NoCall" (.cls "NoCall"):=glo_of_cls X G (by decide) gl5
 have G6:GloE K mg "NoData" (.cls "NoData"):=glo_of_cls X G (by decide) gl6
 have G7:GloE K mg "NoJobs" (.cls "NoJobs"):=glo_of_cls X G (by decide) gl7
 have G8:GloE K mg "NoKept" (.cls "NoKept"):=glo_of_cls X G (by decide) gl8
 have G9:GloE K mg "NoLevel" (.cls "NoLevel"):=glo_of_cls X G (by decide) gl9
 have G10:GloE K mg "NoMeasure" (.cls "NoMeasure"):=glo_of_cls X G (by decide) gl10
 have G11:GloE K mg "NoNeeds" (.cls "NoNeeds"):=glo_of_cls X G (by decide) gl11
 have G12:GloE K mg "NoNumber" (.cls "NoNumber"):=glo_of_cls X G (by decide) gl12
 have G13:GloE K mg "NoPrice" (.cls "NoPrice"):=glo_of_cls X G (by decide) gl13
 have G14:GloE K mg "NoRoom" (.cls "NoRoom"):=glo_of_cls X G (by decide) gl14
 have G15:GloE K mg "NoRow" (.cls "NoRow"):=glo_of_cls X G (by decide) gl15
 have G16:GloE K mg "NoText" (.cls "NoText"):=glo_of_cls X G (by decide) gl16
 have G17:GloE K mg "NoTube" (.cls "NoTube"):=glo_of_cls X G (by decide) gl17
 have GF9:GloE K mg "is_jobs" (.fn "is_jobs"):=glo_of_fn X G a9
 have GF14:GloE K mg "read_job" (.fn "read_job"):=glo_of_fn X G a14
 have GF16:GloE K mg "read_jobs" (.fn "read_jobs"):=glo_of_fn X G a16
 have E0:FnE l.prog w K mg base 1 "" "_law_mixed" S_0:=def_ok (k:=0) C_0 F0 (mg_of X G a0) b0 B tab sc_0 ck_0 (by sleep 51) len_0 vc_0
 have E1:FnE l.prog w K mg base 2 "" "_law_pack" S_1:=def_ok (k:=1) C_1 F1 (mg_of X G a1) b1 B tab sc_1 ck_1 (by have:=E0.mono (show 1<=1 by decide);sleep 51) len_1 vc_1
 have E2:FnE l.prog w K mg base 3 "" "_law_number_text" S_2:=def_ok (k:=2) C_2 F2 (mg_of X G a2) b2 B tab sc_2 ck_2 (by sleep 51) len_2 vc_2
 have E3:FnE l.prog w K mg base 4 "" "_law_job_text" S_3:=def_ok (k:=3) C_3 F3 (mg_of X G a3) b3 B tab sc_3 ck_3 (by have:=E2.mono (show 3<=3 by decide);sleep 51) len_3 vc_3
 have E4:FnE l.prog w K mg base 5 "" "is_whole" S_4:=def_ok (k:=4) C_4 F4 (mg_of X G a4) b4 B tab sc_4 ck_4 (by sleep 51) len_4 vc_4
 have E5:FnE l.prog w K mg base 6 "" "greatest_divisor" S_5:=def_ok (k:=5) C_5 F5 (mg_of X G a5) b5 B tab sc_5 ck_5 (by sleep 51) len_5 vc_5
 have E6:FnE l.prog w K mg base 7 "" "is_number" S_6:=def_ok (k:=6) C_6 F6 (mg_of X G a6) b6 B tab sc_6 ck_6 (by have:=E4.mono (show 5<=6 by decide);have:=E5.mono (show 6<=6 by decide);sleep 51) len_6 vc_6
 have E7:FnE l.prog w K mg base 8 "" "is_less" S_7:=def_ok (k:=7) C_7 F7 (mg_of X G a7) b7 B tab sc_7 ck_7 (by sleep 51) len_7 vc_7
 have E8:FnE l.prog w K mg base 9 "" "is_job" S_8:=def_ok (k:=8) C_8 F8 (mg_of X G a8) b8 B tab sc_8 ck_8 (by have:=E4.mono (show 5<=8 by decide);have:=E6.mono (show 7<=8 by decide);have:=E7.mono (show 8<=8 by decide);sleep 51) len_8 vc_8
 have E9:FnE l.prog w K mg base 10 "" "is_jobs" S_9:=def_ok (k:=9) C_9 F9 (mg_of X G a9) b9 B tab sc_9 ck_9 (by have:=E8.mono (show 9<=9 by decide);sleep 51) len_9 vc_9
 have E10:FnE l.prog w K mg base 11 "" "show_number" S_10:=def_ok (k:=10) C_10 F10 (mg_of X G a10) b10 B tab sc_10 ck_10 (by sleep 51) len_10 vc_10
 have E11:FnE l.prog w K mg base 12 "" "are_figures" S_11:=def_ok (k:=11) C_11 F11 (mg_of X G a11) b11 B tab sc_11 ck_11 (by sleep 51) len_11 vc_11
 have E12:FnE l.prog w K mg base 13 "" "read_number" S_12:=def_ok (k:=12) C_12 F12 (mg_of X G a12) b12 B tab sc_12 ck_12 (by have:=E6.mono (show 7<=12 by decide);have:=E10.mono (show 11<=12 by decide);have:=E11.mono (show 12<=12 by decide);sleep 51) len_12 vc_12
 have E13:FnE l.prog w K mg base 14 "" "read_hour" S_13:=def_ok (k:=13) C_13 F13 (mg_of X G a13) b13 B tab sc_13 ck_13 (by have:=E12.mono (show 13<=13 by decide);sleep 51) len_13 vc_13
 have E14:FnE l.prog w K mg base 15 "" "read_job" S_14:=def_ok (k:=14) C_14 F14 (mg_of X G a14) b14 B tab sc_14 ck_14 (by have:=E12.mono (show 13<=14 by decide);have:=E13.mono (show 14<=14 by decide);sleep 51) len_14 vc_14
 have E15:FnE l.prog w K mg base 16 "" "read_parts" S_15:=def_ok (k:=15) C_15 F15 (mg_of X G a15) b15 B tab sc_15 ck_15 (by have:=E9.mono (show 10<=15 by decide);have:=E14.mono (show 15<=15 by decide);sleep 51) len_15 vc_15
 have E16:FnE l.prog w K mg base 17 "" "read_jobs" S_16:=def_ok (k:=16) C_16 F16 (mg_of X G a16) b16 B tab sc_16 ck_16 (by have:=E9.mono (show 10<=16 by decide);have:=E14.mono (show 15<=16 by decide);have:=E15.mono (show 16<=16 by decide);sleep 51) len_16 vc_16
 have E17:FnE l.prog w K mg base 18 "" "show_job" S_17:=def_ok (k:=17) C_17 F17 (mg_of X G a17) b17 B tab sc_17 ck_17 (by have:=E10.mono (show 11<=17 by decide);sleep 51) len_17 vc_17
 have E18:FnE l.prog w K mg base 19 "" "show_jobs" S_18:=def_ok (k:=18) C_18 F18 (mg_of X G a18) b18 B tab sc_18 ck_18 (by have:=E17.mono (show 18<=18 by decide);sleep 51) len_18 vc_18
 have E19:FnE l.prog w K mg base 20 "" "_law_sort" S_19:=def_ok (k:=19) C_19 F19 (mg_of X G a19) b19 B tab sc_19 ck_19 (by sleep 51) len_19 vc_19
 have E20:FnE l.prog w K mg base 21 "" "_law_refused" S_20:=def_ok (k:=20) C_20 F20 (mg_of X G a20) b20 B tab sc_20 ck_20 (by have:=E16.mono (show 17<=20 by decide);have:=E19.mono (show 20<=20 by decide);sleep 51) len_20 vc_20
 have E21:FnE l.prog w K mg base 22 "" "_law_odd_jobs" S_21:=def_ok (k:=21) C_21 F21 (mg_of X G a21) b21 B tab sc_21 ck_21 (by sleep 51) len_21 vc_21
 have E22:FnE l.prog w K mg base 23 "" "_law_take" S_22:=def_ok (k:=22) C_22 F22 (mg_of X G a22) b22 B tab sc_22 ck_22 (by sleep 51) len_22 vc_22
 have E23:FnE l.prog w K mg base 24 "" "_law_right" S_23:=def_ok (k:=23) C_23 F23 (mg_of X G a23) b23 B tab sc_23 ck_23 (by have:=E3.mono (show 4<=23 by decide);have:=E9.mono (show 10<=23 by decide);have:=E16.mono (show 17<=23 by decide);have:=E18.mono (show 19<=23 by decide);have:=E20.mono (show 21<=23 by decide);have:=E21.mono (show 22<=23 by decide);have:=E22.mono (show 23<=23 by decide);sleep 51) len_23 vc_23
 have E24:FnE l.prog w K mg base 25 "" "_law_low" S_24:=def_ok (k:=24) C_24 F24 (mg_of X G a24) b24 B tab sc_24 ck_24 (by sleep 51) len_24 vc_24
 have E25:FnE l.prog w K mg base 26 "" "_law_jobs" S_25:=def_ok (k:=25) C_25 F25 (mg_of X G a25) b25 B tab sc_25 ck_25 (by have:=E22.mono (show 23<=25 by decide);have:=E24.mono (show 25<=25 by decide);sleep 51) len_25 vc_25
 exact def_fn (k:=26) C_26 F26 B tab sc_26 ck_26 (by have:=E1.mono (show 2<=26 by decide);have:=E16.mono (show 17<=26 by decide);have:=E20.mono (show 21<=26 by decide);have:=E23.mono (show 24<=26 by decide);have:=E25.mono (show 26<=26 by decide);sleep 51) len_26 vc_26
end K
set_option bootstrap.genMatcherCode true
open PySem PySem.W PyProof.Rows
set_option maxRecDepth 100000 in
set_option maxHeartbeats 0 in
theorem PySem.Challenge.cw_levelcord_k86_jobs_written_holds : PySem.Challenge.rw_levelcord_k86_jobs_written.Holds := by
 w_on;o_law;k_head;(case hw=>w_witness2)
 k_fill
 refine DL.walkD (l:=PySem.Challenge.rw_levelcord_k86_jobs_written) (k:=27) (x:="_law_script") rfl rfl ⟨rfl,by decide,by decide⟩ (fun w h Y=>PySem.W.kIn_of Y) ?F
 case F =>
  intro w mg fa h KX G hmg
  refine' K.all_mk KX G hmg ?a0 ?l0 ?c0 ?k0 ?a1 ?l1 ?c1 ?k1 ?a2 ?l2 ?c2 ?k2 ?a3 ?l3 ?c3 ?k3 ?a4 ?l4 ?c4 ?k4 ?a5 ?l5 ?c5 ?k5 ?a6 ?l6 ?c6 ?k6 ?a7 ?l7 ?c7 ?k7 ?a8 ?l8 ?c8 ?k8 ?a9 ?l9 ?c9 ?k9 ?a10 ?l10 ?c10 ?k10 ?a11 ?l11 ?c11 ?k11 ?a12 ?l12 ?c12 ?k12 ?a13 ?l13 ?c13 ?k13 ?a14 ?l14 ?c14 ?k14 ?a15 ?l15 ?c15 ?k15 ?a16 ?l16 ?c16 ?k16 ?a17 ?l17 ?c17 ?k17 ?a18 ?l18 ?c18 ?k18 ?a19 ?l19 ?c19 ?k19 ?a20 ?l20 ?c20 ?k20 ?a21 ?l21 ?c21 ?k21 ?a22 ?l22 ?c22 ?k22 ?a23 ?l23 ?c23 ?k23 ?a24 ?l24 ?c24 ?k24 ?a25 ?l25 ?c25 ?k25 ?a26 ?l26 ?c26 ?k26 ?z0 ?z1 ?z2 ?z3 ?z4 ?z5 ?z6 ?z7 ?z8 ?z9 ?z10 ?z11 ?z12 ?z13 ?z14 ?z15 ?z16 ?z17 ?z18 ?gl0 ?gl1 ?gl2 ?gl3 ?gl4 ?lk4 ?gl5 ?gl6 ?gl7 ?gl8 ?gl9 ?gl10 ?gl11 ?gl12 ?gl13 ?gl14 ?gl15 ?gl16 ?gl17 ?tab
  case a0|l0|c0|k0|a1|l1|c1|k1|a2|l2|c2|k2|a3|l3|c3|k3|a4|l4|c4|k4|a5|l5|c5|k5|a6|l6|c6|k6|a7|l7|c7|k7|a8|l8|c8|k8|a9|l9|c9|k9|a10|l10|c10|k10|a11|l11|c11|k11|a12|l12|c12|k12|a13|l13|c13|k13|a14|l14|c14|k14|a15|l15|c15|k15|a16|l16|c16|k16|a17|l17|c17|k17|a18|l18|c18|k18|a19|l19|c19|k19|a20|l20|c20|k20|a21|l21|c21|k21|a22|l22|c22|k22|a23|l23|c23|k23|a24|l24|c24|k24|a25|l25|c25|k25|a26|l26|c26|k26|z0|z1|z2|z3|z4|z5|z6|z7|z8|z9|z10|z11|z12|z13|z14|z15|z16|z17|z18|gl0|gl1|gl2|gl3|gl4|lk4|gl5|gl6|gl7|gl8|gl9|gl10|gl11|gl12|gl13|gl14|gl15|gl16|gl17=>k_is
  (case tab=>kernel_rfl)
