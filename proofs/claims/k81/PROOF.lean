import PyProof.Rows.All
import Wide.All
import OpenK.AllK
import Wide.FinOn
import Lean
import PyProof.EqAt
import PyProof.EqKinds
import PyProof.TupleCall
import PyProof.SumAnyB
import PySem.Challenge.RW_levelcord_k81_papers_of_steps
set_option Elab.async false
set_option linter.all false
set_option maxRecDepth 100000
set_option maxHeartbeats 4000000
set_option genSizeOf false
local macro_rules
 | `(tactic| simp[0,$xs,*])=>do
  let ys:=("Yw dVar dC d2 dNil YK dTup dLst dCB Zr XG dAnd dOr dNot D4 dOrV dIfE bInt bOp cInt cOp fAbs fMax fMin fStr Vk fInt truD dTru Wk D1 dNeg Jh WS dSl D3 LQ dRev Ji dSeq KR LR D2 dRet LP dIfS Br Z1 CZ AX CY dAsg dPar dTwo dAug CV fSum dApp dExt dIns dIdx Wp Vz CGs.len plain rE rEs rO rG rGs rI Bq dTry rS Y2".splitOn " ").toArray.map fun s=>(⟨Lean.mkNode `Lean.Parser.Tactic.simpLemma #[Lean.mkNullNode,Lean.mkNullNode,Lean.mkIdent (`DL++s.toName)]⟩:Lean.TSyntax `Lean.Parser.Tactic.simpLemma)
  `(tactic| simp[$ys,*,$xs,*])
 | `(tactic| dsimp only[0,$xs,*])=>do
  let ys:=("Yw dVar dC d2 dNil YK dTup dLst dCB Zr XG dAnd dOr dNot D4 dOrV dIfE bInt bOp cInt cOp fAbs fMax fMin fStr Vk fInt truD dTru Wk D1 dNeg Jh WS dSl D3 LQ dRev Ji dSeq KR LR D2 dRet LP dIfS Br Z1 CZ AX CY dAsg dPar dTwo dAug CV fSum dApp dExt dIns dIdx Wp Vz CGs.len plain rE rEs rO rG rGs rI Bq dTry rS Y2".splitOn " ").toArray.map fun s=>(⟨Lean.mkNode `Lean.Parser.Tactic.simpLemma #[Lean.mkNullNode,Lean.mkNullNode,Lean.mkIdent (`DL++s.toName)]⟩:Lean.TSyntax `Lean.Parser.Tactic.simpLemma)
  `(tactic| dsimp only[$ys,*,$xs,*])
 | `(tactic| simp only[0,$xs,*])=>do
  let ys:=("Yw dVar dC d2 dNil YK dTup dLst dCB Zr XG dAnd dOr dNot D4 dOrV dIfE bInt bOp cInt cOp fAbs fMax fMin fStr Vk fInt truD dTru Wk D1 dNeg Jh WS dSl D3 LQ dRev Ji dSeq KR LR D2 dRet LP dIfS Br Z1 CZ AX CY dAsg dPar dTwo dAug CV fSum dApp dExt dIns dIdx Wp Vz CGs.len plain rE rEs rO rG rGs rI Bq dTry rS Y2".splitOn " ").toArray.map fun s=>(⟨Lean.mkNode `Lean.Parser.Tactic.simpLemma #[Lean.mkNullNode,Lean.mkNullNode,Lean.mkIdent (`DL++s.toName)]⟩:Lean.TSyntax `Lean.Parser.Tactic.simpLemma)
  `(tactic| simp only[$ys,*,$xs,*])
local macro_rules | `(tactic| omega)=>`(tactic| lia)
set_option bootstrap.genMatcherCode false
set_option bootstrap.genMatcherCode true
local macro_rules | `(%[$xs,*|$n])=>match n.raw.isNatLit? with
 | some 0=>do
  let mut r:Lean.Term<-`(.nil)
  for x in xs.getElems.reverse do r<-`(.cons $x $r)
  return r
 | some 1=>`(⟨fun _ _=>rfl,fun _ _=>rfl,fun _=>rfl,fun _ _=>rfl,fun _ _ _ _=>rfl⟩)
 | some 2=>`((fun _ _ _ z=>nomatch z))
 | some 3=>`((Nat.le_refl _))
 | _=>Lean.Macro.throwUnsupported
set_option bootstrap.genMatcherCode false
open PySem.W (Frag hideAll)
noncomputable section
namespace L2
open PySem PySem.Spec PyProof.Rows
abbrev Key:=Sum Int Str
noncomputable def CU:Key->Value->Bool
 | .inl k,v=>Value.isInt k v
 | .inr x,v=>Value.isStrOf x v
noncomputable def keyH (w:World):Key->Int
 | .inl k=>hashInt k
 | .inr x=>hashStr w x
theorem Yt:∀ {k:Key} {v:Value},CU k v=true->(∃ i t,k=Sum.inl i/\v=Value.int i t)\/(∃ x t,k=Sum.inr x/\v=Value.str x t)
 | .inl i,v,h=>by
  obtain⟨t,e⟩:=Value.isInt_shape (k:=i) (v:=v) h;exact .inl ⟨i,t,rfl,e⟩
 | .inr x,v,h=>by
  obtain⟨t,e⟩:=Value.isStrOf_shape (x:=x) (v:=v) h;exact .inr ⟨x,t,rfl,e⟩
theorem Fb (a b:Int):decide ((Sum.inl a:Key)=Sum.inl b)=(a==b):=by
 by_cases e:a=b
 ·subst e;simp
 ·have h:¬ (Sum.inl a:Key)=Sum.inl b:=fun q=>e (Sum.inl.inj q)
  rw[decide_eq_false h];exact (beq_eq_false_iff_ne.mpr e).symm
theorem EX (a b:Str):decide ((Sum.inr a:Key)=Sum.inr b)=decide (a=b):=by
 by_cases e:a=b
 ·subst e;simp
 ·have h:¬ (Sum.inr a:Key)=Sum.inr b:=fun q=>e (Sum.inr.inj q)
  rw[decide_eq_false h,decide_eq_false e]
theorem EZ (a:Int) (b:Str):decide ((Sum.inl a:Key)=Sum.inr b)=false:=decide_eq_false (fun q=>nomatch q)
theorem EY (a:Str) (b:Int):decide ((Sum.inr a:Key)=Sum.inl b)=false:=decide_eq_false (fun q=>nomatch q)
noncomputable def Vf (prog:Program) (w:World):PySem.KeyKind prog w Key where
 is:=CU
 hash:=keyH w
 inj:=fun v a b ha hb=>by
  rcases Yt ha with ⟨i,t,rfl,rfl⟩|⟨x,t,rfl,rfl⟩
  ·rcases Yt hb with ⟨j,u,rfl,e⟩|⟨y,u,rfl,e⟩
   ·injection e with e1 _;rw[e1]
   ·exact nomatch e
  ·rcases Yt hb with ⟨j,u,rfl,e⟩|⟨y,u,rfl,e⟩
   ·exact nomatch e
   ·injection e with e1 _;rw[e1]
 byValue:=fun k v h=>by
  rcases Yt h with ⟨i,t,rfl,rfl⟩|⟨x,t,rfl,rfl⟩<;>rfl
 pyHash:=fun hv h=>by
  rcases Yt hv with ⟨i,t,rfl,rfl⟩|⟨x,t,rfl,rfl⟩
  ·exact wpAny_pyHash_int h
  ·exact wpAny_pyHash_str h
 eqBool:=fun hu hv h=>by
  rcases Yt hu with ⟨i,t,rfl,rfl⟩|⟨x,t,rfl,rfl⟩
  ·rcases Yt hv with ⟨j,u,rfl,rfl⟩|⟨y,u,rfl,rfl⟩
   ·rw[Fb] at h;exact wpAny_eqBool_int h
   ·rw[EZ] at h;exact SeqAt.EqAt.int_str i t y u _ _ _ _ h
  ·rcases Yt hv with ⟨j,u,rfl,rfl⟩|⟨y,u,rfl,rfl⟩
   ·rw[EY] at h;exact SeqAt.EqAt.str_int x t j u _ _ _ _ h
   ·rw[EX] at h;exact wpAny_eqBool_str h
 «strs»:=fun k x t v h=>by
  rcases Yt h with ⟨i,u,rfl,e⟩|⟨y,u,rfl,e⟩
  ·exact nomatch e
  ·injection e with e1 _
   subst e1;cases v<;>rfl
end L2
namespace L2
open PySem PySem.Spec PyProof.Rows
inductive V where
 | non|bl (b:Bool)|int (i:Int)|str (x:Str)|byt (b:Array UInt8)|flt (b:UInt64)|ref (a:Addr)|ty (n:String)
 deriving DecidableEq
noncomputable def RelV:V->Value->Prop
 | .non,u=>u=Value.none
 | .bl b,u=>u=Value.bool b
 | .int i,u=>∃ t,u=Value.int i t
 | .str x,u=>∃ t,u=Value.str x t
 | .byt b,u=>∃ t,u=Value.bytes b t
 | .flt b,u=>∃ t,u=Value.float b t
 | .ref a,u=>u=Value.ref a
 | .ty n,u=>u=Value.type n
abbrev Vals:List V->List Value->Prop:=Paired RelV
theorem Vals.length {xs:List V} {us:List Value} (r:Vals xs us):xs.length=us.length:=Paired.length r
theorem Vals.get:∀ {xs:List V} {us:List Value} {i:Nat} {x:V},Vals xs us->xs[i]?=some x->∃ u,us[i]?=some u/\RelV x u
 | _,_,_,_,.nil,e=>by simp at e
 | _,_,0,_,.cons r _,e=>by simp at e;subst e;exact⟨_,rfl,r⟩
 | _,_,i+1,x,.cons _ t,e=>by
  obtain⟨u,h1,h2⟩:=Vals.get (i:=i) (x:=x) t (by simpa using e);exact⟨u,by simpa using h1,h2⟩
theorem Vals.set {x:V} {u:Value} (r:RelV x u):∀ {xs:List V} {us:List Value} (i:Nat),Vals xs us->Vals (xs.set i x) (us.set i u)
 | _,_,_,.nil=>.nil
 | _,_,0,.cons _ t=>.cons r t
 | _,_,i+1,.cons q t=>.cons q (Vals.set r i t)
theorem Vals.append:∀ {xs ys:List V} {us ws:List Value},Vals xs us->Vals ys ws->Vals (xs++ys) (us++ws)
 | _,_,_,_,.nil,s=>s
 | _,_,_,_,.cons r t,s=>.cons r (Vals.append t s)
theorem Vals.take:∀ {xs:List V} {us:List Value} (n:Nat),Vals xs us->Vals (xs.take n) (us.take n)
 | _,_,0,_=>.nil
 | _,_,_+1,.nil=>.nil
 | _,_,n+1,.cons r t=>.cons r (Vals.take n t)
theorem Vals.drop:∀ {xs:List V} {us:List Value} (n:Nat),Vals xs us->Vals (xs.drop n) (us.drop n)
 | _,_,0,r=>r
 | _,_,_+1,.nil=>.nil
 | _,_,n+1,.cons _ t=>Vals.drop n t
noncomputable def RelO:Option V->Option Value->Prop
 | some v,some u=>RelV v u
 | none,none=>True
 | _,_=>False
noncomputable def KV {κ:Type}:List (κ×V)->List (κ×Value)->Prop:=Paired fun (p:κ×V) (q:κ×Value)=>p.1=q.1/\RelV p.2 q.2
noncomputable def kV:Key->V
 | .inl i=>.int i
 | .inr x=>.str x
inductive HO where
 | lst (xs:List V)
 | tup (xs:List V)
 | dK (kvs:List (Key×V))|dT (kvs:List (List Key×V))
 | set (S:Int->Bool) (n:Nat)
 | ins (C dx:Addr) (fs:List (Str×V))
 | own (x:Addr)
 | xd (fs:List (Str×V))
 | met (f x:Addr)
 | rng (lo hi:Int)
 | frz (o:Obj) (u:HO)
 | tbl (ps:Array Value)
 | ext (φ:Heap->Prop)
abbrev Hp:=Addr->Option HO
noncomputable def upd (H:Hp) (a:Addr) (o:HO):Hp:=fun b=>if b=a then some o else H b
theorem upd_same {H:Hp} {a:Addr} {o:HO}:upd H a o a=some o:=by unfold upd;rw[if_pos rfl]
theorem Y9 {H:Hp} {a b:Addr} {o:HO} (h:b≠a):upd H a o b=H b:=by unfold upd;rw[if_neg h]
theorem Za {H:Hp} {a b:Addr} {o:HO} (h:H a=some o) (h':H b=none):a≠b:=by
 intro e;subst e;rw[h] at h';cases h'
section
variable (P:Program) (w:World)
noncomputable def ObjOk (H:Hp) (h:Heap) (a:Addr):HO->Prop
 | .lst xs=>xs.length<=sizeLine/\∃ (its:List Value) (n:Nat),Vals xs its/\h.get? a=some {cls:=.type "list",data:=.seq its.toArray n}
 | .tup xs=>xs.length<=sizeLine/\∃ its:List Value,Vals xs its/\IsTup h a its.toArray
 | .dK kvs=>kvs.length<=sizeLine/\(a==sysModules)=false/\∃ vs,KV kvs vs/\h.DictOf (Vf P w) a vs
 | .dT kvs=>kvs.length<=sizeLine/\(a==sysModules)=false/\∃ xs:List (List Key×Addr×Value),
   Paired (fun (p:List Key×V) (q:List Key×Addr×Value)=>p.1=q.1/\H q.2.1=some (.tup (p.1.map kV))/\RelV p.2 q.2.2) kvs xs /\
   ∃ o es ep,h.get? a=some o/\o.ExactDict/\o.data=.dict es ep/\es.toList=xs.map (entryOfKey (tupleKind (Vf P w)))/\(xs.map (·.1)).Nodup
 | .set S n=>h.SetOf (intKind P w) a S n
 | .ins C dx fs=>H dx=some (.own a)/\fs.length<=1000/\dx≠a/\h.get? a=some (PySem.W.instObj C dx) /\
   ∃ mA,h.Ns1 dx mA/\(∀ f,RelO (fs.lookup f) (mA f))/\PySem.Within mA (fs.map (·.1))
 | .own _=>∃ o,h.get? a=some o
 | .xd fs=>∃ mA,h.Ns1 a mA/\∀ f,RelO (fs.lookup f) (mA f)
 | .rng lo hi=>∃ t u v,h.get? a=some {cls:=.type "range",data:=.fields #[.int lo t,.int hi u,.int 1 v]}
 | .frz o u=>h.get? a=some o/\ObjOk H h a u
 | .tbl ps=>h.get? a=some {cls:=.none,data:=.fields ps}
 | .met f x=>h.get? a=some (PySem.W.methodObj (.ref f) (.ref x))
 | .ext φ=>φ h/\(∃ o,h.get? a=some o)/\∀ h1 h2:Heap,φ h1->(∀ o,h1.get? a=some o->h2.get? a=some o)->φ h2
noncomputable def HOk (H:Hp) (h:Heap):Prop:=∀ a o,H a=some o->ObjOk P w H h a o
end
section
variable {P:Program} {w:World} {H H':Hp} {h h':Heap} {a:Addr} {o:HO}
theorem ObjOk.lt (x:ObjOk P w H h a o):a<h.objs.size:=by
 cases o with
 | lst xs=>obtain⟨_,_,_,_,e⟩:=x;exact Heap.lt_size e
 | tup xs=>obtain⟨_,_,_,p⟩:=x;exact p.lt
 | dK kvs=>obtain⟨_,_,_,_,o,_,_,e,_⟩:=x;exact Heap.lt_size e
 | dT kvs=>obtain⟨_,_,_,_,o,_,_,e,_⟩:=x;exact Heap.lt_size e
 | set S n=>obtain⟨o,_,_,_,e,_⟩:=x;exact Heap.lt_size e
 | ins C dx fs=>obtain⟨_,_,_,e,_⟩:=x;exact Heap.lt_size e
 | own y=>obtain⟨_,e⟩:=x;exact Heap.lt_size e
 | xd fs=>obtain⟨_,⟨_,_,_,e,_⟩,_⟩:=x;exact Heap.lt_size e
 | rng lo hi=>obtain⟨_,_,_,e⟩:=x;exact Heap.lt_size e
 | frz ob u=>obtain⟨e,_⟩:=x;exact Heap.lt_size e
 | tbl ps=>exact Heap.lt_size (show h.get? a=some _ from x)
 | met f y=>exact Heap.lt_size (show h.get? a=some _ from x)
 | ext φ=>obtain⟨_,⟨_,e⟩,_⟩:=x;exact Heap.lt_size e
theorem Paired.mapP {α β:Type} {F G:α->β->Prop}:∀ {l₁:List α} {l₂:List β},Paired F l₁ l₂->(∀ a b,F a b->G a b)->Paired G l₁ l₂
 | _,_,.nil,_=>.nil
 | _,_,.cons r t,f=>.cons (f _ _ r) (Paired.mapP t f)
theorem ObjOk.stay (x:ObjOk P w H h a o) (k:∀ b u,(b=a\/H b=some (.own a))->h.get? b=some u->h'.get? b=some u)
  (ho:∀ b,H b=some (.own a)->H' b=some (.own a)) (ht:∀ b xs,H b=some (.tup xs)->H' b=some (.tup xs)):ObjOk P w H' h' a o:=by
 induction o with
 | lst xs=>obtain⟨z,its,n,r,e⟩:=x;exact⟨z,its,n,r,k _ _ (.inl rfl) e⟩
 | tup xs=>obtain⟨z,its,r,ob,e,c⟩:=x;exact⟨z,its,r,ob,k _ _ (.inl rfl) e,c⟩
 | dK kvs=>obtain⟨z,y,vs,r,ob,es,ep,e,c⟩:=x;exact⟨z,y,vs,r,ob,es,ep,k _ _ (.inl rfl) e,c⟩
 | dT kvs =>
  obtain⟨z,y,xs,r,ob,es,ep,e,c⟩:=x;exact⟨z,y,xs,Paired.mapP r fun p q z=>⟨z.1,ht _ _ z.2.1,z.2.2⟩,ob,es,ep,k _ _ (.inl rfl) e,c⟩
 | set S n=>obtain⟨ob,es,ep,t,e,c⟩:=x;exact⟨ob,es,ep,t,k _ _ (.inl rfl) e,c⟩
 | ins C dx fs =>
  obtain⟨d,z,ne,e,mA,⟨od,es,ep,e2,c⟩,r⟩:=x;exact⟨ho _ d,z,ne,k _ _ (.inl rfl) e,mA,⟨od,es,ep,k _ _ (.inr d) e2,c⟩,r⟩
 | own y=>obtain⟨ob,e⟩:=x;exact⟨ob,k _ _ (.inl rfl) e⟩
 | xd fs=>obtain⟨mA,⟨od,es,ep,e,c⟩,r⟩:=x;exact⟨mA,⟨od,es,ep,k _ _ (.inl rfl) e,c⟩,r⟩
 | rng lo hi=>obtain⟨t,u,v,e⟩:=x;exact⟨t,u,v,k _ _ (.inl rfl) e⟩
 | frz ob u ih=>obtain⟨e,q⟩:=x;exact⟨k _ _ (.inl rfl) e,ih q⟩
 | tbl ps =>
  have e:h.get? a=some {cls:=.none,data:=.fields ps}:=x;show h'.get? a=some {cls:=.none,data:=.fields ps};exact k a _ (.inl rfl) e
 | met f y =>
  have e:h.get? a=some (PySem.W.methodObj (.ref f) (.ref y)):=x;show h'.get? a=some (PySem.W.methodObj (.ref f) (.ref y));exact k a _ (.inl rfl) e
 | ext φ=>obtain⟨p,⟨o,e⟩,st⟩:=x;exact⟨st _ _ p fun o q=>k _ _ (.inl rfl) q,⟨o,k _ _ (.inl rfl) e⟩,st⟩
theorem HOk.lt (x:HOk P w H h) (e:H a=some o):a<h.objs.size:=(x a o e).lt
theorem HOk.fresh (x:HOk P w H h) (e:h.objs.size<=a):H a=none:=by
 cases q:H a with
 | none=>rfl
 | some u=>exact absurd (Nat.lt_of_lt_of_le (x.lt q) e) (Nat.lt_irrefl _)
theorem HOk.kept (x:HOk P w H h) (k:∀ b u,h.get? b=some u->h'.get? b=some u):HOk P w H h':=fun a o e =>
 (x a o e).stay (fun b u _ q=>k b u q) (fun _ q=>q) fun _ _ q=>q
theorem HOk.laid (x:HOk P w H h) (k:∀ b u,h.get? b=some u->h'.get? b=some u) (hp:h.objs.size<=a) (new:ObjOk P w (upd H a o) h' a o):HOk P w (upd H a o) h':=fun b u e=>by
 have hn:=x.fresh hp;by_cases hb:b=a
 ·subst hb;rw[upd_same] at e;cases e;exact new
 ·rw[Y9 hb] at e
  exact (x b u e).stay (fun c v _ q=>k c v q) (fun c q=>by rw[Y9 (Za q hn)];exact q) fun c xs q=>by rw[Y9 (Za q hn)];exact q
end
noncomputable def Rd (H:Hp) (a:Addr) (u:HO):Prop:=H a=some u\/∃ o,H a=some (.frz o u)
theorem Rd.of {H:Hp} {a:Addr} {u:HO} (h:H a=some u):Rd H a u:=.inl h
theorem Rd.ok {P:Program} {w:World} {H:Hp} {h:Heap} {a:Addr} {u:HO} (r:Rd H a u) (x:HOk P w H h):ObjOk P w H h a u:=by
 rcases r with r|⟨o,r⟩
 ·exact x a u r
 ·obtain⟨_,q⟩:=x a _ r
  exact q
noncomputable def Mut:Option HO->Prop
 | some (.lst _)=>True
 | some (.dK _)=>True
 | some (.dT _)=>True
 | some (.set _ _)=>True
 | some (.ins _ _ _)=>True
 | some (.ext _)=>True
 | _=>False
section
variable {P:Program} {w:World} {H:Hp} {h h':Heap} {x e:Addr} {o':HO}
theorem HOk.write (ok:HOk P w H h) (mu:Mut (H x)) (he:e=x\/H e=some (.own x)) (k:∀ b u,b≠e->h.get? b=some u->h'.get? b=some u) (heo:∃ u,h'.get? e=some u)
  (new:ObjOk P w (upd H x o') h' x o'):HOk P w (upd H x o') h':=fun b u q=>by
 have nown:∀ c y,H c=some (.own y)->c≠x:=fun c y r z=>by subst z;rw[r] at mu;exact mu
 have ntup:∀ c xs,H c=some (.tup xs)->c≠x:=fun c xs r z=>by subst z;rw[r] at mu;exact mu
 by_cases hb:b=x
 ·subst hb;rw[upd_same] at q;cases q;exact new
 ·rw[Y9 hb] at q
  by_cases hbe:b=e
  ·have q':H b=some (.own x):=by
    rcases he with z|z
    ·exact absurd (hbe.trans z) hb
    ·rw[hbe];exact z
   rw[q] at q';cases q';obtain⟨v,hv⟩:=heo;exact⟨v,by rw[hbe];exact hv⟩
  ·refine (ok b u q).stay (fun c v hc r=>k c v ?_ r) (fun c r=>by rw[Y9 (nown c b r)];exact r) fun c xs r=>by rw[Y9 (ntup c xs r)];exact r
   rcases hc with rfl|hc
   ·exact hbe
   ·rintro rfl
    rcases he with z|z
    ·exact nown c b hc z
    ·rw[hc] at z;cases z;exact hb rfl
end
structure Un (fs ex:List Addr) (H H':Hp) (h h':Heap):Prop where
 keep:∀ b o,h.get? b=some o->H b=none->b ∉ fs->b ∉ ex->h'.get? b=some o
 slot:∀ b o,h.get? b=some o->H b=none->b∈fs->b ∉ ex->∃ sl,h'.get? b=some {o with slots:=sl}
 free:∀ b o,h.get? b=some o->H b=none->b ∉ ex->H' b=none
 there:∀ b o,h.get? b=some o->b ∉ ex->∃ o',h'.get? b=some o'
 tups:∀ b xs,H b=some (.tup xs)->H' b=some (.tup xs)
 frzs:∀ b o u,H b=some (.frz o u)->H' b=some (.frz o u)
 tbls:∀ b ps,H b=some (.tbl ps)->∃ more,H' b=some (.tbl (ps++more))
section
variable {fs fs' ex ex':List Addr} {H H1 H2:Hp} {h h1 h2 h':Heap} {a x e:Addr} {o:HO}
theorem Un.any (u:Un fs ex H H1 h h1) {b:Addr} {ob:Obj} (q:h.get? b=some ob) (n:H b=none) (hx:b ∉ ex):∃ sl,h1.get? b=some {ob with slots:=sl}:=by
 by_cases hb:b∈fs
 ·exact u.slot b ob q n hb hx
 ·exact⟨ob.slots,u.keep b ob q n hb hx⟩
theorem Un.trans (a:Un fs ex H H1 h h1) (b:Un fs ex H1 H2 h1 h2):Un fs ex H H2 h h2 where
 keep:=fun c ob q n hc hx=>b.keep c ob (a.keep c ob q n hc hx) (a.free c ob q n hx) hc hx
 slot:=fun c ob q n hc hx=>by
  obtain⟨sl,e1⟩:=a.slot c ob q n hc hx;obtain⟨sl',e2⟩:=b.slot c _ e1 (a.free c ob q n hx) hc hx;exact⟨sl',e2⟩
 free:=fun c ob q n hx=>by
  obtain⟨o',e1⟩:=a.there c ob q hx;exact b.free c o' e1 (a.free c ob q n hx) hx
 there:=fun c ob q hx=>by
  obtain⟨o',e1⟩:=a.there c ob q hx;exact b.there c o' e1 hx
 tups:=fun c xs q=>b.tups c xs (a.tups c xs q)
 frzs:=fun c ob xs q=>b.frzs c ob xs (a.frzs c ob xs q)
 tbls:=fun c ps q=>by
  obtain⟨m1,e1⟩:=a.tbls c ps q;obtain⟨m2,e2⟩:=b.tbls c _ e1;exact⟨m1++m2,by rw[e2,Array.append_assoc]⟩
theorem Un.kept (k:∀ b u,h.get? b=some u->h'.get? b=some u):Un fs ex H H h h' :=
 ⟨fun b ob q _ _ _=>k b ob q,fun b ob q _ _ _=>⟨ob.slots,k b ob q⟩,fun _ _ _ n _=>n,fun b ob q _=>⟨ob,k b ob q⟩,fun _ _ q=>q,fun _ _ _ q=>q,fun _ ps q=>⟨#[],by rw[q];simp⟩⟩
theorem Un.refl:Un fs ex H H h h:=Un.kept fun _ _ q=>q
theorem Un.laid (k:∀ b u,h.get? b=some u->h'.get? b=some u) (hp:h.objs.size<=a) (hn:H a=none):Un fs ex H (upd H a o) h h' where
 keep:=fun b u q _ _ _=>k b u q
 slot:=fun b u q _ _ _=>⟨u.slots,k b u q⟩
 free:=fun b u q n _=>by rw[Y9 (Nat.ne_of_lt (Nat.lt_of_lt_of_le (Heap.lt_size q) hp))];exact n
 there:=fun b u q _=>⟨u,k b u q⟩
 tups:=fun b xs q=>by rw[Y9 (Za q hn)];exact q
 frzs:=fun b u xs q=>by rw[Y9 (Za q hn)];exact q
 tbls:=fun b ps q=>⟨#[],by rw[Y9 (Za q hn),q];simp⟩
theorem Un.write (mu:Mut (H x)) (he:e=x\/H e=some (.own x)) (k:∀ b u,b≠e->h.get? b=some u->h'.get? b=some u) (heo:∃ u,h'.get? e=some u):Un fs ex H (upd H x o) h h':=by
 have hx:∀ b,H b=none->b≠x:=fun b n z=>by subst z;rw[n] at mu;exact mu
 have hb:∀ b,H b=none->b≠e:=fun b n z=>by
  subst z;rcases he with r|r
  ·exact hx b n r
  ·rw[n] at r;cases r
 have hm:∀ b u,H b=some u->¬ Mut (some u)->b≠x:=fun b u q nm z=>by subst z;rw[q] at mu;exact nm mu
 refine⟨fun b u q n _ _=>k b u (hb b n) q,fun b u q n _ _=>⟨u.slots,k b u (hb b n) q⟩,fun b u q n _=>by rw[Y9 (hx b n)];exact n,fun b u q _=>?_,
  fun b xs q=>by rw[Y9 (hm b _ q fun z=>z)];exact q,fun b u xs q=>by rw[Y9 (hm b _ q fun z=>z)];exact q,fun b ps q=>⟨#[],by rw[Y9 (hm b _ q fun z=>z),q];simp⟩⟩
 by_cases hbe:b=e
 ·subst hbe;exact heo
 ·exact⟨u,k b u hbe q⟩
theorem Un.mono (u:Un fs ex H H1 h h1) (hs:∀ b∈fs,b∈fs') (hx:∀ b∈ex,b∈ex'):Un fs' ex' H H1 h h1 :=
 ⟨fun b ob q n hb he=>u.keep b ob q n (fun z=>hb (hs b z)) fun z=>he (hx b z),fun _ _ q n _ he=>u.any q n fun z=>he (hx _ z),fun b ob q n he=>u.free b ob q n fun z=>he (hx b z),fun b ob q he=>u.there b ob q fun z=>he (hx b z),u.tups,u.frzs,u.tbls⟩
end
noncomputable def trk (h:Heap) (H:Hp):List Addr:=(List.range h.objs.size).filter fun a=>(H a).isSome
noncomputable def hidT (h:Heap) (H:Hp):Heap:=hideAll h (trk h H)
theorem JP (h:Heap) (H:Hp):(hidT h H).objs.size=h.objs.size:=PySem.W.hideAll_size _ _
theorem AU {h:Heap} {H:Hp} {b:Addr} {o:Obj} (e:h.get? b=some o) (n:H b=none):(hidT h H).get? b=some o :=
 PySem.W.hideAll_get _ e fun hm=>by
  have q:(H b).isSome=true:=(List.mem_filter.mp hm).2;rw[n] at q;simp at q
theorem BY {h:Heap} {H:Hp} {b:Addr} {o:Obj} (e:(hidT h H).get? b=some o):h.get? b=some o/\H b=none:=by
 have e':h.get? b=some o:=PySem.W.of_hideAll (trk h H) e;refine⟨e',?_⟩;cases q:H b with
 | none=>rfl
 | some x =>
  have hm:b∈trk h H:=List.mem_filter.mpr ⟨List.mem_range.mpr (Heap.lt_size e'),by simp[q]⟩;have z:(hidT h H).get? b=none:=PySem.W.hideAll_none (trk h H) hm;rw[z] at e;cases e
noncomputable def CA (g h:Heap) (L:Addr):List (Addr×Obj):=(List.range h.objs.size).filterMap fun a=>if a=L\/(g.get? a).isSome=true then none else (h.get? a).map fun o=>(a,o)
noncomputable def rest (g h:Heap) (L d:Addr):List (Addr×Obj):=(CA g h L).filter fun p=>decide (p.1≠d)
end L2
namespace L2
open PySem PySem.Spec PyProof.Rows
structure Mod (K:Frag) (mg:Str->Option Value) (base:Heap):Prop where
 kin:K.In base
 glob:base.Ns mainGlobals mg
 blt:∃ mb,base.Ns builtinsNs mb/\∀ x:Str,x≠"__name__"->mb x=bootBuiltins x
 nolimit:base.NoLimit
structure Cx where
 prog:Program
 w:World
 K:Frag
 mg:Str->Option Value
 base:Heap
 A:Around
 N:List Str
 s₀:Shared
 H₀:Hp
 env:Env
 outer:List Env
 stack:List Env
 ex:List Addr
 fn:Str->Bool
 calm:Bool
 pn:List (Addr×Obj)
 xe:Value->Shared->Prop
noncomputable def frs (l:List Env):List Addr:=l.filterMap (·.frame)
abbrev Cx.fs (X:Cx):List Addr:=frs X.outer
noncomputable def Vis (sc:Scope) (x:Str):Prop:=sc.names.lookup x=some .local\/sc.names.lookup x=some .cell\/sc.names.lookup x=some .free
noncomputable def Loc (sc:Scope) (x:Str):Prop:=sc.names.lookup x=some .local\/sc.names.lookup x=some .cell
noncomputable def Look (env:Env) (h:Heap) (m:Str->Option Value) (x:Str) (u:Value):Prop :=
 (env.kindOf x=some .local/\m x=some u)\/((env.kindOf x=some .cell\/env.kindOf x=some .free)/\∃ c,env.cells.lookup x=some c/\h.IsCell c (some u))
structure Cx.Ok (X:Cx):Prop where
 mod:Mod X.K X.mg X.base
 kind:X.env.scope.kind=.function
 glob:X.env.globals=mainGlobals
 blt:X.env.builtins=builtinsNs
 above:X.s₀.heap.objs.size<=X.env.locals
 inj:∀ x y c,X.env.cells.lookup x=some c->X.env.cells.lookup y=some c->x=y
 has:∀ x,(X.env.kindOf x=some .cell\/X.env.kindOf x=some .free)->∃ c,X.env.cells.lookup x=some c
 cab:∀ x c,X.fn x=true->X.env.cells.lookup x=some c->X.s₀.heap.objs.size<=c
 hd:X.calm=true->X.A.handled=none
 frames:X.A.frames=some X.stack
 stk:X.stack=X.outer\/(X.stack=X.env::X.outer/\X.env.frame=some X.env.locals)
 exf:∀ b∈X.ex,b≠X.env.locals/\∀ x c,X.env.cells.lookup x=some c->c≠b
 bs:∀ b o,X.base.get? b=some o->X.s₀.heap.get? b=some o/\X.H₀ b=none
 bsz:X.base.objs.size<=X.s₀.heap.objs.size
 noex:∀ b o,X.base.get? b=some o->b ∉ X.ex
 exfs:∀ b∈X.ex,b ∉ X.fs
 funs:X.s₀.heap.FunFrames X.base X.outer
 frf:∀ b∈X.fs,X.H₀ b=none
structure Inv (X:Cx) (pins:List (Addr×Obj)) (σ:List (Option V)) (H:Hp) (s:Shared):Prop where
 ok:X.Ok
 os:s.os=X.s₀.os
 bare:AllBare s.gens
 base:Un X.fs X.ex X.H₀ H X.s₀.heap s.heap
 loc:∃ m,s.heap.Ns X.env.locals m/\∀ (i:Nat) (x:Str) (v:V),X.N[i]?=some x->σ[i]?=some (some v)->Vis X.env.scope x->∃ u,RelV v u/\Look X.env s.heap m x u
 cell:∀ x c,X.env.cells.lookup x=some c->∃ v,s.heap.IsCell c v
 free:H X.env.locals=none
 freeC:∀ x c,X.env.cells.lookup x=some c->H c=none
 pin:∀ p∈X.pn++pins,s.heap.get? p.1=some p.2/\H p.1=none/\p.1≠X.env.locals/\p.1 ∉ X.fs/\∀ v,p.2.data≠.cell v
 hok:HOk X.prog X.w H s.heap
 len:σ.length=X.N.length
section
variable {X:Cx} {pins:List (Addr×Obj)} {σ:List (Option V)} {H H':Hp} {s:Shared} {h':Heap}
theorem Cx.Ok.nofr (ok:X.Ok) {b:Addr} {o:Obj} (e:X.base.get? b=some o):b ∉ X.fs:=fun hb=>by
 have:=(ok.funs.mem hb).1;rw[e] at this;cases this
theorem Inv.bs (I:Inv X pins σ H s):∀ b o,X.base.get? b=some o->s.heap.get? b=some o/\H b=none:=fun b o e =>
 ⟨I.base.keep b o (I.ok.bs b o e).1 (I.ok.bs b o e).2 (I.ok.nofr e) (I.ok.noex b o e),I.base.free b o (I.ok.bs b o e).1 (I.ok.bs b o e).2 (I.ok.noex b o e)⟩
theorem Inv.bk (I:Inv X pins σ H s):∀ b o,X.base.get? b=some o->s.heap.get? b=some o:=fun b o e=>(I.bs b o e).1
theorem Inv.mod (I:Inv X pins σ H s):Mod X.K X.mg X.base:=I.ok.mod
theorem Inv.kIn (I:Inv X pins σ H s):X.K.In s.heap:=I.ok.mod.kin.keeps I.bk
theorem Inv.lt (I:Inv X pins σ H s):X.env.locals<s.heap.objs.size:=let ⟨_,hn,_⟩:=I.loc;hn.lt
theorem Inv.sz (I:Inv X pins σ H s):X.s₀.heap.objs.size<=s.heap.objs.size:=Nat.le_trans I.ok.above (Nat.le_of_lt I.lt)
theorem Inv.nofs (I:Inv X pins σ H s) {a:Addr} (h:s.heap.objs.size<=a):a ∉ X.fs:=fun hb=>by
 obtain⟨_,o,ho,_⟩:=I.ok.funs.mem hb;exact absurd (Nat.lt_of_lt_of_le (Heap.lt_size ho) (Nat.le_trans I.sz h)) (Nat.lt_irrefl _)
theorem Inv.cne (I:Inv X pins σ H s):∀ x c,X.env.cells.lookup x=some c->c≠X.env.locals:=fun x c e z=>by
 obtain⟨v,o,ho,hd⟩:=I.cell x c e;obtain⟨m,⟨o',es,ep,ho',hd',_⟩,_⟩:=I.loc;rw[z,ho'] at ho;cases ho;rw[hd'] at hd;cases hd
theorem Inv.funs (I:Inv X pins σ H s):s.heap.FunFrames X.base X.outer:=by
 have all:∀ (l:List Env),(∀ b∈frs l,b∈X.fs)->X.s₀.heap.FunFrames X.base l->s.heap.FunFrames X.base l:=by
  intro l
  induction l with
  | nil=>intro _ _;trivial
  | cons env r ih =>
   intro hs hl;obtain⟨hk,⟨L,o,hf,hn,ho,hd⟩,hr⟩:=hl;have hL:L∈X.fs:=hs L (by unfold frs;rw[List.filterMap_cons,hf];exact List.mem_cons_self);obtain⟨sl,e⟩:=I.base.slot L o ho (I.ok.frf L hL) hL fun z=>I.ok.exfs L z hL;exact⟨hk,⟨L,_,hf,hn,e,hd⟩,ih (fun b hb=>hs b (by unfold frs;rw[List.filterMap_cons,hf];exact List.mem_cons_of_mem _ hb)) hr⟩
 exact all X.outer (fun _ hb=>hb) I.ok.funs
theorem Inv.stack (I:Inv X pins σ H s):s.heap.FunFrames X.base X.stack:=by
 rcases I.ok.stk with e|⟨e,hf⟩
 ·rw[e];exact I.funs
 ·rw[e]
  obtain⟨m,hn,_⟩:=I.loc;refine .cons (by rw[I.ok.kind];decide) hf hn ?_ I.funs;exact Heap.get?_none_of_le (Nat.le_trans I.ok.bsz I.ok.above)
theorem Inv.stkSub (I:Inv X pins σ H s):∀ b∈frs X.stack,b∈X.env.locals::X.fs:=fun b hb=>by
 rcases I.ok.stk with e|⟨e,hf⟩
 ·rw[e] at hb;exact List.mem_cons_of_mem _ hb
 ·rw[e] at hb
  unfold frs at hb;rw[List.filterMap_cons,hf] at hb;exact hb
theorem Inv.stkFree (I:Inv X pins σ H s):∀ b∈frs X.stack,H b=none:=fun b hb=>by
 rcases List.mem_cons.mp (I.stkSub b hb) with e|hb
 ·rw[e];exact I.free
 ·obtain⟨_,o,ho,_⟩:=I.ok.funs.mem hb
  exact I.base.free b o ho (I.ok.frf b hb) fun z=>I.ok.exfs b z hb
theorem Inv.step {g':Array GenState} {t':Nat} {d':Drawn} {ch:List Addr} (I:Inv X pins σ H s)
  (hch:∀ b∈ch,(b∈X.ex\/X.s₀.heap.objs.size<=b)/\b≠X.env.locals/\(∀ x c,X.env.cells.lookup x=some c->c≠b)/\∀ p∈X.pn++pins,p.1≠b)
  (keep:∀ b o,b≠X.env.locals->b ∉ X.fs->b ∉ ch->s.heap.get? b=some o->H b=none->h'.get? b=some o)
  (slot:∀ b o,b≠X.env.locals->b∈X.fs->b ∉ ch->s.heap.get? b=some o->H b=none->∃ sl,h'.get? b=some {o with slots:=sl}) (free:∀ b o,b ∉ ch->s.heap.get? b=some o->H b=none->H' b=none)
  (there:∀ b o,b ∉ ch->s.heap.get? b=some o->∃ o',h'.get? b=some o')
  (tups:∀ b xs,H b=some (.tup xs)->H' b=some (.tup xs)) (frzs:∀ b o u,H b=some (.frz o u)->H' b=some (.frz o u)) (tbls:∀ b ps,H b=some (.tbl ps)->∃ more,H' b=some (.tbl (ps++more)))
  (ns:∀ m,s.heap.Ns X.env.locals m->h'.Ns X.env.locals m) (hok:HOk X.prog X.w H' h') (hg:AllBare g') :
  Inv X pins σ H' {s with heap:=h',gens:=g',drawn:=d',toks:=t'}:=by
 have neL:∀ b o,X.s₀.heap.get? b=some o->b≠X.env.locals:=fun b o e=>Nat.ne_of_lt (Nat.lt_of_lt_of_le (Heap.lt_size e) I.ok.above);have neC:∀ b o,X.s₀.heap.get? b=some o->b ∉ X.ex->b ∉ ch:=fun b o e hx hb=>by
  rcases (hch b hb).1 with z|z
  ·exact hx z
  ·exact absurd (Nat.lt_of_lt_of_le (Heap.lt_size e) z) (Nat.lt_irrefl _)
 have cellK:∀ x c,X.env.cells.lookup x=some c->∀ v,s.heap.IsCell c v->h'.IsCell c v:=fun x c e v ⟨o,ho,hd⟩=>by
  have nch:c ∉ ch:=fun z=>(hch c z).2.2.1 x c e rfl;by_cases hc:c∈X.fs
  ·obtain⟨sl,q⟩:=slot c o (I.cne x c e) hc nch ho (I.freeC x c e)
   exact⟨_,q,hd⟩
  ·exact⟨o,keep c o (I.cne x c e) hc nch ho (I.freeC x c e),hd⟩
 refine⟨I.ok,I.os,hg,⟨fun b o e n hb hx=>?_,fun b o e n hb hx=>?_,fun b o e n hx=>?_,fun b o e hx=>?_,fun b xs e=>tups b xs (I.base.tups b xs e),fun b o xs e=>frzs b o xs (I.base.frzs b o xs e),fun b ps e=>?_⟩,?_,fun x c e=>?_,?_,fun x c e=>?_,fun p hp=>?_,hok,I.len⟩
 ·exact keep b o (neL b o e) hb (neC b o e hx) (I.base.keep b o e n hb hx) (I.base.free b o e n hx)
 ·obtain⟨sl,e1⟩:=I.base.slot b o e n hb hx
  obtain⟨sl',e2⟩:=slot b _ (neL b o e) hb (neC b o e hx) e1 (I.base.free b o e n hx);exact⟨sl',e2⟩
 ·obtain⟨o',e1⟩:=I.base.there b o e hx
  exact free b o' (neC b o e hx) e1 (I.base.free b o e n hx)
 ·obtain⟨o',e1⟩:=I.base.there b o e hx
  exact there b o' (neC b o e hx) e1
 ·obtain⟨m1,e1⟩:=I.base.tbls b ps e
  obtain⟨m2,e2⟩:=tbls b _ e1;exact⟨m1++m2,by rw[e2,Array.append_assoc]⟩
 ·obtain⟨m,hn,hl⟩:=I.loc
  refine⟨m,ns m hn,fun i x v e1 e2 e3=>?_⟩;obtain⟨u,r,l⟩:=hl i x v e1 e2 e3;refine⟨u,r,?_⟩;rcases l with l|⟨k,c,e,z⟩
  ·exact .inl l
  ·exact .inr ⟨k,c,e,cellK x c e _ z⟩
 ·obtain⟨v,z⟩:=I.cell x c e
  exact⟨v,cellK x c e v z⟩
 ·obtain⟨m,⟨o,_,_,ho,_⟩,_⟩:=I.loc
  exact free _ o (fun z=>(hch _ z).2.1 rfl) ho I.free
 ·obtain⟨v,o,ho,hd⟩:=I.cell x c e
  exact free c o (fun z=>(hch c z).2.2.1 x c e rfl) ho (I.freeC x c e)
 ·obtain⟨e,n,ne,nf,d⟩:=I.pin p hp
  have nch:p.1 ∉ ch:=fun z=>(hch p.1 z).2.2.2 p hp rfl;exact⟨keep p.1 p.2 ne nf nch e n,free p.1 p.2 nch e n,ne,nf,d⟩
theorem Inv.un {t':Nat} (I:Inv X pins σ H s) (u:Un X.fs [] H H' s.heap h') (hok:HOk X.prog X.w H' h'):Inv X pins σ H' {s with heap:=h',toks:=t'}:=by
 obtain⟨m,⟨o,es,ep,ho,r⟩,_⟩:=id I.loc;obtain⟨sl,hL⟩:=u.any ho I.free (by simp);exact I.step (g':=s.gens) (d':=s.drawn) (ch:=[]) (fun _ z=>nomatch z) (fun b o _ hb _ e n=>u.keep b o e n hb (by simp)) (fun b o _ hb _ e n=>u.slot b o e n hb (by simp)) (fun b o _ e n=>u.free b o e n (by simp)) (fun b o _ e=>u.there b o e (by simp)) u.tups u.frzs u.tbls (fun m' hm=>by
  obtain⟨o',es',ep',ho',r'⟩:=hm;rw[ho] at ho';cases ho';exact⟨_,es',ep',hL,r'⟩) hok I.bare
theorem Inv.call {g':Array GenState} {t':Nat} {d':Drawn} {ch:List Addr} (I:Inv X pins σ H s) (u:Un (frs X.stack) ch H H' s.heap h') (hok:HOk X.prog X.w H' h') (hg:AllBare g')
  (hch:∀ b∈ch,(b∈X.ex\/X.s₀.heap.objs.size<=b)/\b≠X.env.locals/\(∀ x c,X.env.cells.lookup x=some c->c≠b)/\∀ p∈X.pn++pins,p.1≠b) :
  Inv X pins σ H' {s with heap:=h',gens:=g',drawn:=d',toks:=t'}:=by
 obtain⟨m,⟨o,es,ep,ho,r⟩,_⟩:=id I.loc;obtain⟨sl,hL⟩:=u.any ho I.free fun z=>(hch _ z).2.1 rfl;exact I.step (ch:=ch) hch (fun b o hL hb hc e n=>u.keep b o e n (fun z=>(List.mem_cons.mp (I.stkSub b z)).elim hL hb) hc) (fun b o _ _ hc e n=>u.any e n hc) (fun b o hc e n=>u.free b o e n hc) (fun b o hc e=>u.there b o e hc) u.tups u.frzs u.tbls (fun m' hm=>by
  obtain⟨o',es',ep',ho',r'⟩:=hm;rw[ho] at ho';cases ho';exact⟨_,es',ep',hL,r'⟩) hok hg
theorem Inv.turned {t':Nat} {it:Addr} (I:Inv X pins σ H s) (k:∀ b o,b≠it->s.heap.get? b=some o->h'.get? b=some o) (hn:H it=none) (hL:it≠X.env.locals)
  (h1:it∈X.ex\/X.s₀.heap.objs.size<=it) (h2:∀ x c,X.env.cells.lookup x=some c->c≠it) (h3:∀ p∈X.pn++pins,p.1≠it):Inv X pins σ H {s with heap:=h',toks:=t'}:=by
 have nit:∀ b u,H b=some u->b≠it:=fun b u e z=>by rw[z,hn] at e;cases e
 refine I.step (g':=s.gens) (d':=s.drawn) (ch:=[it]) (fun b hb=>?_) (fun b o _ _ hc e _=>k b o (fun z=>hc (by simp[z])) e) (fun b o _ _ hc e _=>⟨o.slots,k b o (fun z=>hc (by simp[z])) e⟩) (fun _ _ _ _ n=>n)
  (fun b o hc e=>⟨o,k b o (fun z=>hc (by simp[z])) e⟩) (fun _ _ e=>e) (fun _ _ _ e=>e) (fun b ps e=>⟨#[],by rw[e];simp⟩) (fun m hm=>?_) (fun b u e=>?_) I.bare
 ·have e:b=it:=by simpa using hb
  subst e;exact⟨h1,hL,h2,h3⟩
 ·obtain⟨o,es,ep,ho,r⟩:=hm
  exact⟨o,es,ep,k _ o (Ne.symm hL) ho,r⟩
 ·refine (I.hok b u e).stay (fun c v hc q=>k c v ?_ q) (fun _ q=>q) fun _ _ q=>q
  rcases hc with z|z
  ·rw[z];exact nit b u e
  ·exact nit c _ z
theorem Inv.tok (I:Inv X pins σ H s) (t:Nat):Inv X pins σ H {s with toks:=t}:=I.un (h':=s.heap) (t':=t) Un.refl I.hok
theorem Inv.kept {t':Nat} (I:Inv X pins σ H s) (k:∀ b u,s.heap.get? b=some u->h'.get? b=some u):Inv X pins σ H {s with heap:=h',toks:=t'}:=I.un (Un.kept k) (I.hok.kept k)
theorem Inv.laid {a:Addr} {o:HO} {t':Nat} (I:Inv X pins σ H s) (k:∀ b u,s.heap.get? b=some u->h'.get? b=some u) (hp:s.heap.objs.size<=a) (new:ObjOk X.prog X.w (upd H a o) h' a o) :
  Inv X pins σ (upd H a o) {s with heap:=h',toks:=t'}:=I.un (Un.laid k hp (I.hok.fresh hp)) (I.hok.laid k hp new)
theorem Inv.write {x e:Addr} {o:HO} {t':Nat} (I:Inv X pins σ H s) (mu:Mut (H x)) (he:e=x\/H e=some (.own x)) (k:∀ b u,b≠e->s.heap.get? b=some u->h'.get? b=some u) (heo:∃ u,h'.get? e=some u)
  (new:ObjOk X.prog X.w (upd H x o) h' x o):Inv X pins σ (upd H x o) {s with heap:=h',toks:=t'}:=I.un (Un.write mu he k heo) (I.hok.write mu he k heo new)
theorem Inv.pins_of {pins':List (Addr×Obj)} (I:Inv X pins σ H s) (h:∀ p∈pins',s.heap.get? p.1=some p.2/\H p.1=none/\p.1≠X.env.locals/\p.1 ∉ X.fs/\∀ v,p.2.data≠.cell v):Inv X pins' σ H s :=
 ⟨I.ok,I.os,I.bare,I.base,I.loc,I.cell,I.free,I.freeC,fun p hp=>(List.mem_append.mp hp).elim (fun z=>I.pin p (List.mem_append_left _ z)) (h p),I.hok,I.len⟩
theorem Xa {N:List Str} (hN:N.Nodup) {i j:Nat} {x:Str} (a:N[i]?=some x) (b:N[j]?=some x):i=j:=by
 obtain⟨h1,e1⟩:=List.getElem?_eq_some_iff.mp a;obtain⟨h2,e2⟩:=List.getElem?_eq_some_iff.mp b;exact (List.getElem_inj hN).mp (e1.trans e2.symm)
theorem Ju {M:Model} {A:Around} {E:Value->Shared->Prop} {i:Nat} {x:Str} {v:V} {u:Value} {Q:Unit->Shared->Prop} (I:Inv X pins σ H s) (hN:X.N.Nodup) (hi:X.N[i]?=some x) (hx:Loc X.env.scope x) (r:RelV v u)
  (h:∀ s',Inv X pins (σ.set i (some v)) H s'->(∃ a,Heap.SameBut a s.heap s'.heap/\(a=X.env.locals\/X.env.cells.lookup x=some a))->Q () s') (hf:X.fn x=true\/X.env.scope.names.lookup x=some .local:=by first|exact .inl rfl|exact .inr rfl|assumption):wpAny M A (storeName X.env x u) Q E s:=by
 obtain⟨m,hn,hl⟩:=id I.loc;have hcls:(X.env.scope.kind==.class || (X.env.scope.kind==.module&&X.env.locals != X.env.globals))=false:=by rw[I.ok.kind];rfl
 have hiσ:i < σ.length:=by rw[I.len];exact (List.getElem?_eq_some_iff.mp hi).1
 have cne:=I.cne;have tracked:∀ {a:Addr} {h':Heap},(∃ o,s.heap.get? a=some o/\H a=none)->Heap.SameBut a s.heap h'->HOk X.prog X.w H h':=fun {a h'} ha hs b ob e=>by
  obtain⟨_,_,hfree⟩:=ha;refine (I.hok b ob e).stay (fun c w' hc q=>(hs.2 c ?_).trans q) (fun _ q=>q) fun _ _ q=>q;rintro rfl;rcases hc with rfl|hc
  ·rw[hfree] at e;cases e
  ·rw[hfree] at hc;cases hc
 rcases hx with hk|hk
 ·refine wpAny_storeName_local hk hn (fun h' hn' hs=>?_) hcls
  obtain⟨oL,_,_,hoL,_⟩:=id hn;refine h _ ⟨I.ok,I.os,I.bare,⟨fun b o e n hb hx=>?_,fun b o e n hb hx=>?_,I.base.free,fun b o e hx=>?_,I.base.tups,I.base.frzs,I.base.tbls⟩,⟨_,hn',fun j y v' e1 e2 e3=>?_⟩,fun y c e=>?_,I.free,I.freeC,fun p hp=>?_,tracked ⟨oL,hoL,I.free⟩ hs,by simpa using I.len⟩ ⟨_,hs,.inl rfl⟩
  ·exact (hs.2 b (Nat.ne_of_lt (Nat.lt_of_lt_of_le (Heap.lt_size e) I.ok.above))).trans (I.base.keep b o e n hb hx)
  ·obtain⟨sl,e1⟩:=I.base.slot b o e n hb hx
   exact⟨sl,(hs.2 b (Nat.ne_of_lt (Nat.lt_of_lt_of_le (Heap.lt_size e) I.ok.above))).trans e1⟩
  ·obtain⟨o',e1⟩:=I.base.there b o e hx
   exact⟨o',(hs.2 b (Nat.ne_of_lt (Nat.lt_of_lt_of_le (Heap.lt_size e) I.ok.above))).trans e1⟩
  ·by_cases hj:j=i
   ·subst hj
    rw[hi] at e1;cases e1;rw[List.getElem?_set_self hiσ] at e2;cases e2;exact⟨u,r,.inl ⟨hk,by simp⟩⟩
   ·rw[List.getElem?_set_ne (Ne.symm hj)] at e2
    obtain⟨u',r',q⟩:=hl j y v' e1 e2 e3;refine⟨u',r',?_⟩;rcases q with ⟨k,e⟩|⟨k,c,e,z⟩
    ·refine .inl ⟨k,?_⟩
     have:y≠x:=fun e=>hj (Xa hN e1 (e ▸ hi));simp[this,e]
    ·exact .inr ⟨k,c,e,z.sameBut hs (cne y c e)⟩
  ·obtain⟨w',z⟩:=I.cell y c e
   exact⟨w',z.sameBut hs (cne y c e)⟩
  ·obtain⟨e,n,ne,nf,d⟩:=I.pin p hp
   exact⟨(hs.2 p.1 ne).trans e,n,ne,nf,d⟩
 ·have hfn:X.fn x=true:=by
   rcases hf with z|z
   ·exact z
   ·rw[z] at hk;cases hk
  obtain⟨c,hc⟩:=I.ok.has x (.inl hk);obtain⟨w',z⟩:=I.cell x c hc;refine wpAny_storeName_cell I.ok.kind hk hc z (fun h' hc' hs=>?_);obtain⟨oc,hoc,hocd⟩:=id z;refine h {s with heap:=h'} ⟨I.ok,I.os,I.bare,⟨fun b o e n hb hx=>?_,fun b o e n hb hx=>?_,I.base.free,fun b o e hx=>?_,I.base.tups,I.base.frzs,I.base.tbls⟩,⟨m,hn.sameBut hs (Ne.symm (cne x c hc)),fun j y v' e1 e2 e3=>?_⟩,fun y c' e=>?_,I.free,I.freeC,fun p hp=>?_,tracked ⟨oc,hoc,I.freeC x c hc⟩ hs,by simpa using I.len⟩ ⟨c,hs,.inr hc⟩
  ·exact (hs.2 b (Nat.ne_of_lt (Nat.lt_of_lt_of_le (Heap.lt_size e) (I.ok.cab x c hfn hc)))).trans (I.base.keep b o e n hb hx)
  ·obtain⟨sl,e1⟩:=I.base.slot b o e n hb hx
   exact⟨sl,(hs.2 b (Nat.ne_of_lt (Nat.lt_of_lt_of_le (Heap.lt_size e) (I.ok.cab x c hfn hc)))).trans e1⟩
  ·obtain⟨o',e1⟩:=I.base.there b o e hx
   exact⟨o',(hs.2 b (Nat.ne_of_lt (Nat.lt_of_lt_of_le (Heap.lt_size e) (I.ok.cab x c hfn hc)))).trans e1⟩
  ·by_cases hj:j=i
   ·subst hj
    rw[hi] at e1;cases e1;rw[List.getElem?_set_self hiσ] at e2;cases e2;exact⟨u,r,.inr ⟨.inl hk,c,hc,hc'⟩⟩
   ·rw[List.getElem?_set_ne (Ne.symm hj)] at e2
    obtain⟨u',r',q⟩:=hl j y v' e1 e2 e3;refine⟨u',r',?_⟩;rcases q with q|⟨k,c',e,z'⟩
    ·exact .inl q
    ·refine .inr ⟨k,c',e,z'.sameBut hs ?_⟩
     rintro rfl;exact hj (Xa hN e1 (I.ok.inj _ _ _ e hc ▸ hi))
  ·by_cases hcc:c'=c
   ·subst hcc;exact⟨_,hc'⟩
   ·obtain⟨w2,z2⟩:=I.cell y c' e
    exact⟨w2,z2.sameBut hs hcc⟩
  ·obtain⟨e,n,ne,nf,d⟩:=I.pin p hp
   refine⟨(hs.2 p.1 ?_).trans e,n,ne,nf,d⟩;intro q;rw[q,hoc] at e;have q':oc=p.2:=Option.some.inj e;exact d w' (by rw[<- q'];exact hocd)
theorem Z9 {M:Model} {A:Around} {E:Value->Shared->Prop} {i:Nat} {x:Str} {v:V} {u:Value} {Q:Unit->Shared->Prop} (I:Inv X pins σ H s) (hN:X.N.Nodup) (hi:X.N[i]?=some x) (hx:Loc X.env.scope x) (r:RelV v u)
  (h:∀ s',Inv X pins (σ.set i (some v)) H s'->Q () s') (hf:X.fn x=true\/X.env.scope.names.lookup x=some .local:=by first|exact .inl rfl|exact .inr rfl|assumption):wpAny M A (storeName X.env x u) Q E s :=
 Ju I hN hi hx r (fun s' I' _=>h s' I') hf
theorem Inv.call' {s':Shared} {ch:List Addr} (I:Inv X pins σ H s) (ho:s'.os=s.os) (u:Un (frs X.stack) ch H H' s.heap s'.heap) (hok:HOk X.prog X.w H' s'.heap) (hg:AllBare s'.gens)
  (hch:∀ b∈ch,(b∈X.ex\/X.s₀.heap.objs.size<=b)/\b≠X.env.locals/\(∀ x c,X.env.cells.lookup x=some c->c≠b)/\∀ p∈X.pn++pins,p.1≠b):Inv X pins σ H' s':=by
 obtain⟨h',g',d',t',o'⟩:=s';have e:o'=s.os:=ho;subst e;exact I.call (g':=g') (t':=t') (d':=d') u hok hg hch
end
abbrev XK:=Value->Option Addr->Hp->Prop
abbrev St:=List (Option V)
abbrev VK:=V->Hp->Prop
abbrev TE:=St->Hp->VK->Prop
abbrev TT:=St->Hp->(Bool->Hp->Prop)->Prop
abbrev TA:=St->Hp->(List V->Hp->Prop)->Prop
structure Ends where
 nx:St->Hp->Prop
 rt:VK
 bk:St->Hp->Prop:=fun _ _=>False
 ct:St->Hp->Prop:=fun _ _=>False
abbrev TS:=Ends->St->Hp->Prop
noncomputable def EP (X:Cx) (pins:List (Addr×Obj)) (σ:St) (Q:VK) (u:Value) (s':Shared):Prop:=∃ v H',Inv X pins σ H' s'/\RelV v u/\Q v H'
noncomputable def TP (X:Cx) (pins:List (Addr×Obj)) (σ:St) (Q:Bool->Hp->Prop) (b:Bool) (s':Shared):Prop:=∃ H',Inv X pins σ H' s'/\Q b H'
noncomputable def AP (X:Cx) (pins:List (Addr×Obj)) (σ:St) (Q:List V->Hp->Prop) (us:List Value) (s':Shared):Prop:=∃ vs H',Inv X pins σ H' s'/\Vals vs us/\Q vs H'
noncomputable def SP (X:Cx) (pins:List (Addr×Obj)) (D:Ends) (f:Flow) (s':Shared):Prop :=
 match f with
 | .next=>∃ σ' H',Inv X pins σ' H' s'/\D.nx σ' H'
 | .brk=>∃ σ' H',Inv X pins σ' H' s'/\D.bk σ' H'
 | .cont=>∃ σ' H',Inv X pins σ' H' s'/\D.ct σ' H'
 | .ret u=>∃ v σ' H',Inv X pins σ' H' s'/\RelV v u/\D.rt v H'
noncomputable def PE (X:Cx) (e:Expr) (t:TE):Prop :=
 ∀ (pins:List (Addr×Obj)) (s:Shared) (σ:St) (H:Hp) (Q:VK),Inv X pins σ H s->t σ H Q->wpAny (model X.prog X.w) X.A (eval e X.env) (EP X pins σ Q) X.xe s
noncomputable def PT (X:Cx) (e:Expr) (t:TT):Prop :=
 ∀ (pins:List (Addr×Obj)) (s:Shared) (σ:St) (H:Hp) (Q:Bool->Hp->Prop),Inv X pins σ H s->t σ H Q->wpAny (model X.prog X.w) X.A (isTrue e X.env (eval e X.env)) (TP X pins σ Q) X.xe s
noncomputable def PW (X:Cx) (e:Expr) (t:TT):Prop :=
 ∀ (whole:Sem Value) (pins:List (Addr×Obj)) (s:Shared) (σ:St) (H:Hp) (Q:Bool->Hp->Prop),Inv X pins σ H s->t σ H Q->wpAny (model X.prog X.w) X.A (isTrue e X.env whole) (TP X pins σ Q) X.xe s
theorem PW.pt {X:Cx} {e:Expr} {t:TT} (h:PW X e t):PT X e t:=h _
noncomputable def PA (X:Cx) (es:List Expr) (t:TA):Prop :=
 ∀ (pos:Pos) (pins:List (Addr×Obj)) (s:Shared) (σ:St) (H:Hp) (Q:List V->Hp->Prop),Inv X pins σ H s->t σ H Q->wpAny (model X.prog X.w) X.A (spliced (backTo pos (starEach es X.env))) (AP X pins σ Q) X.xe s
noncomputable def PS (X:Cx) (st:Stmt) (t:TS):Prop :=
 ∀ (pins:List (Addr×Obj)) (s:Shared) (σ:St) (H:Hp) (D:Ends),Inv X pins σ H s->t D σ H->wpAny (model X.prog X.w) X.A (exec st X.env) (SP X pins D) X.xe s
noncomputable def PSs (X:Cx) (st:List Stmt) (t:TS):Prop :=
 ∀ (pins:List (Addr×Obj)) (s:Shared) (σ:St) (H:Hp) (D:Ends),Inv X pins σ H s->t D σ H->wpAny (model X.prog X.w) X.A (execs st X.env) (SP X pins D) X.xe s
theorem thn {α:Type} {t:Sem α} {Q Q':α->Shared->Prop} {M:Model} {A:Around} {E:Value->Shared->Prop} {s:Shared} (h:wpAny M A t Q E s) (hQ:∀ a s,Q a s->Q' a s):wpAny M A t Q' E s:=wpAny_mono h hQ fun _ _ x=>x
end L2
namespace L2
open PySem PySem.Spec PyProof.Rows
section
variable {X:Cx}
theorem bin {a b:Expr} {ta tb:TE} (ha:PE X a ta) (hb:PE X b tb) {pins:List (Addr×Obj)} {s:Shared} {σ:St} {H:Hp} {R:V->V->Hp->Prop} (I:Inv X pins σ H s) (h:ta σ H fun x H1=>tb σ H1 fun y H2=>R x y H2)
  {α:Type} {Q:α->Shared->Prop} {f:Value->Value->Sem α}
  (hf:∀ v u s2 x y H2,Inv X pins σ H2 s2->RelV x v->RelV y u->R x y H2->wpAny (model X.prog X.w) X.A (f v u) Q X.xe s2) :
  wpAny (model X.prog X.w) X.A (eval a X.env) (fun v s₁=>wpAny (model X.prog X.w) X.A (eval b X.env) (fun u s₂=>wpAny (model X.prog X.w) X.A (f v u) Q X.xe s₂) X.xe s₁) X.xe s:=by
 refine thn (ha pins s σ H _ I h) fun v s1 hq2=>?_;obtain⟨x,H1,I1,r1,q1⟩:=hq2;refine thn (hb pins s1 σ H1 _ I1 q1) fun u s2 hq2=>?_;obtain⟨y,H2,I2,r2,q2⟩:=hq2;exact hf v u s2 x y H2 I2 r1 r2 q2
noncomputable def tVar (i:Nat):TE:=fun σ H Q=>∃ v,σ[i]?=some (some v)/\Q v H
noncomputable def tC (v:V):TE:=fun _ H Q=>Q v H
theorem Ux {i:Nat} {x:Str} {pos:Pos} (hN:X.N[i]?=some x) (hv:Vis X.env.scope x) (hd:(x==("__debug__":Str))=false:=by decide) (hcd:(x==("__classdict__":Str))=false:=by decide):PE X (.Name x pos) (tVar i):=by
 intro pins s σ H Q I h;obtain⟨v,e,h⟩:=h;obtain⟨m,hn,hl⟩:=I.loc;obtain⟨u,r,l⟩:=hl i x v hN e hv;have fin:EP X pins σ Q u s:=⟨v,H,I,r,h⟩;rcases l with ⟨hk,hm⟩|⟨hk,c,hc,hcell⟩
 ·exact wpAny_Name (wpAny_loadName_local I.ok.kind hk hn hm fin) hd
 ·rcases hk with hk|hk
  ·exact wpAny_Name (wpAny_loadName_cell I.ok.kind hk hc hcell fin) hd
  ·exact wpAny_Name (wpAny_loadName_free I.ok.kind hk hc hcell fin hcd) hd
theorem DP {i j pos}:PE X (.Constant (.int i) j pos) (tC (.int i)):=fun _ _ _ H _ I h=>wpAny_Constant_int ⟨.int i,H,I.tok _,⟨_,rfl⟩,h⟩
theorem Ig {b j pos}:PE X (.Constant (.bool b) j pos) (tC (.bl b)):=fun _ _ _ H _ I h=>Constant_bool ⟨.bl b,H,I,rfl,h⟩
theorem DM {j pos}:PE X (.Constant .none j pos) (tC .non):=fun _ _ _ H _ I h=>Constant_none ⟨.non,H,I,rfl,h⟩
theorem DC {x j pos}:PE X (.Constant (.str x) j pos) (tC (.str x)):=fun _ _ _ H _ I h=>Calls.Constant_str ⟨.str x,H,I.tok _,⟨_,rfl⟩,h⟩
noncomputable def Gl (X:Cx) (x:Str):Prop:=X.env.kindOf x=some .globalImplicit
theorem ZR {E:Value->Shared->Prop} {pins:List (Addr×Obj)} {s:Shared} {σ:St} {H:Hp} {x:Str} {u:Value} {pos:Pos} {Q:Value->Shared->Prop} (I:Inv X pins σ H s) (hg:Gl X x) (hm:X.mg x=some u) (h:Q u s)
  (hd:(x==("__debug__":Str))=false:=by decide):wpAny (model X.prog X.w) X.A (eval (.Name x pos) X.env) Q E s :=
 Calls.Name_function_global I.ok.kind hg (Calls.loadGlobal_global (by rw[I.ok.glob];exact I.mod.glob.keeps I.bk) hm h) hd
theorem ZL {E:Value->Shared->Prop} {pins:List (Addr×Obj)} {s:Shared} {σ:St} {H:Hp} {x:Str} {u:Value} {pos:Pos} {Q:Value->Shared->Prop} (I:Inv X pins σ H s) (hg:Gl X x) (hm:X.mg x=none) (hv:bootBuiltins x=some u) (h:Q u s)
  (hn:x≠"__name__":=by decide) (hd:(x==("__debug__":Str))=false:=by decide):wpAny (model X.prog X.w) X.A (eval (.Name x pos) X.env) Q E s:=by
 obtain⟨mb,h1,h2⟩:=I.mod.blt;exact Calls.Name_function_global I.ok.kind hg (Calls.loadGlobal_builtin (by rw[I.ok.glob];exact I.mod.glob.keeps I.bk) hm (by rw[I.ok.blt];exact h1.keeps I.bk) ((h2 x hn).trans hv) h) hd
theorem BO {x:Str} {v:V} {u:Value} {pos:Pos} (hg:Gl X x) (hm:X.mg x=some u) (r:RelV v u) (hd:(x==("__debug__":Str))=false:=by decide):PE X (.Name x pos) (tC v) :=
 fun _ _ _ H _ I h=>ZR I hg hm ⟨v,H,I,r,h⟩ hd
theorem BP {x:Str} {v:V} {u:Value} {pos:Pos} (hg:Gl X x) (hm:X.mg x=none) (hv:bootBuiltins x=some u) (r:RelV v u) (hn:x≠"__name__":=by decide) (hd:(x==("__debug__":Str))=false:=by decide):PE X (.Name x pos) (tC v) :=
 fun _ _ _ H _ I h=>ZL I hg hm hv ⟨v,H,I,r,h⟩ hn hd
variable {a b:Expr} {ta tb:TE} {pos:Pos}
noncomputable def tB (t:TE):TT:=fun σ H Q=>t σ H fun x H1=>∃ c,x=.bl c/\Q c H1
variable {tA tB':TT} {rest:List Expr}
noncomputable def tAnd (t u:TT):TT:=fun σ H Q=>t σ H fun c H1=>if c=true then u σ H1 Q else Q false H1
noncomputable def tOr (t u:TT):TT:=fun σ H Q=>t σ H fun c H1=>if c=true then Q true H1 else u σ H1 Q
noncomputable def tNot (t:TT):TT:=fun σ H Q=>t σ H fun c H1=>Q (!c) H1
theorem BJ (ha:PT X a tA):PW X (.BoolOp .And [a] pos) tA:=by
 intro wh pins s σ H Q I h;refine isTrue_and (thn (ha pins s σ H Q I h) fun c s1 e=>?_);cases c with
 | true=>exact isTrue_and_nil e
 | false=>exact e
theorem Dn (ha:PT X a tA):PW X (.BoolOp .Or [a] pos) tA:=by
 intro wh pins s σ H Q I h;refine isTrue_or (thn (ha pins s σ H Q I h) fun c s1 e=>?_);cases c with
 | false=>exact isTrue_or_nil e
 | true=>exact e
theorem Do (ha:PT X a tA) (hb:PW X (.BoolOp .And (b::rest) pos) tB'):PW X (.BoolOp .And (a::b::rest) pos) (tAnd tA tB'):=by
 intro wh pins s σ H Q I h;refine isTrue_and (thn (ha pins s σ H _ I h) fun c s1 hq2=>?_);obtain⟨H1,I1,q1⟩:=hq2;cases c with
 | true=>exact hb wh pins s1 σ H1 Q I1 q1
 | false=>exact⟨H1,I1,q1⟩
theorem HZ (ha:PT X a tA) (hb:PW X (.BoolOp .Or (b::rest) pos) tB'):PW X (.BoolOp .Or (a::b::rest) pos) (tOr tA tB'):=by
 intro wh pins s σ H Q I h;refine isTrue_or (thn (ha pins s σ H _ I h) fun c s1 hq2=>?_);obtain⟨H1,I1,q1⟩:=hq2;cases c with
 | true=>exact⟨H1,I1,q1⟩
 | false=>exact hb wh pins s1 σ H1 Q I1 q1
theorem Dp (ha:PT X a tA):PT X (.UnaryOp .Not a pos) (tNot tA):=by
 intro pins s σ H Q I h;exact isTrue_not (ha pins s σ H (fun c H1=>Q (!c) H1) I h)
noncomputable def Hd (ta tb:TE):TE:=fun σ H Q=>ta σ H fun x H1=>∃ c,x=.bl c/\if c=true then tb σ H1 Q else Q (.bl false) H1
noncomputable def tOrV (ta tb:TE):TE:=fun σ H Q=>ta σ H fun x H1=>∃ c,x=.bl c/\if c=true then Q (.bl true) H1 else tb σ H1 Q
noncomputable def Ha (ta:TE):TE:=fun σ H Q=>ta σ H fun x H1=>∃ c,x=.bl c/\Q (.bl (!c)) H1
theorem DH {op} {t:TE} (h:PE X a t):PE X (.BoolOp op [a] pos) t:=fun pins s σ H Q I hw=>BoolOp_one (h pins s σ H Q I hw)
theorem DQ (ha:PE X a ta) (hb:PE X (.BoolOp .And (b::rest) pos) tb):PE X (.BoolOp .And (a::b::rest) pos) (Hd ta tb):=by
 intro pins s σ H Q I h;refine BoolOp_and (thn (ha pins s σ H _ I h) fun v s1 hq2=>?_);obtain⟨x,H1,I1,r1,q1⟩:=hq2;obtain⟨c,rfl,q1⟩:=q1;cases r1;refine wpAny_truthy_bool ?_;cases c with
 | true=>exact hb pins s1 σ H1 Q I1 q1
 | false=>exact⟨.bl false,H1,I1,rfl,q1⟩
theorem Ic (ha:PE X a ta) (hb:PE X (.BoolOp .Or (b::rest) pos) tb):PE X (.BoolOp .Or (a::b::rest) pos) (tOrV ta tb):=by
 intro pins s σ H Q I h;refine BoolOp_or (thn (ha pins s σ H _ I h) fun v s1 hq2=>?_);obtain⟨x,H1,I1,r1,q1⟩:=hq2;obtain⟨c,rfl,q1⟩:=q1;cases r1;refine wpAny_truthy_bool ?_;cases c with
 | false=>exact hb pins s1 σ H1 Q I1 q1
 | true=>exact⟨.bl true,H1,I1,rfl,q1⟩
theorem DJ (ha:PE X a ta):PE X (.UnaryOp .Not a pos) (Ha ta):=by
 intro pins s σ H Q I h;refine UnaryOp_ (thn (ha pins s σ H _ I h) fun v s1 hq2=>?_);obtain⟨x,H1,I1,r1,q1⟩:=hq2;obtain⟨c,rfl,q1⟩:=q1;cases r1;exact not_of (wpAny_truthy_bool ⟨.bl (!c),H1,I1,rfl,q1⟩)
noncomputable def tIf (t:TT) (ta tb:TE):TE:=fun σ H Q=>t σ H fun c H1=>if c=true then ta σ H1 Q else tb σ H1 Q
theorem As {c:Expr} (hc:PT X c tA) (ha:PE X a ta) (hb:PE X b tb):PE X (.IfExp c a b pos) (tIf tA ta tb):=by
 intro pins s σ H Q I h;refine wpAny_IfExp (thn (hc pins s σ H _ I h) fun d s1 hq2=>?_);obtain⟨H1,I1,q1⟩:=hq2;cases d with
 | true=>exact ha pins s1 σ H1 Q I1 q1
 | false=>exact hb pins s1 σ H1 Q I1 q1
end
end L2
namespace L2
open PySem PySem.Spec PyProof.Rows
noncomputable def SqL (K:Frag) (H:Hp) (a:Addr) (xs:List V):Prop :=
 Rd H a (.lst xs) \/
  ∃ (o:Obj) (its:Array Value) (n:Nat),K.lookup a=some o/\o.cls=.type "list"/\o.dict=none/\o.data=.seq its n/\its.size<=sizeLine/\Vals xs its.toList
noncomputable def SqT (K:Frag) (H:Hp) (a:Addr) (xs:List V):Prop :=
 Rd H a (.tup xs) \/
  ∃ (o:Obj) (its:Array Value) (n:Nat),K.lookup a=some o/\o.cls=.type "tuple"/\o.data=.seq its n/\its.size<=sizeLine/\Vals xs its.toList
noncomputable def absV:Value->Option V
 | .none=>some .non
 | .bool b=>some (.bl b)
 | .int i _=>some (.int i)
 | .str x _=>some (.str x)
 | .bytes b _=>some (.byt b)
 | .float b _=>some (.flt b)
 | .ref a=>some (.ref a)
 | .type n=>some (.ty n)
 | _=>none
theorem RelV.abs {x:V} {u:Value} (r:RelV x u):absV u=some x:=by
 cases x with
 | non=>cases r;rfl
 | bl _=>cases r;rfl
 | int _=>obtain⟨t,rfl⟩:=r;rfl
 | str _=>obtain⟨t,rfl⟩:=r;rfl
 | byt _=>obtain⟨t,rfl⟩:=r;rfl
 | flt _=>obtain⟨t,rfl⟩:=r;rfl
 | ref _=>cases r;rfl
 | ty _=>cases r;rfl
theorem RelV.inj {x y:V} {u:Value} (r:RelV x u) (q:RelV y u):x=y:=Option.some.inj (r.abs.symm.trans q.abs)
theorem Vals.inj:∀ {xs ys:List V} {us:List Value},Vals xs us->Vals ys us->xs=ys
 | _,_,_,.nil,.nil=>rfl
 | _,_,_,.cons r t,.cons r' t'=>by rw[r.inj r',Vals.inj t t']
section
variable {X:Cx} {pins:List (Addr×Obj)} {σ:St} {H:Hp} {s:Shared} {a:Addr} {xs ys:List V}
theorem SqL.of {K:Frag} (h:H a=some (.lst xs)):SqL K H a xs:=.inl (.inl h)
theorem SqT.of {K:Frag} (h:H a=some (.tup xs)):SqT K H a xs:=.inl (.inl h)
theorem Inv.list (I:Inv X pins σ H s) (h:SqL X.K H a xs):∃ its:List Value,Vals xs its/\PlainL s.heap a its.toArray/\xs.length<=sizeLine:=by
 rcases h with h|⟨o,its,n,hk,hc,hd,hs,hz,r⟩
 ·obtain⟨z,its,n,r,e⟩:=h.ok I.hok
  exact⟨its,r,⟨_,n,e,rfl,rfl,rfl⟩,z⟩
 ·refine⟨its.toList,r,⟨o,n,I.kIn a o hk,hc,hd,by simpa using hs⟩,?_⟩
  have e:=r.length;simp only[Array.length_toList] at e;omega
theorem Inv.tuple (I:Inv X pins σ H s) (h:SqT X.K H a xs):∃ its:List Value,Vals xs its/\IsTup s.heap a its.toArray/\xs.length<=sizeLine:=by
 rcases h with h|⟨o,its,n,hk,hc,hs,hz,r⟩
 ·obtain⟨z,its,r,p⟩:=h.ok I.hok
  exact⟨its,r,p,z⟩
 ·refine⟨its.toList,r,⟨o,I.kIn a o hk,hc,n,by simpa using hs⟩,?_⟩
  have e:=r.length;simp only[Array.length_toList] at e;omega
theorem Inv.list_inj (I:Inv X pins σ H s) (h:SqL X.K H a xs) (h':SqL X.K H a ys):xs=ys:=by
 obtain⟨its,r,⟨o,n,e,_,_,d⟩,_⟩:=I.list h;obtain⟨its',r',⟨o',n',e',_,_,d'⟩,_⟩:=I.list h';rw[e] at e';cases e';rw[d] at d';injection d' with d1 _
 have:its=its':=by simpa using congrArg Array.toList d1
 subst this;exact r.inj r'
theorem Inv.tuple_inj (I:Inv X pins σ H s) (h:SqT X.K H a xs) (h':SqT X.K H a ys):xs=ys:=by
 obtain⟨its,r,⟨o,e,_,n,d⟩,_⟩:=I.tuple h;obtain⟨its',r',⟨o',e',_,n',d'⟩,_⟩:=I.tuple h';rw[e] at e';cases e';rw[d] at d';injection d' with d1 _
 have:its=its':=by simpa using congrArg Array.toList d1
 subst this;exact r.inj r'
end
section
variable {X:Cx} {pins:List (Addr×Obj)} {σ:St} {H:Hp} {s:Shared} {E:Value->Shared->Prop}
end
section
variable {X:Cx} {st:Stmt} {rest:List Stmt} {t u:TS} {e:Expr} {te:TE} {pos:Pos}
noncomputable def CK:TS:=fun D σ H=>D.nx σ H
noncomputable def tSeq (t u:TS):TS:=fun D σ H=>t {D with nx:=u D} σ H
theorem pss_nil:PSs X [] CK:=fun _ _ σ H _ I h=>wpAny_execs_nil ⟨σ,H,I,h⟩
theorem VM (h1:PS X st t) (h2:PSs X rest u):PSs X (st::rest) (tSeq t u):=by
 intro pins s σ H D I h;refine wpAny_execs_cons (thn (h1 pins s σ H {D with nx:=u D} I h) fun f s1 q=>?_);cases f with
 | next =>
  obtain⟨σ',H',I',q⟩:=q;exact h2 pins s1 σ' H' D I' q
 | ret v=>exact q
 | brk=>exact q
 | cont=>exact q
theorem Inv.quiet {pins:List (Addr×Obj)} {σ:St} {H:Hp} {s:Shared} (I:Inv X pins σ H s):interactive X.env=false:=by simp[interactive,I.ok.kind]
noncomputable def Hb (te:TE):TS:=fun D σ H=>te σ H fun _ H1=>D.nx σ H1
theorem BK (he:PE X e te) (hs:swapsWith e none pos.line X.env=pure false:=by rfl):PS X (.Expr e pos) (Hb te):=by
 intro pins s σ H D I h;exact wpAny_Expr_any (thn (he pins s σ H _ I h) (by rintro v s1 ⟨x,H1,I1,r1,q1⟩;exact⟨σ,H1,I1,q1⟩)) I.quiet hs
noncomputable def tRet (te:TE):TS:=fun D σ H=>te σ H D.rt
theorem Dq (he:PE X e te):PS X (.Return (some e) pos) (tRet te):=by
 intro pins s σ H D I h;exact wpAny_Return_some (thn (he pins s σ H _ I h) (by rintro v s1 ⟨x,H1,I1,r1,q1⟩;exact⟨x,σ,H1,I1,r1,q1⟩))
noncomputable def tIfS (c:TT) (t u:TS):TS:=fun D σ H=>c σ H fun b H1=>if b=true then t D σ H1 else u D σ H1
theorem Ia {c:Expr} {a b:List Stmt} {tc:TT} (hc:PT X c tc) (ha:PSs X a t) (hb:PSs X b u):PS X (.If c a b pos) (tIfS tc t u):=by
 intro pins s σ H D I h;refine wpAny_If (thn (hc pins s σ H _ I h) fun d s1 hq2=>?_);obtain⟨H1,I1,q1⟩:=hq2;cases d with
 | true=>exact ha pins s1 σ H1 D I1 q1
 | false=>exact hb pins s1 σ H1 D I1 q1
noncomputable def Df:TS:=fun _ _ _=>False
theorem ps_never:PS X st Df:=fun _ _ _ _ _ _ h=>h.elim
end
abbrev TG:=V->St->Hp->(St->Hp->Prop)->Prop
abbrev TGs:=List V->St->Hp->(St->Hp->Prop)->Prop
noncomputable def PG (X:Cx) (target:Expr) (t:TG):Prop :=
 ∀ (pins:List (Addr×Obj)) (s:Shared) (σ:St) (H:Hp) (v:V) (u:Value) (Q:St->Hp->Prop),Inv X pins σ H s->RelV v u->t v σ H Q ->
  wpAny (model X.prog X.w) X.A (assign target X.env u) (fun _ s'=>∃ σ' H',Inv X pins σ' H' s'/\Q σ' H') X.xe s
noncomputable def PGs (X:Cx) (ts:List Expr) (t:TGs):Prop :=
 ∀ (pins:List (Addr×Obj)) (s:Shared) (σ:St) (H:Hp) (vs:List V) (us:List Value) (Q:St->Hp->Prop),Inv X pins σ H s->Vals vs us->t vs σ H Q ->
  wpAny (model X.prog X.w) X.A (assignInOrder ((assignEach ts X.env).map (·.2)) us) (fun _ s'=>∃ σ' H',Inv X pins σ' H' s'/\Q σ' H') X.xe s
abbrev TSet:=V->V->V->Hp->(Hp->Prop)->Prop
noncomputable def PSet (X:Cx) (t:TSet):Prop :=
 ∀ (pins:List (Addr×Obj)) (s:Shared) (σ:St) (H:Hp) (o i v:V) (ov iv u:Value) (Q:Hp->Prop),Inv X pins σ H s->RelV o ov->RelV i iv->RelV v u->t o i v H Q ->
  wpAny (model X.prog X.w) X.A (setItem ov iv u) (fun _ s'=>∃ H',Inv X pins σ H' s'/\Q H') X.xe s
abbrev TIp:=V->V->Hp->VK->Prop
noncomputable def PIp (X:Cx) (op:Operator) (t:TIp):Prop :=
 ∀ (pins:List (Addr×Obj)) (s:Shared) (σ:St) (H:Hp) (x y:V) (v u:Value) (Q:VK),Inv X pins σ H s->RelV x v->RelV y u->t x y H Q ->
  wpAny (model X.prog X.w) X.A (inplaceOp op v u) (EP X pins σ Q) X.xe s
section
variable {X:Cx} {pos:Pos}
noncomputable def AZ (i:Nat):TG:=fun v σ H Q=>Q (σ.set i (some v)) H
theorem BN {i:Nat} {x:Str} (hN:X.N.Nodup) (hi:X.N[i]?=some x) (hx:Loc X.env.scope x) (hf:X.fn x=true\/X.env.scope.names.lookup x=some .local:=by first|exact .inl rfl|exact .inr rfl|assumption):PG X (.Name x pos) (AZ i):=by
 intro pins s σ H v u Q I r h;exact wpAny_assign_Name (Z9 I hN hi hx r (fun s' I'=>⟨_,H,I',h⟩) hf)
noncomputable def gNil:TGs:=fun vs σ H Q=>vs=[]/\Q σ H
noncomputable def ID (t:TG) (u:TGs):TGs:=fun vs σ H Q=>∃ v r,vs=v::r/\t v σ H fun σ' H'=>u r σ' H' Q
theorem pgs_nil:PGs X [] gNil:=by
 intro pins s σ H vs us Q I r h;obtain⟨e,h⟩:=h;subst e;cases r;exact assignInOrder_nil ⟨σ,H,I,h⟩
theorem Aq {e:Expr} {es:List Expr} {t:TG} {u:TGs} (h1:PG X e t) (h2:PGs X es u)
  (hs:(assignEach (e::es) X.env).map (·.2)=assign e X.env::(assignEach es X.env).map (·.2):=by rfl):PGs X (e::es) (ID t u):=by
 intro pins s σ H vs us Q I r h;obtain⟨v,vr,e1,h⟩:=h;subst e1;cases r with
 | cons r rr =>
  rw[hs];refine assignInOrder_cons (thn (h1 pins s σ H _ _ _ I r h) fun _ s1 hq2=>?_);obtain⟨σ1,H1,I1,q1⟩:=hq2;exact h2 pins s1 σ1 H1 _ _ Q I1 rr q1
noncomputable def gTup (K:Frag) (n:Nat) (t:TGs):TG:=fun v σ H Q=>∃ a xs,v=.ref a/\SqT K H a xs/\xs.length=n/\t xs σ H Q
theorem Dx {es:List Expr} {k:Nat} {t:TGs} {n:Nat} (hc:X.calm=true) (h:PGs X es t)
  (hn:(assignEach es X.env).length=n:=by rfl) (hst:(assignEach es X.env).findIdx? (·.1)=none:=by rfl):PG X (.Tuple es k pos) (gTup X.K n t):=by
 intro pins s σ H v u Q I r hw;obtain⟨a,xs,e1,hq,hl,hw⟩:=hw;subst e1;cases r;obtain⟨its,rv,ht,hz⟩:=I.tuple hq;refine assign_Tuple_tuple (I.ok.hd hc) ht (by simp[hn,<- hl,rv.length]) hst fun h' hx=>?_;have I1:Inv X pins σ H {s with heap:=h'}:=I.kept (t':=s.toks) fun b o e=>hx b o (Nat.ne_of_lt (Heap.lt_size e)) e;exact h pins _ σ H xs _ Q I1 (by simpa using rv) hw
noncomputable def gSub (to ti:TE) (t:TSet):TG:=fun v σ H Q=>to σ H fun o H1=>ti σ H1 fun i H2=>t o i v H2 fun H3=>Q σ H3
theorem Dy {o i:Expr} {to ti:TE} {t:TSet} (ho:PE X o to) (hi:PE X i ti) (hs:PSet X t)
  (ha:∀ v,assign (.Subscript o i pos) X.env v=(do
   let ov <- holding [v] (eval o X.env)
   let iv <- holding [v,ov] (eval i X.env)
   standAt pos
   holding [v,ov,iv] (setItem ov iv v)
   release [v,ov,iv] []):=by intro _;rfl):PG X (.Subscript o i pos) (gSub to ti t):=by
 intro pins s σ H v u Q I r h;rw[ha];refine wpAny_bind (wpAny_holding (thn (ho pins s σ H _ I h) fun ov s1 hq2=>?_));obtain⟨x,H1,I1,r1,q1⟩:=hq2;refine wpAny_bind (wpAny_holding (thn (hi pins s1 σ H1 _ I1 q1) fun iv s2 hq2=>?_));obtain⟨y,H2,I2,r2,q2⟩:=hq2;refine wpAny_bind (wpAny_standAt (wpAny_bind (wpAny_holding (thn (hs pins s2 σ H2 x y v ov iv u _ I2 r1 r2 r q2) fun _ s3 hq2=>?_))));obtain⟨H3,I3,q3⟩:=hq2;exact wpAny_release ⟨σ,H3,I3,q3⟩
noncomputable def tAsg (te:TE) (g:TG):TS:=fun D σ H=>te σ H fun x H1=>g x σ H1 D.nx
theorem Dv {tg e:Expr} {te:TE} {g:TG} (he:PE X e te) (hg:PG X tg g) (hs:swapsWithSole [tg] e pos.line X.env=pure false:=by rfl) (hw:swappedStores [tg] e X.env=pure none:=by rfl)
  (h1:(assignEach [tg] X.env).map (·.2)=[assign tg X.env]:=by rfl):PS X (.Assign [tg] e pos) (tAsg te g):=by
 intro pins s σ H D I h;refine wpAny_Assign_stores (thn (he pins s σ H _ I h) fun v s1 hq2=>?_) hs hw;obtain⟨x,H1,I1,r1,q1⟩:=hq2;rw[h1];exact thn (hg pins s1 σ H1 x v _ I1 r1 q1) fun _ s2 q=>q
theorem Am {i:Nat} {x:Str} {e:Expr} {te:TE} {pos':Pos} (hN:X.N.Nodup) (hi:X.N[i]?=some x) (hx:Loc X.env.scope x) (he:PE X e te) (hs:swapsWith e (some (.Name x pos')) pos.line X.env=pure false:=by rfl) (hf:X.fn x=true\/X.env.scope.names.lookup x=some .local:=by first|exact .inl rfl|exact .inr rfl|assumption) :
  PS X (.Assign [.Name x pos'] e pos) (tAsg te (AZ i)):=by
 intro pins s σ H D I h;refine wpAny_Assign_Name (thn (he pins s σ H _ I h) fun v s1 hq2=>?_) hs;obtain⟨y,H1,I1,r1,q1⟩:=hq2;exact Z9 I1 hN hi hx r1 (fun s2 I2=>⟨_,H1,I2,q1⟩) hf
noncomputable def tPar (i j:Nat) (ta:TA):TS:=fun D σ H=>ta σ H fun vs H1=>∃ v w,vs=[v,w]/\D.nx ((σ.set i (some v)).set j (some w)) H1
theorem Ds {i j:Nat} {x y:Str} {a b:Expr} {ta:TA} {px py pt:Pos} {kt k2 pt2} (hc:X.calm=true) (hN:X.N.Nodup) (hi:X.N[i]?=some x) (hj:X.N[j]?=some y) (hij:i≠j)
  (hx:X.env.scope.names.lookup x=some .local) (hy:X.env.scope.names.lookup y=some .local) (ha:PA X [a,b] ta)
  (hw:swappedStores [.Tuple [.Name x px,.Name y py] kt pt] (.Tuple [a,b] k2 pt2) X.env=pure (some [x,y]))
  (hs:swapsWithSole [.Tuple [.Name x px,.Name y py] kt pt] (.Tuple [a,b] k2 pt2) pos.line X.env=pure false:=by rfl) :
  PS X (.Assign [.Tuple [.Name x px,.Name y py] kt pt] (.Tuple [a,b] k2 pt2) pos) (tPar i j ta):=by
 intro pins s σ H D I h;rw[exec_Assign_arm];refine wpAny_bind (wpAny_standAt ?_);rw[hs];refine wpAny_bind (wpAny_pure ?_);rw[if_neg (by decide)];refine wpAny_bind (Tuple_ (thn (ha _ pins s σ H _ I h) fun us s1 hq2=>?_));obtain⟨vs,H1,I1,r1,q1⟩:=hq2;obtain⟨v,w,e1,q1⟩:=q1;subst e1;obtain⟨u1,u2,rfl,rv,rw'⟩:∃ u1 u2,us=[u1,u2]/\RelV v u1/\RelV w u2:=by
  cases r1 with
  | cons p q =>
   cases q with
   | cons p' q' =>
    cases q';exact⟨_,_,rfl,p,p'⟩
 refine wpAny_newObj_type ?_ (by show 2<=sizeLine;decide);have I2:Inv X pins σ H1 {s1 with heap:=s1.heap.push {cls:=.type "tuple",data:=.seq [u1,u2].toArray}}:=I1.kept (t':=s1.toks) fun b o e=>Heap.get?_push_of_some _ e;rw[hw];refine wpAny_bind (wpAny_pure ?_);show wpAny (model X.prog X.w) X.A (do rule "assign.swapped-stores";let items <- unpackItems (.ref s1.heap.objs.size) 2 none;assignInOrder [fun v=>bindName X.env y v,fun v=>bindName X.env x v] items.reverse;pure Flow.next) _ _ _;refine wpAny_bind (wpAny_rule (wpAny_bind (unpackItems_tuple (items:=#[u1,u2]) (I.ok.hd hc) (IsTup.new s1.heap _) fun h' hx'=>?_)));have I3:=I2.kept (h':=h') (t':=s1.toks) fun b o e=>hx' b o (Nat.ne_of_lt (Heap.lt_size e)) e;show wpAny _ _ (assignInOrder [fun v=>bindName X.env y v,fun v=>bindName X.env x v] [u2,u1] >>= fun _=>pure Flow.next) _ _ _;refine wpAny_bind (assignInOrder_cons (wpAny_bindName (Z9 I3 hN hj (.inl hy) rw' (fun s2 I4=>?_) (.inr hy))))
 refine assignInOrder_cons (wpAny_bindName (Z9 I4 hN hi (.inl hx) rv (fun s3 I5=>assignInOrder_nil (wpAny_pure ?_)) (.inr hx)));rw[List.set_comm _ _ (Ne.symm hij)] at I5;exact⟨_,H1,I5,q1⟩
noncomputable def tAug (i:Nat) (te:TE) (ti:TIp):TS:=fun D σ H=>∃ x,σ[i]?=some (some x)/\te σ H fun y H1=>ti x y H1 fun z H2=>D.nx (σ.set i (some z)) H2
theorem Du {i:Nat} {x:Str} {e:Expr} {te:TE} {op:Operator} {ti:TIp} {pos':Pos} (hN:X.N.Nodup) (hi:X.N[i]?=some x) (hx:Loc X.env.scope x) (he:PE X e te) (ho:PIp X op ti) (hf:X.fn x=true\/X.env.scope.names.lookup x=some .local:=by first|exact .inl rfl|exact .inr rfl|assumption) :
  PS X (.AugAssign (.Name x pos') op e pos) (tAug i te ti):=by
 intro pins s σ H D I h;obtain⟨v,e1,h⟩:=h;obtain⟨m,hn,hl⟩:=I.loc;have vis:Vis X.env.scope x:=by rcases hx with k|k;exact .inl k;exact .inr (.inl k)
 obtain⟨u,r,l⟩:=hl i x v hi e1 vis;refine wpAny_AugAssign_Name ?_;have go:wpAny (model X.prog X.w) X.A (eval e X.env) (fun w s₂=>wpAny (model X.prog X.w) X.A (inplaceOp op u w) (fun r s₃=>wpAny (model X.prog X.w) X.A (storeName X.env x r) (fun _=>SP X pins D .next) X.xe s₃) X.xe s₂) X.xe s:=by
  refine thn (he pins s σ H _ I h) fun w s1 hq2=>?_;obtain⟨y,H1,I1,r1,q1⟩:=hq2;refine thn (ho pins s1 σ H1 v y u w _ I1 r r1 q1) fun z s2 hq2=>?_;obtain⟨zv,H2,I2,r2,q2⟩:=hq2;exact Z9 I2 hN hi hx r2 (fun s3 I3=>⟨_,H2,I3,q2⟩) hf
 rcases l with ⟨hk,hm⟩|⟨hk,c,hc,hcell⟩
 ·exact wpAny_loadName_local I.ok.kind hk hn hm go
 ·rcases hk with hk|hk
  ·exact wpAny_loadName_cell I.ok.kind hk hc hcell go
  ·rcases hx with k|k
   ·have:X.env.scope.names.lookup x=some .free:=hk
    rw[k] at this;cases this
   ·have:X.env.scope.names.lookup x=some .free:=hk
    rw[k] at this;cases this
noncomputable def ipI (f:Int->Int->Int):TIp:=fun x y H Q=>∃ i j,x=.int i/\y=.int j/\Q (.int (f i j)) H
theorem Fh:PIp X .Add (ipI fun i j=>i+j):=by
 intro pins s σ H x y v u Q I r1 r2 h;obtain⟨i,j,e1,e2,q⟩:=h;subst e1;subst e2;obtain⟨t,rfl⟩:=r1;obtain⟨t',rfl⟩:=r2;exact iadd_int ⟨.int _,H,I.tok _,⟨_,rfl⟩,q⟩
theorem Fg:PIp X .Sub (ipI fun i j=>i-j):=by
 intro pins s σ H x y v u Q I r1 r2 h;obtain⟨i,j,e1,e2,q⟩:=h;subst e1;subst e2;obtain⟨t,rfl⟩:=r1;obtain⟨t',rfl⟩:=r2;exact isub_int ⟨.int _,H,I.tok _,⟨_,rfl⟩,q⟩
end
section
variable {X:Cx} {pos:Pos}
noncomputable def De (c:TT) (tb:TS):TS:=fun D σ H=>∃ W:Nat->St->Hp->Prop,(∃ m,W m σ H)/\∀ m σ H,W m σ H ->
 c σ H fun b H1=>if b=true then ∃ N:St->Hp->Prop,(∀ σ' H',N σ' H'->∃ m',m'<m/\W m' σ' H')/\tb {D with nx:=N,ct:=N,bk:=D.nx} σ H1 else D.nx σ H1
theorem Al {c:Expr} {body:List Stmt} {tc:TT} {tb:TS} (hp:PassesOwn (model X.prog X.w) X.A X.env X.xe) (hc:PT X c tc) (hb:PSs X body tb):PS X (.While c body [] pos) (De tc tb):=by
 intro pins s σ H D I h;obtain⟨W,⟨m0,w0⟩,turn⟩:=h;refine wpAny_While (codeAny_whileLoop (fun n s'=>∃ σ' H',Inv X pins σ' H' s'/\W n σ' H') ?_ m0 ⟨σ,H,I,w0⟩);rintro n s1 ⟨σ1,H1,I1,w1⟩;refine wpAny_passesOwn hp (thn (hc pins s1 σ1 H1 _ I1 (turn n σ1 H1 w1)) fun b s2 hq2=>?_);obtain⟨H2,I2,q2⟩:=hq2;cases b with
 | true =>
  obtain⟨N,hN,q2⟩:=q2;rw[if_pos rfl];refine wpAny_passesOwn hp (thn (hb pins s2 σ1 H2 _ I2 q2) fun f s3 q3=>?_);cases f with
  | next =>
   obtain⟨σ3,H3,I3,n3⟩:=q3;obtain⟨m',hm,w3⟩:=hN σ3 H3 n3;exact⟨m',hm,σ3,H3,I3,w3⟩
  | cont =>
   obtain⟨σ3,H3,I3,n3⟩:=q3;obtain⟨m',hm,w3⟩:=hN σ3 H3 n3;exact⟨m',hm,σ3,H3,I3,w3⟩
  | brk=>exact q3
  | ret v=>exact q3
 | false =>
  rw[if_neg Bool.false_ne_true];exact wpAny_execs_nil ⟨σ1,H2,I2,q2⟩
end
structure It where
 go:Nat->Hp->Prop
 yld:Nat->Hp->V->Hp->Prop
 stop:Nat->Hp->Prop
noncomputable def FpOk (X:Cx) (pins:List (Addr×Obj)) (H:Hp) (b:Addr):Prop :=
 H b=none/\b≠X.env.locals/\b ∉ X.fs/\(b∈X.ex\/X.s₀.heap.objs.size<=b)/\(∀ x c,X.env.cells.lookup x=some c->c≠b)/\∀ p∈X.pn++pins,p.1≠b
theorem Inv.fpOk {X:Cx} {pins:List (Addr×Obj)} {σ:St} {H H':Hp} {s:Shared} {b:Addr} (I:Inv X pins σ H s) (hb:s.heap.objs.size<=b) (hn:H' b=none):FpOk X pins H' b:=by
 refine⟨hn,Nat.ne_of_gt (Nat.lt_of_lt_of_le I.lt hb),I.nofs hb,.inr (Nat.le_trans I.sz hb),fun x c e z=>?_,fun p hp z=>?_⟩
 ·obtain⟨v,q⟩:=I.cell x c e
  exact absurd (Nat.lt_of_lt_of_le q.lt (by rw[z];exact hb)) (Nat.lt_irrefl _)
 ·exact absurd (Nat.lt_of_lt_of_le (Heap.lt_size (I.pin p hp).1) (by rw[z];exact hb)) (Nat.lt_irrefl _)
structure Turn (P:Program) (w:World) (K:Frag) (tg:Expr) (J:It) (fp:List Addr) (it:Addr) (tn:Nat->Heap->Prop):Prop where
 mem:it∈fp
 obj:∀ i h,tn i h->∀ b∈fp,∃ o,h.get? b=some o/\∀ v,o.data≠.cell v
 keep:∀ i h h',tn i h->(∀ b∈fp,∀ o,h.get? b=some o->h'.get? b=some o)->tn i h'
 item:∀ (X:Cx),X.prog=P->X.w=w->X.K=K->X.calm=true->∀ (i:Nat) (pins:List (Addr×Obj)) (s:Shared) (σ:St) (H:Hp) (E:Value->Shared->Prop),Inv X pins σ H s->(∀ b∈fp,FpOk X pins H b)->tn i s.heap->J.go i H ->
  wpAny (model P w) X.A (pyNext (.ref it)) (fun r s1=>∃ u,r=some u /\
   wpAny (model P w) X.A (letOwnedTupleGo tg (.ref it) u) (fun _ s2=>∃ x H',Inv X pins σ H' s2/\RelV x u/\J.yld i H x H'/\tn (i+1) s2.heap/\∀ b∈fp,H' b=none) E s1) E s
 done:∀ (X:Cx),X.prog=P->X.w=w->X.K=K->X.calm=true->∀ (i:Nat) (pins:List (Addr×Obj)) (s:Shared) (σ:St) (H:Hp) (E:Value->Shared->Prop),Inv X pins σ H s->(∀ b∈fp,FpOk X pins H b)->tn i s.heap->J.stop i H ->
  wpAny (model P w) X.A (pyNext (.ref it)) (fun r s1=>r=none/\Inv X pins σ H s1) E s
 self:∀ (A:Around) (i:Nat) (s:Shared) (Q:Value->Shared->Prop) (E:Value->Shared->Prop),tn i s.heap->Q (.ref it) s->wpAny (model P w) A (pyIter (.ref it)) Q E s
abbrev TI:=St->Hp->(It->Hp->Prop)->Prop
noncomputable def PIE (X:Cx) (pins:List (Addr×Obj)) (σ:St) (tg:Expr) (R:It->Hp->Prop) (itv:Value) (s2:Shared):Prop :=
 ∃ (it:Addr) (fp:List Addr) (tn:Nat->Heap->Prop) (J:It) (H':Hp),itv=.ref it/\Inv X pins σ H' s2/\Turn X.prog X.w X.K tg J fp it tn/\tn 0 s2.heap/\(∀ b∈fp,FpOk X pins H' b)/\R J H'
noncomputable def PI (X:Cx) (tg iter:Expr) (wi:TI):Prop :=
 ∀ (pins:List (Addr×Obj)) (s:Shared) (σ:St) (H:Hp) (R:It->Hp->Prop),Inv X pins σ H s->wi σ H R ->
  wpAny (model X.prog X.w) X.A (eval iter X.env) (fun v s1=>wpAny (model X.prog X.w) X.A (pyIter v) (PIE X pins σ tg R) X.xe s1) X.xe s
theorem J9 {M:Model} {A:Around} {E:Value->Shared->Prop} {s:Shared} {tg:Expr} {it:Addr} {u:Value} {o:Obj} {n:String} {vs:Array Value} {Q:Unit->Shared->Prop} (ho:s.heap.get? it=some o) (hc:o.cls=.type n) (hd:o.data=.fields vs)
    (hn:["enumerate","zip","dict_itemiterator","dict_reverseitemiterator","odict_iterator","itertools.zip_longest","itertools.pairwise"].contains n=false) (hQ:Q () s):wpAny M A (letOwnedTupleGo tg (.ref it) u) Q E s:=by
  unfold letOwnedTupleGo;cases tg<;>first
    | exact wpAny_pure hQ
    | (cases u<;>first
        | exact wpAny_pure hQ
        | (refine wpAny_bind (wpAny_load ho ?_)
           rw[hc,hd];show wpAny M A (if (["enumerate","zip","dict_itemiterator","dict_reverseitemiterator","odict_iterator","itertools.zip_longest","itertools.pairwise"].contains n&&vs[0]?==some (rawInt _))=true then _ else _) Q E s;rw[if_neg (by intro h;rw[hn,Bool.false_and] at h;cases h)];exact wpAny_pure hQ))
noncomputable def Itl (K:Frag) (a:Addr):It :=
 ⟨fun i H=>∃ xs x,SqL K H a xs/\xs[i]?=some x,fun i H x H'=>H'=H/\∀ xs,SqL K H a xs->xs[i]?=some x,fun i H=>∃ xs,SqL K H a xs/\xs.length<=i⟩
noncomputable def Itt (K:Frag) (a:Addr):It :=
 ⟨fun i H=>∃ xs x,SqT K H a xs/\xs[i]?=some x,fun i H x H'=>H'=H/\∀ xs,SqT K H a xs->xs[i]?=some x,fun i H=>∃ xs,SqT K H a xs/\xs.length<=i⟩
noncomputable def Itr (lo:Int) (n:Nat):It:=⟨fun i _=>i<n,fun i H x H'=>H'=H/\x=.int (lo+i),fun i _=>n<=i⟩
theorem Jr {P:Program} {w:World} {K:Frag} {tg:Expr} (a it:Addr):Turn P w K tg (Itl K a) [it] it (fun i h=>h.IsListIter it a i) where
 mem:=by simp
 obj:=fun i h st b hb=>by
  have e:b=it:=by simpa using hb
  subst e;obtain⟨o,e,c,d⟩:=st;exact⟨o,e,fun v z=>by rw[d] at z;cases z⟩
 keep:=fun i h h' st k=>st.at fun o e=>k it (by simp) o e
 item:=by
  intro X hP hw hK hc i pins s σ H E I hf st hg;subst hP hw hK;obtain⟨xs,x,hq,hx⟩:=hg;obtain⟨its,rv,p,hz⟩:=I.list hq;obtain⟨u,hu,ru⟩:=rv.get hx;obtain⟨f0,f1,f2,f3,f4,f5⟩:=hf it (by simp);refine wpAny_pyNext_list_item st p.isList (x:=u) (by simpa using hu) fun h' st' sb=>?_;have I1:Inv X pins σ H {s with heap:=h'}:=I.turned (t':=s.toks) (fun b o hb e=>(sb.2 b hb).trans e) f0 f1 f3 f4 f5;obtain⟨o,e,c,d⟩:=id st';exact⟨u,rfl,J9 (s:={s with heap:=h'}) e c d (by decide) ⟨x,H,I1,ru,⟨rfl,fun ys hy=>by rw[I.list_inj hy hq];exact hx⟩,st',fun b hb=>(hf b hb).1⟩⟩
 done:=by
  intro X hP hw hK hc i pins s σ H E I hf st hg;subst hP hw hK;obtain⟨xs,hq,hx⟩:=hg;obtain⟨its,rv,p,hz⟩:=I.list hq;obtain⟨f0,f1,f2,f3,f4,f5⟩:=hf it (by simp);have hl:=rv.length;exact wpAny_pyNext_list_end (I.ok.hd hc) st p.isList (by simp;omega) fun h' eb=>⟨rfl,I.turned (t':=s.toks) (fun b o hb e=>eb b o hb e) f0 f1 f3 f4 f5⟩
 self:=fun _ _ _ _ _ st h=>wpAny_pyIter_listiter st h
theorem Uf {P:Program} {w:World} {K:Frag} {tg:Expr} (a it:Addr):Turn P w K tg (Itt K a) [it] it (fun i h=>h.IsTupleIter it a i) where
 mem:=by simp
 obj:=fun i h st b hb=>by
  have e:b=it:=by simpa using hb
  subst e;obtain⟨o,e,c,d⟩:=st;exact⟨o,e,fun v z=>by rw[d] at z;cases z⟩
 keep:=fun i h h' st k=>st.at fun o e=>k it (by simp) o e
 item:=by
  intro X hP hw hK hc i pins s σ H E I hf st hg;subst hP hw hK;obtain⟨xs,x,hq,hx⟩:=hg;obtain⟨its,rv,p,hz⟩:=I.tuple hq;obtain⟨u,hu,ru⟩:=rv.get hx;obtain⟨f0,f1,f2,f3,f4,f5⟩:=hf it (by simp);refine wpAny_pyNext_tuple_item st (show s.heap.IsTuple a its.toArray from p) (x:=u) (by simpa using hu) fun h' st' sb=>?_;have I1:Inv X pins σ H {s with heap:=h'}:=I.turned (t':=s.toks) (fun b o hb e=>(sb.2 b hb).trans e) f0 f1 f3 f4 f5;obtain⟨o,e,c,d⟩:=id st';exact⟨u,rfl,J9 (s:={s with heap:=h'}) e c d (by decide) ⟨x,H,I1,ru,⟨rfl,fun ys hy=>by rw[I.tuple_inj hy hq];exact hx⟩,st',fun b hb=>(hf b hb).1⟩⟩
 done:=by
  intro X hP hw hK hc i pins s σ H E I hf st hg;subst hP hw hK;obtain⟨xs,hq,hx⟩:=hg;obtain⟨its,rv,p,hz⟩:=I.tuple hq;obtain⟨f0,f1,f2,f3,f4,f5⟩:=hf it (by simp);have hl:=rv.length;exact wpAny_pyNext_tuple_end (I.ok.hd hc) st (show s.heap.IsTuple a its.toArray from p) (by simp;omega) fun h' eb=>⟨rfl,I.turned (t':=s.toks) (fun b o hb e=>eb b o hb e) f0 f1 f3 f4 f5⟩
 self:=fun _ _ _ _ _ st h=>wpAny_pyIter_tupleiter st h
theorem Ug {P:Program} {w:World} {K:Frag} {tg:Expr} (it:Addr) (lo:Int) (n:Nat):Turn P w K tg (Itr lo n) [it] it (fun i h=>IsRangeIter h it (lo+(i:Nat)*1) ((n:Int)-(i:Nat)) 1) where
 mem:=by simp
 obj:=fun i h st b hb=>by
  have e:b=it:=by simpa using hb
  subst e;exact⟨_,st,fun v z=>by
   have z':Data.fields _=Data.cell v:=z;cases z'⟩
 keep:=fun i h h' st k=>k it (by simp) _ st
 item:=by
  intro X hP hw hK hc i pins s σ H E I hf st hg;subst hP hw hK;obtain⟨f0,f1,f2,f3,f4,f5⟩:=hf it (by simp);have W:=Walks.range (prog:=X.prog) (w:=X.w) (I.ok.hd hc) it lo 1 n;refine W.item i s _ _ hg st fun v h' tk hv st' kk=>?_;obtain⟨t,rfl⟩:=hv;have I1:Inv X pins σ H {s with heap:=h',toks:=tk}:=I.turned (fun b o hb e=>kk b o (by simpa using hb) e) f0 f1 f3 f4 f5;refine⟨_,rfl,J9 (s:={s with heap:=h',toks:=tk}) (n:="range_iterator") st' rfl rfl (by decide) ⟨.int (lo+i),H,I1,⟨t,?_⟩,⟨rfl,rfl⟩,st',fun b hb=>(hf b hb).1⟩⟩;rw[Int.mul_one]
 done:=by
  intro X hP hw hK hc i pins s σ H E I hf st hg;subst hP hw hK;obtain⟨f0,f1,f2,f3,f4,f5⟩:=hf it (by simp);exact wpAny_pyNext_range_end (I.ok.hd hc) st (by have:n<=i:=hg;omega) fun h' eb=>⟨rfl,I.turned (t':=s.toks) (fun b o hb e=>eb b o hb e) f0 f1 f3 f4 f5⟩
 self:=fun _ _ _ _ _ st h=>wpAny_pyIter_rangeiter st h
end L2
namespace L2
open PySem PySem.Spec PyProof.Rows
section
variable {X:Cx} {tg:Expr}
theorem VL {pins:List (Addr×Obj)} {σ:St} {H:Hp} {s:Shared} {R:It->Hp->Prop} {E:Value->Shared->Prop} {lo hi:Int} {t u v:Tok} {tk:Nat} (I:Inv X pins σ H s) (h1:-(2 ^ 62)<=lo) (h2:lo<2 ^ 62) (h3:-(2 ^ 62)<=hi) (h4:hi<2 ^ 62)
  (q:R (Itr lo (hi-lo).toNat) H):wpAny (model X.prog X.w) X.A (pyIter (.ref s.heap.objs.size)) (PIE X pins σ tg R) E {s with heap:=s.heap.push {cls:=.type "range",data:=.fields #[.int lo t,.int hi u,.int 1 v]},toks:=tk}:=by
 refine wpAny_pyIter_range (IsRange.new ..) (small_one h1 h2 h3 h4) ?_;have I1:Inv X pins σ H {s with heap:=s.heap.push {cls:=.type "range",data:=.fields #[.int lo t,.int hi u,.int 1 v]},toks:=tk}:=I.kept fun b o e=>Heap.get?_push_of_some _ e;refine⟨(s.heap.push {cls:=.type "range",data:=.fields #[.int lo t,.int hi u,.int 1 v]}).objs.size,[(s.heap.push {cls:=.type "range",data:=.fields #[.int lo t,.int hi u,.int 1 v]}).objs.size],_,_,H,rfl,
  I1.kept (t':=tk) fun b o e=>Heap.get?_push_of_some _ e,Ug _ lo (hi-lo).toNat,?_,fun b hb=>?_,q⟩
 ·have e1:lo+((0:Nat):Int)*1=lo:=by simp
  have e2:(((hi-lo).toNat:Nat):Int)-((0:Nat):Int)=Builtin.Range.rangeSize lo hi 1:=by rw[rangeSize_one];split<;>omega
  show IsRangeIter _ _ (lo+((0:Nat):Int)*1) ((((hi-lo).toNat:Nat):Int)-((0:Nat):Int)) 1;rw[e1,e2];exact Heap.get?_push_size _ rfl
 ·have e:b=(s.heap.push {cls:=.type "range",data:=.fields #[.int lo t,.int hi u,.int 1 v]}).objs.size:=by simpa using hb
  subst e;exact I1.fpOk %[|3] (I1.hok.fresh %[|3])
noncomputable def tFor (wi:TI) (g:TG) (tb:TS):TS:=fun D σ H=>wi σ H fun J H1=>∃ W:Nat->Nat->St->Hp->Prop,(∃ m,W 0 m σ H1)/\∀ i m σ H,W i m σ H ->
 (J.stop i H/\D.nx σ H)\/(J.go i H/\∃ N:St->Hp->Prop,(∀ σ' H',N σ' H'->∃ m',m'<m/\W (i+1) m' σ' H')/\∀ x H',J.yld i H x H'->g x σ H' fun σ2 H2=>tb {D with nx:=N,ct:=N,bk:=D.nx} σ2 H2)
noncomputable def W6 (fp:List Addr) (h:Heap):List (Addr×Obj):=fp.filterMap fun b=>(h.get? b).map fun o=>(b,o)
theorem Zb {fp:List Addr} {h:Heap} {b:Addr} {o:Obj} (hb:b∈fp) (e:h.get? b=some o):(b,o)∈W6 fp h:=List.mem_filterMap.mpr ⟨b,hb,by rw[e];rfl⟩
theorem JF {fp:List Addr} {h:Heap} {p:Addr×Obj} (hp:p∈W6 fp h):p.1∈fp/\h.get? p.1=some p.2:=by
 obtain⟨b,hb,e⟩:=List.mem_filterMap.mp hp;cases q:h.get? b with
 | none=>rw [q] at e;cases e
 | some o =>
  rw[q] at e;have e':(b,o)=p:=Option.some.inj e;subst e';exact⟨hb,q⟩
theorem Inv.pinned {pins:List (Addr×Obj)} {σ:St} {H:Hp} {s:Shared} {fp:List Addr} (I:Inv X pins σ H s) (hf:∀ b∈fp,FpOk X pins H b) (ho:∀ b∈fp,∃ o,s.heap.get? b=some o/\∀ v,o.data≠.cell v):Inv X (pins++W6 fp s.heap) σ H s :=
 I.pins_of fun p hp=>(List.mem_append.mp hp).elim (fun z=>I.pin p (List.mem_append_right _ z)) fun z=>by
  obtain⟨hb,e⟩:=JF z;obtain⟨f0,f1,f2,_⟩:=hf p.1 hb;obtain⟨o,e',d⟩:=ho p.1 hb;rw[e] at e';cases e';exact⟨e,f0,f1,f2,d⟩
theorem Inv.unpinned {pins pl:List (Addr×Obj)} {σ:St} {H:Hp} {s:Shared} (I:Inv X (pins++pl) σ H s):Inv X pins σ H s:=I.pins_of fun p hp=>I.pin p (List.mem_append_right _ (List.mem_append_left _ hp))
theorem Dt {iter:Expr} {body:List Stmt} {wi:TI} {g:TG} {tb:TS} {pos:Pos} (hp:PassesOwn (model X.prog X.w) X.A X.env X.xe) (hc:X.calm=true) (hi:PI X tg iter wi) (hg:PG X tg g) (hb:PSs X body tb)
  (hs:∀ x,foldedSetIterable iter X.env x=pure x:=by intro _;rfl):PS X (.For tg iter body [] pos) (tFor wi g tb):=by
 intro pins s σ H D I h;refine wpAny_For (thn (hi pins s σ H _ I h) fun v s1 h1=>thn h1 fun itv s2 h2=>?_) hs;obtain⟨it,fp,tn,J,H2,e,I2,T,st2,f2,W,⟨m0,w0⟩,turn⟩:=h2;subst e;have stat:∀ {H':Hp},(∀ b∈fp,H' b=none)->∀ b∈fp,FpOk X pins H' b:=fun hn b hb=>⟨hn b hb,(f2 b hb).2⟩;refine codeAny_forLoop_any (fun n s'=>∃ i σ' H',Inv X pins σ' H' s'/\tn i s'.heap/\(∀ b∈fp,H' b=none)/\W i n σ' H') ?_ m0 ⟨0,σ,H2,I2,st2,fun b hb=>(f2 b hb).1,w0⟩;rintro n s3 ⟨i,σ3,H3,I3,st3,fr3,w3⟩;rcases turn i n σ3 H3 w3 with ⟨stop,qn⟩|⟨go,N,hN,step⟩
 ·refine wpAny_passesOwn hp (thn (T.done X rfl rfl rfl hc i pins s3 σ3 H3 X.xe I3 (stat fr3) st3 stop) fun r s4 hq2=>?_)
  obtain⟨hr,I4⟩:=hq2;subst hr;exact wpAny_execs_nil ⟨σ3,H3,I4,qn⟩
 ·refine wpAny_passesOwn hp (thn (T.item X rfl rfl rfl hc i pins s3 σ3 H3 X.xe I3 (stat fr3) st3 go) fun r s4 hq2=>?_)
  obtain⟨u,hr,h4⟩:=hq2;subst hr;refine wpAny_passesOwn hp (thn h4 fun _ s5 hq2=>?_);obtain⟨x,H5,I5,r5,y5,st5,fr5⟩:=hq2;have I5':=I5.pinned (stat fr5) (T.obj _ _ st5);refine wpAny_passesOwn hp (thn (hg _ s5 σ3 H5 x u _ I5' r5 (step x H5 y5)) fun _ s6 hq2=>?_);obtain⟨σ6,H6,I6,q6⟩:=hq2;refine wpAny_passesOwn hp (thn (hb _ s6 σ6 H6 _ I6 q6) fun f s7 q7=>?_);have again:∀ {σ7:St} {H7:Hp},Inv X (pins++W6 fp s5.heap) σ7 H7 s7->N σ7 H7->∃ m,m<n/\∃ i σ' H',Inv X pins σ' H' s7/\tn i s7.heap/\(∀ b∈fp,H' b=none)/\W i m σ' H':=fun {σ7 H7} I7 n7=>by
   obtain⟨m',hm,w7⟩:=hN σ7 H7 n7;refine⟨m',hm,i+1,σ7,H7,I7.unpinned,T.keep _ _ _ st5 fun b hb o e=>(I7.pin (b,o) (List.mem_append_right _ (List.mem_append_right _ (Zb hb e)))).1,fun b hb=>?_,w7⟩;obtain⟨o,e,d⟩:=T.obj _ _ st5 b hb;exact (I7.pin (b,o) (List.mem_append_right _ (List.mem_append_right _ (Zb hb e)))).2.1
  cases f with
  | next=>obtain⟨σ7,H7,I7,n7⟩:=q7;exact again I7 n7
  | cont=>obtain⟨σ7,H7,I7,n7⟩:=q7;exact again I7 n7
  | brk=>obtain⟨σ7,H7,I7,q7⟩:=q7;exact⟨σ7,H7,I7.unpinned,q7⟩
  | ret v=>obtain⟨x7,σ7,H7,I7,r7,q7⟩:=q7;exact⟨x7,σ7,H7,I7.unpinned,r7,q7⟩
end
end L2
namespace L2
open PySem PySem.Spec PyProof.Rows
abbrev R2:=V->V->Hp->VK->Prop
noncomputable def OpR (X:Cx) (f:Value->Value->Sem Value) (r:R2):Prop :=
 ∀ (pins:List (Addr×Obj)) (s:Shared) (σ:St) (H:Hp) (x y:V) (v u:Value) (Q:VK),Inv X pins σ H s->RelV x v->RelV y u->r x y H Q ->
  wpAny (model X.prog X.w) X.A (f v u) (EP X pins σ Q) X.xe s
noncomputable def UnR (X:Cx) (f:Value->Sem Value) (r:V->Hp->VK->Prop):Prop :=
 ∀ (pins:List (Addr×Obj)) (s:Shared) (σ:St) (H:Hp) (x:V) (v:Value) (Q:VK),Inv X pins σ H s->RelV x v->r x H Q ->
  wpAny (model X.prog X.w) X.A (f v) (EP X pins σ Q) X.xe s
noncomputable def CallR (X:Cx) (f:Value) (r:List V->Hp->VK->Prop):Prop :=
 ∀ (pins:List (Addr×Obj)) (s:Shared) (σ:St) (H:Hp) (xs:List V) (us:List Value) (Q:VK),Inv X pins σ H s->Vals xs us->r xs H Q ->
  wpAny (model X.prog X.w) X.A (call f us) (EP X pins σ Q) X.xe s
noncomputable def TruR (X:Cx) (r:V->Hp->(Bool->Hp->Prop)->Prop):Prop :=
 ∀ (pins:List (Addr×Obj)) (s:Shared) (σ:St) (H:Hp) (x:V) (v:Value) (Q:Bool->Hp->Prop),Inv X pins σ H s->RelV x v->r x H Q ->
  wpAny (model X.prog X.w) X.A (truthy v) (TP X pins σ Q) X.xe s
noncomputable def tOp (r:R2) (ta tb:TE):TE:=fun σ H Q=>ta σ H fun x H1=>tb σ H1 fun y H2=>r x y H2 Q
noncomputable def tUn (r:V->Hp->VK->Prop) (ta:TE):TE:=fun σ H Q=>ta σ H fun x H1=>r x H1 Q
noncomputable def rI (C:Int->Int->Prop) (g:Int->Int->V):R2:=fun x y H Q=>∃ i j,x=.int i/\y=.int j/\C i j/\Q (g i j) H
noncomputable def rI0 (g:Int->Int->V):R2:=fun x y H Q=>∃ i j,x=.int i/\y=.int j/\Q (g i j) H
noncomputable def rU (g:Int->V):V->Hp->VK->Prop:=fun x H Q=>∃ i,x=.int i/\Q (g i) H
section
variable {X:Cx} {a b c:Expr} {ta tb tc:TE} {pos:Pos}
theorem binT (ha:PE X a ta) (hb:PE X b tb) {pins:List (Addr×Obj)} {s:Shared} {σ:St} {H:Hp} {R:V->V->Hp->Prop} (I:Inv X pins σ H s)
  (h:ta σ H fun x H1=>tb σ H1 fun y H2=>R x y H2) {Q:Value->Shared->Prop} {f:Value->Value->Sem Value}
  (hf:∀ v u s2 x y H2,Inv X pins σ H2 s2->RelV x v->RelV y u->R x y H2->wpAny (model X.prog X.w) X.A (f v u) Q X.xe s2) :
  wpAny (model X.prog X.w) X.A (eval a X.env) (fun v s₁=>wpAny (model X.prog X.w) X.A (eval b X.env) (fun u s₂=>wpAny (model X.prog X.w) X.A (f v u) Q X.xe s₂) X.xe s₁) X.xe s:=by
 refine thn (ha pins s σ H _ I h) fun v s1 hq2=>?_;obtain⟨x,H1,I1,r1,q1⟩:=hq2;refine thn (hb pins s1 σ H1 _ I1 q1) fun u s2 hq2=>?_;obtain⟨y,H2,I2,r2,q2⟩:=hq2;exact hf v u s2 x y H2 I2 r1 r2 q2
theorem Id {op:Operator} {r:R2} (ho:OpR X (binaryOp op) r) (ha:PE X a ta) (hb:PE X b tb):PE X (.BinOp a op b pos) (tOp r ta tb):=by
 intro pins s σ H Q I h;exact wpAny_BinOp (binT ha hb I h fun v u s2 x y H2 I2 rx ry q=>ho pins s2 σ H2 x y v u Q I2 rx ry q)
theorem Ib {op:UnaryOp} {r:V->Hp->VK->Prop} (ho:UnR X (unaryOp op) r) (ha:PE X a ta):PE X (.UnaryOp op a pos) (tUn r ta):=by
 intro pins s σ H Q I h;exact UnaryOp_ (thn (ha pins s σ H _ I h) (by rintro v s1 ⟨x,H1,I1,r1,q1⟩;exact ho pins s1 σ H1 x v Q I1 r1 q1))
theorem opI {f:Value->Value->Sem Value} {C:Int->Int->Prop} {g:Int->Int->Int}
  (rule:∀ (i j:Int) (t u:Tok) (s:Shared) (Q:Value->Shared->Prop) (E:Value->Shared->Prop),C i j->Q (.int (g i j) s.toks) {s with toks:=s.toks+1}->wpAny (model X.prog X.w) X.A (f (.int i t) (.int j u)) Q E s) :
  OpR X f (rI C fun i j=>.int (g i j)):=by
 intro pins s σ H x y v u Q I rx ry h;obtain⟨i,j,rfl,rfl,hc,q⟩:=h;obtain⟨t,rfl⟩:=rx;obtain⟨t',rfl⟩:=ry;exact rule i j t t' s _ _ hc ⟨.int (g i j),H,I.tok _,⟨_,rfl⟩,q⟩
theorem opI0 {f:Value->Value->Sem Value} {g:Int->Int->Int}
  (rule:∀ (i j:Int) (t u:Tok) (s:Shared) (Q:Value->Shared->Prop) (E:Value->Shared->Prop),Q (.int (g i j) s.toks) {s with toks:=s.toks+1}->wpAny (model X.prog X.w) X.A (f (.int i t) (.int j u)) Q E s) :
  OpR X f (rI0 fun i j=>.int (g i j)):=by
 intro pins s σ H x y v u Q I rx ry h;obtain⟨i,j,rfl,rfl,q⟩:=h;obtain⟨t,rfl⟩:=rx;obtain⟨t',rfl⟩:=ry;exact rule i j t t' s _ _ ⟨.int (g i j),H,I.tok _,⟨_,rfl⟩,q⟩
theorem opB0 {f:Value->Value->Sem Value} {g:Int->Int->Bool}
  (rule:∀ (i j:Int) (t u:Tok) (s:Shared) (Q:Value->Shared->Prop) (E:Value->Shared->Prop),Q (.bool (g i j)) s->wpAny (model X.prog X.w) X.A (f (.int i t) (.int j u)) Q E s) :
  OpR X f (rI0 fun i j=>.bl (g i j)):=by
 intro pins s σ H x y v u Q I rx ry h;obtain⟨i,j,rfl,rfl,q⟩:=h;obtain⟨t,rfl⟩:=rx;obtain⟨t',rfl⟩:=ry;exact rule i j t t' s _ _ ⟨.bl (g i j),H,I,rfl,q⟩
noncomputable def CPow (i j:Int):Prop:=0<=j/\j<=1000000/\i.natAbs<2 ^ 64
theorem Eb:OpR X (binaryOp .Add) (rI0 fun i j=>.int (i+j)):=opI0 fun _ _ _ _ _ _ _ q=>add_int q
theorem unI {f:Value->Sem Value} {g:Int->Int}
  (rule:∀ (i:Int) (t:Tok) (s:Shared) (Q:Value->Shared->Prop) (E:Value->Shared->Prop),Q (.int (g i) s.toks) {s with toks:=s.toks+1}->wpAny (model X.prog X.w) X.A (f (.int i t)) Q E s) :
  UnR X f (rU fun i=>.int (g i)):=by
 intro pins s σ H x v Q I rx h;obtain⟨i,rfl,q⟩:=h;obtain⟨t,rfl⟩:=rx;exact rule i t s _ _ ⟨.int (g i),H,I.tok _,⟨_,rfl⟩,q⟩
theorem D9:UnR X (unaryOp .USub) (rU fun i=>.int (-i)):=unI fun _ _ _ _ _ q=>neg_int q
end
section
variable {X:Cx} {a b c:Expr} {ta tb tc:TE} {pos:Pos}
theorem B1 {pins:List (Addr×Obj)} {σ:St} {H:Hp} {s:Shared} {Q:VK} {k k':Bool} (I:Inv X pins σ H s) (q:Q (.bl k) H) (e:k=k'):EP X pins σ Q (.bool k') s:=by
 subst e;exact⟨.bl k,H,I,rfl,q⟩
theorem Ih:OpR X (compareOp .Lt) (rI0 fun i j=>.bl (decide (i<j))):=opB0 fun _ _ _ _ _ _ _ q=>lt_int q
theorem Ii:OpR X (compareOp .LtE) (rI0 fun i j=>.bl (decide (i<=j))):=opB0 fun _ _ _ _ _ _ _ q=>le_int q
theorem Ij:OpR X (compareOp .Gt) (rI0 fun i j=>.bl (decide (j<i))):=opB0 fun _ _ _ _ _ _ _ q=>gt_int q
theorem Ik:OpR X (compareOp .GtE) (rI0 fun i j=>.bl (decide (j<=i))):=opB0 fun _ _ _ _ _ _ _ q=>ge_int q
theorem JC:OpR X (compareOp .In) (fun x y H Q=>∃ i j,x=.str i/\y=.str j/\Q (.bl (!(Builtin.Str.occurrences j i 0 j.length 1).isEmpty)) H):=by
 intro pins s σ H x y v u Q I rx ry h;obtain⟨i,j,rfl,rfl,q⟩:=h;obtain⟨t,rfl⟩:=rx;obtain⟨t',rfl⟩:=ry;exact in_str (B1 I q rfl)
theorem Vd:OpR X (compareOp .NotIn) (fun x y H Q=>∃ i j,x=.str i/\y=.str j/\Q (.bl (!(!(Builtin.Str.occurrences j i 0 j.length 1).isEmpty))) H):=by
 intro pins s σ H x y v u Q I rx ry h;obtain⟨i,j,rfl,rfl,q⟩:=h;obtain⟨t,rfl⟩:=rx;obtain⟨t',rfl⟩:=ry;exact notIn_str (B1 I q rfl)
theorem J0 {op:CmpOp} {r:R2} (ho:OpR X (compareOp op) r) (ha:PE X a ta) (hb:PE X b tb) (hm:behindInMarks op b=false):PE X (.Compare a [op] [b] pos) (tOp r ta tb):=by
 intro pins s σ H Q I h;exact wpAny_Compare1 (binT ha hb I h fun v u s2 x y H2 I2 rx ry q=>ho pins s2 σ H2 x y v u Q I2 rx ry q) hm
noncomputable def Af (t:TE):TT:=fun σ H Q=>t σ H fun x H'=>∃ k,x=.bl k/\Q k H'
theorem UW {op:CmpOp} {r:R2} (ho:OpR X (compareOp op) r) (ha:PE X a ta) (hb:PE X b tb) (hm:behindInMarks op b=false):PT X (.Compare a [op] [b] pos) (Af (tOp r ta tb)):=by
 intro pins s σ H Q I h;refine wpAny_isTrue_Compare1 (thn (ha pins s σ H _ I h) fun v s1 ⟨x,H1,I1,r1,q1⟩=>thn (hb pins s1 σ H1 _ I1 q1) fun u s2 ⟨y,H2,I2,r2,q2⟩ =>
  thn (ho pins s2 σ H2 x y v u _ I2 r1 r2 q2) fun c s3 hq2=>?_) hm
 obtain⟨z,H3,I3,r3,k,e,q3⟩:=hq2;subst e;cases r3;exact wpAny_truthy_bool ⟨H3,I3,q3⟩
noncomputable def Uo (r r':R2) (ta tb tc:TE):TE:=fun σ H Q=>ta σ H fun x H1=>tb σ H1 fun y H2=>r x y H2 fun z H3=>∃ k,z=.bl k /\
 (if k=true then tc σ H3 fun w' H4=>r' y w' H4 Q else Q (.bl false) H3)
theorem At {op op':CmpOp} {r r':R2} (ho:OpR X (compareOp op) r) (ho':OpR X (compareOp op') r') (ha:PE X a ta) (hb:PE X b tb) (hc:PE X c tc)
  (hm:lastMarks [op,op'] [b,c]=false:=by with_unfolding_all rfl):PE X (.Compare a [op,op'] [b,c] pos) (Uo r r' ta tb tc):=by
 intro pins s σ H Q I h;refine Compare_chain (thn (ha pins s σ H _ I h) fun v s1 ⟨x,H1,I1,r1,q1⟩=>chain_link (thn (hb pins s1 σ H1 _ I1 q1) fun u s2 ⟨y,H2,I2,r2,q2⟩ =>
  thn (ho pins s2 σ H2 x y v u _ I2 r1 r2 q2) fun d s3 hq2=>?_)) hm
 obtain⟨z,H3,I3,r3,k,e,q3⟩:=hq2;subst e;cases r3;refine wpAny_truthy_bool ?_;cases k with
 | false=>exact ite_ff ⟨.bl false,H3,I3,rfl,q3⟩
 | true=>exact ite_tt (chain_last (thn (hc pins s3 σ H3 _ I3 q3) (by rintro w' s4 ⟨z',H4,I4,r4,q4⟩;exact ho' pins s4 σ H4 y z' u w' Q I4 r2 r4 q4)))
theorem Ak {op op':CmpOp} {r r':R2} (ho:OpR X (compareOp op) r) (ho':OpR X (compareOp op') r') (ha:PE X a ta) (hb:PE X b tb) (hc:PE X c tc)
  (hm:lastMarks [op,op'] [b,c]=false:=by with_unfolding_all rfl):PT X (.Compare a [op,op'] [b,c] pos) (Af (Uo r r' ta tb tc)):=by
 intro pins s σ H Q I h;refine isTrue_chain (thn (ha pins s σ H _ I h) fun v s1 ⟨x,H1,I1,r1,q1⟩=>test_link (thn (hb pins s1 σ H1 _ I1 q1) fun u s2 ⟨y,H2,I2,r2,q2⟩ =>
  thn (ho pins s2 σ H2 x y v u _ I2 r1 r2 q2) fun d s3 hq2=>?_)) hm
 obtain⟨z,H3,I3,r3,k,e,q3⟩:=hq2;subst e;cases r3;refine wpAny_truthy_bool ?_;cases k with
 | false =>
  obtain⟨k',e',q'⟩:=q3;cases e';exact ite_ff ⟨H3,I3,q'⟩
 | true =>
  refine ite_tt (test_last (thn (hc pins s3 σ H3 _ I3 q3) fun w' s4 ⟨z',H4,I4,r4,q4⟩=>thn (ho' pins s4 σ H4 y z' u w' _ I4 r2 r4 q4) fun d' s5 hq2=>?_));obtain⟨z2,H5,I5,r5,k2,e2,q5⟩:=hq2;subst e2;cases r5;exact wpAny_truthy_bool ⟨H5,I5,q5⟩
noncomputable def TruV (K:Frag) (x:V) (H:Hp) (k:Bool):Prop :=
 match x with
 | .non=>k=false
 | .bl b=>k=b
 | .int i=>k=(i != 0)
 | .str y=>y.length<=sizeLine/\k=((y.length:Int) != 0)
 | .byt y=>y.size<=sizeLine/\k=((y.size:Int) != 0)
 | .ref p=>(∃ xs,SqL K H p xs/\k=!xs.isEmpty)\/(∃ xs,SqT K H p xs/\k=!xs.isEmpty)\/∃ kvs,H p=some (.dK kvs)/\k=!kvs.isEmpty
 | _=>False
theorem UD {κ:Type} {kvs:List (κ×V)} {vs:List (κ×Value)} (r:KV kvs vs):(!vs.isEmpty)=!kvs.isEmpty:=by
 cases r<;>rfl
theorem Wd {xs:List V} {its:List Value} (r:Vals xs its):(!its.toArray.isEmpty)=!xs.isEmpty:=by
 cases r<;>simp
theorem ZZ:(sizeLine:Nat)<2 ^ 63:=by rw[sizeLine_eq];decide
theorem Db:TruR X (fun x H Q=>∃ k,TruV X.K x H k/\Q k H):=by
 intro pins s σ H x v Q I rx h;obtain⟨k,e,q⟩:=h;have hl:=ZZ;have hs:sizeLine=16777216:=sizeLine_eq;cases x with
 | non =>
  cases rx;have e':k=false:=e;subst e';exact truthy_none ⟨H,I,q⟩
 | bl b =>
  cases rx;have e':k=b:=e;subst e';exact wpAny_truthy_bool ⟨H,I,q⟩
 | int i =>
  obtain⟨t,rfl⟩:=rx;have e':k=(i != 0):=e;subst e';exact PySem.P.truthy_int ⟨H,I,q⟩
 | str y =>
  obtain⟨t,rfl⟩:=rx;obtain⟨hy,e'⟩:y.length<=sizeLine/\k=((y.length:Int) != 0):=e;subst e';exact PySem.P.truthy_str (by omega) ⟨H,I.tok _,q⟩
 | byt y =>
  obtain⟨t,rfl⟩:=rx;obtain⟨hy,e'⟩:y.size<=sizeLine/\k=((y.size:Int) != 0):=e;subst e';exact PySem.W.truthy_bytes (by omega) ⟨H,I.tok _,q⟩
 | ref p =>
  cases rx;have e':(∃ xs,SqL X.K H p xs/\k=!xs.isEmpty)\/(∃ xs,SqT X.K H p xs/\k=!xs.isEmpty)\/∃ kvs,H p=some (.dK kvs)/\k=!kvs.isEmpty:=e;rcases e' with ⟨xs,hx,e'⟩|⟨xs,hx,e'⟩|⟨kvs,hx,e'⟩
  ·subst e'
   obtain⟨its,r,pl,hz⟩:=I.list hx;have hlen:=r.length;exact wpAny_truthy_list pl.isList (by simp only[List.size_toArray];omega) ⟨H,I.tok _,by rw[Wd r];exact q⟩
  ·subst e'
   obtain⟨its,r,pl,hz⟩:=I.tuple hx;have hlen:=r.length;exact truthy_tuple pl (by simp only[List.size_toArray];omega) ⟨H,I.tok _,by rw[Wd r];exact q⟩
  ·subst e'
   obtain⟨hz,hS,vs,r,m⟩:kvs.length<=sizeLine/\(p==sysModules)=false/\∃ vs,KV kvs vs/\s.heap.DictOf (Vf X.prog X.w) p vs:=I.hok p _ hx;have hlen:kvs.length=vs.length:=Paired.length r;exact wpAny_truthy_dict hS m (by omega) ⟨H,I.tok _,by rw[UD r];exact q⟩
 | _=>exact (show False from e).elim
theorem Aj (ha:PE X a ta) (he:∀ whole,isTrue a X.env whole=(do let v <- whole;standAt a.pos;holding [v] (truthy v))) :
  PT X a (fun σ H Q=>ta σ H fun x H'=>∃ k,TruV X.K x H' k/\Q k H'):=by
 intro pins s σ H Q I h;exact isTrue_plain (thn (ha pins s σ H _ I h) (by rintro v s1 ⟨x,H1,I1,r1,q1⟩;exact Db pins s1 σ H1 x v Q I1 r1 q1)) (he _)
theorem Uy:OpR X (binaryOp .Add) (fun x y H Q=>∃ i j,x=.str i/\y=.str j/\i.length+j.length<=sizeLine/\Q (.str (i++j)) H):=by
 intro pins s σ H x y v u Q I rx ry h;obtain⟨i,j,rfl,rfl,hz,q⟩:=h;obtain⟨t,rfl⟩:=rx;obtain⟨t',rfl⟩:=ry;exact add_str (fun t' tk=>⟨.str (i++j),H,I.tok _,⟨_,rfl⟩,q⟩) hz
theorem XC {x:V} {us:List Value} (r:Vals [x] us):∃ u,us=[u]/\RelV x u:=by
 cases r with
 | cons r1 r2=>cases r2;exact⟨_,rfl,r1⟩
theorem XB {x y:V} {us:List Value} (r:Vals [x,y] us):∃ u w',us=[u,w']/\RelV x u/\RelV y w':=by
 cases r with
 | cons r1 r2 =>
  cases r2 with
  | cons r3 r4=>cases r4;exact⟨_,_,rfl,r1,r3⟩
theorem Bu:CallR X (.builtin "abs") (fun xs H Q=>∃ i,xs=[.int i]/\Q (.int (if i<0 then -i else i)) H):=by
 intro pins s σ H xs us Q I r h;obtain⟨i,rfl,q⟩:=h;obtain⟨u,rfl,t,rfl⟩:=XC r;exact call_abs_int fun u tk=>⟨.int (if i<0 then -i else i),H,I.tok _,⟨_,rfl⟩,q⟩
theorem A1 (hc:X.calm=true):CallR X (.builtin "max") (fun xs H Q=>∃ i j,xs=[.int i,.int j]/\Q (.int (if j > i then j else i)) H):=by
 intro pins s σ H xs us Q I r h;obtain⟨i,j,rfl,q⟩:=h;obtain⟨u,w',rfl,⟨t,rfl⟩,⟨t',rfl⟩⟩:=XB r;refine max_two_ints (I.ok.hd hc) fun h' tk k=>⟨_,H,I.kept k,?_,q⟩;by_cases hj:j > i
 ·rw[if_pos hj,if_pos hj];exact⟨_,rfl⟩
 ·rw[if_neg hj,if_neg hj];exact⟨_,rfl⟩
theorem A0 (hc:X.calm=true):CallR X (.builtin "min") (fun xs H Q=>∃ i j,xs=[.int i,.int j]/\Q (.int (if j<i then j else i)) H):=by
 intro pins s σ H xs us Q I r h;obtain⟨i,j,rfl,q⟩:=h;obtain⟨u,w',rfl,⟨t,rfl⟩,⟨t',rfl⟩⟩:=XB r;refine min_two_ints (I.ok.hd hc) fun h' tk k=>⟨_,H,I.kept k,?_,q⟩;by_cases hj:j<i
 ·rw[if_pos hj,if_pos hj];exact⟨_,rfl⟩
 ·rw[if_neg hj,if_neg hj];exact⟨_,rfl⟩
theorem Vp:CallR X (.type "str") (fun xs H Q=>∃ i,xs=[.int i]/\i.natAbs.log2<1920/\Q (.str (toString i)) H):=by
 intro pins s σ H xs us Q I r h;obtain⟨i,rfl,hz,q⟩:=h;obtain⟨u,rfl,t,rfl⟩:=XC r;exact PySem.P.str_of_int hz ⟨.str _,H,I.tok _,⟨_,rfl⟩,q⟩
end
end L2
namespace L2
open PySem PySem.Spec PyProof.Rows
section
variable {prog:Program} {w:World} {A:Around} {E:Value->Shared->Prop} {s:Shared} {K:Frag} {x dx C f:Addr} {mA:Str->Option Value} {name:Str} {v:Value}
end
section
variable {P:Program} {w:World} {H H':Hp} {h h':Heap} {a C dx:Addr} {fs fs':List (Str×V)}
end
structure Meth (K:Frag) (C:Addr) (m:Str) (f:Addr):Prop where
 at_:PySem.W.findIn K (.ref C) m=some (some (.ref f))
 fn:PySem.W.isFn K (.ref f)=true
 kp:PySem.W.keepIn K (.ref f)=true
section
variable {X:Cx} {pins:List (Addr×Obj)} {σ:St} {H:Hp} {s:Shared} {a C dx:Addr} {fs:List (Str×V)} {f:Str} {v:V} {A:Around} {E:Value->Shared->Prop}
end
section
variable {X:Cx} {o e value:Expr} {f:Str} {pos pos' tpos:Pos} {ta tv:TE}
end
section
variable {X:Cx} {pins:List (Addr×Obj)} {σ:St} {H:Hp} {s:Shared} {A:Around} {E:Value->Shared->Prop} {Q:Value->Shared->Prop} {c:Value} {b:Bool}
end
end L2
namespace L2
open PySem PySem.Spec PyProof.Rows
structure Room (k:Nat) (A:Around):Prop where
 hd:A.handled=none
 dp:A.depth+3*k+5<recursionLimit
 un:A.units+16*k+200<cLine
theorem Room.mono {j k:Nat} {A:Around} (r:Room k A) (h:j<=k):Room j A:=⟨r.hd,by have:=r.dp;omega,by have:=r.un;omega⟩
theorem Room.deeper {k:Nat} {A:Around} (r:Room (k+1) A) (env:Env):Room k (A.deeper env) :=
 ⟨r.hd,by have:=r.dp;show A.depth+1+3*k+5 < _;omega,by have:=r.un;show A.units+3+16*k+200 < _;omega⟩
theorem Room.depth {k:Nat} {A:Around} (r:Room k A):A.depth<recursionLimit:=by have:=r.dp;omega
noncomputable def tNil:TA:=fun _ H Q=>Q [] H
noncomputable def Hc (ta:TE) (tr:TA):TA:=fun σ H Q=>ta σ H fun x H1=>tr σ H1 fun xs H2=>Q (x::xs) H2
section
variable {X:Cx} {e:Expr} {es:List Expr} {te:TE} {t:TA} {pos:Pos}
theorem DR:PA X [] tNil:=fun _ _ _ _ H Q I h=>Calls.spliced_nil ⟨[],H,I,.nil,h⟩
theorem BQ (ha:PE X e te) (hr:PA X es t) (hs:starEach (e::es) X.env=(false,eval e X.env)::starEach es X.env:=by rfl):PA X (e::es) (Hc te t):=by
 intro pos pins s σ H Q I h;rw[hs];show wpAny _ _ (spliced ((false,eval e X.env)::backTo pos (starEach es X.env))) _ _ s;refine Calls.spliced_cons (thn (ha pins s σ H _ I h) fun u s1 hq2=>?_);obtain⟨x,H1,I1,r1,q1⟩:=hq2;exact thn (hr pos pins s1 σ H1 _ I1 q1) (by rintro us s2 ⟨xs,H2,I2,r2,q2⟩;exact⟨x::xs,H2,I2,.cons r1 r2,q2⟩)
noncomputable def tTup (t:TA):TE:=fun σ H Q=>t σ H fun xs H1=>xs.length<=sizeLine/\∀ p,H1 p=none->Q (.ref p) (upd H1 p (.tup xs))
noncomputable def tLst (t:TA):TE:=fun σ H Q=>t σ H fun xs H1=>xs.length<=sizeLine/\∀ p,H1 p=none->Q (.ref p) (upd H1 p (.lst xs))
theorem Dz {x1} (h:PA X es t):PE X (.Tuple es x1 pos) (tTup t):=by
 intro pins s σ H Q I hq;refine wpAny_Tuple_spliced (thn (h pos pins s σ H _ I hq) fun us s1 ⟨xs,H1,I1,r,z,q⟩=>⟨by rw[<- r.length];exact z,?_⟩);have hf:H1 s1.heap.objs.size=none:=I1.hok.fresh %[|3];refine⟨.ref s1.heap.objs.size,upd H1 s1.heap.objs.size (.tup xs),I1.laid (t':=s1.toks) (fun b u e=>Heap.get?_push_of_some _ e) %[|3] ?_,rfl,q _ hf⟩;exact⟨z,us,r,⟨_,Heap.get?_push_size _ rfl,rfl,_,rfl⟩⟩
theorem DN (h:PA X es t):PE X (.List es pos) (tLst t):=by
 intro pins s σ H Q I hq;refine wpAny_List_spliced (thn (h pos pins s σ H _ I hq) fun us s1 ⟨xs,H1,I1,r,z,q⟩=>⟨by rw[<- r.length];exact z,?_⟩);have hf:H1 s1.heap.objs.size=none:=I1.hok.fresh %[|3];refine⟨.ref s1.heap.objs.size,upd H1 s1.heap.objs.size (.lst xs),I1.laid (t':=s1.toks) (fun b u e=>Heap.get?_push_of_some _ e) %[|3] ?_,rfl,q _ hf⟩;exact⟨z,us,0,r,Heap.get?_push_size _ rfl⟩
end
abbrev Sp:=List V->Hp->VK->XK->Prop
abbrev CXT:=List Env->Hp->Shared->XK->Value->Shared->Prop
structure Env0 (P:Program) (w:World) (K:Frag) (mg:Str->Option Value) (base:Heap) (A:Around) (outer:List Env) (s:Shared) (H:Hp):Prop where
 frames:A.frames=some outer
 mod:Mod K mg base
 bs:∀ b o,base.get? b=some o->s.heap.get? b=some o/\H b=none
 bsz:base.objs.size<=s.heap.objs.size
 funs:s.heap.FunFrames base outer
 frf:∀ b∈frs outer,H b=none
 hok:HOk P w H s.heap
 bare:AllBare s.gens
noncomputable def CE (outer:List Env) (P:Program) (w:World) (H:Hp) (s:Shared) (Q:VK) (u:Value) (s':Shared):Prop :=
 ∃ v H',s'.os=s.os/\AllBare s'.gens/\Un (frs outer) [] H H' s.heap s'.heap/\HOk P w H' s'.heap/\RelV v u/\Q v H'
noncomputable def CR (CX:CXT) (outer:List Env) (P:Program) (w:World) (H:Hp) (s:Shared) (Q:VK) (E:XK) (r:Result) (s':Shared):Prop :=
 match r with
 | .ok (.ret u)=>CE outer P w H s Q u s'
 | .ok _=>False
 | .error e=>CX outer H s E e s'
structure FnOk (P:Program) (w:World) (K:Frag) (mg:Str->Option Value) (base:Heap) (CX:CXT) (k:Nat) (f:Addr) (fd:FuncData) (ps:List Str) (sp:Sp):Prop where
 len:∀ vs H Q E,sp vs H Q E->vs.length=ps.length
 run:∀ (A:Around) (outer:List Env) (s:Shared) (H:Hp) (args:Args) (us:List Value) (vs:List V) (Q:VK) (E:XK),Room k A->Env0 P w K mg base A outer s H->BindsTo s fd args (ps.zip us)->Vals vs us->sp vs H Q E ->
  codeAny (model P w) A (.call (.ref f) args) (CR CX outer P w H s Q E) s
theorem FnOk.mono {P:Program} {w:World} {K:Frag} {mg:Str->Option Value} {base:Heap} {CX:CXT} {j k:Nat} {f:Addr} {fd:FuncData} {ps:List Str} {sp:Sp} (F:FnOk P w K mg base CX j f fd ps sp) (h:j<=k) :
  FnOk P w K mg base CX k f fd ps sp:=⟨F.len,fun A outer s H args us vs Q E hr=>F.run A outer s H args us vs Q E (hr.mono h)⟩
section
variable {X:Cx} {pins:List (Addr×Obj)} {σ:St} {H:Hp} {s s':Shared}
theorem Inv.env0 (I:Inv X pins σ H s):Env0 X.prog X.w X.K X.mg X.base X.A X.stack s H :=
 ⟨I.ok.frames,I.ok.mod,I.bs,Nat.le_trans I.ok.bsz I.sz,I.stack,I.stkFree,I.hok,I.bare⟩
theorem Inv.after {Q:VK} {u:Value} (I:Inv X pins σ H s) (h:CE X.stack X.prog X.w H s Q u s'):EP X pins σ Q u s':=by
 obtain⟨v,H',os,bare,un,hok,r,q⟩:=h;obtain⟨hh,g,d,t,os'⟩:=s';obtain rfl:os'=s.os:=os;exact⟨v,H',I.call (h':=hh) (g':=g) (d':=d) (t':=t) (ch:=[]) un hok bare (fun b z=>absurd z (by simp)),r,q⟩
end
noncomputable def Binds (K:Frag) (fd:FuncData) (ps:List Str) (ds:List Value):Prop :=
 ∀ (s:Shared) (us:List Value),K.In s.heap->(us++ds).length=ps.length->BindsTo s fd ⟨us,[]⟩ (ps.zip (us++ds))
theorem Binds.all {K:Frag} {fd:FuncData} {ps:List Str} (h:∀ us:List Value,us.length=ps.length->bindArgs fd ⟨us,[]⟩=pure (ps.zip us)):Binds K fd ps []:=fun s us _ hl=>by
 rw[List.append_nil] at hl ⊢;exact .of_eq (h us hl)
section
variable {X:Cx} {CX:CXT} {k:Nat} {f C:Addr} {fd:FuncData} {ps:List Str} {sp:Sp} {dvs:List V} {ds:List Value} {E:XK} {x m:Str} {p pos apos:Pos} {e o:Expr} {es:List Expr} {ta:TE} {t:TA}
structure Mk (K:Frag) (C f:Addr):Prop where
 makes:PySem.W.makesIn K C=true
 init:PySem.W.findIn K (.ref C) "__init__"=some (some (.ref f))
 fn:PySem.W.isFn K (.ref f)=true
 kp:PySem.W.keepIn K (.ref C)=true
end
section
variable {X:Cx} {CX:CXT} {k:Nat} {f C:Addr} {fd:FuncData} {ps ks:List Str} {sp:Sp} {E:XK} {x m:Str} {p pos apos kpos:Pos} {e o:Expr} {es:List Expr} {kws:List Keyword} {te ta:TE} {t tk:TA} {nm:Option Str}
variable {g:List Value->List Value->List Value} {gV:List V->List V->List V}
end
structure FnScope (N P:List Str) (sc:Scope):Prop where
 kind:sc.kind=.function
 co:sc.isCoroutine=false
 gen:sc.isGenerator=false
 nd:N.Nodup
 pre:N.take P.length=P
 par:∀ x∈P,sc.names.lookup x=some .local\/sc.names.lookup x=some .cell
 nofree:∀ y∈sc.names,y.2≠.free
theorem WY {kindOf:Str->Option NameKind} {x:Str}:∀ {binds:List (Str×Value)} {m:Str->Option Value},(∀ v,(x,v) ∉ binds)->bindL kindOf binds m x=m x
 | [],_,_=>rfl
 | (n,v)::r,m,h=>by
  unfold bindL;rw[WY fun w hw=>h w (List.mem_cons_of_mem _ hw)];split
  ·have:x≠n:=by rintro rfl;exact h v List.mem_cons_self
   simp[this]
  ·rfl
theorem V1 {kindOf:Str->Option NameKind} {x:Str}:∀ {binds:List (Str×Value)} {m:Str->Option Value},(∀ v,(x,v) ∉ binds)->bindC kindOf binds m x=m x
 | [],_,_=>rfl
 | (n,v)::r,m,h=>by
  unfold bindC;rw[V1 fun w hw=>h w (List.mem_cons_of_mem _ hw)];split
  ·rfl
  ·have:x≠n:=by rintro rfl;exact h v List.mem_cons_self
   simp[this]
theorem WZ {kindOf:Str->Option NameKind} {x:Str} {v:Value}:∀ {P:List Str} {vs:List Value} {i:Nat} {m:Str->Option Value},P.Nodup->P[i]?=some x->vs[i]?=some v->kindOf x=some .local ->
  bindL kindOf (P.zip vs) m x=some v
 | [],_,_,_,_,h,_,_=>by simp at h
 | _::_,[],_,_,_,_,h,_=>by simp at h
 | p::P,w::vs,0,m,nd,h1,h2,hk=>by
  simp at h1 h2;subst h1;subst h2;show bindL kindOf ((p,w)::P.zip vs) m p=_;unfold bindL;rw[WY fun v hv=>(List.nodup_cons.mp nd).1 (List.of_mem_zip hv).1,if_pos hk];simp
 | p::P,w::vs,i+1,m,nd,h1,h2,hk=>by
  show bindL kindOf ((p,w)::P.zip vs) m x=_;unfold bindL;exact WZ (i:=i) (List.nodup_cons.mp nd).2 (by simpa using h1) (by simpa using h2) hk
theorem V2 {kindOf:Str->Option NameKind} {x:Str} {v:Value}:∀ {P:List Str} {vs:List Value} {i:Nat} {m:Str->Option Value},P.Nodup->P[i]?=some x->vs[i]?=some v->kindOf x≠some .local ->
  bindC kindOf (P.zip vs) m x=some v
 | [],_,_,_,_,h,_,_=>by simp at h
 | _::_,[],_,_,_,_,h,_=>by simp at h
 | p::P,w::vs,0,m,nd,h1,h2,hk=>by
  simp at h1 h2;subst h1;subst h2;show bindC kindOf ((p,w)::P.zip vs) m p=_;unfold bindC;rw[V1 fun v hv=>(List.nodup_cons.mp nd).1 (List.of_mem_zip hv).1,if_neg hk];simp
 | p::P,w::vs,i+1,m,nd,h1,h2,hk=>by
  show bindC kindOf ((p,w)::P.zip vs) m x=_;unfold bindC;exact V2 (i:=i) (List.nodup_cons.mp nd).2 (by simpa using h1) (by simpa using h2) hk
noncomputable def start (N:List Str) (vs:List V):St:=vs.map some++List.replicate (N.length-vs.length) none
noncomputable def cxOf (CX:CXT) (P:Program) (w:World) (K:Frag) (mg:Str->Option Value) (base:Heap) (N:List Str) (qual:Str) (scope:Scope) (f:Addr) (cd:Value) (A:Around) (outer:List Env) (s:Shared) (H:Hp) (E:XK):Cx where
 prog:=P
 w:=w
 K:=K
 mg:=mg
 base:=base
 A:=A.deeper (envOfC qual scope s.heap.objs.size f cd)
 N:=N
 s₀:=s
 H₀:=H
 env:=envOfC qual scope s.heap.objs.size f cd
 outer:=outer
 stack:=envOfC qual scope s.heap.objs.size f cd::outer
 ex:=[]
 calm:=true
 fn:=fun _=>true
 pn:=[]
 xe:=fun e s'=>wpAny (model P w) (A.deeper (envOfC qual scope s.heap.objs.size f cd)) (leaving (envOfC qual scope s.heap.objs.size f cd) e) (fun _ s''=>CX outer H s E e s'') (fun e' s''=>CX outer H s E e' s'') s'
theorem Ud {sc:Scope} {n:Nat} {x:Str} (h:sc.names.lookup x=some .cell):∃ c,(cellsFrom n sc.names []).lookup x=some c:=by
 have q:=PySem.W.cellsFrom_some sc.names n [] (.inl h);exact Option.isSome_iff_exists.mp q
theorem JM {CX:CXT} {P:Program} {w:World} {K:Frag} {mg:Str->Option Value} {base:Heap} {N ps:List Str} {qual:Str} {scope:Scope} {f:Addr} {cd:Value} {A:Around} {outer:List Env} {s s1:Shared} {H:Hp} {E:XK} {us:List Value} {vs:List V}
  (S:FnScope N ps scope) (hd:A.handled=none) (e0:Env0 P w K mg base A outer s H) (hl:vs.length=ps.length) (r:Vals vs us)
  (x:InCallC s s.heap.objs.size (bindL (envOfC qual scope s.heap.objs.size f cd).kindOf (ps.zip us) fun _=>none) (cellsFrom (s.heap.objs.size+1) scope.names []) (bindC (envOfC qual scope s.heap.objs.size f cd).kindOf (ps.zip us) fun _=>none) s1) :
  Inv (cxOf CX P w K mg base N qual scope f cd A outer s H E) [] (start N vs) H s1:=by
 have hpl:ps.length<=N.length:=by have:=congrArg List.length S.pre;rw[List.length_take] at this;omega
 obtain⟨h1,tk,rfl,hk⟩:=x.done;have noA:∀ b:Addr,b ∉ (cxOf CX P w K mg base N qual scope f cd A outer s H E).ex:=fun b z=>absurd (show b∈([]:List Addr) from z) (by simp);refine⟨⟨e0.mod,S.kind,rfl,rfl,Nat.le_refl _,fun y z c h1 h2=>?_,fun y hy=>?_,fun y c _ h=>?_,fun _=>hd,Around.frames_deeper e0.frames,.inr ⟨rfl,rfl⟩,fun b z=>absurd z (noA b),e0.bs,e0.bsz,fun b _ _=>noA b,fun b z=>absurd z (noA b),e0.funs,e0.frf⟩,
  rfl,e0.bare,Un.kept hk,⟨_,x.toInCall.ns,fun i y v h1 h2 h3=>?_⟩,fun y c h=>⟨_,x.cell y c h⟩,e0.hok.fresh %[|3],fun y c h=>?_,fun p hp=>absurd (show p∈([]:List (Addr×Obj)) from hp) (by simp),e0.hok.kept hk,?_⟩
 ·exact name_of_addr x.apart (PySem.mem_of_lookup h1) (PySem.mem_of_lookup h2)
 ·have hy:scope.names.lookup y=some .cell\/scope.names.lookup y=some .free:=hy
  rcases hy with hy|hy
  ·exact Ud hy
  ·exact absurd rfl (S.nofree _ (PySem.mem_of_lookup hy))
 ·exact Nat.le_of_lt (x.above y c (PySem.mem_of_lookup h))
 ·have hi:i<vs.length:=by
   unfold start at h2;by_cases hi:i<vs.length
   ·exact hi
   ·rw[List.getElem?_append_right (by simpa using hi)] at h2
    rw[List.getElem?_replicate] at h2;split at h2<;>cases h2
  have ha:vs[i]?=some v:=by
   unfold start at h2;rw[List.getElem?_append_left (by simpa using hi),List.getElem?_map] at h2;cases e:vs[i]? with
   | none=>rw [e] at h2;cases h2
   | some a=>rw [e] at h2;cases h2;rfl
  obtain⟨u,hu,rv⟩:=r.get ha;have hp:ps[i]?=some y:=by
   rw[<- S.pre,List.getElem?_take_of_lt (by omega)];exact h1
  have ndP:ps.Nodup:=by rw[<- S.pre];exact S.nd.sublist (List.take_sublist _ _)
  refine⟨u,rv,?_⟩;rcases S.par y (List.mem_of_getElem? hp) with k|k
  ·exact .inl ⟨k,WZ ndP hp hu k⟩
  ·obtain⟨c,e⟩:=Ud (n:=s.heap.objs.size+1) k
   refine .inr ⟨.inl k,c,e,?_⟩;have q:=x.cell y c e;rw[V2 ndP hp hu (by show scope.names.lookup y≠_;rw[k];decide)] at q;exact q
 ·exact e0.hok.fresh (Nat.le_of_lt (x.above y c (PySem.mem_of_lookup h)))
 ·unfold start
  show _=N.length;rw[List.length_append,List.length_map,List.length_replicate];omega
theorem IE {CX:CXT} {P:Program} {w:World} {K:Frag} {mg:Str->Option Value} {base:Heap} {k:Nat} {f:Addr} {name qual:Str} {params:Arguments} {body:List Stmt} {scope:Scope} {dV kV doc pm cdv ct oc:Value} {an od:Option Addr}
  {osl:Array (Option Value)} {N ps:List Str} {sp:Sp} (lk:K.lookup f=some ⟨oc,od,.func (PySem.W.fnOf name qual params body scope dV kV doc pm an cdv ct),osl⟩) (hcd:PySem.W.codeIn K cdv qual=true) (S:FnScope N ps scope)
  (len:∀ vs H Q E,sp vs H Q E->vs.length=ps.length)
  (hbody:∀ (A:Around) (outer:List Env) (s:Shared) (H:Hp) (vs:List V) (Q:VK) (E:XK),Room k (A.deeper (envOfC qual scope s.heap.objs.size f cdv))->sp vs H Q E ->
   ∃ t,PSs (cxOf CX P w K mg base N qual scope f cdv A outer s H E) body t/\t {nx:=fun _ H'=>Q .non H',rt:=Q} (start N vs) H) :
  FnOk P w K mg base CX (k+1) f (PySem.W.fnOf name qual params body scope dV kV doc pm an cdv ct) ps sp:=by
 refine⟨len,fun A outer s H args us vs Q E hr e0 hb r hsp=>?_⟩;have hl:=len _ _ _ _ hsp;have KX:K.In s.heap:=e0.mod.kin.keeps fun b o e=>(e0.bs b o e).1;have lim:s.heap.NoLimit:=e0.mod.nolimit.keeps fun b o e=>(e0.bs b o e).1;have hkind:∀ y∈ps.zip us,scope.names.lookup y.1=some .local\/(scope.names.lookup y.1=some .cell/\((cellsFrom (s.heap.objs.size+1) scope.names []).lookup y.1).isSome=true):=fun ⟨n,v⟩ hy=>by
  rcases S.par n (List.of_mem_zip hy).1 with q|q
  ·exact .inl q
  ·exact .inr ⟨q,PySem.W.cellsFrom_some _ _ _ (.inl q)⟩
 refine codeAny_call_function hr.depth (KX _ _ lk) rfl S.co S.gen rfl (PySem.W.codeRec_of KX hcd) (hb _ _ _ _ ?_);refine wpAny_newFunctionEnv_cells S.kind hkind fun env he s1 x=>?_;subst he;refine⟨lim.keeps x.toInCall.keep,codeAny_func ?_⟩;obtain⟨t,ht,hq⟩:=hbody A outer s H vs Q E (hr.deeper _) hsp;have I:Inv (cxOf CX P w K mg base N qual scope f cdv A outer s H E) [] (start N vs) H s1:=JM S hr.hd e0 hl r x;refine wpAny_mono (ht [] s1 (start N vs) H _ I hq) (fun fl s' hs=>?_) fun e s' hs=>hs;have fin:∀ {σ':St} {H':Hp} {v:V} {u:Value},Inv (cxOf CX P w K mg base N qual scope f cdv A outer s H E) [] σ' H' s'->RelV v u->Q v H'->CE outer P w H s Q u s' :=
  fun {σ' H' v u} J rv q=>⟨v,H',J.os,J.bare,J.base,J.hok,rv,q⟩
 cases fl with
 | ret u =>
  obtain⟨v,σ',H',J,rv,q⟩:=hs;exact fin J rv q
 | next =>
  obtain⟨σ',H',J,q⟩:=hs;exact fin (v:=V.non) (u:=Value.none) J rfl q
 | brk =>
  obtain⟨_,_,_,q⟩:=hs;exact False.elim q
 | cont =>
  obtain⟨_,_,_,q⟩:=hs;exact False.elim q
end L2
namespace L2
open PySem PySem.Spec PyProof.Rows
section
variable {X:Cx} {x:Str} {p pos:Pos} {e:Expr} {es:List Expr} {t:TA} {id T:String} {r:List V->Hp->VK->Prop}
noncomputable def tCB (r:List V->Hp->VK->Prop) (t:TA):TE:=fun σ H Q=>t σ H fun vs H1=>r vs H1 Q
theorem YX (hc:CallR X (.builtin id) r) (hg:Gl X x) (hm:X.mg x=none) (hv:bootBuiltins x=some (.builtin id)) (ha:PA X (e::es) t) (hn:x≠"__name__":=by decide) (hdb:(x==("__debug__":Str))=false:=by decide)
  (he:starEach (e::es) X.env=(false,eval e X.env)::starEach es X.env:=by rfl) (hpl:(backTo pos (starEach es X.env)).any (·.1)=false:=by rfl):PE X (.Call (.Name x p) (e::es) [] pos) (tCB r t):=by
 intro pins s σ H Q I h;refine wpAny_Call_Name_kw (ZL I hg hm hv ?_ hn hdb);exact PyProof.Rows.callWith_builtin1 (thn (ha pos pins s σ H _ I h) (by rintro us s1 ⟨vs,H1,I1,r1,q1⟩;exact hc pins s1 σ H1 vs us Q I1 r1 q1)) he hpl
theorem Xs (hc:CallR X (.type T) r) (hg:Gl X x) (hm:X.mg x=none) (hv:bootBuiltins x=some (.type T)) (ha:PA X (e::es) t) (hn:x≠"__name__":=by decide) (hdb:(x==("__debug__":Str))=false:=by decide)
  (he:starEach (e::es) X.env=(false,eval e X.env)::starEach es X.env:=by rfl) (hpl:(backTo pos (starEach es X.env)).any (·.1)=false:=by rfl):PE X (.Call (.Name x p) (e::es) [] pos) (tCB r t):=by
 intro pins s σ H Q I h;refine wpAny_Call_Name_kw (ZL I hg hm hv ?_ hn hdb);exact PyProof.Rows.callWith_type1 (thn (ha pos pins s σ H _ I h) (by rintro us s1 ⟨vs,H1,I1,r1,q1⟩;exact hc pins s1 σ H1 vs us Q I1 r1 q1)) he hpl
end
end L2
namespace HT
open PySem PyProof.Rows
section
open PySem.SeqAt
open PySem.AutoSeq1 (wpAny_loadPart')
open PySem.MeetsSeq PySem.MeetsSeq2 PySem.MeetsSeq3
end
section
variable {prog:Program} {w:World} {A:Around} {E:Value->Shared->Prop} {s:Shared}
theorem cat_tup {t b:Addr} {vs ws:List Value} {Q:Value->Shared->Prop} (ht:IsTup s.heap t vs.toArray) (hb:IsTup s.heap b ws.toArray) (hv:vs≠[])
  (h1:ws=[]->Q (.ref t) s) (h2:ws≠[]->Q (.ref s.heap.objs.size) {s with heap:=s.heap.push {cls:=.type "tuple",data:=.seq (vs++ws).toArray}})
  (hsz:vs.length+ws.length<=sizeLine):wpAny (model prog w) A (binaryOp .Add (.ref t) (.ref b)) Q E s:=by
 obtain⟨⟨cls,dd,data,sl⟩,ho,hc,n,hd⟩:=id ht;obtain⟨⟨cls2,dd2,data2,sl2⟩,ho2,hc2,n2,hd2⟩:=id hb;simp only at hc hd hc2 hd2;subst hc hd hc2 hd2;have e:vs.toArray++ws.toArray=(vs++ws).toArray:=by simp
 by_cases hw:ws=[]
 ·exact concat_meets ⟨_,ho,rfl⟩ ⟨_,ho2,rfl⟩ noFill_tuple_add seq_tuple_add PySem.F.slot_tuple_add PySem.F.entry_tuple_add (PySem.F.args_tuple_add_2 _ _)
   (tuple_addW1 t b vs.toArray ws.toArray n n2 dd dd2 sl sl2 (by simpa using hv) (by simp[hw])) ⟨ho,ho2,h1 hw⟩
 ·refine concat_meets ⟨_,ho,rfl⟩ ⟨_,ho2,rfl⟩ noFill_tuple_add seq_tuple_add PySem.F.slot_tuple_add PySem.F.entry_tuple_add (PySem.F.args_tuple_add_2 _ _)
   (tuple_addW2 t b vs.toArray ws.toArray n n2 dd dd2 sl sl2 (by simpa using hv) (by simpa using hw) (by rw[List.size_toArray,List.size_toArray];exact hsz)) ⟨ho,ho2,?_⟩
  rw[e];exact h2 hw
noncomputable def sIx (n d:Nat):Option Int->Nat
 | none=>d
 | some v=>if v<0 then (v+(n:Int)).toNat else min v.toNat n
theorem sIx_none (n d:Nat):sIx n d none=d:=rfl
theorem sIx_nat (n d k:Nat):sIx n d (some (k:Int))=min k n:=by
 show (if (k:Int)<0 then ((k:Int)+(n:Int)).toNat else min (k:Int).toNat n)=min k n;rw[if_neg (by omega),Int.toNat_natCast]
theorem Di (n d:Nat) (hd:d<=n) (o:Option Int):sIx n d o<=n:=by
 cases o with
 | none=>exact hd
 | some v =>
  show (if v<0 then (v+(n:Int)).toNat else min v.toNat n)<=n;by_cases hv:v<0
  ·rw[if_pos hv];omega
  ·rw[if_neg hv];exact Nat.min_le_right _ _
theorem Jl (v:Int) (n d:Nat):(if v<0 then max (v+(n:Int)) 0 else min v (n:Int))=((sIx n d (some v):Nat):Int):=by
 show (if v<0 then max (v+(n:Int)) 0 else min v (n:Int))=(((if v<0 then (v+(n:Int)).toNat else min v.toNat n):Nat):Int);by_cases hv:v<0
 ·simp only[if_pos hv];omega
 ·simp only[if_neg hv];omega
theorem UP (lo hi:Option Int) (n:Nat):Builtin.Slice.sliceAdjust lo hi 1 (n:Int)=(((sIx n 0 lo:Nat):Int),((sIx n n hi:Nat):Int)):=by
 have h1:¬ ((1:Int)<0):=by omega
 unfold Builtin.Slice.sliceAdjust;simp only[h1,if_false];refine Prod.ext ?_ ?_
 ·cases lo with
  | none=>rfl
  | some v=>exact Jl v n 0
 ·cases hi with
  | none=>rfl
  | some v=>exact Jl v n n
theorem Uw (i j:Nat):Builtin.Slice.slicePlaces (i:Int) (j:Int) 1=j-i:=by
 unfold Builtin.Slice.slicePlaces;have h1:(1:Int) > 0:=by omega
 simp only[h1,if_true,Int.ediv_one];split<;>omega
theorem W4 {v:Value} {o:Option Int} {Q:Option Int->Shared->Prop} (p:IsPart v o) (h:Q o s):wpAny (model prog w) A (Builtin.Slice.slicePartIndex v) Q E s:=by
 cases p with
 | none=>exact slicePart_none h
 | int i t=>exact slicePart_int h
theorem Zp {sl:Addr} {vl vu:Value} {lo hi:Option Int} {n:Nat} {Q:Int×Int×Nat->Shared->Prop} (hs:s.heap.IsSliceOf sl vl vu .none) (pl:IsPart vl lo) (pu:IsPart vu hi)
  (h:Q (((sIx n 0 lo:Nat):Int),1,sIx n n hi-sIx n 0 lo) s):wpAny (model prog w) A (Builtin.Slice.sliceApplied (.ref sl) (pure (n:Int))) Q E s:=by
 obtain⟨os,hos,hcs,hds⟩:=id hs;unfold Builtin.Slice.sliceApplied Builtin.Slice.sliceFields;refine wpAny_bind (wpAny_bind (wpAny_field hos hds (x:=vl) rfl (wpAny_bind (wpAny_field hos hds (x:=vu) rfl (wpAny_bind (wpAny_field hos hds (x:=.none) rfl (wpAny_pure ?_)))))));refine wpAny_bind (slicePart_none ?_);show wpAny _ _ (if ((1:Int)==0)=true then _ else _) _ _ s;rw[if_neg (by decide)];refine wpAny_bind (W4 pl (wpAny_bind (W4 pu (wpAny_bind (wpAny_pure ?_)))));show wpAny _ _ (match Builtin.Slice.sliceAdjust lo hi 1 (n:Int) with|(lo,hi)=>pure (lo,(1:Int),Builtin.Slice.slicePlaces lo hi 1)) _ _ s;rw[UP lo hi n];show wpAny _ _ (pure (((sIx n 0 lo:Nat):Int),(1:Int),Builtin.Slice.slicePlaces ((sIx n 0 lo:Nat):Int) ((sIx n n hi:Nat):Int) 1)) _ _ s;rw[Uw];exact wpAny_pure h
theorem Ap (xs:Array Value) (i k:Nat):((List.range k).filterMap fun (m:Nat)=>xs[((i:Int)+(m:Int)*1).toNat]?).toArray=((xs.toList.drop i).take k).toArray:=by
 have e:(fun (m:Nat)=>xs[((i:Int)+(m:Int)*1).toNat]?)=fun m=>xs[i+m]?:=by
  funext m
  have:((i:Int)+(m:Int)*1).toNat=i+m:=by omega
  rw[this]
 rw[e];have:=pick_run xs i k;rw[List.filterMap_map] at this;have e2:((fun x=>xs[x]?) ∘ fun x=>i+x)=fun m=>xs[i+m]?:=rfl;rw[e2] at this;rw[this]
theorem getItem_tuple_cut {t sl:Addr} {items:Array Value} {vl vu:Value} {lo hi:Option Int} {Q:Value->Shared->Prop} (ht:IsTup s.heap t items) (hs:s.heap.IsSliceOf sl vl vu .none) (pl:IsPart vl lo) (pu:IsPart vu hi)
  (hw:¬ (sIx items.size 0 lo=0/\sIx items.size items.size hi=items.size))
  (h:Q (.ref s.heap.objs.size) {s with heap:=s.heap.push {cls:=.type "tuple",data:=.seq ((items.toList.drop (sIx items.size 0 lo)).take (sIx items.size items.size hi-sIx items.size 0 lo)).toArray}})
  (hsz:items.size<=sizeLine):wpAny (model prog w) A (getItem (.ref t) (.ref sl)) Q E s:=by
 have htake:sizeOk (.seq ((items.toList.drop (sIx items.size 0 lo)).take (sIx items.size items.size hi-sIx items.size 0 lo)).toArray):=by
  show ((items.toList.drop (sIx items.size 0 lo)).take (sIx items.size items.size hi-sIx items.size 0 lo)).toArray.size<=sizeLine;rw[List.size_toArray,List.length_take,List.length_drop,Array.length_toList];omega
 have hj:sIx items.size items.size hi<=items.size:=Di _ _ %[|3] hi;obtain⟨os,hos,hcs,hds⟩:=id hs;have hTs:s.TypeIs (.ref sl) "slice":=⟨os,hos,hcs⟩;unfold getItem
 try with_reducible refine wpAny_holding ?_
 first|refine wpAny_bind (wpAny_pure ?_)|skip
 refine wpAny_bind (wpAny_sequenceKey ht.typeIs (by decide) ?_);refine wpAny_bind (wpAny_callSpecial?_slot (name:=Str.ofString "__getitem__") ht.typeIs PyProof.Rows.slot_tuple_getitem
  (wpAny_call_entry PyProof.Rows.slot_tuple_getitem ht.typeIs entry_tuple_getitem ?_ (args_tuple_getitem _ _)))
 show wpAny _ _ (Builtin.Tuple.tupleItemsOf (.ref t) >>= _) _ _ s;refine wpAny_bind (tupleItemsOf_ ht ?_);refine wpAny_bind (wpAny_typeOf hTs ?_);rw[if_pos (by decide)];refine wpAny_bind (Zp hs pl pu ?_);have hno:¬ ((((sIx items.size 0 lo:Nat):Int)==0&&(1:Int)==1&&(sIx items.size items.size hi-sIx items.size 0 lo)==items.size)=true):=by
  intro q;rw[Bool.and_eq_true,Bool.and_eq_true] at q;have q1:((sIx items.size 0 lo:Nat):Int)=0:=eq_of_beq q.1.1;have q2:sIx items.size items.size hi-sIx items.size 0 lo=items.size:=eq_of_beq q.2;exact hw ⟨by omega,by omega⟩
 show wpAny _ _ (if (((sIx items.size 0 lo:Nat):Int)==0&&(1:Int)==1&&(sIx items.size items.size hi-sIx items.size 0 lo)==items.size)=true then _ else _) _ _ s;rw[if_neg hno,Ap]
 first
  | exact wpAny_bind (m:=Builtin.Tuple.tupleExact _) (wpAny_newObj_type (wpAny_pure ⟨_,rfl,wpAny_pure h⟩) htake)
  | exact wpAny_bind (m:=Builtin.Tuple.tupleExact _) (wpAny_newObj_type (wpAny_bind (wpAny_pure (wpAny_pure ⟨_,rfl,wpAny_pure h⟩))) htake)
  | exact wpAny_bind (wpAny_bind (m:=Builtin.Tuple.tupleExact _) (wpAny_newObj_type (wpAny_pure (wpAny_pure ⟨_,rfl,wpAny_pure h⟩)) htake))
  | exact wpAny_bind (wpAny_bind (m:=Builtin.Tuple.tupleExact _) (wpAny_newObj_type (wpAny_pure ⟨_,rfl,wpAny_pure h⟩) htake))
end
end HT
namespace L2
open PySem PySem.Spec PyProof.Rows
abbrev TO:=St->Hp->(Option Int->Hp->Prop)->Prop
noncomputable def PO (X:Cx) (e:Option Expr) (t:TO):Prop :=
 ∀ (pins:List (Addr×Obj)) (s:Shared) (σ:St) (H:Hp) (Q:Option Int->Hp->Prop),Inv X pins σ H s->t σ H Q ->
  wpAny (model X.prog X.w) X.A (evalPart e X.env) (fun u s'=>∃ o H',Inv X pins σ H' s'/\IsPart u o/\Q o H') X.xe s
noncomputable def BE:TO:=fun _ H Q=>Q none H
noncomputable def GZ (t:TE):TO:=fun σ H Q=>t σ H fun x H1=>∃ i,x=.int i/\Q (some i) H1
section
variable {X:Cx} {e:Expr} {te:TE} {lo hi:Option Expr} {tl th:TO} {pos p2:Pos}
theorem BM:PO X none BE:=by
 intro pins s σ H Q I h;rw[evalPart_none];exact wpAny_pure ⟨none,H,I,.none,h⟩
theorem BL (h:PE X e te):PO X (some e) (GZ te):=by
 intro pins s σ H Q I hw;rw[evalPart_some];refine thn (h pins s σ H _ I hw) fun u s1 hq2=>?_;obtain⟨x,H1,I1,r1,q1⟩:=hq2;obtain⟨i,rfl,q⟩:=q1;obtain⟨t,rfl⟩:=r1;exact⟨some i,H1,I1,.int i t,q⟩
noncomputable def SlR (X:Cx) (r:V->Option Int->Option Int->Hp->VK->Prop):Prop :=
 ∀ (pins:List (Addr×Obj)) (s:Shared) (σ:St) (H:Hp) (x:V) (v vl vu:Value) (lo hi:Option Int) (sl:Addr) (Q:VK),Inv X pins σ H s->RelV x v->s.heap.IsSliceOf sl vl vu .none->IsPart vl lo->IsPart vu hi->r x lo hi H Q ->
  ∃ T id,typeLookup (.type T) "__getitem__"=pure (some (.builtin id))/\s.TypeIs v T/\wpAny (model X.prog X.w) X.A (getItem v (.ref sl)) (EP X pins σ Q) X.xe s
noncomputable def tSl (r:V->Option Int->Option Int->Hp->VK->Prop) (te:TE) (tl th:TO):TE:=fun σ H Q=>te σ H fun x H1=>tl σ H1 fun l H2=>th σ H2 fun u H3=>r x l u H3 Q
theorem Ar {r:V->Option Int->Option Int->Hp->VK->Prop} (hr:SlR X r) (he:PE X e te) (hl:PO X lo tl) (hu:PO X hi th):PE X (.Subscript e (.Slice lo hi none p2) pos) (tSl r te tl th):=by
 intro pins s σ H Q I h;refine Subscript_ (thn (he pins s σ H _ I h) fun v s1 hq2=>?_);obtain⟨x,H1,I1,r1,q1⟩:=hq2;refine wpAny_Slice (thn (hl pins s1 σ H1 _ I1 q1) fun vl s2 ⟨l,H2,I2,pl,q2⟩=>thn (hu pins s2 σ H2 _ I2 q2) fun vu s3 hq2=>?_);obtain⟨u,H3,I3,pu,q3⟩:=hq2;rw[evalPart_none];refine wpAny_pure ?_;have I4:Inv X pins σ H3 {s3 with heap:=s3.heap.push {cls:=.type "slice",data:=.fields #[vl,vu,.none]}}:=I3.kept (t':=s3.toks) fun b ob q=>Heap.get?_push_of_some _ q;obtain⟨T,id,hT,ht,hg⟩:=hr pins {s3 with heap:=s3.heap.push {cls:=.type "slice",data:=.fields #[vl,vu,.none]}} σ H3 x v vl vu l u s3.heap.objs.size Q I4 r1 (Heap.IsSliceOf.new ..) pl pu q3;show wpAny (model X.prog X.w) X.A (subscriptTail e (.Slice lo hi none p2) v (.ref s3.heap.objs.size)) (EP X pins σ Q) X.xe {s3 with heap:=s3.heap.push {cls:=.type "slice",data:=.fields #[vl,vu,.none]}};exact tail_any (ops:=[.ref s3.heap.objs.size,v]) ht hT hg (by with_unfolding_all rfl)
noncomputable def cutV (xs:List V) (lo hi:Option Int):List V:=(xs.drop (HT.sIx xs.length 0 lo)).take (HT.sIx xs.length xs.length hi-HT.sIx xs.length 0 lo)
theorem XH (xs:List V) (lo hi:Option Int):(cutV xs lo hi).length<=xs.length:=by
 unfold cutV;rw[List.length_take,List.length_drop];omega
noncomputable def rSlT (K:Frag):V->Option Int->Option Int->Hp->VK->Prop:=fun x lo hi H Q=>∃ a xs,x=.ref a/\SqT K H a xs /\
 ¬ (HT.sIx xs.length 0 lo=0/\HT.sIx xs.length xs.length hi=xs.length)/\∀ p,H p=none->Q (.ref p) (upd H p (.tup (cutV xs lo hi)))
theorem Dh:SlR X (rSlT X.K):=by
 intro pins s σ H x v vl vu lo hi sl Q I rx hs pl pu h;obtain⟨a,xs,rfl,hx,hw,q⟩:=h;cases rx;obtain⟨its,r,ht,hz⟩:=I.tuple hx;have hlen:its.toArray.size=xs.length:=by rw[List.size_toArray];exact r.length.symm
 refine⟨"tuple",_,PyProof.Rows.slot_tuple_getitem.lookup,ht.typeIs,?_⟩;refine HT.getItem_tuple_cut ht hs pl pu (by rw[hlen];exact hw) ?_ (by rw[hlen];exact hz);rw[hlen];refine⟨.ref s.heap.objs.size,_,I.laid (t':=s.toks) (o:=.tup (cutV xs lo hi)) (fun b ob q=>Heap.get?_push_of_some _ q) %[|3] ?_,rfl,q _ (I.hok.fresh %[|3])⟩;exact⟨Nat.le_trans (XH xs lo hi) hz,_,(r.drop (HT.sIx xs.length 0 lo)).take (HT.sIx xs.length xs.length hi-HT.sIx xs.length 0 lo),IsTup.new _ _⟩
noncomputable def HY (K:Frag):R2:=fun x y H Q=>∃ a b xs ys,x=.ref a/\y=.ref b/\SqT K H a xs/\SqT K H b ys/\xs≠[]/\xs.length+ys.length<=sizeLine /\
 (ys=[]->Q (.ref a) H)/\(ys≠[]->∀ p,H p=none->Q (.ref p) (upd H p (.tup (xs++ys))))
theorem Vals.nil_iff {xs:List V} {us:List Value} (r:Vals xs us):us=[] ↔ xs=[]:=by
 cases r with
 | nil=>simp
 | cons _ _=>simp
theorem BS:OpR X (binaryOp .Add) (HY X.K):=by
 intro pins s σ H x y v u Q I rx ry h;obtain⟨a,b,xs,ys,rfl,rfl,ha,hb,hx,hz,q1,q2⟩:=h;cases rx;cases ry;obtain⟨its,r1,p1,_⟩:=I.tuple ha;obtain⟨its2,r2,p2,_⟩:=I.tuple hb;refine HT.cat_tup p1 p2 (fun z=>hx (r1.nil_iff.mp z)) (fun z=>⟨.ref a,H,I,rfl,q1 (r2.nil_iff.mp z)⟩) (fun z=>?_) (by rw[<- r1.length,<- r2.length];exact hz);refine⟨.ref s.heap.objs.size,_,I.laid (t':=s.toks) (o:=.tup (xs++ys)) (fun b ob q=>Heap.get?_push_of_some _ q) %[|3] ?_,rfl,q2 (fun w=>z (r2.nil_iff.mpr w)) _ (I.hok.fresh %[|3])⟩;exact⟨by rw[List.length_append];exact hz,_,r1.append r2,IsTup.new _ _⟩
end
end L2
namespace L2
open PySem PySem.Spec PyProof.Rows
noncomputable def ixN (n:Nat) (i:Int):Option Nat:=if 0<=i then (if i<n then some i.toNat else none) else if -(n:Int)<=i then some (i+n).toNat else none
noncomputable def atI {α:Type} (xs:List α) (i:Int):Option α:=(ixN xs.length i).bind fun j=>xs[j]?
theorem J6 {n:Nat} {i:Int} {j:Nat} (h:ixN n i=some j):seqIndex? i n=some j/\j<n/\-(n:Int)<=i/\i<n:=by
 unfold ixN at h;by_cases h0:0<=i
 ·rw[if_pos h0] at h
  by_cases h1:i<n
  ·rw[if_pos h1] at h
   have e:i.toNat=j:=Option.some.inj h;exact⟨by rw[seqIndex_of h0 h1,e],by omega,by omega,h1⟩
  ·rw[if_neg h1] at h;cases h
 ·rw[if_neg h0] at h
  by_cases h1:-(n:Int)<=i
  ·rw[if_pos h1] at h
   have e:(i+n).toNat=j:=Option.some.inj h;exact⟨by rw[seqIndex_neg (by omega) h1,e],by omega,h1,by omega⟩
  ·rw[if_neg h1] at h;cases h
theorem Vu {α:Type} {xs:List α} {i:Int} {v:α} (h:atI xs i=some v):∃ j,seqIndex? i xs.length=some j/\xs[j]?=some v/\j<xs.length/\-(xs.length:Int)<=i/\i<xs.length:=by
 unfold atI at h;cases e:ixN xs.length i with
 | none=>rw [e] at h;cases h
 | some j =>
  rw[e] at h;obtain⟨h1,h2,h3,h4⟩:=J6 e;exact⟨j,h1,h,h2,h3,h4⟩
theorem atI_nat {α:Type} {xs:List α} {j:Nat} {v:α} (h:xs[j]?=some v):atI xs (j:Int)=some v:=by
 have hj:j<xs.length:=(List.getElem?_eq_some_iff.mp h).1;have e:ixN xs.length (j:Int)=some j:=by
  unfold ixN;rw[if_pos (by omega),if_pos (by omega)];simp
 unfold atI;rw[e];exact h
theorem atI_last {α:Type} (xs:List α) (v:α):atI (xs++[v]) (-1)=some v:=by
 have hl:(xs++[v]).length=xs.length+1:=by simp
 have e:ixN (xs++[v]).length (-1)=some xs.length:=by
  unfold ixN;rw[hl,if_neg (by decide),if_pos (by omega)]
  congr 1
  omega
 unfold atI;rw[e];show (xs++[v])[xs.length]?=some v;simp
noncomputable def Vw (b:Expr):Prop:=∀ o i,subscripted b false o i=operate [o,i] (getItem o i)
noncomputable def IxR (X:Cx) (r:R2):Prop :=
 ∀ (value slice:Expr) (pins:List (Addr×Obj)) (s:Shared) (σ:St) (H:Hp) (x y:V) (v u:Value) (Q:VK),Inv X pins σ H s->RelV x v->RelV y u->r x y H Q ->
  subscripted slice false v u=operate [v,u] (getItem v u)->wpAny (model X.prog X.w) X.A (subscriptTail value slice v u) (EP X pins σ Q) X.xe s
noncomputable def MtR (X:Cx) (id:String) (r:V->List V->Hp->VK->Prop):Prop :=
 ∀ (pins:List (Addr×Obj)) (s:Shared) (σ:St) (H:Hp) (x:V) (xs:List V) (v:Value) (us:List Value) (Q:VK),Inv X pins σ H s->RelV x v->Vals xs us->r x xs H Q ->
  wpAny (model X.prog X.w) X.A (call (.builtin id) (v::us)) (EP X pins σ Q) X.xe s
section
variable {X:Cx} {a b:Expr} {ta tb:TE} {pos:Pos}
theorem Ie {r:R2} (hr:IxR X r) (ha:PE X a ta) (hb:PE X b tb) (hs:Vw b):PE X (.Subscript a b pos) (tOp r ta tb):=by
 intro pins s σ H Q I h;exact Subscript_ (binT ha hb I h fun v u s2 x y H2 I2 rx ry q=>hr a b pins s2 σ H2 x y v u Q I2 rx ry q (hs _ _))
noncomputable def rIxL (K:Frag):R2:=fun x y H Q=>∃ p xs i v,x=.ref p/\y=.int i/\SqL K H p xs/\atI xs i=some v/\Q v H
noncomputable def rIxT (K:Frag):R2:=fun x y H Q=>∃ p xs i v,x=.ref p/\y=.int i/\SqT K H p xs/\atI xs i=some v/\Q v H
noncomputable def rIxS:R2:=fun x y H Q=>∃ z i c,x=.str z/\y=.int i/\z.length<=sizeLine/\atI z.cps.toList i=some c/\Q (.str ⟨#[c]⟩) H
theorem J5:IxR X (rIxL X.K):=by
 intro value slice pins s σ H x y v u Q I rx ry h hs;obtain⟨p,xs,i,z,rfl,rfl,hq,he,q⟩:=h;cases rx;obtain⟨t,rfl⟩:=ry;obtain⟨its,r,pl,hz⟩:=I.list hq;obtain⟨j,h1,h2,h3,h4,h5⟩:=Vu he;obtain⟨w,ew,rw'⟩:=r.get h2;have hl:=r.length;have hn:=ZZ;have fin:EP X pins σ Q w s:=⟨z,H,I,rw',q⟩;by_cases h0:0<=i
 ·have hj:i.toNat=j:=by
   rw[seqIndex_of h0 h5] at h1;exact Option.some.inj h1
  exact item_listR pl.isList h0 (by omega) (by rw[hj];simpa using ew) fin hs
 ·have hj:(i+(its.toArray.size:Int)).toNat=j:=by
   rw[seqIndex_neg (by omega) h4] at h1;rw[List.size_toArray,<- hl];exact Option.some.inj h1
  exact subscriptTail_builtinR (x:=w) pl.isList.typeIs slot_list_getitem.lookup
   (wpAny_getItem_list_neg (Q:=fun r s'=>r=w/\EP X pins σ Q r s') pl.isList (by omega) (by rw[List.size_toArray]<;>omega) (by omega) (by rw[hj];simpa using ew) ⟨rfl,fin⟩) hs
theorem Fc:IxR X (rIxT X.K):=by
 intro value slice pins s σ H x y v u Q I rx ry h hs;obtain⟨p,xs,i,z,rfl,rfl,hq,he,q⟩:=h;cases rx;obtain⟨t,rfl⟩:=ry;obtain⟨its,r,pl,hz⟩:=I.tuple hq;obtain⟨j,h1,h2,h3,h4,h5⟩:=Vu he;obtain⟨w,ew,rw'⟩:=r.get h2;have hl:=r.length;have hn:=ZZ;have fin:EP X pins σ Q w s:=⟨z,H,I,rw',q⟩;exact subscriptTail_builtinR (x:=w) pl.typeIs slot_tuple_getitem.lookup
  (getItem_tuple (j:=j) (Q:=fun r s'=>r=w/\EP X pins σ Q r s') pl (by omega) (by omega) (by rw[List.size_toArray,<- hl];exact h1) (by simpa using ew) ⟨rfl,fin⟩) hs
theorem Fd:IxR X rIxS:=by
 intro value slice pins s σ H x y v u Q I rx ry h hs;obtain⟨z,i,c,rfl,rfl,hz,he,q⟩:=h;obtain⟨t,rfl⟩:=rx;obtain⟨t',rfl⟩:=ry;obtain⟨j,h1,h2,h3,h4,h5⟩:=Vu he;have hl:z.cps.toList.length=z.length:=by simp[Str.length]
 rw[hl] at h1 h4 h5;have hn:=ZZ;exact tail_any (typeIs_str s z t) slot_str_getitem.lookup (getItem_str (c:=c) (by
  have e1:decide (i < -(2 ^ 63:Int))=false:=decide_eq_false (by omega);have e2:decide (i ≥ 2 ^ 63)=false:=decide_eq_false (by omega);rw[e1,e2,Bool.or_false]) (by rw[h1];simpa using h2) ⟨.str ⟨#[c]⟩,H,I.tok _,⟨_,rfl⟩,q⟩) hs
theorem UC (its:List Value) (n j:Nat) (u:Value):Obj.mapSeq (·.setIfInBounds j u) {cls:=.type "list",data:=.seq its.toArray n}={cls:=.type "list",data:=.seq (its.set j u).toArray n}:=by
 simp[Obj.mapSeq]
theorem Inv.lst {pins:List (Addr×Obj)} {σ:St} {H:Hp} {s:Shared} {p:Addr} {xs:List V} (I:Inv X pins σ H s) (h:H p=some (.lst xs)) :
  ∃ (its:List Value) (n:Nat),Vals xs its/\s.heap.get? p=some {cls:=.type "list",data:=.seq its.toArray n}/\xs.length<=sizeLine:=by
 obtain⟨z,its,n,r,e⟩:=I.hok p _ h;exact⟨its,n,r,e,z⟩
theorem Inv.lstUpd {pins:List (Addr×Obj)} {σ:St} {H:Hp} {s:Shared} {p:Addr} {xs ys:List V} {its its':List Value} {n n':Nat} {f:Obj->Obj} (I:Inv X pins σ H s) (h:H p=some (.lst xs))
  (ho:s.heap.get? p=some {cls:=.type "list",data:=.seq its.toArray n}) (hf:f {cls:=.type "list",data:=.seq its.toArray n}={cls:=.type "list",data:=.seq its'.toArray n'}) (r:Vals ys its') (hz:ys.length<=sizeLine) (t:Nat) :
  Inv X pins σ (upd H p (.lst ys)) {s with heap:=s.heap.update p f,toks:=t}:=by
 have e:(s.heap.update p f).get? p=some {cls:=.type "list",data:=.seq its'.toArray n'}:=by
  rw[Heap.get?_update_self f ho (by rw[hf]<;>rfl),hf]
 refine I.write (x:=p) (e:=p) (by rw[h];trivial) (.inl rfl) (fun b u hb q=>(Heap.get?_update_other _ _ (Ne.symm hb)).trans q) ⟨_,e⟩ ?_;exact⟨hz,its',n',r,e⟩
noncomputable def HW:V->V->V->Hp->(Hp->Prop)->Prop:=fun o i v H Q=>∃ p xs k j,o=.ref p/\i=.int k/\H p=some (.lst xs)/\ixN xs.length k=some j/\Q (upd H p (.lst (xs.set j v)))
theorem Ah:PSet X HW:=by
 intro pins s σ H o i v ov iv u Q I ro ri rv h;obtain⟨p,xs,k,j,rfl,rfl,hp,hj,q⟩:=h;cases ro;obtain⟨t,rfl⟩:=ri;obtain⟨its,n,r,ho,hz⟩:=I.lst hp;obtain⟨h1,h2,h3,h4⟩:=J6 hj;have hl:=r.length;have hn:=ZZ;have I':Inv X pins σ (upd H p (.lst (xs.set j v))) {s with heap:=s.heap.update p (Obj.mapSeq (·.setIfInBounds j u))} :=
  I.lstUpd hp ho (UC its n j u) (r.set rv j) (by rw[List.length_set];exact hz) s.toks
 by_cases h0:0<=k
 ·have hk:k.toNat=j:=by
   rw[seqIndex_of h0 h4] at h1;exact Option.some.inj h1
  exact PySem.W.ki_setAt ho h0 (by omega) (by rw[List.size_toArray,<- hl];exact h4) (by rw[hk];exact⟨_,I',q⟩)
 ·have hk:(k+(its.toArray.size:Int)).toNat=j:=by
   rw[seqIndex_neg (by omega) h3] at h1;rw[List.size_toArray,<- hl];exact Option.some.inj h1
  exact PySem.W.ki_setBack ho (by omega) (by rw[List.size_toArray,<- hl];exact h3) (by omega) (by rw[hk];exact⟨_,I',q⟩)
theorem V9 (lo hi:Option Int) (n:Nat):(sliceBounds lo hi none n).1=((HT.sIx n 0 lo:Nat):Int)/\(sliceBounds lo hi none n).2.1=((HT.sIx n n hi:Nat):Int)/\(sliceBounds lo hi none n).2.2=1:=by
 refine⟨?_,?_,rfl⟩
 ·cases lo with
  | none=>simp[sliceBounds,HT.sIx]
  | some i =>
   simp only[sliceBounds,HT.sIx,Option.getD_none,show (1:Int) > 0 by decide,if_true];by_cases h:i<0
   ·simp only[h,if_true]<;>omega
   ·simp only[h,if_false]<;>omega
 ·cases hi with
  | none=>simp[sliceBounds,HT.sIx]
  | some i =>
   simp only[sliceBounds,HT.sIx,Option.getD_none,show (1:Int) > 0 by decide,if_true];by_cases h:i<0
   ·simp only[h,if_true]<;>omega
   ·simp only[h,if_false]<;>omega
theorem Ww (its:List Value) (lo hi:Option Int):slicePick its.toArray lo hi none=((its.drop (HT.sIx its.length 0 lo)).take (HT.sIx its.length its.length hi-HT.sIx its.length 0 lo)).toArray:=by
 obtain⟨h1,h2,h3⟩:=V9 lo hi its.toArray.size;unfold slicePick;rw[h1,h2,h3];simp only[sliceRange_one,pick_run,List.size_toArray]<;>rfl
noncomputable def rSlL (K:Frag):V->Option Int->Option Int->Hp->VK->Prop:=fun x lo hi H Q=>∃ a xs,x=.ref a/\SqL K H a xs/\∀ p,H p=none->Q (.ref p) (upd H p (.lst (cutV xs lo hi)))
theorem UU:SlR X (rSlL X.K):=by
 intro pins s σ H x v vl vu lo hi sl Q I rx hs pl pu h;obtain⟨a,xs,rfl,hx,q⟩:=h;cases rx;obtain⟨its,r,ht,hz⟩:=I.list hx;have hlen:=r.length;refine⟨"list",_,slot_list_getitem.lookup,ht.isList.typeIs,?_⟩;refine wpAny_getItem_list_slice ht.isList hs pl pu .none (by simp) ?_ (by rw[List.size_toArray]<;>omega);rw[Ww,<- hlen];refine⟨.ref s.heap.objs.size,_,I.laid (t':=s.toks) (o:=.lst (cutV xs lo hi)) (fun b ob q=>Heap.get?_push_of_some _ q) %[|3] ?_,rfl,q _ (I.hok.fresh %[|3])⟩;exact⟨Nat.le_trans (XH xs lo hi) hz,_,0,(r.drop (HT.sIx xs.length 0 lo)).take (HT.sIx xs.length xs.length hi-HT.sIx xs.length 0 lo),Heap.get?_push_size _ rfl⟩
theorem Vs:CallR X (.builtin "len") (fun xs H Q=>∃ p ys,xs=[.ref p]/\(SqL X.K H p ys\/SqT X.K H p ys)/\Q (.int ys.length) H):=by
 intro pins s σ H xs us Q I r h;obtain⟨p,ys,rfl,hq,q⟩:=h;obtain⟨u,rfl,rx⟩:=XC r;cases rx;have hn:=ZZ;rcases hq with hq|hq
 ·obtain⟨its,r',pl,hz⟩:=I.list hq
  have hlen:=r'.length;exact Calls.call_len_list pl.isList (by simp only[List.size_toArray]<;>omega) ⟨.int ys.length,H,I.tok _,⟨s.toks+1,by rw[List.size_toArray,hlen]⟩,q⟩
 ·obtain⟨its,r',pl,hz⟩:=I.tuple hq
  have hlen:=r'.length;exact len_tuple pl (by simp only[List.size_toArray]<;>omega) ⟨.int ys.length,H,I.tok _,⟨s.toks+1,by rw[List.size_toArray,hlen]⟩,q⟩
theorem Vr:CallR X (.builtin "len") (fun xs H Q=>∃ z,xs=[.str z]/\z.length<=sizeLine/\Q (.int z.length) H):=by
 intro pins s σ H xs us Q I r h;obtain⟨z,rfl,hz,q⟩:=h;obtain⟨u,rfl,t,rfl⟩:=XC r;have hn:=ZZ;exact len_str (by omega) ⟨.int z.length,H,I.tok _,⟨_,rfl⟩,q⟩
theorem CallR.or {f:Value} {r r':List V->Hp->VK->Prop} (h:CallR X f r) (h':CallR X f r'):CallR X f (fun xs H Q=>r xs H Q\/r' xs H Q):=by
 intro pins s σ H xs us Q I rs q;rcases q with q|q
 ·exact h pins s σ H xs us Q I rs q
 ·exact h' pins s σ H xs us Q I rs q
theorem Vq:CallR X (.type "list") (fun xs H Q=>∃ p ys,xs=[.ref p]/\(SqL X.K H p ys\/SqT X.K H p ys)/\∀ l,H l=none->Q (.ref l) (upd H l (.lst ys))):=by
 intro pins s σ H xs us Q I r h;obtain⟨p,ys,rfl,hq,q⟩:=h;obtain⟨u,rfl,rx⟩:=XC r;cases rx;have fin:∀ (its:List Value),Vals ys its->ys.length<=sizeLine->∀ (h':Heap) (c':Nat),(∀ b o',s.heap.get? b=some o'->h'.get? b=some o') ->
   h'.get? s.heap.objs.size=some {cls:=.type "list",dict:=none,data:=.seq its.toArray c',slots:=#[]}->EP X pins σ Q (.ref s.heap.objs.size) {s with heap:=h'}:=fun its r' hz h' c' kp e =>
  ⟨.ref s.heap.objs.size,_,I.laid (t':=s.toks) kp %[|3] (show ObjOk X.prog X.w _ h' _ (.lst ys) from ⟨hz,its,c',r',e⟩),rfl,q _ (I.hok.fresh %[|3])⟩
 rcases hq with hq|hq
 ·obtain⟨its,r',pl,hz⟩:=I.list hq
  have hlen:=r'.length;obtain⟨o,ho,hc,n,hd⟩:=pl.isList;exact call_list_seq p (.inl rfl) ho hc hd (fun h' c' kp e=>fin its r' hz h' c' kp e) (by simp only[List.size_toArray]<;>omega)
 ·obtain⟨its,r',pl,hz⟩:=I.tuple hq
  have hlen:=r'.length;obtain⟨o,ho,hc,n,hd⟩:=pl;exact call_list_seq p (.inr rfl) ho hc hd (fun h' c' kp e=>fin its r' hz h' c' kp e) (by simp only[List.size_toArray]<;>omega)
theorem Wx:CallR X (.type "tuple") (fun xs H Q=>∃ p ys,xs=[.ref p]/\((SqL X.K H p ys/\∀ l,H l=none->Q (.ref l) (upd H l (.tup ys)))\/(SqT X.K H p ys/\Q (.ref p) H))):=by
 intro pins s σ H xs us Q I r h;obtain⟨p,ys,rfl,h⟩:=h;obtain⟨u,rfl,rx⟩:=XC r;cases rx;rcases h with ⟨hq,q⟩|⟨hq,q⟩
 ·obtain⟨its,r',pl,hz⟩:=I.list hq
  have hlen:=r'.length;refine call_tuple_list pl.isList (fun h' kp=>?_) (by simp only[List.size_toArray]<;>omega);have I1:Inv X pins σ H {s with heap:=h'}:=I.kept (t':=s.toks) kp;have I2:Inv X pins σ (upd H h'.objs.size (.tup ys)) {s with heap:=h'.push {cls:=.type "tuple",data:=.seq its.toArray}} :=
   I1.laid (t':=s.toks) (fun b o e=>Heap.get?_push_of_some _ e) %[|3] (show ObjOk X.prog X.w _ _ _ (.tup ys) from ⟨hz,its,r',IsTup.new _ _⟩)
  exact⟨.ref h'.objs.size,_,I2,rfl,q _ (I1.hok.fresh %[|3])⟩
 ·obtain⟨its,r',pl,hz⟩:=I.tuple hq
  exact call_tuple_same pl ⟨.ref p,H,I,rfl,q⟩
noncomputable def tyV (K:Frag) (T:String) (x:V) (H:Hp):Prop:=match x with
 | .str _=>T="str"
 | .int _=>T="int"
 | .ref p=>(T="list"/\∃ xs,SqL K H p xs)\/(T="tuple"/\∃ o,K.lookup p=some o/\o.cls=.type "tuple"/\o.dict=none) \/
   (T="dict"/\((∃ kvs,H p=some (.dK kvs))\/∃ kvs,H p=some (.dT kvs)))\/(T="set"/\∃ S n,H p=some (.set S n))
 | _=>False
theorem Da {pins:List (Addr×Obj)} {σ:St} {H:Hp} {s:Shared} {T:String} {x:V} {v:Value} (I:Inv X pins σ H s) (r:RelV x v) (ty:tyV X.K T x H) :
  s.TypeIs v T/\∀ a,v=.ref a->∃ ob,s.heap.get? a=some ob/\ob.dict=none:=by
 cases x with
 | str z =>
  obtain⟨t,rfl⟩:=r;cases (show T="str" from ty);exact⟨typeIs_str s z t,fun _ e=>nomatch e⟩
 | int i =>
  obtain⟨t,rfl⟩:=r;cases (show T="int" from ty);exact⟨typeIs_int s i t,fun _ e=>nomatch e⟩
 | ref p =>
  cases r;rcases ty with ⟨rfl,xs,hq⟩|⟨rfl,o,hk,hc,hd⟩|⟨rfl,hk⟩|⟨rfl,S,n,hk⟩
  ·obtain⟨its,_,pl,_⟩:=I.list hq
   refine⟨pl.isList.typeIs,fun a e=>?_⟩;cases e;obtain⟨o,n,e,c,hd,_⟩:=pl;exact⟨o,e,hd⟩
  ·refine⟨⟨o,I.kIn p o hk,hc⟩,fun a e=>?_⟩
   cases e;exact⟨o,I.kIn _ o hk,hd⟩
  ·have z:∃ o,s.heap.get? p=some o/\o.ExactDict:=by
    rcases hk with ⟨kvs,hk⟩|⟨kvs,hk⟩
    ·obtain⟨_,_,_,_,o,_,_,e,ex,_⟩:=I.hok p _ hk
     exact⟨o,e,ex⟩
    ·obtain⟨_,_,_,_,o,_,_,e,ex,_⟩:=I.hok p _ hk
     exact⟨o,e,ex⟩
   obtain⟨o,e,ex⟩:=z;refine⟨⟨o,e,ex.1⟩,fun a e2=>?_⟩;cases e2;exact⟨o,e,ex.2.1⟩
  ·obtain⟨o,_,_,_,e,ex,_⟩:=I.hok p _ hk
   refine⟨⟨o,e,ex.1⟩,fun a e2=>?_⟩;cases e2;exact⟨o,e,ex.2.1⟩
 | _=>exact False.elim ty
noncomputable def tBM (K:Frag) (T:String) (r:V->List V->Hp->VK->Prop) (to:TE) (t:TA):TE:=fun σ H Q=>to σ H fun x H1=>tyV K T x H1/\t σ H1 fun xs H2=>r x xs H2 Q
variable {o e:Expr} {es:List Expr} {to:TE} {t:TA} {name:Str} {apos cpos:Pos} {T id:String} {r:V->List V->Hp->VK->Prop}
theorem Au (pa:PlainAttrs T) (slot:Slot T name id) (hty:typeOf (.builtin id)=pure (.type "method_descriptor")) (hm:MtR X id r) (ho:PE X o to) (ha:PA X (e::es) t)
  (hbase:attributeBase o name X.env (eval o X.env)=eval o X.env:=by rfl)
  (hfew:((backTo cpos (starEach (e::es) X.env)).all (fun x=>!x.1)&&(backToKw cpos (keywordEach [] X.env)).all (fun x=>x.1.isSome)
   && decide ((e::es).length+([]:List Keyword).length+(if ([]:List Keyword).isEmpty then 0 else 1)<30))=true:=by rfl)
  (hline:(apos.endLine==cpos.line)=true:=by rfl) (hs:starEach (e::es) X.env=(false,eval e X.env)::starEach es X.env:=by rfl) (hplain:(backTo cpos (starEach es X.env)).any (·.1)=false:=by rfl) :
  PE X (.Call (.Attribute o name apos) (e::es) [] cpos) (tBM X.K T r to t):=by
 intro pins s σ H Q I h;refine wpAny_Call_method_late hbase hfew hline rfl (thn (ho pins s σ H _ I h) fun v s1 hq2=>?_);obtain⟨x,H1,I1,r1,ty,q1⟩:=hq2;obtain⟨h1,h2⟩:=Da I1 r1 ty;refine⟨T,id,pa,slot,hty,h1,h2,?_⟩;have hA:=ha cpos pins s1 σ H1 _ I1 q1;rw[hs] at hA ⊢;refine Calls.callWith_builtin (by show (false || (backTo cpos (starEach es X.env)).any (·.1))=false;rw[hplain]<;>rfl) (Calls.evalArgs_plain ?_);exact thn hA (by rintro us s2 ⟨vs,H2,I2,r2,q2⟩;exact hm pins s2 σ H2 x vs v us Q I2 r1 r2 q2)
end
end L2
namespace L2
open PySem PySem.Spec PyProof.Rows
noncomputable def MtM (X:Cx) (id:String) (r:V->List V->Hp->VK->Prop):Prop :=
 ∀ (pins:List (Addr×Obj)) (s:Shared) (σ:St) (H:Hp) (x:V) (xs:List V) (v:Value) (us:List Value) (Q:VK),Inv X pins σ H s->RelV x v->Vals xs us->r x xs H Q ->
  wpAny (model X.prog X.w) X.A (call (.builtin id) (v::us)) (EP X pins σ Q) X.xe s
theorem Vals.one:∀ {x:V} {us:List Value},Vals [x] us->∃ u,us=[u]/\RelV x u
 | _,_,.cons r .nil=>⟨_,rfl,r⟩
theorem Vals.eraseIdx:∀ {xs:List V} {us:List Value} (i:Nat),Vals xs us->Vals (xs.eraseIdx i) (us.eraseIdx i)
 | _,_,_,.nil=>.nil
 | _,_,0,.cons _ t=>t
 | _,_,i+1,.cons r t=>.cons r (Vals.eraseIdx i t)
theorem Vals.rep {xs:List V} {us:List Value} (h:Vals xs us):∀ k:Nat,Vals (List.replicate k xs).flatten (List.replicate k us).flatten
 | 0=>.nil
 | k+1=>by
  rw[List.replicate_succ,List.replicate_succ,List.flatten_cons,List.flatten_cons];exact Vals.append h (Vals.rep h k)
theorem WG {α:Type}:∀ (l:List α) (i:Nat),(l.eraseIdx i).length<=l.length
 | [],_=>Nat.le_refl _
 | _::_,0=>Nat.le_succ _
 | _::r,i+1=>Nat.succ_le_succ (WG r i)
theorem ZT (its:List Value):∀ (k:Nat) (acc:List Value),
  List.foldl (fun x1 x2=>x1++x2) acc.toArray (List.replicate k its.toArray)=(acc++(List.replicate k its).flatten).toArray
 | 0,acc=>by simp
 | k+1,acc=>by
  have e:acc.toArray++its.toArray=(acc++its).toArray:=by simp
  have e2:(acc++its)++(List.replicate k its).flatten=acc++(List.replicate (k+1) its).flatten:=by
   rw[List.replicate_succ,List.flatten_cons,List.append_assoc]
  rw[<- e2,<- ZT its k (acc++its),<- e,List.replicate_succ,List.foldl_cons]
section
variable {X:Cx} {pins:List (Addr×Obj)} {σ:St} {H:Hp} {s:Shared} {l b:Addr} {xs ys zs:List V}
theorem Inv.lset {its its':List Value} {n:Nat} {f:Array Value->Array Value} {t':Nat} (I:Inv X pins σ H s) (hH:H l=some (.lst xs))
  (e:s.heap.get? l=some {cls:=.type "list",data:=.seq its.toArray n}) (hf:f its.toArray=its'.toArray) (hv:Vals ys its') (hz:ys.length<=sizeLine) :
  Inv X pins σ (upd H l (.lst ys)) {s with heap:=s.heap.update l (Obj.mapSeq f),toks:=t'}:=by
 have q:=PySem.IsL.update e f;rw[hf] at q;refine I.write (x:=l) (e:=l) (by rw[hH];exact trivial) (.inl rfl) (fun b' u hb hu=>(Heap.get?_update_other s.heap (Obj.mapSeq f) (Ne.symm hb)).trans hu) ⟨_,q⟩ ?_;exact⟨hz,its',_,hv,q⟩
theorem Inv.lnew {its:List Value} {t':Nat} (I:Inv X pins σ H s) (hv:Vals ys its) (hz:ys.length<=sizeLine) :
  Inv X pins σ (upd H s.heap.objs.size (.lst ys)) {s with heap:=s.heap.push {cls:=.type "list",data:=.seq its.toArray},toks:=t'} :=
 I.laid (fun _ _ q=>Heap.get?_push_of_some _ q) %[|3] ⟨hz,its,0,hv,Heap.get?_push_size _ rfl⟩
theorem Inv.fresh (I:Inv X pins σ H s):H s.heap.objs.size=none:=I.hok.fresh %[|3]
theorem Inv.lstM (I:Inv X pins σ H s) (hH:H l=some (.lst xs)):xs.length<=sizeLine/\∃ (its:List Value) (n:Nat),Vals xs its/\xs.length=its.length/\s.heap.get? l=some {cls:=.type "list",data:=.seq its.toArray n}:=by
 obtain⟨z,its,n,r,e⟩:=I.hok l _ hH;exact⟨z,its,n,r,r.length,e⟩
theorem VS {n:Nat} (h:n<=sizeLine):Builtin.List.listTooLong n=false:=by
 unfold Builtin.List.listTooLong;exact decide_eq_false (by omega)
end
section
variable {X:Cx}
noncomputable def BI:V->List V->Hp->VK->Prop:=fun x vs H Q=>∃ l xs y,x=.ref l/\vs=[y]/\H l=some (.lst xs)/\xs.length<sizeLine/\Q .non (upd H l (.lst (xs++[y])))
theorem WE:MtM X "list.append" BI:=by
 intro pins s σ H x vs v us Q I rx rv h;obtain⟨l,xs,y,rfl,rfl,hH,hz,q⟩:=h;cases rx;obtain⟨u,rfl,ru⟩:=rv.one;obtain⟨z,its,n,r,hl,e⟩:=I.lstM hH;refine call_meets F.slot_list_append ⟨_,e,rfl⟩ F.entry_list_append (F.args_list_append_2 _ _) (PySem.list_append l its.toArray n u (by rw[List.size_toArray];omega)) ⟨e,?_⟩;refine⟨.non,_,I.lset (its':=its++[u]) hH e (by simp) (r.append (.cons ru .nil)) ?_,rfl,q⟩;rw[List.length_append,List.length_singleton];omega
noncomputable def BH:V->List V->Hp->VK->Prop:=fun x vs H Q=>∃ l b xs zs,x=.ref l/\vs=[.ref b]/\H l=some (.lst xs)/\H b=some (.lst zs)/\xs.length+zs.length<=sizeLine/\Q .non (upd H l (.lst (xs++zs)))
theorem Gf:MtM X "list.extend" BH:=by
 intro pins s σ H x vs v us Q I rx rv h;obtain⟨l,b,xs,zs,rfl,rfl,hH,hB,hz,q⟩:=h;cases rx;obtain⟨u,rfl,ru⟩:=rv.one;cases ru;obtain⟨z,its,n,r,hl,e⟩:=I.lstM hH;obtain⟨z2,its2,n2,r2,hl2,e2⟩:=I.lstM hB;have hsz:its.toArray.size+its2.toArray.size<=sizeLine:=by rw[List.size_toArray,List.size_toArray];omega
 have hlong:¬ (!its.toArray.isEmpty&&Builtin.List.listTooLong (its.toArray.size+its2.toArray.size))=true:=by
  rw[VS hsz,Bool.and_false];exact Bool.false_ne_true
 refine call_meets F.slot_list_extend ⟨_,e,rfl⟩ F.entry_list_extend (F.args_list_extend_2 _ _)
  (AutoSeq1.list_extend_list_list_0 l its.toArray n b its2.toArray n2 hlong (by rw[List.size_toArray];omega) (by omega)) ⟨e,e2,?_⟩
 refine⟨.non,_,I.lset (its':=its++its2) hH e (by simp) (r.append r2) ?_,rfl,q⟩;rw[List.length_append];omega
noncomputable def Dm:V->List V->Hp->VK->Prop:=fun x vs H Q=>∃ l xs i k y,x=.ref l/\vs=[.int i]/\H l=some (.lst xs)/\-(2 ^ 63)<=i/\i<2 ^ 63/\seqIndex? i xs.length=some k/\xs[k]?=some y/\Q y (upd H l (.lst (xs.eraseIdx k)))
theorem AD:MtM X "list.pop" Dm:=by
 intro pins s σ H x vs v us Q I rx rv h;obtain⟨l,xs,i,k,y,rfl,rfl,hH,h1,h2,hk,hy,q⟩:=h;cases rx;obtain⟨u,rfl,ru⟩:=rv.one;obtain⟨t,rfl⟩:=ru;obtain⟨z,its,n,r,hl,e⟩:=I.lstM hH;obtain⟨w,hw,rw'⟩:=r.get hy;refine call_meets F.slot_list_pop ⟨_,e,rfl⟩ F.entry_list_pop (F.args_list_pop_2 _ _)
  (MeetsSeq.list_pop_at l its.toArray n i t k w (fitsIndex_both h1 h2) (by rw[List.size_toArray,<- hl];exact hk) (by rw[<- Array.getElem?_toList];exact hw) (by rw[List.size_toArray];omega)) ⟨e,?_⟩
 refine⟨y,_,I.lset (its':=its.eraseIdx k) hH e ?_ (r.eraseIdx k) ?_,rw',q⟩
 ·show its.toArray.eraseIdxIfInBounds k=(its.eraseIdx k).toArray
  rw[List.eraseIdxIfInBounds_toArray]
 ·have:=WG xs k
  omega
noncomputable def rCat:R2:=fun x y H Q=>∃ l b xs zs,x=.ref l/\y=.ref b/\H l=some (.lst xs)/\H b=some (.lst zs)/\xs.length+zs.length<=sizeLine/\∀ p,H p=none->Q (.ref p) (upd H p (.lst (xs++zs)))
theorem DW:OpR X (binaryOp .Add) rCat:=by
 intro pins s σ H x y v u Q I rx ry h;obtain⟨l,b,xs,zs,rfl,rfl,hH,hB,hz,q⟩:=h;cases rx;cases ry;obtain⟨z,its,n,r,hl,e⟩:=I.lstM hH;obtain⟨z2,its2,n2,r2,hl2,e2⟩:=I.lstM hB;refine PySem.P.add_list e e2 ?_ (by rw[List.size_toArray,List.size_toArray];omega);have ea:its.toArray++its2.toArray=(its++its2).toArray:=by simp
 rw[ea];exact⟨.ref _,_,I.lnew (t':=s.toks) (r.append r2) (by rw[List.length_append];omega),rfl,q _ I.fresh⟩
noncomputable def rRep:R2:=fun x y H Q=>∃ l k xs,x=.ref l/\y=.int k/\H l=some (.lst xs)/\-(2 ^ 63)<=k/\k<2 ^ 63/\xs.length*k.toNat<=sizeLine /\
 ∀ p,H p=none->Q (.ref p) (upd H p (.lst (List.replicate k.toNat xs).flatten))
theorem Vg {α:Type} (xs:List α) (k:Nat):(List.replicate k xs).flatten.length=k*xs.length:=by
 induction k with
 | zero=>simp
 | succ k ih=>rw [List.replicate_succ,List.flatten_cons,List.length_append,ih,Nat.succ_mul,Nat.add_comm]
theorem DV:OpR X (binaryOp .Mult) rRep:=by
 intro pins s σ H x y v u Q I rx ry h;obtain⟨l,k,xs,rfl,rfl,hH,h1,h2,hz,q⟩:=h;cases rx;obtain⟨t,rfl⟩:=ry;obtain⟨z,its,n,r,hl,e⟩:=I.lstM hH;have hlen:its.toArray.size*k.toNat<=sizeLine:=by rw[List.size_toArray,<- hl];exact hz
 have hcap:¬ its.toArray.size*k.toNat > (2 ^ 63-1) / 8:=by
  have:(sizeLine:Nat)<=(2 ^ 63-1) / 8:=by decide
  omega
 have hfit:¬ (!Builtin.List.listFitsIndex k)=true:=by
  rw[fitsIndex_both h1 h2];exact Bool.false_ne_true
 have hlong:¬ Builtin.List.listTooLong (its.toArray.size*k.toNat)=true:=by
  rw[VS hlen];exact Bool.false_ne_true
 have hnew:List.foldl (fun x1 x2=>x1++x2) #[] (List.replicate (if its.toArray.isEmpty=true then 0 else k.toNat) its.toArray)=(List.replicate k.toNat its).flatten.toArray:=by
  have f0:∀ m:Nat,List.foldl (fun x1 x2=>x1++x2) #[] (List.replicate m its.toArray)=(List.replicate m its).flatten.toArray:=fun m=>by
   have:=ZT its m [];rw[List.nil_append] at this;exact this
  rw[f0];cases its with
  | nil=>simp
  | cons a r'=>rw [if_neg (by simp)]
 refine wpAny_binaryOp_repeat_ref (T:="list") (U:="int") (by decide) ⟨_,e,rfl⟩ (fun s'=>typeIs_int s' k t) noFill_list_mul F.fills_int_mul F.slot_int_rmul repeat_list F.slot_int_index.lookup
  (call_meets F.slot_int_rmul (typeIs_int s k t) F.entry_int_rmul (F.args_int_rmul_2 _ _) (int___rmul___int_list k t l its.toArray n)
   ⟨e,rfl,⟨_,e,rfl⟩,call_meets F.slot_list_mul ⟨_,e,rfl⟩ F.entry_list_mul (F.args_list_mul_2 _ _) (AutoListH.list___mul___list_int_3 l its.toArray n k t hfit hcap hlong) ⟨e,?_⟩⟩)
 rw[hnew];exact⟨.ref _,_,I.lnew (t':=s.toks) (r.rep k.toNat) (by rw[Vg,Nat.mul_comm];exact hz),rfl,q _ I.fresh⟩
end
section
variable {prog:Program} {w:World} {A:Around} {E:Value->Shared->Prop} {s:Shared}
set_option maxRecDepth 100000 in
end
section
variable {X:Cx}
end
end L2
namespace Att
open PySem PySem.W PySem.Calls PyProof.Rows
theorem XQ {P:Params} {h:Heap}:∀ (ns:List Int) (vs:List Value),WellAll P h vs (ns.map WData.int)->IntsAre vs ns:=by
 intro ns
 induction ns with
 | nil =>
  intro vs w;rw[List.map_nil] at w;cases w;exact .nil
 | cons n ns ih =>
  intro vs w;rw[List.map_cons] at w;cases w with
  | cons a b =>
   cases a;exact .cons _ _ (ih _ b)
theorem script_of {l:OpenLaw} {n:Nat} (hn:l.most=some n) {P:Params} {h:Heap} {args:List WData} {vals:List Value}
  (hpre:l.row.toRowW.claim.pre args=true) (hwl:WellAll P h vals args) :
  ∃ a vs ns,vals=[Value.ref a]/\args=[WData.list (ns.map WData.int)]/\h.get? a=some {cls:=.type "list",data:=.seq vs.toArray}/\IntsAre vs ns/\ns.length<=n:=by
 have hsh:WShape.hasAll [] args [.list .int]=true:=(pre_splitW hpre).1;have hc:l.pre.holds [] {args:=args}=true:=(pre_splitW hpre).2;obtain⟨d,r,rfl,h1,h2⟩:=hasAllW_cons hsh;obtain rfl:=hasAllW_nil h2;obtain⟨xs,rfl,h3⟩:=hasW_list h1;obtain⟨ns,rfl⟩:=items_int h3;have hlen:ns.length<=n:=by
  unfold OpenLaw.pre at hc;have h4:(WTm.not (.lt (.lit (.int (n:Int))) (.len (.arg 0)))).holds [] {args:=[.list (ns.map .int)]}=true:=by
   have h4:=(holds_andW hc).1;rw[hn] at h4;exact h4
  have h5:=condW_of h4 (w_not (w_lt w_lit (w_len_list (w_arg rfl))));rw[List.length_map] at h5;refine Nat.le_of_not_lt fun q=>?_;have q':(n:Int)<((ns.length:Nat):Int):=by omega
  first
   | (rw [decide_eq_true q'] at h5;exact absurd h5 (by decide))
   | (simp at h5;omega)
 cases hwl with
 | cons w1 w2 =>
  cases w2;cases w1 with
  | list ho hall=>exact⟨_,_,ns,rfl,rfl,ho,XQ ns _ hall,hlen⟩
theorem post_true (l:OpenLaw) (args:List WData):l.row.toRowW.claim.post args (.bool true) args=true :=
 postW_of (r:=l.row.toRowW) (X:=(true==true))
  (show WShape.has [] (.bool true) .bool=true by first|rfl|decide|simp[WShape.has,WShape.arms,WShape.armsAll])
  (show (WTm.eq .res (.lit (.bool true))).value [] {args:=args,res:=some (.bool true),after:=args}=some (.bool (true==true)) from w_eq_bool (w_res rfl) w_lit) rfl
section
variable {prog:Program} {w:World} {A:Around} {E:Value->Shared->Prop} {s:Shared} {K:Frag}
end
end Att
namespace L2
open PySem PySem.Spec PyProof.Rows
theorem vals_ints:∀ {vs:List Value} {ns:List Int},IntsAre vs ns->Vals (ns.map V.int) vs
 | _,_,.nil=>.nil
 | _,_,.cons n t h=>.cons ⟨t,rfl⟩ (vals_ints h)
noncomputable def Only (H:Hp):Prop:=∀ b,H b=none\/∃ o xs,H b=some (.frz o (.lst xs))
theorem AM {P:Program} {w:World} {K:Frag} {mg mb:Str->Option Value} {CX:CXT} {k:Nat} {fa a:Addr} {fd:FuncData} {x:Str} {sp:Sp} {s₁:Shared} {vs:List Value} {ns:List Int}
  (KX:K.In s₁.heap) (hns:s₁.heap.Ns mainGlobals mg) (hb:s₁.heap.Ns builtinsNs mb) (hbb:∀ x:Str,x≠"__name__"->mb x=bootBuiltins x) (hlim:s₁.heap.NoLimit) (hg:s₁.gens=#[])
  (ha:s₁.heap.get? a=some {cls:=.type "list",data:=.seq vs.toArray}) (hi:IntsAre vs ns) (hl:ns.length<=sizeLine) (hr:Room k callerA)
  (F:∀ base:Heap,K.In base->base.Ns mainGlobals mg->FnOk P w K mg base CX k fa fd [x] sp) (hbind:∀ (s:Shared) (u:Value),BindsTo s fd ⟨[u],[]⟩ [(x,u)])
  (hsp:∀ H:Hp,Only H->SqL K H a (ns.map V.int)->sp [.ref a] H (fun v _=>v=.bl true) fun _ _ _=>False)
  (hCX:∀ H e s',CX [] H s₁ (fun _ _ _=>False) e s'->False) :
  codeAny (model P w) callerA (.call (.ref fa) ⟨[.ref a],[]⟩) (fun r s'=>r=.ok (.ret (.bool true))/\OldK s₁.heap s'.heap/\s'.os=s₁.os/\AllBare s'.gens) s₁:=by
 have rv:=vals_ints hi;have lenV:=hi.length;have core:∀ H:Hp,Only H->SqL K H a (ns.map V.int)->HOk P w H s₁.heap->(∀ b,H b≠none->b=a)->(H a≠none->K.lookup a=none) ->
   codeAny (model P w) callerA (.call (.ref fa) ⟨[.ref a],[]⟩) (fun r s'=>r=.ok (.ret (.bool true))/\OldK s₁.heap s'.heap/\s'.os=s₁.os/\AllBare s'.gens) s₁:=by
  intro H hO hS hok hA hK;have base_of:∀ {b:Addr} {o:Obj},s₁.heap.get? b=some o->H b=none->(hidT s₁.heap H).get? b=some o:=fun e n=>AU e n;have noA:∀ {b:Addr} {o:Obj} {es:Array DictEntry} {ep:Nat},s₁.heap.get? b=some o->o.data=.dict es ep->H b=none:=fun {b o es ep} e d=>by
   cases q:H b with
   | none=>rfl
   | some u =>
    have e':b=a:=hA b (by rw[q];simp);subst e';rw[ha] at e;cases e;have d':Data.seq vs.toArray _=Data.dict es ep:=d;cases d'
  have nsK:∀ {b:Addr} {m:Str->Option Value},s₁.heap.Ns b m->(hidT s₁.heap H).Ns b m:=fun {b m} ⟨o,es,ep,e,d,r⟩=>⟨o,es,ep,base_of e (noA e d),d,r⟩;have hKb:K.In (hidT s₁.heap H):=fun b o e=>base_of (KX b o e) (by
   cases q:H b with
   | none=>rfl
   | some u =>
    have e':b=a:=hA b (by rw[q];simp);subst e';rw[hK (by rw[q];simp)] at e;cases e)
  have hM:Mod K mg (hidT s₁.heap H):=⟨hKb,nsK hns,⟨mb,nsK hb,hbb⟩,let ⟨mc,h1,h2⟩:=hlim;⟨mc,nsK h1,h2⟩⟩;have e0:Env0 P w K mg (hidT s₁.heap H) callerA [] s₁ H:=⟨rfl,hM,fun b o e=>BY e,Nat.le_of_eq (JP _ _),trivial,fun b hb=>absurd (show b∈([]:List Addr) from hb) (by simp),hok,.of_eq hg⟩;refine codeAny_mono ((F _ hKb (nsK hns)).run callerA [] s₁ H ⟨[.ref a],[]⟩ [.ref a] [.ref a] _ _ hr e0 (hbind s₁ (.ref a)) (.cons rfl .nil) (hsp H hO hS)) fun r s' h=>?_;cases r with
  | error e=>exact (hCX H e s' h).elim
  | ok fl =>
   cases fl with
   | next=>exact False.elim h
   | brk=>exact False.elim h
   | cont=>exact False.elim h
   | ret u =>
    obtain⟨v,H',os,bare,un,hok',r',q⟩:=h;have q':v=.bl true:=q;subst q';obtain rfl:u=Value.bool true:=r';refine⟨rfl,OldK.of_keep fun b o e=>?_,os,bare⟩;cases q:H b with
    | none=>exact un.keep b o e q (by intro z;exact absurd (show b∈([]:List Addr) from z) (by simp)) (by simp)
    | some u =>
     rcases hO b with z|⟨ob,xs,z⟩
     ·rw[q] at z;cases z
     ·have z2:=un.frzs b ob _ z
      obtain⟨e1,_⟩:=hok b _ z;obtain⟨e2,_⟩:=hok' b _ z2;rw[e] at e1;cases e1;exact e2
 cases hk:K.lookup a with
 | some o =>
  have e:=KX a o hk;rw[ha] at e;cases e;refine core (fun _=>none) (fun _=>.inl rfl) (.inr ⟨_,vs.toArray,_,hk,rfl,rfl,rfl,by rw[List.size_toArray,lenV];exact hl,by simpa using rv⟩) (fun b u z=>by have z':(none:Option HO)=some u:=z;cases z') (fun b z=>absurd rfl z) fun z=>absurd rfl z
 | none =>
  refine core (fun b=>if b=a then some (.frz {cls:=.type "list",data:=.seq vs.toArray} (.lst (ns.map V.int))) else none) (fun b=>?_) (.inl (.inr ⟨{cls:=.type "list",data:=.seq vs.toArray},if_pos rfl⟩)) (fun b u z=>?_) (fun b z=>?_) fun _=>hk
  ·by_cases hb:b=a
   ·exact .inr ⟨_,_,if_pos hb⟩
   ·exact .inl (if_neg hb)
  ·by_cases hb:b=a
   ·have z':=(if_pos hb).symm.trans z
    cases z';subst hb;exact⟨ha,by rw[List.length_map];exact hl,vs,_,rv,ha⟩
   ·have z':=(if_neg hb).symm.trans z
    cases z'
  ·by_cases hb:b=a
   ·exact hb
   ·exact absurd (if_neg hb) z
end L2
namespace L2
open PySem PySem.Spec PyProof.Rows
end L2
namespace L2
open PySem PySem.Spec PyProof.Rows
noncomputable def ZV (s:Stmt):Arguments:=match s with
 | .FunctionDef _ a _ _ _ _ _ _ _ _=>a
 | _=>{posonlyargs:=[],args:=[],vararg:=none,kwonlyargs:=[],kw_defaults:=[],kwarg:=none,defaults:=[]}
noncomputable def Y1 (s:Stmt):List Stmt:=match s with
 | .FunctionDef _ _ b _ _ _ _ _ _ _=>b
 | _=>[]
noncomputable def Y0 (s:Stmt):Scope:=match s with
 | .FunctionDef _ _ _ _ _ _ sc _ _ _=>sc
 | _=>{kind:=.function,names:=[],isGenerator:=false,isCoroutine:=false}
abbrev E0:XK:=fun _ _ _=>False
structure Fun (K:Frag) (x qual:Str) (st:Stmt) (f:Addr) (fd:FuncData):Prop where
 ex:∃ (oc:Value) (od:Option Addr) (kV doc pm:Value) (an:Option Addr) (cdv ct:Value) (osl:Array (Option Value)),
  fd=PySem.W.fnOf x qual (ZV st) (Y1 st) (Y0 st) .none kV doc pm an cdv ct/\K.lookup f=some ⟨oc,od,.func fd,osl⟩/\PySem.W.codeIn K cdv qual=true
 kp:PySem.W.keepIn K (.ref f)=true
section
variable {P:Program} {w:World} {K:Frag} {mg:Str->Option Value} {base:Heap}
theorem Fun.binds {x qual:Str} {st:Stmt} {f:Addr} {fd:FuncData} {ps:List Str} (F:Fun K x qual st f fd)
  (h:∀ (kV doc pm:Value) (an:Option Addr) (cdv ct:Value) (us:List Value),us.length=ps.length->bindArgs (PySem.W.fnOf x qual (ZV st) (Y1 st) (Y0 st) .none kV doc pm an cdv ct) ⟨us,[]⟩=pure (ps.zip us)):Binds K fd ps []:=by
 obtain⟨oc,od,kV,doc,pm,an,cdv,ct,osl,rfl,lk,hcd⟩:=F.ex;exact .all (h kV doc pm an cdv ct)
theorem Y6 {x qual:Str} {st:Stmt} {f:Addr} {oc:Value} {od an:Option Addr} {osl:Array (Option Value)} {kV doc pm cdv ct:Value} (l:K.lookup f=some ⟨oc,od,.func (PySem.W.fnOf x qual (ZV st) (Y1 st) (Y0 st) .none kV doc pm an cdv ct),osl⟩)
  (c:PySem.W.codeIn K cdv qual=true) (k:PySem.W.keepIn K (.ref f)=true):Fun K x qual st f (PySem.W.fnOf x qual (ZV st) (Y1 st) (Y0 st) .none kV doc pm an cdv ct):=⟨⟨oc,od,kV,doc,pm,an,cdv,ct,osl,rfl,l,c⟩,k⟩
end
section
variable {X:Cx}
end
end L2
end
noncomputable section
namespace L2
open PySem PySem.Spec PyProof.Rows
section
variable {κ:Type} [DecidableEq κ]
end
section
variable {P:Program} {w:World} {H:Hp} {h:Heap} {a:Addr}
end
section
variable {X:Cx} {pins:List (Addr×Obj)} {σ:St} {H:Hp} {s:Shared} {a:Addr} {y v:V} {u r:Value} {o:Option V} {A:Around} {E:Value->Shared->Prop}
theorem Inv.big (I:Inv X pins σ H s):sysModules<s.heap.objs.size:=by
 have h:mainGlobals<s.heap.objs.size:=(I.mod.glob.keeps I.bk).lt;exact Nat.lt_trans (by decide) h
end
section
variable {X:Cx} {pins:List (Addr×Obj)} {σ:St} {H:Hp} {s:Shared} {a:Addr} {kvs:List (Key×V)} {k:Key} {u:Value} {A:Around} {E:Value->Shared->Prop}
end
section
variable {X:Cx} {o i e value:Expr} {pos pos' tpos:Pos} {td ty tv:TE}
end
theorem Bg {P:Program} {w:World} {H:Hp} (h:Heap) (hb:sysModules<h.objs.size):ObjOk P w H (h.push {cls:=.type "dict",data:=.dict #[]}) h.objs.size (.dK []) :=
 ⟨Nat.zero_le _,beq_eq_false_iff_ne.mpr (Ne.symm (Nat.ne_of_lt hb)),[],.nil,Heap.DictOf.new h⟩
noncomputable def Dg:TE:=fun _ H Q=>∀ p,H p=none->Q (.ref p) (upd H p (.dK []))
section
variable {X:Cx} {pos:Pos}
theorem pe_dnewK:PE X (.Dict [] [] pos) Dg:=fun pins s σ H Q I h =>
 wpAny_Dict_empty ⟨.ref s.heap.objs.size,_,I.laid (a:=s.heap.objs.size) (o:=.dK []) (t':=s.toks) (fun _ _ q=>Heap.get?_push_of_some _ q) %[|3] (Bg s.heap I.big),rfl,h _ (I.hok.fresh %[|3])⟩
end
structure M1 (X:Cx) (o:Expr) (m:Str) (apos:Pos) (e:Expr) (cpos:Pos):Prop where
 base:attributeBase o m X.env (eval o X.env)=eval o X.env
 few:((backTo cpos (starEach [e] X.env)).all (fun x=>!x.1)&&(backToKw cpos (keywordEach [] X.env)).all (fun x=>x.1.isSome)
  && decide (([e]:List Expr).length+([]:List Keyword).length+(if ([]:List Keyword).isEmpty then 0 else 1)<30))=true
 line:(apos.endLine==cpos.line)=true
 trees:backTo cpos (starEach [e] X.env)=[(false,eval e X.env)]
structure M2 (X:Cx) (o:Expr) (m:Str) (apos:Pos) (e f:Expr) (cpos:Pos):Prop where
 base:attributeBase o m X.env (eval o X.env)=eval o X.env
 few:((backTo cpos (starEach [e,f] X.env)).all (fun x=>!x.1)&&(backToKw cpos (keywordEach [] X.env)).all (fun x=>x.1.isSome)
  && decide (([e,f]:List Expr).length+([]:List Keyword).length+(if ([]:List Keyword).isEmpty then 0 else 1)<30))=true
 line:(apos.endLine==cpos.line)=true
 trees:backTo cpos (starEach [e,f] X.env)=[(false,eval e X.env),(false,eval f X.env)]
section
variable {X:Cx} {pins:List (Addr×Obj)} {σ:St} {H:Hp} {s:Shared} {a:Addr} {y d:V} {u r:Value} {o:Option V} {A:Around} {E:Value->Shared->Prop}
end
section
variable {X:Cx} {o e f:Expr} {apos cpos:Pos} {td ty tx:TE}
end
section
variable {X:Cx} {pins:List (Addr×Obj)} {σ:St} {H:Hp} {s:Shared} {a:Addr} {kvs:List (Key×V)} {A:Around} {E:Value->Shared->Prop}
end
section
variable {X:Cx} {pins:List (Addr×Obj)} {σ:St} {H:Hp} {s:Shared} {a:Addr} {y:V} {u:Value} {A:Around} {E:Value->Shared->Prop}
end
end L2
end
noncomputable section
theorem nfx {P:Prop} (h:false=true):P:=absurd h Bool.false_ne_true
namespace DL
open PySem PySem.Spec PyProof.Rows L2
theorem Wi (o:Obj) (f):(o.mapFields f).dict=o.dict:=by obtain⟨c,d,dt,sl⟩:=o;cases dt<;>rfl
noncomputable def XN (h:Heap) (b:Addr):Prop:=∃ o vs,h.get? b=some o/\o.data=.fields vs/\vs[2]?=some .none
noncomputable def Near (h h':Heap):Prop:=h.UpToSlots h'/\(∀ b o,h.get? b=some o->∃ o',h'.get? b=some o')/\∀ b,XN h b->XN h' b
theorem XA {h:Heap} {b T:Addr} {oT:Obj} {ts:Array Value} {k:Nat} {v:Value} (hk:k≠2) (q:h.get? T=some oT) (dt:oT.data=.fields ts) (c:XN h b):XN (h.update T (Obj.mapFields (·.setIfInBounds k v))) b:=by
 obtain⟨o,vs,q1,q2,q3⟩:=c;by_cases z:b=T
 ·subst z
  rw[q] at q1;cases q1;rw[dt] at q2;cases q2;exact⟨_,_,Heap.get?_update_self _ q (Obj.isFreed_of_fields (Obj.data_mapFields dt _)),Obj.data_mapFields dt _,by rw[Array.getElem?_setIfInBounds_ne hk];exact q3⟩
 ·exact⟨o,vs,by rw[Heap.get?_update_other _ _ (Ne.symm z)];exact q1,q2,q3⟩
theorem Near.trans {h h1 h2:Heap} (a:Near h h1) (b:Near h1 h2):Near h h2:=⟨a.1.trans b.1,fun c o q=>let ⟨_,q1⟩:=a.2.1 c o q;b.2.1 c _ q1,fun c q=>b.2.2 c (a.2.2 c q)⟩
theorem Near.kept {h h':Heap} (k:∀ b o,h.get? b=some o->h'.get? b=some o):Near h h':=⟨.of_keeps k,fun b o q=>⟨o,k b o q⟩,fun b ⟨o,vs,q,r⟩=>⟨o,vs,k b o q,r⟩⟩
structure Flies (B:Heap) (l:List Env) (e:Addr) (cls:Value) (dd:Option Addr) (fl:Value) (h:Heap):Prop where
 stays:B.StaysIn h
 new:B.get? e=none
 frames:h.FunFrames B l
 tr:∃ oe vs T oT ts,h.get? e=some oe/\oe.cls=cls/\oe.dict=dd/\oe.data=.fields vs/\vs[1]?=some (.ref T)/\B.get? T=none/\T≠e/\h.get? T=some oT/\oT.data=.fields ts/\ts[3]?=some fl
section
variable {M:Model} {A:Around} {Z:Value->Shared->Prop} {s:Shared} {B:Heap} {env:Env} {outer:List Env} {L e:Addr} {Q:Unit->Shared->Prop}
theorem WO {oe:Obj} {vs:Array Value} {head:Value} {hn:Bool} (fr:A.frames=some (env::outer)) (ff:s.heap.FunFrames B (env::outer)) (fl:env.frame=some L)
  (at_:s.heap.get? e=some oe) (st:B.StaysIn s.heap) (nw:B.get? e=none) (dt:oe.data=.fields vs) (sz:1<vs.size)
  (go:∀ h',Flies B (env::outer) e oe.cls oe.dict (rawInt L) h'->Near s.heap h'->Q () {s with heap:=h'}) :
  wpAny M A (do let x <- frameOf env;let y <- entryPlaceOf L hn;let z <- EntryCells.newEntry head x .none (rawInt L) .none y;setField (.ref e) 1 z) Q Z s:=by
 have nfr:e ∉ (env::outer).filterMap (·.frame):=fun z=>by
  obtain⟨_,o,q,r⟩:=ff.mem z;rw[at_] at q;cases q;exact r vs dt
 refine wpAny_bind (wpAny_frameOf_fun fr ff fl fun g sl=>wpAny_bind (wpAny_entryPlaceOf fun pl ok=>?_));unfold EntryCells.newEntry newFields;refine wpAny_bind (wpAny_newObj_type ?_ (ok.sizeOk5 _ _ _ _ _));generalize hO:({cls:=.type "traceback",dict:=none,data:=.fields ([head,.ref L,.none,rawInt L,.none]++(if pl.isEmpty then List.replicate 6 Value.none else pl)).toArray}:Obj)=ob;have ge:g.get? e=some oe:=(sl.2.1 e nfr).trans at_;have gB:B.StaysIn g:=fun b o q=>(sl.2.1 b fun z=>by rw[(ff.mem z).1] at q;cases q).trans (st b o q);have ge':(g.push ob).get? e=some oe:=Heap.get?_push_of_some _ ge;have obf:ob.isFreed=false:=by subst hO;rfl
 have gT:(g.push ob).get? g.objs.size=some ob:=Heap.get?_push_size g obf;have Te:g.objs.size≠e:=Nat.ne_of_gt (Heap.lt_size ge);refine wpAny_setField ge' dt sz ?_;have d3:=Obj.data_mapFields dt (·.setIfInBounds 1 (Value.ref g.objs.size));have e3:=Heap.get?_update_self (Obj.mapFields (·.setIfInBounds 1 (Value.ref g.objs.size))) ge' (Obj.isFreed_of_fields d3);have oth:∀ b o,b≠e->g.get? b=some o->((g.push ob).update e (Obj.mapFields (·.setIfInBounds 1 (Value.ref g.objs.size)))).get? b=some o:=fun b o n q=>by
  rw[Heap.get?_update_other _ _ (Ne.symm n)];exact Heap.get?_push_of_some _ q
 have nrec:∀ b o,s.heap.get? b=some o->(∀ ws,o.data≠.fields ws)->b≠e:=fun b o q r z=>by
  rw[z,at_] at q;cases q;exact r vs dt
 refine go _ ⟨fun b o q=>oth b o (fun z=>by rw[z,nw] at q;cases q) (gB b o q),nw,ff.of_keeps fun b o q r=>?_,?_⟩ ⟨fun b o q r=>?_,fun b o q=>?_,fun b c=>?_⟩
 ·obtain⟨x,y⟩:=sl.2.2 b o q
  exact⟨_,oth b _ (nrec b o q r) y,rfl⟩
 ·refine⟨_,_,g.objs.size,ob,_,e3,Obj.cls_mapFields _ _,Wi _ _,d3,by simp[sz],gB.fresh,Te,?_,by subst hO;rfl,?_⟩
  ·rw[Heap.get?_update_other _ _ (Ne.symm Te)];exact gT
  ·simp
 ·obtain⟨x,y⟩:=sl.2.2 b o q
  exact⟨x,oth b _ (nrec b o q r) y⟩
 ·by_cases z:b=e
  ·subst z;exact⟨_,e3⟩
  ·obtain⟨x,y⟩:=sl.2.2 b o q
   exact⟨_,oth b _ z y⟩
 ·obtain⟨o,ws,q1,q2,q3⟩:=c
  have nb:b ∉ (env::outer).filterMap (·.frame):=fun z=>by
   obtain⟨_,o',q,r⟩:=ff.mem z;rw[q1] at q;cases q;exact r ws q2
  exact XA (by decide) ge' dt ⟨o,ws,Heap.get?_push_of_some _ ((sl.2.1 b nb).trans q1),q2,q3⟩
theorem JS {oe:Obj} {vs:Array Value} (fr:A.frames=some (env::outer)) (ff:s.heap.FunFrames B (env::outer)) (fl:env.frame=some L)
  (at_:s.heap.get? e=some oe) (st:B.StaysIn s.heap) (nw:B.get? e=none) (dt:oe.data=.fields vs) (v1:vs[1]?=some .none)
  (go:∀ h',Flies B (env::outer) e oe.cls oe.dict (rawInt L) h'->Near s.heap h'->Q () {s with heap:=h'}):wpAny M A (noteFrame (.ref e) env) Q Z s:=by
 unfold noteFrame;simp only[fl];refine wpAny_bind (wpAny_field at_ dt v1 ?_);rw[if_neg (by decide)];exact WO fr ff fl at_ st nw dt (Array.getElem?_eq_some_iff.mp v1).1 go
theorem Wf {cls:Value} {dd:Option Addr} (fr:A.frames=some (env::outer)) (fl:env.frame=some L) (F:Flies B (env::outer) e cls dd .none s.heap)
  (go:∀ h',Flies B (env::outer) e cls dd (rawInt L) h'->Near s.heap h'->Q () {s with heap:=h'}):wpAny M A (noteFrame (.ref e) env) Q Z s:=by
 obtain⟨st,nw,ff,oe,vs,T,oT,ts,q1,rfl,rfl,q4,q5,q6,q7,q8,q9,q10⟩:=F;unfold noteFrame;simp only[fl];refine wpAny_bind (wpAny_field q1 q4 q5 ?_);rw[if_pos (show (Value.ref T != Value.none)=true from by simp)];refine wpAny_bind (wpAny_field q8 q9 q10 ?_);rw[if_neg (show ¬ ((Value.none==rawInt L)=true) from by simp[rawInt])];refine wpAny_bind (wpAny_setField q8 q9 (Array.getElem?_eq_some_iff.mp q10).1 ?_);have oth:∀ b,b≠T->(s.heap.update T (Obj.mapFields (·.setIfInBounds 3 Value.none))).get? b=s.heap.get? b:=fun b n=>Heap.get?_update_other _ _ (Ne.symm n);have nrec:∀ b o,s.heap.get? b=some o->(∀ ws,o.data≠.fields ws)->b≠T:=fun b o q r z=>by
  rw[z,q8] at q;cases q;exact r ts q9
 refine WO (s:={s with heap:=s.heap.update T (Obj.mapFields (·.setIfInBounds 3 Value.none))}) fr (ff.of_keeps fun b o q r=>⟨o,(oth b (nrec b o q r)).trans q,rfl⟩) fl ((oth e (Ne.symm q7)).trans q1) (fun b o q=>(oth b fun z=>by rw[z,q6] at q;cases q).trans (st b o q)) nw q4 (Array.getElem?_eq_some_iff.mp q5).1 fun h' x y=>?_;refine go h' x ⟨fun b o q r=>y.1 b o ((oth b (nrec b o q r)).trans q) r,fun b o q=>?_,fun b c=>y.2.2 b (XA (by decide) q8 q9 c)⟩;by_cases z:b=T
 ·subst z;exact y.2.1 _ _ (Heap.get?_update_self _ q8 (Obj.isFreed_of_fields (Obj.data_mapFields q9 _)))
 ·exact y.2.1 b o ((oth b z).trans q)
theorem Zd {l:List Env} {cls fl:Value} {dd:Option Addr} (F:Flies B l e cls dd fl s.heap)
  (go:∀ h',Flies B l e cls dd .none h'->Near s.heap h'->Q () {s with heap:=h'}):wpAny M A (setFlight (.ref e) none) Q Z s:=by
 obtain⟨st,nw,ff,oe,vs,T,oT,ts,q1,q2,q3,q4,q5,q6,q7,q8,q9,q10⟩:=F;have sz:=(Array.getElem?_eq_some_iff.mp q10).1;have oth:∀ b,b≠T->(s.heap.update T (Obj.mapFields (·.setIfInBounds 3 ((none:Option Addr).elim Value.none fun f=>rawInt f)))).get? b=s.heap.get? b:=fun b n=>Heap.get?_update_other _ _ (Ne.symm n);have nrec:∀ b o,s.heap.get? b=some o->(∀ ws,o.data≠.fields ws)->b≠T:=fun b o q r z=>by
  rw[z,q8] at q;cases q;exact r ts q9
 unfold setFlight;refine wpAny_bind (wpAny_field q1 q4 q5 ?_);rw[if_pos (show (Value.ref T != Value.none)=true from by simp)];refine wpAny_setField q8 q9 sz (go _ ⟨fun b o q=>(oth b fun z=>by rw[z,q6] at q;cases q).trans (st b o q),nw,ff.of_keeps fun b o q r=>⟨o,(oth b (nrec b o q r)).trans q,rfl⟩,?_⟩ ⟨fun b o q r=>⟨o.slots,(oth b (nrec b o q r)).trans q⟩,fun b o q=>?_,fun b c=>XA (by decide) q8 q9 c⟩)
 rotate_left
 ·by_cases z:b=T
  ·subst z;exact⟨_,Heap.get?_update_self _ q8 (Obj.isFreed_of_fields (Obj.data_mapFields q9 _))⟩
  ·exact⟨o,(oth b z).trans q⟩
 exact⟨oe,vs,T,_,_,(oth e (Ne.symm q7)).trans q1,q2,q3,q4,q5,q6,q7,Heap.get?_update_self _ q8 (Obj.isFreed_of_fields (Obj.data_mapFields q9 _)),Obj.data_mapFields q9 _,by simp[sz]⟩
theorem Flies.off {cls fl:Value} {dd:Option Addr} {h:Heap} (F:Flies B (env::outer) e cls dd fl h):Flies B outer e cls dd fl h:=⟨F.stays,F.new,F.frames.2.2,F.tr⟩
theorem JT {cls:Value} {dd:Option Addr} (fr:A.frames=some (env::outer)) (fl:env.frame=some L) (F:Flies B (env::outer) e cls dd .none s.heap)
  (go:∀ h',Flies B outer e cls dd .none h'->Near s.heap h'->Q () {s with heap:=h'}):wpAny M A (leaving env (.ref e)) Q Z s:=by
 unfold leaving;exact wpAny_bind (Wf fr fl F fun h1 F1 u1=>Zd F1 fun h2 F2 u2=>go h2 F2.off (u1.trans u2))
theorem UF {cls:Value} {dd:Option Addr} (fl:env.frame=some L) (F:Flies B (env::outer) e cls dd (rawInt L) s.heap)
  (go:∀ h',Flies B outer e cls dd .none h'->Near s.heap h'->Q () {s with heap:=h'}):wpAny M A (leaving env (.ref e)) Q Z s:=by
 unfold leaving;refine wpAny_bind ?_;obtain⟨oe,vs,T,oT,ts,q1,q2,q3,q4,q5,q6,q7,q8,q9,q10⟩:=F.tr;unfold noteFrame;simp only[fl];refine wpAny_bind (wpAny_field q1 q4 q5 ?_);rw[if_pos (show (Value.ref T != Value.none)=true from by simp)];refine wpAny_bind (wpAny_field q8 q9 q10 ?_);rw[if_pos (show (rawInt L==rawInt L)=true from by simp)];exact wpAny_pure (Zd F fun h2 F2 u2=>go h2 F2.off u2)
structure Made (h h':Heap) (e:Addr) (cls:Value) (dd:Option Addr):Prop where
 keeps:∀ b o,h.get? b=some o->h'.get? b=some o
 new:h.get? e=none
 at_:∃ oe vs,h'.get? e=some oe/\oe.cls=cls/\oe.dict=dd/\oe.data=.fields vs/\vs[1]?=some .none
theorem Made.of {cls:Value} {h h':Heap} {vs:List Value} (mk:Heap.MadeExcOf h h' e cls vs):Made h h' e cls none :=
 let ⟨_,q1,_,_⟩:=mk.there;⟨mk.keeps,mk.new,_,_,q1,rfl,rfl,rfl,rfl⟩
theorem UL {cls:Value} {h h':Heap} {vs:List Value} (mk:Heap.MadeExcOf h h' e cls vs):XN h' e:=let ⟨_,q1,_,_⟩:=mk.there;⟨_,_,q1,rfl,rfl⟩
theorem Made.fresh {cls:Value} {dd:Option Addr} {h h':Heap} (mk:Made h h' e cls dd) (st:B.StaysIn h):B.get? e=none:=by
 cases q:B.get? e with
 | none=>rfl
 | some o=>have:=st e o q;rw[mk.new] at this;cases this
theorem UG {cls:Value} {dd:Option Addr} {h:Heap} (fr:A.frames=some (env::outer)) (fl:env.frame=some L) (ff:h.FunFrames B (env::outer)) (st:B.StaysIn h) (mk:Made h s.heap e cls dd)
  (go:∀ h',Flies B outer e cls dd .none h'->Near s.heap h'->Q () {s with heap:=h'}):wpAny M A (leaving env (.ref e)) Q Z s:=by
 obtain⟨oe,vs,q1,rfl,rfl,q4,q5⟩:=mk.at_;unfold leaving;exact wpAny_bind (JS fr (ff.of_keeps fun b o q _=>⟨o,mk.keeps b o q,rfl⟩) fl q1 (fun b o q=>mk.keeps b o (st b o q)) (mk.fresh st) q4 q5 fun h1 F1 u1=>Zd F1 fun h2 F2 u2=>go h2 F2.off (u1.trans u2))
end
end DL
end
noncomputable section
namespace DL
open PySem PySem.Spec PyProof.Rows L2 PySem.W
section
variable {prog:Program} {w:World} {A:Around} {Z:Value->Shared->Prop} {s:Shared} {K:Frag} {x D:Addr} {ox:Obj} {od:Option Obj} {name:Str}
structure ExcCls (K:Frag) (D:Addr):Prop where
 ga:findIn K (.ref D) "__getattribute__"=some (some (.builtin "BaseException.__getattribute__"))
 hook:findIn K (.ref D) "__getattr__"=some none
 base:mroIn K D (.type "BaseException")=some true
 obj:mroIn K D (.type "object")=some true
 cls:(clsIn K D).isSome=true
 ca:findIn K (.ref D) "__class__"=some (some (.builtin "object.__class__"))
 cg:specialIn K (.builtin "object.__class__") "__get__"=some (some (.builtin "getset_descriptor.__get__"))
 ct:takesIn K (.builtin "object.__class__")=some true
theorem JV {M:Model} {nameV:Value} {Q:Unit->Shared->Prop} (L4:Looks M s.heap (isInstance (.ref x) (.type "BaseException")) true) (hq:Q () s):wpAny M A (checkBuiltinCall "BaseException.__getattribute__" ⟨[.ref x,nameV],[]⟩) Q Z s:=by
 obtain⟨hh,g,d,t,os⟩:=s;have hk:builtinKind "BaseException.__getattribute__"=some .slot:=by decide +kernel
 have hsplit:splitId "BaseException.__getattribute__"=some ("BaseException","__getattribute__"):=by decide +kernel
 have ha:=PySem.F.args_bexc_ga (.ref x) nameV;simp only[checkBuiltinCall,hk,hsplit];refine wpAny_bind (L4.at ?_)
 repeat (first|assumption|wp_step)
theorem B4 {Q:Value->Shared->Prop} {fill expr:Bool} {tk:Tok} (X:K.In s.heap) (I:InstAt s.heap x ox D od) (F:ExcCls K D)
  (h:wpAny (model prog w) A.in1 (Builtin.«object.__getattribute__» ⟨[.ref x,.str name tk],[]⟩)
   (fun fin s'=>match fin with | .done (.ret v)=>wpAny (model prog w) A (handedOut v) Q (fun _ _=>False) s' | _=>False) (fun _ _=>False) s) :
  wpAny (model prog w) A (getAttrBy (.ref x) (.str name tk) fill expr) Q Z s:=by
 obtain⟨hh,g,d,t,os⟩:=s;have L0:=I.type (M:=model prog w);have L1:=looks_findIn (M:=model prog w) X F.ga;have L2:=looks_findIn (M:=model prog w) X F.hook;have L3:=looks_mroIn (M:=model prog w) X F.base;have hx2:(Value.builtin "BaseException.__getattribute__" == Value.builtin "object.__getattribute__")=false:=by decide +kernel
 have tf:typeOf (.builtin "BaseException.__getattribute__")=pure (.type "wrapper_descriptor"):=by kernel_rfl
 unfold getAttrBy;refine wpAny_holding (wpAny_bind (L0.at (wpAny_bind (L1.at ?_))));dsimp only;rw[if_neg (by rw[hx2];simp)];unfold getAttrByItsOwn hookBefore;rw[if_pos (show onTheHeap (Value.ref D)=true from rfl)];refine wpAny_bind (L2.at ?_);unfold callGetattribute;rw[show (expr&&onTheHeap (Value.builtin "BaseException.__getattribute__"))=false from Bool.and_false _,if_neg (by simp)];refine wpAny_bind (wpAny_attempt (wpAny_holding ?_));unfold boundAndCalled bindSpecial;rw[tf];refine wpAny_bind (wpAny_bind (wpAny_pure ?_));rw[if_pos (by decide)];refine wpAny_pure (wpAny_call (codeAny_call_builtin ?pl PySem.F.entry_bexc_ga ?ck))
 case pl=>exact PySem.F.excAttr_ValueError.ga.plain
 case ck =>
  refine JV (L0.andThen L3) (wpAny_mono h (fun fin s' z=>?_) fun _ _ z=>z.elim);rcases fin with (_|_|_|_)|_<;>first|exact z.elim|exact wpAny_mono z (fun v s'' hv=>hv) fun _ _ z=>z.elim
theorem Wg (c:(clsIn K D).isSome=true) (F:ExcCls K D):findObj K D od "__class__"=some (.bind (.builtin "getset_descriptor.__get__") (.builtin "object.__class__")):=by
 obtain⟨cd,hc⟩:=Option.isSome_iff_exists.mp c;unfold findObj;rw[hc,Option.bind_some,F.ca,Option.bind_some];simp[F.cg,F.ct]
theorem JU {Q:Option Value->Shared->Prop} (X:K.In s.heap) (I:InstAt s.heap x ox D od) (F:ExcCls K D) (h:Q (some (.ref D)) {s with toks:=s.toks+1}):wpAny (model prog w) A (getAttr? (.ref x) "__class__") Q Z s:=by
 unfold getAttr? getAttrBy?;refine wpAny_bind (wpAny_mkText (wpAny_bind (wpAny_attempt (B4 (s:={s with toks:=s.toks+1}) X I F ?_))));obtain⟨hh,g,d,t,os⟩:=s;have L0:=I.type (M:=model prog w);have L1:=looks_find (M:=model prog w) X I (Wg F.cls F);unfold Builtin.«object.__getattribute__»;refine wpAny_bind (wpAny_pure (wpAny_bind ?_));show wpAny _ _ (pure _) _ _ _;refine wpAny_pure (wpAny_bind (L0.at (wpAny_bind (L1.at ?_))));dsimp only;unfold Builtin.ObjectAttr.bindTo;refine wpAny_bind (wpAny_holding (wpAny_call (class_get (s:=⟨hh,g,d,t+1,os⟩) X I F.obj ?_)));refine wpAny_pure ?_;show wpAny _ _ (handedOut (.ref D)) _ _ _;refine wpAny_pure (wpAny_pure ?_);exact h
theorem Xc (F:ExcCls K D):KitX K (.ref x) (.ref D) (fun h=>∃ ox od,InstAt h x ox D od) where
 ty:=fun _ _ _ ⟨_,_,I⟩=>I.type
 it:=fun M h X _=>by
  obtain⟨cd,hc⟩:=Option.isSome_iff_exists.mp F.cls;unfold clsIn at hc;split at hc
  ·rename_i ho
   intro A' Q' E' s' k q;unfold isType loadHead;exact wpAny_bind (wpAny_loadPart (k _ _ (X _ _ ho)) (wpAny_pure q))
  ·cases hc
 ne:=fun h tp dd its n sl X htp=>by
  obtain⟨cd,hc⟩:=Option.isSome_iff_exists.mp F.cls;refine Bool.eq_false_iff.mpr fun q=>?_;obtain rfl:D=tp:=Value.ref.inj (beq_iff_eq.mp q);unfold clsIn at hc;split at hc
  ·rename_i ho
   have z:=(X _ _ ho).symm.trans htp;cases z
  ·cases hc
 ca:=fun X ⟨_,_,I⟩ k=>JU X I F k
end
noncomputable def xPlain:List Str:=["NoNumber","NoTube","NoRow","NoMeasure","NoData","NoPrice","NoNeeds","NoRoom","NoJobs"]
noncomputable def xInit:List Str:=["NoText","NoLevel","NoCall","NoKept"]
noncomputable def xNames:List Str:="CordError" :: (xPlain++xInit)
noncomputable def Yw (n c:Str):Bool:=decide (n=c) || decide (c="CordError")
noncomputable def bmV:List Value:=[.type "ValueError",.type "Exception",.type "BaseException",.type "object"]
noncomputable def Xm (K:Frag) (n:Str):Option Addr:=match nsIn K mainGlobals n with|some (some (.ref C))=>some C|_=>none
noncomputable def Jb (K:Frag) (D:Addr):Bool :=
 (findIn K (.ref D) "__getattribute__" == some (some (.builtin "BaseException.__getattribute__")))&&(findIn K (.ref D) "__getattr__" == some none)&&(mroIn K D (.type "BaseException")==some true)&&(mroIn K D (.type "object")==some true)&&(clsIn K D).isSome
 && (findIn K (.ref D) "__class__" == some (some (.builtin "object.__class__")))&&(specialIn K (.builtin "object.__class__") "__get__" == some (some (.builtin "getset_descriptor.__get__")))&&(takesIn K (.builtin "object.__class__")==some true)
noncomputable def A8 (K:Frag):Bool:=xNames.all fun n=>match Xm K n with
 | none=>true
 | some D=>Jb K D&&(!(xPlain.contains n) || excIn K D bmV "ValueError.__new__")&&(kitOne K (.ref D) (.type "ValueError")==some true)&&(["int","bool","str","tuple","list","dict"].all fun T=>kitOne K (.ref D) (.type T)==some false)&&xNames.all fun c=>match Xm K c with
  | none=>true
  | some C=>(exmOne K (.ref D) (.ref C)==some (Yw n c))&&(kitOne K (.ref D) (.ref C)==some (Yw n c))
noncomputable def oNames:List Str:=["Funnel"]
noncomputable def oFields:List Str:=["places","touches","showing"]
noncomputable def CQ (K:Frag):Bool:=oNames.all fun n=>match Xm K n with
 | none=>true
 | some C=>plainGet K C Str.empty&&hasDictIn K C&&plainOver K C&&(findIn K (.ref C) "__setattr__" == some (some (.builtin "object.__setattr__")))&&oFields.all fun f=>findIn K (.ref C) f==some none
noncomputable def YH (K:Frag) (n:Str) (C:Addr):Prop:=nsIn K mainGlobals n=some (some (.ref C))
section
variable {K:Frag} {n c:Str} {C D:Addr}
theorem Wm (h:YH K n D):Xm K n=some D:=by unfold Xm;rw[show nsIn K mainGlobals n=some (some (.ref D)) from h]
end
end DL
end
noncomputable section
namespace DL
open PySem PySem.Spec PyProof.Rows L2 PySem.W PySem.Builtin PySem.Builtin.ObjectAttr
section
variable {prog:Program} {w:World} {A:Around} {E:Value->Shared->Prop} {h:Heap} {g:Array GenState} {d:Drawn} {t:Nat} {os:OsState}
variable {nm q:Str} {C N:Addr} {bs bm bmB bmN:List Value} {hdct:Bool} {sn:List Str} {sub:List Value} {ab:Bool} {col:Option Bool} {dd:Option Addr} {k0 k1 k2 k3 k5:Option Value} {B Bn newId nid initId inN:String}
end
noncomputable def CP:List Value->Bool
 | .ref _::r=>CP r
 | l=>l==bmV
section
variable {prog:Program} {w:World} {A:Around} {E:Value->Shared->Prop} {K:Frag} {C x:Addr} {s:Shared} {R:Result->Shared->Prop} {cd:ClassData}
end
noncomputable def WP (n:Str):Str:=if n="NoText" then "part" else if n="NoLevel" then "number" else if n="NoCall" then "row" else "name"
noncomputable def AS (f:Str):List Stmt->Bool
 | [.Expr (.Call (.Attribute (.Name c _) m ap) [.Name s _,.Constant (.str _) _ _] [] cp) _,.Assign [.Attribute (.Name s2 _) g _] (.Name x _) _]=>c == "CordError" && m == "__init__" && s == "self" && s2 == "self" && g==f&&x==f&&(ap.endLine==cp.line)
 | _=>false
noncomputable def JO (f:Str) (sc:Scope):Bool:=sc.kind==.function&&!sc.isCoroutine&&!sc.isGenerator&&(sc.names==[(("self":Str),NameKind.local),(f,.local),("CordError",.globalImplicit)])
noncomputable def Cd (f:Str) (p:Arguments):Bool:=p.posonlyargs.isEmpty&&(p.args.map (·.arg)==[("self":Str),f])&&p.vararg.isNone&&p.kwonlyargs.isEmpty&&p.kw_defaults.isEmpty&&p.kwarg.isNone
noncomputable def Fi (K:Frag) (f:Str) (fd:FuncData):Bool:=(match fd.body with | .stmts b=>AS f b|_=>false)&&JO f fd.scope&&Cd f fd.params&&fd.globals==mainGlobals&&fd.builtins==builtinsNs&&fd.closure.isEmpty&&codeIn K fd.code fd.qualname &&
 (match fd.defaults with | .ref T=>(match K.lookup T with|some ⟨_,_,.seq its _,_⟩=>its.size==1|_=>false)|_=>false)
noncomputable def AR (K:Frag) (f:Str) (fI:Addr):Bool:=match K.lookup fI with
 | some ⟨.type "function",_,.func fd,_⟩=>Fi K f fd
 | _=>false
noncomputable def B5 (K:Frag) (C:Addr):Option Addr:=match K.lookup C with
 | some ⟨.type "type",_,.cls cd,sl⟩=>(match cd.mro,sl.toList with
  | .ref C'::bm,[_,_,_,_,some (.builtin n),_]=>if (C'==C&&n == "ValueError.__new__" && !cd.hasDel&&tailIn K bmV bm&&nsOkIn K cd.ns&&cd.hasDict&&CP cd.mro) then (match nsIn K cd.ns "__init__" with|some (some (.ref f))=>some f|_=>none) else none
  | _,_=>none)
 | _=>none
noncomputable def UE (K:Frag) (n:Str) (D:Addr):Bool:=match Xm K "CordError",B5 K D with
 | some B,some fI=>(findIn K (.ref D) "__setattr__" == some (some (.builtin "object.__setattr__")))&&(findIn K (.ref D) (WP n)==some none)&&readsIn K B (.type "type")
   && (match findCls K (.ref B) (.type "type") "__init__" with|some (.val v)=>v==.builtin "ValueError.__init__" | _=>false)&&(specialIn K (.ref B) "__getattribute__" == some (some (.builtin "type.__getattribute__")))&&keepIn K (.ref D)&&AR K (WP n) fI
 | _,_=>false
noncomputable def CW (K:Frag):Bool:=xInit.all fun n=>match Xm K n with
 | none=>true
 | some D=>UE K n D
structure InitAt (K:Frag) (n:Str) (D B fI:Addr):Prop where
 ex:B5 K D=some fI
 b:Xm K "CordError"=some B
 sa:findIn K (.ref D) "__setattr__"=some (some (.builtin "object.__setattr__"))
 nf:findIn K (.ref D) (WP n)=some none
 rd:readsIn K B (.type "type")=true
 fc:findCls K (.ref B) (.type "type") "__init__"=some (.val (.builtin "ValueError.__init__"))
 sp:specialIn K (.ref B) "__getattribute__"=some (some (.builtin "type.__getattribute__"))
 kp:keepIn K (.ref D)=true
 fn:AR K (WP n) fI=true
theorem Gg {K:Frag} {n:Str} {D:Addr} (h:UE K n D=true):∃ B fI,InitAt K n D B fI:=by
 unfold UE at h;split at h
 next B fI e1 e2 =>
  simp only[Bool.and_eq_true,beq_iff_eq] at h;obtain⟨⟨⟨⟨⟨⟨h1,h2⟩,h3⟩,h4⟩,h5⟩,h6⟩,h7⟩:=h;split at h4
  next v e=>exact⟨B,fI,e2,e1,h1,h2,h3,by rw[e,beq_iff_eq.mp h4],h5,h6,h7⟩
  next=>cases h4
 next=>cases h
noncomputable def AC (K:Frag):Bool:=xNames.all fun n=>match Xm K n with
 | none=>true
 | some D=>kitOne K (.type "NoneType") (.ref D)==some false
noncomputable def Zn (K:Frag):Bool:=A8 K&&CQ K&&(CW K&&AC K)
theorem US {K:Frag} (t:Zn K=true):A8 K=true/\CQ K=true/\CW K=true/\AC K=true:=by
 unfold Zn at t;simp only[Bool.and_eq_true] at t;exact⟨t.1.1,t.1.2,t.2⟩
section
variable {K:Frag} {n c:Str} {C D:Addr}
theorem YC (t:Zn K=true) (hn:n∈xNames) (h:YH K n D):ExcCls K D/\(xPlain.contains n=true->excIn K D bmV "ValueError.__new__"=true)/\(∀ T,(T="int"\/T="bool"\/T="str"\/T="tuple"\/T="list"\/T="dict"\/T="ValueError")->kitOne K (.ref D) (.type T)=some (T == "ValueError")) /\
  ∀ c C,c∈xNames->YH K c C->exmOne K (.ref D) (.ref C)=some (Yw n c)/\kitOne K (.ref D) (.ref C)=some (Yw n c):=by
 have t:=(US t).1;unfold A8 at t;have r:=List.all_eq_true.mp t n hn;rw[Wm h] at r;simp only[Bool.and_eq_true,beq_iff_eq,Bool.or_eq_true,Bool.not_eq_true'] at r;obtain⟨⟨⟨⟨r1,r2⟩,r3⟩,r3b⟩,r4⟩:=r;unfold Jb at r1;simp only[Bool.and_eq_true,beq_iff_eq] at r1;obtain⟨⟨⟨⟨⟨⟨⟨q1,q2⟩,q3⟩,q4⟩,q5⟩,q6⟩,q7⟩,q8⟩:=r1;refine⟨⟨q1,q2,q3,q4,q5,q6,q7,q8⟩,fun z=>?_,fun T hT=>?_,fun c C hc hC=>?_⟩
 ·rcases r2 with r2|r2
  ·rw[z] at r2;cases r2
  ·exact r2
 ·have rT:∀ T∈["int","bool","str","tuple","list","dict"],kitOne K (.ref D) (.type T)=some false:=fun T hT=>beq_iff_eq.mp (List.all_eq_true.mp r3b T hT)
  rcases hT with rfl|rfl|rfl|rfl|rfl|rfl|rfl
  all_goals first|exact r3|exact rT _ (by decide)
 ·have r:=List.all_eq_true.mp r4 c hc
  rw[Wm hC] at r
  simpa only [Bool.and_eq_true,beq_iff_eq] using r
theorem AB (t:Zn K=true) (hn:n∈xNames) (h:YH K n D):kitOne K (.type "NoneType") (.ref D)=some false:=by
 have t:=(US t).2.2.2;unfold AC at t;have r:=List.all_eq_true.mp t n hn;rw[Wm h] at r;exact beq_iff_eq.mp r
end
end DL
end
noncomputable section
namespace DL
open PySem PySem.Spec PyProof.Rows L2
inductive D where
 | non|bl (b:Bool)|int (i:Int)|str (x:Str)|ty (n:String)
 | tup (ds:List D)|fz (ds:List D)|lst (a:Addr)|dct (a:Addr)|ref (a:Addr)
 | exc (n:Str) (x:D)|cls (n:Str)
 | fn (n:Str)
 | sd (xs:List Str) (ds:List D)
 | fd (xs:List Str) (ds:List D)
 deriving Inhabited
inductive MO where
 | ls (ds:List D)
 | dk (kvs:List (Key×D))
 | ob (n:Str) (fs:List (Str×D))
abbrev Mem:=Addr->Option MO
abbrev DSt:=List (Option D)
abbrev DK:=D->Mem->Prop
noncomputable def Mem.upd (M:Mem) (a:Addr) (o:MO):Mem:=fun b=>if b=a then some o else M b
theorem Y5 {M:Mem} {a:Addr} {o:MO}:M.upd a o a=some o:=if_pos rfl
theorem Yv {M:Mem} {a b:Addr} {o:MO} (h:b≠a):M.upd a o b=M b:=if_neg h
theorem Wa {M:Mem} {a:Addr} {o u:MO}:(M.upd a o).upd a u=M.upd a u:=by
 funext b;unfold Mem.upd;split<;>rfl
noncomputable def MExt (M M':Mem):Prop:=∀ a o,M a=some o->M' a=some o
theorem MExt.refl (M:Mem):MExt M M:=fun _ _ h=>h
theorem MExt.trans {M M1 M2:Mem} (a:MExt M M1) (b:MExt M1 M2):MExt M M2:=fun c o h=>b c o (a c o h)
theorem MExt.new {M:Mem} {p:Addr} {o:MO} (h:M p=none):MExt M (M.upd p o):=fun a u e=>by
 have:a≠p:=fun z=>by rw[z,h] at e;cases e
 rw[Yv this];exact e
noncomputable def alloc (M:Mem) (o:MO) (Q:Addr->Mem->Prop):Prop:=∀ p M',M p=none->MExt M M'->M' p=some o->Q p M'
theorem alloc.at {M:Mem} {o:MO} {Q:Addr->Mem->Prop} {p:Addr} (h:alloc M o Q) (hp:M p=none):Q p (M.upd p o):=h p _ hp (.new hp) Y5
noncomputable def SqF (K:Frag) (H:Hp) (a:Addr) (xs:List V):Prop :=
 (∃ o,H a=some (.frz o (.lst xs))) \/
  ∃ (o:Obj) (its:Array Value) (n:Nat),K.lookup a=some o/\o.cls=.type "list"/\o.dict=none/\o.data=.seq its n/\its.size<=sizeLine/\Vals xs its.toList
theorem SqF.sq {K:Frag} {H:Hp} {a:Addr} {xs:List V} (h:SqF K H a xs):SqL K H a xs:=by
 rcases h with ⟨o,h⟩|h
 ·exact .inl (.inr ⟨o,h⟩)
 ·exact .inr h
inductive EntK:List DictEntry->List Str->List Value->Prop
 | nil:EntK [] [] []
 | cons {e:DictEntry} {x:Str} {t:Tok} {es:List DictEntry} {xs:List Str} {us:List Value} (k:e.key=.str x t) (r:EntK es xs us):EntK (e::es) (x::xs) (e.val::us)
noncomputable def TabK (K:Frag) (a:Addr) (xs:List Str) (vs:List V):Prop :=
 (a==sysModules)=false/\∃ (o:Obj) (es:Array DictEntry) (ep:Nat) (us:List Value),K.lookup a=some o/\o.ExactDict/\o.data=.dict es ep/\EntK es.toList xs us/\Vals vs us
noncomputable def fdK (xs:List Str) (vs:List V):List (Key×V):=(xs.zip vs).map fun p=>(Sum.inr p.1,p.2)
noncomputable def FdK (H:Hp) (a:Addr) (xs:List Str) (vs:List V):Prop:=xs.length=vs.length/\∃ o,H a=some (.frz o (.dK (fdK xs vs)))
noncomputable def ZI (a C:Addr) (dd:Option Addr) (h:Heap):Prop:=∃ ob vs,h.get? a=some ob/\ob.cls=.ref C/\ob.dict=dd/\ob.data=.fields vs
noncomputable def Bz (d:Addr) (f:Str) (v:V) (h:Heap):Prop:=∃ u,RelV v u/\h.Ns1 d (fun y=>if y=f then some u else none)
mutual
inductive RelD (K:Frag) (H:Hp):V->D->Prop
 | non:RelD K H .non .non
 | bl (b:Bool):RelD K H (.bl b) (.bl b)
 | int (i:Int):RelD K H (.int i) (.int i)
 | str (x:Str):RelD K H (.str x) (.str x)
 | ty (n:String):RelD K H (.ty n) (.ty n)
 | tup {a:Addr} {vs:List V} {ds:List D} (h:SqT K H a vs) (r:RelDs K H vs ds):RelD K H (.ref a) (.tup ds)
 | fz {a:Addr} {vs:List V} {ds:List D} (h:SqF K H a vs) (r:RelDs K H vs ds):RelD K H (.ref a) (.fz ds)
 | lst (a:Addr):RelD K H (.ref a) (.lst a)
 | dct (a:Addr):RelD K H (.ref a) (.dct a)
 | ref (a:Addr):RelD K H (.ref a) (.ref a)
 | cls {C:Addr} {n:Str} (hn:n∈xNames) (hc:YH K n C):RelD K H (.ref C) (.cls n)
 | fn {C:Addr} {n:Str} (hc:YH K n C):RelD K H (.ref C) (.fn n)
 | sd {a:Addr} {xs:List Str} {vs:List V} {ds:List D} (h:TabK K a xs vs) (r:RelDs K H vs ds):RelD K H (.ref a) (.sd xs ds)
 | fd {a:Addr} {xs:List Str} {vs:List V} {ds:List D} (h:FdK H a xs vs) (r:RelDs K H vs ds):RelD K H (.ref a) (.fd xs ds)
 | exc {a C:Addr} {n:Str} (hn:n∈xNames) (hi:n ∉ xInit) (hc:YH K n C) (h:H a=some (.ext (ZI a C none))):RelD K H (.ref a) (.exc n .non)
 | excF {a C d:Addr} {n:Str} {v:V} {x:D} (hn:n∈xNames) (hi:n∈xInit) (hc:YH K n C) (h:H a=some (.ext (ZI a C (some d)))) (hd:H d=some (.ext (Bz d (WP n) v))) (r:RelD K H v x):RelD K H (.ref a) (.exc n x)
inductive RelDs (K:Frag) (H:Hp):List V->List D->Prop
 | nil:RelDs K H [] []
 | cons {v:V} {d:D} {vs:List V} {ds:List D} (h:RelD K H v d) (r:RelDs K H vs ds):RelDs K H (v::vs) (d::ds)
end
structure HExt (K:Frag) (H H':Hp):Prop where
 tup:∀ a vs,SqT K H a vs->SqT K H' a vs
 fz:∀ a vs,SqF K H a vs->SqF K H' a vs
 ex:∀ a φ,H a=some (.ext φ)->H' a=some (.ext φ)
 fd:∀ a o kws,H a=some (.frz o (.dK kws))->H' a=some (.frz o (.dK kws))
theorem HExt.refl {K:Frag} (H:Hp):HExt K H H:=⟨fun _ _ h=>h,fun _ _ h=>h,fun _ _ h=>h,fun _ _ _ h=>h⟩
theorem HExt.trans {K:Frag} {H H1 H2:Hp} (a:HExt K H H1) (b:HExt K H1 H2):HExt K H H2:=⟨fun p vs h=>b.tup p vs (a.tup p vs h),fun p vs h=>b.fz p vs (a.fz p vs h),fun p C h=>b.ex p C (a.ex p C h),fun p o kws h=>b.fd p o kws (a.fd p o kws h)⟩
noncomputable def MutL:HO->Prop
 | .lst _=>True
 | .dK _=>True
 | .ins _ _ _=>True
 | _=>False
theorem HExt.upd {K:Frag} {H:Hp} {p:Addr} {o:HO} (h:H p=none\/∃ u,H p=some u/\MutL u):HExt K H (L2.upd H p o):=by
 refine⟨fun a vs q=>?_,fun a vs q=>?_,fun a C q=>?_,fun a ob kws q=>?_⟩
 ·rcases q with (q|⟨ob,q⟩)|q
  ·refine .inl (.inl ?_)
   rw[Y9];exact q;rintro rfl;rcases h with h|⟨u,h,m⟩
   ·rw[h] at q;cases q
   ·rw[h] at q;cases q;exact m
  ·refine .inl (.inr ⟨ob,?_⟩)
   rw[Y9];exact q;rintro rfl;rcases h with h|⟨u,h,m⟩
   ·rw[h] at q;cases q
   ·rw[h] at q;cases q;exact m
  ·exact .inr q
 ·rcases q with ⟨ob,q⟩|q
  ·refine .inl ⟨ob,?_⟩
   rw[Y9];exact q;rintro rfl;rcases h with h|⟨u,h,m⟩
   ·rw[h] at q;cases q
   ·rw[h] at q;cases q;exact m
  ·exact .inr q
 ·rw[Y9];exact q
  rintro rfl;rcases h with h|⟨u,h,m⟩
  ·rw[h] at q;cases q
  ·rw[h] at q;cases q;exact m
 ·rw[Y9];exact q
  rintro rfl;rcases h with h|⟨u,h,m⟩
  ·rw[h] at q;cases q
  ·rw[h] at q;cases q;exact m
theorem RelDs.ext {K:Frag} {H H':Hp} (x:HExt K H H') {vs:List V} {ds:List D} (h:RelDs K H vs ds):RelDs K H' vs ds:=by
 induction h using RelDs.rec (motive_1:=fun v d _=>RelD K H' v d) with
 | non=>exact .non
 | bl b=>exact .bl b
 | int i=>exact .int i
 | str y=>exact .str y
 | ty n=>exact .ty n
 | tup h r ih=>exact .tup (x.tup _ _ h) ih
 | fz h r ih=>exact .fz (x.fz _ _ h) ih
 | lst a=>exact .lst a
 | dct a=>exact .dct a
 | ref a=>exact .ref a
 | cls hn h=>exact .cls hn h
 | fn h=>exact .fn h
 | sd h r ih=>exact .sd h ih
 | fd h r ih=>exact .fd ⟨h.1,h.2.elim fun o e=>⟨o,x.fd _ _ _ e⟩⟩ ih
 | exc hn hi hc h=>exact .exc hn hi hc (x.ex _ _ h)
 | excF hn hi hc h hd r ih=>exact .excF hn hi hc (x.ex _ _ h) (x.ex _ _ hd) ih
 | nil=>exact .nil
 | cons h r i1 i2=>exact .cons i1 i2
theorem RelD.ext {K:Frag} {H H':Hp} (x:HExt K H H') {v:V} {d:D} (h:RelD K H v d):RelD K H' v d:=by
 cases RelDs.ext x (.cons h .nil) with
 | cons h _=>exact h
inductive ExD (K:Frag) (H:Hp) (n:Str):Option Addr->D->Prop
 | plain (hi:n ∉ xInit):ExD K H n none .non
 | fld {d:Addr} {v:V} {x:D} (hi:n∈xInit) (hd:H d=some (.ext (Bz d (WP n) v))) (r:RelD K H v x):ExD K H n (some d) x
theorem ExD.ext {K:Frag} {H H':Hp} (y:HExt K H H') {n:Str} {dd:Option Addr} {x:D} (h:ExD K H n dd x):ExD K H' n dd x:=by
 cases h with
 | plain hi=>exact .plain hi
 | fld hi hd r=>exact .fld hi (y.ex _ _ hd) (r.ext y)
theorem ExD.rel {K:Frag} {H:Hp} {n:Str} {a C:Addr} {dd:Option Addr} {x:D} (h:ExD K H n dd x) (hn:n∈xNames) (hc:YH K n C) (e:H a=some (.ext (ZI a C dd))):RelD K H (.ref a) (.exc n x):=by
 cases h with
 | plain hi=>exact .exc hn hi hc e
 | fld hi hd r=>exact .excF hn hi hc e hd r
noncomputable def xarg:D->D
 | .exc _ x=>x
 | d=>d
@[simp] theorem Gi (n:Str) (x:D):xarg (.exc n x)=x:=rfl
section
variable {K:Frag} {H:Hp}
theorem RelDs.length:∀ {vs:List V} {ds:List D},RelDs K H vs ds->vs.length=ds.length
 | _,_,.nil=>rfl
 | _,_,.cons _ r=>congrArg (·+1) (RelDs.length r)
theorem RelDs.append:∀ {vs ws:List V} {ds es:List D},RelDs K H vs ds->RelDs K H ws es->RelDs K H (vs++ws) (ds++es)
 | _,_,_,_,.nil,q=>q
 | _,_,_,_,.cons h r,q=>.cons h (RelDs.append r q)
theorem RelDs.drop:∀ {vs:List V} {ds:List D} (n:Nat),RelDs K H vs ds->RelDs K H (vs.drop n) (ds.drop n)
 | _,_,0,r=>r
 | _,_,_+1,.nil=>.nil
 | _,_,n+1,.cons _ r=>RelDs.drop n r
theorem RelDs.take:∀ {vs:List V} {ds:List D} (n:Nat),RelDs K H vs ds->RelDs K H (vs.take n) (ds.take n)
 | _,_,0,_=>.nil
 | _,_,_+1,.nil=>.nil
 | _,_,n+1,.cons h r=>.cons h (RelDs.take n r)
theorem RelDs.get:∀ {vs:List V} {ds:List D} {i:Nat} {d:D},RelDs K H vs ds->ds[i]?=some d->∃ v,vs[i]?=some v/\RelD K H v d
 | _,_,_,_,.nil,e=>by simp at e
 | _,_,0,_,.cons h _,e=>by simp at e;subst e;exact⟨_,rfl,h⟩
 | _,_,i+1,d,.cons _ r,e=>by
  obtain⟨v,h1,h2⟩:=RelDs.get (i:=i) (d:=d) r (by simpa using e);exact⟨v,by simpa using h1,h2⟩
theorem RelDs.set {v:V} {d:D} (h:RelD K H v d):∀ {vs:List V} {ds:List D} (i:Nat),RelDs K H vs ds->RelDs K H (vs.set i v) (ds.set i d)
 | _,_,_,.nil=>.nil
 | _,_,0,.cons _ r=>.cons h r
 | _,_,i+1,.cons q r=>.cons q (RelDs.set h i r)
theorem RelDs.ints:∀ (ns:List Int),RelDs K H (ns.map V.int) (ns.map D.int)
 | []=>.nil
 | n::r=>.cons (.int n) (RelDs.ints r)
end
noncomputable def MOk (K:Frag) (H:Hp) (a:Addr):MO->Prop
 | .ls ds=>∃ vs,H a=some (.lst vs)/\RelDs K H vs ds
 | .dk kvs=>∃ kws:List (Key×V),H a=some (.dK kws)/\kws.map (·.1)=kvs.map (·.1)/\RelDs K H (kws.map (·.2)) (kvs.map (·.2))
 | .ob n fs=>∃ (C dx:Addr) (vs:List (Str×V)),YH K n C/\H a=some (.ins C dx vs)/\vs.map (·.1)=fs.map (·.1)/\RelDs K H (vs.map (·.2)) (fs.map (·.2))
noncomputable def RepM (K:Frag) (H:Hp) (M:Mem):Prop:=∀ a o,M a=some o->MOk K H a o
structure LK where
 K:Frag
 ok:Hp->Prop
 mono:∀ H H',HExt K H H'->ok H->ok H'
structure Slots (K:Frag) (H:Hp) (δ:DSt) (σ:L2.St):Prop where
 len:δ.length=σ.length
 slot:∀ (i:Nat) (d:D),δ[i]?=some (some d)->∃ v,σ[i]?=some (some v)/\RelD K H v d
structure RepS (Λ:LK) (H:Hp) (δ:DSt) (σ:L2.St):Prop extends Slots Λ.K H δ σ where
 ok:Λ.ok H
section
variable {K:Frag} {Λ:LK} {H H':Hp} {M:Mem} {δ:DSt} {σ:L2.St}
theorem Slots.ext (x:HExt K H H') (r:Slots K H δ σ):Slots K H' δ σ:=⟨r.len,fun i d e=>let ⟨v,h,q⟩:=r.slot i d e;⟨v,h,q.ext x⟩⟩
theorem RepS.ext (x:HExt Λ.K H H') (r:RepS Λ H δ σ):RepS Λ H' δ σ:=⟨r.toSlots.ext x,Λ.mono _ _ x r.ok⟩
theorem Slots.set {v:V} {d:D} (r:Slots K H δ σ) (h:RelD K H v d) (i:Nat):Slots K H (δ.set i (some d)) (σ.set i (some v)):=by
 refine⟨by simp[r.len],fun j e q=>?_⟩;by_cases hj:j=i
 ·subst hj
  by_cases hl:j < δ.length
  ·rw[List.getElem?_set_self hl] at q;cases q
   exact⟨v,List.getElem?_set_self (by rw[<- r.len];exact hl),h⟩
  ·rw[List.getElem?_eq_none (by simp;omega)] at q;cases q
 ·rw[List.getElem?_set_ne (Ne.symm hj)] at q
  obtain⟨u,h1,h2⟩:=r.slot j e q;exact⟨u,by rw[List.getElem?_set_ne (Ne.symm hj)];exact h1,h2⟩
theorem RepS.set {v:V} {d:D} (r:RepS Λ H δ σ) (h:RelD Λ.K H v d) (i:Nat):RepS Λ H (δ.set i (some d)) (σ.set i (some v)):=⟨r.toSlots.set h i,r.ok⟩
theorem MOk.fresh {a:Addr} {o:MO} (r:MOk K H a o):H a≠none:=by
 cases o with
 | ls ds=>obtain⟨vs,h,_⟩:=r;rw[h];simp
 | dk kvs=>obtain⟨vs,h,_⟩:=r;rw[h];simp
 | ob n fs=>obtain⟨C,dx,vs,_,h,_⟩:=r;rw[h];simp
theorem RepM.none (r:RepM K H M) {p:Addr} (h:H p=.none):M p=.none:=by
 cases q:M p with
 | none=>rfl
 | some o=>exact absurd h (r p o q).fresh
theorem MOk.ext {a p:Addr} {o:MO} {u:HO} (x:HExt K H (upd H p u)) (h:a≠p) (r:MOk K H a o):MOk K (upd H p u) a o:=by
 cases o with
 | ls ds=>obtain⟨vs,e,q⟩:=r;exact⟨vs,by rw[Y9 h];exact e,q.ext x⟩
 | dk kvs=>obtain⟨vs,e,k,q⟩:=r;exact⟨vs,by rw[Y9 h];exact e,k,q.ext x⟩
 | ob n fs=>obtain⟨C,dx,vs,c,e,k,q⟩:=r;exact⟨C,dx,vs,c,by rw[Y9 h];exact e,k,q.ext x⟩
theorem RepM.tup {p:Addr} {vs:List V} (r:RepM K H M) (h:H p=.none):RepM K (upd H p (.tup vs)) M:=fun a o e =>
 (r a o e).ext (.upd (.inl h)) fun z=>by subst z;rw[r.none h] at e;cases e
theorem RepM.lst {p:Addr} {vs:List V} {ds:List D} (r:RepM K H M) (h:H p=.none) (q:RelDs K H vs ds):RepM K (upd H p (.lst vs)) (M.upd p (.ls ds)):=fun a o e=>by
 by_cases z:a=p
 ·subst z;rw[Y5] at e;cases e;exact⟨vs,upd_same,q.ext (.upd (.inl h))⟩
 ·rw[Yv z] at e;exact (r a o e).ext (.upd (.inl h)) z
theorem RepM.write {p:Addr} {ws vs:List V} {ds:List D} (r:RepM K H M) (h:H p=some (.lst ws)) (q:RelDs K H vs ds):RepM K (upd H p (.lst vs)) (M.upd p (.ls ds)):=fun a o e=>by
 have x:HExt K H (upd H p (.lst vs)):=.upd (.inr ⟨_,h,trivial⟩);by_cases z:a=p
 ·subst z;rw[Y5] at e;cases e;exact⟨vs,upd_same,q.ext x⟩
 ·rw[Yv z] at e;exact (r a o e).ext x z
theorem RepM.nil:RepM K H (fun _=>Option.none):=fun _ _ e=>by cases e
end
abbrev DE:=DSt->Mem->DK->Prop
abbrev DT:=DSt->Mem->(Bool->Mem->Prop)->Prop
abbrev DA:=DSt->Mem->(List D->Mem->Prop)->Prop
structure DEnds where
 nx:DSt->Mem->Prop
 rt:DK
 bk:DSt->Mem->Prop:=fun _ _=>False
 ct:DSt->Mem->Prop:=fun _ _=>False
 ex:DSt->DK:=fun _ _ _=>False
abbrev DS:=DEnds->DSt->Mem->Prop
abbrev DSp:=List D->Mem->DK->DK->Prop
noncomputable def Vx (H:Hp) (dd:Option Addr):Prop:=dd=none\/∃ d f,dd=some d/\H d=some (.ext (Bz d f .non))
structure Thrown (P:Program) (w:World) (outer:List Env) (H:Hp) (s:Shared) (H':Hp) (e C:Addr) (dd:Option Addr) (s':Shared):Prop where
 ex:∃ B,s'.os=s.os/\AllBare s'.gens/\Un (frs outer) [] H H' s.heap s'.heap/\(∀ b o,s.heap.get? b=some o->H b=none->b ∉ frs outer->B.get? b=some o)/\HOk P w H' B/\Flies B outer e (.ref C) dd .none s'.heap
 cl:Vx H' dd->XN s'.heap e
structure Back (P:Program) (w:World) (outer:List Env) (L:Addr) (H:Hp) (s:Shared) (H':Hp) (e C:Addr) (dd:Option Addr) (s':Shared):Prop where
 ex:∃ B,s'.os=s.os/\AllBare s'.gens/\Un (frs outer) [] H H' s.heap s'.heap/\(∀ b o,s.heap.get? b=some o->H b=none->b ∉ frs outer->B.get? b=some o)/\HOk P w H' B/\Flies B outer e (.ref C) dd (rawInt L) s'.heap
 cl:Vx H' dd->XN s'.heap e
noncomputable def CXR (P:Program) (w:World):CXT:=fun outer H s E ev s'=>∃ e C dd H',ev=.ref e/\Thrown P w outer H s H' e C dd s'/\E (.ref C) dd H'
structure XeOk (X:Cx) (rz:Bool) (E:DSt->DK) (H:Hp):Prop where
 fly:∀ pins σ H1 s1 H' e C dd s' δ M' n x,HExt X.K H H'->L2.Inv X pins σ H1 s1->Thrown X.prog X.w X.stack H1 s1 H' e C dd s'->RepM X.K H' M'->Slots X.K H' δ σ->n∈xNames->YH X.K n C->ExD X.K H' n dd x->E δ (.exc n x) M'->X.xe (.ref e) s'
 made:rz=true->∀ pins σ H' h e C dd s' δ M' n x,HExt X.K H H'->L2.Inv X pins σ H' {s' with heap:=h}->Made h s'.heap e (.ref C) dd->(Vx H' dd->XN s'.heap e)->RepM X.K H' M'->Slots X.K H' δ σ->n∈xNames->YH X.K n C->ExD X.K H' n dd x->E δ (.exc n x) M'->X.xe (.ref e) s'
 back:rz=true->∀ pins σ H1 s1 H' e C dd s' δ M' n x,HExt X.K H H'->L2.Inv X pins σ H1 s1->Back X.prog X.w X.stack X.env.locals H1 s1 H' e C dd s'->RepM X.K H' M'->Slots X.K H' δ σ->n∈xNames->YH X.K n C->ExD X.K H' n dd x->E δ (.exc n x) M'->X.xe (.ref e) s'
noncomputable def _root_.L2.Cx.L (X:Cx) (rz:Bool) (E:DSt->DK):LK where
 K:=X.K
 ok:=XeOk X rz E
 mono:=fun H H' x h=>⟨fun pins σ H1 s1 H2 e C dd s' δ M' n xd y=>h.fly pins σ H1 s1 H2 e C dd s' δ M' n xd (x.trans y),fun r pins σ H2 h0 e C dd s' δ M' n xd y=>h.made r pins σ H2 h0 e C dd s' δ M' n xd (x.trans y),fun r pins σ H1 s1 H2 e C dd s' δ M' n xd y=>h.back r pins σ H1 s1 H2 e C dd s' δ M' n xd (x.trans y)⟩
abbrev X0:DSt->DK:=fun _ _ _=>False
theorem A7 {X:Cx} {rz:Bool} {H:Hp}:XeOk X rz X0 H:=⟨fun _ _ _ _ _ _ _ _ _ _ _ _ _ _ _ _ _ _ _ _ _ z=>z.elim,fun _ _ _ _ _ _ _ _ _ _ _ _ _ _ _ _ _ _ _ _ _ _ z=>z.elim,fun _ _ _ _ _ _ _ _ _ _ _ _ _ _ _ _ _ _ _ _ _ _ z=>z.elim⟩
section
variable (Λ:LK) (K:Frag)
noncomputable def lift (t:DE):TE:=fun σ H Q=>∃ δ M R,RepS Λ H δ σ/\RepM Λ.K H M/\t δ M R/\∀ d M' v H',HExt Λ.K H H'->RepM Λ.K H' M'->RelD Λ.K H' v d->R d M'->Q v H'
noncomputable def YO (t:DT):TT:=fun σ H Q=>∃ δ M R,RepS Λ H δ σ/\RepM Λ.K H M/\t δ M R/\∀ b M' H',HExt Λ.K H H'->RepM Λ.K H' M'->R b M'->Q b H'
noncomputable def Z4 (t:DA):TA:=fun σ H Q=>∃ δ M R,RepS Λ H δ σ/\RepM Λ.K H M/\t δ M R/\∀ ds M' vs H',HExt Λ.K H H'->RepM Λ.K H' M'->RelDs Λ.K H' vs ds->R ds M'->Q vs H'
noncomputable def Yk (X:Cx) (rz:Bool) (t:DS):TS:=fun E σ H=>∃ δ M D,RepS (X.L rz D.ex) H δ σ/\RepM X.K H M/\t D δ M /\
 (∀ δ' M' σ' H',HExt X.K H H'->RepS (X.L rz D.ex) H' δ' σ'->RepM X.K H' M'->D.nx δ' M'->E.nx σ' H') /\
 (∀ d M' v H',HExt X.K H H'->RepM X.K H' M'->RelD X.K H' v d->D.rt d M'->E.rt v H') /\
 (∀ δ' M' σ' H',HExt X.K H H'->RepS (X.L rz D.ex) H' δ' σ'->RepM X.K H' M'->D.bk δ' M'->E.bk σ' H') /\
 (∀ δ' M' σ' H',HExt X.K H H'->RepS (X.L rz D.ex) H' δ' σ'->RepM X.K H' M'->D.ct δ' M'->E.ct σ' H')
noncomputable def YJ (f:D->D->Mem->DK->Prop):R2:=fun x y H Q=>∃ d e M R,RelD K H x d/\RelD K H y e/\RepM K H M/\f d e M R/\∀ d' M' v H',HExt K H H'->RepM K H' M'->RelD K H' v d'->R d' M'->Q v H'
noncomputable def ZD (f:List D->Mem->DK->Prop):List V->Hp->VK->Prop:=fun xs H Q=>∃ ds M R,RelDs K H xs ds/\RepM K H M/\f ds M R/\∀ d' M' v H',HExt K H H'->RepM K H' M'->RelD K H' v d'->R d' M'->Q v H'
noncomputable def X1 (S:DSp):Sp:=fun xs H Q E=>∃ ds M R Ed,RelDs K H xs ds/\RepM K H M/\S ds M R Ed/\(∀ d' M' v H',HExt K H H'->RepM K H' M'->RelD K H' v d'->R d' M'->Q v H') /\
 ∀ n M' H' C dd x,HExt K H H'->RepM K H' M'->n∈xNames->YH K n C->ExD K H' n dd x->Ed (.exc n x) M'->E (.ref C) dd H'
end
theorem _root_.L2.PE.imp {X:Cx} {e:Expr} {t t':TE} (h:PE X e t) (i:∀ σ H Q,t' σ H Q->t σ H Q):PE X e t':=fun pins s σ H Q I q=>h pins s σ H Q I (i _ _ _ q)
theorem _root_.L2.PT.imp {X:Cx} {e:Expr} {t t':TT} (h:PT X e t) (i:∀ σ H Q,t' σ H Q->t σ H Q):PT X e t':=fun pins s σ H Q I q=>h pins s σ H Q I (i _ _ _ q)
theorem _root_.L2.PA.imp {X:Cx} {e:List Expr} {t t':TA} (h:PA X e t) (i:∀ σ H Q,t' σ H Q->t σ H Q):PA X e t':=fun pos pins s σ H Q I q=>h pos pins s σ H Q I (i _ _ _ q)
theorem _root_.L2.PS.imp {X:Cx} {e:Stmt} {t t':TS} (h:PS X e t) (i:∀ D σ H,t' D σ H->t D σ H):PS X e t':=fun pins s σ H D I q=>h pins s σ H D I (i _ _ _ q)
theorem _root_.L2.PSs.imp {X:Cx} {e:List Stmt} {t t':TS} (h:PSs X e t) (i:∀ D σ H,t' D σ H->t D σ H):PSs X e t':=fun pins s σ H D I q=>h pins s σ H D I (i _ _ _ q)
theorem _root_.L2.OpR.imp {X:Cx} {f:Value->Value->Sem Value} {r r':R2} (h:OpR X f r) (i:∀ x y H Q,r' x y H Q->r x y H Q):OpR X f r':=fun pins s σ H x y v u Q I a b q=>h pins s σ H x y v u Q I a b (i _ _ _ _ q)
theorem _root_.L2.CallR.imp {X:Cx} {f:Value} {r r':List V->Hp->VK->Prop} (h:CallR X f r) (i:∀ x H Q,r' x H Q->r x H Q):CallR X f r':=fun pins s σ H x u Q I a q=>h pins s σ H x u Q I a (i _ _ _ q)
noncomputable def vHd:Option D->(D->Prop)->Prop
 | some d,P=>P d
 | none,_=>False
noncomputable def vAt:DSt->Nat->(D->Prop)->Prop
 | x::_,0,P=>vHd x P
 | _::r,i+1,P=>vAt r i P
 | [],_,_=>False
theorem Ue:∀ {δ:DSt} {i:Nat} {P:D->Prop},vAt δ i P->∃ d,δ[i]?=some (some d)/\P d
 | some d::_,0,_,h=>⟨d,rfl,h⟩
 | _::r,i+1,_,h=>Ue (δ:=r) h
theorem V4:∀ {δ:DSt} {i:Nat} {P:D->Prop} {d:D},δ[i]?=some (some d)->P d->vAt δ i P
 | some d::_,0,_,_,e,h=>by cases e;exact h
 | none::_,0,_,_,e,_=>by cases e
 | _::r,i+1,P,_,e,h=>show vAt r i P from V4 (by simpa using e) h
noncomputable def dVar (i:Nat):DE:=fun δ M Q=>vAt δ i fun d=>Q d M
noncomputable def dC (d:D):DE:=fun _ M Q=>Q d M
noncomputable def d2 (f:D->D->Mem->DK->Prop) (ta tb:DE):DE:=fun δ M Q=>ta δ M fun x M1=>tb δ M1 fun y M2=>f x y M2 Q
noncomputable def d1 (f:D->Mem->DK->Prop) (ta:DE):DE:=fun δ M Q=>ta δ M fun x M1=>f x M1 Q
noncomputable def dNil:DA:=fun _ M Q=>Q [] M
noncomputable def YK (ta:DE) (tr:DA):DA:=fun δ M Q=>ta δ M fun x M1=>tr δ M1 fun xs M2=>Q (x::xs) M2
noncomputable def dTup (t:DA):DE:=fun δ M Q=>t δ M fun xs M1=>xs.length<=sizeLine/\Q (.tup xs) M1
noncomputable def dLst (t:DA):DE:=fun δ M Q=>t δ M fun xs M1=>xs.length<=sizeLine/\alloc M1 (.ls xs) fun p M'=>Q (.lst p) M'
noncomputable def dCB (f:List D->Mem->DK->Prop) (t:DA):DE:=fun δ M Q=>t δ M fun xs M1=>f xs M1 Q
noncomputable def Zr (S:DSp) (E:DSt->DK) (t:DA):DE:=fun δ M Q=>t δ M fun xs M1=>S xs M1 Q (E δ)
noncomputable def XG (t:DE):DT:=fun δ M Q=>t δ M fun x M1=>∃ k,x=.bl k/\Q k M1
noncomputable def dAnd (t u:DT):DT:=fun δ M Q=>t δ M fun c M1=>if c=true then u δ M1 Q else Q false M1
noncomputable def dOr (t u:DT):DT:=fun δ M Q=>t δ M fun c M1=>if c=true then Q true M1 else u δ M1 Q
noncomputable def dNot (t:DT):DT:=fun δ M Q=>t δ M fun c M1=>Q (!c) M1
noncomputable def D4 (ta tb:DE):DE:=fun δ M Q=>ta δ M fun x M1=>∃ c,x=.bl c/\if c=true then tb δ M1 Q else Q (.bl false) M1
noncomputable def dOrV (ta tb:DE):DE:=fun δ M Q=>ta δ M fun x M1=>∃ c,x=.bl c/\if c=true then Q (.bl true) M1 else tb δ M1 Q
noncomputable def dIfE (c:DT) (ta tb:DE):DE:=fun δ M Q=>c δ M fun b M1=>if b=true then ta δ M1 Q else tb δ M1 Q
section
variable {X:Cx} {rz:Bool} {E:DSt->DK} {a b c:Expr} {ta tb tc:DE} {pos:Pos}
theorem seq2 {Λ:LK} {σ:L2.St} {H:Hp} {δ:DSt} {M:Mem} {R:D->D->Mem->Prop} {Q:V->V->Hp->Prop} (rs:RepS Λ H δ σ) (rm:RepM Λ.K H M) (h:ta δ M fun x M1=>tb δ M1 fun y M2=>R x y M2)
  (q:∀ x y M2 v u H2,HExt Λ.K H H2->RepM Λ.K H2 M2->RelD Λ.K H2 v x->RelD Λ.K H2 u y->R x y M2->Q v u H2):lift Λ ta σ H fun v H1=>lift Λ tb σ H1 fun u H2=>Q v u H2 :=
 ⟨δ,M,_,rs,rm,h,fun _ _ _ _ x1 m1 r1 h1=>⟨δ,_,_,rs.ext x1,m1,h1,fun _ _ _ _ x2 m2 r2 h2=>q _ _ _ _ _ _ (x1.trans x2) m2 (r1.ext x2) r2 h2⟩⟩
theorem FD {i:Nat} (h:PE X a (tVar i)):PE X a (lift (X.L rz E) (dVar i)):=by
 refine h.imp ?_;rintro σ H Q ⟨δ,M,R,rs,rm,t,q⟩;obtain⟨d,e,r⟩:=Ue t;obtain⟨v,h1,h2⟩:=rs.slot i d e;exact⟨v,h1,q _ _ _ _ (.refl H) rm h2 r⟩
theorem Xz {d:D} {v:V} (h:PE X a (tC v)) (r:∀ H,RelD X.K H v d):PE X a (lift (X.L rz E) (dC d)):=by
 refine h.imp ?_;rintro σ H Q ⟨δ,M,R,rs,rm,t,q⟩;exact q _ _ _ _ (.refl H) rm (r H) t
theorem WU {Λ:LK} {f:D->D->Mem->DK->Prop} {σ:L2.St} {H:Hp} {Q:VK} (h:lift Λ (d2 f ta tb) σ H Q):tOp (YJ Λ.K f) (lift Λ ta) (lift Λ tb) σ H Q:=by
 obtain⟨δ,M,R,rs,rm,t,q⟩:=h;exact seq2 (R:=fun x y M2=>f x y M2 R) rs rm t fun x y M2 v u H2 x2 m2 r1 r2 t2=>⟨x,y,M2,R,r1,r2,m2,t2,fun d M' w H' x3 m3 r3=>q d M' w H' (x2.trans x3) m3 r3⟩
theorem FO {op:Operator} {f:D->D->Mem->DK->Prop} (ho:OpR X (binaryOp op) (YJ X.K f)) (ha:PE X a (lift (X.L rz E) ta)) (hb:PE X b (lift (X.L rz E) tb)):PE X (.BinOp a op b pos) (lift (X.L rz E) (d2 f ta tb)) :=
 (Id ho ha hb).imp fun _ _ _=>WU
end
end DL
end
noncomputable section
namespace DL
open PySem PySem.Spec PyProof.Rows L2
theorem YU:fillsNumberSlot (.type "tuple") "mul"=pure false :=
 PySem.fillsNumberSlot_seq (id:="tuple.__mul__") (r:=some (.builtin "tuple.__rmul__")) PySem.F.slot_tuple_mul.lookup (by decide +kernel) PySem.F.slot_tuple_rmul.lookup (by decide +kernel)
theorem Zv:seqRepeat? (.type "tuple")=pure (some (.builtin "tuple.__mul__")):=by
 unfold seqRepeat?;rw[PySem.seqSlot_of (T:="tuple") (name:="__mul__") (id:="tuple.__mul__") PySem.F.slot_tuple_mul.lookup (by decide +kernel),PySem.seqSlot_of (T:="tuple") (name:="__rmul__") (id:="tuple.__rmul__") PySem.F.slot_tuple_rmul.lookup (by decide +kernel)]
 rfl
theorem Zc (a:Int) (t:Tok) (l:Addr) (items:Array Value) (n:Nat) (dd:Option Addr) (sl:Array (Option Value)) :
  Meets (Builtin.«int.__rmul__» ⟨[.int a t,.ref l],[]⟩) (fun _ R s=>s.heap.get? l=some {cls:=.type "tuple",dict:=dd,data:=.seq items n,slots:=sl}/\R (.ok (.ret Value.notImplemented)) s) :=
 .of_wp fun prog w A R s h=>by obtain⟨hp,g,d,tk,os⟩:=s;obtain⟨hl,h⟩:=h;wp_walk;exact⟨_,rfl,h⟩
theorem Js (l:Addr) (items:Array Value) (n:Nat) (dd:Option Addr) (sl:Array (Option Value)) (x:Int) (u:Tok) (h0:¬ items.isEmpty=true) (h2:2<=x) (h3:x<1000000) (hs:items.size*x.toNat<=16777216) :
  Meets (Builtin.«tuple.__mul__» ⟨[.ref l,.int x u],[]⟩) (fun _ R s=>s.heap.get? l=some {cls:=.type "tuple",dict:=dd,data:=.seq items n,slots:=sl}/\R (.ok (.ret (Value.ref s.heap.objs.size))) {s with heap:=s.heap.push {cls:=Value.type "tuple",data:=Data.seq (List.foldl (fun x1 x2=>x1++x2) #[] (List.replicate x.toNat items))}}) :=
 .of_wp fun prog w A R s h=>by
  obtain⟨hp,g,d,tk,os⟩:=s;obtain⟨hl,h⟩:=h;have c1:¬ (decide (x < -2 ^ 63) || decide (x ≥ 2 ^ 63))=true:=by simp;omega
  have c2:¬ (items.isEmpty || x==1)=true:=by
   have:¬ x=1:=by omega
   simp[this];simpa using h0
  have c3:¬ (decide (x<=0) || items.isEmpty)=true:=by
   have:¬ x<=0:=by omega
   simp[this];simpa using h0
  have e:(items.size:Int)*x=((items.size*x.toNat:Nat):Int):=by
   rw[Int.natCast_mul,Int.toNat_of_nonneg (by omega)]
  have c4:¬ ((items.size:Int)*x > (2 ^ 63-1) / 8):=by rw[e];omega
  have c5:¬ Builtin.Tuple.tupleTooMany ((items.size:Int)*x)=true:=by
   rw[Bool.not_eq_true];unfold Builtin.Tuple.tupleTooMany;rw[e];refine decide_eq_false ?_;have:(sizeLine:Int)=16777216:=by decide
   omega
  have c6:¬ (List.foldl (fun x1 x2=>x1++x2) #[] (List.replicate x.toNat items)).size > sizeLine:=by
   have:(List.foldl (fun x1 x2=>x1++x2) #[] (List.replicate x.toNat items)).size=x.toNat*items.size:=by
    have:=ZT items.toList x.toNat [];rw[List.nil_append] at this;have e2:(List.foldl (fun x1 x2=>x1++x2) #[] (List.replicate x.toNat items))=(List.replicate x.toNat items.toList).flatten.toArray:=this;rw[e2,List.size_toArray,Vg];simp
   rw[this,Nat.mul_comm];exact Nat.not_lt.mpr hs
  wp_walk
  iterate 5
   (try (first|refine wpAny_ite_false (decide_eq_false c1) ?_|refine wpAny_ite_false (decide_eq_false c2) ?_|refine wpAny_ite_false (decide_eq_false c3) ?_|refine wpAny_ite_false (decide_eq_false c4) ?_|refine wpAny_ite_false (decide_eq_false c5) ?_))
   (try wp_walk)
  exact⟨_,rfl,h⟩
section
variable {X:Cx}
noncomputable def HX (K:Frag):R2:=fun x y H Q=>∃ a k xs,x=.ref a/\y=.int k/\SqT K H a xs/\xs≠[]/\2<=k/\k<1000000/\xs.length*k.toNat<=sizeLine /\
 ∀ p,H p=none->Q (.ref p) (upd H p (.tup (List.replicate k.toNat xs).flatten))
theorem BR:OpR X (binaryOp .Mult) (HX X.K):=by
 intro pins s σ H x y v u Q I rx ry h;obtain⟨a,k,xs,rfl,rfl,ha,hx,h1,h2,hz,q⟩:=h;cases rx;obtain⟨t,rfl⟩:=ry;obtain⟨its,r1,p1,_⟩:=I.tuple ha;obtain⟨⟨cls,dd,data,sl⟩,ho,hc,n,hd⟩:=id p1;simp only at hc hd;subst hc hd;have hnew:List.foldl (fun x1 x2=>x1++x2) #[] (List.replicate k.toNat its.toArray)=(List.replicate k.toNat its).flatten.toArray:=by
  have:=ZT its k.toNat [];rw[List.nil_append] at this;exact this
 have hne:¬ its.toArray.isEmpty=true:=by
  have:its≠[]:=fun z=>hx (r1.nil_iff.mp z)
  simpa using this
 have hl:xs.length=its.length:=r1.length;refine wpAny_binaryOp_repeat_ref (T:="tuple") (U:="int") (by decide) ⟨_,ho,rfl⟩ (fun s'=>typeIs_int s' k t) YU PySem.F.fills_int_mul PySem.F.slot_int_rmul Zv PySem.F.slot_int_index.lookup
  (call_meets PySem.F.slot_int_rmul (typeIs_int s k t) PySem.F.entry_int_rmul (PySem.F.args_int_rmul_2 _ _) (Zc k t a its.toArray n dd sl)
   ⟨ho,rfl,⟨_,ho,rfl⟩,call_meets PySem.F.slot_tuple_mul ⟨_,ho,rfl⟩ PySem.F.entry_tuple_mul (PySem.F.args_tuple_mul_2 _ _) (Js a its.toArray n dd sl k t hne h1 h2 (by rw[List.size_toArray,<- hl];exact hz)) ⟨ho,?_⟩⟩)
 rw[hnew];refine⟨.ref s.heap.objs.size,_,I.laid (t':=s.toks) (o:=.tup (List.replicate k.toNat xs).flatten) (fun b ob q=>Heap.get?_push_of_some _ q) %[|3] ?_,rfl,q _ (I.hok.fresh %[|3])⟩;exact⟨by rw[Vg,Nat.mul_comm];exact hz,_,r1.rep k.toNat,IsTup.new _ _⟩
end
end DL
end
noncomputable section
namespace DL
open PySem PySem.Spec PyProof.Rows L2
section
variable {prog:Program} {w:World} {A:Around} {E:Value->Shared->Prop} {s:Shared}
open HT
theorem ZW {t sl:Addr} {items:Array Value} {vl vu:Value} {lo hi:Option Int} {Q:Value->Shared->Prop} (ht:IsTup s.heap t items) (hs:s.heap.IsSliceOf sl vl vu .none) (pl:IsPart vl lo) (pu:IsPart vu hi)
  (hw:sIx items.size 0 lo=0/\sIx items.size items.size hi=items.size) (h:Q (.ref t) s):wpAny (model prog w) A (getItem (.ref t) (.ref sl)) Q E s:=by
 obtain⟨os,hos,hcs,hds⟩:=id hs;have hTs:s.TypeIs (.ref sl) "slice":=⟨os,hos,hcs⟩;unfold getItem
 try with_reducible refine wpAny_holding ?_
 first|refine wpAny_bind (wpAny_pure ?_)|skip
 refine wpAny_bind (wpAny_sequenceKey ht.typeIs (by decide) ?_);refine wpAny_bind (wpAny_callSpecial?_slot (name:=Str.ofString "__getitem__") ht.typeIs PyProof.Rows.slot_tuple_getitem
  (wpAny_call_entry PyProof.Rows.slot_tuple_getitem ht.typeIs entry_tuple_getitem ?_ (args_tuple_getitem _ _)))
 show wpAny _ _ (Builtin.Tuple.tupleItemsOf (.ref t) >>= _) _ _ s;refine wpAny_bind (tupleItemsOf_ ht ?_);refine wpAny_bind (wpAny_typeOf hTs ?_);rw[if_pos (by decide)];refine wpAny_bind (Zp hs pl pu ?_);rw[hw.1,hw.2];show wpAny _ _ (if (((0:Nat):Int)==0&&(1:Int)==1&&(items.size-0)==items.size)=true then _ else _) _ _ s;rw[if_pos (by simp)];have hT:=ht.typeIs;unfold Builtin.Tuple.tupleIsExact;refine wpAny_bind (wpAny_bind (wpAny_typeOf hT ?_));refine wpAny_pure ?_;rw[if_pos (by decide)];refine wpAny_bind (wpAny_rule ?_);exact wpAny_pure ⟨_,rfl,wpAny_pure h⟩
end
theorem Uk (l:Addr) (items:Array Value) (n:Nat) (dd:Option Addr) (sl:Array (Option Value)) (x:Int) (u:Tok) (h0:(items.isEmpty || x==1)=true) (h2:0<=x) (h3:x<1000000) :
  Meets (Builtin.«tuple.__mul__» ⟨[.ref l,.int x u],[]⟩) (fun _ R s=>s.heap.get? l=some {cls:=.type "tuple",dict:=dd,data:=.seq items n,slots:=sl}/\R (.ok (.ret (Value.ref l))) s) :=
 .of_wp fun prog w A R s h=>by
  obtain⟨hp,g,d,tk,os⟩:=s;obtain⟨hl,h⟩:=h;have c1:¬ (decide (x < -2 ^ 63) || decide (x ≥ 2 ^ 63))=true:=by simp;omega
  wp_walk
  iterate 5
   (try (first|refine wpAny_ite_false (decide_eq_false c1) ?_|refine wpAny_ite_true (decide_eq_true h0) ?_))
   (try wp_walk)
  exact⟨_,rfl,h⟩
theorem Ul (l:Addr) (items:Array Value) (n:Nat) (dd:Option Addr) (sl:Array (Option Value)) (u:Tok) (h0:¬ items.isEmpty=true) :
  Meets (Builtin.«tuple.__mul__» ⟨[.ref l,.int 0 u],[]⟩) (fun _ R s=>s.heap.get? l=some {cls:=.type "tuple",dict:=dd,data:=.seq items n,slots:=sl}/\R (.ok (.ret (Value.ref s.heap.objs.size))) {s with heap:=s.heap.push {cls:=Value.type "tuple",data:=Data.seq #[]}}) :=
 .of_wp fun prog w A R s h=>by
  obtain⟨hp,g,d,tk,os⟩:=s;obtain⟨hl,h⟩:=h;have c2:¬ (items.isEmpty || (0:Int)==1)=true:=by simpa using h0
  have c3:(decide ((0:Int)<=0) || items.isEmpty)=true:=by simp
  wp_walk
  iterate 5
   (try (first|refine wpAny_ite_false (decide_eq_false c2) ?_|refine wpAny_ite_true (decide_eq_true c3) ?_))
   (try wp_walk)
  exact⟨_,rfl,h⟩
section
variable {X:Cx}
theorem BF:SlR X (fun x lo hi H Q=>∃ a xs,x=.ref a/\SqT X.K H a xs/\(HT.sIx xs.length 0 lo=0/\HT.sIx xs.length xs.length hi=xs.length)/\Q (.ref a) H):=by
 intro pins s σ H x v vl vu lo hi sl Q I rx hs pl pu h;obtain⟨a,xs,rfl,hx,hw,q⟩:=h;cases rx;obtain⟨its,r,ht,hz⟩:=I.tuple hx;have hlen:its.toArray.size=xs.length:=by rw[List.size_toArray];exact r.length.symm
 refine⟨"tuple",_,PyProof.Rows.slot_tuple_getitem.lookup,ht.typeIs,?_⟩;exact ZW ht hs pl pu (by rw[hlen];exact hw) ⟨.ref a,H,I,rfl,q⟩
theorem Ax:OpR X (binaryOp .Add) (fun x y H Q=>∃ a b ys,x=.ref a/\y=.ref b/\SqT X.K H a []/\SqT X.K H b ys/\Q (.ref b) H):=by
 intro pins s σ H x y v u Q I rx ry h;obtain⟨a,b,ys,rfl,rfl,ha,hb,q⟩:=h;cases rx;cases ry;obtain⟨its,r1,p1,_⟩:=I.tuple ha;obtain⟨its2,r2,p2,_⟩:=I.tuple hb;cases r1;obtain⟨⟨cls,dd,data,sl⟩,ho,hc,n,hd⟩:=id p1;obtain⟨⟨cls2,dd2,data2,sl2⟩,ho2,hc2,n2,hd2⟩:=id p2;simp only at hc hd hc2 hd2;subst hc hd hc2 hd2;exact concat_meets ⟨_,ho,rfl⟩ ⟨_,ho2,rfl⟩ noFill_tuple_add seq_tuple_add PySem.F.slot_tuple_add PySem.F.entry_tuple_add (PySem.F.args_tuple_add_2 _ _)
  (PyProof.Rows.tuple_addW0 a b _ its2.toArray n n2 dd dd2 sl sl2 rfl) ⟨ho,ho2,.ref b,H,I,rfl,q⟩
theorem Av:OpR X (binaryOp .Mult) (fun x y H Q=>∃ a k xs,x=.ref a/\y=.int k/\SqT X.K H a xs/\(xs=[]\/k=1)/\0<=k/\k<1000000/\Q (.ref a) H):=by
 intro pins s σ H x y v u Q I rx ry h;obtain⟨a,k,xs,rfl,rfl,ha,hx,h1,h2,q⟩:=h;cases rx;obtain⟨t,rfl⟩:=ry;obtain⟨its,r1,p1,_⟩:=I.tuple ha;obtain⟨⟨cls,dd,data,sl⟩,ho,hc,n,hd⟩:=id p1;simp only at hc hd;subst hc hd;have hne:(its.toArray.isEmpty || k==1)=true:=by
  rcases hx with rfl|rfl
  ·cases r1;rfl
  ·simp
 refine wpAny_binaryOp_repeat_ref (T:="tuple") (U:="int") (by decide) ⟨_,ho,rfl⟩ (fun s'=>typeIs_int s' k t) YU PySem.F.fills_int_mul PySem.F.slot_int_rmul Zv PySem.F.slot_int_index.lookup
  (call_meets PySem.F.slot_int_rmul (typeIs_int s k t) PySem.F.entry_int_rmul (PySem.F.args_int_rmul_2 _ _) (Zc k t a its.toArray n dd sl)
   ⟨ho,rfl,⟨_,ho,rfl⟩,call_meets PySem.F.slot_tuple_mul ⟨_,ho,rfl⟩ PySem.F.entry_tuple_mul (PySem.F.args_tuple_mul_2 _ _) (Uk a its.toArray n dd sl k t hne h1 h2) ⟨ho,?_⟩⟩)
 exact⟨.ref a,H,I,rfl,q⟩
theorem Aw:OpR X (binaryOp .Mult) (fun x y H Q=>∃ a xs,x=.ref a/\y=.int 0/\SqT X.K H a xs/\xs≠[]/\∀ p,H p=none->Q (.ref p) (upd H p (.tup []))):=by
 intro pins s σ H x y v u Q I rx ry h;obtain⟨a,xs,rfl,rfl,ha,hx,q⟩:=h;cases rx;obtain⟨t,rfl⟩:=ry;obtain⟨its,r1,p1,_⟩:=I.tuple ha;obtain⟨⟨cls,dd,data,sl⟩,ho,hc,n,hd⟩:=id p1;simp only at hc hd;subst hc hd;have hne:¬ its.toArray.isEmpty=true:=by
  have:its≠[]:=fun z=>hx (r1.nil_iff.mp z)
  simpa using this
 refine wpAny_binaryOp_repeat_ref (T:="tuple") (U:="int") (by decide) ⟨_,ho,rfl⟩ (fun s'=>typeIs_int s' 0 t) YU PySem.F.fills_int_mul PySem.F.slot_int_rmul Zv PySem.F.slot_int_index.lookup
  (call_meets PySem.F.slot_int_rmul (typeIs_int s 0 t) PySem.F.entry_int_rmul (PySem.F.args_int_rmul_2 _ _) (Zc 0 t a its.toArray n dd sl)
   ⟨ho,rfl,⟨_,ho,rfl⟩,call_meets PySem.F.slot_tuple_mul ⟨_,ho,rfl⟩ PySem.F.entry_tuple_mul (PySem.F.args_tuple_mul_2 _ _) (Ul a its.toArray n dd sl t hne) ⟨ho,?_⟩⟩)
 refine⟨.ref s.heap.objs.size,_,I.laid (t':=s.toks) (o:=.tup []) (fun b ob q=>Heap.get?_push_of_some _ q) %[|3] ?_,rfl,q _ (I.hok.fresh %[|3])⟩;exact⟨Nat.zero_le _,_,.nil,IsTup.new _ _⟩
end
end DL
end
noncomputable section
namespace DL
open PySem PySem.Spec PyProof.Rows L2
section
variable {prog:Program} {w:World} {A:Around} {E:Value->Shared->Prop} {s:Shared}
theorem XX {j b:Addr} {n:Nat} {vs:Array Value} {v:Value} {Q:Value->Shared->Prop} (hj:s.heap.IsTupleIter j b n) (hb:s.heap.IsTuple b vs) (hv:vs[n]?=some v)
  (q:∀ g,g.IsTupleIter j b (n+1)->Heap.SameBut j s.heap g->Q v {s with heap:=g}):wpAny (model prog w) A (Builtin.SmallTypes.nextOf (.ref j)) Q E s:=by
 obtain⟨o,e1,e2,e3⟩:=id hj;obtain⟨p,f1,_,m,f3⟩:=hb;unfold Builtin.SmallTypes.nextOf;refine wpAny_bind (wpAny_callSpecial?_slot (name:=Str.ofString "__next__") hj.typeIs F.slot_tuple_iterator_next (wpAny_call_entry F.slot_tuple_iterator_next hj.typeIs F.entry_tuple_iterator_next ?_ (F.args_tuple_iterator_next_1 _)));show wpAny _ _ (field (.ref j) 0 >>= _) _ _ s;refine wpAny_bind (wpAny_field e1 e3 (x:=.ref b) rfl ?_);show wpAny _ _ (if (Value.ref b==Value.none)=true then _ else _) _ _ s;rw[if_neg (show ¬ ((Value.ref b==Value.none)=true) from Bool.false_ne_true)];show wpAny _ _ (field (.ref j) 1 >>= _) _ _ s;refine wpAny_bind (wpAny_field e1 e3 (x:=.int n 0) rfl ?_);show wpAny _ _ (seqItems? (.ref b) >>= _) _ _ s;refine wpAny_bind (wpAny_seqItems f1 f3 ?_);simp only[Int.toNat_natCast,hv];refine wpAny_bind (wpAny_setField e1 e3 (by simp) (wpAny_pure ⟨v,rfl,wpAny_pure (q _ ?_ (Heap.SameBut.update ..))⟩))
 exact⟨_,Heap.get?_update_self _ e1 (Obj.isFreed_of_fields (Obj.data_mapFields e3 _)),(Obj.cls_mapFields ..).trans e2,by rw[Obj.data_mapFields e3];simp[rawInt]⟩
theorem Ve {j b:Addr} {n:Nat} {vs:Array Value} {Q:Value->Shared->Prop} (hh:A.handled=none) (hj:s.heap.IsTupleIter j b n) (hb:s.heap.IsTuple b vs) (hv:vs[n]?=none)
  (q:∀ g e,Heap.ExtBut j s.heap g->(∃ o,g.get? e=some o/\o.cls=.type "StopIteration")->E (.ref e) {s with heap:=g}):wpAny (model prog w) A (Builtin.SmallTypes.nextOf (.ref j)) Q E s:=by
 obtain⟨o,e1,e2,e3⟩:=id hj;obtain⟨p,f1,_,m,f3⟩:=hb;unfold Builtin.SmallTypes.nextOf;refine wpAny_bind (wpAny_callSpecial?_slot (name:=Str.ofString "__next__") hj.typeIs F.slot_tuple_iterator_next (wpAny_call_entry F.slot_tuple_iterator_next hj.typeIs F.entry_tuple_iterator_next ?_ (F.args_tuple_iterator_next_1 _)));show wpAny _ _ (field (.ref j) 0 >>= _) _ _ s;refine wpAny_bind (wpAny_field e1 e3 (x:=.ref b) rfl ?_);show wpAny _ _ (if (Value.ref b==Value.none)=true then _ else _) _ _ s;rw[if_neg (show ¬ ((Value.ref b==Value.none)=true) from Bool.false_ne_true)];show wpAny _ _ (field (.ref j) 1 >>= _) _ _ s;refine wpAny_bind (wpAny_field e1 e3 (x:=.int n 0) rfl ?_);show wpAny _ _ (seqItems? (.ref b) >>= _) _ _ s;refine wpAny_bind (wpAny_seqItems f1 f3 ?_);simp only[Int.toNat_natCast,hv];refine wpAny_bind (wpAny_rule (wpAny_bind (wpAny_setField e1 e3 (by simp) ?_)));show wpAny _ _ (newExc (.type "StopIteration") [] >>= _) _ _ _;refine wpAny_bind ?_;simp only[newExc,newTuple]
 refine wpAny_bind (wpAny_newObj_type ?_ (by size_fits));refine wpAny_bind (m:=firstArgMember _ _) (wpAny_of_eq (a:=Value.none) (by first|rfl|(simp only[firstArgMember];rfl)) ?_);refine wpAny_newObj_type ?_ (by size_fits);simp only[raiseNew];refine wpAny_bind (wpAny_handled ?_)
 (first|rw [show A.in1.handled=none from hh]|rw [hh]);refine wpAny_bind (wpAny_pure (wpAny_throw ?_))
 exact q _ _ (((Heap.SameBut.update ..).extBut.push _).push _) ⟨_,Heap.get?_push_size _ rfl,rfl⟩
theorem BA {z u v i j b c:Addr} {n:Nat} {xs ys:Array Value} {x y a d:Value} {Q:Value->Shared->Prop} (D:ZipApart z u v i j b c)
  (hz:IsZip s.heap z u v .none) (hu:IsPair s.heap u (.ref i) (.ref j)) (hv:IsPair s.heap v a d) (h1:s.heap.IsTupleIter i b n) (h2:s.heap.IsTupleIter j c n) (hb:s.heap.IsTuple b xs) (hc:s.heap.IsTuple c ys) (hx:xs[n]?=some x) (hy:ys[n]?=some y)
  (q:∀ g,IsZip g z u v (rawInt s.heap.objs.size)->IsPair g v x y->g.IsTupleIter i b (n+1)->g.IsTupleIter j c (n+1)->IsPair g s.heap.objs.size x y->g.objs.size=s.heap.objs.size+1 ->
   (∀ k o,k≠z->k≠v->k≠i->k≠j->s.heap.get? k=some o->g.get? k=some o)->Q (.ref s.heap.objs.size) {s with heap:=g}) :
  wpAny (model prog w) A (Builtin.«zip.__next__» ⟨[.ref z],[]⟩) (fun r s'=>∃ t,r=.done (.ret t)/\Q t s') E s:=by
 show wpAny _ _ (field (.ref z) 2 >>= _) _ _ _;refine wpAny_bind (wpAny_field hz rfl (x:=.bool false) rfl ?_);show wpAny _ _ (field (.ref z) 3 >>= _) _ _ _;refine wpAny_bind (wpAny_field hz rfl (x:=.ref u) rfl ?_);refine wpAny_bind (wpAny_seqItems hu rfl ?_);show wpAny _ _ (Builtin.SmallTypes.ownedTupleIsFree (.ref z) >>= _) _ _ _;refine wpAny_bind ?_;unfold Builtin.SmallTypes.ownedTupleIsFree;refine wpAny_bind (wpAny_field hz rfl (x:=.none) rfl (wpAny_pure ?_));simp only[if_true];refine wpAny_bind (wpAny_rule ?_);refine wpAny_bind (wpAny_field hz rfl (x:=.ref v) rfl ?_);refine wpAny_bind (wpAny_setField_rec hz (by simp) fun g1 z1 s1=>?_)
 replace z1:IsZip g1 z u v .ellipsis:=z1
 refine wpAny_bind ?_;simp only[List.zipIdx_cons,List.zipIdx_nil,List.forIn_cons,List.forIn_nil];refine wpAny_bind (wpAny_bind (wpAny_onRaise ?_));show wpAny _ _ (Builtin.SmallTypes.nextOf (.ref i) >>= _) _ _ _;refine wpAny_bind (XX (h1.extBut s1.extBut D.i1z) (hb.extBut s1.extBut D.l1z) hx fun g2 j2 s2=>wpAny_pure ?_);have v2:IsPair g2 v a d:=s2.extBut _ _ D.TOi1 (s1.extBut _ _ D.TOz hv);refine wpAny_bind (wpAny_seqItems v2 rfl ?_);refine wpAny_bind (wpAny_updateSeq_pair v2 fun g3 v3 s3=>?_)
 replace v3:IsPair g3 v x d:=v3
 refine wpAny_bind (wpAny_letGo (wpAny_pure ?_));refine wpAny_bind (wpAny_bind (wpAny_onRaise ?_));show wpAny _ _ (Builtin.SmallTypes.nextOf (.ref j) >>= _) _ _ _;refine wpAny_bind (XX (((h2.extBut s1.extBut D.i2z).extBut s2.extBut D.i12.symm).extBut s3.extBut D.TOi2.symm) (((hc.extBut s1.extBut D.l2z).extBut s2.extBut D.l2i1).extBut s3.extBut D.l2TO) hy fun g4 j4 s4=>wpAny_pure ?_);have v4:IsPair g4 v x d:=s4.extBut _ _ D.TOi2 v3;refine wpAny_bind (wpAny_seqItems v4 rfl ?_);refine wpAny_bind (wpAny_updateSeq_pair v4 fun g5 v5 s5=>?_)
 replace v5:IsPair g5 v x y:=v5
 refine wpAny_bind (wpAny_letGo (wpAny_pure (wpAny_pure ?_)));refine wpAny_bind (wpAny_seqItems v5 rfl ?_);refine wpAny_bind (wpAny_newTuple ?_);have sz:g5.objs.size=s.heap.objs.size:=by rw[s5.1,s4.1,s3.1,s2.1,s1.1]
 have z5:IsZip g5 z u v .ellipsis:=s5.extBut _ _ D.TOz.symm (s4.extBut _ _ D.i2z.symm (s3.extBut _ _ D.TOz.symm (s2.extBut _ _ D.i1z.symm z1)));have k5:∀ k o,k≠z->k≠v->k≠i->k≠j->s.heap.get? k=some o->g5.get? k=some o:=fun k o c1 c2 c3 c4 e=>s5.extBut _ _ c2 (s4.extBut _ _ c4 (s3.extBut _ _ c2 (s2.extBut _ _ c3 (s1.extBut _ _ c1 e))));have a5:g5.IsTupleIter i b (n+1):=((j2.extBut s3.extBut D.TOi1.symm).extBut s4.extBut D.i12).extBut s5.extBut D.TOi1.symm;have b5:g5.IsTupleIter j c (n+1):=j4.extBut s5.extBut D.TOi2.symm;have lz:z<g5.objs.size:=Heap.lt_size z5;show wpAny _ _ (Builtin.SmallTypes.ownedTupleHandOut (.ref z) (.ref g5.objs.size) >>= _) _ _ _;refine wpAny_bind ?_;unfold Builtin.SmallTypes.ownedTupleHandOut;have z6:IsZip (g5.push {cls:=.type "tuple",data:=.seq #[x,y]}) z u v .ellipsis:=Heap.get?_push_of_some _ z5;refine wpAny_bind (wpAny_setField_rec z6 (by simp) fun g7 z7 s7=>?_)
 replace z7:IsZip g7 z u v (rawInt g5.objs.size):=z7
 refine wpAny_setField_rec z7 (by simp) fun g8 z8 s8=>?_
 replace z8:IsZip g8 z u v (rawInt g5.objs.size):=z8
 have up:∀ k o,k≠z->g5.get? k=some o->g8.get? k=some o:=fun k o c1 e=>s8.extBut _ _ c1 (s7.extBut _ _ c1 (Heap.get?_push_of_some _ e));have t8:IsPair g8 g5.objs.size x y:=s8.extBut _ _ (Nat.ne_of_gt lz) (s7.extBut _ _ (Nat.ne_of_gt lz) (Heap.get?_push_size _ rfl));have n8:g8.objs.size=g5.objs.size+1:=by rw[s8.1,s7.1,Heap.size_push]
 rw[sz] at z8 t8 n8;refine wpAny_pure ⟨_,rfl,?_⟩;show Q (.ref g5.objs.size) _;rw[sz];exact q g8 z8 (up _ _ D.TOz v5) (a5.at fun o e=>up _ o D.i1z e) (b5.at fun o e=>up _ o D.i2z e) t8 n8 fun k o c1 c2 c3 c4 e=>up k o c1 (k5 k o c1 c2 c3 c4 e)
theorem D6 {z u v i j b c:Addr} {n:Nat} {xs ys:Array Value} {a d:Value} {Q:Fin->Shared->Prop} (hh:A.handled=none) (D:ZipApart z u v i j b c)
  (hz:IsZip s.heap z u v .none) (hu:IsPair s.heap u (.ref i) (.ref j)) (hv:IsPair s.heap v a d) (h1:s.heap.IsTupleIter i b n) (h2:s.heap.IsTupleIter j c n) (hb:s.heap.IsTuple b xs) (hc:s.heap.IsTuple c ys) (he:xs[n]?=none\/ys[n]?=none)
  (q:∀ g e,(∀ k o,k≠z->k≠v->k≠i->k≠j->s.heap.get? k=some o->g.get? k=some o)->(∃ o,g.get? e=some o/\o.cls=.type "StopIteration")->E (.ref e) {s with heap:=g}) :
  wpAny (model prog w) A (Builtin.«zip.__next__» ⟨[.ref z],[]⟩) Q E s:=by
 show wpAny _ _ (field (.ref z) 2 >>= _) _ _ _;refine wpAny_bind (wpAny_field hz rfl (x:=.bool false) rfl ?_);show wpAny _ _ (field (.ref z) 3 >>= _) _ _ _;refine wpAny_bind (wpAny_field hz rfl (x:=.ref u) rfl ?_);refine wpAny_bind (wpAny_seqItems hu rfl ?_);show wpAny _ _ (Builtin.SmallTypes.ownedTupleIsFree (.ref z) >>= _) _ _ _;refine wpAny_bind ?_;unfold Builtin.SmallTypes.ownedTupleIsFree;refine wpAny_bind (wpAny_field hz rfl (x:=.none) rfl (wpAny_pure ?_));simp only[if_true];refine wpAny_bind (wpAny_rule ?_);refine wpAny_bind (wpAny_field hz rfl (x:=.ref v) rfl ?_);refine wpAny_bind (wpAny_setField_rec hz (by simp) fun g1 z1 s1=>?_)
 replace z1:IsZip g1 z u v .ellipsis:=z1
 refine wpAny_bind ?_;simp only[List.zipIdx_cons,List.zipIdx_nil,List.forIn_cons,List.forIn_nil];refine wpAny_bind (wpAny_bind (wpAny_onRaise ?_));show wpAny _ _ (Builtin.SmallTypes.nextOf (.ref i) >>= _) _ _ _;have off:∀ {g:Heap} {e:Addr} {f0:Value},IsZip g z u v f0->(∃ o,g.get? e=some o/\o.cls=.type "StopIteration")->e≠z:=fun hz ⟨o,ho,hs⟩ x=>by subst x;rw[hz] at ho;cases ho;simp at hs
 cases hx:xs[n]? with
 | none =>
  refine wpAny_bind (Ve hh (h1.extBut s1.extBut D.i1z) (hb.extBut s1.extBut D.l1z) hx fun g2 e s2 ho=>?_);have z2:IsZip g2 z u v .ellipsis:=s2 _ _ D.i1z.symm z1;have ez:=off z2 ho;obtain⟨o,ho,hs⟩:=ho;refine wpAny_setField_rec z2 (by simp) fun g3 _ s3=>q g3 e (fun k o c1 _ c3 _ x=>s3.extBut _ _ c1 (s2 _ _ c3 (s1.extBut _ _ c1 x))) ⟨o,s3.extBut _ _ ez ho,hs⟩
 | some x =>
  have hy:ys[n]?=none:=by rcases he with h|h;rw[hx] at h;cases h;exact h
  refine wpAny_bind (XX (h1.extBut s1.extBut D.i1z) (hb.extBut s1.extBut D.l1z) hx fun g2 j2 s2=>wpAny_pure ?_);have v2:IsPair g2 v a d:=s2.extBut _ _ D.TOi1 (s1.extBut _ _ D.TOz hv);refine wpAny_bind (wpAny_seqItems v2 rfl ?_);refine wpAny_bind (wpAny_updateSeq_pair v2 fun g3 v3 s3=>?_);refine wpAny_bind (wpAny_letGo (wpAny_pure ?_));refine wpAny_bind (wpAny_bind (wpAny_onRaise ?_));show wpAny _ _ (Builtin.SmallTypes.nextOf (.ref j) >>= _) _ _ _;refine wpAny_bind (Ve hh (((h2.extBut s1.extBut D.i2z).extBut s2.extBut D.i12.symm).extBut s3.extBut D.TOi2.symm) (((hc.extBut s1.extBut D.l2z).extBut s2.extBut D.l2i1).extBut s3.extBut D.l2TO) hy fun g4 e s4 ho=>?_);have z4:IsZip g4 z u v .ellipsis:=s4 _ _ D.i2z.symm (s3.extBut _ _ D.TOz.symm (s2.extBut _ _ D.i1z.symm z1));have ez:=off z4 ho;obtain⟨o,ho,hs⟩:=ho;refine wpAny_setField_rec z4 (by simp) fun g5 _ s5=>q g5 e (fun k o c1 c2 c3 c4 x=>s5.extBut _ _ c1 (s4 _ _ c4 (s3.extBut _ _ c2 (s2.extBut _ _ c3 (s1.extBut _ _ c1 x))))) ⟨o,s5.extBut _ _ ez ho,hs⟩
theorem BB {z u v i j b c:Addr} {n:Nat} {xs ys:Array Value} {x y a d:Value} {Q:Option Value->Shared->Prop} (D:ZipApart z u v i j b c)
  (hz:IsZip s.heap z u v .none) (hu:IsPair s.heap u (.ref i) (.ref j)) (hv:IsPair s.heap v a d) (h1:s.heap.IsTupleIter i b n) (h2:s.heap.IsTupleIter j c n) (hb:s.heap.IsTuple b xs) (hc:s.heap.IsTuple c ys) (hx:xs[n]?=some x) (hy:ys[n]?=some y)
  (q:∀ g,IsZip g z u v (rawInt s.heap.objs.size)->IsPair g v x y->g.IsTupleIter i b (n+1)->g.IsTupleIter j c (n+1)->IsPair g s.heap.objs.size x y->g.objs.size=s.heap.objs.size+1 ->
   (∀ k o,k≠z->k≠v->k≠i->k≠j->s.heap.get? k=some o->g.get? k=some o)->Q (some (.ref s.heap.objs.size)) {s with heap:=g}):wpAny (model prog w) A (pyNext (.ref z)) Q E s:=by
 have t:s.TypeIs (.ref z) "zip":=⟨_,hz,rfl⟩;unfold pyNext;exact wpAny_bind (wpAny_attempt (wpAny_callSpecial?_slot (name:=Str.ofString "__next__") t F.slot_zip_next (wpAny_call_entry F.slot_zip_next t F.entry_zip_next (BA D hz hu hv h1 h2 hb hc hx hy fun g a1 a2 a3 a4 a5 a6 a7=>wpAny_pure (q g a1 a2 a3 a4 a5 a6 a7)) (F.args_zip_next_1 _))))
theorem D7 {z u v i j b c:Addr} {n:Nat} {xs ys:Array Value} {a d:Value} {Q:Option Value->Shared->Prop} (hh:A.handled=none) (D:ZipApart z u v i j b c)
  (hz:IsZip s.heap z u v .none) (hu:IsPair s.heap u (.ref i) (.ref j)) (hv:IsPair s.heap v a d) (h1:s.heap.IsTupleIter i b n) (h2:s.heap.IsTupleIter j c n) (hb:s.heap.IsTuple b xs) (hc:s.heap.IsTuple c ys) (he:xs[n]?=none\/ys[n]?=none)
  (q:∀ g,(∀ k o,k≠z->k≠v->k≠i->k≠j->s.heap.get? k=some o->g.get? k=some o)->Q none {s with heap:=g}):wpAny (model prog w) A (pyNext (.ref z)) Q E s:=by
 have t:s.TypeIs (.ref z) "zip":=⟨_,hz,rfl⟩;unfold pyNext;refine wpAny_bind (wpAny_attempt (wpAny_callSpecial?_slot (name:=Str.ofString "__next__") t F.slot_zip_next (wpAny_call_entry F.slot_zip_next t F.entry_zip_next (D6 hh D hz hu hv h1 h2 hb hc he fun g e hk ho=>?_) (F.args_zip_next_1 _))));obtain⟨o,ho,hs⟩:=ho;refine wpAny_bind (wpAny_isInstance (T:="StopIteration") (b:=true) ⟨o,ho,hs⟩ isSubtype_stop ?_);exact wpAny_pure (q _ hk)
end
section
variable {X:Cx} {pins:List (Addr×Obj)} {σ:L2.St} {H:Hp} {s:Shared}
theorem YV {h':Heap} {t':Nat} {fp:List Addr} (I:Inv X pins σ H s) (k:∀ b o,b ∉ fp->s.heap.get? b=some o->h'.get? b=some o) (f:∀ b∈fp,FpOk X pins H b):Inv X pins σ H {s with heap:=h',toks:=t'}:=by
 have nit:∀ b u,H b=some u->b ∉ fp:=fun b u e z=>by rw[(f b z).1] at e;cases e
 refine I.step (g':=s.gens) (d':=s.drawn) (ch:=fp) (fun b hb=>⟨(f b hb).2.2.2.1,(f b hb).2.1,(f b hb).2.2.2.2.1,(f b hb).2.2.2.2.2⟩) (fun b o _ _ hc e _=>k b o hc e) (fun b o _ _ hc e _=>⟨o.slots,k b o hc e⟩) (fun _ _ _ _ n=>n)
  (fun b o hc e=>⟨o,k b o hc e⟩) (fun _ _ e=>e) (fun _ _ _ e=>e) (fun b ps e=>⟨#[],by rw[e];simp⟩) (fun m hm=>?_) (fun b u e=>?_) I.bare
 ·obtain⟨o,es,ep,ho,r⟩:=hm
  exact⟨o,es,ep,k _ o (fun z=>(f _ z).2.1 rfl) ho,r⟩
 ·refine (I.hok b u e).stay (fun c v hc q=>k c v ?_ q) (fun _ q=>q) fun _ _ q=>q
  rcases hc with z|z
  ·rw[z];exact nit b u e
  ·exact nit c _ z
end
noncomputable def Itz (K:Frag) (b c:Addr):It :=
  ⟨fun i H=>∃ xs ys x y,SqT K H b xs/\SqT K H c ys/\xs[i]?=some x/\ys[i]?=some y,
   fun i H x H'=>∃ T p q,H T=none/\x=.ref T/\H'=upd H T (.tup [p,q])/\(∀ xs,SqT K H b xs->xs[i]?=some p)/\∀ ys,SqT K H c ys->ys[i]?=some q,
   fun i H=>∃ xs ys,SqT K H b xs/\SqT K H c ys/\(xs.length<=i\/ys.length<=i)⟩
noncomputable def zTn (z u v i j b c:Addr) (n:Nat) (h:Heap):Prop:=IsZip h z u v .none/\IsPair h u (.ref i) (.ref j)/\(∃ a d,IsPair h v a d)/\h.IsTupleIter i b n/\h.IsTupleIter j c n
theorem Ad {P:Program} {w:World} {K:Frag} {elts:List Expr} {x1:Nat} {pos:Pos} {z u v i j b c:Addr} (D:ZipApart z u v i j b c) :
  Turn P w K (.Tuple elts x1 pos) (Itz K b c) [z,u,v,i,j] z (zTn z u v i j b c) where
 mem:=by simp
 obj:=fun n h st k hk=>by
  obtain⟨hz,hu,⟨a,d,hv⟩,⟨o1,e1,_,d1⟩,⟨o2,e2,_,d2⟩⟩:=st;simp only[List.mem_cons,List.not_mem_nil,or_false] at hk;rcases hk with rfl|rfl|rfl|rfl|rfl
  ·exact⟨_,hz,fun w e=>nomatch e⟩
  ·exact⟨_,hu,fun w e=>nomatch e⟩
  ·exact⟨_,hv,fun w e=>nomatch e⟩
  ·exact⟨_,e1,fun w e=>by rw[d1] at e;cases e⟩
  ·exact⟨_,e2,fun w e=>by rw[d2] at e;cases e⟩
 keep:=fun n h h' st k=>by
  obtain⟨hz,hu,⟨a,d,hv⟩,h1,h2⟩:=st;exact⟨k z (by simp) _ hz,k u (by simp) _ hu,⟨a,d,k v (by simp) _ hv⟩,h1.at fun o e=>k i (by simp) o e,h2.at fun o e=>k j (by simp) o e⟩
 item:=by
  intro X hP hw hK hc n pins s σ H E I hf st hg;subst hP hw hK;obtain⟨hz,hu,⟨a,d,hv⟩,h1,h2⟩:=st;obtain⟨xs,ys,x,y,q1,q2,hx,hy⟩:=hg;obtain⟨its,rv,p,sz1⟩:=I.tuple q1;obtain⟨its',rv',p',sz2⟩:=I.tuple q2;obtain⟨vx,hvx,rx⟩:=rv.get hx;obtain⟨vy,hvy,ry⟩:=rv'.get hy;refine BB D hz hu hv h1 h2 (show s.heap.IsTuple b its.toArray from p) (show s.heap.IsTuple c its'.toArray from p') (x:=vx) (y:=vy) (by simpa using hvx) (by simpa using hvy) fun g a1 a2 a3 a4 a5 a6 a7=>?_;have lt:∀ {k o},s.heap.get? k=some o->k≠s.heap.objs.size:=fun e=>Nat.ne_of_lt (Heap.lt_size e);have li:i≠s.heap.objs.size:=by obtain⟨o,e,_⟩:=h1;exact lt e
  have lj:j≠s.heap.objs.size:=by obtain⟨o,e,_⟩:=h2;exact lt e
  refine⟨_,rfl,wpAny_letOwnedTupleGo_zip a1 fun g' z' sb=>?_⟩;have tp:IsPair g' s.heap.objs.size vx vy:=sb.extBut _ _ (Ne.symm (lt hz)) a5;have nf:H s.heap.objs.size=none:=I.hok.fresh %[|3];have I1:Inv X pins σ (upd H s.heap.objs.size (.tup [x,y])) {s with heap:=s.heap.push {cls:=.type "tuple",data:=.seq #[vx,vy]},toks:=s.toks} :=
   I.laid (fun k o e=>Heap.get?_push_of_some _ e) %[|3] ⟨by simp only[List.length_cons,List.length_nil];rw[sizeLine_eq];decide,[vx,vy],.cons rx (.cons ry .nil),⟨_,Heap.get?_push_size _ rfl,rfl,_,rfl⟩⟩
  have ff:∀ k∈[z,u,v,i,j],k≠s.heap.objs.size:=fun k hk=>by
   simp only[List.mem_cons,List.not_mem_nil,or_false] at hk;rcases hk with rfl|rfl|rfl|rfl|rfl
   ·exact lt hz
   ·exact lt hu
   ·exact lt hv
   ·exact li
   ·exact lj
  have f':∀ k∈[z,u,v,i,j],FpOk X pins (upd H s.heap.objs.size (.tup [x,y])) k:=fun k hk=>⟨by rw[Y9 (ff k hk)];exact (hf k hk).1,(hf k hk).2⟩;have I2:Inv X pins σ (upd H s.heap.objs.size (.tup [x,y])) {s with heap:=g',toks:=s.toks}:=by
   refine YV (s:={s with heap:=s.heap.push {cls:=.type "tuple",data:=.seq #[vx,vy]},toks:=s.toks}) (h':=g') (t':=s.toks) I1 (fun k o hk e=>?_) f';rcases Heap.get?_push_cases e with ⟨rfl,rfl⟩|e'
   ·exact tp
   ·simp only[List.mem_cons,List.not_mem_nil,or_false,not_or] at hk
    exact sb.extBut _ _ hk.1 (a7 k o hk.1 hk.2.2.1 hk.2.2.2.1 hk.2.2.2.2 e')
  refine⟨.ref s.heap.objs.size,_,I2,rfl,⟨_,x,y,nf,rfl,rfl,fun xs' q=>by rw[I.tuple_inj q q1];exact hx,fun ys' q=>by rw[I.tuple_inj q q2];exact hy⟩,?_,fun k hk=>(f' k hk).1⟩;exact⟨z',sb.extBut _ _ D.TIz (a7 _ _ D.TIz D.TITO D.TIi1 D.TIi2 hu),⟨_,_,sb.extBut _ _ D.TOz a2⟩,a3.extBut sb.extBut D.i1z,a4.extBut sb.extBut D.i2z⟩
 done:=by
  intro X hP hw hK hc n pins s σ H E I hf st hg;subst hP hw hK;obtain⟨hz,hu,⟨a,d,hv⟩,h1,h2⟩:=st;obtain⟨xs,ys,q1,q2,hx⟩:=hg;obtain⟨its,rv,p,sz1⟩:=I.tuple q1;obtain⟨its',rv',p',sz2⟩:=I.tuple q2;have l1:=rv.length;have l2:=rv'.length;refine D7 (I.ok.hd hc) D hz hu hv h1 h2 (show s.heap.IsTuple b its.toArray from p) (show s.heap.IsTuple c its'.toArray from p') (by rcases hx with hx|hx;exact .inl (by simp;omega);exact .inr (by simp;omega)) fun g k=>⟨rfl,YV (h':=g) (t':=s.toks) I (fun m o hm e=>?_) hf⟩;simp only[List.mem_cons,List.not_mem_nil,or_false,not_or] at hm;exact k m o hm.1 hm.2.2.1 hm.2.2.2.1 hm.2.2.2.2 e
 self:=fun _ _ _ _ _ st h=>wpAny_pyIter_zip st.1 h
end DL
end
noncomputable section
namespace DL
open PySem PySem.Spec PyProof.Rows L2
noncomputable def bAdd (d e:D) (M:Mem) (Q:DK):Prop :=
 match d,e with
 | .int i,.int j=>Q (.int (i+j)) M
 | .str x,.str y=>x.length+y.length<=sizeLine/\Q (.str (x++y)) M
 | .lst a,.lst b=>∃ xs ys,M a=some (.ls xs)/\M b=some (.ls ys)/\xs.length+ys.length<=sizeLine/\alloc M (.ls (xs++ys)) fun p M'=>Q (.lst p) M'
 | .tup xs,.tup ys=>xs.length+ys.length<=sizeLine/\Q (.tup (xs++ys)) M
 | _,_=>False
noncomputable def bInt (f:Int->Int->Prop) (g:Int->Int->Int) (d e:D) (M:Mem) (Q:DK):Prop :=
 match d,e with
 | .int i,.int j=>f i j/\Q (.int (g i j)) M
 | _,_=>False
noncomputable def bMul (d e:D) (M:Mem) (Q:DK):Prop :=
 match d,e with
 | .int i,.int j=>IntMulOk i j/\Q (.int (i*j)) M
 | .tup xs,.int k=>0<=k/\k<1000000/\xs.length*k.toNat<=sizeLine/\Q (.tup (List.replicate k.toNat xs).flatten) M
 | .lst a,.int k=>∃ xs,M a=some (.ls xs)/\0<=k/\k<1000000/\xs.length*k.toNat<=sizeLine/\alloc M (.ls (List.replicate k.toNat xs).flatten) fun p M'=>Q (.lst p) M'
 | _,_=>False
noncomputable def V3 (j:Int):Prop:=j≠0/\j.natAbs.log2<9000
noncomputable def bOp:Operator->D->D->Mem->DK->Prop
 | .Add=>bAdd
 | .Sub=>bInt (fun _ _=>True) fun i j=>i-j
 | .Mult=>bMul
 | .FloorDiv=>bInt (fun _ j=>V3 j) fun i j=>i.fdiv j
 | .Mod=>bInt (fun _ j=>j≠0) fun i j=>i.fmod j
 | .Pow=>bInt CPow fun i j=>i ^ j.toNat
 | _=>fun _ _ _ _=>False
theorem By {f:Int->Int->Prop} {g:Int->Int->Int} {d e:D} {M:Mem} {Q:DK} (h:bInt f g d e M Q):∃ i j,d=.int i/\e=.int j/\f i j/\Q (.int (g i j)) M:=by
 cases d with
 | int i=>cases e with
  | int j=>exact⟨i,j,rfl,rfl,h.1,h.2⟩
  | _=>exact h.elim
 | _=>exact h.elim
section
variable {X:Cx}
theorem XW {f:Value->Value->Sem Value} {C:Int->Int->Prop} {g:Int->Int->Int}
  (rule:∀ (i j:Int) (t u:Tok) (s:Shared) (Q:Value->Shared->Prop) (E:Value->Shared->Prop),C i j->Q (.int (g i j) s.toks) {s with toks:=s.toks+1}->wpAny (model X.prog X.w) X.A (f (.int i t) (.int j u)) Q E s) :
  OpR X f (YJ X.K (bInt C g)):=by
 refine (opI (X:=X) (C:=C) (g:=g) rule).imp ?_;rintro x y H Q ⟨d,e,M,R,r1,r2,rm,h,q⟩;obtain⟨i,j,rfl,rfl,h1,h2⟩:=By h;cases r1;cases r2;exact⟨_,_,rfl,rfl,h1,q _ _ _ _ (.refl H) rm (.int _) h2⟩
theorem BU:OpR X (binaryOp .Add) (YJ X.K bAdd):=by
  rintro pins s σ H x y v u Q I rx ry ⟨d,e,M,R,r1,r2,rm,h,q⟩;cases r1 with
  | int i =>
    cases r2<;>first
      | exact (show False from h).elim
      | exact Eb pins s σ H _ _ v u Q I rx ry ⟨_,_,rfl,rfl,q _ _ _ _ (.refl H) rm (.int _) h⟩
  | str x =>
    cases r2<;>first
      | exact (show False from h).elim
      | exact Uy pins s σ H _ _ v u Q I rx ry ⟨_,_,rfl,rfl,h.1,q _ _ _ _ (.refl H) rm (.str _) h.2⟩
  | lst a =>
    cases r2<;>first
      | exact (show False from h).elim
      | (obtain⟨xs,ys,h1,h2,h3,h4⟩:=h
         obtain⟨vs,e1,q1⟩:=rm _ _ h1;obtain⟨ws,e2,q2⟩:=rm _ _ h2;refine DW pins s σ H _ _ v u Q I rx ry ⟨_,_,vs,ws,rfl,rfl,e1,e2,by rw[q1.length,q2.length];exact h3,fun p hp=>?_⟩;exact q _ _ _ _ (.upd (.inl hp)) (rm.lst hp (q1.append q2)) (.lst p) (h4.at (rm.none hp)))
  | tup h1 q1 =>
    cases r2<;>first
      | exact (show False from h).elim
      | (rename_i h2 q2
         obtain⟨g2,g3⟩:=h;cases q1 with
         | nil=>exact Ax pins s σ H _ _ v u Q I rx ry ⟨_,_,_,rfl,rfl,h1,h2,q _ _ _ _ (.refl H) rm (.tup h2 q2) g3⟩
         | cons qa qb =>
           have q1:=RelDs.cons qa qb;refine BS pins s σ H _ _ v u Q I rx ry ⟨_,_,_,_,rfl,rfl,h1,h2,nofun,by rw[q1.length,q2.length];exact g2,fun z=>?_,fun z p hp=>?_⟩
           . subst z;cases q2;rw[List.append_nil] at g3;exact q _ _ _ _ (.refl H) rm (.tup h1 q1) g3
           . exact q _ _ _ _ (.upd (.inl hp)) (rm.tup hp) (.tup (.of upd_same) ((q1.append q2).ext (.upd (.inl hp)))) g3)
  | _=>exact (show False from h).elim
theorem RelDs.rep {K:Frag} {H:Hp} {vs:List V} {ds:List D} (r:RelDs K H vs ds):∀ k:Nat,RelDs K H (List.replicate k vs).flatten (List.replicate k ds).flatten
 | 0=>.nil
 | k+1=>by
  rw[List.replicate_succ,List.replicate_succ,List.flatten_cons,List.flatten_cons];exact r.append (RelDs.rep r k)
theorem BT:OpR X (binaryOp .Mult) (YJ X.K bMul):=by
  rintro pins s σ H x y v u Q I rx ry ⟨d,e,M,R,r1,r2,rm,h,q⟩;cases r1 with
  | int i =>
    cases r2<;>first
      | exact (show False from h).elim
      | exact opI (X:=X) (C:=IntMulOk) (g:=fun i j=>i*j) (fun _ _ _ _ _ _ _ hc q=>mul_int q hc) pins s σ H _ _ v u Q I rx ry ⟨_,_,rfl,rfl,h.1,q _ _ _ _ (.refl H) rm (.int _) h.2⟩
  | lst a =>
    cases r2<;>first
      | exact (show False from h).elim
      | (obtain⟨xs,h1,g1,g2,h3,h4⟩:=h
         obtain⟨vs,e1,q1⟩:=rm _ _ h1;refine DV pins s σ H _ _ v u Q I rx ry ⟨_,_,vs,rfl,rfl,e1,by omega,by omega,by rw[q1.length];exact h3,fun p hp=>?_⟩;exact q _ _ _ _ (.upd (.inl hp)) (rm.lst hp (q1.rep _)) (.lst p) (h4.at (rm.none hp)))
  | tup h1 q1 =>
    cases r2<;>first
      | exact (show False from h).elim
      | (rename_i ds k
         obtain⟨g2,g3,g4,g5⟩:=h;by_cases hx:ds=[]\/k=1
         . have e:(List.replicate k.toNat ds).flatten=ds:=by
             rcases hx with rfl|rfl
             . simp
             . simp
           rw[e] at g5;refine Av pins s σ H _ _ v u Q I rx ry ⟨_,_,_,rfl,rfl,h1,?_,g2,g3,q _ _ _ _ (.refl H) rm (.tup h1 q1) g5⟩;rcases hx with rfl|hx
           . cases q1;exact .inl rfl
           . exact .inr hx
         . have hn:ds≠[]:=fun z=>hx (.inl z);by_cases hk:k=0
           . subst hk;refine Aw pins s σ H _ _ v u Q I rx ry ⟨_,_,rfl,rfl,h1,?_,fun p hp=>?_⟩
             . intro z;subst z;cases q1;exact hn rfl
             . exact q _ _ _ _ (.upd (.inl hp)) (rm.tup hp) (.tup (.of upd_same) .nil) g5
           . refine BR pins s σ H _ _ v u Q I rx ry ⟨_,_,_,rfl,rfl,h1,?_,by have:¬ k=1:=fun z=>hx (.inr z);omega,g3,by rw[q1.length];exact g4,fun p hp=>?_⟩
             . intro z;subst z;cases q1;exact hn rfl
             . exact q _ _ _ _ (.upd (.inl hp)) (rm.tup hp) (.tup (.of upd_same) ((q1.rep _).ext (.upd (.inl hp)))) g5)
  | _=>exact (show False from h).elim
theorem op_b (op:Operator):OpR X (binaryOp op) (YJ X.K (bOp op)):=by
 cases op with
 | Add=>exact BU
 | Sub=>exact XW fun _ _ _ _ _ _ _ _ q=>sub_int q
 | Mult=>exact BT
 | FloorDiv=>exact XW fun _ _ _ _ _ _ _ hc q=>floordiv_int hc.1 q (.inl (PyProof.noPylong_of_log2 hc.2))
 | Mod=>exact XW fun _ _ _ _ _ _ _ hc q=>mod_int' hc q
 | Pow=>exact XW fun _ _ _ _ _ _ _ hc q=>pow_int_small hc.1 hc.2.1 hc.2.2 q
 | _=>intro pins s σ H x y v u Q I rx ry ⟨d,e,M,R,r1,r2,rm,h,q⟩;exact (show False from h).elim
end
mutual
inductive Py (M:Mem):D->PyData->Prop
 | non:Py M .non .none
 | bl (b:Bool):Py M (.bl b) (.bool b)
 | int (i:Int):Py M (.int i) (.int i)
 | str (x:Str) (hx:(PyData.str x).canLay0=true):Py M (.str x) (.str x)
 | tup {ds:List D} {ps:List PyData} (h:Pys M ds ps):Py M (.tup ds) (.tuple ps)
 | fz {ds:List D} {ps:List PyData} (h:Pys M ds ps):Py M (.fz ds) (.list ps)
 | lst {a:Addr} {ds:List D} {ps:List PyData} (e:M a=some (.ls ds)) (h:Pys M ds ps):Py M (.lst a) (.list ps)
inductive Pys (M:Mem):List D->List PyData->Prop
 | nil:Pys M [] []
 | cons {d:D} {p:PyData} {ds:List D} {ps:List PyData} (h:Py M d p) (r:Pys M ds ps):Pys M (d::ds) (p::ps)
end
section
variable {X:Cx} {pins:List (Addr×Obj)} {s:Shared} {σ:L2.St} {H:Hp} {M:Mem}
theorem Pys.reads (I:L2.Inv X pins σ H s) (rm:RepM X.K H M) {ds:List D} {ps:List PyData} (h:Pys M ds ps):∀ {vs:List V} {us:List Value},RelDs X.K H vs ds->Vals vs us->∃ as,ReadsAll s.heap us ps as/\PyData.canLayAll0 ps=true:=by
 induction h using Pys.rec (motive_1:=fun d p _=>∀ (v:V) (u:Value),RelD X.K H v d->RelV v u->∃ as,Reads s.heap u p as/\p.canLay0=true) with
 | non=>rename_i v u r e;cases r;cases e;exact⟨_,.none,rfl⟩
 | bl b=>rename_i v u r e;cases r;cases e;exact⟨_,.bool b,rfl⟩
 | int i=>rename_i v u r e;cases r;obtain⟨_,rfl⟩:=e;exact⟨_,.int i _,rfl⟩
 | str x hx=>rename_i v u r e;cases r;obtain⟨_,rfl⟩:=e;exact⟨_,.str x _,hx⟩
 | tup h ih =>
  rename_i v u r e;cases r with
  | tup ht r =>
   cases e;obtain⟨its,rv,⟨o,e1,e2,n,e3⟩,_⟩:=I.tuple ht;obtain⟨as,q,c⟩:=ih r rv;exact⟨as,.tuple e1 e2 e3 q,c⟩
 | fz h ih =>
  rename_i v u r e;cases r with
  | fz hf r =>
   cases e;obtain⟨its,rv,⟨o,n,e1,e2,_,e3⟩,_⟩:=I.list hf.sq;obtain⟨as,q,c⟩:=ih r rv;exact⟨_,.list e1 e2 e3 q,c⟩
 | lst e h ih =>
  rename_i v u r z;cases r;cases z;obtain⟨vs,e0,r⟩:=rm _ _ e;obtain⟨its,rv,⟨o,n,e1,e2,_,e3⟩,_⟩:=I.list (.of e0);obtain⟨as,q,c⟩:=ih r rv;exact⟨_,.list e1 e2 e3 q,c⟩
 | nil=>intro vs us r e;cases r;cases e;exact⟨_,.nil,rfl⟩
 | cons h r i1 i2 =>
  intro vs us q z;cases q with
  | cons q qs =>
   cases z with
   | cons z zs =>
    obtain⟨as,a1,a2⟩:=i1 _ _ q z;obtain⟨bs,b1,b2⟩:=i2 qs zs;exact⟨_,.cons a1 b1,show (_&&_)=true by rw[a2,b2];rfl⟩
theorem Py.reads (I:L2.Inv X pins σ H s) (rm:RepM X.K H M) {d:D} {p:PyData} {v:V} {u:Value} (h:Py M d p) (r:RelD X.K H v d) (e:RelV v u):∃ as,Reads s.heap u p as/\p.canLay0=true:=by
 obtain⟨as,a1,a2⟩:=Pys.reads I rm (.cons h .nil) (.cons r .nil) (.cons e .nil);cases a1 with
 | cons b1 b2=>exact⟨_,b1,by revert a2;show (_&&_)=true->_;cases p.canLay0 with|true=>exact fun _=>rfl|false=>exact fun z=>absurd z Bool.false_ne_true⟩
end
noncomputable def cInt (g:Int->Int->Bool) (d e:D) (M:Mem) (Q:DK):Prop :=
 match d,e with
 | .int i,.int j=>Q (.bl (g i j)) M
 | _,_=>False
noncomputable def cEq (neg:Bool) (d e:D) (M:Mem) (Q:DK):Prop :=
 match d with
 | .dct p=>neg=false/\(∃ kvs,M p=some (.dk kvs))/\(∃ xs,e=.tup xs)/\Q (.bl false) M
 | d=>∃ a b,Py M d a/\Py M e b/\min a.depth b.depth<=60/\Q (.bl (if neg then !PyData.eqv a b else PyData.eqv a b)) M
theorem Wo {neg:Bool} {d e:D} {M:Mem} {Q:DK} {a b:PyData} (h1:Py M d a) (h2:Py M e b) (h3:min a.depth b.depth<=60) (q:Q (.bl (if neg then !PyData.eqv a b else PyData.eqv a b)) M):cEq neg d e M Q:=by
 cases d with
 | dct p=>cases h1
 | _=>exact⟨a,b,h1,h2,h3,q⟩
theorem Vt {neg:Bool} {d e:D} {M:Mem} {Q:DK} (h:cEq neg d e M Q):(∃ p kvs xs,d=.dct p/\neg=false/\M p=some (.dk kvs)/\e=.tup xs/\Q (.bl false) M)\/∃ a b,Py M d a/\Py M e b/\min a.depth b.depth<=60/\Q (.bl (if neg then !PyData.eqv a b else PyData.eqv a b)) M:=by
 cases d with
 | dct p=>obtain⟨h0,⟨kvs,h1⟩,⟨xs,h2⟩,h3⟩:=h;exact .inl ⟨p,kvs,xs,rfl,h0,h1,h2,h3⟩
 | _=>exact .inr h
noncomputable def sdAt {α:Type}:List Str->List α->Str->Option α
 | x::xs,d::ds,k=>if k=x then some d else sdAt xs ds k
 | _,_,_=>none
theorem EntK.exact {l:List DictEntry} {xs:List Str} {us:List Value} (h:EntK l xs us):(l.all fun e=>isExactStrKey e.key)=true:=by
 induction h with
 | nil=>rfl
 | cons hk _ ih=>rw [List.all_cons,hk,ih];rfl
theorem EntK.find {k:Str} {l:List DictEntry} {xs:List Str} {us:List Value} (h:EntK l xs us):(l.find? fun e=>e.key.isStr k).map (·.val)=sdAt xs us k:=by
 induction h with
 | nil=>rfl
 | @cons e x t es xs us hk _ ih =>
  rw[List.find?_cons,hk];show _=if k=x then some e.val else sdAt xs us k
  by_cases c:k=x
  ·subst c
   rw[if_pos rfl,show (Value.str k t).isStr k=true from by simp[Value.isStr]];rfl
  ·rw[if_neg c,show (Value.str x t).isStr k=false from by simp[Value.isStr];exact fun z=>c z.symm];exact ih
theorem VH {K:Frag} {H:Hp} {k:Str} {d:D}:∀ {xs:List Str} {vs:List V} {ds:List D},RelDs K H vs ds->sdAt xs ds k=some d->∃ v,sdAt xs vs k=some v/\RelD K H v d
 | [],_,_,_,e=>by simp[sdAt] at e
 | _::_,_,_,.nil,e=>by simp[sdAt] at e
 | x::xs,_,_,.cons h r,e=>by
  unfold sdAt at e ⊢;by_cases c:k=x
  ·rw[if_pos c] at e ⊢;cases e;exact⟨_,rfl,h⟩
  ·rw[if_neg c] at e ⊢;exact VH r e
theorem WB {k:Str} {v:V}:∀ {xs:List Str} {vs:List V} {us:List Value},Vals vs us->sdAt xs vs k=some v->∃ u,sdAt xs us k=some u/\RelV v u
 | [],_,_,_,e=>by simp[sdAt] at e
 | _::_,_,_,.nil,e=>by simp[sdAt] at e
 | x::xs,_,_,.cons h r,e=>by
  unfold sdAt at e ⊢;by_cases c:k=x
  ·rw[if_pos c] at e ⊢;cases e;exact⟨_,rfl,h⟩
  ·rw[if_neg c] at e ⊢;exact WB r e
theorem EntK.mem {k:Str} {l:List DictEntry} {xs:List Str} {us:List Value} (h:EntK l xs us):(sdAt xs us k).isSome=xs.contains k:=by
 induction h with
 | nil=>rfl
 | @cons e x t es xs us hk _ ih =>
  show (if k=x then some e.val else sdAt xs us k).isSome=_;rw[List.contains_cons];by_cases c:k=x
  ·subst c;simp
  ·rw[if_neg c,ih];simp[c]
theorem V6 {prog:Program} {w:World} {A:Around} {E:Value->Shared->Prop} {s:Shared} {a:Addr} {o:Obj} {es:Array DictEntry} {ep:Nat} {xs:List Str} {us:List Value} {k:Str} {tk:Tok} {Q:Option Value->Shared->Prop}
  (ho:s.heap.get? a=some o) (hd:o.data=.dict es ep) (en:EntK es.toList xs us) (h:Q (sdAt xs us k) {s with toks:=s.toks+1}):wpAny (model prog w) A (dictGet a (.str k tk)) Q E s:=by
 unfold dictGet
 try with_reducible refine wpAny_holding ?_
 refine wpAny_bind (wpAny_pyHash_str (wpAny_bind (PyProof.Rows.KTD.kt_dictFind_strs (s:={s with toks:=s.toks+1}) ho hd (by obtain⟨l⟩:=es;simpa using en.exact) ?_)));have hq:Q (findBy (fun k v=>v.isStr k) es k) {s with toks:=s.toks+1}:=by
  have hf:findBy (fun k v=>v.isStr k) es k=(es.toList.find? fun e=>e.key.isStr k).map (·.val):=by
   obtain⟨l⟩:=es;simp[findBy]
  rw[hf,en.find];exact h
 rw[findBy_of_findIdx?] at hq;cases hi:es.findIdx? fun e=>e.key.isStr k with
 | none=>rw [hi] at hq;exact wpAny_pure hq
 | some i=>rw [hi] at hq;exact wpAny_bind (wpAny_dictEntries (s:={s with toks:=s.toks+1}) ho hd (wpAny_pure hq))
noncomputable def cIs (neg:Bool) (d e:D) (M:Mem) (Q:DK):Prop :=
 match e with
 | .non=>Q (.bl (if neg then (match d with | .non=>false|_=>true) else (match d with | .non=>true|_=>false))) M
 | .bl k=>Q (.bl (if neg then (match d with | .bl j=>!(j==k)|_=>true) else (match d with | .bl j=>j==k|_=>false))) M
 | _=>False
noncomputable def Xd (neg:Bool) (d:D) (xs:List D) (M:Mem) (Q:DK):Prop:=∃ ps p,Pys M xs ps/\Py M d p/\p.depth<=60/\Q (.bl (if neg then !(ps.any fun q=>PyData.eqv q p) else ps.any fun q=>PyData.eqv q p)) M
noncomputable def cIn (neg:Bool) (d e:D) (M:Mem) (Q:DK):Prop :=
 match e with
 | .str y=>∃ x,d=.str x/\Q (.bl (if neg then !(!(Builtin.Str.occurrences y x 0 y.length 1).isEmpty) else !(Builtin.Str.occurrences y x 0 y.length 1).isEmpty)) M
 | .tup xs=>Xd neg d xs M Q
 | .fz xs=>Xd neg d xs M Q
 | .lst a=>∃ xs,M a=some (.ls xs)/\Xd neg d xs M Q
 | .sd xs _=>∃ x,d=.str x/\Q (.bl (if neg then !(xs.contains x) else xs.contains x)) M
 | _=>False
noncomputable def cOp:CmpOp->D->D->Mem->DK->Prop
 | .Eq=>cEq false
 | .NotEq=>cEq true
 | .Lt=>cInt fun i j=>decide (i<j)
 | .LtE=>cInt fun i j=>decide (i<=j)
 | .Gt=>cInt fun i j=>decide (j<i)
 | .GtE=>cInt fun i j=>decide (j<=i)
 | .In=>cIn false
 | .NotIn=>cIn true
 | .Is=>cIs false
 | .IsNot=>cIs true
section
variable {X:Cx}
theorem Bw {g:Int->Int->Bool} {d e:D} {M:Mem} {Q:DK} (h:cInt g d e M Q):∃ i j,d=.int i/\e=.int j/\Q (.bl (g i j)) M:=by
 cases d with
 | int i=>cases e with
  | int j=>exact⟨i,j,rfl,rfl,h⟩
  | _=>exact h.elim
 | _=>exact h.elim
theorem XV {f:Value->Value->Sem Value} {g:Int->Int->Bool} (h:OpR X f (rI0 fun i j=>.bl (g i j))):OpR X f (YJ X.K (cInt g)):=by
 refine h.imp ?_;rintro x y H Q ⟨d,e,M,R,r1,r2,rm,h,q⟩;obtain⟨i,j,rfl,rfl,h⟩:=Bw h;cases r1;cases r2;exact⟨_,_,rfl,rfl,q _ _ _ _ (.refl H) rm (.bl _) h⟩
theorem Xw {a b:Addr} {prog:Program} {w:World} {A:Around} {E:Value->Shared->Prop} {s:Shared} {Q:Value->Shared->Prop} (ha:s.TypeIs (.ref a) "dict") (hb:s.TypeIs (.ref b) "tuple") (h:Q .notImplemented s) :
  wpAny (model prog w) A (call (.builtin "dict.__eq__") [.ref a,.ref b]) Q E s:=by
 refine wpAny_call_entry PySem.F.slot_dict_eq ha PySem.F.entry_dict_eq ?_ (PySem.F.args_dict_eq_2 _ _);show wpAny _ _ (Builtin.Dict.dictSlotArgs "__eq__" ⟨[.ref a,.ref b],[]⟩ >>= _) _ _ s;refine wpAny_bind ?_;unfold Builtin.Dict.dictSlotArgs;refine wpAny_bind (wpAny_notOrdered_dict ha ?_);show wpAny _ _ (pure (Value.ref a,Value.ref b)) _ _ s;refine wpAny_pure ?_;refine wpAny_bind (wpAny_isInstance (T:="tuple") hb PySem.F.sub_tuple_dict ?_);simp only[Bool.not_false,if_true];refine wpAny_bind (wpAny_rule ?_);exact wpAny_pure ⟨_,rfl,h⟩
theorem Zu (l b:Addr) (items:Array Value) (n:Nat) (dd:Option Addr) (sl:Array (Option Value)) (ob:Obj) (hcb:ob.cls=.type "dict") :
  Meets (Builtin.«tuple.__eq__» ⟨[.ref l,.ref b],[]⟩) (fun _ R s=>s.heap.get? l=some {cls:=.type "tuple",dict:=dd,data:=.seq items n,slots:=sl}/\s.heap.get? b=some ob/\R (.ok (.ret .notImplemented)) s) :=
 .of_wp fun prog w A R s h=>by obtain⟨hp,g,d,tk,os⟩:=s;obtain⟨hl,hb,h⟩:=h;obtain⟨c,dd2,da2,sl2⟩:=ob;cases hcb;have f1:=F.sub_dict_tuple;wp_walk using wpAny_loadPart' hl,wpAny_loadPart' hb;exact⟨_,rfl,h⟩
theorem ZX {A:Around} {s:Shared} {a b:Addr} {oa:Obj} {items:Array Value} (ha:s.heap.get? a=some oa) (hca:oa.cls=.type "dict") (hb:s.heap.IsTuple b items) (hu:A.units<cLine):SeqAt.RcAt A s (.ref a) (.ref b) false:=fun prog w E Q h=>by
 have hne:a≠b:=fun e=>by
  subst e;obtain⟨o2,ho2,hc2,_⟩:=hb;rw[ha] at ho2;cases ho2;rw[hca] at hc2;exact absurd hc2 (by simp)
 obtain⟨⟨cls2,dd2,data2,sl2⟩,ho2,hc2,n2,hd2⟩:=id hb;simp only at hc2 hd2;subst hc2 hd2;exact (SeqAt.rc_eq_decline_or (k:=false) ⟨_,ha,hca⟩ ⟨_,ho2,rfl⟩ (by decide) F.sub_tuple_dict F.slot_dict_eq F.slot_tuple_eq_refl
  (fun _ hq=>Xw ⟨_,ha,hca⟩ ⟨_,ho2,rfl⟩ hq)
  (fun _ hq=>call_meets F.slot_tuple_eq_refl ⟨_,ho2,rfl⟩ F.entry_tuple_eq (F.args_tuple_eq_2 _ _) (Zu b a items n2 dd2 sl2 oa hca) ⟨ho2,ha,hq⟩)
  (fun _ hq=>wpAny_isSame_ref_other hne ha ho2 (by rw[hca];simp) hq) (.inr hu) h)
theorem Ea (hu:X.A.units+64<cLine):OpR X (compareOp .Eq) (YJ X.K (cEq false)):=by
 rintro pins s σ H x y v u Q I rx ry ⟨d,e,M,R,r1,r2,rm,h,q⟩;rcases Vt h with ⟨p,kvs,xs,rfl,_,h1,rfl,hq⟩|⟨a,b,p1,p2,hd,h⟩
 ·cases r1;cases rx
  cases r2 with
  | tup ht r =>
   cases ry;obtain⟨vs,e1,_⟩:=rm _ _ h1;obtain⟨_,_,vs,_,pp⟩:=(show ObjOk X.prog X.w H s.heap p (.dK vs) from I.hok p _ e1);obtain⟨o,es,ep,h1,h2,_⟩:=pp;obtain⟨its,rv,hT,_⟩:=I.tuple ht;exact ZX h1 h2.1 hT (by omega) X.prog X.w _ _ ⟨.bl _,H,I,rfl,q _ _ _ _ (.refl H) rm (.bl _) hq⟩
 obtain⟨as,a1,a2⟩:=p1.reads I rm r1 rx;obtain⟨bs,b1,b2⟩:=p2.reads I rm r2 ry;exact SeqAt.compareEq_reads a1 b1 a2 b2 (by omega) ⟨.bl _,H,I,rfl,q _ _ _ _ (.refl H) rm (.bl _) h⟩
theorem DX (hu:X.A.units+64<cLine):OpR X (compareOp .NotEq) (YJ X.K (cEq true)):=by
 rintro pins s σ H x y v u Q I rx ry ⟨d,e,M,R,r1,r2,rm,h,q⟩;rcases Vt h with ⟨_,_,_,_,h0,_⟩|⟨a,b,p1,p2,hd,h⟩
 ·cases h0
 obtain⟨as,a1,a2⟩:=p1.reads I rm r1 rx;obtain⟨bs,b1,b2⟩:=p2.reads I rm r2 ry;exact SeqAt.compareNe_reads a1 b1 a2 b2 (by omega) ⟨.bl _,H,I,rfl,q _ _ _ _ (.refl H) rm (.bl _) h⟩
noncomputable def isB (d e:D):Option Bool :=
 match e with
 | .non=>some (match d with | .non=>true|_=>false)
 | .bl k=>some (match d with | .bl j=>j==k|_=>false)
 | _=>none
theorem Jn {neg:Bool} {d e:D} {M:Mem} {Q:DK} (h:cIs neg d e M Q):(e=.non\/∃ k,e=.bl k)/\∃ b,isB d e=some b/\Q (.bl (if neg then !b else b)) M:=by
 cases e with
 | non =>
  refine⟨.inl rfl,_,rfl,?_⟩;cases d<;>exact h
 | bl k =>
  refine⟨.inr ⟨k,rfl⟩,_,rfl,?_⟩;cases d<;>exact h
 | _=>exact (show False from h).elim
theorem AQ {K:Frag} {H:Hp} {x y:V} {d e:D} {v u:Value} {b:Bool} (r1:RelD K H x d) (rx:RelV x v) (r2:RelD K H y e) (ry:RelV y u) (he:e=.non\/∃ k,e=.bl k) (hb:isB d e=some b):plainIs v u=true/\(v==u)=b:=by
 rcases he with rfl|⟨k,rfl⟩
 ·cases r2;cases ry;cases hb
  cases r1<;>first|(cases rx;exact⟨rfl,rfl⟩)|(obtain⟨t,rfl⟩:=rx;exact⟨rfl,rfl⟩)
 ·cases r2;cases ry;cases hb
  cases r1<;>first|(cases rx;exact⟨rfl,rfl⟩)|(obtain⟨t,rfl⟩:=rx;exact⟨rfl,rfl⟩)|(rename_i j;cases rx;cases j<;>cases k<;>exact⟨rfl,rfl⟩)
theorem DY:OpR X (compareOp .Is) (YJ X.K (cIs false)):=by
 rintro pins s σ H x y v u Q I rx ry ⟨d,e,M,R,r1,r2,rm,h,q⟩;obtain⟨he,b,hb,h⟩:=Jn h;obtain⟨a1,a2⟩:=AQ r1 rx r2 ry he hb;refine wpAny_is_plain a1 ?_;rw[a2];exact⟨.bl _,H,I,rfl,q _ _ _ _ (.refl H) rm (.bl _) h⟩
theorem JE:OpR X (compareOp .IsNot) (YJ X.K (cIs true)):=by
 rintro pins s σ H x y v u Q I rx ry ⟨d,e,M,R,r1,r2,rm,h,q⟩;obtain⟨he,b,hb,h⟩:=Jn h;obtain⟨a1,a2⟩:=AQ r1 rx r2 ry he hb;refine wpAny_isNot_plain a1 ?_;rw[a2];exact⟨.bl _,H,I,rfl,q _ _ _ _ (.refl H) rm (.bl _) h⟩
noncomputable def eqTo (h:Heap) (p:PyData) (y:Value):Bool:=by
 classical exact decide (∃ d as,Reads h y d as/\d.canLay0=true/\PyData.eqv d p=true)
theorem Jd {h:Heap} {p d:PyData} {y:Value} {as:List Addr} (r:Reads h y d as) (c:d.canLay0=true):eqTo h p y=PyData.eqv d p:=by
 unfold eqTo;cases e:PyData.eqv d p with
 | true=>simpa using ⟨d,⟨as,r⟩,c,e⟩
 | false =>
  simp only[decide_eq_false_iff_not];rintro⟨d',as',r',c',e'⟩;have:=SeqAt.Reads.unique d d' y as as' c r r';subst this;rw[e] at e';cases e'
theorem D5 {a b:Bool} (h:(a&&b)=true):a=true/\b=true:=by
 cases a with
 | true=>exact⟨rfl,h⟩
 | false=>exact nfx h
theorem ZP {h:Heap} {p:PyData} {us:List Value} {ps:List PyData} {as:List Addr} (r:ReadsAll h us ps as):PyData.canLayAll0 ps=true->us.any (eqTo h p)=ps.any fun q=>PyData.eqv q p:=by
 induction r using ReadsAll.rec (motive_1:=fun _ _ _ _=>True) with
 | nil=>exact fun _=>rfl
 | cons r rr _ ih =>
  intro c;obtain⟨c1,c2⟩:=D5 (show (_&&_)=true from c);rw[List.any_cons,List.any_cons,Jd r c1,ih c2]
 | _=>trivial
theorem UV {h:Heap}:∀ {us:List Value} {ps:List PyData} {as:List Addr},ReadsAll h us ps as->PyData.canLayAll0 ps=true->∀ y∈us,∃ d as,Reads h y d as/\d.canLay0=true
 | _,_,_,.nil,_,_,hy=>by cases hy
 | _,_,_,.cons r rr,c,y,hy=>by
  obtain⟨c1,c2⟩:=D5 (show (_&&_)=true from c);rcases List.mem_cons.mp hy with rfl|hy
  ·exact⟨_,_,r,c1⟩
  ·exact UV rr c2 y hy
theorem ZU {A:Around} {s:Shared} {p:PyData} {us:List Value} {ps:List PyData} {as bs:List Addr} {x:Value} (hu:A.units+64<cLine) (r:ReadsAll s.heap us ps as) (c:PyData.canLayAll0 ps=true) (rx:Reads s.heap x p bs) (cx:p.canLay0=true) (hd:p.depth<=60) :
  ∀ y∈us,SeqAt.EqAt A s y x (eqTo s.heap p y):=fun y hy=>by
 obtain⟨d,as',ry,cy⟩:=UV r c y hy;rw[Jd ry cy];exact SeqAt.eqAt_reads d p A s y x _ _ ry rx cy cx (by omega)
theorem Dd {prog:Program} {w:World} {A:Around} {E:Value->Shared->Prop} {s:Shared} {a:Addr} {o:Obj} {es:Array DictEntry} {ep:Nat} {xs:List Str} {us:List Value} {k:Str} {tk:Tok} {Q:Value->Shared->Prop} (lo:(a==sysModules)=false)
  (ho:s.heap.get? a=some o) (ex:o.ExactDict) (hd:o.data=.dict es ep) (en:EntK es.toList xs us) (h:Q (.bool (xs.contains k)) {s with toks:=s.toks+1}):wpAny (model prog w) A (compareOp .In (.str k tk) (.ref a)) Q E s:=by
 have tI:s.TypeIs (.ref a) "dict":=⟨o,ho,ex.1⟩;show wpAny _ _ (do return .bool ((<- contains (.ref a) (.str k tk)))) Q E s;refine wpAny_bind ?_;unfold contains
 try with_reducible refine wpAny_holding ?_
 refine wpAny_bind (wpAny_specialOf tI PySem.F.slot_dict_contains.lookup ?_);show wpAny _ _ (if (some (Value.builtin "dict.__contains__")==some Value.none)=true then _ else _) _ E s;rw[if_neg (by rw[beq_builtin_none];exact Bool.false_ne_true)];refine wpAny_bind (wpAny_callSpecialUnlessNone?_slot (name:=Str.ofString "__contains__") tI PySem.F.slot_dict_contains
  (wpAny_call_entry PySem.F.slot_dict_contains tI PySem.F.entry_dict_contains ?_ (PySem.F.args_dict_contains_2 _ _)))
 show wpAny _ _ (dictGet a (.str k tk) >>= _) _ _ s;refine wpAny_bind (V6 ho hd en ?_);have hb:=en.mem (k:=k);cases hs:sdAt xs us k with
 | some v =>
  rw[hs] at hb;rw[<- hb] at h;show wpAny _ _ (ret (.bool true)) _ _ _;exact wpAny_pure ⟨_,rfl,wpAny_truthy_bool (wpAny_pure h)⟩
 | none =>
  rw[hs] at hb;rw[<- hb] at h;show wpAny _ _ (Builtin.Dict.pendingKey? a (.str k tk) >>= _) _ _ _;exact wpAny_bind (wpAny_pendingKey_other lo (wpAny_pure ⟨_,rfl,wpAny_truthy_bool (wpAny_pure h)⟩))
theorem BD {prog:Program} {w:World} {A:Around} {E:Value->Shared->Prop} {s:Shared} {a:Addr} {o:Obj} {es:Array DictEntry} {ep:Nat} {xs:List Str} {us:List Value} {k:Str} {tk:Tok} {Q:Value->Shared->Prop} (lo:(a==sysModules)=false)
  (ho:s.heap.get? a=some o) (ex:o.ExactDict) (hd:o.data=.dict es ep) (en:EntK es.toList xs us) (h:Q (.bool (!xs.contains k)) {s with toks:=s.toks+1}):wpAny (model prog w) A (compareOp .NotIn (.str k tk) (.ref a)) Q E s:=by
 have tI:s.TypeIs (.ref a) "dict":=⟨o,ho,ex.1⟩;show wpAny _ _ (do return .bool (!(<- contains (.ref a) (.str k tk)))) Q E s;refine wpAny_bind ?_;unfold contains
 try with_reducible refine wpAny_holding ?_
 refine wpAny_bind (wpAny_specialOf tI PySem.F.slot_dict_contains.lookup ?_);show wpAny _ _ (if (some (Value.builtin "dict.__contains__")==some Value.none)=true then _ else _) _ E s;rw[if_neg (by rw[beq_builtin_none];exact Bool.false_ne_true)];refine wpAny_bind (wpAny_callSpecialUnlessNone?_slot (name:=Str.ofString "__contains__") tI PySem.F.slot_dict_contains
  (wpAny_call_entry PySem.F.slot_dict_contains tI PySem.F.entry_dict_contains ?_ (PySem.F.args_dict_contains_2 _ _)))
 show wpAny _ _ (dictGet a (.str k tk) >>= _) _ _ s;refine wpAny_bind (V6 ho hd en ?_);have hb:=en.mem (k:=k);cases hs:sdAt xs us k with
 | some v =>
  rw[hs] at hb;rw[<- hb] at h;show wpAny _ _ (ret (.bool true)) _ _ _;exact wpAny_pure ⟨_,rfl,wpAny_truthy_bool (wpAny_pure h)⟩
 | none =>
  rw[hs] at hb;rw[<- hb] at h;show wpAny _ _ (Builtin.Dict.pendingKey? a (.str k tk) >>= _) _ _ _;exact wpAny_bind (wpAny_pendingKey_other lo (wpAny_pure ⟨_,rfl,wpAny_truthy_bool (wpAny_pure h)⟩))
theorem DZ (hu:X.A.units+66<cLine):OpR X (compareOp .In) (YJ X.K (cIn false)):=by
 rintro pins s σ H x y v u Q I rx ry ⟨d,e,M,R,r1,r2,rm,h,q⟩;cases r2 with
 | str z =>
  obtain⟨x',rfl,h2⟩:=(show ∃ x,d=.str x/\R (.bl (if false then !(!(Builtin.Str.occurrences z x 0 z.length 1).isEmpty) else !(Builtin.Str.occurrences z x 0 z.length 1).isEmpty)) M from h);cases r1;exact JC pins s σ H _ _ v u Q I rx ry ⟨_,_,rfl,rfl,q _ _ _ _ (.refl H) rm (.bl _) h2⟩
 | @tup a vs ds ht rr =>
  obtain⟨ps,p,p1,p2,hd,h⟩:=(show Xd false d ds M R from h);cases (show u=Value.ref a from ry);obtain⟨its,rv,ht',_⟩:=I.tuple ht;obtain⟨as,a1,a2⟩:=p1.reads I rm rr rv;obtain⟨bs,b1,b2⟩:=p2.reads I rm r1 rx;refine SeqAt.in_tupleAt (items:=its.toArray) (eqTo s.heap p) ht' (fun y hy=>ZU (A:=X.A.in1) (by show X.A.units+1+64<cLine;omega) a1 a2 b1 b2 hd y (by simpa using hy)) ⟨.bl _,H,I,rfl,q _ _ _ _ (.refl H) rm (.bl _) ?_⟩;rw[List.any_toArray,ZP a1 a2];exact h
 | @fz a vs ds ht rr =>
  obtain⟨ps,p,p1,p2,hd,h⟩:=(show Xd false d ds M R from h);cases (show u=Value.ref a from ry);obtain⟨its,rv,ht',_⟩:=I.list ht.sq;obtain⟨as,a1,a2⟩:=p1.reads I rm rr rv;obtain⟨bs,b1,b2⟩:=p2.reads I rm r1 rx;refine SeqAt.in_listAt (items:=its.toArray) (eqTo s.heap p) ht'.isList (fun y hy=>ZU (A:=X.A.in1) (by show X.A.units+1+64<cLine;omega) a1 a2 b1 b2 hd y (by simpa using hy)) ⟨.bl _,H,I,rfl,q _ _ _ _ (.refl H) rm (.bl _) ?_⟩;rw[List.any_toArray,ZP a1 a2];exact h
 | lst a =>
  obtain⟨ds,e0,ps,p,p1,p2,hd,h⟩:=(show ∃ xs,M a=some (.ls xs)/\Xd false d xs M R from h);cases (show u=Value.ref a from ry);obtain⟨vs,e1,rr⟩:=rm _ _ e0;obtain⟨its,rv,ht',_⟩:=I.list (.of e1);obtain⟨as,a1,a2⟩:=p1.reads I rm rr rv;obtain⟨bs,b1,b2⟩:=p2.reads I rm r1 rx;refine SeqAt.in_listAt (items:=its.toArray) (eqTo s.heap p) ht'.isList (fun y hy=>ZU (A:=X.A.in1) (by show X.A.units+1+64<cLine;omega) a1 a2 b1 b2 hd y (by simpa using hy)) ⟨.bl _,H,I,rfl,q _ _ _ _ (.refl H) rm (.bl _) ?_⟩;rw[List.any_toArray,ZP a1 a2];exact h
 | @sd a xs vs ds T rr =>
  obtain⟨x',rfl,h2⟩:=(show ∃ x,d=.str x/\R (.bl (if false then !(xs.contains x) else xs.contains x)) M from h);cases r1;obtain⟨tk,rfl⟩:=rx;cases (show u=Value.ref a from ry);obtain⟨lo,o,es,ep,us,lk,ex,hd,en,rv⟩:=T;exact Dd lo (I.kIn _ _ lk) ex hd en ⟨.bl _,H,I.tok _,rfl,q _ _ _ _ (.refl H) rm (.bl _) h2⟩
 | _=>exact (show False from h).elim
theorem JD (hu:X.A.units+66<cLine):OpR X (compareOp .NotIn) (YJ X.K (cIn true)):=by
 rintro pins s σ H x y v u Q I rx ry ⟨d,e,M,R,r1,r2,rm,h,q⟩;cases r2 with
 | str z =>
  obtain⟨x',rfl,h2⟩:=(show ∃ x,d=.str x/\R (.bl (if true then !(!(Builtin.Str.occurrences z x 0 z.length 1).isEmpty) else !(Builtin.Str.occurrences z x 0 z.length 1).isEmpty)) M from h);cases r1;exact Vd pins s σ H _ _ v u Q I rx ry ⟨_,_,rfl,rfl,q _ _ _ _ (.refl H) rm (.bl _) h2⟩
 | @tup a vs ds ht rr =>
  obtain⟨ps,p,p1,p2,hd,h⟩:=(show Xd true d ds M R from h);cases (show u=Value.ref a from ry);obtain⟨its,rv,ht',_⟩:=I.tuple ht;obtain⟨as,a1,a2⟩:=p1.reads I rm rr rv;obtain⟨bs,b1,b2⟩:=p2.reads I rm r1 rx;refine SeqAt.notIn_tupleAt (items:=its.toArray) (eqTo s.heap p) ht' (fun y hy=>ZU (A:=X.A.in1) (by show X.A.units+1+64<cLine;omega) a1 a2 b1 b2 hd y (by simpa using hy)) ⟨.bl _,H,I,rfl,q _ _ _ _ (.refl H) rm (.bl _) ?_⟩;rw[List.any_toArray,ZP a1 a2];exact h
 | @fz a vs ds ht rr =>
  obtain⟨ps,p,p1,p2,hd,h⟩:=(show Xd true d ds M R from h);cases (show u=Value.ref a from ry);obtain⟨its,rv,ht',_⟩:=I.list ht.sq;obtain⟨as,a1,a2⟩:=p1.reads I rm rr rv;obtain⟨bs,b1,b2⟩:=p2.reads I rm r1 rx;refine SeqAt.notIn_listAt (items:=its.toArray) (eqTo s.heap p) ht'.isList (fun y hy=>ZU (A:=X.A.in1) (by show X.A.units+1+64<cLine;omega) a1 a2 b1 b2 hd y (by simpa using hy)) ⟨.bl _,H,I,rfl,q _ _ _ _ (.refl H) rm (.bl _) ?_⟩;rw[List.any_toArray,ZP a1 a2];exact h
 | lst a =>
  obtain⟨ds,e0,ps,p,p1,p2,hd,h⟩:=(show ∃ xs,M a=some (.ls xs)/\Xd true d xs M R from h);cases (show u=Value.ref a from ry);obtain⟨vs,e1,rr⟩:=rm _ _ e0;obtain⟨its,rv,ht',_⟩:=I.list (.of e1);obtain⟨as,a1,a2⟩:=p1.reads I rm rr rv;obtain⟨bs,b1,b2⟩:=p2.reads I rm r1 rx;refine SeqAt.notIn_listAt (items:=its.toArray) (eqTo s.heap p) ht'.isList (fun y hy=>ZU (A:=X.A.in1) (by show X.A.units+1+64<cLine;omega) a1 a2 b1 b2 hd y (by simpa using hy)) ⟨.bl _,H,I,rfl,q _ _ _ _ (.refl H) rm (.bl _) ?_⟩;rw[List.any_toArray,ZP a1 a2];exact h
 | @sd a xs vs ds T rr =>
  obtain⟨x',rfl,h2⟩:=(show ∃ x,d=.str x/\R (.bl (if true then !(xs.contains x) else xs.contains x)) M from h);cases r1;obtain⟨tk,rfl⟩:=rx;cases (show u=Value.ref a from ry);obtain⟨lo,o,es,ep,us,lk,ex,hd,en,rv⟩:=T;exact BD lo (I.kIn _ _ lk) ex hd en ⟨.bl _,H,I.tok _,rfl,q _ _ _ _ (.refl H) rm (.bl _) h2⟩
 | _=>exact (show False from h).elim
theorem op_c (hu:X.A.units+66<cLine) (op:CmpOp):OpR X (compareOp op) (YJ X.K (cOp op)):=by
 cases op with
 | Eq=>exact Ea (by omega)
 | NotEq=>exact DX (by omega)
 | Lt=>exact XV Ih
 | LtE=>exact XV Ii
 | Gt=>exact XV Ij
 | GtE=>exact XV Ik
 | In=>exact DZ hu
 | NotIn=>exact JD hu
 | Is=>exact DY
 | IsNot=>exact JE
noncomputable def iOp (d e:D) (M:Mem) (Q:DK):Prop :=
 match d,e with
 | .tup xs,.int i=>∃ v,atI xs i=some v/\Q v M
 | .fz xs,.int i=>∃ v,atI xs i=some v/\Q v M
 | .lst a,.int i=>∃ xs v,M a=some (.ls xs)/\atI xs i=some v/\Q v M
 | .str z,.int i=>z.length<=sizeLine/\∃ c,atI z.cps.toList i=some c/\Q (.str ⟨#[c]⟩) M
 | .sd xs ds,.str k=>∃ v,sdAt xs ds k=some v/\Q v M
 | _,_=>False
theorem RelDs.atI {K:Frag} {H:Hp} {vs:List V} {ds:List D} {i:Int} {d:D} (r:RelDs K H vs ds) (e:L2.atI ds i=some d):∃ v,L2.atI vs i=some v/\RelD K H v d:=by
 unfold L2.atI at e ⊢;rw[r.length];cases q:ixN ds.length i with
 | none=>rw [q] at e;cases e
 | some j=>rw [q] at e;exact r.get e
theorem Cf {d e:D} {M:Mem} {Q:DK} (hn:∀ i,e≠.int i) (hk:∀ i,e≠.str i) (h:iOp d e M Q):False:=by
 unfold iOp at h;split at h
 ·exact hn _ rfl
 ·exact hn _ rfl
 ·exact hn _ rfl
 ·exact hn _ rfl
 ·exact hk _ rfl
 ·exact h
theorem Ce {d:D} {k:Str} {M:Mem} {Q:DK} (h:iOp d (.str k) M Q):∃ xs ds v,d=.sd xs ds/\sdAt xs ds k=some v/\Q v M:=by
 cases d with
 | sd xs ds=>obtain⟨v,h1,h2⟩:=(show ∃ v,sdAt xs ds k=some v/\Q v M from h);exact⟨xs,ds,v,rfl,h1,h2⟩
 | _=>exact (show False from h).elim
theorem IB:IxR X (fun x y H Q=>∃ p xs vs k v,x=.ref p/\y=.str k/\TabK X.K p xs vs/\sdAt xs vs k=some v/\Q v H):=by
 intro value slice pins s σ H x y v u Q I rx ry h hs;obtain⟨p,xs,vs,k,z,rfl,rfl,⟨lo,o,es,ep,us,lk,ex,hd,en,rv⟩,e,q⟩:=h;cases rx;obtain⟨tk,rfl⟩:=ry;have ho:=I.kIn _ _ lk;have tI:s.TypeIs (.ref p) "dict":=⟨o,ho,ex.1⟩;obtain⟨w',ew,rw'⟩:=WB rv e;refine subscriptTail_builtinR (x:=w') tI PySem.F.slot_dict_getitem.lookup ?_ hs;unfold getItem
 try with_reducible refine wpAny_holding ?_
 refine wpAny_bind (wpAny_sequenceKey tI (by decide) ?_);refine wpAny_bind (wpAny_callSpecial?_slot (name:=Str.ofString "__getitem__") tI PySem.F.slot_dict_getitem
  (wpAny_call_entry PySem.F.slot_dict_getitem tI PySem.F.entry_dict_getitem ?_ (PySem.F.args_dict_getitem_2 _ _)))
 show wpAny _ _ (dictGet p (.str k tk) >>= _) _ _ s;refine wpAny_bind (V6 ho hd en ?_);rw[ew];exact wpAny_pure ⟨w',rfl,wpAny_pure ⟨rfl,z,H,I.tok _,rw',q⟩⟩
theorem ix_i:IxR X (YJ X.K iOp):=by
 rintro value slice pins s σ H x y v u Q I rx ry ⟨d,e,M,R,r1,r2,rm,h,q⟩ hs;cases r2 with
 | int i =>
  cases r1 with
  | tup ht r =>
   obtain⟨d,e,h⟩:=(show ∃ v,L2.atI _ i=some v/\R v M from h);obtain⟨w,e1,r1⟩:=r.atI e;exact Fc value slice pins s σ H _ _ v u Q I rx ry ⟨_,_,_,_,rfl,rfl,ht,e1,q _ _ _ _ (.refl H) rm r1 h⟩ hs
  | fz ht r =>
   obtain⟨d,e,h⟩:=(show ∃ v,L2.atI _ i=some v/\R v M from h);obtain⟨w,e1,r1⟩:=r.atI e;exact J5 value slice pins s σ H _ _ v u Q I rx ry ⟨_,_,_,_,rfl,rfl,ht.sq,e1,q _ _ _ _ (.refl H) rm r1 h⟩ hs
  | lst a =>
   obtain⟨xs,d,e0,e,h⟩:=(show ∃ xs v,M a=some (.ls xs)/\L2.atI xs i=some v/\R v M from h);obtain⟨vs,e1,r⟩:=rm _ _ e0;obtain⟨w,e1',r1⟩:=r.atI e;exact J5 value slice pins s σ H _ _ v u Q I rx ry ⟨_,_,_,_,rfl,rfl,.of e1,e1',q _ _ _ _ (.refl H) rm r1 h⟩ hs
  | str z =>
   obtain⟨hz,c,e,h⟩:=(show z.length<=sizeLine/\∃ c,L2.atI z.cps.toList i=some c/\R (.str ⟨#[c]⟩) M from h);exact Fd value slice pins s σ H _ _ v u Q I rx ry ⟨_,_,_,rfl,rfl,hz,e,q _ _ _ _ (.refl H) rm (.str _) h⟩ hs
  | _=>exact (show False from h).elim
 | str k =>
  obtain⟨xs,ds,w',rfl,e,h⟩:=Ce h;cases r1 with
  | sd T r =>
   obtain⟨z,e1,r1⟩:=VH r e;exact IB value slice pins s σ H _ _ v u Q I rx ry ⟨_,_,_,_,_,rfl,rfl,T,e1,q _ _ _ _ (.refl H) rm r1 h⟩ hs
 | _=>exact (Cf (by rintro i ⟨⟩) (by rintro i ⟨⟩) h).elim
noncomputable def cutG {α:Type} (xs:List α) (lo hi:Option Int):List α:=(xs.drop (HT.sIx xs.length 0 lo)).take (HT.sIx xs.length xs.length hi-HT.sIx xs.length 0 lo)
theorem RelDs.cut {K:Frag} {H:Hp} {vs:List V} {ds:List D} (r:RelDs K H vs ds) (lo hi:Option Int):RelDs K H (cutV vs lo hi) (cutG ds lo hi):=by
 unfold cutV cutG;rw[r.length];exact (r.drop _).take _
noncomputable def sOp (d:D) (lo hi:Option Int) (M:Mem) (Q:DK):Prop :=
 match d with
 | .fz xs=>alloc M (.ls (cutG xs lo hi)) fun p M'=>Q (.lst p) M'
 | .lst a=>∃ xs,M a=some (.ls xs)/\alloc M (.ls (cutG xs lo hi)) fun p M'=>Q (.lst p) M'
 | .tup xs=>Q (.tup (cutG xs lo hi)) M
 | _=>False
noncomputable def Im (K:Frag) (f:D->Option Int->Option Int->Mem->DK->Prop):V->Option Int->Option Int->Hp->VK->Prop:=fun x lo hi H Q=>∃ d M R,RelD K H x d/\RepM K H M/\f d lo hi M R/\∀ d' M' v H',HExt K H H'->RepM K H' M'->RelD K H' v d'->R d' M'->Q v H'
theorem sl_s:SlR X (Im X.K sOp):=by
 rintro pins s σ H x v vl vu lo hi sl Q I rx hs pl pu ⟨d,M,R,r1,rm,h,q⟩;cases r1 with
 | fz ht r =>
  exact UU pins s σ H _ v vl vu lo hi sl Q I rx hs pl pu ⟨_,_,rfl,ht.sq,fun p hp=>q _ _ _ _ (.upd (.inl hp)) (rm.lst hp (r.cut lo hi)) (.lst p) ((show alloc M (.ls (cutG _ lo hi)) fun p M'=>R (.lst p) M' from h).at (rm.none hp))⟩
 | lst a =>
  obtain⟨xs,e0,h⟩:=(show ∃ xs,M a=some (.ls xs)/\alloc M (.ls (cutG xs lo hi)) fun p M'=>R (.lst p) M' from h);obtain⟨vs,e1,r⟩:=rm _ _ e0;exact UU pins s σ H _ v vl vu lo hi sl Q I rx hs pl pu ⟨_,_,rfl,.of e1,fun p hp=>q _ _ _ _ (.upd (.inl hp)) (rm.lst hp (r.cut lo hi)) (.lst p) (h.at (rm.none hp))⟩
 | tup ht r =>
  rename_i vs ds;by_cases hw:HT.sIx vs.length 0 lo=0/\HT.sIx vs.length vs.length hi=vs.length
  ·have e:cutG ds lo hi=ds:=by
    unfold cutG;rw[<- r.length,hw.1,hw.2,List.drop_zero,Nat.sub_zero,r.length,List.take_length]
   have h':R (.tup (cutG ds lo hi)) M:=h;rw[e] at h';exact BF pins s σ H _ v vl vu lo hi sl Q I rx hs pl pu ⟨_,_,rfl,ht,hw,q _ _ _ _ (.refl H) rm (.tup ht r) h'⟩
  ·exact Dh pins s σ H _ v vl vu lo hi sl Q I rx hs pl pu ⟨_,_,rfl,ht,hw,fun p hp=>q _ _ _ _ (.upd (.inl hp)) (rm.tup hp) (.tup (.of upd_same) ((r.cut lo hi).ext (.upd (.inl hp)))) h⟩
 | _=>exact (show False from h).elim
noncomputable def fAbs:List D->Mem->DK->Prop
 | [.int i],M,Q=>Q (.int (if i<0 then -i else i)) M
 | _,_,_=>False
noncomputable def fMax:List D->Mem->DK->Prop
 | [.int i,.int j],M,Q=>Q (.int (if j > i then j else i)) M
 | _,_,_=>False
noncomputable def fMin:List D->Mem->DK->Prop
 | [.int i,.int j],M,Q=>Q (.int (if j<i then j else i)) M
 | _,_,_=>False
noncomputable def fStr:List D->Mem->DK->Prop
 | [.int i],M,Q=>i.natAbs.log2<1920/\Q (.str (toString i)) M
 | _,_,_=>False
noncomputable def fLen:List D->Mem->DK->Prop
 | [.tup xs],M,Q=>Q (.int xs.length) M
 | [.fz xs],M,Q=>Q (.int xs.length) M
 | [.lst a],M,Q=>∃ xs,M a=some (.ls xs)/\Q (.int xs.length) M
 | [.str z],M,Q=>z.length<=sizeLine/\Q (.int z.length) M
 | _,_,_=>False
noncomputable def Vk:List D->Mem->DK->Prop
 | [.int i,.int j],M,Q=>V3 j/\Q (.tup [.int (i.fdiv j),.int (i.fmod j)]) M
 | _,_,_=>False
noncomputable def Ye:List D->Mem->DK->Prop
 | [.tup xs],M,Q=>Q (.tup xs) M
 | [.fz xs],M,Q=>Q (.tup xs) M
 | [.lst a],M,Q=>∃ xs,M a=some (.ls xs)/\Q (.tup xs) M
 | _,_,_=>False
noncomputable def Ym:List D->Mem->DK->Prop
 | [.tup xs],M,Q=>alloc M (.ls xs) fun p M'=>Q (.lst p) M'
 | [.fz xs],M,Q=>alloc M (.ls xs) fun p M'=>Q (.lst p) M'
 | [.lst a],M,Q=>∃ xs,M a=some (.ls xs)/\alloc M (.ls xs) fun p M'=>Q (.lst p) M'
 | _,_,_=>False
noncomputable def fInt:List D->Mem->DK->Prop
 | [.int i],M,Q=>Q (.int i) M
 | [.bl b],M,Q=>Q (.int (if b then 1 else 0)) M
 | _,_,_=>False
theorem RelDs.one {K:Frag} {H:Hp} {vs:List V} {d:D} (r:RelDs K H vs [d]):∃ v,vs=[v]/\RelD K H v d:=by
 cases r with|cons h q=>cases q;exact⟨_,rfl,h⟩
theorem RelDs.two {K:Frag} {H:Hp} {vs:List V} {d e:D} (r:RelDs K H vs [d,e]):∃ v w,vs=[v,w]/\RelD K H v d/\RelD K H w e:=by
 cases r with|cons h q=>cases q with|cons h' q'=>cases q';exact⟨_,_,rfl,h,h'⟩
theorem Ga:CallR X (.builtin "abs") (ZD X.K fAbs):=by
 refine (Bu (X:=X)).imp ?_;rintro xs H Q ⟨ds,M,R,r,rm,h,q⟩;unfold fAbs at h;split at h
 ·obtain⟨v,rfl,ra⟩:=r.one;cases ra;exact⟨_,rfl,q _ _ _ _ (.refl H) rm (.int _) h⟩
 ·exact h.elim
theorem FU (hc:X.calm=true):CallR X (.builtin "max") (ZD X.K fMax):=by
 refine (A1 (X:=X) hc).imp ?_;rintro xs H Q ⟨ds,M,R,r,rm,h,q⟩;unfold fMax at h;split at h
 ·obtain⟨v,w,rfl,r1,r2⟩:=r.two;cases r1;cases r2;exact⟨_,_,rfl,q _ _ _ _ (.refl H) rm (.int _) h⟩
 ·exact h.elim
theorem FT (hc:X.calm=true):CallR X (.builtin "min") (ZD X.K fMin):=by
 refine (A0 (X:=X) hc).imp ?_;rintro xs H Q ⟨ds,M,R,r,rm,h,q⟩;unfold fMin at h;split at h
 ·obtain⟨v,w,rfl,r1,r2⟩:=r.two;cases r1;cases r2;exact⟨_,_,rfl,q _ _ _ _ (.refl H) rm (.int _) h⟩
 ·exact h.elim
theorem FS:CallR X (.type "str") (ZD X.K fStr):=by
 refine (Vp (X:=X)).imp ?_;rintro xs H Q ⟨ds,M,R,r,rm,h,q⟩;unfold fStr at h;split at h
 ·obtain⟨v,rfl,ra⟩:=r.one;cases ra;exact⟨_,rfl,h.1,q _ _ _ _ (.refl H) rm (.str _) h.2⟩
 ·exact h.elim
theorem FW:CallR X (.builtin "len") (ZD X.K fLen):=by
 refine (Vs (X:=X) |>.or Vr).imp ?_;rintro xs H Q ⟨ds,M,R,r,rm,h,q⟩;unfold fLen at h;split at h
 ·obtain⟨v,rfl,ra⟩:=r.one;cases ra with|tup ht r=>exact .inl ⟨_,_,rfl,.inr ht,q _ _ _ _ (.refl H) rm (by rw[r.length];exact .int _) h⟩
 ·obtain⟨v,rfl,ra⟩:=r.one;cases ra with|fz ht r=>exact .inl ⟨_,_,rfl,.inl ht.sq,q _ _ _ _ (.refl H) rm (by rw[r.length];exact .int _) h⟩
 ·obtain⟨v,rfl,ra⟩:=r.one
  obtain⟨xs,e0,h⟩:=h;obtain⟨vs,e1,r'⟩:=rm _ _ e0;cases ra;exact .inl ⟨_,_,rfl,.inl (.of e1),q _ _ _ _ (.refl H) rm (by rw[r'.length];exact .int _) h⟩
 ·obtain⟨v,rfl,ra⟩:=r.one;cases ra;exact .inr ⟨_,rfl,h.1,q _ _ _ _ (.refl H) rm (.int _) h.2⟩
 ·exact h.elim
theorem A2:CallR X (.builtin "divmod") (ZD X.K Vk):=by
 rintro pins s σ H xs us Q I rv ⟨ds,M,R,r,rm,h,q⟩;unfold Vk at h;split at h
 ·rename_i i j
  obtain⟨v,w,rfl,r1,r2⟩:=r.two;cases r1;cases r2;obtain⟨u,w',rfl,⟨t,rfl⟩,⟨t',rfl⟩⟩:=XB rv;refine divmod_int h.1.1 ?_ (.inl (PyProof.noPylong_of_log2 h.1.2));have hn:H s.heap.objs.size=none:=I.hok.fresh %[|3];refine⟨.ref s.heap.objs.size,upd H s.heap.objs.size (.tup [.int (i.fdiv j),.int (i.fmod j)]),?_,rfl,q _ _ _ _ (.upd (.inl hn)) (rm.tup hn) (.tup (.of upd_same) (.cons (.int _) (.cons (.int _) .nil))) h.2⟩;refine I.laid (fun b o e=>Heap.get?_push_of_some _ e) %[|3] ⟨by simp only[List.length_cons,List.length_nil];rw[sizeLine_eq];decide,[.int (i.fdiv j) s.toks,.int (i.fmod j) (s.toks+1)],.cons ⟨_,rfl⟩ (.cons ⟨_,rfl⟩ .nil),?_⟩;exact⟨_,Heap.get?_push_size s.heap rfl,rfl,0,rfl⟩
 ·exact h.elim
theorem Bv:CallR X (.type "tuple") (ZD X.K Ye):=by
 refine (Wx (X:=X)).imp ?_;rintro xs H Q ⟨ds,M,R,r,rm,h,q⟩;unfold Ye at h;split at h
 ·obtain⟨v,rfl,ra⟩:=r.one;cases ra with|tup ht r=>exact⟨_,_,rfl,.inr ⟨ht,q _ _ _ _ (.refl H) rm (.tup ht r) h⟩⟩
 ·obtain⟨v,rfl,ra⟩:=r.one;cases ra with|fz ht r=>exact⟨_,_,rfl,.inl ⟨ht.sq,fun p hp=>q _ _ _ _ (.upd (.inl hp)) (rm.tup hp) (.tup (.of upd_same) (r.ext (.upd (.inl hp)))) h⟩⟩
 ·obtain⟨v,rfl,ra⟩:=r.one
  obtain⟨xs,e0,h⟩:=h;obtain⟨vs,e1,r'⟩:=rm _ _ e0;cases ra;exact⟨_,_,rfl,.inl ⟨.of e1,fun p hp=>q _ _ _ _ (.upd (.inl hp)) (rm.tup hp) (.tup (.of upd_same) (r'.ext (.upd (.inl hp)))) h⟩⟩
 ·exact h.elim
theorem Cy:CallR X (.type "list") (ZD X.K Ym):=by
 refine (Vq (X:=X)).imp ?_;rintro xs H Q ⟨ds,M,R,r,rm,h,q⟩;unfold Ym at h;split at h
 ·obtain⟨v,rfl,ra⟩:=r.one;cases ra with|tup ht r=>exact⟨_,_,rfl,.inr ht,fun p hp=>q _ _ _ _ (.upd (.inl hp)) (rm.lst hp r) (.lst p) (h.at (rm.none hp))⟩
 ·obtain⟨v,rfl,ra⟩:=r.one;cases ra with|fz ht r=>exact⟨_,_,rfl,.inl ht.sq,fun p hp=>q _ _ _ _ (.upd (.inl hp)) (rm.lst hp r) (.lst p) (h.at (rm.none hp))⟩
 ·obtain⟨v,rfl,ra⟩:=r.one
  obtain⟨xs,e0,h⟩:=h;obtain⟨vs,e1,r'⟩:=rm _ _ e0;cases ra;exact⟨_,_,rfl,.inl (.of e1),fun p hp=>q _ _ _ _ (.upd (.inl hp)) (rm.lst hp r') (.lst p) (h.at (rm.none hp))⟩
 ·exact h.elim
end
end DL
end
noncomputable section
namespace DL
open PySem PySem.Spec PyProof.Rows L2
noncomputable def tyD (M:Mem):D->Option String
 | .non=>some "NoneType"
 | .bl _=>some "bool"
 | .int _=>some "int"
 | .str _=>some "str"
 | .tup _=>some "tuple"
 | .fz _=>some "list"
 | .lst a=>match M a with|some (.ls _)=>some "list" | _=>none
 | .dct a=>match M a with|some (.dk _)=>some "dict" | _=>none
 | .exc _ _=>some "exc"
 | _=>none
noncomputable def isiT (a b:String):Bool:=a==b || (a == "bool" && b == "int") || (a == "exc" && b == "ValueError")
noncomputable def fIsi:List D->Mem->DK->Prop
 | [d,.ty T],M,Q=>∃ t,tyD M d=some t/\(T="int"\/T="bool"\/T="str"\/T="tuple"\/T="list"\/T="dict"\/T="ValueError")/\Q (.bl (isiT t T)) M
 | [.non,.cls _],M,Q=>Q (.bl false) M
 | [d,.cls c],M,Q=>∃ m,d=.exc m (xarg d)/\Q (.bl (Yw m c)) M
 | [d,.tup cs],M,Q=>∃ m,∃ ns:List Str,d=.exc m (xarg d)/\cs=ns.map .cls/\Q (.bl (ns.any (Yw m))) M
 | _,_,_=>False
theorem Zj (K:Frag) {t T:String} (h:t="NoneType"\/t="bool"\/t="int"\/t="str"\/t="tuple"\/t="list"\/t="dict")
  (h':T="int"\/T="bool"\/T="str"\/T="tuple"\/T="list"\/T="dict"\/T="ValueError"):PySem.W.kitOne K (.type t) (.type T)=some (isiT t T):=by
 rcases h with rfl|rfl|rfl|rfl|rfl|rfl|rfl<;>rcases h' with rfl|rfl|rfl|rfl|rfl|rfl|rfl<;>kernel_rfl
section
variable {X:Cx} {rz:Bool} {Xe:DSt->DK}
theorem Xh {pins:List (Addr×Obj)} {σ:L2.St} {H:Hp} {s:Shared} {v:V} {n:Str} {x:D} (I:L2.Inv X pins σ H s) (r:RelD X.K H v (.exc n x)):∃ a C,v=.ref a/\n∈xNames/\YH X.K n C/\∃ ox od,PySem.W.InstAt s.heap a ox C od:=by
 cases r with
 | @exc a C n hn hi hc h =>
  obtain⟨ob,vs,h1,h2,h3,h4⟩:=(I.hok _ _ h).1;exact⟨a,C,rfl,hn,hc,ob,none,h1,h2,by unfold PySem.W.notCls;rw[h4],by rw[h3];trivial⟩
 | @excF a C d n v x hn hi hc h hd r =>
  obtain⟨ob,vs,h1,h2,h3,h4⟩:=(I.hok _ _ h).1;obtain⟨o,ho⟩:=(I.hok _ _ hd).2.1;exact⟨a,C,rfl,hn,hc,ob,some o,h1,h2,by unfold PySem.W.notCls;rw[h4],by rw[h3];exact ho⟩
theorem FX (tab:Zn X.K=true):CallR X (.builtin "isinstance") (ZD X.K fIsi):=by
 rintro pins s σ H xs us Q I rv ⟨ds,M,R,r,rm,h,q⟩;unfold fIsi at h;split at h
 ·rename_i d T
  obtain⟨v,w,rfl,r1,r2⟩:=r.two;cases r2;obtain⟨u,w',rfl,ru,rw'⟩:=XB rv;cases (show w'=Value.type T from rw');obtain⟨t,e,hT,h⟩:=h;have fin:∀ tk,EP X pins σ Q (.bool (isiT t T)) {s with toks:=tk}:=fun tk=>⟨.bl _,H,I.tok tk,rfl,q _ _ _ _ (.refl H) rm (.bl _) h⟩;cases r1 with
  | non=>cases e;cases (show u=Value.none from ru);exact PySem.W.kia_one PySem.W.kitx_none I.kIn True.intro (Zj _ (by simp) hT) (fun z=>nomatch z) fin
  | bl b=>cases e;cases (show u=Value.bool b from ru);exact PySem.W.kia_one PySem.W.kitx_bool I.kIn True.intro (Zj _ (by simp) hT) (fun z=>nomatch z) fin
  | int i=>cases e;obtain⟨t,rfl⟩:=(show ∃ t,u=Value.int i t from ru);exact PySem.W.kia_one PySem.W.kitx_int I.kIn True.intro (Zj _ (by simp) hT) (fun z=>nomatch z) fin
  | str x=>cases e;obtain⟨t,rfl⟩:=(show ∃ t,u=Value.str x t from ru);exact PySem.W.kia_one PySem.W.kitx_str I.kIn True.intro (Zj _ (by simp) hT) (fun z=>nomatch z) fin
  | @tup a vs ds ht _ =>
   cases e;cases (show u=Value.ref a from ru);obtain⟨its,_,⟨o,h1,h2,_⟩,_⟩:=I.tuple ht;exact PySem.W.kia_one PySem.W.kitx_tuple I.kIn ⟨o,h1,h2⟩ (Zj _ (by simp) hT) (fun z=>nomatch z) fin
  | @fz a vs ds ht _ =>
   cases e;cases (show u=Value.ref a from ru);obtain⟨its,_,⟨o,n,h1,h2,_⟩,_⟩:=I.list ht.sq;exact PySem.W.kia_one PySem.W.kitx_list I.kIn ⟨o,h1,h2⟩ (Zj _ (by simp) hT) (fun z=>nomatch z) fin
  | lst a =>
   cases (show u=Value.ref a from ru);simp only[tyD] at e;split at e<;>cases e;rename_i ds e0;obtain⟨vs,e1,_⟩:=rm _ _ e0;obtain⟨its,_,⟨o,n,h1,h2,_⟩,_⟩:=I.list (.of e1);exact PySem.W.kia_one PySem.W.kitx_list I.kIn ⟨o,h1,h2⟩ (Zj _ (by simp) hT) (fun z=>nomatch z) fin
  | dct a =>
   cases (show u=Value.ref a from ru);simp only[tyD] at e;split at e<;>cases e;rename_i ds e0;obtain⟨vs,e1,_⟩:=rm _ _ e0;obtain⟨_,_,vs,_,p⟩:=(show ObjOk X.prog X.w H s.heap a (.dK vs) from I.hok a _ e1);obtain⟨o,es,ep,h1,h2,_⟩:=p;exact PySem.W.kia_one PySem.W.kitx_dict I.kIn ⟨o,h1,h2.1⟩ (Zj _ (by simp) hT) (fun z=>nomatch z) fin
  | @exc a C n hn hi hc hx =>
   obtain⟨a,C,ev,hn,hc,hx⟩:=Xh I (.exc hn hi hc hx);cases ev;cases e;cases (show u=Value.ref a from ru);have e:isiT "exc" T=(T == "ValueError"):=by rcases hT with rfl|rfl|rfl|rfl|rfl|rfl|rfl<;>decide
   rw[e] at fin;exact PySem.W.kia_one (Xc (YC tab hn hc).1) I.kIn hx ((YC tab hn hc).2.2.1 T hT) (fun z=>nomatch z) fin
  | @excF a C d n v x hn hi hc hx hd rr0 =>
   obtain⟨a,C,ev,hn,hc,hx⟩:=Xh I (.excF hn hi hc hx hd rr0);cases ev;cases e;cases (show u=Value.ref a from ru);have e:isiT "exc" T=(T == "ValueError"):=by rcases hT with rfl|rfl|rfl|rfl|rfl|rfl|rfl<;>decide
   rw[e] at fin;exact PySem.W.kia_one (Xc (YC tab hn hc).1) I.kIn hx ((YC tab hn hc).2.2.1 T hT) (fun z=>nomatch z) fin
  | _=>cases e
 ·rename_i c
  obtain⟨v,w,rfl,r1,r2⟩:=r.two;obtain⟨u,w',rfl,ru,rw'⟩:=XB rv;cases r1;cases r2 with
  | @cls D' c' hn' hc' =>
   cases (show w'=Value.ref D' from rw');cases (show u=Value.none from ru);exact PySem.W.kia_one PySem.W.kitx_none I.kIn True.intro (AB tab hn' hc') (fun z=>nomatch z) fun tk=>⟨.bl _,H,I.tok tk,rfl,q _ _ _ _ (.refl H) rm (.bl _) h⟩
 ·rename_i d c _
  obtain⟨v,w,rfl,r1,r2⟩:=r.two;obtain⟨u,w',rfl,ru,rw'⟩:=XB rv;obtain⟨m,ed,h⟩:=h;rw[ed] at r1;cases r2 with
  | @cls D' c' hn' hc' =>
   cases (show w'=Value.ref D' from rw');obtain⟨a,C,ev,hn,hc,hx⟩:=Xh I r1;subst ev
   ·cases (show u=Value.ref a from ru)
    have fin:∀ tk,EP X pins σ Q (.bool (Yw m c)) {s with toks:=tk}:=fun tk=>⟨.bl _,H,I.tok tk,rfl,q _ _ _ _ (.refl H) rm (.bl _) h⟩;exact PySem.W.kia_one (Xc (YC tab hn hc).1) I.kIn hx ((YC tab hn hc).2.2.2 c D' hn' hc').2 (fun z=>nomatch z) fin
 ·rename_i d cs
  obtain⟨v,w,rfl,r1,r2⟩:=r.two;obtain⟨u,w',rfl,ru,rw'⟩:=XB rv;obtain⟨m,ns,ed,rfl,h⟩:=h;rw[ed] at r1;cases r2 with
  | @tup b vs ds ht rr =>
   cases (show w'=Value.ref b from rw');obtain⟨a,C,ev,hn,hc,hx⟩:=Xh I r1;subst ev
   ·cases (show u=Value.ref a from ru)
    obtain⟨its,rv2,⟨o,h1,h2,n2,h3⟩,_⟩:=I.tuple ht;have key:∀ {ns:List Str} {vs:List V} {its:List Value},RelDs X.K H vs (ns.map .cls)->Vals vs its->PySem.W.kitAny X.K (.ref C) its=some (ns.any (Yw m)):=by
     intro ns
     induction ns with
     | nil=>intro vs its r q;cases r;cases q;rfl
     | cons c ns ih =>
      intro vs its r q;cases r with
      | cons e r =>
       cases e with
       | @cls D' c' hn' hc' =>
        cases q with
        | cons e2 q =>
         cases e2;have k1:=((YC tab hn hc).2.2.2 c D' hn' hc').2;show (match PySem.W.kitOne X.K (.ref C) (.ref D') with|some true=>some true|some false=>PySem.W.kitAny X.K (.ref C) _|none=>none)=_;rw[k1,List.any_cons];cases Yw m c with
         | true=>rfl
         | false=>exact ih r q
    have fin:∀ tk,EP X pins σ Q (.bool (ns.any (Yw m))) {s with toks:=tk}:=fun tk=>⟨.bl _,H,I.tok tk,rfl,q _ _ _ _ (.refl H) rm (.bl _) h⟩;obtain⟨oc,od,odt,osl⟩:=o;cases h2;cases h3;exact PySem.W.kia_tup (Xc (YC tab hn hc).1) I.kIn hx h1 (key rr rv2) (fun z=>nomatch z) fin
 ·exact h.elim
noncomputable def fAll:List D->Mem->DK->Prop
 | [.lst a],M,Q=>∃ bs:List Bool,M a=some (.ls (bs.map .bl))/\Q (.bl (bs.all id)) M
 | _,_,_=>False
noncomputable def fAny:List D->Mem->DK->Prop
 | [.lst a],M,Q=>∃ bs:List Bool,M a=some (.ls (bs.map .bl))/\Q (.bl (bs.any id)) M
 | _,_,_=>False
theorem WX {K:Frag} {H:Hp} {bs:List Bool}:∀ {vs:List V} {us:List Value},RelDs K H vs (bs.map .bl)->Vals vs us->LSm.BoolsAre us bs:=by
 induction bs with
 | nil=>intro vs us r q;cases r;cases q;exact .nil
 | cons b bs ih =>
  intro vs us r q;cases r with
  | cons rb r =>
   cases rb;cases q with
   | cons e q =>
    cases e;exact .cons _ (ih r q)
theorem FZ (hc:X.calm=true):CallR X (.builtin "all") (ZD X.K fAll):=by
 rintro pins s σ H xs us Q I rv ⟨ds,M,R,r,rm,h,q⟩;unfold fAll at h;split at h
 ·rename_i a
  obtain⟨v,rfl,ra⟩:=r.one;cases ra;obtain⟨u,rfl,ru⟩:=XC rv;cases (show u=Value.ref a from ru);obtain⟨bs,e0,h⟩:=h;obtain⟨vs,e1,r1⟩:=rm _ _ e0;obtain⟨its,r2,pl,_⟩:=I.list (.of e1);have hb:=WX r1 r2;have hl:=pl.isList;have hlt:a<s.heap.objs.size:=by obtain⟨_,e,_⟩:=hl;exact Heap.lt_size e
  refine call_all_walk (wpAny_pyIter_list hl ?_);refine⟨s.heap.objs.size,[s.heap.objs.size,a],[s.heap.objs.size],its.toArray.size,_,_,fun i=>(bs[i]?).getD true,rfl,Walks.list (A:=X.A.in1) (I.ok.hd hc) _ a (Nat.ne_of_lt hlt) its.toArray,
   ⟨⟨_,Heap.get?_push_size _ rfl,rfl,rfl⟩,hl.push _⟩,fun i v s' Q' E' hP hQ=>?_,fun h' tk hk=>?_⟩
  ·obtain⟨b,e,rfl⟩:=hb.get i v (by simpa using hP)
   simp only[e,Option.getD_some] at hQ;exact wpAny_truthy_bool hQ
  ·have e:((List.range its.toArray.size).all fun i=>(bs[i]?).getD true)=bs.all id:=by
    rw[List.size_toArray,hb.length];exact LSm.range_all bs
   rw[e];exact⟨.bl _,H,I.kept (LSm.kept_iter hk),rfl,q _ _ _ _ (.refl H) rm (.bl _) h⟩
 ·exact h.elim
theorem FY (hc:X.calm=true):CallR X (.builtin "any") (ZD X.K fAny):=by
 rintro pins s σ H xs us Q I rv ⟨ds,M,R,r,rm,h,q⟩;unfold fAny at h;split at h
 ·rename_i a
  obtain⟨v,rfl,ra⟩:=r.one;cases ra;obtain⟨u,rfl,ru⟩:=XC rv;cases (show u=Value.ref a from ru);obtain⟨bs,e0,h⟩:=h;obtain⟨vs,e1,r1⟩:=rm _ _ e0;obtain⟨its,r2,pl,_⟩:=I.list (.of e1);have hb:=WX r1 r2;have hl:=pl.isList;have hlt:a<s.heap.objs.size:=by obtain⟨_,e,_⟩:=hl;exact Heap.lt_size e
  refine call_any_walk (wpAny_pyIter_list hl ?_);refine⟨s.heap.objs.size,[s.heap.objs.size,a],[s.heap.objs.size],its.toArray.size,_,_,fun i=>(bs[i]?).getD false,rfl,Walks.list (A:=X.A.in1) (I.ok.hd hc) _ a (Nat.ne_of_lt hlt) its.toArray,
   ⟨⟨_,Heap.get?_push_size _ rfl,rfl,rfl⟩,hl.push _⟩,fun i v s' Q' E' hP hQ=>?_,fun h' tk hk=>?_⟩
  ·obtain⟨b,e,rfl⟩:=hb.get i v (by simpa using hP)
   simp only[e,Option.getD_some] at hQ;exact wpAny_truthy_bool hQ
  ·have e:((List.range its.toArray.size).any fun i=>(bs[i]?).getD false)=bs.any id:=by
    rw[List.size_toArray,hb.length];exact LSm.range_any bs
   rw[e];exact⟨.bl _,H,I.kept (LSm.kept_iter hk),rfl,q _ _ _ _ (.refl H) rm (.bl _) h⟩
 ·exact h.elim
end
noncomputable def truD (d:D) (M:Mem) (Q:Bool->Mem->Prop):Prop :=
 match d with
 | .non=>Q false M
 | .bl b=>Q b M
 | .int i=>Q (i != 0) M
 | .str y=>y.length<=sizeLine/\Q ((y.length:Int) != 0) M
 | .tup xs=>Q (!xs.isEmpty) M
 | .fz xs=>Q (!xs.isEmpty) M
 | .lst a=>∃ xs,M a=some (.ls xs)/\Q (!xs.isEmpty) M
 | _=>False
noncomputable def dTru (t:DE):DT:=fun δ M Q=>t δ M fun d M1=>truD d M1 Q
section
variable {X:Cx} {rz:Bool} {Xe:DSt->DK} {a b c e:Expr} {es rest:List Expr} {ta tb tc:DE} {t:DA} {tA tB:DT} {pos:Pos}
theorem RelDs.isEmpty {K:Frag} {H:Hp} {vs:List V} {ds:List D} (r:RelDs K H vs ds):vs.isEmpty=ds.isEmpty:=by cases r<;>rfl
theorem Fl (ha:PE X a (lift (X.L rz Xe) ta)) (he:∀ whole,isTrue a X.env whole=(do let v <- whole;standAt a.pos;holding [v] (truthy v))):PT X a (YO (X.L rz Xe) (dTru ta)) :=
 (Aj ha he).imp fun σ H Q ⟨δ,M,R,rs,rm,t,q⟩=>⟨δ,M,_,rs,rm,t,fun d M' v H' x m r h=>by
  cases r with
  | non=>exact⟨_,rfl,q _ _ _ x m h⟩
  | bl b=>exact⟨_,rfl,q _ _ _ x m h⟩
  | int i=>exact⟨_,rfl,q _ _ _ x m h⟩
  | str y=>exact⟨_,⟨h.1,rfl⟩,q _ _ _ x m h.2⟩
  | tup ht r=>exact⟨_,.inr (.inl ⟨_,ht,rfl⟩),q _ _ _ x m (by rw[r.isEmpty];exact h)⟩
  | fz ht r=>exact⟨_,.inl ⟨_,ht.sq,rfl⟩,q _ _ _ x m (by rw[r.isEmpty];exact h)⟩
  | lst a =>
   obtain⟨xs,e0,h⟩:=h;obtain⟨vs,e1,r⟩:=m _ _ e0;exact⟨_,.inl ⟨_,.of e1,rfl⟩,q _ _ _ x m (by rw[r.isEmpty];exact h)⟩
  | _=>exact (show False from h).elim⟩
theorem Fo {op:CmpOp} (hu:X.A.units+66<cLine) (ha:PE X a (lift (X.L rz Xe) ta)) (hb:PE X b (lift (X.L rz Xe) tb)) (hm:behindInMarks op b=false):PT X (.Compare a [op] [b] pos) (YO (X.L rz Xe) (XG (d2 (cOp op) ta tb))) :=
 (UW (op_c hu op) ha hb hm).imp fun σ H Q ⟨δ,M,R,rs,rm,t,q⟩=>WU ⟨δ,M,_,rs,rm,t,fun d M' v H' x m r ⟨k,e,h⟩=>by
  subst e;cases r;exact⟨k,rfl,q _ _ _ x m h⟩⟩
theorem FN {op:CmpOp} (hu:X.A.units+66<cLine) (ha:PE X a (lift (X.L rz Xe) ta)) (hb:PE X b (lift (X.L rz Xe) tb)) (hm:behindInMarks op b=false):PE X (.Compare a [op] [b] pos) (lift (X.L rz Xe) (d2 (cOp op) ta tb)) :=
 (J0 (op_c hu op) ha hb hm).imp fun _ _ _=>WU
noncomputable def Wk (f g:D->D->Mem->DK->Prop) (ta tb tc:DE):DE:=fun δ M Q=>ta δ M fun x M1=>tb δ M1 fun y M2=>f x y M2 fun z M3=>∃ k,z=.bl k/\if k=true then tc δ M3 fun w M4=>g y w M4 Q else Q (.bl false) M3
theorem WT {f g:D->D->Mem->DK->Prop} {Λ:LK} {σ:L2.St} {H:Hp} {Q:VK} (h:lift Λ (Wk f g ta tb tc) σ H Q):Uo (YJ Λ.K f) (YJ Λ.K g) (lift Λ ta) (lift Λ tb) (lift Λ tc) σ H Q:=by
 obtain⟨δ,M,R,rs,rm,t,q⟩:=h;refine seq2 (R:=fun x y M2=>f x y M2 _) rs rm t fun x y M2 v u H2 x2 m2 r1 r2 t2=>⟨x,y,M2,_,r1,r2,m2,t2,fun d M3 w H3 x3 m3 r3 hq7=>?_⟩;obtain⟨k,e,h⟩:=hq7;subst e;cases r3;refine⟨k,rfl,?_⟩;cases k with
 | true=>exact⟨δ,M3,_,rs.ext (x2.trans x3),m3,h,fun z M4 w4 H4 x4 m4 r4 h4=>⟨y,z,M4,R,(r2.ext x3).ext x4,r4,m4,h4,fun d' M' v' H' x5 m5 r5=>q d' M' v' H' (((x2.trans x3).trans x4).trans x5) m5 r5⟩⟩
 | false=>exact q _ _ _ _ (x2.trans x3) m3 (.bl false) h
theorem Bl {op op':CmpOp} (hu:X.A.units+66<cLine) (ha:PE X a (lift (X.L rz Xe) ta)) (hb:PE X b (lift (X.L rz Xe) tb)) (hc:PE X c (lift (X.L rz Xe) tc)) (hm:lastMarks [op,op'] [b,c]=false) :
  PE X (.Compare a [op,op'] [b,c] pos) (lift (X.L rz Xe) (Wk (cOp op) (cOp op') ta tb tc)):=(At (op_c hu op) (op_c hu op') ha hb hc hm).imp fun _ _ _=>WT
theorem B9 {op op':CmpOp} (hu:X.A.units+66<cLine) (ha:PE X a (lift (X.L rz Xe) ta)) (hb:PE X b (lift (X.L rz Xe) tb)) (hc:PE X c (lift (X.L rz Xe) tc)) (hm:lastMarks [op,op'] [b,c]=false) :
  PT X (.Compare a [op,op'] [b,c] pos) (YO (X.L rz Xe) (XG (Wk (cOp op) (cOp op') ta tb tc))):=by
 refine (Ak (op_c hu op) (op_c hu op') ha hb hc hm).imp ?_;rintro σ H Q ⟨δ,M,R,rs,rm,t,q⟩;exact WT ⟨δ,M,_,rs,rm,t,fun d M' v H' x m r ⟨k,e,h⟩=>by
  subst e;cases r;exact⟨k,rfl,q _ _ _ x m h⟩⟩
theorem PW.imp {t t':TT} (h:PW X a t) (i:∀ σ H Q,t' σ H Q->t σ H Q):PW X a t':=fun whole pins s σ H Q I q=>h whole pins s σ H Q I (i _ _ _ q)
theorem Fk (ha:PT X a (YO (X.L rz Xe) tA)) (hb:PW X (.BoolOp .And (b::rest) pos) (YO (X.L rz Xe) tB)):PW X (.BoolOp .And (a::b::rest) pos) (YO (X.L rz Xe) (dAnd tA tB)) :=
 PW.imp (Do ha hb) fun σ H Q ⟨δ,M,R,rs,rm,t,q⟩=>⟨δ,M,_,rs,rm,t,fun k M' H' x m h=>by
  cases k with
  | true=>exact⟨δ,M',R,rs.ext x,m,h,fun b M2 H2 x2 m2=>q b M2 H2 (x.trans x2) m2⟩
  | false=>exact q _ _ _ x m h⟩
theorem IH (ha:PT X a (YO (X.L rz Xe) tA)) (hb:PW X (.BoolOp .Or (b::rest) pos) (YO (X.L rz Xe) tB)):PW X (.BoolOp .Or (a::b::rest) pos) (YO (X.L rz Xe) (dOr tA tB)) :=
 PW.imp (HZ ha hb) fun σ H Q ⟨δ,M,R,rs,rm,t,q⟩=>⟨δ,M,_,rs,rm,t,fun k M' H' x m h=>by
  cases k with
  | false=>exact⟨δ,M',R,rs.ext x,m,h,fun b M2 H2 x2 m2=>q b M2 H2 (x.trans x2) m2⟩
  | true=>exact q _ _ _ x m h⟩
theorem Fm (ha:PT X a (YO (X.L rz Xe) tA)):PT X (.UnaryOp .Not a pos) (YO (X.L rz Xe) (dNot tA)) :=
 (Dp ha).imp (by rintro σ H Q ⟨δ,M,R,rs,rm,t,q⟩;exact⟨δ,M,_,rs,rm,t,fun k M' H' x m h=>q _ _ _ x m h⟩)
theorem FQ (ha:PE X a (lift (X.L rz Xe) ta)) (hb:PE X (.BoolOp .And (b::rest) pos) (lift (X.L rz Xe) tb)):PE X (.BoolOp .And (a::b::rest) pos) (lift (X.L rz Xe) (D4 ta tb)) :=
 (DQ ha hb).imp fun σ H Q ⟨δ,M,R,rs,rm,t,q⟩=>⟨δ,M,_,rs,rm,t,fun d M' v H' x m r ⟨k,e,h⟩=>by
  subst e;cases r;refine⟨k,rfl,?_⟩;cases k with
  | true=>exact⟨δ,M',R,rs.ext x,m,h,fun d' M2 v' H2 x2 m2=>q d' M2 v' H2 (x.trans x2) m2⟩
  | false=>exact q _ _ _ _ x m (.bl false) h⟩
theorem IL (ha:PE X a (lift (X.L rz Xe) ta)) (hb:PE X (.BoolOp .Or (b::rest) pos) (lift (X.L rz Xe) tb)):PE X (.BoolOp .Or (a::b::rest) pos) (lift (X.L rz Xe) (dOrV ta tb)) :=
 (Ic ha hb).imp fun σ H Q ⟨δ,M,R,rs,rm,t,q⟩=>⟨δ,M,_,rs,rm,t,fun d M' v H' x m r ⟨k,e,h⟩=>by
  subst e;cases r;refine⟨k,rfl,?_⟩;cases k with
  | false=>exact⟨δ,M',R,rs.ext x,m,h,fun d' M2 v' H2 x2 m2=>q d' M2 v' H2 (x.trans x2) m2⟩
  | true=>exact q _ _ _ _ x m (.bl true) h⟩
noncomputable def D1 (ta:DE):DE:=fun δ M Q=>ta δ M fun x M1=>∃ k,x=.bl k/\Q (.bl (!k)) M1
theorem FH (ha:PE X a (lift (X.L rz Xe) ta)):PE X (.UnaryOp .Not a pos) (lift (X.L rz Xe) (D1 ta)) :=
 (DJ ha).imp fun σ H Q ⟨δ,M,R,rs,rm,t,q⟩=>⟨δ,M,_,rs,rm,t,fun d M' v H' x m r ⟨k,e,h⟩=>by
  subst e;cases r;exact⟨k,rfl,q _ _ _ _ x m (.bl _) h⟩⟩
noncomputable def dNeg (ta:DE):DE:=fun δ M Q=>ta δ M fun x M1=>∃ i,x=.int i/\Q (.int (-i)) M1
theorem FI (ha:PE X a (lift (X.L rz Xe) ta)):PE X (.UnaryOp .USub a pos) (lift (X.L rz Xe) (dNeg ta)) :=
 (Ib D9 ha).imp fun σ H Q ⟨δ,M,R,rs,rm,t,q⟩=>⟨δ,M,_,rs,rm,t,fun d M' v H' x m r ⟨k,e,h⟩=>by
  subst e;cases r;exact⟨k,rfl,q _ _ _ _ x m (.int _) h⟩⟩
theorem FL (hc:PT X c (YO (X.L rz Xe) tA)) (ha:PE X a (lift (X.L rz Xe) ta)) (hb:PE X b (lift (X.L rz Xe) tb)):PE X (.IfExp c a b pos) (lift (X.L rz Xe) (dIfE tA ta tb)) :=
 (As hc ha hb).imp fun σ H Q ⟨δ,M,R,rs,rm,t,q⟩=>⟨δ,M,_,rs,rm,t,fun k M' H' x m h=>by
  cases k with
  | true=>exact⟨δ,M',R,rs.ext x,m,h,fun d' M2 v' H2 x2 m2=>q d' M2 v' H2 (x.trans x2) m2⟩
  | false=>exact⟨δ,M',R,rs.ext x,m,h,fun d' M2 v' H2 x2 m2=>q d' M2 v' H2 (x.trans x2) m2⟩⟩
theorem Wj:PA X [] (Z4 (X.L rz Xe) dNil):=by
 refine (DR).imp ?_;rintro σ H Q ⟨δ,M,R,rs,rm,t,q⟩;exact q [] M [] H (.refl H) rm .nil t
theorem ZA (ha:PE X e (lift (X.L rz Xe) ta)) (hr:PA X es (Z4 (X.L rz Xe) t)) (hs:starEach (e::es) X.env=(false,eval e X.env)::starEach es X.env):PA X (e::es) (Z4 (X.L rz Xe) (YK ta t)) :=
 (BQ ha hr hs).imp (by rintro σ H Q ⟨δ,M,R,rs,rm,t,q⟩;exact⟨δ,M,_,rs,rm,t,fun d M' v H' x m r h=>⟨δ,M',_,rs.ext x,m,h,fun ds M2 vs H2 x2 m2 r2 h2=>q _ _ _ _ (x.trans x2) m2 (.cons (r.ext x2) r2) h2⟩⟩)
theorem FE {x1} (h:PA X es (Z4 (X.L rz Xe) t)):PE X (.Tuple es x1 pos) (lift (X.L rz Xe) (dTup t)) :=
 (Dz h).imp (by rintro σ H Q ⟨δ,M,R,rs,rm,t,q⟩;exact⟨δ,M,_,rs,rm,t,(by rintro ds M' vs H' x m r ⟨hz,h⟩;exact⟨by rw[r.length];exact hz,fun p hp=>q _ _ _ _ (x.trans (.upd (.inl hp))) (m.tup hp) (.tup (.of upd_same) (r.ext (.upd (.inl hp)))) h⟩)⟩)
theorem FJ (h:PA X es (Z4 (X.L rz Xe) t)):PE X (.List es pos) (lift (X.L rz Xe) (dLst t)) :=
 (DN h).imp (by rintro σ H Q ⟨δ,M,R,rs,rm,t,q⟩;exact⟨δ,M,_,rs,rm,t,(by rintro ds M' vs H' x m r ⟨hz,h⟩;exact⟨by rw[r.length];exact hz,fun p hp=>q _ _ _ _ (x.trans (.upd (.inl hp))) (m.lst hp r) (.lst p) (h.at (m.none hp))⟩)⟩)
theorem IM (ha:PE X a (lift (X.L rz Xe) ta)) (hb:PE X b (lift (X.L rz Xe) tb)) (hs:Vw b):PE X (.Subscript a b pos) (lift (X.L rz Xe) (d2 iOp ta tb)):=(Ie ix_i ha hb hs).imp fun _ _ _=>WU
abbrev DO:=DSt->Mem->(Option Int->Mem->Prop)->Prop
noncomputable def WF (Λ:LK) (t:DO):TO:=fun σ H Q=>∃ δ M R,RepS Λ H δ σ/\RepM Λ.K H M/\t δ M R/\∀ o M' H',HExt Λ.K H H'->RepM Λ.K H' M'->R o M'->Q o H'
noncomputable def Jh:DO:=fun _ M Q=>Q none M
noncomputable def WS (t:DE):DO:=fun δ M Q=>t δ M fun x M1=>∃ i,x=.int i/\Q (some i) M1
theorem PO.imp {e:Option Expr} {t t':TO} (h:PO X e t) (i:∀ σ H Q,t' σ H Q->t σ H Q):PO X e t':=fun pins s σ H Q I q=>h pins s σ H Q I (i _ _ _ q)
theorem Cl:PO X none (WF (X.L rz Xe) Jh):=PO.imp BM (by rintro σ H Q ⟨δ,M,R,rs,rm,t,q⟩;exact q _ _ _ (.refl H) rm t)
theorem Jf (h:PE X e (lift (X.L rz Xe) ta)):PO X (some e) (WF (X.L rz Xe) (WS ta)):=PO.imp (BL h) fun σ H Q ⟨δ,M,R,rs,rm,t,q⟩=>⟨δ,M,_,rs,rm,t,fun d M' v H' x m r ⟨i,e,h⟩=>by
  subst e;cases r;exact⟨i,rfl,q _ _ _ x m h⟩⟩
noncomputable def dSl (te:DE) (tl th:DO):DE:=fun δ M Q=>te δ M fun x M1=>tl δ M1 fun l M2=>th δ M2 fun u M3=>sOp x l u M3 Q
theorem IK {lo hi:Option Expr} {tl th:DO} {p2:Pos} (he:PE X e (lift (X.L rz Xe) ta)) (hl:PO X lo (WF (X.L rz Xe) tl)) (hu:PO X hi (WF (X.L rz Xe) th)):PE X (.Subscript e (.Slice lo hi none p2) pos) (lift (X.L rz Xe) (dSl ta tl th)) :=
 (Ar sl_s he hl hu).imp fun σ H Q ⟨δ,M,R,rs,rm,t,q⟩=>⟨δ,M,_,rs,rm,t,fun d M1 v H1 x1 m1 r1 h1=>⟨δ,M1,_,rs.ext x1,m1,h1,fun l M2 H2 x2 m2 h2=>⟨δ,M2,_,rs.ext (x1.trans x2),m2,h2,fun u M3 H3 x3 m3 h3 =>
  ⟨d,M3,R,(r1.ext x2).ext x3,m3,h3,fun d' M' v' H' x4 m4 r4=>q d' M' v' H' (((x1.trans x2).trans x3).trans x4) m4 r4⟩⟩⟩⟩
theorem Zf {f:List D->Mem->DK->Prop} {Λ:LK} {σ:L2.St} {H:Hp} {Q:VK} (h:lift Λ (dCB f t) σ H Q):tCB (ZD Λ.K f) (Z4 Λ t) σ H Q:=by
 obtain⟨δ,M,R,rs,rm,t,q⟩:=h;exact⟨δ,M,_,rs,rm,t,fun ds M' vs H' x m r h=>⟨ds,M',R,r,m,h,fun d' M2 v' H2 x2 m2 r2=>q d' M2 v' H2 (x.trans x2) m2 r2⟩⟩
end
end DL
end
noncomputable section
namespace DL
open PySem PySem.Spec PyProof.Rows L2
section
variable {K:Frag} {H:Hp} {M:Mem}
theorem RepM.dk {p:Addr} {kws:List (Key×V)} {kvs:List (Key×D)} (r:RepM K H M) (h:H p=.none) (hk:kws.map (·.1)=kvs.map (·.1)) (q:RelDs K H (kws.map (·.2)) (kvs.map (·.2))):RepM K (upd H p (.dK kws)) (M.upd p (.dk kvs)):=fun a o e=>by
 by_cases z:a=p
 ·subst z;rw[Y5] at e;cases e;exact⟨kws,upd_same,hk,q.ext (.upd (.inl h))⟩
 ·rw[Yv z] at e;exact (r a o e).ext (.upd (.inl h)) z
end
noncomputable def keyD:D->Option Key
 | .int i=>some (.inl i)
 | .str x=>some (.inr x)
 | _=>none
noncomputable def D3:DE:=fun _ M Q=>alloc M (.dk []) fun p M'=>Q (.dct p) M'
noncomputable def LQ (tk tv:DE):DE:=fun δ M Q=>∀ p,M p=none->tk δ (M.upd p (.dk [])) fun x M1=>tv δ M1 fun y M2=>M2 p=some (.dk [])/\∃ k,keyD x=some k/\Q (.dct p) (M2.upd p (.dk [(k,y)]))
section
variable {X:Cx} {rz:Bool} {Xe:DSt->DK} {a b:Expr} {ta tb:DE} {pos:Pos}
theorem Cq:PE X (.Dict [] [] pos) (lift (X.L rz Xe) D3):=pe_dnewK.imp fun σ H Q ⟨δ,M,R,rs,rm,t,q⟩ p hp=>q _ _ _ _ (.upd (.inl hp)) (rm.dk hp rfl .nil) (.dct p) (t.at (rm.none hp))
end
end DL
end
noncomputable section
namespace DL
open PySem PySem.Spec PyProof.Rows L2
section
variable {X:Cx} {a b c d:Expr} {pos:Pos} {ta tb tc td:TE}
noncomputable def UT (r r' r'':R2) (ta tb tc td:TE):TE:=fun σ H Q=>ta σ H fun x H1=>tb σ H1 fun y H2=>r x y H2 fun z H3=>∃ k,z=.bl k /\
 (if k=true then tc σ H3 fun w' H4=>r' y w' H4 fun z' H5=>∃ k',z'=.bl k'/\(if k'=true then td σ H5 fun v' H6=>r'' w' v' H6 Q else Q (.bl false) H5) else Q (.bl false) H3)
theorem JA {op op' op'':CmpOp} {r r' r'':R2} (ho:OpR X (compareOp op) r) (ho':OpR X (compareOp op') r') (ho'':OpR X (compareOp op'') r'') (ha:PE X a ta) (hb:PE X b tb) (hc:PE X c tc) (hd:PE X d td)
  (hm:lastMarks [op,op',op''] [b,c,d]=false):PT X (.Compare a [op,op',op''] [b,c,d] pos) (Af (UT r r' r'' ta tb tc td)):=by
 intro pins s σ H Q I h;refine isTrue_chain (thn (ha pins s σ H _ I h) fun v s1 ⟨x,H1,I1,r1,q1⟩=>test_link (thn (hb pins s1 σ H1 _ I1 q1) fun u s2 ⟨y,H2,I2,r2,q2⟩ =>
  thn (ho pins s2 σ H2 x y v u _ I2 r1 r2 q2) fun d s3 hq2=>?_)) hm
 obtain⟨z,H3,I3,r3,k,e,q3⟩:=hq2;subst e;cases r3;refine wpAny_truthy_bool ?_;cases k with
 | false =>
  obtain⟨k',e',q'⟩:=q3;cases e';exact ite_ff ⟨H3,I3,q'⟩
 | true =>
  refine ite_tt (test_link (thn (hc pins s3 σ H3 _ I3 q3) fun w' s4 ⟨z',H4,I4,r4,q4⟩=>thn (ho' pins s4 σ H4 y z' u w' _ I4 r2 r4 q4) fun d' s5 hq5=>?_));obtain⟨z2,H5,I5,r5,k2,e2,q5⟩:=hq5;subst e2;cases r5;refine wpAny_truthy_bool ?_;cases k2 with
  | false =>
   obtain⟨k',e',q'⟩:=q5;cases e';exact ite_ff ⟨H5,I5,q'⟩
  | true =>
   refine ite_tt (test_last (thn (hd pins s5 σ H5 _ I5 q5) fun w2 s6 ⟨z3,H6,I6,r6,q6⟩=>thn (ho'' pins s6 σ H6 z' z3 w' w2 _ I6 r4 r6 q6) fun d' s7 hq7=>?_));obtain⟨z4,H7,I7,r7,k4,e4,q7⟩:=hq7;subst e4;cases r7;exact wpAny_truthy_bool ⟨H7,I7,q7⟩
end
section
variable {X:Cx} {rz:Bool} {Xe:DSt->DK} {a b c d:Expr} {pos:Pos} {ta tb tc td:DE}
noncomputable def Jj (f g h:D->D->Mem->DK->Prop) (ta tb tc td:DE):DE:=fun δ M Q=>ta δ M fun x M1=>tb δ M1 fun y M2=>f x y M2 fun z M3=>∃ k,z=.bl k/\if k=true then (tc δ M3 fun w M4=>g y w M4 fun z' M5=>∃ k',z'=.bl k'/\if k'=true then (td δ M5 fun v M6=>h w v M6 Q) else Q (.bl false) M5) else Q (.bl false) M3
theorem UI {f g h:D->D->Mem->DK->Prop} {Λ:LK} {σ:L2.St} {H:Hp} {Q:VK} (hh:lift Λ (Jj f g h ta tb tc td) σ H Q):UT (YJ Λ.K f) (YJ Λ.K g) (YJ Λ.K h) (lift Λ ta) (lift Λ tb) (lift Λ tc) (lift Λ td) σ H Q:=by
 obtain⟨δ,M,R,rs,rm,t,q⟩:=hh;refine seq2 (R:=fun x y M2=>f x y M2 _) rs rm t fun x y M2 v u H2 x2 m2 r1 r2 t2=>⟨x,y,M2,_,r1,r2,m2,t2,fun d M3 w H3 x3 m3 r3 hq7=>?_⟩;obtain⟨k,e,h'⟩:=hq7;subst e;cases r3;refine⟨k,rfl,?_⟩;cases k with
 | true =>
  refine⟨δ,M3,_,rs.ext (x2.trans x3),m3,h',fun z M4 w4 H4 x4 m4 r4 h4=>⟨y,z,M4,_,(r2.ext x3).ext x4,r4,m4,h4,fun d' M' v' H' x5 m5 r5 hq8=>?_⟩⟩;obtain⟨k',e',h''⟩:=hq8;subst e';cases r5;refine⟨k',rfl,?_⟩;cases k' with
  | true =>
   exact⟨δ,M',_,rs.ext (((x2.trans x3).trans x4).trans x5),m5,h'',fun z3 M6 w6 H6 x6 m6 r6 h6=>⟨z,z3,M6,R,(r4.ext x5).ext x6,r6,m6,h6,fun d2 M2' v2 H2' x7 m7 r7=>q d2 M2' v2 H2' (((((x2.trans x3).trans x4).trans x5).trans x6).trans x7) m7 r7⟩⟩
  | false=>exact q _ _ _ _ (((x2.trans x3).trans x4).trans x5) m5 (.bl false) h''
 | false=>exact q _ _ _ _ (x2.trans x3) m3 (.bl false) h'
theorem Gh {op op' op'':CmpOp} (hu:X.A.units+66<cLine) (ha:PE X a (lift (X.L rz Xe) ta)) (hb:PE X b (lift (X.L rz Xe) tb)) (hc:PE X c (lift (X.L rz Xe) tc)) (hd:PE X d (lift (X.L rz Xe) td)) (hm:lastMarks [op,op',op''] [b,c,d]=false) :
  PT X (.Compare a [op,op',op''] [b,c,d] pos) (YO (X.L rz Xe) (XG (Jj (cOp op) (cOp op') (cOp op'') ta tb tc td))):=by
 refine (JA (op_c hu op) (op_c hu op') (op_c hu op'') ha hb hc hd hm).imp ?_;rintro σ H Q ⟨δ,M,R,rs,rm,t,q⟩;exact UI ⟨δ,M,_,rs,rm,t,fun d M' v H' x m r ⟨k,e,h⟩=>by
  subst e;cases r;exact⟨k,rfl,q _ _ _ x m h⟩⟩
end
noncomputable def EqI (M:Mem) (d e:D) (b:Bool):Prop :=
 (∃ a c,Py M d a/\Py M e c/\min a.depth c.depth<=58/\b=PyData.eqv a c)\/∃ p kvs xs,d=.dct p/\M p=some (.dk kvs)/\e=.tup xs/\b=false
inductive EqIs (M:Mem):List D->List D->Bool->Prop
 | nil:EqIs M [] [] true
 | cons {d e:D} {ds es:List D} {b c:Bool} (h:EqI M d e b) (r:EqIs M ds es c):EqIs M (d::ds) (e::es) (b&&c)
noncomputable def cEqZ (d e:D) (M:Mem) (Q:DK):Prop:=∃ ds es b,d=.tup ds/\e=.tup es/\EqIs M ds es b/\Q (.bl b) M
section
variable {X:Cx} {pins:List (Addr×Obj)} {s:Shared} {σ:L2.St} {H:Hp} {M:Mem}
theorem EqI.at (I:L2.Inv X pins σ H s) (rm:RepM X.K H M) (hu:X.A.units+64<cLine) {d e:D} {b:Bool} (h:EqI M d e b) {v w:V} {u z:Value} (r1:RelD X.K H v d) (rx:RelV v u) (r2:RelD X.K H w e) (ry:RelV w z):SeqAt.EqAt X.A.in1 s u z b:=by
 rcases h with ⟨a,c,p1,p2,hd,rfl⟩|⟨p,kvs,xs,rfl,h1,rfl,rfl⟩
 ·obtain⟨as,a1,a2⟩:=p1.reads I rm r1 rx
  obtain⟨bs,b1,b2⟩:=p2.reads I rm r2 ry;exact SeqAt.eqAt_reads _ _ _ _ _ _ _ _ a1 b1 a2 b2 (show X.A.units+1+_ < _ by omega)
 ·cases r1;cases rx
  cases r2 with
  | tup ht r =>
   cases ry;obtain⟨vs,e1,_⟩:=rm _ _ h1;obtain⟨_,_,vs,_,pp⟩:=(show ObjOk X.prog X.w H s.heap p (.dK vs) from I.hok p _ e1);obtain⟨o,es,ep,h1,h2,_⟩:=pp;obtain⟨its,rv,hT,_⟩:=I.tuple ht;refine SeqAt.EqAt.of_refs ?_ (ZX (A:=X.A.in1) h1 h2.1 hT (show X.A.units+1<cLine by omega))
   ·intro z
    subst z;obtain⟨o2,ho2,hc2,_⟩:=hT;rw[h1] at ho2;cases ho2;rw[h2.1] at hc2;exact absurd hc2 (by simp)
theorem EqIs.at (I:L2.Inv X pins σ H s) (rm:RepM X.K H M) (hu:X.A.units+64<cLine) {ds es:List D} {b:Bool} (h:EqIs M ds es b):∀ {vs ws:List V} {us zs:List Value},RelDs X.K H vs ds->Vals vs us->RelDs X.K H ws es->Vals ws zs ->
  us.length=zs.length/\∃ e:Nat->Bool,(∀ j (h1:j<us.length) (h2:j<zs.length),SeqAt.EqAt X.A.in1 s us[j] zs[j] (e j))/\(List.range us.length).all e=b:=by
 induction h with
 | nil =>
  intro vs ws us zs r1 rx r2 ry;cases r1;cases rx;cases r2;cases ry;exact⟨rfl,fun _=>true,nofun,rfl⟩
 | @cons d e ds es b c h _ ih =>
  intro vs ws us zs r1 rx r2 ry;cases r1 with
  | cons r1 r1' =>
   cases rx with
   | cons rx rx' =>
    cases r2 with
    | cons r2 r2' =>
     cases ry with
     | cons ry ry' =>
      obtain⟨hl,f,hf,hb⟩:=ih r1' rx' r2' ry';have h0:=h.at I rm hu r1 rx r2 ry;refine⟨by simp[hl],fun j=>match j with|0=>b|j+1=>f j,fun j h1 h2=>?_,?_⟩
      ·cases j with
       | zero=>exact h0
       | succ j=>exact hf j (by simpa using h1) (by simpa using h2)
      ·rw[List.length_cons,List.range_succ_eq_map,List.all_cons,List.all_map,<- hb]
       rfl
theorem J1 (hu:X.A.units+64<cLine):OpR X (compareOp .Eq) (YJ X.K cEqZ):=by
 rintro pins s σ H x y v u Q I rx ry ⟨d,e,M,R,r1,r2,rm,⟨ds,es,b,rfl,rfl,h,hq⟩,q⟩;cases r1 with
 | tup t1 r1 =>
  cases rx;cases r2 with
  | tup t2 r2 =>
   cases ry;obtain⟨i1,v1,T1,_⟩:=I.tuple t1;obtain⟨i2,v2,T2,_⟩:=I.tuple t2;obtain⟨hl,f,hf,hb⟩:=h.at I rm hu r1 v1 r2 v2;refine SeqAt.eq_tupleAt (e:=f) T1 T2 (by omega) (fun j h1 h2=>by simpa using hf j (by simpa using h1) (by simpa using h2)) ?_;simp only[List.size_toArray];rw[<- hl,Nat.min_self,hb];simp only[beq_self_eq_true,Bool.and_true];exact⟨.bl _,H,I,rfl,q _ _ _ _ (.refl H) rm (.bl _) hq⟩
end
section
variable {X:Cx} {rz:Bool} {Xe:DSt->DK} {a b:Expr} {ta tb:DE} {pos:Pos}
theorem Fn (hu:X.A.units+66<cLine) (ha:PE X a (lift (X.L rz Xe) ta)) (hb:PE X b (lift (X.L rz Xe) tb)) (hm:behindInMarks .Eq b=false):PT X (.Compare a [.Eq] [b] pos) (YO (X.L rz Xe) (XG (d2 cEqZ ta tb))) :=
 (UW (J1 (by omega)) ha hb hm).imp fun σ H Q ⟨δ,M,R,rs,rm,t,q⟩=>WU ⟨δ,M,_,rs,rm,t,fun d M' v H' x m r ⟨k,e,h⟩=>by
  subst e;cases r;exact⟨k,rfl,q _ _ _ x m h⟩⟩
theorem FM (hu:X.A.units+66<cLine) (ha:PE X a (lift (X.L rz Xe) ta)) (hb:PE X b (lift (X.L rz Xe) tb)) (hm:behindInMarks .Eq b=false):PE X (.Compare a [.Eq] [b] pos) (lift (X.L rz Xe) (d2 cEqZ ta tb)) :=
 (J0 (J1 (by omega)) ha hb hm).imp fun _ _ _=>WU
end
end DL
end
noncomputable section
namespace HT
open PySem PySem.Spec PyProof.Rows
section
variable {prog:Program} {w:World} {A:Around} {E:Value->Shared->Prop} {s:Shared}
theorem VO (xs:Array Value):((List.range xs.size).filterMap fun (m:Nat)=>xs[(((xs.size:Int)-1)+(m:Int)*(-1)).toNat]?).toArray=xs.toList.reverse.toArray:=by
 congr 1
 have e:∀ n,n<=xs.size->((List.range n).filterMap fun (m:Nat)=>xs[(((xs.size:Int)-1)+(m:Int)*(-1)).toNat]?)=xs.toList.reverse.take n:=by
  intro n
  induction n with
  | zero=>intro _;simp
  | succ n ih =>
   intro hn;rw[List.range_succ,List.filterMap_append,ih (by omega)];have e1:(((xs.size:Int)-1)+(n:Int)*(-1)).toNat=xs.size-1-n:=by omega
   have e2:xs[xs.size-1-n]?=some (xs[xs.size-1-n]'(by omega)):=Array.getElem?_eq_getElem _;rw[List.filterMap_cons,e1,e2];simp only[List.filterMap_nil];rw[List.take_succ]
   congr 1
   rw[List.getElem?_reverse (by simp;omega)];simp[e2]
 have:=e xs.size %[|3];rw[this,List.take_of_length_le (by simp)]
theorem Xq {sl:Addr} {t:Tok} {n:Nat} {Q:Int×Int×Nat->Shared->Prop} (hs:s.heap.IsSliceOf sl .none .none (.int (-1) t))
  (h:Q ((n:Int)-1,-1,n) s):wpAny (model prog w) A (Builtin.Slice.sliceApplied (.ref sl) (pure (n:Int))) Q E s:=by
 obtain⟨os,hos,hcs,hds⟩:=id hs;unfold Builtin.Slice.sliceApplied Builtin.Slice.sliceFields;refine wpAny_bind (wpAny_bind (wpAny_field hos hds (x:=.none) rfl (wpAny_bind (wpAny_field hos hds (x:=.none) rfl (wpAny_bind (wpAny_field hos hds (x:=.int (-1) t) rfl (wpAny_pure ?_)))))));refine wpAny_bind (slicePart_int ?_);show wpAny _ _ (if ((-1:Int)==0)=true then _ else _) _ _ s;rw[if_neg (by decide)];refine wpAny_bind (slicePart_none (wpAny_bind (slicePart_none (wpAny_bind (wpAny_pure ?_)))));show wpAny _ _ (pure ((n:Int)-1,(-1:Int),Builtin.Slice.slicePlaces ((n:Int)-1) (-1) (-1))) _ _ s;have e:Builtin.Slice.slicePlaces ((n:Int)-1) (-1) (-1)=n:=by
  unfold Builtin.Slice.slicePlaces;rw[if_neg (by decide),show -(-1:Int)=1 from rfl,Int.ediv_one];split<;>omega
 rw[e];exact wpAny_pure h
theorem getItem_tuple_rev {t sl:Addr} {items:Array Value} {u:Tok} {Q:Value->Shared->Prop} (ht:IsTup s.heap t items) (hs:s.heap.IsSliceOf sl .none .none (.int (-1) u))
  (h:Q (.ref s.heap.objs.size) {s with heap:=s.heap.push {cls:=.type "tuple",data:=.seq items.toList.reverse.toArray}})
  (hsz:items.size<=sizeLine):wpAny (model prog w) A (getItem (.ref t) (.ref sl)) Q E s:=by
 have htake:sizeOk (.seq items.toList.reverse.toArray):=by
  show items.toList.reverse.toArray.size<=sizeLine;rw[List.size_toArray,List.length_reverse,Array.length_toList];exact hsz
 obtain⟨os,hos,hcs,hds⟩:=id hs;have hTs:s.TypeIs (.ref sl) "slice":=⟨os,hos,hcs⟩;unfold getItem
 try with_reducible refine wpAny_holding ?_
 first|refine wpAny_bind (wpAny_pure ?_)|skip
 refine wpAny_bind (wpAny_sequenceKey ht.typeIs (by decide) ?_);refine wpAny_bind (wpAny_callSpecial?_slot (name:=Str.ofString "__getitem__") ht.typeIs PyProof.Rows.slot_tuple_getitem
  (wpAny_call_entry PyProof.Rows.slot_tuple_getitem ht.typeIs entry_tuple_getitem ?_ (args_tuple_getitem _ _)))
 show wpAny _ _ (Builtin.Tuple.tupleItemsOf (.ref t) >>= _) _ _ s;refine wpAny_bind (tupleItemsOf_ ht ?_);refine wpAny_bind (wpAny_typeOf hTs ?_);rw[if_pos (by decide)];refine wpAny_bind (Xq hs ?_);have hno:¬ (((items.size:Int)-1==0&&(-1:Int)==1&&items.size==items.size)=true):=by
  intro q;rw[Bool.and_eq_true,Bool.and_eq_true] at q;exact absurd q.1.2 (by decide)
 show wpAny _ _ (if ((items.size:Int)-1==0&&(-1:Int)==1&&items.size==items.size)=true then _ else _) _ _ s;rw[if_neg hno,VO]
 first
  | exact wpAny_bind (m:=Builtin.Tuple.tupleExact _) (wpAny_newObj_type (wpAny_pure ⟨_,rfl,wpAny_pure h⟩) htake)
  | exact wpAny_bind (m:=Builtin.Tuple.tupleExact _) (wpAny_newObj_type (wpAny_bind (wpAny_pure (wpAny_pure ⟨_,rfl,wpAny_pure h⟩))) htake)
  | exact wpAny_bind (wpAny_bind (m:=Builtin.Tuple.tupleExact _) (wpAny_newObj_type (wpAny_pure (wpAny_pure ⟨_,rfl,wpAny_pure h⟩)) htake))
  | exact wpAny_bind (wpAny_bind (m:=Builtin.Tuple.tupleExact _) (wpAny_newObj_type (wpAny_pure ⟨_,rfl,wpAny_pure h⟩) htake))
theorem slicePick_rev (xs:Array Value):slicePick xs none none (some (-1))=xs.toList.reverse.toArray:=by
 rw[<- VO];unfold slicePick;have h1:(sliceBounds none none (some (-1)) xs.size).1=(xs.size:Int)-1:=rfl;have h2:(sliceBounds none none (some (-1)) xs.size).2.1=-1:=rfl;have h3:(sliceBounds none none (some (-1)) xs.size).2.2=-1:=rfl;rw[h1,h2,h3];have e:sliceRange ((xs.size:Int)-1) (-1) (-1)=(List.range xs.size).map fun k:Nat=>(((xs.size:Int)-1)+(k:Int)*(-1)).toNat:=by
  unfold sliceRange;have c:(if (-1:Int) > 0 then if ((xs.size:Int)-1) < -1 then ((-1:Int)-((xs.size:Int)-1)+-1-1) / -1 else 0 else if ((xs.size:Int)-1) > -1 then (((xs.size:Int)-1) - -1 - -1-1) / - -1 else 0).toNat=xs.size:=by
   rw[if_neg (by decide),show-(-1:Int)=1 from rfl,Int.ediv_one];split<;>omega
  dsimp only;rw[c]
  congr 1
  funext k
  rw[Int.mul_comm]
 rw[e,List.filterMap_map]
 rfl
end
end HT
namespace DL
open PySem PySem.Spec PyProof.Rows L2
section
variable {X:Cx} {rz:Bool} {Xe:DSt->DK} {e st:Expr} {ta ts:DE} {pos p2:Pos}
noncomputable def rRev (K:Frag):V->Hp->VK->Prop:=fun x H Q=>∃ a xs,x=.ref a/\(SqT K H a xs/\(∀ p,H p=none->Q (.ref p) (L2.upd H p (.tup xs.reverse)))\/SqL K H a xs/\∀ p,H p=none->Q (.ref p) (L2.upd H p (.lst xs.reverse)))
theorem X6 {xs:List V} {us:List Value} (r:Vals xs us):Vals xs.reverse us.reverse:=by
 induction r with
 | nil=>exact .nil
 | cons h _ ih =>
  rw[List.reverse_cons,List.reverse_cons];exact ih.append (.cons h .nil)
theorem DF {te:TE} {tl:TO} (he:PE X e te) (hs:PO X (some st) tl):PE X (.Subscript e (.Slice none none (some st) p2) pos) (fun σ H Q=>te σ H fun x H1=>tl σ H1 fun l H2=>l=some (-1)/\rRev X.K x H2 Q):=by
 intro pins s σ H Q I h;refine Subscript_ (thn (he pins s σ H _ I h) fun v s1 hq2=>?_);obtain⟨x,H1,I1,r1,q1⟩:=hq2;refine wpAny_Slice ?_;rw[evalPart_none];refine wpAny_pure (wpAny_pure ?_);refine thn (hs pins s1 σ H1 _ I1 q1) fun vs s3 hq3=>?_;obtain⟨l,H3,I3,pl,rfl,a,xs,rfl,hxq⟩:=hq3;cases r1;cases pl with
 | int i t =>
 have I4:L2.Inv X pins σ H3 {s3 with heap:=s3.heap.push {cls:=.type "slice",data:=.fields #[.none,.none,.int (-1) t]}}:=I3.kept (t':=s3.toks) fun b ob q=>Heap.get?_push_of_some _ q;rcases hxq with ⟨hx,q⟩|⟨hx,q⟩
 case inr =>
  obtain⟨its,r,ht,hz⟩:=I4.list hx;have hlen:=r.length;show wpAny (model X.prog X.w) X.A (subscriptTail e (.Slice none none (some st) p2) (.ref a) (.ref s3.heap.objs.size)) (EP X pins σ Q) X.xe {s3 with heap:=s3.heap.push {cls:=.type "slice",data:=.fields #[.none,.none,.int (-1) t]}};refine tail_any (ops:=[.ref a,.ref s3.heap.objs.size]) ht.isList.typeIs slot_list_getitem.lookup ?_ (by with_unfolding_all rfl);refine wpAny_getItem_list_slice ht.isList (Heap.IsSliceOf.new ..) .none .none (.int (-1) t) (by decide) ?_ (by rw[List.size_toArray]<;>omega);rw[HT.slicePick_rev];refine⟨.ref (s3.heap.push {cls:=.type "slice",data:=.fields #[.none,.none,.int (-1) t]}).objs.size,_,I4.laid (t':=s3.toks) (o:=.lst xs.reverse) (fun b ob q=>Heap.get?_push_of_some _ q) %[|3] ?_,rfl,q _ (I4.hok.fresh %[|3])⟩;exact⟨by rw[List.length_reverse];exact hz,_,0,X6 r,Heap.get?_push_size _ rfl⟩
 obtain⟨its,r,ht,hz⟩:=I4.tuple hx;show wpAny (model X.prog X.w) X.A (subscriptTail e (.Slice none none (some st) p2) (.ref a) (.ref s3.heap.objs.size)) (EP X pins σ Q) X.xe {s3 with heap:=s3.heap.push {cls:=.type "slice",data:=.fields #[.none,.none,.int (-1) t]}};refine tail_any (ops:=[.ref a,.ref s3.heap.objs.size]) ht.typeIs PyProof.Rows.slot_tuple_getitem.lookup ?_ (by with_unfolding_all rfl);refine HT.getItem_tuple_rev ht (Heap.IsSliceOf.new ..) ?_ (by rw[List.size_toArray,<- r.length];exact hz);refine⟨.ref (s3.heap.push {cls:=.type "slice",data:=.fields #[.none,.none,.int (-1) t]}).objs.size,_,I4.laid (t':=s3.toks) (o:=.tup xs.reverse) (fun b ob q=>Heap.get?_push_of_some _ q) %[|3] ?_,rfl,q _ (I4.hok.fresh %[|3])⟩;exact⟨by rw[List.length_reverse];exact hz,_,X6 r,IsTup.new _ _⟩
noncomputable def Yo (d:D) (l:Option Int) (M:Mem) (Q:DK):Prop:=l=some (-1)/\match d with | .tup xs=>Q (.tup xs.reverse) M | .lst a=>∃ xs,M a=some (.ls xs)/\alloc M (.ls xs.reverse) fun p M'=>Q (.lst p) M' | _=>False
noncomputable def dRev (te:DE) (tl:DO):DE:=fun δ M Q=>te δ M fun x M1=>tl δ M1 fun l M2=>Yo x l M2 Q
theorem X9 {K:Frag} {H:Hp} {vs:List V} {ds:List D} (r:RelDs K H vs ds):RelDs K H vs.reverse ds.reverse:=by
 have app:∀ {vs ws:List V} {ds es:List D},RelDs K H vs ds->RelDs K H ws es->RelDs K H (vs++ws) (ds++es):=by
  intro vs
  induction vs with
  | nil=>intro ws ds es a b;cases a;exact b
  | cons v vs ih=>intro ws ds es a b;cases a with|cons h t=>exact .cons h (ih t b)
 revert ds
 induction vs with
 | nil=>intro ds r;cases r;exact .nil
 | cons v vs ih =>
  intro ds r;cases r with
  | cons h t =>
   rw[List.reverse_cons,List.reverse_cons];exact app (ih t) (.cons h .nil)
theorem FF {tl:DO} (he:PE X e (lift (X.L rz Xe) ta)) (hs:PO X (some st) (WF (X.L rz Xe) tl)):PE X (.Subscript e (.Slice none none (some st) p2) pos) (lift (X.L rz Xe) (dRev ta tl)) :=
 (DF he hs).imp fun σ H Q ⟨δ,M,R,rs,rm,t,q⟩=>⟨δ,M,_,rs,rm,t,fun d M1 v H1 x1 m1 r1 h1=>⟨δ,M1,_,rs.ext x1,m1,h1,fun l M2 H2 x2 m2 h2=>⟨h2.1,by
  obtain⟨_,h2⟩:=h2;cases r1 with
  | tup ht r =>
   rename_i vs _;refine⟨_,_,rfl,.inl ⟨x2.tup _ _ ht,fun p hp=>?_⟩⟩;have ex:HExt X.K H2 (L2.upd H2 p (.tup vs.reverse)):=HExt.upd (.inl hp);exact q _ _ _ _ ((x1.trans x2).trans ex) (m2.tup hp) (.tup (.inl (.of L2.upd_same)) (X9 ((r.ext x2).ext ex))) h2
  | lst a =>
   obtain⟨xs,e0,h⟩:=(show ∃ xs,M2 a=some (.ls xs)/\alloc M2 (.ls xs.reverse) fun p M'=>R (.lst p) M' from h2);obtain⟨vs,e1,r⟩:=m2 _ _ e0;exact⟨_,_,rfl,.inr ⟨.of e1,fun p hp=>q _ _ _ _ ((x1.trans x2).trans (.upd (.inl hp))) (m2.lst hp (X9 r)) (.lst p) (h.at (m2.none hp))⟩⟩
  | _=>exact h2.elim⟩⟩⟩
end
end DL
end
noncomputable section
namespace PySem
open PyProof.Rows
namespace F
end F
section
variable {prog:Program} {w:World} {A:Around} {E:Value->Shared->Prop} {s:Shared}
end
section
variable {prog:Program} {w:World} {A:Around} {s:Shared} {R:Result->Shared->Prop}
variable {I l:Addr} {items:Array Value}
end
section
variable {prog:Program} {w:World} {A:Around} {E:Value->Shared->Prop} {s:Shared}
variable {I l:Addr} {items:Array Value}
end
end PySem
namespace DL
open PySem PySem.Spec PyProof.Rows L2
section
variable {X:Cx} {e:Expr} {t:TA} {p p2 pos pos2:Pos}
end
end DL
namespace DL
open PySem PySem.Spec PyProof.Rows L2
section
variable {X:Cx} {rz:Bool} {Xe:DSt->DK} {e:Expr} {t:DA} {p p2 pos pos2:Pos}
end
end DL
end
noncomputable section
namespace DL
open PySem PySem.Spec PyProof.Rows L2
noncomputable def Ji:DS:=fun D δ M=>D.nx δ M
noncomputable def dSeq (t u:DS):DS:=fun D δ M=>t {D with nx:=u D} δ M
noncomputable def KR:DS:=fun D δ M=>D.bk δ M
noncomputable def LR:DS:=fun D δ M=>D.ct δ M
noncomputable def D2 (te:(DSt->DK)->DE):DS:=fun D δ M=>te D.ex δ M fun _ M1=>D.nx δ M1
noncomputable def dRet (te:(DSt->DK)->DE):DS:=fun D δ M=>te D.ex δ M D.rt
noncomputable def LP:DS:=fun D _ M=>D.rt .non M
noncomputable def dIfS (c:(DSt->DK)->DT) (t u:DS):DS:=fun D δ M=>c D.ex δ M fun b M1=>if b=true then t D δ M1 else u D δ M1
noncomputable def Br:DS:=fun _ _ _=>False
abbrev DG:=D->DSt->Mem->(DSt->Mem->Prop)->Prop
abbrev DGs:=List D->DSt->Mem->(DSt->Mem->Prop)->Prop
noncomputable def YY (Λ:LK) (g:DG):TG:=fun v σ H Q=>∃ d δ M R,RelD Λ.K H v d/\RepS Λ H δ σ/\RepM Λ.K H M/\g d δ M R/\∀ δ' M' σ' H',HExt Λ.K H H'->RepS Λ H' δ' σ'->RepM Λ.K H' M'->R δ' M'->Q σ' H'
noncomputable def Wb (Λ:LK) (g:DGs):TGs:=fun vs σ H Q=>∃ ds δ M R,RelDs Λ.K H vs ds/\RepS Λ H δ σ/\RepM Λ.K H M/\g ds δ M R/\∀ δ' M' σ' H',HExt Λ.K H H'->RepS Λ H' δ' σ'->RepM Λ.K H' M'->R δ' M'->Q σ' H'
noncomputable def Z1 (i:Nat):DG:=fun d δ M Q=>Q (δ.set i (some d)) M
noncomputable def CZ:DGs:=fun ds δ M Q=>ds=[]/\Q δ M
noncomputable def AX (t:DG) (u:DGs):DGs:=fun ds δ M Q=>∃ d r,ds=d::r/\t d δ M fun δ' M'=>u r δ' M' Q
noncomputable def Yr (n:Nat) (t:DGs):DG:=fun d δ M Q=>∃ ds,d=.tup ds/\ds.length=n/\t ds δ M Q
noncomputable def CY (to ti:DE):DG:=fun v δ M Q=>to δ M fun o M1=>ti δ M1 fun i M2=>∃ a k xs j,o=.lst a/\i=.int k/\M2 a=some (.ls xs)/\ixN xs.length k=some j/\Q δ (M2.upd a (.ls (xs.set j v)))
noncomputable def dAsg (te:(DSt->DK)->DE) (g:(DSt->DK)->DG):DS:=fun D δ M=>te D.ex δ M fun x M1=>g D.ex x δ M1 D.nx
noncomputable def dPar (i j:Nat) (ta:(DSt->DK)->DA):DS:=fun D δ M=>ta D.ex δ M fun ds M1=>∃ v w,ds=[v,w]/\D.nx ((δ.set i (some v)).set j (some w)) M1
noncomputable def dTwo (te:(DSt->DK)->DE) (g h:(DSt->DK)->DG):DS:=fun D δ M=>te D.ex δ M fun x M1=>g D.ex x δ M1 fun δ2 M2=>h D.ex x δ2 M2 D.nx
noncomputable def dAug (i:Nat) (te:(DSt->DK)->DE) (f:Int->Int->Int):DS:=fun D δ M=>∃ x,δ[i]?=some (some (.int x))/\te D.ex δ M fun y M1=>∃ j,y=.int j/\D.nx (δ.set i (some (.int (f x j)))) M1
noncomputable def Bp (c:(DSt->DK)->DT) (tb:DS):DS:=fun D δ M=>∃ W:Nat->DSt->Mem->Prop,(∃ m,W m δ M)/\∀ m δ M,W m δ M ->
 c D.ex δ M fun b M1=>if b=true then ∃ N:DSt->Mem->Prop,(∀ δ' M',N δ' M'->∃ m',m'<m/\W m' δ' M')/\tb {D with nx:=N,ct:=N,bk:=D.nx} δ M1 else D.nx δ M1
section
variable {X:Cx} {rz:Bool} {Xe:DSt->DK} {st:Stmt} {rest:List Stmt} {t u:DS} {e tg:Expr} {es:List Expr} {te:DE} {g:DG} {gs:DGs} {pos:Pos}
theorem Ch:PSs X [] (Yk X rz Ji):=by
 refine pss_nil.imp ?_;rintro E σ H ⟨δ,M,D,rs,rm,t,n,r,b,c⟩;exact n δ M σ H (.refl H) rs rm t
theorem Ct {E:Ends} {σ:L2.St} {H:Hp} (h:Yk X rz (dSeq t u) E σ H):tSeq (Yk X rz t) (Yk X rz u) E σ H:=by
 obtain⟨δ,M,D,rs,rm,t,n,r,b,c⟩:=h;exact⟨δ,M,{D with nx:=u D},rs,rm,t,fun δ' M' σ' H' x rs' rm' h=>⟨δ',M',D,rs',rm',h,fun a b c d x2=>n a b c d (x.trans x2),fun a b c d x2=>r a b c d (x.trans x2),fun p q s t x2=>b p q s t (x.trans x2),fun p q s t x2=>c p q s t (x.trans x2)⟩,r,b,c⟩
theorem Ba (h1:PS X st (Yk X rz t)) (h2:PSs X rest (Yk X rz u)):PSs X (st::rest) (Yk X rz (dSeq t u)):=(VM h1 h2).imp fun _ _ _=>Ct
theorem Be:PS X st (Yk X rz Br):=by
 refine ps_never.imp ?_;rintro E σ H ⟨δ,M,D,rs,rm,t,_⟩;exact t
theorem Cj {te:(DSt->DK)->DE} (he:∀ Xe,PE X e (lift (X.L rz Xe) (te Xe))) (hs:swapsWith e none pos.line X.env=pure false):PS X (.Expr e pos) (Yk X rz (D2 te)):=by
 rintro pins s σ H E I ⟨δ,M,D,rs,rm,t,n,r,b,c⟩;exact (BK (he D.ex) hs) pins s σ H E I <| ⟨δ,M,_,rs,rm,t,fun d M' v H' x m _ h=>n δ M' σ H' x (rs.ext x) m h⟩
theorem Fs {te:(DSt->DK)->DE} (he:∀ Xe,PE X e (lift (X.L rz Xe) (te Xe))):PS X (.Return (some e) pos) (Yk X rz (dRet te)):=by
 rintro pins s σ H E I ⟨δ,M,D,rs,rm,t,n,r,b,c⟩;exact (Dq (he D.ex)) pins s σ H E I <| ⟨δ,M,_,rs,rm,t,fun d M' v H' x m q h=>r d M' v H' x m q h⟩
theorem II {c:Expr} {a b:List Stmt} {tc:(DSt->DK)->DT} (hc:∀ Xe,PT X c (YO (X.L rz Xe) (tc Xe))) (ha:PSs X a (Yk X rz t)) (hb:PSs X b (Yk X rz u)):PS X (.If c a b pos) (Yk X rz (dIfS tc t u)):=by
 rintro pins s σ H E I ⟨δ,M,D,rs,rm,t,n,r,b,c⟩;exact (Ia (hc D.ex) ha hb) pins s σ H E I <| ⟨δ,M,_,rs,rm,t,fun k M' H' x m h=>by
  cases k with
  | true=>exact⟨δ,M',D,rs.ext x,m,h,fun a b c d x2=>n a b c d (x.trans x2),fun a b c d x2=>r a b c d (x.trans x2),fun p q s t x2=>b p q s t (x.trans x2),fun p q s t x2=>c p q s t (x.trans x2)⟩
  | false=>exact⟨δ,M',D,rs.ext x,m,h,fun a b c d x2=>n a b c d (x.trans x2),fun a b c d x2=>r a b c d (x.trans x2),fun p q s t x2=>b p q s t (x.trans x2),fun p q s t x2=>c p q s t (x.trans x2)⟩⟩
theorem _root_.L2.PG.imp {t t':TG} (h:PG X tg t) (i:∀ v σ H Q,t' v σ H Q->t v σ H Q):PG X tg t':=fun pins s σ H v u Q I r q=>h pins s σ H v u Q I r (i _ _ _ _ q)
theorem _root_.L2.PGs.imp {t t':TGs} (h:PGs X es t) (i:∀ v σ H Q,t' v σ H Q->t v σ H Q):PGs X es t':=fun pins s σ H v u Q I r q=>h pins s σ H v u Q I r (i _ _ _ _ q)
theorem Cp {i:Nat} {x:Str} (hN:X.N.Nodup) (hi:X.N[i]?=some x) (hx:Loc X.env.scope x) (hf:X.fn x=true\/X.env.scope.names.lookup x=some .local):PG X (.Name x pos) (YY (X.L rz Xe) (Z1 i)) :=
 (BN hN hi hx hf).imp (by rintro v σ H Q ⟨d,δ,M,R,r,rs,rm,h,q⟩;exact q _ _ _ _ (.refl H) (rs.set r i) rm h)
theorem Co:PGs X [] (Wb (X.L rz Xe) CZ):=by
 refine pgs_nil.imp ?_;rintro v σ H Q ⟨d,δ,M,R,r,rs,rm,h,q⟩;obtain⟨e,h⟩:=h;subst e;cases r;exact⟨rfl,q _ _ _ _ (.refl H) rs rm h⟩
theorem Bj (h1:PG X tg (YY (X.L rz Xe) g)) (h2:PGs X es (Wb (X.L rz Xe) gs)) (hs:(assignEach (tg::es) X.env).map (·.2)=assign tg X.env::(assignEach es X.env).map (·.2)):PGs X (tg::es) (Wb (X.L rz Xe) (AX g gs)) :=
 (Aq h1 h2 hs).imp fun v σ H Q ⟨d,δ,M,R,r,rs,rm,h,q⟩=>by
  obtain⟨d,ds,e,h⟩:=h;subst e;cases r with
  | cons ra rr=>exact⟨_,_,rfl,d,δ,M,_,ra,rs,rm,h,fun δ' M' σ' H' x rs' rm' h'=>⟨ds,δ',M',R,rr.ext x,rs',rm',h',fun a b c d x2=>q a b c d (x.trans x2)⟩⟩
theorem FB {k n:Nat} (hc:X.calm=true) (h:PGs X es (Wb (X.L rz Xe) gs)) (hn:(assignEach es X.env).length=n) (hst:(assignEach es X.env).findIdx? (·.1)=none):PG X (.Tuple es k pos) (YY (X.L rz Xe) (Yr n gs)) :=
 (Dx hc h hn hst).imp fun v σ H Q ⟨d,δ,M,R,r,rs,rm,h,q⟩=>by
  obtain⟨ds,e,hl,h⟩:=h;subst e;cases r with
  | tup ht rr=>exact⟨_,_,rfl,ht,by rw[rr.length];exact hl,ds,δ,M,R,rr,rs,rm,h,q⟩
theorem FC {o i:Expr} {to ti:DE} (ho:PE X o (lift (X.L rz Xe) to)) (hi:PE X i (lift (X.L rz Xe) ti))
  (ha:∀ v,assign (.Subscript o i pos) X.env v=(do
   let ov <- holding [v] (eval o X.env)
   let iv <- holding [v,ov] (eval i X.env)
   standAt pos
   holding [v,ov,iv] (setItem ov iv v)
   release [v,ov,iv] [])):PG X (.Subscript o i pos) (YY (X.L rz Xe) (CY to ti)) :=
 (Dy ho hi Ah ha).imp fun v σ H Q ⟨d,δ,M,R,r,rs,rm,h,q⟩=>seq2 rs rm h fun x y M2 w u H2 x2 m2 r1 r2 ⟨a,k,xs,j,e1,e2,e3,e4,h2⟩=>by
  subst e1;subst e2;cases r1;cases r2;obtain⟨vs,ev,rv⟩:=m2 _ _ e3;exact⟨a,vs,k,j,rfl,rfl,ev,by rw[rv.length];exact e4,q _ _ _ _ (x2.trans (.upd (.inr ⟨_,ev,trivial⟩))) (rs.ext (x2.trans (.upd (.inr ⟨_,ev,trivial⟩)))) (m2.write ev (rv.set (r.ext x2) j)) h2⟩
theorem Fv {te:(DSt->DK)->DE} {g:(DSt->DK)->DG} (he:∀ Xe,PE X e (lift (X.L rz Xe) (te Xe))) (hg:∀ Xe,PG X tg (YY (X.L rz Xe) (g Xe))) (hs:swapsWithSole [tg] e pos.line X.env=pure false) (hw:swappedStores [tg] e X.env=pure none)
  (h1:(assignEach [tg] X.env).map (·.2)=[assign tg X.env]):PS X (.Assign [tg] e pos) (Yk X rz (dAsg te g)) :=
 (by rintro pins s σ H E I ⟨δ,M,D,rs,rm,t,n,r,b,c⟩;exact (Dv (he D.ex) (hg D.ex) hs hw h1) pins s σ H E I <| ⟨δ,M,_,rs,rm,t,fun d M' v H' x m q h=>⟨d,δ,M',_,q,rs.ext x,m,h,fun a b c d x2=>n a b c d (x.trans x2)⟩⟩)
theorem Fp {te:(DSt->DK)->DE} {g:(DSt->DK)->DG} {tg2:Expr} {g2:(DSt->DK)->DG} (he:∀ Xe,PE X e (lift (X.L rz Xe) (te Xe))) (hg:∀ Xe,PG X tg (YY (X.L rz Xe) (g Xe))) (hg2:∀ Xe,PG X tg2 (YY (X.L rz Xe) (g2 Xe))) (h1:(assignEach [tg,tg2] X.env).map (·.2)=[assign tg X.env,assign tg2 X.env]) (hw:swappedStores [tg,tg2] e X.env=pure none) :
  PS X (.Assign [tg,tg2] e pos) (Yk X rz (dTwo te g g2)):=by
 rintro pins s σ H E I ⟨δ,M,D,rs,rm,t,n,r,b,c⟩;refine wpAny_Assign_two (thn (he D.ex pins s σ H (fun v H1=>∃ d M1,HExt X.K H H1/\RepM X.K H1 M1/\RelD X.K H1 v d/\g D.ex d δ M1 fun δ2 M2=>g2 D.ex d δ2 M2 D.nx) I ⟨δ,M,_,rs,rm,t,fun d M' v H' x m q h=>⟨d,M',x,m,q,h⟩⟩) fun v s1 hq2=>?_) h1 hw;obtain⟨y,H1,I1,r1,d,M1,x1,m1,q1,h1'⟩:=hq2;refine thn (hg D.ex pins s1 σ H1 y v (fun σ2 H2=>∃ δ2 M2,HExt X.K H1 H2/\RepS (X.L rz D.ex) H2 δ2 σ2/\RepM X.K H2 M2/\g2 D.ex d δ2 M2 D.nx) I1 r1 ⟨d,δ,M1,_,q1,rs.ext x1,m1,h1',fun δ' M' σ' H' y1 y2 y3 y4=>⟨δ',M',y1,y2,y3,y4⟩⟩) fun _ s2 hq2=>?_;obtain⟨σ2,H2,I2,δ2,M2,x2,rs2,m2,h2⟩:=hq2;exact hg2 D.ex pins s2 σ2 H2 y v _ I2 r1 ⟨d,δ2,M2,_,q1.ext x2,rs2,m2,h2,fun a b c d y1=>n a b c d ((x1.trans x2).trans y1)⟩
theorem Bf {te:(DSt->DK)->DE} {i:Nat} {x:Str} {op:Operator} {f:Int->Int->Int} {pos':Pos} (hN:X.N.Nodup) (hi:X.N[i]?=some x) (hx:Loc X.env.scope x) (he:∀ Xe,PE X e (lift (X.L rz Xe) (te Xe))) (ho:PIp X op (ipI f)) (hf:X.fn x=true\/X.env.scope.names.lookup x=some .local) :
  PS X (.AugAssign (.Name x pos') op e pos) (Yk X rz (dAug i te f)):=by
 rintro pins s σ H E I ⟨δ,M,D,rs,rm,⟨z,ez,t⟩,n,r,b,c⟩;exact (Du hN hi hx (he D.ex) ho hf) pins s σ H E I <| by
  obtain⟨v,ev,rv⟩:=rs.slot i _ ez;cases rv;exact⟨_,ev,δ,M,_,rs,rm,t,fun d M' v H' x m q ⟨j,e,h⟩=>by
   subst e;cases q;exact⟨_,_,rfl,rfl,n _ _ _ _ x ((rs.ext x).set (.int _) i) m h⟩⟩
theorem Bc {te:(DSt->DK)->DE} {i:Nat} {x:Str} {pos':Pos} (hN:X.N.Nodup) (hi:X.N[i]?=some x) (hx:Loc X.env.scope x) (he:∀ Xe,PE X e (lift (X.L rz Xe) (te Xe))) (hs:swapsWith e (some (.Name x pos')) pos.line X.env=pure false) (hf:X.fn x=true\/X.env.scope.names.lookup x=some .local) :
  PS X (.Assign [.Name x pos'] e pos) (Yk X rz (dAsg te fun _=>Z1 i)):=by
 rintro pins s σ H E I ⟨δ,M,D,rs,rm,t,n,r,b,c⟩;exact (Am hN hi hx (he D.ex) hs hf) pins s σ H E I <| ⟨δ,M,_,rs,rm,t,fun d M' v H' x m q h=>n _ _ _ _ x ((rs.ext x).set q i) m h⟩
theorem Ft {i j:Nat} {x y:Str} {a b:Expr} {ta:(DSt->DK)->DA} {px py pt:Pos} {kt k2 pt2} (hc:X.calm=true) (hN:X.N.Nodup) (hi:X.N[i]?=some x) (hj:X.N[j]?=some y) (hij:i≠j)
  (hx:X.env.scope.names.lookup x=some .local) (hy:X.env.scope.names.lookup y=some .local) (ha:∀ Xe,PA X [a,b] (Z4 (X.L rz Xe) (ta Xe)))
  (hw:swappedStores [.Tuple [.Name x px,.Name y py] kt pt] (.Tuple [a,b] k2 pt2) X.env=pure (some [x,y]))
  (hs:swapsWithSole [.Tuple [.Name x px,.Name y py] kt pt] (.Tuple [a,b] k2 pt2) pos.line X.env=pure false) :
  PS X (.Assign [.Tuple [.Name x px,.Name y py] kt pt] (.Tuple [a,b] k2 pt2) pos) (Yk X rz (dPar i j ta)):=by
 rintro pins s σ H E I ⟨δ,M,D,rs,rm,t,n,r,b,c⟩;exact (Ds hc hN hi hj hij hx hy (ha D.ex) hw hs) pins s σ H E I <| ⟨δ,M,_,rs,rm,t,fun ds M' vs H' x m q ⟨v,w,e,h⟩=>by
  subst e;obtain⟨v',w',rfl,r1,r2⟩:=q.two;exact⟨v',w',rfl,n _ _ _ _ x (((rs.ext x).set r1 i).set r2 j) m h⟩⟩
theorem Bb {c:Expr} {body:List Stmt} {tc:(DSt->DK)->DT} {tb:DS} (hp:PassesOwn (model X.prog X.w) X.A X.env X.xe) (hc:∀ Xe,PT X c (YO (X.L rz Xe) (tc Xe))) (hb:PSs X body (Yk X rz tb)):PS X (.While c body [] pos) (Yk X rz (Bp tc tb)) :=
 fun pins s σ H E I ⟨δ,M,D,rs,rm,⟨W,⟨m0,w0⟩,turn⟩,n,r,b,c⟩=>(Al hp (hc D.ex) hb) pins s σ H E I <| by
  refine⟨fun m σ' H'=>∃ δ' M',HExt X.K H H'/\RepS (X.L rz D.ex) H' δ' σ'/\RepM X.K H' M'/\W m δ' M',⟨m0,δ,M,.refl H,rs,rm,w0⟩,?_⟩;rintro m σ1 H1 ⟨δ1,M1,x1,rs1,rm1,w1⟩;refine⟨δ1,M1,_,rs1,rm1,turn m δ1 M1 w1,fun k M2 H2 x2 m2 h=>?_⟩;cases k with
  | true =>
   obtain⟨N,hN,h⟩:=h;refine⟨fun σ' H'=>∃ δ' M',HExt X.K H H'/\RepS (X.L rz D.ex) H' δ' σ'/\RepM X.K H' M'/\N δ' M',fun σ' H' ⟨δ',M',y1,y2,y3,y4⟩=>?_,?_⟩
   ·obtain⟨m',l,w'⟩:=hN δ' M' y4
    exact⟨m',l,δ',M',y1,y2,y3,w'⟩
   ·exact⟨δ1,M2,{D with nx:=N,ct:=N,bk:=D.nx},rs1.ext x2,m2,h,fun δ' M' σ' H' y1 y2 y3 y4=>⟨δ',M',(x1.trans x2).trans y1,y2,y3,y4⟩,fun a b c d y1=>r a b c d ((x1.trans x2).trans y1),fun δ' M' σ' H' y1 y2 y3 y4=>n _ _ _ _ ((x1.trans x2).trans y1) y2 y3 y4,fun δ' M' σ' H' y1 y2 y3 y4=>⟨δ',M',(x1.trans x2).trans y1,y2,y3,y4⟩⟩
  | false=>exact n _ _ _ _ (x1.trans x2) (rs1.ext x2) m2 h
end
abbrev DI:=DSt->Mem->(List D->(Mem->Prop)->Mem->Prop)->Prop
noncomputable def ItD (K:Frag) (H0:Hp) (J:It) (items:List D) (keep:Mem->Prop):Prop:=∀ i H M,HExt K H0 H->RepM K H M->keep M ->
 (i<items.length->J.go i H)/\(items.length<=i->J.stop i H)/\∀ x H',J.yld i H x H'->HExt K H H'/\RepM K H' M/\∀ d,items[i]?=some d->RelD K H' x d
noncomputable def Zi (Λ:LK) (t:DI):TI:=fun σ H R=>∃ δ M Rd,RepS Λ H δ σ/\RepM Λ.K H M/\t δ M Rd/\∀ items keep M' J H',HExt Λ.K H H'->RepM Λ.K H' M'->keep M'->ItD Λ.K H' J items keep->Rd items keep M'->R J H'
noncomputable def forD (g:(DSt->DK)->DG) (tb:DS) (keep:Mem->Prop):List D->DS
 | []=>fun D δ M=>D.nx δ M
 | x::xs=>fun D δ M=>g D.ex x δ M fun δ1 M1=>tb {D with nx:=fun δ2 M2=>keep M2/\forD g tb keep xs D δ2 M2,ct:=fun δ2 M2=>keep M2/\forD g tb keep xs D δ2 M2,bk:=D.nx} δ1 M1
noncomputable def dFor (ti:(DSt->DK)->DI) (g:(DSt->DK)->DG) (tb:DS):DS:=fun D δ M=>ti D.ex δ M fun items keep M1=>forD g tb keep items D δ M1
section
variable {X:Cx} {rz:Bool} {Xe:DSt->DK} {tg:Expr} {pos:Pos}
theorem Fu {iter:Expr} {body:List Stmt} {ti:(DSt->DK)->DI} {g:(DSt->DK)->DG} {tb:DS} (hp:PassesOwn (model X.prog X.w) X.A X.env X.xe) (hc:X.calm=true) (hi:∀ Xe,PI X tg iter (Zi (X.L rz Xe) (ti Xe))) (hg:∀ Xe,PG X tg (YY (X.L rz Xe) (g Xe))) (hb:PSs X body (Yk X rz tb))
  (hs:∀ x,foldedSetIterable iter X.env x=pure x):PS X (.For tg iter body [] pos) (Yk X rz (dFor ti g tb)) :=
 fun pins s σ H E I ⟨δ,M,D,rs,rm,t,n,r,b,c⟩=>(Dt hp hc (hi D.ex) (hg D.ex) hb hs) pins s σ H E I <| by
  refine⟨δ,M,_,rs,rm,t,fun items keep M1 J H1 x1 m1 k1 it h1=>?_⟩;refine⟨fun i m σ' H'=>m=items.length-i/\i<=items.length/\∃ δ' M',HExt X.K H1 H'/\RepS (X.L rz D.ex) H' δ' σ'/\RepM X.K H' M'/\keep M'/\forD g tb keep (items.drop i) D δ' M',⟨_,rfl,Nat.zero_le _,δ,M1,.refl H1,rs.ext x1,m1,k1,h1⟩,?_⟩;rintro i m σ2 H2 ⟨rfl,hi,δ2,M2,x2,rs2,m2,k2,h2⟩;obtain⟨i1,i2,i3⟩:=it i H2 M2 x2 m2 k2;by_cases hl:i<items.length
  ·refine .inr ⟨i1 hl,fun σ' H'=>∃ δ' M',HExt X.K H1 H'/\RepS (X.L rz D.ex) H' δ' σ'/\RepM X.K H' M'/\keep M'/\forD g tb keep (items.drop (i+1)) D δ' M',fun σ' H' z=>⟨items.length-(i+1),by omega,rfl,hl,z⟩,fun x H3 y=>?_⟩
   obtain⟨x3,m3,r3⟩:=i3 x H3 y;rw[List.drop_eq_getElem_cons hl] at h2;refine⟨items[i],δ2,M2,_,r3 _ (by simp[hl]),rs2.ext x3,m3,h2,fun δ4 M4 σ4 H4 x4 rs4 m4 h4=>?_⟩;have xx:=(x2.trans x3).trans x4;exact⟨δ4,M4,{D with nx:=fun δ2 M2=>keep M2/\forD g tb keep (items.drop (i+1)) D δ2 M2,ct:=fun δ2 M2=>keep M2/\forD g tb keep (items.drop (i+1)) D δ2 M2,bk:=D.nx},rs4,m4,h4,fun δ' M' σ' H' y1 y2 y3 y4=>⟨δ',M',xx.trans y1,y2,y3,y4.1,y4.2⟩,fun a b c d y1=>r a b c d ((x1.trans xx).trans y1),fun δ' M' σ' H' y1 y2 y3 y4=>n _ _ _ _ ((x1.trans xx).trans y1) y2 y3 y4,fun δ' M' σ' H' y1 y2 y3 y4=>⟨δ',M',xx.trans y1,y2,y3,y4.1,y4.2⟩⟩
  ·have e:i=items.length:=by omega
   subst e;rw[List.drop_length] at h2;exact .inl ⟨i2 %[|3],n _ _ _ _ (x1.trans x2) rs2 m2 h2⟩
noncomputable def Yq (d:D) (M:Mem) (R:List D->(Mem->Prop)->Mem->Prop):Prop :=
 match d with
 | .lst a=>∃ xs,M a=some (.ls xs)/\R xs (fun M'=>M' a=some (.ls xs)) M
 | .fz xs=>R xs (fun _=>True) M
 | .tup xs=>R xs (fun _=>True) M
 | _=>False
noncomputable def Yu (te:DE):DI:=fun δ M R=>te δ M fun d M1=>Yq d M1 R
theorem AO {K:Frag} {H0:Hp} {a:Addr} {xs:List D}:ItD K H0 (Itl K a) xs (fun M'=>M' a=some (.ls xs)):=fun i H M x m k=>by
 obtain⟨vs,e,r⟩:=m _ _ k;refine⟨fun hl=>⟨vs,vs[i]'(by rw[r.length];exact hl),.of e,by simp[r.length,hl]⟩,fun hl=>⟨vs,.of e,by rw[r.length];exact hl⟩,fun y H' hq2=>?_⟩;obtain⟨e1,e2⟩:=hq2;subst e1;refine⟨.refl _,m,fun d hd=>?_⟩;obtain⟨v,h1,h2⟩:=r.get hd;rw[e2 vs (.of e)] at h1;cases h1;exact h2
theorem Fe {K:Frag} {H0:Hp} {a:Addr} {vs:List V} {xs:List D} (ht:SqF K H0 a vs) (r:RelDs K H0 vs xs):ItD K H0 (Itl K a) xs (fun _=>True):=fun i H M x m k=>by
 have ht':=x.fz _ _ ht;have r':=r.ext x;refine⟨fun hl=>⟨vs,vs[i]'(by rw[r.length];exact hl),ht'.sq,by simp[r.length,hl]⟩,fun hl=>⟨vs,ht'.sq,by rw[r.length];exact hl⟩,fun y H' hq2=>?_⟩;obtain⟨e1,e2⟩:=hq2;subst e1;refine⟨.refl _,m,fun d hd=>?_⟩;obtain⟨v,h1,h2⟩:=r'.get hd;rw[e2 vs ht'.sq] at h1;cases h1;exact h2
theorem Cb {K:Frag} {H0:Hp} {a:Addr} {vs:List V} {xs:List D} (ht:SqT K H0 a vs) (r:RelDs K H0 vs xs):ItD K H0 (Itt K a) xs (fun _=>True):=fun i H M x m k=>by
 have ht':=x.tup _ _ ht;have r':=r.ext x;refine⟨fun hl=>⟨vs,vs[i]'(by rw[r.length];exact hl),ht',by simp[r.length,hl]⟩,fun hl=>⟨vs,ht',by rw[r.length];exact hl⟩,fun y H' hq2=>?_⟩;obtain⟨e1,e2⟩:=hq2;subst e1;refine⟨.refl _,m,fun d hd=>?_⟩;obtain⟨v,h1,h2⟩:=r'.get hd;rw[e2 vs ht'] at h1;cases h1;exact h2
theorem Fz {l:Expr} {te:DE} (hl:PE X l (lift (X.L rz Xe) te)):PI X tg l (Zi (X.L rz Xe) (Yu te)):=by
 rintro pins s σ H R I ⟨δ,M,Rd,rs,rm,t,q⟩;refine thn (hl pins s σ H (fun x H1=>(∃ a xs,x=.ref a/\SqL X.K H1 a xs/\R (Itl X.K a) H1)\/(∃ a xs,x=.ref a/\SqT X.K H1 a xs/\R (Itt X.K a) H1)) I ⟨δ,M,_,rs,rm,t,fun d M1 v H1 x1 m1 r1 h1=>?_⟩) fun v s1 ⟨x,H1,I1,r1,q1⟩=>?_
 ·cases r1 with
  | lst a =>
   obtain⟨xs,e0,h1⟩:=h1;obtain⟨vs,e,r⟩:=m1 _ _ e0;exact .inl ⟨a,vs,rfl,.of e,q _ _ _ _ _ x1 m1 e0 AO h1⟩
  | fz ht r=>exact .inl ⟨_,_,rfl,ht.sq,q _ _ _ _ _ x1 m1 trivial (Fe ht r) h1⟩
  | tup ht r=>exact .inr ⟨_,_,rfl,ht,q _ _ _ _ _ x1 m1 trivial (Cb ht r) h1⟩
  | _=>exact (show False from h1).elim
 ·rcases q1 with ⟨a,xs,e,hq,q⟩|⟨a,xs,e,hq,q⟩
  ·subst e
   cases r1;obtain⟨its,rv,p,hz⟩:=I1.list hq;refine wpAny_pyIter_list p.isList ?_;refine⟨s1.heap.objs.size,[s1.heap.objs.size],_,_,H1,rfl,I1.kept (t':=s1.toks) fun b o e=>Heap.get?_push_of_some _ e,Jr a _,⟨_,Heap.get?_push_size _ rfl,rfl,rfl⟩,fun b hb=>?_,q⟩;have e:b=s1.heap.objs.size:=by simpa using hb
   subst e;exact I1.fpOk %[|3] (I1.hok.fresh %[|3])
  ·subst e
   cases r1;obtain⟨its,rv,p,hz⟩:=I1.tuple hq;refine wpAny_pyIter_tuple (show s1.heap.IsTuple a its.toArray from p) ?_;refine⟨s1.heap.objs.size,[s1.heap.objs.size],_,_,H1,rfl,I1.kept (t':=s1.toks) fun b o e=>Heap.get?_push_of_some _ e,Uf a _,⟨_,Heap.get?_push_size _ rfl,rfl,rfl⟩,fun b hb=>?_,q⟩;have e:b=s1.heap.objs.size:=by simpa using hb
   subst e;exact I1.fpOk %[|3] (I1.hok.fresh %[|3])
end
noncomputable def Itr3 (lo c:Int) (n:Nat):It:=⟨fun i _=>i<n,fun i H x H'=>H'=H/\x=.int (lo+i*c),fun i _=>n<=i⟩
theorem VA {P:Program} {w:World} {K:Frag} {tg:Expr} (it:Addr) (lo c:Int) (n:Nat):Turn P w K tg (Itr3 lo c n) [it] it (fun i h=>IsRangeIter h it (lo+(i:Nat)*c) ((n:Int)-(i:Nat)) c) where
 mem:=by simp
 obj:=fun i h st b hb=>by
  have e:b=it:=by simpa using hb
  subst e;exact⟨_,st,fun v z=>by
   have z':Data.fields _=Data.cell v:=z;cases z'⟩
 keep:=fun i h h' st k=>k it (by simp) _ st
 item:=by
  intro X hP hw hK hc i pins s σ H E I hf st hg;subst hP hw hK;obtain⟨f0,f1,f2,f3,f4,f5⟩:=hf it (by simp);have W:=Walks.range (prog:=X.prog) (w:=X.w) (I.ok.hd hc) it lo c n;refine W.item i s _ _ hg st fun v h' tk hv st' kk=>?_;obtain⟨t,rfl⟩:=hv;have I1:L2.Inv X pins σ H {s with heap:=h',toks:=tk}:=I.turned (fun b o hb e=>kk b o (by simpa using hb) e) f0 f1 f3 f4 f5;exact⟨_,rfl,J9 (s:={s with heap:=h',toks:=tk}) (n:="range_iterator") st' rfl rfl (by decide) ⟨.int (lo+i*c),H,I1,⟨t,rfl⟩,⟨rfl,rfl⟩,st',fun b hb=>(hf b hb).1⟩⟩
 done:=by
  intro X hP hw hK hc i pins s σ H E I hf st hg;subst hP hw hK;obtain⟨f0,f1,f2,f3,f4,f5⟩:=hf it (by simp);exact wpAny_pyNext_range_end (I.ok.hd hc) st (by have:n<=i:=hg;omega) fun h' eb=>⟨rfl,I.turned (t':=s.toks) (fun b o hb e=>eb b o hb e) f0 f1 f3 f4 f5⟩
 self:=fun _ _ _ _ _ st h=>wpAny_pyIter_rangeiter st h
noncomputable def rngD (lo c:Int) (n:Nat):List D:=(List.range n).map fun i=>.int (lo+(i:Nat)*c)
noncomputable def rngN (i j c:Int):Nat:=(Builtin.Range.rangeSize i j c).toNat
noncomputable def CV:List D->Mem->(List D->(Mem->Prop)->Mem->Prop)->Prop
 | [.int j],M,R=>(-(2 ^ 62)<=j/\j<2 ^ 62)/\R (rngD 0 1 j.toNat) (fun _=>True) M
 | [.int i,.int j],M,R=>(-(2 ^ 62)<=i/\i<2 ^ 62/\-(2 ^ 62)<=j/\j<2 ^ 62)/\R (rngD i 1 (j-i).toNat) (fun _=>True) M
 | [.int i,.int j,.int c],M,R=>V3 c/\Builtin.Range.small i j c=true/\0<=Builtin.Range.rangeSize i j c/\R (rngD i c (rngN i j c)) (fun _=>True) M
 | _,_,_=>False
noncomputable def YQ (ta:DA):DI:=fun δ M R=>ta δ M fun ds M1=>CV ds M1 R
theorem VX {K:Frag} {H0:Hp} {lo c:Int} {n:Nat}:ItD K H0 (Itr3 lo c n) (rngD lo c n) (fun _=>True):=fun i H M x m k=>by
 have hl:(rngD lo c n).length=n:=by simp[rngD]
 rw[hl];refine⟨fun h=>h,fun h=>h,fun y H' hq2=>?_⟩;obtain⟨e1,e2⟩:=hq2;subst e1 e2;refine⟨.refl _,m,fun d hd=>?_⟩;unfold rngD at hd;rw[List.getElem?_map] at hd;cases q:(List.range n)[i]? with
 | none=>rw [q] at hd;cases hd
 | some j =>
  rw[q] at hd;have hj:j=i:=by
   obtain⟨h1,h2⟩:=List.getElem?_eq_some_iff.mp q
   simpa using h2.symm
  subst hj;cases hd;exact .int _
theorem J7 {K:Frag} {H0:Hp} {lo:Int} {n:Nat}:ItD K H0 (Itr lo n) (rngD lo 1 n) (fun _=>True):=fun i H M x m k=>by
 obtain⟨a,b,c⟩:=VX (K:=K) (H0:=H0) (lo:=lo) (c:=1) (n:=n) i H M x m k;refine⟨a,b,fun y H' ⟨e1,e2⟩=>c y H' ⟨e1,?_⟩⟩;rw[Int.mul_one];exact e2
theorem ZO {K:Frag} {H:Hp} {vs:List V}:∀ {ns:List Int},RelDs K H vs (ns.map D.int)->vs=ns.map V.int
 | [],r=>by cases r;rfl
 | _::_,r=>by cases r with|cons h q=>cases h;exact congrArg _ (ZO q)
section
variable {X:Cx} {rz:Bool} {Xe:DSt->DK} {tg:Expr} {pos:Pos}
theorem Jx {pins:List (Addr×Obj)} {σ:L2.St} {H:Hp} {s:Shared} {R:It->Hp->Prop} {E:Value->Shared->Prop} {lo hi c:Int} {t u v:Tok} {tk:Nat} (I:L2.Inv X pins σ H s) (hs:Builtin.Range.small lo hi c=true) (hn:0<=Builtin.Range.rangeSize lo hi c)
  (q:R (Itr3 lo c (rngN lo hi c)) H):wpAny (model X.prog X.w) X.A (pyIter (.ref s.heap.objs.size)) (PIE X pins σ tg R) E {s with heap:=s.heap.push {cls:=.type "range",data:=.fields #[.int lo t,.int hi u,.int c v]},toks:=tk}:=by
 refine wpAny_pyIter_range (IsRange.new ..) hs ?_;have I1:L2.Inv X pins σ H {s with heap:=s.heap.push {cls:=.type "range",data:=.fields #[.int lo t,.int hi u,.int c v]},toks:=tk}:=I.kept fun b o e=>Heap.get?_push_of_some _ e;refine⟨(s.heap.push {cls:=.type "range",data:=.fields #[.int lo t,.int hi u,.int c v]}).objs.size,[(s.heap.push {cls:=.type "range",data:=.fields #[.int lo t,.int hi u,.int c v]}).objs.size],_,_,H,rfl,
  I1.kept (t':=tk) fun b o e=>Heap.get?_push_of_some _ e,VA _ lo c (rngN lo hi c),?_,fun b hb=>?_,q⟩
 ·have e1:lo+((0:Nat):Int)*c=lo:=by simp
  have e2:((rngN lo hi c:Nat):Int)-((0:Nat):Int)=Builtin.Range.rangeSize lo hi c:=by unfold rngN;omega
  show IsRangeIter _ _ (lo+((0:Nat):Int)*c) (((rngN lo hi c:Nat):Int)-((0:Nat):Int)) c;rw[e1,e2];exact Heap.get?_push_size _ rfl
 ·have e:b=(s.heap.push {cls:=.type "range",data:=.fields #[.int lo t,.int hi u,.int c v]}).objs.size:=by simpa using hb
  subst e;exact I1.fpOk %[|3] (I1.hok.fresh %[|3])
theorem FA {a:Expr} {es:List Expr} {ta:DA} {p:Pos} (hg:Gl X "range") (hm:X.mg "range"=none) (ha:PA X (a::es) (Z4 (X.L rz Xe) ta)) (hs:starEach (a::es) X.env=(false,eval a X.env)::starEach es X.env) (hpl:(backTo pos (starEach es X.env)).any (·.1)=false) :
  PI X tg (.Call (.Name "range" p) (a::es) [] pos) (Zi (X.L rz Xe) (YQ ta)):=by
 rintro pins s σ H R I ⟨δ,M,Rd,rs,rm,t,q⟩;refine Call_ (ZL I hg hm boot_range (PyProof.Rows.callWith_type1 (thn (ha pos pins s σ H (fun vs H1=>(∃ j:Int,vs=[.int j]/\-(2 ^ 62)<=j/\j<2 ^ 62/\R (Itr 0 j.toNat) H1)\/(∃ i j:Int,vs=[.int i,.int j]/\(-(2 ^ 62)<=i/\i<2 ^ 62/\-(2 ^ 62)<=j/\j<2 ^ 62)/\R (Itr i (j-i).toNat) H1) \/
  (∃ i j c:Int,vs=[.int i,.int j,.int c]/\(V3 c/\Builtin.Range.small i j c=true/\0<=Builtin.Range.rangeSize i j c)/\R (Itr3 i c (rngN i j c)) H1)) I ⟨δ,M,_,rs,rm,t,fun ds M1 vs H1 x1 m1 r1 h1=>?_⟩) fun us s1 ⟨vs,H1,I1,r1,q1⟩=>?_) hs hpl))
 ·unfold CV at h1
  split at h1
  ·rename_i j;cases ZO (ns:=[j]) r1;exact .inl ⟨_,rfl,h1.1.1,h1.1.2,q _ _ _ _ _ x1 m1 trivial J7 h1.2⟩
  ·rename_i i j;cases ZO (ns:=[i,j]) r1;exact .inr (.inl ⟨_,_,rfl,h1.1,q _ _ _ _ _ x1 m1 trivial J7 h1.2⟩)
  ·rename_i i j c;cases ZO (ns:=[i,j,c]) r1;exact .inr (.inr ⟨_,_,_,rfl,⟨h1.1,h1.2.1,h1.2.2.1⟩,q _ _ _ _ _ x1 m1 trivial VX h1.2.2.2⟩)
  ·exact h1.elim
 ·rcases q1 with ⟨j,e,q1,q2,q⟩|⟨i,j,e,⟨q1,q2,q3,q4⟩,q⟩|⟨i,j,c,e,⟨q1,q2,q3⟩,q⟩
  ·subst e
   cases r1 with
   | cons r rr =>
    cases rr;obtain⟨t,rfl⟩:=r;exact call_range_1 (VL I1 (by omega) (by omega) q1 q2 (by simpa using q))
  ·subst e
   cases r1 with
   | cons r rr =>
    cases rr with
    | cons r' rr =>
     cases rr;obtain⟨t,rfl⟩:=r;obtain⟨t',rfl⟩:=r';exact call_range_2 (VL I1 q1 q2 q3 q4 q)
  ·subst e
   cases r1 with
   | cons r rr =>
    cases rr with
    | cons r' rr =>
     cases rr with
     | cons r'' rr =>
      cases rr;obtain⟨t,rfl⟩:=r;obtain⟨t',rfl⟩:=r';obtain⟨t'',rfl⟩:=r'';exact call_range_3 q1.1 (Jx I1 q2 q3 q) (.inl (PyProof.noPylong_of_log2 q1.2))
end
section
variable {prog:Program} {w:World} {A:Around} {E:Value->Shared->Prop}
end
section
variable {X:Cx} {rz:Bool} {Xe:DSt->DK} {es:List Expr} {gs:DGs} {pos:Pos}
end
end DL
end
noncomputable section
namespace DL
open PySem PySem.Spec PyProof.Rows L2
noncomputable def clos (cells:List (Str×Addr)):List (Str×NameKind)->List (Str×Addr)->List (Str×Addr)
 | [],cs=>cs
 | (n,k)::r,cs=>if (k==.free)=true then clos cells r ((n,(cells.lookup n).getD 0)::cs) else clos cells r cs
theorem XS {scope:Scope} {env:Env} (h:∀ x∈scope.names,x.2=.free->∃ c,env.cells.lookup x.1=some c):closureFor scope env=pure (clos env.cells scope.names []):=by
 simp only[closureFor];generalize ([]:List (Str×Addr))=cs;generalize scope.names=names at h;have key:∀ (names:List (Str×NameKind)) (cs:List (Str×Addr)),(∀ x∈names,x.2=.free->∃ c,env.cells.lookup x.1=some c) ->
   (forIn names cs fun x r=>(if (x.2==NameKind.free)=true then do let a <- cellOf env x.1;pure (ForInStep.yield ((x.1,a)::r)) else pure (ForInStep.yield r)):Sem (List (Str×Addr)))=pure (clos env.cells names cs):=by
  intro names
  induction names with
  | nil=>intro cs _;rfl
  | cons x l ih =>
   intro cs h;obtain⟨n,k⟩:=x;rw[List.forIn_cons];by_cases hk:(k==NameKind.free)=true
   ·obtain⟨c,hc⟩:=h (n,k) List.mem_cons_self (by simpa using hk)
    have hcell:cellOf env n=pure c:=by unfold cellOf;rw[hc]
    rw[if_pos hk,hcell];simp only[pure_bind];rw[ih _ fun y hy=>h y (List.mem_cons_of_mem _ hy)];have:clos env.cells ((n,k)::l) cs=clos env.cells l ((n,c)::cs):=by
     conv=>lhs;unfold clos
     rw[if_pos hk,hc];rfl
    rw[this]
   ·rw[if_neg hk]
    simp only[pure_bind];rw[ih _ fun y hy=>h y (List.mem_cons_of_mem _ hy)]
    conv=>rhs;unfold clos
    rw[if_neg hk]
 have:=key names cs h
 first
  | exact (by simpa using this)
  | (rw [<- this];rfl)
theorem Wn {cells:List (Str×Addr)}:∀ {names:List (Str×NameKind)} {cs:List (Str×Addr)},(∀ x∈names,x.2=.free->∃ c,cells.lookup x.1=some c)->(∀ x c,cs.lookup x=some c->cells.lookup x=some c) ->
  ∀ x c,(clos cells names cs).lookup x=some c->cells.lookup x=some c
 | [],_,_,h,x,c,e=>h x c e
 | (n,k)::r,cs,hn,h,x,c,e=>by
  unfold clos at e;by_cases hk:(k==NameKind.free)=true
  ·rw[if_pos hk] at e
   obtain⟨c0,hc0⟩:=hn (n,k) List.mem_cons_self (by simpa using hk);refine Wn (fun y hy=>hn y (List.mem_cons_of_mem _ hy)) (fun y d q=>?_) x c e;rw[List.lookup_cons] at q;cases hy:y==n with
   | true=>rw [hy] at q;rw[eq_of_beq hy,hc0];rw[hc0] at q;exact q
   | false=>rw [hy] at q;exact h y d q
  ·rw[if_neg hk] at e
   exact Wn (fun y hy=>hn y (List.mem_cons_of_mem _ hy)) h x c e
theorem Xn {cells:List (Str×Addr)}:∀ {names:List (Str×NameKind)} {cs:List (Str×Addr)} {x:Str},((∃ c,cs.lookup x=some c)\/(x,NameKind.free)∈names)->∃ c,(clos cells names cs).lookup x=some c
 | [],_,_,h=>by
  rcases h with h|h
  ·exact h
  ·cases h
 | (n,k)::r,cs,x,h=>by
  unfold clos;by_cases hk:(k==NameKind.free)=true
  ·rw[if_pos hk]
   refine Xn ?_;cases hx:x==n with
   | true=>exact .inl ⟨_,by rw[List.lookup_cons,hx]⟩
   | false =>
    rcases h with ⟨c,h⟩|h
    ·exact .inl ⟨c,by rw[List.lookup_cons,hx];exact h⟩
    ·rcases List.mem_cons.mp h with h|h
     ·cases h;simp at hx
     ·exact .inr h
  ·rw[if_neg hk]
   refine Xn ?_;rcases h with h|h
   ·exact .inl h
   ·rcases List.mem_cons.mp h with h|h
    ·cases h;simp at hk
    ·exact .inr h
theorem YE {env:Env}:∀ {names:List (Str×NameKind)} {x:Str} {k:NameKind},
  (names.map fun (n,k)=>if (k==NameKind.free&&env.scope.kind==.function&&env.kindOf n==some .cell) then (n,NameKind.cell) else (n,k)).lookup x=some k ->
  ∃ k',names.lookup x=some k'/\(k=k'\/(k'=.free/\k=.cell))
 | [],_,_,h=>by simp at h
 | (n,k0)::r,x,k,h=>by
  have ih:=@YE env r x k;simp only[List.map_cons] at h;by_cases hc:(k0==NameKind.free&&env.scope.kind==.function&&env.kindOf n==some .cell)=true
  ·rw[if_pos hc] at h
   rw[List.lookup_cons] at h ⊢;cases hx:x==n with
   | true =>
    simp only[hx] at h;cases h;simp only[Bool.and_eq_true,beq_iff_eq] at hc;exact⟨k0,rfl,.inr ⟨hc.1.1,rfl⟩⟩
   | false=>simp only[hx] at h;exact ih h
  ·rw[if_neg hc] at h
   rw[List.lookup_cons] at h ⊢;cases hx:x==n with
   | true=>simp only[hx] at h;cases h;exact⟨k0,rfl,.inl rfl⟩
   | false=>simp only[hx] at h;exact ih h
structure BlkOk (N:List Str) (env:Env) (N':List Str) (scope:Scope):Prop where
 kind:scope.kind=.function
 cell:∀ y∈scope.names,y.2≠.cell
 names:∀ y∈scope.names,y.2=.local->scope.names.lookup y.1=some .local
 free:∀ y∈scope.names,y.2=.free->env.kindOf y.1=some .cell\/env.kindOf y.1=some .free
 agree:∀ i x,i<N.length->N'[i]?=some x->∀ k,scope.names.lookup x=some k->k=.globalImplicit\/k=.globalExplicit\/(k=.free/\N[i]?=some x)
 long:N.length<=N'.length
noncomputable def Yj (X:Cx) (N':List Str) (scope:Scope) (cl:List (Str×Addr)) (C:Addr) (s:Shared) (H:Hp) (ex:List Addr) (pn:List (Addr×Obj)):Cx :=
 {X with N:=N',s₀:=s,H₀:=H,env:=compEnvC scope cl C X.env,outer:=X.stack,stack:=X.stack,ex:=ex,fn:=fun _=>false,pn:=pn,xe:=fun _ _=>False}
section
variable {X:Cx} {rz:Bool} {Xe:DSt->DK} {pins:List (Addr×Obj)} {σ:L2.St} {H:Hp} {s:Shared} {N':List Str} {scope:Scope} {fp:List Addr}
theorem A3 {tk:Nat} {h1:Heap} (I:L2.Inv X pins σ H s) (B:BlkOk X.N X.env N' scope) (hf:∀ b∈fp,FpOk X pins H b) (hflt:∀ b∈fp,b<s.heap.objs.size)
  (hns:h1.Ns s.heap.objs.size (fun x=>([]:List (Str×Value)).reverse.lookup x)) (hk:∀ b o,s.heap.get? b=some o->h1.get? b=some o) :
  L2.Inv (Yj X N' scope (clos X.env.cells scope.names []) s.heap.objs.size s H fp []) [] (σ++List.replicate (N'.length-X.N.length) none) H {s with heap:=h1,toks:=tk}:=by
 have hcells:∀ x∈scope.names,x.2=.free->∃ c,X.env.cells.lookup x.1=some c:=fun x hx e=>I.ok.has x.1 (B.free x hx e);have csub:=Wn (cells:=X.env.cells) (names:=scope.names) (cs:=[]) hcells (fun x c e=>by simp at e);have noC:∀ x c,X.env.cells.lookup x=some c->c<s.heap.objs.size:=fun x c e=>by obtain⟨v,q⟩:=I.cell x c e;exact q.lt
 refine⟨⟨I.ok.mod,?_,I.ok.glob,I.ok.blt,Nat.le_refl _,fun x y c e1 e2=>I.ok.inj x y c (csub x c e1) (csub y c e2),fun x hx=>?_,fun x c e=>(by cases e),I.ok.hd,I.ok.frames,.inl rfl,fun b hb=>⟨Nat.ne_of_lt (hflt b hb),fun x c e=>(hf b hb).2.2.2.2.1 x c (csub x c e)⟩,
  I.bs,Nat.le_trans I.ok.bsz I.sz,fun b o e hb=>?_,fun b hb z=>?_,I.stack,I.stkFree⟩,rfl,I.bare,Un.kept hk,⟨_,hns,fun i x v e1 e2 e3=>?_⟩,fun x c e=>?_,I.hok.fresh %[|3],fun x c e=>I.freeC x c (csub x c e),fun p hp=>absurd (show p∈([]:List (Addr×Obj)) from hp) (by simp),I.hok.kept hk,?_⟩
 ·show (relabel scope X.env).kind=.function
  exact B.kind
 ·
  have hx':(relabel scope X.env).names.lookup x=some .cell\/(relabel scope X.env).names.lookup x=some .free:=hx;have fin:(x,NameKind.free)∈scope.names->∃ c,(clos X.env.cells scope.names []).lookup x=some c:=fun z=>Xn (.inr z);rcases hx' with z|z
  ·obtain⟨k',e1,e2⟩:=YE z
   have hm:=PySem.mem_of_lookup e1;rcases e2 with e2|⟨e2,_⟩
   ·subst e2;exact absurd rfl (B.cell _ hm)
   ·subst e2;exact fin hm
  ·obtain⟨k',e1,e2⟩:=YE z
   have hm:=PySem.mem_of_lookup e1;rcases e2 with e2|⟨_,e2⟩
   ·subst e2;exact fin hm
   ·cases e2
 ·
  obtain⟨_,_,_,z,_⟩:=hf b hb;rcases z with z|z
  ·exact I.ok.noex b o e z
  ·exact absurd (Nat.lt_of_lt_of_le (Heap.lt_size e) I.ok.bsz) (Nat.not_lt.mpr z)
 ·obtain⟨_,z1,z2,_⟩:=hf b hb
  rcases List.mem_cons.mp (I.stkSub b z) with q|q
  ·exact z1 q
  ·exact z2 q
 ·
  have e3':(relabel scope X.env).names.lookup x=some .local\/(relabel scope X.env).names.lookup x=some .cell\/(relabel scope X.env).names.lookup x=some .free:=e3;have hi:i < σ.length:=by
   by_cases hi:i < σ.length
   ·exact hi
   ·rw[List.getElem?_append_right (by omega),List.getElem?_replicate] at e2
    split at e2<;>cases e2
  rw[List.getElem?_append_left hi] at e2;have hiN:i<X.N.length:=by rw[<- I.len];exact hi
  obtain⟨k',q1,q2⟩:∃ k',scope.names.lookup x=some k'/\(k'=.local\/k'=.cell\/k'=.free):=by
   rcases e3' with z|z|z
   all_goals
    obtain⟨k',e1,e2⟩:=YE z;rcases e2 with e2|⟨e2,e4⟩
    ·exact⟨k',e1,by rw[<- e2];simp⟩
    ·exact⟨k',e1,by rw[e2];simp⟩
  obtain⟨hfree,hN⟩:k'=.free/\X.N[i]?=some x:=by
   rcases B.agree i x hiN e1 k' q1 with z|z|z
   ·subst z;simp at q2
   ·subst z;simp at q2
   ·exact z
  subst hfree;have hout:=B.free (x,.free) (PySem.mem_of_lookup q1) rfl;obtain⟨m,hn,hl⟩:=I.loc;have vis:Vis X.env.scope x:=by rcases hout with z|z;exact .inr (.inl z);exact .inr (.inr z)
  obtain⟨u,r,l⟩:=hl i x v hN e2 vis;refine⟨u,r,?_⟩;rcases l with ⟨hkk,_⟩|⟨_,c,hc,hcell⟩
  ·exfalso
   rcases hout with z|z
   ·rw[show X.env.kindOf x=some .cell from z] at hkk;cases hkk
   ·rw[show X.env.kindOf x=some .free from z] at hkk;cases hkk
  ·obtain⟨c',hc'⟩:=Xn (cells:=X.env.cells) (names:=scope.names) (cs:=[]) (.inr (PySem.mem_of_lookup q1))
   have:=csub x c' hc';rw[hc] at this;cases this;refine .inr ⟨?_,c,hc',(let ⟨o,e1,e2⟩:=hcell;⟨o,hk _ o e1,e2⟩)⟩;rcases e3' with z|z|z
   ·obtain⟨k',e1,e2⟩:=YE z
    rw[q1] at e1;cases e1;rcases e2 with e2|⟨_,e2⟩<;>cases e2
   ·exact .inl z
   ·exact .inr z
 ·obtain⟨v,q⟩:=I.cell x c (csub x c e)
  exact⟨v,let ⟨o,e1,e2⟩:=q;⟨o,hk _ o e1,e2⟩⟩
 ·show (σ++List.replicate (N'.length-X.N.length) none).length=N'.length
  rw[List.length_append,List.length_replicate,I.len];have:=B.long;omega
noncomputable def Z0 (g:DG) (te:DE) (keep:Mem->Prop) (p:Addr):List D->List D->DSt->Mem->(Mem->Prop)->Prop
 | [],_,_,M,Q=>Q M
 | x::xs,acc,δ,M,Q=>g x δ M fun δ1 M1=>te δ1 M1 fun d M2=>M2 p=some (.ls acc)/\acc.length<sizeLine/\keep (M2.upd p (.ls (acc++[d])))/\Z0 g te keep p xs (acc++[d]) δ1 (M2.upd p (.ls (acc++[d]))) Q
noncomputable def YR (n:Nat) (ti:DI) (g:DG) (te:DE):DE:=fun δ M Q=>ti δ M fun items keep M1=>∀ p,M1 p=none ->
 keep (M1.upd p (.ls []))/\Z0 g te keep p items [] (δ++List.replicate n none) (M1.upd p (.ls [])) fun M2=>(∃ ds,M2 p=some (.ls ds))/\Q (.lst p) M2
theorem Slots.more {K:Frag} {H:Hp} {δ:DSt} {σ:L2.St} (r:Slots K H δ σ) (n:Nat):Slots K H (δ++List.replicate n none) (σ++List.replicate n none):=by
 refine⟨by simp[r.len],fun i d e=>?_⟩;by_cases hi:i < δ.length
 ·rw[List.getElem?_append_left hi] at e
  obtain⟨v,h1,h2⟩:=r.slot i d e;exact⟨v,by rw[List.getElem?_append_left (by rw[<- r.len];exact hi)];exact h1,h2⟩
 ·rw[List.getElem?_append_right (by omega),List.getElem?_replicate] at e
  split at e<;>cases e
end
end DL
end
noncomputable section
namespace DL
open PySem PySem.Spec PyProof.Rows L2
abbrev DB:=DSt->Mem->(DSt->Mem->Prop)->Prop
abbrev BW:=Program->World->Around->(Shared->Prop)->Shared->Prop
noncomputable def Il (Λ:LK) (b:DB) (σ:L2.St) (H:Hp) (Q:L2.St->Hp->Prop):Prop:=∃ δ M R,RepS Λ H δ σ/\RepM Λ.K H M/\b δ M R/\∀ δ' M' σ' H',HExt Λ.K H H'->RepS Λ H' δ' σ'->RepM Λ.K H' M'->R δ' M'->Q σ' H'
noncomputable def PB (Y:Cx) (W:BW) (b:DB):Prop:=∀ (pins:List (Addr×Obj)) (s:Shared) (σ:L2.St) (H:Hp) (Q:L2.St->Hp->Prop),L2.Inv Y pins σ H s->Il (Y.L false X0) b σ H Q ->
 W Y.prog Y.w Y.A (fun s'=>∃ σ' H',L2.Inv Y pins σ' H' s'/\Q σ' H') s
noncomputable def ZY (g:DG) (b:DB) (keep:Mem->Prop):List D->DB
 | []=>fun δ M Q=>Q δ M
 | x::xs=>fun δ M Q=>g x δ M fun δ1 M1=>b δ1 M1 fun δ2 M2=>keep M2/\ZY g b keep xs δ2 M2 Q
noncomputable def XL (te:DE) (p:Addr):DB:=fun δ M Q=>te δ M fun d M2=>∃ acc,M2 p=some (.ls acc)/\acc.length<sizeLine/\Q δ (M2.upd p (.ls (acc++[d])))
noncomputable def bIf (tt:DT) (b:Addr->DB) (p:Addr):DB:=fun δ M Q=>tt δ M fun k M1=>if k=true then b p δ M1 Q else Q δ M1
noncomputable def X4 (n:Nat) (ti:DI) (g:DG) (b:Addr->DB):DE:=fun δ M Q=>ti δ M fun items keep M1=>∀ p,M1 p=none ->
 keep (M1.upd p (.ls []))/\ZY g (b p) keep items (δ++List.replicate n none) (M1.upd p (.ls [])) fun _ M2=>(∃ ds,M2 p=some (.ls ds))/\Q (.lst p) M2
noncomputable def Xi (elt:Expr) (acc:Value) (env:Env):BW:=fun prog w A Q s=>wpAny (model prog w) A (eval elt env) (fun x s1=>wpAny (model prog w) A (call (.builtin "list.append") [acc,x]) (fun _ s2=>Q s2) (fun _ _=>False) s1) (fun _ _=>False) s
noncomputable def ifW (c:Expr) (env:Env) (b:BW):BW:=fun prog w A Q s=>wpAny (model prog w) A (isTrue c env (eval c env)) (fun ok s1=>if ok=true then b prog w A Q s1 else Q s1) (fun _ _=>False) s
noncomputable def X5 (e target:Expr) (d:Nat) (it acc:Value) (env:Env) (body:BW):Prop:=∀ {prog:Program} {w:World} {A:Around} {R:Fin->Shared->Prop} {s:Shared},
 wpAny (model prog w) A (pyNext it) (fun r s₁=>match r with
   | none=>R (.done .next) s₁
   | some v=>wpAny (model prog w) A (letOwnedTupleGo target it v) (fun _ s₂=>wpAny (model prog w) A (assign target env v) (fun _ s₃=>body prog w A (fun s₄=>R (.again (.compLoop e d it acc env)) s₄) s₃) (fun _ _=>False) s₂) (fun _ _=>False) s₁) (fun _ _=>False) s ->
 wpAny (model prog w) A (compTurn e d it acc env) R (fun _ _=>False) s
theorem UR {elt target iter c:Expr} {scope:Scope} {pos:Pos} {it acc:Value} {env:Env}:X5 (.ListComp elt [⟨target,iter,[c],0⟩] scope pos) target 0 it acc env (ifW c env (Xi elt acc env)):=by
 intro prog w A R s h;rw[compTurn_list];refine wpAny_bind (wpAny_standAt (wpAny_bind (wpAny_mono h (fun r s₁ h₁=>?_) fun _ _ h'=>h'.elim)));cases r with
 | none=>exact wpAny_pure h₁
 | some v =>
  refine wpAny_bind (wpAny_mono h₁ (fun _ s₂ h₂=>?_) fun _ _ h'=>h'.elim);refine wpAny_bind (wpAny_mono h₂ (fun _ s₃ h₃=>?_) fun _ _ h'=>h'.elim);refine wpAny_bind (wpAny_tests_one (wpAny_mono h₃ (fun ok s₄ h₄=>?_) fun _ _ h'=>h'.elim));cases ok with
  | false=>exact wpAny_pure h₄
  | true=>exact wpAny_bind (wpAny_bind (wpAny_mono h₄ (fun x s₅ h₅=>wpAny_bind (wpAny_mono h₅ (fun _ s₆ h₆=>wpAny_pure (wpAny_pure h₆)) fun _ _ h'=>h'.elim)) fun _ _ h'=>h'.elim))
theorem AJ {prog:Program} {w:World} {A:Around} {R:Result->Shared->Prop} {s:Shared} {elt target:Expr} {gs:List Comprehension} {scope:Scope} {pos:Pos} {d:Nat} {it acc:Value} {env:Env} {body:BW}
  (ht:X5 (.ListComp elt gs scope pos) target d it acc env body) (I:Nat->Shared->Prop)
  (turn:∀ n s,I n s->wpAny (model prog w) A (pyNext it) (fun r s₁=>match r with
   | none=>R (.ok .next) s₁
   | some v=>wpAny (model prog w) A (letOwnedTupleGo target it v) (fun _ s₂=>wpAny (model prog w) A (assign target env v) (fun _ s₃=>body prog w A (fun s₄=>∃ m,m<n/\I m s₄) s₃) (fun _ _=>False) s₂) (fun _ _=>False) s₁) (fun _ _=>False) s)
  (mono:∀ (A:Around) (Q Q':Shared->Prop) s,(∀ s',Q s'->Q' s')->body prog w A Q s->body prog w A Q' s)
  (n:Nat) (h:I n s):codeAny (model prog w) A (.compLoop (.ListComp elt gs scope pos) d it acc env) R s:=by
 refine codeAny_loop rfl I (fun n s hI=>?_) n h;show wpAny _ _ ((compTurn (.ListComp elt gs scope pos) d it acc env).onRaise (fun x=>do noteFrame x env;theTreesLotGoes x)) _ _ s;refine wpAny_noted (wpAny_mono (ht (R:=fun fin s'=>match fin with | .done f=>R (.ok f) s' | .again c'=>c'=.compLoop (.ListComp elt gs scope pos) d it acc env/\∃ m,m<n/\I m s') (wpAny_mono (turn n s hI) (fun r s₁ h₁=>?_) fun _ _ h'=>h'.elim)) (fun _ _ q=>q) fun _ _ h'=>h'.elim);cases r with
 | none=>exact h₁
 | some v=>exact wpAny_mono h₁ (fun _ s₂ h₂=>wpAny_mono h₂ (fun _ s₃ h₃=>mono _ _ _ _ (fun s' q=>⟨rfl,q⟩) h₃) fun _ _ h'=>h'.elim) fun _ _ h'=>h'.elim
theorem Zz {elt:Expr} {acc:Value} {env:Env} {prog:Program} {w:World} (A:Around) (Q Q':Shared->Prop) (s) (hq:∀ s',Q s'->Q' s') (h:Xi elt acc env prog w A Q s):Xi elt acc env prog w A Q' s :=
 wpAny_mono h (fun _ _ h1=>wpAny_mono h1 (fun _ _ h2=>hq _ h2) fun _ _ h'=>h') fun _ _ h'=>h'
theorem VY {c:Expr} {env:Env} {b:BW} {prog:Program} {w:World} (hb:∀ (A:Around) (Q Q':Shared->Prop) s,(∀ s',Q s'->Q' s')->b prog w A Q s->b prog w A Q' s) (A:Around) (Q Q':Shared->Prop) (s) (hq:∀ s',Q s'->Q' s') (h:ifW c env b prog w A Q s):ifW c env b prog w A Q' s :=
 wpAny_mono h (fun k s1 h1=>by
  cases k with
  | true=>exact hb _ _ _ _ hq h1
  | false=>exact hq _ h1) fun _ _ h'=>h'
theorem VB {elt target iter:Expr} {scope:Scope} {pos:Pos} {it acc:Value} {env:Env}:X5 (.ListComp elt [⟨target,iter,[],0⟩] scope pos) target 0 it acc env (Xi elt acc env):=by
 intro prog w A R s h;rw[compTurn_list1];refine wpAny_bind (wpAny_standAt (wpAny_bind (wpAny_mono h (fun r s₁ h₁=>?_) fun _ _ h'=>h'.elim)));cases r with
 | none=>exact wpAny_pure h₁
 | some v =>
  refine wpAny_bind (wpAny_mono h₁ (fun _ s₂ h₂=>?_) fun _ _ h'=>h'.elim);exact wpAny_bind (wpAny_mono h₂ (fun _ s₃ h₃=>wpAny_bind (wpAny_bind (wpAny_mono h₃ (fun x s₅ h₅=>wpAny_bind (wpAny_mono h₅ (fun _ s₆ h₆=>wpAny_pure (wpAny_pure h₆)) fun _ _ h'=>h'.elim)) fun _ _ h'=>h'.elim))) fun _ _ h'=>h'.elim)
noncomputable def gUp (g:DG):DG:=fun x δ M Q=>∃ R,g x δ M R/\∀ δ1 M1,R δ1 M1->Q δ1 M1
noncomputable def iUp (ti:DI):DI:=fun δ M R=>∃ R0,ti δ M R0/\∀ items keep M1,R0 items keep M1->R items keep M1
noncomputable def eUp (te:DE):DE:=fun δ M Q=>∃ R,te δ M R/\∀ d M1,R d M1->Q d M1
theorem WV {g:DG} {te:DE} {keep:Mem->Prop} {p:Addr} {Q:Mem->Prop}:∀ {items acc:List D} {δ:DSt} {M:Mem},Z0 g te keep p items acc δ M Q->ZY (gUp g) (XL (eUp te) p) keep items δ M fun _ M2=>Q M2
 | [],_,_,_,h=>h
 | x::xs,acc,δ,M,h=>⟨_,h,fun δ1 M1 h1=>⟨_,h1,fun d M2 h2=>⟨acc,h2.1,h2.2.1,h2.2.2.1,WV h2.2.2.2⟩⟩⟩
theorem Ub {n:Nat} {ti:DI} {g:DG} {te:DE} {δ:DSt} {M:Mem} {Q:DK} (h:YR n ti g te δ M Q):X4 n (iUp ti) (gUp g) (XL (eUp te)) δ M Q :=
 ⟨_,h,fun items keep M1 h1 p hp=>⟨(h1 p hp).1,WV (h1 p hp).2⟩⟩
theorem AK {Y:Cx} {pins:List (Addr×Obj)} {s:Shared} {σ:L2.St} {H:Hp} {elt target:Expr} {gs:List Comprehension} {scope:Scope} {pos:Pos} {d:Nat} {acc:Value} {W:BW} {g:DG} {b:DB} {items:List D} {keep:Mem->Prop} {J:It} {fp:List Addr} {it:Addr} {tn:Nat->Heap->Prop}
  {δ:DSt} {M:Mem} {R:DSt->Mem->Prop} {Rr:Result->Shared->Prop} {H0:Hp} (hc:Y.calm=true) (hx:Y.xe=fun _ _=>False)
  (ht:X5 (.ListComp elt gs scope pos) target d (.ref it) acc Y.env W) (mono:∀ (A:Around) (Q Q':Shared->Prop) s,(∀ s',Q s'->Q' s')->W Y.prog Y.w A Q s->W Y.prog Y.w A Q' s)
  (T:Turn Y.prog Y.w Y.K target J fp it tn) (itd:ItD Y.K H0 J items keep) (hg:PG Y target (YY (Y.L false X0) g)) (hb:PB Y W b)
  (I:L2.Inv Y pins σ H s) (hf:∀ b∈fp,FpOk Y pins H b) (st:tn 0 s.heap) (x0:HExt Y.K H0 H) (rs:Slots Y.K H δ σ) (rm:RepM Y.K H M) (k:keep M) (h:ZY g b keep items δ M R)
  (fin:∀ s' σ' H' δ' M',L2.Inv Y pins σ' H' s'->HExt Y.K H H'->Slots Y.K H' δ' σ'->RepM Y.K H' M'->R δ' M'->Rr (.ok .next) s') :
  codeAny (model Y.prog Y.w) Y.A (.compLoop (.ListComp elt gs scope pos) d (.ref it) acc Y.env) Rr s:=by
 have stat:∀ {H':Hp},(∀ b∈fp,H' b=none)->∀ b∈fp,FpOk Y pins H' b:=fun hn b hb=>⟨hn b hb,(hf b hb).2⟩;refine AJ ht (fun n s'=>∃ i σ' H' δ' M',L2.Inv Y pins σ' H' s'/\tn i s'.heap/\(∀ b∈fp,H' b=none)/\n=items.length-i/\i<=items.length/\HExt Y.K H H'/\Slots Y.K H' δ' σ'/\RepM Y.K H' M'/\keep M'/\ZY g b keep (items.drop i) δ' M' R) ?_ mono items.length
  ⟨0,σ,H,δ,M,I,st,fun b hbb=>(hf b hbb).1,rfl,Nat.zero_le _,.refl _,rs,rm,k,h⟩
 rintro n s5 ⟨i,σ5,H5,δ5,M5,I5,st5,fr5,rfl,hi5,x5,rs5,m5,k5,h5⟩;obtain⟨i1,i2,i3⟩:=itd i H5 M5 (x0.trans x5) m5 k5;by_cases hl:i<items.length
 ·rw[List.drop_eq_getElem_cons hl] at h5
  refine thn (T.item Y rfl rfl rfl hc i pins s5 σ5 H5 _ I5 (stat fr5) st5 (i1 hl)) fun r s6 hq2=>?_;obtain⟨u,hr,h6⟩:=hq2;subst hr;refine thn h6 fun _ s7 hq2=>?_;obtain⟨x,H7,I7,r7,y7,st7,fr7⟩:=hq2;obtain⟨x7,m7,r7'⟩:=i3 x H7 y7;have I7':=I7.pinned (stat fr7) (T.obj _ _ st7);have h8:=hg _ s7 σ5 H7 x u (fun σ8 H8=>∃ δ8 M8,HExt Y.K H7 H8/\Slots Y.K H8 δ8 σ8/\RepM Y.K H8 M8/\b δ8 M8 fun δ2 M2=>keep M2/\ZY g b keep (items.drop (i+1)) δ2 M2 R) I7' r7
   ⟨items[i],δ5,M5,_,r7' _ (by simp[hl]),⟨rs5.ext x7,A7⟩,m7,h5,fun δ8 M8 σ8 H8 x8 rs8 m8 h8=>⟨δ8,M8,x8,rs8.toSlots,m8,h8⟩⟩
  rw[hx] at h8;refine thn h8 fun _ s8 hq2=>?_;obtain⟨σ8,H8,I8,δ8,M8,x8,rs8,m8,h8⟩:=hq2;refine mono _ _ _ _ ?_ (hb _ s8 σ8 H8 (fun σ9 H9=>∃ δ9 M9,HExt Y.K H8 H9/\Slots Y.K H9 δ9 σ9/\RepM Y.K H9 M9/\keep M9/\ZY g b keep (items.drop (i+1)) δ9 M9 R) I8 ⟨δ8,M8,_,⟨rs8,A7⟩,m8,h8,fun δ9 M9 σ9 H9 x9 rs9 m9 h9=>⟨δ9,M9,x9,rs9.toSlots,m9,h9⟩⟩);rintro s9 ⟨σ9,H9,I9,δ9,M9,x9,rs9,m9,k9,h9⟩;refine⟨items.length-(i+1),by omega,i+1,σ9,H9,δ9,M9,I9.unpinned,T.keep _ _ _ st7 fun b hbb o e=>(I9.pin (b,o) (List.mem_append_right _ (List.mem_append_right _ (Zb hbb e)))).1,fun b hbb=>?_,rfl,hl,(((x5.trans x7).trans x8).trans x9),rs9,m9,k9,h9⟩;obtain⟨o,e,d'⟩:=T.obj _ _ st7 b hbb;exact (I9.pin (b,o) (List.mem_append_right _ (List.mem_append_right _ (Zb hbb e)))).2.1
 ·have e:i=items.length:=by omega
  subst e;rw[List.drop_length] at h5;refine thn (T.done Y rfl rfl rfl hc _ pins s5 σ5 H5 _ I5 (stat fr5) st5 (i2 %[|3])) fun r s6 hq2=>?_;obtain⟨hr,I6⟩:=hq2;subst hr;exact fin s6 σ5 H5 δ5 M5 I6 x5 rs5 m5 h5
theorem XU {Y:Cx} {elt:Expr} {te:DE} {p:Addr} (hx:Y.xe=fun _ _=>False) (he:PE Y elt (lift (Y.L false X0) te)):PB Y (Xi elt (.ref p) Y.env) (XL te p):=by
 rintro pins s σ H Q I ⟨δ,M,R,rs,rm,h,q⟩;have h8:=he pins s σ H (fun v H9=>∃ d M9,HExt Y.K H H9/\RepM Y.K H9 M9/\RelD Y.K H9 v d/\∃ acc,M9 p=some (.ls acc)/\acc.length<sizeLine/\R δ (M9.upd p (.ls (acc++[d])))) I
  ⟨δ,M,_,rs,rm,h,fun d M9 v H9 x9 m9 r9 h9=>⟨d,M9,x9,m9,r9,h9⟩⟩
 rw[hx] at h8;refine thn h8 fun y s9 hq2=>?_;obtain⟨v,H9,I9,r9,d,M9,x9,m9,rd9,acc,a9,z9,h9⟩:=hq2;obtain⟨vs,ev,rv⟩:=m9 _ _ a9;have xw:HExt Y.K H9 (upd H9 p (.lst (vs++[v]))):=.upd (.inr ⟨_,ev,trivial⟩);have h10:=WE pins s9 σ H9 (.ref p) [v] (.ref p) [y] (fun _ H10=>H10=upd H9 p (.lst (vs++[v]))) I9 rfl (.cons r9 .nil) ⟨_,vs,v,rfl,rfl,ev,by rw[rv.length];exact z9,rfl⟩;rw[hx] at h10;refine thn h10 fun _ s10 hq2=>?_;obtain⟨_,H10,I10,_,e10⟩:=hq2;subst e10;exact⟨σ,_,I10,q _ _ _ _ (x9.trans xw) (rs.ext (x9.trans xw)) (m9.write ev (rv.append (.cons rd9 .nil))) h9⟩
theorem CN {Y:Cx} {c:Expr} {W:BW} {tt:DT} {b:Addr->DB} {p:Addr} (hx:Y.xe=fun _ _=>False) (hc:PT Y c (YO (Y.L false X0) tt)) (hb:PB Y W (b p)):PB Y (ifW c Y.env W) (bIf tt b p):=by
 rintro pins s σ H Q I ⟨δ,M,R,rs,rm,h,q⟩;have h8:=hc pins s σ H (fun k H9=>∃ M9,HExt Y.K H H9/\RepM Y.K H9 M9/\if k=true then b p δ M9 R else R δ M9) I ⟨δ,M,_,rs,rm,h,fun k M9 H9 x9 m9 h9=>⟨M9,x9,m9,h9⟩⟩;rw[hx] at h8;refine thn h8 fun k s9 hq2=>?_;obtain⟨H9,I9,M9,x9,m9,h9⟩:=hq2;cases k with
 | true=>exact hb pins s9 σ H9 Q I9 ⟨δ,M9,R,rs.ext x9,m9,h9,fun δ' M' σ' H' x=>q δ' M' σ' H' (x9.trans x)⟩
 | false=>exact⟨σ,H9,I9,q _ _ _ _ x9 (rs.ext x9) m9 h9⟩
section
variable {X:Cx} {rz:Bool} {Xe:DSt->DK} {N':List Str} {scope:Scope} {elt target iter:Expr} {ifs:List Expr} {rest:List Comprehension} {pos:Pos} {ti:DI} {g:DG} {b:Addr->DB}
theorem WW (hc:X.calm=true) (B:BlkOk X.N X.env N' scope) (hi:PI X target iter (Zi (X.L rz Xe) ti))
  (W:Addr->Env->BW) (mono:∀ p env (A:Around) (Q Q':Shared->Prop) s,(∀ s',Q s'->Q' s')->W p env X.prog X.w A Q s->W p env X.prog X.w A Q' s)
  (hb:∀ cl C s H ex p,PG (Yj X N' scope cl C s H ex []) target (YY ((Yj X N' scope cl C s H ex []).L false X0) g)/\PB (Yj X N' scope cl C s H ex []) (W p (Yj X N' scope cl C s H ex []).env) (b p))
  (ht:∀ it p env,X5 (.ListComp elt (⟨target,iter,ifs,0⟩::rest) scope pos) target 0 it (.ref p) env (W p env))
  (hs:∀ x,foldedSetIterable iter X.env x=pure x) {use:Option (Value->Sem Unit)} {Post:Value->Shared->Prop} {pins:List (Addr×Obj)} {s:Shared} {σ:L2.St} {H:Hp} {δ:DSt} {M:Mem} {R:DK}
  (I:L2.Inv X pins σ H s) (rs:RepS (X.L rz Xe) H δ σ) (rm:RepM X.K H M) (t:X4 (N'.length-X.N.length) ti g b δ M R)
  (fin:∀ (p C:Addr) (s6:Shared) (H5:Hp) (M5:Mem),HExt X.K H H5->RepM X.K H5 M5->R (.lst p) M5->L2.Inv X pins σ H5 s6->FpOk X pins H5 C->(∃ m,s6.heap.Ns C m)->(∀ h',Heap.SameBut C s6.heap h'->L2.Inv X pins σ H5 {s6 with heap:=h'})->compPost (model X.prog X.w) X.A X.xe use Post (.ref p) C (.ok .next) s6) :
  wpAny (model X.prog X.w) X.A (comprehension (.ListComp elt (⟨target,iter,ifs,0⟩::rest) scope pos) scope X.env (firstIterPos (⟨target,iter,ifs,0⟩::rest) pos) (newList []) (firstAsync (⟨target,iter,ifs,0⟩::rest)) (firstIter (⟨target,iter,ifs,0⟩::rest) X.env) use) Post X.xe s:=by
 have hcells:∀ x∈scope.names,x.2=.free->∃ c,X.env.cells.lookup x.1=some c:=fun x hx e=>I.ok.has x.1 (B.free x hx e);refine wpAny_comprehension_free (use:=use) (cl:=clos X.env.cells scope.names []) rfl hs (XS hcells) B.kind B.names ?_;refine thn (hi pins s σ H (fun J H1=>∃ items keep M1,HExt X.K H H1/\RepM X.K H1 M1/\keep M1/\ItD X.K H1 J items keep/\∀ p,M1 p=none->keep (M1.upd p (.ls []))/\ZY g (b p) keep items (δ++List.replicate (N'.length-X.N.length) none) (M1.upd p (.ls [])) fun _ M2=>(∃ ds,M2 p=some (.ls ds))/\R (.lst p) M2) I
  ⟨δ,M,_,rs,rm,t,fun items keep M1 J H1 x1 m1 k1 it h1=>⟨items,keep,M1,x1,m1,k1,it,h1⟩⟩) fun v s1 h1=>thn h1 fun itv s2 h2=>?_
 obtain⟨it,fp,tn,J,H2,e,I2,T,st2,f2,items,keep,M1,x1,m1,k1,itd,h2⟩:=h2;subst e;have hflt2:∀ b∈fp,b<s2.heap.objs.size:=fun b hb=>let ⟨o,e,_⟩:=T.obj _ _ st2 b hb;Heap.lt_size e
 have hp:H2 s2.heap.objs.size=none:=I2.hok.fresh %[|3];refine wpAny_newObj_type ?_;have I3:=I2.lnew (ys:=[]) (its:=[]) (t':=s2.toks) .nil (Nat.zero_le _);have x3:HExt X.K H2 (upd H2 s2.heap.objs.size (.lst [])):=.upd (.inl hp);obtain⟨k3,h3⟩:=h2 _ (m1.none hp);have m3:=m1.lst (vs:=[]) (ds:=[]) hp .nil
 revert I3
 generalize hs3:(({s2 with heap:=s2.heap.push {cls:=.type "list",data:=.seq ([]:List Value).toArray},toks:=s2.toks}:Shared))=s3;intro I3;have hh3:s3.heap=s2.heap.push {cls:=.type "list",data:=.seq ([]:List Value).toArray}:=by rw[<- hs3]
 have sz3:s3.heap.objs.size=s2.heap.objs.size+1:=by rw[hh3,Heap.size_push]
 have st3:tn 0 s3.heap:=T.keep _ _ _ st2 fun b _ o e=>by rw[hh3];exact Heap.get?_push_of_some _ e
 have hflt3:∀ b∈fp,b<s3.heap.objs.size:=fun b hb=>by rw[sz3];exact Nat.lt_succ_of_lt (hflt2 b hb)
 have f3:∀ b∈fp,FpOk X pins (upd H2 s2.heap.objs.size (.lst [])) b:=fun b hb=>⟨by rw[Y9 (Nat.ne_of_lt (hflt2 b hb))];exact (f2 b hb).1,(f2 b hb).2⟩;have goal3:wpAny (model X.prog X.w) X.A (newFunctionEnv scope X.env.globals (clos X.env.cells scope.names []) [] X.env.qual none .none (some X.env)) (fun cenv s₄ =>
   codeAny (model X.prog X.w) X.A (.compStart (.ListComp elt (⟨target,iter,ifs,0⟩::rest) scope pos) 0 (.ref it) (.ref s2.heap.objs.size) {cenv with scope:=relabel scope X.env})
    (compPost (model X.prog X.w) X.A X.xe use Post (.ref s2.heap.objs.size) cenv.locals) s₄) X.xe s3:=by
  refine wpAny_newFunctionEnv B.cell (by intro y hy;simp at hy) (fun h₁ hns₁ hsb₁=>?_) B.kind;have old:∀ b o,s3.heap.get? b=some o->h₁.get? b=some o:=fun b o e=>hsb₁.extBut b o (Nat.ne_of_lt (Heap.lt_size e)) (Heap.get?_push_of_some _ e);have I4:=A3 (N':=N') (tk:=s3.toks+([]:List (Str×Value)).length) I3 B f3 hflt3 hns₁ old;obtain⟨hg,hbb⟩:=hb (clos X.env.cells scope.names []) s3.heap.objs.size s3 (upd H2 s2.heap.objs.size (.lst [])) fp s2.heap.objs.size;have st4:tn 0 h₁:=T.keep _ _ _ st3 fun b _ o e=>old b o e;have stat:∀ {H':Hp},(∀ b∈fp,H' b=none)->∀ b∈fp,FpOk (Yj X N' scope (clos X.env.cells scope.names []) s3.heap.objs.size s3 (upd H2 s2.heap.objs.size (.lst [])) fp []) [] H' b:=fun hn b hbb=>by
   obtain⟨g1,g2⟩:=I4.ok.exf b hbb;exact⟨hn b hbb,g1,I4.ok.exfs b hbb,.inl hbb,g2,fun p hp=>absurd (show p∈([]:List (Addr×Obj)) from hp) (by simp)⟩
  have loop:codeAny (model X.prog X.w) X.A (.compLoop (.ListComp elt (⟨target,iter,ifs,0⟩::rest) scope pos) 0 (.ref it) (.ref s2.heap.objs.size) (compEnvC scope (clos X.env.cells scope.names []) s3.heap.objs.size X.env))
    (compPost (model X.prog X.w) X.A X.xe use Post (.ref s2.heap.objs.size) s3.heap.objs.size) {s3 with heap:=h₁,toks:=s3.toks+([]:List (Str×Value)).length}:=by
   refine AK (Y:=Yj X N' scope (clos X.env.cells scope.names []) s3.heap.objs.size s3 (upd H2 s2.heap.objs.size (.lst [])) fp []) (H0:=H2) hc rfl (ht _ _ _) (mono _ _) T itd hg hbb I4 (stat fun b hbb=>(f3 b hbb).1) st4 x3 ((rs.toSlots.ext (x1.trans x3)).more _) m3 k3 h3 ?_;intro s6 σ5 H5 δ5 M5 I6 x5 rs5 m5 h5;obtain⟨_,h5⟩:=h5;obtain⟨mC,nC,_⟩:=I6.loc;have key:∀ h',Heap.SameBut s3.heap.objs.size s6.heap h'->L2.Inv X pins σ H5 {s6 with heap:=h'}:=fun h' hsb=>by
    have ne:∀ b o,s3.heap.get? b=some o->b≠s3.heap.objs.size:=fun b o e=>Nat.ne_of_lt (Heap.lt_size e);have un:=I6.base;have un':Un (frs X.stack) fp (upd H2 s2.heap.objs.size (.lst [])) H5 s3.heap h' :=
     ⟨fun b o e n1 n2 n3=>hsb.extBut b o (ne b o e) (un.keep b o e n1 n2 n3),fun b o e n1 n2 n3=>let ⟨sl,z⟩:=un.slot b o e n1 n2 n3;⟨sl,hsb.extBut _ _ (ne b o e) z⟩,un.free,fun b o e n1=>let ⟨o',z⟩:=un.there b o e n1;⟨o',hsb.extBut _ _ (ne b o e) z⟩,un.tups,un.frzs,un.tbls⟩
    have hok':HOk X.prog X.w H5 h':=fun b ob e=>by
     refine (I6.hok b ob e).stay (fun c w' hc' q'=>hsb.extBut _ _ ?_ q') (fun _ q=>q) fun _ _ q=>q;rintro rfl;rcases hc' with rfl|hc'
     ·rw[show H5 s3.heap.objs.size=none from I6.free] at e;cases e
     ·rw[show H5 s3.heap.objs.size=none from I6.free] at hc';cases hc'
    exact I3.call' (ch:=fp) (s':={s6 with heap:=h'}) I6.os un' hok' I6.bare fun b hbb=>⟨(f3 b hbb).2.2.2.1,(f3 b hbb).2.1,(f3 b hbb).2.2.2.2.1,(f3 b hbb).2.2.2.2.2⟩
   exact fin s2.heap.objs.size s3.heap.objs.size s6 H5 M5 ((x1.trans x3).trans x5) m5 h5 (key _ (.refl _ _)) (I3.fpOk %[|3] I6.free) ⟨mC,nC⟩ key
  exact codeAny_compStart_list loop (T.self X.A 0 _ _ _ st4 loop)
 subst hs3;exact goal3
theorem Ua (hc:X.calm=true) (B:BlkOk X.N X.env N' scope) (hi:PI X target iter (Zi (X.L rz Xe) ti))
  (W:Addr->Env->BW) (mono:∀ p env (A:Around) (Q Q':Shared->Prop) s,(∀ s',Q s'->Q' s')->W p env X.prog X.w A Q s->W p env X.prog X.w A Q' s)
  (hb:∀ cl C s H ex p,PG (Yj X N' scope cl C s H ex []) target (YY ((Yj X N' scope cl C s H ex []).L false X0) g)/\PB (Yj X N' scope cl C s H ex []) (W p (Yj X N' scope cl C s H ex []).env) (b p))
  (ht:∀ it p env,X5 (.ListComp elt (⟨target,iter,ifs,0⟩::rest) scope pos) target 0 it (.ref p) env (W p env))
  (hs:∀ x,foldedSetIterable iter X.env x=pure x):PE X (.ListComp elt (⟨target,iter,ifs,0⟩::rest) scope pos) (lift (X.L rz Xe) (X4 (N'.length-X.N.length) ti g b)):=by
 rintro pins s σ H Q I ⟨δ,M,R,rs,rm,t,q⟩;rw[eval_ListComp];exact WW hc B hi W mono hb ht hs (use:=none) I rs rm t (by rintro p C s6 H5 M5 x m r _ _ ⟨mC,nC⟩ key;exact⟨mC,nC,fun h' hsb=>⟨.ref p,H5,key h' hsb,rfl,q _ _ _ _ x m (.lst _) r⟩⟩)
theorem CF (hi:PI X target iter (Zi (X.L rz Xe) ti)):PI X target iter (Zi (X.L rz Xe) (iUp ti)):=by
 intro pins s σ H R I h;obtain⟨δ,M,Rd,rs,rm,⟨R0,t,q0⟩,q⟩:=h;exact hi pins s σ H R I ⟨δ,M,R0,rs,rm,t,fun items keep M' J H' x m k it h=>q items keep M' J H' x m k it (q0 _ _ _ h)⟩
theorem CH {Y:Cx} (hg:PG Y target (YY (Y.L false X0) g)):PG Y target (YY (Y.L false X0) (gUp g)):=by
 intro pins s σ H v u Q I r h;obtain⟨d,δ,M,R,rd,rs,rm,⟨R0,t,q0⟩,q⟩:=h;exact hg pins s σ H v u Q I r ⟨d,δ,M,R0,rd,rs,rm,t,fun δ' M' σ' H' x s' m h=>q δ' M' σ' H' x s' m (q0 _ _ h)⟩
theorem CJ {Y:Cx} {te:DE} (he:PE Y elt (lift (Y.L false X0) te)):PE Y elt (lift (Y.L false X0) (eUp te)):=by
 intro pins s σ H Q I h;obtain⟨δ,M,R,rs,rm,⟨R0,t,q0⟩,q⟩:=h;exact he pins s σ H Q I ⟨δ,M,R0,rs,rm,t,fun d M' v H' x m r h=>q d M' v H' x m r (q0 _ _ h)⟩
theorem Cr {te:DE} (hc:X.calm=true) (B:BlkOk X.N X.env N' scope) (hi:PI X target iter (Zi (X.L rz Xe) ti))
  (hb:∀ cl C s H ex,PG (Yj X N' scope cl C s H ex []) target (YY ((Yj X N' scope cl C s H ex []).L false X0) g)/\PE (Yj X N' scope cl C s H ex []) elt (lift ((Yj X N' scope cl C s H ex []).L false X0) te))
  (hs:∀ x,foldedSetIterable iter X.env x=pure x):PE X (.ListComp elt [⟨target,iter,[],0⟩] scope pos) (lift (X.L rz Xe) (YR (N'.length-X.N.length) ti g te)) :=
 (Ua hc B (CF hi) (fun p env=>Xi elt (.ref p) env) (fun _ _=>Zz) (fun cl C s H ex p=>⟨CH (hb cl C s H ex).1,XU rfl (CJ (hb cl C s H ex).2)⟩) (fun _ _ _=>VB) hs).imp
  fun σ H Q h=>by obtain⟨δ,M,R,rs,rm,t,q⟩:=h;exact⟨δ,M,R,rs,rm,Ub t,q⟩
theorem Je {ti:(DSt->DK)->DI} {i:Nat} {x:Str} {pos' pos2:Pos} (hc:X.calm=true) (B:BlkOk X.N X.env N' scope) (hit:∀ Xe,PI X target iter (Zi (X.L rz Xe) (ti Xe)))
  (W:Addr->Env->BW) (mono:∀ p env (A:Around) (Q Q':Shared->Prop) s,(∀ s',Q s'->Q' s')->W p env X.prog X.w A Q s->W p env X.prog X.w A Q' s)
  (hb:∀ cl C s H ex p,PG (Yj X N' scope cl C s H ex []) target (YY ((Yj X N' scope cl C s H ex []).L false X0) g)/\PB (Yj X N' scope cl C s H ex []) (W p (Yj X N' scope cl C s H ex []).env) (b p))
  (ht:∀ it p env,X5 (.ListComp elt (⟨target,iter,ifs,0⟩::rest) scope pos) target 0 it (.ref p) env (W p env))
  (hs:∀ x,foldedSetIterable iter X.env x=pure x) (hsw:swapsWith (.ListComp elt (⟨target,iter,ifs,0⟩::rest) scope pos) (some (.Name x pos')) pos2.line X.env=pure true)
  (hN:X.N.Nodup) (hi:X.N[i]?=some x) (hx:Loc X.env.scope x) (hf:X.fn x=true\/X.env.scope.names.lookup x=some .local) :
  PS X (.Assign [.Name x pos'] (.ListComp elt (⟨target,iter,ifs,0⟩::rest) scope pos) pos2) (Yk X rz (dAsg (fun Xe=>X4 (N'.length-X.N.length) (ti Xe) g b) fun _=>Z1 i)):=by
 rintro pins s σ H E I ⟨δ,M,D,rs,rm,t,n,r,b,c⟩;rw[exec_Assign_Name_used _ _ _ _ hsw,arm_evalThenUse_ListComp];refine wpAny_bind (wpAny_standAt ?_);refine wpAny_bind (wpAny_bind (WW hc B (hit D.ex) W mono hb ht hs (R:=fun d M1=>D.nx (δ.set i (some d)) M1) I rs rm t fun p C s6 H5 M5 x m r I5 fpc hq10 key=>?_));obtain⟨mC,nC⟩:=hq10;obtain⟨o,es,ep,ho,hd,hsk,hmm⟩:=id nC;have I5':=I5.pinned (fp:=[C]) (fun b hb=>by simp at hb;subst hb;exact fpc) (fun b hb=>by simp at hb;subst hb;exact⟨o,ho,fun v z=>by rw[hd] at z;cases z⟩);refine wpAny_assign_Name (Z9 I5' hN hi hx (v:=.ref p) rfl (fun s7 I7=>?_) hf);have hp7:(C,o)∈W6 [C] s6.heap:=Zb (by simp) ho;have h7:=(I7.pin (C,o) (List.mem_append_right _ (List.mem_append_right _ hp7))).1;refine⟨mC,⟨o,es,ep,h7,hd,hsk,hmm⟩,fun h' hsb=>?_⟩;have I8:=(I7.unpinned (pins:=pins)).turned (it:=C) (h':=h') (t':=s7.toks) (fun b o hb e=>(hsb.2 b hb).trans e) fpc.1 fpc.2.1 fpc.2.2.2.1 fpc.2.2.2.2.1 fpc.2.2.2.2.2
 exact wpAny_pure (wpAny_pure ⟨_,H5,I8,n _ _ _ _ x ((rs.ext x).set (.lst _) i) m r⟩)
theorem Ci {te:DE} {ti:(DSt->DK)->DI} {i:Nat} {x:Str} {pos' pos2:Pos} (hc:X.calm=true) (B:BlkOk X.N X.env N' scope) (hit:∀ Xe,PI X target iter (Zi (X.L rz Xe) (ti Xe)))
  (hb:∀ cl C s H ex,PG (Yj X N' scope cl C s H ex []) target (YY ((Yj X N' scope cl C s H ex []).L false X0) g)/\PE (Yj X N' scope cl C s H ex []) elt (lift ((Yj X N' scope cl C s H ex []).L false X0) te))
  (hs:∀ x,foldedSetIterable iter X.env x=pure x) (hsw:swapsWith (.ListComp elt [⟨target,iter,[],0⟩] scope pos) (some (.Name x pos')) pos2.line X.env=pure true)
  (hN:X.N.Nodup) (hi:X.N[i]?=some x) (hx:Loc X.env.scope x) (hf:X.fn x=true\/X.env.scope.names.lookup x=some .local) :
  PS X (.Assign [.Name x pos'] (.ListComp elt [⟨target,iter,[],0⟩] scope pos) pos2) (Yk X rz (dAsg (fun Xe=>YR (N'.length-X.N.length) (ti Xe) g te) fun _=>Z1 i)):=by
 rintro pins s σ H E I ⟨δ,M,D,rs,rm,t,n,r,b,c⟩;exact Je hc B (fun Xe=>CF (hit Xe)) (fun p env=>Xi elt (.ref p) env) (fun _ _=>Zz) (fun cl C s H ex p=>⟨CH (hb cl C s H ex).1,XU rfl (CJ (hb cl C s H ex).2)⟩) (fun _ _ _=>VB) hs hsw hN hi hx hf pins s σ H E I ⟨δ,M,D,rs,rm,Ub (show YR (N'.length-X.N.length) (ti D.ex) g te δ M (fun d M1=>D.nx (δ.set i (some d)) M1) from t),n,r,b,c⟩
end
end DL
end
noncomputable section
namespace DL
open PySem PySem.Spec PyProof.Rows L2
noncomputable def fSum:List D->Mem->DK->Prop
 | [.lst a],M,Q=>∃ bs:List Bool,M a=some (.ls (bs.map .bl))/\Q (.int (bs.count true)) M
 | _,_,_=>False
section
variable {X:Cx}
noncomputable def IxAt (M:Mem) (xs:List D) (d:D) (j:Nat):Prop:=∃ ps p,Pys M xs ps/\Py M d p/\p.depth<=60/\xs.length<1000/\j<ps.length/\ps.findIdx (fun q=>PyData.eqv q p)=j
end
theorem XE {K:Frag} {H:Hp}:∀ {vs:List V} {ds:List D} (i:Nat),RelDs K H vs ds->RelDs K H (vs.eraseIdx i) (ds.eraseIdx i)
 | _,_,_,.nil=>.nil
 | _,_,0,.cons _ t=>t
 | _,_,i+1,.cons q t=>.cons q (XE i t)
section
variable {X:Cx}
end
section
variable {X:Cx}
end
end DL
end
noncomputable section
namespace DL
open PySem PySem.Spec PyProof.Rows L2
noncomputable def ZE {α:Type} (xs:List α) (k:Int) (y:α):List α:=xs.take k.toNat++y::xs.drop k.toNat
noncomputable def BG:V->List V->Hp->VK->Prop:=fun x vs H Q=>∃ l xs k y,x=.ref l/\vs=[.int k,y]/\H l=some (.lst xs)/\0<=k/\k<=xs.length/\xs.length<sizeLine/\Q .non (upd H l (.lst (ZE xs k y)))
theorem JN {α:Type} (xs:List α) (k:Int) (y:α):(ZE xs k y).length=xs.length+1:=by
 unfold ZE;simp;omega
section
variable {X:Cx}
theorem JH:MtM X "list.insert" BG:=by
 intro pins s σ H x vs v us Q I rx rv h;obtain⟨l,xs,k,y,rfl,rfl,hH,k0,k1,hz,q⟩:=h;cases rx;obtain⟨u1,u2,rfl,r1,r2⟩:=XB rv;obtain⟨t,rfl⟩:=r1;obtain⟨z,its,n,r,hl,e⟩:=I.lstM hH;have sl:sizeLine=16777216:=by decide
 have hlen:=r.length;have hfit:¬ (!Builtin.List.listFitsIndex k)=true:=by
  unfold Builtin.List.listFitsIndex;simp;omega
 refine call_meets F.slot_list_insert ⟨_,e,rfl⟩ F.entry_list_insert (F.args_list_insert_3 _ _ _) (AutoListH.list_insert_list_int_val_1 l its.toArray n k t u2 hfit (by rw[List.size_toArray];omega)) ⟨e,?_⟩;refine⟨.non,_,I.lset (its':=ZE its k u2) hH e ?_ ?_ ?_,rfl,q⟩
 ·have hk:(if k<0 then (k+((its.toArray.size:Nat):Int)).toNat else min k.toNat its.toArray.size)=k.toNat:=by
   rw[if_neg (by omega),List.size_toArray];omega
  show ((its.toArray.extract 0 (if k<0 then (k+((its.toArray.size:Nat):Int)).toNat else min k.toNat its.toArray.size)).push u2++its.toArray.extract (if k<0 then (k+((its.toArray.size:Nat):Int)).toNat else min k.toNat its.toArray.size))=_;rw[hk];unfold ZE;simp[List.extract_eq_take_drop,List.take_of_length_le]
 ·exact (r.take _).append (.cons r2 (r.drop _))
 ·rw[JN];omega
end
end DL
end
noncomputable section
namespace DL
open PySem PySem.Spec PyProof.Rows L2
abbrev zh1 (h:Heap) (b:Addr):Heap:=h.push {cls:=.type "tuple_iterator",data:=.fields #[.ref b,.int 0 0]}
abbrev zh2 (h:Heap) (b c:Addr):Heap:=(zh1 h b).push {cls:=.type "tuple_iterator",data:=.fields #[.ref c,.int 0 0]}
abbrev zh3 (h:Heap) (b c:Addr):Heap:=(zh2 h b c).push {cls:=.type "tuple",data:=.seq #[.ref h.objs.size,.ref (zh1 h b).objs.size]}
abbrev zh4 (h:Heap) (b c:Addr):Heap:=(zh3 h b c).push {cls:=.type "tuple",data:=.seq #[.none,.none]}
abbrev zh5 (h:Heap) (b c:Addr):Heap:=(zh4 h b c).push {cls:=.type "zip",data:=.fields #[.none,.bool false,.bool false,.ref (zh2 h b c).objs.size,.ref (zh3 h b c).objs.size]}
theorem AE (b c:Addr) (xs ys:Array Value) :
  Meets (Builtin.«zip.__new__» ⟨[.type "zip",.ref b,.ref c],[]⟩) (fun _ R s=>s.heap.IsTuple b xs/\s.heap.IsTuple c ys/\R (.ok (.ret (.ref (zh4 s.heap b c).objs.size))) {s with heap:=zh5 s.heap b c}) :=
 .of_wp fun prog w A R s h=>by
  obtain⟨hp,g,d,tk,os⟩:=s;obtain⟨h1,h2,h⟩:=h;have hsub:=sub_zip;have t1:Heap.IsTuple (Shared.heap ⟨hp,g,d,tk,os⟩) b xs:=h1;have t2:Heap.IsTuple (Shared.heap ⟨hp.push {cls:=.type "tuple_iterator",data:=.fields #[.ref b,.int 0 0]},g,d,tk,os⟩) c ys:=by
   obtain⟨o,e,r⟩:=h2;exact⟨o,Heap.get?_push_of_some _ e,r⟩
  wp_walk using wpAny_pyIter_tuple t1,wpAny_pyIter_tuple t2
  exact⟨_,rfl,h⟩
section
variable {prog:Program} {w:World} {A:Around} {E:Value->Shared->Prop} {s:Shared}
theorem Cw {b c:Addr} {xs ys:Array Value} {Q:Value->Shared->Prop} (hb:s.heap.IsTuple b xs) (hc:s.heap.IsTuple c ys)
  (q:∀ g,zTn (s.heap.objs.size+4) (s.heap.objs.size+2) (s.heap.objs.size+3) s.heap.objs.size (s.heap.objs.size+1) b c 0 g->(∀ k o,s.heap.get? k=some o->g.get? k=some o)->Q (.ref (s.heap.objs.size+4)) {s with heap:=g}) :
  wpAny (model prog w) A (call (.type "zip") [.ref b,.ref c]) Q E s:=by
 refine callType_new F.called_zip (by decide) (F.typeCall_zip_2 _ _) (F.newCall_zip_2 _ _) (fun obj=>F.args_object_init_3 obj _ _) F.entry_zip_new (AE b c xs ys) ⟨hb,hc,?_⟩;have z1:(zh1 s.heap b).objs.size=s.heap.objs.size+1:=Heap.size_push ..;have z2:(zh2 s.heap b c).objs.size=s.heap.objs.size+2:=by rw[Heap.size_push,z1]
 have z3:(zh3 s.heap b c).objs.size=s.heap.objs.size+3:=by rw[Heap.size_push,z2]
 have z4:(zh4 s.heap b c).objs.size=s.heap.objs.size+4:=by rw[Heap.size_push,z3]
 have g5:(zh5 s.heap b c).get? (zh4 s.heap b c).objs.size=some _:=Heap.get?_push_size _ rfl;have g4:(zh5 s.heap b c).get? (zh3 s.heap b c).objs.size=some _:=Heap.get?_push_of_some _ (Heap.get?_push_size _ rfl);have g3:(zh5 s.heap b c).get? (zh2 s.heap b c).objs.size=some _:=Heap.get?_push_of_some _ (Heap.get?_push_of_some _ (Heap.get?_push_size _ rfl));have g2:(zh5 s.heap b c).get? (zh1 s.heap b).objs.size=some _:=Heap.get?_push_of_some _ (Heap.get?_push_of_some _ (Heap.get?_push_of_some _ (Heap.get?_push_size _ rfl)));have g1:(zh5 s.heap b c).get? s.heap.objs.size=some _:=Heap.get?_push_of_some _ (Heap.get?_push_of_some _ (Heap.get?_push_of_some _ (Heap.get?_push_of_some _ (Heap.get?_push_size _ rfl))));show _/\_;rw[z2,z3,z4] at g5;rw[z1,z2] at g3;rw[z3] at g4;rw[z1] at g2;rw[z4];exact⟨⟨_,g5,rfl⟩,q _ ⟨g5,g3,⟨_,_,g4⟩,⟨_,g1,rfl,rfl⟩,⟨_,g2,rfl,rfl⟩⟩ fun k o x=>Heap.get?_push_of_some _ (Heap.get?_push_of_some _ (Heap.get?_push_of_some _ (Heap.get?_push_of_some _ (Heap.get?_push_of_some _ x))))⟩
end
noncomputable def ItzL (K:Frag) (b c:Addr):It :=
  ⟨fun i H=>∃ xs ys x y,SqL K H b xs/\SqL K H c ys/\xs[i]?=some x/\ys[i]?=some y,
   fun i H x H'=>∃ T p q,H T=none/\x=.ref T/\H'=upd H T (.tup [p,q])/\(∀ xs,SqL K H b xs->xs[i]?=some p)/\∀ ys,SqL K H c ys->ys[i]?=some q,
   fun i H=>∃ xs ys,SqL K H b xs/\SqL K H c ys/\(xs.length<=i\/ys.length<=i)⟩
noncomputable def zTnL (z u v i j b c:Addr) (n:Nat) (h:Heap):Prop:=IsZip h z u v .none/\IsPair h u (.ref i) (.ref j)/\(∃ a d,IsPair h v a d)/\h.IsListIter i b n/\h.IsListIter j c n
theorem Jq {P:Program} {w:World} {K:Frag} {elts:List Expr} {x1:Nat} {pos:Pos} {z u v i j b c:Addr} (D:ZipApart z u v i j b c) :
  Turn P w K (.Tuple elts x1 pos) (ItzL K b c) [z,u,v,i,j] z (zTnL z u v i j b c) where
 mem:=by simp
 obj:=fun n h st k hk=>by
  obtain⟨hz,hu,⟨a,d,hv⟩,⟨o1,e1,_,d1⟩,⟨o2,e2,_,d2⟩⟩:=st;simp only[List.mem_cons,List.not_mem_nil,or_false] at hk;rcases hk with rfl|rfl|rfl|rfl|rfl
  ·exact⟨_,hz,fun w e=>nomatch e⟩
  ·exact⟨_,hu,fun w e=>nomatch e⟩
  ·exact⟨_,hv,fun w e=>nomatch e⟩
  ·exact⟨_,e1,fun w e=>by rw[d1] at e;cases e⟩
  ·exact⟨_,e2,fun w e=>by rw[d2] at e;cases e⟩
 keep:=fun n h h' st k=>by
  obtain⟨hz,hu,⟨a,d,hv⟩,h1,h2⟩:=st;exact⟨k z (by simp) _ hz,k u (by simp) _ hu,⟨a,d,k v (by simp) _ hv⟩,h1.at fun o e=>k i (by simp) o e,h2.at fun o e=>k j (by simp) o e⟩
 item:=by
  intro X hP hw hK hc n pins s σ H E I hf st hg;subst hP hw hK;obtain⟨hz,hu,⟨a,d,hv⟩,h1,h2⟩:=st;obtain⟨xs,ys,x,y,q1,q2,hx,hy⟩:=hg;obtain⟨its,rv,p,sz1⟩:=I.list q1;obtain⟨its',rv',p',sz2⟩:=I.list q2;obtain⟨vx,hvx,rx⟩:=rv.get hx;obtain⟨vy,hvy,ry⟩:=rv'.get hy;refine wpAny_pyNext_zip_item D hz hu hv h1 h2 p.isList p'.isList (x:=vx) (y:=vy) (by simpa using hvx) (by simpa using hvy) fun g a1 a2 a3 a4 a5 a6 a7=>?_;have lt:∀ {k o},s.heap.get? k=some o->k≠s.heap.objs.size:=fun e=>Nat.ne_of_lt (Heap.lt_size e);have li:i≠s.heap.objs.size:=by obtain⟨o,e,_⟩:=h1;exact lt e
  have lj:j≠s.heap.objs.size:=by obtain⟨o,e,_⟩:=h2;exact lt e
  refine⟨_,rfl,wpAny_letOwnedTupleGo_zip a1 fun g' z' sb=>?_⟩;have tp:IsPair g' s.heap.objs.size vx vy:=sb.extBut _ _ (Ne.symm (lt hz)) a5;have nf:H s.heap.objs.size=none:=I.hok.fresh %[|3];have I1:Inv X pins σ (upd H s.heap.objs.size (.tup [x,y])) {s with heap:=s.heap.push {cls:=.type "tuple",data:=.seq #[vx,vy]},toks:=s.toks} :=
   I.laid (fun k o e=>Heap.get?_push_of_some _ e) %[|3] ⟨by simp only[List.length_cons,List.length_nil];rw[sizeLine_eq];decide,[vx,vy],.cons rx (.cons ry .nil),⟨_,Heap.get?_push_size _ rfl,rfl,_,rfl⟩⟩
  have ff:∀ k∈[z,u,v,i,j],k≠s.heap.objs.size:=fun k hk=>by
   simp only[List.mem_cons,List.not_mem_nil,or_false] at hk;rcases hk with rfl|rfl|rfl|rfl|rfl
   ·exact lt hz
   ·exact lt hu
   ·exact lt hv
   ·exact li
   ·exact lj
  have f':∀ k∈[z,u,v,i,j],FpOk X pins (upd H s.heap.objs.size (.tup [x,y])) k:=fun k hk=>⟨by rw[Y9 (ff k hk)];exact (hf k hk).1,(hf k hk).2⟩;have I2:Inv X pins σ (upd H s.heap.objs.size (.tup [x,y])) {s with heap:=g',toks:=s.toks}:=by
   refine YV (s:={s with heap:=s.heap.push {cls:=.type "tuple",data:=.seq #[vx,vy]},toks:=s.toks}) (h':=g') (t':=s.toks) I1 (fun k o hk e=>?_) f';rcases Heap.get?_push_cases e with ⟨rfl,rfl⟩|e'
   ·exact tp
   ·simp only[List.mem_cons,List.not_mem_nil,or_false,not_or] at hk
    exact sb.extBut _ _ hk.1 (a7 k o hk.1 hk.2.2.1 hk.2.2.2.1 hk.2.2.2.2 e')
  refine⟨.ref s.heap.objs.size,_,I2,rfl,⟨_,x,y,nf,rfl,rfl,fun xs' q=>by rw[I.list_inj q q1];exact hx,fun ys' q=>by rw[I.list_inj q q2];exact hy⟩,?_,fun k hk=>(f' k hk).1⟩;exact⟨z',sb.extBut _ _ D.TIz (a7 _ _ D.TIz D.TITO D.TIi1 D.TIi2 hu),⟨_,_,sb.extBut _ _ D.TOz a2⟩,a3.extBut sb.extBut D.i1z,a4.extBut sb.extBut D.i2z⟩
 done:=by
  intro X hP hw hK hc n pins s σ H E I hf st hg;subst hP hw hK;obtain⟨hz,hu,⟨a,d,hv⟩,h1,h2⟩:=st;obtain⟨xs,ys,q1,q2,hx⟩:=hg;obtain⟨its,rv,p,sz1⟩:=I.list q1;obtain⟨its',rv',p',sz2⟩:=I.list q2;have l1:=rv.length;have l2:=rv'.length;refine wpAny_pyNext_zip_end (I.ok.hd hc) D hz hu hv h1 h2 p.isList p'.isList (by rcases hx with hx|hx;exact .inl (by simp;omega);exact .inr (by simp;omega)) fun g k=>⟨rfl,YV (h':=g) (t':=s.toks) I (fun m o hm e=>?_) hf⟩;simp only[List.mem_cons,List.not_mem_nil,or_false,not_or] at hm;exact k m o hm.1 hm.2.2.1 hm.2.2.2.1 hm.2.2.2.2 e
 self:=fun _ _ _ _ _ st h=>wpAny_pyIter_zip st.1 h
noncomputable def zipD (xs ys:List D):List D:=List.zipWith (fun x y=>.tup [x,y]) xs ys
noncomputable def WI:List D->Mem->(List D->(Mem->Prop)->Mem->Prop)->Prop
 | [.tup xs,.tup ys],M,R=>R (zipD xs ys) (fun _=>True) M
 | [.lst a,.lst b],M,R=>∃ xs ys,M a=some (.ls xs)/\M b=some (.ls ys)/\R (zipD xs ys) (fun M'=>M' a=some (.ls xs)/\M' b=some (.ls ys)) M
 | _,_,_=>False
noncomputable def ZF (ta:DA):DI:=fun δ M R=>ta δ M fun ds M1=>WI ds M1 R
theorem Ca {K:Frag} {H0:Hp} {a b:Addr} {vs ws:List V} {xs ys:List D} (ha:SqT K H0 a vs) (hb:SqT K H0 b ws) (r:RelDs K H0 vs xs) (q:RelDs K H0 ws ys):ItD K H0 (Itz K a b) (zipD xs ys) (fun _=>True):=fun i H M x m k=>by
 have ha':=x.tup _ _ ha;have hb':=x.tup _ _ hb;have r':=r.ext x;have q':=q.ext x;have l1:=r.length;have l2:=q.length;refine⟨fun hl=>?_,fun hl=>?_,fun y H' hy=>?_⟩
 ·simp only[zipD,List.length_zipWith] at hl
  exact⟨vs,ws,vs[i]'(by omega),ws[i]'(by omega),ha',hb',List.getElem?_eq_getElem _,List.getElem?_eq_getElem _⟩
 ·simp only[zipD,List.length_zipWith] at hl
  exact⟨vs,ws,ha',hb',by omega⟩
 ·obtain⟨T,p,p',hn,rfl,rfl,e1,e2⟩:=hy
  have ex:HExt K H (L2.upd H T (.tup [p,p'])):=HExt.upd (.inl hn);refine⟨ex,m.tup hn,fun d hd=>?_⟩;simp only[zipD,List.getElem?_zipWith] at hd;have f1:=e1 _ ha';have f2:=e2 _ hb';cases h1:xs[i]? with
  | none=>rw [h1] at hd;simp at hd
  | some dx =>
   cases h2:ys[i]? with
   | none=>rw [h1,h2] at hd;simp at hd
   | some dy =>
    rw[h1,h2] at hd;simp at hd;subst hd;obtain⟨v1,g1,g2⟩:=r'.get h1;obtain⟨v2,g3,g4⟩:=q'.get h2;rw[f1] at g1;cases g1;rw[f2] at g3;cases g3;exact .tup (.inl (.of L2.upd_same)) (.cons (g2.ext ex) (.cons (g4.ext ex) .nil))
theorem AN {K:Frag} {H0:Hp} {a b:Addr} {xs ys:List D}:ItD K H0 (ItzL K a b) (zipD xs ys) (fun M'=>M' a=some (.ls xs)/\M' b=some (.ls ys)):=fun i H M x m k=>by
 obtain⟨vs,ev,r'⟩:=m _ _ k.1;obtain⟨ws,ew,q'⟩:=m _ _ k.2;have l1:=r'.length;have l2:=q'.length;refine⟨fun hl=>?_,fun hl=>?_,fun y H' hy=>?_⟩
 ·simp only[zipD,List.length_zipWith] at hl
  exact⟨vs,ws,vs[i]'(by omega),ws[i]'(by omega),.of ev,.of ew,List.getElem?_eq_getElem _,List.getElem?_eq_getElem _⟩
 ·simp only[zipD,List.length_zipWith] at hl
  exact⟨vs,ws,.of ev,.of ew,by omega⟩
 ·obtain⟨T,p,p',hn,rfl,rfl,e1,e2⟩:=hy
  have ex:HExt K H (L2.upd H T (.tup [p,p'])):=HExt.upd (.inl hn);refine⟨ex,m.tup hn,fun d hd=>?_⟩;simp only[zipD,List.getElem?_zipWith] at hd;have f1:=e1 _ (.of ev);have f2:=e2 _ (.of ew);cases h1:xs[i]? with
  | none=>rw [h1] at hd;simp at hd
  | some dx =>
   cases h2:ys[i]? with
   | none=>rw [h1,h2] at hd;simp at hd
   | some dy =>
    rw[h1,h2] at hd;simp at hd;subst hd;obtain⟨v1,g1,g2⟩:=r'.get h1;obtain⟨v2,g3,g4⟩:=q'.get h2;rw[f1] at g1;cases g1;rw[f2] at g3;cases g3;exact .tup (.inl (.of L2.upd_same)) (.cons (g2.ext ex) (.cons (g4.ext ex) .nil))
section
variable {X:Cx} {rz:Bool} {Xe:DSt->DK} {pos:Pos}
theorem Fy {a:Expr} {es:List Expr} {ta:DA} {p:Pos} {elts:List Expr} {x1:Nat} {tp:Pos} (hg:Gl X "zip") (hm:X.mg "zip"=none) (ha:PA X (a::es) (Z4 (X.L rz Xe) ta)) (hs:starEach (a::es) X.env=(false,eval a X.env)::starEach es X.env) (hpl:(backTo pos (starEach es X.env)).any (·.1)=false) :
  PI X (.Tuple elts x1 tp) (.Call (.Name "zip" p) (a::es) [] pos) (Zi (X.L rz Xe) (ZF ta)):=by
 rintro pins s σ H R I ⟨δ,M,Rd,rs,rm,t,q⟩;refine Call_ (ZL I hg hm boot_zip (PyProof.Rows.callWith_type1 (thn (ha pos pins s σ H (fun vs H1=>(∃ b c xs ys,vs=[.ref b,.ref c]/\SqT X.K H1 b xs/\SqT X.K H1 c ys/\R (Itz X.K b c) H1)\/∃ b c xs ys,vs=[.ref b,.ref c]/\SqL X.K H1 b xs/\SqL X.K H1 c ys/\R (ItzL X.K b c) H1) I ⟨δ,M,_,rs,rm,t,fun ds M1 vs H1 x1 m1 r1 h1=>?_⟩) fun us s1 ⟨vs,H1,I1,r1,q1⟩=>?_) hs hpl))
 ·unfold WI at h1
  split at h1
  ·cases r1 with
   | cons ra rr =>
    cases rr with
    | cons rb rr =>
     cases rr;cases ra with
     | tup ha ra =>
      cases rb with
      | tup hb rb=>exact .inl ⟨_,_,_,_,rfl,ha,hb,q _ _ _ _ _ x1 m1 trivial (Ca ha hb ra rb) h1⟩
  ·obtain⟨xs,ys,ea,eb,h1⟩:=h1
   cases r1 with
   | cons ra rr =>
    cases rr with
    | cons rb rr =>
     cases rr;cases ra;cases rb;obtain⟨vs,ev,_⟩:=m1 _ _ ea;obtain⟨ws,ew,_⟩:=m1 _ _ eb;exact .inr ⟨_,_,_,_,rfl,.of ev,.of ew,q _ _ _ _ _ x1 m1 ⟨ea,eb⟩ AN h1⟩
  ·exact h1.elim
 ·rcases q1 with q1|q1
  ·obtain⟨b,c,xs,ys,e,hb,hc,q⟩:=q1
   subst e;cases r1 with
   | cons r rr =>
    cases rr with
    | cons r' rr =>
     cases rr;cases r;cases r';obtain⟨its,rv,pb,_⟩:=I1.tuple hb;obtain⟨its',rv',pc,_⟩:=I1.tuple hc;have lb:b<s1.heap.objs.size:=by obtain⟨o,e,_⟩:=pb;exact Heap.lt_size e
     have lc:c<s1.heap.objs.size:=by obtain⟨o,e,_⟩:=pc;exact Heap.lt_size e
     refine Cw (show s1.heap.IsTuple b its.toArray from pb) (show s1.heap.IsTuple c its'.toArray from pc) fun g st k=>?_;refine wpAny_pyIter_zip st.1 ?_;refine⟨_,[s1.heap.objs.size+4,s1.heap.objs.size+2,s1.heap.objs.size+3,s1.heap.objs.size,s1.heap.objs.size+1],_,_,H1,rfl,I1.kept (t':=s1.toks) k,Ad (zipApart_new lb lc),st,fun m hm=>?_,q⟩;have le:s1.heap.objs.size<=m:=by
      simp only[List.mem_cons,List.not_mem_nil,or_false] at hm;rcases hm with rfl|rfl|rfl|rfl|rfl
      ·exact Nat.le_add_right _ _
      ·exact Nat.le_add_right _ _
      ·exact Nat.le_add_right _ _
      ·exact Nat.le_refl _
      ·exact Nat.le_add_right _ _
     exact I1.fpOk le (I1.hok.fresh le)
  ·obtain⟨b,c,xs,ys,e,hb,hc,q⟩:=q1
   subst e;cases r1 with
   | cons r rr =>
    cases rr with
    | cons r' rr =>
     cases rr;cases r;cases r';obtain⟨its,rv,pb,_⟩:=I1.list hb;obtain⟨its',rv',pc,_⟩:=I1.list hc;have lb:b<s1.heap.objs.size:=by obtain⟨o,e,_⟩:=pb.isList;exact Heap.lt_size e
     have lc:c<s1.heap.objs.size:=by obtain⟨o,e,_⟩:=pc.isList;exact Heap.lt_size e
     refine call_zip_2 pb.isList pc.isList fun g st1 st2 st3 st4 st5 _ k=>?_;refine wpAny_pyIter_zip st1 ?_;refine⟨_,[s1.heap.objs.size+4,s1.heap.objs.size+2,s1.heap.objs.size+3,s1.heap.objs.size,s1.heap.objs.size+1],_,_,H1,rfl,I1.kept (t':=s1.toks) k,Jq (zipApart_new lb lc),⟨st1,st2,⟨_,_,st3⟩,st4,st5⟩,fun m hm=>?_,q⟩;have le:s1.heap.objs.size<=m:=by
      simp only[List.mem_cons,List.not_mem_nil,or_false] at hm;rcases hm with rfl|rfl|rfl|rfl|rfl
      ·exact Nat.le_add_right _ _
      ·exact Nat.le_add_right _ _
      ·exact Nat.le_add_right _ _
      ·exact Nat.le_refl _
      ·exact Nat.le_add_right _ _
     exact I1.fpOk le (I1.hok.fresh le)
end
end DL
end
noncomputable section
namespace DL
open PySem PySem.Spec PyProof.Rows L2
section
variable {prog:Program} {w:World} {A:Around} {E:Value->Shared->Prop} {s:Shared}
theorem JW {e it l:Addr} {i:Nat} {items:Array Value} {old:Value} {Q:Option Value->Shared->Prop} (hh:A.handled=none)
  (he:IsEnum s.heap e it i old) (hit:s.heap.IsTupleIter it l i) (hl:s.heap.IsTuple l items) (hx:items[i]?=none)
  (hQ:∀ h',Heap.ExtBut it s.heap h'->Q none {s with heap:=h'}):wpAny (model prog w) A (pyNext (.ref e)) Q E s:=by
 have hT:s.TypeIs (.ref e) "enumerate":=⟨_,he,rfl⟩;unfold pyNext;refine wpAny_bind (wpAny_attempt (wpAny_callSpecial?_slot (name:=Str.ofString "__next__") hT F.slot_enumerate_next
  (wpAny_call_entry F.slot_enumerate_next hT F.entry_enumerate_next ?_ (F.args_enumerate_next_1 _))))
 show wpAny _ _ (field (.ref e) 2 >>= _) _ _ _;refine wpAny_bind (wpAny_field he rfl (x:=.ref it) rfl ?_);refine wpAny_bind (Ve hh hit hl hx fun h' x he' hx'=>?_);obtain⟨o,ho,hc⟩:=hx';refine wpAny_bind (wpAny_isInstance (T:="StopIteration") (b:=true) ⟨o,ho,hc⟩ isSubtype_stop ?_);exact wpAny_pure (hQ _ he')
theorem JX {e it l:Addr} {i:Nat} {items:Array Value} {old:Value} {Q:Option Value->Shared->Prop} (hh:A.handled=none)
  (he:IsEnum s.heap e it i old) (hit:s.heap.IsListIter it l i) (hl:s.heap.IsList l items) (hx:items[i]?=none)
  (hQ:∀ h',Heap.ExtBut it s.heap h'->Q none {s with heap:=h'}):wpAny (model prog w) A (pyNext (.ref e)) Q E s:=wpAny_pyNext_enum_end hh he hit hl hx hQ
theorem AG (l:Addr) (items:Array Value) (n:Nat) (dct:Option Addr) (sl:Array (Option Value)) :
  Meets (Builtin.«enumerate.__new__» ⟨[.type "enumerate",.ref l],[]⟩) (fun _ R s=>s.heap.get? l=some {cls:=.type "tuple",dict:=dct,data:=.seq items n,slots:=sl} /\
   R (.ok (.ret (.ref (s.heap.push {cls:=.type "tuple_iterator",data:=.fields #[.ref l,.int 0 0]}).objs.size)))
    {s with heap:=(s.heap.push {cls:=.type "tuple_iterator",data:=.fields #[.ref l,.int 0 0]}).push {cls:=.type "enumerate",data:=.fields #[.none,.bool false,.ref s.heap.objs.size,rawInt 0,.none,.none]}}) :=
 .of_wp fun prog w A R s h=>by
  obtain⟨hp,g,d,tk,os⟩:=s;obtain⟨hl,h⟩:=h;have hsub:=sub_enumerate;have hL:Heap.IsTuple (Shared.heap ⟨hp,g,d,tk,os⟩) l items:=⟨_,hl,rfl,n,rfl⟩
  wp_walk using AutoSeq1.wpAny_loadPart' hl
  refine wpAny_stack_any fun st=>wpAny_pure ?_;split
  ·rename_i c _ _ _ _ _
   cases (c==Value.type "enumerate")
   ·wp_walk using AutoSeq1.wpAny_loadPart' hl,wpAny_pyIter_tuple hL
    exact⟨_,rfl,h⟩
   ·wp_walk using AutoSeq1.wpAny_loadPart' hl,wpAny_pyIter_tuple hL
    exact⟨_,rfl,h⟩
  ·wp_walk using AutoSeq1.wpAny_loadPart' hl,wpAny_pyIter_tuple hL
   exact⟨_,rfl,h⟩
theorem UN {l:Addr} {items:Array Value} {Q:Value->Shared->Prop} (hL:s.heap.IsTuple l items)
  (h:∀ h',IsEnum h' (s.heap.objs.size+1) s.heap.objs.size 0 .none->h'.IsTupleIter s.heap.objs.size l 0->h'.objs.size=s.heap.objs.size+2 ->
   (∀ b o,s.heap.get? b=some o->h'.get? b=some o)->Q (.ref (s.heap.objs.size+1)) {s with heap:=h'}) :
  wpAny (model prog w) A (call (.type "enumerate") [.ref l]) Q E s:=by
 obtain⟨⟨c,dct,dt,sl⟩,hl,hc,n,hd⟩:=hL
 replace hc:c=.type "tuple":=hc
 replace hd:dt=.seq items n:=hd
 subst hc hd;refine callType_new F.called_enumerate (by decide) (F.typeCall_enumerate_1 _) (F.newCall_enumerate_1 _) (fun obj=>F.args_object_init_2 obj _) F.entry_enumerate_new
  (AG l items n dct sl) ⟨hl,?_⟩
 have hz:(s.heap.push {cls:=.type "tuple_iterator",data:=.fields #[.ref l,.int 0 0]}).objs.size=s.heap.objs.size+1:=Heap.size_push ..;show _/\_;rw[hz];have he:IsEnum ((s.heap.push {cls:=.type "tuple_iterator",data:=.fields #[.ref l,.int 0 0]}).push
   {cls:=.type "enumerate",data:=.fields #[.none,.bool false,.ref s.heap.objs.size,rawInt 0,.none,.none]}) (s.heap.objs.size+1) s.heap.objs.size 0 .none:=by
  have:=Heap.get?_push_size (s.heap.push {cls:=.type "tuple_iterator",data:=.fields #[.ref l,.int 0 0]})
   (o:={cls:=.type "enumerate",data:=.fields #[.none,.bool false,.ref s.heap.objs.size,rawInt 0,.none,.none]}) rfl
  rw[hz] at this;exact this
 refine⟨⟨_,he,rfl⟩,h _ he ⟨_,Heap.get?_push_of_some _ (Heap.get?_push_size _ rfl),rfl,rfl⟩ (by rw[Heap.size_push,hz]) fun b o x=>Heap.get?_push_of_some _ (Heap.get?_push_of_some _ x)⟩
end
theorem Fw {prog:Program} {w:World} {A:Around} (hh:A.handled=none) {it b:Addr} (hne:it≠b) (vs:Array Value):Draws prog w A it [it,b] vs.size (fun i v=>vs[i]?=some v) (fun i h=>h.IsTupleIter it b i/\h.IsTuple b vs) where
 live:=fun _ _ st=>let ⟨o,ho,_⟩:=st.1;⟨o,ho⟩
 frame:=fun _ _ _ st hk=>⟨let ⟨o,ho,r⟩:=st.1;⟨o,hk it (by simp) o ho,r⟩,let ⟨o,ho,r⟩:=st.2;⟨o,hk b (by simp) o ho,r⟩⟩
 item:=fun i s Q E hi st hQ=>XX st.1 st.2 (show vs[i]?=some vs[i] by simp[hi]) fun g h1 sb=>hQ _ g s.toks (by simp[hi]) ⟨h1,let ⟨o,e,r⟩:=st.2;⟨o,sb.extBut _ _ hne.symm e,r⟩⟩ sb
 done:=fun s Q E st hE=>Ve hh st.1 st.2 (by simp) hE
noncomputable def IteT (K:Frag) (b:Addr):It :=
  ⟨fun i H=>∃ xs x,SqT K H b xs/\xs[i]?=some x,
   fun i H x H'=>∃ T p,H T=none/\x=.ref T/\H'=upd H T (.tup [.int (i:Int),p])/\∀ xs,SqT K H b xs->xs[i]?=some p,
   fun i H=>∃ xs,SqT K H b xs/\xs.length<=i⟩
noncomputable def eTnT (e it b:Addr) (n:Nat) (h:Heap):Prop:=(∃ old,IsEnum h e it n old)/\h.IsTupleIter it b n
theorem Ui {P:Program} {w:World} {K:Frag} {elts:List Expr} {x1:Nat} {pos:Pos} {e it b:Addr} (ei:e≠it) (eb:e≠b) (ib:it≠b) :
  Turn P w K (.Tuple elts x1 pos) (IteT K b) [e,it] e (eTnT e it b) where
 mem:=by simp
 obj:=fun n h st k hk=>by
  obtain⟨⟨old,he⟩,⟨o1,e1,_,d1⟩⟩:=st;simp only[List.mem_cons,List.not_mem_nil,or_false] at hk;rcases hk with rfl|rfl
  ·exact⟨_,he,fun w e=>nomatch e⟩
  ·exact⟨_,e1,fun w e=>by rw[d1] at e;cases e⟩
 keep:=fun n h h' st k=>by
  obtain⟨⟨old,he⟩,h1⟩:=st;exact⟨⟨old,k e (by simp) _ he⟩,h1.at fun o z=>k it (by simp) o z⟩
 item:=by
  intro X hP hw hK hc n pins s σ H E I hf st hg;subst hP hw hK;obtain⟨⟨old,he⟩,h1⟩:=st;obtain⟨xs,x,q1,hx⟩:=hg;obtain⟨its,rv,p,sz1⟩:=I.tuple q1;obtain⟨vx,hvx,rx⟩:=rv.get hx;have pt:s.heap.IsTuple b its.toArray:=p;have hn:n<its.toArray.size:=by
   have:=(List.getElem?_eq_some_iff.mp hvx).1
   simpa using this
  have D:=Fw (prog:=X.prog) (w:=X.w) (A:=X.A.in1) (I.ok.hd hc) ib its.toArray;refine wpAny_pyNext_enum_itemD D he ⟨h1,pt⟩ hn ei (by simp[ei,eb]) fun v g tk hv a1 a2 a3 a4 a5=>?_;have ev:v=vx:=by
   have:its.toArray[n]?=some vx:=by simpa using hvx
   rw[this] at hv;cases hv;rfl
  subst ev;have lt:∀ {k o},s.heap.get? k=some o->k≠s.heap.objs.size:=fun e=>Nat.ne_of_lt (Heap.lt_size e);have li:it≠s.heap.objs.size:=by obtain⟨o,e,_⟩:=h1;exact lt e
  refine⟨_,rfl,wpAny_letOwnedTupleGo_enum a1 fun g' z' sb=>?_⟩;have nf:H s.heap.objs.size=none:=I.hok.fresh %[|3];have tp:g'.get? s.heap.objs.size=some {cls:=.type "tuple",data:=.seq #[.int n tk,v]}:=sb.extBut _ _ (Ne.symm (lt he)) a3;have I1:Inv X pins σ (upd H s.heap.objs.size (.tup [.int (n:Int),x])) {s with heap:=s.heap.push {cls:=.type "tuple",data:=.seq #[.int n tk,v]},toks:=s.toks} :=
   I.laid (fun k o e=>Heap.get?_push_of_some _ e) %[|3] ⟨by simp only[List.length_cons,List.length_nil];rw[sizeLine_eq];decide,[.int n tk,v],.cons ⟨tk,rfl⟩ (.cons rx .nil),⟨_,Heap.get?_push_size _ rfl,rfl,_,rfl⟩⟩
  have ff:∀ k∈[e,it],k≠s.heap.objs.size:=fun k hk=>by
   simp only[List.mem_cons,List.not_mem_nil,or_false] at hk;rcases hk with rfl|rfl
   ·exact lt he
   ·exact li
  have f':∀ k∈[e,it],FpOk X pins (upd H s.heap.objs.size (.tup [.int (n:Int),x])) k:=fun k hk=>⟨by rw[Y9 (ff k hk)];exact (hf k hk).1,(hf k hk).2⟩;have I2:Inv X pins σ (upd H s.heap.objs.size (.tup [.int (n:Int),x])) {s with heap:=g',toks:=tk+1}:=by
   refine YV (s:={s with heap:=s.heap.push {cls:=.type "tuple",data:=.seq #[.int n tk,v]},toks:=s.toks}) (h':=g') (t':=tk+1) I1 (fun k o hk e=>?_) f';rcases Heap.get?_push_cases e with ⟨rfl,rfl⟩|e'
   ·exact tp
   ·simp only[List.mem_cons,List.not_mem_nil,or_false,not_or] at hk
    exact sb.extBut _ _ hk.1 (a5 k o hk.1 hk.2 e')
  refine⟨.ref s.heap.objs.size,_,I2,rfl,⟨_,x,nf,rfl,rfl,fun xs' q=>by rw[I.tuple_inj q q1];exact hx⟩,?_,fun k hk=>(f' k hk).1⟩;exact⟨⟨_,z'⟩,a2.1.extBut sb.extBut ei.symm⟩
 done:=by
  intro X hP hw hK hc n pins s σ H E I hf st hg;subst hP hw hK;obtain⟨⟨old,he⟩,h1⟩:=st;obtain⟨xs,q1,hx⟩:=hg;obtain⟨its,rv,p,sz1⟩:=I.tuple q1;have l1:=rv.length;have pt:s.heap.IsTuple b its.toArray:=p;refine JW (I.ok.hd hc) he h1 pt (by simp;omega) fun g k=>⟨rfl,YV (h':=g) (t':=s.toks) I (fun m o hm e=>?_) hf⟩;simp only[List.mem_cons,List.not_mem_nil,or_false,not_or] at hm;exact k m o hm.2 e
 self:=fun _ _ _ _ _ st h=>by
  obtain⟨⟨old,he⟩,_⟩:=st;exact wpAny_pyIter_enum he h
theorem Fx {prog:Program} {w:World} {A:Around} (hh:A.handled=none) {it b:Addr} (hne:it≠b) (vs:Array Value):Draws prog w A it [it,b] vs.size (fun i v=>vs[i]?=some v) (fun i h=>h.IsListIter it b i/\h.IsList b vs) where
 live:=fun _ _ st=>let ⟨o,ho,_⟩:=st.1;⟨o,ho⟩
 frame:=fun _ _ _ st hk=>⟨let ⟨o,ho,r⟩:=st.1;⟨o,hk it (by simp) o ho,r⟩,let ⟨o,ho,r⟩:=st.2;⟨o,hk b (by simp) o ho,r⟩⟩
 item:=fun i s Q E hi st hQ=>wpAny_nextOf_list_item st.1 st.2 (show vs[i]?=some vs[i] by simp[hi]) fun g h1 sb=>hQ _ g s.toks (by simp[hi]) ⟨h1,let ⟨o,e,r⟩:=st.2;⟨o,sb.extBut _ _ hne.symm e,r⟩⟩ sb
 done:=fun s Q E st hE=>wpAny_nextOf_list_end hh st.1 st.2 (by simp) hE
noncomputable def IteL (K:Frag) (b:Addr):It :=
  ⟨fun i H=>∃ xs x,SqL K H b xs/\xs[i]?=some x,
   fun i H x H'=>∃ T p,H T=none/\x=.ref T/\H'=upd H T (.tup [.int (i:Int),p])/\∀ xs,SqL K H b xs->xs[i]?=some p,
   fun i H=>∃ xs,SqL K H b xs/\xs.length<=i⟩
noncomputable def eTnL (e it b:Addr) (n:Nat) (h:Heap):Prop:=(∃ old,IsEnum h e it n old)/\h.IsListIter it b n
theorem Uj {P:Program} {w:World} {K:Frag} {elts:List Expr} {x1:Nat} {pos:Pos} {e it b:Addr} (ei:e≠it) (eb:e≠b) (ib:it≠b) :
  Turn P w K (.Tuple elts x1 pos) (IteL K b) [e,it] e (eTnL e it b) where
 mem:=by simp
 obj:=fun n h st k hk=>by
  obtain⟨⟨old,he⟩,⟨o1,e1,_,d1⟩⟩:=st;simp only[List.mem_cons,List.not_mem_nil,or_false] at hk;rcases hk with rfl|rfl
  ·exact⟨_,he,fun w e=>nomatch e⟩
  ·exact⟨_,e1,fun w e=>by rw[d1] at e;cases e⟩
 keep:=fun n h h' st k=>by
  obtain⟨⟨old,he⟩,h1⟩:=st;exact⟨⟨old,k e (by simp) _ he⟩,h1.at fun o z=>k it (by simp) o z⟩
 item:=by
  intro X hP hw hK hc n pins s σ H E I hf st hg;subst hP hw hK;obtain⟨⟨old,he⟩,h1⟩:=st;obtain⟨xs,x,q1,hx⟩:=hg;obtain⟨its,rv,p,sz1⟩:=I.list q1;obtain⟨vx,hvx,rx⟩:=rv.get hx;have pt:s.heap.IsList b its.toArray:=p.isList;have hn:n<its.toArray.size:=by
   have:=(List.getElem?_eq_some_iff.mp hvx).1
   simpa using this
  have D:=Fx (prog:=X.prog) (w:=X.w) (A:=X.A.in1) (I.ok.hd hc) ib its.toArray;refine wpAny_pyNext_enum_itemD D he ⟨h1,pt⟩ hn ei (by simp[ei,eb]) fun v g tk hv a1 a2 a3 a4 a5=>?_;have ev:v=vx:=by
   have:its.toArray[n]?=some vx:=by simpa using hvx
   rw[this] at hv;cases hv;rfl
  subst ev;have lt:∀ {k o},s.heap.get? k=some o->k≠s.heap.objs.size:=fun e=>Nat.ne_of_lt (Heap.lt_size e);have li:it≠s.heap.objs.size:=by obtain⟨o,e,_⟩:=h1;exact lt e
  refine⟨_,rfl,wpAny_letOwnedTupleGo_enum a1 fun g' z' sb=>?_⟩;have nf:H s.heap.objs.size=none:=I.hok.fresh %[|3];have tp:g'.get? s.heap.objs.size=some {cls:=.type "tuple",data:=.seq #[.int n tk,v]}:=sb.extBut _ _ (Ne.symm (lt he)) a3;have I1:Inv X pins σ (upd H s.heap.objs.size (.tup [.int (n:Int),x])) {s with heap:=s.heap.push {cls:=.type "tuple",data:=.seq #[.int n tk,v]},toks:=s.toks} :=
   I.laid (fun k o e=>Heap.get?_push_of_some _ e) %[|3] ⟨by simp only[List.length_cons,List.length_nil];rw[sizeLine_eq];decide,[.int n tk,v],.cons ⟨tk,rfl⟩ (.cons rx .nil),⟨_,Heap.get?_push_size _ rfl,rfl,_,rfl⟩⟩
  have ff:∀ k∈[e,it],k≠s.heap.objs.size:=fun k hk=>by
   simp only[List.mem_cons,List.not_mem_nil,or_false] at hk;rcases hk with rfl|rfl
   ·exact lt he
   ·exact li
  have f':∀ k∈[e,it],FpOk X pins (upd H s.heap.objs.size (.tup [.int (n:Int),x])) k:=fun k hk=>⟨by rw[Y9 (ff k hk)];exact (hf k hk).1,(hf k hk).2⟩;have I2:Inv X pins σ (upd H s.heap.objs.size (.tup [.int (n:Int),x])) {s with heap:=g',toks:=tk+1}:=by
   refine YV (s:={s with heap:=s.heap.push {cls:=.type "tuple",data:=.seq #[.int n tk,v]},toks:=s.toks}) (h':=g') (t':=tk+1) I1 (fun k o hk e=>?_) f';rcases Heap.get?_push_cases e with ⟨rfl,rfl⟩|e'
   ·exact tp
   ·simp only[List.mem_cons,List.not_mem_nil,or_false,not_or] at hk
    exact sb.extBut _ _ hk.1 (a5 k o hk.1 hk.2 e')
  refine⟨.ref s.heap.objs.size,_,I2,rfl,⟨_,x,nf,rfl,rfl,fun xs' q=>by rw[I.list_inj q q1];exact hx⟩,?_,fun k hk=>(f' k hk).1⟩;exact⟨⟨_,z'⟩,a2.1.extBut sb.extBut ei.symm⟩
 done:=by
  intro X hP hw hK hc n pins s σ H E I hf st hg;subst hP hw hK;obtain⟨⟨old,he⟩,h1⟩:=st;obtain⟨xs,q1,hx⟩:=hg;obtain⟨its,rv,p,sz1⟩:=I.list q1;have l1:=rv.length;have pt:s.heap.IsList b its.toArray:=p.isList;refine JX (I.ok.hd hc) he h1 pt (by simp;omega) fun g k=>⟨rfl,YV (h':=g) (t':=s.toks) I (fun m o hm e=>?_) hf⟩;simp only[List.mem_cons,List.not_mem_nil,or_false,not_or] at hm;exact k m o hm.2 e
 self:=fun _ _ _ _ _ st h=>by
  obtain⟨⟨old,he⟩,_⟩:=st;exact wpAny_pyIter_enum he h
noncomputable def enD (xs:List D):List D:=xs.mapIdx fun i x=>.tup [.int (i:Int),x]
noncomputable def Vi:List D->Mem->(List D->(Mem->Prop)->Mem->Prop)->Prop
 | [.tup xs],M,R=>R (enD xs) (fun _=>True) M
 | [.lst a],M,R=>∃ xs,M a=some (.ls xs)/\R (enD xs) (fun M'=>M' a=some (.ls xs)) M
 | _,_,_=>False
noncomputable def Vm (ta:DA):DI:=fun δ M R=>ta δ M fun ds M1=>Vi ds M1 R
theorem JJ {K:Frag} {H0:Hp} {a:Addr} {vs:List V} {xs:List D} (ha:SqT K H0 a vs) (r:RelDs K H0 vs xs):ItD K H0 (IteT K a) (enD xs) (fun _=>True):=fun i H M x m k=>by
 have ha':=x.tup _ _ ha;have r':=r.ext x;have l1:=r.length;refine⟨fun hl=>?_,fun hl=>?_,fun y H' hy=>?_⟩
 ·simp only[enD,List.length_mapIdx] at hl
  exact⟨vs,vs[i]'(by omega),ha',List.getElem?_eq_getElem _⟩
 ·simp only[enD,List.length_mapIdx] at hl
  exact⟨vs,ha',by omega⟩
 ·obtain⟨T,p,hn,rfl,rfl,e1⟩:=hy
  have ex:HExt K H (L2.upd H T (.tup [.int (i:Int),p])):=HExt.upd (.inl hn);refine⟨ex,m.tup hn,fun d hd=>?_⟩;simp only[enD,List.getElem?_mapIdx] at hd;have f1:=e1 _ ha';cases h1:xs[i]? with
  | none=>rw [h1] at hd;simp at hd
  | some dx =>
   rw[h1] at hd;simp at hd;subst hd;obtain⟨v1,g1,g2⟩:=r'.get h1;rw[f1] at g1;cases g1;exact .tup (.inl (.of L2.upd_same)) (.cons (.int _) (.cons (g2.ext ex) .nil))
theorem JK {K:Frag} {H0:Hp} {a:Addr} {xs:List D}:ItD K H0 (IteL K a) (enD xs) (fun M'=>M' a=some (.ls xs)):=fun i H M x m k=>by
 obtain⟨vs,ev,r'⟩:=m _ _ k;have l1:=r'.length;refine⟨fun hl=>?_,fun hl=>?_,fun y H' hy=>?_⟩
 ·simp only[enD,List.length_mapIdx] at hl
  exact⟨vs,vs[i]'(by omega),.of ev,List.getElem?_eq_getElem _⟩
 ·simp only[enD,List.length_mapIdx] at hl
  exact⟨vs,.of ev,by omega⟩
 ·obtain⟨T,p,hn,rfl,rfl,e1⟩:=hy
  have ex:HExt K H (L2.upd H T (.tup [.int (i:Int),p])):=HExt.upd (.inl hn);refine⟨ex,m.tup hn,fun d hd=>?_⟩;simp only[enD,List.getElem?_mapIdx] at hd;have f1:=e1 _ (.of ev);cases h1:xs[i]? with
  | none=>rw [h1] at hd;simp at hd
  | some dx =>
   rw[h1] at hd;simp at hd;subst hd;obtain⟨v1,g1,g2⟩:=r'.get h1;rw[f1] at g1;cases g1;exact .tup (.inl (.of L2.upd_same)) (.cons (.int _) (.cons (g2.ext ex) .nil))
section
variable {X:Cx} {rz:Bool} {Xe:DSt->DK} {pos:Pos}
theorem Cm {a:Expr} {es:List Expr} {ta:DA} {p:Pos} {elts:List Expr} {x1:Nat} {tp:Pos} (hg:Gl X "enumerate") (hm:X.mg "enumerate"=none) (ha:PA X (a::es) (Z4 (X.L rz Xe) ta)) (hs:starEach (a::es) X.env=(false,eval a X.env)::starEach es X.env) (hpl:(backTo pos (starEach es X.env)).any (·.1)=false) :
  PI X (.Tuple elts x1 tp) (.Call (.Name "enumerate" p) (a::es) [] pos) (Zi (X.L rz Xe) (Vm ta)):=by
 rintro pins s σ H R I ⟨δ,M,Rd,rs,rm,t,q⟩;refine Call_ (ZL I hg hm boot_enumerate (PyProof.Rows.callWith_type1 (thn (ha pos pins s σ H (fun vs H1=>(∃ b xs,vs=[.ref b]/\SqT X.K H1 b xs/\R (IteT X.K b) H1)\/∃ b xs,vs=[.ref b]/\SqL X.K H1 b xs/\R (IteL X.K b) H1) I ⟨δ,M,_,rs,rm,t,fun ds M1 vs H1 x1 m1 r1 h1=>?_⟩) fun us s1 ⟨vs,H1,I1,r1,q1⟩=>?_) hs hpl))
 ·unfold Vi at h1
  split at h1
  ·cases r1 with
   | cons ra rr =>
    cases rr;cases ra with
    | tup ha ra=>exact .inl ⟨_,_,rfl,ha,q _ _ _ _ _ x1 m1 trivial (JJ ha ra) h1⟩
  ·obtain⟨xs,ea,h1⟩:=h1
   cases r1 with
   | cons ra rr =>
    cases rr;cases ra;obtain⟨vs,ev,_⟩:=m1 _ _ ea;exact .inr ⟨_,_,rfl,.of ev,q _ _ _ _ _ x1 m1 ea JK h1⟩
  ·exact h1.elim
 ·have fin:∀ m∈[s1.heap.objs.size+1,s1.heap.objs.size],FpOk X pins H1 m:=fun m hm=>by
   have le:s1.heap.objs.size<=m:=by
    simp only[List.mem_cons,List.not_mem_nil,or_false] at hm;rcases hm with rfl|rfl
    ·exact Nat.le_add_right _ _
    ·exact Nat.le_refl _
   exact I1.fpOk le (I1.hok.fresh le)
  rcases q1 with q1|q1
  ·obtain⟨b,xs,e,hb,q⟩:=q1
   subst e;cases r1 with
   | cons r rr =>
    cases rr;cases r;obtain⟨its,rv,pb,_⟩:=I1.tuple hb;have lb:b<s1.heap.objs.size:=by obtain⟨o,e,_⟩:=pb;exact Heap.lt_size e
    refine UN (show s1.heap.IsTuple b its.toArray from pb) fun g st1 st2 _ k=>?_;refine wpAny_pyIter_enum st1 ?_;exact⟨_,[s1.heap.objs.size+1,s1.heap.objs.size],_,_,H1,rfl,I1.kept (t':=s1.toks) k,Ui (Nat.succ_ne_self _) (Nat.ne_of_gt (Nat.lt_succ_of_lt lb)) (Nat.ne_of_gt lb),⟨⟨_,st1⟩,st2⟩,fin,q⟩
  ·obtain⟨b,xs,e,hb,q⟩:=q1
   subst e;cases r1 with
   | cons r rr =>
    cases rr;cases r;obtain⟨its,rv,pb,_⟩:=I1.list hb;have lb:b<s1.heap.objs.size:=by obtain⟨o,e,_⟩:=pb.isList;exact Heap.lt_size e
    refine call_enumerate_list pb.isList fun g st1 st2 _ k=>?_;refine wpAny_pyIter_enum st1 ?_;exact⟨_,[s1.heap.objs.size+1,s1.heap.objs.size],_,_,H1,rfl,I1.kept (t':=s1.toks) k,Uj (Nat.succ_ne_self _) (Nat.ne_of_gt (Nat.lt_succ_of_lt lb)) (Nat.ne_of_gt lb),⟨⟨_,st1⟩,st2⟩,fin,q⟩
end
end DL
end
noncomputable section
namespace DL
open PySem PySem.Spec PyProof.Rows L2
abbrev YN (h:Heap) (z TI TO:Addr) (f0 fl:Value):Prop :=
 h.get? z=some {cls:=.type "zip",dict:=none,data:=.fields #[f0,fl,.bool false,.ref TI,.ref TO],slots:=#[]}
noncomputable def OldZ (f:Value):Prop:=f=.none\/∃ T:Addr,f=rawInt T
section
variable {prog:Program} {w:World} {A:Around} {E:Value->Shared->Prop} {s:Shared}
theorem A4 {M:Model} {a:Addr} {Q:Option Obj->Shared->Prop} (h:Q (s.heap.get? a) s):wpAny M A (loadIfAlive a) Q E s:=fun Γ p _=>by
 show Sem.wp M Γ (.loadIfAlive a .pure) _ _ p s;rw[Sem.wp_loadIfAlive];exact h
theorem Wy {z TI TO:Addr} {f0 fl:Value} {Q:Bool->Shared->Prop} (hz:YN s.heap z TI TO f0 fl) (ho:OldZ f0) (h1:Q true s)
  (h2:∀ h' fl',YN h' z TI TO f0 fl'->Heap.SameBut z s.heap h'->Q false {s with heap:=h'}):wpAny (model prog w) A (Builtin.SmallTypes.ownedTupleIsFree (.ref z)) Q E s:=by
 unfold Builtin.SmallTypes.ownedTupleIsFree;refine wpAny_bind (wpAny_field hz rfl (x:=f0) rfl ?_);rcases ho with rfl|⟨T,rfl⟩
 ·exact wpAny_pure h1
 ·show wpAny _ _ (loadIfAlive ((T:Int).toNat) >>= _) _ _ _
  refine wpAny_bind (A4 ?_);cases s.heap.get? ((T:Int).toNat) with
  | none=>exact wpAny_pure h1
  | some o =>
   show wpAny _ _ (field (.ref z) 1 >>= _) _ _ _;refine wpAny_bind (wpAny_field hz rfl (x:=fl) rfl ?_);by_cases c:(fl != .bool true)=true
   ·rw[if_pos c]
    refine wpAny_bind (wpAny_setField_rec hz (by simp) fun h' hz' hs=>?_);exact wpAny_pure (h2 h' _ hz' hs)
   ·rw[if_neg c]
    exact wpAny_pure (h2 s.heap fl hz (Heap.SameBut.refl _ _))
theorem Jo {z TI TO i1 i2 l1 l2:Addr} {k1 k2:Nat} {xs ys:Array Value} {x y a b f0 fl:Value} {Q:Value->Shared->Prop} (D:ZipApart z TI TO i1 i2 l1 l2)
  (hz:YN s.heap z TI TO f0 fl) (ho:OldZ f0) (hTI:IsPair s.heap TI (.ref i1) (.ref i2)) (hTO:IsPair s.heap TO a b)
  (h1:s.heap.IsListIter i1 l1 k1) (h2:s.heap.IsListIter i2 l2 k2) (hl1:s.heap.IsList l1 xs) (hl2:s.heap.IsList l2 ys) (hx:xs[k1]?=some x) (hy:ys[k2]?=some y)
  (hQ:∀ h' f0' fl',YN h' z TI TO f0' fl'->OldZ f0'->(∃ a b,IsPair h' TO a b)->h'.IsListIter i1 l1 (k1+1)->h'.IsListIter i2 l2 (k2+1)->IsPair h' s.heap.objs.size x y->h'.objs.size=s.heap.objs.size+1 ->
   (∀ c o,c≠z->c≠TO->c≠i1->c≠i2->s.heap.get? c=some o->h'.get? c=some o)->Q (.ref s.heap.objs.size) {s with heap:=h'}) :
  wpAny (model prog w) A (Builtin.«zip.__next__» ⟨[.ref z],[]⟩) (fun fin s'=>∃ v,fin=.done (.ret v)/\Q v s') E s:=by
 show wpAny _ _ (field (.ref z) 2 >>= _) _ _ _;refine wpAny_bind (wpAny_field hz rfl (x:=.bool false) rfl ?_);show wpAny _ _ (field (.ref z) 3 >>= _) _ _ _;refine wpAny_bind (wpAny_field hz rfl (x:=.ref TI) rfl ?_);refine wpAny_bind (wpAny_seqItems hTI rfl ?_);show wpAny _ _ (Builtin.SmallTypes.ownedTupleIsFree (.ref z) >>= _) _ _ _;refine wpAny_bind (Wy hz ho ?_ fun h₀ fl₀ hz₀ hs₀=>?_)
 ·simp only[if_true]
  refine wpAny_bind (wpAny_rule ?_);refine wpAny_bind (wpAny_field hz rfl (x:=.ref TO) rfl ?_);refine wpAny_bind (wpAny_setField_rec hz (by simp) fun h₁ hz₁ hs₁=>?_)
  replace hz₁:YN h₁ z TI TO .ellipsis fl:=hz₁
  refine wpAny_bind ?_;simp only[List.zipIdx_cons,List.zipIdx_nil,List.forIn_cons,List.forIn_nil];refine wpAny_bind (wpAny_bind (wpAny_onRaise ?_));show wpAny _ _ (Builtin.SmallTypes.nextOf (.ref i1) >>= _) _ _ _;refine wpAny_bind (wpAny_nextOf_list_item (h1.extBut hs₁.extBut D.i1z) (hl1.extBut hs₁.extBut D.l1z) hx fun h₂ h1₂ hs₂=>wpAny_pure ?_);have hTO₂:IsPair h₂ TO a b:=hs₂.extBut _ _ D.TOi1 (hs₁.extBut _ _ D.TOz hTO);refine wpAny_bind (wpAny_seqItems hTO₂ rfl ?_);refine wpAny_bind (wpAny_updateSeq_pair hTO₂ fun h₃ hTO₃ hs₃=>?_)
  replace hTO₃:IsPair h₃ TO x b:=hTO₃
  refine wpAny_bind (wpAny_letGo (wpAny_pure ?_));refine wpAny_bind (wpAny_bind (wpAny_onRaise ?_));show wpAny _ _ (Builtin.SmallTypes.nextOf (.ref i2) >>= _) _ _ _;refine wpAny_bind (wpAny_nextOf_list_item (((h2.extBut hs₁.extBut D.i2z).extBut hs₂.extBut D.i12.symm).extBut hs₃.extBut D.TOi2.symm)
   (((hl2.extBut hs₁.extBut D.l2z).extBut hs₂.extBut D.l2i1).extBut hs₃.extBut D.l2TO) hy fun h₄ h2₄ hs₄=>wpAny_pure ?_)
  have hTO₄:IsPair h₄ TO x b:=hs₄.extBut _ _ D.TOi2 hTO₃;refine wpAny_bind (wpAny_seqItems hTO₄ rfl ?_);refine wpAny_bind (wpAny_updateSeq_pair hTO₄ fun h₅ hTO₅ hs₅=>?_)
  replace hTO₅:IsPair h₅ TO x y:=hTO₅
  refine wpAny_bind (wpAny_letGo (wpAny_pure (wpAny_pure ?_)));refine wpAny_bind (wpAny_seqItems hTO₅ rfl ?_);refine wpAny_bind (wpAny_newTuple ?_);have hsz:h₅.objs.size=s.heap.objs.size:=by rw[hs₅.1,hs₄.1,hs₃.1,hs₂.1,hs₁.1]
  have hz₅:YN h₅ z TI TO .ellipsis fl:=hs₅.extBut _ _ D.TOz.symm (hs₄.extBut _ _ D.i2z.symm (hs₃.extBut _ _ D.TOz.symm (hs₂.extBut _ _ D.i1z.symm hz₁)));have hk₅:∀ c o,c≠z->c≠TO->c≠i1->c≠i2->s.heap.get? c=some o->h₅.get? c=some o:=fun c o c1 c2 c3 c4 e =>
   hs₅.extBut _ _ c2 (hs₄.extBut _ _ c4 (hs₃.extBut _ _ c2 (hs₂.extBut _ _ c3 (hs₁.extBut _ _ c1 e))))
  have h1₅:h₅.IsListIter i1 l1 (k1+1):=((h1₂.extBut hs₃.extBut D.TOi1.symm).extBut hs₄.extBut D.i12).extBut hs₅.extBut D.TOi1.symm;have h2₅:h₅.IsListIter i2 l2 (k2+1):=h2₄.extBut hs₅.extBut D.TOi2.symm;have hzlt:z<h₅.objs.size:=Heap.lt_size hz₅;show wpAny _ _ (Builtin.SmallTypes.ownedTupleHandOut (.ref z) (.ref h₅.objs.size) >>= _) _ _ _;refine wpAny_bind ?_;unfold Builtin.SmallTypes.ownedTupleHandOut;have hz₆:YN (h₅.push {cls:=.type "tuple",data:=.seq #[x,y]}) z TI TO .ellipsis fl:=Heap.get?_push_of_some _ hz₅;refine wpAny_bind (wpAny_setField_rec hz₆ (by simp) fun h₇ hz₇ hs₇=>?_)
  replace hz₇:YN h₇ z TI TO (rawInt h₅.objs.size) fl:=hz₇
  refine wpAny_setField_rec hz₇ (by simp) fun h₈ hz₈ hs₈=>?_
  replace hz₈:YN h₈ z TI TO (rawInt h₅.objs.size) (.bool false):=hz₈
  have up:∀ c o,c≠z->h₅.get? c=some o->h₈.get? c=some o:=fun c o c1 e=>hs₈.extBut _ _ c1 (hs₇.extBut _ _ c1 (Heap.get?_push_of_some _ e));have hT₈:IsPair h₈ h₅.objs.size x y:=hs₈.extBut _ _ (Nat.ne_of_gt hzlt) (hs₇.extBut _ _ (Nat.ne_of_gt hzlt) (Heap.get?_push_size _ rfl));have hz8:h₈.objs.size=h₅.objs.size+1:=by rw[hs₈.1,hs₇.1,Heap.size_push]
  rw[hsz] at hz₈ hT₈ hz8;refine wpAny_pure ⟨_,rfl,?_⟩;show Q (.ref h₅.objs.size) _;rw[hsz];exact hQ h₈ _ _ hz₈ (.inr ⟨_,rfl⟩) ⟨_,_,up _ _ D.TOz hTO₅⟩ (h1₅.at fun o e=>up _ o D.i1z e) (h2₅.at fun o e=>up _ o D.i2z e) hT₈ hz8 fun c o c1 c2 c3 c4 e=>up c o c1 (hk₅ c o c1 c2 c3 c4 e)
 ·simp only[Bool.false_eq_true,if_false]
  refine wpAny_bind ?_;rw[<- Array.forIn_toList];simp only[List.forIn_cons,List.forIn_nil];refine wpAny_bind (wpAny_bind (wpAny_holding ?_));show wpAny _ _ (Builtin.SmallTypes.nextOf (.ref i1) >>= _) _ _ _;refine wpAny_bind (wpAny_nextOf_list_item (h1.extBut hs₀.extBut D.i1z) (hl1.extBut hs₀.extBut D.l1z) hx fun h₂ h1₂ hs₂=>wpAny_pure (wpAny_pure ?_));refine wpAny_bind (wpAny_bind (wpAny_holding ?_));show wpAny _ _ (Builtin.SmallTypes.nextOf (.ref i2) >>= _) _ _ _;refine wpAny_bind (wpAny_nextOf_list_item ((h2.extBut hs₀.extBut D.i2z).extBut hs₂.extBut D.i12.symm) ((hl2.extBut hs₀.extBut D.l2z).extBut hs₂.extBut D.l2i1) hy fun h₄ h2₄ hs₄=>wpAny_pure (wpAny_pure (wpAny_pure ?_)));show wpAny _ _ (newTuple [x,y] >>= _) _ _ _;refine wpAny_bind (wpAny_newTuple ?_);have hsz:h₄.objs.size=s.heap.objs.size:=by rw[hs₄.1,hs₂.1,hs₀.1]
  have hz₄:YN h₄ z TI TO f0 fl₀:=hs₄.extBut _ _ D.i2z.symm (hs₂.extBut _ _ D.i1z.symm hz₀);have hTO₄:IsPair h₄ TO a b:=hs₄.extBut _ _ D.TOi2 (hs₂.extBut _ _ D.TOi1 (hs₀.extBut _ _ D.TOz hTO));have hk₄:∀ c o,c≠z->c≠TO->c≠i1->c≠i2->s.heap.get? c=some o->h₄.get? c=some o:=fun c o c1 c2 c3 c4 e =>
   hs₄.extBut _ _ c4 (hs₂.extBut _ _ c3 (hs₀.extBut _ _ c1 e))
  have h1₄:h₄.IsListIter i1 l1 (k1+1):=h1₂.extBut hs₄.extBut D.i12;refine wpAny_pure ⟨_,rfl,?_⟩;show Q (.ref h₄.objs.size) _;rw[hsz];have hT:IsPair (h₄.push {cls:=.type "tuple",data:=.seq #[x,y]}) h₄.objs.size x y:=Heap.get?_push_size _ rfl;rw[hsz] at hT;exact hQ _ _ _ (Heap.get?_push_of_some _ hz₄) ho ⟨_,_,Heap.get?_push_of_some _ hTO₄⟩ (h1₄.at fun o e=>Heap.get?_push_of_some _ e) (h2₄.at fun o e=>Heap.get?_push_of_some _ e) hT (by rw[Heap.size_push,hsz]) fun c o c1 c2 c3 c4 e=>Heap.get?_push_of_some _ (hk₄ c o c1 c2 c3 c4 e)
theorem A5 {z TI TO i1 i2 l1 l2:Addr} {k1 k2:Nat} {xs ys:Array Value} {a b f0 fl:Value} {Q:Fin->Shared->Prop} (hh:A.handled=none) (D:ZipApart z TI TO i1 i2 l1 l2)
  (hz:YN s.heap z TI TO f0 fl) (ho:OldZ f0) (hTI:IsPair s.heap TI (.ref i1) (.ref i2)) (hTO:IsPair s.heap TO a b)
  (h1:s.heap.IsListIter i1 l1 k1) (h2:s.heap.IsListIter i2 l2 k2) (hl1:s.heap.IsList l1 xs) (hl2:s.heap.IsList l2 ys) (hend:xs[k1]?=none\/ys[k2]?=none)
  (hE:∀ h' e,(∀ c o,c≠z->c≠TO->c≠i1->c≠i2->s.heap.get? c=some o->h'.get? c=some o)->(∃ o,h'.get? e=some o/\o.cls=.type "StopIteration")->E (.ref e) {s with heap:=h'}) :
  wpAny (model prog w) A (Builtin.«zip.__next__» ⟨[.ref z],[]⟩) Q E s:=by
 show wpAny _ _ (field (.ref z) 2 >>= _) _ _ _;refine wpAny_bind (wpAny_field hz rfl (x:=.bool false) rfl ?_);show wpAny _ _ (field (.ref z) 3 >>= _) _ _ _;refine wpAny_bind (wpAny_field hz rfl (x:=.ref TI) rfl ?_);refine wpAny_bind (wpAny_seqItems hTI rfl ?_);show wpAny _ _ (Builtin.SmallTypes.ownedTupleIsFree (.ref z) >>= _) _ _ _;refine wpAny_bind (Wy hz ho ?_ fun h₀ fl₀ hz₀ hs₀=>?_)
 ·simp only[if_true]
  refine wpAny_bind (wpAny_rule ?_);refine wpAny_bind (wpAny_field hz rfl (x:=.ref TO) rfl ?_);refine wpAny_bind (wpAny_setField_rec hz (by simp) fun h₁ hz₁ hs₁=>?_)
  replace hz₁:YN h₁ z TI TO .ellipsis fl:=hz₁
  refine wpAny_bind ?_;simp only[List.zipIdx_cons,List.zipIdx_nil,List.forIn_cons,List.forIn_nil];refine wpAny_bind (wpAny_bind (wpAny_onRaise ?_));show wpAny _ _ (Builtin.SmallTypes.nextOf (.ref i1) >>= _) _ _ _;cases hx:xs[k1]? with
  | none =>
   refine wpAny_bind (wpAny_nextOf_list_end hh (h1.extBut hs₁.extBut D.i1z) (hl1.extBut hs₁.extBut D.l1z) hx fun h₂ e hs₂ he=>?_);obtain⟨oe,hoe,hce⟩:=he;have hz₂:YN h₂ z TI TO .ellipsis fl:=hs₂ _ _ D.i1z.symm hz₁;have hez:e≠z:=fun x=>by subst x;rw[hz₂] at hoe;cases hoe;simp at hce
   refine wpAny_setField_rec hz₂ (by simp) fun h₃ _ hs₃=>hE h₃ e (fun c o c1 _ c3 _ x=>hs₃.extBut _ _ c1 (hs₂ _ _ c3 (hs₁.extBut _ _ c1 x))) ⟨oe,hs₃.extBut _ _ hez hoe,hce⟩
  | some x =>
   have hy:ys[k2]?=none:=by rcases hend with h|h;rw[hx] at h;cases h;exact h
   refine wpAny_bind (wpAny_nextOf_list_item (h1.extBut hs₁.extBut D.i1z) (hl1.extBut hs₁.extBut D.l1z) hx fun h₂ h1₂ hs₂=>wpAny_pure ?_);have hTO₂:IsPair h₂ TO a b:=hs₂.extBut _ _ D.TOi1 (hs₁.extBut _ _ D.TOz hTO);refine wpAny_bind (wpAny_seqItems hTO₂ rfl ?_);refine wpAny_bind (wpAny_updateSeq_pair hTO₂ fun h₃ hTO₃ hs₃=>?_);refine wpAny_bind (wpAny_letGo (wpAny_pure ?_));refine wpAny_bind (wpAny_bind (wpAny_onRaise ?_));show wpAny _ _ (Builtin.SmallTypes.nextOf (.ref i2) >>= _) _ _ _;refine wpAny_bind (wpAny_nextOf_list_end hh (((h2.extBut hs₁.extBut D.i2z).extBut hs₂.extBut D.i12.symm).extBut hs₃.extBut D.TOi2.symm)
    (((hl2.extBut hs₁.extBut D.l2z).extBut hs₂.extBut D.l2i1).extBut hs₃.extBut D.l2TO) hy fun h₄ e hs₄ he=>?_)
   obtain⟨oe,hoe,hce⟩:=he;have hz₄:YN h₄ z TI TO .ellipsis fl:=hs₄ _ _ D.i2z.symm (hs₃.extBut _ _ D.TOz.symm (hs₂.extBut _ _ D.i1z.symm hz₁));have hez:e≠z:=fun x=>by subst x;rw[hz₄] at hoe;cases hoe;simp at hce
   refine wpAny_setField_rec hz₄ (by simp) fun h₅ _ hs₅=>hE h₅ e (fun c o c1 c2 c3 c4 x=>hs₅.extBut _ _ c1 (hs₄ _ _ c4 (hs₃.extBut _ _ c2 (hs₂.extBut _ _ c3 (hs₁.extBut _ _ c1 x))))) ⟨oe,hs₅.extBut _ _ hez hoe,hce⟩
 ·simp only[Bool.false_eq_true,if_false]
  refine wpAny_bind ?_;rw[<- Array.forIn_toList];simp only[List.forIn_cons,List.forIn_nil];refine wpAny_bind (wpAny_bind (wpAny_holding ?_));show wpAny _ _ (Builtin.SmallTypes.nextOf (.ref i1) >>= _) _ _ _;cases hx:xs[k1]? with
  | none =>
   refine wpAny_bind (wpAny_nextOf_list_end hh (h1.extBut hs₀.extBut D.i1z) (hl1.extBut hs₀.extBut D.l1z) hx fun h₂ e hs₂ he=>?_);exact hE h₂ e (fun c o c1 _ c3 _ x=>hs₂ _ _ c3 (hs₀.extBut _ _ c1 x)) he
  | some x =>
   have hy:ys[k2]?=none:=by rcases hend with h|h;rw[hx] at h;cases h;exact h
   refine wpAny_bind (wpAny_nextOf_list_item (h1.extBut hs₀.extBut D.i1z) (hl1.extBut hs₀.extBut D.l1z) hx fun h₂ h1₂ hs₂=>wpAny_pure (wpAny_pure ?_));refine wpAny_bind (wpAny_bind (wpAny_holding ?_));show wpAny _ _ (Builtin.SmallTypes.nextOf (.ref i2) >>= _) _ _ _;refine wpAny_bind (wpAny_nextOf_list_end hh ((h2.extBut hs₀.extBut D.i2z).extBut hs₂.extBut D.i12.symm) ((hl2.extBut hs₀.extBut D.l2z).extBut hs₂.extBut D.l2i1) hy fun h₄ e hs₄ he=>?_);exact hE h₄ e (fun c o c1 _ c3 c4 x=>hs₄ _ _ c4 (hs₂.extBut _ _ c3 (hs₀.extBut _ _ c1 x))) he
noncomputable def zSt (z u v i j b c:Addr) (n:Nat) (h:Heap):Prop:=(∃ f0 fl,YN h z u v f0 fl/\OldZ f0)/\IsPair h u (.ref i) (.ref j)/\(∃ a d,IsPair h v a d)/\h.IsListIter i b n/\h.IsListIter j c n
theorem zSt.frame {z u v i j b c:Addr} {n:Nat} {h h':Heap} (st:zSt z u v i j b c n h) (k:∀ m∈[z,u,v,i,j],∀ o,h.get? m=some o->h'.get? m=some o):zSt z u v i j b c n h':=by
 obtain⟨⟨f0,fl,hz,ho⟩,hu,⟨a,d,hv⟩,h1,h2⟩:=st;exact⟨⟨f0,fl,k z (by simp) _ hz,ho⟩,k u (by simp) _ hu,⟨a,d,k v (by simp) _ hv⟩,h1.at fun o e=>k i (by simp) o e,h2.at fun o e=>k j (by simp) o e⟩
theorem VT {z u v i j b c:Addr} {n:Nat} {xs ys:Array Value} {x y:Value} {Q:Value->Shared->Prop} (D:ZipApart z u v i j b c)
  (st:zSt z u v i j b c n s.heap) (hl1:s.heap.IsList b xs) (hl2:s.heap.IsList c ys) (hx:xs[n]?=some x) (hy:ys[n]?=some y)
  (hQ:∀ h',zSt z u v i j b c (n+1) h'->IsPair h' s.heap.objs.size x y->h'.objs.size=s.heap.objs.size+1 ->
   (∀ k o,k ∉ [z,v,i,j]->s.heap.get? k=some o->h'.get? k=some o)->Q (.ref s.heap.objs.size) {s with heap:=h'}) :
  wpAny (model prog w) A (Builtin.SmallTypes.nextOf (.ref z)) Q E s:=by
 obtain⟨⟨f0,fl,hz,ho⟩,hu,⟨a,d,hv⟩,h1,h2⟩:=st;have hT:s.TypeIs (.ref z) "zip":=⟨_,hz,rfl⟩;unfold Builtin.SmallTypes.nextOf;refine wpAny_bind (wpAny_callSpecial?_slot (name:=Str.ofString "__next__") hT F.slot_zip_next
  (wpAny_call_entry F.slot_zip_next hT F.entry_zip_next
   (Jo D hz ho hu hv h1 h2 hl1 hl2 hx hy fun h' f0' fl' a1 a2 a3 a4 a5 a6 a7 a8=>?_) (F.args_zip_next_1 _)))
 refine wpAny_pure (hQ h' ⟨⟨_,_,a1,a2⟩,a8 _ _ D.TIz D.TITO D.TIi1 D.TIi2 hu,a3,a4,a5⟩ a6 a7 fun k o hk e=>?_);simp only[List.mem_cons,List.not_mem_nil,or_false,not_or] at hk;exact a8 k o hk.1 hk.2.1 hk.2.2.1 hk.2.2.2 e
theorem XO {z u v i j b c:Addr} {n:Nat} {xs ys:Array Value} {Q:Value->Shared->Prop} (hh:A.in1.handled=none) (D:ZipApart z u v i j b c)
  (st:zSt z u v i j b c n s.heap) (hl1:s.heap.IsList b xs) (hl2:s.heap.IsList c ys) (hend:xs[n]?=none\/ys[n]?=none)
  (hE:∀ h' e,(∀ k o,k ∉ [z,v,i,j]->s.heap.get? k=some o->h'.get? k=some o)->(∃ o,h'.get? e=some o/\o.cls=.type "StopIteration")->E (.ref e) {s with heap:=h'}) :
  wpAny (model prog w) A (Builtin.SmallTypes.nextOf (.ref z)) Q E s:=by
 obtain⟨⟨f0,fl,hz,ho⟩,hu,⟨a,d,hv⟩,h1,h2⟩:=st;have hT:s.TypeIs (.ref z) "zip":=⟨_,hz,rfl⟩;unfold Builtin.SmallTypes.nextOf;refine wpAny_bind (wpAny_callSpecial?_slot (name:=Str.ofString "__next__") hT F.slot_zip_next
  (wpAny_call_entry F.slot_zip_next hT F.entry_zip_next
   (A5 hh D hz ho hu hv h1 h2 hl1 hl2 hend fun h' e hk he=>hE h' e (fun k o hn x=>?_) he) (F.args_zip_next_1 _)))
 simp only[List.mem_cons,List.not_mem_nil,or_false,not_or] at hn;exact hk k o hn.1 hn.2.1 hn.2.2.1 hn.2.2.2 x
theorem UH {e z u v i j b c:Addr} {n:Nat} {xs ys:Array Value} {x y old:Value} {Q:Option Value->Shared->Prop} (D:ZipApart z u v i j b c)
  (he:IsEnum s.heap e z n old) (st:zSt z u v i j b c n s.heap) (hl1:s.heap.IsList b xs) (hl2:s.heap.IsList c ys) (hx:xs[n]?=some x) (hy:ys[n]?=some y) (hef:e ∉ [z,u,v,i,j])
  (hQ:∀ h',IsEnumOut h' e z ((n:Int)+1) (.ref s.heap.objs.size) (s.heap.objs.size+1)->zSt z u v i j b c (n+1) h'->IsPair h' s.heap.objs.size x y ->
   h'.get? (s.heap.objs.size+1)=some {cls:=.type "tuple",data:=.seq #[.int n s.toks,.ref s.heap.objs.size]} ->
   (∀ k o,k ∉ [e,z,v,i,j]->s.heap.get? k=some o->h'.get? k=some o)->Q (some (.ref (s.heap.objs.size+1))) {s with heap:=h',toks:=s.toks+1}) :
  wpAny (model prog w) A (pyNext (.ref e)) Q E s:=by
 have hT:s.TypeIs (.ref e) "enumerate":=⟨_,he,rfl⟩;unfold pyNext;refine wpAny_bind (wpAny_attempt (wpAny_callSpecial?_slot (name:=Str.ofString "__next__") hT F.slot_enumerate_next
  (wpAny_call_entry F.slot_enumerate_next hT F.entry_enumerate_next ?_ (F.args_enumerate_next_1 _))))
 simp only[List.mem_cons,List.not_mem_nil,or_false,not_or] at hef;obtain⟨e1,e2,e3,e4,e5⟩:=hef;obtain⟨hp,g,dd,tk,os⟩:=s;show wpAny _ _ (field (.ref e) 2 >>= _) _ _ _;refine wpAny_bind (wpAny_field he rfl (x:=.ref z) rfl ?_);refine wpAny_bind (VT D st hl1 hl2 hx hy fun h₁ st₁ T₁ z₁ k₁=>?_)
 replace T₁:IsPair h₁ hp.objs.size x y:=T₁
 replace z₁:h₁.objs.size=hp.objs.size+1:=z₁
 have he₁:IsEnum h₁ e z n old:=k₁ _ _ (by simp[e1,e3,e4,e5]) he;show wpAny _ _ (field (.ref e) 3 >>= _) _ _ ⟨h₁,g,dd,tk,os⟩;refine wpAny_bind (wpAny_field he₁ rfl (x:=rawInt n) rfl ?_);show wpAny _ _ (field (.ref e) 4 >>= _) _ _ ⟨h₁,g,dd,tk,os⟩;refine wpAny_bind (wpAny_field he₁ rfl (x:=.none) rfl ?_);show wpAny _ _ (mkInt n >>= _) _ _ ⟨h₁,g,dd,tk,os⟩;refine wpAny_bind (wpAny_mkInt ?_);show wpAny _ _ (setField (.ref e) 3 (rawInt ((n:Int)+1)) >>= _) _ _ ⟨h₁,g,dd,tk+1,os⟩;refine wpAny_bind (wpAny_setField_rec he₁ (by simp) fun h₂ he₂ hs₂=>?_)
 replace hs₂:Heap.SameBut e h₁ h₂:=hs₂
 replace he₂:IsEnum h₂ e z ((n:Int)+1) old:=he₂
 show wpAny _ _ (setField (.ref e) 4 .none >>= _) _ _ ⟨h₂,g,dd,tk+1,os⟩;refine wpAny_bind (wpAny_setField_rec he₂ (by simp) fun h₃ he₃ hs₃=>?_)
 replace hs₃:Heap.SameBut e h₂ h₃:=hs₃
 replace he₃:IsEnum h₃ e z ((n:Int)+1) old:=he₃
 show wpAny _ _ (newTuple [.int n tk,.ref hp.objs.size] >>= _) _ _ ⟨h₃,g,dd,tk+1,os⟩;refine wpAny_bind (wpAny_newTuple ?_);have he₄:IsEnum (h₃.push {cls:=.type "tuple",data:=.seq #[.int n tk,.ref hp.objs.size]}) e z ((n:Int)+1) old:=Heap.get?_push_of_some _ he₃;generalize hh₄:h₃.push {cls:=.type "tuple",data:=.seq #[.int n tk,.ref hp.objs.size]}=h₄ at he₄;have hsz:h₃.objs.size=hp.objs.size+1:=by rw[hs₃.1,hs₂.1,z₁]
 have hel:e<hp.objs.size:=Heap.lt_size he;have ht₄:h₄.get? (hp.objs.size+1)=some {cls:=.type "tuple",data:=.seq #[.int n tk,.ref hp.objs.size]}:=by rw[<- hh₄,<- hsz];exact Heap.get?_push_size _ rfl
 have up:∀ k o,k≠e->h₁.get? k=some o->h₄.get? k=some o:=fun k o hk q=>by
  rw[<- hh₄];exact Heap.get?_push_of_some _ (hs₃.extBut k o hk (hs₂.extBut k o hk q))
 have st₄:zSt z u v i j b c (n+1) h₄:=st₁.frame fun m hm o q=>up m o (fun w=>by
  subst w;simp only[List.mem_cons,List.not_mem_nil,or_false] at hm;rcases hm with h|h|h|h|h
  ·exact e1 h
  ·exact e2 h
  ·exact e3 h
  ·exact e4 h
  ·exact e5 h) q
 have T₄:IsPair h₄ hp.objs.size x y:=up _ _ (Nat.ne_of_gt hel) T₁;show wpAny _ _ (Builtin.SmallTypes.ownedTupleIsFree (.ref e) >>= _) _ _ ⟨h₄,g,dd,tk+1,os⟩;rw[hsz];clear hh₄ he₃ hs₃ he₂ hs₂ hsz h₃ h₂;refine wpAny_bind ?_;unfold Builtin.SmallTypes.ownedTupleIsFree;refine wpAny_bind (wpAny_field he₄ rfl (x:=.none) rfl (wpAny_pure ?_));simp only[if_true];refine wpAny_bind (wpAny_rule ?_);refine wpAny_bind (wpAny_field he₄ rfl (x:=old) rfl ?_);refine wpAny_bind (wpAny_setField_rec he₄ (by simp) fun h₅ he₅ hs₅=>?_)
 replace hs₅:Heap.SameBut e h₄ h₅:=hs₅
 replace he₅:IsEnum h₅ e z ((n:Int)+1) (.ref hp.objs.size):=he₅
 show wpAny _ _ (Builtin.SmallTypes.ownedTupleHandOut (.ref e) (.ref (hp.objs.size+1)) >>= _) _ _ ⟨h₅,g,dd,tk+1,os⟩;refine wpAny_bind ?_;unfold Builtin.SmallTypes.ownedTupleHandOut;refine wpAny_bind (wpAny_setField_rec he₅ (by simp) fun h₆ he₆ hs₆=>?_)
 replace hs₆:Heap.SameBut e h₅ h₆:=hs₆
 replace he₆:IsEnumOut h₆ e z ((n:Int)+1) (.ref hp.objs.size) (hp.objs.size+1):=he₆
 refine wpAny_setField_rec he₆ (by simp) fun h₇ he₇ hs₇=>?_
 replace hs₇:Heap.SameBut e h₆ h₇:=hs₇
 replace he₇:IsEnumOut h₇ e z ((n:Int)+1) (.ref hp.objs.size) (hp.objs.size+1):=he₇
 have up7:∀ k o,k≠e->h₄.get? k=some o->h₇.get? k=some o:=fun k o hk q=>hs₇.extBut k o hk (hs₆.extBut k o hk (hs₅.extBut k o hk q));refine wpAny_bind (wpAny_letGo (wpAny_pure ⟨_,rfl,?_⟩));refine wpAny_pure (hQ h₇ he₇ (st₄.frame fun m hm o q=>up7 m o (fun w=>by
  subst w;simp only[List.mem_cons,List.not_mem_nil,or_false] at hm;rcases hm with h|h|h|h|h
  ·exact e1 h
  ·exact e2 h
  ·exact e3 h
  ·exact e4 h
  ·exact e5 h) q) (up7 _ _ (Nat.ne_of_gt hel) T₄) (up7 _ _ (Nat.ne_of_gt (Nat.lt_succ_of_lt hel)) ht₄) fun k o hk q=>?_)
 simp only[List.mem_cons,List.not_mem_nil,or_false,not_or] at hk;exact up7 k o hk.1 (up k o hk.1 (k₁ k o (by simp[hk.2.1,hk.2.2.1,hk.2.2.2.1,hk.2.2.2.2]) q))
theorem JY {e z u v i j b c:Addr} {n:Nat} {xs ys:Array Value} {old:Value} {Q:Option Value->Shared->Prop} (hh:A.in1.in1.handled=none) (D:ZipApart z u v i j b c)
  (he:IsEnum s.heap e z n old) (st:zSt z u v i j b c n s.heap) (hl1:s.heap.IsList b xs) (hl2:s.heap.IsList c ys) (hend:xs[n]?=none\/ys[n]?=none)
  (hQ:∀ h',(∀ k o,k ∉ [z,v,i,j]->s.heap.get? k=some o->h'.get? k=some o)->Q none {s with heap:=h'}):wpAny (model prog w) A (pyNext (.ref e)) Q E s:=by
 have hT:s.TypeIs (.ref e) "enumerate":=⟨_,he,rfl⟩;unfold pyNext;refine wpAny_bind (wpAny_attempt (wpAny_callSpecial?_slot (name:=Str.ofString "__next__") hT F.slot_enumerate_next
  (wpAny_call_entry F.slot_enumerate_next hT F.entry_enumerate_next ?_ (F.args_enumerate_next_1 _))))
 show wpAny _ _ (field (.ref e) 2 >>= _) _ _ _;refine wpAny_bind (wpAny_field he rfl (x:=.ref z) rfl ?_);refine wpAny_bind (XO hh D st hl1 hl2 hend fun h' x hk hx'=>?_);obtain⟨o,ho,hc⟩:=hx';refine wpAny_bind (wpAny_isInstance (T:="StopIteration") (b:=true) ⟨o,ho,hc⟩ isSubtype_stop ?_);exact wpAny_pure (hQ _ hk)
end
noncomputable def ItzE (K:Frag) (b c:Addr):It :=
  ⟨fun i H=>∃ xs ys x y,SqL K H b xs/\SqL K H c ys/\xs[i]?=some x/\ys[i]?=some y,
   fun i H x H'=>∃ T R p q,H T=none/\H R=none/\R≠T/\x=.ref R/\H'=upd (upd H T (.tup [p,q])) R (.tup [.int (i:Int),.ref T])/\(∀ xs,SqL K H b xs->xs[i]?=some p)/\∀ ys,SqL K H c ys->ys[i]?=some q,
   fun i H=>∃ xs ys,SqL K H b xs/\SqL K H c ys/\(xs.length<=i\/ys.length<=i)⟩
noncomputable def eZn (e z u v i j b c:Addr) (n:Nat) (h:Heap):Prop:=(∃ old,IsEnum h e z n old)/\zSt z u v i j b c n h
theorem Uh {P:Program} {w:World} {K:Frag} {elts:List Expr} {x1:Nat} {pos:Pos} {e z u v i j b c:Addr} (D:ZipApart z u v i j b c) (hef:e ∉ [z,u,v,i,j]) :
  Turn P w K (.Tuple elts x1 pos) (ItzE K b c) [e,z,u,v,i,j] e (eZn e z u v i j b c) where
 mem:=by simp
 obj:=fun n h st k hk=>by
  obtain⟨⟨old,he⟩,⟨f0,fl,hz,_⟩,hu,⟨a,d,hv⟩,⟨o1,e1,_,d1⟩,⟨o2,e2,_,d2⟩⟩:=st;simp only[List.mem_cons,List.not_mem_nil,or_false] at hk;rcases hk with rfl|rfl|rfl|rfl|rfl|rfl
  ·exact⟨_,he,fun w e=>nomatch e⟩
  ·exact⟨_,hz,fun w e=>nomatch e⟩
  ·exact⟨_,hu,fun w e=>nomatch e⟩
  ·exact⟨_,hv,fun w e=>nomatch e⟩
  ·exact⟨_,e1,fun w e=>by rw[d1] at e;cases e⟩
  ·exact⟨_,e2,fun w e=>by rw[d2] at e;cases e⟩
 keep:=fun n h h' st k=>by
  obtain⟨⟨old,he⟩,st⟩:=st;exact⟨⟨old,k e (by simp) _ he⟩,st.frame fun m hm o q=>k m (List.mem_cons_of_mem _ hm) o q⟩
 item:=by
  intro X hP hw hK hc n pins s σ H E I hf st hg;subst hP hw hK;obtain⟨⟨old,he⟩,st⟩:=st;obtain⟨xs,ys,x,y,q1,q2,hx,hy⟩:=hg;obtain⟨its,rv,p,sz1⟩:=I.list q1;obtain⟨its',rv',p',sz2⟩:=I.list q2;obtain⟨vx,hvx,rx⟩:=rv.get hx;obtain⟨vy,hvy,ry⟩:=rv'.get hy;refine UH D he st p.isList p'.isList (x:=vx) (y:=vy) (by simpa using hvx) (by simpa using hvy) hef fun g a1 a2 a3 a4 a5=>?_;refine⟨_,rfl,wpAny_letOwnedTupleGo_enum a1 fun g' e' sb=>?_⟩;have lt:∀ {k o},s.heap.get? k=some o->k<s.heap.objs.size:=fun e=>Heap.lt_size e;have ff:∀ k∈[e,z,u,v,i,j],k<s.heap.objs.size:=fun k hk=>by
   obtain⟨⟨f0,fl,hz,_⟩,hu,⟨a,d,hv⟩,⟨o1,w1,_⟩,⟨o2,w2,_⟩⟩:=st;simp only[List.mem_cons,List.not_mem_nil,or_false] at hk;rcases hk with rfl|rfl|rfl|rfl|rfl|rfl
   ·exact lt he
   ·exact lt hz
   ·exact lt hu
   ·exact lt hv
   ·exact lt w1
   ·exact lt w2
  have nf:H s.heap.objs.size=none:=I.hok.fresh %[|3];have nf2:H (s.heap.objs.size+1)=none:=I.hok.fresh (Nat.le_succ _);have hz1:(s.heap.push {cls:=.type "tuple",data:=.seq #[vx,vy]}).objs.size=s.heap.objs.size+1:=Heap.size_push ..;have I1:Inv X pins σ (upd H s.heap.objs.size (.tup [x,y])) {s with heap:=s.heap.push {cls:=.type "tuple",data:=.seq #[vx,vy]},toks:=s.toks} :=
   I.laid (fun k o e=>Heap.get?_push_of_some _ e) %[|3] ⟨by simp only[List.length_cons,List.length_nil];rw[sizeLine_eq];decide,[vx,vy],.cons rx (.cons ry .nil),⟨_,Heap.get?_push_size _ rfl,rfl,_,rfl⟩⟩
  have I2:Inv X pins σ (upd (upd H s.heap.objs.size (.tup [x,y])) (s.heap.objs.size+1) (.tup [.int (n:Int),.ref s.heap.objs.size])) {s with heap:=(s.heap.push {cls:=.type "tuple",data:=.seq #[vx,vy]}).push {cls:=.type "tuple",data:=.seq #[.int n s.toks,.ref s.heap.objs.size]},toks:=s.toks}:=by
   have ht:((s.heap.push {cls:=.type "tuple",data:=.seq #[vx,vy]}).push {cls:=.type "tuple",data:=.seq #[.int n s.toks,.ref s.heap.objs.size]}).get? (s.heap.objs.size+1)=some {cls:=.type "tuple",data:=.seq #[.int n s.toks,.ref s.heap.objs.size]}:=by
    rw[<- hz1];exact Heap.get?_push_size _ rfl
   exact I1.laid (fun k o e=>Heap.get?_push_of_some _ e) (Nat.le_of_eq hz1) ⟨by simp only[List.length_cons,List.length_nil];rw[sizeLine_eq];decide,[.int n s.toks,.ref s.heap.objs.size],.cons ⟨_,rfl⟩ (.cons rfl .nil),⟨_,ht,rfl,_,rfl⟩⟩
  have f':∀ k∈[e,z,u,v,i,j],FpOk X pins (upd (upd H s.heap.objs.size (.tup [x,y])) (s.heap.objs.size+1) (.tup [.int (n:Int),.ref s.heap.objs.size])) k:=fun k hk=>⟨by
   have:=ff k hk;rw[Y9 (Nat.ne_of_lt (Nat.lt_succ_of_lt this)),Y9 (Nat.ne_of_lt this)];exact (hf k hk).1,(hf k hk).2⟩
  have tp:IsPair g' s.heap.objs.size vx vy:=sb.extBut _ _ (Nat.ne_of_gt (lt he)) a3;have tr:g'.get? (s.heap.objs.size+1)=some {cls:=.type "tuple",data:=.seq #[.int n s.toks,.ref s.heap.objs.size]}:=sb.extBut _ _ (Nat.ne_of_gt (Nat.lt_succ_of_lt (lt he))) a4;have I3:Inv X pins σ (upd (upd H s.heap.objs.size (.tup [x,y])) (s.heap.objs.size+1) (.tup [.int (n:Int),.ref s.heap.objs.size])) {s with heap:=g',toks:=s.toks+1}:=by
   refine YV (s:={s with heap:=(s.heap.push {cls:=.type "tuple",data:=.seq #[vx,vy]}).push {cls:=.type "tuple",data:=.seq #[.int n s.toks,.ref s.heap.objs.size]},toks:=s.toks}) (h':=g') (t':=s.toks+1) I2 (fun k o hk e=>?_) f';rcases Heap.get?_push_cases e with ⟨rfl,rfl⟩|e'
   ·rw[hz1];exact tr
   ·rcases Heap.get?_push_cases e' with ⟨rfl,rfl⟩|e''
    ·exact tp
    ·simp only[List.mem_cons,List.not_mem_nil,or_false,not_or] at hk
     exact sb.extBut _ _ hk.1 (a5 k o (by simp[hk.1,hk.2.1,hk.2.2.2.1,hk.2.2.2.2.1,hk.2.2.2.2.2]) e'')
  refine⟨.ref (s.heap.objs.size+1),_,I3,rfl,⟨_,_,x,y,nf,nf2,Nat.succ_ne_self _,rfl,rfl,fun xs' q=>by rw[I.list_inj q q1];exact hx,fun ys' q=>by rw[I.list_inj q q2];exact hy⟩,?_,fun k hk=>(f' k hk).1⟩;exact⟨⟨_,e'⟩,a2.frame fun m hm o q=>sb.extBut _ _ (fun w=>hef (w ▸ hm)) q⟩
 done:=by
  intro X hP hw hK hc n pins s σ H E I hf st hg;subst hP hw hK;obtain⟨⟨old,he⟩,st⟩:=st;obtain⟨xs,ys,q1,q2,hx⟩:=hg;obtain⟨its,rv,p,sz1⟩:=I.list q1;obtain⟨its',rv',p',sz2⟩:=I.list q2;have l1:=rv.length;have l2:=rv'.length;refine JY (I.ok.hd hc) D he st p.isList p'.isList (by rcases hx with hx|hx;exact .inl (by simp;omega);exact .inr (by simp;omega)) fun g k=>⟨rfl,YV (h':=g) (t':=s.toks) I (fun m o hm e=>?_) hf⟩;simp only[List.mem_cons,List.not_mem_nil,or_false,not_or] at hm;exact k m o (by simp[hm.2.1,hm.2.2.2.1,hm.2.2.2.2.1,hm.2.2.2.2.2]) e
 self:=fun _ _ _ _ _ st h=>by
  obtain⟨⟨old,he⟩,_⟩:=st;exact wpAny_pyIter_enum he h
noncomputable def Vh:List D->Mem->(List D->(Mem->Prop)->Mem->Prop)->Prop
 | [.lst a,.lst b],M,R=>∃ xs ys,M a=some (.ls xs)/\M b=some (.ls ys)/\R (enD (zipD xs ys)) (fun M'=>M' a=some (.ls xs)/\M' b=some (.ls ys)) M
 | _,_,_=>False
noncomputable def Vl (ta:DA):DI:=fun δ M R=>ta δ M fun ds M1=>Vh ds M1 R
theorem JI {K:Frag} {H0:Hp} {a b:Addr} {xs ys:List D}:ItD K H0 (ItzE K a b) (enD (zipD xs ys)) (fun M'=>M' a=some (.ls xs)/\M' b=some (.ls ys)):=fun i H M x m k=>by
 obtain⟨vs,ev,r'⟩:=m _ _ k.1;obtain⟨ws,ew,q'⟩:=m _ _ k.2;have l1:=r'.length;have l2:=q'.length;have ll:(enD (zipD xs ys)).length=min xs.length ys.length:=by simp[enD,zipD]
 refine⟨fun hl=>?_,fun hl=>?_,fun y H' hy=>?_⟩
 ·rw[ll] at hl
  exact⟨vs,ws,vs[i]'(by omega),ws[i]'(by omega),.of ev,.of ew,List.getElem?_eq_getElem _,List.getElem?_eq_getElem _⟩
 ·rw[ll] at hl
  exact⟨vs,ws,.of ev,.of ew,by omega⟩
 ·obtain⟨T,R,p,p',hn,hn2,ne,rfl,rfl,e1,e2⟩:=hy
  have ex1:HExt K H (L2.upd H T (.tup [p,p'])):=HExt.upd (.inl hn);have hn2':L2.upd H T (.tup [p,p']) R=none:=by rw[Y9 ne];exact hn2
  have ex2:HExt K (L2.upd H T (.tup [p,p'])) (L2.upd (L2.upd H T (.tup [p,p'])) R (.tup [.int (i:Int),.ref T])):=HExt.upd (.inl hn2');have ex:=ex1.trans ex2;refine⟨ex,(m.tup hn).tup hn2',fun d hd=>?_⟩;simp only[enD,zipD,List.getElem?_mapIdx,List.getElem?_zipWith] at hd;have f1:=e1 _ (.of ev);have f2:=e2 _ (.of ew);cases h1:xs[i]? with
  | none=>rw [h1] at hd;simp at hd
  | some dx =>
   cases h2:ys[i]? with
   | none=>rw [h1,h2] at hd;simp at hd
   | some dy =>
    rw[h1,h2] at hd;simp at hd;subst hd;obtain⟨v1,g1,g2⟩:=r'.get h1;obtain⟨v2,g3,g4⟩:=q'.get h2;rw[f1] at g1;cases g1;rw[f2] at g3;cases g3;refine .tup (.inl (.of L2.upd_same)) (.cons (.int _) (.cons (.tup (.inl (.of ?_)) (.cons (g2.ext ex) (.cons (g4.ext ex) .nil))) .nil));rw[Y9 (Ne.symm ne)];exact L2.upd_same
theorem AF (z:Addr) (TI TO:Addr) (f0:Value) :
  Meets (Builtin.«enumerate.__new__» ⟨[.type "enumerate",.ref z],[]⟩) (fun _ R s=>IsZip s.heap z TI TO f0 /\
   R (.ok (.ret (.ref s.heap.objs.size)))
    {s with heap:=s.heap.push {cls:=.type "enumerate",data:=.fields #[.none,.bool false,.ref z,rawInt 0,.none,.none]}}) :=
 .of_wp fun prog w A R s h=>by
  obtain⟨hp,g,d,tk,os⟩:=s;obtain⟨hl,h⟩:=h;have hsub:=sub_enumerate;have hL:IsZip (Shared.heap ⟨hp,g,d,tk,os⟩) z TI TO f0:=hl
  wp_walk using wpAny_pyIter_zip hL
  refine wpAny_stack_any fun st=>wpAny_pure ?_;split
  ·rename_i c _ _ _ _ _
   cases (c==Value.type "enumerate")
   ·wp_walk using wpAny_pyIter_zip hL
    exact⟨_,rfl,h⟩
   ·wp_walk using wpAny_pyIter_zip hL
    exact⟨_,rfl,h⟩
  ·wp_walk using wpAny_pyIter_zip hL
   exact⟨_,rfl,h⟩
section
variable {prog:Program} {w:World} {A:Around} {E:Value->Shared->Prop} {s:Shared}
theorem UM {z TI TO:Addr} {f0:Value} {Q:Value->Shared->Prop} (hL:IsZip s.heap z TI TO f0)
  (h:∀ h',IsEnum h' s.heap.objs.size z 0 .none->(∀ b o,s.heap.get? b=some o->h'.get? b=some o)->Q (.ref s.heap.objs.size) {s with heap:=h'}) :
  wpAny (model prog w) A (call (.type "enumerate") [.ref z]) Q E s:=by
 refine callType_new F.called_enumerate (by decide) (F.typeCall_enumerate_1 _) (F.newCall_enumerate_1 _) (fun obj=>F.args_object_init_2 obj _) F.entry_enumerate_new
  (AF z TI TO f0) ⟨hL,?_⟩
 have he:IsEnum (s.heap.push {cls:=.type "enumerate",data:=.fields #[.none,.bool false,.ref z,rawInt 0,.none,.none]}) s.heap.objs.size z 0 .none:=Heap.get?_push_size _ rfl;exact⟨⟨_,he,rfl⟩,h _ he fun b o x=>Heap.get?_push_of_some _ x⟩
end
section
variable {X:Cx} {rz:Bool} {Xe:DSt->DK} {pos p2:Pos}
theorem Bh {a:Expr} {es:List Expr} {ta:DA} {p q:Pos} {elts:List Expr} {x1:Nat} {tp:Pos} (hg:Gl X "enumerate") (hm:X.mg "enumerate"=none) (hg2:Gl X "zip") (hm2:X.mg "zip"=none) (ha:PA X (a::es) (Z4 (X.L rz Xe) ta)) (hs:starEach (a::es) X.env=(false,eval a X.env)::starEach es X.env) (hpl:(backTo p2 (starEach es X.env)).any (·.1)=false) :
  PI X (.Tuple elts x1 tp) (.Call (.Name "enumerate" p) [.Call (.Name "zip" q) (a::es) [] p2] [] pos) (Zi (X.L rz Xe) (Vl ta)):=by
 rintro pins s σ H R I ⟨δ,M,Rd,rs,rm,t,qq⟩;refine Call_ (ZL I hg hm boot_enumerate (PyProof.Rows.callWith_type1 ?_ rfl rfl));show wpAny _ _ (spliced ((false,eval (.Call (.Name "zip" q) (a::es) [] p2) X.env)::backTo pos (starEach [] X.env))) _ _ s;refine Calls.spliced_cons ?_;refine Call_ (ZL I hg2 hm2 boot_zip (PyProof.Rows.callWith_type1 (thn (ha p2 pins s σ H (fun vs H1=>∃ b c xs ys,vs=[.ref b,.ref c]/\SqL X.K H1 b xs/\SqL X.K H1 c ys/\R (ItzE X.K b c) H1) I ⟨δ,M,_,rs,rm,t,fun ds M1 vs H1 x1 m1 r1 h1=>?_⟩) fun us s1 ⟨vs,H1,I1,r1,q1⟩=>?_) hs hpl))
 ·unfold Vh at h1
  split at h1
  ·obtain⟨xs,ys,ea,eb,h1⟩:=h1
   cases r1 with
   | cons ra rr =>
    cases rr with
    | cons rb rr =>
     cases rr;cases ra;cases rb;obtain⟨vs,ev,_⟩:=m1 _ _ ea;obtain⟨ws,ew,_⟩:=m1 _ _ eb;exact⟨_,_,_,_,rfl,.of ev,.of ew,qq _ _ _ _ _ x1 m1 ⟨ea,eb⟩ JI h1⟩
  ·exact h1.elim
 ·obtain⟨b,c,xs,ys,e,hb,hc,q⟩:=q1
  subst e;cases r1 with
  | cons r rr =>
   cases rr with
   | cons r' rr =>
    cases rr;cases r;cases r';obtain⟨its,rv,pb,_⟩:=I1.list hb;obtain⟨its',rv',pc,_⟩:=I1.list hc;have lb:b<s1.heap.objs.size:=by obtain⟨o,e,_⟩:=pb.isList;exact Heap.lt_size e
    have lc:c<s1.heap.objs.size:=by obtain⟨o,e,_⟩:=pc.isList;exact Heap.lt_size e
    refine call_zip_2 pb.isList pc.isList fun g st1 st2 st3 st4 st5 sz k=>?_;refine Calls.spliced_nil ?_;refine UM (s:={s1 with heap:=g}) st1 fun g2 en k2=>?_;refine wpAny_pyIter_enum en ?_;have sz':g.objs.size=s1.heap.objs.size+5:=sz;have zs:zSt (s1.heap.objs.size+4) (s1.heap.objs.size+2) (s1.heap.objs.size+3) s1.heap.objs.size (s1.heap.objs.size+1) b c 0 g:=⟨⟨_,_,st1,.inl rfl⟩,st2,⟨_,_,st3⟩,st4,st5⟩;refine⟨_,[g.objs.size,s1.heap.objs.size+4,s1.heap.objs.size+2,s1.heap.objs.size+3,s1.heap.objs.size,s1.heap.objs.size+1],_,_,H1,rfl,I1.kept (t':=s1.toks) (fun m o e=>k2 _ _ (k _ _ e)),Uh (zipApart_new lb lc) ?_,⟨⟨_,en⟩,zs.frame fun m _ o e=>k2 _ _ e⟩,fun m hm=>?_,q⟩
    ·rw[sz'];simp
    ·have le:s1.heap.objs.size<=m:=by
      rw[sz'] at hm;simp only[List.mem_cons,List.not_mem_nil,or_false] at hm;rcases hm with rfl|rfl|rfl|rfl|rfl|rfl
      ·exact Nat.le_add_right _ _
      ·exact Nat.le_add_right _ _
      ·exact Nat.le_add_right _ _
      ·exact Nat.le_add_right _ _
      ·exact Nat.le_refl _
      ·exact Nat.le_add_right _ _
     exact I1.fpOk le (I1.hok.fresh le)
end
end DL
end
noncomputable section
namespace DL
open PySem PySem.Spec PyProof.Rows L2
noncomputable def ini (c x:Str):Nat:=if c="" then 0 else if x="__init__" then 1 else 0
theorem ini0 {x:Str}:ini "" x=0:=if_pos rfl
structure RefAt (K:Frag) (mg:Str->Option Value) (c x:Str) (f:Addr):Prop where
 fn:c=""->mg x=some (.ref f)/\PySem.W.keepIn K (.ref f)=true
 mt:c≠""->c∈oNames/\∃ C,YH K c C/\mg c=some (.ref C)/\(x≠"__init__"->Meth K C x f)/\(x="__init__"->Mk K C f)
structure FnAt (X:Cx) (c x:Str) (S:DSp):Prop where
 ex:∃ k f fd ps,FnOk X.prog X.w X.K X.mg X.base (CXR X.prog X.w) (k-ini c x) f fd ps (X1 X.K S)/\ini c x<=k/\(X.calm=true->Room k X.A)/\RefAt X.K X.mg c x f/\Binds X.K fd ps []
noncomputable def putD (f:Str) (d:D):List (Str×D)->List (Str×D)
 | []=>[(f,d)]
 | (g,x)::r=>if g=f then (g,d)::r else (g,x)::putD f d r
noncomputable def dFld (n f:Str) (ta:DE):DE:=fun δ M Q=>ta δ M fun x M1=>∃ a fs d,x=.ref a/\M1 a=some (.ob n fs)/\fs.lookup f=some d/\Q d M1
noncomputable def Xk (n m:Str) (S:DSp) (E:DSt->DK) (ta:DE) (t:DA):DE:=fun δ M Q=>ta δ M fun x M1=>∃ a fs,x=.ref a/\M1 a=some (.ob n fs)/\fs.lookup m=none/\t δ M1 fun xs M2=>S (.ref a::xs) M2 Q (E δ)
noncomputable def Xl (n:Str) (S:DSp) (E:DSt->DK) (t:DA):DE:=fun δ M Q=>t δ M fun xs M1=>alloc M1 (.ob n []) fun p M'=>S (.ref p::xs) M' (fun d M2=>d=.non/\Q (.ref p) M2) (E δ)
noncomputable def Xj (n f:Str) (i:Nat) (te:(DSt->DK)->DE):DS:=fun D δ M=>te D.ex δ M fun y M1=>∃ a fs,δ[i]?=some (some (.ref a))/\M1 a=some (.ob n fs)/\fs.length<1000/\D.nx δ (M1.upd a (.ob n (putD f y fs)))
section
variable {X:Cx} {rz:Bool} {Xe:DSt->DK} {e o:Expr} {es:List Expr} {t:DA} {te to:DE} {x n m f:Str} {p pos apos pos':Pos} {S:DSp}
theorem Vc {k:Nat} {f:Addr} {fd:FuncData} {ps:List Str} {S:DSp} {pins:List (Addr×Obj)} {σ:L2.St} {H:Hp} {s:Shared} {Q:VK} {us:List Value} {vs:List V} {δ:DSt} {ds:List D} {M:Mem} {R:DK}
  (F:FnOk X.prog X.w X.K X.mg X.base (CXR X.prog X.w) k f fd ps (X1 X.K S)) (hr:Room k X.A) (hb:Binds X.K fd ps []) (I:L2.Inv X pins σ H s) (r:Vals vs us)
  (rs:RepS (X.L rz Xe) H δ σ) (rm:RepM X.K H M) (rd:RelDs X.K H vs ds) (h:S ds M R (Xe δ)) (q:∀ d' M' v H',HExt X.K H H'->RepM X.K H' M'->RelD X.K H' v d'->R d' M'->Q v H') :
  wpAny (model X.prog X.w) X.A (call (.ref f) us) (EP X pins σ Q) X.xe s:=by
 obtain⟨Ex,hEx⟩:∃ Ex:XK,Ex=fun cv odx H'=>∃ n M' C x,cv=.ref C/\HExt X.K H H'/\RepM X.K H' M'/\n∈xNames/\YH X.K n C/\ExD X.K H' n odx x/\Xe δ (.exc n x) M':=⟨_,rfl⟩;have hsp:X1 X.K S vs H Q Ex:=⟨ds,M,R,_,rd,rm,h,q,fun n M' H' C dd xd x m hn hc ed e=>by rw[hEx];exact⟨n,M',C,xd,rfl,x,m,hn,hc,ed,e⟩⟩;have hl:us.length=ps.length:=by rw[<- r.length];exact F.len _ _ _ _ hsp
 have hbb:=hb s us I.kIn (by simpa using hl);rw[List.append_nil] at hbb;refine wpAny_call (codeAny_mono (F.run X.A X.stack s H ⟨us,[]⟩ us vs Q Ex hr I.env0 hbb r hsp) fun res s' hq=>?_);cases res with
 | error e =>
  obtain⟨e0,C,dd,H',rfl,th,hE⟩:=(show CXR X.prog X.w X.stack H s Ex e s' from hq);rw[hEx] at hE;obtain⟨n,M',C',xd,hC,x,m,hn,hc,ed,hx⟩:=hE;cases hC;exact rs.ok.fly pins σ H s H' e0 C dd s' δ M' n xd x I th m (rs.toSlots.ext x) hn hc ed hx
 | ok fl =>
  cases fl with
  | ret u=>exact I.after hq
  | next=>exact False.elim hq
  | brk=>exact False.elim hq
  | cont=>exact False.elim hq
end
end DL
end
noncomputable section
namespace DL
open PySem PySem.Spec PyProof.Rows L2
theorem vals_ints {i:Int}:∀ {acc:List Value} {n:Nat} {k:Nat},acc.length=n->(∀ (j:Nat) (v:Value),acc[j]?=some v->∃ t,v=Value.int (i+((k+j:Nat):Int)*1) t)->Vals ((List.range' k n).map fun m:Nat=>V.int (i+(m:Int))) acc
 | [],n,k,hl,_=>by subst hl;exact .nil
 | v::acc,n,k,hl,h=>by
  subst hl;rw[List.length_cons,List.range'_succ,List.map_cons];refine .cons ?_ (vals_ints (k:=k+1) rfl fun j v hv=>?_)
  ·obtain⟨t,e⟩:=h 0 v rfl
   exact⟨t,by rw[e];simp⟩
  ·obtain⟨t,e⟩:=h (j+1) v (by simpa using hv)
   exact⟨t,by rw[e];congr 3;omega⟩
section
variable {X:Cx} {e:Expr} {es:List Expr} {t:TA} {p p2 pos pos2:Pos}
end
section
variable {X:Cx} {rz:Bool} {a b e:Expr} {te ta tb:(DSt->DK)->DE} {pos pos':Pos}
end
section
variable {X:Cx} {rz:Bool} {Xe:DSt->DK} {e:Expr} {es:List Expr} {t:DA} {p p2 pos pos2:Pos}
end
section
variable {X:Cx} {a b:Expr} {rest:List Expr} {pos:Pos}
end
section
variable {X:Cx} {i j k:Nat} {x y z:Str} {a b c:Expr} {px py pz pt pos:Pos} {kt k2:Nat} {pt2:Pos}
end
end DL
namespace PySem
open Sem (wp)
section
variable {prog:Program} {w:World} {A:Around} {E:Value->Shared->Prop} {s:Shared}
end
end PySem
namespace DL
open PySem PySem.Spec PyProof.Rows L2
section
variable {z u v i j b c:Addr} {n:Nat}
variable {prog:Program} {w:World} {A:Around} {E:Value->Shared->Prop} {s:Shared} {xs ys:Array Value} {x y:Value}
end
section
variable {X:Cx} {pins:List (Addr×Obj)} {σ:L2.St} {z u v i j b c S:Addr} {A:Around} {R:Result->Shared->Prop} {res:Value} {vs ws:List V}
end
end DL
namespace PySem
namespace F
end F
end PySem
namespace DL
open PySem PySem.Spec PyProof.Rows L2
section
variable {X:Cx} {pins:List (Addr×Obj)} {σ:L2.St} {z u v i j b c S:Addr} {A:Around} {R:Result->Shared->Prop} {res:Value} {vs ws:List V} {H:Hp} {s:Shared}
end
end DL
namespace DL
open PySem PySem.Spec PyProof.Rows L2
section
variable {X:Cx} {e:Expr} {es:List Expr} {t:TA} {p p2 pos pos2:Pos}
end
section
variable {X:Cx} {rz:Bool} {Xe:DSt->DK} {e:Expr} {es:List Expr} {t:DA} {p p2 pos pos2:Pos}
end
end DL
namespace DL
open PySem PySem.Spec PyProof.Rows L2
section
variable {X:Cx}
end
section
variable {X:Cx} {rz:Bool} {Xe:DSt->DK} {o e:Expr} {to ta:DE} {apos cpos:Pos}
end
section
variable {X:Cx} {a b:Expr} {p1 p2 p3 pos:Pos} {k:Nat} {x:Str}
end
section
variable {X:Cx} {rz:Bool} {Xe:DSt->DK} {a b:Expr} {ta tb:DE} {p1 p2 p3 pos:Pos} {k:Nat} {x:Str}
end
section
variable {X:Cx}
end
section
variable {X:Cx} {rz:Bool} {Xe:DSt->DK} {tg:Expr}
end
section
variable {X:Cx} {rz:Bool} {a b e:Expr} {te ta tb:(DSt->DK)->DE} {pos pos':Pos}
end
section
variable {X:Cx} {rz:Bool} {Xe:DSt->DK} {o e f:Expr} {to ta tb:DE} {apos pos:Pos}
end
end DL
end
noncomputable section
namespace DL
open PySem PySem.Spec PyProof.Rows L2
section
variable {X:Cx} {rz:Bool} {Xe:DSt->DK} {pos:Pos}
variable {a b:Expr} {ta tb:DE}
end
section
variable {X:Cx} {rz:Bool} {Xe:DSt->DK} {tg:Expr}
end
section
variable {X:Cx}
end
section
variable {X:Cx} {rz:Bool} {Xe:DSt->DK} {o:Expr} {to:DE} {apos cpos:Pos}
variable {e:Expr} {ta:DE} {pos:Pos}
end
end DL
end
noncomputable section
namespace DL
open PySem PySem.Spec PyProof.Rows L2
section
variable {X:Cx}
end
section
variable {X:Cx} {rz:Bool} {Xe:DSt->DK} {o e:Expr} {to ta:DE} {apos cpos:Pos}
end
section
variable {X:Cx} {a b:Expr} {p1 p2 p3 pos:Pos} {k:Nat} {x:Str}
end
section
variable {X:Cx} {rz:Bool} {Xe:DSt->DK} {a b:Expr} {ta tb:DE} {p1 p2 p3 pos:Pos} {k:Nat} {x:Str}
end
section
variable {X:Cx} {a b c:Expr} {p1 p2 p3 p4 p5 pos:Pos} {k k2:Nat} {x y:Str}
end
section
variable {X:Cx} {rz:Bool} {Xe:DSt->DK} {a b c:Expr} {ta tb tc:DE} {p1 p2 p3 p4 p5 pos:Pos} {k k2:Nat} {x y:Str}
end
end DL
end
noncomputable section
namespace DL
open PySem PySem.W PyProof.Rows L2
section
variable (lt:Nat->Nat->Bool) (N:Nat)
variable {lt N}
noncomputable def gA (p:Array Nat) (i:Nat):Nat:=p.getD i 0
noncomputable def St (lt:Nat->Nat->Bool) (p:Array Nat) (k:Nat):Prop:=∀ i j,i<=j->j<k->lt (gA p j) (gA p i)=false
end
section
variable {prog:Program} {w:World} {A:Around} {E:Value->Shared->Prop} {s:Shared}
end
section
variable {X:Cx}
end
end DL
end
noncomputable section
namespace DL
open PySem PySem.Spec PyProof.Rows L2
section
variable {X:Cx} {rz:Bool} {Xe:DSt->DK} {e o:Expr} {es:List Expr} {t:DA} {te to:DE} {x:Str} {p pos apos:Pos}
theorem Cs {S:DSp} (hcal:X.calm=true) (F:FnAt X "" x S) (hg:Gl X x) (ha:PA X (e::es) (Z4 (X.L rz Xe) t)) (hdb:(x==("__debug__":Str))=false) (he:starEach (e::es) X.env=(false,eval e X.env)::starEach es X.env) (hpl:(backTo pos (starEach es X.env)).any (·.1)=false) :
  PE X (.Call (.Name x p) (e::es) [] pos) (lift (X.L rz Xe) (Zr S Xe t)):=by
 obtain⟨k,f,fd,ps,F,_,hr,rf,hb⟩:=F.ex;rw[ini0,Nat.sub_zero] at F;obtain⟨hm,hk⟩:=rf.fn rfl;rintro pins s σ H Q I ⟨δ,M,R,rs,rm,t,q⟩;refine wpAny_Call_Name_kw (ZR I hg hm ?_ hdb);refine PySem.W.callWith_K (h₀:=X.base) I.ok.mod.kin hk (thn (ha pos pins s σ H (fun vs H1=>∃ ds M1,HExt X.K H H1/\RepM X.K H1 M1/\RelDs X.K H1 vs ds/\S ds M1 R (Xe δ)) I ⟨δ,M,_,rs,rm,t,fun ds M1 vs H1 x m r h=>⟨ds,M1,x,m,r,h⟩⟩) fun us s1 ⟨vs,H1,I1,r,ds,M1,x1,m1,r1,h1⟩=>⟨I1.kIn,?_⟩) he hpl;exact Vc F (hr hcal) hb I1 r (rs.ext x1) m1 r1 h1 fun d' M' v H' x=>q d' M' v H' (x1.trans x)
theorem Bo {S:DSp} (hcal:X.calm=true) (F:FnAt X "" x S) (hg:Gl X x) (hdb:(x==("__debug__":Str))=false):PE X (.Call (.Name x p) [] [] pos) (lift (X.L rz Xe) (Zr S Xe dNil)):=by
 obtain⟨k,f,fd,ps,F,_,hr,rf,hb⟩:=F.ex;rw[ini0,Nat.sub_zero] at F;obtain⟨hm,hk⟩:=rf.fn rfl;rintro pins s σ H Q I ⟨δ,M,R,rs,rm,t,q⟩;refine wpAny_Call_Name_kw (ZR I hg hm ?_ hdb);exact PySem.W.callWith_K0 I.kIn hk (Vc (us:=[]) F (hr hcal) hb I .nil rs rm .nil t q)
noncomputable def Yc (alts:List (Str×DSp)) (i:Nat) (Xe:DSt->DK) (t:DA):DE:=fun δ M Q=>∃ n S,δ[i]?=some (some (.fn n))/\(n,S)∈alts/\t δ M fun ds M1=>S ds M1 Q (Xe δ)
structure GloAt (X:Cx) (x:Str) (d:D):Prop where
 ex:∃ u v,X.mg x=some u/\RelV v u/\∀ H,RelD X.K H v d
theorem Bm {alts:List (Str×DSp)} {i:Nat} (hcal:X.calm=true) (A:∀ n S,(n,S)∈alts->FnAt X "" n S/\GloAt X n (.fn n)) (hv:PE X (.Name x p) (tVar i)) (ha:PA X (e::es) (Z4 (X.L rz Xe) t)) (he:starEach (e::es) X.env=(false,eval e X.env)::starEach es X.env) (hpl:(backTo pos (starEach es X.env)).any (·.1)=false) :
  PE X (.Call (.Name x p) (e::es) [] pos) (lift (X.L rz Xe) (Yc alts i Xe t)):=by
 rintro pins s σ H Q I ⟨δ,M,R,rs,rm,⟨n,S,e1,mem,t⟩,q⟩;obtain⟨F1,G⟩:=A n S mem;obtain⟨k,f,fd,ps,F,_,hr,rf,hb⟩:=F1.ex;rw[ini0,Nat.sub_zero] at F;obtain⟨hm,hk⟩:=rf.fn rfl;obtain⟨v,h1,h2⟩:=rs.slot i _ e1;have hvf:v=.ref f:=by
  obtain⟨u,v',g1,g2,g3⟩:=G.ex;cases h2 with
  | fn hc =>
   cases g3 fun _=>none with
   | fn hc' =>
    have g2:u=_:=g2;rw[g2] at g1;have z1:=g1.symm.trans hm;injection z1 with z1
    injection z1 with z1
    have z2:=hc.symm.trans hc';injection z2 with z2
    injection z2 with z2
    injection z2 with z2
    rw[z2,z1]
 subst hvf;refine wpAny_Call_Name_kw (thn (hv pins s σ H (fun v' H'=>v'=.ref f/\H'=H) I ⟨_,h1,rfl,rfl⟩) ?_);rintro u s0 ⟨v',H',I0,r0,ev,eH⟩;subst ev;subst eH;have r0:u=.ref f:=r0;subst r0;refine PySem.W.callWith_K (h₀:=X.base) I0.ok.mod.kin hk (thn (ha pos pins s0 σ H' (fun vs H1=>∃ ds M1,HExt X.K H' H1/\RepM X.K H1 M1/\RelDs X.K H1 vs ds/\S ds M1 R (Xe δ)) I0 ⟨δ,M,_,rs,rm,t,fun ds M1 vs H1 x m r h=>⟨ds,M1,x,m,r,h⟩⟩) fun us s1 ⟨vs,H1,I1,r,ds,M1,x1,m1,r1,h1⟩=>⟨I1.kIn,?_⟩) he hpl;exact Vc F (hr hcal) hb I1 r (rs.ext x1) m1 r1 h1 fun d' M' v H' x=>q d' M' v H' (x1.trans x)
noncomputable def dApp (to te:DE):DE:=fun δ M Q=>to δ M fun o M1=>∃ a ys,o=.lst a/\M1 a=some (.ls ys)/\te δ M1 fun y M2=>∃ xs,M2 a=some (.ls xs)/\xs.length<sizeLine/\Q .non (M2.upd a (.ls (xs++[y])))
theorem FP (ho:PE X o (lift (X.L rz Xe) to)) (he:PE X e (lift (X.L rz Xe) te)) (hbase:attributeBase o "append" X.env (eval o X.env)=eval o X.env) (hs:∀ es,starEach (e::es) X.env=(false,eval e X.env)::starEach es X.env) (hline:(apos.endLine==pos.line)=true) :
  PE X (.Call (.Attribute o "append" apos) [e] [] pos) (lift (X.L rz Xe) (dApp to te)):=by
 refine (Au PySem.F.plainAttrs_list PySem.F.slot_list_append PySem.F.type_list_append WE ho (ZA he Wj (hs _)) hbase (by rw[hs];rfl) hline (hs _) rfl).imp fun σ H Q h=>?_;obtain⟨δ,M,R,rs,rm,t,q⟩:=h;refine⟨δ,M,_,rs,rm,t,fun d M1 v H1 x1 m1 r1 hq7=>?_⟩;obtain⟨a,ys,e1,e2,h1⟩:=hq7;subst e1;cases r1;obtain⟨vs,ev,_⟩:=m1 _ _ e2;refine⟨.inl ⟨rfl,_,.of ev⟩,δ,M1,fun ds M2=>∃ y,ds=[y]/\∃ xs,M2 a=some (.ls xs)/\xs.length<sizeLine/\R .non (M2.upd a (.ls (xs++[y]))),rs.ext x1,m1,?_,fun ds M2 vs H2 x2 m2 r2 ⟨y,e3,xs,e4,hz,h2⟩=>?_⟩
 ·obtain⟨K',hK'⟩:∃ K':D->Mem->Prop,K'=fun y M2=>∃ xs,M2 a=some (.ls xs)/\xs.length<sizeLine/\R .non (M2.upd a (.ls (xs++[y]))):=⟨_,rfl⟩
  have:(fun x M2=>∃ y,[x]=[y]/\∃ xs,M2 a=some (.ls xs)/\xs.length<sizeLine/\R .non (M2.upd a (.ls (xs++[y]))))=K':=by
   rw[hK'];funext x M2;apply propext;constructor
   ·rintro⟨y,e,h⟩;cases e;exact h
   ·exact fun h=>⟨x,rfl,h⟩
  show te δ M1 fun x M2=>∃ y,[x]=[y]/\∃ xs,M2 a=some (.ls xs)/\xs.length<sizeLine/\R .non (M2.upd a (.ls (xs++[y])));rw[this,hK'];exact h1
 ·subst e3
  obtain⟨v,rfl,rv⟩:=r2.one;obtain⟨ws,ew,rw'⟩:=m2 _ _ e4;exact⟨a,ws,v,rfl,rfl,ew,by rw[rw'.length];exact hz,q _ _ _ _ ((x1.trans x2).trans (.upd (.inr ⟨_,ew,trivial⟩))) (m2.write ew (rw'.append (.cons rv .nil))) .non h2⟩
noncomputable def dExt (to te:DE):DE:=fun δ M Q=>to δ M fun o M1=>∃ a ys,o=.lst a/\M1 a=some (.ls ys)/\te δ M1 fun y M2=>∃ b xs zs,y=.lst b/\M2 a=some (.ls xs)/\M2 b=some (.ls zs)/\xs.length+zs.length<=sizeLine/\Q .non (M2.upd a (.ls (xs++zs)))
noncomputable def dIns (to ta te:DE):DE:=fun δ M Q=>to δ M fun o M1=>∃ a ys,o=.lst a/\M1 a=some (.ls ys)/\ta δ M1 fun x M2=>te δ M2 fun y M3=>∃ xs k,x=.int k/\M3 a=some (.ls xs)/\0<=k/\k<=xs.length/\xs.length<sizeLine/\Q .non (M3.upd a (.ls (ZE xs k y)))
theorem FK {e2:Expr} {ta:DE} (ho:PE X o (lift (X.L rz Xe) to)) (h1:PE X e (lift (X.L rz Xe) ta)) (h2:PE X e2 (lift (X.L rz Xe) te)) (hbase:attributeBase o "insert" X.env (eval o X.env)=eval o X.env) (hs:∀ es,starEach (e::es) X.env=(false,eval e X.env)::starEach es X.env) (hs2:∀ es,starEach (e2::es) X.env=(false,eval e2 X.env)::starEach es X.env) (hline:(apos.endLine==pos.line)=true) :
  PE X (.Call (.Attribute o "insert" apos) [e,e2] [] pos) (lift (X.L rz Xe) (dIns to ta te)):=by
 refine (Au PySem.F.plainAttrs_list PySem.F.slot_list_insert PySem.F.type_list_insert JH ho (ZA h1 (ZA h2 Wj (hs2 _)) (hs _)) hbase (by rw[hs,hs2];rfl) hline (hs _) (by rw[hs2];rfl)).imp fun σ H Q h=>?_;obtain⟨δ,M,R,rs,rm,t,q⟩:=h;refine⟨δ,M,_,rs,rm,t,fun d M1 v H1 x1 m1 r1 hq7=>?_⟩;obtain⟨a,ys,e1,e2,h1⟩:=hq7;subst e1;cases r1;obtain⟨vs,ev,_⟩:=m1 _ _ e2;refine⟨.inl ⟨rfl,_,.of ev⟩,δ,M1,fun ds M2=>∃ x y,ds=[x,y]/\∃ xs k,x=.int k/\M2 a=some (.ls xs)/\0<=k/\k<=xs.length/\xs.length<sizeLine/\R .non (M2.upd a (.ls (ZE xs k y))),rs.ext x1,m1,?_,fun ds M2 vs H2 x2 m2 r2 hq8=>?_⟩
 ·have:∀ x:DL.D,(fun (y:DL.D) (M2:Mem)=>∃ x' y',[x,y]=[x',y']/\∃ xs k,x'=D.int k/\M2 a=some (.ls xs)/\0<=k/\k<=xs.length/\xs.length<sizeLine/\R .non (M2.upd a (.ls (ZE xs k y'))))=fun (y:DL.D) (M2:Mem)=>∃ xs k,x=D.int k/\M2 a=some (.ls xs)/\0<=k/\k<=xs.length/\xs.length<sizeLine/\R .non (M2.upd a (.ls (ZE xs k y))):=fun x=>by
   funext y M2;apply propext;constructor
   ·rintro⟨x',y',e,h⟩;cases e;exact h
   ·exact fun h=>⟨x,y,rfl,h⟩
  show ta δ M1 fun x M2=>te δ M2 fun y M2=>∃ x' y',[x,y]=[x',y']/\∃ xs k,x'=D.int k/\M2 a=some (.ls xs)/\0<=k/\k<=xs.length/\xs.length<sizeLine/\R .non (M2.upd a (.ls (ZE xs k y')));simp only[this];exact h1
 ·obtain⟨x,y,e3,xs,k,e5,e4,k0,k1,hz,h2⟩:=hq8
  subst e3;subst e5;obtain⟨v,w,rfl,rv,rw'⟩:=r2.two;cases rv;obtain⟨ws,ew,rws⟩:=m2 _ _ e4;have hl:=rws.length;refine⟨a,ws,k,w,rfl,rfl,ew,k0,by omega,by omega,q _ _ _ _ ((x1.trans x2).trans (.upd (.inr ⟨_,ew,trivial⟩))) (m2.write ew ?_) .non h2⟩;unfold ZE;exact (rws.take _).append (.cons rw' (rws.drop _))
noncomputable def dIdx (to te:DE):DE:=fun δ M Q=>to δ M fun o M1=>∃ a ys,o=.lst a/\M1 a=some (.ls ys)/\te δ M1 fun y M2=>∃ xs j,M2 a=some (.ls xs)/\IxAt M2 xs y j/\Q (.int j) M2
noncomputable def dPop (to te:DE):DE:=fun δ M Q=>to δ M fun o M1=>∃ a ys,o=.lst a/\M1 a=some (.ls ys)/\te δ M1 fun y M2=>∃ xs k x,y=.int k/\M2 a=some (.ls xs)/\0<=k/\k<1000000/\xs[k.toNat]?=some x/\Q x (M2.upd a (.ls (xs.eraseIdx k.toNat)))
theorem FG (ho:PE X o (lift (X.L rz Xe) to)) (he:PE X e (lift (X.L rz Xe) te)) (hbase:attributeBase o "pop" X.env (eval o X.env)=eval o X.env) (hs:∀ es,starEach (e::es) X.env=(false,eval e X.env)::starEach es X.env) (hline:(apos.endLine==pos.line)=true) :
  PE X (.Call (.Attribute o "pop" apos) [e] [] pos) (lift (X.L rz Xe) (dPop to te)):=by
 refine (Au PySem.F.plainAttrs_list PySem.F.slot_list_pop PySem.F.type_list_pop AD ho (ZA he Wj (hs _)) hbase (by rw[hs];rfl) hline (hs _) rfl).imp fun σ H Q h=>?_;obtain⟨δ,M,R,rs,rm,t,q⟩:=h;refine⟨δ,M,_,rs,rm,t,fun d M1 v H1 x1 m1 r1 hq7=>?_⟩;obtain⟨a,ys,e1,e2,h1⟩:=hq7;subst e1;cases r1;obtain⟨vs,ev,_⟩:=m1 _ _ e2;refine⟨.inl ⟨rfl,_,.of ev⟩,δ,M1,fun ds M2=>∃ y,ds=[y]/\∃ xs k x,y=.int k/\M2 a=some (.ls xs)/\0<=k/\k<1000000/\xs[k.toNat]?=some x/\R x (M2.upd a (.ls (xs.eraseIdx k.toNat))),rs.ext x1,m1,?_,fun ds M2 vs H2 x2 m2 r2 hq8=>?_⟩
 ·have:(fun (x:DL.D) (M2:Mem)=>∃ y,[x]=[y]/\∃ xs k x,y=D.int k/\M2 a=some (.ls xs)/\0<=k/\k<1000000/\xs[k.toNat]?=some x/\R x (M2.upd a (.ls (xs.eraseIdx k.toNat))))=fun (y:DL.D) (M2:Mem)=>∃ xs k x,y=D.int k/\M2 a=some (.ls xs)/\0<=k/\k<1000000/\xs[k.toNat]?=some x/\R x (M2.upd a (.ls (xs.eraseIdx k.toNat))):=by
   funext x M2;apply propext;constructor
   ·rintro⟨y,e,h⟩;cases e;exact h
   ·exact fun h=>⟨x,rfl,h⟩
  show te δ M1 fun x M2=>∃ y,[x]=[y]/\∃ (xs:List DL.D) (k:Int) (x:DL.D),y=D.int k/\M2 a=some (.ls xs)/\0<=k/\k<1000000/\xs[k.toNat]?=some x/\R x (M2.upd a (.ls (xs.eraseIdx k.toNat)));rw[this];exact h1
 ·obtain⟨y,e3,xs,k,x,e5,e4,k0,k1,hx,h2⟩:=hq8
  subst e3;subst e5;obtain⟨v,rfl,rv⟩:=r2.one;cases rv;obtain⟨ws,ew,rws⟩:=m2 _ _ e4;obtain⟨z,ez,rz⟩:=rws.get hx;have hl:k.toNat<ws.length:=by rw[rws.length];exact (List.getElem?_eq_some_iff.mp hx).1
  refine⟨a,ws,k,k.toNat,z,rfl,rfl,ew,by omega,by omega,?_,ez,?_⟩
  ·exact PySem.StrLaws.seqIndex_nonneg k0 (by omega)
  ·have x3:HExt X.K H2 (upd H2 a (.lst (ws.eraseIdx k.toNat))):=.upd (.inr ⟨_,ew,trivial⟩)
   exact q _ _ _ _ ((x1.trans x2).trans x3) (m2.write ew (XE k.toNat rws)) (rz.ext x3) h2
end
inductive Bi|abs|all|any|divmod|isinstance|len|max|min|str|tuple|list
 deriving DecidableEq
noncomputable def Wq:Bi->Str
 | .abs=>"abs" | .all=>"all" | .any=>"any" | .divmod=>"divmod" | .isinstance=>"isinstance" | .len=>"len" | .max=>"max" | .min=>"min" | .str=>"str" | .tuple=>"tuple" | .list=>"list"
noncomputable def Wp:Bi->List D->Mem->DK->Prop
 | .abs=>fAbs | .all=>fAll | .any=>fAny | .divmod=>Vk | .isinstance=>fIsi | .len=>fLen | .max=>fMax | .min=>fMin | .str=>fStr | .tuple=>Ye | .list=>Ym
inductive Ty|int|bool|str|tuple|list|dict|valueError
 deriving DecidableEq
noncomputable def Xp:Ty->Str
 | .int=>"int" | .bool=>"bool" | .str=>"str" | .tuple=>"tuple" | .list=>"list" | .dict=>"dict" | .valueError=>"ValueError"
noncomputable def Vz:Ty->String
 | .int=>"int" | .bool=>"bool" | .str=>"str" | .tuple=>"tuple" | .list=>"list" | .dict=>"dict" | .valueError=>"ValueError"
theorem BC (t:Ty):bootBuiltins (Xp t)=some (.type (Vz t)):=by cases t<;>kernel_rfl
noncomputable def quiet:Bi->Bool
 | .isinstance=>true
 | _=>false
structure Blt (mg:Str->Option Value):Prop where
 bi:∀ b,mg (Wq b)=none
 ty:∀ t,mg (Xp t)=none
 range:mg "range"=none
 zip:mg "zip"=none
 enum:mg "enumerate"=none
section
variable {X:Cx} {rz:Bool} {Xe:DSt->DK} {e:Expr} {es:List Expr} {t:DA} {p pos:Pos}
theorem IN (b:Bi) (tab:Zn X.K=true) (hB:Blt X.mg) (hq:X.calm=true\/quiet b=true) (hg:Gl X (Wq b)) (ha:PA X (e::es) (Z4 (X.L rz Xe) t)) (he:starEach (e::es) X.env=(false,eval e X.env)::starEach es X.env) (hpl:(backTo pos (starEach es X.env)).any (·.1)=false) :
  PE X (.Call (.Name (Wq b) p) (e::es) [] pos) (lift (X.L rz Xe) (dCB (Wp b) t)):=by
 have hm:=hB.bi b;cases b with
 | abs=>exact (YX Ga hg hm (by kernel_rfl) ha (by decide) (by decide) he hpl).imp fun _ _ _=>Zf
 | all=>exact (YX (FZ (hq.resolve_right Bool.false_ne_true)) hg hm (by kernel_rfl) ha (by decide) (by decide) he hpl).imp fun _ _ _=>Zf
 | any=>exact (YX (FY (hq.resolve_right Bool.false_ne_true)) hg hm (by kernel_rfl) ha (by decide) (by decide) he hpl).imp fun _ _ _=>Zf
 | divmod=>exact (YX A2 hg hm (by kernel_rfl) ha (by decide) (by decide) he hpl).imp fun _ _ _=>Zf
 | isinstance=>exact (YX (FX tab) hg hm (by kernel_rfl) ha (by decide) (by decide) he hpl).imp fun _ _ _=>Zf
 | len=>exact (YX FW hg hm (by kernel_rfl) ha (by decide) (by decide) he hpl).imp fun _ _ _=>Zf
 | max=>exact (YX (FU (hq.resolve_right Bool.false_ne_true)) hg hm (by kernel_rfl) ha (by decide) (by decide) he hpl).imp fun _ _ _=>Zf
 | min=>exact (YX (FT (hq.resolve_right Bool.false_ne_true)) hg hm (by kernel_rfl) ha (by decide) (by decide) he hpl).imp fun _ _ _=>Zf
 | str=>exact (Xs FS hg hm (by kernel_rfl) ha (by decide) (by decide) he hpl).imp fun _ _ _=>Zf
 | tuple=>exact (Xs Bv hg hm (by kernel_rfl) ha (by decide) (by decide) he hpl).imp fun _ _ _=>Zf
 | list=>exact (Xs Cy hg hm (by kernel_rfl) ha (by decide) (by decide) he hpl).imp fun _ _ _=>Zf
theorem IJ (t:Ty) (hB:Blt X.mg) (hg:Gl X (Xp t)):PE X (.Name (Xp t) pos) (lift (X.L rz Xe) (dC (.ty (Vz t)))) :=
 Xz (BP (v:=.ty (Vz t)) hg (hB.ty t) (BC t) rfl (by cases t<;>decide) (by cases t<;>decide)) fun H=>.ty _
end
mutual
inductive CE where
 | var (i:Nat)
 | int (i:Int)|bl (b:Bool)|non|str (x:Str)
 | glo (x:Str) (d:D)|ty (t:Ty)
 | bin (op:Operator) (a b:CE)|neg (a:CE)|not (a:CE)
 | cmp (op:CmpOp) (a b:CE)|chain (op op':CmpOp) (a b c:CE)
 | one (a:CE)|and (a b:CE)|or (a b:CE)
 | ife (c a b:CE)
 | tup (es:CEs)|lst (es:CEs)|dic0
 | ix (a b:CE)|sl (a:CE) (lo hi:CO)
 | call (x:Str) (S:DSp) (es:CEs)
 | callv (i:Nat) (alts:List (Str×DSp)) (es:CEs)
 | eqz (a b:CE)
 | bi (b:Bi) (es:CEs)
 | app (i:Nat) (e:CE)|pop (i:Nat) (e:CE)|ins (i:Nat) (a e:CE)
 | rev (a s:CE)
 | comp (N':List Str) (n:Nat) (g:CG) (it:CI) (elt:CE)
 | compI (N':List Str) (n:Nat) (g:CG) (it:CI) (c elt:CE)
inductive CEs where
 | nil|cons (e:CE) (es:CEs)
inductive CO where
 | none|some (e:CE)
inductive CG where
 | name (i:Nat)|tup (gs:CGs)|sub (a b:CE)
inductive CGs where
 | nil|cons (g:CG) (gs:CGs)
inductive CI where
 | seq (e:CE)|rng (es:CEs)|zip (es:CEs)|enum (es:CEs)|enumz (es:CEs)
end
structure Rd where
 e:DE
 t:DT
noncomputable def CEs.len:CEs->Nat
 | .nil=>0
 | .cons _ es=>es.len+1
noncomputable def CGs.len:CGs->Nat
 | .nil=>0
 | .cons _ es=>es.len+1
noncomputable def plain (t:DE):Rd:=⟨t,dTru t⟩
mutual
noncomputable def rE (Xe:DSt->DK):CE->Rd
 | .var i=>plain (dVar i)
 | .int i=>⟨dC (.int i),fun _ _ _=>False⟩
 | .bl b=>⟨dC (.bl b),fun _ _ _=>False⟩
 | .non=>⟨dC .non,fun _ _ _=>False⟩
 | .str x=>⟨dC (.str x),fun _ _ _=>False⟩
 | .glo _ d=>plain (dC d)
 | .ty t=>plain (dC (.ty (Vz t)))
 | .bin op a b=>plain (d2 (bOp op) (rE Xe a).e (rE Xe b).e)
 | .neg a=>plain (dNeg (rE Xe a).e)
 | .not a=>⟨D1 (rE Xe a).e,dNot (rE Xe a).t⟩
 | .eqz a b=>⟨d2 cEqZ (rE Xe a).e (rE Xe b).e,XG (d2 cEqZ (rE Xe a).e (rE Xe b).e)⟩
 | .cmp op a b=>⟨d2 (cOp op) (rE Xe a).e (rE Xe b).e,XG (d2 (cOp op) (rE Xe a).e (rE Xe b).e)⟩
 | .chain op op' a b c=>⟨Wk (cOp op) (cOp op') (rE Xe a).e (rE Xe b).e (rE Xe c).e,XG (Wk (cOp op) (cOp op') (rE Xe a).e (rE Xe b).e (rE Xe c).e)⟩
 | .one a=>rE Xe a
 | .and a b=>⟨D4 (rE Xe a).e (rE Xe b).e,dAnd (rE Xe a).t (rE Xe b).t⟩
 | .or a b=>⟨dOrV (rE Xe a).e (rE Xe b).e,dOr (rE Xe a).t (rE Xe b).t⟩
 | .ife c a b=>⟨dIfE (rE Xe c).t (rE Xe a).e (rE Xe b).e,fun _ _ _=>False⟩
 | .tup es=>plain (dTup (rEs Xe es))
 | .lst es=>plain (dLst (rEs Xe es))
 | .dic0=>⟨D3,fun _ _ _=>False⟩
 | .ix a b=>plain (d2 iOp (rE Xe a).e (rE Xe b).e)
 | .sl a lo hi=>plain (dSl (rE Xe a).e (rO Xe lo) (rO Xe hi))
 | .rev a s=>plain (dRev (rE Xe a).e (WS (rE Xe s).e))
 | .call _ S es=>plain (Zr S Xe (rEs Xe es))
 | .callv i alts es=>plain (Yc alts i Xe (rEs Xe es))
 | .bi b es=>plain (dCB (Wp b) (rEs Xe es))
 | .app i e=>plain (dApp (dVar i) (rE Xe e).e)
 | .pop i e=>plain (dPop (dVar i) (rE Xe e).e)
 | .ins i a e=>plain (dIns (dVar i) (rE Xe a).e (rE Xe e).e)
 | .comp _ n g it elt=>plain (YR n (rI Xe it) (rG X0 g) (rE X0 elt).e)
 | .compI _ n g it c elt=>plain (X4 n (rI Xe it) (rG X0 g) (bIf (rE X0 c).t (XL (rE X0 elt).e)))
noncomputable def rEs (Xe:DSt->DK):CEs->DA
 | .nil=>dNil
 | .cons e es=>YK (rE Xe e).e (rEs Xe es)
noncomputable def rO (Xe:DSt->DK):CO->DO
 | .none=>Jh
 | .some e=>WS (rE Xe e).e
noncomputable def rG (Xe:DSt->DK):CG->DG
 | .name i=>Z1 i
 | .tup gs=>Yr gs.len (rGs Xe gs)
 | .sub a b=>CY (rE Xe a).e (rE Xe b).e
noncomputable def rGs (Xe:DSt->DK):CGs->DGs
 | .nil=>CZ
 | .cons g gs=>AX (rG Xe g) (rGs Xe gs)
noncomputable def rI (Xe:DSt->DK):CI->DI
 | .seq e=>Yu (rE Xe e).e
 | .rng es=>YQ (rEs Xe es)
 | .zip es=>ZF (rEs Xe es)
 | .enum es=>Vm (rEs Xe es)
 | .enumz es=>Vl (rEs Xe es)
end
structure Ck where
 N:List Str
 sc:Scope
 top:Bool
 cal:Bool
noncomputable def Ck.kind (k:Ck) (x:Str):Option NameKind:=k.sc.names.lookup x
noncomputable def Ck.gl (k:Ck) (x:Str):Bool:=decide (k.kind x=some .globalImplicit)
noncomputable def Ck.vis (k:Ck) (x:Str):Bool:=decide (k.kind x=some .local) || decide (k.kind x=some .cell) || decide (k.kind x=some .free)
noncomputable def Ck.loc (k:Ck) (x:Str):Bool:=decide (k.kind x=some .local) || (k.top&&decide (k.kind x=some .cell))
noncomputable def YI (x:Str):Bool:=!(x==("__debug__":Str))&&!(x==("__classdict__":Str))
noncomputable def Ck.slot (k:Ck) (i:Nat) (x:Str):Bool:=decide (k.N[i]?=some x)&&k.vis x&&YI x
noncomputable def blkB (k:Ck) (N':List Str) (sc:Scope):Bool :=
 decide (sc.kind=.function)&&sc.names.all (fun y=>!decide (y.2=.cell))&&sc.names.all (fun y=>!decide (y.2=.local) || decide (sc.names.lookup y.1=some .local))
 && sc.names.all (fun y=>!decide (y.2=.free) || decide (k.kind y.1=some .cell) || decide (k.kind y.1=some .free))
 && (List.range k.N.length).all (fun i=>match N'[i]? with
   | some x=>match sc.names.lookup x with
    | some .free=>decide (k.N[i]?=some x)
    | some .local=>false
    | some .cell=>false
    | _=>true
   | none=>true)&&decide (k.N.length<=N'.length)&&decide N'.Nodup
mutual
noncomputable def isE (k:Ck):CE->Expr->Bool
 | .var i,e=>match e with | .Name x _=>k.slot i x|_=>false
 | .int i,e=>match e with | .Constant (.int j) _ _=>decide (i=j)|_=>false
 | .bl b,e=>match e with | .Constant (.bool c) _ _=>decide (b=c)|_=>false
 | .non,e=>match e with | .Constant .none _ _=>true|_=>false
 | .str x,e=>match e with | .Constant (.str y) _ _=>decide (x=y)|_=>false
 | .glo x _,e=>match e with | .Name y _=>decide (x=y)&&k.gl x&&YI x|_=>false
 | .ty t,e=>match e with | .Name y _=>decide (Xp t=y)&&k.gl y|_=>false
 | .bin op a b,e=>match e with | .BinOp x op' y _=>decide (op=op')&&isE k a x&&isE k b y|_=>false
 | .neg a,e=>match e with | .UnaryOp .USub x _=>isE k a x|_=>false
 | .not a,e=>match e with | .UnaryOp .Not x _=>isE k a x|_=>false
 | .eqz a b,e=>match e with | .Compare x [.Eq] [y] _=>isE k a x&&isE k b y|_=>false
 | .cmp op a b,e=>match e with | .Compare x [op'] [y] _=>decide (op=op')&&isE k a x&&isE k b y|_=>false
 | .chain op op' a b c,e=>match e with | .Compare x [p,p'] [y,z] _=>decide (op=p)&&decide (op'=p')&&isE k a x&&isE k b y&&isE k c z|_=>false
 | .one a,e=>match e with | .BoolOp _ [x] _=>isE k a x|_=>false
 | .and a b,e=>match e with | .BoolOp .And (x::y::r) pos=>isE k a x&&isE k b (.BoolOp .And (y::r) pos)|_=>false
 | .or a b,e=>match e with | .BoolOp .Or (x::y::r) pos=>isE k a x&&isE k b (.BoolOp .Or (y::r) pos)|_=>false
 | .ife c a b,e=>match e with | .IfExp x y z _=>isE k c x&&isE k a y&&isE k b z|_=>false
 | .tup es,e=>match e with | .Tuple xs _ _=>isEs k es xs|_=>false
 | .lst es,e=>match e with | .List xs _=>isEs k es xs|_=>false
 | .dic0,e=>match e with | .Dict [] [] _=>true|_=>false
 | .ix a b,e=>match e with | .Subscript x y _=>isE k a x&&isE k b y|_=>false
 | .sl a lo hi,e=>match e with | .Subscript x (.Slice l h none _) _=>isE k a x&&isO k lo l&&isO k hi h|_=>false
 | .rev a s,e=>match e with | .Subscript x (.Slice none none (some y) _) _=>isE k a x&&isE k s y|_=>false
 | .callv i _ es,e=>match e with | .Call (.Name y _) (x::xs) [] _=>k.slot i y&&isEs k es (x::xs)&&k.cal|_=>false
 | .call x _ es,e=>match e with | .Call (.Name y _) xs [] _=>decide (x=y)&&k.gl x&&YI x&&isEs k es xs&&k.cal|_=>false
 | .bi b es,e=>match e with | .Call (.Name y _) (x::xs) [] _=>decide (Wq b=y)&&k.gl y&&isEs k es (x::xs)&&(k.cal || quiet b)|_=>false
 | .app i a,e=>match e with | .Call (.Attribute (.Name x _) m ap) [y] [] p=>decide (m="append")&&k.slot i x&&isE k a y&&(ap.endLine==p.line)|_=>false
 | .pop i a,e=>match e with | .Call (.Attribute (.Name x _) m ap) [y] [] p=>decide (m="pop")&&k.slot i x&&isE k a y&&(ap.endLine==p.line)|_=>false
 | .ins i a b,e=>match e with | .Call (.Attribute (.Name x _) m ap) [y,z] [] p=>decide (m="insert")&&k.slot i x&&isE k a y&&isE k b z&&(ap.endLine==p.line)|_=>false
 | .comp N' n g it elt,e=>match e with
  | .ListComp y [⟨tg,iter,[],z⟩] sc _=>decide (z=0)&&blkB k N' sc&&decide (n=N'.length-k.N.length)&&isG ⟨N',sc,false,k.cal⟩ g tg&&isI k tg it iter&&isE ⟨N',sc,false,k.cal⟩ elt y&&k.cal
  | _=>false
 | .compI N' n g it c elt,e=>match e with
  | .ListComp y [⟨tg,iter,[x],z⟩] sc _=>decide (z=0)&&blkB k N' sc&&decide (n=N'.length-k.N.length)&&isG ⟨N',sc,false,k.cal⟩ g tg&&isI k tg it iter&&isE ⟨N',sc,false,k.cal⟩ c x&&isE ⟨N',sc,false,k.cal⟩ elt y&&k.cal
  | _=>false
noncomputable def isEs (k:Ck):CEs->List Expr->Bool
 | .nil,xs=>match xs with | []=>true|_=>false
 | .cons e es,xs=>match xs with|x::r=>isE k e x&&isEs k es r|_=>false
noncomputable def isO (k:Ck):CO->Option Expr->Bool
 | .none,x=>match x with|none=>true|_=>false
 | .some e,x=>match x with|some y=>isE k e y|_=>false
noncomputable def isG (k:Ck):CG->Expr->Bool
 | .name i,e=>match e with | .Name x _=>decide (k.N[i]?=some x)&&k.loc x|_=>false
 | .tup gs,e=>match e with | .Tuple xs _ _=>isGs k gs xs&&k.cal|_=>false
 | .sub a b,e=>match e with | .Subscript x y _=>isE k a x&&isE k b y|_=>false
noncomputable def isGs (k:Ck):CGs->List Expr->Bool
 | .nil,xs=>match xs with | []=>true|_=>false
 | .cons e es,xs=>match xs with|x::r=>isG k e x&&isGs k es r|_=>false
noncomputable def isI (k:Ck) (tg:Expr):CI->Expr->Bool
 | .seq e,x=>isE k e x
 | .rng es,x=>match x with | .Call (.Name y _) (a::r) [] _=>decide (y="range")&&k.gl y&&isEs k es (a::r)|_=>false
 | .zip es,x=>match tg with | .Tuple _ _ _=>(match x with | .Call (.Name y _) (a::r) [] _=>decide (y="zip")&&k.gl y&&isEs k es (a::r)|_=>false)|_=>false
 | .enumz es,x=>match tg with | .Tuple _ _ _=>(match x with | .Call (.Name y _) [.Call (.Name y2 _) (a::r) [] _] [] _=>decide (y="enumerate")&&k.gl y&&decide (y2="zip")&&k.gl y2&&isEs k es (a::r)|_=>false)|_=>false
 | .enum es,x=>match tg with | .Tuple _ _ _=>(match x with | .Call (.Name y _) (a::r) [] _=>decide (y="enumerate")&&k.gl y&&isEs k es (a::r)|_=>false)|_=>false
end
noncomputable def W9 (P:Str->Str->DSp->Prop) (G:Str->D->Prop):List (Str×DSp)->Prop
 | []=>True
 | a::r=>P "" a.1 a.2/\G a.1 (.fn a.1)/\W9 P G r
theorem W8 {P:Str->Str->DSp->Prop} {G:Str->D->Prop} {n:Str} {S:DSp}:∀ {l:List (Str×DSp)},W9 P G l->(n,S)∈l->P "" n S/\G n (.fn n)
 | [],_,h=>nomatch h
 | a::r,o,h=>by
  rcases List.mem_cons.mp h with e|h
  ·subst e;exact⟨o.1,o.2.1⟩
  ·exact W8 o.2.2 h
theorem XF {P P':Str->Str->DSp->Prop} {G G':Str->D->Prop} (p:∀ c x S,P c x S->P' c x S) (g:∀ x d,G x d->G' x d):∀ {l:List (Str×DSp)},W9 P G l->W9 P' G' l
 | [],_=>trivial
 | a::r,o=>⟨p _ _ _ o.1,g _ _ o.2.1,XF p g o.2.2⟩
mutual
noncomputable def onE (P:Str->Str->DSp->Prop) (G:Str->D->Prop):CE->Prop
 | .var _ | .int _ | .bl _ | .non | .str _ | .ty _ | .dic0=>True
 | .glo x d=>G x d
 | .bin _ a b | .cmp _ a b | .eqz a b | .and a b | .or a b | .ix a b | .ins _ a b=>onE P G a/\onE P G b
 | .neg a | .not a | .one a=>onE P G a
 | .chain _ _ a b c | .ife a b c=>onE P G a/\onE P G b/\onE P G c
 | .tup es | .lst es | .bi _ es=>onEs P G es
 | .sl a lo hi=>onE P G a/\onO P G lo/\onO P G hi
 | .rev a s=>onE P G a/\onE P G s
 | .call x S es=>P "" x S/\onEs P G es
 | .callv _ alts es=>W9 P G alts/\onEs P G es
 | .app _ e | .pop _ e=>onE P G e
 | .comp _ _ g it elt=>onG P G g/\onI P G it/\onE P G elt
 | .compI _ _ g it c elt=>onG P G g/\onI P G it/\onE P G c/\onE P G elt
noncomputable def onEs (P:Str->Str->DSp->Prop) (G:Str->D->Prop):CEs->Prop
 | .nil=>True
 | .cons e es=>onE P G e/\onEs P G es
noncomputable def onO (P:Str->Str->DSp->Prop) (G:Str->D->Prop):CO->Prop
 | .none=>True
 | .some e=>onE P G e
noncomputable def onG (P:Str->Str->DSp->Prop) (G:Str->D->Prop):CG->Prop
 | .name _=>True
 | .tup gs=>onGs P G gs
 | .sub a b=>onE P G a/\onE P G b
noncomputable def onGs (P:Str->Str->DSp->Prop) (G:Str->D->Prop):CGs->Prop
 | .nil=>True
 | .cons g gs=>onG P G g/\onGs P G gs
noncomputable def onI (P:Str->Str->DSp->Prop) (G:Str->D->Prop):CI->Prop
 | .seq e=>onE P G e
 | .rng es=>onEs P G es
 | .zip es=>onEs P G es
 | .enum es=>onEs P G es
 | .enumz es=>onEs P G es
end
end DL
end
noncomputable section
namespace DL
open PySem PySem.Spec PyProof.Rows L2
structure CtxOk (X:Cx) (k:Ck):Prop where
 N:X.N=k.N
 nd:k.N.Nodup
 sc:∀ x κ,k.kind x=some κ->κ≠.free->X.env.kindOf x=some κ
 fr:∀ x,k.kind x=some .free->X.env.kindOf x=some .cell\/X.env.kindOf x=some .free
 fn:k.top=true->∀ x,X.fn x=true
 calm:k.cal=true->X.calm=true
 room:k.cal=true->Room 0 X.A
 hu:X.A.units+66<cLine
 blt:Blt X.mg
 po:PassesOwn (model X.prog X.w) X.A X.env X.xe
 tab:Zn X.K=true
 st:k.top=true->X.stack=X.env::X.outer/\X.env.frame=some X.env.locals
structure Sh (e:Expr):Prop where
 star:∀ env es,starEach (e::es) env=(false,eval e env)::starEach es env
 ix:Vw e
 mark:∀ op,behindInMarks op e=false
 set:∀ env x,foldedSetIterable e env x=pure x
 sub:∀ o pos env v,assign (.Subscript o e pos) env v=(do
   let ov <- holding [v] (eval o env)
   let iv <- holding [v,ov] (eval e env)
   standAt pos
   holding [v,ov,iv] (setItem ov iv v)
   release [v,ov,iv] [])
structure SdE (X:Cx) (rz:Bool) (Xe:DSt->DK) (c:CE) (e:Expr):Prop where
 pe:PE X e (lift (X.L rz Xe) (rE Xe c).e)
 pt:PT X e (YO (X.L rz Xe) (rE Xe c).t)
 pw:∀ op vs pos,e=.BoolOp op vs pos->PW X e (YO (X.L rz Xe) (rE Xe c).t)
 sh:Sh e
structure SdEs (X:Cx) (rz:Bool) (Xe:DSt->DK) (c:CEs) (es:List Expr):Prop where
 pa:PA X es (Z4 (X.L rz Xe) (rEs Xe c))
 pl:∀ pos env,(backTo pos (starEach es env)).any (·.1)=false
 hd:∀ e r,es=e::r->Sh e/\∀ pos env,(backTo pos (starEach r env)).any (·.1)=false
structure SdG (X:Cx) (rz:Bool) (Xe:DSt->DK) (c:CG) (e:Expr):Prop where
 pg:PG X e (YY (X.L rz Xe) (rG Xe c))
 as:∀ env es,assignEach (e::es) env=(false,assign e env)::assignEach es env
structure SdGs (X:Cx) (rz:Bool) (Xe:DSt->DK) (c:CGs) (es:List Expr):Prop where
 pg:PGs X es (Wb (X.L rz Xe) (rGs Xe c))
 len:∀ env,(assignEach es env).length=c.len
 st:∀ env,(assignEach es env).findIdx? (·.1)=none
structure SdI (X:Cx) (rz:Bool) (Xe:DSt->DK) (tg:Expr) (c:CI) (e:Expr):Prop where
 pi:PI X tg e (Zi (X.L rz Xe) (rI Xe c))
 set:∀ env x,foldedSetIterable e env x=pure x
section
variable {X:Cx} {rz:Bool} {Xe:DSt->DK} {k:Ck}
theorem CtxOk.vis (C:CtxOk X k) {x:Str} (h:k.vis x=true):Vis X.env.scope x:=by
 unfold Ck.vis at h;simp only[Bool.or_eq_true,decide_eq_true_eq] at h;rcases h with (h|h)|h
 ·exact .inl (C.sc x _ h (by decide))
 ·exact .inr (.inl (C.sc x _ h (by decide)))
 ·exact .inr (C.fr x h)
theorem CtxOk.gl (C:CtxOk X k) {x:Str} (h:k.gl x=true):Gl X x:=by
 unfold Ck.gl at h;exact C.sc x _ (of_decide_eq_true h) (by decide)
theorem CtxOk.loc (C:CtxOk X k) {x:Str} (h:k.loc x=true):Loc X.env.scope x/\(X.fn x=true\/X.env.scope.names.lookup x=some .local):=by
 unfold Ck.loc at h;simp only[Bool.or_eq_true,Bool.and_eq_true,decide_eq_true_eq] at h;rcases h with h|⟨h1,h⟩
 ·have:=C.sc x _ h (by decide);exact⟨.inl this,.inr this⟩
 ·exact⟨.inr (C.sc x _ h (by decide)),.inl (C.fn h1 x)⟩
theorem CtxOk.var (C:CtxOk X k) {i:Nat} {x:Str} {pos:Pos} (h:k.slot i x=true):PE X (.Name x pos) (lift (X.L rz Xe) (dVar i)):=by
 unfold Ck.slot YI at h;simp only[Bool.and_eq_true,decide_eq_true_eq,Bool.not_eq_true'] at h;exact FD (Ux (by rw[C.N];exact h.1.1) (C.vis h.1.2) h.2.1 h.2.2)
theorem CtxOk.tvar (C:CtxOk X k) {i:Nat} {x:Str} {pos:Pos} (h:k.slot i x=true):PE X (.Name x pos) (tVar i):=by
 unfold Ck.slot YI at h;simp only[Bool.and_eq_true,decide_eq_true_eq,Bool.not_eq_true'] at h;exact Ux (by rw[C.N];exact h.1.1) (C.vis h.1.2) h.2.1 h.2.2
theorem CtxOk.qt (C:CtxOk X k) {b:Bool} (h:(k.cal || b)=true):X.calm=true\/b=true:=by
 cases hk:k.cal with
 | true=>exact .inl (C.calm hk)
 | false=>rw [hk] at h;exact .inr h
theorem Zh {env:Env}:∀ {names:List (Str×NameKind)} {x:Str} {κ:NameKind},names.lookup x=some κ->κ≠.free ->
  (names.map fun (n,k)=>if (k==NameKind.free&&env.scope.kind==.function&&env.kindOf n==some .cell) then (n,NameKind.cell) else (n,k)).lookup x=some κ
 | [],_,_,h,_=>by simp at h
 | (n,k)::r,x,κ,h,hne=>by
  have ih:=@Zh env r x κ;simp only[List.map_cons];rw[List.lookup_cons] at h;by_cases hc:(k==NameKind.free&&env.scope.kind==.function&&env.kindOf n==some .cell)=true
  ·rw[if_pos hc,List.lookup_cons]
   cases hx:x==n with
   | true =>
    simp only[hx] at h;cases h;simp only[Bool.and_eq_true,beq_iff_eq] at hc;exact absurd hc.1.1 hne
   | false=>simp only[hx] at h;exact ih h hne
  ·rw[if_neg hc,List.lookup_cons]
   cases hx:x==n with
   | true=>simp only[hx] at h;cases h;rfl
   | false=>simp only[hx] at h;exact ih h hne
theorem Z3 {env:Env}:∀ {names:List (Str×NameKind)} {x:Str},names.lookup x=some .free ->
  (names.map fun (n,k)=>if (k==NameKind.free&&env.scope.kind==.function&&env.kindOf n==some .cell) then (n,NameKind.cell) else (n,k)).lookup x=some .cell \/
  (names.map fun (n,k)=>if (k==NameKind.free&&env.scope.kind==.function&&env.kindOf n==some .cell) then (n,NameKind.cell) else (n,k)).lookup x=some .free
 | [],_,h=>by simp at h
 | (n,k)::r,x,h=>by
  have ih:=@Z3 env r x;simp only[List.map_cons];rw[List.lookup_cons] at h;by_cases hc:(k==NameKind.free&&env.scope.kind==.function&&env.kindOf n==some .cell)=true
  ·rw[if_pos hc,List.lookup_cons]
   cases hx:x==n with
   | true=>exact .inl rfl
   | false=>simp only[hx] at h;exact ih h
  ·rw[if_neg hc,List.lookup_cons]
   cases hx:x==n with
   | true=>simp only[hx] at h;cases h;exact .inr rfl
   | false=>simp only[hx] at h;exact ih h
theorem Xo (C:CtxOk X k) {N':List Str} {sc:Scope} (h:blkB k N' sc=true):BlkOk X.N X.env N' sc/\N'.Nodup:=by
 unfold blkB at h;simp only[Bool.and_eq_true,decide_eq_true_eq,List.all_eq_true,Bool.or_eq_true,Bool.not_eq_true',decide_eq_false_iff_not] at h;obtain⟨⟨⟨⟨⟨⟨h1,h2⟩,h3⟩,h4⟩,h5⟩,h6⟩,h7⟩:=h;refine⟨⟨h1,fun y hy=>h2 y hy,fun y hy e=>(h3 y hy).resolve_left fun z=>z e,fun y hy e=>?_,fun i x hi hx κ hκ=>?_,by rw[C.N];exact h6⟩,h7⟩
 ·rcases h4 y hy with (z|z)|z
  ·exact absurd e z
  ·exact .inl (C.sc _ _ z (by decide))
  ·exact C.fr _ z
 ·have q:=h5 i (List.mem_range.mpr (by rw[<- C.N];exact hi))
  rw[hx] at q;simp only[hκ] at q;cases κ with
  | «local»=>simp at q
  | cell=>simp at q
  | free=>exact .inr (.inr ⟨rfl,by rw[C.N];exact of_decide_eq_true q⟩)
  | globalExplicit=>exact .inr (.inl rfl)
  | globalImplicit=>exact .inl rfl
theorem CtxOk.blk (C:CtxOk X k) {N':List Str} {sc:Scope} (h:blkB k N' sc=true) (cl:List (Str×Addr)) (Cn:Addr) (s:Shared) (H:Hp) (ex:List Addr):CtxOk (Yj X N' sc cl Cn s H ex []) ⟨N',sc,false,k.cal⟩ :=
 ⟨rfl,(Xo C h).2,fun x κ e hne=>Zh (env:=X.env) e hne,fun x e=>Z3 (env:=X.env) e,fun z=>(by cases z),C.calm,C.room,C.hu,C.blt,PassesOwn.never,C.tab,fun z=>(by cases z)⟩
end
theorem Yh {X:Cx} {rz:Bool} {Xe:DSt->DK} {c:CE} {e:Expr} {t:DE} (hr:rE Xe c=plain t) (h:PE X e (lift (X.L rz Xe) t)) (hb:∀ op vs pos,e≠.BoolOp op vs pos) (he:∀ whole,isTrue e X.env whole=(do let v <- whole;standAt e.pos;holding [v] (truthy v))) (sh:Sh e):SdE X rz Xe c e :=
 ⟨by rw[hr];exact h,by rw[hr];exact Fl h he,fun op vs pos z=>absurd z (hb op vs pos),sh⟩
theorem Zs {X:Cx} {rz:Bool} {Xe:DSt->DK} {c:CE} {e:Expr} {t:DE} (hr:rE Xe c=⟨t,fun _ _ _=>False⟩) (h:PE X e (lift (X.L rz Xe) t)) (hb:∀ op vs pos,e≠.BoolOp op vs pos) (sh:Sh e):SdE X rz Xe c e :=
 ⟨by rw[hr];exact h,by rw[hr];exact fun pins s σ H Q I h=>by obtain⟨_,_,_,_,_,t,_⟩:=h;exact t.elim,fun op vs pos z=>absurd z (hb op vs pos),sh⟩
mutual
theorem Y4 {P P':Str->Str->DSp->Prop} {G G':Str->D->Prop}:∀ (c:CE),(∀ c x S,P c x S->P' c x S)->(∀ x d,G x d->G' x d)->onE P G c->onE P' G' c
 | .var _,_,_,_ | .int _,_,_,_ | .bl _,_,_,_ | .non,_,_,_ | .str _,_,_,_ | .ty _,_,_,_ | .dic0,_,_,_=>True.intro
 | .glo x d,p,g,h=>g x d h
 | .bin _ a b,p,g,h | .cmp _ a b,p,g,h | .eqz a b,p,g,h | .and a b,p,g,h | .or a b,p,g,h | .ix a b,p,g,h | .ins _ a b,p,g,h=>⟨Y4 a p g h.1,Y4 b p g h.2⟩
 | .neg a,p,g,h | .not a,p,g,h | .one a,p,g,h=>Y4 a p g h
 | .chain _ _ a b c,p,g,h | .ife a b c,p,g,h=>⟨Y4 a p g h.1,Y4 b p g h.2.1,Y4 c p g h.2.2⟩
 | .tup es,p,g,h | .lst es,p,g,h | .bi _ es,p,g,h=>YF es p g h
 | .sl a lo hi,p,g,h=>⟨Y4 a p g h.1,VQ lo p g h.2.1,VQ hi p g h.2.2⟩
 | .rev a s,p,g,h=>⟨Y4 a p g h.1,Y4 s p g h.2⟩
 | .call x S es,p,g,h=>⟨p "" x S h.1,YF es p g h.2⟩
 | .callv _ _ es,p,g,h=>⟨XF p g h.1,YF es p g h.2⟩
 | .app _ e,p,g,h | .pop _ e,p,g,h=>Y4 e p g h
 | .comp _ _ t it elt,p,g,h=>⟨YD t p g h.1,W7 it p g h.2.1,Y4 elt p g h.2.2⟩
 | .compI _ _ t it c elt,p,g,h=>⟨YD t p g h.1,W7 it p g h.2.1,Y4 c p g h.2.2.1,Y4 elt p g h.2.2.2⟩
theorem YF {P P':Str->Str->DSp->Prop} {G G':Str->D->Prop}:∀ (c:CEs),(∀ c x S,P c x S->P' c x S)->(∀ x d,G x d->G' x d)->onEs P G c->onEs P' G' c
 | .nil,_,_,_=>True.intro
 | .cons e es,p,g,h=>⟨Y4 e p g h.1,YF es p g h.2⟩
theorem VQ {P P':Str->Str->DSp->Prop} {G G':Str->D->Prop}:∀ (c:CO),(∀ c x S,P c x S->P' c x S)->(∀ x d,G x d->G' x d)->onO P G c->onO P' G' c
 | .none,_,_,_=>True.intro
 | .some e,p,g,h=>Y4 e p g h
theorem YD {P P':Str->Str->DSp->Prop} {G G':Str->D->Prop}:∀ (c:CG),(∀ c x S,P c x S->P' c x S)->(∀ x d,G x d->G' x d)->onG P G c->onG P' G' c
 | .name _,_,_,_=>True.intro
 | .tup gs,p,g,h=>WD gs p g h
 | .sub a b,p,g,h=>⟨Y4 a p g h.1,Y4 b p g h.2⟩
theorem WD {P P':Str->Str->DSp->Prop} {G G':Str->D->Prop}:∀ (c:CGs),(∀ c x S,P c x S->P' c x S)->(∀ x d,G x d->G' x d)->onGs P G c->onGs P' G' c
 | .nil,_,_,_=>True.intro
 | .cons e es,p,g,h=>⟨YD e p g h.1,WD es p g h.2⟩
theorem W7 {P P':Str->Str->DSp->Prop} {G G':Str->D->Prop}:∀ (c:CI),(∀ c x S,P c x S->P' c x S)->(∀ x d,G x d->G' x d)->onI P G c->onI P' G' c
 | .seq e,p,g,h=>Y4 e p g h
 | .rng es,p,g,h=>YF es p g h
 | .zip es,p,g,h=>YF es p g h
 | .enum es,p,g,h=>YF es p g h
 | .enumz es,p,g,h=>YF es p g h
end
theorem and2 {a b:Bool} (h:(a&&b)=true):a=true/\b=true:=by
 cases a with
 | true=>exact⟨rfl,h⟩
 | false=>exact nfx h
theorem Zw {x:Str} (h:YI x=true):(x==("__debug__":Str))=false:=by
 obtain⟨h,_⟩:=and2 (show (!(x==("__debug__":Str))&&_)=true from h)
 revert h
 cases (x==("__debug__":Str)) with
 | true=>exact fun h=>absurd h Bool.false_ne_true
 | false=>exact fun _=>rfl
mutual
theorem sE:∀ (c:CE) (rz:Bool) (Xe:DSt->DK) (k:Ck) (X:Cx) (e:Expr),CtxOk X k->onE (FnAt X) (GloAt X) c->isE k c e=true->SdE X rz Xe c e
  | .var i,rz,Xe,k,X,e,C,on,h=>by
    cases e with
    | Name x p=>exact Yh rfl (C.var (show k.slot i x=true from h)) %[|2] (fun _=>rfl) %[|1]
    | _=>exact nfx h
  | .int i,rz,Xe,k,X,e,C,on,h=>by
    cases e with
    | Constant c q p =>
      cases c with
      | int j =>
        obtain rfl:=of_decide_eq_true (show decide (i=j)=true from h);exact Zs rfl (Xz DP fun H=>.int _) %[|2] %[|1]
      | _=>exact nfx h
    | _=>exact nfx h
  | .bl i,rz,Xe,k,X,e,C,on,h=>by
    cases e with
    | Constant c q p =>
      cases c with
      | bool j =>
        obtain rfl:=of_decide_eq_true (show decide (i=j)=true from h);exact Zs rfl (Xz Ig fun H=>.bl _) %[|2] %[|1]
      | _=>exact nfx h
    | _=>exact nfx h
  | .non,rz,Xe,k,X,e,C,on,h=>by
    cases e with
    | Constant c q p =>
      cases c with
      | none=>exact Zs rfl (Xz DM fun H=>.non) %[|2] %[|1]
      | _=>exact nfx h
    | _=>exact nfx h
  | .str i,rz,Xe,k,X,e,C,on,h=>by
    cases e with
    | Constant c q p =>
      cases c with
      | str j =>
        obtain rfl:=of_decide_eq_true (show decide (i=j)=true from h);exact Zs rfl (Xz DC fun H=>.str _) %[|2] %[|1]
      | _=>exact nfx h
    | _=>exact nfx h
  | .glo x d,rz,Xe,k,X,e,C,on,h=>by
    cases e with
    | Name y p =>
      obtain⟨h1,h3⟩:=and2 (show (_&&YI x)=true from h);obtain⟨h1,h2⟩:=and2 (show (decide (x=y)&&k.gl x)=true from h1);obtain rfl:=of_decide_eq_true h1;obtain⟨u,v,e1,e2,e3⟩:=(show GloAt X _ d from on).ex;exact Yh rfl (Xz (BO (C.gl h2) e1 e2 (Zw h3)) e3) %[|2] (fun _=>rfl) %[|1]
    | _=>exact nfx h
  | .ty t,rz,Xe,k,X,e,C,on,h=>by
    cases e with
    | Name y p =>
      obtain⟨h1,h2⟩:=and2 (show (decide (Xp t=y)&&k.gl y)=true from h);obtain rfl:=of_decide_eq_true h1;exact Yh rfl (IJ t C.blt (C.gl h2)) %[|2] (fun _=>rfl) %[|1]
    | _=>exact nfx h
  | .bin op a b,rz,Xe,k,X,e,C,on,h=>by
    cases e with
    | BinOp x op' y p =>
      obtain⟨h1,h3⟩:=and2 (show (_&&isE k b y)=true from h);obtain⟨h1,h2⟩:=and2 (show (decide (op=op')&&isE k a x)=true from h1);obtain rfl:=of_decide_eq_true h1;exact Yh rfl (FO (op_b op) (sE a rz Xe k X _ C on.1 h2).pe (sE b rz Xe k X _ C on.2 h3).pe) %[|2] (fun _=>rfl) %[|1]
    | _=>exact nfx h
  | .neg a,rz,Xe,k,X,e,C,on,h=>by
    cases e with
    | UnaryOp o x p =>
      cases o with
      | USub=>exact Yh rfl (FI (sE a rz Xe k X _ C on h).pe) %[|2] (fun _=>rfl) %[|1]
      | _=>exact nfx h
    | _=>exact nfx h
  | .not a,rz,Xe,k,X,e,C,on,h=>by
    cases e with
    | UnaryOp o x p =>
      cases o with
      | Not =>
        have s:=sE a rz Xe k X x C on h;exact⟨FH s.pe,Fm s.pt,fun _ _ _ z=>(nomatch z),%[|1]⟩
      | _=>exact nfx h
    | _=>exact nfx h
  | .eqz a b,rz,Xe,k,X,e,C,on,h=>by
    cases e with
    | Compare x os ys p =>
      cases os with
      | nil=>exact nfx h
      | cons o os =>
        cases os with
        | cons _ _=>exact absurd (by cases o<;>exact h) Bool.false_ne_true
        | nil =>
          cases ys with
          | nil=>exact absurd (by cases o<;>exact h) Bool.false_ne_true
          | cons y ys =>
            cases ys with
            | cons _ _=>exact absurd (by cases o<;>exact h) Bool.false_ne_true
            | nil =>
              cases o with
              | Eq =>
                obtain⟨h2,h3⟩:=and2 (show (isE k a x&&isE k b y)=true from h);have s1:=sE a rz Xe k X _ C on.1 h2;have s2:=sE b rz Xe k X _ C on.2 h3;exact⟨FM C.hu s1.pe s2.pe (s2.sh.mark .Eq),Fn C.hu s1.pe s2.pe (s2.sh.mark .Eq),fun _ _ _ z=>(nomatch z),%[|1]⟩
              | _=>exact nfx h
    | _=>exact nfx h
  | .cmp op a b,rz,Xe,k,X,e,C,on,h=>by
    cases e with
    | Compare x os ys p =>
      cases os with
      | nil=>exact nfx h
      | cons o os =>
        cases os with
        | cons _ _=>exact nfx h
        | nil =>
          cases ys with
          | nil=>exact nfx h
          | cons y ys =>
            cases ys with
            | cons _ _=>exact nfx h
            | nil =>
              obtain⟨h1,h3⟩:=and2 (show (_&&isE k b y)=true from h);obtain⟨h1,h2⟩:=and2 (show (decide (op=o)&&isE k a x)=true from h1);obtain rfl:=of_decide_eq_true h1;have s1:=sE a rz Xe k X _ C on.1 h2;have s2:=sE b rz Xe k X _ C on.2 h3;exact⟨FN C.hu s1.pe s2.pe (s2.sh.mark op),Fo C.hu s1.pe s2.pe (s2.sh.mark op),fun _ _ _ z=>(nomatch z),%[|1]⟩
    | _=>exact nfx h
  | .chain op op' a b c,rz,Xe,k,X,e,C,on,h=>by
    cases e with
    | Compare x os ys p =>
      cases os with
      | nil=>exact nfx h
      | cons o os =>
        cases os with
        | nil=>exact nfx h
        | cons o' os =>
          cases os with
          | cons _ _=>exact nfx h
          | nil =>
            cases ys with
            | nil=>exact nfx h
            | cons y ys =>
              cases ys with
              | nil=>exact nfx h
              | cons z ys =>
                cases ys with
                | cons _ _=>exact nfx h
                | nil =>
                  obtain⟨h1,h4⟩:=and2 (show (_&&isE k c z)=true from h);obtain⟨h1,h3⟩:=and2 (show (_&&isE k b y)=true from h1);obtain⟨h1,h2⟩:=and2 (show (_&&isE k a x)=true from h1);obtain⟨h1,h0⟩:=and2 (show (decide (op=o)&&decide (op'=o'))=true from h1);obtain rfl:=of_decide_eq_true h1;obtain rfl:=of_decide_eq_true h0;have s1:=sE a rz Xe k X _ C on.1 h2;have s2:=sE b rz Xe k X _ C on.2.1 h3;have s3:=sE c rz Xe k X _ C on.2.2 h4;exact⟨Bl C.hu s1.pe s2.pe s3.pe (s3.sh.mark op'),B9 C.hu s1.pe s2.pe s3.pe (s3.sh.mark op'),fun _ _ _ z=>(nomatch z),%[|1]⟩
    | _=>exact nfx h
  | .one a,rz,Xe,k,X,e,C,on,h=>by
    cases e with
    | BoolOp op xs pos =>
      cases xs with
      | nil=>exact nfx h
      | cons x xs =>
        cases xs with
        | cons _ _=>exact nfx h
        | nil =>
          have s:=sE a rz Xe k X _ C on (show isE k a x=true from h);have w:PW X (.BoolOp op [x] pos) (YO (X.L rz Xe) (rE Xe a).t):=by
            cases op with
            | And=>exact BJ s.pt
            | Or=>exact Dn s.pt
          exact⟨DH s.pe,w.pt,fun _ _ _ z=>by cases z;exact w,%[|1]⟩
    | _=>exact nfx h
  | .and a b,rz,Xe,k,X,e,C,on,h=>by
    cases e with
    | BoolOp op xs pos =>
      cases op with
      | Or=>exact nfx h
      | And =>
        cases xs with
        | nil=>exact nfx h
        | cons x xs =>
          cases xs with
          | nil=>exact nfx h
          | cons y r =>
            obtain⟨h1,h2⟩:=and2 (show (isE k a x&&isE k b (.BoolOp .And (y::r) pos))=true from h);have s1:=sE a rz Xe k X _ C on.1 h1;have s2:=sE b rz Xe k X _ C on.2 h2;have w:=Fk s1.pt (s2.pw _ _ _ rfl);exact⟨FQ s1.pe s2.pe,w.pt,fun _ _ _ z=>by cases z;exact w,%[|1]⟩
    | _=>exact nfx h
  | .or a b,rz,Xe,k,X,e,C,on,h=>by
    cases e with
    | BoolOp op xs pos =>
      cases op with
      | And=>exact nfx h
      | Or =>
        cases xs with
        | nil=>exact nfx h
        | cons x xs =>
          cases xs with
          | nil=>exact nfx h
          | cons y r =>
            obtain⟨h1,h2⟩:=and2 (show (isE k a x&&isE k b (.BoolOp .Or (y::r) pos))=true from h);have s1:=sE a rz Xe k X _ C on.1 h1;have s2:=sE b rz Xe k X _ C on.2 h2;have w:=IH s1.pt (s2.pw _ _ _ rfl);exact⟨IL s1.pe s2.pe,w.pt,fun _ _ _ z=>by cases z;exact w,%[|1]⟩
    | _=>exact nfx h
  | .ife c a b,rz,Xe,k,X,e,C,on,h=>by
    cases e with
    | IfExp x y z p =>
      obtain⟨h1,h3⟩:=and2 (show (_&&isE k b z)=true from h);obtain⟨h1,h2⟩:=and2 (show (isE k c x&&isE k a y)=true from h1);exact Zs rfl (FL (sE c rz Xe k X _ C on.1 h1).pt (sE a rz Xe k X _ C on.2.1 h2).pe (sE b rz Xe k X _ C on.2.2 h3).pe) %[|2] %[|1]
    | _=>exact nfx h
  | .tup es,rz,Xe,k,X,e,C,on,h=>by
    cases e with
    | Tuple xs q p=>exact Yh rfl (FE (sEs es rz Xe k X _ C on h).pa) %[|2] (fun _=>rfl) %[|1]
    | _=>exact nfx h
  | .lst es,rz,Xe,k,X,e,C,on,h=>by
    cases e with
    | List xs p=>exact Yh rfl (FJ (sEs es rz Xe k X _ C on h).pa) %[|2] (fun _=>rfl) %[|1]
    | _=>exact nfx h
  | .dic0,rz,Xe,k,X,e,C,on,h=>by
    cases e with
    | Dict ks vs p =>
      cases ks with
      | cons _ _=>exact nfx h
      | nil =>
        cases vs with
        | cons _ _=>exact nfx h
        | nil=>exact Zs rfl Cq %[|2] %[|1]
    | _=>exact nfx h
  | .ix a b,rz,Xe,k,X,e,C,on,h=>by
    cases e with
    | Subscript x y p =>
      obtain⟨h1,h2⟩:=and2 (show (isE k a x&&isE k b y)=true from h);have s2:=sE b rz Xe k X _ C on.2 h2;exact Yh rfl (IM (sE a rz Xe k X _ C on.1 h1).pe s2.pe s2.sh.ix) %[|2] (fun _=>rfl) %[|1]
    | _=>exact nfx h
  | .sl a lo hi,rz,Xe,k,X,e,C,on,h=>by
    cases e with
    | Subscript x y p =>
      cases y with
      | Slice l u s q =>
        cases s with
        | some _=>exact nfx h
        | none =>
          obtain⟨h1,h3⟩:=and2 (show (_&&isO k hi u)=true from h);obtain⟨h1,h2⟩:=and2 (show (isE k a x&&isO k lo l)=true from h1);exact Yh rfl (IK (sE a rz Xe k X _ C on.1 h1).pe (sO lo rz Xe k X _ C on.2.1 h2) (sO hi rz Xe k X _ C on.2.2 h3)) %[|2] (fun _=>rfl) %[|1]
      | _=>exact nfx h
    | _=>exact nfx h
  | .rev a s,rz,Xe,k,X,e,C,on,h=>by
    cases e with
    | Subscript x y p =>
      cases y with
      | Slice l u t q =>
        cases l with
        | some _=>exact nfx h
        | none =>
          cases u with
          | some _=>exact nfx h
          | none =>
            cases t with
            | none=>exact nfx h
            | some t =>
              obtain⟨h1,h2⟩:=and2 (show (isE k a x&&isE k s t)=true from h);exact Yh rfl (FF (sE a rz Xe k X _ C on.1 h1).pe (Jf (sE s rz Xe k X _ C on.2 h2).pe)) %[|2] (fun _=>rfl) %[|1]
      | _=>exact nfx h
    | _=>exact nfx h
  | .call x S es,rz,Xe,k,X,e,C,on,h=>by
    cases e with
    | Call f xs kw pos =>
      cases f with
      | Name y p =>
        cases kw with
        | cons _ _=>exact nfx h
        | nil =>
          obtain⟨h,hcal⟩:=and2 (show (_&&k.cal)=true from h);obtain⟨h1,h4⟩:=and2 (show (_&&isEs k es xs)=true from h);obtain⟨h1,h3⟩:=and2 (show (_&&YI x)=true from h1);obtain⟨h1,h2⟩:=and2 (show (decide (x=y)&&k.gl x)=true from h1);obtain rfl:=of_decide_eq_true h1;have s:=sEs es rz Xe k X _ C on.2 h4;refine Yh rfl ?_ %[|2] (fun _=>rfl) %[|1];cases xs with
          | nil =>
            cases es with
            | nil=>exact Bo (C.calm hcal) on.1 (C.gl h2) (Zw h3)
            | cons _ _=>exact absurd h4 Bool.false_ne_true
          | cons a r=>exact Cs (C.calm hcal) on.1 (C.gl h2) s.pa (Zw h3) ((s.hd a r rfl).1.star _ _) ((s.hd a r rfl).2 _ _)
      | _=>exact nfx h
    | _=>exact nfx h
  | .callv i alts es,rz,Xe,k,X,e,C,on,h=>by
    cases e with
    | Call f xs kw pos =>
      cases f with
      | Name y p =>
        cases kw with
        | cons _ _=>cases xs<;>exact nfx h
        | nil =>
          cases xs with
          | nil=>exact nfx h
          | cons a r =>
            obtain⟨h,hcal⟩:=and2 (show (_&&k.cal)=true from h);obtain⟨h1,h4⟩:=and2 (show (k.slot i y&&isEs k es (a::r))=true from h);have s:=sEs es rz Xe k X _ C on.2 h4;exact Yh rfl (Bm (C.calm hcal) (fun n S m=>W8 on.1 m) (C.tvar h1) s.pa ((s.hd a r rfl).1.star _ _) ((s.hd a r rfl).2 _ _)) %[|2] (fun _=>rfl) %[|1]
      | _=>cases xs<;>exact nfx h
    | _=>exact nfx h
  | .bi b es,rz,Xe,k,X,e,C,on,h=>by
    cases e with
    | Call f xs kw pos =>
      cases f with
      | Name y p =>
        cases xs with
        | nil=>exact nfx h
        | cons a r =>
          cases kw with
          | cons _ _=>exact nfx h
          | nil =>
            obtain⟨h,hq⟩:=and2 (show (_&&(k.cal || quiet b))=true from h);obtain⟨h1,h3⟩:=and2 (show (_&&isEs k es (a::r))=true from h);obtain⟨h1,h2⟩:=and2 (show (decide (Wq b=y)&&k.gl y)=true from h1);obtain rfl:=of_decide_eq_true h1;have s:=sEs es rz Xe k X _ C on h3;exact Yh rfl (IN b C.tab C.blt (C.qt hq) (C.gl h2) s.pa ((s.hd _ _ rfl).1.star _ _) ((s.hd _ _ rfl).2 _ _)) %[|2] (fun _=>rfl) %[|1]
      | _=>exact nfx h
    | _=>exact nfx h
  | .app i a,rz,Xe,k,X,e,C,on,h=>by
    cases e with
    | Call f xs kw pos =>
      cases f with
      | Attribute o m ap =>
        cases o with
        | Name x p =>
          cases xs with
          | nil=>exact nfx h
          | cons y r =>
            cases r with
            | cons _ _=>exact nfx h
            | nil =>
              cases kw with
              | cons _ _=>exact nfx h
              | nil =>
                obtain⟨h1,h4⟩:=and2 (show (_&&(ap.endLine==pos.line))=true from h);obtain⟨h1,h3⟩:=and2 (show (_&&isE k a y)=true from h1);obtain⟨h1,h2⟩:=and2 (show (decide (m="append")&&k.slot i x)=true from h1);obtain rfl:=of_decide_eq_true h1;have s:=sE a rz Xe k X _ C on h3;exact Yh rfl (FP (C.var h2) s.pe rfl (fun es=>s.sh.star _ es) h4) %[|2] (fun _=>rfl) %[|1]
        | _=>exact nfx h
      | _=>exact nfx h
    | _=>exact nfx h
  | .pop i a,rz,Xe,k,X,e,C,on,h=>by
    cases e with
    | Call f xs kw pos =>
      cases f with
      | Attribute o m ap =>
        cases o with
        | Name x p =>
          cases xs with
          | nil=>exact nfx h
          | cons y r =>
            cases r with
            | cons _ _=>exact nfx h
            | nil =>
              cases kw with
              | cons _ _=>exact nfx h
              | nil =>
                obtain⟨h1,h4⟩:=and2 (show (_&&(ap.endLine==pos.line))=true from h);obtain⟨h1,h3⟩:=and2 (show (_&&isE k a y)=true from h1);obtain⟨h1,h2⟩:=and2 (show (decide (m="pop")&&k.slot i x)=true from h1);obtain rfl:=of_decide_eq_true h1;have s:=sE a rz Xe k X _ C on h3;exact Yh rfl (FG (C.var h2) s.pe rfl (fun es=>s.sh.star _ es) h4) %[|2] (fun _=>rfl) %[|1]
        | _=>exact nfx h
      | _=>exact nfx h
    | _=>exact nfx h
  | .ins i a b,rz,Xe,k,X,e,C,on,h=>by
    cases e with
    | Call f xs kw pos =>
      cases f with
      | Attribute o m ap =>
        cases o with
        | Name x p =>
          cases xs with
          | nil=>exact nfx h
          | cons y r =>
            cases r with
            | nil=>exact nfx h
            | cons z r =>
              cases r with
              | cons _ _=>exact nfx h
              | nil =>
                cases kw with
                | cons _ _=>exact nfx h
                | nil =>
                  obtain⟨h1,h5⟩:=and2 (show (_&&(ap.endLine==pos.line))=true from h);obtain⟨h1,h4⟩:=and2 (show (_&&isE k b z)=true from h1);obtain⟨h1,h3⟩:=and2 (show (_&&isE k a y)=true from h1);obtain⟨h1,h2⟩:=and2 (show (decide (m="insert")&&k.slot i x)=true from h1);obtain rfl:=of_decide_eq_true h1;have s:=sE a rz Xe k X _ C on.1 h3;have s2:=sE b rz Xe k X _ C on.2 h4;exact Yh rfl (FK (C.var h2) s.pe s2.pe rfl (fun es=>s.sh.star _ es) (fun es=>s2.sh.star _ es) h5) %[|2] (fun _=>rfl) %[|1]
        | _=>exact nfx h
      | _=>exact nfx h
    | _=>exact nfx h
  | .comp N' n g it elt,rz,Xe,k,X,e,C,on,h=>by
    cases e with
    | ListComp y gs sc p =>
      cases gs with
      | nil=>exact nfx h
      | cons q gs =>
        cases q with
        | mk tg iter ifs z =>
          cases ifs with
          | cons _ _=>exact nfx h
          | nil =>
            cases gs with
            | cons _ _=>exact nfx h
            | nil =>
              obtain⟨h,hcal⟩:=and2 (show (_&&k.cal)=true from h);obtain⟨h,h5⟩:=and2 (show (_&&isE ⟨N',sc,false,k.cal⟩ elt y)=true from h);obtain⟨h,h4⟩:=and2 (show (_&&isI k tg it iter)=true from h);obtain⟨h,h3⟩:=and2 (show (_&&isG ⟨N',sc,false,k.cal⟩ g tg)=true from h);obtain⟨h,h2⟩:=and2 (show (_&&decide (n=N'.length-k.N.length))=true from h);obtain⟨h,h1⟩:=and2 (show (decide (z=0)&&blkB k N' sc)=true from h);obtain rfl:=of_decide_eq_true h;obtain rfl:=of_decide_eq_true h2;have si:=sI it rz Xe k X tg _ C on.2.1 h4;refine Yh (t:=YR (N'.length-k.N.length) (rI Xe it) (rG X0 g) (rE X0 elt).e) rfl ?_ %[|2] (fun _=>rfl) %[|1];rw[<- C.N];exact Cr (C.calm hcal) (Xo C h1).1 si.pi (fun cl Cn s H ex=>⟨(sG g false X0 ⟨N',_,false,k.cal⟩ (Yj X N' _ cl Cn s H ex []) _ (C.blk h1 cl Cn s H ex) (YD g (fun c x S F=>⟨F.ex⟩) (fun x d F=>⟨F.ex⟩) on.1) h3).pg,
                (sE elt false X0 ⟨N',_,false,k.cal⟩ (Yj X N' _ cl Cn s H ex []) _ (C.blk h1 cl Cn s H ex) (Y4 elt (fun c x S F=>⟨F.ex⟩) (fun x d F=>⟨F.ex⟩) on.2.2) h5).pe⟩) (si.set _)
    | _=>exact nfx h
  | .compI N' n g it c elt,rz,Xe,k,X,e,C,on,h=>by
    cases e with
    | ListComp y gs sc p =>
      cases gs with
      | nil=>exact nfx h
      | cons q gs =>
        cases q with
        | mk tg iter ifs z =>
          cases ifs with
          | nil=>exact nfx h
          | cons x ifs =>
           cases ifs with
           | cons _ _=>exact nfx h
           | nil =>
            cases gs with
            | cons _ _=>exact nfx h
            | nil =>
              obtain⟨h,hcal⟩:=and2 (show (_&&k.cal)=true from h);obtain⟨h,h6⟩:=and2 (show (_&&isE ⟨N',sc,false,k.cal⟩ elt y)=true from h);obtain⟨h,h5⟩:=and2 (show (_&&isE ⟨N',sc,false,k.cal⟩ c x)=true from h);obtain⟨h,h4⟩:=and2 (show (_&&isI k tg it iter)=true from h);obtain⟨h,h3⟩:=and2 (show (_&&isG ⟨N',sc,false,k.cal⟩ g tg)=true from h);obtain⟨h,h2⟩:=and2 (show (_&&decide (n=N'.length-k.N.length))=true from h);obtain⟨h,h1⟩:=and2 (show (decide (z=0)&&blkB k N' sc)=true from h);obtain rfl:=of_decide_eq_true h;obtain rfl:=of_decide_eq_true h2;have si:=sI it rz Xe k X tg _ C on.2.1 h4;refine Yh (t:=X4 (N'.length-k.N.length) (rI Xe it) (rG X0 g) (bIf (rE X0 c).t (XL (rE X0 elt).e))) rfl ?_ %[|2] (fun _=>rfl) %[|1];rw[<- C.N];exact Ua (C.calm hcal) (Xo C h1).1 si.pi (fun p env=>ifW x env (Xi y (.ref p) env)) (fun p env=>VY Zz) (fun cl Cn s H ex p=>⟨(sG g false X0 ⟨N',_,false,k.cal⟩ (Yj X N' _ cl Cn s H ex []) _ (C.blk h1 cl Cn s H ex) (YD g (fun c x S F=>⟨F.ex⟩) (fun x d F=>⟨F.ex⟩) on.1) h3).pg,
                CN rfl (sE c false X0 ⟨N',_,false,k.cal⟩ (Yj X N' _ cl Cn s H ex []) _ (C.blk h1 cl Cn s H ex) (Y4 c (fun c x S F=>⟨F.ex⟩) (fun x d F=>⟨F.ex⟩) on.2.2.1) h5).pt (XU rfl (sE elt false X0 ⟨N',_,false,k.cal⟩ (Yj X N' _ cl Cn s H ex []) _ (C.blk h1 cl Cn s H ex) (Y4 elt (fun c x S F=>⟨F.ex⟩) (fun x d F=>⟨F.ex⟩) on.2.2.2) h6).pe)⟩) (fun _ _ _=>UR) (si.set _)
    | _=>exact nfx h
theorem sEs:∀ (c:CEs) (rz:Bool) (Xe:DSt->DK) (k:Ck) (X:Cx) (es:List Expr),CtxOk X k->onEs (FnAt X) (GloAt X) c->isEs k c es=true->SdEs X rz Xe c es
 | .nil,rz,Xe,k,X,es,C,on,h=>by
  cases es with
  | nil=>exact⟨Wj,fun _ _=>rfl,fun _ _ z=>nomatch z⟩
  | cons _ _=>exact nfx h
 | .cons e es,rz,Xe,k,X,xs,C,on,h=>by
  cases xs with
  | nil=>exact nfx h
  | cons x r =>
   obtain⟨h1,h2⟩:=and2 (show (isE k e x&&isEs k es r)=true from h);have s1:=sE e rz Xe k X _ C on.1 h1;have s2:=sEs es rz Xe k X _ C on.2 h2;refine⟨ZA s1.pe s2.pa (s1.sh.star _ _),fun pos env=>?_,fun _ _ z=>by cases z;exact⟨s1.sh,s2.pl⟩⟩;rw[s1.sh.star];show (false || _)=false;rw[Bool.false_or];exact s2.pl pos env
theorem sO:∀ (c:CO) (rz:Bool) (Xe:DSt->DK) (k:Ck) (X:Cx) (e:Option Expr),CtxOk X k->onO (FnAt X) (GloAt X) c->isO k c e=true->PO X e (WF (X.L rz Xe) (rO Xe c))
 | .none,rz,Xe,k,X,e,C,on,h=>by
  cases e with
  | none=>exact Cl
  | some _=>exact nfx h
 | .some c,rz,Xe,k,X,e,C,on,h=>by
  cases e with
  | none=>exact nfx h
  | some e=>exact Jf (sE c rz Xe k X _ C on h).pe
theorem sG:∀ (c:CG) (rz:Bool) (Xe:DSt->DK) (k:Ck) (X:Cx) (e:Expr),CtxOk X k->onG (FnAt X) (GloAt X) c->isG k c e=true->SdG X rz Xe c e
 | .name i,rz,Xe,k,X,e,C,on,h=>by
  cases e with
  | Name x p =>
   obtain⟨h1,h2⟩:=and2 (show (decide (k.N[i]?=some x)&&k.loc x)=true from h);exact⟨Cp (by rw[C.N];exact C.nd) (by rw[C.N];exact of_decide_eq_true h1) (C.loc h2).1 (C.loc h2).2,fun _ _=>rfl⟩
  | _=>exact nfx h
 | .tup gs,rz,Xe,k,X,e,C,on,h=>by
  cases e with
  | Tuple xs q p =>
   obtain⟨h,hcal⟩:=and2 (show (_&&k.cal)=true from h);have s:=sGs gs rz Xe k X _ C on (show isGs k gs xs=true from h);exact⟨FB (C.calm hcal) s.pg (s.len _) (s.st _),fun _ _=>rfl⟩
  | _=>exact nfx h
 | .sub a b,rz,Xe,k,X,e,C,on,h=>by
  cases e with
  | Subscript x y p =>
   obtain⟨h1,h2⟩:=and2 (show (isE k a x&&isE k b y)=true from h);have s2:=sE b rz Xe k X _ C on.2 h2;exact⟨FC (sE a rz Xe k X _ C on.1 h1).pe s2.pe (fun v=>s2.sh.sub _ _ _ v),fun _ _=>rfl⟩
  | _=>exact nfx h
theorem sGs:∀ (c:CGs) (rz:Bool) (Xe:DSt->DK) (k:Ck) (X:Cx) (es:List Expr),CtxOk X k->onGs (FnAt X) (GloAt X) c->isGs k c es=true->SdGs X rz Xe c es
 | .nil,rz,Xe,k,X,es,C,on,h=>by
  cases es with
  | nil=>exact⟨Co,fun _=>rfl,fun _=>rfl⟩
  | cons _ _=>exact nfx h
 | .cons e es,rz,Xe,k,X,xs,C,on,h=>by
  cases xs with
  | nil=>exact nfx h
  | cons x r =>
   obtain⟨h1,h2⟩:=and2 (show (isG k e x&&isGs k es r)=true from h);have s1:=sG e rz Xe k X _ C on.1 h1;have s2:=sGs es rz Xe k X _ C on.2 h2;refine⟨Bj s1.pg s2.pg (by rw[s1.as];rfl),fun env=>?_,fun env=>?_⟩
   ·rw[s1.as,List.length_cons,s2.len];rfl
   ·rw[s1.as,List.findIdx?_cons]
    simp[s2.st]
theorem sI:∀ (c:CI) (rz:Bool) (Xe:DSt->DK) (k:Ck) (X:Cx) (tg e:Expr),CtxOk X k->onI (FnAt X) (GloAt X) c->isI k tg c e=true->SdI X rz Xe tg c e
  | .seq c,rz,Xe,k,X,tg,e,C,on,h =>
    have s:=sE c rz Xe k X e C on h
    ⟨Fz s.pe,s.sh.set⟩
  | .rng es,rz,Xe,k,X,tg,e,C,on,h=>by
    cases e with
    | Call f xs kw pos =>
      cases f with
      | Name y p =>
        cases xs with
        | nil=>exact nfx h
        | cons a r =>
          cases kw with
          | cons _ _=>exact nfx h
          | nil =>
            obtain⟨h1,h3⟩:=and2 (show (_&&isEs k es (a::r))=true from h);obtain⟨h1,h2⟩:=and2 (show (decide (y="range")&&k.gl y)=true from h1);obtain rfl:=of_decide_eq_true h1;have s:=sEs es rz Xe k X _ C on h3;exact⟨FA (C.gl h2) C.blt.range s.pa ((s.hd _ _ rfl).1.star _ _) ((s.hd _ _ rfl).2 _ _),fun _ _=>rfl⟩
      | _=>exact nfx h
    | _=>exact nfx h
  | .zip es,rz,Xe,k,X,tg,e,C,on,h=>by
   cases tg with
   | Tuple te tx tp =>
    cases e with
    | Call f xs kw pos =>
      cases f with
      | Name y p =>
        cases xs with
        | nil=>exact nfx h
        | cons a r =>
          cases kw with
          | cons _ _=>exact nfx h
          | nil =>
            obtain⟨h1,h3⟩:=and2 (show (_&&isEs k es (a::r))=true from h);obtain⟨h1,h2⟩:=and2 (show (decide (y="zip")&&k.gl y)=true from h1);obtain rfl:=of_decide_eq_true h1;have s:=sEs es rz Xe k X _ C on h3;exact⟨Fy (C.gl h2) C.blt.zip s.pa ((s.hd _ _ rfl).1.star _ _) ((s.hd _ _ rfl).2 _ _),fun _ _=>rfl⟩
      | _=>exact nfx h
    | _=>exact nfx h
   | _=>exact nfx h
  | .enumz es,rz,Xe,k,X,tg,e,C,on,h=>by
    unfold isI at h;split at h
    . split at h
      . rename_i y p y2 q a r p2 pos;obtain⟨h,h5⟩:=and2 h;obtain⟨h,h4⟩:=and2 h;obtain⟨h,h3⟩:=and2 h;obtain⟨h1,h2⟩:=and2 h;obtain rfl:=of_decide_eq_true h1;obtain rfl:=of_decide_eq_true h3;have s:=sEs es rz Xe k X _ C on h5;exact⟨Bh (C.gl h2) C.blt.enum (C.gl h4) C.blt.zip s.pa ((s.hd _ _ rfl).1.star _ _) ((s.hd _ _ rfl).2 _ _),fun _ _=>rfl⟩
      . exact nfx h
    . exact nfx h
  | .enum es,rz,Xe,k,X,tg,e,C,on,h=>by
   cases tg with
   | Tuple te tx tp =>
    cases e with
    | Call f xs kw pos =>
      cases f with
      | Name y p =>
        cases xs with
        | nil=>exact nfx h
        | cons a r =>
          cases kw with
          | cons _ _=>exact nfx h
          | nil =>
            obtain⟨h1,h3⟩:=and2 (show (_&&isEs k es (a::r))=true from h);obtain⟨h1,h2⟩:=and2 (show (decide (y="enumerate")&&k.gl y)=true from h1);obtain rfl:=of_decide_eq_true h1;have s:=sEs es rz Xe k X _ C on h3;exact⟨Cm (C.gl h2) C.blt.enum s.pa ((s.hd _ _ rfl).1.star _ _) ((s.hd _ _ rfl).2 _ _),fun _ _=>rfl⟩
      | _=>exact nfx h
    | _=>exact nfx h
   | _=>exact nfx h
end
end DL
end
noncomputable section
namespace DL
open PySem PySem.Spec PyProof.Rows L2
theorem VR {P:Program} {w:World} {H:Hp} {h:Heap} {a:Addr} {o:HO} (x:ObjOk P w H h a o):∃ ob,h.get? a=some ob:=by
 cases o with
 | lst xs=>obtain⟨_,_,_,_,e⟩:=x;exact⟨_,e⟩
 | tup xs=>obtain⟨_,_,_,ob,e,_⟩:=x;exact⟨_,e⟩
 | dK kvs=>obtain⟨_,_,_,_,ob,_,_,e,_⟩:=x;exact⟨_,e⟩
 | dT kvs=>obtain⟨_,_,_,_,ob,_,_,e,_⟩:=x;exact⟨_,e⟩
 | set S n=>obtain⟨ob,_,_,_,e,_⟩:=x;exact⟨_,e⟩
 | ins C dx fs=>obtain⟨_,_,_,e,_⟩:=x;exact⟨_,e⟩
 | own y=>exact x
 | xd fs=>obtain⟨_,⟨ob,_,_,e,_⟩,_⟩:=x;exact⟨_,e⟩
 | rng lo hi=>obtain⟨_,_,_,e⟩:=x;exact⟨_,e⟩
 | frz ob u=>exact⟨_,x.1⟩
 | tbl ps=>exact⟨_,(show h.get? a=some _ from x)⟩
 | met f y=>exact⟨_,(show h.get? a=some _ from x)⟩
 | ext φ=>exact x.2.1
theorem Zt {fs:List Addr} {H1 H':Hp} {h1 h' h2 B:Heap} (un:Un fs [] H1 H' h1 h') (old:∀ b o,h1.get? b=some o->H1 b=none->b ∉ fs->B.get? b=some o) (st:B.StaysIn h2)
  (ff:∀ b∈fs,∃ o,h'.get? b=some o/\∀ vs,o.data≠.fields vs) (nr:Near h' h2):Un fs [] H1 H' h1 h2 where
 keep:=fun b o e n hb _=>st b o (old b o e n hb)
 slot:=fun b o e n hb hx=>by
  obtain⟨sl,e1⟩:=un.slot b o e n hb hx;obtain⟨o2,e2,d2⟩:=ff b hb;rw[e1] at e2;cases e2;obtain⟨sl2,e3⟩:=nr.1 b _ e1 d2;exact⟨sl2,e3⟩
 free:=un.free
 there:=fun b o e hx=>let ⟨o',e'⟩:=un.there b o e hx;nr.2.1 b o' e'
 tups:=un.tups
 frzs:=un.frzs
 tbls:=un.tbls
section
variable {X:Cx} {pins:List (Addr×Obj)} {σ:L2.St} {H H':Hp} {s s':Shared} {e C:Addr} {dd:Option Addr}
theorem B0 {env:Env} {L:Addr} {l:List Env} (h:env.frame=some L):frs (env::l)=L::frs l:=by simp[frs,h]
theorem ZQ (I:L2.Inv X pins σ H s) (hex:X.ex=[]) {B:Heap} (old:∀ b o,s.heap.get? b=some o->H b=none->b ∉ frs X.stack->B.get? b=some o) :
  ∀ b o,X.s₀.heap.get? b=some o->X.H₀ b=none->b ∉ X.fs->B.get? b=some o:=fun b o e n hb=>by
 have hx:b ∉ X.ex:=by rw[hex];simp
 refine old b o (I.base.keep b o e n hb hx) (I.base.free b o e n hx) fun z=>?_;rcases List.mem_cons.mp (I.stkSub b z) with q|q
 ·exact absurd (Nat.lt_of_lt_of_le (Heap.lt_size e) I.ok.above) (by rw[q];exact Nat.lt_irrefl _)
 ·exact hb q
theorem W1 (I:L2.Inv X pins σ H s) (hex:X.ex=[]) (st:X.stack=X.env::X.outer/\X.env.frame=some X.env.locals) {h' B:Heap} (un:Un (frs X.stack) [] H H' s.heap h') (old:∀ b o,s.heap.get? b=some o->H b=none->b ∉ frs X.stack->B.get? b=some o) (hB:B.StaysIn h') :
  Un X.fs [] X.H₀ H' X.s₀.heap h':=by
 have a:Un (frs X.stack) [] X.H₀ H X.s₀.heap s.heap:=I.base.mono (fun b hb=>by rw[st.1,B0 st.2];exact List.mem_cons_of_mem _ hb) (by rw[hex];simp);have t:=a.trans un;exact⟨fun b o e n hb hx=>hB b o (ZQ I hex old b o e n hb),fun b o e n hb hx=>t.any e n hx,t.free,t.there,t.tups,t.frzs,t.tbls⟩
end
section
variable {P:Program} {w:World} {K:Frag} {mg:Str->Option Value} {base:Heap} {N:List Str} {qual:Str} {scope:Scope} {f:Addr} {cd:Value} {A:Around} {outer:List Env} {s:Shared} {H:Hp} {E:XK}
theorem A6 {Ed:DK} (hE:∀ n M' H' C dd x,HExt K H H'->RepM K H' M'->n∈xNames->YH K n C->ExD K H' n dd x->Ed (.exc n x) M'->E (.ref C) dd H'):XeOk (cxOf (CXR P w) P w K mg base N qual scope f cd A outer s H E) true (fun _=>Ed) H where
 fly:=fun pins σ H1 s1 H' e C dd s' δ M' n xd x I th m sl hn hc ed hx=>by
  obtain⟨B,os,bare,un,old,hokB,fl⟩:=th.ex;show wpAny _ _ _ _ _ _;refine JT I.ok.frames rfl fl fun h' F' nr=>?_;have ff:∀ b∈frs (cxOf (CXR P w) P w K mg base N qual scope f cd A outer s H E).stack,∃ o,s'.heap.get? b=some o/\∀ vs,o.data≠.fields vs:=fun b hb=>(fl.frames.mem hb).2;exact⟨e,C,dd,H',rfl,⟨⟨B,os.trans I.os,bare,W1 I rfl ⟨rfl,rfl⟩ (Zt un old F'.stays ff nr) old F'.stays,ZQ I rfl old,hokB,F'⟩,fun z=>nr.2.2 _ (th.cl z)⟩,hE n M' H' C dd xd x m hn hc ed hx⟩
 back:=fun _ pins σ H1 s1 H' e C dd s' δ M' n xd x I th m sl hn hc ed hx=>by
  obtain⟨B,os,bare,un,old,hokB,fl⟩:=th.ex;show wpAny _ _ _ _ _ _;refine UF rfl fl fun h' F' nr=>?_;have ff:∀ b∈frs (cxOf (CXR P w) P w K mg base N qual scope f cd A outer s H E).stack,∃ o,s'.heap.get? b=some o/\∀ vs,o.data≠.fields vs:=fun b hb=>(fl.frames.mem hb).2;exact⟨e,C,dd,H',rfl,⟨⟨B,os.trans I.os,bare,W1 I rfl ⟨rfl,rfl⟩ (Zt un old F'.stays ff nr) old F'.stays,ZQ I rfl old,hokB,F'⟩,fun z=>nr.2.2 _ (th.cl z)⟩,hE n M' H' C dd xd x m hn hc ed hx⟩
 made:=fun _ pins σ H' h e C dd s' δ M' n xd x I mk cl m sl hn hc ed hx=>by
  show wpAny _ _ _ _ _ _;have hin:∀ env∈(cxOf (CXR P w) P w K mg base N qual scope f cd A outer s H E).stack,∀ a,env.frame=some a->a∈frs (cxOf (CXR P w) P w K mg base N qual scope f cd A outer s H E).stack:=fun env he b hb=>List.mem_filterMap.mpr ⟨env,he,hb⟩;have st:(hideAll h (frs (cxOf (CXR P w) P w K mg base N qual scope f cd A outer s H E).stack)).StaysIn h:=fun b o q=>PySem.W.of_hideAll _ q;refine UG (h:=h) (B:=hideAll h (frs (cxOf (CXR P w) P w K mg base N qual scope f cd A outer s H E).stack)) I.ok.frames rfl (PySem.W.funFrames_hide I.stack hin) st mk fun h' F' nr=>?_;have old:∀ b o,h.get? b=some o->H' b=none->b ∉ frs (cxOf (CXR P w) P w K mg base N qual scope f cd A outer s H E).stack->(hideAll h (frs (cxOf (CXR P w) P w K mg base N qual scope f cd A outer s H E).stack)).get? b=some o:=fun b o q _ hb=>PySem.W.hideAll_get _ q hb;have ff:∀ b∈frs (cxOf (CXR P w) P w K mg base N qual scope f cd A outer s H E).stack,∃ o,h.get? b=some o/\∀ vs,o.data≠.fields vs:=fun b hb=>(I.stack.mem hb).2
  have un:Un (frs (cxOf (CXR P w) P w K mg base N qual scope f cd A outer s H E).stack) [] H' H' h h':=Zt .refl old F'.stays ff ((Near.kept mk.keeps).trans nr);refine⟨e,C,dd,H',rfl,⟨⟨_,I.os,I.bare,W1 I rfl ⟨rfl,rfl⟩ un old F'.stays,ZQ I rfl old,fun a o q=>?_,F'⟩,fun z=>nr.2.2 _ (cl z)⟩,hE n M' H' C dd xd x m hn hc ed hx⟩;refine (I.hok a o q).stay (fun c u hc r=>PySem.W.hideAll_get _ r fun z=>?_) (fun _ q=>q) fun _ _ q=>q;have:=I.stkFree c z;rcases hc with rfl|hc
  ·rw[q] at this;cases this
  ·rw[hc] at this;cases this
end
theorem DU {K:Frag} {h:Heap} {C:Addr} {bmB:List Value} {newId:String} (X:K.In h) (q:PySem.W.excIn K C bmB newId=true) :
  ∃ bm N nm q bs hdct sn sub ab col dd k0 k1 k2 k3 k5 mN,h.get? C=some (excClassObj nm q C N bs bm hdct sn sub ab col dd k0 k1 k2 k3 k5 newId)/\h.Ns N mN/\mN "__init__"=none/\OwnTail h bmB bm:=by
 unfold PySem.W.excIn at q;split at q
 next dd cd sl ho =>
  split at q
  next C' bm a0 a1 a2 a3 id a5 em es =>
   simp only[Bool.and_eq_true,beq_iff_eq,Bool.not_eq_true'] at q;obtain⟨⟨⟨⟨⟨z1,z2⟩,z3⟩,z4⟩,z5⟩,z6⟩:=q;obtain⟨nm,bs,mro,ns,qn,hd,sn,sub,ab,col,del⟩:=cd;have hsl:sl=#[a0,a1,a2,a3,some (.builtin newId),a5]:=by
    rw[z2] at es;rw[<- es]
   simp only at em z3 z5 z6;subst z1 em z3 hsl;exact⟨bm,ns,nm,qn,bs,hd,sn,sub,ab,col,dd,a0,a1,a2,a3,a5,_,X _ _ ho,.of_isNs (PySem.W.isNs_of_in X z5),PySem.W.nsMap_none_of_in X z5 z6,PySem.W.tail_of_in X z4⟩
  next=>cases q
 next=>cases q
theorem JB {n:Str} (h:xPlain.contains n=true):n ∉ xInit:=by
 have:∀ m∈xPlain,m ∉ xInit:=by decide
 exact this n (by simpa using h)
noncomputable def Bq (n:Str) (ta:(DSt->DK)->DA):DS:=fun D δ M=>ta D.ex δ M fun ds M1=>ds.length<=sizeLine/\D.ex δ (.exc n .non) M1
section
variable {X:Cx} {x:Str} {np cpos pos:Pos} {e:Expr} {es:List Expr} {ta:(DSt->DK)->DA}
theorem Bd {C:Addr} (hr:Room 0 X.A) (tab:Zn X.K=true) (hp:xPlain.contains x=true) (hc:YH X.K x C) (hm:X.mg x=some (.ref C)) (hg:Gl X x) (hdb:(x==("__debug__":Str))=false) (ha:∀ Xe,PA X (e::es) (Z4 (X.L true Xe) (ta Xe)))
  (he:starEach (e::es) X.env=(false,eval e X.env)::starEach es X.env) (hpl:(backTo cpos (starEach es X.env)).any (·.1)=false) :
  PS X (.Raise (some (.Call (.Name x np) (e::es) [] cpos)) none pos) (Yk X true (Bq x ta)):=by
 rintro pins s σ H Z I ⟨δ,M,D,rs,rm,t,n,r,b,c⟩;have hn:x∈xNames:=List.mem_cons_of_mem _ (List.mem_append_left _ (by simpa using hp));have FV:=PySem.F.excBase_ValueError;obtain⟨bm,Nn,nm,q,bs,hdct,sn,sub,ab,col,dd,k0,k1,k2,k3,k5,mN,hC,hN,hni,T⟩:=DU (C:=C) I.ok.mod.kin ((YC tab hn hc).2.1 hp);refine wpAny_Raise_call_subU (C:=C) (nm:=nm) (q:=q) (N:=Nn) (bs:=bs) (bm:=bm) (bmB:=bmV) (hdct:=hdct) (sn:=sn) (sub:=sub) (ab:=ab) (col:=col) (dd:=dd) (k0:=k0) (k1:=k1) (k2:=k2) (k3:=k3) (k5:=k5) FV (by decide) FV (mN:=mN)
  (T.hasType (by decide)) hr.hd (by rw[he];show (false || (backTo cpos (starEach es X.env)).any (·.1))=false;rw[hpl];rfl) hni (ZR I hg hm ⟨rfl,?_⟩ hdb)
 rw[he];refine Calls.evalArgs_plain ?_;have sp:=ha D.ex cpos pins s σ H (fun vs H1=>∃ ds M1,HExt X.K H H1/\RepM X.K H1 M1/\RelDs X.K H1 vs ds/\ds.length<=sizeLine/\D.ex δ (.exc x .non) M1) I ⟨δ,M,_,rs,rm,t,fun ds M1 vs H1 x m r h=>⟨ds,M1,x,m,r,h.1,h.2⟩⟩;rw[he] at sp;refine wpAny_mono sp (fun us s1 ⟨vs,H1,I1,r1,ds,M1,x1,m1,rd,hl,hx⟩=>⟨rfl,by rw[<- r1.length,rd.length];exact hl,I1.bk _ _ hC,hN.keeps I1.bk,T.keeps I1.bk,fun h' e0 mk=>?_⟩) fun _ _ z=>z;exact rs.ok.made rfl pins σ H1 s1.heap e0 C none {s1 with heap:=h'} δ M1 x .non x1 I1 (Made.of mk) (fun _=>UL mk) m1 (rs.toSlots.ext x1) hn hc (.plain (JB hp)) hx
end
section
variable {X:Cx} {x:Str} {np cpos pos:Pos} {e:Expr} {es:List Expr} {ta:(DSt->DK)->DA}
end
section
variable {X:Cx} {pins:List (Addr×Obj)} {σ:L2.St} {H:Hp} {s:Shared}
theorem Jp {M:Model} {A:Around} {Z:Value->Shared->Prop} {i:Nat} {x:Str} {pos:Pos} {Q:Unit->Shared->Prop} (I:L2.Inv X pins σ H s) (hN:X.N.Nodup) (hi:X.N[i]?=some x) (hk:X.env.kindOf x=some .local)
  (h:∀ s',L2.Inv X pins (σ.set i none) H s'->Q () s'):wpAny M A (do bindName X.env x .none;unbindBehindTheSuite X.env x pos) Q Z s:=by
 obtain⟨m,hn,hl⟩:=id I.loc;have hcls:(X.env.scope.kind==.class || (X.env.scope.kind==.module&&X.env.locals != X.env.globals))=false:=by rw[I.ok.kind];rfl
 refine wpAny_nameGoes_keeps hk hn hcls fun h' v hn' hs=>h _ ?_;have low:∀ b o,X.s₀.heap.get? b=some o->b≠X.env.locals:=fun b o e=>Nat.ne_of_lt (Nat.lt_of_lt_of_le (Heap.lt_size e) I.ok.above);refine⟨I.ok,I.os,I.bare,⟨fun b o e n hb hx=>(hs.2 b (low b o e)).trans (I.base.keep b o e n hb hx),fun b o e n hb hx=>?_,I.base.free,fun b o e hx=>?_,I.base.tups,I.base.frzs,I.base.tbls⟩,⟨_,hn',fun j y v' e1 e2 e3=>?_⟩,fun y c e=>?_,I.free,I.freeC,fun p hp=>?_,fun b ob e=>?_,by simpa using I.len⟩
 ·obtain⟨sl,q⟩:=I.base.slot b o e n hb hx
  exact⟨sl,(hs.2 b (low b o e)).trans q⟩
 ·obtain⟨o',q⟩:=I.base.there b o e hx
  exact⟨o',(hs.2 b (low b o e)).trans q⟩
 ·have hj:j≠i:=fun z=>by
   subst z;by_cases hl:j < σ.length
   ·rw[List.getElem?_set_self hl] at e2;cases e2
   ·rw[List.getElem?_eq_none (by simp;omega)] at e2;cases e2
  rw[List.getElem?_set_ne (Ne.symm hj)] at e2;obtain⟨u',r',q⟩:=hl j y v' e1 e2 e3;refine⟨u',r',?_⟩;rcases q with ⟨k,q⟩|⟨k,c,q,z⟩
  ·have ne:y≠x:=fun z=>hj (Xa hN e1 (z ▸ hi))
   exact .inl ⟨k,by simp[ne,q]⟩
  ·exact .inr ⟨k,c,q,z.sameBut hs (I.cne y c q)⟩
 ·obtain⟨w',z⟩:=I.cell y c e
  exact⟨w',z.sameBut hs (I.cne y c e)⟩
 ·obtain⟨q,n,ne,nf,d⟩:=I.pin p hp
  exact⟨(hs.2 p.1 ne).trans q,n,ne,nf,d⟩
 ·refine (I.hok b ob e).stay (fun c w' hc q=>(hs.2 c ?_).trans q) (fun _ q=>q) fun _ _ q=>q
  rintro rfl;rcases hc with rfl|hc
  ·rw[I.free] at e;cases e
  ·rw[I.free] at hc;cases hc
end
theorem Slots.forget {K:Frag} {H:Hp} {δ:DSt} {σ:L2.St} (r:Slots K H δ σ) (i:Nat):Slots K H (δ.set i none) (σ.set i none):=by
 refine⟨by simp[r.len],fun j d q=>?_⟩;have hj:j≠i:=fun z=>by
  subst z;by_cases hl:j < δ.length
  ·rw[List.getElem?_set_self hl] at q;cases q
  ·rw[List.getElem?_eq_none (by simp;omega)] at q;cases q
 rw[List.getElem?_set_ne (Ne.symm hj)] at q;obtain⟨u,h1,h2⟩:=r.slot j d q;exact⟨u,by rw[List.getElem?_set_ne (Ne.symm hj)];exact h1,h2⟩
abbrev _root_.L2.Cx.hnd (X:Cx) (e:Addr):Cx:={X with A:=X.A.mark (some (.ref e)),calm:=false,xe:=fun _ _=>False}
theorem XZ {X:Cx} {pins:List (Addr×Obj)} {σ:L2.St} {H:Hp} {s:Shared} (I:L2.Inv X pins σ H s) (e:Addr):L2.Inv (X.hnd e) pins σ H s :=
 ⟨⟨I.ok.mod,I.ok.kind,I.ok.glob,I.ok.blt,I.ok.above,I.ok.inj,I.ok.has,I.ok.cab,fun z=>(by cases z),I.ok.frames,I.ok.stk,I.ok.exf,I.ok.bs,I.ok.bsz,I.ok.noex,I.ok.exfs,I.ok.funs,I.ok.frf⟩,I.os,I.bare,I.base,I.loc,I.cell,I.free,I.freeC,I.pin,I.hok,I.len⟩
theorem Zq {X:Cx} {pins:List (Addr×Obj)} {σ:L2.St} {H:Hp} {s:Shared} {e:Addr} (ok:X.Ok) (I:L2.Inv (X.hnd e) pins σ H s):L2.Inv X pins σ H s :=
 ⟨ok,I.os,I.bare,I.base,I.loc,I.cell,I.free,I.freeC,I.pin,I.hok,I.len⟩
abbrev _root_.L2.Cx.tri (X:Cx) (xe:Value->Shared->Prop) (pins:List (Addr×Obj)):Cx:={X with xe:=xe,pn:=X.pn++pins}
theorem J8 {X:Cx} {pins:List (Addr×Obj)} {σ:L2.St} {H:Hp} {s:Shared} (I:L2.Inv X pins σ H s) (xe:Value->Shared->Prop):L2.Inv (X.tri xe pins) [] σ H s :=
 ⟨⟨I.ok.mod,I.ok.kind,I.ok.glob,I.ok.blt,I.ok.above,I.ok.inj,I.ok.has,I.ok.cab,I.ok.hd,I.ok.frames,I.ok.stk,I.ok.exf,I.ok.bs,I.ok.bsz,I.ok.noex,I.ok.exfs,I.ok.funs,I.ok.frf⟩,I.os,I.bare,I.base,I.loc,I.cell,I.free,I.freeC,fun p hp=>I.pin p (by simpa using hp),I.hok,I.len⟩
theorem Yy {X:Cx} {pins pl:List (Addr×Obj)} {σ:L2.St} {H:Hp} {s:Shared} {xe:Value->Shared->Prop} (ok:X.Ok) (I:L2.Inv (X.tri xe pins) pl σ H s):L2.Inv X pins σ H s :=
 ⟨ok,I.os,I.bare,I.base,I.loc,I.cell,I.free,I.freeC,fun p hp=>I.pin p (List.mem_append_left _ hp),I.hok,I.len⟩
noncomputable def dTry (t:DS) (c:Str) (ie ix:Nat):DS:=fun D δ M=>t {D with ex:=fun δ' d M'=>∃ n,d=.exc n (xarg d)/\Yw n c=true/\D.nx ((δ'.set ix (some d)).set ie none) M'} δ M
section
variable {X:Cx} {rz:Bool} {body:List Stmt} {t:DS} {cx ne x:Str} {np px pe apos hpos pos:Pos} {ie ix:Nat}
theorem Fq {C:Addr} (st:X.stack=X.env::X.outer/\X.env.frame=some X.env.locals) (tab:Zn X.K=true) (hcx:cx∈xNames) (hc:YH X.K cx C) (hm:X.mg cx=some (.ref C)) (hg:Gl X cx) (hdb:(cx==("__debug__":Str))=false)
  (hN:X.N.Nodup) (hie:X.N[ie]?=some ne) (hix:X.N[ix]?=some x) (hne:ie≠ix) (ke:X.env.kindOf ne=some .local) (kx:Loc X.env.scope x) (fx:X.fn x=true\/X.env.scope.names.lookup x=some .local) (od1:(ne==("__debug__":Str))=false) (od2:(ne==("__classdict__":Str))=false)
  (hb:∀ xe pins,PassesOwn (model X.prog X.w) X.A X.env xe->PSs (X.tri xe pins) body (Yk (X.tri xe pins) false t)) :
  PS X (.Try body [.ExceptHandler (some (.Name cx np)) (some ne) [.Assign [.Name x px] (.Name ne pe) apos] hpos] [] [] pos) (Yk X rz (dTry t cx ie ix)):=by
 rintro pins s σ H Z I ⟨δ,M,D,rs,rm,t,n,r,b,c⟩;refine wpAny_Try_except ?_;generalize hxe:(fun e s₁=>wpAny (model X.prog X.w) X.A (noteFrame e X.env) (fun _ s₂=>wpAny (model X.prog X.w) X.A (setFlight e none) (fun _ s₃=>wpAny (model X.prog X.w) X.A (handleBy e X.env [.ExceptHandler (some (.Name cx np)) (some ne) [.Assign [.Name x px] (.Name ne pe) apos] hpos]) (SP X pins Z) X.xe s₃) X.xe s₂) X.xe s₁)=xe;have po:PassesOwn (model X.prog X.w) X.A X.env xe:=by rw[<- hxe];exact PassesOwn.looking
 have ok:=I.ok;refine wpAny_mono (hb xe pins po [] s σ H Z (J8 I xe) ⟨δ,M,_,⟨rs.toSlots,⟨?_,fun z=>(by cases z),fun z=>(by cases z)⟩⟩,rm,t,fun δ' M' σ' H' x rs' m' h'=>n δ' M' σ' H' x ⟨rs'.toSlots,(X.L rz D.ex).mono _ _ x rs.ok⟩ m' h',r,fun δ' M' σ' H' x rs' m' h'=>b δ' M' σ' H' x ⟨rs'.toSlots,(X.L rz D.ex).mono _ _ x rs.ok⟩ m' h',fun δ' M' σ' H' x rs' m' h'=>c δ' M' σ' H' x ⟨rs'.toSlots,(X.L rz D.ex).mono _ _ x rs.ok⟩ m' h'⟩) (fun fl s' q=>?_) fun e s' q=>q
 ·intro pins' σ' H1 s1 H' e C' dd s' δ' M' n' xd x1 I1 th m' sl hn' hc' ed ⟨n2,en,hsub,hnx⟩
  cases en;rw[<- hxe];have I1':L2.Inv X pins σ' H1 s1:=Yy ok I1;obtain⟨B,os,bare,un,old,hokB,fl⟩:=th.ex;have fl':Flies B (X.env::X.outer) e (.ref C') dd .none s'.heap:=by rw[<- st.1];exact fl
  have fr:X.A.frames=some (X.env::X.outer):=by rw[<- st.1];exact ok.frames
  have ff:∀ b∈frs X.stack,∃ o,s'.heap.get? b=some o/\∀ vs,o.data≠.fields vs:=fun b hb=>(fl.frames.mem hb).2;refine Wf fr st.2 fl' fun h2 F2 n2'=>Zd F2 fun h3 F3 n3=>?_;have I3:L2.Inv X pins σ' H' {s' with heap:=h3}:=I1'.call' (s':={s' with heap:=h3}) os (Zt un old F3.stays ff (n2'.trans n3)) (hokB.kept F3.stays) bare (fun b hb=>by cases hb);have I3h:=XZ I3 e;have LT:PySem.W.Looks (model X.prog X.w) h3 (typeOf (.ref e)) (.ref C'):=by
   obtain⟨oe,vs,T,oT,ts,q1,q2,_⟩:=F3.tr;exact q2 ▸ (PySem.W.Looks.ld q1).andThen .now
  have hx:=((YC tab hn' hc').2.2.2 cx C hcx hc).1;rw[hsub] at hx;refine wpAny_handleBy_cons (codeAny_handlers_test (ZR (X:=X.hnd e) I3h hg hm ((PySem.W.exm_one I3.kIn LT hx).at ?_) hdb)) (by intro z;cases z);show codeAny _ _ _ _ _;refine codeAny_handlers_suite_as (Zd (s:={s' with heap:=h3}) F3 fun h4 F4 n4=>?_);have fresh:H' e=none:=by
   cases q:H' e with
   | none=>rfl
   | some u=>obtain⟨ob,z⟩:=VR (hokB e u q);rw[F4.new] at z;cases z
  have xe4:ZI e C' dd h4:=by
   obtain⟨oe,vs,T,oT,ts,q1,q2,q3,q4,_⟩:=F4.tr;exact⟨oe,vs,q1,q2,q3,q4⟩
  have un4:=Zt un old F4.stays ff (n2'.trans (n3.trans n4));have ne1:∀ b o,s1.heap.get? b=some o->H1 b=none->b≠e:=fun b o q nn z=>by
   subst z;by_cases hf:b∈frs X.stack
   ·obtain⟨o1,q1,d1⟩:=ff b hf
    obtain⟨oe,vs,T,oT,ts,p1,p2,p3,p4,_⟩:=fl.tr;rw[q1] at p1;cases p1;exact d1 _ p4
   ·have:=old b o q nn hf
    rw[F4.new] at this;cases this
  have neH:∀ b u,H' b=some u->b≠e:=fun b u q z=>by rw[z,fresh] at q;cases q
  have un5:Un (frs X.stack) [] H1 (upd H' e (.ext (ZI e C' dd))) s1.heap h4:=⟨un4.keep,un4.slot,fun b o q nn hx=>by rw[Y9 (ne1 b o q nn)];exact un4.free b o q nn hx,un4.there,fun b xs q=>by rw[Y9 (neH b _ (un4.tups b xs q))];exact un4.tups b xs q,fun b o u q=>by rw[Y9 (neH b _ (un4.frzs b o u q))];exact un4.frzs b o u q,
   fun b ps q=>by obtain⟨mo,q'⟩:=un4.tbls b ps q;exact⟨mo,by rw[Y9 (neH b _ q')];exact q'⟩⟩
  have hok5:HOk X.prog X.w (upd H' e (.ext (ZI e C' dd))) h4:=fun a o q=>by
   by_cases z:a=e
   ·subst z;rw[upd_same] at q;cases q
    obtain⟨ob,vs,q1,q2⟩:=id xe4;exact⟨xe4,⟨ob,q1⟩,fun g1 g2 ⟨ob,vs,q1,q2⟩ k=>⟨ob,vs,k _ q1,q2⟩⟩
   ·rw[Y9 z] at q
    refine (hokB a o q).stay (fun c u _ r=>F4.stays c u r) (fun c q=>by rw[Y9 (neH c _ q)];exact q) fun c xs q=>by rw[Y9 (neH c _ q)];exact q
  have I5:L2.Inv X pins σ' (upd H' e (.ext (ZI e C' dd))) {s' with heap:=h4}:=I1'.call' (s':={s' with heap:=h4}) os un5 hok5 bare (fun b hb=>by cases hb);have x5:HExt X.K H' (upd H' e (.ext (ZI e C' dd))):=.upd (.inl fresh);have m5:RepM X.K (upd H' e (.ext (ZI e C' dd))) M':=fun a o q=>(m' a o q).ext x5 fun z=>by subst z;exact absurd fresh (m' a o q).fresh
  have rd5:RelD X.K (upd H' e (.ext (ZI e C' dd))) (.ref e) (.exc n' xd):=(ed.ext x5).rel hn' hc' upd_same;refine Z9 (X:=X.hnd e) (v:=.ref e) (XZ I5 e) hN hie (.inl ke) rfl (fun s6 I6=>?_) (.inr ke);have pl:PSs (X.hnd e) [.Assign [.Name x px] (.Name ne pe) apos] (tSeq (tAsg (tVar ie) (AZ ix)) CK):=VM (Am hN hix kx (Ux hie (.inl ke) od1 od2) rfl fx) pss_nil;refine wpAny_mono (pl pins s6 (σ'.set ie (some (.ref e))) _ {nx:=fun σ'' H''=>σ''=(σ'.set ie (some (.ref e))).set ix (some (.ref e))/\H''=upd H' e (.ext (ZI e C' dd)),rt:=fun _ _=>False} I6 ⟨.ref e,?_,rfl,rfl⟩) (fun f s7 h7=>?_) fun _ _ z=>z.elim
  ·rw[List.getElem?_set_self]
   have:=(List.getElem?_eq_some_iff.mp hie).1;rw[I1'.len];exact this
  ·cases f with
   | next =>
    obtain⟨σ7,H7,I7,rfl,rfl⟩:=h7;refine Jp (Zq ok I7) hN hie ke fun s8 I8=>?_;have e8:((σ'.set ie (some (.ref e))).set ix (some (.ref e))).set ie none=(σ'.set ix (some (.ref e))).set ie none:=by
     rw[List.set_comm _ _ hne,List.set_set]
    rw[e8] at I8;have s8:Slots X.K (upd H' e (.ext (ZI e C' dd))) ((δ'.set ix (some (.exc n' xd))).set ie none) ((σ'.set ix (some (.ref e))).set ie none):=((sl.ext x5).set rd5 ix).forget ie;exact⟨_,_,I8,n _ _ _ _ (x1.trans x5) ⟨s8,(X.L rz D.ex).mono _ _ (x1.trans x5) rs.ok⟩ m5 hnx⟩
   | brk=>obtain⟨_,_,_,z⟩:=h7;exact z.elim
   | cont=>obtain⟨_,_,_,z⟩:=h7;exact z.elim
   | ret u=>obtain⟨_,_,_,_,_,z⟩:=h7;exact z.elim
 ·have q':SP X pins Z fl s':=by
   cases fl with
   | next=>obtain⟨σ',H',I',z⟩:=q;exact⟨σ',H',Yy ok I',z⟩
   | brk=>obtain⟨σ',H',I',z⟩:=q;exact⟨σ',H',Yy ok I',z⟩
   | cont=>obtain⟨σ',H',I',z⟩:=q;exact⟨σ',H',Yy ok I',z⟩
   | ret u=>obtain⟨v,σ',H',I',rr,z⟩:=q;exact⟨v,σ',H',Yy ok I',rr,z⟩
  cases fl with
  | next =>
   obtain⟨σ',H',I',z⟩:=q';exact pss_nil pins s' σ' H' Z I' z
  | brk=>exact q'
  | cont=>exact q'
  | ret u=>exact q'
end
section
variable {X:Cx} {rz:Bool} {b0:Stmt} {body hb:List Stmt} {t th:DS} {cx ne:Str} {np hpos pos:Pos} {ie:Nat}
end
noncomputable def dTrn (t th:DS) (c:Str):DS:=fun D δ M=>t {D with ex:=fun δ' d M'=>∃ n,d=.exc n (xarg d)/\Yw n c=true/\th {nx:=D.nx,rt:=D.rt,bk:=fun _ _=>False,ct:=fun _ _=>False,ex:=X0} δ' M'} δ M
section
variable {X:Cx} {rz:Bool} {b0:Stmt} {body hb:List Stmt} {t th:DS} {cx:Str} {np hpos pos:Pos}
theorem Fr {C:Addr} (st:X.stack=X.env::X.outer/\X.env.frame=some X.env.locals) (tab:Zn X.K=true) (hcx:cx∈xNames) (hc:YH X.K cx C) (hm:X.mg cx=some (.ref C)) (hg:Gl X cx) (hdb:(cx==("__debug__":Str))=false)
  (hbd:∀ xe pins,PassesOwn (model X.prog X.w) X.A X.env xe->PSs (X.tri xe pins) body (Yk (X.tri xe pins) false t)) (hh:∀ e,PSs (X.hnd e) (b0::hb) (Yk (X.hnd e) false th)) :
  PS X (.Try body [.ExceptHandler (some (.Name cx np)) none (b0::hb) hpos] [] [] pos) (Yk X rz (dTrn t th cx)):=by
 rintro pins s σ H Z I ⟨δ,M,D,rs,rm,t,n,r,b,c⟩;refine wpAny_Try_except ?_;generalize hxe:(fun e s₁=>wpAny (model X.prog X.w) X.A (noteFrame e X.env) (fun _ s₂=>wpAny (model X.prog X.w) X.A (setFlight e none) (fun _ s₃=>wpAny (model X.prog X.w) X.A (handleBy e X.env [.ExceptHandler (some (.Name cx np)) none (b0::hb) hpos]) (SP X pins Z) X.xe s₃) X.xe s₂) X.xe s₁)=xe;have po:PassesOwn (model X.prog X.w) X.A X.env xe:=by rw[<- hxe];exact PassesOwn.looking
 have ok:=I.ok;refine wpAny_mono (hbd xe pins po [] s σ H Z (J8 I xe) ⟨δ,M,_,⟨rs.toSlots,⟨?_,fun z=>(by cases z),fun z=>(by cases z)⟩⟩,rm,t,fun δ' M' σ' H' x rs' m' h'=>n δ' M' σ' H' x ⟨rs'.toSlots,(X.L rz D.ex).mono _ _ x rs.ok⟩ m' h',r,fun δ' M' σ' H' x rs' m' h'=>b δ' M' σ' H' x ⟨rs'.toSlots,(X.L rz D.ex).mono _ _ x rs.ok⟩ m' h',fun δ' M' σ' H' x rs' m' h'=>c δ' M' σ' H' x ⟨rs'.toSlots,(X.L rz D.ex).mono _ _ x rs.ok⟩ m' h'⟩) (fun fl s' q=>?_) fun e s' q=>q
 ·intro pins' σ' H1 s1 H' e C' dd s' δ' M' n' xd x1 I1 th m' sl hn' hc' ed ⟨n2,en,hsub,hnx⟩
  cases en;rw[<- hxe];have I1':L2.Inv X pins σ' H1 s1:=Yy ok I1;obtain⟨B,os,bare,un,old,hokB,fl⟩:=th.ex;have fl':Flies B (X.env::X.outer) e (.ref C') dd .none s'.heap:=by rw[<- st.1];exact fl
  have fr:X.A.frames=some (X.env::X.outer):=by rw[<- st.1];exact ok.frames
  have ff:∀ b∈frs X.stack,∃ o,s'.heap.get? b=some o/\∀ vs,o.data≠.fields vs:=fun b hb=>(fl.frames.mem hb).2;refine Wf fr st.2 fl' fun h2 F2 n2'=>Zd F2 fun h3 F3 n3=>?_;have I3:L2.Inv X pins σ' H' {s' with heap:=h3}:=I1'.call' (s':={s' with heap:=h3}) os (Zt un old F3.stays ff (n2'.trans n3)) (hokB.kept F3.stays) bare (fun b hb=>by cases hb);have I3h:=XZ I3 e;have LT:PySem.W.Looks (model X.prog X.w) h3 (typeOf (.ref e)) (.ref C'):=by
   obtain⟨oe,vs,T,oT,ts,q1,q2,_⟩:=F3.tr;exact q2 ▸ (PySem.W.Looks.ld q1).andThen .now
  have hx:=((YC tab hn' hc').2.2.2 cx C hcx hc).1;rw[hsub] at hx;refine wpAny_handleBy_cons (codeAny_handlers_test (ZR (X:=X.hnd e) I3h hg hm ((PySem.W.exm_one I3.kIn LT hx).at ?_) hdb)) (by intro z;cases z);show codeAny _ _ _ _ _;refine codeAny_handlers_suite (Zd (s:={s' with heap:=h3}) F3 fun h4 F4 n4=>?_);have I4:L2.Inv X pins σ' H' {s' with heap:=h4}:=I1'.call' (s':={s' with heap:=h4}) os (Zt un old F4.stays ff (n2'.trans (n3.trans n4))) (hokB.kept F4.stays) bare (fun b hb=>by cases hb);refine wpAny_mono (hh e pins {s' with heap:=h4} σ' H' Z (XZ I4 e)
   ⟨δ',M',{nx:=D.nx,rt:=D.rt,bk:=fun _ _=>False,ct:=fun _ _=>False,ex:=X0},⟨sl,A7⟩,m',hnx,fun δ7 M7 σ7 H7 x7 rs7 m7 h7=>n δ7 M7 σ7 H7 (x1.trans x7) ⟨rs7.toSlots,(X.L rz D.ex).mono _ _ (x1.trans x7) rs.ok⟩ m7 h7,fun d M7 v H7 x7 m7 r7 h7=>r d M7 v H7 (x1.trans x7) m7 r7 h7,fun _ _ _ _ _ _ _ z=>z.elim,fun _ _ _ _ _ _ _ z=>z.elim⟩) (fun f s7 h7=>?_) fun _ _ z=>z.elim
  cases f with
  | next=>obtain⟨σ7,H7,I7,z⟩:=h7;exact⟨σ7,H7,Zq ok I7,z⟩
  | brk=>obtain⟨σ7,H7,I7,z⟩:=h7;exact⟨σ7,H7,Zq ok I7,z⟩
  | cont=>obtain⟨σ7,H7,I7,z⟩:=h7;exact⟨σ7,H7,Zq ok I7,z⟩
  | ret u=>obtain⟨v,σ7,H7,I7,rr,z⟩:=h7;exact⟨v,σ7,H7,Zq ok I7,rr,z⟩
 ·have q':SP X pins Z fl s':=by
   cases fl with
   | next=>obtain⟨σ',H',I',z⟩:=q;exact⟨σ',H',Yy ok I',z⟩
   | brk=>obtain⟨σ',H',I',z⟩:=q;exact⟨σ',H',Yy ok I',z⟩
   | cont=>obtain⟨σ',H',I',z⟩:=q;exact⟨σ',H',Yy ok I',z⟩
   | ret u=>obtain⟨v,σ',H',I',rr,z⟩:=q;exact⟨v,σ',H',Yy ok I',rr,z⟩
  cases fl with
  | next =>
   obtain⟨σ',H',I',z⟩:=q';exact pss_nil pins s' σ' H' Z I' z
  | brk=>exact q'
  | cont=>exact q'
  | ret u=>exact q'
end
end DL
end
noncomputable section
namespace DL
open PySem PySem.Spec PyProof.Rows L2
section
variable {M:Model} {A:Around} {Z:Value->Shared->Prop} {s:Shared} {B:Heap} {env:Env} {outer:List Env} {L e:Addr}
end
section
variable {prog:Program} {w:World} {A:Around} {E:Value->Shared->Prop} {h:Heap} {g:Array GenState} {d:Drawn} {t:Nat} {os:OsState}
end
section
variable {X:Cx} {body:List Stmt} {t:DS} {cx x xn:Str} {np np2 ap cpos cp rpos hpos pos:Pos} {ck i:Nat}
end
end DL
end
noncomputable section
namespace DL
open PySem PySem.Spec PyProof.Rows L2
mutual
inductive CS where
 | expr (e:CE)|ret (e:CE)
 | ife (c:CE) (a b:CSs)
 | set (i:Nat) (e:CE)
 | asg (g:CG) (e:CE)
 | two (g h:CG) (e:CE)
 | aug (i:Nat) (sub:Bool) (e:CE)
 | par (i j:Nat) (a b:CE)
 | whl (c:CE) (b:CSs)
 | fr (g:CG) (it:CI) (b:CSs)
 | nev
 | rse (x:Str) (es:CEs)
 | tri (b:CSs) (c:Str) (ie ix:Nat)
 | trn (b:CSs) (c:Str) (hs:CSs)
inductive CSs where
 | nil|cons (s:CS) (r:CSs)
end
mutual
noncomputable def rS:CS->DS
 | .expr e=>D2 (fun Xe=>(rE Xe e).e)
 | .ret e=>dRet (fun Xe=>(rE Xe e).e)
 | .ife c a b=>dIfS (fun Xe=>(rE Xe c).t) (rSs a) (rSs b)
 | .set i e=>dAsg (fun Xe=>(rE Xe e).e) (fun _=>Z1 i)
 | .asg g e=>dAsg (fun Xe=>(rE Xe e).e) (fun Xe=>rG Xe g)
 | .two g h e=>dTwo (fun Xe=>(rE Xe e).e) (fun Xe=>rG Xe g) (fun Xe=>rG Xe h)
 | .aug i sub e=>dAug i (fun Xe=>(rE Xe e).e) (if sub=true then fun i j=>i-j else fun i j=>i+j)
 | .par i j a b=>dPar i j (fun Xe=>YK (rE Xe a).e (YK (rE Xe b).e dNil))
 | .whl c b=>Bp (fun Xe=>(rE Xe c).t) (rSs b)
 | .fr g it b=>dFor (fun Xe=>rI Xe it) (fun Xe=>rG Xe g) (rSs b)
 | .nev=>Br
 | .rse x es=>Bq x (fun Xe=>rEs Xe es)
 | .tri b c ie ix=>dTry (rSs b) c ie ix
 | .trn b c hs=>dTrn (rSs b) (rSs hs) c
noncomputable def rSs:CSs->DS
 | .nil=>Ji
 | .cons s r=>dSeq (rS s) (rSs r)
end
noncomputable def ZM:Expr->Bool
 | .ListComp ..=>true
 | .SetComp ..=>true
 | .DictComp ..=>true
 | _=>false
theorem Up {x:Str} {env:Env} (h:env.kindOf x=some .cell) (y:Expr) (px:Pos) (n:Nat):swapsWith y (some (.Name x px)) n env=pure false:=by
 unfold swapsWith;split
 ·simp only[h]
  rw[show ((some NameKind.cell==some NameKind.local)=false) from rfl];simp
 ·rfl
noncomputable def CL (k:Ck) (x:Str) (px:Pos) (e:CE) (y:Expr):Bool :=
 match e,y with
 | .comp ..,.ListComp _ _ sc p=>decide (k.sc.kind=.function)&&decide (k.kind x=some .local)&&decide (px.line=p.line)&&!(sc.names.any fun y=>y.1==x&&(y.2==.local || y.2==.cell))
 | .compI ..,.ListComp _ _ sc p=>decide (k.sc.kind=.function)&&decide (k.kind x=some .local)&&decide (px.line=p.line)&&!(sc.names.any fun y=>y.1==x&&(y.2==.local || y.2==.cell))
 | _,_=>false
noncomputable def UA:Expr->Expr->Bool
 | .Tuple (.Subscript ..::_) _ _,.Tuple ..=>true
 | .Tuple ..,.Tuple vs _ _=>vs.all (foldedForSure 8)
 | .List ..,_=>false
 | _,_=>true
noncomputable def Jm (k:Ck) (tg y:Expr):Bool :=
 match tg,y with
 | .Tuple [.Name x _,.Name z _] _ _,.Tuple _ _ _=>decide (k.kind x=some .cell) || decide (k.kind z=some .cell)
 | _,_=>false
noncomputable def Zg:Expr->Bool
 | .Starred ..=>false
 | _=>true
mutual
noncomputable def isS (k:Ck) (rz:Bool):CS->Stmt->Bool
 | .expr e,s=>match s with | .Expr x _=>isE k e x&&!ZM x|_=>false
 | .ret e,s=>match s with | .Return (some x) _=>isE k e x|_=>false
 | .ife c a b,s=>match s with | .If x xs ys _=>isE k c x&&isSs k rz a xs&&isSs k rz b ys|_=>false
 | .set i e,s=>match s with | .Assign [.Name x px] y _=>decide (k.N[i]?=some x)&&k.loc x&&isE k e y&&((!ZM y || decide (k.kind x=some .cell)) || CL k x px e y)|_=>false
 | .asg g e,s=>match s with | .Assign [tg] y _=>isG k g tg&&isE k e y&&!ZM y&&(UA tg y || Jm k tg y)|_=>false
 | .two g h e,s=>match s with | .Assign [tg,tg2] y _=>isG k g tg&&isG k h tg2&&isE k e y|_=>false
 | .aug i sub e,s=>match s with | .AugAssign (.Name x _) op y _=>decide (k.N[i]?=some x)&&k.loc x&&isE k e y&&decide (op=if sub=true then .Sub else .Add)|_=>false
 | .par i j a b,s=>match s with
  | .Assign [.Tuple [.Name x px,.Name y py] _ _] (.Tuple [u,v] _ _) _=>decide (k.N[i]?=some x)&&decide (k.N[j]?=some y)&&!decide (i=j)&&decide (k.kind x=some .local)&&decide (k.kind y=some .local)
   && isE k a u&&isE k b v&&decide (px.line=py.line)&&!([u,v].all (foldedForSure 8))&&!([u,v].all (constantsAlone 8))&&Zg u&&Zg v&&decide (k.sc.kind=.function)&&k.cal
  | _=>false
 | .whl c b,s=>match s with | .While x xs [] _=>isE k c x&&isSs k rz b xs|_=>false
 | .fr g it b,s=>match s with | .For tg iter xs [] _=>isG k g tg&&isI k tg it iter&&isSs k rz b xs&&k.cal|_=>false
 | .nev,_=>true
 | .rse x es,s=>match s with | .Raise (some (.Call (.Name y _) (a::r) [] _)) none _=>rz&&decide (x=y)&&xPlain.contains x&&k.gl x&&YI x&&isEs k es (a::r)&&k.cal|_=>false
 | .tri b c ie ix,s=>match s with
  | .Try body [.ExceptHandler (some (.Name cx _)) (some ne) [.Assign [.Name x _] (.Name ne' _) _] _] [] [] _=>k.top&&decide (c=cx)&&xNames.contains c&&k.gl c&&YI c&&decide (k.N[ie]?=some ne)&&decide (k.N[ix]?=some x)&&!decide (ie=ix)&&decide (k.kind ne=some .local)&&decide (ne=ne')&&k.loc x&&YI ne&&isSs k false b body
  | _=>false
 | .trn b c hs,s=>match s with
  | .Try body [.ExceptHandler (some (.Name cx _)) none (b0::hb) _] [] [] _=>k.top&&decide (c=cx)&&xNames.contains c&&k.gl c&&YI c&&isSs ⟨k.N,k.sc,k.top,false⟩ false hs (b0::hb)&&isSs k false b body
  | _=>false
noncomputable def isSs (k:Ck) (rz:Bool):CSs->List Stmt->Bool
 | .nil,xs=>match xs with | []=>true|_=>false
 | .cons s r,xs=>match xs with|x::ys=>isS k rz s x&&isSs k rz r ys|_=>false
end
mutual
noncomputable def onS (P:Str->Str->DSp->Prop) (G:Str->D->Prop):CS->Prop
 | .nev=>True
 | .expr e | .ret e | .set _ e=>onE P G e
 | .ife c a b=>onE P G c/\onSs P G a/\onSs P G b
 | .asg g e=>onG P G g/\onE P G e
 | .two g h e=>onG P G g/\onG P G h/\onE P G e
 | .aug _ _ e=>onE P G e
 | .par _ _ a b=>onE P G a/\onE P G b
 | .whl c b=>onE P G c/\onSs P G b
 | .fr g it b=>onG P G g/\onI P G it/\onSs P G b
 | .rse x es=>G x (.cls x)/\onEs P G es
 | .tri b c _ _=>G c (.cls c)/\onSs P G b
 | .trn b c hs=>G c (.cls c)/\onSs P G b/\onSs P G hs
noncomputable def onSs (P:Str->Str->DSp->Prop) (G:Str->D->Prop):CSs->Prop
 | .nil=>True
 | .cons s r=>onS P G s/\onSs P G r
end
mutual
theorem Az {P P':Str->Str->DSp->Prop} {G G':Str->D->Prop}:∀ (c:CS),(∀ c x S,P c x S->P' c x S)->(∀ x d,G x d->G' x d)->onS P G c->onS P' G' c
 | .nev,_,_,_=>True.intro
 | .expr e,p,g,h | .ret e,p,g,h | .set _ e,p,g,h=>Y4 e p g h
 | .ife c a b,p,g,h=>⟨Y4 c p g h.1,Ys a p g h.2.1,Ys b p g h.2.2⟩
 | .asg t e,p,g,h=>⟨YD t p g h.1,Y4 e p g h.2⟩
 | .two t u e,p,g,h=>⟨YD t p g h.1,YD u p g h.2.1,Y4 e p g h.2.2⟩
 | .aug _ _ e,p,g,h=>Y4 e p g h
 | .par _ _ a b,p,g,h=>⟨Y4 a p g h.1,Y4 b p g h.2⟩
 | .whl c b,p,g,h=>⟨Y4 c p g h.1,Ys b p g h.2⟩
 | .fr t it b,p,g,h=>⟨YD t p g h.1,W7 it p g h.2.1,Ys b p g h.2.2⟩
 | .rse x es,p,g,h=>⟨g _ _ h.1,YF es p g h.2⟩
 | .tri b c _ _,p,g,h=>⟨g _ _ h.1,Ys b p g h.2⟩
 | .trn b c hs,p,g,h=>⟨g _ _ h.1,Ys b p g h.2.1,Ys hs p g h.2.2⟩
theorem Ys {P P':Str->Str->DSp->Prop} {G G':Str->D->Prop}:∀ (c:CSs),(∀ c x S,P c x S->P' c x S)->(∀ x d,G x d->G' x d)->onSs P G c->onSs P' G' c
 | .nil,_,_,_=>True.intro
 | .cons e es,p,g,h=>⟨Az e p g h.1,Ys es p g h.2⟩
end
theorem W3 {e:Expr} (h:ZM e=false) (t:Option Expr) (l:Nat) (env:Env):swapsWith e t l env=pure false:=by
 cases e<;>first|rfl|(simp[ZM] at h)
theorem WA {x:Str} {px p:Pos} {elt:Expr} {gs:List Comprehension} {sc:Scope} {l:Nat} {env:Env} (hx:env.kindOf x=some .local) (hl:px.line=p.line) (hn:(sc.names.any fun y=>y.1==x&&(y.2==.local || y.2==.cell))=false) (hb:env.blockKind=.function) :
  swapsWith (.ListComp elt gs sc p) (some (.Name x px)) l env=pure true:=by
 show (pure (env.blockKind==.function&&env.kindOf x==some .local&&px.line==p.line&&!(sc.names.any fun y=>y.1==x&&(y.2==.local || y.2==.cell))):Sem Bool)=pure true;rw[hb,hx,hl,hn];simp
theorem XD {ts vs:List Expr} {k k2:Nat} {p p2:Pos} (h:vs.all (foldedForSure 8)=true) (env:Env):swappedStores [.Tuple ts k p] (.Tuple vs k2 p2) env=pure none:=by
 unfold swappedStores;simp only[h,if_true]
 repeat' split
 all_goals rfl
theorem VE {a b:Expr} {p q p2:Pos} {ts vs:List Expr} {k k2:Nat} (env:Env):swappedStores [.Tuple (.Subscript a b p::ts) k q] (.Tuple vs k2 p2) env=pure none:=by
 unfold swappedStores;have hl:∀ f:Expr->Option Str,f (.Subscript a b p)=none->((Expr.Subscript a b p::ts).filterMap f).length≠(Expr.Subscript a b p::ts).length:=fun f hf=>by
  rw[List.filterMap_cons_none hf];have:=List.length_filterMap_le f ts;simp only[List.length_cons];omega
 dsimp only;split
 ·rfl
 ·split
  ·rfl
  ·rw[if_pos]
   ·have:=hl (fun | .Name id pos=>if env.kindOf id==some .local&&pos.line==(((Expr.Subscript a b p::ts).head?.map (·.pos.line)).getD 0) then some id else none|_=>none) rfl
    simp only[Bool.or_eq_true,bne_iff_ne];exact .inl this
theorem Uq {tg e:Expr} (h:UA tg e=true) (env:Env):swappedStores [tg] e env=pure none:=by
 cases tg with
 | Tuple ts k p =>
  cases e with
  | Tuple vs k2 p2 =>
   cases ts with
   | nil=>exact XD h env
   | cons t ts =>
    cases t with
    | Subscript a b q=>exact VE env
    | _=>exact XD h env
  | _=>rfl
 | List ts p=>exact nfx h
 | _=>rfl
theorem VD (t1 t2 y:Expr) (env:Env):swappedStores [t1,t2] y env=pure none:=by
 cases t1<;>first|rfl|(cases y<;>rfl)
theorem VC {x y:Str} {px py pt pt2:Pos} {kt k2:Nat} {u v:Expr} {env:Env} (hx:env.kindOf x=some .local) (hy:env.kindOf y=some .local) (hne:x≠y) (hl:px.line=py.line) (hb:env.blockKind=.function)
  (h1:[u,v].all (foldedForSure 8)=false) (h2:[u,v].all (constantsAlone 8)=false) (hu:Zg u=true) (hv:Zg v=true) :
  swappedStores [.Tuple [.Name x px,.Name y py] kt pt] (.Tuple [u,v] k2 pt2) env=pure (some [x,y]):=by
 unfold swappedStores;have hs:∀ {z:Expr},Zg z=true->(match z with | .Starred ..=>true|_=>false)=false:=fun {z} hz=>by
  cases z<;>first|rfl|exact absurd hz (by simp[Zg])
 have hd:[x,y].eraseDups.length=2:=by
  have:(y==x)=false:=by simpa using Ne.symm hne
  simp[List.eraseDups_cons,this]
 have hany:([u,v].any fun | .Starred ..=>true|_=>false)=false:=by
  simp only[List.any_cons,List.any_nil,Bool.or_false];rw[hs hu,hs hv];rfl
 have ha:∀ (f:Expr->Bool),[u,v].all f=(f u&&f v):=fun f=>by simp
 rw[ha] at h1 h2;have hu':=hs hu;have hv':=hs hv;simp[hb,hx,hy,Expr.pos,hl,hd,ha,h1,h2];intro z;rcases z with z|z
 ·exact absurd (hu'.symm.trans z) (by decide)
 ·exact absurd (hv'.symm.trans z) (by decide)
theorem Xb {X:Cx} {k:Ck} (C:CtxOk X k):PassesOwn (model X.prog X.w) X.A X.env X.xe:=C.po
theorem CtxOk.tri {X:Cx} {k:Ck} (C:CtxOk X k) {xe:Value->Shared->Prop} (pins:List (Addr×Obj)) (po:PassesOwn (model X.prog X.w) X.A X.env xe):CtxOk (X.tri xe pins) k :=
 ⟨C.N,C.nd,C.sc,C.fr,C.fn,C.calm,C.room,C.hu,C.blt,po,C.tab,C.st⟩
theorem CtxOk.hnd {X:Cx} {k:Ck} (C:CtxOk X k) (e:Addr):CtxOk (X.hnd e) ⟨k.N,k.sc,k.top,false⟩ :=
 ⟨C.N,C.nd,C.sc,C.fr,C.fn,fun z=>(by cases z),fun z=>(by cases z),C.hu,C.blt,PassesOwn.never,C.tab,C.st⟩
theorem Vj {X:Cx} {n:Str} (G:GloAt X n (.cls n)):∃ C,X.mg n=some (.ref C)/\YH X.K n C:=by
 obtain⟨u,v,e1,e2,e3⟩:=G.ex;have:=e3 fun _=>none;cases this with
 | @cls C _ hn hc=>cases e2;exact⟨C,e1,hc⟩
theorem CtxOk.bk {X:Cx} {k:Ck} (hk:X.env.scope.kind=.function):X.env.blockKind=.function:=by unfold Env.blockKind;rw[hk];rfl
theorem V7 {X:Cx} {k:Ck} (C:CtxOk X k) {tg y:Expr} (h:Jm k tg y=true):swappedStores [tg] y X.env=pure none:=by
 unfold Jm at h;split at h
 ·rename_i x px z pz kt pt vs k2 p2
  have e:X.env.kindOf x=some .cell\/X.env.kindOf z=some .cell:=by
   rw[Bool.or_eq_true] at h;rcases h with h|h
   ·exact .inl (C.sc _ _ (of_decide_eq_true h) (by decide))
   ·exact .inr (C.sc _ _ (of_decide_eq_true h) (by decide))
  unfold swappedStores;simp only[];split
  ·rfl
  ·split
   ·rfl
   ·rw[if_pos]
    rcases e with e|e
    ·simp[List.filterMap,e]
     split<;>simp
    ·simp[List.filterMap,e]
     split<;>simp
 ·cases h
theorem not1 {a:Bool} (h:(!a)=true):a=false:=by
 cases a with
 | true=>exact nfx h
 | false=>rfl
theorem or2 {a b:Bool} (h:(a || b)=true):a=true\/b=true:=by
 cases a with
 | true=>exact .inl rfl
 | false=>exact .inr h
theorem BV {x:Str} (h:YI x=true):(x==("__classdict__":Str))=false:=not1 (and2 h).2
mutual
theorem sS:∀ (c:CS) (rz:Bool) (k:Ck) (X:Cx) (s:Stmt),CtxOk X k->X.env.scope.kind=.function->onS (FnAt X) (GloAt X) c->isS k rz c s=true->PS X s (Yk X rz (rS c))
  | .expr e,rz,k,X,s,C,bk,on,h=>by
    cases s with
    | Expr x p =>
      obtain⟨h1,h2⟩:=and2 (show (isE k e x&&!ZM x)=true from h);exact Cj (fun Xe=>(sE e rz Xe k X _ C on h1).pe) (W3 (not1 h2) _ _ _)
    | _=>exact nfx h
  | .ret e,rz,k,X,s,C,bk,on,h=>by
    cases s with
    | Return v p =>
      cases v with
      | none=>exact nfx h
      | some v=>exact Fs (fun Xe=>(sE e rz Xe k X v C on h).pe)
    | _=>exact nfx h
  | .ife c a b,rz,k,X,s,C,bk,on,h=>by
    cases s with
    | If x xs ys p =>
      obtain⟨h1,h3⟩:=and2 (show (_&&isSs k rz b ys)=true from h);obtain⟨h1,h2⟩:=and2 (show (isE k c x&&isSs k rz a xs)=true from h1);exact II (fun Xe=>(sE c rz Xe k X _ C on.1 h1).pt) (sSs a rz k X _ C bk on.2.1 h2) (sSs b rz k X _ C bk on.2.2 h3)
    | _=>exact nfx h
  | .set i e,rz,k,X,s,C,bk,on,h=>by
    cases s with
    | Assign ts y p =>
      cases ts with
      | nil=>exact nfx h
      | cons tg ts =>
        cases ts with
        | cons _ _=>cases tg<;>exact nfx h
        | nil =>
          cases tg with
          | Name x px =>
            obtain⟨h1,h4⟩:=and2 (show (_&&((!ZM y || decide (k.kind x=some .cell)) || CL k x px e y))=true from h);obtain⟨h1,h3⟩:=and2 (show (_&&isE k e y)=true from h1);obtain⟨h1,h2⟩:=and2 (show (decide (k.N[i]?=some x)&&k.loc x)=true from h1);have hi:=of_decide_eq_true h1;clear h1;rcases or2 h4 with h4|h4
            . rcases or2 h4 with h4|h4
              . exact Bc (by rw[C.N];exact C.nd) (by rw[C.N];exact hi) (C.loc h2).1 (fun Xe=>(sE e rz Xe k X _ C on h3).pe) (W3 (not1 h4) _ _ _) (C.loc h2).2
              . exact Bc (by rw[C.N];exact C.nd) (by rw[C.N];exact hi) (C.loc h2).1 (fun Xe=>(sE e rz Xe k X _ C on h3).pe) (Up (C.sc _ _ (of_decide_eq_true h4) (by decide)) _ _ _) (C.loc h2).2
            . cases e with
              | comp N' n g it elt =>
                cases y with
                | ListComp y gs sc p =>
                  obtain⟨h4,h7⟩:=and2 (show (_&&!(sc.names.any fun y=>y.1==x&&(y.2==.local || y.2==.cell)))=true from h4);obtain⟨h4,h6⟩:=and2 (show (_&&decide (px.line=p.line))=true from h4);obtain⟨h4,h5⟩:=and2 (show (decide (k.sc.kind=.function)&&decide (k.kind x=some .local))=true from h4);cases gs with
                  | nil=>exact absurd h3 Bool.false_ne_true
                  | cons q gs =>
                    cases q with
                    | mk tg iter ifs z =>
                      cases ifs with
                      | cons _ _=>exact absurd h3 Bool.false_ne_true
                      | nil =>
                        cases gs with
                        | cons _ _=>exact absurd h3 Bool.false_ne_true
                        | nil =>
                          obtain⟨h3,hcal⟩:=and2 (show (_&&k.cal)=true from h3);obtain⟨h3,g5⟩:=and2 (show (_&&isE ⟨N',sc,false,k.cal⟩ elt y)=true from h3);obtain⟨h3,g4⟩:=and2 (show (_&&isI k tg it iter)=true from h3);obtain⟨h3,g3⟩:=and2 (show (_&&isG ⟨N',sc,false,k.cal⟩ g tg)=true from h3);obtain⟨h3,g2⟩:=and2 (show (_&&decide (n=N'.length-k.N.length))=true from h3);obtain⟨h3,g1⟩:=and2 (show (decide (z=0)&&blkB k N' sc)=true from h3);obtain rfl:=of_decide_eq_true h3;obtain rfl:=of_decide_eq_true g2;have si:=fun Xe=>sI it rz Xe k X tg _ C on.2.1 g4;rw[<- C.N];exact Ci (C.calm hcal) (Xo C g1).1 (fun Xe=>(si Xe).pi) (fun cl Cn s H ex=>⟨(sG g false X0 ⟨N',_,false,k.cal⟩ (Yj X N' _ cl Cn s H ex []) _ (C.blk g1 cl Cn s H ex) (YD g (fun c x S F=>⟨F.ex⟩) (fun x d F=>⟨F.ex⟩) on.1) g3).pg,
                            (sE elt false X0 ⟨N',_,false,k.cal⟩ (Yj X N' _ cl Cn s H ex []) _ (C.blk g1 cl Cn s H ex) (Y4 elt (fun c x S F=>⟨F.ex⟩) (fun x d F=>⟨F.ex⟩) on.2.2) g5).pe⟩) ((si X0).set _)
                            (WA (C.sc _ _ (of_decide_eq_true h5) (by decide)) (of_decide_eq_true h6) (not1 h7) (CtxOk.bk (k:=k) bk)) (by rw[C.N];exact C.nd) (by rw[C.N];exact hi) (C.loc h2).1 (C.loc h2).2
                | _=>exact absurd h4 Bool.false_ne_true
              | compI N' n g it c elt =>
                cases y with
                | ListComp y gs sc p =>
                  obtain⟨h4,h7⟩:=and2 (show (_&&!(sc.names.any fun y=>y.1==x&&(y.2==.local || y.2==.cell)))=true from h4);obtain⟨h4,h6⟩:=and2 (show (_&&decide (px.line=p.line))=true from h4);obtain⟨h4,h5⟩:=and2 (show (decide (k.sc.kind=.function)&&decide (k.kind x=some .local))=true from h4);cases gs with
                  | nil=>exact absurd h3 Bool.false_ne_true
                  | cons q gs =>
                    cases q with
                    | mk tg iter ifs z =>
                      cases ifs with
                      | nil=>exact absurd h3 Bool.false_ne_true
                      | cons x0 ifs =>
                       cases ifs with
                       | cons _ _=>exact absurd h3 Bool.false_ne_true
                       | nil =>
                        cases gs with
                        | cons _ _=>exact absurd h3 Bool.false_ne_true
                        | nil =>
                          obtain⟨h3,hcal⟩:=and2 (show (_&&k.cal)=true from h3);obtain⟨h3,g6⟩:=and2 (show (_&&isE ⟨N',sc,false,k.cal⟩ elt y)=true from h3);obtain⟨h3,g5⟩:=and2 (show (_&&isE ⟨N',sc,false,k.cal⟩ c x0)=true from h3);obtain⟨h3,g4⟩:=and2 (show (_&&isI k tg it iter)=true from h3);obtain⟨h3,g3⟩:=and2 (show (_&&isG ⟨N',sc,false,k.cal⟩ g tg)=true from h3);obtain⟨h3,g2⟩:=and2 (show (_&&decide (n=N'.length-k.N.length))=true from h3);obtain⟨h3,g1⟩:=and2 (show (decide (z=0)&&blkB k N' sc)=true from h3);obtain rfl:=of_decide_eq_true h3;obtain rfl:=of_decide_eq_true g2;have si:=fun Xe=>sI it rz Xe k X tg _ C on.2.1 g4;rw[<- C.N];refine Je (ti:=fun Xe=>rI Xe it) (g:=rG X0 g) (b:=bIf (rE X0 c).t (XL (rE X0 elt).e)) (C.calm hcal) (Xo C g1).1 (fun Xe=>(si Xe).pi) (fun p env=>ifW x0 env (Xi y (.ref p) env)) (fun p env=>VY Zz) (fun cl Cn s H ex p=>⟨(sG g false X0 ⟨N',_,false,k.cal⟩ (Yj X N' _ cl Cn s H ex []) _ (C.blk g1 cl Cn s H ex) (YD g (fun c x S F=>⟨F.ex⟩) (fun x d F=>⟨F.ex⟩) on.1) g3).pg,
                            CN rfl (sE c false X0 ⟨N',_,false,k.cal⟩ (Yj X N' _ cl Cn s H ex []) _ (C.blk g1 cl Cn s H ex) (Y4 c (fun c x S F=>⟨F.ex⟩) (fun x d F=>⟨F.ex⟩) on.2.2.1) g5).pt (XU rfl (sE elt false X0 ⟨N',_,false,k.cal⟩ (Yj X N' _ cl Cn s H ex []) _ (C.blk g1 cl Cn s H ex) (Y4 elt (fun c x S F=>⟨F.ex⟩) (fun x d F=>⟨F.ex⟩) on.2.2.2) g6).pe)⟩) (fun _ _ _=>UR) ((si X0).set _)
                            (WA (C.sc _ _ (of_decide_eq_true h5) (by decide)) (of_decide_eq_true h6) (not1 h7) (CtxOk.bk (k:=k) bk)) (by rw[C.N];exact C.nd) (by rw[C.N];exact hi) (C.loc h2).1 (C.loc h2).2
                | _=>exact absurd h4 Bool.false_ne_true
              | _=>exact absurd h4 Bool.false_ne_true
          | _=>exact nfx h
    | _=>exact nfx h
  | .asg g e,rz,k,X,s,C,bk,on,h=>by
    cases s with
    | Assign ts y p =>
      cases ts with
      | nil=>exact nfx h
      | cons tg ts =>
        cases ts with
        | cons _ _=>exact nfx h
        | nil =>
          obtain⟨h1,h4⟩:=and2 (show (_&&(UA tg y || Jm k tg y))=true from h);obtain⟨h1,h3⟩:=and2 (show (_&&!ZM y)=true from h1);obtain⟨h1,h2⟩:=and2 (show (isG k g tg&&isE k e y)=true from h1);have s1:=fun Xe=>sG g rz Xe k X _ C on.1 h1;have h5:swappedStores [tg] y X.env=pure none:=(or2 h4).elim (fun h4=>Uq h4 _) (fun h4=>V7 C h4);exact Fv (fun Xe=>(sE e rz Xe k X _ C on.2 h2).pe) (fun Xe=>(s1 Xe).pg) (W3 (not1 h3) _ _ _) h5 (by rw[(s1 X0).as];rfl)
    | _=>exact nfx h
  | .two g g2 e,rz,k,X,s,C,bk,on,h=>by
    cases s with
    | Assign ts y p =>
      cases ts with
      | nil=>exact nfx h
      | cons tg ts =>
        cases ts with
        | nil=>exact nfx h
        | cons tg2 ts =>
          cases ts with
          | cons _ _=>exact nfx h
          | nil =>
            obtain⟨h1,h3⟩:=and2 (show (_&&isE k e y)=true from h);obtain⟨h1,h2⟩:=and2 (show (isG k g tg&&isG k g2 tg2)=true from h1);have s1:=fun Xe=>sG g rz Xe k X _ C on.1 h1;have s2:=fun Xe=>sG g2 rz Xe k X _ C on.2.1 h2;exact Fp (fun Xe=>(sE e rz Xe k X _ C on.2.2 h3).pe) (fun Xe=>(s1 Xe).pg) (fun Xe=>(s2 Xe).pg) (by rw[(s1 X0).as,(s2 X0).as];rfl) (VD _ _ _ _)
    | _=>exact nfx h
  | .aug i sub e,rz,k,X,s,C,bk,on,h=>by
    cases s with
    | AugAssign tg op y p =>
      cases tg with
      | Name x px =>
        obtain⟨h1,h4⟩:=and2 (show (_&&decide (op=if sub=true then .Sub else .Add))=true from h);obtain⟨h1,h3⟩:=and2 (show (_&&isE k e y)=true from h1);obtain⟨h1,h2⟩:=and2 (show (decide (k.N[i]?=some x)&&k.loc x)=true from h1);have h1:=of_decide_eq_true h1;obtain rfl:=of_decide_eq_true h4;cases sub with
        | true=>exact Bf (by rw[C.N];exact C.nd) (by rw[C.N];exact h1) (C.loc h2).1 (fun Xe=>(sE e rz Xe k X _ C on h3).pe) Fg (C.loc h2).2
        | false=>exact Bf (by rw[C.N];exact C.nd) (by rw[C.N];exact h1) (C.loc h2).1 (fun Xe=>(sE e rz Xe k X _ C on h3).pe) Fh (C.loc h2).2
      | _=>exact nfx h
    | _=>exact nfx h
  | .par i j a b,rz,k,X,s,C,bk,on,h=>by
    cases s with
    | Assign ts v p =>
      cases ts with
      | nil=>exact nfx h
      | cons tg ts =>
        cases tg with
        | Tuple xs q1 p1 =>
          cases xs with
          | nil=>exact nfx h
          | cons x xs =>
            cases x with
            | Name x px =>
              cases xs with
              | nil=>exact nfx h
              | cons y xs =>
                cases y with
                | Name y py =>
                  cases xs with
                  | cons _ _=>exact nfx h
                  | nil =>
                    cases ts with
                    | cons _ _=>exact nfx h
                    | nil =>
                      cases v with
                      | Tuple us q2 p2 =>
                        cases us with
                        | nil=>exact nfx h
                        | cons u us =>
                          cases us with
                          | nil=>exact nfx h
                          | cons v us =>
                            cases us with
                            | cons _ _=>exact nfx h
                            | nil =>
                              obtain⟨h,hcal⟩:=and2 (show (_&&k.cal)=true from h);obtain⟨h,h13⟩:=and2 (show (_&&decide (k.sc.kind=.function))=true from h);obtain⟨h,h12⟩:=and2 (show (_&&Zg v)=true from h);obtain⟨h,h11⟩:=and2 (show (_&&Zg u)=true from h);obtain⟨h,h10⟩:=and2 (show (_&&!([u,v].all (constantsAlone 8)))=true from h);obtain⟨h,h9⟩:=and2 (show (_&&!([u,v].all (foldedForSure 8)))=true from h);obtain⟨h,h8⟩:=and2 (show (_&&decide (px.line=py.line))=true from h);obtain⟨h,h7⟩:=and2 (show (_&&isE k b v)=true from h);obtain⟨h,h6⟩:=and2 (show (_&&isE k a u)=true from h);obtain⟨h,h5⟩:=and2 (show (_&&decide (k.kind y=some .local))=true from h);obtain⟨h,h4⟩:=and2 (show (_&&decide (k.kind x=some .local))=true from h);obtain⟨h,h3⟩:=and2 (show (_&&!decide (i=j))=true from h);obtain⟨h,h2⟩:=and2 (show (decide (k.N[i]?=some x)&&decide (k.N[j]?=some y))=true from h);have h1:=of_decide_eq_true h;have h2:=of_decide_eq_true h2
                              have h3:¬ i=j:=of_decide_eq_false (not1 h3);have s1:=fun Xe=>sE a rz Xe k X _ C on.1 h6;have s2:=fun Xe=>sE b rz Xe k X _ C on.2 h7;have kx:=C.sc _ _ (of_decide_eq_true h4) (by decide);have ky:=C.sc _ _ (of_decide_eq_true h5) (by decide);exact Ft (C.calm hcal) (by rw[C.N];exact C.nd) (by rw[C.N];exact h1) (by rw[C.N];exact h2) h3 kx ky (fun Xe=>ZA (s1 Xe).pe (ZA (s2 Xe).pe Wj ((s2 Xe).sh.star _ _)) ((s1 Xe).sh.star _ _))
                                (VC kx ky (fun z=>h3 (Xa C.nd h1 (z ▸ h2))) (of_decide_eq_true h8) (CtxOk.bk (k:=k) bk) (not1 h9) (not1 h10) h11 h12) rfl
                      | _=>exact nfx h
                | _=>exact nfx h
            | _=>exact nfx h
        | _=>exact nfx h
    | _=>exact nfx h
  | .whl c b,rz,k,X,s,C,bk,on,h=>by
    cases s with
    | While x xs ys p =>
      cases ys with
      | cons _ _=>exact nfx h
      | nil =>
        obtain⟨h1,h2⟩:=and2 (show (isE k c x&&isSs k rz b xs)=true from h);exact Bb (Xb C) (fun Xe=>(sE c rz Xe k X _ C on.1 h1).pt) (sSs b rz k X _ C bk on.2 h2)
    | _=>exact nfx h
  | .fr g it b,rz,k,X,s,C,bk,on,h=>by
    cases s with
    | For tg iter xs ys p =>
      cases ys with
      | cons _ _=>exact nfx h
      | nil =>
        obtain⟨h,hcal⟩:=and2 (show (_&&k.cal)=true from h);obtain⟨h1,h3⟩:=and2 (show (_&&isSs k rz b xs)=true from h);obtain⟨h1,h2⟩:=and2 (show (isG k g tg&&isI k tg it iter)=true from h1);have si:=fun Xe=>sI it rz Xe k X tg _ C on.2.1 h2;exact Fu (Xb C) (C.calm hcal) (fun Xe=>(si Xe).pi) (fun Xe=>(sG g rz Xe k X _ C on.1 h1).pg) (sSs b rz k X _ C bk on.2.2 h3) ((si X0).set _)
    | _=>exact nfx h
  | .nev,rz,k,X,s,C,bk,on,h=>Be
  | .rse x es,rz,k,X,s,C,bk,on,h=>by
    cases s with
    | Raise v w p =>
      cases v with
      | none=>exact nfx h
      | some v =>
        cases v with
        | Call f xs kw q =>
          cases f with
          | Name y q' =>
            cases xs with
            | nil=>exact nfx h
            | cons a r =>
              cases kw with
              | cons _ _=>exact nfx h
              | nil =>
                cases w with
                | some _=>exact nfx h
                | none =>
                  obtain⟨h,hcal⟩:=and2 (show (_&&k.cal)=true from h);obtain⟨h,h6⟩:=and2 (show (_&&isEs k es (a::r))=true from h);obtain⟨h,h5⟩:=and2 (show (_&&YI x)=true from h);obtain⟨h,h4⟩:=and2 (show (_&&k.gl x)=true from h);obtain⟨h,h3⟩:=and2 (show (_&&xPlain.contains x)=true from h);obtain⟨hz,h2⟩:=and2 (show (rz&&decide (x=y))=true from h);obtain rfl:=of_decide_eq_true h2;subst hz;obtain⟨Cc,hm,hc⟩:=Vj on.1;have s:=fun Xe=>sEs es true Xe k X _ C on.2 h6;exact Bd (C.room hcal) C.tab h3 hc hm (C.gl h4) (Zw h5) (fun Xe=>(s Xe).pa) (((s X0).hd _ _ rfl).1.star _ _) (((s X0).hd _ _ rfl).2 _ _)
          | _=>exact nfx h
        | _=>exact nfx h
    | _=>exact nfx h
  | .tri b c ie ix,rz,k,X,s,C,bk,on,h=>by
    cases s with
    | Try body hs os fs p =>
      cases hs with
      | nil=>exact nfx h
      | cons H hs =>
        cases H with
        | ExceptHandler ty nm hb hp =>
          cases ty with
          | none=>exact nfx h
          | some ty =>
            cases ty with
            | Name cx _ =>
              cases nm with
              | none=>exact nfx h
              | some ne =>
                cases hb with
                | nil=>exact nfx h
                | cons st hb =>
                  cases st with
                  | Assign ts v _ =>
                    cases ts with
                    | nil=>exact nfx h
                    | cons tg ts =>
                      cases tg with
                      | Name x _ =>
                        cases ts with
                        | cons _ _=>exact nfx h
                        | nil =>
                          cases v with
                          | Name ne' _ =>
                            cases hb with
                            | cons _ _=>exact nfx h
                            | nil =>
                              cases hs with
                              | cons _ _=>exact nfx h
                              | nil =>
                                cases os with
                                | cons _ _=>exact nfx h
                                | nil =>
                                  cases fs with
                                  | cons _ _=>exact nfx h
                                  | nil =>
                                    obtain⟨h,h13⟩:=and2 (show (_&&isSs k false b body)=true from h);obtain⟨h,h12⟩:=and2 (show (_&&YI ne)=true from h);obtain⟨h,h11⟩:=and2 (show (_&&k.loc x)=true from h);obtain⟨h,h10⟩:=and2 (show (_&&decide (ne=ne'))=true from h);obtain⟨h,h9⟩:=and2 (show (_&&decide (k.kind ne=some .local))=true from h);obtain⟨h,h8⟩:=and2 (show (_&&!decide (ie=ix))=true from h);obtain⟨h,h7⟩:=and2 (show (_&&decide (k.N[ix]?=some x))=true from h);obtain⟨h,h6⟩:=and2 (show (_&&decide (k.N[ie]?=some ne))=true from h);obtain⟨h,h5⟩:=and2 (show (_&&YI c)=true from h);obtain⟨h,h4⟩:=and2 (show (_&&k.gl c)=true from h);obtain⟨h,h3⟩:=and2 (show (_&&xNames.contains c)=true from h);obtain⟨h1,h2⟩:=and2 (show (k.top&&decide (c=cx))=true from h);obtain rfl:=of_decide_eq_true h2;obtain rfl:=of_decide_eq_true h10;have h6:=of_decide_eq_true h6;have h7:=of_decide_eq_true h7;obtain⟨Cc,hm,hc⟩:=Vj on.1
                                    exact Fq (C.st h1) C.tab (by simpa using h3) hc hm (C.gl h4) (Zw h5) (by rw[C.N];exact C.nd) (by rw[C.N];exact h6) (by rw[C.N];exact h7) (of_decide_eq_false (not1 h8)) (C.sc _ _ (of_decide_eq_true h9) (by decide)) (C.loc h11).1 (C.loc h11).2 (Zw h12) (BV h12)
                                      fun xe pins po=>sSs b false k (X.tri xe pins) _ (C.tri pins po) bk (Ys b (fun c x S F=>⟨F.ex⟩) (fun x d F=>⟨F.ex⟩) on.2) h13
                          | _=>exact nfx h
                      | _=>exact nfx h
                  | _=>exact nfx h
            | _=>exact nfx h
    | _=>exact nfx h
  | .trn b c hs,rz,k,X,s,C,bk,on,h=>by
    replace h:(match (generalizing := false) s with
      | .Try body [.ExceptHandler (some (.Name cx _)) none (b0::hb) _] [] [] _=>k.top&&decide (c=cx)&&xNames.contains c&&k.gl c&&YI c&&isSs ⟨k.N,k.sc,k.top,false⟩ false hs (b0::hb)&&isSs k false b body
      | _=>false)=true:=h;split at h
    . rename_i body cx np b0 hb hp p;obtain⟨h,h9⟩:=and2 h;obtain⟨h,h8⟩:=and2 h;obtain⟨h,h5⟩:=and2 h;obtain⟨h,h4⟩:=and2 h;obtain⟨h,h3⟩:=and2 h;obtain⟨h1,h2⟩:=and2 h;obtain rfl:=of_decide_eq_true h2;obtain⟨Cc,hm,hc⟩:=Vj on.1;exact Fr (C.st h1) C.tab (by simpa using h3) hc hm (C.gl h4) (Zw h5)
        (fun xe pins po=>sSs b false k (X.tri xe pins) _ (C.tri pins po) bk (Ys b (fun c x S F=>⟨F.ex⟩) (fun x d F=>⟨F.ex⟩) on.2.1) h9)
        (fun e=>sSs hs false ⟨k.N,k.sc,k.top,false⟩ (X.hnd e) _ (C.hnd e) bk (Ys hs (fun c x S ⟨k',f',fd',ps',a1,a2,a3,a4,a5⟩=>⟨k',f',fd',ps',a1,a2,fun z=>(by cases z),a4,a5⟩) (fun x d F=>⟨F.ex⟩) on.2.2) h8)
    . exact nfx h
theorem sSs:∀ (c:CSs) (rz:Bool) (k:Ck) (X:Cx) (s:List Stmt),CtxOk X k->X.env.scope.kind=.function->onSs (FnAt X) (GloAt X) c->isSs k rz c s=true->PSs X s (Yk X rz (rSs c))
 | .nil,rz,k,X,s,C,bk,on,h=>by
  cases s with
  | nil=>exact Ch
  | cons _ _=>exact nfx h
 | .cons c r,rz,k,X,s,C,bk,on,h=>by
  cases s with
  | nil=>exact nfx h
  | cons x xs =>
   obtain⟨h1,h2⟩:=and2 (show (isS k rz c x&&isSs k rz r xs)=true from h);exact Ba (sS c rz k X _ C bk on.1 h1) (sSs r rz k X _ C bk on.2 h2)
end
section
variable (P:Program) (w:World) (K:Frag) (mg:Str->Option Value) (base:Heap)
structure FnE (k:Nat) (c x:Str) (S:DSp):Prop where
 ex:∃ f fd ps,FnOk P w K mg base (CXR P w) (k-ini c x) f fd ps (X1 K S)/\ini c x<=k/\RefAt K mg c x f/\Binds K fd ps []
structure GloE (x:Str) (d:D):Prop where
 ex:∃ u v,mg x=some u/\RelV v u/\∀ H,RelD K H v d
end
noncomputable def Y2 (n:Nat) (ds:List D):DSt:=ds.map some++List.replicate (n-ds.length) none
theorem Jv {K:Frag} {H:Hp} {N:List Str} {vs:List V} {ds:List D} (r:RelDs K H vs ds):Slots K H (Y2 N.length ds) (L2.start N vs):=by
 unfold Y2 L2.start;rw[<- r.length];refine Slots.more ⟨by simp[r.length],fun i d e=>?_⟩ _;rw[List.getElem?_map] at e;cases q:ds[i]? with
 | none=>rw [q] at e;cases e
 | some d' =>
  rw[q] at e;cases e;obtain⟨v,h1,h2⟩:=r.get q;exact⟨v,by rw[List.getElem?_map,h1];rfl,h2⟩
section
variable {P:Program} {w:World} {K:Frag} {mg:Str->Option Value} {base:Heap}
theorem FnE.mono {j k:Nat} {c x:Str} {S:DSp} (F:FnE P w K mg base j c x S) (h:j<=k):FnE P w K mg base k c x S:=by
 obtain⟨f,fd,ps,a,b,c,d⟩:=F.ex;exact⟨f,fd,ps,a.mono (Nat.sub_le_sub_right h _),Nat.le_trans b h,c,d⟩
theorem Bk {x qu:Str} {st:Stmt} {f:Addr} {fd:FuncData} {N ps:List Str} {k:Nat} {S:DSp} (cs:CSs) (F:Fun K x qu st f fd) (hB:Blt mg) (tab:Zn K=true) (Sc:FnScope N ps (Y0 st))
  (ck:isSs ⟨N,Y0 st,true,true⟩ true cs (Y1 st)=true) (on:onSs (FnE P w K mg base k) (GloE K mg) cs)
  (len:∀ ds M R E,S ds M R E->ds.length=ps.length)
  (vc:∀ ds M R E,S ds M R E->rSs cs {nx:=fun _ M'=>R .non M',rt:=R,ex:=fun _=>E} (Y2 N.length ds) M):FnOk P w K mg base (CXR P w) (k+1) f fd ps (X1 K S):=by
 obtain⟨oc,od,kV,doc,pm,an,cdv,ct,osl,rfl,lk,hcd⟩:=F.ex;refine IE lk hcd Sc (fun vs H Q E ⟨ds,M,R,Ed,r,_,h,_⟩=>by rw[r.length];exact len ds M R _ h) fun A outer s H vs Q E hr ⟨ds,M,R,Ed,r,rm,h,q,qe⟩=>?_;refine⟨Yk (cxOf (CXR P w) P w K mg base N qu (Y0 st) f cdv A outer s H E) true (rSs cs),?_,?_⟩
 ·refine sSs cs true ⟨N,Y0 st,true,true⟩ _ _ ⟨rfl,Sc.nd,fun x κ e _=>e,fun x e=>.inr e,fun _ _=>rfl,fun _=>rfl,fun _=>hr.mono (Nat.zero_le _),Nat.lt_of_le_of_lt (Nat.le_trans (Nat.add_le_add_left (by decide:66<=200) _) (Nat.add_le_add_right (Nat.le_add_right _ _) _)) hr.un,hB,PassesOwn.leaving,tab,fun _=>⟨rfl,rfl⟩⟩ Sc.kind ?_ ck
  exact Ys cs (fun _ x S ⟨f',fd',ps',a,b,c,d⟩=>⟨k,f',fd',ps',a,b,fun _=>hr,c,d⟩) (fun x d ⟨u,v,a,b,c⟩=>⟨u,v,a,b,c⟩) on
 ·exact⟨Y2 N.length ds,M,{nx:=fun _ M'=>R .non M',rt:=R,ex:=fun _=>Ed},⟨Jv r,A6 qe⟩,rm,vc ds M R Ed h,fun δ' M' σ' H' x _ m h'=>q _ _ _ _ x m .non h',fun d M' v H' x m rr h'=>q _ _ _ _ x m rr h',fun _ _ _ _ _ _ _ z=>z.elim,fun _ _ _ _ _ _ _ z=>z.elim⟩
theorem Y7 {x:Str} {st:Stmt} {f:Addr} {fd:FuncData} {N ps:List Str} {k:Nat} {S:DSp} (cs:CSs) (F:Fun K x x st f fd) (hm:mg x=some (.ref f)) (hb:Binds K fd ps []) (hB:Blt mg) (tab:Zn K=true) (Sc:FnScope N ps (Y0 st))
  (ck:isSs ⟨N,Y0 st,true,true⟩ true cs (Y1 st)=true) (on:onSs (FnE P w K mg base k) (GloE K mg) cs)
  (len:∀ ds M R E,S ds M R E->ds.length=ps.length)
  (vc:∀ ds M R E,S ds M R E->rSs cs {nx:=fun _ M'=>R .non M',rt:=R,ex:=fun _=>E} (Y2 N.length ds) M):FnE P w K mg base (k+1) "" x S :=
 ⟨f,fd,ps,by rw[ini0];exact Bk cs F hB tab Sc ck on len vc,by rw[ini0];exact Nat.zero_le _,⟨fun _=>⟨hm,F.kp⟩,fun z=>absurd rfl z⟩,hb⟩
theorem usS {n:Nat} {us:List Value} (h:us.length=n+1):∃ a r,us=a::r/\r.length=n:=by
 cases us with
 | nil=>exact absurd h (Nat.succ_ne_zero n).symm
 | cons a r=>exact⟨a,r,rfl,Nat.succ.inj h⟩
theorem us0 {us:List Value} (h:us.length=0):us=[]:=by
 cases us with
 | nil=>rfl
 | cons a r=>exact absurd h (Nat.succ_ne_zero _)
theorem us1 {us:List Value} (h:us.length=1):∃ a,us=[a]:=by
 obtain⟨a,r,rfl,g⟩:=usS h;obtain rfl:=us0 g;exact⟨a,rfl⟩
theorem us2 {us:List Value} (h:us.length=2):∃ a b,us=[a,b]:=by
 obtain⟨a,r,rfl,g⟩:=usS h;obtain⟨b,rfl⟩:=us1 g;exact⟨a,b,rfl⟩
theorem us3 {us:List Value} (h:us.length=3):∃ a b c,us=[a,b,c]:=by
 obtain⟨a,r,rfl,g⟩:=usS h;obtain⟨b,c,rfl⟩:=us2 g;exact⟨a,b,c,rfl⟩
theorem WN {n:Str} {C:Addr} {h:Heap} (X:K.In h) (G:h.Ns mainGlobals mg) (e:PySem.W.nsIn K mainGlobals n=some (some (.ref C))):GloE K mg n (.fn n) :=
 ⟨.ref C,.ref C,PySem.W.mg_of X G e,rfl,fun _=>.fn e⟩
theorem Xv {n:Str} {C:Addr} {h:Heap} {xs:List Str} {vs:List V} {ds:List D} {o:Obj} {es:Array DictEntry} {ep:Nat} {us:List Value} (X:K.In h) (G:h.Ns mainGlobals mg) (e:PySem.W.nsIn K mainGlobals n=some (some (.ref C))) (lo:(C==sysModules)=false) (lk:K.lookup C=some o) (ex:o.ExactDict) (hd:o.data=.dict es ep) (en:EntK es.toList xs us) (rv:Vals vs us) (r:∀ H,RelDs K H vs ds):GloE K mg n (.sd xs ds) :=
 ⟨.ref C,.ref C,PySem.W.mg_of X G e,rfl,fun H=>.sd ⟨lo,o,es,ep,us,lk,ex,hd,en,rv⟩ (r H)⟩
theorem Yg {n:Str} {C:Addr} {h:Heap} (X:K.In h) (G:h.Ns mainGlobals mg) (hn:n∈xNames) (e:PySem.W.nsIn K mainGlobals n=some (some (.ref C))):GloE K mg n (.cls n) :=
 ⟨.ref C,.ref C,PySem.W.mg_of X G e,rfl,fun _=>.cls hn e⟩
end
structure Script (ns:List Int):Prop where
 len:ns.length<=63
 bits:∀ n∈ns,Builtin.Int.intBits n<=1048576
noncomputable def SLaw:DSp:=fun ds M Q _=>∃ ns:List Int,ds=[.fz (ns.map .int)]/\Script ns/\∀ M',Q (.bl true) M'
theorem ZG:∀ {ns:List Int},PySem.W.WData.weightAll (ns.map PySem.W.WData.int)<=2 ^ 20->∀ n∈ns,Builtin.Int.intBits n<=1048576
 | n::r,h,m,hm=>by
  simp only[List.map_cons,PySem.W.WData.weightAll] at h;rcases List.mem_cons.mp hm with rfl|hm
  ·have e:Builtin.Int.intBits m=PySem.W.WData.weight (.int m):=by
    unfold Builtin.Int.intBits PySem.W.WData.weight
    rfl
   rw[e];omega
  ·exact ZG (by omega) m hm
theorem walkD {l:PySem.W.OpenLaw} {q:Program} {loose:List Str} {XP:(Str->Option Value)->Heap->Prop} {YP:World->Heap->Prop} {d:DefRec} {K:Params->Frag} {x:Str} {k:Nat} (hn:l.most=some 63) (hdf:d.params.defaults=[])
  (hr:Room k callerA) (hY:∀ (w:World) (h:Heap),YP w h->(K w.params).In h)
  (F:∀ (w:World) (mg:Str->Option Value) (fa:Addr) (h:Heap),(K w.params).In h->h.Ns mainGlobals mg->mg d.name=some (.ref fa) ->
   ∃ fd:FuncData,(∀ (s:Shared) (u:Value),BindsTo s fd ⟨[u],[]⟩ [(x,u)])/\∀ base:Heap,(K w.params).In base->base.Ns mainGlobals mg->FnOk l.prog w (K w.params) mg base (CXR l.prog w) k fa fd [x] (X1 (K w.params) SLaw)) :
  PySem.W.WalkO q loose XP YP l.row.toRowW d [] (fun f vs=>PySem.call f vs):=by
 intro w s₀ s₁ mg mb G Y fa o pm cd doc dV kV ho hd hcd hD hmg hg args vals as hpre hlay hrd hwl hlo;obtain rfl:dV=.none:=PySem.W.Dflts.none hD hdf;obtain rfl:kV=.none:=PySem.W.Dflts.noKw hD;obtain⟨a,vs,ns,rfl,rfl,hobj,hints,hlen⟩:=Att.script_of hn hpre hwl;have KX:=hY w _ Y;obtain⟨fd,hb,hF⟩:=F w mg fa _ KX G.T.g hmg;have hbits:∀ n∈ns,Builtin.Int.intBits n<=1048576:=by
  refine ZG ?_;simp only[PySem.W.WData.layableAll,List.all_cons,List.all_nil,Bool.and_true,PySem.W.WData.layable,Bool.and_eq_true,decide_eq_true_eq] at hlay;exact hlay.2
 refine PySem.W.enter_call (codeAny_mono (AM KX G.T.g G.T.b G.T.builtins G.T.nolimit hg hobj hints (Nat.le_trans hlen (by decide)) hr hF hb (fun H hO hS=>?_) fun H e s' ⟨_,_,_,_,_,_,z⟩=>z) fun r s' hq=>?_)
 ·have hf:SqF (K w.params) H a (ns.map V.int):=by
   rcases hS with (hS|⟨o,hS⟩)|hS
   ·rcases hO a with z|⟨o,xs,z⟩<;>rw[hS] at z<;>cases z
   ·exact .inl ⟨o,hS⟩
   ·exact .inr hS
  exact⟨[.fz (ns.map .int)],fun _=>none,fun d _=>d=.bl true,fun _ _=>False,.cons (.fz hf (.ints ns)) .nil,.nil,⟨ns,rfl,⟨hlen,hbits⟩,fun _=>rfl⟩,fun d' M' v H' _ _ r h=>by subst h;cases r;rfl,fun _ _ _ _ _ _ _ _ _ _ _ z=>z.elim⟩
 ·obtain⟨rfl,h2,h3,h4⟩:=hq
  exact⟨.inl ⟨.bool true,.bool true,[],rfl,fun _=>rfl,.bool true,Att.post_true l _,fun _=>⟨List.Pairwise.nil,fun _ hm=>(nomatch hm)⟩⟩,h2,h3,h4⟩
end DL
end
noncomputable section
namespace Q
theorem U2 {a b:Int} (h:b≠0):0<Int.gcd a b:=Int.gcd_pos_of_ne_zero_right _ h
theorem AI (a b:Int) (h:b≠0):a.fdiv (if b<0 then -(Int.gcd a b:Int) else Int.gcd a b)=(Rat.divInt a b).num/\b.fdiv (if b<0 then -(Int.gcd a b:Int) else Int.gcd a b)=((Rat.divInt a b).den:Int):=by
 have hg:=U2 (a:=a) h;obtain⟨x,hx⟩:(Int.gcd a b:Int) ∣ a:=Int.gcd_dvd_left ..;obtain⟨y,hy⟩:(Int.gcd a b:Int) ∣ b:=Int.gcd_dvd_right ..;have gc:Int.gcd b a=Int.gcd a b:=Int.gcd_comm b a;rw[Rat.num_divInt,Rat.den_divInt,if_neg h,gc];generalize hgg:Int.gcd a b=g at *;have g0:(g:Int)≠0:=by omega
 have hy0:y≠0:=fun z=>h (by rw[hy,z,Int.mul_zero]);by_cases hb:b<0
 ·rw[if_pos hb]
  have yneg:y<0:=by
   rcases Int.lt_trichotomy y 0 with z|z|z
   ·exact z
   ·exact absurd z hy0
   ·have:=Int.mul_pos (by omega:(0:Int)<g) z;omega
  have sb:b.sign=-1:=Int.sign_eq_neg_one_of_neg hb;have e1:a=(-(g:Int))*(-x):=by rw[Int.neg_mul_neg];exact hx
  have e2:b=(-(g:Int))*(-y):=by rw[Int.neg_mul_neg];exact hy
  have n0:(-(g:Int))≠0:=by omega
  constructor
  ·conv=>lhs;rw[e1]
   rw[Int.mul_fdiv_cancel_left _ n0,sb];have:(-1*a)=(g:Int)*(-x):=by rw[hx,Int.mul_neg];omega
   rw[this,Int.mul_ediv_cancel_left _ g0]
  ·conv=>lhs;rw[e2]
   rw[Int.mul_fdiv_cancel_left _ n0];have e3:b.natAbs=g*(-y).natAbs:=by rw[hy,Int.natAbs_mul];simp
   rw[e3,Nat.mul_div_cancel_left _ hg];omega
 ·rw[if_neg hb]
  have ypos:0<y:=by
   rcases Int.lt_trichotomy y 0 with z|z|z
   ·have:=Int.mul_neg_of_pos_of_neg (by omega:(0:Int)<g) z;omega
   ·exact absurd z hy0
   ·exact z
  have sb:b.sign=1:=Int.sign_eq_one_of_pos (by omega);constructor
  ·conv=>lhs;rw[hx]
   rw[Int.mul_fdiv_cancel_left _ g0,sb,Int.one_mul]
   conv=>rhs;rw[hx]
   rw[Int.mul_ediv_cancel_left _ g0]
  ·conv=>lhs;rw[hy]
   rw[Int.mul_fdiv_cancel_left _ g0];have e3:b.natAbs=g*y.natAbs:=by rw[hy,Int.natAbs_mul];simp
   rw[e3,Nat.mul_div_cancel_left _ hg];omega
theorem Yz (q:Rat):Rat.divInt q.num q.den=q:=Rat.num_divInt_den q
theorem AY (q:Rat):Int.gcd q.num q.den=1:=q.reduced
theorem den_pos (q:Rat):(0:Int)<q.den:=by have:=q.den_nz;omega
theorem Uz {a b:Int} (hb:1<=b) (hg:Int.gcd a b=1):(Rat.divInt a b).num=a/\((Rat.divInt a b).den:Int)=b:=by
 have gc:Int.gcd b a=1:=by rw[Int.gcd_comm];exact hg
 rw[Rat.num_divInt,Rat.den_divInt,if_neg (by omega),gc,Int.sign_eq_one_of_pos (by omega)];simp;omega
theorem UQ (p q:Rat):Rat.divInt (p.num*q.den+q.num*p.den) (p.den*q.den)=p+q:=by
 rw[<- Rat.divInt_add_divInt _ _ (by have:=p.den_nz;omega) (by have:=q.den_nz;omega),Yz,Yz]
theorem Ur (p q:Rat):Rat.divInt (p.num*q.den-q.num*p.den) (p.den*q.den)=p-q:=by
 rw[<- Rat.divInt_sub_divInt _ _ (by have:=p.den_nz;omega) (by have:=q.den_nz;omega),Yz,Yz]
theorem CT (p q:Rat):p.num*q.den<q.num*p.den ↔ p<q:=(Rat.lt_iff p q).symm
noncomputable def Sz (n:Nat) (q:Rat):Prop:=q.num.natAbs<2 ^ n/\q.den<2 ^ n
theorem Sz.mono {m n:Nat} {q:Rat} (h:Sz m q) (k:m<=n):Sz n q:=⟨Nat.lt_of_lt_of_le h.1 (Nat.pow_le_pow_right (by decide) k),Nat.lt_of_lt_of_le h.2 (Nat.pow_le_pow_right (by decide) k)⟩
theorem WR (a b:Int) (h:b≠0):(Rat.divInt a b).num.natAbs<=a.natAbs/\(Rat.divInt a b).den<=b.natAbs:=by
 rw[Rat.num_divInt,Rat.den_divInt,if_neg h];constructor
 ·have:(b.sign*a).natAbs<=a.natAbs:=by
   rw[Int.natAbs_mul];have:b.sign.natAbs<=1:=by rcases Int.lt_trichotomy b 0 with z|z|z<;>simp[Int.sign_eq_neg_one_of_neg,Int.sign_eq_one_of_pos,z]
   exact Nat.le_trans (Nat.mul_le_mul_right _ this) (by simp)
  exact Nat.le_trans (Int.natAbs_ediv_le_natAbs _ _) this
 ·exact Nat.div_le_self _ _
theorem Z5 {a b:Int} {n:Nat} (h:b≠0) (ha:a.natAbs<2 ^ n) (hb:b.natAbs<2 ^ n):Sz n (Rat.divInt a b) :=
 ⟨Nat.lt_of_le_of_lt (WR a b h).1 ha,Nat.lt_of_le_of_lt (WR a b h).2 hb⟩
theorem UB {a b m n:Nat} (ha:a<2 ^ m) (hb:b<2 ^ n):a*b<2 ^ (m+n):=by
 rw[Nat.pow_add];exact Nat.mul_lt_mul'' ha hb
theorem YW {a b:Int} {m n:Nat} (ha:a.natAbs<2 ^ m) (hb:b.natAbs<2 ^ n):(a*b).natAbs<2 ^ (m+n):=by
 rw[Int.natAbs_mul];exact UB ha hb
theorem CC {a b:Int} {n:Nat} (ha:a.natAbs<2 ^ n) (hb:b.natAbs<2 ^ n):(a+b).natAbs<2 ^ (n+1):=by
 have:=Int.natAbs_add_le a b;rw[Nat.pow_succ];omega
theorem CB {a b:Int} {n:Nat} (ha:a.natAbs<2 ^ n) (hb:b.natAbs<2 ^ n):(a-b).natAbs<2 ^ (n+1):=by
 have:=Int.natAbs_sub_le a b;rw[Nat.pow_succ];omega
theorem Yi {n:Nat} {q:Rat} (h:Sz n q):(q.den:Int).natAbs<2 ^ n:=by simpa using h.2
theorem Xy (p q:Rat):(p.den:Int)*q.den≠0:=by
 have:=den_pos p;have:=den_pos q;exact Int.ne_of_gt (Int.mul_pos (by omega) (by omega))
theorem Sz.add {m n:Nat} {p q:Rat} (hp:Sz m p) (hq:Sz n q):Sz (m+n+1) (p+q):=by
 rw[<- UQ];refine Z5 (Xy p q) (CC (YW hp.1 (Yi hq)) ?_) (Nat.lt_of_lt_of_le (YW (Yi hp) (Yi hq)) (Nat.pow_le_pow_right (by decide) (by omega)));rw[Nat.add_comm];exact YW hq.1 (Yi hp)
theorem Sz.sub {m n:Nat} {p q:Rat} (hp:Sz m p) (hq:Sz n q):Sz (m+n+1) (p-q):=by
 rw[<- Ur];refine Z5 (Xy p q) (CB (YW hp.1 (Yi hq)) ?_) (Nat.lt_of_lt_of_le (YW (Yi hp) (Yi hq)) (Nat.pow_le_pow_right (by decide) (by omega)));rw[Nat.add_comm];exact YW hq.1 (Yi hp)
end Q
end
noncomputable section
namespace Q
theorem HV (d:Nat->Rat) (n:Nat) (h:∀ k,0<k->k<n->0<d k->d k-d (k-1)<=d (k+1)-d k):∀ m i,n-i=m->0<i->i<=n->0<d i->0<d i-d (i-1)->0<d n:=by
 intro m
 induction m with
 | zero =>
  intro i e h0 h1 h2 _;have:i=n:=by omega
  subst this;exact h2
 | succ m ih =>
  intro i e h0 h1 h2 h3;have hi:i<n:=by omega
  have:=h i h0 hi h2;refine ih (i+1) (by omega) (by omega) (by omega) (by grind) ?_;rw[Nat.add_sub_cancel];grind
theorem FR (d:Nat->Rat) (h0:d 0<=0):∀ k,0<d k->∃ i,0<i/\i<=k/\0<d i/\0<d i-d (i-1):=by
 intro k
 induction k with
 | zero=>intro h;grind
 | succ k ih =>
  intro h;by_cases hk:0<d k
  ·obtain⟨i,a,b,c,e⟩:=ih hk
   exact⟨i,a,by omega,c,e⟩
  ·exact⟨k+1,by omega,by omega,h,by rw[Nat.add_sub_cancel];grind⟩
theorem maxp (d:Nat->Rat) (n:Nat) (h0:d 0<=0) (hn:d n<=0) (h:∀ k,0<k->k<n->0<d k->d k-d (k-1)<=d (k+1)-d k):∀ k,k<=n->d k<=0:=by
 intro k hk;by_cases hd:0<d k
 ·obtain⟨i,a,b,c,e⟩:=FR d h0 k hd
  have:=HV d n h (n-i) i rfl a (by omega) c e;grind
 ·grind
structure Taut (lo hi r:Nat->Rat) (n:Nat):Prop where
 low:∀ k,k<=n->lo k<=r k
 high:∀ k,k<=n->r k<=hi k
 up:∀ k,0<k->k<n->r k-r (k-1)<r (k+1)-r k->r k=hi k
 down:∀ k,0<k->k<n->r (k+1)-r k<r k-r (k-1)->r k=lo k
theorem Taut.le {lo hi r lo' hi' r':Nat->Rat} {n:Nat} (a:Taut lo hi r n) (b:Taut lo' hi' r' n) (hl:∀ k,k<=n->lo k<=lo' k) (hh:∀ k,k<=n->hi k<=hi' k) (h0:r 0<=r' 0) (hn:r n<=r' n):∀ k,k<=n->r k<=r' k:=by
 intro k hk;have:=maxp (fun k=>r k-r' k) n (by grind) (by grind) (fun k k0 kn hd=>?_) k hk
 ·grind
 ·have l1:=hl k (by omega);have l2:=hh k (by omega);have l3:=b.low k (by omega);have l4:=a.high k (by omega);have l5:=a.low k (by omega);have l6:=b.high k (by omega)
  have u:=b.up k k0 kn;have d:=a.down k k0 kn;by_cases h1:r (k+1)-r k<r k-r (k-1)
  ·have:=d h1;grind
  ·by_cases h2:r' k-r' (k-1)<r' (k+1)-r' k
   ·have:=u h2;grind
   ·grind
theorem Taut.unique {lo hi r r':Nat->Rat} {n:Nat} (a:Taut lo hi r n) (b:Taut lo hi r' n) (h0:r 0=r' 0) (hn:r n=r' n):∀ k,k<=n->r k=r' k:=by
 intro k hk;have x:=a.le b (fun _ _=>by grind) (fun _ _=>by grind) (by grind) (by grind) k hk;have y:=b.le a (fun _ _=>by grind) (fun _ _=>by grind) (by grind) (by grind) k hk;grind
noncomputable def line (b:Nat) (h s:Rat) (t:Nat):Rat:=h+s*((t:Rat)-(b:Rat))
structure Free (lo hi:Nat->Rat) (b:Nat) (h s:Rat) (e:Nat):Prop where
 low:∀ t,b<t->t<e->lo t<=line b h s t
 high:∀ t,b<t->t<e->line b h s t<=hi t
inductive Seg (lo hi:Nat->Rat) (n b:Nat) (h s:Rat) (p:Nat):Prop
 | up (at_:Nat) (hb:b<p) (hp:p<at_) (hn:at_<=n) (f:Free lo hi b h s at_) (t:line b h s p=hi p) (g:∀ t,p<t->t<at_->line b h s t<hi t) (z:line b h s at_<lo at_)
 | down (at_:Nat) (hb:b<p) (hp:p<at_) (hn:at_<=n) (f:Free lo hi b h s at_) (t:line b h s p=lo p) (g:∀ t,p<t->t<at_->lo t<line b h s t) (z:hi at_<line b h s at_)
 | fin (hb:b<p) (hp:p=n) (f:Free lo hi b h s (n+1))
structure Drawn (lo hi r:Nat->Rat) (n b:Nat):Prop where
 le:b<=n
 low:∀ k,k<=b->lo k<=r k
 high:∀ k,k<=b->r k<=hi k
 up:∀ k,0<k->k<b->r k-r (k-1)<r (k+1)-r k->r k=hi k
 down:∀ k,0<k->k<b->r (k+1)-r k<r k-r (k-1)->r k=lo k
 pend:b=0\/b=n\/∃ a h s,a<b/\r b-r (b-1)=s/\r b=line a h s b/\Seg lo hi n a h s b
end Q
end
noncomputable section
namespace Q
abbrev Fall (v:List Rat):Prop:=v.Pairwise fun a b=>b<=a
theorem Wh:∀ {u v:List Rat},u.Perm v->Fall u->Fall v->u=v
 | [],v,p,_,_=>by rw[List.nil_perm.mp p]
 | a::u,[],p,_,_=>by have:=p.length_eq;simp at this
 | a::u,b::v,p,hu,hv=>by
  have h1:b<=a:=by
   rcases List.mem_cons.mp (p.symm.subset (List.mem_cons_self:b∈b::v)) with h|h
   ·rw[h];exact Rat.le_refl
   ·exact (List.pairwise_cons.mp hu).1 b h
  have h2:a<=b:=by
   rcases List.mem_cons.mp (p.subset (List.mem_cons_self:a∈a::u)) with h|h
   ·rw[h];exact Rat.le_refl
   ·exact (List.pairwise_cons.mp hv).1 a h
  have e:a=b:=Rat.le_antisymm h2 h1;subst e;rw[Wh (List.Perm.cons_inv p) (List.pairwise_cons.mp hu).2 (List.pairwise_cons.mp hv).2]
noncomputable def srt (s:List Rat):List Rat:=s.mergeSort fun a b=>decide (b<=a)
theorem VG (s:List Rat):Fall (srt s):=by
 have:=List.pairwise_mergeSort (le:=fun a b:Rat=>decide (b<=a)) (fun a b c h1 h2=>by
  simp only[decide_eq_true_eq] at *;exact Rat.le_trans h2 h1) (fun a b=>by
  simp only[Bool.or_eq_true,decide_eq_true_eq];exact Rat.le_total) s
 exact this.imp fun h=>by simpa using h
theorem Zo (s:List Rat):(srt s).Perm s:=List.mergeSort_perm s _
theorem Us {s v:List Rat} (p:v.Perm s) (h:Fall v):v=srt s:=Wh (p.trans (Zo s).symm) h (VG s)
theorem B3 {u v:List Rat} {x:Rat} (h:Fall (u++v)) (hu:∀ a∈u,x<=a) (hv:∀ a∈v,a<=x):Fall (u++x::v):=by
 obtain⟨h1,h2,h3⟩:=List.pairwise_append.mp h;refine List.pairwise_append.mpr ⟨h1,List.pairwise_cons.mpr ⟨hv,h2⟩,fun a ha b hb=>?_⟩;rcases List.mem_cons.mp hb with rfl|hb
 ·exact hu a ha
 ·exact h3 a ha b hb
noncomputable def tot (s:List Rat):Rat:=s.foldl (·+·) 0
theorem JR (s:List Rat):∀ q:Rat,s.foldl (·+·) q=q+tot s:=by
 induction s with
 | nil=>intro q;unfold tot;simp;grind
 | cons a s ih=>intro q;unfold tot;simp only[List.foldl_cons];rw[ih,ih];grind
theorem Z8 (a:Rat) (s:List Rat):tot (a::s)=a+tot s:=by
 unfold tot;simp only[List.foldl_cons];rw[JR];unfold tot;grind
theorem Um (s t:List Rat):tot (s++t)=tot s+tot t:=by
 induction s with
 | nil=>unfold tot;simp;grind
 | cons a s ih=>rw [List.cons_append,Z8,Z8,ih];grind
noncomputable def YT (q:Rat):List Rat->List Rat
 | []=>[]
 | a::s=>(q+a)::YT (q+a) s
theorem Xf (t:List Rat):∀ (q:Rat) (s:List Rat),YT q (s++t)=YT q s++YT (q+tot s) t
 | q,[]=>by show YT q t=[]++YT (q+0) t;rw[Rat.add_zero];rfl
 | q,a::s=>by
  show (q+a)::YT (q+a) (s++t)=(q+a)::YT (q+a) s++_;rw[Xf t (q+a) s,Z8];rw[show q+a+tot s=q+(a+tot s) by grind]
  rfl
theorem ZS:∀ (q:Rat) (s:List Rat),(YT q s).length=s.length
 | _,[]=>rfl
 | q,a::s=>by show (YT (q+a) s).length+1=_;rw[ZS];rfl
theorem WL (s:List Rat) (a:Rat):YT 0 (s++[a])=YT 0 s++[tot s+a]:=by
 rw[Xf];show _++[0+tot s+a]=_;rw[Rat.zero_add]
theorem V5 (s:List Rat) (a:Rat):tot (s++[a])=tot s+a:=by
 rw[Um,Z8];unfold tot;simp;grind
end Q
end
noncomputable section
namespace Q
theorem tri (a b:Rat):a<b\/a=b\/b<a:=by
 by_cases h:a<b
 ·exact .inl h
 ·by_cases h2:b<a
  ·exact .inr (.inr h2)
  ·exact .inr (.inl (by grind))
noncomputable def fs (f:Rat->Rat) (r:Nat->Rat):Nat->Rat
 | 0=>0
 | m+1=>fs f r m+f (r (m+1)-r m)
end Q
end
noncomputable section
namespace K
open PySem DL
abbrev F0:DK:=fun _ _=>False
abbrev ends (R E:DK):DEnds:={nx:=fun _ M'=>R .non M',rt:=R,ex:=fun _=>E}
theorem U3 {g:(DSt->DK)->DG} {tb:DS} {keep:Mem->Prop} {D:DEnds} (I:DSt->Mem->Prop) (hk:∀ δ M,I δ M->keep M) (he:∀ δ M,I δ M->D.nx δ M):∀ {items:List DL.D},
  (∀ x∈items,∀ N:DSt->Mem->Prop,(∀ δ M,I δ M->N δ M)->∀ δ M,I δ M->g D.ex x δ M fun δ1 M1=>tb {D with nx:=N,ct:=N,bk:=D.nx} δ1 M1)->∀ {δ M},I δ M->forD g tb keep items D δ M
 | [],_,δ,M,i=>he δ M i
 | x::xs,h,δ,M,i=>by
  unfold forD;exact h x List.mem_cons_self _ (fun δ' M' i'=>⟨hk δ' M' i',U3 I hk he (fun y hy=>h y (List.mem_cons_of_mem _ hy)) i'⟩) δ M i
theorem YL {g:(DSt->DK)->DG} {tb:DS} {keep:Mem->Prop} {D:DEnds}:∀ {items:List DL.D} (I:Nat->DSt->Mem->Prop),(∀ i δ M,I i δ M->keep M)->(∀ δ M,I items.length δ M->D.nx δ M) ->
  (∀ i x,items[i]?=some x->∀ N:DSt->Mem->Prop,(∀ δ M,I (i+1) δ M->N δ M)->∀ δ M,I i δ M->g D.ex x δ M fun δ1 M1=>tb {D with nx:=N,ct:=N,bk:=D.nx} δ1 M1)->∀ {δ M},I 0 δ M->forD g tb keep items D δ M
 | [],I,hk,he,ht,δ,M,h0=>he δ M h0
 | x::xs,I,hk,he,ht,δ,M,h0=>by
  unfold forD;exact ht 0 x rfl _ (fun δ' M' i'=>⟨hk _ δ' M' i',YL (fun i=>I (i+1)) (fun i=>hk (i+1)) he (fun i y hy N hN=>ht (i+1) y (by simpa using hy) N hN) i'⟩) δ M h0
theorem XT {lo c:Int} {n i:Nat} {x:DL.D} (h:(rngD lo c n)[i]?=some x):x=.int (lo+i*c)/\i<n:=by
 unfold rngD at h;rw[List.getElem?_map] at h;cases q:(List.range n)[i]? with
 | none=>rw [q] at h;cases h
 | some j =>
  obtain⟨h1,h2⟩:=List.getElem?_eq_some_iff.mp q;rw[q] at h;cases h;simp at h1 h2;subst h2;exact⟨rfl,h1⟩
theorem ZJ {lo c:Int} {n:Nat}:(rngD lo c n).length=n:=by simp[rngD]
theorem Wl {g:DG} {te:DE} {keep:Mem->Prop} {p:Addr} {Q:Mem->Prop} {M0:Mem} (f:DL.D->DL.D) (I:DSt->Prop) (h0:M0 p=none) (hk:∀ M,MExt M0 M->keep M) :
  ∀ {items acc:List DL.D},(∀ x∈items,∀ δ M (R:DSt->DK),I δ->MExt M0 M->(∀ δ1 M',I δ1->MExt M M'->R δ1 (f x) M')->g x δ M fun δ1 M1=>te δ1 M1 fun d M2=>R δ1 d M2) ->
  (acc++items.map f).length<=1000->(∀ M',MExt M0 M'->M' p=some (.ls (acc++items.map f))->Q M')->∀ {δ M},I δ->MExt M0 M->M p=some (.ls acc)->Z0 g te keep p items acc δ M Q
 | [],acc,_,_,q,δ,M,i,e,l=>by unfold Z0;exact q M e (by simpa using l)
 | x::xs,acc,h,hz,q,δ,M,i,e,l=>by
  unfold Z0;refine h x List.mem_cons_self δ M (fun δ1 d M2=>M2 p=some (.ls acc)/\acc.length<sizeLine/\keep (M2.upd p (.ls (acc++[d])))/\Z0 g te keep p xs (acc++[d]) δ1 (M2.upd p (.ls (acc++[d]))) Q) i e fun δ1 M' i' e'=>?_;have e2:MExt M0 (M'.upd p (.ls (acc++[f x]))):=fun a o z=>by
   have:a≠p:=fun q=>by rw[q,h0] at z;cases z
   rw[Yv this];exact e' _ _ (e _ _ z)
  refine⟨e' _ _ l,?_,hk _ e2,Wl f I h0 hk (fun y hy=>h y (List.mem_cons_of_mem _ hy)) (by simpa using hz) (fun M2 e3 l3=>q M2 e3 (by simpa using l3)) i' e2 Y5⟩;rw[sizeLine_eq];simp at hz;omega
theorem MExt.none {M M':Mem} (e:MExt M M') {p:Addr} (h:M' p=Option.none):M p=Option.none:=by
 cases q:M p with
 | none=>rfl
 | some o=>rw [e _ _ q] at h;cases h
theorem YG {α:Type} (x:α) (l:List α):L2.atI (x::l) 0=some x:=L2.atI_nat (j:=0) rfl
theorem W0 {k:Int} {n:Nat} (h:k.natAbs<2 ^ n):Builtin.Int.intBits k<=n:=by
 unfold Builtin.Int.intBits;split
 ·exact Nat.zero_le _
 ·rename_i h0
  have hp:k.natAbs≠0:=by intro z;apply h0;simp;omega
  have:=(Nat.log2_lt hp).mpr h;omega
theorem YS {a b:Int} {m n:Nat} (ha:a.natAbs<2 ^ m) (hb:b.natAbs<2 ^ n) (h:m+n<=134217728):IntMulOk a b:=IntMulOk.of_le (W0 ha) (W0 hb) h
theorem YZ {j:Int} (h:j≠0) (hj:j.natAbs<2 ^ 8000):V3 j:=⟨h,by
 have:j.natAbs≠0:=by omega
 have:=(Nat.log2_lt this).mpr hj;omega⟩
theorem U1 {x y:Int} (h0:0<=x) (h1:0<y):Int.gcd y (x.fmod y)=Int.gcd x y:=by
 obtain⟨n,rfl⟩:=Int.eq_ofNat_of_zero_le h0;obtain⟨m,rfl⟩:=Int.eq_ofNat_of_zero_le (Int.le_of_lt h1);rw[Int.fmod_eq_emod_of_nonneg _ (Int.le_of_lt h1)];show Nat.gcd m (((n:Int) % (m:Int)).natAbs)=Nat.gcd n m;have:((n:Int) % (m:Int)).natAbs=n % m:=by
  rw[<- Int.natCast_emod];rfl
 rw[this,Nat.gcd_comm n m,Nat.gcd_comm m (n % m)];exact (Nat.gcd_rec m n).symm
theorem Ja (a b:Int):Int.gcd (if a<0 then -a else a) (if b<0 then -b else b)=Int.gcd a b:=by
 unfold Int.gcd
 congr 1<;>split<;>omega
theorem Yx {x y:Int} (h:0<y):0<=x.fmod y/\x.fmod y<y:=by
 rw[Int.fmod_eq_emod_of_nonneg _ (Int.le_of_lt h)];exact⟨Int.emod_nonneg _ (by omega),Int.emod_lt_of_pos _ h⟩
theorem Yb {s:CS} {r:CSs} {D:DEnds} {δ:DSt} {M:Mem}:rSs (.cons s r) D δ M=rS s {D with nx:=rSs r D} δ M:=rfl
theorem Yl {D:DEnds} {δ:DSt} {M:Mem}:rSs .nil D δ M=D.nx δ M:=rfl
theorem YA {M:Mem} {Q:DK} {i j:Int} (neg:Bool) (h:Q (.bl (if neg then !(i==j) else (i==j))) M):cEq neg (.int i) (.int j) M Q:=⟨_,_,.int i,.int j,by simp[PyData.depth],h⟩
noncomputable def S_1:DSp:=fun ds M Q _=>∃ a b:Int,ds=[.int a,.int b]/\Q (.int (Int.gcd a b)) M
noncomputable def C_1:CSs:=%[.par 0 1 (.bi .abs %[.var 0|0]) (.bi .abs %[.var 1|0]),.whl (.var 1) %[.par 0 1 (.var 1) (.bin .Mod (.var 0) (.var 1))|0],.ret (.var 0)|0]
theorem vc_1:∀ ds M R E,S_1 ds M R E->rSs C_1 (ends R E) (Y2 2 ds) M:=by
 rintro ds M R E ⟨a,b,rfl,h⟩;simp[0,C_1,rSs,Yr,vAt,vHd,Yc,Yo,Yu,YQ,dFor,YR,bMul,bAdd,iOp,sOp,fLen,Ye,Ym,fIsi,fAll,fAny,Yq,and_assoc,sizeLine_eq];refine⟨fun m δ M'=>∃ x y:Int,δ=[some (.int x),some (.int y)]/\M'=M/\0<=x/\0<=y/\Int.gcd x y=Int.gcd a b/\m=y.toNat,⟨_,_,_,rfl,rfl,?_,?_,?_,rfl⟩,?_⟩
 ·split<;>omega
 ·split<;>omega
 ·exact Ja a b
 ·rintro m δ M' ⟨x,y,rfl,rfl,h0,h1,hg,rfl⟩
  simp[0,rSs,Yr,vAt,vHd,Yc,Yo,Yu,YQ,dFor,YR,bMul,bAdd,iOp,sOp,fLen,Ye,Ym,fIsi,fAll,fAny,Yq,and_assoc,sizeLine_eq];by_cases hy:y=0
  ·subst hy
   rw[if_pos rfl];rw[<- hg] at h;have e:((x.gcd 0:Nat):Int)=x:=by unfold Int.gcd;simp;omega
   rw[e] at h;exact h
  ·rw[if_neg hy]
   have yp:0<y:=by omega
   refine⟨fun δ' M1=>δ'=[some (.int y),some (.int (x.fmod y))]/\M1=M',?_,hy,rfl,rfl⟩;rintro δ' M1 ⟨rfl,rfl⟩;have:=Yx (x:=x) yp;exact⟨(x.fmod y).toNat,by omega,y,_,rfl,rfl,h1,this.1,by rw[U1 h0 yp];exact hg,rfl⟩
noncomputable def S_27:DSp:=fun ds M Q _=>∃ c:Int,ds=[.int c]/\Builtin.Int.intBits c<=2000000/\∀ r:Int,0<=r->r<10 ^ 60->Q (.int r) M
noncomputable def C_27:CSs:=%[.ret (.bin .Mod (.bin .Mult (.var 0) (.int 915965594177219015054603514932384110774149374281672134266497)) (.bin .Pow (.int 10) (.int 60)))|0]
theorem GH:∀ ds M R E,S_27 ds M R E->rSs C_27 (ends R E) (Y2 1 ds) M:=by
 rintro ds M R E ⟨c,rfl,hb,h⟩;simp[0,C_27,rSs,Yr,vAt,vHd,Yc,Yo,Yu,YQ,dFor,YR,bMul,bAdd,iOp,sOp,fLen,Ye,Ym,fIsi,fAll,fAny,Yq,and_assoc,sizeLine_eq];exact⟨IntMulOk.of_le hb (W0 (n:=300) (by decide)) (by decide),⟨by decide,by decide,by decide⟩,h _ (Yx (by decide)).1 (Yx (by decide)).2⟩
noncomputable def S_29:DSp:=fun ds M Q _=>∃ a n v,ds=[.lst a,.int n]/\M a=some (.ls [.int v])/\0<n/\n.natAbs<2 ^ 8000/\∀ r v':Int,0<=r->r<n->Q (.int r) (M.upd a (.ls [.int v']))
noncomputable def C_29:CSs:=%[.asg (.tup %[.sub (.var 0) (.int 0),.name 2|0]) (.bi .divmod %[.ix (.var 0) (.int 0),.var 1|0]),.ret (.var 2)|0]
theorem GF:∀ ds M R E,S_29 ds M R E->rSs C_29 (ends R E) (Y2 3 ds) M:=by
 rintro ds M R E ⟨a,n,v,rfl,ha,hn,hn2,h⟩;simp[0,C_29,rSs,Yr,vAt,vHd,Yc,Yo,Yu,YQ,dFor,YR,bMul,bAdd,iOp,sOp,fLen,Ye,Ym,fIsi,fAll,fAny,Yq,and_assoc,sizeLine_eq];refine⟨_,ha,.int v,rfl,?_⟩;have f:=Yx (x:=v) hn;simp[0,rSs,Yr,vAt,vHd,Yc,Yo,Yu,YQ,dFor,YR,bMul,bAdd,iOp,sOp,fLen,Ye,Ym,fIsi,fAll,fAny,Yq,and_assoc,sizeLine_eq];exact⟨YZ (by omega) hn2,_,ha,0,rfl,h _ _ f.1 f.2⟩
theorem Cv {α:Type} {xs:List α} {lo hi:Option Int} {x:α} (h:x∈cutG xs lo hi):x∈xs:=List.mem_of_mem_drop (List.mem_of_mem_take h)
theorem Vo {α:Type} (xs:List α) (lo hi:Option Int):(cutG xs lo hi).length<=xs.length:=by
 unfold cutG;rw[List.length_take,List.length_drop];omega
theorem JZ (ns:List Int) (lo hi:Option Int) (e:Int):∃ c,L2.atI (cutG (ns.map D.int) lo hi++[D.int e]) 0=some (.int c)/\(c∈ns\/c=e):=by
 cases q:cutG (ns.map D.int) lo hi with
 | nil=>exact⟨e,rfl,.inr rfl⟩
 | cons x r =>
  have:x∈ns.map D.int:=Cv (lo:=lo) (hi:=hi) (by rw[q];exact List.mem_cons_self);obtain⟨c,hc,rfl⟩:=List.mem_map.mp this;exact⟨c,YG _ _,.inl hc⟩
theorem VP (x:DL.D):[x].length<=sizeLine:=by rw[sizeLine_eq];exact (by decide:1<=16777216)
theorem Ac (x y:DL.D):[x,y].length<=sizeLine:=by rw[sizeLine_eq];exact (by decide:2<=16777216)
theorem mulI {i j:Int} {M:Mem} {Q:DK} (a:IntMulOk i j) (q:Q (.int (i*j)) M):bMul (.int i) (.int j) M Q:=⟨a,q⟩
theorem addI {i j:Int} {M:Mem} {Q:DK} (q:Q (.int (i+j)) M):bAdd (.int i) (.int j) M Q:=q
noncomputable def S_28:DSp:=fun ds M Q _=>∃ (ns:List Int) (k:Int),ds=[.fz (ns.map .int),.int k]/\Script ns/\0<=k/\k<=1000/\∀ (v:Int) p M',M p=none->MExt M M'->M' p=some (.ls [.int v])->Q (.lst p) M'
noncomputable def C_28:CSs:=%[.set 2 (.int 0),.fr (.name 3) (.seq (.lst %[.bin .Add (.var 1) (.int 1),.var 1|0])) %[.set 2 (.bin .Add (.bin .Mult (.var 2) (.bin .Pow (.int 10) (.int 60))) (.call "_law_mixed" S_27 %[.ix (.bin .Add (.sl (.var 0) (.some (.var 3)) (.some (.bin .Add (.var 3) (.int 1)))) (.lst %[.bin .Add (.bin .Mult (.int 7907) (.var 3)) (.int 53)|0])) (.int 0)|0]))|0],.ret (.lst %[.var 2|0])|0]
theorem GG:∀ ds M R E,S_28 ds M R E->rSs C_28 (ends R E) (Y2 4 ds) M:=by
 rintro ds M R E ⟨ns,k,rfl,hs,h0,h1,h⟩;have turn:∀ (t found:Int) (M:Mem) (Q:DK),0<=t->t<=1001->found.natAbs<2 ^ 1000->(∀ v M',MExt M M'->v.natAbs<(found.natAbs+1)*10 ^ 60->Q (.int v) M') ->
   d2 bAdd (d2 bMul (dVar 2) (d2 (bInt L2.CPow fun i j=>i ^ j.toNat) (dC (D.int 10)) (dC (D.int 60))))
    (Zr S_27 (fun _=>E) (YK (d2 iOp (d2 bAdd (dSl (dVar 0) (WS (dVar 3)) (WS (d2 bAdd (dVar 3) (dC (D.int 1))))) (dLst (YK (d2 bAdd (d2 bMul (dC (D.int 7907)) (dVar 3)) (dC (D.int 53))) dNil))) (dC (D.int 0))) dNil))
    [some (.fz (ns.map D.int)),some (.int k),some (.int found),some (.int t)] M Q:=by
  intro t found M Q h0 h1 hf hN;dsimp only[d2,dVar,vAt,vHd,dC,Zr,YK,dNil,dLst,dSl,WS];refine⟨⟨by decide,by decide,by decide⟩,mulI (YS hf (n:=300) (by decide) (by decide)) ⟨_,rfl,addI ⟨_,rfl,fun p1 M1 e1 x1 l1=>mulI (YS (m:=64) (n:=64) (by decide) (by omega) (by decide)) (addI ⟨VP _,fun p2 M2 e2 x2 l2=>⟨_,_,x2 _ _ l1,l2,?_,fun p3 M3 e3 x3 l3=>?_⟩⟩)⟩⟩⟩
  ·have:=Vo (ns.map D.int) (some t) (some (t+1))
   rw[List.length_map] at this;have:=hs.len;rw[sizeLine_eq];show _+1<=_;omega
  obtain⟨c,hc,hm⟩:=JZ ns (some t) (some (t+1)) (7907*t+53);refine⟨_,_,l3,hc,c,rfl,?_,fun r r0 r1=>addI ?_⟩
  ·rcases hm with hm|hm
   ·exact Nat.le_trans (hs.bits c hm) (by decide)
   ·subst hm;exact Nat.le_trans (W0 (n:=64) (by omega)) (by decide)
  ·refine hN _ M3 (x1.trans (x2.trans x3)) ?_
   have a1:=Int.natAbs_add_le (found*1000000000000000000000000000000000000000000000000000000000000) r;rw[Int.natAbs_mul] at a1;have a2:r.natAbs<10 ^ 60:=by omega
   have a3:(1000000000000000000000000000000000000000000000000000000000000:Int).natAbs=10 ^ 60:=by decide
   rw[a3] at a1;rw[Nat.add_mul,Nat.one_mul];exact Nat.lt_of_le_of_lt a1 (by omega)
 unfold C_28;dsimp only[rSs,rS,rE,rEs,rG,rGs,rI,DL.plain,dSeq,dRet,dAsg,dFor,Z1,Yu,Zr,YK,dNil,dLst,dVar,vAt,vHd,List.map,List.length_cons,List.length_nil,Nat.reduceAdd,Nat.reduceSub,List.replicate_succ,List.replicate_zero,List.cons_append,List.nil_append,List.set_cons_succ,List.set_cons_zero,dC,d2,bOp,Y2,Ji,dSl];refine addI ⟨Ac (.int 0) (.int 0),fun p0 M0 e0 x0 l0=>⟨_,l0,?_⟩⟩;dsimp only[forD,Z1,dSeq,dAsg,Ji,rO];refine turn (k+1) 0 M0 _ (by omega) (by omega) (by decide) fun v1 M1 x1 b1=>?_;refine⟨x1 _ _ l0,?_⟩;refine turn k v1 M1 _ (by omega) (by omega) (Nat.lt_of_lt_of_le b1 (by decide)) fun v2 M2 x2 b2=>?_;refine⟨x2 _ _ (x1 _ _ l0),?_⟩;dsimp only[dRet,dLst,YK,dNil,dVar,List.set_cons_succ,List.set_cons_zero,vAt,vHd];refine⟨VP _,fun p M' e x l=>?_⟩;exact h v2 p M' (K.MExt.none (x0.trans (x1.trans x2)) e) (x0.trans (x1.trans (x2.trans x))) l
end K
end
open PySem DL Q K
set_option bootstrap.genMatcherCode true
local macro_rules
 | `(tactic| sleep 1)=>`(tactic| ((try dsimp only);rw[Yb];sleep 2))
 | `(tactic| sleep 2)=>`(tactic| ((try dsimp only[0,Yr,vAt,vHd,List.set_cons_succ,List.set_cons_zero,List.cons_append,List.nil_append,List.map,List.length_cons,List.length_nil,Nat.reduceAdd,Nat.reduceSub,List.replicate_succ,List.replicate_zero,Yc,Yo,bMul,bAdd,sOp,Ye,Ym,fIsi,Yq]);try simp[0,Yr,vAt,vHd,Yc,Yo,bMul,bAdd,sOp,Ye,Ym,fIsi,Yq,and_assoc,sizeLine_eq,Yl]))
 | `(tactic| sleep 3)=>`(tactic| ((try dsimp only);rw[Yb];(try dsimp only[0,Yr,vAt,vHd,List.set_cons_succ,List.set_cons_zero,List.cons_append,List.nil_append,List.map,List.length_cons,List.length_nil,Nat.reduceAdd,Nat.reduceSub,List.replicate_succ,List.replicate_zero,Yc,Yo,bMul,bAdd,sOp,Ye,Ym,fIsi,Yq,dFor,YQ,Yu,fLen]);try simp[0,Yr,vAt,vHd,Yc,Yo,bMul,bAdd,sOp,Ye,Ym,fIsi,Yq,and_assoc,sizeLine_eq,Yl,dFor,YQ,Yu,fLen]))
 | `(tactic| sleep 5)=>`(tactic| ((try dsimp only[0,rSs,Yr,vAt,vHd,List.set_cons_succ,List.set_cons_zero,List.cons_append,List.nil_append,List.map,List.length_cons,List.length_nil,Nat.reduceAdd,Nat.reduceSub,List.replicate_succ,List.replicate_zero,Yc,Yo,Yu,YQ,dFor,YR,bMul,bAdd,iOp,sOp,fLen,Ye,Ym,fIsi,fAll,fAny,Yq]);try simp[0,rSs,Yr,vAt,vHd,Yc,Yo,Yu,YQ,dFor,YR,bMul,bAdd,iOp,sOp,fLen,Ye,Ym,fIsi,fAll,fAny,Yq,and_assoc,sizeLine_eq]))
 | `(tactic| sleep 50)=>`(tactic| exact⟨rfl,rfl,rfl,by decide +kernel,rfl,by decide +kernel,by decide +kernel⟩)
 | `(tactic| sleep 51)=>`(tactic| repeat' (first|exact True.intro|assumption|refine And.intro ?_ ?_))
set_option bootstrap.genMatcherCode false
noncomputable section
namespace K
open PySem DL Q
noncomputable def nm (q:Rat):DL.D:=.tup [.int q.num,.int q.den]
theorem Yd {m n:Nat} (h:m<=n):2 ^ m<=2 ^ n:=Nat.pow_le_pow_right (by decide) h
theorem WQ {a b:Int} (h:b≠0) (hb:b.natAbs<2 ^ 8000):V3 (if b<0 then -(Int.gcd a b:Int) else Int.gcd a b):=by
 have g0:=U2 (a:=a) h;have gl:Int.gcd a b<=b.natAbs:=Nat.le_of_dvd (by omega) (Int.gcd_dvd_natAbs_right ..);split<;>exact YZ (by omega) (by simp;omega)
noncomputable def S_3:DSp:=fun ds M Q E=>∃ a b:Int,ds=[.int a,.int b]/\b.natAbs<2 ^ 8000/\((b≠0/\Q (nm (Rat.divInt a b)) M)\/(b=0/\E (.exc "NoNumber" .non) M))
noncomputable def C_3:CSs:=%[.ife (.cmp .Eq (.var 1) (.int 0)) %[.rse "NoNumber" %[.str "nothing is parted by 0"|0]|0] .nil,.set 2 (.call "greatest_divisor" S_1 %[.var 0,.var 1|0]),.ife (.cmp .Lt (.var 1) (.int 0)) %[.set 2 (.neg (.var 2))|0] .nil,.ret (.tup %[.bin .FloorDiv (.var 0) (.var 2),.bin .FloorDiv (.var 1) (.var 2)|0])|0]
theorem vc_3:∀ ds M R E,S_3 ds M R E->rSs C_3 (ends R E) (Y2 3 ds) M:=by
 rintro ds M R E ⟨a,b,rfl,hb,h⟩;simp[0,C_3,rSs,Yr,vAt,vHd,Yc,Yo,Yu,YQ,dFor,YR,bMul,bAdd,iOp,sOp,fLen,Ye,Ym,fIsi,fAll,fAny,Yq,and_assoc,sizeLine_eq];refine YA false ?_;rcases h with ⟨h0,h⟩|⟨h0,h⟩
 ·have L:=AI a b h0
  have D:=WQ (a:=a) h0 hb;unfold nm at h;simp[h0];refine⟨a,b,rfl,?_⟩;by_cases hn:b<0
  ·rw[if_pos hn] at L D
   simp[hn,D];rw[L.1,L.2];exact h
  ·rw[if_neg hn] at L D
   simp[hn,D];rw[L.1,L.2];exact h
 ·subst h0
  simp;exact h
noncomputable def Ok2 (p q:Rat):Prop:=∃ m n,Sz m p/\Sz n q/\m+n<=7998
theorem Ok2.mk {p q:Rat} {m n:Nat} (a:Sz m p) (b:Sz n q) (h:m+n<=7998):Ok2 p q:=⟨m,n,a,b,h⟩
theorem Ok2.nd {p q:Rat} (h:Ok2 p q):IntMulOk p.num q.den/\IntMulOk q.num p.den/\IntMulOk p.den q.den/\IntMulOk p.num q.num/\IntMulOk (p.den:Int) q.num:=by
 obtain⟨m,n,a,b,h⟩:=h;exact⟨YS a.1 (Yi b) (by omega),YS b.1 (Yi a) (by omega),YS (Yi a) (Yi b) (by omega),YS a.1 b.1 (by omega),YS (Yi a) b.1 (by omega)⟩
theorem Ok2.dd {p q:Rat} (h:Ok2 p q):((p.den:Int)*q.den).natAbs<2 ^ 8000/\((p.den:Int)*q.num).natAbs<2 ^ 8000:=by
 obtain⟨m,n,a,b,h⟩:=h;exact⟨Nat.lt_of_lt_of_le (YW (Yi a) (Yi b)) (Yd (by omega)),Nat.lt_of_lt_of_le (YW (Yi a) b.1) (Yd (by omega))⟩
theorem Zl {α:Type} (x y:α) (l:List α):L2.atI (x::y::l) 1=some y:=L2.atI_nat (j:=1) rfl
theorem ix0 {p:Rat} {M:Mem} {Q:DK} (q:Q (.int p.num) M):iOp (nm p) (.int 0) M Q:=⟨_,YG _ _,q⟩
theorem ix1 {p:Rat} {M:Mem} {Q:DK} (q:Q (.int p.den) M):iOp (nm p) (.int 1) M Q:=⟨_,Zl _ _ _,q⟩
theorem tx0 {x y:DL.D} {M:Mem} {Q:DK} (q:Q x M):iOp (.tup [x,y]) (.int 0) M Q:=⟨_,YG _ _,q⟩
theorem tx1 {x y:DL.D} {M:Mem} {Q:DK} (q:Q y M):iOp (.tup [x,y]) (.int 1) M Q:=⟨_,Zl _ _ _,q⟩
theorem subI {i j:Int} {M:Mem} {Q:DK} (q:Q (.int (i-j)) M):bInt (fun _ _=>True) (fun i j=>i-j) (.int i) (.int j) M Q:=⟨trivial,q⟩
noncomputable def S_4:DSp:=fun ds M Q E=>∃ p q:Rat,ds=[nm p,nm q]/\Ok2 p q/\Q (nm (p+q)) M
noncomputable def C_4:CSs:=%[.ret (.call "number" S_3 %[.bin .Add (.bin .Mult (.ix (.var 0) (.int 0)) (.ix (.var 1) (.int 1))) (.bin .Mult (.ix (.var 1) (.int 0)) (.ix (.var 0) (.int 1))),.bin .Mult (.ix (.var 0) (.int 1)) (.ix (.var 1) (.int 1))|0])|0]
theorem vc_4:∀ ds M R E,S_4 ds M R E->rSs C_4 (ends R E) (Y2 2 ds) M:=by
 rintro ds M R E ⟨p,q,rfl,ok,h⟩;unfold C_4;dsimp only[rSs,rS,rE,rEs,DL.plain,dSeq,dRet,Zr,YK,dNil,d2,dVar,vAt,vHd,List.map,List.length_cons,List.length_nil,Nat.reduceAdd,Nat.reduceSub,List.replicate_succ,List.replicate_zero,List.cons_append,List.nil_append,dC,bOp,Y2];have n:=ok.nd;refine (ix0 (ix1 (mulI n.1 (ix0 (ix1 (mulI n.2.1 (addI (ix1 (ix1 (mulI n.2.2.1 ?_))))))))));refine⟨_,_,rfl,ok.dd.1,.inl ⟨Xy p q,?_⟩⟩;rw[UQ];exact h
noncomputable def S_5:DSp:=fun ds M Q E=>∃ p q:Rat,ds=[nm p,nm q]/\Ok2 p q/\Q (nm (p-q)) M
noncomputable def C_5:CSs:=%[.ret (.call "number" S_3 %[.bin .Sub (.bin .Mult (.ix (.var 0) (.int 0)) (.ix (.var 1) (.int 1))) (.bin .Mult (.ix (.var 1) (.int 0)) (.ix (.var 0) (.int 1))),.bin .Mult (.ix (.var 0) (.int 1)) (.ix (.var 1) (.int 1))|0])|0]
theorem vc_5:∀ ds M R E,S_5 ds M R E->rSs C_5 (ends R E) (Y2 2 ds) M:=by
 rintro ds M R E ⟨p,q,rfl,ok,h⟩;unfold C_5;dsimp only[rSs,rS,rE,rEs,DL.plain,dSeq,dRet,Zr,YK,dNil,d2,dVar,vAt,vHd,List.map,List.length_cons,List.length_nil,Nat.reduceAdd,Nat.reduceSub,List.replicate_succ,List.replicate_zero,List.cons_append,List.nil_append,dC,bOp,Y2];have n:=ok.nd;refine (ix0 (ix1 (mulI n.1 (ix0 (ix1 (mulI n.2.1 (subI (ix1 (ix1 (mulI n.2.2.1 ?_))))))))));refine⟨_,_,rfl,ok.dd.1,.inl ⟨Xy p q,?_⟩⟩;rw[Ur];exact h
noncomputable def S_6:DSp:=fun ds M Q E=>∃ p q:Rat,ds=[nm p,nm q]/\Ok2 p q/\Q (.bl (decide (p<q))) M
noncomputable def C_6:CSs:=%[.ret (.cmp .Lt (.bin .Mult (.ix (.var 0) (.int 0)) (.ix (.var 1) (.int 1))) (.bin .Mult (.ix (.var 1) (.int 0)) (.ix (.var 0) (.int 1))))|0]
theorem vc_6:∀ ds M R E,S_6 ds M R E->rSs C_6 (ends R E) (Y2 2 ds) M:=by
 rintro ds M R E ⟨p,q,rfl,ok,h⟩;unfold C_6;dsimp only[rSs,rS,rE,rEs,DL.plain,dSeq,dRet,Zr,YK,dNil,d2,dVar,vAt,vHd,List.map,List.length_cons,List.length_nil,Nat.reduceAdd,Nat.reduceSub,List.replicate_succ,List.replicate_zero,List.cons_append,List.nil_append,dC,bOp,cOp,Y2];have n:=ok.nd;refine (ix0 (ix1 (mulI n.1 (ix0 (ix1 (mulI n.2.1 ?_))))));show R (.bl (decide (p.num*q.den<q.num*p.den))) M;rw[show decide (p.num*(q.den:Int)<q.num*p.den)=decide (p<q) by simp only[CT]];exact h
noncomputable def S_30:DSp:=fun ds M Q _=>∃ a b:Int,ds=[.int a,.int b]/\b≠0/\b.natAbs<2 ^ 8000/\Q (nm (Rat.divInt a b)) M
noncomputable def C_30:CSs:=%[.par 2 3 (.bi .abs %[.var 0|0]) (.bi .abs %[.var 1|0]),.whl (.cmp .NotEq (.var 3) (.int 0)) %[.par 2 3 (.var 3) (.bin .Mod (.var 2) (.var 3))|0],.ife (.cmp .Lt (.var 1) (.int 0)) %[.set 2 (.bin .Sub (.int 0) (.var 2))|0] .nil,.ret (.tup %[.bin .FloorDiv (.var 0) (.var 2),.bin .FloorDiv (.var 1) (.var 2)|0])|0]
theorem GE:∀ ds M R E,S_30 ds M R E->rSs C_30 (ends R E) (Y2 4 ds) M:=by
 rintro ds M R E ⟨a,b,rfl,hb,hb2,h⟩;have L:=AI a b hb;have D:=WQ (a:=a) hb hb2;simp[0,C_30,rSs,Yr,vAt,vHd,Yc,Yo,Yu,YQ,dFor,YR,bMul,bAdd,iOp,sOp,fLen,Ye,Ym,fIsi,fAll,fAny,Yq,and_assoc,sizeLine_eq];refine⟨fun m δ M'=>∃ x y:Int,δ=[some (.int a),some (.int b),some (.int x),some (.int y)]/\M'=M/\0<=x/\0<=y/\Int.gcd x y=Int.gcd a b/\m=y.toNat,⟨_,_,_,rfl,rfl,?_,?_,?_,rfl⟩,?_⟩
 ·split<;>omega
 ·split<;>omega
 ·exact Ja a b
 ·rintro m δ M' ⟨x,y,rfl,rfl,h0,h1,hg,rfl⟩
  sleep 5;refine YA true ?_;by_cases hy:y=0
  ·subst hy
   have e:((x.gcd 0:Nat):Int)=x:=by unfold Int.gcd;simp;omega
   rw[hg] at e;rw[e] at L D;unfold nm at h;by_cases nb:b<0
   ·rw[if_pos nb] at L D
    simp[nb,D];rw[L.1,L.2];exact h
   ·rw[if_neg nb] at L D
    simp[nb,D];rw[L.1,L.2];exact h
  ·have yp:0<y:=by omega
   simp[hy];refine⟨fun δ' M1=>δ'=[some (.int a),some (.int b),some (.int y),some (.int (x.fmod y))]/\M1=M',?_,rfl,rfl⟩;rintro δ' M1 ⟨rfl,rfl⟩;have:=Yx (x:=x) yp;exact⟨(x.fmod y).toNat,by omega,y,_,rfl,rfl,h1,this.1,by rw[U1 h0 yp];exact hg,rfl⟩
noncomputable def S_31:DSp:=fun ds M Q E=>∃ p q:Rat,ds=[nm p,nm q]/\Ok2 p q/\Q (nm (p+q)) M
noncomputable def C_31:CSs:=%[.ret (.call "_law_low" S_30 %[.bin .Add (.bin .Mult (.ix (.var 0) (.int 0)) (.ix (.var 1) (.int 1))) (.bin .Mult (.ix (.var 1) (.int 0)) (.ix (.var 0) (.int 1))),.bin .Mult (.ix (.var 0) (.int 1)) (.ix (.var 1) (.int 1))|0])|0]
theorem GD:∀ ds M R E,S_31 ds M R E->rSs C_31 (ends R E) (Y2 2 ds) M:=by
 rintro ds M R E ⟨p,q,rfl,ok,h⟩;unfold C_31;dsimp only[rSs,rS,rE,rEs,DL.plain,dSeq,dRet,Zr,YK,dNil,d2,dVar,vAt,vHd,List.map,List.length_cons,List.length_nil,Nat.reduceAdd,Nat.reduceSub,List.replicate_succ,List.replicate_zero,List.cons_append,List.nil_append,dC,bOp,Y2];have n:=ok.nd;refine (ix0 (ix1 (mulI n.1 (ix0 (ix1 (mulI n.2.1 (addI (ix1 (ix1 (mulI n.2.2.1 ?_))))))))));refine⟨_,_,rfl,Xy p q,ok.dd.1,?_⟩;rw[UQ];exact h
noncomputable def S_32:DSp:=fun ds M Q E=>∃ p q:Rat,ds=[nm p,nm q]/\Ok2 p q/\Q (nm (p-q)) M
noncomputable def C_32:CSs:=%[.ret (.call "_law_low" S_30 %[.bin .Sub (.bin .Mult (.ix (.var 0) (.int 0)) (.ix (.var 1) (.int 1))) (.bin .Mult (.ix (.var 1) (.int 0)) (.ix (.var 0) (.int 1))),.bin .Mult (.ix (.var 0) (.int 1)) (.ix (.var 1) (.int 1))|0])|0]
theorem GC:∀ ds M R E,S_32 ds M R E->rSs C_32 (ends R E) (Y2 2 ds) M:=by
 rintro ds M R E ⟨p,q,rfl,ok,h⟩;unfold C_32;dsimp only[rSs,rS,rE,rEs,DL.plain,dSeq,dRet,Zr,YK,dNil,d2,dVar,vAt,vHd,List.map,List.length_cons,List.length_nil,Nat.reduceAdd,Nat.reduceSub,List.replicate_succ,List.replicate_zero,List.cons_append,List.nil_append,dC,bOp,Y2];have n:=ok.nd;refine (ix0 (ix1 (mulI n.1 (ix0 (ix1 (mulI n.2.1 (subI (ix1 (ix1 (mulI n.2.2.1 ?_))))))))));refine⟨_,_,rfl,Xy p q,ok.dd.1,?_⟩;rw[Ur];exact h
noncomputable def S_33:DSp:=fun ds M Q E=>∃ (p:Rat) (a b:Int),ds=[nm p,.tup [.int a,.int b]]/\b≠0/\(∃ m n,Sz m p/\a.natAbs<2 ^ n/\b.natAbs<2 ^ n/\m+n<=7998)/\Q (nm (p*Rat.divInt a b)) M
noncomputable def C_33:CSs:=%[.ret (.call "_law_low" S_30 %[.bin .Mult (.ix (.var 0) (.int 0)) (.ix (.var 1) (.int 0)),.bin .Mult (.ix (.var 0) (.int 1)) (.ix (.var 1) (.int 1))|0])|0]
theorem GB:∀ ds M R E,S_33 ds M R E->rSs C_33 (ends R E) (Y2 2 ds) M:=by
 rintro ds M R E ⟨p,a,b,rfl,hb,⟨m,n,s,ha,hb2,hl⟩,h⟩;have o1:IntMulOk p.num a:=YS s.1 ha (by omega);have o2:IntMulOk p.den b:=YS (Yi s) hb2 (by omega);unfold C_33;dsimp only[rSs,rS,rE,rEs,DL.plain,dSeq,dRet,Zr,YK,dNil,d2,dVar,vAt,vHd,List.map,List.length_cons,List.length_nil,Nat.reduceAdd,Nat.reduceSub,List.replicate_succ,List.replicate_zero,List.cons_append,List.nil_append,dC,bOp,Y2];refine (ix0 (tx0 (mulI o1 (ix1 (tx1 (mulI o2 ?_))))));refine⟨_,_,rfl,Int.mul_ne_zero (by have:=den_pos p;omega) hb,Nat.lt_of_lt_of_le (YW (Yi s) hb2) (Yd (by omega)),?_⟩;rw[<- Rat.divInt_mul_divInt,Yz];exact h
noncomputable def S_34:DSp:=fun ds M Q E=>∃ p q:Rat,ds=[nm p,nm q]/\Ok2 p q/\Q (.bl (decide (p<q))) M
noncomputable def C_34:CSs:=%[.ret (.cmp .Lt (.bin .Mult (.ix (.var 0) (.int 0)) (.ix (.var 1) (.int 1))) (.bin .Mult (.ix (.var 1) (.int 0)) (.ix (.var 0) (.int 1))))|0]
theorem GA:∀ ds M R E,S_34 ds M R E->rSs C_34 (ends R E) (Y2 2 ds) M:=by
 rintro ds M R E ⟨p,q,rfl,ok,h⟩;unfold C_34;dsimp only[rSs,rS,rE,rEs,DL.plain,dSeq,dRet,Zr,YK,dNil,d2,dVar,vAt,vHd,List.map,List.length_cons,List.length_nil,Nat.reduceAdd,Nat.reduceSub,List.replicate_succ,List.replicate_zero,List.cons_append,List.nil_append,dC,bOp,cOp,Y2];have n:=ok.nd;refine (ix0 (ix1 (mulI n.1 (ix0 (ix1 (mulI n.2.1 ?_))))));show R (.bl (decide (p.num*q.den<q.num*p.den))) M;rw[show decide (p.num*(q.den:Int)<q.num*p.den)=decide (p<q) by simp only[CT]];exact h
theorem MExt.upd_new {M0 M:Mem} {p:Addr} {o:MO} (h:M0 p=Option.none) (e:MExt M0 M):MExt M0 (M.upd p o):=fun a u z=>by
 have:a≠p:=fun q=>by rw[q,h] at z;cases z
 rw[Yv this];exact e a u z
theorem Bs {n:Nat} {ti:DI} {g:DG} {te:DE} {δ:DSt} {M:Mem} {Q:DK} (xs:List DL.D) (f:DL.D->DL.D)
  (hti:∀ R:List DL.D->(Mem->Prop)->Mem->Prop,(∀ keep,(∀ M',MExt M M'->keep M')->R xs keep M)->ti δ M R) (hlen:xs.length<=1000)
  (hel:∀ x∈xs,∀ l M' (R:DSt->DK),l.length=n->MExt M M'->(∀ l' M'',l'.length=n->MExt M' M''->R (δ++l') (f x) M'')->g x (δ++l) M' fun δ1 M1=>te δ1 M1 fun d M2=>R δ1 d M2)
  (hq:∀ p M',M p=Option.none->MExt M M'->M' p=some (.ls (xs.map f))->Q (.lst p) M'):YR n ti g te δ M Q:=by
 refine hti _ fun keep hk p hp=>⟨hk _ (.new hp),?_⟩;refine Wl (M0:=M) f (fun δ'=>∃ l,l.length=n/\δ'=δ++l) hp hk ?_ (by simpa using hlen) ?_ ⟨_,by simp,rfl⟩ (.new hp) Y5
 ·rintro x hx δ' M' R ⟨l,hl,rfl⟩ e r
  exact hel x hx l M' R hl e fun l' M'' h1 h2=>r _ M'' ⟨l',h1,rfl⟩ h2
 ·intro M' e l
  exact⟨⟨_,l⟩,hq p M' hp e (by simpa using l)⟩
theorem XI {α:Type} {g:DG} {te:DE} {keep:Mem->Prop} {p:Addr} {Q:Mem->Prop} {M0:Mem} (e f:α->DL.D) (I:DSt->Prop) (h0:M0 p=none) (hk:∀ M,MExt M0 M->keep M) :
  ∀ {xs:List α} {acc:List DL.D},(∀ x∈xs,∀ δ M (R:DSt->DK),I δ->MExt M0 M->(∀ δ1 M',I δ1->MExt M M'->R δ1 (f x) M')->g (e x) δ M fun δ1 M1=>te δ1 M1 fun d M2=>R δ1 d M2) ->
  (acc++xs.map f).length<=1000->(∀ M',MExt M0 M'->M' p=some (.ls (acc++xs.map f))->Q M')->∀ {δ M},I δ->MExt M0 M->M p=some (.ls acc)->Z0 g te keep p (xs.map e) acc δ M Q
 | [],acc,_,_,q,δ,M,i,e',l=>by show Z0 g te keep p [] acc δ M Q;unfold Z0;exact q M e' (by simpa using l)
 | x::xs,acc,h,hz,q,δ,M,i,e',l=>by
  show Z0 g te keep p (e x::xs.map e) acc δ M Q;unfold Z0;refine h x List.mem_cons_self δ M (fun δ1 d M2=>M2 p=some (.ls acc)/\acc.length<sizeLine/\keep (M2.upd p (.ls (acc++[d])))/\Z0 g te keep p (xs.map e) (acc++[d]) δ1 (M2.upd p (.ls (acc++[d]))) Q) i e' fun δ1 M' i' e2=>?_;have e3:MExt M0 (M'.upd p (.ls (acc++[f x]))):=MExt.upd_new h0 (e'.trans e2);refine⟨e2 _ _ l,?_,hk _ e3,XI e f I h0 hk (fun y hy=>h y (List.mem_cons_of_mem _ hy)) (by simpa using hz) (fun M2 e4 l4=>q M2 e4 (by simpa using l4)) i' e3 Y5⟩;rw[sizeLine_eq];simp at hz;omega
theorem Z7 {α:Type} {n:Nat} {ti:DI} {g:DG} {te:DE} {δ:DSt} {M:Mem} {Q:DK} (xs:List α) (e f:α->DL.D)
  (hti:∀ R:List DL.D->(Mem->Prop)->Mem->Prop,(∀ keep,(∀ M',MExt M M'->keep M')->R (xs.map e) keep M)->ti δ M R) (hlen:xs.length<=1000)
  (hel:∀ x∈xs,∀ l M' (R:DSt->DK),l.length=n->MExt M M'->(∀ l' M'',l'.length=n->MExt M' M''->R (δ++l') (f x) M'')->g (e x) (δ++l) M' fun δ1 M1=>te δ1 M1 fun d M2=>R δ1 d M2)
  (hq:∀ p M',M p=Option.none->MExt M M'->M' p=some (.ls (xs.map f))->Q (.lst p) M'):YR n ti g te δ M Q:=by
 refine hti _ fun keep hk p hp=>⟨hk _ (.new hp),?_⟩;refine XI (M0:=M) e f (fun δ'=>∃ l,l.length=n/\δ'=δ++l) hp hk ?_ (by simpa using hlen) ?_ ⟨_,by simp,rfl⟩ (.new hp) Y5
 ·rintro x hx δ' M' R ⟨l,hl,rfl⟩ e2 r
  exact hel x hx l M' R hl e2 fun l' M'' h1 h2=>r _ M'' ⟨l',h1,rfl⟩ h2
 ·intro M' e2 l
  exact⟨⟨_,l⟩,hq p M' hp e2 (by simpa using l)⟩
theorem Kv {δ:DSt} {i:Nat} {d:DL.D} {P:DL.D->Prop} (h:δ[i]?=some (some d)):vAt δ i P=P d:=propext ⟨fun z=>by
 obtain⟨e,h1,h2⟩:=Ue z;rw[h] at h1;cases h1;exact h2,fun z=>V4 h z⟩
theorem Dc {i:Nat} {δ:DSt} {M:Mem} {xs:List DL.D} (h:δ[i]?=some (some (.tup xs))):∀ R:List DL.D->(Mem->Prop)->Mem->Prop,(∀ keep,(∀ M',MExt M M'->keep M')->R xs keep M)->Yu (dVar i) δ M R :=
 fun R r=>V4 h (r _ fun _ _=>trivial)
theorem Ae {i:Nat} {δ:DSt} {M:Mem} {a:Addr} {xs:List DL.D} (h:δ[i]?=some (some (.lst a))) (l:M a=some (.ls xs)):∀ R:List DL.D->(Mem->Prop)->Mem->Prop,(∀ keep,(∀ M',MExt M M'->keep M')->R xs keep M)->Yu (dVar i) δ M R :=
 fun R r=>V4 h ⟨_,l,r _ fun M' e=>e _ _ l⟩
theorem len1 {α:Type} {l:List α} (h:l.length=1):∃ a,l=[a]:=match l,h with | [a],_=>⟨a,rfl⟩
theorem len2 {α:Type} {l:List α} (h:l.length=2):∃ a b,l=[a,b]:=match l,h with | [a,b],_=>⟨a,b,rfl⟩
theorem Vv {M:Mem} {p:Addr} {Q:DK} {α:Type} {xs:List α} {f:α->Bool} (l:M p=some (.ls (xs.map fun x=>.bl (f x)))) (h:Q (.bl (xs.all f)) M):fAll [.lst p] M Q :=
 ⟨xs.map f,by rw[l,List.map_map];rfl,by rw[List.all_map];exact h⟩
theorem Ge {M:Mem} {p:Addr} {Q:DK} {α:Type} {xs:List α} {f:α->Bool} (l:M p=some (.ls (xs.map fun x=>.bl (f x)))) (h:Q (.bl (xs.any f)) M):fAny [.lst p] M Q :=
 ⟨xs.map f,by rw[l,List.map_map];rfl,by rw[List.any_map];exact h⟩
mutual
noncomputable def Gd (M:Mem):DL.D->Prop
 | .tup xs=>Gds M xs
 | .int i=>i.natAbs<2 ^ 3000
 | .non=>True
 | .bl _=>True
 | .str _=>True
 | .fz _=>True
 | .lst a=>∃ xs,M a=some (.ls xs)
 | .dct a=>∃ xs,M a=some (.dk xs)
 | _=>False
noncomputable def Gds (M:Mem):List DL.D->Prop
 | []=>True
 | d::r=>Gd M d/\Gds M r
end
mutual
theorem Gd.ext {M M':Mem} (e:MExt M M'):∀ d,Gd M d->Gd M' d
 | .tup xs,h=>by unfold Gd at h ⊢;exact Gds.ext e xs h
 | .lst a,h=>by unfold Gd at h ⊢;exact let ⟨xs,q⟩:=h;⟨xs,e _ _ q⟩
 | .dct a,h=>by unfold Gd at h ⊢;exact let ⟨xs,q⟩:=h;⟨xs,e _ _ q⟩
 | .int i,h=>by unfold Gd at h ⊢;exact h
 | .non,_=>by unfold Gd;trivial
 | .bl _,_=>by unfold Gd;trivial
 | .str _,_=>by unfold Gd;trivial
 | .fz _,_=>by unfold Gd;trivial
 | .ty _,h=>by unfold Gd at h;exact h.elim
 | .ref _,h=>by unfold Gd at h;exact h.elim
 | .exc _ _,h=>by unfold Gd at h;exact h.elim
 | .cls _,h=>by unfold Gd at h;exact h.elim
theorem Gds.ext {M M':Mem} (e:MExt M M'):∀ ds,Gds M ds->Gds M' ds
 | [],_=>by unfold Gds;trivial
 | d::r,h=>by unfold Gds at h ⊢;exact⟨Gd.ext e d h.1,Gds.ext e r h.2⟩
end
theorem Gds.mem {M:Mem}:∀ {ds:List DL.D},Gds M ds->∀ d∈ds,Gd M d
 | [],_,_,h=>by cases h
 | x::r,h,d,hd=>by
  unfold Gds at h;rcases List.mem_cons.mp hd with rfl|hd
  ·exact h.1
  ·exact Gds.mem h.2 d hd
theorem Gds.of {M:Mem}:∀ {ds:List DL.D},(∀ d∈ds,Gd M d)->Gds M ds
 | [],_=>by unfold Gds;trivial
 | x::r,h=>by unfold Gds;exact⟨h x List.mem_cons_self,Gds.of fun d hd=>h d (List.mem_cons_of_mem _ hd)⟩
theorem Gd.tup {M:Mem} {ds:List DL.D} (h:Gd M (.tup ds)):∀ d∈ds,Gd M d:=by unfold Gd at h;exact h.mem
theorem Gd.mk {M:Mem} {ds:List DL.D} (h:∀ d∈ds,Gd M d):Gd M (.tup ds):=by unfold Gd;exact .of h
theorem Gd.ty {M:Mem} {d:DL.D} (h:Gd M d):∃ t,tyD M d=some t:=by
 cases d<;>unfold Gd at h<;>first|exact⟨_,rfl⟩|exact h.elim|(obtain⟨xs,q⟩:=h;simp[tyD,q])
theorem Ab {M:Mem} {d:DL.D} {t:String} (hn:∀ ds,d≠.tup ds) (h:tyD M d=some t):isiT t "tuple"=false:=by
 cases d with
 | tup ds=>exact absurd rfl (hn ds)
 | lst a =>
  simp only[tyD] at h;split at h<;>cases h
  decide
 | dct a =>
  simp only[tyD] at h;split at h<;>cases h
  decide
 | _=>first|(cases h;decide)|cases h
theorem WK {M:Mem} {d:DL.D} (h:tyD M d=some "int"):∃ i,d=.int i:=by
 cases d with
 | int i=>exact⟨i,rfl⟩
 | lst a=>simp only[tyD] at h;split at h<;>simp at h
 | dct a=>simp only[tyD] at h;split at h<;>simp at h
 | _=>simp[tyD] at h
noncomputable def S_0:DSp:=fun ds M Q _=>∃ d t,ds=[d]/\tyD M d=some t/\Q (.bl (decide (t="int"))) M
noncomputable def C_0:CSs:=%[.ret (.and (.bi .isinstance %[.var 0,.ty .int|0]) (.one (.not (.bi .isinstance %[.var 0,.ty .bool|0]))))|0]
theorem vc_0:∀ ds M R E,S_0 ds M R E->rSs C_0 (ends R E) (Y2 1 ds) M:=by
 rintro ds M R E ⟨d,t,rfl,ht,h⟩;simp[0,C_0,rSs,Yr,vAt,vHd,Yc,Yo,Yu,YQ,dFor,YR,bMul,bAdd,iOp,sOp,fLen,Ye,Ym,fIsi,fAll,fAny,Yq,and_assoc,sizeLine_eq,ht];by_cases h1:t="int"
 ·subst h1;simp[isiT];exact h
 ·by_cases h2:t="bool"
  ·subst h2;simp[isiT];exact h
  ·simp[isiT,h1,h2];simpa[h1] using h
noncomputable def num?:DL.D->Option Rat
 | .tup [.int a,.int b]=>if 1<=b/\Int.gcd a b=1 then some (Rat.divInt a b) else none
 | _=>none
theorem XY (a b:Int):num? (.tup [.int a,.int b])=if 1<=b/\Int.gcd a b=1 then some (Rat.divInt a b) else none:=rfl
theorem Ec (q:Rat):num? (nm q)=some q:=by
 unfold nm;have:=den_pos q;rw[XY,if_pos ⟨by omega,AY q⟩,Yz]
theorem Ee {d:DL.D} {q:Rat} (h:num? d=some q):d=nm q:=by
 unfold num? at h;split at h
 ·rename_i a b
  split at h
  ·rename_i hc
   cases h;obtain⟨e1,e2⟩:=Uz hc.1 hc.2;unfold nm;rw[e1,e2]
  ·cases h
 ·cases h
noncomputable def Yp (d:DL.D):Bool:=(num? d).isSome
theorem isNum_iff {d:DL.D}:Yp d=true ↔ ∃ q,d=nm q:=by
 unfold Yp;constructor
 ·intro h;obtain⟨q,e⟩:=Option.isSome_iff_exists.mp h;exact⟨q,Ee e⟩
 ·rintro⟨q,rfl⟩;rw[Ec];rfl
theorem Wc (q:Rat):Yp (nm q)=true:=isNum_iff.mpr ⟨q,rfl⟩
theorem WJ {a b:DL.D} (h:(∀ i,a≠.int i)\/∀ i,b≠.int i):Yp (.tup [a,b])=false:=by
 unfold Yp num?;split
 ·rename_i i j e
  simp at e;rcases h with h|h
  ·exact absurd e.1 (h i)
  ·exact absurd e.2 (h j)
 ·rfl
theorem Gd.nm {M:Mem} {q:Rat} {n:Nat} (h:Sz n q) (hn:n<=3000):Gd M (nm q):=by
 refine .mk fun d hd=>?_;have:=h.mono hn;simp at hd;rcases hd with rfl|rfl<;>unfold Gd
 ·exact this.1
 ·simpa using this.2
noncomputable def S_2:DSp:=fun ds M Q _=>∃ d,ds=[d]/\Gd M d/\Q (.bl (Yp d)) M
noncomputable def C_2:CSs:=%[.ife (.or (.not (.bi .isinstance %[.var 0,.ty .tuple|0])) (.one (.cmp .NotEq (.bi .len %[.var 0|0]) (.int 2)))) %[.ret (.bl false)|0] .nil,.asg (.tup %[.name 1,.name 2|0]) (.var 0),.ife (.or (.not (.call "is_whole" S_0 %[.var 1|0])) (.or (.not (.call "is_whole" S_0 %[.var 2|0])) (.one (.cmp .Lt (.var 2) (.int 1))))) %[.ret (.bl false)|0] .nil,.ret (.cmp .Eq (.call "greatest_divisor" S_1 %[.var 1,.var 2|0]) (.int 1))|0]
theorem vc_2:∀ ds M R E,S_2 ds M R E->rSs C_2 (ends R E) (Y2 3 ds) M:=by
 rintro ds M R E ⟨d,rfl,gd,h⟩;obtain⟨t,ht⟩:=gd.ty;by_cases hd:∃ xs,d=.tup xs
 ·obtain⟨xs,rfl⟩:=hd
  by_cases hl:xs.length=2
  ·obtain⟨a,b,rfl⟩:∃ a b,xs=[a,b]:=by
    match xs,hl with
    | [a,b],_=>exact⟨a,b,rfl⟩
   obtain⟨ta,hta⟩:=(gd.tup a (by simp)).ty;obtain⟨tb,htb⟩:=(gd.tup b (by simp)).ty;unfold C_2;rw[Yb];simp[0,Yr,vAt,vHd,Yc,Yo,bMul,bAdd,sOp,Ye,Ym,fIsi,Yq,and_assoc,sizeLine_eq,Yl,fLen,tyD,isiT];refine YA true ?_;simp;sleep 1;rw[Yb];sleep 2;refine⟨a,ta,rfl,hta,?_⟩;by_cases h1:ta="int"
   ·subst h1
    obtain⟨i,rfl⟩:=WK hta;simp;refine⟨b,tb,rfl,htb,?_⟩;by_cases h2:tb="int"
    ·subst h2
     obtain⟨j,rfl⟩:=WK htb;simp;by_cases h3:j<1
     ·have e:Yp (.tup [.int i,.int j])=false:=by
       unfold Yp;rw[XY,if_neg (by omega)];rfl
      simp[h3];rw[e] at h;exact h
     ·simp[h3]
      sleep 1;refine⟨i,j,rfl,?_⟩;refine YA false ?_;have e:Yp (.tup [.int i,.int j])=(((Int.gcd i j:Nat):Int)==1):=by
       unfold Yp;rw[XY];by_cases hg:Int.gcd i j=1
       ·rw[if_pos ⟨by omega,hg⟩,hg];rfl
       ·rw[if_neg (by omega)]
        have:((Int.gcd i j:Nat):Int)≠1:=by omega
        simp[this]
      rw[e] at h;exact h
    ·simp[h2]
     have e:=WJ (a:=.int i) (b:=b) (.inr fun j z=>h2 (by subst z;cases htb;rfl));rw[e] at h;exact h
   ·simp[h1]
    have e:=WJ (a:=a) (b:=b) (.inl fun j z=>h1 (by subst z;cases hta;rfl));rw[e] at h;exact h
  ·have e:Yp (.tup xs)=false:=by
    unfold Yp num?;split
    ·rename_i z;cases z;simp at hl
    ·rfl
   rw[e] at h;unfold C_2;rw[Yb];simp[0,Yr,vAt,vHd,Yc,Yo,bMul,bAdd,sOp,Ye,Ym,fIsi,Yq,and_assoc,sizeLine_eq,Yl,fLen,tyD,isiT];refine YA true ?_;have:¬ ((xs.length:Int)=2):=by omega
   simp[this];exact h
 ·have hn:∀ ds,d≠.tup ds:=fun ds z=>hd ⟨ds,z⟩
  have e:Yp d=false:=by
   unfold Yp num?;split
   ·exact absurd rfl (hn _)
   ·rfl
  rw[e] at h;unfold C_2;rw[Yb];simp[0,Yr,vAt,vHd,Yc,Yo,bMul,bAdd,sOp,Ye,Ym,fIsi,Yq,and_assoc,sizeLine_eq,Yl,ht,Ab hn ht];exact h
noncomputable def Ya (l m:Int):DL.D->Bool
 | .tup xs=>decide (l<=xs.length)&&decide ((xs.length:Int)<=m)&&xs.all Yp
 | _=>false
noncomputable def S_7:DSp:=fun ds M Q _=>∃ d l m,ds=[d,.int l,.int m]/\m<=1000/\Gd M d/\∀ M',MExt M M'->Q (.bl (Ya l m d)) M'
noncomputable def C_7:CSs:=%[.ife (.or (.not (.bi .isinstance %[.var 0,.ty .tuple|0])) (.one (.not (.chain .LtE .LtE (.var 1) (.bi .len %[.var 0|0]) (.var 2))))) %[.ret (.bl false)|0] .nil,.ret (.bi .all %[.comp ["thing","least","most","part"] 1 (.name 3) (.seq (.var 0)) (.call "is_number" S_2 %[.var 3|0])|0])|0]
theorem vc_7:∀ ds M R E,S_7 ds M R E->rSs C_7 (ends R E) (Y2 3 ds) M:=by
 rintro ds M R E ⟨d,l,m,rfl,hm,gd,h⟩;obtain⟨t,ht⟩:=gd.ty;by_cases hd:∃ xs,d=.tup xs
 ·obtain⟨xs,rfl⟩:=hd
  simp[0,C_7,rSs,Yr,vAt,vHd,Yo,bMul,bAdd,iOp,sOp,fLen,Ye,Ym,fIsi,Yq,and_assoc,sizeLine_eq,tyD,isiT];by_cases h1:l<=(xs.length:Int)
  ·by_cases h2:(xs.length:Int)<=m
   ·rw[if_pos h1,if_pos h2]
    refine Bs xs (fun x=>.bl (Yp x)) (Dc rfl) (by omega) ?_ ?_
    ·intro x hx l' M' R' hl e r
     obtain⟨a,rfl⟩:=len1 hl;sleep 5;exact⟨x,rfl,(gd.tup x hx).ext e,r [some x] M' rfl (.refl _)⟩
    ·intro p M' hp e l'
     refine Vv l' ?_;have:=h M' e
     simpa[Ya,h1,h2] using this
   ·rw[if_pos h1,if_neg h2]
    have:=h M (.refl M)
    simpa[Ya,h2] using this
  ·rw[if_neg h1]
   have:=h M (.refl M)
   simpa[Ya,h1] using this
 ·have hn:∀ ds,d≠.tup ds:=fun ds z=>hd ⟨ds,z⟩
  have e:Ya l m d=false:=by
   unfold Ya;split
   ·exact absurd rfl (hn _)
   ·rfl
  rw[e] at h;simp[0,C_7,rSs,Yr,vAt,vHd,Yc,Yo,Yu,YQ,dFor,YR,bMul,bAdd,iOp,sOp,fLen,Ye,Ym,fIsi,fAll,fAny,Yq,and_assoc,sizeLine_eq,ht,Ab hn ht];exact h M (.refl M)
structure EqEnc {α:Type} [DecidableEq α] (e:α->DL.D) (k:Nat):Prop where
 ex:∃ e':α->PyData,(∀ M a,Py M (e a) (e' a))/\(∀ a b,PyData.eqv (e' a) (e' b)=decide (a=b))/\∀ a,(e' a).depth<=k
theorem EqEnc.eq {α:Type} [DecidableEq α] {e:α->DL.D} {k:Nat} (h:EqEnc e k) (hk:k<=60) {M:Mem} {Q:DK} {a b:α} (neg:Bool) (q:Q (.bl (if neg then !decide (a=b) else decide (a=b))) M):cEq neg (e a) (e b) M Q:=by
 obtain⟨e',h1,h2,h3⟩:=h.ex;refine Wo (h1 M a) (h1 M b) ?_ (by rw[h2];exact q);have:=h3 a;omega
theorem enc_nm:EqEnc nm 3:=by
 refine⟨fun q=>.tuple [.int q.num,.int q.den],fun M q=>.tup (.cons (.int _) (.cons (.int _) .nil)),fun p q=>?_,fun q=>by simp[PyData.depth,PyData.depthAll]⟩;simp only[PyData.eqv,PyData.eqvAll];by_cases h:p=q
 ·subst h;simp
 ·have:¬ (p.num=q.num/\(p.den:Int)=q.den):=fun ⟨a,b⟩=>h (Rat.ext a (by omega))
  simp only[h,decide_false];rw[Bool.eq_false_iff];intro z;simp at z;exact this ⟨z.1,by omega⟩
theorem Xx {k:Nat}:∀ {l:List PyData},(∀ x∈l,x.depth<=k)->PyData.depthAll l<=k
 | [],_=>by simp[PyData.depthAll]
 | x::r,h=>by
  have a:=h x List.mem_cons_self;have b:=Xx fun y hy=>h y (List.mem_cons_of_mem _ hy);simp only[PyData.depthAll];omega
theorem Uu {α:Type} {e:α->DL.D} {e':α->PyData} {M:Mem} (h:∀ a,Py M (e a) (e' a)):∀ l:List α,Pys M (l.map e) (l.map e')
 | []=>.nil
 | a::r=>.cons (h a) (Uu h r)
theorem Jc {α:Type} [DecidableEq α] {e':α->PyData} (h:∀ a b,PyData.eqv (e' a) (e' b)=decide (a=b)):∀ l m:List α,PyData.eqvAll (l.map e') (m.map e')=decide (l=m)
 | [],[]=>by simp[PyData.eqvAll]
 | [],_::_=>by simp[PyData.eqvAll]
 | _::_,[]=>by simp[PyData.eqvAll]
 | a::l,b::m=>by
  simp only[List.map_cons,PyData.eqvAll,h,Jc h l m,List.cons.injEq];by_cases h1:a=b<;>by_cases h2:l=m<;>simp[h1,h2]
theorem EqEnc.tup {α:Type} [DecidableEq α] {e:α->DL.D} {k:Nat} (h:EqEnc e k):EqEnc (fun l:List α=>.tup (l.map e)) (k+1):=by
 obtain⟨e',h1,h2,h3⟩:=h.ex;refine⟨fun l=>.tuple (l.map e'),fun M l=>.tup (Uu (h1 M) l),fun a b=>by simp only[PyData.eqv];exact Jc h2 a b,fun l=>?_⟩;simp only[PyData.depth];have:=Xx (k:=k) (l:=l.map e') (by simp;exact fun a _=>h3 a);omega
noncomputable def rw (r:List Rat):DL.D:=.tup (r.map nm)
noncomputable def pl (p:Rat×Rat):DL.D:=.tup [nm p.1,nm p.2]
noncomputable def tb (t:List (Rat×Rat)):DL.D:=.tup (t.map pl)
theorem enc_rw:EqEnc rw 4:=enc_nm.tup
theorem U5 {M:Mem} {Q:DK} {a b:Rat} (neg:Bool) (q:Q (.bl (if neg then !decide (a=b) else decide (a=b))) M):cEq neg (nm a) (nm b) M Q:=enc_nm.eq (by decide) neg q
theorem D0 {M:Mem} {Q:DK} {a b:List Rat} (neg:Bool) (q:Q (.bl (if neg then !decide (a=b) else decide (a=b))) M):cEq neg (rw a) (rw b) M Q:=enc_rw.eq (by decide) neg q
abbrev Zm:DL.D:=.int 25
noncomputable def Sq (M:Mem) (d:DL.D) (xs:List DL.D):Prop:=d=.tup xs\/d=.fz xs\/∃ a,d=.lst a/\M a=some (.ls xs)
theorem Sq.ix {M:Mem} {d:DL.D} {xs:List DL.D} {Q:DK} {i:Int} {v:DL.D} (h:Sq M d xs) (e:L2.atI xs i=some v) (q:Q v M):iOp d (.int i) M Q:=by
 rcases h with rfl|rfl|⟨a,rfl,l⟩
 ·exact⟨v,e,q⟩
 ·exact⟨v,e,q⟩
 ·exact⟨xs,v,l,e,q⟩
theorem Sq.len {M:Mem} {d:DL.D} {xs:List DL.D} {Q:DK} (h:Sq M d xs) (q:Q (.int xs.length) M):fLen [d] M Q:=by
 rcases h with rfl|rfl|⟨a,rfl,l⟩
 ·exact q
 ·exact q
 ·exact⟨xs,l,q⟩
theorem YM {α:Type} {xs:List α} {i:Nat} {v:α} (h:xs[i]?=some v):L2.atI xs (i:Int)=some v:=L2.atI_nat h
theorem Cz {α:Type} {xs:List α} (h:xs≠[]):L2.atI xs (-1)=some (xs.getLast h):=by
 unfold L2.atI L2.ixN;have:=List.length_pos_iff.mpr h;rw[if_neg (by omega),if_pos (by omega)];have e:(-1+(xs.length:Int)).toNat=xs.length-1:=by omega
 rw[e];simp[List.getLast_eq_getElem]
noncomputable def lo (t:List (Rat×Rat)) (i:Nat):Rat:=(t.getD i (0,0)).1
noncomputable def hi (t:List (Rat×Rat)) (i:Nat):Rat:=(t.getD i (0,0)).2
theorem tix {xs:List DL.D} {i:Int} {v:DL.D} {M:Mem} {Q:DK} (e:L2.atI xs i=some v) (q:Q v M):iOp (.tup xs) (.int i) M Q:=⟨v,e,q⟩
theorem pl0 {p:Rat×Rat} {M:Mem} {Q:DK} (q:Q (nm p.1) M):iOp (pl p) (.int 0) M Q:=⟨_,YG _ _,q⟩
theorem pl1 {p:Rat×Rat} {M:Mem} {Q:DK} (q:Q (nm p.2) M):iOp (pl p) (.int 1) M Q:=⟨_,Zl _ _ _,q⟩
noncomputable def ri (r:List Rat) (i:Nat):Rat:=r.getD i 0
theorem Yn {r:List Rat} {i:Nat} (h:i<r.length):ri r i∈r:=by
 simp only[ri,List.getD,List.getElem?_eq_getElem h,Option.getD_some];exact List.getElem_mem h
theorem ZC {r:List Rat} {i:Nat} (h:i<r.length):(r.map nm)[i]?=some (nm (ri r i)):=by
 simp[ri,List.getD,h]
theorem Vb {r:List Rat} (h:1<=r.length):L2.atI (r.map nm) (-1)=some (nm (ri r (r.length-1))):=by
 have hne:r.map nm≠[]:=by intro z;simp at z;subst z;simp at h
 rw[Cz hne,List.getLast_eq_getElem];have hl':r.length-1<r.length:=by omega
 simp[ri,List.getD,hl']
noncomputable def Pk (M:Mem) (a:Addr):Prop:=∃ v:Int,M a=some (.ls [.int v])
structure Dr (a:Addr) (M M':Mem):Prop where
 pk:Pk M' a
 keep:∀ b o,b≠a->M b=some o->M' b=some o
theorem Dr.take {a:Addr} {M:Mem} {v:Int}:Dr a M (M.upd a (.ls [.int v])):=⟨⟨v,Y5⟩,fun b o h e=>by rw[Yv h];exact e⟩
theorem Pk.ext {a:Addr} {M M':Mem} (p:Pk M a) (e:MExt M M'):Pk M' a:=by obtain⟨v,h⟩:=p;exact⟨v,e _ _ h⟩
theorem Dr.ext {a:Addr} {M M':Mem} (p:Pk M a) (e:MExt M M'):Dr a M M':=⟨p.ext e,fun b o _ h=>e b o h⟩
theorem Dr.trans {a:Addr} {M M1 M2:Mem} (x:Dr a M M1) (y:Dr a M1 M2):Dr a M M2:=⟨y.pk,fun b o h e=>y.keep b o h (x.keep b o h e)⟩
theorem Pk.ne {a p:Addr} {M:Mem} (k:Pk M a) (h:M p=none):p≠a:=fun z=>by obtain⟨v,e⟩:=k;rw[z,e] at h;cases h
theorem Dr.upd_new {a p:Addr} {M M':Mem} {o:MO} (x:Dr a M M') (h:M p=none) (hp:p≠a):Dr a M (M'.upd p o):=by
 obtain⟨v,e⟩:=x.pk;refine⟨⟨v,by rw[Yv hp.symm];exact e⟩,fun b u hb e'=>?_⟩;have:b≠p:=fun z=>by rw[z,h] at e';cases e'
 rw[Yv this];exact x.keep b u hb e'
theorem AH {n:Nat} (h:n<2 ^ 200):n<2 ^ 8000:=Nat.lt_of_lt_of_le h (Yd (by decide))
theorem YB {a:Addr} {n:Int} {M:Mem} {Q E:DK} (p:Pk M a) (hn:0<n) (hn2:n.natAbs<2 ^ 200) (q:∀ (r:Int) M',0<=r->r<n->Dr a M M'->Q (.int r) M'):S_29 [.lst a,.int n] M Q E:=by
 obtain⟨v,h⟩:=p;exact⟨a,n,v,rfl,h,hn,AH hn2,fun r v' h0 h1=>q r _ h0 h1 .take⟩
theorem J2:(D.tup [D.int 0,D.int 1])=nm 0:=rfl
theorem Y8 {M:Mem} {p:Addr} {xs:List DL.D} {Q:DK} {i:Int} {v:DL.D} (l:M p=some (.ls xs)) (e:L2.atI xs i=some v) (q:Q v M):iOp (.lst p) (.int i) M Q:=⟨xs,v,l,e,q⟩
theorem Gc {α:Type} {xs:List α} {r:Int} (h0:0<=r) (h1:r<xs.length):∃ v,v∈xs/\L2.atI xs r=some v:=by
 obtain⟨n,rfl⟩:=Int.eq_ofNat_of_zero_le h0;have hn:n<xs.length:=by omega
 exact⟨xs[n],List.getElem_mem hn,YM (List.getElem?_eq_getElem hn)⟩
structure Box (t:List (Rat×Rat)) (k:Nat):Prop where
 ok:∀ p∈t,p.1<=p.2
 lo:∀ p∈t,Sz k p.1
 hi:∀ p∈t,Sz k p.2
noncomputable def LT (M:Mem) (a p:Addr) (m w:Int) (i:Nat) (δ:DSt) (M':Mem):Prop :=
 ∃ (z:Int) (t:List (Rat×Rat)) (w5:Option DL.D),Dr a M M'/\M' p=some (.ls (t.map pl))/\t.length=i/\z.natAbs<=3*i/\Box t 24/\δ=[some (.lst a),some (.int m),some (.int w),some (nm (z:Rat)),some (.lst p),w5]
noncomputable def mid {α:Type} (t:List α):List α:=(t.drop 1).take (t.length-2)
noncomputable def V8 (r:List Rat):List Rat:=(List.range (r.length-1)).map fun i=>ri r (i+1)-ri r i
theorem VI {r:List Rat} {i:Nat} {M:Mem} {Q:DK} (h:i<r.length) (q:Q (nm (ri r i)) M):iOp (rw r) (.int i) M Q:=Sq.ix (.inl rfl) (YM (ZC h)) q
theorem Dj {r:List Rat} {M:Mem} {Q:DK} (q:Q (.int r.length) M):fLen [rw r] M Q:=Sq.len (.inl rfl) (by simpa using q)
theorem Dk {r r':List Rat} (h:r.length=r'.length) (e:∀ i,i<r.length->ri r i=ri r' i):r=r':=by
 refine List.ext_getElem h fun i h1 h2=>?_;have:=e i h1
 simpa[ri,List.getD,h1,h2] using this
theorem Jw (n:Nat) (h:n<=100):Builtin.Range.small 0 (n:Int) 2=true/\0<=Builtin.Range.rangeSize 0 (n:Int) 2/\rngN 0 (n:Int) 2<=n:=by
 have key:∀ m:_root_.Fin 101,Builtin.Range.small 0 ((m.val:Nat):Int) 2=true/\0<=Builtin.Range.rangeSize 0 ((m.val:Nat):Int) 2/\rngN 0 ((m.val:Nat):Int) 2<=m.val:=by decide +kernel
 exact key ⟨n,by omega⟩
theorem BZ (c:Int) (n:Nat) (h1:1<=c) (h2:c<=100):∃ z:Nat,z<=100/\(z:Int)<=c/\(if (1:Int)<(if c<(n:Int) then c else (n:Int)) then (if c<(n:Int) then c else (n:Int)) else 1)=(z:Int):=by
 by_cases a:c<(n:Int)
 ·rw[if_pos a]
  by_cases b:1<c
  ·rw[if_pos b];exact⟨c.toNat,by omega,by omega,by omega⟩
  ·rw[if_neg b];exact⟨1,by omega,by omega,by omega⟩
 ·rw[if_neg a]
  by_cases b:(1:Int)<n
  ·rw[if_pos b];exact⟨n,by omega,by omega,rfl⟩
  ·rw[if_neg b];exact⟨1,by omega,by omega,by omega⟩
structure Eu (B o n f s:Int):Prop where
 o0:0<=o
 o1:o<=B
 n0:0<=n
 n1:n<=B
 f1:f.natAbs<=B.natAbs
 s1:s.natAbs<=B.natAbs
 sg:(0<=f/\s<=0/\n*f-o*s=B)\/(f<=0/\0<=s/\o*s-n*f=B)
theorem WH {n s B:Int} (hn:1<=n) (hs:0<=s) (h:n*s<=B):s<=B:=by
 have:=Int.mul_le_mul_of_nonneg_right hn hs;omega
theorem Eu.step {B o n f s:Int} (e:Eu B o n f s) (hn:n≠0):Eu B n (o-o.fdiv n*n) s (f-o.fdiv n*s)/\(o-o.fdiv n*n).toNat<n.toNat:=by
 obtain⟨o0,o1,n0,n1,f1,s1,sg⟩:=e;have np:0<n:=by omega
 have hm:=Int.mul_fdiv_add_fmod o n;have hr:=Yx (x:=o) np;have hk:0<=o.fdiv n:=by
  rw[Int.fdiv_eq_ediv_of_nonneg _ n0];exact Int.ediv_nonneg o0 n0
 generalize o.fdiv n=k at *;generalize o.fmod n=r at *;have er:o-k*n=r:=by rw[Int.mul_comm k n];omega
 rw[er];have hs':∀ x:Int,k*x=k*x:=fun _=>rfl;rcases sg with ⟨a,b,c⟩|⟨a,b,c⟩
 ·have ks:k*s<=0:=Int.mul_nonpos_of_nonneg_of_nonpos hk b
  have c':n*(f-k*s)-r*s=B:=by
   rw[<- er,<- c];grind
  have rs:r*s<=0:=Int.mul_nonpos_of_nonneg_of_nonpos hr.1 b;have hb:=WH (n:=n) (s:=f-k*s) (B:=B) (by omega) (by omega) (by omega);exact⟨⟨n0,n1,hr.1,by omega,s1,by omega,.inr ⟨b,by omega,c'⟩⟩,by omega⟩
 ·have ks:0<=k*s:=Int.mul_nonneg hk b
  have c':r*s-n*(f-k*s)=B:=by
   rw[<- er,<- c];grind
  have rs:0<=r*s:=Int.mul_nonneg hr.1 b;have hb:=WH (n:=n) (s:=-(f-k*s)) (B:=B) (by omega) (by omega) (by rw[Int.mul_neg];omega);exact⟨⟨n0,n1,hr.1,by omega,s1,by omega,.inl ⟨b,by omega,by omega⟩⟩,by omega⟩
theorem U4 {x b:Int} (hb:0<b):(x.fdiv b).natAbs<=x.natAbs+b.natAbs:=by
 have hm:=Int.mul_fdiv_add_fmod x b;have hr:=Yx (x:=x) hb;have h1:(x.fdiv b).natAbs<=(b*x.fdiv b).natAbs:=by
  rw[Int.natAbs_mul];exact Nat.le_mul_of_pos_left _ (by omega)
 refine Nat.le_trans h1 ?_;rw[show b*x.fdiv b=x-x.fmod b by omega];exact Nat.le_trans (Int.natAbs_sub_le _ _) (Nat.add_le_add_left (Nat.le_of_lt (Int.natAbs_lt_natAbs_of_nonneg_of_lt hr.1 hr.2)) _)
noncomputable def S_45:DSp:=fun ds M Q E=>∃ q:Rat,ds=[nm q]/\Sz 40 q/\∀ r,Sz 100 r->Q (nm r) M
noncomputable def C_45:CSs:=%[.asg (.tup %[.name 1,.name 2|0]) (.var 0),.par 3 4 (.bin .Mod (.var 1) (.var 2)) (.var 2),.asg (.tup %[.name 5,.name 6|0]) (.tup %[.int 1,.int 0|0]),.whl (.cmp .NotEq (.var 4) (.int 0)) %[.set 7 (.bin .FloorDiv (.var 3) (.var 4)),.par 3 4 (.var 4) (.bin .Sub (.var 3) (.bin .Mult (.var 7) (.var 4))),.par 5 6 (.var 6) (.bin .Sub (.var 5) (.bin .Mult (.var 7) (.var 6)))|0],.set 8 (.bin .Mod (.var 5) (.var 2)),.ife (.cmp .Eq (.var 8) (.int 0)) %[.set 8 (.int 1)|0] .nil,.ret (.call "_law_low" S_30 %[.bin .FloorDiv (.bin .Sub (.bin .Mult (.var 1) (.var 8)) (.int 1)) (.var 2),.var 8|0])|0]
theorem Gm:∀ ds M R E,S_45 ds M R E->rSs C_45 (ends R E) (Y2 9 ds) M:=by
 rintro ds M R E ⟨q,rfl,sq,h⟩;unfold C_45;have hd:=den_pos q;have hd1:=Yi sq;have hn1:=sq.1;sleep 1;refine⟨_,rfl,rfl,_,_,rfl,_,_,rfl,rfl,?_⟩;sleep 1;refine⟨by have:=q.den_nz;omega,?_⟩;sleep 1;have hr:=Yx (x:=q.num) hd;generalize (q.den:Int)=B at hd hd1 hr ⊢;rw[Yb];refine⟨fun m δ M'=>∃ o n f s w,Eu B o n f s/\δ=[some (nm q),some (.int q.num),some (.int B),some (.int o),some (.int n),some (.int f),some (.int s),w,none]/\M'=M/\m=n.toNat,⟨_,q.num.fmod B,B,1,0,none,⟨hr.1,by omega,by omega,by omega,by omega,by omega,.inl ⟨by decide,by decide,by omega⟩⟩,rfl,rfl,rfl⟩,?_⟩;rintro m δ M' ⟨o,n,f,s,w,eu,rfl,rfl,rfl⟩;simp[0,Yr,vAt,vHd,Yc,Yo,bMul,bAdd,sOp,Ye,Ym,fIsi,Yq,and_assoc,sizeLine_eq,Yl,and_true];refine YA true ?_;by_cases hn:n=0
 ·subst hn
  simp;sleep 1;refine⟨by omega,?_⟩;have hf:=Yx (x:=f) hd;have rest:∀ v:Int,1<=v->v<=B->rSs (.cons (.ret (.call "_law_low" S_30 (.cons (.bin .FloorDiv (.bin .Sub (.bin .Mult (.var 1) (.var 8)) (.int 1)) (.var 2)) (.cons (.var 8) (.nil))))) (.nil)) (ends R E) [some (nm q),some (.int q.num),some (.int B),some (.int o),some (.int 0),some (.int f),some (.int s),w,some (.int v)] M':=by
   intro v v0 v1;sleep 1;have hv:v.natAbs<2 ^ 40:=by omega
   have hx:=YW hn1 hv;have hy:=Nat.le_trans (U4 (x:=q.num*v-1) hd) (Nat.add_le_add_right (Int.natAbs_sub_le (q.num*v) 1) _);have hz:(1:Int).natAbs=1:=rfl;have hw:(2:Nat) ^ (40+40)=2 ^ 80:=rfl;refine⟨YS hn1 hv (by decide),YZ (by omega) (Nat.lt_of_lt_of_le hd1 (Yd (by decide))),_,_,rfl,by omega,Nat.lt_of_lt_of_le hv (Yd (by decide)),h _ (Z5 (by omega) (by omega) (by omega))⟩
  sleep 1;refine YA false ?_;by_cases h8:f.fmod B=0
  ·simp[h8]
   sleep 1;exact rest 1 (by omega) (by omega)
  ·simp[h8]
   exact rest _ (by omega) (by omega)
 ·simp[hn]
  have on:=eu.o1;have nn:=eu.n1;have n0:=eu.n0;have o0:=eu.o0;have ss:=eu.s1;have hk:=U4 (x:=o) (b:=n) (by omega);refine⟨fun δ' M1=>δ'=[some (nm q),some (.int q.num),some (.int B),some (.int n),some (.int (o-o.fdiv n*n)),some (.int s),some (.int (f-o.fdiv n*s)),some (.int (o.fdiv n)),none]/\M1=M',?_,?_⟩
  ·rintro δ' M1 ⟨rfl,rfl⟩
   obtain⟨e1,e2⟩:=eu.step hn;exact⟨_,by omega,_,_,_,_,e1,⟨_,rfl⟩,rfl,rfl⟩
  ·sleep 1
   refine⟨YZ hn (Nat.lt_of_le_of_lt (show n.natAbs<=B.natAbs by omega) (Nat.lt_of_lt_of_le hd1 (Yd (by decide)))),?_⟩;sleep 1;refine⟨YS (m:=64) (n:=64) (by omega) (by omega) (by decide),?_⟩;sleep 1;exact YS (m:=64) (n:=64) (by omega) (by omega) (by decide)
structure Kp (M M':Mem):Prop where
 ls:∀ b xs,M b=some (.ls xs)->∃ ys,M' b=some (.ls ys)
 dk:∀ b xs,M b=some (.dk xs)->∃ ys,M' b=some (.dk ys)
theorem Dr.kp {a:Addr} {M M':Mem} (p:Pk M a) (y:Dr a M M'):Kp M M':=by
 obtain⟨v,hv⟩:=p;obtain⟨v',hv'⟩:=y.pk;refine⟨fun b xs h=>?_,fun b xs h=>?_⟩
 ·by_cases hb:b=a
  ·subst hb;exact⟨_,hv'⟩
  ·exact⟨_,y.keep _ _ hb h⟩
 ·refine⟨_,y.keep _ _ (fun hb=>?_) h⟩
  subst hb;rw[hv] at h;cases h
mutual
theorem Gd.kp {M M':Mem} (e:Kp M M'):∀ d,Gd M d->Gd M' d
 | .tup xs,h=>by unfold Gd at h ⊢;exact Gds.kp e xs h
 | .lst a,h=>by unfold Gd at h ⊢;obtain⟨xs,q⟩:=h;exact e.ls _ _ q
 | .dct a,h=>by unfold Gd at h ⊢;obtain⟨xs,q⟩:=h;exact e.dk _ _ q
 | .int i,h=>by unfold Gd at h ⊢;exact h
 | .non,_=>by unfold Gd;trivial
 | .bl _,_=>by unfold Gd;trivial
 | .str _,_=>by unfold Gd;trivial
 | .fz _,_=>by unfold Gd;trivial
 | .ty _,h=>by unfold Gd at h;exact h.elim
 | .ref _,h=>by unfold Gd at h;exact h.elim
 | .exc _ _,h=>by unfold Gd at h;exact h.elim
 | .cls _,h=>by unfold Gd at h;exact h.elim
theorem Gds.kp {M M':Mem} (e:Kp M M'):∀ ds,Gds M ds->Gds M' ds
 | [],_=>by unfold Gds;trivial
 | d::r,h=>by unfold Gds at h ⊢;exact⟨Gd.kp e d h.1,Gds.kp e r h.2⟩
end
theorem log2_lt {x k:Nat} (h:x<2 ^ k):x.log2<=k:=by
 by_cases hx:x=0
 ·subst hx;simp
 ·exact Nat.le_of_lt ((Nat.log2_lt hx).mpr h)
theorem gi {M:Mem} {i:Int} (h:i.natAbs<2 ^ 3000):Gd M (.int i):=by unfold Gd;exact h
theorem gl {M:Mem} {p:Addr} {xs:List DL.D} (h:M p=some (.ls xs)):Gd M (.lst p):=by unfold Gd;exact⟨_,h⟩
theorem gdk {M:Mem} {p:Addr} {xs} (h:M p=some (.dk xs)):Gd M (.dct p):=by unfold Gd;exact⟨_,h⟩
theorem gn {M:Mem}:Gd M .non:=by unfold Gd;trivial
theorem gbl {M:Mem} {b:Bool}:Gd M (.bl b):=by unfold Gd;trivial
theorem gs {M:Mem} {x:Str}:Gd M (.str x):=by unfold Gd;trivial
theorem gt0 {M:Mem}:Gd M (.tup []):=.mk nofun
theorem gtc {M:Mem} {d:DL.D} {r:List DL.D} (h:Gd M d) (hr:Gd M (.tup r)):Gd M (.tup (d::r)):=.mk fun e he=>by
 rcases List.mem_cons.mp he with rfl|he
 ·exact h
 ·exact hr.tup e he
theorem gsm {M:Mem} {i:Int} (h:i.natAbs<1000):Gd M (.int i):=gi (Nat.lt_of_lt_of_le (show i.natAbs<2 ^ 10 by omega) (Yd (by decide)))
theorem Wr {M:Mem} {p:Addr} {xs:List DL.D} {r:Int} (_:M p=some (.ls xs)) (h0:0<=r) (h1:r<xs.length):∃ v,v∈xs/\L2.atI xs r=some v:=Gc h0 h1
theorem gnm {M:Mem} {q:Rat} {k:Nat} (h:Sz k q) (hk:k<=3000:=by decide):Gd M (nm q):=.nm h hk
theorem Xt {xs:List DL.D} (h:xs.length≠2):Yp (.tup xs)=false:=by
 unfold Yp num?;split
 ·rename_i z;cases z;simp at h
 ·rfl
theorem Z6 {a b:Int} (h:b<1\/Int.gcd a b≠1):Yp (.tup [.int a,.int b])=false:=by
 unfold Yp;rw[XY,if_neg (by omega)];rfl
theorem JL {d:DL.D} (h:∀ xs,d≠.tup xs):Yp d=false:=by
 unfold Yp num?;split
 ·exact absurd rfl (h _)
 ·rfl
theorem Ws {l m:Int} {r:List Rat} (h1:l<=r.length) (h2:(r.length:Int)<=m):Ya l m (rw r)=true:=by
 unfold Ya rw;simp only[List.length_map,Bool.and_eq_true,decide_eq_true_eq];refine⟨⟨h1,h2⟩,?_⟩;rw[List.all_eq_true];intro x hx;obtain⟨q,_,rfl⟩:=List.mem_map.mp hx;exact Wc q
theorem Xg {M:Mem} {r:List Rat} {k:Nat} (h:∀ x∈r,Sz k x) (hk:k<=2900):Gd M (rw r):=.mk fun d hd=>by
 obtain⟨q,hq,rfl⟩:=List.mem_map.mp hd;exact .nm (h q hq) (by omega)
noncomputable def S_8:DSp:=fun ds M Q E=>∃ d,ds=[d]/\Gd M d/\∀ M',MExt M M'->Q (.bl (Ya 1 24 d)) M'
noncomputable def C_8:CSs:=%[.ret (.call "are_numbers" S_7 %[.var 0,.int 1,.bin .Sub (.glo "MOST_PLACES" Zm) (.int 1)|0])|0]
theorem vc_8:∀ ds M R E,S_8 ds M R E->rSs C_8 (ends R E) (Y2 1 ds) M:=by
 rintro ds M R E ⟨d,rfl,g,q⟩;unfold C_8;sleep 1;exact⟨d,1,24,rfl,by decide,g,q⟩
noncomputable def S_9:DSp:=fun ds M Q E=>∃ d,ds=[d]/\Gd M d/\∀ M',MExt M M'->if Ya 1 24 d=true then Q .non M' else E (.exc "NoRow" .non) M'
noncomputable def C_9:CSs:=%[.ife (.not (.call "are_steps" S_8 %[.var 0|0])) %[.rse "NoRow" %[.str "these are no steps"|0]|0] .nil|0]
theorem vc_9:∀ ds M R E,S_9 ds M R E->rSs C_9 (ends R E) (Y2 1 ds) M:=by
 rintro ds M R E ⟨d,rfl,g,q⟩;unfold C_9;sleep 1;refine⟨d,rfl,g,fun M1 x1=>?_⟩;have:=q M1 x1;cases h:Ya 1 24 d with
 | true=>rw [h,if_pos rfl] at this;simpa using this
 | false =>
  rw[h,if_neg (by decide)] at this;simp;sleep 1;exact this
noncomputable def S_10:DSp:=fun ds M Q E=>∃ r k,ds=[rw r]/\(∀ x∈r,Sz k x)/\k<=3900/\1<=r.length/\r.length<=100/\∀ M',MExt M M'->Q (rw (V8 r)) M'
noncomputable def C_10:CSs:=%[.ret (.bi .tuple %[.comp ["row","at"] 1 (.name 1) (.rng %[.int 1,.bi .len %[.var 0|0]|0]) (.call "taken" S_5 %[.ix (.var 0) (.var 1),.ix (.var 0) (.bin .Sub (.var 1) (.int 1))|0])|0])|0]
theorem GY:∀ ds M R E,S_10 ds M R E->rSs C_10 (ends R E) (Y2 1 ds) M:=by
 rintro ds M R E ⟨r,k,rfl,sz,hk,h1,h2,q⟩;unfold C_10;sleep 1;refine Z7 (List.range (r.length-1)) (fun i=>.int (1+(i:Int))) (fun i=>nm (ri r (i+1)-ri r i)) ?_ (by simp;omega) ?_ ?_
 ·intro R' r'
  simp[0,Yr,vAt,vHd,Yc,Yo,bMul,bAdd,sOp,Ye,Ym,fIsi,Yq,and_assoc,sizeLine_eq,Yl,YQ];refine Dj ?_;have e:rngD 1 1 (r.length-1)=(List.range (r.length-1)).map fun i=>.int (1+(i:Int)):=by
   unfold rngD;simp
  refine⟨by omega,by omega,?_⟩
  (try refine⟨by omega,by omega,?_⟩)
  rw[show ((r.length:Int)-1).toNat=r.length-1 by omega,e];exact r' _ fun _ _=>trivial
 ·intro i hi' l M' R' hl e r'
  obtain⟨a,rfl⟩:=len1 hl;have hi2:i<r.length-1:=by simpa using hi'
  sleep 2;rw[show (1:Int)+(i:Int)=((i+1:Nat):Int) by omega];refine VI (i:=i+1) (by omega) ?_;rw[show ((i+1:Nat):Int)-1=(i:Int) by omega];refine VI (i:=i) (by omega) ?_;refine⟨_,_,rfl,.mk (sz _ (Yn (by omega))) (sz _ (Yn (by omega))) (by omega),?_⟩;exact r' [_] M' rfl (.refl _)
 ·intro p M' hp e l
  refine⟨_,l,?_⟩;have:=q M' e
  simpa[rw,V8,Function.comp_def] using this
noncomputable def S_11:DSp:=fun ds M Q E=>∃ d,ds=[d]/\Gd M d/\(Ya 2 25 d=false/\(∀ M',MExt M M'->E (.exc "NoRow" .non) M')\/∃ r k,d=rw r/\(∀ x∈r,Sz k x)/\k<=3900/\2<=r.length/\r.length<=25/\∀ M',MExt M M'->Q (rw (V8 r)) M')
noncomputable def C_11:CSs:=%[.ife (.not (.call "are_numbers" S_7 %[.var 0,.int 2,.glo "MOST_PLACES" Zm|0])) %[.rse "NoRow" %[.str "this is no row"|0]|0] .nil,.ret (.call "differences" S_10 %[.var 0|0])|0]
theorem GX:∀ ds M R E,S_11 ds M R E->rSs C_11 (ends R E) (Y2 1 ds) M:=by
 rintro ds M R E ⟨d,rfl,g,h⟩;unfold C_11;sleep 1;refine⟨d,2,25,rfl,by decide,g,fun M1 x1=>?_⟩;rcases h with ⟨h,q⟩|⟨r,k,rfl,sz,hk,h1,h2,q⟩
 ·rw[h]
  simp;sleep 1;exact q M1 x1
 ·rw[Ws (by omega) (by omega)]
  simp;sleep 1;exact⟨r,k,rfl,sz,hk,by omega,by omega,fun M2 x2=>q M2 (x1.trans x2)⟩
section
variable {M:Mem} {Q:DK} {r s:List Rat} {t u:List (Rat×Rat)} {p:Rat×Rat} {q:Rat} {xs ys:List DL.D} {lo hi:Option Int} {i j k:Int} {a b:Addr} {d:DL.D}
@[simp] theorem Kx:D.tup [nm q]=rw [q]:=rfl
@[simp] theorem Kw {x y:Rat}:D.tup [nm x,nm y]=pl (x,y):=rfl
@[simp] theorem Ky:D.tup [pl p]=tb [p]:=rfl
@[simp] theorem Lg:D.tup (r.map nm++nm q::s.map nm)=rw (r++q::s):=by unfold rw;simp
@[simp] theorem Kz:D.tup (t.map pl++pl p::u.map pl)=tb (t++p::u):=by unfold tb;simp
@[simp] theorem KP:bAdd (.int i) (.int j) M Q=Q (.int (i+j)) M:=rfl
@[simp] theorem KM:bAdd (.tup xs) (.tup ys) M Q=(xs.length+ys.length<=sizeLine/\Q (.tup (xs++ys)) M):=rfl
@[simp] theorem KO:bAdd (.lst a) (.lst b) M Q=(∃ xs ys,M a=some (.ls xs)/\M b=some (.ls ys)/\xs.length+ys.length<=sizeLine/\DL.alloc M (.ls (xs++ys)) fun p M'=>Q (.lst p) M'):=rfl
@[simp] theorem KN:bAdd (rw r) (rw s) M Q=(r.length+s.length<=sizeLine/\Q (rw (r++s)) M):=by
 show ((r.map nm).length+(s.map nm).length<=sizeLine/\Q (.tup (r.map nm++s.map nm)) M)=_;rw[List.length_map,List.length_map,<- List.map_append];rfl
@[simp] theorem KQ:bAdd (tb t) (tb u) M Q=(t.length+u.length<=sizeLine/\Q (tb (t++u)) M):=by
 show ((t.map pl).length+(u.map pl).length<=sizeLine/\Q (.tup (t.map pl++u.map pl)) M)=_;rw[List.length_map,List.length_map,<- List.map_append];rfl
@[simp] theorem Kt:bAdd (rw r) (.tup ys) M Q=(r.length+ys.length<=sizeLine/\Q (.tup (r.map nm++ys)) M):=by
 show ((r.map nm).length+ys.length<=sizeLine/\Q (.tup (r.map nm++ys)) M)=_;rw[List.length_map]
@[simp] theorem Kr:bAdd (.tup ys) (rw r) M Q=(ys.length+r.length<=sizeLine/\Q (.tup (ys++r.map nm)) M):=by
 show (ys.length+(r.map nm).length<=sizeLine/\Q (.tup (ys++r.map nm)) M)=_;rw[List.length_map]
@[simp] theorem Ku:bAdd (tb t) (.tup ys) M Q=(t.length+ys.length<=sizeLine/\Q (.tup (t.map pl++ys)) M):=by
 show ((t.map pl).length+ys.length<=sizeLine/\Q (.tup (t.map pl++ys)) M)=_;rw[List.length_map]
@[simp] theorem Ks:bAdd (.tup ys) (tb t) M Q=(ys.length+t.length<=sizeLine/\Q (.tup (ys++t.map pl)) M):=by
 show (ys.length+(t.map pl).length<=sizeLine/\Q (.tup (ys++t.map pl)) M)=_;rw[List.length_map]
@[simp] theorem KD:bMul (.int i) (.int j) M Q=(IntMulOk i j/\Q (.int (i*j)) M):=rfl
@[simp] theorem KA:bMul (.tup xs) (.int k) M Q=(0<=k/\k<1000000/\xs.length*k.toNat<=sizeLine/\Q (.tup (List.replicate k.toNat xs).flatten) M):=rfl
@[simp] theorem KC:bMul (.lst a) (.int k) M Q=(∃ xs,M a=some (.ls xs)/\0<=k/\k<1000000/\xs.length*k.toNat<=sizeLine/\DL.alloc M (.ls (List.replicate k.toNat xs).flatten) fun p M'=>Q (.lst p) M'):=rfl
theorem VU {α β:Type} (f:α->β) (n:Nat) (r:List α):(List.replicate n (r.map f)).flatten=((List.replicate n r).flatten).map f:=by
 induction n with
 | zero=>rfl
 | succ n ih=>rw [List.replicate_succ,List.replicate_succ,List.flatten_cons,List.flatten_cons,ih,List.map_append]
@[simp] theorem KB:bMul (rw r) (.int k) M Q=(0<=k/\k<1000000/\r.length*k.toNat<=sizeLine/\Q (rw (List.replicate k.toNat r).flatten) M):=by
 show (0<=k/\k<1000000/\(r.map nm).length*k.toNat<=sizeLine/\Q (.tup (List.replicate k.toNat (r.map nm)).flatten) M)=_;rw[List.length_map,VU];rfl
@[simp] theorem KE:bMul (tb t) (.int k) M Q=(0<=k/\k<1000000/\t.length*k.toNat<=sizeLine/\Q (tb (List.replicate k.toNat t).flatten) M):=by
 show (0<=k/\k<1000000/\(t.map pl).length*k.toNat<=sizeLine/\Q (.tup (List.replicate k.toNat (t.map pl)).flatten) M)=_;rw[List.length_map,VU];rfl
theorem Jk {α β:Type} (f:α->β) (xs:List α) (lo hi:Option Int):cutG (xs.map f) lo hi=(cutG xs lo hi).map f:=by
 unfold cutG;simp[List.map_take,List.map_drop]
@[simp] theorem L8:sOp (.fz xs) lo hi M Q=DL.alloc M (.ls (cutG xs lo hi)) fun p M'=>Q (.lst p) M':=rfl
@[simp] theorem L7:sOp (.lst a) lo hi M Q=(∃ xs,M a=some (.ls xs)/\DL.alloc M (.ls (cutG xs lo hi)) fun p M'=>Q (.lst p) M'):=rfl
@[simp] theorem L5:sOp (.tup xs) lo hi M Q=Q (.tup (cutG xs lo hi)) M:=rfl
@[simp] theorem L6:sOp (rw r) lo hi M Q=Q (rw (cutG r lo hi)) M:=by
 show Q (.tup (cutG (r.map nm) lo hi)) M=_;rw[Jk];rfl
@[simp] theorem L9:sOp (tb t) lo hi M Q=Q (tb (cutG t lo hi)) M:=by
 show Q (.tup (cutG (t.map pl) lo hi)) M=_;rw[Jk];rfl
@[simp] theorem La:Yo (.tup xs) (some (-1)) M Q=Q (.tup xs.reverse) M:=by unfold Yo;simp
@[simp] theorem Lb:Yo (rw r) (some (-1)) M Q=Q (rw r.reverse) M:=by
 unfold Yo;rw[show rw r=.tup (r.map nm) from rfl];simp[rw]
@[simp] theorem Lc:Yo (tb t) (some (-1)) M Q=Q (tb t.reverse) M:=by
 unfold Yo;rw[show tb t=.tup (t.map pl) from rfl];simp[tb]
@[simp] theorem KF:fLen [.tup xs] M Q=Q (.int xs.length) M:=rfl
@[simp] theorem KI:fLen [.fz xs] M Q=Q (.int xs.length) M:=rfl
@[simp] theorem KH:fLen [.lst a] M Q=(∃ xs,M a=some (.ls xs)/\Q (.int xs.length) M):=rfl
@[simp] theorem KG:fLen [rw r] M Q=Q (.int r.length) M:=by
 show Q (.int (r.map nm).length) M=_;rw[List.length_map]
@[simp] theorem KJ:fLen [tb t] M Q=Q (.int t.length) M:=by
 show Q (.int (t.map pl).length) M=_;rw[List.length_map]
@[simp] theorem KT:Ye [.tup xs] M Q=Q (.tup xs) M:=rfl
@[simp] theorem KY:Ye [.fz xs] M Q=Q (.tup xs) M:=rfl
@[simp] theorem KW:Ye [.lst a] M Q=(∃ xs,M a=some (.ls xs)/\Q (.tup xs) M):=rfl
@[simp] theorem KU:Ye [rw r] M Q=Q (rw r) M:=rfl
@[simp] theorem KZ:Ye [tb t] M Q=Q (tb t) M:=rfl
@[simp] theorem Lh:Ym [.tup xs] M Q=DL.alloc M (.ls xs) fun p M'=>Q (.lst p) M':=rfl
@[simp] theorem Lk:Ym [.fz xs] M Q=DL.alloc M (.ls xs) fun p M'=>Q (.lst p) M':=rfl
@[simp] theorem Lj:Ym [.lst a] M Q=(∃ xs,M a=some (.ls xs)/\DL.alloc M (.ls xs) fun p M'=>Q (.lst p) M'):=rfl
@[simp] theorem Li:Ym [rw r] M Q=DL.alloc M (.ls (r.map nm)) fun p M'=>Q (.lst p) M':=rfl
@[simp] theorem Ll:Ym [tb t] M Q=DL.alloc M (.ls (t.map pl)) fun p M'=>Q (.lst p) M':=rfl
theorem VW:fIsi [.tup xs,.ty "tuple"] M Q=Q (.bl true) M:=by
 unfold fIsi;simp[tyD,isiT]
@[simp] theorem KK:fIsi [.tup xs,.ty "tuple"] M Q=Q (.bl true) M:=VW
@[simp] theorem LB:fIsi [nm q,.ty "tuple"] M Q=Q (.bl true) M:=VW
@[simp] theorem LA:fIsi [pl p,.ty "tuple"] M Q=Q (.bl true) M:=VW
@[simp] theorem Lz:fIsi [rw r,.ty "tuple"] M Q=Q (.bl true) M:=VW
@[simp] theorem LD:fIsi [tb t,.ty "tuple"] M Q=Q (.bl true) M:=VW
@[simp] theorem LE:fIsi [.non,.ty "tuple"] M Q=Q (.bl false) M:=by unfold fIsi;simp[tyD,isiT]
@[simp] theorem LC {n c:Str} {x:DL.D}:fIsi [.exc n x,.cls c] M Q=Q (.bl (Yw n c)) M:=by unfold fIsi;simp
@[simp] theorem KL {c:Str}:fIsi [.non,.cls c] M Q=Q (.bl false) M:=rfl
@[simp] theorem Ly {n:Str} {x:DL.D}:fIsi [.exc n x,.ty "ValueError"] M Q=Q (.bl true) M:=by unfold fIsi;simp[tyD,isiT]
@[simp] theorem Lq:iOp (nm q) (.int 0) M Q=Q (.int q.num) M:=by
 refine propext ⟨fun h=>?_,fun h=>ix0 h⟩;obtain⟨v,e,h⟩:=h;rw[YG] at e;cases e;exact h
@[simp] theorem Lp:iOp (nm q) (.int 1) M Q=Q (.int q.den) M:=by
 refine propext ⟨fun h=>?_,fun h=>ix1 h⟩;obtain⟨v,e,h⟩:=h;rw[Zl] at e;cases e;exact h
@[simp] theorem Lf:iOp (pl p) (.int 0) M Q=Q (nm p.1) M:=by
 refine propext ⟨fun h=>?_,fun h=>pl0 h⟩;obtain⟨v,e,h⟩:=h;rw[YG] at e;cases e;exact h
@[simp] theorem Le:iOp (pl p) (.int 1) M Q=Q (nm p.2) M:=by
 refine propext ⟨fun h=>?_,fun h=>pl1 h⟩;obtain⟨v,e,h⟩:=h;rw[Zl] at e;cases e;exact h
@[simp] theorem LF {n:Nat} {g:DGs} {δ:DSt} {Q:DSt->Mem->Prop}:Yr n g (.tup xs) δ M Q=(xs.length=n/\g xs δ M Q):=by
 unfold Yr;simp
@[simp] theorem LG {g:DGs} {δ:DSt} {Q:DSt->Mem->Prop}:Yr 2 g (pl p) δ M Q=g [nm p.1,nm p.2] δ M Q:=by
 refine propext ⟨fun h=>?_,fun h=>⟨_,rfl,rfl,h⟩⟩;obtain⟨ds,e,_,h⟩:=h;cases e;exact h
@[simp] theorem LH {g:DGs} {δ:DSt} {Q:DSt->Mem->Prop}:Yr 2 g (nm q) δ M Q=g [.int q.num,.int q.den] δ M Q:=by
 refine propext ⟨fun h=>?_,fun h=>⟨_,rfl,rfl,h⟩⟩;obtain⟨ds,e,_,h⟩:=h;cases e;exact h
@[simp] theorem Lr {R:List DL.D->(Mem->Prop)->Mem->Prop}:Yq (.tup xs) M R=R xs (fun _=>True) M:=rfl
@[simp] theorem Lw {R:List DL.D->(Mem->Prop)->Mem->Prop}:Yq (.fz xs) M R=R xs (fun _=>True) M:=rfl
@[simp] theorem Lu {R:List DL.D->(Mem->Prop)->Mem->Prop}:Yq (.lst a) M R=(∃ xs,M a=some (.ls xs)/\R xs (fun M'=>M' a=some (.ls xs)) M):=rfl
@[simp] theorem Ls {R:List DL.D->(Mem->Prop)->Mem->Prop}:Yq (rw r) M R=R (r.map nm) (fun _=>True) M:=rfl
@[simp] theorem Lx {R:List DL.D->(Mem->Prop)->Mem->Prop}:Yq (tb t) M R=R (t.map pl) (fun _=>True) M:=rfl
@[simp] theorem Lm {R:List DL.D->(Mem->Prop)->Mem->Prop}:WI [rw r,rw s] M R=R ((List.zip r s).map fun z=>pl z) (fun _=>True) M:=by
 show R (zipD (r.map nm) (s.map nm)) _ _=_;unfold zipD;rw[List.zipWith_map,List.zip,List.map_zipWith];rfl
@[simp] theorem Lo {R:List DL.D->(Mem->Prop)->Mem->Prop}:WI [tb t,rw s] M R=R ((List.zip t s).map fun z=>.tup [pl z.1,nm z.2]) (fun _=>True) M:=by
 show R (zipD (t.map pl) (s.map nm)) _ _=_;unfold zipD;rw[List.zipWith_map,List.zip,List.map_zipWith]
@[simp] theorem Ln {R:List DL.D->(Mem->Prop)->Mem->Prop}:WI [rw s,tb t] M R=R ((List.zip s t).map fun z=>.tup [nm z.1,pl z.2]) (fun _=>True) M:=by
 show R (zipD (s.map nm) (t.map pl)) _ _=_;unfold zipD;rw[List.zipWith_map,List.zip,List.map_zipWith]
@[simp] theorem LM {neg:Bool}:cIs neg (nm q) .non M Q=Q (.bl neg) M:=by unfold cIs nm;cases neg<;>rfl
@[simp] theorem LL {neg:Bool}:cIs neg (rw r) .non M Q=Q (.bl neg) M:=by unfold cIs rw;cases neg<;>rfl
@[simp] theorem LN {neg:Bool}:cIs neg (tb t) .non M Q=Q (.bl neg) M:=by unfold cIs tb;cases neg<;>rfl
@[simp] theorem LJ {neg:Bool} {n:Str} {x:DL.D}:cIs neg (.exc n x) .non M Q=Q (.bl neg) M:=by unfold cIs;cases neg<;>rfl
@[simp] theorem LO {neg:Bool}:cIs neg .non .non M Q=Q (.bl !neg) M:=by unfold cIs;cases neg<;>rfl
@[simp] theorem LI {neg b c:Bool}:cIs neg (.bl b) (.bl c) M Q=Q (.bl (if neg then !(b==c) else b==c)) M:=by unfold cIs;cases neg<;>rfl
end
theorem J3 {a b:Int} (h:1<=b) (g:Int.gcd a b=1):D.tup [.int a,.int b]=nm (Rat.divInt a b):=by
 unfold nm;rw[(Uz h g).1,(Uz h g).2]
theorem Zx {s:CS} {rest:CSs} {D:DEnds} {δ:DSt} {M:Mem} (h:∀ J:DSt->Mem->Prop,(∀ δ' M',rSs rest D δ' M'->J δ' M')->rS s {D with nx:=J} δ M):rSs (.cons s rest) D δ M:=by
 rw[Yb];exact h _ fun _ _ h=>h
theorem UJ {α:Type} (xs:List α) (n:Nat) (h:n<=xs.length):cutG xs none (some (n:Int))=xs.take n:=by
 unfold cutG;rw[HT.sIx_none,HT.sIx_nat,List.drop_zero,Nat.sub_zero,Nat.min_eq_left (by omega)]
theorem Vn {α:Type} (xs:List α) (n:Nat) (h:n<=xs.length):cutG xs (some (n:Int)) none=xs.drop n:=by
 unfold cutG;rw[HT.sIx_none,HT.sIx_nat,Nat.min_eq_left (by omega),List.take_of_length_le (by simp)]
theorem KS {α:Type} (xs:List α) (n:Nat) (h:n<xs.length):cutG xs (some (n:Int)) (some ((n:Int)+1))=[xs[n]]:=by
 unfold cutG;rw[show ((n:Int)+1)=((n+1:Nat):Int) by omega,HT.sIx_nat,HT.sIx_nat,Nat.min_eq_left (by omega),Nat.min_eq_left (by omega),show n+1-n=1 by omega,List.drop_eq_getElem_cons h,List.take_succ_cons,List.take_zero]
noncomputable def ZK {α:Type} (s:List α) (n:Nat) (x:α):List α:=s.take n++x::s.drop (n+1)
theorem Jz {α:Type} {s:List α} {n:Nat} {x:α} (h:n<s.length):(ZK s n x).length=s.length:=by
 unfold ZK;simp;omega
theorem Jy {α:Type} {s:List α} {n:Nat} {x y:α} (h:y∈ZK s n x):y∈s\/y=x:=by
 unfold ZK at h;rcases List.mem_append.mp h with h|h
 ·exact .inl (List.mem_of_mem_take h)
 ·rcases List.mem_cons.mp h with h|h
  ·exact .inr h
  ·exact .inl (List.mem_of_mem_drop h)
theorem Cu {α:Type} {s:List α} {n:Nat} {x:α} (h:n<s.length):cutG s none (some (n:Int))++x::cutG s (some ((n:Int)+1)) none=ZK s n x:=by
 rw[UJ _ _ (by omega),show ((n:Int)+1)=((n+1:Nat):Int) by omega,Vn _ _ (by omega)];rfl
theorem XJ {P:Rat->Prop} {g:DG} {te:DE} {keep:Mem->Prop} {p a:Addr} {Q:Mem->Prop} {M0:Mem} (pk0:Pk M0 a) (h0:M0 p=none) (I:DSt->Prop) (hk:∀ M,keep M) :
  ∀ {items:List DL.D} {acc:List Rat},(∀ x∈items,∀ δ M (R:DSt->DK),I δ->Dr a M0 M->(∀ δ1 q M',I δ1->P q->Dr a M M'->R δ1 (nm q) M')->g x δ M fun δ1 M1=>te δ1 M1 fun d M2=>R δ1 d M2) ->
  acc.length+items.length<=1000->(∀ x∈acc,P x)->(∀ (r:List Rat) M',r.length=acc.length+items.length->(∀ x∈r,P x)->Dr a M0 M'->M' p=some (.ls (r.map nm))->Q M') ->
  ∀ {δ M},I δ->Dr a M0 M->M p=some (.ls (acc.map nm))->Z0 g te keep p items (acc.map nm) δ M Q
 | [],acc,_,_,hs,q,δ,M,i,y,l=>by unfold Z0;exact q acc M rfl hs y l
 | x::xs,acc,h,hz,hs,q,δ,M,i,y,l=>by
  have hpa:=pk0.ne h0;unfold Z0;refine h x List.mem_cons_self δ M (fun δ1 d M2=>M2 p=some (.ls (acc.map nm))/\(acc.map nm).length<sizeLine/\keep (M2.upd p (.ls (acc.map nm++[d])))/\Z0 g te keep p xs (acc.map nm++[d]) δ1 (M2.upd p (.ls (acc.map nm++[d]))) Q) i y fun δ1 q' M' i' sq y'=>?_;have e:acc.map nm++[nm q']=(acc++[q']).map nm:=by simp
  rw[e];refine⟨y'.keep _ _ hpa l,?_,hk _,XJ pk0 h0 I hk (fun z hz'=>h z (List.mem_cons_of_mem _ hz')) (by simp at hz ⊢;omega) ?_ (fun r M2 hr=>q r M2 (by simp at hr ⊢;omega)) i' ((y.trans y').upd_new h0 hpa) Y5⟩
  ·rw[sizeLine_eq,List.length_map];simp at hz;omega
  ·intro z hz'
   rcases List.mem_append.mp hz' with hz' | hz'
   ·exact hs z hz'
   ·simp at hz';subst hz';exact sq
end K
end
set_option bootstrap.genMatcherCode true
local macro_rules
 | `(tactic| sleep 7)=>`(tactic| ((try dsimp only);rw[Yb];sleep 8))
 | `(tactic| sleep 8)=>`(tactic| ((try dsimp only[0,vAt,vHd,List.set_cons_succ,List.set_cons_zero,List.cons_append,List.nil_append,List.map,List.length_cons,List.length_nil,Nat.reduceAdd,Nat.reduceSub,List.replicate_succ,List.replicate_zero,Yc,ZF,Yu,dFld,Xk,Xl,Xj]);try simp[0,vAt,vHd,Yc,and_assoc,sizeLine_eq,Yl,ZF,Yu,dFld,Xk,Xl,Xj]))
 | `(tactic| sleep 9)=>`(tactic| ((try dsimp only);rw[Yb];(try dsimp only[rS,rI,dFor,YQ]);sleep 8))
set_option bootstrap.genMatcherCode false
noncomputable section
namespace K
open PySem DL Q
theorem U0 {K:Frag} {mg:Str->Option Value} {n:Str} {a:Addr} {h:Heap} {i j:Int} {t u:Tok} {dd:Option Addr} {sl:Array (Option Value)} {m:Nat} (X:K.In h) (G:h.Ns mainGlobals mg) (e:PySem.W.nsIn K mainGlobals n=some (some (.ref a)))
  (lk:K.lookup a=some ⟨.type "tuple",dd,.seq #[.int i t,.int j u] m,sl⟩):GloE K mg n (.tup [.int i,.int j]):=by
 refine⟨.ref a,.ref a,PySem.W.mg_of X G e,rfl,fun H=>.tup (vs:=[.int i,.int j]) (.inr ⟨_,#[.int i t,.int j u],m,lk,rfl,rfl,?_,?_⟩) (.cons (.int _) (.cons (.int _) .nil))⟩
 ·rw[sizeLine_eq];show 2<=16777216;decide
 ·exact .cons ⟨_,rfl⟩ (.cons ⟨_,rfl⟩ .nil)
abbrev Wv:DL.D:=.tup [.int 0,.int 1]
theorem JQ {T B:Int} (hB:0<B):Int.gcd (2*T) (2*B)≠1:=by
 intro h;have:(2:Int) ∣ (Int.gcd (2*T) (2*B):Int):=Int.dvd_coe_gcd ⟨T,rfl⟩ ⟨B,rfl⟩;rw[h] at this;omega
noncomputable def Cmp (M:Mem) (d e:DL.D) (b:Bool):Prop:=∀ Q':DK,Q' (.bl b) M->cEq false d e M Q'
theorem Cmp.py {M:Mem} {d:DL.D} {q:Rat} {a:PyData} (h:Py M d a):∃ b,Cmp M d (nm q) b:=by
 have hq:Py M (nm q) (.tuple [.int q.num,.int q.den]):=.tup (.cons (.int _) (.cons (.int _) .nil));refine⟨PyData.eqv a (.tuple [.int q.num,.int q.den]),fun Q' z=>Wo h hq ?_ z⟩;have:(PyData.tuple [.int q.num,.int q.den]).depth<=3:=by simp[PyData.depth,PyData.depthAll]
 omega
theorem VF (x:String):PyData.canLay0 (.str (Str.ofString x))=true:=by
 show PyData.strOk _=true;unfold PyData.strOk;rw[Str.ofString_eq_toList];simp;intro c _;have:=c.valid;simp only[UInt32.isValidChar,Nat.isValidChar] at this;show c.toNat<1114112;have e:c.toNat=c.val.toNat:=rfl;rcases this with h|h
 ·omega
 ·omega
noncomputable def S_37:DSp:=fun ds M Q E=>∃ a q,ds=[.lst a,nm q]/\Pk M a/\Sz 200 q/\∀ d M' b,Gd M' d->Cmp M' d (nm q) b->(b=false->Yp d=false)->((∀ xs,d≠.tup xs)->Yp d=false)->Dr a M M'->Q d M'
theorem Yf {M:Mem} {d:DL.D} {q:Rat} {a:PyData} (h:Py M d a) (hn:Yp d=false):∃ b,Cmp M d (nm q) b/\(b=false->Yp d=false):=by
 obtain⟨b,hb⟩:=Cmp.py (q:=q) h;exact⟨b,hb,fun _=>hn⟩
noncomputable def C_37:CSs:=%[.asg (.tup %[.name 2,.name 3|0]) (.var 1),.set 4 (.lst %[.tup %[.bin .Mult (.int 2) (.var 2),.bin .Mult (.int 2) (.var 3)|0],.tup %[.bin .Sub (.int 0) (.var 2),.bin .Sub (.int 0) (.var 3)|0],.lst %[.var 2,.var 3|0],.tup %[.var 2,.var 3,.int 1|0],.tup %[.var 2|0],.var 2,.non,.bl true|0]),.set 4 (.bin .Add (.var 4) (.lst %[.tup %[.int 0,.int 2|0],.tup %[.int 1,.int 0|0],.tup %[.var 2,.bl true|0],.tup %[.bl true,.var 3|0],.tup %[.var 2,.non|0],.tup %[.bi .str %[.var 2|0],.var 3|0],.tup %[.tup %[.var 2,.var 3|0]|0],.tup .nil|0])),.set 4 (.bin .Add (.var 4) (.lst %[.tup %[.int 0,.int 0|0],.str "1",.dic0,.lst .nil,.tup %[.var 2,.lst %[.var 3|0]|0],.tup %[.tup %[.var 2|0],.var 3|0],.tup %[.non,.int 1|0],.tup %[.bl false,.int 1|0],.tup %[.int 0,.neg (.int 1)|0],.var 1|0])),.ret (.ix (.var 4) (.call "_law_take" S_29 %[.var 0,.int 26|0]))|0]
theorem Gx:∀ ds M R E,S_37 ds M R E->rSs C_37 (ends R E) (Y2 5 ds) M:=by
 rintro ds M R E ⟨a,q,rfl,pk,sq,h⟩;unfold C_37;have hn:=sq.1;have hd:=Yi sq;have dp:=den_pos q;have gq:∀ M,Gd M (nm q):=fun M=>.nm sq (by decide);sleep 7;generalize (q.den:Int)=B at hd dp ⊢;generalize q.num=T at hn ⊢;sleep 7;refine⟨YS (m:=200) (n:=200) (by decide) (Nat.lt_of_lt_of_le hn (Yd (by decide))) (by decide),YS (m:=200) (n:=200) (by decide) (Nat.lt_of_lt_of_le hd (Yd (by decide))) (by decide),?_⟩;intro p1 M1 e1 x1 l1;intro p2 M2 e2 x2 l2;sleep 7;refine⟨Nat.lt_of_le_of_lt (log2_lt hn) (by decide),?_⟩;intro p3 M3 e3 x3 l3;refine⟨_,x3 _ _ l2,_,l3,(by decide:8+8<=16777216),?_⟩;intro p4 M4 e4 x4 l4;sleep 7;intro p5 M5 e5 x5 l5;intro p6 M6 e6 x6 l6;intro p7 M7 e7 x7 l7;intro p8 M8 e8 x8 l8;have xx:MExt M4 M8:=x5.trans (x6.trans (x7.trans x8));refine⟨_,xx _ _ l4,_,l8,(by decide:16+10<=16777216),?_⟩;intro p9 M9 e9 x9 l9;have x19:MExt M1 M9:=x2.trans (x3.trans (x4.trans (xx.trans x9)));have xM:MExt M M9:=x1.trans x19
 have pk9:=pk.ext xM;sleep 7;refine YB pk9 (by decide) (by decide) fun r M10 r0 r1 y=>?_;obtain⟨v,hv,hat⟩:=Wr l9 r0 r1;refine Y8 (y.keep _ _ ((pk.ext (x1.trans (x2.trans (x3.trans (x4.trans xx))))).ne e9) l9) hat ?_;have gT:Gd M9 (.int T):=gi (Nat.lt_of_lt_of_le hn (Yd (by decide)));have gB:Gd M9 (.int B):=gi (Nat.lt_of_lt_of_le hd (Yd (by decide)));have g1:Gd M9 (.int (2*T)):=gi (Nat.lt_of_lt_of_le (show (2*T).natAbs<2 ^ 201 by omega) (Yd (by decide)));have g2:Gd M9 (.int (2*B)):=gi (Nat.lt_of_lt_of_le (show (2*B).natAbs<2 ^ 201 by omega) (Yd (by decide)));have g3:Gd M9 (.int (-T)):=gi (Nat.lt_of_lt_of_le (show (-T).natAbs<2 ^ 201 by omega) (Yd (by decide)));have g4:Gd M9 (.int (-B)):=gi (Nat.lt_of_lt_of_le (show (-B).natAbs<2 ^ 201 by omega) (Yd (by decide)));have l1':=x19 _ _ l1;have l5':=x9 _ _ (x8 _ _ (x7 _ _ (x6 _ _ l5)));have l6':=x9 _ _ (x8 _ _ (x7 _ _ l6));have l7':=x9 _ _ (x8 _ _ l7)
 have k1:Gd M9 (.lst p1):=gl l1';have k5:Gd M9 (.dct p5):=gdk l5';have k6:Gd M9 (.lst p6):=gl l6';have k7:Gd M9 (.lst p7):=gl l7';have kq:=gq M9;have pk4:=pk.ext (x1.trans (x2.trans (x3.trans x4)));have m1:=y.keep _ _ (pk.ne e1) l1';have m5:=y.keep _ _ (pk4.ne e5) l5';have m6:=y.keep _ _ ((pk4.ext x5).ne e6) l6';have m7:=y.keep _ _ ((pk4.ext (x5.trans x6)).ne e7) l7';have gv:Gd M9 v:=by
  simp only[List.mem_append,List.mem_cons,List.not_mem_nil,or_false] at hv;rcases hv with ((rfl|rfl|rfl|rfl|rfl|rfl|rfl|rfl)|rfl|rfl|rfl|rfl|rfl|rfl|rfl|rfl)|rfl|rfl|rfl|rfl|rfl|rfl|rfl|rfl|rfl|rfl
  all_goals repeat' (first|assumption|exact gn|exact gbl|exact gs|exact gt0|exact gsm (by decide)|refine gtc ?_ ?_)
 have key:(∃ b,Cmp M10 v (nm q) b/\(b=false->Yp v=false))/\((∀ xs,v≠.tup xs)->Yp v=false):=by
  refine⟨?_,JL⟩;simp only[List.mem_append,List.mem_cons,List.not_mem_nil,or_false] at hv;rcases hv with ((rfl|rfl|rfl|rfl|rfl|rfl|rfl|rfl)|rfl|rfl|rfl|rfl|rfl|rfl|rfl|rfl)|rfl|rfl|rfl|rfl|rfl|rfl|rfl|rfl|rfl|rfl
  ·exact Yf (.tup (.cons (.int _) (.cons (.int _) .nil))) (Z6 (.inr (JQ dp)))
  ·exact Yf (.tup (.cons (.int _) (.cons (.int _) .nil))) (Z6 (.inl (by omega)))
  ·exact Yf (.lst m1 (.cons (.int _) (.cons (.int _) .nil))) rfl
  ·exact Yf (.tup (.cons (.int _) (.cons (.int _) (.cons (.int _) .nil)))) (Xt (show 3≠2 by decide))
  ·exact Yf (.tup (.cons (.int _) .nil)) (Xt (show 1≠2 by decide))
  ·exact Yf (.int _) rfl
  ·exact Yf .non rfl
  ·exact Yf (.bl _) rfl
  ·exact Yf (.tup (.cons (.int _) (.cons (.int _) .nil))) (Z6 (.inr (by decide)))
  ·exact Yf (.tup (.cons (.int _) (.cons (.int _) .nil))) (Z6 (.inl (by decide)))
  ·exact Yf (.tup (.cons (.int _) (.cons (.bl _) .nil))) rfl
  ·exact Yf (.tup (.cons (.bl _) (.cons (.int _) .nil))) rfl
  ·exact Yf (.tup (.cons (.int _) (.cons .non .nil))) rfl
  ·exact Yf (.tup (.cons (.str _ (VF _)) (.cons (.int _) .nil))) rfl
  ·exact Yf (.tup (.cons (.tup (.cons (.int _) (.cons (.int _) .nil))) .nil)) (Xt (show 1≠2 by decide))
  ·exact Yf (.tup .nil) rfl
  ·exact Yf (.tup (.cons (.int _) (.cons (.int _) .nil))) (Z6 (.inl (by decide)))
  ·exact Yf (.str _ (VF _)) rfl
  ·exact⟨false,fun Q' z=>⟨rfl,⟨_,m5⟩,⟨_,rfl⟩,z⟩,fun _=>rfl⟩
  ·exact Yf (.lst m6 .nil) rfl
  ·exact Yf (.tup (.cons (.int _) (.cons (.lst m7 (.cons (.int _) .nil)) .nil))) rfl
  ·exact Yf (.tup (.cons (.tup (.cons (.int _) .nil)) (.cons (.int _) .nil))) rfl
  ·exact Yf (.tup (.cons .non (.cons (.int _) .nil))) rfl
  ·exact Yf (.tup (.cons (.bl _) (.cons (.int _) .nil))) rfl
  ·exact Yf (.tup (.cons (.int _) (.cons (.int _) .nil))) (Z6 (.inl (by decide)))
  ·exact⟨true,fun Q' z=>U5 false (by simpa using z),nofun⟩
 obtain⟨⟨b,c1,c2⟩,c3⟩:=key;exact h v M10 b (Gd.kp (y.kp pk9) v gv) c1 c2 c3 ((Dr.ext pk xM).trans y)
noncomputable def J4 (n:Str):List Bool:=[Yw n "NoNumber",Yw n "NoText",Yw n "NoTube",Yw n "NoRow",Yw n "NoMeasure",Yw n "NoLevel",Yw n "NoData",Yw n "NoPrice",Yw n "NoNeeds",Yw n "NoRoom",Yw n "NoJobs",Yw n "NoCall",Yw n "NoKept"]
structure Only (n:Str) (i:Int):Prop where
 c:Yw n "CordError"=true
 k:J4 n=(List.range 13).map fun j:Nat=>decide ((j:Int)=i)
theorem Ay:Only "NoRow" 3:=⟨by decide +kernel,by decide +kernel⟩
theorem Uv (M:Mem):∀ bs:List Bool,Pys M (bs.map .bl) (bs.map .bool)
 | []=>.nil
 | b::bs=>.cons (.bl b) (Uv M bs)
theorem U9:∀ bs:List Bool,PyData.depthAll (bs.map .bool)<=2
 | []=>by simp[PyData.depthAll]
 | b::bs=>by have:=U9 bs;simp only[List.map_cons,PyData.depthAll,PyData.depth];omega
theorem B7:∀ bs:List Bool,PyData.eqvAll (bs.map .bool) (bs.map .bool)=true
 | []=>rfl
 | b::bs=>by simp[PyData.eqvAll,PyData.eqv,B7 bs]
theorem Fj {M:Mem} {Q:DK} {p p':Addr} {bs:List Bool} (l:M p=some (.ls (bs.map .bl))) (l':M p'=some (.ls (bs.map .bl))) (q:Q (.bl true) M):cEq false (.lst p) (.lst p') M Q:=by
 refine Wo (.lst l (Uv M bs)) (.lst l' (Uv M bs)) ?_ ?_
 ·have:=U9 bs
  simp only[PyData.depth];omega
 ·rw[show PyData.eqv (.list (bs.map .bool)) (.list (bs.map .bool))=true from B7 bs];exact q
theorem Ze {n:Nat} (h:n<100):n<=sizeLine/\n<sizeLine:=by rw[sizeLine_eq];omega
theorem Wz {M:Mem} {A B:Mem->Prop} (h:B M):truD (.bl true) M fun c M1=>if (!c)=true then A M1 else B M1:=h
noncomputable def S_36:DSp:=fun ds M Q E=>∃ (n:Str) (i:Int),ds=[.exc n .non,.int i]/\Only n i/\∀ M',MExt M M'->Q (.bl true) M'
noncomputable def C_36:CSs:=%[.set 2 (.lst %[.bi .isinstance %[.var 0,.glo "NoNumber" (.cls "NoNumber")|0],.bi .isinstance %[.var 0,.glo "NoText" (.cls "NoText")|0],.bi .isinstance %[.var 0,.glo "NoTube" (.cls "NoTube")|0],.bi .isinstance %[.var 0,.glo "NoRow" (.cls "NoRow")|0]|0]),.set 2 (.bin .Add (.var 2) (.lst %[.bi .isinstance %[.var 0,.glo "NoMeasure" (.cls "NoMeasure")|0],.bi .isinstance %[.var 0,.glo "NoLevel" (.cls "NoLevel")|0],.bi .isinstance %[.var 0,.glo "NoData" (.cls "NoData")|0],.bi .isinstance %[.var 0,.glo "NoPrice" (.cls "NoPrice")|0]|0])),.set 2 (.bin .Add (.var 2) (.lst %[.bi .isinstance %[.var 0,.glo "NoNeeds" (.cls "NoNeeds")|0],.bi .isinstance %[.var 0,.glo "NoRoom" (.cls "NoRoom")|0],.bi .isinstance %[.var 0,.glo "NoJobs" (.cls "NoJobs")|0],.bi .isinstance %[.var 0,.glo "NoCall" (.cls "NoCall")|0]|0])),.set 2 (.bin .Add (.var 2) (.lst %[.bi .isinstance %[.var 0,.glo "NoKept" (.cls "NoKept")|0]|0])),.ife (.or (.not (.bi .isinstance %[.var 0,.glo "CordError" (.cls "CordError")|0])) (.one (.not (.bi .isinstance %[.var 0,.ty .valueError|0])))) %[.ret (.bl false)|0] .nil,.ret (.cmp .Eq (.var 2) (.comp ["_law_e","_law_at","_law_found","_law_k"] 1 (.name 3) (.rng %[.int 13|0]) (.cmp .Eq (.var 3) (.var 1))))|0]
theorem Gy:∀ ds M R E,S_36 ds M R E->rSs C_36 (ends R E) (Y2 3 ds) M:=by
 rintro ds M R E ⟨n,i,rfl,O,h⟩;unfold C_36
 (try dsimp only);rw[Yb]
 dsimp only[rS,rE,rEs,DL.plain,dAsg,dLst,YK,dNil,dCB,Wp,fIsi,dVar,vAt,vHd,List.map,List.length_cons,List.length_nil,Nat.reduceAdd,Nat.reduceSub,List.replicate_succ,List.replicate_zero,List.cons_append,List.nil_append,List.set_cons_succ,List.set_cons_zero,dC,Z1,Y2];refine⟨_,rfl,_,rfl,_,rfl,_,rfl,(Ze (n:=4) (by decide)).1,fun p1 M1 e1 x1 l1=>?_⟩
 (try dsimp only);rw[Yb]
 dsimp only[rS,rE,rEs,DL.plain,dAsg,dLst,YK,dNil,dCB,Wp,fIsi,dVar,vAt,vHd,List.map,List.length_cons,List.length_nil,Nat.reduceAdd,Nat.reduceSub,List.replicate_succ,List.replicate_zero,List.cons_append,List.nil_append,List.set_cons_succ,List.set_cons_zero,dC,Z1,d2,bOp];refine⟨_,rfl,_,rfl,_,rfl,_,rfl,(Ze (n:=4) (by decide)).1,fun p2 M2 e2 x2 l2=>⟨_,_,x2 _ _ l1,l2,(Ze (n:=8) (by decide)).1,fun p3 M3 e3 x3 l3=>?_⟩⟩
 (try dsimp only);rw[Yb]
 dsimp only[rS,rE,rEs,DL.plain,dAsg,dLst,YK,dNil,dCB,Wp,fIsi,dVar,vAt,vHd,List.map,List.length_cons,List.length_nil,Nat.reduceAdd,Nat.reduceSub,List.replicate_succ,List.replicate_zero,List.cons_append,List.nil_append,List.set_cons_succ,List.set_cons_zero,dC,Z1,d2,bOp];refine⟨_,rfl,_,rfl,_,rfl,_,rfl,(Ze (n:=4) (by decide)).1,fun p4 M4 e4 x4 l4=>⟨_,_,x4 _ _ l3,l4,(Ze (n:=12) (by decide)).1,fun p5 M5 e5 x5 l5=>?_⟩⟩
 (try dsimp only);rw[Yb]
 dsimp only[rS,rE,rEs,DL.plain,dAsg,dLst,YK,dNil,dCB,Wp,fIsi,dVar,vAt,vHd,List.map,List.length_cons,List.length_nil,Nat.reduceAdd,Nat.reduceSub,List.replicate_succ,List.replicate_zero,List.cons_append,List.nil_append,List.set_cons_succ,List.set_cons_zero,dC,Z1,d2,bOp];refine⟨_,rfl,(Ze (n:=1) (by decide)).1,fun p6 M6 e6 x6 l6=>⟨_,_,x6 _ _ l5,l6,(Ze (n:=13) (by decide)).1,fun p7 M7 e7 x7 l7=>?_⟩⟩;have x07:MExt M M7:=x1.trans (x2.trans (x3.trans (x4.trans (x5.trans (x6.trans x7)))));have l7':M7 p7=some (.ls ((J4 n).map .bl)):=l7
 (try dsimp only);rw[Yb]
 dsimp only[rS,rE,rEs,DL.plain,dIfS,dOr,dNot,dTru,XG,d2,cOp,YK,dNil,dCB,Wp,fIsi,dVar,vAt,vHd,List.map,List.length_cons,List.length_nil,Nat.reduceAdd,Nat.reduceSub,List.replicate_succ,List.replicate_zero,List.cons_append,List.nil_append,List.set_cons_succ,List.set_cons_zero,dC,Vz];refine⟨n,rfl,?_⟩;rw[O.c];refine Wz ⟨"exc",rfl,by decide,?_⟩;rw[show isiT "exc" "ValueError"=true by decide];refine Wz ?_;rw[Yl]
 (try dsimp only);rw[Yb]
 sleep 8;refine Z7 (List.range 13) (fun j:Nat=>.int (j:Int)) (fun j:Nat=>.bl (decide ((j:Int)=i))) (fun R' r'=>?_) (by decide) ?_ ?_
 ·simp only[YQ]
  sleep 8;exact r' _ fun _ _=>trivial
 ·intro v hv l M' R' hl' ee rr
  obtain⟨z1,rfl⟩:=len1 hl';sleep 8;refine YA false ?_;simp;exact rr [_] M' rfl (.refl _)
 intro p8 M8 e8 x8 l8;refine Fj (x8 _ _ l7') ?_ (h M8 (x07.trans x8));rw[l8,O.k,List.map_map]
 rfl
structure Pt where
 up:Bool
 at_:Rat
 wt:Rat
noncomputable def sd (b:Bool):DL.D:=.str (if b then "above" else "below")
noncomputable def pt (p:Pt):DL.D:=.tup [sd p.up,nm p.at_,nm p.wt]
noncomputable def Gr (L B:Nat) (x:Rat):Prop:=∃ n:Int,x=Rat.divInt n (L:Int)/\n.natAbs<=B
theorem Gr.mono {L B C:Nat} {x:Rat} (h:Gr L B x) (c:B<=C):Gr L C x:=by obtain⟨n,e,b⟩:=h;exact⟨n,e,by omega⟩
theorem Gr.sz {L B m:Nat} {x:Rat} (h:Gr L B x) (l0:0<L) (hL:L<2 ^ m) (hB:B<2 ^ m):Sz m x:=by
 obtain⟨n,rfl,b⟩:=h;exact Z5 (by omega) (by omega) (by simpa using hL)
theorem XR {a b c:Int} (h:c≠0):Rat.divInt a c+Rat.divInt b c=Rat.divInt (a+b) c:=by
 rw[Rat.divInt_add_divInt _ _ h h,<- Int.add_mul,Rat.divInt_mul_right h]
theorem Gr.add {L B C:Nat} {x y:Rat} (l0:0<L) (h:Gr L B x) (g:Gr L C y):Gr L (B+C) (x+y):=by
 obtain⟨n,rfl,b⟩:=h;obtain⟨m,rfl,c⟩:=g;refine⟨n+m,XR (by omega),?_⟩;have:=Int.natAbs_add_le n m;omega
theorem Gr.neg {L B:Nat} {x:Rat} (h:Gr L B x):Gr L B (-x):=by
 obtain⟨n,rfl,b⟩:=h;exact⟨-n,Rat.neg_divInt n _,by omega⟩
theorem Gr.sub {L B C:Nat} {x y:Rat} (l0:0<L) (h:Gr L B x) (g:Gr L C y):Gr L (B+C) (x-y):=by
 rw[Rat.sub_eq_add_neg];exact h.add l0 g.neg
theorem Gr.zero {L B:Nat}:Gr L B 0:=⟨0,by rw[Rat.zero_divInt],by simp⟩
theorem Gr.tot {L B:Nat} (l0:0<L):∀ {s:List Rat},(∀ x∈s,Gr L B x)->Gr L (s.length*B) (Q.tot s)
 | [],_=>.zero
 | x::s,h=>by
  rw[Z8,List.length_cons,Nat.succ_mul,Nat.add_comm];exact (h x List.mem_cons_self).add l0 (Gr.tot l0 fun y hy=>h y (List.mem_cons_of_mem _ hy))
theorem WM {a b:Int} {L B:Nat} (hb:0<b) (hd:b.toNat ∣ L) (l0:0<L) (ha:a.natAbs*L<=B):Gr L B (Rat.divInt a b):=by
 obtain⟨k,rfl⟩:=hd;have k0:k≠0:=fun z=>by subst z;simp at l0
 refine⟨a*k,?_,?_⟩
 ·have:((b.toNat*k:Nat):Int)=b*(k:Int):=by push_cast;rw[Int.toNat_of_nonneg (by omega)]
  rw[this,Rat.divInt_mul_right (by omega)]
 ·rw[Int.natAbs_mul]
  have h1:((k:Int)).natAbs=k:=by simp
  rw[h1];exact Nat.le_trans (Nat.mul_le_mul_left _ (Nat.le_mul_of_pos_left k (by omega))) ha
section
variable {ms:List Pt} {s:List Rat} {L B W C:Nat}
end
theorem VV {g:DG} {b:DB} {keep:Mem->Prop} {Q:DSt->Mem->Prop}:∀ {items:List DL.D} (I:Nat->DSt->Mem->Prop),(∀ i δ M,I i δ M->keep M)->(∀ δ M,I items.length δ M->Q δ M) ->
  (∀ i x,items[i]?=some x->∀ N:DSt->Mem->Prop,(∀ δ M,I (i+1) δ M->N δ M)->∀ δ M,I i δ M->g x δ M fun δ1 M1=>b δ1 M1 N)->∀ {δ M},I 0 δ M->ZY g b keep items δ M Q
 | [],I,hk,he,ht,δ,M,h0=>he δ M h0
 | x::xs,I,hk,he,ht,δ,M,h0=>by
  unfold ZY;exact ht 0 x rfl _ (fun δ' M' i'=>⟨hk _ δ' M' i',VV (fun i=>I (i+1)) (fun i=>hk (i+1)) he (fun i y hy N hN=>ht (i+1) y (by simpa using hy) N hN) i'⟩) δ M h0
noncomputable def pn (ps:List Nat):List DL.D:=ps.map fun (i:Nat)=>DL.D.int (i:Int)
structure Falls (s:List Rat) (n:Nat) (ps:List Nat):Prop where
 perm:ps.Perm (List.range n)
 fall:Fall (ps.map fun i=>s.getD i 0)
noncomputable def S_12:DSp:=fun ds M Q E=>∃ (s:List Rat) (k:Nat),ds=[rw s]/\(∀ x∈s,Sz k x)/\k<=3900/\s.length<=100/\∀ ps p M',M p=none->MExt M M'->M' p=some (.ls (pn ps))->Falls s s.length ps->Q (.lst p) M'
theorem Ut {s:List Rat} {i:Nat} (h:i<s.length) {M:Mem} {Q:DK} (q:Q (nm (s.getD i 0)) M):iOp (.tup (s.map nm)) (.int (i:Int)) M Q:=by
 refine tix (v:=nm (s.getD i 0)) (YM ?_) q;simp[h]
theorem Falls.ins {s:List Rat} {n:Nat} {ps:List Nat} (F:Falls s n ps) {w:Nat} (hw:w<=ps.length) (h1:∀ j,j<w->∀ a,ps[j]?=some a->¬ s.getD a 0<s.getD n 0) (h2:∀ a,ps[w]?=some a->s.getD a 0<s.getD n 0):Falls s (n+1) (ps.take w++n::ps.drop w):=by
 refine⟨?_,?_⟩
 ·rw[List.range_succ]
  have e:(ps.take w++n::ps.drop w).Perm (n::(ps.take w++ps.drop w)):=List.perm_middle;rw[List.take_append_drop] at e;exact e.trans ((F.perm.cons n).trans (List.perm_append_singleton n (List.range n)).symm)
 ·rw[List.map_append,List.map_cons]
  have hf:=F.fall;rw[<- List.take_append_drop w ps,List.map_append] at hf;refine B3 hf (fun a ha=>?_) fun a ha=>?_
  ·obtain⟨i,hi,rfl⟩:=List.mem_map.mp ha
   obtain⟨j,hj,e⟩:=List.getElem_of_mem hi;rw[List.length_take] at hj;have:=h1 j (by omega) i (by rw[<- e,List.getElem_take,List.getElem?_eq_getElem]);grind
  ·have hd:∃ b r,ps.drop w=b::r:=by
    cases e:ps.drop w with
    | nil=>rw [e] at ha;cases ha
    | cons b r=>exact⟨b,r,rfl⟩
   obtain⟨b,r,e⟩:=hd;have hb:ps[w]?=some b:=by
    have:=congrArg (fun l=>l[0]?) e
    simpa using this
   have hlt:=h2 b hb;rw[e] at hf;have hf2:=(List.pairwise_append.mp hf).2.1;rw[List.map_cons] at hf2;rw[e,List.map_cons] at ha;rcases List.mem_cons.mp ha with rfl|ha
   ·grind
   ·have:=(List.pairwise_cons.mp hf2).1 a ha
    grind
noncomputable def C_12:CSs:=%[.set 1 (.lst .nil),.fr (.name 2) (.rng %[.bi .len %[.var 0|0]|0]) %[.set 3 (.int 0),.whl (.and (.cmp .Lt (.var 3) (.bi .len %[.var 1|0])) (.one (.not (.call "is_less" S_6 %[.ix (.var 0) (.ix (.var 1) (.var 3)),.ix (.var 0) (.var 2)|0])))) %[.aug 3 false (.int 1)|0],.expr (.ins 1 (.var 3) (.var 2))|0],.ret (.var 1)|0]
theorem GW:∀ ds M R E,S_12 ds M R E->rSs C_12 (ends R E) (Y2 4 ds) M:=by
 rintro ds M R E ⟨s,k,rfl,hs,hk,hl,q⟩;rw[show rw s=.tup (s.map nm) from rfl];unfold C_12;sleep 1;intro p0 M0 e0 x0 l0;sleep 3;refine⟨by omega,?_⟩;refine YL (fun i δ M'=>∃ ps w2 w3,MExt M M'/\M' p0=some (.ls (pn ps))/\Falls s i ps/\δ=[some (.tup (s.map nm)),some (.lst p0),w2,w3]) (fun _ _ _ _=>trivial) ?_ ?_ ⟨[],none,none,x0,l0,⟨.refl _,.nil⟩,rfl⟩
 ·rintro δ M' ⟨ps,w2,w3,x,l,F,rfl⟩
  rw[ZJ] at F;sleep 1;exact q ps p0 M' e0 x l F
 ·rintro i x hx N hN δ M' ⟨ps,w2,w3,xm,l,F,rfl⟩
  obtain⟨rfl,hi'⟩:=XT hx;simp[0,Yr,vAt,vHd,Yc,Yo,bMul,bAdd,sOp,Ye,Ym,fIsi,Yq,and_assoc,sizeLine_eq,Yl,and_true];sleep 1;rw[Yb];have done_:∀ (w:Nat),w<=ps.length->(∀ j,j<w->∀ a,ps[j]?=some a->¬ s.getD a 0<s.getD i 0)->(∀ a,ps[w]?=some a->s.getD a 0<s.getD i 0)->∀ DD:DEnds,DD.nx=N->rSs (.cons (.expr (.ins 1 (.var 3) (.var 2))) .nil) DD [some (.tup (s.map nm)),some (.lst p0),some (.int (i:Int)),some (.int (w:Int))] M':=by
   intro w hw h1 h2 DD hD;have pl:=F.perm.length_eq;rw[List.length_range] at pl;sleep 1;rw[hD];refine⟨⟨_,l⟩,_,l,by simpa[pn] using hw,by simp[pn];omega,?_⟩;refine hN _ _ ⟨ps.take w++i::ps.drop w,_,_,MExt.upd_new e0 xm,?_,F.ins hw h1 h2,rfl⟩;rw[Y5];unfold ZE pn;simp
  refine⟨fun m δ M1=>∃ w:Nat,w<=ps.length/\(∀ j,j<w->∀ a,ps[j]?=some a->¬ s.getD a 0<s.getD i 0)/\δ=[some (.tup (s.map nm)),some (.lst p0),some (.int (i:Int)),some (.int (w:Int))]/\M1=M'/\m=ps.length-w,⟨_,0,by omega,by omega,rfl,rfl,rfl⟩,?_⟩;rintro m δ M1 ⟨w,hw,hb,rfl,rfl,rfl⟩;simp[0,Yr,vAt,vHd,Yc,Yo,bMul,bAdd,sOp,Ye,Ym,fIsi,Yq,and_assoc,sizeLine_eq,Yl,fLen,and_true];refine⟨_,l,?_⟩;have hlen:(pn ps).length=ps.length:=by simp[pn]
  rw[hlen];by_cases h1:w<ps.length
  ·rw[if_pos h1]
   have ea:ps[w]?=some ps[w]:=List.getElem?_eq_getElem h1;have ha:ps[w]<i:=by
    have:=F.perm.subset (List.getElem_mem h1);exact List.mem_range.mp this
   refine Y8 (v:=.int ((ps[w]:Nat):Int)) l (YM (by simp[pn,h1])) ?_;refine Ut (by omega) ?_;refine Ut (by omega) ?_;have sz:∀ j,j<s.length->Sz k (s.getD j 0):=fun j hj=>by
    have:=hs _ (List.getElem_mem hj)
    simpa[hj] using this
   refine⟨_,_,rfl,.mk (sz _ (by omega)) (sz _ (by omega)) (by omega),?_⟩;by_cases h2:s.getD ps[w] 0<s.getD i 0
   ·rw[decide_eq_true h2]
    dsimp only;simp;exact done_ w hw hb (fun a e=>by rw[ea] at e;cases e;exact h2) _ rfl
   ·rw[decide_eq_false h2]
    dsimp only;simp;refine⟨fun δ' M2=>δ'=[some (.tup (s.map nm)),some (.lst p0),some (.int (i:Int)),some (.int ((w+1:Nat):Int))]/\M2=M1,?_,?_⟩
    ·rintro δ' M2 ⟨rfl,rfl⟩
     refine⟨_,by omega,w+1,by omega,fun j hj a e=>?_,rfl,rfl,rfl⟩;by_cases hjw:j=w
     ·subst hjw;rw[ea] at e;cases e;simpa using h2
     ·simpa using hb j (by omega) a e
    ·sleep 1
  ·rw[if_neg h1]
   exact done_ w hw hb (fun a e=>by rw[List.getElem?_eq_none (by omega)] at e;cases e) _ rfl
theorem Falls.vals {s:List Rat} {ps:List Nat} (F:Falls s s.length ps):(ps.map fun i=>s.getD i 0)=srt s:=by
 refine Us ?_ F.fall;have h:=F.perm.map fun i=>s.getD i 0;have e:(List.range s.length).map (fun i=>s.getD i 0)=s:=by
  apply List.ext_getElem
  ·simp
  ·intro i h1 h2;simp at h1;simp[h1]
 rw[e] at h;exact h
noncomputable def Gs (s:List Rat):Prop:=∃ L B,0<L/\L<2 ^ 1900/\B<2 ^ 1900/\∀ x∈s,Gr L B x
theorem Gs.sz {s:List Rat} (h:Gs s):∀ x∈s,Sz 1900 x:=fun x hx=>by
 obtain⟨L,B,l0,hL,hB,g⟩:=h;exact (g x hx).sz l0 hL hB
theorem Gs.tot {s t:List Rat} (h:Gs s) (ht:∀ x∈t,x∈s) (hl:t.length<=25):Sz 1910 (tot t):=by
 obtain⟨L,B,l0,hL,hB,g⟩:=h;have:=Gr.tot l0 fun x hx=>g x (ht x hx);refine (this.mono (Nat.mul_le_mul_right _ hl)).sz l0 (Nat.lt_of_lt_of_le hL (Yd (by decide))) ?_;have:25*B<2 ^ 5*2 ^ 1900:=by omega
 exact Nat.lt_of_lt_of_le this (by decide +kernel)
noncomputable def Y3 (s:List Rat):List Rat:=YT 0 (srt s)
noncomputable def S_13:DSp:=fun ds M Q E=>∃ (s:List Rat),ds=[rw s]/\Gs s/\s.length<=25/\∀ p M',M p=none->MExt M M'->M' p=some (.ls ((Y3 s).map nm))->Q (.lst p) M'
noncomputable def C_13:CSs:=%[.set 1 (.lst .nil),.set 2 (.glo "NOUGHT" Wv),.fr (.name 3) (.seq (.call "falling" S_12 %[.var 0|0])) %[.set 2 (.call "added" S_4 %[.var 2,.ix (.var 0) (.var 3)|0]),.expr (.app 1 (.var 2))|0],.ret (.var 1)|0]
theorem GV:∀ ds M R E,S_13 ds M R E->rSs C_13 (ends R E) (Y2 4 ds) M:=by
 rintro ds M R E ⟨s,rfl,G,hl,q⟩;rw[show rw s=.tup (s.map nm) from rfl];have hs:=G.sz;obtain⟨k,hk⟩:∃ k,k=1900:=⟨_,rfl⟩;rw[<- hk] at hs;unfold C_13;sleep 1;intro p0 M0 e0 x0 l0;sleep 1;sleep 3;refine⟨s,k,rfl,hs,by omega,by omega,fun ps p1 M1 e1 x1 l1 F=>?_⟩;have hpp:p0≠p1:=fun z=>by rw[<- z,l0] at e1;cases e1
 have pln:=F.perm.length_eq;rw[List.length_range] at pln;have lt:∀ a∈ps,a<s.length:=fun a ha=>List.mem_range.mp (F.perm.subset ha);have sz:∀ j,j<s.length->Sz k (s.getD j 0):=fun j hj=>by
  have:=hs _ (List.getElem_mem hj)
  simpa[hj] using this
 have hv:=F.vals;obtain⟨vs,hvs⟩:∃ vs,vs=ps.map fun i=>s.getD i 0:=⟨_,rfl⟩;have vz:∀ x∈vs,Sz k x:=fun x hx=>by
  rw[hvs] at hx;obtain⟨a,ha,rfl⟩:=List.mem_map.mp hx;exact sz a (lt a ha)
 have gv:∀ x∈vs,x∈s:=fun x hx=>by
  rw[hvs] at hx;obtain⟨a,ha,rfl⟩:=List.mem_map.mp hx;have:=lt a ha;simp[List.getD,this]
 have vl:vs.length=ps.length:=by rw[hvs];simp
 rw[<- hvs] at hv;dsimp only;refine⟨_,l1,?_⟩;refine YL (fun i δ M'=>∃ w,MExt M M'/\M' p1=some (.ls (pn ps))/\M' p0=some (.ls ((YT 0 (vs.take i)).map nm))/\δ=[some (.tup (s.map nm)),some (.lst p0),some (nm (tot (vs.take i))),w]) (fun _ _ _ h=>by obtain⟨_,_,h,_⟩:=h;exact h) ?_ ?_ ⟨none,x0.trans x1,l1,x1 _ _ l0,rfl⟩
 ·rintro δ M' ⟨w,x,_,l,rfl⟩
  sleep 1;refine q p0 M' e0 x ?_;rw[l,show (pn ps).length=vs.length by rw[vl];simp[pn],List.take_length,hv];rfl
 ·rintro i x hx N hN δ M' ⟨w,xm,lp,l,rfl⟩
  obtain⟨hi,rfl⟩:∃ hi:i<ps.length,x=.int ((ps[i]:Nat):Int):=by
   obtain⟨h,e⟩:=List.getElem?_eq_some_iff.mp hx;have h':i<ps.length:=by simpa[pn] using h
   refine⟨h',?_⟩;rw[<- e];simp[pn]
  have ai:=lt _ (List.getElem_mem hi);have vi:vs[i]'(by omega)=s.getD ps[i] 0:=by subst hvs;simp
  have tk:vs.take (i+1)=vs.take i++[s.getD ps[i] 0]:=by rw[List.take_succ_eq_append_getElem (by omega),vi]
  have st:Sz 1910 (tot (vs.take i)):=G.tot (fun x hx=>gv x (List.mem_of_mem_take hx)) (by rw[List.length_take];omega);simp[0,Yr,vAt,vHd,Yc,Yo,bMul,bAdd,sOp,Ye,Ym,fIsi,Yq,and_assoc,sizeLine_eq,Yl,and_true];sleep 1;refine Ut ai ?_;refine⟨_,_,rfl,.mk st (sz _ ai) (by omega),?_⟩;sleep 1;refine⟨⟨_,l⟩,_,l,?_,?_⟩
  ·rw[List.length_map,ZS,List.length_take];omega
  ·refine hN _ _ ⟨some (.int ((ps[i]:Nat):Int)),MExt.upd_new e0 xm,by rw[Yv hpp.symm];exact lp,?_,?_⟩
   ·rw[Y5,tk,WL,List.map_append];rfl
   ·rw[tk,V5];rfl
theorem Zk (s:List Rat):(Y3 s).length=s.length:=by unfold Y3;rw[ZS,(Zo s).length_eq]
theorem Cg {s t:List Rat} (p:s.Perm t):Y3 s=Y3 t:=by
 unfold Y3;rw[Us ((Zo s).trans p) (VG s)]
theorem VZ:∀ {q:Rat} {s:List Rat} {i:Nat},i<s.length->ri (YT q s) i=q+tot (s.take (i+1))
 | q,a::s,0,_=>by
  show q+a=q+tot [a];rw[Z8];show q+a=q+(a+0);grind
 | q,a::s,i+1,h=>by
  show ri (YT (q+a) s) i=_;rw[VZ (by simpa using h),List.take_succ_cons,Z8];grind
theorem AW {s:List Rat} {i:Nat} (h:i<s.length):ri (Y3 s) i=tot ((srt s).take (i+1)):=by
 unfold Y3;rw[VZ (by rw[(Zo s).length_eq];exact h),Rat.zero_add]
theorem AV {s:List Rat} (h:Gs s) (h25:s.length<=25):∀ x∈Y3 s,Sz 1910 x:=fun x hx=>by
 obtain⟨i,hi,rfl⟩:=List.getElem_of_mem hx;have hi':i<s.length:=by rw[Zk] at hi;exact hi
 have e:(Y3 s)[i]=ri (Y3 s) i:=by simp[ri,List.getD,hi]
 rw[e,AW hi'];refine h.tot (fun x hx=>(Zo s).subset (List.mem_of_mem_take hx)) ?_;have:=(Zo s).length_eq;rw[List.length_take];omega
theorem IA {M:Mem} {R:List DL.D->(Mem->Prop)->Mem->Prop} {a b:Addr} {r s:List Rat} (l:M a=some (.ls (r.map nm))) (l':M b=some (.ls (s.map nm))) (q:∀ keep:Mem->Prop,(∀ M',MExt M M'->keep M')->R ((List.zip r s).map fun z=>pl z) keep M):WI [.lst a,.lst b] M R:=by
 refine⟨_,_,l,l',?_⟩;have e:zipD (r.map nm) (s.map nm)=(List.zip r s).map fun z=>pl z:=by
  unfold zipD;rw[List.zipWith_map,List.zip,List.map_zipWith];rfl
 rw[e];exact q _ fun M' x=>⟨x _ _ l,x _ _ l'⟩
theorem D8 {r s:List Rat} (hl:r.length=s.length) (h:∀ i,i<s.length->ri s i<=ri r i):∀ z∈List.zip r s,¬ z.1<z.2:=fun z hz=>by
 obtain⟨i,hi,rfl⟩:=List.getElem_of_mem hz;rw[List.length_zip] at hi;have h1:i<r.length:=by omega
 have h2:i<s.length:=by omega
 have:=h i h2;simp only[ri,List.getD,List.getElem?_eq_getElem h1,List.getElem?_eq_getElem h2,Option.getD_some] at this;rw[List.getElem_zip];grind
structure Lv where
 g:Nat
 l:Nat
 x:Rat
noncomputable def lv (v:Lv):DL.D:=.tup [.int (v.g:Int),.int (v.l:Int),nm v.x]
noncomputable def doL (v:Lv) (s:List Rat):List Rat:=(s.set v.g (ri s v.g-v.x)).set v.l (ri (s.set v.g (ri s v.g-v.x)) v.l+v.x)
theorem Jg (v:Lv) (s:List Rat):(doL v s).length=s.length:=by unfold doL;rw[List.length_set,List.length_set]
theorem Va {s:List Rat} {i:Nat} {y x:Rat} (h:x∈s.set i y):x∈s\/x=y:=List.mem_or_eq_of_mem_set h
structure Can (v:Lv) (s:List Rat):Prop where
 g:v.g<s.length
 l:v.l<s.length
 pos:0<v.x
 le:v.x<=ri s v.g-ri s v.l
 sx:Sz 900 v.x
 ss:∀ y∈s,Sz 900 y
noncomputable def runL (vs:List Lv) (s:List Rat):List Rat:=vs.foldl (fun s v=>doL v s) s
theorem X7:∀ (vs:List Lv) (s:List Rat),(runL vs s).length=s.length
 | [],_=>rfl
 | v::vs,s=>by
  show (runL vs (doL v s)).length=_;rw[X7 vs,Jg]
theorem X8 (vs:List Lv) (v:Lv) (s:List Rat):runL (vs++[v]) s=doL v (runL vs s):=by unfold runL;rw[List.foldl_append];rfl
noncomputable def Way (s:List Rat) (vs:List Lv):Prop:=∀ i (h:i<vs.length),Can vs[i] (runL (vs.take i) s)
theorem Way.nil (s:List Rat):Way s []:=fun i h=>absurd h (Nat.not_lt_zero i)
theorem Way.add {s:List Rat} {vs:List Lv} (h:Way s vs) {v:Lv} (c:Can v (runL vs s)):Way s (vs++[v]):=fun i hi=>by
 rw[List.length_append] at hi;by_cases q:i<vs.length
 ·rw[List.getElem_append_left q,List.take_append_of_le_length (by omega)]
  exact h i q
 ·have e:i=vs.length:=by simp at hi;omega
  subst e;rw[List.getElem_append_right %[|3],List.take_left]
  simpa using c
noncomputable def S_14:DSp:=fun ds M Q E=>∃ p s v,ds=[.lst p,lv v]/\M p=some (.ls (s.map nm))/\Can v s/\s.length<=100/\Q (.bl true) M
noncomputable def C_14:CSs:=%[.ife (.or (.not (.bi .isinstance %[.var 1,.ty .tuple|0])) (.one (.cmp .NotEq (.bi .len %[.var 1|0]) (.int 3)))) %[.ret (.bl false)|0] .nil,.asg (.tup %[.name 2,.name 3,.name 4|0]) (.var 1),.ife (.or (.not (.call "is_whole" S_0 %[.var 2|0])) (.or (.not (.call "is_whole" S_0 %[.var 3|0])) (.one (.not (.call "is_number" S_2 %[.var 4|0]))))) %[.ret (.bl false)|0] .nil,.ife (.or (.not (.chain .LtE .Lt (.int 0) (.var 2) (.bi .len %[.var 0|0]))) (.one (.not (.chain .LtE .Lt (.int 0) (.var 3) (.bi .len %[.var 0|0]))))) %[.ret (.bl false)|0] .nil,.ret (.and (.call "is_less" S_6 %[.glo "NOUGHT" Wv,.var 4|0]) (.one (.not (.call "is_less" S_6 %[.call "taken" S_5 %[.ix (.var 0) (.var 2),.ix (.var 0) (.var 3)|0],.var 4|0]))))|0]
theorem GU:∀ ds M R E,S_14 ds M R E->rSs C_14 (ends R E) (Y2 5 ds) M:=by
 rintro ds M R E ⟨p,s,v,rfl,l,c,hl,q⟩;obtain⟨g,k,x⟩:=v;have c1:=c.g;have c2:=c.l;have c3:=c.pos;have c4:=c.le;have c5:=c.sx;have c6:=c.ss;dsimp only at c1 c2 c3 c4 c5 c6;rw[show lv ⟨g,k,x⟩=.tup [.int (g:Int),.int (k:Int),nm x] from rfl];unfold C_14;sleep 7;refine YA true ?_;simp;sleep 7;sleep 7;refine⟨_,"int",rfl,rfl,?_⟩;simp;refine⟨_,"int",rfl,rfl,?_⟩;simp;refine⟨_,rfl,gnm c5,?_⟩;rw[Wc];simp;sleep 7;refine⟨_,l,?_⟩;rw[List.length_map,if_pos c1];refine⟨_,l,?_⟩;rw[List.length_map,if_pos c2];sleep 7;refine⟨0,x,rfl,.mk (show Sz 1 (0:Rat) from ⟨by decide,by decide⟩) c5 (by decide),?_⟩;rw[decide_eq_true c3];simp;refine Y8 (v:=nm (ri s g)) l (YM (ZC c1)) ?_;refine Y8 (v:=nm (ri s k)) l (YM (ZC c2)) ?_;refine⟨_,_,rfl,.mk (c6 _ (Yn c1)) (c6 _ (Yn c2)) (by decide),?_⟩;refine⟨_,_,rfl,.mk ((c6 _ (Yn c1)).sub (c6 _ (Yn c2))) c5 (by decide),?_⟩;have c7:¬ ri s g-ri s k<x:=by grind
 rw[decide_eq_false c7]
 simpa using q
noncomputable def S_15:DSp:=fun ds M Q E=>∃ p s v,ds=[.lst p,lv v]/\M p=some (.ls (s.map nm))/\Can v s/\s.length<=100/\Q .non (M.upd p (.ls ((doL v s).map nm)))
noncomputable def C_15:CSs:=%[.asg (.tup %[.name 2,.name 3,.name 4|0]) (.var 1),.asg (.sub (.var 0) (.var 2)) (.call "taken" S_5 %[.ix (.var 0) (.var 2),.var 4|0]),.asg (.sub (.var 0) (.var 3)) (.call "added" S_4 %[.ix (.var 0) (.var 3),.var 4|0])|0]
theorem GT:∀ ds M R E,S_15 ds M R E->rSs C_15 (ends R E) (Y2 5 ds) M:=by
 rintro ds M R E ⟨p,s,v,rfl,l,c,hl,q⟩;have c1:=c.g;have c2:=c.l;have c5:=c.sx;have c6:=c.ss;rw[show lv v=.tup [.int (v.g:Int),.int (v.l:Int),nm v.x] from rfl];unfold C_15;sleep 7;sleep 7;refine Y8 (v:=nm (ri s v.g)) l (YM (ZC c1)) ?_;refine⟨_,_,rfl,.mk (c6 _ (Yn c1)) c5 (by decide),?_⟩;sleep 8;refine⟨_,l,v.g,by simp[L2.ixN];omega,?_⟩;rw[<- List.map_set];have h1:v.l<(s.set v.g (ri s v.g-v.x)).length:=by rw[List.length_set];exact c2
 have s1:∀ y∈s.set v.g (ri s v.g-v.x),Sz 1810 y:=fun y hy=>by
  rcases Va hy with hy|rfl
  ·exact (c6 y hy).mono (by decide)
  ·exact ((c6 _ (Yn c1)).sub c5).mono (by decide)
 have q':R .non ((M.upd p (.ls ((s.set v.g (ri s v.g-v.x)).map nm))).upd p (.ls (((s.set v.g (ri s v.g-v.x)).set v.l (ri (s.set v.g (ri s v.g-v.x)) v.l+v.x)).map nm))):=by rw[Wa];exact q
 generalize s.set v.g (ri s v.g-v.x)=s' at h1 s1 q';have l1:(M.upd p (.ls (s'.map nm))) p=some (.ls (s'.map nm)):=Y5;generalize M.upd p (.ls (s'.map nm))=M' at l1 q';sleep 7;refine Y8 (v:=nm (ri s' v.l)) l1 (YM (ZC h1)) ?_;refine⟨_,_,rfl,.mk (s1 _ (Yn h1)) c5 (by decide),?_⟩;sleep 8;refine⟨_,l1,v.l,by simp[L2.ixN];omega,?_⟩;rw[<- List.map_set];exact q'
noncomputable def S_16:DSp:=fun ds M Q E=>∃ s vs,ds=[rw s,.tup (vs.map lv)]/\Way s vs/\(∀ y∈s,Sz 900 y)/\1<=s.length/\s.length<=24/\∀ M',MExt M M'->Q (rw (runL vs s)) M'
noncomputable def C_16:CSs:=%[.expr (.call "want_steps" S_9 %[.var 0|0]),.ife (.not (.bi .isinstance %[.var 1,.ty .tuple|0])) %[.nev|0] .nil,.set 2 (.bi .list %[.var 0|0]),.fr (.tup %[.name 3,.name 4|0]) (.enum %[.var 1|0]) %[.ife (.not (.call "can_be_done" S_14 %[.var 2,.var 4|0])) %[.nev|0] .nil,.expr (.call "walk" S_15 %[.var 2,.var 4|0])|0],.ret (.bi .tuple %[.var 2|0])|0]
theorem GS:∀ ds M R E,S_16 ds M R E->rSs C_16 (ends R E) (Y2 5 ds) M:=by
 rintro ds M R E ⟨s,vs,rfl,W,sz,s1,s24,q⟩;unfold C_16;sleep 7;refine⟨_,rfl,Xg sz (by decide),fun M1 x1=>?_⟩;have hn:Ya 1 24 (rw s)=true:=by
  have hl:(s.map nm).length=s.length:=List.length_map ..;have ha:(s.map nm).all Yp=true:=List.all_eq_true.mpr fun d hd=>by
   obtain⟨x,_,rfl⟩:=List.mem_map.mp hd;exact Wc x
  show (decide ((1:Int)<=((s.map nm).length:Int))&&decide (((s.map nm).length:Int)<=24)&&(s.map nm).all Yp)=true;rw[ha,hl,decide_eq_true (show (1:Int)<=s.length by omega),decide_eq_true (show (s.length:Int)<=24 by omega)];rfl
 rw[if_pos hn];sleep 7;sleep 7;intro p M2 e2 x2 l2;have ep:M p=none:=MExt.none x1 e2
 (try dsimp only);rw[Yb];simp[0,vAt,vHd,Yc,and_assoc,sizeLine_eq,Yl,ZF,Yu,dFld,Xk,Xl,Xj,dFor,Vm,Vi]
 refine YL (fun i δ M'=>∃ (w3 w4:Option DL.D),MExt M M'/\M' p=some (.ls ((runL (vs.take i) s).map nm))/\δ=[some (rw s),some (.tup (vs.map lv)),some (.lst p),w3,w4]) (fun _ _ _ _=>trivial) ?_ ?_ ⟨_,_,x1.trans x2,l2,rfl⟩
 ·rintro δ M' ⟨w3,w4,x,l,rfl⟩
  rw[show (enD (vs.map lv)).length=vs.length by unfold enD;simp,List.take_length] at l;sleep 7;exact⟨_,l,q M' x⟩
 ·rintro i y hy N hN δ M' ⟨w3,w4,x,l,rfl⟩
  obtain⟨hi,rfl⟩:∃ hi:i<vs.length,y=.tup [.int (i:Int),lv vs[i]]:=by
   obtain⟨h,e⟩:=List.getElem?_eq_some_iff.mp hy;have h':i<vs.length:=by simpa[enD] using h
   exact⟨h',by rw[<- e];simp[enD]⟩
  have c:=W i hi;have rl:=X7 (vs.take i) s;have tk:vs.take (i+1)=vs.take i++[vs[i]]:=List.take_succ_eq_append_getElem hi;sleep 8;sleep 7;refine⟨p,_,_,rfl,l,c,by omega,?_⟩;simp;sleep 7;refine⟨p,_,_,rfl,l,c,by omega,?_⟩;refine hN _ _ ⟨_,_,MExt.upd_new ep x,?_,rfl⟩;rw[Y5,tk,X8]
noncomputable def pat (ps:List Nat) (k:Nat):Nat:=ps.getD k 0
noncomputable def al (ps:List Nat) (s:List Rat) (k:Nat):Rat:=ri s (pat ps k)
structure Pls (n:Nat) (ps:List Nat):Prop where
 len:ps.length=n
 lt:∀ k,k<n->pat ps k<n
 inj:∀ i j,i<n->j<n->pat ps i=pat ps j->i=j
 sur:∀ m,m<n->∃ k,k<n/\pat ps k=m
theorem Dw {n:Nat} {ps:List Nat} (p:ps.Perm (List.range n)):Pls n ps:=by
 have len:ps.length=n:=by rw[p.length_eq,List.length_range]
 have nd:ps.Nodup:=p.nodup_iff.mpr List.nodup_range;have gd:∀ k (h:k<ps.length),pat ps k=ps[k]:=fun k h=>by simp[pat,List.getD,h]
 refine⟨len,fun k hk=>?_,fun i j hi hj e=>?_,fun m hm=>?_⟩
 ·rw[gd k (by omega)]
  exact List.mem_range.mp (p.subset (List.getElem_mem _))
 ·rw[gd i (by omega),gd j (by omega)] at e
  exact (List.getElem_inj nd).mp e
 ·have:=p.symm.subset (List.mem_range.mpr hm)
  obtain⟨k,hk,e⟩:=List.getElem_of_mem this;exact⟨k,by omega,by rw[gd k hk];exact e⟩
theorem ZN {s:List Rat} {i j:Nat} {y:Rat} (h:i≠j):ri (s.set i y) j=ri s j:=by
 unfold ri;simp only[List.getD,List.getElem?_set_ne h]
theorem WC {s:List Rat} {i:Nat} {y:Rat} (h:i<s.length):ri (s.set i y) i=y:=by
 unfold ri;simp[List.getD,h]
theorem Dl {s:List Rat} {g l:Nat} {x:Rat} (hg:g<s.length) (hl:l<s.length) (ne:g≠l) (j:Nat):ri (doL ⟨g,l,x⟩ s) j=if j=g then ri s g-x else if j=l then ri s l+x else ri s j:=by
 unfold doL;dsimp only;by_cases c1:j=l
 ·subst c1
  rw[if_neg (Ne.symm ne),if_pos rfl,WC (by rw[List.length_set];exact hl),ZN ne]
 ·rw[ZN (Ne.symm c1),if_neg c1]
  by_cases c2:j=g
  ·subst c2
   rw[if_pos rfl,WC hg]
  ·rw[if_neg c2,ZN (Ne.symm c2)]
theorem UO {n:Nat} {ps:List Nat} (P:Pls n ps) {s:List Rat} (hn:s.length=n) {g l:Nat} {x:Rat} (hg:g<n) (hl:l<n) (ne:g≠l) {j:Nat} (hj:j<n):al ps (doL ⟨pat ps g,pat ps l,x⟩ s) j=if j=g then al ps s g-x else if j=l then al ps s l+x else al ps s j:=by
 unfold al;rw[Dl (by have:=P.lt g hg;omega) (by have:=P.lt l hl;omega) (fun e=>ne (P.inj g l hg hl e))];by_cases c1:j=g
 ·subst c1;rw[if_pos rfl,if_pos rfl]
 ·rw[if_neg (fun e=>c1 (P.inj j g hj hg e)),if_neg c1]
  by_cases c2:j=l
  ·subst c2;rw[if_pos rfl,if_pos rfl]
  ·rw[if_neg (fun e=>c2 (P.inj j l hj hl e)),if_neg c2]
noncomputable def pre (f:Nat->Rat):Nat->Rat
 | 0=>0
 | k+1=>pre f k+f k
theorem Xr {f g:Nat->Rat}:∀ {k:Nat},(∀ i,i<k->f i=g i)->pre f k=pre g k
 | 0,_=>rfl
 | k+1,h=>by
  unfold pre;rw[Xr fun i hi=>h i (by omega),h k (by omega)]
theorem UZ (f g:Nat->Rat):∀ k,pre (fun i=>f i-g i) k=pre f k-pre g k
 | 0=>by unfold pre;grind
 | k+1=>by
  have:=UZ f g k;unfold pre;grind
theorem UX {f f':Nat->Rat} {g l:Nat} {x:Rat} (gl:g<l) (h1:f' g=f g-x) (h2:f' l=f l+x) (h3:∀ i,i≠g->i≠l->f' i=f i):∀ k,pre f' k=if g<k/\k<=l then pre f k-x else pre f k
 | 0=>by rw[if_neg (by omega)];rfl
 | k+1=>by
  have ih:=UX gl h1 h2 h3 k;unfold pre;rw[ih];rcases (by omega:k<g\/k=g\/(g<k/\k<l)\/k=l\/l<k) with c|c|c|c|c
  ·rw[if_neg (by omega),if_neg (by omega),h3 k (by omega) (by omega)]
  ·subst c
   rw[if_neg (by omega),if_pos (by omega),h1];grind
  ·rw[if_pos (by omega),if_pos (by omega),h3 k (by omega) (by omega)];grind
  ·subst c
   rw[if_pos (by omega),if_neg (by omega),h2];grind
  ·rw[if_neg (by omega),if_neg (by omega),h3 k (by omega) (by omega)]
theorem W5 {f:Nat->Rat} {a:Nat}:∀ b,a<=b->(∀ i,a<=i->i<b->f i=0)->pre f b=pre f a
 | 0,h,_=>by rw[show a=0 by omega]
 | b+1,h,z=>by
  rcases (by omega:a=b+1\/a<=b) with rfl|c
  ·rfl
  ·show pre f b+f b=pre f a
   rw[W5 b c fun i h1 h2=>z i h1 (by omega),z b c (by omega)];grind
theorem An {f:Nat->Rat} {a:Nat}:∀ b,a<=b->(∀ i,a<=i->i<b->f i<=0)->pre f b<=pre f a
 | 0,h,_=>by rw[show a=0 by omega];exact Rat.le_refl
 | b+1,h,z=>by
  rcases (by omega:a=b+1\/a<=b) with rfl|c
  ·exact Rat.le_refl
  ·have:=An b c fun i h1 h2=>z i h1 (by omega)
   have:=z b c (by omega);show pre f b+f b<=pre f a;grind
theorem VN {f:Nat->Rat}:∀ b,(∀ i,i<b->f i<=0)->pre f b=0->∀ i,i<b->f i=0
 | 0,_,_,i,h=>by omega
 | b+1,z,e,i,h=>by
  have l:=An (f:=f) (a:=0) b (by omega) fun i _ h2=>z i (by omega);have l0:pre f 0=0:=rfl;have zb:=z b (by omega);unfold pre at e;rcases (by omega:i<b\/i=b) with c|rfl
  ·exact VN b (fun i hi=>z i (by omega)) (by grind) i c
  ·grind
theorem We {L B:Nat} {x y z:Rat} (l0:0<L) (hy:Gr L B y) (hz:Gr L B z) (hx:∃ C,Gr L C x) (h1:y<=x) (h2:x<=z):Gr L B x:=by
 obtain⟨m,rfl,hm⟩:=hy;obtain⟨k,rfl,hk⟩:=hz;obtain⟨C,n,rfl,_⟩:=hx;have le:∀ a b:Int,Rat.divInt a (L:Int)<=Rat.divInt b (L:Int)->a<=b:=fun a b h=>by
  rw[Rat.divInt_eq_div,Rat.divInt_eq_div] at h;have lp:(0:Rat)<((L:Int):Rat):=by exact_mod_cast (show (0:Int)<L by omega)
  have:=Rat.mul_le_mul_of_nonneg_right h (Rat.le_of_lt lp);rw[Rat.div_mul_cancel (by grind),Rat.div_mul_cancel (by grind)] at this
  exact_mod_cast this
 have a:=le _ _ h1;have b:=le _ _ h2;exact⟨n,rfl,by omega⟩
structure Ev (n:Nat) (ps:List Nat) (t a:List Rat) (L B:Nat):Prop where
 len:a.length=n
 dom:∀ k,k<=n->0<=pre (fun i=>al ps a i-al ps t i) k
 fin:pre (fun i=>al ps a i-al ps t i) n=0
 gr:∀ x∈a,Gr L B x
structure Aim (n:Nat) (ps:List Nat) (t:List Rat) (L B:Nat):Prop where
 P:Pls n ps
 len:t.length=n
 fall:∀ i j,i<=j->j<n->al ps t j<=al ps t i
 gr:∀ x∈t,Gr L B x
 l0:0<L
 hL:L<2 ^ 850
 hB:B<2 ^ 850
structure Eve (n:Nat) (ps:List Nat) (t a:List Rat) (g l:Nat):Prop where
 gl:g<l
 ln:l<n
 up:al ps t g<al ps a g
 low:al ps a l<al ps t l
 mid:∀ i,g<i->i<l->al ps a i=al ps t i
noncomputable def amt (ps:List Nat) (t a:List Rat) (g l:Nat):Rat:=if al ps a g-al ps t g<al ps t l-al ps a l then al ps a g-al ps t g else al ps t l-al ps a l
noncomputable def evL (ps:List Nat) (t a:List Rat) (g l:Nat):Lv:=⟨pat ps g,pat ps l,amt ps t a g l⟩
section
variable {n:Nat} {ps:List Nat} {t a:List Rat} {L B g l:Nat}
theorem Z2 (P:Pls n ps) (hn:a.length=n) {k:Nat} (hk:k<n):al ps a k∈a:=Yn (by have:=P.lt k hk;omega)
theorem Eve.x (E:Eve n ps t a g l):0<amt ps t a g l/\amt ps t a g l<=al ps a g-al ps t g/\amt ps t a g l<=al ps t l-al ps a l:=by
 have u:=E.up;have w:=E.low;unfold amt;split<;>refine⟨?_,?_,?_⟩<;>grind
theorem szL {x:Rat} {C:Nat} (A:Aim n ps t L B) (h:Gr L C x) (hC:C<2 ^ 900):Sz 900 x:=h.sz A.l0 (Nat.lt_of_lt_of_le A.hL (Yd (by decide))) hC
theorem Eve.can (A:Aim n ps t L B) (V:Ev n ps t a L B) (E:Eve n ps t a g l):Can (evL ps t a g l) a:=by
 have P:=A.P;have hg:g<n:=by have:=E.gl;have:=E.ln;omega
 have hl:=E.ln;have len:=V.len;obtain⟨x0,x1,x2⟩:=E.x;have f:=A.fall g l (by have:=E.gl;omega) hl;have hb2:B+B<2 ^ 900:=by
  have:=A.hB;have:(2:Nat) ^ 850+2 ^ 850<2 ^ 900:=by decide +kernel
  omega
 refine⟨by have:=P.lt g hg;show pat ps g<a.length;omega,by have:=P.lt l hl;show pat ps l<a.length;omega,x0,?_,?_,fun y hy=>szL A (V.gr y hy) (by omega)⟩
 ·show amt ps t a g l<=al ps a g-al ps a l
  grind
 ·have g1:=(V.gr _ (Z2 P len hg)).sub A.l0 (A.gr _ (Z2 P A.len hg))
  have g2:=(A.gr _ (Z2 P A.len hl)).sub A.l0 (V.gr _ (Z2 P len hl));show Sz 900 (amt ps t a g l);unfold amt;split
  ·exact szL A g1 hb2
  ·exact szL A g2 hb2
theorem Eve.al (A:Aim n ps t L B) (V:Ev n ps t a L B) (E:Eve n ps t a g l) {j:Nat} (hj:j<n):al ps (doL (evL ps t a g l) a) j=if j=g then al ps a g-amt ps t a g l else if j=l then al ps a l+amt ps t a g l else al ps a j :=
 UO A.P V.len (by have:=E.gl;have:=E.ln;omega) E.ln (by have:=E.gl;omega) hj
theorem Eve.next (A:Aim n ps t L B) (V:Ev n ps t a L B) (E:Eve n ps t a g l):Ev n ps t (doL (evL ps t a g l) a) L B:=by
 have P:=A.P;have gl:=E.gl;have hl:=E.ln;have hg:g<n:=by omega
 have len:=V.len;obtain⟨x0,x1,x2⟩:=E.x;have AL:=fun {j} hj=>E.al A V (j:=j) hj;have dl:(doL (evL ps t a g l) a).length=n:=by rw[Jg];exact len
 have key:∀ k,k<=n->pre (fun i=>K.al ps (doL (evL ps t a g l) a) i-K.al ps t i) k=if g<k/\k<=l then pre (fun i=>K.al ps a i-K.al ps t i) k-amt ps t a g l else pre (fun i=>K.al ps a i-K.al ps t i) k:=by
  intro k hk;have e:=UX (f:=fun i=>K.al ps a i-K.al ps t i) (f':=fun i=>if i=g then K.al ps a g-K.al ps t g-amt ps t a g l else if i=l then K.al ps a l-K.al ps t l+amt ps t a g l else K.al ps a i-K.al ps t i) (x:=amt ps t a g l) gl (by simp) (by rw[if_neg (by omega),if_pos rfl]) (fun i h1 h2=>by rw[if_neg h1,if_neg h2]) k;rw[<- e];refine Xr fun i hi=>?_;rw[AL (show i<n by omega)];by_cases c1:i=g
  ·subst c1;rw[if_pos rfl,if_pos rfl];grind
  ·rw[if_neg c1,if_neg c1]
   by_cases c2:i=l
   ·subst c2;rw[if_pos rfl,if_pos rfl];grind
   ·rw[if_neg c2,if_neg c2]
 refine⟨dl,fun k hk=>?_,?_,fun y hy=>?_⟩
 ·rw[key k hk]
  split
  ·rename_i c
   have s:=W5 (f:=fun i=>K.al ps a i-K.al ps t i) (a:=g+1) k (by omega) fun i h1 h2=>by
    have:=E.mid i (by omega) (by omega);grind
   have d:=V.dom g (by omega);rw[s];unfold pre;grind
  ·exact V.dom k hk
 ·rw[key n %[|3],if_neg (by omega)];exact V.fin
 ·obtain⟨m,hm,rfl⟩:=List.getElem_of_mem hy
  obtain⟨k,hk,e⟩:=P.sur m (by omega);have ey:(doL (evL ps t a g l) a)[m]=K.al ps (doL (evL ps t a g l) a) k:=by
   unfold K.al ri;rw[e];simp[List.getD,hm]
  rw[ey,AL hk];have gag:=V.gr _ (Z2 P len hg);have gal:=V.gr _ (Z2 P len hl);have gtg:=A.gr _ (Z2 P A.len hg);have gtl:=A.gr _ (Z2 P A.len hl);have ga:∃ C,Gr L C (amt ps t a g l):=by
   unfold amt;split
   ·exact⟨_,gag.sub A.l0 gtg⟩
   ·exact⟨_,gtl.sub A.l0 gal⟩
  obtain⟨C,ga⟩:=ga;split
  ·exact We A.l0 gtg gag ⟨_,gag.sub A.l0 ga⟩ (by grind) (by grind)
  ·split
   ·exact We A.l0 gal gtl ⟨_,gal.add A.l0 ga⟩ (by grind) (by grind)
   ·exact V.gr _ (Z2 P len hk)
end
noncomputable def offN (n:Nat) (ps:List Nat) (t a:List Rat):Nat:=((List.range n).map fun k=>decide (al ps a k≠al ps t k)).count true
theorem Uc {n:Nat} {f g:Nat->Bool} (h:∀ k,k<n->g k=true->f k=true) {j:Nat} (hj:j<n) (fj:f j=true) (gj:g j=false):((List.range n).map g).count true<((List.range n).map f).count true:=by
 have le:∀ m,m<=n->((List.range m).map g).count true<=((List.range m).map f).count true/\(j<m->((List.range m).map g).count true<((List.range m).map f).count true):=by
  intro m
  induction m with
  | zero=>intro _;exact⟨Nat.le_refl _,fun h=>by omega⟩
  | succ m ih =>
   intro hm;obtain⟨i1,i2⟩:=ih (by omega);simp only[List.range_succ,List.map_append,List.count_append,List.map_cons,List.map_nil];have hm':=h m (by omega);have c1:∀ b:Bool,[b].count true=if b=true then 1 else 0:=fun b=>by cases b<;>rfl
   rw[c1,c1];constructor
   ·cases hg:g m with
    | false=>simp;omega
    | true=>rw [hm' hg];simp;omega
   ·intro hj'
    rcases (by omega:j<m\/j=m) with q|rfl
    ·have:=i2 q
     cases hg:g m with
     | false=>simp;omega
     | true=>rw [hm' hg];simp;omega
    ·rw[fj,gj];simp;omega
 exact (le n %[|3]).2 hj
theorem BX (n:Nat) (ps:List Nat) (t a:List Rat):offN n ps t a<=n:=by
 unfold offN;have:=List.count_le_length (a:=true) (l:=(List.range n).map fun k=>decide (al ps a k≠al ps t k))
 simpa using this
theorem Eve.less {n:Nat} {ps:List Nat} {t a:List Rat} {L B g l:Nat} (A:Aim n ps t L B) (V:Ev n ps t a L B) (E:Eve n ps t a g l):offN n ps t (doL (evL ps t a g l) a)<offN n ps t a:=by
 have gl:=E.gl;have hl:=E.ln;have hg:g<n:=by omega
 have up:=E.up;have low:=E.low;have imp:∀ k,k<n->decide (K.al ps (doL (evL ps t a g l) a) k≠K.al ps t k)=true->decide (K.al ps a k≠K.al ps t k)=true:=by
  intro k hk h;rw[E.al A V hk] at h;simp only[decide_eq_true_eq] at h ⊢;by_cases c1:k=g
  ·subst c1;grind
  ·rw[if_neg c1] at h
   by_cases c2:k=l
   ·subst c2;grind
   ·rw[if_neg c2] at h;exact h
 unfold offN;by_cases c:K.al ps a g-K.al ps t g<K.al ps t l-K.al ps a l
 ·refine Uc imp hg (by simp only[decide_eq_true_eq];grind) ?_
  rw[E.al A V hg,if_pos rfl];unfold amt;rw[if_pos c,decide_eq_false_iff_not];grind
 ·refine Uc imp hl (by simp only[decide_eq_true_eq];grind) ?_
  rw[E.al A V hl,if_neg (by omega),if_pos rfl];unfold amt;rw[if_neg c,decide_eq_false_iff_not];grind
theorem Ev.done {n:Nat} {ps:List Nat} {t a:List Rat} {L B:Nat} (A:Aim n ps t L B) (V:Ev n ps t a L B) (h:∀ i,i<n->al ps a i<=al ps t i):a=t:=by
 have z:=VN (f:=fun i=>al ps a i-al ps t i) n (fun i hi=>by have:=h i hi;grind) V.fin;have len:=V.len;have tl:=A.len;refine Dk (by omega) fun m hm=>?_;obtain⟨k,hk,e⟩:=A.P.sur m (by omega);have:=z k hk;unfold al at this;rw[e] at this;grind
theorem Ev.lack {n:Nat} {ps:List Nat} {t a:List Rat} {L B g:Nat} (V:Ev n ps t a L B) (hg:g<n) (up:al ps t g<al ps a g) (h:∀ i,g<i->i<n->al ps a i=al ps t i):False:=by
 have s:=W5 (f:=fun i=>al ps a i-al ps t i) (a:=g+1) n (by omega) fun i h1 h2=>by have:=h i (by omega) h2;grind
 have d:=V.dom g (by omega);have f:=V.fin;rw[s] at f;unfold pre at f;grind
theorem VJ (vs ws:List Lv) (s:List Rat):runL (vs++ws) s=runL ws (runL vs s):=by unfold runL;rw[List.foldl_append]
theorem Way.app {s:List Rat} {vs:List Lv} (h:Way s vs):∀ {ws:List Lv},Way (runL vs s) ws->Way s (vs++ws):=by
 intro ws h2 i hi;by_cases q:i<vs.length
 ·rw[List.getElem_append_left q,List.take_append_of_le_length (by omega)]
  exact h i q
 ·have hi':i-vs.length<ws.length:=by rw[List.length_append] at hi;omega
  rw[List.getElem_append_right (by omega),List.take_append,List.take_of_length_le (by omega),VJ];exact h2 (i-vs.length) hi'
structure Leads (s t:List Rat):Prop where
 dom:∀ i,i<s.length->ri (Y3 t) i<=ri (Y3 s) i
 fin:ri (Y3 s) (s.length-1)=ri (Y3 t) (s.length-1)
noncomputable def S_20:DSp:=fun ds M Q E=>∃ s t,ds=[rw s,rw t]/\Gs s/\Gs t/\s.length=t.length/\1<=s.length/\s.length<=24/\∀ (b:Bool) M',(b=true ↔ Leads s t)->MExt M M'->Q (.bl b) M'
noncomputable def C_20:CSs:=%[.par 2 3 (.call "sums_of_greatest" S_13 %[.var 0|0]) (.call "sums_of_greatest" S_13 %[.var 1|0]),.ret (.and (.cmp .Eq (.ix (.var 2) (.neg (.int 1))) (.ix (.var 3) (.neg (.int 1)))) (.one (.not (.bi .any %[.comp ["steps","aim","sums","wanted","one","other"] 2 (.tup %[.name 4,.name 5|0]) (.zip %[.var 2,.var 3|0]) (.call "is_less" S_6 %[.var 4,.var 5|0])|0]))))|0]
theorem GO:∀ ds M R E,S_20 ds M R E->rSs C_20 (ends R E) (Y2 4 ds) M:=by
 rintro ds M R E ⟨s,t,rfl,gs,gt,hl,h1,h24,q⟩;have l1:=Zk s;have l2:=Zk t;unfold C_20;sleep 7;refine⟨s,rfl,gs,by omega,fun p1 M1 e1 x1 m1=>?_⟩;refine⟨t,rfl,gt,by omega,fun p2 M2 e2 x2 m2=>?_⟩;have m1':=x2 _ _ m1;sleep 7;refine Y8 m1' (Vb (by omega)) ?_;refine Y8 m2 (Vb (by omega)) ?_;refine U5 false ?_;rw[l1,l2,<- hl];by_cases c:ri (Y3 s) (s.length-1)=ri (Y3 t) (s.length-1)
 ·simp[c]
  refine Z7 (List.zip (Y3 s) (Y3 t)) pl (fun z=>.bl (decide (z.1<z.2))) ?_ (by rw[List.length_zip];omega) ?_ ?_
  ·intro R' r'
   simp only[0,vAt,vHd,Yc,and_assoc,sizeLine_eq,Yl,ZF,Yu,dFld,Xk,Xl,Xj,ZF];exact IA m1' m2 r'
  ·intro z hz l M' R' hl' e r'
   obtain⟨u1,u2,rfl⟩:=len2 hl';obtain⟨a,b⟩:=z;have ha:=AV gs (by omega) a (List.of_mem_zip hz).1;have hb:=AV gt (by omega) b (List.of_mem_zip hz).2;sleep 8;exact⟨_,_,rfl,.mk ha hb (by decide),r' [_,_] M' rfl (.refl _)⟩
  intro p3 M3 e3 x3 m3;refine Ge (f:=fun z:Rat×Rat=>decide (z.1<z.2)) m3 ?_;have iff:(!(List.zip (Y3 s) (Y3 t)).any fun z=>decide (z.1<z.2))=true ↔ Leads s t:=by
   rw[Bool.not_eq_true',List.any_eq_false];constructor
   ·intro h
    refine⟨fun i hi=>?_,c⟩;have hz:(ri (Y3 s) i,ri (Y3 t) i)∈List.zip (Y3 s) (Y3 t):=by
     have a1:i<(Y3 s).length:=by omega
     have a2:i<(Y3 t).length:=by omega
     have:(List.zip (Y3 s) (Y3 t))[i]'(by rw[List.length_zip];omega)=(ri (Y3 s) i,ri (Y3 t) i):=by simp[ri,List.getD,a1,a2]
     rw[<- this];exact List.getElem_mem _
    have:=h _ hz;simp at this;grind
   ·intro L z hz
    have:=D8 (r:=Y3 s) (s:=Y3 t) (by omega) (fun i hi=>L.dom i (by omega)) z hz
    simpa using this
  have X3:=x1.trans (x2.trans x3);cases hb:(List.zip (Y3 s) (Y3 t)).any fun z=>decide (z.1<z.2) with
  | false =>
   rw[hb] at iff;exact .inl ⟨rfl,q true M3 ⟨fun _=>iff.mp rfl,fun _=>rfl⟩ X3⟩
  | true =>
   rw[hb] at iff;exact .inr ⟨rfl,q false M3 ⟨fun h=>by simp at h,fun h=>by have:=iff.mpr h;simp at this⟩ X3⟩
 ·simp[c]
  exact q false M2 ⟨fun h=>by simp at h,fun L=>absurd L.fin c⟩ (x1.trans x2)
theorem Jt {s:List Rat} {g l:Nat} (hg:g<s.length) (hl:l<s.length) (ne:g≠l):(doL ⟨g,l,ri s g-ri s l⟩ s).Perm s:=by
 have e1:ri s g=s[g]:=by simp[ri,List.getD,hg]
 have e2:ri s l=s[l]:=by simp[ri,List.getD,hl]
 have:doL ⟨g,l,ri s g-ri s l⟩ s=(s.set g s[l]).set l s[g]:=by
  unfold doL;dsimp only;rw[ZN ne,show ri s g-(ri s g-ri s l)=s[l] by rw[<- e2];grind,show ri s l+(ri s g-ri s l)=s[g] by rw[<- e1];grind]
 rw[this];exact List.set_set_perm hg hl
structure Bnd (L B:Nat):Prop where
 l0:0<L
 hL:L<2 ^ 850
 hB:B<2 ^ 850
theorem Bnd.sz {L B:Nat} (b:Bnd L B) {x:Rat} (h:Gr L B x):Sz 900 x:=h.sz b.l0 (Nat.lt_of_lt_of_le b.hL (Yd (by decide))) (Nat.lt_of_lt_of_le b.hB (Yd (by decide)))
theorem Bnd.sub {L B:Nat} (b:Bnd L B) {x y:Rat} (h:Gr L B x) (g:Gr L B y):Sz 900 (x-y):=by
 refine (h.sub b.l0 g).sz b.l0 (Nat.lt_of_lt_of_le b.hL (Yd (by decide))) ?_;have:=b.hB;have:(2:Nat) ^ 850+2 ^ 850<2 ^ 900:=by decide +kernel
 omega
noncomputable def S_17:DSp:=fun ds M Q E=>∃ s pp ps n L B,ds=[rw s,.lst pp]/\M pp=some (.ls (pn ps))/\Pls n ps/\s.length=n/\n<=24/\Bnd L B/\(∀ x∈s,Gr L B x) /\
 ∀ vs p M',M p=none->MExt M M'->M' p=some (.ls (vs.map lv))->Way s vs->(runL vs s).Perm s->(∀ i j,i<=j->j<n->al ps (runL vs s) j<=al ps (runL vs s) i)->vs.length<=n->Q (.lst p) M'
noncomputable def C_17:CSs:=%[.set 2 (.bi .list %[.var 0|0]),.set 3 (.lst .nil),.fr (.tup %[.name 4,.name 5|0]) (.enum %[.var 1|0]) %[.set 6 (.var 5),.fr (.name 7) (.seq (.sl (.var 1) (.some (.bin .Add (.var 4) (.int 1))) .none)) %[.ife (.call "is_less" S_6 %[.ix (.var 2) (.var 6),.ix (.var 2) (.var 7)|0]) %[.set 6 (.var 7)|0] .nil|0],.ife (.cmp .NotEq (.var 6) (.var 5)) %[.set 8 (.tup %[.var 6,.var 5,.call "taken" S_5 %[.ix (.var 2) (.var 6),.ix (.var 2) (.var 5)|0]|0]),.expr (.call "walk" S_15 %[.var 2,.var 8|0]),.expr (.app 3 (.var 8))|0] .nil|0],.ret (.var 3)|0]
theorem GR:∀ ds M R E,S_17 ds M R E->rSs C_17 (ends R E) (Y2 9 ds) M:=by
 rintro ds M R E ⟨s,pp,ps,n,L,B,rfl,lp,P,hn,n24,bd,gr,q⟩;have pl:=P.len;unfold C_17;sleep 7;intro p1 M1 e1 x1 m1;sleep 7;intro p2 M2 e2 x2 m2;have e2':M p2=none:=MExt.none x1 e2;have h12:p1≠p2:=fun z=>by rw[<- z,m1] at e2;cases e2
 have hp1:pp≠p1:=fun z=>by rw[<- z,lp] at e1;cases e1
 have hp2:pp≠p2:=fun z=>by rw[<- z,lp] at e2';cases e2'
 (try dsimp only);rw[Yb];simp[0,vAt,vHd,Yc,and_assoc,sizeLine_eq,Yl,ZF,Yu,dFld,Xk,Xl,Xj,dFor,Vm,Vi]
 refine⟨_,x2 _ _ (x1 _ _ lp),?_⟩;refine YL (fun w δ M'=>∃ (vs:List Lv) (w4 w5 w6 w7 w8:Option DL.D),MExt M M'/\M' p1=some (.ls ((runL vs s).map nm))/\M' p2=some (.ls (vs.map lv))/\Way s vs/\(runL vs s).Perm s/\(∀ i j,i<w->i<=j->j<n->al ps (runL vs s) j<=al ps (runL vs s) i)/\vs.length<=w/\δ=[some (rw s),some (.lst pp),some (.lst p1),some (.lst p2),w4,w5,w6,w7,w8]) (fun _ _ _ h=>by obtain⟨_,_,_,_,_,_,x,_⟩:=h;exact x _ _ lp) ?_ ?_ ⟨[],_,_,_,_,_,x1.trans x2,x2 _ _ m1,m2,.nil _,List.Perm.refl _,fun i j h=>absurd h (by omega),Nat.le_refl _,rfl⟩
 ·rintro δ M3 ⟨vs,w4,w5,w6,w7,w8,x3,m3,m3',W,pm,so,vl,rfl⟩
  rw[show (enD (pn ps)).length=n by unfold enD;simp[pn,pl]] at so vl;sleep 7;exact q vs p2 M3 e2' x3 m3' W pm (fun i j h1 h2=>so i j (by omega) h1 h2) vl
 ·rintro w y hy N hN δ M3 ⟨vs,w4,w5,w6,w7,w8,x3,m3,m3',W,pm,so,vl,rfl⟩
  obtain⟨hw,rfl⟩:∃ hw:w<n,y=.tup [.int (w:Int),.int ((pat ps w:Nat):Int)]:=by
   obtain⟨h,e⟩:=List.getElem?_eq_some_iff.mp hy;have h':w<ps.length:=by simpa[enD,pn] using h
   exact⟨by omega,by rw[<- e];simp[enD,pn,pat,List.getD,h']⟩
  have al_len:(runL vs s).length=n:=by rw[X7];exact hn
  have grr:∀ x∈runL vs s,Gr L B x:=fun x hx=>gr x (pm.subset hx);have pm0:=pm;generalize ha:runL vs s=a at m3 pm so al_len grr;have at1:∀ k,k<n->L2.atI (a.map nm) ((pat ps k:Nat):Int)=some (nm (al ps a k)):=fun k hk=>YM (ZC (by have:=P.lt k hk;omega));have ga:∀ k,k<n->Gr L B (al ps a k):=fun k hk=>grr _ (Z2 P al_len hk);sleep 8;sleep 7;sleep 9;have lp3:=x3 _ _ lp;refine⟨_,lp3,?_⟩;have ec:cutG (pn ps) (some ((w:Int)+1)) none=pn (ps.drop (w+1)):=by
   rw[show ((w:Int)+1)=((w+1:Nat):Int) by omega,Vn _ _ (by simp[pn];omega)];simp[pn,List.map_drop]
  rw[ec];intro p4 M4 e4 x4 m4;have m34:=x4 _ _ m3;have m34':=x4 _ _ m3';refine⟨_,m4,?_⟩;refine YL (fun i δ M'=>∃ (gk:Nat) (w7:Option DL.D),M'=M4/\w<=gk/\gk<n/\(∀ j,w<=j->j<w+1+i->j<n->al ps a j<=al ps a gk)/\(gk=w\/al ps a w<al ps a gk)/\δ=[some (rw s),some (.lst pp),some (.lst p1),some (.lst p2),some (.int (w:Int)),some (.int ((pat ps w:Nat):Int)),some (.int ((pat ps gk:Nat):Int)),w7,w8]) (fun _ _ _ h=>by obtain⟨_,_,rfl,_⟩:=h;exact m4) ?_ ?_ ⟨w,_,rfl,Nat.le_refl _,hw,fun j h1 h2 h3=>by rw[show j=w by omega];exact Rat.le_refl,.inl rfl,rfl⟩
  ·rintro δ M' ⟨gk,w7,rfl,wg,gn,mx,cs,rfl⟩
   rw[show (pn (ps.drop (w+1))).length=n-(w+1) by simp[pn,pl]] at mx;have mx':∀ j,w<=j->j<n->al ps a j<=al ps a gk:=fun j h1 h2=>mx j h1 (by omega) h2;sleep 7;refine YA true ?_;by_cases c:gk=w
   ·subst c
    simp;refine hN _ _ ⟨vs,_,_,_,_,_,x3.trans x4,by rw[ha];exact m34,m34',W,pm0,?_,by omega,rfl⟩;rw[ha];intro i j h1 h2 h3;rcases (by omega:i<gk\/i=gk) with h|rfl
    ·exact so i j h h2 h3
    ·exact mx' j h2 h3
   ·have ne:pat ps gk≠pat ps w:=fun e=>c (P.inj gk w gn hw e)
    have lt:al ps a w<al ps a gk:=by
     rcases cs with h|h
     ·exact absurd h c
     ·exact h
    have ne':¬ (((pat ps gk:Nat):Int)=((pat ps w:Nat):Int)):=by omega
    simp only[if_true];rw[show (((pat ps gk:Nat):Int)==((pat ps w:Nat):Int))=false by simpa using ne'];simp;have can:Can ⟨pat ps gk,pat ps w,al ps a gk-al ps a w⟩ a:=⟨by have:=P.lt gk gn;show pat ps gk<a.length;omega,by have:=P.lt w hw;show pat ps w<a.length;omega,by show 0<al ps a gk-al ps a w;grind,Rat.le_refl,bd.sub (ga gk gn) (ga w hw),fun y hy=>bd.sz (grr y hy)⟩;sleep 7;refine Y8 m34 (at1 gk gn) ?_;refine Y8 m34 (at1 w hw) ?_;refine⟨_,_,rfl,.mk (bd.sz (ga gk gn)) (bd.sz (ga w hw)) (by decide),?_⟩;dsimp only;rw[show D.tup [D.int ((pat ps gk:Nat):Int),D.int ((pat ps w:Nat):Int),nm (al ps a gk-al ps a w)]=lv ⟨pat ps gk,pat ps w,al ps a gk-al ps a w⟩ from rfl];sleep 7;refine⟨p1,a,_,rfl,m34,can,by omega,?_⟩;have m5:(M'.upd p1 (.ls ((doL ⟨pat ps gk,pat ps w,al ps a gk-al ps a w⟩ a).map nm))) p1=some (.ls ((doL ⟨pat ps gk,pat ps w,al ps a gk-al ps a w⟩ a).map nm)):=Y5;have m5':(M'.upd p1 (.ls ((doL ⟨pat ps gk,pat ps w,al ps a gk-al ps a w⟩ a).map nm))) p2=some (.ls (vs.map lv)):=by rw[Yv h12.symm];exact m34'
    have x5:MExt M (M'.upd p1 (.ls ((doL ⟨pat ps gk,pat ps w,al ps a gk-al ps a w⟩ a).map nm))):=MExt.upd_new e1 (x3.trans x4);generalize M'.upd p1 (.ls ((doL ⟨pat ps gk,pat ps w,al ps a gk-al ps a w⟩ a).map nm))=M5 at m5 m5' x5;sleep 7;refine⟨⟨_,m5'⟩,_,m5',by rw[List.length_map];omega,?_⟩;have rn:runL (vs++[⟨pat ps gk,pat ps w,al ps a gk-al ps a w⟩]) s=doL ⟨pat ps gk,pat ps w,al ps a gk-al ps a w⟩ a:=by rw[X8,ha]
    have pm5:(doL ⟨pat ps gk,pat ps w,al ps a gk-al ps a w⟩ a).Perm a:=Jt (by have:=P.lt gk gn;omega) (by have:=P.lt w hw;omega) ne;refine hN _ _ ⟨vs++[⟨pat ps gk,pat ps w,al ps a gk-al ps a w⟩],_,_,_,_,_,MExt.upd_new e2' x5,?_,?_,W.add (by rw[ha];exact can),?_,?_,by simp;omega,rfl⟩
    ·rw[Yv h12,rn];exact m5
    ·rw[Y5,List.map_append];rfl
    ·rw[rn];exact pm5.trans pm
    ·rw[rn]
     intro i j h1 h2 h3;have hi:i<n:=by omega
     rw[UO P al_len gn hw (by omega) h3,UO P al_len gn hw (by omega) hi];rcases (by omega:i<w\/i=w) with h|rfl
     ·rw[if_neg (show ¬ i=gk by omega),if_neg (show ¬ i=w by omega)]
      have s1:=so i gk h (by omega) gn;have s2:=so i w h (by omega) hw;have s3:=so i j h h2 h3;split
      ·grind
      ·split
       ·grind
       ·exact s3
     ·rw[if_neg (show ¬ i=gk by omega),if_pos rfl]
      have s1:=mx' j h2 h3;have s2:=mx' i %[|3] hi;split
      ·grind
      ·split
       ·grind
       ·grind
  ·rintro i z hz N' hN' δ M' ⟨gk,w7,rfl,wg,gn,mx,cs,rfl⟩
   obtain⟨hi,rfl⟩:∃ hi:w+1+i<n,z=.int ((pat ps (w+1+i):Nat):Int):=by
    obtain⟨h,e⟩:=List.getElem?_eq_some_iff.mp hz;have h':w+1+i<ps.length:=by simp[pn] at h;omega
    exact⟨by omega,by rw[<- e];simp[pn,pat,List.getD,h']⟩
   sleep 8;sleep 7;refine Y8 m34 (at1 gk gn) ?_;refine Y8 m34 (at1 _ hi) ?_;refine⟨_,_,rfl,.mk (bd.sz (ga gk gn)) (bd.sz (ga _ hi)) (by decide),?_⟩;by_cases c:al ps a gk<al ps a (w+1+i)
   ·rw[decide_eq_true c]
    simp;sleep 7;refine hN' _ _ ⟨w+1+i,_,rfl,by omega,hi,fun j h1 h2 h3=>?_,.inr ?_,rfl⟩
    ·rcases (by omega:j<w+1+i\/j=w+1+i) with h|rfl
     ·have:=mx j h1 h h3;grind
     ·exact Rat.le_refl
    ·have:=mx w %[|3] (by omega) hw;grind
   ·rw[decide_eq_false c]
    simp;refine hN' _ _ ⟨gk,_,rfl,wg,gn,fun j h1 h2 h3=>?_,cs,rfl⟩;rcases (by omega:j<w+1+i\/j=w+1+i) with h|rfl
    ·exact mx j h1 h h3
    ·grind
inductive NE (n:Nat) (ps:List Nat) (t a:List Rat) (k:Nat):DL.D->DL.D->Prop
 | none (x:DL.D):(∀ i,i<k->i<n->al ps a i<=al ps t i)->(x=.non\/∃ i:Int,x=.int i)->NE n ps t a k .non x
 | up (g:Nat):g<k->g<n->al ps t g<al ps a g->(∀ i,g<i->i<k->i<n->al ps a i=al ps t i)->NE n ps t a k (.int ((pat ps g:Nat):Int)) .non
 | both (g l:Nat):Eve n ps t a g l->l<k->NE n ps t a k (.int ((pat ps g:Nat):Int)) (.int ((pat ps l:Nat):Int))
noncomputable def S_18:DSp:=fun ds M Q E=>∃ p pp a t ps n L B,ds=[.lst p,rw t,.lst pp]/\M p=some (.ls (a.map nm))/\M pp=some (.ls (pn ps))/\Aim n ps t L B/\Ev n ps t a L B/\(a=t->Q .non M)/\∀ g l,Eve n ps t a g l->Q (lv (evL ps t a g l)) M
noncomputable def C_18:CSs:=%[.two (.name 3) (.name 4) .non,.fr (.name 5) (.seq (.var 2)) %[.ife (.call "is_less" S_6 %[.ix (.var 1) (.var 5),.ix (.var 0) (.var 5)|0]) %[.par 3 4 (.var 5) .non|0] %[.ife (.and (.cmp .Is (.var 4) .non) (.one (.call "is_less" S_6 %[.ix (.var 0) (.var 5),.ix (.var 1) (.var 5)|0]))) %[.set 4 (.var 5)|0] .nil|0]|0],.ife (.cmp .Is (.var 3) .non) %[.ret .non|0] .nil,.par 6 7 (.call "taken" S_5 %[.ix (.var 0) (.var 3),.ix (.var 1) (.var 3)|0]) (.call "taken" S_5 %[.ix (.var 1) (.var 4),.ix (.var 0) (.var 4)|0]),.ret (.tup %[.var 3,.var 4,.ife (.call "is_less" S_6 %[.var 6,.var 7|0]) (.var 6) (.var 7)|0])|0]
theorem GQ:∀ ds M R E,S_18 ds M R E->rSs C_18 (ends R E) (Y2 8 ds) M:=by
 rintro ds M R E ⟨p,pp,a,t,ps,n,L,B,rfl,lp,lpp,A,V,q1,q2⟩;have P:=A.P;have pl:=P.len;have al':=V.len;have tl:=A.len;have bd:Bnd L B:=⟨A.l0,A.hL,A.hB⟩;have at1:∀ k,k<n->L2.atI (a.map nm) ((pat ps k:Nat):Int)=some (nm (al ps a k)):=fun k hk=>YM (ZC (by have:=P.lt k hk;omega));have at2:∀ k,k<n->∀ (M':Mem) (Q':DK),Q' (nm (al ps t k)) M'->iOp (rw t) (.int ((pat ps k:Nat):Int)) M' Q':=fun k hk M' Q' h=>VI (by have:=P.lt k hk;omega) h;have ga:∀ k,k<n->Gr L B (al ps a k):=fun k hk=>V.gr _ (Z2 P al' hk);have gt:∀ k,k<n->Gr L B (al ps t k):=fun k hk=>A.gr _ (Z2 P tl hk);unfold C_18;sleep 7;sleep 9;refine⟨_,lpp,?_⟩;refine YL (fun k δ M'=>∃ (x y:DL.D) (w5:Option DL.D),M'=M/\NE n ps t a k x y/\δ=[some (.lst p),some (rw t),some (.lst pp),some x,some y,w5,none,none]) (fun _ _ _ h=>by obtain⟨_,_,_,rfl,_⟩:=h;exact lpp) ?_ ?_ ⟨_,_,_,rfl,.none .non (fun i h=>absurd h (by omega)) (.inl rfl),rfl⟩
 ·rintro δ M' ⟨x,y,w5,rfl,ne,rfl⟩
  rw[show (pn ps).length=n by simp[pn,pl]] at ne;cases ne with
  | none x h1 h2 =>
   sleep 7;exact q1 (V.done A fun i hi=>h1 i hi hi)
  | up g h1 h2 h3 h4=>exact (V.lack h2 h3 fun i c d=>h4 i c d d).elim
  | both g l E' h =>
   have hl:=E'.ln;have hg:g<n:=by have:=E'.gl;omega
   sleep 7;simp[cIs];sleep 7;refine Y8 lp (at1 g hg) ?_;refine at2 g hg _ _ ?_;refine⟨_,_,rfl,.mk (bd.sz (ga g hg)) (bd.sz (gt g hg)) (by decide),?_⟩;refine at2 l hl _ _ ?_;refine Y8 lp (at1 l hl) ?_;refine⟨_,_,rfl,.mk (bd.sz (gt l hl)) (bd.sz (ga l hl)) (by decide),?_⟩;sleep 8;sleep 7;refine⟨_,_,rfl,.mk (bd.sub (ga g hg) (gt g hg)) (bd.sub (gt l hl) (ga l hl)) (by decide),?_⟩;have:=q2 g l E';rw[show lv (evL ps t a g l)=.tup [.int ((pat ps g:Nat):Int),.int ((pat ps l:Nat):Int),nm (amt ps t a g l)] from rfl] at this;unfold amt at this;by_cases c:al ps a g-al ps t g<al ps t l-al ps a l
   ·rw[if_pos c] at this
    simp[c];exact this
   ·rw[if_neg c] at this
    simp[c];exact this
 ·rintro k z hz N hN δ M' ⟨x,y,w5,rfl,ne,rfl⟩
  obtain⟨hk,rfl⟩:∃ hk:k<n,z=.int ((pat ps k:Nat):Int):=by
   obtain⟨h,e⟩:=List.getElem?_eq_some_iff.mp hz;have h':k<ps.length:=by simpa[pn] using h
   exact⟨by omega,by rw[<- e];simp[pn,pat,List.getD,h']⟩
  sleep 8;sleep 7;refine at2 k hk _ _ ?_;refine Y8 lp (at1 k hk) ?_;refine⟨_,_,rfl,.mk (bd.sz (gt k hk)) (bd.sz (ga k hk)) (by decide),?_⟩;by_cases c:al ps t k<al ps a k
  ·rw[decide_eq_true c]
   simp;sleep 7;exact hN _ _ ⟨_,_,_,rfl,.up k (by omega) hk c (fun i h1 h2=>absurd h1 (by omega)),rfl⟩
  ·rw[decide_eq_false c]
   simp;sleep 7;have low:∀ DD:Prop,(al ps a k<al ps t k->DD)->(¬ al ps a k<al ps t k->DD)->DD:=fun DD h1 h2=>by
    by_cases h:al ps a k<al ps t k
    ·exact h1 h
    ·exact h2 h
   cases ne with
   | none y h1 h2 =>
    have h1':∀ i,i<k+1->i<n->al ps a i<=al ps t i:=fun i hi hn=>by
     rcases (by omega:i<k\/i=k) with h|rfl
     ·exact h1 i h hn
     ·grind
    rcases h2 with rfl|⟨i,rfl⟩
    ·simp[cIs]
     refine Y8 lp (at1 k hk) ?_;refine at2 k hk _ _ ?_;refine⟨_,_,rfl,.mk (bd.sz (ga k hk)) (bd.sz (gt k hk)) (by decide),?_⟩;by_cases c2:al ps a k<al ps t k
     ·rw[decide_eq_true c2]
      simp;sleep 7;exact hN _ _ ⟨_,_,_,rfl,.none _ h1' (.inr ⟨_,rfl⟩),rfl⟩
     ·rw[decide_eq_false c2]
      simp;exact hN _ _ ⟨_,_,_,rfl,.none _ h1' (.inl rfl),rfl⟩
    ·simp[cIs]
     exact hN _ _ ⟨_,_,_,rfl,.none _ h1' (.inr ⟨_,rfl⟩),rfl⟩
   | up g h1 h2 h3 h4 =>
    simp[cIs];refine Y8 lp (at1 k hk) ?_;refine at2 k hk _ _ ?_;refine⟨_,_,rfl,.mk (bd.sz (ga k hk)) (bd.sz (gt k hk)) (by decide),?_⟩;by_cases c2:al ps a k<al ps t k
    ·rw[decide_eq_true c2]
     simp;sleep 7;exact hN _ _ ⟨_,_,_,rfl,.both g k ⟨h1,hk,h3,c2,fun i a b=>h4 i a b (by omega)⟩ (by omega),rfl⟩
    ·rw[decide_eq_false c2]
     simp;refine hN _ _ ⟨_,_,_,rfl,.up g (by omega) h2 h3 (fun i a b d=>?_),rfl⟩;rcases (by omega:i<k\/i=k) with h|rfl
     ·exact h4 i a h d
     ·grind
   | both g l E' h =>
    simp[cIs];exact hN _ _ ⟨_,_,_,rfl,.both g l E' (by omega),rfl⟩
noncomputable def S_19:DSp:=fun ds M Q E=>∃ pp s t ps n L B,ds=[rw s,rw t,.lst pp]/\M pp=some (.ls (pn ps))/\Aim n ps t L B/\Ev n ps t s L B/\n<=24/\∀ vs p M',M p=none->MExt M M'->M' p=some (.ls (vs.map lv))->Way s vs->runL vs s=t->vs.length<=n->Q (.lst p) M'
noncomputable def C_19:CSs:=%[.set 3 (.bi .list %[.var 0|0]),.set 4 (.lst .nil),.set 5 (.call "next_evening" S_18 %[.var 3,.var 1,.var 2|0]),.whl (.cmp .IsNot (.var 5) .non) %[.expr (.call "walk" S_15 %[.var 3,.var 5|0]),.expr (.app 4 (.var 5)),.set 5 (.call "next_evening" S_18 %[.var 3,.var 1,.var 2|0])|0],.ret (.var 4)|0]
theorem GP:∀ ds M R E,S_19 ds M R E->rSs C_19 (ends R E) (Y2 6 ds) M:=by
 rintro ds M R E ⟨pp,s,t,ps,n,L,B,rfl,lpp,A,V0,n24,q⟩;have sl:=V0.len;unfold C_19;sleep 7;intro p1 M1 e1 x1 m1;sleep 7;intro p2 M2 e2 x2 m2;have e2':M p2=none:=MExt.none x1 e2;have h12:p1≠p2:=fun z=>by rw[<- z,m1] at e2;cases e2
 have m1':=x2 _ _ m1;have X2:=x1.trans x2;refine Zx fun J hJ=>?_;have start:∀ X,(X=.non/\s=t\/∃ g l,X=lv (evL ps t s g l)/\Eve n ps t s g l)->J [some (rw s),some (rw t),some (.lst pp),some (.lst p1),some (.lst p2),some X] M2:=by
  intro X hX;refine hJ _ _ ?_;clear hJ;rw[Yb];refine⟨fun m δ M'=>∃ (vs:List Lv) (X:DL.D),MExt M M'/\M' p1=some (.ls ((runL vs s).map nm))/\M' p2=some (.ls (vs.map lv))/\Way s vs/\Ev n ps t (runL vs s) L B/\vs.length+offN n ps t (runL vs s)<=n/\(X=.non/\runL vs s=t\/∃ g l,X=lv (evL ps t (runL vs s) g l)/\Eve n ps t (runL vs s) g l)/\δ=[some (rw s),some (rw t),some (.lst pp),some (.lst p1),some (.lst p2),some X]/\m=offN n ps t (runL vs s),⟨_,[],X,X2,m1',m2,.nil _,V0,by have:=BX n ps t s;simpa[runL] using this,hX,rfl,rfl⟩,?_⟩;rintro m δ M3 ⟨vs,X,x3,k1,k2,W,V,cn,hX,rfl,rfl⟩;rcases hX with ⟨rfl,e⟩|⟨g,l,rfl,Ev'⟩
  ·sleep 8
   sleep 7;exact q vs p2 M3 e2' x3 k2 W e (by omega)
  ·obtain⟨Post,hP⟩:∃ Pt:DSt->Mem->Prop,Pt=fun δ' M'=>∃ (vs':List Lv) (X:DL.D),MExt M M'/\M' p1=some (.ls ((runL vs' s).map nm))/\M' p2=some (.ls (vs'.map lv))/\Way s vs'/\Ev n ps t (runL vs' s) L B/\vs'.length+offN n ps t (runL vs' s)<=n/\(X=.non/\runL vs' s=t\/∃ g l,X=lv (evL ps t (runL vs' s) g l)/\Eve n ps t (runL vs' s) g l)/\δ'=[some (rw s),some (rw t),some (.lst pp),some (.lst p1),some (.lst p2),some X]/\offN n ps t (runL vs' s)<offN n ps t (runL vs s):=⟨_,rfl⟩
   have hc:∀ (M':Mem) (Q':DK),Q' (.bl true) M'->cIs true (lv (evL ps t (runL vs s) g l)) .non M' Q':=fun M' Q' h=>by unfold cIs lv;exact h
   sleep 8;refine hc _ _ ?_;simp;refine⟨Post,?_,?_⟩
   ·intro δ' M' h
    rw[hP] at h;obtain⟨vs',X,h1,h2,h3,h4,h5,h6,h7,h8,h9⟩:=h;exact⟨_,h9,h1,vs',h2,h3,h4,h5,h6,X,h7,h8,rfl⟩
   have can:=Ev'.can A V;have nx:=Ev'.next A V;have le:=Ev'.less A V;have rl:(runL vs s).length=n:=V.len;generalize evL ps t (runL vs s) g l=v at can nx le;sleep 7;refine⟨p1,_,v,rfl,k1,can,by omega,?_⟩;have k5:(M3.upd p1 (.ls ((doL v (runL vs s)).map nm))) p1=some (.ls ((doL v (runL vs s)).map nm)):=Y5;have k5':(M3.upd p1 (.ls ((doL v (runL vs s)).map nm))) p2=some (.ls (vs.map lv)):=by rw[Yv h12.symm];exact k2
   have x5:MExt M (M3.upd p1 (.ls ((doL v (runL vs s)).map nm))):=MExt.upd_new e1 x3;generalize M3.upd p1 (.ls ((doL v (runL vs s)).map nm))=M5 at k5 k5' x5;sleep 7;refine⟨⟨_,k5'⟩,_,k5',by rw[List.length_map];omega,?_⟩;have k6:(M5.upd p2 (.ls (vs.map lv++[lv v]))) p2=some (.ls ((vs++[v]).map lv)):=by rw[Y5,List.map_append];rfl
   have k6':(M5.upd p2 (.ls (vs.map lv++[lv v]))) p1=some (.ls ((doL v (runL vs s)).map nm)):=by rw[Yv h12];exact k5
   have x6:MExt M (M5.upd p2 (.ls (vs.map lv++[lv v]))):=MExt.upd_new e2' x5;generalize M5.upd p2 (.ls (vs.map lv++[lv v]))=M6 at k6 k6' x6;have rn:runL (vs++[v]) s=doL v (runL vs s):=X8 vs v s;have fin:∀ X,(X=.non/\runL (vs++[v]) s=t\/∃ g l,X=lv (evL ps t (runL (vs++[v]) s) g l)/\Eve n ps t (runL (vs++[v]) s) g l)->Post [some (rw s),some (rw t),some (.lst pp),some (.lst p1),some (.lst p2),some X] M6:=fun X hX=>by
    rw[hP];exact⟨vs++[v],X,x6,by rw[rn];exact k6',k6,W.add can,by rw[rn];exact nx,by rw[rn,List.length_append];simp;omega,hX,rfl,by rw[rn];exact le⟩
   sleep 7;refine⟨p1,pp,_,t,ps,n,L,B,rfl,k6',x6 _ _ lpp,A,nx,fun e=>?_,fun g l E''=>?_⟩
   ·sleep 8
    exact fin _ (.inl ⟨rfl,by rw[rn];exact e⟩)
   ·sleep 8
    exact fin _ (.inr ⟨g,l,by rw[rn],by rw[rn];exact E''⟩)
 sleep 8;refine⟨p1,pp,s,t,ps,n,L,B,rfl,m1',X2 _ _ lpp,A,V0,fun e=>start _ (.inl ⟨rfl,e⟩),fun g l E'=>start _ (.inr ⟨g,l,rfl,E'⟩)⟩
theorem UY (l:List Rat):∀ k,k<=l.length->pre (fun i=>ri l i) k=tot (l.take k)
 | 0,_=>rfl
 | k+1,h=>by
  have ih:=UY l k (by omega);rw[List.take_succ_eq_append_getElem (by omega),V5,<- ih];show pre (fun i=>ri l i) k+ri l k=_;have:k<l.length:=by omega
  simp[ri,List.getD,this]
section
variable {n:Nat} {ps:List Nat} {s t a:List Rat} {L B:Nat}
theorem Wu (P:Pls n ps) {k:Nat} (hk:k<n):al ps s k=ri (ps.map fun i=>s.getD i 0) k:=by
 have pl:=P.len;have:k<ps.length:=by omega
 simp[al,pat,ri,List.getD,this]
theorem Ao (P:Pls n ps) (hs:s.length=n) (F:Falls s s.length ps):∀ k,k<=n->pre (fun i=>al ps s i) k=tot ((srt s).take k):=fun k hk=>by
 rw[<- F.vals,<- UY _ k (by rw[List.length_map,P.len];exact hk)];exact Xr fun i hi=>Wu P (by omega)
theorem B2 (P:Pls n ps) (pm:ps.Perm (List.range n)) (hs:s.length=n) (so:∀ i j,i<=j->j<n->al ps s j<=al ps s i):Falls s s.length ps:=by
 refine⟨by rw[hs];exact pm,?_⟩;refine List.pairwise_iff_getElem.mpr fun i j hi hj hij=>?_;have pl:=P.len;rw[List.length_map] at hi hj;have:=so i j (by omega) (by omega);rw[Wu P (by omega),Wu P (by omega)] at this
 simpa[ri,List.getD,hi,hj] using this
theorem He (P:Pls n ps) (hs:s.length=n) (F:Falls s s.length ps):∀ i j,i<=j->j<n->al ps s j<=al ps s i:=fun i j hij hj=>by
 have pl:=P.len;rcases (by omega:i=j\/i<j) with rfl|h
 ·exact Rat.le_refl
 ·have:=List.pairwise_iff_getElem.mp F.fall i j (by rw[List.length_map];omega) (by rw[List.length_map];omega) h
  have a1:i<ps.length:=by omega
  have a2:j<ps.length:=by omega
  rw[Wu P hj,Wu P (show i<n by omega)]
  simpa[ri,List.getD,a1,a2] using this
theorem IF (P:Pls n ps) (pm:ps.Perm (List.range n)) (hs:s.length=n) (ht:t.length=n) (n1:1<=n) (F:Falls t t.length ps) (Ld:Leads s t) (pa:a.Perm s) (so:∀ i j,i<=j->j<n->al ps a j<=al ps a i) (gr:∀ x∈s,Gr L B x):Ev n ps t a L B:=by
 have la:a.length=n:=by rw[pa.length_eq];exact hs
 have Fa:=B2 P pm la so;have gp:=Cg pa;have key:∀ k,k<=n->pre (fun i=>al ps a i-al ps t i) k=tot ((srt a).take k)-tot ((srt t).take k):=fun k hk=>by
  rw[UZ,Ao P la Fa k hk,Ao P ht F k hk]
 have at1:∀ i,i<n->tot ((srt a).take (i+1))=ri (Y3 s) i:=fun i hi=>by rw[<- AW (by omega),gp]
 have at2:∀ i,i<n->tot ((srt t).take (i+1))=ri (Y3 t) i:=fun i hi=>by rw[<- AW (by omega)]
 refine⟨la,fun k hk=>?_,?_,fun x hx=>gr x (pa.subset hx)⟩
 ·rw[key k hk]
  cases k with
  | zero=>simp[tot];grind
  | succ i =>
   rw[at1 i (by omega),at2 i (by omega)];have:=Ld.dom i (by omega);grind
 ·rw[key n %[|3]]
  obtain⟨m,rfl⟩:∃ m,n=m+1:=⟨n-1,by omega⟩;rw[at1 m (by omega),at2 m (by omega)];have:=Ld.fin;rw[hs,Nat.add_sub_cancel] at this;grind
end
theorem Zy {s:List Rat} (h1:1<=s.length) (h24:s.length<=24):Ya 1 24 (rw s)=true:=Ws (by omega) (by omega)
inductive Bt (M:Mem) (d e:DL.D) (Q E:DK):Prop
 | one:Ya 1 24 d=false->(∀ M',MExt M M'->E (.exc "NoRow" .non) M')->Bt M d e Q E
 | two:Ya 1 24 d=true->Ya 1 24 e=false->(∀ M',MExt M M'->E (.exc "NoRow" .non) M')->Bt M d e Q E
 | len (s t:List Rat):d=rw s->e=rw t->1<=s.length->s.length<=24->1<=t.length->t.length<=24->s.length≠t.length->(∀ M',MExt M M'->E (.exc "NoRow" .non) M')->Bt M d e Q E
 | good (s t:List Rat) (L B:Nat):d=rw s->e=rw t->1<=s.length->s.length<=24->s.length=t.length->Bnd L B->(∀ x∈s,Gr L B x)->(∀ x∈t,Gr L B x) ->
   (Leads s t->∀ vs M',Way s vs->runL vs s=t->vs.length<=48->MExt M M'->Q (.tup (vs.map lv)) M')->(¬ Leads s t->∀ M',MExt M M'->Q .non M')->Bt M d e Q E
noncomputable def S_21:DSp:=fun ds M Q E=>∃ d e,ds=[d,e]/\Gd M d/\Gd M e/\Bt M d e Q E
noncomputable def C_21:CSs:=%[.expr (.call "want_steps" S_9 %[.var 0|0]),.expr (.call "want_steps" S_9 %[.var 1|0]),.ife (.cmp .NotEq (.bi .len %[.var 0|0]) (.bi .len %[.var 1|0])) %[.rse "NoRow" %[.str "these are not as many steps"|0]|0] .nil,.ife (.not (.call "lead_there" S_20 %[.var 0,.var 1|0])) %[.ret .non|0] .nil,.set 2 (.call "falling" S_12 %[.var 1|0]),.set 3 (.call "exchanges" S_17 %[.var 0,.var 2|0]),.ret (.bi .tuple %[.bin .Add (.var 3) (.call "evenings" S_19 %[.call "levelled" S_16 %[.var 0,.bi .tuple %[.var 3|0]|0],.var 1,.var 2|0])|0])|0]
theorem GN:∀ ds M R E,S_21 ds M R E->rSs C_21 (ends R E) (Y2 4 ds) M:=by
 rintro ds M R E ⟨d,e,rfl,gd,ge,h⟩;unfold C_21;sleep 7;refine⟨d,rfl,gd,fun M1 x1=>?_⟩;cases h with
 | one h q =>
  rw[h,if_neg (by decide)];exact q M1 x1
 | two h h2 q =>
  rw[h,if_pos rfl];sleep 7;refine⟨e,rfl,Gd.ext x1 _ ge,fun M2 x2=>?_⟩;rw[h2,if_neg (by decide)];exact q M2 (x1.trans x2)
 | len s t hd he s1 s24 t1 t24 ne q =>
  subst hd he;rw[Zy s1 s24,if_pos rfl];sleep 7;refine⟨rw t,rfl,Gd.ext x1 _ ge,fun M2 x2=>?_⟩;rw[Zy t1 t24,if_pos rfl];sleep 7;refine YA true ?_;have:¬ ((s.length:Int)=t.length):=by omega
  simp[this];sleep 7;exact q M2 (x1.trans x2)
 | good s t L B hd he s1 s24 sl bd gs gt q1 q2 =>
  subst hd he;have Gs1:Gs s:=⟨L,B,bd.l0,Nat.lt_of_lt_of_le bd.hL (Yd (by decide)),Nat.lt_of_lt_of_le bd.hB (Yd (by decide)),gs⟩;have Gs2:Gs t:=⟨L,B,bd.l0,Nat.lt_of_lt_of_le bd.hL (Yd (by decide)),Nat.lt_of_lt_of_le bd.hB (Yd (by decide)),gt⟩;rw[Zy s1 s24,if_pos rfl];sleep 7;refine⟨rw t,rfl,Gd.ext x1 _ ge,fun M2 x2=>?_⟩;rw[Zy (by omega) (by omega),if_pos rfl];sleep 7;refine YA true ?_;have:((s.length:Int)=t.length):=by omega
  simp[this];sleep 7;refine⟨s,t,rfl,Gs1,Gs2,sl,s1,s24,fun b M3 hb x3=>?_⟩;have X3:=x1.trans (x2.trans x3);by_cases c:Leads s t
  ·rw[hb.mpr c]
   simp;sleep 7;refine⟨t,900,rfl,fun x hx=>bd.sz (gt x hx),by decide,by omega,fun ps pp M4 e4 x4 m4 F=>?_⟩;have P:=Dw F.perm;sleep 7;refine⟨s,pp,ps,s.length,L,B,rfl,m4,by rw[sl];exact P,rfl,s24,bd,gs,fun vs p5 M5 e5 x5 m5 W pm so vl=>?_⟩;have P':Pls s.length ps:=by rw[sl];exact P
   have V:Ev s.length ps t (runL vs s) L B:=IF P' (by rw[sl];exact F.perm) rfl sl.symm s1 F c pm so gs;have A:Aim s.length ps t L B:=⟨P',sl.symm,He P' sl.symm F,gt,bd.l0,bd.hL,bd.hB⟩;sleep 7;refine⟨_,m5,?_⟩;refine⟨s,vs,rfl,W,fun y hy=>bd.sz (gs y hy),s1,s24,fun M6 x6=>?_⟩;refine⟨pp,_,t,ps,s.length,L,B,rfl,x6 _ _ (x5 _ _ m4),A,V,s24,fun ws p7 M7 e7 x7 m7 W2 r2 wl=>?_⟩;sleep 8;have m57:=x7 _ _ (x6 _ _ m5);refine⟨_,m57,_,m7,by simp;omega,?_⟩;intro p8 M8 e8 x8 m8;refine⟨_,m8,?_⟩;have:=q1 c (vs++ws) M8 (W.app W2) (by rw[VJ];exact r2) (by rw[List.length_append];omega) (X3.trans (x4.trans (x5.trans (x6.trans (x7.trans x8)))));rw[List.map_append] at this;exact this
  ·have hb':b=false:=by
    cases b with
    | false=>rfl
    | true=>exact absurd (hb.mp rfl) c
   rw[hb'];simp;exact q2 c M3 X3
noncomputable def S_42:DSp:=fun ds M Q E=>∃ (a:Addr) (n:Nat) (c:Int),ds=[.lst a,.int n,.tup [.int 1,.int c]]/\Pk M a/\n<=24/\0<c/\c<=100/\c.toNat ∣ 300/\∀ s M',s.length=n->(∀ x∈s,Gr 300 3600 x)->Dr a M M'->Q (rw s) M'
noncomputable def C_42:CSs:=%[.ret (.bi .tuple %[.comp ["_law_pack_here","_law_many","_law_unit","_law_turn"] 1 (.name 3) (.rng %[.var 1|0]) (.call "_law_by" S_33 %[.var 2,.tup %[.bin .Sub (.call "_law_take" S_29 %[.var 0,.int 25|0]) (.int 12),.int 1|0]|0])|0])|0]
theorem Gp:∀ ds M R E,S_42 ds M R E->rSs C_42 (ends R E) (Y2 3 ds) M:=by
 rintro ds M R E ⟨a,n,c,rfl,pk,n24,c0,c1,cd,q⟩;have u:D.tup [.int 1,.int c]=nm (Rat.divInt 1 c):=J3 (by omega) (by simp);have su:Sz 8 (Rat.divInt 1 c):=Z5 (by omega) (by decide) (by omega);unfold C_42;sleep 7;unfold YR YQ;sleep 8;refine⟨by omega,fun p hp=>?_⟩;refine XJ (P:=Gr 300 3600) (acc:=[]) pk hp (fun δ'=>∃ w,δ'=[some (.lst a),some (.int (n:Int)),some (.tup [.int 1,.int c]),w]) (fun _=>trivial) ?_ (by simp[rngD];omega) nofun ?_ ⟨_,rfl⟩ ((⟨pk,fun _ _ _ e=>e⟩:Dr a M M).upd_new hp (pk.ne hp)) Y5
 ·rintro x hx δ' M' R' ⟨w,rfl⟩ y r
  sleep 8;refine YB y.pk (by decide) (by decide) fun v M1 v0 v1 y1=>?_;refine⟨_,_,_,congrArg (fun z=>[z,_]) u,by decide,⟨8,8,su,by omega,by decide,by decide⟩,?_⟩;refine r _ _ M1 ⟨_,rfl⟩ ?_ y1;have e:Rat.divInt 1 c*Rat.divInt (v-12) 1=Rat.divInt (v-12) c:=by
   rw[Rat.divInt_mul_divInt,Int.one_mul,Int.mul_one]
  rw[e];exact WM c0 cd (by decide) (by omega)
 ·intro r M' hr hs y l
  rw[ZJ] at hr;exact⟨⟨_,l⟩,_,l,q r M' (by simpa using hr) hs y⟩
noncomputable def sizesK:List Str:=["taut","loose","ring","leveller","no leveller","not taut","smooth","stair","settled","store","speeds","done"]
noncomputable def Ag:List DL.D:=[.int 2,.int 2,.int 2,.int 2,.int 2,.int 2,.int 3,.int 2,.int 2,.int 3,.int 2,.int 3]
noncomputable def Aa:List Str:=["taut","loose","ring","smooth","stair","store","speeds","done"]
noncomputable def A9:List DL.D:=[.fn "taut_holds",.fn "loose_holds",.fn "ring_holds",.fn "smooth_holds",.fn "stair_holds",.fn "store_holds",.fn "speeds_hold",.fn "done_holds"]
noncomputable def withK:List Str:=["leveller","no leveller","not taut","settled"]
noncomputable def CD:List DL.D:=[.fn "leveller_holds",.fn "no_leveller_holds",.fn "not_taut_holds",.fn "settled_holds"]
noncomputable def Vy:DL.D:=.sd sizesK Ag
noncomputable def ZH:DL.D:=.sd Aa A9
noncomputable def ZB:DL.D:=.sd withK CD
theorem Hf {xs:List Str} {ds:List DL.D} {w:Str} {M:Mem} {Q:DK} {b:Bool} (h:xs.contains w=b) (q:Q (.bl b) M):cIn false (.str w) (.sd xs ds) M Q:=⟨w,rfl,by rw[h];exact q⟩
theorem Ai {xs:List Str} {ds:List DL.D} {w:Str} {M:Mem} {Q:DK} {b:Bool} (h:xs.contains w=b) (q:Q (.bl !b) M):cIn true (.str w) (.sd xs ds) M Q:=⟨w,rfl,by rw[h];exact q⟩
theorem CM {xs:List Str} {ds:List DL.D} {w:Str} {M:Mem} {Q:DK} {d:DL.D} (h:sdAt xs ds w=some d) (q:Q d M):iOp (.sd xs ds) (.str w) M Q:=⟨d,h,q⟩
theorem Ff {w:Str} {M:Mem} {Q:DK} (q:Q (.bl true) M):fIsi [.str w,.ty "str"] M Q:=by unfold fIsi;simpa[tyD,isiT] using q
theorem Xu {s:List Rat} (G:Gs s) (hl:s.length<=25) {i:Nat} (h:i<s.length):Sz 1910 (ri (Y3 s) i):=by
 have:=AV G hl (ri (Y3 s) i) (by
  have e:=Zk s;have:i<(Y3 s).length:=by omega
  simp only[ri,List.getD,List.getElem?_eq_getElem this,Option.getD_some];exact List.getElem_mem this)
 exact this
theorem atI_last {r:List Rat} (h:1<=r.length):L2.atI (r.map nm) (-1)=some (nm (ri r (r.length-1))):=by
 have:=Vb (r:=r) (by omega);exact this
noncomputable def nlB (s o:List Rat):DL.D->Bool
 | .non=>!decide (ri (Y3 s) (s.length-1)=ri (Y3 o) (s.length-1))
 | .int k=>decide (ri (Y3 o) (k.toNat-1)<ri (Y3 s) (k.toNat-1))
 | _=>false
noncomputable def S_24:DSp:=fun ds M Q E=>∃ (s o:List Rat) (vs:List Lv),ds=[.tup [rw s,rw o],.tup (vs.map lv)]/\(∀ y∈s,Sz 900 y)/\(∀ y∈o,Sz 900 y)/\1<=s.length/\s.length<=24/\o.length=s.length/\Way o vs/\runL vs o=s/\∀ M',MExt M M'->Q (.bl true) M'
noncomputable def C_24:CSs:=%[.asg (.tup %[.name 2,.name 3|0]) (.var 0),.ife (.or (.not (.call "are_steps" S_8 %[.var 2|0])) (.one (.not (.call "are_steps" S_8 %[.var 3|0])))) %[.ret (.bl false)|0] .nil,.trn %[.ret (.cmp .Eq (.call "levelled" S_16 %[.var 3,.var 1|0]) (.var 2))|0] "NoLevel" %[.ret (.bl false)|0]|0]
theorem GK:∀ ds M R E,S_24 ds M R E->rSs C_24 (ends R E) (Y2 4 ds) M:=by
 rintro ds M R E ⟨s,o,vs,rfl,ss,so,s1,s24,ol,W,rn,q⟩;unfold C_24;sleep 7;sleep 7;refine⟨_,rfl,Xg ss (by decide),fun M1 x1=>?_⟩;rw[Zy s1 s24];simp;refine⟨_,rfl,Xg so (by decide),fun M2 x2=>?_⟩;rw[Zy (by omega) (by omega)];simp;have xx:=x1.trans x2
 (try dsimp only);rw[Yb];simp[0,vAt,vHd,Yc,and_assoc,sizeLine_eq,Yl,ZF,Yu,dFld,Xk,Xl,Xj,dTrn]
 sleep 7;refine⟨o,vs,rfl,W,so,by omega,by omega,fun M3 x3=>?_⟩;rw[rn];refine D0 false ?_
 simpa using q M3 (xx.trans x3)
noncomputable def S_25:DSp:=fun ds M Q E=>∃ (s o:List Rat) (f:DL.D),ds=[.tup [rw s,rw o],f]/\Gs s/\Gs o/\(∀ y∈s,Sz 900 y)/\(∀ y∈o,Sz 900 y)/\1<=s.length/\s.length<=24/\o.length=s.length/\(f=.non\/∃ k:Nat,f=.int k/\1<=k/\k<=s.length)/\∀ M',MExt M M'->Q (.bl (nlB s o f)) M'
noncomputable def C_25:CSs:=%[.asg (.tup %[.name 2,.name 3|0]) (.var 0),.ife (.or (.not (.call "are_steps" S_8 %[.var 2|0])) (.or (.not (.call "are_steps" S_8 %[.var 3|0])) (.one (.cmp .NotEq (.bi .len %[.var 2|0]) (.bi .len %[.var 3|0]))))) %[.ret (.bl false)|0] .nil,.par 4 5 (.call "sums_of_greatest" S_13 %[.var 2|0]) (.call "sums_of_greatest" S_13 %[.var 3|0]),.ife (.cmp .Is (.var 1) .non) %[.ret (.cmp .NotEq (.ix (.var 4) (.neg (.int 1))) (.ix (.var 5) (.neg (.int 1))))|0] .nil,.ife (.or (.not (.call "is_whole" S_0 %[.var 1|0])) (.one (.not (.chain .LtE .LtE (.int 1) (.var 1) (.bi .len %[.var 2|0]))))) %[.ret (.bl false)|0] .nil,.ret (.call "is_less" S_6 %[.ix (.var 5) (.bin .Sub (.var 1) (.int 1)),.ix (.var 4) (.bin .Sub (.var 1) (.int 1))|0])|0]
theorem GJ:∀ ds M R E,S_25 ds M R E->rSs C_25 (ends R E) (Y2 6 ds) M:=by
 rintro ds M R E ⟨s,o,f,rfl,Gs1,Gs2,ss,so,h1,h24,hl,hf,q⟩;unfold C_25;sleep 7;sleep 7;refine⟨_,rfl,Xg ss (by decide),fun M1 x1=>?_⟩;rw[Zy h1 h24];simp;refine⟨_,rfl,Xg so (by decide),fun M2 x2=>?_⟩;rw[Zy (by omega) (by omega)];simp;refine YA true ?_;simp[hl];sleep 7;refine⟨s,rfl,Gs1,by omega,fun p2 M3 e2 x3 l2=>?_⟩;refine⟨o,rfl,Gs2,by omega,fun p3 M4 e3 x4 l3=>?_⟩;have l2':=x4 _ _ l2;have xx:MExt M M4:=x1.trans (x2.trans (x3.trans x4));have q':=q M4 xx;have lg:(Y3 s).length=s.length:=Zk s;have lo':(Y3 o).length=s.length:=(Zk o).trans hl;have at_:∀ (v:List Rat) (i:Nat),i<v.length->L2.atI (v.map nm) (i:Int)=some (nm (ri v i)):=fun v i h=>YM (ZC h);sleep 7;rcases hf with rfl|⟨k,rfl,k1,k2⟩
 ·refine Or.inr ⟨rfl,?_⟩
  sleep 7;refine Y8 l2' (atI_last (by omega)) ?_;refine Y8 l3 (atI_last (by omega)) ?_;refine U5 true ?_;rw[lg,lo'];exact q'
 ·refine Or.inl ⟨rfl,?_⟩
  sleep 7;refine⟨_,"int",rfl,rfl,?_⟩;simp;rw[if_pos (by omega)];simp[k2];sleep 7;rw[show (k:Int)-1=((k-1:Nat):Int) by omega];refine Y8 l3 (at_ _ _ (by omega)) (Y8 l2' (at_ _ _ (by omega)) ?_);refine⟨_,_,rfl,.mk (Xu Gs2 (by omega) (by omega)) (Xu Gs1 (by omega) (by omega)) (by decide),?_⟩;exact q'
noncomputable def S_26:DSp:=fun ds M Q E=>∃ (w:Str) (d e p:DL.D),ds=[.tup [.str w,d,e],p]/\((w="leveller"/\S_24 [.tup [d,e],p] M Q E)\/(w="no leveller"/\S_25 [.tup [d,e],p] M Q E))
noncomputable def C_26:CSs:=%[.ife (.or (.not (.bi .isinstance %[.var 0,.ty .tuple|0])) (.or (.cmp .Eq (.bi .len %[.var 0|0]) (.int 0)) (.one (.not (.bi .isinstance %[.ix (.var 0) (.int 0),.ty .str|0]))))) %[.ret (.bl false)|0] .nil,.par 2 3 (.ix (.var 0) (.int 0)) (.sl (.var 0) (.some (.int 1)) .none),.ife (.or (.cmp .NotIn (.var 2) (.glo "SIZES" Vy)) (.one (.cmp .NotEq (.bi .len %[.var 3|0]) (.ix (.glo "SIZES" Vy) (.var 2))))) %[.ret (.bl false)|0] .nil,.ife (.cmp .In (.var 2) (.glo "WITH_PAPER" ZB)) %[.set 4 (.ix (.glo "WITH_PAPER" ZB) (.var 2)),.ret (.callv 4 [("leveller_holds",S_24),("no_leveller_holds",S_25)] %[.var 3,.var 1|0])|0] .nil,.set 5 (.ix (.glo "WITHOUT_PAPER" ZH) (.var 2)),.ret (.and (.cmp .Is (.var 1) .non) (.one (.callv 5 [] %[.var 3|0])))|0]
theorem AT {w fn:Str} {d e p:DL.D} {M:Mem} {R E:DK} (n1:sizesK.contains w=true) (n2:sdAt sizesK Ag w=some (.int 2)) (n3:withK.contains w=true) (n4:sdAt withK CD w=some (.fn fn))
  (hc:∃ S:DSp,(fn="leveller_holds"/\S=S_24\/fn="no_leveller_holds"/\S=S_25)/\S [.tup [d,e],p] M R E):rSs C_26 (ends R E) (Y2 6 [.tup [.str w,d,e],p]) M:=by
 unfold C_26;refine Zx fun J hJ=>?_;have t1:J [some (.tup [.str w,d,e]),some p,none,none,none,none] M:=by
  refine hJ _ _ ?_;sleep 7;refine⟨.str w,YG _ _,?_⟩;rw[show cutG [D.str w,d,e] (some 1) none=[d,e] from rfl]
  (try dsimp only)
  refine Zx fun J hJ=>?_;have t2:J [some (.tup [.str w,d,e]),some p,some (.str w),some (.tup [d,e]),none,none] M:=by
   refine hJ _ _ ?_;refine Zx fun J hJ=>?_;sleep 8;refine Hf n3 ?_;simp;sleep 7;refine CM n4 ?_;sleep 7;exact hc
  sleep 8;refine Ai n1 ?_;simp;refine CM n2 ?_;refine YA true ?_;simp;exact t2
 sleep 8;refine YA false ?_;simp;refine⟨.str w,YG _ _,?_⟩;refine Ff ?_;simp;exact t1
theorem GI:∀ ds M R E,S_26 ds M R E->rSs C_26 (ends R E) (Y2 6 ds) M:=by
 rintro ds M R E ⟨w,d,e,p,rfl,⟨rfl,h⟩|⟨rfl,h⟩⟩
 ·exact AT (fn:="leveller_holds") (by decide +kernel) rfl (by decide +kernel) rfl ⟨_,.inl ⟨rfl,rfl⟩,h⟩
 ·exact AT (fn:="no_leveller_holds") (by decide +kernel) rfl (by decide +kernel) rfl ⟨_,.inr ⟨rfl,rfl⟩,h⟩
noncomputable def S_22:DSp:=fun ds M Q E=>∃ s o:List Rat,ds=[rw s,rw o]/\Gs s/\Gs o/\s.length<=24/\o.length=s.length /\
 (∀ i,i<s.length->ri (Y3 o) i<ri (Y3 s) i->∀ M',MExt M M'->Q (.int ((i+1:Nat):Int)) M')/\((∀ i,i<s.length->¬ ri (Y3 o) i<ri (Y3 s) i)->∀ M',MExt M M'->Q .non M')
noncomputable def C_22:CSs:=%[.fr (.tup %[.name 2,.tup %[.name 3,.name 4|0]|0]) (.enumz %[.call "sums_of_greatest" S_13 %[.var 0|0],.call "sums_of_greatest" S_13 %[.var 1|0]|0]) %[.ife (.call "is_less" S_6 %[.var 4,.var 3|0]) %[.ret (.bin .Add (.var 2) (.int 1))|0] .nil|0],.ret .non|0]
theorem GM:∀ ds M R E,S_22 ds M R E->rSs C_22 (ends R E) (Y2 5 ds) M:=by
 rintro ds M R E ⟨s,o,rfl,Gs1,Gs2,h24,hl,q1,q2⟩;have lg:(Y3 s).length=s.length:=Zk s;have lo':(Y3 o).length=s.length:=(Zk o).trans hl;unfold C_22
 (try dsimp only);rw[Yb];simp[0,vAt,vHd,Yc,and_assoc,sizeLine_eq,Yl,ZF,Yu,dFld,Xk,Xl,Xj,dFor,Vl,Vh]
 refine⟨s,rfl,Gs1,by omega,fun p1 M1 e1 x1 l1=>?_⟩;refine⟨o,rfl,Gs2,by omega,fun p2 M2 e2 x2 l2=>?_⟩;have xx:=x1.trans x2;refine⟨_,x2 _ _ l1,_,l2,?_⟩;have ll:(enD (zipD ((Y3 s).map nm) ((Y3 o).map nm))).length=s.length:=by simp[enD,zipD];omega
 refine YL (fun i δ M'=>∃ (w2 w3 w4:Option DL.D),M'=M2/\(∀ j,j<i->¬ ri (Y3 o) j<ri (Y3 s) j)/\δ=[some (rw s),some (rw o),w2,w3,w4]) (fun _ _ _ h=>by obtain⟨_,_,_,rfl,_⟩:=h;exact⟨x2 _ _ l1,l2⟩) ?_ ?_ ⟨_,_,_,rfl,nofun,rfl⟩
 ·rintro δ M' ⟨w2,w3,w4,rfl,al,rfl⟩
  rw[ll] at al;sleep 7;exact q2 al M' xx
 ·rintro i y hy N hN δ M' ⟨w2,w3,w4,rfl,al,rfl⟩
  obtain⟨hi',rfl⟩:∃ h:i<s.length,y=.tup [.int (i:Int),.tup [nm (ri (Y3 s) i),nm (ri (Y3 o) i)]]:=by
   obtain⟨h,e⟩:=List.getElem?_eq_some_iff.mp hy;have h':i<s.length:=by omega
   refine⟨h',?_⟩;rw[<- e];have h1:i<(Y3 s).length:=by omega
   have h2:i<(Y3 o).length:=by omega
   simp[enD,zipD,ri,List.getD,h1,h2]
  sleep 8;sleep 7;refine⟨_,_,rfl,.mk (Xu Gs2 (by omega) (by omega)) (Xu Gs1 (by omega) hi') (by decide),?_⟩;by_cases c:ri (Y3 o) i<ri (Y3 s) i
  ·rw[decide_eq_true c]
   simp;sleep 7;exact q1 i hi' c M' xx
  ·rw[decide_eq_false c]
   simp;refine hN _ _ ⟨_,_,_,rfl,fun j hj=>?_,rfl⟩;rcases (by omega:j<i\/j=i) with h|rfl
   ·exact al j h
   ·exact c
inductive Rf:DL.D->DL.D->Prop
 | one {d e:DL.D}:Ya 1 24 d=false->Rf d e
 | two {d e:DL.D}:Ya 1 24 d=true->Ya 1 24 e=false->Rf d e
 | len {s t:List Rat}:1<=s.length->s.length<=24->1<=t.length->t.length<=24->s.length≠t.length->Rf (rw s) (rw t)
theorem Rf.bt {M:Mem} {d e:DL.D} {Q E:DK} (h:Rf d e) (q:∀ M',MExt M M'->E (.exc "NoRow" .non) M'):Bt M d e Q E:=by
 cases h with
 | one h=>exact .one h q
 | two h h2=>exact .two h h2 q
 | len h1 h2 h3 h4 h5=>exact .len _ _ rfl rfl h1 h2 h3 h4 h5 q
theorem Bnd.gs {L B:Nat} (b:Bnd L B) {s:List Rat} (h:∀ x∈s,Gr L B x):Gs s:=⟨L,B,b.l0,Nat.lt_of_lt_of_le b.hL (Yd (by decide)),Nat.lt_of_lt_of_le b.hB (Yd (by decide)),h⟩
structure Two (s o:List Rat):Prop where
 s1:1<=s.length
 s24:s.length<=24
 ol:o.length=s.length
 ex:∃ L B,Bnd L B/\(∀ x∈s,Gr L B x)/\∀ x∈o,Gr L B x
theorem Two.ss {s o:List Rat} (h:Two s o):∀ x∈s,Sz 900 x:=by
 obtain⟨L,B,b,g,_⟩:=h.ex;exact fun x hx=>b.sz (g x hx)
theorem Two.so {s o:List Rat} (h:Two s o):∀ x∈o,Sz 900 x:=by
 obtain⟨L,B,b,_,g⟩:=h.ex;exact fun x hx=>b.sz (g x hx)
theorem Two.gs {s o:List Rat} (h:Two s o):Gs s:=by
 obtain⟨L,B,b,g,_⟩:=h.ex;exact b.gs g
theorem Two.go {s o:List Rat} (h:Two s o):Gs o:=by
 obtain⟨L,B,b,_,g⟩:=h.ex;exact b.gs g
theorem JG {s o:List Rat} (T:Two s o) (h:¬ Leads o s) (al:∀ i,i<s.length->¬ ri (Y3 o) i<ri (Y3 s) i):ri (Y3 s) (s.length-1)≠ri (Y3 o) (s.length-1):=fun z=>by
 have ol:=T.ol;refine h ⟨fun i hi=>?_,by rw[ol];exact z.symm⟩;have:=al i (by omega);grind
noncomputable def S_23:DSp:=fun ds M Q E=>∃ d e:DL.D,ds=[d,e]/\Gd M d/\Gd M e/\((Rf e d/\∀ M',MExt M M'->E (.exc "NoRow" .non) M')\/∃ s o,d=rw s/\e=rw o/\Two s o /\
 (Leads o s->∀ vs M',Way o vs->runL vs o=s->vs.length<=48->MExt M M'->Q (.tup [.tup [.str "leveller",rw s,rw o],.tup (vs.map lv)]) M') /\
 (¬ Leads o s->∀ f M',nlB s o f=true->(f=.non\/∃ k:Nat,f=.int k/\1<=k/\k<=s.length)->MExt M M'->Q (.tup [.tup [.str "no leveller",rw s,rw o],f]) M'))
noncomputable def C_23:CSs:=%[.set 2 (.call "between" S_21 %[.var 1,.var 0|0]),.ife (.cmp .IsNot (.var 2) .non) %[.ret (.tup %[.tup %[.str "leveller",.var 0,.var 1|0],.var 2|0])|0] .nil,.ret (.tup %[.tup %[.str "no leveller",.var 0,.var 1|0],.call "greater_sum" S_22 %[.var 0,.var 1|0]|0])|0]
theorem GL:∀ ds M R E,S_23 ds M R E->rSs C_23 (ends R E) (Y2 3 ds) M:=by
 rintro ds M R E ⟨d,e,rfl,gd,ge,⟨rf,q⟩|⟨s,o,rfl,rfl,T,q1,q2⟩⟩
 ·unfold C_23
  sleep 7;exact⟨e,d,rfl,ge,gd,rf.bt q⟩
 ·have s1:=T.s1
  have s24:=T.s24;have ol:=T.ol;have G1:=T.gs;have G2:=T.go;obtain⟨L,B,b,g1,g2⟩:=T.ex;unfold C_23;sleep 7;refine⟨_,_,rfl,ge,gd,.good o s L B rfl rfl (by omega) (by omega) ol b g2 g1 (fun h vs M1 W rn vl x1=>?_) fun h M1 x1=>?_⟩
  ·sleep 7
   refine .inr ⟨rfl,?_⟩;sleep 7;exact q1 h vs M1 W rn vl x1
  ·sleep 7
   sleep 7;refine⟨s,o,rfl,G1,G2,s24,ol,fun i hi c M2 x2=>?_,fun al M2 x2=>?_⟩
   ·refine q2 h _ M2 ?_ (.inr ⟨i+1,rfl,by omega,by omega⟩) (x1.trans x2)
    show decide _=true;rw[decide_eq_true_eq,Int.toNat_natCast,Nat.add_sub_cancel];exact c
   ·refine q2 h _ M2 ?_ (.inl rfl) (x1.trans x2)
    show (!decide _)=true;rw[decide_eq_false (JG T h al)];rfl
structure Sel (s dn lf:List Rat):Prop where
 perm:(dn++lf).Perm s
 fall:Fall dn
 ge:∀ a∈dn,∀ b∈lf,b<=a
theorem Sel.step {s dn lf:List Rat} (S:Sel s dn lf) {a:Nat} (ha:a<lf.length) (hm:∀ b∈lf,b<=lf[a]):Sel s (dn++[lf[a]]) (lf.take a++lf.drop (a+1)):=by
 have e:lf.take a++lf[a]::lf.drop (a+1)=lf:=by rw[List.getElem_cons_drop_succ_eq_drop ha,List.take_append_drop]
 refine⟨?_,?_,?_⟩
 ·refine .trans ?_ S.perm
  have h1:(dn++[lf[a]]++(lf.take a++lf.drop (a+1))).Perm (dn++(lf.take a++lf[a]::lf.drop (a+1))):=by
   rw[List.append_assoc];refine List.Perm.append_left dn ?_;show (lf[a]::(lf.take a++lf.drop (a+1))).Perm _;exact List.perm_middle.symm
  rw[e] at h1;exact h1
 ·refine List.pairwise_append.mpr ⟨S.fall,List.pairwise_singleton _ _,fun x hx y hy=>?_⟩
  simp at hy;subst hy;exact S.ge x hx _ (List.getElem_mem ha)
 ·intro x hx y hy
  have hy':y∈lf:=by
   rcases List.mem_append.mp hy with h|h
   ·exact List.mem_of_mem_take h
   ·exact List.mem_of_mem_drop h
  rcases List.mem_append.mp hx with hx|hx
  ·exact S.ge x hx y hy'
  ·simp at hx;subst hx;exact hm y hy'
theorem B6 {α β:Type} (f:α->β) (l:List α) (j:Nat):(l.map f).eraseIdx j=(l.take j++l.drop (j+1)).map f:=by
 rw[List.eraseIdx_eq_take_drop_succ,List.map_append,List.map_take,List.map_drop]
theorem Ef {M:Mem} {Q:DK} {p p':Addr} {r:List Rat} (l:M p=some (.ls (r.map nm))) (l':M p'=some (.ls [])) (q:Q (.bl (!r.isEmpty)) M):cEq true (.lst p) (.lst p') M Q:=by
 obtain⟨e',h1,h2,h3⟩:=enc_nm.ex;refine⟨_,_,.lst l (Uu (h1 M) r),.lst l' .nil,?_,?_⟩
 ·simp only[PyData.depth]
  have:=Xx (k:=3) (l:=r.map e') (by simp;exact fun a _=>h3 a);simp only[PyData.depthAll];omega
 ·cases r with
  | nil=>simpa[PyData.eqv,PyData.eqvAll] using q
  | cons a r=>simpa[PyData.eqv,PyData.eqvAll] using q
theorem UK {α:Type} {n:Nat} {ti:DI} {g:DG} {tt:DT} {te:DE} {δ:DSt} {M:Mem} {Q:DK} (xs:List α) (e f:α->DL.D) (P:α->Bool)
  (hti:∀ R:List DL.D->(Mem->Prop)->Mem->Prop,(∀ keep,(∀ M',MExt M M'->keep M')->R (xs.map e) keep M)->ti δ M R) (hlen:xs.length<=1000)
  (hel:∀ x∈xs,∀ l M' (N:DSt->Mem->Prop),l.length=n->MExt M M'->(∀ l' ,l'.length=n->(∀ Qt:Bool->Mem->Prop,Qt (P x) M'->tt (δ++l') M' Qt)->(∀ Qe:DK,Qe (f x) M'->te (δ++l') M' Qe)->N (δ++l') M')->g (e x) (δ++l) M' N)
  (hq:∀ p M',M p=none->MExt M M'->M' p=some (.ls ((xs.filter P).map f))->Q (.lst p) M'):X4 n ti g (bIf tt (XL te)) δ M Q:=by
 refine hti _ fun keep hk p hp=>⟨hk _ (.new hp),?_⟩;refine VV (fun i δ' M'=>(∃ l,l.length=n/\δ'=δ++l)/\MExt M M'/\M' p=some (.ls (((xs.take i).filter P).map f))) (fun _ _ _ h=>hk _ h.2.1) ?_ ?_ ⟨⟨_,by simp,rfl⟩,.new hp,Y5⟩
 ·rintro δ' M' ⟨_,x,l⟩
  rw[List.length_map,List.take_length] at l;exact⟨⟨_,l⟩,hq p M' hp x l⟩
 ·rintro i y hy N hN δ' M' ⟨⟨w,hw,rfl⟩,x,l⟩
  obtain⟨hi,rfl⟩:∃ hi:i<xs.length,y=e xs[i]:=by
   obtain⟨h,e⟩:=List.getElem?_eq_some_iff.mp hy;have h':i<xs.length:=by simpa using h
   exact⟨h',by rw[<- e];simp⟩
  have hm:=List.getElem_mem hi;have tk:(xs.take (i+1)).filter P=(xs.take i).filter P++[xs[i]].filter P:=by rw[List.take_succ_eq_append_getElem hi,List.filter_append]
  have fl:((xs.take i).filter P).length<=1000:=Nat.le_trans (List.length_filter_le _ _) (by rw[List.length_take];omega);generalize xs[i]=v at hm tk;refine hel v hm w M' _ hw x fun l' hl' htt hte=>?_;unfold bIf;refine htt _ ?_;cases hp':P v with
  | true =>
   rw[if_pos rfl];unfold XL;refine hte _ ⟨_,l,by rw[List.length_map,sizeLine_eq];omega,?_⟩;refine hN _ _ ⟨⟨_,hl',rfl⟩,MExt.upd_new hp x,?_⟩;rw[Y5,tk];simp[hp']
  | false =>
   rw[if_neg (by decide)];refine hN _ _ ⟨⟨_,hl',rfl⟩,x,?_⟩;rw[l,tk];simp[hp']
noncomputable def S_38:DSp:=fun ds M Q E=>∃ s:List Rat,ds=[rw s]/\Gs s/\s.length<=24/\∀ p M',M p=none->MExt M M'->M' p=some (.ls ((Y3 s).map nm))->Q (.lst p) M'
noncomputable def C_38:CSs:=%[.set 1 (.bi .list %[.var 0|0]),.set 2 (.lst .nil),.set 3 (.tup %[.int 0,.int 1|0]),.whl (.cmp .NotEq (.var 1) (.lst .nil)) %[.set 4 (.int 0),.fr (.name 5) (.rng %[.bi .len %[.var 1|0]|0]) %[.ife (.call "_law_under" S_34 %[.ix (.var 1) (.var 4),.ix (.var 1) (.var 5)|0]) %[.set 4 (.var 5)|0] .nil|0],.set 3 (.call "_law_more" S_31 %[.var 3,.pop 1 (.var 4)|0]),.expr (.app 2 (.var 3))|0],.ret (.var 2)|0]
theorem Gw:∀ ds M R E,S_38 ds M R E->rSs C_38 (ends R E) (Y2 6 ds) M:=by
 rintro ds M R E ⟨s,rfl,G,s24,q⟩;have sz:=G.sz;unfold C_38;sleep 7;intro p1 M1 e1 x1 l1;sleep 7;intro p0 M2 e0 x2 l2;have l12:=x2 _ _ l1;have hpp:p0≠p1:=fun z=>by rw[z,l1] at e0;cases e0
 have e0':M p0=none:=MExt.none x1 e0;have xx:=x1.trans x2;sleep 7;rw[Yb];refine⟨fun m δ M'=>∃ (dn lf:List Rat) (w4 w5:Option DL.D),Sel s dn lf/\MExt M M'/\M' p0=some (.ls ((YT 0 dn).map nm))/\M' p1=some (.ls (lf.map nm))/\δ=[some (rw s),some (.lst p1),some (.lst p0),some (nm (tot dn)),w4,w5]/\m=lf.length,⟨_,[],s,_,_,⟨.refl _,.nil,nofun⟩,xx,l2,l12,rfl,rfl⟩,?_⟩;rintro m δ M3 ⟨dn,lf,w4,w5,S,x3,la,lb,rfl,rfl⟩;have ll:=S.perm.length_eq;rw[List.length_append] at ll;have inl:∀ x∈lf,x∈s:=fun x hx=>S.perm.subset (List.mem_append_right _ hx);have ind:∀ x∈dn,x∈s:=fun x hx=>S.perm.subset (List.mem_append_left _ hx);sleep 8;intro p4 M4 e4 x4 l4;refine Ef (x4 _ _ lb) l4 ?_;cases lf with
 | nil =>
  simp;sleep 7;have hs:srt s=dn:=(Us (by simpa using S.perm) S.fall).symm;exact q p0 M4 e0' (x3.trans x4) (by rw[x4 _ _ la];unfold Y3;rw[hs])
 | cons b0 lf =>
  obtain⟨l,hl⟩:∃ l,l=b0::lf:=⟨_,rfl⟩;have l1':1<=l.length:=by rw[hl];simp
  rw[<- hl] at S ll inl lb ⊢;have ln:(!l.isEmpty)=true:=by rw[hl];rfl
  rw[ln];simp;refine⟨fun δ' M'=>∃ (dn' lf':List Rat) (w4 w5:Option DL.D),Sel s dn' lf'/\MExt M M'/\M' p0=some (.ls ((YT 0 dn').map nm))/\M' p1=some (.ls (lf'.map nm))/\δ'=[some (rw s),some (.lst p1),some (.lst p0),some (nm (tot dn')),w4,w5]/\lf'.length<l.length,?_,?_⟩
  ·rintro δ' M' ⟨dn',lf',w4,w5,h1,h2,h3,h4,h5,h6⟩
   exact⟨_,h6,dn',lf',h1,h2,h3,h4,⟨w4,w5,h5⟩,rfl⟩
  have lb4:=x4 _ _ lb;have la4:=x4 _ _ la;have at_:∀ (v:List Rat) (i:Nat),i<v.length->L2.atI (v.map nm) (i:Int)=some (nm (ri v i)):=fun v i h=>YM (ZC h);sleep 7;sleep 9;refine⟨_,lb4,?_⟩;refine⟨by rw[List.length_map];omega,?_⟩;rw[List.length_map];refine YL (fun i δ M'=>∃ (j:Nat) (w5:Option DL.D),j<l.length/\(∀ k,k<i->k<l.length->ri l k<=ri l j)/\M'=M4/\δ=[some (rw s),some (.lst p1),some (.lst p0),some (nm (tot dn)),some (.int (j:Int)),w5]) (fun _ _ _ _=>trivial) ?_ ?_ ⟨0,_,by omega,nofun,rfl,rfl⟩
  ·rintro δ M' ⟨j,w,hj,hm,rfl,rfl⟩
   rw[ZJ] at hm;have bm:∀ c∈l,c<=l[j]:=fun c hc=>by
    obtain⟨i,hi',rfl⟩:=List.getElem_of_mem hc;have:=hm i (by simpa using hi') hi'
    simpa[ri,List.getD,hi',hj] using this
   have S':=S.step hj bm;sleep 7;simp[0,dPop,vAt,vHd,Yc,and_assoc,sizeLine_eq,Yl,ZF,Yu,dFld,Xk,Xl,Xj];refine⟨⟨_,lb4⟩,_,lb4,by omega,nm l[j],by simp[hj],?_⟩;rw[B6];have mj:l[j]∈s:=inl _ (List.getElem_mem hj);generalize l[j]=b at S' mj;obtain⟨l',el⟩:∃ l',l'=l.take j++l.drop (j+1):=⟨_,rfl⟩;have hl':l'.length<l.length:=by rw[el,List.length_append,List.length_take,List.length_drop];omega
   rw[<- el] at S' ⊢;have la5:(M'.upd p1 (.ls (l'.map nm))) p0=some (.ls ((YT 0 dn).map nm)):=by rw[Yv hpp];exact la4
   have st:Sz 1910 (tot dn):=G.tot ind (by omega);refine⟨_,_,rfl,.mk st (sz _ mj) (by decide),?_⟩;sleep 7;refine⟨⟨_,la5⟩,_,la5,by rw[List.length_map,ZS];omega,?_⟩;refine⟨dn++[b],l',S',MExt.upd_new e0' (MExt.upd_new e1 (x3.trans x4)),?_,?_,by rw[V5],hl'⟩
   ·rw[Y5,WL,List.map_append];rfl
   ·rw[Yv hpp.symm,Y5]
  ·rintro i y hy N hN δ M' ⟨j,w,hj,hm,rfl,rfl⟩
   obtain⟨rfl,hi'⟩:=XT hy;rw[show (0:Int)+(i:Int)*1=(i:Int) by omega];have h1:=Yn hj;have hi2:i<l.length:=by simpa using hi'
   have h2:=Yn hi2;sleep 8;sleep 7;refine Y8 lb4 (at_ _ _ hj) (Y8 lb4 (at_ _ _ hi2) ?_);refine⟨_,_,rfl,.mk (sz _ (inl _ h1)) (sz _ (inl _ h2)) (by decide),?_⟩;by_cases hc:ri l j<ri l i
   ·rw[decide_eq_true hc]
    simp;sleep 7;refine hN _ _ ⟨i,_,hi2,fun k hk hk2=>?_,rfl,rfl⟩;rcases (by omega:k<i\/k=i) with h|rfl
    ·have:=hm k h hk2;grind
    ·exact Rat.le_refl
   ·rw[decide_eq_false hc]
    simp;refine hN _ _ ⟨j,_,hj,fun k hk hk2=>?_,rfl,rfl⟩;rcases (by omega:k<i\/k=i) with h|rfl
    ·exact hm k h hk2
    ·grind
noncomputable def S_39:DSp:=fun ds M Q _=>∃ i:Int,ds=[.int i]/\Q (.bl true) M
noncomputable def C_39:CSs:=%[.ret (.and (.bi .isinstance %[.var 0,.ty .int|0]) (.one (.not (.bi .isinstance %[.var 0,.ty .bool|0]))))|0]
theorem Gv:∀ ds M R E,S_39 ds M R E->rSs C_39 (ends R E) (Y2 1 ds) M:=by
 rintro ds M R E ⟨i,rfl,q⟩;unfold C_39;sleep 7;exact⟨"int",rfl,by decide,.inr ⟨rfl,"int",rfl,by decide,.inl ⟨rfl,q⟩⟩⟩
noncomputable def S_35:DSp:=fun ds M Q E=>∃ a b,ds=[.tup [a,b]]/\Q (.bl true) M
noncomputable def C_35:CSs:=%[.ret (.and (.bi .isinstance %[.var 0,.ty .tuple|0]) (.one (.cmp .Eq (.bi .len %[.var 0|0]) (.int 2))))|0]
theorem Gz:∀ ds M R E,S_35 ds M R E->rSs C_35 (ends R E) (Y2 1 ds) M:=by
 rintro ds M R E ⟨a,b,rfl,q⟩;unfold C_35;sleep 7;refine YA false ?_
 simpa using q
noncomputable def S_40:DSp:=fun ds M Q E=>∃ (s:List Rat) (vs:List Lv),ds=[rw s,.tup (vs.map lv)]/\Way s vs/\s.length<=24/\∀ M',MExt M M'->Q (rw (runL vs s)) M'
noncomputable def C_40:CSs:=%[.ife (.not (.bi .isinstance %[.var 1,.ty .tuple|0])) %[.ret .non|0] .nil,.set 2 (.bi .list %[.var 0|0]),.fr (.name 3) (.seq (.var 1)) %[.ife (.or (.not (.bi .isinstance %[.var 3,.ty .tuple|0])) (.or (.cmp .NotEq (.bi .len %[.var 3|0]) (.int 3)) (.one (.cmp .Eq (.ix (.var 3) (.int 0)) (.ix (.var 3) (.int 1)))))) %[.ret .non|0] .nil,.ife (.not (.bi .all %[.comp ["_law_some_here","_law_levellings","_law_found","_law_one","_law_less","_law_place"] 1 (.name 5) (.seq (.sl (.var 3) .none (.some (.int 2)))) (.and (.call "_law_is_whole" S_39 %[.var 5|0]) (.one (.chain .LtE .Lt (.int 0) (.var 5) (.bi .len %[.var 2|0]))))|0])) %[.ret .non|0] .nil,.set 4 (.call "_law_less_by" S_32 %[.ix (.var 2) (.ix (.var 3) (.int 0)),.ix (.var 2) (.ix (.var 3) (.int 1))|0]),.ife (.or (.not (.call "_law_under" S_34 %[.tup %[.int 0,.int 1|0],.ix (.var 3) (.int 2)|0])) (.one (.call "_law_under" S_34 %[.var 4,.ix (.var 3) (.int 2)|0]))) %[.ret .non|0] .nil,.asg (.sub (.var 2) (.ix (.var 3) (.int 0))) (.call "_law_less_by" S_32 %[.ix (.var 2) (.ix (.var 3) (.int 0)),.ix (.var 3) (.int 2)|0]),.asg (.sub (.var 2) (.ix (.var 3) (.int 1))) (.call "_law_more" S_31 %[.ix (.var 2) (.ix (.var 3) (.int 1)),.ix (.var 3) (.int 2)|0])|0],.ret (.bi .tuple %[.var 2|0])|0]
theorem Gu:∀ ds M R E,S_40 ds M R E->rSs C_40 (ends R E) (Y2 5 ds) M:=by
 rintro ds M R E ⟨s,vs,rfl,W,s24,q⟩;unfold C_40;sleep 7;sleep 7;intro p1 M1 e1 x1 l1;sleep 9;refine YL (fun i δ M'=>∃ (w3 w4:Option DL.D),MExt M M'/\M' p1=some (.ls ((runL (vs.take i) s).map nm))/\δ=[some (rw s),some (.tup (vs.map lv)),some (.lst p1),w3,w4]) (fun _ _ _ _=>trivial) ?_ ?_ ⟨_,_,x1,l1,rfl⟩
 ·rintro δ M' ⟨w3,w4,xm,l,rfl⟩
  rw[List.length_map,List.take_length] at l;sleep 7;exact⟨_,l,q M' xm⟩
 ·rintro i y hy N hN δ M' ⟨w3,w4,xm,l,rfl⟩
  obtain⟨hi,rfl⟩:∃ hi:i<vs.length,y=lv vs[i]:=by
   obtain⟨h,e⟩:=List.getElem?_eq_some_iff.mp hy;have h':i<vs.length:=by simpa using h
   exact⟨h',by rw[<- e];simp⟩
  have c:=W i hi;have rl:=X7 (vs.take i) s;have tk:vs.take (i+1)=vs.take i++[vs[i]]:=List.take_succ_eq_append_getElem hi;have fin:∀ w3 w4 M2,MExt M M2->M2 p1=some (.ls ((doL vs[i] (runL (vs.take i) s)).map nm))->N [some (rw s),some (.tup (vs.map lv)),some (.lst p1),w3,w4] M2:=fun w3 w4 M2 x2 l2=>hN _ _ ⟨_,_,x2,by rw[tk,X8];exact l2,rfl⟩;generalize runL (vs.take i) s=u at c rl l fin;generalize vs[i]=v at c fin;obtain⟨g,t,z⟩:=v;have h1:g<u.length:=c.g;have h2:t<u.length:=c.l;have h3:0<z:=c.pos;have h4:z<=ri u g-ri u t:=c.le;have sx:Sz 900 z:=c.sx;have ss:=c.ss;have ne:g≠t:=fun e=>by subst e;grind
  have sg:=ss _ (Yn h1);have st:=ss _ (Yn h2);have at_:∀ (v:List Rat) (i:Nat),i<v.length->L2.atI (v.map nm) (i:Int)=some (nm (ri v i)):=fun v i h=>YM (ZC h);rw[show lv ⟨g,t,z⟩=.tup [.int g,.int t,nm z] from rfl];sleep 8;sleep 7;refine YA true ?_;simp;refine tix (YG _ _) (tix (Zl _ _ _) ?_);refine YA false ?_;have ne':¬ ((g:Int)=t):=by omega
  simp[ne'];sleep 7;refine Z7 [g,t] (fun n:Nat=>.int (n:Int)) (fun _=>.bl true) (fun R' r'=>?_) (by simp) ?_ ?_
  ·simp only[Yu]
   sleep 8;exact r' _ fun _ _=>trivial
  ·intro n hn l2 M' R' hl' ee rr
   obtain⟨z1,rfl⟩:=len1 hl';have hn':n<u.length:=by
    simp only[List.mem_cons,List.not_mem_nil,or_false] at hn;rcases hn with rfl|rfl
    ·exact h1
    ·exact h2
   sleep 8;refine⟨_,rfl,?_⟩;simp;refine⟨_,ee _ _ l,?_⟩;rw[List.length_map,decide_eq_true hn'];exact rr [_] M' rfl (.refl _)
  intro p2 M2 e2 x2 l2;refine Vv (f:=fun _=>true) l2 ?_;simp;have l':=x2 _ _ l;have xm2:=xm.trans x2;sleep 7;refine tix (YG _ _) (Y8 l' (at_ _ _ h1) (tix (Zl _ _ _) (Y8 l' (at_ _ _ h2) ?_)));refine⟨_,_,rfl,.mk sg st (by decide),?_⟩;have s0:Sz 1 (0:Rat):=⟨by decide,by decide⟩;have z1:=sg.sub st;sleep 7;sleep 8;rw[J2];refine tix (v:=nm z) rfl ⟨_,_,rfl,.mk s0 sx (by decide),?_⟩;rw[decide_eq_true h3];simp;refine tix (v:=nm z) rfl ⟨_,_,rfl,.mk z1 sx (by decide),?_⟩;rw[decide_eq_false (by grind)];simp;sleep 7;refine tix (YG _ _) (Y8 l' (at_ _ _ h1) (tix (v:=nm z) rfl ⟨_,_,rfl,.mk sg sx (by decide),tix (YG _ _) ⟨_,rfl,_,l',g,by simp[L2.ixN];omega,?_⟩⟩));rw[show (u.map nm).set g (nm (ri u g-z))=(u.set g (ri u g-z)).map nm from List.map_set.symm];have ln':(u.set g (ri u g-z)).length=u.length:=List.length_set;have sl:Sz 1801 (ri (u.set g (ri u g-z)) t):=by
   have:=Yn (r:=u.set g (ri u g-z)) (i:=t) (by omega);rcases List.mem_or_eq_of_mem_set this with h|h
   ·exact (ss _ h).mono (by decide)
   ·rw[h];exact (sg.sub sx).mono (by decide)
  obtain⟨w,hu⟩:∃ w,w=u.set g (ri u g-z):=⟨_,rfl⟩;rw[<- hu] at ln' sl ⊢;have l3:(M2.upd p1 (.ls (w.map nm))) p1=some (.ls (w.map nm)):=Y5;sleep 7;refine tix (Zl _ _ _) (Y8 l3 (at_ _ _ (by omega)) (tix (v:=nm z) rfl ⟨_,_,rfl,.mk sl sx (by decide),tix (Zl _ _ _) ⟨_,rfl,_,l3,t,by simp[L2.ixN];omega,?_⟩⟩));rw[Wa,show (w.map nm).set t (nm (ri w t+z))=(doL ⟨g,t,z⟩ u).map nm by rw[<- List.map_set,hu];rfl];exact fin _ _ _ (MExt.upd_new e1 xm2) Y5
noncomputable def S_41:DSp:=fun ds M Q E=>∃ (a:Addr) (s:List Rat) (c:Int),ds=[.lst a,rw s,.tup [.int 1,.int c]]/\Pk M a/\1<=s.length/\s.length<=24/\0<c/\c<=100/\c.toNat ∣ 300/\(∀ x∈s,Gr 300 3600 x)/\∀ u M',u.length=s.length->(∀ x∈u,Gr 300 874800 x)->Dr a M M'->Q (rw u) M'
noncomputable def C_41:CSs:=%[.set 3 (.bi .list %[.var 1|0]),.fr (.name 4) (.rng %[.call "_law_take" S_29 %[.var 0,.int 6|0]|0]) %[.par 5 6 (.call "_law_take" S_29 %[.var 0,.bi .len %[.var 3|0]|0]) (.call "_law_take" S_29 %[.var 0,.bi .len %[.var 3|0]|0]),.set 7 (.call "_law_less_by" S_32 %[.ix (.var 3) (.var 5),.ix (.var 3) (.var 6)|0]),.ife (.call "_law_under" S_34 %[.tup %[.int 0,.int 1|0],.var 7|0]) %[.set 7 (.ix (.lst %[.var 7,.var 2|0]) (.call "_law_take" S_29 %[.var 0,.int 2|0])),.asg (.sub (.var 3) (.var 5)) (.call "_law_less_by" S_32 %[.ix (.var 3) (.var 5),.var 7|0]),.asg (.sub (.var 3) (.var 6)) (.call "_law_more" S_31 %[.ix (.var 3) (.var 6),.var 7|0])|0] .nil|0],.ret (.bi .tuple %[.var 3|0])|0]
theorem Gq:∀ ds M R E,S_41 ds M R E->rSs C_41 (ends R E) (Y2 8 ds) M:=by
 rintro ds M R E ⟨a,s,c,rfl,pk,s1,s24,c0,c1,cd,gs,q⟩;have ut:D.tup [.int 1,.int c]=nm (Rat.divInt 1 c):=J3 (by omega) (by simp);have gu:Gr 300 3600 (Rat.divInt 1 c):=WM c0 cd (by decide) (by decide);rw[ut];generalize Rat.divInt 1 c=w at gu;have at_:∀ (v:List Rat) (i:Nat),i<v.length->L2.atI (v.map nm) (i:Int)=some (nm (ri v i)):=fun v i h=>YM (ZC h);unfold C_41;sleep 7;intro p1 M1 e1 x1 l1;sleep 9;refine YB (pk.ext x1) (by decide) (by decide) fun n M2 n0 n1 y2=>?_;obtain⟨n,rfl⟩:=Int.eq_ofNat_of_zero_le n0;have hpa:p1≠a:=pk.ne e1;have l2:=y2.keep _ _ hpa l1;refine⟨by omega,by omega,?_⟩;rw[Int.toNat_natCast];refine YL (fun i δ M'=>∃ (u:List Rat) (w4 w5 w6 w7:Option DL.D),Dr a M M'/\u.length=s.length/\(∀ x∈u,Gr 300 (3 ^ i*3600) x)/\M' p1=some (.ls (u.map nm))/\δ=[some (.lst a),some (rw s),some (nm w),some (.lst p1),w4,w5,w6,w7]) (fun _ _ _ _=>trivial) ?_ ?_ ⟨s,_,_,_,_,(Dr.ext pk x1).trans y2,rfl,by simpa using gs,l2,rfl⟩
 ·rintro δ M' ⟨u,w4,w5,w6,w7,d,ul,gu',l,rfl⟩
  rw[ZJ] at gu';sleep 7;refine⟨_,l,?_⟩;refine q u M' ul (fun x hx=>(gu' x hx).mono ?_) d;have:3 ^ n<=3 ^ 5:=Nat.pow_le_pow_right (by decide) (by omega);omega
 ·rintro i y hy N hN δ M' ⟨u,w4,w5,w6,w7,d,ul,gu',l,rfl⟩
  obtain⟨rfl,hi'⟩:=XT hy;have hi':i<=5:=by omega
  have pw:(3:Nat) ^ i<=3 ^ 5:=Nat.pow_le_pow_right (by decide) hi';have sz:∀ x∈u,Sz 40 x:=fun x hx=>(gu' x hx).sz (by decide) (by decide) (by omega);sleep 8;sleep 7;refine⟨_,l,?_⟩;rw[List.length_map];refine YB d.pk (by omega) (Nat.lt_of_lt_of_le (show (u.length:Int).natAbs<2 ^ 6 by omega) (Yd (by decide))) fun g M3 g0 g1 y3=>?_;obtain⟨g,rfl⟩:=Int.eq_ofNat_of_zero_le g0;have l3:=y3.keep _ _ hpa l;refine⟨_,l3,?_⟩;rw[List.length_map];refine YB y3.pk (by omega) (Nat.lt_of_lt_of_le (show (u.length:Int).natAbs<2 ^ 6 by omega) (Yd (by decide))) fun t M4 t0 t1 y4=>?_;obtain⟨t,rfl⟩:=Int.eq_ofNat_of_zero_le t0;have l4:=y4.keep _ _ hpa l3;have h1:g<u.length:=by omega
  have h2:t<u.length:=by omega
  have d4:=d.trans (y3.trans y4);have q1:=gu' _ (Yn h1);have q2:=gu' _ (Yn h2);have gx:=q1.sub (by decide) q2;have s0:Sz 1 (0:Rat):=⟨by decide,by decide⟩;have pw1:(3:Nat) ^ (i+1)=3*3 ^ i:=by rw[Nat.pow_succ,Nat.mul_comm]
  have p0:1<=(3:Nat) ^ i:=Nat.pow_pos (by decide);sleep 7;refine Y8 l4 (at_ _ _ h1) (Y8 l4 (at_ _ _ h2) ?_);refine⟨_,_,rfl,.mk (sz _ (Yn h1)) (sz _ (Yn h2)) (by decide),?_⟩;obtain⟨z,hz⟩:∃ z,z=ri u g-ri u t:=⟨_,rfl⟩;rw[<- hz] at gx ⊢;have zx:=gx.sz (m:=40) (by decide) (by decide) (by omega);refine Zx fun J hJ=>?_;have tail:∀ (u2:List Rat) (w7:Option DL.D) (M5:Mem),Dr a M M5->u2.length=s.length->(∀ x∈u2,Gr 300 (3 ^ (i+1)*3600) x)->M5 p1=some (.ls (u2.map nm))->J [some (.lst a),some (rw s),some (nm w),some (.lst p1),some (.int (i:Int)),some (.int (g:Int)),some (.int (t:Int)),w7] M5:=by
   intro u2 w7 M5 d5 l5 g5 m5;refine hJ _ _ ?_;sleep 8;exact hN _ _ ⟨u2,_,_,_,_,d5,l5,g5,m5,rfl⟩
  sleep 8;rw[J2];refine⟨_,_,rfl,.mk s0 zx (by decide),?_⟩;by_cases cz:0<z
  ·rw[decide_eq_true cz]
   simp;sleep 7;intro p5 M5 e5 x5 l5;refine YB (y4.pk.ext x5) (by decide) (by decide) fun k M6 k0 k1 y6=>?_;obtain⟨v,hv,hat⟩:=Wr l5 k0 k1;have d6:=d4.trans ((Dr.ext y4.pk x5).trans y6);have m6:=y6.keep _ _ hpa (x5 _ _ l4);refine Y8 (y6.keep _ _ (y4.pk.ne e5) l5) hat ?_;obtain⟨b,rfl,gb,sb⟩:∃ b,v=nm b/\Gr 300 (2*(3 ^ i*3600)) b/\Sz 40 b:=by
    simp only[List.mem_cons,List.not_mem_nil,or_false] at hv;rcases hv with rfl|rfl
    ·exact⟨_,rfl,gx.mono (by omega),zx⟩
    ·exact⟨_,rfl,gu.mono (by omega),gu.sz (by decide) (by decide) (by decide)⟩
   have ne:g≠t:=fun e=>by subst e;grind
   sleep 7;refine Y8 m6 (at_ _ _ h1) ⟨_,_,rfl,.mk (sz _ (Yn h1)) sb (by decide),?_⟩;refine⟨_,m6,g,by simp[L2.ixN];omega,?_⟩;rw[show (u.map nm).set g (nm (ri u g-b))=(u.set g (ri u g-b)).map nm from List.map_set.symm];have e3:ri (u.set g (ri u g-b)) t=ri u t:=by simp[ri,List.getD,List.getElem?_set,ne]
   have ln':(u.set g (ri u g-b)).length=u.length:=List.length_set;have gu2:∀ x∈(u.set g (ri u g-b)).set t (ri u t+b),Gr 300 (3 ^ (i+1)*3600) x:=fun x hx=>by
    rcases Va hx with hx|rfl
    ·rcases Va hx with hx|rfl
     ·exact (gu' x hx).mono (by omega)
     ·exact (q1.sub (by decide) gb).mono (by omega)
    ·exact (q2.add (by decide) gb).mono (by omega)
   have lu2:((u.set g (ri u g-b)).set t (ri u t+b)).length=s.length:=by rw[List.length_set,ln',ul]
   obtain⟨v2,hv2⟩:∃ v2,v2=u.set g (ri u g-b):=⟨_,rfl⟩;rw[<- hv2] at e3 ln' gu2 lu2 ⊢;have m7:(M6.upd p1 (.ls (v2.map nm))) p1=some (.ls (v2.map nm)):=Y5;sleep 7;refine Y8 m7 (at_ _ _ (by omega)) ⟨_,_,rfl,.mk (by rw[e3];exact sz _ (Yn h2)) sb (by decide),?_⟩;refine⟨_,m7,t,by simp[L2.ixN];omega,?_⟩;rw[Wa,e3,show (v2.map nm).set t (nm (ri u t+b))=(v2.set t (ri u t+b)).map nm from List.map_set.symm];exact tail _ _ _ (d6.upd_new e1 hpa) lu2 gu2 Y5
  ·rw[decide_eq_false cz]
   simp;exact tail u _ M4 d4 ul (fun x hx=>(gu' x hx).mono (by omega)) l4
theorem U6 {M:Mem} {Q:DK} {w w':Str} {s o:List Rat} (neg:Bool) (hw:(PyData.str w).canLay0=true) (hw':(PyData.str w').canLay0=true) (q:Q (.bl (if neg then !decide (w=w') else decide (w=w'))) M):cEq neg (.tup [.str w,rw s,rw o]) (.tup [.str w',rw s,rw o]) M Q:=by
 obtain⟨e',h1,h2,h3⟩:=enc_rw.ex;refine Wo (.tup (.cons (.str w hw) (.cons (h1 M s) (.cons (h1 M o) .nil)))) (.tup (.cons (.str w' hw') (.cons (h1 M s) (.cons (h1 M o) .nil)))) ?_ ?_
 ·have:=h3 s;have:=h3 o
  simp only[PyData.depth,PyData.depthAll];omega
 ·have e:PyData.eqv (.tuple [.str w,e' s,e' o]) (.tuple [.str w',e' s,e' o])=decide (w=w'):=by
   simp only[PyData.eqv,PyData.eqvAll,h2];simp;exact Bool.eq_iff_iff.mpr (by simp)
  rw[e];exact q
theorem AA (M:Mem):∀ xs:List Nat,Pys M (xs.map fun i:Nat=>.int ((i:Int)+1)) (xs.map fun i:Nat=>.int ((i:Int)+1))
 | []=>.nil
 | _::xs=>.cons (.int _) (AA M xs)
theorem IG {M:Mem} {Q:DK} {p p':Addr} {xs:List Nat} (l:M p=some (.ls (xs.map fun i:Nat=>.int ((i:Int)+1)))) (l':M p'=some (.ls [])) (q:Q (.bl xs.isEmpty) M):cEq false (.lst p) (.lst p') M Q:=by
 refine Wo (.lst l (AA M xs)) (.lst l' .nil) (by simp[PyData.depth,PyData.depthAll]) ?_;cases xs with
 | nil=>simpa[PyData.eqv,PyData.eqvAll] using q
 | cons a r=>simpa[PyData.eqv,PyData.eqvAll] using q
theorem IC {M:Mem} {Q:DK} {p:Addr} {xs:List Nat} {k:Nat} (l:M p=some (.ls (xs.map fun i:Nat=>.int ((i:Int)+1)))) (h:k-1∈xs) (k1:1<=k) (q:Q (.bl true) M):cIn false (.int (k:Int)) (.lst p) M Q:=by
 refine⟨_,l,_,.int k,AA M xs,.int _,by simp[PyData.depth],?_⟩;have e:((xs.map fun i:Nat=>PyData.int ((i:Int)+1)).any fun z=>PyData.eqv z (.int (k:Int)))=true:=by
  rw[List.any_eq_true];refine⟨_,List.mem_map_of_mem h,?_⟩;simp[PyData.eqv];omega
 rw[e];exact q
noncomputable def Tld (s o:List Rat) (w:Str) (d:DL.D):Prop :=
 (w="leveller"/\Leads o s/\∃ vs:List Lv,d=.tup (vs.map lv)/\Way o vs/\runL vs o=s) \/
 (w="no leveller"/\¬ Leads o s/\nlB s o d=true/\(d=.non\/∃ k:Nat,d=.int k/\1<=k/\k<=s.length))
noncomputable def grB (s o:List Rat) (i:Nat):Bool:=decide (ri (Y3 o) i<ri (Y3 s) i)
noncomputable def S_43:DSp:=fun ds M Q E=>∃ s o,ds=[rw s,rw o]/\Two s o/\∀ M',MExt M M'->Q (.bl true) M'
noncomputable def C_43:CSs:=%[.set 2 (.call "paper_steps" S_23 %[.var 0,.var 1|0]),.ife (.or (.not (.call "_law_is_pair" S_35 %[.var 2|0])) (.one (.cmp .IsNot (.call "holds" S_26 %[.ix (.var 2) (.int 0),.ix (.var 2) (.int 1)|0]) (.bl true)))) %[.ret (.bl false)|0] .nil,.asg (.tup %[.name 3,.name 4|0]) (.var 2),.asg (.tup %[.name 5,.name 6|0]) (.tup %[.call "_law_sums" S_38 %[.var 0|0],.call "_law_sums" S_38 %[.var 1|0]|0]),.set 7 (.compI ["_law_some_here","_law_other","_law_found","_law_claim","_law_paper","_law_mine","_law_theirs","_law_greater","_law_k"] 1 (.name 8) (.rng %[.bi .len %[.var 5|0]|0]) (.call "_law_under" S_34 %[.ix (.var 6) (.var 8),.ix (.var 5) (.var 8)|0]) (.bin .Add (.var 8) (.int 1))),.ife (.and (.cmp .Eq (.ix (.var 5) (.neg (.int 1))) (.ix (.var 6) (.neg (.int 1)))) (.one (.cmp .Eq (.var 7) (.lst .nil)))) %[.ret (.and (.cmp .Eq (.var 3) (.tup %[.str "leveller",.var 0,.var 1|0])) (.one (.cmp .Eq (.call "_law_walked" S_40 %[.var 1,.var 4|0]) (.var 0))))|0] .nil,.ife (.cmp .NotEq (.var 3) (.tup %[.str "no leveller",.var 0,.var 1|0])) %[.ret (.bl false)|0] .nil,.ife (.cmp .Is (.var 4) .non) %[.ret (.cmp .NotEq (.ix (.var 5) (.neg (.int 1))) (.ix (.var 6) (.neg (.int 1))))|0] .nil,.ret (.and (.bi .isinstance %[.var 4,.ty .int|0]) (.and (.not (.bi .isinstance %[.var 4,.ty .bool|0])) (.one (.cmp .In (.var 4) (.var 7)))))|0]
theorem Go:∀ ds M R E,S_43 ds M R E->rSs C_43 (ends R E) (Y2 8 ds) M:=by
 rintro ds M R E ⟨s,o,rfl,T,q⟩;have s1:=T.s1;have s24:=T.s24;have ol:=T.ol;have ss:=T.ss;have so:=T.so;have G1:=T.gs;have G2:=T.go;have lg:(Y3 s).length=s.length:=Zk s;have lo':(Y3 o).length=s.length:=(Zk o).trans ol;have at_:∀ (v:List Rat) (i:Nat),i<v.length->L2.atI (v.map nm) (i:Int)=some (nm (ri v i)):=fun v i h=>YM (ZC h);unfold C_43;refine Zx fun J hJ=>?_;have tail:∀ (w:Str) (d:DL.D) (M1:Mem),Tld s o w d->MExt M M1->J [some (rw s),some (rw o),some (.tup [.tup [.str w,rw s,rw o],d]),none,none,none,none,none] M1:=by
  intro w d M1 td x1;refine hJ _ _ ?_;sleep 7;refine⟨_,_,rfl,?_⟩;simp;refine tix (YG _ _) (tix (Zl _ _ _) ⟨w,_,_,d,rfl,?_⟩);have hold:∀ Q':DK,(∀ M2,MExt M1 M2->Q' (.bl true) M2)->∀ E',(w="leveller"/\S_24 [.tup [rw s,rw o],d] M1 Q' E')\/(w="no leveller"/\S_25 [.tup [rw s,rw o],d] M1 Q' E'):=by
   intro Q' h E';rcases td with ⟨rfl,ld,vs,rfl,W,rn⟩|⟨rfl,nl,nb,hf⟩
   ·exact .inl ⟨rfl,s,o,vs,rfl,ss,so,s1,s24,ol,W,rn,h⟩
   ·exact .inr ⟨rfl,s,o,d,rfl,G1,G2,ss,so,s1,s24,ol,hf,fun M2 x2=>by rw[nb];exact h M2 x2⟩
  refine hold _ (fun M2 x2=>?_) _;simp;sleep 7;sleep 7;refine⟨s,rfl,G1,s24,fun p5 M3 e3 x3 l3=>?_⟩;refine⟨o,rfl,G2,by omega,fun p6 M4 e4 x4 l4=>?_⟩;have l34:=x4 _ _ l3;sleep 7;refine UK (List.range s.length) (fun i=>.int (i:Int)) (fun i=>.int ((i:Int)+1)) (grB s o) ?_ (by simp;omega) ?_ ?_
  ·intro R' r'
   simp[0,vAt,vHd,Yc,and_assoc,sizeLine_eq,Yl,ZF,Yu,dFld,Xk,Xl,Xj,YQ,fLen];refine⟨_,l34,?_⟩;have e:rngD 0 1 (List.map nm (Y3 s)).length=(List.range s.length).map fun i=>.int (i:Int):=by
    unfold rngD;rw[List.length_map,lg];simp
   rw[e];exact⟨by rw[List.length_map];omega,r' _ fun _ _=>trivial⟩
  ·intro i hi' l M' N hl' e hh
   have hi2:=List.mem_range.mp hi';obtain⟨u,rfl⟩:=len1 hl';sleep 8;refine hh [_] rfl (fun Qt hq=>?_) fun Qe hq=>?_
   ·sleep 8
    refine Y8 (e _ _ l4) (at_ _ _ (by omega)) (Y8 (e _ _ l34) (at_ _ _ (by omega)) ?_);exact⟨_,_,rfl,.mk (Xu G2 (by omega) (by omega)) (Xu G1 (by omega) hi2) (by decide),hq⟩
   ·sleep 8
    exact hq
  intro p7 M5 e7 x5 l7;have xx:MExt M M5:=x1.trans (x2.trans (x3.trans (x4.trans x5)));have l5:=x5 _ _ l34;have l6:=x5 _ _ l4;refine Zx fun J hJ=>?_;have t2:∀ M6,MExt M5 M6->¬ Leads o s->J [some (rw s),some (rw o),some (.tup [.tup [.str w,rw s,rw o],d]),some (.tup [.str w,rw s,rw o]),some d,some (.lst p5),some (.lst p6),some (.lst p7)] M6:=by
   intro M6 x6 nl;have l5:=x6 _ _ l5;have l6:=x6 _ _ l6;have l7:=x6 _ _ l7;rcases td with ⟨rfl,ld,_⟩|⟨rfl,_,nb,hf⟩
   ·exact absurd ld nl
   ·refine hJ _ _ ?_
    sleep 7;refine U6 true (by decide +kernel) (by decide +kernel) ?_;simp;rcases hf with rfl|⟨k,rfl,k1,k2⟩
    ·sleep 7
     sleep 7;refine Y8 l5 (atI_last (by omega)) (Y8 l6 (atI_last (by omega)) (U5 true ?_));rw[lg,lo'];have nb:(!decide (ri (Y3 s) (s.length-1)=ri (Y3 o) (s.length-1)))=true:=nb;rw[if_pos rfl,nb];exact q M6 (xx.trans x6)
    ·have nb:decide (ri (Y3 o) (k-1)<ri (Y3 s) (k-1))=true:=nb
     sleep 7;refine .inl ⟨rfl,?_⟩;sleep 7;refine⟨"int",rfl,by decide,.inr ⟨rfl,"int",rfl,by decide,.inl ⟨rfl,?_⟩⟩⟩;refine IC l7 (List.mem_filter.mpr ⟨List.mem_range.mpr (by omega),nb⟩) k1 ?_;exact q M6 (xx.trans x6)
  sleep 8;refine Y8 l5 (atI_last (by omega)) (Y8 l6 (atI_last (by omega)) (U5 false ?_));rw[lg,lo'];by_cases c:ri (Y3 s) (s.length-1)=ri (Y3 o) (s.length-1)
  ·simp[c]
   intro p8 M6 e8 x6 l8;refine IG (x6 _ _ l7) l8 ?_;by_cases ld:Leads o s
   ·have em:List.filter (grB s o) (List.range s.length)=[]:=List.filter_eq_nil_iff.mpr fun i hi=>by
     have:=ld.dom i (by have:=List.mem_range.mp hi;omega);unfold grB;simp;grind
    rw[em];refine .inr ⟨rfl,?_⟩;rcases td with ⟨rfl,_,vs,rfl,W,rn⟩|⟨_,nl,_⟩
    ·sleep 7
     refine U6 false (by decide +kernel) (by decide +kernel) ?_;simp;refine⟨o,vs,rfl,W,by omega,fun M7 x7=>?_⟩;rw[rn];refine D0 false ?_
     simpa using q M7 (xx.trans (x6.trans x7))
    ·exact absurd ld nl
   ·have ne:(List.filter (grB s o) (List.range s.length)).isEmpty=false:=by
     rw[Bool.eq_false_iff];intro z;have z:=List.filter_eq_nil_iff.mp (List.isEmpty_iff.mp z);refine ld ⟨fun i hi=>?_,by rw[ol];exact c.symm⟩;have:=z i (List.mem_range.mpr (by omega));unfold grB at this;simp at this;grind
    rw[ne];exact .inl ⟨rfl,t2 M6 x6 ld⟩
  ·simp[c]
   exact t2 M5 (.refl _) fun ld=>c (by have:=ld.fin;rw[ol] at this;exact this.symm)
 sleep 8;refine⟨_,_,rfl,Xg ss (by decide),Xg so (by decide),.inr ⟨s,o,rfl,rfl,T,fun ld vs M1 W rn vl x1=>?_,fun nl f M1 hf hk x1=>?_⟩⟩
 ·exact tail _ _ M1 (.inl ⟨rfl,ld,vs,rfl,W,rn⟩) x1
 ·exact tail _ _ M1 (.inr ⟨rfl,nl,hf,hk⟩) x1
noncomputable def S_44:DSp:=fun ds M Q E=>∃ d e:DL.D,ds=[d,e]/\Gd M d/\Gd M e/\Rf e d/\∀ M',MExt M M'->Q (.bl true) M'
noncomputable def C_44:CSs:=%[.set 2 .non,.tri %[.expr (.call "paper_steps" S_23 %[.var 0,.var 1|0])|0] "CordError" 3 2,.ret (.call "_law_only" S_36 %[.var 2,.int 3|0])|0]
theorem Gn:∀ ds M R E,S_44 ds M R E->rSs C_44 (ends R E) (Y2 4 ds) M:=by
 rintro ds M R E ⟨d,e,rfl,gd,ge,rf,q⟩;unfold C_44;sleep 7;refine Zx fun J hJ=>?_;have tail:∀ M2,MExt M M2->J [some d,some e,some (.exc "NoRow" .non),none] M2:=by
  intro M2 x2;refine hJ _ _ ?_;sleep 7;exact⟨_,3,rfl,Ay,fun M3 x3=>q M3 (x2.trans x3)⟩
 sleep 8;sleep 7;refine⟨d,e,rfl,gd,ge,.inl ⟨rf,fun M2 x2=>?_⟩⟩;have:=tail M2 x2
 simpa using this
theorem Bx {k:Nat}:∀ {s:List Rat},(∀ x∈s,Sz k x)->∃ L,0<L/\L<=(2 ^ k) ^ s.length/\∀ x∈s,x.den ∣ L
 | [],_=>⟨1,by decide,by simp,nofun⟩
 | a::s,h=>by
  obtain⟨L,l0,hL,hd⟩:=Bx (s:=s) fun x hx=>h x (List.mem_cons_of_mem _ hx);have ha:=(h a List.mem_cons_self).2;refine⟨a.den*L,Nat.mul_pos a.den_pos l0,?_,fun x hx=>?_⟩
  ·rw[List.length_cons,Nat.pow_succ,Nat.mul_comm];exact Nat.mul_le_mul hL (Nat.le_of_lt ha)
  ·rcases List.mem_cons.mp hx with rfl|hx
   ·exact Nat.dvd_mul_right _ _
   ·exact Nat.dvd_trans (hd x hx) (Nat.dvd_mul_left _ _)
theorem Gb {w:List Rat} (h:∀ x∈w,Sz 100 x) (hl:w.length<=7):∃ L B,Bnd L B/\∀ x∈w,Gr L B x:=by
 obtain⟨L,l0,hL,hd⟩:=Bx h;have h1:(2 ^ 100) ^ w.length<=(2 ^ 100) ^ 7:=Nat.pow_le_pow_right (by decide) hl;have h2:(2 ^ 100) ^ 7<2 ^ 701:=by decide +kernel
 have h3:2 ^ 100*2 ^ 701<2 ^ 850:=by decide +kernel
 have h4:2 ^ 701<2 ^ 850:=by decide +kernel
 have h5:2 ^ 100*L<=2 ^ 100*2 ^ 701:=Nat.mul_le_mul_left _ (by omega);refine⟨L,2 ^ 100*L,⟨l0,by omega,by omega⟩,fun x hx=>?_⟩;obtain⟨c,hc⟩:=hd x hx;have c0:c≠0:=fun z=>by rw[z] at hc;omega
 refine⟨x.num*(c:Int),?_,?_⟩
 ·rw[hc,Int.natCast_mul,Rat.divInt_mul_right (by omega),Rat.num_divInt_den]
 ·rw[Int.natAbs_mul,Int.natAbs_natCast]
  refine Nat.mul_le_mul (Nat.le_of_lt (h x hx).1) ?_;rw[hc];exact Nat.le_mul_of_pos_left _ x.den_pos
noncomputable def pr2 (p:List Rat×List Rat):DL.D:=.tup [rw p.1,rw p.2]
noncomputable def S_46:DSp:=fun ds M Q E=>∃ a,ds=[.lst a]/\Pk M a/\∀ M',Q (.bl true) M'
noncomputable def C_46:CSs:=%[.set 1 (.tup .nil),.fr (.name 2) (.rng %[.bin .Add (.int 1) (.call "_law_take" S_29 %[.var 0,.int 6|0])|0]) %[.set 3 (.bin .Sub (.bin .Pow (.int 10) (.int 9)) (.call "_law_take" S_29 %[.var 0,.bin .Pow (.int 10) (.int 6)|0])),.set 1 (.bin .Add (.var 1) (.tup %[.call "_law_low" S_30 %[.var 3,.bin .Sub (.bin .Pow (.int 10) (.int 6)) (.call "_law_take" S_29 %[.var 0,.bin .Pow (.int 10) (.int 5)|0])|0]|0]))|0],.set 4 (.call "_law_take" S_29 %[.var 0,.bi .len %[.var 1|0]|0]),.set 5 (.bin .Add (.bin .Add (.sl (.var 1) .none (.some (.var 4))) (.tup %[.call "_law_just_below" S_45 %[.ix (.var 1) (.var 4)|0]|0])) (.sl (.var 1) (.some (.bin .Add (.var 4) (.int 1))) .none)),.set 6 (.lst %[.tup %[.var 1,.var 5|0],.tup %[.var 5,.var 1|0],.tup %[.rev (.var 5) (.neg (.int 1)),.var 5|0],.tup %[.var 1,.var 1|0]|0]),.ret (.bi .all %[.comp ["_law_pack_here","_law_great","_law_turn","_law_top","_law_at","_law_near","_law_pairs","_law_one","_law_other"] 2 (.tup %[.name 7,.name 8|0]) (.seq (.var 6)) (.call "_law_right" S_43 %[.var 7,.var 8|0])|0])|0]
theorem Gk:∀ ds M R E,S_46 ds M R E->rSs C_46 (ends R E) (Y2 7 ds) M:=by
 rintro ds M R E ⟨a,rfl,pk,q⟩;unfold C_46;sleep 7;sleep 9;refine YB pk (by decide) (by decide) fun n M1 n0 n1 y1=>?_;obtain⟨n,rfl⟩:=Int.eq_ofNat_of_zero_le n0;refine⟨by omega,by omega,?_⟩;rw[show ((1:Int)+(n:Int)).toNat=n+1 by omega];refine YL (fun i δ M'=>∃ (g:List Rat) (w2 w3:Option DL.D),Dr a M M'/\g.length=i/\(∀ x∈g,Sz 31 x)/\δ=[some (.lst a),some (rw g),w2,w3,none,none,none]) (fun _ _ _ _=>trivial) ?_ ?_ ⟨[],_,_,y1,rfl,nofun,rfl⟩
 ·rintro δ M2 ⟨g,w2,w3,d2,gl,sg,rfl⟩
  rw[ZJ] at gl;sleep 7;refine YB d2.pk (by omega) (Nat.lt_of_lt_of_le (show (g.length:Int).natAbs<2 ^ 6 by omega) (Yd (by decide))) fun j M3 j0 j1 y3=>?_;obtain⟨j,rfl⟩:=Int.eq_ofNat_of_zero_le j0;have hj:j<g.length:=by omega
  sleep 7;refine VI hj ⟨_,rfl,(sg _ (Yn hj)).mono (by decide),fun r sr=>?_⟩;dsimp only;have e:List.map nm (cutG g none (some (j:Int)))++nm r::List.map nm (cutG g (some ((j:Int)+1)) none)=(ZK g j r).map nm:=by rw[<- List.map_cons,<- List.map_append,Cu hj]
  have c1:=Vo g none (some (j:Int));have c2:=Vo g (some ((j:Int)+1)) none;rw[e];refine⟨by omega,by omega,?_⟩;rw[show D.tup (List.map nm (ZK g j r))=rw (ZK g j r) from rfl];have vl:(ZK g j r).length=g.length:=Jz hj;have vm:∀ x∈ZK g j r,x∈g++[r]:=fun x hx=>by
   rcases Jy hx with h|h
   ·exact List.mem_append_left _ h
   ·rw[h];exact List.mem_append_right _ List.mem_cons_self
  generalize ZK g j r=v at vl vm;obtain⟨L,B,b,gw⟩:=Gb (w:=g++[r]) (fun x hx=>by
   rcases List.mem_append.mp hx with h|h
   ·exact (sg x h).mono (by decide)
   ·rw[List.mem_singleton] at h;rw[h];exact sr) (by rw[List.length_append,List.length_singleton];omega)
  have two:∀ s o:List Rat,s.length=g.length->o.length=g.length->(∀ x∈s,x∈g++[r])->(∀ x∈o,x∈g++[r])->Two s o:=fun s o h1 h2 h3 h4 =>
   ⟨by omega,by omega,by omega,L,B,b,fun x hx=>gw x (h3 x hx),fun x hx=>gw x (h4 x hx)⟩
  have gm:∀ x∈g,x∈g++[r]:=fun x hx=>List.mem_append_left _ hx;sleep 7;intro p4 M4 e4 x4 l4;sleep 7;refine Z7 [(g,v),(v,g),(v.reverse,v),(g,g)] pr2 (fun _=>.bl true) (Ae rfl l4) (by simp) ?_ ?_
  ·intro p hp l M' R' hl' ee rr
   obtain⟨u1,u2,rfl⟩:=len2 hl';have tp:Two p.1 p.2:=by
    simp only[List.mem_cons,List.not_mem_nil,or_false] at hp;rcases hp with rfl|rfl|rfl|rfl
    ·exact two _ _ rfl vl gm vm
    ·exact two _ _ vl rfl vm gm
    ·exact two _ _ (by rw[List.length_reverse];exact vl) vl (fun x hx=>vm x (List.mem_reverse.mp hx)) vm
    ·exact two _ _ rfl rfl gm gm
   unfold pr2;sleep 8;exact⟨_,_,rfl,tp,fun M5 x5=>rr [_,_] M5 rfl x5⟩
  intro p5 M5 e5 x5 l5;refine Vv (f:=fun _=>true) l5 ?_;simp;exact q M5
 ·rintro i y hy N hN δ M2 ⟨g,w2,w3,d2,gl,sg,rfl⟩
  obtain⟨rfl,hi'⟩:=XT hy;sleep 8;sleep 7;have pw:∀ n:Int,0<=n->n<=10->L2.CPow 10 n:=fun n h1 h2=>⟨h1,by omega,by decide⟩;refine⟨pw _ (by decide) (by decide),pw _ (by decide) (by decide),?_⟩;refine YB d2.pk (by decide) (by decide) fun t M3 t0 t1 y3=>?_;sleep 7;refine⟨pw _ (by decide) (by decide),pw _ (by decide) (by decide),?_⟩;refine YB y3.pk (by decide) (by decide) fun m M4 m0 m1 y4=>?_;refine⟨_,_,rfl,by omega,Nat.lt_of_lt_of_le (show (1000000-m).natAbs<2 ^ 30 by omega) (Yd (by decide)),?_⟩;refine⟨by omega,?_⟩;refine hN _ _ ⟨g++[Rat.divInt (1000000000-t) (1000000-m)],some (.int (i:Int)),some (.int (1000000000-t)),d2.trans (y3.trans y4),by simp[gl],fun x hx=>?_,?_⟩
  ·rcases List.mem_append.mp hx with h|h
   ·exact sg x h
   ·rw[List.mem_singleton] at h;rw[h];exact Z5 (by omega) (by omega) (by omega)
  ·unfold rw;rw[List.map_append];rfl
theorem Wt {l m:Int} {xs:List DL.D} {x:DL.D} (h:x∈xs) (hx:Yp x=false):Ya l m (.tup xs)=false:=by
 unfold Ya;simp only[Bool.and_eq_false_imp];intro _;rw[List.all_eq_false];exact⟨x,h,by rw[hx];decide⟩
theorem XM {l m:Int} {xs:List DL.D} (h:(xs.length:Int)<l\/m<xs.length):Ya l m (.tup xs)=false:=by
 unfold Ya;have:¬ (l<=(xs.length:Int)/\(xs.length:Int)<=m):=by omega
 simp only[Bool.and_eq_false_imp,Bool.and_eq_true,decide_eq_true_eq];intro z;exact absurd z this
theorem Cmp.eqI {M:Mem} {d:DL.D} {q:Rat} {b:Bool} (h:Cmp M d (nm q) b):EqI M d (nm q) b:=by
 have h:=h (fun x _=>x=.bl b) rfl;rcases Vt h with ⟨p,kvs,xs,rfl,_,h1,h2,h3⟩|⟨x,y,h1,h2,h3,h4⟩
 ·cases h3
  exact .inr ⟨p,kvs,xs,rfl,h1,h2,rfl⟩
 ·have h4:D.bl (PyData.eqv x y)=.bl b:=h4
  injection h4 with h4
  refine .inl ⟨x,y,h1,h2,?_,h4.symm⟩;have:y.depth<=3:=by
   cases h2 with
   | tup z =>
    cases z with
    | cons a z =>
     cases a;cases z with
     | cons a z=>cases a;cases z;simp[PyData.depth,PyData.depthAll]
  omega
theorem B8 {M:Mem} (q:Rat):EqI M (nm q) (nm q) true:=by
 obtain⟨e',h1,h2,h3⟩:=enc_nm.ex;exact .inl ⟨_,_,h1 M q,h1 M q,by have:=h3 q;omega,by rw[h2];simp⟩
theorem U7 {M:Mem}:∀ s:List Rat,EqIs M (s.map nm) (s.map nm) true
 | []=>.nil
 | x::s=>.cons (b:=true) (c:=true) (B8 x) (U7 s)
theorem U8 {M:Mem} {d:DL.D} {b:Bool}:∀ {s:List Rat} {j:Nat},j<s.length->EqI M d (nm (ri s j)) b->EqIs M ((s.take j).map nm++d::(s.drop (j+1)).map nm) (s.map nm) b
 | x::s,0,_,h=>by
  have h:EqI M d (nm x) b:=h;have:=EqIs.cons h (U7 (M:=M) s);rw[Bool.and_true] at this;exact this
 | x::s,j+1,hj,h=>by
  have h:EqI M d (nm (ri s j)) b:=h;exact .cons (b:=true) (B8 x) (U8 (by simpa using hj) h)
noncomputable def C_47:CSs:=%[.ife (.not (.call "_law_close_right" S_46 %[.call "_law_pack" S_28 %[.var 0,.int 17|0]|0])) %[.ret (.bl false)|0] .nil,.fr (.name 1) (.rng %[.int 0,.bi .max %[.int 1,.bi .min %[.bi .len %[.var 0|0],.int 16|0]|0],.int 2|0]) %[.set 2 (.call "_law_pack" S_28 %[.var 0,.var 1|0]),.set 3 (.tup %[.int 1,.ix (.lst %[.int 1,.int 2,.int 3,.int 5,.int 12,.int 100|0]) (.call "_law_take" S_29 %[.var 2,.int 6|0])|0]),.set 4 (.call "_law_some" S_42 %[.var 2,.ix (.lst %[.int 1,.int 2,.int 3,.int 5,.int 9,.int 24|0]) (.call "_law_take" S_29 %[.var 2,.int 6|0]),.var 3|0]),.set 5 (.call "_law_levelled" S_41 %[.call "_law_pack" S_28 %[.var 0,.bin .Add (.var 1) (.int 1)|0],.var 4,.var 3|0]),.set 6 (.call "_law_some" S_42 %[.var 2,.bi .len %[.var 4|0],.var 3|0]),.set 7 (.lst %[.tup %[.var 5,.var 4|0],.tup %[.var 4,.var 5|0],.tup %[.rev (.var 4) (.neg (.int 1)),.var 4|0],.tup %[.var 6,.var 4|0]|0]),.ife (.not (.bi .all %[.comp ["_law_script","_law_k","_law_pack_here","_law_unit","_law_some_here","_law_level","_law_by_chance","_law_pairs","_law_at","_law_spoilt","_law_odd","_law_one","_law_other"] 2 (.tup %[.name 11,.name 12|0]) (.seq (.var 7)) (.call "_law_right" S_43 %[.var 11,.var 12|0])|0])) %[.ret (.bl false)|0] .nil,.set 8 (.call "_law_take" S_29 %[.var 2,.bi .len %[.var 4|0]|0]),.set 9 (.bin .Add (.bin .Add (.sl (.var 4) .none (.some (.var 8))) (.tup %[.call "_law_odd_number" S_37 %[.var 2,.ix (.var 4) (.var 8)|0]|0])) (.sl (.var 4) (.some (.bin .Add (.var 8) (.int 1))) .none)),.ife (.eqz (.var 9) (.var 4)) %[.set 9 (.bi .list %[.var 4|0])|0] .nil,.set 10 (.ix (.lst %[.var 9,.bin .Add (.var 4) (.sl (.var 4) .none (.some (.int 1))),.sl (.var 4) (.some (.int 1)) .none,.tup .nil,.non,.bin .Add (.var 4) (.bin .Mult (.tup %[.int 0|0]) (.int 25))|0]) (.call "_law_take" S_29 %[.var 2,.int 6|0])),.ife (.or (.not (.call "_law_refused" S_44 %[.var 4,.var 10|0])) (.one (.not (.call "_law_refused" S_44 %[.var 10,.var 4|0])))) %[.ret (.bl false)|0] .nil|0],.ret (.bl true)|0]
theorem unQ {u:DL.D} (hu:u∈[D.int 1,.int 2,.int 3,.int 5,.int 12,.int 100]):∃ c:Int,u=.int c/\0<c/\c<=100/\c.toNat∣300:=by
 simp only[List.mem_cons,List.not_mem_nil,or_false] at hu;rcases hu with rfl|rfl|rfl|rfl|rfl|rfl<;>exact⟨_,rfl,by decide,by decide,by decide⟩
theorem unR {u:DL.D} (hu:u∈[D.int 1,.int 2,.int 3,.int 5,.int 9,.int 24]):∃ n:Nat,u=.int (n:Int)/\1<=n/\n<=24:=by
 simp only[List.mem_cons,List.not_mem_nil,or_false] at hu;rcases hu with rfl|rfl|rfl|rfl|rfl|rfl
 ·exact⟨1,rfl,by decide,by decide⟩
 ·exact⟨2,rfl,by decide,by decide⟩
 ·exact⟨3,rfl,by decide,by decide⟩
 ·exact⟨5,rfl,by decide,by decide⟩
 ·exact⟨9,rfl,by decide,by decide⟩
 ·exact⟨24,rfl,by decide,by decide⟩
theorem Gj:∀ ds M R E,SLaw ds M R E->rSs C_47 (ends R E) (Y2 11 ds) M:=by
 rintro ds M R E ⟨ns,rfl,hs,h⟩;unfold C_47;sleep 7;refine⟨ns,_,rfl,hs,by omega,by omega,fun v0 a0 M0 e0 x0 l0=>?_⟩;refine⟨a0,rfl,⟨v0,l0⟩,fun M1=>?_⟩;simp;sleep 9;obtain⟨z,hz,hc,e⟩:=BZ 16 ns.length (by decide) (by decide);rw[e];obtain⟨r1,r2,r3⟩:=Jw z hz;refine⟨YZ (by decide) (AH (by decide)),r1,r2,?_⟩;refine U3 (fun δ M'=>∃ w1 w2 w3 w4 w5 w6 w7 w8 w9 w10,δ=[some (.fz (ns.map .int)),w1,w2,w3,w4,w5,w6,w7,w8,w9,w10]) (fun _ _ _=>trivial) ?_ ?_ ⟨_,_,_,_,_,_,_,_,_,_,rfl⟩
 ·rintro δ M' ⟨w1,w2,w3,w4,w5,w6,w7,w8,w9,w10,rfl⟩
  sleep 7;exact h M'
 ·rintro x hx N hN δ M0 ⟨w1,w2,w3,w4,w5,w6,w7,w8,w9,w10,rfl⟩
  obtain⟨i,hI,rfl⟩:=List.mem_map.mp hx;have hi2:=List.mem_range.mp hI;sleep 8;sleep 7;refine⟨ns,_,rfl,hs,by omega,by omega,fun v a M1 e1 x1 l1=>?_⟩;have pk1:Pk M1 a:=⟨v,l1⟩;sleep 7;intro p2 M2 e2 x2 l2;refine YB (pk1.ext x2) (by decide) (by decide) fun k M3 k0 k1 y3=>?_;obtain⟨u,hu,hat⟩:=Wr l2 k0 k1;refine Y8 (y3.keep _ _ (pk1.ne e2) l2) hat ?_;obtain⟨c,rfl,c0,c1,cd⟩:=unQ hu
  sleep 7;intro p4 M4 e4 x4 l4;refine YB (y3.pk.ext x4) (by decide) (by decide) fun k' M5 k0' k1' y5=>?_;obtain⟨u,hu,hat⟩:=Wr l4 k0' k1';refine Y8 (y5.keep _ _ (y3.pk.ne e4) l4) hat ?_;obtain⟨n,rfl,n1,n24⟩:=unR hu
  refine⟨a,n,c,rfl,y5.pk,n24,c0,c1,cd,fun s M6 sl gs y6=>?_⟩;sleep 7;have hi3:=r3;refine⟨ns,_,rfl,hs,by omega,by omega,fun v2 b M7 e7 x7 l7=>?_⟩;obtain⟨va,la⟩:=y6.pk;have ne:a≠b:=fun z=>by rw[<- z,la] at e7;cases e7
  refine⟨b,s,c,rfl,⟨v2,l7⟩,by omega,by omega,c0,c1,cd,gs,fun u M8 ul gu y8=>?_⟩;have pk8:Pk M8 a:=⟨va,y8.keep _ _ ne (x7 _ _ la)⟩;sleep 7;refine⟨a,s.length,c,rfl,pk8,by omega,c0,c1,cd,fun w M9 wl gw y9=>?_⟩;have bnd:Bnd 300 874800:=⟨by decide,by decide,by decide⟩;have two:∀ s o:List Rat,s.length=n->o.length=n->(∀ x∈s,Gr 300 874800 x)->(∀ x∈o,Gr 300 874800 x)->Two s o:=fun s o h1 h2 h3 h4 =>
   ⟨by omega,by omega,by omega,300,874800,bnd,h3,h4⟩
  have gs':∀ x∈s,Gr 300 874800 x:=fun x hx=>(gs x hx).mono (by decide);have gw':∀ x∈w,Gr 300 874800 x:=fun x hx=>(gw x hx).mono (by decide);have ss:∀ x∈s,Sz 30 x:=fun x hx=>(gs x hx).sz (by decide) (by decide) (by decide);sleep 7;intro p10 M10 e10 x10 l10;sleep 7;refine Z7 [(u,s),(s,u),(s.reverse,s),(w,s)] pr2 (fun _=>.bl true) (Ae rfl l10) (by simp) ?_ ?_
  ·intro p hp l M' R' hl' ee rr
   obtain⟨u1,u2,rfl⟩:=len2 hl';have tp:Two p.1 p.2:=by
    simp only[List.mem_cons,List.not_mem_nil,or_false] at hp;rcases hp with rfl|rfl|rfl|rfl
    ·exact two _ _ (ul.trans sl) sl gu gs'
    ·exact two _ _ sl (ul.trans sl) gs' gu
    ·exact two _ _ (by rw[List.length_reverse];exact sl) sl (fun x hx=>gs' x (List.mem_reverse.mp hx)) gs'
    ·exact two _ _ (wl.trans sl) sl gw' gs'
   unfold pr2;sleep 8;exact⟨_,_,rfl,tp,fun M5 x5=>rr [_,_] M5 rfl x5⟩
  intro p11 M11 e11 x11 l11;refine Vv (f:=fun _=>true) l11 ?_;simp;have pk11:=y9.pk.ext (x10.trans x11);sleep 7;refine YB pk11 (by omega) (Nat.lt_of_lt_of_le (show (s.length:Int).natAbs<2 ^ 6 by omega) (Yd (by decide))) fun j M12 j0 j1 y12=>?_;obtain⟨j,rfl⟩:=Int.eq_ofNat_of_zero_le j0;have hj:j<s.length:=by omega
  sleep 7;refine VI hj ⟨_,_,rfl,y12.pk,(ss _ (Yn hj)).mono (by decide),fun d M13 t gd cm h1 h2 y13=>?_⟩;dsimp only;rw[UJ _ _ (by omega),show ((j:Int)+1)=((j+1:Nat):Int) by omega,Vn _ _ (by omega)];refine⟨by rw[List.length_take];omega,by rw[List.length_take,List.length_drop];omega,?_⟩;obtain⟨sp,hsp⟩:∃ sp,sp=D.tup (List.map nm (List.take j s)++d::List.map nm (List.drop (j+1) s)):=⟨_,rfl⟩;have gsp:Gd M13 sp:=by
   rw[hsp];refine .mk fun e he=>?_;have nmg:∀ x∈s,Gd M13 (nm x):=fun x hx=>.nm (ss x hx) (by decide);rcases List.mem_append.mp he with h|h
   ·obtain⟨x,hx,rfl⟩:=List.mem_map.mp h
    exact nmg x (List.mem_of_mem_take hx)
   ·rcases List.mem_cons.mp h with rfl|h
    ·exact gd
    ·obtain⟨x,hx,rfl⟩:=List.mem_map.mp h
     exact nmg x (List.mem_of_mem_drop hx)
  have esp:∀ Q:DK,Q (.bl t) M13->cEqZ sp (rw s) M13 Q:=fun Q z=>⟨_,_,t,hsp,rfl,U8 hj cm.eqI,z⟩;have nsp:t=false->Ya 1 24 sp=false:=fun z=>by
   rw[hsp];exact Wt (List.mem_append_right _ List.mem_cons_self) (h1 z)
  rw[<- hsp];have pk13:=y13.pk;clear hsp h1 h2 cm gd y13;refine Zx fun J hJ=>?_;have tail:∀ (sp:DL.D) (M':Mem),Gd M' sp->Ya 1 24 sp=false->Pk M' a->J [some (D.fz (List.map D.int ns)),some (D.int (↑i*2)),some (D.lst a),some (D.tup [D.int 1,D.int c]),some (rw s),some (rw u),some (rw w),some (D.lst p10),some (D.int ↑j),some sp,w10] M':=by
   intro sp M' gp np pk';refine hJ _ _ ?_;sleep 7;rw[show cutG s none (some 1)=s.take 1 from UJ s 1 (by omega),show cutG s (some 1) none=s.drop 1 from Vn s 1 (by omega)];refine⟨by rw[List.length_take];omega,by omega,?_⟩;have two0:∀ M'',Gd M'' (rw s):=fun M''=>Xg ss (by decide);have rn:Ya 1 24 (rw s)=true:=Zy (by omega) (by omega);generalize hz:D.tup (List.map nm s++_)=zz;have gz:∀ M'',Gd M'' zz:=fun M''=>by
    rw[<- hz];refine .mk fun e he=>?_;rcases List.mem_append.mp he with h|h
    ·exact (two0 M'').tup e h
    ·have:e=D.int 0:=by
      simp only[List.mem_cons,List.not_mem_nil,or_false,or_self] at h;exact h
     rw[this];exact gsm (by decide)
   have nz:Ya 1 24 zz=false:=by
    rw[<- hz];exact Wt (List.mem_append_right _ List.mem_cons_self) rfl
   have gsub:∀ r:List Rat,(∀ x∈r,x∈s)->∀ M'',Gd M'' (rw r):=fun r hr M''=>Xg (fun x hx=>ss x (hr x hx)) (by decide);intro p15 M15 e15 x15 l15;refine YB (pk'.ext x15) (by decide) (by decide) fun k M16 k0 k1 y16=>?_;obtain⟨v,hv,hat⟩:=Wr l15 k0 k1;refine Y8 (y16.keep _ _ (pk'.ne e15) l15) hat ?_;have gp16:Gd M16 sp:=Gd.kp (y16.kp (pk'.ext x15)) _ (Gd.ext x15 _ gp);have key:Gd M16 v/\Rf v (rw s)/\Rf (rw s) v:=by
    have no:∀ v,Ya 1 24 v=false->Rf v (rw s)/\Rf (rw s) v:=fun v h=>⟨.one h,.two rn h⟩;simp only[List.mem_cons,List.not_mem_nil,or_false] at hv;rcases hv with rfl|rfl|rfl|rfl|rfl|rfl
    ·exact⟨gp16,no _ np⟩
    ·refine⟨gsub _ (fun x hx=>?_) _,?_⟩
     ·rcases List.mem_append.mp hx with h|h
      ·exact h
      ·exact List.mem_of_mem_take h
     ·have hl:(s++s.take 1).length=s.length+1:=by rw[List.length_append,List.length_take];omega
      by_cases c24:s.length=24
      ·exact no _ (XM (.inr (by rw[List.length_map,hl];omega)))
      ·exact⟨.len (by omega) (by omega) (by omega) (by omega) (by omega),.len (by omega) (by omega) (by omega) (by omega) (by omega)⟩
    ·refine⟨gsub _ (fun x hx=>List.mem_of_mem_drop hx) _,?_⟩
     have hl:(s.drop 1).length=s.length-1:=List.length_drop;by_cases c24:s.length=1
     ·exact no _ (XM (.inl (by rw[List.length_map,hl];omega)))
     ·exact⟨.len (by omega) (by omega) (by omega) (by omega) (by omega),.len (by omega) (by omega) (by omega) (by omega) (by omega)⟩
    ·exact⟨gt0,no _ rfl⟩
    ·exact⟨gn,no _ rfl⟩
    ·exact⟨gz _,no _ nz⟩
   obtain⟨gv,r1',r2'⟩:=key;sleep 7;refine⟨_,_,rfl,two0 _,gv,r1',fun M17 x17=>?_⟩;simp;refine⟨_,_,rfl,Gd.ext x17 _ gv,two0 _,r2',fun M18 x18=>?_⟩;simp;exact hN _ _ ⟨_,_,_,_,_,_,_,_,_,_,rfl⟩
  sleep 8;refine esp _ ?_;cases t with
  | false=>exact .inl ⟨rfl,tail sp M13 gsp (nsp rfl) pk13⟩
  | true =>
   refine .inr ⟨rfl,?_⟩;sleep 7;intro p14 M14 e14 x14 l14;sleep 8;exact tail _ M14 (gl l14) rfl (pk13.ext x14)
end K
end
namespace PySem.W.Fast
set_option bootstrap.genMatcherCode true
local macro_rules | `(command| universe $xs*)=>do
  let cs<-xs.mapM fun x=>`(command| theorem $x :True:=⟨⟩)
  return Lean.mkNullNode cs
set_option bootstrap.genMatcherCode false
universe tw10374067574824091066 tw7685742960366132226 tw9590519912786486932 tw986693369134719438 tw16232477340543373117 tw10527582246308584674 tw13177654416205087414 tw6786540915561004624 tw4955555766657837093 tw10026438014656911270 tw1846436874176430798 tw11888956741632761563 tw5305651677173285872 tw11437565247756756322 tw9031967427691991343 tw4505577272596322848 tw9314064624430077497 tw11460914042585582138 tw2677045298441019787 tw10190786054369375379 tw6885865306427703033 tw15615598472739411911 tw6026916958941428048 tw6216894311840092135 tw6306309224654563845 tw8733963473804389114 tw12935336698110949402 tw1168523949183890104 tw9498721016337063015 tw1385938826168910337 tw11460189840607085971 tw8944414433698534676 tw11149678908200948934 tw8246982845333909935 tw6848333815678255171 tw10666328297080876368 tw3240412550998403021 tw3356418554807410319 tw16016407322846634460 tw1943612118256365463
universe tw4821702256158076250 tw16777020400395538761 tw18416908047771936537 tw2043262025617195786 tw14226480688544406390 tw4331505823709716585 tw15131050384514987332 tw16299577845179500937 tw15944900627230529102 tw15472461134387755927 tw298111920725227632 tw10670501685369071741 tw16397232725366314686 tw15451602634086749613 tw10346835386005081808 tw14529128595432290720 tw17765246837062808802 tw13904082391361626598 tw3490257950145835200 tw3847304941631686161 tw5637768977560520123 tw17673818235484115169 tw17807382805220528991 tw9428875791744756708 tw139740006262167688 tw15347455686213397711 tw2678786564998331008 tw8299968053969087915 tw6973561716869093925 tw6285179800061212364 tw2209256597956725057 tw9079295542934280257 tw16183592866379189580 tw7574950134552723794 tw360056429894701762 tw14785112606756787237 tw10995537609000658044 tw6513526111329438773 tw4986918261750541209 tw13125716291602843621
universe tw18341978799330660022 tw16938524044514923436 tw10149231158550716469 tw5707343753312277537 tw7342759342323789707 tw3296373118888697687 tw4949656871059192533 tw14594690197119140312 tw2053574435399636605 tw16210375164303564351 tw17117454975394844098 tw8027518060538112742 tw12924710900296584017 tw13355732652662184828 tw18041007949851177775 tw15588872971000132088 tw11018017612897159124 tw17295145297284442089 tw3571983135450549832 tw12436401635630230900 tw3007185306213262400 tw7439644763167976603 tw8168971135003430166 tw10287071512997681632 tw7077999135924479448 tw1250570435967040588 tw536327913108535833 tw12598289312734856437 tw17796669380849457413 tw12504486153309054329 tw4232429705838365400 tw11626287822324877404 tw12661822514569705349 tw16917124180624085561 tw12317843308158418183 tw10844325634839260203 tw2301659989613010919 tw14951825249133330490 tw6409590638830405255 tw13082960780431818852
universe tw265725698805217574 tw3866366438177589006 tw911509153666234091 tw10776771882694080396 tw16912288468670163943 tw13639231794529532989 tw3485062859634297305 tw2507244566845330395 tw1026644276340046107 tw17476910139364654675 tw651853870528869317 tw10256387115488120062 tw10062403747074503819 tw5459346079598238643 tw1666985201366723242 tw12846809472586914469 tw10355629100935719703 tw16055349293714888712 tw5554468851402088140 tw8035886228705356449 tw17300827499574375038 tw15429087669743237210 tw11118618184011387687 tw250604978728584402 tw8305888470533020962 tw12281851897268350778 tw1088823155905071745 tw16637909923113143268 tw7472939951444879522 tw13624119878123110872 tw1356406210759321240 tw5642106386077221961 tw3915280474579264395 tw12654439717786740615 tw6635479453791232622 tw7066514370715668577 tw16747572077476433653 tw7675459998325629608 tw8945472027185439310 tw15262495494048369594
universe tw3946812040576162908 tw9069833414646441144 tw7630386623609640645 tw3226565396874681444 tw12724338781503864015 tw8396494277754625804 tw12955070815176641346 tw15989526313459810306 tw12500727120838902391 tw8286477286812483863 tw13983522694058292224 tw18206966049467678366 tw10989332501594417927 tw6646587789763310 tw15402680344835172701 tw16776722263543091985 tw11273520476125589214 tw10129700808324072444 tw9199335480796182743 tw10983628092403175927 tw15624722793598233744 tw8071084115077583959 tw7590289570590392684 tw4789340068505834510 tw14196625407118187903 tw17829660948736514032 tw5977890733998210607 tw2605112810459725436 tw13159598493827831687 tw16356070184734298010 tw16807435621167876784 tw10930463335366520282 tw969056499994647098 tw2922592756873912915 tw1931701949184503202 tw4473303123579343548 tw7911656937341906042 tw4291326834296249941 tw8652611077254873385 tw2030100668600158315
universe tw5667550579371537415 tw15712522660987330804 tw1743867097879132919 tw2138189713822121296 tw15934044207646316578 tw7433128181149134012 tw16831218103704506694 tw1964480668704861914 tw16330957158719522794 tw14274311511943104497 tw2171816581186340430 tw7613832158996291003 tw12964359183827542306 tw11249967823472941302 tw15076129699881918007 tw13101782800963786673 tw17296298010039995807 tw1427899788662301237 tw14070031455438749662 tw17778964879536777436 tw1299605171166425776 tw9406253390482301482 tw1969226541464492995 tw3049443629323719895 tw8186316682826147275 tw9164490646766580439 tw12385090081432483726 tw12326274155185733056 tw5841416613163914696 tw9432325765009466291 tw10530870384477309357 tw18344019574817136612 tw15771338005120941981 tw752853504797198758 tw18313074129797670103 tw7094111816894155157 tw16487709028160925305 tw2077866017837777066 tw3714093183044559415 tw13823949048138965819
universe tw17735026744689527547 tw13674817473217319022 tw11153576116622756747 tw1140733103807222707 tw8042952882105213972 tw18188640176662837805 tw10596093654027457398 tw15907114385714065771 tw5360784523784184714 tw2931887568204032556 tw3363217345345980119 tw10293080310591246676 tw14457940639135451659 tw7625763401926745329 tw6684292712801681430 tw8289393054992937754 tw16545071520122782657 tw7688493925014382925 tw814891203348789189 tw9930234043406077515 tw10900880374765666819 tw17616946730291628916 tw15229889535364167594 tw12490418443854779433 tw6348769356038418748 tw8360867250946135443 tw10208077272788009909 tw16906227265874179297 tw17469737160091057983 tw16934208525243360663 tw3473211067220936886 tw7451767524736053558 tw13529410826525736158 tw14097876608397762014 tw8969186444142264247 tw3765234454992111051 tw11302211514858385864 tw2334452628870090942 tw1804604200228382525 tw12920978460848324117
universe tw9449589775617466860 tw17060102229168035556 tw1803054802100598795 tw7091204628554431618 tw14860065039242633543 tw6057795006634209352 tw8537528864365898238 tw6554931943354998938 tw2385714319837633959 tw3956083086881675672 tw15706853020064093436 tw14811568336662141739 tw5198875487461135584 tw2984338676731562961 tw11543840741630313595 tw7825794467863003670 tw5400401725142906298 tw6417989127194125365 tw14105699262061612351 tw12223651272995115865 tw5591410466721007136 tw15526212674740601787 tw10419320386012468479 tw16034053508528154731 tw8058966713645995634 tw2787056985984110833 tw15715386553234055607 tw13902275283403326144 tw10721506071329690167 tw12731006536041492865 tw4538010081684117615 tw5168552831393340951 tw15463512393703341576 tw18293432412521398921 tw2558302485691556923 tw1758490047588934713 tw11790037447573199825 tw4388539172832157778 tw7148869604408513894 tw1345436129040656480
universe tw13855258899604737058 tw5815668423308181447 tw10675189959795144050 tw11274535160108636118 tw15338217751906357747 tw18320635400961390007 tw1432290334835168283 tw8520067308995838333 tw2440799521832870069 tw10729123040987615138 tw9057885162859226366 tw6048013281004673643 tw12094217135412179133 tw12218971111720854759 tw16350453510191266028 tw10289207079922947453 tw5647410372246397533 tw14989650480463267874 tw2478516655333989652 tw1882453673260893872 tw17156049766808393677 tw4430161119393745656 tw6041189957511790511 tw5423628299988525089 tw3237132252865304643 tw17102895234844761925 tw15506474218475673851 tw7734211610324440657 tw16730931361151616384 tw9426884376462762545 tw5500087156139068601 tw4465627743855278791 tw5554590249140069279 tw8418328186179772908 tw13837989920818543706 tw3752169388349349026 tw18186677829865522491 tw1019201938319902460 tw14122908288687486747 tw4339952611014158130
universe tw16143148963750719378 tw18574942837010757 tw6737212349796279867 tw3325666092526774741 tw4900169904575552748 tw16247399051496272439 tw5791332615389215906 tw1011456110562343974 tw5837894512041067580 tw17766454019002823025 tw9430201852497252385 tw4991953160657340174 tw16471250081030358732 tw195664644250956374 tw8354905329335739825 tw2866862858064945326 tw18061503174133742516 tw5970686391300472175 tw12181478061642216130 tw2144597153296901313 tw12997398583361059851 tw7800251022448269949 tw16348952578019448305 tw14236149780415171790 tw6847384253898768350 tw13025075178677078163 tw11387345537894422520 tw12674767917134259264 tw792902206378376360 tw1428371340302195706 tw16358622305750298633 tw17422721645497309720 tw17753055503020285501 tw2679073177288146084 tw17796552092428273502 tw15968423069095865248 tw12949396389652630788 tw14429974287711675243 tw10369647365184482322 tw17265544166824415205
universe tw8928800598899673621 tw16796618073983098638 tw2985262078456877526 tw18188071801620399234 tw12302825699254231970 tw16641491408198455698 tw13327176072148158722 tw1963756100564091026 tw12583322144132803338 tw11332073687138908128 tw5400874216628890744 tw13586609073040266136 tw7517984651566848279 tw8405249809387192097 tw2547326914500955941 tw12157074276884236214 tw5789698203692108740 tw10352076708559962732 tw5437625518315013308 tw2236226447098566814 tw13359153010001642705 tw12487279722903275333 tw9234230043502884354 tw7926113688294199084 tw3308259537122215380 tw17469028554140912511 tw2002153436012374832 tw5451020620051336215 tw5897388207114471357 tw15481693611740804915 tw9475943722436960053 tw13565694600571584833 tw13711889975182769758 tw13891415121773311541 tw11968674590691911003 tw10649200144141364483 tw17040562515863560154 tw12025772729734373703 tw17469557671312964337 tw1649421326124477694
universe tw14952337518880713607 tw9431970902500013622 tw2591985827014137011 tw8861283567176590868 tw16107799265501705042 tw1041607720461424023 tw9439281652973523500 tw757994801608530942 tw17293710964853484202 tw3507278101276296200 tw7458814979004370026 tw6119715297104540454 tw3228956859562443266 tw13305585997337073036 tw8474189408272502003 tw16584806232483407036 tw13383877450723764412 tw13340651553504121731 tw13582296751140713938 tw6448422745790709243 tw11379554829379303121 tw10220876848140148834 tw17884348367317356331 tw3356685661030084405 tw18019805635982522380 tw2875586917067437590 tw17749128154708460167 tw15124450001600256394 tw11847373896163989532 tw3981885278637378710 tw14561946720590149236 tw3309250860007071133 tw8970596096021458176 tw1411872053573602712 tw18095736731177766298 tw33506167034710031 tw17411933196940163867 tw8179086997190291412 tw15881999727510534114 tw3287466941216479925
universe tw9020597382431506895 tw9021880145688515501 tw13960740220143345492 tw16082373676338111665 tw7442247282131788647 tw5015212900017312831 tw14037274832180770953 tw8121923933705110655 tw8635694407039724412 tw13359690814826595 tw10969307133866182095 tw13634695876392036380 tw13785174145969374508 tw13953303656687566137 tw15090550439004095484 tw11311046337716338132 tw12691369322435285741 tw2917795725627002066 tw7698995385090657923 tw12429841485292302559 tw16994055826213692978 tw6799888036110053995 tw5157669323972705766 tw5852103198961356093 tw16118853969084804983 tw13523135221613055539 tw165917568672099796 tw7174777177432900922 tw13811927798854491895 tw11894635925165705711 tw10381168616872129759 tw12791281144649915658 tw4690874016311879709 tw13855749322860308284 tw13567544045205171281 tw2847383008221662314 tw14987664583394072920 tw15735460015476248286 tw11086027578833080565 tw10452181541541556299
universe tw6539316375961507372 tw13388956484586288440 tw16701794201163559096 tw4469631135447542360 tw2850578092428772022 tw1218844858007027953 tw7209369031121458153 tw80370930063768372 tw14241208266344975752 tw14985472509174499813 tw5697143573750866426 tw13558318029142679886 tw8684208862539931596 tw13436651767192033354 tw13886181245390896870 tw1451516809096569112 tw15555373288808923056 tw10020452212408476397 tw17473715132844387025 tw2487851470793450132 tw11842350298072494294 tw2191601831390464976 tw8810520561852184277 tw16383150434112843047 tw13100372326506072362 tw14584521394977570083 tw5051453093413284847 tw11194535039644729180 tw16375571267982458645 tw4856358899195718402 tw1597838676064949891 tw16970608709310380339 tw17841530331016167459 tw14042974620598060541 tw10869751287683528508 tw17069329230252715115 tw5229508750464598646 tw2824869434369255950 tw13205585381138417065 tw15706068412700979348
universe tw18384809377655390800 tw5768217144364155745 tw7390522701381484648 tw10225860563323483111 tw8757673796811486824 tw14741245089778372390 tw3094490898454149898 tw11143343277662225821 tw14482777892930199479 tw3963344752407197533 tw7764404961635229785 tw11326340780764690911 tw7671193417773870932 tw15616582817062624943 tw11551311532550998789 tw12228501274230109116 tw14213215180011329507 tw1910130114760446267 tw7920512939494332772 tw9627671765125227942 tw8440036088841422123 tw7640816854959229359 tw17753662506472050941 tw745202479911803602 tw16145821255550399094 tw10687522706118220923 tw17927804829275522351 tw7747279536150021856 tw11023896220757026736 tw9303793187771943669 tw12114181228143535762 tw14249952776370913484 tw5204528952532120690 tw1187558411163628661 tw10007906512756927453 tw7252431607861857891 tw5840759316515639983 tw8857105195602023822 tw4238495125020708054 tw14376716969318450377
universe tw14519493737344531781 tw6191333031407773993 tw11191723893752471308 tw18183983753099712785 tw15774376689758339380 tw13842574857121082841 tw3327405926893930287 tw15447600721283260899 tw6298962044803383606 tw4081495805720235865 tw8513244348610610178 tw6547508045048630808 tw5359321120232512202 tw10974171250753781986 tw3976566666111502917 tw6382713104289884322 tw14332249551522004206 tw17737957375125682672 tw641352459909979848 tw14581232365071561598 tw734600006458388483 tw792510346175980472 tw13348882965877030052 tw5894413778537450438 tw6659938952167955126 tw12653885009771015768 tw2641708599758673495 tw16009619045848815805 tw436519679808917192 tw8384858028153614231 tw1154463062138296116 tw4149168170107866002 tw14458211879102333411 tw5199636486766768232 tw6433805153591504916 tw1710322974361982385 tw12927953248300430480 tw9686427455180674052 tw10040616402045823550 tw13007374135409539334
universe tw8568285049716082436 tw1112940622831651262 tw16627846099940913435 tw9428584340395141157 tw783125998360262382 tw10034077878651909570 tw17112580397053165175 tw2052999329493549176 tw1226240898835683832 tw4526662879713560477 tw6355033696833437960 tw17382170232638845708 tw6453881640565451138 tw13424645596403002102 tw6263647901490186532 tw11769650185739312450 tw12620851560756724150 tw4636219823500448824 tw9985492473763872747 tw12632026774706311363 tw15258120414092319155 tw15465179900194715428 tw5772533925815855681 tw4396444473994604394 tw15368413540212101604 tw15389513391702712316 tw1212738021902155083 tw13595750315086816312 tw2477714734652359964 tw9529927284252116427 tw18184309684999962944 tw12385809375819323259 tw15793627472812601664 tw9431139743366292316 tw8754546317272159588 tw16569649248084853815 tw9475544025936930245 tw4774389180818343331 tw7287570508012568970 tw2839467488742166589
universe tw11306860479383348961 tw12405745026564829823 tw10258821946180794527 tw7765440875367519424 tw13868976484353425017 tw12932608432486347991 tw14006748310715283767 tw601763632768894157 tw94742252174395994 tw15031110634913849320 tw15327346669896580979 tw3162997021375827620 tw14338389933754388364 tw11394196824854673193 tw11985015512786747709 tw4185575011130751172 tw3048243413048504481 tw16598948802649116471 tw969509479353807875 tw14372897620591798625 tw12806996391517806326 tw5282034962610119058 tw1503837880022400814 tw18178050276107623017 tw7796455066848208950 tw5033794532969819309 tw6932364664128451995 tw6936978717576074697 tw17319380867853562058 tw17705190204676427451 tw2545155052119930163 tw16873669894567677690 tw15970041187205245828 tw3184209291278861036 tw15876706990741057682 tw4238801242717303922 tw3870962420495779175 tw18059179030289686447 tw4365769207653275734 tw11917220511396700386
universe tw13218565959206091958 tw15076643676727921971 tw7376442644814212406 tw9369116601440729674 tw15965972734356690603 tw676840436699034274 tw2909313896167299337 tw14633439534228492833 tw776286196204828745 tw5346100662097762445 tw12675838556203956573 tw662140437072019234 tw226727247145969751 tw15823638621123563422 tw9305425018283534162 tw1486466794806577259 tw13258380134586293697 tw16359820667916081581 tw1580787458683199171 tw4790368000174211551 tw8697990035911483488 tw64235647379388531 tw17391606947154466185 tw1266524665548268158 tw17528294214354833299 tw13660704592970416551 tw15140534521672846640 tw12149499358038108550 tw709821137120345764 tw2467762639646432258 tw11122776999903279218 tw9091875935665484073 tw15105072458955035100 tw14454288281696303858 tw9361159804598615648
end PySem.W.Fast
namespace K
open PySem DL L2 PySem.W
set_option bootstrap.genMatcherCode true
local macro_rules
 | `(tactic| sleep 61)=>`(tactic| (rintro _ _ _ _ ⟨_,e,_⟩;rw[e];rfl))
 | `(tactic| sleep 62)=>`(tactic| (rintro _ _ _ _ ⟨_,_,e,_⟩;rw[e];rfl))
 | `(tactic| sleep 63)=>`(tactic| (rintro _ _ _ _ ⟨_,_,_,e,_⟩;rw[e];rfl))
 | `(tactic| sleep 64)=>`(tactic| (rintro _ _ _ _ ⟨_,_,_,_,e,_⟩;rw[e];rfl))
 | `(tactic| sleep 65)=>`(tactic| (rintro _ _ _ _ ⟨_,_,_,_,_,e,_⟩;rw[e];rfl))
 | `(tactic| sleep 66)=>`(tactic| (rintro _ _ _ _ ⟨_,_,_,_,_,_,e,_⟩;rw[e];rfl))
 | `(tactic| sleep 67)=>`(tactic| (rintro _ _ _ _ ⟨_,_,_,_,_,_,_,e,_⟩;rw[e];rfl))
 | `(tactic| sleep 68)=>`(tactic| (rintro _ _ _ _ ⟨_,_,_,_,_,_,_,_,e,_⟩;rw[e];rfl))
 | `(tactic| sleep 69)=>`(tactic| (rintro _ _ _ _ ⟨_,_,_,_,_,_,_,_,_,e,_⟩;rw[e];rfl))
 | `(tactic| sleep 71)=>`(tactic| (intro _ _ _ _ _ _ us hl;obtain⟨_,e⟩:=us1 hl;subst e;rfl))
 | `(tactic| sleep 72)=>`(tactic| (intro _ _ _ _ _ _ us hl;obtain⟨_,_,e⟩:=us2 hl;subst e;rfl))
 | `(tactic| sleep 73)=>`(tactic| (intro _ _ _ _ _ _ us hl;obtain⟨_,_,_,e⟩:=us3 hl;subst e;rfl))
 | `(tactic| sleep 74)=>`(tactic| (intro _ _ _ _ _ _ us hl;obtain⟨_,_,_,_,e⟩:=us4 hl;subst e;rfl))
set_option bootstrap.genMatcherCode false
set_option bootstrap.genMatcherCode true
local macro_rules | `(~~~$n:str)=>`(nsIn $(Lean.mkIdent `K) mainGlobals $n)
set_option bootstrap.genMatcherCode false
set_option bootstrap.genMatcherCode true
local macro_rules | `(#[$n:str,$s:ident,$f:ident,$o:ident,$p:ident,$a:ident,$b:ident,$c:ident,$d:ident,$e:ident,$g:ident,$h:ident])=>`($(Lean.mkIdent `K.lookup) $f=some ⟨$o,$p,.func (fnOf $n $n (ZV $s) (Y1 $s) (Y0 $s) .none $a $b $c $d $e $g),$h⟩)
set_option bootstrap.genMatcherCode false
noncomputable def top (i:Nat):Stmt:=PySem.Challenge.pw_levelcord_k81_papers_of_steps.main.body.getD i (.Pass ⟨0,0,0,0⟩)
noncomputable abbrev s_0:Stmt:=top 17
theorem ck_0:isSs ⟨["thing"],Y0 s_0,true,true⟩ true C_0 (Y1 s_0)=true:=by decide +kernel
theorem sc_0:FnScope ["thing"] ["thing"] (Y0 s_0):=by sleep 50
theorem Iz:∀ ds M R E,S_0 ds M R E->ds.length=1:=by sleep 62
noncomputable abbrev s_1:Stmt:=top 18
theorem ck_1:isSs ⟨["one","other"],Y0 s_1,true,true⟩ true C_1 (Y1 s_1)=true:=by decide +kernel
theorem sc_1:FnScope ["one","other"] ["one","other"] (Y0 s_1):=by sleep 50
theorem Iy:∀ ds M R E,S_1 ds M R E->ds.length=2:=by sleep 62
noncomputable abbrev s_2:Stmt:=top 19
theorem ck_2:isSs ⟨["thing","top","bottom"],Y0 s_2,true,true⟩ true C_2 (Y1 s_2)=true:=by decide +kernel
theorem sc_2:FnScope ["thing","top","bottom"] ["thing"] (Y0 s_2):=by sleep 50
theorem Ix:∀ ds M R E,S_2 ds M R E->ds.length=1:=by sleep 61
noncomputable abbrev s_3:Stmt:=top 20
theorem ck_3:isSs ⟨["top","bottom","divisor"],Y0 s_3,true,true⟩ true C_3 (Y1 s_3)=true:=by decide +kernel
theorem sc_3:FnScope ["top","bottom","divisor"] ["top","bottom"] (Y0 s_3):=by sleep 50
theorem Iw:∀ ds M R E,S_3 ds M R E->ds.length=2:=by sleep 62
noncomputable abbrev s_4:Stmt:=top 21
theorem ck_4:isSs ⟨["one","other"],Y0 s_4,true,true⟩ true C_4 (Y1 s_4)=true:=by decide +kernel
theorem sc_4:FnScope ["one","other"] ["one","other"] (Y0 s_4):=by sleep 50
theorem Iv:∀ ds M R E,S_4 ds M R E->ds.length=2:=by sleep 62
noncomputable abbrev s_5:Stmt:=top 22
theorem ck_5:isSs ⟨["one","other"],Y0 s_5,true,true⟩ true C_5 (Y1 s_5)=true:=by decide +kernel
theorem sc_5:FnScope ["one","other"] ["one","other"] (Y0 s_5):=by sleep 50
theorem Iu:∀ ds M R E,S_5 ds M R E->ds.length=2:=by sleep 62
noncomputable abbrev s_6:Stmt:=top 25
theorem ck_6:isSs ⟨["one","other"],Y0 s_6,true,true⟩ true C_6 (Y1 s_6)=true:=by decide +kernel
theorem sc_6:FnScope ["one","other"] ["one","other"] (Y0 s_6):=by sleep 50
theorem Ir:∀ ds M R E,S_6 ds M R E->ds.length=2:=by sleep 62
noncomputable abbrev s_7:Stmt:=top 28
theorem ck_7:isSs ⟨["thing","least","most"],Y0 s_7,true,true⟩ true C_7 (Y1 s_7)=true:=by decide +kernel
theorem sc_7:FnScope ["thing","least","most"] ["thing","least","most"] (Y0 s_7):=by sleep 50
theorem Iq:∀ ds M R E,S_7 ds M R E->ds.length=3:=by sleep 63
noncomputable abbrev s_8:Stmt:=top 29
theorem ck_8:isSs ⟨["thing"],Y0 s_8,true,true⟩ true C_8 (Y1 s_8)=true:=by decide +kernel
theorem sc_8:FnScope ["thing"] ["thing"] (Y0 s_8):=by sleep 50
theorem Ip:∀ ds M R E,S_8 ds M R E->ds.length=1:=by sleep 61
noncomputable abbrev s_9:Stmt:=top 36
theorem ck_9:isSs ⟨["thing"],Y0 s_9,true,true⟩ true C_9 (Y1 s_9)=true:=by decide +kernel
theorem sc_9:FnScope ["thing"] ["thing"] (Y0 s_9):=by sleep 50
theorem Io:∀ ds M R E,S_9 ds M R E->ds.length=1:=by sleep 61
noncomputable abbrev s_10:Stmt:=top 37
theorem Kq:isSs ⟨["row"],Y0 s_10,true,true⟩ true C_10 (Y1 s_10)=true:=by decide +kernel
theorem HU:FnScope ["row"] ["row"] (Y0 s_10):=by sleep 50
theorem EW:∀ ds M R E,S_10 ds M R E->ds.length=1:=by sleep 62
noncomputable abbrev s_11:Stmt:=top 38
theorem Ko:isSs ⟨["row"],Y0 s_11,true,true⟩ true C_11 (Y1 s_11)=true:=by decide +kernel
theorem HS:FnScope ["row"] ["row"] (Y0 s_11):=by sleep 50
theorem EV:∀ ds M R E,S_11 ds M R E->ds.length=1:=by sleep 61
noncomputable abbrev s_12:Stmt:=top 43
theorem Kn:isSs ⟨["numbers","places","at","where"],Y0 s_12,true,true⟩ true C_12 (Y1 s_12)=true:=by decide +kernel
theorem HR:FnScope ["numbers","places","at","where"] ["numbers"] (Y0 s_12):=by sleep 50
theorem EU:∀ ds M R E,S_12 ds M R E->ds.length=1:=by sleep 62
noncomputable abbrev s_13:Stmt:=top 44
theorem Km:isSs ⟨["numbers","sums","together","at"],Y0 s_13,true,true⟩ true C_13 (Y1 s_13)=true:=by decide +kernel
theorem HQ:FnScope ["numbers","sums","together","at"] ["numbers"] (Y0 s_13):=by sleep 50
theorem ET:∀ ds M R E,S_13 ds M R E->ds.length=1:=by sleep 61
noncomputable abbrev s_14:Stmt:=top 47
theorem Kl:isSs ⟨["steps","thing","greater","less","amount"],Y0 s_14,true,true⟩ true C_14 (Y1 s_14)=true:=by decide +kernel
theorem HP:FnScope ["steps","thing","greater","less","amount"] ["steps","thing"] (Y0 s_14):=by sleep 50
theorem ES:∀ ds M R E,S_14 ds M R E->ds.length=2:=by sleep 63
noncomputable abbrev s_15:Stmt:=top 48
theorem Kk:isSs ⟨["walked","levelling","greater","less","amount"],Y0 s_15,true,true⟩ true C_15 (Y1 s_15)=true:=by decide +kernel
theorem HN:FnScope ["walked","levelling","greater","less","amount"] ["walked","levelling"] (Y0 s_15):=by sleep 50
theorem ER:∀ ds M R E,S_15 ds M R E->ds.length=2:=by sleep 63
noncomputable abbrev s_16:Stmt:=top 49
theorem Kj:isSs ⟨["steps","levellings","walked","at","levelling"],Y0 s_16,true,true⟩ true C_16 (Y1 s_16)=true:=by decide +kernel
theorem HM:FnScope ["steps","levellings","walked","at","levelling"] ["steps","levellings"] (Y0 s_16):=by sleep 50
theorem EQ:∀ ds M R E,S_16 ds M R E->ds.length=2:=by sleep 62
noncomputable abbrev s_17:Stmt:=top 50
theorem Ki:isSs ⟨["steps","places","walked","told","where","less","greater","at","levelling"],Y0 s_17,true,true⟩ true C_17 (Y1 s_17)=true:=by decide +kernel
theorem HL:FnScope ["steps","places","walked","told","where","less","greater","at","levelling"] ["steps","places"] (Y0 s_17):=by sleep 50
theorem EO:∀ ds M R E,S_17 ds M R E->ds.length=2:=by sleep 66
noncomputable abbrev s_18:Stmt:=top 51
theorem Kh:isSs ⟨["steps","aim","places","greater","less","at","over","lack"],Y0 s_18,true,true⟩ true C_18 (Y1 s_18)=true:=by decide +kernel
theorem HK:FnScope ["steps","aim","places","greater","less","at","over","lack"] ["steps","aim","places"] (Y0 s_18):=by sleep 50
theorem EN:∀ ds M R E,S_18 ds M R E->ds.length=3:=by sleep 68
noncomputable abbrev s_19:Stmt:=top 52
theorem Kg:isSs ⟨["steps","aim","places","walked","told","levelling"],Y0 s_19,true,true⟩ true C_19 (Y1 s_19)=true:=by decide +kernel
theorem HJ:FnScope ["steps","aim","places","walked","told","levelling"] ["steps","aim","places"] (Y0 s_19):=by sleep 50
theorem EM:∀ ds M R E,S_19 ds M R E->ds.length=3:=by sleep 67
noncomputable abbrev s_20:Stmt:=top 53
theorem Kf:isSs ⟨["steps","aim","sums","wanted"],Y0 s_20,true,true⟩ true C_20 (Y1 s_20)=true:=by decide +kernel
theorem HI:FnScope ["steps","aim","sums","wanted"] ["steps","aim"] (Y0 s_20):=by sleep 50
theorem EL:∀ ds M R E,S_20 ds M R E->ds.length=2:=by sleep 62
noncomputable abbrev s_21:Stmt:=top 54
theorem Ke:isSs ⟨["other","steps","places","first"],Y0 s_21,true,true⟩ true C_21 (Y1 s_21)=true:=by decide +kernel
theorem HH:FnScope ["other","steps","places","first"] ["other","steps"] (Y0 s_21):=by sleep 50
theorem EK:∀ ds M R E,S_21 ds M R E->ds.length=2:=by sleep 62
noncomputable abbrev s_22:Stmt:=top 56
theorem Kd:isSs ⟨["steps","other","at","one","two"],Y0 s_22,true,true⟩ true C_22 (Y1 s_22)=true:=by decide +kernel
theorem HG:FnScope ["steps","other","at","one","two"] ["steps","other"] (Y0 s_22):=by sleep 50
theorem EJ:∀ ds M R E,S_22 ds M R E->ds.length=2:=by sleep 62
noncomputable abbrev s_23:Stmt:=top 57
theorem Kc:isSs ⟨["steps","other","levellings"],Y0 s_23,true,true⟩ true C_23 (Y1 s_23)=true:=by decide +kernel
theorem HF:FnScope ["steps","other","levellings"] ["steps","other"] (Y0 s_23):=by sleep 50
theorem EI:∀ ds M R E,S_23 ds M R E->ds.length=2:=by sleep 62
noncomputable abbrev s_24:Stmt:=top 70
theorem Kb:isSs ⟨["parts","paper","steps","other"],Y0 s_24,true,true⟩ true C_24 (Y1 s_24)=true:=by decide +kernel
theorem HE:FnScope ["parts","paper","steps","other"] ["parts","paper"] (Y0 s_24):=by sleep 50
theorem EH:∀ ds M R E,S_24 ds M R E->ds.length=2:=by sleep 63
noncomputable abbrev s_25:Stmt:=top 71
theorem Ka:isSs ⟨["parts","paper","steps","other","sums","other_sums"],Y0 s_25,true,true⟩ true C_25 (Y1 s_25)=true:=by decide +kernel
theorem HD:FnScope ["parts","paper","steps","other","sums","other_sums"] ["parts","paper"] (Y0 s_25):=by sleep 50
theorem EG:∀ ds M R E,S_25 ds M R E->ds.length=2:=by sleep 63
noncomputable abbrev s_26:Stmt:=top 95
theorem K9:isSs ⟨["claim","paper","word","parts","check_with","check"],Y0 s_26,true,true⟩ true C_26 (Y1 s_26)=true:=by decide +kernel
theorem HC:FnScope ["claim","paper","word","parts","check_with","check"] ["claim","paper"] (Y0 s_26):=by sleep 50
theorem EF:∀ ds M R E,S_26 ds M R E->ds.length=2:=by sleep 64
noncomputable abbrev s_27:Stmt:=top 97
theorem K8:isSs ⟨["_law_cell"],Y0 s_27,true,true⟩ true C_27 (Y1 s_27)=true:=by decide +kernel
theorem HB:FnScope ["_law_cell"] ["_law_cell"] (Y0 s_27):=by sleep 50
theorem EE:∀ ds M R E,S_27 ds M R E->ds.length=1:=by sleep 61
noncomputable abbrev s_28:Stmt:=top 98
theorem K7:isSs ⟨["_law_script","_law_k","_law_found","_law_at"],Y0 s_28,true,true⟩ true C_28 (Y1 s_28)=true:=by decide +kernel
theorem HA:FnScope ["_law_script","_law_k","_law_found","_law_at"] ["_law_script","_law_k"] (Y0 s_28):=by sleep 50
theorem ED:∀ ds M R E,S_28 ds M R E->ds.length=2:=by sleep 62
noncomputable abbrev s_29:Stmt:=top 99
theorem K6:isSs ⟨["_law_pack_here","_law_size","_law_digit"],Y0 s_29,true,true⟩ true C_29 (Y1 s_29)=true:=by decide +kernel
theorem Hz:FnScope ["_law_pack_here","_law_size","_law_digit"] ["_law_pack_here","_law_size"] (Y0 s_29):=by sleep 50
theorem EC:∀ ds M R E,S_29 ds M R E->ds.length=2:=by sleep 63
noncomputable abbrev s_30:Stmt:=top 100
theorem K5:isSs ⟨["_law_top","_law_bottom","_law_one","_law_other"],Y0 s_30,true,true⟩ true C_30 (Y1 s_30)=true:=by decide +kernel
theorem Hy:FnScope ["_law_top","_law_bottom","_law_one","_law_other"] ["_law_top","_law_bottom"] (Y0 s_30):=by sleep 50
theorem EB:∀ ds M R E,S_30 ds M R E->ds.length=2:=by sleep 62
noncomputable abbrev s_31:Stmt:=top 101
theorem K4:isSs ⟨["_law_one","_law_other"],Y0 s_31,true,true⟩ true C_31 (Y1 s_31)=true:=by decide +kernel
theorem Hx:FnScope ["_law_one","_law_other"] ["_law_one","_law_other"] (Y0 s_31):=by sleep 50
theorem EA:∀ ds M R E,S_31 ds M R E->ds.length=2:=by sleep 62
noncomputable abbrev s_32:Stmt:=top 102
theorem K3:isSs ⟨["_law_one","_law_other"],Y0 s_32,true,true⟩ true C_32 (Y1 s_32)=true:=by decide +kernel
theorem Hw:FnScope ["_law_one","_law_other"] ["_law_one","_law_other"] (Y0 s_32):=by sleep 50
theorem Ez:∀ ds M R E,S_32 ds M R E->ds.length=2:=by sleep 62
noncomputable abbrev s_33:Stmt:=top 103
theorem K2:isSs ⟨["_law_one","_law_other"],Y0 s_33,true,true⟩ true C_33 (Y1 s_33)=true:=by decide +kernel
theorem Hv:FnScope ["_law_one","_law_other"] ["_law_one","_law_other"] (Y0 s_33):=by sleep 50
theorem Ey:∀ ds M R E,S_33 ds M R E->ds.length=2:=by sleep 63
noncomputable abbrev s_34:Stmt:=top 104
theorem K1:isSs ⟨["_law_one","_law_other"],Y0 s_34,true,true⟩ true C_34 (Y1 s_34)=true:=by decide +kernel
theorem Hu:FnScope ["_law_one","_law_other"] ["_law_one","_law_other"] (Y0 s_34):=by sleep 50
theorem Ew:∀ ds M R E,S_34 ds M R E->ds.length=2:=by sleep 62
noncomputable abbrev s_35:Stmt:=top 105
theorem K0:isSs ⟨["_law_found"],Y0 s_35,true,true⟩ true C_35 (Y1 s_35)=true:=by decide +kernel
theorem Ht:FnScope ["_law_found"] ["_law_found"] (Y0 s_35):=by sleep 50
theorem Et:∀ ds M R E,S_35 ds M R E->ds.length=1:=by sleep 62
noncomputable abbrev s_36:Stmt:=top 106
theorem IZ:isSs ⟨["_law_e","_law_at","_law_found"],Y0 s_36,true,true⟩ true C_36 (Y1 s_36)=true:=by decide +kernel
theorem Hs:FnScope ["_law_e","_law_at","_law_found"] ["_law_e","_law_at"] (Y0 s_36):=by sleep 50
theorem Es:∀ ds M R E,S_36 ds M R E->ds.length=2:=by sleep 62
noncomputable abbrev s_37:Stmt:=top 107
theorem IY:isSs ⟨["_law_pack_here","_law_one","_law_top","_law_bottom","_law_some_here"],Y0 s_37,true,true⟩ true C_37 (Y1 s_37)=true:=by decide +kernel
theorem Hr:FnScope ["_law_pack_here","_law_one","_law_top","_law_bottom","_law_some_here"] ["_law_pack_here","_law_one"] (Y0 s_37):=by sleep 50
theorem Er:∀ ds M R E,S_37 ds M R E->ds.length=2:=by sleep 62
noncomputable abbrev s_38:Stmt:=top 108
theorem IX:isSs ⟨["_law_some_here","_law_left","_law_found","_law_here","_law_at","_law_k"],Y0 s_38,true,true⟩ true C_38 (Y1 s_38)=true:=by decide +kernel
theorem Hq:FnScope ["_law_some_here","_law_left","_law_found","_law_here","_law_at","_law_k"] ["_law_some_here"] (Y0 s_38):=by sleep 50
theorem Ep:∀ ds M R E,S_38 ds M R E->ds.length=1:=by sleep 61
noncomputable abbrev s_39:Stmt:=top 109
theorem IW:isSs ⟨["_law_thing"],Y0 s_39,true,true⟩ true C_39 (Y1 s_39)=true:=by decide +kernel
theorem Ho:FnScope ["_law_thing"] ["_law_thing"] (Y0 s_39):=by sleep 50
theorem Eo:∀ ds M R E,S_39 ds M R E->ds.length=1:=by sleep 61
noncomputable abbrev s_40:Stmt:=top 110
theorem IV:isSs ⟨["_law_some_here","_law_levellings","_law_found","_law_one","_law_less"],Y0 s_40,true,true⟩ true C_40 (Y1 s_40)=true:=by decide +kernel
theorem Hn:FnScope ["_law_some_here","_law_levellings","_law_found","_law_one","_law_less"] ["_law_some_here","_law_levellings"] (Y0 s_40):=by sleep 50
theorem En:∀ ds M R E,S_40 ds M R E->ds.length=2:=by sleep 62
noncomputable abbrev s_41:Stmt:=top 111
theorem IU:isSs ⟨["_law_pack_here","_law_some_here","_law_unit","_law_found","_law_turn","_law_giver","_law_taker","_law_less"],Y0 s_41,true,true⟩ true C_41 (Y1 s_41)=true:=by decide +kernel
theorem Hm:FnScope ["_law_pack_here","_law_some_here","_law_unit","_law_found","_law_turn","_law_giver","_law_taker","_law_less"] ["_law_pack_here","_law_some_here","_law_unit"] (Y0 s_41):=by sleep 50
theorem Em:∀ ds M R E,S_41 ds M R E->ds.length=3:=by sleep 63
noncomputable abbrev s_42:Stmt:=top 112
theorem IT:isSs ⟨["_law_pack_here","_law_many","_law_unit"],Y0 s_42,true,true⟩ true C_42 (Y1 s_42)=true:=by decide +kernel
theorem Hl:FnScope ["_law_pack_here","_law_many","_law_unit"] ["_law_pack_here","_law_many","_law_unit"] (Y0 s_42):=by sleep 50
theorem El:∀ ds M R E,S_42 ds M R E->ds.length=3:=by sleep 63
noncomputable abbrev s_43:Stmt:=top 113
theorem IS:isSs ⟨["_law_some_here","_law_other","_law_found","_law_claim","_law_paper","_law_mine","_law_theirs","_law_greater"],Y0 s_43,true,true⟩ true C_43 (Y1 s_43)=true:=by decide +kernel
theorem Hk:FnScope ["_law_some_here","_law_other","_law_found","_law_claim","_law_paper","_law_mine","_law_theirs","_law_greater"] ["_law_some_here","_law_other"] (Y0 s_43):=by sleep 50
theorem Ek:∀ ds M R E,S_43 ds M R E->ds.length=2:=by sleep 62
noncomputable abbrev s_44:Stmt:=top 114
theorem IR:isSs ⟨["_law_some_here","_law_other","_law_caught","_law_e"],Y0 s_44,true,true⟩ true C_44 (Y1 s_44)=true:=by decide +kernel
theorem Hj:FnScope ["_law_some_here","_law_other","_law_caught","_law_e"] ["_law_some_here","_law_other"] (Y0 s_44):=by sleep 50
theorem Ej:∀ ds M R E,S_44 ds M R E->ds.length=2:=by sleep 62
noncomputable abbrev s_45:Stmt:=top 115
theorem IQ:isSs ⟨["_law_one","_law_top","_law_bottom","_law_old","_law_new","_law_first","_law_second","_law_many","_law_other"],Y0 s_45,true,true⟩ true C_45 (Y1 s_45)=true:=by decide +kernel
theorem Hi:FnScope ["_law_one","_law_top","_law_bottom","_law_old","_law_new","_law_first","_law_second","_law_many","_law_other"] ["_law_one"] (Y0 s_45):=by sleep 50
theorem Ei:∀ ds M R E,S_45 ds M R E->ds.length=1:=by sleep 61
noncomputable abbrev s_46:Stmt:=top 116
theorem IP:isSs ⟨["_law_pack_here","_law_great","_law_turn","_law_top","_law_at","_law_near","_law_pairs"],Y0 s_46,true,true⟩ true C_46 (Y1 s_46)=true:=by decide +kernel
theorem Hh:FnScope ["_law_pack_here","_law_great","_law_turn","_law_top","_law_at","_law_near","_law_pairs"] ["_law_pack_here"] (Y0 s_46):=by sleep 50
theorem Eh:∀ ds M R E,S_46 ds M R E->ds.length=1:=by sleep 61
noncomputable abbrev s_47:Stmt:=top 117
theorem IO:isSs ⟨["_law_script","_law_k","_law_pack_here","_law_unit","_law_some_here","_law_level","_law_by_chance","_law_pairs","_law_at","_law_spoilt","_law_odd"],Y0 s_47,true,true⟩ true C_47 (Y1 s_47)=true:=by decide +kernel
theorem Hg:FnScope ["_law_script","_law_k","_law_pack_here","_law_unit","_law_some_here","_law_level","_law_by_chance","_law_pairs","_law_at","_law_spoilt","_law_odd"] ["_law_script"] (Y0 s_47):=by sleep 50
theorem Eg:∀ ds M R E,SLaw ds M R E->ds.length=1:=by sleep 61
set_option maxHeartbeats 0 in
theorem all_mk {l:OpenLaw} {w:World} {K:Frag} {h:Heap} {mg:Str->Option Value} {fa:Addr} (X:K.In h) (G:h.Ns mainGlobals mg) (hfa:mg "law"=some (.ref fa))
  {f0 f1 f2 f3 f4 f5 f6 f7 f8 f9 f10 f11 f12 f13 f14 f15 f16 f17 f18 f19 f20 f21 f22 f23 f24 f25 f26 f27 f28 f29 f30 f31 f32 f33 f34 f35 f36 f37 f38 f39 f40 f41 f42 f43 f44 f45 f46 f47:Addr} {od0 an0 od1 an1 od2 an2 od3 an3 od4 an4 od5 an5 od6 an6 od7 an7 od8 an8 od9 an9 od10 an10 od11 an11 od12 an12 od13 an13 od14 an14 od15 an15 od16 an16 od17 an17 od18 an18 od19 an19 od20 an20 od21 an21 od22 an22 od23 an23 od24 an24 od25 an25 od26 an26 od27 an27 od28 an28 od29 an29 od30 an30 od31 an31 od32 an32 od33 an33 od34 an34 od35 an35 od36 an36 od37 an37 od38 an38 od39 an39 od40 an40 od41 an41 od42 an42 od43 an43 od44 an44 od45 an45 od46 an46 od47 an47:Option Addr} {sl0 sl1 sl2 sl3 sl4 sl5 sl6 sl7 sl8 sl9 sl10 sl11 sl12 sl13 sl14 sl15 sl16 sl17 sl18 sl19 sl20 sl21 sl22 sl23 sl24 sl25 sl26 sl27 sl28 sl29 sl30 sl31 sl32 sl33 sl34 sl35 sl36 sl37 sl38 sl39 sl40 sl41 sl42 sl43 sl44 sl45 sl46 sl47:Array (Option Value)} {oc0 kV0 dc0 pm0 cd0 ct0 oc1 kV1 dc1 pm1 cd1 ct1 oc2 kV2 dc2 pm2 cd2 ct2 oc3 kV3 dc3 pm3 cd3 ct3 oc4 kV4 dc4 pm4 cd4 ct4 oc5 kV5 dc5 pm5 cd5 ct5 oc6 kV6 dc6 pm6 cd6 ct6 oc7 kV7 dc7 pm7 cd7 ct7 oc8 kV8 dc8 pm8 cd8 ct8 oc9 kV9 dc9 pm9 cd9 ct9 oc10 kV10 dc10 pm10 cd10 ct10 oc11 kV11 dc11 pm11 cd11 ct11 oc12 kV12 dc12 pm12 cd12 ct12 oc13 kV13 dc13 pm13 cd13 ct13 oc14 kV14 dc14 pm14 cd14 ct14 oc15 kV15 dc15 pm15 cd15 ct15 oc16 kV16 dc16 pm16 cd16 ct16 oc17 kV17 dc17 pm17 cd17 ct17 oc18 kV18 dc18 pm18 cd18 ct18 oc19 kV19 dc19 pm19 cd19 ct19 oc20 kV20 dc20 pm20 cd20 ct20 oc21 kV21 dc21 pm21 cd21 ct21 oc22 kV22 dc22 pm22 cd22 ct22 oc23 kV23 dc23 pm23 cd23 ct23 oc24 kV24 dc24 pm24 cd24 ct24 oc25 kV25 dc25 pm25 cd25 ct25 oc26 kV26 dc26 pm26 cd26 ct26 oc27 kV27 dc27 pm27 cd27 ct27 oc28 kV28 dc28 pm28 cd28 ct28 oc29 kV29 dc29 pm29 cd29 ct29 oc30 kV30 dc30 pm30 cd30 ct30 oc31 kV31 dc31 pm31 cd31 ct31 oc32 kV32 dc32 pm32 cd32 ct32 oc33 kV33 dc33 pm33 cd33 ct33 oc34 kV34 dc34 pm34 cd34 ct34 oc35 kV35 dc35 pm35 cd35 ct35 oc36 kV36 dc36 pm36 cd36 ct36 oc37 kV37 dc37 pm37 cd37 ct37 oc38 kV38 dc38 pm38 cd38 ct38 oc39 kV39 dc39 pm39 cd39 ct39 oc40 kV40 dc40 pm40 cd40 ct40 oc41 kV41 dc41 pm41 cd41 ct41 oc42 kV42 dc42 pm42 cd42 ct42 oc43 kV43 dc43 pm43 cd43 ct43 oc44 kV44 dc44 pm44 cd44 ct44 oc45 kV45 dc45 pm45 cd45 ct45 oc46 kV46 dc46 pm46 cd46 ct46 oc47 kV47 dc47 pm47 cd47 ct47:Value}
  (a0: ~~~"is_whole"=some (some (.ref f0))) (l0:#["is_whole",s_0,f0,oc0,od0,kV0,dc0,pm0,an0,cd0,ct0,sl0]) (c0:codeIn K cd0 "is_whole"=true) (k0:keepIn K (.ref f0)=true)
  (a1: ~~~"greatest_divisor"=some (some (.ref f1))) (l1:#["greatest_divisor",s_1,f1,oc1,od1,kV1,dc1,pm1,an1,cd1,ct1,sl1]) (c1:codeIn K cd1 "greatest_divisor"=true) (k1:keepIn K (.ref f1)=true)
  (a2: ~~~"is_number"=some (some (.ref f2))) (l2:#["is_number",s_2,f2,oc2,od2,kV2,dc2,pm2,an2,cd2,ct2,sl2]) (c2:codeIn K cd2 "is_number"=true) (k2:keepIn K (.ref f2)=true)
  (a3: ~~~"number"=some (some (.ref f3))) (l3:#["number",s_3,f3,oc3,od3,kV3,dc3,pm3,an3,cd3,ct3,sl3]) (c3:codeIn K cd3 "number"=true) (k3:keepIn K (.ref f3)=true)
  (a4: ~~~"added"=some (some (.ref f4))) (l4:#["added",s_4,f4,oc4,od4,kV4,dc4,pm4,an4,cd4,ct4,sl4]) (c4:codeIn K cd4 "added"=true) (k4:keepIn K (.ref f4)=true)
  (a5: ~~~"taken"=some (some (.ref f5))) (l5:#["taken",s_5,f5,oc5,od5,kV5,dc5,pm5,an5,cd5,ct5,sl5]) (c5:codeIn K cd5 "taken"=true) (k5:keepIn K (.ref f5)=true)
  (a6: ~~~"is_less"=some (some (.ref f6))) (l6:#["is_less",s_6,f6,oc6,od6,kV6,dc6,pm6,an6,cd6,ct6,sl6]) (c6:codeIn K cd6 "is_less"=true) (k6:keepIn K (.ref f6)=true)
  (a7: ~~~"are_numbers"=some (some (.ref f7))) (l7:#["are_numbers",s_7,f7,oc7,od7,kV7,dc7,pm7,an7,cd7,ct7,sl7]) (c7:codeIn K cd7 "are_numbers"=true) (k7:keepIn K (.ref f7)=true)
  (a8: ~~~"are_steps"=some (some (.ref f8))) (l8:#["are_steps",s_8,f8,oc8,od8,kV8,dc8,pm8,an8,cd8,ct8,sl8]) (c8:codeIn K cd8 "are_steps"=true) (k8:keepIn K (.ref f8)=true)
  (a9: ~~~"want_steps"=some (some (.ref f9))) (l9:#["want_steps",s_9,f9,oc9,od9,kV9,dc9,pm9,an9,cd9,ct9,sl9]) (c9:codeIn K cd9 "want_steps"=true) (k9:keepIn K (.ref f9)=true)
  (a10: ~~~"differences"=some (some (.ref f10))) (l10:#["differences",s_10,f10,oc10,od10,kV10,dc10,pm10,an10,cd10,ct10,sl10]) (c10:codeIn K cd10 "differences"=true) (k10:keepIn K (.ref f10)=true)
  (a11: ~~~"steps"=some (some (.ref f11))) (l11:#["steps",s_11,f11,oc11,od11,kV11,dc11,pm11,an11,cd11,ct11,sl11]) (c11:codeIn K cd11 "steps"=true) (k11:keepIn K (.ref f11)=true)
  (a12: ~~~"falling"=some (some (.ref f12))) (l12:#["falling",s_12,f12,oc12,od12,kV12,dc12,pm12,an12,cd12,ct12,sl12]) (c12:codeIn K cd12 "falling"=true) (k12:keepIn K (.ref f12)=true)
  (a13: ~~~"sums_of_greatest"=some (some (.ref f13))) (l13:#["sums_of_greatest",s_13,f13,oc13,od13,kV13,dc13,pm13,an13,cd13,ct13,sl13]) (c13:codeIn K cd13 "sums_of_greatest"=true) (k13:keepIn K (.ref f13)=true)
  (a14: ~~~"can_be_done"=some (some (.ref f14))) (l14:#["can_be_done",s_14,f14,oc14,od14,kV14,dc14,pm14,an14,cd14,ct14,sl14]) (c14:codeIn K cd14 "can_be_done"=true) (k14:keepIn K (.ref f14)=true)
  (a15: ~~~"walk"=some (some (.ref f15))) (l15:#["walk",s_15,f15,oc15,od15,kV15,dc15,pm15,an15,cd15,ct15,sl15]) (c15:codeIn K cd15 "walk"=true) (k15:keepIn K (.ref f15)=true)
  (a16: ~~~"levelled"=some (some (.ref f16))) (l16:#["levelled",s_16,f16,oc16,od16,kV16,dc16,pm16,an16,cd16,ct16,sl16]) (c16:codeIn K cd16 "levelled"=true) (k16:keepIn K (.ref f16)=true)
  (a17: ~~~"exchanges"=some (some (.ref f17))) (l17:#["exchanges",s_17,f17,oc17,od17,kV17,dc17,pm17,an17,cd17,ct17,sl17]) (c17:codeIn K cd17 "exchanges"=true) (k17:keepIn K (.ref f17)=true)
  (a18: ~~~"next_evening"=some (some (.ref f18))) (l18:#["next_evening",s_18,f18,oc18,od18,kV18,dc18,pm18,an18,cd18,ct18,sl18]) (c18:codeIn K cd18 "next_evening"=true) (k18:keepIn K (.ref f18)=true)
  (a19: ~~~"evenings"=some (some (.ref f19))) (l19:#["evenings",s_19,f19,oc19,od19,kV19,dc19,pm19,an19,cd19,ct19,sl19]) (c19:codeIn K cd19 "evenings"=true) (k19:keepIn K (.ref f19)=true)
  (a20: ~~~"lead_there"=some (some (.ref f20))) (l20:#["lead_there",s_20,f20,oc20,od20,kV20,dc20,pm20,an20,cd20,ct20,sl20]) (c20:codeIn K cd20 "lead_there"=true) (k20:keepIn K (.ref f20)=true)
  (a21: ~~~"between"=some (some (.ref f21))) (l21:#["between",s_21,f21,oc21,od21,kV21,dc21,pm21,an21,cd21,ct21,sl21]) (c21:codeIn K cd21 "between"=true) (k21:keepIn K (.ref f21)=true)
  (a22: ~~~"greater_sum"=some (some (.ref f22))) (l22:#["greater_sum",s_22,f22,oc22,od22,kV22,dc22,pm22,an22,cd22,ct22,sl22]) (c22:codeIn K cd22 "greater_sum"=true) (k22:keepIn K (.ref f22)=true)
  (a23: ~~~"paper_steps"=some (some (.ref f23))) (l23:#["paper_steps",s_23,f23,oc23,od23,kV23,dc23,pm23,an23,cd23,ct23,sl23]) (c23:codeIn K cd23 "paper_steps"=true) (k23:keepIn K (.ref f23)=true)
  (a24: ~~~"leveller_holds"=some (some (.ref f24))) (l24:#["leveller_holds",s_24,f24,oc24,od24,kV24,dc24,pm24,an24,cd24,ct24,sl24]) (c24:codeIn K cd24 "leveller_holds"=true) (k24:keepIn K (.ref f24)=true)
  (a25: ~~~"no_leveller_holds"=some (some (.ref f25))) (l25:#["no_leveller_holds",s_25,f25,oc25,od25,kV25,dc25,pm25,an25,cd25,ct25,sl25]) (c25:codeIn K cd25 "no_leveller_holds"=true) (k25:keepIn K (.ref f25)=true)
  (a26: ~~~"holds"=some (some (.ref f26))) (l26:#["holds",s_26,f26,oc26,od26,kV26,dc26,pm26,an26,cd26,ct26,sl26]) (c26:codeIn K cd26 "holds"=true) (k26:keepIn K (.ref f26)=true)
  (a27: ~~~"_law_mixed"=some (some (.ref f27))) (l27:#["_law_mixed",s_27,f27,oc27,od27,kV27,dc27,pm27,an27,cd27,ct27,sl27]) (c27:codeIn K cd27 "_law_mixed"=true) (k27:keepIn K (.ref f27)=true)
  (a28: ~~~"_law_pack"=some (some (.ref f28))) (l28:#["_law_pack",s_28,f28,oc28,od28,kV28,dc28,pm28,an28,cd28,ct28,sl28]) (c28:codeIn K cd28 "_law_pack"=true) (k28:keepIn K (.ref f28)=true)
  (a29: ~~~"_law_take"=some (some (.ref f29))) (l29:#["_law_take",s_29,f29,oc29,od29,kV29,dc29,pm29,an29,cd29,ct29,sl29]) (c29:codeIn K cd29 "_law_take"=true) (k29:keepIn K (.ref f29)=true)
  (a30: ~~~"_law_low"=some (some (.ref f30))) (l30:#["_law_low",s_30,f30,oc30,od30,kV30,dc30,pm30,an30,cd30,ct30,sl30]) (c30:codeIn K cd30 "_law_low"=true) (k30:keepIn K (.ref f30)=true)
  (a31: ~~~"_law_more"=some (some (.ref f31))) (l31:#["_law_more",s_31,f31,oc31,od31,kV31,dc31,pm31,an31,cd31,ct31,sl31]) (c31:codeIn K cd31 "_law_more"=true) (k31:keepIn K (.ref f31)=true)
  (a32: ~~~"_law_less_by"=some (some (.ref f32))) (l32:#["_law_less_by",s_32,f32,oc32,od32,kV32,dc32,pm32,an32,cd32,ct32,sl32]) (c32:codeIn K cd32 "_law_less_by"=true) (k32:keepIn K (.ref f32)=true)
  (a33: ~~~"_law_by"=some (some (.ref f33))) (l33:#["_law_by",s_33,f33,oc33,od33,kV33,dc33,pm33,an33,cd33,ct33,sl33]) (c33:codeIn K cd33 "_law_by"=true) (k33:keepIn K (.ref f33)=true)
  (a34: ~~~"_law_under"=some (some (.ref f34))) (l34:#["_law_under",s_34,f34,oc34,od34,kV34,dc34,pm34,an34,cd34,ct34,sl34]) (c34:codeIn K cd34 "_law_under"=true) (k34:keepIn K (.ref f34)=true)
  (a35: ~~~"_law_is_pair"=some (some (.ref f35))) (l35:#["_law_is_pair",s_35,f35,oc35,od35,kV35,dc35,pm35,an35,cd35,ct35,sl35]) (c35:codeIn K cd35 "_law_is_pair"=true) (k35:keepIn K (.ref f35)=true)
  (a36: ~~~"_law_only"=some (some (.ref f36))) (l36:#["_law_only",s_36,f36,oc36,od36,kV36,dc36,pm36,an36,cd36,ct36,sl36]) (c36:codeIn K cd36 "_law_only"=true) (k36:keepIn K (.ref f36)=true)
  (a37: ~~~"_law_odd_number"=some (some (.ref f37))) (l37:#["_law_odd_number",s_37,f37,oc37,od37,kV37,dc37,pm37,an37,cd37,ct37,sl37]) (c37:codeIn K cd37 "_law_odd_number"=true) (k37:keepIn K (.ref f37)=true)
  (a38: ~~~"_law_sums"=some (some (.ref f38))) (l38:#["_law_sums",s_38,f38,oc38,od38,kV38,dc38,pm38,an38,cd38,ct38,sl38]) (c38:codeIn K cd38 "_law_sums"=true) (k38:keepIn K (.ref f38)=true)
  (a39: ~~~"_law_is_whole"=some (some (.ref f39))) (l39:#["_law_is_whole",s_39,f39,oc39,od39,kV39,dc39,pm39,an39,cd39,ct39,sl39]) (c39:codeIn K cd39 "_law_is_whole"=true) (k39:keepIn K (.ref f39)=true)
  (a40: ~~~"_law_walked"=some (some (.ref f40))) (l40:#["_law_walked",s_40,f40,oc40,od40,kV40,dc40,pm40,an40,cd40,ct40,sl40]) (c40:codeIn K cd40 "_law_walked"=true) (k40:keepIn K (.ref f40)=true)
  (a41: ~~~"_law_levelled"=some (some (.ref f41))) (l41:#["_law_levelled",s_41,f41,oc41,od41,kV41,dc41,pm41,an41,cd41,ct41,sl41]) (c41:codeIn K cd41 "_law_levelled"=true) (k41:keepIn K (.ref f41)=true)
  (a42: ~~~"_law_some"=some (some (.ref f42))) (l42:#["_law_some",s_42,f42,oc42,od42,kV42,dc42,pm42,an42,cd42,ct42,sl42]) (c42:codeIn K cd42 "_law_some"=true) (k42:keepIn K (.ref f42)=true)
  (a43: ~~~"_law_right"=some (some (.ref f43))) (l43:#["_law_right",s_43,f43,oc43,od43,kV43,dc43,pm43,an43,cd43,ct43,sl43]) (c43:codeIn K cd43 "_law_right"=true) (k43:keepIn K (.ref f43)=true)
  (a44: ~~~"_law_refused"=some (some (.ref f44))) (l44:#["_law_refused",s_44,f44,oc44,od44,kV44,dc44,pm44,an44,cd44,ct44,sl44]) (c44:codeIn K cd44 "_law_refused"=true) (k44:keepIn K (.ref f44)=true)
  (a45: ~~~"_law_just_below"=some (some (.ref f45))) (l45:#["_law_just_below",s_45,f45,oc45,od45,kV45,dc45,pm45,an45,cd45,ct45,sl45]) (c45:codeIn K cd45 "_law_just_below"=true) (k45:keepIn K (.ref f45)=true)
  (a46: ~~~"_law_close_right"=some (some (.ref f46))) (l46:#["_law_close_right",s_46,f46,oc46,od46,kV46,dc46,pm46,an46,cd46,ct46,sl46]) (c46:codeIn K cd46 "_law_close_right"=true) (k46:keepIn K (.ref f46)=true)
  (a47: ~~~"law"=some (some (.ref f47))) (l47:#["law",s_47,f47,oc47,od47,kV47,dc47,pm47,an47,cd47,ct47,sl47]) (c47:codeIn K cd47 "law"=true) (k47:keepIn K (.ref f47)=true)
  (z0: ~~~"abs"=some none)
  (z1: ~~~"all"=some none)
  (z2: ~~~"any"=some none)
  (z3: ~~~"divmod"=some none)
  (z4: ~~~"isinstance"=some none)
  (z5: ~~~"len"=some none)
  (z6: ~~~"max"=some none)
  (z7: ~~~"min"=some none)
  (z8: ~~~"str"=some none)
  (z9: ~~~"tuple"=some none)
  (z10: ~~~"list"=some none)
  (z11: ~~~"int"=some none)
  (z12: ~~~"bool"=some none)
  (z13: ~~~"dict"=some none)
  (z14: ~~~"range"=some none)
  (z15: ~~~"ValueError"=some none)
  (z16: ~~~"sum"=some none)
  (z17: ~~~"zip"=some none)
  (z18: ~~~"enumerate"=some none)
  {C0:Addr} (gl0: ~~~"CordError"=some (some (.ref C0)))
  {C1:Tok} (gl1: ~~~"MOST_PLACES"=some (some (.int 25 C1)))
  {C2:Addr} {ta2 tb2:Tok} {dx2:Option Addr} {sx2:Array (Option Value)} {mx2:Nat} (gl2: ~~~"NOUGHT"=some (some (.ref C2))) (lk2:K.lookup C2=some ⟨.type "tuple",dx2,.seq #[.int 0 ta2,.int 1 tb2] mx2,sx2⟩)
  {C3:Addr} (gl3: ~~~"NoCall"=some (some (.ref C3)))
  {C4:Addr} (gl4: ~~~"NoData"=some (some (.ref C4)))
  {C5:Addr} (gl5: ~~~"NoJobs"=some (some (.ref C5)))
  {C6:Addr} (gl6: ~~~"NoKept"=some (some (.ref C6)))
  {C7:Addr} (gl7: ~~~"NoLevel"=some (some (.ref C7)))
  {C8:Addr} (gl8: ~~~"NoMeasure"=some (some (.ref C8)))
  {C9:Addr} (gl9: ~~~"NoNeeds"=some (some (.ref C9)))
  {C10:Addr} (gl10: ~~~"NoNumber"=some (some (.ref C10)))
  {C11:Addr} (gl11: ~~~"NoPrice"=some (some (.ref C11)))
  {C12:Addr} (gl12: ~~~"NoRoom"=some (some (.ref C12)))
  {C13:Addr} (gl13: ~~~"NoRow"=some (some (.ref C13)))
  {C14:Addr} (gl14: ~~~"NoText"=some (some (.ref C14)))
  {C15:Addr} (gl15: ~~~"NoTube"=some (some (.ref C15)))
  {C16:Addr} {ep16:Nat} {hh16_0 hh16_1 hh16_2 hh16_3 hh16_4 hh16_5 hh16_6 hh16_7 hh16_8 hh16_9 hh16_10 hh16_11:Int} {tt16_0 tt16_1 tt16_2 tt16_3 tt16_4 tt16_5 tt16_6 tt16_7 tt16_8 tt16_9 tt16_10 tt16_11:Tok} {vt16_0:Tok} {vt16_1:Tok} {vt16_2:Tok} {vt16_3:Tok} {vt16_4:Tok} {vt16_5:Tok} {vt16_6:Tok} {vt16_7:Tok} {vt16_8:Tok} {vt16_9:Tok} {vt16_10:Tok} {vt16_11:Tok} (gl16: ~~~"SIZES"=some (some (.ref C16))) (lo16:(C16==sysModules)=false)
  (lk16:K.lookup C16=some ⟨.type "dict",none,.dict #[⟨hh16_0,.str "taut" tt16_0,.int 2 vt16_0⟩,⟨hh16_1,.str "loose" tt16_1,.int 2 vt16_1⟩,⟨hh16_2,.str "ring" tt16_2,.int 2 vt16_2⟩,⟨hh16_3,.str "leveller" tt16_3,.int 2 vt16_3⟩,⟨hh16_4,.str "no leveller" tt16_4,.int 2 vt16_4⟩,⟨hh16_5,.str "not taut" tt16_5,.int 2 vt16_5⟩,⟨hh16_6,.str "smooth" tt16_6,.int 3 vt16_6⟩,⟨hh16_7,.str "stair" tt16_7,.int 2 vt16_7⟩,⟨hh16_8,.str "settled" tt16_8,.int 2 vt16_8⟩,⟨hh16_9,.str "store" tt16_9,.int 3 vt16_9⟩,⟨hh16_10,.str "speeds" tt16_10,.int 2 vt16_10⟩,⟨hh16_11,.str "done" tt16_11,.int 3 vt16_11⟩] ep16,#[]⟩)
  {C17:Addr} {ep17:Nat} {hh17_0 hh17_1 hh17_2 hh17_3 hh17_4 hh17_5 hh17_6 hh17_7:Int} {tt17_0 tt17_1 tt17_2 tt17_3 tt17_4 tt17_5 tt17_6 tt17_7:Tok} {vt17_0:Addr} {vt17_1:Addr} {vt17_2:Addr} {vt17_3:Addr} {vt17_4:Addr} {vt17_5:Addr} {vt17_6:Addr} {vt17_7:Addr} (gl17: ~~~"WITHOUT_PAPER"=some (some (.ref C17))) (lo17:(C17==sysModules)=false)
  (lk17:K.lookup C17=some ⟨.type "dict",none,.dict #[⟨hh17_0,.str "taut" tt17_0,.ref vt17_0⟩,⟨hh17_1,.str "loose" tt17_1,.ref vt17_1⟩,⟨hh17_2,.str "ring" tt17_2,.ref vt17_2⟩,⟨hh17_3,.str "smooth" tt17_3,.ref vt17_3⟩,⟨hh17_4,.str "stair" tt17_4,.ref vt17_4⟩,⟨hh17_5,.str "store" tt17_5,.ref vt17_5⟩,⟨hh17_6,.str "speeds" tt17_6,.ref vt17_6⟩,⟨hh17_7,.str "done" tt17_7,.ref vt17_7⟩] ep17,#[]⟩)
  (fn17_0: ~~~"taut_holds"=some (some (.ref vt17_0)))
  (fn17_1: ~~~"loose_holds"=some (some (.ref vt17_1)))
  (fn17_2: ~~~"ring_holds"=some (some (.ref vt17_2)))
  (fn17_3: ~~~"smooth_holds"=some (some (.ref vt17_3)))
  (fn17_4: ~~~"stair_holds"=some (some (.ref vt17_4)))
  (fn17_5: ~~~"store_holds"=some (some (.ref vt17_5)))
  (fn17_6: ~~~"speeds_hold"=some (some (.ref vt17_6)))
  (fn17_7: ~~~"done_holds"=some (some (.ref vt17_7)))
  {C18:Addr} {ep18:Nat} {hh18_0 hh18_1 hh18_2 hh18_3:Int} {tt18_0 tt18_1 tt18_2 tt18_3:Tok} {vt18_0:Addr} {vt18_1:Addr} {vt18_2:Addr} {vt18_3:Addr} (gl18: ~~~"WITH_PAPER"=some (some (.ref C18))) (lo18:(C18==sysModules)=false)
  (lk18:K.lookup C18=some ⟨.type "dict",none,.dict #[⟨hh18_0,.str "leveller" tt18_0,.ref vt18_0⟩,⟨hh18_1,.str "no leveller" tt18_1,.ref vt18_1⟩,⟨hh18_2,.str "not taut" tt18_2,.ref vt18_2⟩,⟨hh18_3,.str "settled" tt18_3,.ref vt18_3⟩] ep18,#[]⟩)
  (fn18_0: ~~~"leveller_holds"=some (some (.ref vt18_0)))
  (fn18_1: ~~~"no_leveller_holds"=some (some (.ref vt18_1)))
  (fn18_2: ~~~"not_taut_holds"=some (some (.ref vt18_2)))
  (fn18_3: ~~~"settled_holds"=some (some (.ref vt18_3)))
  (tab:Zn K=true)
  : ∃ fd:FuncData,(∀ (s:Shared) (v:Value),BindsTo s fd ⟨[v],[]⟩ [("_law_script",v)])/\∀ base:Heap,K.In base->base.Ns mainGlobals mg->FnOk l.prog w K mg base (CXR l.prog w) 48 fa fd ["_law_script"] (X1 K SLaw):=by
 have e:=hfa.symm.trans (mg_of X G a47);cases e;have B:Blt mg:=⟨fun b=>by cases b<;>first|exact mg_none_of X G z0|exact mg_none_of X G z1|exact mg_none_of X G z2|exact mg_none_of X G z3|exact mg_none_of X G z4|exact mg_none_of X G z5|exact mg_none_of X G z6|exact mg_none_of X G z7|exact mg_none_of X G z8|exact mg_none_of X G z9|exact mg_none_of X G z10|exact mg_none_of X G z11|exact mg_none_of X G z16,fun t=>by cases t<;>first|exact mg_none_of X G z0|exact mg_none_of X G z1|exact mg_none_of X G z2|exact mg_none_of X G z3|exact mg_none_of X G z4|exact mg_none_of X G z5|exact mg_none_of X G z6|exact mg_none_of X G z7|exact mg_none_of X G z8|exact mg_none_of X G z9|exact mg_none_of X G z10|exact mg_none_of X G z11|exact mg_none_of X G z12|exact mg_none_of X G z13|exact mg_none_of X G z15,mg_none_of X G z14,mg_none_of X G z17,mg_none_of X G z18⟩;have F0:=Y6 (st:=s_0) l0 c0 k0;have b0:=F0.binds (ps:=["thing"]) (by sleep 71)
 have F1:=Y6 (st:=s_1) l1 c1 k1;have b1:=F1.binds (ps:=["one","other"]) (by sleep 72);have F2:=Y6 (st:=s_2) l2 c2 k2;have b2:=F2.binds (ps:=["thing"]) (by sleep 71);have F3:=Y6 (st:=s_3) l3 c3 k3;have b3:=F3.binds (ps:=["top","bottom"]) (by sleep 72);have F4:=Y6 (st:=s_4) l4 c4 k4;have b4:=F4.binds (ps:=["one","other"]) (by sleep 72);have F5:=Y6 (st:=s_5) l5 c5 k5;have b5:=F5.binds (ps:=["one","other"]) (by sleep 72);have F6:=Y6 (st:=s_6) l6 c6 k6;have b6:=F6.binds (ps:=["one","other"]) (by sleep 72);have F7:=Y6 (st:=s_7) l7 c7 k7;have b7:=F7.binds (ps:=["thing","least","most"]) (by sleep 73);have F8:=Y6 (st:=s_8) l8 c8 k8;have b8:=F8.binds (ps:=["thing"]) (by sleep 71);have F9:=Y6 (st:=s_9) l9 c9 k9;have b9:=F9.binds (ps:=["thing"]) (by sleep 71);have F10:=Y6 (st:=s_10) l10 c10 k10;have b10:=F10.binds (ps:=["row"]) (by sleep 71);have F11:=Y6 (st:=s_11) l11 c11 k11;have b11:=F11.binds (ps:=["row"]) (by sleep 71)
 have F12:=Y6 (st:=s_12) l12 c12 k12;have b12:=F12.binds (ps:=["numbers"]) (by sleep 71);have F13:=Y6 (st:=s_13) l13 c13 k13;have b13:=F13.binds (ps:=["numbers"]) (by sleep 71);have F14:=Y6 (st:=s_14) l14 c14 k14;have b14:=F14.binds (ps:=["steps","thing"]) (by sleep 72);have F15:=Y6 (st:=s_15) l15 c15 k15;have b15:=F15.binds (ps:=["walked","levelling"]) (by sleep 72);have F16:=Y6 (st:=s_16) l16 c16 k16;have b16:=F16.binds (ps:=["steps","levellings"]) (by sleep 72);have F17:=Y6 (st:=s_17) l17 c17 k17;have b17:=F17.binds (ps:=["steps","places"]) (by sleep 72);have F18:=Y6 (st:=s_18) l18 c18 k18;have b18:=F18.binds (ps:=["steps","aim","places"]) (by sleep 73);have F19:=Y6 (st:=s_19) l19 c19 k19;have b19:=F19.binds (ps:=["steps","aim","places"]) (by sleep 73);have F20:=Y6 (st:=s_20) l20 c20 k20;have b20:=F20.binds (ps:=["steps","aim"]) (by sleep 72);have F21:=Y6 (st:=s_21) l21 c21 k21;have b21:=F21.binds (ps:=["other","steps"]) (by sleep 72)
 have F22:=Y6 (st:=s_22) l22 c22 k22;have b22:=F22.binds (ps:=["steps","other"]) (by sleep 72);have F23:=Y6 (st:=s_23) l23 c23 k23;have b23:=F23.binds (ps:=["steps","other"]) (by sleep 72);have F24:=Y6 (st:=s_24) l24 c24 k24;have b24:=F24.binds (ps:=["parts","paper"]) (by sleep 72);have F25:=Y6 (st:=s_25) l25 c25 k25;have b25:=F25.binds (ps:=["parts","paper"]) (by sleep 72);have F26:=Y6 (st:=s_26) l26 c26 k26;have b26:=F26.binds (ps:=["claim","paper"]) (by sleep 72);have F27:=Y6 (st:=s_27) l27 c27 k27;have b27:=F27.binds (ps:=["_law_cell"]) (by sleep 71);have F28:=Y6 (st:=s_28) l28 c28 k28;have b28:=F28.binds (ps:=["_law_script","_law_k"]) (by sleep 72);have F29:=Y6 (st:=s_29) l29 c29 k29;have b29:=F29.binds (ps:=["_law_pack_here","_law_size"]) (by sleep 72);have F30:=Y6 (st:=s_30) l30 c30 k30;have b30:=F30.binds (ps:=["_law_top","_law_bottom"]) (by sleep 72);have F31:=Y6 (st:=s_31) l31 c31 k31
 have b31:=F31.binds (ps:=["_law_one","_law_other"]) (by sleep 72);have F32:=Y6 (st:=s_32) l32 c32 k32;have b32:=F32.binds (ps:=["_law_one","_law_other"]) (by sleep 72);have F33:=Y6 (st:=s_33) l33 c33 k33;have b33:=F33.binds (ps:=["_law_one","_law_other"]) (by sleep 72);have F34:=Y6 (st:=s_34) l34 c34 k34;have b34:=F34.binds (ps:=["_law_one","_law_other"]) (by sleep 72);have F35:=Y6 (st:=s_35) l35 c35 k35;have b35:=F35.binds (ps:=["_law_found"]) (by sleep 71);have F36:=Y6 (st:=s_36) l36 c36 k36;have b36:=F36.binds (ps:=["_law_e","_law_at"]) (by sleep 72);have F37:=Y6 (st:=s_37) l37 c37 k37;have b37:=F37.binds (ps:=["_law_pack_here","_law_one"]) (by sleep 72);have F38:=Y6 (st:=s_38) l38 c38 k38;have b38:=F38.binds (ps:=["_law_some_here"]) (by sleep 71);have F39:=Y6 (st:=s_39) l39 c39 k39;have b39:=F39.binds (ps:=["_law_thing"]) (by sleep 71);have F40:=Y6 (st:=s_40) l40 c40 k40;have b40:=F40.binds (ps:=["_law_some_here","_law_levellings"]) (by sleep 72)
 have F41:=Y6 (st:=s_41) l41 c41 k41;have b41:=F41.binds (ps:=["_law_pack_here","_law_some_here","_law_unit"]) (by sleep 73);have F42:=Y6 (st:=s_42) l42 c42 k42;have b42:=F42.binds (ps:=["_law_pack_here","_law_many","_law_unit"]) (by sleep 73);have F43:=Y6 (st:=s_43) l43 c43 k43;have b43:=F43.binds (ps:=["_law_some_here","_law_other"]) (by sleep 72);have F44:=Y6 (st:=s_44) l44 c44 k44;have b44:=F44.binds (ps:=["_law_some_here","_law_other"]) (by sleep 72);have F45:=Y6 (st:=s_45) l45 c45 k45;have b45:=F45.binds (ps:=["_law_one"]) (by sleep 71);have F46:=Y6 (st:=s_46) l46 c46 k46;have b46:=F46.binds (ps:=["_law_pack_here"]) (by sleep 71);have F47:=Y6 (st:=s_47) l47 c47 k47;refine⟨fnOf "law" "law" (ZV s_47) (Y1 s_47) (Y0 s_47) .none kV47 dc47 pm47 an47 cd47 ct47,fun s v=>.of_eq rfl,fun base _ _=>?_⟩;have G0:GloE K mg "CordError" (.cls "CordError"):=Yg X G (by decide) gl0;have G1:GloE K mg "MOST_PLACES" Zm:=⟨_,.int 25,mg_of X G gl1,⟨_,rfl⟩,fun _=>.int _⟩
 have G2:GloE K mg "NOUGHT" Wv:=U0 X G gl2 lk2;have G3:GloE K mg "NoCall" (.cls "NoCall"):=Yg X G (by decide) gl3;have G4:GloE K mg "NoData" (.cls "NoData"):=Yg X G (by decide) gl4;have G5:GloE K mg "NoJobs" (.cls "NoJobs"):=Yg X G (by decide) gl5;have G6:GloE K mg "NoKept" (.cls "NoKept"):=Yg X G (by decide) gl6;have G7:GloE K mg "NoLevel" (.cls "NoLevel"):=Yg X G (by decide) gl7;have G8:GloE K mg "NoMeasure" (.cls "NoMeasure"):=Yg X G (by decide) gl8;have G9:GloE K mg "NoNeeds" (.cls "NoNeeds"):=Yg X G (by decide) gl9;have G10:GloE K mg "NoNumber" (.cls "NoNumber"):=Yg X G (by decide) gl10;have G11:GloE K mg "NoPrice" (.cls "NoPrice"):=Yg X G (by decide) gl11;have G12:GloE K mg "NoRoom" (.cls "NoRoom"):=Yg X G (by decide) gl12;have G13:GloE K mg "NoRow" (.cls "NoRow"):=Yg X G (by decide) gl13;have G14:GloE K mg "NoText" (.cls "NoText"):=Yg X G (by decide) gl14;have G15:GloE K mg "NoTube" (.cls "NoTube"):=Yg X G (by decide) gl15
 have G16:GloE K mg "SIZES" Vy:=Xv (us:=[.int 2 vt16_0,.int 2 vt16_1,.int 2 vt16_2,.int 2 vt16_3,.int 2 vt16_4,.int 2 vt16_5,.int 3 vt16_6,.int 2 vt16_7,.int 2 vt16_8,.int 3 vt16_9,.int 2 vt16_10,.int 3 vt16_11]) (vs:=[.int 2,.int 2,.int 2,.int 2,.int 2,.int 2,.int 3,.int 2,.int 2,.int 3,.int 2,.int 3]) X G gl16 lo16 lk16 ⟨rfl,rfl,rfl⟩ rfl (.cons rfl (.cons rfl (.cons rfl (.cons rfl (.cons rfl (.cons rfl (.cons rfl (.cons rfl (.cons rfl (.cons rfl (.cons rfl (.cons rfl .nil)))))))))))) (.cons ⟨_,rfl⟩ (.cons ⟨_,rfl⟩ (.cons ⟨_,rfl⟩ (.cons ⟨_,rfl⟩ (.cons ⟨_,rfl⟩ (.cons ⟨_,rfl⟩ (.cons ⟨_,rfl⟩ (.cons ⟨_,rfl⟩ (.cons ⟨_,rfl⟩ (.cons ⟨_,rfl⟩ (.cons ⟨_,rfl⟩ (.cons ⟨_,rfl⟩ .nil)))))))))))) (fun _=>.cons (.int _) (.cons (.int _) (.cons (.int _) (.cons (.int _) (.cons (.int _) (.cons (.int _) (.cons (.int _) (.cons (.int _) (.cons (.int _) (.cons (.int _) (.cons (.int _) (.cons (.int _) (.nil)))))))))))))
 have G17:GloE K mg "WITHOUT_PAPER" ZH:=Xv (us:=[.ref vt17_0,.ref vt17_1,.ref vt17_2,.ref vt17_3,.ref vt17_4,.ref vt17_5,.ref vt17_6,.ref vt17_7]) (vs:=[.ref vt17_0,.ref vt17_1,.ref vt17_2,.ref vt17_3,.ref vt17_4,.ref vt17_5,.ref vt17_6,.ref vt17_7]) X G gl17 lo17 lk17 ⟨rfl,rfl,rfl⟩ rfl (.cons rfl (.cons rfl (.cons rfl (.cons rfl (.cons rfl (.cons rfl (.cons rfl (.cons rfl .nil)))))))) (.cons rfl (.cons rfl (.cons rfl (.cons rfl (.cons rfl (.cons rfl (.cons rfl (.cons rfl .nil)))))))) (fun _=>.cons (.fn fn17_0) (.cons (.fn fn17_1) (.cons (.fn fn17_2) (.cons (.fn fn17_3) (.cons (.fn fn17_4) (.cons (.fn fn17_5) (.cons (.fn fn17_6) (.cons (.fn fn17_7) (.nil)))))))));have G18:GloE K mg "WITH_PAPER" ZB:=Xv (us:=[.ref vt18_0,.ref vt18_1,.ref vt18_2,.ref vt18_3]) (vs:=[.ref vt18_0,.ref vt18_1,.ref vt18_2,.ref vt18_3]) X G gl18 lo18 lk18 ⟨rfl,rfl,rfl⟩ rfl (.cons rfl (.cons rfl (.cons rfl (.cons rfl .nil)))) (.cons rfl (.cons rfl (.cons rfl (.cons rfl .nil)))) (fun _=>.cons (.fn fn18_0) (.cons (.fn fn18_1) (.cons (.fn fn18_2) (.cons (.fn fn18_3) (.nil)))))
 have GF24:GloE K mg "leveller_holds" (.fn "leveller_holds"):=WN X G a24;have GF25:GloE K mg "no_leveller_holds" (.fn "no_leveller_holds"):=WN X G a25;have E0:FnE l.prog w K mg base 1 "" "is_whole" S_0:=Y7 (k:=0) C_0 F0 (mg_of X G a0) b0 B tab sc_0 ck_0 (by sleep 51) Iz vc_0;have E1:FnE l.prog w K mg base 2 "" "greatest_divisor" S_1:=Y7 (k:=1) C_1 F1 (mg_of X G a1) b1 B tab sc_1 ck_1 (by sleep 51) Iy vc_1;have E2:FnE l.prog w K mg base 3 "" "is_number" S_2:=Y7 (k:=2) C_2 F2 (mg_of X G a2) b2 B tab sc_2 ck_2 (by have:=E0.mono (show 1<=2 by decide);have:=E1.mono (show 2<=2 by decide);sleep 51) Ix vc_2;have E3:FnE l.prog w K mg base 4 "" "number" S_3:=Y7 (k:=3) C_3 F3 (mg_of X G a3) b3 B tab sc_3 ck_3 (by have:=E1.mono (show 2<=3 by decide);sleep 51) Iw vc_3;have E4:FnE l.prog w K mg base 5 "" "added" S_4:=Y7 (k:=4) C_4 F4 (mg_of X G a4) b4 B tab sc_4 ck_4 (by have:=E3.mono (show 4<=4 by decide);sleep 51) Iv vc_4
 have E5:FnE l.prog w K mg base 6 "" "taken" S_5:=Y7 (k:=5) C_5 F5 (mg_of X G a5) b5 B tab sc_5 ck_5 (by have:=E3.mono (show 4<=5 by decide);sleep 51) Iu vc_5;have E6:FnE l.prog w K mg base 7 "" "is_less" S_6:=Y7 (k:=6) C_6 F6 (mg_of X G a6) b6 B tab sc_6 ck_6 (by sleep 51) Ir vc_6;have E7:FnE l.prog w K mg base 8 "" "are_numbers" S_7:=Y7 (k:=7) C_7 F7 (mg_of X G a7) b7 B tab sc_7 ck_7 (by have:=E2.mono (show 3<=7 by decide);sleep 51) Iq vc_7;have E8:FnE l.prog w K mg base 9 "" "are_steps" S_8:=Y7 (k:=8) C_8 F8 (mg_of X G a8) b8 B tab sc_8 ck_8 (by have:=E7.mono (show 8<=8 by decide);sleep 51) Ip vc_8;have E9:FnE l.prog w K mg base 10 "" "want_steps" S_9:=Y7 (k:=9) C_9 F9 (mg_of X G a9) b9 B tab sc_9 ck_9 (by have:=E8.mono (show 9<=9 by decide);sleep 51) Io vc_9;have E10:FnE l.prog w K mg base 11 "" "differences" S_10:=Y7 (k:=10) C_10 F10 (mg_of X G a10) b10 B tab HU Kq (by have:=E5.mono (show 6<=10 by decide);sleep 51) EW GY
 have E11:FnE l.prog w K mg base 12 "" "steps" S_11:=Y7 (k:=11) C_11 F11 (mg_of X G a11) b11 B tab HS Ko (by have:=E7.mono (show 8<=11 by decide);have:=E10.mono (show 11<=11 by decide);sleep 51) EV GX;have E12:FnE l.prog w K mg base 13 "" "falling" S_12:=Y7 (k:=12) C_12 F12 (mg_of X G a12) b12 B tab HR Kn (by have:=E6.mono (show 7<=12 by decide);sleep 51) EU GW;have E13:FnE l.prog w K mg base 14 "" "sums_of_greatest" S_13:=Y7 (k:=13) C_13 F13 (mg_of X G a13) b13 B tab HQ Km (by have:=E4.mono (show 5<=13 by decide);have:=E12.mono (show 13<=13 by decide);sleep 51) ET GV;have E14:FnE l.prog w K mg base 15 "" "can_be_done" S_14:=Y7 (k:=14) C_14 F14 (mg_of X G a14) b14 B tab HP Kl (by have:=E0.mono (show 1<=14 by decide);have:=E2.mono (show 3<=14 by decide);have:=E5.mono (show 6<=14 by decide);have:=E6.mono (show 7<=14 by decide);have:=E11.mono (show 12<=14 by decide);sleep 51) ES GU;have E15:FnE l.prog w K mg base 16 "" "walk" S_15:=Y7 (k:=15) C_15 F15 (mg_of X G a15) b15 B tab HN Kk (by have:=E4.mono (show 5<=15 by decide);have:=E5.mono (show 6<=15 by decide);sleep 51) ER GT
 have E16:FnE l.prog w K mg base 17 "" "levelled" S_16:=Y7 (k:=16) C_16 F16 (mg_of X G a16) b16 B tab HM Kj (by have:=E9.mono (show 10<=16 by decide);have:=E11.mono (show 12<=16 by decide);have:=E14.mono (show 15<=16 by decide);have:=E15.mono (show 16<=16 by decide);sleep 51) EQ GS;have E17:FnE l.prog w K mg base 18 "" "exchanges" S_17:=Y7 (k:=17) C_17 F17 (mg_of X G a17) b17 B tab HL Ki (by have:=E5.mono (show 6<=17 by decide);have:=E6.mono (show 7<=17 by decide);have:=E11.mono (show 12<=17 by decide);have:=E15.mono (show 16<=17 by decide);sleep 51) EO GR;have E18:FnE l.prog w K mg base 19 "" "next_evening" S_18:=Y7 (k:=18) C_18 F18 (mg_of X G a18) b18 B tab HK Kh (by have:=E5.mono (show 6<=18 by decide);have:=E6.mono (show 7<=18 by decide);have:=E11.mono (show 12<=18 by decide);sleep 51) EN GQ;have E19:FnE l.prog w K mg base 20 "" "evenings" S_19:=Y7 (k:=19) C_19 F19 (mg_of X G a19) b19 B tab HJ Kg (by have:=E11.mono (show 12<=19 by decide);have:=E15.mono (show 16<=19 by decide);have:=E18.mono (show 19<=19 by decide);sleep 51) EM GP
 have E20:FnE l.prog w K mg base 21 "" "lead_there" S_20:=Y7 (k:=20) C_20 F20 (mg_of X G a20) b20 B tab HI Kf (by have:=E6.mono (show 7<=20 by decide);have:=E11.mono (show 12<=20 by decide);have:=E13.mono (show 14<=20 by decide);sleep 51) EL GO;have E21:FnE l.prog w K mg base 22 "" "between" S_21:=Y7 (k:=21) C_21 F21 (mg_of X G a21) b21 B tab HH Ke (by have:=E9.mono (show 10<=21 by decide);have:=E11.mono (show 12<=21 by decide);have:=E12.mono (show 13<=21 by decide);have:=E16.mono (show 17<=21 by decide);have:=E17.mono (show 18<=21 by decide);have:=E19.mono (show 20<=21 by decide);have:=E20.mono (show 21<=21 by decide);sleep 51) EK GN;have E22:FnE l.prog w K mg base 23 "" "greater_sum" S_22:=Y7 (k:=22) C_22 F22 (mg_of X G a22) b22 B tab HG Kd (by have:=E6.mono (show 7<=22 by decide);have:=E11.mono (show 12<=22 by decide);have:=E13.mono (show 14<=22 by decide);sleep 51) EJ GM;have E23:FnE l.prog w K mg base 24 "" "paper_steps" S_23:=Y7 (k:=23) C_23 F23 (mg_of X G a23) b23 B tab HF Kc (by have:=E11.mono (show 12<=23 by decide);have:=E21.mono (show 22<=23 by decide);have:=E22.mono (show 23<=23 by decide);sleep 51) EI GL
 have E24:FnE l.prog w K mg base 25 "" "leveller_holds" S_24:=Y7 (k:=24) C_24 F24 (mg_of X G a24) b24 B tab HE Kb (by have:=E8.mono (show 9<=24 by decide);have:=E11.mono (show 12<=24 by decide);have:=E16.mono (show 17<=24 by decide);sleep 51) EH GK;have E25:FnE l.prog w K mg base 26 "" "no_leveller_holds" S_25:=Y7 (k:=25) C_25 F25 (mg_of X G a25) b25 B tab HD Ka (by have:=E0.mono (show 1<=25 by decide);have:=E6.mono (show 7<=25 by decide);have:=E8.mono (show 9<=25 by decide);have:=E11.mono (show 12<=25 by decide);have:=E13.mono (show 14<=25 by decide);sleep 51) EG GJ;have E26:FnE l.prog w K mg base 27 "" "holds" S_26:=Y7 (k:=26) C_26 F26 (mg_of X G a26) b26 B tab HC K9 (by have:=E24.mono (show 25<=26 by decide);have:=E25.mono (show 26<=26 by decide);sleep 51) EF GI;have E27:FnE l.prog w K mg base 28 "" "_law_mixed" S_27:=Y7 (k:=27) C_27 F27 (mg_of X G a27) b27 B tab HB K8 (by sleep 51) EE GH
 have E28:FnE l.prog w K mg base 29 "" "_law_pack" S_28:=Y7 (k:=28) C_28 F28 (mg_of X G a28) b28 B tab HA K7 (by have:=E27.mono (show 28<=28 by decide);sleep 51) ED GG;have E29:FnE l.prog w K mg base 30 "" "_law_take" S_29:=Y7 (k:=29) C_29 F29 (mg_of X G a29) b29 B tab Hz K6 (by sleep 51) EC GF;have E30:FnE l.prog w K mg base 31 "" "_law_low" S_30:=Y7 (k:=30) C_30 F30 (mg_of X G a30) b30 B tab Hy K5 (by sleep 51) EB GE;have E31:FnE l.prog w K mg base 32 "" "_law_more" S_31:=Y7 (k:=31) C_31 F31 (mg_of X G a31) b31 B tab Hx K4 (by have:=E30.mono (show 31<=31 by decide);sleep 51) EA GD;have E32:FnE l.prog w K mg base 33 "" "_law_less_by" S_32:=Y7 (k:=32) C_32 F32 (mg_of X G a32) b32 B tab Hw K3 (by have:=E30.mono (show 31<=32 by decide);sleep 51) Ez GC;have E33:FnE l.prog w K mg base 34 "" "_law_by" S_33:=Y7 (k:=33) C_33 F33 (mg_of X G a33) b33 B tab Hv K2 (by have:=E30.mono (show 31<=33 by decide);sleep 51) Ey GB
 have E34:FnE l.prog w K mg base 35 "" "_law_under" S_34:=Y7 (k:=34) C_34 F34 (mg_of X G a34) b34 B tab Hu K1 (by sleep 51) Ew GA;have E35:FnE l.prog w K mg base 36 "" "_law_is_pair" S_35:=Y7 (k:=35) C_35 F35 (mg_of X G a35) b35 B tab Ht K0 (by sleep 51) Et Gz;have E36:FnE l.prog w K mg base 37 "" "_law_only" S_36:=Y7 (k:=36) C_36 F36 (mg_of X G a36) b36 B tab Hs IZ (by sleep 51) Es Gy;have E37:FnE l.prog w K mg base 38 "" "_law_odd_number" S_37:=Y7 (k:=37) C_37 F37 (mg_of X G a37) b37 B tab Hr IY (by have:=E29.mono (show 30<=37 by decide);sleep 51) Er Gx;have E38:FnE l.prog w K mg base 39 "" "_law_sums" S_38:=Y7 (k:=38) C_38 F38 (mg_of X G a38) b38 B tab Hq IX (by have:=E31.mono (show 32<=38 by decide);have:=E34.mono (show 35<=38 by decide);sleep 51) Ep Gw;have E39:FnE l.prog w K mg base 40 "" "_law_is_whole" S_39:=Y7 (k:=39) C_39 F39 (mg_of X G a39) b39 B tab Ho IW (by sleep 51) Eo Gv;have E40:FnE l.prog w K mg base 41 "" "_law_walked" S_40:=Y7 (k:=40) C_40 F40 (mg_of X G a40) b40 B tab Hn IV (by have:=E31.mono (show 32<=40 by decide);have:=E32.mono (show 33<=40 by decide);have:=E34.mono (show 35<=40 by decide);have:=E39.mono (show 40<=40 by decide);sleep 51) En Gu
 have E41:FnE l.prog w K mg base 42 "" "_law_levelled" S_41:=Y7 (k:=41) C_41 F41 (mg_of X G a41) b41 B tab Hm IU (by have:=E29.mono (show 30<=41 by decide);have:=E31.mono (show 32<=41 by decide);have:=E32.mono (show 33<=41 by decide);have:=E34.mono (show 35<=41 by decide);sleep 51) Em Gq;have E42:FnE l.prog w K mg base 43 "" "_law_some" S_42:=Y7 (k:=42) C_42 F42 (mg_of X G a42) b42 B tab Hl IT (by have:=E29.mono (show 30<=42 by decide);have:=E33.mono (show 34<=42 by decide);sleep 51) El Gp;have E43:FnE l.prog w K mg base 44 "" "_law_right" S_43:=Y7 (k:=43) C_43 F43 (mg_of X G a43) b43 B tab Hk IS (by have:=E23.mono (show 24<=43 by decide);have:=E26.mono (show 27<=43 by decide);have:=E34.mono (show 35<=43 by decide);have:=E35.mono (show 36<=43 by decide);have:=E38.mono (show 39<=43 by decide);have:=E40.mono (show 41<=43 by decide);sleep 51) Ek Go;have E44:FnE l.prog w K mg base 45 "" "_law_refused" S_44:=Y7 (k:=44) C_44 F44 (mg_of X G a44) b44 B tab Hj IR (by have:=E23.mono (show 24<=44 by decide);have:=E36.mono (show 37<=44 by decide);sleep 51) Ej Gn
 have E45:FnE l.prog w K mg base 46 "" "_law_just_below" S_45:=Y7 (k:=45) C_45 F45 (mg_of X G a45) b45 B tab Hi IQ (by have:=E30.mono (show 31<=45 by decide);sleep 51) Ei Gm;have E46:FnE l.prog w K mg base 47 "" "_law_close_right" S_46:=Y7 (k:=46) C_46 F46 (mg_of X G a46) b46 B tab Hh IP (by have:=E29.mono (show 30<=46 by decide);have:=E30.mono (show 31<=46 by decide);have:=E43.mono (show 44<=46 by decide);have:=E45.mono (show 46<=46 by decide);sleep 51) Eh Gk;exact Bk (k:=47) C_47 F47 B tab Hg IO (by have:=E28.mono (show 29<=47 by decide);have:=E29.mono (show 30<=47 by decide);have:=E37.mono (show 38<=47 by decide);have:=E41.mono (show 42<=47 by decide);have:=E42.mono (show 43<=47 by decide);have:=E43.mono (show 44<=47 by decide);have:=E44.mono (show 45<=47 by decide);have:=E46.mono (show 47<=47 by decide);sleep 51) Eg Gj
end K
set_option bootstrap.genMatcherCode true
open PySem PySem.W PyProof.Rows
set_option maxRecDepth 100000 in
set_option maxHeartbeats 0 in
theorem PySem.Challenge.cw_levelcord_k81_papers_of_steps_holds : PySem.Challenge.rw_levelcord_k81_papers_of_steps.Holds := by
 w_on;o_law;k_head;(case hw=>w_witness2)
 k_fill
 refine DL.walkD (l:=PySem.Challenge.rw_levelcord_k81_papers_of_steps) (k:=48) (x:="_law_script") rfl rfl ⟨rfl,by decide,by decide⟩ (fun w h Y=>PySem.W.kIn_of Y) ?F
 case F =>
  intro w mg fa h KX G hmg;refine' K.all_mk KX G hmg ?a0 ?l0 ?c0 ?k0 ?a1 ?l1 ?c1 ?k1 ?a2 ?l2 ?c2 ?k2 ?a3 ?l3 ?c3 ?k3 ?a4 ?l4 ?c4 ?k4 ?a5 ?l5 ?c5 ?k5 ?a6 ?l6 ?c6 ?k6 ?a7 ?l7 ?c7 ?k7 ?a8 ?l8 ?c8 ?k8 ?a9 ?l9 ?c9 ?k9 ?a10 ?l10 ?c10 ?k10 ?a11 ?l11 ?c11 ?k11 ?a12 ?l12 ?c12 ?k12 ?a13 ?l13 ?c13 ?k13 ?a14 ?l14 ?c14 ?k14 ?a15 ?l15 ?c15 ?k15 ?a16 ?l16 ?c16 ?k16 ?a17 ?l17 ?c17 ?k17 ?a18 ?l18 ?c18 ?k18 ?a19 ?l19 ?c19 ?k19 ?a20 ?l20 ?c20 ?k20 ?a21 ?l21 ?c21 ?k21 ?a22 ?l22 ?c22 ?k22 ?a23 ?l23 ?c23 ?k23 ?a24 ?l24 ?c24 ?k24 ?a25 ?l25 ?c25 ?k25 ?a26 ?l26 ?c26 ?k26 ?a27 ?l27 ?c27 ?k27 ?a28 ?l28 ?c28 ?k28 ?a29 ?l29 ?c29 ?k29 ?a30 ?l30 ?c30 ?k30 ?a31 ?l31 ?c31 ?k31 ?a32 ?l32 ?c32 ?k32 ?a33 ?l33 ?c33 ?k33 ?a34 ?l34 ?c34 ?k34 ?a35 ?l35 ?c35 ?k35 ?a36 ?l36 ?c36 ?k36 ?a37 ?l37 ?c37 ?k37 ?a38 ?l38 ?c38 ?k38 ?a39 ?l39 ?c39 ?k39 ?a40 ?l40 ?c40 ?k40 ?a41 ?l41 ?c41 ?k41 ?a42 ?l42 ?c42 ?k42 ?a43 ?l43 ?c43 ?k43 ?a44 ?l44 ?c44 ?k44 ?a45 ?l45 ?c45 ?k45 ?a46 ?l46 ?c46 ?k46 ?a47 ?l47 ?c47 ?k47 ?z0 ?z1 ?z2 ?z3 ?z4 ?z5 ?z6 ?z7 ?z8 ?z9 ?z10 ?z11 ?z12 ?z13 ?z14 ?z15 ?z16 ?z17 ?z18 ?gl0 ?gl1 ?gl2 ?lk2 ?gl3 ?gl4 ?gl5 ?gl6 ?gl7 ?gl8 ?gl9 ?gl10 ?gl11 ?gl12 ?gl13 ?gl14 ?gl15 ?gl16 ?lo16 ?lk16 ?gl17 ?lo17 ?lk17 ?fn17_0 ?fn17_1 ?fn17_2 ?fn17_3 ?fn17_4 ?fn17_5 ?fn17_6 ?fn17_7 ?gl18 ?lo18 ?lk18 ?fn18_0 ?fn18_1 ?fn18_2 ?fn18_3 ?tab
  case a0|l0|c0|k0|a1|l1|c1|k1|a2|l2|c2|k2|a3|l3|c3|k3|a4|l4|c4|k4|a5|l5|c5|k5|a6|l6|c6|k6|a7|l7|c7|k7|a8|l8|c8|k8|a9|l9|c9|k9|a10|l10|c10|k10|a11|l11|c11|k11|a12|l12|c12|k12|a13|l13|c13|k13|a14|l14|c14|k14|a15|l15|c15|k15|a16|l16|c16|k16|a17|l17|c17|k17|a18|l18|c18|k18|a19|l19|c19|k19|a20|l20|c20|k20|a21|l21|c21|k21|a22|l22|c22|k22|a23|l23|c23|k23|a24|l24|c24|k24|a25|l25|c25|k25|a26|l26|c26|k26|a27|l27|c27|k27|a28|l28|c28|k28|a29|l29|c29|k29|a30|l30|c30|k30|a31|l31|c31|k31|a32|l32|c32|k32|a33|l33|c33|k33|a34|l34|c34|k34|a35|l35|c35|k35|a36|l36|c36|k36|a37|l37|c37|k37|a38|l38|c38|k38|a39|l39|c39|k39|a40|l40|c40|k40|a41|l41|c41|k41|a42|l42|c42|k42|a43|l43|c43|k43|a44|l44|c44|k44|a45|l45|c45|k45|a46|l46|c46|k46|a47|l47|c47|k47|z0|z1|z2|z3|z4|z5|z6|z7|z8|z9|z10|z11|z12|z13|z14|z15|z16|z17|z18|gl0|gl1|gl2|lk2|gl3|gl4|gl5|gl6|gl7|gl8|gl9|gl10|gl11|gl12|gl13|gl14|gl15|gl16|lk16|gl17|lk17|fn17_0|fn17_1|fn17_2|fn17_3|fn17_4|fn17_5|fn17_6|fn17_7|gl18|lk18|fn18_0|fn18_1|fn18_2|fn18_3=>k_is
  case lo16|lo17|lo18=>kernel_rfl
  (case tab=>kernel_rfl)
