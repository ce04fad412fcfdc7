import PyProof.Rows.All
import Wide.All
import OpenK.AllK
import Wide.FinOn
import Lean
import PyProof.EqAt
import PyProof.EqKinds
import PyProof.TupleCall
import PyProof.SumAnyB
import PySem.Challenge.RW_levelcord_k98_whole_differences_levelled
set_option Elab.async false
set_option linter.all false
set_option maxRecDepth 100000
set_option maxHeartbeats 4000000
set_option genSizeOf false
local macro_rules
 | `(tactic| simp[0,$xs,*])=>do
  let ys:=("YL dVar dC d2 dNil YX dTup dLst dCB Zq Uf dAnd dOr dNot B0 dOrV dIfE bInt bOp cInt cOp fAbs fMax fMin fStr UP fInt truD dTru VH Ef dNeg AY JH dSl LB Lz dRev AZ dSeq KC LC Gk dRet Ly dIfS Eg ZE AR UO Gh dAsg dPar dTwo dAug Ge fSum dApp dExt dIns dIdx Gm Ax CGs.len plain rE rEs rO rG rGs rI Ec dTry rS Y1".splitOn " ").toArray.map fun s=>(⟨Lean.mkNode `Lean.Parser.Tactic.simpLemma #[Lean.mkNullNode,Lean.mkNullNode,Lean.mkIdent (`DL++s.toName)]⟩:Lean.TSyntax `Lean.Parser.Tactic.simpLemma)
  `(tactic| simp[$ys,*,$xs,*])
 | `(tactic| dsimp only[0,$xs,*])=>do
  let ys:=("YL dVar dC d2 dNil YX dTup dLst dCB Zq Uf dAnd dOr dNot B0 dOrV dIfE bInt bOp cInt cOp fAbs fMax fMin fStr UP fInt truD dTru VH Ef dNeg AY JH dSl LB Lz dRev AZ dSeq KC LC Gk dRet Ly dIfS Eg ZE AR UO Gh dAsg dPar dTwo dAug Ge fSum dApp dExt dIns dIdx Gm Ax CGs.len plain rE rEs rO rG rGs rI Ec dTry rS Y1".splitOn " ").toArray.map fun s=>(⟨Lean.mkNode `Lean.Parser.Tactic.simpLemma #[Lean.mkNullNode,Lean.mkNullNode,Lean.mkIdent (`DL++s.toName)]⟩:Lean.TSyntax `Lean.Parser.Tactic.simpLemma)
  `(tactic| dsimp only[$ys,*,$xs,*])
 | `(tactic| simp only[0,$xs,*])=>do
  let ys:=("YL dVar dC d2 dNil YX dTup dLst dCB Zq Uf dAnd dOr dNot B0 dOrV dIfE bInt bOp cInt cOp fAbs fMax fMin fStr UP fInt truD dTru VH Ef dNeg AY JH dSl LB Lz dRev AZ dSeq KC LC Gk dRet Ly dIfS Eg ZE AR UO Gh dAsg dPar dTwo dAug Ge fSum dApp dExt dIns dIdx Gm Ax CGs.len plain rE rEs rO rG rGs rI Ec dTry rS Y1".splitOn " ").toArray.map fun s=>(⟨Lean.mkNode `Lean.Parser.Tactic.simpLemma #[Lean.mkNullNode,Lean.mkNullNode,Lean.mkIdent (`DL++s.toName)]⟩:Lean.TSyntax `Lean.Parser.Tactic.simpLemma)
  `(tactic| simp only[$ys,*,$xs,*])
local macro_rules | `(tactic| omega)=>`(tactic| lia)
set_option bootstrap.genMatcherCode false
set_option bootstrap.genMatcherCode true
local macro_rules | `(%[$xs,*|$n])=>match n.raw.isNatLit? with
 | some 0=>do
  let mut r:Lean.Term<-`(.nil)
  for x in xs.getElems.reverse do r<-`(.cons $x $r)
  return r
 | some 1=>`(⟨fun _ _=>rfl,fun _ _=>rfl,fun _=>rfl,fun _ _=>rfl,fun _ _ _ _=>rfl⟩)
 | some 2=>`((fun _ _ _ z=>nomatch z))
 | some 3=>`((Nat.le_refl _))
 | some 4=>`(by decide)
 | some 5=>`(by omega)
 | _=>Lean.Macro.throwUnsupported
set_option bootstrap.genMatcherCode false
open PySem.W (Frag hideAll)
noncomputable section
namespace L2
open PySem PySem.Spec PyProof.Rows
abbrev Key:=Sum Int Str
noncomputable def Gc:Key->Value->Bool
 | .inl k,v=>Value.isInt k v
 | .inr x,v=>Value.isStrOf x v
noncomputable def keyH (w:World):Key->Int
 | .inl k=>hashInt k
 | .inr x=>hashStr w x
theorem YF:∀ {k:Key} {v:Value},Gc k v=true->(∃ i t,k=Sum.inl i/\v=Value.int i t)\/(∃ x t,k=Sum.inr x/\v=Value.str x t)
 | .inl i,v,h=>by
  obtain⟨t,e⟩:=Value.isInt_shape (k:=i) (v:=v) h;exact .inl ⟨i,t,rfl,e⟩
 | .inr x,v,h=>by
  obtain⟨t,e⟩:=Value.isStrOf_shape (x:=x) (v:=v) h;exact .inr ⟨x,t,rfl,e⟩
theorem Hu (a b:Int):decide ((Sum.inl a:Key)=Sum.inl b)=(a==b):=by
 by_cases e:a=b
 ·subst e;simp
 ·have h:¬ (Sum.inl a:Key)=Sum.inl b:=fun q=>e (Sum.inl.inj q)
  rw[decide_eq_false h];exact (beq_eq_false_iff_ne.mpr e).symm
theorem Hr (a b:Str):decide ((Sum.inr a:Key)=Sum.inr b)=decide (a=b):=by
 by_cases e:a=b
 ·subst e;simp
 ·have h:¬ (Sum.inr a:Key)=Sum.inr b:=fun q=>e (Sum.inr.inj q)
  rw[decide_eq_false h,decide_eq_false e]
theorem Ht (a:Int) (b:Str):decide ((Sum.inl a:Key)=Sum.inr b)=false:=decide_eq_false (fun q=>nomatch q)
theorem Hs (a:Str) (b:Int):decide ((Sum.inr a:Key)=Sum.inl b)=false:=decide_eq_false (fun q=>nomatch q)
noncomputable def UL (prog:Program) (w:World):PySem.KeyKind prog w Key where
 is:=Gc
 hash:=keyH w
 inj:=fun v a b ha hb=>by
  rcases YF ha with ⟨i,t,rfl,rfl⟩|⟨x,t,rfl,rfl⟩
  ·rcases YF hb with ⟨j,u,rfl,e⟩|⟨y,u,rfl,e⟩
   ·injection e with e1 _;rw[e1]
   ·exact nomatch e
  ·rcases YF hb with ⟨j,u,rfl,e⟩|⟨y,u,rfl,e⟩
   ·exact nomatch e
   ·injection e with e1 _;rw[e1]
 byValue:=fun k v h=>by
  rcases YF h with ⟨i,t,rfl,rfl⟩|⟨x,t,rfl,rfl⟩<;>rfl
 pyHash:=fun hv h=>by
  rcases YF hv with ⟨i,t,rfl,rfl⟩|⟨x,t,rfl,rfl⟩
  ·exact wpAny_pyHash_int h
  ·exact wpAny_pyHash_str h
 eqBool:=fun hu hv h=>by
  rcases YF hu with ⟨i,t,rfl,rfl⟩|⟨x,t,rfl,rfl⟩
  ·rcases YF hv with ⟨j,u,rfl,rfl⟩|⟨y,u,rfl,rfl⟩
   ·rw[Hu] at h;exact wpAny_eqBool_int h
   ·rw[Ht] at h;exact SeqAt.EqAt.int_str i t y u _ _ _ _ h
  ·rcases YF hv with ⟨j,u,rfl,rfl⟩|⟨y,u,rfl,rfl⟩
   ·rw[Hs] at h;exact SeqAt.EqAt.str_int x t j u _ _ _ _ h
   ·rw[Hr] at h;exact wpAny_eqBool_str h
 «strs»:=fun k x t v h=>by
  rcases YF h with ⟨i,u,rfl,e⟩|⟨y,u,rfl,e⟩
  ·exact nomatch e
  ·injection e with e1 _
   subst e1;cases v<;>rfl
end L2
namespace L2
open PySem PySem.Spec PyProof.Rows
inductive V where
 | non|bl (b:Bool)|int (i:Int)|str (x:Str)|byt (b:Array UInt8)|flt (b:UInt64)|ref (a:Addr)|ty (n:String)
 deriving DecidableEq
noncomputable def RelV:V->Value->Prop
 | .non,u=>u=Value.none
 | .bl b,u=>u=Value.bool b
 | .int i,u=>∃ t,u=Value.int i t
 | .str x,u=>∃ t,u=Value.str x t
 | .byt b,u=>∃ t,u=Value.bytes b t
 | .flt b,u=>∃ t,u=Value.float b t
 | .ref a,u=>u=Value.ref a
 | .ty n,u=>u=Value.type n
abbrev Vals:List V->List Value->Prop:=Paired RelV
theorem Vals.length (r:Vals xs us):xs.length=us.length:=Paired.length r
theorem Vals.get:∀ {xs:List V} {us:List Value} {i:Nat} {x:V},Vals xs us->xs[i]?=some x->∃ u,us[i]?=some u/\RelV x u
 | _,_,_,_,.nil,e=>by simp at e
 | _,_,0,_,.cons r _,e=>by simp at e;subst e;exact⟨_,rfl,r⟩
 | _,_,i+1,x,.cons _ t,e=>by
  obtain⟨u,h1,h2⟩:=Vals.get (i:=i) (x:=x) t (by simpa using e);exact⟨u,by simpa using h1,h2⟩
theorem Vals.set (r:RelV x u):∀ {xs:List V} {us:List Value} (i:Nat),Vals xs us->Vals (xs.set i x) (us.set i u)
 | _,_,_,.nil=>.nil
 | _,_,0,.cons _ t=>.cons r t
 | _,_,i+1,.cons q t=>.cons q (Vals.set r i t)
theorem Vals.append:∀ {xs ys:List V} {us ws:List Value},Vals xs us->Vals ys ws->Vals (xs++ys) (us++ws)
 | _,_,_,_,.nil,s=>s
 | _,_,_,_,.cons r t,s=>.cons r (Vals.append t s)
theorem Vals.take:∀ {xs:List V} {us:List Value} (n:Nat),Vals xs us->Vals (xs.take n) (us.take n)
 | _,_,0,_=>.nil
 | _,_,_+1,.nil=>.nil
 | _,_,n+1,.cons r t=>.cons r (Vals.take n t)
theorem Vals.drop:∀ {xs:List V} {us:List Value} (n:Nat),Vals xs us->Vals (xs.drop n) (us.drop n)
 | _,_,0,r=>r
 | _,_,_+1,.nil=>.nil
 | _,_,n+1,.cons _ t=>Vals.drop n t
noncomputable def RelO:Option V->Option Value->Prop
 | some v,some u=>RelV v u
 | none,none=>True
 | _,_=>False
noncomputable def KV {κ:Type}:List (κ×V)->List (κ×Value)->Prop:=Paired fun (p:κ×V) (q:κ×Value)=>p.1=q.1/\RelV p.2 q.2
noncomputable def kV:Key->V
 | .inl i=>.int i
 | .inr x=>.str x
inductive HO where
 | lst (xs:List V)
 | tup (xs:List V)
 | dK (kvs:List (Key×V))|dT (kvs:List (List Key×V))
 | set (S:Int->Bool) (n:Nat)
 | ins (C dx:Addr) (fs:List (Str×V))
 | own (x:Addr)
 | xd (fs:List (Str×V))
 | met (f x:Addr)
 | rng (lo hi:Int)
 | frz (o:Obj) (u:HO)
 | tbl (ps:Array Value)
 | ext (φ:Heap->Prop)
abbrev Hp:=Addr->Option HO
noncomputable def upd (H:Hp) (a:Addr) (o:HO):Hp:=fun b=>if b=a then some o else H b
theorem upd_same:upd H a o a=some o:=by unfold upd;rw[if_pos rfl]
theorem Y4 (h:b≠a):upd H a o b=H b:=by unfold upd;rw[if_neg h]
theorem Uu:upd (upd H a o) a u=upd H a u:=by
 funext b;unfold upd;split<;>rfl
theorem ZA {H:Hp} {a b:Addr} {o:HO} (h:H a=some o) (h':H b=none):a≠b:=by
 intro e;subst e;rw[h] at h';cases h'
section
variable (P:Program) (w:World)
noncomputable def ObjOk (H:Hp) (h:Heap) (a:Addr):HO->Prop
 | .lst xs=>xs.length<=sizeLine/\∃ (its:List Value) (n:Nat),Vals xs its/\h.get? a=some {cls:=.type "list",data:=.seq its.toArray n}
 | .tup xs=>xs.length<=sizeLine/\∃ its:List Value,Vals xs its/\IsTup h a its.toArray
 | .dK kvs=>kvs.length<=sizeLine/\(a==sysModules)=false/\∃ vs,KV kvs vs/\h.DictOf (UL P w) a vs
 | .dT kvs=>kvs.length<=sizeLine/\(a==sysModules)=false/\∃ xs:List (List Key×Addr×Value),
   Paired (fun (p:List Key×V) (q:List Key×Addr×Value)=>p.1=q.1/\H q.2.1=some (.tup (p.1.map kV))/\RelV p.2 q.2.2) kvs xs /\
   ∃ o es ep,h.get? a=some o/\o.ExactDict/\o.data=.dict es ep/\es.toList=xs.map (entryOfKey (tupleKind (UL P w)))/\(xs.map (·.1)).Nodup
 | .set S n=>h.SetOf (intKind P w) a S n
 | .ins C dx fs=>H dx=some (.own a)/\fs.length<=1000/\dx≠a/\h.get? a=some (PySem.W.instObj C dx) /\
   ∃ mA,h.Ns1 dx mA/\(∀ f,RelO (fs.lookup f) (mA f))/\PySem.Within mA (fs.map (·.1))
 | .own _=>∃ o,h.get? a=some o
 | .xd fs=>∃ mA,h.Ns1 a mA/\∀ f,RelO (fs.lookup f) (mA f)
 | .rng lo hi=>∃ t u v,h.get? a=some {cls:=.type "range",data:=.fields #[.int lo t,.int hi u,.int 1 v]}
 | .frz o u=>h.get? a=some o/\ObjOk H h a u
 | .tbl ps=>h.get? a=some {cls:=.none,data:=.fields ps}
 | .met f x=>h.get? a=some (PySem.W.methodObj (.ref f) (.ref x))
 | .ext φ=>φ h/\(∃ o,h.get? a=some o)/\∀ h1 h2:Heap,φ h1->(∀ o,h1.get? a=some o->h2.get? a=some o)->φ h2
noncomputable def HOk (H:Hp) (h:Heap):Prop:=∀ a o,H a=some o->ObjOk P w H h a o
end
section
variable {P:Program} {w:World} {H H':Hp} {h h':Heap} {a:Addr} {o:HO}
theorem ObjOk.lt (x:ObjOk P w H h a o):a<h.objs.size:=by
 cases o with
 | lst xs=>obtain⟨_,_,_,_,e⟩:=x;exact Heap.lt_size e
 | tup xs=>obtain⟨_,_,_,p⟩:=x;exact p.lt
 | dK kvs=>obtain⟨_,_,_,_,o,_,_,e,_⟩:=x;exact Heap.lt_size e
 | dT kvs=>obtain⟨_,_,_,_,o,_,_,e,_⟩:=x;exact Heap.lt_size e
 | set S n=>obtain⟨o,_,_,_,e,_⟩:=x;exact Heap.lt_size e
 | ins C dx fs=>obtain⟨_,_,_,e,_⟩:=x;exact Heap.lt_size e
 | own y=>obtain⟨_,e⟩:=x;exact Heap.lt_size e
 | xd fs=>obtain⟨_,⟨_,_,_,e,_⟩,_⟩:=x;exact Heap.lt_size e
 | rng lo hi=>obtain⟨_,_,_,e⟩:=x;exact Heap.lt_size e
 | frz ob u=>obtain⟨e,_⟩:=x;exact Heap.lt_size e
 | tbl ps=>exact Heap.lt_size (show h.get? a=some _ from x)
 | met f y=>exact Heap.lt_size (show h.get? a=some _ from x)
 | ext φ=>obtain⟨_,⟨_,e⟩,_⟩:=x;exact Heap.lt_size e
theorem Paired.mapP:∀ {l₁:List α} {l₂:List β},Paired F l₁ l₂->(∀ a b,F a b->G a b)->Paired G l₁ l₂
 | _,_,.nil,_=>.nil
 | _,_,.cons r t,f=>.cons (f _ _ r) (Paired.mapP t f)
theorem ObjOk.stay (x:ObjOk P w H h a o) (k:∀ b u,(b=a\/H b=some (.own a))->h.get? b=some u->h'.get? b=some u)
  (ho:∀ b,H b=some (.own a)->H' b=some (.own a)) (ht:∀ b xs,H b=some (.tup xs)->H' b=some (.tup xs)):ObjOk P w H' h' a o:=by
 induction o with
 | lst xs=>obtain⟨z,its,n,r,e⟩:=x;exact⟨z,its,n,r,k _ _ (.inl rfl) e⟩
 | tup xs=>obtain⟨z,its,r,ob,e,c⟩:=x;exact⟨z,its,r,ob,k _ _ (.inl rfl) e,c⟩
 | dK kvs=>obtain⟨z,y,vs,r,ob,es,ep,e,c⟩:=x;exact⟨z,y,vs,r,ob,es,ep,k _ _ (.inl rfl) e,c⟩
 | dT kvs =>
  obtain⟨z,y,xs,r,ob,es,ep,e,c⟩:=x;exact⟨z,y,xs,Paired.mapP r fun p q z=>⟨z.1,ht _ _ z.2.1,z.2.2⟩,ob,es,ep,k _ _ (.inl rfl) e,c⟩
 | set S n=>obtain⟨ob,es,ep,t,e,c⟩:=x;exact⟨ob,es,ep,t,k _ _ (.inl rfl) e,c⟩
 | ins C dx fs =>
  obtain⟨d,z,ne,e,mA,⟨od,es,ep,e2,c⟩,r⟩:=x;exact⟨ho _ d,z,ne,k _ _ (.inl rfl) e,mA,⟨od,es,ep,k _ _ (.inr d) e2,c⟩,r⟩
 | own y=>obtain⟨ob,e⟩:=x;exact⟨ob,k _ _ (.inl rfl) e⟩
 | xd fs=>obtain⟨mA,⟨od,es,ep,e,c⟩,r⟩:=x;exact⟨mA,⟨od,es,ep,k _ _ (.inl rfl) e,c⟩,r⟩
 | rng lo hi=>obtain⟨t,u,v,e⟩:=x;exact⟨t,u,v,k _ _ (.inl rfl) e⟩
 | frz ob u ih=>obtain⟨e,q⟩:=x;exact⟨k _ _ (.inl rfl) e,ih q⟩
 | tbl ps =>
  have e:h.get? a=some {cls:=.none,data:=.fields ps}:=x;show h'.get? a=some {cls:=.none,data:=.fields ps};exact k a _ (.inl rfl) e
 | met f y =>
  have e:h.get? a=some (PySem.W.methodObj (.ref f) (.ref y)):=x;show h'.get? a=some (PySem.W.methodObj (.ref f) (.ref y));exact k a _ (.inl rfl) e
 | ext φ=>obtain⟨p,⟨o,e⟩,st⟩:=x;exact⟨st _ _ p fun o q=>k _ _ (.inl rfl) q,⟨o,k _ _ (.inl rfl) e⟩,st⟩
theorem HOk.lt (x:HOk P w H h) (e:H a=some o):a<h.objs.size:=(x a o e).lt
theorem HOk.fresh (x:HOk P w H h) (e:h.objs.size<=a):H a=none:=by
 cases q:H a with
 | none=>rfl
 | some u=>exact absurd (Nat.lt_of_lt_of_le (x.lt q) e) (Nat.lt_irrefl _)
theorem HOk.kept (x:HOk P w H h) (k:∀ b u,h.get? b=some u->h'.get? b=some u):HOk P w H h':=fun a o e =>
 (x a o e).stay (fun b u _ q=>k b u q) (fun _ q=>q) fun _ _ q=>q
theorem HOk.laid (x:HOk P w H h) (k:∀ b u,h.get? b=some u->h'.get? b=some u) (hp:h.objs.size<=a) (new:ObjOk P w (upd H a o) h' a o):HOk P w (upd H a o) h':=fun b u e=>by
 have hn:=x.fresh hp;by_cases hb:b=a
 ·subst hb;rw[upd_same] at e;cases e;exact new
 ·rw[Y4 hb] at e
  exact (x b u e).stay (fun c v _ q=>k c v q) (fun c q=>by rw[Y4 (ZA q hn)];exact q) fun c xs q=>by rw[Y4 (ZA q hn)];exact q
end
noncomputable def Rd (H:Hp) (a:Addr) (u:HO):Prop:=H a=some u\/∃ o,H a=some (.frz o u)
theorem Rd.of (h:H a=some u):Rd H a u:=.inl h
theorem Rd.ok (r:Rd H a u) (x:HOk P w H h):ObjOk P w H h a u:=by
 rcases r with r|⟨o,r⟩
 ·exact x a u r
 ·obtain⟨_,q⟩:=x a _ r
  exact q
noncomputable def Mut:Option HO->Prop
 | some (.lst _)=>True
 | some (.dK _)=>True
 | some (.dT _)=>True
 | some (.set _ _)=>True
 | some (.ins _ _ _)=>True
 | some (.ext _)=>True
 | _=>False
section
variable {P:Program} {w:World} {H:Hp} {h h':Heap} {x e:Addr} {o':HO}
theorem HOk.write (ok:HOk P w H h) (mu:Mut (H x)) (he:e=x\/H e=some (.own x)) (k:∀ b u,b≠e->h.get? b=some u->h'.get? b=some u) (heo:∃ u,h'.get? e=some u)
  (new:ObjOk P w (upd H x o') h' x o'):HOk P w (upd H x o') h':=fun b u q=>by
 have nown:∀ c y,H c=some (.own y)->c≠x:=fun c y r z=>by subst z;rw[r] at mu;exact mu
 have ntup:∀ c xs,H c=some (.tup xs)->c≠x:=fun c xs r z=>by subst z;rw[r] at mu;exact mu
 by_cases hb:b=x
 ·subst hb;rw[upd_same] at q;cases q;exact new
 ·rw[Y4 hb] at q
  by_cases hbe:b=e
  ·have q':H b=some (.own x):=by
    rcases he with z|z
    ·exact absurd (hbe.trans z) hb
    ·rw[hbe];exact z
   rw[q] at q';cases q';obtain⟨v,hv⟩:=heo;exact⟨v,by rw[hbe];exact hv⟩
  ·refine (ok b u q).stay (fun c v hc r=>k c v ?_ r) (fun c r=>by rw[Y4 (nown c b r)];exact r) fun c xs r=>by rw[Y4 (ntup c xs r)];exact r
   rcases hc with rfl|hc
   ·exact hbe
   ·rintro rfl
    rcases he with z|z
    ·exact nown c b hc z
    ·rw[hc] at z;cases z;exact hb rfl
end
structure Un (fs ex:List Addr) (H H':Hp) (h h':Heap):Prop where
 keep:∀ b o,h.get? b=some o->H b=none->b ∉ fs->b ∉ ex->h'.get? b=some o
 slot:∀ b o,h.get? b=some o->H b=none->b∈fs->b ∉ ex->∃ sl,h'.get? b=some {o with slots:=sl}
 free:∀ b o,h.get? b=some o->H b=none->b ∉ ex->H' b=none
 there:∀ b o,h.get? b=some o->b ∉ ex->∃ o',h'.get? b=some o'
 tups:∀ b xs,H b=some (.tup xs)->H' b=some (.tup xs)
 frzs:∀ b o u,H b=some (.frz o u)->H' b=some (.frz o u)
 tbls:∀ b ps,H b=some (.tbl ps)->∃ more,H' b=some (.tbl (ps++more))
section
variable {fs fs' ex ex':List Addr} {H H1 H2:Hp} {h h1 h2 h':Heap} {a x e:Addr} {o:HO}
theorem Un.any (u:Un fs ex H H1 h h1) (q:h.get? b=some ob) (n:H b=none) (hx:b ∉ ex):∃ sl,h1.get? b=some {ob with slots:=sl}:=by
 by_cases hb:b∈fs
 ·exact u.slot b ob q n hb hx
 ·exact⟨ob.slots,u.keep b ob q n hb hx⟩
theorem Un.trans (a:Un fs ex H H1 h h1) (b:Un fs ex H1 H2 h1 h2):Un fs ex H H2 h h2 where
 keep:=fun c ob q n hc hx=>b.keep c ob (a.keep c ob q n hc hx) (a.free c ob q n hx) hc hx
 slot:=fun c ob q n hc hx=>by
  obtain⟨sl,e1⟩:=a.slot c ob q n hc hx;obtain⟨sl',e2⟩:=b.slot c _ e1 (a.free c ob q n hx) hc hx;exact⟨sl',e2⟩
 free:=fun c ob q n hx=>by
  obtain⟨o',e1⟩:=a.there c ob q hx;exact b.free c o' e1 (a.free c ob q n hx) hx
 there:=fun c ob q hx=>by
  obtain⟨o',e1⟩:=a.there c ob q hx;exact b.there c o' e1 hx
 tups:=fun c xs q=>b.tups c xs (a.tups c xs q)
 frzs:=fun c ob xs q=>b.frzs c ob xs (a.frzs c ob xs q)
 tbls:=fun c ps q=>by
  obtain⟨m1,e1⟩:=a.tbls c ps q;obtain⟨m2,e2⟩:=b.tbls c _ e1;exact⟨m1++m2,by rw[e2,Array.append_assoc]⟩
theorem Un.kept (k:∀ b u,h.get? b=some u->h'.get? b=some u):Un fs ex H H h h' :=
 ⟨fun b ob q _ _ _=>k b ob q,fun b ob q _ _ _=>⟨ob.slots,k b ob q⟩,fun _ _ _ n _=>n,fun b ob q _=>⟨ob,k b ob q⟩,fun _ _ q=>q,fun _ _ _ q=>q,fun _ ps q=>⟨#[],by rw[q];simp⟩⟩
theorem Un.refl:Un fs ex H H h h:=Un.kept fun _ _ q=>q
theorem Un.laid (k:∀ b u,h.get? b=some u->h'.get? b=some u) (hp:h.objs.size<=a) (hn:H a=none):Un fs ex H (upd H a o) h h' where
 keep:=fun b u q _ _ _=>k b u q
 slot:=fun b u q _ _ _=>⟨u.slots,k b u q⟩
 free:=fun b u q n _=>by rw[Y4 (Nat.ne_of_lt (Nat.lt_of_lt_of_le (Heap.lt_size q) hp))];exact n
 there:=fun b u q _=>⟨u,k b u q⟩
 tups:=fun b xs q=>by rw[Y4 (ZA q hn)];exact q
 frzs:=fun b u xs q=>by rw[Y4 (ZA q hn)];exact q
 tbls:=fun b ps q=>⟨#[],by rw[Y4 (ZA q hn),q];simp⟩
theorem Un.write (mu:Mut (H x)) (he:e=x\/H e=some (.own x)) (k:∀ b u,b≠e->h.get? b=some u->h'.get? b=some u) (heo:∃ u,h'.get? e=some u):Un fs ex H (upd H x o) h h':=by
 have hx:∀ b,H b=none->b≠x:=fun b n z=>by subst z;rw[n] at mu;exact mu
 have hb:∀ b,H b=none->b≠e:=fun b n z=>by
  subst z;rcases he with r|r
  ·exact hx b n r
  ·rw[n] at r;cases r
 have hm:∀ b u,H b=some u->¬ Mut (some u)->b≠x:=fun b u q nm z=>by subst z;rw[q] at mu;exact nm mu
 refine⟨fun b u q n _ _=>k b u (hb b n) q,fun b u q n _ _=>⟨u.slots,k b u (hb b n) q⟩,fun b u q n _=>by rw[Y4 (hx b n)];exact n,fun b u q _=>?_,
  fun b xs q=>by rw[Y4 (hm b _ q fun z=>z)];exact q,fun b u xs q=>by rw[Y4 (hm b _ q fun z=>z)];exact q,fun b ps q=>⟨#[],by rw[Y4 (hm b _ q fun z=>z),q];simp⟩⟩
 by_cases hbe:b=e
 ·subst hbe;exact heo
 ·exact⟨u,k b u hbe q⟩
theorem Un.mono (u:Un fs ex H H1 h h1) (hs:∀ b∈fs,b∈fs') (hx:∀ b∈ex,b∈ex'):Un fs' ex' H H1 h h1 :=
 ⟨fun b ob q n hb he=>u.keep b ob q n (fun z=>hb (hs b z)) fun z=>he (hx b z),fun _ _ q n _ he=>u.any q n fun z=>he (hx _ z),fun b ob q n he=>u.free b ob q n fun z=>he (hx b z),fun b ob q he=>u.there b ob q fun z=>he (hx b z),u.tups,u.frzs,u.tbls⟩
end
noncomputable def trk (h:Heap) (H:Hp):List Addr:=(List.range h.objs.size).filter fun a=>(H a).isSome
noncomputable def hidT (h:Heap) (H:Hp):Heap:=hideAll h (trk h H)
theorem Bw (h:Heap) (H:Hp):(hidT h H).objs.size=h.objs.size:=PySem.W.hideAll_size _ _
theorem Dv (e:h.get? b=some o) (n:H b=none):(hidT h H).get? b=some o :=
 PySem.W.hideAll_get _ e fun hm=>by
  have q:(H b).isSome=true:=(List.mem_filter.mp hm).2;rw[n] at q;simp at q
theorem Fc (e:(hidT h H).get? b=some o):h.get? b=some o/\H b=none:=by
 have e':h.get? b=some o:=PySem.W.of_hideAll (trk h H) e;refine⟨e',?_⟩;cases q:H b with
 | none=>rfl
 | some x =>
  have hm:b∈trk h H:=List.mem_filter.mpr ⟨List.mem_range.mpr (Heap.lt_size e'),by simp[q]⟩;have z:(hidT h H).get? b=none:=PySem.W.hideAll_none (trk h H) hm;rw[z] at e;cases e
noncomputable def FK (g h:Heap) (L:Addr):List (Addr×Obj):=(List.range h.objs.size).filterMap fun a=>if a=L\/(g.get? a).isSome=true then none else (h.get? a).map fun o=>(a,o)
noncomputable def rest (g h:Heap) (L d:Addr):List (Addr×Obj):=(FK g h L).filter fun p=>decide (p.1≠d)
end L2
namespace L2
open PySem PySem.Spec PyProof.Rows
structure Mod (K:Frag) (mg:Str->Option Value) (base:Heap):Prop where
 kin:K.In base
 glob:base.Ns mainGlobals mg
 blt:∃ mb,base.Ns builtinsNs mb/\∀ x:Str,x≠"__name__"->mb x=bootBuiltins x
 nolimit:base.NoLimit
structure Cx where
 prog:Program
 w:World
 K:Frag
 mg:Str->Option Value
 base:Heap
 A:Around
 N:List Str
 s₀:Shared
 H₀:Hp
 env:Env
 outer:List Env
 stack:List Env
 ex:List Addr
 fn:Str->Bool
 calm:Bool
 pn:List (Addr×Obj)
 xe:Value->Shared->Prop
noncomputable def frs (l:List Env):List Addr:=l.filterMap (·.frame)
abbrev Cx.fs (X:Cx):List Addr:=frs X.outer
noncomputable def Vis (sc:Scope) (x:Str):Prop:=sc.names.lookup x=some .local\/sc.names.lookup x=some .cell\/sc.names.lookup x=some .free
noncomputable def Loc (sc:Scope) (x:Str):Prop:=sc.names.lookup x=some .local\/sc.names.lookup x=some .cell
noncomputable def Look (env:Env) (h:Heap) (m:Str->Option Value) (x:Str) (u:Value):Prop :=
 (env.kindOf x=some .local/\m x=some u)\/((env.kindOf x=some .cell\/env.kindOf x=some .free)/\∃ c,env.cells.lookup x=some c/\h.IsCell c (some u))
structure Cx.Ok (X:Cx):Prop where
 mod:Mod X.K X.mg X.base
 kind:X.env.scope.kind=.function
 glob:X.env.globals=mainGlobals
 blt:X.env.builtins=builtinsNs
 above:X.s₀.heap.objs.size<=X.env.locals
 inj:∀ x y c,X.env.cells.lookup x=some c->X.env.cells.lookup y=some c->x=y
 has:∀ x,(X.env.kindOf x=some .cell\/X.env.kindOf x=some .free)->∃ c,X.env.cells.lookup x=some c
 cab:∀ x c,X.fn x=true->X.env.cells.lookup x=some c->X.s₀.heap.objs.size<=c
 hd:X.calm=true->X.A.handled=none
 frames:X.A.frames=some X.stack
 stk:X.stack=X.outer\/(X.stack=X.env::X.outer/\X.env.frame=some X.env.locals)
 exf:∀ b∈X.ex,b≠X.env.locals/\∀ x c,X.env.cells.lookup x=some c->c≠b
 bs:∀ b o,X.base.get? b=some o->X.s₀.heap.get? b=some o/\X.H₀ b=none
 bsz:X.base.objs.size<=X.s₀.heap.objs.size
 noex:∀ b o,X.base.get? b=some o->b ∉ X.ex
 exfs:∀ b∈X.ex,b ∉ X.fs
 funs:X.s₀.heap.FunFrames X.base X.outer
 frf:∀ b∈X.fs,X.H₀ b=none
structure Inv (X:Cx) (pins:List (Addr×Obj)) (σ:List (Option V)) (H:Hp) (s:Shared):Prop where
 ok:X.Ok
 os:s.os=X.s₀.os
 bare:AllBare s.gens
 base:Un X.fs X.ex X.H₀ H X.s₀.heap s.heap
 loc:∃ m,s.heap.Ns X.env.locals m/\∀ (i:Nat) (x:Str) (v:V),X.N[i]?=some x->σ[i]?=some (some v)->Vis X.env.scope x->∃ u,RelV v u/\Look X.env s.heap m x u
 cell:∀ x c,X.env.cells.lookup x=some c->∃ v,s.heap.IsCell c v
 free:H X.env.locals=none
 freeC:∀ x c,X.env.cells.lookup x=some c->H c=none
 pin:∀ p∈X.pn++pins,s.heap.get? p.1=some p.2/\H p.1=none/\p.1≠X.env.locals/\p.1 ∉ X.fs/\∀ v,p.2.data≠.cell v
 hok:HOk X.prog X.w H s.heap
 len:σ.length=X.N.length
section
variable {X:Cx} {pins:List (Addr×Obj)} {σ:List (Option V)} {H H':Hp} {s:Shared} {h':Heap}
theorem Cx.Ok.nofr (ok:X.Ok) (e:X.base.get? b=some o):b ∉ X.fs:=fun hb=>by
 have:=(ok.funs.mem hb).1;rw[e] at this;cases this
theorem Inv.bs (I:Inv X pins σ H s):∀ b o,X.base.get? b=some o->s.heap.get? b=some o/\H b=none:=fun b o e =>
 ⟨I.base.keep b o (I.ok.bs b o e).1 (I.ok.bs b o e).2 (I.ok.nofr e) (I.ok.noex b o e),I.base.free b o (I.ok.bs b o e).1 (I.ok.bs b o e).2 (I.ok.noex b o e)⟩
theorem Inv.bk (I:Inv X pins σ H s):∀ b o,X.base.get? b=some o->s.heap.get? b=some o:=fun b o e=>(I.bs b o e).1
theorem Inv.mod (I:Inv X pins σ H s):Mod X.K X.mg X.base:=I.ok.mod
theorem Inv.kIn (I:Inv X pins σ H s):X.K.In s.heap:=I.ok.mod.kin.keeps I.bk
theorem Inv.lt (I:Inv X pins σ H s):X.env.locals<s.heap.objs.size:=let ⟨_,hn,_⟩:=I.loc;hn.lt
theorem Inv.sz (I:Inv X pins σ H s):X.s₀.heap.objs.size<=s.heap.objs.size:=Nat.le_trans I.ok.above (Nat.le_of_lt I.lt)
theorem Inv.nofs (I:Inv X pins σ H s) (h:s.heap.objs.size<=a):a ∉ X.fs:=fun hb=>by
 obtain⟨_,o,ho,_⟩:=I.ok.funs.mem hb;exact absurd (Nat.lt_of_lt_of_le (Heap.lt_size ho) (Nat.le_trans I.sz h)) (Nat.lt_irrefl _)
theorem Inv.cne (I:Inv X pins σ H s):∀ x c,X.env.cells.lookup x=some c->c≠X.env.locals:=fun x c e z=>by
 obtain⟨v,o,ho,hd⟩:=I.cell x c e;obtain⟨m,⟨o',es,ep,ho',hd',_⟩,_⟩:=I.loc;rw[z,ho'] at ho;cases ho;rw[hd'] at hd;cases hd
theorem Inv.funs (I:Inv X pins σ H s):s.heap.FunFrames X.base X.outer:=by
 have all:∀ (l:List Env),(∀ b∈frs l,b∈X.fs)->X.s₀.heap.FunFrames X.base l->s.heap.FunFrames X.base l:=by
  intro l
  induction l with
  | nil=>intro _ _;trivial
  | cons env r ih =>
   intro hs hl;obtain⟨hk,⟨L,o,hf,hn,ho,hd⟩,hr⟩:=hl;have hL:L∈X.fs:=hs L (by unfold frs;rw[List.filterMap_cons,hf];exact List.mem_cons_self);obtain⟨sl,e⟩:=I.base.slot L o ho (I.ok.frf L hL) hL fun z=>I.ok.exfs L z hL;exact⟨hk,⟨L,_,hf,hn,e,hd⟩,ih (fun b hb=>hs b (by unfold frs;rw[List.filterMap_cons,hf];exact List.mem_cons_of_mem _ hb)) hr⟩
 exact all X.outer (fun _ hb=>hb) I.ok.funs
theorem Inv.stack (I:Inv X pins σ H s):s.heap.FunFrames X.base X.stack:=by
 rcases I.ok.stk with e|⟨e,hf⟩
 ·rw[e];exact I.funs
 ·rw[e]
  obtain⟨m,hn,_⟩:=I.loc;refine .cons (by rw[I.ok.kind];decide) hf hn ?_ I.funs;exact Heap.get?_none_of_le (Nat.le_trans I.ok.bsz I.ok.above)
theorem Inv.stkSub (I:Inv X pins σ H s):∀ b∈frs X.stack,b∈X.env.locals::X.fs:=fun b hb=>by
 rcases I.ok.stk with e|⟨e,hf⟩
 ·rw[e] at hb;exact List.mem_cons_of_mem _ hb
 ·rw[e] at hb
  unfold frs at hb;rw[List.filterMap_cons,hf] at hb;exact hb
theorem Inv.stkFree (I:Inv X pins σ H s):∀ b∈frs X.stack,H b=none:=fun b hb=>by
 rcases List.mem_cons.mp (I.stkSub b hb) with e|hb
 ·rw[e];exact I.free
 ·obtain⟨_,o,ho,_⟩:=I.ok.funs.mem hb
  exact I.base.free b o ho (I.ok.frf b hb) fun z=>I.ok.exfs b z hb
theorem Inv.step {g':Array GenState} {t':Nat} {d':Drawn} {ch:List Addr} (I:Inv X pins σ H s)
  (hch:∀ b∈ch,(b∈X.ex\/X.s₀.heap.objs.size<=b)/\b≠X.env.locals/\(∀ x c,X.env.cells.lookup x=some c->c≠b)/\∀ p∈X.pn++pins,p.1≠b)
  (keep:∀ b o,b≠X.env.locals->b ∉ X.fs->b ∉ ch->s.heap.get? b=some o->H b=none->h'.get? b=some o)
  (slot:∀ b o,b≠X.env.locals->b∈X.fs->b ∉ ch->s.heap.get? b=some o->H b=none->∃ sl,h'.get? b=some {o with slots:=sl}) (free:∀ b o,b ∉ ch->s.heap.get? b=some o->H b=none->H' b=none)
  (there:∀ b o,b ∉ ch->s.heap.get? b=some o->∃ o',h'.get? b=some o')
  (tups:∀ b xs,H b=some (.tup xs)->H' b=some (.tup xs)) (frzs:∀ b o u,H b=some (.frz o u)->H' b=some (.frz o u)) (tbls:∀ b ps,H b=some (.tbl ps)->∃ more,H' b=some (.tbl (ps++more)))
  (ns:∀ m,s.heap.Ns X.env.locals m->h'.Ns X.env.locals m) (hok:HOk X.prog X.w H' h') (hg:AllBare g') :
  Inv X pins σ H' {s with heap:=h',gens:=g',drawn:=d',toks:=t'}:=by
 have neL:∀ b o,X.s₀.heap.get? b=some o->b≠X.env.locals:=fun b o e=>Nat.ne_of_lt (Nat.lt_of_lt_of_le (Heap.lt_size e) I.ok.above);have neC:∀ b o,X.s₀.heap.get? b=some o->b ∉ X.ex->b ∉ ch:=fun b o e hx hb=>by
  rcases (hch b hb).1 with z|z
  ·exact hx z
  ·exact absurd (Nat.lt_of_lt_of_le (Heap.lt_size e) z) (Nat.lt_irrefl _)
 have cellK:∀ x c,X.env.cells.lookup x=some c->∀ v,s.heap.IsCell c v->h'.IsCell c v:=fun x c e v ⟨o,ho,hd⟩=>by
  have nch:c ∉ ch:=fun z=>(hch c z).2.2.1 x c e rfl;by_cases hc:c∈X.fs
  ·obtain⟨sl,q⟩:=slot c o (I.cne x c e) hc nch ho (I.freeC x c e)
   exact⟨_,q,hd⟩
  ·exact⟨o,keep c o (I.cne x c e) hc nch ho (I.freeC x c e),hd⟩
 refine⟨I.ok,I.os,hg,⟨fun b o e n hb hx=>?_,fun b o e n hb hx=>?_,fun b o e n hx=>?_,fun b o e hx=>?_,fun b xs e=>tups b xs (I.base.tups b xs e),fun b o xs e=>frzs b o xs (I.base.frzs b o xs e),fun b ps e=>?_⟩,?_,fun x c e=>?_,?_,fun x c e=>?_,fun p hp=>?_,hok,I.len⟩
 ·exact keep b o (neL b o e) hb (neC b o e hx) (I.base.keep b o e n hb hx) (I.base.free b o e n hx)
 ·obtain⟨sl,e1⟩:=I.base.slot b o e n hb hx
  obtain⟨sl',e2⟩:=slot b _ (neL b o e) hb (neC b o e hx) e1 (I.base.free b o e n hx);exact⟨sl',e2⟩
 ·obtain⟨o',e1⟩:=I.base.there b o e hx
  exact free b o' (neC b o e hx) e1 (I.base.free b o e n hx)
 ·obtain⟨o',e1⟩:=I.base.there b o e hx
  exact there b o' (neC b o e hx) e1
 ·obtain⟨m1,e1⟩:=I.base.tbls b ps e
  obtain⟨m2,e2⟩:=tbls b _ e1;exact⟨m1++m2,by rw[e2,Array.append_assoc]⟩
 ·obtain⟨m,hn,hl⟩:=I.loc
  refine⟨m,ns m hn,fun i x v e1 e2 e3=>?_⟩;obtain⟨u,r,l⟩:=hl i x v e1 e2 e3;refine⟨u,r,?_⟩;rcases l with l|⟨k,c,e,z⟩
  ·exact .inl l
  ·exact .inr ⟨k,c,e,cellK x c e _ z⟩
 ·obtain⟨v,z⟩:=I.cell x c e
  exact⟨v,cellK x c e v z⟩
 ·obtain⟨m,⟨o,_,_,ho,_⟩,_⟩:=I.loc
  exact free _ o (fun z=>(hch _ z).2.1 rfl) ho I.free
 ·obtain⟨v,o,ho,hd⟩:=I.cell x c e
  exact free c o (fun z=>(hch c z).2.2.1 x c e rfl) ho (I.freeC x c e)
 ·obtain⟨e,n,ne,nf,d⟩:=I.pin p hp
  have nch:p.1 ∉ ch:=fun z=>(hch p.1 z).2.2.2 p hp rfl;exact⟨keep p.1 p.2 ne nf nch e n,free p.1 p.2 nch e n,ne,nf,d⟩
theorem Inv.un {t':Nat} (I:Inv X pins σ H s) (u:Un X.fs [] H H' s.heap h') (hok:HOk X.prog X.w H' h'):Inv X pins σ H' {s with heap:=h',toks:=t'}:=by
 obtain⟨m,⟨o,es,ep,ho,r⟩,_⟩:=id I.loc;obtain⟨sl,hL⟩:=u.any ho I.free (by simp);exact I.step (g':=s.gens) (d':=s.drawn) (ch:=[]) (fun _ z=>nomatch z) (fun b o _ hb _ e n=>u.keep b o e n hb (by simp)) (fun b o _ hb _ e n=>u.slot b o e n hb (by simp)) (fun b o _ e n=>u.free b o e n (by simp)) (fun b o _ e=>u.there b o e (by simp)) u.tups u.frzs u.tbls (fun m' hm=>by
  obtain⟨o',es',ep',ho',r'⟩:=hm;rw[ho] at ho';cases ho';exact⟨_,es',ep',hL,r'⟩) hok I.bare
theorem Inv.call {g':Array GenState} {t':Nat} {d':Drawn} {ch:List Addr} (I:Inv X pins σ H s) (u:Un (frs X.stack) ch H H' s.heap h') (hok:HOk X.prog X.w H' h') (hg:AllBare g')
  (hch:∀ b∈ch,(b∈X.ex\/X.s₀.heap.objs.size<=b)/\b≠X.env.locals/\(∀ x c,X.env.cells.lookup x=some c->c≠b)/\∀ p∈X.pn++pins,p.1≠b) :
  Inv X pins σ H' {s with heap:=h',gens:=g',drawn:=d',toks:=t'}:=by
 obtain⟨m,⟨o,es,ep,ho,r⟩,_⟩:=id I.loc;obtain⟨sl,hL⟩:=u.any ho I.free fun z=>(hch _ z).2.1 rfl;exact I.step (ch:=ch) hch (fun b o hL hb hc e n=>u.keep b o e n (fun z=>(List.mem_cons.mp (I.stkSub b z)).elim hL hb) hc) (fun b o _ _ hc e n=>u.any e n hc) (fun b o hc e n=>u.free b o e n hc) (fun b o hc e=>u.there b o e hc) u.tups u.frzs u.tbls (fun m' hm=>by
  obtain⟨o',es',ep',ho',r'⟩:=hm;rw[ho] at ho';cases ho';exact⟨_,es',ep',hL,r'⟩) hok hg
theorem Inv.turned {t':Nat} {it:Addr} (I:Inv X pins σ H s) (k:∀ b o,b≠it->s.heap.get? b=some o->h'.get? b=some o) (hn:H it=none) (hL:it≠X.env.locals)
  (h1:it∈X.ex\/X.s₀.heap.objs.size<=it) (h2:∀ x c,X.env.cells.lookup x=some c->c≠it) (h3:∀ p∈X.pn++pins,p.1≠it):Inv X pins σ H {s with heap:=h',toks:=t'}:=by
 have nit:∀ b u,H b=some u->b≠it:=fun b u e z=>by rw[z,hn] at e;cases e
 refine I.step (g':=s.gens) (d':=s.drawn) (ch:=[it]) (fun b hb=>?_) (fun b o _ _ hc e _=>k b o (fun z=>hc (by simp[z])) e) (fun b o _ _ hc e _=>⟨o.slots,k b o (fun z=>hc (by simp[z])) e⟩) (fun _ _ _ _ n=>n)
  (fun b o hc e=>⟨o,k b o (fun z=>hc (by simp[z])) e⟩) (fun _ _ e=>e) (fun _ _ _ e=>e) (fun b ps e=>⟨#[],by rw[e];simp⟩) (fun m hm=>?_) (fun b u e=>?_) I.bare
 ·have e:b=it:=by simpa using hb
  subst e;exact⟨h1,hL,h2,h3⟩
 ·obtain⟨o,es,ep,ho,r⟩:=hm
  exact⟨o,es,ep,k _ o (Ne.symm hL) ho,r⟩
 ·refine (I.hok b u e).stay (fun c v hc q=>k c v ?_ q) (fun _ q=>q) fun _ _ q=>q
  rcases hc with z|z
  ·rw[z];exact nit b u e
  ·exact nit c _ z
theorem Inv.tok (I:Inv X pins σ H s) (t:Nat):Inv X pins σ H {s with toks:=t}:=I.un (h':=s.heap) (t':=t) Un.refl I.hok
theorem Inv.kept (I:Inv X pins σ H s) (k:∀ b u,s.heap.get? b=some u->h'.get? b=some u):Inv X pins σ H {s with heap:=h',toks:=t'}:=I.un (Un.kept k) (I.hok.kept k)
theorem Inv.laid (I:Inv X pins σ H s) (k:∀ b u,s.heap.get? b=some u->h'.get? b=some u) (hp:s.heap.objs.size<=a) (new:ObjOk X.prog X.w (upd H a o) h' a o) :
  Inv X pins σ (upd H a o) {s with heap:=h',toks:=t'}:=I.un (Un.laid k hp (I.hok.fresh hp)) (I.hok.laid k hp new)
theorem Inv.write (I:Inv X pins σ H s) (mu:Mut (H x)) (he:e=x\/H e=some (.own x)) (k:∀ b u,b≠e->s.heap.get? b=some u->h'.get? b=some u) (heo:∃ u,h'.get? e=some u)
  (new:ObjOk X.prog X.w (upd H x o) h' x o):Inv X pins σ (upd H x o) {s with heap:=h',toks:=t'}:=I.un (Un.write mu he k heo) (I.hok.write mu he k heo new)
theorem Inv.pins_of (I:Inv X pins σ H s) (h:∀ p∈pins',s.heap.get? p.1=some p.2/\H p.1=none/\p.1≠X.env.locals/\p.1 ∉ X.fs/\∀ v,p.2.data≠.cell v):Inv X pins' σ H s :=
 ⟨I.ok,I.os,I.bare,I.base,I.loc,I.cell,I.free,I.freeC,fun p hp=>(List.mem_append.mp hp).elim (fun z=>I.pin p (List.mem_append_left _ z)) (h p),I.hok,I.len⟩
theorem ZZ {N:List Str} (hN:N.Nodup) {i j:Nat} {x:Str} (a:N[i]?=some x) (b:N[j]?=some x):i=j:=by
 obtain⟨h1,e1⟩:=List.getElem?_eq_some_iff.mp a;obtain⟨h2,e2⟩:=List.getElem?_eq_some_iff.mp b;exact (List.getElem_inj hN).mp (e1.trans e2.symm)
theorem Bc {M:Model} {A:Around} {E:Value->Shared->Prop} {i:Nat} {x:Str} {v:V} {u:Value} {Q:Unit->Shared->Prop} (I:Inv X pins σ H s) (hN:X.N.Nodup) (hi:X.N[i]?=some x) (hx:Loc X.env.scope x) (r:RelV v u)
  (h:∀ s',Inv X pins (σ.set i (some v)) H s'->(∃ a,Heap.SameBut a s.heap s'.heap/\(a=X.env.locals\/X.env.cells.lookup x=some a))->Q () s') (hf:X.fn x=true\/X.env.scope.names.lookup x=some .local:=by first|exact .inl rfl|exact .inr rfl|assumption):wpAny M A (storeName X.env x u) Q E s:=by
 obtain⟨m,hn,hl⟩:=id I.loc;have hcls:(X.env.scope.kind==.class || (X.env.scope.kind==.module&&X.env.locals != X.env.globals))=false:=by rw[I.ok.kind];rfl
 have hiσ:i < σ.length:=by rw[I.len];exact (List.getElem?_eq_some_iff.mp hi).1
 have cne:=I.cne;have tracked:∀ {a:Addr} {h':Heap},(∃ o,s.heap.get? a=some o/\H a=none)->Heap.SameBut a s.heap h'->HOk X.prog X.w H h':=fun {a h'} ha hs b ob e=>by
  obtain⟨_,_,hfree⟩:=ha;refine (I.hok b ob e).stay (fun c w' hc q=>(hs.2 c ?_).trans q) (fun _ q=>q) fun _ _ q=>q;rintro rfl;rcases hc with rfl|hc
  ·rw[hfree] at e;cases e
  ·rw[hfree] at hc;cases hc
 rcases hx with hk|hk
 ·refine wpAny_storeName_local hk hn (fun h' hn' hs=>?_) hcls
  obtain⟨oL,_,_,hoL,_⟩:=id hn;refine h _ ⟨I.ok,I.os,I.bare,⟨fun b o e n hb hx=>?_,fun b o e n hb hx=>?_,I.base.free,fun b o e hx=>?_,I.base.tups,I.base.frzs,I.base.tbls⟩,⟨_,hn',fun j y v' e1 e2 e3=>?_⟩,fun y c e=>?_,I.free,I.freeC,fun p hp=>?_,tracked ⟨oL,hoL,I.free⟩ hs,by simpa using I.len⟩ ⟨_,hs,.inl rfl⟩
  ·exact (hs.2 b (Nat.ne_of_lt (Nat.lt_of_lt_of_le (Heap.lt_size e) I.ok.above))).trans (I.base.keep b o e n hb hx)
  ·obtain⟨sl,e1⟩:=I.base.slot b o e n hb hx
   exact⟨sl,(hs.2 b (Nat.ne_of_lt (Nat.lt_of_lt_of_le (Heap.lt_size e) I.ok.above))).trans e1⟩
  ·obtain⟨o',e1⟩:=I.base.there b o e hx
   exact⟨o',(hs.2 b (Nat.ne_of_lt (Nat.lt_of_lt_of_le (Heap.lt_size e) I.ok.above))).trans e1⟩
  ·by_cases hj:j=i
   ·subst hj
    rw[hi] at e1;cases e1;rw[List.getElem?_set_self hiσ] at e2;cases e2;exact⟨u,r,.inl ⟨hk,by simp⟩⟩
   ·rw[List.getElem?_set_ne (Ne.symm hj)] at e2
    obtain⟨u',r',q⟩:=hl j y v' e1 e2 e3;refine⟨u',r',?_⟩;rcases q with ⟨k,e⟩|⟨k,c,e,z⟩
    ·refine .inl ⟨k,?_⟩
     have:y≠x:=fun e=>hj (ZZ hN e1 (e ▸ hi));simp[this,e]
    ·exact .inr ⟨k,c,e,z.sameBut hs (cne y c e)⟩
  ·obtain⟨w',z⟩:=I.cell y c e
   exact⟨w',z.sameBut hs (cne y c e)⟩
  ·obtain⟨e,n,ne,nf,d⟩:=I.pin p hp
   exact⟨(hs.2 p.1 ne).trans e,n,ne,nf,d⟩
 ·have hfn:X.fn x=true:=by
   rcases hf with z|z
   ·exact z
   ·rw[z] at hk;cases hk
  obtain⟨c,hc⟩:=I.ok.has x (.inl hk);obtain⟨w',z⟩:=I.cell x c hc;refine wpAny_storeName_cell I.ok.kind hk hc z (fun h' hc' hs=>?_);obtain⟨oc,hoc,hocd⟩:=id z;refine h {s with heap:=h'} ⟨I.ok,I.os,I.bare,⟨fun b o e n hb hx=>?_,fun b o e n hb hx=>?_,I.base.free,fun b o e hx=>?_,I.base.tups,I.base.frzs,I.base.tbls⟩,⟨m,hn.sameBut hs (Ne.symm (cne x c hc)),fun j y v' e1 e2 e3=>?_⟩,fun y c' e=>?_,I.free,I.freeC,fun p hp=>?_,tracked ⟨oc,hoc,I.freeC x c hc⟩ hs,by simpa using I.len⟩ ⟨c,hs,.inr hc⟩
  ·exact (hs.2 b (Nat.ne_of_lt (Nat.lt_of_lt_of_le (Heap.lt_size e) (I.ok.cab x c hfn hc)))).trans (I.base.keep b o e n hb hx)
  ·obtain⟨sl,e1⟩:=I.base.slot b o e n hb hx
   exact⟨sl,(hs.2 b (Nat.ne_of_lt (Nat.lt_of_lt_of_le (Heap.lt_size e) (I.ok.cab x c hfn hc)))).trans e1⟩
  ·obtain⟨o',e1⟩:=I.base.there b o e hx
   exact⟨o',(hs.2 b (Nat.ne_of_lt (Nat.lt_of_lt_of_le (Heap.lt_size e) (I.ok.cab x c hfn hc)))).trans e1⟩
  ·by_cases hj:j=i
   ·subst hj
    rw[hi] at e1;cases e1;rw[List.getElem?_set_self hiσ] at e2;cases e2;exact⟨u,r,.inr ⟨.inl hk,c,hc,hc'⟩⟩
   ·rw[List.getElem?_set_ne (Ne.symm hj)] at e2
    obtain⟨u',r',q⟩:=hl j y v' e1 e2 e3;refine⟨u',r',?_⟩;rcases q with q|⟨k,c',e,z'⟩
    ·exact .inl q
    ·refine .inr ⟨k,c',e,z'.sameBut hs ?_⟩
     rintro rfl;exact hj (ZZ hN e1 (I.ok.inj _ _ _ e hc ▸ hi))
  ·by_cases hcc:c'=c
   ·subst hcc;exact⟨_,hc'⟩
   ·obtain⟨w2,z2⟩:=I.cell y c' e
    exact⟨w2,z2.sameBut hs hcc⟩
  ·obtain⟨e,n,ne,nf,d⟩:=I.pin p hp
   refine⟨(hs.2 p.1 ?_).trans e,n,ne,nf,d⟩;intro q;rw[q,hoc] at e;have q':oc=p.2:=Option.some.inj e;exact d w' (by rw[<- q'];exact hocd)
theorem Z6 (I:Inv X pins σ H s) (hN:X.N.Nodup) (hi:X.N[i]?=some x) (hx:Loc X.env.scope x) (r:RelV v u)
  (h:∀ s',Inv X pins (σ.set i (some v)) H s'->Q () s') (hf:X.fn x=true\/X.env.scope.names.lookup x=some .local:=by first|exact .inl rfl|exact .inr rfl|assumption):wpAny M A (storeName X.env x u) Q E s :=
 Bc I hN hi hx r (fun s' I' _=>h s' I') hf
theorem Inv.call' (I:Inv X pins σ H s) (ho:s'.os=s.os) (u:Un (frs X.stack) ch H H' s.heap s'.heap) (hok:HOk X.prog X.w H' s'.heap) (hg:AllBare s'.gens)
  (hch:∀ b∈ch,(b∈X.ex\/X.s₀.heap.objs.size<=b)/\b≠X.env.locals/\(∀ x c,X.env.cells.lookup x=some c->c≠b)/\∀ p∈X.pn++pins,p.1≠b):Inv X pins σ H' s':=by
 obtain⟨h',g',d',t',o'⟩:=s';have e:o'=s.os:=ho;subst e;exact I.call (g':=g') (t':=t') (d':=d') u hok hg hch
end
abbrev XK:=Value->Option Addr->Hp->Prop
abbrev St:=List (Option V)
abbrev VK:=V->Hp->Prop
abbrev TE:=St->Hp->VK->Prop
abbrev TT:=St->Hp->(Bool->Hp->Prop)->Prop
abbrev TA:=St->Hp->(List V->Hp->Prop)->Prop
structure Ends where
 nx:St->Hp->Prop
 rt:VK
 bk:St->Hp->Prop:=fun _ _=>False
 ct:St->Hp->Prop:=fun _ _=>False
abbrev TS:=Ends->St->Hp->Prop
noncomputable def EP (X:Cx) (pins:List (Addr×Obj)) (σ:St) (Q:VK) (u:Value) (s':Shared):Prop:=∃ v H',Inv X pins σ H' s'/\RelV v u/\Q v H'
noncomputable def TP (X:Cx) (pins:List (Addr×Obj)) (σ:St) (Q:Bool->Hp->Prop) (b:Bool) (s':Shared):Prop:=∃ H',Inv X pins σ H' s'/\Q b H'
noncomputable def AP (X:Cx) (pins:List (Addr×Obj)) (σ:St) (Q:List V->Hp->Prop) (us:List Value) (s':Shared):Prop:=∃ vs H',Inv X pins σ H' s'/\Vals vs us/\Q vs H'
noncomputable def SP (X:Cx) (pins:List (Addr×Obj)) (D:Ends) (f:Flow) (s':Shared):Prop :=
 match f with
 | .next=>∃ σ' H',Inv X pins σ' H' s'/\D.nx σ' H'
 | .brk=>∃ σ' H',Inv X pins σ' H' s'/\D.bk σ' H'
 | .cont=>∃ σ' H',Inv X pins σ' H' s'/\D.ct σ' H'
 | .ret u=>∃ v σ' H',Inv X pins σ' H' s'/\RelV v u/\D.rt v H'
noncomputable def PE (X:Cx) (e:Expr) (t:TE):Prop :=
 ∀ (pins:List (Addr×Obj)) (s:Shared) (σ:St) (H:Hp) (Q:VK),Inv X pins σ H s->t σ H Q->wpAny (model X.prog X.w) X.A (eval e X.env) (EP X pins σ Q) X.xe s
noncomputable def PT (X:Cx) (e:Expr) (t:TT):Prop :=
 ∀ (pins:List (Addr×Obj)) (s:Shared) (σ:St) (H:Hp) (Q:Bool->Hp->Prop),Inv X pins σ H s->t σ H Q->wpAny (model X.prog X.w) X.A (isTrue e X.env (eval e X.env)) (TP X pins σ Q) X.xe s
noncomputable def PW (X:Cx) (e:Expr) (t:TT):Prop :=
 ∀ (whole:Sem Value) (pins:List (Addr×Obj)) (s:Shared) (σ:St) (H:Hp) (Q:Bool->Hp->Prop),Inv X pins σ H s->t σ H Q->wpAny (model X.prog X.w) X.A (isTrue e X.env whole) (TP X pins σ Q) X.xe s
theorem PW.pt (h:PW X e t):PT X e t:=h _
noncomputable def PA (X:Cx) (es:List Expr) (t:TA):Prop :=
 ∀ (pos:Pos) (pins:List (Addr×Obj)) (s:Shared) (σ:St) (H:Hp) (Q:List V->Hp->Prop),Inv X pins σ H s->t σ H Q->wpAny (model X.prog X.w) X.A (spliced (backTo pos (starEach es X.env))) (AP X pins σ Q) X.xe s
noncomputable def PS (X:Cx) (st:Stmt) (t:TS):Prop :=
 ∀ (pins:List (Addr×Obj)) (s:Shared) (σ:St) (H:Hp) (D:Ends),Inv X pins σ H s->t D σ H->wpAny (model X.prog X.w) X.A (exec st X.env) (SP X pins D) X.xe s
noncomputable def PSs (X:Cx) (st:List Stmt) (t:TS):Prop :=
 ∀ (pins:List (Addr×Obj)) (s:Shared) (σ:St) (H:Hp) (D:Ends),Inv X pins σ H s->t D σ H->wpAny (model X.prog X.w) X.A (execs st X.env) (SP X pins D) X.xe s
theorem thn (h:wpAny M A t Q E s) (hQ:∀ a s,Q a s->Q' a s):wpAny M A t Q' E s:=wpAny_mono h hQ fun _ _ x=>x
end L2
namespace L2
open PySem PySem.Spec PyProof.Rows
section
variable {X:Cx}
theorem bin {a b:Expr} {ta tb:TE} (ha:PE X a ta) (hb:PE X b tb) {pins:List (Addr×Obj)} {s:Shared} {σ:St} {H:Hp} {R:V->V->Hp->Prop} (I:Inv X pins σ H s) (h:ta σ H fun x H1=>tb σ H1 fun y H2=>R x y H2)
  {α:Type} {Q:α->Shared->Prop} {f:Value->Value->Sem α}
  (hf:∀ v u s2 x y H2,Inv X pins σ H2 s2->RelV x v->RelV y u->R x y H2->wpAny (model X.prog X.w) X.A (f v u) Q X.xe s2) :
  wpAny (model X.prog X.w) X.A (eval a X.env) (fun v s₁=>wpAny (model X.prog X.w) X.A (eval b X.env) (fun u s₂=>wpAny (model X.prog X.w) X.A (f v u) Q X.xe s₂) X.xe s₁) X.xe s:=by
 refine thn (ha pins s σ H _ I h) fun v s1 hq2=>?_;obtain⟨x,H1,I1,r1,q1⟩:=hq2;refine thn (hb pins s1 σ H1 _ I1 q1) fun u s2 hq2=>?_;obtain⟨y,H2,I2,r2,q2⟩:=hq2;exact hf v u s2 x y H2 I2 r1 r2 q2
noncomputable def tVar (i:Nat):TE:=fun σ H Q=>∃ v,σ[i]?=some (some v)/\Q v H
noncomputable def tC (v:V):TE:=fun _ H Q=>Q v H
theorem CK (hN:X.N[i]?=some x) (hv:Vis X.env.scope x) (hd:(x==("__debug__":Str))=false:=by decide) (hcd:(x==("__classdict__":Str))=false:=by decide):PE X (.Name x pos) (tVar i):=by
 intro pins s σ H Q I h;obtain⟨v,e,h⟩:=h;obtain⟨m,hn,hl⟩:=I.loc;obtain⟨u,r,l⟩:=hl i x v hN e hv;have fin:EP X pins σ Q u s:=⟨v,H,I,r,h⟩;rcases l with ⟨hk,hm⟩|⟨hk,c,hc,hcell⟩
 ·exact wpAny_Name (wpAny_loadName_local I.ok.kind hk hn hm fin) hd
 ·rcases hk with hk|hk
  ·exact wpAny_Name (wpAny_loadName_cell I.ok.kind hk hc hcell fin) hd
  ·exact wpAny_Name (wpAny_loadName_free I.ok.kind hk hc hcell fin hcd) hd
theorem Hb {i j pos}:PE X (.Constant (.int i) j pos) (tC (.int i)):=fun _ _ _ H _ I h=>wpAny_Constant_int ⟨.int i,H,I.tok _,⟨_,rfl⟩,h⟩
theorem IP {b j pos}:PE X (.Constant (.bool b) j pos) (tC (.bl b)):=fun _ _ _ H _ I h=>Constant_bool ⟨.bl b,H,I,rfl,h⟩
theorem GZ {j pos}:PE X (.Constant .none j pos) (tC .non):=fun _ _ _ H _ I h=>Constant_none ⟨.non,H,I,rfl,h⟩
theorem GW {x j pos}:PE X (.Constant (.str x) j pos) (tC (.str x)):=fun _ _ _ H _ I h=>Calls.Constant_str ⟨.str x,H,I.tok _,⟨_,rfl⟩,h⟩
noncomputable def Gl (X:Cx) (x:Str):Prop:=X.env.kindOf x=some .globalImplicit
theorem V6 (I:Inv X pins σ H s) (hg:Gl X x) (hm:X.mg x=some u) (h:Q u s)
  (hd:(x==("__debug__":Str))=false:=by decide):wpAny (model X.prog X.w) X.A (eval (.Name x pos) X.env) Q E s :=
 Calls.Name_function_global I.ok.kind hg (Calls.loadGlobal_global (by rw[I.ok.glob];exact I.mod.glob.keeps I.bk) hm h) hd
theorem ZS (I:Inv X pins σ H s) (hg:Gl X x) (hm:X.mg x=none) (hv:bootBuiltins x=some u) (h:Q u s)
  (hn:x≠"__name__":=by decide) (hd:(x==("__debug__":Str))=false:=by decide):wpAny (model X.prog X.w) X.A (eval (.Name x pos) X.env) Q E s:=by
 obtain⟨mb,h1,h2⟩:=I.mod.blt;exact Calls.Name_function_global I.ok.kind hg (Calls.loadGlobal_builtin (by rw[I.ok.glob];exact I.mod.glob.keeps I.bk) hm (by rw[I.ok.blt];exact h1.keeps I.bk) ((h2 x hn).trans hv) h) hd
theorem ES (hg:Gl X x) (hm:X.mg x=some u) (r:RelV v u) (hd:(x==("__debug__":Str))=false:=by decide):PE X (.Name x pos) (tC v) :=
 fun _ _ _ H _ I h=>V6 I hg hm ⟨v,H,I,r,h⟩ hd
theorem EU (hg:Gl X x) (hm:X.mg x=none) (hv:bootBuiltins x=some u) (r:RelV v u) (hn:x≠"__name__":=by decide) (hd:(x==("__debug__":Str))=false:=by decide):PE X (.Name x pos) (tC v) :=
 fun _ _ _ H _ I h=>ZS I hg hm hv ⟨v,H,I,r,h⟩ hn hd
variable {a b:Expr} {ta tb:TE} {pos:Pos}
noncomputable def tB (t:TE):TT:=fun σ H Q=>t σ H fun x H1=>∃ c,x=.bl c/\Q c H1
variable {tA tB':TT} {rest:List Expr}
noncomputable def tAnd (t u:TT):TT:=fun σ H Q=>t σ H fun c H1=>if c=true then u σ H1 Q else Q false H1
noncomputable def tOr (t u:TT):TT:=fun σ H Q=>t σ H fun c H1=>if c=true then Q true H1 else u σ H1 Q
noncomputable def tNot (t:TT):TT:=fun σ H Q=>t σ H fun c H1=>Q (!c) H1
theorem EJ (ha:PT X a tA):PW X (.BoolOp .And [a] pos) tA:=by
 intro wh pins s σ H Q I h;refine isTrue_and (thn (ha pins s σ H Q I h) fun c s1 e=>?_);cases c with
 | true=>exact isTrue_and_nil e
 | false=>exact e
theorem GI (ha:PT X a tA):PW X (.BoolOp .Or [a] pos) tA:=by
 intro wh pins s σ H Q I h;refine isTrue_or (thn (ha pins s σ H Q I h) fun c s1 e=>?_);cases c with
 | false=>exact isTrue_or_nil e
 | true=>exact e
theorem GJ (ha:PT X a tA) (hb:PW X (.BoolOp .And (b::rest) pos) tB'):PW X (.BoolOp .And (a::b::rest) pos) (tAnd tA tB'):=by
 intro wh pins s σ H Q I h;refine isTrue_and (thn (ha pins s σ H _ I h) fun c s1 hq2=>?_);obtain⟨H1,I1,q1⟩:=hq2;cases c with
 | true=>exact hb wh pins s1 σ H1 Q I1 q1
 | false=>exact⟨H1,I1,q1⟩
theorem IJ (ha:PT X a tA) (hb:PW X (.BoolOp .Or (b::rest) pos) tB'):PW X (.BoolOp .Or (a::b::rest) pos) (tOr tA tB'):=by
 intro wh pins s σ H Q I h;refine isTrue_or (thn (ha pins s σ H _ I h) fun c s1 hq2=>?_);obtain⟨H1,I1,q1⟩:=hq2;cases c with
 | true=>exact⟨H1,I1,q1⟩
 | false=>exact hb wh pins s1 σ H1 Q I1 q1
theorem GK (ha:PT X a tA):PT X (.UnaryOp .Not a pos) (tNot tA):=by
 intro pins s σ H Q I h;exact isTrue_not (ha pins s σ H (fun c H1=>Q (!c) H1) I h)
noncomputable def ID (ta tb:TE):TE:=fun σ H Q=>ta σ H fun x H1=>∃ c,x=.bl c/\if c=true then tb σ H1 Q else Q (.bl false) H1
noncomputable def tOrV (ta tb:TE):TE:=fun σ H Q=>ta σ H fun x H1=>∃ c,x=.bl c/\if c=true then Q (.bl true) H1 else tb σ H1 Q
noncomputable def Iy (ta:TE):TE:=fun σ H Q=>ta σ H fun x H1=>∃ c,x=.bl c/\Q (.bl (!c)) H1
theorem GX {op} (h:PE X a t):PE X (.BoolOp op [a] pos) t:=fun pins s σ H Q I hw=>BoolOp_one (h pins s σ H Q I hw)
theorem Hc (ha:PE X a ta) (hb:PE X (.BoolOp .And (b::rest) pos) tb):PE X (.BoolOp .And (a::b::rest) pos) (ID ta tb):=by
 intro pins s σ H Q I h;refine BoolOp_and (thn (ha pins s σ H _ I h) fun v s1 hq2=>?_);obtain⟨x,H1,I1,r1,q1⟩:=hq2;obtain⟨c,rfl,q1⟩:=q1;cases r1;refine wpAny_truthy_bool ?_;cases c with
 | true=>exact hb pins s1 σ H1 Q I1 q1
 | false=>exact⟨.bl false,H1,I1,rfl,q1⟩
theorem IM (ha:PE X a ta) (hb:PE X (.BoolOp .Or (b::rest) pos) tb):PE X (.BoolOp .Or (a::b::rest) pos) (tOrV ta tb):=by
 intro pins s σ H Q I h;refine BoolOp_or (thn (ha pins s σ H _ I h) fun v s1 hq2=>?_);obtain⟨x,H1,I1,r1,q1⟩:=hq2;obtain⟨c,rfl,q1⟩:=q1;cases r1;refine wpAny_truthy_bool ?_;cases c with
 | false=>exact hb pins s1 σ H1 Q I1 q1
 | true=>exact⟨.bl true,H1,I1,rfl,q1⟩
theorem GY (ha:PE X a ta):PE X (.UnaryOp .Not a pos) (Iy ta):=by
 intro pins s σ H Q I h;refine UnaryOp_ (thn (ha pins s σ H _ I h) fun v s1 hq2=>?_);obtain⟨x,H1,I1,r1,q1⟩:=hq2;obtain⟨c,rfl,q1⟩:=q1;cases r1;exact not_of (wpAny_truthy_bool ⟨.bl (!c),H1,I1,rfl,q1⟩)
noncomputable def tIf (t:TT) (ta tb:TE):TE:=fun σ H Q=>t σ H fun c H1=>if c=true then ta σ H1 Q else tb σ H1 Q
theorem CM (hc:PT X c tA) (ha:PE X a ta) (hb:PE X b tb):PE X (.IfExp c a b pos) (tIf tA ta tb):=by
 intro pins s σ H Q I h;refine wpAny_IfExp (thn (hc pins s σ H _ I h) fun d s1 hq2=>?_);obtain⟨H1,I1,q1⟩:=hq2;cases d with
 | true=>exact ha pins s1 σ H1 Q I1 q1
 | false=>exact hb pins s1 σ H1 Q I1 q1
end
end L2
namespace L2
open PySem PySem.Spec PyProof.Rows
noncomputable def SqL (K:Frag) (H:Hp) (a:Addr) (xs:List V):Prop :=
 Rd H a (.lst xs) \/
  ∃ (o:Obj) (its:Array Value) (n:Nat),K.lookup a=some o/\o.cls=.type "list"/\o.dict=none/\o.data=.seq its n/\its.size<=sizeLine/\Vals xs its.toList
noncomputable def SqT (K:Frag) (H:Hp) (a:Addr) (xs:List V):Prop :=
 Rd H a (.tup xs) \/
  ∃ (o:Obj) (its:Array Value) (n:Nat),K.lookup a=some o/\o.cls=.type "tuple"/\o.data=.seq its n/\its.size<=sizeLine/\Vals xs its.toList
noncomputable def absV:Value->Option V
 | .none=>some .non
 | .bool b=>some (.bl b)
 | .int i _=>some (.int i)
 | .str x _=>some (.str x)
 | .bytes b _=>some (.byt b)
 | .float b _=>some (.flt b)
 | .ref a=>some (.ref a)
 | .type n=>some (.ty n)
 | _=>none
theorem RelV.abs (r:RelV x u):absV u=some x:=by
 cases x with
 | non=>cases r;rfl
 | bl _=>cases r;rfl
 | int _=>obtain⟨t,rfl⟩:=r;rfl
 | str _=>obtain⟨t,rfl⟩:=r;rfl
 | byt _=>obtain⟨t,rfl⟩:=r;rfl
 | flt _=>obtain⟨t,rfl⟩:=r;rfl
 | ref _=>cases r;rfl
 | ty _=>cases r;rfl
theorem RelV.inj (r:RelV x u) (q:RelV y u):x=y:=Option.some.inj (r.abs.symm.trans q.abs)
theorem Vals.inj:∀ {xs ys:List V} {us:List Value},Vals xs us->Vals ys us->xs=ys
 | _,_,_,.nil,.nil=>rfl
 | _,_,_,.cons r t,.cons r' t'=>by rw[r.inj r',Vals.inj t t']
section
variable {X:Cx} {pins:List (Addr×Obj)} {σ:St} {H:Hp} {s:Shared} {a:Addr} {xs ys:List V}
theorem SqL.of {K:Frag} (h:H a=some (.lst xs)):SqL K H a xs:=.inl (.inl h)
theorem SqT.of {K:Frag} (h:H a=some (.tup xs)):SqT K H a xs:=.inl (.inl h)
theorem Inv.list (I:Inv X pins σ H s) (h:SqL X.K H a xs):∃ its:List Value,Vals xs its/\PlainL s.heap a its.toArray/\xs.length<=sizeLine:=by
 rcases h with h|⟨o,its,n,hk,hc,hd,hs,hz,r⟩
 ·obtain⟨z,its,n,r,e⟩:=h.ok I.hok
  exact⟨its,r,⟨_,n,e,rfl,rfl,rfl⟩,z⟩
 ·refine⟨its.toList,r,⟨o,n,I.kIn a o hk,hc,hd,by simpa using hs⟩,?_⟩
  have e:=r.length;simp only[Array.length_toList] at e;omega
theorem Inv.tuple (I:Inv X pins σ H s) (h:SqT X.K H a xs):∃ its:List Value,Vals xs its/\IsTup s.heap a its.toArray/\xs.length<=sizeLine:=by
 rcases h with h|⟨o,its,n,hk,hc,hs,hz,r⟩
 ·obtain⟨z,its,r,p⟩:=h.ok I.hok
  exact⟨its,r,p,z⟩
 ·refine⟨its.toList,r,⟨o,I.kIn a o hk,hc,n,by simpa using hs⟩,?_⟩
  have e:=r.length;simp only[Array.length_toList] at e;omega
theorem Inv.list_inj (I:Inv X pins σ H s) (h:SqL X.K H a xs) (h':SqL X.K H a ys):xs=ys:=by
 obtain⟨its,r,⟨o,n,e,_,_,d⟩,_⟩:=I.list h;obtain⟨its',r',⟨o',n',e',_,_,d'⟩,_⟩:=I.list h';rw[e] at e';cases e';rw[d] at d';injection d' with d1 _
 have:its=its':=by simpa using congrArg Array.toList d1
 subst this;exact r.inj r'
theorem Inv.tuple_inj (I:Inv X pins σ H s) (h:SqT X.K H a xs) (h':SqT X.K H a ys):xs=ys:=by
 obtain⟨its,r,⟨o,e,_,n,d⟩,_⟩:=I.tuple h;obtain⟨its',r',⟨o',e',_,n',d'⟩,_⟩:=I.tuple h';rw[e] at e';cases e';rw[d] at d';injection d' with d1 _
 have:its=its':=by simpa using congrArg Array.toList d1
 subst this;exact r.inj r'
end
abbrev Cx.wish (X:Cx) (E:Value->Shared->Prop):Cx:={X with xe:=E}
abbrev Cx.nox (X:Cx):Cx:=X.wish fun _ _=>False
theorem Cx.Ok.wish {X:Cx} (ok:X.Ok) (E:Value->Shared->Prop):(X.wish E).Ok :=
 ⟨ok.mod,ok.kind,ok.glob,ok.blt,ok.above,ok.inj,ok.has,ok.cab,ok.hd,ok.frames,ok.stk,ok.exf,ok.bs,ok.bsz,ok.noex,ok.exfs,ok.funs,ok.frf⟩
theorem Cx.Ok.unwish {X:Cx} {E:Value->Shared->Prop} (ok:(X.wish E).Ok):X.Ok :=
 ⟨ok.mod,ok.kind,ok.glob,ok.blt,ok.above,ok.inj,ok.has,ok.cab,ok.hd,ok.frames,ok.stk,ok.exf,ok.bs,ok.bsz,ok.noex,ok.exfs,ok.funs,ok.frf⟩
section
variable {X:Cx} {pins:List (Addr×Obj)} {σ:St} {H:Hp} {s:Shared} {E:Value->Shared->Prop}
theorem Inv.wish (I:Inv X pins σ H s) (E:Value->Shared->Prop):Inv (X.wish E) pins σ H s:=⟨I.ok.wish E,I.os,I.bare,I.base,I.loc,I.cell,I.free,I.freeC,I.pin,I.hok,I.len⟩
theorem Inv.unwish (I:Inv (X.wish E) pins σ H s):Inv X pins σ H s:=⟨I.ok.unwish,I.os,I.bare,I.base,I.loc,I.cell,I.free,I.freeC,I.pin,I.hok,I.len⟩
theorem SP.unwish (h:SP (X.wish E) pins D f s'):SP X pins D f s':=by
 cases f with
 | next=>obtain⟨σ',H',I,q⟩:=h;exact⟨σ',H',I.unwish,q⟩
 | brk=>obtain⟨σ',H',I,q⟩:=h;exact⟨σ',H',I.unwish,q⟩
 | cont=>obtain⟨σ',H',I,q⟩:=h;exact⟨σ',H',I.unwish,q⟩
 | ret u=>obtain⟨v,σ',H',I,r,q⟩:=h;exact⟨v,σ',H',I.unwish,r,q⟩
theorem PSs.nox {st:List Stmt} {t:TS} (h:PSs X.nox st t):PSs X st t:=fun pins s σ H D I hw =>
 wpAny_mono (h pins s σ H D (I.wish _) hw) (fun _ _ q=>q.unwish) fun _ _ z=>False.elim z
end
section
variable {X:Cx} {st:Stmt} {rest:List Stmt} {t u:TS} {e:Expr} {te:TE} {pos:Pos}
noncomputable def Iz:TS:=fun D σ H=>D.nx σ H
noncomputable def tSeq (t u:TS):TS:=fun D σ H=>t {D with nx:=u D} σ H
theorem pss_nil:PSs X [] Iz:=fun _ _ σ H _ I h=>wpAny_execs_nil ⟨σ,H,I,h⟩
theorem Cz (h1:PS X st t) (h2:PSs X rest u):PSs X (st::rest) (tSeq t u):=by
 intro pins s σ H D I h;refine wpAny_execs_cons (thn (h1 pins s σ H {D with nx:=u D} I h) fun f s1 q=>?_);cases f with
 | next =>
  obtain⟨σ',H',I',q⟩:=q;exact h2 pins s1 σ' H' D I' q
 | ret v=>exact q
 | brk=>exact q
 | cont=>exact q
theorem Inv.quiet (I:Inv X pins σ H s):interactive X.env=false:=by simp[interactive,I.ok.kind]
noncomputable def IA (te:TE):TS:=fun D σ H=>te σ H fun _ H1=>D.nx σ H1
theorem EM (he:PE X e te) (hs:swapsWith e none pos.line X.env=pure false:=by rfl):PS X (.Expr e pos) (IA te):=by
 intro pins s σ H D I h;exact wpAny_Expr_any (thn (he pins s σ H _ I h) (by rintro v s1 ⟨x,H1,I1,r1,q1⟩;exact⟨σ,H1,I1,q1⟩)) I.quiet hs
noncomputable def tRet (te:TE):TS:=fun D σ H=>te σ H D.rt
theorem GM (he:PE X e te):PS X (.Return (some e) pos) (tRet te):=by
 intro pins s σ H D I h;exact wpAny_Return_some (thn (he pins s σ H _ I h) (by rintro v s1 ⟨x,H1,I1,r1,q1⟩;exact⟨x,σ,H1,I1,r1,q1⟩))
noncomputable def tIfS (c:TT) (t u:TS):TS:=fun D σ H=>c σ H fun b H1=>if b=true then t D σ H1 else u D σ H1
theorem IK (hc:PT X c tc) (ha:PSs X a t) (hb:PSs X b u):PS X (.If c a b pos) (tIfS tc t u):=by
 intro pins s σ H D I h;refine wpAny_If (thn (hc pins s σ H _ I h) fun d s1 hq2=>?_);obtain⟨H1,I1,q1⟩:=hq2;cases d with
 | true=>exact ha pins s1 σ H1 D I1 q1
 | false=>exact hb pins s1 σ H1 D I1 q1
noncomputable def GB:TS:=fun _ _ _=>False
theorem ps_never:PS X st GB:=fun _ _ _ _ _ _ h=>h.elim
end
abbrev TG:=V->St->Hp->(St->Hp->Prop)->Prop
abbrev TGs:=List V->St->Hp->(St->Hp->Prop)->Prop
noncomputable def PG (X:Cx) (target:Expr) (t:TG):Prop :=
 ∀ (pins:List (Addr×Obj)) (s:Shared) (σ:St) (H:Hp) (v:V) (u:Value) (Q:St->Hp->Prop),Inv X pins σ H s->RelV v u->t v σ H Q ->
  wpAny (model X.prog X.w) X.A (assign target X.env u) (fun _ s'=>∃ σ' H',Inv X pins σ' H' s'/\Q σ' H') X.xe s
noncomputable def PGs (X:Cx) (ts:List Expr) (t:TGs):Prop :=
 ∀ (pins:List (Addr×Obj)) (s:Shared) (σ:St) (H:Hp) (vs:List V) (us:List Value) (Q:St->Hp->Prop),Inv X pins σ H s->Vals vs us->t vs σ H Q ->
  wpAny (model X.prog X.w) X.A (assignInOrder ((assignEach ts X.env).map (·.2)) us) (fun _ s'=>∃ σ' H',Inv X pins σ' H' s'/\Q σ' H') X.xe s
abbrev TSet:=V->V->V->Hp->(Hp->Prop)->Prop
noncomputable def PSet (X:Cx) (t:TSet):Prop :=
 ∀ (pins:List (Addr×Obj)) (s:Shared) (σ:St) (H:Hp) (o i v:V) (ov iv u:Value) (Q:Hp->Prop),Inv X pins σ H s->RelV o ov->RelV i iv->RelV v u->t o i v H Q ->
  wpAny (model X.prog X.w) X.A (setItem ov iv u) (fun _ s'=>∃ H',Inv X pins σ H' s'/\Q H') X.xe s
abbrev TIp:=V->V->Hp->VK->Prop
noncomputable def PIp (X:Cx) (op:Operator) (t:TIp):Prop :=
 ∀ (pins:List (Addr×Obj)) (s:Shared) (σ:St) (H:Hp) (x y:V) (v u:Value) (Q:VK),Inv X pins σ H s->RelV x v->RelV y u->t x y H Q ->
  wpAny (model X.prog X.w) X.A (inplaceOp op v u) (EP X pins σ Q) X.xe s
section
variable {X:Cx} {pos:Pos}
noncomputable def Gi (i:Nat):TG:=fun v σ H Q=>Q (σ.set i (some v)) H
theorem EQ (hN:X.N.Nodup) (hi:X.N[i]?=some x) (hx:Loc X.env.scope x) (hf:X.fn x=true\/X.env.scope.names.lookup x=some .local:=by first|exact .inl rfl|exact .inr rfl|assumption):PG X (.Name x pos) (Gi i):=by
 intro pins s σ H v u Q I r h;exact wpAny_assign_Name (Z6 I hN hi hx r (fun s' I'=>⟨_,H,I',h⟩) hf)
noncomputable def gNil:TGs:=fun vs σ H Q=>vs=[]/\Q σ H
noncomputable def Yb (t:TG) (u:TGs):TGs:=fun vs σ H Q=>∃ v r,vs=v::r/\t v σ H fun σ' H'=>u r σ' H' Q
theorem pgs_nil:PGs X [] gNil:=by
 intro pins s σ H vs us Q I r h;obtain⟨e,h⟩:=h;subst e;cases r;exact assignInOrder_nil ⟨σ,H,I,h⟩
theorem CJ (h1:PG X e t) (h2:PGs X es u)
  (hs:(assignEach (e::es) X.env).map (·.2)=assign e X.env::(assignEach es X.env).map (·.2):=by rfl):PGs X (e::es) (Yb t u):=by
 intro pins s σ H vs us Q I r h;obtain⟨v,vr,e1,h⟩:=h;subst e1;cases r with
 | cons r rr =>
  rw[hs];refine assignInOrder_cons (thn (h1 pins s σ H _ _ _ I r h) fun _ s1 hq2=>?_);obtain⟨σ1,H1,I1,q1⟩:=hq2;exact h2 pins s1 σ1 H1 _ _ Q I1 rr q1
noncomputable def gTup (K:Frag) (n:Nat) (t:TGs):TG:=fun v σ H Q=>∃ a xs,v=.ref a/\SqT K H a xs/\xs.length=n/\t xs σ H Q
theorem GT (hc:X.calm=true) (h:PGs X es t)
  (hn:(assignEach es X.env).length=n:=by rfl) (hst:(assignEach es X.env).findIdx? (·.1)=none:=by rfl):PG X (.Tuple es k pos) (gTup X.K n t):=by
 intro pins s σ H v u Q I r hw;obtain⟨a,xs,e1,hq,hl,hw⟩:=hw;subst e1;cases r;obtain⟨its,rv,ht,hz⟩:=I.tuple hq;refine assign_Tuple_tuple (I.ok.hd hc) ht (by simp[hn,<- hl,rv.length]) hst fun h' hx=>?_;have I1:Inv X pins σ H {s with heap:=h'}:=I.kept (t':=s.toks) fun b o e=>hx b o (Nat.ne_of_lt (Heap.lt_size e)) e;exact h pins _ σ H xs _ Q I1 (by simpa using rv) hw
noncomputable def gSub (to ti:TE) (t:TSet):TG:=fun v σ H Q=>to σ H fun o H1=>ti σ H1 fun i H2=>t o i v H2 fun H3=>Q σ H3
theorem GU (ho:PE X o to) (hi:PE X i ti) (hs:PSet X t)
  (ha:∀ v,assign (.Subscript o i pos) X.env v=(do
   let ov <- holding [v] (eval o X.env)
   let iv <- holding [v,ov] (eval i X.env)
   standAt pos
   holding [v,ov,iv] (setItem ov iv v)
   release [v,ov,iv] []):=by intro _;rfl):PG X (.Subscript o i pos) (gSub to ti t):=by
 intro pins s σ H v u Q I r h;rw[ha];refine wpAny_bind (wpAny_holding (thn (ho pins s σ H _ I h) fun ov s1 hq2=>?_));obtain⟨x,H1,I1,r1,q1⟩:=hq2;refine wpAny_bind (wpAny_holding (thn (hi pins s1 σ H1 _ I1 q1) fun iv s2 hq2=>?_));obtain⟨y,H2,I2,r2,q2⟩:=hq2;refine wpAny_bind (wpAny_standAt (wpAny_bind (wpAny_holding (thn (hs pins s2 σ H2 x y v ov iv u _ I2 r1 r2 r q2) fun _ s3 hq2=>?_))));obtain⟨H3,I3,q3⟩:=hq2;exact wpAny_release ⟨σ,H3,I3,q3⟩
noncomputable def tAsg (te:TE) (g:TG):TS:=fun D σ H=>te σ H fun x H1=>g x σ H1 D.nx
theorem GQ (he:PE X e te) (hg:PG X tg g) (hs:swapsWithSole [tg] e pos.line X.env=pure false:=by rfl) (hw:swappedStores [tg] e X.env=pure none:=by rfl)
  (h1:(assignEach [tg] X.env).map (·.2)=[assign tg X.env]:=by rfl):PS X (.Assign [tg] e pos) (tAsg te g):=by
 intro pins s σ H D I h;refine wpAny_Assign_stores (thn (he pins s σ H _ I h) fun v s1 hq2=>?_) hs hw;obtain⟨x,H1,I1,r1,q1⟩:=hq2;rw[h1];exact thn (hg pins s1 σ H1 x v _ I1 r1 q1) fun _ s2 q=>q
theorem GL (hN:X.N.Nodup) (hi:X.N[i]?=some x) (hx:Loc X.env.scope x) (he:PE X e te) (hs:swapsWith e (some (.Name x pos')) pos.line X.env=pure false:=by rfl) (hf:X.fn x=true\/X.env.scope.names.lookup x=some .local:=by first|exact .inl rfl|exact .inr rfl|assumption) :
  PS X (.Assign [.Name x pos'] e pos) (tAsg te (Gi i)):=by
 intro pins s σ H D I h;refine wpAny_Assign_Name (thn (he pins s σ H _ I h) fun v s1 hq2=>?_) hs;obtain⟨y,H1,I1,r1,q1⟩:=hq2;exact Z6 I1 hN hi hx r1 (fun s2 I2=>⟨_,H1,I2,q1⟩) hf
noncomputable def tPar (i j:Nat) (ta:TA):TS:=fun D σ H=>ta σ H fun vs H1=>∃ v w,vs=[v,w]/\D.nx ((σ.set i (some v)).set j (some w)) H1
theorem GN {kt k2 pt2} (hc:X.calm=true) (hN:X.N.Nodup) (hi:X.N[i]?=some x) (hj:X.N[j]?=some y) (hij:i≠j)
  (hx:X.env.scope.names.lookup x=some .local) (hy:X.env.scope.names.lookup y=some .local) (ha:PA X [a,b] ta)
  (hw:swappedStores [.Tuple [.Name x px,.Name y py] kt pt] (.Tuple [a,b] k2 pt2) X.env=pure (some [x,y]))
  (hs:swapsWithSole [.Tuple [.Name x px,.Name y py] kt pt] (.Tuple [a,b] k2 pt2) pos.line X.env=pure false:=by rfl) :
  PS X (.Assign [.Tuple [.Name x px,.Name y py] kt pt] (.Tuple [a,b] k2 pt2) pos) (tPar i j ta):=by
 intro pins s σ H D I h;rw[exec_Assign_arm];refine wpAny_bind (wpAny_standAt ?_);rw[hs];refine wpAny_bind (wpAny_pure ?_);rw[if_neg %[|4]];refine wpAny_bind (Tuple_ (thn (ha _ pins s σ H _ I h) fun us s1 hq2=>?_));obtain⟨vs,H1,I1,r1,q1⟩:=hq2;obtain⟨v,w,e1,q1⟩:=q1;subst e1;obtain⟨u1,u2,rfl,rv,rw'⟩:∃ u1 u2,us=[u1,u2]/\RelV v u1/\RelV w u2:=by
  cases r1 with
  | cons p q =>
   cases q with
   | cons p' q' =>
    cases q';exact⟨_,_,rfl,p,p'⟩
 refine wpAny_newObj_type ?_ (by show 2<=sizeLine;decide);have I2:Inv X pins σ H1 {s1 with heap:=s1.heap.push {cls:=.type "tuple",data:=.seq [u1,u2].toArray}}:=I1.kept (t':=s1.toks) fun b o e=>Heap.get?_push_of_some _ e;rw[hw];refine wpAny_bind (wpAny_pure ?_);show wpAny (model X.prog X.w) X.A (do rule "assign.swapped-stores";let items <- unpackItems (.ref s1.heap.objs.size) 2 none;assignInOrder [fun v=>bindName X.env y v,fun v=>bindName X.env x v] items.reverse;pure Flow.next) _ _ _;refine wpAny_bind (wpAny_rule (wpAny_bind (unpackItems_tuple (items:=#[u1,u2]) (I.ok.hd hc) (IsTup.new s1.heap _) fun h' hx'=>?_)));have I3:=I2.kept (h':=h') (t':=s1.toks) fun b o e=>hx' b o (Nat.ne_of_lt (Heap.lt_size e)) e;show wpAny _ _ (assignInOrder [fun v=>bindName X.env y v,fun v=>bindName X.env x v] [u2,u1] >>= fun _=>pure Flow.next) _ _ _;refine wpAny_bind (assignInOrder_cons (wpAny_bindName (Z6 I3 hN hj (.inl hy) rw' (fun s2 I4=>?_) (.inr hy))))
 refine assignInOrder_cons (wpAny_bindName (Z6 I4 hN hi (.inl hx) rv (fun s3 I5=>assignInOrder_nil (wpAny_pure ?_)) (.inr hx)));rw[List.set_comm _ _ (Ne.symm hij)] at I5;exact⟨_,H1,I5,q1⟩
noncomputable def tAug (i:Nat) (te:TE) (ti:TIp):TS:=fun D σ H=>∃ x,σ[i]?=some (some x)/\te σ H fun y H1=>ti x y H1 fun z H2=>D.nx (σ.set i (some z)) H2
theorem GP (hN:X.N.Nodup) (hi:X.N[i]?=some x) (hx:Loc X.env.scope x) (he:PE X e te) (ho:PIp X op ti) (hf:X.fn x=true\/X.env.scope.names.lookup x=some .local:=by first|exact .inl rfl|exact .inr rfl|assumption) :
  PS X (.AugAssign (.Name x pos') op e pos) (tAug i te ti):=by
 intro pins s σ H D I h;obtain⟨v,e1,h⟩:=h;obtain⟨m,hn,hl⟩:=I.loc;have vis:Vis X.env.scope x:=by rcases hx with k|k;exact .inl k;exact .inr (.inl k)
 obtain⟨u,r,l⟩:=hl i x v hi e1 vis;refine wpAny_AugAssign_Name ?_;have go:wpAny (model X.prog X.w) X.A (eval e X.env) (fun w s₂=>wpAny (model X.prog X.w) X.A (inplaceOp op u w) (fun r s₃=>wpAny (model X.prog X.w) X.A (storeName X.env x r) (fun _=>SP X pins D .next) X.xe s₃) X.xe s₂) X.xe s:=by
  refine thn (he pins s σ H _ I h) fun w s1 hq2=>?_;obtain⟨y,H1,I1,r1,q1⟩:=hq2;refine thn (ho pins s1 σ H1 v y u w _ I1 r r1 q1) fun z s2 hq2=>?_;obtain⟨zv,H2,I2,r2,q2⟩:=hq2;exact Z6 I2 hN hi hx r2 (fun s3 I3=>⟨_,H2,I3,q2⟩) hf
 rcases l with ⟨hk,hm⟩|⟨hk,c,hc,hcell⟩
 ·exact wpAny_loadName_local I.ok.kind hk hn hm go
 ·rcases hk with hk|hk
  ·exact wpAny_loadName_cell I.ok.kind hk hc hcell go
  ·rcases hx with k|k
   ·have:X.env.scope.names.lookup x=some .free:=hk
    rw[k] at this;cases this
   ·have:X.env.scope.names.lookup x=some .free:=hk
    rw[k] at this;cases this
noncomputable def ipI (f:Int->Int->Int):TIp:=fun x y H Q=>∃ i j,x=.int i/\y=.int j/\Q (.int (f i j)) H
theorem HB:PIp X .Add (ipI fun i j=>i+j):=by
 intro pins s σ H x y v u Q I r1 r2 h;obtain⟨i,j,e1,e2,q⟩:=h;subst e1;subst e2;obtain⟨t,rfl⟩:=r1;obtain⟨t',rfl⟩:=r2;exact iadd_int ⟨.int _,H,I.tok _,⟨_,rfl⟩,q⟩
theorem HA:PIp X .Sub (ipI fun i j=>i-j):=by
 intro pins s σ H x y v u Q I r1 r2 h;obtain⟨i,j,e1,e2,q⟩:=h;subst e1;subst e2;obtain⟨t,rfl⟩:=r1;obtain⟨t',rfl⟩:=r2;exact isub_int ⟨.int _,H,I.tok _,⟨_,rfl⟩,q⟩
end
section
variable {X:Cx} {pos:Pos}
noncomputable def GA (c:TT) (tb:TS):TS:=fun D σ H=>∃ W:Nat->St->Hp->Prop,(∃ m,W m σ H)/\∀ m σ H,W m σ H ->
 c σ H fun b H1=>if b=true then ∃ N:St->Hp->Prop,(∀ σ' H',N σ' H'->∃ m',m'<m/\W m' σ' H')/\tb {D with nx:=N,ct:=N,bk:=D.nx} σ H1 else D.nx σ H1
theorem CA (hp:PassesOwn (model X.prog X.w) X.A X.env X.xe) (hc:PT X c tc) (hb:PSs X body tb):PS X (.While c body [] pos) (GA tc tb):=by
 intro pins s σ H D I h;obtain⟨W,⟨m0,w0⟩,turn⟩:=h;refine wpAny_While (codeAny_whileLoop (fun n s'=>∃ σ' H',Inv X pins σ' H' s'/\W n σ' H') ?_ m0 ⟨σ,H,I,w0⟩);rintro n s1 ⟨σ1,H1,I1,w1⟩;refine wpAny_passesOwn hp (thn (hc pins s1 σ1 H1 _ I1 (turn n σ1 H1 w1)) fun b s2 hq2=>?_);obtain⟨H2,I2,q2⟩:=hq2;cases b with
 | true =>
  obtain⟨N,hN,q2⟩:=q2;rw[if_pos rfl];refine wpAny_passesOwn hp (thn (hb pins s2 σ1 H2 _ I2 q2) fun f s3 q3=>?_);cases f with
  | next =>
   obtain⟨σ3,H3,I3,n3⟩:=q3;obtain⟨m',hm,w3⟩:=hN σ3 H3 n3;exact⟨m',hm,σ3,H3,I3,w3⟩
  | cont =>
   obtain⟨σ3,H3,I3,n3⟩:=q3;obtain⟨m',hm,w3⟩:=hN σ3 H3 n3;exact⟨m',hm,σ3,H3,I3,w3⟩
  | brk=>exact q3
  | ret v=>exact q3
 | false =>
  rw[if_neg Bool.false_ne_true];exact wpAny_execs_nil ⟨σ1,H2,I2,q2⟩
end
structure It where
 go:Nat->Hp->Prop
 yld:Nat->Hp->V->Hp->Prop
 stop:Nat->Hp->Prop
noncomputable def FpOk (X:Cx) (pins:List (Addr×Obj)) (H:Hp) (b:Addr):Prop :=
 H b=none/\b≠X.env.locals/\b ∉ X.fs/\(b∈X.ex\/X.s₀.heap.objs.size<=b)/\(∀ x c,X.env.cells.lookup x=some c->c≠b)/\∀ p∈X.pn++pins,p.1≠b
theorem Inv.fpOk (I:Inv X pins σ H s) (hb:s.heap.objs.size<=b) (hn:H' b=none):FpOk X pins H' b:=by
 refine⟨hn,Nat.ne_of_gt (Nat.lt_of_lt_of_le I.lt hb),I.nofs hb,.inr (Nat.le_trans I.sz hb),fun x c e z=>?_,fun p hp z=>?_⟩
 ·obtain⟨v,q⟩:=I.cell x c e
  exact absurd (Nat.lt_of_lt_of_le q.lt (by rw[z];exact hb)) (Nat.lt_irrefl _)
 ·exact absurd (Nat.lt_of_lt_of_le (Heap.lt_size (I.pin p hp).1) (by rw[z];exact hb)) (Nat.lt_irrefl _)
structure Turn (P:Program) (w:World) (K:Frag) (tg:Expr) (J:It) (fp:List Addr) (it:Addr) (tn:Nat->Heap->Prop):Prop where
 mem:it∈fp
 obj:∀ i h,tn i h->∀ b∈fp,∃ o,h.get? b=some o/\∀ v,o.data≠.cell v
 keep:∀ i h h',tn i h->(∀ b∈fp,∀ o,h.get? b=some o->h'.get? b=some o)->tn i h'
 item:∀ (X:Cx),X.prog=P->X.w=w->X.K=K->X.calm=true->∀ (i:Nat) (pins:List (Addr×Obj)) (s:Shared) (σ:St) (H:Hp) (E:Value->Shared->Prop),Inv X pins σ H s->(∀ b∈fp,FpOk X pins H b)->tn i s.heap->J.go i H ->
  wpAny (model P w) X.A (pyNext (.ref it)) (fun r s1=>∃ u,r=some u /\
   wpAny (model P w) X.A (letOwnedTupleGo tg (.ref it) u) (fun _ s2=>∃ x H',Inv X pins σ H' s2/\RelV x u/\J.yld i H x H'/\tn (i+1) s2.heap/\∀ b∈fp,H' b=none) E s1) E s
 done:∀ (X:Cx),X.prog=P->X.w=w->X.K=K->X.calm=true->∀ (i:Nat) (pins:List (Addr×Obj)) (s:Shared) (σ:St) (H:Hp) (E:Value->Shared->Prop),Inv X pins σ H s->(∀ b∈fp,FpOk X pins H b)->tn i s.heap->J.stop i H ->
  wpAny (model P w) X.A (pyNext (.ref it)) (fun r s1=>r=none/\Inv X pins σ H s1) E s
 self:∀ (A:Around) (i:Nat) (s:Shared) (Q:Value->Shared->Prop) (E:Value->Shared->Prop),tn i s.heap->Q (.ref it) s->wpAny (model P w) A (pyIter (.ref it)) Q E s
abbrev TI:=St->Hp->(It->Hp->Prop)->Prop
noncomputable def PIE (X:Cx) (pins:List (Addr×Obj)) (σ:St) (tg:Expr) (R:It->Hp->Prop) (itv:Value) (s2:Shared):Prop :=
 ∃ (it:Addr) (fp:List Addr) (tn:Nat->Heap->Prop) (J:It) (H':Hp),itv=.ref it/\Inv X pins σ H' s2/\Turn X.prog X.w X.K tg J fp it tn/\tn 0 s2.heap/\(∀ b∈fp,FpOk X pins H' b)/\R J H'
noncomputable def PI (X:Cx) (tg iter:Expr) (wi:TI):Prop :=
 ∀ (pins:List (Addr×Obj)) (s:Shared) (σ:St) (H:Hp) (R:It->Hp->Prop),Inv X pins σ H s->wi σ H R ->
  wpAny (model X.prog X.w) X.A (eval iter X.env) (fun v s1=>wpAny (model X.prog X.w) X.A (pyIter v) (PIE X pins σ tg R) X.xe s1) X.xe s
theorem AQ (ho:s.heap.get? it=some o) (hc:o.cls=.type n) (hd:o.data=.fields vs)
    (hn:["enumerate","zip","dict_itemiterator","dict_reverseitemiterator","odict_iterator","itertools.zip_longest","itertools.pairwise"].contains n=false) (hQ:Q () s):wpAny M A (letOwnedTupleGo tg (.ref it) u) Q E s:=by
  unfold letOwnedTupleGo;cases tg<;>first
    | exact wpAny_pure hQ
    | (cases u<;>first
        | exact wpAny_pure hQ
        | (refine wpAny_bind (wpAny_load ho ?_)
           rw[hc,hd];show wpAny M A (if (["enumerate","zip","dict_itemiterator","dict_reverseitemiterator","odict_iterator","itertools.zip_longest","itertools.pairwise"].contains n&&vs[0]?==some (rawInt _))=true then _ else _) Q E s;rw[if_neg (by intro h;rw[hn,Bool.false_and] at h;cases h)];exact wpAny_pure hQ))
noncomputable def Itl (K:Frag) (a:Addr):It :=
 ⟨fun i H=>∃ xs x,SqL K H a xs/\xs[i]?=some x,fun i H x H'=>H'=H/\∀ xs,SqL K H a xs->xs[i]?=some x,fun i H=>∃ xs,SqL K H a xs/\xs.length<=i⟩
noncomputable def Itt (K:Frag) (a:Addr):It :=
 ⟨fun i H=>∃ xs x,SqT K H a xs/\xs[i]?=some x,fun i H x H'=>H'=H/\∀ xs,SqT K H a xs->xs[i]?=some x,fun i H=>∃ xs,SqT K H a xs/\xs.length<=i⟩
noncomputable def Itr (lo:Int) (n:Nat):It:=⟨fun i _=>i<n,fun i H x H'=>H'=H/\x=.int (lo+i),fun i _=>n<=i⟩
theorem B8 {P:Program} {w:World} {K:Frag} {tg:Expr} (a it:Addr):Turn P w K tg (Itl K a) [it] it (fun i h=>h.IsListIter it a i) where
 mem:=by simp
 obj:=fun i h st b hb=>by
  have e:b=it:=by simpa using hb
  subst e;obtain⟨o,e,c,d⟩:=st;exact⟨o,e,fun v z=>by rw[d] at z;cases z⟩
 keep:=fun i h h' st k=>st.at fun o e=>k it (by simp) o e
 item:=by
  intro X hP hw hK hc i pins s σ H E I hf st hg;subst hP hw hK;obtain⟨xs,x,hq,hx⟩:=hg;obtain⟨its,rv,p,hz⟩:=I.list hq;obtain⟨u,hu,ru⟩:=rv.get hx;obtain⟨f0,f1,f2,f3,f4,f5⟩:=hf it (by simp);refine wpAny_pyNext_list_item st p.isList (x:=u) (by simpa using hu) fun h' st' sb=>?_;have I1:Inv X pins σ H {s with heap:=h'}:=I.turned (t':=s.toks) (fun b o hb e=>(sb.2 b hb).trans e) f0 f1 f3 f4 f5;obtain⟨o,e,c,d⟩:=id st';exact⟨u,rfl,AQ (s:={s with heap:=h'}) e c d %[|4] ⟨x,H,I1,ru,⟨rfl,fun ys hy=>by rw[I.list_inj hy hq];exact hx⟩,st',fun b hb=>(hf b hb).1⟩⟩
 done:=by
  intro X hP hw hK hc i pins s σ H E I hf st hg;subst hP hw hK;obtain⟨xs,hq,hx⟩:=hg;obtain⟨its,rv,p,hz⟩:=I.list hq;obtain⟨f0,f1,f2,f3,f4,f5⟩:=hf it (by simp);have hl:=rv.length;exact wpAny_pyNext_list_end (I.ok.hd hc) st p.isList (by simp;omega) fun h' eb=>⟨rfl,I.turned (t':=s.toks) (fun b o hb e=>eb b o hb e) f0 f1 f3 f4 f5⟩
 self:=fun _ _ _ _ _ st h=>wpAny_pyIter_listiter st h
theorem JP {P:Program} {w:World} {K:Frag} {tg:Expr} (a it:Addr):Turn P w K tg (Itt K a) [it] it (fun i h=>h.IsTupleIter it a i) where
 mem:=by simp
 obj:=fun i h st b hb=>by
  have e:b=it:=by simpa using hb
  subst e;obtain⟨o,e,c,d⟩:=st;exact⟨o,e,fun v z=>by rw[d] at z;cases z⟩
 keep:=fun i h h' st k=>st.at fun o e=>k it (by simp) o e
 item:=by
  intro X hP hw hK hc i pins s σ H E I hf st hg;subst hP hw hK;obtain⟨xs,x,hq,hx⟩:=hg;obtain⟨its,rv,p,hz⟩:=I.tuple hq;obtain⟨u,hu,ru⟩:=rv.get hx;obtain⟨f0,f1,f2,f3,f4,f5⟩:=hf it (by simp);refine wpAny_pyNext_tuple_item st (show s.heap.IsTuple a its.toArray from p) (x:=u) (by simpa using hu) fun h' st' sb=>?_;have I1:Inv X pins σ H {s with heap:=h'}:=I.turned (t':=s.toks) (fun b o hb e=>(sb.2 b hb).trans e) f0 f1 f3 f4 f5;obtain⟨o,e,c,d⟩:=id st';exact⟨u,rfl,AQ (s:={s with heap:=h'}) e c d %[|4] ⟨x,H,I1,ru,⟨rfl,fun ys hy=>by rw[I.tuple_inj hy hq];exact hx⟩,st',fun b hb=>(hf b hb).1⟩⟩
 done:=by
  intro X hP hw hK hc i pins s σ H E I hf st hg;subst hP hw hK;obtain⟨xs,hq,hx⟩:=hg;obtain⟨its,rv,p,hz⟩:=I.tuple hq;obtain⟨f0,f1,f2,f3,f4,f5⟩:=hf it (by simp);have hl:=rv.length;exact wpAny_pyNext_tuple_end (I.ok.hd hc) st (show s.heap.IsTuple a its.toArray from p) (by simp;omega) fun h' eb=>⟨rfl,I.turned (t':=s.toks) (fun b o hb e=>eb b o hb e) f0 f1 f3 f4 f5⟩
 self:=fun _ _ _ _ _ st h=>wpAny_pyIter_tupleiter st h
theorem JQ {P:Program} {w:World} {K:Frag} {tg:Expr} (it:Addr) (lo:Int) (n:Nat):Turn P w K tg (Itr lo n) [it] it (fun i h=>IsRangeIter h it (lo+(i:Nat)*1) ((n:Int)-(i:Nat)) 1) where
 mem:=by simp
 obj:=fun i h st b hb=>by
  have e:b=it:=by simpa using hb
  subst e;exact⟨_,st,fun v z=>by
   have z':Data.fields _=Data.cell v:=z;cases z'⟩
 keep:=fun i h h' st k=>k it (by simp) _ st
 item:=by
  intro X hP hw hK hc i pins s σ H E I hf st hg;subst hP hw hK;obtain⟨f0,f1,f2,f3,f4,f5⟩:=hf it (by simp);have W:=Walks.range (prog:=X.prog) (w:=X.w) (I.ok.hd hc) it lo 1 n;refine W.item i s _ _ hg st fun v h' tk hv st' kk=>?_;obtain⟨t,rfl⟩:=hv;have I1:Inv X pins σ H {s with heap:=h',toks:=tk}:=I.turned (fun b o hb e=>kk b o (by simpa using hb) e) f0 f1 f3 f4 f5;refine⟨_,rfl,AQ (s:={s with heap:=h',toks:=tk}) (n:="range_iterator") st' rfl rfl %[|4] ⟨.int (lo+i),H,I1,⟨t,?_⟩,⟨rfl,rfl⟩,st',fun b hb=>(hf b hb).1⟩⟩;rw[Int.mul_one]
 done:=by
  intro X hP hw hK hc i pins s σ H E I hf st hg;subst hP hw hK;obtain⟨f0,f1,f2,f3,f4,f5⟩:=hf it (by simp);exact wpAny_pyNext_range_end (I.ok.hd hc) st (by have:n<=i:=hg;omega) fun h' eb=>⟨rfl,I.turned (t':=s.toks) (fun b o hb e=>eb b o hb e) f0 f1 f3 f4 f5⟩
 self:=fun _ _ _ _ _ st h=>wpAny_pyIter_rangeiter st h
end L2
namespace L2
open PySem PySem.Spec PyProof.Rows
section
variable {X:Cx} {tg:Expr}
theorem Jj {pins:List (Addr×Obj)} {σ:St} {H:Hp} {s:Shared} {R:It->Hp->Prop} {E:Value->Shared->Prop} {lo hi:Int} {t u v:Tok} {tk:Nat} (I:Inv X pins σ H s) (h1:-(2 ^ 62)<=lo) (h2:lo<2 ^ 62) (h3:-(2 ^ 62)<=hi) (h4:hi<2 ^ 62)
  (q:R (Itr lo (hi-lo).toNat) H):wpAny (model X.prog X.w) X.A (pyIter (.ref s.heap.objs.size)) (PIE X pins σ tg R) E {s with heap:=s.heap.push {cls:=.type "range",data:=.fields #[.int lo t,.int hi u,.int 1 v]},toks:=tk}:=by
 refine wpAny_pyIter_range (IsRange.new ..) (small_one h1 h2 h3 h4) ?_;have I1:Inv X pins σ H {s with heap:=s.heap.push {cls:=.type "range",data:=.fields #[.int lo t,.int hi u,.int 1 v]},toks:=tk}:=I.kept fun b o e=>Heap.get?_push_of_some _ e;refine⟨(s.heap.push {cls:=.type "range",data:=.fields #[.int lo t,.int hi u,.int 1 v]}).objs.size,[(s.heap.push {cls:=.type "range",data:=.fields #[.int lo t,.int hi u,.int 1 v]}).objs.size],_,_,H,rfl,
  I1.kept (t':=tk) fun b o e=>Heap.get?_push_of_some _ e,JQ _ lo (hi-lo).toNat,?_,fun b hb=>?_,q⟩
 ·have e1:lo+((0:Nat):Int)*1=lo:=by simp
  have e2:(((hi-lo).toNat:Nat):Int)-((0:Nat):Int)=Builtin.Range.rangeSize lo hi 1:=by rw[rangeSize_one];split<;>omega
  show IsRangeIter _ _ (lo+((0:Nat):Int)*1) ((((hi-lo).toNat:Nat):Int)-((0:Nat):Int)) 1;rw[e1,e2];exact Heap.get?_push_size _ rfl
 ·have e:b=(s.heap.push {cls:=.type "range",data:=.fields #[.int lo t,.int hi u,.int 1 v]}).objs.size:=by simpa using hb
  subst e;exact I1.fpOk %[|3] (I1.hok.fresh %[|3])
noncomputable def tFor (wi:TI) (g:TG) (tb:TS):TS:=fun D σ H=>wi σ H fun J H1=>∃ W:Nat->Nat->St->Hp->Prop,(∃ m,W 0 m σ H1)/\∀ i m σ H,W i m σ H ->
 (J.stop i H/\D.nx σ H)\/(J.go i H/\∃ N:St->Hp->Prop,(∀ σ' H',N σ' H'->∃ m',m'<m/\W (i+1) m' σ' H')/\∀ x H',J.yld i H x H'->g x σ H' fun σ2 H2=>tb {D with nx:=N,ct:=N,bk:=D.nx} σ2 H2)
noncomputable def Vt (fp:List Addr) (h:Heap):List (Addr×Obj):=fp.filterMap fun b=>(h.get? b).map fun o=>(b,o)
theorem ZB (hb:b∈fp) (e:h.get? b=some o):(b,o)∈Vt fp h:=List.mem_filterMap.mpr ⟨b,hb,by rw[e];rfl⟩
theorem Bm (hp:p∈Vt fp h):p.1∈fp/\h.get? p.1=some p.2:=by
 obtain⟨b,hb,e⟩:=List.mem_filterMap.mp hp;cases q:h.get? b with
 | none=>rw [q] at e;cases e
 | some o =>
  rw[q] at e;have e':(b,o)=p:=Option.some.inj e;subst e';exact⟨hb,q⟩
theorem Inv.pinned (I:Inv X pins σ H s) (hf:∀ b∈fp,FpOk X pins H b) (ho:∀ b∈fp,∃ o,s.heap.get? b=some o/\∀ v,o.data≠.cell v):Inv X (pins++Vt fp s.heap) σ H s :=
 I.pins_of fun p hp=>(List.mem_append.mp hp).elim (fun z=>I.pin p (List.mem_append_right _ z)) fun z=>by
  obtain⟨hb,e⟩:=Bm z;obtain⟨f0,f1,f2,_⟩:=hf p.1 hb;obtain⟨o,e',d⟩:=ho p.1 hb;rw[e] at e';cases e';exact⟨e,f0,f1,f2,d⟩
theorem Inv.unpinned (I:Inv X (pins++pl) σ H s):Inv X pins σ H s:=I.pins_of fun p hp=>I.pin p (List.mem_append_right _ (List.mem_append_left _ hp))
theorem GO (hp:PassesOwn (model X.prog X.w) X.A X.env X.xe) (hc:X.calm=true) (hi:PI X tg iter wi) (hg:PG X tg g) (hb:PSs X body tb)
  (hs:∀ x,foldedSetIterable iter X.env x=pure x:=by intro _;rfl):PS X (.For tg iter body [] pos) (tFor wi g tb):=by
 intro pins s σ H D I h;refine wpAny_For (thn (hi pins s σ H _ I h) fun v s1 h1=>thn h1 fun itv s2 h2=>?_) hs;obtain⟨it,fp,tn,J,H2,e,I2,T,st2,f2,W,⟨m0,w0⟩,turn⟩:=h2;subst e;have stat:∀ {H':Hp},(∀ b∈fp,H' b=none)->∀ b∈fp,FpOk X pins H' b:=fun hn b hb=>⟨hn b hb,(f2 b hb).2⟩;refine codeAny_forLoop_any (fun n s'=>∃ i σ' H',Inv X pins σ' H' s'/\tn i s'.heap/\(∀ b∈fp,H' b=none)/\W i n σ' H') ?_ m0 ⟨0,σ,H2,I2,st2,fun b hb=>(f2 b hb).1,w0⟩;rintro n s3 ⟨i,σ3,H3,I3,st3,fr3,w3⟩;rcases turn i n σ3 H3 w3 with ⟨stop,qn⟩|⟨go,N,hN,step⟩
 ·refine wpAny_passesOwn hp (thn (T.done X rfl rfl rfl hc i pins s3 σ3 H3 X.xe I3 (stat fr3) st3 stop) fun r s4 hq2=>?_)
  obtain⟨hr,I4⟩:=hq2;subst hr;exact wpAny_execs_nil ⟨σ3,H3,I4,qn⟩
 ·refine wpAny_passesOwn hp (thn (T.item X rfl rfl rfl hc i pins s3 σ3 H3 X.xe I3 (stat fr3) st3 go) fun r s4 hq2=>?_)
  obtain⟨u,hr,h4⟩:=hq2;subst hr;refine wpAny_passesOwn hp (thn h4 fun _ s5 hq2=>?_);obtain⟨x,H5,I5,r5,y5,st5,fr5⟩:=hq2;have I5':=I5.pinned (stat fr5) (T.obj _ _ st5);refine wpAny_passesOwn hp (thn (hg _ s5 σ3 H5 x u _ I5' r5 (step x H5 y5)) fun _ s6 hq2=>?_);obtain⟨σ6,H6,I6,q6⟩:=hq2;refine wpAny_passesOwn hp (thn (hb _ s6 σ6 H6 _ I6 q6) fun f s7 q7=>?_);have again:∀ {σ7:St} {H7:Hp},Inv X (pins++Vt fp s5.heap) σ7 H7 s7->N σ7 H7->∃ m,m<n/\∃ i σ' H',Inv X pins σ' H' s7/\tn i s7.heap/\(∀ b∈fp,H' b=none)/\W i m σ' H':=fun {σ7 H7} I7 n7=>by
   obtain⟨m',hm,w7⟩:=hN σ7 H7 n7;refine⟨m',hm,i+1,σ7,H7,I7.unpinned,T.keep _ _ _ st5 fun b hb o e=>(I7.pin (b,o) (List.mem_append_right _ (List.mem_append_right _ (ZB hb e)))).1,fun b hb=>?_,w7⟩;obtain⟨o,e,d⟩:=T.obj _ _ st5 b hb;exact (I7.pin (b,o) (List.mem_append_right _ (List.mem_append_right _ (ZB hb e)))).2.1
  cases f with
  | next=>obtain⟨σ7,H7,I7,n7⟩:=q7;exact again I7 n7
  | cont=>obtain⟨σ7,H7,I7,n7⟩:=q7;exact again I7 n7
  | brk=>obtain⟨σ7,H7,I7,q7⟩:=q7;exact⟨σ7,H7,I7.unpinned,q7⟩
  | ret v=>obtain⟨x7,σ7,H7,I7,r7,q7⟩:=q7;exact⟨x7,σ7,H7,I7.unpinned,r7,q7⟩
end
end L2
namespace L2
open PySem PySem.Spec PyProof.Rows
abbrev R2:=V->V->Hp->VK->Prop
noncomputable def OpR (X:Cx) (f:Value->Value->Sem Value) (r:R2):Prop :=
 ∀ (pins:List (Addr×Obj)) (s:Shared) (σ:St) (H:Hp) (x y:V) (v u:Value) (Q:VK),Inv X pins σ H s->RelV x v->RelV y u->r x y H Q ->
  wpAny (model X.prog X.w) X.A (f v u) (EP X pins σ Q) X.xe s
noncomputable def UnR (X:Cx) (f:Value->Sem Value) (r:V->Hp->VK->Prop):Prop :=
 ∀ (pins:List (Addr×Obj)) (s:Shared) (σ:St) (H:Hp) (x:V) (v:Value) (Q:VK),Inv X pins σ H s->RelV x v->r x H Q ->
  wpAny (model X.prog X.w) X.A (f v) (EP X pins σ Q) X.xe s
noncomputable def CallR (X:Cx) (f:Value) (r:List V->Hp->VK->Prop):Prop :=
 ∀ (pins:List (Addr×Obj)) (s:Shared) (σ:St) (H:Hp) (xs:List V) (us:List Value) (Q:VK),Inv X pins σ H s->Vals xs us->r xs H Q ->
  wpAny (model X.prog X.w) X.A (call f us) (EP X pins σ Q) X.xe s
noncomputable def TruR (X:Cx) (r:V->Hp->(Bool->Hp->Prop)->Prop):Prop :=
 ∀ (pins:List (Addr×Obj)) (s:Shared) (σ:St) (H:Hp) (x:V) (v:Value) (Q:Bool->Hp->Prop),Inv X pins σ H s->RelV x v->r x H Q ->
  wpAny (model X.prog X.w) X.A (truthy v) (TP X pins σ Q) X.xe s
noncomputable def tOp (r:R2) (ta tb:TE):TE:=fun σ H Q=>ta σ H fun x H1=>tb σ H1 fun y H2=>r x y H2 Q
noncomputable def tUn (r:V->Hp->VK->Prop) (ta:TE):TE:=fun σ H Q=>ta σ H fun x H1=>r x H1 Q
noncomputable def rI (C:Int->Int->Prop) (g:Int->Int->V):R2:=fun x y H Q=>∃ i j,x=.int i/\y=.int j/\C i j/\Q (g i j) H
noncomputable def rI0 (g:Int->Int->V):R2:=fun x y H Q=>∃ i j,x=.int i/\y=.int j/\Q (g i j) H
noncomputable def rU (g:Int->V):V->Hp->VK->Prop:=fun x H Q=>∃ i,x=.int i/\Q (g i) H
section
variable {X:Cx} {a b c:Expr} {ta tb tc:TE} {pos:Pos}
theorem binT (ha:PE X a ta) (hb:PE X b tb) {pins:List (Addr×Obj)} {s:Shared} {σ:St} {H:Hp} {R:V->V->Hp->Prop} (I:Inv X pins σ H s)
  (h:ta σ H fun x H1=>tb σ H1 fun y H2=>R x y H2) {Q:Value->Shared->Prop} {f:Value->Value->Sem Value}
  (hf:∀ v u s2 x y H2,Inv X pins σ H2 s2->RelV x v->RelV y u->R x y H2->wpAny (model X.prog X.w) X.A (f v u) Q X.xe s2) :
  wpAny (model X.prog X.w) X.A (eval a X.env) (fun v s₁=>wpAny (model X.prog X.w) X.A (eval b X.env) (fun u s₂=>wpAny (model X.prog X.w) X.A (f v u) Q X.xe s₂) X.xe s₁) X.xe s:=by
 refine thn (ha pins s σ H _ I h) fun v s1 hq2=>?_;obtain⟨x,H1,I1,r1,q1⟩:=hq2;refine thn (hb pins s1 σ H1 _ I1 q1) fun u s2 hq2=>?_;obtain⟨y,H2,I2,r2,q2⟩:=hq2;exact hf v u s2 x y H2 I2 r1 r2 q2
theorem IN {op:Operator} {r:R2} (ho:OpR X (binaryOp op) r) (ha:PE X a ta) (hb:PE X b tb):PE X (.BinOp a op b pos) (tOp r ta tb):=by
 intro pins s σ H Q I h;exact wpAny_BinOp (binT ha hb I h fun v u s2 x y H2 I2 rx ry q=>ho pins s2 σ H2 x y v u Q I2 rx ry q)
theorem IL (ho:UnR X (unaryOp op) r) (ha:PE X a ta):PE X (.UnaryOp op a pos) (tUn r ta):=by
 intro pins s σ H Q I h;exact UnaryOp_ (thn (ha pins s σ H _ I h) (by rintro v s1 ⟨x,H1,I1,r1,q1⟩;exact ho pins s1 σ H1 x v Q I1 r1 q1))
theorem opI {f:Value->Value->Sem Value} {C:Int->Int->Prop} {g:Int->Int->Int}
  (rule:∀ (i j:Int) (t u:Tok) (s:Shared) (Q:Value->Shared->Prop) (E:Value->Shared->Prop),C i j->Q (.int (g i j) s.toks) {s with toks:=s.toks+1}->wpAny (model X.prog X.w) X.A (f (.int i t) (.int j u)) Q E s) :
  OpR X f (rI C fun i j=>.int (g i j)):=by
 intro pins s σ H x y v u Q I rx ry h;obtain⟨i,j,rfl,rfl,hc,q⟩:=h;obtain⟨t,rfl⟩:=rx;obtain⟨t',rfl⟩:=ry;exact rule i j t t' s _ _ hc ⟨.int (g i j),H,I.tok _,⟨_,rfl⟩,q⟩
theorem opI0 {f:Value->Value->Sem Value} {g:Int->Int->Int}
  (rule:∀ (i j:Int) (t u:Tok) (s:Shared) (Q:Value->Shared->Prop) (E:Value->Shared->Prop),Q (.int (g i j) s.toks) {s with toks:=s.toks+1}->wpAny (model X.prog X.w) X.A (f (.int i t) (.int j u)) Q E s) :
  OpR X f (rI0 fun i j=>.int (g i j)):=by
 intro pins s σ H x y v u Q I rx ry h;obtain⟨i,j,rfl,rfl,q⟩:=h;obtain⟨t,rfl⟩:=rx;obtain⟨t',rfl⟩:=ry;exact rule i j t t' s _ _ ⟨.int (g i j),H,I.tok _,⟨_,rfl⟩,q⟩
theorem opB0 {f:Value->Value->Sem Value} {g:Int->Int->Bool}
  (rule:∀ (i j:Int) (t u:Tok) (s:Shared) (Q:Value->Shared->Prop) (E:Value->Shared->Prop),Q (.bool (g i j)) s->wpAny (model X.prog X.w) X.A (f (.int i t) (.int j u)) Q E s) :
  OpR X f (rI0 fun i j=>.bl (g i j)):=by
 intro pins s σ H x y v u Q I rx ry h;obtain⟨i,j,rfl,rfl,q⟩:=h;obtain⟨t,rfl⟩:=rx;obtain⟨t',rfl⟩:=ry;exact rule i j t t' s _ _ ⟨.bl (g i j),H,I,rfl,q⟩
noncomputable def CPow (i j:Int):Prop:=0<=j/\j<=1000000/\i.natAbs<2 ^ 64
theorem Hk:OpR X (binaryOp .Add) (rI0 fun i j=>.int (i+j)):=opI0 fun _ _ _ _ _ _ _ q=>add_int q
theorem unI {f:Value->Sem Value} {g:Int->Int}
  (rule:∀ (i:Int) (t:Tok) (s:Shared) (Q:Value->Shared->Prop) (E:Value->Shared->Prop),Q (.int (g i) s.toks) {s with toks:=s.toks+1}->wpAny (model X.prog X.w) X.A (f (.int i t)) Q E s) :
  UnR X f (rU fun i=>.int (g i)):=by
 intro pins s σ H x v Q I rx h;obtain⟨i,rfl,q⟩:=h;obtain⟨t,rfl⟩:=rx;exact rule i t s _ _ ⟨.int (g i),H,I.tok _,⟨_,rfl⟩,q⟩
theorem Gu:UnR X (unaryOp .USub) (rU fun i=>.int (-i)):=unI fun _ _ _ _ _ q=>neg_int q
end
section
variable {X:Cx} {a b c:Expr} {ta tb tc:TE} {pos:Pos}
theorem IR:OpR X (compareOp .Lt) (rI0 fun i j=>.bl (decide (i<j))):=opB0 fun _ _ _ _ _ _ _ q=>lt_int q
theorem IS:OpR X (compareOp .LtE) (rI0 fun i j=>.bl (decide (i<=j))):=opB0 fun _ _ _ _ _ _ _ q=>le_int q
theorem IT:OpR X (compareOp .Gt) (rI0 fun i j=>.bl (decide (j<i))):=opB0 fun _ _ _ _ _ _ _ q=>gt_int q
theorem IU:OpR X (compareOp .GtE) (rI0 fun i j=>.bl (decide (j<=i))):=opB0 fun _ _ _ _ _ _ _ q=>ge_int q
theorem ET (ho:OpR X (compareOp op) r) (ha:PE X a ta) (hb:PE X b tb) (hm:behindInMarks op b=false):PE X (.Compare a [op] [b] pos) (tOp r ta tb):=by
 intro pins s σ H Q I h;exact wpAny_Compare1 (binT ha hb I h fun v u s2 x y H2 I2 rx ry q=>ho pins s2 σ H2 x y v u Q I2 rx ry q) hm
noncomputable def Cd (t:TE):TT:=fun σ H Q=>t σ H fun x H'=>∃ k,x=.bl k/\Q k H'
theorem EK (ho:OpR X (compareOp op) r) (ha:PE X a ta) (hb:PE X b tb) (hm:behindInMarks op b=false):PT X (.Compare a [op] [b] pos) (Cd (tOp r ta tb)):=by
 intro pins s σ H Q I h;refine wpAny_isTrue_Compare1 (thn (ha pins s σ H _ I h) fun v s1 ⟨x,H1,I1,r1,q1⟩=>thn (hb pins s1 σ H1 _ I1 q1) fun u s2 ⟨y,H2,I2,r2,q2⟩ =>
  thn (ho pins s2 σ H2 x y v u _ I2 r1 r2 q2) fun c s3 hq2=>?_) hm
 obtain⟨z,H3,I3,r3,k,e,q3⟩:=hq2;subst e;cases r3;exact wpAny_truthy_bool ⟨H3,I3,q3⟩
noncomputable def JW (r r':R2) (ta tb tc:TE):TE:=fun σ H Q=>ta σ H fun x H1=>tb σ H1 fun y H2=>r x y H2 fun z H3=>∃ k,z=.bl k /\
 (if k=true then tc σ H3 fun w' H4=>r' y w' H4 Q else Q (.bl false) H3)
theorem CN (ho:OpR X (compareOp op) r) (ho':OpR X (compareOp op') r') (ha:PE X a ta) (hb:PE X b tb) (hc:PE X c tc)
  (hm:lastMarks [op,op'] [b,c]=false:=by with_unfolding_all rfl):PE X (.Compare a [op,op'] [b,c] pos) (JW r r' ta tb tc):=by
 intro pins s σ H Q I h;refine Compare_chain (thn (ha pins s σ H _ I h) fun v s1 ⟨x,H1,I1,r1,q1⟩=>chain_link (thn (hb pins s1 σ H1 _ I1 q1) fun u s2 ⟨y,H2,I2,r2,q2⟩ =>
  thn (ho pins s2 σ H2 x y v u _ I2 r1 r2 q2) fun d s3 hq2=>?_)) hm
 obtain⟨z,H3,I3,r3,k,e,q3⟩:=hq2;subst e;cases r3;refine wpAny_truthy_bool ?_;cases k with
 | false=>exact ite_ff ⟨.bl false,H3,I3,rfl,q3⟩
 | true=>exact ite_tt (chain_last (thn (hc pins s3 σ H3 _ I3 q3) (by rintro w' s4 ⟨z',H4,I4,r4,q4⟩;exact ho' pins s4 σ H4 y z' u w' Q I4 r2 r4 q4)))
theorem Cy (ho:OpR X (compareOp op) r) (ho':OpR X (compareOp op') r') (ha:PE X a ta) (hb:PE X b tb) (hc:PE X c tc)
  (hm:lastMarks [op,op'] [b,c]=false:=by with_unfolding_all rfl):PT X (.Compare a [op,op'] [b,c] pos) (Cd (JW r r' ta tb tc)):=by
 intro pins s σ H Q I h;refine isTrue_chain (thn (ha pins s σ H _ I h) fun v s1 ⟨x,H1,I1,r1,q1⟩=>test_link (thn (hb pins s1 σ H1 _ I1 q1) fun u s2 ⟨y,H2,I2,r2,q2⟩ =>
  thn (ho pins s2 σ H2 x y v u _ I2 r1 r2 q2) fun d s3 hq2=>?_)) hm
 obtain⟨z,H3,I3,r3,k,e,q3⟩:=hq2;subst e;cases r3;refine wpAny_truthy_bool ?_;cases k with
 | false =>
  obtain⟨k',e',q'⟩:=q3;cases e';exact ite_ff ⟨H3,I3,q'⟩
 | true =>
  refine ite_tt (test_last (thn (hc pins s3 σ H3 _ I3 q3) fun w' s4 ⟨z',H4,I4,r4,q4⟩=>thn (ho' pins s4 σ H4 y z' u w' _ I4 r2 r4 q4) fun d' s5 hq2=>?_));obtain⟨z2,H5,I5,r5,k2,e2,q5⟩:=hq2;subst e2;cases r5;exact wpAny_truthy_bool ⟨H5,I5,q5⟩
noncomputable def TruV (K:Frag) (x:V) (H:Hp) (k:Bool):Prop :=
 match x with
 | .non=>k=false
 | .bl b=>k=b
 | .int i=>k=(i != 0)
 | .str y=>y.length<=sizeLine/\k=((y.length:Int) != 0)
 | .byt y=>y.size<=sizeLine/\k=((y.size:Int) != 0)
 | .ref p=>(∃ xs,SqL K H p xs/\k=!xs.isEmpty)\/(∃ xs,SqT K H p xs/\k=!xs.isEmpty)\/∃ kvs,H p=some (.dK kvs)/\k=!kvs.isEmpty
 | _=>False
theorem Ah (r:KV kvs vs):(!vs.isEmpty)=!kvs.isEmpty:=by
 cases r<;>rfl
theorem VA (r:Vals xs its):(!its.toArray.isEmpty)=!xs.isEmpty:=by
 cases r<;>simp
theorem XM:(sizeLine:Nat)<2 ^ 63:=by rw[sizeLine_eq];decide
theorem Gw:TruR X (fun x H Q=>∃ k,TruV X.K x H k/\Q k H):=by
 intro pins s σ H x v Q I rx h;obtain⟨k,e,q⟩:=h;have hl:=XM;have hs:sizeLine=16777216:=sizeLine_eq;cases x with
 | non =>
  cases rx;have e':k=false:=e;subst e';exact truthy_none ⟨H,I,q⟩
 | bl b =>
  cases rx;have e':k=b:=e;subst e';exact wpAny_truthy_bool ⟨H,I,q⟩
 | int i =>
  obtain⟨t,rfl⟩:=rx;have e':k=(i != 0):=e;subst e';exact PySem.P.truthy_int ⟨H,I,q⟩
 | str y =>
  obtain⟨t,rfl⟩:=rx;obtain⟨hy,e'⟩:y.length<=sizeLine/\k=((y.length:Int) != 0):=e;subst e';exact PySem.P.truthy_str %[|5] ⟨H,I.tok _,q⟩
 | byt y =>
  obtain⟨t,rfl⟩:=rx;obtain⟨hy,e'⟩:y.size<=sizeLine/\k=((y.size:Int) != 0):=e;subst e';exact PySem.W.truthy_bytes %[|5] ⟨H,I.tok _,q⟩
 | ref p =>
  cases rx;have e':(∃ xs,SqL X.K H p xs/\k=!xs.isEmpty)\/(∃ xs,SqT X.K H p xs/\k=!xs.isEmpty)\/∃ kvs,H p=some (.dK kvs)/\k=!kvs.isEmpty:=e;rcases e' with ⟨xs,hx,e'⟩|⟨xs,hx,e'⟩|⟨kvs,hx,e'⟩
  ·subst e'
   obtain⟨its,r,pl,hz⟩:=I.list hx;have hlen:=r.length;exact wpAny_truthy_list pl.isList (by simp only[List.size_toArray];omega) ⟨H,I.tok _,by rw[VA r];exact q⟩
  ·subst e'
   obtain⟨its,r,pl,hz⟩:=I.tuple hx;have hlen:=r.length;exact truthy_tuple pl (by simp only[List.size_toArray];omega) ⟨H,I.tok _,by rw[VA r];exact q⟩
  ·subst e'
   obtain⟨hz,hS,vs,r,m⟩:kvs.length<=sizeLine/\(p==sysModules)=false/\∃ vs,KV kvs vs/\s.heap.DictOf (UL X.prog X.w) p vs:=I.hok p _ hx;have hlen:kvs.length=vs.length:=Paired.length r;exact wpAny_truthy_dict hS m %[|5] ⟨H,I.tok _,by rw[Ah r];exact q⟩
 | _=>exact (show False from e).elim
theorem Cw (ha:PE X a ta) (he:∀ whole,isTrue a X.env whole=(do let v <- whole;standAt a.pos;holding [v] (truthy v))) :
  PT X a (fun σ H Q=>ta σ H fun x H'=>∃ k,TruV X.K x H' k/\Q k H'):=by
 intro pins s σ H Q I h;exact isTrue_plain (thn (ha pins s σ H _ I h) (by rintro v s1 ⟨x,H1,I1,r1,q1⟩;exact Gw pins s1 σ H1 x v Q I1 r1 q1)) (he _)
theorem A9:OpR X (binaryOp .Add) (fun x y H Q=>∃ i j,x=.str i/\y=.str j/\i.length+j.length<=sizeLine/\Q (.str (i++j)) H):=by
 intro pins s σ H x y v u Q I rx ry h;obtain⟨i,j,rfl,rfl,hz,q⟩:=h;obtain⟨t,rfl⟩:=rx;obtain⟨t',rfl⟩:=ry;exact add_str (fun t' tk=>⟨.str (i++j),H,I.tok _,⟨_,rfl⟩,q⟩) hz
theorem XU (r:Vals [x] us):∃ u,us=[u]/\RelV x u:=by
 cases r with
 | cons r1 r2=>cases r2;exact⟨_,rfl,r1⟩
theorem WD (r:Vals [x,y] us):∃ u w',us=[u,w']/\RelV x u/\RelV y w':=by
 cases r with
 | cons r1 r2 =>
  cases r2 with
  | cons r3 r4=>cases r4;exact⟨_,_,rfl,r1,r3⟩
theorem Ej:CallR X (.builtin "abs") (fun xs H Q=>∃ i,xs=[.int i]/\Q (.int (if i<0 then -i else i)) H):=by
 intro pins s σ H xs us Q I r h;obtain⟨i,rfl,q⟩:=h;obtain⟨u,rfl,t,rfl⟩:=XU r;exact call_abs_int fun u tk=>⟨.int (if i<0 then -i else i),H,I.tok _,⟨_,rfl⟩,q⟩
theorem BL (hc:X.calm=true):CallR X (.builtin "max") (fun xs H Q=>∃ i j,xs=[.int i,.int j]/\Q (.int (if j > i then j else i)) H):=by
 intro pins s σ H xs us Q I r h;obtain⟨i,j,rfl,q⟩:=h;obtain⟨u,w',rfl,⟨t,rfl⟩,⟨t',rfl⟩⟩:=WD r;refine max_two_ints (I.ok.hd hc) fun h' tk k=>⟨_,H,I.kept k,?_,q⟩;by_cases hj:j > i
 ·rw[if_pos hj,if_pos hj];exact⟨_,rfl⟩
 ·rw[if_neg hj,if_neg hj];exact⟨_,rfl⟩
theorem BK (hc:X.calm=true):CallR X (.builtin "min") (fun xs H Q=>∃ i j,xs=[.int i,.int j]/\Q (.int (if j<i then j else i)) H):=by
 intro pins s σ H xs us Q I r h;obtain⟨i,j,rfl,q⟩:=h;obtain⟨u,w',rfl,⟨t,rfl⟩,⟨t',rfl⟩⟩:=WD r;refine min_two_ints (I.ok.hd hc) fun h' tk k=>⟨_,H,I.kept k,?_,q⟩;by_cases hj:j<i
 ·rw[if_pos hj,if_pos hj];exact⟨_,rfl⟩
 ·rw[if_neg hj,if_neg hj];exact⟨_,rfl⟩
theorem BM:CallR X (.type "int") (fun xs H Q=>(∃ i,xs=[.int i]/\Q (.int i) H)\/∃ k,xs=[.bl k]/\Q (.int (if k then 1 else 0)) H):=by
 intro pins s σ H xs us Q I r h;rcases h with ⟨i,rfl,q⟩|⟨k,rfl,q⟩
 ·obtain⟨u,rfl,t,rfl⟩:=XU r
  exact call_int_int ⟨.int i,H,I,⟨_,rfl⟩,q⟩
 ·obtain⟨u,rfl,r1⟩:=XU r
  cases r1;exact call_int_bool ⟨.int (if k then 1 else 0),H,I.tok _,⟨_,rfl⟩,q⟩
end
end L2
namespace L2
open PySem PySem.Spec PyProof.Rows
section
variable {prog:Program} {w:World} {A:Around} {E:Value->Shared->Prop} {s:Shared} {K:Frag} {x dx C f:Addr} {mA:Str->Option Value} {name:Str} {v:Value}
end
section
variable {P:Program} {w:World} {H H':Hp} {h h':Heap} {a C dx:Addr} {fs fs':List (Str×V)}
end
structure Meth (K:Frag) (C:Addr) (m:Str) (f:Addr):Prop where
 at_:PySem.W.findIn K (.ref C) m=some (some (.ref f))
 fn:PySem.W.isFn K (.ref f)=true
 kp:PySem.W.keepIn K (.ref f)=true
section
variable {X:Cx} {pins:List (Addr×Obj)} {σ:St} {H:Hp} {s:Shared} {a C dx:Addr} {fs:List (Str×V)} {f:Str} {v:V} {A:Around} {E:Value->Shared->Prop}
end
section
variable {X:Cx} {o e value:Expr} {f:Str} {pos pos' tpos:Pos} {ta tv:TE}
end
section
variable {X:Cx} {pins:List (Addr×Obj)} {σ:St} {H:Hp} {s:Shared} {A:Around} {E:Value->Shared->Prop} {Q:Value->Shared->Prop} {c:Value} {b:Bool}
end
end L2
namespace L2
open PySem PySem.Spec PyProof.Rows
structure Room (k:Nat) (A:Around):Prop where
 hd:A.handled=none
 dp:A.depth+3*k+5<recursionLimit
 un:A.units+16*k+200<cLine
theorem Room.mono (r:Room k A) (h:j<=k):Room j A:=⟨r.hd,by have:=r.dp;omega,by have:=r.un;omega⟩
theorem Room.deeper (r:Room (k+1) A) (env:Env):Room k (A.deeper env) :=
 ⟨r.hd,by have:=r.dp;show A.depth+1+3*k+5 < _;omega,by have:=r.un;show A.units+3+16*k+200 < _;omega⟩
theorem Room.depth (r:Room k A):A.depth<recursionLimit:=by have:=r.dp;omega
noncomputable def tNil:TA:=fun _ H Q=>Q [] H
noncomputable def IC (ta:TE) (tr:TA):TA:=fun σ H Q=>ta σ H fun x H1=>tr σ H1 fun xs H2=>Q (x::xs) H2
section
variable {X:Cx} {e:Expr} {es:List Expr} {te:TE} {t:TA} {pos:Pos}
theorem Hd:PA X [] tNil:=fun _ _ _ _ H Q I h=>Calls.spliced_nil ⟨[],H,I,.nil,h⟩
theorem EV (ha:PE X e te) (hr:PA X es t) (hs:starEach (e::es) X.env=(false,eval e X.env)::starEach es X.env:=by rfl):PA X (e::es) (IC te t):=by
 intro pos pins s σ H Q I h;rw[hs];show wpAny _ _ (spliced ((false,eval e X.env)::backTo pos (starEach es X.env))) _ _ s;refine Calls.spliced_cons (thn (ha pins s σ H _ I h) fun u s1 hq2=>?_);obtain⟨x,H1,I1,r1,q1⟩:=hq2;exact thn (hr pos pins s1 σ H1 _ I1 q1) (by rintro us s2 ⟨xs,H2,I2,r2,q2⟩;exact⟨x::xs,H2,I2,.cons r1 r2,q2⟩)
noncomputable def tTup (t:TA):TE:=fun σ H Q=>t σ H fun xs H1=>xs.length<=sizeLine/\∀ p,H1 p=none->Q (.ref p) (upd H1 p (.tup xs))
noncomputable def tLst (t:TA):TE:=fun σ H Q=>t σ H fun xs H1=>xs.length<=sizeLine/\∀ p,H1 p=none->Q (.ref p) (upd H1 p (.lst xs))
theorem GV {x1} (h:PA X es t):PE X (.Tuple es x1 pos) (tTup t):=by
 intro pins s σ H Q I hq;refine wpAny_Tuple_spliced (thn (h pos pins s σ H _ I hq) fun us s1 ⟨xs,H1,I1,r,z,q⟩=>⟨by rw[<- r.length];exact z,?_⟩);have hf:H1 s1.heap.objs.size=none:=I1.hok.fresh %[|3];refine⟨.ref s1.heap.objs.size,upd H1 s1.heap.objs.size (.tup xs),I1.laid (t':=s1.toks) (fun b u e=>Heap.get?_push_of_some _ e) %[|3] ?_,rfl,q _ hf⟩;exact⟨z,us,r,⟨_,Heap.get?_push_size _ rfl,rfl,_,rfl⟩⟩
theorem Ha (h:PA X es t):PE X (.List es pos) (tLst t):=by
 intro pins s σ H Q I hq;refine wpAny_List_spliced (thn (h pos pins s σ H _ I hq) fun us s1 ⟨xs,H1,I1,r,z,q⟩=>⟨by rw[<- r.length];exact z,?_⟩);have hf:H1 s1.heap.objs.size=none:=I1.hok.fresh %[|3];refine⟨.ref s1.heap.objs.size,upd H1 s1.heap.objs.size (.lst xs),I1.laid (t':=s1.toks) (fun b u e=>Heap.get?_push_of_some _ e) %[|3] ?_,rfl,q _ hf⟩;exact⟨z,us,0,r,Heap.get?_push_size _ rfl⟩
end
abbrev Sp:=List V->Hp->VK->XK->Prop
abbrev CXT:=List Env->Hp->Shared->XK->Value->Shared->Prop
structure Env0 (P:Program) (w:World) (K:Frag) (mg:Str->Option Value) (base:Heap) (A:Around) (outer:List Env) (s:Shared) (H:Hp):Prop where
 frames:A.frames=some outer
 mod:Mod K mg base
 bs:∀ b o,base.get? b=some o->s.heap.get? b=some o/\H b=none
 bsz:base.objs.size<=s.heap.objs.size
 funs:s.heap.FunFrames base outer
 frf:∀ b∈frs outer,H b=none
 hok:HOk P w H s.heap
 bare:AllBare s.gens
noncomputable def CE (outer:List Env) (P:Program) (w:World) (H:Hp) (s:Shared) (Q:VK) (u:Value) (s':Shared):Prop :=
 ∃ v H',s'.os=s.os/\AllBare s'.gens/\Un (frs outer) [] H H' s.heap s'.heap/\HOk P w H' s'.heap/\RelV v u/\Q v H'
noncomputable def CR (CX:CXT) (outer:List Env) (P:Program) (w:World) (H:Hp) (s:Shared) (Q:VK) (E:XK) (r:Result) (s':Shared):Prop :=
 match r with
 | .ok (.ret u)=>CE outer P w H s Q u s'
 | .ok _=>False
 | .error e=>CX outer H s E e s'
structure FnOk (P:Program) (w:World) (K:Frag) (mg:Str->Option Value) (base:Heap) (CX:CXT) (k:Nat) (f:Addr) (fd:FuncData) (ps:List Str) (sp:Sp):Prop where
 len:∀ vs H Q E,sp vs H Q E->vs.length=ps.length
 run:∀ (A:Around) (outer:List Env) (s:Shared) (H:Hp) (args:Args) (us:List Value) (vs:List V) (Q:VK) (E:XK),Room k A->Env0 P w K mg base A outer s H->BindsTo s fd args (ps.zip us)->Vals vs us->sp vs H Q E ->
  codeAny (model P w) A (.call (.ref f) args) (CR CX outer P w H s Q E) s
theorem FnOk.mono {P:Program} {w:World} {K:Frag} {mg:Str->Option Value} {base:Heap} {CX:CXT} {j k:Nat} {f:Addr} {fd:FuncData} {ps:List Str} {sp:Sp} (F:FnOk P w K mg base CX j f fd ps sp) (h:j<=k) :
  FnOk P w K mg base CX k f fd ps sp:=⟨F.len,fun A outer s H args us vs Q E hr=>F.run A outer s H args us vs Q E (hr.mono h)⟩
section
variable {X:Cx} {pins:List (Addr×Obj)} {σ:St} {H:Hp} {s s':Shared}
theorem Inv.env0 (I:Inv X pins σ H s):Env0 X.prog X.w X.K X.mg X.base X.A X.stack s H :=
 ⟨I.ok.frames,I.ok.mod,I.bs,Nat.le_trans I.ok.bsz I.sz,I.stack,I.stkFree,I.hok,I.bare⟩
theorem Inv.after (I:Inv X pins σ H s) (h:CE X.stack X.prog X.w H s Q u s'):EP X pins σ Q u s':=by
 obtain⟨v,H',os,bare,un,hok,r,q⟩:=h;obtain⟨hh,g,d,t,os'⟩:=s';obtain rfl:os'=s.os:=os;exact⟨v,H',I.call (h':=hh) (g':=g) (d':=d) (t':=t) (ch:=[]) un hok bare (fun b z=>absurd z (by simp)),r,q⟩
end
noncomputable def Binds (K:Frag) (fd:FuncData) (ps:List Str) (ds:List Value):Prop :=
 ∀ (s:Shared) (us:List Value),K.In s.heap->(us++ds).length=ps.length->BindsTo s fd ⟨us,[]⟩ (ps.zip (us++ds))
theorem Binds.all {K:Frag} {fd:FuncData} {ps:List Str} (h:∀ us:List Value,us.length=ps.length->bindArgs fd ⟨us,[]⟩=pure (ps.zip us)):Binds K fd ps []:=fun s us _ hl=>by
 rw[List.append_nil] at hl ⊢;exact .of_eq (h us hl)
section
variable {X:Cx} {CX:CXT} {k:Nat} {f C:Addr} {fd:FuncData} {ps:List Str} {sp:Sp} {dvs:List V} {ds:List Value} {E:XK} {x m:Str} {p pos apos:Pos} {e o:Expr} {es:List Expr} {ta:TE} {t:TA}
structure Mk (K:Frag) (C f:Addr):Prop where
 makes:PySem.W.makesIn K C=true
 init:PySem.W.findIn K (.ref C) "__init__"=some (some (.ref f))
 fn:PySem.W.isFn K (.ref f)=true
 kp:PySem.W.keepIn K (.ref C)=true
end
section
variable {X:Cx} {CX:CXT} {k:Nat} {f C:Addr} {fd:FuncData} {ps ks:List Str} {sp:Sp} {E:XK} {x m:Str} {p pos apos kpos:Pos} {e o:Expr} {es:List Expr} {kws:List Keyword} {te ta:TE} {t tk:TA} {nm:Option Str}
variable {g:List Value->List Value->List Value} {gV:List V->List V->List V}
end
structure FnScope (N P:List Str) (sc:Scope):Prop where
 kind:sc.kind=.function
 co:sc.isCoroutine=false
 gen:sc.isGenerator=false
 nd:N.Nodup
 pre:N.take P.length=P
 par:∀ x∈P,sc.names.lookup x=some .local\/sc.names.lookup x=some .cell
 nofree:∀ y∈sc.names,y.2≠.free
theorem Um {kindOf:Str->Option NameKind} {x:Str}:∀ {binds:List (Str×Value)} {m:Str->Option Value},(∀ v,(x,v) ∉ binds)->bindL kindOf binds m x=m x
 | [],_,_=>rfl
 | (n,v)::r,m,h=>by
  unfold bindL;rw[Um fun w hw=>h w (List.mem_cons_of_mem _ hw)];split
  ·have:x≠n:=by rintro rfl;exact h v List.mem_cons_self
   simp[this]
  ·rfl
theorem Up {kindOf:Str->Option NameKind} {x:Str}:∀ {binds:List (Str×Value)} {m:Str->Option Value},(∀ v,(x,v) ∉ binds)->bindC kindOf binds m x=m x
 | [],_,_=>rfl
 | (n,v)::r,m,h=>by
  unfold bindC;rw[Up fun w hw=>h w (List.mem_cons_of_mem _ hw)];split
  ·rfl
  ·have:x≠n:=by rintro rfl;exact h v List.mem_cons_self
   simp[this]
theorem Uo {kindOf:Str->Option NameKind} {x:Str} {v:Value}:∀ {P:List Str} {vs:List Value} {i:Nat} {m:Str->Option Value},P.Nodup->P[i]?=some x->vs[i]?=some v->kindOf x=some .local ->
  bindL kindOf (P.zip vs) m x=some v
 | [],_,_,_,_,h,_,_=>by simp at h
 | _::_,[],_,_,_,_,h,_=>by simp at h
 | p::P,w::vs,0,m,nd,h1,h2,hk=>by
  simp at h1 h2;subst h1;subst h2;show bindL kindOf ((p,w)::P.zip vs) m p=_;unfold bindL;rw[Um fun v hv=>(List.nodup_cons.mp nd).1 (List.of_mem_zip hv).1,if_pos hk];simp
 | p::P,w::vs,i+1,m,nd,h1,h2,hk=>by
  show bindL kindOf ((p,w)::P.zip vs) m x=_;unfold bindL;exact Uo (i:=i) (List.nodup_cons.mp nd).2 (by simpa using h1) (by simpa using h2) hk
theorem Uq {kindOf:Str->Option NameKind} {x:Str} {v:Value}:∀ {P:List Str} {vs:List Value} {i:Nat} {m:Str->Option Value},P.Nodup->P[i]?=some x->vs[i]?=some v->kindOf x≠some .local ->
  bindC kindOf (P.zip vs) m x=some v
 | [],_,_,_,_,h,_,_=>by simp at h
 | _::_,[],_,_,_,_,h,_=>by simp at h
 | p::P,w::vs,0,m,nd,h1,h2,hk=>by
  simp at h1 h2;subst h1;subst h2;show bindC kindOf ((p,w)::P.zip vs) m p=_;unfold bindC;rw[Up fun v hv=>(List.nodup_cons.mp nd).1 (List.of_mem_zip hv).1,if_neg hk];simp
 | p::P,w::vs,i+1,m,nd,h1,h2,hk=>by
  show bindC kindOf ((p,w)::P.zip vs) m x=_;unfold bindC;exact Uq (i:=i) (List.nodup_cons.mp nd).2 (by simpa using h1) (by simpa using h2) hk
noncomputable def start (N:List Str) (vs:List V):St:=vs.map some++List.replicate (N.length-vs.length) none
noncomputable def cxOf (CX:CXT) (P:Program) (w:World) (K:Frag) (mg:Str->Option Value) (base:Heap) (N:List Str) (qual:Str) (scope:Scope) (f:Addr) (cd:Value) (A:Around) (outer:List Env) (s:Shared) (H:Hp) (E:XK):Cx where
 prog:=P
 w:=w
 K:=K
 mg:=mg
 base:=base
 A:=A.deeper (envOfC qual scope s.heap.objs.size f cd)
 N:=N
 s₀:=s
 H₀:=H
 env:=envOfC qual scope s.heap.objs.size f cd
 outer:=outer
 stack:=envOfC qual scope s.heap.objs.size f cd::outer
 ex:=[]
 calm:=true
 fn:=fun _=>true
 pn:=[]
 xe:=fun e s'=>wpAny (model P w) (A.deeper (envOfC qual scope s.heap.objs.size f cd)) (leaving (envOfC qual scope s.heap.objs.size f cd) e) (fun _ s''=>CX outer H s E e s'') (fun e' s''=>CX outer H s E e' s'') s'
theorem JL {sc:Scope} {n:Nat} {x:Str} (h:sc.names.lookup x=some .cell):∃ c,(cellsFrom n sc.names []).lookup x=some c:=by
 have q:=PySem.W.cellsFrom_some sc.names n [] (.inl h);exact Option.isSome_iff_exists.mp q
theorem Bs {CX:CXT} {P:Program} {w:World} {K:Frag} {mg:Str->Option Value} {base:Heap} {N ps:List Str} {qual:Str} {scope:Scope} {f:Addr} {cd:Value} {A:Around} {outer:List Env} {s s1:Shared} {H:Hp} {E:XK} {us:List Value} {vs:List V}
  (S:FnScope N ps scope) (hd:A.handled=none) (e0:Env0 P w K mg base A outer s H) (hl:vs.length=ps.length) (r:Vals vs us)
  (x:InCallC s s.heap.objs.size (bindL (envOfC qual scope s.heap.objs.size f cd).kindOf (ps.zip us) fun _=>none) (cellsFrom (s.heap.objs.size+1) scope.names []) (bindC (envOfC qual scope s.heap.objs.size f cd).kindOf (ps.zip us) fun _=>none) s1) :
  Inv (cxOf CX P w K mg base N qual scope f cd A outer s H E) [] (start N vs) H s1:=by
 have hpl:ps.length<=N.length:=by have:=congrArg List.length S.pre;rw[List.length_take] at this;omega
 obtain⟨h1,tk,rfl,hk⟩:=x.done;have noA:∀ b:Addr,b ∉ (cxOf CX P w K mg base N qual scope f cd A outer s H E).ex:=fun b z=>absurd (show b∈([]:List Addr) from z) (by simp);refine⟨⟨e0.mod,S.kind,rfl,rfl,Nat.le_refl _,fun y z c h1 h2=>?_,fun y hy=>?_,fun y c _ h=>?_,fun _=>hd,Around.frames_deeper e0.frames,.inr ⟨rfl,rfl⟩,fun b z=>absurd z (noA b),e0.bs,e0.bsz,fun b _ _=>noA b,fun b z=>absurd z (noA b),e0.funs,e0.frf⟩,
  rfl,e0.bare,Un.kept hk,⟨_,x.toInCall.ns,fun i y v h1 h2 h3=>?_⟩,fun y c h=>⟨_,x.cell y c h⟩,e0.hok.fresh %[|3],fun y c h=>?_,fun p hp=>absurd (show p∈([]:List (Addr×Obj)) from hp) (by simp),e0.hok.kept hk,?_⟩
 ·exact name_of_addr x.apart (PySem.mem_of_lookup h1) (PySem.mem_of_lookup h2)
 ·have hy:scope.names.lookup y=some .cell\/scope.names.lookup y=some .free:=hy
  rcases hy with hy|hy
  ·exact JL hy
  ·exact absurd rfl (S.nofree _ (PySem.mem_of_lookup hy))
 ·exact Nat.le_of_lt (x.above y c (PySem.mem_of_lookup h))
 ·have hi:i<vs.length:=by
   unfold start at h2;by_cases hi:i<vs.length
   ·exact hi
   ·rw[List.getElem?_append_right (by simpa using hi)] at h2
    rw[List.getElem?_replicate] at h2;split at h2<;>cases h2
  have ha:vs[i]?=some v:=by
   unfold start at h2;rw[List.getElem?_append_left (by simpa using hi),List.getElem?_map] at h2;cases e:vs[i]? with
   | none=>rw [e] at h2;cases h2
   | some a=>rw [e] at h2;cases h2;rfl
  obtain⟨u,hu,rv⟩:=r.get ha;have hp:ps[i]?=some y:=by
   rw[<- S.pre,List.getElem?_take_of_lt %[|5]];exact h1
  have ndP:ps.Nodup:=by rw[<- S.pre];exact S.nd.sublist (List.take_sublist _ _)
  refine⟨u,rv,?_⟩;rcases S.par y (List.mem_of_getElem? hp) with k|k
  ·exact .inl ⟨k,Uo ndP hp hu k⟩
  ·obtain⟨c,e⟩:=JL (n:=s.heap.objs.size+1) k
   refine .inr ⟨.inl k,c,e,?_⟩;have q:=x.cell y c e;rw[Uq ndP hp hu (by show scope.names.lookup y≠_;rw[k];decide)] at q;exact q
 ·exact e0.hok.fresh (Nat.le_of_lt (x.above y c (PySem.mem_of_lookup h)))
 ·unfold start
  show _=N.length;rw[List.length_append,List.length_map,List.length_replicate];omega
theorem Gj {CX:CXT} {P:Program} {w:World} {K:Frag} {mg:Str->Option Value} {base:Heap} {k:Nat} {f:Addr} {name qual:Str} {params:Arguments} {body:List Stmt} {scope:Scope} {dV kV doc pm cdv ct oc:Value} {an od:Option Addr}
  {osl:Array (Option Value)} {N ps:List Str} {sp:Sp} (lk:K.lookup f=some ⟨oc,od,.func (PySem.W.fnOf name qual params body scope dV kV doc pm an cdv ct),osl⟩) (hcd:PySem.W.codeIn K cdv qual=true) (S:FnScope N ps scope)
  (len:∀ vs H Q E,sp vs H Q E->vs.length=ps.length)
  (hbody:∀ (A:Around) (outer:List Env) (s:Shared) (H:Hp) (vs:List V) (Q:VK) (E:XK),Room k (A.deeper (envOfC qual scope s.heap.objs.size f cdv))->sp vs H Q E ->
   ∃ t,PSs (cxOf CX P w K mg base N qual scope f cdv A outer s H E) body t/\t {nx:=fun _ H'=>Q .non H',rt:=Q} (start N vs) H) :
  FnOk P w K mg base CX (k+1) f (PySem.W.fnOf name qual params body scope dV kV doc pm an cdv ct) ps sp:=by
 refine⟨len,fun A outer s H args us vs Q E hr e0 hb r hsp=>?_⟩;have hl:=len _ _ _ _ hsp;have KX:K.In s.heap:=e0.mod.kin.keeps fun b o e=>(e0.bs b o e).1;have lim:s.heap.NoLimit:=e0.mod.nolimit.keeps fun b o e=>(e0.bs b o e).1;have hkind:∀ y∈ps.zip us,scope.names.lookup y.1=some .local\/(scope.names.lookup y.1=some .cell/\((cellsFrom (s.heap.objs.size+1) scope.names []).lookup y.1).isSome=true):=fun ⟨n,v⟩ hy=>by
  rcases S.par n (List.of_mem_zip hy).1 with q|q
  ·exact .inl q
  ·exact .inr ⟨q,PySem.W.cellsFrom_some _ _ _ (.inl q)⟩
 refine codeAny_call_function hr.depth (KX _ _ lk) rfl S.co S.gen rfl (PySem.W.codeRec_of KX hcd) (hb _ _ _ _ ?_);refine wpAny_newFunctionEnv_cells S.kind hkind fun env he s1 x=>?_;subst he;refine⟨lim.keeps x.toInCall.keep,codeAny_func ?_⟩;obtain⟨t,ht,hq⟩:=hbody A outer s H vs Q E (hr.deeper _) hsp;have I:Inv (cxOf CX P w K mg base N qual scope f cdv A outer s H E) [] (start N vs) H s1:=Bs S hr.hd e0 hl r x;refine wpAny_mono (ht [] s1 (start N vs) H _ I hq) (fun fl s' hs=>?_) fun e s' hs=>hs;have fin:∀ {σ':St} {H':Hp} {v:V} {u:Value},Inv (cxOf CX P w K mg base N qual scope f cdv A outer s H E) [] σ' H' s'->RelV v u->Q v H'->CE outer P w H s Q u s' :=
  fun {σ' H' v u} J rv q=>⟨v,H',J.os,J.bare,J.base,J.hok,rv,q⟩
 cases fl with
 | ret u =>
  obtain⟨v,σ',H',J,rv,q⟩:=hs;exact fin J rv q
 | next =>
  obtain⟨σ',H',J,q⟩:=hs;exact fin (v:=V.non) (u:=Value.none) J rfl q
 | brk =>
  obtain⟨_,_,_,q⟩:=hs;exact False.elim q
 | cont =>
  obtain⟨_,_,_,q⟩:=hs;exact False.elim q
end L2
namespace L2
open PySem PySem.Spec PyProof.Rows
section
variable {X:Cx} {x:Str} {p pos:Pos} {e:Expr} {es:List Expr} {t:TA} {id T:String} {r:List V->Hp->VK->Prop}
noncomputable def tCB (r:List V->Hp->VK->Prop) (t:TA):TE:=fun σ H Q=>t σ H fun vs H1=>r vs H1 Q
theorem Zk (hc:CallR X (.builtin id) r) (hg:Gl X x) (hm:X.mg x=none) (hv:bootBuiltins x=some (.builtin id)) (ha:PA X (e::es) t) (hn:x≠"__name__":=by decide) (hdb:(x==("__debug__":Str))=false:=by decide)
  (he:starEach (e::es) X.env=(false,eval e X.env)::starEach es X.env:=by rfl) (hpl:(backTo pos (starEach es X.env)).any (·.1)=false:=by rfl):PE X (.Call (.Name x p) (e::es) [] pos) (tCB r t):=by
 intro pins s σ H Q I h;refine wpAny_Call_Name_kw (ZS I hg hm hv ?_ hn hdb);exact PyProof.Rows.callWith_builtin1 (thn (ha pos pins s σ H _ I h) (by rintro us s1 ⟨vs,H1,I1,r1,q1⟩;exact hc pins s1 σ H1 vs us Q I1 r1 q1)) he hpl
theorem Wq (hc:CallR X (.type T) r) (hg:Gl X x) (hm:X.mg x=none) (hv:bootBuiltins x=some (.type T)) (ha:PA X (e::es) t) (hn:x≠"__name__":=by decide) (hdb:(x==("__debug__":Str))=false:=by decide)
  (he:starEach (e::es) X.env=(false,eval e X.env)::starEach es X.env:=by rfl) (hpl:(backTo pos (starEach es X.env)).any (·.1)=false:=by rfl):PE X (.Call (.Name x p) (e::es) [] pos) (tCB r t):=by
 intro pins s σ H Q I h;refine wpAny_Call_Name_kw (ZS I hg hm hv ?_ hn hdb);exact PyProof.Rows.callWith_type1 (thn (ha pos pins s σ H _ I h) (by rintro us s1 ⟨vs,H1,I1,r1,q1⟩;exact hc pins s1 σ H1 vs us Q I1 r1 q1)) he hpl
end
end L2
namespace HT
open PySem PyProof.Rows
section
open PySem.SeqAt
open PySem.AutoSeq1 (wpAny_loadPart')
open PySem.MeetsSeq PySem.MeetsSeq2 PySem.MeetsSeq3
end
section
variable {prog:Program} {w:World} {A:Around} {E:Value->Shared->Prop} {s:Shared}
theorem cat_tup (ht:IsTup s.heap t vs.toArray) (hb:IsTup s.heap b ws.toArray) (hv:vs≠[])
  (h1:ws=[]->Q (.ref t) s) (h2:ws≠[]->Q (.ref s.heap.objs.size) {s with heap:=s.heap.push {cls:=.type "tuple",data:=.seq (vs++ws).toArray}})
  (hsz:vs.length+ws.length<=sizeLine):wpAny (model prog w) A (binaryOp .Add (.ref t) (.ref b)) Q E s:=by
 obtain⟨⟨cls,dd,data,sl⟩,ho,hc,n,hd⟩:=id ht;obtain⟨⟨cls2,dd2,data2,sl2⟩,ho2,hc2,n2,hd2⟩:=id hb;simp only at hc hd hc2 hd2;subst hc hd hc2 hd2;have e:vs.toArray++ws.toArray=(vs++ws).toArray:=by simp
 by_cases hw:ws=[]
 ·exact concat_meets ⟨_,ho,rfl⟩ ⟨_,ho2,rfl⟩ noFill_tuple_add seq_tuple_add PySem.F.slot_tuple_add PySem.F.entry_tuple_add (PySem.F.args_tuple_add_2 _ _)
   (tuple_addW1 t b vs.toArray ws.toArray n n2 dd dd2 sl sl2 (by simpa using hv) (by simp[hw])) ⟨ho,ho2,h1 hw⟩
 ·refine concat_meets ⟨_,ho,rfl⟩ ⟨_,ho2,rfl⟩ noFill_tuple_add seq_tuple_add PySem.F.slot_tuple_add PySem.F.entry_tuple_add (PySem.F.args_tuple_add_2 _ _)
   (tuple_addW2 t b vs.toArray ws.toArray n n2 dd dd2 sl sl2 (by simpa using hv) (by simpa using hw) (by rw[List.size_toArray,List.size_toArray];exact hsz)) ⟨ho,ho2,?_⟩
  rw[e];exact h2 hw
noncomputable def sIx (n d:Nat):Option Int->Nat
 | none=>d
 | some v=>if v<0 then (v+(n:Int)).toNat else min v.toNat n
theorem sIx_none (n d:Nat):sIx n d none=d:=rfl
theorem sIx_nat (n d k:Nat):sIx n d (some (k:Int))=min k n:=by
 show (if (k:Int)<0 then ((k:Int)+(n:Int)).toNat else min (k:Int).toNat n)=min k n;rw[if_neg %[|5],Int.toNat_natCast]
theorem GD (n d:Nat) (hd:d<=n) (o:Option Int):sIx n d o<=n:=by
 cases o with
 | none=>exact hd
 | some v =>
  show (if v<0 then (v+(n:Int)).toNat else min v.toNat n)<=n;by_cases hv:v<0
  ·rw[if_pos hv];omega
  ·rw[if_neg hv];exact Nat.min_le_right _ _
theorem B4 (v:Int) (n d:Nat):(if v<0 then max (v+(n:Int)) 0 else min v (n:Int))=((sIx n d (some v):Nat):Int):=by
 show (if v<0 then max (v+(n:Int)) 0 else min v (n:Int))=(((if v<0 then (v+(n:Int)).toNat else min v.toNat n):Nat):Int);by_cases hv:v<0
 ·simp only[if_pos hv];omega
 ·simp only[if_neg hv];omega
theorem Av (lo hi:Option Int) (n:Nat):Builtin.Slice.sliceAdjust lo hi 1 (n:Int)=(((sIx n 0 lo:Nat):Int),((sIx n n hi:Nat):Int)):=by
 have h1:¬ ((1:Int)<0):=by omega
 unfold Builtin.Slice.sliceAdjust;simp only[h1,if_false];refine Prod.ext ?_ ?_
 ·cases lo with
  | none=>rfl
  | some v=>exact B4 v n 0
 ·cases hi with
  | none=>rfl
  | some v=>exact B4 v n n
theorem A8 (i j:Nat):Builtin.Slice.slicePlaces (i:Int) (j:Int) 1=j-i:=by
 unfold Builtin.Slice.slicePlaces;have h1:(1:Int) > 0:=by omega
 simp only[h1,if_true,Int.ediv_one];split<;>omega
theorem Vl (p:IsPart v o) (h:Q o s):wpAny (model prog w) A (Builtin.Slice.slicePartIndex v) Q E s:=by
 cases p with
 | none=>exact slicePart_none h
 | int i t=>exact slicePart_int h
theorem ZX {sl:Addr} {vl vu:Value} {lo hi:Option Int} {n:Nat} {Q:Int×Int×Nat->Shared->Prop} (hs:s.heap.IsSliceOf sl vl vu .none) (pl:IsPart vl lo) (pu:IsPart vu hi)
  (h:Q (((sIx n 0 lo:Nat):Int),1,sIx n n hi-sIx n 0 lo) s):wpAny (model prog w) A (Builtin.Slice.sliceApplied (.ref sl) (pure (n:Int))) Q E s:=by
 obtain⟨os,hos,hcs,hds⟩:=id hs;unfold Builtin.Slice.sliceApplied Builtin.Slice.sliceFields;refine wpAny_bind (wpAny_bind (wpAny_field hos hds (x:=vl) rfl (wpAny_bind (wpAny_field hos hds (x:=vu) rfl (wpAny_bind (wpAny_field hos hds (x:=.none) rfl (wpAny_pure ?_)))))));refine wpAny_bind (slicePart_none ?_);show wpAny _ _ (if ((1:Int)==0)=true then _ else _) _ _ s;rw[if_neg %[|4]];refine wpAny_bind (Vl pl (wpAny_bind (Vl pu (wpAny_bind (wpAny_pure ?_)))));show wpAny _ _ (match Builtin.Slice.sliceAdjust lo hi 1 (n:Int) with|(lo,hi)=>pure (lo,(1:Int),Builtin.Slice.slicePlaces lo hi 1)) _ _ s;rw[Av lo hi n];show wpAny _ _ (pure (((sIx n 0 lo:Nat):Int),(1:Int),Builtin.Slice.slicePlaces ((sIx n 0 lo:Nat):Int) ((sIx n n hi:Nat):Int) 1)) _ _ s;rw[A8];exact wpAny_pure h
theorem CH (xs:Array Value) (i k:Nat):((List.range k).filterMap fun (m:Nat)=>xs[((i:Int)+(m:Int)*1).toNat]?).toArray=((xs.toList.drop i).take k).toArray:=by
 have e:(fun (m:Nat)=>xs[((i:Int)+(m:Int)*1).toNat]?)=fun m=>xs[i+m]?:=by
  funext m
  have:((i:Int)+(m:Int)*1).toNat=i+m:=by omega
  rw[this]
 rw[e];have:=pick_run xs i k;rw[List.filterMap_map] at this;have e2:((fun x=>xs[x]?) ∘ fun x=>i+x)=fun m=>xs[i+m]?:=rfl;rw[e2] at this;rw[this]
theorem getItem_tuple_cut {t sl:Addr} {items:Array Value} {vl vu:Value} {lo hi:Option Int} {Q:Value->Shared->Prop} (ht:IsTup s.heap t items) (hs:s.heap.IsSliceOf sl vl vu .none) (pl:IsPart vl lo) (pu:IsPart vu hi)
  (hw:¬ (sIx items.size 0 lo=0/\sIx items.size items.size hi=items.size))
  (h:Q (.ref s.heap.objs.size) {s with heap:=s.heap.push {cls:=.type "tuple",data:=.seq ((items.toList.drop (sIx items.size 0 lo)).take (sIx items.size items.size hi-sIx items.size 0 lo)).toArray}})
  (hsz:items.size<=sizeLine):wpAny (model prog w) A (getItem (.ref t) (.ref sl)) Q E s:=by
 have htake:sizeOk (.seq ((items.toList.drop (sIx items.size 0 lo)).take (sIx items.size items.size hi-sIx items.size 0 lo)).toArray):=by
  show ((items.toList.drop (sIx items.size 0 lo)).take (sIx items.size items.size hi-sIx items.size 0 lo)).toArray.size<=sizeLine;rw[List.size_toArray,List.length_take,List.length_drop,Array.length_toList];omega
 have hj:sIx items.size items.size hi<=items.size:=GD _ _ %[|3] hi;obtain⟨os,hos,hcs,hds⟩:=id hs;have hTs:s.TypeIs (.ref sl) "slice":=⟨os,hos,hcs⟩;unfold getItem
 try with_reducible refine wpAny_holding ?_
 first|refine wpAny_bind (wpAny_pure ?_)|skip
 refine wpAny_bind (wpAny_sequenceKey ht.typeIs %[|4] ?_);refine wpAny_bind (wpAny_callSpecial?_slot (name:=Str.ofString "__getitem__") ht.typeIs PyProof.Rows.slot_tuple_getitem
  (wpAny_call_entry PyProof.Rows.slot_tuple_getitem ht.typeIs entry_tuple_getitem ?_ (args_tuple_getitem _ _)))
 show wpAny _ _ (Builtin.Tuple.tupleItemsOf (.ref t) >>= _) _ _ s;refine wpAny_bind (tupleItemsOf_ ht ?_);refine wpAny_bind (wpAny_typeOf hTs ?_);rw[if_pos %[|4]];refine wpAny_bind (ZX hs pl pu ?_);have hno:¬ ((((sIx items.size 0 lo:Nat):Int)==0&&(1:Int)==1&&(sIx items.size items.size hi-sIx items.size 0 lo)==items.size)=true):=by
  intro q;rw[Bool.and_eq_true,Bool.and_eq_true] at q;have q1:((sIx items.size 0 lo:Nat):Int)=0:=eq_of_beq q.1.1;have q2:sIx items.size items.size hi-sIx items.size 0 lo=items.size:=eq_of_beq q.2;exact hw ⟨by omega,by omega⟩
 show wpAny _ _ (if (((sIx items.size 0 lo:Nat):Int)==0&&(1:Int)==1&&(sIx items.size items.size hi-sIx items.size 0 lo)==items.size)=true then _ else _) _ _ s;rw[if_neg hno,CH]
 first
  | exact wpAny_bind (m:=Builtin.Tuple.tupleExact _) (wpAny_newObj_type (wpAny_pure ⟨_,rfl,wpAny_pure h⟩) htake)
  | exact wpAny_bind (m:=Builtin.Tuple.tupleExact _) (wpAny_newObj_type (wpAny_bind (wpAny_pure (wpAny_pure ⟨_,rfl,wpAny_pure h⟩))) htake)
  | exact wpAny_bind (wpAny_bind (m:=Builtin.Tuple.tupleExact _) (wpAny_newObj_type (wpAny_pure (wpAny_pure ⟨_,rfl,wpAny_pure h⟩)) htake))
  | exact wpAny_bind (wpAny_bind (m:=Builtin.Tuple.tupleExact _) (wpAny_newObj_type (wpAny_pure ⟨_,rfl,wpAny_pure h⟩) htake))
end
end HT
namespace L2
open PySem PySem.Spec PyProof.Rows
abbrev TO:=St->Hp->(Option Int->Hp->Prop)->Prop
noncomputable def PO (X:Cx) (e:Option Expr) (t:TO):Prop :=
 ∀ (pins:List (Addr×Obj)) (s:Shared) (σ:St) (H:Hp) (Q:Option Int->Hp->Prop),Inv X pins σ H s->t σ H Q ->
  wpAny (model X.prog X.w) X.A (evalPart e X.env) (fun u s'=>∃ o H',Inv X pins σ H' s'/\IsPart u o/\Q o H') X.xe s
noncomputable def Ez:TO:=fun _ H Q=>Q none H
noncomputable def Ix (t:TE):TO:=fun σ H Q=>t σ H fun x H1=>∃ i,x=.int i/\Q (some i) H1
section
variable {X:Cx} {e:Expr} {te:TE} {lo hi:Option Expr} {tl th:TO} {pos p2:Pos}
theorem EO:PO X none Ez:=by
 intro pins s σ H Q I h;rw[evalPart_none];exact wpAny_pure ⟨none,H,I,.none,h⟩
theorem EN (h:PE X e te):PO X (some e) (Ix te):=by
 intro pins s σ H Q I hw;rw[evalPart_some];refine thn (h pins s σ H _ I hw) fun u s1 hq2=>?_;obtain⟨x,H1,I1,r1,q1⟩:=hq2;obtain⟨i,rfl,q⟩:=q1;obtain⟨t,rfl⟩:=r1;exact⟨some i,H1,I1,.int i t,q⟩
noncomputable def SlR (X:Cx) (r:V->Option Int->Option Int->Hp->VK->Prop):Prop :=
 ∀ (pins:List (Addr×Obj)) (s:Shared) (σ:St) (H:Hp) (x:V) (v vl vu:Value) (lo hi:Option Int) (sl:Addr) (Q:VK),Inv X pins σ H s->RelV x v->s.heap.IsSliceOf sl vl vu .none->IsPart vl lo->IsPart vu hi->r x lo hi H Q ->
  ∃ T id,typeLookup (.type T) "__getitem__"=pure (some (.builtin id))/\s.TypeIs v T/\wpAny (model X.prog X.w) X.A (getItem v (.ref sl)) (EP X pins σ Q) X.xe s
noncomputable def tSl (r:V->Option Int->Option Int->Hp->VK->Prop) (te:TE) (tl th:TO):TE:=fun σ H Q=>te σ H fun x H1=>tl σ H1 fun l H2=>th σ H2 fun u H3=>r x l u H3 Q
theorem CL (hr:SlR X r) (he:PE X e te) (hl:PO X lo tl) (hu:PO X hi th):PE X (.Subscript e (.Slice lo hi none p2) pos) (tSl r te tl th):=by
 intro pins s σ H Q I h;refine Subscript_ (thn (he pins s σ H _ I h) fun v s1 hq2=>?_);obtain⟨x,H1,I1,r1,q1⟩:=hq2;refine wpAny_Slice (thn (hl pins s1 σ H1 _ I1 q1) fun vl s2 ⟨l,H2,I2,pl,q2⟩=>thn (hu pins s2 σ H2 _ I2 q2) fun vu s3 hq2=>?_);obtain⟨u,H3,I3,pu,q3⟩:=hq2;rw[evalPart_none];refine wpAny_pure ?_;have I4:Inv X pins σ H3 {s3 with heap:=s3.heap.push {cls:=.type "slice",data:=.fields #[vl,vu,.none]}}:=I3.kept (t':=s3.toks) fun b ob q=>Heap.get?_push_of_some _ q;obtain⟨T,id,hT,ht,hg⟩:=hr pins {s3 with heap:=s3.heap.push {cls:=.type "slice",data:=.fields #[vl,vu,.none]}} σ H3 x v vl vu l u s3.heap.objs.size Q I4 r1 (Heap.IsSliceOf.new ..) pl pu q3;show wpAny (model X.prog X.w) X.A (subscriptTail e (.Slice lo hi none p2) v (.ref s3.heap.objs.size)) (EP X pins σ Q) X.xe {s3 with heap:=s3.heap.push {cls:=.type "slice",data:=.fields #[vl,vu,.none]}};exact tail_any (ops:=[.ref s3.heap.objs.size,v]) ht hT hg (by with_unfolding_all rfl)
noncomputable def cutV (xs:List V) (lo hi:Option Int):List V:=(xs.drop (HT.sIx xs.length 0 lo)).take (HT.sIx xs.length xs.length hi-HT.sIx xs.length 0 lo)
theorem WL (xs:List V) (lo hi:Option Int):(cutV xs lo hi).length<=xs.length:=by
 unfold cutV;rw[List.length_take,List.length_drop];omega
noncomputable def rSlT (K:Frag):V->Option Int->Option Int->Hp->VK->Prop:=fun x lo hi H Q=>∃ a xs,x=.ref a/\SqT K H a xs /\
 ¬ (HT.sIx xs.length 0 lo=0/\HT.sIx xs.length xs.length hi=xs.length)/\∀ p,H p=none->Q (.ref p) (upd H p (.tup (cutV xs lo hi)))
theorem GC:SlR X (rSlT X.K):=by
 intro pins s σ H x v vl vu lo hi sl Q I rx hs pl pu h;obtain⟨a,xs,rfl,hx,hw,q⟩:=h;cases rx;obtain⟨its,r,ht,hz⟩:=I.tuple hx;have hlen:its.toArray.size=xs.length:=by rw[List.size_toArray];exact r.length.symm
 refine⟨"tuple",_,PyProof.Rows.slot_tuple_getitem.lookup,ht.typeIs,?_⟩;refine HT.getItem_tuple_cut ht hs pl pu (by rw[hlen];exact hw) ?_ (by rw[hlen];exact hz);rw[hlen];refine⟨.ref s.heap.objs.size,_,I.laid (t':=s.toks) (o:=.tup (cutV xs lo hi)) (fun b ob q=>Heap.get?_push_of_some _ q) %[|3] ?_,rfl,q _ (I.hok.fresh %[|3])⟩;exact⟨Nat.le_trans (WL xs lo hi) hz,_,(r.drop (HT.sIx xs.length 0 lo)).take (HT.sIx xs.length xs.length hi-HT.sIx xs.length 0 lo),IsTup.new _ _⟩
noncomputable def II (K:Frag):R2:=fun x y H Q=>∃ a b xs ys,x=.ref a/\y=.ref b/\SqT K H a xs/\SqT K H b ys/\xs≠[]/\xs.length+ys.length<=sizeLine /\
 (ys=[]->Q (.ref a) H)/\(ys≠[]->∀ p,H p=none->Q (.ref p) (upd H p (.tup (xs++ys))))
theorem Vals.nil_iff (r:Vals xs us):us=[] ↔ xs=[]:=by
 cases r with
 | nil=>simp
 | cons _ _=>simp
theorem EX:OpR X (binaryOp .Add) (II X.K):=by
 intro pins s σ H x y v u Q I rx ry h;obtain⟨a,b,xs,ys,rfl,rfl,ha,hb,hx,hz,q1,q2⟩:=h;cases rx;cases ry;obtain⟨its,r1,p1,_⟩:=I.tuple ha;obtain⟨its2,r2,p2,_⟩:=I.tuple hb;refine HT.cat_tup p1 p2 (fun z=>hx (r1.nil_iff.mp z)) (fun z=>⟨.ref a,H,I,rfl,q1 (r2.nil_iff.mp z)⟩) (fun z=>?_) (by rw[<- r1.length,<- r2.length];exact hz);refine⟨.ref s.heap.objs.size,_,I.laid (t':=s.toks) (o:=.tup (xs++ys)) (fun b ob q=>Heap.get?_push_of_some _ q) %[|3] ?_,rfl,q2 (fun w=>z (r2.nil_iff.mpr w)) _ (I.hok.fresh %[|3])⟩;exact⟨by rw[List.length_append];exact hz,_,r1.append r2,IsTup.new _ _⟩
end
end L2
namespace L2
open PySem PySem.Spec PyProof.Rows
noncomputable def ixN (n:Nat) (i:Int):Option Nat:=if 0<=i then (if i<n then some i.toNat else none) else if -(n:Int)<=i then some (i+n).toNat else none
noncomputable def atI {α:Type} (xs:List α) (i:Int):Option α:=(ixN xs.length i).bind fun j=>xs[j]?
theorem AM (h:ixN n i=some j):seqIndex? i n=some j/\j<n/\-(n:Int)<=i/\i<n:=by
 unfold ixN at h;by_cases h0:0<=i
 ·rw[if_pos h0] at h
  by_cases h1:i<n
  ·rw[if_pos h1] at h
   have e:i.toNat=j:=Option.some.inj h;exact⟨by rw[seqIndex_of h0 h1,e],by omega,by omega,h1⟩
  ·rw[if_neg h1] at h;cases h
 ·rw[if_neg h0] at h
  by_cases h1:-(n:Int)<=i
  ·rw[if_pos h1] at h
   have e:(i+n).toNat=j:=Option.some.inj h;exact⟨by rw[seqIndex_neg %[|5] h1,e],by omega,h1,by omega⟩
  ·rw[if_neg h1] at h;cases h
theorem UU (h:atI xs i=some v):∃ j,seqIndex? i xs.length=some j/\xs[j]?=some v/\j<xs.length/\-(xs.length:Int)<=i/\i<xs.length:=by
 unfold atI at h;cases e:ixN xs.length i with
 | none=>rw [e] at h;cases h
 | some j =>
  rw[e] at h;obtain⟨h1,h2,h3,h4⟩:=AM e;exact⟨j,h1,h,h2,h3,h4⟩
theorem atI_nat {α:Type} {xs:List α} {j:Nat} {v:α} (h:xs[j]?=some v):atI xs (j:Int)=some v:=by
 have hj:j<xs.length:=(List.getElem?_eq_some_iff.mp h).1;have e:ixN xs.length (j:Int)=some j:=by
  unfold ixN;rw[if_pos %[|5],if_pos %[|5]];simp
 unfold atI;rw[e];exact h
noncomputable def UX (b:Expr):Prop:=∀ o i,subscripted b false o i=operate [o,i] (getItem o i)
noncomputable def IxR (X:Cx) (r:R2):Prop :=
 ∀ (value slice:Expr) (pins:List (Addr×Obj)) (s:Shared) (σ:St) (H:Hp) (x y:V) (v u:Value) (Q:VK),Inv X pins σ H s->RelV x v->RelV y u->r x y H Q ->
  subscripted slice false v u=operate [v,u] (getItem v u)->wpAny (model X.prog X.w) X.A (subscriptTail value slice v u) (EP X pins σ Q) X.xe s
noncomputable def MtR (X:Cx) (id:String) (r:V->List V->Hp->VK->Prop):Prop :=
 ∀ (pins:List (Addr×Obj)) (s:Shared) (σ:St) (H:Hp) (x:V) (xs:List V) (v:Value) (us:List Value) (Q:VK),Inv X pins σ H s->RelV x v->Vals xs us->r x xs H Q ->
  wpAny (model X.prog X.w) X.A (call (.builtin id) (v::us)) (EP X pins σ Q) X.xe s
section
variable {X:Cx} {a b:Expr} {ta tb:TE} {pos:Pos}
theorem IO (hr:IxR X r) (ha:PE X a ta) (hb:PE X b tb) (hs:UX b):PE X (.Subscript a b pos) (tOp r ta tb):=by
 intro pins s σ H Q I h;exact Subscript_ (binT ha hb I h fun v u s2 x y H2 I2 rx ry q=>hr a b pins s2 σ H2 x y v u Q I2 rx ry q (hs _ _))
noncomputable def rIxL (K:Frag):R2:=fun x y H Q=>∃ p xs i v,x=.ref p/\y=.int i/\SqL K H p xs/\atI xs i=some v/\Q v H
noncomputable def rIxT (K:Frag):R2:=fun x y H Q=>∃ p xs i v,x=.ref p/\y=.int i/\SqT K H p xs/\atI xs i=some v/\Q v H
noncomputable def rIxS:R2:=fun x y H Q=>∃ z i c,x=.str z/\y=.int i/\z.length<=sizeLine/\atI z.cps.toList i=some c/\Q (.str ⟨#[c]⟩) H
theorem AK:IxR X (rIxL X.K):=by
 intro value slice pins s σ H x y v u Q I rx ry h hs;obtain⟨p,xs,i,z,rfl,rfl,hq,he,q⟩:=h;cases rx;obtain⟨t,rfl⟩:=ry;obtain⟨its,r,pl,hz⟩:=I.list hq;obtain⟨j,h1,h2,h3,h4,h5⟩:=UU he;obtain⟨w,ew,rw'⟩:=r.get h2;have hl:=r.length;have hn:=XM;have fin:EP X pins σ Q w s:=⟨z,H,I,rw',q⟩;by_cases h0:0<=i
 ·have hj:i.toNat=j:=by
   rw[seqIndex_of h0 h5] at h1;exact Option.some.inj h1
  exact item_listR pl.isList h0 %[|5] (by rw[hj];simpa using ew) fin hs
 ·have hj:(i+(its.toArray.size:Int)).toNat=j:=by
   rw[seqIndex_neg %[|5] h4] at h1;rw[List.size_toArray,<- hl];exact Option.some.inj h1
  exact subscriptTail_builtinR (x:=w) pl.isList.typeIs slot_list_getitem.lookup
   (wpAny_getItem_list_neg (Q:=fun r s'=>r=w/\EP X pins σ Q r s') pl.isList %[|5] (by rw[List.size_toArray]<;>omega) %[|5] (by rw[hj];simpa using ew) ⟨rfl,fin⟩) hs
theorem Hx:IxR X (rIxT X.K):=by
 intro value slice pins s σ H x y v u Q I rx ry h hs;obtain⟨p,xs,i,z,rfl,rfl,hq,he,q⟩:=h;cases rx;obtain⟨t,rfl⟩:=ry;obtain⟨its,r,pl,hz⟩:=I.tuple hq;obtain⟨j,h1,h2,h3,h4,h5⟩:=UU he;obtain⟨w,ew,rw'⟩:=r.get h2;have hl:=r.length;have hn:=XM;have fin:EP X pins σ Q w s:=⟨z,H,I,rw',q⟩;exact subscriptTail_builtinR (x:=w) pl.typeIs slot_tuple_getitem.lookup
  (getItem_tuple (j:=j) (Q:=fun r s'=>r=w/\EP X pins σ Q r s') pl %[|5] %[|5] (by rw[List.size_toArray,<- hl];exact h1) (by simpa using ew) ⟨rfl,fin⟩) hs
theorem Hy:IxR X rIxS:=by
 intro value slice pins s σ H x y v u Q I rx ry h hs;obtain⟨z,i,c,rfl,rfl,hz,he,q⟩:=h;obtain⟨t,rfl⟩:=rx;obtain⟨t',rfl⟩:=ry;obtain⟨j,h1,h2,h3,h4,h5⟩:=UU he;have hl:z.cps.toList.length=z.length:=by simp[Str.length]
 rw[hl] at h1 h4 h5;have hn:=XM;exact tail_any (typeIs_str s z t) slot_str_getitem.lookup (getItem_str (c:=c) (by
  have e1:decide (i < -(2 ^ 63:Int))=false:=decide_eq_false %[|5];have e2:decide (i ≥ 2 ^ 63)=false:=decide_eq_false %[|5];rw[e1,e2,Bool.or_false]) (by rw[h1];simpa using h2) ⟨.str ⟨#[c]⟩,H,I.tok _,⟨_,rfl⟩,q⟩) hs
theorem Af (its:List Value) (n j:Nat) (u:Value):Obj.mapSeq (·.setIfInBounds j u) {cls:=.type "list",data:=.seq its.toArray n}={cls:=.type "list",data:=.seq (its.set j u).toArray n}:=by
 simp[Obj.mapSeq]
theorem Inv.lst {pins:List (Addr×Obj)} {σ:St} {H:Hp} {s:Shared} {p:Addr} {xs:List V} (I:Inv X pins σ H s) (h:H p=some (.lst xs)) :
  ∃ (its:List Value) (n:Nat),Vals xs its/\s.heap.get? p=some {cls:=.type "list",data:=.seq its.toArray n}/\xs.length<=sizeLine:=by
 obtain⟨z,its,n,r,e⟩:=I.hok p _ h;exact⟨its,n,r,e,z⟩
theorem Inv.lstUpd {pins:List (Addr×Obj)} {σ:St} {H:Hp} {s:Shared} {p:Addr} {xs ys:List V} {its its':List Value} {n n':Nat} {f:Obj->Obj} (I:Inv X pins σ H s) (h:H p=some (.lst xs))
  (ho:s.heap.get? p=some {cls:=.type "list",data:=.seq its.toArray n}) (hf:f {cls:=.type "list",data:=.seq its.toArray n}={cls:=.type "list",data:=.seq its'.toArray n'}) (r:Vals ys its') (hz:ys.length<=sizeLine) (t:Nat) :
  Inv X pins σ (upd H p (.lst ys)) {s with heap:=s.heap.update p f,toks:=t}:=by
 have e:(s.heap.update p f).get? p=some {cls:=.type "list",data:=.seq its'.toArray n'}:=by
  rw[Heap.get?_update_self f ho (by rw[hf]<;>rfl),hf]
 refine I.write (x:=p) (e:=p) (by rw[h];trivial) (.inl rfl) (fun b u hb q=>(Heap.get?_update_other _ _ (Ne.symm hb)).trans q) ⟨_,e⟩ ?_;exact⟨hz,its',n',r,e⟩
noncomputable def IG:V->V->V->Hp->(Hp->Prop)->Prop:=fun o i v H Q=>∃ p xs k j,o=.ref p/\i=.int k/\H p=some (.lst xs)/\ixN xs.length k=some j/\Q (upd H p (.lst (xs.set j v)))
theorem Cj:PSet X IG:=by
 intro pins s σ H o i v ov iv u Q I ro ri rv h;obtain⟨p,xs,k,j,rfl,rfl,hp,hj,q⟩:=h;cases ro;obtain⟨t,rfl⟩:=ri;obtain⟨its,n,r,ho,hz⟩:=I.lst hp;obtain⟨h1,h2,h3,h4⟩:=AM hj;have hl:=r.length;have hn:=XM;have I':Inv X pins σ (upd H p (.lst (xs.set j v))) {s with heap:=s.heap.update p (Obj.mapSeq (·.setIfInBounds j u))} :=
  I.lstUpd hp ho (Af its n j u) (r.set rv j) (by rw[List.length_set];exact hz) s.toks
 by_cases h0:0<=k
 ·have hk:k.toNat=j:=by
   rw[seqIndex_of h0 h4] at h1;exact Option.some.inj h1
  exact PySem.W.ki_setAt ho h0 %[|5] (by rw[List.size_toArray,<- hl];exact h4) (by rw[hk];exact⟨_,I',q⟩)
 ·have hk:(k+(its.toArray.size:Int)).toNat=j:=by
   rw[seqIndex_neg %[|5] h3] at h1;rw[List.size_toArray,<- hl];exact Option.some.inj h1
  exact PySem.W.ki_setBack ho %[|5] (by rw[List.size_toArray,<- hl];exact h3) %[|5] (by rw[hk];exact⟨_,I',q⟩)
theorem UD (lo hi:Option Int) (n:Nat):(sliceBounds lo hi none n).1=((HT.sIx n 0 lo:Nat):Int)/\(sliceBounds lo hi none n).2.1=((HT.sIx n n hi:Nat):Int)/\(sliceBounds lo hi none n).2.2=1:=by
 refine⟨?_,?_,rfl⟩
 ·cases lo with
  | none=>simp[sliceBounds,HT.sIx]
  | some i =>
   simp only[sliceBounds,HT.sIx,Option.getD_none,show (1:Int) > 0 by decide,if_true];by_cases h:i<0
   ·simp only[h,if_true]<;>omega
   ·simp only[h,if_false]<;>omega
 ·cases hi with
  | none=>simp[sliceBounds,HT.sIx]
  | some i =>
   simp only[sliceBounds,HT.sIx,Option.getD_none,show (1:Int) > 0 by decide,if_true];by_cases h:i<0
   ·simp only[h,if_true]<;>omega
   ·simp only[h,if_false]<;>omega
theorem VP (its:List Value) (lo hi:Option Int):slicePick its.toArray lo hi none=((its.drop (HT.sIx its.length 0 lo)).take (HT.sIx its.length its.length hi-HT.sIx its.length 0 lo)).toArray:=by
 obtain⟨h1,h2,h3⟩:=UD lo hi its.toArray.size;unfold slicePick;rw[h1,h2,h3];simp only[sliceRange_one,pick_run,List.size_toArray]<;>rfl
noncomputable def rSlL (K:Frag):V->Option Int->Option Int->Hp->VK->Prop:=fun x lo hi H Q=>∃ a xs,x=.ref a/\SqL K H a xs/\∀ p,H p=none->Q (.ref p) (upd H p (.lst (cutV xs lo hi)))
theorem AB:SlR X (rSlL X.K):=by
 intro pins s σ H x v vl vu lo hi sl Q I rx hs pl pu h;obtain⟨a,xs,rfl,hx,q⟩:=h;cases rx;obtain⟨its,r,ht,hz⟩:=I.list hx;have hlen:=r.length;refine⟨"list",_,slot_list_getitem.lookup,ht.isList.typeIs,?_⟩;refine wpAny_getItem_list_slice ht.isList hs pl pu .none (by simp) ?_ (by rw[List.size_toArray]<;>omega);rw[VP,<- hlen];refine⟨.ref s.heap.objs.size,_,I.laid (t':=s.toks) (o:=.lst (cutV xs lo hi)) (fun b ob q=>Heap.get?_push_of_some _ q) %[|3] ?_,rfl,q _ (I.hok.fresh %[|3])⟩;exact⟨Nat.le_trans (WL xs lo hi) hz,_,0,(r.drop (HT.sIx xs.length 0 lo)).take (HT.sIx xs.length xs.length hi-HT.sIx xs.length 0 lo),Heap.get?_push_size _ rfl⟩
theorem UT:CallR X (.builtin "len") (fun xs H Q=>∃ p ys,xs=[.ref p]/\(SqL X.K H p ys\/SqT X.K H p ys)/\Q (.int ys.length) H):=by
 intro pins s σ H xs us Q I r h;obtain⟨p,ys,rfl,hq,q⟩:=h;obtain⟨u,rfl,rx⟩:=XU r;cases rx;have hn:=XM;rcases hq with hq|hq
 ·obtain⟨its,r',pl,hz⟩:=I.list hq
  have hlen:=r'.length;exact Calls.call_len_list pl.isList (by simp only[List.size_toArray]<;>omega) ⟨.int ys.length,H,I.tok _,⟨s.toks+1,by rw[List.size_toArray,hlen]⟩,q⟩
 ·obtain⟨its,r',pl,hz⟩:=I.tuple hq
  have hlen:=r'.length;exact len_tuple pl (by simp only[List.size_toArray]<;>omega) ⟨.int ys.length,H,I.tok _,⟨s.toks+1,by rw[List.size_toArray,hlen]⟩,q⟩
theorem US:CallR X (.builtin "len") (fun xs H Q=>∃ z,xs=[.str z]/\z.length<=sizeLine/\Q (.int z.length) H):=by
 intro pins s σ H xs us Q I r h;obtain⟨z,rfl,hz,q⟩:=h;obtain⟨u,rfl,t,rfl⟩:=XU r;have hn:=XM;exact len_str %[|5] ⟨.int z.length,H,I.tok _,⟨_,rfl⟩,q⟩
theorem CallR.or (h:CallR X f r) (h':CallR X f r'):CallR X f (fun xs H Q=>r xs H Q\/r' xs H Q):=by
 intro pins s σ H xs us Q I rs q;rcases q with q|q
 ·exact h pins s σ H xs us Q I rs q
 ·exact h' pins s σ H xs us Q I rs q
theorem UR:CallR X (.type "list") (fun xs H Q=>∃ p ys,xs=[.ref p]/\(SqL X.K H p ys\/SqT X.K H p ys)/\∀ l,H l=none->Q (.ref l) (upd H l (.lst ys))):=by
 intro pins s σ H xs us Q I r h;obtain⟨p,ys,rfl,hq,q⟩:=h;obtain⟨u,rfl,rx⟩:=XU r;cases rx;have fin:∀ (its:List Value),Vals ys its->ys.length<=sizeLine->∀ (h':Heap) (c':Nat),(∀ b o',s.heap.get? b=some o'->h'.get? b=some o') ->
   h'.get? s.heap.objs.size=some {cls:=.type "list",dict:=none,data:=.seq its.toArray c',slots:=#[]}->EP X pins σ Q (.ref s.heap.objs.size) {s with heap:=h'}:=fun its r' hz h' c' kp e =>
  ⟨.ref s.heap.objs.size,_,I.laid (t':=s.toks) kp %[|3] (show ObjOk X.prog X.w _ h' _ (.lst ys) from ⟨hz,its,c',r',e⟩),rfl,q _ (I.hok.fresh %[|3])⟩
 rcases hq with hq|hq
 ·obtain⟨its,r',pl,hz⟩:=I.list hq
  have hlen:=r'.length;obtain⟨o,ho,hc,n,hd⟩:=pl.isList;exact call_list_seq p (.inl rfl) ho hc hd (fun h' c' kp e=>fin its r' hz h' c' kp e) (by simp only[List.size_toArray]<;>omega)
 ·obtain⟨its,r',pl,hz⟩:=I.tuple hq
  have hlen:=r'.length;obtain⟨o,ho,hc,n,hd⟩:=pl;exact call_list_seq p (.inr rfl) ho hc hd (fun h' c' kp e=>fin its r' hz h' c' kp e) (by simp only[List.size_toArray]<;>omega)
theorem VR:CallR X (.type "tuple") (fun xs H Q=>∃ p ys,xs=[.ref p]/\((SqL X.K H p ys/\∀ l,H l=none->Q (.ref l) (upd H l (.tup ys)))\/(SqT X.K H p ys/\Q (.ref p) H))):=by
 intro pins s σ H xs us Q I r h;obtain⟨p,ys,rfl,h⟩:=h;obtain⟨u,rfl,rx⟩:=XU r;cases rx;rcases h with ⟨hq,q⟩|⟨hq,q⟩
 ·obtain⟨its,r',pl,hz⟩:=I.list hq
  have hlen:=r'.length;refine call_tuple_list pl.isList (fun h' kp=>?_) (by simp only[List.size_toArray]<;>omega);have I1:Inv X pins σ H {s with heap:=h'}:=I.kept (t':=s.toks) kp;have I2:Inv X pins σ (upd H h'.objs.size (.tup ys)) {s with heap:=h'.push {cls:=.type "tuple",data:=.seq its.toArray}} :=
   I1.laid (t':=s.toks) (fun b o e=>Heap.get?_push_of_some _ e) %[|3] (show ObjOk X.prog X.w _ _ _ (.tup ys) from ⟨hz,its,r',IsTup.new _ _⟩)
  exact⟨.ref h'.objs.size,_,I2,rfl,q _ (I1.hok.fresh %[|3])⟩
 ·obtain⟨its,r',pl,hz⟩:=I.tuple hq
  exact call_tuple_same pl ⟨.ref p,H,I,rfl,q⟩
noncomputable def tyV (K:Frag) (T:String) (x:V) (H:Hp):Prop:=match x with
 | .str _=>T="str"
 | .int _=>T="int"
 | .ref p=>(T="list"/\∃ xs,SqL K H p xs)\/(T="tuple"/\∃ o,K.lookup p=some o/\o.cls=.type "tuple"/\o.dict=none) \/
   (T="dict"/\((∃ kvs,H p=some (.dK kvs))\/∃ kvs,H p=some (.dT kvs)))\/(T="set"/\∃ S n,H p=some (.set S n))
 | _=>False
theorem Gv (I:Inv X pins σ H s) (r:RelV x v) (ty:tyV X.K T x H) :
  s.TypeIs v T/\∀ a,v=.ref a->∃ ob,s.heap.get? a=some ob/\ob.dict=none:=by
 cases x with
 | str z =>
  obtain⟨t,rfl⟩:=r;cases (show T="str" from ty);exact⟨typeIs_str s z t,fun _ e=>nomatch e⟩
 | int i =>
  obtain⟨t,rfl⟩:=r;cases (show T="int" from ty);exact⟨typeIs_int s i t,fun _ e=>nomatch e⟩
 | ref p =>
  cases r;rcases ty with ⟨rfl,xs,hq⟩|⟨rfl,o,hk,hc,hd⟩|⟨rfl,hk⟩|⟨rfl,S,n,hk⟩
  ·obtain⟨its,_,pl,_⟩:=I.list hq
   refine⟨pl.isList.typeIs,fun a e=>?_⟩;cases e;obtain⟨o,n,e,c,hd,_⟩:=pl;exact⟨o,e,hd⟩
  ·refine⟨⟨o,I.kIn p o hk,hc⟩,fun a e=>?_⟩
   cases e;exact⟨o,I.kIn _ o hk,hd⟩
  ·have z:∃ o,s.heap.get? p=some o/\o.ExactDict:=by
    rcases hk with ⟨kvs,hk⟩|⟨kvs,hk⟩
    ·obtain⟨_,_,_,_,o,_,_,e,ex,_⟩:=I.hok p _ hk
     exact⟨o,e,ex⟩
    ·obtain⟨_,_,_,_,o,_,_,e,ex,_⟩:=I.hok p _ hk
     exact⟨o,e,ex⟩
   obtain⟨o,e,ex⟩:=z;refine⟨⟨o,e,ex.1⟩,fun a e2=>?_⟩;cases e2;exact⟨o,e,ex.2.1⟩
  ·obtain⟨o,_,_,_,e,ex,_⟩:=I.hok p _ hk
   refine⟨⟨o,e,ex.1⟩,fun a e2=>?_⟩;cases e2;exact⟨o,e,ex.2.1⟩
 | _=>exact False.elim ty
noncomputable def tBM (K:Frag) (T:String) (r:V->List V->Hp->VK->Prop) (to:TE) (t:TA):TE:=fun σ H Q=>to σ H fun x H1=>tyV K T x H1/\t σ H1 fun xs H2=>r x xs H2 Q
variable {o e:Expr} {es:List Expr} {to:TE} {t:TA} {name:Str} {apos cpos:Pos} {T id:String} {r:V->List V->Hp->VK->Prop}
theorem CP (pa:PlainAttrs T) (slot:Slot T name id) (hty:typeOf (.builtin id)=pure (.type "method_descriptor")) (hm:MtR X id r) (ho:PE X o to) (ha:PA X (e::es) t)
  (hbase:attributeBase o name X.env (eval o X.env)=eval o X.env:=by rfl)
  (hfew:((backTo cpos (starEach (e::es) X.env)).all (fun x=>!x.1)&&(backToKw cpos (keywordEach [] X.env)).all (fun x=>x.1.isSome)
   && decide ((e::es).length+([]:List Keyword).length+(if ([]:List Keyword).isEmpty then 0 else 1)<30))=true:=by rfl)
  (hline:(apos.endLine==cpos.line)=true:=by rfl) (hs:starEach (e::es) X.env=(false,eval e X.env)::starEach es X.env:=by rfl) (hplain:(backTo cpos (starEach es X.env)).any (·.1)=false:=by rfl) :
  PE X (.Call (.Attribute o name apos) (e::es) [] cpos) (tBM X.K T r to t):=by
 intro pins s σ H Q I h;refine wpAny_Call_method_late hbase hfew hline rfl (thn (ho pins s σ H _ I h) fun v s1 hq2=>?_);obtain⟨x,H1,I1,r1,ty,q1⟩:=hq2;obtain⟨h1,h2⟩:=Gv I1 r1 ty;refine⟨T,id,pa,slot,hty,h1,h2,?_⟩;have hA:=ha cpos pins s1 σ H1 _ I1 q1;rw[hs] at hA ⊢;refine Calls.callWith_builtin (by show (false || (backTo cpos (starEach es X.env)).any (·.1))=false;rw[hplain]<;>rfl) (Calls.evalArgs_plain ?_);exact thn hA (by rintro us s2 ⟨vs,H2,I2,r2,q2⟩;exact hm pins s2 σ H2 x vs v us Q I2 r1 r2 q2)
end
end L2
namespace L2
open PySem PySem.Spec PyProof.Rows
noncomputable def MtM (X:Cx) (id:String) (r:V->List V->Hp->VK->Prop):Prop :=
 ∀ (pins:List (Addr×Obj)) (s:Shared) (σ:St) (H:Hp) (x:V) (xs:List V) (v:Value) (us:List Value) (Q:VK),Inv X pins σ H s->RelV x v->Vals xs us->r x xs H Q ->
  wpAny (model X.prog X.w) X.A (call (.builtin id) (v::us)) (EP X pins σ Q) X.xe s
theorem Vals.one:∀ {x:V} {us:List Value},Vals [x] us->∃ u,us=[u]/\RelV x u
 | _,_,.cons r .nil=>⟨_,rfl,r⟩
theorem Vals.rep (h:Vals xs us):∀ k:Nat,Vals (List.replicate k xs).flatten (List.replicate k us).flatten
 | 0=>.nil
 | k+1=>by
  rw[List.replicate_succ,List.replicate_succ,List.flatten_cons,List.flatten_cons];exact Vals.append h (Vals.rep h k)
theorem XE (its:List Value):∀ (k:Nat) (acc:List Value),
  List.foldl (fun x1 x2=>x1++x2) acc.toArray (List.replicate k its.toArray)=(acc++(List.replicate k its).flatten).toArray
 | 0,acc=>by simp
 | k+1,acc=>by
  have e:acc.toArray++its.toArray=(acc++its).toArray:=by simp
  have e2:(acc++its)++(List.replicate k its).flatten=acc++(List.replicate (k+1) its).flatten:=by
   rw[List.replicate_succ,List.flatten_cons,List.append_assoc]
  rw[<- e2,<- XE its k (acc++its),<- e,List.replicate_succ,List.foldl_cons]
section
variable {X:Cx} {pins:List (Addr×Obj)} {σ:St} {H:Hp} {s:Shared} {l b:Addr} {xs ys zs:List V}
theorem Inv.lset {its its':List Value} {n:Nat} {f:Array Value->Array Value} {t':Nat} (I:Inv X pins σ H s) (hH:H l=some (.lst xs))
  (e:s.heap.get? l=some {cls:=.type "list",data:=.seq its.toArray n}) (hf:f its.toArray=its'.toArray) (hv:Vals ys its') (hz:ys.length<=sizeLine) :
  Inv X pins σ (upd H l (.lst ys)) {s with heap:=s.heap.update l (Obj.mapSeq f),toks:=t'}:=by
 have q:=PySem.IsL.update e f;rw[hf] at q;refine I.write (x:=l) (e:=l) (by rw[hH];exact trivial) (.inl rfl) (fun b' u hb hu=>(Heap.get?_update_other s.heap (Obj.mapSeq f) (Ne.symm hb)).trans hu) ⟨_,q⟩ ?_;exact⟨hz,its',_,hv,q⟩
theorem Inv.lnew (I:Inv X pins σ H s) (hv:Vals ys its) (hz:ys.length<=sizeLine) :
  Inv X pins σ (upd H s.heap.objs.size (.lst ys)) {s with heap:=s.heap.push {cls:=.type "list",data:=.seq its.toArray},toks:=t'} :=
 I.laid (fun _ _ q=>Heap.get?_push_of_some _ q) %[|3] ⟨hz,its,0,hv,Heap.get?_push_size _ rfl⟩
theorem Inv.fresh (I:Inv X pins σ H s):H s.heap.objs.size=none:=I.hok.fresh %[|3]
theorem Inv.lstM (I:Inv X pins σ H s) (hH:H l=some (.lst xs)):xs.length<=sizeLine/\∃ (its:List Value) (n:Nat),Vals xs its/\xs.length=its.length/\s.heap.get? l=some {cls:=.type "list",data:=.seq its.toArray n}:=by
 obtain⟨z,its,n,r,e⟩:=I.hok l _ hH;exact⟨z,its,n,r,r.length,e⟩
theorem Jn (h:n<=sizeLine):Builtin.List.listTooLong n=false:=by
 unfold Builtin.List.listTooLong;exact decide_eq_false %[|5]
end
section
variable {X:Cx}
noncomputable def EI:V->List V->Hp->VK->Prop:=fun x vs H Q=>∃ l xs y,x=.ref l/\vs=[y]/\H l=some (.lst xs)/\xs.length<sizeLine/\Q .non (upd H l (.lst (xs++[y])))
theorem U4:MtM X "list.append" EI:=by
 intro pins s σ H x vs v us Q I rx rv h;obtain⟨l,xs,y,rfl,rfl,hH,hz,q⟩:=h;cases rx;obtain⟨u,rfl,ru⟩:=rv.one;obtain⟨z,its,n,r,hl,e⟩:=I.lstM hH;refine call_meets F.slot_list_append ⟨_,e,rfl⟩ F.entry_list_append (F.args_list_append_2 _ _) (PySem.list_append l its.toArray n u (by rw[List.size_toArray];omega)) ⟨e,?_⟩;refine⟨.non,_,I.lset (its':=its++[u]) hH e (by simp) (r.append (.cons ru .nil)) ?_,rfl,q⟩;rw[List.length_append,List.length_singleton];omega
noncomputable def EH:V->List V->Hp->VK->Prop:=fun x vs H Q=>∃ l b xs zs,x=.ref l/\vs=[.ref b]/\H l=some (.lst xs)/\H b=some (.lst zs)/\xs.length+zs.length<=sizeLine/\Q .non (upd H l (.lst (xs++zs)))
theorem Bp:MtM X "list.extend" EH:=by
 intro pins s σ H x vs v us Q I rx rv h;obtain⟨l,b,xs,zs,rfl,rfl,hH,hB,hz,q⟩:=h;cases rx;obtain⟨u,rfl,ru⟩:=rv.one;cases ru;obtain⟨z,its,n,r,hl,e⟩:=I.lstM hH;obtain⟨z2,its2,n2,r2,hl2,e2⟩:=I.lstM hB;have hsz:its.toArray.size+its2.toArray.size<=sizeLine:=by rw[List.size_toArray,List.size_toArray];omega
 have hlong:¬ (!its.toArray.isEmpty&&Builtin.List.listTooLong (its.toArray.size+its2.toArray.size))=true:=by
  rw[Jn hsz,Bool.and_false];exact Bool.false_ne_true
 refine call_meets F.slot_list_extend ⟨_,e,rfl⟩ F.entry_list_extend (F.args_list_extend_2 _ _)
  (AutoSeq1.list_extend_list_list_0 l its.toArray n b its2.toArray n2 hlong (by rw[List.size_toArray];omega) %[|5]) ⟨e,e2,?_⟩
 refine⟨.non,_,I.lset (its':=its++its2) hH e (by simp) (r.append r2) ?_,rfl,q⟩;rw[List.length_append];omega
noncomputable def rCat:R2:=fun x y H Q=>∃ l b xs zs,x=.ref l/\y=.ref b/\H l=some (.lst xs)/\H b=some (.lst zs)/\xs.length+zs.length<=sizeLine/\∀ p,H p=none->Q (.ref p) (upd H p (.lst (xs++zs)))
theorem Hg:OpR X (binaryOp .Add) rCat:=by
 intro pins s σ H x y v u Q I rx ry h;obtain⟨l,b,xs,zs,rfl,rfl,hH,hB,hz,q⟩:=h;cases rx;cases ry;obtain⟨z,its,n,r,hl,e⟩:=I.lstM hH;obtain⟨z2,its2,n2,r2,hl2,e2⟩:=I.lstM hB;refine PySem.P.add_list e e2 ?_ (by rw[List.size_toArray,List.size_toArray];omega);have ea:its.toArray++its2.toArray=(its++its2).toArray:=by simp
 rw[ea];exact⟨.ref _,_,I.lnew (t':=s.toks) (r.append r2) (by rw[List.length_append];omega),rfl,q _ I.fresh⟩
noncomputable def rRep:R2:=fun x y H Q=>∃ l k xs,x=.ref l/\y=.int k/\H l=some (.lst xs)/\-(2 ^ 63)<=k/\k<2 ^ 63/\xs.length*k.toNat<=sizeLine /\
 ∀ p,H p=none->Q (.ref p) (upd H p (.lst (List.replicate k.toNat xs).flatten))
theorem UM (xs:List α) (k:Nat):(List.replicate k xs).flatten.length=k*xs.length:=by
 induction k with
 | zero=>simp
 | succ k ih=>rw [List.replicate_succ,List.flatten_cons,List.length_append,ih,Nat.succ_mul,Nat.add_comm]
theorem Hf:OpR X (binaryOp .Mult) rRep:=by
 intro pins s σ H x y v u Q I rx ry h;obtain⟨l,k,xs,rfl,rfl,hH,h1,h2,hz,q⟩:=h;cases rx;obtain⟨t,rfl⟩:=ry;obtain⟨z,its,n,r,hl,e⟩:=I.lstM hH;have hlen:its.toArray.size*k.toNat<=sizeLine:=by rw[List.size_toArray,<- hl];exact hz
 have hcap:¬ its.toArray.size*k.toNat > (2 ^ 63-1) / 8:=by
  have:(sizeLine:Nat)<=(2 ^ 63-1) / 8:=by decide
  omega
 have hfit:¬ (!Builtin.List.listFitsIndex k)=true:=by
  rw[fitsIndex_both h1 h2];exact Bool.false_ne_true
 have hlong:¬ Builtin.List.listTooLong (its.toArray.size*k.toNat)=true:=by
  rw[Jn hlen];exact Bool.false_ne_true
 have hnew:List.foldl (fun x1 x2=>x1++x2) #[] (List.replicate (if its.toArray.isEmpty=true then 0 else k.toNat) its.toArray)=(List.replicate k.toNat its).flatten.toArray:=by
  have f0:∀ m:Nat,List.foldl (fun x1 x2=>x1++x2) #[] (List.replicate m its.toArray)=(List.replicate m its).flatten.toArray:=fun m=>by
   have:=XE its m [];rw[List.nil_append] at this;exact this
  rw[f0];cases its with
  | nil=>simp
  | cons a r'=>rw [if_neg (by simp)]
 refine wpAny_binaryOp_repeat_ref (T:="list") (U:="int") %[|4] ⟨_,e,rfl⟩ (fun s'=>typeIs_int s' k t) noFill_list_mul F.fills_int_mul F.slot_int_rmul repeat_list F.slot_int_index.lookup
  (call_meets F.slot_int_rmul (typeIs_int s k t) F.entry_int_rmul (F.args_int_rmul_2 _ _) (int___rmul___int_list k t l its.toArray n)
   ⟨e,rfl,⟨_,e,rfl⟩,call_meets F.slot_list_mul ⟨_,e,rfl⟩ F.entry_list_mul (F.args_list_mul_2 _ _) (AutoListH.list___mul___list_int_3 l its.toArray n k t hfit hcap hlong) ⟨e,?_⟩⟩)
 rw[hnew];exact⟨.ref _,_,I.lnew (t':=s.toks) (r.rep k.toNat) (by rw[UM,Nat.mul_comm];exact hz),rfl,q _ I.fresh⟩
end
section
variable {prog:Program} {w:World} {A:Around} {E:Value->Shared->Prop} {s:Shared}
set_option maxRecDepth 100000 in
end
section
variable {X:Cx}
end
end L2
namespace Att
open PySem PySem.W PySem.Calls PyProof.Rows
theorem WS:∀ (ns:List Int) (vs:List Value),WellAll P h vs (ns.map WData.int)->IntsAre vs ns:=by
 intro ns
 induction ns with
 | nil =>
  intro vs w;rw[List.map_nil] at w;cases w;exact .nil
 | cons n ns ih =>
  intro vs w;rw[List.map_cons] at w;cases w with
  | cons a b =>
   cases a;exact .cons _ _ (ih _ b)
theorem script_of {l:OpenLaw} {n:Nat} (hn:l.most=some n) {P:Params} {h:Heap} {args:List WData} {vals:List Value}
  (hpre:l.row.toRowW.claim.pre args=true) (hwl:WellAll P h vals args) :
  ∃ a vs ns,vals=[Value.ref a]/\args=[WData.list (ns.map WData.int)]/\h.get? a=some {cls:=.type "list",data:=.seq vs.toArray}/\IntsAre vs ns/\ns.length<=n:=by
 have hsh:WShape.hasAll [] args [.list .int]=true:=(pre_splitW hpre).1;have hc:l.pre.holds [] {args:=args}=true:=(pre_splitW hpre).2;obtain⟨d,r,rfl,h1,h2⟩:=hasAllW_cons hsh;obtain rfl:=hasAllW_nil h2;obtain⟨xs,rfl,h3⟩:=hasW_list h1;obtain⟨ns,rfl⟩:=items_int h3;have hlen:ns.length<=n:=by
  unfold OpenLaw.pre at hc;have h4:(WTm.not (.lt (.lit (.int (n:Int))) (.len (.arg 0)))).holds [] {args:=[.list (ns.map .int)]}=true:=by
   have h4:=(holds_andW hc).1;rw[hn] at h4;exact h4
  have h5:=condW_of h4 (w_not (w_lt w_lit (w_len_list (w_arg rfl))));rw[List.length_map] at h5;refine Nat.le_of_not_lt fun q=>?_;have q':(n:Int)<((ns.length:Nat):Int):=by omega
  first
   | (rw [decide_eq_true q'] at h5;exact absurd h5 %[|4])
   | (simp at h5;omega)
 cases hwl with
 | cons w1 w2 =>
  cases w2;cases w1 with
  | list ho hall=>exact⟨_,_,ns,rfl,rfl,ho,WS ns _ hall,hlen⟩
theorem post_true (l:OpenLaw) (args:List WData):l.row.toRowW.claim.post args (.bool true) args=true :=
 postW_of (r:=l.row.toRowW) (X:=(true==true))
  (show WShape.has [] (.bool true) .bool=true by first|rfl|decide|simp[WShape.has,WShape.arms,WShape.armsAll])
  (show (WTm.eq .res (.lit (.bool true))).value [] {args:=args,res:=some (.bool true),after:=args}=some (.bool (true==true)) from w_eq_bool (w_res rfl) w_lit) rfl
section
variable {prog:Program} {w:World} {A:Around} {E:Value->Shared->Prop} {s:Shared} {K:Frag}
end
end Att
namespace L2
open PySem PySem.Spec PyProof.Rows
theorem vals_ints:∀ {vs:List Value} {ns:List Int},IntsAre vs ns->Vals (ns.map V.int) vs
 | _,_,.nil=>.nil
 | _,_,.cons n t h=>.cons ⟨t,rfl⟩ (vals_ints h)
noncomputable def Only (H:Hp):Prop:=∀ b,H b=none\/∃ o xs,H b=some (.frz o (.lst xs))
theorem Dk {P:Program} {w:World} {K:Frag} {mg mb:Str->Option Value} {CX:CXT} {k:Nat} {fa a:Addr} {fd:FuncData} {x:Str} {sp:Sp} {s₁:Shared} {vs:List Value} {ns:List Int}
  (KX:K.In s₁.heap) (hns:s₁.heap.Ns mainGlobals mg) (hb:s₁.heap.Ns builtinsNs mb) (hbb:∀ x:Str,x≠"__name__"->mb x=bootBuiltins x) (hlim:s₁.heap.NoLimit) (hg:s₁.gens=#[])
  (ha:s₁.heap.get? a=some {cls:=.type "list",data:=.seq vs.toArray}) (hi:IntsAre vs ns) (hl:ns.length<=sizeLine) (hr:Room k callerA)
  (F:∀ base:Heap,K.In base->base.Ns mainGlobals mg->FnOk P w K mg base CX k fa fd [x] sp) (hbind:∀ (s:Shared) (u:Value),BindsTo s fd ⟨[u],[]⟩ [(x,u)])
  (hsp:∀ H:Hp,Only H->SqL K H a (ns.map V.int)->sp [.ref a] H (fun v _=>v=.bl true) fun _ _ _=>False)
  (hCX:∀ H e s',CX [] H s₁ (fun _ _ _=>False) e s'->False) :
  codeAny (model P w) callerA (.call (.ref fa) ⟨[.ref a],[]⟩) (fun r s'=>r=.ok (.ret (.bool true))/\OldK s₁.heap s'.heap/\s'.os=s₁.os/\AllBare s'.gens) s₁:=by
 have rv:=vals_ints hi;have lenV:=hi.length;have core:∀ H:Hp,Only H->SqL K H a (ns.map V.int)->HOk P w H s₁.heap->(∀ b,H b≠none->b=a)->(H a≠none->K.lookup a=none) ->
   codeAny (model P w) callerA (.call (.ref fa) ⟨[.ref a],[]⟩) (fun r s'=>r=.ok (.ret (.bool true))/\OldK s₁.heap s'.heap/\s'.os=s₁.os/\AllBare s'.gens) s₁:=by
  intro H hO hS hok hA hK;have base_of:∀ {b:Addr} {o:Obj},s₁.heap.get? b=some o->H b=none->(hidT s₁.heap H).get? b=some o:=fun e n=>Dv e n;have noA:∀ {b:Addr} {o:Obj} {es:Array DictEntry} {ep:Nat},s₁.heap.get? b=some o->o.data=.dict es ep->H b=none:=fun {b o es ep} e d=>by
   cases q:H b with
   | none=>rfl
   | some u =>
    have e':b=a:=hA b (by rw[q];simp);subst e';rw[ha] at e;cases e;have d':Data.seq vs.toArray _=Data.dict es ep:=d;cases d'
  have nsK:∀ {b:Addr} {m:Str->Option Value},s₁.heap.Ns b m->(hidT s₁.heap H).Ns b m:=fun {b m} ⟨o,es,ep,e,d,r⟩=>⟨o,es,ep,base_of e (noA e d),d,r⟩;have hKb:K.In (hidT s₁.heap H):=fun b o e=>base_of (KX b o e) (by
   cases q:H b with
   | none=>rfl
   | some u =>
    have e':b=a:=hA b (by rw[q];simp);subst e';rw[hK (by rw[q];simp)] at e;cases e)
  have hM:Mod K mg (hidT s₁.heap H):=⟨hKb,nsK hns,⟨mb,nsK hb,hbb⟩,let ⟨mc,h1,h2⟩:=hlim;⟨mc,nsK h1,h2⟩⟩;have e0:Env0 P w K mg (hidT s₁.heap H) callerA [] s₁ H:=⟨rfl,hM,fun b o e=>Fc e,Nat.le_of_eq (Bw _ _),trivial,fun b hb=>absurd (show b∈([]:List Addr) from hb) (by simp),hok,.of_eq hg⟩;refine codeAny_mono ((F _ hKb (nsK hns)).run callerA [] s₁ H ⟨[.ref a],[]⟩ [.ref a] [.ref a] _ _ hr e0 (hbind s₁ (.ref a)) (.cons rfl .nil) (hsp H hO hS)) fun r s' h=>?_;cases r with
  | error e=>exact (hCX H e s' h).elim
  | ok fl =>
   cases fl with
   | next=>exact False.elim h
   | brk=>exact False.elim h
   | cont=>exact False.elim h
   | ret u =>
    obtain⟨v,H',os,bare,un,hok',r',q⟩:=h;have q':v=.bl true:=q;subst q';obtain rfl:u=Value.bool true:=r';refine⟨rfl,OldK.of_keep fun b o e=>?_,os,bare⟩;cases q:H b with
    | none=>exact un.keep b o e q (by intro z;exact absurd (show b∈([]:List Addr) from z) (by simp)) (by simp)
    | some u =>
     rcases hO b with z|⟨ob,xs,z⟩
     ·rw[q] at z;cases z
     ·have z2:=un.frzs b ob _ z
      obtain⟨e1,_⟩:=hok b _ z;obtain⟨e2,_⟩:=hok' b _ z2;rw[e] at e1;cases e1;exact e2
 cases hk:K.lookup a with
 | some o =>
  have e:=KX a o hk;rw[ha] at e;cases e;refine core (fun _=>none) (fun _=>.inl rfl) (.inr ⟨_,vs.toArray,_,hk,rfl,rfl,rfl,by rw[List.size_toArray,lenV];exact hl,by simpa using rv⟩) (fun b u z=>by have z':(none:Option HO)=some u:=z;cases z') (fun b z=>absurd rfl z) fun z=>absurd rfl z
 | none =>
  refine core (fun b=>if b=a then some (.frz {cls:=.type "list",data:=.seq vs.toArray} (.lst (ns.map V.int))) else none) (fun b=>?_) (.inl (.inr ⟨{cls:=.type "list",data:=.seq vs.toArray},if_pos rfl⟩)) (fun b u z=>?_) (fun b z=>?_) fun _=>hk
  ·by_cases hb:b=a
   ·exact .inr ⟨_,_,if_pos hb⟩
   ·exact .inl (if_neg hb)
  ·by_cases hb:b=a
   ·have z':=(if_pos hb).symm.trans z
    cases z';subst hb;exact⟨ha,by rw[List.length_map];exact hl,vs,_,rv,ha⟩
   ·have z':=(if_neg hb).symm.trans z
    cases z'
  ·by_cases hb:b=a
   ·exact hb
   ·exact absurd (if_neg hb) z
end L2
namespace L2
open PySem PySem.Spec PyProof.Rows
end L2
namespace L2
open PySem PySem.Spec PyProof.Rows
noncomputable def ZQ (s:Stmt):Arguments:=match s with
 | .FunctionDef _ a _ _ _ _ _ _ _ _=>a
 | _=>{posonlyargs:=[],args:=[],vararg:=none,kwonlyargs:=[],kw_defaults:=[],kwarg:=none,defaults:=[]}
noncomputable def YW (s:Stmt):List Stmt:=match s with
 | .FunctionDef _ _ b _ _ _ _ _ _ _=>b
 | _=>[]
noncomputable def Yg (s:Stmt):Scope:=match s with
 | .FunctionDef _ _ _ _ _ _ sc _ _ _=>sc
 | _=>{kind:=.function,names:=[],isGenerator:=false,isCoroutine:=false}
abbrev CX0:CXT:=fun _ _ _ _ _ _=>False
abbrev E0:XK:=fun _ _ _=>False
structure Fun (K:Frag) (x qual:Str) (st:Stmt) (f:Addr) (fd:FuncData):Prop where
 ex:∃ (oc:Value) (od:Option Addr) (kV doc pm:Value) (an:Option Addr) (cdv ct:Value) (osl:Array (Option Value)),
  fd=PySem.W.fnOf x qual (ZQ st) (YW st) (Yg st) .none kV doc pm an cdv ct/\K.lookup f=some ⟨oc,od,.func fd,osl⟩/\PySem.W.codeIn K cdv qual=true
 kp:PySem.W.keepIn K (.ref f)=true
section
variable {P:Program} {w:World} {K:Frag} {mg:Str->Option Value} {base:Heap}
theorem Fun.ok {x qual:Str} {st:Stmt} {f:Addr} {fd:FuncData} {N ps:List Str} {k:Nat} {sp:Sp} (F:Fun K x qual st f fd) (S:FnScope N ps (Yg st)) (len:∀ vs H Q E,sp vs H Q E->vs.length=ps.length)
  (hbody:∀ (cdv:Value) (A:Around) (outer:List Env) (s:Shared) (H:Hp) (vs:List V) (Q:VK) (E:XK),Room k (A.deeper (envOfC qual (Yg st) s.heap.objs.size f cdv))->sp vs H Q E ->
   ∃ t,PSs (cxOf CX0 P w K mg base N qual (Yg st) f cdv A outer s H E).nox (YW st) t/\t {nx:=fun _ H'=>Q .non H',rt:=Q} (start N vs) H):FnOk P w K mg base CX0 (k+1) f fd ps sp:=by
 obtain⟨oc,od,kV,doc,pm,an,cdv,ct,osl,rfl,lk,hcd⟩:=F.ex;refine Gj lk hcd S len fun A outer s H vs Q E hr hsp=>?_;obtain⟨t,h,q⟩:=hbody cdv A outer s H vs Q E hr hsp;exact⟨t,h.nox,q⟩
theorem Fun.binds {x qual:Str} {st:Stmt} {f:Addr} {fd:FuncData} {ps:List Str} (F:Fun K x qual st f fd)
  (h:∀ (kV doc pm:Value) (an:Option Addr) (cdv ct:Value) (us:List Value),us.length=ps.length->bindArgs (PySem.W.fnOf x qual (ZQ st) (YW st) (Yg st) .none kV doc pm an cdv ct) ⟨us,[]⟩=pure (ps.zip us)):Binds K fd ps []:=by
 obtain⟨oc,od,kV,doc,pm,an,cdv,ct,osl,rfl,lk,hcd⟩:=F.ex;exact .all (h kV doc pm an cdv ct)
theorem Al {x qual:Str} {st:Stmt} {f:Addr} {oc:Value} {od an:Option Addr} {osl:Array (Option Value)} {kV doc pm cdv ct:Value} (l:K.lookup f=some ⟨oc,od,.func (PySem.W.fnOf x qual (ZQ st) (YW st) (Yg st) .none kV doc pm an cdv ct),osl⟩)
  (c:PySem.W.codeIn K cdv qual=true) (k:PySem.W.keepIn K (.ref f)=true):Fun K x qual st f (PySem.W.fnOf x qual (ZQ st) (YW st) (Yg st) .none kV doc pm an cdv ct):=⟨⟨oc,od,kV,doc,pm,an,cdv,ct,osl,rfl,l,c⟩,k⟩
end
section
variable {X:Cx}
theorem pv (i:Nat) (hN:X.N[i]?=some x:=by rfl) (hv:Vis X.env.scope x:=by first|exact Or.inl rfl|exact Or.inr (Or.inl rfl)|exact Or.inr (Or.inr rfl)) (hd:(x==("__debug__":Str))=false:=by decide)
  (hcd:(x==("__classdict__":Str))=false:=by decide):PE X (.Name x pos) (tVar i):=CK hN hv hd hcd
end
end L2
end
noncomputable section
namespace L2
open PySem PySem.Spec PyProof.Rows
section
variable {κ:Type} [DecidableEq κ]
end
section
variable {P:Program} {w:World} {H:Hp} {h:Heap} {a:Addr}
end
section
variable {X:Cx} {pins:List (Addr×Obj)} {σ:St} {H:Hp} {s:Shared} {a:Addr} {y v:V} {u r:Value} {o:Option V} {A:Around} {E:Value->Shared->Prop}
end
section
variable {X:Cx} {pins:List (Addr×Obj)} {σ:St} {H:Hp} {s:Shared} {a:Addr} {kvs:List (Key×V)} {k:Key} {u:Value} {A:Around} {E:Value->Shared->Prop}
end
section
variable {X:Cx} {o i e value:Expr} {pos pos' tpos:Pos} {td ty tv:TE}
end
section
variable {X:Cx} {pos:Pos}
end
structure M1 (X:Cx) (o:Expr) (m:Str) (apos:Pos) (e:Expr) (cpos:Pos):Prop where
 base:attributeBase o m X.env (eval o X.env)=eval o X.env
 few:((backTo cpos (starEach [e] X.env)).all (fun x=>!x.1)&&(backToKw cpos (keywordEach [] X.env)).all (fun x=>x.1.isSome)
  && decide (([e]:List Expr).length+([]:List Keyword).length+(if ([]:List Keyword).isEmpty then 0 else 1)<30))=true
 line:(apos.endLine==cpos.line)=true
 trees:backTo cpos (starEach [e] X.env)=[(false,eval e X.env)]
structure M2 (X:Cx) (o:Expr) (m:Str) (apos:Pos) (e f:Expr) (cpos:Pos):Prop where
 base:attributeBase o m X.env (eval o X.env)=eval o X.env
 few:((backTo cpos (starEach [e,f] X.env)).all (fun x=>!x.1)&&(backToKw cpos (keywordEach [] X.env)).all (fun x=>x.1.isSome)
  && decide (([e,f]:List Expr).length+([]:List Keyword).length+(if ([]:List Keyword).isEmpty then 0 else 1)<30))=true
 line:(apos.endLine==cpos.line)=true
 trees:backTo cpos (starEach [e,f] X.env)=[(false,eval e X.env),(false,eval f X.env)]
section
variable {X:Cx} {pins:List (Addr×Obj)} {σ:St} {H:Hp} {s:Shared} {a:Addr} {y d:V} {u r:Value} {o:Option V} {A:Around} {E:Value->Shared->Prop}
end
section
variable {X:Cx} {o e f:Expr} {apos cpos:Pos} {td ty tx:TE}
end
section
variable {X:Cx} {pins:List (Addr×Obj)} {σ:St} {H:Hp} {s:Shared} {a:Addr} {kvs:List (Key×V)} {A:Around} {E:Value->Shared->Prop}
end
section
variable {X:Cx} {pins:List (Addr×Obj)} {σ:St} {H:Hp} {s:Shared} {a:Addr} {y:V} {u:Value} {A:Around} {E:Value->Shared->Prop}
end
end L2
end
noncomputable section
namespace DL
open PySem PySem.Spec PyProof.Rows L2
theorem VF (o:Obj) (f):(o.mapFields f).dict=o.dict:=by obtain⟨c,d,dt,sl⟩:=o;cases dt<;>rfl
noncomputable def WR (h:Heap) (b:Addr):Prop:=∃ o vs,h.get? b=some o/\o.data=.fields vs/\vs[2]?=some .none
noncomputable def Near (h h':Heap):Prop:=h.UpToSlots h'/\(∀ b o,h.get? b=some o->∃ o',h'.get? b=some o')/\∀ b,WR h b->WR h' b
theorem WB (hk:k≠2) (q:h.get? T=some oT) (dt:oT.data=.fields ts) (c:WR h b):WR (h.update T (Obj.mapFields (·.setIfInBounds k v))) b:=by
 obtain⟨o,vs,q1,q2,q3⟩:=c;by_cases z:b=T
 ·subst z
  rw[q] at q1;(first|cases (show _=_ from q1.inv)|cases q1);rw[dt] at q2;(first|cases (show _=_ from q2.inv)|cases q2);exact⟨_,_,Heap.get?_update_self _ q (Obj.isFreed_of_fields (Obj.data_mapFields dt _)),Obj.data_mapFields dt _,by rw[Array.getElem?_setIfInBounds_ne hk];exact q3⟩
 ·exact⟨o,vs,by rw[Heap.get?_update_other _ _ (Ne.symm z)];exact q1,q2,q3⟩
theorem Near.trans (a:Near h h1) (b:Near h1 h2):Near h h2:=⟨a.1.trans b.1,fun c o q=>let ⟨_,q1⟩:=a.2.1 c o q;b.2.1 c _ q1,fun c q=>b.2.2 c (a.2.2 c q)⟩
theorem Near.kept (k:∀ b o,h.get? b=some o->h'.get? b=some o):Near h h':=⟨.of_keeps k,fun b o q=>⟨o,k b o q⟩,fun b ⟨o,vs,q,r⟩=>⟨o,vs,k b o q,r⟩⟩
structure Flies (B:Heap) (l:List Env) (e:Addr) (cls:Value) (dd:Option Addr) (fl:Value) (h:Heap):Prop where
 stays:B.StaysIn h
 new:B.get? e=none
 frames:h.FunFrames B l
 tr:∃ oe vs T oT ts,h.get? e=some oe/\oe.cls=cls/\oe.dict=dd/\oe.data=.fields vs/\vs[1]?=some (.ref T)/\B.get? T=none/\T≠e/\h.get? T=some oT/\oT.data=.fields ts/\ts[3]?=some fl
section
variable {M:Model} {A:Around} {Z:Value->Shared->Prop} {s:Shared} {B:Heap} {env:Env} {outer:List Env} {L e:Addr} {Q:Unit->Shared->Prop}
theorem Ub (fr:A.frames=some (env::outer)) (ff:s.heap.FunFrames B (env::outer)) (fl:env.frame=some L)
  (at_:s.heap.get? e=some oe) (st:B.StaysIn s.heap) (nw:B.get? e=none) (dt:oe.data=.fields vs) (sz:1<vs.size)
  (go:∀ h',Flies B (env::outer) e oe.cls oe.dict (rawInt L) h'->Near s.heap h'->Q () {s with heap:=h'}) :
  wpAny M A (do let x <- frameOf env;let y <- entryPlaceOf L hn;let z <- EntryCells.newEntry head x .none (rawInt L) .none y;setField (.ref e) 1 z) Q Z s:=by
 have nfr:e ∉ (env::outer).filterMap (·.frame):=fun z=>by
  obtain⟨_,o,q,r⟩:=ff.mem z;rw[at_] at q;cases q;exact r vs dt
 refine wpAny_bind (wpAny_frameOf_fun fr ff fl fun g sl=>wpAny_bind (wpAny_entryPlaceOf fun pl ok=>?_));unfold EntryCells.newEntry newFields;refine wpAny_bind (wpAny_newObj_type ?_ (ok.sizeOk5 _ _ _ _ _));generalize hO:({cls:=.type "traceback",dict:=none,data:=.fields ([head,.ref L,.none,rawInt L,.none]++(if pl.isEmpty then List.replicate 6 Value.none else pl)).toArray}:Obj)=ob;have ge:g.get? e=some oe:=(sl.2.1 e nfr).trans at_;have gB:B.StaysIn g:=fun b o q=>(sl.2.1 b fun z=>by rw[(ff.mem z).1] at q;cases q).trans (st b o q);have ge':(g.push ob).get? e=some oe:=Heap.get?_push_of_some _ ge;have obf:ob.isFreed=false:=by subst hO;rfl
 have gT:(g.push ob).get? g.objs.size=some ob:=Heap.get?_push_size g obf;have Te:g.objs.size≠e:=Nat.ne_of_gt (Heap.lt_size ge);refine wpAny_setField ge' dt sz ?_;have d3:=Obj.data_mapFields dt (·.setIfInBounds 1 (Value.ref g.objs.size));have e3:=Heap.get?_update_self (Obj.mapFields (·.setIfInBounds 1 (Value.ref g.objs.size))) ge' (Obj.isFreed_of_fields d3);have oth:∀ b o,b≠e->g.get? b=some o->((g.push ob).update e (Obj.mapFields (·.setIfInBounds 1 (Value.ref g.objs.size)))).get? b=some o:=fun b o n q=>by
  rw[Heap.get?_update_other _ _ (Ne.symm n)];exact Heap.get?_push_of_some _ q
 have nrec:∀ b o,s.heap.get? b=some o->(∀ ws,o.data≠.fields ws)->b≠e:=fun b o q r z=>by
  rw[z,at_] at q;cases q;exact r vs dt
 refine go _ ⟨fun b o q=>oth b o (fun z=>by rw[z,nw] at q;cases q) (gB b o q),nw,ff.of_keeps fun b o q r=>?_,?_⟩ ⟨fun b o q r=>?_,fun b o q=>?_,fun b c=>?_⟩
 ·obtain⟨x,y⟩:=sl.2.2 b o q
  exact⟨_,oth b _ (nrec b o q r) y,rfl⟩
 ·refine⟨_,_,g.objs.size,ob,_,e3,Obj.cls_mapFields _ _,VF _ _,d3,by simp[sz],gB.fresh,Te,?_,by subst hO;rfl,?_⟩
  ·rw[Heap.get?_update_other _ _ (Ne.symm Te)];exact gT
  ·simp
 ·obtain⟨x,y⟩:=sl.2.2 b o q
  exact⟨x,oth b _ (nrec b o q r) y⟩
 ·by_cases z:b=e
  ·subst z;exact⟨_,e3⟩
  ·obtain⟨x,y⟩:=sl.2.2 b o q
   exact⟨_,oth b _ z y⟩
 ·obtain⟨o,ws,q1,q2,q3⟩:=c
  have nb:b ∉ (env::outer).filterMap (·.frame):=fun z=>by
   obtain⟨_,o',q,r⟩:=ff.mem z;rw[q1] at q;cases q;exact r ws q2
  exact WB %[|4] ge' dt ⟨o,ws,Heap.get?_push_of_some _ ((sl.2.1 b nb).trans q1),q2,q3⟩
theorem Bz (fr:A.frames=some (env::outer)) (ff:s.heap.FunFrames B (env::outer)) (fl:env.frame=some L)
  (at_:s.heap.get? e=some oe) (st:B.StaysIn s.heap) (nw:B.get? e=none) (dt:oe.data=.fields vs) (v1:vs[1]?=some .none)
  (go:∀ h',Flies B (env::outer) e oe.cls oe.dict (rawInt L) h'->Near s.heap h'->Q () {s with heap:=h'}):wpAny M A (noteFrame (.ref e) env) Q Z s:=by
 unfold noteFrame;simp only[fl];refine wpAny_bind (wpAny_field at_ dt v1 ?_);rw[if_neg %[|4]];exact Ub fr ff fl at_ st nw dt (Array.getElem?_eq_some_iff.mp v1).1 go
theorem DF (fr:A.frames=some (env::outer)) (fl:env.frame=some L) (F:Flies B (env::outer) e cls dd .none s.heap)
  (go:∀ h',Flies B (env::outer) e cls dd (rawInt L) h'->Near s.heap h'->Q () {s with heap:=h'}):wpAny M A (noteFrame (.ref e) env) Q Z s:=by
 obtain⟨st,nw,ff,oe,vs,T,oT,ts,q1,rfl,rfl,q4,q5,q6,q7,q8,q9,q10⟩:=F;unfold noteFrame;simp only[fl];refine wpAny_bind (wpAny_field q1 q4 q5 ?_);rw[if_pos (show (Value.ref T != Value.none)=true from by simp)];refine wpAny_bind (wpAny_field q8 q9 q10 ?_);rw[if_neg (show ¬ ((Value.none==rawInt L)=true) from by simp[rawInt])];refine wpAny_bind (wpAny_setField q8 q9 (Array.getElem?_eq_some_iff.mp q10).1 ?_);have oth:∀ b,b≠T->(s.heap.update T (Obj.mapFields (·.setIfInBounds 3 Value.none))).get? b=s.heap.get? b:=fun b n=>Heap.get?_update_other _ _ (Ne.symm n);have nrec:∀ b o,s.heap.get? b=some o->(∀ ws,o.data≠.fields ws)->b≠T:=fun b o q r z=>by
  rw[z,q8] at q;cases q;exact r ts q9
 refine Ub (s:={s with heap:=s.heap.update T (Obj.mapFields (·.setIfInBounds 3 Value.none))}) fr (ff.of_keeps fun b o q r=>⟨o,(oth b (nrec b o q r)).trans q,rfl⟩) fl ((oth e (Ne.symm q7)).trans q1) (fun b o q=>(oth b fun z=>by rw[z,q6] at q;cases q).trans (st b o q)) nw q4 (Array.getElem?_eq_some_iff.mp q5).1 fun h' x y=>?_;refine go h' x ⟨fun b o q r=>y.1 b o ((oth b (nrec b o q r)).trans q) r,fun b o q=>?_,fun b c=>y.2.2 b (WB %[|4] q8 q9 c)⟩;by_cases z:b=T
 ·subst z;exact y.2.1 _ _ (Heap.get?_update_self _ q8 (Obj.isFreed_of_fields (Obj.data_mapFields q9 _)))
 ·exact y.2.1 b o ((oth b z).trans q)
theorem VC (F:Flies B l e cls dd fl s.heap)
  (go:∀ h',Flies B l e cls dd .none h'->Near s.heap h'->Q () {s with heap:=h'}):wpAny M A (setFlight (.ref e) none) Q Z s:=by
 obtain⟨st,nw,ff,oe,vs,T,oT,ts,q1,q2,q3,q4,q5,q6,q7,q8,q9,q10⟩:=F;have sz:=(Array.getElem?_eq_some_iff.mp q10).1;have oth:∀ b,b≠T->(s.heap.update T (Obj.mapFields (·.setIfInBounds 3 ((none:Option Addr).elim Value.none fun f=>rawInt f)))).get? b=s.heap.get? b:=fun b n=>Heap.get?_update_other _ _ (Ne.symm n);have nrec:∀ b o,s.heap.get? b=some o->(∀ ws,o.data≠.fields ws)->b≠T:=fun b o q r z=>by
  rw[z,q8] at q;cases q;exact r ts q9
 unfold setFlight;refine wpAny_bind (wpAny_field q1 q4 q5 ?_);rw[if_pos (show (Value.ref T != Value.none)=true from by simp)];refine wpAny_setField q8 q9 sz (go _ ⟨fun b o q=>(oth b fun z=>by rw[z,q6] at q;cases q).trans (st b o q),nw,ff.of_keeps fun b o q r=>⟨o,(oth b (nrec b o q r)).trans q,rfl⟩,?_⟩ ⟨fun b o q r=>⟨o.slots,(oth b (nrec b o q r)).trans q⟩,fun b o q=>?_,fun b c=>WB %[|4] q8 q9 c⟩)
 rotate_left
 ·by_cases z:b=T
  ·subst z;exact⟨_,Heap.get?_update_self _ q8 (Obj.isFreed_of_fields (Obj.data_mapFields q9 _))⟩
  ·exact⟨o,(oth b z).trans q⟩
 exact⟨oe,vs,T,_,_,(oth e (Ne.symm q7)).trans q1,q2,q3,q4,q5,q6,q7,Heap.get?_update_self _ q8 (Obj.isFreed_of_fields (Obj.data_mapFields q9 _)),Obj.data_mapFields q9 _,by simp[sz]⟩
theorem Flies.off (F:Flies B (env::outer) e cls dd fl h):Flies B outer e cls dd fl h:=⟨F.stays,F.new,F.frames.2.2,F.tr⟩
theorem BA (fr:A.frames=some (env::outer)) (fl:env.frame=some L) (F:Flies B (env::outer) e cls dd .none s.heap)
  (go:∀ h',Flies B outer e cls dd .none h'->Near s.heap h'->Q () {s with heap:=h'}):wpAny M A (leaving env (.ref e)) Q Z s:=by
 unfold leaving;exact wpAny_bind (DF fr fl F fun h1 F1 u1=>VC F1 fun h2 F2 u2=>go h2 F2.off (u1.trans u2))
theorem Am (fl:env.frame=some L) (F:Flies B (env::outer) e cls dd (rawInt L) s.heap)
  (go:∀ h',Flies B outer e cls dd .none h'->Near s.heap h'->Q () {s with heap:=h'}):wpAny M A (leaving env (.ref e)) Q Z s:=by
 unfold leaving;refine wpAny_bind ?_;obtain⟨oe,vs,T,oT,ts,q1,q2,q3,q4,q5,q6,q7,q8,q9,q10⟩:=F.tr;unfold noteFrame;simp only[fl];refine wpAny_bind (wpAny_field q1 q4 q5 ?_);rw[if_pos (show (Value.ref T != Value.none)=true from by simp)];refine wpAny_bind (wpAny_field q8 q9 q10 ?_);rw[if_pos (show (rawInt L==rawInt L)=true from by simp)];exact wpAny_pure (VC F fun h2 F2 u2=>go h2 F2.off u2)
structure Made (h h':Heap) (e:Addr) (cls:Value) (dd:Option Addr):Prop where
 keeps:∀ b o,h.get? b=some o->h'.get? b=some o
 new:h.get? e=none
 at_:∃ oe vs,h'.get? e=some oe/\oe.cls=cls/\oe.dict=dd/\oe.data=.fields vs/\vs[1]?=some .none
theorem Made.of (mk:Heap.MadeExcOf h h' e cls vs):Made h h' e cls none :=
 let ⟨_,q1,_,_⟩:=mk.there;⟨mk.keeps,mk.new,_,_,q1,rfl,rfl,rfl,rfl⟩
theorem Aq (mk:Heap.MadeExcOf h h' e cls vs):WR h' e:=let ⟨_,q1,_,_⟩:=mk.there;⟨_,_,q1,rfl,rfl⟩
theorem Made.fresh (mk:Made h h' e cls dd) (st:B.StaysIn h):B.get? e=none:=by
 cases q:B.get? e with
 | none=>rfl
 | some o=>have:=st e o q;rw[mk.new] at this;cases this
theorem An (fr:A.frames=some (env::outer)) (fl:env.frame=some L) (ff:h.FunFrames B (env::outer)) (st:B.StaysIn h) (mk:Made h s.heap e cls dd)
  (go:∀ h',Flies B outer e cls dd .none h'->Near s.heap h'->Q () {s with heap:=h'}):wpAny M A (leaving env (.ref e)) Q Z s:=by
 obtain⟨oe,vs,q1,rfl,rfl,q4,q5⟩:=mk.at_;unfold leaving;exact wpAny_bind (Bz fr (ff.of_keeps fun b o q _=>⟨o,mk.keeps b o q,rfl⟩) fl q1 (fun b o q=>mk.keeps b o (st b o q)) (mk.fresh st) q4 q5 fun h1 F1 u1=>VC F1 fun h2 F2 u2=>go h2 F2.off (u1.trans u2))
end
end DL
end
noncomputable section
namespace DL
open PySem PySem.Spec PyProof.Rows L2 PySem.W
section
variable {prog:Program} {w:World} {A:Around} {Z:Value->Shared->Prop} {s:Shared} {K:Frag} {x D:Addr} {ox:Obj} {od:Option Obj} {name:Str}
structure ExcCls (K:Frag) (D:Addr):Prop where
 ga:findIn K (.ref D) "__getattribute__"=some (some (.builtin "BaseException.__getattribute__"))
 hook:findIn K (.ref D) "__getattr__"=some none
 base:mroIn K D (.type "BaseException")=some true
 obj:mroIn K D (.type "object")=some true
 cls:(clsIn K D).isSome=true
 ca:findIn K (.ref D) "__class__"=some (some (.builtin "object.__class__"))
 cg:specialIn K (.builtin "object.__class__") "__get__"=some (some (.builtin "getset_descriptor.__get__"))
 ct:takesIn K (.builtin "object.__class__")=some true
theorem BC (L4:Looks M s.heap (isInstance (.ref x) (.type "BaseException")) true) (hq:Q () s):wpAny M A (checkBuiltinCall "BaseException.__getattribute__" ⟨[.ref x,nameV],[]⟩) Q Z s:=by
 obtain⟨hh,g,d,t,os⟩:=s;have hk:builtinKind "BaseException.__getattribute__"=some .slot:=by decide +kernel
 have hsplit:splitId "BaseException.__getattribute__"=some ("BaseException","__getattribute__"):=by decide +kernel
 have ha:=PySem.F.args_bexc_ga (.ref x) nameV;simp only[checkBuiltinCall,hk,hsplit];refine wpAny_bind (L4.at ?_)
 repeat (first|assumption|wp_step)
theorem DJ {Q:Value->Shared->Prop} {fill expr:Bool} {tk:Tok} (X:K.In s.heap) (I:InstAt s.heap x ox D od) (F:ExcCls K D)
  (h:wpAny (model prog w) A.in1 (Builtin.«object.__getattribute__» ⟨[.ref x,.str name tk],[]⟩)
   (fun fin s'=>match fin with | .done (.ret v)=>wpAny (model prog w) A (handedOut v) Q (fun _ _=>False) s' | _=>False) (fun _ _=>False) s) :
  wpAny (model prog w) A (getAttrBy (.ref x) (.str name tk) fill expr) Q Z s:=by
 obtain⟨hh,g,d,t,os⟩:=s;have L0:=I.type (M:=model prog w);have L1:=looks_findIn (M:=model prog w) X F.ga;have L2:=looks_findIn (M:=model prog w) X F.hook;have L3:=looks_mroIn (M:=model prog w) X F.base;have hx2:(Value.builtin "BaseException.__getattribute__" == Value.builtin "object.__getattribute__")=false:=by decide +kernel
 have tf:typeOf (.builtin "BaseException.__getattribute__")=pure (.type "wrapper_descriptor"):=by kernel_rfl
 unfold getAttrBy;refine wpAny_holding (wpAny_bind (L0.at (wpAny_bind (L1.at ?_))));dsimp only;rw[if_neg (by rw[hx2];simp)];unfold getAttrByItsOwn hookBefore;rw[if_pos (show onTheHeap (Value.ref D)=true from rfl)];refine wpAny_bind (L2.at ?_);unfold callGetattribute;rw[show (expr&&onTheHeap (Value.builtin "BaseException.__getattribute__"))=false from Bool.and_false _,if_neg (by simp)];refine wpAny_bind (wpAny_attempt (wpAny_holding ?_));unfold boundAndCalled bindSpecial;rw[tf];refine wpAny_bind (wpAny_bind (wpAny_pure ?_));rw[if_pos %[|4]];refine wpAny_pure (wpAny_call (codeAny_call_builtin ?pl PySem.F.entry_bexc_ga ?ck))
 case pl=>exact PySem.F.excAttr_ValueError.ga.plain
 case ck =>
  refine BC (L0.andThen L3) (wpAny_mono h (fun fin s' z=>?_) fun _ _ z=>z.elim);rcases fin with (_|_|_|_)|_<;>first|exact z.elim|exact wpAny_mono z (fun v s'' hv=>hv) fun _ _ z=>z.elim
theorem VD (c:(clsIn K D).isSome=true) (F:ExcCls K D):findObj K D od "__class__"=some (.bind (.builtin "getset_descriptor.__get__") (.builtin "object.__class__")):=by
 obtain⟨cd,hc⟩:=Option.isSome_iff_exists.mp c;unfold findObj;rw[hc,Option.bind_some,F.ca,Option.bind_some];simp[F.cg,F.ct]
theorem BB {Q:Option Value->Shared->Prop} (X:K.In s.heap) (I:InstAt s.heap x ox D od) (F:ExcCls K D) (h:Q (some (.ref D)) {s with toks:=s.toks+1}):wpAny (model prog w) A (getAttr? (.ref x) "__class__") Q Z s:=by
 unfold getAttr? getAttrBy?;refine wpAny_bind (wpAny_mkText (wpAny_bind (wpAny_attempt (DJ (s:={s with toks:=s.toks+1}) X I F ?_))));obtain⟨hh,g,d,t,os⟩:=s;have L0:=I.type (M:=model prog w);have L1:=looks_find (M:=model prog w) X I (VD F.cls F);unfold Builtin.«object.__getattribute__»;refine wpAny_bind (wpAny_pure (wpAny_bind ?_));show wpAny _ _ (pure _) _ _ _;refine wpAny_pure (wpAny_bind (L0.at (wpAny_bind (L1.at ?_))));dsimp only;unfold Builtin.ObjectAttr.bindTo;refine wpAny_bind (wpAny_holding (wpAny_call (class_get (s:=⟨hh,g,d,t+1,os⟩) X I F.obj ?_)));refine wpAny_pure ?_;show wpAny _ _ (handedOut (.ref D)) _ _ _;refine wpAny_pure (wpAny_pure ?_);exact h
theorem W7 (F:ExcCls K D):KitX K (.ref x) (.ref D) (fun h=>∃ ox od,InstAt h x ox D od) where
 ty:=fun _ _ _ ⟨_,_,I⟩=>I.type
 it:=fun M h X _=>by
  obtain⟨cd,hc⟩:=Option.isSome_iff_exists.mp F.cls;unfold clsIn at hc;split at hc
  ·rename_i ho
   intro A' Q' E' s' k q;unfold isType loadHead;exact wpAny_bind (wpAny_loadPart (k _ _ (X _ _ ho)) (wpAny_pure q))
  ·cases hc
 ne:=fun h tp dd its n sl X htp=>by
  obtain⟨cd,hc⟩:=Option.isSome_iff_exists.mp F.cls;refine Bool.eq_false_iff.mpr fun q=>?_;obtain rfl:D=tp:=Value.ref.inj (beq_iff_eq.mp q);unfold clsIn at hc;split at hc
  ·rename_i ho
   have z:=(X _ _ ho).symm.trans htp;cases z
  ·cases hc
 ca:=fun X ⟨_,_,I⟩ k=>BB X I F k
end
noncomputable def xPlain:List Str:=["NoNumber","NoTube","NoRow","NoMeasure","NoData","NoPrice","NoNeeds","NoRoom","NoJobs"]
noncomputable def xInit:List Str:=["NoText","NoLevel","NoCall","NoKept"]
noncomputable def xNames:List Str:="CordError" :: (xPlain++xInit)
noncomputable def YL (n c:Str):Bool:=decide (n=c) || decide (c="CordError")
noncomputable def bmV:List Value:=[.type "ValueError",.type "Exception",.type "BaseException",.type "object"]
noncomputable def Wd (K:Frag) (n:Str):Option Addr:=match nsIn K mainGlobals n with|some (some (.ref C))=>some C|_=>none
noncomputable def AU (K:Frag) (D:Addr):Bool :=
 (findIn K (.ref D) "__getattribute__" == some (some (.builtin "BaseException.__getattribute__")))&&(findIn K (.ref D) "__getattr__" == some none)&&(mroIn K D (.type "BaseException")==some true)&&(mroIn K D (.type "object")==some true)&&(clsIn K D).isSome
 && (findIn K (.ref D) "__class__" == some (some (.builtin "object.__class__")))&&(specialIn K (.builtin "object.__class__") "__get__" == some (some (.builtin "getset_descriptor.__get__")))&&(takesIn K (.builtin "object.__class__")==some true)
noncomputable def BU (K:Frag):Bool:=xNames.all fun n=>match Wd K n with
 | none=>true
 | some D=>AU K D&&(!(xPlain.contains n) || excIn K D bmV "ValueError.__new__")&&(kitOne K (.ref D) (.type "ValueError")==some true)&&(["int","bool","str","tuple","list","dict"].all fun T=>kitOne K (.ref D) (.type T)==some false)&&xNames.all fun c=>match Wd K c with
  | none=>true
  | some C=>(exmOne K (.ref D) (.ref C)==some (YL n c))&&(kitOne K (.ref D) (.ref C)==some (YL n c))
noncomputable def oNames:List Str:=["Funnel"]
noncomputable def oFields:List Str:=["places","touches","showing"]
noncomputable def FZ (K:Frag):Bool:=oNames.all fun n=>match Wd K n with
 | none=>true
 | some C=>plainGet K C Str.empty&&hasDictIn K C&&plainOver K C&&(findIn K (.ref C) "__setattr__" == some (some (.builtin "object.__setattr__")))&&oFields.all fun f=>findIn K (.ref C) f==some none
noncomputable def YZ (K:Frag) (n:Str) (C:Addr):Prop:=nsIn K mainGlobals n=some (some (.ref C))
section
variable {K:Frag} {n c:Str} {C D:Addr}
theorem VI (h:YZ K n D):Wd K n=some D:=by unfold Wd;rw[show nsIn K mainGlobals n=some (some (.ref D)) from h]
end
end DL
end
noncomputable section
namespace DL
open PySem PySem.Spec PyProof.Rows L2 PySem.W PySem.Builtin PySem.Builtin.ObjectAttr
theorem Y8 {c:Prop} [Decidable c] {f:c->Bool} (h:(if h:c then f h else false)=true):∃ h:c,f h=true:=by
 by_cases z:c
 ·rw[dif_pos z] at h;exact⟨z,h⟩
 ·rw[dif_neg z] at h;cases h
noncomputable def YD (x:Expr) (q:Str->Pos->Bool):Bool:=if h:x.ctorIdx=23 then @Expr.Name.elim (fun _=>Bool) x h q else false
@[elab_as_elim] theorem gNm {P:Expr->Prop} (x) {q} (h:YD x q) (k:∀ a b,q a b->P (.Name a b)):P x:=(Y8 h).elim fun i j=>@Expr.Name.elim (fun x=>∀ i,@Expr.Name.elim (fun _=>Bool) x i q->P x) x i (fun a b _=>k a b) i j
noncomputable def Zu (x:Expr) (q:Const->Nat->Pos->Bool):Bool:=if h:x.ctorIdx=19 then @Expr.Constant.elim (fun _=>Bool) x h q else false
@[elab_as_elim] theorem gConstant {P:Expr->Prop} (x) {q} (h:Zu x q) (k:∀ a b c,q a b c->P (.Constant a b c)):P x:=(Y8 h).elim fun i j=>@Expr.Constant.elim (fun x=>∀ i,@Expr.Constant.elim (fun _=>Bool) x i q->P x) x i (fun a b c _=>k a b c) i j
noncomputable def Cv (x:Expr) (q:Expr->Operator->Expr->Pos->Bool):Bool:=if h:x.ctorIdx=2 then @Expr.BinOp.elim (fun _=>Bool) x h q else false
@[elab_as_elim] theorem gBinOp {P:Expr->Prop} (x) {q} (h:Cv x q) (k:∀ a b c d,q a b c d->P (.BinOp a b c d)):P x:=(Y8 h).elim fun i j=>@Expr.BinOp.elim (fun x=>∀ i,@Expr.BinOp.elim (fun _=>Bool) x i q->P x) x i (fun a b c d _=>k a b c d) i j
noncomputable def Vq (x:Expr) (q:UnaryOp->Expr->Pos->Bool):Bool:=if h:x.ctorIdx=3 then @Expr.UnaryOp.elim (fun _=>Bool) x h q else false
@[elab_as_elim] theorem gUnaryOp {P:Expr->Prop} (x) {q} (h:Vq x q) (k:∀ a b c,q a b c->P (.UnaryOp a b c)):P x:=(Y8 h).elim fun i j=>@Expr.UnaryOp.elim (fun x=>∀ i,@Expr.UnaryOp.elim (fun _=>Bool) x i q->P x) x i (fun a b c _=>k a b c) i j
noncomputable def W1 (x:Expr) (q:Expr->(List CmpOp)->(List Expr)->Pos->Bool):Bool:=if h:x.ctorIdx=15 then @Expr.Compare.elim (fun _=>Bool) x h q else false
@[elab_as_elim] theorem gCompare {P:Expr->Prop} (x) {q} (h:W1 x q) (k:∀ a b c d,q a b c d->P (.Compare a b c d)):P x:=(Y8 h).elim fun i j=>@Expr.Compare.elim (fun x=>∀ i,@Expr.Compare.elim (fun _=>Bool) x i q->P x) x i (fun a b c d _=>k a b c d) i j
noncomputable def WZ (x:Expr) (q:BoolOp->(List Expr)->Pos->Bool):Bool:=if h:x.ctorIdx=0 then @Expr.BoolOp.elim (fun _=>Bool) x h q else false
@[elab_as_elim] theorem gBoolOp {P:Expr->Prop} (x) {q} (h:WZ x q) (k:∀ a b c,q a b c->P (.BoolOp a b c)):P x:=(Y8 h).elim fun i j=>@Expr.BoolOp.elim (fun x=>∀ i,@Expr.BoolOp.elim (fun _=>Bool) x i q->P x) x i (fun a b c _=>k a b c) i j
noncomputable def Cs (x:Expr) (q:Expr->Expr->Expr->Pos->Bool):Bool:=if h:x.ctorIdx=5 then @Expr.IfExp.elim (fun _=>Bool) x h q else false
@[elab_as_elim] theorem gIfExp {P:Expr->Prop} (x) {q} (h:Cs x q) (k:∀ a b c d,q a b c d->P (.IfExp a b c d)):P x:=(Y8 h).elim fun i j=>@Expr.IfExp.elim (fun x=>∀ i,@Expr.IfExp.elim (fun _=>Bool) x i q->P x) x i (fun a b c d _=>k a b c d) i j
noncomputable def Zy (x:Expr) (q:(List Expr)->Nat->Pos->Bool):Bool:=if h:x.ctorIdx=25 then @Expr.Tuple.elim (fun _=>Bool) x h q else false
@[elab_as_elim] theorem gTuple {P:Expr->Prop} (x) {q} (h:Zy x q) (k:∀ a b c,q a b c->P (.Tuple a b c)):P x:=(Y8 h).elim fun i j=>@Expr.Tuple.elim (fun x=>∀ i,@Expr.Tuple.elim (fun _=>Bool) x i q->P x) x i (fun a b c _=>k a b c) i j
noncomputable def FU (x:Expr) (q:(List Expr)->Pos->Bool):Bool:=if h:x.ctorIdx=24 then @Expr.List.elim (fun _=>Bool) x h q else false
@[elab_as_elim] theorem gList {P:Expr->Prop} (x) {q} (h:FU x q) (k:∀ a b,q a b->P (.List a b)):P x:=(Y8 h).elim fun i j=>@Expr.List.elim (fun x=>∀ i,@Expr.List.elim (fun _=>Bool) x i q->P x) x i (fun a b _=>k a b) i j
noncomputable def Xd (x:Expr) (q:Expr->Expr->Pos->Bool):Bool:=if h:x.ctorIdx=21 then @Expr.Subscript.elim (fun _=>Bool) x h q else false
@[elab_as_elim] theorem gSubscript {P:Expr->Prop} (x) {q} (h:Xd x q) (k:∀ a b c,q a b c->P (.Subscript a b c)):P x:=(Y8 h).elim fun i j=>@Expr.Subscript.elim (fun x=>∀ i,@Expr.Subscript.elim (fun _=>Bool) x i q->P x) x i (fun a b c _=>k a b c) i j
noncomputable def Cp (x:Expr) (q:(Option Expr)->(Option Expr)->(Option Expr)->Pos->Bool):Bool:=if h:x.ctorIdx=26 then @Expr.Slice.elim (fun _=>Bool) x h q else false
@[elab_as_elim] theorem gSlice {P:Expr->Prop} (x) {q} (h:Cp x q) (k:∀ a b c d,q a b c d->P (.Slice a b c d)):P x:=(Y8 h).elim fun i j=>@Expr.Slice.elim (fun x=>∀ i,@Expr.Slice.elim (fun _=>Bool) x i q->P x) x i (fun a b c d _=>k a b c d) i j
noncomputable def ZY (x:Expr) (q:Expr->(List Expr)->(List Keyword)->Pos->Bool):Bool:=if h:x.ctorIdx=16 then @Expr.Call.elim (fun _=>Bool) x h q else false
@[elab_as_elim] theorem gCall {P:Expr->Prop} (x) {q} (h:ZY x q) (k:∀ a b c d,q a b c d->P (.Call a b c d)):P x:=(Y8 h).elim fun i j=>@Expr.Call.elim (fun x=>∀ i,@Expr.Call.elim (fun _=>Bool) x i q->P x) x i (fun a b c d _=>k a b c d) i j
noncomputable def Zb (x:Expr) (q:Expr->Str->Pos->Bool):Bool:=if h:x.ctorIdx=20 then @Expr.Attribute.elim (fun _=>Bool) x h q else false
@[elab_as_elim] theorem gAttribute {P:Expr->Prop} (x) {q} (h:Zb x q) (k:∀ a b c,q a b c->P (.Attribute a b c)):P x:=(Y8 h).elim fun i j=>@Expr.Attribute.elim (fun x=>∀ i,@Expr.Attribute.elim (fun _=>Bool) x i q->P x) x i (fun a b c _=>k a b c) i j
noncomputable def Wo (x:Expr) (q:Expr->(List Comprehension)->Scope->Pos->Bool):Bool:=if h:x.ctorIdx=8 then @Expr.ListComp.elim (fun _=>Bool) x h q else false
@[elab_as_elim] theorem gListComp {P:Expr->Prop} (x) {q} (h:Wo x q) (k:∀ a b c d,q a b c d->P (.ListComp a b c d)):P x:=(Y8 h).elim fun i j=>@Expr.ListComp.elim (fun x=>∀ i,@Expr.ListComp.elim (fun _=>Bool) x i q->P x) x i (fun a b c d _=>k a b c d) i j
noncomputable def qMk (x:Comprehension) (q:Expr->Expr->(List Expr)->Int->Bool):Bool:=match x with | .mk a b c d=>q a b c d
@[elab_as_elim] theorem gMk {P:Comprehension->Prop} (x) {q} (h:qMk x q) (k:∀ a b c d,q a b c d->P (.mk a b c d)):P x:=by
 cases x with
 | mk a b c d=>exact k a b c d h
noncomputable def qInt (x:Const) (q:Int->Bool):Bool:=if h:x.ctorIdx=2 then @Const.int.elim (fun _=>Bool) x h q else false
@[elab_as_elim] theorem gInt {P:Const->Prop} (x) {q} (h:qInt x q) (k:∀ a,q a->P (.int a)):P x:=(Y8 h).elim fun i j=>@Const.int.elim (fun x=>∀ i,@Const.int.elim (fun _=>Bool) x i q->P x) x i (fun a _=>k a) i j
noncomputable def FW (x:Const) (q:Bool->Bool):Bool:=if h:x.ctorIdx=1 then @Const.bool.elim (fun _=>Bool) x h q else false
@[elab_as_elim] theorem gBool {P:Const->Prop} (x) {q} (h:FW x q) (k:∀ a,q a->P (.bool a)):P x:=(Y8 h).elim fun i j=>@Const.bool.elim (fun x=>∀ i,@Const.bool.elim (fun _=>Bool) x i q->P x) x i (fun a _=>k a) i j
noncomputable def qStr (x:Const) (q:Str->Bool):Bool:=if h:x.ctorIdx=5 then @Const.str.elim (fun _=>Bool) x h q else false
@[elab_as_elim] theorem gStr {P:Const->Prop} (x) {q} (h:qStr x q) (k:∀ a,q a->P (.str a)):P x:=(Y8 h).elim fun i j=>@Const.str.elim (fun x=>∀ i,@Const.str.elim (fun _=>Bool) x i q->P x) x i (fun a _=>k a) i j
noncomputable def Cu (x:Const) (q:Bool):Bool:=if h:x.ctorIdx=0 then @Const.none.elim (fun _=>Bool) x h q else false
@[elab_as_elim] theorem gCnone {P:Const->Prop} (x) {q} (h:Cu x q) (k:q->P .none):P x:=(Y8 h).elim fun i j=>@Const.none.elim (fun x=>∀ i,@Const.none.elim (fun _=>Bool) x i q->P x) x i (fun _=>k) i j
noncomputable def FT (x:UnaryOp) (q:Bool):Bool:=if h:x.ctorIdx=3 then @UnaryOp.USub.elim (fun _=>Bool) x h q else false
@[elab_as_elim] theorem gUSub {P:UnaryOp->Prop} (x) {q} (h:FT x q) (k:q->P .USub):P x:=(Y8 h).elim fun i j=>@UnaryOp.USub.elim (fun x=>∀ i,@UnaryOp.USub.elim (fun _=>Bool) x i q->P x) x i (fun _=>k) i j
noncomputable def qNot (x:UnaryOp) (q:Bool):Bool:=if h:x.ctorIdx=1 then @UnaryOp.Not.elim (fun _=>Bool) x h q else false
@[elab_as_elim] theorem gNot {P:UnaryOp->Prop} (x) {q} (h:qNot x q) (k:q->P .Not):P x:=(Y8 h).elim fun i j=>@UnaryOp.Not.elim (fun x=>∀ i,@UnaryOp.Not.elim (fun _=>Bool) x i q->P x) x i (fun _=>k) i j
noncomputable def qAnd (x:BoolOp) (q:Bool):Bool:=if h:x.ctorIdx=0 then @BoolOp.And.elim (fun _=>Bool) x h q else false
@[elab_as_elim] theorem gAnd {P:BoolOp->Prop} (x) {q} (h:qAnd x q) (k:q->P .And):P x:=(Y8 h).elim fun i j=>@BoolOp.And.elim (fun x=>∀ i,@BoolOp.And.elim (fun _=>Bool) x i q->P x) x i (fun _=>k) i j
noncomputable def qOr (x:BoolOp) (q:Bool):Bool:=if h:x.ctorIdx=1 then @BoolOp.Or.elim (fun _=>Bool) x h q else false
@[elab_as_elim] theorem gOr {P:BoolOp->Prop} (x) {q} (h:qOr x q) (k:q->P .Or):P x:=(Y8 h).elim fun i j=>@BoolOp.Or.elim (fun x=>∀ i,@BoolOp.Or.elim (fun _=>Bool) x i q->P x) x i (fun _=>k) i j
noncomputable def qNil {α:Type} (x:List α) (q:Bool):Bool:=if h:x.ctorIdx=0 then @List.nil.elim α (fun _=>Bool) x h q else false
@[elab_as_elim] theorem gNil {α:Type} {P:List α->Prop} (x) {q} (h:qNil x q) (k:q->P .nil):P x:=(Y8 h).elim fun i j=>@List.nil.elim α (fun x=>∀ i,@List.nil.elim α (fun _=>Bool) x i q->P x) x i (fun _=>k) i j
noncomputable def Y9 {α:Type} (x:List α) (q:α->(List α)->Bool):Bool:=if h:x.ctorIdx=1 then @List.cons.elim α (fun _=>Bool) x h q else false
@[elab_as_elim] theorem Yb {α:Type} {P:List α->Prop} (x) {q} (h:Y9 x q) (k:∀ a b,q a b->P (.cons a b)):P x:=(Y8 h).elim fun i j=>@List.cons.elim α (fun x=>∀ i,@List.cons.elim α (fun _=>Bool) x i q->P x) x i (fun a b _=>k a b) i j
noncomputable def Cr {α:Type} (x:Option α) (q:Bool):Bool:=if h:x.ctorIdx=0 then @Option.none.elim α (fun _=>Bool) x h q else false
@[elab_as_elim] theorem gNone {α:Type} {P:Option α->Prop} (x) {q} (h:Cr x q) (k:q->P .none):P x:=(Y8 h).elim fun i j=>@Option.none.elim α (fun x=>∀ i,@Option.none.elim α (fun _=>Bool) x i q->P x) x i (fun _=>k) i j
noncomputable def Co {α:Type} (x:Option α) (q:α->Bool):Bool:=if h:x.ctorIdx=1 then @Option.some.elim α (fun _=>Bool) x h q else false
@[elab_as_elim] theorem gSome {α:Type} {P:Option α->Prop} (x) {q} (h:Co x q) (k:∀ a,q a->P (.some a)):P x:=(Y8 h).elim fun i j=>@Option.some.elim α (fun x=>∀ i,@Option.some.elim α (fun _=>Bool) x i q->P x) x i (fun a _=>k a) i j
noncomputable def Xf (x:Stmt) (q:(List Expr)->Expr->Pos->Bool):Bool:=if h:x.ctorIdx=5 then @Stmt.Assign.elim (fun _=>Bool) x h q else false
@[elab_as_elim] theorem gAssign {P:Stmt->Prop} (x) {q} (h:Xf x q) (k:∀ a b c,q a b c->P (.Assign a b c)):P x:=(Y8 h).elim fun i j=>@Stmt.Assign.elim (fun x=>∀ i,@Stmt.Assign.elim (fun _=>Bool) x i q->P x) x i (fun a b c _=>k a b c) i j
noncomputable def AE (x:Stmt) (q:(Option Expr)->Pos->Bool):Bool:=if h:x.ctorIdx=3 then @Stmt.Return.elim (fun _=>Bool) x h q else false
@[elab_as_elim] theorem gReturn {P:Stmt->Prop} (x) {q} (h:AE x q) (k:∀ a b,q a b->P (.Return a b)):P x:=(Y8 h).elim fun i j=>@Stmt.Return.elim (fun x=>∀ i,@Stmt.Return.elim (fun _=>Bool) x i q->P x) x i (fun a b _=>k a b) i j
noncomputable def Vr (x:Stmt) (q:Expr->Operator->Expr->Pos->Bool):Bool:=if h:x.ctorIdx=7 then @Stmt.AugAssign.elim (fun _=>Bool) x h q else false
@[elab_as_elim] theorem gAugAssign {P:Stmt->Prop} (x) {q} (h:Vr x q) (k:∀ a b c d,q a b c d->P (.AugAssign a b c d)):P x:=(Y8 h).elim fun i j=>@Stmt.AugAssign.elim (fun x=>∀ i,@Stmt.AugAssign.elim (fun _=>Bool) x i q->P x) x i (fun a b c d _=>k a b c d) i j
noncomputable def qFor (x:Stmt) (q:Expr->Expr->(List Stmt)->(List Stmt)->Pos->Bool):Bool:=if h:x.ctorIdx=9 then @Stmt.For.elim (fun _=>Bool) x h q else false
@[elab_as_elim] theorem gFor {P:Stmt->Prop} (x) {q} (h:qFor x q) (k:∀ a b c d e,q a b c d e->P (.For a b c d e)):P x:=(Y8 h).elim fun i j=>@Stmt.For.elim (fun x=>∀ i,@Stmt.For.elim (fun _=>Bool) x i q->P x) x i (fun a b c d e _=>k a b c d e) i j
noncomputable def Cm (x:Stmt) (q:Expr->(List Stmt)->(List Stmt)->Pos->Bool):Bool:=if h:x.ctorIdx=11 then @Stmt.While.elim (fun _=>Bool) x h q else false
@[elab_as_elim] theorem gWhile {P:Stmt->Prop} (x) {q} (h:Cm x q) (k:∀ a b c d,q a b c d->P (.While a b c d)):P x:=(Y8 h).elim fun i j=>@Stmt.While.elim (fun x=>∀ i,@Stmt.While.elim (fun _=>Bool) x i q->P x) x i (fun a b c d _=>k a b c d) i j
noncomputable def qIf (x:Stmt) (q:Expr->(List Stmt)->(List Stmt)->Pos->Bool):Bool:=if h:x.ctorIdx=12 then @Stmt.If.elim (fun _=>Bool) x h q else false
@[elab_as_elim] theorem gIf {P:Stmt->Prop} (x) {q} (h:qIf x q) (k:∀ a b c d,q a b c d->P (.If a b c d)):P x:=(Y8 h).elim fun i j=>@Stmt.If.elim (fun x=>∀ i,@Stmt.If.elim (fun _=>Bool) x i q->P x) x i (fun a b c d _=>k a b c d) i j
noncomputable def Cq (x:Stmt) (q:(Option Expr)->(Option Expr)->Pos->Bool):Bool:=if h:x.ctorIdx=16 then @Stmt.Raise.elim (fun _=>Bool) x h q else false
@[elab_as_elim] theorem gRaise {P:Stmt->Prop} (x) {q} (h:Cq x q) (k:∀ a b c,q a b c->P (.Raise a b c)):P x:=(Y8 h).elim fun i j=>@Stmt.Raise.elim (fun x=>∀ i,@Stmt.Raise.elim (fun _=>Bool) x i q->P x) x i (fun a b c _=>k a b c) i j
noncomputable def Ct (x:Stmt) (q:Expr->Pos->Bool):Bool:=if h:x.ctorIdx=24 then @Stmt.Expr.elim (fun _=>Bool) x h q else false
@[elab_as_elim] theorem gExpr {P:Stmt->Prop} (x) {q} (h:Ct x q) (k:∀ a b,q a b->P (.Expr a b)):P x:=(Y8 h).elim fun i j=>@Stmt.Expr.elim (fun x=>∀ i,@Stmt.Expr.elim (fun _=>Bool) x i q->P x) x i (fun a b _=>k a b) i j
section
variable {prog:Program} {w:World} {A:Around} {E:Value->Shared->Prop} {h:Heap} {g:Array GenState} {d:Drawn} {t:Nat} {os:OsState}
variable {nm q:Str} {C N:Addr} {bs bm bmB bmN:List Value} {hdct:Bool} {sn:List Str} {sub:List Value} {ab:Bool} {col:Option Bool} {dd:Option Addr} {k0 k1 k2 k3 k5:Option Value} {B Bn newId nid initId inN:String}
end
noncomputable def FY:List Value->Bool
 | .ref _::r=>FY r
 | l=>l==bmV
section
variable {prog:Program} {w:World} {A:Around} {E:Value->Shared->Prop} {K:Frag} {C x:Addr} {s:Shared} {R:Result->Shared->Prop} {cd:ClassData}
end
noncomputable def Uc (n:Str):Str:=if n="NoText" then "part" else if n="NoLevel" then "number" else if n="NoCall" then "row" else "name"
noncomputable def Du (f:Str) (b:List Stmt):Bool:=Y9 b fun s1 r=>Ct s1 fun c1 ep=>ZY c1 fun f1 xs kw cp=>Zb f1 fun o1 m ap=>YD o1 fun c p1=>Y9 xs fun a1 ys=>YD a1 fun s p2=>Y9 ys fun a2 zs=>Zu a2 fun q j p3=>qStr q fun t=>qNil zs (qNil kw (Y9 r fun s2 r2=>qNil r2 (Xf s2 fun tg v ap3=>Y9 tg fun t1 t2=>qNil t2 (Zb t1 fun o2 g ap2=>YD o2 fun n2 p4=>YD v fun x p5=>c == "CordError" && m == "__init__" && s == "self" && n2 == "self" && g==f&&x==f&&(ap.endLine==cp.line)))))
noncomputable def Bv (f:Str) (sc:Scope):Bool:=sc.kind==.function&&!sc.isCoroutine&&!sc.isGenerator&&(sc.names==[(("self":Str),NameKind.local),(f,.local),("CordError",.globalImplicit)])
noncomputable def Fl (f:Str) (p:Arguments):Bool:=p.posonlyargs.isEmpty&&(p.args.map (·.arg)==[("self":Str),f])&&p.vararg.isNone&&p.kwonlyargs.isEmpty&&p.kw_defaults.isEmpty&&p.kwarg.isNone
noncomputable def HC (K:Frag) (f:Str) (fd:FuncData):Bool:=(match fd.body with | .stmts b=>Du f b|_=>false)&&Bv f fd.scope&&Fl f fd.params&&fd.globals==mainGlobals&&fd.builtins==builtinsNs&&fd.closure.isEmpty&&codeIn K fd.code fd.qualname &&
 (match fd.defaults with | .ref T=>(match K.lookup T with|some ⟨_,_,.seq its _,_⟩=>its.size==1|_=>false)|_=>false)
noncomputable def Ds (K:Frag) (f:Str) (fI:Addr):Bool:=match K.lookup fI with
 | some ⟨.type "function",_,.func fd,_⟩=>HC K f fd
 | _=>false
noncomputable def DM (K:Frag) (C:Addr):Option Addr:=match K.lookup C with
 | some ⟨.type "type",_,.cls cd,sl⟩=>(match cd.mro,sl.toList with
  | .ref C'::bm,[_,_,_,_,some (.builtin n),_]=>if (C'==C&&n == "ValueError.__new__" && !cd.hasDel&&tailIn K bmV bm&&nsOkIn K cd.ns&&cd.hasDict&&FY cd.mro) then (match nsIn K cd.ns "__init__" with|some (some (.ref f))=>some f|_=>none) else none
  | _,_=>none)
 | _=>none
noncomputable def Ai (K:Frag) (n:Str) (D:Addr):Bool:=match Wd K "CordError",DM K D with
 | some B,some fI=>(findIn K (.ref D) "__setattr__" == some (some (.builtin "object.__setattr__")))&&(findIn K (.ref D) (Uc n)==some none)&&readsIn K B (.type "type")
   && (match findCls K (.ref B) (.type "type") "__init__" with|some (.val v)=>v==.builtin "ValueError.__init__" | _=>false)&&(specialIn K (.ref B) "__getattribute__" == some (some (.builtin "type.__getattribute__")))&&keepIn K (.ref D)&&Ds K (Uc n) fI
 | _,_=>false
noncomputable def Gf (K:Frag):Bool:=xInit.all fun n=>match Wd K n with
 | none=>true
 | some D=>Ai K n D
structure InitAt (K:Frag) (n:Str) (D B fI:Addr):Prop where
 ex:DM K D=some fI
 b:Wd K "CordError"=some B
 sa:findIn K (.ref D) "__setattr__"=some (some (.builtin "object.__setattr__"))
 nf:findIn K (.ref D) (Uc n)=some none
 rd:readsIn K B (.type "type")=true
 fc:findCls K (.ref B) (.type "type") "__init__"=some (.val (.builtin "ValueError.__init__"))
 sp:specialIn K (.ref B) "__getattribute__"=some (some (.builtin "type.__getattribute__"))
 kp:keepIn K (.ref D)=true
 fn:Ds K (Uc n) fI=true
theorem Iv {K:Frag} {n:Str} {D:Addr} (h:Ai K n D=true):∃ B fI,InitAt K n D B fI:=by
 unfold Ai at h;split at h
 next B fI e1 e2 =>
  simp only[Bool.and_eq_true,beq_iff_eq] at h;obtain⟨⟨⟨⟨⟨⟨h1,h2⟩,h3⟩,h4⟩,h5⟩,h6⟩,h7⟩:=h;split at h4
  next v e=>exact⟨B,fI,e2,e1,h1,h2,h3,by rw[e,beq_iff_eq.mp h4],h5,h6,h7⟩
  next=>cases h4
 next=>cases h
structure InitEnd (P:Program) (w:World) (outer:List Env) (H:Hp) (s:Shared) (e D:Addr) (f:Str) (v:V) (vs0:Array Value) (s':Shared):Prop where
 os:s'.os=s.os
 bare:AllBare s'.gens
 un:Un (frs outer) [e] H H s.heap s'.heap
 hok:HOk P w H s'.heap
 at_:∃ ob ws d u,s'.heap.get? e=some ob/\ob.cls=.ref D/\ob.dict=some d/\ob.data=.fields ws/\ws[1]?=some .none/\ws[2]?=some .none/\ws.size=vs0.size/\RelV v u/\s'.heap.Ns1 d (fun y=>if y=f then some u else none)/\s.heap.objs.size<=d/\H d=none
theorem InitEnd.on {P:Program} {w:World} {outer:List Env} {H:Hp} {s:Shared} {e D:Addr} {f:Str} {v:V} {vs0:Array Value} {s':Shared} (E:InitEnd P w outer H s e D f v vs0 s') {Z:Prop} (go:∀ ob ws d u,s'.heap.get? e=some ob->ob.cls=.ref D->ob.dict=some d->ob.data=.fields ws->ws[1]?=some .none->ws[2]?=some .none->ws.size=vs0.size->RelV v u->s'.heap.Ns1 d (fun y=>if y=f then some u else none)->s.heap.objs.size<=d->H d=none->Z):Z:=by
 obtain⟨ob,ws,d,u,a1,a2,a3,a4,a5,a6,a7,a8,a9,b1,b2⟩:=E.at_;exact go ob ws d u a1 a2 a3 a4 a5 a6 a7 a8 a9 b1 b2
noncomputable def IB (f:Str) (b:List Stmt):Prop:=∃ (p1 ap p2:Pos) (t:Str) (j:Nat) (p3 cp ep p4 ap2 p5 ap3:Pos),b=[.Expr (.Call (.Attribute (.Name "CordError" p1) "__init__" ap) [.Name "self" p2,.Constant (.str t) j p3] [] cp) ep,.Assign [.Attribute (.Name "self" p4) f ap2] (.Name f p5) ap3]/\(ap.endLine==cp.line)=true
noncomputable def Da (K:Frag):Bool:=xNames.all fun n=>match Wd K n with
 | none=>true
 | some D=>kitOne K (.type "NoneType") (.ref D)==some false
noncomputable def Xk (K:Frag):Bool:=BU K&&FZ K&&(Gf K&&Da K)
theorem AA {K:Frag} (t:Xk K=true):BU K=true/\FZ K=true/\Gf K=true/\Da K=true:=by
 unfold Xk at t;simp only[Bool.and_eq_true] at t;exact⟨t.1.1,t.1.2,t.2⟩
section
variable {K:Frag} {n c:Str} {C D:Addr}
theorem Z5 (t:Xk K=true) (hn:n∈xNames) (h:YZ K n D):ExcCls K D/\(xPlain.contains n=true->excIn K D bmV "ValueError.__new__"=true)/\(∀ T,(T="int"\/T="bool"\/T="str"\/T="tuple"\/T="list"\/T="dict"\/T="ValueError")->kitOne K (.ref D) (.type T)=some (T == "ValueError")) /\
  ∀ c C,c∈xNames->YZ K c C->exmOne K (.ref D) (.ref C)=some (YL n c)/\kitOne K (.ref D) (.ref C)=some (YL n c):=by
 have t:=(AA t).1;unfold BU at t;have r:=List.all_eq_true.mp t n hn;rw[VI h] at r;simp only[Bool.and_eq_true,beq_iff_eq,Bool.or_eq_true,Bool.not_eq_true'] at r;obtain⟨⟨⟨⟨r1,r2⟩,r3⟩,r3b⟩,r4⟩:=r;unfold AU at r1;simp only[Bool.and_eq_true,beq_iff_eq] at r1;obtain⟨⟨⟨⟨⟨⟨⟨q1,q2⟩,q3⟩,q4⟩,q5⟩,q6⟩,q7⟩,q8⟩:=r1;refine⟨⟨q1,q2,q3,q4,q5,q6,q7,q8⟩,fun z=>?_,fun T hT=>?_,fun c C hc hC=>?_⟩
 ·rcases r2 with r2|r2
  ·rw[z] at r2;(first|cases (show _=_ from r2.inv)|cases r2)
  ·exact r2
 ·have rT:∀ T∈["int","bool","str","tuple","list","dict"],kitOne K (.ref D) (.type T)=some false:=fun T hT=>beq_iff_eq.mp (List.all_eq_true.mp r3b T hT)
  rcases hT with rfl|rfl|rfl|rfl|rfl|rfl|rfl
  all_goals first|exact r3|exact rT _ %[|4]
 ·have r:=List.all_eq_true.mp r4 c hc
  rw[VI hC] at r
  simpa only [Bool.and_eq_true,beq_iff_eq] using r
theorem D9 (t:Xk K=true) (hn:n∈xNames) (h:YZ K n D):kitOne K (.type "NoneType") (.ref D)=some false:=by
 have t:=(AA t).2.2.2;unfold Da at t;have r:=List.all_eq_true.mp t n hn;rw[VI h] at r;exact beq_iff_eq.mp r
end
end DL
end
noncomputable section
namespace DL
open PySem PySem.Spec PyProof.Rows L2
inductive D where
 | non|bl (b:Bool)|int (i:Int)|str (x:Str)|ty (n:String)
 | tup (ds:List D)|fz (ds:List D)|lst (a:Addr)|dct (a:Addr)|ref (a:Addr)
 | exc (n:Str) (x:D)|cls (n:Str)
 | fn (n:Str)
 | sd (xs:List Str) (ds:List D)
 | fd (xs:List Str) (ds:List D)
 deriving Inhabited
inductive MO where
 | ls (ds:List D)
 | dk (kvs:List (Key×D))
 | ob (n:Str) (fs:List (Str×D))
abbrev Mem:=Addr->Option MO
abbrev DSt:=List (Option D)
abbrev DK:=D->Mem->Prop
noncomputable def Mem.upd (M:Mem) (a:Addr) (o:MO):Mem:=fun b=>if b=a then some o else M b
theorem mupd_same {M:Mem} {a:Addr} {o:MO}:M.upd a o a=some o:=if_pos rfl
theorem Yv {M:Mem} {a b:Addr} {o:MO} (h:b≠a):M.upd a o b=M b:=if_neg h
theorem Jo {M:Mem} {a:Addr} {o u:MO}:(M.upd a o).upd a u=M.upd a u:=by
 funext b;unfold Mem.upd;split<;>rfl
noncomputable def MExt (M M':Mem):Prop:=∀ a o,M a=some o->M' a=some o
theorem MExt.refl (M:Mem):MExt M M:=fun _ _ h=>h
theorem MExt.trans {M M1 M2:Mem} (a:MExt M M1) (b:MExt M1 M2):MExt M M2:=fun c o h=>b c o (a c o h)
theorem MExt.new {M:Mem} {p:Addr} {o:MO} (h:M p=none):MExt M (M.upd p o):=fun a u e=>by
 have:a≠p:=fun z=>by rw[z,h] at e;cases e
 rw[Yv this];exact e
noncomputable def alloc (M:Mem) (o:MO) (Q:Addr->Mem->Prop):Prop:=∀ p M',M p=none->MExt M M'->M' p=some o->Q p M'
theorem alloc.at (h:alloc M o Q) (hp:M p=none):Q p (M.upd p o):=h p _ hp (.new hp) mupd_same
noncomputable def SqF (K:Frag) (H:Hp) (a:Addr) (xs:List V):Prop :=
 (∃ o,H a=some (.frz o (.lst xs))) \/
  ∃ (o:Obj) (its:Array Value) (n:Nat),K.lookup a=some o/\o.cls=.type "list"/\o.dict=none/\o.data=.seq its n/\its.size<=sizeLine/\Vals xs its.toList
theorem SqF.sq {K:Frag} {H:Hp} {a:Addr} {xs:List V} (h:SqF K H a xs):SqL K H a xs:=by
 rcases h with ⟨o,h⟩|h
 ·exact .inl (.inr ⟨o,h⟩)
 ·exact .inr h
inductive EntK:List DictEntry->List Str->List Value->Prop
 | nil:EntK [] [] []
 | cons {e:DictEntry} {x:Str} {t:Tok} {es:List DictEntry} {xs:List Str} {us:List Value} (k:e.key=.str x t) (r:EntK es xs us):EntK (e::es) (x::xs) (e.val::us)
noncomputable def TabK (K:Frag) (a:Addr) (xs:List Str) (vs:List V):Prop :=
 (a==sysModules)=false/\∃ (o:Obj) (es:Array DictEntry) (ep:Nat) (us:List Value),K.lookup a=some o/\o.ExactDict/\o.data=.dict es ep/\EntK es.toList xs us/\Vals vs us
noncomputable def fdK (xs:List Str) (vs:List V):List (Key×V):=(xs.zip vs).map fun p=>(Sum.inr p.1,p.2)
noncomputable def FdK (H:Hp) (a:Addr) (xs:List Str) (vs:List V):Prop:=xs.length=vs.length/\∃ o,H a=some (.frz o (.dK (fdK xs vs)))
noncomputable def Gn (a C:Addr) (dd:Option Addr) (h:Heap):Prop:=∃ ob vs,h.get? a=some ob/\ob.cls=.ref C/\ob.dict=dd/\ob.data=.fields vs
noncomputable def Ep (d:Addr) (f:Str) (v:V) (h:Heap):Prop:=∃ u,RelV v u/\h.Ns1 d (fun y=>if y=f then some u else none)
mutual
inductive RelD (K:Frag) (H:Hp):V->D->Prop
 | non:RelD K H .non .non
 | bl (b:Bool):RelD K H (.bl b) (.bl b)
 | int (i:Int):RelD K H (.int i) (.int i)
 | str (x:Str):RelD K H (.str x) (.str x)
 | ty (n:String):RelD K H (.ty n) (.ty n)
 | tup {a:Addr} {vs:List V} {ds:List D} (h:SqT K H a vs) (r:RelDs K H vs ds):RelD K H (.ref a) (.tup ds)
 | fz {a:Addr} {vs:List V} {ds:List D} (h:SqF K H a vs) (r:RelDs K H vs ds):RelD K H (.ref a) (.fz ds)
 | lst (a:Addr):RelD K H (.ref a) (.lst a)
 | dct (a:Addr):RelD K H (.ref a) (.dct a)
 | ref (a:Addr):RelD K H (.ref a) (.ref a)
 | cls {C:Addr} {n:Str} (hn:n∈xNames) (hc:YZ K n C):RelD K H (.ref C) (.cls n)
 | fn {C:Addr} {n:Str} (hc:YZ K n C):RelD K H (.ref C) (.fn n)
 | sd {a:Addr} {xs:List Str} {vs:List V} {ds:List D} (h:TabK K a xs vs) (r:RelDs K H vs ds):RelD K H (.ref a) (.sd xs ds)
 | fd {a:Addr} {xs:List Str} {vs:List V} {ds:List D} (h:FdK H a xs vs) (r:RelDs K H vs ds):RelD K H (.ref a) (.fd xs ds)
 | exc {a C:Addr} {n:Str} (hn:n∈xNames) (hi:n ∉ xInit) (hc:YZ K n C) (h:H a=some (.ext (Gn a C none))):RelD K H (.ref a) (.exc n .non)
 | excF {a C d:Addr} {n:Str} {v:V} {x:D} (hn:n∈xNames) (hi:n∈xInit) (hc:YZ K n C) (h:H a=some (.ext (Gn a C (some d)))) (hd:H d=some (.ext (Ep d (Uc n) v))) (r:RelD K H v x):RelD K H (.ref a) (.exc n x)
inductive RelDs (K:Frag) (H:Hp):List V->List D->Prop
 | nil:RelDs K H [] []
 | cons {v:V} {d:D} {vs:List V} {ds:List D} (h:RelD K H v d) (r:RelDs K H vs ds):RelDs K H (v::vs) (d::ds)
end
structure HExt (K:Frag) (H H':Hp):Prop where
 tup:∀ a vs,SqT K H a vs->SqT K H' a vs
 fz:∀ a vs,SqF K H a vs->SqF K H' a vs
 ex:∀ a φ,H a=some (.ext φ)->H' a=some (.ext φ)
 fd:∀ a o kws,H a=some (.frz o (.dK kws))->H' a=some (.frz o (.dK kws))
theorem HExt.refl {K:Frag} (H:Hp):HExt K H H:=⟨fun _ _ h=>h,fun _ _ h=>h,fun _ _ h=>h,fun _ _ _ h=>h⟩
theorem HExt.trans {K:Frag} {H H1 H2:Hp} (a:HExt K H H1) (b:HExt K H1 H2):HExt K H H2:=⟨fun p vs h=>b.tup p vs (a.tup p vs h),fun p vs h=>b.fz p vs (a.fz p vs h),fun p C h=>b.ex p C (a.ex p C h),fun p o kws h=>b.fd p o kws (a.fd p o kws h)⟩
noncomputable def MutL:HO->Prop
 | .lst _=>True
 | .dK _=>True
 | .ins _ _ _=>True
 | _=>False
theorem HExt.upd {K:Frag} {H:Hp} {p:Addr} {o:HO} (h:H p=none\/∃ u,H p=some u/\MutL u):HExt K H (L2.upd H p o):=by
 refine⟨fun a vs q=>?_,fun a vs q=>?_,fun a C q=>?_,fun a ob kws q=>?_⟩
 ·rcases q with (q|⟨ob,q⟩)|q
  ·refine .inl (.inl ?_)
   rw[Y4];exact q;rintro rfl;rcases h with h|⟨u,h,m⟩
   ·rw[h] at q;cases q
   ·rw[h] at q;cases q;exact m
  ·refine .inl (.inr ⟨ob,?_⟩)
   rw[Y4];exact q;rintro rfl;rcases h with h|⟨u,h,m⟩
   ·rw[h] at q;cases q
   ·rw[h] at q;cases q;exact m
  ·exact .inr q
 ·rcases q with ⟨ob,q⟩|q
  ·refine .inl ⟨ob,?_⟩
   rw[Y4];exact q;rintro rfl;rcases h with h|⟨u,h,m⟩
   ·rw[h] at q;cases q
   ·rw[h] at q;cases q;exact m
  ·exact .inr q
 ·rw[Y4];exact q
  rintro rfl;rcases h with h|⟨u,h,m⟩
  ·rw[h] at q;cases q
  ·rw[h] at q;cases q;exact m
 ·rw[Y4];exact q
  rintro rfl;rcases h with h|⟨u,h,m⟩
  ·rw[h] at q;cases q
  ·rw[h] at q;cases q;exact m
theorem RelDs.ext {K:Frag} {H H':Hp} (x:HExt K H H') {vs:List V} {ds:List D} (h:RelDs K H vs ds):RelDs K H' vs ds:=by
 induction h using RelDs.rec (motive_1:=fun v d _=>RelD K H' v d) with
 | non=>exact .non
 | bl b=>exact .bl b
 | int i=>exact .int i
 | str y=>exact .str y
 | ty n=>exact .ty n
 | tup h r ih=>exact .tup (x.tup _ _ h) ih
 | fz h r ih=>exact .fz (x.fz _ _ h) ih
 | lst a=>exact .lst a
 | dct a=>exact .dct a
 | ref a=>exact .ref a
 | cls hn h=>exact .cls hn h
 | fn h=>exact .fn h
 | sd h r ih=>exact .sd h ih
 | fd h r ih=>exact .fd ⟨h.1,h.2.elim fun o e=>⟨o,x.fd _ _ _ e⟩⟩ ih
 | exc hn hi hc h=>exact .exc hn hi hc (x.ex _ _ h)
 | excF hn hi hc h hd r ih=>exact .excF hn hi hc (x.ex _ _ h) (x.ex _ _ hd) ih
 | nil=>exact .nil
 | cons h r i1 i2=>exact .cons i1 i2
theorem RelD.ext {K:Frag} {H H':Hp} (x:HExt K H H') {v:V} {d:D} (h:RelD K H v d):RelD K H' v d:=by
 cases RelDs.ext x (.cons h .nil) with
 | cons h _=>exact h
inductive ExD (K:Frag) (H:Hp) (n:Str):Option Addr->D->Prop
 | plain (hi:n ∉ xInit):ExD K H n none .non
 | fld {d:Addr} {v:V} {x:D} (hi:n∈xInit) (hd:H d=some (.ext (Ep d (Uc n) v))) (r:RelD K H v x):ExD K H n (some d) x
noncomputable def xarg:D->D
 | .exc _ x=>x
 | d=>d
@[simp] theorem Iw (n:Str) (x:D):xarg (.exc n x)=x:=rfl
section
variable {K:Frag} {H:Hp}
noncomputable def InvD (K:Frag) (H:Hp) (v:V):D->Prop
 | .non=>v=.non
 | .bl b=>v=.bl b
 | .int i=>v=.int i
 | .str x=>v=.str x
 | .ty n=>v=.ty n
 | .tup ds=>∃ a vs,v=.ref a/\SqT K H a vs/\RelDs K H vs ds
 | .fz ds=>∃ a vs,v=.ref a/\SqF K H a vs/\RelDs K H vs ds
 | .lst a=>v=.ref a
 | .dct a=>v=.ref a
 | .ref a=>v=.ref a
 | .cls n=>∃ C,v=.ref C/\n∈xNames/\YZ K n C
 | .fn n=>∃ C,v=.ref C/\YZ K n C
 | _=>True
theorem RelD.inv {K:Frag} {H:Hp} {v:V} {d:D} (r:RelD K H v d):InvD K H v d:=by
 cases r with
 | tup h r=>exact⟨_,_,rfl,h,r⟩
 | fz h r=>exact⟨_,_,rfl,h,r⟩
 | cls hn hc=>exact⟨_,rfl,hn,hc⟩
 | fn hc=>exact⟨_,rfl,hc⟩
 | _=>first|rfl|trivial
noncomputable def Kb (K:Frag) (H:Hp) (vs:List V):List D->Prop
 | []=>vs=[]
 | d::ds=>∃ v us,vs=v::us/\RelD K H v d/\RelDs K H us ds
theorem RelDs.inv {K:Frag} {H:Hp} {vs:List V} {ds:List D} (r:RelDs K H vs ds):Kb K H vs ds:=by
 cases r with
 | nil=>rfl
 | cons h r=>exact⟨_,_,rfl,h,r⟩
theorem RelDs.inv1 {K:Frag} {H:Hp} {vs:List V} {d:D} (r:RelDs K H vs [d]) {P:Prop} (go:∀ v,vs=[v]->RelD K H v d->P):P:=by
 obtain⟨v,us,rfl,h,r⟩:=r.inv;obtain rfl:=r.inv;exact go v rfl h
theorem RelDs.inv2 {K:Frag} {H:Hp} {vs:List V} {d e:D} (r:RelDs K H vs [d,e]) {P:Prop} (go:∀ v w,vs=[v,w]->RelD K H v d->RelD K H w e->P):P:=by
 obtain⟨v,us,rfl,h,r⟩:=r.inv;exact r.inv1 fun w e h'=>go v w (by rw[e]) h h'
theorem Wk {v:V} {us:List Value} (r:Vals [v] us) {P:Prop} (go:∀ u,us=[u]->RelV v u->P):P:=by
 cases r with
 | cons h r=>cases r;exact go _ rfl h
theorem VU {v w:V} {us:List Value} (r:Vals [v,w] us) {P:Prop} (go:∀ u x,us=[u,x]->RelV v u->RelV w x->P):P:=by
 cases r with
 | cons h r=>exact Wk r fun x e h'=>go _ x (by rw[e]) h h'
theorem RelDs.length:∀ {vs:List V} {ds:List D},RelDs K H vs ds->vs.length=ds.length
 | _,_,.nil=>rfl
 | _,_,.cons _ r=>congrArg (·+1) (RelDs.length r)
theorem RelDs.append:∀ {vs ws:List V} {ds es:List D},RelDs K H vs ds->RelDs K H ws es->RelDs K H (vs++ws) (ds++es)
 | _,_,_,_,.nil,q=>q
 | _,_,_,_,.cons h r,q=>.cons h (RelDs.append r q)
theorem RelDs.drop:∀ {vs:List V} {ds:List D} (n:Nat),RelDs K H vs ds->RelDs K H (vs.drop n) (ds.drop n)
 | _,_,0,r=>r
 | _,_,_+1,.nil=>.nil
 | _,_,n+1,.cons _ r=>RelDs.drop n r
theorem RelDs.take:∀ {vs:List V} {ds:List D} (n:Nat),RelDs K H vs ds->RelDs K H (vs.take n) (ds.take n)
 | _,_,0,_=>.nil
 | _,_,_+1,.nil=>.nil
 | _,_,n+1,.cons h r=>.cons h (RelDs.take n r)
theorem RelDs.get:∀ {vs:List V} {ds:List D} {i:Nat} {d:D},RelDs K H vs ds->ds[i]?=some d->∃ v,vs[i]?=some v/\RelD K H v d
 | _,_,_,_,.nil,e=>by simp at e
 | _,_,0,_,.cons h _,e=>by simp at e;subst e;exact⟨_,rfl,h⟩
 | _,_,i+1,d,.cons _ r,e=>by
  obtain⟨v,h1,h2⟩:=RelDs.get (i:=i) (d:=d) r (by simpa using e);exact⟨v,by simpa using h1,h2⟩
theorem RelDs.set (h:RelD K H v d):∀ {vs:List V} {ds:List D} (i:Nat),RelDs K H vs ds->RelDs K H (vs.set i v) (ds.set i d)
 | _,_,_,.nil=>.nil
 | _,_,0,.cons _ r=>.cons h r
 | _,_,i+1,.cons q r=>.cons q (RelDs.set h i r)
theorem RelDs.ints:∀ (ns:List Int),RelDs K H (ns.map V.int) (ns.map D.int)
 | []=>.nil
 | n::r=>.cons (.int n) (RelDs.ints r)
end
noncomputable def MOk (K:Frag) (H:Hp) (a:Addr):MO->Prop
 | .ls ds=>∃ vs,H a=some (.lst vs)/\RelDs K H vs ds
 | .dk kvs=>∃ kws:List (Key×V),H a=some (.dK kws)/\kws.map (·.1)=kvs.map (·.1)/\RelDs K H (kws.map (·.2)) (kvs.map (·.2))
 | .ob n fs=>∃ (C dx:Addr) (vs:List (Str×V)),YZ K n C/\H a=some (.ins C dx vs)/\vs.map (·.1)=fs.map (·.1)/\RelDs K H (vs.map (·.2)) (fs.map (·.2))
noncomputable def RepM (K:Frag) (H:Hp) (M:Mem):Prop:=∀ a o,M a=some o->MOk K H a o
structure LK where
 K:Frag
 ok:Hp->Prop
 mono:∀ H H',HExt K H H'->ok H->ok H'
structure Slots (K:Frag) (H:Hp) (δ:DSt) (σ:L2.St):Prop where
 len:δ.length=σ.length
 slot:∀ (i:Nat) (d:D),δ[i]?=some (some d)->∃ v,σ[i]?=some (some v)/\RelD K H v d
structure RepS (Λ:LK) (H:Hp) (δ:DSt) (σ:L2.St):Prop extends Slots Λ.K H δ σ where
 ok:Λ.ok H
section
variable {K:Frag} {Λ:LK} {H H':Hp} {M:Mem} {δ:DSt} {σ:L2.St}
theorem Slots.ext (x:HExt K H H') (r:Slots K H δ σ):Slots K H' δ σ:=⟨r.len,fun i d e=>let ⟨v,h,q⟩:=r.slot i d e;⟨v,h,q.ext x⟩⟩
theorem RepS.ext (x:HExt Λ.K H H') (r:RepS Λ H δ σ):RepS Λ H' δ σ:=⟨r.toSlots.ext x,Λ.mono _ _ x r.ok⟩
theorem Slots.set (r:Slots K H δ σ) (h:RelD K H v d) (i:Nat):Slots K H (δ.set i (some d)) (σ.set i (some v)):=by
 refine⟨by simp[r.len],fun j e q=>?_⟩;by_cases hj:j=i
 ·subst hj
  by_cases hl:j < δ.length
  ·rw[List.getElem?_set_self hl] at q;cases q
   exact⟨v,List.getElem?_set_self (by rw[<- r.len];exact hl),h⟩
  ·rw[List.getElem?_eq_none (by simp;omega)] at q;cases q
 ·rw[List.getElem?_set_ne (Ne.symm hj)] at q
  obtain⟨u,h1,h2⟩:=r.slot j e q;exact⟨u,by rw[List.getElem?_set_ne (Ne.symm hj)];exact h1,h2⟩
theorem RepS.set (r:RepS Λ H δ σ) (h:RelD Λ.K H v d) (i:Nat):RepS Λ H (δ.set i (some d)) (σ.set i (some v)):=⟨r.toSlots.set h i,r.ok⟩
theorem MOk.fresh (r:MOk K H a o):H a≠none:=by
 cases o with
 | ls ds=>obtain⟨vs,h,_⟩:=r;rw[h];simp
 | dk kvs=>obtain⟨vs,h,_⟩:=r;rw[h];simp
 | ob n fs=>obtain⟨C,dx,vs,_,h,_⟩:=r;rw[h];simp
theorem RepM.none (r:RepM K H M) (h:H p=.none):M p=.none:=by
 cases q:M p with
 | none=>rfl
 | some o=>exact absurd h (r p o q).fresh
theorem MOk.ext (x:HExt K H (upd H p u)) (h:a≠p) (r:MOk K H a o):MOk K (upd H p u) a o:=by
 cases o with
 | ls ds=>obtain⟨vs,e,q⟩:=r;exact⟨vs,by rw[Y4 h];exact e,q.ext x⟩
 | dk kvs=>obtain⟨vs,e,k,q⟩:=r;exact⟨vs,by rw[Y4 h];exact e,k,q.ext x⟩
 | ob n fs=>obtain⟨C,dx,vs,c,e,k,q⟩:=r;exact⟨C,dx,vs,c,by rw[Y4 h];exact e,k,q.ext x⟩
theorem RepM.tup {p:Addr} {vs:List V} (r:RepM K H M) (h:H p=.none):RepM K (upd H p (.tup vs)) M:=fun a o e =>
 (r a o e).ext (.upd (.inl h)) fun z=>by subst z;rw[r.none h] at e;cases e
theorem RepM.lst {p:Addr} {vs:List V} {ds:List D} (r:RepM K H M) (h:H p=.none) (q:RelDs K H vs ds):RepM K (upd H p (.lst vs)) (M.upd p (.ls ds)):=fun a o e=>by
 by_cases z:a=p
 ·subst z;rw[mupd_same] at e;cases e;exact⟨vs,upd_same,q.ext (.upd (.inl h))⟩
 ·rw[Yv z] at e;exact (r a o e).ext (.upd (.inl h)) z
theorem RepM.write {p:Addr} {ws vs:List V} {ds:List D} (r:RepM K H M) (h:H p=some (.lst ws)) (q:RelDs K H vs ds):RepM K (upd H p (.lst vs)) (M.upd p (.ls ds)):=fun a o e=>by
 have x:HExt K H (upd H p (.lst vs)):=.upd (.inr ⟨_,h,trivial⟩);by_cases z:a=p
 ·subst z;rw[mupd_same] at e;cases e;exact⟨vs,upd_same,q.ext x⟩
 ·rw[Yv z] at e;exact (r a o e).ext x z
theorem RepM.nil:RepM K H (fun _=>Option.none):=fun _ _ e=>by cases e
end
abbrev DE:=DSt->Mem->DK->Prop
abbrev DT:=DSt->Mem->(Bool->Mem->Prop)->Prop
abbrev DA:=DSt->Mem->(List D->Mem->Prop)->Prop
structure DEnds where
 nx:DSt->Mem->Prop
 rt:DK
 bk:DSt->Mem->Prop:=fun _ _=>False
 ct:DSt->Mem->Prop:=fun _ _=>False
 ex:DSt->DK:=fun _ _ _=>False
abbrev DS:=DEnds->DSt->Mem->Prop
abbrev DSp:=List D->Mem->DK->DK->Prop
noncomputable def UY (H:Hp) (dd:Option Addr):Prop:=dd=none\/∃ d f,dd=some d/\H d=some (.ext (Ep d f .non))
structure Thrown (P:Program) (w:World) (outer:List Env) (H:Hp) (s:Shared) (H':Hp) (e C:Addr) (dd:Option Addr) (s':Shared):Prop where
 ex:∃ B,s'.os=s.os/\AllBare s'.gens/\Un (frs outer) [] H H' s.heap s'.heap/\(∀ b o,s.heap.get? b=some o->H b=none->b ∉ frs outer->B.get? b=some o)/\HOk P w H' B/\Flies B outer e (.ref C) dd .none s'.heap
 cl:UY H' dd->WR s'.heap e
structure Back (P:Program) (w:World) (outer:List Env) (L:Addr) (H:Hp) (s:Shared) (H':Hp) (e C:Addr) (dd:Option Addr) (s':Shared):Prop where
 ex:∃ B,s'.os=s.os/\AllBare s'.gens/\Un (frs outer) [] H H' s.heap s'.heap/\(∀ b o,s.heap.get? b=some o->H b=none->b ∉ frs outer->B.get? b=some o)/\HOk P w H' B/\Flies B outer e (.ref C) dd (rawInt L) s'.heap
 cl:UY H' dd->WR s'.heap e
noncomputable def CXR (P:Program) (w:World):CXT:=fun outer H s E ev s'=>∃ e C dd H',ev=.ref e/\Thrown P w outer H s H' e C dd s'/\E (.ref C) dd H'
structure XeOk (X:Cx) (rz:Bool) (E:DSt->DK) (H:Hp):Prop where
 fly:∀ pins σ H1 s1 H' e C dd s' δ M' n x,HExt X.K H H'->L2.Inv X pins σ H1 s1->Thrown X.prog X.w X.stack H1 s1 H' e C dd s'->RepM X.K H' M'->Slots X.K H' δ σ->n∈xNames->YZ X.K n C->ExD X.K H' n dd x->E δ (.exc n x) M'->X.xe (.ref e) s'
 made:rz=true->∀ pins σ H' h e C dd s' δ M' n x,HExt X.K H H'->L2.Inv X pins σ H' {s' with heap:=h}->Made h s'.heap e (.ref C) dd->(UY H' dd->WR s'.heap e)->RepM X.K H' M'->Slots X.K H' δ σ->n∈xNames->YZ X.K n C->ExD X.K H' n dd x->E δ (.exc n x) M'->X.xe (.ref e) s'
 back:rz=true->∀ pins σ H1 s1 H' e C dd s' δ M' n x,HExt X.K H H'->L2.Inv X pins σ H1 s1->Back X.prog X.w X.stack X.env.locals H1 s1 H' e C dd s'->RepM X.K H' M'->Slots X.K H' δ σ->n∈xNames->YZ X.K n C->ExD X.K H' n dd x->E δ (.exc n x) M'->X.xe (.ref e) s'
noncomputable def _root_.L2.Cx.L (X:Cx) (rz:Bool) (E:DSt->DK):LK where
 K:=X.K
 ok:=XeOk X rz E
 mono:=fun H H' x h=>⟨fun pins σ H1 s1 H2 e C dd s' δ M' n xd y=>h.fly pins σ H1 s1 H2 e C dd s' δ M' n xd (x.trans y),fun r pins σ H2 h0 e C dd s' δ M' n xd y=>h.made r pins σ H2 h0 e C dd s' δ M' n xd (x.trans y),fun r pins σ H1 s1 H2 e C dd s' δ M' n xd y=>h.back r pins σ H1 s1 H2 e C dd s' δ M' n xd (x.trans y)⟩
abbrev X0:DSt->DK:=fun _ _ _=>False
theorem FN:XeOk X rz X0 H:=⟨fun _ _ _ _ _ _ _ _ _ _ _ _ _ _ _ _ _ _ _ _ _ z=>z.elim,fun _ _ _ _ _ _ _ _ _ _ _ _ _ _ _ _ _ _ _ _ _ _ z=>z.elim,fun _ _ _ _ _ _ _ _ _ _ _ _ _ _ _ _ _ _ _ _ _ _ z=>z.elim⟩
section
variable (Λ:LK) (K:Frag)
noncomputable def lift (t:DE):TE:=fun σ H Q=>∃ δ M R,RepS Λ H δ σ/\RepM Λ.K H M/\t δ M R/\∀ d M' v H',HExt Λ.K H H'->RepM Λ.K H' M'->RelD Λ.K H' v d->R d M'->Q v H'
noncomputable def Z7 (t:DT):TT:=fun σ H Q=>∃ δ M R,RepS Λ H δ σ/\RepM Λ.K H M/\t δ M R/\∀ b M' H',HExt Λ.K H H'->RepM Λ.K H' M'->R b M'->Q b H'
noncomputable def Zo (t:DA):TA:=fun σ H Q=>∃ δ M R,RepS Λ H δ σ/\RepM Λ.K H M/\t δ M R/\∀ ds M' vs H',HExt Λ.K H H'->RepM Λ.K H' M'->RelDs Λ.K H' vs ds->R ds M'->Q vs H'
noncomputable def YE (X:Cx) (rz:Bool) (t:DS):TS:=fun E σ H=>∃ δ M D,RepS (X.L rz D.ex) H δ σ/\RepM X.K H M/\t D δ M /\
 (∀ δ' M' σ' H',HExt X.K H H'->RepS (X.L rz D.ex) H' δ' σ'->RepM X.K H' M'->D.nx δ' M'->E.nx σ' H') /\
 (∀ d M' v H',HExt X.K H H'->RepM X.K H' M'->RelD X.K H' v d->D.rt d M'->E.rt v H') /\
 (∀ δ' M' σ' H',HExt X.K H H'->RepS (X.L rz D.ex) H' δ' σ'->RepM X.K H' M'->D.bk δ' M'->E.bk σ' H') /\
 (∀ δ' M' σ' H',HExt X.K H H'->RepS (X.L rz D.ex) H' δ' σ'->RepM X.K H' M'->D.ct δ' M'->E.ct σ' H')
noncomputable def Z8 (f:D->D->Mem->DK->Prop):R2:=fun x y H Q=>∃ d e M R,RelD K H x d/\RelD K H y e/\RepM K H M/\f d e M R/\∀ d' M' v H',HExt K H H'->RepM K H' M'->RelD K H' v d'->R d' M'->Q v H'
noncomputable def Xl (f:List D->Mem->DK->Prop):List V->Hp->VK->Prop:=fun xs H Q=>∃ ds M R,RelDs K H xs ds/\RepM K H M/\f ds M R/\∀ d' M' v H',HExt K H H'->RepM K H' M'->RelD K H' v d'->R d' M'->Q v H'
noncomputable def XN (S:DSp):Sp:=fun xs H Q E=>∃ ds M R Ed,RelDs K H xs ds/\RepM K H M/\S ds M R Ed/\(∀ d' M' v H',HExt K H H'->RepM K H' M'->RelD K H' v d'->R d' M'->Q v H') /\
 ∀ n M' H' C dd x,HExt K H H'->RepM K H' M'->n∈xNames->YZ K n C->ExD K H' n dd x->Ed (.exc n x) M'->E (.ref C) dd H'
end
theorem _root_.L2.PE.imp (h:PE X e t) (i:∀ σ H Q,t' σ H Q->t σ H Q):PE X e t':=fun pins s σ H Q I q=>h pins s σ H Q I (i _ _ _ q)
theorem _root_.L2.PT.imp (h:PT X e t) (i:∀ σ H Q,t' σ H Q->t σ H Q):PT X e t':=fun pins s σ H Q I q=>h pins s σ H Q I (i _ _ _ q)
theorem _root_.L2.PA.imp (h:PA X e t) (i:∀ σ H Q,t' σ H Q->t σ H Q):PA X e t':=fun pos pins s σ H Q I q=>h pos pins s σ H Q I (i _ _ _ q)
theorem _root_.L2.PS.imp (h:PS X e t) (i:∀ D σ H,t' D σ H->t D σ H):PS X e t':=fun pins s σ H D I q=>h pins s σ H D I (i _ _ _ q)
theorem _root_.L2.PSs.imp (h:PSs X e t) (i:∀ D σ H,t' D σ H->t D σ H):PSs X e t':=fun pins s σ H D I q=>h pins s σ H D I (i _ _ _ q)
theorem _root_.L2.OpR.imp (h:OpR X f r) (i:∀ x y H Q,r' x y H Q->r x y H Q):OpR X f r':=fun pins s σ H x y v u Q I a b q=>h pins s σ H x y v u Q I a b (i _ _ _ _ q)
theorem _root_.L2.CallR.imp (h:CallR X f r) (i:∀ x H Q,r' x H Q->r x H Q):CallR X f r':=fun pins s σ H x u Q I a q=>h pins s σ H x u Q I a (i _ _ _ q)
noncomputable def vHd:Option D->(D->Prop)->Prop
 | some d,P=>P d
 | none,_=>False
noncomputable def vAt:DSt->Nat->(D->Prop)->Prop
 | x::_,0,P=>vHd x P
 | _::r,i+1,P=>vAt r i P
 | [],_,_=>False
theorem BV:∀ {δ:DSt} {i:Nat} {P:D->Prop},vAt δ i P->∃ d,δ[i]?=some (some d)/\P d
 | some d::_,0,_,h=>⟨d,rfl,h⟩
 | _::r,i+1,_,h=>BV (δ:=r) h
theorem JN:∀ {δ:DSt} {i:Nat} {P:D->Prop} {d:D},δ[i]?=some (some d)->P d->vAt δ i P
 | some d::_,0,_,_,e,h=>by cases e;exact h
 | none::_,0,_,_,e,_=>by cases e
 | _::r,i+1,P,_,e,h=>show vAt r i P from JN (by simpa using e) h
noncomputable def dVar (i:Nat):DE:=fun δ M Q=>vAt δ i fun d=>Q d M
noncomputable def dC (d:D):DE:=fun _ M Q=>Q d M
noncomputable def d2 (f:D->D->Mem->DK->Prop) (ta tb:DE):DE:=fun δ M Q=>ta δ M fun x M1=>tb δ M1 fun y M2=>f x y M2 Q
noncomputable def d1 (f:D->Mem->DK->Prop) (ta:DE):DE:=fun δ M Q=>ta δ M fun x M1=>f x M1 Q
noncomputable def dNil:DA:=fun _ M Q=>Q [] M
noncomputable def YX (ta:DE) (tr:DA):DA:=fun δ M Q=>ta δ M fun x M1=>tr δ M1 fun xs M2=>Q (x::xs) M2
noncomputable def dTup (t:DA):DE:=fun δ M Q=>t δ M fun xs M1=>xs.length<=sizeLine/\Q (.tup xs) M1
noncomputable def dLst (t:DA):DE:=fun δ M Q=>t δ M fun xs M1=>xs.length<=sizeLine/\alloc M1 (.ls xs) fun p M'=>Q (.lst p) M'
noncomputable def dCB (f:List D->Mem->DK->Prop) (t:DA):DE:=fun δ M Q=>t δ M fun xs M1=>f xs M1 Q
noncomputable def Zq (S:DSp) (E:DSt->DK) (t:DA):DE:=fun δ M Q=>t δ M fun xs M1=>S xs M1 Q (E δ)
noncomputable def Uf (t:DE):DT:=fun δ M Q=>t δ M fun x M1=>∃ k,x=.bl k/\Q k M1
noncomputable def dAnd (t u:DT):DT:=fun δ M Q=>t δ M fun c M1=>if c=true then u δ M1 Q else Q false M1
noncomputable def dOr (t u:DT):DT:=fun δ M Q=>t δ M fun c M1=>if c=true then Q true M1 else u δ M1 Q
noncomputable def dNot (t:DT):DT:=fun δ M Q=>t δ M fun c M1=>Q (!c) M1
noncomputable def B0 (ta tb:DE):DE:=fun δ M Q=>ta δ M fun x M1=>∃ c,x=.bl c/\if c=true then tb δ M1 Q else Q (.bl false) M1
noncomputable def dOrV (ta tb:DE):DE:=fun δ M Q=>ta δ M fun x M1=>∃ c,x=.bl c/\if c=true then Q (.bl true) M1 else tb δ M1 Q
noncomputable def dIfE (c:DT) (ta tb:DE):DE:=fun δ M Q=>c δ M fun b M1=>if b=true then ta δ M1 Q else tb δ M1 Q
section
variable {X:Cx} {rz:Bool} {E:DSt->DK} {a b c:Expr} {ta tb tc:DE} {pos:Pos}
theorem seq2 {Λ:LK} {σ:L2.St} {H:Hp} {δ:DSt} {M:Mem} {R:D->D->Mem->Prop} {Q:V->V->Hp->Prop} (rs:RepS Λ H δ σ) (rm:RepM Λ.K H M) (h:ta δ M fun x M1=>tb δ M1 fun y M2=>R x y M2)
  (q:∀ x y M2 v u H2,HExt Λ.K H H2->RepM Λ.K H2 M2->RelD Λ.K H2 v x->RelD Λ.K H2 u y->R x y M2->Q v u H2):lift Λ ta σ H fun v H1=>lift Λ tb σ H1 fun u H2=>Q v u H2 :=
 ⟨δ,M,_,rs,rm,h,fun _ _ _ _ x1 m1 r1 h1=>⟨δ,_,_,rs.ext x1,m1,h1,fun _ _ _ _ x2 m2 r2 h2=>q _ _ _ _ _ _ (x1.trans x2) m2 (r1.ext x2) r2 h2⟩⟩
theorem HW (h:PE X a (tVar i)):PE X a (lift (X.L rz E) (dVar i)):=by
 refine h.imp ?_;rintro σ H Q ⟨δ,M,R,rs,rm,t,q⟩;obtain⟨d,e,r⟩:=BV t;obtain⟨v,h1,h2⟩:=rs.slot i d e;exact⟨v,h1,q _ _ _ _ (.refl H) rm h2 r⟩
theorem Wz (h:PE X a (tC v)) (r:∀ H,RelD X.K H v d):PE X a (lift (X.L rz E) (dC d)):=by
 refine h.imp ?_;rintro σ H Q ⟨δ,M,R,rs,rm,t,q⟩;exact q _ _ _ _ (.refl H) rm (r H) t
theorem B1 (h:lift Λ (d2 f ta tb) σ H Q):tOp (Z8 Λ.K f) (lift Λ ta) (lift Λ tb) σ H Q:=by
 obtain⟨δ,M,R,rs,rm,t,q⟩:=h;exact seq2 (R:=fun x y M2=>f x y M2 R) rs rm t fun x y M2 v u H2 x2 m2 r1 r2 t2=>⟨x,y,M2,R,r1,r2,m2,t2,fun d M' w H' x3 m3 r3=>q d M' w H' (x2.trans x3) m3 r3⟩
theorem Ie (ho:OpR X (binaryOp op) (Z8 X.K f)) (ha:PE X a (lift (X.L rz E) ta)) (hb:PE X b (lift (X.L rz E) tb)):PE X (.BinOp a op b pos) (lift (X.L rz E) (d2 f ta tb)) :=
 (IN ho ha hb).imp fun _ _ _=>B1
end
end DL
end
noncomputable section
namespace DL
open PySem PySem.Spec PyProof.Rows L2
theorem Zd:fillsNumberSlot (.type "tuple") "mul"=pure false :=
 PySem.fillsNumberSlot_seq (id:="tuple.__mul__") (r:=some (.builtin "tuple.__rmul__")) PySem.F.slot_tuple_mul.lookup (by decide +kernel) PySem.F.slot_tuple_rmul.lookup (by decide +kernel)
theorem Xc:seqRepeat? (.type "tuple")=pure (some (.builtin "tuple.__mul__")):=by
 unfold seqRepeat?;rw[PySem.seqSlot_of (T:="tuple") (name:="__mul__") (id:="tuple.__mul__") PySem.F.slot_tuple_mul.lookup (by decide +kernel),PySem.seqSlot_of (T:="tuple") (name:="__rmul__") (id:="tuple.__rmul__") PySem.F.slot_tuple_rmul.lookup (by decide +kernel)]
 rfl
theorem ZD (a:Int) (t:Tok) (l:Addr) (items:Array Value) (n:Nat) (dd:Option Addr) (sl:Array (Option Value)) :
  Meets (Builtin.«int.__rmul__» ⟨[.int a t,.ref l],[]⟩) (fun _ R s=>s.heap.get? l=some {cls:=.type "tuple",dict:=dd,data:=.seq items n,slots:=sl}/\R (.ok (.ret Value.notImplemented)) s) :=
 .of_wp fun prog w A R s h=>by obtain⟨hp,g,d,tk,os⟩:=s;obtain⟨hl,h⟩:=h;wp_walk;exact⟨_,rfl,h⟩
theorem B9 (l:Addr) (items:Array Value) (n:Nat) (dd:Option Addr) (sl:Array (Option Value)) (x:Int) (u:Tok) (h0:¬ items.isEmpty=true) (h2:2<=x) (h3:x<1000000) (hs:items.size*x.toNat<=16777216) :
  Meets (Builtin.«tuple.__mul__» ⟨[.ref l,.int x u],[]⟩) (fun _ R s=>s.heap.get? l=some {cls:=.type "tuple",dict:=dd,data:=.seq items n,slots:=sl}/\R (.ok (.ret (Value.ref s.heap.objs.size))) {s with heap:=s.heap.push {cls:=Value.type "tuple",data:=Data.seq (List.foldl (fun x1 x2=>x1++x2) #[] (List.replicate x.toNat items))}}) :=
 .of_wp fun prog w A R s h=>by
  obtain⟨hp,g,d,tk,os⟩:=s;obtain⟨hl,h⟩:=h;have c1:¬ (decide (x < -2 ^ 63) || decide (x ≥ 2 ^ 63))=true:=by simp;omega
  have c2:¬ (items.isEmpty || x==1)=true:=by
   have:¬ x=1:=by omega
   simp[this];simpa using h0
  have c3:¬ (decide (x<=0) || items.isEmpty)=true:=by
   have:¬ x<=0:=by omega
   simp[this];simpa using h0
  have e:(items.size:Int)*x=((items.size*x.toNat:Nat):Int):=by
   rw[Int.natCast_mul,Int.toNat_of_nonneg %[|5]]
  have c4:¬ ((items.size:Int)*x > (2 ^ 63-1) / 8):=by rw[e];omega
  have c5:¬ Builtin.Tuple.tupleTooMany ((items.size:Int)*x)=true:=by
   rw[Bool.not_eq_true];unfold Builtin.Tuple.tupleTooMany;rw[e];refine decide_eq_false ?_;have:(sizeLine:Int)=16777216:=by decide
   omega
  have c6:¬ (List.foldl (fun x1 x2=>x1++x2) #[] (List.replicate x.toNat items)).size > sizeLine:=by
   have:(List.foldl (fun x1 x2=>x1++x2) #[] (List.replicate x.toNat items)).size=x.toNat*items.size:=by
    have:=XE items.toList x.toNat [];rw[List.nil_append] at this;have e2:(List.foldl (fun x1 x2=>x1++x2) #[] (List.replicate x.toNat items))=(List.replicate x.toNat items.toList).flatten.toArray:=this;rw[e2,List.size_toArray,UM];simp
   rw[this,Nat.mul_comm];exact Nat.not_lt.mpr hs
  wp_walk
  iterate 5
   (try (first|refine wpAny_ite_false (decide_eq_false c1) ?_|refine wpAny_ite_false (decide_eq_false c2) ?_|refine wpAny_ite_false (decide_eq_false c3) ?_|refine wpAny_ite_false (decide_eq_false c4) ?_|refine wpAny_ite_false (decide_eq_false c5) ?_))
   (try wp_walk)
  exact⟨_,rfl,h⟩
section
variable {X:Cx}
noncomputable def IH (K:Frag):R2:=fun x y H Q=>∃ a k xs,x=.ref a/\y=.int k/\SqT K H a xs/\xs≠[]/\2<=k/\k<1000000/\xs.length*k.toNat<=sizeLine /\
 ∀ p,H p=none->Q (.ref p) (upd H p (.tup (List.replicate k.toNat xs).flatten))
theorem EW:OpR X (binaryOp .Mult) (IH X.K):=by
 intro pins s σ H x y v u Q I rx ry h;obtain⟨a,k,xs,rfl,rfl,ha,hx,h1,h2,hz,q⟩:=h
 (first|cases (show _=_ from rx.inv)|cases rx)
 obtain⟨t,rfl⟩:=ry;obtain⟨its,r1,p1,_⟩:=I.tuple ha;obtain⟨⟨cls,dd,data,sl⟩,ho,hc,n,hd⟩:=id p1;simp only at hc hd;subst hc hd;have hnew:List.foldl (fun x1 x2=>x1++x2) #[] (List.replicate k.toNat its.toArray)=(List.replicate k.toNat its).flatten.toArray:=by
  have:=XE its k.toNat [];rw[List.nil_append] at this;exact this
 have hne:¬ its.toArray.isEmpty=true:=by
  have:its≠[]:=fun z=>hx (r1.nil_iff.mp z)
  simpa using this
 have hl:xs.length=its.length:=r1.length;refine wpAny_binaryOp_repeat_ref (T:="tuple") (U:="int") %[|4] ⟨_,ho,rfl⟩ (fun s'=>typeIs_int s' k t) Zd PySem.F.fills_int_mul PySem.F.slot_int_rmul Xc PySem.F.slot_int_index.lookup
  (call_meets PySem.F.slot_int_rmul (typeIs_int s k t) PySem.F.entry_int_rmul (PySem.F.args_int_rmul_2 _ _) (ZD k t a its.toArray n dd sl)
   ⟨ho,rfl,⟨_,ho,rfl⟩,call_meets PySem.F.slot_tuple_mul ⟨_,ho,rfl⟩ PySem.F.entry_tuple_mul (PySem.F.args_tuple_mul_2 _ _) (B9 a its.toArray n dd sl k t hne h1 h2 (by rw[List.size_toArray,<- hl];exact hz)) ⟨ho,?_⟩⟩)
 rw[hnew];refine⟨.ref s.heap.objs.size,_,I.laid (t':=s.toks) (o:=.tup (List.replicate k.toNat xs).flatten) (fun b ob q=>Heap.get?_push_of_some _ q) %[|3] ?_,rfl,q _ (I.hok.fresh %[|3])⟩;exact⟨by rw[UM,Nat.mul_comm];exact hz,_,r1.rep k.toNat,IsTup.new _ _⟩
end
end DL
end
noncomputable section
namespace DL
open PySem PySem.Spec PyProof.Rows L2
section
variable {prog:Program} {w:World} {A:Around} {E:Value->Shared->Prop} {s:Shared}
open HT
theorem XG {t sl:Addr} {items:Array Value} {vl vu:Value} {lo hi:Option Int} {Q:Value->Shared->Prop} (ht:IsTup s.heap t items) (hs:s.heap.IsSliceOf sl vl vu .none) (pl:IsPart vl lo) (pu:IsPart vu hi)
  (hw:sIx items.size 0 lo=0/\sIx items.size items.size hi=items.size) (h:Q (.ref t) s):wpAny (model prog w) A (getItem (.ref t) (.ref sl)) Q E s:=by
 obtain⟨os,hos,hcs,hds⟩:=id hs;have hTs:s.TypeIs (.ref sl) "slice":=⟨os,hos,hcs⟩;unfold getItem
 try with_reducible refine wpAny_holding ?_
 first|refine wpAny_bind (wpAny_pure ?_)|skip
 refine wpAny_bind (wpAny_sequenceKey ht.typeIs %[|4] ?_);refine wpAny_bind (wpAny_callSpecial?_slot (name:=Str.ofString "__getitem__") ht.typeIs PyProof.Rows.slot_tuple_getitem
  (wpAny_call_entry PyProof.Rows.slot_tuple_getitem ht.typeIs entry_tuple_getitem ?_ (args_tuple_getitem _ _)))
 show wpAny _ _ (Builtin.Tuple.tupleItemsOf (.ref t) >>= _) _ _ s;refine wpAny_bind (tupleItemsOf_ ht ?_);refine wpAny_bind (wpAny_typeOf hTs ?_);rw[if_pos %[|4]];refine wpAny_bind (ZX hs pl pu ?_);rw[hw.1,hw.2];show wpAny _ _ (if (((0:Nat):Int)==0&&(1:Int)==1&&(items.size-0)==items.size)=true then _ else _) _ _ s;rw[if_pos (by simp)];have hT:=ht.typeIs;unfold Builtin.Tuple.tupleIsExact;refine wpAny_bind (wpAny_bind (wpAny_typeOf hT ?_));refine wpAny_pure ?_;rw[if_pos %[|4]];refine wpAny_bind (wpAny_rule ?_);exact wpAny_pure ⟨_,rfl,wpAny_pure h⟩
end
theorem JT (l:Addr) (items:Array Value) (n:Nat) (dd:Option Addr) (sl:Array (Option Value)) (x:Int) (u:Tok) (h0:(items.isEmpty || x==1)=true) (h2:0<=x) (h3:x<1000000) :
  Meets (Builtin.«tuple.__mul__» ⟨[.ref l,.int x u],[]⟩) (fun _ R s=>s.heap.get? l=some {cls:=.type "tuple",dict:=dd,data:=.seq items n,slots:=sl}/\R (.ok (.ret (Value.ref l))) s) :=
 .of_wp fun prog w A R s h=>by
  obtain⟨hp,g,d,tk,os⟩:=s;obtain⟨hl,h⟩:=h;have c1:¬ (decide (x < -2 ^ 63) || decide (x ≥ 2 ^ 63))=true:=by simp;omega
  wp_walk
  iterate 5
   (try (first|refine wpAny_ite_false (decide_eq_false c1) ?_|refine wpAny_ite_true (decide_eq_true h0) ?_))
   (try wp_walk)
  exact⟨_,rfl,h⟩
theorem JU (l:Addr) (items:Array Value) (n:Nat) (dd:Option Addr) (sl:Array (Option Value)) (u:Tok) (h0:¬ items.isEmpty=true) :
  Meets (Builtin.«tuple.__mul__» ⟨[.ref l,.int 0 u],[]⟩) (fun _ R s=>s.heap.get? l=some {cls:=.type "tuple",dict:=dd,data:=.seq items n,slots:=sl}/\R (.ok (.ret (Value.ref s.heap.objs.size))) {s with heap:=s.heap.push {cls:=Value.type "tuple",data:=Data.seq #[]}}) :=
 .of_wp fun prog w A R s h=>by
  obtain⟨hp,g,d,tk,os⟩:=s;obtain⟨hl,h⟩:=h;have c2:¬ (items.isEmpty || (0:Int)==1)=true:=by simpa using h0
  have c3:(decide ((0:Int)<=0) || items.isEmpty)=true:=by simp
  wp_walk
  iterate 5
   (try (first|refine wpAny_ite_false (decide_eq_false c2) ?_|refine wpAny_ite_true (decide_eq_true c3) ?_))
   (try wp_walk)
  exact⟨_,rfl,h⟩
section
variable {X:Cx}
theorem EB:SlR X (fun x lo hi H Q=>∃ a xs,x=.ref a/\SqT X.K H a xs/\(HT.sIx xs.length 0 lo=0/\HT.sIx xs.length xs.length hi=xs.length)/\Q (.ref a) H):=by
 intro pins s σ H x v vl vu lo hi sl Q I rx hs pl pu h;obtain⟨a,xs,rfl,hx,hw,q⟩:=h
 (first|cases (show _=_ from rx.inv)|cases rx)
 obtain⟨its,r,ht,hz⟩:=I.tuple hx;have hlen:its.toArray.size=xs.length:=by rw[List.size_toArray];exact r.length.symm
 refine⟨"tuple",_,PyProof.Rows.slot_tuple_getitem.lookup,ht.typeIs,?_⟩;exact XG ht hs pl pu (by rw[hlen];exact hw) ⟨.ref a,H,I,rfl,q⟩
theorem CU:OpR X (binaryOp .Add) (fun x y H Q=>∃ a b ys,x=.ref a/\y=.ref b/\SqT X.K H a []/\SqT X.K H b ys/\Q (.ref b) H):=by
 intro pins s σ H x y v u Q I rx ry h;obtain⟨a,b,ys,rfl,rfl,ha,hb,q⟩:=h
 (first|cases (show _=_ from rx.inv)|cases rx)
 cases ry;obtain⟨its,r1,p1,_⟩:=I.tuple ha;obtain⟨its2,r2,p2,_⟩:=I.tuple hb
 (first|cases (show _=_ from r1.inv)|cases r1)
 obtain⟨⟨cls,dd,data,sl⟩,ho,hc,n,hd⟩:=id p1;obtain⟨⟨cls2,dd2,data2,sl2⟩,ho2,hc2,n2,hd2⟩:=id p2;simp only at hc hd hc2 hd2;subst hc hd hc2 hd2;exact concat_meets ⟨_,ho,rfl⟩ ⟨_,ho2,rfl⟩ noFill_tuple_add seq_tuple_add PySem.F.slot_tuple_add PySem.F.entry_tuple_add (PySem.F.args_tuple_add_2 _ _)
  (PyProof.Rows.tuple_addW0 a b _ its2.toArray n n2 dd dd2 sl sl2 rfl) ⟨ho,ho2,.ref b,H,I,rfl,q⟩
theorem CQ:OpR X (binaryOp .Mult) (fun x y H Q=>∃ a k xs,x=.ref a/\y=.int k/\SqT X.K H a xs/\(xs=[]\/k=1)/\0<=k/\k<1000000/\Q (.ref a) H):=by
 intro pins s σ H x y v u Q I rx ry h;obtain⟨a,k,xs,rfl,rfl,ha,hx,h1,h2,q⟩:=h
 (first|cases (show _=_ from rx.inv)|cases rx)
 obtain⟨t,rfl⟩:=ry;obtain⟨its,r1,p1,_⟩:=I.tuple ha;obtain⟨⟨cls,dd,data,sl⟩,ho,hc,n,hd⟩:=id p1;simp only at hc hd;subst hc hd;have hne:(its.toArray.isEmpty || k==1)=true:=by
  rcases hx with rfl|rfl
  ·(first|cases (show _=_ from r1.inv)|cases r1);rfl
  ·simp
 refine wpAny_binaryOp_repeat_ref (T:="tuple") (U:="int") %[|4] ⟨_,ho,rfl⟩ (fun s'=>typeIs_int s' k t) Zd PySem.F.fills_int_mul PySem.F.slot_int_rmul Xc PySem.F.slot_int_index.lookup
  (call_meets PySem.F.slot_int_rmul (typeIs_int s k t) PySem.F.entry_int_rmul (PySem.F.args_int_rmul_2 _ _) (ZD k t a its.toArray n dd sl)
   ⟨ho,rfl,⟨_,ho,rfl⟩,call_meets PySem.F.slot_tuple_mul ⟨_,ho,rfl⟩ PySem.F.entry_tuple_mul (PySem.F.args_tuple_mul_2 _ _) (JT a its.toArray n dd sl k t hne h1 h2) ⟨ho,?_⟩⟩)
 exact⟨.ref a,H,I,rfl,q⟩
theorem CT:OpR X (binaryOp .Mult) (fun x y H Q=>∃ a xs,x=.ref a/\y=.int 0/\SqT X.K H a xs/\xs≠[]/\∀ p,H p=none->Q (.ref p) (upd H p (.tup []))):=by
 intro pins s σ H x y v u Q I rx ry h;obtain⟨a,xs,rfl,rfl,ha,hx,q⟩:=h
 (first|cases (show _=_ from rx.inv)|cases rx)
 obtain⟨t,rfl⟩:=ry;obtain⟨its,r1,p1,_⟩:=I.tuple ha;obtain⟨⟨cls,dd,data,sl⟩,ho,hc,n,hd⟩:=id p1;simp only at hc hd;subst hc hd;have hne:¬ its.toArray.isEmpty=true:=by
  have:its≠[]:=fun z=>hx (r1.nil_iff.mp z)
  simpa using this
 refine wpAny_binaryOp_repeat_ref (T:="tuple") (U:="int") %[|4] ⟨_,ho,rfl⟩ (fun s'=>typeIs_int s' 0 t) Zd PySem.F.fills_int_mul PySem.F.slot_int_rmul Xc PySem.F.slot_int_index.lookup
  (call_meets PySem.F.slot_int_rmul (typeIs_int s 0 t) PySem.F.entry_int_rmul (PySem.F.args_int_rmul_2 _ _) (ZD 0 t a its.toArray n dd sl)
   ⟨ho,rfl,⟨_,ho,rfl⟩,call_meets PySem.F.slot_tuple_mul ⟨_,ho,rfl⟩ PySem.F.entry_tuple_mul (PySem.F.args_tuple_mul_2 _ _) (JU a its.toArray n dd sl t hne) ⟨ho,?_⟩⟩)
 refine⟨.ref s.heap.objs.size,_,I.laid (t':=s.toks) (o:=.tup []) (fun b ob q=>Heap.get?_push_of_some _ q) %[|3] ?_,rfl,q _ (I.hok.fresh %[|3])⟩;exact⟨Nat.zero_le _,_,.nil,IsTup.new _ _⟩
end
end DL
end
noncomputable section
namespace DL
open PySem PySem.Spec PyProof.Rows L2
section
variable {prog:Program} {w:World} {A:Around} {E:Value->Shared->Prop} {s:Shared}
theorem V5 (hj:s.heap.IsTupleIter j b n) (hb:s.heap.IsTuple b vs) (hv:vs[n]?=some v)
  (q:∀ g,g.IsTupleIter j b (n+1)->Heap.SameBut j s.heap g->Q v {s with heap:=g}):wpAny (model prog w) A (Builtin.SmallTypes.nextOf (.ref j)) Q E s:=by
 obtain⟨o,e1,e2,e3⟩:=id hj;obtain⟨p,f1,_,m,f3⟩:=hb;unfold Builtin.SmallTypes.nextOf;refine wpAny_bind (wpAny_callSpecial?_slot (name:=Str.ofString "__next__") hj.typeIs F.slot_tuple_iterator_next (wpAny_call_entry F.slot_tuple_iterator_next hj.typeIs F.entry_tuple_iterator_next ?_ (F.args_tuple_iterator_next_1 _)));show wpAny _ _ (field (.ref j) 0 >>= _) _ _ s;refine wpAny_bind (wpAny_field e1 e3 (x:=.ref b) rfl ?_);show wpAny _ _ (if (Value.ref b==Value.none)=true then _ else _) _ _ s;rw[if_neg (show ¬ ((Value.ref b==Value.none)=true) from Bool.false_ne_true)];show wpAny _ _ (field (.ref j) 1 >>= _) _ _ s;refine wpAny_bind (wpAny_field e1 e3 (x:=.int n 0) rfl ?_);show wpAny _ _ (seqItems? (.ref b) >>= _) _ _ s;refine wpAny_bind (wpAny_seqItems f1 f3 ?_);simp only[Int.toNat_natCast,hv];refine wpAny_bind (wpAny_setField e1 e3 (by simp) (wpAny_pure ⟨v,rfl,wpAny_pure (q _ ?_ (Heap.SameBut.update ..))⟩))
 exact⟨_,Heap.get?_update_self _ e1 (Obj.isFreed_of_fields (Obj.data_mapFields e3 _)),(Obj.cls_mapFields ..).trans e2,by rw[Obj.data_mapFields e3];simp[rawInt]⟩
theorem UF (hh:A.handled=none) (hj:s.heap.IsTupleIter j b n) (hb:s.heap.IsTuple b vs) (hv:vs[n]?=none)
  (q:∀ g e,Heap.ExtBut j s.heap g->(∃ o,g.get? e=some o/\o.cls=.type "StopIteration")->E (.ref e) {s with heap:=g}):wpAny (model prog w) A (Builtin.SmallTypes.nextOf (.ref j)) Q E s:=by
 obtain⟨o,e1,e2,e3⟩:=id hj;obtain⟨p,f1,_,m,f3⟩:=hb;unfold Builtin.SmallTypes.nextOf;refine wpAny_bind (wpAny_callSpecial?_slot (name:=Str.ofString "__next__") hj.typeIs F.slot_tuple_iterator_next (wpAny_call_entry F.slot_tuple_iterator_next hj.typeIs F.entry_tuple_iterator_next ?_ (F.args_tuple_iterator_next_1 _)));show wpAny _ _ (field (.ref j) 0 >>= _) _ _ s;refine wpAny_bind (wpAny_field e1 e3 (x:=.ref b) rfl ?_);show wpAny _ _ (if (Value.ref b==Value.none)=true then _ else _) _ _ s;rw[if_neg (show ¬ ((Value.ref b==Value.none)=true) from Bool.false_ne_true)];show wpAny _ _ (field (.ref j) 1 >>= _) _ _ s;refine wpAny_bind (wpAny_field e1 e3 (x:=.int n 0) rfl ?_);show wpAny _ _ (seqItems? (.ref b) >>= _) _ _ s;refine wpAny_bind (wpAny_seqItems f1 f3 ?_);simp only[Int.toNat_natCast,hv];refine wpAny_bind (wpAny_rule (wpAny_bind (wpAny_setField e1 e3 (by simp) ?_)));show wpAny _ _ (newExc (.type "StopIteration") [] >>= _) _ _ _;refine wpAny_bind ?_;simp only[newExc,newTuple]
 refine wpAny_bind (wpAny_newObj_type ?_ (by size_fits));refine wpAny_bind (m:=firstArgMember _ _) (wpAny_of_eq (a:=Value.none) (by first|rfl|(simp only[firstArgMember];rfl)) ?_);refine wpAny_newObj_type ?_ (by size_fits);simp only[raiseNew];refine wpAny_bind (wpAny_handled ?_)
 (first|rw [show A.in1.handled=none from hh]|rw [hh]);refine wpAny_bind (wpAny_pure (wpAny_throw ?_))
 exact q _ _ (((Heap.SameBut.update ..).extBut.push _).push _) ⟨_,Heap.get?_push_size _ rfl,rfl⟩
theorem Es {z u v i j b c:Addr} {n:Nat} {xs ys:Array Value} {x y a d:Value} {Q:Value->Shared->Prop} (D:ZipApart z u v i j b c)
  (hz:IsZip s.heap z u v .none) (hu:IsPair s.heap u (.ref i) (.ref j)) (hv:IsPair s.heap v a d) (h1:s.heap.IsTupleIter i b n) (h2:s.heap.IsTupleIter j c n) (hb:s.heap.IsTuple b xs) (hc:s.heap.IsTuple c ys) (hx:xs[n]?=some x) (hy:ys[n]?=some y)
  (q:∀ g,IsZip g z u v (rawInt s.heap.objs.size)->IsPair g v x y->g.IsTupleIter i b (n+1)->g.IsTupleIter j c (n+1)->IsPair g s.heap.objs.size x y->g.objs.size=s.heap.objs.size+1 ->
   (∀ k o,k≠z->k≠v->k≠i->k≠j->s.heap.get? k=some o->g.get? k=some o)->Q (.ref s.heap.objs.size) {s with heap:=g}) :
  wpAny (model prog w) A (Builtin.«zip.__next__» ⟨[.ref z],[]⟩) (fun r s'=>∃ t,r=.done (.ret t)/\Q t s') E s:=by
 show wpAny _ _ (field (.ref z) 2 >>= _) _ _ _;refine wpAny_bind (wpAny_field hz rfl (x:=.bool false) rfl ?_);show wpAny _ _ (field (.ref z) 3 >>= _) _ _ _;refine wpAny_bind (wpAny_field hz rfl (x:=.ref u) rfl ?_);refine wpAny_bind (wpAny_seqItems hu rfl ?_);show wpAny _ _ (Builtin.SmallTypes.ownedTupleIsFree (.ref z) >>= _) _ _ _;refine wpAny_bind ?_;unfold Builtin.SmallTypes.ownedTupleIsFree;refine wpAny_bind (wpAny_field hz rfl (x:=.none) rfl (wpAny_pure ?_));simp only[if_true];refine wpAny_bind (wpAny_rule ?_);refine wpAny_bind (wpAny_field hz rfl (x:=.ref v) rfl ?_);refine wpAny_bind (wpAny_setField_rec hz (by simp) fun g1 z1 s1=>?_)
 replace z1:IsZip g1 z u v .ellipsis:=z1
 refine wpAny_bind ?_;simp only[List.zipIdx_cons,List.zipIdx_nil,List.forIn_cons,List.forIn_nil];refine wpAny_bind (wpAny_bind (wpAny_onRaise ?_));show wpAny _ _ (Builtin.SmallTypes.nextOf (.ref i) >>= _) _ _ _;refine wpAny_bind (V5 (h1.extBut s1.extBut D.i1z) (hb.extBut s1.extBut D.l1z) hx fun g2 j2 s2=>wpAny_pure ?_);have v2:IsPair g2 v a d:=s2.extBut _ _ D.TOi1 (s1.extBut _ _ D.TOz hv);refine wpAny_bind (wpAny_seqItems v2 rfl ?_);refine wpAny_bind (wpAny_updateSeq_pair v2 fun g3 v3 s3=>?_)
 replace v3:IsPair g3 v x d:=v3
 refine wpAny_bind (wpAny_letGo (wpAny_pure ?_));refine wpAny_bind (wpAny_bind (wpAny_onRaise ?_));show wpAny _ _ (Builtin.SmallTypes.nextOf (.ref j) >>= _) _ _ _;refine wpAny_bind (V5 (((h2.extBut s1.extBut D.i2z).extBut s2.extBut D.i12.symm).extBut s3.extBut D.TOi2.symm) (((hc.extBut s1.extBut D.l2z).extBut s2.extBut D.l2i1).extBut s3.extBut D.l2TO) hy fun g4 j4 s4=>wpAny_pure ?_);have v4:IsPair g4 v x d:=s4.extBut _ _ D.TOi2 v3;refine wpAny_bind (wpAny_seqItems v4 rfl ?_);refine wpAny_bind (wpAny_updateSeq_pair v4 fun g5 v5 s5=>?_)
 replace v5:IsPair g5 v x y:=v5
 refine wpAny_bind (wpAny_letGo (wpAny_pure (wpAny_pure ?_)));refine wpAny_bind (wpAny_seqItems v5 rfl ?_);refine wpAny_bind (wpAny_newTuple ?_);have sz:g5.objs.size=s.heap.objs.size:=by rw[s5.1,s4.1,s3.1,s2.1,s1.1]
 have z5:IsZip g5 z u v .ellipsis:=s5.extBut _ _ D.TOz.symm (s4.extBut _ _ D.i2z.symm (s3.extBut _ _ D.TOz.symm (s2.extBut _ _ D.i1z.symm z1)));have k5:∀ k o,k≠z->k≠v->k≠i->k≠j->s.heap.get? k=some o->g5.get? k=some o:=fun k o c1 c2 c3 c4 e=>s5.extBut _ _ c2 (s4.extBut _ _ c4 (s3.extBut _ _ c2 (s2.extBut _ _ c3 (s1.extBut _ _ c1 e))));have a5:g5.IsTupleIter i b (n+1):=((j2.extBut s3.extBut D.TOi1.symm).extBut s4.extBut D.i12).extBut s5.extBut D.TOi1.symm;have b5:g5.IsTupleIter j c (n+1):=j4.extBut s5.extBut D.TOi2.symm;have lz:z<g5.objs.size:=Heap.lt_size z5;show wpAny _ _ (Builtin.SmallTypes.ownedTupleHandOut (.ref z) (.ref g5.objs.size) >>= _) _ _ _;refine wpAny_bind ?_;unfold Builtin.SmallTypes.ownedTupleHandOut;have z6:IsZip (g5.push {cls:=.type "tuple",data:=.seq #[x,y]}) z u v .ellipsis:=Heap.get?_push_of_some _ z5;refine wpAny_bind (wpAny_setField_rec z6 (by simp) fun g7 z7 s7=>?_)
 replace z7:IsZip g7 z u v (rawInt g5.objs.size):=z7
 refine wpAny_setField_rec z7 (by simp) fun g8 z8 s8=>?_
 replace z8:IsZip g8 z u v (rawInt g5.objs.size):=z8
 have up:∀ k o,k≠z->g5.get? k=some o->g8.get? k=some o:=fun k o c1 e=>s8.extBut _ _ c1 (s7.extBut _ _ c1 (Heap.get?_push_of_some _ e));have t8:IsPair g8 g5.objs.size x y:=s8.extBut _ _ (Nat.ne_of_gt lz) (s7.extBut _ _ (Nat.ne_of_gt lz) (Heap.get?_push_size _ rfl));have n8:g8.objs.size=g5.objs.size+1:=by rw[s8.1,s7.1,Heap.size_push]
 rw[sz] at z8 t8 n8;refine wpAny_pure ⟨_,rfl,?_⟩;show Q (.ref g5.objs.size) _;rw[sz];exact q g8 z8 (up _ _ D.TOz v5) (a5.at fun o e=>up _ o D.i1z e) (b5.at fun o e=>up _ o D.i2z e) t8 n8 fun k o c1 c2 c3 c4 e=>up k o c1 (k5 k o c1 c2 c3 c4 e)
theorem Go (hh:A.handled=none) (D:ZipApart z u v i j b c)
  (hz:IsZip s.heap z u v .none) (hu:IsPair s.heap u (.ref i) (.ref j)) (hv:IsPair s.heap v a d) (h1:s.heap.IsTupleIter i b n) (h2:s.heap.IsTupleIter j c n) (hb:s.heap.IsTuple b xs) (hc:s.heap.IsTuple c ys) (he:xs[n]?=none\/ys[n]?=none)
  (q:∀ g e,(∀ k o,k≠z->k≠v->k≠i->k≠j->s.heap.get? k=some o->g.get? k=some o)->(∃ o,g.get? e=some o/\o.cls=.type "StopIteration")->E (.ref e) {s with heap:=g}) :
  wpAny (model prog w) A (Builtin.«zip.__next__» ⟨[.ref z],[]⟩) Q E s:=by
 show wpAny _ _ (field (.ref z) 2 >>= _) _ _ _;refine wpAny_bind (wpAny_field hz rfl (x:=.bool false) rfl ?_);show wpAny _ _ (field (.ref z) 3 >>= _) _ _ _;refine wpAny_bind (wpAny_field hz rfl (x:=.ref u) rfl ?_);refine wpAny_bind (wpAny_seqItems hu rfl ?_);show wpAny _ _ (Builtin.SmallTypes.ownedTupleIsFree (.ref z) >>= _) _ _ _;refine wpAny_bind ?_;unfold Builtin.SmallTypes.ownedTupleIsFree;refine wpAny_bind (wpAny_field hz rfl (x:=.none) rfl (wpAny_pure ?_));simp only[if_true];refine wpAny_bind (wpAny_rule ?_);refine wpAny_bind (wpAny_field hz rfl (x:=.ref v) rfl ?_);refine wpAny_bind (wpAny_setField_rec hz (by simp) fun g1 z1 s1=>?_)
 replace z1:IsZip g1 z u v .ellipsis:=z1
 refine wpAny_bind ?_;simp only[List.zipIdx_cons,List.zipIdx_nil,List.forIn_cons,List.forIn_nil];refine wpAny_bind (wpAny_bind (wpAny_onRaise ?_));show wpAny _ _ (Builtin.SmallTypes.nextOf (.ref i) >>= _) _ _ _;have off:∀ {g:Heap} {e:Addr} {f0:Value},IsZip g z u v f0->(∃ o,g.get? e=some o/\o.cls=.type "StopIteration")->e≠z:=fun hz ⟨o,ho,hs⟩ x=>by subst x;rw[hz] at ho;cases ho;simp at hs
 cases hx:xs[n]? with
 | none =>
  refine wpAny_bind (UF hh (h1.extBut s1.extBut D.i1z) (hb.extBut s1.extBut D.l1z) hx fun g2 e s2 ho=>?_);have z2:IsZip g2 z u v .ellipsis:=s2 _ _ D.i1z.symm z1;have ez:=off z2 ho;obtain⟨o,ho,hs⟩:=ho;refine wpAny_setField_rec z2 (by simp) fun g3 _ s3=>q g3 e (fun k o c1 _ c3 _ x=>s3.extBut _ _ c1 (s2 _ _ c3 (s1.extBut _ _ c1 x))) ⟨o,s3.extBut _ _ ez ho,hs⟩
 | some x =>
  have hy:ys[n]?=none:=by rcases he with h|h;rw[hx] at h;cases h;exact h
  refine wpAny_bind (V5 (h1.extBut s1.extBut D.i1z) (hb.extBut s1.extBut D.l1z) hx fun g2 j2 s2=>wpAny_pure ?_);have v2:IsPair g2 v a d:=s2.extBut _ _ D.TOi1 (s1.extBut _ _ D.TOz hv);refine wpAny_bind (wpAny_seqItems v2 rfl ?_);refine wpAny_bind (wpAny_updateSeq_pair v2 fun g3 v3 s3=>?_);refine wpAny_bind (wpAny_letGo (wpAny_pure ?_));refine wpAny_bind (wpAny_bind (wpAny_onRaise ?_));show wpAny _ _ (Builtin.SmallTypes.nextOf (.ref j) >>= _) _ _ _;refine wpAny_bind (UF hh (((h2.extBut s1.extBut D.i2z).extBut s2.extBut D.i12.symm).extBut s3.extBut D.TOi2.symm) (((hc.extBut s1.extBut D.l2z).extBut s2.extBut D.l2i1).extBut s3.extBut D.l2TO) hy fun g4 e s4 ho=>?_);have z4:IsZip g4 z u v .ellipsis:=s4 _ _ D.i2z.symm (s3.extBut _ _ D.TOz.symm (s2.extBut _ _ D.i1z.symm z1));have ez:=off z4 ho;obtain⟨o,ho,hs⟩:=ho;refine wpAny_setField_rec z4 (by simp) fun g5 _ s5=>q g5 e (fun k o c1 c2 c3 c4 x=>s5.extBut _ _ c1 (s4 _ _ c4 (s3.extBut _ _ c2 (s2.extBut _ _ c3 (s1.extBut _ _ c1 x))))) ⟨o,s5.extBut _ _ ez ho,hs⟩
theorem Et (D:ZipApart z u v i j b c)
  (hz:IsZip s.heap z u v .none) (hu:IsPair s.heap u (.ref i) (.ref j)) (hv:IsPair s.heap v a d) (h1:s.heap.IsTupleIter i b n) (h2:s.heap.IsTupleIter j c n) (hb:s.heap.IsTuple b xs) (hc:s.heap.IsTuple c ys) (hx:xs[n]?=some x) (hy:ys[n]?=some y)
  (q:∀ g,IsZip g z u v (rawInt s.heap.objs.size)->IsPair g v x y->g.IsTupleIter i b (n+1)->g.IsTupleIter j c (n+1)->IsPair g s.heap.objs.size x y->g.objs.size=s.heap.objs.size+1 ->
   (∀ k o,k≠z->k≠v->k≠i->k≠j->s.heap.get? k=some o->g.get? k=some o)->Q (some (.ref s.heap.objs.size)) {s with heap:=g}):wpAny (model prog w) A (pyNext (.ref z)) Q E s:=by
 have t:s.TypeIs (.ref z) "zip":=⟨_,hz,rfl⟩;unfold pyNext;exact wpAny_bind (wpAny_attempt (wpAny_callSpecial?_slot (name:=Str.ofString "__next__") t F.slot_zip_next (wpAny_call_entry F.slot_zip_next t F.entry_zip_next (Es D hz hu hv h1 h2 hb hc hx hy fun g a1 a2 a3 a4 a5 a6 a7=>wpAny_pure (q g a1 a2 a3 a4 a5 a6 a7)) (F.args_zip_next_1 _))))
theorem Gp (hh:A.handled=none) (D:ZipApart z u v i j b c)
  (hz:IsZip s.heap z u v .none) (hu:IsPair s.heap u (.ref i) (.ref j)) (hv:IsPair s.heap v a d) (h1:s.heap.IsTupleIter i b n) (h2:s.heap.IsTupleIter j c n) (hb:s.heap.IsTuple b xs) (hc:s.heap.IsTuple c ys) (he:xs[n]?=none\/ys[n]?=none)
  (q:∀ g,(∀ k o,k≠z->k≠v->k≠i->k≠j->s.heap.get? k=some o->g.get? k=some o)->Q none {s with heap:=g}):wpAny (model prog w) A (pyNext (.ref z)) Q E s:=by
 have t:s.TypeIs (.ref z) "zip":=⟨_,hz,rfl⟩;unfold pyNext;refine wpAny_bind (wpAny_attempt (wpAny_callSpecial?_slot (name:=Str.ofString "__next__") t F.slot_zip_next (wpAny_call_entry F.slot_zip_next t F.entry_zip_next (Go hh D hz hu hv h1 h2 hb hc he fun g e hk ho=>?_) (F.args_zip_next_1 _))));obtain⟨o,ho,hs⟩:=ho;refine wpAny_bind (wpAny_isInstance (T:="StopIteration") (b:=true) ⟨o,ho,hs⟩ isSubtype_stop ?_);exact wpAny_pure (q _ hk)
end
section
variable {X:Cx} {pins:List (Addr×Obj)} {σ:L2.St} {H:Hp} {s:Shared}
theorem Zg {h':Heap} {t':Nat} {fp:List Addr} (I:Inv X pins σ H s) (k:∀ b o,b ∉ fp->s.heap.get? b=some o->h'.get? b=some o) (f:∀ b∈fp,FpOk X pins H b):Inv X pins σ H {s with heap:=h',toks:=t'}:=by
 have nit:∀ b u,H b=some u->b ∉ fp:=fun b u e z=>by rw[(f b z).1] at e;cases e
 refine I.step (g':=s.gens) (d':=s.drawn) (ch:=fp) (fun b hb=>⟨(f b hb).2.2.2.1,(f b hb).2.1,(f b hb).2.2.2.2.1,(f b hb).2.2.2.2.2⟩) (fun b o _ _ hc e _=>k b o hc e) (fun b o _ _ hc e _=>⟨o.slots,k b o hc e⟩) (fun _ _ _ _ n=>n)
  (fun b o hc e=>⟨o,k b o hc e⟩) (fun _ _ e=>e) (fun _ _ _ e=>e) (fun b ps e=>⟨#[],by rw[e];simp⟩) (fun m hm=>?_) (fun b u e=>?_) I.bare
 ·obtain⟨o,es,ep,ho,r⟩:=hm
  exact⟨o,es,ep,k _ o (fun z=>(f _ z).2.1 rfl) ho,r⟩
 ·refine (I.hok b u e).stay (fun c v hc q=>k c v ?_ q) (fun _ q=>q) fun _ _ q=>q
  rcases hc with z|z
  ·rw[z];exact nit b u e
  ·exact nit c _ z
end
noncomputable def Itz (K:Frag) (b c:Addr):It :=
  ⟨fun i H=>∃ xs ys x y,SqT K H b xs/\SqT K H c ys/\xs[i]?=some x/\ys[i]?=some y,
   fun i H x H'=>∃ T p q,H T=none/\x=.ref T/\H'=upd H T (.tup [p,q])/\(∀ xs,SqT K H b xs->xs[i]?=some p)/\∀ ys,SqT K H c ys->ys[i]?=some q,
   fun i H=>∃ xs ys,SqT K H b xs/\SqT K H c ys/\(xs.length<=i\/ys.length<=i)⟩
noncomputable def zTn (z u v i j b c:Addr) (n:Nat) (h:Heap):Prop:=IsZip h z u v .none/\IsPair h u (.ref i) (.ref j)/\(∃ a d,IsPair h v a d)/\h.IsTupleIter i b n/\h.IsTupleIter j c n
theorem BZ {P:Program} {w:World} {K:Frag} {elts:List Expr} {x1:Nat} {pos:Pos} {z u v i j b c:Addr} (D:ZipApart z u v i j b c) :
  Turn P w K (.Tuple elts x1 pos) (Itz K b c) [z,u,v,i,j] z (zTn z u v i j b c) where
 mem:=by simp
 obj:=fun n h st k hk=>by
  obtain⟨hz,hu,⟨a,d,hv⟩,⟨o1,e1,_,d1⟩,⟨o2,e2,_,d2⟩⟩:=st;simp only[List.mem_cons,List.not_mem_nil,or_false] at hk;rcases hk with rfl|rfl|rfl|rfl|rfl
  ·exact⟨_,hz,fun w e=>nomatch e⟩
  ·exact⟨_,hu,fun w e=>nomatch e⟩
  ·exact⟨_,hv,fun w e=>nomatch e⟩
  ·exact⟨_,e1,fun w e=>by rw[d1] at e;cases e⟩
  ·exact⟨_,e2,fun w e=>by rw[d2] at e;cases e⟩
 keep:=fun n h h' st k=>by
  obtain⟨hz,hu,⟨a,d,hv⟩,h1,h2⟩:=st;exact⟨k z (by simp) _ hz,k u (by simp) _ hu,⟨a,d,k v (by simp) _ hv⟩,h1.at fun o e=>k i (by simp) o e,h2.at fun o e=>k j (by simp) o e⟩
 item:=by
  intro X hP hw hK hc n pins s σ H E I hf st hg;subst hP hw hK;obtain⟨hz,hu,⟨a,d,hv⟩,h1,h2⟩:=st;obtain⟨xs,ys,x,y,q1,q2,hx,hy⟩:=hg;obtain⟨its,rv,p,sz1⟩:=I.tuple q1;obtain⟨its',rv',p',sz2⟩:=I.tuple q2;obtain⟨vx,hvx,rx⟩:=rv.get hx;obtain⟨vy,hvy,ry⟩:=rv'.get hy;refine Et D hz hu hv h1 h2 (show s.heap.IsTuple b its.toArray from p) (show s.heap.IsTuple c its'.toArray from p') (x:=vx) (y:=vy) (by simpa using hvx) (by simpa using hvy) fun g a1 a2 a3 a4 a5 a6 a7=>?_;have lt:∀ {k o},s.heap.get? k=some o->k≠s.heap.objs.size:=fun e=>Nat.ne_of_lt (Heap.lt_size e);have li:i≠s.heap.objs.size:=by obtain⟨o,e,_⟩:=h1;exact lt e
  have lj:j≠s.heap.objs.size:=by obtain⟨o,e,_⟩:=h2;exact lt e
  refine⟨_,rfl,wpAny_letOwnedTupleGo_zip a1 fun g' z' sb=>?_⟩;have tp:IsPair g' s.heap.objs.size vx vy:=sb.extBut _ _ (Ne.symm (lt hz)) a5;have nf:H s.heap.objs.size=none:=I.hok.fresh %[|3];have I1:Inv X pins σ (upd H s.heap.objs.size (.tup [x,y])) {s with heap:=s.heap.push {cls:=.type "tuple",data:=.seq #[vx,vy]},toks:=s.toks} :=
   I.laid (fun k o e=>Heap.get?_push_of_some _ e) %[|3] ⟨by simp only[List.length_cons,List.length_nil];rw[sizeLine_eq];decide,[vx,vy],.cons rx (.cons ry .nil),⟨_,Heap.get?_push_size _ rfl,rfl,_,rfl⟩⟩
  have ff:∀ k∈[z,u,v,i,j],k≠s.heap.objs.size:=fun k hk=>by
   simp only[List.mem_cons,List.not_mem_nil,or_false] at hk;rcases hk with rfl|rfl|rfl|rfl|rfl
   ·exact lt hz
   ·exact lt hu
   ·exact lt hv
   ·exact li
   ·exact lj
  have f':∀ k∈[z,u,v,i,j],FpOk X pins (upd H s.heap.objs.size (.tup [x,y])) k:=fun k hk=>⟨by rw[Y4 (ff k hk)];exact (hf k hk).1,(hf k hk).2⟩;have I2:Inv X pins σ (upd H s.heap.objs.size (.tup [x,y])) {s with heap:=g',toks:=s.toks}:=by
   refine Zg (s:={s with heap:=s.heap.push {cls:=.type "tuple",data:=.seq #[vx,vy]},toks:=s.toks}) (h':=g') (t':=s.toks) I1 (fun k o hk e=>?_) f';rcases Heap.get?_push_cases e with ⟨rfl,rfl⟩|e'
   ·exact tp
   ·simp only[List.mem_cons,List.not_mem_nil,or_false,not_or] at hk
    exact sb.extBut _ _ hk.1 (a7 k o hk.1 hk.2.2.1 hk.2.2.2.1 hk.2.2.2.2 e')
  refine⟨.ref s.heap.objs.size,_,I2,rfl,⟨_,x,y,nf,rfl,rfl,fun xs' q=>by rw[I.tuple_inj q q1];exact hx,fun ys' q=>by rw[I.tuple_inj q q2];exact hy⟩,?_,fun k hk=>(f' k hk).1⟩;exact⟨z',sb.extBut _ _ D.TIz (a7 _ _ D.TIz D.TITO D.TIi1 D.TIi2 hu),⟨_,_,sb.extBut _ _ D.TOz a2⟩,a3.extBut sb.extBut D.i1z,a4.extBut sb.extBut D.i2z⟩
 done:=by
  intro X hP hw hK hc n pins s σ H E I hf st hg;subst hP hw hK;obtain⟨hz,hu,⟨a,d,hv⟩,h1,h2⟩:=st;obtain⟨xs,ys,q1,q2,hx⟩:=hg;obtain⟨its,rv,p,sz1⟩:=I.tuple q1;obtain⟨its',rv',p',sz2⟩:=I.tuple q2;have l1:=rv.length;have l2:=rv'.length;refine Gp (I.ok.hd hc) D hz hu hv h1 h2 (show s.heap.IsTuple b its.toArray from p) (show s.heap.IsTuple c its'.toArray from p') (by rcases hx with hx|hx;exact .inl (by simp;omega);exact .inr (by simp;omega)) fun g k=>⟨rfl,Zg (h':=g) (t':=s.toks) I (fun m o hm e=>?_) hf⟩;simp only[List.mem_cons,List.not_mem_nil,or_false,not_or] at hm;exact k m o hm.1 hm.2.2.1 hm.2.2.2.1 hm.2.2.2.2 e
 self:=fun _ _ _ _ _ st h=>wpAny_pyIter_zip st.1 h
end DL
end
noncomputable section
namespace DL
open PySem PySem.Spec PyProof.Rows L2
noncomputable def bAdd (d e:D) (M:Mem) (Q:DK):Prop :=
 match d,e with
 | .int i,.int j=>Q (.int (i+j)) M
 | .str x,.str y=>x.length+y.length<=sizeLine/\Q (.str (x++y)) M
 | .lst a,.lst b=>∃ xs ys,M a=some (.ls xs)/\M b=some (.ls ys)/\xs.length+ys.length<=sizeLine/\alloc M (.ls (xs++ys)) fun p M'=>Q (.lst p) M'
 | .tup xs,.tup ys=>xs.length+ys.length<=sizeLine/\Q (.tup (xs++ys)) M
 | _,_=>False
noncomputable def bInt (f:Int->Int->Prop) (g:Int->Int->Int) (d e:D) (M:Mem) (Q:DK):Prop :=
 match d,e with
 | .int i,.int j=>f i j/\Q (.int (g i j)) M
 | _,_=>False
noncomputable def bMul (d e:D) (M:Mem) (Q:DK):Prop :=
 match d,e with
 | .int i,.int j=>IntMulOk i j/\Q (.int (i*j)) M
 | .tup xs,.int k=>0<=k/\k<1000000/\xs.length*k.toNat<=sizeLine/\Q (.tup (List.replicate k.toNat xs).flatten) M
 | .lst a,.int k=>∃ xs,M a=some (.ls xs)/\0<=k/\k<1000000/\xs.length*k.toNat<=sizeLine/\alloc M (.ls (List.replicate k.toNat xs).flatten) fun p M'=>Q (.lst p) M'
 | _,_=>False
noncomputable def Ut (j:Int):Prop:=j≠0/\j.natAbs.log2<9000
noncomputable def bOp:Operator->D->D->Mem->DK->Prop
 | .Add=>bAdd
 | .Sub=>bInt (fun _ _=>True) fun i j=>i-j
 | .Mult=>bMul
 | .FloorDiv=>bInt (fun _ j=>Ut j) fun i j=>i.fdiv j
 | .Mod=>bInt (fun _ j=>j≠0) fun i j=>i.fmod j
 | .Pow=>bInt CPow fun i j=>i ^ j.toNat
 | _=>fun _ _ _ _=>False
theorem En (h:bInt f g d e M Q):∃ i j,d=.int i/\e=.int j/\f i j/\Q (.int (g i j)) M:=by
 cases d with
 | int i=>cases e with
  | int j=>exact⟨i,j,rfl,rfl,h.1,h.2⟩
  | _=>exact h.elim
 | _=>exact h.elim
section
variable {X:Cx}
theorem V3
  (rule:∀ (i j:Int) (t u:Tok) (s:Shared) (Q:Value->Shared->Prop) (E:Value->Shared->Prop),C i j->Q (.int (g i j) s.toks) {s with toks:=s.toks+1}->wpAny (model X.prog X.w) X.A (f (.int i t) (.int j u)) Q E s) :
  OpR X f (Z8 X.K (bInt C g)):=by
 refine (opI (X:=X) (C:=C) (g:=g) rule).imp ?_;rintro x y H Q ⟨d,e,M,R,r1,r2,rm,h,q⟩;obtain⟨i,j,rfl,rfl,h1,h2⟩:=En h
 (first|cases (show _=_ from r1.inv)|cases r1);(first|cases (show _=_ from r2.inv)|cases r2)
 exact⟨_,_,rfl,rfl,h1,q _ _ _ _ (.refl H) rm (.int _) h2⟩
theorem EZ:OpR X (binaryOp .Add) (Z8 X.K bAdd):=by
 rintro pins s σ H x y v u Q I rx ry ⟨d,e,M,R,r1,r2,rm,h,q⟩;unfold bAdd at h;split at h
 ·cases (show x=_ from r1.inv);cases (show y=_ from r2.inv)
  exact Hk pins s σ H _ _ v u Q I rx ry ⟨_,_,rfl,rfl,q _ _ _ _ (.refl H) rm (.int _) h⟩
 ·cases (show x=_ from r1.inv);cases (show y=_ from r2.inv)
  exact A9 pins s σ H _ _ v u Q I rx ry ⟨_,_,rfl,rfl,h.1,q _ _ _ _ (.refl H) rm (.str _) h.2⟩
 ·cases (show x=_ from r1.inv);cases (show y=_ from r2.inv)
  obtain⟨xs,ys,h1,h2,h3,h4⟩:=h;obtain⟨vs,e1,q1⟩:=rm _ _ h1;obtain⟨ws,e2,q2⟩:=rm _ _ h2;refine Hg pins s σ H _ _ v u Q I rx ry ⟨_,_,vs,ws,rfl,rfl,e1,e2,by rw[q1.length,q2.length];exact h3,fun p hp=>?_⟩;exact q _ _ _ _ (.upd (.inl hp)) (rm.lst hp (q1.append q2)) (.lst p) (h4.at (rm.none hp))
 ·rename_i xs ys
  obtain⟨a,vs,rfl,h1,q1⟩:=r1.inv;obtain⟨b,ws,rfl,h2,q2⟩:=r2.inv;obtain⟨g2,g3⟩:=h;cases xs with
  | nil=>cases (show vs=_ from q1.inv);exact CU pins s σ H _ _ v u Q I rx ry ⟨_,_,_,rfl,rfl,h1,h2,q _ _ _ _ (.refl H) rm (.tup h2 q2) g3⟩
  | cons x xs =>
   refine EX pins s σ H _ _ v u Q I rx ry ⟨_,_,_,_,rfl,rfl,h1,h2,fun z=>?_,by rw[q1.length,q2.length];exact g2,fun z=>?_,fun z p hp=>?_⟩
   ·subst z;exact nomatch q1.length
   ·subst z
    cases ys with
    | nil=>rw [List.append_nil] at g3;exact q _ _ _ _ (.refl H) rm (.tup h1 q1) g3
    | cons y ys=>exact nomatch q2.length
   ·exact q _ _ _ _ (.upd (.inl hp)) (rm.tup hp) (.tup (.of upd_same) ((q1.append q2).ext (.upd (.inl hp)))) g3
 ·exact h.elim
theorem RelDs.rep {K:Frag} {H:Hp} {vs:List V} {ds:List D} (r:RelDs K H vs ds):∀ k:Nat,RelDs K H (List.replicate k vs).flatten (List.replicate k ds).flatten
 | 0=>.nil
 | k+1=>by
  rw[List.replicate_succ,List.replicate_succ,List.flatten_cons,List.flatten_cons];exact r.append (RelDs.rep r k)
theorem EY:OpR X (binaryOp .Mult) (Z8 X.K bMul):=by
 rintro pins s σ H x y v u Q I rx ry ⟨d,e,M,R,r1,r2,rm,h,q⟩;unfold bMul at h;split at h
 ·cases (show x=_ from r1.inv);cases (show y=_ from r2.inv)
  exact opI (X:=X) (C:=IntMulOk) (g:=fun i j=>i*j) (fun _ _ _ _ _ _ _ hc q=>mul_int q hc) pins s σ H _ _ v u Q I rx ry ⟨_,_,rfl,rfl,h.1,q _ _ _ _ (.refl H) rm (.int _) h.2⟩
 ·rename_i ds k
  obtain⟨a,vs,rfl,h1,q1⟩:=r1.inv;cases (show y=_ from r2.inv);obtain⟨g2,g3,g4,g5⟩:=h;have hv:vs=[] ↔ ds=[]:=by rw[<- List.length_eq_zero_iff,q1.length,List.length_eq_zero_iff]
  by_cases hx:ds=[]\/k=1
  ·have e:(List.replicate k.toNat ds).flatten=ds:=by
    rcases hx with rfl|rfl
    ·simp
    ·simp
   rw[e] at g5;refine CQ pins s σ H _ _ v u Q I rx ry ⟨_,_,_,rfl,rfl,h1,?_,g2,g3,q _ _ _ _ (.refl H) rm (.tup h1 q1) g5⟩;exact hx.imp_left hv.2
  ·have hn:ds≠[]:=fun z=>hx (.inl z)
   by_cases hk:k=0
   ·subst hk
    refine CT pins s σ H _ _ v u Q I rx ry ⟨_,_,rfl,rfl,h1,fun z=>hn (hv.1 z),fun p hp=>?_⟩;exact q _ _ _ _ (.upd (.inl hp)) (rm.tup hp) (.tup (.of upd_same) .nil) g5
   ·refine EW pins s σ H _ _ v u Q I rx ry ⟨_,_,_,rfl,rfl,h1,fun z=>hn (hv.1 z),by have:¬ k=1:=fun z=>hx (.inr z);omega,g3,by rw[q1.length];exact g4,fun p hp=>?_⟩
    exact q _ _ _ _ (.upd (.inl hp)) (rm.tup hp) (.tup (.of upd_same) ((q1.rep _).ext (.upd (.inl hp)))) g5
 ·cases (show x=_ from r1.inv);cases (show y=_ from r2.inv)
  obtain⟨xs,h1,g1,g2,h3,h4⟩:=h;obtain⟨vs,e1,q1⟩:=rm _ _ h1;refine Hf pins s σ H _ _ v u Q I rx ry ⟨_,_,vs,rfl,rfl,e1,by omega,by omega,by rw[q1.length];exact h3,fun p hp=>?_⟩;exact q _ _ _ _ (.upd (.inl hp)) (rm.lst hp (q1.rep _)) (.lst p) (h4.at (rm.none hp))
 ·exact h.elim
theorem op_b (op:Operator):OpR X (binaryOp op) (Z8 X.K (bOp op)):=by
 cases op with
 | Add=>exact EZ
 | Sub=>exact V3 fun _ _ _ _ _ _ _ _ q=>sub_int q
 | Mult=>exact EY
 | FloorDiv=>exact V3 fun _ _ _ _ _ _ _ hc q=>floordiv_int hc.1 q (.inl (PyProof.noPylong_of_log2 hc.2))
 | Mod=>exact V3 fun _ _ _ _ _ _ _ hc q=>mod_int' hc q
 | Pow=>exact V3 fun _ _ _ _ _ _ _ hc q=>pow_int_small hc.1 hc.2.1 hc.2.2 q
 | _=>intro pins s σ H x y v u Q I rx ry ⟨d,e,M,R,r1,r2,rm,h,q⟩;exact (show False from h).elim
end
mutual
inductive Py (M:Mem):D->PyData->Prop
 | non:Py M .non .none
 | bl (b:Bool):Py M (.bl b) (.bool b)
 | int (i:Int):Py M (.int i) (.int i)
 | str (x:Str) (hx:(PyData.str x).canLay0=true):Py M (.str x) (.str x)
 | tup {ds:List D} {ps:List PyData} (h:Pys M ds ps):Py M (.tup ds) (.tuple ps)
 | fz {ds:List D} {ps:List PyData} (h:Pys M ds ps):Py M (.fz ds) (.list ps)
 | lst {a:Addr} {ds:List D} {ps:List PyData} (e:M a=some (.ls ds)) (h:Pys M ds ps):Py M (.lst a) (.list ps)
inductive Pys (M:Mem):List D->List PyData->Prop
 | nil:Pys M [] []
 | cons {d:D} {p:PyData} {ds:List D} {ps:List PyData} (h:Py M d p) (r:Pys M ds ps):Pys M (d::ds) (p::ps)
end
section
variable {X:Cx} {pins:List (Addr×Obj)} {s:Shared} {σ:L2.St} {H:Hp} {M:Mem}
theorem Pys.reads (I:L2.Inv X pins σ H s) (rm:RepM X.K H M) (h:Pys M ds ps):∀ {vs:List V} {us:List Value},RelDs X.K H vs ds->Vals vs us->∃ as,ReadsAll s.heap us ps as/\PyData.canLayAll0 ps=true:=by
 induction h using Pys.rec (motive_1:=fun d p _=>∀ (v:V) (u:Value),RelD X.K H v d->RelV v u->∃ as,Reads s.heap u p as/\p.canLay0=true) with
 | non=>rename_i v u r e;cases (show v=_ from r.inv);cases e;exact⟨_,.none,rfl⟩
 | bl b=>rename_i v u r e;cases (show v=_ from r.inv);cases e;exact⟨_,.bool b,rfl⟩
 | int i=>rename_i v u r e;cases (show v=_ from r.inv);obtain⟨_,rfl⟩:=e;exact⟨_,.int i _,rfl⟩
 | str x hx=>rename_i v u r e;cases (show v=_ from r.inv);obtain⟨_,rfl⟩:=e;exact⟨_,.str x _,hx⟩
 | tup h ih =>
  rename_i v u r e;obtain⟨a,vs,rfl,ht,r⟩:=r.inv;cases e;obtain⟨its,rv,⟨o,e1,e2,n,e3⟩,_⟩:=I.tuple ht;obtain⟨as,q,c⟩:=ih r rv;exact⟨as,.tuple e1 e2 e3 q,c⟩
 | fz h ih =>
  rename_i v u r e;obtain⟨a,vs,rfl,hf,r⟩:=r.inv;cases e;obtain⟨its,rv,⟨o,n,e1,e2,_,e3⟩,_⟩:=I.list hf.sq;obtain⟨as,q,c⟩:=ih r rv;exact⟨_,.list e1 e2 e3 q,c⟩
 | lst e h ih =>
  rename_i v u r z;cases (show v=_ from r.inv);cases z;obtain⟨vs,e0,r⟩:=rm _ _ e;obtain⟨its,rv,⟨o,n,e1,e2,_,e3⟩,_⟩:=I.list (.of e0);obtain⟨as,q,c⟩:=ih r rv;exact⟨_,.list e1 e2 e3 q,c⟩
 | nil=>intro vs us r e;cases (show vs=_ from r.inv);cases e;exact⟨_,.nil,rfl⟩
 | cons h r i1 i2 =>
  intro vs us q z;obtain⟨v,vs,rfl,q,qs⟩:=q.inv
  ·cases z with
   | cons z zs =>
    obtain⟨as,a1,a2⟩:=i1 _ _ q z;obtain⟨bs,b1,b2⟩:=i2 qs zs;exact⟨_,.cons a1 b1,show (_&&_)=true by rw[a2,b2];rfl⟩
theorem Py.reads (I:L2.Inv X pins σ H s) (rm:RepM X.K H M) (h:Py M d p) (r:RelD X.K H v d) (e:RelV v u):∃ as,Reads s.heap u p as/\p.canLay0=true:=by
 obtain⟨as,a1,a2⟩:=Pys.reads I rm (.cons h .nil) (.cons r .nil) (.cons e .nil);cases a1 with
 | cons b1 b2=>exact⟨_,b1,by revert a2;show (_&&_)=true->_;cases p.canLay0 with|true=>exact fun _=>rfl|false=>exact fun z=>absurd z Bool.false_ne_true⟩
end
noncomputable def cInt (g:Int->Int->Bool) (d e:D) (M:Mem) (Q:DK):Prop :=
 match d,e with
 | .int i,.int j=>Q (.bl (g i j)) M
 | _,_=>False
noncomputable def cEq (neg:Bool) (d e:D) (M:Mem) (Q:DK):Prop :=
 match d with
 | .dct p=>neg=false/\(∃ kvs,M p=some (.dk kvs))/\(∃ xs,e=.tup xs)/\Q (.bl false) M
 | d=>∃ a b,Py M d a/\Py M e b/\min a.depth b.depth<=60/\Q (.bl (if neg then !PyData.eqv a b else PyData.eqv a b)) M
theorem Iu (h1:Py M d a) (h2:Py M e b) (h3:min a.depth b.depth<=60) (q:Q (.bl (if neg then !PyData.eqv a b else PyData.eqv a b)) M):cEq neg d e M Q:=by
 cases d with
 | dct p=>cases h1
 | _=>exact⟨a,b,h1,h2,h3,q⟩
theorem B6 (h:cEq neg d e M Q):(∃ p kvs xs,d=.dct p/\neg=false/\M p=some (.dk kvs)/\e=.tup xs/\Q (.bl false) M)\/∃ a b,Py M d a/\Py M e b/\min a.depth b.depth<=60/\Q (.bl (if neg then !PyData.eqv a b else PyData.eqv a b)) M:=by
 cases d with
 | dct p=>obtain⟨h0,⟨kvs,h1⟩,⟨xs,h2⟩,h3⟩:=h;exact .inl ⟨p,kvs,xs,rfl,h0,h1,h2,h3⟩
 | _=>exact .inr h
noncomputable def sdAt {α:Type}:List Str->List α->Str->Option α
 | x::xs,d::ds,k=>if k=x then some d else sdAt xs ds k
 | _,_,_=>none
theorem EntK.exact (h:EntK l xs us):(l.all fun e=>isExactStrKey e.key)=true:=by
 induction h with
 | nil=>rfl
 | cons hk _ ih=>rw [List.all_cons,hk,ih];rfl
theorem EntK.find (h:EntK l xs us):(l.find? fun e=>e.key.isStr k).map (·.val)=sdAt xs us k:=by
 induction h with
 | nil=>rfl
 | @cons e x t es xs us hk _ ih =>
  rw[List.find?_cons,hk];show _=if k=x then some e.val else sdAt xs us k
  by_cases c:k=x
  ·subst c
   rw[if_pos rfl,show (Value.str k t).isStr k=true from by simp[Value.isStr]];rfl
  ·rw[if_neg c,show (Value.str x t).isStr k=false from by simp[Value.isStr];exact fun z=>c z.symm];exact ih
theorem Je {K:Frag} {H:Hp} {k:Str} {d:D}:∀ {xs:List Str} {vs:List V} {ds:List D},RelDs K H vs ds->sdAt xs ds k=some d->∃ v,sdAt xs vs k=some v/\RelD K H v d
 | [],_,_,_,e=>by simp[sdAt] at e
 | _::_,_,_,.nil,e=>by simp[sdAt] at e
 | x::xs,_,_,.cons h r,e=>by
  unfold sdAt at e ⊢;by_cases c:k=x
  ·rw[if_pos c] at e ⊢;cases e;exact⟨_,rfl,h⟩
  ·rw[if_neg c] at e ⊢;exact Je r e
theorem U0:∀ {xs:List Str} {vs:List V} {us:List Value},Vals vs us->sdAt xs vs k=some v->∃ u,sdAt xs us k=some u/\RelV v u
 | [],_,_,_,e=>by simp[sdAt] at e
 | _::_,_,_,.nil,e=>by simp[sdAt] at e
 | x::xs,_,_,.cons h r,e=>by
  unfold sdAt at e ⊢;by_cases c:k=x
  ·rw[if_pos c] at e ⊢;cases e;exact⟨_,rfl,h⟩
  ·rw[if_neg c] at e ⊢;exact U0 r e
theorem Ey
  (ho:s.heap.get? a=some o) (hd:o.data=.dict es ep) (en:EntK es.toList xs us) (h:Q (sdAt xs us k) {s with toks:=s.toks+1}):wpAny (model prog w) A (dictGet a (.str k tk)) Q E s:=by
 unfold dictGet
 try with_reducible refine wpAny_holding ?_
 refine wpAny_bind (wpAny_pyHash_str (wpAny_bind (PyProof.Rows.KTD.kt_dictFind_strs (s:={s with toks:=s.toks+1}) ho hd (by obtain⟨l⟩:=es;simpa using en.exact) ?_)));have hq:Q (findBy (fun k v=>v.isStr k) es k) {s with toks:=s.toks+1}:=by
  have hf:findBy (fun k v=>v.isStr k) es k=(es.toList.find? fun e=>e.key.isStr k).map (·.val):=by
   obtain⟨l⟩:=es;simp[findBy]
  rw[hf,en.find];exact h
 rw[findBy_of_findIdx?] at hq;cases hi:es.findIdx? fun e=>e.key.isStr k with
 | none=>rw [hi] at hq;exact wpAny_pure hq
 | some i=>rw [hi] at hq;exact wpAny_bind (wpAny_dictEntries (s:={s with toks:=s.toks+1}) ho hd (wpAny_pure hq))
noncomputable def cIs (neg:Bool) (d e:D) (M:Mem) (Q:DK):Prop :=
 match e with
 | .non=>Q (.bl (if neg then (match d with | .non=>false|_=>true) else (match d with | .non=>true|_=>false))) M
 | .bl k=>Q (.bl (if neg then (match d with | .bl j=>!(j==k)|_=>true) else (match d with | .bl j=>j==k|_=>false))) M
 | _=>False
noncomputable def cOp:CmpOp->D->D->Mem->DK->Prop
 | .Eq=>cEq false
 | .NotEq=>cEq true
 | .Lt=>cInt fun i j=>decide (i<j)
 | .LtE=>cInt fun i j=>decide (i<=j)
 | .Gt=>cInt fun i j=>decide (j<i)
 | .GtE=>cInt fun i j=>decide (j<=i)
 | .In=>fun _ _ _ _=>False
 | .NotIn=>fun _ _ _ _=>False
 | .Is=>cIs false
 | .IsNot=>cIs true
section
variable {X:Cx}
theorem El (h:cInt g d e M Q):∃ i j,d=.int i/\e=.int j/\Q (.bl (g i j)) M:=by
 cases d with
 | int i=>cases e with
  | int j=>exact⟨i,j,rfl,rfl,h⟩
  | _=>exact h.elim
 | _=>exact h.elim
theorem V2 (h:OpR X f (rI0 fun i j=>.bl (g i j))):OpR X f (Z8 X.K (cInt g)):=by
 refine h.imp ?_;rintro x y H Q ⟨d,e,M,R,r1,r2,rm,h,q⟩;obtain⟨i,j,rfl,rfl,h⟩:=El h
 (first|cases (show _=_ from r1.inv)|cases r1);(first|cases (show _=_ from r2.inv)|cases r2)
 exact⟨_,_,rfl,rfl,q _ _ _ _ (.refl H) rm (.bl _) h⟩
theorem Wx (ha:s.TypeIs (.ref a) "dict") (hb:s.TypeIs (.ref b) "tuple") (h:Q .notImplemented s) :
  wpAny (model prog w) A (call (.builtin "dict.__eq__") [.ref a,.ref b]) Q E s:=by
 refine wpAny_call_entry PySem.F.slot_dict_eq ha PySem.F.entry_dict_eq ?_ (PySem.F.args_dict_eq_2 _ _);show wpAny _ _ (Builtin.Dict.dictSlotArgs "__eq__" ⟨[.ref a,.ref b],[]⟩ >>= _) _ _ s;refine wpAny_bind ?_;unfold Builtin.Dict.dictSlotArgs;refine wpAny_bind (wpAny_notOrdered_dict ha ?_);show wpAny _ _ (pure (Value.ref a,Value.ref b)) _ _ s;refine wpAny_pure ?_;refine wpAny_bind (wpAny_isInstance (T:="tuple") hb PySem.F.sub_tuple_dict ?_);simp only[Bool.not_false,if_true];refine wpAny_bind (wpAny_rule ?_);exact wpAny_pure ⟨_,rfl,h⟩
theorem X9 (l b:Addr) (items:Array Value) (n:Nat) (dd:Option Addr) (sl:Array (Option Value)) (ob:Obj) (hcb:ob.cls=.type "dict") :
  Meets (Builtin.«tuple.__eq__» ⟨[.ref l,.ref b],[]⟩) (fun _ R s=>s.heap.get? l=some {cls:=.type "tuple",dict:=dd,data:=.seq items n,slots:=sl}/\s.heap.get? b=some ob/\R (.ok (.ret .notImplemented)) s) :=
 .of_wp fun prog w A R s h=>by obtain⟨hp,g,d,tk,os⟩:=s;obtain⟨hl,hb,h⟩:=h;obtain⟨c,dd2,da2,sl2⟩:=ob;cases hcb;have f1:=F.sub_dict_tuple;wp_walk using wpAny_loadPart' hl,wpAny_loadPart' hb;exact⟨_,rfl,h⟩
theorem VQ (ha:s.heap.get? a=some oa) (hca:oa.cls=.type "dict") (hb:s.heap.IsTuple b items) (hu:A.units<cLine):SeqAt.RcAt A s (.ref a) (.ref b) false:=fun prog w E Q h=>by
 have hne:a≠b:=fun e=>by
  subst e;obtain⟨o2,ho2,hc2,_⟩:=hb;rw[ha] at ho2;cases ho2;rw[hca] at hc2;exact absurd hc2 (by simp)
 obtain⟨⟨cls2,dd2,data2,sl2⟩,ho2,hc2,n2,hd2⟩:=id hb;simp only at hc2 hd2;subst hc2 hd2;exact (SeqAt.rc_eq_decline_or (k:=false) ⟨_,ha,hca⟩ ⟨_,ho2,rfl⟩ %[|4] F.sub_tuple_dict F.slot_dict_eq F.slot_tuple_eq_refl
  (fun _ hq=>Wx ⟨_,ha,hca⟩ ⟨_,ho2,rfl⟩ hq)
  (fun _ hq=>call_meets F.slot_tuple_eq_refl ⟨_,ho2,rfl⟩ F.entry_tuple_eq (F.args_tuple_eq_2 _ _) (X9 b a items n2 dd2 sl2 oa hca) ⟨ho2,ha,hq⟩)
  (fun _ hq=>wpAny_isSame_ref_other hne ha ho2 (by rw[hca];simp) hq) (.inr hu) h)
theorem Hj (hu:X.A.units+64<cLine):OpR X (compareOp .Eq) (Z8 X.K (cEq false)):=by
 rintro pins s σ H x y v u Q I rx ry ⟨d,e,M,R,r1,r2,rm,h,q⟩;rcases B6 h with ⟨p,kvs,xs,rfl,_,h1,rfl,hq⟩|⟨a,b,p1,p2,hd,h⟩
 ·(first|cases (show _=_ from r1.inv)|cases r1);(first|cases (show _=_ from rx.inv)|cases rx)
  obtain⟨_,_,rfl,ht,r⟩:=r2.inv;cases ry;obtain⟨vs,e1,_⟩:=rm _ _ h1;obtain⟨_,_,vs,_,pp⟩:=(show ObjOk X.prog X.w H s.heap p (.dK vs) from I.hok p _ e1);obtain⟨o,es,ep,h1,h2,_⟩:=pp;obtain⟨its,rv,hT,_⟩:=I.tuple ht;exact VQ h1 h2.1 hT %[|5] X.prog X.w _ _ ⟨.bl _,H,I,rfl,q _ _ _ _ (.refl H) rm (.bl _) hq⟩
 obtain⟨as,a1,a2⟩:=p1.reads I rm r1 rx;obtain⟨bs,b1,b2⟩:=p2.reads I rm r2 ry;exact SeqAt.compareEq_reads a1 b1 a2 b2 %[|5] ⟨.bl _,H,I,rfl,q _ _ _ _ (.refl H) rm (.bl _) h⟩
theorem Hh (hu:X.A.units+64<cLine):OpR X (compareOp .NotEq) (Z8 X.K (cEq true)):=by
 rintro pins s σ H x y v u Q I rx ry ⟨d,e,M,R,r1,r2,rm,h,q⟩;rcases B6 h with ⟨_,_,_,_,h0,_⟩|⟨a,b,p1,p2,hd,h⟩
 ·cases h0
 obtain⟨as,a1,a2⟩:=p1.reads I rm r1 rx;obtain⟨bs,b1,b2⟩:=p2.reads I rm r2 ry;exact SeqAt.compareNe_reads a1 b1 a2 b2 %[|5] ⟨.bl _,H,I,rfl,q _ _ _ _ (.refl H) rm (.bl _) h⟩
noncomputable def isB (d e:D):Option Bool :=
 match e with
 | .non=>some (match d with | .non=>true|_=>false)
 | .bl k=>some (match d with | .bl j=>j==k|_=>false)
 | _=>none
theorem B5 (h:cIs neg d e M Q):(e=.non\/∃ k,e=.bl k)/\∃ b,isB d e=some b/\Q (.bl (if neg then !b else b)) M:=by
 cases e with
 | non =>
  refine⟨.inl rfl,_,rfl,?_⟩;cases d<;>exact h
 | bl k =>
  refine⟨.inr ⟨k,rfl⟩,_,rfl,?_⟩;cases d<;>exact h
 | _=>exact (show False from h).elim
theorem Dp {K:Frag} {H:Hp} {x y:V} {d e:D} {v u:Value} {b:Bool} (r1:RelD K H x d) (rx:RelV x v) (r2:RelD K H y e) (ry:RelV y u) (he:e=.non\/∃ k,e=.bl k) (hb:isB d e=some b):plainIs v u=true/\(v==u)=b:=by
 rcases he with rfl|⟨k,rfl⟩
 ·(first|cases (show _=_ from r2.inv)|cases r2);cases ry;cases hb
  cases r1<;>first|((first|cases (show _=_ from rx.inv)|cases rx);exact⟨rfl,rfl⟩)|(obtain⟨t,rfl⟩:=rx;exact⟨rfl,rfl⟩)
 ·(first|cases (show _=_ from r2.inv)|cases r2);cases ry;cases hb
  cases r1<;>first|((first|cases (show _=_ from rx.inv)|cases rx);exact⟨rfl,rfl⟩)|(obtain⟨t,rfl⟩:=rx;exact⟨rfl,rfl⟩)|(rename_i j;(first|cases (show _=_ from rx.inv)|cases rx);cases j<;>cases k<;>exact⟨rfl,rfl⟩)
theorem Hi:OpR X (compareOp .Is) (Z8 X.K (cIs false)):=by
 rintro pins s σ H x y v u Q I rx ry ⟨d,e,M,R,r1,r2,rm,h,q⟩;obtain⟨he,b,hb,h⟩:=B5 h;obtain⟨a1,a2⟩:=Dp r1 rx r2 ry he hb;refine wpAny_is_plain a1 ?_;rw[a2];exact⟨.bl _,H,I,rfl,q _ _ _ _ (.refl H) rm (.bl _) h⟩
theorem Bl:OpR X (compareOp .IsNot) (Z8 X.K (cIs true)):=by
 rintro pins s σ H x y v u Q I rx ry ⟨d,e,M,R,r1,r2,rm,h,q⟩;obtain⟨he,b,hb,h⟩:=B5 h;obtain⟨a1,a2⟩:=Dp r1 rx r2 ry he hb;refine wpAny_isNot_plain a1 ?_;rw[a2];exact⟨.bl _,H,I,rfl,q _ _ _ _ (.refl H) rm (.bl _) h⟩
theorem opF:OpR X f (Z8 X.K fun _ _ _ _=>False):=by
 rintro pins s σ H x y v u Q I rx ry ⟨d,e,M,R,r1,r2,rm,h,q⟩;exact h.elim
theorem op_c (hu:X.A.units+66<cLine) (op:CmpOp):OpR X (compareOp op) (Z8 X.K (cOp op)):=by
 cases op with
 | Eq=>exact Hj %[|5]
 | NotEq=>exact Hh %[|5]
 | Lt=>exact V2 IR
 | LtE=>exact V2 IS
 | Gt=>exact V2 IT
 | GtE=>exact V2 IU
 | In=>exact opF
 | NotIn=>exact opF
 | Is=>exact Hi
 | IsNot=>exact Bl
noncomputable def iOp (d e:D) (M:Mem) (Q:DK):Prop :=
 match d,e with
 | .tup xs,.int i=>∃ v,atI xs i=some v/\Q v M
 | .fz xs,.int i=>∃ v,atI xs i=some v/\Q v M
 | .lst a,.int i=>∃ xs v,M a=some (.ls xs)/\atI xs i=some v/\Q v M
 | .str z,.int i=>z.length<=sizeLine/\∃ c,atI z.cps.toList i=some c/\Q (.str ⟨#[c]⟩) M
 | .sd xs ds,.str k=>∃ v,sdAt xs ds k=some v/\Q v M
 | _,_=>False
theorem RelDs.atI {K:Frag} {H:Hp} {vs:List V} {ds:List D} {i:Int} {d:D} (r:RelDs K H vs ds) (e:L2.atI ds i=some d):∃ v,L2.atI vs i=some v/\RelD K H v d:=by
 unfold L2.atI at e ⊢;rw[r.length];cases q:ixN ds.length i with
 | none=>rw [q] at e;cases e
 | some j=>rw [q] at e;exact r.get e
theorem Fn (hn:∀ i,e≠.int i) (hk:∀ i,e≠.str i) (h:iOp d e M Q):False:=by
 unfold iOp at h;split at h
 ·exact hn _ rfl
 ·exact hn _ rfl
 ·exact hn _ rfl
 ·exact hn _ rfl
 ·exact hk _ rfl
 ·exact h
theorem Fm (h:iOp d (.str k) M Q):∃ xs ds v,d=.sd xs ds/\sdAt xs ds k=some v/\Q v M:=by
 cases d with
 | sd xs ds=>obtain⟨v,h1,h2⟩:=(show ∃ v,sdAt xs ds k=some v/\Q v M from h);exact⟨xs,ds,v,rfl,h1,h2⟩
 | _=>exact (show False from h).elim
theorem IY:IxR X (fun x y H Q=>∃ p xs vs k v,x=.ref p/\y=.str k/\TabK X.K p xs vs/\sdAt xs vs k=some v/\Q v H):=by
 intro value slice pins s σ H x y v u Q I rx ry h hs;obtain⟨p,xs,vs,k,z,rfl,rfl,⟨lo,o,es,ep,us,lk,ex,hd,en,rv⟩,e,q⟩:=h
 (first|cases (show _=_ from rx.inv)|cases rx)
 obtain⟨tk,rfl⟩:=ry;have ho:=I.kIn _ _ lk;have tI:s.TypeIs (.ref p) "dict":=⟨o,ho,ex.1⟩;obtain⟨w',ew,rw'⟩:=U0 rv e;refine subscriptTail_builtinR (x:=w') tI PySem.F.slot_dict_getitem.lookup ?_ hs;unfold getItem
 try with_reducible refine wpAny_holding ?_
 refine wpAny_bind (wpAny_sequenceKey tI %[|4] ?_);refine wpAny_bind (wpAny_callSpecial?_slot (name:=Str.ofString "__getitem__") tI PySem.F.slot_dict_getitem
  (wpAny_call_entry PySem.F.slot_dict_getitem tI PySem.F.entry_dict_getitem ?_ (PySem.F.args_dict_getitem_2 _ _)))
 show wpAny _ _ (dictGet p (.str k tk) >>= _) _ _ s;refine wpAny_bind (Ey ho hd en ?_);rw[ew];exact wpAny_pure ⟨w',rfl,wpAny_pure ⟨rfl,z,H,I.tok _,rw',q⟩⟩
theorem ix_i:IxR X (Z8 X.K iOp):=by
 rintro value slice pins s σ H x y v u Q I rx ry ⟨d,e,M,R,r1,r2,rm,h,q⟩ hs;cases r2 with
 | int i =>
  cases r1 with
  | tup ht r =>
   obtain⟨d,e,h⟩:=(show ∃ v,L2.atI _ i=some v/\R v M from h);obtain⟨w,e1,r1⟩:=r.atI e;exact Hx value slice pins s σ H _ _ v u Q I rx ry ⟨_,_,_,_,rfl,rfl,ht,e1,q _ _ _ _ (.refl H) rm r1 h⟩ hs
  | fz ht r =>
   obtain⟨d,e,h⟩:=(show ∃ v,L2.atI _ i=some v/\R v M from h);obtain⟨w,e1,r1⟩:=r.atI e;exact AK value slice pins s σ H _ _ v u Q I rx ry ⟨_,_,_,_,rfl,rfl,ht.sq,e1,q _ _ _ _ (.refl H) rm r1 h⟩ hs
  | lst a =>
   obtain⟨xs,d,e0,e,h⟩:=(show ∃ xs v,M a=some (.ls xs)/\L2.atI xs i=some v/\R v M from h);obtain⟨vs,e1,r⟩:=rm _ _ e0;obtain⟨w,e1',r1⟩:=r.atI e;exact AK value slice pins s σ H _ _ v u Q I rx ry ⟨_,_,_,_,rfl,rfl,.of e1,e1',q _ _ _ _ (.refl H) rm r1 h⟩ hs
  | str z =>
   obtain⟨hz,c,e,h⟩:=(show z.length<=sizeLine/\∃ c,L2.atI z.cps.toList i=some c/\R (.str ⟨#[c]⟩) M from h);exact Hy value slice pins s σ H _ _ v u Q I rx ry ⟨_,_,_,rfl,rfl,hz,e,q _ _ _ _ (.refl H) rm (.str _) h⟩ hs
  | _=>exact (show False from h).elim
 | str k =>
  obtain⟨xs,ds,w',rfl,e,h⟩:=Fm h;cases r1 with
  | sd T r =>
   obtain⟨z,e1,r1⟩:=Je r e;exact IY value slice pins s σ H _ _ v u Q I rx ry ⟨_,_,_,_,_,rfl,rfl,T,e1,q _ _ _ _ (.refl H) rm r1 h⟩ hs
 | _=>exact (Fn (by rintro i ⟨⟩) (by rintro i ⟨⟩) h).elim
noncomputable def cutG {α:Type} (xs:List α) (lo hi:Option Int):List α:=(xs.drop (HT.sIx xs.length 0 lo)).take (HT.sIx xs.length xs.length hi-HT.sIx xs.length 0 lo)
theorem RelDs.cut {K:Frag} {H:Hp} {vs:List V} {ds:List D} (r:RelDs K H vs ds) (lo hi:Option Int):RelDs K H (cutV vs lo hi) (cutG ds lo hi):=by
 unfold cutV cutG;rw[r.length];exact (r.drop _).take _
noncomputable def sOp (d:D) (lo hi:Option Int) (M:Mem) (Q:DK):Prop :=
 match d with
 | .fz xs=>alloc M (.ls (cutG xs lo hi)) fun p M'=>Q (.lst p) M'
 | .lst a=>∃ xs,M a=some (.ls xs)/\alloc M (.ls (cutG xs lo hi)) fun p M'=>Q (.lst p) M'
 | .tup xs=>Q (.tup (cutG xs lo hi)) M
 | _=>False
noncomputable def IW (K:Frag) (f:D->Option Int->Option Int->Mem->DK->Prop):V->Option Int->Option Int->Hp->VK->Prop:=fun x lo hi H Q=>∃ d M R,RelD K H x d/\RepM K H M/\f d lo hi M R/\∀ d' M' v H',HExt K H H'->RepM K H' M'->RelD K H' v d'->R d' M'->Q v H'
theorem sl_s:SlR X (IW X.K sOp):=by
 rintro pins s σ H x v vl vu lo hi sl Q I rx hs pl pu ⟨d,M,R,r1,rm,h,q⟩;cases r1 with
 | fz ht r =>
  exact AB pins s σ H _ v vl vu lo hi sl Q I rx hs pl pu ⟨_,_,rfl,ht.sq,fun p hp=>q _ _ _ _ (.upd (.inl hp)) (rm.lst hp (r.cut lo hi)) (.lst p) ((show alloc M (.ls (cutG _ lo hi)) fun p M'=>R (.lst p) M' from h).at (rm.none hp))⟩
 | lst a =>
  obtain⟨xs,e0,h⟩:=(show ∃ xs,M a=some (.ls xs)/\alloc M (.ls (cutG xs lo hi)) fun p M'=>R (.lst p) M' from h);obtain⟨vs,e1,r⟩:=rm _ _ e0;exact AB pins s σ H _ v vl vu lo hi sl Q I rx hs pl pu ⟨_,_,rfl,.of e1,fun p hp=>q _ _ _ _ (.upd (.inl hp)) (rm.lst hp (r.cut lo hi)) (.lst p) (h.at (rm.none hp))⟩
 | tup ht r =>
  rename_i vs ds;by_cases hw:HT.sIx vs.length 0 lo=0/\HT.sIx vs.length vs.length hi=vs.length
  ·have e:cutG ds lo hi=ds:=by
    unfold cutG;rw[<- r.length,hw.1,hw.2,List.drop_zero,Nat.sub_zero,r.length,List.take_length]
   have h':R (.tup (cutG ds lo hi)) M:=h;rw[e] at h';exact EB pins s σ H _ v vl vu lo hi sl Q I rx hs pl pu ⟨_,_,rfl,ht,hw,q _ _ _ _ (.refl H) rm (.tup ht r) h'⟩
  ·exact GC pins s σ H _ v vl vu lo hi sl Q I rx hs pl pu ⟨_,_,rfl,ht,hw,fun p hp=>q _ _ _ _ (.upd (.inl hp)) (rm.tup hp) (.tup (.of upd_same) ((r.cut lo hi).ext (.upd (.inl hp)))) h⟩
 | _=>exact (show False from h).elim
noncomputable def fAbs:List D->Mem->DK->Prop
 | [.int i],M,Q=>Q (.int (if i<0 then -i else i)) M
 | _,_,_=>False
noncomputable def fMax:List D->Mem->DK->Prop
 | [.int i,.int j],M,Q=>Q (.int (if j > i then j else i)) M
 | _,_,_=>False
noncomputable def fMin:List D->Mem->DK->Prop
 | [.int i,.int j],M,Q=>Q (.int (if j<i then j else i)) M
 | _,_,_=>False
noncomputable def fStr:List D->Mem->DK->Prop
 | [.int i],M,Q=>i.natAbs.log2<1920/\Q (.str (toString i)) M
 | _,_,_=>False
noncomputable def fLen:List D->Mem->DK->Prop
 | [.tup xs],M,Q=>Q (.int xs.length) M
 | [.fz xs],M,Q=>Q (.int xs.length) M
 | [.lst a],M,Q=>∃ xs,M a=some (.ls xs)/\Q (.int xs.length) M
 | [.str z],M,Q=>z.length<=sizeLine/\Q (.int z.length) M
 | _,_,_=>False
noncomputable def UP:List D->Mem->DK->Prop
 | [.int i,.int j],M,Q=>Ut j/\Q (.tup [.int (i.fdiv j),.int (i.fmod j)]) M
 | _,_,_=>False
noncomputable def Yd:List D->Mem->DK->Prop
 | [.tup xs],M,Q=>Q (.tup xs) M
 | [.fz xs],M,Q=>Q (.tup xs) M
 | [.lst a],M,Q=>∃ xs,M a=some (.ls xs)/\Q (.tup xs) M
 | _,_,_=>False
noncomputable def Yo:List D->Mem->DK->Prop
 | [.tup xs],M,Q=>alloc M (.ls xs) fun p M'=>Q (.lst p) M'
 | [.fz xs],M,Q=>alloc M (.ls xs) fun p M'=>Q (.lst p) M'
 | [.lst a],M,Q=>∃ xs,M a=some (.ls xs)/\alloc M (.ls xs) fun p M'=>Q (.lst p) M'
 | _,_,_=>False
noncomputable def fInt:List D->Mem->DK->Prop
 | [.int i],M,Q=>Q (.int i) M
 | [.bl b],M,Q=>Q (.int (if b then 1 else 0)) M
 | _,_,_=>False
theorem RelDs.one {K:Frag} {H:Hp} {vs:List V} {d:D} (r:RelDs K H vs [d]):∃ v,vs=[v]/\RelD K H v d:=by
 cases r with|cons h q=>cases q;exact⟨_,rfl,h⟩
theorem RelDs.two {K:Frag} {H:Hp} {vs:List V} {d e:D} (r:RelDs K H vs [d,e]):∃ v w,vs=[v,w]/\RelD K H v d/\RelD K H w e:=by
 cases r with|cons h q=>cases q with|cons h' q'=>cases q';exact⟨_,_,rfl,h,h'⟩
theorem Ir:CallR X (.builtin "abs") (Xl X.K fAbs):=by
 refine (Ej (X:=X)).imp ?_;rintro xs H Q ⟨ds,M,R,r,rm,h,q⟩;unfold fAbs at h;split at h
 ·obtain⟨v,rfl,ra⟩:=r.one;(first|cases (show _=_ from ra.inv)|cases ra);exact⟨_,rfl,q _ _ _ _ (.refl H) rm (.int _) h⟩
 ·exact h.elim
theorem Ik (hc:X.calm=true):CallR X (.builtin "max") (Xl X.K fMax):=by
 refine (BL (X:=X) hc).imp ?_;rintro xs H Q ⟨ds,M,R,r,rm,h,q⟩;unfold fMax at h;split at h
 ·obtain⟨v,w,rfl,r1,r2⟩:=r.two;(first|cases (show _=_ from r1.inv)|cases r1);(first|cases (show _=_ from r2.inv)|cases r2);exact⟨_,_,rfl,q _ _ _ _ (.refl H) rm (.int _) h⟩
 ·exact h.elim
theorem Ij (hc:X.calm=true):CallR X (.builtin "min") (Xl X.K fMin):=by
 refine (BK (X:=X) hc).imp ?_;rintro xs H Q ⟨ds,M,R,r,rm,h,q⟩;unfold fMin at h;split at h
 ·obtain⟨v,w,rfl,r1,r2⟩:=r.two;(first|cases (show _=_ from r1.inv)|cases r1);(first|cases (show _=_ from r2.inv)|cases r2);exact⟨_,_,rfl,q _ _ _ _ (.refl H) rm (.int _) h⟩
 ·exact h.elim
theorem Io:CallR X (.type "int") (Xl X.K fInt):=by
 refine (BM (X:=X)).imp ?_;rintro xs H Q ⟨ds,M,R,r,rm,h,q⟩;unfold fInt at h;split at h
 ·obtain⟨v,rfl,ra⟩:=r.one;(first|cases (show _=_ from ra.inv)|cases ra);exact .inl ⟨_,rfl,q _ _ _ _ (.refl H) rm (.int _) h⟩
 ·obtain⟨v,rfl,ra⟩:=r.one;(first|cases (show _=_ from ra.inv)|cases ra);exact .inr ⟨_,rfl,q _ _ _ _ (.refl H) rm (.int _) h⟩
 ·exact h.elim
theorem Il:CallR X (.builtin "len") (Xl X.K fLen):=by
 refine (UT (X:=X) |>.or US).imp ?_;rintro xs H Q ⟨ds,M,R,r,rm,h,q⟩;unfold fLen at h;split at h
 ·obtain⟨v,rfl,ra⟩:=r.one;obtain⟨_,_,rfl,ht,r⟩:=ra.inv;exact .inl ⟨_,_,rfl,.inr ht,q _ _ _ _ (.refl H) rm (by rw[r.length];exact .int _) h⟩
 ·obtain⟨v,rfl,ra⟩:=r.one;obtain⟨_,_,rfl,ht,r⟩:=ra.inv;exact .inl ⟨_,_,rfl,.inl ht.sq,q _ _ _ _ (.refl H) rm (by rw[r.length];exact .int _) h⟩
 ·obtain⟨v,rfl,ra⟩:=r.one
  obtain⟨xs,e0,h⟩:=h;obtain⟨vs,e1,r'⟩:=rm _ _ e0
  (first|cases (show _=_ from ra.inv)|cases ra);exact .inl ⟨_,_,rfl,.inl (.of e1),q _ _ _ _ (.refl H) rm (by rw[r'.length];exact .int _) h⟩
 ·obtain⟨v,rfl,ra⟩:=r.one;(first|cases (show _=_ from ra.inv)|cases ra);exact .inr ⟨_,rfl,h.1,q _ _ _ _ (.refl H) rm (.int _) h.2⟩
 ·exact h.elim
theorem BN:CallR X (.builtin "divmod") (Xl X.K UP):=by
 rintro pins s σ H xs us Q I rv ⟨ds,M,R,r,rm,h,q⟩;unfold UP at h;split at h
 ·rename_i i j
  obtain⟨v,w,rfl,r1,r2⟩:=r.two;(first|cases (show _=_ from r1.inv)|cases r1);(first|cases (show _=_ from r2.inv)|cases r2);obtain⟨u,w',rfl,⟨t,rfl⟩,⟨t',rfl⟩⟩:=WD rv;refine divmod_int h.1.1 ?_ (.inl (PyProof.noPylong_of_log2 h.1.2));have hn:H s.heap.objs.size=none:=I.hok.fresh %[|3];refine⟨.ref s.heap.objs.size,upd H s.heap.objs.size (.tup [.int (i.fdiv j),.int (i.fmod j)]),?_,rfl,q _ _ _ _ (.upd (.inl hn)) (rm.tup hn) (.tup (.of upd_same) (.cons (.int _) (.cons (.int _) .nil))) h.2⟩;refine I.laid (fun b o e=>Heap.get?_push_of_some _ e) %[|3] ⟨by simp only[List.length_cons,List.length_nil];rw[sizeLine_eq];decide,[.int (i.fdiv j) s.toks,.int (i.fmod j) (s.toks+1)],.cons ⟨_,rfl⟩ (.cons ⟨_,rfl⟩ .nil),?_⟩;exact⟨_,Heap.get?_push_size s.heap rfl,rfl,0,rfl⟩
 ·exact h.elim
theorem Ek:CallR X (.type "tuple") (Xl X.K Yd):=by
 refine (VR (X:=X)).imp ?_;rintro xs H Q ⟨ds,M,R,r,rm,h,q⟩;unfold Yd at h;split at h
 ·obtain⟨v,rfl,ra⟩:=r.one;obtain⟨_,_,rfl,ht,r⟩:=ra.inv;exact⟨_,_,rfl,.inr ⟨ht,q _ _ _ _ (.refl H) rm (.tup ht r) h⟩⟩
 ·obtain⟨v,rfl,ra⟩:=r.one;obtain⟨_,_,rfl,ht,r⟩:=ra.inv;exact⟨_,_,rfl,.inl ⟨ht.sq,fun p hp=>q _ _ _ _ (.upd (.inl hp)) (rm.tup hp) (.tup (.of upd_same) (r.ext (.upd (.inl hp)))) h⟩⟩
 ·obtain⟨v,rfl,ra⟩:=r.one
  obtain⟨xs,e0,h⟩:=h;obtain⟨vs,e1,r'⟩:=rm _ _ e0
  (first|cases (show _=_ from ra.inv)|cases ra);exact⟨_,_,rfl,.inl ⟨.of e1,fun p hp=>q _ _ _ _ (.upd (.inl hp)) (rm.tup hp) (.tup (.of upd_same) (r'.ext (.upd (.inl hp)))) h⟩⟩
 ·exact h.elim
theorem FJ:CallR X (.type "list") (Xl X.K Yo):=by
 refine (UR (X:=X)).imp ?_;rintro xs H Q ⟨ds,M,R,r,rm,h,q⟩;unfold Yo at h;split at h
 ·obtain⟨v,rfl,ra⟩:=r.one;obtain⟨_,_,rfl,ht,r⟩:=ra.inv;exact⟨_,_,rfl,.inr ht,fun p hp=>q _ _ _ _ (.upd (.inl hp)) (rm.lst hp r) (.lst p) (h.at (rm.none hp))⟩
 ·obtain⟨v,rfl,ra⟩:=r.one;obtain⟨_,_,rfl,ht,r⟩:=ra.inv;exact⟨_,_,rfl,.inl ht.sq,fun p hp=>q _ _ _ _ (.upd (.inl hp)) (rm.lst hp r) (.lst p) (h.at (rm.none hp))⟩
 ·obtain⟨v,rfl,ra⟩:=r.one
  obtain⟨xs,e0,h⟩:=h;obtain⟨vs,e1,r'⟩:=rm _ _ e0
  (first|cases (show _=_ from ra.inv)|cases ra);exact⟨_,_,rfl,.inl (.of e1),fun p hp=>q _ _ _ _ (.upd (.inl hp)) (rm.lst hp r') (.lst p) (h.at (rm.none hp))⟩
 ·exact h.elim
end
end DL
end
noncomputable section
namespace DL
open PySem PySem.Spec PyProof.Rows L2
noncomputable def tyD (M:Mem):D->Option String
 | .non=>some "NoneType"
 | .bl _=>some "bool"
 | .int _=>some "int"
 | .str _=>some "str"
 | .tup _=>some "tuple"
 | .fz _=>some "list"
 | .lst a=>match M a with|some (.ls _)=>some "list" | _=>none
 | .dct a=>match M a with|some (.dk _)=>some "dict" | _=>none
 | .exc _ _=>some "exc"
 | _=>none
noncomputable def isiT (a b:String):Bool:=a==b || (a == "bool" && b == "int") || (a == "exc" && b == "ValueError")
noncomputable def fIsi:List D->Mem->DK->Prop
 | [d,.ty T],M,Q=>∃ t,tyD M d=some t/\(T="int"\/T="bool"\/T="str"\/T="tuple"\/T="list"\/T="dict"\/T="ValueError")/\Q (.bl (isiT t T)) M
 | [.non,.cls _],M,Q=>Q (.bl false) M
 | [d,.cls c],M,Q=>∃ m,d=.exc m (xarg d)/\Q (.bl (YL m c)) M
 | [d,.tup cs],M,Q=>∃ m,∃ ns:List Str,d=.exc m (xarg d)/\cs=ns.map .cls/\Q (.bl (ns.any (YL m))) M
 | _,_,_=>False
theorem ZO (K:Frag) (h:t="NoneType"\/t="bool"\/t="int"\/t="str"\/t="tuple"\/t="list"\/t="dict")
  (h':T="int"\/T="bool"\/T="str"\/T="tuple"\/T="list"\/T="dict"\/T="ValueError"):PySem.W.kitOne K (.type t) (.type T)=some (isiT t T):=by
 rcases h with rfl|rfl|rfl|rfl|rfl|rfl|rfl<;>rcases h' with rfl|rfl|rfl|rfl|rfl|rfl|rfl<;>kernel_rfl
section
variable {X:Cx} {rz:Bool} {Xe:DSt->DK}
theorem Wa (I:L2.Inv X pins σ H s) (r:RelD X.K H v (.exc n x)):∃ a C,v=.ref a/\n∈xNames/\YZ X.K n C/\∃ ox od,PySem.W.InstAt s.heap a ox C od:=by
 cases r with
 | @exc a C n hn hi hc h =>
  obtain⟨ob,vs,h1,h2,h3,h4⟩:=(I.hok _ _ h).1;exact⟨a,C,rfl,hn,hc,ob,none,h1,h2,by unfold PySem.W.notCls;rw[h4],by rw[h3];trivial⟩
 | @excF a C d n v x hn hi hc h hd r =>
  obtain⟨ob,vs,h1,h2,h3,h4⟩:=(I.hok _ _ h).1;obtain⟨o,ho⟩:=(I.hok _ _ hd).2.1;exact⟨a,C,rfl,hn,hc,ob,some o,h1,h2,by unfold PySem.W.notCls;rw[h4],by rw[h3];exact ho⟩
theorem Im (tab:Xk X.K=true):CallR X (.builtin "isinstance") (Xl X.K fIsi):=by
 rintro pins s σ H xs us Q I rv ⟨ds,M,R,r,rm,h,q⟩;unfold fIsi at h;split at h
 ·rename_i d T
  obtain⟨v,w,rfl,r1,r2⟩:=r.two;(first|cases (show _=_ from r2.inv)|cases r2);obtain⟨u,w',rfl,ru,rw'⟩:=WD rv;cases (show w'=Value.type T from rw');obtain⟨t,e,hT,h⟩:=h;have fin:∀ tk,EP X pins σ Q (.bool (isiT t T)) {s with toks:=tk}:=fun tk=>⟨.bl _,H,I.tok tk,rfl,q _ _ _ _ (.refl H) rm (.bl _) h⟩;cases r1 with
  | non=>cases e;cases (show u=Value.none from ru);exact PySem.W.kia_one PySem.W.kitx_none I.kIn True.intro (ZO _ (by simp) hT) (fun z=>nomatch z) fin
  | bl b=>cases e;cases (show u=Value.bool b from ru);exact PySem.W.kia_one PySem.W.kitx_bool I.kIn True.intro (ZO _ (by simp) hT) (fun z=>nomatch z) fin
  | int i=>cases e;obtain⟨t,rfl⟩:=(show ∃ t,u=Value.int i t from ru);exact PySem.W.kia_one PySem.W.kitx_int I.kIn True.intro (ZO _ (by simp) hT) (fun z=>nomatch z) fin
  | str x=>cases e;obtain⟨t,rfl⟩:=(show ∃ t,u=Value.str x t from ru);exact PySem.W.kia_one PySem.W.kitx_str I.kIn True.intro (ZO _ (by simp) hT) (fun z=>nomatch z) fin
  | @tup a vs ds ht _ =>
   cases e;cases (show u=Value.ref a from ru);obtain⟨its,_,⟨o,h1,h2,_⟩,_⟩:=I.tuple ht;exact PySem.W.kia_one PySem.W.kitx_tuple I.kIn ⟨o,h1,h2⟩ (ZO _ (by simp) hT) (fun z=>nomatch z) fin
  | @fz a vs ds ht _ =>
   cases e;cases (show u=Value.ref a from ru);obtain⟨its,_,⟨o,n,h1,h2,_⟩,_⟩:=I.list ht.sq;exact PySem.W.kia_one PySem.W.kitx_list I.kIn ⟨o,h1,h2⟩ (ZO _ (by simp) hT) (fun z=>nomatch z) fin
  | lst a =>
   cases (show u=Value.ref a from ru);simp only[tyD] at e;split at e<;>cases e;rename_i ds e0;obtain⟨vs,e1,_⟩:=rm _ _ e0;obtain⟨its,_,⟨o,n,h1,h2,_⟩,_⟩:=I.list (.of e1);exact PySem.W.kia_one PySem.W.kitx_list I.kIn ⟨o,h1,h2⟩ (ZO _ (by simp) hT) (fun z=>nomatch z) fin
  | dct a =>
   cases (show u=Value.ref a from ru);simp only[tyD] at e;split at e<;>cases e;rename_i ds e0;obtain⟨vs,e1,_⟩:=rm _ _ e0;obtain⟨_,_,vs,_,p⟩:=(show ObjOk X.prog X.w H s.heap a (.dK vs) from I.hok a _ e1);obtain⟨o,es,ep,h1,h2,_⟩:=p;exact PySem.W.kia_one PySem.W.kitx_dict I.kIn ⟨o,h1,h2.1⟩ (ZO _ (by simp) hT) (fun z=>nomatch z) fin
  | @exc a C n hn hi hc hx =>
   obtain⟨a,C,ev,hn,hc,hx⟩:=Wa I (.exc hn hi hc hx);cases ev;cases e;cases (show u=Value.ref a from ru);have e:isiT "exc" T=(T == "ValueError"):=by rcases hT with rfl|rfl|rfl|rfl|rfl|rfl|rfl<;>decide
   rw[e] at fin;exact PySem.W.kia_one (W7 (Z5 tab hn hc).1) I.kIn hx ((Z5 tab hn hc).2.2.1 T hT) (fun z=>nomatch z) fin
  | @excF a C d n v x hn hi hc hx hd rr0 =>
   obtain⟨a,C,ev,hn,hc,hx⟩:=Wa I (.excF hn hi hc hx hd rr0);cases ev;cases e;cases (show u=Value.ref a from ru);have e:isiT "exc" T=(T == "ValueError"):=by rcases hT with rfl|rfl|rfl|rfl|rfl|rfl|rfl<;>decide
   rw[e] at fin;exact PySem.W.kia_one (W7 (Z5 tab hn hc).1) I.kIn hx ((Z5 tab hn hc).2.2.1 T hT) (fun z=>nomatch z) fin
  | _=>cases e
 ·rename_i c
  obtain⟨v,w,rfl,r1,r2⟩:=r.two;obtain⟨u,w',rfl,ru,rw'⟩:=WD rv
  (first|cases (show _=_ from r1.inv)|cases r1)
  cases r2 with
  | @cls D' c' hn' hc' =>
   cases (show w'=Value.ref D' from rw');cases (show u=Value.none from ru);exact PySem.W.kia_one PySem.W.kitx_none I.kIn True.intro (D9 tab hn' hc') (fun z=>nomatch z) fun tk=>⟨.bl _,H,I.tok tk,rfl,q _ _ _ _ (.refl H) rm (.bl _) h⟩
 ·rename_i d c _
  obtain⟨v,w,rfl,r1,r2⟩:=r.two;obtain⟨u,w',rfl,ru,rw'⟩:=WD rv;obtain⟨m,ed,h⟩:=h;rw[ed] at r1;cases r2 with
  | @cls D' c' hn' hc' =>
   cases (show w'=Value.ref D' from rw');obtain⟨a,C,ev,hn,hc,hx⟩:=Wa I r1;subst ev
   ·cases (show u=Value.ref a from ru)
    have fin:∀ tk,EP X pins σ Q (.bool (YL m c)) {s with toks:=tk}:=fun tk=>⟨.bl _,H,I.tok tk,rfl,q _ _ _ _ (.refl H) rm (.bl _) h⟩;exact PySem.W.kia_one (W7 (Z5 tab hn hc).1) I.kIn hx ((Z5 tab hn hc).2.2.2 c D' hn' hc').2 (fun z=>nomatch z) fin
 ·rename_i d cs
  obtain⟨v,w,rfl,r1,r2⟩:=r.two;obtain⟨u,w',rfl,ru,rw'⟩:=WD rv;obtain⟨m,ns,ed,rfl,h⟩:=h;rw[ed] at r1;obtain⟨b,vs,rfl,ht,rr⟩:=r2.inv;cases (show w'=Value.ref b from rw');obtain⟨a,C,ev,hn,hc,hx⟩:=Wa I r1;subst ev
  ·cases (show u=Value.ref a from ru)
   obtain⟨its,rv2,⟨o,h1,h2,n2,h3⟩,_⟩:=I.tuple ht;have key:∀ {ns:List Str} {vs:List V} {its:List Value},RelDs X.K H vs (ns.map .cls)->Vals vs its->PySem.W.kitAny X.K (.ref C) its=some (ns.any (YL m)):=by
    intro ns
    induction ns with
    | nil=>intro vs its r q;(first|cases (show _=_ from r.inv)|cases r);cases q;rfl
    | cons c ns ih =>
     intro vs its r q;cases r with
     | cons e r =>
      cases e with
      | @cls D' c' hn' hc' =>
       cases q with
       | cons e2 q =>
        cases e2;have k1:=((Z5 tab hn hc).2.2.2 c D' hn' hc').2;show (match PySem.W.kitOne X.K (.ref C) (.ref D') with|some true=>some true|some false=>PySem.W.kitAny X.K (.ref C) _|none=>none)=_;rw[k1,List.any_cons];cases YL m c with
        | true=>rfl
        | false=>exact ih r q
   have fin:∀ tk,EP X pins σ Q (.bool (ns.any (YL m))) {s with toks:=tk}:=fun tk=>⟨.bl _,H,I.tok tk,rfl,q _ _ _ _ (.refl H) rm (.bl _) h⟩;obtain⟨oc,od,odt,osl⟩:=o;cases h2;cases h3;exact PySem.W.kia_tup (W7 (Z5 tab hn hc).1) I.kIn hx h1 (key rr rv2) (fun z=>nomatch z) fin
 ·exact h.elim
noncomputable def fAll:List D->Mem->DK->Prop
 | [.lst a],M,Q=>∃ bs:List Bool,M a=some (.ls (bs.map .bl))/\Q (.bl (bs.all id)) M
 | _,_,_=>False
noncomputable def fAny:List D->Mem->DK->Prop
 | [.lst a],M,Q=>∃ bs:List Bool,M a=some (.ls (bs.map .bl))/\Q (.bl (bs.any id)) M
 | _,_,_=>False
theorem Ul {K:Frag} {H:Hp} {bs:List Bool}:∀ {vs:List V} {us:List Value},RelDs K H vs (bs.map .bl)->Vals vs us->LSm.BoolsAre us bs:=by
 induction bs with
 | nil=>intro vs us r q;(first|cases (show _=_ from r.inv)|cases r);cases q;exact .nil
 | cons b bs ih =>
  intro vs us r q;cases r with
  | cons rb r =>
   (first|cases (show _=_ from rb.inv)|cases rb)
   cases q with
   | cons e q =>
    cases e;exact .cons _ (ih r q)
theorem Iq (hc:X.calm=true):CallR X (.builtin "all") (Xl X.K fAll):=by
 rintro pins s σ H xs us Q I rv ⟨ds,M,R,r,rm,h,q⟩;unfold fAll at h;split at h
 ·rename_i a
  obtain⟨v,rfl,ra⟩:=r.one;(first|cases (show _=_ from ra.inv)|cases ra);obtain⟨u,rfl,ru⟩:=XU rv;cases (show u=Value.ref a from ru);obtain⟨bs,e0,h⟩:=h;obtain⟨vs,e1,r1⟩:=rm _ _ e0;obtain⟨its,r2,pl,_⟩:=I.list (.of e1);have hb:=Ul r1 r2;have hl:=pl.isList;have hlt:a<s.heap.objs.size:=by obtain⟨_,e,_⟩:=hl;exact Heap.lt_size e
  refine call_all_walk (wpAny_pyIter_list hl ?_);refine⟨s.heap.objs.size,[s.heap.objs.size,a],[s.heap.objs.size],its.toArray.size,_,_,fun i=>(bs[i]?).getD true,rfl,Walks.list (A:=X.A.in1) (I.ok.hd hc) _ a (Nat.ne_of_lt hlt) its.toArray,
   ⟨⟨_,Heap.get?_push_size _ rfl,rfl,rfl⟩,hl.push _⟩,fun i v s' Q' E' hP hQ=>?_,fun h' tk hk=>?_⟩
  ·obtain⟨b,e,rfl⟩:=hb.get i v (by simpa using hP)
   simp only[e,Option.getD_some] at hQ;exact wpAny_truthy_bool hQ
  ·have e:((List.range its.toArray.size).all fun i=>(bs[i]?).getD true)=bs.all id:=by
    rw[List.size_toArray,hb.length];exact LSm.range_all bs
   rw[e];exact⟨.bl _,H,I.kept (LSm.kept_iter hk),rfl,q _ _ _ _ (.refl H) rm (.bl _) h⟩
 ·exact h.elim
theorem Ip (hc:X.calm=true):CallR X (.builtin "any") (Xl X.K fAny):=by
 rintro pins s σ H xs us Q I rv ⟨ds,M,R,r,rm,h,q⟩;unfold fAny at h;split at h
 ·rename_i a
  obtain⟨v,rfl,ra⟩:=r.one;(first|cases (show _=_ from ra.inv)|cases ra);obtain⟨u,rfl,ru⟩:=XU rv;cases (show u=Value.ref a from ru);obtain⟨bs,e0,h⟩:=h;obtain⟨vs,e1,r1⟩:=rm _ _ e0;obtain⟨its,r2,pl,_⟩:=I.list (.of e1);have hb:=Ul r1 r2;have hl:=pl.isList;have hlt:a<s.heap.objs.size:=by obtain⟨_,e,_⟩:=hl;exact Heap.lt_size e
  refine call_any_walk (wpAny_pyIter_list hl ?_);refine⟨s.heap.objs.size,[s.heap.objs.size,a],[s.heap.objs.size],its.toArray.size,_,_,fun i=>(bs[i]?).getD false,rfl,Walks.list (A:=X.A.in1) (I.ok.hd hc) _ a (Nat.ne_of_lt hlt) its.toArray,
   ⟨⟨_,Heap.get?_push_size _ rfl,rfl,rfl⟩,hl.push _⟩,fun i v s' Q' E' hP hQ=>?_,fun h' tk hk=>?_⟩
  ·obtain⟨b,e,rfl⟩:=hb.get i v (by simpa using hP)
   simp only[e,Option.getD_some] at hQ;exact wpAny_truthy_bool hQ
  ·have e:((List.range its.toArray.size).any fun i=>(bs[i]?).getD false)=bs.any id:=by
    rw[List.size_toArray,hb.length];exact LSm.range_any bs
   rw[e];exact⟨.bl _,H,I.kept (LSm.kept_iter hk),rfl,q _ _ _ _ (.refl H) rm (.bl _) h⟩
 ·exact h.elim
end
noncomputable def truD (d:D) (M:Mem) (Q:Bool->Mem->Prop):Prop :=
 match d with
 | .non=>Q false M
 | .bl b=>Q b M
 | .int i=>Q (i != 0) M
 | .str y=>y.length<=sizeLine/\Q ((y.length:Int) != 0) M
 | .tup xs=>Q (!xs.isEmpty) M
 | .fz xs=>Q (!xs.isEmpty) M
 | .lst a=>∃ xs,M a=some (.ls xs)/\Q (!xs.isEmpty) M
 | _=>False
noncomputable def dTru (t:DE):DT:=fun δ M Q=>t δ M fun d M1=>truD d M1 Q
section
variable {X:Cx} {rz:Bool} {Xe:DSt->DK} {a b c e:Expr} {es rest:List Expr} {ta tb tc:DE} {t:DA} {tA tB:DT} {pos:Pos}
theorem RelDs.isEmpty {K:Frag} {H:Hp} {vs:List V} {ds:List D} (r:RelDs K H vs ds):vs.isEmpty=ds.isEmpty:=by cases r<;>rfl
theorem HE (ha:PE X a (lift (X.L rz Xe) ta)) (he:∀ whole,isTrue a X.env whole=(do let v <- whole;standAt a.pos;holding [v] (truthy v))):PT X a (Z7 (X.L rz Xe) (dTru ta)) :=
 (Cw ha he).imp fun σ H Q ⟨δ,M,R,rs,rm,t,q⟩=>⟨δ,M,_,rs,rm,t,fun d M' v H' x m r h=>by
  cases r with
  | non=>exact⟨_,rfl,q _ _ _ x m h⟩
  | bl b=>exact⟨_,rfl,q _ _ _ x m h⟩
  | int i=>exact⟨_,rfl,q _ _ _ x m h⟩
  | str y=>exact⟨_,⟨h.1,rfl⟩,q _ _ _ x m h.2⟩
  | tup ht r=>exact⟨_,.inr (.inl ⟨_,ht,rfl⟩),q _ _ _ x m (by rw[r.isEmpty];exact h)⟩
  | fz ht r=>exact⟨_,.inl ⟨_,ht.sq,rfl⟩,q _ _ _ x m (by rw[r.isEmpty];exact h)⟩
  | lst a =>
   obtain⟨xs,e0,h⟩:=h;obtain⟨vs,e1,r⟩:=m _ _ e0;exact⟨_,.inl ⟨_,.of e1,rfl⟩,q _ _ _ x m (by rw[r.isEmpty];exact h)⟩
  | _=>exact (show False from h).elim⟩
theorem HG (hu:X.A.units+66<cLine) (ha:PE X a (lift (X.L rz Xe) ta)) (hb:PE X b (lift (X.L rz Xe) tb)) (hm:behindInMarks op b=false):PT X (.Compare a [op] [b] pos) (Z7 (X.L rz Xe) (Uf (d2 (cOp op) ta tb))) :=
 (EK (op_c hu op) ha hb hm).imp fun σ H Q ⟨δ,M,R,rs,rm,t,q⟩=>B1 ⟨δ,M,_,rs,rm,t,fun d M' v H' x m r ⟨k,e,h⟩=>by
  subst e;(first|cases (show _=_ from r.inv)|cases r);exact⟨k,rfl,q _ _ _ x m h⟩⟩
theorem Id (hu:X.A.units+66<cLine) (ha:PE X a (lift (X.L rz Xe) ta)) (hb:PE X b (lift (X.L rz Xe) tb)) (hm:behindInMarks op b=false):PE X (.Compare a [op] [b] pos) (lift (X.L rz Xe) (d2 (cOp op) ta tb)) :=
 (ET (op_c hu op) ha hb hm).imp fun _ _ _=>B1
noncomputable def VH (f g:D->D->Mem->DK->Prop) (ta tb tc:DE):DE:=fun δ M Q=>ta δ M fun x M1=>tb δ M1 fun y M2=>f x y M2 fun z M3=>∃ k,z=.bl k/\if k=true then tc δ M3 fun w M4=>g y w M4 Q else Q (.bl false) M3
theorem Ug (h:lift Λ (VH f g ta tb tc) σ H Q):JW (Z8 Λ.K f) (Z8 Λ.K g) (lift Λ ta) (lift Λ tb) (lift Λ tc) σ H Q:=by
 obtain⟨δ,M,R,rs,rm,t,q⟩:=h;refine seq2 (R:=fun x y M2=>f x y M2 _) rs rm t fun x y M2 v u H2 x2 m2 r1 r2 t2=>⟨x,y,M2,_,r1,r2,m2,t2,fun d M3 w H3 x3 m3 r3 hq7=>?_⟩;obtain⟨k,e,h⟩:=hq7;subst e;cases r3;refine⟨k,rfl,?_⟩;cases k with
 | true=>exact⟨δ,M3,_,rs.ext (x2.trans x3),m3,h,fun z M4 w4 H4 x4 m4 r4 h4=>⟨y,z,M4,R,(r2.ext x3).ext x4,r4,m4,h4,fun d' M' v' H' x5 m5 r5=>q d' M' v' H' (((x2.trans x3).trans x4).trans x5) m5 r5⟩⟩
 | false=>exact q _ _ _ _ (x2.trans x3) m3 (.bl false) h
theorem Ea (hu:X.A.units+66<cLine) (ha:PE X a (lift (X.L rz Xe) ta)) (hb:PE X b (lift (X.L rz Xe) tb)) (hc:PE X c (lift (X.L rz Xe) tc)) (hm:lastMarks [op,op'] [b,c]=false) :
  PE X (.Compare a [op,op'] [b,c] pos) (lift (X.L rz Xe) (VH (cOp op) (cOp op') ta tb tc)):=(CN (op_c hu op) (op_c hu op') ha hb hc hm).imp fun _ _ _=>Ug
theorem DN (hu:X.A.units+66<cLine) (ha:PE X a (lift (X.L rz Xe) ta)) (hb:PE X b (lift (X.L rz Xe) tb)) (hc:PE X c (lift (X.L rz Xe) tc)) (hm:lastMarks [op,op'] [b,c]=false) :
  PT X (.Compare a [op,op'] [b,c] pos) (Z7 (X.L rz Xe) (Uf (VH (cOp op) (cOp op') ta tb tc))):=by
 refine (Cy (op_c hu op) (op_c hu op') ha hb hc hm).imp ?_;rintro σ H Q ⟨δ,M,R,rs,rm,t,q⟩;exact Ug ⟨δ,M,_,rs,rm,t,fun d M' v H' x m r ⟨k,e,h⟩=>by
  subst e;(first|cases (show _=_ from r.inv)|cases r);exact⟨k,rfl,q _ _ _ x m h⟩⟩
theorem PW.imp {t t':TT} (h:PW X a t) (i:∀ σ H Q,t' σ H Q->t σ H Q):PW X a t':=fun whole pins s σ H Q I q=>h whole pins s σ H Q I (i _ _ _ q)
theorem HD (ha:PT X a (Z7 (X.L rz Xe) tA)) (hb:PW X (.BoolOp .And (b::rest) pos) (Z7 (X.L rz Xe) tB)):PW X (.BoolOp .And (a::b::rest) pos) (Z7 (X.L rz Xe) (dAnd tA tB)) :=
 PW.imp (GJ ha hb) fun σ H Q ⟨δ,M,R,rs,rm,t,q⟩=>⟨δ,M,_,rs,rm,t,fun k M' H' x m h=>by
  cases k with
  | true=>exact⟨δ,M',R,rs.ext x,m,h,fun b M2 H2 x2 m2=>q b M2 H2 (x.trans x2) m2⟩
  | false=>exact q _ _ _ x m h⟩
theorem K3 (ha:PT X a (Z7 (X.L rz Xe) tA)) (hb:PW X (.BoolOp .Or (b::rest) pos) (Z7 (X.L rz Xe) tB)):PW X (.BoolOp .Or (a::b::rest) pos) (Z7 (X.L rz Xe) (dOr tA tB)) :=
 PW.imp (IJ ha hb) fun σ H Q ⟨δ,M,R,rs,rm,t,q⟩=>⟨δ,M,_,rs,rm,t,fun k M' H' x m h=>by
  cases k with
  | false=>exact⟨δ,M',R,rs.ext x,m,h,fun b M2 H2 x2 m2=>q b M2 H2 (x.trans x2) m2⟩
  | true=>exact q _ _ _ x m h⟩
theorem HF (ha:PT X a (Z7 (X.L rz Xe) tA)):PT X (.UnaryOp .Not a pos) (Z7 (X.L rz Xe) (dNot tA)) :=
 (GK ha).imp (by rintro σ H Q ⟨δ,M,R,rs,rm,t,q⟩;exact⟨δ,M,_,rs,rm,t,fun k M' H' x m h=>q _ _ _ x m h⟩)
theorem Ih (ha:PE X a (lift (X.L rz Xe) ta)) (hb:PE X (.BoolOp .And (b::rest) pos) (lift (X.L rz Xe) tb)):PE X (.BoolOp .And (a::b::rest) pos) (lift (X.L rz Xe) (B0 ta tb)) :=
 (Hc ha hb).imp fun σ H Q ⟨δ,M,R,rs,rm,t,q⟩=>⟨δ,M,_,rs,rm,t,fun d M' v H' x m r ⟨k,e,h⟩=>by
  subst e;(first|cases (show _=_ from r.inv)|cases r);refine⟨k,rfl,?_⟩;cases k with
  | true=>exact⟨δ,M',R,rs.ext x,m,h,fun d' M2 v' H2 x2 m2=>q d' M2 v' H2 (x.trans x2) m2⟩
  | false=>exact q _ _ _ _ x m (.bl false) h⟩
theorem K8 (ha:PE X a (lift (X.L rz Xe) ta)) (hb:PE X (.BoolOp .Or (b::rest) pos) (lift (X.L rz Xe) tb)):PE X (.BoolOp .Or (a::b::rest) pos) (lift (X.L rz Xe) (dOrV ta tb)) :=
 (IM ha hb).imp fun σ H Q ⟨δ,M,R,rs,rm,t,q⟩=>⟨δ,M,_,rs,rm,t,fun d M' v H' x m r ⟨k,e,h⟩=>by
  subst e;(first|cases (show _=_ from r.inv)|cases r);refine⟨k,rfl,?_⟩;cases k with
  | false=>exact⟨δ,M',R,rs.ext x,m,h,fun d' M2 v' H2 x2 m2=>q d' M2 v' H2 (x.trans x2) m2⟩
  | true=>exact q _ _ _ _ x m (.bl true) h⟩
noncomputable def Ef (ta:DE):DE:=fun δ M Q=>ta δ M fun x M1=>∃ k,x=.bl k/\Q (.bl (!k)) M1
theorem HY (ha:PE X a (lift (X.L rz Xe) ta)):PE X (.UnaryOp .Not a pos) (lift (X.L rz Xe) (Ef ta)) :=
 (GY ha).imp fun σ H Q ⟨δ,M,R,rs,rm,t,q⟩=>⟨δ,M,_,rs,rm,t,fun d M' v H' x m r ⟨k,e,h⟩=>by
  subst e;(first|cases (show _=_ from r.inv)|cases r);exact⟨k,rfl,q _ _ _ _ x m (.bl _) h⟩⟩
noncomputable def dNeg (ta:DE):DE:=fun δ M Q=>ta δ M fun x M1=>∃ i,x=.int i/\Q (.int (-i)) M1
theorem HZ (ha:PE X a (lift (X.L rz Xe) ta)):PE X (.UnaryOp .USub a pos) (lift (X.L rz Xe) (dNeg ta)) :=
 (IL Gu ha).imp fun σ H Q ⟨δ,M,R,rs,rm,t,q⟩=>⟨δ,M,_,rs,rm,t,fun d M' v H' x m r ⟨k,e,h⟩=>by
  subst e;(first|cases (show _=_ from r.inv)|cases r);exact⟨k,rfl,q _ _ _ _ x m (.int _) h⟩⟩
theorem Ib (hc:PT X c (Z7 (X.L rz Xe) tA)) (ha:PE X a (lift (X.L rz Xe) ta)) (hb:PE X b (lift (X.L rz Xe) tb)):PE X (.IfExp c a b pos) (lift (X.L rz Xe) (dIfE tA ta tb)) :=
 (CM hc ha hb).imp fun σ H Q ⟨δ,M,R,rs,rm,t,q⟩=>⟨δ,M,_,rs,rm,t,fun k M' H' x m h=>by
  cases k with
  | true=>exact⟨δ,M',R,rs.ext x,m,h,fun d' M2 v' H2 x2 m2=>q d' M2 v' H2 (x.trans x2) m2⟩
  | false=>exact⟨δ,M',R,rs.ext x,m,h,fun d' M2 v' H2 x2 m2=>q d' M2 v' H2 (x.trans x2) m2⟩⟩
theorem WA:PA X [] (Zo (X.L rz Xe) dNil):=by
 refine (Hd).imp ?_;rintro σ H Q ⟨δ,M,R,rs,rm,t,q⟩;exact q [] M [] H (.refl H) rm .nil t
theorem Zi (ha:PE X e (lift (X.L rz Xe) ta)) (hr:PA X es (Zo (X.L rz Xe) t)) (hs:starEach (e::es) X.env=(false,eval e X.env)::starEach es X.env):PA X (e::es) (Zo (X.L rz Xe) (YX ta t)) :=
 (EV ha hr hs).imp (by rintro σ H Q ⟨δ,M,R,rs,rm,t,q⟩;exact⟨δ,M,_,rs,rm,t,fun d M' v H' x m r h=>⟨δ,M',_,rs.ext x,m,h,fun ds M2 vs H2 x2 m2 r2 h2=>q _ _ _ _ (x.trans x2) m2 (.cons (r.ext x2) r2) h2⟩⟩)
theorem HX {x1} (h:PA X es (Zo (X.L rz Xe) t)):PE X (.Tuple es x1 pos) (lift (X.L rz Xe) (dTup t)) :=
 (GV h).imp (by rintro σ H Q ⟨δ,M,R,rs,rm,t,q⟩;exact⟨δ,M,_,rs,rm,t,(by rintro ds M' vs H' x m r ⟨hz,h⟩;exact⟨by rw[r.length];exact hz,fun p hp=>q _ _ _ _ (x.trans (.upd (.inl hp))) (m.tup hp) (.tup (.of upd_same) (r.ext (.upd (.inl hp)))) h⟩)⟩)
theorem I0 (h:PA X es (Zo (X.L rz Xe) t)):PE X (.List es pos) (lift (X.L rz Xe) (dLst t)) :=
 (Ha h).imp (by rintro σ H Q ⟨δ,M,R,rs,rm,t,q⟩;exact⟨δ,M,_,rs,rm,t,(by rintro ds M' vs H' x m r ⟨hz,h⟩;exact⟨by rw[r.length];exact hz,fun p hp=>q _ _ _ _ (x.trans (.upd (.inl hp))) (m.lst hp r) (.lst p) (h.at (m.none hp))⟩)⟩)
theorem K9 (ha:PE X a (lift (X.L rz Xe) ta)) (hb:PE X b (lift (X.L rz Xe) tb)) (hs:UX b):PE X (.Subscript a b pos) (lift (X.L rz Xe) (d2 iOp ta tb)):=(IO ix_i ha hb hs).imp fun _ _ _=>B1
abbrev DO:=DSt->Mem->(Option Int->Mem->Prop)->Prop
noncomputable def Jr (Λ:LK) (t:DO):TO:=fun σ H Q=>∃ δ M R,RepS Λ H δ σ/\RepM Λ.K H M/\t δ M R/\∀ o M' H',HExt Λ.K H H'->RepM Λ.K H' M'->R o M'->Q o H'
noncomputable def AY:DO:=fun _ M Q=>Q none M
noncomputable def JH (t:DE):DO:=fun δ M Q=>t δ M fun x M1=>∃ i,x=.int i/\Q (some i) M1
theorem PO.imp {e:Option Expr} {t t':TO} (h:PO X e t) (i:∀ σ H Q,t' σ H Q->t σ H Q):PO X e t':=fun pins s σ H Q I q=>h pins s σ H Q I (i _ _ _ q)
theorem Fw:PO X none (Jr (X.L rz Xe) AY):=PO.imp EO (by rintro σ H Q ⟨δ,M,R,rs,rm,t,q⟩;exact q _ _ _ (.refl H) rm t)
theorem Fv (h:PE X e (lift (X.L rz Xe) ta)):PO X (some e) (Jr (X.L rz Xe) (JH ta)):=PO.imp (EN h) fun σ H Q ⟨δ,M,R,rs,rm,t,q⟩=>⟨δ,M,_,rs,rm,t,fun d M' v H' x m r ⟨i,e,h⟩=>by
  subst e;(first|cases (show _=_ from r.inv)|cases r);exact⟨i,rfl,q _ _ _ x m h⟩⟩
noncomputable def dSl (te:DE) (tl th:DO):DE:=fun δ M Q=>te δ M fun x M1=>tl δ M1 fun l M2=>th δ M2 fun u M3=>sOp x l u M3 Q
theorem K7 {lo hi:Option Expr} {tl th:DO} {p2:Pos} (he:PE X e (lift (X.L rz Xe) ta)) (hl:PO X lo (Jr (X.L rz Xe) tl)) (hu:PO X hi (Jr (X.L rz Xe) th)):PE X (.Subscript e (.Slice lo hi none p2) pos) (lift (X.L rz Xe) (dSl ta tl th)) :=
 (CL sl_s he hl hu).imp fun σ H Q ⟨δ,M,R,rs,rm,t,q⟩=>⟨δ,M,_,rs,rm,t,fun d M1 v H1 x1 m1 r1 h1=>⟨δ,M1,_,rs.ext x1,m1,h1,fun l M2 H2 x2 m2 h2=>⟨δ,M2,_,rs.ext (x1.trans x2),m2,h2,fun u M3 H3 x3 m3 h3 =>
  ⟨d,M3,R,(r1.ext x2).ext x3,m3,h3,fun d' M' v' H' x4 m4 r4=>q d' M' v' H' (((x1.trans x2).trans x3).trans x4) m4 r4⟩⟩⟩⟩
theorem ZJ (h:lift Λ (dCB f t) σ H Q):tCB (Xl Λ.K f) (Zo Λ t) σ H Q:=by
 obtain⟨δ,M,R,rs,rm,t,q⟩:=h;exact⟨δ,M,_,rs,rm,t,fun ds M' vs H' x m r h=>⟨ds,M',R,r,m,h,fun d' M2 v' H2 x2 m2 r2=>q d' M2 v' H2 (x.trans x2) m2 r2⟩⟩
end
end DL
end
noncomputable section
namespace DL
open PySem PySem.Spec PyProof.Rows L2
section
variable {K:Frag} {H:Hp} {M:Mem}
end
noncomputable def keyD:D->Option Key
 | .int i=>some (.inl i)
 | .str x=>some (.inr x)
 | _=>none
noncomputable def LB:DE:=fun _ M Q=>alloc M (.dk []) fun p M'=>Q (.dct p) M'
noncomputable def Lz (tk tv:DE):DE:=fun δ M Q=>∀ p,M p=none->tk δ (M.upd p (.dk [])) fun x M1=>tv δ M1 fun y M2=>M2 p=some (.dk [])/\∃ k,keyD x=some k/\Q (.dct p) (M2.upd p (.dk [(k,y)]))
section
variable {X:Cx} {rz:Bool} {Xe:DSt->DK} {a b:Expr} {ta tb:DE} {pos:Pos}
end
end DL
end
noncomputable section
namespace DL
open PySem PySem.Spec PyProof.Rows L2
section
variable {X:Cx} {a b c d:Expr} {pos:Pos} {ta tb tc td:TE}
noncomputable def Uy (r r' r'':R2) (ta tb tc td:TE):TE:=fun σ H Q=>ta σ H fun x H1=>tb σ H1 fun y H2=>r x y H2 fun z H3=>∃ k,z=.bl k /\
 (if k=true then tc σ H3 fun w' H4=>r' y w' H4 fun z' H5=>∃ k',z'=.bl k'/\(if k'=true then td σ H5 fun v' H6=>r'' w' v' H6 Q else Q (.bl false) H5) else Q (.bl false) H3)
theorem Bk (ho:OpR X (compareOp op) r) (ho':OpR X (compareOp op') r') (ho'':OpR X (compareOp op'') r'') (ha:PE X a ta) (hb:PE X b tb) (hc:PE X c tc) (hd:PE X d td)
  (hm:lastMarks [op,op',op''] [b,c,d]=false):PE X (.Compare a [op,op',op''] [b,c,d] pos) (Uy r r' r'' ta tb tc td):=by
 intro pins s σ H Q I h;refine Compare_chain (thn (ha pins s σ H _ I h) fun v s1 ⟨x,H1,I1,r1,q1⟩=>chain_link (thn (hb pins s1 σ H1 _ I1 q1) fun u s2 ⟨y,H2,I2,r2,q2⟩ =>
  thn (ho pins s2 σ H2 x y v u _ I2 r1 r2 q2) fun d s3 hq2=>?_)) hm
 obtain⟨z,H3,I3,r3,k,e,q3⟩:=hq2;subst e;cases r3;refine wpAny_truthy_bool ?_;cases k with
 | false=>exact ite_ff ⟨.bl false,H3,I3,rfl,q3⟩
 | true =>
  refine ite_tt (chain_link (thn (hc pins s3 σ H3 _ I3 q3) fun w' s4 ⟨z',H4,I4,r4,q4⟩=>thn (ho' pins s4 σ H4 y z' u w' _ I4 r2 r4 q4) fun d' s5 hq5=>?_));obtain⟨z2,H5,I5,r5,k2,e2,q5⟩:=hq5;subst e2;cases r5;refine wpAny_truthy_bool ?_;cases k2 with
  | false=>exact ite_ff ⟨.bl false,H5,I5,rfl,q5⟩
  | true=>exact ite_tt (chain_last (thn (hd pins s5 σ H5 _ I5 q5) (by rintro w2 s6 ⟨z3,H6,I6,r6,q6⟩;exact ho'' pins s6 σ H6 z' z3 w' w2 Q I6 r4 r6 q6)))
theorem Bh (ho:OpR X (compareOp op) r) (ho':OpR X (compareOp op') r') (ho'':OpR X (compareOp op'') r'') (ha:PE X a ta) (hb:PE X b tb) (hc:PE X c tc) (hd:PE X d td)
  (hm:lastMarks [op,op',op''] [b,c,d]=false):PT X (.Compare a [op,op',op''] [b,c,d] pos) (Cd (Uy r r' r'' ta tb tc td)):=by
 intro pins s σ H Q I h;refine isTrue_chain (thn (ha pins s σ H _ I h) fun v s1 ⟨x,H1,I1,r1,q1⟩=>test_link (thn (hb pins s1 σ H1 _ I1 q1) fun u s2 ⟨y,H2,I2,r2,q2⟩ =>
  thn (ho pins s2 σ H2 x y v u _ I2 r1 r2 q2) fun d s3 hq2=>?_)) hm
 obtain⟨z,H3,I3,r3,k,e,q3⟩:=hq2;subst e;cases r3;refine wpAny_truthy_bool ?_;cases k with
 | false =>
  obtain⟨k',e',q'⟩:=q3;cases e';exact ite_ff ⟨H3,I3,q'⟩
 | true =>
  refine ite_tt (test_link (thn (hc pins s3 σ H3 _ I3 q3) fun w' s4 ⟨z',H4,I4,r4,q4⟩=>thn (ho' pins s4 σ H4 y z' u w' _ I4 r2 r4 q4) fun d' s5 hq5=>?_));obtain⟨z2,H5,I5,r5,k2,e2,q5⟩:=hq5;subst e2;cases r5;refine wpAny_truthy_bool ?_;cases k2 with
  | false =>
   obtain⟨k',e',q'⟩:=q5;cases e';exact ite_ff ⟨H5,I5,q'⟩
  | true =>
   refine ite_tt (test_last (thn (hd pins s5 σ H5 _ I5 q5) fun w2 s6 ⟨z3,H6,I6,r6,q6⟩=>thn (ho'' pins s6 σ H6 z' z3 w' w2 _ I6 r4 r6 q6) fun d' s7 hq7=>?_));obtain⟨z4,H7,I7,r7,k4,e4,q7⟩:=hq7;subst e4;cases r7;exact wpAny_truthy_bool ⟨H7,I7,q7⟩
end
section
variable {X:Cx} {rz:Bool} {Xe:DSt->DK} {a b c d:Expr} {pos:Pos} {ta tb tc td:DE}
noncomputable def XF (f g h:D->D->Mem->DK->Prop) (ta tb tc td:DE):DE:=fun δ M Q=>ta δ M fun x M1=>tb δ M1 fun y M2=>f x y M2 fun z M3=>∃ k,z=.bl k/\if k=true then (tc δ M3 fun w M4=>g y w M4 fun z' M5=>∃ k',z'=.bl k'/\if k'=true then (td δ M5 fun v M6=>h w v M6 Q) else Q (.bl false) M5) else Q (.bl false) M3
theorem VG (hh:lift Λ (XF f g h ta tb tc td) σ H Q):Uy (Z8 Λ.K f) (Z8 Λ.K g) (Z8 Λ.K h) (lift Λ ta) (lift Λ tb) (lift Λ tc) (lift Λ td) σ H Q:=by
 obtain⟨δ,M,R,rs,rm,t,q⟩:=hh;refine seq2 (R:=fun x y M2=>f x y M2 _) rs rm t fun x y M2 v u H2 x2 m2 r1 r2 t2=>⟨x,y,M2,_,r1,r2,m2,t2,fun d M3 w H3 x3 m3 r3 hq7=>?_⟩;obtain⟨k,e,h'⟩:=hq7;subst e;cases r3;refine⟨k,rfl,?_⟩;cases k with
 | true =>
  refine⟨δ,M3,_,rs.ext (x2.trans x3),m3,h',fun z M4 w4 H4 x4 m4 r4 h4=>⟨y,z,M4,_,(r2.ext x3).ext x4,r4,m4,h4,fun d' M' v' H' x5 m5 r5 hq8=>?_⟩⟩;obtain⟨k',e',h''⟩:=hq8;subst e';cases r5;refine⟨k',rfl,?_⟩;cases k' with
  | true =>
   exact⟨δ,M',_,rs.ext (((x2.trans x3).trans x4).trans x5),m5,h'',fun z3 M6 w6 H6 x6 m6 r6 h6=>⟨z,z3,M6,R,(r4.ext x5).ext x6,r6,m6,h6,fun d2 M2' v2 H2' x7 m7 r7=>q d2 M2' v2 H2' (((((x2.trans x3).trans x4).trans x5).trans x6).trans x7) m7 r7⟩⟩
  | false=>exact q _ _ _ _ (((x2.trans x3).trans x4).trans x5) m5 (.bl false) h''
 | false=>exact q _ _ _ _ (x2.trans x3) m3 (.bl false) h'
theorem BH (hu:X.A.units+66<cLine) (ha:PE X a (lift (X.L rz Xe) ta)) (hb:PE X b (lift (X.L rz Xe) tb)) (hc:PE X c (lift (X.L rz Xe) tc)) (hd:PE X d (lift (X.L rz Xe) td)) (hm:lastMarks [op,op',op''] [b,c,d]=false) :
  PE X (.Compare a [op,op',op''] [b,c,d] pos) (lift (X.L rz Xe) (XF (cOp op) (cOp op') (cOp op'') ta tb tc td)):=(Bk (op_c hu op) (op_c hu op') (op_c hu op'') ha hb hc hd hm).imp fun _ _ _=>VG
theorem BF (hu:X.A.units+66<cLine) (ha:PE X a (lift (X.L rz Xe) ta)) (hb:PE X b (lift (X.L rz Xe) tb)) (hc:PE X c (lift (X.L rz Xe) tc)) (hd:PE X d (lift (X.L rz Xe) td)) (hm:lastMarks [op,op',op''] [b,c,d]=false) :
  PT X (.Compare a [op,op',op''] [b,c,d] pos) (Z7 (X.L rz Xe) (Uf (XF (cOp op) (cOp op') (cOp op'') ta tb tc td))):=by
 refine (Bh (op_c hu op) (op_c hu op') (op_c hu op'') ha hb hc hd hm).imp ?_;rintro σ H Q ⟨δ,M,R,rs,rm,t,q⟩;exact VG ⟨δ,M,_,rs,rm,t,fun d M' v H' x m r ⟨k,e,h⟩=>by
  subst e;(first|cases (show _=_ from r.inv)|cases r);exact⟨k,rfl,q _ _ _ x m h⟩⟩
end
section
variable {X:Cx} {pins:List (Addr×Obj)} {s:Shared} {σ:L2.St} {H:Hp} {M:Mem}
end
section
variable {X:Cx} {rz:Bool} {Xe:DSt->DK} {a b:Expr} {ta tb:DE} {pos:Pos}
end
end DL
end
noncomputable section
namespace HT
open PySem PySem.Spec PyProof.Rows
section
variable {prog:Program} {w:World} {A:Around} {E:Value->Shared->Prop} {s:Shared}
end
end HT
namespace DL
open PySem PySem.Spec PyProof.Rows L2
section
variable {X:Cx} {rz:Bool} {Xe:DSt->DK} {e st:Expr} {ta ts:DE} {pos p2:Pos}
noncomputable def Yp (d:D) (l:Option Int) (M:Mem) (Q:DK):Prop:=l=some (-1)/\match d with | .tup xs=>Q (.tup xs.reverse) M | .lst a=>∃ xs,M a=some (.ls xs)/\alloc M (.ls xs.reverse) fun p M'=>Q (.lst p) M' | _=>False
noncomputable def dRev (te:DE) (tl:DO):DE:=fun δ M Q=>te δ M fun x M1=>tl δ M1 fun l M2=>Yp x l M2 Q
end
end DL
end
noncomputable section
namespace PySem
open PyProof.Rows
namespace F
end F
section
variable {prog:Program} {w:World} {A:Around} {E:Value->Shared->Prop} {s:Shared}
end
section
variable {prog:Program} {w:World} {A:Around} {s:Shared} {R:Result->Shared->Prop}
variable {I l:Addr} {items:Array Value}
end
section
variable {prog:Program} {w:World} {A:Around} {E:Value->Shared->Prop} {s:Shared}
variable {I l:Addr} {items:Array Value}
end
end PySem
namespace DL
open PySem PySem.Spec PyProof.Rows L2
section
variable {X:Cx} {e:Expr} {t:TA} {p p2 pos pos2:Pos}
end
end DL
namespace DL
open PySem PySem.Spec PyProof.Rows L2
section
variable {X:Cx} {rz:Bool} {Xe:DSt->DK} {e:Expr} {t:DA} {p p2 pos pos2:Pos}
end
end DL
end
noncomputable section
namespace DL
open PySem PySem.Spec PyProof.Rows L2
noncomputable def AZ:DS:=fun D δ M=>D.nx δ M
noncomputable def dSeq (t u:DS):DS:=fun D δ M=>t {D with nx:=u D} δ M
noncomputable def KC:DS:=fun D δ M=>D.bk δ M
noncomputable def LC:DS:=fun D δ M=>D.ct δ M
noncomputable def Gk (te:(DSt->DK)->DE):DS:=fun D δ M=>te D.ex δ M fun _ M1=>D.nx δ M1
noncomputable def dRet (te:(DSt->DK)->DE):DS:=fun D δ M=>te D.ex δ M D.rt
noncomputable def Ly:DS:=fun D _ M=>D.rt .non M
noncomputable def dIfS (c:(DSt->DK)->DT) (t u:DS):DS:=fun D δ M=>c D.ex δ M fun b M1=>if b=true then t D δ M1 else u D δ M1
noncomputable def Eg:DS:=fun _ _ _=>False
abbrev DG:=D->DSt->Mem->(DSt->Mem->Prop)->Prop
abbrev DGs:=List D->DSt->Mem->(DSt->Mem->Prop)->Prop
noncomputable def Zl (Λ:LK) (g:DG):TG:=fun v σ H Q=>∃ d δ M R,RelD Λ.K H v d/\RepS Λ H δ σ/\RepM Λ.K H M/\g d δ M R/\∀ δ' M' σ' H',HExt Λ.K H H'->RepS Λ H' δ' σ'->RepM Λ.K H' M'->R δ' M'->Q σ' H'
noncomputable def Vx (Λ:LK) (g:DGs):TGs:=fun vs σ H Q=>∃ ds δ M R,RelDs Λ.K H vs ds/\RepS Λ H δ σ/\RepM Λ.K H M/\g ds δ M R/\∀ δ' M' σ' H',HExt Λ.K H H'->RepS Λ H' δ' σ'->RepM Λ.K H' M'->R δ' M'->Q σ' H'
noncomputable def ZE (i:Nat):DG:=fun d δ M Q=>Q (δ.set i (some d)) M
noncomputable def AR:DGs:=fun ds δ M Q=>ds=[]/\Q δ M
noncomputable def UO (t:DG) (u:DGs):DGs:=fun ds δ M Q=>∃ d r,ds=d::r/\t d δ M fun δ' M'=>u r δ' M' Q
noncomputable def Yn (n:Nat) (t:DGs):DG:=fun d δ M Q=>∃ ds,d=.tup ds/\ds.length=n/\t ds δ M Q
noncomputable def Gh (to ti:DE):DG:=fun v δ M Q=>to δ M fun o M1=>ti δ M1 fun i M2=>∃ a k xs j,o=.lst a/\i=.int k/\M2 a=some (.ls xs)/\ixN xs.length k=some j/\Q δ (M2.upd a (.ls (xs.set j v)))
noncomputable def dAsg (te:(DSt->DK)->DE) (g:(DSt->DK)->DG):DS:=fun D δ M=>te D.ex δ M fun x M1=>g D.ex x δ M1 D.nx
noncomputable def dPar (i j:Nat) (ta:(DSt->DK)->DA):DS:=fun D δ M=>ta D.ex δ M fun ds M1=>∃ v w,ds=[v,w]/\D.nx ((δ.set i (some v)).set j (some w)) M1
noncomputable def dTwo (te:(DSt->DK)->DE) (g h:(DSt->DK)->DG):DS:=fun D δ M=>te D.ex δ M fun x M1=>g D.ex x δ M1 fun δ2 M2=>h D.ex x δ2 M2 D.nx
noncomputable def dAug (i:Nat) (te:(DSt->DK)->DE) (f:Int->Int->Int):DS:=fun D δ M=>∃ x,δ[i]?=some (some (.int x))/\te D.ex δ M fun y M1=>∃ j,y=.int j/\D.nx (δ.set i (some (.int (f x j)))) M1
noncomputable def Ao (c:(DSt->DK)->DT) (tb:DS):DS:=fun D δ M=>∃ W:Nat->DSt->Mem->Prop,(∃ m,W m δ M)/\∀ m δ M,W m δ M ->
 c D.ex δ M fun b M1=>if b=true then ∃ N:DSt->Mem->Prop,(∀ δ' M',N δ' M'->∃ m',m'<m/\W m' δ' M')/\tb {D with nx:=N,ct:=N,bk:=D.nx} δ M1 else D.nx δ M1
section
variable {X:Cx} {rz:Bool} {Xe:DSt->DK} {st:Stmt} {rest:List Stmt} {t u:DS} {e tg:Expr} {es:List Expr} {te:DE} {g:DG} {gs:DGs} {pos:Pos}
theorem Fr:PSs X [] (YE X rz AZ):=by
 refine pss_nil.imp ?_;rintro E σ H ⟨δ,M,D,rs,rm,t,n,r,b,c⟩;exact n δ M σ H (.refl H) rs rm t
theorem FD (h:YE X rz (dSeq t u) E σ H):tSeq (YE X rz t) (YE X rz u) E σ H:=by
 obtain⟨δ,M,D,rs,rm,t,n,r,b,c⟩:=h;exact⟨δ,M,{D with nx:=u D},rs,rm,t,fun δ' M' σ' H' x rs' rm' h=>⟨δ',M',D,rs',rm',h,fun a b c d x2=>n a b c d (x.trans x2),fun a b c d x2=>r a b c d (x.trans x2),fun p q s t x2=>b p q s t (x.trans x2),fun p q s t x2=>c p q s t (x.trans x2)⟩,r,b,c⟩
theorem DP (h1:PS X st (YE X rz t)) (h2:PSs X rest (YE X rz u)):PSs X (st::rest) (YE X rz (dSeq t u)):=(Cz h1 h2).imp fun _ _ _=>FD
theorem DV:PS X st (YE X rz Eg):=by
 refine ps_never.imp ?_;rintro E σ H ⟨δ,M,D,rs,rm,t,_⟩;exact t
theorem Fu {te:(DSt->DK)->DE} (he:∀ Xe,PE X e (lift (X.L rz Xe) (te Xe))) (hs:swapsWith e none pos.line X.env=pure false):PS X (.Expr e pos) (YE X rz (Gk te)):=by
 rintro pins s σ H E I ⟨δ,M,D,rs,rm,t,n,r,b,c⟩;exact (EM (he D.ex) hs) pins s σ H E I <| ⟨δ,M,_,rs,rm,t,fun d M' v H' x m _ h=>n δ M' σ H' x (rs.ext x) m h⟩
theorem HI {te:(DSt->DK)->DE} (he:∀ Xe,PE X e (lift (X.L rz Xe) (te Xe))):PS X (.Return (some e) pos) (YE X rz (dRet te)):=by
 rintro pins s σ H E I ⟨δ,M,D,rs,rm,t,n,r,b,c⟩;exact (GM (he D.ex)) pins s σ H E I <| ⟨δ,M,_,rs,rm,t,fun d M' v H' x m q h=>r d M' v H' x m q h⟩
theorem K4 (hc:∀ Xe,PT X c (Z7 (X.L rz Xe) (tc Xe))) (ha:PSs X a (YE X rz t)) (hb:PSs X b (YE X rz u)):PS X (.If c a b pos) (YE X rz (dIfS tc t u)):=by
 rintro pins s σ H E I ⟨δ,M,D,rs,rm,t,n,r,b,c⟩;exact (IK (hc D.ex) ha hb) pins s σ H E I <| ⟨δ,M,_,rs,rm,t,fun k M' H' x m h=>by
  cases k with
  | true=>exact⟨δ,M',D,rs.ext x,m,h,fun a b c d x2=>n a b c d (x.trans x2),fun a b c d x2=>r a b c d (x.trans x2),fun p q s t x2=>b p q s t (x.trans x2),fun p q s t x2=>c p q s t (x.trans x2)⟩
  | false=>exact⟨δ,M',D,rs.ext x,m,h,fun a b c d x2=>n a b c d (x.trans x2),fun a b c d x2=>r a b c d (x.trans x2),fun p q s t x2=>b p q s t (x.trans x2),fun p q s t x2=>c p q s t (x.trans x2)⟩⟩
theorem _root_.L2.PG.imp {t t':TG} (h:PG X tg t) (i:∀ v σ H Q,t' v σ H Q->t v σ H Q):PG X tg t':=fun pins s σ H v u Q I r q=>h pins s σ H v u Q I r (i _ _ _ _ q)
theorem _root_.L2.PGs.imp {t t':TGs} (h:PGs X es t) (i:∀ v σ H Q,t' v σ H Q->t v σ H Q):PGs X es t':=fun pins s σ H v u Q I r q=>h pins s σ H v u Q I r (i _ _ _ _ q)
theorem Fz {i:Nat} {x:Str} (hN:X.N.Nodup) (hi:X.N[i]?=some x) (hx:Loc X.env.scope x) (hf:X.fn x=true\/X.env.scope.names.lookup x=some .local):PG X (.Name x pos) (Zl (X.L rz Xe) (ZE i)) :=
 (EQ hN hi hx hf).imp (by rintro v σ H Q ⟨d,δ,M,R,r,rs,rm,h,q⟩;exact q _ _ _ _ (.refl H) (rs.set r i) rm h)
theorem Fy:PGs X [] (Vx (X.L rz Xe) AR):=by
 refine pgs_nil.imp ?_;rintro v σ H Q ⟨d,δ,M,R,r,rs,rm,h,q⟩;obtain⟨e,h⟩:=h;subst e;(first|cases (show _=_ from r.inv)|cases r);exact⟨rfl,q _ _ _ _ (.refl H) rs rm h⟩
theorem DY (h1:PG X tg (Zl (X.L rz Xe) g)) (h2:PGs X es (Vx (X.L rz Xe) gs)) (hs:(assignEach (tg::es) X.env).map (·.2)=assign tg X.env::(assignEach es X.env).map (·.2)):PGs X (tg::es) (Vx (X.L rz Xe) (UO g gs)) :=
 (CJ h1 h2 hs).imp fun v σ H Q ⟨d,δ,M,R,r,rs,rm,h,q⟩=>by
  obtain⟨d,ds,e,h⟩:=h;subst e;cases r with
  | cons ra rr=>exact⟨_,_,rfl,d,δ,M,_,ra,rs,rm,h,fun δ' M' σ' H' x rs' rm' h'=>⟨ds,δ',M',R,rr.ext x,rs',rm',h',fun a b c d x2=>q a b c d (x.trans x2)⟩⟩
theorem HS {k n:Nat} (hc:X.calm=true) (h:PGs X es (Vx (X.L rz Xe) gs)) (hn:(assignEach es X.env).length=n) (hst:(assignEach es X.env).findIdx? (·.1)=none):PG X (.Tuple es k pos) (Zl (X.L rz Xe) (Yn n gs)) :=
 (GT hc h hn hst).imp fun v σ H Q ⟨d,δ,M,R,r,rs,rm,h,q⟩=>by
  obtain⟨ds,e,hl,h⟩:=h;subst e;obtain⟨_,_,rfl,ht,rr⟩:=r.inv;exact⟨_,_,rfl,ht,by rw[rr.length];exact hl,ds,δ,M,R,rr,rs,rm,h,q⟩
theorem HU {o i:Expr} {to ti:DE} (ho:PE X o (lift (X.L rz Xe) to)) (hi:PE X i (lift (X.L rz Xe) ti))
  (ha:∀ v,assign (.Subscript o i pos) X.env v=(do
   let ov <- holding [v] (eval o X.env)
   let iv <- holding [v,ov] (eval i X.env)
   standAt pos
   holding [v,ov,iv] (setItem ov iv v)
   release [v,ov,iv] [])):PG X (.Subscript o i pos) (Zl (X.L rz Xe) (Gh to ti)) :=
 (GU ho hi Cj ha).imp fun v σ H Q ⟨d,δ,M,R,r,rs,rm,h,q⟩=>seq2 rs rm h fun x y M2 w u H2 x2 m2 r1 r2 ⟨a,k,xs,j,e1,e2,e3,e4,h2⟩=>by
  subst e1;subst e2;(first|cases (show _=_ from r1.inv)|cases r1);(first|cases (show _=_ from r2.inv)|cases r2);obtain⟨vs,ev,rv⟩:=m2 _ _ e3;exact⟨a,vs,k,j,rfl,rfl,ev,by rw[rv.length];exact e4,q _ _ _ _ (x2.trans (.upd (.inr ⟨_,ev,trivial⟩))) (rs.ext (x2.trans (.upd (.inr ⟨_,ev,trivial⟩)))) (m2.write ev (rv.set (r.ext x2) j)) h2⟩
theorem HL {te:(DSt->DK)->DE} {g:(DSt->DK)->DG} (he:∀ Xe,PE X e (lift (X.L rz Xe) (te Xe))) (hg:∀ Xe,PG X tg (Zl (X.L rz Xe) (g Xe))) (hs:swapsWithSole [tg] e pos.line X.env=pure false) (hw:swappedStores [tg] e X.env=pure none)
  (h1:(assignEach [tg] X.env).map (·.2)=[assign tg X.env]):PS X (.Assign [tg] e pos) (YE X rz (dAsg te g)) :=
 (by rintro pins s σ H E I ⟨δ,M,D,rs,rm,t,n,r,b,c⟩;exact (GQ (he D.ex) (hg D.ex) hs hw h1) pins s σ H E I <| ⟨δ,M,_,rs,rm,t,fun d M' v H' x m q h=>⟨d,δ,M',_,q,rs.ext x,m,h,fun a b c d x2=>n a b c d (x.trans x2)⟩⟩)
theorem HH {te:(DSt->DK)->DE} {g:(DSt->DK)->DG} {tg2:Expr} {g2:(DSt->DK)->DG} (he:∀ Xe,PE X e (lift (X.L rz Xe) (te Xe))) (hg:∀ Xe,PG X tg (Zl (X.L rz Xe) (g Xe))) (hg2:∀ Xe,PG X tg2 (Zl (X.L rz Xe) (g2 Xe))) (h1:(assignEach [tg,tg2] X.env).map (·.2)=[assign tg X.env,assign tg2 X.env]) (hw:swappedStores [tg,tg2] e X.env=pure none) :
  PS X (.Assign [tg,tg2] e pos) (YE X rz (dTwo te g g2)):=by
 rintro pins s σ H E I ⟨δ,M,D,rs,rm,t,n,r,b,c⟩;refine wpAny_Assign_two (thn (he D.ex pins s σ H (fun v H1=>∃ d M1,HExt X.K H H1/\RepM X.K H1 M1/\RelD X.K H1 v d/\g D.ex d δ M1 fun δ2 M2=>g2 D.ex d δ2 M2 D.nx) I ⟨δ,M,_,rs,rm,t,fun d M' v H' x m q h=>⟨d,M',x,m,q,h⟩⟩) fun v s1 hq2=>?_) h1 hw;obtain⟨y,H1,I1,r1,d,M1,x1,m1,q1,h1'⟩:=hq2;refine thn (hg D.ex pins s1 σ H1 y v (fun σ2 H2=>∃ δ2 M2,HExt X.K H1 H2/\RepS (X.L rz D.ex) H2 δ2 σ2/\RepM X.K H2 M2/\g2 D.ex d δ2 M2 D.nx) I1 r1 ⟨d,δ,M1,_,q1,rs.ext x1,m1,h1',fun δ' M' σ' H' y1 y2 y3 y4=>⟨δ',M',y1,y2,y3,y4⟩⟩) fun _ s2 hq2=>?_;obtain⟨σ2,H2,I2,δ2,M2,x2,rs2,m2,h2⟩:=hq2;exact hg2 D.ex pins s2 σ2 H2 y v _ I2 r1 ⟨d,δ2,M2,_,q1.ext x2,rs2,m2,h2,fun a b c d y1=>n a b c d ((x1.trans x2).trans y1)⟩
theorem DW {te:(DSt->DK)->DE} {i:Nat} {x:Str} {op:Operator} {f:Int->Int->Int} {pos':Pos} (hN:X.N.Nodup) (hi:X.N[i]?=some x) (hx:Loc X.env.scope x) (he:∀ Xe,PE X e (lift (X.L rz Xe) (te Xe))) (ho:PIp X op (ipI f)) (hf:X.fn x=true\/X.env.scope.names.lookup x=some .local) :
  PS X (.AugAssign (.Name x pos') op e pos) (YE X rz (dAug i te f)):=by
 rintro pins s σ H E I ⟨δ,M,D,rs,rm,⟨z,ez,t⟩,n,r,b,c⟩;exact (GP hN hi hx (he D.ex) ho hf) pins s σ H E I <| by
  obtain⟨v,ev,rv⟩:=rs.slot i _ ez;cases rv;exact⟨_,ev,δ,M,_,rs,rm,t,fun d M' v H' x m q ⟨j,e,h⟩=>by
   subst e;cases q;exact⟨_,_,rfl,rfl,n _ _ _ _ x ((rs.ext x).set (.int _) i) m h⟩⟩
theorem DR {te:(DSt->DK)->DE} {i:Nat} {x:Str} {pos':Pos} (hN:X.N.Nodup) (hi:X.N[i]?=some x) (hx:Loc X.env.scope x) (he:∀ Xe,PE X e (lift (X.L rz Xe) (te Xe))) (hs:swapsWith e (some (.Name x pos')) pos.line X.env=pure false) (hf:X.fn x=true\/X.env.scope.names.lookup x=some .local) :
  PS X (.Assign [.Name x pos'] e pos) (YE X rz (dAsg te fun _=>ZE i)):=by
 rintro pins s σ H E I ⟨δ,M,D,rs,rm,t,n,r,b,c⟩;exact (GL hN hi hx (he D.ex) hs hf) pins s σ H E I <| ⟨δ,M,_,rs,rm,t,fun d M' v H' x m q h=>n _ _ _ _ x ((rs.ext x).set q i) m h⟩
theorem HJ {kt k2 pt2} (hc:X.calm=true) (hN:X.N.Nodup) (hi:X.N[i]?=some x) (hj:X.N[j]?=some y) (hij:i≠j)
  (hx:X.env.scope.names.lookup x=some .local) (hy:X.env.scope.names.lookup y=some .local) (ha:∀ Xe,PA X [a,b] (Zo (X.L rz Xe) (ta Xe)))
  (hw:swappedStores [.Tuple [.Name x px,.Name y py] kt pt] (.Tuple [a,b] k2 pt2) X.env=pure (some [x,y]))
  (hs:swapsWithSole [.Tuple [.Name x px,.Name y py] kt pt] (.Tuple [a,b] k2 pt2) pos.line X.env=pure false) :
  PS X (.Assign [.Tuple [.Name x px,.Name y py] kt pt] (.Tuple [a,b] k2 pt2) pos) (YE X rz (dPar i j ta)):=by
 rintro pins s σ H E I ⟨δ,M,D,rs,rm,t,n,r,b,c⟩;exact (GN hc hN hi hj hij hx hy (ha D.ex) hw hs) pins s σ H E I <| ⟨δ,M,_,rs,rm,t,fun ds M' vs H' x m q ⟨v,w,e,h⟩=>by
  subst e;obtain⟨v',w',rfl,r1,r2⟩:=q.two;exact⟨v',w',rfl,n _ _ _ _ x (((rs.ext x).set r1 i).set r2 j) m h⟩⟩
theorem DQ (hp:PassesOwn (model X.prog X.w) X.A X.env X.xe) (hc:∀ Xe,PT X c (Z7 (X.L rz Xe) (tc Xe))) (hb:PSs X body (YE X rz tb)):PS X (.While c body [] pos) (YE X rz (Ao tc tb)) :=
 fun pins s σ H E I ⟨δ,M,D,rs,rm,⟨W,⟨m0,w0⟩,turn⟩,n,r,b,c⟩=>(CA hp (hc D.ex) hb) pins s σ H E I <| by
  refine⟨fun m σ' H'=>∃ δ' M',HExt X.K H H'/\RepS (X.L rz D.ex) H' δ' σ'/\RepM X.K H' M'/\W m δ' M',⟨m0,δ,M,.refl H,rs,rm,w0⟩,?_⟩;rintro m σ1 H1 ⟨δ1,M1,x1,rs1,rm1,w1⟩;refine⟨δ1,M1,_,rs1,rm1,turn m δ1 M1 w1,fun k M2 H2 x2 m2 h=>?_⟩;cases k with
  | true =>
   obtain⟨N,hN,h⟩:=h;refine⟨fun σ' H'=>∃ δ' M',HExt X.K H H'/\RepS (X.L rz D.ex) H' δ' σ'/\RepM X.K H' M'/\N δ' M',fun σ' H' ⟨δ',M',y1,y2,y3,y4⟩=>?_,?_⟩
   ·obtain⟨m',l,w'⟩:=hN δ' M' y4
    exact⟨m',l,δ',M',y1,y2,y3,w'⟩
   ·exact⟨δ1,M2,{D with nx:=N,ct:=N,bk:=D.nx},rs1.ext x2,m2,h,fun δ' M' σ' H' y1 y2 y3 y4=>⟨δ',M',(x1.trans x2).trans y1,y2,y3,y4⟩,fun a b c d y1=>r a b c d ((x1.trans x2).trans y1),fun δ' M' σ' H' y1 y2 y3 y4=>n _ _ _ _ ((x1.trans x2).trans y1) y2 y3 y4,fun δ' M' σ' H' y1 y2 y3 y4=>⟨δ',M',(x1.trans x2).trans y1,y2,y3,y4⟩⟩
  | false=>exact n _ _ _ _ (x1.trans x2) (rs1.ext x2) m2 h
end
abbrev DI:=DSt->Mem->(List D->(Mem->Prop)->Mem->Prop)->Prop
noncomputable def ItD (K:Frag) (H0:Hp) (J:It) (items:List D) (keep:Mem->Prop):Prop:=∀ i H M,HExt K H0 H->RepM K H M->keep M ->
 (i<items.length->J.go i H)/\(items.length<=i->J.stop i H)/\∀ x H',J.yld i H x H'->HExt K H H'/\RepM K H' M/\∀ d,items[i]?=some d->RelD K H' x d
noncomputable def X1 (Λ:LK) (t:DI):TI:=fun σ H R=>∃ δ M Rd,RepS Λ H δ σ/\RepM Λ.K H M/\t δ M Rd/\∀ items keep M' J H',HExt Λ.K H H'->RepM Λ.K H' M'->keep M'->ItD Λ.K H' J items keep->Rd items keep M'->R J H'
noncomputable def forD (g:(DSt->DK)->DG) (tb:DS) (keep:Mem->Prop):List D->DS
 | []=>fun D δ M=>D.nx δ M
 | x::xs=>fun D δ M=>g D.ex x δ M fun δ1 M1=>tb {D with nx:=fun δ2 M2=>keep M2/\forD g tb keep xs D δ2 M2,ct:=fun δ2 M2=>keep M2/\forD g tb keep xs D δ2 M2,bk:=D.nx} δ1 M1
noncomputable def dFor (ti:(DSt->DK)->DI) (g:(DSt->DK)->DG) (tb:DS):DS:=fun D δ M=>ti D.ex δ M fun items keep M1=>forD g tb keep items D δ M1
section
variable {X:Cx} {rz:Bool} {Xe:DSt->DK} {tg:Expr} {pos:Pos}
theorem HK (hp:PassesOwn (model X.prog X.w) X.A X.env X.xe) (hc:X.calm=true) (hi:∀ Xe,PI X tg iter (X1 (X.L rz Xe) (ti Xe))) (hg:∀ Xe,PG X tg (Zl (X.L rz Xe) (g Xe))) (hb:PSs X body (YE X rz tb))
  (hs:∀ x,foldedSetIterable iter X.env x=pure x):PS X (.For tg iter body [] pos) (YE X rz (dFor ti g tb)) :=
 fun pins s σ H E I ⟨δ,M,D,rs,rm,t,n,r,b,c⟩=>(GO hp hc (hi D.ex) (hg D.ex) hb hs) pins s σ H E I <| by
  refine⟨δ,M,_,rs,rm,t,fun items keep M1 J H1 x1 m1 k1 it h1=>?_⟩;refine⟨fun i m σ' H'=>m=items.length-i/\i<=items.length/\∃ δ' M',HExt X.K H1 H'/\RepS (X.L rz D.ex) H' δ' σ'/\RepM X.K H' M'/\keep M'/\forD g tb keep (items.drop i) D δ' M',⟨_,rfl,Nat.zero_le _,δ,M1,.refl H1,rs.ext x1,m1,k1,h1⟩,?_⟩;rintro i m σ2 H2 ⟨rfl,hi,δ2,M2,x2,rs2,m2,k2,h2⟩;obtain⟨i1,i2,i3⟩:=it i H2 M2 x2 m2 k2;by_cases hl:i<items.length
  ·refine .inr ⟨i1 hl,fun σ' H'=>∃ δ' M',HExt X.K H1 H'/\RepS (X.L rz D.ex) H' δ' σ'/\RepM X.K H' M'/\keep M'/\forD g tb keep (items.drop (i+1)) D δ' M',fun σ' H' z=>⟨items.length-(i+1),by omega,rfl,hl,z⟩,fun x H3 y=>?_⟩
   obtain⟨x3,m3,r3⟩:=i3 x H3 y;rw[List.drop_eq_getElem_cons hl] at h2;refine⟨items[i],δ2,M2,_,r3 _ (by simp[hl]),rs2.ext x3,m3,h2,fun δ4 M4 σ4 H4 x4 rs4 m4 h4=>?_⟩;have xx:=(x2.trans x3).trans x4;exact⟨δ4,M4,{D with nx:=fun δ2 M2=>keep M2/\forD g tb keep (items.drop (i+1)) D δ2 M2,ct:=fun δ2 M2=>keep M2/\forD g tb keep (items.drop (i+1)) D δ2 M2,bk:=D.nx},rs4,m4,h4,fun δ' M' σ' H' y1 y2 y3 y4=>⟨δ',M',xx.trans y1,y2,y3,y4.1,y4.2⟩,fun a b c d y1=>r a b c d ((x1.trans xx).trans y1),fun δ' M' σ' H' y1 y2 y3 y4=>n _ _ _ _ ((x1.trans xx).trans y1) y2 y3 y4,fun δ' M' σ' H' y1 y2 y3 y4=>⟨δ',M',xx.trans y1,y2,y3,y4.1,y4.2⟩⟩
  ·have e:i=items.length:=by omega
   subst e;rw[List.drop_length] at h2;exact .inl ⟨i2 %[|3],n _ _ _ _ (x1.trans x2) rs2 m2 h2⟩
noncomputable def Yi (d:D) (M:Mem) (R:List D->(Mem->Prop)->Mem->Prop):Prop :=
 match d with
 | .lst a=>∃ xs,M a=some (.ls xs)/\R xs (fun M'=>M' a=some (.ls xs)) M
 | .fz xs=>R xs (fun _=>True) M
 | .tup xs=>R xs (fun _=>True) M
 | _=>False
noncomputable def Yl (te:DE):DI:=fun δ M R=>te δ M fun d M1=>Yi d M1 R
theorem Do {K:Frag} {H0:Hp} {a:Addr} {xs:List D}:ItD K H0 (Itl K a) xs (fun M'=>M' a=some (.ls xs)):=fun i H M x m k=>by
 obtain⟨vs,e,r⟩:=m _ _ k;refine⟨fun hl=>⟨vs,vs[i]'(by rw[r.length];exact hl),.of e,by simp[r.length,hl]⟩,fun hl=>⟨vs,.of e,by rw[r.length];exact hl⟩,fun y H' hq2=>?_⟩;obtain⟨e1,e2⟩:=hq2;subst e1;refine⟨.refl _,m,fun d hd=>?_⟩;obtain⟨v,h1,h2⟩:=r.get hd;rw[e2 vs (.of e)] at h1;cases h1;exact h2
theorem Hz {K:Frag} {H0:Hp} {a:Addr} {vs:List V} {xs:List D} (ht:SqF K H0 a vs) (r:RelDs K H0 vs xs):ItD K H0 (Itl K a) xs (fun _=>True):=fun i H M x m k=>by
 have ht':=x.fz _ _ ht;have r':=r.ext x;refine⟨fun hl=>⟨vs,vs[i]'(by rw[r.length];exact hl),ht'.sq,by simp[r.length,hl]⟩,fun hl=>⟨vs,ht'.sq,by rw[r.length];exact hl⟩,fun y H' hq2=>?_⟩;obtain⟨e1,e2⟩:=hq2;subst e1;refine⟨.refl _,m,fun d hd=>?_⟩;obtain⟨v,h1,h2⟩:=r'.get hd;rw[e2 vs ht'.sq] at h1;cases h1;exact h2
theorem Fk {K:Frag} {H0:Hp} {a:Addr} {vs:List V} {xs:List D} (ht:SqT K H0 a vs) (r:RelDs K H0 vs xs):ItD K H0 (Itt K a) xs (fun _=>True):=fun i H M x m k=>by
 have ht':=x.tup _ _ ht;have r':=r.ext x;refine⟨fun hl=>⟨vs,vs[i]'(by rw[r.length];exact hl),ht',by simp[r.length,hl]⟩,fun hl=>⟨vs,ht',by rw[r.length];exact hl⟩,fun y H' hq2=>?_⟩;obtain⟨e1,e2⟩:=hq2;subst e1;refine⟨.refl _,m,fun d hd=>?_⟩;obtain⟨v,h1,h2⟩:=r'.get hd;rw[e2 vs ht'] at h1;cases h1;exact h2
theorem HQ (hl:PE X l (lift (X.L rz Xe) te)):PI X tg l (X1 (X.L rz Xe) (Yl te)):=by
 rintro pins s σ H R I ⟨δ,M,Rd,rs,rm,t,q⟩;refine thn (hl pins s σ H (fun x H1=>(∃ a xs,x=.ref a/\SqL X.K H1 a xs/\R (Itl X.K a) H1)\/(∃ a xs,x=.ref a/\SqT X.K H1 a xs/\R (Itt X.K a) H1)) I ⟨δ,M,_,rs,rm,t,fun d M1 v H1 x1 m1 r1 h1=>?_⟩) fun v s1 ⟨x,H1,I1,r1,q1⟩=>?_
 ·cases r1 with
  | lst a =>
   obtain⟨xs,e0,h1⟩:=h1;obtain⟨vs,e,r⟩:=m1 _ _ e0;exact .inl ⟨a,vs,rfl,.of e,q _ _ _ _ _ x1 m1 e0 Do h1⟩
  | fz ht r=>exact .inl ⟨_,_,rfl,ht.sq,q _ _ _ _ _ x1 m1 trivial (Hz ht r) h1⟩
  | tup ht r=>exact .inr ⟨_,_,rfl,ht,q _ _ _ _ _ x1 m1 trivial (Fk ht r) h1⟩
  | _=>exact (show False from h1).elim
 ·rcases q1 with ⟨a,xs,e,hq,q⟩|⟨a,xs,e,hq,q⟩
  ·subst e
   (first|cases (show _=_ from r1.inv)|cases r1)
   obtain⟨its,rv,p,hz⟩:=I1.list hq;refine wpAny_pyIter_list p.isList ?_;refine⟨s1.heap.objs.size,[s1.heap.objs.size],_,_,H1,rfl,I1.kept (t':=s1.toks) fun b o e=>Heap.get?_push_of_some _ e,B8 a _,⟨_,Heap.get?_push_size _ rfl,rfl,rfl⟩,fun b hb=>?_,q⟩;have e:b=s1.heap.objs.size:=by simpa using hb
   subst e;exact I1.fpOk %[|3] (I1.hok.fresh %[|3])
  ·subst e
   (first|cases (show _=_ from r1.inv)|cases r1)
   obtain⟨its,rv,p,hz⟩:=I1.tuple hq;refine wpAny_pyIter_tuple (show s1.heap.IsTuple a its.toArray from p) ?_;refine⟨s1.heap.objs.size,[s1.heap.objs.size],_,_,H1,rfl,I1.kept (t':=s1.toks) fun b o e=>Heap.get?_push_of_some _ e,JP a _,⟨_,Heap.get?_push_size _ rfl,rfl,rfl⟩,fun b hb=>?_,q⟩;have e:b=s1.heap.objs.size:=by simpa using hb
   subst e;exact I1.fpOk %[|3] (I1.hok.fresh %[|3])
end
noncomputable def Itr3 (lo c:Int) (n:Nat):It:=⟨fun i _=>i<n,fun i H x H'=>H'=H/\x=.int (lo+i*c),fun i _=>n<=i⟩
theorem UZ {P:Program} {w:World} {K:Frag} {tg:Expr} (it:Addr) (lo c:Int) (n:Nat):Turn P w K tg (Itr3 lo c n) [it] it (fun i h=>IsRangeIter h it (lo+(i:Nat)*c) ((n:Int)-(i:Nat)) c) where
 mem:=by simp
 obj:=fun i h st b hb=>by
  have e:b=it:=by simpa using hb
  subst e;exact⟨_,st,fun v z=>by
   have z':Data.fields _=Data.cell v:=z;cases z'⟩
 keep:=fun i h h' st k=>k it (by simp) _ st
 item:=by
  intro X hP hw hK hc i pins s σ H E I hf st hg;subst hP hw hK;obtain⟨f0,f1,f2,f3,f4,f5⟩:=hf it (by simp);have W:=Walks.range (prog:=X.prog) (w:=X.w) (I.ok.hd hc) it lo c n;refine W.item i s _ _ hg st fun v h' tk hv st' kk=>?_;obtain⟨t,rfl⟩:=hv;have I1:L2.Inv X pins σ H {s with heap:=h',toks:=tk}:=I.turned (fun b o hb e=>kk b o (by simpa using hb) e) f0 f1 f3 f4 f5;exact⟨_,rfl,AQ (s:={s with heap:=h',toks:=tk}) (n:="range_iterator") st' rfl rfl %[|4] ⟨.int (lo+i*c),H,I1,⟨t,rfl⟩,⟨rfl,rfl⟩,st',fun b hb=>(hf b hb).1⟩⟩
 done:=by
  intro X hP hw hK hc i pins s σ H E I hf st hg;subst hP hw hK;obtain⟨f0,f1,f2,f3,f4,f5⟩:=hf it (by simp);exact wpAny_pyNext_range_end (I.ok.hd hc) st (by have:n<=i:=hg;omega) fun h' eb=>⟨rfl,I.turned (t':=s.toks) (fun b o hb e=>eb b o hb e) f0 f1 f3 f4 f5⟩
 self:=fun _ _ _ _ _ st h=>wpAny_pyIter_rangeiter st h
noncomputable def rngD (lo c:Int) (n:Nat):List D:=(List.range n).map fun i=>.int (lo+(i:Nat)*c)
noncomputable def rngN (i j c:Int):Nat:=(Builtin.Range.rangeSize i j c).toNat
noncomputable def Ge:List D->Mem->(List D->(Mem->Prop)->Mem->Prop)->Prop
 | [.int j],M,R=>(-(2 ^ 62)<=j/\j<2 ^ 62)/\R (rngD 0 1 j.toNat) (fun _=>True) M
 | [.int i,.int j],M,R=>(-(2 ^ 62)<=i/\i<2 ^ 62/\-(2 ^ 62)<=j/\j<2 ^ 62)/\R (rngD i 1 (j-i).toNat) (fun _=>True) M
 | [.int i,.int j,.int c],M,R=>Ut c/\Builtin.Range.small i j c=true/\0<=Builtin.Range.rangeSize i j c/\R (rngD i c (rngN i j c)) (fun _=>True) M
 | _,_,_=>False
noncomputable def YM (ta:DA):DI:=fun δ M R=>ta δ M fun ds M1=>Ge ds M1 R
theorem Jt {K:Frag} {H0:Hp} {lo c:Int} {n:Nat}:ItD K H0 (Itr3 lo c n) (rngD lo c n) (fun _=>True):=fun i H M x m k=>by
 have hl:(rngD lo c n).length=n:=by simp[rngD]
 rw[hl];refine⟨fun h=>h,fun h=>h,fun y H' hq2=>?_⟩;obtain⟨e1,e2⟩:=hq2;subst e1 e2;refine⟨.refl _,m,fun d hd=>?_⟩;unfold rngD at hd;rw[List.getElem?_map] at hd;cases q:(List.range n)[i]? with
 | none=>rw [q] at hd;cases hd
 | some j =>
  rw[q] at hd;have hj:j=i:=by
   obtain⟨h1,h2⟩:=List.getElem?_eq_some_iff.mp q
   simpa using h2.symm
  subst hj;cases hd;exact .int _
theorem AN {K:Frag} {H0:Hp} {lo:Int} {n:Nat}:ItD K H0 (Itr lo n) (rngD lo 1 n) (fun _=>True):=fun i H M x m k=>by
 obtain⟨a,b,c⟩:=Jt (K:=K) (H0:=H0) (lo:=lo) (c:=1) (n:=n) i H M x m k;refine⟨a,b,fun y H' ⟨e1,e2⟩=>c y H' ⟨e1,?_⟩⟩;rw[Int.mul_one];exact e2
theorem Xz {K:Frag} {H:Hp} {vs:List V}:∀ {ns:List Int},RelDs K H vs (ns.map D.int)->vs=ns.map V.int
 | [],r=>by cases r;rfl
 | _::_,r=>by cases r with|cons h q=>cases h;exact congrArg _ (Xz q)
section
variable {X:Cx} {rz:Bool} {Xe:DSt->DK} {tg:Expr} {pos:Pos}
theorem Bg {pins:List (Addr×Obj)} {σ:L2.St} {H:Hp} {s:Shared} {R:It->Hp->Prop} {E:Value->Shared->Prop} {lo hi c:Int} {t u v:Tok} {tk:Nat} (I:L2.Inv X pins σ H s) (hs:Builtin.Range.small lo hi c=true) (hn:0<=Builtin.Range.rangeSize lo hi c)
  (q:R (Itr3 lo c (rngN lo hi c)) H):wpAny (model X.prog X.w) X.A (pyIter (.ref s.heap.objs.size)) (PIE X pins σ tg R) E {s with heap:=s.heap.push {cls:=.type "range",data:=.fields #[.int lo t,.int hi u,.int c v]},toks:=tk}:=by
 refine wpAny_pyIter_range (IsRange.new ..) hs ?_;have I1:L2.Inv X pins σ H {s with heap:=s.heap.push {cls:=.type "range",data:=.fields #[.int lo t,.int hi u,.int c v]},toks:=tk}:=I.kept fun b o e=>Heap.get?_push_of_some _ e;refine⟨(s.heap.push {cls:=.type "range",data:=.fields #[.int lo t,.int hi u,.int c v]}).objs.size,[(s.heap.push {cls:=.type "range",data:=.fields #[.int lo t,.int hi u,.int c v]}).objs.size],_,_,H,rfl,
  I1.kept (t':=tk) fun b o e=>Heap.get?_push_of_some _ e,UZ _ lo c (rngN lo hi c),?_,fun b hb=>?_,q⟩
 ·have e1:lo+((0:Nat):Int)*c=lo:=by simp
  have e2:((rngN lo hi c:Nat):Int)-((0:Nat):Int)=Builtin.Range.rangeSize lo hi c:=by unfold rngN;omega
  show IsRangeIter _ _ (lo+((0:Nat):Int)*c) (((rngN lo hi c:Nat):Int)-((0:Nat):Int)) c;rw[e1,e2];exact Heap.get?_push_size _ rfl
 ·have e:b=(s.heap.push {cls:=.type "range",data:=.fields #[.int lo t,.int hi u,.int c v]}).objs.size:=by simpa using hb
  subst e;exact I1.fpOk %[|3] (I1.hok.fresh %[|3])
theorem HR {a:Expr} {es:List Expr} {ta:DA} {p:Pos} (hg:Gl X "range") (hm:X.mg "range"=none) (ha:PA X (a::es) (Zo (X.L rz Xe) ta)) (hs:starEach (a::es) X.env=(false,eval a X.env)::starEach es X.env) (hpl:(backTo pos (starEach es X.env)).any (·.1)=false) :
  PI X tg (.Call (.Name "range" p) (a::es) [] pos) (X1 (X.L rz Xe) (YM ta)):=by
 rintro pins s σ H R I ⟨δ,M,Rd,rs,rm,t,q⟩;refine Call_ (ZS I hg hm boot_range (PyProof.Rows.callWith_type1 (thn (ha pos pins s σ H (fun vs H1=>(∃ j:Int,vs=[.int j]/\-(2 ^ 62)<=j/\j<2 ^ 62/\R (Itr 0 j.toNat) H1)\/(∃ i j:Int,vs=[.int i,.int j]/\(-(2 ^ 62)<=i/\i<2 ^ 62/\-(2 ^ 62)<=j/\j<2 ^ 62)/\R (Itr i (j-i).toNat) H1) \/
  (∃ i j c:Int,vs=[.int i,.int j,.int c]/\(Ut c/\Builtin.Range.small i j c=true/\0<=Builtin.Range.rangeSize i j c)/\R (Itr3 i c (rngN i j c)) H1)) I ⟨δ,M,_,rs,rm,t,fun ds M1 vs H1 x1 m1 r1 h1=>?_⟩) fun us s1 ⟨vs,H1,I1,r1,q1⟩=>?_) hs hpl))
 ·unfold Ge at h1
  split at h1
  ·rename_i j;cases Xz (ns:=[j]) r1;exact .inl ⟨_,rfl,h1.1.1,h1.1.2,q _ _ _ _ _ x1 m1 trivial AN h1.2⟩
  ·rename_i i j;cases Xz (ns:=[i,j]) r1;exact .inr (.inl ⟨_,_,rfl,h1.1,q _ _ _ _ _ x1 m1 trivial AN h1.2⟩)
  ·rename_i i j c;cases Xz (ns:=[i,j,c]) r1;exact .inr (.inr ⟨_,_,_,rfl,⟨h1.1,h1.2.1,h1.2.2.1⟩,q _ _ _ _ _ x1 m1 trivial Jt h1.2.2.2⟩)
  ·exact h1.elim
 ·rcases q1 with ⟨j,e,q1,q2,q⟩|⟨i,j,e,⟨q1,q2,q3,q4⟩,q⟩|⟨i,j,c,e,⟨q1,q2,q3⟩,q⟩
  ·subst e
   cases r1 with
   | cons r rr =>
    cases rr;obtain⟨t,rfl⟩:=r;exact call_range_1 (Jj I1 %[|5] %[|5] q1 q2 (by simpa using q))
  ·subst e
   cases r1 with
   | cons r rr =>
    cases rr with
    | cons r' rr =>
     cases rr;obtain⟨t,rfl⟩:=r;obtain⟨t',rfl⟩:=r';exact call_range_2 (Jj I1 q1 q2 q3 q4 q)
  ·subst e
   cases r1 with
   | cons r rr =>
    cases rr with
    | cons r' rr =>
     cases rr with
     | cons r'' rr =>
      cases rr;obtain⟨t,rfl⟩:=r;obtain⟨t',rfl⟩:=r';obtain⟨t'',rfl⟩:=r'';exact call_range_3 q1.1 (Bg I1 q2 q3 q) (.inl (PyProof.noPylong_of_log2 q1.2))
end
section
variable {prog:Program} {w:World} {A:Around} {E:Value->Shared->Prop}
end
section
variable {X:Cx} {rz:Bool} {Xe:DSt->DK} {es:List Expr} {gs:DGs} {pos:Pos}
end
end DL
end
noncomputable section
namespace DL
open PySem PySem.Spec PyProof.Rows L2
noncomputable def clos (cells:List (Str×Addr)):List (Str×NameKind)->List (Str×Addr)->List (Str×Addr)
 | [],cs=>cs
 | (n,k)::r,cs=>if (k==.free)=true then clos cells r ((n,(cells.lookup n).getD 0)::cs) else clos cells r cs
theorem WU (h:∀ x∈scope.names,x.2=.free->∃ c,env.cells.lookup x.1=some c):closureFor scope env=pure (clos env.cells scope.names []):=by
 simp only[closureFor];generalize ([]:List (Str×Addr))=cs;generalize scope.names=names at h;have key:∀ (names:List (Str×NameKind)) (cs:List (Str×Addr)),(∀ x∈names,x.2=.free->∃ c,env.cells.lookup x.1=some c) ->
   (forIn names cs fun x r=>(if (x.2==NameKind.free)=true then do let a <- cellOf env x.1;pure (ForInStep.yield ((x.1,a)::r)) else pure (ForInStep.yield r)):Sem (List (Str×Addr)))=pure (clos env.cells names cs):=by
  intro names
  induction names with
  | nil=>intro cs _;rfl
  | cons x l ih =>
   intro cs h;obtain⟨n,k⟩:=x;rw[List.forIn_cons];by_cases hk:(k==NameKind.free)=true
   ·obtain⟨c,hc⟩:=h (n,k) List.mem_cons_self (by simpa using hk)
    have hcell:cellOf env n=pure c:=by unfold cellOf;rw[hc]
    rw[if_pos hk,hcell];simp only[pure_bind];rw[ih _ fun y hy=>h y (List.mem_cons_of_mem _ hy)];have:clos env.cells ((n,k)::l) cs=clos env.cells l ((n,c)::cs):=by
     conv=>lhs;unfold clos
     rw[if_pos hk,hc];rfl
    rw[this]
   ·rw[if_neg hk]
    simp only[pure_bind];rw[ih _ fun y hy=>h y (List.mem_cons_of_mem _ hy)]
    conv=>rhs;unfold clos
    rw[if_neg hk]
 have:=key names cs h
 first
  | exact (by simpa using this)
  | (rw [<- this];rfl)
theorem VJ:∀ {names:List (Str×NameKind)} {cs:List (Str×Addr)},(∀ x∈names,x.2=.free->∃ c,cells.lookup x.1=some c)->(∀ x c,cs.lookup x=some c->cells.lookup x=some c) ->
  ∀ x c,(clos cells names cs).lookup x=some c->cells.lookup x=some c
 | [],_,_,h,x,c,e=>h x c e
 | (n,k)::r,cs,hn,h,x,c,e=>by
  unfold clos at e;by_cases hk:(k==NameKind.free)=true
  ·rw[if_pos hk] at e
   obtain⟨c0,hc0⟩:=hn (n,k) List.mem_cons_self (by simpa using hk);refine VJ (fun y hy=>hn y (List.mem_cons_of_mem _ hy)) (fun y d q=>?_) x c e;rw[List.lookup_cons] at q;cases hy:y==n with
   | true=>rw [hy] at q;rw[eq_of_beq hy,hc0];rw[hc0] at q;exact q
   | false=>rw [hy] at q;exact h y d q
  ·rw[if_neg hk] at e
   exact VJ (fun y hy=>hn y (List.mem_cons_of_mem _ hy)) h x c e
theorem We:∀ {names:List (Str×NameKind)} {cs:List (Str×Addr)} {x:Str},((∃ c,cs.lookup x=some c)\/(x,NameKind.free)∈names)->∃ c,(clos cells names cs).lookup x=some c
 | [],_,_,h=>by
  rcases h with h|h
  ·exact h
  ·cases h
 | (n,k)::r,cs,x,h=>by
  unfold clos;by_cases hk:(k==NameKind.free)=true
  ·rw[if_pos hk]
   refine We ?_;cases hx:x==n with
   | true=>exact .inl ⟨_,by rw[List.lookup_cons,hx]⟩
   | false =>
    rcases h with ⟨c,h⟩|h
    ·exact .inl ⟨c,by rw[List.lookup_cons,hx];exact h⟩
    ·rcases List.mem_cons.mp h with h|h
     ·cases h;simp at hx
     ·exact .inr h
  ·rw[if_neg hk]
   refine We ?_;rcases h with h|h
   ·exact .inl h
   ·rcases List.mem_cons.mp h with h|h
    ·cases h;simp at hk
    ·exact .inr h
theorem YT {env:Env}:∀ {names:List (Str×NameKind)} {x:Str} {k:NameKind},
  (names.map fun (n,k)=>if (k==NameKind.free&&env.scope.kind==.function&&env.kindOf n==some .cell) then (n,NameKind.cell) else (n,k)).lookup x=some k ->
  ∃ k',names.lookup x=some k'/\(k=k'\/(k'=.free/\k=.cell))
 | [],_,_,h=>by simp at h
 | (n,k0)::r,x,k,h=>by
  have ih:=@YT env r x k;simp only[List.map_cons] at h;by_cases hc:(k0==NameKind.free&&env.scope.kind==.function&&env.kindOf n==some .cell)=true
  ·rw[if_pos hc] at h
   rw[List.lookup_cons] at h ⊢;cases hx:x==n with
   | true =>
    simp only[hx] at h;cases h;simp only[Bool.and_eq_true,beq_iff_eq] at hc;exact⟨k0,rfl,.inr ⟨hc.1.1,rfl⟩⟩
   | false=>simp only[hx] at h;exact ih h
  ·rw[if_neg hc] at h
   rw[List.lookup_cons] at h ⊢;cases hx:x==n with
   | true=>simp only[hx] at h;cases h;exact⟨k0,rfl,.inl rfl⟩
   | false=>simp only[hx] at h;exact ih h
structure BlkOk (N:List Str) (env:Env) (N':List Str) (scope:Scope):Prop where
 kind:scope.kind=.function
 cell:∀ y∈scope.names,y.2≠.cell
 names:∀ y∈scope.names,y.2=.local->scope.names.lookup y.1=some .local
 free:∀ y∈scope.names,y.2=.free->env.kindOf y.1=some .cell\/env.kindOf y.1=some .free
 agree:∀ i x,i<N.length->N'[i]?=some x->∀ k,scope.names.lookup x=some k->k=.globalImplicit\/k=.globalExplicit\/(k=.free/\N[i]?=some x)
 long:N.length<=N'.length
noncomputable def Yx (X:Cx) (N':List Str) (scope:Scope) (cl:List (Str×Addr)) (C:Addr) (s:Shared) (H:Hp) (ex:List Addr) (pn:List (Addr×Obj)):Cx :=
 {X with N:=N',s₀:=s,H₀:=H,env:=compEnvC scope cl C X.env,outer:=X.stack,stack:=X.stack,ex:=ex,fn:=fun _=>false,pn:=pn,xe:=fun _ _=>False}
section
variable {X:Cx} {rz:Bool} {Xe:DSt->DK} {pins:List (Addr×Obj)} {σ:L2.St} {H:Hp} {s:Shared} {N':List Str} {scope:Scope} {fp:List Addr}
theorem BP (I:L2.Inv X pins σ H s) (B:BlkOk X.N X.env N' scope) (hf:∀ b∈fp,FpOk X pins H b) (hflt:∀ b∈fp,b<s.heap.objs.size)
  (hns:h1.Ns s.heap.objs.size (fun x=>([]:List (Str×Value)).reverse.lookup x)) (hk:∀ b o,s.heap.get? b=some o->h1.get? b=some o) :
  L2.Inv (Yx X N' scope (clos X.env.cells scope.names []) s.heap.objs.size s H fp []) [] (σ++List.replicate (N'.length-X.N.length) none) H {s with heap:=h1,toks:=tk}:=by
 have hcells:∀ x∈scope.names,x.2=.free->∃ c,X.env.cells.lookup x.1=some c:=fun x hx e=>I.ok.has x.1 (B.free x hx e);have csub:=VJ (cells:=X.env.cells) (names:=scope.names) (cs:=[]) hcells (fun x c e=>by simp at e);have noC:∀ x c,X.env.cells.lookup x=some c->c<s.heap.objs.size:=fun x c e=>by obtain⟨v,q⟩:=I.cell x c e;exact q.lt
 refine⟨⟨I.ok.mod,?_,I.ok.glob,I.ok.blt,Nat.le_refl _,fun x y c e1 e2=>I.ok.inj x y c (csub x c e1) (csub y c e2),fun x hx=>?_,fun x c e=>(by cases e),I.ok.hd,I.ok.frames,.inl rfl,fun b hb=>⟨Nat.ne_of_lt (hflt b hb),fun x c e=>(hf b hb).2.2.2.2.1 x c (csub x c e)⟩,
  I.bs,Nat.le_trans I.ok.bsz I.sz,fun b o e hb=>?_,fun b hb z=>?_,I.stack,I.stkFree⟩,rfl,I.bare,Un.kept hk,⟨_,hns,fun i x v e1 e2 e3=>?_⟩,fun x c e=>?_,I.hok.fresh %[|3],fun x c e=>I.freeC x c (csub x c e),fun p hp=>absurd (show p∈([]:List (Addr×Obj)) from hp) (by simp),I.hok.kept hk,?_⟩
 ·show (relabel scope X.env).kind=.function
  exact B.kind
 ·
  have hx':(relabel scope X.env).names.lookup x=some .cell\/(relabel scope X.env).names.lookup x=some .free:=hx;have fin:(x,NameKind.free)∈scope.names->∃ c,(clos X.env.cells scope.names []).lookup x=some c:=fun z=>We (.inr z);rcases hx' with z|z
  ·obtain⟨k',e1,e2⟩:=YT z
   have hm:=PySem.mem_of_lookup e1;rcases e2 with e2|⟨e2,_⟩
   ·subst e2;exact absurd rfl (B.cell _ hm)
   ·subst e2;exact fin hm
  ·obtain⟨k',e1,e2⟩:=YT z
   have hm:=PySem.mem_of_lookup e1;rcases e2 with e2|⟨_,e2⟩
   ·subst e2;exact fin hm
   ·cases e2
 ·
  obtain⟨_,_,_,z,_⟩:=hf b hb;rcases z with z|z
  ·exact I.ok.noex b o e z
  ·exact absurd (Nat.lt_of_lt_of_le (Heap.lt_size e) I.ok.bsz) (Nat.not_lt.mpr z)
 ·obtain⟨_,z1,z2,_⟩:=hf b hb
  rcases List.mem_cons.mp (I.stkSub b z) with q|q
  ·exact z1 q
  ·exact z2 q
 ·
  have e3':(relabel scope X.env).names.lookup x=some .local\/(relabel scope X.env).names.lookup x=some .cell\/(relabel scope X.env).names.lookup x=some .free:=e3;have hi:i < σ.length:=by
   by_cases hi:i < σ.length
   ·exact hi
   ·rw[List.getElem?_append_right %[|5],List.getElem?_replicate] at e2
    split at e2<;>cases e2
  rw[List.getElem?_append_left hi] at e2;have hiN:i<X.N.length:=by rw[<- I.len];exact hi
  obtain⟨k',q1,q2⟩:∃ k',scope.names.lookup x=some k'/\(k'=.local\/k'=.cell\/k'=.free):=by
   rcases e3' with z|z|z
   all_goals
    obtain⟨k',e1,e2⟩:=YT z;rcases e2 with e2|⟨e2,e4⟩
    ·exact⟨k',e1,by rw[<- e2];simp⟩
    ·exact⟨k',e1,by rw[e2];simp⟩
  obtain⟨hfree,hN⟩:k'=.free/\X.N[i]?=some x:=by
   rcases B.agree i x hiN e1 k' q1 with z|z|z
   ·subst z;simp at q2
   ·subst z;simp at q2
   ·exact z
  subst hfree;have hout:=B.free (x,.free) (PySem.mem_of_lookup q1) rfl;obtain⟨m,hn,hl⟩:=I.loc;have vis:Vis X.env.scope x:=by rcases hout with z|z;exact .inr (.inl z);exact .inr (.inr z)
  obtain⟨u,r,l⟩:=hl i x v hN e2 vis;refine⟨u,r,?_⟩;rcases l with ⟨hkk,_⟩|⟨_,c,hc,hcell⟩
  ·exfalso
   rcases hout with z|z
   ·rw[show X.env.kindOf x=some .cell from z] at hkk;cases hkk
   ·rw[show X.env.kindOf x=some .free from z] at hkk;cases hkk
  ·obtain⟨c',hc'⟩:=We (cells:=X.env.cells) (names:=scope.names) (cs:=[]) (.inr (PySem.mem_of_lookup q1))
   have:=csub x c' hc';rw[hc] at this;cases this;refine .inr ⟨?_,c,hc',(let ⟨o,e1,e2⟩:=hcell;⟨o,hk _ o e1,e2⟩)⟩;rcases e3' with z|z|z
   ·obtain⟨k',e1,e2⟩:=YT z
    rw[q1] at e1;cases e1;rcases e2 with e2|⟨_,e2⟩<;>cases e2
   ·exact .inl z
   ·exact .inr z
 ·obtain⟨v,q⟩:=I.cell x c (csub x c e)
  exact⟨v,let ⟨o,e1,e2⟩:=q;⟨o,hk _ o e1,e2⟩⟩
 ·show (σ++List.replicate (N'.length-X.N.length) none).length=N'.length
  rw[List.length_append,List.length_replicate,I.len];have:=B.long;omega
noncomputable def Za (g:DG) (te:DE) (keep:Mem->Prop) (p:Addr):List D->List D->DSt->Mem->(Mem->Prop)->Prop
 | [],_,_,M,Q=>Q M
 | x::xs,acc,δ,M,Q=>g x δ M fun δ1 M1=>te δ1 M1 fun d M2=>M2 p=some (.ls acc)/\acc.length<sizeLine/\keep (M2.upd p (.ls (acc++[d])))/\Za g te keep p xs (acc++[d]) δ1 (M2.upd p (.ls (acc++[d]))) Q
noncomputable def YQ (n:Nat) (ti:DI) (g:DG) (te:DE):DE:=fun δ M Q=>ti δ M fun items keep M1=>∀ p,M1 p=none ->
 keep (M1.upd p (.ls []))/\Za g te keep p items [] (δ++List.replicate n none) (M1.upd p (.ls [])) fun M2=>(∃ ds,M2 p=some (.ls ds))/\Q (.lst p) M2
theorem Slots.more {K:Frag} {H:Hp} {δ:DSt} {σ:L2.St} (r:Slots K H δ σ) (n:Nat):Slots K H (δ++List.replicate n none) (σ++List.replicate n none):=by
 refine⟨by simp[r.len],fun i d e=>?_⟩;by_cases hi:i < δ.length
 ·rw[List.getElem?_append_left hi] at e
  obtain⟨v,h1,h2⟩:=r.slot i d e;exact⟨v,by rw[List.getElem?_append_left (by rw[<- r.len];exact hi)];exact h1,h2⟩
 ·rw[List.getElem?_append_right %[|5],List.getElem?_replicate] at e
  split at e<;>cases e
end
end DL
end
noncomputable section
namespace DL
open PySem PySem.Spec PyProof.Rows L2
abbrev DB:=DSt->Mem->(DSt->Mem->Prop)->Prop
abbrev BW:=Program->World->Around->(Shared->Prop)->Shared->Prop
noncomputable def IV (Λ:LK) (b:DB) (σ:L2.St) (H:Hp) (Q:L2.St->Hp->Prop):Prop:=∃ δ M R,RepS Λ H δ σ/\RepM Λ.K H M/\b δ M R/\∀ δ' M' σ' H',HExt Λ.K H H'->RepS Λ H' δ' σ'->RepM Λ.K H' M'->R δ' M'->Q σ' H'
noncomputable def PB (Y:Cx) (W:BW) (b:DB):Prop:=∀ (pins:List (Addr×Obj)) (s:Shared) (σ:L2.St) (H:Hp) (Q:L2.St->Hp->Prop),L2.Inv Y pins σ H s->IV (Y.L false X0) b σ H Q ->
 W Y.prog Y.w Y.A (fun s'=>∃ σ' H',L2.Inv Y pins σ' H' s'/\Q σ' H') s
noncomputable def XH (g:DG) (b:DB) (keep:Mem->Prop):List D->DB
 | []=>fun δ M Q=>Q δ M
 | x::xs=>fun δ M Q=>g x δ M fun δ1 M1=>b δ1 M1 fun δ2 M2=>keep M2/\XH g b keep xs δ2 M2 Q
noncomputable def WP (te:DE) (p:Addr):DB:=fun δ M Q=>te δ M fun d M2=>∃ acc,M2 p=some (.ls acc)/\acc.length<sizeLine/\Q δ (M2.upd p (.ls (acc++[d])))
noncomputable def bIf (tt:DT) (b:Addr->DB) (p:Addr):DB:=fun δ M Q=>tt δ M fun k M1=>if k=true then b p δ M1 Q else Q δ M1
noncomputable def XO (n:Nat) (ti:DI) (g:DG) (b:Addr->DB):DE:=fun δ M Q=>ti δ M fun items keep M1=>∀ p,M1 p=none ->
 keep (M1.upd p (.ls []))/\XH g (b p) keep items (δ++List.replicate n none) (M1.upd p (.ls [])) fun _ M2=>(∃ ds,M2 p=some (.ls ds))/\Q (.lst p) M2
noncomputable def Wb (elt:Expr) (acc:Value) (env:Env):BW:=fun prog w A Q s=>wpAny (model prog w) A (eval elt env) (fun x s1=>wpAny (model prog w) A (call (.builtin "list.append") [acc,x]) (fun _ s2=>Q s2) (fun _ _=>False) s1) (fun _ _=>False) s
noncomputable def ifW (c:Expr) (env:Env) (b:BW):BW:=fun prog w A Q s=>wpAny (model prog w) A (isTrue c env (eval c env)) (fun ok s1=>if ok=true then b prog w A Q s1 else Q s1) (fun _ _=>False) s
noncomputable def XS (e target:Expr) (d:Nat) (it acc:Value) (env:Env) (body:BW):Prop:=∀ {prog:Program} {w:World} {A:Around} {R:Fin->Shared->Prop} {s:Shared},
 wpAny (model prog w) A (pyNext it) (fun r s₁=>match r with
   | none=>R (.done .next) s₁
   | some v=>wpAny (model prog w) A (letOwnedTupleGo target it v) (fun _ s₂=>wpAny (model prog w) A (assign target env v) (fun _ s₃=>body prog w A (fun s₄=>R (.again (.compLoop e d it acc env)) s₄) s₃) (fun _ _=>False) s₂) (fun _ _=>False) s₁) (fun _ _=>False) s ->
 wpAny (model prog w) A (compTurn e d it acc env) R (fun _ _=>False) s
theorem Ay:XS (.ListComp elt [⟨target,iter,[c],0⟩] scope pos) target 0 it acc env (ifW c env (Wb elt acc env)):=by
 intro prog w A R s h;rw[compTurn_list];refine wpAny_bind (wpAny_standAt (wpAny_bind (wpAny_mono h (fun r s₁ h₁=>?_) fun _ _ h'=>h'.elim)));cases r with
 | none=>exact wpAny_pure h₁
 | some v =>
  refine wpAny_bind (wpAny_mono h₁ (fun _ s₂ h₂=>?_) fun _ _ h'=>h'.elim);refine wpAny_bind (wpAny_mono h₂ (fun _ s₃ h₃=>?_) fun _ _ h'=>h'.elim);refine wpAny_bind (wpAny_tests_one (wpAny_mono h₃ (fun ok s₄ h₄=>?_) fun _ _ h'=>h'.elim));cases ok with
  | false=>exact wpAny_pure h₄
  | true=>exact wpAny_bind (wpAny_bind (wpAny_mono h₄ (fun x s₅ h₅=>wpAny_bind (wpAny_mono h₅ (fun _ s₆ h₆=>wpAny_pure (wpAny_pure h₆)) fun _ _ h'=>h'.elim)) fun _ _ h'=>h'.elim))
theorem Di
  (ht:XS (.ListComp elt gs scope pos) target d it acc env body) (I:Nat->Shared->Prop)
  (turn:∀ n s,I n s->wpAny (model prog w) A (pyNext it) (fun r s₁=>match r with
   | none=>R (.ok .next) s₁
   | some v=>wpAny (model prog w) A (letOwnedTupleGo target it v) (fun _ s₂=>wpAny (model prog w) A (assign target env v) (fun _ s₃=>body prog w A (fun s₄=>∃ m,m<n/\I m s₄) s₃) (fun _ _=>False) s₂) (fun _ _=>False) s₁) (fun _ _=>False) s)
  (mono:∀ (A:Around) (Q Q':Shared->Prop) s,(∀ s',Q s'->Q' s')->body prog w A Q s->body prog w A Q' s)
  (n:Nat) (h:I n s):codeAny (model prog w) A (.compLoop (.ListComp elt gs scope pos) d it acc env) R s:=by
 refine codeAny_loop rfl I (fun n s hI=>?_) n h;show wpAny _ _ ((compTurn (.ListComp elt gs scope pos) d it acc env).onRaise (fun x=>do noteFrame x env;theTreesLotGoes x)) _ _ s;refine wpAny_noted (wpAny_mono (ht (R:=fun fin s'=>match fin with | .done f=>R (.ok f) s' | .again c'=>c'=.compLoop (.ListComp elt gs scope pos) d it acc env/\∃ m,m<n/\I m s') (wpAny_mono (turn n s hI) (fun r s₁ h₁=>?_) fun _ _ h'=>h'.elim)) (fun _ _ q=>q) fun _ _ h'=>h'.elim);cases r with
 | none=>exact h₁
 | some v=>exact wpAny_mono h₁ (fun _ s₂ h₂=>wpAny_mono h₂ (fun _ s₃ h₃=>mono _ _ _ _ (fun s' q=>⟨rfl,q⟩) h₃) fun _ _ h'=>h'.elim) fun _ _ h'=>h'.elim
theorem Xi (A:Around) (Q Q':Shared->Prop) (s) (hq:∀ s',Q s'->Q' s') (h:Wb elt acc env prog w A Q s):Wb elt acc env prog w A Q' s :=
 wpAny_mono h (fun _ _ h1=>wpAny_mono h1 (fun _ _ h2=>hq _ h2) fun _ _ h'=>h') fun _ _ h'=>h'
theorem Ju (hb:∀ (A:Around) (Q Q':Shared->Prop) s,(∀ s',Q s'->Q' s')->b prog w A Q s->b prog w A Q' s) (A:Around) (Q Q':Shared->Prop) (s) (hq:∀ s',Q s'->Q' s') (h:ifW c env b prog w A Q s):ifW c env b prog w A Q' s :=
 wpAny_mono h (fun k s1 h1=>by
  cases k with
  | true=>exact hb _ _ _ _ hq h1
  | false=>exact hq _ h1) fun _ _ h'=>h'
theorem J0:XS (.ListComp elt [⟨target,iter,[],0⟩] scope pos) target 0 it acc env (Wb elt acc env):=by
 intro prog w A R s h;rw[compTurn_list1];refine wpAny_bind (wpAny_standAt (wpAny_bind (wpAny_mono h (fun r s₁ h₁=>?_) fun _ _ h'=>h'.elim)));cases r with
 | none=>exact wpAny_pure h₁
 | some v =>
  refine wpAny_bind (wpAny_mono h₁ (fun _ s₂ h₂=>?_) fun _ _ h'=>h'.elim);exact wpAny_bind (wpAny_mono h₂ (fun _ s₃ h₃=>wpAny_bind (wpAny_bind (wpAny_mono h₃ (fun x s₅ h₅=>wpAny_bind (wpAny_mono h₅ (fun _ s₆ h₆=>wpAny_pure (wpAny_pure h₆)) fun _ _ h'=>h'.elim)) fun _ _ h'=>h'.elim))) fun _ _ h'=>h'.elim)
noncomputable def gUp (g:DG):DG:=fun x δ M Q=>∃ R,g x δ M R/\∀ δ1 M1,R δ1 M1->Q δ1 M1
noncomputable def iUp (ti:DI):DI:=fun δ M R=>∃ R0,ti δ M R0/\∀ items keep M1,R0 items keep M1->R items keep M1
noncomputable def eUp (te:DE):DE:=fun δ M Q=>∃ R,te δ M R/\∀ d M1,R d M1->Q d M1
theorem Uh:∀ {items acc:List D} {δ:DSt} {M:Mem},Za g te keep p items acc δ M Q->XH (gUp g) (WP (eUp te) p) keep items δ M fun _ M2=>Q M2
 | [],_,_,_,h=>h
 | x::xs,acc,δ,M,h=>⟨_,h,fun δ1 M1 h1=>⟨_,h1,fun d M2 h2=>⟨acc,h2.1,h2.2.1,h2.2.2.1,Uh h2.2.2.2⟩⟩⟩
theorem JI (h:YQ n ti g te δ M Q):XO n (iUp ti) (gUp g) (WP (eUp te)) δ M Q :=
 ⟨_,h,fun items keep M1 h1 p hp=>⟨(h1 p hp).1,Uh (h1 p hp).2⟩⟩
theorem Dj
  {δ:DSt} {M:Mem} {R:DSt->Mem->Prop} {Rr:Result->Shared->Prop} {H0:Hp} (hc:Y.calm=true) (hx:Y.xe=fun _ _=>False)
  (ht:XS (.ListComp elt gs scope pos) target d (.ref it) acc Y.env W) (mono:∀ (A:Around) (Q Q':Shared->Prop) s,(∀ s',Q s'->Q' s')->W Y.prog Y.w A Q s->W Y.prog Y.w A Q' s)
  (T:Turn Y.prog Y.w Y.K target J fp it tn) (itd:ItD Y.K H0 J items keep) (hg:PG Y target (Zl (Y.L false X0) g)) (hb:PB Y W b)
  (I:L2.Inv Y pins σ H s) (hf:∀ b∈fp,FpOk Y pins H b) (st:tn 0 s.heap) (x0:HExt Y.K H0 H) (rs:Slots Y.K H δ σ) (rm:RepM Y.K H M) (k:keep M) (h:XH g b keep items δ M R)
  (fin:∀ s' σ' H' δ' M',L2.Inv Y pins σ' H' s'->HExt Y.K H H'->Slots Y.K H' δ' σ'->RepM Y.K H' M'->R δ' M'->Rr (.ok .next) s') :
  codeAny (model Y.prog Y.w) Y.A (.compLoop (.ListComp elt gs scope pos) d (.ref it) acc Y.env) Rr s:=by
 have stat:∀ {H':Hp},(∀ b∈fp,H' b=none)->∀ b∈fp,FpOk Y pins H' b:=fun hn b hb=>⟨hn b hb,(hf b hb).2⟩;refine Di ht (fun n s'=>∃ i σ' H' δ' M',L2.Inv Y pins σ' H' s'/\tn i s'.heap/\(∀ b∈fp,H' b=none)/\n=items.length-i/\i<=items.length/\HExt Y.K H H'/\Slots Y.K H' δ' σ'/\RepM Y.K H' M'/\keep M'/\XH g b keep (items.drop i) δ' M' R) ?_ mono items.length
  ⟨0,σ,H,δ,M,I,st,fun b hbb=>(hf b hbb).1,rfl,Nat.zero_le _,.refl _,rs,rm,k,h⟩
 rintro n s5 ⟨i,σ5,H5,δ5,M5,I5,st5,fr5,rfl,hi5,x5,rs5,m5,k5,h5⟩;obtain⟨i1,i2,i3⟩:=itd i H5 M5 (x0.trans x5) m5 k5;by_cases hl:i<items.length
 ·rw[List.drop_eq_getElem_cons hl] at h5
  refine thn (T.item Y rfl rfl rfl hc i pins s5 σ5 H5 _ I5 (stat fr5) st5 (i1 hl)) fun r s6 hq2=>?_;obtain⟨u,hr,h6⟩:=hq2;subst hr;refine thn h6 fun _ s7 hq2=>?_;obtain⟨x,H7,I7,r7,y7,st7,fr7⟩:=hq2;obtain⟨x7,m7,r7'⟩:=i3 x H7 y7;have I7':=I7.pinned (stat fr7) (T.obj _ _ st7);have h8:=hg _ s7 σ5 H7 x u (fun σ8 H8=>∃ δ8 M8,HExt Y.K H7 H8/\Slots Y.K H8 δ8 σ8/\RepM Y.K H8 M8/\b δ8 M8 fun δ2 M2=>keep M2/\XH g b keep (items.drop (i+1)) δ2 M2 R) I7' r7
   ⟨items[i],δ5,M5,_,r7' _ (by simp[hl]),⟨rs5.ext x7,FN⟩,m7,h5,fun δ8 M8 σ8 H8 x8 rs8 m8 h8=>⟨δ8,M8,x8,rs8.toSlots,m8,h8⟩⟩
  rw[hx] at h8;refine thn h8 fun _ s8 hq2=>?_;obtain⟨σ8,H8,I8,δ8,M8,x8,rs8,m8,h8⟩:=hq2;refine mono _ _ _ _ ?_ (hb _ s8 σ8 H8 (fun σ9 H9=>∃ δ9 M9,HExt Y.K H8 H9/\Slots Y.K H9 δ9 σ9/\RepM Y.K H9 M9/\keep M9/\XH g b keep (items.drop (i+1)) δ9 M9 R) I8 ⟨δ8,M8,_,⟨rs8,FN⟩,m8,h8,fun δ9 M9 σ9 H9 x9 rs9 m9 h9=>⟨δ9,M9,x9,rs9.toSlots,m9,h9⟩⟩);rintro s9 ⟨σ9,H9,I9,δ9,M9,x9,rs9,m9,k9,h9⟩;refine⟨items.length-(i+1),by omega,i+1,σ9,H9,δ9,M9,I9.unpinned,T.keep _ _ _ st7 fun b hbb o e=>(I9.pin (b,o) (List.mem_append_right _ (List.mem_append_right _ (ZB hbb e)))).1,fun b hbb=>?_,rfl,hl,(((x5.trans x7).trans x8).trans x9),rs9,m9,k9,h9⟩;obtain⟨o,e,d'⟩:=T.obj _ _ st7 b hbb;exact (I9.pin (b,o) (List.mem_append_right _ (List.mem_append_right _ (ZB hbb e)))).2.1
 ·have e:i=items.length:=by omega
  subst e;rw[List.drop_length] at h5;refine thn (T.done Y rfl rfl rfl hc _ pins s5 σ5 H5 _ I5 (stat fr5) st5 (i2 %[|3])) fun r s6 hq2=>?_;obtain⟨hr,I6⟩:=hq2;subst hr;exact fin s6 σ5 H5 δ5 M5 I6 x5 rs5 m5 h5
theorem V1 (hx:Y.xe=fun _ _=>False) (he:PE Y elt (lift (Y.L false X0) te)):PB Y (Wb elt (.ref p) Y.env) (WP te p):=by
 rintro pins s σ H Q I ⟨δ,M,R,rs,rm,h,q⟩;have h8:=he pins s σ H (fun v H9=>∃ d M9,HExt Y.K H H9/\RepM Y.K H9 M9/\RelD Y.K H9 v d/\∃ acc,M9 p=some (.ls acc)/\acc.length<sizeLine/\R δ (M9.upd p (.ls (acc++[d])))) I
  ⟨δ,M,_,rs,rm,h,fun d M9 v H9 x9 m9 r9 h9=>⟨d,M9,x9,m9,r9,h9⟩⟩
 rw[hx] at h8;refine thn h8 fun y s9 hq2=>?_;obtain⟨v,H9,I9,r9,d,M9,x9,m9,rd9,acc,a9,z9,h9⟩:=hq2;obtain⟨vs,ev,rv⟩:=m9 _ _ a9;have xw:HExt Y.K H9 (upd H9 p (.lst (vs++[v]))):=.upd (.inr ⟨_,ev,trivial⟩);have h10:=U4 pins s9 σ H9 (.ref p) [v] (.ref p) [y] (fun _ H10=>H10=upd H9 p (.lst (vs++[v]))) I9 rfl (.cons r9 .nil) ⟨_,vs,v,rfl,rfl,ev,by rw[rv.length];exact z9,rfl⟩;rw[hx] at h10;refine thn h10 fun _ s10 hq2=>?_;obtain⟨_,H10,I10,_,e10⟩:=hq2;subst e10;exact⟨σ,_,I10,q _ _ _ _ (x9.trans xw) (rs.ext (x9.trans xw)) (m9.write ev (rv.append (.cons rd9 .nil))) h9⟩
theorem FX (hx:Y.xe=fun _ _=>False) (hc:PT Y c (Z7 (Y.L false X0) tt)) (hb:PB Y W (b p)):PB Y (ifW c Y.env W) (bIf tt b p):=by
 rintro pins s σ H Q I ⟨δ,M,R,rs,rm,h,q⟩;have h8:=hc pins s σ H (fun k H9=>∃ M9,HExt Y.K H H9/\RepM Y.K H9 M9/\if k=true then b p δ M9 R else R δ M9) I ⟨δ,M,_,rs,rm,h,fun k M9 H9 x9 m9 h9=>⟨M9,x9,m9,h9⟩⟩;rw[hx] at h8;refine thn h8 fun k s9 hq2=>?_;obtain⟨H9,I9,M9,x9,m9,h9⟩:=hq2;cases k with
 | true=>exact hb pins s9 σ H9 Q I9 ⟨δ,M9,R,rs.ext x9,m9,h9,fun δ' M' σ' H' x=>q δ' M' σ' H' (x9.trans x)⟩
 | false=>exact⟨σ,H9,I9,q _ _ _ _ x9 (rs.ext x9) m9 h9⟩
section
variable {X:Cx} {rz:Bool} {Xe:DSt->DK} {N':List Str} {scope:Scope} {elt target iter:Expr} {ifs:List Expr} {rest:List Comprehension} {pos:Pos} {ti:DI} {g:DG} {b:Addr->DB}
theorem Uj (hc:X.calm=true) (B:BlkOk X.N X.env N' scope) (hi:PI X target iter (X1 (X.L rz Xe) ti))
  (W:Addr->Env->BW) (mono:∀ p env (A:Around) (Q Q':Shared->Prop) s,(∀ s',Q s'->Q' s')->W p env X.prog X.w A Q s->W p env X.prog X.w A Q' s)
  (hb:∀ cl C s H ex p,PG (Yx X N' scope cl C s H ex []) target (Zl ((Yx X N' scope cl C s H ex []).L false X0) g)/\PB (Yx X N' scope cl C s H ex []) (W p (Yx X N' scope cl C s H ex []).env) (b p))
  (ht:∀ it p env,XS (.ListComp elt (⟨target,iter,ifs,0⟩::rest) scope pos) target 0 it (.ref p) env (W p env))
  (hs:∀ x,foldedSetIterable iter X.env x=pure x) {use:Option (Value->Sem Unit)} {Post:Value->Shared->Prop} {pins:List (Addr×Obj)} {s:Shared} {σ:L2.St} {H:Hp} {δ:DSt} {M:Mem} {R:DK}
  (I:L2.Inv X pins σ H s) (rs:RepS (X.L rz Xe) H δ σ) (rm:RepM X.K H M) (t:XO (N'.length-X.N.length) ti g b δ M R)
  (fin:∀ (p C:Addr) (s6:Shared) (H5:Hp) (M5:Mem),HExt X.K H H5->RepM X.K H5 M5->R (.lst p) M5->L2.Inv X pins σ H5 s6->FpOk X pins H5 C->(∃ m,s6.heap.Ns C m)->(∀ h',Heap.SameBut C s6.heap h'->L2.Inv X pins σ H5 {s6 with heap:=h'})->compPost (model X.prog X.w) X.A X.xe use Post (.ref p) C (.ok .next) s6) :
  wpAny (model X.prog X.w) X.A (comprehension (.ListComp elt (⟨target,iter,ifs,0⟩::rest) scope pos) scope X.env (firstIterPos (⟨target,iter,ifs,0⟩::rest) pos) (newList []) (firstAsync (⟨target,iter,ifs,0⟩::rest)) (firstIter (⟨target,iter,ifs,0⟩::rest) X.env) use) Post X.xe s:=by
 have hcells:∀ x∈scope.names,x.2=.free->∃ c,X.env.cells.lookup x.1=some c:=fun x hx e=>I.ok.has x.1 (B.free x hx e);refine wpAny_comprehension_free (use:=use) (cl:=clos X.env.cells scope.names []) rfl hs (WU hcells) B.kind B.names ?_;refine thn (hi pins s σ H (fun J H1=>∃ items keep M1,HExt X.K H H1/\RepM X.K H1 M1/\keep M1/\ItD X.K H1 J items keep/\∀ p,M1 p=none->keep (M1.upd p (.ls []))/\XH g (b p) keep items (δ++List.replicate (N'.length-X.N.length) none) (M1.upd p (.ls [])) fun _ M2=>(∃ ds,M2 p=some (.ls ds))/\R (.lst p) M2) I
  ⟨δ,M,_,rs,rm,t,fun items keep M1 J H1 x1 m1 k1 it h1=>⟨items,keep,M1,x1,m1,k1,it,h1⟩⟩) fun v s1 h1=>thn h1 fun itv s2 h2=>?_
 obtain⟨it,fp,tn,J,H2,e,I2,T,st2,f2,items,keep,M1,x1,m1,k1,itd,h2⟩:=h2;subst e;have hflt2:∀ b∈fp,b<s2.heap.objs.size:=fun b hb=>let ⟨o,e,_⟩:=T.obj _ _ st2 b hb;Heap.lt_size e
 have hp:H2 s2.heap.objs.size=none:=I2.hok.fresh %[|3];refine wpAny_newObj_type ?_;have I3:=I2.lnew (ys:=[]) (its:=[]) (t':=s2.toks) .nil (Nat.zero_le _);have x3:HExt X.K H2 (upd H2 s2.heap.objs.size (.lst [])):=.upd (.inl hp);obtain⟨k3,h3⟩:=h2 _ (m1.none hp);have m3:=m1.lst (vs:=[]) (ds:=[]) hp .nil
 revert I3
 generalize hs3:(({s2 with heap:=s2.heap.push {cls:=.type "list",data:=.seq ([]:List Value).toArray},toks:=s2.toks}:Shared))=s3;intro I3;have hh3:s3.heap=s2.heap.push {cls:=.type "list",data:=.seq ([]:List Value).toArray}:=by rw[<- hs3]
 have sz3:s3.heap.objs.size=s2.heap.objs.size+1:=by rw[hh3,Heap.size_push]
 have st3:tn 0 s3.heap:=T.keep _ _ _ st2 fun b _ o e=>by rw[hh3];exact Heap.get?_push_of_some _ e
 have hflt3:∀ b∈fp,b<s3.heap.objs.size:=fun b hb=>by rw[sz3];exact Nat.lt_succ_of_lt (hflt2 b hb)
 have f3:∀ b∈fp,FpOk X pins (upd H2 s2.heap.objs.size (.lst [])) b:=fun b hb=>⟨by rw[Y4 (Nat.ne_of_lt (hflt2 b hb))];exact (f2 b hb).1,(f2 b hb).2⟩;have goal3:wpAny (model X.prog X.w) X.A (newFunctionEnv scope X.env.globals (clos X.env.cells scope.names []) [] X.env.qual none .none (some X.env)) (fun cenv s₄ =>
   codeAny (model X.prog X.w) X.A (.compStart (.ListComp elt (⟨target,iter,ifs,0⟩::rest) scope pos) 0 (.ref it) (.ref s2.heap.objs.size) {cenv with scope:=relabel scope X.env})
    (compPost (model X.prog X.w) X.A X.xe use Post (.ref s2.heap.objs.size) cenv.locals) s₄) X.xe s3:=by
  refine wpAny_newFunctionEnv B.cell (by intro y hy;simp at hy) (fun h₁ hns₁ hsb₁=>?_) B.kind;have old:∀ b o,s3.heap.get? b=some o->h₁.get? b=some o:=fun b o e=>hsb₁.extBut b o (Nat.ne_of_lt (Heap.lt_size e)) (Heap.get?_push_of_some _ e);have I4:=BP (N':=N') (tk:=s3.toks+([]:List (Str×Value)).length) I3 B f3 hflt3 hns₁ old;obtain⟨hg,hbb⟩:=hb (clos X.env.cells scope.names []) s3.heap.objs.size s3 (upd H2 s2.heap.objs.size (.lst [])) fp s2.heap.objs.size;have st4:tn 0 h₁:=T.keep _ _ _ st3 fun b _ o e=>old b o e;have stat:∀ {H':Hp},(∀ b∈fp,H' b=none)->∀ b∈fp,FpOk (Yx X N' scope (clos X.env.cells scope.names []) s3.heap.objs.size s3 (upd H2 s2.heap.objs.size (.lst [])) fp []) [] H' b:=fun hn b hbb=>by
   obtain⟨g1,g2⟩:=I4.ok.exf b hbb;exact⟨hn b hbb,g1,I4.ok.exfs b hbb,.inl hbb,g2,fun p hp=>absurd (show p∈([]:List (Addr×Obj)) from hp) (by simp)⟩
  have loop:codeAny (model X.prog X.w) X.A (.compLoop (.ListComp elt (⟨target,iter,ifs,0⟩::rest) scope pos) 0 (.ref it) (.ref s2.heap.objs.size) (compEnvC scope (clos X.env.cells scope.names []) s3.heap.objs.size X.env))
    (compPost (model X.prog X.w) X.A X.xe use Post (.ref s2.heap.objs.size) s3.heap.objs.size) {s3 with heap:=h₁,toks:=s3.toks+([]:List (Str×Value)).length}:=by
   refine Dj (Y:=Yx X N' scope (clos X.env.cells scope.names []) s3.heap.objs.size s3 (upd H2 s2.heap.objs.size (.lst [])) fp []) (H0:=H2) hc rfl (ht _ _ _) (mono _ _) T itd hg hbb I4 (stat fun b hbb=>(f3 b hbb).1) st4 x3 ((rs.toSlots.ext (x1.trans x3)).more _) m3 k3 h3 ?_;intro s6 σ5 H5 δ5 M5 I6 x5 rs5 m5 h5;obtain⟨_,h5⟩:=h5;obtain⟨mC,nC,_⟩:=I6.loc;have key:∀ h',Heap.SameBut s3.heap.objs.size s6.heap h'->L2.Inv X pins σ H5 {s6 with heap:=h'}:=fun h' hsb=>by
    have ne:∀ b o,s3.heap.get? b=some o->b≠s3.heap.objs.size:=fun b o e=>Nat.ne_of_lt (Heap.lt_size e);have un:=I6.base;have un':Un (frs X.stack) fp (upd H2 s2.heap.objs.size (.lst [])) H5 s3.heap h' :=
     ⟨fun b o e n1 n2 n3=>hsb.extBut b o (ne b o e) (un.keep b o e n1 n2 n3),fun b o e n1 n2 n3=>let ⟨sl,z⟩:=un.slot b o e n1 n2 n3;⟨sl,hsb.extBut _ _ (ne b o e) z⟩,un.free,fun b o e n1=>let ⟨o',z⟩:=un.there b o e n1;⟨o',hsb.extBut _ _ (ne b o e) z⟩,un.tups,un.frzs,un.tbls⟩
    have hok':HOk X.prog X.w H5 h':=fun b ob e=>by
     refine (I6.hok b ob e).stay (fun c w' hc' q'=>hsb.extBut _ _ ?_ q') (fun _ q=>q) fun _ _ q=>q;rintro rfl;rcases hc' with rfl|hc'
     ·rw[show H5 s3.heap.objs.size=none from I6.free] at e;cases e
     ·rw[show H5 s3.heap.objs.size=none from I6.free] at hc';cases hc'
    exact I3.call' (ch:=fp) (s':={s6 with heap:=h'}) I6.os un' hok' I6.bare fun b hbb=>⟨(f3 b hbb).2.2.2.1,(f3 b hbb).2.1,(f3 b hbb).2.2.2.2.1,(f3 b hbb).2.2.2.2.2⟩
   exact fin s2.heap.objs.size s3.heap.objs.size s6 H5 M5 ((x1.trans x3).trans x5) m5 h5 (key _ (.refl _ _)) (I3.fpOk %[|3] I6.free) ⟨mC,nC⟩ key
  exact codeAny_compStart_list loop (T.self X.A 0 _ _ _ st4 loop)
 subst hs3;exact goal3
theorem JG (hc:X.calm=true) (B:BlkOk X.N X.env N' scope) (hi:PI X target iter (X1 (X.L rz Xe) ti))
  (W:Addr->Env->BW) (mono:∀ p env (A:Around) (Q Q':Shared->Prop) s,(∀ s',Q s'->Q' s')->W p env X.prog X.w A Q s->W p env X.prog X.w A Q' s)
  (hb:∀ cl C s H ex p,PG (Yx X N' scope cl C s H ex []) target (Zl ((Yx X N' scope cl C s H ex []).L false X0) g)/\PB (Yx X N' scope cl C s H ex []) (W p (Yx X N' scope cl C s H ex []).env) (b p))
  (ht:∀ it p env,XS (.ListComp elt (⟨target,iter,ifs,0⟩::rest) scope pos) target 0 it (.ref p) env (W p env))
  (hs:∀ x,foldedSetIterable iter X.env x=pure x):PE X (.ListComp elt (⟨target,iter,ifs,0⟩::rest) scope pos) (lift (X.L rz Xe) (XO (N'.length-X.N.length) ti g b)):=by
 rintro pins s σ H Q I ⟨δ,M,R,rs,rm,t,q⟩;rw[eval_ListComp];exact Uj hc B hi W mono hb ht hs (use:=none) I rs rm t (by rintro p C s6 H5 M5 x m r _ _ ⟨mC,nC⟩ key;exact⟨mC,nC,fun h' hsb=>⟨.ref p,H5,key h' hsb,rfl,q _ _ _ _ x m (.lst _) r⟩⟩)
theorem FO (hi:PI X target iter (X1 (X.L rz Xe) ti)):PI X target iter (X1 (X.L rz Xe) (iUp ti)):=by
 intro pins s σ H R I h;obtain⟨δ,M,Rd,rs,rm,⟨R0,t,q0⟩,q⟩:=h;exact hi pins s σ H R I ⟨δ,M,R0,rs,rm,t,fun items keep M' J H' x m k it h=>q items keep M' J H' x m k it (q0 _ _ _ h)⟩
theorem FP (hg:PG Y target (Zl (Y.L false X0) g)):PG Y target (Zl (Y.L false X0) (gUp g)):=by
 intro pins s σ H v u Q I r h;obtain⟨d,δ,M,R,rd,rs,rm,⟨R0,t,q0⟩,q⟩:=h;exact hg pins s σ H v u Q I r ⟨d,δ,M,R0,rd,rs,rm,t,fun δ' M' σ' H' x s' m h=>q δ' M' σ' H' x s' m (q0 _ _ h)⟩
theorem FQ (he:PE Y elt (lift (Y.L false X0) te)):PE Y elt (lift (Y.L false X0) (eUp te)):=by
 intro pins s σ H Q I h;obtain⟨δ,M,R,rs,rm,⟨R0,t,q0⟩,q⟩:=h;exact he pins s σ H Q I ⟨δ,M,R0,rs,rm,t,fun d M' v H' x m r h=>q d M' v H' x m r (q0 _ _ h)⟩
theorem FB (hc:X.calm=true) (B:BlkOk X.N X.env N' scope) (hi:PI X target iter (X1 (X.L rz Xe) ti))
  (hb:∀ cl C s H ex,PG (Yx X N' scope cl C s H ex []) target (Zl ((Yx X N' scope cl C s H ex []).L false X0) g)/\PE (Yx X N' scope cl C s H ex []) elt (lift ((Yx X N' scope cl C s H ex []).L false X0) te))
  (hs:∀ x,foldedSetIterable iter X.env x=pure x):PE X (.ListComp elt [⟨target,iter,[],0⟩] scope pos) (lift (X.L rz Xe) (YQ (N'.length-X.N.length) ti g te)) :=
 (JG hc B (FO hi) (fun p env=>Wb elt (.ref p) env) (fun _ _=>Xi) (fun cl C s H ex p=>⟨FP (hb cl C s H ex).1,V1 rfl (FQ (hb cl C s H ex).2)⟩) (fun _ _ _=>J0) hs).imp
  fun σ H Q h=>by obtain⟨δ,M,R,rs,rm,t,q⟩:=h;exact⟨δ,M,R,rs,rm,JI t,q⟩
theorem AW {ti:(DSt->DK)->DI} {i:Nat} {x:Str} {pos' pos2:Pos} (hc:X.calm=true) (B:BlkOk X.N X.env N' scope) (hit:∀ Xe,PI X target iter (X1 (X.L rz Xe) (ti Xe)))
  (W:Addr->Env->BW) (mono:∀ p env (A:Around) (Q Q':Shared->Prop) s,(∀ s',Q s'->Q' s')->W p env X.prog X.w A Q s->W p env X.prog X.w A Q' s)
  (hb:∀ cl C s H ex p,PG (Yx X N' scope cl C s H ex []) target (Zl ((Yx X N' scope cl C s H ex []).L false X0) g)/\PB (Yx X N' scope cl C s H ex []) (W p (Yx X N' scope cl C s H ex []).env) (b p))
  (ht:∀ it p env,XS (.ListComp elt (⟨target,iter,ifs,0⟩::rest) scope pos) target 0 it (.ref p) env (W p env))
  (hs:∀ x,foldedSetIterable iter X.env x=pure x) (hsw:swapsWith (.ListComp elt (⟨target,iter,ifs,0⟩::rest) scope pos) (some (.Name x pos')) pos2.line X.env=pure true)
  (hN:X.N.Nodup) (hi:X.N[i]?=some x) (hx:Loc X.env.scope x) (hf:X.fn x=true\/X.env.scope.names.lookup x=some .local) :
  PS X (.Assign [.Name x pos'] (.ListComp elt (⟨target,iter,ifs,0⟩::rest) scope pos) pos2) (YE X rz (dAsg (fun Xe=>XO (N'.length-X.N.length) (ti Xe) g b) fun _=>ZE i)):=by
 rintro pins s σ H E I ⟨δ,M,D,rs,rm,t,n,r,b,c⟩;rw[exec_Assign_Name_used _ _ _ _ hsw,arm_evalThenUse_ListComp];refine wpAny_bind (wpAny_standAt ?_);refine wpAny_bind (wpAny_bind (Uj hc B (hit D.ex) W mono hb ht hs (R:=fun d M1=>D.nx (δ.set i (some d)) M1) I rs rm t fun p C s6 H5 M5 x m r I5 fpc hq10 key=>?_));obtain⟨mC,nC⟩:=hq10;obtain⟨o,es,ep,ho,hd,hsk,hmm⟩:=id nC;have I5':=I5.pinned (fp:=[C]) (fun b hb=>by simp at hb;subst hb;exact fpc) (fun b hb=>by simp at hb;subst hb;exact⟨o,ho,fun v z=>by rw[hd] at z;cases z⟩);refine wpAny_assign_Name (Z6 I5' hN hi hx (v:=.ref p) rfl (fun s7 I7=>?_) hf);have hp7:(C,o)∈Vt [C] s6.heap:=ZB (by simp) ho;have h7:=(I7.pin (C,o) (List.mem_append_right _ (List.mem_append_right _ hp7))).1;refine⟨mC,⟨o,es,ep,h7,hd,hsk,hmm⟩,fun h' hsb=>?_⟩;have I8:=(I7.unpinned (pins:=pins)).turned (it:=C) (h':=h') (t':=s7.toks) (fun b o hb e=>(hsb.2 b hb).trans e) fpc.1 fpc.2.1 fpc.2.2.2.1 fpc.2.2.2.2.1 fpc.2.2.2.2.2
 exact wpAny_pure (wpAny_pure ⟨_,H5,I8,n _ _ _ _ x ((rs.ext x).set (.lst _) i) m r⟩)
theorem Fs {te:DE} {ti:(DSt->DK)->DI} {i:Nat} {x:Str} {pos' pos2:Pos} (hc:X.calm=true) (B:BlkOk X.N X.env N' scope) (hit:∀ Xe,PI X target iter (X1 (X.L rz Xe) (ti Xe)))
  (hb:∀ cl C s H ex,PG (Yx X N' scope cl C s H ex []) target (Zl ((Yx X N' scope cl C s H ex []).L false X0) g)/\PE (Yx X N' scope cl C s H ex []) elt (lift ((Yx X N' scope cl C s H ex []).L false X0) te))
  (hs:∀ x,foldedSetIterable iter X.env x=pure x) (hsw:swapsWith (.ListComp elt [⟨target,iter,[],0⟩] scope pos) (some (.Name x pos')) pos2.line X.env=pure true)
  (hN:X.N.Nodup) (hi:X.N[i]?=some x) (hx:Loc X.env.scope x) (hf:X.fn x=true\/X.env.scope.names.lookup x=some .local) :
  PS X (.Assign [.Name x pos'] (.ListComp elt [⟨target,iter,[],0⟩] scope pos) pos2) (YE X rz (dAsg (fun Xe=>YQ (N'.length-X.N.length) (ti Xe) g te) fun _=>ZE i)):=by
 rintro pins s σ H E I ⟨δ,M,D,rs,rm,t,n,r,b,c⟩;exact AW hc B (fun Xe=>FO (hit Xe)) (fun p env=>Wb elt (.ref p) env) (fun _ _=>Xi) (fun cl C s H ex p=>⟨FP (hb cl C s H ex).1,V1 rfl (FQ (hb cl C s H ex).2)⟩) (fun _ _ _=>J0) hs hsw hN hi hx hf pins s σ H E I ⟨δ,M,D,rs,rm,JI (show YQ (N'.length-X.N.length) (ti D.ex) g te δ M (fun d M1=>D.nx (δ.set i (some d)) M1) from t),n,r,b,c⟩
end
end DL
end
noncomputable section
namespace DL
open PySem PySem.Spec PyProof.Rows L2
noncomputable def fSum:List D->Mem->DK->Prop
 | [.lst a],M,Q=>∃ bs:List Bool,M a=some (.ls (bs.map .bl))/\Q (.int (bs.count true)) M
 | _,_,_=>False
section
variable {X:Cx}
noncomputable def IxAt (M:Mem) (xs:List D) (d:D) (j:Nat):Prop:=∃ ps p,Pys M xs ps/\Py M d p/\p.depth<=60/\xs.length<1000/\j<ps.length/\ps.findIdx (fun q=>PyData.eqv q p)=j
end
section
variable {X:Cx}
end
section
variable {X:Cx}
end
end DL
end
noncomputable section
namespace DL
open PySem PySem.Spec PyProof.Rows L2
noncomputable def X6 {α:Type} (xs:List α) (k:Int) (y:α):List α:=xs.take k.toNat++y::xs.drop k.toNat
noncomputable def EG:V->List V->Hp->VK->Prop:=fun x vs H Q=>∃ l xs k y,x=.ref l/\vs=[.int k,y]/\H l=some (.lst xs)/\0<=k/\k<=xs.length/\xs.length<sizeLine/\Q .non (upd H l (.lst (X6 xs k y)))
theorem Bu (xs:List α) (k:Int) (y:α):(X6 xs k y).length=xs.length+1:=by
 unfold X6;simp;omega
section
variable {X:Cx}
theorem Bo:MtM X "list.insert" EG:=by
 intro pins s σ H x vs v us Q I rx rv h;obtain⟨l,xs,k,y,rfl,rfl,hH,k0,k1,hz,q⟩:=h
 (first|cases (show _=_ from rx.inv)|cases rx)
 obtain⟨u1,u2,rfl,r1,r2⟩:=WD rv;obtain⟨t,rfl⟩:=r1;obtain⟨z,its,n,r,hl,e⟩:=I.lstM hH;have sl:sizeLine=16777216:=by decide
 have hlen:=r.length;have hfit:¬ (!Builtin.List.listFitsIndex k)=true:=by
  unfold Builtin.List.listFitsIndex;simp;omega
 refine call_meets F.slot_list_insert ⟨_,e,rfl⟩ F.entry_list_insert (F.args_list_insert_3 _ _ _) (AutoListH.list_insert_list_int_val_1 l its.toArray n k t u2 hfit (by rw[List.size_toArray];omega)) ⟨e,?_⟩;refine⟨.non,_,I.lset (its':=X6 its k u2) hH e ?_ ?_ ?_,rfl,q⟩
 ·have hk:(if k<0 then (k+((its.toArray.size:Nat):Int)).toNat else min k.toNat its.toArray.size)=k.toNat:=by
   rw[if_neg %[|5],List.size_toArray];omega
  show ((its.toArray.extract 0 (if k<0 then (k+((its.toArray.size:Nat):Int)).toNat else min k.toNat its.toArray.size)).push u2++its.toArray.extract (if k<0 then (k+((its.toArray.size:Nat):Int)).toNat else min k.toNat its.toArray.size))=_;rw[hk];unfold X6;simp[List.extract_eq_take_drop,List.take_of_length_le]
 ·exact (r.take _).append (.cons r2 (r.drop _))
 ·rw[Bu];omega
end
end DL
end
noncomputable section
namespace DL
open PySem PySem.Spec PyProof.Rows L2
abbrev zh1 (h:Heap) (b:Addr):Heap:=h.push {cls:=.type "tuple_iterator",data:=.fields #[.ref b,.int 0 0]}
abbrev zh2 (h:Heap) (b c:Addr):Heap:=(zh1 h b).push {cls:=.type "tuple_iterator",data:=.fields #[.ref c,.int 0 0]}
abbrev zh3 (h:Heap) (b c:Addr):Heap:=(zh2 h b c).push {cls:=.type "tuple",data:=.seq #[.ref h.objs.size,.ref (zh1 h b).objs.size]}
abbrev zh4 (h:Heap) (b c:Addr):Heap:=(zh3 h b c).push {cls:=.type "tuple",data:=.seq #[.none,.none]}
abbrev zh5 (h:Heap) (b c:Addr):Heap:=(zh4 h b c).push {cls:=.type "zip",data:=.fields #[.none,.bool false,.bool false,.ref (zh2 h b c).objs.size,.ref (zh3 h b c).objs.size]}
theorem De (b c:Addr) (xs ys:Array Value) :
  Meets (Builtin.«zip.__new__» ⟨[.type "zip",.ref b,.ref c],[]⟩) (fun _ R s=>s.heap.IsTuple b xs/\s.heap.IsTuple c ys/\R (.ok (.ret (.ref (zh4 s.heap b c).objs.size))) {s with heap:=zh5 s.heap b c}) :=
 .of_wp fun prog w A R s h=>by
  obtain⟨hp,g,d,tk,os⟩:=s;obtain⟨h1,h2,h⟩:=h;have hsub:=sub_zip;have t1:Heap.IsTuple (Shared.heap ⟨hp,g,d,tk,os⟩) b xs:=h1;have t2:Heap.IsTuple (Shared.heap ⟨hp.push {cls:=.type "tuple_iterator",data:=.fields #[.ref b,.int 0 0]},g,d,tk,os⟩) c ys:=by
   obtain⟨o,e,r⟩:=h2;exact⟨o,Heap.get?_push_of_some _ e,r⟩
  wp_walk using wpAny_pyIter_tuple t1,wpAny_pyIter_tuple t2
  exact⟨_,rfl,h⟩
section
variable {prog:Program} {w:World} {A:Around} {E:Value->Shared->Prop} {s:Shared}
theorem FI (hb:s.heap.IsTuple b xs) (hc:s.heap.IsTuple c ys)
  (q:∀ g,zTn (s.heap.objs.size+4) (s.heap.objs.size+2) (s.heap.objs.size+3) s.heap.objs.size (s.heap.objs.size+1) b c 0 g->(∀ k o,s.heap.get? k=some o->g.get? k=some o)->Q (.ref (s.heap.objs.size+4)) {s with heap:=g}) :
  wpAny (model prog w) A (call (.type "zip") [.ref b,.ref c]) Q E s:=by
 refine callType_new F.called_zip %[|4] (F.typeCall_zip_2 _ _) (F.newCall_zip_2 _ _) (fun obj=>F.args_object_init_3 obj _ _) F.entry_zip_new (De b c xs ys) ⟨hb,hc,?_⟩;have z1:(zh1 s.heap b).objs.size=s.heap.objs.size+1:=Heap.size_push ..;have z2:(zh2 s.heap b c).objs.size=s.heap.objs.size+2:=by rw[Heap.size_push,z1]
 have z3:(zh3 s.heap b c).objs.size=s.heap.objs.size+3:=by rw[Heap.size_push,z2]
 have z4:(zh4 s.heap b c).objs.size=s.heap.objs.size+4:=by rw[Heap.size_push,z3]
 have g5:(zh5 s.heap b c).get? (zh4 s.heap b c).objs.size=some _:=Heap.get?_push_size _ rfl;have g4:(zh5 s.heap b c).get? (zh3 s.heap b c).objs.size=some _:=Heap.get?_push_of_some _ (Heap.get?_push_size _ rfl);have g3:(zh5 s.heap b c).get? (zh2 s.heap b c).objs.size=some _:=Heap.get?_push_of_some _ (Heap.get?_push_of_some _ (Heap.get?_push_size _ rfl));have g2:(zh5 s.heap b c).get? (zh1 s.heap b).objs.size=some _:=Heap.get?_push_of_some _ (Heap.get?_push_of_some _ (Heap.get?_push_of_some _ (Heap.get?_push_size _ rfl)));have g1:(zh5 s.heap b c).get? s.heap.objs.size=some _:=Heap.get?_push_of_some _ (Heap.get?_push_of_some _ (Heap.get?_push_of_some _ (Heap.get?_push_of_some _ (Heap.get?_push_size _ rfl))));show _/\_;rw[z2,z3,z4] at g5;rw[z1,z2] at g3;rw[z3] at g4;rw[z1] at g2;rw[z4];exact⟨⟨_,g5,rfl⟩,q _ ⟨g5,g3,⟨_,_,g4⟩,⟨_,g1,rfl,rfl⟩,⟨_,g2,rfl,rfl⟩⟩ fun k o x=>Heap.get?_push_of_some _ (Heap.get?_push_of_some _ (Heap.get?_push_of_some _ (Heap.get?_push_of_some _ (Heap.get?_push_of_some _ x))))⟩
end
noncomputable def ItzL (K:Frag) (b c:Addr):It :=
  ⟨fun i H=>∃ xs ys x y,SqL K H b xs/\SqL K H c ys/\xs[i]?=some x/\ys[i]?=some y,
   fun i H x H'=>∃ T p q,H T=none/\x=.ref T/\H'=upd H T (.tup [p,q])/\(∀ xs,SqL K H b xs->xs[i]?=some p)/\∀ ys,SqL K H c ys->ys[i]?=some q,
   fun i H=>∃ xs ys,SqL K H b xs/\SqL K H c ys/\(xs.length<=i\/ys.length<=i)⟩
noncomputable def zTnL (z u v i j b c:Addr) (n:Nat) (h:Heap):Prop:=IsZip h z u v .none/\IsPair h u (.ref i) (.ref j)/\(∃ a d,IsPair h v a d)/\h.IsListIter i b n/\h.IsListIter j c n
theorem B7 {P:Program} {w:World} {K:Frag} {elts:List Expr} {x1:Nat} {pos:Pos} {z u v i j b c:Addr} (D:ZipApart z u v i j b c) :
  Turn P w K (.Tuple elts x1 pos) (ItzL K b c) [z,u,v,i,j] z (zTnL z u v i j b c) where
 mem:=by simp
 obj:=fun n h st k hk=>by
  obtain⟨hz,hu,⟨a,d,hv⟩,⟨o1,e1,_,d1⟩,⟨o2,e2,_,d2⟩⟩:=st;simp only[List.mem_cons,List.not_mem_nil,or_false] at hk;rcases hk with rfl|rfl|rfl|rfl|rfl
  ·exact⟨_,hz,fun w e=>nomatch e⟩
  ·exact⟨_,hu,fun w e=>nomatch e⟩
  ·exact⟨_,hv,fun w e=>nomatch e⟩
  ·exact⟨_,e1,fun w e=>by rw[d1] at e;cases e⟩
  ·exact⟨_,e2,fun w e=>by rw[d2] at e;cases e⟩
 keep:=fun n h h' st k=>by
  obtain⟨hz,hu,⟨a,d,hv⟩,h1,h2⟩:=st;exact⟨k z (by simp) _ hz,k u (by simp) _ hu,⟨a,d,k v (by simp) _ hv⟩,h1.at fun o e=>k i (by simp) o e,h2.at fun o e=>k j (by simp) o e⟩
 item:=by
  intro X hP hw hK hc n pins s σ H E I hf st hg;subst hP hw hK;obtain⟨hz,hu,⟨a,d,hv⟩,h1,h2⟩:=st;obtain⟨xs,ys,x,y,q1,q2,hx,hy⟩:=hg;obtain⟨its,rv,p,sz1⟩:=I.list q1;obtain⟨its',rv',p',sz2⟩:=I.list q2;obtain⟨vx,hvx,rx⟩:=rv.get hx;obtain⟨vy,hvy,ry⟩:=rv'.get hy;refine wpAny_pyNext_zip_item D hz hu hv h1 h2 p.isList p'.isList (x:=vx) (y:=vy) (by simpa using hvx) (by simpa using hvy) fun g a1 a2 a3 a4 a5 a6 a7=>?_;have lt:∀ {k o},s.heap.get? k=some o->k≠s.heap.objs.size:=fun e=>Nat.ne_of_lt (Heap.lt_size e);have li:i≠s.heap.objs.size:=by obtain⟨o,e,_⟩:=h1;exact lt e
  have lj:j≠s.heap.objs.size:=by obtain⟨o,e,_⟩:=h2;exact lt e
  refine⟨_,rfl,wpAny_letOwnedTupleGo_zip a1 fun g' z' sb=>?_⟩;have tp:IsPair g' s.heap.objs.size vx vy:=sb.extBut _ _ (Ne.symm (lt hz)) a5;have nf:H s.heap.objs.size=none:=I.hok.fresh %[|3];have I1:Inv X pins σ (upd H s.heap.objs.size (.tup [x,y])) {s with heap:=s.heap.push {cls:=.type "tuple",data:=.seq #[vx,vy]},toks:=s.toks} :=
   I.laid (fun k o e=>Heap.get?_push_of_some _ e) %[|3] ⟨by simp only[List.length_cons,List.length_nil];rw[sizeLine_eq];decide,[vx,vy],.cons rx (.cons ry .nil),⟨_,Heap.get?_push_size _ rfl,rfl,_,rfl⟩⟩
  have ff:∀ k∈[z,u,v,i,j],k≠s.heap.objs.size:=fun k hk=>by
   simp only[List.mem_cons,List.not_mem_nil,or_false] at hk;rcases hk with rfl|rfl|rfl|rfl|rfl
   ·exact lt hz
   ·exact lt hu
   ·exact lt hv
   ·exact li
   ·exact lj
  have f':∀ k∈[z,u,v,i,j],FpOk X pins (upd H s.heap.objs.size (.tup [x,y])) k:=fun k hk=>⟨by rw[Y4 (ff k hk)];exact (hf k hk).1,(hf k hk).2⟩;have I2:Inv X pins σ (upd H s.heap.objs.size (.tup [x,y])) {s with heap:=g',toks:=s.toks}:=by
   refine Zg (s:={s with heap:=s.heap.push {cls:=.type "tuple",data:=.seq #[vx,vy]},toks:=s.toks}) (h':=g') (t':=s.toks) I1 (fun k o hk e=>?_) f';rcases Heap.get?_push_cases e with ⟨rfl,rfl⟩|e'
   ·exact tp
   ·simp only[List.mem_cons,List.not_mem_nil,or_false,not_or] at hk
    exact sb.extBut _ _ hk.1 (a7 k o hk.1 hk.2.2.1 hk.2.2.2.1 hk.2.2.2.2 e')
  refine⟨.ref s.heap.objs.size,_,I2,rfl,⟨_,x,y,nf,rfl,rfl,fun xs' q=>by rw[I.list_inj q q1];exact hx,fun ys' q=>by rw[I.list_inj q q2];exact hy⟩,?_,fun k hk=>(f' k hk).1⟩;exact⟨z',sb.extBut _ _ D.TIz (a7 _ _ D.TIz D.TITO D.TIi1 D.TIi2 hu),⟨_,_,sb.extBut _ _ D.TOz a2⟩,a3.extBut sb.extBut D.i1z,a4.extBut sb.extBut D.i2z⟩
 done:=by
  intro X hP hw hK hc n pins s σ H E I hf st hg;subst hP hw hK;obtain⟨hz,hu,⟨a,d,hv⟩,h1,h2⟩:=st;obtain⟨xs,ys,q1,q2,hx⟩:=hg;obtain⟨its,rv,p,sz1⟩:=I.list q1;obtain⟨its',rv',p',sz2⟩:=I.list q2;have l1:=rv.length;have l2:=rv'.length;refine wpAny_pyNext_zip_end (I.ok.hd hc) D hz hu hv h1 h2 p.isList p'.isList (by rcases hx with hx|hx;exact .inl (by simp;omega);exact .inr (by simp;omega)) fun g k=>⟨rfl,Zg (h':=g) (t':=s.toks) I (fun m o hm e=>?_) hf⟩;simp only[List.mem_cons,List.not_mem_nil,or_false,not_or] at hm;exact k m o hm.1 hm.2.2.1 hm.2.2.2.1 hm.2.2.2.2 e
 self:=fun _ _ _ _ _ st h=>wpAny_pyIter_zip st.1 h
noncomputable def zipD (xs ys:List D):List D:=List.zipWith (fun x y=>.tup [x,y]) xs ys
noncomputable def Vz:List D->Mem->(List D->(Mem->Prop)->Mem->Prop)->Prop
 | [.tup xs,.tup ys],M,R=>R (zipD xs ys) (fun _=>True) M
 | [.lst a,.lst b],M,R=>∃ xs ys,M a=some (.ls xs)/\M b=some (.ls ys)/\R (zipD xs ys) (fun M'=>M' a=some (.ls xs)/\M' b=some (.ls ys)) M
 | _,_,_=>False
noncomputable def Z4 (ta:DA):DI:=fun δ M R=>ta δ M fun ds M1=>Vz ds M1 R
theorem Fj {K:Frag} {H0:Hp} {a b:Addr} {vs ws:List V} {xs ys:List D} (ha:SqT K H0 a vs) (hb:SqT K H0 b ws) (r:RelDs K H0 vs xs) (q:RelDs K H0 ws ys):ItD K H0 (Itz K a b) (zipD xs ys) (fun _=>True):=fun i H M x m k=>by
 have ha':=x.tup _ _ ha;have hb':=x.tup _ _ hb;have r':=r.ext x;have q':=q.ext x;have l1:=r.length;have l2:=q.length;refine⟨fun hl=>?_,fun hl=>?_,fun y H' hy=>?_⟩
 ·simp only[zipD,List.length_zipWith] at hl
  exact⟨vs,ws,vs[i]'%[|5],ws[i]'%[|5],ha',hb',List.getElem?_eq_getElem _,List.getElem?_eq_getElem _⟩
 ·simp only[zipD,List.length_zipWith] at hl
  exact⟨vs,ws,ha',hb',by omega⟩
 ·obtain⟨T,p,p',hn,rfl,rfl,e1,e2⟩:=hy
  have ex:HExt K H (L2.upd H T (.tup [p,p'])):=HExt.upd (.inl hn);refine⟨ex,m.tup hn,fun d hd=>?_⟩;simp only[zipD,List.getElem?_zipWith] at hd;have f1:=e1 _ ha';have f2:=e2 _ hb';cases h1:xs[i]? with
  | none=>rw [h1] at hd;simp at hd
  | some dx =>
   cases h2:ys[i]? with
   | none=>rw [h1,h2] at hd;simp at hd
   | some dy =>
    rw[h1,h2] at hd;simp at hd;subst hd;obtain⟨v1,g1,g2⟩:=r'.get h1;obtain⟨v2,g3,g4⟩:=q'.get h2;rw[f1] at g1;cases g1;rw[f2] at g3;cases g3;exact .tup (.inl (.of L2.upd_same)) (.cons (g2.ext ex) (.cons (g4.ext ex) .nil))
theorem Dn {K:Frag} {H0:Hp} {a b:Addr} {xs ys:List D}:ItD K H0 (ItzL K a b) (zipD xs ys) (fun M'=>M' a=some (.ls xs)/\M' b=some (.ls ys)):=fun i H M x m k=>by
 obtain⟨vs,ev,r'⟩:=m _ _ k.1;obtain⟨ws,ew,q'⟩:=m _ _ k.2;have l1:=r'.length;have l2:=q'.length;refine⟨fun hl=>?_,fun hl=>?_,fun y H' hy=>?_⟩
 ·simp only[zipD,List.length_zipWith] at hl
  exact⟨vs,ws,vs[i]'%[|5],ws[i]'%[|5],.of ev,.of ew,List.getElem?_eq_getElem _,List.getElem?_eq_getElem _⟩
 ·simp only[zipD,List.length_zipWith] at hl
  exact⟨vs,ws,.of ev,.of ew,by omega⟩
 ·obtain⟨T,p,p',hn,rfl,rfl,e1,e2⟩:=hy
  have ex:HExt K H (L2.upd H T (.tup [p,p'])):=HExt.upd (.inl hn);refine⟨ex,m.tup hn,fun d hd=>?_⟩;simp only[zipD,List.getElem?_zipWith] at hd;have f1:=e1 _ (.of ev);have f2:=e2 _ (.of ew);cases h1:xs[i]? with
  | none=>rw [h1] at hd;simp at hd
  | some dx =>
   cases h2:ys[i]? with
   | none=>rw [h1,h2] at hd;simp at hd
   | some dy =>
    rw[h1,h2] at hd;simp at hd;subst hd;obtain⟨v1,g1,g2⟩:=r'.get h1;obtain⟨v2,g3,g4⟩:=q'.get h2;rw[f1] at g1;cases g1;rw[f2] at g3;cases g3;exact .tup (.inl (.of L2.upd_same)) (.cons (g2.ext ex) (.cons (g4.ext ex) .nil))
section
variable {X:Cx} {rz:Bool} {Xe:DSt->DK} {pos:Pos}
theorem HP {a:Expr} {es:List Expr} {ta:DA} {p:Pos} {elts:List Expr} {x1:Nat} {tp:Pos} (hg:Gl X "zip") (hm:X.mg "zip"=none) (ha:PA X (a::es) (Zo (X.L rz Xe) ta)) (hs:starEach (a::es) X.env=(false,eval a X.env)::starEach es X.env) (hpl:(backTo pos (starEach es X.env)).any (·.1)=false) :
  PI X (.Tuple elts x1 tp) (.Call (.Name "zip" p) (a::es) [] pos) (X1 (X.L rz Xe) (Z4 ta)):=by
 rintro pins s σ H R I ⟨δ,M,Rd,rs,rm,t,q⟩;refine Call_ (ZS I hg hm boot_zip (PyProof.Rows.callWith_type1 (thn (ha pos pins s σ H (fun vs H1=>(∃ b c xs ys,vs=[.ref b,.ref c]/\SqT X.K H1 b xs/\SqT X.K H1 c ys/\R (Itz X.K b c) H1)\/∃ b c xs ys,vs=[.ref b,.ref c]/\SqL X.K H1 b xs/\SqL X.K H1 c ys/\R (ItzL X.K b c) H1) I ⟨δ,M,_,rs,rm,t,fun ds M1 vs H1 x1 m1 r1 h1=>?_⟩) fun us s1 ⟨vs,H1,I1,r1,q1⟩=>?_) hs hpl))
 ·unfold Vz at h1
  split at h1
  ·refine r1.inv2 fun v w ev ra rb=>?_
   obtain⟨b,xs,e1,ha,ra⟩:=ra.inv;obtain⟨c,ys,e2,hb,rb⟩:=rb.inv;exact .inl ⟨_,_,_,_,by rw[ev,e1,e2],ha,hb,q _ _ _ _ _ x1 m1 trivial (Fj ha hb ra rb) h1⟩
  ·obtain⟨xs,ys,ea,eb,h1⟩:=h1
   refine r1.inv2 fun v w e0 ra rb=>?_;have e1:=ra.inv;have e2:=rb.inv;obtain⟨vs,ev,_⟩:=m1 _ _ ea;obtain⟨ws,ew,_⟩:=m1 _ _ eb;exact .inr ⟨_,_,_,_,by rw[e0,show v=_ from e1,show w=_ from e2],.of ev,.of ew,q _ _ _ _ _ x1 m1 ⟨ea,eb⟩ Dn h1⟩
  ·exact h1.elim
 ·rcases q1 with q1|q1
  ·obtain⟨b,c,xs,ys,e,hb,hc,q⟩:=q1
   subst e;refine VU r1 fun u w eu r r'=>?_;subst eu;cases (show u=Value.ref b from r);cases (show w=Value.ref c from r');obtain⟨its,rv,pb,_⟩:=I1.tuple hb;obtain⟨its',rv',pc,_⟩:=I1.tuple hc;have lb:b<s1.heap.objs.size:=by obtain⟨o,e,_⟩:=pb;exact Heap.lt_size e
   have lc:c<s1.heap.objs.size:=by obtain⟨o,e,_⟩:=pc;exact Heap.lt_size e
   refine FI (show s1.heap.IsTuple b its.toArray from pb) (show s1.heap.IsTuple c its'.toArray from pc) fun g st k=>?_;refine wpAny_pyIter_zip st.1 ?_;refine⟨_,[s1.heap.objs.size+4,s1.heap.objs.size+2,s1.heap.objs.size+3,s1.heap.objs.size,s1.heap.objs.size+1],_,_,H1,rfl,I1.kept (t':=s1.toks) k,BZ (zipApart_new lb lc),st,fun m hm=>?_,q⟩;have le:s1.heap.objs.size<=m:=by
    simp only[List.mem_cons,List.not_mem_nil,or_false] at hm;rcases hm with rfl|rfl|rfl|rfl|rfl
    ·exact Nat.le_add_right _ _
    ·exact Nat.le_add_right _ _
    ·exact Nat.le_add_right _ _
    ·exact Nat.le_refl _
    ·exact Nat.le_add_right _ _
   exact I1.fpOk le (I1.hok.fresh le)
  ·obtain⟨b,c,xs,ys,e,hb,hc,q⟩:=q1
   subst e;refine VU r1 fun u w eu r r'=>?_;subst eu;cases (show u=Value.ref b from r);cases (show w=Value.ref c from r');obtain⟨its,rv,pb,_⟩:=I1.list hb;obtain⟨its',rv',pc,_⟩:=I1.list hc;have lb:b<s1.heap.objs.size:=by obtain⟨o,e,_⟩:=pb.isList;exact Heap.lt_size e
   have lc:c<s1.heap.objs.size:=by obtain⟨o,e,_⟩:=pc.isList;exact Heap.lt_size e
   refine call_zip_2 pb.isList pc.isList fun g st1 st2 st3 st4 st5 _ k=>?_;refine wpAny_pyIter_zip st1 ?_;refine⟨_,[s1.heap.objs.size+4,s1.heap.objs.size+2,s1.heap.objs.size+3,s1.heap.objs.size,s1.heap.objs.size+1],_,_,H1,rfl,I1.kept (t':=s1.toks) k,B7 (zipApart_new lb lc),⟨st1,st2,⟨_,_,st3⟩,st4,st5⟩,fun m hm=>?_,q⟩;have le:s1.heap.objs.size<=m:=by
    simp only[List.mem_cons,List.not_mem_nil,or_false] at hm;rcases hm with rfl|rfl|rfl|rfl|rfl
    ·exact Nat.le_add_right _ _
    ·exact Nat.le_add_right _ _
    ·exact Nat.le_add_right _ _
    ·exact Nat.le_refl _
    ·exact Nat.le_add_right _ _
   exact I1.fpOk le (I1.hok.fresh le)
end
end DL
end
noncomputable section
namespace DL
open PySem PySem.Spec PyProof.Rows L2
section
variable {prog:Program} {w:World} {A:Around} {E:Value->Shared->Prop} {s:Shared}
theorem BD {e it l:Addr} {i:Nat} {items:Array Value} {old:Value} {Q:Option Value->Shared->Prop} (hh:A.handled=none)
  (he:IsEnum s.heap e it i old) (hit:s.heap.IsTupleIter it l i) (hl:s.heap.IsTuple l items) (hx:items[i]?=none)
  (hQ:∀ h',Heap.ExtBut it s.heap h'->Q none {s with heap:=h'}):wpAny (model prog w) A (pyNext (.ref e)) Q E s:=by
 have hT:s.TypeIs (.ref e) "enumerate":=⟨_,he,rfl⟩;unfold pyNext;refine wpAny_bind (wpAny_attempt (wpAny_callSpecial?_slot (name:=Str.ofString "__next__") hT F.slot_enumerate_next
  (wpAny_call_entry F.slot_enumerate_next hT F.entry_enumerate_next ?_ (F.args_enumerate_next_1 _))))
 show wpAny _ _ (field (.ref e) 2 >>= _) _ _ _;refine wpAny_bind (wpAny_field he rfl (x:=.ref it) rfl ?_);refine wpAny_bind (UF hh hit hl hx fun h' x he' hx'=>?_);obtain⟨o,ho,hc⟩:=hx';refine wpAny_bind (wpAny_isInstance (T:="StopIteration") (b:=true) ⟨o,ho,hc⟩ isSubtype_stop ?_);exact wpAny_pure (hQ _ he')
theorem BE {e it l:Addr} {i:Nat} {items:Array Value} {old:Value} {Q:Option Value->Shared->Prop} (hh:A.handled=none)
  (he:IsEnum s.heap e it i old) (hit:s.heap.IsListIter it l i) (hl:s.heap.IsList l items) (hx:items[i]?=none)
  (hQ:∀ h',Heap.ExtBut it s.heap h'->Q none {s with heap:=h'}):wpAny (model prog w) A (pyNext (.ref e)) Q E s:=wpAny_pyNext_enum_end hh he hit hl hx hQ
theorem Df (l:Addr) (items:Array Value) (n:Nat) (dct:Option Addr) (sl:Array (Option Value)) :
  Meets (Builtin.«enumerate.__new__» ⟨[.type "enumerate",.ref l],[]⟩) (fun _ R s=>s.heap.get? l=some {cls:=.type "tuple",dict:=dct,data:=.seq items n,slots:=sl} /\
   R (.ok (.ret (.ref (s.heap.push {cls:=.type "tuple_iterator",data:=.fields #[.ref l,.int 0 0]}).objs.size)))
    {s with heap:=(s.heap.push {cls:=.type "tuple_iterator",data:=.fields #[.ref l,.int 0 0]}).push {cls:=.type "enumerate",data:=.fields #[.none,.bool false,.ref s.heap.objs.size,rawInt 0,.none,.none]}}) :=
 .of_wp fun prog w A R s h=>by
  obtain⟨hp,g,d,tk,os⟩:=s;obtain⟨hl,h⟩:=h;have hsub:=sub_enumerate;have hL:Heap.IsTuple (Shared.heap ⟨hp,g,d,tk,os⟩) l items:=⟨_,hl,rfl,n,rfl⟩
  wp_walk using AutoSeq1.wpAny_loadPart' hl
  refine wpAny_stack_any fun st=>wpAny_pure ?_;split
  ·rename_i c _ _ _ _ _
   cases (c==Value.type "enumerate")
   ·wp_walk using AutoSeq1.wpAny_loadPart' hl,wpAny_pyIter_tuple hL
    exact⟨_,rfl,h⟩
   ·wp_walk using AutoSeq1.wpAny_loadPart' hl,wpAny_pyIter_tuple hL
    exact⟨_,rfl,h⟩
  ·wp_walk using AutoSeq1.wpAny_loadPart' hl,wpAny_pyIter_tuple hL
   exact⟨_,rfl,h⟩
theorem Ar (hL:s.heap.IsTuple l items)
  (h:∀ h',IsEnum h' (s.heap.objs.size+1) s.heap.objs.size 0 .none->h'.IsTupleIter s.heap.objs.size l 0->h'.objs.size=s.heap.objs.size+2 ->
   (∀ b o,s.heap.get? b=some o->h'.get? b=some o)->Q (.ref (s.heap.objs.size+1)) {s with heap:=h'}) :
  wpAny (model prog w) A (call (.type "enumerate") [.ref l]) Q E s:=by
 obtain⟨⟨c,dct,dt,sl⟩,hl,hc,n,hd⟩:=hL
 replace hc:c=.type "tuple":=hc
 replace hd:dt=.seq items n:=hd
 subst hc hd;refine callType_new F.called_enumerate %[|4] (F.typeCall_enumerate_1 _) (F.newCall_enumerate_1 _) (fun obj=>F.args_object_init_2 obj _) F.entry_enumerate_new
  (Df l items n dct sl) ⟨hl,?_⟩
 have hz:(s.heap.push {cls:=.type "tuple_iterator",data:=.fields #[.ref l,.int 0 0]}).objs.size=s.heap.objs.size+1:=Heap.size_push ..;show _/\_;rw[hz];have he:IsEnum ((s.heap.push {cls:=.type "tuple_iterator",data:=.fields #[.ref l,.int 0 0]}).push
   {cls:=.type "enumerate",data:=.fields #[.none,.bool false,.ref s.heap.objs.size,rawInt 0,.none,.none]}) (s.heap.objs.size+1) s.heap.objs.size 0 .none:=by
  have:=Heap.get?_push_size (s.heap.push {cls:=.type "tuple_iterator",data:=.fields #[.ref l,.int 0 0]})
   (o:={cls:=.type "enumerate",data:=.fields #[.none,.bool false,.ref s.heap.objs.size,rawInt 0,.none,.none]}) rfl
  rw[hz] at this;exact this
 refine⟨⟨_,he,rfl⟩,h _ he ⟨_,Heap.get?_push_of_some _ (Heap.get?_push_size _ rfl),rfl,rfl⟩ (by rw[Heap.size_push,hz]) fun b o x=>Heap.get?_push_of_some _ (Heap.get?_push_of_some _ x)⟩
end
theorem HM (hh:A.handled=none) (hne:it≠b) (vs:Array Value):Draws prog w A it [it,b] vs.size (fun i v=>vs[i]?=some v) (fun i h=>h.IsTupleIter it b i/\h.IsTuple b vs) where
 live:=fun _ _ st=>let ⟨o,ho,_⟩:=st.1;⟨o,ho⟩
 frame:=fun _ _ _ st hk=>⟨let ⟨o,ho,r⟩:=st.1;⟨o,hk it (by simp) o ho,r⟩,let ⟨o,ho,r⟩:=st.2;⟨o,hk b (by simp) o ho,r⟩⟩
 item:=fun i s Q E hi st hQ=>V5 st.1 st.2 (show vs[i]?=some vs[i] by simp[hi]) fun g h1 sb=>hQ _ g s.toks (by simp[hi]) ⟨h1,let ⟨o,e,r⟩:=st.2;⟨o,sb.extBut _ _ hne.symm e,r⟩⟩ sb
 done:=fun s Q E st hE=>UF hh st.1 st.2 (by simp) hE
noncomputable def IteT (K:Frag) (b:Addr):It :=
  ⟨fun i H=>∃ xs x,SqT K H b xs/\xs[i]?=some x,
   fun i H x H'=>∃ T p,H T=none/\x=.ref T/\H'=upd H T (.tup [.int (i:Int),p])/\∀ xs,SqT K H b xs->xs[i]?=some p,
   fun i H=>∃ xs,SqT K H b xs/\xs.length<=i⟩
noncomputable def eTnT (e it b:Addr) (n:Nat) (h:Heap):Prop:=(∃ old,IsEnum h e it n old)/\h.IsTupleIter it b n
theorem JR {P:Program} {w:World} {K:Frag} {elts:List Expr} {x1:Nat} {pos:Pos} {e it b:Addr} (ei:e≠it) (eb:e≠b) (ib:it≠b) :
  Turn P w K (.Tuple elts x1 pos) (IteT K b) [e,it] e (eTnT e it b) where
 mem:=by simp
 obj:=fun n h st k hk=>by
  obtain⟨⟨old,he⟩,⟨o1,e1,_,d1⟩⟩:=st;simp only[List.mem_cons,List.not_mem_nil,or_false] at hk;rcases hk with rfl|rfl
  ·exact⟨_,he,fun w e=>nomatch e⟩
  ·exact⟨_,e1,fun w e=>by rw[d1] at e;cases e⟩
 keep:=fun n h h' st k=>by
  obtain⟨⟨old,he⟩,h1⟩:=st;exact⟨⟨old,k e (by simp) _ he⟩,h1.at fun o z=>k it (by simp) o z⟩
 item:=by
  intro X hP hw hK hc n pins s σ H E I hf st hg;subst hP hw hK;obtain⟨⟨old,he⟩,h1⟩:=st;obtain⟨xs,x,q1,hx⟩:=hg;obtain⟨its,rv,p,sz1⟩:=I.tuple q1;obtain⟨vx,hvx,rx⟩:=rv.get hx;have pt:s.heap.IsTuple b its.toArray:=p;have hn:n<its.toArray.size:=by
   have:=(List.getElem?_eq_some_iff.mp hvx).1
   simpa using this
  have D:=HM (prog:=X.prog) (w:=X.w) (A:=X.A.in1) (I.ok.hd hc) ib its.toArray;refine wpAny_pyNext_enum_itemD D he ⟨h1,pt⟩ hn ei (by simp[ei,eb]) fun v g tk hv a1 a2 a3 a4 a5=>?_;have ev:v=vx:=by
   have:its.toArray[n]?=some vx:=by simpa using hvx
   rw[this] at hv;cases hv;rfl
  subst ev;have lt:∀ {k o},s.heap.get? k=some o->k≠s.heap.objs.size:=fun e=>Nat.ne_of_lt (Heap.lt_size e);have li:it≠s.heap.objs.size:=by obtain⟨o,e,_⟩:=h1;exact lt e
  refine⟨_,rfl,wpAny_letOwnedTupleGo_enum a1 fun g' z' sb=>?_⟩;have nf:H s.heap.objs.size=none:=I.hok.fresh %[|3];have tp:g'.get? s.heap.objs.size=some {cls:=.type "tuple",data:=.seq #[.int n tk,v]}:=sb.extBut _ _ (Ne.symm (lt he)) a3;have I1:Inv X pins σ (upd H s.heap.objs.size (.tup [.int (n:Int),x])) {s with heap:=s.heap.push {cls:=.type "tuple",data:=.seq #[.int n tk,v]},toks:=s.toks} :=
   I.laid (fun k o e=>Heap.get?_push_of_some _ e) %[|3] ⟨by simp only[List.length_cons,List.length_nil];rw[sizeLine_eq];decide,[.int n tk,v],.cons ⟨tk,rfl⟩ (.cons rx .nil),⟨_,Heap.get?_push_size _ rfl,rfl,_,rfl⟩⟩
  have ff:∀ k∈[e,it],k≠s.heap.objs.size:=fun k hk=>by
   simp only[List.mem_cons,List.not_mem_nil,or_false] at hk;rcases hk with rfl|rfl
   ·exact lt he
   ·exact li
  have f':∀ k∈[e,it],FpOk X pins (upd H s.heap.objs.size (.tup [.int (n:Int),x])) k:=fun k hk=>⟨by rw[Y4 (ff k hk)];exact (hf k hk).1,(hf k hk).2⟩;have I2:Inv X pins σ (upd H s.heap.objs.size (.tup [.int (n:Int),x])) {s with heap:=g',toks:=tk+1}:=by
   refine Zg (s:={s with heap:=s.heap.push {cls:=.type "tuple",data:=.seq #[.int n tk,v]},toks:=s.toks}) (h':=g') (t':=tk+1) I1 (fun k o hk e=>?_) f';rcases Heap.get?_push_cases e with ⟨rfl,rfl⟩|e'
   ·exact tp
   ·simp only[List.mem_cons,List.not_mem_nil,or_false,not_or] at hk
    exact sb.extBut _ _ hk.1 (a5 k o hk.1 hk.2 e')
  refine⟨.ref s.heap.objs.size,_,I2,rfl,⟨_,x,nf,rfl,rfl,fun xs' q=>by rw[I.tuple_inj q q1];exact hx⟩,?_,fun k hk=>(f' k hk).1⟩;exact⟨⟨_,z'⟩,a2.1.extBut sb.extBut ei.symm⟩
 done:=by
  intro X hP hw hK hc n pins s σ H E I hf st hg;subst hP hw hK;obtain⟨⟨old,he⟩,h1⟩:=st;obtain⟨xs,q1,hx⟩:=hg;obtain⟨its,rv,p,sz1⟩:=I.tuple q1;have l1:=rv.length;have pt:s.heap.IsTuple b its.toArray:=p;refine BD (I.ok.hd hc) he h1 pt (by simp;omega) fun g k=>⟨rfl,Zg (h':=g) (t':=s.toks) I (fun m o hm e=>?_) hf⟩;simp only[List.mem_cons,List.not_mem_nil,or_false,not_or] at hm;exact k m o hm.2 e
 self:=fun _ _ _ _ _ st h=>by
  obtain⟨⟨old,he⟩,_⟩:=st;exact wpAny_pyIter_enum he h
theorem HN (hh:A.handled=none) (hne:it≠b) (vs:Array Value):Draws prog w A it [it,b] vs.size (fun i v=>vs[i]?=some v) (fun i h=>h.IsListIter it b i/\h.IsList b vs) where
 live:=fun _ _ st=>let ⟨o,ho,_⟩:=st.1;⟨o,ho⟩
 frame:=fun _ _ _ st hk=>⟨let ⟨o,ho,r⟩:=st.1;⟨o,hk it (by simp) o ho,r⟩,let ⟨o,ho,r⟩:=st.2;⟨o,hk b (by simp) o ho,r⟩⟩
 item:=fun i s Q E hi st hQ=>wpAny_nextOf_list_item st.1 st.2 (show vs[i]?=some vs[i] by simp[hi]) fun g h1 sb=>hQ _ g s.toks (by simp[hi]) ⟨h1,let ⟨o,e,r⟩:=st.2;⟨o,sb.extBut _ _ hne.symm e,r⟩⟩ sb
 done:=fun s Q E st hE=>wpAny_nextOf_list_end hh st.1 st.2 (by simp) hE
noncomputable def IteL (K:Frag) (b:Addr):It :=
  ⟨fun i H=>∃ xs x,SqL K H b xs/\xs[i]?=some x,
   fun i H x H'=>∃ T p,H T=none/\x=.ref T/\H'=upd H T (.tup [.int (i:Int),p])/\∀ xs,SqL K H b xs->xs[i]?=some p,
   fun i H=>∃ xs,SqL K H b xs/\xs.length<=i⟩
noncomputable def eTnL (e it b:Addr) (n:Nat) (h:Heap):Prop:=(∃ old,IsEnum h e it n old)/\h.IsListIter it b n
theorem JS {P:Program} {w:World} {K:Frag} {elts:List Expr} {x1:Nat} {pos:Pos} {e it b:Addr} (ei:e≠it) (eb:e≠b) (ib:it≠b) :
  Turn P w K (.Tuple elts x1 pos) (IteL K b) [e,it] e (eTnL e it b) where
 mem:=by simp
 obj:=fun n h st k hk=>by
  obtain⟨⟨old,he⟩,⟨o1,e1,_,d1⟩⟩:=st;simp only[List.mem_cons,List.not_mem_nil,or_false] at hk;rcases hk with rfl|rfl
  ·exact⟨_,he,fun w e=>nomatch e⟩
  ·exact⟨_,e1,fun w e=>by rw[d1] at e;cases e⟩
 keep:=fun n h h' st k=>by
  obtain⟨⟨old,he⟩,h1⟩:=st;exact⟨⟨old,k e (by simp) _ he⟩,h1.at fun o z=>k it (by simp) o z⟩
 item:=by
  intro X hP hw hK hc n pins s σ H E I hf st hg;subst hP hw hK;obtain⟨⟨old,he⟩,h1⟩:=st;obtain⟨xs,x,q1,hx⟩:=hg;obtain⟨its,rv,p,sz1⟩:=I.list q1;obtain⟨vx,hvx,rx⟩:=rv.get hx;have pt:s.heap.IsList b its.toArray:=p.isList;have hn:n<its.toArray.size:=by
   have:=(List.getElem?_eq_some_iff.mp hvx).1
   simpa using this
  have D:=HN (prog:=X.prog) (w:=X.w) (A:=X.A.in1) (I.ok.hd hc) ib its.toArray;refine wpAny_pyNext_enum_itemD D he ⟨h1,pt⟩ hn ei (by simp[ei,eb]) fun v g tk hv a1 a2 a3 a4 a5=>?_;have ev:v=vx:=by
   have:its.toArray[n]?=some vx:=by simpa using hvx
   rw[this] at hv;cases hv;rfl
  subst ev;have lt:∀ {k o},s.heap.get? k=some o->k≠s.heap.objs.size:=fun e=>Nat.ne_of_lt (Heap.lt_size e);have li:it≠s.heap.objs.size:=by obtain⟨o,e,_⟩:=h1;exact lt e
  refine⟨_,rfl,wpAny_letOwnedTupleGo_enum a1 fun g' z' sb=>?_⟩;have nf:H s.heap.objs.size=none:=I.hok.fresh %[|3];have tp:g'.get? s.heap.objs.size=some {cls:=.type "tuple",data:=.seq #[.int n tk,v]}:=sb.extBut _ _ (Ne.symm (lt he)) a3;have I1:Inv X pins σ (upd H s.heap.objs.size (.tup [.int (n:Int),x])) {s with heap:=s.heap.push {cls:=.type "tuple",data:=.seq #[.int n tk,v]},toks:=s.toks} :=
   I.laid (fun k o e=>Heap.get?_push_of_some _ e) %[|3] ⟨by simp only[List.length_cons,List.length_nil];rw[sizeLine_eq];decide,[.int n tk,v],.cons ⟨tk,rfl⟩ (.cons rx .nil),⟨_,Heap.get?_push_size _ rfl,rfl,_,rfl⟩⟩
  have ff:∀ k∈[e,it],k≠s.heap.objs.size:=fun k hk=>by
   simp only[List.mem_cons,List.not_mem_nil,or_false] at hk;rcases hk with rfl|rfl
   ·exact lt he
   ·exact li
  have f':∀ k∈[e,it],FpOk X pins (upd H s.heap.objs.size (.tup [.int (n:Int),x])) k:=fun k hk=>⟨by rw[Y4 (ff k hk)];exact (hf k hk).1,(hf k hk).2⟩;have I2:Inv X pins σ (upd H s.heap.objs.size (.tup [.int (n:Int),x])) {s with heap:=g',toks:=tk+1}:=by
   refine Zg (s:={s with heap:=s.heap.push {cls:=.type "tuple",data:=.seq #[.int n tk,v]},toks:=s.toks}) (h':=g') (t':=tk+1) I1 (fun k o hk e=>?_) f';rcases Heap.get?_push_cases e with ⟨rfl,rfl⟩|e'
   ·exact tp
   ·simp only[List.mem_cons,List.not_mem_nil,or_false,not_or] at hk
    exact sb.extBut _ _ hk.1 (a5 k o hk.1 hk.2 e')
  refine⟨.ref s.heap.objs.size,_,I2,rfl,⟨_,x,nf,rfl,rfl,fun xs' q=>by rw[I.list_inj q q1];exact hx⟩,?_,fun k hk=>(f' k hk).1⟩;exact⟨⟨_,z'⟩,a2.1.extBut sb.extBut ei.symm⟩
 done:=by
  intro X hP hw hK hc n pins s σ H E I hf st hg;subst hP hw hK;obtain⟨⟨old,he⟩,h1⟩:=st;obtain⟨xs,q1,hx⟩:=hg;obtain⟨its,rv,p,sz1⟩:=I.list q1;have l1:=rv.length;have pt:s.heap.IsList b its.toArray:=p.isList;refine BE (I.ok.hd hc) he h1 pt (by simp;omega) fun g k=>⟨rfl,Zg (h':=g) (t':=s.toks) I (fun m o hm e=>?_) hf⟩;simp only[List.mem_cons,List.not_mem_nil,or_false,not_or] at hm;exact k m o hm.2 e
 self:=fun _ _ _ _ _ st h=>by
  obtain⟨⟨old,he⟩,_⟩:=st;exact wpAny_pyIter_enum he h
noncomputable def enD (xs:List D):List D:=xs.mapIdx fun i x=>.tup [.int (i:Int),x]
noncomputable def UN:List D->Mem->(List D->(Mem->Prop)->Mem->Prop)->Prop
 | [.tup xs],M,R=>R (enD xs) (fun _=>True) M
 | [.lst a],M,R=>∃ xs,M a=some (.ls xs)/\R (enD xs) (fun M'=>M' a=some (.ls xs)) M
 | _,_,_=>False
noncomputable def UQ (ta:DA):DI:=fun δ M R=>ta δ M fun ds M1=>UN ds M1 R
theorem Bq {K:Frag} {H0:Hp} {a:Addr} {vs:List V} {xs:List D} (ha:SqT K H0 a vs) (r:RelDs K H0 vs xs):ItD K H0 (IteT K a) (enD xs) (fun _=>True):=fun i H M x m k=>by
 have ha':=x.tup _ _ ha;have r':=r.ext x;have l1:=r.length;refine⟨fun hl=>?_,fun hl=>?_,fun y H' hy=>?_⟩
 ·simp only[enD,List.length_mapIdx] at hl
  exact⟨vs,vs[i]'%[|5],ha',List.getElem?_eq_getElem _⟩
 ·simp only[enD,List.length_mapIdx] at hl
  exact⟨vs,ha',by omega⟩
 ·obtain⟨T,p,hn,rfl,rfl,e1⟩:=hy
  have ex:HExt K H (L2.upd H T (.tup [.int (i:Int),p])):=HExt.upd (.inl hn);refine⟨ex,m.tup hn,fun d hd=>?_⟩;simp only[enD,List.getElem?_mapIdx] at hd;have f1:=e1 _ ha';cases h1:xs[i]? with
  | none=>rw [h1] at hd;simp at hd
  | some dx =>
   rw[h1] at hd;simp at hd;subst hd;obtain⟨v1,g1,g2⟩:=r'.get h1;rw[f1] at g1;cases g1;exact .tup (.inl (.of L2.upd_same)) (.cons (.int _) (.cons (g2.ext ex) .nil))
theorem Br {K:Frag} {H0:Hp} {a:Addr} {xs:List D}:ItD K H0 (IteL K a) (enD xs) (fun M'=>M' a=some (.ls xs)):=fun i H M x m k=>by
 obtain⟨vs,ev,r'⟩:=m _ _ k;have l1:=r'.length;refine⟨fun hl=>?_,fun hl=>?_,fun y H' hy=>?_⟩
 ·simp only[enD,List.length_mapIdx] at hl
  exact⟨vs,vs[i]'%[|5],.of ev,List.getElem?_eq_getElem _⟩
 ·simp only[enD,List.length_mapIdx] at hl
  exact⟨vs,.of ev,by omega⟩
 ·obtain⟨T,p,hn,rfl,rfl,e1⟩:=hy
  have ex:HExt K H (L2.upd H T (.tup [.int (i:Int),p])):=HExt.upd (.inl hn);refine⟨ex,m.tup hn,fun d hd=>?_⟩;simp only[enD,List.getElem?_mapIdx] at hd;have f1:=e1 _ (.of ev);cases h1:xs[i]? with
  | none=>rw [h1] at hd;simp at hd
  | some dx =>
   rw[h1] at hd;simp at hd;subst hd;obtain⟨v1,g1,g2⟩:=r'.get h1;rw[f1] at g1;cases g1;exact .tup (.inl (.of L2.upd_same)) (.cons (.int _) (.cons (g2.ext ex) .nil))
section
variable {X:Cx} {rz:Bool} {Xe:DSt->DK} {pos:Pos}
theorem Fx {a:Expr} {es:List Expr} {ta:DA} {p:Pos} {elts:List Expr} {x1:Nat} {tp:Pos} (hg:Gl X "enumerate") (hm:X.mg "enumerate"=none) (ha:PA X (a::es) (Zo (X.L rz Xe) ta)) (hs:starEach (a::es) X.env=(false,eval a X.env)::starEach es X.env) (hpl:(backTo pos (starEach es X.env)).any (·.1)=false) :
  PI X (.Tuple elts x1 tp) (.Call (.Name "enumerate" p) (a::es) [] pos) (X1 (X.L rz Xe) (UQ ta)):=by
 rintro pins s σ H R I ⟨δ,M,Rd,rs,rm,t,q⟩;refine Call_ (ZS I hg hm boot_enumerate (PyProof.Rows.callWith_type1 (thn (ha pos pins s σ H (fun vs H1=>(∃ b xs,vs=[.ref b]/\SqT X.K H1 b xs/\R (IteT X.K b) H1)\/∃ b xs,vs=[.ref b]/\SqL X.K H1 b xs/\R (IteL X.K b) H1) I ⟨δ,M,_,rs,rm,t,fun ds M1 vs H1 x1 m1 r1 h1=>?_⟩) fun us s1 ⟨vs,H1,I1,r1,q1⟩=>?_) hs hpl))
 ·unfold UN at h1
  split at h1
  ·refine r1.inv1 fun v ev ra=>?_
   obtain⟨b,xs,rfl,ha,ra⟩:=ra.inv;exact .inl ⟨_,_,ev,ha,q _ _ _ _ _ x1 m1 trivial (Bq ha ra) h1⟩
  ·obtain⟨xs,ea,h1⟩:=h1
   refine r1.inv1 fun v ev ra=>?_;have e1:=ra.inv;obtain⟨vs,ew,_⟩:=m1 _ _ ea;exact .inr ⟨_,_,by rw[ev,show v=_ from e1],.of ew,q _ _ _ _ _ x1 m1 ea Br h1⟩
  ·exact h1.elim
 ·have fin:∀ m∈[s1.heap.objs.size+1,s1.heap.objs.size],FpOk X pins H1 m:=fun m hm=>by
   have le:s1.heap.objs.size<=m:=by
    simp only[List.mem_cons,List.not_mem_nil,or_false] at hm;rcases hm with rfl|rfl
    ·exact Nat.le_add_right _ _
    ·exact Nat.le_refl _
   exact I1.fpOk le (I1.hok.fresh le)
  rcases q1 with q1|q1
  ·obtain⟨b,xs,e,hb,q⟩:=q1
   subst e;refine Wk r1 fun u eu r=>?_;subst eu;cases (show u=Value.ref b from r);obtain⟨its,rv,pb,_⟩:=I1.tuple hb;have lb:b<s1.heap.objs.size:=by obtain⟨o,e,_⟩:=pb;exact Heap.lt_size e
   refine Ar (show s1.heap.IsTuple b its.toArray from pb) fun g st1 st2 _ k=>?_;refine wpAny_pyIter_enum st1 ?_;exact⟨_,[s1.heap.objs.size+1,s1.heap.objs.size],_,_,H1,rfl,I1.kept (t':=s1.toks) k,JR (Nat.succ_ne_self _) (Nat.ne_of_gt (Nat.lt_succ_of_lt lb)) (Nat.ne_of_gt lb),⟨⟨_,st1⟩,st2⟩,fin,q⟩
  ·obtain⟨b,xs,e,hb,q⟩:=q1
   subst e;refine Wk r1 fun u eu r=>?_;subst eu;cases (show u=Value.ref b from r);obtain⟨its,rv,pb,_⟩:=I1.list hb;have lb:b<s1.heap.objs.size:=by obtain⟨o,e,_⟩:=pb.isList;exact Heap.lt_size e
   refine call_enumerate_list pb.isList fun g st1 st2 _ k=>?_;refine wpAny_pyIter_enum st1 ?_;exact⟨_,[s1.heap.objs.size+1,s1.heap.objs.size],_,_,H1,rfl,I1.kept (t':=s1.toks) k,JS (Nat.succ_ne_self _) (Nat.ne_of_gt (Nat.lt_succ_of_lt lb)) (Nat.ne_of_gt lb),⟨⟨_,st1⟩,st2⟩,fin,q⟩
end
end DL
end
noncomputable section
namespace DL
open PySem PySem.Spec PyProof.Rows L2
section
variable {prog:Program} {w:World} {A:Around} {E:Value->Shared->Prop} {s:Shared}
end
section
variable {prog:Program} {w:World} {A:Around} {E:Value->Shared->Prop} {s:Shared}
end
section
variable {X:Cx} {rz:Bool} {Xe:DSt->DK} {pos p2:Pos}
end
end DL
end
noncomputable section
namespace DL
open PySem PySem.Spec PyProof.Rows L2
noncomputable def ini (c x:Str):Nat:=if c="" then 0 else if x="__init__" then 1 else 0
theorem ini0:ini "" x=0:=if_pos rfl
structure RefAt (K:Frag) (mg:Str->Option Value) (c x:Str) (f:Addr):Prop where
 fn:c=""->mg x=some (.ref f)/\PySem.W.keepIn K (.ref f)=true
 mt:c≠""->c∈oNames/\∃ C,YZ K c C/\mg c=some (.ref C)/\(x≠"__init__"->Meth K C x f)/\(x="__init__"->Mk K C f)
structure FnAt (X:Cx) (c x:Str) (S:DSp):Prop where
 ex:∃ k f fd ps,FnOk X.prog X.w X.K X.mg X.base (CXR X.prog X.w) (k-ini c x) f fd ps (XN X.K S)/\ini c x<=k/\(X.calm=true->Room k X.A)/\RefAt X.K X.mg c x f/\Binds X.K fd ps []
noncomputable def putD (f:Str) (d:D):List (Str×D)->List (Str×D)
 | []=>[(f,d)]
 | (g,x)::r=>if g=f then (g,d)::r else (g,x)::putD f d r
noncomputable def dFld (n f:Str) (ta:DE):DE:=fun δ M Q=>ta δ M fun x M1=>∃ a fs d,x=.ref a/\M1 a=some (.ob n fs)/\fs.lookup f=some d/\Q d M1
noncomputable def ZH (n m:Str) (S:DSp) (E:DSt->DK) (ta:DE) (t:DA):DE:=fun δ M Q=>ta δ M fun x M1=>∃ a fs,x=.ref a/\M1 a=some (.ob n fs)/\fs.lookup m=none/\t δ M1 fun xs M2=>S (.ref a::xs) M2 Q (E δ)
noncomputable def ZI (n:Str) (S:DSp) (E:DSt->DK) (t:DA):DE:=fun δ M Q=>t δ M fun xs M1=>alloc M1 (.ob n []) fun p M'=>S (.ref p::xs) M' (fun d M2=>d=.non/\Q (.ref p) M2) (E δ)
noncomputable def ZG (n f:Str) (i:Nat) (te:(DSt->DK)->DE):DS:=fun D δ M=>te D.ex δ M fun y M1=>∃ a fs,δ[i]?=some (some (.ref a))/\M1 a=some (.ob n fs)/\fs.length<1000/\D.nx δ (M1.upd a (.ob n (putD f y fs)))
section
variable {X:Cx} {rz:Bool} {Xe:DSt->DK} {e o:Expr} {es:List Expr} {t:DA} {te to:DE} {x n m f:Str} {p pos apos pos':Pos} {S:DSp}
theorem AD {k:Nat} {f:Addr} {fd:FuncData} {ps:List Str} {S:DSp} {pins:List (Addr×Obj)} {σ:L2.St} {H:Hp} {s:Shared} {Q:VK} {us:List Value} {vs:List V} {δ:DSt} {ds:List D} {M:Mem} {R:DK}
  (F:FnOk X.prog X.w X.K X.mg X.base (CXR X.prog X.w) k f fd ps (XN X.K S)) (hr:Room k X.A) (hb:Binds X.K fd ps []) (I:L2.Inv X pins σ H s) (r:Vals vs us)
  (rs:RepS (X.L rz Xe) H δ σ) (rm:RepM X.K H M) (rd:RelDs X.K H vs ds) (h:S ds M R (Xe δ)) (q:∀ d' M' v H',HExt X.K H H'->RepM X.K H' M'->RelD X.K H' v d'->R d' M'->Q v H') :
  wpAny (model X.prog X.w) X.A (call (.ref f) us) (EP X pins σ Q) X.xe s:=by
 obtain⟨Ex,hEx⟩:∃ Ex:XK,Ex=fun cv odx H'=>∃ n M' C x,cv=.ref C/\HExt X.K H H'/\RepM X.K H' M'/\n∈xNames/\YZ X.K n C/\ExD X.K H' n odx x/\Xe δ (.exc n x) M':=⟨_,rfl⟩;have hsp:XN X.K S vs H Q Ex:=⟨ds,M,R,_,rd,rm,h,q,fun n M' H' C dd xd x m hn hc ed e=>by rw[hEx];exact⟨n,M',C,xd,rfl,x,m,hn,hc,ed,e⟩⟩;have hl:us.length=ps.length:=by rw[<- r.length];exact F.len _ _ _ _ hsp
 have hbb:=hb s us I.kIn (by simpa using hl);rw[List.append_nil] at hbb;refine wpAny_call (codeAny_mono (F.run X.A X.stack s H ⟨us,[]⟩ us vs Q Ex hr I.env0 hbb r hsp) fun res s' hq=>?_);cases res with
 | error e =>
  obtain⟨e0,C,dd,H',rfl,th,hE⟩:=(show CXR X.prog X.w X.stack H s Ex e s' from hq);rw[hEx] at hE;obtain⟨n,M',C',xd,hC,x,m,hn,hc,ed,hx⟩:=hE;cases hC;exact rs.ok.fly pins σ H s H' e0 C dd s' δ M' n xd x I th m (rs.toSlots.ext x) hn hc ed hx
 | ok fl =>
  cases fl with
  | ret u=>exact I.after hq
  | next=>exact False.elim hq
  | brk=>exact False.elim hq
  | cont=>exact False.elim hq
end
end DL
end
noncomputable section
namespace DL
open PySem PySem.Spec PyProof.Rows L2
theorem vals_ints:∀ {acc:List Value} {n:Nat} {k:Nat},acc.length=n->(∀ (j:Nat) (v:Value),acc[j]?=some v->∃ t,v=Value.int (i+((k+j:Nat):Int)*1) t)->Vals ((List.range' k n).map fun m:Nat=>V.int (i+(m:Int))) acc
 | [],n,k,hl,_=>by subst hl;exact .nil
 | v::acc,n,k,hl,h=>by
  subst hl;rw[List.length_cons,List.range'_succ,List.map_cons];refine .cons ?_ (vals_ints (k:=k+1) rfl fun j v hv=>?_)
  ·obtain⟨t,e⟩:=h 0 v rfl
   exact⟨t,by rw[e];simp⟩
  ·obtain⟨t,e⟩:=h (j+1) v (by simpa using hv)
   exact⟨t,by rw[e];congr 3;omega⟩
section
variable {X:Cx} {e:Expr} {es:List Expr} {t:TA} {p p2 pos pos2:Pos}
theorem Kc (hc:X.calm=true) (hg1:Gl X "list") (hm1:X.mg "list"=none) (hg2:Gl X "range") (hm2:X.mg "range"=none) (ha:PA X (e::es) t)
  (he:starEach (e::es) X.env=(false,eval e X.env)::starEach es X.env) (hpl:(backTo pos2 (starEach es X.env)).any (·.1)=false) :
  PE X (.Call (.Name "list" p) [.Call (.Name "range" p2) (e::es) [] pos2] [] pos) (tCB (fun xs H Q=>∃ i j:Int,xs=[.int i,.int j]/\i.natAbs<=1000/\j.natAbs<=1000/\∀ l,H l=none->Q (.ref l) (L2.upd H l (.lst ((List.range (j-i).toNat).map fun m:Nat=>V.int (i+(m:Int)))))) t):=by
 intro pins s σ H Q I h;refine wpAny_Call_Name_kw (ZS I hg1 hm1 (u:=.type "list") (by decide +kernel) ?_);refine PyProof.Rows.callWith_type1 ?_ rfl rfl;refine Calls.spliced_cons ?_;refine wpAny_Call_Name_kw (ZS I hg2 hm2 (u:=.type "range") (by decide +kernel) ?_);refine PyProof.Rows.callWith_type1 ?_ he hpl;refine thn (ha pos2 pins s σ H _ I h) ?_;rintro us s1 ⟨vs,H1,I1,r1,i,j,rfl,hi,hj,q⟩;cases r1 with
 | cons r rr =>
  cases rr with
  | cons r' rr =>
   cases rr;obtain⟨tk,rfl⟩:=r;obtain⟨tk',rfl⟩:=r';refine call_range_2 ?_;refine Calls.spliced_nil ?_;have hsz:Builtin.Range.rangeSize i j 1=((j-i).toNat:Int):=by
    unfold Builtin.Range.rangeSize;rw[if_pos %[|4]];split
    ·simp;omega
    ·omega
   have hsm:Builtin.Range.small i j 1=true:=small_one %[|5] %[|5] %[|5] %[|5];refine call_list_range (n:=(j-i).toNat) (I1.ok.hd hc) (IsRange.new ..) hsm hsz %[|5] fun h' tk2 acc' c' kp hS hacc=>?_;have z1:s1.heap.objs.size<=(s1.heap.push {cls:=Value.type "range",data:=Data.fields #[Value.int i tk,Value.int j tk',Value.int 1 s1.toks]}).objs.size:=by rw[Heap.size_push];exact Nat.le_succ _
   have kp':∀ b o,s1.heap.get? b=some o->h'.get? b=some o:=fun b o e=>kp b o (Heap.get?_push_of_some _ e);obtain⟨a1,a2⟩:=hacc;have va:=vals_ints (i:=i) (acc:=acc'.toList) (n:=(j-i).toNat) (k:=0) (by simpa using a1) fun m v hv=>by
    obtain⟨t,e⟩:=a2 m v (by simpa using hv);exact⟨t,by rw[e];simp⟩
   rw[<- List.range_eq_range'] at va;refine⟨.ref _,_,I1.laid (t':=tk2) kp' z1 (o:=.lst ((List.range (j-i).toNat).map fun m:Nat=>V.int (i+(m:Int)))) ⟨?_,acc'.toList,c',va,by simpa using hS⟩,rfl,q _ (I1.hok.fresh z1)⟩;rw[List.length_map,List.length_range,sizeLine_eq];omega
end
section
variable {X:Cx} {rz:Bool} {a b e:Expr} {te ta tb:(DSt->DK)->DE} {pos pos':Pos}
end
section
variable {X:Cx} {rz:Bool} {Xe:DSt->DK} {e:Expr} {es:List Expr} {t:DA} {p p2 pos pos2:Pos}
noncomputable def Lx:List D->Mem->DK->Prop
 | [.int i,.int j],M,Q=>i.natAbs<=1000/\j.natAbs<=1000/\alloc M (.ls (rngD i 1 (j-i).toNat)) fun p M'=>Q (.lst p) M'
 | _,_,_=>False
end
section
variable {X:Cx} {a b:Expr} {rest:List Expr} {pos:Pos}
end
noncomputable def Ee (i j k:Nat) (ta:(DSt->DK)->DA):DS:=fun D δ M=>ta D.ex δ M fun ds M1=>∃ u v w,ds=[u,v,w]/\D.nx (((δ.set i (some u)).set j (some v)).set k (some w)) M1
section
variable {X:Cx} {i j k:Nat} {x y z:Str} {a b c:Expr} {px py pz pt pos:Pos} {kt k2:Nat} {pt2:Pos}
theorem EL (hc:X.calm=true) (hN:X.N.Nodup) (hi:X.N[i]?=some x) (hj:X.N[j]?=some y) (hk:X.N[k]?=some z) (hij:i≠j) (hik:i≠k) (hjk:j≠k)
  (hx:X.env.scope.names.lookup x=some .local) (hy:X.env.scope.names.lookup y=some .local) (hz:X.env.scope.names.lookup z=some .local) (ha:PA X [a,b,c] ta)
  (hw:swappedStores [.Tuple [.Name x px,.Name y py,.Name z pz] kt pt] (.Tuple [a,b,c] k2 pt2) X.env=pure (some [x,y,z]))
  (hs:swapsWithSole [.Tuple [.Name x px,.Name y py,.Name z pz] kt pt] (.Tuple [a,b,c] k2 pt2) pos.line X.env=pure false) :
  PS X (.Assign [.Tuple [.Name x px,.Name y py,.Name z pz] kt pt] (.Tuple [a,b,c] k2 pt2) pos) (fun D σ H=>ta σ H fun vs H1=>∃ u v w,vs=[u,v,w]/\D.nx (((σ.set i (some u)).set j (some v)).set k (some w)) H1):=by
 intro pins s σ H D I h;rw[exec_Assign_arm];refine wpAny_bind (wpAny_standAt ?_);rw[hs];refine wpAny_bind (wpAny_pure ?_);rw[if_neg %[|4]];refine wpAny_bind (Tuple_ (thn (ha _ pins s σ H _ I h) fun us s1 hq2=>?_));obtain⟨vs,H1,I1,r1,q1⟩:=hq2;obtain⟨u,v,w,e1,q1⟩:=q1;subst e1;obtain⟨u1,u2,u3,rfl,ru,rv,rw'⟩:∃ u1 u2 u3,us=[u1,u2,u3]/\RelV u u1/\RelV v u2/\RelV w u3:=by
  cases r1 with
  | cons p q =>
   cases q with
   | cons p' q' =>
    cases q' with
    | cons p'' q'' =>
     cases q'';exact⟨_,_,_,rfl,p,p',p''⟩
 refine wpAny_newObj_type ?_ (by show 3<=sizeLine;decide);have I2:Inv X pins σ H1 {s1 with heap:=s1.heap.push {cls:=.type "tuple",data:=.seq [u1,u2,u3].toArray}}:=I1.kept (t':=s1.toks) fun b o e=>Heap.get?_push_of_some _ e;rw[hw];refine wpAny_bind (wpAny_pure ?_);show wpAny (model X.prog X.w) X.A (do rule "assign.swapped-stores";let items <- unpackItems (.ref s1.heap.objs.size) 3 none;assignInOrder [fun v=>bindName X.env z v,fun v=>bindName X.env y v,fun v=>bindName X.env x v] items.reverse;pure Flow.next) _ _ _;refine wpAny_bind (wpAny_rule (wpAny_bind (unpackItems_tuple (items:=#[u1,u2,u3]) (I.ok.hd hc) (IsTup.new s1.heap _) fun h' hx'=>?_)));have I3:=I2.kept (h':=h') (t':=s1.toks) fun b o e=>hx' b o (Nat.ne_of_lt (Heap.lt_size e)) e;show wpAny _ _ (assignInOrder [fun v=>bindName X.env z v,fun v=>bindName X.env y v,fun v=>bindName X.env x v] [u3,u2,u1] >>= fun _=>pure Flow.next) _ _ _;refine wpAny_bind (assignInOrder_cons (wpAny_bindName (Z6 I3 hN hk (.inl hz) rw' (fun s2 I4=>?_) (.inr hz))))
 refine assignInOrder_cons (wpAny_bindName (Z6 I4 hN hj (.inl hy) rv (fun s3 I5=>?_) (.inr hy)));refine assignInOrder_cons (wpAny_bindName (Z6 I5 hN hi (.inl hx) ru (fun s4 I6=>assignInOrder_nil (wpAny_pure ?_)) (.inr hx)));rw[List.set_comm _ _ (Ne.symm hij),List.set_comm _ _ (Ne.symm hik),List.set_comm _ _ (Ne.symm hjk)] at I6;exact⟨_,H1,I6,q1⟩
theorem Ft (hc:X.calm=true) (hN:X.N.Nodup) (hi:X.N[i]?=some x) (hj:X.N[j]?=some y) (hk:X.N[k]?=some z) (hij:i≠j) (hik:i≠k) (hjk:j≠k)
  (hx:X.env.scope.names.lookup x=some .local) (hy:X.env.scope.names.lookup y=some .local) (hz:X.env.scope.names.lookup z=some .local) (ha:∀ Xe,PA X [a,b,c] (Zo (X.L rz Xe) (ta Xe)))
  (hw:swappedStores [.Tuple [.Name x px,.Name y py,.Name z pz] kt pt] (.Tuple [a,b,c] k2 pt2) X.env=pure (some [x,y,z]))
  (hs:swapsWithSole [.Tuple [.Name x px,.Name y py,.Name z pz] kt pt] (.Tuple [a,b,c] k2 pt2) pos.line X.env=pure false) :
  PS X (.Assign [.Tuple [.Name x px,.Name y py,.Name z pz] kt pt] (.Tuple [a,b,c] k2 pt2) pos) (YE X rz (Ee i j k ta)):=by
 rintro pins s σ H E I ⟨δ,M,D,rs,rm,t,n,r,b,c⟩;exact (EL hc hN hi hj hk hij hik hjk hx hy hz (ha D.ex) hw hs) pins s σ H E I <| ⟨δ,M,_,rs,rm,t,fun ds M' vs H' x m q ⟨u,v,w,e,h⟩=>by
  subst e;cases q with
  | cons r1 q =>
   obtain⟨v',w',rfl,r2,r3⟩:=q.two;exact⟨_,v',w',rfl,n _ _ _ _ x ((((rs.ext x).set r1 i).set r2 j).set r3 k) m h⟩⟩
end
end DL
namespace PySem
open Sem (wp)
section
variable {prog:Program} {w:World} {A:Around} {E:Value->Shared->Prop} {s:Shared}
theorem XT (h:Q (s.heap.get? a) s):wpAny (model prog w) A (loadIfAlive a) Q E s:=fun Γ p hΓ=>h
abbrev ZT (h:Heap) (z TI TO T:Addr) (f1:Bool):Prop :=
 h.get? z=some {cls:=.type "zip",dict:=none,data:=.fields #[rawInt T,.bool f1,.bool false,.ref TI,.ref TO],slots:=#[]}
theorem V8 (hz:ZT s.heap z TI TO T f1) (hT:∃ o,s.heap.get? T=some o)
  (hQ:∀ h',ZT h' z TI TO T true->Heap.SameBut z s.heap h'->Q false {s with heap:=h'}):wpAny (model prog w) A (Builtin.SmallTypes.ownedTupleIsFree (.ref z)) Q E s:=by
 obtain⟨o,hT⟩:=hT;unfold Builtin.SmallTypes.ownedTupleIsFree;refine wpAny_bind (wpAny_field hz rfl (x:=rawInt T) rfl ?_);show wpAny _ _ (loadIfAlive (Int.toNat (T:Int)) >>= _) _ _ _;refine wpAny_bind (XT ?_);rw[Int.toNat_natCast,hT];show wpAny _ _ (field (.ref z) 1 >>= _) _ _ _;refine wpAny_bind (wpAny_field hz rfl (x:=.bool f1) rfl ?_);cases f1 with
 | false =>
  show wpAny _ _ (setField (.ref z) 1 (.bool true) >>= fun _=>pure false) _ _ _;refine wpAny_bind (wpAny_setField_rec hz (by simp) fun h' hz' hs'=>wpAny_pure (hQ h' hz' hs'))
 | true=>exact wpAny_pure (hQ s.heap hz ⟨rfl,fun _ _=>rfl⟩)
theorem V9 {z TI TO T i1 i2 l1 l2:Addr} {f1:Bool} {k1 k2:Nat} {xs ys:Array Value} {x y:Value} {Q:Value->Shared->Prop} (D:ZipApart z TI TO i1 i2 l1 l2)
  (hz:ZT s.heap z TI TO T f1) (hT:∃ o,s.heap.get? T=some o) (hTI:IsPair s.heap TI (.ref i1) (.ref i2))
  (h1:s.heap.IsListIter i1 l1 k1) (h2:s.heap.IsListIter i2 l2 k2) (hl1:s.heap.IsList l1 xs) (hl2:s.heap.IsList l2 ys) (hx:xs[k1]?=some x) (hy:ys[k2]?=some y)
  (hQ:∀ h',ZT h' z TI TO T true->h'.IsListIter i1 l1 (k1+1)->h'.IsListIter i2 l2 (k2+1)->IsPair h' s.heap.objs.size x y->h'.objs.size=s.heap.objs.size+1 ->
   (∀ c o,c≠z->c≠i1->c≠i2->s.heap.get? c=some o->h'.get? c=some o)->Q (.ref s.heap.objs.size) {s with heap:=h'}) :
  wpAny (model prog w) A (Builtin.«zip.__next__» ⟨[.ref z],[]⟩) (fun fin s'=>∃ v,fin=.done (.ret v)/\Q v s') E s:=by
 show wpAny _ _ (field (.ref z) 2 >>= _) _ _ _;refine wpAny_bind (wpAny_field hz rfl (x:=.bool false) rfl ?_);show wpAny _ _ (field (.ref z) 3 >>= _) _ _ _;refine wpAny_bind (wpAny_field hz rfl (x:=.ref TI) rfl ?_);refine wpAny_bind (wpAny_seqItems hTI rfl ?_);show wpAny _ _ (Builtin.SmallTypes.ownedTupleIsFree (.ref z) >>= _) _ _ _;refine wpAny_bind (V8 hz hT fun h₁ hz₁ hs₁=>?_);rw[if_neg %[|4]];simp only[<- Array.forIn_toList,List.forIn_cons,List.forIn_nil];refine wpAny_bind (wpAny_bind (wpAny_bind (wpAny_holding ?_)));show wpAny _ _ (Builtin.SmallTypes.nextOf (.ref i1) >>= _) _ _ _;refine wpAny_bind (wpAny_nextOf_list_item (h1.extBut hs₁.extBut D.i1z) (hl1.extBut hs₁.extBut D.l1z) hx fun h₂ h1₂ hs₂=>wpAny_pure (wpAny_pure ?_));refine wpAny_bind (wpAny_bind (wpAny_holding ?_));show wpAny _ _ (Builtin.SmallTypes.nextOf (.ref i2) >>= _) _ _ _;refine wpAny_bind (wpAny_nextOf_list_item ((h2.extBut hs₁.extBut D.i2z).extBut hs₂.extBut D.i12.symm) ((hl2.extBut hs₁.extBut D.l2z).extBut hs₂.extBut D.l2i1) hy fun h₃ h2₃ hs₃=>wpAny_pure (wpAny_pure (wpAny_pure ?_)))
 refine wpAny_bind (wpAny_newTuple (hsz:=by show 2<=sizeLine;decide) (wpAny_pure ⟨_,rfl,?_⟩));have hsz:h₃.objs.size=s.heap.objs.size:=by rw[hs₃.1,hs₂.1,hs₁.1]
 have hz₃:ZT h₃ z TI TO T true:=hs₃.extBut _ _ D.i2z.symm (hs₂.extBut _ _ D.i1z.symm hz₁);have h1₃:h₃.IsListIter i1 l1 (k1+1):=h1₂.extBut hs₃.extBut D.i12;have up:∀ c o,h₃.get? c=some o->(h₃.push {cls:=.type "tuple",data:=.seq #[x,y]}).get? c=some o:=fun c o e=>Heap.get?_push_of_some _ e;show Q (.ref h₃.objs.size) _;rw[hsz];exact hQ _ (up _ _ hz₃) (h1₃.at fun o e=>up _ o e) (h2₃.at fun o e=>up _ o e) (by rw[<- hsz];exact Heap.get?_push_size _ rfl) (by rw[Heap.size_push,hsz]) fun c o c1 c2 c3 e=>up _ _ (hs₃.extBut _ _ c3 (hs₂.extBut _ _ c2 (hs₁.extBut _ _ c1 e)))
theorem VO (hh:A.handled=none) (D:ZipApart z TI TO i1 i2 l1 l2)
  (hz:ZT s.heap z TI TO T f1) (hT:∃ o,s.heap.get? T=some o) (hTI:IsPair s.heap TI (.ref i1) (.ref i2))
  (h1:s.heap.IsListIter i1 l1 k1) (h2:s.heap.IsListIter i2 l2 k2) (hl1:s.heap.IsList l1 xs) (hl2:s.heap.IsList l2 ys) (hend:xs[k1]?=none\/ys[k2]?=none)
  (hE:∀ h' e,(∀ c o,c≠z->c≠i1->c≠i2->s.heap.get? c=some o->h'.get? c=some o)->(∃ o,h'.get? e=some o/\o.cls=.type "StopIteration")->E (.ref e) {s with heap:=h'}) :
  wpAny (model prog w) A (Builtin.«zip.__next__» ⟨[.ref z],[]⟩) Q E s:=by
 show wpAny _ _ (field (.ref z) 2 >>= _) _ _ _;refine wpAny_bind (wpAny_field hz rfl (x:=.bool false) rfl ?_);show wpAny _ _ (field (.ref z) 3 >>= _) _ _ _;refine wpAny_bind (wpAny_field hz rfl (x:=.ref TI) rfl ?_);refine wpAny_bind (wpAny_seqItems hTI rfl ?_);show wpAny _ _ (Builtin.SmallTypes.ownedTupleIsFree (.ref z) >>= _) _ _ _;refine wpAny_bind (V8 hz hT fun h₁ hz₁ hs₁=>?_);rw[if_neg %[|4]];simp only[<- Array.forIn_toList,List.forIn_cons,List.forIn_nil];refine wpAny_bind (wpAny_bind (wpAny_bind (wpAny_holding ?_)));show wpAny _ _ (Builtin.SmallTypes.nextOf (.ref i1) >>= _) _ _ _;cases hx:xs[k1]? with
 | none =>
  exact wpAny_bind (wpAny_nextOf_list_end hh (h1.extBut hs₁.extBut D.i1z) (hl1.extBut hs₁.extBut D.l1z) hx fun h₂ e hs₂ he=>hE h₂ e (fun c o c1 c2 _ x=>hs₂ _ _ c2 (hs₁.extBut _ _ c1 x)) he)
 | some x =>
  have hy:ys[k2]?=none:=by rcases hend with h|h;rw[hx] at h;cases h;exact h
  refine wpAny_bind (wpAny_nextOf_list_item (h1.extBut hs₁.extBut D.i1z) (hl1.extBut hs₁.extBut D.l1z) hx fun h₂ h1₂ hs₂=>wpAny_pure (wpAny_pure ?_));refine wpAny_bind (wpAny_bind (wpAny_holding ?_));show wpAny _ _ (Builtin.SmallTypes.nextOf (.ref i2) >>= _) _ _ _;exact wpAny_bind (wpAny_nextOf_list_end hh ((h2.extBut hs₁.extBut D.i2z).extBut hs₂.extBut D.i12.symm) ((hl2.extBut hs₁.extBut D.l2z).extBut hs₂.extBut D.l2i1) hy fun h₃ e hs₃ he=>hE h₃ e (fun c o c1 c2 c3 x=>hs₃ _ _ c3 (hs₂.extBut _ _ c2 (hs₁.extBut _ _ c1 x))) he)
theorem X8 (D:ZipApart z TI TO i1 i2 l1 l2)
  (hz:ZT s.heap z TI TO T f1) (hT:∃ o,s.heap.get? T=some o) (hTI:IsPair s.heap TI (.ref i1) (.ref i2))
  (h1:s.heap.IsListIter i1 l1 k1) (h2:s.heap.IsListIter i2 l2 k2) (hl1:s.heap.IsList l1 xs) (hl2:s.heap.IsList l2 ys) (hx:xs[k1]?=some x) (hy:ys[k2]?=some y)
  (hQ:∀ h',ZT h' z TI TO T true->h'.IsListIter i1 l1 (k1+1)->h'.IsListIter i2 l2 (k2+1)->IsPair h' s.heap.objs.size x y->h'.objs.size=s.heap.objs.size+1 ->
   (∀ c o,c≠z->c≠i1->c≠i2->s.heap.get? c=some o->h'.get? c=some o)->Q (some (.ref s.heap.objs.size)) {s with heap:=h'}) :
  wpAny (model prog w) A (pyNext (.ref z)) Q E s:=by
 have hT':s.TypeIs (.ref z) "zip":=⟨_,hz,rfl⟩;unfold pyNext;exact wpAny_bind (wpAny_attempt (wpAny_callSpecial?_slot (name:=Str.ofString "__next__") hT' F.slot_zip_next
  (wpAny_call_entry F.slot_zip_next hT' F.entry_zip_next
   (V9 D hz hT hTI h1 h2 hl1 hl2 hx hy fun h' a1 a3 a4 a5 a6 a7=>wpAny_pure (hQ h' a1 a3 a4 a5 a6 a7)) (F.args_zip_next_1 _))))
theorem Xo (hh:A.handled=none) (D:ZipApart z TI TO i1 i2 l1 l2)
  (hz:ZT s.heap z TI TO T f1) (hT:∃ o,s.heap.get? T=some o) (hTI:IsPair s.heap TI (.ref i1) (.ref i2))
  (h1:s.heap.IsListIter i1 l1 k1) (h2:s.heap.IsListIter i2 l2 k2) (hl1:s.heap.IsList l1 xs) (hl2:s.heap.IsList l2 ys) (hend:xs[k1]?=none\/ys[k2]?=none)
  (hQ:∀ h',(∀ c o,c≠z->c≠i1->c≠i2->s.heap.get? c=some o->h'.get? c=some o)->Q none {s with heap:=h'}):wpAny (model prog w) A (pyNext (.ref z)) Q E s:=by
 have hT':s.TypeIs (.ref z) "zip":=⟨_,hz,rfl⟩;unfold pyNext;refine wpAny_bind (wpAny_attempt (wpAny_callSpecial?_slot (name:=Str.ofString "__next__") hT' F.slot_zip_next
  (wpAny_call_entry F.slot_zip_next hT' F.entry_zip_next (VO hh D hz hT hTI h1 h2 hl1 hl2 hend fun h' e hk he=>?_) (F.args_zip_next_1 _))))
 obtain⟨o,ho,hc⟩:=he;refine wpAny_bind (wpAny_isInstance (T:="StopIteration") (b:=true) ⟨o,ho,hc⟩ isSubtype_stop ?_);exact wpAny_pure (hQ _ hk)
end
end PySem
namespace DL
open PySem PySem.Spec PyProof.Rows L2
structure ZSt (z u v i j b c:Addr) (n:Nat) (h:Heap):Prop where
 md:IsZip h z u v .none\/∃ T f1,ZT h z u v T f1/\∃ o,h.get? T=some o
 hu:IsPair h u (.ref i) (.ref j)
 hv:∃ a d,IsPair h v a d
 h1:h.IsListIter i b n
 h2:h.IsListIter j c n
section
variable {z u v i j b c:Addr} {n:Nat}
theorem ZSt.keep (Z:ZSt z u v i j b c n h) (al:∀ k o,h.get? k=some o->∃ o',h'.get? k=some o') (k:∀ b∈[z,u,v,i,j],∀ o,h.get? b=some o->h'.get? b=some o):ZSt z u v i j b c n h':=by
 obtain⟨md,hu,⟨a,d,hv⟩,h1,h2⟩:=Z;refine⟨?_,k u (by simp) _ hu,⟨a,d,k v (by simp) _ hv⟩,h1.at fun o e=>k i (by simp) o e,h2.at fun o e=>k j (by simp) o e⟩;rcases md with hz|⟨T,f1,hz,o,hT⟩
 ·exact .inl (k z (by simp) _ hz)
 ·exact .inr ⟨T,f1,k z (by simp) _ hz,al _ _ hT⟩
variable {prog:Program} {w:World} {A:Around} {E:Value->Shared->Prop} {s:Shared} {xs ys:Array Value} {x y:Value}
theorem BS (D:ZipApart z u v i j b c) (Z:ZSt z u v i j b c n s.heap) (p:s.heap.IsList b xs) (p':s.heap.IsList c ys) (hx:xs[n]?=some x) (hy:ys[n]?=some y)
  (hQ:∀ g,ZSt z u v i j b c (n+1) g->IsPair g s.heap.objs.size x y->(∀ k o,k ∉ [z,u,v,i,j]->s.heap.get? k=some o->g.get? k=some o)->Q (some (.ref s.heap.objs.size)) {s with heap:=g}) :
  wpAny (model prog w) A (pyNext (.ref z)) Q E s:=by
 obtain⟨md,hu,⟨a,d,hv⟩,h1,h2⟩:=Z;rcases md with hz|⟨T,f1,hz,o,hT⟩
 ·refine wpAny_pyNext_zip_item D hz hu hv h1 h2 p p' hx hy fun g a1 a2 a3 a4 a5 a6 a7=>hQ g ⟨.inr ⟨_,false,a1,_,a5⟩,a7 _ _ D.TIz D.TITO D.TIi1 D.TIi2 hu,⟨_,_,a2⟩,a3,a4⟩ a5 fun k o hk e=>?_
  simp only[List.mem_cons,List.not_mem_nil,or_false,not_or] at hk;exact a7 k o hk.1 hk.2.2.1 hk.2.2.2.1 hk.2.2.2.2 e
 ·refine X8 D hz ⟨o,hT⟩ hu h1 h2 p p' hx hy fun g a1 a3 a4 a5 a6 a7=>hQ g ⟨.inr ⟨T,true,a1,?_⟩,a7 _ _ D.TIz D.TIi1 D.TIi2 hu,⟨_,_,a7 _ _ D.TOz D.TOi1 D.TOi2 hv⟩,a3,a4⟩ a5 fun k o hk e=>?_
  ·by_cases t1:T=z
   ·subst t1;exact⟨_,a1⟩
   by_cases t2:T=i
   ·subst t2;obtain⟨o,e,_⟩:=a3;exact⟨o,e⟩
   by_cases t3:T=j
   ·subst t3;obtain⟨o,e,_⟩:=a4;exact⟨o,e⟩
   exact⟨o,a7 _ _ t1 t2 t3 hT⟩
  ·simp only[List.mem_cons,List.not_mem_nil,or_false,not_or] at hk
   exact a7 k o hk.1 hk.2.2.2.1 hk.2.2.2.2 e
theorem Er (hh:A.handled=none) (D:ZipApart z u v i j b c) (Z:ZSt z u v i j b c n s.heap) (p:s.heap.IsList b xs) (p':s.heap.IsList c ys) (hend:xs[n]?=none\/ys[n]?=none)
  (hQ:∀ g,(∀ k o,k ∉ [z,u,v,i,j]->s.heap.get? k=some o->g.get? k=some o)->Q none {s with heap:=g}) :
  wpAny (model prog w) A (pyNext (.ref z)) Q E s:=by
 obtain⟨md,hu,⟨a,d,hv⟩,h1,h2⟩:=Z;rcases md with hz|⟨T,f1,hz,o,hT⟩
 ·refine wpAny_pyNext_zip_end hh D hz hu hv h1 h2 p p' hend fun g a7=>hQ g fun k o hk e=>?_
  simp only[List.mem_cons,List.not_mem_nil,or_false,not_or] at hk;exact a7 k o hk.1 hk.2.2.1 hk.2.2.2.1 hk.2.2.2.2 e
 ·refine Xo hh D hz ⟨o,hT⟩ hu h1 h2 p p' hend fun g a7=>hQ g fun k o hk e=>?_
  simp only[List.mem_cons,List.not_mem_nil,or_false,not_or] at hk;exact a7 k o hk.1 hk.2.2.2.1 hk.2.2.2.2 e
end
noncomputable def Grw (K:Frag) (H H':Hp):Prop:=HExt K H H'/\∀ M,RepM K H M->RepM K H' M
theorem Grw.refl {K:Frag} (H:Hp):Grw K H H:=⟨.refl H,fun _ r=>r⟩
theorem Grw.trans {K:Frag} {H H1 H2:Hp} (a:Grw K H H1) (b:Grw K H1 H2):Grw K H H2:=⟨a.1.trans b.1,fun M r=>b.2 M (a.2 M r)⟩
theorem Grw.tup {K:Frag} {H:Hp} {p:Addr} {vs:List V} (h:H p=none):Grw K H (L2.upd H p (.tup vs)):=⟨.upd (.inl h),fun M r=>r.tup h⟩
theorem BX (h:a≠b):L2.upd (L2.upd (L2.upd H a o) b p) a q=L2.upd (L2.upd H b p) a q:=by
 funext k
 by_cases h1:k=a
 ·subst h1;rw[upd_same,upd_same]
 ·rw[Y4 h1,Y4 h1]
  by_cases h2:k=b
  ·subst h2;rw[upd_same,upd_same]
  ·rw[Y4 h2,Y4 h2,Y4 h1]
section
variable {X:Cx} {pins:List (Addr×Obj)} {σ:L2.St} {z u v i j b c S:Addr} {A:Around} {R:Result->Shared->Prop} {res:Value} {vs ws:List V}
theorem Dh (hh:A.in1.handled=none) (D:ZipApart z u v i j b c) (hS:S ∉ [z,u,v,i,j]) (lv:vs.length<=1000):∀ (m n:Nat) (s:Shared) (H:Hp) (Ts:List Addr),min vs.length ws.length-n=m->n<=min vs.length ws.length ->
  L2.Inv X pins σ (L2.upd H S (.lst (Ts.map V.ref))) s->(∀ k∈[z,u,v,i,j],FpOk X pins (L2.upd H S (.lst (Ts.map V.ref))) k)->ZSt z u v i j b c n s.heap->H b=some (.lst vs)->H c=some (.lst ws)->H S=none ->
  Ts.length=n->(∀ (k:Nat) (T:Addr),Ts[k]?=some T->∃ x y,vs[k]?=some x/\ws[k]?=some y/\H T=some (.tup [x,y])) ->
  (∀ (s':Shared) (H':Hp) (Ts':List Addr),L2.Inv X pins σ (L2.upd H' S (.lst (Ts'.map V.ref))) s'->Grw X.K H H'->H' S=none->Ts'.length=min vs.length ws.length->(∀ (k:Nat) (T:Addr),Ts'[k]?=some T->∃ x y,vs[k]?=some x/\ws[k]?=some y/\H' T=some (.tup [x,y]))->R (.ok (.ret res)) s') ->
  codeAny (model X.prog X.w) A (.builtin "list.extend.loop" ⟨[.ref S,.ref z,res],[]⟩) R s:=by
 intro m
 induction m with
 | zero =>
  intro n s H Ts hm hn I hf Z hb hc hs hl hp hR;have bS:b≠S:=fun e=>by rw[e,hs] at hb;cases hb
  have cS:c≠S:=fun e=>by rw[e,hs] at hc;cases hc
  obtain⟨its,rv,p,_⟩:=I.list (a:=b) (xs:=vs) (.of (by rw[Y4 bS];exact hb));obtain⟨its',rv',p',_⟩:=I.list (a:=c) (xs:=ws) (.of (by rw[Y4 cS];exact hc));have l1:=rv.length;have l2:=rv'.length;refine codeAny_builtin F.entry_extend_loop ?_;rw[Around.under_plainId F.plain_extend_loop _];show wpAny _ A.in1 (pyNext (.ref z) >>= _) _ _ s;refine wpAny_bind (Er hh D Z p.isList p'.isList (by
   by_cases h:vs.length<=ws.length
   ·exact .inl (by simp;omega)
   ·exact .inr (by simp;omega)) fun g k=>?_)
  exact wpAny_pure (hR {s with heap:=g} H Ts (Zg (h':=g) (t':=s.toks) I k hf) (.refl H) hs %[|5] hp)
 | succ m ih =>
  intro n s H Ts hm hn I hf Z hb hc hs hl hp hR;have bS:b≠S:=fun e=>by rw[e,hs] at hb;cases hb
  have cS:c≠S:=fun e=>by rw[e,hs] at hc;cases hc
  obtain⟨its,rv,p,_⟩:=I.list (a:=b) (xs:=vs) (.of (by rw[Y4 bS];exact hb));obtain⟨its',rv',p',_⟩:=I.list (a:=c) (xs:=ws) (.of (by rw[Y4 cS];exact hc));have l1:=rv.length;have l2:=rv'.length;have n1:n<vs.length:=by omega
  have n2:n<ws.length:=by omega
  obtain⟨vx,hvx,rx⟩:=rv.get (List.getElem?_eq_getElem n1);obtain⟨vy,hvy,ry⟩:=rv'.get (List.getElem?_eq_getElem n2);refine codeAny_builtin F.entry_extend_loop ?_;rw[Around.under_plainId F.plain_extend_loop _];show wpAny _ A.in1 (pyNext (.ref z) >>= _) _ _ s;refine wpAny_bind (BS D Z p.isList p'.isList (x:=vx) (y:=vy) (by simpa using hvx) (by simpa using hvy) fun g Z' tp kp=>?_);have nf:=I.hok.fresh (Nat.le_refl s.heap.objs.size);have TS:s.heap.objs.size≠S:=fun e=>by rw[e,upd_same] at nf;cases nf
  have nH:H s.heap.objs.size=none:=by rw[Y4 TS] at nf;exact nf
  have I1:L2.Inv X pins σ (L2.upd (L2.upd H S (.lst (Ts.map V.ref))) s.heap.objs.size (.tup [vs[n],ws[n]])) {s with heap:=s.heap.push {cls:=.type "tuple",data:=.seq #[vx,vy]},toks:=s.toks} :=
   I.laid (fun k o e=>Heap.get?_push_of_some _ e) %[|3] ⟨by simp only[List.length_cons,List.length_nil];rw[sizeLine_eq];decide,[vx,vy],.cons rx (.cons ry .nil),⟨_,Heap.get?_push_size _ rfl,rfl,_,rfl⟩⟩
  have ff:∀ k∈[z,u,v,i,j],k≠s.heap.objs.size:=fun k hk e=>by
   obtain⟨md,hu,⟨a,d,hv⟩,h1,h2⟩:=Z;subst e;have lt:∀ {o},s.heap.get? s.heap.objs.size=some o->False:=fun e=>Nat.lt_irrefl _ (Heap.lt_size e);simp only[List.mem_cons,List.not_mem_nil,or_false] at hk;rcases hk with e|e|e|e|e
   ·rw[<- e] at md
    rcases md with hz|⟨T,f1,hz,_⟩
    ·exact lt hz
    ·exact lt hz
   ·rw[<- e] at hu;exact lt hu
   ·rw[<- e] at hv;exact lt hv
   ·rw[<- e] at h1;obtain⟨o,e,_⟩:=h1;exact lt e
   ·rw[<- e] at h2;obtain⟨o,e,_⟩:=h2;exact lt e
  have f1:∀ k∈[z,u,v,i,j],FpOk X pins (L2.upd (L2.upd H S (.lst (Ts.map V.ref))) s.heap.objs.size (.tup [vs[n],ws[n]])) k:=fun k hk=>⟨by rw[Y4 (ff k hk)];exact (hf k hk).1,(hf k hk).2⟩;have I2:L2.Inv X pins σ (L2.upd (L2.upd H S (.lst (Ts.map V.ref))) s.heap.objs.size (.tup [vs[n],ws[n]])) {s with heap:=g,toks:=s.toks}:=by
   refine Zg (s:={s with heap:=s.heap.push {cls:=.type "tuple",data:=.seq #[vx,vy]},toks:=s.toks}) (h':=g) (t':=s.toks) I1 (fun k o hk e=>?_) f1;rcases Heap.get?_push_cases e with ⟨rfl,rfl⟩|e'
   ·exact tp
   ·exact kp k o hk e'
  have hS2:(L2.upd (L2.upd H S (.lst (Ts.map V.ref))) s.heap.objs.size (.tup [vs[n],ws[n]])) S=some (.lst (Ts.map V.ref)):=by rw[Y4 TS.symm,upd_same]
  obtain⟨zl,is,cap,r,hl',e⟩:=I2.lstM hS2;have tl:is.length<=1000:=by simp at hl';omega
  show wpAny _ A.in1 (updateSeq S (·.push (.ref s.heap.objs.size)) >>= _) _ _ _;refine wpAny_bind ?_;have I3:=I2.lset (f:=(·.push (.ref s.heap.objs.size))) (its':=is++[.ref s.heap.objs.size]) (ys:=(Ts++[s.heap.objs.size]).map V.ref) (t':=s.toks) hS2 e (by simp) (by rw[List.map_append];exact r.append (.cons rfl .nil)) (by
   have:sizeLine=16777216:=sizeLine_eq;simp;omega)
  rw[BX TS.symm] at I3;have sl:sizeLine=16777216:=sizeLine_eq;refine wpAny_updateSeq e rfl (wpAny_pure ⟨plainId_quiet F.plain_extend_loop _,ih (n+1) _ (L2.upd H s.heap.objs.size (.tup [vs[n],ws[n]])) (Ts++[s.heap.objs.size]) %[|5] %[|5] I3 (fun k hk=>⟨?_,(hf k hk).2⟩) ?_ ?_ ?_ ?_ (by simp;omega) ?_ fun s' H' Ts' I' x' hs' hl'' hp'=>?_⟩) (by simp;omega) (by simp;omega)
  ·have:=(f1 k hk).1
   rw[Y4 (ff k hk)] at this;have kS:k≠S:=fun z=>hS (z ▸ hk);rw[Y4 kS] at this ⊢;rw[Y4 (ff k hk)];exact this
  ·have oth:∀ b o,b≠S->g.get? b=some o->(g.update S (Obj.mapSeq (·.push (.ref s.heap.objs.size)))).get? b=some o:=fun b o hb e=>(Heap.get?_update_other _ _ (Ne.symm hb)).trans e
   refine Z'.keep (fun k o q=>?_) fun k hk o q=>oth k o (fun z=>hS (z ▸ hk)) q;by_cases kS:k=S
   ·subst kS;exact⟨_,Heap.get?_update_self _ e rfl⟩
   ·exact⟨o,oth k o kS q⟩
  ·rw[Y4];exact hb
   intro z;rw[z,nH] at hb;cases hb
  ·rw[Y4];exact hc
   intro z;rw[z,nH] at hc;cases hc
  ·rw[Y4 TS.symm];exact hs
  ·intro k T hT
   by_cases hk:k<Ts.length
   ·rw[List.getElem?_append_left hk] at hT
    obtain⟨x,y,e1,e2,e3⟩:=hp k T hT;refine⟨x,y,e1,e2,?_⟩;rw[Y4];exact e3;intro z;rw[z,nH] at e3;cases e3
   ·rw[List.getElem?_append_right %[|5]] at hT
    have:k-Ts.length=0:=by
     have:=(List.getElem?_eq_some_iff.mp hT).1;simp at this;omega
    rw[this] at hT;simp at hT;subst hT;obtain rfl:k=n:=by omega
    exact⟨vs[k],ws[k],List.getElem?_eq_getElem n1,List.getElem?_eq_getElem n2,upd_same⟩
  ·exact hR s' H' Ts' I' ((Grw.tup nH).trans x') hs' hl'' hp'
end
end DL
namespace PySem
namespace F
theorem zip_no_len:typeLookup (.type "zip") "__len__"=pure none:=by rw[typeLookup_type,builtinLookup_eq_fast];kernel_rfl
theorem zip_no_hint:typeLookup (.type "zip") "__length_hint__"=pure none:=by rw[typeLookup_type,builtinLookup_eq_fast];kernel_rfl
end F
end PySem
namespace DL
open PySem PySem.Spec PyProof.Rows L2
section
variable {X:Cx} {pins:List (Addr×Obj)} {σ:L2.St} {z u v i j b c S:Addr} {A:Around} {R:Result->Shared->Prop} {res:Value} {vs ws:List V} {H:Hp} {s:Shared}
theorem ZSt.typeIs (Z:ZSt z u v i j b c n s.heap):s.TypeIs (.ref z) "zip":=by
 rcases Z.md with h|⟨T,f1,h,_⟩
 ·exact⟨_,h,rfl⟩
 ·exact⟨_,h,rfl⟩
theorem Fq (hh:A.in1.handled=none) (D:ZipApart z u v i j b c) (hS:S ∉ [z,u,v,i,j]) (lv:vs.length<=1000) (I:L2.Inv X pins σ (L2.upd H S (.lst [])) s) (hf:∀ k∈[z,u,v,i,j],FpOk X pins (L2.upd H S (.lst [])) k) (Z:ZSt z u v i j b c 0 s.heap)
  (hb:H b=some (.lst vs)) (hc:H c=some (.lst ws)) (hs:H S=none)
  (hR:∀ (s':Shared) (H':Hp) (Ts':List Addr),L2.Inv X pins σ (L2.upd H' S (.lst (Ts'.map V.ref))) s'->Grw X.K H H'->H' S=none->Ts'.length=min vs.length ws.length->(∀ (k:Nat) (T:Addr),Ts'[k]?=some T->∃ x y,vs[k]?=some x/\ws[k]?=some y/\H' T=some (.tup [x,y]))->R (.ok (.ret res)) s') :
  wpAny (model X.prog X.w) A.in1 (Builtin.List.listExtendWith (.ref S) (.ref z) res)
   (fun fin s'=>match fin with | .done f=>R (.ok f) s' | .again c'=>c'.quiet=true/\codeAny (model X.prog X.w) A c' R s') (fun e s'=>R (.error e) s') s:=by
 have hSz:S≠z:=fun e=>hS (by simp[e]);unfold Builtin.List.listExtendWith;refine wpAny_bind (wpAny_typeOf Z.typeIs ?_);have h1:Builtin.List.listSameRef (.ref S) (.ref z)=false:=by simp[Builtin.List.listSameRef,hSz]
 have h2:(Value.type "zip" == Value.type "list")=false:=by decide
 have h3:(Value.type "zip" == Value.type "tuple")=false:=by decide
 simp only[h1,h2,h3,Bool.or_false,Bool.false_eq_true,if_false];have self:∀ {Q:Value->Shared->Prop} {E:Value->Shared->Prop} {A:Around},Q (.ref z) s->wpAny (model X.prog X.w) A (pyIter (.ref z)) Q E s:=fun h=>by
  rcases Z.md with q|⟨T,f1,q,_⟩
  ·exact wpAny_pyIter_zip q h
  ·have hT:s.TypeIs (.ref z) "zip":=⟨_,q,rfl⟩
   refine wpAny_pyIter_slot hT F.slot_zip_iter (wpAny_call_entry F.slot_zip_iter hT F.entry_zip_iter ?_ (F.args_zip_iter_1 _));show wpAny _ _ (ret (.ref z)) _ _ s;exact wpAny_pure ⟨_,rfl,"zip",_,hT,F.slot_zip_next.lookup,h⟩
 refine wpAny_bind (self ?_);refine wpAny_bind (wpAny_holding ?_);unfold Builtin.List.listLengthHint;refine wpAny_bind (wpAny_specialOf Z.typeIs F.zip_no_len ?_);show wpAny _ A.in1 (specialOf (Value.ref z) (Str.ofString "__length_hint__") >>= _) _ _ _;refine wpAny_bind (wpAny_specialOf Z.typeIs F.zip_no_hint ?_);refine wpAny_pure ?_;show wpAny _ A.in1 (rule "list.extend.makes-room" >>= fun _=>Builtin.List.listTouch (.ref S) >>= fun _ =>
  again (.builtin "list.extend.loop" ⟨[.ref S,.ref z,res],[]⟩)) _ _ _
 refine wpAny_bind (wpAny_rule ?_);refine wpAny_bind ?_;show wpAny _ A.in1 (updateSeq S (·.push .none) >>= fun _=>updateSeq S (·.pop)) _ _ _;obtain⟨_,is,cap,r,hl,e⟩:=I.lstM (l:=S) upd_same;obtain rfl:is=[]:=by cases is with|nil=>rfl|cons _ _=>simp at hl
 refine wpAny_bind (wpAny_updateSeq e rfl ?_);have sl:sizeLine=16777216:=sizeLine_eq;have I2:=I.lset (f:=(·.push .none)) (its':=[.none]) (ys:=[V.non]) (t':=s.toks) upd_same e (by simp) (.cons rfl .nil) (by simp;omega);rw[Uu] at I2;have e2:=Heap.get?_update_self (Obj.mapSeq (·.push Value.none)) e rfl;refine wpAny_updateSeq (hz:=by seq_fits) e2 rfl ?_;have I3:=I2.lset (f:=(·.pop)) (its':=[]) (ys:=[]) (t':=s.toks) upd_same (by simpa[Obj.mapSeq] using e2) (by simp) .nil (by simp);rw[Uu] at I3;have oth:∀ b o,b≠S->s.heap.get? b=some o->((s.heap.update S (Obj.mapSeq (·.push Value.none))).update S (Obj.mapSeq (·.pop))).get? b=some o :=
  fun b o hb e=>(Heap.get?_update_other _ _ (Ne.symm hb)).trans ((Heap.get?_update_other _ _ (Ne.symm hb)).trans e)
 have e3:=Heap.get?_update_self (Obj.mapSeq (·.pop)) e2 rfl;refine wpAny_pure ⟨plainId_quiet F.plain_extend_loop _,Dh hh D hS lv _ 0 _ H [] rfl (Nat.zero_le _) I3 hf (Z.keep (fun k o q=>?_) fun k hk o q=>oth k o (fun z=>hS (z ▸ hk)) q) hb hc hs rfl (fun k T h=>by simp at h) hR⟩;by_cases kS:k=S
 ·subst kS;exact⟨_,e3⟩
 ·exact⟨o,oth k o kS q⟩
theorem Dq (hh:A.in1.handled=none) (D:ZipApart z u v i j b c) (hS:S ∉ [z,u,v,i,j]) (lv:vs.length<=1000) (I:L2.Inv X pins σ (L2.upd H S (.lst [])) s) (hf:∀ k∈[z,u,v,i,j],FpOk X pins (L2.upd H S (.lst [])) k) (Z:ZSt z u v i j b c 0 s.heap)
  (hb:H b=some (.lst vs)) (hc:H c=some (.lst ws)) (hs:H S=none)
  (hR:∀ (s':Shared) (H':Hp) (Ts':List Addr),L2.Inv X pins σ (L2.upd H' S (.lst (Ts'.map V.ref))) s'->Grw X.K H H'->H' S=none->Ts'.length=min vs.length ws.length->(∀ (k:Nat) (T:Addr),Ts'[k]?=some T->∃ x y,vs[k]?=some x/\ws[k]?=some y/\H' T=some (.tup [x,y]))->R (.ok (.ret .none)) s') :
  wpAny (model X.prog X.w) A.in1 (Builtin.«list.__init__» ⟨[.ref S,.ref z],[]⟩)
   (fun fin s'=>match fin with | .done f=>R (.ok f) s' | .again c'=>c'.quiet=true/\codeAny (model X.prog X.w) A c' R s') (fun e s'=>R (.error e) s') s:=by
 show wpAny _ A.in1 (do let old <- Builtin.List.listItems (.ref S);Builtin.List.listUpdate (.ref S) (fun _=>#[]);letGo old.toList.reverse;Builtin.List.listExtendWith (.ref S) (.ref z) .none) _ _ s;obtain⟨_,is,cap,r,hl,e⟩:=I.lstM (l:=S) upd_same;obtain rfl:is=[]:=by cases is with|nil=>rfl|cons _ _=>simp at hl
 refine wpAny_bind ?_;unfold Builtin.List.listItems;refine wpAny_bind (wpAny_seqItems e rfl (wpAny_pure ?_));show wpAny _ A.in1 (updateSeq S (fun _=>#[]) >>= fun _=>letGo (#[]:Array Value).toList.reverse >>= fun _=>Builtin.List.listExtendWith (.ref S) (.ref z) .none) _ _ s;refine wpAny_bind (wpAny_updateSeq e rfl ?_);have I2:=I.lset (f:=fun _=>#[]) (its':=[]) (ys:=[]) (t':=s.toks) upd_same e (by simp) .nil (by simp);rw[Uu] at I2;have e2:=Heap.get?_update_self (Obj.mapSeq (fun _=>(#[]:Array Value))) e rfl;have oth:∀ b o,b≠S->s.heap.get? b=some o->(s.heap.update S (Obj.mapSeq (fun _=>(#[]:Array Value)))).get? b=some o :=
  fun b o hb e=>(Heap.get?_update_other _ _ (Ne.symm hb)).trans e
 refine wpAny_bind (wpAny_letGo ?_);refine Fq hh D hS lv I2 hf (Z.keep (fun k o q=>?_) fun k hk o q=>oth k o (fun z=>hS (z ▸ hk)) q) hb hc hs hR;by_cases kS:k=S
 ·subst kS;exact⟨_,e2⟩
 ·exact⟨o,oth k o kS q⟩
theorem VS (hh:A.in1.in1.handled=none) (D:ZipApart z u v i j b c) (lv:vs.length<=1000) (I:L2.Inv X pins σ H s) (hf:∀ k∈[z,u,v,i,j],FpOk X pins H k) (Z:ZSt z u v i j b c 0 s.heap)
  (hb:H b=some (.lst vs)) (hc:H c=some (.lst ws))
  (hQ:∀ (s':Shared) (H':Hp) (Ts':List Addr),L2.Inv X pins σ (L2.upd H' s.heap.objs.size (.lst (Ts'.map V.ref))) s'->Grw X.K H H'->H' s.heap.objs.size=none->Ts'.length=min vs.length ws.length->(∀ (k:Nat) (T:Addr),Ts'[k]?=some T->∃ x y,vs[k]?=some x/\ws[k]?=some y/\H' T=some (.tup [x,y]))->Q (.ref s.heap.objs.size) s') :
  wpAny (model X.prog X.w) A (call (.type "list") [.ref z]) Q E s:=by
 have hs:=I.hok.fresh (Nat.le_refl s.heap.objs.size);have lt:∀ k∈[z,u,v,i,j],∃ o,s.heap.get? k=some o:=fun k hk=>by
  obtain⟨md,hu,⟨a,d,hv⟩,h1,h2⟩:=Z;simp only[List.mem_cons,List.not_mem_nil,or_false] at hk;rcases hk with rfl|rfl|rfl|rfl|rfl
  ·rcases md with q|⟨_,_,q,_⟩<;>exact⟨_,q⟩
  ·exact⟨_,hu⟩
  ·exact⟨_,hv⟩
  ·obtain⟨o,e,_⟩:=h1;exact⟨o,e⟩
  ·obtain⟨o,e,_⟩:=h2;exact⟨o,e⟩
 have hS:s.heap.objs.size ∉ [z,u,v,i,j]:=fun h=>by obtain⟨o,e⟩:=lt _ h;exact Nat.lt_irrefl _ (Heap.lt_size e)
 refine callType_codes (Q₁:=fun obj s₁=>obj=.ref s.heap.objs.size/\s₁={s with heap:=s.heap.push {cls:=.type "list",data:=.seq #[]}}) F.called_list (F.typeCall_list_1 _) F.entry_list_init
  (code_list_new _ ⟨rfl,rfl⟩) fun obj s₁ h₁=>?_
 obtain⟨rfl,rfl⟩:=h₁;have e:(s.heap.push {cls:=.type "list",data:=.seq #[]}).get? s.heap.objs.size=some {cls:=.type "list",data:=.seq #[]}:=Heap.get?_push_size _ rfl;have I2:=I.lnew (its:=[]) (ys:=[]) (t':=s.toks) .nil (by simp);refine⟨⟨_,e,rfl⟩,F.args_list_init_2 _ _,Dq hh D hS lv I2 (fun k hk=>⟨?_,(hf k hk).2⟩) (Z.keep (fun k o q=>⟨o,Heap.get?_push_of_some _ q⟩) fun k hk o q=>Heap.get?_push_of_some _ q) hb hc hs fun s' H' Ts' I' x' hs' hl' hp'=>?_⟩
 ·have kS:k≠s.heap.objs.size:=fun e=>hS (e ▸ hk)
  rw[Y4 kS];exact (hf k hk).1
 ·exact⟨rfl,hQ s' H' Ts' I' x' hs' hl' hp'⟩
end
end DL
namespace DL
open PySem PySem.Spec PyProof.Rows L2
section
variable {X:Cx} {e:Expr} {es:List Expr} {t:TA} {p p2 pos pos2:Pos}
theorem ER (hc:X.calm=true) (hg1:Gl X "list") (hm1:X.mg "list"=none) (hg2:Gl X "zip") (hm2:X.mg "zip"=none) (ha:PA X (e::es) t)
  (he:starEach (e::es) X.env=(false,eval e X.env)::starEach es X.env) (hpl:(backTo pos2 (starEach es X.env)).any (·.1)=false) :
  PE X (.Call (.Name "list" p) [.Call (.Name "zip" p2) (e::es) [] pos2] [] pos) (tCB (fun xs H Q=>∃ b c vs ws,xs=[.ref b,.ref c]/\H b=some (.lst vs)/\H c=some (.lst ws)/\vs.length<=1000/\∀ (H':Hp) (Ts:List Addr) l,Grw X.K H H'->H' l=none->Ts.length=min vs.length ws.length->(∀ (k:Nat) (T:Addr),Ts[k]?=some T->∃ x y,vs[k]?=some x/\ws[k]?=some y/\H' T=some (.tup [x,y]))->Q (.ref l) (L2.upd H' l (.lst (Ts.map V.ref)))) t):=by
 intro pins s σ H Q I h;refine wpAny_Call_Name_kw (ZS I hg1 hm1 (u:=.type "list") (by decide +kernel) ?_);refine PyProof.Rows.callWith_type1 ?_ rfl rfl;refine Calls.spliced_cons ?_;refine wpAny_Call_Name_kw (ZS I hg2 hm2 (u:=.type "zip") (by decide +kernel) ?_);refine PyProof.Rows.callWith_type1 ?_ he hpl;refine thn (ha pos2 pins s σ H _ I h) ?_;rintro us s1 ⟨vs',H1,I1,r1,b,c,vs,ws,rfl,hb,hcc,hl,q⟩;cases r1 with
 | cons r rr =>
  cases rr with
  | cons r' rr =>
   cases rr
   (first|cases (show _=_ from r.inv)|cases r)
   (first|cases (show _=_ from r'.inv)|cases r')
   obtain⟨its,rv,pb,_⟩:=I1.list (.of hb);obtain⟨its',rv',pc,_⟩:=I1.list (.of hcc);have lb:b<s1.heap.objs.size:=by obtain⟨o,e,_⟩:=pb.isList;exact Heap.lt_size e
   have lc:c<s1.heap.objs.size:=by obtain⟨o,e,_⟩:=pc.isList;exact Heap.lt_size e
   refine call_zip_2 pb.isList pc.isList fun g st1 st2 st3 st4 st5 _ k=>?_;refine Calls.spliced_nil ?_;have I2:=I1.kept (t':=s1.toks) k;refine VS (b:=b) (c:=c) (I1.ok.hd hc) (zipApart_new lb lc) hl I2 (fun m hm=>?_) ⟨.inl st1,st2,⟨_,_,st3⟩,st4,st5⟩ hb hcc fun s' H' Ts I' x' hs' hl' hp'=>?_
   ·have le:s1.heap.objs.size<=m:=by
     simp only[List.mem_cons,List.not_mem_nil,or_false] at hm;rcases hm with rfl|rfl|rfl|rfl|rfl
     ·exact Nat.le_add_right _ _
     ·exact Nat.le_add_right _ _
     ·exact Nat.le_add_right _ _
     ·exact Nat.le_refl _
     ·exact Nat.le_add_right _ _
    exact I1.fpOk le (I1.hok.fresh le)
   ·exact⟨.ref _,_,I',rfl,q H' Ts _ x' hs' hl' hp'⟩
end
section
variable {X:Cx} {rz:Bool} {Xe:DSt->DK} {e:Expr} {es:List Expr} {t:DA} {p p2 pos pos2:Pos}
noncomputable def AT:List D->Mem->DK->Prop
 | [.lst a,.lst b],M,Q=>∃ xs ys,M a=some (.ls xs)/\M b=some (.ls ys)/\xs.length<=1000/\alloc M (.ls (zipD xs ys)) fun p M'=>Q (.lst p) M'
 | _,_,_=>False
theorem Ji {K:Frag} {H:Hp}:∀ {vs ws:List V} {xs ys:List D},RelDs K H vs xs->RelDs K H ws ys->∀ (Ts:List Addr),Ts.length=min vs.length ws.length->(∀ (k:Nat) (T:Addr),Ts[k]?=some T->∃ x y,vs[k]?=some x/\ws[k]?=some y/\H T=some (.tup [x,y]))->RelDs K H (Ts.map V.ref) (zipD xs ys)
 | [],ws,xs,ys,r,q,Ts,hl,hp=>by
  obtain rfl:Ts=[]:=by cases Ts with|nil=>rfl|cons _ _=>simp at hl
  (first|cases (show _=_ from r.inv)|cases r)
  exact .nil
 | v::vs,[],xs,ys,r,q,Ts,hl,hp=>by
  obtain rfl:Ts=[]:=by cases Ts with|nil=>rfl|cons _ _=>simp at hl
  cases q
  (first|cases (show _=_ from r.inv)|cases r)
  exact .nil
 | v::vs,w::ws,xs,ys,r,q,Ts,hl,hp=>by
  cases r with
  | cons rx r =>
   cases q with
   | cons ry q =>
    cases Ts with
    | nil=>simp at hl
    | cons T Ts =>
     obtain⟨x,y,e1,e2,e3⟩:=hp 0 T rfl;simp at e1 e2;subst e1 e2;refine .cons (.tup (.of e3) (.cons rx (.cons ry .nil))) (Ji r q Ts (by simp at hl;omega) fun k T' h=>?_);have:=hp (k+1) T' (by simpa using h)
     simpa using this
theorem FA (hc:X.calm=true) (hg1:Gl X "list") (hm1:X.mg "list"=none) (hg2:Gl X "zip") (hm2:X.mg "zip"=none) (ha:PA X (e::es) (Zo (X.L rz Xe) t))
  (he:starEach (e::es) X.env=(false,eval e X.env)::starEach es X.env) (hpl:(backTo pos2 (starEach es X.env)).any (·.1)=false) :
  PE X (.Call (.Name "list" p) [.Call (.Name "zip" p2) (e::es) [] pos2] [] pos) (lift (X.L rz Xe) (dCB AT t)):=by
 refine (ER hc hg1 hm1 hg2 hm2 ha he hpl).imp fun σ H Q h=>?_;obtain⟨δ,M,R,rs,rm,t,q⟩:=h;refine⟨δ,M,_,rs,rm,t,fun ds M' vs H' x m r h=>?_⟩;unfold AT at h;split at h
 ·rename_i a b
  refine r.inv2 fun v w e0 ra rb=>?_;have e1:=ra.inv;have e2:=rb.inv;obtain⟨xs,ys,ea,eb,hl,h⟩:=h;obtain⟨vs,ev,r1⟩:=m _ _ ea;obtain⟨ws,ew,r2⟩:=m _ _ eb;refine⟨a,b,vs,ws,by rw[e0,show v=_ from e1,show w=_ from e2],ev,ew,by rw[r1.length];exact hl,fun H2 Ts l g hn ht hp=>?_⟩;have m2:=g.2 _ m;exact q _ _ _ _ (x.trans (g.1.trans (.upd (.inl hn)))) (m2.lst hn (Ji (r1.ext g.1) (r2.ext g.1) Ts ht hp)) (.lst l) (h.at (m2.none hn))
 ·exact h.elim
end
end DL
namespace DL
open PySem PySem.Spec PyProof.Rows L2
section
variable {X:Cx}
end
section
variable {X:Cx} {rz:Bool} {Xe:DSt->DK} {o e:Expr} {to ta:DE} {apos cpos:Pos}
end
section
variable {X:Cx} {a b:Expr} {p1 p2 p3 pos:Pos} {k:Nat} {x:Str}
end
section
variable {X:Cx} {rz:Bool} {Xe:DSt->DK} {a b:Expr} {ta tb:DE} {p1 p2 p3 pos:Pos} {k:Nat} {x:Str}
end
section
variable {X:Cx}
end
section
variable {X:Cx} {rz:Bool} {Xe:DSt->DK} {tg:Expr}
end
section
variable {X:Cx} {rz:Bool} {a b e:Expr} {te ta tb:(DSt->DK)->DE} {pos pos':Pos}
end
section
variable {X:Cx} {rz:Bool} {Xe:DSt->DK} {o e f:Expr} {to ta tb:DE} {apos pos:Pos}
end
end DL
end
noncomputable section
namespace DL
open PySem PySem.Spec PyProof.Rows L2
section
variable {X:Cx} {rz:Bool} {Xe:DSt->DK} {pos:Pos}
variable {a b:Expr} {ta tb:DE}
end
section
variable {X:Cx} {rz:Bool} {Xe:DSt->DK} {tg:Expr}
end
section
variable {X:Cx}
end
section
variable {X:Cx} {rz:Bool} {Xe:DSt->DK} {o:Expr} {to:DE} {apos cpos:Pos}
variable {e:Expr} {ta:DE} {pos:Pos}
end
end DL
end
noncomputable section
namespace DL
open PySem PySem.Spec PyProof.Rows L2
section
variable {X:Cx}
end
section
variable {X:Cx} {rz:Bool} {Xe:DSt->DK} {o e:Expr} {to ta:DE} {apos cpos:Pos}
end
section
variable {X:Cx} {a b:Expr} {p1 p2 p3 pos:Pos} {k:Nat} {x:Str}
end
section
variable {X:Cx} {rz:Bool} {Xe:DSt->DK} {a b:Expr} {ta tb:DE} {p1 p2 p3 pos:Pos} {k:Nat} {x:Str}
end
section
variable {X:Cx} {a b c:Expr} {p1 p2 p3 p4 p5 pos:Pos} {k k2:Nat} {x y:Str}
end
section
variable {X:Cx} {rz:Bool} {Xe:DSt->DK} {a b c:Expr} {ta tb tc:DE} {p1 p2 p3 p4 p5 pos:Pos} {k k2:Nat} {x y:Str}
end
end DL
end
noncomputable section
namespace DL
open PySem PySem.W PyProof.Rows L2
section
variable (lt:Nat->Nat->Bool) (N:Nat)
variable {lt N}
noncomputable def gA (p:Array Nat) (i:Nat):Nat:=p.getD i 0
noncomputable def St (lt:Nat->Nat->Bool) (p:Array Nat) (k:Nat):Prop:=∀ i j,i<=j->j<k->lt (gA p j) (gA p i)=false
end
section
variable {prog:Program} {w:World} {A:Around} {E:Value->Shared->Prop} {s:Shared}
end
section
variable {X:Cx}
end
end DL
end
noncomputable section
namespace DL
open PySem PySem.Spec PyProof.Rows L2
section
variable {X:Cx} {rz:Bool} {Xe:DSt->DK} {e o:Expr} {es:List Expr} {t:DA} {te to:DE} {x:Str} {p pos apos:Pos}
theorem FC (hcal:X.calm=true) (F:FnAt X "" x S) (hg:Gl X x) (ha:PA X (e::es) (Zo (X.L rz Xe) t)) (hdb:(x==("__debug__":Str))=false) (he:starEach (e::es) X.env=(false,eval e X.env)::starEach es X.env) (hpl:(backTo pos (starEach es X.env)).any (·.1)=false) :
  PE X (.Call (.Name x p) (e::es) [] pos) (lift (X.L rz Xe) (Zq S Xe t)):=by
 obtain⟨k,f,fd,ps,F,_,hr,rf,hb⟩:=F.ex;rw[ini0,Nat.sub_zero] at F;obtain⟨hm,hk⟩:=rf.fn rfl;rintro pins s σ H Q I ⟨δ,M,R,rs,rm,t,q⟩;refine wpAny_Call_Name_kw (V6 I hg hm ?_ hdb);refine PySem.W.callWith_K (h₀:=X.base) I.ok.mod.kin hk (thn (ha pos pins s σ H (fun vs H1=>∃ ds M1,HExt X.K H H1/\RepM X.K H1 M1/\RelDs X.K H1 vs ds/\S ds M1 R (Xe δ)) I ⟨δ,M,_,rs,rm,t,fun ds M1 vs H1 x m r h=>⟨ds,M1,x,m,r,h⟩⟩) fun us s1 ⟨vs,H1,I1,r,ds,M1,x1,m1,r1,h1⟩=>⟨I1.kIn,?_⟩) he hpl;exact AD F (hr hcal) hb I1 r (rs.ext x1) m1 r1 h1 fun d' M' v H' x=>q d' M' v H' (x1.trans x)
theorem Eb (hcal:X.calm=true) (F:FnAt X "" x S) (hg:Gl X x) (hdb:(x==("__debug__":Str))=false):PE X (.Call (.Name x p) [] [] pos) (lift (X.L rz Xe) (Zq S Xe dNil)):=by
 obtain⟨k,f,fd,ps,F,_,hr,rf,hb⟩:=F.ex;rw[ini0,Nat.sub_zero] at F;obtain⟨hm,hk⟩:=rf.fn rfl;rintro pins s σ H Q I ⟨δ,M,R,rs,rm,t,q⟩;refine wpAny_Call_Name_kw (V6 I hg hm ?_ hdb);exact PySem.W.callWith_K0 I.kIn hk (AD (us:=[]) F (hr hcal) hb I .nil rs rm .nil t q)
noncomputable def Y7 (alts:List (Str×DSp)) (i:Nat) (Xe:DSt->DK) (t:DA):DE:=fun δ M Q=>∃ n S,δ[i]?=some (some (.fn n))/\(n,S)∈alts/\t δ M fun ds M1=>S ds M1 Q (Xe δ)
structure GloAt (X:Cx) (x:Str) (d:D):Prop where
 ex:∃ u v,X.mg x=some u/\RelV v u/\∀ H,RelD X.K H v d
noncomputable def dApp (to te:DE):DE:=fun δ M Q=>to δ M fun o M1=>∃ a ys,o=.lst a/\M1 a=some (.ls ys)/\te δ M1 fun y M2=>∃ xs,M2 a=some (.ls xs)/\xs.length<sizeLine/\Q .non (M2.upd a (.ls (xs++[y])))
theorem Ig (ho:PE X o (lift (X.L rz Xe) to)) (he:PE X e (lift (X.L rz Xe) te)) (hbase:attributeBase o "append" X.env (eval o X.env)=eval o X.env) (hs:∀ es,starEach (e::es) X.env=(false,eval e X.env)::starEach es X.env) (hline:(apos.endLine==pos.line)=true) :
  PE X (.Call (.Attribute o "append" apos) [e] [] pos) (lift (X.L rz Xe) (dApp to te)):=by
 refine (CP PySem.F.plainAttrs_list PySem.F.slot_list_append PySem.F.type_list_append U4 ho (Zi he WA (hs _)) hbase (by rw[hs];rfl) hline (hs _) rfl).imp fun σ H Q h=>?_;obtain⟨δ,M,R,rs,rm,t,q⟩:=h;refine⟨δ,M,_,rs,rm,t,fun d M1 v H1 x1 m1 r1 hq7=>?_⟩;obtain⟨a,ys,e1,e2,h1⟩:=hq7;subst e1
 (first|cases (show _=_ from r1.inv)|cases r1)
 obtain⟨vs,ev,_⟩:=m1 _ _ e2;refine⟨.inl ⟨rfl,_,.of ev⟩,δ,M1,fun ds M2=>∃ y,ds=[y]/\∃ xs,M2 a=some (.ls xs)/\xs.length<sizeLine/\R .non (M2.upd a (.ls (xs++[y]))),rs.ext x1,m1,?_,fun ds M2 vs H2 x2 m2 r2 ⟨y,e3,xs,e4,hz,h2⟩=>?_⟩
 ·obtain⟨K',hK'⟩:∃ K':D->Mem->Prop,K'=fun y M2=>∃ xs,M2 a=some (.ls xs)/\xs.length<sizeLine/\R .non (M2.upd a (.ls (xs++[y]))):=⟨_,rfl⟩
  have:(fun x M2=>∃ y,[x]=[y]/\∃ xs,M2 a=some (.ls xs)/\xs.length<sizeLine/\R .non (M2.upd a (.ls (xs++[y]))))=K':=by
   rw[hK'];funext x M2;apply propext;constructor
   ·rintro⟨y,e,h⟩;cases e;exact h
   ·exact fun h=>⟨x,rfl,h⟩
  show te δ M1 fun x M2=>∃ y,[x]=[y]/\∃ xs,M2 a=some (.ls xs)/\xs.length<sizeLine/\R .non (M2.upd a (.ls (xs++[y])));rw[this,hK'];exact h1
 ·subst e3
  obtain⟨v,rfl,rv⟩:=r2.one;obtain⟨ws,ew,rw'⟩:=m2 _ _ e4;exact⟨a,ws,v,rfl,rfl,ew,by rw[rw'.length];exact hz,q _ _ _ _ ((x1.trans x2).trans (.upd (.inr ⟨_,ew,trivial⟩))) (m2.write ew (rw'.append (.cons rv .nil))) .non h2⟩
noncomputable def dExt (to te:DE):DE:=fun δ M Q=>to δ M fun o M1=>∃ a ys,o=.lst a/\M1 a=some (.ls ys)/\te δ M1 fun y M2=>∃ b xs zs,y=.lst b/\M2 a=some (.ls xs)/\M2 b=some (.ls zs)/\xs.length+zs.length<=sizeLine/\Q .non (M2.upd a (.ls (xs++zs)))
theorem Ic (ho:PE X o (lift (X.L rz Xe) to)) (he:PE X e (lift (X.L rz Xe) te)) (hbase:attributeBase o "extend" X.env (eval o X.env)=eval o X.env) (hs:∀ es,starEach (e::es) X.env=(false,eval e X.env)::starEach es X.env) (hline:(apos.endLine==pos.line)=true) :
  PE X (.Call (.Attribute o "extend" apos) [e] [] pos) (lift (X.L rz Xe) (dExt to te)):=by
 refine (CP PySem.F.plainAttrs_list PySem.F.slot_list_extend PySem.F.type_list_extend Bp ho (Zi he WA (hs _)) hbase (by rw[hs];rfl) hline (hs _) rfl).imp fun σ H Q h=>?_;obtain⟨δ,M,R,rs,rm,t,q⟩:=h;refine⟨δ,M,_,rs,rm,t,fun d M1 v H1 x1 m1 r1 hq7=>?_⟩;obtain⟨a,ys,e1,e2,h1⟩:=hq7;subst e1
 (first|cases (show _=_ from r1.inv)|cases r1)
 obtain⟨vs,ev,_⟩:=m1 _ _ e2;refine⟨.inl ⟨rfl,_,.of ev⟩,δ,M1,fun ds M2=>∃ y,ds=[y]/\∃ b xs zs,y=.lst b/\M2 a=some (.ls xs)/\M2 b=some (.ls zs)/\xs.length+zs.length<=sizeLine/\R .non (M2.upd a (.ls (xs++zs))),rs.ext x1,m1,?_,fun ds M2 vs H2 x2 m2 r2 ⟨y,e3,b,xs,zs,e5,e4,e6,hz,h2⟩=>?_⟩
 ·have:(fun (x:DL.D) (M2:Mem)=>∃ y,[x]=[y]/\∃ b xs zs,y=D.lst b/\M2 a=some (.ls xs)/\M2 b=some (.ls zs)/\xs.length+zs.length<=sizeLine/\R .non (M2.upd a (.ls (xs++zs))))=fun (y:DL.D) (M2:Mem)=>∃ b xs zs,y=D.lst b/\M2 a=some (.ls xs)/\M2 b=some (.ls zs)/\xs.length+zs.length<=sizeLine/\R .non (M2.upd a (.ls (xs++zs))):=by
   funext x M2;apply propext;constructor
   ·rintro⟨y,e,h⟩;cases e;exact h
   ·exact fun h=>⟨x,rfl,h⟩
  show te δ M1 fun x M2=>∃ y,[x]=[y]/\∃ b xs zs,y=D.lst b/\M2 a=some (.ls xs)/\M2 b=some (.ls zs)/\xs.length+zs.length<=sizeLine/\R .non (M2.upd a (.ls (xs++zs)));rw[this];exact h1
 ·subst e3
  subst e5;obtain⟨v,rfl,rv⟩:=r2.one;cases rv;obtain⟨ws,ew,rw'⟩:=m2 _ _ e4;obtain⟨us,eu,ru'⟩:=m2 _ _ e6;exact⟨a,b,ws,us,rfl,rfl,ew,eu,by rw[rw'.length,ru'.length];exact hz,q _ _ _ _ ((x1.trans x2).trans (.upd (.inr ⟨_,ew,trivial⟩))) (m2.write ew (rw'.append ru')) .non h2⟩
noncomputable def dIns (to ta te:DE):DE:=fun δ M Q=>to δ M fun o M1=>∃ a ys,o=.lst a/\M1 a=some (.ls ys)/\ta δ M1 fun x M2=>te δ M2 fun y M3=>∃ xs k,x=.int k/\M3 a=some (.ls xs)/\0<=k/\k<=xs.length/\xs.length<sizeLine/\Q .non (M3.upd a (.ls (X6 xs k y)))
theorem Ia (ho:PE X o (lift (X.L rz Xe) to)) (h1:PE X e (lift (X.L rz Xe) ta)) (h2:PE X e2 (lift (X.L rz Xe) te)) (hbase:attributeBase o "insert" X.env (eval o X.env)=eval o X.env) (hs:∀ es,starEach (e::es) X.env=(false,eval e X.env)::starEach es X.env) (hs2:∀ es,starEach (e2::es) X.env=(false,eval e2 X.env)::starEach es X.env) (hline:(apos.endLine==pos.line)=true) :
  PE X (.Call (.Attribute o "insert" apos) [e,e2] [] pos) (lift (X.L rz Xe) (dIns to ta te)):=by
 refine (CP PySem.F.plainAttrs_list PySem.F.slot_list_insert PySem.F.type_list_insert Bo ho (Zi h1 (Zi h2 WA (hs2 _)) (hs _)) hbase (by rw[hs,hs2];rfl) hline (hs _) (by rw[hs2];rfl)).imp fun σ H Q h=>?_;obtain⟨δ,M,R,rs,rm,t,q⟩:=h;refine⟨δ,M,_,rs,rm,t,fun d M1 v H1 x1 m1 r1 hq7=>?_⟩;obtain⟨a,ys,e1,e2,h1⟩:=hq7;subst e1
 (first|cases (show _=_ from r1.inv)|cases r1)
 obtain⟨vs,ev,_⟩:=m1 _ _ e2;refine⟨.inl ⟨rfl,_,.of ev⟩,δ,M1,fun ds M2=>∃ x y,ds=[x,y]/\∃ xs k,x=.int k/\M2 a=some (.ls xs)/\0<=k/\k<=xs.length/\xs.length<sizeLine/\R .non (M2.upd a (.ls (X6 xs k y))),rs.ext x1,m1,?_,fun ds M2 vs H2 x2 m2 r2 hq8=>?_⟩
 ·have:∀ x:DL.D,(fun (y:DL.D) (M2:Mem)=>∃ x' y',[x,y]=[x',y']/\∃ xs k,x'=D.int k/\M2 a=some (.ls xs)/\0<=k/\k<=xs.length/\xs.length<sizeLine/\R .non (M2.upd a (.ls (X6 xs k y'))))=fun (y:DL.D) (M2:Mem)=>∃ xs k,x=D.int k/\M2 a=some (.ls xs)/\0<=k/\k<=xs.length/\xs.length<sizeLine/\R .non (M2.upd a (.ls (X6 xs k y))):=fun x=>by
   funext y M2;apply propext;constructor
   ·rintro⟨x',y',e,h⟩;cases e;exact h
   ·exact fun h=>⟨x,y,rfl,h⟩
  show ta δ M1 fun x M2=>te δ M2 fun y M2=>∃ x' y',[x,y]=[x',y']/\∃ xs k,x'=D.int k/\M2 a=some (.ls xs)/\0<=k/\k<=xs.length/\xs.length<sizeLine/\R .non (M2.upd a (.ls (X6 xs k y')));simp only[this];exact h1
 ·obtain⟨x,y,e3,xs,k,e5,e4,k0,k1,hz,h2⟩:=hq8
  subst e3;subst e5;obtain⟨v,w,rfl,rv,rw'⟩:=r2.two;cases rv;obtain⟨ws,ew,rws⟩:=m2 _ _ e4;have hl:=rws.length;refine⟨a,ws,k,w,rfl,rfl,ew,k0,by omega,by omega,q _ _ _ _ ((x1.trans x2).trans (.upd (.inr ⟨_,ew,trivial⟩))) (m2.write ew ?_) .non h2⟩;unfold X6;exact (rws.take _).append (.cons rw' (rws.drop _))
noncomputable def dIdx (to te:DE):DE:=fun δ M Q=>to δ M fun o M1=>∃ a ys,o=.lst a/\M1 a=some (.ls ys)/\te δ M1 fun y M2=>∃ xs j,M2 a=some (.ls xs)/\IxAt M2 xs y j/\Q (.int j) M2
end
inductive Bi|abs|all|any|divmod|isinstance|len|max|min|tuple|list|int
 deriving DecidableEq
noncomputable def VL:Bi->Str
 | .abs=>"abs" | .all=>"all" | .any=>"any" | .divmod=>"divmod" | .isinstance=>"isinstance" | .len=>"len" | .max=>"max" | .min=>"min" | .tuple=>"tuple" | .list=>"list" | .int=>"int"
noncomputable def Gm:Bi->List D->Mem->DK->Prop
 | .abs=>fAbs | .all=>fAll | .any=>fAny | .divmod=>UP | .isinstance=>fIsi | .len=>fLen | .max=>fMax | .min=>fMin | .tuple=>Yd | .list=>Yo | .int=>fInt
inductive Ty|int|bool|str|tuple|list|dict|valueError
 deriving DecidableEq
noncomputable def Wl:Ty->Str
 | .int=>"int" | .bool=>"bool" | .str=>"str" | .tuple=>"tuple" | .list=>"list" | .dict=>"dict" | .valueError=>"ValueError"
noncomputable def Ax:Ty->String
 | .int=>"int" | .bool=>"bool" | .str=>"str" | .tuple=>"tuple" | .list=>"list" | .dict=>"dict" | .valueError=>"ValueError"
theorem Eu (t:Ty):bootBuiltins (Wl t)=some (.type (Ax t)):=by cases t<;>kernel_rfl
noncomputable def quiet:Bi->Bool
 | .isinstance=>true
 | .int=>true
 | _=>false
structure Blt (mg:Str->Option Value):Prop where
 bi:∀ b,mg (VL b)=none
 ty:∀ t,mg (Wl t)=none
 range:mg "range"=none
 zip:mg "zip"=none
 enum:mg "enumerate"=none
 lis:mg "list"=none
section
variable {X:Cx} {rz:Bool} {Xe:DSt->DK} {e:Expr} {es:List Expr} {t:DA} {p pos:Pos}
theorem Ka (b:Bi) (tab:Xk X.K=true) (hB:Blt X.mg) (hq:X.calm=true\/quiet b=true) (hg:Gl X (VL b)) (ha:PA X (e::es) (Zo (X.L rz Xe) t)) (he:starEach (e::es) X.env=(false,eval e X.env)::starEach es X.env) (hpl:(backTo pos (starEach es X.env)).any (·.1)=false) :
  PE X (.Call (.Name (VL b) p) (e::es) [] pos) (lift (X.L rz Xe) (dCB (Gm b) t)):=by
 have hm:=hB.bi b;cases b with
 | abs=>exact (Zk Ir hg hm (by kernel_rfl) ha %[|4] %[|4] he hpl).imp fun _ _ _=>ZJ
 | all=>exact (Zk (Iq (hq.resolve_right Bool.false_ne_true)) hg hm (by kernel_rfl) ha %[|4] %[|4] he hpl).imp fun _ _ _=>ZJ
 | any=>exact (Zk (Ip (hq.resolve_right Bool.false_ne_true)) hg hm (by kernel_rfl) ha %[|4] %[|4] he hpl).imp fun _ _ _=>ZJ
 | divmod=>exact (Zk BN hg hm (by kernel_rfl) ha %[|4] %[|4] he hpl).imp fun _ _ _=>ZJ
 | isinstance=>exact (Zk (Im tab) hg hm (by kernel_rfl) ha %[|4] %[|4] he hpl).imp fun _ _ _=>ZJ
 | len=>exact (Zk Il hg hm (by kernel_rfl) ha %[|4] %[|4] he hpl).imp fun _ _ _=>ZJ
 | max=>exact (Zk (Ik (hq.resolve_right Bool.false_ne_true)) hg hm (by kernel_rfl) ha %[|4] %[|4] he hpl).imp fun _ _ _=>ZJ
 | min=>exact (Zk (Ij (hq.resolve_right Bool.false_ne_true)) hg hm (by kernel_rfl) ha %[|4] %[|4] he hpl).imp fun _ _ _=>ZJ
 | tuple=>exact (Wq Ek hg hm (by kernel_rfl) ha %[|4] %[|4] he hpl).imp fun _ _ _=>ZJ
 | int=>exact (Wq Io hg hm (by kernel_rfl) ha %[|4] %[|4] he hpl).imp fun _ _ _=>ZJ
 | list=>exact (Wq FJ hg hm (by kernel_rfl) ha %[|4] %[|4] he hpl).imp fun _ _ _=>ZJ
theorem K6 (t:Ty) (hB:Blt X.mg) (hg:Gl X (Wl t)):PE X (.Name (Wl t) pos) (lift (X.L rz Xe) (dC (.ty (Ax t)))) :=
 Wz (EU (v:=.ty (Ax t)) hg (hB.ty t) (Eu t) rfl (by cases t<;>decide) (by cases t<;>decide)) fun H=>.ty _
end
mutual
inductive CE where
 | var (i:Nat)
 | int (i:Int)|bl (b:Bool)|non|str (x:Str)
 | glo (x:Str) (d:D)|ty (t:Ty)
 | bin (op:Operator) (a b:CE)|neg (a:CE)|not (a:CE)
 | cmp (op:CmpOp) (a b:CE)|chain (op op':CmpOp) (a b c:CE)|chain3 (op op' op'':CmpOp) (a b c d:CE)
 | one (a:CE)|and (a b:CE)|or (a b:CE)
 | ife (c a b:CE)
 | tup (es:CEs)|lst (es:CEs)
 | ix (a b:CE)|sl (a:CE) (lo hi:CO)
 | call (x:Str) (S:DSp) (es:CEs)
 | bi (b:Bi) (es:CEs)
 | app (i:Nat) (e:CE)|ext (i:Nat) (e:CE)|ins (i:Nat) (a e:CE)
 | lzip (es:CEs)
 | comp (N':List Str) (n:Nat) (g:CG) (it:CI) (elt:CE)
 | compI (N':List Str) (n:Nat) (g:CG) (it:CI) (c elt:CE)
inductive CEs where
 | nil|cons (e:CE) (es:CEs)
inductive CO where
 | none|some (e:CE)
inductive CG where
 | name (i:Nat)|tup (gs:CGs)|sub (a b:CE)
inductive CGs where
 | nil|cons (g:CG) (gs:CGs)
inductive CI where
 | seq (e:CE)|rng (es:CEs)|zip (es:CEs)|enum (es:CEs)
end
structure Rd where
 e:DE
 t:DT
noncomputable def CEs.len:CEs->Nat
 | .nil=>0
 | .cons _ es=>es.len+1
noncomputable def CGs.len:CGs->Nat
 | .nil=>0
 | .cons _ es=>es.len+1
noncomputable def plain (t:DE):Rd:=⟨t,dTru t⟩
mutual
noncomputable def rE (Xe:DSt->DK):CE->Rd
 | .var i=>plain (dVar i)
 | .int i=>⟨dC (.int i),fun _ _ _=>False⟩
 | .bl b=>⟨dC (.bl b),fun _ _ _=>False⟩
 | .non=>⟨dC .non,fun _ _ _=>False⟩
 | .str x=>⟨dC (.str x),fun _ _ _=>False⟩
 | .glo _ d=>plain (dC d)
 | .ty t=>plain (dC (.ty (Ax t)))
 | .bin op a b=>plain (d2 (bOp op) (rE Xe a).e (rE Xe b).e)
 | .neg a=>plain (dNeg (rE Xe a).e)
 | .not a=>⟨Ef (rE Xe a).e,dNot (rE Xe a).t⟩
 | .cmp op a b=>⟨d2 (cOp op) (rE Xe a).e (rE Xe b).e,Uf (d2 (cOp op) (rE Xe a).e (rE Xe b).e)⟩
 | .chain op op' a b c=>⟨VH (cOp op) (cOp op') (rE Xe a).e (rE Xe b).e (rE Xe c).e,Uf (VH (cOp op) (cOp op') (rE Xe a).e (rE Xe b).e (rE Xe c).e)⟩
 | .chain3 op op' op'' a b c d=>⟨XF (cOp op) (cOp op') (cOp op'') (rE Xe a).e (rE Xe b).e (rE Xe c).e (rE Xe d).e,Uf (XF (cOp op) (cOp op') (cOp op'') (rE Xe a).e (rE Xe b).e (rE Xe c).e (rE Xe d).e)⟩
 | .one a=>rE Xe a
 | .and a b=>⟨B0 (rE Xe a).e (rE Xe b).e,dAnd (rE Xe a).t (rE Xe b).t⟩
 | .or a b=>⟨dOrV (rE Xe a).e (rE Xe b).e,dOr (rE Xe a).t (rE Xe b).t⟩
 | .ife c a b=>⟨dIfE (rE Xe c).t (rE Xe a).e (rE Xe b).e,fun _ _ _=>False⟩
 | .tup es=>plain (dTup (rEs Xe es))
 | .lst es=>plain (dLst (rEs Xe es))
 | .ix a b=>plain (d2 iOp (rE Xe a).e (rE Xe b).e)
 | .sl a lo hi=>plain (dSl (rE Xe a).e (rO Xe lo) (rO Xe hi))
 | .lzip es=>plain (dCB AT (rEs Xe es))
 | .call _ S es=>plain (Zq S Xe (rEs Xe es))
 | .bi b es=>plain (dCB (Gm b) (rEs Xe es))
 | .app i e=>plain (dApp (dVar i) (rE Xe e).e)
 | .ext i e=>plain (dExt (dVar i) (rE Xe e).e)
 | .ins i a e=>plain (dIns (dVar i) (rE Xe a).e (rE Xe e).e)
 | .comp _ n g it elt=>plain (YQ n (rI Xe it) (rG X0 g) (rE X0 elt).e)
 | .compI _ n g it c elt=>plain (XO n (rI Xe it) (rG X0 g) (bIf (rE X0 c).t (WP (rE X0 elt).e)))
noncomputable def rEs (Xe:DSt->DK):CEs->DA
 | .nil=>dNil
 | .cons e es=>YX (rE Xe e).e (rEs Xe es)
noncomputable def rO (Xe:DSt->DK):CO->DO
 | .none=>AY
 | .some e=>JH (rE Xe e).e
noncomputable def rG (Xe:DSt->DK):CG->DG
 | .name i=>ZE i
 | .tup gs=>Yn gs.len (rGs Xe gs)
 | .sub a b=>Gh (rE Xe a).e (rE Xe b).e
noncomputable def rGs (Xe:DSt->DK):CGs->DGs
 | .nil=>AR
 | .cons g gs=>UO (rG Xe g) (rGs Xe gs)
noncomputable def rI (Xe:DSt->DK):CI->DI
 | .seq e=>Yl (rE Xe e).e
 | .rng es=>YM (rEs Xe es)
 | .zip es=>Z4 (rEs Xe es)
 | .enum es=>UQ (rEs Xe es)
end
structure Ck where
 N:List Str
 sc:Scope
 top:Bool
 cal:Bool
noncomputable def Ck.kind (k:Ck) (x:Str):Option NameKind:=k.sc.names.lookup x
noncomputable def Ck.gl (k:Ck) (x:Str):Bool:=decide (k.kind x=some .globalImplicit)
noncomputable def Ck.vis (k:Ck) (x:Str):Bool:=decide (k.kind x=some .local) || decide (k.kind x=some .cell) || decide (k.kind x=some .free)
noncomputable def Ck.loc (k:Ck) (x:Str):Bool:=decide (k.kind x=some .local) || (k.top&&decide (k.kind x=some .cell))
noncomputable def Xg (x:Str):Bool:=!(x==("__debug__":Str))&&!(x==("__classdict__":Str))
noncomputable def Ck.slot (k:Ck) (i:Nat) (x:Str):Bool:=decide (k.N[i]?=some x)&&k.vis x&&Xg x
noncomputable def blkB (k:Ck) (N':List Str) (sc:Scope):Bool :=
 decide (sc.kind=.function)&&sc.names.all (fun y=>!decide (y.2=.cell))&&sc.names.all (fun y=>!decide (y.2=.local) || decide (sc.names.lookup y.1=some .local))
 && sc.names.all (fun y=>!decide (y.2=.free) || decide (k.kind y.1=some .cell) || decide (k.kind y.1=some .free))
 && (List.range k.N.length).all (fun i=>match N'[i]? with
   | some x=>match sc.names.lookup x with
    | some .free=>decide (k.N[i]?=some x)
    | some .local=>false
    | some .cell=>false
    | _=>true
   | none=>true)&&decide (k.N.length<=N'.length)&&decide N'.Nodup
mutual
noncomputable def isE (k:Ck):CE->Expr->Bool
 | .var i,e=>YD e fun x p=>k.slot i x
 | .int i,e=>Zu e fun c q p=>qInt c fun j=>decide (i=j)
 | .bl b,e=>Zu e fun c q p=>FW c fun j=>decide (b=j)
 | .non,e=>Zu e fun c q p=>Cu c (true)
 | .str x,e=>Zu e fun c q p=>qStr c fun j=>decide (x=j)
 | .glo x _,e=>YD e fun y p=>decide (x=y)&&k.gl x&&Xg x
 | .ty t,e=>YD e fun y p=>decide (Wl t=y)&&k.gl y
 | .bin op a b,e=>Cv e fun x op' y p=>decide (op=op')&&isE k a x&&isE k b y
 | .neg a,e=>Vq e fun o x p=>FT o (isE k a x)
 | .not a,e=>Vq e fun o x p=>qNot o (isE k a x)
 | .cmp op a b,e=>W1 e fun x os ys p=>Y9 os fun o os=>qNil os (Y9 ys fun y ys=>qNil ys (decide (op=o)&&isE k a x&&isE k b y))
 | .chain op op' a b c,e=>W1 e fun x os ys p=>Y9 os fun o os=>Y9 os fun o' os=>qNil os (Y9 ys fun y ys=>Y9 ys fun z ys=>qNil ys (decide (op=o)&&decide (op'=o')&&isE k a x&&isE k b y&&isE k c z))
 | .chain3 op op' op'' a b c d,e=>W1 e fun x os ys p=>Y9 os fun o os=>Y9 os fun o' os=>Y9 os fun o'' os=>qNil os (Y9 ys fun y ys=>Y9 ys fun z ys=>Y9 ys fun w ys=>qNil ys (decide (op=o)&&decide (op'=o')&&decide (op''=o'')&&isE k a x&&isE k b y&&isE k c z&&isE k d w))
 | .one a,e=>WZ e fun op xs pos=>Y9 xs fun x xs=>qNil xs (isE k a x)
 | .and a b,e=>WZ e fun op xs pos=>qAnd op (Y9 xs fun x xs=>Y9 xs fun y r=>isE k a x&&isE k b (.BoolOp .And (y::r) pos))
 | .or a b,e=>WZ e fun op xs pos=>qOr op (Y9 xs fun x xs=>Y9 xs fun y r=>isE k a x&&isE k b (.BoolOp .Or (y::r) pos))
 | .ife c a b,e=>Cs e fun x y z p=>isE k c x&&isE k a y&&isE k b z
 | .tup es,e=>Zy e fun xs q p=>isEs k es xs
 | .lst es,e=>FU e fun xs p=>isEs k es xs
 | .ix a b,e=>Xd e fun x y p=>isE k a x&&isE k b y
 | .sl a lo hi,e=>Xd e fun x y p=>Cp y fun l u s q=>Cr s (isE k a x&&isO k lo l&&isO k hi u)
 | .lzip es,e=>ZY e fun t1 t2 t8 pos=>YD t1 fun y p=>Y9 t2 fun t3 t7=>ZY t3 fun t4 t5 t6 pos2=>YD t4 fun z p2=>Y9 t5 fun x r2=>qNil t6 (qNil t7 (qNil t8 (decide (y="list")&&k.gl y&&decide (z="zip")&&k.gl z&&isEs k es (x::r2)&&k.cal)))
 | .call x _ es,e=>ZY e fun f xs kw pos=>YD f fun y p=>qNil kw (decide (x=y)&&k.gl x&&Xg x&&isEs k es xs&&k.cal)
 | .bi b es,e=>ZY e fun f xs kw pos=>YD f fun y p=>Y9 xs fun a r=>qNil kw (decide (VL b=y)&&k.gl y&&isEs k es (a::r)&&(k.cal || quiet b))
 | .app i a,e=>ZY e fun f xs kw pos=>Zb f fun o m ap=>YD o fun x p=>Y9 xs fun y r=>qNil r (qNil kw (decide (m="append")&&k.slot i x&&isE k a y&&(ap.endLine==pos.line)))
 | .ext i a,e=>ZY e fun f xs kw pos=>Zb f fun o m ap=>YD o fun x p=>Y9 xs fun y r=>qNil r (qNil kw (decide (m="extend")&&k.slot i x&&isE k a y&&(ap.endLine==pos.line)))
 | .ins i a b,e=>ZY e fun f xs kw pos=>Zb f fun o m ap=>YD o fun x p=>Y9 xs fun y r=>Y9 r fun z r=>qNil r (qNil kw (decide (m="insert")&&k.slot i x&&isE k a y&&isE k b z&&(ap.endLine==pos.line)))
 | .comp N' n g it elt,e=>Wo e fun y gs sc p=>Y9 gs fun q gs=>qMk q fun tg iter ifs z=>qNil ifs (qNil gs (decide (z=0)&&blkB k N' sc&&decide (n=N'.length-k.N.length)&&isG ⟨N',sc,false,k.cal⟩ g tg&&isI k tg it iter&&isE ⟨N',sc,false,k.cal⟩ elt y&&k.cal))
 | .compI N' n g it c elt,e=>Wo e fun y gs sc p=>Y9 gs fun q gs=>qMk q fun tg iter ifs z=>Y9 ifs fun x ifs=>qNil ifs (qNil gs (decide (z=0)&&blkB k N' sc&&decide (n=N'.length-k.N.length)&&isG ⟨N',sc,false,k.cal⟩ g tg&&isI k tg it iter&&isE ⟨N',sc,false,k.cal⟩ c x&&isE ⟨N',sc,false,k.cal⟩ elt y&&k.cal))
noncomputable def isEs (k:Ck):CEs->List Expr->Bool
 | .nil,xs=>match xs with | []=>true|_=>false
 | .cons e es,xs=>match xs with|x::r=>isE k e x&&isEs k es r|_=>false
noncomputable def isO (k:Ck):CO->Option Expr->Bool
 | .none,x=>match x with|none=>true|_=>false
 | .some e,x=>match x with|some y=>isE k e y|_=>false
noncomputable def isG (k:Ck):CG->Expr->Bool
 | .name i,e=>YD e fun x p=>decide (k.N[i]?=some x)&&k.loc x
 | .tup gs,e=>Zy e fun xs q p=>isGs k gs xs&&k.cal
 | .sub a b,e=>Xd e fun x y p=>isE k a x&&isE k b y
noncomputable def isGs (k:Ck):CGs->List Expr->Bool
 | .nil,xs=>match xs with | []=>true|_=>false
 | .cons e es,xs=>match xs with|x::r=>isG k e x&&isGs k es r|_=>false
noncomputable def isI (k:Ck) (tg:Expr):CI->Expr->Bool
 | .seq e,x=>isE k e x
 | .rng es,x=>ZY x fun f xs kw pos=>YD f fun y p=>Y9 xs fun a r=>qNil kw (decide (y="range")&&k.gl y&&isEs k es (a::r))
 | .zip es,x=>Zy tg fun te tx tp=>ZY x fun f xs kw pos=>YD f fun y p=>Y9 xs fun a r=>qNil kw (decide (y="zip")&&k.gl y&&isEs k es (a::r))
 | .enum es,x=>Zy tg fun te tx tp=>ZY x fun f xs kw pos=>YD f fun y p=>Y9 xs fun a r=>qNil kw (decide (y="enumerate")&&k.gl y&&isEs k es (a::r))
end
mutual
noncomputable def onE (P:Str->Str->DSp->Prop) (G:Str->D->Prop):CE->Prop
 | .var _ | .int _ | .bl _ | .non | .str _ | .ty _=>True
 | .glo x d=>G x d
 | .bin _ a b | .cmp _ a b | .and a b | .or a b | .ix a b | .ins _ a b=>onE P G a/\onE P G b
 | .neg a | .not a | .one a=>onE P G a
 | .chain _ _ a b c | .ife a b c=>onE P G a/\onE P G b/\onE P G c
 | .chain3 _ _ _ a b c d=>onE P G a/\onE P G b/\onE P G c/\onE P G d
 | .tup es | .lst es | .bi _ es=>onEs P G es
 | .sl a lo hi=>onE P G a/\onO P G lo/\onO P G hi
 | .lzip es=>onEs P G es
 | .call x S es=>P "" x S/\onEs P G es
 | .app _ e | .ext _ e=>onE P G e
 | .comp _ _ g it elt=>onG P G g/\onI P G it/\onE P G elt
 | .compI _ _ g it c elt=>onG P G g/\onI P G it/\onE P G c/\onE P G elt
noncomputable def onEs (P:Str->Str->DSp->Prop) (G:Str->D->Prop):CEs->Prop
 | .nil=>True
 | .cons e es=>onE P G e/\onEs P G es
noncomputable def onO (P:Str->Str->DSp->Prop) (G:Str->D->Prop):CO->Prop
 | .none=>True
 | .some e=>onE P G e
noncomputable def onG (P:Str->Str->DSp->Prop) (G:Str->D->Prop):CG->Prop
 | .name _=>True
 | .tup gs=>onGs P G gs
 | .sub a b=>onE P G a/\onE P G b
noncomputable def onGs (P:Str->Str->DSp->Prop) (G:Str->D->Prop):CGs->Prop
 | .nil=>True
 | .cons g gs=>onG P G g/\onGs P G gs
noncomputable def onI (P:Str->Str->DSp->Prop) (G:Str->D->Prop):CI->Prop
 | .seq e=>onE P G e
 | .rng es=>onEs P G es
 | .zip es=>onEs P G es
 | .enum es=>onEs P G es
end
end DL
end
noncomputable section
namespace DL
open PySem PySem.Spec PyProof.Rows L2
structure CtxOk (X:Cx) (k:Ck):Prop where
 N:X.N=k.N
 nd:k.N.Nodup
 sc:∀ x κ,k.kind x=some κ->κ≠.free->X.env.kindOf x=some κ
 fr:∀ x,k.kind x=some .free->X.env.kindOf x=some .cell\/X.env.kindOf x=some .free
 fn:k.top=true->∀ x,X.fn x=true
 calm:k.cal=true->X.calm=true
 room:k.cal=true->Room 0 X.A
 hu:X.A.units+66<cLine
 blt:Blt X.mg
 po:PassesOwn (model X.prog X.w) X.A X.env X.xe
 tab:Xk X.K=true
 st:k.top=true->X.stack=X.env::X.outer/\X.env.frame=some X.env.locals
structure Sh (e:Expr):Prop where
 star:∀ env es,starEach (e::es) env=(false,eval e env)::starEach es env
 ix:UX e
 mark:∀ op,behindInMarks op e=false
 set:∀ env x,foldedSetIterable e env x=pure x
 sub:∀ o pos env v,assign (.Subscript o e pos) env v=(do
   let ov <- holding [v] (eval o env)
   let iv <- holding [v,ov] (eval e env)
   standAt pos
   holding [v,ov,iv] (setItem ov iv v)
   release [v,ov,iv] [])
structure SdE (X:Cx) (rz:Bool) (Xe:DSt->DK) (c:CE) (e:Expr):Prop where
 pe:PE X e (lift (X.L rz Xe) (rE Xe c).e)
 pt:PT X e (Z7 (X.L rz Xe) (rE Xe c).t)
 pw:∀ op vs pos,e=.BoolOp op vs pos->PW X e (Z7 (X.L rz Xe) (rE Xe c).t)
 sh:Sh e
structure SdEs (X:Cx) (rz:Bool) (Xe:DSt->DK) (c:CEs) (es:List Expr):Prop where
 pa:PA X es (Zo (X.L rz Xe) (rEs Xe c))
 pl:∀ pos env,(backTo pos (starEach es env)).any (·.1)=false
 hd:∀ e r,es=e::r->Sh e/\∀ pos env,(backTo pos (starEach r env)).any (·.1)=false
structure SdG (X:Cx) (rz:Bool) (Xe:DSt->DK) (c:CG) (e:Expr):Prop where
 pg:PG X e (Zl (X.L rz Xe) (rG Xe c))
 as:∀ env es,assignEach (e::es) env=(false,assign e env)::assignEach es env
structure SdGs (X:Cx) (rz:Bool) (Xe:DSt->DK) (c:CGs) (es:List Expr):Prop where
 pg:PGs X es (Vx (X.L rz Xe) (rGs Xe c))
 len:∀ env,(assignEach es env).length=c.len
 st:∀ env,(assignEach es env).findIdx? (·.1)=none
structure SdI (X:Cx) (rz:Bool) (Xe:DSt->DK) (tg:Expr) (c:CI) (e:Expr):Prop where
 pi:PI X tg e (X1 (X.L rz Xe) (rI Xe c))
 set:∀ env x,foldedSetIterable e env x=pure x
section
variable {X:Cx} {rz:Bool} {Xe:DSt->DK} {k:Ck}
theorem CtxOk.vis (C:CtxOk X k) (h:k.vis x=true):Vis X.env.scope x:=by
 unfold Ck.vis at h;simp only[Bool.or_eq_true,decide_eq_true_eq] at h;rcases h with (h|h)|h
 ·exact .inl (C.sc x _ h %[|4])
 ·exact .inr (.inl (C.sc x _ h %[|4]))
 ·exact .inr (C.fr x h)
theorem CtxOk.gl (C:CtxOk X k) (h:k.gl x=true):Gl X x:=by
 unfold Ck.gl at h;exact C.sc x _ (of_decide_eq_true h) %[|4]
theorem CtxOk.loc (C:CtxOk X k) (h:k.loc x=true):Loc X.env.scope x/\(X.fn x=true\/X.env.scope.names.lookup x=some .local):=by
 unfold Ck.loc at h;simp only[Bool.or_eq_true,Bool.and_eq_true,decide_eq_true_eq] at h;rcases h with h|⟨h1,h⟩
 ·have:=C.sc x _ h %[|4];exact⟨.inl this,.inr this⟩
 ·exact⟨.inr (C.sc x _ h %[|4]),.inl (C.fn h1 x)⟩
theorem CtxOk.var (C:CtxOk X k) (h:k.slot i x=true):PE X (.Name x pos) (lift (X.L rz Xe) (dVar i)):=by
 unfold Ck.slot Xg at h;simp only[Bool.and_eq_true,decide_eq_true_eq,Bool.not_eq_true'] at h;exact HW (CK (by rw[C.N];exact h.1.1) (C.vis h.1.2) h.2.1 h.2.2)
theorem CtxOk.qt (C:CtxOk X k) (h:(k.cal || b)=true):X.calm=true\/b=true:=by
 cases hk:k.cal with
 | true=>exact .inl (C.calm hk)
 | false=>rw [hk] at h;exact .inr h
theorem ZN {env:Env}:∀ {names:List (Str×NameKind)} {x:Str} {κ:NameKind},names.lookup x=some κ->κ≠.free ->
  (names.map fun (n,k)=>if (k==NameKind.free&&env.scope.kind==.function&&env.kindOf n==some .cell) then (n,NameKind.cell) else (n,k)).lookup x=some κ
 | [],_,_,h,_=>by simp at h
 | (n,k)::r,x,κ,h,hne=>by
  have ih:=@ZN env r x κ;simp only[List.map_cons];rw[List.lookup_cons] at h;by_cases hc:(k==NameKind.free&&env.scope.kind==.function&&env.kindOf n==some .cell)=true
  ·rw[if_pos hc,List.lookup_cons]
   cases hx:x==n with
   | true =>
    simp only[hx] at h;cases h;simp only[Bool.and_eq_true,beq_iff_eq] at hc;exact absurd hc.1.1 hne
   | false=>simp only[hx] at h;exact ih h hne
  ·rw[if_neg hc,List.lookup_cons]
   cases hx:x==n with
   | true=>simp only[hx] at h;cases h;rfl
   | false=>simp only[hx] at h;exact ih h hne
theorem Zn {env:Env}:∀ {names:List (Str×NameKind)} {x:Str},names.lookup x=some .free ->
  (names.map fun (n,k)=>if (k==NameKind.free&&env.scope.kind==.function&&env.kindOf n==some .cell) then (n,NameKind.cell) else (n,k)).lookup x=some .cell \/
  (names.map fun (n,k)=>if (k==NameKind.free&&env.scope.kind==.function&&env.kindOf n==some .cell) then (n,NameKind.cell) else (n,k)).lookup x=some .free
 | [],_,h=>by simp at h
 | (n,k)::r,x,h=>by
  have ih:=@Zn env r x;simp only[List.map_cons];rw[List.lookup_cons] at h;by_cases hc:(k==NameKind.free&&env.scope.kind==.function&&env.kindOf n==some .cell)=true
  ·rw[if_pos hc,List.lookup_cons]
   cases hx:x==n with
   | true=>exact .inl rfl
   | false=>simp only[hx] at h;exact ih h
  ·rw[if_neg hc,List.lookup_cons]
   cases hx:x==n with
   | true=>simp only[hx] at h;cases h;exact .inr rfl
   | false=>simp only[hx] at h;exact ih h
theorem Wf (C:CtxOk X k) (h:blkB k N' sc=true):BlkOk X.N X.env N' sc/\N'.Nodup:=by
 unfold blkB at h;simp only[Bool.and_eq_true,decide_eq_true_eq,List.all_eq_true,Bool.or_eq_true,Bool.not_eq_true',decide_eq_false_iff_not] at h;obtain⟨⟨⟨⟨⟨⟨h1,h2⟩,h3⟩,h4⟩,h5⟩,h6⟩,h7⟩:=h;refine⟨⟨h1,fun y hy=>h2 y hy,fun y hy e=>(h3 y hy).resolve_left fun z=>z e,fun y hy e=>?_,fun i x hi hx κ hκ=>?_,by rw[C.N];exact h6⟩,h7⟩
 ·rcases h4 y hy with (z|z)|z
  ·exact absurd e z
  ·exact .inl (C.sc _ _ z %[|4])
  ·exact C.fr _ z
 ·have q:=h5 i (List.mem_range.mpr (by rw[<- C.N];exact hi))
  rw[hx] at q;simp only[hκ] at q;cases κ with
  | «local»=>simp at q
  | cell=>simp at q
  | free=>exact .inr (.inr ⟨rfl,by rw[C.N];exact of_decide_eq_true q⟩)
  | globalExplicit=>exact .inr (.inl rfl)
  | globalImplicit=>exact .inl rfl
theorem CtxOk.blk (C:CtxOk X k) {N':List Str} {sc:Scope} (h:blkB k N' sc=true) (cl:List (Str×Addr)) (Cn:Addr) (s:Shared) (H:Hp) (ex:List Addr):CtxOk (Yx X N' sc cl Cn s H ex []) ⟨N',sc,false,k.cal⟩ :=
 ⟨rfl,(Wf C h).2,fun x κ e hne=>ZN (env:=X.env) e hne,fun x e=>Zn (env:=X.env) e,fun z=>(by cases z),C.calm,C.room,C.hu,C.blt,PassesOwn.never,C.tab,fun z=>(by cases z)⟩
end
theorem D8:∀ op vs pos,(Expr.BinOp a0 a1 a2 a3)≠.BoolOp op vs pos:=fun _ _ _ z=>nomatch z
theorem D5 {X:Cx} {a0:Expr} {a1:Operator} {a2:Expr} {a3:Pos}:∀ whole,isTrue (Expr.BinOp a0 a1 a2 a3) X.env whole=(do let v <- whole;standAt (Expr.pos (Expr.BinOp a0 a1 a2 a3));holding [v] (truthy v)):=fun _=>rfl
theorem Ci:Sh (Expr.BinOp a0 a1 a2 a3):=%[|1]
theorem Wn:Sh (Expr.BoolOp a0 a1 a2):=%[|1]
theorem XC:∀ op vs pos,(Expr.Call a0 a1 a2 a3)≠.BoolOp op vs pos:=fun _ _ _ z=>nomatch z
theorem XB {X:Cx} {a0:Expr} {a1:List Expr} {a2:List Keyword} {a3:Pos}:∀ whole,isTrue (Expr.Call a0 a1 a2 a3) X.env whole=(do let v <- whole;standAt (Expr.pos (Expr.Call a0 a1 a2 a3));holding [v] (truthy v)):=fun _=>rfl
theorem Xw:Sh (Expr.Call a0 a1 a2 a3):=%[|1]
theorem XJ:Sh (Expr.Compare a0 a1 a2 a3):=%[|1]
theorem ZM:∀ op vs pos,(Expr.Constant a0 a1 a2)≠.BoolOp op vs pos:=fun _ _ _ z=>nomatch z
theorem ZL:Sh (Expr.Constant a0 a1 a2):=%[|1]
theorem D7:∀ op vs pos,(Expr.IfExp a0 a1 a2 a3)≠.BoolOp op vs pos:=fun _ _ _ z=>nomatch z
theorem Ch:Sh (Expr.IfExp a0 a1 a2 a3):=%[|1]
theorem Fe:∀ op vs pos,(Expr.List a0 a1)≠.BoolOp op vs pos:=fun _ _ _ z=>nomatch z
theorem Fd {X:Cx} {a0:List Expr} {a1:Pos}:∀ whole,isTrue (Expr.List a0 a1) X.env whole=(do let v <- whole;standAt (Expr.pos (Expr.List a0 a1));holding [v] (truthy v)):=fun _=>rfl
theorem EC:Sh (Expr.List a0 a1):=%[|1]
theorem WJ:∀ op vs pos,(Expr.ListComp a0 a1 a2 a3)≠.BoolOp op vs pos:=fun _ _ _ z=>nomatch z
theorem WI {X:Cx} {a0:Expr} {a1:List Comprehension} {a2:Scope} {a3:Pos}:∀ whole,isTrue (Expr.ListComp a0 a1 a2 a3) X.env whole=(do let v <- whole;standAt (Expr.pos (Expr.ListComp a0 a1 a2 a3));holding [v] (truthy v)):=fun _=>rfl
theorem WF:Sh (Expr.ListComp a0 a1 a2 a3):=%[|1]
theorem UK:∀ op vs pos,(Expr.Name a0 a1)≠.BoolOp op vs pos:=fun _ _ _ z=>nomatch z
theorem UJ {X:Cx} {a0:Str} {a1:Pos}:∀ whole,isTrue (Expr.Name a0 a1) X.env whole=(do let v <- whole;standAt (Expr.pos (Expr.Name a0 a1));holding [v] (truthy v)):=fun _=>rfl
theorem UE:Sh (Expr.Name a0 a1):=%[|1]
theorem W5:∀ op vs pos,(Expr.Subscript a0 a1 a2)≠.BoolOp op vs pos:=fun _ _ _ z=>nomatch z
theorem W4 {X:Cx} {a0:Expr} {a1:Expr} {a2:Pos}:∀ whole,isTrue (Expr.Subscript a0 a1 a2) X.env whole=(do let v <- whole;standAt (Expr.pos (Expr.Subscript a0 a1 a2));holding [v] (truthy v)):=fun _=>rfl
theorem XX:Sh (Expr.Subscript a0 a1 a2):=%[|1]
theorem D6:∀ op vs pos,(Expr.Tuple a0 a1 a2)≠.BoolOp op vs pos:=fun _ _ _ z=>nomatch z
theorem D0 {X:Cx} {a0:List Expr} {a1:Nat} {a2:Pos}:∀ whole,isTrue (Expr.Tuple a0 a1 a2) X.env whole=(do let v <- whole;standAt (Expr.pos (Expr.Tuple a0 a1 a2));holding [v] (truthy v)):=fun _=>rfl
theorem Cg:Sh (Expr.Tuple a0 a1 a2):=%[|1]
theorem Ad:∀ op vs pos,(Expr.UnaryOp a0 a1 a2)≠.BoolOp op vs pos:=fun _ _ _ z=>nomatch z
theorem Ac {X:Cx} {a1:Expr} {a2:Pos}:∀ whole,isTrue (.UnaryOp .USub a1 a2) X.env whole=(do let v <- whole;standAt (Expr.pos (.UnaryOp .USub a1 a2));holding [v] (truthy v)):=fun _=>rfl
theorem Vm:Sh (Expr.UnaryOp a0 a1 a2):=%[|1]
theorem Yu (hr:rE Xe c=plain t) (h:PE X e (lift (X.L rz Xe) t)) (hb:∀ op vs pos,e≠.BoolOp op vs pos) (he:∀ whole,isTrue e X.env whole=(do let v <- whole;standAt e.pos;holding [v] (truthy v))) (sh:Sh e):SdE X rz Xe c e :=
 ⟨by rw[hr];exact h,by rw[hr];exact HE h he,fun op vs pos z=>absurd z (hb op vs pos),sh⟩
theorem Xv (hr:rE Xe c=⟨t,fun _ _ _=>False⟩) (h:PE X e (lift (X.L rz Xe) t)) (hb:∀ op vs pos,e≠.BoolOp op vs pos) (sh:Sh e):SdE X rz Xe c e :=
 ⟨by rw[hr];exact h,by rw[hr];exact fun pins s σ H Q I h=>by obtain⟨_,_,_,_,_,t,_⟩:=h;exact t.elim,fun op vs pos z=>absurd z (hb op vs pos),sh⟩
mutual
theorem Y2:∀ (c:CE),(∀ c x S,P c x S->P' c x S)->(∀ x d,G x d->G' x d)->onE P G c->onE P' G' c
 | .var _,_,_,_ | .int _,_,_,_ | .bl _,_,_,_ | .non,_,_,_ | .str _,_,_,_ | .ty _,_,_,_=>True.intro
 | .glo x d,p,g,h=>g x d h
 | .bin _ a b,p,g,h | .cmp _ a b,p,g,h | .and a b,p,g,h | .or a b,p,g,h | .ix a b,p,g,h | .ins _ a b,p,g,h=>⟨Y2 a p g h.1,Y2 b p g h.2⟩
 | .neg a,p,g,h | .not a,p,g,h | .one a,p,g,h=>Y2 a p g h
 | .chain _ _ a b c,p,g,h | .ife a b c,p,g,h=>⟨Y2 a p g h.1,Y2 b p g h.2.1,Y2 c p g h.2.2⟩
 | .chain3 _ _ _ a b c d,p,g,h=>⟨Y2 a p g h.1,Y2 b p g h.2.1,Y2 c p g h.2.2.1,Y2 d p g h.2.2.2⟩
 | .tup es,p,g,h | .lst es,p,g,h | .bi _ es,p,g,h=>Z3 es p g h
 | .sl a lo hi,p,g,h=>⟨Y2 a p g h.1,Jm lo p g h.2.1,Jm hi p g h.2.2⟩
 | .lzip es,p,g,h=>Z3 es p g h
 | .call x S es,p,g,h=>⟨p "" x S h.1,Z3 es p g h.2⟩
 | .app _ e,p,g,h | .ext _ e,p,g,h=>Y2 e p g h
 | .comp _ _ t it elt,p,g,h=>⟨YS t p g h.1,Vu it p g h.2.1,Y2 elt p g h.2.2⟩
 | .compI _ _ t it c elt,p,g,h=>⟨YS t p g h.1,Vu it p g h.2.1,Y2 c p g h.2.2.1,Y2 elt p g h.2.2.2⟩
theorem Z3:∀ (c:CEs),(∀ c x S,P c x S->P' c x S)->(∀ x d,G x d->G' x d)->onEs P G c->onEs P' G' c
 | .nil,_,_,_=>True.intro
 | .cons e es,p,g,h=>⟨Y2 e p g h.1,Z3 es p g h.2⟩
theorem Jm:∀ (c:CO),(∀ c x S,P c x S->P' c x S)->(∀ x d,G x d->G' x d)->onO P G c->onO P' G' c
 | .none,_,_,_=>True.intro
 | .some e,p,g,h=>Y2 e p g h
theorem YS:∀ (c:CG),(∀ c x S,P c x S->P' c x S)->(∀ x d,G x d->G' x d)->onG P G c->onG P' G' c
 | .name _,_,_,_=>True.intro
 | .tup gs,p,g,h=>U3 gs p g h
 | .sub a b,p,g,h=>⟨Y2 a p g h.1,Y2 b p g h.2⟩
theorem U3:∀ (c:CGs),(∀ c x S,P c x S->P' c x S)->(∀ x d,G x d->G' x d)->onGs P G c->onGs P' G' c
 | .nil,_,_,_=>True.intro
 | .cons e es,p,g,h=>⟨YS e p g h.1,U3 es p g h.2⟩
theorem Vu:∀ (c:CI),(∀ c x S,P c x S->P' c x S)->(∀ x d,G x d->G' x d)->onI P G c->onI P' G' c
 | .seq e,p,g,h=>Y2 e p g h
 | .rng es,p,g,h=>Z3 es p g h
 | .zip es,p,g,h=>Z3 es p g h
 | .enum es,p,g,h=>Z3 es p g h
end
theorem and2 (h:(a&&b)=true):a=true/\b=true:=by
 cases a with
 | true=>exact⟨rfl,h⟩
 | false=>exact absurd h Bool.false_ne_true
theorem V4 (h:Xg x=true):(x==("__debug__":Str))=false:=by
 obtain⟨h,_⟩:=and2 (show (!(x==("__debug__":Str))&&_)=true from h)
 revert h
 cases (x==("__debug__":Str)) with
 | true=>exact fun h=>absurd h Bool.false_ne_true
 | false=>exact fun _=>rfl
mutual
theorem sE:∀ (c:CE) (rz:Bool) (Xe:DSt->DK) (k:Ck) (X:Cx) (e:Expr),CtxOk X k->onE (FnAt X) (GloAt X) c->isE k c e=true->SdE X rz Xe c e
 | .var i,rz,Xe,k,X,e,C,on,h=>by
  refine gNm e h fun x p h=>?_;exact Yu rfl (C.var (show k.slot i x=true from h)) UK UJ UE
 | .int i,rz,Xe,k,X,e,C,on,h=>by
  refine gConstant e h fun c q p h=>?_;refine gInt c h fun j h=>?_;obtain rfl:=of_decide_eq_true (show decide (i=j)=true from h);exact Xv rfl (Wz Hb fun H=>.int _) ZM ZL
 | .bl i,rz,Xe,k,X,e,C,on,h=>by
  refine gConstant e h fun c q p h=>?_;refine gBool c h fun j h=>?_;obtain rfl:=of_decide_eq_true (show decide (i=j)=true from h);exact Xv rfl (Wz IP fun H=>.bl _) ZM ZL
 | .non,rz,Xe,k,X,e,C,on,h=>by
  refine gConstant e h fun c q p h=>?_;refine gCnone c h fun h=>?_;exact Xv rfl (Wz GZ fun H=>.non) ZM ZL
 | .str i,rz,Xe,k,X,e,C,on,h=>by
  refine gConstant e h fun c q p h=>?_;refine gStr c h fun j h=>?_;obtain rfl:=of_decide_eq_true (show decide (i=j)=true from h);exact Xv rfl (Wz GW fun H=>.str _) ZM ZL
 | .glo x d,rz,Xe,k,X,e,C,on,h=>by
  refine gNm e h fun y p h=>?_;obtain⟨h1,h3⟩:=and2 (show (_&&Xg x)=true from h);obtain⟨h1,h2⟩:=and2 (show (decide (x=y)&&k.gl x)=true from h1);obtain rfl:=of_decide_eq_true h1;obtain⟨u,v,e1,e2,e3⟩:=(show GloAt X _ d from on).ex;exact Yu rfl (Wz (ES (C.gl h2) e1 e2 (V4 h3)) e3) UK UJ UE
 | .ty t,rz,Xe,k,X,e,C,on,h=>by
  refine gNm e h fun y p h=>?_;obtain⟨h1,h2⟩:=and2 (show (decide (Wl t=y)&&k.gl y)=true from h);obtain rfl:=of_decide_eq_true h1;exact Yu rfl (K6 t C.blt (C.gl h2)) UK UJ UE
 | .bin op a b,rz,Xe,k,X,e,C,on,h=>by
  refine gBinOp e h fun x op' y p h=>?_;obtain⟨h1,h3⟩:=and2 (show (_&&isE k b y)=true from h);obtain⟨h1,h2⟩:=and2 (show (decide (op=op')&&isE k a x)=true from h1);obtain rfl:=of_decide_eq_true h1;exact Yu rfl (Ie (op_b op) (sE a rz Xe k X _ C on.1 h2).pe (sE b rz Xe k X _ C on.2 h3).pe) D8 D5 Ci
 | .neg a,rz,Xe,k,X,e,C,on,h=>by
  refine gUnaryOp e h fun o x p h=>?_;refine gUSub o h fun h=>?_;exact Yu rfl (HZ (sE a rz Xe k X _ C on h).pe) Ad Ac Vm
 | .not a,rz,Xe,k,X,e,C,on,h=>by
  refine gUnaryOp e h fun o x p h=>?_;refine gNot o h fun h=>?_;have s:=sE a rz Xe k X x C on h;exact⟨HY s.pe,HF s.pt,fun _ _ _ z=>(nomatch z),Vm⟩
 | .cmp op a b,rz,Xe,k,X,e,C,on,h=>by
  refine gCompare e h fun x os ys p h=>?_;refine Yb os h fun o os h=>?_;refine gNil os h fun h=>?_;refine Yb ys h fun y ys h=>?_;refine gNil ys h fun h=>?_;obtain⟨h1,h3⟩:=and2 (show (_&&isE k b y)=true from h);obtain⟨h1,h2⟩:=and2 (show (decide (op=o)&&isE k a x)=true from h1);obtain rfl:=of_decide_eq_true h1;have s1:=sE a rz Xe k X _ C on.1 h2;have s2:=sE b rz Xe k X _ C on.2 h3;exact⟨Id C.hu s1.pe s2.pe (s2.sh.mark op),HG C.hu s1.pe s2.pe (s2.sh.mark op),fun _ _ _ z=>(nomatch z),XJ⟩
 | .chain op op' a b c,rz,Xe,k,X,e,C,on,h=>by
  refine gCompare e h fun x os ys p h=>?_;refine Yb os h fun o os h=>?_;refine Yb os h fun o' os h=>?_;refine gNil os h fun h=>?_;refine Yb ys h fun y ys h=>?_;refine Yb ys h fun z ys h=>?_;refine gNil ys h fun h=>?_;obtain⟨h1,h4⟩:=and2 (show (_&&isE k c z)=true from h);obtain⟨h1,h3⟩:=and2 (show (_&&isE k b y)=true from h1);obtain⟨h1,h2⟩:=and2 (show (_&&isE k a x)=true from h1);obtain⟨h1,h0⟩:=and2 (show (decide (op=o)&&decide (op'=o'))=true from h1);obtain rfl:=of_decide_eq_true h1;obtain rfl:=of_decide_eq_true h0;have s1:=sE a rz Xe k X _ C on.1 h2;have s2:=sE b rz Xe k X _ C on.2.1 h3;have s3:=sE c rz Xe k X _ C on.2.2 h4;exact⟨Ea C.hu s1.pe s2.pe s3.pe (s3.sh.mark op'),DN C.hu s1.pe s2.pe s3.pe (s3.sh.mark op'),fun _ _ _ z=>(nomatch z),XJ⟩
 | .chain3 op op' op'' a b c d,rz,Xe,k,X,e,C,on,h=>by
  refine gCompare e h fun x os ys p h=>?_;refine Yb os h fun o os h=>?_;refine Yb os h fun o' os h=>?_;refine Yb os h fun o'' os h=>?_;refine gNil os h fun h=>?_;refine Yb ys h fun y ys h=>?_;refine Yb ys h fun z ys h=>?_;refine Yb ys h fun w ys h=>?_;refine gNil ys h fun h=>?_;obtain⟨h1,h5⟩:=and2 (show (_&&isE k d w)=true from h);obtain⟨h1,h4⟩:=and2 (show (_&&isE k c z)=true from h1);obtain⟨h1,h3⟩:=and2 (show (_&&isE k b y)=true from h1);obtain⟨h1,h2⟩:=and2 (show (_&&isE k a x)=true from h1);obtain⟨h1,h9⟩:=and2 (show (_&&decide (op''=o''))=true from h1);obtain⟨h1,h0⟩:=and2 (show (decide (op=o)&&decide (op'=o'))=true from h1);obtain rfl:=of_decide_eq_true h1;obtain rfl:=of_decide_eq_true h0;obtain rfl:=of_decide_eq_true h9;have s1:=sE a rz Xe k X _ C on.1 h2;have s2:=sE b rz Xe k X _ C on.2.1 h3;have s3:=sE c rz Xe k X _ C on.2.2.1 h4;have s4:=sE d rz Xe k X _ C on.2.2.2 h5;exact⟨BH C.hu s1.pe s2.pe s3.pe s4.pe (s4.sh.mark op''),BF C.hu s1.pe s2.pe s3.pe s4.pe (s4.sh.mark op''),fun _ _ _ z=>(nomatch z),XJ⟩
 | .one a,rz,Xe,k,X,e,C,on,h=>by
  refine gBoolOp e h fun op xs pos h=>?_;refine Yb xs h fun x xs h=>?_;refine gNil xs h fun h=>?_;have s:=sE a rz Xe k X _ C on (show isE k a x=true from h);have w:PW X (.BoolOp op [x] pos) (Z7 (X.L rz Xe) (rE Xe a).t):=by
   cases op with
   | And=>exact EJ s.pt
   | Or=>exact GI s.pt
  exact⟨GX s.pe,w.pt,fun _ _ _ z=>by cases z;exact w,Wn⟩
 | .and a b,rz,Xe,k,X,e,C,on,h=>by
  refine gBoolOp e h fun op xs pos h=>?_;refine gAnd op h fun h=>?_;refine Yb xs h fun x xs h=>?_;refine Yb xs h fun y r h=>?_;obtain⟨h1,h2⟩:=and2 (show (isE k a x&&isE k b (.BoolOp .And (y::r) pos))=true from h);have s1:=sE a rz Xe k X _ C on.1 h1;have s2:=sE b rz Xe k X _ C on.2 h2;have w:=HD s1.pt (s2.pw _ _ _ rfl);exact⟨Ih s1.pe s2.pe,w.pt,fun _ _ _ z=>by cases z;exact w,Wn⟩
 | .or a b,rz,Xe,k,X,e,C,on,h=>by
  refine gBoolOp e h fun op xs pos h=>?_;refine gOr op h fun h=>?_;refine Yb xs h fun x xs h=>?_;refine Yb xs h fun y r h=>?_;obtain⟨h1,h2⟩:=and2 (show (isE k a x&&isE k b (.BoolOp .Or (y::r) pos))=true from h);have s1:=sE a rz Xe k X _ C on.1 h1;have s2:=sE b rz Xe k X _ C on.2 h2;have w:=K3 s1.pt (s2.pw _ _ _ rfl);exact⟨K8 s1.pe s2.pe,w.pt,fun _ _ _ z=>by cases z;exact w,Wn⟩
 | .ife c a b,rz,Xe,k,X,e,C,on,h=>by
  refine gIfExp e h fun x y z p h=>?_;obtain⟨h1,h3⟩:=and2 (show (_&&isE k b z)=true from h);obtain⟨h1,h2⟩:=and2 (show (isE k c x&&isE k a y)=true from h1);exact Xv rfl (Ib (sE c rz Xe k X _ C on.1 h1).pt (sE a rz Xe k X _ C on.2.1 h2).pe (sE b rz Xe k X _ C on.2.2 h3).pe) D7 Ch
 | .tup es,rz,Xe,k,X,e,C,on,h=>by
  refine gTuple e h fun xs q p h=>?_;exact Yu rfl (HX (sEs es rz Xe k X _ C on h).pa) D6 D0 Cg
 | .lst es,rz,Xe,k,X,e,C,on,h=>by
  refine gList e h fun xs p h=>?_;exact Yu rfl (I0 (sEs es rz Xe k X _ C on h).pa) Fe Fd EC
 | .ix a b,rz,Xe,k,X,e,C,on,h=>by
  refine gSubscript e h fun x y p h=>?_;obtain⟨h1,h2⟩:=and2 (show (isE k a x&&isE k b y)=true from h);have s2:=sE b rz Xe k X _ C on.2 h2;exact Yu rfl (K9 (sE a rz Xe k X _ C on.1 h1).pe s2.pe s2.sh.ix) W5 W4 XX
 | .sl a lo hi,rz,Xe,k,X,e,C,on,h=>by
  refine gSubscript e h fun x y p h=>?_;refine gSlice y h fun l u s q h=>?_;refine gNone s h fun h=>?_;obtain⟨h1,h3⟩:=and2 (show (_&&isO k hi u)=true from h);obtain⟨h1,h2⟩:=and2 (show (isE k a x&&isO k lo l)=true from h1);exact Yu rfl (K7 (sE a rz Xe k X _ C on.1 h1).pe (sO lo rz Xe k X _ C on.2.1 h2) (sO hi rz Xe k X _ C on.2.2 h3)) W5 W4 XX
 | .lzip es,rz,Xe,k,X,e,C,on,h=>by
  refine gCall e h fun t1 t2 t8 pos h=>?_;refine gNm t1 h fun y p h=>?_;refine Yb t2 h fun t3 t7 h=>?_;refine gCall t3 h fun t4 t5 t6 pos2 h=>?_;refine gNm t4 h fun z p2 h=>?_;refine Yb t5 h fun x r2 h=>?_;refine gNil t6 h fun h=>?_;refine gNil t7 h fun h=>?_;refine gNil t8 h fun h=>?_;obtain⟨h,hcal⟩:=and2 h;obtain⟨h1,h5⟩:=and2 h;obtain⟨h1,h4⟩:=and2 h1;obtain⟨h1,h3⟩:=and2 h1;obtain⟨h1,h2⟩:=and2 h1;obtain rfl:=of_decide_eq_true h1;obtain rfl:=of_decide_eq_true h3;have s:=sEs es rz Xe k X _ C on h5;exact Yu rfl (FA (C.calm hcal) (C.gl h2) C.blt.lis (C.gl h4) C.blt.zip s.pa ((s.hd _ _ rfl).1.star _ _) ((s.hd _ _ rfl).2 _ _)) XC XB Xw
 | .call x S es,rz,Xe,k,X,e,C,on,h=>by
  refine gCall e h fun f xs kw pos h=>?_;refine gNm f h fun y p h=>?_;refine gNil kw h fun h=>?_;obtain⟨h,hcal⟩:=and2 (show (_&&k.cal)=true from h);obtain⟨h1,h4⟩:=and2 (show (_&&isEs k es xs)=true from h);obtain⟨h1,h3⟩:=and2 (show (_&&Xg x)=true from h1);obtain⟨h1,h2⟩:=and2 (show (decide (x=y)&&k.gl x)=true from h1);obtain rfl:=of_decide_eq_true h1;have s:=sEs es rz Xe k X _ C on.2 h4;refine Yu rfl ?_ XC XB Xw;cases xs with
  | nil =>
   cases es with
   | nil=>exact Eb (C.calm hcal) on.1 (C.gl h2) (V4 h3)
   | cons _ _=>exact absurd h4 Bool.false_ne_true
  | cons a r=>exact FC (C.calm hcal) on.1 (C.gl h2) s.pa (V4 h3) ((s.hd a r rfl).1.star _ _) ((s.hd a r rfl).2 _ _)
 | .bi b es,rz,Xe,k,X,e,C,on,h=>by
  refine gCall e h fun f xs kw pos h=>?_;refine gNm f h fun y p h=>?_;refine Yb xs h fun a r h=>?_;refine gNil kw h fun h=>?_;obtain⟨h,hq⟩:=and2 (show (_&&(k.cal || quiet b))=true from h);obtain⟨h1,h3⟩:=and2 (show (_&&isEs k es (a::r))=true from h);obtain⟨h1,h2⟩:=and2 (show (decide (VL b=y)&&k.gl y)=true from h1);obtain rfl:=of_decide_eq_true h1;have s:=sEs es rz Xe k X _ C on h3;exact Yu rfl (Ka b C.tab C.blt (C.qt hq) (C.gl h2) s.pa ((s.hd _ _ rfl).1.star _ _) ((s.hd _ _ rfl).2 _ _)) XC XB Xw
 | .app i a,rz,Xe,k,X,e,C,on,h=>by
  refine gCall e h fun f xs kw pos h=>?_;refine gAttribute f h fun o m ap h=>?_;refine gNm o h fun x p h=>?_;refine Yb xs h fun y r h=>?_;refine gNil r h fun h=>?_;refine gNil kw h fun h=>?_;obtain⟨h1,h4⟩:=and2 (show (_&&(ap.endLine==pos.line))=true from h);obtain⟨h1,h3⟩:=and2 (show (_&&isE k a y)=true from h1);obtain⟨h1,h2⟩:=and2 (show (decide (m="append")&&k.slot i x)=true from h1);obtain rfl:=of_decide_eq_true h1;have s:=sE a rz Xe k X _ C on h3;exact Yu rfl (Ig (C.var h2) s.pe rfl (fun es=>s.sh.star _ es) h4) XC XB Xw
 | .ext i a,rz,Xe,k,X,e,C,on,h=>by
  refine gCall e h fun f xs kw pos h=>?_;refine gAttribute f h fun o m ap h=>?_;refine gNm o h fun x p h=>?_;refine Yb xs h fun y r h=>?_;refine gNil r h fun h=>?_;refine gNil kw h fun h=>?_;obtain⟨h1,h4⟩:=and2 (show (_&&(ap.endLine==pos.line))=true from h);obtain⟨h1,h3⟩:=and2 (show (_&&isE k a y)=true from h1);obtain⟨h1,h2⟩:=and2 (show (decide (m="extend")&&k.slot i x)=true from h1);obtain rfl:=of_decide_eq_true h1;have s:=sE a rz Xe k X _ C on h3;exact Yu rfl (Ic (C.var h2) s.pe rfl (fun es=>s.sh.star _ es) h4) XC XB Xw
 | .ins i a b,rz,Xe,k,X,e,C,on,h=>by
  refine gCall e h fun f xs kw pos h=>?_;refine gAttribute f h fun o m ap h=>?_;refine gNm o h fun x p h=>?_;refine Yb xs h fun y r h=>?_;refine Yb r h fun z r h=>?_;refine gNil r h fun h=>?_;refine gNil kw h fun h=>?_;obtain⟨h1,h5⟩:=and2 (show (_&&(ap.endLine==pos.line))=true from h);obtain⟨h1,h4⟩:=and2 (show (_&&isE k b z)=true from h1);obtain⟨h1,h3⟩:=and2 (show (_&&isE k a y)=true from h1);obtain⟨h1,h2⟩:=and2 (show (decide (m="insert")&&k.slot i x)=true from h1);obtain rfl:=of_decide_eq_true h1;have s:=sE a rz Xe k X _ C on.1 h3;have s2:=sE b rz Xe k X _ C on.2 h4;exact Yu rfl (Ia (C.var h2) s.pe s2.pe rfl (fun es=>s.sh.star _ es) (fun es=>s2.sh.star _ es) h5) XC XB Xw
 | .comp N' n g it elt,rz,Xe,k,X,e,C,on,h=>by
  refine gListComp e h fun y gs sc p h=>?_;refine Yb gs h fun q gs h=>?_;refine gMk q h fun tg iter ifs z h=>?_;refine gNil ifs h fun h=>?_;refine gNil gs h fun h=>?_;obtain⟨h,hcal⟩:=and2 (show (_&&k.cal)=true from h);obtain⟨h,h5⟩:=and2 (show (_&&isE ⟨N',sc,false,k.cal⟩ elt y)=true from h);obtain⟨h,h4⟩:=and2 (show (_&&isI k tg it iter)=true from h);obtain⟨h,h3⟩:=and2 (show (_&&isG ⟨N',sc,false,k.cal⟩ g tg)=true from h);obtain⟨h,h2⟩:=and2 (show (_&&decide (n=N'.length-k.N.length))=true from h);obtain⟨h,h1⟩:=and2 (show (decide (z=0)&&blkB k N' sc)=true from h);obtain rfl:=of_decide_eq_true h;obtain rfl:=of_decide_eq_true h2;have si:=sI it rz Xe k X tg _ C on.2.1 h4;refine Yu (t:=YQ (N'.length-k.N.length) (rI Xe it) (rG X0 g) (rE X0 elt).e) rfl ?_ WJ WI WF;rw[<- C.N];exact FB (C.calm hcal) (Wf C h1).1 si.pi (fun cl Cn s H ex=>⟨(sG g false X0 ⟨N',_,false,k.cal⟩ (Yx X N' _ cl Cn s H ex []) _ (C.blk h1 cl Cn s H ex) (YS g (fun c x S F=>⟨F.ex⟩) (fun x d F=>⟨F.ex⟩) on.1) h3).pg,
   (sE elt false X0 ⟨N',_,false,k.cal⟩ (Yx X N' _ cl Cn s H ex []) _ (C.blk h1 cl Cn s H ex) (Y2 elt (fun c x S F=>⟨F.ex⟩) (fun x d F=>⟨F.ex⟩) on.2.2) h5).pe⟩) (si.set _)
 | .compI N' n g it c elt,rz,Xe,k,X,e,C,on,h=>by
  refine gListComp e h fun y gs sc p h=>?_;refine Yb gs h fun q gs h=>?_;refine gMk q h fun tg iter ifs z h=>?_;refine Yb ifs h fun x ifs h=>?_;refine gNil ifs h fun h=>?_;refine gNil gs h fun h=>?_;obtain⟨h,hcal⟩:=and2 (show (_&&k.cal)=true from h);obtain⟨h,h6⟩:=and2 (show (_&&isE ⟨N',sc,false,k.cal⟩ elt y)=true from h);obtain⟨h,h5⟩:=and2 (show (_&&isE ⟨N',sc,false,k.cal⟩ c x)=true from h);obtain⟨h,h4⟩:=and2 (show (_&&isI k tg it iter)=true from h);obtain⟨h,h3⟩:=and2 (show (_&&isG ⟨N',sc,false,k.cal⟩ g tg)=true from h);obtain⟨h,h2⟩:=and2 (show (_&&decide (n=N'.length-k.N.length))=true from h);obtain⟨h,h1⟩:=and2 (show (decide (z=0)&&blkB k N' sc)=true from h);obtain rfl:=of_decide_eq_true h;obtain rfl:=of_decide_eq_true h2;have si:=sI it rz Xe k X tg _ C on.2.1 h4;refine Yu (t:=XO (N'.length-k.N.length) (rI Xe it) (rG X0 g) (bIf (rE X0 c).t (WP (rE X0 elt).e))) rfl ?_ WJ WI WF;rw[<- C.N]
  exact JG (C.calm hcal) (Wf C h1).1 si.pi (fun p env=>ifW x env (Wb y (.ref p) env)) (fun p env=>Ju Xi) (fun cl Cn s H ex p=>⟨(sG g false X0 ⟨N',_,false,k.cal⟩ (Yx X N' _ cl Cn s H ex []) _ (C.blk h1 cl Cn s H ex) (YS g (fun c x S F=>⟨F.ex⟩) (fun x d F=>⟨F.ex⟩) on.1) h3).pg,
   FX rfl (sE c false X0 ⟨N',_,false,k.cal⟩ (Yx X N' _ cl Cn s H ex []) _ (C.blk h1 cl Cn s H ex) (Y2 c (fun c x S F=>⟨F.ex⟩) (fun x d F=>⟨F.ex⟩) on.2.2.1) h5).pt (V1 rfl (sE elt false X0 ⟨N',_,false,k.cal⟩ (Yx X N' _ cl Cn s H ex []) _ (C.blk h1 cl Cn s H ex) (Y2 elt (fun c x S F=>⟨F.ex⟩) (fun x d F=>⟨F.ex⟩) on.2.2.2) h6).pe)⟩) (fun _ _ _=>Ay) (si.set _)
theorem sEs:∀ (c:CEs) (rz:Bool) (Xe:DSt->DK) (k:Ck) (X:Cx) (es:List Expr),CtxOk X k->onEs (FnAt X) (GloAt X) c->isEs k c es=true->SdEs X rz Xe c es
 | .nil,rz,Xe,k,X,es,C,on,h=>by
  cases es with
  | nil=>exact⟨WA,fun _ _=>rfl,fun _ _ z=>nomatch z⟩
  | cons _ _=>exact absurd h Bool.false_ne_true
 | .cons e es,rz,Xe,k,X,xs,C,on,h=>by
  cases xs with
  | nil=>exact absurd h Bool.false_ne_true
  | cons x r =>
   obtain⟨h1,h2⟩:=and2 (show (isE k e x&&isEs k es r)=true from h);have s1:=sE e rz Xe k X _ C on.1 h1;have s2:=sEs es rz Xe k X _ C on.2 h2;refine⟨Zi s1.pe s2.pa (s1.sh.star _ _),fun pos env=>?_,fun _ _ z=>by cases z;exact⟨s1.sh,s2.pl⟩⟩;rw[s1.sh.star];show (false || _)=false;rw[Bool.false_or];exact s2.pl pos env
theorem sO:∀ (c:CO) (rz:Bool) (Xe:DSt->DK) (k:Ck) (X:Cx) (e:Option Expr),CtxOk X k->onO (FnAt X) (GloAt X) c->isO k c e=true->PO X e (Jr (X.L rz Xe) (rO Xe c))
 | .none,rz,Xe,k,X,e,C,on,h=>by
  cases e with
  | none=>exact Fw
  | some _=>exact absurd h Bool.false_ne_true
 | .some c,rz,Xe,k,X,e,C,on,h=>by
  cases e with
  | none=>exact absurd h Bool.false_ne_true
  | some e=>exact Fv (sE c rz Xe k X _ C on h).pe
theorem sG:∀ (c:CG) (rz:Bool) (Xe:DSt->DK) (k:Ck) (X:Cx) (e:Expr),CtxOk X k->onG (FnAt X) (GloAt X) c->isG k c e=true->SdG X rz Xe c e
 | .name i,rz,Xe,k,X,e,C,on,h=>by
  refine gNm e h fun x p h=>?_;obtain⟨h1,h2⟩:=and2 (show (decide (k.N[i]?=some x)&&k.loc x)=true from h);exact⟨Fz (by rw[C.N];exact C.nd) (by rw[C.N];exact of_decide_eq_true h1) (C.loc h2).1 (C.loc h2).2,fun _ _=>rfl⟩
 | .tup gs,rz,Xe,k,X,e,C,on,h=>by
  refine gTuple e h fun xs q p h=>?_;obtain⟨h,hcal⟩:=and2 (show (_&&k.cal)=true from h);have s:=sGs gs rz Xe k X _ C on (show isGs k gs xs=true from h);exact⟨HS (C.calm hcal) s.pg (s.len _) (s.st _),fun _ _=>rfl⟩
 | .sub a b,rz,Xe,k,X,e,C,on,h=>by
  refine gSubscript e h fun x y p h=>?_;obtain⟨h1,h2⟩:=and2 (show (isE k a x&&isE k b y)=true from h);have s2:=sE b rz Xe k X _ C on.2 h2;exact⟨HU (sE a rz Xe k X _ C on.1 h1).pe s2.pe (fun v=>s2.sh.sub _ _ _ v),fun _ _=>rfl⟩
theorem sGs:∀ (c:CGs) (rz:Bool) (Xe:DSt->DK) (k:Ck) (X:Cx) (es:List Expr),CtxOk X k->onGs (FnAt X) (GloAt X) c->isGs k c es=true->SdGs X rz Xe c es
 | .nil,rz,Xe,k,X,es,C,on,h=>by
  cases es with
  | nil=>exact⟨Fy,fun _=>rfl,fun _=>rfl⟩
  | cons _ _=>exact absurd h Bool.false_ne_true
 | .cons e es,rz,Xe,k,X,xs,C,on,h=>by
  cases xs with
  | nil=>exact absurd h Bool.false_ne_true
  | cons x r =>
   obtain⟨h1,h2⟩:=and2 (show (isG k e x&&isGs k es r)=true from h);have s1:=sG e rz Xe k X _ C on.1 h1;have s2:=sGs es rz Xe k X _ C on.2 h2;refine⟨DY s1.pg s2.pg (by rw[s1.as];rfl),fun env=>?_,fun env=>?_⟩
   ·rw[s1.as,List.length_cons,s2.len];rfl
   ·rw[s1.as,List.findIdx?_cons]
    simp[s2.st]
theorem sI:∀ (c:CI) (rz:Bool) (Xe:DSt->DK) (k:Ck) (X:Cx) (tg e:Expr),CtxOk X k->onI (FnAt X) (GloAt X) c->isI k tg c e=true->SdI X rz Xe tg c e
 | .seq c,rz,Xe,k,X,tg,e,C,on,h =>
  have s:=sE c rz Xe k X e C on h
  ⟨HQ s.pe,s.sh.set⟩
 | .rng es,rz,Xe,k,X,tg,e,C,on,h=>by
  refine gCall e h fun f xs kw pos h=>?_;refine gNm f h fun y p h=>?_;refine Yb xs h fun a r h=>?_;refine gNil kw h fun h=>?_;obtain⟨h1,h3⟩:=and2 (show (_&&isEs k es (a::r))=true from h);obtain⟨h1,h2⟩:=and2 (show (decide (y="range")&&k.gl y)=true from h1);obtain rfl:=of_decide_eq_true h1;have s:=sEs es rz Xe k X _ C on h3;exact⟨HR (C.gl h2) C.blt.range s.pa ((s.hd _ _ rfl).1.star _ _) ((s.hd _ _ rfl).2 _ _),fun _ _=>rfl⟩
 | .zip es,rz,Xe,k,X,tg,e,C,on,h=>by
  refine gTuple tg h fun te tx tp h=>?_;refine gCall e h fun f xs kw pos h=>?_;refine gNm f h fun y p h=>?_;refine Yb xs h fun a r h=>?_;refine gNil kw h fun h=>?_;obtain⟨h1,h3⟩:=and2 (show (_&&isEs k es (a::r))=true from h);obtain⟨h1,h2⟩:=and2 (show (decide (y="zip")&&k.gl y)=true from h1);obtain rfl:=of_decide_eq_true h1;have s:=sEs es rz Xe k X _ C on h3;exact⟨HP (C.gl h2) C.blt.zip s.pa ((s.hd _ _ rfl).1.star _ _) ((s.hd _ _ rfl).2 _ _),fun _ _=>rfl⟩
 | .enum es,rz,Xe,k,X,tg,e,C,on,h=>by
  refine gTuple tg h fun te tx tp h=>?_;refine gCall e h fun f xs kw pos h=>?_;refine gNm f h fun y p h=>?_;refine Yb xs h fun a r h=>?_;refine gNil kw h fun h=>?_;obtain⟨h1,h3⟩:=and2 (show (_&&isEs k es (a::r))=true from h);obtain⟨h1,h2⟩:=and2 (show (decide (y="enumerate")&&k.gl y)=true from h1);obtain rfl:=of_decide_eq_true h1;have s:=sEs es rz Xe k X _ C on h3;exact⟨Fx (C.gl h2) C.blt.enum s.pa ((s.hd _ _ rfl).1.star _ _) ((s.hd _ _ rfl).2 _ _),fun _ _=>rfl⟩
end
end DL
end
noncomputable section
namespace DL
open PySem PySem.Spec PyProof.Rows L2
theorem Uv {fs:List Addr} {H1 H':Hp} {h1 h' h2 B:Heap} (un:Un fs [] H1 H' h1 h') (old:∀ b o,h1.get? b=some o->H1 b=none->b ∉ fs->B.get? b=some o) (st:B.StaysIn h2)
  (ff:∀ b∈fs,∃ o,h'.get? b=some o/\∀ vs,o.data≠.fields vs) (nr:Near h' h2):Un fs [] H1 H' h1 h2 where
 keep:=fun b o e n hb _=>st b o (old b o e n hb)
 slot:=fun b o e n hb hx=>by
  obtain⟨sl,e1⟩:=un.slot b o e n hb hx;obtain⟨o2,e2,d2⟩:=ff b hb;rw[e1] at e2;cases e2;obtain⟨sl2,e3⟩:=nr.1 b _ e1 d2;exact⟨sl2,e3⟩
 free:=un.free
 there:=fun b o e hx=>let ⟨o',e'⟩:=un.there b o e hx;nr.2.1 b o' e'
 tups:=un.tups
 frzs:=un.frzs
 tbls:=un.tbls
section
variable {X:Cx} {pins:List (Addr×Obj)} {σ:L2.St} {H H':Hp} {s s':Shared} {e C:Addr} {dd:Option Addr}
theorem DC (h:env.frame=some L):frs (env::l)=L::frs l:=by simp[frs,h]
theorem XA (I:L2.Inv X pins σ H s) (hex:X.ex=[]) {B:Heap} (old:∀ b o,s.heap.get? b=some o->H b=none->b ∉ frs X.stack->B.get? b=some o) :
  ∀ b o,X.s₀.heap.get? b=some o->X.H₀ b=none->b ∉ X.fs->B.get? b=some o:=fun b o e n hb=>by
 have hx:b ∉ X.ex:=by rw[hex];simp
 refine old b o (I.base.keep b o e n hb hx) (I.base.free b o e n hx) fun z=>?_;rcases List.mem_cons.mp (I.stkSub b z) with q|q
 ·exact absurd (Nat.lt_of_lt_of_le (Heap.lt_size e) I.ok.above) (by rw[q];exact Nat.lt_irrefl _)
 ·exact hb q
theorem Va (I:L2.Inv X pins σ H s) (hex:X.ex=[]) (st:X.stack=X.env::X.outer/\X.env.frame=some X.env.locals) {h' B:Heap} (un:Un (frs X.stack) [] H H' s.heap h') (old:∀ b o,s.heap.get? b=some o->H b=none->b ∉ frs X.stack->B.get? b=some o) (hB:B.StaysIn h') :
  Un X.fs [] X.H₀ H' X.s₀.heap h':=by
 have a:Un (frs X.stack) [] X.H₀ H X.s₀.heap s.heap:=I.base.mono (fun b hb=>by rw[st.1,DC st.2];exact List.mem_cons_of_mem _ hb) (by rw[hex];simp);have t:=a.trans un;exact⟨fun b o e n hb hx=>hB b o (XA I hex old b o e n hb),fun b o e n hb hx=>t.any e n hx,t.free,t.there,t.tups,t.frzs,t.tbls⟩
end
section
variable {P:Program} {w:World} {K:Frag} {mg:Str->Option Value} {base:Heap} {N:List Str} {qual:Str} {scope:Scope} {f:Addr} {cd:Value} {A:Around} {outer:List Env} {s:Shared} {H:Hp} {E:XK}
theorem BT (hE:∀ n M' H' C dd x,HExt K H H'->RepM K H' M'->n∈xNames->YZ K n C->ExD K H' n dd x->Ed (.exc n x) M'->E (.ref C) dd H'):XeOk (cxOf (CXR P w) P w K mg base N qual scope f cd A outer s H E) true (fun _=>Ed) H where
 fly:=fun pins σ H1 s1 H' e C dd s' δ M' n xd x I th m sl hn hc ed hx=>by
  obtain⟨B,os,bare,un,old,hokB,fl⟩:=th.ex;show wpAny _ _ _ _ _ _;refine BA I.ok.frames rfl fl fun h' F' nr=>?_;have ff:∀ b∈frs (cxOf (CXR P w) P w K mg base N qual scope f cd A outer s H E).stack,∃ o,s'.heap.get? b=some o/\∀ vs,o.data≠.fields vs:=fun b hb=>(fl.frames.mem hb).2;exact⟨e,C,dd,H',rfl,⟨⟨B,os.trans I.os,bare,Va I rfl ⟨rfl,rfl⟩ (Uv un old F'.stays ff nr) old F'.stays,XA I rfl old,hokB,F'⟩,fun z=>nr.2.2 _ (th.cl z)⟩,hE n M' H' C dd xd x m hn hc ed hx⟩
 back:=fun _ pins σ H1 s1 H' e C dd s' δ M' n xd x I th m sl hn hc ed hx=>by
  obtain⟨B,os,bare,un,old,hokB,fl⟩:=th.ex;show wpAny _ _ _ _ _ _;refine Am rfl fl fun h' F' nr=>?_;have ff:∀ b∈frs (cxOf (CXR P w) P w K mg base N qual scope f cd A outer s H E).stack,∃ o,s'.heap.get? b=some o/\∀ vs,o.data≠.fields vs:=fun b hb=>(fl.frames.mem hb).2;exact⟨e,C,dd,H',rfl,⟨⟨B,os.trans I.os,bare,Va I rfl ⟨rfl,rfl⟩ (Uv un old F'.stays ff nr) old F'.stays,XA I rfl old,hokB,F'⟩,fun z=>nr.2.2 _ (th.cl z)⟩,hE n M' H' C dd xd x m hn hc ed hx⟩
 made:=fun _ pins σ H' h e C dd s' δ M' n xd x I mk cl m sl hn hc ed hx=>by
  show wpAny _ _ _ _ _ _;have hin:∀ env∈(cxOf (CXR P w) P w K mg base N qual scope f cd A outer s H E).stack,∀ a,env.frame=some a->a∈frs (cxOf (CXR P w) P w K mg base N qual scope f cd A outer s H E).stack:=fun env he b hb=>List.mem_filterMap.mpr ⟨env,he,hb⟩;have st:(hideAll h (frs (cxOf (CXR P w) P w K mg base N qual scope f cd A outer s H E).stack)).StaysIn h:=fun b o q=>PySem.W.of_hideAll _ q;refine An (h:=h) (B:=hideAll h (frs (cxOf (CXR P w) P w K mg base N qual scope f cd A outer s H E).stack)) I.ok.frames rfl (PySem.W.funFrames_hide I.stack hin) st mk fun h' F' nr=>?_;have old:∀ b o,h.get? b=some o->H' b=none->b ∉ frs (cxOf (CXR P w) P w K mg base N qual scope f cd A outer s H E).stack->(hideAll h (frs (cxOf (CXR P w) P w K mg base N qual scope f cd A outer s H E).stack)).get? b=some o:=fun b o q _ hb=>PySem.W.hideAll_get _ q hb;have ff:∀ b∈frs (cxOf (CXR P w) P w K mg base N qual scope f cd A outer s H E).stack,∃ o,h.get? b=some o/\∀ vs,o.data≠.fields vs:=fun b hb=>(I.stack.mem hb).2
  have un:Un (frs (cxOf (CXR P w) P w K mg base N qual scope f cd A outer s H E).stack) [] H' H' h h':=Uv .refl old F'.stays ff ((Near.kept mk.keeps).trans nr);refine⟨e,C,dd,H',rfl,⟨⟨_,I.os,I.bare,Va I rfl ⟨rfl,rfl⟩ un old F'.stays,XA I rfl old,fun a o q=>?_,F'⟩,fun z=>nr.2.2 _ (cl z)⟩,hE n M' H' C dd xd x m hn hc ed hx⟩;refine (I.hok a o q).stay (fun c u hc r=>PySem.W.hideAll_get _ r fun z=>?_) (fun _ q=>q) fun _ _ q=>q;have:=I.stkFree c z;rcases hc with rfl|hc
  ·rw[q] at this;cases this
  ·rw[hc] at this;cases this
end
theorem He {K:Frag} {h:Heap} {C:Addr} {bmB:List Value} {newId:String} (X:K.In h) (q:PySem.W.excIn K C bmB newId=true) {P:Prop}
  (go:∀ bm N nm q bs hdct sn sub ab col dd k0 k1 k2 k3 k5 mN,h.get? C=some (excClassObj nm q C N bs bm hdct sn sub ab col dd k0 k1 k2 k3 k5 newId)->h.Ns N mN->mN "__init__"=none->OwnTail h bmB bm->P):P:=by
 unfold PySem.W.excIn at q;split at q
 next dd cd sl ho =>
  split at q
  next C' bm a0 a1 a2 a3 id a5 em es =>
   simp only[Bool.and_eq_true,beq_iff_eq,Bool.not_eq_true'] at q;obtain⟨⟨⟨⟨⟨z1,z2⟩,z3⟩,z4⟩,z5⟩,z6⟩:=q;obtain⟨nm,bs,mro,ns,qn,hd,sn,sub,ab,col,del⟩:=cd;have hsl:sl=#[a0,a1,a2,a3,some (.builtin newId),a5]:=by
    rw[z2] at es;rw[<- es]
   simp only at em z3 z5 z6;subst z1 em z3 hsl;exact go bm ns nm qn bs hd sn sub ab col dd a0 a1 a2 a3 a5 _ (X _ _ ho) (.of_isNs (PySem.W.isNs_of_in X z5)) (PySem.W.nsMap_none_of_in X z5 z6) (PySem.W.tail_of_in X z4)
  next=>cases q
 next=>cases q
theorem Bj (h:xPlain.contains n=true):n ∉ xInit:=by
 have:∀ m∈xPlain,m ∉ xInit:=by decide
 exact this n (by simpa using h)
noncomputable def Ec (n:Str) (ta:(DSt->DK)->DA):DS:=fun D δ M=>ta D.ex δ M fun ds M1=>ds.length<=sizeLine/\D.ex δ (.exc n .non) M1
section
variable {X:Cx} {x:Str} {np cpos pos:Pos} {e:Expr} {es:List Expr} {ta:(DSt->DK)->DA}
theorem DU {C:Addr} (hr:Room 0 X.A) (tab:Xk X.K=true) (hp:xPlain.contains x=true) (hc:YZ X.K x C) (hm:X.mg x=some (.ref C)) (hg:Gl X x) (hdb:(x==("__debug__":Str))=false) (ha:∀ Xe,PA X (e::es) (Zo (X.L true Xe) (ta Xe)))
  (he:starEach (e::es) X.env=(false,eval e X.env)::starEach es X.env) (hpl:(backTo cpos (starEach es X.env)).any (·.1)=false) :
  PS X (.Raise (some (.Call (.Name x np) (e::es) [] cpos)) none pos) (YE X true (Ec x ta)):=by
 rintro pins s σ H Z I ⟨δ,M,D,rs,rm,t,n,r,b,c⟩;have hn:x∈xNames:=List.mem_cons_of_mem _ (List.mem_append_left _ (by simpa using hp));have FV:=PySem.F.excBase_ValueError;refine He (C:=C) I.ok.mod.kin ((Z5 tab hn hc).2.1 hp) fun bm Nn nm q bs hdct sn sub ab col dd k0 k1 k2 k3 k5 mN hC hN hni T=>?_;refine wpAny_Raise_call_subU (C:=C) (nm:=nm) (q:=q) (N:=Nn) (bs:=bs) (bm:=bm) (bmB:=bmV) (hdct:=hdct) (sn:=sn) (sub:=sub) (ab:=ab) (col:=col) (dd:=dd) (k0:=k0) (k1:=k1) (k2:=k2) (k3:=k3) (k5:=k5) FV %[|4] FV (mN:=mN)
  (T.hasType %[|4]) hr.hd (by rw[he];show (false || (backTo cpos (starEach es X.env)).any (·.1))=false;rw[hpl];rfl) hni (V6 I hg hm ⟨rfl,?_⟩ hdb)
 rw[he];refine Calls.evalArgs_plain ?_;have sp:=ha D.ex cpos pins s σ H (fun vs H1=>∃ ds M1,HExt X.K H H1/\RepM X.K H1 M1/\RelDs X.K H1 vs ds/\ds.length<=sizeLine/\D.ex δ (.exc x .non) M1) I ⟨δ,M,_,rs,rm,t,fun ds M1 vs H1 x m r h=>⟨ds,M1,x,m,r,h.1,h.2⟩⟩;rw[he] at sp;refine wpAny_mono sp (fun us s1 ⟨vs,H1,I1,r1,ds,M1,x1,m1,rd,hl,hx⟩=>⟨rfl,by rw[<- r1.length,rd.length];exact hl,I1.bk _ _ hC,hN.keeps I1.bk,T.keeps I1.bk,fun h' e0 mk=>?_⟩) fun _ _ z=>z;exact rs.ok.made rfl pins σ H1 s1.heap e0 C none {s1 with heap:=h'} δ M1 x .non x1 I1 (Made.of mk) (fun _=>Aq mk) m1 (rs.toSlots.ext x1) hn hc (.plain (Bj hp)) hx
end
section
variable {X:Cx} {x:Str} {np cpos pos:Pos} {e:Expr} {es:List Expr} {ta:(DSt->DK)->DA}
end
section
variable {X:Cx} {pins:List (Addr×Obj)} {σ:L2.St} {H:Hp} {s:Shared}
end
noncomputable def dTry (t:DS) (c:Str) (ie ix:Nat):DS:=fun D δ M=>t {D with ex:=fun δ' d M'=>∃ n,d=.exc n (xarg d)/\YL n c=true/\D.nx ((δ'.set ix (some d)).set ie none) M'} δ M
section
variable {X:Cx} {rz:Bool} {body:List Stmt} {t:DS} {cx ne x:Str} {np px pe apos hpos pos:Pos} {ie ix:Nat}
end
section
variable {X:Cx} {rz:Bool} {b0:Stmt} {body hb:List Stmt} {t th:DS} {cx ne:Str} {np hpos pos:Pos} {ie:Nat}
end
section
variable {X:Cx} {rz:Bool} {b0:Stmt} {body hb:List Stmt} {t th:DS} {cx:Str} {np hpos pos:Pos}
end
end DL
end
noncomputable section
namespace DL
open PySem PySem.Spec PyProof.Rows L2
section
variable {M:Model} {A:Around} {Z:Value->Shared->Prop} {s:Shared} {B:Heap} {env:Env} {outer:List Env} {L e:Addr}
end
section
variable {prog:Program} {w:World} {A:Around} {E:Value->Shared->Prop} {h:Heap} {g:Array GenState} {d:Drawn} {t:Nat} {os:OsState}
end
section
variable {X:Cx} {body:List Stmt} {t:DS} {cx x xn:Str} {np np2 ap cpos cp rpos hpos pos:Pos} {ck i:Nat}
end
end DL
end
noncomputable section
namespace DL
open PySem PySem.Spec PyProof.Rows L2
mutual
inductive CS where
 | expr (e:CE)|ret (e:CE)
 | ife (c:CE) (a b:CSs)
 | set (i:Nat) (e:CE)
 | asg (g:CG) (e:CE)
 | two (g h:CG) (e:CE)
 | aug (i:Nat) (sub:Bool) (e:CE)
 | par (i j:Nat) (a b:CE)
 | par3 (i j l:Nat) (a b c:CE)
 | whl (c:CE) (b:CSs)
 | fr (g:CG) (it:CI) (b:CSs)
 | nev
 | rse (x:Str) (es:CEs)
inductive CSs where
 | nil|cons (s:CS) (r:CSs)
end
mutual
noncomputable def rS:CS->DS
 | .expr e=>Gk (fun Xe=>(rE Xe e).e)
 | .ret e=>dRet (fun Xe=>(rE Xe e).e)
 | .ife c a b=>dIfS (fun Xe=>(rE Xe c).t) (rSs a) (rSs b)
 | .set i e=>dAsg (fun Xe=>(rE Xe e).e) (fun _=>ZE i)
 | .asg g e=>dAsg (fun Xe=>(rE Xe e).e) (fun Xe=>rG Xe g)
 | .two g h e=>dTwo (fun Xe=>(rE Xe e).e) (fun Xe=>rG Xe g) (fun Xe=>rG Xe h)
 | .aug i sub e=>dAug i (fun Xe=>(rE Xe e).e) (if sub=true then fun i j=>i-j else fun i j=>i+j)
 | .par i j a b=>dPar i j (fun Xe=>YX (rE Xe a).e (YX (rE Xe b).e dNil))
 | .par3 i j l a b c=>Ee i j l (fun Xe=>YX (rE Xe a).e (YX (rE Xe b).e (YX (rE Xe c).e dNil)))
 | .whl c b=>Ao (fun Xe=>(rE Xe c).t) (rSs b)
 | .fr g it b=>dFor (fun Xe=>rI Xe it) (fun Xe=>rG Xe g) (rSs b)
 | .nev=>Eg
 | .rse x es=>Ec x (fun Xe=>rEs Xe es)
noncomputable def rSs:CSs->DS
 | .nil=>AZ
 | .cons s r=>dSeq (rS s) (rSs r)
end
noncomputable def Xt:Expr->Bool
 | .ListComp ..=>true
 | .SetComp ..=>true
 | .DictComp ..=>true
 | _=>false
theorem JX (h:env.kindOf x=some .cell) (y:Expr) (px:Pos) (n:Nat):swapsWith y (some (.Name x px)) n env=pure false:=by
 unfold swapsWith;split
 ·simp only[h]
  rw[show ((some NameKind.cell==some NameKind.local)=false) from rfl];simp
 ·rfl
noncomputable def FR (k:Ck) (x:Str) (px:Pos) (e:CE) (y:Expr):Bool :=
 match e,y with
 | .comp ..,.ListComp _ _ sc p=>decide (k.sc.kind=.function)&&decide (k.kind x=some .local)&&decide (px.line=p.line)&&!(sc.names.any fun y=>y.1==x&&(y.2==.local || y.2==.cell))
 | .compI ..,.ListComp _ _ sc p=>decide (k.sc.kind=.function)&&decide (k.kind x=some .local)&&decide (px.line=p.line)&&!(sc.names.any fun y=>y.1==x&&(y.2==.local || y.2==.cell))
 | _,_=>false
noncomputable def Ab:Expr->Expr->Bool
 | .Tuple (.Subscript ..::_) _ _,.Tuple ..=>true
 | .Tuple ..,.Tuple vs _ _=>vs.all (foldedForSure 8)
 | .List ..,_=>false
 | _,_=>true
noncomputable def Ei (k:Ck) (tg y:Expr):Bool :=
 Zy tg fun xs _ _=>Y9 xs fun a r=>YD a fun x _=>Y9 r fun b r=>YD b fun z _=>qNil r (Zy y fun _ _ _=>decide (k.kind x=some .cell) || decide (k.kind z=some .cell))
noncomputable def YJ:Expr->Bool
 | .Starred ..=>false
 | _=>true
mutual
noncomputable def isS (k:Ck) (rz:Bool):CS->Stmt->Bool
 | .expr e,s=>Ct s fun x p=>isE k e x&&!Xt x
 | .ret e,s=>AE s fun v p=>Co v fun v=>isE k e v
 | .ife c a b,s=>qIf s fun x xs ys p=>isE k c x&&isSs k rz a xs&&isSs k rz b ys
 | .set i e,s=>Xf s fun ts y p=>Y9 ts fun tg ts=>qNil ts (YD tg fun x px=>decide (k.N[i]?=some x)&&k.loc x&&isE k e y&&((!Xt y || decide (k.kind x=some .cell)) || FR k x px e y))
 | .asg g e,s=>Xf s fun ts y p=>Y9 ts fun tg ts=>qNil ts (isG k g tg&&isE k e y&&!Xt y&&(Ab tg y || Ei k tg y))
 | .two g h e,s=>Xf s fun ts y p=>Y9 ts fun tg ts=>Y9 ts fun tg2 ts=>qNil ts (isG k g tg&&isG k h tg2&&isE k e y)
 | .aug i sub e,s=>Vr s fun tg op y p=>YD tg fun x px=>decide (k.N[i]?=some x)&&k.loc x&&isE k e y&&decide (op=if sub=true then .Sub else .Add)
 | .par i j a b,s=>Xf s fun ts v p=>Y9 ts fun tg ts=>Zy tg fun xs q1 p1=>Y9 xs fun x xs=>YD x fun x px=>Y9 xs fun y xs=>YD y fun y py=>qNil xs (qNil ts (Zy v fun us q2 p2=>Y9 us fun u us=>Y9 us fun v us=>qNil us (decide (k.N[i]?=some x)&&decide (k.N[j]?=some y)&&!decide (i=j)&&decide (k.kind x=some .local)&&decide (k.kind y=some .local)&&isE k a u&&isE k b v&&decide (px.line=py.line)&&!([u,v].all (foldedForSure 8))&&!([u,v].all (constantsAlone 8))&&YJ u&&YJ v&&decide (k.sc.kind=.function)&&k.cal)))
 | .par3 i j l a b c,s=>Xf s fun t1 t11 p=>Y9 t1 fun t2 t10=>Zy t2 fun t3 q1 p1=>Y9 t3 fun t4 t5=>YD t4 fun x px=>Y9 t5 fun t6 t7=>YD t6 fun y py=>Y9 t7 fun t8 t9=>YD t8 fun z pz=>qNil t9 (qNil t10 (Zy t11 fun t12 q2 p2=>Y9 t12 fun u t13=>Y9 t13 fun v t14=>Y9 t14 fun w t15=>qNil t15 (decide (k.N[i]?=some x)&&decide (k.N[j]?=some y)&&decide (k.N[l]?=some z)&&!decide (i=j)&&!decide (i=l)&&!decide (j=l)&&decide (k.kind x=some .local)&&decide (k.kind y=some .local)&&decide (k.kind z=some .local)&&isE k a u&&isE k b v&&isE k c w&&decide (px.line=py.line)&&decide (px.line=pz.line)&&!([u,v,w].all (foldedForSure 8))&&!([u,v,w].all (constantsAlone 8))&&YJ u&&YJ v&&YJ w&&decide (k.sc.kind=.function)&&k.cal)))
 | .whl c b,s=>Cm s fun x xs ys p=>qNil ys (isE k c x&&isSs k rz b xs)
 | .fr g it b,s=>qFor s fun tg iter xs ys p=>qNil ys (isG k g tg&&isI k tg it iter&&isSs k rz b xs&&k.cal)
 | .nev,_=>true
 | .rse x es,s=>Cq s fun v w p=>Co v fun v=>ZY v fun f xs kw q=>YD f fun y q'=>Y9 xs fun a r=>qNil kw (Cr w (rz&&decide (x=y)&&xPlain.contains x&&k.gl x&&Xg x&&isEs k es (a::r)&&k.cal))
noncomputable def isSs (k:Ck) (rz:Bool):CSs->List Stmt->Bool
 | .nil,xs=>match xs with | []=>true|_=>false
 | .cons s r,xs=>match xs with|x::ys=>isS k rz s x&&isSs k rz r ys|_=>false
end
mutual
noncomputable def onS (P:Str->Str->DSp->Prop) (G:Str->D->Prop):CS->Prop
 | .nev=>True
 | .expr e | .ret e | .set _ e=>onE P G e
 | .ife c a b=>onE P G c/\onSs P G a/\onSs P G b
 | .asg g e=>onG P G g/\onE P G e
 | .two g h e=>onG P G g/\onG P G h/\onE P G e
 | .aug _ _ e=>onE P G e
 | .par _ _ a b=>onE P G a/\onE P G b
 | .par3 _ _ _ a b c=>onE P G a/\onE P G b/\onE P G c
 | .whl c b=>onE P G c/\onSs P G b
 | .fr g it b=>onG P G g/\onI P G it/\onSs P G b
 | .rse x es=>G x (.cls x)/\onEs P G es
noncomputable def onSs (P:Str->Str->DSp->Prop) (G:Str->D->Prop):CSs->Prop
 | .nil=>True
 | .cons s r=>onS P G s/\onSs P G r
end
mutual
theorem CV:∀ (c:CS),(∀ c x S,P c x S->P' c x S)->(∀ x d,G x d->G' x d)->onS P G c->onS P' G' c
 | .nev,_,_,_=>True.intro
 | .expr e,p,g,h | .ret e,p,g,h | .set _ e,p,g,h=>Y2 e p g h
 | .ife c a b,p,g,h=>⟨Y2 c p g h.1,Zv a p g h.2.1,Zv b p g h.2.2⟩
 | .asg t e,p,g,h=>⟨YS t p g h.1,Y2 e p g h.2⟩
 | .two t u e,p,g,h=>⟨YS t p g h.1,YS u p g h.2.1,Y2 e p g h.2.2⟩
 | .aug _ _ e,p,g,h=>Y2 e p g h
 | .par _ _ a b,p,g,h=>⟨Y2 a p g h.1,Y2 b p g h.2⟩
 | .par3 _ _ _ a b c,p,g,h=>⟨Y2 a p g h.1,Y2 b p g h.2.1,Y2 c p g h.2.2⟩
 | .whl c b,p,g,h=>⟨Y2 c p g h.1,Zv b p g h.2⟩
 | .fr t it b,p,g,h=>⟨YS t p g h.1,Vu it p g h.2.1,Zv b p g h.2.2⟩
 | .rse x es,p,g,h=>⟨g _ _ h.1,Z3 es p g h.2⟩
theorem Zv:∀ (c:CSs),(∀ c x S,P c x S->P' c x S)->(∀ x d,G x d->G' x d)->onSs P G c->onSs P' G' c
 | .nil,_,_,_=>True.intro
 | .cons e es,p,g,h=>⟨CV e p g h.1,Zv es p g h.2⟩
end
theorem Vf (h:Xt e=false) (t:Option Expr) (l:Nat) (env:Env):swapsWith e t l env=pure false:=by
 cases e<;>first|rfl|(simp[Xt] at h)
theorem VX (hx:env.kindOf x=some .local) (hl:px.line=p.line) (hn:(sc.names.any fun y=>y.1==x&&(y.2==.local || y.2==.cell))=false) (hb:env.blockKind=.function) :
  swapsWith (.ListComp elt gs sc p) (some (.Name x px)) l env=pure true:=by
 show (pure (env.blockKind==.function&&env.kindOf x==some .local&&px.line==p.line&&!(sc.names.any fun y=>y.1==x&&(y.2==.local || y.2==.cell))):Sem Bool)=pure true;rw[hb,hx,hl,hn];simp
theorem WE (h:vs.all (foldedForSure 8)=true) (env:Env):swappedStores [.Tuple ts k p] (.Tuple vs k2 p2) env=pure none:=by
 unfold swappedStores;simp only[h,if_true]
 repeat' split
 all_goals rfl
theorem J8 (env:Env):swappedStores [.Tuple (.Subscript a b p::ts) k q] (.Tuple vs k2 p2) env=pure none:=by
 unfold swappedStores;have hl:∀ f:Expr->Option Str,f (.Subscript a b p)=none->((Expr.Subscript a b p::ts).filterMap f).length≠(Expr.Subscript a b p::ts).length:=fun f hf=>by
  rw[List.filterMap_cons_none hf];have:=List.length_filterMap_le f ts;simp only[List.length_cons];omega
 dsimp only;split
 ·rfl
 ·split
  ·rfl
  ·rw[if_pos]
   ·have:=hl (fun | .Name id pos=>if env.kindOf id==some .local&&pos.line==(((Expr.Subscript a b p::ts).head?.map (·.pos.line)).getD 0) then some id else none|_=>none) rfl
    simp only[Bool.or_eq_true,bne_iff_ne];exact .inl this
theorem JY (h:Ab tg e=true) (env:Env):swappedStores [tg] e env=pure none:=by
 cases tg with
 | Tuple ts k p =>
  cases e with
  | Tuple vs k2 p2 =>
   cases ts with
   | nil=>exact WE h env
   | cons t ts =>
    cases t with
    | Subscript a b q=>exact J8 env
    | _=>exact WE h env
  | _=>rfl
 | List ts p=>exact absurd h Bool.false_ne_true
 | _=>rfl
theorem J7 (t1 t2 y:Expr) (env:Env):swappedStores [t1,t2] y env=pure none:=by
 cases t1<;>first|rfl|(cases y<;>rfl)
theorem J6 (hx:env.kindOf x=some .local) (hy:env.kindOf y=some .local) (hne:x≠y) (hl:px.line=py.line) (hb:env.blockKind=.function)
  (h1:[u,v].all (foldedForSure 8)=false) (h2:[u,v].all (constantsAlone 8)=false) (hu:YJ u=true) (hv:YJ v=true) :
  swappedStores [.Tuple [.Name x px,.Name y py] kt pt] (.Tuple [u,v] k2 pt2) env=pure (some [x,y]):=by
 unfold swappedStores;have hs:∀ {z:Expr},YJ z=true->(match z with | .Starred ..=>true|_=>false)=false:=fun {z} hz=>by
  cases z<;>first|rfl|exact absurd hz (by simp[YJ])
 have hd:[x,y].eraseDups.length=2:=by
  have:(y==x)=false:=by simpa using Ne.symm hne
  simp[List.eraseDups_cons,this]
 have hany:([u,v].any fun | .Starred ..=>true|_=>false)=false:=by
  simp only[List.any_cons,List.any_nil,Bool.or_false];rw[hs hu,hs hv];rfl
 have ha:∀ (f:Expr->Bool),[u,v].all f=(f u&&f v):=fun f=>by simp
 rw[ha] at h1 h2;have hu':=hs hu;have hv':=hs hv;simp[hb,hx,hy,Expr.pos,hl,hd,ha,h1,h2];intro z;rcases z with z|z
 ·exact absurd (hu'.symm.trans z) %[|4]
 ·exact absurd (hv'.symm.trans z) %[|4]
theorem UA (hx:env.kindOf x=some .local) (hy:env.kindOf y=some .local) (hz:env.kindOf z=some .local) (hxy:x≠y) (hxz:x≠z) (hyz:y≠z) (hl:px.line=py.line) (hl2:px.line=pz.line) (hb:env.blockKind=.function)
  (h1:[u,v,w].all (foldedForSure 8)=false) (h2:[u,v,w].all (constantsAlone 8)=false) (hu:YJ u=true) (hv:YJ v=true) (hw:YJ w=true) :
  swappedStores [.Tuple [.Name x px,.Name y py,.Name z pz] kt pt] (.Tuple [u,v,w] k2 pt2) env=pure (some [x,y,z]):=by
 unfold swappedStores;have hs:∀ {z:Expr},YJ z=true->(match z with | .Starred ..=>true|_=>false)=false:=fun {z} hz=>by
  cases z<;>first|rfl|exact absurd hz (by simp[YJ])
 have hd:[x,y,z].eraseDups.length=3:=by
  have e1:(y==x)=false:=by simpa using Ne.symm hxy
  have e2:(z==x)=false:=by simpa using Ne.symm hxz
  have e3:(z==y)=false:=by simpa using Ne.symm hyz
  simp[List.eraseDups_cons,e1,e2,e3]
 have ha:∀ (f:Expr->Bool),[u,v,w].all f=(f u&&(f v&&f w)):=fun f=>by simp
 rw[ha] at h1 h2;have hu':=hs hu;have hv':=hs hv;have hw':=hs hw;simp[hb,hx,hy,hz,Expr.pos,<- hl,<- hl2,hd,ha,h1,h2];intro z;rcases z with z|z|z
 ·exact absurd (hu'.symm.trans z) %[|4]
 ·exact absurd (hv'.symm.trans z) %[|4]
 ·exact absurd (hw'.symm.trans z) %[|4]
theorem W3 (C:CtxOk X k):PassesOwn (model X.prog X.w) X.A X.env X.xe:=C.po
theorem Fp (G:GloAt X n (.cls n)):∃ C,X.mg n=some (.ref C)/\YZ X.K n C:=by
 obtain⟨u,v,e1,e2,e3⟩:=G.ex;have:=e3 fun _=>none;cases this with
 | @cls C _ hn hc=>cases e2;exact⟨C,e1,hc⟩
theorem CtxOk.bk {X:Cx} {k:Ck} (hk:X.env.scope.kind=.function):X.env.blockKind=.function:=by unfold Env.blockKind;rw[hk];rfl
theorem UB (C:CtxOk X k) (h:Ei k tg y=true):swappedStores [tg] y X.env=pure none:=by
 refine gTuple tg h fun xs kt pt h=>?_;refine Yb xs h fun a r h=>?_;refine gNm a h fun x px h=>?_;refine Yb r h fun b r h=>?_;refine gNm b h fun z pz h=>?_;refine gNil r h fun h=>?_;refine gTuple y h fun vs k2 p2 h=>?_;have e:X.env.kindOf x=some .cell\/X.env.kindOf z=some .cell:=by
  rw[Bool.or_eq_true] at h;rcases h with h|h
  ·exact .inl (C.sc _ _ (of_decide_eq_true h) %[|4])
  ·exact .inr (C.sc _ _ (of_decide_eq_true h) %[|4])
 unfold swappedStores;simp only[];split
 ·rfl
 ·split
  ·rfl
  ·rw[if_pos]
   rcases e with e|e
   ·simp[List.filterMap,e]
    split<;>simp
   ·simp[List.filterMap,e]
    split<;>simp
theorem not1 (h:(!a)=true):a=false:=by
 cases a with
 | true=>exact absurd h Bool.false_ne_true
 | false=>rfl
theorem or2 (h:(a || b)=true):a=true\/b=true:=by
 cases a with
 | true=>exact .inl rfl
 | false=>exact .inr h
mutual
theorem sS:∀ (c:CS) (rz:Bool) (k:Ck) (X:Cx) (s:Stmt),CtxOk X k->X.env.scope.kind=.function->onS (FnAt X) (GloAt X) c->isS k rz c s=true->PS X s (YE X rz (rS c))
 | .expr e,rz,k,X,s,C,bk,on,h=>by
  refine gExpr s h fun x p h=>?_;obtain⟨h1,h2⟩:=and2 (show (isE k e x&&!Xt x)=true from h);exact Fu (fun Xe=>(sE e rz Xe k X _ C on h1).pe) (Vf (not1 h2) _ _ _)
 | .ret e,rz,k,X,s,C,bk,on,h=>by
  refine gReturn s h fun v p h=>?_;refine gSome v h fun v h=>?_;exact HI (fun Xe=>(sE e rz Xe k X v C on h).pe)
 | .ife c a b,rz,k,X,s,C,bk,on,h=>by
  refine gIf s h fun x xs ys p h=>?_;obtain⟨h1,h3⟩:=and2 (show (_&&isSs k rz b ys)=true from h);obtain⟨h1,h2⟩:=and2 (show (isE k c x&&isSs k rz a xs)=true from h1);exact K4 (fun Xe=>(sE c rz Xe k X _ C on.1 h1).pt) (sSs a rz k X _ C bk on.2.1 h2) (sSs b rz k X _ C bk on.2.2 h3)
 | .set i e,rz,k,X,s,C,bk,on,h=>by
  refine gAssign s h fun ts y p h=>?_;refine Yb ts h fun tg ts h=>?_;refine gNil ts h fun h=>?_;refine gNm tg h fun x px h=>?_;obtain⟨h1,h4⟩:=and2 (show (_&&((!Xt y || decide (k.kind x=some .cell)) || FR k x px e y))=true from h);obtain⟨h1,h3⟩:=and2 (show (_&&isE k e y)=true from h1);obtain⟨h1,h2⟩:=and2 (show (decide (k.N[i]?=some x)&&k.loc x)=true from h1);have hi:=of_decide_eq_true h1;clear h1;rcases or2 h4 with h4|h4
  ·rcases or2 h4 with h4|h4
   ·exact DR (by rw[C.N];exact C.nd) (by rw[C.N];exact hi) (C.loc h2).1 (fun Xe=>(sE e rz Xe k X _ C on h3).pe) (Vf (not1 h4) _ _ _) (C.loc h2).2
   ·exact DR (by rw[C.N];exact C.nd) (by rw[C.N];exact hi) (C.loc h2).1 (fun Xe=>(sE e rz Xe k X _ C on h3).pe) (JX (C.sc _ _ (of_decide_eq_true h4) %[|4]) _ _ _) (C.loc h2).2
  ·cases e with
   | comp N' n g it elt =>
    cases y with
    | ListComp y gs sc p =>
     obtain⟨h4,h7⟩:=and2 (show (_&&!(sc.names.any fun y=>y.1==x&&(y.2==.local || y.2==.cell)))=true from h4);obtain⟨h4,h6⟩:=and2 (show (_&&decide (px.line=p.line))=true from h4);obtain⟨h4,h5⟩:=and2 (show (decide (k.sc.kind=.function)&&decide (k.kind x=some .local))=true from h4);refine Yb gs (show Y9 gs _=true from h3) fun q r h3=>?_;refine gMk q h3 fun tg iter ifs z h3=>?_;refine gNil ifs h3 fun h3=>?_;refine gNil r h3 fun h3=>?_;obtain⟨h3,hcal⟩:=and2 (show (_&&k.cal)=true from h3);obtain⟨h3,g5⟩:=and2 (show (_&&isE ⟨N',sc,false,k.cal⟩ elt y)=true from h3);obtain⟨h3,g4⟩:=and2 (show (_&&isI k tg it iter)=true from h3);obtain⟨h3,g3⟩:=and2 (show (_&&isG ⟨N',sc,false,k.cal⟩ g tg)=true from h3);obtain⟨h3,g2⟩:=and2 (show (_&&decide (n=N'.length-k.N.length))=true from h3);obtain⟨h3,g1⟩:=and2 (show (decide (z=0)&&blkB k N' sc)=true from h3);obtain rfl:=of_decide_eq_true h3;obtain rfl:=of_decide_eq_true g2
     have si:=fun Xe=>sI it rz Xe k X tg _ C on.2.1 g4;rw[<- C.N];exact Fs (C.calm hcal) (Wf C g1).1 (fun Xe=>(si Xe).pi) (fun cl Cn s H ex=>⟨(sG g false X0 ⟨N',_,false,k.cal⟩ (Yx X N' _ cl Cn s H ex []) _ (C.blk g1 cl Cn s H ex) (YS g (fun c x S F=>⟨F.ex⟩) (fun x d F=>⟨F.ex⟩) on.1) g3).pg,
      (sE elt false X0 ⟨N',_,false,k.cal⟩ (Yx X N' _ cl Cn s H ex []) _ (C.blk g1 cl Cn s H ex) (Y2 elt (fun c x S F=>⟨F.ex⟩) (fun x d F=>⟨F.ex⟩) on.2.2) g5).pe⟩) ((si X0).set _)
      (VX (C.sc _ _ (of_decide_eq_true h5) %[|4]) (of_decide_eq_true h6) (not1 h7) (CtxOk.bk (k:=k) bk)) (by rw[C.N];exact C.nd) (by rw[C.N];exact hi) (C.loc h2).1 (C.loc h2).2
    | _=>exact absurd h4 Bool.false_ne_true
   | compI N' n g it c elt =>
    cases y with
    | ListComp y gs sc p =>
     obtain⟨h4,h7⟩:=and2 (show (_&&!(sc.names.any fun y=>y.1==x&&(y.2==.local || y.2==.cell)))=true from h4);obtain⟨h4,h6⟩:=and2 (show (_&&decide (px.line=p.line))=true from h4);obtain⟨h4,h5⟩:=and2 (show (decide (k.sc.kind=.function)&&decide (k.kind x=some .local))=true from h4);refine Yb gs (show Y9 gs _=true from h3) fun q r h3=>?_;refine gMk q h3 fun tg iter ifs z h3=>?_;refine Yb ifs h3 fun x0 ifs h3=>?_;refine gNil ifs h3 fun h3=>?_;refine gNil r h3 fun h3=>?_;obtain⟨h3,hcal⟩:=and2 (show (_&&k.cal)=true from h3);obtain⟨h3,g6⟩:=and2 (show (_&&isE ⟨N',sc,false,k.cal⟩ elt y)=true from h3);obtain⟨h3,g5⟩:=and2 (show (_&&isE ⟨N',sc,false,k.cal⟩ c x0)=true from h3);obtain⟨h3,g4⟩:=and2 (show (_&&isI k tg it iter)=true from h3);obtain⟨h3,g3⟩:=and2 (show (_&&isG ⟨N',sc,false,k.cal⟩ g tg)=true from h3);obtain⟨h3,g2⟩:=and2 (show (_&&decide (n=N'.length-k.N.length))=true from h3);obtain⟨h3,g1⟩:=and2 (show (decide (z=0)&&blkB k N' sc)=true from h3)
     obtain rfl:=of_decide_eq_true h3;obtain rfl:=of_decide_eq_true g2;have si:=fun Xe=>sI it rz Xe k X tg _ C on.2.1 g4;rw[<- C.N];refine AW (ti:=fun Xe=>rI Xe it) (g:=rG X0 g) (b:=bIf (rE X0 c).t (WP (rE X0 elt).e)) (C.calm hcal) (Wf C g1).1 (fun Xe=>(si Xe).pi) (fun p env=>ifW x0 env (Wb y (.ref p) env)) (fun p env=>Ju Xi) (fun cl Cn s H ex p=>⟨(sG g false X0 ⟨N',_,false,k.cal⟩ (Yx X N' _ cl Cn s H ex []) _ (C.blk g1 cl Cn s H ex) (YS g (fun c x S F=>⟨F.ex⟩) (fun x d F=>⟨F.ex⟩) on.1) g3).pg,
      FX rfl (sE c false X0 ⟨N',_,false,k.cal⟩ (Yx X N' _ cl Cn s H ex []) _ (C.blk g1 cl Cn s H ex) (Y2 c (fun c x S F=>⟨F.ex⟩) (fun x d F=>⟨F.ex⟩) on.2.2.1) g5).pt (V1 rfl (sE elt false X0 ⟨N',_,false,k.cal⟩ (Yx X N' _ cl Cn s H ex []) _ (C.blk g1 cl Cn s H ex) (Y2 elt (fun c x S F=>⟨F.ex⟩) (fun x d F=>⟨F.ex⟩) on.2.2.2) g6).pe)⟩) (fun _ _ _=>Ay) ((si X0).set _)
      (VX (C.sc _ _ (of_decide_eq_true h5) %[|4]) (of_decide_eq_true h6) (not1 h7) (CtxOk.bk (k:=k) bk)) (by rw[C.N];exact C.nd) (by rw[C.N];exact hi) (C.loc h2).1 (C.loc h2).2
    | _=>exact absurd h4 Bool.false_ne_true
   | _=>exact absurd h4 Bool.false_ne_true
 | .asg g e,rz,k,X,s,C,bk,on,h=>by
  refine gAssign s h fun ts y p h=>?_;refine Yb ts h fun tg ts h=>?_;refine gNil ts h fun h=>?_;obtain⟨h1,h4⟩:=and2 (show (_&&(Ab tg y || Ei k tg y))=true from h);obtain⟨h1,h3⟩:=and2 (show (_&&!Xt y)=true from h1);obtain⟨h1,h2⟩:=and2 (show (isG k g tg&&isE k e y)=true from h1);have s1:=fun Xe=>sG g rz Xe k X _ C on.1 h1;have h5:swappedStores [tg] y X.env=pure none:=(or2 h4).elim (fun h4=>JY h4 _) (fun h4=>UB C h4);exact HL (fun Xe=>(sE e rz Xe k X _ C on.2 h2).pe) (fun Xe=>(s1 Xe).pg) (Vf (not1 h3) _ _ _) h5 (by rw[(s1 X0).as];rfl)
 | .two g g2 e,rz,k,X,s,C,bk,on,h=>by
  refine gAssign s h fun ts y p h=>?_;refine Yb ts h fun tg ts h=>?_;refine Yb ts h fun tg2 ts h=>?_;refine gNil ts h fun h=>?_;obtain⟨h1,h3⟩:=and2 (show (_&&isE k e y)=true from h);obtain⟨h1,h2⟩:=and2 (show (isG k g tg&&isG k g2 tg2)=true from h1);have s1:=fun Xe=>sG g rz Xe k X _ C on.1 h1;have s2:=fun Xe=>sG g2 rz Xe k X _ C on.2.1 h2;exact HH (fun Xe=>(sE e rz Xe k X _ C on.2.2 h3).pe) (fun Xe=>(s1 Xe).pg) (fun Xe=>(s2 Xe).pg) (by rw[(s1 X0).as,(s2 X0).as];rfl) (J7 _ _ _ _)
 | .aug i sub e,rz,k,X,s,C,bk,on,h=>by
  refine gAugAssign s h fun tg op y p h=>?_;refine gNm tg h fun x px h=>?_;obtain⟨h1,h4⟩:=and2 (show (_&&decide (op=if sub=true then .Sub else .Add))=true from h);obtain⟨h1,h3⟩:=and2 (show (_&&isE k e y)=true from h1);obtain⟨h1,h2⟩:=and2 (show (decide (k.N[i]?=some x)&&k.loc x)=true from h1);have h1:=of_decide_eq_true h1;obtain rfl:=of_decide_eq_true h4;cases sub with
  | true=>exact DW (by rw[C.N];exact C.nd) (by rw[C.N];exact h1) (C.loc h2).1 (fun Xe=>(sE e rz Xe k X _ C on h3).pe) HA (C.loc h2).2
  | false=>exact DW (by rw[C.N];exact C.nd) (by rw[C.N];exact h1) (C.loc h2).1 (fun Xe=>(sE e rz Xe k X _ C on h3).pe) HB (C.loc h2).2
 | .par i j a b,rz,k,X,s,C,bk,on,h=>by
  refine gAssign s h fun ts v p h=>?_;refine Yb ts h fun tg ts h=>?_;refine gTuple tg h fun xs q1 p1 h=>?_;refine Yb xs h fun x xs h=>?_;refine gNm x h fun x px h=>?_;refine Yb xs h fun y xs h=>?_;refine gNm y h fun y py h=>?_;refine gNil xs h fun h=>?_;refine gNil ts h fun h=>?_;refine gTuple v h fun us q2 p2 h=>?_;refine Yb us h fun u us h=>?_;refine Yb us h fun v us h=>?_;refine gNil us h fun h=>?_;obtain⟨h,hcal⟩:=and2 (show (_&&k.cal)=true from h);obtain⟨h,h13⟩:=and2 (show (_&&decide (k.sc.kind=.function))=true from h);obtain⟨h,h12⟩:=and2 (show (_&&YJ v)=true from h);obtain⟨h,h11⟩:=and2 (show (_&&YJ u)=true from h);obtain⟨h,h10⟩:=and2 (show (_&&!([u,v].all (constantsAlone 8)))=true from h);obtain⟨h,h9⟩:=and2 (show (_&&!([u,v].all (foldedForSure 8)))=true from h);obtain⟨h,h8⟩:=and2 (show (_&&decide (px.line=py.line))=true from h);obtain⟨h,h7⟩:=and2 (show (_&&isE k b v)=true from h);obtain⟨h,h6⟩:=and2 (show (_&&isE k a u)=true from h)
  obtain⟨h,h5⟩:=and2 (show (_&&decide (k.kind y=some .local))=true from h);obtain⟨h,h4⟩:=and2 (show (_&&decide (k.kind x=some .local))=true from h);obtain⟨h,h3⟩:=and2 (show (_&&!decide (i=j))=true from h);obtain⟨h,h2⟩:=and2 (show (decide (k.N[i]?=some x)&&decide (k.N[j]?=some y))=true from h);have h1:=of_decide_eq_true h;have h2:=of_decide_eq_true h2;have h3:¬ i=j:=of_decide_eq_false (not1 h3);have s1:=fun Xe=>sE a rz Xe k X _ C on.1 h6;have s2:=fun Xe=>sE b rz Xe k X _ C on.2 h7;have kx:=C.sc _ _ (of_decide_eq_true h4) %[|4];have ky:=C.sc _ _ (of_decide_eq_true h5) %[|4];exact HJ (C.calm hcal) (by rw[C.N];exact C.nd) (by rw[C.N];exact h1) (by rw[C.N];exact h2) h3 kx ky (fun Xe=>Zi (s1 Xe).pe (Zi (s2 Xe).pe WA ((s2 Xe).sh.star _ _)) ((s1 Xe).sh.star _ _))
   (J6 kx ky (fun z=>h3 (ZZ C.nd h1 (z ▸ h2))) (of_decide_eq_true h8) (CtxOk.bk (k:=k) bk) (not1 h9) (not1 h10) h11 h12) rfl
 | .par3 i j l a b c,rz,k,X,s,C,bk,on,h=>by
  refine gAssign s h fun t1 t11 p h=>?_;refine Yb t1 h fun t2 t10 h=>?_;refine gTuple t2 h fun t3 q1 p1 h=>?_;refine Yb t3 h fun t4 t5 h=>?_;refine gNm t4 h fun x px h=>?_;refine Yb t5 h fun t6 t7 h=>?_;refine gNm t6 h fun y py h=>?_;refine Yb t7 h fun t8 t9 h=>?_;refine gNm t8 h fun z pz h=>?_;refine gNil t9 h fun h=>?_;refine gNil t10 h fun h=>?_;refine gTuple t11 h fun t12 q2 p2 h=>?_;refine Yb t12 h fun u t13 h=>?_;refine Yb t13 h fun v t14 h=>?_;refine Yb t14 h fun w t15 h=>?_;refine gNil t15 h fun h=>?_;obtain⟨h,hcal⟩:=and2 h;obtain⟨h,h13⟩:=and2 h;obtain⟨h,hw⟩:=and2 h;obtain⟨h,hv⟩:=and2 h;obtain⟨h,hu⟩:=and2 h;obtain⟨h,h10⟩:=and2 h;obtain⟨h,h9⟩:=and2 h;obtain⟨h,l2⟩:=and2 h;obtain⟨h,l1⟩:=and2 h;obtain⟨h,e3⟩:=and2 h;obtain⟨h,e2⟩:=and2 h;obtain⟨h,e1⟩:=and2 h;obtain⟨h,k3⟩:=and2 h;obtain⟨h,k2⟩:=and2 h;obtain⟨h,k1⟩:=and2 h;obtain⟨h,n3⟩:=and2 h;obtain⟨h,n2⟩:=and2 h;obtain⟨h,n1⟩:=and2 h;obtain⟨h,i3⟩:=and2 h
  obtain⟨i1,i2⟩:=and2 h;have i1:=of_decide_eq_true i1;have i2:=of_decide_eq_true i2;have i3:=of_decide_eq_true i3;have n1:¬ i=j:=of_decide_eq_false (not1 n1);have n2:¬ i=l:=of_decide_eq_false (not1 n2);have n3:¬ j=l:=of_decide_eq_false (not1 n3);have s1:=fun Xe=>sE a rz Xe k X _ C on.1 e1;have s2:=fun Xe=>sE b rz Xe k X _ C on.2.1 e2;have s3:=fun Xe=>sE c rz Xe k X _ C on.2.2 e3;have kx:=C.sc _ _ (of_decide_eq_true k1) %[|4];have ky:=C.sc _ _ (of_decide_eq_true k2) %[|4];have kz:=C.sc _ _ (of_decide_eq_true k3) %[|4];exact Ft (C.calm hcal) (by rw[C.N];exact C.nd) (by rw[C.N];exact i1) (by rw[C.N];exact i2) (by rw[C.N];exact i3) n1 n2 n3 kx ky kz (fun Xe=>Zi (s1 Xe).pe (Zi (s2 Xe).pe (Zi (s3 Xe).pe WA ((s3 Xe).sh.star _ _)) ((s2 Xe).sh.star _ _)) ((s1 Xe).sh.star _ _))
   (UA kx ky kz (fun z=>n1 (ZZ C.nd i1 (z ▸ i2))) (fun z=>n2 (ZZ C.nd i1 (z ▸ i3))) (fun z=>n3 (ZZ C.nd i2 (z ▸ i3))) (of_decide_eq_true l1) (of_decide_eq_true l2) (CtxOk.bk (k:=k) bk) (not1 h9) (not1 h10) hu hv hw) rfl
 | .whl c b,rz,k,X,s,C,bk,on,h=>by
  refine gWhile s h fun x xs ys p h=>?_;refine gNil ys h fun h=>?_;obtain⟨h1,h2⟩:=and2 (show (isE k c x&&isSs k rz b xs)=true from h);exact DQ (W3 C) (fun Xe=>(sE c rz Xe k X _ C on.1 h1).pt) (sSs b rz k X _ C bk on.2 h2)
 | .fr g it b,rz,k,X,s,C,bk,on,h=>by
  refine gFor s h fun tg iter xs ys p h=>?_;refine gNil ys h fun h=>?_;obtain⟨h,hcal⟩:=and2 (show (_&&k.cal)=true from h);obtain⟨h1,h3⟩:=and2 (show (_&&isSs k rz b xs)=true from h);obtain⟨h1,h2⟩:=and2 (show (isG k g tg&&isI k tg it iter)=true from h1);have si:=fun Xe=>sI it rz Xe k X tg _ C on.2.1 h2;exact HK (W3 C) (C.calm hcal) (fun Xe=>(si Xe).pi) (fun Xe=>(sG g rz Xe k X _ C on.1 h1).pg) (sSs b rz k X _ C bk on.2.2 h3) ((si X0).set _)
 | .nev,rz,k,X,s,C,bk,on,h=>DV
 | .rse x es,rz,k,X,s,C,bk,on,h=>by
  refine gRaise s h fun v w p h=>?_;refine gSome v h fun v h=>?_;refine gCall v h fun f xs kw q h=>?_;refine gNm f h fun y q' h=>?_;refine Yb xs h fun a r h=>?_;refine gNil kw h fun h=>?_;refine gNone w h fun h=>?_;obtain⟨h,hcal⟩:=and2 (show (_&&k.cal)=true from h);obtain⟨h,h6⟩:=and2 (show (_&&isEs k es (a::r))=true from h);obtain⟨h,h5⟩:=and2 (show (_&&Xg x)=true from h);obtain⟨h,h4⟩:=and2 (show (_&&k.gl x)=true from h);obtain⟨h,h3⟩:=and2 (show (_&&xPlain.contains x)=true from h);obtain⟨hz,h2⟩:=and2 (show (rz&&decide (x=y))=true from h);obtain rfl:=of_decide_eq_true h2;subst hz;obtain⟨Cc,hm,hc⟩:=Fp on.1;have s:=fun Xe=>sEs es true Xe k X _ C on.2 h6;exact DU (C.room hcal) C.tab h3 hc hm (C.gl h4) (V4 h5) (fun Xe=>(s Xe).pa) (((s X0).hd _ _ rfl).1.star _ _) (((s X0).hd _ _ rfl).2 _ _)
theorem sSs:∀ (c:CSs) (rz:Bool) (k:Ck) (X:Cx) (s:List Stmt),CtxOk X k->X.env.scope.kind=.function->onSs (FnAt X) (GloAt X) c->isSs k rz c s=true->PSs X s (YE X rz (rSs c))
 | .nil,rz,k,X,s,C,bk,on,h=>by
  cases s with
  | nil=>exact Fr
  | cons _ _=>exact absurd h Bool.false_ne_true
 | .cons c r,rz,k,X,s,C,bk,on,h=>by
  cases s with
  | nil=>exact absurd h Bool.false_ne_true
  | cons x xs =>
   obtain⟨h1,h2⟩:=and2 (show (isS k rz c x&&isSs k rz r xs)=true from h);exact DP (sS c rz k X _ C bk on.1 h1) (sSs r rz k X _ C bk on.2 h2)
end
section
variable (P:Program) (w:World) (K:Frag) (mg:Str->Option Value) (base:Heap)
structure FnE (k:Nat) (c x:Str) (S:DSp):Prop where
 ex:∃ f fd ps,FnOk P w K mg base (CXR P w) (k-ini c x) f fd ps (XN K S)/\ini c x<=k/\RefAt K mg c x f/\Binds K fd ps []
structure GloE (x:Str) (d:D):Prop where
 ex:∃ u v,mg x=some u/\RelV v u/\∀ H,RelD K H v d
end
noncomputable def Y1 (n:Nat) (ds:List D):DSt:=ds.map some++List.replicate (n-ds.length) none
theorem Bd {K:Frag} {H:Hp} {N:List Str} {vs:List V} {ds:List D} (r:RelDs K H vs ds):Slots K H (Y1 N.length ds) (L2.start N vs):=by
 unfold Y1 L2.start;rw[<- r.length];refine Slots.more ⟨by simp[r.length],fun i d e=>?_⟩ _;rw[List.getElem?_map] at e;cases q:ds[i]? with
 | none=>rw [q] at e;cases e
 | some d' =>
  rw[q] at e;cases e;obtain⟨v,h1,h2⟩:=r.get q;exact⟨v,by rw[List.getElem?_map,h1];rfl,h2⟩
section
variable {P:Program} {w:World} {K:Frag} {mg:Str->Option Value} {base:Heap}
theorem FnE.mono (F:FnE P w K mg base j c x S) (h:j<=k):FnE P w K mg base k c x S:=by
 obtain⟨f,fd,ps,a,b,c,d⟩:=F.ex;exact⟨f,fd,ps,a.mono (Nat.sub_le_sub_right h _),Nat.le_trans b h,c,d⟩
theorem DZ {x qu:Str} {st:Stmt} {f:Addr} {fd:FuncData} {N ps:List Str} {k:Nat} {S:DSp} (cs:CSs) (F:Fun K x qu st f fd) (hB:Blt mg) (tab:Xk K=true) (Sc:FnScope N ps (Yg st))
  (ck:isSs ⟨N,Yg st,true,true⟩ true cs (YW st)=true) (on:onSs (FnE P w K mg base k) (GloE K mg) cs)
  (len:∀ ds M R E,S ds M R E->ds.length=ps.length)
  (vc:∀ ds M R E,S ds M R E->rSs cs {nx:=fun _ M'=>R .non M',rt:=R,ex:=fun _=>E} (Y1 N.length ds) M):FnOk P w K mg base (CXR P w) (k+1) f fd ps (XN K S):=by
 obtain⟨oc,od,kV,doc,pm,an,cdv,ct,osl,rfl,lk,hcd⟩:=F.ex;refine Gj lk hcd Sc (fun vs H Q E ⟨ds,M,R,Ed,r,_,h,_⟩=>by rw[r.length];exact len ds M R _ h) fun A outer s H vs Q E hr ⟨ds,M,R,Ed,r,rm,h,q,qe⟩=>?_;refine⟨YE (cxOf (CXR P w) P w K mg base N qu (Yg st) f cdv A outer s H E) true (rSs cs),?_,?_⟩
 ·refine sSs cs true ⟨N,Yg st,true,true⟩ _ _ ⟨rfl,Sc.nd,fun x κ e _=>e,fun x e=>.inr e,fun _ _=>rfl,fun _=>rfl,fun _=>hr.mono (Nat.zero_le _),Nat.lt_of_le_of_lt (Nat.le_trans (Nat.add_le_add_left (by decide:66<=200) _) (Nat.add_le_add_right (Nat.le_add_right _ _) _)) hr.un,hB,PassesOwn.leaving,tab,fun _=>⟨rfl,rfl⟩⟩ Sc.kind ?_ ck
  exact Zv cs (fun _ x S ⟨f',fd',ps',a,b,c,d⟩=>⟨k,f',fd',ps',a,b,fun _=>hr,c,d⟩) (fun x d ⟨u,v,a,b,c⟩=>⟨u,v,a,b,c⟩) on
 ·exact⟨Y1 N.length ds,M,{nx:=fun _ M'=>R .non M',rt:=R,ex:=fun _=>Ed},⟨Bd r,BT qe⟩,rm,vc ds M R Ed h,fun δ' M' σ' H' x _ m h'=>q _ _ _ _ x m .non h',fun d M' v H' x m rr h'=>q _ _ _ _ x m rr h',fun _ _ _ _ _ _ _ z=>z.elim,fun _ _ _ _ _ _ _ z=>z.elim⟩
theorem HV {x:Str} {st:Stmt} {f:Addr} {fd:FuncData} {N ps:List Str} {k:Nat} {S:DSp} (cs:CSs) (F:Fun K x x st f fd) (hm:mg x=some (.ref f)) (hb:Binds K fd ps []) (hB:Blt mg) (tab:Xk K=true) (Sc:FnScope N ps (Yg st))
  (ck:isSs ⟨N,Yg st,true,true⟩ true cs (YW st)=true) (on:onSs (FnE P w K mg base k) (GloE K mg) cs)
  (len:∀ ds M R E,S ds M R E->ds.length=ps.length)
  (vc:∀ ds M R E,S ds M R E->rSs cs {nx:=fun _ M'=>R .non M',rt:=R,ex:=fun _=>E} (Y1 N.length ds) M):FnE P w K mg base (k+1) "" x S :=
 ⟨f,fd,ps,by rw[ini0];exact DZ cs F hB tab Sc ck on len vc,by rw[ini0];exact Nat.zero_le _,⟨fun _=>⟨hm,F.kp⟩,fun z=>absurd rfl z⟩,hb⟩
theorem usS (h:us.length=n+1):∃ a r,us=a::r/\r.length=n:=by
 cases us with
 | nil=>exact absurd h (Nat.succ_ne_zero n).symm
 | cons a r=>exact⟨a,r,rfl,Nat.succ.inj h⟩
theorem us0 (h:us.length=0):us=[]:=by
 cases us with
 | nil=>rfl
 | cons a r=>exact absurd h (Nat.succ_ne_zero _)
theorem us1 (h:us.length=1):∃ a,us=[a]:=by
 obtain⟨a,r,rfl,g⟩:=usS h;obtain rfl:=us0 g;exact⟨a,rfl⟩
theorem us2 (h:us.length=2):∃ a b,us=[a,b]:=by
 obtain⟨a,r,rfl,g⟩:=usS h;obtain⟨b,rfl⟩:=us1 g;exact⟨a,b,rfl⟩
theorem us3 (h:us.length=3):∃ a b c,us=[a,b,c]:=by
 obtain⟨a,r,rfl,g⟩:=usS h;obtain⟨b,c,rfl⟩:=us2 g;exact⟨a,b,c,rfl⟩
theorem us4 (h:us.length=4):∃ a b c d,us=[a,b,c,d]:=by
 obtain⟨a,r,rfl,g⟩:=usS h;obtain⟨b,c,d,rfl⟩:=us3 g;exact⟨a,b,c,d,rfl⟩
theorem YU (X:K.In h) (G:h.Ns mainGlobals mg) (hn:n∈xNames) (e:PySem.W.nsIn K mainGlobals n=some (some (.ref C))):GloE K mg n (.cls n) :=
 ⟨.ref C,.ref C,PySem.W.mg_of X G e,rfl,fun _=>.cls hn e⟩
end
structure Script (ns:List Int):Prop where
 len:ns.length<=63
 bits:∀ n∈ns,Builtin.Int.intBits n<=1048576
noncomputable def SLaw:DSp:=fun ds M Q _=>∃ ns:List Int,ds=[.fz (ns.map .int)]/\Script ns/\∀ M',Q (.bl true) M'
theorem Xn:∀ {ns:List Int},PySem.W.WData.weightAll (ns.map PySem.W.WData.int)<=2 ^ 20->∀ n∈ns,Builtin.Int.intBits n<=1048576
 | n::r,h,m,hm=>by
  simp only[List.map_cons,PySem.W.WData.weightAll] at h;rcases List.mem_cons.mp hm with rfl|hm
  ·have e:Builtin.Int.intBits m=PySem.W.WData.weight (.int m):=by
    unfold Builtin.Int.intBits PySem.W.WData.weight
    rfl
   rw[e];omega
  ·exact Xn %[|5] m hm
theorem walkD {l:PySem.W.OpenLaw} {q:Program} {loose:List Str} {XP:(Str->Option Value)->Heap->Prop} {YP:World->Heap->Prop} {d:DefRec} {K:Params->Frag} {x:Str} {k:Nat} (hn:l.most=some 63) (hdf:d.params.defaults=[])
  (hr:Room k callerA) (hY:∀ (w:World) (h:Heap),YP w h->(K w.params).In h)
  (F:∀ (w:World) (mg:Str->Option Value) (fa:Addr) (h:Heap),(K w.params).In h->h.Ns mainGlobals mg->mg d.name=some (.ref fa) ->
   ∃ fd:FuncData,(∀ (s:Shared) (u:Value),BindsTo s fd ⟨[u],[]⟩ [(x,u)])/\∀ base:Heap,(K w.params).In base->base.Ns mainGlobals mg->FnOk l.prog w (K w.params) mg base (CXR l.prog w) k fa fd [x] (XN (K w.params) SLaw)) :
  PySem.W.WalkO q loose XP YP l.row.toRowW d [] (fun f vs=>PySem.call f vs):=by
 intro w s₀ s₁ mg mb G Y fa o pm cd doc dV kV ho hd hcd hD hmg hg args vals as hpre hlay hrd hwl hlo;obtain rfl:dV=.none:=PySem.W.Dflts.none hD hdf;obtain rfl:kV=.none:=PySem.W.Dflts.noKw hD;obtain⟨a,vs,ns,rfl,rfl,hobj,hints,hlen⟩:=Att.script_of hn hpre hwl;have KX:=hY w _ Y;obtain⟨fd,hb,hF⟩:=F w mg fa _ KX G.T.g hmg;have hbits:∀ n∈ns,Builtin.Int.intBits n<=1048576:=by
  refine Xn ?_;simp only[PySem.W.WData.layableAll,List.all_cons,List.all_nil,Bool.and_true,PySem.W.WData.layable,Bool.and_eq_true,decide_eq_true_eq] at hlay;exact hlay.2
 refine PySem.W.enter_call (codeAny_mono (Dk KX G.T.g G.T.b G.T.builtins G.T.nolimit hg hobj hints (Nat.le_trans hlen %[|4]) hr hF hb (fun H hO hS=>?_) fun H e s' ⟨_,_,_,_,_,_,z⟩=>z) fun r s' hq=>?_)
 ·have hf:SqF (K w.params) H a (ns.map V.int):=by
   rcases hS with (hS|⟨o,hS⟩)|hS
   ·rcases hO a with z|⟨o,xs,z⟩<;>rw[hS] at z<;>cases z
   ·exact .inl ⟨o,hS⟩
   ·exact .inr hS
  exact⟨[.fz (ns.map .int)],fun _=>none,fun d _=>d=.bl true,fun _ _=>False,.cons (.fz hf (.ints ns)) .nil,.nil,⟨ns,rfl,⟨hlen,hbits⟩,fun _=>rfl⟩,fun d' M' v H' _ _ r h=>by subst h;(first|cases (show _=_ from r.inv)|cases r);rfl,fun _ _ _ _ _ _ _ _ _ _ _ z=>z.elim⟩
 ·obtain⟨rfl,h2,h3,h4⟩:=hq
  exact⟨.inl ⟨.bool true,.bool true,[],rfl,fun _=>rfl,.bool true,Att.post_true l _,fun _=>⟨List.Pairwise.nil,fun _ hm=>(nomatch hm)⟩⟩,h2,h3,h4⟩
structure DefIs (s:Stmt) (N:List Str) (n:Nat) (C:CSs) (S:DSp):Prop where
 sc:FnScope N (N.take n) (Yg s)
 ck:isSs ⟨N,Yg s,true,true⟩ true C (YW s)=true
 len:∀ ds M R E,S ds M R E->ds.length=(N.take n).length
 vc:∀ ds M R E,S ds M R E->rSs C {nx:=fun _ M'=>R .non M',rt:=R,ex:=fun _=>E} (Y1 N.length ds) M
 bd:∀ (q:Str) (kV doc pm:Value) (an:Option Addr) (cdv ct:Value) (us:List Value),us.length=(N.take n).length->bindArgs (PySem.W.fnOf q q (ZQ s) (YW s) (Yg s) .none kV doc pm an cdv ct) ⟨us,[]⟩=pure ((N.take n).zip us)
inductive Has (K:Frag) (q:Str) (s:Stmt):Prop
 | mk {f:Addr} {oc:Value} {od an:Option Addr} {sl:Array (Option Value)} {kV dc pm cd ct:Value} (a:PySem.W.nsIn K mainGlobals q=some (some (.ref f))) (l:K.lookup f=some ⟨oc,od,.func (PySem.W.fnOf q q (ZQ s) (YW s) (Yg s) .none kV dc pm an cd ct),sl⟩) (c:PySem.W.codeIn K cd q=true) (k:PySem.W.keepIn K (.ref f)=true):Has K q s
structure Zc (P:Program) (w:World) (K:Frag) (h:Heap) (mg:Str->Option Value) (base:Heap):Prop where
 X:K.In h
 G:h.Ns mainGlobals mg
 B:Blt mg
 tab:Xk K=true
theorem DefIs.ok {P:Program} {w:World} {K:Frag} {h:Heap} {mg:Str->Option Value} {base:Heap} {s:Stmt} {N:List Str} {n:Nat} {C:CSs} {S:DSp} {q:Str} (k:Nat) (D:DefIs s N n C S) (H:Has K q s) (Z:Zc P w K h mg base) (on:onSs (FnE P w K mg base k) (GloE K mg) C):FnE P w K mg base (k+1) "" q S:=by
 obtain⟨a,l,c,kp⟩:=H;exact HV C (Al l c kp) (PySem.W.mg_of Z.X Z.G a) ((Al (st:=s) l c kp).binds (D.bd q)) Z.B Z.tab D.sc D.ck on D.len D.vc
end DL
end
noncomputable section
namespace Q
theorem Jz {a b:Int} (h:b≠0):0<Int.gcd a b:=Int.gcd_pos_of_ne_zero_right _ h
theorem Dg (a b:Int) (h:b≠0):a.fdiv (if b<0 then -(Int.gcd a b:Int) else Int.gcd a b)=(Rat.divInt a b).num/\b.fdiv (if b<0 then -(Int.gcd a b:Int) else Int.gcd a b)=((Rat.divInt a b).den:Int):=by
 have hg:=Jz (a:=a) h;obtain⟨x,hx⟩:(Int.gcd a b:Int) ∣ a:=Int.gcd_dvd_left ..;obtain⟨y,hy⟩:(Int.gcd a b:Int) ∣ b:=Int.gcd_dvd_right ..;have gc:Int.gcd b a=Int.gcd a b:=Int.gcd_comm b a;rw[Rat.num_divInt,Rat.den_divInt,if_neg h,gc];generalize hgg:Int.gcd a b=g at *;have g0:(g:Int)≠0:=by omega
 have hy0:y≠0:=fun z=>h (by rw[hy,z,Int.mul_zero]);by_cases hb:b<0
 ·rw[if_pos hb]
  have yneg:y<0:=by
   rcases Int.lt_trichotomy y 0 with z|z|z
   ·exact z
   ·exact absurd z hy0
   ·have:=Int.mul_pos (by omega:(0:Int)<g) z;omega
  have sb:b.sign=-1:=Int.sign_eq_neg_one_of_neg hb;have e1:a=(-(g:Int))*(-x):=by rw[Int.neg_mul_neg];exact hx
  have e2:b=(-(g:Int))*(-y):=by rw[Int.neg_mul_neg];exact hy
  have n0:(-(g:Int))≠0:=by omega
  constructor
  ·conv=>lhs;rw[e1]
   rw[Int.mul_fdiv_cancel_left _ n0,sb];have:(-1*a)=(g:Int)*(-x):=by rw[hx,Int.mul_neg];omega
   rw[this,Int.mul_ediv_cancel_left _ g0]
  ·conv=>lhs;rw[e2]
   rw[Int.mul_fdiv_cancel_left _ n0];have e3:b.natAbs=g*(-y).natAbs:=by rw[hy,Int.natAbs_mul];simp
   rw[e3,Nat.mul_div_cancel_left _ hg];omega
 ·rw[if_neg hb]
  have ypos:0<y:=by
   rcases Int.lt_trichotomy y 0 with z|z|z
   ·have:=Int.mul_neg_of_pos_of_neg (by omega:(0:Int)<g) z;omega
   ·exact absurd z hy0
   ·exact z
  have sb:b.sign=1:=Int.sign_eq_one_of_pos %[|5];constructor
  ·conv=>lhs;rw[hx]
   rw[Int.mul_fdiv_cancel_left _ g0,sb,Int.one_mul]
   conv=>rhs;rw[hx]
   rw[Int.mul_ediv_cancel_left _ g0]
  ·conv=>lhs;rw[hy]
   rw[Int.mul_fdiv_cancel_left _ g0];have e3:b.natAbs=g*y.natAbs:=by rw[hy,Int.natAbs_mul];simp
   rw[e3,Nat.mul_div_cancel_left _ hg];omega
theorem Yt (q:Rat):Rat.divInt q.num q.den=q:=Rat.num_divInt_den q
theorem Dx (q:Rat):Int.gcd q.num q.den=1:=q.reduced
theorem Wc (q:Rat):(0:Int)<q.den:=by have:=q.den_nz;omega
theorem Hl {a b:Int} (hb:1<=b) (hg:Int.gcd a b=1):(Rat.divInt a b).num=a/\((Rat.divInt a b).den:Int)=b:=by
 have gc:Int.gcd b a=1:=by rw[Int.gcd_comm];exact hg
 rw[Rat.num_divInt,Rat.den_divInt,if_neg %[|5],gc,Int.sign_eq_one_of_pos %[|5]];simp;omega
theorem Aw (p q:Rat):Rat.divInt (p.num*q.den+q.num*p.den) (p.den*q.den)=p+q:=by
 rw[<- Rat.divInt_add_divInt _ _ (by have:=p.den_nz;omega) (by have:=q.den_nz;omega),Yt,Yt]
theorem A0 (p q:Rat):Rat.divInt (p.num*q.den-q.num*p.den) (p.den*q.den)=p-q:=by
 rw[<- Rat.divInt_sub_divInt _ _ (by have:=p.den_nz;omega) (by have:=q.den_nz;omega),Yt,Yt]
theorem Db (p q:Rat):Rat.divInt (p.num*q.num) (p.den*q.den)=p*q:=by
 rw[<- Rat.divInt_mul_divInt,Yt,Yt]
theorem DX (p q:Rat):Rat.divInt (p.num*q.den) (p.den*q.num)=p / q:=by
 rw[Rat.div_def,Rat.inv_def,<- Rat.divInt_mul_divInt,Yt]
theorem Ga (p q:Rat):p.num*q.den<q.num*p.den ↔ p<q:=(Rat.lt_iff p q).symm
noncomputable def Sz (n:Nat) (q:Rat):Prop:=q.num.natAbs<2 ^ n/\q.den<2 ^ n
theorem Sz.mono {m n:Nat} {q:Rat} (h:Sz m q) (k:m<=n):Sz n q:=⟨Nat.lt_of_lt_of_le h.1 (Nat.pow_le_pow_right %[|4] k),Nat.lt_of_lt_of_le h.2 (Nat.pow_le_pow_right %[|4] k)⟩
theorem Ue (a b:Int) (h:b≠0):(Rat.divInt a b).num.natAbs<=a.natAbs/\(Rat.divInt a b).den<=b.natAbs:=by
 rw[Rat.num_divInt,Rat.den_divInt,if_neg h];constructor
 ·have:(b.sign*a).natAbs<=a.natAbs:=by
   rw[Int.natAbs_mul];have:b.sign.natAbs<=1:=by rcases Int.lt_trichotomy b 0 with z|z|z<;>simp[Int.sign_eq_neg_one_of_neg,Int.sign_eq_one_of_pos,z]
   exact Nat.le_trans (Nat.mul_le_mul_right _ this) (by simp)
  exact Nat.le_trans (Int.natAbs_ediv_le_natAbs _ _) this
 ·exact Nat.div_le_self _ _
theorem ZW {a b:Int} {n:Nat} (h:b≠0) (ha:a.natAbs<2 ^ n) (hb:b.natAbs<2 ^ n):Sz n (Rat.divInt a b) :=
 ⟨Nat.lt_of_le_of_lt (Ue a b h).1 ha,Nat.lt_of_le_of_lt (Ue a b h).2 hb⟩
theorem Ae {a b m n:Nat} (ha:a<2 ^ m) (hb:b<2 ^ n):a*b<2 ^ (m+n):=by
 rw[Nat.pow_add];exact Nat.mul_lt_mul'' ha hb
theorem Z0 {a b:Int} {m n:Nat} (ha:a.natAbs<2 ^ m) (hb:b.natAbs<2 ^ n):(a*b).natAbs<2 ^ (m+n):=by
 rw[Int.natAbs_mul];exact Ae ha hb
theorem FM {a b:Int} {n:Nat} (ha:a.natAbs<2 ^ n) (hb:b.natAbs<2 ^ n):(a+b).natAbs<2 ^ (n+1):=by
 have:=Int.natAbs_add_le a b;rw[Nat.pow_succ];omega
theorem FL {a b:Int} {n:Nat} (ha:a.natAbs<2 ^ n) (hb:b.natAbs<2 ^ n):(a-b).natAbs<2 ^ (n+1):=by
 have:=Int.natAbs_sub_le a b;rw[Nat.pow_succ];omega
theorem Yw {n:Nat} {q:Rat} (h:Sz n q):(q.den:Int).natAbs<2 ^ n:=by simpa using h.2
theorem Xu (p q:Rat):(p.den:Int)*q.den≠0:=by
 have:=Wc p;have:=Wc q;exact Int.ne_of_gt (Int.mul_pos %[|5] %[|5])
theorem Sz.add {m n:Nat} {p q:Rat} (hp:Sz m p) (hq:Sz n q):Sz (m+n+1) (p+q):=by
 rw[<- Aw];refine ZW (Xu p q) (FM (Z0 hp.1 (Yw hq)) ?_) (Nat.lt_of_lt_of_le (Z0 (Yw hp) (Yw hq)) (Nat.pow_le_pow_right %[|4] %[|5]));rw[Nat.add_comm];exact Z0 hq.1 (Yw hp)
theorem Sz.sub {m n:Nat} {p q:Rat} (hp:Sz m p) (hq:Sz n q):Sz (m+n+1) (p-q):=by
 rw[<- A0];refine ZW (Xu p q) (FL (Z0 hp.1 (Yw hq)) ?_) (Nat.lt_of_lt_of_le (Z0 (Yw hp) (Yw hq)) (Nat.pow_le_pow_right %[|4] %[|5]));rw[Nat.add_comm];exact Z0 hq.1 (Yw hp)
theorem Sz.mul {m n:Nat} {p q:Rat} (hp:Sz m p) (hq:Sz n q):Sz (m+n) (p*q):=by
 rw[<- Db];exact ZW (Xu p q) (Z0 hp.1 hq.1) (Z0 (Yw hp) (Yw hq))
theorem CW {q:Rat} (h:q≠0):q.num≠0:=fun z=>h (Rat.num_eq_zero.mp z)
theorem Sz.div {m n:Nat} {p q:Rat} (hp:Sz m p) (hq:Sz n q) (h:q≠0):Sz (m+n) (p / q):=by
 rw[<- DX];have:=Wc p;exact ZW (Int.mul_ne_zero %[|5] (CW h)) (Z0 hp.1 (Yw hq)) (Z0 (Yw hp) hq.1)
theorem Sz.int {n:Nat} {i:Int} (h:i.natAbs<2 ^ n) (h1:1<=n):Sz n (i:Rat):=⟨by simpa using h,by
 show (1:Nat) < _;exact Nat.one_lt_two_pow %[|5]⟩
end Q
end
noncomputable section
namespace Q
theorem IF (d:Nat->Rat) (n:Nat) (h:∀ k,0<k->k<n->0<d k->d k-d (k-1)<=d (k+1)-d k):∀ m i,n-i=m->0<i->i<=n->0<d i->0<d i-d (i-1)->0<d n:=by
 intro m
 induction m with
 | zero =>
  intro i e h0 h1 h2 _;have:i=n:=by omega
  subst this;exact h2
 | succ m ih =>
  intro i e h0 h1 h2 h3;have hi:i<n:=by omega
  have:=h i h0 hi h2;refine ih (i+1) %[|5] %[|5] %[|5] (by grind) ?_;rw[Nat.add_sub_cancel];grind
theorem Ii (d:Nat->Rat) (h0:d 0<=0):∀ k,0<d k->∃ i,0<i/\i<=k/\0<d i/\0<d i-d (i-1):=by
 intro k
 induction k with
 | zero=>intro h;grind
 | succ k ih =>
  intro h;by_cases hk:0<d k
  ·obtain⟨i,a,b,c,e⟩:=ih hk
   exact⟨i,a,by omega,c,e⟩
  ·exact⟨k+1,by omega,by omega,h,by rw[Nat.add_sub_cancel];grind⟩
theorem maxp (d:Nat->Rat) (n:Nat) (h0:d 0<=0) (hn:d n<=0) (h:∀ k,0<k->k<n->0<d k->d k-d (k-1)<=d (k+1)-d k):∀ k,k<=n->d k<=0:=by
 intro k hk;by_cases hd:0<d k
 ·obtain⟨i,a,b,c,e⟩:=Ii d h0 k hd
  have:=IF d n h (n-i) i rfl a %[|5] c e;grind
 ·grind
structure Taut (lo hi r:Nat->Rat) (n:Nat):Prop where
 low:∀ k,k<=n->lo k<=r k
 high:∀ k,k<=n->r k<=hi k
 up:∀ k,0<k->k<n->r k-r (k-1)<r (k+1)-r k->r k=hi k
 down:∀ k,0<k->k<n->r (k+1)-r k<r k-r (k-1)->r k=lo k
theorem Taut.le {lo hi r lo' hi' r':Nat->Rat} {n:Nat} (a:Taut lo hi r n) (b:Taut lo' hi' r' n) (hl:∀ k,k<=n->lo k<=lo' k) (hh:∀ k,k<=n->hi k<=hi' k) (h0:r 0<=r' 0) (hn:r n<=r' n):∀ k,k<=n->r k<=r' k:=by
 intro k hk;have:=maxp (fun k=>r k-r' k) n (by grind) (by grind) (fun k k0 kn hd=>?_) k hk
 ·grind
 ·have l1:=hl k %[|5];have l2:=hh k %[|5];have l3:=b.low k %[|5];have l4:=a.high k %[|5];have l5:=a.low k %[|5];have l6:=b.high k %[|5]
  have u:=b.up k k0 kn;have d:=a.down k k0 kn;by_cases h1:r (k+1)-r k<r k-r (k-1)
  ·have:=d h1;grind
  ·by_cases h2:r' k-r' (k-1)<r' (k+1)-r' k
   ·have:=u h2;grind
   ·grind
theorem Taut.unique {lo hi r r':Nat->Rat} {n:Nat} (a:Taut lo hi r n) (b:Taut lo hi r' n) (h0:r 0=r' 0) (hn:r n=r' n):∀ k,k<=n->r k=r' k:=by
 intro k hk;have x:=a.le b (fun _ _=>by grind) (fun _ _=>by grind) (by grind) (by grind) k hk;have y:=b.le a (fun _ _=>by grind) (fun _ _=>by grind) (by grind) (by grind) k hk;grind
noncomputable def line (b:Nat) (h s:Rat) (t:Nat):Rat:=h+s*((t:Rat)-(b:Rat))
structure Free (lo hi:Nat->Rat) (b:Nat) (h s:Rat) (e:Nat):Prop where
 low:∀ t,b<t->t<e->lo t<=line b h s t
 high:∀ t,b<t->t<e->line b h s t<=hi t
inductive Seg (lo hi:Nat->Rat) (n b:Nat) (h s:Rat) (p:Nat):Prop
 | up (at_:Nat) (hb:b<p) (hp:p<at_) (hn:at_<=n) (f:Free lo hi b h s at_) (t:line b h s p=hi p) (g:∀ t,p<t->t<at_->line b h s t<hi t) (z:line b h s at_<lo at_)
 | down (at_:Nat) (hb:b<p) (hp:p<at_) (hn:at_<=n) (f:Free lo hi b h s at_) (t:line b h s p=lo p) (g:∀ t,p<t->t<at_->lo t<line b h s t) (z:hi at_<line b h s at_)
 | fin (hb:b<p) (hp:p=n) (f:Free lo hi b h s (n+1))
theorem U6 (b:Nat) (h s:Rat) (p t:Nat):line p (line b h s p) s t=line b h s t:=by unfold line;grind
theorem AJ {b:Nat} {h s s':Rat} {t:Nat} (hb:b<t) (hl:line b h s t<line b h s' t):s<s':=by
 unfold line at hl;have hp:(0:Rat)<(t:Rat)-(b:Rat):=by
  have:(b:Rat)<(t:Rat):=by exact_mod_cast hb
  grind
 have h1:s*((t:Rat)-b)<s'*((t:Rat)-b):=by grind
 apply Decidable.byContradiction;intro hn;have:s'<=s:=by grind
 have:=Rat.mul_le_mul_of_nonneg_right this (Rat.le_of_lt hp);grind
theorem Seg.after_up {lo hi:Nat->Rat} {n b:Nat} {h s:Rat} {p at_ q:Nat} {s':Rat} (ok:∀ t,t<=n->lo t<=hi t) (hp:p<at_) (hn:at_<=n) (f:Free lo hi b h s at_) (hb:b<p)
  (g:∀ t,p<t->t<at_->line b h s t<hi t) (z:line b h s at_<lo at_) (S:Seg lo hi n p (line b h s p) s' q):s<s':=by
 have key:∀ t,p<t->line b h s t<line p (line b h s p) s' t->s<s':=fun t ht hl=>by
  rw[<- U6 b h s p t] at hl;exact AJ ht hl
 cases S with
 | up a2 h1 h2 h3 f2 t2 g2 z2 =>
  by_cases hq:q<at_
  ·exact key q h1 (by rw[t2];exact g q h1 hq)
  ·have:=f2.low at_ hp %[|5]
   exact key at_ hp (by grind)
 | down a2 h1 h2 h3 f2 t2 g2 z2 =>
  by_cases ha:a2<at_
  ·have:=g a2 %[|5] ha
   exact key a2 %[|5] (by grind)
  ·by_cases he:at_<a2
   ·have:=f2.low at_ hp he
    exact key at_ hp (by grind)
   ·have e:at_=a2:=by omega
    subst e;have:=ok at_ hn;exact key at_ hp (by grind)
 | fin h1 h2 f2 =>
  have:=f2.low at_ hp %[|5];exact key at_ hp (by grind)
theorem Seg.after_down {lo hi:Nat->Rat} {n b:Nat} {h s:Rat} {p at_ q:Nat} {s':Rat} (ok:∀ t,t<=n->lo t<=hi t) (hp:p<at_) (hn:at_<=n) (f:Free lo hi b h s at_) (hb:b<p)
  (g:∀ t,p<t->t<at_->lo t<line b h s t) (z:hi at_<line b h s at_) (S:Seg lo hi n p (line b h s p) s' q):s'<s:=by
 have key:∀ t,p<t->line p (line b h s p) s' t<line b h s t->s'<s:=fun t ht hl=>by
  rw[<- U6 b h s p t] at hl;exact AJ ht hl
 cases S with
 | up a2 h1 h2 h3 f2 t2 g2 z2 =>
  by_cases ha:a2<at_
  ·have:=g a2 %[|5] ha
   exact key a2 %[|5] (by grind)
  ·by_cases he:at_<a2
   ·have:=f2.high at_ hp he
    exact key at_ hp (by grind)
   ·have e:at_=a2:=by omega
    subst e;have:=ok at_ hn;exact key at_ hp (by grind)
 | down a2 h1 h2 h3 f2 t2 g2 z2 =>
  by_cases hq:q<at_
  ·exact key q h1 (by rw[t2];exact g q h1 hq)
  ·have:=f2.high at_ hp %[|5]
   exact key at_ hp (by grind)
 | fin h1 h2 f2 =>
  have:=f2.high at_ hp %[|5];exact key at_ hp (by grind)
structure Drawn (lo hi r:Nat->Rat) (n b:Nat):Prop where
 le:b<=n
 low:∀ k,k<=b->lo k<=r k
 high:∀ k,k<=b->r k<=hi k
 up:∀ k,0<k->k<b->r k-r (k-1)<r (k+1)-r k->r k=hi k
 down:∀ k,0<k->k<b->r (k+1)-r k<r k-r (k-1)->r k=lo k
 pend:b=0\/b=n\/∃ a h s,a<b/\r b-r (b-1)=s/\r b=line a h s b/\Seg lo hi n a h s b
theorem U5 (b:Nat) (h s:Rat) (t:Nat) (ht:0<t):line b h s t-line b h s (t-1)=s:=by
 unfold line;have:((t-1:Nat):Rat)=(t:Rat)-1:=by
  obtain⟨k,rfl⟩:∃ k,t=k+1:=⟨t-1,by omega⟩;rw[Nat.add_sub_cancel];have:((k+1:Nat):Rat)=(k:Rat)+1:=by push_cast;rfl
  grind
 grind
theorem Fg (b:Nat) (h s:Rat):line b h s b=h:=by unfold line;grind
theorem Drawn.next {lo hi r:Nat->Rat} {n b:Nat} (D:Drawn lo hi r n b) (hb:b<n) (ok:∀ t,t<=n->lo t<=hi t) (tie:lo n=hi n) {s:Rat} {p:Nat} (S:Seg lo hi n b (r b) s p) (hr:∀ t,b<t->t<=p->r t=line b (r b) s t):Drawn lo hi r n p:=by
 have hbp:b<p/\p<=n:=by cases S<;>omega
 have bnd:∀ t,b<t->t<=p->lo t<=line b (r b) s t/\line b (r b) s t<=hi t:=fun t h1 h2=>by
  cases S with
  | up a _ h4 _ f=>exact⟨f.low t h1 %[|5],f.high t h1 %[|5]⟩
  | down a _ h4 _ f=>exact⟨f.low t h1 %[|5],f.high t h1 %[|5]⟩
  | fin _ h4 f=>exact⟨f.low t h1 %[|5],f.high t h1 %[|5]⟩
 have st:∀ t,b<t->t<=p->r t-r (t-1)=s:=fun t h1 h2=>by
  rw[hr t h1 h2];by_cases h3:b<t-1
  ·rw[hr (t-1) h3 %[|5]];exact U5 _ _ _ _ %[|5]
  ·have e:t-1=b:=by omega
   rw[e];have:=U5 b (r b) s t %[|5];rw[e,Fg] at this;exact this
 have atb:0<b->(r b-r (b-1)<s->r b=hi b)/\(s<r b-r (b-1)->r b=lo b):=fun h0=>by
  rcases D.pend with z|z|⟨a,h,s0,ha,e1,e2,S0⟩
  ·omega
  ·omega
  ·rw[e2] at S
   cases S0 with
   | up x h1 h2 h3 f t g zz =>
    have:=Seg.after_up ok h2 h3 f h1 g zz S;exact⟨fun _=>by rw[e2];exact t,fun z=>by grind⟩
   | down x h1 h2 h3 f t g zz =>
    have:=Seg.after_down ok h2 h3 f h1 g zz S;exact⟨fun z=>by grind,fun _=>by rw[e2];exact t⟩
   | fin h1 h2 f=>omega
 refine⟨hbp.2,fun k hk=>?_,fun k hk=>?_,fun k k0 kp z=>?_,fun k k0 kp z=>?_,?_⟩
 ·by_cases h:k<=b
  ·exact D.low k h
  ·rw[hr k %[|5] hk];exact (bnd k %[|5] hk).1
 ·by_cases h:k<=b
  ·exact D.high k h
  ·rw[hr k %[|5] hk];exact (bnd k %[|5] hk).2
 ·by_cases h:k<b
  ·exact D.up k k0 h z
  ·have n1:=st (k+1) %[|5] %[|5]
   rw[Nat.add_sub_cancel] at n1;by_cases h2:k=b
   ·subst h2;exact (atb k0).1 (by grind)
   ·have n2:=st k %[|5] %[|5]
    grind
 ·by_cases h:k<b
  ·exact D.down k k0 h z
  ·have n1:=st (k+1) %[|5] %[|5]
   rw[Nat.add_sub_cancel] at n1;by_cases h2:k=b
   ·subst h2;exact (atb k0).2 (by grind)
   ·have n2:=st k %[|5] %[|5]
    grind
 ·by_cases hpn:p=n
  ·exact .inr (.inl hpn)
  ·exact .inr (.inr ⟨b,r b,s,hbp.1,st p hbp.1 %[|3],hr p hbp.1 %[|3],S⟩)
theorem Drawn.start {lo hi r:Nat->Rat} {n:Nat} (h:lo 0<=r 0) (h':r 0<=hi 0):Drawn lo hi r n 0:=by
 refine⟨Nat.zero_le _,fun k hk=>?_,fun k hk=>?_,fun k a b=>by omega,fun k a b=>by omega,.inl rfl⟩
 ·obtain rfl:k=0:=by omega
  exact h
 ·obtain rfl:k=0:=by omega
  exact h'
theorem Drawn.congr {lo hi r r':Nat->Rat} {n b:Nat} (D:Drawn lo hi r n b) (h:∀ k,k<=b->r k=r' k):Drawn lo hi r' n b:=by
 refine⟨D.le,fun k hk=>by rw[<- h k hk];exact D.low k hk,fun k hk=>by rw[<- h k hk];exact D.high k hk,fun k k0 kb z=>?_,fun k k0 kb z=>?_,?_⟩
 ·rw[<- h k %[|5]];rw[<- h k %[|5],<- h (k-1) %[|5],<- h (k+1) %[|5]] at z;exact D.up k k0 kb z
 ·rw[<- h k %[|5]];rw[<- h k %[|5],<- h (k-1) %[|5],<- h (k+1) %[|5]] at z;exact D.down k k0 kb z
 ·rcases D.pend with z|z|⟨a,hh,s,h1,h2,h3,h4⟩
  ·exact .inl z
  ·exact .inr (.inl z)
  ·exact .inr (.inr ⟨a,hh,s,h1,by rw[<- h b %[|5],<- h (b-1) %[|5]];exact h2,by rw[<- h b %[|5]];exact h3,h4⟩)
theorem Drawn.taut {lo hi r:Nat->Rat} {n:Nat} (D:Drawn lo hi r n n):Taut lo hi r n:=⟨D.low,D.high,D.up,D.down⟩
noncomputable def Yc (b:Nat) (h:Rat) (t:Nat) (x:Rat):Rat:=(x-h) / ((t:Rat)-(b:Rat))
theorem W9 {b t:Nat} (hb:b<t):(0:Rat)<(t:Rat)-(b:Rat):=by
 have:(b:Rat)<(t:Rat):=by exact_mod_cast hb
 grind
theorem Ym {b t:Nat} (h x:Rat) (hb:b<t):line b h (Yc b h t x) t=x:=by
 have:=W9 hb;unfold line Yc;grind
theorem Xr {b t:Nat} {h s s':Rat} (hb:b<t):line b h s t<=line b h s' t ↔ s<=s':=by
 constructor
 ·intro q
  apply Decidable.byContradiction;intro hn;have h1:s'<s:=by grind
  have h2:=Rat.mul_lt_mul_of_pos_right h1 (W9 hb);unfold line at q;grind
 ·intro q
  have h2:=Rat.mul_le_mul_of_nonneg_right q (Rat.le_of_lt (W9 hb));unfold line;grind
theorem WK {b t:Nat} {h s s':Rat} (hb:b<t):line b h s t<line b h s' t ↔ s<s':=by
 have:=Xr (h:=h) (s:=s') (s':=s) hb;grind
theorem Jd {b t:Nat} {h s x:Rat} (hb:b<t):Yc b h t x<=s ↔ x<=line b h s t:=by
 rw[<- Xr (h:=h) hb,Ym h x hb]
theorem Xq {b t:Nat} {h s x:Rat} (hb:b<t):s<Yc b h t x ↔ line b h s t<x:=by
 rw[<- WK (h:=h) hb,Ym h x hb]
theorem Xp {b t:Nat} {h s x:Rat} (hb:b<t):Yc b h t x<s ↔ x<line b h s t:=by
 rw[<- WK (h:=h) hb,Ym h x hb]
structure Scan (lo hi:Nat->Rat) (b:Nat) (h:Rat) (la ha:Nat) (SL FH:Rat) (e:Nat):Prop where
 la0:b<la
 la1:la<e
 laE:SL=Yc b h la (lo la)
 lo_le:∀ t,b<t->t<e->lo t<=line b h SL t
 lo_lt:∀ t,la<t->t<e->lo t<line b h SL t
 ha0:b<ha
 ha1:ha<e
 haE:FH=Yc b h ha (hi ha)
 hi_le:∀ t,b<t->t<e->line b h FH t<=hi t
 hi_lt:∀ t,ha<t->t<e->line b h FH t<hi t
 le:SL<=FH
theorem Ze {b t:Nat} {h s s':Rat} (hb:b<t) (q:s<=s'):line b h s t<=line b h s' t:=(Xr hb).mpr q
theorem Scan.first {lo hi:Nat->Rat} {b:Nat} {h:Rat} (ok:lo (b+1)<=hi (b+1)):Scan lo hi b h (b+1) (b+1) (Yc b h (b+1) (lo (b+1))) (Yc b h (b+1) (hi (b+1))) (b+2):=by
 have one:∀ t,b<t->t<b+2->t=b+1:=fun t a c=>by omega
 have hb:b<b+1:=by omega
 refine⟨hb,by omega,rfl,fun t a c=>?_,fun t a c=>by omega,hb,by omega,rfl,fun t a c=>?_,fun t a c=>by omega,?_⟩
 ·rw[one t a c,Ym _ _ hb];grind
 ·rw[one t a c,Ym _ _ hb];grind
 ·rw[Jd hb,Ym _ _ hb];exact ok
theorem Scan.up {lo hi:Nat->Rat} {b la ha e n:Nat} {h SL FH:Rat} (S:Scan lo hi b h la ha SL FH e) (he:e<=n) (hz:FH<Yc b h e (lo e)):Seg lo hi n b h FH ha:=by
 have hbe:b<e:=Nat.lt_trans S.ha0 S.ha1;refine .up e S.ha0 S.ha1 he ⟨fun t a c=>?_,S.hi_le⟩ (by rw[S.haE,Ym _ _ S.ha0]) S.hi_lt ((Xq hbe).mp hz);have:=S.lo_le t a c;have:=Ze (h:=h) a S.le;grind
theorem Scan.down {lo hi:Nat->Rat} {b la ha e n:Nat} {h SL FH:Rat} (S:Scan lo hi b h la ha SL FH e) (he:e<=n) (hz:Yc b h e (hi e)<SL):Seg lo hi n b h SL la:=by
 have hbe:b<e:=Nat.lt_trans S.la0 S.la1;refine .down e S.la0 S.la1 he ⟨S.lo_le,fun t a c=>?_⟩ (by rw[S.laE,Ym _ _ S.la0]) S.lo_lt ((Xp hbe).mp hz);have:=S.hi_le t a c;have:=Ze (h:=h) a S.le;grind
theorem Scan.step {lo hi:Nat->Rat} {b la ha e:Nat} {h SL FH:Rat} (S:Scan lo hi b h la ha SL FH e) (ok:lo e<=hi e) (h1:¬ FH<Yc b h e (lo e)) (h2:¬ Yc b h e (hi e)<SL) :
  Scan lo hi b h (if Yc b h e (lo e)<SL then la else e) (if FH<Yc b h e (hi e) then ha else e) (if Yc b h e (lo e)<SL then SL else Yc b h e (lo e)) (if FH<Yc b h e (hi e) then FH else Yc b h e (hi e)) (e+1):=by
 have hbe:b<e:=Nat.lt_trans S.la0 S.la1;have oks:Yc b h e (lo e)<=Yc b h e (hi e):=by rw[Jd hbe,Ym _ _ hbe];exact ok
 have sp:∀ t,t<e+1->t<e\/t=e:=fun t a=>by omega
 have lle:=S.le;by_cases c1:Yc b h e (lo e)<SL<;>by_cases c2:FH<Yc b h e (hi e)
 ·rw[if_pos c1,if_pos c2,if_pos c1,if_pos c2]
  refine⟨S.la0,by have:=S.la1;omega,S.laE,fun t a c=>?_,fun t a c=>?_,S.ha0,by have:=S.ha1;omega,S.haE,fun t a c=>?_,fun t a c=>?_,lle⟩
  ·rcases sp t c with q|rfl
   ·exact S.lo_le t a q
   ·exact Rat.le_of_lt ((Xp a).mp c1)
  ·rcases sp t c with q|rfl
   ·exact S.lo_lt t a q
   ·exact (Xp hbe).mp c1
  ·rcases sp t c with q|rfl
   ·exact S.hi_le t a q
   ·exact Rat.le_of_lt ((Xq a).mp c2)
  ·rcases sp t c with q|rfl
   ·exact S.hi_lt t a q
   ·exact (Xq hbe).mp c2
 ·rw[if_pos c1,if_neg c2,if_pos c1,if_neg c2]
  have c2':Yc b h e (hi e)<=FH:=by grind
  refine⟨S.la0,by have:=S.la1;omega,S.laE,fun t a c=>?_,fun t a c=>?_,hbe,by omega,rfl,fun t a c=>?_,fun t a c=>by omega,by grind⟩
  ·rcases sp t c with q|rfl
   ·exact S.lo_le t a q
   ·exact Rat.le_of_lt ((Xp a).mp c1)
  ·rcases sp t c with q|rfl
   ·exact S.lo_lt t a q
   ·exact (Xp hbe).mp c1
  ·rcases sp t c with q|rfl
   ·have:=S.hi_le t a q;have:=Ze (h:=h) a c2';grind
   ·rw[Ym _ _ a];grind
 ·rw[if_neg c1,if_pos c2,if_neg c1,if_pos c2]
  have c1':SL<=Yc b h e (lo e):=by grind
  refine⟨hbe,by omega,rfl,fun t a c=>?_,fun t a c=>by omega,S.ha0,by have:=S.ha1;omega,S.haE,fun t a c=>?_,fun t a c=>?_,by grind⟩
  ·rcases sp t c with q|rfl
   ·have:=S.lo_le t a q;have:=Ze (h:=h) a c1';grind
   ·rw[Ym _ _ a];grind
  ·rcases sp t c with q|rfl
   ·exact S.hi_le t a q
   ·exact Rat.le_of_lt ((Xq a).mp c2)
  ·rcases sp t c with q|rfl
   ·exact S.hi_lt t a q
   ·exact (Xq hbe).mp c2
 ·rw[if_neg c1,if_neg c2,if_neg c1,if_neg c2]
  have c1':SL<=Yc b h e (lo e):=by grind
  have c2':Yc b h e (hi e)<=FH:=by grind
  refine⟨hbe,by omega,rfl,fun t a c=>?_,fun t a c=>by omega,hbe,by omega,rfl,fun t a c=>?_,fun t a c=>by omega,oks⟩
  ·rcases sp t c with q|rfl
   ·have:=S.lo_le t a q;have:=Ze (h:=h) a c1';grind
   ·rw[Ym _ _ a];grind
  ·rcases sp t c with q|rfl
   ·have:=S.hi_le t a q;have:=Ze (h:=h) a c2';grind
   ·rw[Ym _ _ a];grind
theorem Scan.fin {lo hi:Nat->Rat} {b la ha n:Nat} {h SL FH:Rat} (S:Scan lo hi b h la ha SL FH (n+1)) (tie:lo n=hi n):ha=n/\la=n/\FH=Yc b h n (hi n)/\Seg lo hi n b h FH n:=by
 have hbn:b<n:=by have:=S.la0;have:=S.la1;omega
 have l1:=S.lo_le n hbn %[|5];have l2:=S.hi_le n hbn %[|5];have l3:=Ze (h:=h) hbn S.le;have e1:line b h FH n=hi n:=by grind
 have hh:ha=n:=by
  apply Decidable.byContradiction;intro hne;have:=S.hi_lt n (by have:=S.ha1;omega) %[|5];grind
 have hl:la=n:=by
  apply Decidable.byContradiction;intro hne;have:=S.lo_lt n (by have:=S.la1;omega) %[|5];grind
 have eF:FH=Yc b h n (hi n):=by rw[<- hh];exact S.haE
 have eL:SL=Yc b h n (lo n):=by rw[<- hl];exact S.laE
 refine⟨hh,hl,eF,.fin hbn rfl ⟨fun t a c=>?_,S.hi_le⟩⟩;have:=S.lo_le t a c;rw[eF,<- tie,<- eL];exact this
end Q
end
noncomputable section
namespace Q
abbrev Fall (v:List Rat):Prop:=v.Pairwise fun a b=>b<=a
theorem VE:∀ {u v:List Rat},u.Perm v->Fall u->Fall v->u=v
 | [],v,p,_,_=>by rw[List.nil_perm.mp p]
 | a::u,[],p,_,_=>by have:=p.length_eq;simp at this
 | a::u,b::v,p,hu,hv=>by
  have h1:b<=a:=by
   rcases List.mem_cons.mp (p.symm.subset (List.mem_cons_self:b∈b::v)) with h|h
   ·rw[h];exact Rat.le_refl
   ·exact (List.pairwise_cons.mp hu).1 b h
  have h2:a<=b:=by
   rcases List.mem_cons.mp (p.subset (List.mem_cons_self:a∈a::u)) with h|h
   ·rw[h];exact Rat.le_refl
   ·exact (List.pairwise_cons.mp hv).1 a h
  have e:a=b:=Rat.le_antisymm h2 h1;subst e;rw[VE (List.Perm.cons_inv p) (List.pairwise_cons.mp hu).2 (List.pairwise_cons.mp hv).2]
noncomputable def srt (s:List Rat):List Rat:=s.mergeSort fun a b=>decide (b<=a)
theorem Vk (s:List Rat):Fall (srt s):=by
 have:=List.pairwise_mergeSort (le:=fun a b:Rat=>decide (b<=a)) (fun a b c h1 h2=>by
  simp only[decide_eq_true_eq] at *;exact Rat.le_trans h2 h1) (fun a b=>by
  simp only[Bool.or_eq_true,decide_eq_true_eq];exact Rat.le_total) s
 exact this.imp fun h=>by simpa using h
theorem Yq (s:List Rat):(srt s).Perm s:=List.mergeSort_perm s _
theorem A4 {s v:List Rat} (p:v.Perm s) (h:Fall v):v=srt s:=VE (p.trans (Yq s).symm) h (Vk s)
theorem JB {u v:List Rat} {x:Rat} (h:Fall (u++v)) (hu:∀ a∈u,x<=a) (hv:∀ a∈v,a<=x):Fall (u++x::v):=by
 obtain⟨h1,h2,h3⟩:=List.pairwise_append.mp h;refine List.pairwise_append.mpr ⟨h1,List.pairwise_cons.mpr ⟨hv,h2⟩,fun a ha b hb=>?_⟩;rcases List.mem_cons.mp hb with rfl|hb
 ·exact hu a ha
 ·exact h3 a ha b hb
noncomputable def tot (s:List Rat):Rat:=s.foldl (·+·) 0
theorem By (s:List Rat):∀ q:Rat,s.foldl (·+·) q=q+tot s:=by
 induction s with
 | nil=>intro q;unfold tot;simp;grind
 | cons a s ih=>intro q;unfold tot;simp only[List.foldl_cons];rw[ih,ih];grind
theorem Y3 (a:Rat) (s:List Rat):tot (a::s)=a+tot s:=by
 unfold tot;simp only[List.foldl_cons];rw[By];unfold tot;grind
theorem Xa (s t:List Rat):tot (s++t)=tot s+tot t:=by
 induction s with
 | nil=>unfold tot;simp;grind
 | cons a s ih=>rw [List.cons_append,Y3,Y3,ih];grind
theorem Vb {s t:List Rat} (p:s.Perm t):tot s=tot t:=by
 induction p with
 | nil=>rfl
 | cons a _ ih=>rw [Y3,Y3,ih]
 | swap a b s=>rw [Y3,Y3,Y3,Y3];grind
 | trans _ _ i1 i2=>rw [i1,i2]
noncomputable def Zp (q:Rat):List Rat->List Rat
 | []=>[]
 | a::s=>(q+a)::Zp (q+a) s
theorem W8 (t:List Rat):∀ (q:Rat) (s:List Rat),Zp q (s++t)=Zp q s++Zp (q+tot s) t
 | q,[]=>by show Zp q t=[]++Zp (q+0) t;rw[Rat.add_zero];rfl
 | q,a::s=>by
  show (q+a)::Zp (q+a) (s++t)=(q+a)::Zp (q+a) s++_;rw[W8 t (q+a) s,Y3];rw[show q+a+tot s=q+(a+tot s) by grind]
  rfl
theorem Wu:∀ (q:Rat) (s:List Rat),(Zp q s).length=s.length
 | _,[]=>rfl
 | q,a::s=>by show (Zp (q+a) s).length+1=_;rw[Wu];rfl
theorem Bx (s:List Rat) (a:Rat):Zp 0 (s++[a])=Zp 0 s++[tot s+a]:=by
 rw[W8];show _++[0+tot s+a]=_;rw[Rat.zero_add]
theorem Xb (s:List Rat) (a:Rat):tot (s++[a])=tot s+a:=by
 rw[Xa,Y3];unfold tot;simp;grind
end Q
end
noncomputable section
namespace Q
theorem tri (a b:Rat):a<b\/a=b\/b<a:=by
 by_cases h:a<b
 ·exact .inl h
 ·by_cases h2:b<a
  ·exact .inr (.inr h2)
  ·exact .inr (.inl (by grind))
noncomputable def fs (f:Rat->Rat) (r:Nat->Rat):Nat->Rat
 | 0=>0
 | m+1=>fs f r m+f (r (m+1)-r m)
theorem Vi {a b d:Rat} (h1:a<b->d<=0) (h2:b<a->0<=d):0<=(a-b)*d:=by
 rcases tri a b with h|h|h
 ·have:=h1 h
  have:=Rat.mul_nonneg (show 0<=b-a by grind) (show 0<=-d by grind);grind
 ·subst h;grind
 ·exact Rat.mul_nonneg (by grind) (h2 h)
theorem Taut.conv {lo hi r:Nat->Rat} {n:Nat} (T:Taut lo hi r n) {f g:Rat->Rat} (hf:∀ u v,f u+g u*(v-u)<=f v) (hg:∀ u v,u<v->g u<=g v) {o:Nat->Rat} (ol:∀ k,k<=n->lo k<=o k) (oh:∀ k,k<=n->o k<=hi k) (h0:o 0=r 0) :
  ∀ m,m<n->fs f r (m+1)+g (r (m+1)-r m)*(o (m+1)-r (m+1))<=fs f o (m+1)
 | 0,_=>by
  have:=hf (r 1-r 0) (o 1-o 0);show 0+f (r 1-r 0)+_<=0+f (o 1-o 0);rw[h0] at this ⊢;have e:g (r 1-r 0)*(o 1-r 0-(r 1-r 0))=g (r (0+1)-r 0)*(o (0+1)-r (0+1)):=by
   show _=g (r 1-r 0)*(o 1-r 1)
   congr 1;grind
  grind
 | m+1,hm=>by
  have ih:=T.conv hf hg ol oh h0 m %[|5];have:=hf (r (m+2)-r (m+1)) (o (m+2)-o (m+1));have key:0<=(g (r (m+1)-r m)-g (r (m+2)-r (m+1)))*(o (m+1)-r (m+1)):=by
   refine Vi (fun h=>?_) fun h=>?_
   ·have hlt:r (m+1)-r m<r (m+2)-r (m+1):=by
     apply Decidable.byContradiction;intro hn;rcases tri (r (m+2)-r (m+1)) (r (m+1)-r m) with z|z|z
     ·have:=hg _ _ z;grind
     ·rw[z] at h;grind
     ·exact hn z
    have:=T.up (m+1) %[|5] %[|5] hlt;have:=oh (m+1) %[|5];grind
   ·have hlt:r (m+2)-r (m+1)<r (m+1)-r m:=by
     apply Decidable.byContradiction;intro hn;rcases tri (r (m+2)-r (m+1)) (r (m+1)-r m) with z|z|z
     ·exact hn z
     ·rw[z] at h;grind
     ·have:=hg _ _ z;grind
    have:=T.down (m+1) %[|5] %[|5] hlt;have:=ol (m+1) %[|5];grind
  show fs f r (m+1)+f (r (m+2)-r (m+1))+_<=fs f o (m+1)+f (o (m+2)-o (m+1));generalize g (r (m+1)-r m)=G at *;generalize hG:g (r (m+2)-r (m+1))=G' at *;generalize fs f r (m+1)=A at *;generalize fs f o (m+1)=B at *;generalize f (r (m+2)-r (m+1))=F1 at *;generalize f (o (m+2)-o (m+1))=F2 at *;have e:(G-G')*(o (m+1)-r (m+1))=G*(o (m+1)-r (m+1))-G'*(o (m+1)-r (m+1)):=by grind
  have e2:G'*(o (m+2)-o (m+1)-(r (m+2)-r (m+1)))=G'*(o (m+2)-r (m+2))-G'*(o (m+1)-r (m+1)):=by grind
  show A+F1+G'*(o (m+2)-r (m+2))<=B+F2;grind
theorem Taut.best {lo hi r:Nat->Rat} {n:Nat} (T:Taut lo hi r n) {f g:Rat->Rat} (hf:∀ u v,f u+g u*(v-u)<=f v) (hg:∀ u v,u<v->g u<=g v) {o:Nat->Rat} (ol:∀ k,k<=n->lo k<=o k) (oh:∀ k,k<=n->o k<=hi k) (h0:o 0=r 0) (hn:o n=r n):fs f r n<=fs f o n:=by
 cases n with
 | zero=>exact Rat.le_refl
 | succ m =>
  have:=T.conv hf hg ol oh h0 m %[|5];rw[hn,show r (m+1)-r (m+1)=0 by grind,Rat.mul_zero] at this;grind
end Q
end
noncomputable section
namespace K
open PySem DL
abbrev ends (R E:DK):DEnds:={nx:=fun _ M'=>R .non M',rt:=R,ex:=fun _=>E}
theorem JA {g:(DSt->DK)->DG} {tb:DS} {keep:Mem->Prop} {D:DEnds} (I:DSt->Mem->Prop) (hk:∀ δ M,I δ M->keep M) (he:∀ δ M,I δ M->D.nx δ M):∀ {items:List DL.D},
  (∀ x∈items,∀ N:DSt->Mem->Prop,(∀ δ M,I δ M->N δ M)->∀ δ M,I δ M->g D.ex x δ M fun δ1 M1=>tb {D with nx:=N,ct:=N,bk:=D.nx} δ1 M1)->∀ {δ M},I δ M->forD g tb keep items D δ M
 | [],_,δ,M,i=>he δ M i
 | x::xs,h,δ,M,i=>by
  unfold forD;exact h x List.mem_cons_self _ (fun δ' M' i'=>⟨hk δ' M' i',JA I hk he (fun y hy=>h y (List.mem_cons_of_mem _ hy)) i'⟩) δ M i
theorem YA {g:(DSt->DK)->DG} {tb:DS} {keep:Mem->Prop} {D:DEnds}:∀ {items:List DL.D} (I:Nat->DSt->Mem->Prop),(∀ i δ M,I i δ M->keep M)->(∀ δ M,I items.length δ M->D.nx δ M) ->
  (∀ i x,items[i]?=some x->∀ N:DSt->Mem->Prop,(∀ δ M,I (i+1) δ M->N δ M)->∀ δ M,I i δ M->g D.ex x δ M fun δ1 M1=>tb {D with nx:=N,ct:=N,bk:=D.nx} δ1 M1)->∀ {δ M},I 0 δ M->forD g tb keep items D δ M
 | [],I,hk,he,ht,δ,M,h0=>he δ M h0
 | x::xs,I,hk,he,ht,δ,M,h0=>by
  unfold forD;exact ht 0 x rfl _ (fun δ' M' i'=>⟨hk _ δ' M' i',YA (fun i=>I (i+1)) (fun i=>hk (i+1)) he (fun i y hy N hN=>ht (i+1) y (by simpa using hy) N hN) i'⟩) δ M h0
theorem Xx (h:(rngD lo c n)[i]?=some x):x=.int (lo+i*c)/\i<n:=by
 unfold rngD at h;rw[List.getElem?_map] at h;cases q:(List.range n)[i]? with
 | none=>rw [q] at h;cases h
 | some j =>
  obtain⟨h1,h2⟩:=List.getElem?_eq_some_iff.mp q;rw[q] at h;cases h;simp at h1 h2;subst h2;exact⟨rfl,h1⟩
theorem Zx:(rngD lo c n).length=n:=by simp[rngD]
theorem XR (f:DL.D->DL.D) (I:DSt->Prop) (h0:M0 p=none) (hk:∀ M,MExt M0 M->keep M) :
  ∀ {items acc:List DL.D},(∀ x∈items,∀ δ M (R:DSt->DK),I δ->MExt M0 M->(∀ δ1 M',I δ1->MExt M M'->R δ1 (f x) M')->g x δ M fun δ1 M1=>te δ1 M1 fun d M2=>R δ1 d M2) ->
  (acc++items.map f).length<=1000->(∀ M',MExt M0 M'->M' p=some (.ls (acc++items.map f))->Q M')->∀ {δ M},I δ->MExt M0 M->M p=some (.ls acc)->Za g te keep p items acc δ M Q
 | [],acc,_,_,q,δ,M,i,e,l=>by unfold Za;exact q M e (by simpa using l)
 | x::xs,acc,h,hz,q,δ,M,i,e,l=>by
  unfold Za;refine h x List.mem_cons_self δ M (fun δ1 d M2=>M2 p=some (.ls acc)/\acc.length<sizeLine/\keep (M2.upd p (.ls (acc++[d])))/\Za g te keep p xs (acc++[d]) δ1 (M2.upd p (.ls (acc++[d]))) Q) i e fun δ1 M' i' e'=>?_;have e2:MExt M0 (M'.upd p (.ls (acc++[f x]))):=fun a o z=>by
   have:a≠p:=fun q=>by rw[q,h0] at z;cases z
   rw[Yv this];exact e' _ _ (e _ _ z)
  refine⟨e' _ _ l,?_,hk _ e2,XR f I h0 hk (fun y hy=>h y (List.mem_cons_of_mem _ hy)) (by simpa using hz) (fun M2 e3 l3=>q M2 e3 (by simpa using l3)) i' e2 mupd_same⟩;rw[sizeLine_eq];simp at hz;omega
theorem MExt.none (e:MExt M M') (h:M' p=Option.none):M p=Option.none:=by
 cases q:M p with
 | none=>rfl
 | some o=>rw [e _ _ q] at h;cases h
theorem YG (x:α) (l:List α):L2.atI (x::l) 0=some x:=L2.atI_nat (j:=0) rfl
theorem V7 (h:k.natAbs<2 ^ n):Builtin.Int.intBits k<=n:=by
 unfold Builtin.Int.intBits;split
 ·exact Nat.zero_le _
 ·rename_i h0
  have hp:k.natAbs≠0:=by intro z;apply h0;simp;omega
  have:=(Nat.log2_lt hp).mpr h;omega
theorem Xh (ha:a.natAbs<2 ^ m) (hb:b.natAbs<2 ^ n) (h:m+n<=134217728):IntMulOk a b:=IntMulOk.of_le (V7 ha) (V7 hb) h
theorem ZP (h:j≠0) (hj:j.natAbs<2 ^ 8000):Ut j:=⟨h,by
 have:j.natAbs≠0:=by omega
 have:=(Nat.log2_lt this).mpr hj;omega⟩
theorem Jy (h0:0<=x) (h1:0<y):Int.gcd y (x.fmod y)=Int.gcd x y:=by
 obtain⟨n,rfl⟩:=Int.eq_ofNat_of_zero_le h0;obtain⟨m,rfl⟩:=Int.eq_ofNat_of_zero_le (Int.le_of_lt h1);rw[Int.fmod_eq_emod_of_nonneg _ (Int.le_of_lt h1)];show Nat.gcd m (((n:Int) % (m:Int)).natAbs)=Nat.gcd n m;have:((n:Int) % (m:Int)).natAbs=n % m:=by
  rw[<- Int.natCast_emod];rfl
 rw[this,Nat.gcd_comm n m,Nat.gcd_comm m (n % m)];exact (Nat.gcd_rec m n).symm
theorem AS (a b:Int):Int.gcd (if a<0 then -a else a) (if b<0 then -b else b)=Int.gcd a b:=by
 unfold Int.gcd
 congr 1<;>split<;>omega
theorem ZF {x y:Int} (h:0<y):0<=x.fmod y/\x.fmod y<y:=by
 rw[Int.fmod_eq_emod_of_nonneg _ (Int.le_of_lt h)];exact⟨Int.emod_nonneg _ %[|5],Int.emod_lt_of_pos _ h⟩
theorem Yr {s:CS} {r:CSs} {D:DEnds} {δ:DSt} {M:Mem}:rSs (.cons s r) D δ M=rS s {D with nx:=rSs r D} δ M:=rfl
theorem Yh {D:DEnds} {δ:DSt} {M:Mem}:rSs .nil D δ M=D.nx δ M:=rfl
theorem YN (neg:Bool) (h:Q (.bl (if neg then !(i==j) else (i==j))) M):cEq neg (.int i) (.int j) M Q:=⟨_,_,.int i,.int j,by simp[PyData.depth],h⟩
noncomputable def S_1:DSp:=fun ds M Q _=>∃ a b:Int,ds=[.int a,.int b]/\Q (.int (Int.gcd a b)) M
noncomputable def C_1:CSs:=%[.par 0 1 (.bi .abs %[.var 0|0]) (.bi .abs %[.var 1|0]),.whl (.var 1) %[.par 0 1 (.var 1) (.bin .Mod (.var 0) (.var 1))|0],.ret (.var 0)|0]
theorem vc_1:∀ ds M R E,S_1 ds M R E->rSs C_1 (ends R E) (Y1 2 ds) M:=by
 rintro ds M R E ⟨a,b,rfl,h⟩;simp[0,C_1,rSs,Yn,vAt,vHd,Y7,Yp,Yl,YM,dFor,YQ,bMul,bAdd,iOp,sOp,fLen,Yd,Yo,fIsi,fAll,fAny,Yi,and_assoc,sizeLine_eq];refine⟨fun m δ M'=>∃ x y:Int,δ=[some (.int x),some (.int y)]/\M'=M/\0<=x/\0<=y/\Int.gcd x y=Int.gcd a b/\m=y.toNat,⟨_,_,_,rfl,rfl,?_,?_,?_,rfl⟩,?_⟩
 ·split<;>omega
 ·split<;>omega
 ·exact AS a b
 ·rintro m δ M' ⟨x,y,rfl,rfl,h0,h1,hg,rfl⟩
  simp[0,rSs,Yn,vAt,vHd,Y7,Yp,Yl,YM,dFor,YQ,bMul,bAdd,iOp,sOp,fLen,Yd,Yo,fIsi,fAll,fAny,Yi,and_assoc,sizeLine_eq];by_cases hy:y=0
  ·subst hy
   rw[if_pos rfl];rw[<- hg] at h;have e:((x.gcd 0:Nat):Int)=x:=by unfold Int.gcd;simp;omega
   rw[e] at h;exact h
  ·rw[if_neg hy]
   have yp:0<y:=by omega
   refine⟨fun δ' M1=>δ'=[some (.int y),some (.int (x.fmod y))]/\M1=M',?_,hy,rfl,rfl⟩;rintro δ' M1 ⟨rfl,rfl⟩;have:=ZF (x:=x) yp;exact⟨(x.fmod y).toNat,by omega,y,_,rfl,rfl,h1,this.1,by rw[Jy h0 yp];exact hg,rfl⟩
noncomputable def S_48:DSp:=fun ds M Q _=>∃ c:Int,ds=[.int c]/\Builtin.Int.intBits c<=2000000/\∀ r:Int,0<=r->r<10 ^ 60->Q (.int r) M
noncomputable def C_48:CSs:=%[.ret (.bin .Mod (.bin .Mult (.var 0) (.int 693147180559945309417232121458176568075500134360255254120681)) (.bin .Pow (.int 10) (.int 60)))|0]
theorem vc_48:∀ ds M R E,S_48 ds M R E->rSs C_48 (ends R E) (Y1 1 ds) M:=by
 rintro ds M R E ⟨c,rfl,hb,h⟩;simp[0,C_48,rSs,Yn,vAt,vHd,Y7,Yp,Yl,YM,dFor,YQ,bMul,bAdd,iOp,sOp,fLen,Yd,Yo,fIsi,fAll,fAny,Yi,and_assoc,sizeLine_eq];exact⟨IntMulOk.of_le hb (V7 (n:=300) %[|4]) %[|4],⟨by decide,by decide,by decide⟩,h _ (ZF %[|4]).1 (ZF %[|4]).2⟩
noncomputable def S_50:DSp:=fun ds M Q _=>∃ a n v,ds=[.lst a,.int n]/\M a=some (.ls [.int v])/\0<n/\n.natAbs<2 ^ 8000/\∀ r v':Int,0<=r->r<n->Q (.int r) (M.upd a (.ls [.int v']))
noncomputable def C_50:CSs:=%[.asg (.tup %[.sub (.var 0) (.int 0),.name 2|0]) (.bi .divmod %[.ix (.var 0) (.int 0),.var 1|0]),.ret (.var 2)|0]
theorem vc_50:∀ ds M R E,S_50 ds M R E->rSs C_50 (ends R E) (Y1 3 ds) M:=by
 rintro ds M R E ⟨a,n,v,rfl,ha,hn,hn2,h⟩;simp[0,C_50,rSs,Yn,vAt,vHd,Y7,Yp,Yl,YM,dFor,YQ,bMul,bAdd,iOp,sOp,fLen,Yd,Yo,fIsi,fAll,fAny,Yi,and_assoc,sizeLine_eq];refine⟨_,ha,.int v,rfl,?_⟩;have f:=ZF (x:=v) hn;simp[0,rSs,Yn,vAt,vHd,Y7,Yp,Yl,YM,dFor,YQ,bMul,bAdd,iOp,sOp,fLen,Yd,Yo,fIsi,fAll,fAny,Yi,and_assoc,sizeLine_eq];exact⟨ZP %[|5] hn2,_,ha,0,rfl,h _ _ f.1 f.2⟩
theorem FE (h:x∈cutG xs lo hi):x∈xs:=List.mem_of_mem_drop (List.mem_of_mem_take h)
theorem FF (xs:List α) (lo hi:Option Int):(cutG xs lo hi).length<=xs.length:=by
 unfold cutG;rw[List.length_take,List.length_drop];omega
theorem BI (ns:List Int) (lo hi:Option Int) (e:Int):∃ c,L2.atI (cutG (ns.map D.int) lo hi++[D.int e]) 0=some (.int c)/\(c∈ns\/c=e):=by
 cases q:cutG (ns.map D.int) lo hi with
 | nil=>exact⟨e,rfl,.inr rfl⟩
 | cons x r =>
  have:x∈ns.map D.int:=FE (lo:=lo) (hi:=hi) (by rw[q];exact List.mem_cons_self);obtain⟨c,hc,rfl⟩:=List.mem_map.mp this;exact⟨c,YG _ _,.inl hc⟩
theorem Jl (x:DL.D):[x].length<=sizeLine:=by rw[sizeLine_eq];exact (by decide:1<=16777216)
theorem BY (x y:DL.D):[x,y].length<=sizeLine:=by rw[sizeLine_eq];exact (by decide:2<=16777216)
theorem mulI (a:IntMulOk i j) (q:Q (.int (i*j)) M):bMul (.int i) (.int j) M Q:=⟨a,q⟩
theorem addI (q:Q (.int (i+j)) M):bAdd (.int i) (.int j) M Q:=q
noncomputable def S_49:DSp:=fun ds M Q _=>∃ (ns:List Int) (k:Int),ds=[.fz (ns.map .int),.int k]/\Script ns/\0<=k/\k<=1000/\∀ (v:Int) p M',M p=none->MExt M M'->M' p=some (.ls [.int v])->Q (.lst p) M'
noncomputable def C_49:CSs:=%[.set 2 (.int 0),.fr (.name 3) (.seq (.lst %[.bin .Add (.var 1) (.int 1),.var 1|0])) %[.set 2 (.bin .Add (.bin .Mult (.var 2) (.bin .Pow (.int 10) (.int 60))) (.call "_law_mixed" S_48 %[.ix (.bin .Add (.sl (.var 0) (.some (.var 3)) (.some (.bin .Add (.var 3) (.int 1)))) (.lst %[.bin .Add (.bin .Mult (.int 6841) (.var 3)) (.int 37)|0])) (.int 0)|0]))|0],.ret (.lst %[.var 2|0])|0]
theorem vc_49:∀ ds M R E,S_49 ds M R E->rSs C_49 (ends R E) (Y1 4 ds) M:=by
 rintro ds M R E ⟨ns,k,rfl,hs,h0,h1,h⟩;have turn:∀ (t found:Int) (M:Mem) (Q:DK),0<=t->t<=1001->found.natAbs<2 ^ 1000->(∀ v M',MExt M M'->v.natAbs<(found.natAbs+1)*10 ^ 60->Q (.int v) M') ->
   d2 bAdd (d2 bMul (dVar 2) (d2 (bInt L2.CPow fun i j=>i ^ j.toNat) (dC (D.int 10)) (dC (D.int 60))))
    (Zq S_48 (fun _=>E) (YX (d2 iOp (d2 bAdd (dSl (dVar 0) (JH (dVar 3)) (JH (d2 bAdd (dVar 3) (dC (D.int 1))))) (dLst (YX (d2 bAdd (d2 bMul (dC (D.int 6841)) (dVar 3)) (dC (D.int 37))) dNil))) (dC (D.int 0))) dNil))
    [some (.fz (ns.map D.int)),some (.int k),some (.int found),some (.int t)] M Q:=by
  intro t found M Q h0 h1 hf hN;dsimp only[d2,dVar,vAt,vHd,dC,Zq,YX,dNil,dLst,dSl,JH];refine⟨⟨by decide,by decide,by decide⟩,mulI (Xh hf (n:=300) %[|4] %[|4]) ⟨_,rfl,addI ⟨_,rfl,fun p1 M1 e1 x1 l1=>mulI (Xh (m:=64) (n:=64) %[|4] %[|5] %[|4]) (addI ⟨Jl _,fun p2 M2 e2 x2 l2=>⟨_,_,x2 _ _ l1,l2,?_,fun p3 M3 e3 x3 l3=>?_⟩⟩)⟩⟩⟩
  ·have:=FF (ns.map D.int) (some t) (some (t+1))
   rw[List.length_map] at this;have:=hs.len;rw[sizeLine_eq];show _+1<=_;omega
  obtain⟨c,hc,hm⟩:=BI ns (some t) (some (t+1)) (6841*t+37);refine⟨_,_,l3,hc,c,rfl,?_,fun r r0 r1=>addI ?_⟩
  ·rcases hm with hm|hm
   ·exact Nat.le_trans (hs.bits c hm) %[|4]
   ·subst hm;exact Nat.le_trans (V7 (n:=64) %[|5]) %[|4]
  ·refine hN _ M3 (x1.trans (x2.trans x3)) ?_
   have a1:=Int.natAbs_add_le (found*1000000000000000000000000000000000000000000000000000000000000) r;rw[Int.natAbs_mul] at a1;have a2:r.natAbs<10 ^ 60:=by omega
   have a3:(1000000000000000000000000000000000000000000000000000000000000:Int).natAbs=10 ^ 60:=by decide
   rw[a3] at a1;rw[Nat.add_mul,Nat.one_mul];exact Nat.lt_of_le_of_lt a1 %[|5]
 unfold C_49;dsimp only[rSs,rS,rE,rEs,rG,rGs,rI,DL.plain,dSeq,dRet,dAsg,dFor,ZE,Yl,Zq,YX,dNil,dLst,dVar,vAt,vHd,List.map,List.length_cons,List.length_nil,Nat.reduceAdd,Nat.reduceSub,List.replicate_succ,List.replicate_zero,List.cons_append,List.nil_append,List.set_cons_succ,List.set_cons_zero,dC,d2,bOp,Y1,AZ,dSl];refine addI ⟨BY (.int 0) (.int 0),fun p0 M0 e0 x0 l0=>⟨_,l0,?_⟩⟩;dsimp only[forD,ZE,dSeq,dAsg,AZ,rO];refine turn (k+1) 0 M0 _ %[|5] %[|5] %[|4] fun v1 M1 x1 b1=>?_;refine⟨x1 _ _ l0,?_⟩;refine turn k v1 M1 _ %[|5] %[|5] (Nat.lt_of_lt_of_le b1 %[|4]) fun v2 M2 x2 b2=>?_;refine⟨x2 _ _ (x1 _ _ l0),?_⟩;dsimp only[dRet,dLst,YX,dNil,dVar,List.set_cons_succ,List.set_cons_zero,vAt,vHd];refine⟨Jl _,fun p M' e x l=>?_⟩;exact h v2 p M' (K.MExt.none (x0.trans (x1.trans x2)) e) (x0.trans (x1.trans (x2.trans x))) l
end K
end
open PySem DL Q K
set_option bootstrap.genMatcherCode true
local macro_rules
 | `(tactic| sleep 1)=>`(tactic| ((try dsimp only);rw[Yr];sleep 2))
 | `(tactic| sleep 2)=>`(tactic| ((try dsimp only[0,Yn,vAt,vHd,List.set_cons_succ,List.set_cons_zero,List.cons_append,List.nil_append,List.map,List.length_cons,List.length_nil,Nat.reduceAdd,Nat.reduceSub,List.replicate_succ,List.replicate_zero,Y7,Yp,bMul,bAdd,sOp,Yd,Yo,fIsi,Yi]);try simp[0,Yn,vAt,vHd,Y7,Yp,bMul,bAdd,sOp,Yd,Yo,fIsi,Yi,and_assoc,sizeLine_eq,Yh]))
 | `(tactic| sleep 3)=>`(tactic| ((try dsimp only);rw[Yr];(try dsimp only[0,Yn,vAt,vHd,List.set_cons_succ,List.set_cons_zero,List.cons_append,List.nil_append,List.map,List.length_cons,List.length_nil,Nat.reduceAdd,Nat.reduceSub,List.replicate_succ,List.replicate_zero,Y7,Yp,bMul,bAdd,sOp,Yd,Yo,fIsi,Yi,dFor,YM,Yl,fLen]);try simp[0,Yn,vAt,vHd,Y7,Yp,bMul,bAdd,sOp,Yd,Yo,fIsi,Yi,and_assoc,sizeLine_eq,Yh,dFor,YM,Yl,fLen]))
 | `(tactic| sleep 4)=>`(tactic| ((try dsimp only);rw[Yr];(try dsimp only[0,Yn,vAt,vHd,List.set_cons_succ,List.set_cons_zero,List.cons_append,List.nil_append,List.map,List.length_cons,List.length_nil,Nat.reduceAdd,Nat.reduceSub,List.replicate_succ,List.replicate_zero,Y7,Yp,bMul,bAdd,sOp,Yd,Yo,fIsi,Yi,dFor,YM]);try simp[0,Yn,vAt,vHd,Y7,Yp,bMul,bAdd,sOp,Yd,Yo,fIsi,Yi,and_assoc,sizeLine_eq,Yh,dFor,YM]))
 | `(tactic| sleep 5)=>`(tactic| ((try dsimp only[0,rSs,Yn,vAt,vHd,List.set_cons_succ,List.set_cons_zero,List.cons_append,List.nil_append,List.map,List.length_cons,List.length_nil,Nat.reduceAdd,Nat.reduceSub,List.replicate_succ,List.replicate_zero,Y7,Yp,Yl,YM,dFor,YQ,bMul,bAdd,iOp,sOp,fLen,Yd,Yo,fIsi,fAll,fAny,Yi]);try simp[0,rSs,Yn,vAt,vHd,Y7,Yp,Yl,YM,dFor,YQ,bMul,bAdd,iOp,sOp,fLen,Yd,Yo,fIsi,fAll,fAny,Yi,and_assoc,sizeLine_eq]))
 | `(tactic| sleep 50)=>`(tactic| exact⟨rfl,rfl,rfl,by decide +kernel,rfl,by decide +kernel,by decide +kernel⟩)
 | `(tactic| sleep 51)=>`(tactic| repeat' (first|exact True.intro|assumption|refine And.intro ?_ ?_|exact FnE.mono (by assumption) %[|4]))
set_option bootstrap.genMatcherCode false
noncomputable section
namespace K
open PySem DL Q
noncomputable def nm (q:Rat):DL.D:=.tup [.int q.num,.int q.den]
theorem Yf (h:m<=n):2 ^ m<=2 ^ n:=Nat.pow_le_pow_right %[|4] h
theorem Ud (h:b≠0) (hb:b.natAbs<2 ^ 8000):Ut (if b<0 then -(Int.gcd a b:Int) else Int.gcd a b):=by
 have g0:=Jz (a:=a) h;have gl:Int.gcd a b<=b.natAbs:=Nat.le_of_dvd %[|5] (Int.gcd_dvd_natAbs_right ..);split<;>exact ZP %[|5] (by simp;omega)
noncomputable def S_3:DSp:=fun ds M Q E=>∃ a b:Int,ds=[.int a,.int b]/\b.natAbs<2 ^ 8000/\((b≠0/\Q (nm (Rat.divInt a b)) M)\/(b=0/\E (.exc "NoNumber" .non) M))
noncomputable def C_3:CSs:=%[.ife (.cmp .Eq (.var 1) (.int 0)) %[.rse "NoNumber" %[.str "nothing is parted by 0"|0]|0] .nil,.set 2 (.call "greatest_divisor" S_1 %[.var 0,.var 1|0]),.ife (.cmp .Lt (.var 1) (.int 0)) %[.set 2 (.neg (.var 2))|0] .nil,.ret (.tup %[.bin .FloorDiv (.var 0) (.var 2),.bin .FloorDiv (.var 1) (.var 2)|0])|0]
theorem vc_3:∀ ds M R E,S_3 ds M R E->rSs C_3 (ends R E) (Y1 3 ds) M:=by
 rintro ds M R E ⟨a,b,rfl,hb,h⟩;simp[0,C_3,rSs,Yn,vAt,vHd,Y7,Yp,Yl,YM,dFor,YQ,bMul,bAdd,iOp,sOp,fLen,Yd,Yo,fIsi,fAll,fAny,Yi,and_assoc,sizeLine_eq];refine YN false ?_;rcases h with ⟨h0,h⟩|⟨h0,h⟩
 ·have L:=Dg a b h0
  have D:=Ud (a:=a) h0 hb;unfold nm at h;simp[h0];refine⟨a,b,rfl,?_⟩;by_cases hn:b<0
  ·rw[if_pos hn] at L D
   simp[hn,D];rw[L.1,L.2];exact h
  ·rw[if_neg hn] at L D
   simp[hn,D];rw[L.1,L.2];exact h
 ·subst h0
  simp;exact h
noncomputable def Ok2 (p q:Rat):Prop:=∃ m n,Sz m p/\Sz n q/\m+n<=7998
theorem Ok2.mk (a:Sz m p) (b:Sz n q) (h:m+n<=7998):Ok2 p q:=⟨m,n,a,b,h⟩
theorem Ok2.nd (h:Ok2 p q):IntMulOk p.num q.den/\IntMulOk q.num p.den/\IntMulOk p.den q.den/\IntMulOk p.num q.num/\IntMulOk (p.den:Int) q.num:=by
 obtain⟨m,n,a,b,h⟩:=h;exact⟨Xh a.1 (Yw b) %[|5],Xh b.1 (Yw a) %[|5],Xh (Yw a) (Yw b) %[|5],Xh a.1 b.1 %[|5],Xh (Yw a) b.1 %[|5]⟩
theorem Ok2.dd (h:Ok2 p q):((p.den:Int)*q.den).natAbs<2 ^ 8000/\((p.den:Int)*q.num).natAbs<2 ^ 8000:=by
 obtain⟨m,n,a,b,h⟩:=h;exact⟨Nat.lt_of_lt_of_le (Z0 (Yw a) (Yw b)) (Yf %[|5]),Nat.lt_of_lt_of_le (Z0 (Yw a) b.1) (Yf %[|5])⟩
theorem Z9 (x y:α) (l:List α):L2.atI (x::y::l) 1=some y:=L2.atI_nat (j:=1) rfl
theorem ix0 (q:Q (.int p.num) M):iOp (nm p) (.int 0) M Q:=⟨_,YG _ _,q⟩
theorem ix1 (q:Q (.int p.den) M):iOp (nm p) (.int 1) M Q:=⟨_,Z9 _ _ _,q⟩
theorem subI (q:Q (.int (i-j)) M):bInt (fun _ _=>True) (fun i j=>i-j) (.int i) (.int j) M Q:=⟨trivial,q⟩
noncomputable def S_4:DSp:=fun ds M Q E=>∃ p q:Rat,ds=[nm p,nm q]/\Ok2 p q/\Q (nm (p+q)) M
noncomputable def C_4:CSs:=%[.ret (.call "number" S_3 %[.bin .Add (.bin .Mult (.ix (.var 0) (.int 0)) (.ix (.var 1) (.int 1))) (.bin .Mult (.ix (.var 1) (.int 0)) (.ix (.var 0) (.int 1))),.bin .Mult (.ix (.var 0) (.int 1)) (.ix (.var 1) (.int 1))|0])|0]
theorem vc_4:∀ ds M R E,S_4 ds M R E->rSs C_4 (ends R E) (Y1 2 ds) M:=by
 rintro ds M R E ⟨p,q,rfl,ok,h⟩;unfold C_4;dsimp only[rSs,rS,rE,rEs,DL.plain,dSeq,dRet,Zq,YX,dNil,d2,dVar,vAt,vHd,List.map,List.length_cons,List.length_nil,Nat.reduceAdd,Nat.reduceSub,List.replicate_succ,List.replicate_zero,List.cons_append,List.nil_append,dC,bOp,Y1];have n:=ok.nd;refine (ix0 (ix1 (mulI n.1 (ix0 (ix1 (mulI n.2.1 (addI (ix1 (ix1 (mulI n.2.2.1 ?_))))))))));refine⟨_,_,rfl,ok.dd.1,.inl ⟨Xu p q,?_⟩⟩;rw[Aw];exact h
noncomputable def S_5:DSp:=fun ds M Q E=>∃ p q:Rat,ds=[nm p,nm q]/\Ok2 p q/\Q (nm (p-q)) M
noncomputable def C_5:CSs:=%[.ret (.call "number" S_3 %[.bin .Sub (.bin .Mult (.ix (.var 0) (.int 0)) (.ix (.var 1) (.int 1))) (.bin .Mult (.ix (.var 1) (.int 0)) (.ix (.var 0) (.int 1))),.bin .Mult (.ix (.var 0) (.int 1)) (.ix (.var 1) (.int 1))|0])|0]
theorem vc_5:∀ ds M R E,S_5 ds M R E->rSs C_5 (ends R E) (Y1 2 ds) M:=by
 rintro ds M R E ⟨p,q,rfl,ok,h⟩;unfold C_5;dsimp only[rSs,rS,rE,rEs,DL.plain,dSeq,dRet,Zq,YX,dNil,d2,dVar,vAt,vHd,List.map,List.length_cons,List.length_nil,Nat.reduceAdd,Nat.reduceSub,List.replicate_succ,List.replicate_zero,List.cons_append,List.nil_append,dC,bOp,Y1];have n:=ok.nd;refine (ix0 (ix1 (mulI n.1 (ix0 (ix1 (mulI n.2.1 (subI (ix1 (ix1 (mulI n.2.2.1 ?_))))))))));refine⟨_,_,rfl,ok.dd.1,.inl ⟨Xu p q,?_⟩⟩;rw[A0];exact h
noncomputable def S_6:DSp:=fun ds M Q E=>∃ p q:Rat,ds=[nm p,nm q]/\Ok2 p q/\Q (nm (p*q)) M
noncomputable def C_6:CSs:=%[.ret (.call "number" S_3 %[.bin .Mult (.ix (.var 0) (.int 0)) (.ix (.var 1) (.int 0)),.bin .Mult (.ix (.var 0) (.int 1)) (.ix (.var 1) (.int 1))|0])|0]
theorem vc_6:∀ ds M R E,S_6 ds M R E->rSs C_6 (ends R E) (Y1 2 ds) M:=by
 rintro ds M R E ⟨p,q,rfl,ok,h⟩;unfold C_6;dsimp only[rSs,rS,rE,rEs,DL.plain,dSeq,dRet,Zq,YX,dNil,d2,dVar,vAt,vHd,List.map,List.length_cons,List.length_nil,Nat.reduceAdd,Nat.reduceSub,List.replicate_succ,List.replicate_zero,List.cons_append,List.nil_append,dC,bOp,Y1];have n:=ok.nd;refine (ix0 (ix0 (mulI n.2.2.2.1 (ix1 (ix1 (mulI n.2.2.1 ?_))))));refine⟨_,_,rfl,ok.dd.1,.inl ⟨Xu p q,?_⟩⟩;rw[Db];exact h
noncomputable def S_7:DSp:=fun ds M Q E=>∃ p q:Rat,ds=[nm p,nm q]/\Ok2 p q/\((q≠0/\Q (nm (p / q)) M)\/(q=0/\E (.exc "NoNumber" .non) M))
noncomputable def C_7:CSs:=%[.ret (.call "number" S_3 %[.bin .Mult (.ix (.var 0) (.int 0)) (.ix (.var 1) (.int 1)),.bin .Mult (.ix (.var 0) (.int 1)) (.ix (.var 1) (.int 0))|0])|0]
theorem vc_7:∀ ds M R E,S_7 ds M R E->rSs C_7 (ends R E) (Y1 2 ds) M:=by
 rintro ds M R E ⟨p,q,rfl,ok,h⟩;unfold C_7;dsimp only[rSs,rS,rE,rEs,DL.plain,dSeq,dRet,Zq,YX,dNil,d2,dVar,vAt,vHd,List.map,List.length_cons,List.length_nil,Nat.reduceAdd,Nat.reduceSub,List.replicate_succ,List.replicate_zero,List.cons_append,List.nil_append,dC,bOp,Y1];have n:=ok.nd;refine (ix0 (ix1 (mulI n.1 (ix1 (ix0 (mulI n.2.2.2.2 ?_))))));refine⟨_,_,rfl,ok.dd.2,?_⟩;rcases h with ⟨h0,h⟩|⟨h0,h⟩
 ·refine .inl ⟨Int.mul_ne_zero (by have:=Wc p;omega) (CW h0),?_⟩
  rw[DX];exact h
 ·subst h0;exact .inr ⟨by simp,h⟩
noncomputable def S_8:DSp:=fun ds M Q E=>∃ p q:Rat,ds=[nm p,nm q]/\Ok2 p q/\Q (.bl (decide (p<q))) M
noncomputable def C_8:CSs:=%[.ret (.cmp .Lt (.bin .Mult (.ix (.var 0) (.int 0)) (.ix (.var 1) (.int 1))) (.bin .Mult (.ix (.var 1) (.int 0)) (.ix (.var 0) (.int 1))))|0]
theorem vc_8:∀ ds M R E,S_8 ds M R E->rSs C_8 (ends R E) (Y1 2 ds) M:=by
 rintro ds M R E ⟨p,q,rfl,ok,h⟩;unfold C_8;dsimp only[rSs,rS,rE,rEs,DL.plain,dSeq,dRet,Zq,YX,dNil,d2,dVar,vAt,vHd,List.map,List.length_cons,List.length_nil,Nat.reduceAdd,Nat.reduceSub,List.replicate_succ,List.replicate_zero,List.cons_append,List.nil_append,dC,bOp,cOp,Y1];have n:=ok.nd;refine (ix0 (ix1 (mulI n.1 (ix0 (ix1 (mulI n.2.1 ?_))))));show R (.bl (decide (p.num*q.den<q.num*p.den))) M;rw[show decide (p.num*(q.den:Int)<q.num*p.den)=decide (p<q) by simp only[Ga]];exact h
noncomputable def S_51:DSp:=fun ds M Q _=>∃ a b:Int,ds=[.int a,.int b]/\b≠0/\b.natAbs<2 ^ 8000/\Q (nm (Rat.divInt a b)) M
noncomputable def C_51:CSs:=%[.par 2 3 (.bi .abs %[.var 0|0]) (.bi .abs %[.var 1|0]),.whl (.cmp .NotEq (.var 3) (.int 0)) %[.par 2 3 (.var 3) (.bin .Mod (.var 2) (.var 3))|0],.ife (.cmp .Lt (.var 1) (.int 0)) %[.set 2 (.bin .Sub (.int 0) (.var 2))|0] .nil,.ret (.tup %[.bin .FloorDiv (.var 0) (.var 2),.bin .FloorDiv (.var 1) (.var 2)|0])|0]
theorem vc_51:∀ ds M R E,S_51 ds M R E->rSs C_51 (ends R E) (Y1 4 ds) M:=by
 rintro ds M R E ⟨a,b,rfl,hb,hb2,h⟩;have L:=Dg a b hb;have D:=Ud (a:=a) hb hb2;simp[0,C_51,rSs,Yn,vAt,vHd,Y7,Yp,Yl,YM,dFor,YQ,bMul,bAdd,iOp,sOp,fLen,Yd,Yo,fIsi,fAll,fAny,Yi,and_assoc,sizeLine_eq];refine⟨fun m δ M'=>∃ x y:Int,δ=[some (.int a),some (.int b),some (.int x),some (.int y)]/\M'=M/\0<=x/\0<=y/\Int.gcd x y=Int.gcd a b/\m=y.toNat,⟨_,_,_,rfl,rfl,?_,?_,?_,rfl⟩,?_⟩
 ·split<;>omega
 ·split<;>omega
 ·exact AS a b
 ·rintro m δ M' ⟨x,y,rfl,rfl,h0,h1,hg,rfl⟩
  sleep 5;refine YN true ?_;by_cases hy:y=0
  ·subst hy
   have e:((x.gcd 0:Nat):Int)=x:=by unfold Int.gcd;simp;omega
   rw[hg] at e;rw[e] at L D;unfold nm at h;by_cases nb:b<0
   ·rw[if_pos nb] at L D
    simp[nb,D];rw[L.1,L.2];exact h
   ·rw[if_neg nb] at L D
    simp[nb,D];rw[L.1,L.2];exact h
  ·have yp:0<y:=by omega
   simp[hy];refine⟨fun δ' M1=>δ'=[some (.int a),some (.int b),some (.int y),some (.int (x.fmod y))]/\M1=M',?_,rfl,rfl⟩;rintro δ' M1 ⟨rfl,rfl⟩;have:=ZF (x:=x) yp;exact⟨(x.fmod y).toNat,by omega,y,_,rfl,rfl,h1,this.1,by rw[Jy h0 yp];exact hg,rfl⟩
noncomputable def S_52:DSp:=fun ds M Q E=>∃ p q:Rat,ds=[nm p,nm q]/\Ok2 p q/\Q (nm (p+q)) M
noncomputable def C_52:CSs:=%[.ret (.call "_law_low" S_51 %[.bin .Add (.bin .Mult (.ix (.var 0) (.int 0)) (.ix (.var 1) (.int 1))) (.bin .Mult (.ix (.var 1) (.int 0)) (.ix (.var 0) (.int 1))),.bin .Mult (.ix (.var 0) (.int 1)) (.ix (.var 1) (.int 1))|0])|0]
theorem vc_52:∀ ds M R E,S_52 ds M R E->rSs C_52 (ends R E) (Y1 2 ds) M:=by
 rintro ds M R E ⟨p,q,rfl,ok,h⟩;unfold C_52;dsimp only[rSs,rS,rE,rEs,DL.plain,dSeq,dRet,Zq,YX,dNil,d2,dVar,vAt,vHd,List.map,List.length_cons,List.length_nil,Nat.reduceAdd,Nat.reduceSub,List.replicate_succ,List.replicate_zero,List.cons_append,List.nil_append,dC,bOp,Y1];have n:=ok.nd;refine (ix0 (ix1 (mulI n.1 (ix0 (ix1 (mulI n.2.1 (addI (ix1 (ix1 (mulI n.2.2.1 ?_))))))))));refine⟨_,_,rfl,Xu p q,ok.dd.1,?_⟩;rw[Aw];exact h
noncomputable def S_53:DSp:=fun ds M Q E=>∃ p q:Rat,ds=[nm p,nm q]/\Ok2 p q/\Q (nm (p-q)) M
noncomputable def C_53:CSs:=%[.ret (.call "_law_low" S_51 %[.bin .Sub (.bin .Mult (.ix (.var 0) (.int 0)) (.ix (.var 1) (.int 1))) (.bin .Mult (.ix (.var 1) (.int 0)) (.ix (.var 0) (.int 1))),.bin .Mult (.ix (.var 0) (.int 1)) (.ix (.var 1) (.int 1))|0])|0]
theorem vc_53:∀ ds M R E,S_53 ds M R E->rSs C_53 (ends R E) (Y1 2 ds) M:=by
 rintro ds M R E ⟨p,q,rfl,ok,h⟩;unfold C_53;dsimp only[rSs,rS,rE,rEs,DL.plain,dSeq,dRet,Zq,YX,dNil,d2,dVar,vAt,vHd,List.map,List.length_cons,List.length_nil,Nat.reduceAdd,Nat.reduceSub,List.replicate_succ,List.replicate_zero,List.cons_append,List.nil_append,dC,bOp,Y1];have n:=ok.nd;refine (ix0 (ix1 (mulI n.1 (ix0 (ix1 (mulI n.2.1 (subI (ix1 (ix1 (mulI n.2.2.1 ?_))))))))));refine⟨_,_,rfl,Xu p q,ok.dd.1,?_⟩;rw[A0];exact h
noncomputable def S_54:DSp:=fun ds M Q E=>∃ p q:Rat,ds=[nm p,nm q]/\Ok2 p q/\Q (.bl (decide (p<q))) M
noncomputable def C_54:CSs:=%[.ret (.cmp .Lt (.bin .Mult (.ix (.var 0) (.int 0)) (.ix (.var 1) (.int 1))) (.bin .Mult (.ix (.var 1) (.int 0)) (.ix (.var 0) (.int 1))))|0]
theorem vc_54:∀ ds M R E,S_54 ds M R E->rSs C_54 (ends R E) (Y1 2 ds) M:=by
 rintro ds M R E ⟨p,q,rfl,ok,h⟩;unfold C_54;dsimp only[rSs,rS,rE,rEs,DL.plain,dSeq,dRet,Zq,YX,dNil,d2,dVar,vAt,vHd,List.map,List.length_cons,List.length_nil,Nat.reduceAdd,Nat.reduceSub,List.replicate_succ,List.replicate_zero,List.cons_append,List.nil_append,dC,bOp,cOp,Y1];have n:=ok.nd;refine (ix0 (ix1 (mulI n.1 (ix0 (ix1 (mulI n.2.1 ?_))))));show R (.bl (decide (p.num*q.den<q.num*p.den))) M;rw[show decide (p.num*(q.den:Int)<q.num*p.den)=decide (p<q) by simp only[Ga]];exact h
theorem MExt.upd_new (h:M0 p=Option.none) (e:MExt M0 M):MExt M0 (M.upd p o):=fun a u z=>by
 have:a≠p:=fun q=>by rw[q,h] at z;cases z
 rw[Yv this];exact e a u z
theorem JK (xs:List DL.D) (f:DL.D->DL.D)
  (hti:∀ R:List DL.D->(Mem->Prop)->Mem->Prop,(∀ keep,(∀ M',MExt M M'->keep M')->R xs keep M)->ti δ M R) (hlen:xs.length<=1000)
  (hel:∀ x∈xs,∀ l M' (R:DSt->DK),l.length=n->MExt M M'->(∀ l' M'',l'.length=n->MExt M' M''->R (δ++l') (f x) M'')->g x (δ++l) M' fun δ1 M1=>te δ1 M1 fun d M2=>R δ1 d M2)
  (hq:∀ p M',M p=Option.none->MExt M M'->M' p=some (.ls (xs.map f))->Q (.lst p) M'):YQ n ti g te δ M Q:=by
 refine hti _ fun keep hk p hp=>⟨hk _ (.new hp),?_⟩;refine XR (M0:=M) f (fun δ'=>∃ l,l.length=n/\δ'=δ++l) hp hk ?_ (by simpa using hlen) ?_ ⟨_,by simp,rfl⟩ (.new hp) mupd_same
 ·rintro x hx δ' M' R ⟨l,hl,rfl⟩ e r
  exact hel x hx l M' R hl e fun l' M'' h1 h2=>r _ M'' ⟨l',h1,rfl⟩ h2
 ·intro M' e l
  exact⟨⟨_,l⟩,hq p M' hp e (by simpa using l)⟩
theorem WN (e f:α->DL.D) (I:DSt->Prop) (h0:M0 p=none) (hk:∀ M,MExt M0 M->keep M) :
  ∀ {xs:List α} {acc:List DL.D},(∀ x∈xs,∀ δ M (R:DSt->DK),I δ->MExt M0 M->(∀ δ1 M',I δ1->MExt M M'->R δ1 (f x) M')->g (e x) δ M fun δ1 M1=>te δ1 M1 fun d M2=>R δ1 d M2) ->
  (acc++xs.map f).length<=1000->(∀ M',MExt M0 M'->M' p=some (.ls (acc++xs.map f))->Q M')->∀ {δ M},I δ->MExt M0 M->M p=some (.ls acc)->Za g te keep p (xs.map e) acc δ M Q
 | [],acc,_,_,q,δ,M,i,e',l=>by show Za g te keep p [] acc δ M Q;unfold Za;exact q M e' (by simpa using l)
 | x::xs,acc,h,hz,q,δ,M,i,e',l=>by
  show Za g te keep p (e x::xs.map e) acc δ M Q;unfold Za;refine h x List.mem_cons_self δ M (fun δ1 d M2=>M2 p=some (.ls acc)/\acc.length<sizeLine/\keep (M2.upd p (.ls (acc++[d])))/\Za g te keep p (xs.map e) (acc++[d]) δ1 (M2.upd p (.ls (acc++[d]))) Q) i e' fun δ1 M' i' e2=>?_;have e3:MExt M0 (M'.upd p (.ls (acc++[f x]))):=MExt.upd_new h0 (e'.trans e2);refine⟨e2 _ _ l,?_,hk _ e3,WN e f I h0 hk (fun y hy=>h y (List.mem_cons_of_mem _ hy)) (by simpa using hz) (fun M2 e4 l4=>q M2 e4 (by simpa using l4)) i' e3 mupd_same⟩;rw[sizeLine_eq];simp at hz;omega
theorem YB (xs:List α) (e f:α->DL.D)
  (hti:∀ R:List DL.D->(Mem->Prop)->Mem->Prop,(∀ keep,(∀ M',MExt M M'->keep M')->R (xs.map e) keep M)->ti δ M R) (hlen:xs.length<=1000)
  (hel:∀ x∈xs,∀ l M' (R:DSt->DK),l.length=n->MExt M M'->(∀ l' M'',l'.length=n->MExt M' M''->R (δ++l') (f x) M'')->g (e x) (δ++l) M' fun δ1 M1=>te δ1 M1 fun d M2=>R δ1 d M2)
  (hq:∀ p M',M p=Option.none->MExt M M'->M' p=some (.ls (xs.map f))->Q (.lst p) M'):YQ n ti g te δ M Q:=by
 refine hti _ fun keep hk p hp=>⟨hk _ (.new hp),?_⟩;refine WN (M0:=M) e f (fun δ'=>∃ l,l.length=n/\δ'=δ++l) hp hk ?_ (by simpa using hlen) ?_ ⟨_,by simp,rfl⟩ (.new hp) mupd_same
 ·rintro x hx δ' M' R ⟨l,hl,rfl⟩ e2 r
  exact hel x hx l M' R hl e2 fun l' M'' h1 h2=>r _ M'' ⟨l',h1,rfl⟩ h2
 ·intro M' e2 l
  exact⟨⟨_,l⟩,hq p M' hp e2 (by simpa using l)⟩
theorem Ux (h:δ[i]?=some (some (.tup xs))):∀ R:List DL.D->(Mem->Prop)->Mem->Prop,(∀ keep,(∀ M',MExt M M'->keep M')->R xs keep M)->Yl (dVar i) δ M R :=
 fun R r=>JN h (r _ fun _ _=>trivial)
theorem JV (h:δ[i]?=some (some (.lst a))) (l:M a=some (.ls xs)):∀ R:List DL.D->(Mem->Prop)->Mem->Prop,(∀ keep,(∀ M',MExt M M'->keep M')->R xs keep M)->Yl (dVar i) δ M R :=
 fun R r=>JN h ⟨_,l,r _ fun M' e=>e _ _ l⟩
theorem len1 (h:l.length=1):∃ a,l=[a]:=match l,h with | [a],_=>⟨a,rfl⟩
theorem len2 (h:l.length=2):∃ a b,l=[a,b]:=match l,h with | [a,b],_=>⟨a,b,rfl⟩
theorem len3 (h:l.length=3):∃ a b c,l=[a,b,c]:=match l,h with | [a,b,c],_=>⟨a,b,c,rfl⟩
theorem UV {M:Mem} {p:Addr} {Q:DK} {α:Type} {xs:List α} {f:α->Bool} (l:M p=some (.ls (xs.map fun x=>.bl (f x)))) (h:Q (.bl (xs.all f)) M):fAll [.lst p] M Q :=
 ⟨xs.map f,by rw[l,List.map_map];rfl,by rw[List.all_map];exact h⟩
theorem At {M:Mem} {p:Addr} {Q:DK} {α:Type} {xs:List α} {f:α->Bool} (l:M p=some (.ls (xs.map fun x=>.bl (f x)))) (h:Q (.bl (xs.any f)) M):fAny [.lst p] M Q :=
 ⟨xs.map f,by rw[l,List.map_map];rfl,by rw[List.any_map];exact h⟩
mutual
noncomputable def Gd (M:Mem):DL.D->Prop
 | .tup xs=>Gds M xs
 | .int i=>i.natAbs<2 ^ 3000
 | .non=>True
 | .bl _=>True
 | .str _=>True
 | .fz _=>True
 | .lst a=>∃ xs,M a=some (.ls xs)
 | .dct a=>∃ xs,M a=some (.dk xs)
 | _=>False
noncomputable def Gds (M:Mem):List DL.D->Prop
 | []=>True
 | d::r=>Gd M d/\Gds M r
end
mutual
theorem Gd.ext (e:MExt M M'):∀ d,Gd M d->Gd M' d
 | .tup xs,h=>by unfold Gd at h ⊢;exact Gds.ext e xs h
 | .lst a,h=>by unfold Gd at h ⊢;exact let ⟨xs,q⟩:=h;⟨xs,e _ _ q⟩
 | .dct a,h=>by unfold Gd at h ⊢;exact let ⟨xs,q⟩:=h;⟨xs,e _ _ q⟩
 | .int i,h=>by unfold Gd at h ⊢;exact h
 | .non,_=>by unfold Gd;trivial
 | .bl _,_=>by unfold Gd;trivial
 | .str _,_=>by unfold Gd;trivial
 | .fz _,_=>by unfold Gd;trivial
 | .ty _,h=>by unfold Gd at h;exact h.elim
 | .ref _,h=>by unfold Gd at h;exact h.elim
 | .exc _ _,h=>by unfold Gd at h;exact h.elim
 | .cls _,h=>by unfold Gd at h;exact h.elim
theorem Gds.ext (e:MExt M M'):∀ ds,Gds M ds->Gds M' ds
 | [],_=>by unfold Gds;trivial
 | d::r,h=>by unfold Gds at h ⊢;exact⟨Gd.ext e d h.1,Gds.ext e r h.2⟩
end
theorem Gds.mem:∀ {ds:List DL.D},Gds M ds->∀ d∈ds,Gd M d
 | [],_,_,h=>by cases h
 | x::r,h,d,hd=>by
  unfold Gds at h;rcases List.mem_cons.mp hd with rfl|hd
  ·exact h.1
  ·exact Gds.mem h.2 d hd
theorem Gds.of:∀ {ds:List DL.D},(∀ d∈ds,Gd M d)->Gds M ds
 | [],_=>by unfold Gds;trivial
 | x::r,h=>by unfold Gds;exact⟨h x List.mem_cons_self,Gds.of fun d hd=>h d (List.mem_cons_of_mem _ hd)⟩
theorem Gd.tup (h:Gd M (.tup ds)):∀ d∈ds,Gd M d:=by unfold Gd at h;exact h.mem
theorem Gd.mk (h:∀ d∈ds,Gd M d):Gd M (.tup ds):=by unfold Gd;exact .of h
theorem Gd.ty (h:Gd M d):∃ t,tyD M d=some t:=by
 cases d<;>unfold Gd at h<;>first|exact⟨_,rfl⟩|exact h.elim|(obtain⟨xs,q⟩:=h;simp[tyD,q])
theorem JO (hn:∀ ds,d≠.tup ds) (h:tyD M d=some t):isiT t "tuple"=false:=by
 cases d with
 | tup ds=>exact absurd rfl (hn ds)
 | lst a =>
  simp only[tyD] at h;split at h<;>cases h
  decide
 | dct a =>
  simp only[tyD] at h;split at h<;>cases h
  decide
 | _=>first|(cases h;decide)|cases h
theorem U9 (h:tyD M d=some "int"):∃ i,d=.int i:=by
 cases d with
 | int i=>exact⟨i,rfl⟩
 | lst a=>simp only[tyD] at h;split at h<;>simp at h
 | dct a=>simp only[tyD] at h;split at h<;>simp at h
 | _=>simp[tyD] at h
noncomputable def S_0:DSp:=fun ds M Q _=>∃ d t,ds=[d]/\tyD M d=some t/\Q (.bl (decide (t="int"))) M
noncomputable def C_0:CSs:=%[.ret (.and (.bi .isinstance %[.var 0,.ty .int|0]) (.one (.not (.bi .isinstance %[.var 0,.ty .bool|0]))))|0]
theorem vc_0:∀ ds M R E,S_0 ds M R E->rSs C_0 (ends R E) (Y1 1 ds) M:=by
 rintro ds M R E ⟨d,t,rfl,ht,h⟩;simp[0,C_0,rSs,Yn,vAt,vHd,Y7,Yp,Yl,YM,dFor,YQ,bMul,bAdd,iOp,sOp,fLen,Yd,Yo,fIsi,fAll,fAny,Yi,and_assoc,sizeLine_eq,ht];by_cases h1:t="int"
 ·subst h1;simp[isiT];exact h
 ·by_cases h2:t="bool"
  ·subst h2;simp[isiT];exact h
  ·simp[isiT,h1,h2];simpa[h1] using h
noncomputable def num?:DL.D->Option Rat
 | .tup [.int a,.int b]=>if 1<=b/\Int.gcd a b=1 then some (Rat.divInt a b) else none
 | _=>none
theorem UH (a b:Int):num? (.tup [.int a,.int b])=if 1<=b/\Int.gcd a b=1 then some (Rat.divInt a b) else none:=rfl
theorem Wr (q:Rat):num? (nm q)=some q:=by
 unfold nm;have:=Wc q;rw[UH,if_pos ⟨by omega,Dx q⟩,Yt]
theorem Aa (h:num? d=some q):d=nm q:=by
 unfold num? at h;split at h
 ·rename_i a b
  split at h
  ·rename_i hc
   cases h;obtain⟨e1,e2⟩:=Hl hc.1 hc.2;unfold nm;rw[e1,e2]
  ·cases h
 ·cases h
noncomputable def YK (d:DL.D):Bool:=(num? d).isSome
theorem isNum_iff:YK d=true ↔ ∃ q,d=nm q:=by
 unfold YK;constructor
 ·intro h;obtain⟨q,e⟩:=Option.isSome_iff_exists.mp h;exact⟨q,Aa e⟩
 ·rintro⟨q,rfl⟩;rw[Wr];rfl
theorem X4 (q:Rat):YK (nm q)=true:=isNum_iff.mpr ⟨q,rfl⟩
theorem U8 (h:(∀ i,a≠.int i)\/∀ i,b≠.int i):YK (.tup [a,b])=false:=by
 unfold YK num?;split
 ·rename_i i j e
  simp at e;rcases h with h|h
  ·exact absurd e.1 (h i)
  ·exact absurd e.2 (h j)
 ·rfl
theorem Gd.sz (h:Gd M (nm q)):Sz 3000 q:=by
 have a:=h.tup (.int q.num) (by simp);have b:=h.tup (.int q.den) (by simp);unfold Gd at a b;exact⟨a,by simpa using b⟩
theorem Gd.nm (h:Sz n q) (hn:n<=3000):Gd M (nm q):=by
 refine .mk fun d hd=>?_;have:=h.mono hn;simp at hd;rcases hd with rfl|rfl<;>unfold Gd
 ·exact this.1
 ·simpa using this.2
noncomputable def S_2:DSp:=fun ds M Q _=>∃ d,ds=[d]/\Gd M d/\Q (.bl (YK d)) M
noncomputable def C_2:CSs:=%[.ife (.or (.not (.bi .isinstance %[.var 0,.ty .tuple|0])) (.one (.cmp .NotEq (.bi .len %[.var 0|0]) (.int 2)))) %[.ret (.bl false)|0] .nil,.asg (.tup %[.name 1,.name 2|0]) (.var 0),.ife (.or (.not (.call "is_whole" S_0 %[.var 1|0])) (.or (.not (.call "is_whole" S_0 %[.var 2|0])) (.one (.cmp .Lt (.var 2) (.int 1))))) %[.ret (.bl false)|0] .nil,.ret (.cmp .Eq (.call "greatest_divisor" S_1 %[.var 1,.var 2|0]) (.int 1))|0]
theorem vc_2:∀ ds M R E,S_2 ds M R E->rSs C_2 (ends R E) (Y1 3 ds) M:=by
 rintro ds M R E ⟨d,rfl,gd,h⟩;obtain⟨t,ht⟩:=gd.ty;by_cases hd:∃ xs,d=.tup xs
 ·obtain⟨xs,rfl⟩:=hd
  by_cases hl:xs.length=2
  ·obtain⟨a,b,rfl⟩:∃ a b,xs=[a,b]:=by
    match xs,hl with
    | [a,b],_=>exact⟨a,b,rfl⟩
   obtain⟨ta,hta⟩:=(gd.tup a (by simp)).ty;obtain⟨tb,htb⟩:=(gd.tup b (by simp)).ty;unfold C_2;rw[Yr];simp[0,Yn,vAt,vHd,Y7,Yp,bMul,bAdd,sOp,Yd,Yo,fIsi,Yi,and_assoc,sizeLine_eq,Yh,fLen,tyD,isiT];refine YN true ?_;simp;sleep 1;rw[Yr];sleep 2;refine⟨a,ta,rfl,hta,?_⟩;by_cases h1:ta="int"
   ·subst h1
    obtain⟨i,rfl⟩:=U9 hta;simp;refine⟨b,tb,rfl,htb,?_⟩;by_cases h2:tb="int"
    ·subst h2
     obtain⟨j,rfl⟩:=U9 htb;simp;by_cases h3:j<1
     ·have e:YK (.tup [.int i,.int j])=false:=by
       unfold YK;rw[UH,if_neg %[|5]];rfl
      simp[h3];rw[e] at h;exact h
     ·simp[h3]
      sleep 1;refine⟨i,j,rfl,?_⟩;refine YN false ?_;have e:YK (.tup [.int i,.int j])=(((Int.gcd i j:Nat):Int)==1):=by
       unfold YK;rw[UH];by_cases hg:Int.gcd i j=1
       ·rw[if_pos ⟨by omega,hg⟩,hg];rfl
       ·rw[if_neg %[|5]]
        have:((Int.gcd i j:Nat):Int)≠1:=by omega
        simp[this]
      rw[e] at h;exact h
    ·simp[h2]
     have e:=U8 (a:=.int i) (b:=b) (.inr fun j z=>h2 (by subst z;cases htb;rfl));rw[e] at h;exact h
   ·simp[h1]
    have e:=U8 (a:=a) (b:=b) (.inl fun j z=>h1 (by subst z;cases hta;rfl));rw[e] at h;exact h
  ·have e:YK (.tup xs)=false:=by
    unfold YK num?;split
    ·rename_i z;cases z;simp at hl
    ·rfl
   rw[e] at h;unfold C_2;rw[Yr];simp[0,Yn,vAt,vHd,Y7,Yp,bMul,bAdd,sOp,Yd,Yo,fIsi,Yi,and_assoc,sizeLine_eq,Yh,fLen,tyD,isiT];refine YN true ?_;have:¬ ((xs.length:Int)=2):=by omega
   simp[this];exact h
 ·have hn:∀ ds,d≠.tup ds:=fun ds z=>hd ⟨ds,z⟩
  have e:YK d=false:=by
   unfold YK num?;split
   ·exact absurd rfl (hn _)
   ·rfl
  rw[e] at h;unfold C_2;rw[Yr];simp[0,Yn,vAt,vHd,Y7,Yp,bMul,bAdd,sOp,Yd,Yo,fIsi,Yi,and_assoc,sizeLine_eq,Yh,ht,JO hn ht];exact h
noncomputable def Ye (l m:Int):DL.D->Bool
 | .tup xs=>decide (l<=xs.length)&&decide ((xs.length:Int)<=m)&&xs.all YK
 | _=>false
noncomputable def S_9:DSp:=fun ds M Q _=>∃ d l m,ds=[d,.int l,.int m]/\m<=1000/\Gd M d/\∀ M',MExt M M'->Q (.bl (Ye l m d)) M'
noncomputable def C_9:CSs:=%[.ife (.or (.not (.bi .isinstance %[.var 0,.ty .tuple|0])) (.one (.not (.chain .LtE .LtE (.var 1) (.bi .len %[.var 0|0]) (.var 2))))) %[.ret (.bl false)|0] .nil,.ret (.bi .all %[.comp ["thing","least","most","part"] 1 (.name 3) (.seq (.var 0)) (.call "is_number" S_2 %[.var 3|0])|0])|0]
theorem vc_9:∀ ds M R E,S_9 ds M R E->rSs C_9 (ends R E) (Y1 3 ds) M:=by
 rintro ds M R E ⟨d,l,m,rfl,hm,gd,h⟩;obtain⟨t,ht⟩:=gd.ty;by_cases hd:∃ xs,d=.tup xs
 ·obtain⟨xs,rfl⟩:=hd
  simp[0,C_9,rSs,Yn,vAt,vHd,Yp,bMul,bAdd,iOp,sOp,fLen,Yd,Yo,fIsi,Yi,and_assoc,sizeLine_eq,tyD,isiT];by_cases h1:l<=(xs.length:Int)
  ·by_cases h2:(xs.length:Int)<=m
   ·rw[if_pos h1,if_pos h2]
    refine JK xs (fun x=>.bl (YK x)) (Ux rfl) %[|5] ?_ ?_
    ·intro x hx l' M' R' hl e r
     obtain⟨a,rfl⟩:=len1 hl;sleep 5;exact⟨x,rfl,(gd.tup x hx).ext e,r [some x] M' rfl (.refl _)⟩
    ·intro p M' hp e l'
     refine UV l' ?_;have:=h M' e
     simpa[Ye,h1,h2] using this
   ·rw[if_pos h1,if_neg h2]
    have:=h M (.refl M)
    simpa[Ye,h2] using this
  ·rw[if_neg h1]
   have:=h M (.refl M)
   simpa[Ye,h1] using this
 ·have hn:∀ ds,d≠.tup ds:=fun ds z=>hd ⟨ds,z⟩
  have e:Ye l m d=false:=by
   unfold Ye;split
   ·exact absurd rfl (hn _)
   ·rfl
  rw[e] at h;simp[0,C_9,rSs,Yn,vAt,vHd,Y7,Yp,Yl,YM,dFor,YQ,bMul,bAdd,iOp,sOp,fLen,Yd,Yo,fIsi,fAll,fAny,Yi,and_assoc,sizeLine_eq,ht,JO hn ht];exact h M (.refl M)
structure EqEnc {α:Type} [DecidableEq α] (e:α->DL.D) (k:Nat):Prop where
 ex:∃ e':α->PyData,(∀ M a,Py M (e a) (e' a))/\(∀ a b,PyData.eqv (e' a) (e' b)=decide (a=b))/\∀ a,(e' a).depth<=k
theorem EqEnc.eq {α:Type} [DecidableEq α] {e:α->DL.D} {k:Nat} (h:EqEnc e k) (hk:k<=60) {M:Mem} {Q:DK} {a b:α} (neg:Bool) (q:Q (.bl (if neg then !decide (a=b) else decide (a=b))) M):cEq neg (e a) (e b) M Q:=by
 obtain⟨e',h1,h2,h3⟩:=h.ex;refine Iu (h1 M a) (h1 M b) ?_ (by rw[h2];exact q);have:=h3 a;omega
theorem enc_nm:EqEnc nm 3:=by
 refine⟨fun q=>.tuple [.int q.num,.int q.den],fun M q=>.tup (.cons (.int _) (.cons (.int _) .nil)),fun p q=>?_,fun q=>by simp[PyData.depth,PyData.depthAll]⟩;simp only[PyData.eqv,PyData.eqvAll];by_cases h:p=q
 ·subst h;simp
 ·have:¬ (p.num=q.num/\(p.den:Int)=q.den):=fun ⟨a,b⟩=>h (Rat.ext a %[|5])
  simp only[h,decide_false];rw[Bool.eq_false_iff];intro z;simp at z;exact this ⟨z.1,by omega⟩
theorem Wy:∀ {l:List PyData},(∀ x∈l,x.depth<=k)->PyData.depthAll l<=k
 | [],_=>by simp[PyData.depthAll]
 | x::r,h=>by
  have a:=h x List.mem_cons_self;have b:=Wy fun y hy=>h y (List.mem_cons_of_mem _ hy);simp only[PyData.depthAll];omega
theorem A7 {α:Type} {e:α->DL.D} {e':α->PyData} {M:Mem} (h:∀ a,Py M (e a) (e' a)):∀ l:List α,Pys M (l.map e) (l.map e')
 | []=>.nil
 | a::r=>.cons (h a) (A7 h r)
theorem AV [DecidableEq α] (h:∀ a b,PyData.eqv (e' a) (e' b)=decide (a=b)):∀ l m:List α,PyData.eqvAll (l.map e') (m.map e')=decide (l=m)
 | [],[]=>by simp[PyData.eqvAll]
 | [],_::_=>by simp[PyData.eqvAll]
 | _::_,[]=>by simp[PyData.eqvAll]
 | a::l,b::m=>by
  simp only[List.map_cons,PyData.eqvAll,h,AV h l m,List.cons.injEq];by_cases h1:a=b<;>by_cases h2:l=m<;>simp[h1,h2]
theorem EqEnc.tup {α:Type} [DecidableEq α] {e:α->DL.D} {k:Nat} (h:EqEnc e k):EqEnc (fun l:List α=>.tup (l.map e)) (k+1):=by
 obtain⟨e',h1,h2,h3⟩:=h.ex;refine⟨fun l=>.tuple (l.map e'),fun M l=>.tup (A7 (h1 M) l),fun a b=>by simp only[PyData.eqv];exact AV h2 a b,fun l=>?_⟩;simp only[PyData.depth];have:=Wy (k:=k) (l:=l.map e') (by simp;exact fun a _=>h3 a);omega
noncomputable def rw (r:List Rat):DL.D:=.tup (r.map nm)
noncomputable def pl (p:Rat×Rat):DL.D:=.tup [nm p.1,nm p.2]
noncomputable def tb (t:List (Rat×Rat)):DL.D:=.tup (t.map pl)
theorem enc_rw:EqEnc rw 4:=enc_nm.tup
theorem JE {M:Mem} {Q:DK} {a b:Rat} (neg:Bool) (q:Q (.bl (if neg then !decide (a=b) else decide (a=b))) M):cEq neg (nm a) (nm b) M Q:=enc_nm.eq %[|4] neg q
theorem K2 {M:Mem} {Q:DK} {a b:List Rat} (neg:Bool) (q:Q (.bl (if neg then !decide (a=b) else decide (a=b))) M):cEq neg (rw a) (rw b) M Q:=enc_rw.eq %[|4] neg q
noncomputable def place?:DL.D->Option (Rat×Rat)
 | .tup [a,b]=>match num? a,num? b with
  | some p,some q=>if p<=q then some (p,q) else none
  | _,_=>none
 | _=>none
noncomputable def Zh (d:DL.D):Bool:=(place? d).isSome
theorem CF (h:place? d=some p):d=pl p/\p.1<=p.2:=by
 unfold place? at h;split at h
 ·rename_i a b
  split at h
  ·rename_i x y e1 e2
   split at h
   ·rename_i hl
    cases h;exact⟨by rw[Aa e1,Aa e2];rfl,hl⟩
   ·cases h
  ·cases h
 ·cases h
theorem CD (h:p.1<=p.2):place? (pl p)=some p:=by
 unfold pl place?;simp only[Wr];rw[if_pos h]
theorem isPlace_iff:Zh d=true ↔ ∃ p:Rat×Rat,d=pl p/\p.1<=p.2:=by
 unfold Zh;constructor
 ·intro h;obtain⟨p,e⟩:=Option.isSome_iff_exists.mp h;exact⟨p,CF e⟩
 ·rintro⟨p,rfl,h⟩;rw[CD h];rfl
noncomputable def S_11:DSp:=fun ds M Q _=>∃ d,ds=[d]/\Gd M d/\∀ M',MExt M M'->Q (.bl (Zh d)) M'
noncomputable def C_11:CSs:=%[.ret (.and (.call "are_numbers" S_9 %[.var 0,.int 2,.int 2|0]) (.one (.not (.call "is_less" S_8 %[.ix (.var 0) (.int 1),.ix (.var 0) (.int 0)|0]))))|0]
theorem Dm {a b:Prop} (h:a):if true=true then a else b:=h
theorem IZ {a b:Prop} (h:b):if false=true then a else b:=h
theorem vc_11:∀ ds M R E,S_11 ds M R E->rSs C_11 (ends R E) (Y1 1 ds) M:=by
 rintro ds M R E ⟨d,rfl,gd,h⟩;unfold C_11;dsimp only[rSs,rS,rE,rEs,DL.plain,dSeq,dRet,Zq,YX,dNil,d2,dVar,vAt,vHd,List.map,List.length_cons,List.length_nil,Nat.reduceAdd,Nat.reduceSub,List.replicate_succ,List.replicate_zero,List.cons_append,List.nil_append,List.set_cons_succ,List.set_cons_zero,dC,Y1,B0,Ef,dTru,dNot];refine⟨d,2,2,rfl,by decide,gd,fun M' e=>⟨_,rfl,?_⟩⟩;cases q:Ye 2 2 d with
 | true =>
  obtain⟨a,b,rfl,ha,hb⟩:∃ a b,d=.tup [a,b]/\YK a=true/\YK b=true:=by
   unfold Ye at q;split at q
   ·rename_i xs
    simp at q;obtain⟨a,b,rfl⟩:=len2 (l:=xs) %[|5];exact⟨a,b,rfl,by simpa using q.2 a (by simp),by simpa using q.2 b (by simp)⟩
   ·cases q
  obtain⟨x,rfl⟩:=isNum_iff.mp ha;obtain⟨y,rfl⟩:=isNum_iff.mp hb;have sx:=(gd.tup (nm x) (by simp)).sz;have sy:=(gd.tup (nm y) (by simp)).sz;refine Dm ⟨_,Z9 _ _ _,_,YG _ _,y,x,rfl,.mk sy sx %[|4],?_⟩;have:=h M' e;have e2:Zh (.tup [nm x,nm y])=!decide (y<x):=by
   unfold Zh place?;simp only[Wr];by_cases z:x<=y
   ·rw[if_pos z,decide_eq_false (by grind)];rfl
   ·rw[if_neg z,decide_eq_true (by grind)];rfl
  rw[e2] at this;exact⟨_,rfl,this⟩
 | false =>
  refine IZ ?_;have:=h M' e;have e2:Zh d=false:=by
   cases z:Zh d with
   | false=>rfl
   | true =>
    obtain⟨p,rfl,_⟩:=isPlace_iff.mp z;simp[Ye,pl,X4] at q
  rw[e2] at this;exact this
abbrev ZU:DL.D:=.int 25
noncomputable def ZC:DL.D->Bool
 | .tup xs=>decide (2<=xs.length)&&decide (xs.length<=25)&&xs.all Zh
 | _=>false
noncomputable def S_12:DSp:=fun ds M Q _=>∃ d,ds=[d]/\Gd M d/\∀ M',MExt M M'->Q (.bl (ZC d)) M'
noncomputable def C_12:CSs:=%[.ife (.or (.not (.bi .isinstance %[.var 0,.ty .tuple|0])) (.one (.not (.chain .LtE .LtE (.int 2) (.bi .len %[.var 0|0]) (.glo "MOST_PLACES" ZU))))) %[.ret (.bl false)|0] .nil,.ret (.bi .all %[.comp ["thing","part"] 1 (.name 1) (.seq (.var 0)) (.call "is_place" S_11 %[.var 1|0])|0])|0]
theorem vc_12:∀ ds M R E,S_12 ds M R E->rSs C_12 (ends R E) (Y1 1 ds) M:=by
 rintro ds M R E ⟨d,rfl,gd,h⟩;obtain⟨t,ht⟩:=gd.ty;by_cases hd:∃ xs,d=.tup xs
 ·obtain⟨xs,rfl⟩:=hd
  simp[0,C_12,rSs,Yn,vAt,vHd,Yp,bMul,bAdd,iOp,sOp,fLen,Yd,Yo,fIsi,Yi,and_assoc,sizeLine_eq,tyD,isiT];by_cases h1:(2:Int)<=(xs.length:Int)
  ·by_cases h2:(xs.length:Int)<=25
   ·rw[if_pos h1,if_pos h2]
    refine JK xs (fun x=>.bl (Zh x)) (Ux rfl) %[|5] ?_ ?_
    ·intro x hx l' M' R' hl e r
     obtain⟨a,rfl⟩:=len1 hl;sleep 5;exact⟨x,rfl,(gd.tup x hx).ext e,fun M'' e2=>r [some x] M'' rfl e2⟩
    ·intro p M' hp e l'
     refine UV l' ?_;have:=h M' e;have z1:2<=xs.length:=by omega
     have z2:xs.length<=25:=by omega
     simpa[ZC,z1,z2] using this
   ·rw[if_pos h1,if_neg h2]
    have:=h M (.refl M);have z2:¬ xs.length<=25:=by omega
    simpa[ZC,z2] using this
  ·rw[if_neg h1]
   have:=h M (.refl M);have z1:¬ 2<=xs.length:=by omega
   simpa[ZC,z1] using this
 ·have hn:∀ ds,d≠.tup ds:=fun ds z=>hd ⟨ds,z⟩
  have e:ZC d=false:=by
   unfold ZC;split
   ·exact absurd rfl (hn _)
   ·rfl
  rw[e] at h;simp[0,C_12,rSs,Yn,vAt,vHd,Y7,Yp,Yl,YM,dFor,YQ,bMul,bAdd,iOp,sOp,fLen,Yd,Yo,fIsi,fAll,fAny,Yi,and_assoc,sizeLine_eq,ht,JO hn ht];exact h M (.refl M)
theorem BR (h:xs.all Zh=true):∃ t:List (Rat×Rat),xs=t.map pl/\∀ p∈t,p.1<=p.2:=by
 induction xs with
 | nil=>exact⟨[],rfl,by simp⟩
 | cons x r ih =>
  simp only[List.all_cons,Bool.and_eq_true] at h;obtain⟨p,rfl,hp⟩:=isPlace_iff.mp h.1;obtain⟨t,rfl,ht⟩:=ih h.2;refine⟨p::t,rfl,fun q hq=>?_⟩;rcases List.mem_cons.mp hq with rfl|hq
  ·exact hp
  ·exact ht q hq
structure Tube (t:List (Rat×Rat)):Prop where
 two:2<=t.length
 most:t.length<=25
 ok:∀ p∈t,p.1<=p.2
theorem isTube_iff:ZC d=true ↔ ∃ t,d=tb t/\Tube t:=by
 constructor
 ·intro h
  unfold ZC at h;split at h
  ·simp only[Bool.and_eq_true,decide_eq_true_eq] at h
   obtain⟨t,rfl,ht⟩:=BR h.2;exact⟨t,rfl,by simpa using h.1.1,by simpa using h.1.2,ht⟩
  ·cases h
 ·rintro⟨t,rfl,ht⟩
  unfold ZC tb;have:=ht.two;have:=ht.most;simp only[List.length_map,Bool.and_eq_true,decide_eq_true_eq];refine⟨⟨ht.two,ht.most⟩,?_⟩;rw[List.all_eq_true];intro x hx;obtain⟨p,hp,rfl⟩:=List.mem_map.mp hx;exact isPlace_iff.mpr ⟨p,rfl,ht.ok p hp⟩
noncomputable def Sq (M:Mem) (d:DL.D) (xs:List DL.D):Prop:=d=.tup xs\/d=.fz xs\/∃ a,d=.lst a/\M a=some (.ls xs)
theorem Sq.ext (h:Sq M d xs) (e:MExt M M'):Sq M' d xs:=by
 rcases h with h|h|⟨a,h,l⟩
 ·exact .inl h
 ·exact .inr (.inl h)
 ·exact .inr (.inr ⟨a,h,e _ _ l⟩)
theorem Sq.ix (h:Sq M d xs) (e:L2.atI xs i=some v) (q:Q v M):iOp d (.int i) M Q:=by
 rcases h with rfl|rfl|⟨a,rfl,l⟩
 ·exact⟨v,e,q⟩
 ·exact⟨v,e,q⟩
 ·exact⟨xs,v,l,e,q⟩
theorem Sq.len (h:Sq M d xs) (q:Q (.int xs.length) M):fLen [d] M Q:=by
 rcases h with rfl|rfl|⟨a,rfl,l⟩
 ·exact q
 ·exact q
 ·exact⟨xs,l,q⟩
theorem Zf {α:Type} {xs:List α} {i:Nat} {v:α} (h:xs[i]?=some v):L2.atI xs (i:Int)=some v:=L2.atI_nat h
theorem Wg (h:xs≠[]):L2.atI xs (-1)=some (xs.getLast h):=by
 unfold L2.atI L2.ixN;have:=List.length_pos_iff.mpr h;rw[if_neg %[|5],if_pos %[|5]];have e:(-1+(xs.length:Int)).toNat=xs.length-1:=by omega
 rw[e];simp[List.getLast_eq_getElem]
theorem CZ (i:Int):nm (i:Rat)=.tup [.int i,.int 1]:=rfl
noncomputable def lo (t:List (Rat×Rat)) (i:Nat):Rat:=(t.getD i (0,0)).1
noncomputable def hi (t:List (Rat×Rat)) (i:Nat):Rat:=(t.getD i (0,0)).2
theorem J4 (h:i<t.length):(t.map pl)[i]?=some (pl (lo t i,hi t i)):=by
 simp[h,lo,hi]
noncomputable def tied (t:List (Rat×Rat)):Bool:=decide (lo t 0=hi t 0)&&decide (lo t (t.length-1)=hi t (t.length-1))
noncomputable def Xs (d:DL.D):Bool:=by
 classical exact decide (∃ t,d=tb t/\Tube t/\tied t=true)
theorem GS (h:pl p=pl q):p=q:=by
 unfold pl nm at h;simp at h;exact Prod.ext (Rat.ext h.1.1 %[|5]) (Rat.ext h.2.1 %[|5])
theorem Vw:∀ {s t:List (Rat×Rat)},s.map pl=t.map pl->s=t
 | [],[],_=>rfl
 | [],_::_,h=>by simp at h
 | _::_,[],h=>by simp at h
 | a::s,b::t,h=>by
  simp only[List.map_cons,List.cons.injEq] at h;rw[GS h.1,Vw h.2]
theorem Gz (h:tb s=tb t):s=t:=by
 unfold tb at h;injection h with h
 exact Vw h
theorem U7 (h:Tube t):Xs (tb t)=tied t:=by
 unfold Xs;cases e:tied t with
 | true=>simpa using ⟨t,rfl,h,e⟩
 | false =>
  simp only[decide_eq_false_iff_not];rintro⟨s,e1,_,e2⟩;rw[<- Gz e1,e] at e2;cases e2
theorem Ag (h:ZC d=false):Xs d=false:=by
 unfold Xs;simp only[decide_eq_false_iff_not];rintro⟨s,rfl,ht,_⟩;rw[isTube_iff.mpr ⟨s,rfl,ht⟩] at h;cases h
noncomputable def S_13:DSp:=fun ds M Q _=>∃ d,ds=[d]/\Gd M d/\∀ M',MExt M M'->Q (.bl (Xs d)) M'
noncomputable def C_13:CSs:=%[.ret (.and (.call "is_tube" S_12 %[.var 0|0]) (.and (.cmp .Eq (.ix (.ix (.var 0) (.int 0)) (.int 0)) (.ix (.ix (.var 0) (.int 0)) (.int 1))) (.one (.cmp .Eq (.ix (.ix (.var 0) (.neg (.int 1))) (.int 0)) (.ix (.ix (.var 0) (.neg (.int 1))) (.int 1))))))|0]
theorem tix (e:L2.atI xs i=some v) (q:Q v M):iOp (.tup xs) (.int i) M Q:=⟨v,e,q⟩
theorem pl0 (q:Q (nm p.1) M):iOp (pl p) (.int 0) M Q:=⟨_,YG _ _,q⟩
theorem pl1 (q:Q (nm p.2) M):iOp (pl p) (.int 1) M Q:=⟨_,Z9 _ _ _,q⟩
theorem Ew {t:List (Rat×Rat)} (h2:2<=t.length):L2.atI (t.map pl) 0=some (pl (lo t 0,hi t 0))/\L2.atI (t.map pl) (-1)=some (pl (lo t (t.length-1),hi t (t.length-1))):=by
 refine⟨Zf (i:=0) (J4 %[|5]),?_⟩;have hne:t.map pl≠[]:=by intro z;simp at z;subst z;simp at h2
 rw[Wg hne];have:=J4 (t:=t) (i:=t.length-1) %[|5];rw[List.getElem?_eq_getElem (by simp;omega)] at this;simp only[Option.some.injEq] at this;rw[<- this];simp[List.getLast_eq_getElem]
theorem vc_13:∀ ds M R E,S_13 ds M R E->rSs C_13 (ends R E) (Y1 1 ds) M:=by
 rintro ds M R E ⟨d,rfl,gd,h⟩;unfold C_13;dsimp only[rSs,rS,rE,rEs,DL.plain,dSeq,dRet,Zq,YX,dNil,d2,dVar,vAt,vHd,List.map,List.length_cons,List.length_nil,Nat.reduceAdd,Nat.reduceSub,List.replicate_succ,List.replicate_zero,List.cons_append,List.nil_append,List.set_cons_succ,List.set_cons_zero,dC,bOp,cOp,Y1,B0,dNeg];refine⟨d,rfl,gd,fun M' e=>⟨_,rfl,?_⟩⟩;have hm:=h M' e;cases q:ZC d with
 | false =>
  rw[Ag q] at hm;exact hm
 | true =>
  obtain⟨t,rfl,ht⟩:=isTube_iff.mp q;rw[U7 ht] at hm;obtain⟨a0,a1⟩:=Ew ht.two;unfold tied at hm;refine Dm ?_;refine tix a0 (pl0 (tix a0 (pl1 (JE false ⟨_,rfl,?_⟩))));by_cases z1:lo t 0=hi t 0
  ·rw[decide_eq_true z1,Bool.true_and] at hm
   show if decide (lo t 0=hi t 0)=true then _ else _
   rw[decide_eq_true z1];refine Dm ?_;exact⟨_,rfl,tix a1 (pl0 ⟨_,rfl,tix a1 (pl1 (JE false hm))⟩)⟩
  ·rw[decide_eq_false z1,Bool.false_and] at hm
   show if decide (lo t 0=hi t 0)=true then _ else _
   rw[decide_eq_false z1];exact hm
noncomputable def S_14:DSp:=fun ds M Q E=>∃ d,ds=[d]/\Gd M d/\∀ M',MExt M M'->if Xs d=true then Q .non M' else E (.exc "NoTube" .non) M'
noncomputable def C_14:CSs:=%[.ife (.not (.call "is_tied" S_13 %[.var 0|0])) %[.rse "NoTube" %[.str "this is no tied tube"|0]|0] .nil|0]
theorem vc_14:∀ ds M R E,S_14 ds M R E->rSs C_14 (ends R E) (Y1 1 ds) M:=by
 rintro ds M R E ⟨d,rfl,gd,h⟩;simp[0,C_14,rSs,Yn,vAt,vHd,Y7,Yp,Yl,YM,dFor,YQ,bMul,bAdd,iOp,sOp,fLen,Yd,Yo,fIsi,fAll,fAny,Yi,and_assoc,sizeLine_eq];refine⟨d,rfl,gd,fun M' e=>?_⟩;have:=h M' e;cases q:Xs d<;>simp[q] at this ⊢<;>exact this
theorem Zs {b t:Nat} (h:b<=t):(((t:Int)-(b:Int):Int):Rat)=(t:Rat)-(b:Rat):=by push_cast;rfl
theorem XW {i:Int} (h:i.natAbs<128):Sz 7 (i:Rat):=Sz.int (by simpa using h) %[|4]
theorem ZV {m n b t:Nat} {h x:Rat} (hx:Sz m x) (hh:Sz n h) (hb:b<t) (ht:t<=100):Sz (m+n+8) (Yc b h t x):=by
 unfold Yc;have g:=W9 hb;have s:=XW (i:=(t:Int)-(b:Int)) %[|5];rw[Zs %[|5]] at s;exact ((hx.sub hh).div s (by grind)).mono %[|5]
noncomputable def S_19:DSp:=fun ds M Q E=>∃ (b t:Nat) (h x:Rat),ds=[.int b,nm h,.int t,nm x]/\b<t/\t<=100/\(∃ m n,Sz m x/\Sz n h/\m+n<=7900)/\Q (nm (Yc b h t x)) M
noncomputable def C_19:CSs:=%[.ret (.call "parted" S_7 %[.call "taken" S_5 %[.var 3,.var 1|0],.tup %[.bin .Sub (.var 2) (.var 0),.int 1|0]|0])|0]
theorem vc_19:∀ ds M R E,S_19 ds M R E->rSs C_19 (ends R E) (Y1 4 ds) M:=by
 rintro ds M R E ⟨b,t,h,x,rfl,hb,ht,⟨m,n,sx,sh,hl⟩,q⟩;simp[0,C_19,rSs,Yn,vAt,vHd,Y7,Yp,Yl,YM,dFor,YQ,bMul,bAdd,iOp,sOp,fLen,Yd,Yo,fIsi,fAll,fAny,Yi,and_assoc,sizeLine_eq];refine⟨x,h,rfl,.mk sx sh %[|5],?_⟩;have g:=W9 hb;have s:=XW (i:=(t:Int)-(b:Int)) %[|5];rw[Zs %[|5]] at s;refine⟨x-h,(t:Rat)-(b:Rat),?_,.mk (sx.sub sh) s %[|5],.inl ⟨by grind,q⟩⟩;rw[<- Zs %[|5],CZ]
noncomputable def NT (t:List (Rat×Rat)) (b:Nat) (h:Rat):Option (Nat×Rat)->Prop
 | none=>b+1=t.length\/∃ la ha SL FH,Scan (lo t) (hi t) b h la ha SL FH t.length
 | some (p,v)=>∃ la ha SL FH e,Scan (lo t) (hi t) b h la ha SL FH e/\e<t.length/\((FH<Yc b h e (lo t e)/\p=ha/\v=hi t ha)\/(¬ FH<Yc b h e (lo t e)/\Yc b h e (hi t e)<SL/\p=la/\v=lo t la))
noncomputable def ntD:Option (Nat×Rat)->Nat->DL.D
 | none,_=>.non
 | some (p,v),e=>.tup [.tup [.int p,nm v],.int e]
structure Places (t:List (Rat×Rat)) (k:Nat):Prop where
 most:t.length<=100
 ok:∀ i,i<t.length->lo t i<=hi t i
 slo:∀ i,i<t.length->Sz k (lo t i)
 shi:∀ i,i<t.length->Sz k (hi t i)
 few:k<=1900
noncomputable def S_20:DSp:=fun ds M Q E=>∃ d t k b h,ds=[d,.int (b:Nat),nm h]/\Sq M d (t.map pl)/\Places t k/\b<t.length/\Sz k h/\∀ res e,NT t b h res->Q (ntD res e) M
noncomputable def C_20:CSs:=%[.ife (.cmp .Eq (.bin .Add (.var 1) (.int 1)) (.bi .len %[.var 0|0])) %[.ret .non|0] .nil,.two (.name 3) (.name 4) (.bin .Add (.var 1) (.int 1)),.set 5 (.call "rise" S_19 %[.var 1,.var 2,.var 3,.ix (.ix (.var 0) (.var 3)) (.int 0)|0]),.set 6 (.call "rise" S_19 %[.var 1,.var 2,.var 4,.ix (.ix (.var 0) (.var 4)) (.int 1)|0]),.fr (.name 7) (.rng %[.bin .Add (.var 1) (.int 2),.bi .len %[.var 0|0]|0]) %[.set 8 (.call "rise" S_19 %[.var 1,.var 2,.var 7,.ix (.ix (.var 0) (.var 7)) (.int 0)|0]),.set 9 (.call "rise" S_19 %[.var 1,.var 2,.var 7,.ix (.ix (.var 0) (.var 7)) (.int 1)|0]),.ife (.call "is_less" S_8 %[.var 6,.var 8|0]) %[.ret (.tup %[.tup %[.var 4,.ix (.ix (.var 0) (.var 4)) (.int 1)|0],.var 7|0])|0] .nil,.ife (.call "is_less" S_8 %[.var 9,.var 5|0]) %[.ret (.tup %[.tup %[.var 3,.ix (.ix (.var 0) (.var 3)) (.int 0)|0],.var 7|0])|0] .nil,.ife (.not (.call "is_less" S_8 %[.var 8,.var 5|0])) %[.par 3 5 (.var 7) (.var 8)|0] .nil,.ife (.not (.call "is_less" S_8 %[.var 6,.var 9|0])) %[.par 4 6 (.var 7) (.var 9)|0] .nil|0],.ret .non|0]
theorem vc_20:∀ ds M R E,S_20 ds M R E->rSs C_20 (ends R E) (Y1 10 ds) M:=by
 rintro ds M R E ⟨d,t,k,b,h,rfl,sq,P,hb,sh,q⟩;have lenD:∀ Q:DK,Q (.int t.length) M->fLen [d] M Q:=fun Q z=>sq.len (by simpa using z);have ix:∀ (i:Nat) (Q:DK),i<t.length->Q (pl (lo t i,hi t i)) M->iOp d (.int i) M Q:=fun i Q hi' z=>sq.ix (Zf (J4 hi')) z;have few:=P.few;unfold C_20;rw[Yr];sleep 2;refine lenD _ (YN false ?_);by_cases hz:b+1=t.length
 ·refine .inr ⟨?_,?_⟩
  ·have:(b:Int)+1=t.length:=by omega
   simp[this]
  ·sleep 1
   exact q none 0 (.inl hz)
 ·refine .inl ⟨?_,?_⟩
  ·have:¬ (b:Int)+1=t.length:=by omega
   simp[this]
  have hb1:b+1<t.length:=by omega
  have most:=P.most;sleep 1;sleep 1;refine ix (b+1) _ hb1 ?_;refine (Sq.ix (.inl rfl) (YG _ _) ?_);refine⟨b,b+1,h,lo t (b+1),rfl,by omega,by omega,⟨k,k,P.slo _ hb1,sh,by omega⟩,?_⟩;sleep 1;refine ix (b+1) _ hb1 ?_;refine (Sq.ix (.inl rfl) (Z9 _ _ _) ?_);refine⟨b,b+1,h,hi t (b+1),rfl,by omega,by omega,⟨k,k,P.shi _ hb1,sh,by omega⟩,?_⟩;sleep 4;refine lenD _ ⟨by omega,by omega,by omega,by omega,?_⟩;refine YA (fun i δ M'=>M'=M/\∃ (la ha:Nat) (SL FH:Rat) (w7 w8 w9:Option DL.D),δ=[some d,some (.int b),some (nm h),some (.int la),some (.int ha),some (nm SL),some (nm FH),w7,w8,w9]/\Scan (lo t) (hi t) b h la ha SL FH (b+2+i)/\b+2+i<=t.length) (fun _ _ _ _=>trivial) ?_ ?_ ⟨rfl,b+1,b+1,_,_,_,_,_,rfl,Scan.first (P.ok _ hb1),by omega⟩
  ·rintro δ M' ⟨rfl,la,ha,SL,FH,w7,w8,w9,rfl,S,hle⟩
   rw[Zx] at S hle;have e:b+2+((t.length:Int)-((b:Int)+2)).toNat=t.length:=by omega
   rw[e] at S;sleep 1;exact q none 0 (.inr ⟨la,ha,SL,FH,S⟩)
  ·rintro i x hx N hN δ M' ⟨rfl,la,ha,SL,FH,w7,w8,w9,rfl,S,hle⟩
   obtain⟨rfl,hi'⟩:=Xx hx;have hbe:b+2+i<t.length:=by omega
   have eI:((b:Int)+2+(i:Int)*1)=((b+2+i:Nat):Int):=by omega
   rw[eI];have sSL:Sz (k+k+8) SL:=by rw[S.laE];exact ZV (P.slo _ (by have:=S.la1;omega)) sh S.la0 (by have:=S.la1;omega)
   have sFH:Sz (k+k+8) FH:=by rw[S.haE];exact ZV (P.shi _ (by have:=S.ha1;omega)) sh S.ha0 (by have:=S.ha1;omega)
   have sl1:Sz (k+k+8) (Yc b h (b+2+i) (lo t (b+2+i))):=ZV (P.slo _ hbe) sh %[|5] %[|5];have sl2:Sz (k+k+8) (Yc b h (b+2+i) (hi t (b+2+i))):=ZV (P.shi _ hbe) sh %[|5] %[|5];sleep 2;sleep 1;refine ix (b+2+i) _ hbe ?_;refine (Sq.ix (.inl rfl) (YG _ _) ?_);refine⟨b,b+2+i,h,lo t (b+2+i),rfl,by omega,by omega,⟨k,k,P.slo _ hbe,sh,by omega⟩,?_⟩;sleep 1;refine ix (b+2+i) _ hbe ?_;refine (Sq.ix (.inl rfl) (Z9 _ _ _) ?_);refine⟨b,b+2+i,h,hi t (b+2+i),rfl,by omega,by omega,⟨k,k,P.shi _ hbe,sh,by omega⟩,?_⟩;sleep 1;refine⟨FH,_,rfl,.mk sFH sl1 %[|5],?_⟩;by_cases c1:FH<Yc b h (b+2+i) (lo t (b+2+i))
   ·simp[c1]
    sleep 1;refine ix ha _ (by have:=S.ha1;omega) ?_;refine (Sq.ix (.inl rfl) (Z9 _ _ _) ?_);exact q (some (ha,hi t ha)) (b+2+i) ⟨la,ha,SL,FH,_,S,hbe,.inl ⟨c1,rfl,rfl⟩⟩
   ·simp[c1]
    sleep 1;refine⟨_,SL,rfl,.mk sl2 sSL %[|5],?_⟩;by_cases c2:Yc b h (b+2+i) (hi t (b+2+i))<SL
    ·simp[c2]
     sleep 1;refine ix la _ (by have:=S.la1;omega) ?_;refine (Sq.ix (.inl rfl) (YG _ _) ?_);exact q (some (la,lo t la)) (b+2+i) ⟨la,ha,SL,FH,_,S,hbe,.inr ⟨c1,c2,rfl,rfl⟩⟩
    ·simp[c2]
     have S':=S.step (P.ok _ hbe) c1 c2;sleep 1;refine⟨_,SL,rfl,.mk sl1 sSL %[|5],?_⟩;by_cases c3:Yc b h (b+2+i) (lo t (b+2+i))<SL
     ·rw[if_pos c3,if_pos c3] at S'
      simp[c3];sleep 1;refine⟨FH,_,rfl,.mk sFH sl2 %[|5],?_⟩;by_cases c4:FH<Yc b h (b+2+i) (hi t (b+2+i))
      ·rw[if_pos c4,if_pos c4] at S'
       simp[c4];exact hN _ _ ⟨rfl,_,_,_,_,_,_,_,rfl,S',by omega⟩
      ·rw[if_neg c4,if_neg c4] at S'
       simp[c4];sleep 1;exact hN _ _ ⟨rfl,_,_,_,_,_,_,_,rfl,S',by omega⟩
     ·rw[if_neg c3,if_neg c3] at S'
      simp[c3];sleep 1;sleep 1;refine⟨FH,_,rfl,.mk sFH sl2 %[|5],?_⟩;by_cases c4:FH<Yc b h (b+2+i) (hi t (b+2+i))
      ·rw[if_pos c4,if_pos c4] at S'
       simp[c4];exact hN _ _ ⟨rfl,_,_,_,_,_,_,_,rfl,S',by omega⟩
      ·rw[if_neg c4,if_neg c4] at S'
       simp[c4];sleep 1;exact hN _ _ ⟨rfl,_,_,_,_,_,_,_,rfl,S',by omega⟩
noncomputable def ri (r:List Rat) (i:Nat):Rat:=r.getD i 0
noncomputable def seg (b p:Nat) (h s:Rat):List Rat:=(List.range (p-b)).map fun i=>line b h s (b+1+i)
theorem AC (b p:Nat) (h s:Rat):(seg b p h s).length=p-b:=by simp[seg]
theorem EA {b t k m:Nat} {h s:Rat} (hh:Sz k h) (hs:Sz m s) (hb:b<=t) (ht:t<=100):Sz (k+m+8) (line b h s t):=by
 unfold line;have s7:=XW (i:=(t:Int)-(b:Int)) %[|5];rw[Zs hb] at s7;exact (hh.add (hs.mul s7)).mono %[|5]
noncomputable def S_21:DSp:=fun ds M Q E=>∃ (b p k:Nat) (h v:Rat),ds=[.int b,nm h,.tup [.int p,nm v]]/\b<p/\p<=100/\Sz k h/\Sz k v/\k<=1900 /\
 ∀ q M',M q=none->MExt M M'->M' q=some (.ls ((seg b p h (Yc b h p v)).map nm))->Q (.lst q) M'
noncomputable def C_21:CSs:=%[.asg (.tup %[.name 3,.name 4|0]) (.var 2),.set 5 (.call "rise" S_19 %[.var 0,.var 1,.var 3,.var 4|0]),.ret (.comp ["begin","height","touch","at","other_height","climb","many"] 1 (.name 6) (.rng %[.int 1,.bin .Add (.bin .Sub (.var 3) (.var 0)) (.int 1)|0]) (.call "added" S_4 %[.var 1,.call "multiplied" S_6 %[.var 5,.tup %[.var 6,.int 1|0]|0]|0]))|0]
theorem vc_21:∀ ds M R E,S_21 ds M R E->rSs C_21 (ends R E) (Y1 6 ds) M:=by
 rintro ds M R E ⟨b,p,k,h,v,rfl,hb,hp,sh,sv,hk,q⟩;unfold C_21;sleep 1;sleep 1;refine⟨b,p,h,v,rfl,hb,hp,⟨k,k,sv,sh,by omega⟩,?_⟩;sleep 1;have ss:=ZV sv sh hb hp;refine YB (List.range (p-b)) (fun i=>.int (1+(i:Int))) (fun i=>nm (line b h (Yc b h p v) (b+1+i))) ?_ (by simp;omega) ?_ ?_
 ·intro R' r
  simp[0,rSs,Yn,vAt,vHd,Y7,Yp,Yl,YM,dFor,YQ,bMul,bAdd,iOp,sOp,fLen,Yd,Yo,fIsi,fAll,fAny,Yi,and_assoc,sizeLine_eq,YM];refine⟨by omega,by omega,?_⟩;have e:rngD 1 1 (p-b)=(List.range (p-b)).map fun i=>.int (1+(i:Int)):=by
   unfold rngD;simp
  rw[e];exact r _ fun _ _=>trivial
 ·intro i hi' l M' R' hl e r
  obtain⟨a,rfl⟩:=len1 hl;have hi2:i<p-b:=by simpa using hi'
  sleep 2;have s7:=XW (i:=1+(i:Int)) %[|5];have en:(D.tup [D.int (1+(i:Int)),D.int 1])=nm ((1+(i:Int):Int):Rat):=(CZ _).symm;refine⟨_,((1+(i:Int):Int):Rat),by rw[en],.mk ss s7 %[|5],?_⟩;refine⟨h,_,rfl,.mk sh (ss.mul s7) %[|5],?_⟩;have el:h+Yc b h p v*((1+(i:Int):Int):Rat)=line b h (Yc b h p v) (b+1+i):=by
   unfold line;have:((b+1+i:Nat):Rat)-(b:Rat)=((1+(i:Int):Int):Rat):=by push_cast;grind
   rw[this]
  rw[el];exact r [_] M' rfl (.refl _)
 ·intro q' M' hq e l
  refine q q' M' hq e ?_;rw[l];simp[seg]
structure Told (t:List (Rat×Rat)) (k:Nat) (r:List Rat):Prop where
 len:r.length=t.length
 taut:Taut (lo t) (hi t) (ri r) (t.length-1)
 first:ri r 0=lo t 0
 last:ri r (t.length-1)=lo t (t.length-1)
 sz:∀ x∈r,Sz (3*k+16) x
noncomputable def S_22:DSp:=fun ds M Q E=>∃ d t k,ds=[d]/\Sq M d (t.map pl)/\Places t k/\1<=t.length/\lo t 0=hi t 0/\lo t (t.length-1)=hi t (t.length-1)/\∀ (r:List Rat) M',Told t k r->MExt M M'->Q (rw r) M'
noncomputable def C_22:CSs:=%[.set 1 (.tup %[.bin .Sub (.bi .len %[.var 0|0]) (.int 1),.ix (.ix (.var 0) (.neg (.int 1))) (.int 0)|0]),.set 2 (.lst %[.ix (.ix (.var 0) (.int 0)) (.int 0)|0]),.whl (.cmp .Lt (.bi .len %[.var 2|0]) (.bi .len %[.var 0|0])) %[.par 3 4 (.bin .Sub (.bi .len %[.var 2|0]) (.int 1)) (.ix (.var 2) (.neg (.int 1))),.set 5 (.call "next_touch" S_20 %[.var 0,.var 3,.var 4|0]),.expr (.ext 2 (.call "straight_on" S_21 %[.var 3,.var 4,.ife (.cmp .Is (.var 5) .non) (.var 1) (.ix (.var 5) (.int 0))|0]))|0],.ret (.bi .tuple %[.var 2|0])|0]
theorem EF {r s:List Rat} {i:Nat} (h:i<r.length):ri (r++s) i=ri r i:=by
 simp only[ri,List.getD];rw[List.getElem?_append_left h]
theorem Cl {r s:List Rat} {i:Nat} (h:r.length<=i):ri (r++s) i=ri s (i-r.length):=by
 simp only[ri,List.getD];rw[List.getElem?_append_right h]
theorem GF {b p:Nat} {h s:Rat} {i:Nat} (hi':i<p-b):ri (seg b p h s) i=line b h s (b+1+i):=by
 simp[ri,seg,List.getD,hi']
theorem Yy {r:List Rat} {i:Nat} (h:i<r.length):ri r i∈r:=by
 simp only[ri,List.getD,List.getElem?_eq_getElem h,Option.getD_some];exact List.getElem_mem h
theorem WG {r:List Rat} {i:Nat} (h:i<r.length):(r.map nm)[i]?=some (nm (ri r i)):=by
 simp[ri,List.getD,h]
theorem XY (h:1<=r.length):L2.atI (r.map nm) (-1)=some (nm (ri r (r.length-1))):=by
 have hne:r.map nm≠[]:=by intro z;simp at z;subst z;simp at h
 rw[Wg hne,List.getLast_eq_getElem];have hl':r.length-1<r.length:=by omega
 simp[ri,List.getD,hl']
theorem EE (hx:x∈seg b p h s):∃ t,b<t/\t<=p/\x=line b h s t:=by
 unfold seg at hx;obtain⟨i,hi',rfl⟩:=List.mem_map.mp hx;have:=List.mem_range.mp hi';exact⟨b+1+i,by omega,by omega,rfl⟩
theorem NT.seg (P:Places t k) (hb:b+1<t.length) (tie:lo t (t.length-1)=hi t (t.length-1)) (N:NT t b h res) :
  ∃ p v,(res.getD (t.length-1,lo t (t.length-1)))=(p,v)/\b<p/\p<t.length/\Sz k v/\Seg (lo t) (hi t) (t.length-1) b h (Yc b h p v) p/\(p=t.length-1->v=lo t (t.length-1)):=by
 cases res with
 | none =>
  rcases N with N|⟨la,ha,SL,FH,S⟩
  ·omega
  ·refine⟨_,_,rfl,by omega,by omega,P.slo _ %[|5],?_,fun _=>rfl⟩
   have en:t.length=t.length-1+1:=by omega
   rw[en] at S;obtain⟨_,_,e3,e4⟩:=S.fin tie;rw[tie,<- e3];exact e4
 | some pv =>
  obtain⟨p,v⟩:=pv;obtain⟨la,ha,SL,FH,e,S,he,c⟩:=N;rcases c with ⟨c,rfl,rfl⟩|⟨c0,c,rfl,rfl⟩
  ·have:=S.ha0;have:=S.ha1
   refine⟨_,_,rfl,by omega,by omega,P.shi _ %[|5],?_,fun z=>by omega⟩;rw[<- S.haE];exact S.up %[|5] c
  ·have:=S.la0;have:=S.la1
   refine⟨_,_,rfl,by omega,by omega,P.slo _ %[|5],?_,fun z=>by omega⟩;rw[<- S.laE];exact S.down %[|5] c
structure Part (t:List (Rat×Rat)) (k:Nat) (r:List Rat):Prop where
 one:1<=r.length
 le:r.length<=t.length
 drawn:Drawn (lo t) (hi t) (ri r) (t.length-1) (r.length-1)
 first:ri r 0=lo t 0
 szb:Sz k (ri r (r.length-1))
 sz:∀ x∈r,Sz (3*k+16) x
 last:r.length=t.length->ri r (t.length-1)=lo t (t.length-1)
theorem Part.start (P:Places t k) (h1:1<=t.length) (t0:lo t 0=hi t 0):Part t k [lo t 0]:=by
 refine⟨Nat.le_refl 1,h1,.start (by show lo t 0<=lo t 0;grind) (by show lo t 0<=hi t 0;grind),rfl,P.slo 0 %[|5],?_,?_⟩
 ·intro x hx;simp at hx;subst hx;exact (P.slo 0 %[|5]).mono %[|5]
 ·intro z;simp at z;rw[<- z];rfl
theorem Part.next (A:Part t k r) (P:Places t k) (tn:lo t (t.length-1)=hi t (t.length-1)) (hb:r.length-1<p) (hp:p<t.length) (sv:Sz k v)
  (S:Seg (lo t) (hi t) (t.length-1) (r.length-1) (ri r (r.length-1)) (Yc (r.length-1) (ri r (r.length-1)) p v) p) (he:p=t.length-1->v=lo t (t.length-1)) :
  Part t k (r++seg (r.length-1) p (ri r (r.length-1)) (Yc (r.length-1) (ri r (r.length-1)) p v))/\(r++seg (r.length-1) p (ri r (r.length-1)) (Yc (r.length-1) (ri r (r.length-1)) p v)).length=p+1:=by
 have most:=P.most;have a1:=A.one;have szb:=A.szb;generalize hs:Yc (r.length-1) (ri r (r.length-1)) p v=s at *;generalize hh:ri r (r.length-1)=h at *;have hL:(r++seg (r.length-1) p h s).length=p+1:=by rw[List.length_append,AC];omega
 have low:∀ i,i<=r.length-1->ri (r++seg (r.length-1) p h s) i=ri r i:=fun i hi'=>EF %[|5];have new:∀ i,r.length-1<i->i<=p->ri (r++seg (r.length-1) p h s) i=line (r.length-1) h s i:=fun i h1 h2=>by
  rw[Cl %[|5],GF %[|5]]
  congr 1;omega
 have ss:Sz (k+k+8) s:=by rw[<- hs];exact ZV sv szb hb %[|5]
 have atp:line (r.length-1) h s p=v:=by rw[<- hs];exact Ym _ _ hb
 refine⟨⟨by omega,by omega,?_,by rw[low 0 %[|5]];exact A.first,?_,?_,?_⟩,hL⟩
 ·rw[hL,Nat.add_sub_cancel]
  have D':=A.drawn.congr (r':=ri (r++seg (r.length-1) p h s)) fun i hi'=>(low i hi').symm;have e0:ri (r++seg (r.length-1) p h s) (r.length-1)=h:=by rw[low _ %[|3]];exact hh
  refine D'.next (s:=s) %[|5] (fun i hi'=>P.ok i %[|5]) tn (by rw[e0];exact S) fun i h1 h2=>?_;rw[e0];exact new i h1 h2
 ·rw[hL,Nat.add_sub_cancel,new p hb %[|3],atp];exact sv
 ·intro x hx
  rcases List.mem_append.mp hx with hx|hx
  ·exact A.sz x hx
  ·obtain⟨i,h1,h2,rfl⟩:=EE hx
   exact (EA szb ss %[|5] %[|5]).mono %[|5]
 ·intro z
  rw[hL] at z;have hp':p=t.length-1:=by omega
  rw[<- hp',new p hb %[|3],atp,he hp',hp']
noncomputable def TRow (M:Mem) (d:DL.D) (t:List (Rat×Rat)) (k:Nat) (p0:Addr) (m:Nat) (δ:DSt) (M':Mem):Prop :=
 ∃ (r:List Rat) (w3 w4 w5:Option DL.D),MExt M M'/\M' p0=some (.ls (r.map nm))/\Part t k r/\δ=[some d,some (.tup [.int ((t.length:Int)-1),nm (lo t (t.length-1))]),some (.lst p0),w3,w4,w5]/\m=t.length-r.length
theorem vc_22:∀ ds M R E,S_22 ds M R E->rSs C_22 (ends R E) (Y1 6 ds) M:=by
 rintro ds M R E ⟨d,t,k,rfl,sq,P,h1,t0,tn,q⟩;have most:=P.most;have few:=P.few;have lenD:∀ M' (Q:DK),MExt M M'->Q (.int t.length) M'->fLen [d] M' Q:=fun M' Q e z=>(sq.ext e).len (by simpa using z);have ix:∀ M' (i:Nat) (Q:DK),MExt M M'->i<t.length->Q (pl (lo t i,hi t i)) M'->iOp d (.int i) M' Q:=fun M' i Q e hi' z=>(sq.ext e).ix (Zf (J4 hi')) z;have ixl:∀ (Q:DK),Q (pl (lo t (t.length-1),hi t (t.length-1))) M->iOp d (.int (-1)) M Q:=fun Q z=>by
  refine sq.ix ?_ z;have hne:t.map pl≠[]:=by intro z;simp at z;subst z;simp at h1
  rw[Wg hne];have:=J4 (t:=t) (i:=t.length-1) %[|5];rw[List.getElem?_eq_getElem (by simp;omega)] at this;simp only[Option.some.injEq] at this;rw[<- this];simp[List.getLast_eq_getElem]
 unfold C_22;sleep 1;refine lenD M _ (.refl M) ?_;refine ixl _ ?_;refine Sq.ix (.inl rfl) (YG _ _) ?_;sleep 1;refine ix M 0 _ (.refl M) %[|5] ?_;refine Sq.ix (.inl rfl) (YG _ _) ?_;intro p0 M0 e0 x0 l0
 (try dsimp only);rw[Yr];simp[0,Yn,vAt,vHd,Y7,Yp,bMul,bAdd,sOp,Yd,Yo,fIsi,Yi,and_assoc,sizeLine_eq,Yh,Ao]
 refine⟨TRow M d t k p0,⟨_,[lo t 0],none,none,none,x0,l0,.start P h1 t0,rfl,rfl⟩,?_⟩;rintro m δ M1 ⟨r,w3,w4,w5,x1,l1,A,rfl,rfl⟩;have a1:=A.one;have a2:=A.le;have hlen:∀ (Q:DK),Q (.int r.length) M1->fLen [.lst p0] M1 Q:=fun Q z=>Sq.len (.inr (.inr ⟨p0,rfl,l1⟩)) (by simpa using z);sleep 2;refine hlen _ ?_;refine lenD M1 _ x1 ?_;by_cases hz:r.length<t.length
 ·simp[hz]
  refine⟨fun δ' M'=>∃ m',m'<t.length-r.length/\TRow M d t k p0 m' δ' M',fun _ _ z=>z,?_⟩;sleep 1;refine hlen _ ?_;refine Sq.ix (.inr (.inr ⟨p0,rfl,l1⟩)) (XY a1) ?_;have eb:((r.length:Int)-1)=((r.length-1:Nat):Int):=by omega
  rw[eb];sleep 1;refine⟨d,t,k,r.length-1,ri r (r.length-1),rfl,sq.ext x1,P,by omega,A.szb,fun res e' N=>?_⟩;obtain⟨p,v,e1,hbp,hpt,sv,S,hend⟩:=N.seg P %[|5] tn;obtain⟨B,hL⟩:=A.next P tn hbp hpt sv S hend;sleep 1;have fin:∀ (w3 w4 w5:Option DL.D) q' M',M1 q'=none->MExt M1 M'->M' q'=some (.ls ((seg (r.length-1) p (ri r (r.length-1)) (Yc (r.length-1) (ri r (r.length-1)) p v)).map nm)) ->
    ∃ b,DL.D.lst q'=.lst b/\∃ xs,M' p0=some (.ls xs)/\∃ zs,M' b=some (.ls zs)/\xs.length+zs.length<=16777216/\∃ m',m'<t.length-r.length/\TRow M d t k p0 m' [some d,some (.tup [.int ((t.length:Int)-1),nm (lo t (t.length-1))]),some (.lst p0),w3,w4,w5] (M'.upd p0 (.ls (xs++zs))):=fun w3 w4 w5 q' M' n1 x2 l2=>by
   refine⟨q',rfl,_,x2 _ _ l1,_,l2,?_,t.length-(p+1),by omega,_,w3,w4,w5,MExt.upd_new e0 (x1.trans x2),mupd_same.trans (by rw[<- List.map_append]),B,rfl,by rw[hL]⟩;simp only[List.length_map,AC];omega
  cases res with
  | none =>
   simp only[Option.getD_none,Prod.mk.injEq] at e1;obtain⟨rfl,rfl⟩:=e1;refine⟨⟨_,l1⟩,?_⟩;refine Or.inr ⟨rfl,r.length-1,t.length-1,k,ri r (r.length-1),lo t (t.length-1),?_,hbp,by omega,A.szb,sv,P.few,fin _ _ _⟩;rw[show ((t.length:Int)-1)=((t.length-1:Nat):Int) by omega]
  | some pv =>
   simp only[Option.getD_some] at e1;subst e1;refine⟨⟨_,l1⟩,?_⟩;refine Or.inl ⟨rfl,Sq.ix (.inl rfl) (YG _ _) ?_⟩;exact⟨r.length-1,p,k,ri r (r.length-1),v,rfl,hbp,by omega,A.szb,sv,P.few,fin _ _ _⟩
 ·simp[hz]
  have el:r.length=t.length:=by omega
  sleep 1;refine⟨_,l1,?_⟩;refine q r M1 ⟨el,?_,A.first,A.last el,A.sz⟩ x1;have D:=A.drawn;rw[el] at D;exact D.taut
structure Fine (t:List (Rat×Rat)) (k:Nat):Prop where
 tube:Tube t
 tie:tied t=true
 slo:∀ i,i<t.length->Sz k (lo t i)
 shi:∀ i,i<t.length->Sz k (hi t i)
 few:k<=1900
theorem Fine.places (F:Fine t k):Places t k:=by
 refine⟨by have:=F.tube.most;omega,fun i hi'=>?_,F.slo,F.shi,F.few⟩;have:=F.tube.ok (t[i]) (List.getElem_mem hi')
 simpa[lo,hi,List.getD,hi'] using this
theorem Fine.gd (F:Fine t k):Gd M (tb t):=by
 refine .mk fun d hd=>?_;obtain⟨p,hp,rfl⟩:=List.mem_map.mp hd;obtain⟨i,hi',rfl⟩:=List.getElem_of_mem hp;have a:=F.slo i hi';have b:=F.shi i hi';have few:=F.few;simp[lo,hi,List.getD,hi'] at a b;refine .mk fun e he=>?_;simp at he;rcases he with rfl|rfl
 ·exact .nm a %[|5]
 ·exact .nm b %[|5]
noncomputable def S_23:DSp:=fun ds M Q E=>∃ d,ds=[d]/\Gd M d/\(Xs d=false/\(∀ M',MExt M M'->E (.exc "NoTube" .non) M')\/∃ t k,d=tb t/\Fine t k/\∀ (r:List Rat) M',Told t k r->MExt M M'->Q (rw r) M')
noncomputable def C_23:CSs:=%[.expr (.call "want_tied" S_14 %[.var 0|0]),.ret (.call "taut_row" S_22 %[.var 0|0])|0]
theorem vc_23:∀ ds M R E,S_23 ds M R E->rSs C_23 (ends R E) (Y1 1 ds) M:=by
 rintro ds M R E ⟨d,rfl,gd,h⟩;unfold C_23;sleep 1;refine⟨d,rfl,gd,fun M1 x1=>?_⟩;rcases h with ⟨h,q⟩|⟨t,k,rfl,F,q⟩
 ·rw[h,if_neg %[|4]];exact q M1 x1
 ·rw[U7 F.tube,F.tie,if_pos rfl]
  sleep 1;have two:=F.tube.two;have ti:=F.tie;unfold tied at ti;simp at ti;exact⟨_,t,k,rfl,.inl rfl,F.places,by omega,ti.1,ti.2,fun r M2 T x2=>q r M2 T (x1.trans x2)⟩
noncomputable def Pk (M:Mem) (a:Addr):Prop:=∃ v:Int,M a=some (.ls [.int v])
structure Dr (a:Addr) (M M':Mem):Prop where
 pk:Pk M' a
 keep:∀ b o,b≠a->M b=some o->M' b=some o
theorem Dr.take:Dr a M (M.upd a (.ls [.int v])):=⟨⟨v,mupd_same⟩,fun b o h e=>by rw[Yv h];exact e⟩
theorem Pk.ext (p:Pk M a) (e:MExt M M'):Pk M' a:=by obtain⟨v,h⟩:=p;exact⟨v,e _ _ h⟩
theorem Dr.ext (p:Pk M a) (e:MExt M M'):Dr a M M':=⟨p.ext e,fun b o _ h=>e b o h⟩
theorem Dr.trans (x:Dr a M M1) (y:Dr a M1 M2):Dr a M M2:=⟨y.pk,fun b o h e=>y.keep b o h (x.keep b o h e)⟩
theorem Pk.ne (k:Pk M a) (h:M p=none):p≠a:=fun z=>by obtain⟨v,e⟩:=k;rw[z,e] at h;cases h
theorem Dr.upd_new (x:Dr a M M') (h:M p=none) (hp:p≠a):Dr a M (M'.upd p o):=by
 obtain⟨v,e⟩:=x.pk;refine⟨⟨v,by rw[Yv hp.symm];exact e⟩,fun b u hb e'=>?_⟩;have:b≠p:=fun z=>by rw[z,h] at e';cases e'
 rw[Yv this];exact x.keep b u hb e'
theorem Ws {n:Nat} (h:n<2 ^ 200):n<2 ^ 8000:=Nat.lt_of_lt_of_le h (Yf %[|4])
theorem YC {a:Addr} {n:Int} {M:Mem} {Q E:DK} (p:Pk M a) (hn:0<n) (hn2:n.natAbs<2 ^ 200) (q:∀ (r:Int) M',0<=r->r<n->Dr a M M'->Q (.int r) M'):S_50 [.lst a,.int n] M Q E:=by
 obtain⟨v,h⟩:=p;exact⟨a,n,v,rfl,h,hn,Ws hn2,fun r v' h0 h1=>q r _ h0 h1 .take⟩
theorem UI:(D.tup [D.int 0,D.int 1])=nm 0:=rfl
theorem Ys (l:M p=some (.ls xs)) (e:L2.atI xs i=some v) (q:Q v M):iOp (.lst p) (.int i) M Q:=⟨xs,v,l,e,q⟩
theorem As (h0:0<=r) (h1:r<xs.length):∃ v,v∈xs/\L2.atI xs r=some v:=by
 obtain⟨n,rfl⟩:=Int.eq_ofNat_of_zero_le h0;have hn:n<xs.length:=by omega
 exact⟨xs[n],List.getElem_mem hn,Zf (List.getElem?_eq_getElem hn)⟩
theorem divInt_nonneg (ha:0<=a) (hb:0<=b):0<=Rat.divInt a b:=by
 exact Rat.divInt_nonneg ha hb
noncomputable def mid {α:Type} (t:List α):List α:=(t.drop 1).take (t.length-2)
noncomputable def Y0 (r:List Rat):List Rat:=(List.range (r.length-1)).map fun i=>ri r (i+1)-ri r i
theorem Yz (r:List Rat):(Y0 r).length=r.length-1:=by simp[Y0]
theorem Zw (h:i+1<r.length):ri (Y0 r) i=ri r (i+1)-ri r i:=by
 have:i<r.length-1:=by omega
 simp[ri,Y0,List.getD,this]
theorem XZ {r:List Rat} {i:Nat} {M:Mem} {Q:DK} (h:i<r.length) (q:Q (nm (ri r i)) M):iOp (rw r) (.int i) M Q:=Sq.ix (.inl rfl) (Zf (WG h)) q
theorem GE (q:Q (.int r.length) M):fLen [rw r] M Q:=Sq.len (.inl rfl) (by simpa using q)
theorem GG (h:r.length=r'.length) (e:∀ i,i<r.length->ri r i=ri r' i):r=r':=by
 refine List.ext_getElem h fun i h1 h2=>?_;have:=e i h1
 simpa[ri,List.getD,h1,h2] using this
theorem Fh (c:Int) (n:Nat) (h1:1<=c) (h2:c<=100):∃ z:Nat,z<=100/\(z:Int)<=c/\(if (1:Int)<(if c<(n:Int) then c else (n:Int)) then (if c<(n:Int) then c else (n:Int)) else 1)=(z:Int):=by
 by_cases a:c<(n:Int)
 ·rw[if_pos a]
  by_cases b:1<c
  ·rw[if_pos b];exact⟨c.toNat,by omega,by omega,by omega⟩
  ·rw[if_neg b];exact⟨1,by omega,by omega,by omega⟩
 ·rw[if_neg a]
  by_cases b:(1:Int)<n
  ·rw[if_pos b];exact⟨n,by omega,by omega,rfl⟩
  ·rw[if_neg b];exact⟨1,by omega,by omega,by omega⟩
noncomputable def Y6 (q:Rat):List Rat->List Rat
 | []=>[q]
 | x::r=>q::Y6 (q+x) r
theorem Vj (a b:Rat) (r:List Rat):Y0 (a::b::r)=(b-a)::Y0 (b::r):=by
 unfold Y0;simp only[List.length_cons,Nat.add_sub_cancel];rw[List.range_succ_eq_map,List.map_cons,List.map_map]
 rfl
theorem Vg:∀ (a:Rat) (r:List Rat),Y6 a (Y0 (a::r))=a::r
 | a,[]=>rfl
 | a,b::r=>by
  rw[Vj];unfold Y6;rw[show a+(b-a)=b by grind,Vg b r]
theorem Zt (q:Rat) (s:List Rat):∃ r,Y6 q s=q::r:=by cases s<;>exact⟨_,rfl⟩
theorem XI:∀ (q:Rat) (s:List Rat),Y0 (Y6 q s)=s
 | q,[]=>rfl
 | q,x::s=>by
  unfold Y6;obtain⟨r,hr⟩:=Zt (q+x) s;rw[hr,Vj,<- hr,XI]
  congr 1;grind
theorem Zj (q:Rat) (s:List Rat):(Y6 q s).length=s.length+1:=by
 induction s generalizing q with
 | nil=>rfl
 | cons x s ih=>unfold Y6;rw[List.length_cons,ih];rfl
theorem Jg (h:1<=r.length):Y6 (ri r 0) (Y0 r)=r:=by
 cases r with
 | nil=>simp at h
 | cons a r=>exact Vg a r
theorem Xj (h1:l<=r.length) (h2:(r.length:Int)<=m):Ye l m (rw r)=true:=by
 unfold Ye rw;simp only[List.length_map,Bool.and_eq_true,decide_eq_true_eq];refine⟨⟨h1,h2⟩,?_⟩;rw[List.all_eq_true];intro x hx;obtain⟨q,_,rfl⟩:=List.mem_map.mp hx;exact X4 q
theorem Ua (h:∀ x∈r,Sz k x) (hk:k<=2900):Gd M (rw r):=.mk fun d hd=>by
 obtain⟨q,hq,rfl⟩:=List.mem_map.mp hd;exact .nm (h q hq) %[|5]
noncomputable def S_10:DSp:=fun ds M Q E=>∃ d,ds=[d]/\Gd M d/\∀ M',MExt M M'->Q (.bl (Ye 1 24 d)) M'
noncomputable def C_10:CSs:=%[.ret (.call "are_numbers" S_9 %[.var 0,.int 1,.bin .Sub (.glo "MOST_PLACES" ZU) (.int 1)|0])|0]
theorem vc_10:∀ ds M R E,S_10 ds M R E->rSs C_10 (ends R E) (Y1 1 ds) M:=by
 rintro ds M R E ⟨d,rfl,g,q⟩;unfold C_10;sleep 1;exact⟨d,1,24,rfl,by decide,g,q⟩
noncomputable def S_15:DSp:=fun ds M Q E=>∃ d,ds=[d]/\Gd M d/\∀ M',MExt M M'->if Ye 1 24 d=true then Q .non M' else E (.exc "NoRow" .non) M'
noncomputable def C_15:CSs:=%[.ife (.not (.call "are_steps" S_10 %[.var 0|0])) %[.rse "NoRow" %[.str "these are no steps"|0]|0] .nil|0]
theorem vc_15:∀ ds M R E,S_15 ds M R E->rSs C_15 (ends R E) (Y1 1 ds) M:=by
 rintro ds M R E ⟨d,rfl,g,q⟩;unfold C_15;sleep 1;refine⟨d,rfl,g,fun M1 x1=>?_⟩;have:=q M1 x1;cases h:Ye 1 24 d with
 | true=>rw [h,if_pos rfl] at this;simpa using this
 | false =>
  rw[h,if_neg %[|4]] at this;simp;sleep 1;exact this
noncomputable def S_16:DSp:=fun ds M Q E=>∃ r k,ds=[rw r]/\(∀ x∈r,Sz k x)/\k<=3900/\1<=r.length/\r.length<=100/\∀ M',MExt M M'->Q (rw (Y0 r)) M'
noncomputable def C_16:CSs:=%[.ret (.bi .tuple %[.comp ["row","at"] 1 (.name 1) (.rng %[.int 1,.bi .len %[.var 0|0]|0]) (.call "taken" S_5 %[.ix (.var 0) (.var 1),.ix (.var 0) (.bin .Sub (.var 1) (.int 1))|0])|0])|0]
theorem vc_16:∀ ds M R E,S_16 ds M R E->rSs C_16 (ends R E) (Y1 1 ds) M:=by
 rintro ds M R E ⟨r,k,rfl,sz,hk,h1,h2,q⟩;unfold C_16;sleep 1;refine YB (List.range (r.length-1)) (fun i=>.int (1+(i:Int))) (fun i=>nm (ri r (i+1)-ri r i)) ?_ (by simp;omega) ?_ ?_
 ·intro R' r'
  simp[0,Yn,vAt,vHd,Y7,Yp,bMul,bAdd,sOp,Yd,Yo,fIsi,Yi,and_assoc,sizeLine_eq,Yh,YM];refine GE ?_;have e:rngD 1 1 (r.length-1)=(List.range (r.length-1)).map fun i=>.int (1+(i:Int)):=by
   unfold rngD;simp
  refine⟨by omega,by omega,?_⟩
  (try refine⟨by omega,by omega,?_⟩)
  rw[show ((r.length:Int)-1).toNat=r.length-1 by omega,e];exact r' _ fun _ _=>trivial
 ·intro i hi' l M' R' hl e r'
  obtain⟨a,rfl⟩:=len1 hl;have hi2:i<r.length-1:=by simpa using hi'
  sleep 2;rw[show (1:Int)+(i:Int)=((i+1:Nat):Int) by omega];refine XZ (i:=i+1) %[|5] ?_;rw[show ((i+1:Nat):Int)-1=(i:Int) by omega];refine XZ (i:=i) %[|5] ?_;refine⟨_,_,rfl,.mk (sz _ (Yy %[|5])) (sz _ (Yy %[|5])) %[|5],?_⟩;exact r' [_] M' rfl (.refl _)
 ·intro p M' hp e l
  refine⟨_,l,?_⟩;have:=q M' e
  simpa[rw,Y0,Function.comp_def] using this
noncomputable def S_17:DSp:=fun ds M Q E=>∃ d e,ds=[d,e]/\Gd M d/\Gd M e/\(YK d=false/\(∀ M',MExt M M'->E (.exc "NoNumber" .non) M')\/YK d=true/\Ye 1 24 e=false/\(∀ M',MExt M M'->E (.exc "NoRow" .non) M') \/
 ∃ q s k,d=nm q/\e=rw s/\Sz k q/\(∀ x∈s,Sz k x)/\k<=250/\1<=s.length/\s.length<=24/\∀ M',MExt M M'->Q (rw (Y6 q s)) M')
noncomputable def RO (M:Mem) (q:Rat) (s:List Rat) (p:Addr) (i:Nat) (δ:DSt) (M':Mem):Prop :=
 MExt M M'/\M' p=some (.ls ((Y6 q (s.take i)).map nm))/\∃ w,δ=[some (nm q),some (rw s),some (.lst p),w]
theorem Bb (q:Rat) (s:List Rat) (x:Rat):Y6 q (s++[x])=Y6 q s++[(Y6 q s).getLast (by obtain⟨r,h⟩:=Zt q s;rw[h];exact List.cons_ne_nil _ _)+x]:=by
 induction s generalizing q with
 | nil=>rfl
 | cons y s ih =>
  simp only[List.cons_append,Y6];rw[ih];obtain⟨r,h⟩:=Zt (q+y) s;simp only[h,List.getLast_cons_cons,List.cons_append]
theorem WW:∀ {q:Rat} {s:List Rat} {m:Nat},Sz m q->(∀ x∈s,Sz k x)->∀ z∈Y6 q s,Sz (m+s.length*(k+1)) z
 | q,[],m,hq,hs,z,hz=>by
  simp[Y6] at hz;subst hz;exact hq.mono %[|5]
 | q,x::s,m,hq,hs,z,hz=>by
  unfold Y6 at hz;rcases List.mem_cons.mp hz with rfl|hz
  ·exact hq.mono %[|5]
  ·have:=WW (m:=m+k+1) (hq.add (hs x List.mem_cons_self)) (fun y hy=>hs y (List.mem_cons_of_mem _ hy)) z hz
   refine this.mono ?_;rw[List.length_cons,Nat.add_mul];omega
noncomputable def C_17:CSs:=%[.ife (.not (.call "is_number" S_2 %[.var 0|0])) %[.rse "NoNumber" %[.str "the first one is no number"|0]|0] .nil,.expr (.call "want_steps" S_15 %[.var 1|0]),.set 2 (.lst %[.var 0|0]),.fr (.name 3) (.seq (.var 1)) %[.expr (.app 2 (.call "added" S_4 %[.ix (.var 2) (.neg (.int 1)),.var 3|0]))|0],.ret (.bi .tuple %[.var 2|0])|0]
theorem vc_17:∀ ds M R E,S_17 ds M R E->rSs C_17 (ends R E) (Y1 4 ds) M:=by
 rintro ds M R E ⟨d,e,rfl,gd,ge,h⟩;unfold C_17;sleep 1;refine⟨d,rfl,gd,?_⟩;rcases h with ⟨h,q⟩|⟨h,h2,q⟩|⟨q,s,k,rfl,rfl,sq,ss,hk,h1,h2,Qh⟩
 ·rw[h]
  simp;sleep 1;exact q M (.refl M)
 ·rw[h]
  simp;sleep 1;refine⟨e,rfl,ge,fun M1 x1=>?_⟩;rw[h2,if_neg %[|4]];exact q M1 x1
 ·rw[X4]
  simp;sleep 1;refine⟨rw s,rfl,ge,fun M1 x1=>?_⟩;rw[Xj %[|5] %[|5],if_pos rfl];sleep 1;intro p0 M2 e2 x2 l2;sleep 3;rw[show rw s=.tup (s.map nm) from rfl];dsimp only;refine YA (RO M q s p0) (fun _ _ _ _=>trivial) ?_ ?_ ⟨x1.trans x2,l2,_,rfl⟩
  ·rintro δ M' ⟨x3,l3,w,rfl⟩
   rw[List.length_map,List.take_length] at l3;sleep 1;exact⟨_,l3,Qh M' x3⟩
  ·rintro i x hx N hN δ M' ⟨x3,l3,w,rfl⟩
   have hi':i<s.length:=by
    have:=(List.getElem?_eq_some_iff.mp hx).1
    simpa using this
   have ex:x=nm (ri s i):=by
    have:=WG hi';rw[hx] at this;exact Option.some.inj this
   subst ex;have es:s.take (i+1)=s.take i++[ri s i]:=by
    rw[List.take_add_one];simp[ri,List.getD,hi']
   obtain⟨r0,hr0⟩:=Zt q (s.take i);have ne:Y6 q (s.take i)≠[]:=by rw[hr0];exact List.cons_ne_nil _ _
   have slen:=Zj q (s.take i);have tl:(s.take i).length=i:=by rw[List.length_take];omega
   sleep 2;sleep 1;refine⟨⟨_,l3⟩,?_⟩;have hne:(Y6 q (s.take i)).map nm≠[]:=by simpa using ne
   refine Ys l3 (Wg hne) ?_;rw[List.getLast_map];have s1:=WW sq (fun x hx=>ss x (List.mem_of_mem_take hx)) _ (List.getLast_mem ne);have s2:=ss _ (Yy hi');rw[tl] at s1;have hb:i*(k+1)<=24*251:=Nat.mul_le_mul %[|5] %[|5];refine⟨_,_,rfl,.mk s1 s2 %[|5],?_⟩;refine⟨_,l3,?_,?_⟩
   ·simp only[List.length_map,slen,tl];omega
   ·refine hN _ _ ⟨MExt.upd_new (MExt.none x1 e2) x3,?_,_,rfl⟩
    rw[mupd_same,es,Bb,List.map_append]
    rfl
theorem Jx (X:K.In h) (G:h.Ns mainGlobals mg) (e:PySem.W.nsIn K mainGlobals n=some (some (.ref a)))
  (lk:K.lookup a=some ⟨.type "tuple",dd,.seq #[.int i t,.int j u] m,sl⟩):GloE K mg n (.tup [.int i,.int j]):=by
 refine⟨.ref a,.ref a,PySem.W.mg_of X G e,rfl,fun H=>.tup (vs:=[.int i,.int j]) (.inr ⟨_,#[.int i t,.int j u],m,lk,rfl,rfl,?_,?_⟩) (.cons (.int _) (.cons (.int _) .nil))⟩
 ·rw[sizeLine_eq];show 2<=16777216;decide
 ·exact .cons ⟨_,rfl⟩ (.cons ⟨_,rfl⟩ .nil)
abbrev YY:DL.D:=.tup [.int 0,.int 1]
theorem Dw (h:Gd M (nm q)):Sz 3000 q:=by
 have a:=h.tup (.int q.num) (by simp);have b:=h.tup (.int q.den) (by simp);unfold Gd at a b;exact⟨a,by simpa using b⟩
noncomputable def Ya (s:List Rat) (i:Nat):Rat:=ri (Y6 0 s) i
noncomputable def Z1 (s:List Rat) (b a:Rat) (i:Nat):Rat×Rat:=if i=0 then (0,0) else if i=s.length then (Ya s i,Ya s i) else (Ya s i-b,Ya s i+a)
noncomputable def Yk (s:List Rat) (b a:Rat):List (Rat×Rat):=(List.range (s.length+1)).map (Z1 s b a)
theorem YH (s:List Rat) (b a:Rat):(Yk s b a).length=s.length+1:=by simp[Yk]
theorem YR (s:List Rat):Ya s 0=0:=by
 obtain⟨r,h⟩:=Zt 0 s;unfold Ya;rw[h];rfl
theorem Vh:∀ {s:List Rat} {q:Rat} {i:Nat},i<s.length->ri (Y6 q s) (i+1)=ri (Y6 q s) i+ri s i
 | x::s,q,0,_=>by
  unfold Y6;obtain⟨r,h⟩:=Zt (q+x) s;rw[h];rfl
 | x::s,q,i+1,h=>by
  have:=Vh (s:=s) (q:=q+x) (i:=i) (by simpa using h);unfold Y6;exact this
theorem Ce {s:List Rat} {k i:Nat} (h:∀ x∈s,Sz k x) (hi':i<=s.length):Sz (1+s.length*(k+1)) (Ya s i) :=
 WW (m:=1) ⟨by decide,by decide⟩ h _ (Yy (by rw[Zj];omega))
theorem Z2 {s:List Rat} {b a:Rat} {i:Nat} (h:i<=s.length):(Yk s b a).getD i (0,0)=Z1 s b a i:=by
 have:i<s.length+1:=by omega
 simp[Yk,List.getD,this]
theorem J5 {s:List Rat} {b a:Rat} {k i:Nat} (h:∀ x∈s,Sz k x) (sb:Sz k b) (sa:Sz k a) (hi':i<=s.length):Sz (2+s.length*(k+1)+k) (Z1 s b a i).1/\Sz (2+s.length*(k+1)+k) (Z1 s b a i).2:=by
 have z:=Ce h hi';unfold Z1;split
 ·have s1:Sz 1 (0:Rat):=⟨by decide,by decide⟩
  exact⟨s1.mono %[|5],s1.mono %[|5]⟩
 ·split
  ·exact⟨z.mono %[|5],z.mono %[|5]⟩
  ·exact⟨(z.sub sb).mono %[|5],(z.add sa).mono %[|5]⟩
theorem Jh {s:List Rat} {b a:Rat} {k m:Nat} (h:∀ x∈s,Sz k x) (sb:Sz k b) (sa:Sz k a) (b0:0<=b) (a0:0<=a) (h1:1<=s.length) (h2:s.length<=24) (hk:k<=50) (hm:m=26+25*k):Fine (Yk s b a) m:=by
 have L:=YH s b a;have hb:s.length*(k+1)<=24*(k+1):=Nat.mul_le_mul_right _ h2;refine⟨⟨by omega,by omega,fun p hp=>?_⟩,?_,fun i hi'=>?_,fun i hi'=>?_,by omega⟩
 ·unfold Yk at hp
  obtain⟨i,hi',rfl⟩:=List.mem_map.mp hp;unfold Z1;split
  ·decide
  ·split
   ·show Ya s i<=Ya s i;grind
   ·show Ya s i-b<=Ya s i+a;grind
 ·unfold tied lo hi
  rw[Z2 %[|5],L,Nat.add_sub_cancel,Z2 %[|5]];have e0:Z1 s b a 0=(0,0):=rfl;have e1:(Z1 s b a s.length).1=(Z1 s b a s.length).2:=by
   unfold Z1;rw[if_neg %[|5],if_pos rfl]
  rw[e0,e1];simp
 ·unfold lo;rw[Z2 %[|5]]
  exact (J5 h sb sa %[|5]).1.mono %[|5]
 ·unfold hi;rw[Z2 %[|5]]
  exact (J5 h sb sa %[|5]).2.mono %[|5]
noncomputable def S_18:DSp:=fun ds M Q E=>∃ s b a k,ds=[rw s,nm b,nm a]/\(∀ x∈s,Sz k x)/\Sz k b/\Sz k a/\k<=50/\1<=s.length/\s.length<=24/\∀ M',MExt M M'->Q (tb (Yk s b a)) M'
theorem Cf {s:List Rat} {b a:Rat}:((((Y6 0 s).map fun h=>(h-b,h+a)).set 0 (Ya s 0,Ya s 0)).set s.length (Ya s s.length,Ya s s.length))=Yk s b a:=by
 have L:=Zj 0 s;refine List.ext_getElem (by simp[YH,L]) fun i h1 h2=>?_;rw[YH] at h2;have e2:(Yk s b a)[i]'(by rw[YH];exact h2)=Z1 s b a i:=by simp[Yk]
 rw[e2,List.getElem_set,List.getElem_set,List.getElem_map];unfold Z1;have e3:(Y6 0 s)[i]'%[|5]=Ya s i:=by
  have:i<(Y6 0 s).length:=by omega
  simp[Ya,ri,List.getD,this]
 rw[e3];by_cases c1:i=0
 ·subst c1
  by_cases c2:s.length=0
  ·rw[if_pos c2,c2,YR];simp
  ·rw[if_neg c2,if_pos rfl,if_pos rfl,YR]
 ·by_cases c2:s.length=i
  ·rw[if_pos c2,if_neg c1,if_pos c2.symm,c2]
  ·rw[if_neg c2,if_neg (Ne.symm c1),if_neg c1,if_neg (Ne.symm c2)]
theorem Vn {r:List Rat} {M:Mem} {Q:DK} (h:1<=r.length) (q:Q (nm (ri r (r.length-1))) M):iOp (rw r) (.int (-1)) M Q:=Sq.ix (.inl rfl) (XY h) q
noncomputable def C_18:CSs:=%[.set 3 (.call "row_of" S_17 %[.glo "NOUGHT" YY,.var 0|0]),.set 4 (.comp ["numbers","below","above","sums","places","height"] 1 (.name 5) (.seq (.var 3)) (.tup %[.call "taken" S_5 %[.var 5,.var 1|0],.call "added" S_4 %[.var 5,.var 2|0]|0])),.asg (.sub (.var 4) (.int 0)) (.tup %[.ix (.var 3) (.int 0),.ix (.var 3) (.int 0)|0]),.asg (.sub (.var 4) (.neg (.int 1))) (.tup %[.ix (.var 3) (.neg (.int 1)),.ix (.var 3) (.neg (.int 1))|0]),.ret (.bi .tuple %[.var 4|0])|0]
theorem vc_18:∀ ds M R E,S_18 ds M R E->rSs C_18 (ends R E) (Y1 5 ds) M:=by
 rintro ds M R E ⟨s,b,a,k,rfl,sz,sb,sa,hk,h1,h2,q⟩;have L:=Zj 0 s;have sz':∀ x∈Y6 0 s,Sz (1+s.length*(k+1)) x:=WW (m:=1) ⟨by decide,by decide⟩ sz;have hb:s.length*(k+1)<=24*(k+1):=Nat.mul_le_mul_right _ h2;have s1:Sz 1 0:=⟨by decide,by decide⟩;unfold C_18;sleep 1;refine⟨nm 0,rw s,rfl,.nm s1 %[|4],Ua sz %[|5],.inr (.inr ⟨0,s,k+1,rfl,rfl,s1.mono %[|5],fun x hx=>(sz x hx).mono %[|5],by omega,h1,h2,fun M1 x1=>?_⟩)⟩;sleep 1;refine YB (Y6 0 s) nm (fun h=>pl (h-b,h+a)) (Ux rfl) %[|5] ?_ ?_
 ·intro x hx l M' R' hl ee rr
  obtain⟨z,rfl⟩:=len1 hl;sleep 2;refine⟨_,_,rfl,.mk (sz' x hx) sb %[|5],?_⟩;refine⟨_,_,rfl,.mk (sz' x hx) sa %[|5],?_⟩;exact rr [_] M' rfl (.refl _)
 intro p2 M2 e2 x2 l2;sleep 1;refine XZ (i:=0) %[|5] (XZ (i:=0) %[|5] ?_);refine⟨_,l2,0,?_,?_⟩
 ·simp[L2.ixN,L]
 sleep 1;refine Vn %[|5] (Vn %[|5] ?_);refine⟨_,mupd_same,s.length,?_,?_⟩
 ·simp[L2.ixN,L];omega
 sleep 1;refine⟨_,mupd_same,?_⟩;rw[Jo];have em:((((Y6 0 s).map fun h=>pl (h-b,h+a)).set 0 (D.tup [nm (ri (Y6 0 s) 0),nm (ri (Y6 0 s) 0)])).set s.length (D.tup [nm (ri (Y6 0 s) ((Y6 0 s).length-1)),nm (ri (Y6 0 s) ((Y6 0 s).length-1))]))=(Yk s b a).map pl:=by
  rw[<- Cf,List.map_set,List.map_set,List.map_map,show (Y6 0 s).length-1=s.length by omega];rfl
 rw[em];exact q _ (MExt.upd_new (MExt.none x1 e2) (x1.trans x2))
noncomputable def YV (d:DL.D):Bool:=match num? d with|some q=>decide (0<=q)|none=>false
theorem Zz (q:Rat):YV (nm q)=decide (0<=q):=by unfold YV;rw[Wr]
theorem WH {d:DL.D} (h:YK d=false):YV d=false:=by
 unfold YV;unfold YK at h;cases e:num? d with
 | none=>rfl
 | some q=>rw [e] at h;cases h
theorem Uz:Sz 1 (0:Rat):=⟨by decide,by decide⟩
noncomputable def S_40:DSp:=fun ds M Q E=>∃ d,ds=[d]/\Gd M d/\∀ M',MExt M M'->if Ye 1 24 d=true then Q .non M' else E (.exc "NoData" .non) M'
noncomputable def C_40:CSs:=%[.ife (.not (.call "are_steps" S_10 %[.var 0|0])) %[.rse "NoData" %[.str "these are no data"|0]|0] .nil|0]
theorem vc_40:∀ ds M R E,S_40 ds M R E->rSs C_40 (ends R E) (Y1 1 ds) M:=by
 rintro ds M R E ⟨d,rfl,g,q⟩;unfold C_40;sleep 1;refine⟨d,rfl,g,fun M1 x1=>?_⟩;have:=q M1 x1;cases h:Ye 1 24 d with
 | true=>rw [h,if_pos rfl] at this;simpa using this
 | false =>
  rw[h,if_neg %[|4]] at this;simp;sleep 1;exact this
noncomputable def S_41:DSp:=fun ds M Q E=>∃ d,ds=[d]/\Gd M d/\if YV d=true then Q .non M else E (.exc "NoPrice" .non) M
noncomputable def C_41:CSs:=%[.ife (.or (.not (.call "is_number" S_2 %[.var 0|0])) (.one (.call "is_less" S_8 %[.var 0,.glo "NOUGHT" YY|0]))) %[.rse "NoPrice" %[.str "this is no price"|0]|0] .nil|0]
theorem vc_41:∀ ds M R E,S_41 ds M R E->rSs C_41 (ends R E) (Y1 1 ds) M:=by
 rintro ds M R E ⟨d,rfl,g,q⟩;unfold C_41;sleep 1;refine⟨d,rfl,g,?_⟩;cases h:YK d with
 | false =>
  rw[WH h,if_neg %[|4]] at q;simp;sleep 1;exact q
 | true =>
  obtain⟨p,rfl⟩:=isNum_iff.mp h;rw[Zz] at q;simp;refine⟨p,0,rfl,.mk (Dw g) Uz %[|4],?_⟩;by_cases c:p<0
  ·rw[if_neg (by simp;grind)] at q
   simp[c];sleep 1;exact q
  ·rw[if_pos (by simp;grind)] at q
   simp[c];exact q
noncomputable def S_45:DSp:=fun ds M Q E=>∃ d,ds=[d]/\Gd M d/\if YV d=true then Q .non M else E (.exc "NoRoom" .non) M
noncomputable def C_45:CSs:=%[.ife (.or (.not (.call "is_number" S_2 %[.var 0|0])) (.one (.call "is_less" S_8 %[.var 0,.glo "NOUGHT" YY|0]))) %[.rse "NoRoom" %[.str "this is no room"|0]|0] .nil|0]
theorem vc_45:∀ ds M R E,S_45 ds M R E->rSs C_45 (ends R E) (Y1 1 ds) M:=by
 rintro ds M R E ⟨d,rfl,g,q⟩;unfold C_45;sleep 1;refine⟨d,rfl,g,?_⟩;cases h:YK d with
 | false =>
  rw[WH h,if_neg %[|4]] at q;simp;sleep 1;exact q
 | true =>
  obtain⟨p,rfl⟩:=isNum_iff.mp h;rw[Zz] at q;simp;refine⟨p,0,rfl,.mk (Dw g) Uz %[|4],?_⟩;by_cases c:p<0
  ·rw[if_neg (by simp;grind)] at q
   simp[c];sleep 1;exact q
  ·rw[if_pos (by simp;grind)] at q
   simp[c];exact q
structure Fit (s:List Rat) (b a:Rat) (k:Nat):Prop where
 sz:∀ x∈s,Sz k x
 sb:Sz k b
 sa:Sz k a
 few:k<=50
 one:1<=s.length
 most:s.length<=24
 b0:0<=b
 a0:0<=a
theorem Fit.fine {s:List Rat} {b a:Rat} {k:Nat} (f:Fit s b a k):Fine (Yk s b a) (26+25*k):=Jh f.sz f.sb f.sa f.b0 f.a0 f.one f.most f.few rfl
noncomputable def S_42:DSp:=fun ds M Q E=>∃ d e,ds=[d,e]/\Gd M d/\Gd M e/\(Ye 1 24 d=false/\(∀ M',MExt M M'->E (.exc "NoData" .non) M')\/Ye 1 24 d=true/\YV e=false/\(∀ M',MExt M M'->E (.exc "NoPrice" .non) M') \/
 ∃ s q k,d=rw s/\e=nm q/\Fit s q q k/\∀ M',MExt M M'->Q (tb (Yk s q q)) M')
noncomputable def C_42:CSs:=%[.expr (.call "want_data" S_40 %[.var 0|0]),.expr (.call "want_price" S_41 %[.var 1|0]),.ret (.call "tube_round_sums" S_18 %[.var 0,.var 1,.var 1|0])|0]
theorem vc_42:∀ ds M R E,S_42 ds M R E->rSs C_42 (ends R E) (Y1 2 ds) M:=by
 rintro ds M R E ⟨d,e,rfl,gd,ge,h⟩;unfold C_42;sleep 1;refine⟨d,rfl,gd,fun M1 x1=>?_⟩;rcases h with ⟨h,q⟩|⟨h,h2,q⟩|⟨s,p,k,rfl,rfl,F,q⟩
 ·rw[h,if_neg %[|4]]
  exact q M1 x1
 ·rw[h,if_pos rfl]
  sleep 1;refine⟨e,rfl,Gd.ext x1 _ ge,?_⟩;rw[h2,if_neg %[|4]];exact q M1 x1
 ·have:=F.one;have:=F.most
  rw[Xj %[|5] %[|5],if_pos rfl];sleep 1;refine⟨nm p,rfl,Gd.ext x1 _ ge,?_⟩;rw[Zz,if_pos (by simpa using F.b0)];sleep 1;exact⟨s,p,p,k,rfl,F.sz,F.sb,F.sa,F.few,F.one,F.most,fun M2 x2=>q M2 (x1.trans x2)⟩
noncomputable def S_43:DSp:=fun ds M Q E=>∃ d e,ds=[d,e]/\Gd M d/\Gd M e/\(Ye 1 24 d=false/\(∀ M',MExt M M'->E (.exc "NoData" .non) M')\/Ye 1 24 d=true/\YV e=false/\(∀ M',MExt M M'->E (.exc "NoPrice" .non) M') \/
 ∃ s q k,d=rw s/\e=nm q/\Fit s q q k/\∀ r M',Told (Yk s q q) (26+25*k) r->MExt M M'->Q (rw (Y0 r)) M')
noncomputable def C_43:CSs:=%[.ret (.call "differences" S_16 %[.call "cord" S_23 %[.call "tube_of" S_42 %[.var 0,.var 1|0]|0]|0])|0]
theorem vc_43:∀ ds M R E,S_43 ds M R E->rSs C_43 (ends R E) (Y1 2 ds) M:=by
 rintro ds M R E ⟨d,e,rfl,gd,ge,h⟩;unfold C_43;sleep 1;refine⟨d,e,rfl,gd,ge,?_⟩;rcases h with ⟨h,q⟩|⟨h,h2,q⟩|⟨s,p,k,rfl,rfl,F,q⟩
 ·exact .inl ⟨h,q⟩
 ·exact .inr (.inl ⟨h,h2,q⟩)
 ·refine .inr (.inr ⟨s,p,k,rfl,rfl,F,fun M1 x1=>?_⟩)
  have G:=F.fine;have L:=YH s p p;have:=F.one;have:=F.most;have:=F.few;refine⟨_,rfl,G.gd,.inr ⟨_,_,rfl,G,fun r M2 T x2=>?_⟩⟩;have tl:=T.len;exact⟨r,_,rfl,T.sz,by omega,by omega,by omega,fun M3 x3=>q r M3 T (x1.trans (x2.trans x3))⟩
theorem Ho {M:Mem} {Q:DK} {p p':Addr} {r:List Rat} (l:M p=some (.ls (r.map nm))) (l':M p'=some (.ls [])) (q:Q (.bl (!r.isEmpty)) M):cEq true (.lst p) (.lst p') M Q:=by
 obtain⟨e',h1,h2,h3⟩:=enc_nm.ex;refine⟨_,_,.lst l (A7 (h1 M) r),.lst l' .nil,?_,?_⟩
 ·simp only[PyData.depth]
  have:=Wy (k:=3) (l:=r.map e') (by simp;exact fun a _=>h3 a);simp only[PyData.depthAll];omega
 ·cases r with
  | nil=>simpa[PyData.eqv,PyData.eqvAll] using q
  | cons a r=>simpa[PyData.eqv,PyData.eqvAll] using q
noncomputable def DA (M:Mem) (ns:List Int) (k:Int) (a p:Addr) (i:Nat) (δ:DSt) (M':Mem):Prop :=
 ∃ (r:List Rat) (w4 w5:Option DL.D),MExt M M'/\Pk M' a/\M' p=some (.ls (r.map nm))/\r.length=i/\(∀ x∈r,Sz 32 x)/\δ=[some (.fz (ns.map .int)),some (.int k),some (.lst a),some (.lst p),w4,w5]
noncomputable def IQ (s:List Rat) (b a:Rat) (i:Nat):List (Rat×Rat):=(List.range (i+1)).map fun j=>if j=0 then (0,0) else (Ya s j-b,Ya s j+a)
noncomputable def TO (M:Mem) (s:List Rat) (q:Rat) (p:Addr) (i:Nat) (δ:DSt) (M':Mem):Prop :=
 ∃ w,MExt M M'/\M' p=some (.ls ((IQ s q q i).map pl))/\δ=[some (rw s),some (nm q),some (.lst p),some (nm (Ya s i)),w]
theorem AI:∀ {xs:List DL.D},xs.all YK=true->∃ s:List Rat,xs=s.map nm
 | [],_=>⟨[],rfl⟩
 | x::xs,h=>by
  simp only[List.all_cons,Bool.and_eq_true] at h;obtain⟨p,rfl⟩:=isNum_iff.mp h.1;obtain⟨s,rfl⟩:=AI h.2;exact⟨p::s,rfl⟩
theorem JM {l m:Int} {d:DL.D} (h:Ye l m d=true):∃ s:List Rat,d=rw s/\l<=s.length/\(s.length:Int)<=m:=by
 cases d with
 | tup xs =>
  unfold Ye at h;simp only[Bool.and_eq_true,decide_eq_true_eq] at h;obtain⟨s,rfl⟩:=AI h.2;exact⟨s,rfl,by simpa using h.1.1,by simpa using h.1.2⟩
 | _=>cases h
noncomputable def Needs (s:List Rat):Prop:=∀ x∈s,0<=x
noncomputable def Zr (d:DL.D):Bool:=Ye 1 24 d&&match d with | .tup xs=>xs.all YV|_=>false
theorem Vv {s:List Rat} (h1:1<=s.length) (h2:s.length<=24):Zr (rw s)=!(s.any fun x=>decide (x<0)):=by
 unfold Zr;rw[Xj %[|5] %[|5],Bool.true_and];show (s.map nm).all YV=_;rw[List.all_map,List.not_any_eq_all_not]
 congr 1
 funext x
 show YV (nm x)=_;rw[Zz,Bool.eq_iff_iff];simp;grind
theorem Needs.any {s:List Rat} (h:Needs s):(s.any fun x=>decide (x<0))=false:=by
 rw[List.any_eq_false];intro x hx;have:=h x hx;simp;grind
noncomputable def S_44:DSp:=fun ds M Q E=>∃ d,ds=[d]/\Gd M d/\∀ M',MExt M M'->if Zr d=true then Q .non M' else E (.exc "NoNeeds" .non) M'
noncomputable def C_44:CSs:=%[.ife (.or (.not (.call "are_steps" S_10 %[.var 0|0])) (.one (.bi .any %[.comp ["needs","need"] 1 (.name 1) (.seq (.var 0)) (.call "is_less" S_8 %[.var 1,.glo "NOUGHT" YY|0])|0]))) %[.rse "NoNeeds" %[.str "these are no needs"|0]|0] .nil|0]
theorem vc_44:∀ ds M R E,S_44 ds M R E->rSs C_44 (ends R E) (Y1 1 ds) M:=by
 rintro ds M R E ⟨d,rfl,g,q⟩;unfold C_44;sleep 1;refine⟨d,rfl,g,fun M1 x1=>?_⟩;cases h:Ye 1 24 d with
 | false =>
  have:=q M1 x1;rw[show Zr d=false by unfold Zr;rw[h];rfl,if_neg %[|4]] at this;simp;sleep 1;exact this
 | true =>
  obtain⟨s,rfl,h1,h2⟩:=JM h;simp;have gs:∀ x∈s,Sz 3000 x:=fun x hx=>Dw (g.tup _ (List.mem_map_of_mem hx));refine YB s nm (fun x=>.bl (decide (x<0))) (Ux rfl) %[|5] ?_ ?_
  ·intro x hx l M' R' hl ee rr
   obtain⟨z,rfl⟩:=len1 hl;sleep 2;refine⟨x,0,rfl,.mk (gs x hx) Uz %[|4],?_⟩;exact rr [_] M' rfl (.refl _)
  intro p2 M2 e2 x2 l2;refine At l2 ?_;have:=q M2 (x1.trans x2);rw[Vv %[|5] %[|5]] at this;cases hb:(s.any fun x=>decide (x<0)) with
  | true =>
   rw[hb,if_neg %[|4]] at this;simp;sleep 1;exact this
  | false =>
   rw[hb,if_pos %[|4]] at this
   simpa using this
noncomputable def S_46:DSp:=fun ds M Q E=>∃ d e,ds=[d,e]/\Gd M d/\Gd M e/\(Zr d=false/\(∀ M',MExt M M'->E (.exc "NoNeeds" .non) M')\/Zr d=true/\YV e=false/\(∀ M',MExt M M'->E (.exc "NoRoom" .non) M') \/
 ∃ s q k,d=rw s/\e=nm q/\Needs s/\Fit s 0 q k/\∀ M',MExt M M'->Q (tb (Yk s 0 q)) M')
noncomputable def C_46:CSs:=%[.expr (.call "want_needs" S_44 %[.var 0|0]),.expr (.call "want_room" S_45 %[.var 1|0]),.ret (.call "tube_round_sums" S_18 %[.var 0,.glo "NOUGHT" YY,.var 1|0])|0]
theorem vc_46:∀ ds M R E,S_46 ds M R E->rSs C_46 (ends R E) (Y1 2 ds) M:=by
 rintro ds M R E ⟨d,e,rfl,gd,ge,h⟩;unfold C_46;sleep 1;refine⟨d,rfl,gd,fun M1 x1=>?_⟩;rcases h with ⟨h,q⟩|⟨h,h2,q⟩|⟨s,p,k,rfl,rfl,N,F,q⟩
 ·rw[h,if_neg %[|4]]
  exact q M1 x1
 ·rw[h,if_pos rfl]
  sleep 1;refine⟨e,rfl,Gd.ext x1 _ ge,?_⟩;rw[h2,if_neg %[|4]];exact q M1 x1
 ·have:=F.one;have:=F.most
  rw[Vv %[|5] %[|5],N.any,if_pos %[|4]];sleep 1;refine⟨nm p,rfl,Gd.ext x1 _ ge,?_⟩;rw[Zz,if_pos (by simpa using F.a0)];sleep 1;exact⟨s,0,p,k,rfl,F.sz,F.sb,F.sa,F.few,F.one,F.most,fun M2 x2=>q M2 (x1.trans x2)⟩
theorem BO {s:List Rat} {b p:Rat} {k:Nat} (F:Fit s b p k) {r:List Rat} (T:Told (Yk s b p) (26+25*k) r):(∀ x∈r,Sz 3900 x)/\r.length=s.length+1:=by
 have:=F.few;exact⟨fun x hx=>(T.sz x hx).mono %[|5],by rw[T.len,YH]⟩
noncomputable def S_47:DSp:=fun ds M Q E=>∃ d e,ds=[d,e]/\Gd M d/\Gd M e/\(Zr d=false/\(∀ M',MExt M M'->E (.exc "NoNeeds" .non) M')\/Zr d=true/\YV e=false/\(∀ M',MExt M M'->E (.exc "NoRoom" .non) M') \/
 ∃ s q k,d=rw s/\e=nm q/\Needs s/\Fit s 0 q k/\∀ r M',Told (Yk s 0 q) (26+25*k) r->MExt M M'->Q (rw (Y0 r)) M')
noncomputable def C_47:CSs:=%[.ret (.call "differences" S_16 %[.call "cord" S_23 %[.call "store_tube" S_46 %[.var 0,.var 1|0]|0]|0])|0]
theorem vc_47:∀ ds M R E,S_47 ds M R E->rSs C_47 (ends R E) (Y1 2 ds) M:=by
 rintro ds M R E ⟨d,e,rfl,gd,ge,h⟩;unfold C_47;sleep 1;rcases h with ⟨h,q⟩|⟨h,h2,q⟩|⟨s,p,k,rfl,rfl,N,F,q⟩
 ·exact⟨d,e,rfl,gd,ge,.inl ⟨h,q⟩⟩
 ·exact⟨d,e,rfl,gd,ge,.inr (.inl ⟨h,h2,q⟩)⟩
 ·refine⟨_,_,rfl,gd,ge,.inr (.inr ⟨s,p,k,rfl,rfl,N,F,fun M1 x1=>?_⟩)⟩
  have G:=F.fine;have:=F.one;have:=F.most;refine⟨_,rfl,G.gd,.inr ⟨_,_,rfl,G,fun r M2 T x2=>?_⟩⟩;obtain⟨sr,lr⟩:=BO F T;exact⟨r,3900,rfl,sr,by decide,by omega,by omega,fun M3 x3=>q r M3 T (x1.trans (x2.trans x3))⟩
structure Kp (M M':Mem):Prop where
 ls:∀ b xs,M b=some (.ls xs)->∃ ys,M' b=some (.ls ys)
 dk:∀ b xs,M b=some (.dk xs)->∃ ys,M' b=some (.dk ys)
mutual
theorem Gd.kp (e:Kp M M'):∀ d,Gd M d->Gd M' d
 | .tup xs,h=>by unfold Gd at h ⊢;exact Gds.kp e xs h
 | .lst a,h=>by unfold Gd at h ⊢;obtain⟨xs,q⟩:=h;exact e.ls _ _ q
 | .dct a,h=>by unfold Gd at h ⊢;obtain⟨xs,q⟩:=h;exact e.dk _ _ q
 | .int i,h=>by unfold Gd at h ⊢;exact h
 | .non,_=>by unfold Gd;trivial
 | .bl _,_=>by unfold Gd;trivial
 | .str _,_=>by unfold Gd;trivial
 | .fz _,_=>by unfold Gd;trivial
 | .ty _,h=>by unfold Gd at h;exact h.elim
 | .ref _,h=>by unfold Gd at h;exact h.elim
 | .exc _ _,h=>by unfold Gd at h;exact h.elim
 | .cls _,h=>by unfold Gd at h;exact h.elim
theorem Gds.kp (e:Kp M M'):∀ ds,Gds M ds->Gds M' ds
 | [],_=>by unfold Gds;trivial
 | d::r,h=>by unfold Gds at h ⊢;exact⟨Gd.kp e d h.1,Gds.kp e r h.2⟩
end
theorem gl (h:M p=some (.ls xs)):Gd M (.lst p):=by unfold Gd;exact⟨_,h⟩
theorem gn:Gd M .non:=by unfold Gd;trivial
theorem gs:Gd M (.str x):=by unfold Gd;trivial
theorem gnm (h:Sz k q) (hk:k<=3000:=by decide):Gd M (nm q):=.nm h hk
theorem FG {n:Nat} {g:DG} {te:DE} {δ:DSt} {M:Mem} {Q:DK} {keep:Mem->Prop} (xs:List DL.D) (f:DL.D->DL.D) (hk:∀ M',MExt M M'->keep M') (hlen:xs.length<=1000)
  (hel:∀ x∈xs,∀ l M' (R:DSt->DK),l.length=n->MExt M M'->(∀ l' M'',l'.length=n->MExt M' M''->R (δ++l') (f x) M'')->g x (δ++l) M' fun δ1 M1=>te δ1 M1 fun d M2=>R δ1 d M2)
  (hq:∀ p M',M p=Option.none->MExt M M'->M' p=some (.ls (xs.map f))->Q (.lst p) M'):∀ p,M p=none->keep (M.upd p (.ls []))/\Za g te keep p xs [] (δ++List.replicate n none) (M.upd p (.ls [])) fun M2=>(∃ ds,M2 p=some (.ls ds))/\Q (.lst p) M2:=by
 intro p hp;refine⟨hk _ (.new hp),?_⟩;refine XR (M0:=M) f (fun δ'=>∃ l,l.length=n/\δ'=δ++l) hp hk ?_ (by simpa using hlen) ?_ ⟨_,by simp,rfl⟩ (.new hp) mupd_same
 ·rintro x hx δ' M' R ⟨l,hl,rfl⟩ e r
  exact hel x hx l M' R hl e fun l' M'' h1 h2=>r _ M'' ⟨l',h1,rfl⟩ h2
 ·intro M' e l
  exact⟨⟨_,l⟩,hq p M' hp e (by simpa using l)⟩
theorem Ui
  (h:∀ K:List DL.D->(Mem->Prop)->Mem->Prop,(∀ (M1:Mem) (keep:Mem->Prop) (xs:List DL.D) (f:DL.D->DL.D),(∀ M',MExt M1 M'->keep M')->xs.length<=1000 ->
   (∀ x∈xs,∀ l M' (R:DSt->DK),l.length=n->MExt M1 M'->(∀ l' M'',l'.length=n->MExt M' M''->R (δ++l') (f x) M'')->g x (δ++l) M' fun δ1 M1=>te δ1 M1 fun d M2=>R δ1 d M2) ->
   (∀ p M',M1 p=Option.none->MExt M1 M'->M' p=some (.ls (xs.map f))->Q (.lst p) M')->K xs keep M1)->ti δ M K):YQ n ti g te δ M Q :=
 h _ fun M1 keep xs f hk hl hel hq=>FG xs f hk hl hel hq
section
variable {M:Mem} {Q:DK} {r s:List Rat} {t u:List (Rat×Rat)} {p:Rat×Rat} {q:Rat} {xs ys:List DL.D} {lo hi:Option Int} {i j k:Int} {a b:Addr} {d:DL.D}
@[simp] theorem Kj:D.tup [nm q]=rw [q]:=rfl
@[simp] theorem Ki:D.tup [nm x,nm y]=pl (x,y):=rfl
@[simp] theorem Kk:D.tup [pl p]=tb [p]:=rfl
@[simp] theorem KS:D.tup (r.map nm++nm q::s.map nm)=rw (r++q::s):=by unfold rw;simp
@[simp] theorem Kl:D.tup (t.map pl++pl p::u.map pl)=tb (t++p::u):=by unfold tb;simp
@[simp] theorem Wt:bAdd (.int i) (.int j) M Q=Q (.int (i+j)) M:=rfl
@[simp] theorem Ky:bAdd (.tup xs) (.tup ys) M Q=(xs.length+ys.length<=sizeLine/\Q (.tup (xs++ys)) M):=rfl
@[simp] theorem KA:bAdd (.lst a) (.lst b) M Q=(∃ xs ys,M a=some (.ls xs)/\M b=some (.ls ys)/\xs.length+ys.length<=sizeLine/\DL.alloc M (.ls (xs++ys)) fun p M'=>Q (.lst p) M'):=rfl
@[simp] theorem Kz:bAdd (rw r) (rw s) M Q=(r.length+s.length<=sizeLine/\Q (rw (r++s)) M):=by
 show ((r.map nm).length+(s.map nm).length<=sizeLine/\Q (.tup (r.map nm++s.map nm)) M)=_;rw[List.length_map,List.length_map,<- List.map_append];rfl
@[simp] theorem KB:bAdd (tb t) (tb u) M Q=(t.length+u.length<=sizeLine/\Q (tb (t++u)) M):=by
 show ((t.map pl).length+(u.map pl).length<=sizeLine/\Q (.tup (t.map pl++u.map pl)) M)=_;rw[List.length_map,List.length_map,<- List.map_append];rfl
@[simp] theorem Kg:bAdd (rw r) (.tup ys) M Q=(r.length+ys.length<=sizeLine/\Q (.tup (r.map nm++ys)) M):=by
 show ((r.map nm).length+ys.length<=sizeLine/\Q (.tup (r.map nm++ys)) M)=_;rw[List.length_map]
@[simp] theorem Ke:bAdd (.tup ys) (rw r) M Q=(ys.length+r.length<=sizeLine/\Q (.tup (ys++r.map nm)) M):=by
 show (ys.length+(r.map nm).length<=sizeLine/\Q (.tup (ys++r.map nm)) M)=_;rw[List.length_map]
@[simp] theorem Kh:bAdd (tb t) (.tup ys) M Q=(t.length+ys.length<=sizeLine/\Q (.tup (t.map pl++ys)) M):=by
 show ((t.map pl).length+ys.length<=sizeLine/\Q (.tup (t.map pl++ys)) M)=_;rw[List.length_map]
@[simp] theorem Kf:bAdd (.tup ys) (tb t) M Q=(ys.length+t.length<=sizeLine/\Q (.tup (ys++t.map pl)) M):=by
 show (ys.length+(t.map pl).length<=sizeLine/\Q (.tup (ys++t.map pl)) M)=_;rw[List.length_map]
@[simp] theorem Hq:bMul (.int i) (.int j) M Q=(IntMulOk i j/\Q (.int (i*j)) M):=rfl
@[simp] theorem Km:bMul (.tup xs) (.int k) M Q=(0<=k/\k<1000000/\xs.length*k.toNat<=sizeLine/\Q (.tup (List.replicate k.toNat xs).flatten) M):=rfl
@[simp] theorem Ko:bMul (.lst a) (.int k) M Q=(∃ xs,M a=some (.ls xs)/\0<=k/\k<1000000/\xs.length*k.toNat<=sizeLine/\DL.alloc M (.ls (List.replicate k.toNat xs).flatten) fun p M'=>Q (.lst p) M'):=rfl
theorem Jp (f:α->β) (n:Nat) (r:List α):(List.replicate n (r.map f)).flatten=((List.replicate n r).flatten).map f:=by
 induction n with
 | zero=>rfl
 | succ n ih=>rw [List.replicate_succ,List.replicate_succ,List.flatten_cons,List.flatten_cons,ih,List.map_append]
@[simp] theorem Kn:bMul (rw r) (.int k) M Q=(0<=k/\k<1000000/\r.length*k.toNat<=sizeLine/\Q (rw (List.replicate k.toNat r).flatten) M):=by
 show (0<=k/\k<1000000/\(r.map nm).length*k.toNat<=sizeLine/\Q (.tup (List.replicate k.toNat (r.map nm)).flatten) M)=_;rw[List.length_map,Jp];rfl
@[simp] theorem Kq:bMul (tb t) (.int k) M Q=(0<=k/\k<1000000/\t.length*k.toNat<=sizeLine/\Q (tb (List.replicate k.toNat t).flatten) M):=by
 show (0<=k/\k<1000000/\(t.map pl).length*k.toNat<=sizeLine/\Q (.tup (List.replicate k.toNat (t.map pl)).flatten) M)=_;rw[List.length_map,Jp];rfl
theorem B2 (f:α->β) (xs:List α) (lo hi:Option Int):cutG (xs.map f) lo hi=(cutG xs lo hi).map f:=by
 unfold cutG;simp[List.map_take,List.map_drop]
@[simp] theorem KL:sOp (.fz xs) lo hi M Q=DL.alloc M (.ls (cutG xs lo hi)) fun p M'=>Q (.lst p) M':=rfl
@[simp] theorem KK:sOp (.lst a) lo hi M Q=(∃ xs,M a=some (.ls xs)/\DL.alloc M (.ls (cutG xs lo hi)) fun p M'=>Q (.lst p) M'):=rfl
@[simp] theorem KI:sOp (.tup xs) lo hi M Q=Q (.tup (cutG xs lo hi)) M:=rfl
@[simp] theorem KJ:sOp (rw r) lo hi M Q=Q (rw (cutG r lo hi)) M:=by
 show Q (.tup (cutG (r.map nm) lo hi)) M=_;rw[B2];rfl
@[simp] theorem KM:sOp (tb t) lo hi M Q=Q (tb (cutG t lo hi)) M:=by
 show Q (.tup (cutG (t.map pl) lo hi)) M=_;rw[B2];rfl
@[simp] theorem KN:Yp (.tup xs) (some (-1)) M Q=Q (.tup xs.reverse) M:=by unfold Yp;simp
@[simp] theorem KO:Yp (rw r) (some (-1)) M Q=Q (rw r.reverse) M:=by
 unfold Yp;rw[show rw r=.tup (r.map nm) from rfl];simp[rw]
@[simp] theorem KP:Yp (tb t) (some (-1)) M Q=Q (tb t.reverse) M:=by
 unfold Yp;rw[show tb t=.tup (t.map pl) from rfl];simp[tb]
@[simp] theorem Kr:fLen [.tup xs] M Q=Q (.int xs.length) M:=rfl
@[simp] theorem Ku:fLen [.fz xs] M Q=Q (.int xs.length) M:=rfl
@[simp] theorem Kt:fLen [.lst a] M Q=(∃ xs,M a=some (.ls xs)/\Q (.int xs.length) M):=rfl
@[simp] theorem Ks:fLen [rw r] M Q=Q (.int r.length) M:=by
 show Q (.int (r.map nm).length) M=_;rw[List.length_map]
@[simp] theorem Kv:fLen [tb t] M Q=Q (.int t.length) M:=by
 show Q (.int (t.map pl).length) M=_;rw[List.length_map]
@[simp] theorem KD:Yd [.tup xs] M Q=Q (.tup xs) M:=rfl
@[simp] theorem KG:Yd [.fz xs] M Q=Q (.tup xs) M:=rfl
@[simp] theorem KF:Yd [.lst a] M Q=(∃ xs,M a=some (.ls xs)/\Q (.tup xs) M):=rfl
@[simp] theorem KE:Yd [rw r] M Q=Q (rw r) M:=rfl
@[simp] theorem KH:Yd [tb t] M Q=Q (tb t) M:=rfl
@[simp] theorem KT:Yo [.tup xs] M Q=DL.alloc M (.ls xs) fun p M'=>Q (.lst p) M':=rfl
@[simp] theorem KY:Yo [.fz xs] M Q=DL.alloc M (.ls xs) fun p M'=>Q (.lst p) M':=rfl
@[simp] theorem KW:Yo [.lst a] M Q=(∃ xs,M a=some (.ls xs)/\DL.alloc M (.ls xs) fun p M'=>Q (.lst p) M'):=rfl
@[simp] theorem KU:Yo [rw r] M Q=DL.alloc M (.ls (r.map nm)) fun p M'=>Q (.lst p) M':=rfl
@[simp] theorem KZ:Yo [tb t] M Q=DL.alloc M (.ls (t.map pl)) fun p M'=>Q (.lst p) M':=rfl
theorem Js:fIsi [.tup xs,.ty "tuple"] M Q=Q (.bl true) M:=by
 unfold fIsi;simp[tyD,isiT]
@[simp] theorem Kw:fIsi [.tup xs,.ty "tuple"] M Q=Q (.bl true) M:=Js
@[simp] theorem Li:fIsi [nm q,.ty "tuple"] M Q=Q (.bl true) M:=Js
@[simp] theorem Lh:fIsi [pl p,.ty "tuple"] M Q=Q (.bl true) M:=Js
@[simp] theorem Lg:fIsi [rw r,.ty "tuple"] M Q=Q (.bl true) M:=Js
@[simp] theorem Lk:fIsi [tb t,.ty "tuple"] M Q=Q (.bl true) M:=Js
@[simp] theorem Ll:fIsi [.non,.ty "tuple"] M Q=Q (.bl false) M:=by unfold fIsi;simp[tyD,isiT]
@[simp] theorem Lj:fIsi [.exc n x,.cls c] M Q=Q (.bl (YL n c)) M:=by unfold fIsi;simp
@[simp] theorem Kx:fIsi [.non,.cls c] M Q=Q (.bl false) M:=rfl
@[simp] theorem Lf:fIsi [.exc n x,.ty "ValueError"] M Q=Q (.bl true) M:=by unfold fIsi;simp[tyD,isiT]
@[simp] theorem L8:iOp (nm q) (.int 0) M Q=Q (.int q.num) M:=by
 refine propext ⟨fun h=>?_,fun h=>ix0 h⟩;obtain⟨v,e,h⟩:=h;rw[YG] at e;cases e;exact h
@[simp] theorem L7:iOp (nm q) (.int 1) M Q=Q (.int q.den) M:=by
 refine propext ⟨fun h=>?_,fun h=>ix1 h⟩;obtain⟨v,e,h⟩:=h;rw[Z9] at e;cases e;exact h
@[simp] theorem KR:iOp (pl p) (.int 0) M Q=Q (nm p.1) M:=by
 refine propext ⟨fun h=>?_,fun h=>pl0 h⟩;obtain⟨v,e,h⟩:=h;rw[YG] at e;cases e;exact h
@[simp] theorem KQ:iOp (pl p) (.int 1) M Q=Q (nm p.2) M:=by
 refine propext ⟨fun h=>?_,fun h=>pl1 h⟩;obtain⟨v,e,h⟩:=h;rw[Z9] at e;cases e;exact h
@[simp] theorem Lm {n:Nat} {g:DGs} {δ:DSt} {Q:DSt->Mem->Prop}:Yn n g (.tup xs) δ M Q=(xs.length=n/\g xs δ M Q):=by
 unfold Yn;simp
@[simp] theorem Ln {g:DGs} {δ:DSt} {Q:DSt->Mem->Prop}:Yn 2 g (pl p) δ M Q=g [nm p.1,nm p.2] δ M Q:=by
 refine propext ⟨fun h=>?_,fun h=>⟨_,rfl,rfl,h⟩⟩;obtain⟨ds,e,_,h⟩:=h;cases e;exact h
@[simp] theorem Lo {g:DGs} {δ:DSt} {Q:DSt->Mem->Prop}:Yn 2 g (nm q) δ M Q=g [.int q.num,.int q.den] δ M Q:=by
 refine propext ⟨fun h=>?_,fun h=>⟨_,rfl,rfl,h⟩⟩;obtain⟨ds,e,_,h⟩:=h;cases e;exact h
@[simp] theorem L9:Yi (.tup xs) M R=R xs (fun _=>True) M:=rfl
@[simp] theorem Lc:Yi (.fz xs) M R=R xs (fun _=>True) M:=rfl
@[simp] theorem Lb:Yi (.lst a) M R=(∃ xs,M a=some (.ls xs)/\R xs (fun M'=>M' a=some (.ls xs)) M):=rfl
@[simp] theorem La:Yi (rw r) M R=R (r.map nm) (fun _=>True) M:=rfl
@[simp] theorem Le:Yi (tb t) M R=R (t.map pl) (fun _=>True) M:=rfl
@[simp] theorem IX:Vz [rw r,rw s] M R=R ((List.zip r s).map fun z=>pl z) (fun _=>True) M:=by
 show R (zipD (r.map nm) (s.map nm)) _ _=_;unfold zipD;rw[List.zipWith_map,List.zip,List.map_zipWith];rfl
@[simp] theorem L6:Vz [tb t,rw s] M R=R ((List.zip t s).map fun z=>.tup [pl z.1,nm z.2]) (fun _=>True) M:=by
 show R (zipD (t.map pl) (s.map nm)) _ _=_;unfold zipD;rw[List.zipWith_map,List.zip,List.map_zipWith]
@[simp] theorem L5:Vz [rw s,tb t] M R=R ((List.zip s t).map fun z=>.tup [nm z.1,pl z.2]) (fun _=>True) M:=by
 show R (zipD (s.map nm) (t.map pl)) _ _=_;unfold zipD;rw[List.zipWith_map,List.zip,List.map_zipWith]
@[simp] theorem Ls:cIs neg (nm q) .non M Q=Q (.bl neg) M:=by unfold cIs nm;cases neg<;>rfl
@[simp] theorem Lr:cIs neg (rw r) .non M Q=Q (.bl neg) M:=by unfold cIs rw;cases neg<;>rfl
@[simp] theorem Lu:cIs neg (tb t) .non M Q=Q (.bl neg) M:=by unfold cIs tb;cases neg<;>rfl
@[simp] theorem Lq:cIs neg (.exc n x) .non M Q=Q (.bl neg) M:=by unfold cIs;cases neg<;>rfl
@[simp] theorem Lw:cIs neg .non .non M Q=Q (.bl !neg) M:=by unfold cIs;cases neg<;>rfl
@[simp] theorem Lp {neg b c:Bool}:cIs neg (.bl b) (.bl c) M Q=Q (.bl (if neg then !(b==c) else b==c)) M:=by unfold cIs;cases neg<;>rfl
end
theorem XL {s:CS} {rest:CSs} {D:DEnds} {δ:DSt} {M:Mem} (h:∀ J:DSt->Mem->Prop,(∀ δ' M',rSs rest D δ' M'->J δ' M')->rS s {D with nx:=J} δ M):rSs (.cons s rest) D δ M:=by
 rw[Yr];exact h _ fun _ _ h=>h
theorem Eh (xs:List α) (n:Nat) (h:n<=xs.length):cutG xs (some (n:Int)) none=xs.drop n:=by
 unfold cutG;rw[HT.sIx_none,HT.sIx_nat,Nat.min_eq_left %[|5],List.take_of_length_le (by simp)]
theorem WO {P:Rat->Prop} {g:DG} {te:DE} {keep:Mem->Prop} {p a:Addr} {Q:Mem->Prop} {M0:Mem} (pk0:Pk M0 a) (h0:M0 p=none) (I:DSt->Prop) (hk:∀ M,keep M) :
  ∀ {items:List DL.D} {acc:List Rat},(∀ x∈items,∀ δ M (R:DSt->DK),I δ->Dr a M0 M->(∀ δ1 q M',I δ1->P q->Dr a M M'->R δ1 (nm q) M')->g x δ M fun δ1 M1=>te δ1 M1 fun d M2=>R δ1 d M2) ->
  acc.length+items.length<=1000->(∀ x∈acc,P x)->(∀ (r:List Rat) M',r.length=acc.length+items.length->(∀ x∈r,P x)->Dr a M0 M'->M' p=some (.ls (r.map nm))->Q M') ->
  ∀ {δ M},I δ->Dr a M0 M->M p=some (.ls (acc.map nm))->Za g te keep p items (acc.map nm) δ M Q
 | [],acc,_,_,hs,q,δ,M,i,y,l=>by unfold Za;exact q acc M rfl hs y l
 | x::xs,acc,h,hz,hs,q,δ,M,i,y,l=>by
  have hpa:=pk0.ne h0;unfold Za;refine h x List.mem_cons_self δ M (fun δ1 d M2=>M2 p=some (.ls (acc.map nm))/\(acc.map nm).length<sizeLine/\keep (M2.upd p (.ls (acc.map nm++[d])))/\Za g te keep p xs (acc.map nm++[d]) δ1 (M2.upd p (.ls (acc.map nm++[d]))) Q) i y fun δ1 q' M' i' sq y'=>?_;have e:acc.map nm++[nm q']=(acc++[q']).map nm:=by simp
  rw[e];refine⟨y'.keep _ _ hpa l,?_,hk _,WO pk0 h0 I hk (fun z hz'=>h z (List.mem_cons_of_mem _ hz')) (by simp at hz ⊢;omega) ?_ (fun r M2 hr=>q r M2 (by simp at hr ⊢;omega)) i' ((y.trans y').upd_new h0 hpa) mupd_same⟩
  ·rw[sizeLine_eq,List.length_map];simp at hz;omega
  ·intro z hz'
   rcases List.mem_append.mp hz' with hz' | hz'
   ·exact hs z hz'
   ·simp at hz';subst hz';exact sq
theorem Ap (P:Rat->Prop) (items:List DL.D) (hn:δ.length=n) (hi:items.length<=1000) (pk:Pk M a) (hti:∀ R:List DL.D->(Mem->Prop)->Mem->Prop,R items (fun _=>True) M->ti δ M R)
  (hel:∀ (x:Option DL.D) M' (R:DK),Dr a M M'->(∀ q M'',P q->Dr a M' M''->R (nm q) M'')->te (δ++[x]) M' R)
  (hq:∀ (r:List Rat) p M',r.length=items.length->(∀ x∈r,P x)->Dr a M M'->M p=none->M' p=some (.ls (r.map nm))->Q (.lst p) M'):YQ 1 ti (ZE n) te δ M Q:=by
 refine hti _ fun p hp=>⟨trivial,?_⟩;refine WO (P:=P) (acc:=[]) pk hp (fun δ'=>∃ x,δ'=δ++[x]) (fun _=>trivial) ?_ (by simpa using hi) nofun ?_ ⟨none,rfl⟩ ((⟨pk,fun _ _ _ e=>e⟩:Dr a M M).upd_new hp (pk.ne hp)) mupd_same
 ·rintro x hx δ' M' R ⟨y,rfl⟩ y' r
  show te ((δ++[y]).set n (some x)) M' _;rw[show (δ++[y]).set n (some x)=δ++[some x] by subst hn;simp];exact hel (some x) M' _ y' fun q M'' sq yy=>r _ q M'' ⟨_,rfl⟩ sq yy
 ·intro r M' hr hs y l
  exact⟨⟨_,l⟩,hq r p M' (by simpa using hr) hs y hp l⟩
end K
end
set_option bootstrap.genMatcherCode true
local macro_rules
 | `(tactic| sleep 7)=>`(tactic| ((try dsimp only);rw[Yr];sleep 8))
 | `(tactic| sleep 8)=>`(tactic| ((try dsimp only[0,vAt,vHd,List.set_cons_succ,List.set_cons_zero,List.cons_append,List.nil_append,List.map,List.length_cons,List.length_nil,Nat.reduceAdd,Nat.reduceSub,List.replicate_succ,List.replicate_zero,Y7,Z4,Yl,dFld,ZH,ZI,ZG]);try simp[0,vAt,vHd,Y7,and_assoc,sizeLine_eq,Yh,Z4,Yl,dFld,ZH,ZI,ZG]))
 | `(tactic| sleep 9)=>`(tactic| ((try dsimp only);rw[Yr];(try dsimp only[rS,rI,dFor,YM]);sleep 8))
set_option bootstrap.genMatcherCode false
noncomputable section
namespace K
open PySem DL Q
noncomputable def Fi (n:Str):List Bool:=[YL n "NoNumber",YL n "NoText",YL n "NoTube",YL n "NoRow",YL n "NoMeasure",YL n "NoLevel",YL n "NoData",YL n "NoPrice",YL n "NoNeeds",YL n "NoRoom",YL n "NoJobs",YL n "NoCall",YL n "NoKept"]
structure Only (n:Str) (i:Int):Prop where
 c:YL n "CordError"=true
 k:Fi n=(List.range 13).map fun j:Nat=>decide ((j:Int)=i)
structure Pt where
 up:Bool
 at_:Rat
 wt:Rat
noncomputable def sd (b:Bool):DL.D:=.str (if b then "above" else "below")
noncomputable def pt (p:Pt):DL.D:=.tup [sd p.up,nm p.at_,nm p.wt]
noncomputable def md (ms:List Pt):DL.D:=.tup (ms.map pt)
noncomputable def Gr (L B:Nat) (x:Rat):Prop:=∃ n:Int,x=Rat.divInt n (L:Int)/\n.natAbs<=B
theorem Gr.mono (h:Gr L B x) (c:B<=C):Gr L C x:=by obtain⟨n,e,b⟩:=h;exact⟨n,e,by omega⟩
theorem Gr.sz (h:Gr L B x) (l0:0<L) (hL:L<2 ^ m) (hB:B<2 ^ m):Sz m x:=by
 obtain⟨n,rfl,b⟩:=h;exact ZW %[|5] %[|5] (by simpa using hL)
theorem WT (h:c≠0):Rat.divInt a c+Rat.divInt b c=Rat.divInt (a+b) c:=by
 rw[Rat.divInt_add_divInt _ _ h h,<- Int.add_mul,Rat.divInt_mul_right h]
theorem Gr.add (l0:0<L) (h:Gr L B x) (g:Gr L C y):Gr L (B+C) (x+y):=by
 obtain⟨n,rfl,b⟩:=h;obtain⟨m,rfl,c⟩:=g;refine⟨n+m,WT %[|5],?_⟩;have:=Int.natAbs_add_le n m;omega
theorem Gr.neg (h:Gr L B x):Gr L B (-x):=by
 obtain⟨n,rfl,b⟩:=h;exact⟨-n,Rat.neg_divInt n _,by omega⟩
theorem Gr.sub (l0:0<L) (h:Gr L B x) (g:Gr L C y):Gr L (B+C) (x-y):=by
 rw[Rat.sub_eq_add_neg];exact h.add l0 g.neg
theorem Gr.zero:Gr L B 0:=⟨0,by rw[Rat.zero_divInt],by simp⟩
theorem Gr.div (h:Gr L B x) (d0:0<d) (dW:d ∣ W) (l0:0<L) (w0:0<W):Gr (L*W) (B*W) (x / (d:Rat)):=by
 obtain⟨n,rfl,b⟩:=h;obtain⟨k,rfl⟩:=dW;have k0:k≠0:=fun z=>by subst z;simp at w0
 refine⟨n*k,?_,?_⟩
 ·have e1:((d:Nat):Rat)=Rat.divInt (d:Int) 1:=(Yt ((d:Int):Rat)).symm
  rw[Rat.div_def,e1,Rat.inv_divInt,Rat.divInt_mul_divInt,Int.mul_one];have e2:((L*(d*k):Nat):Int)=((L:Int)*(d:Int))*(k:Int):=by push_cast;rw[Int.mul_assoc]
  rw[e2,Rat.divInt_mul_right %[|5]]
 ·rw[Int.natAbs_mul]
  have h1:((k:Int)).natAbs=k:=by simp
  rw[h1];exact Nat.le_trans (Nat.mul_le_mul_right _ b) (Nat.mul_le_mul_left _ (Nat.le_mul_of_pos_left k d0))
theorem Gr.up (h:Gr L B x) (l0:0<L) (w0:0<W):Gr (L*W) (B*W) x:=by
 have:=h.div (d:=1) %[|4] (Nat.one_dvd W) l0 w0
 rwa [show x / ((1:Nat):Rat)=x by rw[show ((1:Nat):Rat)=1 from rfl];grind] at this
theorem Gr.times (l0:0<L) (h:Gr L B x):∀ k:Nat,Gr L (k*B) ((k:Rat)*x)
 | 0=>by rw[show ((0:Nat):Rat)*x=0 by rw[show ((0:Nat):Rat)=0 from rfl];grind];exact .zero
 | k+1=>by
  rw[Nat.succ_mul,show ((k+1:Nat):Rat)*x=(k:Rat)*x+x by push_cast;grind];exact (Gr.times l0 h k).add l0 h
theorem K5:∀ d:_root_.Fin 25,0<d.val->d.val ∣ 5354228880:=by decide +kernel
theorem Gr.tot (l0:0<L):∀ {s:List Rat},(∀ x∈s,Gr L B x)->Gr L (s.length*B) (Q.tot s)
 | [],_=>.zero
 | x::s,h=>by
  rw[Y3,List.length_cons,Nat.succ_mul,Nat.add_comm];exact (h x List.mem_cons_self).add l0 (Gr.tot l0 fun y hy=>h y (List.mem_cons_of_mem _ hy))
theorem Sq.it (h:Sq M d xs) (r:∀ keep:Mem->Prop,(∀ M',MExt M M'->keep M')->R xs keep M):Yi d M R:=by
 rcases h with rfl|rfl|⟨a,rfl,l⟩
 ·exact r _ fun _ _=>trivial
 ·exact r _ fun _ _=>trivial
 ·exact⟨_,l,r _ fun M' e=>e _ _ l⟩
theorem Wv (hb:0<b) (hd:b.toNat ∣ L) (l0:0<L) (ha:a.natAbs*L<=B):Gr L B (Rat.divInt a b):=by
 obtain⟨k,rfl⟩:=hd;have k0:k≠0:=fun z=>by subst z;simp at l0
 refine⟨a*k,?_,?_⟩
 ·have:((b.toNat*k:Nat):Int)=b*(k:Int):=by push_cast;rw[Int.toNat_of_nonneg %[|5]]
  rw[this,Rat.divInt_mul_right %[|5]]
 ·rw[Int.natAbs_mul]
  have h1:((k:Int)).natAbs=k:=by simp
  rw[h1];exact Nat.le_trans (Nat.mul_le_mul_left _ (Nat.le_mul_of_pos_left k %[|5])) ha
theorem JF (ha:0<a) (hb:0<b):0<Rat.divInt a b:=by
 rw[Rat.divInt_eq_div];have hb':(0:Rat)<(b:Rat):=by exact_mod_cast hb
 have ha':(0:Rat)<(a:Rat):=by exact_mod_cast ha
 refine Rat.not_le.mp fun h=>?_;have h2:=Rat.mul_le_mul_of_nonneg_right h (Rat.le_of_lt hb');rw[Rat.div_mul_cancel (by grind)] at h2;grind
theorem Ja (l0:0<L) (h:∀ x∈r,Gr L B x):∀ x∈Y0 r,Gr L (B+B) x:=fun x hx=>by
 obtain⟨i,hi,rfl⟩:=List.mem_map.mp hx;have hi:=List.mem_range.mp hi;exact (h _ (Yy %[|5])).sub l0 (h _ (Yy %[|5]))
theorem A6 (n:Nat) (h:n<=100):Builtin.Range.small 0 (n:Int) 4=true/\0<=Builtin.Range.rangeSize 0 (n:Int) 4/\rngN 0 (n:Int) 4<=n:=by
 have key:∀ m:_root_.Fin 101,Builtin.Range.small 0 ((m.val:Nat):Int) 4=true/\0<=Builtin.Range.rangeSize 0 ((m.val:Nat):Int) 4/\rngN 0 ((m.val:Nat):Int) 4<=m.val:=by decide +kernel
 exact key ⟨n,by omega⟩
theorem Cb (f:α->List Rat):∀ s:List α,tot (s.flatMap f)=tot (s.map fun x=>tot (f x))
 | []=>rfl
 | x::s=>by rw[List.flatMap_cons,List.map_cons,Xa,Y3,Cb f s]
theorem XV:∀ s:List α,tot (s.map fun _=>(0:Rat))=0
 | []=>rfl
 | x::s=>by rw[List.map_cons,Y3,XV s];grind
section
variable {ms:List Pt} {s:List Rat} {L B W C:Nat}
end
noncomputable def S_24:DSp:=fun ds M Q E=>∃ (p:Addr) (s:List Rat),ds=[.lst p]/\M p=some (.ls (s.map nm))/\(∀ x∈s,Sz 3900 x)/\(∀ i,Sz 3900 (tot (s.take i)))/\Q (nm (tot s)) M
noncomputable def C_24:CSs:=%[.set 1 (.glo "NOUGHT" YY),.fr (.name 2) (.seq (.var 0)) %[.set 1 (.call "added" S_4 %[.var 1,.var 2|0])|0],.ret (.var 1)|0]
theorem vc_24:∀ ds M R E,S_24 ds M R E->rSs C_24 (ends R E) (Y1 3 ds) M:=by
 rintro ds M R E ⟨p,s,rfl,l,hs,ht,q⟩;unfold C_24;sleep 7;sleep 9;refine⟨_,l,?_⟩;refine YA (fun i δ M'=>∃ w,M'=M/\δ=[some (.lst p),some (nm (tot (s.take i))),w]) (fun _ _ _ h=>by obtain⟨_,h,_⟩:=h;rw[h];exact l) ?_ ?_ ⟨none,rfl,rfl⟩
 ·rintro δ M' ⟨w,rfl,rfl⟩
  sleep 7;exact q
 ·rintro i x hx N hN δ M' ⟨w,rfl,rfl⟩
  obtain⟨hi,rfl⟩:∃ hi:i<s.length,x=nm s[i]:=by
   obtain⟨h,e⟩:=List.getElem?_eq_some_iff.mp hx;have h':i<s.length:=by simpa using h
   exact⟨h',by rw[<- e];simp⟩
  sleep 8;sleep 7;refine⟨_,_,rfl,.mk (ht i) (hs _ (List.getElem_mem hi)) %[|4],?_⟩;refine hN _ _ ⟨some (nm s[i]),rfl,?_⟩;rw[List.take_succ_eq_append_getElem hi,Xb]
theorem Jq:∀ {items:List DL.D} (I:Nat->DSt->Mem->Prop),(∀ i δ M,I i δ M->keep M)->(∀ δ M,I items.length δ M->Q δ M) ->
  (∀ i x,items[i]?=some x->∀ N:DSt->Mem->Prop,(∀ δ M,I (i+1) δ M->N δ M)->∀ δ M,I i δ M->g x δ M fun δ1 M1=>b δ1 M1 N)->∀ {δ M},I 0 δ M->XH g b keep items δ M Q
 | [],I,hk,he,ht,δ,M,h0=>he δ M h0
 | x::xs,I,hk,he,ht,δ,M,h0=>by
  unfold XH;exact ht 0 x rfl _ (fun δ' M' i'=>⟨hk _ δ' M' i',Jq (fun i=>I (i+1)) (fun i=>hk (i+1)) he (fun i y hy N hN=>ht (i+1) y (by simpa using hy) N hN) i'⟩) δ M h0
noncomputable def pn (ps:List Nat):List DL.D:=ps.map fun (i:Nat)=>DL.D.int (i:Int)
structure Falls (s:List Rat) (n:Nat) (ps:List Nat):Prop where
 perm:ps.Perm (List.range n)
 fall:Fall (ps.map fun i=>s.getD i 0)
noncomputable def S_25:DSp:=fun ds M Q E=>∃ (s:List Rat) (k:Nat),ds=[rw s]/\(∀ x∈s,Sz k x)/\k<=3900/\s.length<=100/\∀ ps p M',M p=none->MExt M M'->M' p=some (.ls (pn ps))->Falls s s.length ps->Q (.lst p) M'
theorem A5 {s:List Rat} {i:Nat} (h:i<s.length) {M:Mem} {Q:DK} (q:Q (nm (s.getD i 0)) M):iOp (.tup (s.map nm)) (.int (i:Int)) M Q:=by
 refine tix (v:=nm (s.getD i 0)) (Zf ?_) q;simp[h]
theorem Falls.ins (F:Falls s n ps) (hw:w<=ps.length) (h1:∀ j,j<w->∀ a,ps[j]?=some a->¬ s.getD a 0<s.getD n 0) (h2:∀ a,ps[w]?=some a->s.getD a 0<s.getD n 0):Falls s (n+1) (ps.take w++n::ps.drop w):=by
 refine⟨?_,?_⟩
 ·rw[List.range_succ]
  have e:(ps.take w++n::ps.drop w).Perm (n::(ps.take w++ps.drop w)):=List.perm_middle;rw[List.take_append_drop] at e;exact e.trans ((F.perm.cons n).trans (List.perm_append_singleton n (List.range n)).symm)
 ·rw[List.map_append,List.map_cons]
  have hf:=F.fall;rw[<- List.take_append_drop w ps,List.map_append] at hf;refine JB hf (fun a ha=>?_) fun a ha=>?_
  ·obtain⟨i,hi,rfl⟩:=List.mem_map.mp ha
   obtain⟨j,hj,e⟩:=List.getElem_of_mem hi;rw[List.length_take] at hj;have:=h1 j %[|5] i (by rw[<- e,List.getElem_take,List.getElem?_eq_getElem]);grind
  ·have hd:∃ b r,ps.drop w=b::r:=by
    cases e:ps.drop w with
    | nil=>rw [e] at ha;cases ha
    | cons b r=>exact⟨b,r,rfl⟩
   obtain⟨b,r,e⟩:=hd;have hb:ps[w]?=some b:=by
    have:=congrArg (fun l=>l[0]?) e
    simpa using this
   have hlt:=h2 b hb;rw[e] at hf;have hf2:=(List.pairwise_append.mp hf).2.1;rw[List.map_cons] at hf2;rw[e,List.map_cons] at ha;rcases List.mem_cons.mp ha with rfl|ha
   ·grind
   ·have:=(List.pairwise_cons.mp hf2).1 a ha
    grind
noncomputable def C_25:CSs:=%[.set 1 (.lst .nil),.fr (.name 2) (.rng %[.bi .len %[.var 0|0]|0]) %[.set 3 (.int 0),.whl (.and (.cmp .Lt (.var 3) (.bi .len %[.var 1|0])) (.one (.not (.call "is_less" S_8 %[.ix (.var 0) (.ix (.var 1) (.var 3)),.ix (.var 0) (.var 2)|0])))) %[.aug 3 false (.int 1)|0],.expr (.ins 1 (.var 3) (.var 2))|0],.ret (.var 1)|0]
theorem vc_25:∀ ds M R E,S_25 ds M R E->rSs C_25 (ends R E) (Y1 4 ds) M:=by
 rintro ds M R E ⟨s,k,rfl,hs,hk,hl,q⟩;rw[show rw s=.tup (s.map nm) from rfl];unfold C_25;sleep 1;intro p0 M0 e0 x0 l0;sleep 3;refine⟨by omega,?_⟩;refine YA (fun i δ M'=>∃ ps w2 w3,MExt M M'/\M' p0=some (.ls (pn ps))/\Falls s i ps/\δ=[some (.tup (s.map nm)),some (.lst p0),w2,w3]) (fun _ _ _ _=>trivial) ?_ ?_ ⟨[],none,none,x0,l0,⟨.refl _,.nil⟩,rfl⟩
 ·rintro δ M' ⟨ps,w2,w3,x,l,F,rfl⟩
  rw[Zx] at F;sleep 1;exact q ps p0 M' e0 x l F
 ·rintro i x hx N hN δ M' ⟨ps,w2,w3,xm,l,F,rfl⟩
  obtain⟨rfl,hi'⟩:=Xx hx;simp[0,Yn,vAt,vHd,Y7,Yp,bMul,bAdd,sOp,Yd,Yo,fIsi,Yi,and_assoc,sizeLine_eq,Yh,and_true];sleep 1;rw[Yr];have done_:∀ (w:Nat),w<=ps.length->(∀ j,j<w->∀ a,ps[j]?=some a->¬ s.getD a 0<s.getD i 0)->(∀ a,ps[w]?=some a->s.getD a 0<s.getD i 0)->∀ DD:DEnds,DD.nx=N->rSs (.cons (.expr (.ins 1 (.var 3) (.var 2))) .nil) DD [some (.tup (s.map nm)),some (.lst p0),some (.int (i:Int)),some (.int (w:Int))] M':=by
   intro w hw h1 h2 DD hD;have pl:=F.perm.length_eq;rw[List.length_range] at pl;sleep 1;rw[hD];refine⟨⟨_,l⟩,_,l,by simpa[pn] using hw,by simp[pn];omega,?_⟩;refine hN _ _ ⟨ps.take w++i::ps.drop w,_,_,MExt.upd_new e0 xm,?_,F.ins hw h1 h2,rfl⟩;rw[mupd_same];unfold X6 pn;simp
  refine⟨fun m δ M1=>∃ w:Nat,w<=ps.length/\(∀ j,j<w->∀ a,ps[j]?=some a->¬ s.getD a 0<s.getD i 0)/\δ=[some (.tup (s.map nm)),some (.lst p0),some (.int (i:Int)),some (.int (w:Int))]/\M1=M'/\m=ps.length-w,⟨_,0,by omega,by omega,rfl,rfl,rfl⟩,?_⟩;rintro m δ M1 ⟨w,hw,hb,rfl,rfl,rfl⟩;simp[0,Yn,vAt,vHd,Y7,Yp,bMul,bAdd,sOp,Yd,Yo,fIsi,Yi,and_assoc,sizeLine_eq,Yh,fLen,and_true];refine⟨_,l,?_⟩;have hlen:(pn ps).length=ps.length:=by simp[pn]
  rw[hlen];by_cases h1:w<ps.length
  ·rw[if_pos h1]
   have ea:ps[w]?=some ps[w]:=List.getElem?_eq_getElem h1;have ha:ps[w]<i:=by
    have:=F.perm.subset (List.getElem_mem h1);exact List.mem_range.mp this
   refine Ys (v:=.int ((ps[w]:Nat):Int)) l (Zf (by simp[pn,h1])) ?_;refine A5 %[|5] ?_;refine A5 %[|5] ?_;have sz:∀ j,j<s.length->Sz k (s.getD j 0):=fun j hj=>by
    have:=hs _ (List.getElem_mem hj)
    simpa[hj] using this
   refine⟨_,_,rfl,.mk (sz _ %[|5]) (sz _ %[|5]) %[|5],?_⟩;by_cases h2:s.getD ps[w] 0<s.getD i 0
   ·rw[decide_eq_true h2]
    dsimp only;simp;exact done_ w hw hb (fun a e=>by rw[ea] at e;cases e;exact h2) _ rfl
   ·rw[decide_eq_false h2]
    dsimp only;simp;refine⟨fun δ' M2=>δ'=[some (.tup (s.map nm)),some (.lst p0),some (.int (i:Int)),some (.int ((w+1:Nat):Int))]/\M2=M1,?_,?_⟩
    ·rintro δ' M2 ⟨rfl,rfl⟩
     refine⟨_,by omega,w+1,by omega,fun j hj a e=>?_,rfl,rfl,rfl⟩;by_cases hjw:j=w
     ·subst hjw;rw[ea] at e;cases e;simpa using h2
     ·simpa using hb j %[|5] a e
    ·sleep 1
  ·rw[if_neg h1]
   exact done_ w hw hb (fun a e=>by rw[List.getElem?_eq_none %[|5]] at e;cases e) _ rfl
theorem Falls.vals (F:Falls s s.length ps):(ps.map fun i=>s.getD i 0)=srt s:=by
 refine A4 ?_ F.fall;have h:=F.perm.map fun i=>s.getD i 0;have e:(List.range s.length).map (fun i=>s.getD i 0)=s:=by
  apply List.ext_getElem
  ·simp
  ·intro i h1 h2;simp at h1;simp[h1]
 rw[e] at h;exact h
noncomputable def Gs (s:List Rat):Prop:=∃ L B,0<L/\L<2 ^ 1900/\B<2 ^ 1900/\∀ x∈s,Gr L B x
theorem Gs.sz (h:Gs s):∀ x∈s,Sz 1900 x:=fun x hx=>by
 obtain⟨L,B,l0,hL,hB,g⟩:=h;exact (g x hx).sz l0 hL hB
theorem Gs.tot (h:Gs s) (ht:∀ x∈t,x∈s) (hl:t.length<=25):Sz 1910 (tot t):=by
 obtain⟨L,B,l0,hL,hB,g⟩:=h;have:=Gr.tot l0 fun x hx=>g x (ht x hx);refine (this.mono (Nat.mul_le_mul_right _ hl)).sz l0 (Nat.lt_of_lt_of_le hL (Yf %[|4])) ?_;have:25*B<2 ^ 5*2 ^ 1900:=by omega
 exact Nat.lt_of_lt_of_le this (by decide +kernel)
noncomputable def Yj (s:List Rat):List Rat:=Zp 0 (srt s)
noncomputable def S_26:DSp:=fun ds M Q E=>∃ (s:List Rat),ds=[rw s]/\Gs s/\s.length<=25/\∀ p M',M p=none->MExt M M'->M' p=some (.ls ((Yj s).map nm))->Q (.lst p) M'
noncomputable def C_26:CSs:=%[.set 1 (.lst .nil),.set 2 (.glo "NOUGHT" YY),.fr (.name 3) (.seq (.call "falling" S_25 %[.var 0|0])) %[.set 2 (.call "added" S_4 %[.var 2,.ix (.var 0) (.var 3)|0]),.expr (.app 1 (.var 2))|0],.ret (.var 1)|0]
theorem vc_26:∀ ds M R E,S_26 ds M R E->rSs C_26 (ends R E) (Y1 4 ds) M:=by
 rintro ds M R E ⟨s,rfl,G,hl,q⟩;rw[show rw s=.tup (s.map nm) from rfl];have hs:=G.sz;obtain⟨k,hk⟩:∃ k,k=1900:=⟨_,rfl⟩;rw[<- hk] at hs;unfold C_26;sleep 1;intro p0 M0 e0 x0 l0;sleep 1;sleep 3;refine⟨s,k,rfl,hs,by omega,by omega,fun ps p1 M1 e1 x1 l1 F=>?_⟩;have hpp:p0≠p1:=fun z=>by rw[<- z,l0] at e1;cases e1
 have pln:=F.perm.length_eq;rw[List.length_range] at pln;have lt:∀ a∈ps,a<s.length:=fun a ha=>List.mem_range.mp (F.perm.subset ha);have sz:∀ j,j<s.length->Sz k (s.getD j 0):=fun j hj=>by
  have:=hs _ (List.getElem_mem hj)
  simpa[hj] using this
 have hv:=F.vals;obtain⟨vs,hvs⟩:∃ vs,vs=ps.map fun i=>s.getD i 0:=⟨_,rfl⟩;have vz:∀ x∈vs,Sz k x:=fun x hx=>by
  rw[hvs] at hx;obtain⟨a,ha,rfl⟩:=List.mem_map.mp hx;exact sz a (lt a ha)
 have gv:∀ x∈vs,x∈s:=fun x hx=>by
  rw[hvs] at hx;obtain⟨a,ha,rfl⟩:=List.mem_map.mp hx;have:=lt a ha;simp[List.getD,this]
 have vl:vs.length=ps.length:=by rw[hvs];simp
 rw[<- hvs] at hv;dsimp only;refine⟨_,l1,?_⟩;refine YA (fun i δ M'=>∃ w,MExt M M'/\M' p1=some (.ls (pn ps))/\M' p0=some (.ls ((Zp 0 (vs.take i)).map nm))/\δ=[some (.tup (s.map nm)),some (.lst p0),some (nm (tot (vs.take i))),w]) (fun _ _ _ h=>by obtain⟨_,_,h,_⟩:=h;exact h) ?_ ?_ ⟨none,x0.trans x1,l1,x1 _ _ l0,rfl⟩
 ·rintro δ M' ⟨w,x,_,l,rfl⟩
  sleep 1;refine q p0 M' e0 x ?_;rw[l,show (pn ps).length=vs.length by rw[vl];simp[pn],List.take_length,hv];rfl
 ·rintro i x hx N hN δ M' ⟨w,xm,lp,l,rfl⟩
  obtain⟨hi,rfl⟩:∃ hi:i<ps.length,x=.int ((ps[i]:Nat):Int):=by
   obtain⟨h,e⟩:=List.getElem?_eq_some_iff.mp hx;have h':i<ps.length:=by simpa[pn] using h
   refine⟨h',?_⟩;rw[<- e];simp[pn]
  have ai:=lt _ (List.getElem_mem hi);have vi:vs[i]'%[|5]=s.getD ps[i] 0:=by subst hvs;simp
  have tk:vs.take (i+1)=vs.take i++[s.getD ps[i] 0]:=by rw[List.take_succ_eq_append_getElem %[|5],vi]
  have st:Sz 1910 (tot (vs.take i)):=G.tot (fun x hx=>gv x (List.mem_of_mem_take hx)) (by rw[List.length_take];omega);simp[0,Yn,vAt,vHd,Y7,Yp,bMul,bAdd,sOp,Yd,Yo,fIsi,Yi,and_assoc,sizeLine_eq,Yh,and_true];sleep 1;refine A5 ai ?_;refine⟨_,_,rfl,.mk st (sz _ ai) %[|5],?_⟩;sleep 1;refine⟨⟨_,l⟩,_,l,?_,?_⟩
  ·rw[List.length_map,Wu,List.length_take];omega
  ·refine hN _ _ ⟨some (.int ((ps[i]:Nat):Int)),MExt.upd_new e0 xm,by rw[Yv hpp.symm];exact lp,?_,?_⟩
   ·rw[mupd_same,tk,Bx,List.map_append];rfl
   ·rw[tk,Xb];rfl
theorem Aj (s:List Rat):(Yj s).length=s.length:=by unfold Yj;rw[Wu,(Yq s).length_eq]
theorem Fo (p:s.Perm t):Yj s=Yj t:=by
 unfold Yj;rw[A4 ((Yq s).trans p) (Vk s)]
theorem Jw:∀ {q:Rat} {s:List Rat} {i:Nat},i<s.length->ri (Zp q s) i=q+tot (s.take (i+1))
 | q,a::s,0,_=>by
  show q+a=q+tot [a];rw[Y3];show q+a=q+(a+0);grind
 | q,a::s,i+1,h=>by
  show ri (Zp (q+a) s) i=_;rw[Jw (by simpa using h),List.take_succ_cons,Y3];grind
theorem Xm (h:i<s.length):ri (Yj s) i=tot ((srt s).take (i+1)):=by
 unfold Yj;rw[Jw (by rw[(Yq s).length_eq];exact h),Rat.zero_add]
noncomputable def S_55:DSp:=fun ds M Q E=>∃ a w,ds=[.lst a,.int w]/\Pk M a/\0<=w/\w<100/\∀ q M',Gr 60 6000 q->Dr a M M'->Q (nm q) M'
noncomputable def C_55:CSs:=%[.set 2 (.ix (.lst %[.int 1,.int 1,.int 1,.int 2,.int 3,.int 5,.int 12,.int 1|0]) (.call "_law_take" S_50 %[.var 0,.int 8|0])),.ret (.call "_law_low" S_51 %[.bin .Sub (.call "_law_take" S_50 %[.var 0,.bin .Add (.bin .Mult (.int 2) (.var 1)) (.int 1)|0]) (.var 1),.var 2|0])|0]
theorem vc_55:∀ ds M R E,S_55 ds M R E->rSs C_55 (ends R E) (Y1 3 ds) M:=by
 rintro ds M R E ⟨a,w,rfl,p,w0,w1,q⟩;unfold C_55;sleep 7;intro p0 M0 e0 x0 l0;refine YC (p.ext x0) %[|4] %[|4] fun r M1 r0 r1 y1=>?_;obtain⟨z,hz,hv⟩:=As (xs:=[D.int 1,D.int 1,D.int 1,D.int 2,D.int 3,D.int 5,D.int 12,D.int 1]) r0 (by simpa using r1);refine Ys (y1.keep _ _ (p.ne e0) l0) hv ?_;obtain⟨b,rfl,b0,b1,bd⟩:∃ b:Int,z=.int b/\0<b/\b<=12/\b.toNat ∣ 60:=by
  simp at hz;rcases hz with rfl|rfl|rfl|rfl|rfl|rfl|rfl|rfl<;>exact⟨_,rfl,by decide,by decide,by decide⟩
 sleep 7;refine⟨Xh (m:=64) (n:=64) %[|4] %[|5] %[|4],?_⟩;refine YC y1.pk %[|5] (Nat.lt_of_lt_of_le (show (2*w+1).natAbs<2 ^ 12 by omega) (Yf %[|4])) fun v M2 v0 v1 y2=>?_;exact⟨_,_,rfl,by omega,Ws (Nat.lt_of_lt_of_le (show b.natAbs<2 ^ 4 by omega) (Yf %[|4])),q _ M2 (Wv b0 bd %[|4] %[|5]) ((Dr.ext p x0).trans (y1.trans y2))⟩
noncomputable def cutP (c x:Rat):Rat:=if c<x then x-c else 0
theorem WM (c x:Rat):0<=cutP c x:=by unfold cutP;split<;>grind
theorem B3 (c x:Rat):x-c<=cutP c x:=by unfold cutP;split<;>grind
theorem Vc:∀ {s:List Rat},(∀ x∈s,0<=x)->0<=tot s
 | [],_=>Rat.le_refl
 | x::s,h=>by
  rw[Y3];have:=h x List.mem_cons_self;have:=Vc fun y hy=>h y (List.mem_cons_of_mem _ hy);grind
theorem Vd:∀ {s:List α},(∀ x∈s,f x<=g x)->tot (s.map f)<=tot (s.map g)
 | [],_=>Rat.le_refl
 | x::s,h=>by
  rw[List.map_cons,List.map_cons,Y3,Y3];have:=h x List.mem_cons_self;have:=Vd fun y hy=>h y (List.mem_cons_of_mem _ hy);grind
theorem Uw (c:Rat):∀ s:List Rat,tot (s.map fun x=>x-c)=tot s-(s.length:Rat)*c
 | []=>by show (0:Rat)=0-(0:Rat)*c;grind
 | x::s=>by
  rw[List.map_cons,Y3,Y3,Uw c s,List.length_cons]
  push_cast
  grind
theorem Gx (c:Rat) (hk:k<=s.length):tot ((srt s).take k)<=(k:Rat)*c+tot (s.map (cutP c)):=by
 have hl:=(Yq s).length_eq;rw[<- Vb ((Yq s).map (cutP c))];rw[<- List.take_append_drop k (srt s),List.map_append,Xa,List.take_append_drop];have h1:=Uw c ((srt s).take k);have h2:tot (((srt s).take k).map fun x=>x-c)<=tot (((srt s).take k).map (cutP c)):=Vd fun x _=>B3 c x;have h3:0<=tot (((srt s).drop k).map (cutP c)):=Vc fun y hy=>by
  obtain⟨x,_,rfl⟩:=List.mem_map.mp hy;exact WM c x
 rw[List.length_take,Nat.min_eq_left %[|5]] at h1;grind
theorem Gy (hk:k<s.length):∃ c,tot ((srt s).take (k+1))=((k+1:Nat):Rat)*c+tot (s.map (cutP c)):=by
 have hl:=(Yq s).length_eq;have hk':k<(srt s).length:=by omega
 have F:List.Pairwise (fun a b=>b<=a) (srt s):=Vk s;refine⟨(srt s)[k],?_⟩;rw[<- Vb ((Yq s).map (cutP _))];have h1:=Uw (srt s)[k] ((srt s).take (k+1));have up:∀ x∈(srt s).take (k+1),cutP (srt s)[k] x=x-(srt s)[k]:=fun x hx=>by
  obtain⟨j,hj,rfl⟩:=List.getElem_of_mem hx;rw[List.length_take] at hj;rw[List.getElem_take];have:(srt s)[k]<=(srt s)[j]:=by
   rcases (by omega:j=k\/j<k) with rfl|h
   ·exact Rat.le_refl
   ·exact List.pairwise_iff_getElem.mp F j k %[|5] hk' h
  unfold cutP;split<;>grind
 have dn:∀ x∈(srt s).drop (k+1),cutP (srt s)[k] x=0:=fun x hx=>by
  obtain⟨j,hj,rfl⟩:=List.getElem_of_mem hx;rw[List.length_drop] at hj;rw[List.getElem_drop];have:(srt s)[k+1+j]<=(srt s)[k]:=List.pairwise_iff_getElem.mp F k (k+1+j) hk' %[|5] %[|5];unfold cutP;rw[if_neg (by grind)]
 have e:tot ((srt s).map (cutP (srt s)[k]))=tot (((srt s).take (k+1)).map fun x=>x-(srt s)[k]):=by
  generalize (srt s)[k]=c at up dn;have e0:(srt s).map (cutP c)=((srt s).take (k+1)).map (cutP c)++((srt s).drop (k+1)).map (cutP c):=by rw[<- List.map_append,List.take_append_drop]
  rw[e0,Xa];rw[List.map_congr_left (l:=(srt s).take (k+1)) up,List.map_congr_left (l:=(srt s).drop (k+1)) dn,XV];grind
 rw[e,h1,List.length_take,Nat.min_eq_left %[|5]];grind
theorem K0 (hl:s.length=t.length) (h:∀ c,tot (s.map (cutP c))<=tot (t.map (cutP c))) (hi:i<t.length):ri (Yj s) i<=ri (Yj t) i:=by
 rw[Xm %[|5],Xm hi];obtain⟨c,hc⟩:=Gy hi;have:=Gx (s:=s) c (k:=i+1) %[|5];have:=h c;rw[hc];grind
theorem Dy:∀ n,n<r.length->tot (((Y0 r).map f).take n)=fs f (ri r) n
 | 0,_=>rfl
 | n+1,h=>by
  have hn:n<((Y0 r).map f).length:=by rw[List.length_map,Yz];omega
  rw[List.take_succ_eq_append_getElem hn,Xb,Dy n %[|5]];show _=fs f (ri r) n+f (ri r (n+1)-ri r n)
  congr 1
  simp[Y0]
theorem Dz (h:1<=r.length):tot ((Y0 r).map f)=fs f (ri r) (r.length-1):=by
 rw[<- Dy _ %[|5],List.take_of_length_le (by rw[List.length_map,Yz];omega)]
structure Rival (lo hi:Nat->Rat) (r o:List Rat):Prop where
 taut:Taut lo hi (ri r) (r.length-1)
 len:o.length=r.length
 one:1<=r.length
 low:∀ k,k<r.length->lo k<=ri o k
 high:∀ k,k<r.length->ri o k<=hi k
 first:ri o 0=ri r 0
 last:ri o (r.length-1)=ri r (r.length-1)
theorem Rival.best {lo hi:Nat->Rat} {r o:List Rat} (V:Rival lo hi r o) {f g:Rat->Rat} (hf:∀ u v,f u+g u*(v-u)<=f v) (hg:∀ u v,u<v->g u<=g v):tot ((Y0 r).map f)<=tot ((Y0 o).map f):=by
 have:=V.one;rw[Dz V.one,Dz (by rw[V.len];exact V.one),V.len];exact V.taut.best hf hg (fun k hk=>V.low k %[|5]) (fun k hk=>V.high k %[|5]) V.first V.last
theorem Rival.cut {lo hi:Nat->Rat} {r o:List Rat} (V:Rival lo hi r o) (c:Rat):tot ((Y0 r).map (cutP c))<=tot ((Y0 o).map (cutP c)):=by
 refine V.best (g:=fun u=>if c<u then 1 else 0) (fun u v=>?_) fun u v h=>?_
 ·show cutP c u+(if c<u then (1:Rat) else 0)*(v-u)<=cutP c v
  have:=B3 c v;have:=WM c v;by_cases h:c<u
  ·rw[if_pos h]
   have:cutP c u=u-c:=by unfold cutP;rw[if_pos h]
   grind
  ·rw[if_neg h]
   have:cutP c u=0:=by unfold cutP;rw[if_neg h]
   grind
 ·show (if c<u then (1:Rat) else 0)<=if c<v then 1 else 0
  by_cases h1:c<u
  ·rw[if_pos h1,if_pos (by grind)];exact Rat.le_refl
  ·rw[if_neg h1]
   split
   ·decide
   ·exact Rat.le_refl
theorem Rival.sums {lo hi:Nat->Rat} {r o:List Rat} (V:Rival lo hi r o) {i:Nat} (h:i<(Y0 o).length):ri (Yj (Y0 r)) i<=ri (Yj (Y0 o)) i :=
 K0 (by rw[Yz,Yz,V.len]) V.cut h
theorem Gg (h:Gs s) (h25:s.length<=25):∀ x∈Yj s,Sz 1910 x:=fun x hx=>by
 obtain⟨i,hi,rfl⟩:=List.getElem_of_mem hx;have hi':i<s.length:=by rw[Aj] at hi;exact hi
 have e:(Yj s)[i]=ri (Yj s) i:=by simp[ri,List.getD,hi]
 rw[e,Xm hi'];refine h.tot (fun x hx=>(Yq s).subset (List.mem_of_mem_take hx)) ?_;have:=(Yq s).length_eq;rw[List.length_take];omega
theorem Gb (l:M a=some (.ls (r.map nm))) (l':M b=some (.ls (s.map nm))) (q:∀ keep:Mem->Prop,(∀ M',MExt M M'->keep M')->R ((List.zip r s).map fun z=>pl z) keep M):Vz [.lst a,.lst b] M R:=by
 refine⟨_,_,l,l',?_⟩;have e:zipD (r.map nm) (s.map nm)=(List.zip r s).map fun z=>pl z:=by
  unfold zipD;rw[List.zipWith_map,List.zip,List.map_zipWith];rfl
 rw[e];exact q _ fun M' x=>⟨x _ _ l,x _ _ l'⟩
theorem Gq (hl:r.length=s.length) (h:∀ i,i<s.length->ri s i<=ri r i):∀ z∈List.zip r s,¬ z.1<z.2:=fun z hz=>by
 obtain⟨i,hi,rfl⟩:=List.getElem_of_mem hz;rw[List.length_zip] at hi;have h1:i<r.length:=by omega
 have h2:i<s.length:=by omega
 have:=h i h2;simp only[ri,List.getD,List.getElem?_eq_getElem h1,List.getElem?_eq_getElem h2,Option.getD_some] at this;rw[List.getElem_zip];grind
structure Lv where
 g:Nat
 l:Nat
 x:Rat
noncomputable def lv (v:Lv):DL.D:=.tup [.int (v.g:Int),.int (v.l:Int),nm v.x]
noncomputable def doL (v:Lv) (s:List Rat):List Rat:=(s.set v.g (ri s v.g-v.x)).set v.l (ri (s.set v.g (ri s v.g-v.x)) v.l+v.x)
theorem AX (v:Lv) (s:List Rat):(doL v s).length=s.length:=by unfold doL;rw[List.length_set,List.length_set]
theorem ED {s:List Rat} {i:Nat} {y x:Rat} (h:x∈s.set i y):x∈s\/x=y:=List.mem_or_eq_of_mem_set h
structure Can (v:Lv) (s:List Rat):Prop where
 g:v.g<s.length
 l:v.l<s.length
 pos:0<v.x
 le:v.x<=ri s v.g-ri s v.l
 sx:Sz 900 v.x
 ss:∀ y∈s,Sz 900 y
noncomputable def runL (vs:List Lv) (s:List Rat):List Rat:=vs.foldl (fun s v=>doL v s) s
theorem Vo:∀ (vs:List Lv) (s:List Rat),(runL vs s).length=s.length
 | [],_=>rfl
 | v::vs,s=>by
  show (runL vs (doL v s)).length=_;rw[Vo vs,AX]
theorem Vp (vs:List Lv) (v:Lv) (s:List Rat):runL (vs++[v]) s=doL v (runL vs s):=by unfold runL;rw[List.foldl_append];rfl
noncomputable def Way (s:List Rat) (vs:List Lv):Prop:=∀ i (h:i<vs.length),Can vs[i] (runL (vs.take i) s)
theorem Way.nil (s:List Rat):Way s []:=fun i h=>absurd h (Nat.not_lt_zero i)
theorem Way.add (h:Way s vs) (c:Can v (runL vs s)):Way s (vs++[v]):=fun i hi=>by
 rw[List.length_append] at hi;by_cases q:i<vs.length
 ·rw[List.getElem_append_left q,List.take_append_of_le_length %[|5]]
  exact h i q
 ·have e:i=vs.length:=by simp at hi;omega
  subst e;rw[List.getElem_append_right %[|3],List.take_left]
  simpa using c
noncomputable def S_27:DSp:=fun ds M Q E=>∃ p s v,ds=[.lst p,lv v]/\M p=some (.ls (s.map nm))/\Can v s/\s.length<=100/\Q (.bl true) M
noncomputable def C_27:CSs:=%[.ife (.or (.not (.bi .isinstance %[.var 1,.ty .tuple|0])) (.one (.cmp .NotEq (.bi .len %[.var 1|0]) (.int 3)))) %[.ret (.bl false)|0] .nil,.asg (.tup %[.name 2,.name 3,.name 4|0]) (.var 1),.ife (.or (.not (.call "is_whole" S_0 %[.var 2|0])) (.or (.not (.call "is_whole" S_0 %[.var 3|0])) (.one (.not (.call "is_number" S_2 %[.var 4|0]))))) %[.ret (.bl false)|0] .nil,.ife (.or (.not (.chain .LtE .Lt (.int 0) (.var 2) (.bi .len %[.var 0|0]))) (.one (.not (.chain .LtE .Lt (.int 0) (.var 3) (.bi .len %[.var 0|0]))))) %[.ret (.bl false)|0] .nil,.ret (.and (.call "is_less" S_8 %[.glo "NOUGHT" YY,.var 4|0]) (.one (.not (.call "is_less" S_8 %[.call "taken" S_5 %[.ix (.var 0) (.var 2),.ix (.var 0) (.var 3)|0],.var 4|0]))))|0]
theorem vc_27:∀ ds M R E,S_27 ds M R E->rSs C_27 (ends R E) (Y1 5 ds) M:=by
 rintro ds M R E ⟨p,s,v,rfl,l,c,hl,q⟩;obtain⟨g,k,x⟩:=v;have c1:=c.g;have c2:=c.l;have c3:=c.pos;have c4:=c.le;have c5:=c.sx;have c6:=c.ss;dsimp only at c1 c2 c3 c4 c5 c6;rw[show lv ⟨g,k,x⟩=.tup [.int (g:Int),.int (k:Int),nm x] from rfl];unfold C_27;sleep 7;refine YN true ?_;simp;sleep 7;sleep 7;refine⟨_,"int",rfl,rfl,?_⟩;simp;refine⟨_,"int",rfl,rfl,?_⟩;simp;refine⟨_,rfl,gnm c5,?_⟩;rw[X4];simp;sleep 7;refine⟨_,l,?_⟩;rw[List.length_map,if_pos c1];refine⟨_,l,?_⟩;rw[List.length_map,if_pos c2];sleep 7;refine⟨0,x,rfl,.mk (show Sz 1 (0:Rat) from ⟨by decide,by decide⟩) c5 %[|4],?_⟩;rw[decide_eq_true c3];simp;refine Ys (v:=nm (ri s g)) l (Zf (WG c1)) ?_;refine Ys (v:=nm (ri s k)) l (Zf (WG c2)) ?_;refine⟨_,_,rfl,.mk (c6 _ (Yy c1)) (c6 _ (Yy c2)) %[|4],?_⟩;refine⟨_,_,rfl,.mk ((c6 _ (Yy c1)).sub (c6 _ (Yy c2))) c5 %[|4],?_⟩;have c7:¬ ri s g-ri s k<x:=by grind
 rw[decide_eq_false c7]
 simpa using q
noncomputable def S_28:DSp:=fun ds M Q E=>∃ p s v,ds=[.lst p,lv v]/\M p=some (.ls (s.map nm))/\Can v s/\s.length<=100/\Q .non (M.upd p (.ls ((doL v s).map nm)))
noncomputable def C_28:CSs:=%[.asg (.tup %[.name 2,.name 3,.name 4|0]) (.var 1),.asg (.sub (.var 0) (.var 2)) (.call "taken" S_5 %[.ix (.var 0) (.var 2),.var 4|0]),.asg (.sub (.var 0) (.var 3)) (.call "added" S_4 %[.ix (.var 0) (.var 3),.var 4|0])|0]
theorem vc_28:∀ ds M R E,S_28 ds M R E->rSs C_28 (ends R E) (Y1 5 ds) M:=by
 rintro ds M R E ⟨p,s,v,rfl,l,c,hl,q⟩;have c1:=c.g;have c2:=c.l;have c5:=c.sx;have c6:=c.ss;rw[show lv v=.tup [.int (v.g:Int),.int (v.l:Int),nm v.x] from rfl];unfold C_28;sleep 7;sleep 7;refine Ys (v:=nm (ri s v.g)) l (Zf (WG c1)) ?_;refine⟨_,_,rfl,.mk (c6 _ (Yy c1)) c5 %[|4],?_⟩;sleep 8;refine⟨_,l,v.g,by simp[L2.ixN];omega,?_⟩;rw[<- List.map_set];have h1:v.l<(s.set v.g (ri s v.g-v.x)).length:=by rw[List.length_set];exact c2
 have s1:∀ y∈s.set v.g (ri s v.g-v.x),Sz 1810 y:=fun y hy=>by
  rcases ED hy with hy|rfl
  ·exact (c6 y hy).mono %[|4]
  ·exact ((c6 _ (Yy c1)).sub c5).mono %[|4]
 have q':R .non ((M.upd p (.ls ((s.set v.g (ri s v.g-v.x)).map nm))).upd p (.ls (((s.set v.g (ri s v.g-v.x)).set v.l (ri (s.set v.g (ri s v.g-v.x)) v.l+v.x)).map nm))):=by rw[Jo];exact q
 generalize s.set v.g (ri s v.g-v.x)=s' at h1 s1 q';have l1:(M.upd p (.ls (s'.map nm))) p=some (.ls (s'.map nm)):=mupd_same;generalize M.upd p (.ls (s'.map nm))=M' at l1 q';sleep 7;refine Ys (v:=nm (ri s' v.l)) l1 (Zf (WG h1)) ?_;refine⟨_,_,rfl,.mk (s1 _ (Yy h1)) c5 %[|4],?_⟩;sleep 8;refine⟨_,l1,v.l,by simp[L2.ixN];omega,?_⟩;rw[<- List.map_set];exact q'
noncomputable def S_29:DSp:=fun ds M Q E=>∃ s vs,ds=[rw s,.tup (vs.map lv)]/\Way s vs/\(∀ y∈s,Sz 900 y)/\1<=s.length/\s.length<=24/\∀ M',MExt M M'->Q (rw (runL vs s)) M'
noncomputable def C_29:CSs:=%[.expr (.call "want_steps" S_15 %[.var 0|0]),.ife (.not (.bi .isinstance %[.var 1,.ty .tuple|0])) %[.nev|0] .nil,.set 2 (.bi .list %[.var 0|0]),.fr (.tup %[.name 3,.name 4|0]) (.enum %[.var 1|0]) %[.ife (.not (.call "can_be_done" S_27 %[.var 2,.var 4|0])) %[.nev|0] .nil,.expr (.call "walk" S_28 %[.var 2,.var 4|0])|0],.ret (.bi .tuple %[.var 2|0])|0]
theorem vc_29:∀ ds M R E,S_29 ds M R E->rSs C_29 (ends R E) (Y1 5 ds) M:=by
 rintro ds M R E ⟨s,vs,rfl,W,sz,s1,s24,q⟩;unfold C_29;sleep 7;refine⟨_,rfl,Ua sz %[|4],fun M1 x1=>?_⟩;have hn:Ye 1 24 (rw s)=true:=by
  have hl:(s.map nm).length=s.length:=List.length_map ..;have ha:(s.map nm).all YK=true:=List.all_eq_true.mpr fun d hd=>by
   obtain⟨x,_,rfl⟩:=List.mem_map.mp hd;exact X4 x
  show (decide ((1:Int)<=((s.map nm).length:Int))&&decide (((s.map nm).length:Int)<=24)&&(s.map nm).all YK)=true;rw[ha,hl,decide_eq_true (show (1:Int)<=s.length by omega),decide_eq_true (show (s.length:Int)<=24 by omega)];rfl
 rw[if_pos hn];sleep 7;sleep 7;intro p M2 e2 x2 l2;have ep:M p=none:=MExt.none x1 e2
 (try dsimp only);rw[Yr];simp[0,vAt,vHd,Y7,and_assoc,sizeLine_eq,Yh,Z4,Yl,dFld,ZH,ZI,ZG,dFor,UQ,UN]
 refine YA (fun i δ M'=>∃ (w3 w4:Option DL.D),MExt M M'/\M' p=some (.ls ((runL (vs.take i) s).map nm))/\δ=[some (rw s),some (.tup (vs.map lv)),some (.lst p),w3,w4]) (fun _ _ _ _=>trivial) ?_ ?_ ⟨_,_,x1.trans x2,l2,rfl⟩
 ·rintro δ M' ⟨w3,w4,x,l,rfl⟩
  rw[show (enD (vs.map lv)).length=vs.length by unfold enD;simp,List.take_length] at l;sleep 7;exact⟨_,l,q M' x⟩
 ·rintro i y hy N hN δ M' ⟨w3,w4,x,l,rfl⟩
  obtain⟨hi,rfl⟩:∃ hi:i<vs.length,y=.tup [.int (i:Int),lv vs[i]]:=by
   obtain⟨h,e⟩:=List.getElem?_eq_some_iff.mp hy;have h':i<vs.length:=by simpa[enD] using h
   exact⟨h',by rw[<- e];simp[enD]⟩
  have c:=W i hi;have rl:=Vo (vs.take i) s;have tk:vs.take (i+1)=vs.take i++[vs[i]]:=List.take_succ_eq_append_getElem hi;sleep 8;sleep 7;refine⟨p,_,_,rfl,l,c,by omega,?_⟩;simp;sleep 7;refine⟨p,_,_,rfl,l,c,by omega,?_⟩;refine hN _ _ ⟨_,_,MExt.upd_new ep x,?_,rfl⟩;rw[mupd_same,tk,Vp]
noncomputable def pat (ps:List Nat) (k:Nat):Nat:=ps.getD k 0
noncomputable def al (ps:List Nat) (s:List Rat) (k:Nat):Rat:=ri s (pat ps k)
structure Pls (n:Nat) (ps:List Nat):Prop where
 len:ps.length=n
 lt:∀ k,k<n->pat ps k<n
 inj:∀ i j,i<n->j<n->pat ps i=pat ps j->i=j
 sur:∀ m,m<n->∃ k,k<n/\pat ps k=m
theorem GR (p:ps.Perm (List.range n)):Pls n ps:=by
 have len:ps.length=n:=by rw[p.length_eq,List.length_range]
 have nd:ps.Nodup:=p.nodup_iff.mpr List.nodup_range;have gd:∀ k (h:k<ps.length),pat ps k=ps[k]:=fun k h=>by simp[pat,List.getD,h]
 refine⟨len,fun k hk=>?_,fun i j hi hj e=>?_,fun m hm=>?_⟩
 ·rw[gd k %[|5]]
  exact List.mem_range.mp (p.subset (List.getElem_mem _))
 ·rw[gd i %[|5],gd j %[|5]] at e
  exact (List.getElem_inj nd).mp e
 ·have:=p.symm.subset (List.mem_range.mpr hm)
  obtain⟨k,hk,e⟩:=List.getElem_of_mem this;exact⟨k,by omega,by rw[gd k hk];exact e⟩
theorem Xy (h:i≠j):ri (s.set i y) j=ri s j:=by
 unfold ri;simp only[List.getD,List.getElem?_set_ne h]
theorem U2 {s:List Rat} {i:Nat} {y:Rat} (h:i<s.length):ri (s.set i y) i=y:=by
 unfold ri;simp[List.getD,h]
theorem GH (hg:g<s.length) (hl:l<s.length) (ne:g≠l) (j:Nat):ri (doL ⟨g,l,x⟩ s) j=if j=g then ri s g-x else if j=l then ri s l+x else ri s j:=by
 unfold doL;dsimp only;by_cases c1:j=l
 ·subst c1
  rw[if_neg (Ne.symm ne),if_pos rfl,U2 (by rw[List.length_set];exact hl),Xy ne]
 ·rw[Xy (Ne.symm c1),if_neg c1]
  by_cases c2:j=g
  ·subst c2
   rw[if_pos rfl,U2 hg]
  ·rw[if_neg c2,Xy (Ne.symm c2)]
theorem Au (P:Pls n ps) (hn:s.length=n) (hg:g<n) (hl:l<n) (ne:g≠l) (hj:j<n):al ps (doL ⟨pat ps g,pat ps l,x⟩ s) j=if j=g then al ps s g-x else if j=l then al ps s l+x else al ps s j:=by
 unfold al;rw[GH (by have:=P.lt g hg;omega) (by have:=P.lt l hl;omega) (fun e=>ne (P.inj g l hg hl e))];by_cases c1:j=g
 ·subst c1;rw[if_pos rfl,if_pos rfl]
 ·rw[if_neg (fun e=>c1 (P.inj j g hj hg e)),if_neg c1]
  by_cases c2:j=l
  ·subst c2;rw[if_pos rfl,if_pos rfl]
  ·rw[if_neg (fun e=>c2 (P.inj j l hj hl e)),if_neg c2]
noncomputable def pre (f:Nat->Rat):Nat->Rat
 | 0=>0
 | k+1=>pre f k+f k
theorem Wp:∀ {k:Nat},(∀ i,i<k->f i=g i)->pre f k=pre g k
 | 0,_=>rfl
 | k+1,h=>by
  unfold pre;rw[Wp fun i hi=>h i %[|5],h k %[|5]]
theorem AH (f g:Nat->Rat):∀ k,pre (fun i=>f i-g i) k=pre f k-pre g k
 | 0=>by unfold pre;grind
 | k+1=>by
  have:=AH f g k;unfold pre;grind
theorem AF (gl:g<l) (h1:f' g=f g-x) (h2:f' l=f l+x) (h3:∀ i,i≠g->i≠l->f' i=f i):∀ k,pre f' k=if g<k/\k<=l then pre f k-x else pre f k
 | 0=>by rw[if_neg %[|5]];rfl
 | k+1=>by
  have ih:=AF gl h1 h2 h3 k;unfold pre;rw[ih];rcases (by omega:k<g\/k=g\/(g<k/\k<l)\/k=l\/l<k) with c|c|c|c|c
  ·rw[if_neg %[|5],if_neg %[|5],h3 k %[|5] %[|5]]
  ·subst c
   rw[if_neg %[|5],if_pos %[|5],h1];grind
  ·rw[if_pos %[|5],if_pos %[|5],h3 k %[|5] %[|5]];grind
  ·subst c
   rw[if_pos %[|5],if_neg %[|5],h2];grind
  ·rw[if_neg %[|5],if_neg %[|5],h3 k %[|5] %[|5]]
theorem Vs:∀ b,a<=b->(∀ i,a<=i->i<b->f i=0)->pre f b=pre f a
 | 0,h,_=>by rw[show a=0 by omega]
 | b+1,h,z=>by
  rcases (by omega:a=b+1\/a<=b) with rfl|c
  ·rfl
  ·show pre f b+f b=pre f a
   rw[Vs b c fun i h1 h2=>z i h1 %[|5],z b c %[|5]];grind
theorem CB:∀ b,a<=b->(∀ i,a<=i->i<b->f i<=0)->pre f b<=pre f a
 | 0,h,_=>by rw[show a=0 by omega];exact Rat.le_refl
 | b+1,h,z=>by
  rcases (by omega:a=b+1\/a<=b) with rfl|c
  ·exact Rat.le_refl
  ·have:=CB b c fun i h1 h2=>z i h1 %[|5]
   have:=z b c %[|5];show pre f b+f b<=pre f a;grind
theorem Jk:∀ b,(∀ i,i<b->f i<=0)->pre f b=0->∀ i,i<b->f i=0
 | 0,_,_,i,h=>by omega
 | b+1,z,e,i,h=>by
  have l:=CB (f:=f) (a:=0) b %[|5] fun i _ h2=>z i %[|5];have l0:pre f 0=0:=rfl;have zb:=z b %[|5];unfold pre at e;rcases (by omega:i<b\/i=b) with c|rfl
  ·exact Jk b (fun i hi=>z i %[|5]) (by grind) i c
  ·grind
theorem VB (l0:0<L) (hy:Gr L B y) (hz:Gr L B z) (hx:∃ C,Gr L C x) (h1:y<=x) (h2:x<=z):Gr L B x:=by
 obtain⟨m,rfl,hm⟩:=hy;obtain⟨k,rfl,hk⟩:=hz;obtain⟨C,n,rfl,_⟩:=hx;have le:∀ a b:Int,Rat.divInt a (L:Int)<=Rat.divInt b (L:Int)->a<=b:=fun a b h=>by
  rw[Rat.divInt_eq_div,Rat.divInt_eq_div] at h;have lp:(0:Rat)<((L:Int):Rat):=by exact_mod_cast (show (0:Int)<L by omega)
  have:=Rat.mul_le_mul_of_nonneg_right h (Rat.le_of_lt lp);rw[Rat.div_mul_cancel (by grind),Rat.div_mul_cancel (by grind)] at this
  exact_mod_cast this
 have a:=le _ _ h1;have b:=le _ _ h2;exact⟨n,rfl,by omega⟩
structure Ev (n:Nat) (ps:List Nat) (t a:List Rat) (L B:Nat):Prop where
 len:a.length=n
 dom:∀ k,k<=n->0<=pre (fun i=>al ps a i-al ps t i) k
 fin:pre (fun i=>al ps a i-al ps t i) n=0
 gr:∀ x∈a,Gr L B x
structure Aim (n:Nat) (ps:List Nat) (t:List Rat) (L B:Nat):Prop where
 P:Pls n ps
 len:t.length=n
 fall:∀ i j,i<=j->j<n->al ps t j<=al ps t i
 gr:∀ x∈t,Gr L B x
 l0:0<L
 hL:L<2 ^ 850
 hB:B<2 ^ 850
structure Eve (n:Nat) (ps:List Nat) (t a:List Rat) (g l:Nat):Prop where
 gl:g<l
 ln:l<n
 up:al ps t g<al ps a g
 low:al ps a l<al ps t l
 mid:∀ i,g<i->i<l->al ps a i=al ps t i
noncomputable def amt (ps:List Nat) (t a:List Rat) (g l:Nat):Rat:=if al ps a g-al ps t g<al ps t l-al ps a l then al ps a g-al ps t g else al ps t l-al ps a l
noncomputable def evL (ps:List Nat) (t a:List Rat) (g l:Nat):Lv:=⟨pat ps g,pat ps l,amt ps t a g l⟩
section
variable {n:Nat} {ps:List Nat} {t a:List Rat} {L B g l:Nat}
theorem Zm (P:Pls n ps) (hn:a.length=n) (hk:k<n):al ps a k∈a:=Yy (by have:=P.lt k hk;omega)
theorem Eve.x (E:Eve n ps t a g l):0<amt ps t a g l/\amt ps t a g l<=al ps a g-al ps t g/\amt ps t a g l<=al ps t l-al ps a l:=by
 have u:=E.up;have w:=E.low;unfold amt;split<;>refine⟨?_,?_,?_⟩<;>grind
theorem szL (A:Aim n ps t L B) (h:Gr L C x) (hC:C<2 ^ 900):Sz 900 x:=h.sz A.l0 (Nat.lt_of_lt_of_le A.hL (Yf %[|4])) hC
theorem Eve.can (A:Aim n ps t L B) (V:Ev n ps t a L B) (E:Eve n ps t a g l):Can (evL ps t a g l) a:=by
 have P:=A.P;have hg:g<n:=by have:=E.gl;have:=E.ln;omega
 have hl:=E.ln;have len:=V.len;obtain⟨x0,x1,x2⟩:=E.x;have f:=A.fall g l (by have:=E.gl;omega) hl;have hb2:B+B<2 ^ 900:=by
  have:=A.hB;have:(2:Nat) ^ 850+2 ^ 850<2 ^ 900:=by decide +kernel
  omega
 refine⟨by have:=P.lt g hg;show pat ps g<a.length;omega,by have:=P.lt l hl;show pat ps l<a.length;omega,x0,?_,?_,fun y hy=>szL A (V.gr y hy) %[|5]⟩
 ·show amt ps t a g l<=al ps a g-al ps a l
  grind
 ·have g1:=(V.gr _ (Zm P len hg)).sub A.l0 (A.gr _ (Zm P A.len hg))
  have g2:=(A.gr _ (Zm P A.len hl)).sub A.l0 (V.gr _ (Zm P len hl));show Sz 900 (amt ps t a g l);unfold amt;split
  ·exact szL A g1 hb2
  ·exact szL A g2 hb2
theorem Eve.al (A:Aim n ps t L B) (V:Ev n ps t a L B) (E:Eve n ps t a g l) (hj:j<n):al ps (doL (evL ps t a g l) a) j=if j=g then al ps a g-amt ps t a g l else if j=l then al ps a l+amt ps t a g l else al ps a j :=
 Au A.P V.len (by have:=E.gl;have:=E.ln;omega) E.ln (by have:=E.gl;omega) hj
theorem Eve.next (A:Aim n ps t L B) (V:Ev n ps t a L B) (E:Eve n ps t a g l):Ev n ps t (doL (evL ps t a g l) a) L B:=by
 have P:=A.P;have gl:=E.gl;have hl:=E.ln;have hg:g<n:=by omega
 have len:=V.len;obtain⟨x0,x1,x2⟩:=E.x;have AL:=fun {j} hj=>E.al A V (j:=j) hj;have dl:(doL (evL ps t a g l) a).length=n:=by rw[AX];exact len
 have key:∀ k,k<=n->pre (fun i=>K.al ps (doL (evL ps t a g l) a) i-K.al ps t i) k=if g<k/\k<=l then pre (fun i=>K.al ps a i-K.al ps t i) k-amt ps t a g l else pre (fun i=>K.al ps a i-K.al ps t i) k:=by
  intro k hk;have e:=AF (f:=fun i=>K.al ps a i-K.al ps t i) (f':=fun i=>if i=g then K.al ps a g-K.al ps t g-amt ps t a g l else if i=l then K.al ps a l-K.al ps t l+amt ps t a g l else K.al ps a i-K.al ps t i) (x:=amt ps t a g l) gl (by simp) (by rw[if_neg %[|5],if_pos rfl]) (fun i h1 h2=>by rw[if_neg h1,if_neg h2]) k;rw[<- e];refine Wp fun i hi=>?_;rw[AL (show i<n by omega)];by_cases c1:i=g
  ·subst c1;rw[if_pos rfl,if_pos rfl];grind
  ·rw[if_neg c1,if_neg c1]
   by_cases c2:i=l
   ·subst c2;rw[if_pos rfl,if_pos rfl];grind
   ·rw[if_neg c2,if_neg c2]
 refine⟨dl,fun k hk=>?_,?_,fun y hy=>?_⟩
 ·rw[key k hk]
  split
  ·rename_i c
   have s:=Vs (f:=fun i=>K.al ps a i-K.al ps t i) (a:=g+1) k %[|5] fun i h1 h2=>by
    have:=E.mid i %[|5] %[|5];grind
   have d:=V.dom g %[|5];rw[s];unfold pre;grind
  ·exact V.dom k hk
 ·rw[key n %[|3],if_neg %[|5]];exact V.fin
 ·obtain⟨m,hm,rfl⟩:=List.getElem_of_mem hy
  obtain⟨k,hk,e⟩:=P.sur m %[|5];have ey:(doL (evL ps t a g l) a)[m]=K.al ps (doL (evL ps t a g l) a) k:=by
   unfold K.al ri;rw[e];simp[List.getD,hm]
  rw[ey,AL hk];have gag:=V.gr _ (Zm P len hg);have gal:=V.gr _ (Zm P len hl);have gtg:=A.gr _ (Zm P A.len hg);have gtl:=A.gr _ (Zm P A.len hl);have ga:∃ C,Gr L C (amt ps t a g l):=by
   unfold amt;split
   ·exact⟨_,gag.sub A.l0 gtg⟩
   ·exact⟨_,gtl.sub A.l0 gal⟩
  obtain⟨C,ga⟩:=ga;split
  ·exact VB A.l0 gtg gag ⟨_,gag.sub A.l0 ga⟩ (by grind) (by grind)
  ·split
   ·exact VB A.l0 gal gtl ⟨_,gal.add A.l0 ga⟩ (by grind) (by grind)
   ·exact V.gr _ (Zm P len hk)
end
noncomputable def offN (n:Nat) (ps:List Nat) (t a:List Rat):Nat:=((List.range n).map fun k=>decide (al ps a k≠al ps t k)).count true
theorem JJ (h:∀ k,k<n->g k=true->f k=true) (hj:j<n) (fj:f j=true) (gj:g j=false):((List.range n).map g).count true<((List.range n).map f).count true:=by
 have le:∀ m,m<=n->((List.range m).map g).count true<=((List.range m).map f).count true/\(j<m->((List.range m).map g).count true<((List.range m).map f).count true):=by
  intro m
  induction m with
  | zero=>intro _;exact⟨Nat.le_refl _,fun h=>by omega⟩
  | succ m ih =>
   intro hm;obtain⟨i1,i2⟩:=ih %[|5];simp only[List.range_succ,List.map_append,List.count_append,List.map_cons,List.map_nil];have hm':=h m %[|5];have c1:∀ b:Bool,[b].count true=if b=true then 1 else 0:=fun b=>by cases b<;>rfl
   rw[c1,c1];constructor
   ·cases hg:g m with
    | false=>simp;omega
    | true=>rw [hm' hg];simp;omega
   ·intro hj'
    rcases (by omega:j<m\/j=m) with q|rfl
    ·have:=i2 q
     cases hg:g m with
     | false=>simp;omega
     | true=>rw [hm' hg];simp;omega
    ·rw[fj,gj];simp;omega
 exact (le n %[|3]).2 hj
theorem Fb (n:Nat) (ps:List Nat) (t a:List Rat):offN n ps t a<=n:=by
 unfold offN;have:=List.count_le_length (a:=true) (l:=(List.range n).map fun k=>decide (al ps a k≠al ps t k))
 simpa using this
theorem Eve.less (A:Aim n ps t L B) (V:Ev n ps t a L B) (E:Eve n ps t a g l):offN n ps t (doL (evL ps t a g l) a)<offN n ps t a:=by
 have gl:=E.gl;have hl:=E.ln;have hg:g<n:=by omega
 have up:=E.up;have low:=E.low;have imp:∀ k,k<n->decide (K.al ps (doL (evL ps t a g l) a) k≠K.al ps t k)=true->decide (K.al ps a k≠K.al ps t k)=true:=by
  intro k hk h;rw[E.al A V hk] at h;simp only[decide_eq_true_eq] at h ⊢;by_cases c1:k=g
  ·subst c1;grind
  ·rw[if_neg c1] at h
   by_cases c2:k=l
   ·subst c2;grind
   ·rw[if_neg c2] at h;exact h
 unfold offN;by_cases c:K.al ps a g-K.al ps t g<K.al ps t l-K.al ps a l
 ·refine JJ imp hg (by simp only[decide_eq_true_eq];grind) ?_
  rw[E.al A V hg,if_pos rfl];unfold amt;rw[if_pos c,decide_eq_false_iff_not];grind
 ·refine JJ imp hl (by simp only[decide_eq_true_eq];grind) ?_
  rw[E.al A V hl,if_neg %[|5],if_pos rfl];unfold amt;rw[if_neg c,decide_eq_false_iff_not];grind
theorem Ev.done (A:Aim n ps t L B) (V:Ev n ps t a L B) (h:∀ i,i<n->al ps a i<=al ps t i):a=t:=by
 have z:=Jk (f:=fun i=>al ps a i-al ps t i) n (fun i hi=>by have:=h i hi;grind) V.fin;have len:=V.len;have tl:=A.len;refine GG %[|5] fun m hm=>?_;obtain⟨k,hk,e⟩:=A.P.sur m %[|5];have:=z k hk;unfold al at this;rw[e] at this;grind
theorem Ev.lack (V:Ev n ps t a L B) (hg:g<n) (up:al ps t g<al ps a g) (h:∀ i,g<i->i<n->al ps a i=al ps t i):False:=by
 have s:=Vs (f:=fun i=>al ps a i-al ps t i) (a:=g+1) n %[|5] fun i h1 h2=>by have:=h i %[|5] h2;grind
 have d:=V.dom g %[|5];have f:=V.fin;rw[s] at f;unfold pre at f;grind
theorem Jf (vs ws:List Lv) (s:List Rat):runL (vs++ws) s=runL ws (runL vs s):=by unfold runL;rw[List.foldl_append]
theorem Way.app (h:Way s vs):∀ {ws:List Lv},Way (runL vs s) ws->Way s (vs++ws):=by
 intro ws h2 i hi;by_cases q:i<vs.length
 ·rw[List.getElem_append_left q,List.take_append_of_le_length %[|5]]
  exact h i q
 ·have hi':i-vs.length<ws.length:=by rw[List.length_append] at hi;omega
  rw[List.getElem_append_right %[|5],List.take_append,List.take_of_length_le %[|5],Jf];exact h2 (i-vs.length) hi'
structure Leads (s t:List Rat):Prop where
 dom:∀ i,i<s.length->ri (Yj t) i<=ri (Yj s) i
 fin:ri (Yj s) (s.length-1)=ri (Yj t) (s.length-1)
noncomputable def S_33:DSp:=fun ds M Q E=>∃ s t,ds=[rw s,rw t]/\Gs s/\Gs t/\s.length=t.length/\1<=s.length/\s.length<=24/\∀ (b:Bool) M',(b=true ↔ Leads s t)->MExt M M'->Q (.bl b) M'
noncomputable def C_33:CSs:=%[.par 2 3 (.call "sums_of_greatest" S_26 %[.var 0|0]) (.call "sums_of_greatest" S_26 %[.var 1|0]),.ret (.and (.cmp .Eq (.ix (.var 2) (.neg (.int 1))) (.ix (.var 3) (.neg (.int 1)))) (.one (.not (.bi .any %[.comp ["steps","aim","sums","wanted","one","other"] 2 (.tup %[.name 4,.name 5|0]) (.zip %[.var 2,.var 3|0]) (.call "is_less" S_8 %[.var 4,.var 5|0])|0]))))|0]
theorem vc_33:∀ ds M R E,S_33 ds M R E->rSs C_33 (ends R E) (Y1 4 ds) M:=by
 rintro ds M R E ⟨s,t,rfl,gs,gt,hl,h1,h24,q⟩;have l1:=Aj s;have l2:=Aj t;unfold C_33;sleep 7;refine⟨s,rfl,gs,by omega,fun p1 M1 e1 x1 m1=>?_⟩;refine⟨t,rfl,gt,by omega,fun p2 M2 e2 x2 m2=>?_⟩;have m1':=x2 _ _ m1;sleep 7;refine Ys m1' (XY %[|5]) ?_;refine Ys m2 (XY %[|5]) ?_;refine JE false ?_;rw[l1,l2,<- hl];by_cases c:ri (Yj s) (s.length-1)=ri (Yj t) (s.length-1)
 ·simp[c]
  refine YB (List.zip (Yj s) (Yj t)) pl (fun z=>.bl (decide (z.1<z.2))) ?_ (by rw[List.length_zip];omega) ?_ ?_
  ·intro R' r'
   simp only[0,vAt,vHd,Y7,and_assoc,sizeLine_eq,Yh,Z4,Yl,dFld,ZH,ZI,ZG,Z4];exact Gb m1' m2 r'
  ·intro z hz l M' R' hl' e r'
   obtain⟨u1,u2,rfl⟩:=len2 hl';obtain⟨a,b⟩:=z;have ha:=Gg gs %[|5] a (List.of_mem_zip hz).1;have hb:=Gg gt %[|5] b (List.of_mem_zip hz).2;sleep 8;exact⟨_,_,rfl,.mk ha hb %[|4],r' [_,_] M' rfl (.refl _)⟩
  intro p3 M3 e3 x3 m3;refine At (f:=fun z:Rat×Rat=>decide (z.1<z.2)) m3 ?_;have iff:(!(List.zip (Yj s) (Yj t)).any fun z=>decide (z.1<z.2))=true ↔ Leads s t:=by
   rw[Bool.not_eq_true',List.any_eq_false];constructor
   ·intro h
    refine⟨fun i hi=>?_,c⟩;have hz:(ri (Yj s) i,ri (Yj t) i)∈List.zip (Yj s) (Yj t):=by
     have a1:i<(Yj s).length:=by omega
     have a2:i<(Yj t).length:=by omega
     have:(List.zip (Yj s) (Yj t))[i]'(by rw[List.length_zip];omega)=(ri (Yj s) i,ri (Yj t) i):=by simp[ri,List.getD,a1,a2]
     rw[<- this];exact List.getElem_mem _
    have:=h _ hz;simp at this;grind
   ·intro L z hz
    have:=Gq (r:=Yj s) (s:=Yj t) %[|5] (fun i hi=>L.dom i %[|5]) z hz
    simpa using this
  have X3:=x1.trans (x2.trans x3);cases hb:(List.zip (Yj s) (Yj t)).any fun z=>decide (z.1<z.2) with
  | false =>
   rw[hb] at iff;exact .inl ⟨rfl,q true M3 ⟨fun _=>iff.mp rfl,fun _=>rfl⟩ X3⟩
  | true =>
   rw[hb] at iff;exact .inr ⟨rfl,q false M3 ⟨fun h=>by simp at h,fun h=>by have:=iff.mpr h;simp at this⟩ X3⟩
 ·simp[c]
  exact q false M2 ⟨fun h=>by simp at h,fun L=>absurd L.fin c⟩ (x1.trans x2)
theorem Ba (hg:g<s.length) (hl:l<s.length) (ne:g≠l):(doL ⟨g,l,ri s g-ri s l⟩ s).Perm s:=by
 have e1:ri s g=s[g]:=by simp[ri,List.getD,hg]
 have e2:ri s l=s[l]:=by simp[ri,List.getD,hl]
 have:doL ⟨g,l,ri s g-ri s l⟩ s=(s.set g s[l]).set l s[g]:=by
  unfold doL;dsimp only;rw[Xy ne,show ri s g-(ri s g-ri s l)=s[l] by rw[<- e2];grind,show ri s l+(ri s g-ri s l)=s[g] by rw[<- e1];grind]
 rw[this];exact List.set_set_perm hg hl
structure Bnd (L B:Nat):Prop where
 l0:0<L
 hL:L<2 ^ 850
 hB:B<2 ^ 850
theorem Bnd.sz (b:Bnd L B) (h:Gr L B x):Sz 900 x:=h.sz b.l0 (Nat.lt_of_lt_of_le b.hL (Yf %[|4])) (Nat.lt_of_lt_of_le b.hB (Yf %[|4]))
theorem Bnd.sub (b:Bnd L B) (h:Gr L B x) (g:Gr L B y):Sz 900 (x-y):=by
 refine (h.sub b.l0 g).sz b.l0 (Nat.lt_of_lt_of_le b.hL (Yf %[|4])) ?_;have:=b.hB;have:(2:Nat) ^ 850+2 ^ 850<2 ^ 900:=by decide +kernel
 omega
noncomputable def S_30:DSp:=fun ds M Q E=>∃ s pp ps n L B,ds=[rw s,.lst pp]/\M pp=some (.ls (pn ps))/\Pls n ps/\s.length=n/\n<=24/\Bnd L B/\(∀ x∈s,Gr L B x) /\
 ∀ vs p M',M p=none->MExt M M'->M' p=some (.ls (vs.map lv))->Way s vs->(runL vs s).Perm s->(∀ i j,i<=j->j<n->al ps (runL vs s) j<=al ps (runL vs s) i)->vs.length<=n->Q (.lst p) M'
noncomputable def C_30:CSs:=%[.set 2 (.bi .list %[.var 0|0]),.set 3 (.lst .nil),.fr (.tup %[.name 4,.name 5|0]) (.enum %[.var 1|0]) %[.set 6 (.var 5),.fr (.name 7) (.seq (.sl (.var 1) (.some (.bin .Add (.var 4) (.int 1))) .none)) %[.ife (.call "is_less" S_8 %[.ix (.var 2) (.var 6),.ix (.var 2) (.var 7)|0]) %[.set 6 (.var 7)|0] .nil|0],.ife (.cmp .NotEq (.var 6) (.var 5)) %[.set 8 (.tup %[.var 6,.var 5,.call "taken" S_5 %[.ix (.var 2) (.var 6),.ix (.var 2) (.var 5)|0]|0]),.expr (.call "walk" S_28 %[.var 2,.var 8|0]),.expr (.app 3 (.var 8))|0] .nil|0],.ret (.var 3)|0]
theorem vc_30:∀ ds M R E,S_30 ds M R E->rSs C_30 (ends R E) (Y1 9 ds) M:=by
 rintro ds M R E ⟨s,pp,ps,n,L,B,rfl,lp,P,hn,n24,bd,gr,q⟩;have pl:=P.len;unfold C_30;sleep 7;intro p1 M1 e1 x1 m1;sleep 7;intro p2 M2 e2 x2 m2;have e2':M p2=none:=MExt.none x1 e2;have h12:p1≠p2:=fun z=>by rw[<- z,m1] at e2;cases e2
 have hp1:pp≠p1:=fun z=>by rw[<- z,lp] at e1;cases e1
 have hp2:pp≠p2:=fun z=>by rw[<- z,lp] at e2';cases e2'
 (try dsimp only);rw[Yr];simp[0,vAt,vHd,Y7,and_assoc,sizeLine_eq,Yh,Z4,Yl,dFld,ZH,ZI,ZG,dFor,UQ,UN]
 refine⟨_,x2 _ _ (x1 _ _ lp),?_⟩;refine YA (fun w δ M'=>∃ (vs:List Lv) (w4 w5 w6 w7 w8:Option DL.D),MExt M M'/\M' p1=some (.ls ((runL vs s).map nm))/\M' p2=some (.ls (vs.map lv))/\Way s vs/\(runL vs s).Perm s/\(∀ i j,i<w->i<=j->j<n->al ps (runL vs s) j<=al ps (runL vs s) i)/\vs.length<=w/\δ=[some (rw s),some (.lst pp),some (.lst p1),some (.lst p2),w4,w5,w6,w7,w8]) (fun _ _ _ h=>by obtain⟨_,_,_,_,_,_,x,_⟩:=h;exact x _ _ lp) ?_ ?_ ⟨[],_,_,_,_,_,x1.trans x2,x2 _ _ m1,m2,.nil _,List.Perm.refl _,fun i j h=>absurd h %[|5],Nat.le_refl _,rfl⟩
 ·rintro δ M3 ⟨vs,w4,w5,w6,w7,w8,x3,m3,m3',W,pm,so,vl,rfl⟩
  rw[show (enD (pn ps)).length=n by unfold enD;simp[pn,pl]] at so vl;sleep 7;exact q vs p2 M3 e2' x3 m3' W pm (fun i j h1 h2=>so i j %[|5] h1 h2) vl
 ·rintro w y hy N hN δ M3 ⟨vs,w4,w5,w6,w7,w8,x3,m3,m3',W,pm,so,vl,rfl⟩
  obtain⟨hw,rfl⟩:∃ hw:w<n,y=.tup [.int (w:Int),.int ((pat ps w:Nat):Int)]:=by
   obtain⟨h,e⟩:=List.getElem?_eq_some_iff.mp hy;have h':w<ps.length:=by simpa[enD,pn] using h
   exact⟨by omega,by rw[<- e];simp[enD,pn,pat,List.getD,h']⟩
  have al_len:(runL vs s).length=n:=by rw[Vo];exact hn
  have grr:∀ x∈runL vs s,Gr L B x:=fun x hx=>gr x (pm.subset hx);have pm0:=pm;generalize ha:runL vs s=a at m3 pm so al_len grr;have at1:∀ k,k<n->L2.atI (a.map nm) ((pat ps k:Nat):Int)=some (nm (al ps a k)):=fun k hk=>Zf (WG (by have:=P.lt k hk;omega));have ga:∀ k,k<n->Gr L B (al ps a k):=fun k hk=>grr _ (Zm P al_len hk);sleep 8;sleep 7;sleep 9;have lp3:=x3 _ _ lp;refine⟨_,lp3,?_⟩;have ec:cutG (pn ps) (some ((w:Int)+1)) none=pn (ps.drop (w+1)):=by
   rw[show ((w:Int)+1)=((w+1:Nat):Int) by omega,Eh _ _ (by simp[pn];omega)];simp[pn,List.map_drop]
  rw[ec];intro p4 M4 e4 x4 m4;have m34:=x4 _ _ m3;have m34':=x4 _ _ m3';refine⟨_,m4,?_⟩;refine YA (fun i δ M'=>∃ (gk:Nat) (w7:Option DL.D),M'=M4/\w<=gk/\gk<n/\(∀ j,w<=j->j<w+1+i->j<n->al ps a j<=al ps a gk)/\(gk=w\/al ps a w<al ps a gk)/\δ=[some (rw s),some (.lst pp),some (.lst p1),some (.lst p2),some (.int (w:Int)),some (.int ((pat ps w:Nat):Int)),some (.int ((pat ps gk:Nat):Int)),w7,w8]) (fun _ _ _ h=>by obtain⟨_,_,rfl,_⟩:=h;exact m4) ?_ ?_ ⟨w,_,rfl,Nat.le_refl _,hw,fun j h1 h2 h3=>by rw[show j=w by omega];exact Rat.le_refl,.inl rfl,rfl⟩
  ·rintro δ M' ⟨gk,w7,rfl,wg,gn,mx,cs,rfl⟩
   rw[show (pn (ps.drop (w+1))).length=n-(w+1) by simp[pn,pl]] at mx;have mx':∀ j,w<=j->j<n->al ps a j<=al ps a gk:=fun j h1 h2=>mx j h1 %[|5] h2;sleep 7;refine YN true ?_;by_cases c:gk=w
   ·subst c
    simp;refine hN _ _ ⟨vs,_,_,_,_,_,x3.trans x4,by rw[ha];exact m34,m34',W,pm0,?_,by omega,rfl⟩;rw[ha];intro i j h1 h2 h3;rcases (by omega:i<gk\/i=gk) with h|rfl
    ·exact so i j h h2 h3
    ·exact mx' j h2 h3
   ·have ne:pat ps gk≠pat ps w:=fun e=>c (P.inj gk w gn hw e)
    have lt:al ps a w<al ps a gk:=by
     rcases cs with h|h
     ·exact absurd h c
     ·exact h
    have ne':¬ (((pat ps gk:Nat):Int)=((pat ps w:Nat):Int)):=by omega
    simp only[if_true];rw[show (((pat ps gk:Nat):Int)==((pat ps w:Nat):Int))=false by simpa using ne'];simp;have can:Can ⟨pat ps gk,pat ps w,al ps a gk-al ps a w⟩ a:=⟨by have:=P.lt gk gn;show pat ps gk<a.length;omega,by have:=P.lt w hw;show pat ps w<a.length;omega,by show 0<al ps a gk-al ps a w;grind,Rat.le_refl,bd.sub (ga gk gn) (ga w hw),fun y hy=>bd.sz (grr y hy)⟩;sleep 7;refine Ys m34 (at1 gk gn) ?_;refine Ys m34 (at1 w hw) ?_;refine⟨_,_,rfl,.mk (bd.sz (ga gk gn)) (bd.sz (ga w hw)) %[|4],?_⟩;dsimp only;rw[show D.tup [D.int ((pat ps gk:Nat):Int),D.int ((pat ps w:Nat):Int),nm (al ps a gk-al ps a w)]=lv ⟨pat ps gk,pat ps w,al ps a gk-al ps a w⟩ from rfl];sleep 7;refine⟨p1,a,_,rfl,m34,can,by omega,?_⟩;have m5:(M'.upd p1 (.ls ((doL ⟨pat ps gk,pat ps w,al ps a gk-al ps a w⟩ a).map nm))) p1=some (.ls ((doL ⟨pat ps gk,pat ps w,al ps a gk-al ps a w⟩ a).map nm)):=mupd_same;have m5':(M'.upd p1 (.ls ((doL ⟨pat ps gk,pat ps w,al ps a gk-al ps a w⟩ a).map nm))) p2=some (.ls (vs.map lv)):=by rw[Yv h12.symm];exact m34'
    have x5:MExt M (M'.upd p1 (.ls ((doL ⟨pat ps gk,pat ps w,al ps a gk-al ps a w⟩ a).map nm))):=MExt.upd_new e1 (x3.trans x4);generalize M'.upd p1 (.ls ((doL ⟨pat ps gk,pat ps w,al ps a gk-al ps a w⟩ a).map nm))=M5 at m5 m5' x5;sleep 7;refine⟨⟨_,m5'⟩,_,m5',by rw[List.length_map];omega,?_⟩;have rn:runL (vs++[⟨pat ps gk,pat ps w,al ps a gk-al ps a w⟩]) s=doL ⟨pat ps gk,pat ps w,al ps a gk-al ps a w⟩ a:=by rw[Vp,ha]
    have pm5:(doL ⟨pat ps gk,pat ps w,al ps a gk-al ps a w⟩ a).Perm a:=Ba (by have:=P.lt gk gn;omega) (by have:=P.lt w hw;omega) ne;refine hN _ _ ⟨vs++[⟨pat ps gk,pat ps w,al ps a gk-al ps a w⟩],_,_,_,_,_,MExt.upd_new e2' x5,?_,?_,W.add (by rw[ha];exact can),?_,?_,by simp;omega,rfl⟩
    ·rw[Yv h12,rn];exact m5
    ·rw[mupd_same,List.map_append];rfl
    ·rw[rn];exact pm5.trans pm
    ·rw[rn]
     intro i j h1 h2 h3;have hi:i<n:=by omega
     rw[Au P al_len gn hw %[|5] h3,Au P al_len gn hw %[|5] hi];rcases (by omega:i<w\/i=w) with h|rfl
     ·rw[if_neg (show ¬ i=gk by omega),if_neg (show ¬ i=w by omega)]
      have s1:=so i gk h %[|5] gn;have s2:=so i w h %[|5] hw;have s3:=so i j h h2 h3;split
      ·grind
      ·split
       ·grind
       ·exact s3
     ·rw[if_neg (show ¬ i=gk by omega),if_pos rfl]
      have s1:=mx' j h2 h3;have s2:=mx' i %[|3] hi;split
      ·grind
      ·split
       ·grind
       ·grind
  ·rintro i z hz N' hN' δ M' ⟨gk,w7,rfl,wg,gn,mx,cs,rfl⟩
   obtain⟨hi,rfl⟩:∃ hi:w+1+i<n,z=.int ((pat ps (w+1+i):Nat):Int):=by
    obtain⟨h,e⟩:=List.getElem?_eq_some_iff.mp hz;have h':w+1+i<ps.length:=by simp[pn] at h;omega
    exact⟨by omega,by rw[<- e];simp[pn,pat,List.getD,h']⟩
   sleep 8;sleep 7;refine Ys m34 (at1 gk gn) ?_;refine Ys m34 (at1 _ hi) ?_;refine⟨_,_,rfl,.mk (bd.sz (ga gk gn)) (bd.sz (ga _ hi)) %[|4],?_⟩;by_cases c:al ps a gk<al ps a (w+1+i)
   ·rw[decide_eq_true c]
    simp;sleep 7;refine hN' _ _ ⟨w+1+i,_,rfl,by omega,hi,fun j h1 h2 h3=>?_,.inr ?_,rfl⟩
    ·rcases (by omega:j<w+1+i\/j=w+1+i) with h|rfl
     ·have:=mx j h1 h h3;grind
     ·exact Rat.le_refl
    ·have:=mx w %[|3] %[|5] hw;grind
   ·rw[decide_eq_false c]
    simp;refine hN' _ _ ⟨gk,_,rfl,wg,gn,fun j h1 h2 h3=>?_,cs,rfl⟩;rcases (by omega:j<w+1+i\/j=w+1+i) with h|rfl
    ·exact mx j h1 h h3
    ·grind
inductive NE (n:Nat) (ps:List Nat) (t a:List Rat) (k:Nat):DL.D->DL.D->Prop
 | none (x:DL.D):(∀ i,i<k->i<n->al ps a i<=al ps t i)->(x=.non\/∃ i:Int,x=.int i)->NE n ps t a k .non x
 | up (g:Nat):g<k->g<n->al ps t g<al ps a g->(∀ i,g<i->i<k->i<n->al ps a i=al ps t i)->NE n ps t a k (.int ((pat ps g:Nat):Int)) .non
 | both (g l:Nat):Eve n ps t a g l->l<k->NE n ps t a k (.int ((pat ps g:Nat):Int)) (.int ((pat ps l:Nat):Int))
noncomputable def S_31:DSp:=fun ds M Q E=>∃ p pp a t ps n L B,ds=[.lst p,rw t,.lst pp]/\M p=some (.ls (a.map nm))/\M pp=some (.ls (pn ps))/\Aim n ps t L B/\Ev n ps t a L B/\(a=t->Q .non M)/\∀ g l,Eve n ps t a g l->Q (lv (evL ps t a g l)) M
noncomputable def C_31:CSs:=%[.two (.name 3) (.name 4) .non,.fr (.name 5) (.seq (.var 2)) %[.ife (.call "is_less" S_8 %[.ix (.var 1) (.var 5),.ix (.var 0) (.var 5)|0]) %[.par 3 4 (.var 5) .non|0] %[.ife (.and (.cmp .Is (.var 4) .non) (.one (.call "is_less" S_8 %[.ix (.var 0) (.var 5),.ix (.var 1) (.var 5)|0]))) %[.set 4 (.var 5)|0] .nil|0]|0],.ife (.cmp .Is (.var 3) .non) %[.ret .non|0] .nil,.par 6 7 (.call "taken" S_5 %[.ix (.var 0) (.var 3),.ix (.var 1) (.var 3)|0]) (.call "taken" S_5 %[.ix (.var 1) (.var 4),.ix (.var 0) (.var 4)|0]),.ret (.tup %[.var 3,.var 4,.ife (.call "is_less" S_8 %[.var 6,.var 7|0]) (.var 6) (.var 7)|0])|0]
theorem vc_31:∀ ds M R E,S_31 ds M R E->rSs C_31 (ends R E) (Y1 8 ds) M:=by
 rintro ds M R E ⟨p,pp,a,t,ps,n,L,B,rfl,lp,lpp,A,V,q1,q2⟩;have P:=A.P;have pl:=P.len;have al':=V.len;have tl:=A.len;have bd:Bnd L B:=⟨A.l0,A.hL,A.hB⟩;have at1:∀ k,k<n->L2.atI (a.map nm) ((pat ps k:Nat):Int)=some (nm (al ps a k)):=fun k hk=>Zf (WG (by have:=P.lt k hk;omega));have at2:∀ k,k<n->∀ (M':Mem) (Q':DK),Q' (nm (al ps t k)) M'->iOp (rw t) (.int ((pat ps k:Nat):Int)) M' Q':=fun k hk M' Q' h=>XZ (by have:=P.lt k hk;omega) h;have ga:∀ k,k<n->Gr L B (al ps a k):=fun k hk=>V.gr _ (Zm P al' hk);have gt:∀ k,k<n->Gr L B (al ps t k):=fun k hk=>A.gr _ (Zm P tl hk);unfold C_31;sleep 7;sleep 9;refine⟨_,lpp,?_⟩;refine YA (fun k δ M'=>∃ (x y:DL.D) (w5:Option DL.D),M'=M/\NE n ps t a k x y/\δ=[some (.lst p),some (rw t),some (.lst pp),some x,some y,w5,none,none]) (fun _ _ _ h=>by obtain⟨_,_,_,rfl,_⟩:=h;exact lpp) ?_ ?_ ⟨_,_,_,rfl,.none .non (fun i h=>absurd h %[|5]) (.inl rfl),rfl⟩
 ·rintro δ M' ⟨x,y,w5,rfl,ne,rfl⟩
  rw[show (pn ps).length=n by simp[pn,pl]] at ne;cases ne with
  | none x h1 h2 =>
   sleep 7;exact q1 (V.done A fun i hi=>h1 i hi hi)
  | up g h1 h2 h3 h4=>exact (V.lack h2 h3 fun i c d=>h4 i c d d).elim
  | both g l E' h =>
   have hl:=E'.ln;have hg:g<n:=by have:=E'.gl;omega
   sleep 7;simp[cIs];sleep 7;refine Ys lp (at1 g hg) ?_;refine at2 g hg _ _ ?_;refine⟨_,_,rfl,.mk (bd.sz (ga g hg)) (bd.sz (gt g hg)) %[|4],?_⟩;refine at2 l hl _ _ ?_;refine Ys lp (at1 l hl) ?_;refine⟨_,_,rfl,.mk (bd.sz (gt l hl)) (bd.sz (ga l hl)) %[|4],?_⟩;sleep 8;sleep 7;refine⟨_,_,rfl,.mk (bd.sub (ga g hg) (gt g hg)) (bd.sub (gt l hl) (ga l hl)) %[|4],?_⟩;have:=q2 g l E';rw[show lv (evL ps t a g l)=.tup [.int ((pat ps g:Nat):Int),.int ((pat ps l:Nat):Int),nm (amt ps t a g l)] from rfl] at this;unfold amt at this;by_cases c:al ps a g-al ps t g<al ps t l-al ps a l
   ·rw[if_pos c] at this
    simp[c];exact this
   ·rw[if_neg c] at this
    simp[c];exact this
 ·rintro k z hz N hN δ M' ⟨x,y,w5,rfl,ne,rfl⟩
  obtain⟨hk,rfl⟩:∃ hk:k<n,z=.int ((pat ps k:Nat):Int):=by
   obtain⟨h,e⟩:=List.getElem?_eq_some_iff.mp hz;have h':k<ps.length:=by simpa[pn] using h
   exact⟨by omega,by rw[<- e];simp[pn,pat,List.getD,h']⟩
  sleep 8;sleep 7;refine at2 k hk _ _ ?_;refine Ys lp (at1 k hk) ?_;refine⟨_,_,rfl,.mk (bd.sz (gt k hk)) (bd.sz (ga k hk)) %[|4],?_⟩;by_cases c:al ps t k<al ps a k
  ·rw[decide_eq_true c]
   simp;sleep 7;exact hN _ _ ⟨_,_,_,rfl,.up k %[|5] hk c (fun i h1 h2=>absurd h1 %[|5]),rfl⟩
  ·rw[decide_eq_false c]
   simp;sleep 7;have low:∀ DD:Prop,(al ps a k<al ps t k->DD)->(¬ al ps a k<al ps t k->DD)->DD:=fun DD h1 h2=>by
    by_cases h:al ps a k<al ps t k
    ·exact h1 h
    ·exact h2 h
   cases ne with
   | none y h1 h2 =>
    have h1':∀ i,i<k+1->i<n->al ps a i<=al ps t i:=fun i hi hn=>by
     rcases (by omega:i<k\/i=k) with h|rfl
     ·exact h1 i h hn
     ·grind
    rcases h2 with rfl|⟨i,rfl⟩
    ·simp[cIs]
     refine Ys lp (at1 k hk) ?_;refine at2 k hk _ _ ?_;refine⟨_,_,rfl,.mk (bd.sz (ga k hk)) (bd.sz (gt k hk)) %[|4],?_⟩;by_cases c2:al ps a k<al ps t k
     ·rw[decide_eq_true c2]
      simp;sleep 7;exact hN _ _ ⟨_,_,_,rfl,.none _ h1' (.inr ⟨_,rfl⟩),rfl⟩
     ·rw[decide_eq_false c2]
      simp;exact hN _ _ ⟨_,_,_,rfl,.none _ h1' (.inl rfl),rfl⟩
    ·simp[cIs]
     exact hN _ _ ⟨_,_,_,rfl,.none _ h1' (.inr ⟨_,rfl⟩),rfl⟩
   | up g h1 h2 h3 h4 =>
    simp[cIs];refine Ys lp (at1 k hk) ?_;refine at2 k hk _ _ ?_;refine⟨_,_,rfl,.mk (bd.sz (ga k hk)) (bd.sz (gt k hk)) %[|4],?_⟩;by_cases c2:al ps a k<al ps t k
    ·rw[decide_eq_true c2]
     simp;sleep 7;exact hN _ _ ⟨_,_,_,rfl,.both g k ⟨h1,hk,h3,c2,fun i a b=>h4 i a b %[|5]⟩ %[|5],rfl⟩
    ·rw[decide_eq_false c2]
     simp;refine hN _ _ ⟨_,_,_,rfl,.up g %[|5] h2 h3 (fun i a b d=>?_),rfl⟩;rcases (by omega:i<k\/i=k) with h|rfl
     ·exact h4 i a h d
     ·grind
   | both g l E' h =>
    simp[cIs];exact hN _ _ ⟨_,_,_,rfl,.both g l E' %[|5],rfl⟩
noncomputable def S_32:DSp:=fun ds M Q E=>∃ pp s t ps n L B,ds=[rw s,rw t,.lst pp]/\M pp=some (.ls (pn ps))/\Aim n ps t L B/\Ev n ps t s L B/\n<=24/\∀ vs p M',M p=none->MExt M M'->M' p=some (.ls (vs.map lv))->Way s vs->runL vs s=t->vs.length<=n->Q (.lst p) M'
noncomputable def C_32:CSs:=%[.set 3 (.bi .list %[.var 0|0]),.set 4 (.lst .nil),.set 5 (.call "next_evening" S_31 %[.var 3,.var 1,.var 2|0]),.whl (.cmp .IsNot (.var 5) .non) %[.expr (.call "walk" S_28 %[.var 3,.var 5|0]),.expr (.app 4 (.var 5)),.set 5 (.call "next_evening" S_31 %[.var 3,.var 1,.var 2|0])|0],.ret (.var 4)|0]
theorem vc_32:∀ ds M R E,S_32 ds M R E->rSs C_32 (ends R E) (Y1 6 ds) M:=by
 rintro ds M R E ⟨pp,s,t,ps,n,L,B,rfl,lpp,A,V0,n24,q⟩;have sl:=V0.len;unfold C_32;sleep 7;intro p1 M1 e1 x1 m1;sleep 7;intro p2 M2 e2 x2 m2;have e2':M p2=none:=MExt.none x1 e2;have h12:p1≠p2:=fun z=>by rw[<- z,m1] at e2;cases e2
 have m1':=x2 _ _ m1;have X2:=x1.trans x2;refine XL fun J hJ=>?_;have start:∀ X,(X=.non/\s=t\/∃ g l,X=lv (evL ps t s g l)/\Eve n ps t s g l)->J [some (rw s),some (rw t),some (.lst pp),some (.lst p1),some (.lst p2),some X] M2:=by
  intro X hX;refine hJ _ _ ?_;clear hJ;rw[Yr];refine⟨fun m δ M'=>∃ (vs:List Lv) (X:DL.D),MExt M M'/\M' p1=some (.ls ((runL vs s).map nm))/\M' p2=some (.ls (vs.map lv))/\Way s vs/\Ev n ps t (runL vs s) L B/\vs.length+offN n ps t (runL vs s)<=n/\(X=.non/\runL vs s=t\/∃ g l,X=lv (evL ps t (runL vs s) g l)/\Eve n ps t (runL vs s) g l)/\δ=[some (rw s),some (rw t),some (.lst pp),some (.lst p1),some (.lst p2),some X]/\m=offN n ps t (runL vs s),⟨_,[],X,X2,m1',m2,.nil _,V0,by have:=Fb n ps t s;simpa[runL] using this,hX,rfl,rfl⟩,?_⟩;rintro m δ M3 ⟨vs,X,x3,k1,k2,W,V,cn,hX,rfl,rfl⟩;rcases hX with ⟨rfl,e⟩|⟨g,l,rfl,Ev'⟩
  ·sleep 8
   sleep 7;exact q vs p2 M3 e2' x3 k2 W e %[|5]
  ·obtain⟨Post,hP⟩:∃ Pt:DSt->Mem->Prop,Pt=fun δ' M'=>∃ (vs':List Lv) (X:DL.D),MExt M M'/\M' p1=some (.ls ((runL vs' s).map nm))/\M' p2=some (.ls (vs'.map lv))/\Way s vs'/\Ev n ps t (runL vs' s) L B/\vs'.length+offN n ps t (runL vs' s)<=n/\(X=.non/\runL vs' s=t\/∃ g l,X=lv (evL ps t (runL vs' s) g l)/\Eve n ps t (runL vs' s) g l)/\δ'=[some (rw s),some (rw t),some (.lst pp),some (.lst p1),some (.lst p2),some X]/\offN n ps t (runL vs' s)<offN n ps t (runL vs s):=⟨_,rfl⟩
   have hc:∀ (M':Mem) (Q':DK),Q' (.bl true) M'->cIs true (lv (evL ps t (runL vs s) g l)) .non M' Q':=fun M' Q' h=>by unfold cIs lv;exact h
   sleep 8;refine hc _ _ ?_;simp;refine⟨Post,?_,?_⟩
   ·intro δ' M' h
    rw[hP] at h;obtain⟨vs',X,h1,h2,h3,h4,h5,h6,h7,h8,h9⟩:=h;exact⟨_,h9,h1,vs',h2,h3,h4,h5,h6,X,h7,h8,rfl⟩
   have can:=Ev'.can A V;have nx:=Ev'.next A V;have le:=Ev'.less A V;have rl:(runL vs s).length=n:=V.len;generalize evL ps t (runL vs s) g l=v at can nx le;sleep 7;refine⟨p1,_,v,rfl,k1,can,by omega,?_⟩;have k5:(M3.upd p1 (.ls ((doL v (runL vs s)).map nm))) p1=some (.ls ((doL v (runL vs s)).map nm)):=mupd_same;have k5':(M3.upd p1 (.ls ((doL v (runL vs s)).map nm))) p2=some (.ls (vs.map lv)):=by rw[Yv h12.symm];exact k2
   have x5:MExt M (M3.upd p1 (.ls ((doL v (runL vs s)).map nm))):=MExt.upd_new e1 x3;generalize M3.upd p1 (.ls ((doL v (runL vs s)).map nm))=M5 at k5 k5' x5;sleep 7;refine⟨⟨_,k5'⟩,_,k5',by rw[List.length_map];omega,?_⟩;have k6:(M5.upd p2 (.ls (vs.map lv++[lv v]))) p2=some (.ls ((vs++[v]).map lv)):=by rw[mupd_same,List.map_append];rfl
   have k6':(M5.upd p2 (.ls (vs.map lv++[lv v]))) p1=some (.ls ((doL v (runL vs s)).map nm)):=by rw[Yv h12];exact k5
   have x6:MExt M (M5.upd p2 (.ls (vs.map lv++[lv v]))):=MExt.upd_new e2' x5;generalize M5.upd p2 (.ls (vs.map lv++[lv v]))=M6 at k6 k6' x6;have rn:runL (vs++[v]) s=doL v (runL vs s):=Vp vs v s;have fin:∀ X,(X=.non/\runL (vs++[v]) s=t\/∃ g l,X=lv (evL ps t (runL (vs++[v]) s) g l)/\Eve n ps t (runL (vs++[v]) s) g l)->Post [some (rw s),some (rw t),some (.lst pp),some (.lst p1),some (.lst p2),some X] M6:=fun X hX=>by
    rw[hP];exact⟨vs++[v],X,x6,by rw[rn];exact k6',k6,W.add can,by rw[rn];exact nx,by rw[rn,List.length_append];simp;omega,hX,rfl,by rw[rn];exact le⟩
   sleep 7;refine⟨p1,pp,_,t,ps,n,L,B,rfl,k6',x6 _ _ lpp,A,nx,fun e=>?_,fun g l E''=>?_⟩
   ·sleep 8
    exact fin _ (.inl ⟨rfl,by rw[rn];exact e⟩)
   ·sleep 8
    exact fin _ (.inr ⟨g,l,by rw[rn],by rw[rn];exact E''⟩)
 sleep 8;refine⟨p1,pp,s,t,ps,n,L,B,rfl,m1',X2 _ _ lpp,A,V0,fun e=>start _ (.inl ⟨rfl,e⟩),fun g l E'=>start _ (.inr ⟨g,l,rfl,E'⟩)⟩
theorem AG (l:List Rat):∀ k,k<=l.length->pre (fun i=>ri l i) k=tot (l.take k)
 | 0,_=>rfl
 | k+1,h=>by
  have ih:=AG l k %[|5];rw[List.take_succ_eq_append_getElem %[|5],Xb,<- ih];show pre (fun i=>ri l i) k+ri l k=_;have:k<l.length:=by omega
  simp[ri,List.getD,this]
section
variable {n:Nat} {ps:List Nat} {s t a:List Rat} {L B:Nat}
theorem VN (P:Pls n ps) (hk:k<n):al ps s k=ri (ps.map fun i=>s.getD i 0) k:=by
 have pl:=P.len;have:k<ps.length:=by omega
 simp[al,pat,ri,List.getD,this]
theorem CC (P:Pls n ps) (hs:s.length=n) (F:Falls s s.length ps):∀ k,k<=n->pre (fun i=>al ps s i) k=tot ((srt s).take k):=fun k hk=>by
 rw[<- F.vals,<- AG _ k (by rw[List.length_map,P.len];exact hk)];exact Wp fun i hi=>VN P %[|5]
theorem DH (P:Pls n ps) (pm:ps.Perm (List.range n)) (hs:s.length=n) (so:∀ i j,i<=j->j<n->al ps s j<=al ps s i):Falls s s.length ps:=by
 refine⟨by rw[hs];exact pm,?_⟩;refine List.pairwise_iff_getElem.mpr fun i j hi hj hij=>?_;have pl:=P.len;rw[List.length_map] at hi hj;have:=so i j %[|5] %[|5];rw[VN P %[|5],VN P %[|5]] at this
 simpa[ri,List.getD,hi,hj] using this
theorem IE (P:Pls n ps) (hs:s.length=n) (F:Falls s s.length ps):∀ i j,i<=j->j<n->al ps s j<=al ps s i:=fun i j hij hj=>by
 have pl:=P.len;rcases (by omega:i=j\/i<j) with rfl|h
 ·exact Rat.le_refl
 ·have:=List.pairwise_iff_getElem.mp F.fall i j (by rw[List.length_map];omega) (by rw[List.length_map];omega) h
  have a1:i<ps.length:=by omega
  have a2:j<ps.length:=by omega
  rw[VN P hj,VN P (show i<n by omega)]
  simpa[ri,List.getD,a1,a2] using this
theorem K1 (P:Pls n ps) (pm:ps.Perm (List.range n)) (hs:s.length=n) (ht:t.length=n) (n1:1<=n) (F:Falls t t.length ps) (Ld:Leads s t) (pa:a.Perm s) (so:∀ i j,i<=j->j<n->al ps a j<=al ps a i) (gr:∀ x∈s,Gr L B x):Ev n ps t a L B:=by
 have la:a.length=n:=by rw[pa.length_eq];exact hs
 have Fa:=DH P pm la so;have gp:=Fo pa;have key:∀ k,k<=n->pre (fun i=>al ps a i-al ps t i) k=tot ((srt a).take k)-tot ((srt t).take k):=fun k hk=>by
  rw[AH,CC P la Fa k hk,CC P ht F k hk]
 have at1:∀ i,i<n->tot ((srt a).take (i+1))=ri (Yj s) i:=fun i hi=>by rw[<- Xm %[|5],gp]
 have at2:∀ i,i<n->tot ((srt t).take (i+1))=ri (Yj t) i:=fun i hi=>by rw[<- Xm %[|5]]
 refine⟨la,fun k hk=>?_,?_,fun x hx=>gr x (pa.subset hx)⟩
 ·rw[key k hk]
  cases k with
  | zero=>simp[tot];grind
  | succ i =>
   rw[at1 i %[|5],at2 i %[|5]];have:=Ld.dom i %[|5];grind
 ·rw[key n %[|3]]
  obtain⟨m,rfl⟩:∃ m,n=m+1:=⟨n-1,by omega⟩;rw[at1 m %[|5],at2 m %[|5]];have:=Ld.fin;rw[hs,Nat.add_sub_cancel] at this;grind
end
theorem UG (h1:1<=s.length) (h24:s.length<=24):Ye 1 24 (rw s)=true:=Xj %[|5] %[|5]
inductive Bt (M:Mem) (d e:DL.D) (Q E:DK):Prop
 | one:Ye 1 24 d=false->(∀ M',MExt M M'->E (.exc "NoRow" .non) M')->Bt M d e Q E
 | two:Ye 1 24 d=true->Ye 1 24 e=false->(∀ M',MExt M M'->E (.exc "NoRow" .non) M')->Bt M d e Q E
 | len (s t:List Rat):d=rw s->e=rw t->1<=s.length->s.length<=24->1<=t.length->t.length<=24->s.length≠t.length->(∀ M',MExt M M'->E (.exc "NoRow" .non) M')->Bt M d e Q E
 | good (s t:List Rat) (L B:Nat):d=rw s->e=rw t->1<=s.length->s.length<=24->s.length=t.length->Bnd L B->(∀ x∈s,Gr L B x)->(∀ x∈t,Gr L B x) ->
   (Leads s t->∀ vs M',Way s vs->runL vs s=t->vs.length<=48->MExt M M'->Q (.tup (vs.map lv)) M')->(¬ Leads s t->∀ M',MExt M M'->Q .non M')->Bt M d e Q E
noncomputable def S_34:DSp:=fun ds M Q E=>∃ d e,ds=[d,e]/\Gd M d/\Gd M e/\Bt M d e Q E
noncomputable def C_34:CSs:=%[.expr (.call "want_steps" S_15 %[.var 0|0]),.expr (.call "want_steps" S_15 %[.var 1|0]),.ife (.cmp .NotEq (.bi .len %[.var 0|0]) (.bi .len %[.var 1|0])) %[.rse "NoRow" %[.str "these are not as many steps"|0]|0] .nil,.ife (.not (.call "lead_there" S_33 %[.var 0,.var 1|0])) %[.ret .non|0] .nil,.set 2 (.call "falling" S_25 %[.var 1|0]),.set 3 (.call "exchanges" S_30 %[.var 0,.var 2|0]),.ret (.bi .tuple %[.bin .Add (.var 3) (.call "evenings" S_32 %[.call "levelled" S_29 %[.var 0,.bi .tuple %[.var 3|0]|0],.var 1,.var 2|0])|0])|0]
theorem vc_34:∀ ds M R E,S_34 ds M R E->rSs C_34 (ends R E) (Y1 4 ds) M:=by
 rintro ds M R E ⟨d,e,rfl,gd,ge,h⟩;unfold C_34;sleep 7;refine⟨d,rfl,gd,fun M1 x1=>?_⟩;cases h with
 | one h q =>
  rw[h,if_neg %[|4]];exact q M1 x1
 | two h h2 q =>
  rw[h,if_pos rfl];sleep 7;refine⟨e,rfl,Gd.ext x1 _ ge,fun M2 x2=>?_⟩;rw[h2,if_neg %[|4]];exact q M2 (x1.trans x2)
 | len s t hd he s1 s24 t1 t24 ne q =>
  subst hd he;rw[UG s1 s24,if_pos rfl];sleep 7;refine⟨rw t,rfl,Gd.ext x1 _ ge,fun M2 x2=>?_⟩;rw[UG t1 t24,if_pos rfl];sleep 7;refine YN true ?_;have:¬ ((s.length:Int)=t.length):=by omega
  simp[this];sleep 7;exact q M2 (x1.trans x2)
 | good s t L B hd he s1 s24 sl bd gs gt q1 q2 =>
  subst hd he;have Gs1:Gs s:=⟨L,B,bd.l0,Nat.lt_of_lt_of_le bd.hL (Yf %[|4]),Nat.lt_of_lt_of_le bd.hB (Yf %[|4]),gs⟩;have Gs2:Gs t:=⟨L,B,bd.l0,Nat.lt_of_lt_of_le bd.hL (Yf %[|4]),Nat.lt_of_lt_of_le bd.hB (Yf %[|4]),gt⟩;rw[UG s1 s24,if_pos rfl];sleep 7;refine⟨rw t,rfl,Gd.ext x1 _ ge,fun M2 x2=>?_⟩;rw[UG %[|5] %[|5],if_pos rfl];sleep 7;refine YN true ?_;have:((s.length:Int)=t.length):=by omega
  simp[this];sleep 7;refine⟨s,t,rfl,Gs1,Gs2,sl,s1,s24,fun b M3 hb x3=>?_⟩;have X3:=x1.trans (x2.trans x3);by_cases c:Leads s t
  ·rw[hb.mpr c]
   simp;sleep 7;refine⟨t,900,rfl,fun x hx=>bd.sz (gt x hx),by decide,by omega,fun ps pp M4 e4 x4 m4 F=>?_⟩;have P:=GR F.perm;sleep 7;refine⟨s,pp,ps,s.length,L,B,rfl,m4,by rw[sl];exact P,rfl,s24,bd,gs,fun vs p5 M5 e5 x5 m5 W pm so vl=>?_⟩;have P':Pls s.length ps:=by rw[sl];exact P
   have V:Ev s.length ps t (runL vs s) L B:=K1 P' (by rw[sl];exact F.perm) rfl sl.symm s1 F c pm so gs;have A:Aim s.length ps t L B:=⟨P',sl.symm,IE P' sl.symm F,gt,bd.l0,bd.hL,bd.hB⟩;sleep 7;refine⟨_,m5,?_⟩;refine⟨s,vs,rfl,W,fun y hy=>bd.sz (gs y hy),s1,s24,fun M6 x6=>?_⟩;refine⟨pp,_,t,ps,s.length,L,B,rfl,x6 _ _ (x5 _ _ m4),A,V,s24,fun ws p7 M7 e7 x7 m7 W2 r2 wl=>?_⟩;sleep 8;have m57:=x7 _ _ (x6 _ _ m5);refine⟨_,m57,_,m7,by simp;omega,?_⟩;intro p8 M8 e8 x8 m8;refine⟨_,m8,?_⟩;have:=q1 c (vs++ws) M8 (W.app W2) (by rw[Jf];exact r2) (by rw[List.length_append];omega) (X3.trans (x4.trans (x5.trans (x6.trans (x7.trans x8)))));rw[List.map_append] at this;exact this
  ·have hb':b=false:=by
    cases b with
    | false=>rfl
    | true=>exact absurd (hb.mp rfl) c
   rw[hb'];simp;exact q2 c M3 X3
theorem ZK {s:List Rat} {k:Nat} (h:k<s.length):Ya s (k+1)=Ya s k+ri s k:=Vh h
structure TautOf (s:List Rat) (b a:Rat) (x:List Rat):Prop where
 len:x.length=s.length
 fin:Ya x s.length=Ya s s.length
 low:∀ k,0<k->k<s.length->-b<=Ya x k-Ya s k
 high:∀ k,0<k->k<s.length->Ya x k-Ya s k<=a
 up:∀ k,0<k->k<s.length->ri x (k-1)<ri x k->Ya x k-Ya s k=a
 down:∀ k,0<k->k<s.length->ri x k<ri x (k-1)->Ya x k-Ya s k=-b
theorem W6 {s:List Rat} {b a:Rat} {k:Nat} (h0:0<k) (h:k<s.length):lo (Yk s b a) k=Ya s k-b/\hi (Yk s b a) k=Ya s k+a:=by
 unfold lo hi;rw[Z2 %[|5]];unfold Z1;rw[if_neg %[|5],if_neg %[|5]];exact⟨rfl,rfl⟩
theorem Ff {s:List Rat} {b a:Rat} (h:1<=s.length):lo (Yk s b a) 0=0/\hi (Yk s b a) 0=0/\lo (Yk s b a) s.length=Ya s s.length/\hi (Yk s b a) s.length=Ya s s.length:=by
 unfold lo hi;rw[Z2 %[|5],Z2 %[|5]];unfold Z1;rw[if_pos rfl,if_neg %[|5],if_pos rfl];exact⟨rfl,rfl,rfl,rfl⟩
theorem YI {x:List Rat} {k:Nat}:ri (Y6 0 x) k=Ya x k:=rfl
theorem WV {s:List Rat} {b a:Rat} {K:Nat} {r:List Rat} (h1:1<=s.length) (T:Told (Yk s b a) K r):TautOf s b a (Y0 r)/\r=Y6 0 (Y0 r):=by
 have L:=T.len;rw[YH] at L;have E:=Ff (b:=b) (a:=a) h1;have f:=T.first;have l:=T.last;rw[YH,Nat.add_sub_cancel] at l;rw[E.1] at f;rw[E.2.2.1] at l;have er:Y6 0 (Y0 r)=r:=by
  have:=Jg (r:=r) %[|5];rw[f] at this;exact this
 have sl:=Yz r;have at_:∀ k,ri r k=Ya (Y0 r) k:=fun k=>by
  show ri r k=ri (Y6 0 (Y0 r)) k;rw[er]
 have tt:=T.taut;rw[YH,Nat.add_sub_cancel] at tt;refine⟨⟨by omega,by rw[<- at_];exact l,fun k k0 kn=>?_,fun k k0 kn=>?_,fun k k0 kn hu=>?_,fun k k0 kn hu=>?_⟩,er.symm⟩
 ·have:=tt.low k %[|5]
  rw[(W6 k0 kn).1] at this;rw[<- at_];grind
 ·have:=tt.high k %[|5]
  rw[(W6 k0 kn).2] at this;rw[<- at_];grind
 ·have e1:=Zw (r:=r) (i:=k-1) %[|5]
  have e2:=Zw (r:=r) (i:=k) %[|5];rw[show k-1+1=k by omega] at e1;have:=tt.up k k0 kn (by rw[<- e1,<- e2];exact hu);rw[(W6 k0 kn).2] at this;rw[<- at_];grind
 ·have e1:=Zw (r:=r) (i:=k-1) %[|5]
  have e2:=Zw (r:=r) (i:=k) %[|5];rw[show k-1+1=k by omega] at e1;have:=tt.down k k0 kn (by rw[<- e1,<- e2];exact hu);rw[(W6 k0 kn).1] at this;rw[<- at_];grind
theorem Kd {a b f:Rat} (hf:f<0):a*f<b*f->b<a:=by
 intro h;apply Decidable.byContradiction;intro hn;have:=Rat.mul_le_mul_of_nonneg_right (show a<=b by grind) (show 0<=-f by grind);grind
noncomputable def mag (p:Rat):Rat:=if p<0 then -p else p
theorem Hn (x:Rat):x<=mag x/\-x<=mag x/\0<=mag x:=by unfold mag;split<;>refine⟨?_,?_,?_⟩<;>grind
noncomputable def wy (b:Bool):DL.D:=.str (if b then "up" else "down")
noncomputable def bd (z:Nat×Bool):DL.D:=.tup [.int z.1,wy z.2]
theorem VW {lo hi r:Nat->Rat} {n:Nat} (T:Taut lo hi r n) (h0:r 0=lo 0):∀ i,i<n->∃ b,b<=i/\(r b=lo b\/r b=hi b)/\∀ m,b<=m->m<=i+1->r m=r b+((m-b:Nat):Rat)*(r (i+1)-r i)
 | 0,_=>⟨0,Nat.le_refl _,.inl h0,fun m _ h=>by
   rcases (by omega:m=0\/m=1) with rfl|rfl
   ·show r 0=r 0+(0:Rat)*_;grind
   ·show r 1=r 0+(1:Rat)*(r 1-r 0);grind⟩
 | i+1,h=>by
  by_cases c:r (i+1)-r i=r (i+2)-r (i+1)
  ·obtain⟨b,b1,b2,b3⟩:=VW T h0 i %[|5]
   refine⟨b,by omega,b2,fun m m1 m2=>?_⟩;show r m=r b+_*(r (i+2)-r (i+1));rcases (by omega:m=i+2\/m<=i+1) with rfl|q
   ·have:=b3 (i+1) %[|5] %[|5]
    rw[show i+2-b=(i+1-b)+1 by omega];have e:((i+1-b+1:Nat):Rat)=((i+1-b:Nat):Rat)+1:=by push_cast;rfl
    rw[e,<- c];grind
   ·rw[b3 m m1 q,c]
  ·refine⟨i+1,Nat.le_refl _,?_,fun m m1 m2=>?_⟩
   ·rcases tri (r (i+1)-r i) (r (i+2)-r (i+1)) with z|z|z
    ·exact .inr (T.up (i+1) %[|5] h (by rw[Nat.add_sub_cancel];exact z))
    ·exact absurd z c
    ·exact .inl (T.down (i+1) %[|5] h (by rw[Nat.add_sub_cancel];exact z))
   ·rcases (by omega:m=i+1\/m=i+2) with rfl|rfl
    ·rw[Nat.sub_self];show r (i+1)=r (i+1)+(0:Rat)*_;grind
    ·rw[show i+2-(i+1)=1 by omega];show r (i+2)=r (i+1)+(1:Rat)*(r (i+2)-r (i+1));grind
theorem Ve {lo hi r:Nat->Rat} {n:Nat} (T:Taut lo hi r n) (hn:r n=lo n):∀ d i,n-i=d->i<n->∃ e,i<e/\e<=n/\(r e=lo e\/r e=hi e)/\r e=r i+((e-i:Nat):Rat)*(r (i+1)-r i)
 | 0,i,q,h=>by omega
 | d+1,i,q,h=>by
  by_cases hl:i+1=n
  ·refine⟨i+1,by omega,by omega,.inl (by rw[hl];exact hn),?_⟩
   rw[show i+1-i=1 by omega];show r (i+1)=r i+(1:Rat)*_;grind
  ·by_cases c:r (i+1)-r i=r (i+2)-r (i+1)
   ·obtain⟨e,e1,e2,e3,e4⟩:=Ve T hn d (i+1) %[|5] %[|5]
    refine⟨e,by omega,e2,e3,?_⟩;rw[e4,show r (i+1+1)-r (i+1)=r (i+1)-r i from c.symm,show e-i=(e-(i+1))+1 by omega];have e':((e-(i+1)+1:Nat):Rat)=((e-(i+1):Nat):Rat)+1:=by push_cast;rfl
    rw[e'];grind
   ·refine⟨i+1,by omega,by omega,?_,?_⟩
    ·rcases tri (r (i+1)-r i) (r (i+2)-r (i+1)) with z|z|z
     ·exact .inr (T.up (i+1) %[|5] %[|5] (by rw[Nat.add_sub_cancel];exact z))
     ·exact absurd z c
     ·exact .inl (T.down (i+1) %[|5] %[|5] (by rw[Nat.add_sub_cancel];exact z))
    ·rw[show i+1-i=1 by omega];show r (i+1)=r i+(1:Rat)*_;grind
theorem VV {lo hi r:Nat->Rat} {n L B:Nat} (T:Taut lo hi r n) (h0:r 0=lo 0) (hn:r n=lo n) (h1:1<=n) (h2:n<=24) (l0:0<L) (g:∀ k,k<=n->Gr L B (lo k)/\Gr L B (hi k)):∀ i,i<=n->Gr (L*5354228880) (49*(B*5354228880)) (r i):=by
 have lw:0<L*5354228880:=by omega
 have gt:∀ k,k<=n->(r k=lo k\/r k=hi k)->Gr L B (r k):=fun k hk h=>by
  rcases h with h|h<;>rw[h]
  ·exact (g k hk).1
  ·exact (g k hk).2
 have main:∀ i,i<n->Gr (L*5354228880) (49*(B*5354228880)) (r i):=fun i hi'=>by
  obtain⟨b,b1,b2,b3⟩:=VW T h0 i hi';obtain⟨e,e1,e2,e3,e4⟩:=Ve T hn _ i rfl hi';have rb:=gt b %[|5] b2;have re:=gt e e2 e3;have ri':=b3 i b1 %[|5];have d0:(0:Rat)<((e-b:Nat):Rat):=by exact_mod_cast (by omega:0<e-b)
  have es:r e-r b=((e-b:Nat):Rat)*(r (i+1)-r i):=by
   rw[e4,ri',show e-b=(e-i)+(i-b) by omega];have:((e-i+(i-b):Nat):Rat)=((e-i:Nat):Rat)+((i-b:Nat):Rat):=by push_cast;rfl
   rw[this];grind
  have s:r (i+1)-r i=(r e-r b) / ((e-b:Nat):Rat):=by
   rw[es,Rat.mul_comm,Rat.mul_div_cancel (by grind)]
  have gs:=(re.sub l0 rb).div (W:=5354228880) (d:=e-b) %[|5] (K5 ⟨e-b,by omega⟩ (by show 0<e-b;omega)) l0 %[|4];rw[<- s] at gs;rw[ri'];refine ((rb.up l0 (W:=5354228880) %[|4]).add lw (gs.times lw (i-b))).mono ?_;have:(i-b)*((B+B)*5354228880)<=24*((B+B)*5354228880):=Nat.mul_le_mul_right _ %[|5];omega
 intro i hi';rcases (by omega:i<n\/i=n) with q|rfl
 ·exact main i q
 ·exact ((gt i %[|3] (.inl hn)).up l0 (W:=5354228880) %[|4]).mono %[|5]
theorem Hm {r:List Rat} {q:Rat} (h:Needs r) (hq:0<=q):Needs (r++[q]):=fun x hx=>by
 rcases List.mem_append.mp hx with hx|hx
 ·exact h x hx
 ·simp at hx;subst hx;exact hq
theorem Dd {P:Rat->Prop} {r:List Rat} {q:Rat} (h:∀ x∈r,P x) (hq:P q):∀ x∈r++[q],P x:=fun x hx=>by
 rcases List.mem_append.mp hx with hx|hx
 ·exact h x hx
 ·simp at hx;subst hx;exact hq
theorem J9 {L B:Nat} {s:List Rat} (l0:0<L) (h:∀ x∈s,Gr L B x):∀ k,k<=s.length->Gr L (k*B) (Ya s k)
 | 0,_=>by rw[YR];exact .zero
 | k+1,hk=>by
  rw[ZK %[|5],Nat.succ_mul];exact (J9 l0 h k %[|5]).add l0 (h _ (Yy %[|5]))
abbrev Wj:DL.D:=.int 24
abbrev WQ:DL.D:=.int 12
structure Jb where
 a:Nat
 d:Nat
 w:Rat
noncomputable def jb (j:Jb):DL.D:=.tup [.int (j.a:Int),.int (j.d:Int),nm j.w]
noncomputable def jbs (js:List Jb):DL.D:=.tup (js.map jb)
structure Job (k:Nat) (j:Jb):Prop where
 ad:j.a<j.d
 d24:j.d<=24
 w0:0<j.w
 sw:Sz k j.w
structure Jobs (k:Nat) (js:List Jb):Prop where
 one:1<=js.length
 most:js.length<=12
 job:∀ j∈js,Job k j
 mon:js.Pairwise fun i j=>i.a<=j.a/\i.d<=j.d
 few:k<=40
noncomputable def YO (js:List Jb):Nat:=(js.getLast?.map (·.d)).getD 0
theorem Jobs.last {k:Nat} {js:List Jb} (J:Jobs k js):∃ l,js.getLast?=some l/\l∈js/\YO js=l.d/\∀ j∈js,j.d<=l.d:=by
 have hne:js≠[]:=fun e=>by have:=J.one;rw[e] at this;simp at this
 refine⟨js.getLast hne,List.getLast?_eq_some_getLast hne,List.getLast_mem hne,?_,fun j hj=>?_⟩
 ·unfold YO;rw[List.getLast?_eq_some_getLast hne];rfl
 ·have e:=List.dropLast_concat_getLast hne
  rw[<- e] at hj;rcases List.mem_append.mp hj with h|h
  ·have p:=J.mon
   rw[<- e,List.pairwise_append] at p;exact (p.2.2 j h _ (by simp)).2
  ·simp at h
   rw[h];exact Nat.le_refl _
theorem Jobs.lastAt {k:Nat} {js:List Jb} (J:Jobs k js):∃ l,L2.atI (js.map jb) (-1)=some (jb l)/\YO js=l.d:=by
 obtain⟨l,h,_,e,_⟩:=J.last;refine⟨l,?_,e⟩;have hne:js≠[]:=fun e=>by rw[e] at h;cases h
 have hm:js.map jb≠[]:=by simpa using hne
 rw[Wg hm];have:(js.map jb).getLast?=some (jb l):=by rw[List.getLast?_map,h];rfl
 rw[List.getLast?_eq_some_getLast hm] at this;exact this
theorem Jobs.last1 {k:Nat} {js:List Jb} (J:Jobs k js):1<=YO js/\YO js<=24:=by
 obtain⟨l,_,hm,e,_⟩:=J.last;have:=(J.job l hm).ad;have:=(J.job l hm).d24;omega
noncomputable def dueW (js:List Jb) (h:Nat):List Rat:=(js.filter fun j=>decide (j.d<=h)).map (·.w)
noncomputable def arrW (js:List Jb) (h:Nat):List Rat:=(js.filter fun j=>decide (j.a<h)).map (·.w)
noncomputable def jobP (js:List Jb) (h:Nat):Rat×Rat:=(tot (dueW js h),tot (arrW js h))
noncomputable def jobT (js:List Jb):List (Rat×Rat):=(List.range (YO js+1)).map (jobP js)
theorem Vy (js:List Jb):(jobT js).length=YO js+1:=by simp[jobT]
theorem XD {js:List Jb} {h:Nat} (hh:h<=YO js):(jobT js).getD h (0,0)=jobP js h:=by
 have:h<YO js+1:=by omega
 simp[jobT,List.getD,this]
theorem Az {k:Nat}:∀ {s:List Rat},(∀ x∈s,Sz k x)->Sz (1+s.length*(k+1)) (tot s)
 | [],_=>by
  have:Sz 1 (0:Rat):=⟨by decide,by decide⟩;exact this.mono (by simp)
 | a::s,h=>by
  rw[Y3];have:=(h a List.mem_cons_self).add (Az fun x hx=>h x (List.mem_cons_of_mem _ hx));refine this.mono ?_;rw[List.length_cons,Nat.succ_mul];omega
theorem Jobs.sub {k:Nat} {js:List Jb} (J:Jobs k js) (P:Jb->Bool):∀ x∈(js.filter P).map (·.w),Sz k x:=fun x hx=>by
 obtain⟨j,hj,rfl⟩:=List.mem_map.mp hx;exact (J.job j (List.mem_filter.mp hj).1).sw
theorem WY (js:List Jb) (P:Jb->Bool):((js.filter P).map (·.w)).length<=js.length:=by rw[List.length_map];exact List.length_filter_le _ _
theorem Ca {k:Nat} {s:List Rat} (h:∀ x∈s,Sz k x) (hl:s.length<=12) (hk:k<=40):Sz 500 (tot s):=by
 have m:s.length*(k+1)<=12*41:=Nat.mul_le_mul hl %[|5];exact (Az h).mono %[|5]
theorem ZR {P R:Jb->Bool}:∀ {js:List Jb},(∀ j∈js,0<j.w)->(∀ j∈js,P j=true->R j=true)->tot ((js.filter P).map (·.w))<=tot ((js.filter R).map (·.w))
 | [],_,_=>Rat.le_refl
 | j::js,hw,h=>by
  have ih:=ZR (P:=P) (R:=R) (js:=js) (fun i hi=>hw i (List.mem_cons_of_mem _ hi)) (fun i hi=>h i (List.mem_cons_of_mem _ hi));have w:=hw j List.mem_cons_self;have hj:=h j List.mem_cons_self;rw[List.filter_cons,List.filter_cons];cases hp:P j with
  | true =>
   rw[hj hp,if_pos rfl,if_pos rfl,List.map_cons,List.map_cons,Y3,Y3];grind
  | false =>
   rw[if_neg %[|4]];split
   ·rw[List.map_cons,Y3];grind
   ·exact ih
theorem Jobs.fine {k:Nat} {js:List Jb} (J:Jobs k js):Fine (jobT js) 500:=by
 have L:=Vy js;have l1:=J.last1;obtain⟨l,_,hm,el,hd⟩:=J.last;have zero:jobP js 0=(0,0):=by
  have e1:dueW js 0=[]:=by
   unfold dueW;rw[List.filter_eq_nil_iff.mpr];rfl;intro j hj;have:=(J.job j hj).ad;simp;omega
  have e2:arrW js 0=[]:=by
   unfold arrW;rw[List.filter_eq_nil_iff.mpr];rfl;intro j hj;simp
  unfold jobP;rw[e1,e2];rfl
 have fin:(jobP js (YO js)).1=(jobP js (YO js)).2:=by
  have e1:dueW js (YO js)=js.map (·.w):=by
   unfold dueW;rw[List.filter_eq_self.mpr];intro j hj;have:=hd j hj;simp;omega
  have e2:arrW js (YO js)=js.map (·.w):=by
   unfold arrW;rw[List.filter_eq_self.mpr];intro j hj;have:=hd j hj;have:=(J.job j hj).ad;simp;omega
  unfold jobP;rw[e1,e2]
 have ln:=J.most;have few:=J.few;have sz:∀ h,Sz 500 (jobP js h).1/\Sz 500 (jobP js h).2:=fun h =>
  ⟨Ca (J.sub _) (Nat.le_trans (WY js _) ln) few,Ca (J.sub _) (Nat.le_trans (WY js _) ln) few⟩
 refine⟨⟨by omega,by omega,fun p hp=>?_⟩,?_,fun i hi'=>?_,fun i hi'=>?_,by decide⟩
 ·unfold jobT at hp
  obtain⟨h,_,rfl⟩:=List.mem_map.mp hp;refine ZR (fun j hj=>(J.job j hj).w0) fun j hj hh=>?_;have:=(J.job j hj).ad;simp at hh ⊢;omega
 ·unfold tied lo hi
  rw[XD %[|5],L,Nat.add_sub_cancel,XD %[|5],zero,fin];simp
 ·unfold lo;rw[XD %[|5]];exact (sz i).1
 ·unfold hi;rw[XD %[|5]];exact (sz i).2
theorem XQ {α:Type} {n:Nat} {ti:DI} {g:DG} {tt:DT} {te:DE} {δ:DSt} {M:Mem} {Q:DK} (xs:List α) (e f:α->DL.D) (P:α->Bool)
  (hti:∀ R:List DL.D->(Mem->Prop)->Mem->Prop,(∀ keep,(∀ M',MExt M M'->keep M')->R (xs.map e) keep M)->ti δ M R) (hlen:xs.length<=1000)
  (hel:∀ x∈xs,∀ l M' (N:DSt->Mem->Prop),l.length=n->MExt M M'->(∀ l' ,l'.length=n->(∀ Qt:Bool->Mem->Prop,Qt (P x) M'->tt (δ++l') M' Qt)->(∀ Qe:DK,Qe (f x) M'->te (δ++l') M' Qe)->N (δ++l') M')->g (e x) (δ++l) M' N)
  (hq:∀ p M',M p=none->MExt M M'->M' p=some (.ls ((xs.filter P).map f))->Q (.lst p) M'):XO n ti g (bIf tt (WP te)) δ M Q:=by
 refine hti _ fun keep hk p hp=>⟨hk _ (.new hp),?_⟩;refine Jq (fun i δ' M'=>(∃ l,l.length=n/\δ'=δ++l)/\MExt M M'/\M' p=some (.ls (((xs.take i).filter P).map f))) (fun _ _ _ h=>hk _ h.2.1) ?_ ?_ ⟨⟨_,by simp,rfl⟩,.new hp,mupd_same⟩
 ·rintro δ' M' ⟨_,x,l⟩
  rw[List.length_map,List.take_length] at l;exact⟨⟨_,l⟩,hq p M' hp x l⟩
 ·rintro i y hy N hN δ' M' ⟨⟨w,hw,rfl⟩,x,l⟩
  obtain⟨hi,rfl⟩:∃ hi:i<xs.length,y=e xs[i]:=by
   obtain⟨h,e⟩:=List.getElem?_eq_some_iff.mp hy;have h':i<xs.length:=by simpa using h
   exact⟨h',by rw[<- e];simp⟩
  have hm:=List.getElem_mem hi;have tk:(xs.take (i+1)).filter P=(xs.take i).filter P++[xs[i]].filter P:=by rw[List.take_succ_eq_append_getElem hi,List.filter_append]
  have fl:((xs.take i).filter P).length<=1000:=Nat.le_trans (List.length_filter_le _ _) (by rw[List.length_take];omega);generalize xs[i]=v at hm tk;refine hel v hm w M' _ hw x fun l' hl' htt hte=>?_;unfold bIf;refine htt _ ?_;cases hp':P v with
  | true =>
   rw[if_pos rfl];unfold WP;refine hte _ ⟨_,l,by rw[List.length_map,sizeLine_eq];omega,?_⟩;refine hN _ _ ⟨⟨_,hl',rfl⟩,MExt.upd_new hp x,?_⟩;rw[mupd_same,tk];simp[hp']
  | false =>
   rw[if_neg %[|4]];refine hN _ _ ⟨⟨_,hl',rfl⟩,x,?_⟩;rw[l,tk];simp[hp']
noncomputable def S_35:DSp:=fun ds M Q E=>∃ j k,ds=[jb j]/\Job k j/\k<=40/\Q (.bl true) M
noncomputable def C_35:CSs:=%[.ife (.or (.not (.bi .isinstance %[.var 0,.ty .tuple|0])) (.one (.cmp .NotEq (.bi .len %[.var 0|0]) (.int 3)))) %[.ret (.bl false)|0] .nil,.asg (.tup %[.name 1,.name 2,.name 3|0]) (.var 0),.ife (.or (.not (.call "is_whole" S_0 %[.var 1|0])) (.or (.not (.call "is_whole" S_0 %[.var 2|0])) (.one (.not (.chain3 .LtE .Lt .LtE (.int 0) (.var 1) (.var 2) (.glo "MOST_HOURS" Wj)))))) %[.ret (.bl false)|0] .nil,.ret (.and (.call "is_number" S_2 %[.var 3|0]) (.one (.call "is_less" S_8 %[.glo "NOUGHT" YY,.var 3|0])))|0]
theorem vc_35:∀ ds M R E,S_35 ds M R E->rSs C_35 (ends R E) (Y1 4 ds) M:=by
 rintro ds M R E ⟨j,k,rfl,J,hk,q⟩;have ad:=J.ad;have d24:=J.d24;rw[show jb j=.tup [.int (j.a:Int),.int (j.d:Int),nm j.w] from rfl];unfold C_35;sleep 7;refine YN true ?_;simp;sleep 7;sleep 7;refine⟨_,"int",rfl,rfl,?_⟩;simp;refine⟨_,"int",rfl,rfl,?_⟩;simp[XF];sleep 8;refine .inr ⟨ad,.inr ⟨by omega,?_⟩⟩;sleep 7;refine⟨nm j.w,rfl,gnm J.sw %[|5],?_⟩;rw[X4];simp;refine⟨0,j.w,rfl,.mk (m:=1) (n:=k) ⟨by decide,by decide⟩ J.sw %[|5],?_⟩;rw[decide_eq_true J.w0];exact q
theorem Hv {js:List Jb}:zipD (js.map jb) (cutG (js.map jb) (some 1) none)=(List.range (js.length-1)).map fun i=>.tup [jb (js.getD i ⟨0,0,0⟩),jb (js.getD (i+1) ⟨0,0,0⟩)]:=by
 by_cases h1:1<=js.length
 ·rw[show (some (1:Int))=some ((1:Nat):Int) from rfl,Eh _ _ (by simpa using h1)]
  apply List.ext_getElem
  ·simp[zipD]
  ·intro i a b
   simp at b;have h2:i<js.length:=by omega
   have h3:i+1<js.length:=by omega
   simp[zipD,List.getD,h2,h3,Nat.add_comm 1 i]
 ·have:js=[]:=List.length_eq_zero_iff.mp %[|5]
  subst this
  rfl
noncomputable def S_36:DSp:=fun ds M Q E=>∃ js k,ds=[jbs js]/\Jobs k js/\∀ M',MExt M M'->Q (.bl true) M'
noncomputable def C_36:CSs:=%[.ife (.or (.not (.bi .isinstance %[.var 0,.ty .tuple|0])) (.one (.not (.chain .LtE .LtE (.int 1) (.bi .len %[.var 0|0]) (.glo "MOST_JOBS" WQ))))) %[.ret (.bl false)|0] .nil,.ife (.not (.bi .all %[.comp ["thing","part"] 1 (.name 1) (.seq (.var 0)) (.call "is_job" S_35 %[.var 1|0])|0])) %[.ret (.bl false)|0] .nil,.ret (.bi .all %[.comp ["thing","one","other"] 2 (.tup %[.name 1,.name 2|0]) (.zip %[.var 0,.sl (.var 0) (.some (.int 1)) .none|0]) (.and (.cmp .LtE (.ix (.var 1) (.int 0)) (.ix (.var 2) (.int 0))) (.one (.cmp .LtE (.ix (.var 1) (.int 1)) (.ix (.var 2) (.int 1)))))|0])|0]
theorem vc_36:∀ ds M R E,S_36 ds M R E->rSs C_36 (ends R E) (Y1 1 ds) M:=by
 rintro ds M R E ⟨js,k,rfl,J,q⟩;have h1:=J.one;have h12:=J.most;have few:=J.few;rw[show jbs js=.tup (js.map jb) from rfl];unfold C_36;sleep 7;rw[if_pos %[|5],if_pos %[|5]];sleep 7;refine YB js jb (fun _=>.bl true) ?_ %[|5] ?_ ?_
 ·intro R' r'
  simp[0,vAt,vHd,Y7,and_assoc,sizeLine_eq,Yh,Z4,Yl,dFld,ZH,ZI,ZG,Yl,Yi];exact r' _ fun _ _=>trivial
 ·intro j hj l M' R' hl' e r'
  obtain⟨u,rfl⟩:=len1 hl';sleep 8;exact⟨j,k,rfl,J.job j hj,few,r' [_] M' rfl (.refl _)⟩
 intro p1 M1 e1 x1 l1;refine UV (f:=fun _=>true) l1 ?_;rw[show (js.all fun _=>true)=true by simp];simp;sleep 7;refine YB (List.range (js.length-1)) (fun i=>.tup [jb (js.getD i ⟨0,0,0⟩),jb (js.getD (i+1) ⟨0,0,0⟩)]) (fun _=>.bl true) ?_ (by simp;omega) ?_ ?_
 ·intro R' r'
  simp[0,vAt,vHd,Y7,and_assoc,sizeLine_eq,Yh,Z4,Yl,dFld,ZH,ZI,ZG,Z4,Vz];rw[Hv];exact r' _ fun _ _=>trivial
 ·intro i hi l M' R' hl' e r'
  obtain⟨u1,u2,rfl⟩:=len2 hl';have hi':=List.mem_range.mp hi;have a1:i<js.length:=by omega
  have a2:i+1<js.length:=by omega
  have m:=List.pairwise_iff_getElem.mp J.mon i (i+1) a1 a2 %[|5];have g1:js.getD i ⟨0,0,0⟩=js[i]:=by simp[List.getD,a1]
  have g2:js.getD (i+1) ⟨0,0,0⟩=js[i+1]:=by simp[List.getD,a2]
  rw[g1,g2];generalize js[i]=x at m;generalize js[i+1]=y at m;rw[show jb x=.tup [.int (x.a:Int),.int (x.d:Int),nm x.w] from rfl,show jb y=.tup [.int (y.a:Int),.int (y.d:Int),nm y.w] from rfl];sleep 8;refine tix (v:=.int (x.a:Int)) (YG _ _) ?_;refine tix (v:=.int (y.a:Int)) (YG _ _) ?_;simp[m.1];refine tix (v:=.int (x.d:Int)) (Z9 _ _ _) ?_;refine tix (v:=.int (y.d:Int)) (Z9 _ _ _) ?_;simp[m.2];exact r' [_,_] M' rfl (.refl _)
 intro p2 M2 e2 x2 l2;refine UV (f:=fun _=>true) l2 ?_;rw[show ((List.range (js.length-1)).all fun _=>true)=true by simp];exact q M2 (x1.trans x2)
noncomputable def S_37:DSp:=fun ds M Q E=>∃ js k,ds=[jbs js]/\Jobs k js/\∀ M',MExt M M'->Q .non M'
noncomputable def C_37:CSs:=%[.ife (.not (.call "is_jobs" S_36 %[.var 0|0])) %[.rse "NoJobs" %[.str "these are no jobs"|0]|0] .nil|0]
theorem vc_37:∀ ds M R E,S_37 ds M R E->rSs C_37 (ends R E) (Y1 1 ds) M:=by
 rintro ds M R E ⟨js,k,rfl,J,q⟩;unfold C_37;sleep 7;refine⟨js,k,rfl,J,fun M1 x1=>?_⟩;simp;exact q M1 x1
noncomputable def S_38:DSp:=fun ds M Q E=>∃ js k,ds=[jbs js]/\Jobs k js/\∀ M',MExt M M'->Q (tb (jobT js)) M'
noncomputable def C_38:CSs:=%[.expr (.call "want_jobs" S_37 %[.var 0|0]),.set 1 (.lst .nil),.fr (.name 2) (.rng %[.bin .Add (.ix (.ix (.var 0) (.neg (.int 1))) (.int 1)) (.int 1)|0]) %[.set 3 (.compI ["jobs","places","hour","due_by_then","arrived","arrival","due","work"] 3 (.tup %[.name 5,.name 6,.name 7|0]) (.seq (.var 0)) (.cmp .LtE (.var 6) (.var 2)) (.var 7)),.set 4 (.compI ["jobs","places","hour","due_by_then","arrived","arrival","due","work"] 3 (.tup %[.name 5,.name 6,.name 7|0]) (.seq (.var 0)) (.cmp .Lt (.var 5) (.var 2)) (.var 7)),.expr (.app 1 (.tup %[.call "total" S_24 %[.var 3|0],.call "total" S_24 %[.var 4|0]|0]))|0],.ret (.bi .tuple %[.var 1|0])|0]
theorem vc_38:∀ ds M R E,S_38 ds M R E->rSs C_38 (ends R E) (Y1 5 ds) M:=by
 rintro ds M R E ⟨js,k,rfl,J,q⟩;have h12:=J.most;have few:=J.few;obtain⟨l,hat,el⟩:=J.lastAt;have l1:=J.last1;have ts:∀ P:Jb->Bool,∀ i,Sz 3900 (tot (((js.filter P).map (·.w)).take i)):=fun P i=>by
  refine (Ca (fun x hx=>J.sub P x (List.mem_of_mem_take hx)) ?_ few).mono %[|4];have:=WY js P;rw[List.length_take];omega
 unfold C_38;sleep 7;refine⟨js,k,rfl,J,fun M1 x1=>?_⟩;sleep 7;intro p2 M2 e2 x2 l2;have n2:M p2=none:=MExt.none x1 e2;sleep 9;rw[show jbs js=.tup (js.map jb) from rfl];refine tix hat ?_;rw[show jb l=.tup [.int (l.a:Int),.int (l.d:Int),nm l.w] from rfl];refine tix (v:=.int (l.d:Int)) (Z9 _ _ _) ?_;sleep 8;rw[<- el];refine⟨by omega,by omega,?_⟩;refine YA (fun i δ M'=>∃ (w2 w3 w4:Option DL.D),MExt M M'/\M' p2=some (.ls (((List.range i).map (jobP js)).map pl))/\δ=[some (.tup (js.map jb)),some (.lst p2),w2,w3,w4]) (fun _ _ _ _=>trivial) ?_ ?_ ⟨_,_,_,x1.trans x2,l2,rfl⟩
 ·rintro δ M3 ⟨w2,w3,w4,x3,l3,rfl⟩
  rw[Zx] at l3;sleep 7;exact⟨_,l3,q M3 x3⟩
 ·rintro i y hy N hN δ M3 ⟨w2,w3,w4,x3,l3,rfl⟩
  obtain⟨rfl,hi'⟩:=Xx hy;rw[show ((0:Int)+(i:Int)*1)=((i:Nat):Int) by omega];sleep 8;sleep 7;refine XQ js jb (fun j=>nm j.w) (fun j=>decide (j.d<=i)) ?_ %[|5] ?_ ?_
  ·intro R' r'
   simp[0,vAt,vHd,Y7,and_assoc,sizeLine_eq,Yh,Z4,Yl,dFld,ZH,ZI,ZG,Yl,Yi];exact r' _ fun _ _=>trivial
  ·intro j hj l M' N' hl' e n'
   obtain⟨u1,u2,u3,rfl⟩:=len3 hl';rw[show jb j=.tup [.int (j.a:Int),.int (j.d:Int),nm j.w] from rfl];sleep 8;refine n' [some (.int (j.a:Int)),some (.int (j.d:Int)),some (nm j.w)] rfl (fun Qt h=>?_) fun Qe h=>?_
   ·sleep 8
    by_cases c:j.d<=i<;>simpa[c] using h
   ·sleep 8
    exact h
  intro p4 M4 e4 x4 l4;sleep 7;refine XQ js jb (fun j=>nm j.w) (fun j=>decide (j.a<i)) ?_ %[|5] ?_ ?_
  ·intro R' r'
   simp[0,vAt,vHd,Y7,and_assoc,sizeLine_eq,Yh,Z4,Yl,dFld,ZH,ZI,ZG,Yl,Yi];exact r' _ fun _ _=>trivial
  ·intro j hj l M' N' hl' e n'
   obtain⟨u1,u2,u3,rfl⟩:=len3 hl';rw[show jb j=.tup [.int (j.a:Int),.int (j.d:Int),nm j.w] from rfl];sleep 8;refine n' [some (.int (j.a:Int)),some (.int (j.d:Int)),some (nm j.w)] rfl (fun Qt h=>?_) fun Qe h=>?_
   ·sleep 8
    by_cases c:j.a<i<;>simpa[c] using h
   ·sleep 8
    exact h
  intro p5 M5 e5 x5 l5;have X5:=x4.trans x5;have l35:=X5 _ _ l3;have l4':M5 p4=some (.ls ((dueW js i).map nm)):=by rw[x5 _ _ l4];unfold dueW;rw[List.map_map];rfl
  have l5':M5 p5=some (.ls ((arrW js i).map nm)):=by rw[l5];unfold arrW;rw[List.map_map];rfl
  sleep 7;refine⟨⟨_,l35⟩,?_⟩;refine⟨p4,_,rfl,l4',fun x hx=>(J.sub _ x hx).mono %[|5],ts _,?_⟩;refine⟨p5,_,rfl,l5',fun x hx=>(J.sub _ x hx).mono %[|5],ts _,?_⟩;sleep 8;refine⟨_,l35,by simp;omega,?_⟩;refine hN _ _ ⟨_,_,_,MExt.upd_new n2 (x3.trans X5),?_,rfl⟩;rw[mupd_same,List.range_succ];simp[jobP]
noncomputable def S_39:DSp:=fun ds M Q E=>∃ js k,ds=[jbs js]/\Jobs k js/\∀ r M',Told (jobT js) 500 r->MExt M M'->Q (rw (Y0 r)) M'
noncomputable def C_39:CSs:=%[.ret (.call "differences" S_16 %[.call "cord" S_23 %[.call "job_tube" S_38 %[.var 0|0]|0]|0])|0]
theorem vc_39:∀ ds M R E,S_39 ds M R E->rSs C_39 (ends R E) (Y1 1 ds) M:=by
 rintro ds M R E ⟨js,k,rfl,J,q⟩;have L:=Vy js;have l1:=J.last1;unfold C_39;sleep 7;refine⟨js,k,rfl,J,fun M1 x1=>?_⟩;have G:=J.fine;refine⟨_,rfl,G.gd,.inr ⟨_,_,rfl,G,fun r M2 T x2=>?_⟩⟩;have tl:=T.len;exact⟨r,_,rfl,T.sz,by decide,by omega,by omega,fun M3 x3=>q r M3 T (x1.trans (x2.trans x3))⟩
noncomputable def sw (P:Jb->Bool) (js:List Jb):Rat:=tot ((js.filter P).map (·.w))
noncomputable def lowF (js:List Jb) (h:Nat):Rat:=sw (fun j=>decide (j.d<=h)) js
noncomputable def Jv (js:List Jb) (h:Nat):Rat:=sw (fun j=>decide (j.a<h)) js
noncomputable def allW (js:List Jb):Rat:=tot (js.map (·.w))
theorem WX (P:Jb->Bool) (j:Jb) (js:List Jb):sw P (j::js)=(if P j=true then j.w else 0)+sw P js:=by
 unfold sw;rw[List.filter_cons];split
 ·rw[List.map_cons,Y3]
 ·grind
theorem JZ {P:Jb->Bool} {js:List Jb} (h:∀ j∈js,P j=true):sw P js=allW js:=by
 unfold sw allW;rw[List.filter_eq_self.mpr h]
theorem UC {P:Jb->Bool} {js:List Jb} (h:∀ j∈js,P j=false):sw P js=0:=by
 unfold sw;rw[List.filter_eq_nil_iff.mpr fun j hj=>by rw[h j hj];decide];rfl
theorem Wm {k:Nat} {js:List Jb} {r:List Rat} (J:Jobs k js) (T:Told (jobT js) 500 r):Taut (lowF js) (Jv js) (ri r) (YO js)/\r.length=YO js+1/\ri r 0=0/\ri r (YO js)=allW js:=by
 have L:=Vy js;have tl:=T.len;have tt:=T.taut;rw[L,Nat.add_sub_cancel] at tt;have lo_:∀ h,h<=YO js->lo (jobT js) h=lowF js h:=fun h hh=>by unfold lo;rw[XD hh];rfl
 have hi_:∀ h,h<=YO js->hi (jobT js) h=Jv js h:=fun h hh=>by unfold hi;rw[XD hh];rfl
 obtain⟨l,_,hm,el,hd⟩:=J.last;refine⟨⟨fun h hh=>by rw[<- lo_ h hh];exact tt.low h hh,fun h hh=>by rw[<- hi_ h hh];exact tt.high h hh,fun h h0 hn c=>by rw[<- hi_ h %[|5]];exact tt.up h h0 hn c,fun h h0 hn c=>by rw[<- lo_ h %[|5]];exact tt.down h h0 hn c⟩,by omega,?_,?_⟩
 ·rw[T.first,lo_ 0 %[|5]]
  exact UC fun j hj=>by
   have:=(J.job j hj).ad;simp;omega
 ·have:=T.last
  rw[L,Nat.add_sub_cancel,lo_ _ %[|3]] at this;rw[this];exact JZ fun j hj=>by
   have:=hd j hj;simp;omega
theorem AO {s:List Rat} (h:1<=s.length):ri (Yj s) (s.length-1)=tot s:=by
 rw[Xm %[|5],List.take_of_length_le (by rw[(Yq s).length_eq];omega)];exact Vb (Yq s)
theorem Rival.all {lo hi:Nat->Rat} {r o:List Rat} (V:Rival lo hi r o):tot (Y0 r)=tot (Y0 o):=by
 have h1:=V.best (f:=fun x=>x) (g:=fun _=>1) (fun u v=>by grind) (fun _ _ _=>Rat.le_refl);have h2:=V.best (f:=fun x=>-x) (g:=fun _=>-1) (fun u v=>by grind) (fun _ _ _=>Rat.le_refl);have e:∀ s:List Rat,tot (s.map fun x=>-x)=-tot s:=fun s=>by
  induction s with
  | nil=>show (0:Rat)=-0;grind
  | cons x s ih=>rw [List.map_cons,Y3,Y3,ih];grind
 rw[e,e] at h2;rw[List.map_id',List.map_id'] at h1;grind
theorem Rival.leads {lo hi:Nat->Rat} {r o:List Rat} (V:Rival lo hi r o) (h2:2<=r.length):Leads (Y0 o) (Y0 r):=by
 have ol:=V.len;have sr:=Yz r;have so:=Yz o;refine⟨fun i h=>V.sums h,?_⟩;have e1:=AO (s:=Y0 r) %[|5];have e2:=AO (s:=Y0 o) %[|5];rw[e2,show (Y0 o).length-1=(Y0 r).length-1 by omega,e1];exact V.all.symm
theorem JC {x:Rat}:∀ {vs:List Rat},Fall vs->(∀ a∈vs.take (vs.filter fun a=>!decide (a<x)).length,x<=a)/\∀ a∈vs.drop (vs.filter fun a=>!decide (a<x)).length,a<=x
 | [],_=>⟨nofun,nofun⟩
 | b::vs,F=>by
  have F':=List.pairwise_cons.mp F;obtain⟨h1,h2⟩:=JC (x:=x) (vs:=vs) F'.2;by_cases c:b<x
  ·have e:(b::vs).filter (fun a=>!decide (a<x))=[]:=by
    rw[List.filter_eq_nil_iff];intro a ha;rcases List.mem_cons.mp ha with rfl|ha
    ·simp[c]
    ·have:=F'.1 a ha
     have:a<x:=by grind
     simp[this]
   rw[e];refine⟨nofun,fun a ha=>?_⟩;rcases List.mem_cons.mp ha with rfl|ha
   ·grind
   ·have:=F'.1 a ha
    grind
  ·rw[List.filter_cons_of_pos (by simp[c]),List.length_cons]
   refine⟨fun a ha=>?_,fun a ha=>h2 a ha⟩;rcases List.mem_cons.mp ha with rfl|ha
   ·grind
   ·exact h1 a ha
noncomputable def S_60:DSp:=fun ds M Q E=>∃ (s:List Rat),ds=[rw s]/\(∀ x∈s,Sz 1900 x)/\s.length<=25/\∀ p M',M p=none->MExt M M'->M' p=some (.ls ((srt s).map nm))->Q (.lst p) M'
noncomputable def C_60:CSs:=%[.set 1 (.lst .nil),.fr (.name 2) (.seq (.var 0)) %[.set 3 (.bi .len %[.compI ["_law_some_here","_law_found","_law_one","_law_place","_law_other"] 1 (.name 4) (.seq (.var 1)) (.not (.call "_law_under" S_54 %[.var 4,.var 2|0])) (.var 4)|0]),.expr (.ins 1 (.var 3) (.var 2))|0],.ret (.var 1)|0]
theorem vc_60:∀ ds M R E,S_60 ds M R E->rSs C_60 (ends R E) (Y1 4 ds) M:=by
 rintro ds M R E ⟨s,rfl,ss,h25,q⟩;unfold C_60;sleep 7;intro p0 M0 e0 x0 l0;sleep 9;refine YA (fun i δ M'=>∃ (vs:List Rat) (w2 w3:Option DL.D),MExt M M'/\M' p0=some (.ls (vs.map nm))/\Fall vs/\vs.Perm (s.take i)/\δ=[some (rw s),some (.lst p0),w2,w3]) (fun _ _ _ _=>trivial) ?_ ?_ ⟨[],_,_,x0,l0,.nil,.refl _,rfl⟩
 ·rintro δ M' ⟨vs,w2,w3,x,l,F,P,rfl⟩
  rw[List.length_map,List.take_length] at P;rw[A4 P F] at l;sleep 7;exact q p0 M' e0 x l
 ·rintro i y hy N hN δ M' ⟨vs,w2,w3,x,l,F,P,rfl⟩
  obtain⟨hi,rfl⟩:∃ hi:i<s.length,y=nm s[i]:=by
   obtain⟨h,e⟩:=List.getElem?_eq_some_iff.mp hy;have h':i<s.length:=by simpa using h
   exact⟨h',by rw[<- e];simp⟩
  have sx:=ss _ (List.getElem_mem hi);have tk:s.take (i+1)=s.take i++[s[i]]:=List.take_succ_eq_append_getElem hi;have vl:vs.length<=25:=by rw[P.length_eq,List.length_take];omega
  have sv:∀ v∈vs,Sz 1900 v:=fun v hv=>ss v (List.mem_of_mem_take (P.subset hv));generalize s[i]=z at sx tk;obtain⟨c1,c2⟩:=JC (x:=z) F;sleep 8;sleep 7;refine XQ vs nm nm (fun a=>!decide (a<z)) ?_ %[|5] ?_ ?_
  ·intro R' r'
   simp[0,vAt,vHd,Y7,and_assoc,sizeLine_eq,Yh,Z4,Yl,dFld,ZH,ZI,ZG,Yl,Yi];refine⟨_,l,r' _ fun M'' x''=>x'' _ _ l⟩
  ·intro v hv l' M' N' hl' e n'
   obtain⟨u1,rfl⟩:=len1 hl';sleep 8;refine n' [some (nm v)] rfl (fun Qt h=>?_) fun Qe h=>?_
   ·sleep 8
    refine⟨_,_,rfl,.mk (sv v hv) sx %[|4],?_⟩;exact h
   ·sleep 8
    exact h
  intro p4 M4 e4 x4 l4;have lf:=List.length_filter_le (fun a=>!decide (a<z)) vs;generalize hw:(vs.filter fun a=>!decide (a<z)).length=w at c1 c2 lf;refine⟨_,l4,?_⟩;rw[List.length_map,hw];sleep 7;have l5:=x4 _ _ l;refine⟨⟨_,l5⟩,_,l5,by simpa using lf,by simp;omega,?_⟩;refine hN _ _ ⟨vs.take w++z::vs.drop w,_,_,MExt.upd_new e0 (x.trans x4),?_,JB (by rw[List.take_append_drop];exact F) c1 c2,?_,rfl⟩
  ·rw[mupd_same]
   unfold X6;simp
  ·rw[tk]
   have e:(vs.take w++z::vs.drop w).Perm (z::(vs.take w++vs.drop w)):=List.perm_middle;rw[List.take_append_drop] at e;exact e.trans ((P.cons z).trans (List.perm_append_singleton z _).symm)
noncomputable def S_61:DSp:=fun ds M Q E=>∃ s t,ds=[rw s,rw t]/\Gs s/\Gs t/\s.length=t.length/\1<=s.length/\s.length<=24/\∀ (b:Bool) M',(b=true ↔ Leads s t)->MExt M M'->Q (.bl b) M'
noncomputable def C_61:CSs:=%[.asg (.tup %[.name 2,.name 3|0]) (.tup %[.tup %[.int 0,.int 1|0],.tup %[.int 0,.int 1|0]|0]),.set 4 (.lzip %[.call "_law_falling" S_60 %[.var 0|0],.call "_law_falling" S_60 %[.var 1|0]|0]),.fr (.tup %[.name 5,.name 6|0]) (.seq (.var 4)) %[.par 2 3 (.call "_law_more" S_52 %[.var 2,.var 5|0]) (.call "_law_more" S_52 %[.var 3,.var 6|0]),.ife (.call "_law_under" S_54 %[.var 2,.var 3|0]) %[.ret (.bl false)|0] .nil|0],.ret (.cmp .Eq (.var 2) (.var 3))|0]
theorem vc_61:∀ ds M R E,S_61 ds M R E->rSs C_61 (ends R E) (Y1 7 ds) M:=by
 rintro ds M R E ⟨s,t,rfl,G1,G2,hl,s1,s24,q⟩;unfold C_61;sleep 7;simp only[UI]
 (try dsimp only);rw[Yr];simp[0,vAt,vHd,Y7,and_assoc,sizeLine_eq,Yh,Z4,Yl,dFld,ZH,ZI,ZG,AT]
 refine⟨s,rfl,G1.sz,by omega,fun p1 M1 e1 x1 l1=>?_⟩;refine⟨t,rfl,G2.sz,by omega,fun p2 M2 e2 x2 l2=>?_⟩;have ls:=(Yq s).length_eq;have lt:=(Yq t).length_eq;refine⟨_,x2 _ _ l1,_,l2,by simp;omega,?_⟩;intro p3 M3 e3 x3 l3;have xx:MExt M M3:=x1.trans (x2.trans x3);have zs:∀ i,Sz 1910 (tot ((srt s).take i)):=fun i=>G1.tot (fun x hx=>(Yq s).subset (List.mem_of_mem_take hx)) (by rw[List.length_take];omega);have zt:∀ i,Sz 1910 (tot ((srt t).take i)):=fun i=>G2.tot (fun x hx=>(Yq t).subset (List.mem_of_mem_take hx)) (by rw[List.length_take];omega);have tk:∀ (v:List Rat) (i:Nat),i<v.length->tot (v.take (i+1))=tot (v.take i)+ri v i:=fun v i h=>by
  rw[List.take_succ_eq_append_getElem h,Xb];simp[ri,List.getD,h]
 have zl:(zipD ((srt s).map nm) ((srt t).map nm)).length=s.length:=by simp[zipD];omega
 sleep 9;refine⟨_,l3,?_⟩;refine YA (fun i δ M'=>∃ (w5 w6:Option DL.D),M'=M3/\(∀ j,j<i->tot ((srt t).take (j+1))<=tot ((srt s).take (j+1)))/\δ=[some (rw s),some (rw t),some (nm (tot ((srt s).take i))),some (nm (tot ((srt t).take i))),some (.lst p3),w5,w6]) (fun _ _ _ ⟨_,_,h,_⟩=>by subst h;exact l3) ?_ ?_ ⟨_,_,rfl,nofun,rfl⟩
 ·rintro δ M' ⟨w5,w6,rfl,A,rfl⟩
  rw[zl] at A ⊢;sleep 7;refine JE false ?_;refine q _ M' ?_ xx;rw[if_neg %[|4],decide_eq_true_iff];have f1:=Xm (s:=s) (i:=s.length-1) %[|5];have f2:=Xm (s:=t) (i:=s.length-1) %[|5];rw[show s.length-1+1=s.length by omega] at f1 f2;constructor
  ·intro h
   refine⟨fun i hi=>?_,by rw[f1,f2];exact h⟩;rw[Xm %[|5],Xm hi];exact A i hi
  ·intro h
   have:=h.fin;rw[f1,f2] at this;exact this
 ·rintro i y hy N hN δ M' ⟨w5,w6,rfl,A,rfl⟩
  have hi:i<s.length:=by
   have:=(List.getElem?_eq_some_iff.mp hy).1;rw[zl] at this;exact this
  obtain rfl:y=.tup [nm (ri (srt s) i),nm (ri (srt t) i)]:=by
   have h1:i<(srt s).length:=by omega
   have h2:i<(srt t).length:=by omega
   simp[zipD,List.getElem?_zipWith,h1,h2] at hy;rw[<- hy];simp[ri,List.getD,h1,h2]
  have r1:=G1.sz _ ((Yq s).subset (Yy (r:=srt s) (i:=i) %[|5]));have r2:=G2.sz _ ((Yq t).subset (Yy (r:=srt t) (i:=i) %[|5]));sleep 8;sleep 7;refine⟨_,_,rfl,.mk (zs i) r1 %[|4],?_⟩;refine⟨_,_,rfl,.mk (zt i) r2 %[|4],?_⟩;rw[<- tk _ _ %[|5],<- tk _ _ %[|5]];sleep 7;refine⟨_,_,rfl,.mk (zs (i+1)) (zt (i+1)) %[|4],?_⟩;by_cases hc:tot ((srt s).take (i+1))<tot ((srt t).take (i+1))
  ·simp[hc]
   sleep 7;refine q false M' ?_ xx;refine⟨nofun,fun h=>?_⟩;have:=h.dom i hi;rw[Xm %[|5],Xm hi] at this;grind
  ·simp[hc]
   refine hN _ _ ⟨_,_,rfl,fun j hj=>?_,rfl⟩;rcases (by omega:j<i\/j=i) with h|rfl
   ·exact A j h
   ·grind
noncomputable def apart (s t:List Rat):List Rat:=List.zipWith (fun x y=>y-x) s t
theorem X7 {s t:List Rat} (h:s.length=t.length):(apart s t).length=s.length:=by unfold apart;simp;omega
theorem Eo {s t:List Rat} {i:Nat} (h1:i<s.length) (h2:i<t.length):ri (apart s t) i=ri t i-ri s i:=by
 simp[apart,ri,List.getD,List.getElem?_zipWith,h1,h2]
theorem WC {s t:List Rat} (h:s.length=t.length):∀ k,k<=s.length->Ya (apart s t) k=Ya t k-Ya s k
 | 0,_=>by rw[YR,YR,YR];grind
 | k+1,hk=>by
  rw[ZK (by rw[X7 h];omega),ZK %[|5],ZK %[|5],WC h k %[|5],Eo %[|5] %[|5]];grind
theorem Wi {s t:List Rat} {L B C:Nat} (l0:0<L) (hs:∀ x∈s,Gr L B x) (ht:∀ x∈t,Gr L C x):∀ x∈apart s t,Gr L (C+B) x:=fun x hx=>by
 unfold apart at hx;obtain⟨i,hi,rfl⟩:=List.getElem_of_mem hx;rw[List.length_zipWith] at hi;rw[List.getElem_zipWith];exact (ht _ (List.getElem_mem _)).sub l0 (hs _ (List.getElem_mem _))
theorem TautOf.apart {s t x y:List Rat} {b a:Rat} (h:s.length=t.length) (h1:1<=s.length) (X:TautOf s b a x) (Y:TautOf t b a y):Leads (K.apart s t) (K.apart x y):=by
 have xl:=X.len;have yl:=Y.len;have l1:=X7 h;have l2:=X7 (s:=x) (t:=y) %[|5];have E:=WC h;have D:=WC (s:=x) (t:=y) %[|5];have fx:=X.fin;have fy:=Y.fin;have key:∀ k,0<k->k<s.length->Ya (K.apart x y) k-Ya (K.apart x y) (k-1)=ri y (k-1)-ri x (k-1)/\Ya (K.apart x y) (k+1)-Ya (K.apart x y) k=ri y k-ri x k:=fun k k0 kn=>by
  have e1:=ZK (s:=x) (k:=k) %[|5];have e2:=ZK (s:=x) (k:=k-1) %[|5];have e3:=ZK (s:=y) (k:=k) %[|5];have e4:=ZK (s:=y) (k:=k-1) %[|5];rw[show k-1+1=k by omega] at e2 e4;rw[D k %[|5],D (k-1) %[|5],D (k+1) %[|5]];constructor<;>grind
 have V:Rival (fun k=>if Ya (K.apart x y) k<=Ya (K.apart s t) k then Ya (K.apart x y) k else Ya (K.apart s t) k) (fun k=>if Ya (K.apart x y) k<=Ya (K.apart s t) k then Ya (K.apart s t) k else Ya (K.apart x y) k) (Y6 0 (K.apart x y)) (Y6 0 (K.apart s t)):=by
  have ln:(Y6 0 (K.apart x y)).length=s.length+1:=by rw[Zj];omega
  refine⟨⟨fun k _=>?_,fun k _=>?_,fun k k0 kn c=>?_,fun k k0 kn c=>?_⟩,by rw[Zj,Zj];omega,by omega,fun k _=>?_,fun k _=>?_,by rw[YI,YI,YR,YR],?_⟩
  ·rw[YI];split<;>grind
  ·rw[YI];split<;>grind
  ·rw[YI,YI,YI] at c
   rw[YI];have kn':k<s.length:=by omega
   obtain⟨k1,k2⟩:=key k k0 kn';rw[k1,k2] at c;have xh:=X.high k k0 kn';have xd:=X.low k k0 kn';have yh:=Y.high k k0 %[|5];have yd:=Y.low k k0 %[|5];have dk:=D k %[|5];have ek:=E k %[|5];split
   ·by_cases c1:ri y (k-1)<ri y k
    ·have:=Y.up k k0 %[|5] c1;grind
    ·have:=X.down k k0 kn' (by grind);grind
   ·rfl
  ·rw[YI,YI,YI] at c
   rw[YI];have kn':k<s.length:=by omega
   obtain⟨k1,k2⟩:=key k k0 kn';rw[k1,k2] at c;have xh:=X.high k k0 kn';have xd:=X.low k k0 kn';have yh:=Y.high k k0 %[|5];have yd:=Y.low k k0 %[|5];have dk:=D k %[|5];have ek:=E k %[|5];split
   ·rfl
   ·by_cases c1:ri y k<ri y (k-1)
    ·have:=Y.down k k0 %[|5] c1;grind
    ·have:=X.up k k0 kn' (by grind);grind
  ·rw[YI];split<;>grind
  ·rw[YI];split<;>grind
  ·rw[ln,Nat.add_sub_cancel,YI,YI,E _ %[|3],D _ %[|5]]
   rw[<- h] at fy;grind
 have:=V.leads (by rw[Zj];omega)
 rwa [XI,XI] at this
theorem VM {P:Nat->Prop}:∀ h,P h->∃ a,a<=h/\(∀ i,a<=i->i<=h->P i)/\(a=0\/¬ P (a-1))
 | 0,p=>⟨0,Nat.le_refl _,fun i _ h=>by rwa [show i=0 by omega],.inl rfl⟩
 | h+1,p=>by
  by_cases c:P h
  ·obtain⟨a,h1,h2,h3⟩:=VM h c
   refine⟨a,by omega,fun i q r=>?_,h3⟩;rcases (by omega:i=h+1\/i<=h) with rfl|z
   ·exact p
   ·exact h2 i q z
  ·exact⟨h+1,Nat.le_refl _,fun i q r=>by rwa [show i=h+1 by omega],.inr (by rwa [Nat.add_sub_cancel])⟩
theorem Ww {P:Nat->Prop} {n:Nat}:∀ d h,n-h=d->h<n->P h->∃ b,h<b/\b<=n/\(∀ i,h<=i->i<b->P i)/\(b=n\/¬ P b)
 | 0,h,e,hn,_=>by omega
 | d+1,h,e,hn,p=>by
  by_cases hl:h+1=n
  ·exact⟨h+1,by omega,by omega,fun i q r=>by rwa [show i=h by omega],.inl hl⟩
  ·by_cases c:P (h+1)
   ·obtain⟨b,h1,h2,h3,h4⟩:=Ww (n:=n) d (h+1) %[|5] %[|5] c
    refine⟨b,by omega,h2,fun i q r=>?_,h4⟩;rcases (by omega:i=h\/h+1<=i) with rfl|z
    ·exact p
    ·exact h3 i z r
   ·exact⟨h+1,by omega,by omega,fun i q r=>by rwa [show i=h by omega],.inr c⟩
theorem W0 {u:Nat->Rat} {a:Nat}:∀ b,a<b->(∀ i,a<=i->i<b->u i<u (i+1))->u a<u b
 | 0,h,_=>by omega
 | b+1,h,p=>by
  have:=p b %[|5] %[|5];rcases (by omega:a=b\/a<b) with rfl|z
  ·exact this
  ·have:=W0 b z fun i q r=>p i q %[|5]
   grind
theorem Be {lo hi u:Nat->Rat} {n:Nat} (T:Taut lo hi u n) (z:u 0=lo 0) (e:u n=hi n) (L:∀ i j,i<=j->lo i<=lo j):∀ k,k<n->u k<=u (k+1):=fun k hk=>by
 refine Rat.not_lt.mp fun hc=>?_;obtain⟨a,a1,a2,a3⟩:=VM (P:=fun i=>u (i+1)<u i) k hc;obtain⟨b,b1,b2,b3,b4⟩:=Ww (P:=fun i=>u (i+1)<u i) (n-k) k rfl hk hc;have run:∀ i,a<=i->i<b->u (i+1)<u i:=fun i q r=>by
  rcases (by omega:i<=k\/k<=i) with w|w
  ·exact a2 i q w
  ·exact b3 i w r
 have up:=W0 (u:=fun i=>-u i) (a:=a) b %[|5] fun i q r=>by have:=run i q r;grind
 have ua:u a=lo a:=by
  rcases a3 with rfl|q
  ·exact z
  ·by_cases a0:a=0
   ·rw[a0];exact z
   ·have r:=run a %[|3] %[|5]
    refine T.down a %[|5] %[|5] ?_;rw[show a-1+1=a by omega] at q;grind
 have ub:u b=hi b:=by
  rcases b4 with rfl|q
  ·exact e
  ·by_cases bn:b=n
   ·rw[bn];exact e
   ·have r:=run (b-1) %[|5] %[|5]
    refine T.up b %[|5] %[|5] ?_;rw[show b-1+1=b by omega] at r;grind
 have:=L a b %[|5];have:=T.low b b2;have:=T.high b b2;grind
theorem Bf {lo hi u lo' hi' u':Nat->Rat} {n:Nat} (T:Taut lo hi u n) (T':Taut lo' hi' u' n) (z:u 0=hi 0) (e:u n=lo n)
  (s0:∀ k,k<n->u' k<=u' (k+1)) (L:∀ i j,i<=j->lo' i-lo i<=lo' j-lo j) (A:∀ i j,i<=j->hi' i-hi i<=hi' j-hi j)
  (LA:∀ i j,i<=j->lo' i-lo i<=hi' j-hi j) (AL:∀ i j,hi i<lo j->hi' i-hi i<=lo' j-lo j):∀ k,k<n->u (k+1)-u k<=u' (k+1)-u' k:=fun k hk=>by
 refine Rat.not_lt.mp fun hc=>?_;generalize hl:u (k+1)-u k=l at hc;obtain⟨a,a1,a2,a3⟩:=VM (P:=fun i=>u' (i+1)-u' i<l/\l<=u (i+1)-u i) k ⟨hc,by rw[hl];exact Rat.le_refl⟩;obtain⟨b,b1,b2,b3,b4⟩:=Ww (P:=fun i=>u' (i+1)-u' i<l/\l<=u (i+1)-u i) (n-k) k rfl hk ⟨hc,by rw[hl];exact Rat.le_refl⟩;have run:∀ i,a<=i->i<b->u' (i+1)-u' i<l/\l<=u (i+1)-u i:=fun i q r=>by
  rcases (by omega:i<=k\/k<=i) with w|w
  ·exact a2 i q w
  ·exact b3 i w r
 have l0:0<l:=by have:=s0 k hk;grind
 have up:=W0 (u:=fun i=>u i-u' i) (a:=a) b %[|5] fun i q r=>by obtain⟨_,_⟩:=run i q r;grind
 have ua:=W0 (u:=u) (a:=a) b %[|5] fun i q r=>by obtain⟨_,_⟩:=run i q r;grind
 have ea:u a=hi a\/u' a=lo' a:=by
  by_cases a0:a=0
  ·rw[a0];exact .inl z
  ·have q:=a3.resolve_left a0
   obtain⟨r1,r2⟩:=run a %[|3] %[|5];rw[show a-1+1=a by omega] at q;by_cases c:l<=u a-u (a-1)
   ·have q':¬ (u' a-u' (a-1)<l):=fun w=>q ⟨w,c⟩
    exact .inr (T'.down a %[|5] %[|5] (by grind))
   ·exact .inl (T.up a %[|5] %[|5] (by grind))
 have eb:u b=lo b\/u' b=hi' b:=by
  by_cases bn:b=n
  ·rw[bn];exact .inl e
  ·have q:=b4.resolve_left bn
   obtain⟨r1,r2⟩:=run (b-1) %[|5] %[|5];rw[show b-1+1=b by omega] at r1 r2;by_cases c:l<=u (b+1)-u b
   ·have q':¬ (u' (b+1)-u' b<l):=fun w=>q ⟨w,c⟩
    exact .inr (T'.up b %[|5] %[|5] (by grind))
   ·exact .inl (T.down b %[|5] %[|5] (by grind))
 have x1:=T.low a %[|5];have x2:=T.high b %[|5];have y1:=T'.low b %[|5];have y2:=T'.high a %[|5];have h1:=L a b %[|5];have h2:=A a b %[|5];have h3:=LA a b %[|5];rcases ea with ea|ea<;>rcases eb with eb|eb
 ·have:=AL a b (by grind);grind
 ·grind
 ·grind
 ·grind
noncomputable def jOf (us:List (Jb×Rat)):List Jb:=us.map (·.1)
noncomputable def jTo (us:List (Jb×Rat)):List Jb:=us.map fun u=>⟨u.1.a,u.1.d,u.2⟩
theorem JD {p q:Nat->Nat->Bool}:∀ {us:List (Jb×Rat)},(∀ u∈us,u.1.w<=u.2)->(∀ u∈us,p u.1.a u.1.d=true->q u.1.a u.1.d=true) ->
  sw (fun j=>p j.a j.d) (jTo us)-sw (fun j=>p j.a j.d) (jOf us)<=sw (fun j=>q j.a j.d) (jTo us)-sw (fun j=>q j.a j.d) (jOf us)
 | [],_,_=>Rat.le_refl
 | u::us,h,g=>by
  have ih:=JD (p:=p) (q:=q) (us:=us) (fun v hv=>h v (List.mem_cons_of_mem _ hv)) fun v hv=>g v (List.mem_cons_of_mem _ hv);have w:=h u List.mem_cons_self;have gu:=g u List.mem_cons_self;have e1:jTo (u::us)=⟨u.1.a,u.1.d,u.2⟩::jTo us:=rfl;have e2:jOf (u::us)=u.1::jOf us:=rfl;rw[e1,e2,WX,WX,WX,WX];dsimp only;cases hp:p u.1.a u.1.d with
  | true=>rw [gu hp];simp;grind
  | false=>cases q u.1.a u.1.d<;>simp<;>grind
theorem Jobs.order {k:Nat} {js:List Jb} (J:Jobs k js) {x y:Jb} (hx:x∈js) (hy:y∈js) (h:x.d<y.d):x.a<=y.a:=by
 obtain⟨i,hi,rfl⟩:=List.getElem_of_mem hx;obtain⟨j,hj,rfl⟩:=List.getElem_of_mem hy;rcases (by omega:i<j\/i=j\/j<i) with c|rfl|c
 ·exact (List.pairwise_iff_getElem.mp J.mon i j hi hj c).1
 ·omega
 ·have:=(List.pairwise_iff_getElem.mp J.mon j i hj hi c).2;omega
theorem FS {k:Nat} {js:List Jb} (J:Jobs k js) {P R:Jb->Bool} (h:∀ j∈js,P j=true->R j=true):sw P js<=sw R js:=ZR (fun j hj=>(J.job j hj).w0) h
theorem Jobs.ends {k:Nat} {js:List Jb} (J:Jobs k js):lowF js 0=0/\Jv js 0=0/\lowF js (YO js)=allW js/\Jv js (YO js)=allW js:=by
 obtain⟨l,_,hm,el,hd⟩:=J.last;refine⟨UC fun j hj=>?_,UC fun j hj=>by simp,JZ fun j hj=>?_,JZ fun j hj=>?_⟩
 ·have:=(J.job j hj).ad
  simp;omega
 ·have:=hd j hj
  simp;omega
 ·have:=hd j hj
  have:=(J.job j hj).ad;simp;omega
theorem Jobs.rise {k:Nat} {js:List Jb} {r:List Rat} (J:Jobs k js) (T:Told (jobT js) 500 r):∀ i,i<YO js->ri r i<=ri r (i+1):=by
 obtain⟨X,xl,x0,xn⟩:=Wm J T;obtain⟨e1,e2,e3,e4⟩:=J.ends;exact Be X (by rw[x0,e1]) (by rw[xn,e4]) fun i j h=>FS J fun u _ hu=>by
  simp at hu ⊢;omega
theorem Dl (us:List (Jb×Rat)):YO (jTo us)=YO (jOf us):=by
 unfold YO jTo jOf;rw[List.getLast?_map,List.getLast?_map];cases us.getLast?<;>rfl
theorem Jc {k k':Nat} {us:List (Jb×Rat)} {r r':List Rat} (J:Jobs k (jOf us)) (J':Jobs k' (jTo us)) (h:∀ u∈us,u.1.w<=u.2) (T:Told (jobT (jOf us)) 500 r) (T':Told (jobT (jTo us)) 500 r'):r'.length=r.length/\∀ i,i<(Y0 r).length->ri (Y0 r) i<=ri (Y0 r') i:=by
 obtain⟨X,xl,x0,xn⟩:=Wm J T;obtain⟨Y,yl,y0,yn⟩:=Wm J' T';obtain⟨e1,e2,e3,e4⟩:=J.ends;obtain⟨d1,d2,d3,d4⟩:=J'.ends;have ld:=Dl us;have rs:=J'.rise T';rw[ld] at Y yl yn d3 d4 rs;have sl:=Yz r;refine⟨by omega,fun i hi=>?_⟩;rw[Zw %[|5],Zw %[|5]];have ad:∀ u∈us,u.1.a<u.1.d:=fun u hu=>(J.job u.1 (List.mem_map_of_mem hu)).ad;refine Bf X Y (by rw[x0,e2]) (by rw[xn,e3]) rs (fun i j hij=>?_) (fun i j hij=>?_) (fun i j hij=>?_) (fun i j hij=>?_) i %[|5]
 ·exact JD (p:=fun _ d=>decide (d<=i)) (q:=fun _ d=>decide (d<=j)) h fun u _ hu=>by simp at hu ⊢;omega
 ·exact JD (p:=fun a _=>decide (a<i)) (q:=fun a _=>decide (a<j)) h fun u _ hu=>by simp at hu ⊢;omega
 ·exact JD (p:=fun _ d=>decide (d<=i)) (q:=fun a _=>decide (a<j)) h fun u hu' hu=>by
   have:=ad u hu';simp at hu ⊢;omega
 ·refine JD (p:=fun a _=>decide (a<i)) (q:=fun _ d=>decide (d<=j)) h fun u hu' hu=>?_
  simp at hu ⊢;refine Nat.not_lt.mp fun c=>?_;have:lowF (jOf us) j<=Jv (jOf us) i:=FS J fun v hv hd=>by
   have:=J.order hv (List.mem_map_of_mem hu') (show v.d<u.1.d by simp at hd;omega);simp;omega
  grind
theorem VY (r:List Rat):∀ n,n<r.length->tot ((Y0 r).take n)=ri r n-ri r 0
 | 0,_=>by show (0:Rat)=_;grind
 | n+1,h=>by
  have hl:n<(Y0 r).length:=by rw[Yz];omega
  have e:(Y0 r)[n]=ri (Y0 r) n:=by simp[ri,List.getD,hl]
  rw[List.take_succ_eq_append_getElem hl,Xb,VY r n %[|5],e,Zw %[|5]];grind
theorem Jobs.tot {k:Nat} {js:List Jb} {r:List Rat} (J:Jobs k js) (T:Told (jobT js) 500 r):Q.tot (Y0 r)=allW js:=by
 obtain⟨_,xl,x0,xn⟩:=Wm J T;have:=VY r (YO js) %[|5];rw[List.take_of_length_le (by rw[Yz];omega)] at this;rw[this,xn,x0];grind
theorem Ur:∀ {z x y:List Rat},x.length=z.length->y.length=z.length->(∀ i,i<z.length->ri x i<=ri z i/\ri y i<=ri z i)->tot ((apart x y).map mag)<=(tot z-tot x)+(tot z-tot y)
 | [],x,y,h1,h2,_=>by
  rw[List.length_eq_zero_iff.mp h1,List.length_eq_zero_iff.mp h2];show (0:Rat)<=0-0+(0-0);grind
 | z::zs,x,y,h1,h2,h=>by
  obtain⟨x,xs,rfl⟩:=List.exists_cons_of_length_eq_add_one (by simpa using h1);obtain⟨y,ys,rfl⟩:=List.exists_cons_of_length_eq_add_one (by simpa using h2);have ih:=Ur (z:=zs) (x:=xs) (y:=ys) (by simpa using h1) (by simpa using h2) fun i hi=>h (i+1) (by simpa using hi);have h0:x<=z/\y<=z:=h 0 (by simp);have e:apart (x::xs) (y::ys)=(y-x)::apart xs ys:=rfl;rw[e,List.map_cons,Y3,Y3,Y3,Y3];have:mag (y-x)<=(z-x)+(z-y):=by unfold mag;split<;>grind
  grind
noncomputable def mx (w v:Rat):Rat:=if w<v then v else w
theorem VT:∀ us:List (Jb×Rat),tot ((apart (us.map (·.1.w)) (us.map (·.2))).map mag)=(tot (us.map fun u=>mx u.1.w u.2)-tot (us.map (·.1.w)))+(tot (us.map fun u=>mx u.1.w u.2)-tot (us.map (·.2)))
 | []=>by show (0:Rat)=0-0+(0-0);grind
 | u::us=>by
  have ih:=VT us;have e:apart ((u::us).map (·.1.w)) ((u::us).map (·.2))=(u.2-u.1.w)::apart (us.map (·.1.w)) (us.map (·.2)):=rfl;rw[e,List.map_cons,List.map_cons,List.map_cons,List.map_cons,Y3,Y3,Y3,Y3,ih];have:mag (u.2-u.1.w)=(mx u.1.w u.2-u.1.w)+(mx u.1.w u.2-u.2):=by
   unfold mag mx;split<;>split<;>grind
  grind
theorem CY (p:Rat):D.tup [D.int (if p.num<0 then -p.num else p.num),D.int p.den]=nm (mag p):=by
 unfold nm mag;by_cases h:p<0
 ·have h':p.num<0:=by have:=(Rat.lt_iff p 0).mp h;simpa using this
  rw[if_pos h,if_pos h'];simp
 ·have h':¬ p.num<0:=fun z=>h ((Rat.lt_iff p 0).mpr (by simpa using z))
  rw[if_neg h,if_neg h']
theorem Ak {L B:Nat} {x:Rat} (h:Gr L B x):Gr L B (mag x):=by
 unfold mag;split
 ·exact h.neg
 ·exact h
noncomputable def S_56:DSp:=fun ds M Q E=>∃ a,ds=[.lst a]/\Pk M a/\∀ q M',Gr 60 7200 q->0<=q->Dr a M M'->Q (nm q) M'
noncomputable def C_56:CSs:=%[.ret (.call "_law_low" S_51 %[.bin .Mult (.ix (.lst %[.int 0,.int 1,.int 2,.int 5,.int 9,.int 40|0]) (.call "_law_take" S_50 %[.var 0,.int 6|0])) (.bin .Add (.int 1) (.call "_law_take" S_50 %[.var 0,.int 3|0])),.bin .Add (.int 1) (.call "_law_take" S_50 %[.var 0,.int 3|0])|0])|0]
theorem vc_56:∀ ds M R E,S_56 ds M R E->rSs C_56 (ends R E) (Y1 1 ds) M:=by
 rintro ds M R E ⟨a,rfl,p,q⟩;unfold C_56;sleep 7;intro p0 M0 e0 x0 l0;refine YC (p.ext x0) %[|4] %[|4] fun r M1 r0 r1 y1=>?_;obtain⟨z,hz,hv⟩:=As (xs:=[D.int 0,D.int 1,D.int 2,D.int 5,D.int 9,D.int 40]) r0 (by simpa using r1);refine Ys (y1.keep _ _ (p.ne e0) l0) hv ?_;obtain⟨t,rfl,t0,t1⟩:∃ b:Int,z=.int b/\0<=b/\b<=40:=by
  simp at hz;rcases hz with rfl|rfl|rfl|rfl|rfl|rfl<;>exact⟨_,rfl,by decide,by decide⟩
 refine YC y1.pk %[|4] %[|4] fun u M2 u0 u1 y2=>?_;rw[Wt,Hq];refine⟨Xh (m:=64) (n:=64) %[|5] %[|5] %[|4],?_⟩;refine YC y2.pk %[|4] %[|4] fun v M3 v0 v1 y3=>?_;rw[Wt];have vd:(1+v).toNat ∣ 60:=by rcases (by omega:v=0\/v=1\/v=2) with rfl|rfl|rfl<;>decide
 have tu:0<=t*(1+u)/\t*(1+u)<=120:=by
  rcases (by omega:u=0\/u=1\/u=2) with rfl|rfl|rfl<;>omega
 exact⟨_,_,rfl,by omega,Ws (Nat.lt_of_lt_of_le (show (1+v).natAbs<2 ^ 4 by omega) (Yf %[|4])),q _ M3 (Wv %[|5] vd %[|4] %[|5]) (divInt_nonneg tu.1 %[|5]) ((Dr.ext p x0).trans (y1.trans (y2.trans y3)))⟩
noncomputable def S_57:DSp:=fun ds M Q E=>∃ (a:Addr) (n:Nat) (b:Bool),ds=[.lst a,.int (n:Int),.bl b]/\Pk M a/\n<=24/\∀ r M',r.length=n->(∀ x∈r,Gr 60 6000 x)->(b=true->Needs r)->Dr a M M'->Q (rw r) M'
noncomputable def C_57:CSs:=%[.set 3 (.lst .nil),.fr (.name 4) (.rng %[.var 1|0]) %[.set 5 (.call "_law_number" S_55 %[.var 0,.int 9|0]),.ife (.var 2) %[.set 5 (.tup %[.bi .abs %[.ix (.var 5) (.int 0)|0],.ix (.var 5) (.int 1)|0])|0] .nil,.ife (.and (.cmp .NotEq (.var 3) (.lst .nil)) (.one (.cmp .Eq (.call "_law_take" S_50 %[.var 0,.int 4|0]) (.int 0)))) %[.set 5 (.ix (.var 3) (.neg (.int 1)))|0] .nil,.expr (.app 3 (.var 5))|0],.ret (.bi .tuple %[.var 3|0])|0]
theorem vc_57:∀ ds M R E,S_57 ds M R E->rSs C_57 (ends R E) (Y1 6 ds) M:=by
 rintro ds M R E ⟨a,n,b,rfl,pk,n24,q⟩;unfold C_57;sleep 7;intro p0 M0 e0 x0 l0;have hpa:=pk.ne e0;sleep 9;refine⟨by omega,?_⟩;refine YA (fun i δ M'=>∃ (r:List Rat) (w4 w5:Option DL.D),Dr a M M'/\M' p0=some (.ls (r.map nm))/\r.length=i/\(∀ x∈r,Gr 60 6000 x)/\(b=true->Needs r)/\δ=[some (.lst a),some (.int (n:Int)),some (.bl b),some (.lst p0),w4,w5]) (fun _ _ _ _=>trivial) ?_ ?_ ⟨[],_,_,Dr.ext pk x0,l0,rfl,nofun,fun _=>nofun,rfl⟩
 ·rintro δ M' ⟨r,w4,w5,d,l,hl,gs,hn,rfl⟩
  rw[Zx] at hl;sleep 7;exact⟨_,l,q r M' %[|5] gs hn d⟩
 ·rintro i y hy N hN δ M' ⟨r,w4,w5,d,l,hl,gs,hn,rfl⟩
  obtain⟨rfl,hi'⟩:=Xx hy;sleep 8;sleep 7;refine⟨a,9,rfl,d.pk,by decide,by decide,fun u M1 gu y1=>?_⟩;have d1:=d.trans y1;have l1:=y1.keep _ _ hpa l;refine XL fun J hJ=>?_;have t1:∀ v,Gr 60 6000 v->(b=true->0<=v)->J [some (.lst a),some (.int (n:Int)),some (.bl b),some (.lst p0),some (.int (i:Int)),some (nm v)] M1:=by
   intro v gv v0;refine hJ _ _ ?_;refine XL fun J hJ=>?_;have t2:∀ v M',Gr 60 6000 v->(b=true->0<=v)->Dr a M M'->M' p0=some (.ls (r.map nm))->J [some (.lst a),some (.int (n:Int)),some (.bl b),some (.lst p0),some (.int (i:Int)),some (nm v)] M':=by
    intro v M2 gv v0 d2 l2;refine hJ _ _ ?_;sleep 7;refine⟨⟨_,l2⟩,_,l2,by rw[List.length_map];omega,?_⟩;exact hN _ _ ⟨r++[v],_,_,d2.upd_new e0 hpa,by rw[mupd_same,List.map_append];rfl,by simp[hl],Dd gs gv,fun h=>Hm (hn h) (v0 h),rfl⟩
   sleep 8;intro p6 M6 e6 x6 l6;refine Ho (x6 _ _ l1) l6 ?_;have d6:=d1.trans (Dr.ext y1.pk x6);by_cases hr:r=[]
   ·subst hr
    simp;exact t2 v M6 gv v0 d6 (x6 _ _ l1)
   ·have hl1:1<=r.length:=List.length_pos_iff.mpr hr
    simp[hr];refine YC (d1.pk.ext x6) %[|4] %[|4] fun c M7 c0 c1 y7=>?_;refine YN false ?_;have l7:=y7.keep _ _ hpa (x6 _ _ l1);by_cases hu:c=0
    ·simp[hu]
     sleep 7;refine Ys l7 (XY hl1) ?_;exact t2 _ M7 (gs _ (Yy %[|5])) (fun h=>hn h _ (Yy %[|5])) (d6.trans y7) l7
    ·simp[hu]
     exact t2 v M7 gv v0 (d6.trans y7) l7
  sleep 8;cases b with
  | false=>simp;exact t1 u gu nofun
  | true =>
   simp;sleep 7;rw[CY];exact t1 (mag u) (Ak gu) fun _=>(Hn u).2.2
noncomputable def S_58:DSp:=fun ds M Q E=>∃ (a:Addr) (b:Bool),ds=[.lst a,.bl b]/\Pk M a/\∀ s t M',s.length=t.length->1<=s.length->s.length<=24->(∀ x∈s,Gr 60 14000 x)->(∀ x∈t,Gr 60 14000 x)->(b=true->Needs s/\Needs t)->Dr a M M'->Q (.tup [rw s,rw t]) M'
noncomputable def C_58:CSs:=%[.set 2 (.call "_law_take" S_50 %[.var 0,.int 4|0]),.set 3 (.bin .Add (.int 1) (.call "_law_take" S_50 %[.var 0,.int 9|0])),.ife (.cmp .Eq (.call "_law_take" S_50 %[.var 0,.int 8|0]) (.int 0)) %[.set 3 (.int 24)|0] .nil,.set 4 (.call "_law_amount" S_56 %[.var 0|0]),.set 5 (.call "_law_take" S_50 %[.var 0,.var 3|0]),.set 6 (.call "_law_some" S_57 %[.var 0,.var 3,.var 1|0]),.set 7 (.comp ["_law_pack_here","_law_nought","_law_pick","_law_size","_law_more_here","_law_at","_law_one","_law_other","_law_k"] 1 (.name 8) (.rng %[.var 3|0]) (.call "_law_more" S_52 %[.ix (.var 6) (.var 8),.ix (.lst %[.tup %[.int 0,.int 1|0],.var 4|0]) (.bi .int %[.or (.cmp .Eq (.var 8) (.var 5)) (.one (.cmp .Eq (.var 2) (.int 1)))|0])|0])),.ife (.cmp .Gt (.var 2) (.int 1)) %[.set 7 (.bi .list %[.call "_law_some" S_57 %[.var 0,.var 3,.var 1|0]|0])|0] .nil,.ret (.tup %[.var 6,.bi .tuple %[.var 7|0]|0])|0]
theorem vc_58:∀ ds M R E,S_58 ds M R E->rSs C_58 (ends R E) (Y1 8 ds) M:=by
 rintro ds M R E ⟨a,b,rfl,pk,q⟩;unfold C_58;sleep 7;refine YC pk %[|4] %[|4] fun c M1 c0 c1 y1=>?_;sleep 7;refine YC y1.pk %[|4] %[|4] fun n M2 n0 n1 y2=>?_;rw[Wt];have d2:=y1.trans y2;refine XL fun J hJ=>?_;have t1:∀ (n:Nat) M',1<=n->n<=24->Dr a M M'->J [some (.lst a),some (.bl b),some (.int c),some (.int (n:Int)),none,none,none,none] M':=by
  intro n M3 n1 n24 d3;refine hJ _ _ ?_;sleep 7;refine⟨a,rfl,d3.pk,fun m M4 gm m0 y4=>?_⟩;sleep 7;refine YC y4.pk %[|5] (Nat.lt_of_lt_of_le (show (n:Int).natAbs<2 ^ 6 by omega) (Yf %[|4])) fun k M5 k0 k1 y5=>?_;sleep 7;refine⟨a,n,b,rfl,y5.pk,n24,fun s M6 sl gs hn y6=>?_⟩;have d6:=d3.trans (y4.trans (y5.trans y6));have up:∀ {r:List Rat},(∀ x∈r,Gr 60 6000 x)->∀ x∈r,Gr 60 14000 x:=fun h x hx=>(h x hx).mono %[|4];sleep 7;refine YB (List.range n) (fun i=>.int (i:Int)) (fun i=>nm (ri s i+if ((i:Int)=k\/c=1) then m else 0)) ?_ (by simp;omega) ?_ ?_
  ·intro R' r'
   simp[0,vAt,vHd,Y7,and_assoc,sizeLine_eq,Yh,Z4,Yl,dFld,ZH,ZI,ZG,YM];have e:rngD 0 1 n=(List.range n).map fun i=>.int (i:Int):=by
    unfold rngD;simp
   rw[e];exact⟨by omega,r' _ fun _ _=>trivial⟩
  ·intro i hi l M' R' hl' x r'
   obtain⟨u,rfl⟩:=len1 hl';have hi':=List.mem_range.mp hi;sleep 8;refine XZ %[|5] ?_;intro p8 M8 e8 x8 l8;have si:Sz 30 (ri s i):=(gs _ (Yy %[|5])).sz %[|4] %[|4] %[|4];have sm:Sz 30 m:=gm.sz %[|4] %[|4] %[|4];rw[UI] at l8;have z0:Sz 30 (0:Rat):=⟨by decide,by decide⟩;refine YN false ?_;by_cases hk:(i:Int)=k
   ·rw[if_pos (.inl hk)] at r'
    simp[hk];refine Ys l8 (Z9 _ _ _) ⟨_,_,rfl,.mk si sm %[|4],?_⟩;have:=r' [some (.int (i:Int))] M8 rfl x8;rw[hk] at this;exact this
   ·simp[hk]
    refine YN false ?_;by_cases hc:c=1
    ·rw[if_pos (.inr hc)] at r'
     simp[hc];refine Ys l8 (Z9 _ _ _) ⟨_,_,rfl,.mk si sm %[|4],?_⟩;have:=r' [some (.int (i:Int))] M8 rfl x8;rw[hc] at this;exact this
    ·rw[if_neg (by rintro (z|z);exact hk z;exact hc z)] at r'
     simp[hc];refine Ys l8 (YG _ _) ⟨_,_,rfl,.mk si z0 %[|4],?_⟩;exact r' [some (.int (i:Int))] M8 rfl x8
  intro p7 M7 e7 x7 l7;have d7:=d6.trans (Dr.ext y6.pk x7);have key:∀ t M',t.length=n->(∀ x∈t,Gr 60 14000 x)->(b=true->Needs t)->Dr a M M'->R (.tup [rw s,rw t]) M':=fun t M' tl gt ht d=>q s t M' %[|5] %[|5] %[|5] (up gs) gt (fun h=>⟨hn h,ht h⟩) d;refine XL fun J hJ=>?_;have t2:∀ t p M',M' p=some (.ls (t.map nm))->t.length=n->(∀ x∈t,Gr 60 14000 x)->(b=true->Needs t)->Dr a M M'->J [some (.lst a),some (.bl b),some (.int c),some (.int (n:Int)),some (nm m),some (.int k),some (rw s),some (.lst p)] M':=by
   intro t p M8 l8 tl gt ht d8;refine hJ _ _ ?_;sleep 7;exact⟨_,l8,key t M8 tl gt ht d8⟩
  sleep 8;by_cases h1:1<c
  ·simp[h1]
   sleep 7;refine⟨a,n,b,rfl,d7.pk,n24,fun t M8 tl gt ht y8=>?_⟩;simp;intro p9 M9 e9 x9 l9;exact t2 t p9 M9 l9 tl (up gt) ht ((d7.trans y8).trans (Dr.ext y8.pk x9))
  ·simp[h1]
   refine t2 ((List.range n).map fun i=>ri s i+if ((i:Int)=k\/c=1) then m else 0) p7 M7 (by rw[l7,List.map_map];rfl) (by simp) (fun x hx=>?_) (fun hb x hx=>?_) d7
   ·obtain⟨i,hi,rfl⟩:=List.mem_map.mp hx
    have hi':=List.mem_range.mp hi;have g1:=gs _ (Yy (r:=s) (i:=i) %[|5]);split
    ·exact (g1.add %[|4] gm).mono %[|4]
    ·exact (g1.add %[|4] (Gr.zero (B:=0))).mono %[|4]
   ·obtain⟨i,hi,rfl⟩:=List.mem_map.mp hx
    have hi':=List.mem_range.mp hi;have:=hn hb _ (Yy (r:=s) (i:=i) %[|5]);split<;>grind
 sleep 8;refine YC d2.pk %[|4] %[|4] fun k M3 k0 k1 y3=>?_;refine YN false ?_;by_cases hk:k=0
 ·simp[hk]
  sleep 7;exact t1 24 M3 %[|4] %[|4] (d2.trans y3)
 ·simp[hk]
  obtain⟨n',hn'⟩:∃ n':Nat,1+n=(n':Int):=⟨(1+n).toNat,by omega⟩;rw[hn'];exact t1 n' M3 %[|5] %[|5] (d2.trans y3)
noncomputable def Both (M:Mem) (d e:DL.D) (s t:List Rat):Prop:=(d=rw s/\e=rw t)\/∃ p p',d=.lst p/\e=.lst p'/\M p=some (.ls (s.map nm))/\M p'=some (.ls (t.map nm))
theorem BQ (s t:List Rat):((List.zip s t).map fun z=>nm (z.2-z.1))=(apart s t).map nm:=by
 unfold apart;rw[List.zip,List.map_zipWith,List.map_zipWith]
noncomputable def S_59:DSp:=fun ds M Q E=>∃ d e s t,ds=[d,e]/\Both M d e s t/\(∀ x∈s,Sz 900 x)/\(∀ x∈t,Sz 900 x)/\s.length<=100/\∀ M',MExt M M'->Q (rw (apart s t)) M'
noncomputable def C_59:CSs:=%[.ret (.bi .tuple %[.comp ["_law_one","_law_other","_law_some_here","_law_two_here"] 2 (.tup %[.name 2,.name 3|0]) (.zip %[.var 0,.var 1|0]) (.call "_law_less_by" S_53 %[.var 3,.var 2|0])|0])|0]
theorem vc_59:∀ ds M R E,S_59 ds M R E->rSs C_59 (ends R E) (Y1 2 ds) M:=by
 rintro ds M R E ⟨d,e,s,t,rfl,B,ss,st,l100,q⟩;unfold C_59;sleep 7;refine YB (List.zip s t) pl (fun z=>nm (z.2-z.1)) ?_ (by rw[List.length_zip];omega) ?_ ?_
 ·intro R' r'
  simp only[0,vAt,vHd,Y7,and_assoc,sizeLine_eq,Yh,Z4,Yl,dFld,ZH,ZI,ZG,Z4];rcases B with ⟨rfl,rfl⟩|⟨p,p',rfl,rfl,l,l'⟩
  ·rw[IX];exact r' _ fun _ _=>trivial
  ·exact Gb l l' r'
 ·intro z hz l M' R' hl' e r'
  obtain⟨u1,u2,rfl⟩:=len2 hl';obtain⟨x,y⟩:=z;have hx:=ss x (List.of_mem_zip hz).1;have hy:=st y (List.of_mem_zip hz).2;sleep 8;exact⟨_,_,rfl,.mk hy hx %[|4],r' [_,_] M' rfl (.refl _)⟩
 intro p M' e x l;rw[BQ] at l;exact⟨_,l,q M' x⟩
noncomputable def S_64:DSp:=fun ds M Q E=>∃ d s L B,ds=[d]/\Sq M d (s.map nm)/\0<L/\L<2 ^ 900/\100*B<2 ^ 900/\(∀ x∈s,Gr L B x)/\s.length<=100/\Q (nm (tot s)) M
noncomputable def C_64:CSs:=%[.set 1 (.tup %[.int 0,.int 1|0]),.fr (.name 2) (.seq (.var 0)) %[.set 1 (.call "_law_more" S_52 %[.var 1,.var 2|0])|0],.ret (.var 1)|0]
theorem vc_64:∀ ds M R E,S_64 ds M R E->rSs C_64 (ends R E) (Y1 3 ds) M:=by
 rintro ds M R E ⟨d,s,L,B,rfl,S,l0,hL,hB,gs,l100,q⟩;unfold C_64;sleep 7;rw[UI];sleep 9;refine Sq.it S fun keep hk=>?_;refine YA (fun i δ M'=>∃ w2,M'=M/\δ=[some d,some (nm (tot (s.take i))),w2]) (fun _ _ _ ⟨_,h,_⟩=>hk _ (by rw[h];exact .refl _)) ?_ ?_ ⟨_,rfl,rfl⟩
 ·rintro δ M' ⟨w2,rfl,rfl⟩
  rw[List.length_map,List.take_length];sleep 7;exact q
 ·rintro i y hy N hN δ M' ⟨w2,rfl,rfl⟩
  obtain⟨hi,rfl⟩:∃ hi:i<s.length,y=nm s[i]:=by
   obtain⟨h,e⟩:=List.getElem?_eq_some_iff.mp hy;have h':i<s.length:=by simpa using h
   exact⟨h',by rw[<- e];simp⟩
  have g:=gs _ (List.getElem_mem hi);have tk:tot (s.take (i+1))=tot (s.take i)+s[i]:=by rw[List.take_succ_eq_append_getElem hi,Xb]
  have gt:Gr L (100*B) (tot (s.take i)):=(Gr.tot l0 fun x hx=>gs x (List.mem_of_mem_take hx)).mono (Nat.mul_le_mul_right _ (by rw[List.length_take];omega));generalize s[i]=z at g tk;sleep 8;sleep 7;refine⟨_,_,rfl,.mk (gt.sz l0 hL hB) (g.sz l0 hL %[|5]) %[|4],?_⟩;exact hN _ _ ⟨_,rfl,by rw[tk]⟩
noncomputable def S_65:DSp:=fun ds M Q E=>∃ d e s t L B,ds=[d,e]/\Both M d e s t/\0<L/\L<2 ^ 900/\200*B<2 ^ 900/\(∀ x∈s,Gr L B x)/\(∀ x∈t,Gr L B x)/\s.length<=100/\∀ M',MExt M M'->Q (nm (tot ((apart s t).map mag))) M'
noncomputable def C_65:CSs:=%[.ret (.call "_law_together" S_64 %[.comp ["_law_one","_law_other","_law_less"] 1 (.name 2) (.seq (.call "_law_apart" S_59 %[.var 0,.var 1|0])) (.tup %[.bi .abs %[.ix (.var 2) (.int 0)|0],.ix (.var 2) (.int 1)|0])|0])|0]
theorem vc_65:∀ ds M R E,S_65 ds M R E->rSs C_65 (ends R E) (Y1 2 ds) M:=by
 rintro ds M R E ⟨d,e,s,t,L,B,rfl,S,l0,hL,hB,gs,gt,l100,q⟩;have zs:∀ x∈s,Sz 900 x:=fun x hx=>(gs x hx).sz l0 hL %[|5];have zt:∀ x∈t,Sz 900 x:=fun x hx=>(gt x hx).sz l0 hL %[|5];have al:(apart s t).length<=100:=by unfold apart;rw[List.length_zipWith];omega
 have ga:=Wi l0 gs gt;unfold C_65;sleep 7;refine Ui fun K hK=>?_;sleep 8;refine⟨d,e,s,t,rfl,S,zs,zt,l100,fun M1 x1=>?_⟩;refine hK M1 _ ((apart s t).map nm) (fun d=>match num? d with|some x=>nm (mag x)|none=>.non) (fun _ _=>trivial) (by rw[List.length_map];omega) ?_ ?_
 ·intro y hy l M' R' hl e r'
  obtain⟨x,hx,rfl⟩:=List.mem_map.mp hy;obtain⟨u1,rfl⟩:=len1 hl;rw[Wr] at r';sleep 8;rw[CY];exact r' [_] M' rfl (.refl M')
 ·intro p M' hp e l
  refine⟨.lst p,(apart s t).map mag,L,B+B,rfl,.inr (.inr ⟨p,rfl,?_⟩),l0,hL,by omega,?_,by rw[List.length_map];exact al,q M' (x1.trans e)⟩
  ·rw[l];simp[Wr]
  ·intro y hy
   obtain⟨x,hx,rfl⟩:=List.mem_map.mp hy;exact Ak (ga x hx)
theorem Em {s:List Rat} {L B:Nat} (b:Bnd L B) (g:∀ x∈s,Gr L B x):Gs s:=⟨L,B,b.l0,Nat.lt_of_lt_of_le b.hL (Yf %[|4]),Nat.lt_of_lt_of_le b.hB (Yf %[|4]),g⟩
noncomputable def S_62:DSp:=fun ds M Q E=>∃ (s t:List Rat) (L B:Nat),ds=[rw s,rw t]/\Bnd L B/\(∀ x∈s,Gr L B x)/\(∀ x∈t,Gr L B x)/\s.length=t.length/\1<=s.length/\s.length<=24/\Leads s t/\∀ M',MExt M M'->Q (.bl true) M'
noncomputable def C_62:CSs:=%[.ife (.or (.cmp .NotEq (.bi .len %[.var 0|0]) (.bi .len %[.var 1|0])) (.one (.not (.call "_law_led" S_61 %[.var 0,.var 1|0])))) %[.ret (.bl false)|0] .nil,.set 2 (.call "between" S_34 %[.var 0,.var 1|0]),.ret (.and (.cmp .IsNot (.var 2) .non) (.one (.cmp .Eq (.call "levelled" S_29 %[.var 0,.var 2|0]) (.var 1))))|0]
theorem vc_62:∀ ds M R E,S_62 ds M R E->rSs C_62 (ends R E) (Y1 3 ds) M:=by
 rintro ds M R E ⟨s,t,L,B,rfl,hb,gs,gt,hl,s1,s24,ld,q⟩;have zs:=fun x hx=>hb.sz (gs x hx);have zt:=fun x hx=>hb.sz (gt x hx);unfold C_62;sleep 7;refine YN true ?_;simp[hl];refine⟨s,t,rfl,Em hb gs,Em hb gt,hl,s1,s24,fun b M0 hb0 x0=>?_⟩;obtain rfl:b=true:=hb0.mpr ld;simp;sleep 7;refine⟨_,_,rfl,Ua zs %[|4],Ua zt %[|4],.good s t L B rfl rfl s1 s24 hl hb gs gt (fun _ vs M1 W rn vl x1=>?_) fun z=>absurd ld z⟩;sleep 7;have c0:∀ Q:DK,Q (.bl true) M1->cIs true (.tup (vs.map lv)) .non M1 Q:=fun Q z=>z;refine c0 _ (Or.inr ⟨rfl,?_⟩);refine⟨s,vs,rfl,W,fun y hy=>(zs y hy).mono %[|4],s1,s24,fun M2 x2=>?_⟩;rw[rn];refine K2 false ?_;simp;exact q M2 (x0.trans (x1.trans x2))
noncomputable def j4 (u:Jb×Rat):DL.D:=.tup [.int (u.1.a:Int),.int (u.1.d:Int),nm u.1.w,nm u.2]
structure U1 (u:Jb×Rat):Prop where
 ad:u.1.a<u.1.d
 d24:u.1.d<=24
 w0:0<u.1.w
 v0:0<u.2
 gw:Gr 6 72 u.1.w
 gv:Gr 6 72 u.2
structure Us (us:List (Jb×Rat)):Prop where
 one:1<=us.length
 few:us.length<=6
 job:∀ u∈us,U1 u
 mon:us.Pairwise fun x y=>x.1.a<=y.1.a/\x.1.d<=y.1.d
noncomputable def S_63:DSp:=fun ds M Q E=>∃ a,ds=[.lst a,.int 6]/\Pk M a/\∀ us p M',Us us->M p=none->Dr a M M'->M' p=some (.ls (us.map j4))->Q (.lst p) M'
noncomputable def C_63:CSs:=%[.set 2 (.lst .nil),.set 3 (.call "_law_take" S_50 %[.var 0,.int 3|0]),.set 4 (.var 3),.fr (.name 5) (.rng %[.bin .Add (.int 1) (.call "_law_take" S_50 %[.var 0,.var 1|0])|0]) %[.set 3 (.bi .min %[.int 23,.bin .Add (.var 3) (.call "_law_take" S_50 %[.var 0,.int 4|0])|0]),.set 4 (.bi .min %[.int 24,.bin .Add (.bi .max %[.var 4,.bin .Add (.var 3) (.int 1)|0]) (.bin .FloorDiv (.call "_law_take" S_50 %[.var 0,.int 5|0]) (.int 2))|0]),.set 6 (.comp ["_law_pack_here","_law_most","_law_found","_law_arrival","_law_due","_law_turn","_law_works","_law_step"] 1 (.name 7) (.rng %[.int 2|0]) (.call "_law_low" S_51 %[.bin .Add (.int 1) (.call "_law_take" S_50 %[.var 0,.int 12|0]),.ix (.lst %[.int 1,.int 1,.int 2,.int 3|0]) (.call "_law_take" S_50 %[.var 0,.int 4|0])|0])),.ife (.cmp .Eq (.call "_law_take" S_50 %[.var 0,.int 3|0]) (.int 0)) %[.asg (.sub (.var 6) (.int 1)) (.ix (.var 6) (.int 0))|0] .nil,.expr (.app 2 (.tup %[.var 3,.var 4,.ix (.var 6) (.int 0),.ix (.var 6) (.int 1)|0]))|0],.ret (.var 2)|0]
theorem vc_63:∀ ds M R E,S_63 ds M R E->rSs C_63 (ends R E) (Y1 7 ds) M:=by
 rintro ds M R E ⟨a,rfl,pk,q⟩;unfold C_63;sleep 7;intro p0 M0 e0 x0 l0;have hpa:=pk.ne e0;sleep 7;refine YC (pk.ext x0) %[|4] %[|4] fun t M1 t0 t1 y1=>?_;obtain⟨t,rfl⟩:=Int.eq_ofNat_of_zero_le t0;sleep 7;sleep 9;refine YC y1.pk %[|4] %[|4] fun n M2 n0 n1 y2=>?_;rw[Wt]
 (try dsimp only)
 refine⟨by omega,by omega,?_⟩;refine YA (fun i δ M'=>∃ (us:List (Jb×Rat)) (c d:Nat) (w5 w6:Option DL.D),Dr a M M'/\M' p0=some (.ls (us.map j4))/\us.length=i/\(∀ u∈us,U1 u/\u.1.a<=c/\u.1.d<=d)/\(us.Pairwise fun x y=>x.1.a<=y.1.a/\x.1.d<=y.1.d)/\c<=23/\d<=24/\δ=[some (.lst a),some (.int 6),some (.lst p0),some (.int (c:Int)),some (.int (d:Int)),w5,w6]) (fun _ _ _ _=>trivial) ?_ ?_ ⟨[],t,t,_,_,(Dr.ext pk x0).trans (y1.trans y2),y2.keep _ _ hpa (y1.keep _ _ hpa l0),rfl,nofun,.nil,by omega,by omega,rfl⟩
 ·rintro δ M3 ⟨us,c,d,w5,w6,y3,l3,jl,hj,pw,_,_,rfl⟩
  rw[Zx] at jl;sleep 7;exact q us p0 M3 ⟨by omega,by omega,fun j h=>(hj j h).1,pw⟩ e0 y3 l3
 ·rintro i z hz N hN δ M3 ⟨us,c,d,w5,w6,y3,l3,jl,hj,pw,hc,hd,rfl⟩
  obtain⟨rfl,hi'⟩:=Xx hz;sleep 8;sleep 7;refine YC y3.pk %[|4] %[|4] fun u M4 u0 u1 y4=>?_;rw[Wt];sleep 8;obtain⟨c',hc',cc,c23⟩:∃ c':Nat,(if (c:Int)+u<23 then (c:Int)+u else 23)=(c':Int)/\c<=c'/\c'<=23:=by
   obtain⟨u,rfl⟩:=Int.eq_ofNat_of_zero_le u0;split
   ·exact⟨c+u,by omega,by omega,by omega⟩
   ·exact⟨23,rfl,hc,by decide⟩
  rw[hc'];sleep 7;refine YC y4.pk %[|4] %[|4] fun v M5 v0 v1 y5=>?_
  (try dsimp only)
  refine⟨ZP %[|4] (Ws %[|4]),?_⟩;obtain⟨h,hv,h2⟩:∃ h:Nat,v.fdiv 2=(h:Int)/\h<=2:=by
   rcases (by omega:v=0\/v=1\/v=2\/v=3\/v=4) with rfl|rfl|rfl|rfl|rfl
   ·exact⟨0,rfl,by decide⟩
   ·exact⟨0,rfl,by decide⟩
   ·exact⟨1,rfl,by decide⟩
   ·exact⟨1,rfl,by decide⟩
   ·exact⟨2,rfl,by decide⟩
  rw[hv];obtain⟨d',hd',dd,d24,cd⟩:∃ d':Nat,(if (if (d:Int)<(c':Int)+1 then (c':Int)+1 else (d:Int))+(h:Int)<24 then (if (d:Int)<(c':Int)+1 then (c':Int)+1 else (d:Int))+(h:Int) else 24)=(d':Int)/\d<=d'/\d'<=24/\c'<d':=by
   by_cases h1:(d:Int)<(c':Int)+1
   ·rw[if_pos h1]
    split
    ·exact⟨c'+1+h,by omega,by omega,by omega,by omega⟩
    ·exact⟨24,rfl,hd,by decide,by omega⟩
   ·rw[if_neg h1]
    split
    ·exact⟨d+h,by omega,by omega,by omega,by omega⟩
    ·exact⟨24,rfl,hd,by decide,by omega⟩
  rw[hd'];have y35:=y3.trans (y4.trans y5);have l5:=y5.keep _ _ hpa (y4.keep _ _ hpa l3);have Y5:=y4.trans y5;sleep 7;refine Ap (fun q=>Gr 6 72 q/\0<q) (a:=a) (rngD 0 1 2) (by rfl) (by rw[Zx];decide) y5.pk (fun R' r'=>?_) (fun x M6 R' y6 r'=>?_) fun r p6 M6 rl gr6 y6 e6 l6=>?_
  ·simp[0,vAt,vHd,Y7,and_assoc,sizeLine_eq,Yh,Z4,Yl,dFld,ZH,ZI,ZG,YM]
   exact r'
  ·sleep 8
   refine YC y6.pk %[|4] %[|4] fun s M7 s0 s1 y7=>?_;rw[Wt];intro p8 M8 e8 x8 l8;refine YC (y7.pk.ext x8) %[|4] %[|4] fun c M9 c0 c1 y9=>?_;obtain⟨z,hz,hv⟩:=As (xs:=[D.int 1,D.int 1,D.int 2,D.int 3]) c0 (by simpa using c1);refine Ys (y9.keep _ _ (y7.pk.ne e8) l8) hv ?_;obtain⟨b,rfl,b0,b1,bd⟩:∃ b:Int,z=.int b/\0<b/\b<=3/\b.toNat ∣ 6:=by
    simp at hz;rcases hz with rfl|rfl|rfl|rfl<;>exact⟨_,rfl,by decide,by decide,by decide⟩
   exact⟨_,_,rfl,by omega,Ws (Nat.lt_of_lt_of_le (show b.natAbs<2 ^ 4 by omega) (Yf %[|4])),r' _ M9 ⟨Wv b0 bd %[|4] %[|5],JF %[|5] b0⟩ (y7.trans ((Dr.ext y7.pk x8).trans y9))⟩
  rw[Zx] at rl;obtain⟨u,v,rfl⟩:=len2 rl;have gu:=gr6 u (by simp);have gv:=gr6 v (by simp);have d6:=y35.trans y6;have p6a:p6≠a:=y5.pk.ne e6;have n6:M p6=none:=by
   cases h:M p6 with
   | none=>rfl
   | some o=>have:=y35.keep _ _ p6a h;rw[e6] at this;cases this
  have l06:=y6.keep _ _ hpa l5;have p06:p0≠p6:=fun z=>by rw[<- z,l5] at e6;cases e6
  refine XL fun J hJ=>?_;have t1:∀ v M',Gr 6 72 v/\0<v->Dr a M M'->M' p0=some (.ls (us.map j4))->M' p6=some (.ls [nm u,nm v])->J [some (.lst a),some (.int 6),some (.lst p0),some (.int (c':Int)),some (.int (d':Int)),some (.int (i:Int)),some (.lst p6)] M':=by
   intro v M7 gv d7 l7 m7;refine hJ _ _ ?_;sleep 7;refine⟨⟨_,l7⟩,?_⟩;refine Ys m7 (YG _ _) (Ys m7 (Z9 _ _ _) ?_);refine⟨_,l7,by rw[List.length_map];omega,?_⟩;refine hN _ _ ⟨us++[(⟨c',d',u⟩,v)],c',d',_,_,d7.upd_new e0 hpa,?_,by simp;omega,?_,?_,c23,d24,rfl⟩
   ·rw[mupd_same,List.map_append];rfl
   ·intro j hj'
    rcases List.mem_append.mp hj' with h|h
    ·obtain⟨h1,h2,h3⟩:=hj j h
     exact⟨h1,by omega,by omega⟩
    ·simp at h;subst h
     exact⟨⟨cd,d24,gu.2,gv.2,gu.1,gv.1⟩,Nat.le_refl _,Nat.le_refl _⟩
   ·rw[List.pairwise_append]
    refine⟨pw,by simp,fun x hx y hy=>?_⟩;simp at hy;subst hy;obtain⟨h1,h2,h3⟩:=hj x hx;exact⟨Nat.le_trans h2 cc,Nat.le_trans h3 dd⟩
  sleep 8;refine YC y6.pk %[|4] %[|4] fun k M7 k0 k1 y7=>?_;refine YN false ?_;have l7:=y7.keep _ _ hpa l06;have m7:=y7.keep _ _ p6a l6;by_cases hk:k=0
  ·simp[hk]
   sleep 7;refine Ys m7 (YG _ _) ?_;refine⟨_,m7,1,by simp[L2.ixN],?_⟩;exact t1 u _ gu ((d6.trans y7).upd_new n6 p6a) (by rw[Yv p06];exact l7) mupd_same
  ·simp[hk]
   exact t1 v M7 gv (d6.trans y7) l7 m7
noncomputable def jF (f:Jb×Rat->Rat) (us:List (Jb×Rat)):List Jb:=us.map fun u=>⟨u.1.a,u.1.d,f u⟩
theorem Us.jobs {us:List (Jb×Rat)} {f:Jb×Rat->Rat} (U:Us us) (h:∀ u∈us,0<f u/\Gr 6 72 (f u)):Jobs 10 (jF f us):=by
 have one:=U.one;have few:=U.few;refine⟨by simpa[jF] using one,by simp[jF];omega,fun j hj=>?_,?_,by decide⟩
 ·obtain⟨u,hu,rfl⟩:=List.mem_map.mp hj
  have b:=U.job u hu;exact⟨b.ad,b.d24,(h u hu).1,(h u hu).2.sz %[|4] %[|4] %[|4]⟩
 ·unfold jF
  rw[List.pairwise_map];exact U.mon
noncomputable def fO (u:Jb×Rat):Rat:=u.1.w
noncomputable def fT (u:Jb×Rat):Rat:=u.2
noncomputable def fM (u:Jb×Rat):Rat:=mx u.1.w u.2
theorem UW (f:Jb×Rat->Rat) (us:List (Jb×Rat)):allW (jF f us)=tot (us.map f):=by
 unfold allW jF;rw[List.map_map];rfl
noncomputable def LJ:Nat:=6*5354228880
noncomputable def BJ:Nat:=2 ^ 60
theorem Jobs.gr {k:Nat} {js:List Jb} {r:List Rat} (J:Jobs k js) (few:js.length<=6) (g:∀ j∈js,Gr 6 72 j.w) (T:Told (jobT js) 500 r):∀ x∈Y0 r,Gr LJ BJ x:=by
 obtain⟨X,xl,x0,xn⟩:=Wm J T;obtain⟨e1,e2,e3,e4⟩:=J.ends;have l1:=J.last1;have gs:∀ P:Jb->Bool,Gr 6 432 (sw P js):=fun P=>by
  refine (Gr.tot (L:=6) (B:=72) %[|4] fun x hx=>?_).mono (Nat.mul_le_mul_right 72 (Nat.le_trans (WY js P) few));obtain⟨j,hj,rfl⟩:=List.mem_map.mp hx;exact g j (List.mem_filter.mp hj).1
 have G:=VV (L:=6) (B:=432) X (by rw[x0,e1]) (by rw[xn,e3]) %[|5] %[|5] %[|4] fun k _=>⟨gs _,gs _⟩;intro x hx;refine (Ja (B:=2 ^ 50) %[|4] (fun y hy=>?_) x hx).mono %[|4];obtain⟨i,hi,rfl⟩:=List.getElem_of_mem hy;have e:r[i]=ri r i:=by simp[ri,List.getD,hi]
 rw[e];exact (G i %[|5]).mono %[|4]
theorem Dc {us:List (Jb×Rat)} {f g:Jb×Rat->Rat} {r r':List Rat} (h:∀ u∈us,f u<=g u) (J:Jobs 10 (jF f us)) (J':Jobs 10 (jF g us)) (T:Told (jobT (jF f us)) 500 r) (T':Told (jobT (jF g us)) 500 r'):r'.length=r.length/\∀ i,i<(Y0 r).length->ri (Y0 r) i<=ri (Y0 r') i:=by
 have e1:jOf (us.map fun u=>(⟨u.1.a,u.1.d,f u⟩,g u))=jF f us:=by unfold jOf jF;rw[List.map_map];rfl
 have e2:jTo (us.map fun u=>(⟨u.1.a,u.1.d,f u⟩,g u))=jF g us:=by unfold jTo jF;rw[List.map_map];rfl
 rw[<- e1] at J T;rw[<- e2] at J' T';exact Jc J J' (fun u hu=>by obtain⟨v,hv,rfl⟩:=List.mem_map.mp hu;exact h v hv) T T'
noncomputable def jT (f:Jb×Rat->Rat) (u:Jb×Rat):DL.D:=jb ⟨u.1.a,u.1.d,f u⟩
theorem Hw (f:Jb×Rat->Rat) (us:List (Jb×Rat)):us.map (jT f)=(jF f us).map jb:=by unfold jF;rw[List.map_map];rfl
noncomputable def S_66:DSp:=fun ds M Q E=>∃ p us,ds=[.lst p]/\M p=some (.ls (us.map j4))/\Us us/\∀ M',MExt M M'->Q (.bl true) M'
noncomputable def C_66:CSs:=%[.par3 1 2 3 (.lst .nil) (.lst .nil) (.lst .nil),.fr (.tup %[.name 4,.name 5,.name 6,.name 7|0]) (.seq (.var 0)) %[.set 8 (.var 6),.ife (.call "_law_under" S_54 %[.var 6,.var 7|0]) %[.set 8 (.var 7)|0] .nil,.expr (.app 1 (.tup %[.var 4,.var 5,.var 6|0])),.expr (.app 2 (.tup %[.var 4,.var 5,.var 7|0])),.expr (.app 3 (.tup %[.var 4,.var 5,.var 8|0]))|0],.par 9 10 (.call "speeds" S_39 %[.bi .tuple %[.var 1|0]|0]) (.call "speeds" S_39 %[.bi .tuple %[.var 2|0]|0]),.set 11 (.call "speeds" S_39 %[.bi .tuple %[.var 3|0]|0]),.ife (.or (.cmp .NotEq (.bi .len %[.var 9|0]) (.bi .len %[.var 11|0])) (.one (.cmp .NotEq (.bi .len %[.var 10|0]) (.bi .len %[.var 11|0])))) %[.ret (.bl false)|0] .nil,.fr (.name 12) (.rng %[.bi .len %[.var 11|0]|0]) %[.ife (.bi .any %[.comp ["_law_some_here","_law_ahead","_law_behind","_law_great","_law_arrival","_law_due","_law_one","_law_other","_law_most","_law_first","_law_second","_law_third","_law_k","_law_works","_law_less"] 1 (.name 14) (.seq (.lst %[.ix (.var 9) (.var 12),.ix (.var 10) (.var 12)|0])) (.call "_law_under" S_54 %[.ix (.var 11) (.var 12),.var 14|0])|0]) %[.ret (.bl false)|0] .nil|0],.ife (.cmp .NotEq (.call "_law_together" S_64 %[.var 11|0]) (.call "_law_together" S_64 %[.comp ["_law_some_here","_law_ahead","_law_behind","_law_great","<4>","<5>","_law_one","_law_other","_law_most","_law_first","_law_second","_law_third","_law_k","_law_works","_law_arrival","_law_due","_law_work"] 3 (.tup %[.name 14,.name 15,.name 16|0]) (.seq (.var 3)) (.var 16)|0])) %[.ret (.bl false)|0] .nil,.set 13 (.call "_law_unlike" S_65 %[.comp ["_law_some_here","_law_ahead","_law_behind","_law_great","_law_arrival","_law_due","<6>","_law_other","_law_most","_law_first","_law_second","_law_third","_law_k","_law_works","_law_one"] 1 (.name 14) (.seq (.var 0)) (.ix (.var 14) (.int 2)),.comp ["_law_some_here","_law_ahead","_law_behind","_law_great","_law_arrival","_law_due","<6>","_law_other","_law_most","_law_first","_law_second","_law_third","_law_k","_law_works","_law_one"] 1 (.name 14) (.seq (.var 0)) (.ix (.var 14) (.int 3))|0]),.ret (.not (.call "_law_under" S_54 %[.var 13,.call "_law_unlike" S_65 %[.var 9,.var 10|0]|0]))|0]
theorem vc_66:∀ ds M R E,S_66 ds M R E->rSs C_66 (ends R E) (Y1 14 ds) M:=by
 rintro ds M R E ⟨p,us,rfl,l,U,q⟩;have few:=U.few;have jO:∀ u∈us,0<fO u/\Gr 6 72 (fO u):=fun u hu=>⟨(U.job u hu).w0,(U.job u hu).gw⟩;have jT':∀ u∈us,0<fT u/\Gr 6 72 (fT u):=fun u hu=>⟨(U.job u hu).v0,(U.job u hu).gv⟩;have jM:∀ u∈us,0<fM u/\Gr 6 72 (fM u):=fun u hu=>by
  have b:=U.job u hu;unfold fM mx;split
  ·exact⟨b.v0,b.gv⟩
  ·exact⟨b.w0,b.gw⟩
 unfold C_66
 (try dsimp only);rw[Yr];simp[0,vAt,vHd,Y7,and_assoc,sizeLine_eq,Yh,Z4,Yl,dFld,ZH,ZI,ZG,Ee]
 intro p1 M1 e1 x1 l1;intro p2 M2 e2 x2 l2;intro p3 M3 e3 x3 l3;have n12:p1≠p2:=fun z=>by rw[<- z,l1] at e2;cases e2
 have n13:p1≠p3:=fun z=>by rw[<- z,x2 _ _ l1] at e3;cases e3
 have n23:p2≠p3:=fun z=>by rw[<- z,l2] at e3;cases e3
 have m2:M p2=none:=MExt.none x1 e2;have m3:M p3=none:=MExt.none (x1.trans x2) e3;have x03:=x1.trans (x2.trans x3);sleep 9;refine⟨_,x03 _ _ l,?_⟩;refine YA (fun i δ M'=>∃ (w4 w5 w6 w7 w8:Option DL.D),MExt M M'/\M' p1=some (.ls ((us.take i).map (jT fO)))/\M' p2=some (.ls ((us.take i).map (jT fT)))/\M' p3=some (.ls ((us.take i).map (jT fM)))/\δ=[some (.lst p),some (.lst p1),some (.lst p2),some (.lst p3),w4,w5,w6,w7,w8,none,none,none,none,none]) (fun _ _ _ ⟨_,_,_,_,_,x,_⟩=>x _ _ l) ?_ ?_ ⟨_,_,_,_,_,x03,x3 _ _ (x2 _ _ l1),x3 _ _ l2,l3,rfl⟩
 ·rintro δ M' ⟨w4,w5,w6,w7,w8,x,h1,h2,h3,rfl⟩
  rw[List.length_map,List.take_length] at h1 h2 h3;rw[Hw] at h1 h2 h3;have J1:=U.jobs jO;have J2:=U.jobs jT';have J3:=U.jobs jM;have len:∀ f,(jF f us).length<=6:=fun f=>by simp[jF];omega
  have gj:∀ {f:Jb×Rat->Rat},(∀ u∈us,0<f u/\Gr 6 72 (f u))->∀ j∈jF f us,Gr 6 72 j.w:=fun h j hj=>by
   obtain⟨u,hu,rfl⟩:=List.mem_map.mp hj;exact (h u hu).2
  sleep 7;refine⟨_,h1,?_⟩;refine⟨_,10,rfl,J1,fun r1 M4 T1 x4=>?_⟩;refine⟨_,x4 _ _ h2,?_⟩;refine⟨_,10,rfl,J2,fun r2 M5 T2 x5=>?_⟩;sleep 7;refine⟨_,x5 _ _ (x4 _ _ h3),?_⟩;refine⟨_,10,rfl,J3,fun r3 M6 T3 x6=>?_⟩;have x46:=x4.trans (x5.trans x6);have h36:=x46 _ _ h3;have l6:=(x.trans x46) _ _ l;obtain⟨len1',mo1⟩:=Dc (fun u _=>show fO u<=fM u by unfold fO fM mx;split<;>grind) J1 J3 T1 T3;obtain⟨len2',mo2⟩:=Dc (fun u _=>show fT u<=fM u by unfold fT fM mx;split<;>grind) J2 J3 T2 T3;have G1:=J1.gr (len _) (gj jO) T1;have G2:=J2.gr (len _) (gj jT') T2;have G3:=J3.gr (len _) (gj jM) T3;have s1:=Yz r1;have s2:=Yz r2;have s3:=Yz r3;have rl:r3.length<=25:=by
   have:=(Wm J3 T3).2.1;have:=J3.last1;omega
  have z:∀ {y:Rat},Gr LJ BJ y->Sz 900 y:=fun h=>h.sz %[|4] (Nat.lt_of_lt_of_le (show LJ<2 ^ 80 by decide) (Yf %[|4])) (Nat.lt_of_lt_of_le (show BJ<2 ^ 80 by decide) (Yf %[|4]));sleep 7;refine YN true ?_;simp[show (Y0 r1).length=(Y0 r3).length by omega];refine YN true ?_;simp[show (Y0 r2).length=(Y0 r3).length by omega];sleep 9;refine⟨by omega,?_⟩;refine YA (fun i δ M'=>∃ w12,MExt M6 M'/\δ=[some (.lst p),some (.lst p1),some (.lst p2),some (.lst p3),w4,w5,w6,w7,w8,some (rw (Y0 r1)),some (rw (Y0 r2)),some (rw (Y0 r3)),w12,none]) (fun _ _ _ _=>trivial) ?_ ?_ ⟨_,.refl _,rfl⟩
  ·rintro δ M7 ⟨w12,x7,rfl⟩
   have l7:=x7 _ _ l6;have h37:=x7 _ _ h36;sleep 8;sleep 7;refine⟨_,Y0 r3,LJ,BJ,rfl,.inl rfl,by decide,Nat.lt_of_lt_of_le (show LJ<2 ^ 80 by decide) (Yf %[|4]),Nat.lt_of_lt_of_le (show 100*BJ<2 ^ 80 by decide) (Yf %[|4]),G3,by omega,?_⟩;refine YB (jF fM us) jb (fun j=>nm j.w) (JV rfl h37) (by have:=len fM;omega) ?_ ?_
   ·intro j hj l' M' R' hl' e r'
    obtain⟨u1,u2,u3,rfl⟩:=len3 hl';rw[show jb j=.tup [.int (j.a:Int),.int (j.d:Int),nm j.w] from rfl];sleep 8;exact r' [_,_,_] M' rfl (.refl _)
   intro p8 M8 e8 x8 l8;refine⟨.lst p8,us.map fM,6,72,rfl,.inr (.inr ⟨p8,rfl,?_⟩),by decide,Nat.lt_of_lt_of_le (show 6<2 ^ 80 by decide) (Yf %[|4]),Nat.lt_of_lt_of_le (show 100*72<2 ^ 80 by decide) (Yf %[|4]),?_,by rw[List.length_map];omega,?_⟩
   ·rw[l8];unfold jF;rw[List.map_map,List.map_map];rfl
   ·intro y hy
    obtain⟨u,hu,rfl⟩:=List.mem_map.mp hy;exact (jM u hu).2
   have T3':tot (Y0 r3)=tot (us.map fM):=by rw[J3.tot T3,UW]
   refine JE true ?_;simp[T3'];sleep 7;have l88:=x8 _ _ l7;refine YB us j4 (fun u=>nm (fO u)) (JV rfl l88) %[|5] ?_ ?_
   ·intro u hu l' M' R' hl' e r'
    obtain⟨u1,rfl⟩:=len1 hl';rw[show j4 u=.tup [.int (u.1.a:Int),.int (u.1.d:Int),nm u.1.w,nm u.2] from rfl];sleep 8;refine tix (v:=nm u.1.w) rfl ?_;exact r' [_] M' rfl (.refl _)
   intro p9 M9 e9 x9 l9;refine YB us j4 (fun u=>nm (fT u)) (JV rfl (x9 _ _ l88)) %[|5] ?_ ?_
   ·intro u hu l' M' R' hl' e r'
    obtain⟨u1,rfl⟩:=len1 hl';rw[show j4 u=.tup [.int (u.1.a:Int),.int (u.1.d:Int),nm u.1.w,nm u.2] from rfl];sleep 8;refine tix (v:=nm u.2) rfl ?_;exact r' [_] M' rfl (.refl _)
   intro p10 M10 e10 x10 l10;have gm:∀ {f:Jb×Rat->Rat},(∀ u∈us,0<f u/\Gr 6 72 (f u))->∀ y∈us.map f,Gr 6 72 y:=fun h y hy=>by
    obtain⟨u,hu,rfl⟩:=List.mem_map.mp hy;exact (h u hu).2
   refine⟨.lst p9,.lst p10,us.map fO,us.map fT,6,72,rfl,.inr ⟨p9,p10,rfl,rfl,by rw[x10 _ _ l9,List.map_map];rfl,by rw[l10,List.map_map];rfl⟩,by decide,Nat.lt_of_lt_of_le (show 6<2 ^ 80 by decide) (Yf %[|4]),Nat.lt_of_lt_of_le (show 200*72<2 ^ 80 by decide) (Yf %[|4]),gm jO,gm jT',by rw[List.length_map];omega,fun M11 x11=>?_⟩;sleep 7;refine⟨_,_,Y0 r1,Y0 r2,LJ,BJ,rfl,.inl ⟨rfl,rfl⟩,by decide,Nat.lt_of_lt_of_le (show LJ<2 ^ 80 by decide) (Yf %[|4]),Nat.lt_of_lt_of_le (show 200*BJ<2 ^ 80 by decide) (Yf %[|4]),G1,G2,by omega,fun M12 x12=>?_⟩;have am:tot ((apart (Y0 r1) (Y0 r2)).map mag)<=tot ((apart (us.map fO) (us.map fT)).map mag):=by
    have c1:=Ur (z:=Y0 r3) (x:=Y0 r1) (y:=Y0 r2) %[|5] %[|5] fun i hi=>⟨mo1 i %[|5],mo2 i %[|5]⟩;have c2:=VT us;rw[J1.tot T1,J2.tot T2,T3',UW,UW] at c1;have c3:tot ((apart (us.map fO) (us.map fT)).map mag)=(tot (us.map fM)-tot (us.map fO))+(tot (us.map fM)-tot (us.map fT)):=c2;grind
   have sz:∀ {s t:List Rat} {L B:Nat},0<L->L<2 ^ 900->200*B<2 ^ 900->(∀ x∈s,Gr L B x)->(∀ x∈t,Gr L B x)->s.length<=100->Sz 900 (tot ((apart s t).map mag)):=fun {s t L B} l0 hL hB gs gt sl=>by
    have al:(apart s t).length<=100:=by unfold apart;rw[List.length_zipWith];omega
    refine (Gr.tot (B:=B+B) l0 fun y hy=>?_).sz l0 hL ?_
    ·obtain⟨x,hx,rfl⟩:=List.mem_map.mp hy
     exact Ak (Wi l0 gs gt x hx)
    ·rw[List.length_map]
     have:=Nat.mul_le_mul_right (B+B) al;omega
   have z1:=sz %[|4] (Nat.lt_of_lt_of_le (show 6<2 ^ 80 by decide) (Yf %[|4])) (Nat.lt_of_lt_of_le (show 200*72<2 ^ 80 by decide) (Yf %[|4])) (gm jO) (gm jT') (by rw[List.length_map];omega);have z2:=sz %[|4] (Nat.lt_of_lt_of_le (show LJ<2 ^ 80 by decide) (Yf %[|4])) (Nat.lt_of_lt_of_le (show 200*BJ<2 ^ 80 by decide) (Yf %[|4])) G1 G2 %[|5];refine⟨_,_,rfl,.mk z1 z2 %[|4],?_⟩;rw[decide_eq_false (by grind)];refine .inl ⟨rfl,?_⟩;exact q _ (x.trans (x46.trans (x7.trans (x8.trans (x9.trans (x10.trans (x11.trans x12)))))))
  ·rintro i y hy N hN δ M7 ⟨w12,x7,rfl⟩
   obtain⟨rfl,hi'⟩:=Xx hy;rw[show ((0:Int)+(i:Int)*1)=((i:Nat):Int) by omega];sleep 8;sleep 7;refine Ui fun K hK=>?_;sleep 8;refine XZ %[|5] (XZ %[|5] ?_);intro p8 M8 e8 x8 l8;refine⟨_,l8,?_⟩;refine hK M8 _ _ (fun _=>.bl false) (fun M' x=>x _ _ l8) (show 2<=1000 by decide) ?_ ?_
   ·intro y hy l' M' R' hl' e r'
    obtain⟨u1,rfl⟩:=len1 hl';simp only[List.mem_cons,List.not_mem_nil,or_false] at hy;have m3:=G3 _ (Yy (r:=Y0 r3) (i:=i) %[|5]);have m1:=G1 _ (Yy (r:=Y0 r1) (i:=i) %[|5]);have m2:=G2 _ (Yy (r:=Y0 r2) (i:=i) %[|5]);have o1:=mo1 i %[|5];have o2:=mo2 i %[|5];obtain⟨v,rfl,gv,vl⟩:∃ v,y=nm v/\Gr LJ BJ v/\v<=ri (Y0 r3) i:=by
     rcases hy with rfl|rfl
     ·exact⟨_,rfl,m1,o1⟩
     ·exact⟨_,rfl,m2,o2⟩
    sleep 8;refine XZ %[|5] ?_;refine⟨_,_,rfl,.mk (z m3) (z gv) %[|4],?_⟩;rw[decide_eq_false (by grind)];exact r' [_] M' rfl (.refl _)
   intro p9 M9 e9 x9 l9;refine At (f:=fun _=>false) l9 ?_;simp;exact hN _ _ ⟨_,x7.trans (x8.trans x9),rfl⟩
 ·rintro i y hy N hN δ M' ⟨w4,w5,w6,w7,w8,x,h1,h2,h3,rfl⟩
  obtain⟨hi,rfl⟩:∃ hi:i<us.length,y=j4 us[i]:=by
   obtain⟨h,e⟩:=List.getElem?_eq_some_iff.mp hy;have h':i<us.length:=by simpa using h
   exact⟨h',by rw[<- e];simp⟩
  have b:=U.job _ (List.getElem_mem hi);have tk:us.take (i+1)=us.take i++[us[i]]:=List.take_succ_eq_append_getElem hi;have tl:(us.take i).length<=6:=by rw[List.length_take];omega
  have tm:∀ f,(us.take (i+1)).map (jT f)=(us.take i).map (jT f)++[jT f us[i]]:=fun f=>by rw[tk,List.map_append];rfl
  have k1:=tm fO;have k2:=tm fT;have k3:=tm fM;generalize us[i]=u at b k1 k2 k3;have a1:((us.take i).map (jT fO)).length<=6:=by rw[List.length_map];exact tl
  have a2:((us.take i).map (jT fT)).length<=6:=by rw[List.length_map];exact tl
  have a3:((us.take i).map (jT fM)).length<=6:=by rw[List.length_map];exact tl
  rw[k1,k2,k3] at hN;clear tm tk k1 k2 k3 tl;generalize (us.take i).map (jT fO)=A1 at *;generalize (us.take i).map (jT fT)=A2 at *;generalize (us.take i).map (jT fM)=A3 at *;rw[show j4 u=.tup [.int (u.1.a:Int),.int (u.1.d:Int),nm u.1.w,nm u.2] from rfl];sleep 8;sleep 7;refine XL fun J hJ=>?_;have t1:∀ v,v=fM u->J [some (.lst p),some (.lst p1),some (.lst p2),some (.lst p3),some (.int (u.1.a:Int)),some (.int (u.1.d:Int)),some (nm u.1.w),some (nm u.2),some (nm v),none,none,none,none,none] M':=by
   rintro v rfl;refine hJ _ _ ?_;sleep 7;refine⟨⟨_,h1⟩,_,h1,by omega,?_⟩;have g2:(M'.upd p1 (.ls (A1++[jT fO u]))) p2=some (.ls A2):=by rw[Yv n12.symm];exact h2
   have g3:(M'.upd p1 (.ls (A1++[jT fO u]))) p3=some (.ls A3):=by rw[Yv n13.symm];exact h3
   have g1:(M'.upd p1 (.ls (A1++[jT fO u]))) p1=some (.ls (A1++[jT fO u])):=mupd_same;have X:=MExt.upd_new (o:=.ls (A1++[jT fO u])) e1 x;show rSs _ _ _ (M'.upd p1 (.ls (A1++[jT fO u])));generalize M'.upd p1 (.ls (A1++[jT fO u]))=M7 at *;sleep 7;refine⟨⟨_,g2⟩,_,g2,by omega,?_⟩;have f1:(M7.upd p2 (.ls (A2++[jT fT u]))) p1=some (.ls (A1++[jT fO u])):=by rw[Yv n12];exact g1
   have f3:(M7.upd p2 (.ls (A2++[jT fT u]))) p3=some (.ls A3):=by rw[Yv n23.symm];exact g3
   have f2:(M7.upd p2 (.ls (A2++[jT fT u]))) p2=some (.ls (A2++[jT fT u])):=mupd_same;have Y:=MExt.upd_new (o:=.ls (A2++[jT fT u])) m2 X;show rSs _ _ _ (M7.upd p2 (.ls (A2++[jT fT u])));generalize M7.upd p2 (.ls (A2++[jT fT u]))=M8 at *;sleep 7;refine⟨⟨_,f3⟩,_,f3,by omega,?_⟩;refine hN _ _ ⟨_,_,_,_,_,MExt.upd_new (o:=.ls (A3++[jT fM u])) m3 Y,?_,?_,mupd_same,rfl⟩
   ·rw[Yv n13];exact f1
   ·rw[Yv n23];exact f2
  sleep 8;have sw:Sz 30 u.1.w:=b.gw.sz %[|4] %[|4] %[|4];have sv:Sz 30 u.2:=b.gv.sz %[|4] %[|4] %[|4];refine⟨_,_,rfl,.mk sw sv %[|4],?_⟩;by_cases c:u.1.w<u.2
  ·simp[c]
   sleep 7;exact t1 _ (by unfold fM mx;rw[if_pos c])
  ·simp[c]
   exact t1 _ (by unfold fM mx;rw[if_neg c])
noncomputable def LG:Nat:=60*5354228880
noncomputable def BG:Nat:=2 ^ 60
theorem bndG:Bnd LG BG:=⟨by decide,Nat.lt_of_lt_of_le (show LG<2 ^ 80 by decide) (Yf %[|4]),Nat.lt_of_lt_of_le (show BG<2 ^ 80 by decide) (Yf %[|4])⟩
structure Dt (s:List Rat):Prop where
 one:1<=s.length
 most:s.length<=24
 gs:∀ x∈s,Gr 60 14000 x
theorem Dt.fit {s:List Rat} {b a:Rat} (D:Dt s) (gb:Gr 60 7200 b) (ga:Gr 60 7200 a) (b0:0<=b) (a0:0<=a):Fit s b a 20 :=
 ⟨fun x hx=>(D.gs x hx).sz %[|4] %[|4] %[|4],gb.sz %[|4] %[|4] %[|4],ga.sz %[|4] %[|4] %[|4],by decide,D.one,D.most,b0,a0⟩
theorem Dt.gr {s:List Rat} {b a:Rat} {k:Nat} {r:List Rat} (D:Dt s) (gb:Gr 60 7200 b) (ga:Gr 60 7200 a) (T:Told (Yk s b a) k r):∀ x∈Y0 r,Gr LG (2 ^ 58) x:=by
 have one:=D.one;have most:=D.most;have tl:=YH s b a;have l:=T.len;have at_:∀ k,k<=s.length->Gr 60 400000 (lo (Yk s b a) k)/\Gr 60 400000 (hi (Yk s b a) k):=fun k hk=>by
  have g:Gr 60 336000 (Ya s k):=(J9 %[|4] D.gs k hk).mono %[|5];unfold lo hi;rw[Z2 hk];unfold Z1;split
  ·exact⟨.zero,.zero⟩
  ·split
   ·exact⟨g.mono %[|4],g.mono %[|4]⟩
   ·exact⟨(g.sub %[|4] gb).mono %[|4],(g.add %[|4] ga).mono %[|4]⟩
 have G:=VV (L:=60) (B:=400000) T.taut T.first T.last %[|5] %[|5] %[|4] fun k hk=>at_ k %[|5];intro x hx;refine (Ja (B:=2 ^ 57) %[|4] (fun y hy=>?_) x hx).mono %[|4];obtain⟨i,hi,rfl⟩:=List.getElem_of_mem hy;have e:r[i]=ri r i:=by simp[ri,List.getD,hi]
 rw[e];exact (G i %[|5]).mono %[|4]
theorem Dt.led {s t:List Rat} {b a:Rat} {k k':Nat} {r r':List Rat} {M:Mem} {Q E:DK} (D:Dt s) (D':Dt t) (h:s.length=t.length) (gb:Gr 60 7200 b) (ga:Gr 60 7200 a) (T:Told (Yk s b a) k r) (T':Told (Yk t b a) k' r') (q:∀ M',MExt M M'->Q (.bl true) M'):S_62 [rw (apart s t),rw (apart (Y0 r) (Y0 r'))] M Q E:=by
 obtain⟨X,_⟩:=WV D.one T;obtain⟨Y,_⟩:=WV D'.one T';have xl:=X.len;have yl:=Y.len;have one:=D.one;have most:=D.most;have l1:=X7 h;have l2:=X7 (s:=Y0 r) (t:=Y0 r') %[|5];refine⟨_,_,LG,BG,rfl,bndG,fun x hx=>?_,fun x hx=>(Wi %[|4] (D.gr gb ga T) (D'.gr gb ga T') x hx).mono %[|4],by omega,by omega,by omega,X.apart h one Y,q⟩;have:=((Wi %[|4] D.gs D'.gs x hx).up (W:=5354228880) %[|4] %[|4]);exact this.mono %[|4]
theorem Wh {s t:List Rat} {L B:Nat} {M:Mem} {Q E:DK} (l0:0<L) (hL:L<2 ^ 80) (hB:B<2 ^ 80) (gs:∀ x∈s,Gr L B x) (gt:∀ x∈t,Gr L B x) (sl:s.length<=24) (q:∀ M',MExt M M'->Q (rw (apart s t)) M'):S_59 [rw s,rw t] M Q E :=
 ⟨_,_,s,t,rfl,.inl ⟨rfl,rfl⟩,fun x hx=>((gs x hx).sz l0 hL hB).mono %[|4],fun x hx=>((gt x hx).sz l0 hL hB).mono %[|4],by omega,q⟩
theorem VZ {s:List Rat} {p:Rat} {M:Mem} {Q E:DK} (D:Dt s) (g:Gr 60 7200 p) (p0:0<=p) (q:∀ r M',Told (Yk s p p) (26+25*20) r->MExt M M'->Q (rw (Y0 r)) M'):S_43 [rw s,nm p] M Q E :=
 ⟨rw s,nm p,rfl,Ua (D.fit g g p0 p0).sz %[|4],gnm (D.fit g g p0 p0).sa,.inr (.inr ⟨s,p,20,rfl,rfl,D.fit g g p0 p0,q⟩)⟩
theorem Uk {s:List Rat} {p:Rat} {M:Mem} {Q E:DK} (D:Dt s) (N:Needs s) (g:Gr 60 7200 p) (p0:0<=p) (q:∀ r M',Told (Yk s 0 p) (26+25*20) r->MExt M M'->Q (rw (Y0 r)) M'):S_47 [rw s,nm p] M Q E :=
 ⟨rw s,nm p,rfl,Ua (D.fit .zero g Rat.le_refl p0).sz %[|4],gnm (D.fit .zero g Rat.le_refl p0).sa,.inr (.inr ⟨s,p,20,rfl,rfl,N,D.fit .zero g Rat.le_refl p0,q⟩)⟩
noncomputable def C_67:CSs:=%[.fr (.name 1) (.rng %[.int 0,.bi .max %[.int 1,.bi .min %[.bi .len %[.var 0|0],.int 12|0]|0],.int 4|0]) %[.par 2 3 (.call "_law_pack" S_49 %[.var 0,.var 1|0]) (.call "_law_pack" S_49 %[.var 0,.bin .Add (.var 1) (.int 2)|0]),.par 4 5 (.call "_law_amount" S_56 %[.var 2|0]) (.call "_law_amount" S_56 %[.var 3|0]),.asg (.tup %[.name 6,.name 7|0]) (.call "_law_two" S_58 %[.var 2,.bl false|0]),.set 8 (.call "_law_apart" S_59 %[.call "smoothed" S_43 %[.var 6,.var 4|0],.call "smoothed" S_43 %[.var 7,.var 4|0]|0]),.ife (.not (.call "_law_levelled_right" S_62 %[.call "_law_apart" S_59 %[.var 6,.var 7|0],.var 8|0])) %[.ret (.bl false)|0] .nil,.ife (.not (.call "_law_works_right" S_66 %[.call "_law_jobs" S_63 %[.var 3,.int 6|0]|0])) %[.ret (.bl false)|0] .nil,.asg (.tup %[.name 9,.name 10|0]) (.call "_law_two" S_58 %[.var 3,.bl true|0]),.set 8 (.call "_law_apart" S_59 %[.call "bought" S_47 %[.var 9,.var 5|0],.call "bought" S_47 %[.var 10,.var 5|0]|0]),.ife (.not (.call "_law_levelled_right" S_62 %[.call "_law_apart" S_59 %[.var 9,.var 10|0],.var 8|0])) %[.ret (.bl false)|0] .nil|0],.ret (.bl true)|0]
theorem vc_67:∀ ds M R E,SLaw ds M R E->rSs C_67 (ends R E) (Y1 11 ds) M:=by
 rintro ds M R E ⟨ns,rfl,hs,h⟩;unfold C_67;sleep 9;obtain⟨z,hz,hc,e⟩:=Fh 12 ns.length %[|4] %[|4];rw[e];obtain⟨r1,r2,r3⟩:=A6 z %[|5];refine⟨ZP %[|4] (Ws %[|4]),r1,r2,?_⟩;refine JA (fun δ M'=>∃ w1 w2 w3 w4 w5 w6 w7 w8 w9 w10,δ=[some (.fz (ns.map .int)),w1,w2,w3,w4,w5,w6,w7,w8,w9,w10]) (fun _ _ _=>trivial) ?_ ?_ ⟨_,_,_,_,_,_,_,_,_,_,rfl⟩
 ·rintro δ M' ⟨w1,w2,w3,w4,w5,w6,w7,w8,w9,w10,rfl⟩
  sleep 7;exact h M'
 ·rintro x hx N hN δ M0 ⟨w1,w2,w3,w4,w5,w6,w7,w8,w9,w10,rfl⟩
  obtain⟨i,hI,rfl⟩:=List.mem_map.mp hx;have hi2:=List.mem_range.mp hI;sleep 8;sleep 7;refine⟨ns,_,rfl,hs,by omega,by omega,fun v a M1 e1 x1 l1=>?_⟩;refine⟨ns,_,rfl,hs,by omega,by omega,fun v' b M2 e2 x2 l2=>?_⟩;have ne:a≠b:=fun z=>by rw[<- z,l1] at e2;cases e2
  have pa:Pk M2 a:=⟨v,x2 _ _ l1⟩;have kb:∀ {M M':Mem},Pk M b->Dr a M M'->Pk M' b:=fun ⟨v,h⟩ y=>⟨v,y.keep _ _ ne.symm h⟩;have ka:∀ {M M':Mem},Pk M a->Dr b M M'->Pk M' a:=fun ⟨v,h⟩ y=>⟨v,y.keep _ _ ne h⟩;sleep 7;refine⟨a,rfl,pa,fun p M3 gp p0 y3=>?_⟩;refine⟨b,rfl,kb ⟨v',l2⟩ y3,fun q M4 gq q0 y4=>?_⟩;sleep 7;refine⟨a,false,rfl,ka y3.pk y4,fun s t M5 hl s1 s24 gs gt _ y5=>?_⟩;have D1:Dt s:=⟨s1,s24,gs⟩;have D2:Dt t:=⟨by omega,by omega,gt⟩;simp[Yn,UO,AR,ZE];refine⟨_,_,⟨rfl,rfl⟩,_,_,rfl,rfl,?_⟩;have b5:=kb y4.pk y5;sleep 7;refine VZ D1 gp p0 fun ra M6 T1 x6=>?_;refine VZ D2 gp p0 fun rb M7 T2 x7=>?_;have xa:=(WV s1 T1).1.len;refine Wh %[|4] (show LG<2 ^ 80 by decide) %[|4] (D1.gr gp gp T1) (D2.gr gp gp T2) %[|5] fun M8 x8=>?_;sleep 7;refine Wh %[|4] %[|4] %[|4] gs gt s24 fun M9 x9=>?_;refine D1.led D2 hl gp gp T1 T2 fun M10 x10=>?_;simp;have b10:=b5.ext (x6.trans (x7.trans (x8.trans (x9.trans x10))))
  sleep 7;refine⟨b,rfl,b10,fun us pj M11 U e11 y11 l11=>?_⟩;refine⟨pj,us,rfl,l11,U,fun M12 x12=>?_⟩;simp;have b12:=y11.pk.ext x12;sleep 7;refine⟨b,true,rfl,b12,fun s' t' M13 hl' s1' s24' gs' gt' hn y13=>?_⟩;have D3:Dt s':=⟨s1',s24',gs'⟩;have D4:Dt t':=⟨by omega,by omega,gt'⟩;simp[Yn,UO,AR,ZE];refine⟨_,_,⟨rfl,rfl⟩,_,_,rfl,rfl,?_⟩;sleep 7;refine Uk D3 (hn rfl).1 gq q0 fun rc M14 T3 x14=>?_;refine Uk D4 (hn rfl).2 gq q0 fun rd M15 T4 x15=>?_;have xb:=(WV s1' T3).1.len;refine Wh %[|4] (show LG<2 ^ 80 by decide) %[|4] (D3.gr .zero gq T3) (D4.gr .zero gq T4) %[|5] fun M16 x16=>?_;sleep 7;refine Wh %[|4] %[|4] %[|4] gs' gt' s24' fun M17 x17=>?_;refine D3.led D4 hl' .zero gq T3 T4 fun M18 x18=>?_;simp;exact hN _ _ ⟨_,_,_,_,_,_,_,_,_,_,rfl⟩
end K
end
namespace PySem.W.Fast
set_option bootstrap.genMatcherCode true
local macro_rules | `(command| universe $xs*)=>do
  let cs<-xs.mapM fun x=>`(command| theorem $x :True:=⟨⟩)
  return Lean.mkNullNode cs
set_option bootstrap.genMatcherCode false
universe tw1644004210071734742 tw4875234806226164546 tw1302136104317479715 tw2669795275814397153 tw3096376266795286073 tw2094463914316080963 tw13584963020407577923 tw13634062410318163602 tw2308856959773894880 tw5255764118722011445 tw70720281929571138 tw10934229158020985586 tw5125493082920316900 tw3614262108178703726 tw17755377063347703349 tw11469073763576576077 tw14404026466812215742 tw17941205680934694080 tw14115129273694679999 tw5475245602267216336 tw166131804046955943 tw6344135535825755417 tw16569943274192235546 tw7489584521644740967 tw14736296920024636030 tw3084458330584431718 tw340192660845330386 tw6225477349876383829 tw7764175390564546671 tw9122290679967546983 tw15425285735762733640 tw9333108953127221343 tw16834219663286603564 tw5195103651351967718 tw7829156473768543250 tw1188345335503349028 tw525543851853145994 tw5253459080755036726 tw7000688589253915493 tw12019497614438367809
universe tw3310561410863473744 tw2123963871026579975 tw4113560430052575778 tw2045708698864665746 tw14855961334379226382 tw11881179371046842817 tw10155070539519349103 tw12821058176840020288 tw11701531403551815904 tw12801271378262965093 tw5103873576074148096 tw17130762622006520946 tw13419303743792309901 tw7438046489286576548 tw998536214222324610 tw8295940420544583925 tw17440716595763435399 tw8652700217683777780 tw7775510094265502426 tw14971028955342252544 tw9545895193477294893 tw7348601784446457292 tw11978220975064166272 tw13598402405631232615 tw13643090293455758320 tw15224757890163456194 tw3903517900957561561 tw8414344983672580324 tw5561715354912664835 tw533192117703019082 tw2973953022545869464 tw5109375602718506960 tw15654334075601160625 tw12859108926589967664 tw11954696509684751369 tw16153947607586599423 tw7144544229197682695 tw12544639401718812575 tw17941888633630878986 tw462311992818029444
universe tw14688296488430386701 tw13888860305100395440 tw11134689813941496662 tw7214607741853599069 tw543970219312619240 tw8450880877701440468 tw9790077511637099003 tw3190792873657408230 tw133088742088845730 tw5448289345104623650 tw12411238661931664441 tw5939248399235346222 tw4101126323496669773 tw15939722638637041216 tw4086567798308416735 tw3069187747886846965 tw12628295382083205712 tw16142792560342410010 tw3500087395848663685 tw15219148428262812045 tw12775715026842551394 tw16927760000629361575 tw6286118058831648559 tw3899426039268572568 tw7389183783592275163 tw16217530663614258851 tw17821263044807349258 tw8329979547036497957 tw10702127611370733930 tw2202902522191753997 tw7721718287331653438 tw16678854026931341495 tw17703390425728217619 tw9416045341016112052 tw2097845086378162739 tw10212800196650694532 tw4924962386970192703 tw14427781029318815122 tw1385670257553859438 tw10482832116900759357
universe tw6896230973591304843 tw7220087671223442834 tw3001017792484675216 tw14235405325204847780 tw8050140346632552090 tw11322400714234054485 tw4083452363501375628 tw10050735694280919135 tw9262886772744590882 tw14852274710479495860 tw9694845245068223933 tw18027368506167580739 tw8021547734549046122 tw12691081833675650480 tw17214076360571498620 tw7227477639023462924 tw5804545013312788237 tw16959679421107618369 tw8077444384580645041 tw3799016300930494260 tw5754210209959525911 tw15905978232020420523 tw8397294458817950674 tw12037939233040442374 tw13808103481891709744 tw677981258386114781 tw3877031392140858074 tw16863841492341390625 tw5355663425184823736 tw1376149068913834097 tw6123039707075601878 tw12452404624575732292 tw15329496162354037032 tw17029621818975088824 tw13216333436968304461 tw18145109284841208783 tw7275373455261135685 tw15678167691483545735 tw18130442421691321925 tw9568243408634623395
universe tw7351892858333422429 tw8879286011671264527 tw6877980396170166221 tw11866776986866250772 tw15356951790751569544 tw6156802149311082275 tw16783543050017806061 tw1664233503664877043 tw14283756811510862982 tw5260006130444005472 tw4845806469306773265 tw10578814768604418973 tw7641122137825680180 tw7494217189107646615 tw5949959975282297445 tw5222713071177655656 tw18377953714619682297 tw16650822164456991837 tw4630002364142308579 tw13436940786162223852 tw3583424454974142422 tw17671995546104631257 tw4418135118275696762 tw6706097649441434909 tw13350070614011098753 tw13209235662379594573 tw15536365050478740185 tw16777846410114652273 tw5827089103612274782 tw9329979298371616371 tw17912815430548704592 tw2152043407687786530 tw11187456787579883413 tw5913925897294193018 tw857775815508351556 tw13923815783777297332 tw7631927081920612614 tw14643033928585625092 tw8413658496363462574 tw13012069903166868403
universe tw13285413864365428137 tw13506571251116592251 tw1356250102136070670 tw7056730283837868595 tw9123681775006404363 tw2458764807824470826 tw15402805972100979618 tw5977022944681585284 tw1902099602268327992 tw11776926760730995087 tw13714583509313255797 tw8123035478759794731 tw11755135298638599309 tw7168643867952397778 tw7967722450087976765 tw831481996471020414 tw16608963962033595988 tw11665418592533590310 tw4605800677208201282 tw3644256123898437852 tw16253359267919901616 tw5800195468679369667 tw15350913913236816646 tw4436412487792757896 tw9877226085558413706 tw18189289244081378746 tw15132508052818344628 tw3258025423741465901 tw523246346774456910 tw17001593982333807454 tw14100178617008841233 tw15104710051940044486 tw3982075534586452100 tw12687122975478950293 tw3639584851101197368 tw12988991986533344326 tw7175669759340566576 tw2093718403056058779 tw2408221648968590875 tw14314147552156090986
universe tw1138377286781863191 tw15760238050408439983 tw7382842880092543299 tw1820771572436605738 tw8929325229568244906 tw6449087624170289168 tw13828643482311205940 tw3867579306038722033 tw15748397137600510759 tw2658854596484145749 tw17244694915648578289 tw14900249272539938925 tw4667519507907308985 tw13459642070584806003 tw11385241506970057411 tw7727326801718369767 tw8723988744763154505 tw5161041846843115175 tw15857612142139701659 tw13010825001357289189 tw6971938592632332680 tw3805106452834987848 tw4460782407271112281 tw1070619090590038985 tw15888823183186720748 tw13957017341335744384 tw3481453862049454044 tw16478661773371243993 tw3984665471484714056 tw3628769613308131871 tw10119307552243999906 tw9761438003751618410 tw12717539397977331858 tw12849981709142633256 tw6682214732680920782 tw11632678983361020464 tw12186678972523179579 tw1194817645347713711 tw7944914256448046983 tw10754554033256532981
universe tw3401613578757299929 tw2235131802503106378 tw16806303012224530840 tw14731410951986960065 tw14880559129847124620 tw806839228788110582 tw18282235509059497616 tw2267393052468347006 tw12852079044312454354 tw1349783737612820782 tw16632549255180444944 tw15398173335496553901 tw18396851655991673053 tw13374643085011078990 tw9775775552535232691 tw17364510494780178019 tw658304147583504659 tw5475372528998544327 tw11432088267148725308 tw265259950966658099 tw16178152696006325757 tw752127533271516075 tw12020208444452437490 tw1103727379325570844 tw16984879264157176762 tw4123790314039078609 tw12101624980655313990 tw15187651881977164032 tw15810227249942239439 tw16490133983430126996 tw14518197709955270740 tw6690297190525489797 tw5739579532494677749 tw4276810192361113945 tw16411323103682857504 tw17114538311405627058 tw11474448989892241806 tw344802495943600592 tw12193681770948478904 tw2857212563562801116
universe tw17109163468005016953 tw3866415661559972840 tw13564564562201641307 tw11257991298020893 tw4062074845393685812 tw17377250225123237644 tw11547656983088697413 tw16159983479585865768 tw16172219274602289618 tw15401890353318873550 tw11268060202525868604 tw9714303503958092804 tw130566483528341403 tw5226000556336354346 tw3631454436725219219 tw15022477542233131808 tw16981579713238870563 tw1830779798757228629 tw15044029812190233022 tw4858330405488643512 tw3106362845985786547 tw8328289839630035607 tw9914939318540342410 tw3637814159206411365 tw17650327534745854373 tw10431588955022134958 tw8544417301875912674 tw6964429910569607206 tw13053394095277559688 tw14267028202401195093 tw16190608877882206018 tw6313264149653626555 tw15287254597051089635 tw6490997767701618107 tw17008612267888826587 tw807887669949371755 tw5747248895992408505 tw6301103333846035571 tw6292010362456356770 tw1368830710287633547
universe tw2091185042985182878 tw5285718898756180524 tw4356987531649485376 tw2595904719857969005 tw13754186733560203696 tw12297124357958995127 tw17612984496725409600 tw17416094484875555841 tw16697495208268907430 tw16074038985220449262 tw6236340719344697603 tw9280928942102387782 tw2767711458240967904 tw2907156073299843005 tw290622574578595527 tw8058886866906406744 tw6022672680935474620 tw11697094095363840909 tw4688066103664346086 tw14329118094144760261 tw3875467150009898929 tw11310836547071257597 tw15096145373105273955 tw1501836416463284069 tw3045539464462082883 tw14375933770669469822 tw10822446482570584298 tw1294338663020545113 tw7412206294601703435 tw904065810318791845 tw4973931852895732217 tw3489695245802791347 tw18309843536293121381 tw13826506696064216147 tw8151410023623411572 tw10242417209465414931 tw2518881332322699660 tw17761655903955813575 tw6691844248030294885 tw7853888115722086522
universe tw11630911332980421794 tw1604702952274870878 tw15846492533350182456 tw6158858448602246260 tw7397491561284716554 tw5012989956940525368 tw5997325250648703727 tw3147282295694201493 tw13024851135339809340 tw15209132619680944058 tw15303247208998565449 tw6010875011560143506 tw14361958714725256636 tw376320451238406781 tw6012079134832808307 tw13686961502075304419 tw15911471635926304911 tw6432065368858072016 tw17514405771397876765 tw2518527252947387037 tw4059819542202174655 tw2238031751990556189 tw11231120467172530597 tw13114419327569784575 tw3623789947303596853 tw12325277503526983733 tw10078672756646960406 tw14578788231358719012 tw1514063319075736798 tw499915624879514742 tw12915771306980558199 tw2167768828022776451 tw7849733835924654728 tw625223058314765263 tw11465373411827043623 tw5490328977593638187 tw6992686320826306564 tw13554736125754895927 tw5431249744612509 tw18320573271007215408
universe tw6461800031383192336 tw11359072214481214652 tw12894410473755367155 tw3208177224231929477 tw14539667879446611863 tw6906110265175349957 tw13962090133637167830 tw8661180944874138777 tw4385267339461516834 tw13197788521002635576 tw16279185819182287531 tw6423814289531133584 tw3125004926846568997 tw3452732001069304636 tw780342205136973509 tw1644344275166108357 tw5411355789036513208 tw11633456187534696253 tw12278883158038299827 tw17292019640742762216 tw7088942310991119909 tw11029228615297213741 tw16040075125528377792 tw654628166001709363 tw3603596773163358275 tw5669211989865016297 tw14404518238881734976 tw9426133968262530124 tw14801611288691325793 tw4463626531292963993 tw12785257744336531355 tw1859091935031856045 tw16638740531683697199 tw4811716576236920690 tw14495482090459053902 tw17010256054153338447 tw2620126917111273881 tw4777469722438085796 tw15551031452705083636 tw17203797563474130888
universe tw9525679788503176223 tw9596974960940651249 tw10400880323082768790 tw5646629017590532149 tw4890742682791063992 tw5059773502803349808 tw18251439462350640767 tw5930664475268531469 tw4092248127419905742 tw8214637427119862136 tw17545787566320638030 tw4233721364537145905 tw16761892113191147194 tw14673153330225347824 tw14915541245099784748 tw6476026880935464257 tw3803853390484029609 tw18021132091837905134 tw8013516680521246929 tw416025724184670887 tw2605939131919974651 tw12913723205193834902 tw12459354734910287607 tw11910943237712059616 tw15661309856986029796 tw356092654533724427 tw16371174883037806405 tw224752712240786761 tw8015913013775979678 tw4762301735195642369 tw7706580062599931294 tw14345192706218977462 tw5521733072281645360 tw6742505639451951097 tw8963059193967749457 tw11252678078650051639 tw13641479334245760320 tw5291705060015791634 tw18072257296482928202 tw3113602005548035426
universe tw1439996854629505260 tw12209323924593797937 tw7324094745321540509 tw7512007304584184941 tw408854242804510932 tw16449388707465652284 tw13633907770012489636 tw5919427794807331486 tw16047522877864544792 tw4090169726334913529 tw7026191779415689751 tw14849023869622625248 tw10398062741102810831 tw4558004135513668510 tw10131358782036797574 tw11216651410215386238 tw13187887143314071562 tw13598310427987723830 tw7842258462764728672 tw17053820386666262111 tw11062980292248961988 tw15892201742928463984 tw3288740578833689999 tw14403107224690382155 tw11176992976170801060 tw18378948430073299995 tw1142686207401618097 tw2645453173051449407 tw13879272787847623572 tw1576975618477304125 tw16195224931447396161 tw14014045529437312539 tw11720811122430429766 tw11997132516984474570 tw4299958942806935916 tw12143701700990191392 tw16150812595304000328 tw16261366695386076505 tw7529437806626300761 tw14332683924291904643
universe tw1531546810838353669 tw3590198265538394062 tw16066462697168282821 tw8510244861115720622 tw17680571725914122738 tw17373096616220495673 tw11997699130198692508 tw5750292624525294153 tw16012274656139630719 tw18170714367814847393 tw6099542535239938697
end PySem.W.Fast
namespace K
open PySem DL L2 PySem.W
set_option bootstrap.genMatcherCode true
local macro_rules
 | `(tactic| sleep 61)=>`(tactic| (rintro _ _ _ _ ⟨_,e,_⟩;rw[e];rfl))
 | `(tactic| sleep 62)=>`(tactic| (rintro _ _ _ _ ⟨_,_,e,_⟩;rw[e];rfl))
 | `(tactic| sleep 63)=>`(tactic| (rintro _ _ _ _ ⟨_,_,_,e,_⟩;rw[e];rfl))
 | `(tactic| sleep 64)=>`(tactic| (rintro _ _ _ _ ⟨_,_,_,_,e,_⟩;rw[e];rfl))
 | `(tactic| sleep 65)=>`(tactic| (rintro _ _ _ _ ⟨_,_,_,_,_,e,_⟩;rw[e];rfl))
 | `(tactic| sleep 66)=>`(tactic| (rintro _ _ _ _ ⟨_,_,_,_,_,_,e,_⟩;rw[e];rfl))
 | `(tactic| sleep 67)=>`(tactic| (rintro _ _ _ _ ⟨_,_,_,_,_,_,_,e,_⟩;rw[e];rfl))
 | `(tactic| sleep 68)=>`(tactic| (rintro _ _ _ _ ⟨_,_,_,_,_,_,_,_,e,_⟩;rw[e];rfl))
 | `(tactic| sleep 69)=>`(tactic| (rintro _ _ _ _ ⟨_,_,_,_,_,_,_,_,_,e,_⟩;rw[e];rfl))
 | `(tactic| sleep 71)=>`(tactic| (intros;rename_i us hl;obtain⟨_,e⟩:=us1 hl;subst e;rfl))
 | `(tactic| sleep 72)=>`(tactic| (intros;rename_i us hl;obtain⟨_,_,e⟩:=us2 hl;subst e;rfl))
 | `(tactic| sleep 73)=>`(tactic| (intros;rename_i us hl;obtain⟨_,_,_,e⟩:=us3 hl;subst e;rfl))
 | `(tactic| sleep 74)=>`(tactic| (intros;rename_i us hl;obtain⟨_,_,_,_,e⟩:=us4 hl;subst e;rfl))
set_option bootstrap.genMatcherCode false
set_option bootstrap.genMatcherCode true
local macro_rules | `(~~~$n:str)=>`(nsIn $(Lean.mkIdent `K) mainGlobals $n)
set_option bootstrap.genMatcherCode false
set_option bootstrap.genMatcherCode true
local macro_rules | `(#[$n:str,$s:ident,$f:ident,$o:ident,$p:ident,$a:ident,$b:ident,$c:ident,$d:ident,$e:ident,$g:ident,$h:ident])=>`($(Lean.mkIdent `K.lookup) $f=some ⟨$o,$p,.func (fnOf $n $n (ZQ $s) (YW $s) (Yg $s) .none $a $b $c $d $e $g),$h⟩)
set_option bootstrap.genMatcherCode false
noncomputable def top (i:Nat):Stmt:=PySem.Challenge.pw_levelcord_k98_whole_differences_levelled.main.body.getD i (.Pass ⟨0,0,0,0⟩)
theorem D_0:DefIs (top 13) ["thing"] 1 C_0 S_0:=⟨by sleep 50,by decide +kernel,by sleep 62,vc_0,(by sleep 71)⟩
theorem D_1:DefIs (top 14) ["one","other"] 2 C_1 S_1:=⟨by sleep 50,by decide +kernel,by sleep 62,vc_1,(by sleep 72)⟩
theorem D_2:DefIs (top 15) ["thing","top","bottom"] 1 C_2 S_2:=⟨by sleep 50,by decide +kernel,by sleep 61,vc_2,(by sleep 71)⟩
theorem D_3:DefIs (top 16) ["top","bottom","divisor"] 2 C_3 S_3:=⟨by sleep 50,by decide +kernel,by sleep 62,vc_3,(by sleep 72)⟩
theorem D_4:DefIs (top 17) ["one","other"] 2 C_4 S_4:=⟨by sleep 50,by decide +kernel,by sleep 62,vc_4,(by sleep 72)⟩
theorem D_5:DefIs (top 18) ["one","other"] 2 C_5 S_5:=⟨by sleep 50,by decide +kernel,by sleep 62,vc_5,(by sleep 72)⟩
theorem D_6:DefIs (top 19) ["one","other"] 2 C_6 S_6:=⟨by sleep 50,by decide +kernel,by sleep 62,vc_6,(by sleep 72)⟩
theorem D_7:DefIs (top 20) ["one","other"] 2 C_7 S_7:=⟨by sleep 50,by decide +kernel,by sleep 62,vc_7,(by sleep 72)⟩
theorem D_8:DefIs (top 21) ["one","other"] 2 C_8 S_8:=⟨by sleep 50,by decide +kernel,by sleep 62,vc_8,(by sleep 72)⟩
theorem D_9:DefIs (top 24) ["thing","least","most"] 3 C_9 S_9:=⟨by sleep 50,by decide +kernel,by sleep 63,vc_9,(by sleep 73)⟩
theorem D_10:DefIs (top 25) ["thing"] 1 C_10 S_10:=⟨by sleep 50,by decide +kernel,by sleep 61,vc_10,(by sleep 71)⟩
theorem D_11:DefIs (top 26) ["thing"] 1 C_11 S_11:=⟨by sleep 50,by decide +kernel,by sleep 61,vc_11,(by sleep 71)⟩
theorem D_12:DefIs (top 27) ["thing"] 1 C_12 S_12:=⟨by sleep 50,by decide +kernel,by sleep 61,vc_12,(by sleep 71)⟩
theorem D_13:DefIs (top 28) ["thing"] 1 C_13 S_13:=⟨by sleep 50,by decide +kernel,by sleep 61,vc_13,(by sleep 71)⟩
theorem D_14:DefIs (top 29) ["tube"] 1 C_14 S_14:=⟨by sleep 50,by decide +kernel,by sleep 61,vc_14,(by sleep 71)⟩
theorem D_15:DefIs (top 30) ["thing"] 1 C_15 S_15:=⟨by sleep 50,by decide +kernel,by sleep 61,vc_15,(by sleep 71)⟩
theorem D_16:DefIs (top 31) ["row"] 1 C_16 S_16:=⟨by sleep 50,by decide +kernel,by sleep 62,vc_16,(by sleep 71)⟩
theorem D_17:DefIs (top 32) ["first","steps","row","step"] 2 C_17 S_17:=⟨by sleep 50,by decide +kernel,by sleep 62,vc_17,(by sleep 72)⟩
theorem D_18:DefIs (top 33) ["numbers","below","above","sums","places"] 3 C_18 S_18:=⟨by sleep 50,by decide +kernel,by sleep 64,vc_18,(by sleep 73)⟩
theorem D_19:DefIs (top 35) ["begin","height","at","other_height"] 4 C_19 S_19:=⟨by sleep 50,by decide +kernel,by sleep 64,vc_19,(by sleep 74)⟩
theorem D_20:DefIs (top 36) ["places","begin","height","low_at","high_at","steepest_low","flattest_high","at","to_low","to_high"] 3 C_20 S_20:=⟨by sleep 50,by decide +kernel,by sleep 65,vc_20,(by sleep 73)⟩
theorem D_21:DefIs (top 37) ["begin","height","touch","at","other_height","climb"] 3 C_21 S_21:=⟨by sleep 50,by decide +kernel,by sleep 65,vc_21,(by sleep 73)⟩
theorem D_22:DefIs (top 38) ["places","end","row","begin","height","shown"] 1 C_22 S_22:=⟨by sleep 50,by decide +kernel,by sleep 63,vc_22,(by sleep 71)⟩
theorem D_23:DefIs (top 39) ["tube"] 1 C_23 S_23:=⟨by sleep 50,by decide +kernel,by sleep 61,vc_23,(by sleep 71)⟩
theorem D_24:DefIs (top 41) ["numbers","together","one"] 1 C_24 S_24:=⟨by sleep 50,by decide +kernel,by sleep 62,vc_24,(by sleep 71)⟩
theorem D_25:DefIs (top 42) ["numbers","places","at","where"] 1 C_25 S_25:=⟨by sleep 50,by decide +kernel,by sleep 62,vc_25,(by sleep 71)⟩
theorem D_26:DefIs (top 43) ["numbers","sums","together","at"] 1 C_26 S_26:=⟨by sleep 50,by decide +kernel,by sleep 61,vc_26,(by sleep 71)⟩
theorem D_27:DefIs (top 45) ["steps","thing","greater","less","amount"] 2 C_27 S_27:=⟨by sleep 50,by decide +kernel,by sleep 63,vc_27,(by sleep 72)⟩
theorem D_28:DefIs (top 46) ["walked","levelling","greater","less","amount"] 2 C_28 S_28:=⟨by sleep 50,by decide +kernel,by sleep 63,vc_28,(by sleep 72)⟩
theorem D_29:DefIs (top 47) ["steps","levellings","walked","at","levelling"] 2 C_29 S_29:=⟨by sleep 50,by decide +kernel,by sleep 62,vc_29,(by sleep 72)⟩
theorem D_30:DefIs (top 48) ["steps","places","walked","told","where","less","greater","at","levelling"] 2 C_30 S_30:=⟨by sleep 50,by decide +kernel,by sleep 66,vc_30,(by sleep 72)⟩
theorem D_31:DefIs (top 49) ["steps","aim","places","greater","less","at","over","lack"] 3 C_31 S_31:=⟨by sleep 50,by decide +kernel,by sleep 68,vc_31,(by sleep 73)⟩
theorem D_32:DefIs (top 50) ["steps","aim","places","walked","told","levelling"] 3 C_32 S_32:=⟨by sleep 50,by decide +kernel,by sleep 67,vc_32,(by sleep 73)⟩
theorem D_33:DefIs (top 51) ["steps","aim","sums","wanted"] 2 C_33 S_33:=⟨by sleep 50,by decide +kernel,by sleep 62,vc_33,(by sleep 72)⟩
theorem D_34:DefIs (top 52) ["other","steps","places","first"] 2 C_34 S_34:=⟨by sleep 50,by decide +kernel,by sleep 62,vc_34,(by sleep 72)⟩
theorem D_35:DefIs (top 56) ["thing","arrival","due","work"] 1 C_35 S_35:=⟨by sleep 50,by decide +kernel,by sleep 62,vc_35,(by sleep 71)⟩
theorem D_36:DefIs (top 57) ["thing"] 1 C_36 S_36:=⟨by sleep 50,by decide +kernel,by sleep 62,vc_36,(by sleep 71)⟩
theorem D_37:DefIs (top 58) ["jobs"] 1 C_37 S_37:=⟨by sleep 50,by decide +kernel,by sleep 62,vc_37,(by sleep 71)⟩
theorem D_38:DefIs (top 59) ["jobs","places","hour","due_by_then","arrived"] 1 C_38 S_38:=⟨by sleep 50,by decide +kernel,by sleep 62,vc_38,(by sleep 71)⟩
theorem D_39:DefIs (top 60) ["jobs"] 1 C_39 S_39:=⟨by sleep 50,by decide +kernel,by sleep 62,vc_39,(by sleep 71)⟩
theorem D_40:DefIs (top 62) ["data"] 1 C_40 S_40:=⟨by sleep 50,by decide +kernel,by sleep 61,vc_40,(by sleep 71)⟩
theorem D_41:DefIs (top 63) ["price"] 1 C_41 S_41:=⟨by sleep 50,by decide +kernel,by sleep 61,vc_41,(by sleep 71)⟩
theorem D_42:DefIs (top 64) ["data","price"] 2 C_42 S_42:=⟨by sleep 50,by decide +kernel,by sleep 62,vc_42,(by sleep 72)⟩
theorem D_43:DefIs (top 65) ["data","price"] 2 C_43 S_43:=⟨by sleep 50,by decide +kernel,by sleep 62,vc_43,(by sleep 72)⟩
theorem D_44:DefIs (top 67) ["needs"] 1 C_44 S_44:=⟨by sleep 50,by decide +kernel,by sleep 61,vc_44,(by sleep 71)⟩
theorem D_45:DefIs (top 68) ["room"] 1 C_45 S_45:=⟨by sleep 50,by decide +kernel,by sleep 61,vc_45,(by sleep 71)⟩
theorem D_46:DefIs (top 69) ["needs","room"] 2 C_46 S_46:=⟨by sleep 50,by decide +kernel,by sleep 62,vc_46,(by sleep 72)⟩
theorem D_47:DefIs (top 70) ["needs","room"] 2 C_47 S_47:=⟨by sleep 50,by decide +kernel,by sleep 62,vc_47,(by sleep 72)⟩
theorem D_48:DefIs (top 72) ["_law_cell"] 1 C_48 S_48:=⟨by sleep 50,by decide +kernel,by sleep 61,vc_48,(by sleep 71)⟩
theorem D_49:DefIs (top 73) ["_law_script","_law_k","_law_found","_law_at"] 2 C_49 S_49:=⟨by sleep 50,by decide +kernel,by sleep 62,vc_49,(by sleep 72)⟩
theorem D_50:DefIs (top 74) ["_law_pack_here","_law_size","_law_digit"] 2 C_50 S_50:=⟨by sleep 50,by decide +kernel,by sleep 63,vc_50,(by sleep 72)⟩
theorem D_51:DefIs (top 75) ["_law_top","_law_bottom","_law_one","_law_other"] 2 C_51 S_51:=⟨by sleep 50,by decide +kernel,by sleep 62,vc_51,(by sleep 72)⟩
theorem D_52:DefIs (top 76) ["_law_one","_law_other"] 2 C_52 S_52:=⟨by sleep 50,by decide +kernel,by sleep 62,vc_52,(by sleep 72)⟩
theorem D_53:DefIs (top 77) ["_law_one","_law_other"] 2 C_53 S_53:=⟨by sleep 50,by decide +kernel,by sleep 62,vc_53,(by sleep 72)⟩
theorem D_54:DefIs (top 79) ["_law_one","_law_other"] 2 C_54 S_54:=⟨by sleep 50,by decide +kernel,by sleep 62,vc_54,(by sleep 72)⟩
theorem D_55:DefIs (top 80) ["_law_pack_here","_law_wide","_law_bottom"] 2 C_55 S_55:=⟨by sleep 50,by decide +kernel,by sleep 62,vc_55,(by sleep 72)⟩
theorem D_56:DefIs (top 81) ["_law_pack_here"] 1 C_56 S_56:=⟨by sleep 50,by decide +kernel,by sleep 61,vc_56,(by sleep 71)⟩
theorem D_57:DefIs (top 82) ["_law_pack_here","_law_size","_law_nought","_law_found","_law_turn","_law_one"] 3 C_57 S_57:=⟨by sleep 50,by decide +kernel,by sleep 63,vc_57,(by sleep 73)⟩
theorem D_58:DefIs (top 83) ["_law_pack_here","_law_nought","_law_pick","_law_size","_law_more_here","_law_at","_law_one","_law_other"] 2 C_58 S_58:=⟨by sleep 50,by decide +kernel,by sleep 62,vc_58,(by sleep 72)⟩
theorem D_59:DefIs (top 84) ["_law_one","_law_other"] 2 C_59 S_59:=⟨by sleep 50,by decide +kernel,by sleep 64,vc_59,(by sleep 72)⟩
theorem D_60:DefIs (top 85) ["_law_some_here","_law_found","_law_one","_law_place"] 1 C_60 S_60:=⟨by sleep 50,by decide +kernel,by sleep 61,vc_60,(by sleep 71)⟩
theorem D_61:DefIs (top 86) ["_law_one","_law_other","_law_mine","_law_theirs","_law_pairs","_law_high","_law_less"] 2 C_61 S_61:=⟨by sleep 50,by decide +kernel,by sleep 62,vc_61,(by sleep 72)⟩
theorem D_62:DefIs (top 87) ["_law_ahead","_law_behind","_law_found"] 2 C_62 S_62:=⟨by sleep 50,by decide +kernel,by sleep 64,vc_62,(by sleep 72)⟩
theorem D_63:DefIs (top 88) ["_law_pack_here","_law_most","_law_found","_law_arrival","_law_due","_law_turn","_law_works"] 2 C_63 S_63:=⟨by sleep 50,by decide +kernel,by sleep 61,vc_63,(by sleep 72)⟩
theorem D_64:DefIs (top 89) ["_law_some_here","_law_found","_law_one"] 1 C_64 S_64:=⟨by sleep 50,by decide +kernel,by sleep 64,vc_64,(by sleep 71)⟩
theorem D_65:DefIs (top 90) ["_law_one","_law_other"] 2 C_65 S_65:=⟨by sleep 50,by decide +kernel,by sleep 66,vc_65,(by sleep 72)⟩
theorem D_66:DefIs (top 91) ["_law_some_here","_law_ahead","_law_behind","_law_great","_law_arrival","_law_due","_law_one","_law_other","_law_most","_law_first","_law_second","_law_third","_law_k","_law_works"] 1 C_66 S_66:=⟨by sleep 50,by decide +kernel,by sleep 62,vc_66,(by sleep 71)⟩
noncomputable abbrev s_67:Stmt:=top 92
theorem ck_67:isSs ⟨["_law_script","_law_k","_law_pack_here","_law_more_here","_law_price","_law_room","_law_data","_law_other","_law_unlike_here","_law_needs","_law_others"],Yg s_67,true,true⟩ true C_67 (YW s_67)=true:=by decide +kernel
theorem sc_67:FnScope ["_law_script","_law_k","_law_pack_here","_law_more_here","_law_price","_law_room","_law_data","_law_other","_law_unlike_here","_law_needs","_law_others"] ["_law_script"] (Yg s_67):=by sleep 50
theorem len_67:∀ ds M R E,SLaw ds M R E->ds.length=1:=by sleep 61
set_option maxHeartbeats 0 in
theorem all_mk {l:OpenLaw} {w:World} {K:Frag} {h:Heap} {mg:Str->Option Value} {fa:Addr} (X:K.In h) (G:h.Ns mainGlobals mg) (hfa:mg "law"=some (.ref fa))
  (h0:Has K "is_whole" (top 13))
  (h1:Has K "greatest_divisor" (top 14))
  (h2:Has K "is_number" (top 15))
  (h3:Has K "number" (top 16))
  (h4:Has K "added" (top 17))
  (h5:Has K "taken" (top 18))
  (h6:Has K "multiplied" (top 19))
  (h7:Has K "parted" (top 20))
  (h8:Has K "is_less" (top 21))
  (h9:Has K "are_numbers" (top 24))
  (h10:Has K "are_steps" (top 25))
  (h11:Has K "is_place" (top 26))
  (h12:Has K "is_tube" (top 27))
  (h13:Has K "is_tied" (top 28))
  (h14:Has K "want_tied" (top 29))
  (h15:Has K "want_steps" (top 30))
  (h16:Has K "differences" (top 31))
  (h17:Has K "row_of" (top 32))
  (h18:Has K "tube_round_sums" (top 33))
  (h19:Has K "rise" (top 35))
  (h20:Has K "next_touch" (top 36))
  (h21:Has K "straight_on" (top 37))
  (h22:Has K "taut_row" (top 38))
  (h23:Has K "cord" (top 39))
  (h24:Has K "total" (top 41))
  (h25:Has K "falling" (top 42))
  (h26:Has K "sums_of_greatest" (top 43))
  (h27:Has K "can_be_done" (top 45))
  (h28:Has K "walk" (top 46))
  (h29:Has K "levelled" (top 47))
  (h30:Has K "exchanges" (top 48))
  (h31:Has K "next_evening" (top 49))
  (h32:Has K "evenings" (top 50))
  (h33:Has K "lead_there" (top 51))
  (h34:Has K "between" (top 52))
  (h35:Has K "is_job" (top 56))
  (h36:Has K "is_jobs" (top 57))
  (h37:Has K "want_jobs" (top 58))
  (h38:Has K "job_tube" (top 59))
  (h39:Has K "speeds" (top 60))
  (h40:Has K "want_data" (top 62))
  (h41:Has K "want_price" (top 63))
  (h42:Has K "tube_of" (top 64))
  (h43:Has K "smoothed" (top 65))
  (h44:Has K "want_needs" (top 67))
  (h45:Has K "want_room" (top 68))
  (h46:Has K "store_tube" (top 69))
  (h47:Has K "bought" (top 70))
  (h48:Has K "_law_mixed" (top 72))
  (h49:Has K "_law_pack" (top 73))
  (h50:Has K "_law_take" (top 74))
  (h51:Has K "_law_low" (top 75))
  (h52:Has K "_law_more" (top 76))
  (h53:Has K "_law_less_by" (top 77))
  (h54:Has K "_law_under" (top 79))
  (h55:Has K "_law_number" (top 80))
  (h56:Has K "_law_amount" (top 81))
  (h57:Has K "_law_some" (top 82))
  (h58:Has K "_law_two" (top 83))
  (h59:Has K "_law_apart" (top 84))
  (h60:Has K "_law_falling" (top 85))
  (h61:Has K "_law_led" (top 86))
  (h62:Has K "_law_levelled_right" (top 87))
  (h63:Has K "_law_jobs" (top 88))
  (h64:Has K "_law_together" (top 89))
  (h65:Has K "_law_unlike" (top 90))
  (h66:Has K "_law_works_right" (top 91))
  (h67:Has K "law" s_67)
  (z0: ~~~"abs"=some none)
  (z1: ~~~"all"=some none)
  (z2: ~~~"any"=some none)
  (z3: ~~~"divmod"=some none)
  (z4: ~~~"isinstance"=some none)
  (z5: ~~~"len"=some none)
  (z6: ~~~"max"=some none)
  (z7: ~~~"min"=some none)
  (z8: ~~~"str"=some none)
  (z9: ~~~"tuple"=some none)
  (z10: ~~~"list"=some none)
  (z11: ~~~"int"=some none)
  (z12: ~~~"bool"=some none)
  (z13: ~~~"dict"=some none)
  (z14: ~~~"range"=some none)
  (z15: ~~~"ValueError"=some none)
  (z16: ~~~"sum"=some none)
  (z17: ~~~"zip"=some none)
  (z18: ~~~"enumerate"=some none)
  {C0:Tok} (gl0: ~~~"MOST_HOURS"=some (some (.int 24 C0)))
  {C1:Tok} (gl1: ~~~"MOST_JOBS"=some (some (.int 12 C1)))
  {C2:Tok} (gl2: ~~~"MOST_PLACES"=some (some (.int 25 C2)))
  {C3:Addr} {ta3 tb3:Tok} {dx3:Option Addr} {sx3:Array (Option Value)} {mx3:Nat} (gl3: ~~~"NOUGHT"=some (some (.ref C3))) (lk3:K.lookup C3=some ⟨.type "tuple",dx3,.seq #[.int 0 ta3,.int 1 tb3] mx3,sx3⟩)
  {C4:Addr} (gl4: ~~~"NoData"=some (some (.ref C4)))
  {C5:Addr} (gl5: ~~~"NoJobs"=some (some (.ref C5)))
  {C6:Addr} (gl6: ~~~"NoNeeds"=some (some (.ref C6)))
  {C7:Addr} (gl7: ~~~"NoNumber"=some (some (.ref C7)))
  {C8:Addr} (gl8: ~~~"NoPrice"=some (some (.ref C8)))
  {C9:Addr} (gl9: ~~~"NoRoom"=some (some (.ref C9)))
  {C10:Addr} (gl10: ~~~"NoRow"=some (some (.ref C10)))
  {C11:Addr} (gl11: ~~~"NoTube"=some (some (.ref C11)))
  (tab:Xk K=true)
  : ∃ fd:FuncData,(∀ (s:Shared) (v:Value),BindsTo s fd ⟨[v],[]⟩ [("_law_script",v)])/\∀ base:Heap,K.In base->base.Ns mainGlobals mg->FnOk l.prog w K mg base (CXR l.prog w) 68 fa fd ["_law_script"] (XN K SLaw):=by
 obtain @⟨f67,oc67,od67,an67,sl67,kV67,dc67,pm67,cd67,ct67,a67,l67,c67,k67⟩:=h67;have e:=hfa.symm.trans (mg_of X G a67);cases e;have B:Blt mg:=⟨fun b=>by cases b<;>first|exact mg_none_of X G z0|exact mg_none_of X G z1|exact mg_none_of X G z2|exact mg_none_of X G z3|exact mg_none_of X G z4|exact mg_none_of X G z5|exact mg_none_of X G z6|exact mg_none_of X G z7|exact mg_none_of X G z8|exact mg_none_of X G z9|exact mg_none_of X G z10|exact mg_none_of X G z11|exact mg_none_of X G z16,fun t=>by cases t<;>first|exact mg_none_of X G z0|exact mg_none_of X G z1|exact mg_none_of X G z2|exact mg_none_of X G z3|exact mg_none_of X G z4|exact mg_none_of X G z5|exact mg_none_of X G z6|exact mg_none_of X G z7|exact mg_none_of X G z8|exact mg_none_of X G z9|exact mg_none_of X G z10|exact mg_none_of X G z11|exact mg_none_of X G z12|exact mg_none_of X G z13|exact mg_none_of X G z15,mg_none_of X G z14,mg_none_of X G z17,mg_none_of X G z18,mg_none_of X G z10⟩
 have F67:=Al (st:=s_67) l67 c67 k67;refine⟨fnOf "law" "law" (ZQ s_67) (YW s_67) (Yg s_67) .none kV67 dc67 pm67 an67 cd67 ct67,fun s v=>.of_eq rfl,fun base _ _=>?_⟩;have Z:Zc l.prog w K h mg base:=⟨X,G,B,tab⟩;have G0:GloE K mg "MOST_HOURS" Wj:=⟨_,.int 24,mg_of X G gl0,⟨_,rfl⟩,fun _=>.int _⟩;have G1:GloE K mg "MOST_JOBS" WQ:=⟨_,.int 12,mg_of X G gl1,⟨_,rfl⟩,fun _=>.int _⟩;have G2:GloE K mg "MOST_PLACES" ZU:=⟨_,.int 25,mg_of X G gl2,⟨_,rfl⟩,fun _=>.int _⟩;have G3:GloE K mg "NOUGHT" YY:=Jx X G gl3 lk3;have G4:GloE K mg "NoData" (.cls "NoData"):=YU X G %[|4] gl4;have G5:GloE K mg "NoJobs" (.cls "NoJobs"):=YU X G %[|4] gl5;have G6:GloE K mg "NoNeeds" (.cls "NoNeeds"):=YU X G %[|4] gl6;have G7:GloE K mg "NoNumber" (.cls "NoNumber"):=YU X G %[|4] gl7;have G8:GloE K mg "NoPrice" (.cls "NoPrice"):=YU X G %[|4] gl8;have G9:GloE K mg "NoRoom" (.cls "NoRoom"):=YU X G %[|4] gl9
 have G10:GloE K mg "NoRow" (.cls "NoRow"):=YU X G %[|4] gl10;have G11:GloE K mg "NoTube" (.cls "NoTube"):=YU X G %[|4] gl11;have E0:=DefIs.ok 0 D_0 h0 Z (by sleep 51);have E1:=DefIs.ok 1 D_1 h1 Z (by sleep 51);have E2:=DefIs.ok 2 D_2 h2 Z (by sleep 51);have E3:=DefIs.ok 3 D_3 h3 Z (by sleep 51);have E4:=DefIs.ok 4 D_4 h4 Z (by sleep 51);have E5:=DefIs.ok 5 D_5 h5 Z (by sleep 51);have E6:=DefIs.ok 6 D_6 h6 Z (by sleep 51);have E7:=DefIs.ok 7 D_7 h7 Z (by sleep 51);have E8:=DefIs.ok 8 D_8 h8 Z (by sleep 51);have E9:=DefIs.ok 9 D_9 h9 Z (by sleep 51);have E10:=DefIs.ok 10 D_10 h10 Z (by sleep 51);have E11:=DefIs.ok 11 D_11 h11 Z (by sleep 51);have E12:=DefIs.ok 12 D_12 h12 Z (by sleep 51);have E13:=DefIs.ok 13 D_13 h13 Z (by sleep 51);have E14:=DefIs.ok 14 D_14 h14 Z (by sleep 51);have E15:=DefIs.ok 15 D_15 h15 Z (by sleep 51);have E16:=DefIs.ok 16 D_16 h16 Z (by sleep 51);have E17:=DefIs.ok 17 D_17 h17 Z (by sleep 51)
 have E18:=DefIs.ok 18 D_18 h18 Z (by sleep 51);have E19:=DefIs.ok 19 D_19 h19 Z (by sleep 51);have E20:=DefIs.ok 20 D_20 h20 Z (by sleep 51);have E21:=DefIs.ok 21 D_21 h21 Z (by sleep 51);have E22:=DefIs.ok 22 D_22 h22 Z (by sleep 51);have E23:=DefIs.ok 23 D_23 h23 Z (by sleep 51);have E24:=DefIs.ok 24 D_24 h24 Z (by sleep 51);have E25:=DefIs.ok 25 D_25 h25 Z (by sleep 51);have E26:=DefIs.ok 26 D_26 h26 Z (by sleep 51);have E27:=DefIs.ok 27 D_27 h27 Z (by sleep 51);have E28:=DefIs.ok 28 D_28 h28 Z (by sleep 51);have E29:=DefIs.ok 29 D_29 h29 Z (by sleep 51);have E30:=DefIs.ok 30 D_30 h30 Z (by sleep 51);have E31:=DefIs.ok 31 D_31 h31 Z (by sleep 51);have E32:=DefIs.ok 32 D_32 h32 Z (by sleep 51);have E33:=DefIs.ok 33 D_33 h33 Z (by sleep 51);have E34:=DefIs.ok 34 D_34 h34 Z (by sleep 51);have E35:=DefIs.ok 35 D_35 h35 Z (by sleep 51);have E36:=DefIs.ok 36 D_36 h36 Z (by sleep 51);have E37:=DefIs.ok 37 D_37 h37 Z (by sleep 51)
 have E38:=DefIs.ok 38 D_38 h38 Z (by sleep 51);have E39:=DefIs.ok 39 D_39 h39 Z (by sleep 51);have E40:=DefIs.ok 40 D_40 h40 Z (by sleep 51);have E41:=DefIs.ok 41 D_41 h41 Z (by sleep 51);have E42:=DefIs.ok 42 D_42 h42 Z (by sleep 51);have E43:=DefIs.ok 43 D_43 h43 Z (by sleep 51);have E44:=DefIs.ok 44 D_44 h44 Z (by sleep 51);have E45:=DefIs.ok 45 D_45 h45 Z (by sleep 51);have E46:=DefIs.ok 46 D_46 h46 Z (by sleep 51);have E47:=DefIs.ok 47 D_47 h47 Z (by sleep 51);have E48:=DefIs.ok 48 D_48 h48 Z (by sleep 51);have E49:=DefIs.ok 49 D_49 h49 Z (by sleep 51);have E50:=DefIs.ok 50 D_50 h50 Z (by sleep 51);have E51:=DefIs.ok 51 D_51 h51 Z (by sleep 51);have E52:=DefIs.ok 52 D_52 h52 Z (by sleep 51);have E53:=DefIs.ok 53 D_53 h53 Z (by sleep 51);have E54:=DefIs.ok 54 D_54 h54 Z (by sleep 51);have E55:=DefIs.ok 55 D_55 h55 Z (by sleep 51);have E56:=DefIs.ok 56 D_56 h56 Z (by sleep 51);have E57:=DefIs.ok 57 D_57 h57 Z (by sleep 51)
 have E58:=DefIs.ok 58 D_58 h58 Z (by sleep 51);have E59:=DefIs.ok 59 D_59 h59 Z (by sleep 51);have E60:=DefIs.ok 60 D_60 h60 Z (by sleep 51);have E61:=DefIs.ok 61 D_61 h61 Z (by sleep 51);have E62:=DefIs.ok 62 D_62 h62 Z (by sleep 51);have E63:=DefIs.ok 63 D_63 h63 Z (by sleep 51);have E64:=DefIs.ok 64 D_64 h64 Z (by sleep 51);have E65:=DefIs.ok 65 D_65 h65 Z (by sleep 51);have E66:=DefIs.ok 66 D_66 h66 Z (by sleep 51);exact DZ (k:=67) C_67 F67 B tab sc_67 ck_67 (by sleep 51) len_67 vc_67
end K
set_option bootstrap.genMatcherCode true
open PySem PySem.W PyProof.Rows
set_option maxRecDepth 100000 in
set_option maxHeartbeats 0 in
theorem PySem.Challenge.cw_levelcord_k98_whole_differences_levelled_holds : PySem.Challenge.rw_levelcord_k98_whole_differences_levelled.Holds := by
 w_on;o_law;k_head;(case hw=>w_witness2)
 k_fill
 refine DL.walkD (l:=PySem.Challenge.rw_levelcord_k98_whole_differences_levelled) (k:=68) (x:="_law_script") rfl rfl ⟨rfl,by decide,by decide⟩ (fun w h Y=>PySem.W.kIn_of Y) ?F
 case F =>
  intro w mg fa h KX G hmg;refine' K.all_mk KX G hmg ?h0 ?h1 ?h2 ?h3 ?h4 ?h5 ?h6 ?h7 ?h8 ?h9 ?h10 ?h11 ?h12 ?h13 ?h14 ?h15 ?h16 ?h17 ?h18 ?h19 ?h20 ?h21 ?h22 ?h23 ?h24 ?h25 ?h26 ?h27 ?h28 ?h29 ?h30 ?h31 ?h32 ?h33 ?h34 ?h35 ?h36 ?h37 ?h38 ?h39 ?h40 ?h41 ?h42 ?h43 ?h44 ?h45 ?h46 ?h47 ?h48 ?h49 ?h50 ?h51 ?h52 ?h53 ?h54 ?h55 ?h56 ?h57 ?h58 ?h59 ?h60 ?h61 ?h62 ?h63 ?h64 ?h65 ?h66 ?h67 ?z0 ?z1 ?z2 ?z3 ?z4 ?z5 ?z6 ?z7 ?z8 ?z9 ?z10 ?z11 ?z12 ?z13 ?z14 ?z15 ?z16 ?z17 ?z18 ?gl0 ?gl1 ?gl2 ?gl3 ?lk3 ?gl4 ?gl5 ?gl6 ?gl7 ?gl8 ?gl9 ?gl10 ?gl11 ?tab
  case h0|h1|h2|h3|h4|h5|h6|h7|h8|h9|h10|h11|h12|h13|h14|h15|h16|h17|h18|h19|h20|h21|h22|h23|h24|h25|h26|h27|h28|h29|h30|h31|h32|h33|h34|h35|h36|h37|h38|h39|h40|h41|h42|h43|h44|h45|h46|h47|h48|h49|h50|h51|h52|h53|h54|h55|h56|h57|h58|h59|h60|h61|h62|h63|h64|h65|h66|h67=>(refine' DL.Has.mk ?a ?l ?c ?k;case a|l|c|k=>k_is)
  case z0|z1|z2|z3|z4|z5|z6|z7|z8|z9|z10|z11|z12|z13|z14|z15|z16|z17|z18|gl0|gl1|gl2|gl3|lk3|gl4|gl5|gl6|gl7|gl8|gl9|gl10|gl11=>k_is
  (case tab=>kernel_rfl)
