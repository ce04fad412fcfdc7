import PyProof.Rows.All
import Wide.All
import OpenK.AllK
import Wide.FinOn
import Lean
import PyProof.EqAt
import PyProof.EqKinds
import PyProof.TupleCall
import PyProof.SumAnyB
import PySem.Challenge.RW_levelcord_k94_whole_what_is_taken_is_so
set_option Elab.async false
set_option linter.all false
set_option maxRecDepth 100000
set_option maxHeartbeats 4000000
set_option genSizeOf false
local macro_rules
 | `(tactic| simp[0,$xs,*])=>do
  let ys:=("YD dVar dC d2 dNil YY dTup dLst dCB Zl Bk dAnd dOr dNot Bo dOrV dIfE bInt bOp cInt cOp fAbs fMax fMin fStr UV fInt truD dTru VG EG dNeg Bl JM dSl Mt Ms dRev Bm dSeq Lo Mu GT dRet Mr dIfS Ln Xw GR Ec GQ dAsg dPar dTwo dAug GP fSum dApp dExt dIns dIdx GV AJ CGs.len plain rE rEs rO rG rGs rI EF dTry rS Y1".splitOn " ").toArray.map fun s=>(⟨Lean.mkNode `Lean.Parser.Tactic.simpLemma #[Lean.mkNullNode,Lean.mkNullNode,Lean.mkIdent (`DL++s.toName)]⟩:Lean.TSyntax `Lean.Parser.Tactic.simpLemma)
  `(tactic| simp[$ys,*,$xs,*])
 | `(tactic| dsimp only[0,$xs,*])=>do
  let ys:=("YD dVar dC d2 dNil YY dTup dLst dCB Zl Bk dAnd dOr dNot Bo dOrV dIfE bInt bOp cInt cOp fAbs fMax fMin fStr UV fInt truD dTru VG EG dNeg Bl JM dSl Mt Ms dRev Bm dSeq Lo Mu GT dRet Mr dIfS Ln Xw GR Ec GQ dAsg dPar dTwo dAug GP fSum dApp dExt dIns dIdx GV AJ CGs.len plain rE rEs rO rG rGs rI EF dTry rS Y1".splitOn " ").toArray.map fun s=>(⟨Lean.mkNode `Lean.Parser.Tactic.simpLemma #[Lean.mkNullNode,Lean.mkNullNode,Lean.mkIdent (`DL++s.toName)]⟩:Lean.TSyntax `Lean.Parser.Tactic.simpLemma)
  `(tactic| dsimp only[$ys,*,$xs,*])
 | `(tactic| simp only[0,$xs,*])=>do
  let ys:=("YD dVar dC d2 dNil YY dTup dLst dCB Zl Bk dAnd dOr dNot Bo dOrV dIfE bInt bOp cInt cOp fAbs fMax fMin fStr UV fInt truD dTru VG EG dNeg Bl JM dSl Mt Ms dRev Bm dSeq Lo Mu GT dRet Mr dIfS Ln Xw GR Ec GQ dAsg dPar dTwo dAug GP fSum dApp dExt dIns dIdx GV AJ CGs.len plain rE rEs rO rG rGs rI EF dTry rS Y1".splitOn " ").toArray.map fun s=>(⟨Lean.mkNode `Lean.Parser.Tactic.simpLemma #[Lean.mkNullNode,Lean.mkNullNode,Lean.mkIdent (`DL++s.toName)]⟩:Lean.TSyntax `Lean.Parser.Tactic.simpLemma)
  `(tactic| simp only[$ys,*,$xs,*])
local macro_rules | `(tactic| omega)=>`(tactic| lia)
set_option bootstrap.genMatcherCode false
set_option bootstrap.genMatcherCode true
local macro_rules | `(%[$xs,*|$n])=>match n.raw.isNatLit? with
 | some 0=>do
  let mut r:Lean.Term<-`(.nil)
  for x in xs.getElems.reverse do r<-`(.cons $x $r)
  return r
 | some 1=>`(⟨fun _ _=>rfl,fun _ _=>rfl,fun _=>rfl,fun _ _=>rfl,fun _ _ _ _=>rfl⟩)
 | some 2=>`((fun _ _ _ z=>nomatch z))
 | some 3=>`((Nat.le_refl _))
 | some 4=>`(by decide)
 | some 5=>`(by omega)
 | _=>Lean.Macro.throwUnsupported
set_option bootstrap.genMatcherCode false
open PySem.W (Frag hideAll)
noncomputable section
namespace L2
open PySem PySem.Spec PyProof.Rows
abbrev Key:=Sum Int Str
noncomputable def GO:Key->Value->Bool
 | .inl k,v=>Value.isInt k v
 | .inr x,v=>Value.isStrOf x v
noncomputable def keyH (w:World):Key->Int
 | .inl k=>hashInt k
 | .inr x=>hashStr w x
theorem Yy:∀ {k:Key} {v:Value},GO k v=true->(∃ i t,k=Sum.inl i/\v=Value.int i t)\/(∃ x t,k=Sum.inr x/\v=Value.str x t)
 | .inl i,v,h=>by
  obtain⟨t,e⟩:=Value.isInt_shape (k:=i) (v:=v) h;exact .inl ⟨i,t,rfl,e⟩
 | .inr x,v,h=>by
  obtain⟨t,e⟩:=Value.isStrOf_shape (x:=x) (v:=v) h;exact .inr ⟨x,t,rfl,e⟩
theorem Id (a b:Int):decide ((Sum.inl a:Key)=Sum.inl b)=(a==b):=by
 by_cases e:a=b
 ·subst e;simp
 ·have h:¬ (Sum.inl a:Key)=Sum.inl b:=fun q=>e (Sum.inl.inj q)
  rw[decide_eq_false h];exact (beq_eq_false_iff_ne.mpr e).symm
theorem Ia (a b:Str):decide ((Sum.inr a:Key)=Sum.inr b)=decide (a=b):=by
 by_cases e:a=b
 ·subst e;simp
 ·have h:¬ (Sum.inr a:Key)=Sum.inr b:=fun q=>e (Sum.inr.inj q)
  rw[decide_eq_false h,decide_eq_false e]
theorem Ic (a:Int) (b:Str):decide ((Sum.inl a:Key)=Sum.inr b)=false:=decide_eq_false (fun q=>nomatch q)
theorem Ib (a:Str) (b:Int):decide ((Sum.inr a:Key)=Sum.inl b)=false:=decide_eq_false (fun q=>nomatch q)
noncomputable def UO (prog:Program) (w:World):PySem.KeyKind prog w Key where
 is:=GO
 hash:=keyH w
 inj:=fun v a b ha hb=>by
  rcases Yy ha with ⟨i,t,rfl,rfl⟩|⟨x,t,rfl,rfl⟩
  ·rcases Yy hb with ⟨j,u,rfl,e⟩|⟨y,u,rfl,e⟩
   ·injection e with e1 _;rw[e1]
   ·exact nomatch e
  ·rcases Yy hb with ⟨j,u,rfl,e⟩|⟨y,u,rfl,e⟩
   ·exact nomatch e
   ·injection e with e1 _;rw[e1]
 byValue:=fun k v h=>by
  rcases Yy h with ⟨i,t,rfl,rfl⟩|⟨x,t,rfl,rfl⟩<;>rfl
 pyHash:=fun hv h=>by
  rcases Yy hv with ⟨i,t,rfl,rfl⟩|⟨x,t,rfl,rfl⟩
  ·exact wpAny_pyHash_int h
  ·exact wpAny_pyHash_str h
 eqBool:=fun hu hv h=>by
  rcases Yy hu with ⟨i,t,rfl,rfl⟩|⟨x,t,rfl,rfl⟩
  ·rcases Yy hv with ⟨j,u,rfl,rfl⟩|⟨y,u,rfl,rfl⟩
   ·rw[Id] at h;exact wpAny_eqBool_int h
   ·rw[Ic] at h;exact SeqAt.EqAt.int_str i t y u _ _ _ _ h
  ·rcases Yy hv with ⟨j,u,rfl,rfl⟩|⟨y,u,rfl,rfl⟩
   ·rw[Ib] at h;exact SeqAt.EqAt.str_int x t j u _ _ _ _ h
   ·rw[Ia] at h;exact wpAny_eqBool_str h
 «strs»:=fun k x t v h=>by
  rcases Yy h with ⟨i,u,rfl,e⟩|⟨y,u,rfl,e⟩
  ·exact nomatch e
  ·injection e with e1 _
   subst e1;cases v<;>rfl
end L2
namespace L2
open PySem PySem.Spec PyProof.Rows
inductive V where
 | non|bl (b:Bool)|int (i:Int)|str (x:Str)|byt (b:Array UInt8)|flt (b:UInt64)|ref (a:Addr)|ty (n:String)
 deriving DecidableEq
noncomputable def RelV:V->Value->Prop
 | .non,u=>u=Value.none
 | .bl b,u=>u=Value.bool b
 | .int i,u=>∃ t,u=Value.int i t
 | .str x,u=>∃ t,u=Value.str x t
 | .byt b,u=>∃ t,u=Value.bytes b t
 | .flt b,u=>∃ t,u=Value.float b t
 | .ref a,u=>u=Value.ref a
 | .ty n,u=>u=Value.type n
abbrev Vals:List V->List Value->Prop:=Paired RelV
theorem Vals.length (r:Vals xs us):xs.length=us.length:=Paired.length r
theorem Vals.get:∀ {xs:List V} {us:List Value} {i:Nat} {x:V},Vals xs us->xs[i]?=some x->∃ u,us[i]?=some u/\RelV x u
 | _,_,_,_,.nil,e=>by simp at e
 | _,_,0,_,.cons r _,e=>by simp at e;subst e;exact⟨_,rfl,r⟩
 | _,_,i+1,x,.cons _ t,e=>by
  obtain⟨u,h1,h2⟩:=Vals.get (i:=i) (x:=x) t (by simpa using e);exact⟨u,by simpa using h1,h2⟩
theorem Vals.set (r:RelV x u):∀ {xs:List V} {us:List Value} (i:Nat),Vals xs us->Vals (xs.set i x) (us.set i u)
 | _,_,_,.nil=>.nil
 | _,_,0,.cons _ t=>.cons r t
 | _,_,i+1,.cons q t=>.cons q (Vals.set r i t)
theorem Vals.append:∀ {xs ys:List V} {us ws:List Value},Vals xs us->Vals ys ws->Vals (xs++ys) (us++ws)
 | _,_,_,_,.nil,s=>s
 | _,_,_,_,.cons r t,s=>.cons r (Vals.append t s)
theorem Vals.take:∀ {xs:List V} {us:List Value} (n:Nat),Vals xs us->Vals (xs.take n) (us.take n)
 | _,_,0,_=>.nil
 | _,_,_+1,.nil=>.nil
 | _,_,n+1,.cons r t=>.cons r (Vals.take n t)
theorem Vals.drop:∀ {xs:List V} {us:List Value} (n:Nat),Vals xs us->Vals (xs.drop n) (us.drop n)
 | _,_,0,r=>r
 | _,_,_+1,.nil=>.nil
 | _,_,n+1,.cons _ t=>Vals.drop n t
noncomputable def RelO:Option V->Option Value->Prop
 | some v,some u=>RelV v u
 | none,none=>True
 | _,_=>False
noncomputable def KV {κ:Type}:List (κ×V)->List (κ×Value)->Prop:=Paired fun (p:κ×V) (q:κ×Value)=>p.1=q.1/\RelV p.2 q.2
noncomputable def kV:Key->V
 | .inl i=>.int i
 | .inr x=>.str x
inductive HO where
 | lst (xs:List V)
 | tup (xs:List V)
 | dK (kvs:List (Key×V))|dT (kvs:List (List Key×V))
 | set (S:Int->Bool) (n:Nat)
 | ins (C dx:Addr) (fs:List (Str×V))
 | own (x:Addr)
 | xd (fs:List (Str×V))
 | met (f x:Addr)
 | rng (lo hi:Int)
 | frz (o:Obj) (u:HO)
 | tbl (ps:Array Value)
 | ext (φ:Heap->Prop)
abbrev Hp:=Addr->Option HO
noncomputable def upd (H:Hp) (a:Addr) (o:HO):Hp:=fun b=>if b=a then some o else H b
theorem upd_same:upd H a o a=some o:=by unfold upd;rw[if_pos rfl]
theorem Yc (h:b≠a):upd H a o b=H b:=by unfold upd;rw[if_neg h]
theorem Zw {H:Hp} {a b:Addr} {o:HO} (h:H a=some o) (h':H b=none):a≠b:=by
 intro e;subst e;rw[h] at h';cases h'
section
variable (P:Program) (w:World)
noncomputable def ObjOk (H:Hp) (h:Heap) (a:Addr):HO->Prop
 | .lst xs=>xs.length<=sizeLine/\∃ (its:List Value) (n:Nat),Vals xs its/\h.get? a=some {cls:=.type "list",data:=.seq its.toArray n}
 | .tup xs=>xs.length<=sizeLine/\∃ its:List Value,Vals xs its/\IsTup h a its.toArray
 | .dK kvs=>kvs.length<=sizeLine/\(a==sysModules)=false/\∃ vs,KV kvs vs/\h.DictOf (UO P w) a vs
 | .dT kvs=>kvs.length<=sizeLine/\(a==sysModules)=false/\∃ xs:List (List Key×Addr×Value),
   Paired (fun (p:List Key×V) (q:List Key×Addr×Value)=>p.1=q.1/\H q.2.1=some (.tup (p.1.map kV))/\RelV p.2 q.2.2) kvs xs /\
   ∃ o es ep,h.get? a=some o/\o.ExactDict/\o.data=.dict es ep/\es.toList=xs.map (entryOfKey (tupleKind (UO P w)))/\(xs.map (·.1)).Nodup
 | .set S n=>h.SetOf (intKind P w) a S n
 | .ins C dx fs=>H dx=some (.own a)/\fs.length<=1000/\dx≠a/\h.get? a=some (PySem.W.instObj C dx) /\
   ∃ mA,h.Ns1 dx mA/\(∀ f,RelO (fs.lookup f) (mA f))/\PySem.Within mA (fs.map (·.1))
 | .own _=>∃ o,h.get? a=some o
 | .xd fs=>∃ mA,h.Ns1 a mA/\∀ f,RelO (fs.lookup f) (mA f)
 | .rng lo hi=>∃ t u v,h.get? a=some {cls:=.type "range",data:=.fields #[.int lo t,.int hi u,.int 1 v]}
 | .frz o u=>h.get? a=some o/\ObjOk H h a u
 | .tbl ps=>h.get? a=some {cls:=.none,data:=.fields ps}
 | .met f x=>h.get? a=some (PySem.W.methodObj (.ref f) (.ref x))
 | .ext φ=>φ h/\(∃ o,h.get? a=some o)/\∀ h1 h2:Heap,φ h1->(∀ o,h1.get? a=some o->h2.get? a=some o)->φ h2
noncomputable def HOk (H:Hp) (h:Heap):Prop:=∀ a o,H a=some o->ObjOk P w H h a o
end
section
variable {P:Program} {w:World} {H H':Hp} {h h':Heap} {a:Addr} {o:HO}
theorem ObjOk.lt (x:ObjOk P w H h a o):a<h.objs.size:=by
 cases o with
 | lst xs=>obtain⟨_,_,_,_,e⟩:=x;exact Heap.lt_size e
 | tup xs=>obtain⟨_,_,_,p⟩:=x;exact p.lt
 | dK kvs=>obtain⟨_,_,_,_,o,_,_,e,_⟩:=x;exact Heap.lt_size e
 | dT kvs=>obtain⟨_,_,_,_,o,_,_,e,_⟩:=x;exact Heap.lt_size e
 | set S n=>obtain⟨o,_,_,_,e,_⟩:=x;exact Heap.lt_size e
 | ins C dx fs=>obtain⟨_,_,_,e,_⟩:=x;exact Heap.lt_size e
 | own y=>obtain⟨_,e⟩:=x;exact Heap.lt_size e
 | xd fs=>obtain⟨_,⟨_,_,_,e,_⟩,_⟩:=x;exact Heap.lt_size e
 | rng lo hi=>obtain⟨_,_,_,e⟩:=x;exact Heap.lt_size e
 | frz ob u=>obtain⟨e,_⟩:=x;exact Heap.lt_size e
 | tbl ps=>exact Heap.lt_size (show h.get? a=some _ from x)
 | met f y=>exact Heap.lt_size (show h.get? a=some _ from x)
 | ext φ=>obtain⟨_,⟨_,e⟩,_⟩:=x;exact Heap.lt_size e
theorem Paired.mapP:∀ {l₁:List α} {l₂:List β},Paired F l₁ l₂->(∀ a b,F a b->G a b)->Paired G l₁ l₂
 | _,_,.nil,_=>.nil
 | _,_,.cons r t,f=>.cons (f _ _ r) (Paired.mapP t f)
theorem ObjOk.stay (x:ObjOk P w H h a o) (k:∀ b u,(b=a\/H b=some (.own a))->h.get? b=some u->h'.get? b=some u)
  (ho:∀ b,H b=some (.own a)->H' b=some (.own a)) (ht:∀ b xs,H b=some (.tup xs)->H' b=some (.tup xs)):ObjOk P w H' h' a o:=by
 induction o with
 | lst xs=>obtain⟨z,its,n,r,e⟩:=x;exact⟨z,its,n,r,k _ _ (.inl rfl) e⟩
 | tup xs=>obtain⟨z,its,r,ob,e,c⟩:=x;exact⟨z,its,r,ob,k _ _ (.inl rfl) e,c⟩
 | dK kvs=>obtain⟨z,y,vs,r,ob,es,ep,e,c⟩:=x;exact⟨z,y,vs,r,ob,es,ep,k _ _ (.inl rfl) e,c⟩
 | dT kvs =>
  obtain⟨z,y,xs,r,ob,es,ep,e,c⟩:=x;exact⟨z,y,xs,Paired.mapP r fun p q z=>⟨z.1,ht _ _ z.2.1,z.2.2⟩,ob,es,ep,k _ _ (.inl rfl) e,c⟩
 | set S n=>obtain⟨ob,es,ep,t,e,c⟩:=x;exact⟨ob,es,ep,t,k _ _ (.inl rfl) e,c⟩
 | ins C dx fs =>
  obtain⟨d,z,ne,e,mA,⟨od,es,ep,e2,c⟩,r⟩:=x;exact⟨ho _ d,z,ne,k _ _ (.inl rfl) e,mA,⟨od,es,ep,k _ _ (.inr d) e2,c⟩,r⟩
 | own y=>obtain⟨ob,e⟩:=x;exact⟨ob,k _ _ (.inl rfl) e⟩
 | xd fs=>obtain⟨mA,⟨od,es,ep,e,c⟩,r⟩:=x;exact⟨mA,⟨od,es,ep,k _ _ (.inl rfl) e,c⟩,r⟩
 | rng lo hi=>obtain⟨t,u,v,e⟩:=x;exact⟨t,u,v,k _ _ (.inl rfl) e⟩
 | frz ob u ih=>obtain⟨e,q⟩:=x;exact⟨k _ _ (.inl rfl) e,ih q⟩
 | tbl ps =>
  have e:h.get? a=some {cls:=.none,data:=.fields ps}:=x;show h'.get? a=some {cls:=.none,data:=.fields ps};exact k a _ (.inl rfl) e
 | met f y =>
  have e:h.get? a=some (PySem.W.methodObj (.ref f) (.ref y)):=x;show h'.get? a=some (PySem.W.methodObj (.ref f) (.ref y));exact k a _ (.inl rfl) e
 | ext φ=>obtain⟨p,⟨o,e⟩,st⟩:=x;exact⟨st _ _ p fun o q=>k _ _ (.inl rfl) q,⟨o,k _ _ (.inl rfl) e⟩,st⟩
theorem HOk.lt (x:HOk P w H h) (e:H a=some o):a<h.objs.size:=(x a o e).lt
theorem HOk.fresh (x:HOk P w H h) (e:h.objs.size<=a):H a=none:=by
 cases q:H a with
 | none=>rfl
 | some u=>exact absurd (Nat.lt_of_lt_of_le (x.lt q) e) (Nat.lt_irrefl _)
theorem HOk.kept (x:HOk P w H h) (k:∀ b u,h.get? b=some u->h'.get? b=some u):HOk P w H h':=fun a o e =>
 (x a o e).stay (fun b u _ q=>k b u q) (fun _ q=>q) fun _ _ q=>q
theorem HOk.laid (x:HOk P w H h) (k:∀ b u,h.get? b=some u->h'.get? b=some u) (hp:h.objs.size<=a) (new:ObjOk P w (upd H a o) h' a o):HOk P w (upd H a o) h':=fun b u e=>by
 have hn:=x.fresh hp;by_cases hb:b=a
 ·subst hb;rw[upd_same] at e;cases e;exact new
 ·rw[Yc hb] at e
  exact (x b u e).stay (fun c v _ q=>k c v q) (fun c q=>by rw[Yc (Zw q hn)];exact q) fun c xs q=>by rw[Yc (Zw q hn)];exact q
end
noncomputable def Rd (H:Hp) (a:Addr) (u:HO):Prop:=H a=some u\/∃ o,H a=some (.frz o u)
theorem Rd.of (h:H a=some u):Rd H a u:=.inl h
theorem Rd.ok (r:Rd H a u) (x:HOk P w H h):ObjOk P w H h a u:=by
 rcases r with r|⟨o,r⟩
 ·exact x a u r
 ·obtain⟨_,q⟩:=x a _ r
  exact q
noncomputable def Mut:Option HO->Prop
 | some (.lst _)=>True
 | some (.dK _)=>True
 | some (.dT _)=>True
 | some (.set _ _)=>True
 | some (.ins _ _ _)=>True
 | some (.ext _)=>True
 | _=>False
section
variable {P:Program} {w:World} {H:Hp} {h h':Heap} {x e:Addr} {o':HO}
theorem HOk.write (ok:HOk P w H h) (mu:Mut (H x)) (he:e=x\/H e=some (.own x)) (k:∀ b u,b≠e->h.get? b=some u->h'.get? b=some u) (heo:∃ u,h'.get? e=some u)
  (new:ObjOk P w (upd H x o') h' x o'):HOk P w (upd H x o') h':=fun b u q=>by
 have nown:∀ c y,H c=some (.own y)->c≠x:=fun c y r z=>by subst z;rw[r] at mu;exact mu
 have ntup:∀ c xs,H c=some (.tup xs)->c≠x:=fun c xs r z=>by subst z;rw[r] at mu;exact mu
 by_cases hb:b=x
 ·subst hb;rw[upd_same] at q;cases q;exact new
 ·rw[Yc hb] at q
  by_cases hbe:b=e
  ·have q':H b=some (.own x):=by
    rcases he with z|z
    ·exact absurd (hbe.trans z) hb
    ·rw[hbe];exact z
   rw[q] at q';cases q';obtain⟨v,hv⟩:=heo;exact⟨v,by rw[hbe];exact hv⟩
  ·refine (ok b u q).stay (fun c v hc r=>k c v ?_ r) (fun c r=>by rw[Yc (nown c b r)];exact r) fun c xs r=>by rw[Yc (ntup c xs r)];exact r
   rcases hc with rfl|hc
   ·exact hbe
   ·rintro rfl
    rcases he with z|z
    ·exact nown c b hc z
    ·rw[hc] at z;cases z;exact hb rfl
end
structure Un (fs ex:List Addr) (H H':Hp) (h h':Heap):Prop where
 keep:∀ b o,h.get? b=some o->H b=none->b ∉ fs->b ∉ ex->h'.get? b=some o
 slot:∀ b o,h.get? b=some o->H b=none->b∈fs->b ∉ ex->∃ sl,h'.get? b=some {o with slots:=sl}
 free:∀ b o,h.get? b=some o->H b=none->b ∉ ex->H' b=none
 there:∀ b o,h.get? b=some o->b ∉ ex->∃ o',h'.get? b=some o'
 tups:∀ b xs,H b=some (.tup xs)->H' b=some (.tup xs)
 frzs:∀ b o u,H b=some (.frz o u)->H' b=some (.frz o u)
 tbls:∀ b ps,H b=some (.tbl ps)->∃ more,H' b=some (.tbl (ps++more))
section
variable {fs fs' ex ex':List Addr} {H H1 H2:Hp} {h h1 h2 h':Heap} {a x e:Addr} {o:HO}
theorem Un.any (u:Un fs ex H H1 h h1) (q:h.get? b=some ob) (n:H b=none) (hx:b ∉ ex):∃ sl,h1.get? b=some {ob with slots:=sl}:=by
 by_cases hb:b∈fs
 ·exact u.slot b ob q n hb hx
 ·exact⟨ob.slots,u.keep b ob q n hb hx⟩
theorem Un.trans (a:Un fs ex H H1 h h1) (b:Un fs ex H1 H2 h1 h2):Un fs ex H H2 h h2 where
 keep:=fun c ob q n hc hx=>b.keep c ob (a.keep c ob q n hc hx) (a.free c ob q n hx) hc hx
 slot:=fun c ob q n hc hx=>by
  obtain⟨sl,e1⟩:=a.slot c ob q n hc hx;obtain⟨sl',e2⟩:=b.slot c _ e1 (a.free c ob q n hx) hc hx;exact⟨sl',e2⟩
 free:=fun c ob q n hx=>by
  obtain⟨o',e1⟩:=a.there c ob q hx;exact b.free c o' e1 (a.free c ob q n hx) hx
 there:=fun c ob q hx=>by
  obtain⟨o',e1⟩:=a.there c ob q hx;exact b.there c o' e1 hx
 tups:=fun c xs q=>b.tups c xs (a.tups c xs q)
 frzs:=fun c ob xs q=>b.frzs c ob xs (a.frzs c ob xs q)
 tbls:=fun c ps q=>by
  obtain⟨m1,e1⟩:=a.tbls c ps q;obtain⟨m2,e2⟩:=b.tbls c _ e1;exact⟨m1++m2,by rw[e2,Array.append_assoc]⟩
theorem Un.kept (k:∀ b u,h.get? b=some u->h'.get? b=some u):Un fs ex H H h h' :=
 ⟨fun b ob q _ _ _=>k b ob q,fun b ob q _ _ _=>⟨ob.slots,k b ob q⟩,fun _ _ _ n _=>n,fun b ob q _=>⟨ob,k b ob q⟩,fun _ _ q=>q,fun _ _ _ q=>q,fun _ ps q=>⟨#[],by rw[q];simp⟩⟩
theorem Un.refl:Un fs ex H H h h:=Un.kept fun _ _ q=>q
theorem Un.laid (k:∀ b u,h.get? b=some u->h'.get? b=some u) (hp:h.objs.size<=a) (hn:H a=none):Un fs ex H (upd H a o) h h' where
 keep:=fun b u q _ _ _=>k b u q
 slot:=fun b u q _ _ _=>⟨u.slots,k b u q⟩
 free:=fun b u q n _=>by rw[Yc (Nat.ne_of_lt (Nat.lt_of_lt_of_le (Heap.lt_size q) hp))];exact n
 there:=fun b u q _=>⟨u,k b u q⟩
 tups:=fun b xs q=>by rw[Yc (Zw q hn)];exact q
 frzs:=fun b u xs q=>by rw[Yc (Zw q hn)];exact q
 tbls:=fun b ps q=>⟨#[],by rw[Yc (Zw q hn),q];simp⟩
theorem Un.write (mu:Mut (H x)) (he:e=x\/H e=some (.own x)) (k:∀ b u,b≠e->h.get? b=some u->h'.get? b=some u) (heo:∃ u,h'.get? e=some u):Un fs ex H (upd H x o) h h':=by
 have hx:∀ b,H b=none->b≠x:=fun b n z=>by subst z;rw[n] at mu;exact mu
 have hb:∀ b,H b=none->b≠e:=fun b n z=>by
  subst z;rcases he with r|r
  ·exact hx b n r
  ·rw[n] at r;cases r
 have hm:∀ b u,H b=some u->¬ Mut (some u)->b≠x:=fun b u q nm z=>by subst z;rw[q] at mu;exact nm mu
 refine⟨fun b u q n _ _=>k b u (hb b n) q,fun b u q n _ _=>⟨u.slots,k b u (hb b n) q⟩,fun b u q n _=>by rw[Yc (hx b n)];exact n,fun b u q _=>?_,
  fun b xs q=>by rw[Yc (hm b _ q fun z=>z)];exact q,fun b u xs q=>by rw[Yc (hm b _ q fun z=>z)];exact q,fun b ps q=>⟨#[],by rw[Yc (hm b _ q fun z=>z),q];simp⟩⟩
 by_cases hbe:b=e
 ·subst hbe;exact heo
 ·exact⟨u,k b u hbe q⟩
theorem Un.mono (u:Un fs ex H H1 h h1) (hs:∀ b∈fs,b∈fs') (hx:∀ b∈ex,b∈ex'):Un fs' ex' H H1 h h1 :=
 ⟨fun b ob q n hb he=>u.keep b ob q n (fun z=>hb (hs b z)) fun z=>he (hx b z),fun _ _ q n _ he=>u.any q n fun z=>he (hx _ z),fun b ob q n he=>u.free b ob q n fun z=>he (hx b z),fun b ob q he=>u.there b ob q fun z=>he (hx b z),u.tups,u.frzs,u.tbls⟩
end
noncomputable def trk (h:Heap) (H:Hp):List Addr:=(List.range h.objs.size).filter fun a=>(H a).isSome
noncomputable def hidT (h:Heap) (H:Hp):Heap:=hideAll h (trk h H)
theorem BV (h:Heap) (H:Hp):(hidT h H).objs.size=h.objs.size:=PySem.W.hideAll_size _ _
theorem DY (e:h.get? b=some o) (n:H b=none):(hidT h H).get? b=some o :=
 PySem.W.hideAll_get _ e fun hm=>by
  have q:(H b).isSome=true:=(List.mem_filter.mp hm).2;rw[n] at q;simp at q
theorem FD (e:(hidT h H).get? b=some o):h.get? b=some o/\H b=none:=by
 have e':h.get? b=some o:=PySem.W.of_hideAll (trk h H) e;refine⟨e',?_⟩;cases q:H b with
 | none=>rfl
 | some x =>
  have hm:b∈trk h H:=List.mem_filter.mpr ⟨List.mem_range.mpr (Heap.lt_size e'),by simp[q]⟩;have z:(hidT h H).get? b=none:=PySem.W.hideAll_none (trk h H) hm;rw[z] at e;cases e
noncomputable def Gy (g h:Heap) (L:Addr):List (Addr×Obj):=(List.range h.objs.size).filterMap fun a=>if a=L\/(g.get? a).isSome=true then none else (h.get? a).map fun o=>(a,o)
noncomputable def rest (g h:Heap) (L d:Addr):List (Addr×Obj):=(Gy g h L).filter fun p=>decide (p.1≠d)
end L2
namespace L2
open PySem PySem.Spec PyProof.Rows
structure Mod (K:Frag) (mg:Str->Option Value) (base:Heap):Prop where
 kin:K.In base
 glob:base.Ns mainGlobals mg
 blt:∃ mb,base.Ns builtinsNs mb/\∀ x:Str,x≠"__name__"->mb x=bootBuiltins x
 nolimit:base.NoLimit
structure Cx where
 prog:Program
 w:World
 K:Frag
 mg:Str->Option Value
 base:Heap
 A:Around
 N:List Str
 s₀:Shared
 H₀:Hp
 env:Env
 outer:List Env
 stack:List Env
 ex:List Addr
 fn:Str->Bool
 calm:Bool
 pn:List (Addr×Obj)
 xe:Value->Shared->Prop
noncomputable def frs (l:List Env):List Addr:=l.filterMap (·.frame)
abbrev Cx.fs (X:Cx):List Addr:=frs X.outer
noncomputable def Vis (sc:Scope) (x:Str):Prop:=sc.names.lookup x=some .local\/sc.names.lookup x=some .cell\/sc.names.lookup x=some .free
noncomputable def Loc (sc:Scope) (x:Str):Prop:=sc.names.lookup x=some .local\/sc.names.lookup x=some .cell
noncomputable def Look (env:Env) (h:Heap) (m:Str->Option Value) (x:Str) (u:Value):Prop :=
 (env.kindOf x=some .local/\m x=some u)\/((env.kindOf x=some .cell\/env.kindOf x=some .free)/\∃ c,env.cells.lookup x=some c/\h.IsCell c (some u))
structure Cx.Ok (X:Cx):Prop where
 mod:Mod X.K X.mg X.base
 kind:X.env.scope.kind=.function
 glob:X.env.globals=mainGlobals
 blt:X.env.builtins=builtinsNs
 above:X.s₀.heap.objs.size<=X.env.locals
 inj:∀ x y c,X.env.cells.lookup x=some c->X.env.cells.lookup y=some c->x=y
 has:∀ x,(X.env.kindOf x=some .cell\/X.env.kindOf x=some .free)->∃ c,X.env.cells.lookup x=some c
 cab:∀ x c,X.fn x=true->X.env.cells.lookup x=some c->X.s₀.heap.objs.size<=c
 hd:X.calm=true->X.A.handled=none
 frames:X.A.frames=some X.stack
 stk:X.stack=X.outer\/(X.stack=X.env::X.outer/\X.env.frame=some X.env.locals)
 exf:∀ b∈X.ex,b≠X.env.locals/\∀ x c,X.env.cells.lookup x=some c->c≠b
 bs:∀ b o,X.base.get? b=some o->X.s₀.heap.get? b=some o/\X.H₀ b=none
 bsz:X.base.objs.size<=X.s₀.heap.objs.size
 noex:∀ b o,X.base.get? b=some o->b ∉ X.ex
 exfs:∀ b∈X.ex,b ∉ X.fs
 funs:X.s₀.heap.FunFrames X.base X.outer
 frf:∀ b∈X.fs,X.H₀ b=none
structure Inv (X:Cx) (pins:List (Addr×Obj)) (σ:List (Option V)) (H:Hp) (s:Shared):Prop where
 ok:X.Ok
 os:s.os=X.s₀.os
 bare:AllBare s.gens
 base:Un X.fs X.ex X.H₀ H X.s₀.heap s.heap
 loc:∃ m,s.heap.Ns X.env.locals m/\∀ (i:Nat) (x:Str) (v:V),X.N[i]?=some x->σ[i]?=some (some v)->Vis X.env.scope x->∃ u,RelV v u/\Look X.env s.heap m x u
 cell:∀ x c,X.env.cells.lookup x=some c->∃ v,s.heap.IsCell c v
 free:H X.env.locals=none
 freeC:∀ x c,X.env.cells.lookup x=some c->H c=none
 pin:∀ p∈X.pn++pins,s.heap.get? p.1=some p.2/\H p.1=none/\p.1≠X.env.locals/\p.1 ∉ X.fs/\∀ v,p.2.data≠.cell v
 hok:HOk X.prog X.w H s.heap
 len:σ.length=X.N.length
section
variable {X:Cx} {pins:List (Addr×Obj)} {σ:List (Option V)} {H H':Hp} {s:Shared} {h':Heap}
theorem Cx.Ok.nofr (ok:X.Ok) (e:X.base.get? b=some o):b ∉ X.fs:=fun hb=>by
 have:=(ok.funs.mem hb).1;rw[e] at this;cases this
theorem Inv.bs (I:Inv X pins σ H s):∀ b o,X.base.get? b=some o->s.heap.get? b=some o/\H b=none:=fun b o e =>
 ⟨I.base.keep b o (I.ok.bs b o e).1 (I.ok.bs b o e).2 (I.ok.nofr e) (I.ok.noex b o e),I.base.free b o (I.ok.bs b o e).1 (I.ok.bs b o e).2 (I.ok.noex b o e)⟩
theorem Inv.bk (I:Inv X pins σ H s):∀ b o,X.base.get? b=some o->s.heap.get? b=some o:=fun b o e=>(I.bs b o e).1
theorem Inv.mod (I:Inv X pins σ H s):Mod X.K X.mg X.base:=I.ok.mod
theorem Inv.kIn (I:Inv X pins σ H s):X.K.In s.heap:=I.ok.mod.kin.keeps I.bk
theorem Inv.lt (I:Inv X pins σ H s):X.env.locals<s.heap.objs.size:=let ⟨_,hn,_⟩:=I.loc;hn.lt
theorem Inv.sz (I:Inv X pins σ H s):X.s₀.heap.objs.size<=s.heap.objs.size:=Nat.le_trans I.ok.above (Nat.le_of_lt I.lt)
theorem Inv.nofs (I:Inv X pins σ H s) (h:s.heap.objs.size<=a):a ∉ X.fs:=fun hb=>by
 obtain⟨_,o,ho,_⟩:=I.ok.funs.mem hb;exact absurd (Nat.lt_of_lt_of_le (Heap.lt_size ho) (Nat.le_trans I.sz h)) (Nat.lt_irrefl _)
theorem Inv.cne (I:Inv X pins σ H s):∀ x c,X.env.cells.lookup x=some c->c≠X.env.locals:=fun x c e z=>by
 obtain⟨v,o,ho,hd⟩:=I.cell x c e;obtain⟨m,⟨o',es,ep,ho',hd',_⟩,_⟩:=I.loc;rw[z,ho'] at ho;cases ho;rw[hd'] at hd;cases hd
theorem Inv.funs (I:Inv X pins σ H s):s.heap.FunFrames X.base X.outer:=by
 have all:∀ (l:List Env),(∀ b∈frs l,b∈X.fs)->X.s₀.heap.FunFrames X.base l->s.heap.FunFrames X.base l:=by
  intro l
  induction l with
  | nil=>intro _ _;trivial
  | cons env r ih =>
   intro hs hl;obtain⟨hk,⟨L,o,hf,hn,ho,hd⟩,hr⟩:=hl;have hL:L∈X.fs:=hs L (by unfold frs;rw[List.filterMap_cons,hf];exact List.mem_cons_self);obtain⟨sl,e⟩:=I.base.slot L o ho (I.ok.frf L hL) hL fun z=>I.ok.exfs L z hL;exact⟨hk,⟨L,_,hf,hn,e,hd⟩,ih (fun b hb=>hs b (by unfold frs;rw[List.filterMap_cons,hf];exact List.mem_cons_of_mem _ hb)) hr⟩
 exact all X.outer (fun _ hb=>hb) I.ok.funs
theorem Inv.stack (I:Inv X pins σ H s):s.heap.FunFrames X.base X.stack:=by
 rcases I.ok.stk with e|⟨e,hf⟩
 ·rw[e];exact I.funs
 ·rw[e]
  obtain⟨m,hn,_⟩:=I.loc;refine .cons (by rw[I.ok.kind];decide) hf hn ?_ I.funs;exact Heap.get?_none_of_le (Nat.le_trans I.ok.bsz I.ok.above)
theorem Inv.stkSub (I:Inv X pins σ H s):∀ b∈frs X.stack,b∈X.env.locals::X.fs:=fun b hb=>by
 rcases I.ok.stk with e|⟨e,hf⟩
 ·rw[e] at hb;exact List.mem_cons_of_mem _ hb
 ·rw[e] at hb
  unfold frs at hb;rw[List.filterMap_cons,hf] at hb;exact hb
theorem Inv.stkFree (I:Inv X pins σ H s):∀ b∈frs X.stack,H b=none:=fun b hb=>by
 rcases List.mem_cons.mp (I.stkSub b hb) with e|hb
 ·rw[e];exact I.free
 ·obtain⟨_,o,ho,_⟩:=I.ok.funs.mem hb
  exact I.base.free b o ho (I.ok.frf b hb) fun z=>I.ok.exfs b z hb
theorem Inv.step {g':Array GenState} {t':Nat} {d':Drawn} {ch:List Addr} (I:Inv X pins σ H s)
  (hch:∀ b∈ch,(b∈X.ex\/X.s₀.heap.objs.size<=b)/\b≠X.env.locals/\(∀ x c,X.env.cells.lookup x=some c->c≠b)/\∀ p∈X.pn++pins,p.1≠b)
  (keep:∀ b o,b≠X.env.locals->b ∉ X.fs->b ∉ ch->s.heap.get? b=some o->H b=none->h'.get? b=some o)
  (slot:∀ b o,b≠X.env.locals->b∈X.fs->b ∉ ch->s.heap.get? b=some o->H b=none->∃ sl,h'.get? b=some {o with slots:=sl}) (free:∀ b o,b ∉ ch->s.heap.get? b=some o->H b=none->H' b=none)
  (there:∀ b o,b ∉ ch->s.heap.get? b=some o->∃ o',h'.get? b=some o')
  (tups:∀ b xs,H b=some (.tup xs)->H' b=some (.tup xs)) (frzs:∀ b o u,H b=some (.frz o u)->H' b=some (.frz o u)) (tbls:∀ b ps,H b=some (.tbl ps)->∃ more,H' b=some (.tbl (ps++more)))
  (ns:∀ m,s.heap.Ns X.env.locals m->h'.Ns X.env.locals m) (hok:HOk X.prog X.w H' h') (hg:AllBare g') :
  Inv X pins σ H' {s with heap:=h',gens:=g',drawn:=d',toks:=t'}:=by
 have neL:∀ b o,X.s₀.heap.get? b=some o->b≠X.env.locals:=fun b o e=>Nat.ne_of_lt (Nat.lt_of_lt_of_le (Heap.lt_size e) I.ok.above);have neC:∀ b o,X.s₀.heap.get? b=some o->b ∉ X.ex->b ∉ ch:=fun b o e hx hb=>by
  rcases (hch b hb).1 with z|z
  ·exact hx z
  ·exact absurd (Nat.lt_of_lt_of_le (Heap.lt_size e) z) (Nat.lt_irrefl _)
 have cellK:∀ x c,X.env.cells.lookup x=some c->∀ v,s.heap.IsCell c v->h'.IsCell c v:=fun x c e v ⟨o,ho,hd⟩=>by
  have nch:c ∉ ch:=fun z=>(hch c z).2.2.1 x c e rfl;by_cases hc:c∈X.fs
  ·obtain⟨sl,q⟩:=slot c o (I.cne x c e) hc nch ho (I.freeC x c e)
   exact⟨_,q,hd⟩
  ·exact⟨o,keep c o (I.cne x c e) hc nch ho (I.freeC x c e),hd⟩
 refine⟨I.ok,I.os,hg,⟨fun b o e n hb hx=>?_,fun b o e n hb hx=>?_,fun b o e n hx=>?_,fun b o e hx=>?_,fun b xs e=>tups b xs (I.base.tups b xs e),fun b o xs e=>frzs b o xs (I.base.frzs b o xs e),fun b ps e=>?_⟩,?_,fun x c e=>?_,?_,fun x c e=>?_,fun p hp=>?_,hok,I.len⟩
 ·exact keep b o (neL b o e) hb (neC b o e hx) (I.base.keep b o e n hb hx) (I.base.free b o e n hx)
 ·obtain⟨sl,e1⟩:=I.base.slot b o e n hb hx
  obtain⟨sl',e2⟩:=slot b _ (neL b o e) hb (neC b o e hx) e1 (I.base.free b o e n hx);exact⟨sl',e2⟩
 ·obtain⟨o',e1⟩:=I.base.there b o e hx
  exact free b o' (neC b o e hx) e1 (I.base.free b o e n hx)
 ·obtain⟨o',e1⟩:=I.base.there b o e hx
  exact there b o' (neC b o e hx) e1
 ·obtain⟨m1,e1⟩:=I.base.tbls b ps e
  obtain⟨m2,e2⟩:=tbls b _ e1;exact⟨m1++m2,by rw[e2,Array.append_assoc]⟩
 ·obtain⟨m,hn,hl⟩:=I.loc
  refine⟨m,ns m hn,fun i x v e1 e2 e3=>?_⟩;obtain⟨u,r,l⟩:=hl i x v e1 e2 e3;refine⟨u,r,?_⟩;rcases l with l|⟨k,c,e,z⟩
  ·exact .inl l
  ·exact .inr ⟨k,c,e,cellK x c e _ z⟩
 ·obtain⟨v,z⟩:=I.cell x c e
  exact⟨v,cellK x c e v z⟩
 ·obtain⟨m,⟨o,_,_,ho,_⟩,_⟩:=I.loc
  exact free _ o (fun z=>(hch _ z).2.1 rfl) ho I.free
 ·obtain⟨v,o,ho,hd⟩:=I.cell x c e
  exact free c o (fun z=>(hch c z).2.2.1 x c e rfl) ho (I.freeC x c e)
 ·obtain⟨e,n,ne,nf,d⟩:=I.pin p hp
  have nch:p.1 ∉ ch:=fun z=>(hch p.1 z).2.2.2 p hp rfl;exact⟨keep p.1 p.2 ne nf nch e n,free p.1 p.2 nch e n,ne,nf,d⟩
theorem Inv.un {t':Nat} (I:Inv X pins σ H s) (u:Un X.fs [] H H' s.heap h') (hok:HOk X.prog X.w H' h'):Inv X pins σ H' {s with heap:=h',toks:=t'}:=by
 obtain⟨m,⟨o,es,ep,ho,r⟩,_⟩:=id I.loc;obtain⟨sl,hL⟩:=u.any ho I.free (by simp);exact I.step (g':=s.gens) (d':=s.drawn) (ch:=[]) (fun _ z=>nomatch z) (fun b o _ hb _ e n=>u.keep b o e n hb (by simp)) (fun b o _ hb _ e n=>u.slot b o e n hb (by simp)) (fun b o _ e n=>u.free b o e n (by simp)) (fun b o _ e=>u.there b o e (by simp)) u.tups u.frzs u.tbls (fun m' hm=>by
  obtain⟨o',es',ep',ho',r'⟩:=hm;rw[ho] at ho';cases ho';exact⟨_,es',ep',hL,r'⟩) hok I.bare
theorem Inv.call {g':Array GenState} {t':Nat} {d':Drawn} {ch:List Addr} (I:Inv X pins σ H s) (u:Un (frs X.stack) ch H H' s.heap h') (hok:HOk X.prog X.w H' h') (hg:AllBare g')
  (hch:∀ b∈ch,(b∈X.ex\/X.s₀.heap.objs.size<=b)/\b≠X.env.locals/\(∀ x c,X.env.cells.lookup x=some c->c≠b)/\∀ p∈X.pn++pins,p.1≠b) :
  Inv X pins σ H' {s with heap:=h',gens:=g',drawn:=d',toks:=t'}:=by
 obtain⟨m,⟨o,es,ep,ho,r⟩,_⟩:=id I.loc;obtain⟨sl,hL⟩:=u.any ho I.free fun z=>(hch _ z).2.1 rfl;exact I.step (ch:=ch) hch (fun b o hL hb hc e n=>u.keep b o e n (fun z=>(List.mem_cons.mp (I.stkSub b z)).elim hL hb) hc) (fun b o _ _ hc e n=>u.any e n hc) (fun b o hc e n=>u.free b o e n hc) (fun b o hc e=>u.there b o e hc) u.tups u.frzs u.tbls (fun m' hm=>by
  obtain⟨o',es',ep',ho',r'⟩:=hm;rw[ho] at ho';cases ho';exact⟨_,es',ep',hL,r'⟩) hok hg
theorem Inv.turned {t':Nat} {it:Addr} (I:Inv X pins σ H s) (k:∀ b o,b≠it->s.heap.get? b=some o->h'.get? b=some o) (hn:H it=none) (hL:it≠X.env.locals)
  (h1:it∈X.ex\/X.s₀.heap.objs.size<=it) (h2:∀ x c,X.env.cells.lookup x=some c->c≠it) (h3:∀ p∈X.pn++pins,p.1≠it):Inv X pins σ H {s with heap:=h',toks:=t'}:=by
 have nit:∀ b u,H b=some u->b≠it:=fun b u e z=>by rw[z,hn] at e;cases e
 refine I.step (g':=s.gens) (d':=s.drawn) (ch:=[it]) (fun b hb=>?_) (fun b o _ _ hc e _=>k b o (fun z=>hc (by simp[z])) e) (fun b o _ _ hc e _=>⟨o.slots,k b o (fun z=>hc (by simp[z])) e⟩) (fun _ _ _ _ n=>n)
  (fun b o hc e=>⟨o,k b o (fun z=>hc (by simp[z])) e⟩) (fun _ _ e=>e) (fun _ _ _ e=>e) (fun b ps e=>⟨#[],by rw[e];simp⟩) (fun m hm=>?_) (fun b u e=>?_) I.bare
 ·have e:b=it:=by simpa using hb
  subst e;exact⟨h1,hL,h2,h3⟩
 ·obtain⟨o,es,ep,ho,r⟩:=hm
  exact⟨o,es,ep,k _ o (Ne.symm hL) ho,r⟩
 ·refine (I.hok b u e).stay (fun c v hc q=>k c v ?_ q) (fun _ q=>q) fun _ _ q=>q
  rcases hc with z|z
  ·rw[z];exact nit b u e
  ·exact nit c _ z
theorem Inv.tok (I:Inv X pins σ H s) (t:Nat):Inv X pins σ H {s with toks:=t}:=I.un (h':=s.heap) (t':=t) Un.refl I.hok
theorem Inv.kept (I:Inv X pins σ H s) (k:∀ b u,s.heap.get? b=some u->h'.get? b=some u):Inv X pins σ H {s with heap:=h',toks:=t'}:=I.un (Un.kept k) (I.hok.kept k)
theorem Inv.laid (I:Inv X pins σ H s) (k:∀ b u,s.heap.get? b=some u->h'.get? b=some u) (hp:s.heap.objs.size<=a) (new:ObjOk X.prog X.w (upd H a o) h' a o) :
  Inv X pins σ (upd H a o) {s with heap:=h',toks:=t'}:=I.un (Un.laid k hp (I.hok.fresh hp)) (I.hok.laid k hp new)
theorem Inv.write (I:Inv X pins σ H s) (mu:Mut (H x)) (he:e=x\/H e=some (.own x)) (k:∀ b u,b≠e->s.heap.get? b=some u->h'.get? b=some u) (heo:∃ u,h'.get? e=some u)
  (new:ObjOk X.prog X.w (upd H x o) h' x o):Inv X pins σ (upd H x o) {s with heap:=h',toks:=t'}:=I.un (Un.write mu he k heo) (I.hok.write mu he k heo new)
theorem Inv.pins_of (I:Inv X pins σ H s) (h:∀ p∈pins',s.heap.get? p.1=some p.2/\H p.1=none/\p.1≠X.env.locals/\p.1 ∉ X.fs/\∀ v,p.2.data≠.cell v):Inv X pins' σ H s :=
 ⟨I.ok,I.os,I.bare,I.base,I.loc,I.cell,I.free,I.freeC,fun p hp=>(List.mem_append.mp hp).elim (fun z=>I.pin p (List.mem_append_left _ z)) (h p),I.hok,I.len⟩
theorem Vt {N:List Str} (hN:N.Nodup) {i j:Nat} {x:Str} (a:N[i]?=some x) (b:N[j]?=some x):i=j:=by
 obtain⟨h1,e1⟩:=List.getElem?_eq_some_iff.mp a;obtain⟨h2,e2⟩:=List.getElem?_eq_some_iff.mp b;exact (List.getElem_inj hN).mp (e1.trans e2.symm)
theorem BC {M:Model} {A:Around} {E:Value->Shared->Prop} {i:Nat} {x:Str} {v:V} {u:Value} {Q:Unit->Shared->Prop} (I:Inv X pins σ H s) (hN:X.N.Nodup) (hi:X.N[i]?=some x) (hx:Loc X.env.scope x) (r:RelV v u)
  (h:∀ s',Inv X pins (σ.set i (some v)) H s'->(∃ a,Heap.SameBut a s.heap s'.heap/\(a=X.env.locals\/X.env.cells.lookup x=some a))->Q () s') (hf:X.fn x=true\/X.env.scope.names.lookup x=some .local:=by first|exact .inl rfl|exact .inr rfl|assumption):wpAny M A (storeName X.env x u) Q E s:=by
 obtain⟨m,hn,hl⟩:=id I.loc;have hcls:(X.env.scope.kind==.class || (X.env.scope.kind==.module&&X.env.locals != X.env.globals))=false:=by rw[I.ok.kind];rfl
 have hiσ:i < σ.length:=by rw[I.len];exact (List.getElem?_eq_some_iff.mp hi).1
 have cne:=I.cne;have tracked:∀ {a:Addr} {h':Heap},(∃ o,s.heap.get? a=some o/\H a=none)->Heap.SameBut a s.heap h'->HOk X.prog X.w H h':=fun {a h'} ha hs b ob e=>by
  obtain⟨_,_,hfree⟩:=ha;refine (I.hok b ob e).stay (fun c w' hc q=>(hs.2 c ?_).trans q) (fun _ q=>q) fun _ _ q=>q;rintro rfl;rcases hc with rfl|hc
  ·rw[hfree] at e;cases e
  ·rw[hfree] at hc;cases hc
 rcases hx with hk|hk
 ·refine wpAny_storeName_local hk hn (fun h' hn' hs=>?_) hcls
  obtain⟨oL,_,_,hoL,_⟩:=id hn;refine h _ ⟨I.ok,I.os,I.bare,⟨fun b o e n hb hx=>?_,fun b o e n hb hx=>?_,I.base.free,fun b o e hx=>?_,I.base.tups,I.base.frzs,I.base.tbls⟩,⟨_,hn',fun j y v' e1 e2 e3=>?_⟩,fun y c e=>?_,I.free,I.freeC,fun p hp=>?_,tracked ⟨oL,hoL,I.free⟩ hs,by simpa using I.len⟩ ⟨_,hs,.inl rfl⟩
  ·exact (hs.2 b (Nat.ne_of_lt (Nat.lt_of_lt_of_le (Heap.lt_size e) I.ok.above))).trans (I.base.keep b o e n hb hx)
  ·obtain⟨sl,e1⟩:=I.base.slot b o e n hb hx
   exact⟨sl,(hs.2 b (Nat.ne_of_lt (Nat.lt_of_lt_of_le (Heap.lt_size e) I.ok.above))).trans e1⟩
  ·obtain⟨o',e1⟩:=I.base.there b o e hx
   exact⟨o',(hs.2 b (Nat.ne_of_lt (Nat.lt_of_lt_of_le (Heap.lt_size e) I.ok.above))).trans e1⟩
  ·by_cases hj:j=i
   ·subst hj
    rw[hi] at e1;cases e1;rw[List.getElem?_set_self hiσ] at e2;cases e2;exact⟨u,r,.inl ⟨hk,by simp⟩⟩
   ·rw[List.getElem?_set_ne (Ne.symm hj)] at e2
    obtain⟨u',r',q⟩:=hl j y v' e1 e2 e3;refine⟨u',r',?_⟩;rcases q with ⟨k,e⟩|⟨k,c,e,z⟩
    ·refine .inl ⟨k,?_⟩
     have:y≠x:=fun e=>hj (Vt hN e1 (e ▸ hi));simp[this,e]
    ·exact .inr ⟨k,c,e,z.sameBut hs (cne y c e)⟩
  ·obtain⟨w',z⟩:=I.cell y c e
   exact⟨w',z.sameBut hs (cne y c e)⟩
  ·obtain⟨e,n,ne,nf,d⟩:=I.pin p hp
   exact⟨(hs.2 p.1 ne).trans e,n,ne,nf,d⟩
 ·have hfn:X.fn x=true:=by
   rcases hf with z|z
   ·exact z
   ·rw[z] at hk;cases hk
  obtain⟨c,hc⟩:=I.ok.has x (.inl hk);obtain⟨w',z⟩:=I.cell x c hc;refine wpAny_storeName_cell I.ok.kind hk hc z (fun h' hc' hs=>?_);obtain⟨oc,hoc,hocd⟩:=id z;refine h {s with heap:=h'} ⟨I.ok,I.os,I.bare,⟨fun b o e n hb hx=>?_,fun b o e n hb hx=>?_,I.base.free,fun b o e hx=>?_,I.base.tups,I.base.frzs,I.base.tbls⟩,⟨m,hn.sameBut hs (Ne.symm (cne x c hc)),fun j y v' e1 e2 e3=>?_⟩,fun y c' e=>?_,I.free,I.freeC,fun p hp=>?_,tracked ⟨oc,hoc,I.freeC x c hc⟩ hs,by simpa using I.len⟩ ⟨c,hs,.inr hc⟩
  ·exact (hs.2 b (Nat.ne_of_lt (Nat.lt_of_lt_of_le (Heap.lt_size e) (I.ok.cab x c hfn hc)))).trans (I.base.keep b o e n hb hx)
  ·obtain⟨sl,e1⟩:=I.base.slot b o e n hb hx
   exact⟨sl,(hs.2 b (Nat.ne_of_lt (Nat.lt_of_lt_of_le (Heap.lt_size e) (I.ok.cab x c hfn hc)))).trans e1⟩
  ·obtain⟨o',e1⟩:=I.base.there b o e hx
   exact⟨o',(hs.2 b (Nat.ne_of_lt (Nat.lt_of_lt_of_le (Heap.lt_size e) (I.ok.cab x c hfn hc)))).trans e1⟩
  ·by_cases hj:j=i
   ·subst hj
    rw[hi] at e1;cases e1;rw[List.getElem?_set_self hiσ] at e2;cases e2;exact⟨u,r,.inr ⟨.inl hk,c,hc,hc'⟩⟩
   ·rw[List.getElem?_set_ne (Ne.symm hj)] at e2
    obtain⟨u',r',q⟩:=hl j y v' e1 e2 e3;refine⟨u',r',?_⟩;rcases q with q|⟨k,c',e,z'⟩
    ·exact .inl q
    ·refine .inr ⟨k,c',e,z'.sameBut hs ?_⟩
     rintro rfl;exact hj (Vt hN e1 (I.ok.inj _ _ _ e hc ▸ hi))
  ·by_cases hcc:c'=c
   ·subst hcc;exact⟨_,hc'⟩
   ·obtain⟨w2,z2⟩:=I.cell y c' e
    exact⟨w2,z2.sameBut hs hcc⟩
  ·obtain⟨e,n,ne,nf,d⟩:=I.pin p hp
   refine⟨(hs.2 p.1 ?_).trans e,n,ne,nf,d⟩;intro q;rw[q,hoc] at e;have q':oc=p.2:=Option.some.inj e;exact d w' (by rw[<- q'];exact hocd)
theorem ZR (I:Inv X pins σ H s) (hN:X.N.Nodup) (hi:X.N[i]?=some x) (hx:Loc X.env.scope x) (r:RelV v u)
  (h:∀ s',Inv X pins (σ.set i (some v)) H s'->Q () s') (hf:X.fn x=true\/X.env.scope.names.lookup x=some .local:=by first|exact .inl rfl|exact .inr rfl|assumption):wpAny M A (storeName X.env x u) Q E s :=
 BC I hN hi hx r (fun s' I' _=>h s' I') hf
theorem Inv.call' (I:Inv X pins σ H s) (ho:s'.os=s.os) (u:Un (frs X.stack) ch H H' s.heap s'.heap) (hok:HOk X.prog X.w H' s'.heap) (hg:AllBare s'.gens)
  (hch:∀ b∈ch,(b∈X.ex\/X.s₀.heap.objs.size<=b)/\b≠X.env.locals/\(∀ x c,X.env.cells.lookup x=some c->c≠b)/\∀ p∈X.pn++pins,p.1≠b):Inv X pins σ H' s':=by
 obtain⟨h',g',d',t',o'⟩:=s';have e:o'=s.os:=ho;subst e;exact I.call (g':=g') (t':=t') (d':=d') u hok hg hch
end
abbrev XK:=Value->Option Addr->Hp->Prop
abbrev St:=List (Option V)
abbrev VK:=V->Hp->Prop
abbrev TE:=St->Hp->VK->Prop
abbrev TT:=St->Hp->(Bool->Hp->Prop)->Prop
abbrev TA:=St->Hp->(List V->Hp->Prop)->Prop
structure Ends where
 nx:St->Hp->Prop
 rt:VK
 bk:St->Hp->Prop:=fun _ _=>False
 ct:St->Hp->Prop:=fun _ _=>False
abbrev TS:=Ends->St->Hp->Prop
noncomputable def EP (X:Cx) (pins:List (Addr×Obj)) (σ:St) (Q:VK) (u:Value) (s':Shared):Prop:=∃ v H',Inv X pins σ H' s'/\RelV v u/\Q v H'
noncomputable def TP (X:Cx) (pins:List (Addr×Obj)) (σ:St) (Q:Bool->Hp->Prop) (b:Bool) (s':Shared):Prop:=∃ H',Inv X pins σ H' s'/\Q b H'
noncomputable def AP (X:Cx) (pins:List (Addr×Obj)) (σ:St) (Q:List V->Hp->Prop) (us:List Value) (s':Shared):Prop:=∃ vs H',Inv X pins σ H' s'/\Vals vs us/\Q vs H'
noncomputable def SP (X:Cx) (pins:List (Addr×Obj)) (D:Ends) (f:Flow) (s':Shared):Prop :=
 match f with
 | .next=>∃ σ' H',Inv X pins σ' H' s'/\D.nx σ' H'
 | .brk=>∃ σ' H',Inv X pins σ' H' s'/\D.bk σ' H'
 | .cont=>∃ σ' H',Inv X pins σ' H' s'/\D.ct σ' H'
 | .ret u=>∃ v σ' H',Inv X pins σ' H' s'/\RelV v u/\D.rt v H'
noncomputable def PE (X:Cx) (e:Expr) (t:TE):Prop :=
 ∀ (pins:List (Addr×Obj)) (s:Shared) (σ:St) (H:Hp) (Q:VK),Inv X pins σ H s->t σ H Q->wpAny (model X.prog X.w) X.A (eval e X.env) (EP X pins σ Q) X.xe s
noncomputable def PT (X:Cx) (e:Expr) (t:TT):Prop :=
 ∀ (pins:List (Addr×Obj)) (s:Shared) (σ:St) (H:Hp) (Q:Bool->Hp->Prop),Inv X pins σ H s->t σ H Q->wpAny (model X.prog X.w) X.A (isTrue e X.env (eval e X.env)) (TP X pins σ Q) X.xe s
noncomputable def PW (X:Cx) (e:Expr) (t:TT):Prop :=
 ∀ (whole:Sem Value) (pins:List (Addr×Obj)) (s:Shared) (σ:St) (H:Hp) (Q:Bool->Hp->Prop),Inv X pins σ H s->t σ H Q->wpAny (model X.prog X.w) X.A (isTrue e X.env whole) (TP X pins σ Q) X.xe s
theorem PW.pt (h:PW X e t):PT X e t:=h _
noncomputable def PA (X:Cx) (es:List Expr) (t:TA):Prop :=
 ∀ (pos:Pos) (pins:List (Addr×Obj)) (s:Shared) (σ:St) (H:Hp) (Q:List V->Hp->Prop),Inv X pins σ H s->t σ H Q->wpAny (model X.prog X.w) X.A (spliced (backTo pos (starEach es X.env))) (AP X pins σ Q) X.xe s
noncomputable def PS (X:Cx) (st:Stmt) (t:TS):Prop :=
 ∀ (pins:List (Addr×Obj)) (s:Shared) (σ:St) (H:Hp) (D:Ends),Inv X pins σ H s->t D σ H->wpAny (model X.prog X.w) X.A (exec st X.env) (SP X pins D) X.xe s
noncomputable def PSs (X:Cx) (st:List Stmt) (t:TS):Prop :=
 ∀ (pins:List (Addr×Obj)) (s:Shared) (σ:St) (H:Hp) (D:Ends),Inv X pins σ H s->t D σ H->wpAny (model X.prog X.w) X.A (execs st X.env) (SP X pins D) X.xe s
theorem thn (h:wpAny M A t Q E s) (hQ:∀ a s,Q a s->Q' a s):wpAny M A t Q' E s:=wpAny_mono h hQ fun _ _ x=>x
end L2
namespace L2
open PySem PySem.Spec PyProof.Rows
section
variable {X:Cx}
theorem bin {a b:Expr} {ta tb:TE} (ha:PE X a ta) (hb:PE X b tb) {pins:List (Addr×Obj)} {s:Shared} {σ:St} {H:Hp} {R:V->V->Hp->Prop} (I:Inv X pins σ H s) (h:ta σ H fun x H1=>tb σ H1 fun y H2=>R x y H2)
  {α:Type} {Q:α->Shared->Prop} {f:Value->Value->Sem α}
  (hf:∀ v u s2 x y H2,Inv X pins σ H2 s2->RelV x v->RelV y u->R x y H2->wpAny (model X.prog X.w) X.A (f v u) Q X.xe s2) :
  wpAny (model X.prog X.w) X.A (eval a X.env) (fun v s₁=>wpAny (model X.prog X.w) X.A (eval b X.env) (fun u s₂=>wpAny (model X.prog X.w) X.A (f v u) Q X.xe s₂) X.xe s₁) X.xe s:=by
 refine thn (ha pins s σ H _ I h) fun v s1 hq2=>?_;obtain⟨x,H1,I1,r1,q1⟩:=hq2;refine thn (hb pins s1 σ H1 _ I1 q1) fun u s2 hq2=>?_;obtain⟨y,H2,I2,r2,q2⟩:=hq2;exact hf v u s2 x y H2 I2 r1 r2 q2
noncomputable def tVar (i:Nat):TE:=fun σ H Q=>∃ v,σ[i]?=some (some v)/\Q v H
noncomputable def tC (v:V):TE:=fun _ H Q=>Q v H
theorem Wq (hN:X.N[i]?=some x) (hv:Vis X.env.scope x) (hd:(x==("__debug__":Str))=false:=by decide) (hcd:(x==("__classdict__":Str))=false:=by decide):PE X (.Name x pos) (tVar i):=by
 intro pins s σ H Q I h;obtain⟨v,e,h⟩:=h;obtain⟨m,hn,hl⟩:=I.loc;obtain⟨u,r,l⟩:=hl i x v hN e hv;have fin:EP X pins σ Q u s:=⟨v,H,I,r,h⟩;rcases l with ⟨hk,hm⟩|⟨hk,c,hc,hcell⟩
 ·exact wpAny_Name (wpAny_loadName_local I.ok.kind hk hn hm fin) hd
 ·rcases hk with hk|hk
  ·exact wpAny_Name (wpAny_loadName_cell I.ok.kind hk hc hcell fin) hd
  ·exact wpAny_Name (wpAny_loadName_free I.ok.kind hk hc hcell fin hcd) hd
theorem HH {i j pos}:PE X (.Constant (.int i) j pos) (tC (.int i)):=fun _ _ _ H _ I h=>wpAny_Constant_int ⟨.int i,H,I.tok _,⟨_,rfl⟩,h⟩
theorem Kt {b j pos}:PE X (.Constant (.bool b) j pos) (tC (.bl b)):=fun _ _ _ H _ I h=>Constant_bool ⟨.bl b,H,I,rfl,h⟩
theorem HF {j pos}:PE X (.Constant .none j pos) (tC .non):=fun _ _ _ H _ I h=>Constant_none ⟨.non,H,I,rfl,h⟩
theorem Da {x j pos}:PE X (.Constant (.str x) j pos) (tC (.str x)):=fun _ _ _ H _ I h=>Calls.Constant_str ⟨.str x,H,I.tok _,⟨_,rfl⟩,h⟩
noncomputable def Gl (X:Cx) (x:Str):Prop:=X.env.kindOf x=some .globalImplicit
theorem X9 (I:Inv X pins σ H s) (hg:Gl X x) (hm:X.mg x=some u) (h:Q u s)
  (hd:(x==("__debug__":Str))=false:=by decide):wpAny (model X.prog X.w) X.A (eval (.Name x pos) X.env) Q E s :=
 Calls.Name_function_global I.ok.kind hg (Calls.loadGlobal_global (by rw[I.ok.glob];exact I.mod.glob.keeps I.bk) hm h) hd
theorem Xt (I:Inv X pins σ H s) (hg:Gl X x) (hm:X.mg x=none) (hv:bootBuiltins x=some u) (h:Q u s)
  (hn:x≠"__name__":=by decide) (hd:(x==("__debug__":Str))=false:=by decide):wpAny (model X.prog X.w) X.A (eval (.Name x pos) X.env) Q E s:=by
 obtain⟨mb,h1,h2⟩:=I.mod.blt;exact Calls.Name_function_global I.ok.kind hg (Calls.loadGlobal_builtin (by rw[I.ok.glob];exact I.mod.glob.keeps I.bk) hm (by rw[I.ok.blt];exact h1.keeps I.bk) ((h2 x hn).trans hv) h) hd
theorem Fs (hg:Gl X x) (hm:X.mg x=some u) (r:RelV v u) (hd:(x==("__debug__":Str))=false:=by decide):PE X (.Name x pos) (tC v) :=
 fun _ _ _ H _ I h=>X9 I hg hm ⟨v,H,I,r,h⟩ hd
theorem Fv (hg:Gl X x) (hm:X.mg x=none) (hv:bootBuiltins x=some u) (r:RelV v u) (hn:x≠"__name__":=by decide) (hd:(x==("__debug__":Str))=false:=by decide):PE X (.Name x pos) (tC v) :=
 fun _ _ _ H _ I h=>Xt I hg hm hv ⟨v,H,I,r,h⟩ hn hd
variable {a b:Expr} {ta tb:TE} {pos:Pos}
noncomputable def tB (t:TE):TT:=fun σ H Q=>t σ H fun x H1=>∃ c,x=.bl c/\Q c H1
variable {tA tB':TT} {rest:List Expr}
noncomputable def tAnd (t u:TT):TT:=fun σ H Q=>t σ H fun c H1=>if c=true then u σ H1 Q else Q false H1
noncomputable def tOr (t u:TT):TT:=fun σ H Q=>t σ H fun c H1=>if c=true then Q true H1 else u σ H1 Q
noncomputable def tNot (t:TT):TT:=fun σ H Q=>t σ H fun c H1=>Q (!c) H1
theorem Fk (ha:PT X a tA):PW X (.BoolOp .And [a] pos) tA:=by
 intro wh pins s σ H Q I h;refine isTrue_and (thn (ha pins s σ H Q I h) fun c s1 e=>?_);cases c with
 | true=>exact isTrue_and_nil e
 | false=>exact e
theorem Ho (ha:PT X a tA):PW X (.BoolOp .Or [a] pos) tA:=by
 intro wh pins s σ H Q I h;refine isTrue_or (thn (ha pins s σ H Q I h) fun c s1 e=>?_);cases c with
 | false=>exact isTrue_or_nil e
 | true=>exact e
theorem Hq (ha:PT X a tA) (hb:PW X (.BoolOp .And (b::rest) pos) tB'):PW X (.BoolOp .And (a::b::rest) pos) (tAnd tA tB'):=by
 intro wh pins s σ H Q I h;refine isTrue_and (thn (ha pins s σ H _ I h) fun c s1 hq2=>?_);obtain⟨H1,I1,q1⟩:=hq2;cases c with
 | true=>exact hb wh pins s1 σ H1 Q I1 q1
 | false=>exact⟨H1,I1,q1⟩
theorem Km (ha:PT X a tA) (hb:PW X (.BoolOp .Or (b::rest) pos) tB'):PW X (.BoolOp .Or (a::b::rest) pos) (tOr tA tB'):=by
 intro wh pins s σ H Q I h;refine isTrue_or (thn (ha pins s σ H _ I h) fun c s1 hq2=>?_);obtain⟨H1,I1,q1⟩:=hq2;cases c with
 | true=>exact⟨H1,I1,q1⟩
 | false=>exact hb wh pins s1 σ H1 Q I1 q1
theorem Hr (ha:PT X a tA):PT X (.UnaryOp .Not a pos) (tNot tA):=by
 intro pins s σ H Q I h;exact isTrue_not (ha pins s σ H (fun c H1=>Q (!c) H1) I h)
noncomputable def Kg (ta tb:TE):TE:=fun σ H Q=>ta σ H fun x H1=>∃ c,x=.bl c/\if c=true then tb σ H1 Q else Q (.bl false) H1
noncomputable def tOrV (ta tb:TE):TE:=fun σ H Q=>ta σ H fun x H1=>∃ c,x=.bl c/\if c=true then Q (.bl true) H1 else tb σ H1 Q
noncomputable def Kc (ta:TE):TE:=fun σ H Q=>ta σ H fun x H1=>∃ c,x=.bl c/\Q (.bl (!c)) H1
theorem HD {op} (h:PE X a t):PE X (.BoolOp op [a] pos) t:=fun pins s σ H Q I hw=>BoolOp_one (h pins s σ H Q I hw)
theorem HI (ha:PE X a ta) (hb:PE X (.BoolOp .And (b::rest) pos) tb):PE X (.BoolOp .And (a::b::rest) pos) (Kg ta tb):=by
 intro pins s σ H Q I h;refine BoolOp_and (thn (ha pins s σ H _ I h) fun v s1 hq2=>?_);obtain⟨x,H1,I1,r1,q1⟩:=hq2;obtain⟨c,rfl,q1⟩:=q1;cases r1;refine wpAny_truthy_bool ?_;cases c with
 | true=>exact hb pins s1 σ H1 Q I1 q1
 | false=>exact⟨.bl false,H1,I1,rfl,q1⟩
theorem Kq (ha:PE X a ta) (hb:PE X (.BoolOp .Or (b::rest) pos) tb):PE X (.BoolOp .Or (a::b::rest) pos) (tOrV ta tb):=by
 intro pins s σ H Q I h;refine BoolOp_or (thn (ha pins s σ H _ I h) fun v s1 hq2=>?_);obtain⟨x,H1,I1,r1,q1⟩:=hq2;obtain⟨c,rfl,q1⟩:=q1;cases r1;refine wpAny_truthy_bool ?_;cases c with
 | false=>exact hb pins s1 σ H1 Q I1 q1
 | true=>exact⟨.bl true,H1,I1,rfl,q1⟩
theorem HE (ha:PE X a ta):PE X (.UnaryOp .Not a pos) (Kc ta):=by
 intro pins s σ H Q I h;refine UnaryOp_ (thn (ha pins s σ H _ I h) fun v s1 hq2=>?_);obtain⟨x,H1,I1,r1,q1⟩:=hq2;obtain⟨c,rfl,q1⟩:=q1;cases r1;exact not_of (wpAny_truthy_bool ⟨.bl (!c),H1,I1,rfl,q1⟩)
noncomputable def tIf (t:TT) (ta tb:TE):TE:=fun σ H Q=>t σ H fun c H1=>if c=true then ta σ H1 Q else tb σ H1 Q
theorem Dc (hc:PT X c tA) (ha:PE X a ta) (hb:PE X b tb):PE X (.IfExp c a b pos) (tIf tA ta tb):=by
 intro pins s σ H Q I h;refine wpAny_IfExp (thn (hc pins s σ H _ I h) fun d s1 hq2=>?_);obtain⟨H1,I1,q1⟩:=hq2;cases d with
 | true=>exact ha pins s1 σ H1 Q I1 q1
 | false=>exact hb pins s1 σ H1 Q I1 q1
end
end L2
namespace L2
open PySem PySem.Spec PyProof.Rows
noncomputable def SqL (K:Frag) (H:Hp) (a:Addr) (xs:List V):Prop :=
 Rd H a (.lst xs) \/
  ∃ (o:Obj) (its:Array Value) (n:Nat),K.lookup a=some o/\o.cls=.type "list"/\o.dict=none/\o.data=.seq its n/\its.size<=sizeLine/\Vals xs its.toList
noncomputable def SqT (K:Frag) (H:Hp) (a:Addr) (xs:List V):Prop :=
 Rd H a (.tup xs) \/
  ∃ (o:Obj) (its:Array Value) (n:Nat),K.lookup a=some o/\o.cls=.type "tuple"/\o.data=.seq its n/\its.size<=sizeLine/\Vals xs its.toList
noncomputable def absV:Value->Option V
 | .none=>some .non
 | .bool b=>some (.bl b)
 | .int i _=>some (.int i)
 | .str x _=>some (.str x)
 | .bytes b _=>some (.byt b)
 | .float b _=>some (.flt b)
 | .ref a=>some (.ref a)
 | .type n=>some (.ty n)
 | _=>none
theorem RelV.abs (r:RelV x u):absV u=some x:=by
 cases x with
 | non=>cases r;rfl
 | bl _=>cases r;rfl
 | int _=>obtain⟨t,rfl⟩:=r;rfl
 | str _=>obtain⟨t,rfl⟩:=r;rfl
 | byt _=>obtain⟨t,rfl⟩:=r;rfl
 | flt _=>obtain⟨t,rfl⟩:=r;rfl
 | ref _=>cases r;rfl
 | ty _=>cases r;rfl
theorem RelV.inj (r:RelV x u) (q:RelV y u):x=y:=Option.some.inj (r.abs.symm.trans q.abs)
theorem Vals.inj:∀ {xs ys:List V} {us:List Value},Vals xs us->Vals ys us->xs=ys
 | _,_,_,.nil,.nil=>rfl
 | _,_,_,.cons r t,.cons r' t'=>by rw[r.inj r',Vals.inj t t']
section
variable {X:Cx} {pins:List (Addr×Obj)} {σ:St} {H:Hp} {s:Shared} {a:Addr} {xs ys:List V}
theorem SqL.of {K:Frag} (h:H a=some (.lst xs)):SqL K H a xs:=.inl (.inl h)
theorem SqT.of {K:Frag} (h:H a=some (.tup xs)):SqT K H a xs:=.inl (.inl h)
theorem Inv.list (I:Inv X pins σ H s) (h:SqL X.K H a xs):∃ its:List Value,Vals xs its/\PlainL s.heap a its.toArray/\xs.length<=sizeLine:=by
 rcases h with h|⟨o,its,n,hk,hc,hd,hs,hz,r⟩
 ·obtain⟨z,its,n,r,e⟩:=h.ok I.hok
  exact⟨its,r,⟨_,n,e,rfl,rfl,rfl⟩,z⟩
 ·refine⟨its.toList,r,⟨o,n,I.kIn a o hk,hc,hd,by simpa using hs⟩,?_⟩
  have e:=r.length;simp only[Array.length_toList] at e;omega
theorem Inv.tuple (I:Inv X pins σ H s) (h:SqT X.K H a xs):∃ its:List Value,Vals xs its/\IsTup s.heap a its.toArray/\xs.length<=sizeLine:=by
 rcases h with h|⟨o,its,n,hk,hc,hs,hz,r⟩
 ·obtain⟨z,its,r,p⟩:=h.ok I.hok
  exact⟨its,r,p,z⟩
 ·refine⟨its.toList,r,⟨o,I.kIn a o hk,hc,n,by simpa using hs⟩,?_⟩
  have e:=r.length;simp only[Array.length_toList] at e;omega
theorem Inv.list_inj (I:Inv X pins σ H s) (h:SqL X.K H a xs) (h':SqL X.K H a ys):xs=ys:=by
 obtain⟨its,r,⟨o,n,e,_,_,d⟩,_⟩:=I.list h;obtain⟨its',r',⟨o',n',e',_,_,d'⟩,_⟩:=I.list h';rw[e] at e';cases e';rw[d] at d';injection d' with d1 _
 have:its=its':=by simpa using congrArg Array.toList d1
 subst this;exact r.inj r'
theorem Inv.tuple_inj (I:Inv X pins σ H s) (h:SqT X.K H a xs) (h':SqT X.K H a ys):xs=ys:=by
 obtain⟨its,r,⟨o,e,_,n,d⟩,_⟩:=I.tuple h;obtain⟨its',r',⟨o',e',_,n',d'⟩,_⟩:=I.tuple h';rw[e] at e';cases e';rw[d] at d';injection d' with d1 _
 have:its=its':=by simpa using congrArg Array.toList d1
 subst this;exact r.inj r'
end
section
variable {X:Cx} {pins:List (Addr×Obj)} {σ:St} {H:Hp} {s:Shared} {E:Value->Shared->Prop}
end
section
variable {X:Cx} {st:Stmt} {rest:List Stmt} {t u:TS} {e:Expr} {te:TE} {pos:Pos}
noncomputable def Kd:TS:=fun D σ H=>D.nx σ H
noncomputable def tSeq (t u:TS):TS:=fun D σ H=>t {D with nx:=u D} σ H
theorem pss_nil:PSs X [] Kd:=fun _ _ σ H _ I h=>wpAny_execs_nil ⟨σ,H,I,h⟩
theorem D2 (h1:PS X st t) (h2:PSs X rest u):PSs X (st::rest) (tSeq t u):=by
 intro pins s σ H D I h;refine wpAny_execs_cons (thn (h1 pins s σ H {D with nx:=u D} I h) fun f s1 q=>?_);cases f with
 | next =>
  obtain⟨σ',H',I',q⟩:=q;exact h2 pins s1 σ' H' D I' q
 | ret v=>exact q
 | brk=>exact q
 | cont=>exact q
theorem Inv.quiet (I:Inv X pins σ H s):interactive X.env=false:=by simp[interactive,I.ok.kind]
noncomputable def Ke (te:TE):TS:=fun D σ H=>te σ H fun _ H1=>D.nx σ H1
theorem Fm (he:PE X e te) (hs:swapsWith e none pos.line X.env=pure false:=by rfl):PS X (.Expr e pos) (Ke te):=by
 intro pins s σ H D I h;exact wpAny_Expr_any (thn (he pins s σ H _ I h) (by rintro v s1 ⟨x,H1,I1,r1,q1⟩;exact⟨σ,H1,I1,q1⟩)) I.quiet hs
noncomputable def tRet (te:TE):TS:=fun D σ H=>te σ H D.rt
theorem Ht (he:PE X e te):PS X (.Return (some e) pos) (tRet te):=by
 intro pins s σ H D I h;exact wpAny_Return_some (thn (he pins s σ H _ I h) (by rintro v s1 ⟨x,H1,I1,r1,q1⟩;exact⟨x,σ,H1,I1,r1,q1⟩))
noncomputable def tIfS (c:TT) (t u:TS):TS:=fun D σ H=>c σ H fun b H1=>if b=true then t D σ H1 else u D σ H1
theorem Kn (hc:PT X c tc) (ha:PSs X a t) (hb:PSs X b u):PS X (.If c a b pos) (tIfS tc t u):=by
 intro pins s σ H D I h;refine wpAny_If (thn (hc pins s σ H _ I h) fun d s1 hq2=>?_);obtain⟨H1,I1,q1⟩:=hq2;cases d with
 | true=>exact ha pins s1 σ H1 D I1 q1
 | false=>exact hb pins s1 σ H1 D I1 q1
end
abbrev TG:=V->St->Hp->(St->Hp->Prop)->Prop
abbrev TGs:=List V->St->Hp->(St->Hp->Prop)->Prop
noncomputable def PG (X:Cx) (target:Expr) (t:TG):Prop :=
 ∀ (pins:List (Addr×Obj)) (s:Shared) (σ:St) (H:Hp) (v:V) (u:Value) (Q:St->Hp->Prop),Inv X pins σ H s->RelV v u->t v σ H Q ->
  wpAny (model X.prog X.w) X.A (assign target X.env u) (fun _ s'=>∃ σ' H',Inv X pins σ' H' s'/\Q σ' H') X.xe s
noncomputable def PGs (X:Cx) (ts:List Expr) (t:TGs):Prop :=
 ∀ (pins:List (Addr×Obj)) (s:Shared) (σ:St) (H:Hp) (vs:List V) (us:List Value) (Q:St->Hp->Prop),Inv X pins σ H s->Vals vs us->t vs σ H Q ->
  wpAny (model X.prog X.w) X.A (assignInOrder ((assignEach ts X.env).map (·.2)) us) (fun _ s'=>∃ σ' H',Inv X pins σ' H' s'/\Q σ' H') X.xe s
abbrev TSet:=V->V->V->Hp->(Hp->Prop)->Prop
noncomputable def PSet (X:Cx) (t:TSet):Prop :=
 ∀ (pins:List (Addr×Obj)) (s:Shared) (σ:St) (H:Hp) (o i v:V) (ov iv u:Value) (Q:Hp->Prop),Inv X pins σ H s->RelV o ov->RelV i iv->RelV v u->t o i v H Q ->
  wpAny (model X.prog X.w) X.A (setItem ov iv u) (fun _ s'=>∃ H',Inv X pins σ H' s'/\Q H') X.xe s
abbrev TIp:=V->V->Hp->VK->Prop
noncomputable def PIp (X:Cx) (op:Operator) (t:TIp):Prop :=
 ∀ (pins:List (Addr×Obj)) (s:Shared) (σ:St) (H:Hp) (x y:V) (v u:Value) (Q:VK),Inv X pins σ H s->RelV x v->RelV y u->t x y H Q ->
  wpAny (model X.prog X.w) X.A (inplaceOp op v u) (EP X pins σ Q) X.xe s
section
variable {X:Cx} {pos:Pos}
noncomputable def GS (i:Nat):TG:=fun v σ H Q=>Q (σ.set i (some v)) H
theorem Fq (hN:X.N.Nodup) (hi:X.N[i]?=some x) (hx:Loc X.env.scope x) (hf:X.fn x=true\/X.env.scope.names.lookup x=some .local:=by first|exact .inl rfl|exact .inr rfl|assumption):PG X (.Name x pos) (GS i):=by
 intro pins s σ H v u Q I r h;exact wpAny_assign_Name (ZR I hN hi hx r (fun s' I'=>⟨_,H,I',h⟩) hf)
noncomputable def gNil:TGs:=fun vs σ H Q=>vs=[]/\Q σ H
noncomputable def Y9 (t:TG) (u:TGs):TGs:=fun vs σ H Q=>∃ v r,vs=v::r/\t v σ H fun σ' H'=>u r σ' H' Q
theorem pgs_nil:PGs X [] gNil:=by
 intro pins s σ H vs us Q I r h;obtain⟨e,h⟩:=h;subst e;cases r;exact assignInOrder_nil ⟨σ,H,I,h⟩
theorem D9 (h1:PG X e t) (h2:PGs X es u)
  (hs:(assignEach (e::es) X.env).map (·.2)=assign e X.env::(assignEach es X.env).map (·.2):=by rfl):PGs X (e::es) (Y9 t u):=by
 intro pins s σ H vs us Q I r h;obtain⟨v,vr,e1,h⟩:=h;subst e1;cases r with
 | cons r rr =>
  rw[hs];refine assignInOrder_cons (thn (h1 pins s σ H _ _ _ I r h) fun _ s1 hq2=>?_);obtain⟨σ1,H1,I1,q1⟩:=hq2;exact h2 pins s1 σ1 H1 _ _ Q I1 rr q1
noncomputable def gTup (K:Frag) (n:Nat) (t:TGs):TG:=fun v σ H Q=>∃ a xs,v=.ref a/\SqT K H a xs/\xs.length=n/\t xs σ H Q
theorem HA (hc:X.calm=true) (h:PGs X es t)
  (hn:(assignEach es X.env).length=n:=by rfl) (hst:(assignEach es X.env).findIdx? (·.1)=none:=by rfl):PG X (.Tuple es k pos) (gTup X.K n t):=by
 intro pins s σ H v u Q I r hw;obtain⟨a,xs,e1,hq,hl,hw⟩:=hw;subst e1;cases r;obtain⟨its,rv,ht,hz⟩:=I.tuple hq;refine assign_Tuple_tuple (I.ok.hd hc) ht (by simp[hn,<- hl,rv.length]) hst fun h' hx=>?_;have I1:Inv X pins σ H {s with heap:=h'}:=I.kept (t':=s.toks) fun b o e=>hx b o (Nat.ne_of_lt (Heap.lt_size e)) e;exact h pins _ σ H xs _ Q I1 (by simpa using rv) hw
noncomputable def gSub (to ti:TE) (t:TSet):TG:=fun v σ H Q=>to σ H fun o H1=>ti σ H1 fun i H2=>t o i v H2 fun H3=>Q σ H3
theorem HB (ho:PE X o to) (hi:PE X i ti) (hs:PSet X t)
  (ha:∀ v,assign (.Subscript o i pos) X.env v=(do
   let ov <- holding [v] (eval o X.env)
   let iv <- holding [v,ov] (eval i X.env)
   standAt pos
   holding [v,ov,iv] (setItem ov iv v)
   release [v,ov,iv] []):=by intro _;rfl):PG X (.Subscript o i pos) (gSub to ti t):=by
 intro pins s σ H v u Q I r h;rw[ha];refine wpAny_bind (wpAny_holding (thn (ho pins s σ H _ I h) fun ov s1 hq2=>?_));obtain⟨x,H1,I1,r1,q1⟩:=hq2;refine wpAny_bind (wpAny_holding (thn (hi pins s1 σ H1 _ I1 q1) fun iv s2 hq2=>?_));obtain⟨y,H2,I2,r2,q2⟩:=hq2;refine wpAny_bind (wpAny_standAt (wpAny_bind (wpAny_holding (thn (hs pins s2 σ H2 x y v ov iv u _ I2 r1 r2 r q2) fun _ s3 hq2=>?_))));obtain⟨H3,I3,q3⟩:=hq2;exact wpAny_release ⟨σ,H3,I3,q3⟩
noncomputable def tAsg (te:TE) (g:TG):TS:=fun D σ H=>te σ H fun x H1=>g x σ H1 D.nx
theorem Hx (he:PE X e te) (hg:PG X tg g) (hs:swapsWithSole [tg] e pos.line X.env=pure false:=by rfl) (hw:swappedStores [tg] e X.env=pure none:=by rfl)
  (h1:(assignEach [tg] X.env).map (·.2)=[assign tg X.env]:=by rfl):PS X (.Assign [tg] e pos) (tAsg te g):=by
 intro pins s σ H D I h;refine wpAny_Assign_stores (thn (he pins s σ H _ I h) fun v s1 hq2=>?_) hs hw;obtain⟨x,H1,I1,r1,q1⟩:=hq2;rw[h1];exact thn (hg pins s1 σ H1 x v _ I1 r1 q1) fun _ s2 q=>q
theorem Hs (hN:X.N.Nodup) (hi:X.N[i]?=some x) (hx:Loc X.env.scope x) (he:PE X e te) (hs:swapsWith e (some (.Name x pos')) pos.line X.env=pure false:=by rfl) (hf:X.fn x=true\/X.env.scope.names.lookup x=some .local:=by first|exact .inl rfl|exact .inr rfl|assumption) :
  PS X (.Assign [.Name x pos'] e pos) (tAsg te (GS i)):=by
 intro pins s σ H D I h;refine wpAny_Assign_Name (thn (he pins s σ H _ I h) fun v s1 hq2=>?_) hs;obtain⟨y,H1,I1,r1,q1⟩:=hq2;exact ZR I1 hN hi hx r1 (fun s2 I2=>⟨_,H1,I2,q1⟩) hf
noncomputable def tPar (i j:Nat) (ta:TA):TS:=fun D σ H=>ta σ H fun vs H1=>∃ v w,vs=[v,w]/\D.nx ((σ.set i (some v)).set j (some w)) H1
theorem Hu {kt k2 pt2} (hc:X.calm=true) (hN:X.N.Nodup) (hi:X.N[i]?=some x) (hj:X.N[j]?=some y) (hij:i≠j)
  (hx:X.env.scope.names.lookup x=some .local) (hy:X.env.scope.names.lookup y=some .local) (ha:PA X [a,b] ta)
  (hw:swappedStores [.Tuple [.Name x px,.Name y py] kt pt] (.Tuple [a,b] k2 pt2) X.env=pure (some [x,y]))
  (hs:swapsWithSole [.Tuple [.Name x px,.Name y py] kt pt] (.Tuple [a,b] k2 pt2) pos.line X.env=pure false:=by rfl) :
  PS X (.Assign [.Tuple [.Name x px,.Name y py] kt pt] (.Tuple [a,b] k2 pt2) pos) (tPar i j ta):=by
 intro pins s σ H D I h;rw[exec_Assign_arm];refine wpAny_bind (wpAny_standAt ?_);rw[hs];refine wpAny_bind (wpAny_pure ?_);rw[if_neg %[|4]];refine wpAny_bind (Tuple_ (thn (ha _ pins s σ H _ I h) fun us s1 hq2=>?_));obtain⟨vs,H1,I1,r1,q1⟩:=hq2;obtain⟨v,w,e1,q1⟩:=q1;subst e1;obtain⟨u1,u2,rfl,rv,rw'⟩:∃ u1 u2,us=[u1,u2]/\RelV v u1/\RelV w u2:=by
  cases r1 with
  | cons p q =>
   cases q with
   | cons p' q' =>
    cases q';exact⟨_,_,rfl,p,p'⟩
 refine wpAny_newObj_type ?_ (by show 2<=sizeLine;decide);have I2:Inv X pins σ H1 {s1 with heap:=s1.heap.push {cls:=.type "tuple",data:=.seq [u1,u2].toArray}}:=I1.kept (t':=s1.toks) fun b o e=>Heap.get?_push_of_some _ e;rw[hw];refine wpAny_bind (wpAny_pure ?_);show wpAny (model X.prog X.w) X.A (do rule "assign.swapped-stores";let items <- unpackItems (.ref s1.heap.objs.size) 2 none;assignInOrder [fun v=>bindName X.env y v,fun v=>bindName X.env x v] items.reverse;pure Flow.next) _ _ _;refine wpAny_bind (wpAny_rule (wpAny_bind (unpackItems_tuple (items:=#[u1,u2]) (I.ok.hd hc) (IsTup.new s1.heap _) fun h' hx'=>?_)));have I3:=I2.kept (h':=h') (t':=s1.toks) fun b o e=>hx' b o (Nat.ne_of_lt (Heap.lt_size e)) e;show wpAny _ _ (assignInOrder [fun v=>bindName X.env y v,fun v=>bindName X.env x v] [u2,u1] >>= fun _=>pure Flow.next) _ _ _;refine wpAny_bind (assignInOrder_cons (wpAny_bindName (ZR I3 hN hj (.inl hy) rw' (fun s2 I4=>?_) (.inr hy))))
 refine assignInOrder_cons (wpAny_bindName (ZR I4 hN hi (.inl hx) rv (fun s3 I5=>assignInOrder_nil (wpAny_pure ?_)) (.inr hx)));rw[List.set_comm _ _ (Ne.symm hij)] at I5;exact⟨_,H1,I5,q1⟩
noncomputable def tAug (i:Nat) (te:TE) (ti:TIp):TS:=fun D σ H=>∃ x,σ[i]?=some (some x)/\te σ H fun y H1=>ti x y H1 fun z H2=>D.nx (σ.set i (some z)) H2
theorem Hw (hN:X.N.Nodup) (hi:X.N[i]?=some x) (hx:Loc X.env.scope x) (he:PE X e te) (ho:PIp X op ti) (hf:X.fn x=true\/X.env.scope.names.lookup x=some .local:=by first|exact .inl rfl|exact .inr rfl|assumption) :
  PS X (.AugAssign (.Name x pos') op e pos) (tAug i te ti):=by
 intro pins s σ H D I h;obtain⟨v,e1,h⟩:=h;obtain⟨m,hn,hl⟩:=I.loc;have vis:Vis X.env.scope x:=by rcases hx with k|k;exact .inl k;exact .inr (.inl k)
 obtain⟨u,r,l⟩:=hl i x v hi e1 vis;refine wpAny_AugAssign_Name ?_;have go:wpAny (model X.prog X.w) X.A (eval e X.env) (fun w s₂=>wpAny (model X.prog X.w) X.A (inplaceOp op u w) (fun r s₃=>wpAny (model X.prog X.w) X.A (storeName X.env x r) (fun _=>SP X pins D .next) X.xe s₃) X.xe s₂) X.xe s:=by
  refine thn (he pins s σ H _ I h) fun w s1 hq2=>?_;obtain⟨y,H1,I1,r1,q1⟩:=hq2;refine thn (ho pins s1 σ H1 v y u w _ I1 r r1 q1) fun z s2 hq2=>?_;obtain⟨zv,H2,I2,r2,q2⟩:=hq2;exact ZR I2 hN hi hx r2 (fun s3 I3=>⟨_,H2,I3,q2⟩) hf
 rcases l with ⟨hk,hm⟩|⟨hk,c,hc,hcell⟩
 ·exact wpAny_loadName_local I.ok.kind hk hn hm go
 ·rcases hk with hk|hk
  ·exact wpAny_loadName_cell I.ok.kind hk hc hcell go
  ·rcases hx with k|k
   ·have:X.env.scope.names.lookup x=some .free:=hk
    rw[k] at this;cases this
   ·have:X.env.scope.names.lookup x=some .free:=hk
    rw[k] at this;cases this
noncomputable def ipI (f:Int->Int->Int):TIp:=fun x y H Q=>∃ i j,x=.int i/\y=.int j/\Q (.int (f i j)) H
theorem Ik:PIp X .Add (ipI fun i j=>i+j):=by
 intro pins s σ H x y v u Q I r1 r2 h;obtain⟨i,j,e1,e2,q⟩:=h;subst e1;subst e2;obtain⟨t,rfl⟩:=r1;obtain⟨t',rfl⟩:=r2;exact iadd_int ⟨.int _,H,I.tok _,⟨_,rfl⟩,q⟩
theorem Ij:PIp X .Sub (ipI fun i j=>i-j):=by
 intro pins s σ H x y v u Q I r1 r2 h;obtain⟨i,j,e1,e2,q⟩:=h;subst e1;subst e2;obtain⟨t,rfl⟩:=r1;obtain⟨t',rfl⟩:=r2;exact isub_int ⟨.int _,H,I.tok _,⟨_,rfl⟩,q⟩
end
section
variable {X:Cx} {pos:Pos}
noncomputable def Hg (c:TT) (tb:TS):TS:=fun D σ H=>∃ W:Nat->St->Hp->Prop,(∃ m,W m σ H)/\∀ m σ H,W m σ H ->
 c σ H fun b H1=>if b=true then ∃ N:St->Hp->Prop,(∀ σ' H',N σ' H'->∃ m',m'<m/\W m' σ' H')/\tb {D with nx:=N,ct:=N,bk:=D.nx} σ H1 else D.nx σ H1
theorem D3 (hp:PassesOwn (model X.prog X.w) X.A X.env X.xe) (hc:PT X c tc) (hb:PSs X body tb):PS X (.While c body [] pos) (Hg tc tb):=by
 intro pins s σ H D I h;obtain⟨W,⟨m0,w0⟩,turn⟩:=h;refine wpAny_While (codeAny_whileLoop (fun n s'=>∃ σ' H',Inv X pins σ' H' s'/\W n σ' H') ?_ m0 ⟨σ,H,I,w0⟩);rintro n s1 ⟨σ1,H1,I1,w1⟩;refine wpAny_passesOwn hp (thn (hc pins s1 σ1 H1 _ I1 (turn n σ1 H1 w1)) fun b s2 hq2=>?_);obtain⟨H2,I2,q2⟩:=hq2;cases b with
 | true =>
  obtain⟨N,hN,q2⟩:=q2;rw[if_pos rfl];refine wpAny_passesOwn hp (thn (hb pins s2 σ1 H2 _ I2 q2) fun f s3 q3=>?_);cases f with
  | next =>
   obtain⟨σ3,H3,I3,n3⟩:=q3;obtain⟨m',hm,w3⟩:=hN σ3 H3 n3;exact⟨m',hm,σ3,H3,I3,w3⟩
  | cont =>
   obtain⟨σ3,H3,I3,n3⟩:=q3;obtain⟨m',hm,w3⟩:=hN σ3 H3 n3;exact⟨m',hm,σ3,H3,I3,w3⟩
  | brk=>exact q3
  | ret v=>exact q3
 | false =>
  rw[if_neg Bool.false_ne_true];exact wpAny_execs_nil ⟨σ1,H2,I2,q2⟩
end
structure It where
 go:Nat->Hp->Prop
 yld:Nat->Hp->V->Hp->Prop
 stop:Nat->Hp->Prop
noncomputable def FpOk (X:Cx) (pins:List (Addr×Obj)) (H:Hp) (b:Addr):Prop :=
 H b=none/\b≠X.env.locals/\b ∉ X.fs/\(b∈X.ex\/X.s₀.heap.objs.size<=b)/\(∀ x c,X.env.cells.lookup x=some c->c≠b)/\∀ p∈X.pn++pins,p.1≠b
theorem Inv.fpOk (I:Inv X pins σ H s) (hb:s.heap.objs.size<=b) (hn:H' b=none):FpOk X pins H' b:=by
 refine⟨hn,Nat.ne_of_gt (Nat.lt_of_lt_of_le I.lt hb),I.nofs hb,.inr (Nat.le_trans I.sz hb),fun x c e z=>?_,fun p hp z=>?_⟩
 ·obtain⟨v,q⟩:=I.cell x c e
  exact absurd (Nat.lt_of_lt_of_le q.lt (by rw[z];exact hb)) (Nat.lt_irrefl _)
 ·exact absurd (Nat.lt_of_lt_of_le (Heap.lt_size (I.pin p hp).1) (by rw[z];exact hb)) (Nat.lt_irrefl _)
structure Turn (P:Program) (w:World) (K:Frag) (tg:Expr) (J:It) (fp:List Addr) (it:Addr) (tn:Nat->Heap->Prop):Prop where
 mem:it∈fp
 obj:∀ i h,tn i h->∀ b∈fp,∃ o,h.get? b=some o/\∀ v,o.data≠.cell v
 keep:∀ i h h',tn i h->(∀ b∈fp,∀ o,h.get? b=some o->h'.get? b=some o)->tn i h'
 item:∀ (X:Cx),X.prog=P->X.w=w->X.K=K->X.calm=true->∀ (i:Nat) (pins:List (Addr×Obj)) (s:Shared) (σ:St) (H:Hp) (E:Value->Shared->Prop),Inv X pins σ H s->(∀ b∈fp,FpOk X pins H b)->tn i s.heap->J.go i H ->
  wpAny (model P w) X.A (pyNext (.ref it)) (fun r s1=>∃ u,r=some u /\
   wpAny (model P w) X.A (letOwnedTupleGo tg (.ref it) u) (fun _ s2=>∃ x H',Inv X pins σ H' s2/\RelV x u/\J.yld i H x H'/\tn (i+1) s2.heap/\∀ b∈fp,H' b=none) E s1) E s
 done:∀ (X:Cx),X.prog=P->X.w=w->X.K=K->X.calm=true->∀ (i:Nat) (pins:List (Addr×Obj)) (s:Shared) (σ:St) (H:Hp) (E:Value->Shared->Prop),Inv X pins σ H s->(∀ b∈fp,FpOk X pins H b)->tn i s.heap->J.stop i H ->
  wpAny (model P w) X.A (pyNext (.ref it)) (fun r s1=>r=none/\Inv X pins σ H s1) E s
 self:∀ (A:Around) (i:Nat) (s:Shared) (Q:Value->Shared->Prop) (E:Value->Shared->Prop),tn i s.heap->Q (.ref it) s->wpAny (model P w) A (pyIter (.ref it)) Q E s
abbrev TI:=St->Hp->(It->Hp->Prop)->Prop
noncomputable def PIE (X:Cx) (pins:List (Addr×Obj)) (σ:St) (tg:Expr) (R:It->Hp->Prop) (itv:Value) (s2:Shared):Prop :=
 ∃ (it:Addr) (fp:List Addr) (tn:Nat->Heap->Prop) (J:It) (H':Hp),itv=.ref it/\Inv X pins σ H' s2/\Turn X.prog X.w X.K tg J fp it tn/\tn 0 s2.heap/\(∀ b∈fp,FpOk X pins H' b)/\R J H'
noncomputable def PI (X:Cx) (tg iter:Expr) (wi:TI):Prop :=
 ∀ (pins:List (Addr×Obj)) (s:Shared) (σ:St) (H:Hp) (R:It->Hp->Prop),Inv X pins σ H s->wi σ H R ->
  wpAny (model X.prog X.w) X.A (eval iter X.env) (fun v s1=>wpAny (model X.prog X.w) X.A (pyIter v) (PIE X pins σ tg R) X.xe s1) X.xe s
theorem Bb (ho:s.heap.get? it=some o) (hc:o.cls=.type n) (hd:o.data=.fields vs)
    (hn:["enumerate","zip","dict_itemiterator","dict_reverseitemiterator","odict_iterator","itertools.zip_longest","itertools.pairwise"].contains n=false) (hQ:Q () s):wpAny M A (letOwnedTupleGo tg (.ref it) u) Q E s:=by
  unfold letOwnedTupleGo;cases tg<;>first
    | exact wpAny_pure hQ
    | (cases u<;>first
        | exact wpAny_pure hQ
        | (refine wpAny_bind (wpAny_load ho ?_)
           rw[hc,hd];show wpAny M A (if (["enumerate","zip","dict_itemiterator","dict_reverseitemiterator","odict_iterator","itertools.zip_longest","itertools.pairwise"].contains n&&vs[0]?==some (rawInt _))=true then _ else _) Q E s;rw[if_neg (by intro h;rw[hn,Bool.false_and] at h;cases h)];exact wpAny_pure hQ))
noncomputable def Itl (K:Frag) (a:Addr):It :=
 ⟨fun i H=>∃ xs x,SqL K H a xs/\xs[i]?=some x,fun i H x H'=>H'=H/\∀ xs,SqL K H a xs->xs[i]?=some x,fun i H=>∃ xs,SqL K H a xs/\xs.length<=i⟩
noncomputable def Itt (K:Frag) (a:Addr):It :=
 ⟨fun i H=>∃ xs x,SqT K H a xs/\xs[i]?=some x,fun i H x H'=>H'=H/\∀ xs,SqT K H a xs->xs[i]?=some x,fun i H=>∃ xs,SqT K H a xs/\xs.length<=i⟩
noncomputable def Itr (lo:Int) (n:Nat):It:=⟨fun i _=>i<n,fun i H x H'=>H'=H/\x=.int (lo+i),fun i _=>n<=i⟩
theorem Bw {P:Program} {w:World} {K:Frag} {tg:Expr} (a it:Addr):Turn P w K tg (Itl K a) [it] it (fun i h=>h.IsListIter it a i) where
 mem:=by simp
 obj:=fun i h st b hb=>by
  have e:b=it:=by simpa using hb
  subst e;obtain⟨o,e,c,d⟩:=st;exact⟨o,e,fun v z=>by rw[d] at z;cases z⟩
 keep:=fun i h h' st k=>st.at fun o e=>k it (by simp) o e
 item:=by
  intro X hP hw hK hc i pins s σ H E I hf st hg;subst hP hw hK;obtain⟨xs,x,hq,hx⟩:=hg;obtain⟨its,rv,p,hz⟩:=I.list hq;obtain⟨u,hu,ru⟩:=rv.get hx;obtain⟨f0,f1,f2,f3,f4,f5⟩:=hf it (by simp);refine wpAny_pyNext_list_item st p.isList (x:=u) (by simpa using hu) fun h' st' sb=>?_;have I1:Inv X pins σ H {s with heap:=h'}:=I.turned (t':=s.toks) (fun b o hb e=>(sb.2 b hb).trans e) f0 f1 f3 f4 f5;obtain⟨o,e,c,d⟩:=id st';exact⟨u,rfl,Bb (s:={s with heap:=h'}) e c d %[|4] ⟨x,H,I1,ru,⟨rfl,fun ys hy=>by rw[I.list_inj hy hq];exact hx⟩,st',fun b hb=>(hf b hb).1⟩⟩
 done:=by
  intro X hP hw hK hc i pins s σ H E I hf st hg;subst hP hw hK;obtain⟨xs,hq,hx⟩:=hg;obtain⟨its,rv,p,hz⟩:=I.list hq;obtain⟨f0,f1,f2,f3,f4,f5⟩:=hf it (by simp);have hl:=rv.length;exact wpAny_pyNext_list_end (I.ok.hd hc) st p.isList (by simp;omega) fun h' eb=>⟨rfl,I.turned (t':=s.toks) (fun b o hb e=>eb b o hb e) f0 f1 f3 f4 f5⟩
 self:=fun _ _ _ _ _ st h=>wpAny_pyIter_listiter st h
theorem JY {P:Program} {w:World} {K:Frag} {tg:Expr} (a it:Addr):Turn P w K tg (Itt K a) [it] it (fun i h=>h.IsTupleIter it a i) where
 mem:=by simp
 obj:=fun i h st b hb=>by
  have e:b=it:=by simpa using hb
  subst e;obtain⟨o,e,c,d⟩:=st;exact⟨o,e,fun v z=>by rw[d] at z;cases z⟩
 keep:=fun i h h' st k=>st.at fun o e=>k it (by simp) o e
 item:=by
  intro X hP hw hK hc i pins s σ H E I hf st hg;subst hP hw hK;obtain⟨xs,x,hq,hx⟩:=hg;obtain⟨its,rv,p,hz⟩:=I.tuple hq;obtain⟨u,hu,ru⟩:=rv.get hx;obtain⟨f0,f1,f2,f3,f4,f5⟩:=hf it (by simp);refine wpAny_pyNext_tuple_item st (show s.heap.IsTuple a its.toArray from p) (x:=u) (by simpa using hu) fun h' st' sb=>?_;have I1:Inv X pins σ H {s with heap:=h'}:=I.turned (t':=s.toks) (fun b o hb e=>(sb.2 b hb).trans e) f0 f1 f3 f4 f5;obtain⟨o,e,c,d⟩:=id st';exact⟨u,rfl,Bb (s:={s with heap:=h'}) e c d %[|4] ⟨x,H,I1,ru,⟨rfl,fun ys hy=>by rw[I.tuple_inj hy hq];exact hx⟩,st',fun b hb=>(hf b hb).1⟩⟩
 done:=by
  intro X hP hw hK hc i pins s σ H E I hf st hg;subst hP hw hK;obtain⟨xs,hq,hx⟩:=hg;obtain⟨its,rv,p,hz⟩:=I.tuple hq;obtain⟨f0,f1,f2,f3,f4,f5⟩:=hf it (by simp);have hl:=rv.length;exact wpAny_pyNext_tuple_end (I.ok.hd hc) st (show s.heap.IsTuple a its.toArray from p) (by simp;omega) fun h' eb=>⟨rfl,I.turned (t':=s.toks) (fun b o hb e=>eb b o hb e) f0 f1 f3 f4 f5⟩
 self:=fun _ _ _ _ _ st h=>wpAny_pyIter_tupleiter st h
theorem JZ {P:Program} {w:World} {K:Frag} {tg:Expr} (it:Addr) (lo:Int) (n:Nat):Turn P w K tg (Itr lo n) [it] it (fun i h=>IsRangeIter h it (lo+(i:Nat)*1) ((n:Int)-(i:Nat)) 1) where
 mem:=by simp
 obj:=fun i h st b hb=>by
  have e:b=it:=by simpa using hb
  subst e;exact⟨_,st,fun v z=>by
   have z':Data.fields _=Data.cell v:=z;cases z'⟩
 keep:=fun i h h' st k=>k it (by simp) _ st
 item:=by
  intro X hP hw hK hc i pins s σ H E I hf st hg;subst hP hw hK;obtain⟨f0,f1,f2,f3,f4,f5⟩:=hf it (by simp);have W:=Walks.range (prog:=X.prog) (w:=X.w) (I.ok.hd hc) it lo 1 n;refine W.item i s _ _ hg st fun v h' tk hv st' kk=>?_;obtain⟨t,rfl⟩:=hv;have I1:Inv X pins σ H {s with heap:=h',toks:=tk}:=I.turned (fun b o hb e=>kk b o (by simpa using hb) e) f0 f1 f3 f4 f5;refine⟨_,rfl,Bb (s:={s with heap:=h',toks:=tk}) (n:="range_iterator") st' rfl rfl %[|4] ⟨.int (lo+i),H,I1,⟨t,?_⟩,⟨rfl,rfl⟩,st',fun b hb=>(hf b hb).1⟩⟩;rw[Int.mul_one]
 done:=by
  intro X hP hw hK hc i pins s σ H E I hf st hg;subst hP hw hK;obtain⟨f0,f1,f2,f3,f4,f5⟩:=hf it (by simp);exact wpAny_pyNext_range_end (I.ok.hd hc) st (by have:n<=i:=hg;omega) fun h' eb=>⟨rfl,I.turned (t':=s.toks) (fun b o hb e=>eb b o hb e) f0 f1 f3 f4 f5⟩
 self:=fun _ _ _ _ _ st h=>wpAny_pyIter_rangeiter st h
end L2
namespace L2
open PySem PySem.Spec PyProof.Rows
section
variable {X:Cx} {tg:Expr}
theorem Jl {pins:List (Addr×Obj)} {σ:St} {H:Hp} {s:Shared} {R:It->Hp->Prop} {E:Value->Shared->Prop} {lo hi:Int} {t u v:Tok} {tk:Nat} (I:Inv X pins σ H s) (h1:-(2 ^ 62)<=lo) (h2:lo<2 ^ 62) (h3:-(2 ^ 62)<=hi) (h4:hi<2 ^ 62)
  (q:R (Itr lo (hi-lo).toNat) H):wpAny (model X.prog X.w) X.A (pyIter (.ref s.heap.objs.size)) (PIE X pins σ tg R) E {s with heap:=s.heap.push {cls:=.type "range",data:=.fields #[.int lo t,.int hi u,.int 1 v]},toks:=tk}:=by
 refine wpAny_pyIter_range (IsRange.new ..) (small_one h1 h2 h3 h4) ?_;have I1:Inv X pins σ H {s with heap:=s.heap.push {cls:=.type "range",data:=.fields #[.int lo t,.int hi u,.int 1 v]},toks:=tk}:=I.kept fun b o e=>Heap.get?_push_of_some _ e;refine⟨(s.heap.push {cls:=.type "range",data:=.fields #[.int lo t,.int hi u,.int 1 v]}).objs.size,[(s.heap.push {cls:=.type "range",data:=.fields #[.int lo t,.int hi u,.int 1 v]}).objs.size],_,_,H,rfl,
  I1.kept (t':=tk) fun b o e=>Heap.get?_push_of_some _ e,JZ _ lo (hi-lo).toNat,?_,fun b hb=>?_,q⟩
 ·have e1:lo+((0:Nat):Int)*1=lo:=by simp
  have e2:(((hi-lo).toNat:Nat):Int)-((0:Nat):Int)=Builtin.Range.rangeSize lo hi 1:=by rw[rangeSize_one];split<;>omega
  show IsRangeIter _ _ (lo+((0:Nat):Int)*1) ((((hi-lo).toNat:Nat):Int)-((0:Nat):Int)) 1;rw[e1,e2];exact Heap.get?_push_size _ rfl
 ·have e:b=(s.heap.push {cls:=.type "range",data:=.fields #[.int lo t,.int hi u,.int 1 v]}).objs.size:=by simpa using hb
  subst e;exact I1.fpOk %[|3] (I1.hok.fresh %[|3])
noncomputable def tFor (wi:TI) (g:TG) (tb:TS):TS:=fun D σ H=>wi σ H fun J H1=>∃ W:Nat->Nat->St->Hp->Prop,(∃ m,W 0 m σ H1)/\∀ i m σ H,W i m σ H ->
 (J.stop i H/\D.nx σ H)\/(J.go i H/\∃ N:St->Hp->Prop,(∀ σ' H',N σ' H'->∃ m',m'<m/\W (i+1) m' σ' H')/\∀ x H',J.yld i H x H'->g x σ H' fun σ2 H2=>tb {D with nx:=N,ct:=N,bk:=D.nx} σ2 H2)
noncomputable def Vp (fp:List Addr) (h:Heap):List (Addr×Obj):=fp.filterMap fun b=>(h.get? b).map fun o=>(b,o)
theorem Zx (hb:b∈fp) (e:h.get? b=some o):(b,o)∈Vp fp h:=List.mem_filterMap.mpr ⟨b,hb,by rw[e];rfl⟩
theorem BL (hp:p∈Vp fp h):p.1∈fp/\h.get? p.1=some p.2:=by
 obtain⟨b,hb,e⟩:=List.mem_filterMap.mp hp;cases q:h.get? b with
 | none=>rw [q] at e;cases e
 | some o =>
  rw[q] at e;have e':(b,o)=p:=Option.some.inj e;subst e';exact⟨hb,q⟩
theorem Inv.pinned (I:Inv X pins σ H s) (hf:∀ b∈fp,FpOk X pins H b) (ho:∀ b∈fp,∃ o,s.heap.get? b=some o/\∀ v,o.data≠.cell v):Inv X (pins++Vp fp s.heap) σ H s :=
 I.pins_of fun p hp=>(List.mem_append.mp hp).elim (fun z=>I.pin p (List.mem_append_right _ z)) fun z=>by
  obtain⟨hb,e⟩:=BL z;obtain⟨f0,f1,f2,_⟩:=hf p.1 hb;obtain⟨o,e',d⟩:=ho p.1 hb;rw[e] at e';cases e';exact⟨e,f0,f1,f2,d⟩
theorem Inv.unpinned (I:Inv X (pins++pl) σ H s):Inv X pins σ H s:=I.pins_of fun p hp=>I.pin p (List.mem_append_right _ (List.mem_append_left _ hp))
theorem Hv (hp:PassesOwn (model X.prog X.w) X.A X.env X.xe) (hc:X.calm=true) (hi:PI X tg iter wi) (hg:PG X tg g) (hb:PSs X body tb)
  (hs:∀ x,foldedSetIterable iter X.env x=pure x:=by intro _;rfl):PS X (.For tg iter body [] pos) (tFor wi g tb):=by
 intro pins s σ H D I h;refine wpAny_For (thn (hi pins s σ H _ I h) fun v s1 h1=>thn h1 fun itv s2 h2=>?_) hs;obtain⟨it,fp,tn,J,H2,e,I2,T,st2,f2,W,⟨m0,w0⟩,turn⟩:=h2;subst e;have stat:∀ {H':Hp},(∀ b∈fp,H' b=none)->∀ b∈fp,FpOk X pins H' b:=fun hn b hb=>⟨hn b hb,(f2 b hb).2⟩;refine codeAny_forLoop_any (fun n s'=>∃ i σ' H',Inv X pins σ' H' s'/\tn i s'.heap/\(∀ b∈fp,H' b=none)/\W i n σ' H') ?_ m0 ⟨0,σ,H2,I2,st2,fun b hb=>(f2 b hb).1,w0⟩;rintro n s3 ⟨i,σ3,H3,I3,st3,fr3,w3⟩;rcases turn i n σ3 H3 w3 with ⟨stop,qn⟩|⟨go,N,hN,step⟩
 ·refine wpAny_passesOwn hp (thn (T.done X rfl rfl rfl hc i pins s3 σ3 H3 X.xe I3 (stat fr3) st3 stop) fun r s4 hq2=>?_)
  obtain⟨hr,I4⟩:=hq2;subst hr;exact wpAny_execs_nil ⟨σ3,H3,I4,qn⟩
 ·refine wpAny_passesOwn hp (thn (T.item X rfl rfl rfl hc i pins s3 σ3 H3 X.xe I3 (stat fr3) st3 go) fun r s4 hq2=>?_)
  obtain⟨u,hr,h4⟩:=hq2;subst hr;refine wpAny_passesOwn hp (thn h4 fun _ s5 hq2=>?_);obtain⟨x,H5,I5,r5,y5,st5,fr5⟩:=hq2;have I5':=I5.pinned (stat fr5) (T.obj _ _ st5);refine wpAny_passesOwn hp (thn (hg _ s5 σ3 H5 x u _ I5' r5 (step x H5 y5)) fun _ s6 hq2=>?_);obtain⟨σ6,H6,I6,q6⟩:=hq2;refine wpAny_passesOwn hp (thn (hb _ s6 σ6 H6 _ I6 q6) fun f s7 q7=>?_);have again:∀ {σ7:St} {H7:Hp},Inv X (pins++Vp fp s5.heap) σ7 H7 s7->N σ7 H7->∃ m,m<n/\∃ i σ' H',Inv X pins σ' H' s7/\tn i s7.heap/\(∀ b∈fp,H' b=none)/\W i m σ' H':=fun {σ7 H7} I7 n7=>by
   obtain⟨m',hm,w7⟩:=hN σ7 H7 n7;refine⟨m',hm,i+1,σ7,H7,I7.unpinned,T.keep _ _ _ st5 fun b hb o e=>(I7.pin (b,o) (List.mem_append_right _ (List.mem_append_right _ (Zx hb e)))).1,fun b hb=>?_,w7⟩;obtain⟨o,e,d⟩:=T.obj _ _ st5 b hb;exact (I7.pin (b,o) (List.mem_append_right _ (List.mem_append_right _ (Zx hb e)))).2.1
  cases f with
  | next=>obtain⟨σ7,H7,I7,n7⟩:=q7;exact again I7 n7
  | cont=>obtain⟨σ7,H7,I7,n7⟩:=q7;exact again I7 n7
  | brk=>obtain⟨σ7,H7,I7,q7⟩:=q7;exact⟨σ7,H7,I7.unpinned,q7⟩
  | ret v=>obtain⟨x7,σ7,H7,I7,r7,q7⟩:=q7;exact⟨x7,σ7,H7,I7.unpinned,r7,q7⟩
end
end L2
namespace L2
open PySem PySem.Spec PyProof.Rows
abbrev R2:=V->V->Hp->VK->Prop
noncomputable def OpR (X:Cx) (f:Value->Value->Sem Value) (r:R2):Prop :=
 ∀ (pins:List (Addr×Obj)) (s:Shared) (σ:St) (H:Hp) (x y:V) (v u:Value) (Q:VK),Inv X pins σ H s->RelV x v->RelV y u->r x y H Q ->
  wpAny (model X.prog X.w) X.A (f v u) (EP X pins σ Q) X.xe s
noncomputable def UnR (X:Cx) (f:Value->Sem Value) (r:V->Hp->VK->Prop):Prop :=
 ∀ (pins:List (Addr×Obj)) (s:Shared) (σ:St) (H:Hp) (x:V) (v:Value) (Q:VK),Inv X pins σ H s->RelV x v->r x H Q ->
  wpAny (model X.prog X.w) X.A (f v) (EP X pins σ Q) X.xe s
noncomputable def CallR (X:Cx) (f:Value) (r:List V->Hp->VK->Prop):Prop :=
 ∀ (pins:List (Addr×Obj)) (s:Shared) (σ:St) (H:Hp) (xs:List V) (us:List Value) (Q:VK),Inv X pins σ H s->Vals xs us->r xs H Q ->
  wpAny (model X.prog X.w) X.A (call f us) (EP X pins σ Q) X.xe s
noncomputable def TruR (X:Cx) (r:V->Hp->(Bool->Hp->Prop)->Prop):Prop :=
 ∀ (pins:List (Addr×Obj)) (s:Shared) (σ:St) (H:Hp) (x:V) (v:Value) (Q:Bool->Hp->Prop),Inv X pins σ H s->RelV x v->r x H Q ->
  wpAny (model X.prog X.w) X.A (truthy v) (TP X pins σ Q) X.xe s
noncomputable def tOp (r:R2) (ta tb:TE):TE:=fun σ H Q=>ta σ H fun x H1=>tb σ H1 fun y H2=>r x y H2 Q
noncomputable def tUn (r:V->Hp->VK->Prop) (ta:TE):TE:=fun σ H Q=>ta σ H fun x H1=>r x H1 Q
noncomputable def rI (C:Int->Int->Prop) (g:Int->Int->V):R2:=fun x y H Q=>∃ i j,x=.int i/\y=.int j/\C i j/\Q (g i j) H
noncomputable def rI0 (g:Int->Int->V):R2:=fun x y H Q=>∃ i j,x=.int i/\y=.int j/\Q (g i j) H
noncomputable def rU (g:Int->V):V->Hp->VK->Prop:=fun x H Q=>∃ i,x=.int i/\Q (g i) H
section
variable {X:Cx} {a b c:Expr} {ta tb tc:TE} {pos:Pos}
theorem binT (ha:PE X a ta) (hb:PE X b tb) {pins:List (Addr×Obj)} {s:Shared} {σ:St} {H:Hp} {R:V->V->Hp->Prop} (I:Inv X pins σ H s)
  (h:ta σ H fun x H1=>tb σ H1 fun y H2=>R x y H2) {Q:Value->Shared->Prop} {f:Value->Value->Sem Value}
  (hf:∀ v u s2 x y H2,Inv X pins σ H2 s2->RelV x v->RelV y u->R x y H2->wpAny (model X.prog X.w) X.A (f v u) Q X.xe s2) :
  wpAny (model X.prog X.w) X.A (eval a X.env) (fun v s₁=>wpAny (model X.prog X.w) X.A (eval b X.env) (fun u s₂=>wpAny (model X.prog X.w) X.A (f v u) Q X.xe s₂) X.xe s₁) X.xe s:=by
 refine thn (ha pins s σ H _ I h) fun v s1 hq2=>?_;obtain⟨x,H1,I1,r1,q1⟩:=hq2;refine thn (hb pins s1 σ H1 _ I1 q1) fun u s2 hq2=>?_;obtain⟨y,H2,I2,r2,q2⟩:=hq2;exact hf v u s2 x y H2 I2 r1 r2 q2
theorem Kr {op:Operator} {r:R2} (ho:OpR X (binaryOp op) r) (ha:PE X a ta) (hb:PE X b tb):PE X (.BinOp a op b pos) (tOp r ta tb):=by
 intro pins s σ H Q I h;exact wpAny_BinOp (binT ha hb I h fun v u s2 x y H2 I2 rx ry q=>ho pins s2 σ H2 x y v u Q I2 rx ry q)
theorem Ko (ho:UnR X (unaryOp op) r) (ha:PE X a ta):PE X (.UnaryOp op a pos) (tUn r ta):=by
 intro pins s σ H Q I h;exact UnaryOp_ (thn (ha pins s σ H _ I h) (by rintro v s1 ⟨x,H1,I1,r1,q1⟩;exact ho pins s1 σ H1 x v Q I1 r1 q1))
theorem opI {f:Value->Value->Sem Value} {C:Int->Int->Prop} {g:Int->Int->Int}
  (rule:∀ (i j:Int) (t u:Tok) (s:Shared) (Q:Value->Shared->Prop) (E:Value->Shared->Prop),C i j->Q (.int (g i j) s.toks) {s with toks:=s.toks+1}->wpAny (model X.prog X.w) X.A (f (.int i t) (.int j u)) Q E s) :
  OpR X f (rI C fun i j=>.int (g i j)):=by
 intro pins s σ H x y v u Q I rx ry h;obtain⟨i,j,rfl,rfl,hc,q⟩:=h;obtain⟨t,rfl⟩:=rx;obtain⟨t',rfl⟩:=ry;exact rule i j t t' s _ _ hc ⟨.int (g i j),H,I.tok _,⟨_,rfl⟩,q⟩
theorem opI0 {f:Value->Value->Sem Value} {g:Int->Int->Int}
  (rule:∀ (i j:Int) (t u:Tok) (s:Shared) (Q:Value->Shared->Prop) (E:Value->Shared->Prop),Q (.int (g i j) s.toks) {s with toks:=s.toks+1}->wpAny (model X.prog X.w) X.A (f (.int i t) (.int j u)) Q E s) :
  OpR X f (rI0 fun i j=>.int (g i j)):=by
 intro pins s σ H x y v u Q I rx ry h;obtain⟨i,j,rfl,rfl,q⟩:=h;obtain⟨t,rfl⟩:=rx;obtain⟨t',rfl⟩:=ry;exact rule i j t t' s _ _ ⟨.int (g i j),H,I.tok _,⟨_,rfl⟩,q⟩
theorem opB0 {f:Value->Value->Sem Value} {g:Int->Int->Bool}
  (rule:∀ (i j:Int) (t u:Tok) (s:Shared) (Q:Value->Shared->Prop) (E:Value->Shared->Prop),Q (.bool (g i j)) s->wpAny (model X.prog X.w) X.A (f (.int i t) (.int j u)) Q E s) :
  OpR X f (rI0 fun i j=>.bl (g i j)):=by
 intro pins s σ H x y v u Q I rx ry h;obtain⟨i,j,rfl,rfl,q⟩:=h;obtain⟨t,rfl⟩:=rx;obtain⟨t',rfl⟩:=ry;exact rule i j t t' s _ _ ⟨.bl (g i j),H,I,rfl,q⟩
noncomputable def CPow (i j:Int):Prop:=0<=j/\j<=1000000/\i.natAbs<2 ^ 64
theorem HS:OpR X (binaryOp .Add) (rI0 fun i j=>.int (i+j)):=opI0 fun _ _ _ _ _ _ _ q=>add_int q
theorem unI {f:Value->Sem Value} {g:Int->Int}
  (rule:∀ (i:Int) (t:Tok) (s:Shared) (Q:Value->Shared->Prop) (E:Value->Shared->Prop),Q (.int (g i) s.toks) {s with toks:=s.toks+1}->wpAny (model X.prog X.w) X.A (f (.int i t)) Q E s) :
  UnR X f (rU fun i=>.int (g i)):=by
 intro pins s σ H x v Q I rx h;obtain⟨i,rfl,q⟩:=h;obtain⟨t,rfl⟩:=rx;exact rule i t s _ _ ⟨.int (g i),H,I.tok _,⟨_,rfl⟩,q⟩
theorem Ha:UnR X (unaryOp .USub) (rU fun i=>.int (-i)):=unI fun _ _ _ _ _ q=>neg_int q
end
section
variable {X:Cx} {a b c:Expr} {ta tb tc:TE} {pos:Pos}
theorem Ei (I:Inv X pins σ H s) (q:Q (.bl k) H) (e:k=k'):EP X pins σ Q (.bool k') s:=by
 subst e;exact⟨.bl k,H,I,rfl,q⟩
theorem Ku:OpR X (compareOp .Lt) (rI0 fun i j=>.bl (decide (i<j))):=opB0 fun _ _ _ _ _ _ _ q=>lt_int q
theorem Kv:OpR X (compareOp .LtE) (rI0 fun i j=>.bl (decide (i<=j))):=opB0 fun _ _ _ _ _ _ _ q=>le_int q
theorem Kw:OpR X (compareOp .Gt) (rI0 fun i j=>.bl (decide (j<i))):=opB0 fun _ _ _ _ _ _ _ q=>gt_int q
theorem Kx:OpR X (compareOp .GtE) (rI0 fun i j=>.bl (decide (j<=i))):=opB0 fun _ _ _ _ _ _ _ q=>ge_int q
theorem BI:OpR X (compareOp .In) (fun x y H Q=>∃ i j,x=.str i/\y=.str j/\Q (.bl (!(Builtin.Str.occurrences j i 0 j.length 1).isEmpty)) H):=by
 intro pins s σ H x y v u Q I rx ry h;obtain⟨i,j,rfl,rfl,q⟩:=h;obtain⟨t,rfl⟩:=rx;obtain⟨t',rfl⟩:=ry;exact in_str (Ei I q rfl)
theorem UH:OpR X (compareOp .NotIn) (fun x y H Q=>∃ i j,x=.str i/\y=.str j/\Q (.bl (!(!(Builtin.Str.occurrences j i 0 j.length 1).isEmpty))) H):=by
 intro pins s σ H x y v u Q I rx ry h;obtain⟨i,j,rfl,rfl,q⟩:=h;obtain⟨t,rfl⟩:=rx;obtain⟨t',rfl⟩:=ry;exact notIn_str (Ei I q rfl)
theorem Fu (ho:OpR X (compareOp op) r) (ha:PE X a ta) (hb:PE X b tb) (hm:behindInMarks op b=false):PE X (.Compare a [op] [b] pos) (tOp r ta tb):=by
 intro pins s σ H Q I h;exact wpAny_Compare1 (binT ha hb I h fun v u s2 x y H2 I2 rx ry q=>ho pins s2 σ H2 x y v u Q I2 rx ry q) hm
noncomputable def GF (t:TE):TT:=fun σ H Q=>t σ H fun x H'=>∃ k,x=.bl k/\Q k H'
theorem Fl (ho:OpR X (compareOp op) r) (ha:PE X a ta) (hb:PE X b tb) (hm:behindInMarks op b=false):PT X (.Compare a [op] [b] pos) (GF (tOp r ta tb)):=by
 intro pins s σ H Q I h;refine wpAny_isTrue_Compare1 (thn (ha pins s σ H _ I h) fun v s1 ⟨x,H1,I1,r1,q1⟩=>thn (hb pins s1 σ H1 _ I1 q1) fun u s2 ⟨y,H2,I2,r2,q2⟩ =>
  thn (ho pins s2 σ H2 x y v u _ I2 r1 r2 q2) fun c s3 hq2=>?_) hm
 obtain⟨z,H3,I3,r3,k,e,q3⟩:=hq2;subst e;cases r3;exact wpAny_truthy_bool ⟨H3,I3,q3⟩
noncomputable def A5 (r r':R2) (ta tb tc:TE):TE:=fun σ H Q=>ta σ H fun x H1=>tb σ H1 fun y H2=>r x y H2 fun z H3=>∃ k,z=.bl k /\
 (if k=true then tc σ H3 fun w' H4=>r' y w' H4 Q else Q (.bl false) H3)
theorem Dd (ho:OpR X (compareOp op) r) (ho':OpR X (compareOp op') r') (ha:PE X a ta) (hb:PE X b tb) (hc:PE X c tc)
  (hm:lastMarks [op,op'] [b,c]=false:=by with_unfolding_all rfl):PE X (.Compare a [op,op'] [b,c] pos) (A5 r r' ta tb tc):=by
 intro pins s σ H Q I h;refine Compare_chain (thn (ha pins s σ H _ I h) fun v s1 ⟨x,H1,I1,r1,q1⟩=>chain_link (thn (hb pins s1 σ H1 _ I1 q1) fun u s2 ⟨y,H2,I2,r2,q2⟩ =>
  thn (ho pins s2 σ H2 x y v u _ I2 r1 r2 q2) fun d s3 hq2=>?_)) hm
 obtain⟨z,H3,I3,r3,k,e,q3⟩:=hq2;subst e;cases r3;refine wpAny_truthy_bool ?_;cases k with
 | false=>exact ite_ff ⟨.bl false,H3,I3,rfl,q3⟩
 | true=>exact ite_tt (chain_last (thn (hc pins s3 σ H3 _ I3 q3) (by rintro w' s4 ⟨z',H4,I4,r4,q4⟩;exact ho' pins s4 σ H4 y z' u w' Q I4 r2 r4 q4)))
theorem D1 (ho:OpR X (compareOp op) r) (ho':OpR X (compareOp op') r') (ha:PE X a ta) (hb:PE X b tb) (hc:PE X c tc)
  (hm:lastMarks [op,op'] [b,c]=false:=by with_unfolding_all rfl):PT X (.Compare a [op,op'] [b,c] pos) (GF (A5 r r' ta tb tc)):=by
 intro pins s σ H Q I h;refine isTrue_chain (thn (ha pins s σ H _ I h) fun v s1 ⟨x,H1,I1,r1,q1⟩=>test_link (thn (hb pins s1 σ H1 _ I1 q1) fun u s2 ⟨y,H2,I2,r2,q2⟩ =>
  thn (ho pins s2 σ H2 x y v u _ I2 r1 r2 q2) fun d s3 hq2=>?_)) hm
 obtain⟨z,H3,I3,r3,k,e,q3⟩:=hq2;subst e;cases r3;refine wpAny_truthy_bool ?_;cases k with
 | false =>
  obtain⟨k',e',q'⟩:=q3;cases e';exact ite_ff ⟨H3,I3,q'⟩
 | true =>
  refine ite_tt (test_last (thn (hc pins s3 σ H3 _ I3 q3) fun w' s4 ⟨z',H4,I4,r4,q4⟩=>thn (ho' pins s4 σ H4 y z' u w' _ I4 r2 r4 q4) fun d' s5 hq2=>?_));obtain⟨z2,H5,I5,r5,k2,e2,q5⟩:=hq2;subst e2;cases r5;exact wpAny_truthy_bool ⟨H5,I5,q5⟩
noncomputable def TruV (K:Frag) (x:V) (H:Hp) (k:Bool):Prop :=
 match x with
 | .non=>k=false
 | .bl b=>k=b
 | .int i=>k=(i != 0)
 | .str y=>y.length<=sizeLine/\k=((y.length:Int) != 0)
 | .byt y=>y.size<=sizeLine/\k=((y.size:Int) != 0)
 | .ref p=>(∃ xs,SqL K H p xs/\k=!xs.isEmpty)\/(∃ xs,SqT K H p xs/\k=!xs.isEmpty)\/∃ kvs,H p=some (.dK kvs)/\k=!kvs.isEmpty
 | _=>False
theorem Ap (r:KV kvs vs):(!vs.isEmpty)=!kvs.isEmpty:=by
 cases r<;>rfl
theorem Vz (r:Vals xs its):(!its.toArray.isEmpty)=!xs.isEmpty:=by
 cases r<;>simp
theorem XV:(sizeLine:Nat)<2 ^ 63:=by rw[sizeLine_eq];decide
theorem Hc:TruR X (fun x H Q=>∃ k,TruV X.K x H k/\Q k H):=by
 intro pins s σ H x v Q I rx h;obtain⟨k,e,q⟩:=h;have hl:=XV;have hs:sizeLine=16777216:=sizeLine_eq;cases x with
 | non =>
  cases rx;have e':k=false:=e;subst e';exact truthy_none ⟨H,I,q⟩
 | bl b =>
  cases rx;have e':k=b:=e;subst e';exact wpAny_truthy_bool ⟨H,I,q⟩
 | int i =>
  obtain⟨t,rfl⟩:=rx;have e':k=(i != 0):=e;subst e';exact PySem.P.truthy_int ⟨H,I,q⟩
 | str y =>
  obtain⟨t,rfl⟩:=rx;obtain⟨hy,e'⟩:y.length<=sizeLine/\k=((y.length:Int) != 0):=e;subst e';exact PySem.P.truthy_str %[|5] ⟨H,I.tok _,q⟩
 | byt y =>
  obtain⟨t,rfl⟩:=rx;obtain⟨hy,e'⟩:y.size<=sizeLine/\k=((y.size:Int) != 0):=e;subst e';exact PySem.W.truthy_bytes %[|5] ⟨H,I.tok _,q⟩
 | ref p =>
  cases rx;have e':(∃ xs,SqL X.K H p xs/\k=!xs.isEmpty)\/(∃ xs,SqT X.K H p xs/\k=!xs.isEmpty)\/∃ kvs,H p=some (.dK kvs)/\k=!kvs.isEmpty:=e;rcases e' with ⟨xs,hx,e'⟩|⟨xs,hx,e'⟩|⟨kvs,hx,e'⟩
  ·subst e'
   obtain⟨its,r,pl,hz⟩:=I.list hx;have hlen:=r.length;exact wpAny_truthy_list pl.isList (by simp only[List.size_toArray];omega) ⟨H,I.tok _,by rw[Vz r];exact q⟩
  ·subst e'
   obtain⟨its,r,pl,hz⟩:=I.tuple hx;have hlen:=r.length;exact truthy_tuple pl (by simp only[List.size_toArray];omega) ⟨H,I.tok _,by rw[Vz r];exact q⟩
  ·subst e'
   obtain⟨hz,hS,vs,r,m⟩:kvs.length<=sizeLine/\(p==sysModules)=false/\∃ vs,KV kvs vs/\s.heap.DictOf (UO X.prog X.w) p vs:=I.hok p _ hx;have hlen:kvs.length=vs.length:=Paired.length r;exact wpAny_truthy_dict hS m %[|5] ⟨H,I.tok _,by rw[Ap r];exact q⟩
 | _=>exact (show False from e).elim
theorem D0 (ha:PE X a ta) (he:∀ whole,isTrue a X.env whole=(do let v <- whole;standAt a.pos;holding [v] (truthy v))) :
  PT X a (fun σ H Q=>ta σ H fun x H'=>∃ k,TruV X.K x H' k/\Q k H'):=by
 intro pins s σ H Q I h;exact isTrue_plain (thn (ha pins s σ H _ I h) (by rintro v s1 ⟨x,H1,I1,r1,q1⟩;exact Hc pins s1 σ H1 x v Q I1 r1 q1)) (he _)
theorem Af:OpR X (binaryOp .Add) (fun x y H Q=>∃ i j,x=.str i/\y=.str j/\i.length+j.length<=sizeLine/\Q (.str (i++j)) H):=by
 intro pins s σ H x y v u Q I rx ry h;obtain⟨i,j,rfl,rfl,hz,q⟩:=h;obtain⟨t,rfl⟩:=rx;obtain⟨t',rfl⟩:=ry;exact add_str (fun t' tk=>⟨.str (i++j),H,I.tok _,⟨_,rfl⟩,q⟩) hz
theorem V6 (r:Vals [x] us):∃ u,us=[u]/\RelV x u:=by
 cases r with
 | cons r1 r2=>cases r2;exact⟨_,rfl,r1⟩
theorem WB (r:Vals [x,y] us):∃ u w',us=[u,w']/\RelV x u/\RelV y w':=by
 cases r with
 | cons r1 r2 =>
  cases r2 with
  | cons r3 r4=>cases r4;exact⟨_,_,rfl,r1,r3⟩
theorem EJ:CallR X (.builtin "abs") (fun xs H Q=>∃ i,xs=[.int i]/\Q (.int (if i<0 then -i else i)) H):=by
 intro pins s σ H xs us Q I r h;obtain⟨i,rfl,q⟩:=h;obtain⟨u,rfl,t,rfl⟩:=V6 r;exact call_abs_int fun u tk=>⟨.int (if i<0 then -i else i),H,I.tok _,⟨_,rfl⟩,q⟩
theorem Cp (hc:X.calm=true):CallR X (.builtin "max") (fun xs H Q=>∃ i j,xs=[.int i,.int j]/\Q (.int (if j > i then j else i)) H):=by
 intro pins s σ H xs us Q I r h;obtain⟨i,j,rfl,q⟩:=h;obtain⟨u,w',rfl,⟨t,rfl⟩,⟨t',rfl⟩⟩:=WB r;refine max_two_ints (I.ok.hd hc) fun h' tk k=>⟨_,H,I.kept k,?_,q⟩;by_cases hj:j > i
 ·rw[if_pos hj,if_pos hj];exact⟨_,rfl⟩
 ·rw[if_neg hj,if_neg hj];exact⟨_,rfl⟩
theorem Co (hc:X.calm=true):CallR X (.builtin "min") (fun xs H Q=>∃ i j,xs=[.int i,.int j]/\Q (.int (if j<i then j else i)) H):=by
 intro pins s σ H xs us Q I r h;obtain⟨i,j,rfl,q⟩:=h;obtain⟨u,w',rfl,⟨t,rfl⟩,⟨t',rfl⟩⟩:=WB r;refine min_two_ints (I.ok.hd hc) fun h' tk k=>⟨_,H,I.kept k,?_,q⟩;by_cases hj:j<i
 ·rw[if_pos hj,if_pos hj];exact⟨_,rfl⟩
 ·rw[if_neg hj,if_neg hj];exact⟨_,rfl⟩
end
end L2
namespace L2
open PySem PySem.Spec PyProof.Rows
section
variable {prog:Program} {w:World} {A:Around} {E:Value->Shared->Prop} {s:Shared} {K:Frag} {x dx C f:Addr} {mA:Str->Option Value} {name:Str} {v:Value}
end
section
variable {P:Program} {w:World} {H H':Hp} {h h':Heap} {a C dx:Addr} {fs fs':List (Str×V)}
end
structure Meth (K:Frag) (C:Addr) (m:Str) (f:Addr):Prop where
 at_:PySem.W.findIn K (.ref C) m=some (some (.ref f))
 fn:PySem.W.isFn K (.ref f)=true
 kp:PySem.W.keepIn K (.ref f)=true
section
variable {X:Cx} {pins:List (Addr×Obj)} {σ:St} {H:Hp} {s:Shared} {a C dx:Addr} {fs:List (Str×V)} {f:Str} {v:V} {A:Around} {E:Value->Shared->Prop}
end
section
variable {X:Cx} {o e value:Expr} {f:Str} {pos pos' tpos:Pos} {ta tv:TE}
end
section
variable {X:Cx} {pins:List (Addr×Obj)} {σ:St} {H:Hp} {s:Shared} {A:Around} {E:Value->Shared->Prop} {Q:Value->Shared->Prop} {c:Value} {b:Bool}
end
end L2
namespace L2
open PySem PySem.Spec PyProof.Rows
structure Room (k:Nat) (A:Around):Prop where
 hd:A.handled=none
 dp:A.depth+3*k+5<recursionLimit
 un:A.units+16*k+200<cLine
theorem Room.mono (r:Room k A) (h:j<=k):Room j A:=⟨r.hd,by have:=r.dp;omega,by have:=r.un;omega⟩
theorem Room.deeper (r:Room (k+1) A) (env:Env):Room k (A.deeper env) :=
 ⟨r.hd,by have:=r.dp;show A.depth+1+3*k+5 < _;omega,by have:=r.un;show A.units+3+16*k+200 < _;omega⟩
theorem make_depth {A:Around} {C:Addr} {us:List Value} {kw:List (Str×Value)}:(A.under (.builtin "type.__call__" ⟨.ref C::us,kw⟩)).depth=A.depth+1:=by
 first|rfl|simp[Around.under,Code.weight,Code.isCreation,Code.isGuard,Code.isCaller,Code.frames,Code.isFrame,guardIds]
theorem Room.depth (r:Room k A):A.depth<recursionLimit:=by have:=r.dp;omega
noncomputable def tNil:TA:=fun _ H Q=>Q [] H
noncomputable def Kf (ta:TE) (tr:TA):TA:=fun σ H Q=>ta σ H fun x H1=>tr σ H1 fun xs H2=>Q (x::xs) H2
section
variable {X:Cx} {e:Expr} {es:List Expr} {te:TE} {t:TA} {pos:Pos}
theorem De:PA X [] tNil:=fun _ _ _ _ H Q I h=>Calls.spliced_nil ⟨[],H,I,.nil,h⟩
theorem UG (ha:PE X e te) (hr:PA X es t) (hs:starEach (e::es) X.env=(false,eval e X.env)::starEach es X.env:=by rfl):PA X (e::es) (Kf te t):=by
 intro pos pins s σ H Q I h;rw[hs];show wpAny _ _ (spliced ((false,eval e X.env)::backTo pos (starEach es X.env))) _ _ s;refine Calls.spliced_cons (thn (ha pins s σ H _ I h) fun u s1 hq2=>?_);obtain⟨x,H1,I1,r1,q1⟩:=hq2;exact thn (hr pos pins s1 σ H1 _ I1 q1) (by rintro us s2 ⟨xs,H2,I2,r2,q2⟩;exact⟨x::xs,H2,I2,.cons r1 r2,q2⟩)
noncomputable def tTup (t:TA):TE:=fun σ H Q=>t σ H fun xs H1=>xs.length<=sizeLine/\∀ p,H1 p=none->Q (.ref p) (upd H1 p (.tup xs))
noncomputable def tLst (t:TA):TE:=fun σ H Q=>t σ H fun xs H1=>xs.length<=sizeLine/\∀ p,H1 p=none->Q (.ref p) (upd H1 p (.lst xs))
theorem HC {x1} (h:PA X es t):PE X (.Tuple es x1 pos) (tTup t):=by
 intro pins s σ H Q I hq;refine wpAny_Tuple_spliced (thn (h pos pins s σ H _ I hq) fun us s1 ⟨xs,H1,I1,r,z,q⟩=>⟨by rw[<- r.length];exact z,?_⟩);have hf:H1 s1.heap.objs.size=none:=I1.hok.fresh %[|3];refine⟨.ref s1.heap.objs.size,upd H1 s1.heap.objs.size (.tup xs),I1.laid (t':=s1.toks) (fun b u e=>Heap.get?_push_of_some _ e) %[|3] ?_,rfl,q _ hf⟩;exact⟨z,us,r,⟨_,Heap.get?_push_size _ rfl,rfl,_,rfl⟩⟩
theorem HG (h:PA X es t):PE X (.List es pos) (tLst t):=by
 intro pins s σ H Q I hq;refine wpAny_List_spliced (thn (h pos pins s σ H _ I hq) fun us s1 ⟨xs,H1,I1,r,z,q⟩=>⟨by rw[<- r.length];exact z,?_⟩);have hf:H1 s1.heap.objs.size=none:=I1.hok.fresh %[|3];refine⟨.ref s1.heap.objs.size,upd H1 s1.heap.objs.size (.lst xs),I1.laid (t':=s1.toks) (fun b u e=>Heap.get?_push_of_some _ e) %[|3] ?_,rfl,q _ hf⟩;exact⟨z,us,0,r,Heap.get?_push_size _ rfl⟩
end
abbrev Sp:=List V->Hp->VK->XK->Prop
abbrev CXT:=List Env->Hp->Shared->XK->Value->Shared->Prop
structure Env0 (P:Program) (w:World) (K:Frag) (mg:Str->Option Value) (base:Heap) (A:Around) (outer:List Env) (s:Shared) (H:Hp):Prop where
 frames:A.frames=some outer
 mod:Mod K mg base
 bs:∀ b o,base.get? b=some o->s.heap.get? b=some o/\H b=none
 bsz:base.objs.size<=s.heap.objs.size
 funs:s.heap.FunFrames base outer
 frf:∀ b∈frs outer,H b=none
 hok:HOk P w H s.heap
 bare:AllBare s.gens
noncomputable def CE (outer:List Env) (P:Program) (w:World) (H:Hp) (s:Shared) (Q:VK) (u:Value) (s':Shared):Prop :=
 ∃ v H',s'.os=s.os/\AllBare s'.gens/\Un (frs outer) [] H H' s.heap s'.heap/\HOk P w H' s'.heap/\RelV v u/\Q v H'
noncomputable def CR (CX:CXT) (outer:List Env) (P:Program) (w:World) (H:Hp) (s:Shared) (Q:VK) (E:XK) (r:Result) (s':Shared):Prop :=
 match r with
 | .ok (.ret u)=>CE outer P w H s Q u s'
 | .ok _=>False
 | .error e=>CX outer H s E e s'
structure FnOk (P:Program) (w:World) (K:Frag) (mg:Str->Option Value) (base:Heap) (CX:CXT) (k:Nat) (f:Addr) (fd:FuncData) (ps:List Str) (sp:Sp):Prop where
 len:∀ vs H Q E,sp vs H Q E->vs.length=ps.length
 run:∀ (A:Around) (outer:List Env) (s:Shared) (H:Hp) (args:Args) (us:List Value) (vs:List V) (Q:VK) (E:XK),Room k A->Env0 P w K mg base A outer s H->BindsTo s fd args (ps.zip us)->Vals vs us->sp vs H Q E ->
  codeAny (model P w) A (.call (.ref f) args) (CR CX outer P w H s Q E) s
theorem FnOk.mono {P:Program} {w:World} {K:Frag} {mg:Str->Option Value} {base:Heap} {CX:CXT} {j k:Nat} {f:Addr} {fd:FuncData} {ps:List Str} {sp:Sp} (F:FnOk P w K mg base CX j f fd ps sp) (h:j<=k) :
  FnOk P w K mg base CX k f fd ps sp:=⟨F.len,fun A outer s H args us vs Q E hr=>F.run A outer s H args us vs Q E (hr.mono h)⟩
theorem Env0.make {P:Program} {w:World} {K:Frag} {mg:Str->Option Value} {base:Heap} {A:Around} {outer:List Env} {s:Shared} {H:Hp} (e:Env0 P w K mg base A outer s H) (C:Addr) (us:List Value) (kw:List (Str×Value)) :
  Env0 P w K mg base (A.under (.builtin "type.__call__" ⟨.ref C::us,kw⟩)) outer s H:=⟨by first|exact e.frames|(simpa[Around.under,Code.envs,Code.isFrame,pushEnvs] using e.frames),e.mod,e.bs,e.bsz,e.funs,e.frf,e.hok,e.bare⟩
section
variable {X:Cx} {pins:List (Addr×Obj)} {σ:St} {H:Hp} {s s':Shared}
theorem Inv.env0 (I:Inv X pins σ H s):Env0 X.prog X.w X.K X.mg X.base X.A X.stack s H :=
 ⟨I.ok.frames,I.ok.mod,I.bs,Nat.le_trans I.ok.bsz I.sz,I.stack,I.stkFree,I.hok,I.bare⟩
theorem Inv.after (I:Inv X pins σ H s) (h:CE X.stack X.prog X.w H s Q u s'):EP X pins σ Q u s':=by
 obtain⟨v,H',os,bare,un,hok,r,q⟩:=h;obtain⟨hh,g,d,t,os'⟩:=s';obtain rfl:os'=s.os:=os;exact⟨v,H',I.call (h':=hh) (g':=g) (d':=d) (t':=t) (ch:=[]) un hok bare (fun b z=>absurd z (by simp)),r,q⟩
end
noncomputable def Binds (K:Frag) (fd:FuncData) (ps:List Str) (ds:List Value):Prop :=
 ∀ (s:Shared) (us:List Value),K.In s.heap->(us++ds).length=ps.length->BindsTo s fd ⟨us,[]⟩ (ps.zip (us++ds))
theorem Binds.all {K:Frag} {fd:FuncData} {ps:List Str} (h:∀ us:List Value,us.length=ps.length->bindArgs fd ⟨us,[]⟩=pure (ps.zip us)):Binds K fd ps []:=fun s us _ hl=>by
 rw[List.append_nil] at hl ⊢;exact .of_eq (h us hl)
section
variable {X:Cx} {CX:CXT} {k:Nat} {f C:Addr} {fd:FuncData} {ps:List Str} {sp:Sp} {dvs:List V} {ds:List Value} {E:XK} {x m:Str} {p pos apos:Pos} {e o:Expr} {es:List Expr} {ta:TE} {t:TA}
structure Mk (K:Frag) (C f:Addr):Prop where
 makes:PySem.W.makesIn K C=true
 init:PySem.W.findIn K (.ref C) "__init__"=some (some (.ref f))
 fn:PySem.W.isFn K (.ref f)=true
 kp:PySem.W.keepIn K (.ref C)=true
end
section
variable {X:Cx} {CX:CXT} {k:Nat} {f C:Addr} {fd:FuncData} {ps ks:List Str} {sp:Sp} {E:XK} {x m:Str} {p pos apos kpos:Pos} {e o:Expr} {es:List Expr} {kws:List Keyword} {te ta:TE} {t tk:TA} {nm:Option Str}
variable {g:List Value->List Value->List Value} {gV:List V->List V->List V}
end
structure FnScope (N P:List Str) (sc:Scope):Prop where
 kind:sc.kind=.function
 co:sc.isCoroutine=false
 gen:sc.isGenerator=false
 nd:N.Nodup
 pre:N.take P.length=P
 par:∀ x∈P,sc.names.lookup x=some .local\/sc.names.lookup x=some .cell
 nofree:∀ y∈sc.names,y.2≠.free
theorem Up {kindOf:Str->Option NameKind} {x:Str}:∀ {binds:List (Str×Value)} {m:Str->Option Value},(∀ v,(x,v) ∉ binds)->bindL kindOf binds m x=m x
 | [],_,_=>rfl
 | (n,v)::r,m,h=>by
  unfold bindL;rw[Up fun w hw=>h w (List.mem_cons_of_mem _ hw)];split
  ·have:x≠n:=by rintro rfl;exact h v List.mem_cons_self
   simp[this]
  ·rfl
theorem Ur {kindOf:Str->Option NameKind} {x:Str}:∀ {binds:List (Str×Value)} {m:Str->Option Value},(∀ v,(x,v) ∉ binds)->bindC kindOf binds m x=m x
 | [],_,_=>rfl
 | (n,v)::r,m,h=>by
  unfold bindC;rw[Ur fun w hw=>h w (List.mem_cons_of_mem _ hw)];split
  ·rfl
  ·have:x≠n:=by rintro rfl;exact h v List.mem_cons_self
   simp[this]
theorem Uq {kindOf:Str->Option NameKind} {x:Str} {v:Value}:∀ {P:List Str} {vs:List Value} {i:Nat} {m:Str->Option Value},P.Nodup->P[i]?=some x->vs[i]?=some v->kindOf x=some .local ->
  bindL kindOf (P.zip vs) m x=some v
 | [],_,_,_,_,h,_,_=>by simp at h
 | _::_,[],_,_,_,_,h,_=>by simp at h
 | p::P,w::vs,0,m,nd,h1,h2,hk=>by
  simp at h1 h2;subst h1;subst h2;show bindL kindOf ((p,w)::P.zip vs) m p=_;unfold bindL;rw[Up fun v hv=>(List.nodup_cons.mp nd).1 (List.of_mem_zip hv).1,if_pos hk];simp
 | p::P,w::vs,i+1,m,nd,h1,h2,hk=>by
  show bindL kindOf ((p,w)::P.zip vs) m x=_;unfold bindL;exact Uq (i:=i) (List.nodup_cons.mp nd).2 (by simpa using h1) (by simpa using h2) hk
theorem Us {kindOf:Str->Option NameKind} {x:Str} {v:Value}:∀ {P:List Str} {vs:List Value} {i:Nat} {m:Str->Option Value},P.Nodup->P[i]?=some x->vs[i]?=some v->kindOf x≠some .local ->
  bindC kindOf (P.zip vs) m x=some v
 | [],_,_,_,_,h,_,_=>by simp at h
 | _::_,[],_,_,_,_,h,_=>by simp at h
 | p::P,w::vs,0,m,nd,h1,h2,hk=>by
  simp at h1 h2;subst h1;subst h2;show bindC kindOf ((p,w)::P.zip vs) m p=_;unfold bindC;rw[Ur fun v hv=>(List.nodup_cons.mp nd).1 (List.of_mem_zip hv).1,if_neg hk];simp
 | p::P,w::vs,i+1,m,nd,h1,h2,hk=>by
  show bindC kindOf ((p,w)::P.zip vs) m x=_;unfold bindC;exact Us (i:=i) (List.nodup_cons.mp nd).2 (by simpa using h1) (by simpa using h2) hk
noncomputable def start (N:List Str) (vs:List V):St:=vs.map some++List.replicate (N.length-vs.length) none
noncomputable def cxOf (CX:CXT) (P:Program) (w:World) (K:Frag) (mg:Str->Option Value) (base:Heap) (N:List Str) (qual:Str) (scope:Scope) (f:Addr) (cd:Value) (A:Around) (outer:List Env) (s:Shared) (H:Hp) (E:XK):Cx where
 prog:=P
 w:=w
 K:=K
 mg:=mg
 base:=base
 A:=A.deeper (envOfC qual scope s.heap.objs.size f cd)
 N:=N
 s₀:=s
 H₀:=H
 env:=envOfC qual scope s.heap.objs.size f cd
 outer:=outer
 stack:=envOfC qual scope s.heap.objs.size f cd::outer
 ex:=[]
 calm:=true
 fn:=fun _=>true
 pn:=[]
 xe:=fun e s'=>wpAny (model P w) (A.deeper (envOfC qual scope s.heap.objs.size f cd)) (leaving (envOfC qual scope s.heap.objs.size f cd) e) (fun _ s''=>CX outer H s E e s'') (fun e' s''=>CX outer H s E e' s'') s'
theorem JS {sc:Scope} {n:Nat} {x:Str} (h:sc.names.lookup x=some .cell):∃ c,(cellsFrom n sc.names []).lookup x=some c:=by
 have q:=PySem.W.cellsFrom_some sc.names n [] (.inl h);exact Option.isSome_iff_exists.mp q
theorem Ub {CX:CXT} {P:Program} {w:World} {K:Frag} {mg:Str->Option Value} {base:Heap} {N ps:List Str} {qual:Str} {scope:Scope} {f:Addr} {cd:Value} {A:Around} {outer:List Env} {s s1:Shared} {H:Hp} {E:XK} {us:List Value} {vs:List V}
  (S:FnScope N ps scope) (hd:A.handled=none) (e0:Env0 P w K mg base A outer s H) (hl:vs.length=ps.length) (r:Vals vs us)
  (x:InCallC s s.heap.objs.size (bindL (envOfC qual scope s.heap.objs.size f cd).kindOf (ps.zip us) fun _=>none) (cellsFrom (s.heap.objs.size+1) scope.names []) (bindC (envOfC qual scope s.heap.objs.size f cd).kindOf (ps.zip us) fun _=>none) s1) :
  Inv (cxOf CX P w K mg base N qual scope f cd A outer s H E) [] (start N vs) H s1:=by
 have hpl:ps.length<=N.length:=by have:=congrArg List.length S.pre;rw[List.length_take] at this;omega
 obtain⟨h1,tk,rfl,hk⟩:=x.done;have noA:∀ b:Addr,b ∉ (cxOf CX P w K mg base N qual scope f cd A outer s H E).ex:=fun b z=>absurd (show b∈([]:List Addr) from z) (by simp);refine⟨⟨e0.mod,S.kind,rfl,rfl,Nat.le_refl _,fun y z c h1 h2=>?_,fun y hy=>?_,fun y c _ h=>?_,fun _=>hd,Around.frames_deeper e0.frames,.inr ⟨rfl,rfl⟩,fun b z=>absurd z (noA b),e0.bs,e0.bsz,fun b _ _=>noA b,fun b z=>absurd z (noA b),e0.funs,e0.frf⟩,
  rfl,e0.bare,Un.kept hk,⟨_,x.toInCall.ns,fun i y v h1 h2 h3=>?_⟩,fun y c h=>⟨_,x.cell y c h⟩,e0.hok.fresh %[|3],fun y c h=>?_,fun p hp=>absurd (show p∈([]:List (Addr×Obj)) from hp) (by simp),e0.hok.kept hk,?_⟩
 ·exact name_of_addr x.apart (PySem.mem_of_lookup h1) (PySem.mem_of_lookup h2)
 ·have hy:scope.names.lookup y=some .cell\/scope.names.lookup y=some .free:=hy
  rcases hy with hy|hy
  ·exact JS hy
  ·exact absurd rfl (S.nofree _ (PySem.mem_of_lookup hy))
 ·exact Nat.le_of_lt (x.above y c (PySem.mem_of_lookup h))
 ·have hi:i<vs.length:=by
   unfold start at h2;by_cases hi:i<vs.length
   ·exact hi
   ·rw[List.getElem?_append_right (by simpa using hi)] at h2
    rw[List.getElem?_replicate] at h2;split at h2<;>cases h2
  have ha:vs[i]?=some v:=by
   unfold start at h2;rw[List.getElem?_append_left (by simpa using hi),List.getElem?_map] at h2;cases e:vs[i]? with
   | none=>rw [e] at h2;cases h2
   | some a=>rw [e] at h2;cases h2;rfl
  obtain⟨u,hu,rv⟩:=r.get ha;have hp:ps[i]?=some y:=by
   rw[<- S.pre,List.getElem?_take_of_lt %[|5]];exact h1
  have ndP:ps.Nodup:=by rw[<- S.pre];exact S.nd.sublist (List.take_sublist _ _)
  refine⟨u,rv,?_⟩;rcases S.par y (List.mem_of_getElem? hp) with k|k
  ·exact .inl ⟨k,Uq ndP hp hu k⟩
  ·obtain⟨c,e⟩:=JS (n:=s.heap.objs.size+1) k
   refine .inr ⟨.inl k,c,e,?_⟩;have q:=x.cell y c e;rw[Us ndP hp hu (by show scope.names.lookup y≠_;rw[k];decide)] at q;exact q
 ·exact e0.hok.fresh (Nat.le_of_lt (x.above y c (PySem.mem_of_lookup h)))
 ·unfold start
  show _=N.length;rw[List.length_append,List.length_map,List.length_replicate];omega
theorem KH {CX:CXT} {P:Program} {w:World} {K:Frag} {mg:Str->Option Value} {base:Heap} {k:Nat} {f:Addr} {name qual:Str} {params:Arguments} {body:List Stmt} {scope:Scope} {dV kV doc pm cdv ct oc:Value} {an od:Option Addr}
  {osl:Array (Option Value)} {N ps:List Str} {sp:Sp} (lk:K.lookup f=some ⟨oc,od,.func (PySem.W.fnOf name qual params body scope dV kV doc pm an cdv ct),osl⟩) (hcd:PySem.W.codeIn K cdv qual=true) (S:FnScope N ps scope)
  (len:∀ vs H Q E,sp vs H Q E->vs.length=ps.length)
  (hbody:∀ (A:Around) (outer:List Env) (s:Shared) (H:Hp) (vs:List V) (Q:VK) (E:XK),Room k (A.deeper (envOfC qual scope s.heap.objs.size f cdv))->sp vs H Q E ->
   ∃ t,PSs (cxOf CX P w K mg base N qual scope f cdv A outer s H E) body t/\t {nx:=fun _ H'=>Q .non H',rt:=Q} (start N vs) H) :
  FnOk P w K mg base CX (k+1) f (PySem.W.fnOf name qual params body scope dV kV doc pm an cdv ct) ps sp:=by
 refine⟨len,fun A outer s H args us vs Q E hr e0 hb r hsp=>?_⟩;have hl:=len _ _ _ _ hsp;have KX:K.In s.heap:=e0.mod.kin.keeps fun b o e=>(e0.bs b o e).1;have lim:s.heap.NoLimit:=e0.mod.nolimit.keeps fun b o e=>(e0.bs b o e).1;have hkind:∀ y∈ps.zip us,scope.names.lookup y.1=some .local\/(scope.names.lookup y.1=some .cell/\((cellsFrom (s.heap.objs.size+1) scope.names []).lookup y.1).isSome=true):=fun ⟨n,v⟩ hy=>by
  rcases S.par n (List.of_mem_zip hy).1 with q|q
  ·exact .inl q
  ·exact .inr ⟨q,PySem.W.cellsFrom_some _ _ _ (.inl q)⟩
 refine codeAny_call_function hr.depth (KX _ _ lk) rfl S.co S.gen rfl (PySem.W.codeRec_of KX hcd) (hb _ _ _ _ ?_);refine wpAny_newFunctionEnv_cells S.kind hkind fun env he s1 x=>?_;subst he;refine⟨lim.keeps x.toInCall.keep,codeAny_func ?_⟩;obtain⟨t,ht,hq⟩:=hbody A outer s H vs Q E (hr.deeper _) hsp;have I:Inv (cxOf CX P w K mg base N qual scope f cdv A outer s H E) [] (start N vs) H s1:=Ub S hr.hd e0 hl r x;refine wpAny_mono (ht [] s1 (start N vs) H _ I hq) (fun fl s' hs=>?_) fun e s' hs=>hs;have fin:∀ {σ':St} {H':Hp} {v:V} {u:Value},Inv (cxOf CX P w K mg base N qual scope f cdv A outer s H E) [] σ' H' s'->RelV v u->Q v H'->CE outer P w H s Q u s' :=
  fun {σ' H' v u} J rv q=>⟨v,H',J.os,J.bare,J.base,J.hok,rv,q⟩
 cases fl with
 | ret u =>
  obtain⟨v,σ',H',J,rv,q⟩:=hs;exact fin J rv q
 | next =>
  obtain⟨σ',H',J,q⟩:=hs;exact fin (v:=V.non) (u:=Value.none) J rfl q
 | brk =>
  obtain⟨_,_,_,q⟩:=hs;exact False.elim q
 | cont =>
  obtain⟨_,_,_,q⟩:=hs;exact False.elim q
end L2
namespace L2
open PySem PySem.Spec PyProof.Rows
section
variable {X:Cx} {x:Str} {p pos:Pos} {e:Expr} {es:List Expr} {t:TA} {id T:String} {r:List V->Hp->VK->Prop}
noncomputable def tCB (r:List V->Hp->VK->Prop) (t:TA):TE:=fun σ H Q=>t σ H fun vs H1=>r vs H1 Q
theorem Zf (hc:CallR X (.builtin id) r) (hg:Gl X x) (hm:X.mg x=none) (hv:bootBuiltins x=some (.builtin id)) (ha:PA X (e::es) t) (hn:x≠"__name__":=by decide) (hdb:(x==("__debug__":Str))=false:=by decide)
  (he:starEach (e::es) X.env=(false,eval e X.env)::starEach es X.env:=by rfl) (hpl:(backTo pos (starEach es X.env)).any (·.1)=false:=by rfl):PE X (.Call (.Name x p) (e::es) [] pos) (tCB r t):=by
 intro pins s σ H Q I h;refine wpAny_Call_Name_kw (Xt I hg hm hv ?_ hn hdb);exact PyProof.Rows.callWith_builtin1 (thn (ha pos pins s σ H _ I h) (by rintro us s1 ⟨vs,H1,I1,r1,q1⟩;exact hc pins s1 σ H1 vs us Q I1 r1 q1)) he hpl
theorem U3 (hc:CallR X (.type T) r) (hg:Gl X x) (hm:X.mg x=none) (hv:bootBuiltins x=some (.type T)) (ha:PA X (e::es) t) (hn:x≠"__name__":=by decide) (hdb:(x==("__debug__":Str))=false:=by decide)
  (he:starEach (e::es) X.env=(false,eval e X.env)::starEach es X.env:=by rfl) (hpl:(backTo pos (starEach es X.env)).any (·.1)=false:=by rfl):PE X (.Call (.Name x p) (e::es) [] pos) (tCB r t):=by
 intro pins s σ H Q I h;refine wpAny_Call_Name_kw (Xt I hg hm hv ?_ hn hdb);exact PyProof.Rows.callWith_type1 (thn (ha pos pins s σ H _ I h) (by rintro us s1 ⟨vs,H1,I1,r1,q1⟩;exact hc pins s1 σ H1 vs us Q I1 r1 q1)) he hpl
end
end L2
namespace HT
open PySem PyProof.Rows
section
open PySem.SeqAt
open PySem.AutoSeq1 (wpAny_loadPart')
open PySem.MeetsSeq PySem.MeetsSeq2 PySem.MeetsSeq3
end
section
variable {prog:Program} {w:World} {A:Around} {E:Value->Shared->Prop} {s:Shared}
theorem cat_tup (ht:IsTup s.heap t vs.toArray) (hb:IsTup s.heap b ws.toArray) (hv:vs≠[])
  (h1:ws=[]->Q (.ref t) s) (h2:ws≠[]->Q (.ref s.heap.objs.size) {s with heap:=s.heap.push {cls:=.type "tuple",data:=.seq (vs++ws).toArray}})
  (hsz:vs.length+ws.length<=sizeLine):wpAny (model prog w) A (binaryOp .Add (.ref t) (.ref b)) Q E s:=by
 obtain⟨⟨cls,dd,data,sl⟩,ho,hc,n,hd⟩:=id ht;obtain⟨⟨cls2,dd2,data2,sl2⟩,ho2,hc2,n2,hd2⟩:=id hb;simp only at hc hd hc2 hd2;subst hc hd hc2 hd2;have e:vs.toArray++ws.toArray=(vs++ws).toArray:=by simp
 by_cases hw:ws=[]
 ·exact concat_meets ⟨_,ho,rfl⟩ ⟨_,ho2,rfl⟩ noFill_tuple_add seq_tuple_add PySem.F.slot_tuple_add PySem.F.entry_tuple_add (PySem.F.args_tuple_add_2 _ _)
   (tuple_addW1 t b vs.toArray ws.toArray n n2 dd dd2 sl sl2 (by simpa using hv) (by simp[hw])) ⟨ho,ho2,h1 hw⟩
 ·refine concat_meets ⟨_,ho,rfl⟩ ⟨_,ho2,rfl⟩ noFill_tuple_add seq_tuple_add PySem.F.slot_tuple_add PySem.F.entry_tuple_add (PySem.F.args_tuple_add_2 _ _)
   (tuple_addW2 t b vs.toArray ws.toArray n n2 dd dd2 sl sl2 (by simpa using hv) (by simpa using hw) (by rw[List.size_toArray,List.size_toArray];exact hsz)) ⟨ho,ho2,?_⟩
  rw[e];exact h2 hw
noncomputable def sIx (n d:Nat):Option Int->Nat
 | none=>d
 | some v=>if v<0 then (v+(n:Int)).toNat else min v.toNat n
theorem sIx_none (n d:Nat):sIx n d none=d:=rfl
theorem sIx_nat (n d k:Nat):sIx n d (some (k:Int))=min k n:=by
 show (if (k:Int)<0 then ((k:Int)+(n:Int)).toNat else min (k:Int).toNat n)=min k n;rw[if_neg %[|5],Int.toNat_natCast]
theorem Hi (n d:Nat) (hd:d<=n) (o:Option Int):sIx n d o<=n:=by
 cases o with
 | none=>exact hd
 | some v =>
  show (if v<0 then (v+(n:Int)).toNat else min v.toNat n)<=n;by_cases hv:v<0
  ·rw[if_pos hv];omega
  ·rw[if_neg hv];exact Nat.min_le_right _ _
theorem Br (v:Int) (n d:Nat):(if v<0 then max (v+(n:Int)) 0 else min v (n:Int))=((sIx n d (some v):Nat):Int):=by
 show (if v<0 then max (v+(n:Int)) 0 else min v (n:Int))=(((if v<0 then (v+(n:Int)).toNat else min v.toNat n):Nat):Int);by_cases hv:v<0
 ·simp only[if_pos hv];omega
 ·simp only[if_neg hv];omega
theorem AH (lo hi:Option Int) (n:Nat):Builtin.Slice.sliceAdjust lo hi 1 (n:Int)=(((sIx n 0 lo:Nat):Int),((sIx n n hi:Nat):Int)):=by
 have h1:¬ ((1:Int)<0):=by omega
 unfold Builtin.Slice.sliceAdjust;simp only[h1,if_false];refine Prod.ext ?_ ?_
 ·cases lo with
  | none=>rfl
  | some v=>exact Br v n 0
 ·cases hi with
  | none=>rfl
  | some v=>exact Br v n n
theorem Ae (i j:Nat):Builtin.Slice.slicePlaces (i:Int) (j:Int) 1=j-i:=by
 unfold Builtin.Slice.slicePlaces;have h1:(1:Int) > 0:=by omega
 simp only[h1,if_true,Int.ediv_one];split<;>omega
theorem Vh (p:IsPart v o) (h:Q o s):wpAny (model prog w) A (Builtin.Slice.slicePartIndex v) Q E s:=by
 cases p with
 | none=>exact slicePart_none h
 | int i t=>exact slicePart_int h
theorem ZS {sl:Addr} {vl vu:Value} {lo hi:Option Int} {n:Nat} {Q:Int×Int×Nat->Shared->Prop} (hs:s.heap.IsSliceOf sl vl vu .none) (pl:IsPart vl lo) (pu:IsPart vu hi)
  (h:Q (((sIx n 0 lo:Nat):Int),1,sIx n n hi-sIx n 0 lo) s):wpAny (model prog w) A (Builtin.Slice.sliceApplied (.ref sl) (pure (n:Int))) Q E s:=by
 obtain⟨os,hos,hcs,hds⟩:=id hs;unfold Builtin.Slice.sliceApplied Builtin.Slice.sliceFields;refine wpAny_bind (wpAny_bind (wpAny_field hos hds (x:=vl) rfl (wpAny_bind (wpAny_field hos hds (x:=vu) rfl (wpAny_bind (wpAny_field hos hds (x:=.none) rfl (wpAny_pure ?_)))))));refine wpAny_bind (slicePart_none ?_);show wpAny _ _ (if ((1:Int)==0)=true then _ else _) _ _ s;rw[if_neg %[|4]];refine wpAny_bind (Vh pl (wpAny_bind (Vh pu (wpAny_bind (wpAny_pure ?_)))));show wpAny _ _ (match Builtin.Slice.sliceAdjust lo hi 1 (n:Int) with|(lo,hi)=>pure (lo,(1:Int),Builtin.Slice.slicePlaces lo hi 1)) _ _ s;rw[AH lo hi n];show wpAny _ _ (pure (((sIx n 0 lo:Nat):Int),(1:Int),Builtin.Slice.slicePlaces ((sIx n 0 lo:Nat):Int) ((sIx n n hi:Nat):Int) 1)) _ _ s;rw[Ae];exact wpAny_pure h
theorem D8 (xs:Array Value) (i k:Nat):((List.range k).filterMap fun (m:Nat)=>xs[((i:Int)+(m:Int)*1).toNat]?).toArray=((xs.toList.drop i).take k).toArray:=by
 have e:(fun (m:Nat)=>xs[((i:Int)+(m:Int)*1).toNat]?)=fun m=>xs[i+m]?:=by
  funext m
  have:((i:Int)+(m:Int)*1).toNat=i+m:=by omega
  rw[this]
 rw[e];have:=pick_run xs i k;rw[List.filterMap_map] at this;have e2:((fun x=>xs[x]?) ∘ fun x=>i+x)=fun m=>xs[i+m]?:=rfl;rw[e2] at this;rw[this]
theorem getItem_tuple_cut {t sl:Addr} {items:Array Value} {vl vu:Value} {lo hi:Option Int} {Q:Value->Shared->Prop} (ht:IsTup s.heap t items) (hs:s.heap.IsSliceOf sl vl vu .none) (pl:IsPart vl lo) (pu:IsPart vu hi)
  (hw:¬ (sIx items.size 0 lo=0/\sIx items.size items.size hi=items.size))
  (h:Q (.ref s.heap.objs.size) {s with heap:=s.heap.push {cls:=.type "tuple",data:=.seq ((items.toList.drop (sIx items.size 0 lo)).take (sIx items.size items.size hi-sIx items.size 0 lo)).toArray}})
  (hsz:items.size<=sizeLine):wpAny (model prog w) A (getItem (.ref t) (.ref sl)) Q E s:=by
 have htake:sizeOk (.seq ((items.toList.drop (sIx items.size 0 lo)).take (sIx items.size items.size hi-sIx items.size 0 lo)).toArray):=by
  show ((items.toList.drop (sIx items.size 0 lo)).take (sIx items.size items.size hi-sIx items.size 0 lo)).toArray.size<=sizeLine;rw[List.size_toArray,List.length_take,List.length_drop,Array.length_toList];omega
 have hj:sIx items.size items.size hi<=items.size:=Hi _ _ %[|3] hi;obtain⟨os,hos,hcs,hds⟩:=id hs;have hTs:s.TypeIs (.ref sl) "slice":=⟨os,hos,hcs⟩;unfold getItem
 try with_reducible refine wpAny_holding ?_
 first|refine wpAny_bind (wpAny_pure ?_)|skip
 refine wpAny_bind (wpAny_sequenceKey ht.typeIs %[|4] ?_);refine wpAny_bind (wpAny_callSpecial?_slot (name:=Str.ofString "__getitem__") ht.typeIs PyProof.Rows.slot_tuple_getitem
  (wpAny_call_entry PyProof.Rows.slot_tuple_getitem ht.typeIs entry_tuple_getitem ?_ (args_tuple_getitem _ _)))
 show wpAny _ _ (Builtin.Tuple.tupleItemsOf (.ref t) >>= _) _ _ s;refine wpAny_bind (tupleItemsOf_ ht ?_);refine wpAny_bind (wpAny_typeOf hTs ?_);rw[if_pos %[|4]];refine wpAny_bind (ZS hs pl pu ?_);have hno:¬ ((((sIx items.size 0 lo:Nat):Int)==0&&(1:Int)==1&&(sIx items.size items.size hi-sIx items.size 0 lo)==items.size)=true):=by
  intro q;rw[Bool.and_eq_true,Bool.and_eq_true] at q;have q1:((sIx items.size 0 lo:Nat):Int)=0:=eq_of_beq q.1.1;have q2:sIx items.size items.size hi-sIx items.size 0 lo=items.size:=eq_of_beq q.2;exact hw ⟨by omega,by omega⟩
 show wpAny _ _ (if (((sIx items.size 0 lo:Nat):Int)==0&&(1:Int)==1&&(sIx items.size items.size hi-sIx items.size 0 lo)==items.size)=true then _ else _) _ _ s;rw[if_neg hno,D8]
 first
  | exact wpAny_bind (m:=Builtin.Tuple.tupleExact _) (wpAny_newObj_type (wpAny_pure ⟨_,rfl,wpAny_pure h⟩) htake)
  | exact wpAny_bind (m:=Builtin.Tuple.tupleExact _) (wpAny_newObj_type (wpAny_bind (wpAny_pure (wpAny_pure ⟨_,rfl,wpAny_pure h⟩))) htake)
  | exact wpAny_bind (wpAny_bind (m:=Builtin.Tuple.tupleExact _) (wpAny_newObj_type (wpAny_pure (wpAny_pure ⟨_,rfl,wpAny_pure h⟩)) htake))
  | exact wpAny_bind (wpAny_bind (m:=Builtin.Tuple.tupleExact _) (wpAny_newObj_type (wpAny_pure ⟨_,rfl,wpAny_pure h⟩) htake))
end
end HT
namespace L2
open PySem PySem.Spec PyProof.Rows
abbrev TO:=St->Hp->(Option Int->Hp->Prop)->Prop
noncomputable def PO (X:Cx) (e:Option Expr) (t:TO):Prop :=
 ∀ (pins:List (Addr×Obj)) (s:Shared) (σ:St) (H:Hp) (Q:Option Int->Hp->Prop),Inv X pins σ H s->t σ H Q ->
  wpAny (model X.prog X.w) X.A (evalPart e X.env) (fun u s'=>∃ o H',Inv X pins σ H' s'/\IsPart u o/\Q o H') X.xe s
noncomputable def EX:TO:=fun _ H Q=>Q none H
noncomputable def Kb (t:TE):TO:=fun σ H Q=>t σ H fun x H1=>∃ i,x=.int i/\Q (some i) H1
section
variable {X:Cx} {e:Expr} {te:TE} {lo hi:Option Expr} {tl th:TO} {pos p2:Pos}
theorem Fp:PO X none EX:=by
 intro pins s σ H Q I h;rw[evalPart_none];exact wpAny_pure ⟨none,H,I,.none,h⟩
theorem Fo (h:PE X e te):PO X (some e) (Kb te):=by
 intro pins s σ H Q I hw;rw[evalPart_some];refine thn (h pins s σ H _ I hw) fun u s1 hq2=>?_;obtain⟨x,H1,I1,r1,q1⟩:=hq2;obtain⟨i,rfl,q⟩:=q1;obtain⟨t,rfl⟩:=r1;exact⟨some i,H1,I1,.int i t,q⟩
noncomputable def SlR (X:Cx) (r:V->Option Int->Option Int->Hp->VK->Prop):Prop :=
 ∀ (pins:List (Addr×Obj)) (s:Shared) (σ:St) (H:Hp) (x:V) (v vl vu:Value) (lo hi:Option Int) (sl:Addr) (Q:VK),Inv X pins σ H s->RelV x v->s.heap.IsSliceOf sl vl vu .none->IsPart vl lo->IsPart vu hi->r x lo hi H Q ->
  ∃ T id,typeLookup (.type T) "__getitem__"=pure (some (.builtin id))/\s.TypeIs v T/\wpAny (model X.prog X.w) X.A (getItem v (.ref sl)) (EP X pins σ Q) X.xe s
noncomputable def tSl (r:V->Option Int->Option Int->Hp->VK->Prop) (te:TE) (tl th:TO):TE:=fun σ H Q=>te σ H fun x H1=>tl σ H1 fun l H2=>th σ H2 fun u H3=>r x l u H3 Q
theorem Db (hr:SlR X r) (he:PE X e te) (hl:PO X lo tl) (hu:PO X hi th):PE X (.Subscript e (.Slice lo hi none p2) pos) (tSl r te tl th):=by
 intro pins s σ H Q I h;refine Subscript_ (thn (he pins s σ H _ I h) fun v s1 hq2=>?_);obtain⟨x,H1,I1,r1,q1⟩:=hq2;refine wpAny_Slice (thn (hl pins s1 σ H1 _ I1 q1) fun vl s2 ⟨l,H2,I2,pl,q2⟩=>thn (hu pins s2 σ H2 _ I2 q2) fun vu s3 hq2=>?_);obtain⟨u,H3,I3,pu,q3⟩:=hq2;rw[evalPart_none];refine wpAny_pure ?_;have I4:Inv X pins σ H3 {s3 with heap:=s3.heap.push {cls:=.type "slice",data:=.fields #[vl,vu,.none]}}:=I3.kept (t':=s3.toks) fun b ob q=>Heap.get?_push_of_some _ q;obtain⟨T,id,hT,ht,hg⟩:=hr pins {s3 with heap:=s3.heap.push {cls:=.type "slice",data:=.fields #[vl,vu,.none]}} σ H3 x v vl vu l u s3.heap.objs.size Q I4 r1 (Heap.IsSliceOf.new ..) pl pu q3;show wpAny (model X.prog X.w) X.A (subscriptTail e (.Slice lo hi none p2) v (.ref s3.heap.objs.size)) (EP X pins σ Q) X.xe {s3 with heap:=s3.heap.push {cls:=.type "slice",data:=.fields #[vl,vu,.none]}};exact tail_any (ops:=[.ref s3.heap.objs.size,v]) ht hT hg (by with_unfolding_all rfl)
noncomputable def cutV (xs:List V) (lo hi:Option Int):List V:=(xs.drop (HT.sIx xs.length 0 lo)).take (HT.sIx xs.length xs.length hi-HT.sIx xs.length 0 lo)
theorem WJ (xs:List V) (lo hi:Option Int):(cutV xs lo hi).length<=xs.length:=by
 unfold cutV;rw[List.length_take,List.length_drop];omega
noncomputable def rSlT (K:Frag):V->Option Int->Option Int->Hp->VK->Prop:=fun x lo hi H Q=>∃ a xs,x=.ref a/\SqT K H a xs /\
 ¬ (HT.sIx xs.length 0 lo=0/\HT.sIx xs.length xs.length hi=xs.length)/\∀ p,H p=none->Q (.ref p) (upd H p (.tup (cutV xs lo hi)))
theorem Hh:SlR X (rSlT X.K):=by
 intro pins s σ H x v vl vu lo hi sl Q I rx hs pl pu h;obtain⟨a,xs,rfl,hx,hw,q⟩:=h;cases rx;obtain⟨its,r,ht,hz⟩:=I.tuple hx;have hlen:its.toArray.size=xs.length:=by rw[List.size_toArray];exact r.length.symm
 refine⟨"tuple",_,PyProof.Rows.slot_tuple_getitem.lookup,ht.typeIs,?_⟩;refine HT.getItem_tuple_cut ht hs pl pu (by rw[hlen];exact hw) ?_ (by rw[hlen];exact hz);rw[hlen];refine⟨.ref s.heap.objs.size,_,I.laid (t':=s.toks) (o:=.tup (cutV xs lo hi)) (fun b ob q=>Heap.get?_push_of_some _ q) %[|3] ?_,rfl,q _ (I.hok.fresh %[|3])⟩;exact⟨Nat.le_trans (WJ xs lo hi) hz,_,(r.drop (HT.sIx xs.length 0 lo)).take (HT.sIx xs.length xs.length hi-HT.sIx xs.length 0 lo),IsTup.new _ _⟩
noncomputable def Kl (K:Frag):R2:=fun x y H Q=>∃ a b xs ys,x=.ref a/\y=.ref b/\SqT K H a xs/\SqT K H b ys/\xs≠[]/\xs.length+ys.length<=sizeLine /\
 (ys=[]->Q (.ref a) H)/\(ys≠[]->∀ p,H p=none->Q (.ref p) (upd H p (.tup (xs++ys))))
theorem Vals.nil_iff (r:Vals xs us):us=[] ↔ xs=[]:=by
 cases r with
 | nil=>simp
 | cons _ _=>simp
theorem Fz:OpR X (binaryOp .Add) (Kl X.K):=by
 intro pins s σ H x y v u Q I rx ry h;obtain⟨a,b,xs,ys,rfl,rfl,ha,hb,hx,hz,q1,q2⟩:=h;cases rx;cases ry;obtain⟨its,r1,p1,_⟩:=I.tuple ha;obtain⟨its2,r2,p2,_⟩:=I.tuple hb;refine HT.cat_tup p1 p2 (fun z=>hx (r1.nil_iff.mp z)) (fun z=>⟨.ref a,H,I,rfl,q1 (r2.nil_iff.mp z)⟩) (fun z=>?_) (by rw[<- r1.length,<- r2.length];exact hz);refine⟨.ref s.heap.objs.size,_,I.laid (t':=s.toks) (o:=.tup (xs++ys)) (fun b ob q=>Heap.get?_push_of_some _ q) %[|3] ?_,rfl,q2 (fun w=>z (r2.nil_iff.mpr w)) _ (I.hok.fresh %[|3])⟩;exact⟨by rw[List.length_append];exact hz,_,r1.append r2,IsTup.new _ _⟩
end
end L2
namespace L2
open PySem PySem.Spec PyProof.Rows
noncomputable def ixN (n:Nat) (i:Int):Option Nat:=if 0<=i then (if i<n then some i.toNat else none) else if -(n:Int)<=i then some (i+n).toNat else none
noncomputable def atI {α:Type} (xs:List α) (i:Int):Option α:=(ixN xs.length i).bind fun j=>xs[j]?
theorem B6 (h:ixN n i=some j):seqIndex? i n=some j/\j<n/\-(n:Int)<=i/\i<n:=by
 unfold ixN at h;by_cases h0:0<=i
 ·rw[if_pos h0] at h
  by_cases h1:i<n
  ·rw[if_pos h1] at h
   have e:i.toNat=j:=Option.some.inj h;exact⟨by rw[seqIndex_of h0 h1,e],by omega,by omega,h1⟩
  ·rw[if_neg h1] at h;cases h
 ·rw[if_neg h0] at h
  by_cases h1:-(n:Int)<=i
  ·rw[if_pos h1] at h
   have e:(i+n).toNat=j:=Option.some.inj h;exact⟨by rw[seqIndex_neg %[|5] h1,e],by omega,h1,by omega⟩
  ·rw[if_neg h1] at h;cases h
theorem J3 (h:atI xs i=some v):∃ j,seqIndex? i xs.length=some j/\xs[j]?=some v/\j<xs.length/\-(xs.length:Int)<=i/\i<xs.length:=by
 unfold atI at h;cases e:ixN xs.length i with
 | none=>rw [e] at h;cases h
 | some j =>
  rw[e] at h;obtain⟨h1,h2,h3,h4⟩:=B6 e;exact⟨j,h1,h,h2,h3,h4⟩
theorem atI_nat {α:Type} {xs:List α} {j:Nat} {v:α} (h:xs[j]?=some v):atI xs (j:Int)=some v:=by
 have hj:j<xs.length:=(List.getElem?_eq_some_iff.mp h).1;have e:ixN xs.length (j:Int)=some j:=by
  unfold ixN;rw[if_pos %[|5],if_pos %[|5]];simp
 unfold atI;rw[e];exact h
theorem atI_last (xs:List α) (v:α):atI (xs++[v]) (-1)=some v:=by
 have hl:(xs++[v]).length=xs.length+1:=by simp
 have e:ixN (xs++[v]).length (-1)=some xs.length:=by
  unfold ixN;rw[hl,if_neg %[|4],if_pos %[|5]]
  congr 1
  omega
 unfold atI;rw[e];show (xs++[v])[xs.length]?=some v;simp
noncomputable def J4 (b:Expr):Prop:=∀ o i,subscripted b false o i=operate [o,i] (getItem o i)
noncomputable def IxR (X:Cx) (r:R2):Prop :=
 ∀ (value slice:Expr) (pins:List (Addr×Obj)) (s:Shared) (σ:St) (H:Hp) (x y:V) (v u:Value) (Q:VK),Inv X pins σ H s->RelV x v->RelV y u->r x y H Q ->
  subscripted slice false v u=operate [v,u] (getItem v u)->wpAny (model X.prog X.w) X.A (subscriptTail value slice v u) (EP X pins σ Q) X.xe s
noncomputable def MtR (X:Cx) (id:String) (r:V->List V->Hp->VK->Prop):Prop :=
 ∀ (pins:List (Addr×Obj)) (s:Shared) (σ:St) (H:Hp) (x:V) (xs:List V) (v:Value) (us:List Value) (Q:VK),Inv X pins σ H s->RelV x v->Vals xs us->r x xs H Q ->
  wpAny (model X.prog X.w) X.A (call (.builtin id) (v::us)) (EP X pins σ Q) X.xe s
section
variable {X:Cx} {a b:Expr} {ta tb:TE} {pos:Pos}
theorem Ks (hr:IxR X r) (ha:PE X a ta) (hb:PE X b tb) (hs:J4 b):PE X (.Subscript a b pos) (tOp r ta tb):=by
 intro pins s σ H Q I h;exact Subscript_ (binT ha hb I h fun v u s2 x y H2 I2 rx ry q=>hr a b pins s2 σ H2 x y v u Q I2 rx ry q (hs _ _))
noncomputable def rIxL (K:Frag):R2:=fun x y H Q=>∃ p xs i v,x=.ref p/\y=.int i/\SqL K H p xs/\atI xs i=some v/\Q v H
noncomputable def rIxT (K:Frag):R2:=fun x y H Q=>∃ p xs i v,x=.ref p/\y=.int i/\SqT K H p xs/\atI xs i=some v/\Q v H
noncomputable def rIxS:R2:=fun x y H Q=>∃ z i c,x=.str z/\y=.int i/\z.length<=sizeLine/\atI z.cps.toList i=some c/\Q (.str ⟨#[c]⟩) H
theorem B5:IxR X (rIxL X.K):=by
 intro value slice pins s σ H x y v u Q I rx ry h hs;obtain⟨p,xs,i,z,rfl,rfl,hq,he,q⟩:=h;cases rx;obtain⟨t,rfl⟩:=ry;obtain⟨its,r,pl,hz⟩:=I.list hq;obtain⟨j,h1,h2,h3,h4,h5⟩:=J3 he;obtain⟨w,ew,rw'⟩:=r.get h2;have hl:=r.length;have hn:=XV;have fin:EP X pins σ Q w s:=⟨z,H,I,rw',q⟩;by_cases h0:0<=i
 ·have hj:i.toNat=j:=by
   rw[seqIndex_of h0 h5] at h1;exact Option.some.inj h1
  exact item_listR pl.isList h0 %[|5] (by rw[hj];simpa using ew) fin hs
 ·have hj:(i+(its.toArray.size:Int)).toNat=j:=by
   rw[seqIndex_neg %[|5] h4] at h1;rw[List.size_toArray,<- hl];exact Option.some.inj h1
  exact subscriptTail_builtinR (x:=w) pl.isList.typeIs slot_list_getitem.lookup
   (wpAny_getItem_list_neg (Q:=fun r s'=>r=w/\EP X pins σ Q r s') pl.isList %[|5] (by rw[List.size_toArray]<;>omega) %[|5] (by rw[hj];simpa using ew) ⟨rfl,fin⟩) hs
theorem Ig:IxR X (rIxT X.K):=by
 intro value slice pins s σ H x y v u Q I rx ry h hs;obtain⟨p,xs,i,z,rfl,rfl,hq,he,q⟩:=h;cases rx;obtain⟨t,rfl⟩:=ry;obtain⟨its,r,pl,hz⟩:=I.tuple hq;obtain⟨j,h1,h2,h3,h4,h5⟩:=J3 he;obtain⟨w,ew,rw'⟩:=r.get h2;have hl:=r.length;have hn:=XV;have fin:EP X pins σ Q w s:=⟨z,H,I,rw',q⟩;exact subscriptTail_builtinR (x:=w) pl.typeIs slot_tuple_getitem.lookup
  (getItem_tuple (j:=j) (Q:=fun r s'=>r=w/\EP X pins σ Q r s') pl %[|5] %[|5] (by rw[List.size_toArray,<- hl];exact h1) (by simpa using ew) ⟨rfl,fin⟩) hs
theorem Ih:IxR X rIxS:=by
 intro value slice pins s σ H x y v u Q I rx ry h hs;obtain⟨z,i,c,rfl,rfl,hz,he,q⟩:=h;obtain⟨t,rfl⟩:=rx;obtain⟨t',rfl⟩:=ry;obtain⟨j,h1,h2,h3,h4,h5⟩:=J3 he;have hl:z.cps.toList.length=z.length:=by simp[Str.length]
 rw[hl] at h1 h4 h5;have hn:=XV;exact tail_any (typeIs_str s z t) slot_str_getitem.lookup (getItem_str (c:=c) (by
  have e1:decide (i < -(2 ^ 63:Int))=false:=decide_eq_false %[|5];have e2:decide (i ≥ 2 ^ 63)=false:=decide_eq_false %[|5];rw[e1,e2,Bool.or_false]) (by rw[h1];simpa using h2) ⟨.str ⟨#[c]⟩,H,I.tok _,⟨_,rfl⟩,q⟩) hs
theorem Ao (its:List Value) (n j:Nat) (u:Value):Obj.mapSeq (·.setIfInBounds j u) {cls:=.type "list",data:=.seq its.toArray n}={cls:=.type "list",data:=.seq (its.set j u).toArray n}:=by
 simp[Obj.mapSeq]
theorem Inv.lst {pins:List (Addr×Obj)} {σ:St} {H:Hp} {s:Shared} {p:Addr} {xs:List V} (I:Inv X pins σ H s) (h:H p=some (.lst xs)) :
  ∃ (its:List Value) (n:Nat),Vals xs its/\s.heap.get? p=some {cls:=.type "list",data:=.seq its.toArray n}/\xs.length<=sizeLine:=by
 obtain⟨z,its,n,r,e⟩:=I.hok p _ h;exact⟨its,n,r,e,z⟩
theorem Inv.lstUpd {pins:List (Addr×Obj)} {σ:St} {H:Hp} {s:Shared} {p:Addr} {xs ys:List V} {its its':List Value} {n n':Nat} {f:Obj->Obj} (I:Inv X pins σ H s) (h:H p=some (.lst xs))
  (ho:s.heap.get? p=some {cls:=.type "list",data:=.seq its.toArray n}) (hf:f {cls:=.type "list",data:=.seq its.toArray n}={cls:=.type "list",data:=.seq its'.toArray n'}) (r:Vals ys its') (hz:ys.length<=sizeLine) (t:Nat) :
  Inv X pins σ (upd H p (.lst ys)) {s with heap:=s.heap.update p f,toks:=t}:=by
 have e:(s.heap.update p f).get? p=some {cls:=.type "list",data:=.seq its'.toArray n'}:=by
  rw[Heap.get?_update_self f ho (by rw[hf]<;>rfl),hf]
 refine I.write (x:=p) (e:=p) (by rw[h];trivial) (.inl rfl) (fun b u hb q=>(Heap.get?_update_other _ _ (Ne.symm hb)).trans q) ⟨_,e⟩ ?_;exact⟨hz,its',n',r,e⟩
noncomputable def Kj:V->V->V->Hp->(Hp->Prop)->Prop:=fun o i v H Q=>∃ p xs k j,o=.ref p/\i=.int k/\H p=some (.lst xs)/\ixN xs.length k=some j/\Q (upd H p (.lst (xs.set j v)))
theorem CL:PSet X Kj:=by
 intro pins s σ H o i v ov iv u Q I ro ri rv h;obtain⟨p,xs,k,j,rfl,rfl,hp,hj,q⟩:=h;cases ro;obtain⟨t,rfl⟩:=ri;obtain⟨its,n,r,ho,hz⟩:=I.lst hp;obtain⟨h1,h2,h3,h4⟩:=B6 hj;have hl:=r.length;have hn:=XV;have I':Inv X pins σ (upd H p (.lst (xs.set j v))) {s with heap:=s.heap.update p (Obj.mapSeq (·.setIfInBounds j u))} :=
  I.lstUpd hp ho (Ao its n j u) (r.set rv j) (by rw[List.length_set];exact hz) s.toks
 by_cases h0:0<=k
 ·have hk:k.toNat=j:=by
   rw[seqIndex_of h0 h4] at h1;exact Option.some.inj h1
  exact PySem.W.ki_setAt ho h0 %[|5] (by rw[List.size_toArray,<- hl];exact h4) (by rw[hk];exact⟨_,I',q⟩)
 ·have hk:(k+(its.toArray.size:Int)).toNat=j:=by
   rw[seqIndex_neg %[|5] h3] at h1;rw[List.size_toArray,<- hl];exact Option.some.inj h1
  exact PySem.W.ki_setBack ho %[|5] (by rw[List.size_toArray,<- hl];exact h3) %[|5] (by rw[hk];exact⟨_,I',q⟩)
theorem UB (lo hi:Option Int) (n:Nat):(sliceBounds lo hi none n).1=((HT.sIx n 0 lo:Nat):Int)/\(sliceBounds lo hi none n).2.1=((HT.sIx n n hi:Nat):Int)/\(sliceBounds lo hi none n).2.2=1:=by
 refine⟨?_,?_,rfl⟩
 ·cases lo with
  | none=>simp[sliceBounds,HT.sIx]
  | some i =>
   simp only[sliceBounds,HT.sIx,Option.getD_none,show (1:Int) > 0 by decide,if_true];by_cases h:i<0
   ·simp only[h,if_true]<;>omega
   ·simp only[h,if_false]<;>omega
 ·cases hi with
  | none=>simp[sliceBounds,HT.sIx]
  | some i =>
   simp only[sliceBounds,HT.sIx,Option.getD_none,show (1:Int) > 0 by decide,if_true];by_cases h:i<0
   ·simp only[h,if_true]<;>omega
   ·simp only[h,if_false]<;>omega
theorem VO (its:List Value) (lo hi:Option Int):slicePick its.toArray lo hi none=((its.drop (HT.sIx its.length 0 lo)).take (HT.sIx its.length its.length hi-HT.sIx its.length 0 lo)).toArray:=by
 obtain⟨h1,h2,h3⟩:=UB lo hi its.toArray.size;unfold slicePick;rw[h1,h2,h3];simp only[sliceRange_one,pick_run,List.size_toArray]<;>rfl
noncomputable def rSlL (K:Frag):V->Option Int->Option Int->Hp->VK->Prop:=fun x lo hi H Q=>∃ a xs,x=.ref a/\SqL K H a xs/\∀ p,H p=none->Q (.ref p) (upd H p (.lst (cutV xs lo hi)))
theorem AS:SlR X (rSlL X.K):=by
 intro pins s σ H x v vl vu lo hi sl Q I rx hs pl pu h;obtain⟨a,xs,rfl,hx,q⟩:=h;cases rx;obtain⟨its,r,ht,hz⟩:=I.list hx;have hlen:=r.length;refine⟨"list",_,slot_list_getitem.lookup,ht.isList.typeIs,?_⟩;refine wpAny_getItem_list_slice ht.isList hs pl pu .none (by simp) ?_ (by rw[List.size_toArray]<;>omega);rw[VO,<- hlen];refine⟨.ref s.heap.objs.size,_,I.laid (t':=s.toks) (o:=.lst (cutV xs lo hi)) (fun b ob q=>Heap.get?_push_of_some _ q) %[|3] ?_,rfl,q _ (I.hok.fresh %[|3])⟩;exact⟨Nat.le_trans (WJ xs lo hi) hz,_,0,(r.drop (HT.sIx xs.length 0 lo)).take (HT.sIx xs.length xs.length hi-HT.sIx xs.length 0 lo),Heap.get?_push_size _ rfl⟩
theorem J1:CallR X (.builtin "len") (fun xs H Q=>∃ p ys,xs=[.ref p]/\(SqL X.K H p ys\/SqT X.K H p ys)/\Q (.int ys.length) H):=by
 intro pins s σ H xs us Q I r h;obtain⟨p,ys,rfl,hq,q⟩:=h;obtain⟨u,rfl,rx⟩:=V6 r;cases rx;have hn:=XV;rcases hq with hq|hq
 ·obtain⟨its,r',pl,hz⟩:=I.list hq
  have hlen:=r'.length;exact Calls.call_len_list pl.isList (by simp only[List.size_toArray]<;>omega) ⟨.int ys.length,H,I.tok _,⟨s.toks+1,by rw[List.size_toArray,hlen]⟩,q⟩
 ·obtain⟨its,r',pl,hz⟩:=I.tuple hq
  have hlen:=r'.length;exact len_tuple pl (by simp only[List.size_toArray]<;>omega) ⟨.int ys.length,H,I.tok _,⟨s.toks+1,by rw[List.size_toArray,hlen]⟩,q⟩
theorem J0:CallR X (.builtin "len") (fun xs H Q=>∃ z,xs=[.str z]/\z.length<=sizeLine/\Q (.int z.length) H):=by
 intro pins s σ H xs us Q I r h;obtain⟨z,rfl,hz,q⟩:=h;obtain⟨u,rfl,t,rfl⟩:=V6 r;have hn:=XV;exact len_str %[|5] ⟨.int z.length,H,I.tok _,⟨_,rfl⟩,q⟩
theorem CallR.or (h:CallR X f r) (h':CallR X f r'):CallR X f (fun xs H Q=>r xs H Q\/r' xs H Q):=by
 intro pins s σ H xs us Q I rs q;rcases q with q|q
 ·exact h pins s σ H xs us Q I rs q
 ·exact h' pins s σ H xs us Q I rs q
theorem UZ:CallR X (.type "list") (fun xs H Q=>∃ p ys,xs=[.ref p]/\(SqL X.K H p ys\/SqT X.K H p ys)/\∀ l,H l=none->Q (.ref l) (upd H l (.lst ys))):=by
 intro pins s σ H xs us Q I r h;obtain⟨p,ys,rfl,hq,q⟩:=h;obtain⟨u,rfl,rx⟩:=V6 r;cases rx;have fin:∀ (its:List Value),Vals ys its->ys.length<=sizeLine->∀ (h':Heap) (c':Nat),(∀ b o',s.heap.get? b=some o'->h'.get? b=some o') ->
   h'.get? s.heap.objs.size=some {cls:=.type "list",dict:=none,data:=.seq its.toArray c',slots:=#[]}->EP X pins σ Q (.ref s.heap.objs.size) {s with heap:=h'}:=fun its r' hz h' c' kp e =>
  ⟨.ref s.heap.objs.size,_,I.laid (t':=s.toks) kp %[|3] (show ObjOk X.prog X.w _ h' _ (.lst ys) from ⟨hz,its,c',r',e⟩),rfl,q _ (I.hok.fresh %[|3])⟩
 rcases hq with hq|hq
 ·obtain⟨its,r',pl,hz⟩:=I.list hq
  have hlen:=r'.length;obtain⟨o,ho,hc,n,hd⟩:=pl.isList;exact call_list_seq p (.inl rfl) ho hc hd (fun h' c' kp e=>fin its r' hz h' c' kp e) (by simp only[List.size_toArray]<;>omega)
 ·obtain⟨its,r',pl,hz⟩:=I.tuple hq
  have hlen:=r'.length;obtain⟨o,ho,hc,n,hd⟩:=pl;exact call_list_seq p (.inr rfl) ho hc hd (fun h' c' kp e=>fin its r' hz h' c' kp e) (by simp only[List.size_toArray]<;>omega)
theorem VS:CallR X (.type "tuple") (fun xs H Q=>∃ p ys,xs=[.ref p]/\((SqL X.K H p ys/\∀ l,H l=none->Q (.ref l) (upd H l (.tup ys)))\/(SqT X.K H p ys/\Q (.ref p) H))):=by
 intro pins s σ H xs us Q I r h;obtain⟨p,ys,rfl,h⟩:=h;obtain⟨u,rfl,rx⟩:=V6 r;cases rx;rcases h with ⟨hq,q⟩|⟨hq,q⟩
 ·obtain⟨its,r',pl,hz⟩:=I.list hq
  have hlen:=r'.length;refine call_tuple_list pl.isList (fun h' kp=>?_) (by simp only[List.size_toArray]<;>omega);have I1:Inv X pins σ H {s with heap:=h'}:=I.kept (t':=s.toks) kp;have I2:Inv X pins σ (upd H h'.objs.size (.tup ys)) {s with heap:=h'.push {cls:=.type "tuple",data:=.seq its.toArray}} :=
   I1.laid (t':=s.toks) (fun b o e=>Heap.get?_push_of_some _ e) %[|3] (show ObjOk X.prog X.w _ _ _ (.tup ys) from ⟨hz,its,r',IsTup.new _ _⟩)
  exact⟨.ref h'.objs.size,_,I2,rfl,q _ (I1.hok.fresh %[|3])⟩
 ·obtain⟨its,r',pl,hz⟩:=I.tuple hq
  exact call_tuple_same pl ⟨.ref p,H,I,rfl,q⟩
noncomputable def tyV (K:Frag) (T:String) (x:V) (H:Hp):Prop:=match x with
 | .str _=>T="str"
 | .int _=>T="int"
 | .ref p=>(T="list"/\∃ xs,SqL K H p xs)\/(T="tuple"/\∃ o,K.lookup p=some o/\o.cls=.type "tuple"/\o.dict=none) \/
   (T="dict"/\((∃ kvs,H p=some (.dK kvs))\/∃ kvs,H p=some (.dT kvs)))\/(T="set"/\∃ S n,H p=some (.set S n))
 | _=>False
theorem Hb (I:Inv X pins σ H s) (r:RelV x v) (ty:tyV X.K T x H) :
  s.TypeIs v T/\∀ a,v=.ref a->∃ ob,s.heap.get? a=some ob/\ob.dict=none:=by
 cases x with
 | str z =>
  obtain⟨t,rfl⟩:=r;cases (show T="str" from ty);exact⟨typeIs_str s z t,fun _ e=>nomatch e⟩
 | int i =>
  obtain⟨t,rfl⟩:=r;cases (show T="int" from ty);exact⟨typeIs_int s i t,fun _ e=>nomatch e⟩
 | ref p =>
  cases r;rcases ty with ⟨rfl,xs,hq⟩|⟨rfl,o,hk,hc,hd⟩|⟨rfl,hk⟩|⟨rfl,S,n,hk⟩
  ·obtain⟨its,_,pl,_⟩:=I.list hq
   refine⟨pl.isList.typeIs,fun a e=>?_⟩;cases e;obtain⟨o,n,e,c,hd,_⟩:=pl;exact⟨o,e,hd⟩
  ·refine⟨⟨o,I.kIn p o hk,hc⟩,fun a e=>?_⟩
   cases e;exact⟨o,I.kIn _ o hk,hd⟩
  ·have z:∃ o,s.heap.get? p=some o/\o.ExactDict:=by
    rcases hk with ⟨kvs,hk⟩|⟨kvs,hk⟩
    ·obtain⟨_,_,_,_,o,_,_,e,ex,_⟩:=I.hok p _ hk
     exact⟨o,e,ex⟩
    ·obtain⟨_,_,_,_,o,_,_,e,ex,_⟩:=I.hok p _ hk
     exact⟨o,e,ex⟩
   obtain⟨o,e,ex⟩:=z;refine⟨⟨o,e,ex.1⟩,fun a e2=>?_⟩;cases e2;exact⟨o,e,ex.2.1⟩
  ·obtain⟨o,_,_,_,e,ex,_⟩:=I.hok p _ hk
   refine⟨⟨o,e,ex.1⟩,fun a e2=>?_⟩;cases e2;exact⟨o,e,ex.2.1⟩
 | _=>exact False.elim ty
noncomputable def tBM (K:Frag) (T:String) (r:V->List V->Hp->VK->Prop) (to:TE) (t:TA):TE:=fun σ H Q=>to σ H fun x H1=>tyV K T x H1/\t σ H1 fun xs H2=>r x xs H2 Q
variable {o e:Expr} {es:List Expr} {to:TE} {t:TA} {name:Str} {apos cpos:Pos} {T id:String} {r:V->List V->Hp->VK->Prop}
theorem B1 (pa:PlainAttrs T) (slot:Slot T name id) (hty:typeOf (.builtin id)=pure (.type "method_descriptor")) (hm:MtR X id r) (ho:PE X o to) (ha:PA X (e::es) t)
  (hbase:attributeBase o name X.env (eval o X.env)=eval o X.env:=by rfl)
  (hfew:((backTo cpos (starEach (e::es) X.env)).all (fun x=>!x.1)&&(backToKw cpos (keywordEach [] X.env)).all (fun x=>x.1.isSome)
   && decide ((e::es).length+([]:List Keyword).length+(if ([]:List Keyword).isEmpty then 0 else 1)<30))=true:=by rfl)
  (hline:(apos.endLine==cpos.line)=true:=by rfl) (hs:starEach (e::es) X.env=(false,eval e X.env)::starEach es X.env:=by rfl) (hplain:(backTo cpos (starEach es X.env)).any (·.1)=false:=by rfl) :
  PE X (.Call (.Attribute o name apos) (e::es) [] cpos) (tBM X.K T r to t):=by
 intro pins s σ H Q I h;refine wpAny_Call_method_late hbase hfew hline rfl (thn (ho pins s σ H _ I h) fun v s1 hq2=>?_);obtain⟨x,H1,I1,r1,ty,q1⟩:=hq2;obtain⟨h1,h2⟩:=Hb I1 r1 ty;refine⟨T,id,pa,slot,hty,h1,h2,?_⟩;have hA:=ha cpos pins s1 σ H1 _ I1 q1;rw[hs] at hA ⊢;refine Calls.callWith_builtin (by show (false || (backTo cpos (starEach es X.env)).any (·.1))=false;rw[hplain]<;>rfl) (Calls.evalArgs_plain ?_);exact thn hA (by rintro us s2 ⟨vs,H2,I2,r2,q2⟩;exact hm pins s2 σ H2 x vs v us Q I2 r1 r2 q2)
end
end L2
namespace L2
open PySem PySem.Spec PyProof.Rows
noncomputable def MtM (X:Cx) (id:String) (r:V->List V->Hp->VK->Prop):Prop :=
 ∀ (pins:List (Addr×Obj)) (s:Shared) (σ:St) (H:Hp) (x:V) (xs:List V) (v:Value) (us:List Value) (Q:VK),Inv X pins σ H s->RelV x v->Vals xs us->r x xs H Q ->
  wpAny (model X.prog X.w) X.A (call (.builtin id) (v::us)) (EP X pins σ Q) X.xe s
theorem Vals.one:∀ {x:V} {us:List Value},Vals [x] us->∃ u,us=[u]/\RelV x u
 | _,_,.cons r .nil=>⟨_,rfl,r⟩
theorem Vals.rep (h:Vals xs us):∀ k:Nat,Vals (List.replicate k xs).flatten (List.replicate k us).flatten
 | 0=>.nil
 | k+1=>by
  rw[List.replicate_succ,List.replicate_succ,List.flatten_cons,List.flatten_cons];exact Vals.append h (Vals.rep h k)
theorem XM (its:List Value):∀ (k:Nat) (acc:List Value),
  List.foldl (fun x1 x2=>x1++x2) acc.toArray (List.replicate k its.toArray)=(acc++(List.replicate k its).flatten).toArray
 | 0,acc=>by simp
 | k+1,acc=>by
  have e:acc.toArray++its.toArray=(acc++its).toArray:=by simp
  have e2:(acc++its)++(List.replicate k its).flatten=acc++(List.replicate (k+1) its).flatten:=by
   rw[List.replicate_succ,List.flatten_cons,List.append_assoc]
  rw[<- e2,<- XM its k (acc++its),<- e,List.replicate_succ,List.foldl_cons]
section
variable {X:Cx} {pins:List (Addr×Obj)} {σ:St} {H:Hp} {s:Shared} {l b:Addr} {xs ys zs:List V}
theorem Inv.lset {its its':List Value} {n:Nat} {f:Array Value->Array Value} {t':Nat} (I:Inv X pins σ H s) (hH:H l=some (.lst xs))
  (e:s.heap.get? l=some {cls:=.type "list",data:=.seq its.toArray n}) (hf:f its.toArray=its'.toArray) (hv:Vals ys its') (hz:ys.length<=sizeLine) :
  Inv X pins σ (upd H l (.lst ys)) {s with heap:=s.heap.update l (Obj.mapSeq f),toks:=t'}:=by
 have q:=PySem.IsL.update e f;rw[hf] at q;refine I.write (x:=l) (e:=l) (by rw[hH];exact trivial) (.inl rfl) (fun b' u hb hu=>(Heap.get?_update_other s.heap (Obj.mapSeq f) (Ne.symm hb)).trans hu) ⟨_,q⟩ ?_;exact⟨hz,its',_,hv,q⟩
theorem Inv.lnew (I:Inv X pins σ H s) (hv:Vals ys its) (hz:ys.length<=sizeLine) :
  Inv X pins σ (upd H s.heap.objs.size (.lst ys)) {s with heap:=s.heap.push {cls:=.type "list",data:=.seq its.toArray},toks:=t'} :=
 I.laid (fun _ _ q=>Heap.get?_push_of_some _ q) %[|3] ⟨hz,its,0,hv,Heap.get?_push_size _ rfl⟩
theorem Inv.fresh (I:Inv X pins σ H s):H s.heap.objs.size=none:=I.hok.fresh %[|3]
theorem Inv.lstM (I:Inv X pins σ H s) (hH:H l=some (.lst xs)):xs.length<=sizeLine/\∃ (its:List Value) (n:Nat),Vals xs its/\xs.length=its.length/\s.heap.get? l=some {cls:=.type "list",data:=.seq its.toArray n}:=by
 obtain⟨z,its,n,r,e⟩:=I.hok l _ hH;exact⟨z,its,n,r,r.length,e⟩
theorem Ju (h:n<=sizeLine):Builtin.List.listTooLong n=false:=by
 unfold Builtin.List.listTooLong;exact decide_eq_false %[|5]
end
section
variable {X:Cx}
noncomputable def Fj:V->List V->Hp->VK->Prop:=fun x vs H Q=>∃ l xs y,x=.ref l/\vs=[y]/\H l=some (.lst xs)/\xs.length<sizeLine/\Q .non (upd H l (.lst (xs++[y])))
theorem U5:MtM X "list.append" Fj:=by
 intro pins s σ H x vs v us Q I rx rv h;obtain⟨l,xs,y,rfl,rfl,hH,hz,q⟩:=h;cases rx;obtain⟨u,rfl,ru⟩:=rv.one;obtain⟨z,its,n,r,hl,e⟩:=I.lstM hH;refine call_meets F.slot_list_append ⟨_,e,rfl⟩ F.entry_list_append (F.args_list_append_2 _ _) (PySem.list_append l its.toArray n u (by rw[List.size_toArray];omega)) ⟨e,?_⟩;refine⟨.non,_,I.lset (its':=its++[u]) hH e (by simp) (r.append (.cons ru .nil)) ?_,rfl,q⟩;rw[List.length_append,List.length_singleton];omega
noncomputable def Fi:V->List V->Hp->VK->Prop:=fun x vs H Q=>∃ l b xs zs,x=.ref l/\vs=[.ref b]/\H l=some (.lst xs)/\H b=some (.lst zs)/\xs.length+zs.length<=sizeLine/\Q .non (upd H l (.lst (xs++zs)))
theorem BO:MtM X "list.extend" Fi:=by
 intro pins s σ H x vs v us Q I rx rv h;obtain⟨l,b,xs,zs,rfl,rfl,hH,hB,hz,q⟩:=h;cases rx;obtain⟨u,rfl,ru⟩:=rv.one;cases ru;obtain⟨z,its,n,r,hl,e⟩:=I.lstM hH;obtain⟨z2,its2,n2,r2,hl2,e2⟩:=I.lstM hB;have hsz:its.toArray.size+its2.toArray.size<=sizeLine:=by rw[List.size_toArray,List.size_toArray];omega
 have hlong:¬ (!its.toArray.isEmpty&&Builtin.List.listTooLong (its.toArray.size+its2.toArray.size))=true:=by
  rw[Ju hsz,Bool.and_false];exact Bool.false_ne_true
 refine call_meets F.slot_list_extend ⟨_,e,rfl⟩ F.entry_list_extend (F.args_list_extend_2 _ _)
  (AutoSeq1.list_extend_list_list_0 l its.toArray n b its2.toArray n2 hlong (by rw[List.size_toArray];omega) %[|5]) ⟨e,e2,?_⟩
 refine⟨.non,_,I.lset (its':=its++its2) hH e (by simp) (r.append r2) ?_,rfl,q⟩;rw[List.length_append];omega
noncomputable def rCat:R2:=fun x y H Q=>∃ l b xs zs,x=.ref l/\y=.ref b/\H l=some (.lst xs)/\H b=some (.lst zs)/\xs.length+zs.length<=sizeLine/\∀ p,H p=none->Q (.ref p) (upd H p (.lst (xs++zs)))
theorem HM:OpR X (binaryOp .Add) rCat:=by
 intro pins s σ H x y v u Q I rx ry h;obtain⟨l,b,xs,zs,rfl,rfl,hH,hB,hz,q⟩:=h;cases rx;cases ry;obtain⟨z,its,n,r,hl,e⟩:=I.lstM hH;obtain⟨z2,its2,n2,r2,hl2,e2⟩:=I.lstM hB;refine PySem.P.add_list e e2 ?_ (by rw[List.size_toArray,List.size_toArray];omega);have ea:its.toArray++its2.toArray=(its++its2).toArray:=by simp
 rw[ea];exact⟨.ref _,_,I.lnew (t':=s.toks) (r.append r2) (by rw[List.length_append];omega),rfl,q _ I.fresh⟩
noncomputable def rRep:R2:=fun x y H Q=>∃ l k xs,x=.ref l/\y=.int k/\H l=some (.lst xs)/\-(2 ^ 63)<=k/\k<2 ^ 63/\xs.length*k.toNat<=sizeLine /\
 ∀ p,H p=none->Q (.ref p) (upd H p (.lst (List.replicate k.toNat xs).flatten))
theorem UR (xs:List α) (k:Nat):(List.replicate k xs).flatten.length=k*xs.length:=by
 induction k with
 | zero=>simp
 | succ k ih=>rw [List.replicate_succ,List.flatten_cons,List.length_append,ih,Nat.succ_mul,Nat.add_comm]
theorem HL:OpR X (binaryOp .Mult) rRep:=by
 intro pins s σ H x y v u Q I rx ry h;obtain⟨l,k,xs,rfl,rfl,hH,h1,h2,hz,q⟩:=h;cases rx;obtain⟨t,rfl⟩:=ry;obtain⟨z,its,n,r,hl,e⟩:=I.lstM hH;have hlen:its.toArray.size*k.toNat<=sizeLine:=by rw[List.size_toArray,<- hl];exact hz
 have hcap:¬ its.toArray.size*k.toNat > (2 ^ 63-1) / 8:=by
  have:(sizeLine:Nat)<=(2 ^ 63-1) / 8:=by decide
  omega
 have hfit:¬ (!Builtin.List.listFitsIndex k)=true:=by
  rw[fitsIndex_both h1 h2];exact Bool.false_ne_true
 have hlong:¬ Builtin.List.listTooLong (its.toArray.size*k.toNat)=true:=by
  rw[Ju hlen];exact Bool.false_ne_true
 have hnew:List.foldl (fun x1 x2=>x1++x2) #[] (List.replicate (if its.toArray.isEmpty=true then 0 else k.toNat) its.toArray)=(List.replicate k.toNat its).flatten.toArray:=by
  have f0:∀ m:Nat,List.foldl (fun x1 x2=>x1++x2) #[] (List.replicate m its.toArray)=(List.replicate m its).flatten.toArray:=fun m=>by
   have:=XM its m [];rw[List.nil_append] at this;exact this
  rw[f0];cases its with
  | nil=>simp
  | cons a r'=>rw [if_neg (by simp)]
 refine wpAny_binaryOp_repeat_ref (T:="list") (U:="int") %[|4] ⟨_,e,rfl⟩ (fun s'=>typeIs_int s' k t) noFill_list_mul F.fills_int_mul F.slot_int_rmul repeat_list F.slot_int_index.lookup
  (call_meets F.slot_int_rmul (typeIs_int s k t) F.entry_int_rmul (F.args_int_rmul_2 _ _) (int___rmul___int_list k t l its.toArray n)
   ⟨e,rfl,⟨_,e,rfl⟩,call_meets F.slot_list_mul ⟨_,e,rfl⟩ F.entry_list_mul (F.args_list_mul_2 _ _) (AutoListH.list___mul___list_int_3 l its.toArray n k t hfit hcap hlong) ⟨e,?_⟩⟩)
 rw[hnew];exact⟨.ref _,_,I.lnew (t':=s.toks) (r.rep k.toNat) (by rw[UR,Nat.mul_comm];exact hz),rfl,q _ I.fresh⟩
end
section
variable {prog:Program} {w:World} {A:Around} {E:Value->Shared->Prop} {s:Shared}
set_option maxRecDepth 100000 in
end
section
variable {X:Cx}
end
end L2
namespace Att
open PySem PySem.W PySem.Calls PyProof.Rows
theorem WP:∀ (ns:List Int) (vs:List Value),WellAll P h vs (ns.map WData.int)->IntsAre vs ns:=by
 intro ns
 induction ns with
 | nil =>
  intro vs w;rw[List.map_nil] at w;cases w;exact .nil
 | cons n ns ih =>
  intro vs w;rw[List.map_cons] at w;cases w with
  | cons a b =>
   cases a;exact .cons _ _ (ih _ b)
theorem script_of {l:OpenLaw} {n:Nat} (hn:l.most=some n) {P:Params} {h:Heap} {args:List WData} {vals:List Value}
  (hpre:l.row.toRowW.claim.pre args=true) (hwl:WellAll P h vals args) :
  ∃ a vs ns,vals=[Value.ref a]/\args=[WData.list (ns.map WData.int)]/\h.get? a=some {cls:=.type "list",data:=.seq vs.toArray}/\IntsAre vs ns/\ns.length<=n:=by
 have hsh:WShape.hasAll [] args [.list .int]=true:=(pre_splitW hpre).1;have hc:l.pre.holds [] {args:=args}=true:=(pre_splitW hpre).2;obtain⟨d,r,rfl,h1,h2⟩:=hasAllW_cons hsh;obtain rfl:=hasAllW_nil h2;obtain⟨xs,rfl,h3⟩:=hasW_list h1;obtain⟨ns,rfl⟩:=items_int h3;have hlen:ns.length<=n:=by
  unfold OpenLaw.pre at hc;have h4:(WTm.not (.lt (.lit (.int (n:Int))) (.len (.arg 0)))).holds [] {args:=[.list (ns.map .int)]}=true:=by
   have h4:=(holds_andW hc).1;rw[hn] at h4;exact h4
  have h5:=condW_of h4 (w_not (w_lt w_lit (w_len_list (w_arg rfl))));rw[List.length_map] at h5;refine Nat.le_of_not_lt fun q=>?_;have q':(n:Int)<((ns.length:Nat):Int):=by omega
  first
   | (rw [decide_eq_true q'] at h5;exact absurd h5 %[|4])
   | (simp at h5;omega)
 cases hwl with
 | cons w1 w2 =>
  cases w2;cases w1 with
  | list ho hall=>exact⟨_,_,ns,rfl,rfl,ho,WP ns _ hall,hlen⟩
theorem post_true (l:OpenLaw) (args:List WData):l.row.toRowW.claim.post args (.bool true) args=true :=
 postW_of (r:=l.row.toRowW) (X:=(true==true))
  (show WShape.has [] (.bool true) .bool=true by first|rfl|decide|simp[WShape.has,WShape.arms,WShape.armsAll])
  (show (WTm.eq .res (.lit (.bool true))).value [] {args:=args,res:=some (.bool true),after:=args}=some (.bool (true==true)) from w_eq_bool (w_res rfl) w_lit) rfl
section
variable {prog:Program} {w:World} {A:Around} {E:Value->Shared->Prop} {s:Shared} {K:Frag}
end
end Att
namespace L2
open PySem PySem.Spec PyProof.Rows
theorem vals_ints:∀ {vs:List Value} {ns:List Int},IntsAre vs ns->Vals (ns.map V.int) vs
 | _,_,.nil=>.nil
 | _,_,.cons n t h=>.cons ⟨t,rfl⟩ (vals_ints h)
noncomputable def Only (H:Hp):Prop:=∀ b,H b=none\/∃ o xs,H b=some (.frz o (.lst xs))
theorem DH {P:Program} {w:World} {K:Frag} {mg mb:Str->Option Value} {CX:CXT} {k:Nat} {fa a:Addr} {fd:FuncData} {x:Str} {sp:Sp} {s₁:Shared} {vs:List Value} {ns:List Int}
  (KX:K.In s₁.heap) (hns:s₁.heap.Ns mainGlobals mg) (hb:s₁.heap.Ns builtinsNs mb) (hbb:∀ x:Str,x≠"__name__"->mb x=bootBuiltins x) (hlim:s₁.heap.NoLimit) (hg:s₁.gens=#[])
  (ha:s₁.heap.get? a=some {cls:=.type "list",data:=.seq vs.toArray}) (hi:IntsAre vs ns) (hl:ns.length<=sizeLine) (hr:Room k callerA)
  (F:∀ base:Heap,K.In base->base.Ns mainGlobals mg->FnOk P w K mg base CX k fa fd [x] sp) (hbind:∀ (s:Shared) (u:Value),BindsTo s fd ⟨[u],[]⟩ [(x,u)])
  (hsp:∀ H:Hp,Only H->SqL K H a (ns.map V.int)->sp [.ref a] H (fun v _=>v=.bl true) fun _ _ _=>False)
  (hCX:∀ H e s',CX [] H s₁ (fun _ _ _=>False) e s'->False) :
  codeAny (model P w) callerA (.call (.ref fa) ⟨[.ref a],[]⟩) (fun r s'=>r=.ok (.ret (.bool true))/\OldK s₁.heap s'.heap/\s'.os=s₁.os/\AllBare s'.gens) s₁:=by
 have rv:=vals_ints hi;have lenV:=hi.length;have core:∀ H:Hp,Only H->SqL K H a (ns.map V.int)->HOk P w H s₁.heap->(∀ b,H b≠none->b=a)->(H a≠none->K.lookup a=none) ->
   codeAny (model P w) callerA (.call (.ref fa) ⟨[.ref a],[]⟩) (fun r s'=>r=.ok (.ret (.bool true))/\OldK s₁.heap s'.heap/\s'.os=s₁.os/\AllBare s'.gens) s₁:=by
  intro H hO hS hok hA hK;have base_of:∀ {b:Addr} {o:Obj},s₁.heap.get? b=some o->H b=none->(hidT s₁.heap H).get? b=some o:=fun e n=>DY e n;have noA:∀ {b:Addr} {o:Obj} {es:Array DictEntry} {ep:Nat},s₁.heap.get? b=some o->o.data=.dict es ep->H b=none:=fun {b o es ep} e d=>by
   cases q:H b with
   | none=>rfl
   | some u =>
    have e':b=a:=hA b (by rw[q];simp);subst e';rw[ha] at e;cases e;have d':Data.seq vs.toArray _=Data.dict es ep:=d;cases d'
  have nsK:∀ {b:Addr} {m:Str->Option Value},s₁.heap.Ns b m->(hidT s₁.heap H).Ns b m:=fun {b m} ⟨o,es,ep,e,d,r⟩=>⟨o,es,ep,base_of e (noA e d),d,r⟩;have hKb:K.In (hidT s₁.heap H):=fun b o e=>base_of (KX b o e) (by
   cases q:H b with
   | none=>rfl
   | some u =>
    have e':b=a:=hA b (by rw[q];simp);subst e';rw[hK (by rw[q];simp)] at e;cases e)
  have hM:Mod K mg (hidT s₁.heap H):=⟨hKb,nsK hns,⟨mb,nsK hb,hbb⟩,let ⟨mc,h1,h2⟩:=hlim;⟨mc,nsK h1,h2⟩⟩;have e0:Env0 P w K mg (hidT s₁.heap H) callerA [] s₁ H:=⟨rfl,hM,fun b o e=>FD e,Nat.le_of_eq (BV _ _),trivial,fun b hb=>absurd (show b∈([]:List Addr) from hb) (by simp),hok,.of_eq hg⟩;refine codeAny_mono ((F _ hKb (nsK hns)).run callerA [] s₁ H ⟨[.ref a],[]⟩ [.ref a] [.ref a] _ _ hr e0 (hbind s₁ (.ref a)) (.cons rfl .nil) (hsp H hO hS)) fun r s' h=>?_;cases r with
  | error e=>exact (hCX H e s' h).elim
  | ok fl =>
   cases fl with
   | next=>exact False.elim h
   | brk=>exact False.elim h
   | cont=>exact False.elim h
   | ret u =>
    obtain⟨v,H',os,bare,un,hok',r',q⟩:=h;have q':v=.bl true:=q;subst q';obtain rfl:u=Value.bool true:=r';refine⟨rfl,OldK.of_keep fun b o e=>?_,os,bare⟩;cases q:H b with
    | none=>exact un.keep b o e q (by intro z;exact absurd (show b∈([]:List Addr) from z) (by simp)) (by simp)
    | some u =>
     rcases hO b with z|⟨ob,xs,z⟩
     ·rw[q] at z;cases z
     ·have z2:=un.frzs b ob _ z
      obtain⟨e1,_⟩:=hok b _ z;obtain⟨e2,_⟩:=hok' b _ z2;rw[e] at e1;cases e1;exact e2
 cases hk:K.lookup a with
 | some o =>
  have e:=KX a o hk;rw[ha] at e;cases e;refine core (fun _=>none) (fun _=>.inl rfl) (.inr ⟨_,vs.toArray,_,hk,rfl,rfl,rfl,by rw[List.size_toArray,lenV];exact hl,by simpa using rv⟩) (fun b u z=>by have z':(none:Option HO)=some u:=z;cases z') (fun b z=>absurd rfl z) fun z=>absurd rfl z
 | none =>
  refine core (fun b=>if b=a then some (.frz {cls:=.type "list",data:=.seq vs.toArray} (.lst (ns.map V.int))) else none) (fun b=>?_) (.inl (.inr ⟨{cls:=.type "list",data:=.seq vs.toArray},if_pos rfl⟩)) (fun b u z=>?_) (fun b z=>?_) fun _=>hk
  ·by_cases hb:b=a
   ·exact .inr ⟨_,_,if_pos hb⟩
   ·exact .inl (if_neg hb)
  ·by_cases hb:b=a
   ·have z':=(if_pos hb).symm.trans z
    cases z';subst hb;exact⟨ha,by rw[List.length_map];exact hl,vs,_,rv,ha⟩
   ·have z':=(if_neg hb).symm.trans z
    cases z'
  ·by_cases hb:b=a
   ·exact hb
   ·exact absurd (if_neg hb) z
end L2
namespace L2
open PySem PySem.Spec PyProof.Rows
end L2
namespace L2
open PySem PySem.Spec PyProof.Rows
noncomputable def ZL (s:Stmt):Arguments:=match s with
 | .FunctionDef _ a _ _ _ _ _ _ _ _=>a
 | _=>{posonlyargs:=[],args:=[],vararg:=none,kwonlyargs:=[],kw_defaults:=[],kwarg:=none,defaults:=[]}
noncomputable def YV (s:Stmt):List Stmt:=match s with
 | .FunctionDef _ _ b _ _ _ _ _ _ _=>b
 | _=>[]
noncomputable def Yq (s:Stmt):Scope:=match s with
 | .FunctionDef _ _ _ _ _ _ sc _ _ _=>sc
 | _=>{kind:=.function,names:=[],isGenerator:=false,isCoroutine:=false}
abbrev E0:XK:=fun _ _ _=>False
structure Fun (K:Frag) (x qual:Str) (st:Stmt) (f:Addr) (fd:FuncData):Prop where
 ex:∃ (oc:Value) (od:Option Addr) (kV doc pm:Value) (an:Option Addr) (cdv ct:Value) (osl:Array (Option Value)),
  fd=PySem.W.fnOf x qual (ZL st) (YV st) (Yq st) .none kV doc pm an cdv ct/\K.lookup f=some ⟨oc,od,.func fd,osl⟩/\PySem.W.codeIn K cdv qual=true
 kp:PySem.W.keepIn K (.ref f)=true
section
variable {P:Program} {w:World} {K:Frag} {mg:Str->Option Value} {base:Heap}
theorem Fun.binds {x qual:Str} {st:Stmt} {f:Addr} {fd:FuncData} {ps:List Str} (F:Fun K x qual st f fd)
  (h:∀ (kV doc pm:Value) (an:Option Addr) (cdv ct:Value) (us:List Value),us.length=ps.length->bindArgs (PySem.W.fnOf x qual (ZL st) (YV st) (Yq st) .none kV doc pm an cdv ct) ⟨us,[]⟩=pure (ps.zip us)):Binds K fd ps []:=by
 obtain⟨oc,od,kV,doc,pm,an,cdv,ct,osl,rfl,lk,hcd⟩:=F.ex;exact .all (h kV doc pm an cdv ct)
theorem Av {x qual:Str} {st:Stmt} {f:Addr} {oc:Value} {od an:Option Addr} {osl:Array (Option Value)} {kV doc pm cdv ct:Value} (l:K.lookup f=some ⟨oc,od,.func (PySem.W.fnOf x qual (ZL st) (YV st) (Yq st) .none kV doc pm an cdv ct),osl⟩)
  (c:PySem.W.codeIn K cdv qual=true) (k:PySem.W.keepIn K (.ref f)=true):Fun K x qual st f (PySem.W.fnOf x qual (ZL st) (YV st) (Yq st) .none kV doc pm an cdv ct):=⟨⟨oc,od,kV,doc,pm,an,cdv,ct,osl,rfl,l,c⟩,k⟩
end
section
variable {X:Cx}
theorem pv (i:Nat) (hN:X.N[i]?=some x:=by rfl) (hv:Vis X.env.scope x:=by first|exact Or.inl rfl|exact Or.inr (Or.inl rfl)|exact Or.inr (Or.inr rfl)) (hd:(x==("__debug__":Str))=false:=by decide)
  (hcd:(x==("__classdict__":Str))=false:=by decide):PE X (.Name x pos) (tVar i):=Wq hN hv hd hcd
end
end L2
end
noncomputable section
namespace L2
open PySem PySem.Spec PyProof.Rows
section
variable {κ:Type} [DecidableEq κ]
end
section
variable {P:Program} {w:World} {H:Hp} {h:Heap} {a:Addr}
end
section
variable {X:Cx} {pins:List (Addr×Obj)} {σ:St} {H:Hp} {s:Shared} {a:Addr} {y v:V} {u r:Value} {o:Option V} {A:Around} {E:Value->Shared->Prop}
end
section
variable {X:Cx} {pins:List (Addr×Obj)} {σ:St} {H:Hp} {s:Shared} {a:Addr} {kvs:List (Key×V)} {k:Key} {u:Value} {A:Around} {E:Value->Shared->Prop}
end
section
variable {X:Cx} {o i e value:Expr} {pos pos' tpos:Pos} {td ty tv:TE}
end
section
variable {X:Cx} {pos:Pos}
end
structure M1 (X:Cx) (o:Expr) (m:Str) (apos:Pos) (e:Expr) (cpos:Pos):Prop where
 base:attributeBase o m X.env (eval o X.env)=eval o X.env
 few:((backTo cpos (starEach [e] X.env)).all (fun x=>!x.1)&&(backToKw cpos (keywordEach [] X.env)).all (fun x=>x.1.isSome)
  && decide (([e]:List Expr).length+([]:List Keyword).length+(if ([]:List Keyword).isEmpty then 0 else 1)<30))=true
 line:(apos.endLine==cpos.line)=true
 trees:backTo cpos (starEach [e] X.env)=[(false,eval e X.env)]
structure M2 (X:Cx) (o:Expr) (m:Str) (apos:Pos) (e f:Expr) (cpos:Pos):Prop where
 base:attributeBase o m X.env (eval o X.env)=eval o X.env
 few:((backTo cpos (starEach [e,f] X.env)).all (fun x=>!x.1)&&(backToKw cpos (keywordEach [] X.env)).all (fun x=>x.1.isSome)
  && decide (([e,f]:List Expr).length+([]:List Keyword).length+(if ([]:List Keyword).isEmpty then 0 else 1)<30))=true
 line:(apos.endLine==cpos.line)=true
 trees:backTo cpos (starEach [e,f] X.env)=[(false,eval e X.env),(false,eval f X.env)]
section
variable {X:Cx} {pins:List (Addr×Obj)} {σ:St} {H:Hp} {s:Shared} {a:Addr} {y d:V} {u r:Value} {o:Option V} {A:Around} {E:Value->Shared->Prop}
end
section
variable {X:Cx} {o e f:Expr} {apos cpos:Pos} {td ty tx:TE}
end
section
variable {X:Cx} {pins:List (Addr×Obj)} {σ:St} {H:Hp} {s:Shared} {a:Addr} {kvs:List (Key×V)} {A:Around} {E:Value->Shared->Prop}
end
section
variable {X:Cx} {pins:List (Addr×Obj)} {σ:St} {H:Hp} {s:Shared} {a:Addr} {y:V} {u:Value} {A:Around} {E:Value->Shared->Prop}
end
end L2
end
noncomputable section
namespace DL
open PySem PySem.Spec PyProof.Rows L2
theorem Xz (o:Obj) (f):(o.mapFields f).dict=o.dict:=by obtain⟨c,d,dt,sl⟩:=o;cases dt<;>rfl
noncomputable def WN (h:Heap) (b:Addr):Prop:=∃ o vs,h.get? b=some o/\o.data=.fields vs/\vs[2]?=some .none
noncomputable def Near (h h':Heap):Prop:=h.UpToSlots h'/\(∀ b o,h.get? b=some o->∃ o',h'.get? b=some o')/\∀ b,WN h b->WN h' b
theorem Wy (hk:k≠2) (q:h.get? T=some oT) (dt:oT.data=.fields ts) (c:WN h b):WN (h.update T (Obj.mapFields (·.setIfInBounds k v))) b:=by
 obtain⟨o,vs,q1,q2,q3⟩:=c;by_cases z:b=T
 ·subst z
  rw[q] at q1;cases q1;rw[dt] at q2;cases q2;exact⟨_,_,Heap.get?_update_self _ q (Obj.isFreed_of_fields (Obj.data_mapFields dt _)),Obj.data_mapFields dt _,by rw[Array.getElem?_setIfInBounds_ne hk];exact q3⟩
 ·exact⟨o,vs,by rw[Heap.get?_update_other _ _ (Ne.symm z)];exact q1,q2,q3⟩
theorem Near.trans (a:Near h h1) (b:Near h1 h2):Near h h2:=⟨a.1.trans b.1,fun c o q=>let ⟨_,q1⟩:=a.2.1 c o q;b.2.1 c _ q1,fun c q=>b.2.2 c (a.2.2 c q)⟩
theorem Near.kept (k:∀ b o,h.get? b=some o->h'.get? b=some o):Near h h':=⟨.of_keeps k,fun b o q=>⟨o,k b o q⟩,fun b ⟨o,vs,q,r⟩=>⟨o,vs,k b o q,r⟩⟩
structure Flies (B:Heap) (l:List Env) (e:Addr) (cls:Value) (dd:Option Addr) (fl:Value) (h:Heap):Prop where
 stays:B.StaysIn h
 new:B.get? e=none
 frames:h.FunFrames B l
 tr:∃ oe vs T oT ts,h.get? e=some oe/\oe.cls=cls/\oe.dict=dd/\oe.data=.fields vs/\vs[1]?=some (.ref T)/\B.get? T=none/\T≠e/\h.get? T=some oT/\oT.data=.fields ts/\ts[3]?=some fl
section
variable {M:Model} {A:Around} {Z:Value->Shared->Prop} {s:Shared} {B:Heap} {env:Env} {outer:List Env} {L e:Addr} {Q:Unit->Shared->Prop}
theorem Uf (fr:A.frames=some (env::outer)) (ff:s.heap.FunFrames B (env::outer)) (fl:env.frame=some L)
  (at_:s.heap.get? e=some oe) (st:B.StaysIn s.heap) (nw:B.get? e=none) (dt:oe.data=.fields vs) (sz:1<vs.size)
  (go:∀ h',Flies B (env::outer) e oe.cls oe.dict (rawInt L) h'->Near s.heap h'->Q () {s with heap:=h'}) :
  wpAny M A (do let x <- frameOf env;let y <- entryPlaceOf L hn;let z <- EntryCells.newEntry head x .none (rawInt L) .none y;setField (.ref e) 1 z) Q Z s:=by
 have nfr:e ∉ (env::outer).filterMap (·.frame):=fun z=>by
  obtain⟨_,o,q,r⟩:=ff.mem z;rw[at_] at q;cases q;exact r vs dt
 refine wpAny_bind (wpAny_frameOf_fun fr ff fl fun g sl=>wpAny_bind (wpAny_entryPlaceOf fun pl ok=>?_));unfold EntryCells.newEntry newFields;refine wpAny_bind (wpAny_newObj_type ?_ (ok.sizeOk5 _ _ _ _ _));generalize hO:({cls:=.type "traceback",dict:=none,data:=.fields ([head,.ref L,.none,rawInt L,.none]++(if pl.isEmpty then List.replicate 6 Value.none else pl)).toArray}:Obj)=ob;have ge:g.get? e=some oe:=(sl.2.1 e nfr).trans at_;have gB:B.StaysIn g:=fun b o q=>(sl.2.1 b fun z=>by rw[(ff.mem z).1] at q;cases q).trans (st b o q);have ge':(g.push ob).get? e=some oe:=Heap.get?_push_of_some _ ge;have obf:ob.isFreed=false:=by subst hO;rfl
 have gT:(g.push ob).get? g.objs.size=some ob:=Heap.get?_push_size g obf;have Te:g.objs.size≠e:=Nat.ne_of_gt (Heap.lt_size ge);refine wpAny_setField ge' dt sz ?_;have d3:=Obj.data_mapFields dt (·.setIfInBounds 1 (Value.ref g.objs.size));have e3:=Heap.get?_update_self (Obj.mapFields (·.setIfInBounds 1 (Value.ref g.objs.size))) ge' (Obj.isFreed_of_fields d3);have oth:∀ b o,b≠e->g.get? b=some o->((g.push ob).update e (Obj.mapFields (·.setIfInBounds 1 (Value.ref g.objs.size)))).get? b=some o:=fun b o n q=>by
  rw[Heap.get?_update_other _ _ (Ne.symm n)];exact Heap.get?_push_of_some _ q
 have nrec:∀ b o,s.heap.get? b=some o->(∀ ws,o.data≠.fields ws)->b≠e:=fun b o q r z=>by
  rw[z,at_] at q;cases q;exact r vs dt
 refine go _ ⟨fun b o q=>oth b o (fun z=>by rw[z,nw] at q;cases q) (gB b o q),nw,ff.of_keeps fun b o q r=>?_,?_⟩ ⟨fun b o q r=>?_,fun b o q=>?_,fun b c=>?_⟩
 ·obtain⟨x,y⟩:=sl.2.2 b o q
  exact⟨_,oth b _ (nrec b o q r) y,rfl⟩
 ·refine⟨_,_,g.objs.size,ob,_,e3,Obj.cls_mapFields _ _,Xz _ _,d3,by simp[sz],gB.fresh,Te,?_,by subst hO;rfl,?_⟩
  ·rw[Heap.get?_update_other _ _ (Ne.symm Te)];exact gT
  ·simp
 ·obtain⟨x,y⟩:=sl.2.2 b o q
  exact⟨x,oth b _ (nrec b o q r) y⟩
 ·by_cases z:b=e
  ·subst z;exact⟨_,e3⟩
  ·obtain⟨x,y⟩:=sl.2.2 b o q
   exact⟨_,oth b _ z y⟩
 ·obtain⟨o,ws,q1,q2,q3⟩:=c
  have nb:b ∉ (env::outer).filterMap (·.frame):=fun z=>by
   obtain⟨_,o',q,r⟩:=ff.mem z;rw[q1] at q;cases q;exact r ws q2
  exact Wy %[|4] ge' dt ⟨o,ws,Heap.get?_push_of_some _ ((sl.2.1 b nb).trans q1),q2,q3⟩
theorem BZ (fr:A.frames=some (env::outer)) (ff:s.heap.FunFrames B (env::outer)) (fl:env.frame=some L)
  (at_:s.heap.get? e=some oe) (st:B.StaysIn s.heap) (nw:B.get? e=none) (dt:oe.data=.fields vs) (v1:vs[1]?=some .none)
  (go:∀ h',Flies B (env::outer) e oe.cls oe.dict (rawInt L) h'->Near s.heap h'->Q () {s with heap:=h'}):wpAny M A (noteFrame (.ref e) env) Q Z s:=by
 unfold noteFrame;simp only[fl];refine wpAny_bind (wpAny_field at_ dt v1 ?_);rw[if_neg %[|4]];exact Uf fr ff fl at_ st nw dt (Array.getElem?_eq_some_iff.mp v1).1 go
theorem JL (fr:A.frames=some (env::outer)) (fl:env.frame=some L) (F:Flies B (env::outer) e cls dd .none s.heap)
  (go:∀ h',Flies B (env::outer) e cls dd (rawInt L) h'->Near s.heap h'->Q () {s with heap:=h'}):wpAny M A (noteFrame (.ref e) env) Q Z s:=by
 obtain⟨st,nw,ff,oe,vs,T,oT,ts,q1,rfl,rfl,q4,q5,q6,q7,q8,q9,q10⟩:=F;unfold noteFrame;simp only[fl];refine wpAny_bind (wpAny_field q1 q4 q5 ?_);rw[if_pos (show (Value.ref T != Value.none)=true from by simp)];refine wpAny_bind (wpAny_field q8 q9 q10 ?_);rw[if_neg (show ¬ ((Value.none==rawInt L)=true) from by simp[rawInt])];refine wpAny_bind (wpAny_setField q8 q9 (Array.getElem?_eq_some_iff.mp q10).1 ?_);have oth:∀ b,b≠T->(s.heap.update T (Obj.mapFields (·.setIfInBounds 3 Value.none))).get? b=s.heap.get? b:=fun b n=>Heap.get?_update_other _ _ (Ne.symm n);have nrec:∀ b o,s.heap.get? b=some o->(∀ ws,o.data≠.fields ws)->b≠T:=fun b o q r z=>by
  rw[z,q8] at q;cases q;exact r ts q9
 refine Uf (s:={s with heap:=s.heap.update T (Obj.mapFields (·.setIfInBounds 3 Value.none))}) fr (ff.of_keeps fun b o q r=>⟨o,(oth b (nrec b o q r)).trans q,rfl⟩) fl ((oth e (Ne.symm q7)).trans q1) (fun b o q=>(oth b fun z=>by rw[z,q6] at q;cases q).trans (st b o q)) nw q4 (Array.getElem?_eq_some_iff.mp q5).1 fun h' x y=>?_;refine go h' x ⟨fun b o q r=>y.1 b o ((oth b (nrec b o q r)).trans q) r,fun b o q=>?_,fun b c=>y.2.2 b (Wy %[|4] q8 q9 c)⟩;by_cases z:b=T
 ·subst z;exact y.2.1 _ _ (Heap.get?_update_self _ q8 (Obj.isFreed_of_fields (Obj.data_mapFields q9 _)))
 ·exact y.2.1 b o ((oth b z).trans q)
theorem Xx (F:Flies B l e cls dd fl s.heap)
  (go:∀ h',Flies B l e cls dd .none h'->Near s.heap h'->Q () {s with heap:=h'}):wpAny M A (setFlight (.ref e) none) Q Z s:=by
 obtain⟨st,nw,ff,oe,vs,T,oT,ts,q1,q2,q3,q4,q5,q6,q7,q8,q9,q10⟩:=F;have sz:=(Array.getElem?_eq_some_iff.mp q10).1;have oth:∀ b,b≠T->(s.heap.update T (Obj.mapFields (·.setIfInBounds 3 ((none:Option Addr).elim Value.none fun f=>rawInt f)))).get? b=s.heap.get? b:=fun b n=>Heap.get?_update_other _ _ (Ne.symm n);have nrec:∀ b o,s.heap.get? b=some o->(∀ ws,o.data≠.fields ws)->b≠T:=fun b o q r z=>by
  rw[z,q8] at q;cases q;exact r ts q9
 unfold setFlight;refine wpAny_bind (wpAny_field q1 q4 q5 ?_);rw[if_pos (show (Value.ref T != Value.none)=true from by simp)];refine wpAny_setField q8 q9 sz (go _ ⟨fun b o q=>(oth b fun z=>by rw[z,q6] at q;cases q).trans (st b o q),nw,ff.of_keeps fun b o q r=>⟨o,(oth b (nrec b o q r)).trans q,rfl⟩,?_⟩ ⟨fun b o q r=>⟨o.slots,(oth b (nrec b o q r)).trans q⟩,fun b o q=>?_,fun b c=>Wy %[|4] q8 q9 c⟩)
 rotate_left
 ·by_cases z:b=T
  ·subst z;exact⟨_,Heap.get?_update_self _ q8 (Obj.isFreed_of_fields (Obj.data_mapFields q9 _))⟩
  ·exact⟨o,(oth b z).trans q⟩
 exact⟨oe,vs,T,_,_,(oth e (Ne.symm q7)).trans q1,q2,q3,q4,q5,q6,q7,Heap.get?_update_self _ q8 (Obj.isFreed_of_fields (Obj.data_mapFields q9 _)),Obj.data_mapFields q9 _,by simp[sz]⟩
theorem Flies.off (F:Flies B (env::outer) e cls dd fl h):Flies B outer e cls dd fl h:=⟨F.stays,F.new,F.frames.2.2,F.tr⟩
theorem Ca (fr:A.frames=some (env::outer)) (fl:env.frame=some L) (F:Flies B (env::outer) e cls dd .none s.heap)
  (go:∀ h',Flies B outer e cls dd .none h'->Near s.heap h'->Q () {s with heap:=h'}):wpAny M A (leaving env (.ref e)) Q Z s:=by
 unfold leaving;exact wpAny_bind (JL fr fl F fun h1 F1 u1=>Xx F1 fun h2 F2 u2=>go h2 F2.off (u1.trans u2))
theorem Aw (fl:env.frame=some L) (F:Flies B (env::outer) e cls dd (rawInt L) s.heap)
  (go:∀ h',Flies B outer e cls dd .none h'->Near s.heap h'->Q () {s with heap:=h'}):wpAny M A (leaving env (.ref e)) Q Z s:=by
 unfold leaving;refine wpAny_bind ?_;obtain⟨oe,vs,T,oT,ts,q1,q2,q3,q4,q5,q6,q7,q8,q9,q10⟩:=F.tr;unfold noteFrame;simp only[fl];refine wpAny_bind (wpAny_field q1 q4 q5 ?_);rw[if_pos (show (Value.ref T != Value.none)=true from by simp)];refine wpAny_bind (wpAny_field q8 q9 q10 ?_);rw[if_pos (show (rawInt L==rawInt L)=true from by simp)];exact wpAny_pure (Xx F fun h2 F2 u2=>go h2 F2.off u2)
structure Made (h h':Heap) (e:Addr) (cls:Value) (dd:Option Addr):Prop where
 keeps:∀ b o,h.get? b=some o->h'.get? b=some o
 new:h.get? e=none
 at_:∃ oe vs,h'.get? e=some oe/\oe.cls=cls/\oe.dict=dd/\oe.data=.fields vs/\vs[1]?=some .none
theorem Made.of (mk:Heap.MadeExcOf h h' e cls vs):Made h h' e cls none :=
 let ⟨_,q1,_,_⟩:=mk.there;⟨mk.keeps,mk.new,_,_,q1,rfl,rfl,rfl,rfl⟩
theorem AA (mk:Heap.MadeExcOf h h' e cls vs):WN h' e:=let ⟨_,q1,_,_⟩:=mk.there;⟨_,_,q1,rfl,rfl⟩
theorem Made.fresh (mk:Made h h' e cls dd) (st:B.StaysIn h):B.get? e=none:=by
 cases q:B.get? e with
 | none=>rfl
 | some o=>have:=st e o q;rw[mk.new] at this;cases this
theorem Ax (fr:A.frames=some (env::outer)) (fl:env.frame=some L) (ff:h.FunFrames B (env::outer)) (st:B.StaysIn h) (mk:Made h s.heap e cls dd)
  (go:∀ h',Flies B outer e cls dd .none h'->Near s.heap h'->Q () {s with heap:=h'}):wpAny M A (leaving env (.ref e)) Q Z s:=by
 obtain⟨oe,vs,q1,rfl,rfl,q4,q5⟩:=mk.at_;unfold leaving;exact wpAny_bind (BZ fr (ff.of_keeps fun b o q _=>⟨o,mk.keeps b o q,rfl⟩) fl q1 (fun b o q=>mk.keeps b o (st b o q)) (mk.fresh st) q4 q5 fun h1 F1 u1=>Xx F1 fun h2 F2 u2=>go h2 F2.off (u1.trans u2))
end
end DL
end
noncomputable section
namespace DL
open PySem PySem.Spec PyProof.Rows L2 PySem.W
section
variable {prog:Program} {w:World} {A:Around} {Z:Value->Shared->Prop} {s:Shared} {K:Frag} {x D:Addr} {ox:Obj} {od:Option Obj} {name:Str}
structure ExcCls (K:Frag) (D:Addr):Prop where
 ga:findIn K (.ref D) "__getattribute__"=some (some (.builtin "BaseException.__getattribute__"))
 hook:findIn K (.ref D) "__getattr__"=some none
 base:mroIn K D (.type "BaseException")=some true
 obj:mroIn K D (.type "object")=some true
 cls:(clsIn K D).isSome=true
 ca:findIn K (.ref D) "__class__"=some (some (.builtin "object.__class__"))
 cg:specialIn K (.builtin "object.__class__") "__get__"=some (some (.builtin "getset_descriptor.__get__"))
 ct:takesIn K (.builtin "object.__class__")=some true
theorem Cd (L4:Looks M s.heap (isInstance (.ref x) (.type "BaseException")) true) (hq:Q () s):wpAny M A (checkBuiltinCall "BaseException.__getattribute__" ⟨[.ref x,nameV],[]⟩) Q Z s:=by
 obtain⟨hh,g,d,t,os⟩:=s;have hk:builtinKind "BaseException.__getattribute__"=some .slot:=by decide +kernel
 have hsplit:splitId "BaseException.__getattribute__"=some ("BaseException","__getattribute__"):=by decide +kernel
 have ha:=PySem.F.args_bexc_ga (.ref x) nameV;simp only[checkBuiltinCall,hk,hsplit];refine wpAny_bind (L4.at ?_)
 repeat (first|assumption|wp_step)
theorem Em {Q:Value->Shared->Prop} {fill expr:Bool} {tk:Tok} (X:K.In s.heap) (I:InstAt s.heap x ox D od) (F:ExcCls K D)
  (h:wpAny (model prog w) A.in1 (Builtin.«object.__getattribute__» ⟨[.ref x,.str name tk],[]⟩)
   (fun fin s'=>match fin with | .done (.ret v)=>wpAny (model prog w) A (handedOut v) Q (fun _ _=>False) s' | _=>False) (fun _ _=>False) s) :
  wpAny (model prog w) A (getAttrBy (.ref x) (.str name tk) fill expr) Q Z s:=by
 obtain⟨hh,g,d,t,os⟩:=s;have L0:=I.type (M:=model prog w);have L1:=looks_findIn (M:=model prog w) X F.ga;have L2:=looks_findIn (M:=model prog w) X F.hook;have L3:=looks_mroIn (M:=model prog w) X F.base;have hx2:(Value.builtin "BaseException.__getattribute__" == Value.builtin "object.__getattribute__")=false:=by decide +kernel
 have tf:typeOf (.builtin "BaseException.__getattribute__")=pure (.type "wrapper_descriptor"):=by kernel_rfl
 unfold getAttrBy;refine wpAny_holding (wpAny_bind (L0.at (wpAny_bind (L1.at ?_))));dsimp only;rw[if_neg (by rw[hx2];simp)];unfold getAttrByItsOwn hookBefore;rw[if_pos (show onTheHeap (Value.ref D)=true from rfl)];refine wpAny_bind (L2.at ?_);unfold callGetattribute;rw[show (expr&&onTheHeap (Value.builtin "BaseException.__getattribute__"))=false from Bool.and_false _,if_neg (by simp)];refine wpAny_bind (wpAny_attempt (wpAny_holding ?_));unfold boundAndCalled bindSpecial;rw[tf];refine wpAny_bind (wpAny_bind (wpAny_pure ?_));rw[if_pos %[|4]];refine wpAny_pure (wpAny_call (codeAny_call_builtin ?pl PySem.F.entry_bexc_ga ?ck))
 case pl=>exact PySem.F.excAttr_ValueError.ga.plain
 case ck =>
  refine Cd (L0.andThen L3) (wpAny_mono h (fun fin s' z=>?_) fun _ _ z=>z.elim);rcases fin with (_|_|_|_)|_<;>first|exact z.elim|exact wpAny_mono z (fun v s'' hv=>hv) fun _ _ z=>z.elim
theorem VC (c:(clsIn K D).isSome=true) (F:ExcCls K D):findObj K D od "__class__"=some (.bind (.builtin "getset_descriptor.__get__") (.builtin "object.__class__")):=by
 obtain⟨cd,hc⟩:=Option.isSome_iff_exists.mp c;unfold findObj;rw[hc,Option.bind_some,F.ca,Option.bind_some];simp[F.cg,F.ct]
theorem Cb {Q:Option Value->Shared->Prop} (X:K.In s.heap) (I:InstAt s.heap x ox D od) (F:ExcCls K D) (h:Q (some (.ref D)) {s with toks:=s.toks+1}):wpAny (model prog w) A (getAttr? (.ref x) "__class__") Q Z s:=by
 unfold getAttr? getAttrBy?;refine wpAny_bind (wpAny_mkText (wpAny_bind (wpAny_attempt (Em (s:={s with toks:=s.toks+1}) X I F ?_))));obtain⟨hh,g,d,t,os⟩:=s;have L0:=I.type (M:=model prog w);have L1:=looks_find (M:=model prog w) X I (VC F.cls F);unfold Builtin.«object.__getattribute__»;refine wpAny_bind (wpAny_pure (wpAny_bind ?_));show wpAny _ _ (pure _) _ _ _;refine wpAny_pure (wpAny_bind (L0.at (wpAny_bind (L1.at ?_))));dsimp only;unfold Builtin.ObjectAttr.bindTo;refine wpAny_bind (wpAny_holding (wpAny_call (class_get (s:=⟨hh,g,d,t+1,os⟩) X I F.obj ?_)));refine wpAny_pure ?_;show wpAny _ _ (handedOut (.ref D)) _ _ _;refine wpAny_pure (wpAny_pure ?_);exact h
theorem Wb (F:ExcCls K D):KitX K (.ref x) (.ref D) (fun h=>∃ ox od,InstAt h x ox D od) where
 ty:=fun _ _ _ ⟨_,_,I⟩=>I.type
 it:=fun M h X _=>by
  obtain⟨cd,hc⟩:=Option.isSome_iff_exists.mp F.cls;unfold clsIn at hc;split at hc
  ·rename_i ho
   intro A' Q' E' s' k q;unfold isType loadHead;exact wpAny_bind (wpAny_loadPart (k _ _ (X _ _ ho)) (wpAny_pure q))
  ·cases hc
 ne:=fun h tp dd its n sl X htp=>by
  obtain⟨cd,hc⟩:=Option.isSome_iff_exists.mp F.cls;refine Bool.eq_false_iff.mpr fun q=>?_;obtain rfl:D=tp:=Value.ref.inj (beq_iff_eq.mp q);unfold clsIn at hc;split at hc
  ·rename_i ho
   have z:=(X _ _ ho).symm.trans htp;cases z
  ·cases hc
 ca:=fun X ⟨_,_,I⟩ k=>Cb X I F k
end
noncomputable def xPlain:List Str:=["NoNumber","NoTube","NoRow","NoMeasure","NoData","NoPrice","NoNeeds","NoRoom","NoJobs"]
noncomputable def xInit:List Str:=["NoText","NoLevel","NoCall","NoKept"]
noncomputable def xNames:List Str:="CordError" :: (xPlain++xInit)
noncomputable def YD (n c:Str):Bool:=decide (n=c) || decide (c="CordError")
noncomputable def bmV:List Value:=[.type "ValueError",.type "Exception",.type "BaseException",.type "object"]
noncomputable def XR (K:Frag) (n:Str):Option Addr:=match nsIn K mainGlobals n with|some (some (.ref C))=>some C|_=>none
noncomputable def Bg (K:Frag) (D:Addr):Bool :=
 (findIn K (.ref D) "__getattribute__" == some (some (.builtin "BaseException.__getattribute__")))&&(findIn K (.ref D) "__getattr__" == some none)&&(mroIn K D (.type "BaseException")==some true)&&(mroIn K D (.type "object")==some true)&&(clsIn K D).isSome
 && (findIn K (.ref D) "__class__" == some (some (.builtin "object.__class__")))&&(specialIn K (.builtin "object.__class__") "__get__" == some (some (.builtin "getset_descriptor.__get__")))&&(takesIn K (.builtin "object.__class__")==some true)
noncomputable def Cv (K:Frag):Bool:=xNames.all fun n=>match XR K n with
 | none=>true
 | some D=>Bg K D&&(!(xPlain.contains n) || excIn K D bmV "ValueError.__new__")&&(kitOne K (.ref D) (.type "ValueError")==some true)&&(["int","bool","str","tuple","list","dict"].all fun T=>kitOne K (.ref D) (.type T)==some false)&&xNames.all fun c=>match XR K c with
  | none=>true
  | some C=>(exmOne K (.ref D) (.ref C)==some (YD n c))&&(kitOne K (.ref D) (.ref C)==some (YD n c))
noncomputable def oNames:List Str:=["Funnel"]
noncomputable def oFields:List Str:=["places","touches","showing"]
noncomputable def GM (K:Frag):Bool:=oNames.all fun n=>match XR K n with
 | none=>true
 | some C=>plainGet K C Str.empty&&hasDictIn K C&&plainOver K C&&(findIn K (.ref C) "__setattr__" == some (some (.builtin "object.__setattr__")))&&oFields.all fun f=>findIn K (.ref C) f==some none
noncomputable def YS (K:Frag) (n:Str) (C:Addr):Prop:=nsIn K mainGlobals n=some (some (.ref C))
section
variable {K:Frag} {n c:Str} {C D:Addr}
theorem Wj (h:YS K n D):XR K n=some D:=by unfold XR;rw[show nsIn K mainGlobals n=some (some (.ref D)) from h]
end
end DL
end
noncomputable section
namespace DL
open PySem PySem.Spec PyProof.Rows L2 PySem.W PySem.Builtin PySem.Builtin.ObjectAttr
theorem Y4 {c:Prop} [Decidable c] {f:c->Bool} (h:(if h:c then f h else false)=true):∃ h:c,f h=true:=by
 by_cases z:c
 ·rw[dif_pos z] at h;exact⟨z,h⟩
 ·rw[dif_neg z] at h;cases h
noncomputable def Yx (x:Expr) (q:Str->Pos->Bool):Bool:=if h:x.ctorIdx=23 then @Expr.Name.elim (fun _=>Bool) x h q else false
@[elab_as_elim] theorem gNm {P:Expr->Prop} (x) {q} (h:Yx x q) (k:∀ a b,q a b->P (.Name a b)):P x:=(Y4 h).elim fun i j=>@Expr.Name.elim (fun x=>∀ i,@Expr.Name.elim (fun _=>Bool) x i q->P x) x i (fun a b _=>k a b) i j
noncomputable def Zu (x:Expr) (q:Const->Nat->Pos->Bool):Bool:=if h:x.ctorIdx=19 then @Expr.Constant.elim (fun _=>Bool) x h q else false
@[elab_as_elim] theorem gConstant {P:Expr->Prop} (x) {q} (h:Zu x q) (k:∀ a b c,q a b c->P (.Constant a b c)):P x:=(Y4 h).elim fun i j=>@Expr.Constant.elim (fun x=>∀ i,@Expr.Constant.elim (fun _=>Bool) x i q->P x) x i (fun a b c _=>k a b c) i j
noncomputable def CZ (x:Expr) (q:Expr->Operator->Expr->Pos->Bool):Bool:=if h:x.ctorIdx=2 then @Expr.BinOp.elim (fun _=>Bool) x h q else false
@[elab_as_elim] theorem gBinOp {P:Expr->Prop} (x) {q} (h:CZ x q) (k:∀ a b c d,q a b c d->P (.BinOp a b c d)):P x:=(Y4 h).elim fun i j=>@Expr.BinOp.elim (fun x=>∀ i,@Expr.BinOp.elim (fun _=>Bool) x i q->P x) x i (fun a b c d _=>k a b c d) i j
noncomputable def Vl (x:Expr) (q:UnaryOp->Expr->Pos->Bool):Bool:=if h:x.ctorIdx=3 then @Expr.UnaryOp.elim (fun _=>Bool) x h q else false
@[elab_as_elim] theorem gUnaryOp {P:Expr->Prop} (x) {q} (h:Vl x q) (k:∀ a b c,q a b c->P (.UnaryOp a b c)):P x:=(Y4 h).elim fun i j=>@Expr.UnaryOp.elim (fun x=>∀ i,@Expr.UnaryOp.elim (fun _=>Bool) x i q->P x) x i (fun a b c _=>k a b c) i j
noncomputable def Vm (x:Expr) (q:Expr->(List CmpOp)->(List Expr)->Pos->Bool):Bool:=if h:x.ctorIdx=15 then @Expr.Compare.elim (fun _=>Bool) x h q else false
@[elab_as_elim] theorem gCompare {P:Expr->Prop} (x) {q} (h:Vm x q) (k:∀ a b c d,q a b c d->P (.Compare a b c d)):P x:=(Y4 h).elim fun i j=>@Expr.Compare.elim (fun x=>∀ i,@Expr.Compare.elim (fun _=>Bool) x i q->P x) x i (fun a b c d _=>k a b c d) i j
noncomputable def WT (x:Expr) (q:BoolOp->(List Expr)->Pos->Bool):Bool:=if h:x.ctorIdx=0 then @Expr.BoolOp.elim (fun _=>Bool) x h q else false
@[elab_as_elim] theorem gBoolOp {P:Expr->Prop} (x) {q} (h:WT x q) (k:∀ a b c,q a b c->P (.BoolOp a b c)):P x:=(Y4 h).elim fun i j=>@Expr.BoolOp.elim (fun x=>∀ i,@Expr.BoolOp.elim (fun _=>Bool) x i q->P x) x i (fun a b c _=>k a b c) i j
noncomputable def CV (x:Expr) (q:Expr->Expr->Expr->Pos->Bool):Bool:=if h:x.ctorIdx=5 then @Expr.IfExp.elim (fun _=>Bool) x h q else false
@[elab_as_elim] theorem gIfExp {P:Expr->Prop} (x) {q} (h:CV x q) (k:∀ a b c d,q a b c d->P (.IfExp a b c d)):P x:=(Y4 h).elim fun i j=>@Expr.IfExp.elim (fun x=>∀ i,@Expr.IfExp.elim (fun _=>Bool) x i q->P x) x i (fun a b c d _=>k a b c d) i j
noncomputable def X6 (x:Expr) (q:(List Expr)->Nat->Pos->Bool):Bool:=if h:x.ctorIdx=25 then @Expr.Tuple.elim (fun _=>Bool) x h q else false
@[elab_as_elim] theorem gTuple {P:Expr->Prop} (x) {q} (h:X6 x q) (k:∀ a b c,q a b c->P (.Tuple a b c)):P x:=(Y4 h).elim fun i j=>@Expr.Tuple.elim (fun x=>∀ i,@Expr.Tuple.elim (fun _=>Bool) x i q->P x) x i (fun a b c _=>k a b c) i j
noncomputable def GJ (x:Expr) (q:(List Expr)->Pos->Bool):Bool:=if h:x.ctorIdx=24 then @Expr.List.elim (fun _=>Bool) x h q else false
@[elab_as_elim] theorem gList {P:Expr->Prop} (x) {q} (h:GJ x q) (k:∀ a b,q a b->P (.List a b)):P x:=(Y4 h).elim fun i j=>@Expr.List.elim (fun x=>∀ i,@Expr.List.elim (fun _=>Bool) x i q->P x) x i (fun a b _=>k a b) i j
noncomputable def X7 (x:Expr) (q:Expr->Expr->Pos->Bool):Bool:=if h:x.ctorIdx=21 then @Expr.Subscript.elim (fun _=>Bool) x h q else false
@[elab_as_elim] theorem gSubscript {P:Expr->Prop} (x) {q} (h:X7 x q) (k:∀ a b c,q a b c->P (.Subscript a b c)):P x:=(Y4 h).elim fun i j=>@Expr.Subscript.elim (fun x=>∀ i,@Expr.Subscript.elim (fun _=>Bool) x i q->P x) x i (fun a b c _=>k a b c) i j
noncomputable def CU (x:Expr) (q:(Option Expr)->(Option Expr)->(Option Expr)->Pos->Bool):Bool:=if h:x.ctorIdx=26 then @Expr.Slice.elim (fun _=>Bool) x h q else false
@[elab_as_elim] theorem gSlice {P:Expr->Prop} (x) {q} (h:CU x q) (k:∀ a b c d,q a b c d->P (.Slice a b c d)):P x:=(Y4 h).elim fun i j=>@Expr.Slice.elim (fun x=>∀ i,@Expr.Slice.elim (fun _=>Bool) x i q->P x) x i (fun a b c d _=>k a b c d) i j
noncomputable def Zo (x:Expr) (q:Expr->(List Expr)->(List Keyword)->Pos->Bool):Bool:=if h:x.ctorIdx=16 then @Expr.Call.elim (fun _=>Bool) x h q else false
@[elab_as_elim] theorem gCall {P:Expr->Prop} (x) {q} (h:Zo x q) (k:∀ a b c d,q a b c d->P (.Call a b c d)):P x:=(Y4 h).elim fun i j=>@Expr.Call.elim (fun x=>∀ i,@Expr.Call.elim (fun _=>Bool) x i q->P x) x i (fun a b c d _=>k a b c d) i j
noncomputable def YW (x:Expr) (q:Expr->Str->Pos->Bool):Bool:=if h:x.ctorIdx=20 then @Expr.Attribute.elim (fun _=>Bool) x h q else false
@[elab_as_elim] theorem gAttribute {P:Expr->Prop} (x) {q} (h:YW x q) (k:∀ a b c,q a b c->P (.Attribute a b c)):P x:=(Y4 h).elim fun i j=>@Expr.Attribute.elim (fun x=>∀ i,@Expr.Attribute.elim (fun _=>Bool) x i q->P x) x i (fun a b c _=>k a b c) i j
noncomputable def U2 (x:Expr) (q:Expr->(List Comprehension)->Scope->Pos->Bool):Bool:=if h:x.ctorIdx=8 then @Expr.ListComp.elim (fun _=>Bool) x h q else false
@[elab_as_elim] theorem gListComp {P:Expr->Prop} (x) {q} (h:U2 x q) (k:∀ a b c d,q a b c d->P (.ListComp a b c d)):P x:=(Y4 h).elim fun i j=>@Expr.ListComp.elim (fun x=>∀ i,@Expr.ListComp.elim (fun _=>Bool) x i q->P x) x i (fun a b c d _=>k a b c d) i j
noncomputable def qMk (x:Comprehension) (q:Expr->Expr->(List Expr)->Int->Bool):Bool:=match x with | .mk a b c d=>q a b c d
@[elab_as_elim] theorem gMk {P:Comprehension->Prop} (x) {q} (h:qMk x q) (k:∀ a b c d,q a b c d->P (.mk a b c d)):P x:=by
 cases x with
 | mk a b c d=>exact k a b c d h
noncomputable def qInt (x:Const) (q:Int->Bool):Bool:=if h:x.ctorIdx=2 then @Const.int.elim (fun _=>Bool) x h q else false
@[elab_as_elim] theorem gInt {P:Const->Prop} (x) {q} (h:qInt x q) (k:∀ a,q a->P (.int a)):P x:=(Y4 h).elim fun i j=>@Const.int.elim (fun x=>∀ i,@Const.int.elim (fun _=>Bool) x i q->P x) x i (fun a _=>k a) i j
noncomputable def GK (x:Const) (q:Bool->Bool):Bool:=if h:x.ctorIdx=1 then @Const.bool.elim (fun _=>Bool) x h q else false
@[elab_as_elim] theorem gBool {P:Const->Prop} (x) {q} (h:GK x q) (k:∀ a,q a->P (.bool a)):P x:=(Y4 h).elim fun i j=>@Const.bool.elim (fun x=>∀ i,@Const.bool.elim (fun _=>Bool) x i q->P x) x i (fun a _=>k a) i j
noncomputable def qStr (x:Const) (q:Str->Bool):Bool:=if h:x.ctorIdx=5 then @Const.str.elim (fun _=>Bool) x h q else false
@[elab_as_elim] theorem gStr {P:Const->Prop} (x) {q} (h:qStr x q) (k:∀ a,q a->P (.str a)):P x:=(Y4 h).elim fun i j=>@Const.str.elim (fun x=>∀ i,@Const.str.elim (fun _=>Bool) x i q->P x) x i (fun a _=>k a) i j
noncomputable def CY (x:Const) (q:Bool):Bool:=if h:x.ctorIdx=0 then @Const.none.elim (fun _=>Bool) x h q else false
@[elab_as_elim] theorem gCnone {P:Const->Prop} (x) {q} (h:CY x q) (k:q->P .none):P x:=(Y4 h).elim fun i j=>@Const.none.elim (fun x=>∀ i,@Const.none.elim (fun _=>Bool) x i q->P x) x i (fun _=>k) i j
noncomputable def GI (x:UnaryOp) (q:Bool):Bool:=if h:x.ctorIdx=3 then @UnaryOp.USub.elim (fun _=>Bool) x h q else false
@[elab_as_elim] theorem gUSub {P:UnaryOp->Prop} (x) {q} (h:GI x q) (k:q->P .USub):P x:=(Y4 h).elim fun i j=>@UnaryOp.USub.elim (fun x=>∀ i,@UnaryOp.USub.elim (fun _=>Bool) x i q->P x) x i (fun _=>k) i j
noncomputable def qNot (x:UnaryOp) (q:Bool):Bool:=if h:x.ctorIdx=1 then @UnaryOp.Not.elim (fun _=>Bool) x h q else false
@[elab_as_elim] theorem gNot {P:UnaryOp->Prop} (x) {q} (h:qNot x q) (k:q->P .Not):P x:=(Y4 h).elim fun i j=>@UnaryOp.Not.elim (fun x=>∀ i,@UnaryOp.Not.elim (fun _=>Bool) x i q->P x) x i (fun _=>k) i j
noncomputable def qAnd (x:BoolOp) (q:Bool):Bool:=if h:x.ctorIdx=0 then @BoolOp.And.elim (fun _=>Bool) x h q else false
@[elab_as_elim] theorem gAnd {P:BoolOp->Prop} (x) {q} (h:qAnd x q) (k:q->P .And):P x:=(Y4 h).elim fun i j=>@BoolOp.And.elim (fun x=>∀ i,@BoolOp.And.elim (fun _=>Bool) x i q->P x) x i (fun _=>k) i j
noncomputable def qOr (x:BoolOp) (q:Bool):Bool:=if h:x.ctorIdx=1 then @BoolOp.Or.elim (fun _=>Bool) x h q else false
@[elab_as_elim] theorem gOr {P:BoolOp->Prop} (x) {q} (h:qOr x q) (k:q->P .Or):P x:=(Y4 h).elim fun i j=>@BoolOp.Or.elim (fun x=>∀ i,@BoolOp.Or.elim (fun _=>Bool) x i q->P x) x i (fun _=>k) i j
noncomputable def qNil {α:Type} (x:List α) (q:Bool):Bool:=if h:x.ctorIdx=0 then @List.nil.elim α (fun _=>Bool) x h q else false
@[elab_as_elim] theorem gNil {α:Type} {P:List α->Prop} (x) {q} (h:qNil x q) (k:q->P .nil):P x:=(Y4 h).elim fun i j=>@List.nil.elim α (fun x=>∀ i,@List.nil.elim α (fun _=>Bool) x i q->P x) x i (fun _=>k) i j
noncomputable def Yb {α:Type} (x:List α) (q:α->(List α)->Bool):Bool:=if h:x.ctorIdx=1 then @List.cons.elim α (fun _=>Bool) x h q else false
@[elab_as_elim] theorem Y9 {α:Type} {P:List α->Prop} (x) {q} (h:Yb x q) (k:∀ a b,q a b->P (.cons a b)):P x:=(Y4 h).elim fun i j=>@List.cons.elim α (fun x=>∀ i,@List.cons.elim α (fun _=>Bool) x i q->P x) x i (fun a b _=>k a b) i j
noncomputable def Jn {α:Type} (x:Option α) (q:Bool):Bool:=if h:x.ctorIdx=0 then @Option.none.elim α (fun _=>Bool) x h q else false
@[elab_as_elim] theorem gNone {α:Type} {P:Option α->Prop} (x) {q} (h:Jn x q) (k:q->P .none):P x:=(Y4 h).elim fun i j=>@Option.none.elim α (fun x=>∀ i,@Option.none.elim α (fun _=>Bool) x i q->P x) x i (fun _=>k) i j
noncomputable def Jm {α:Type} (x:Option α) (q:α->Bool):Bool:=if h:x.ctorIdx=1 then @Option.some.elim α (fun _=>Bool) x h q else false
@[elab_as_elim] theorem gSome {α:Type} {P:Option α->Prop} (x) {q} (h:Jm x q) (k:∀ a,q a->P (.some a)):P x:=(Y4 h).elim fun i j=>@Option.some.elim α (fun x=>∀ i,@Option.some.elim α (fun _=>Bool) x i q->P x) x i (fun a _=>k a) i j
noncomputable def XE (x:Stmt) (q:(List Expr)->Expr->Pos->Bool):Bool:=if h:x.ctorIdx=5 then @Stmt.Assign.elim (fun _=>Bool) x h q else false
@[elab_as_elim] theorem gAssign {P:Stmt->Prop} (x) {q} (h:XE x q) (k:∀ a b c,q a b c->P (.Assign a b c)):P x:=(Y4 h).elim fun i j=>@Stmt.Assign.elim (fun x=>∀ i,@Stmt.Assign.elim (fun _=>Bool) x i q->P x) x i (fun a b c _=>k a b c) i j
noncomputable def AW (x:Stmt) (q:(Option Expr)->Pos->Bool):Bool:=if h:x.ctorIdx=3 then @Stmt.Return.elim (fun _=>Bool) x h q else false
@[elab_as_elim] theorem gReturn {P:Stmt->Prop} (x) {q} (h:AW x q) (k:∀ a b,q a b->P (.Return a b)):P x:=(Y4 h).elim fun i j=>@Stmt.Return.elim (fun x=>∀ i,@Stmt.Return.elim (fun _=>Bool) x i q->P x) x i (fun a b _=>k a b) i j
noncomputable def Vn (x:Stmt) (q:Expr->Operator->Expr->Pos->Bool):Bool:=if h:x.ctorIdx=7 then @Stmt.AugAssign.elim (fun _=>Bool) x h q else false
@[elab_as_elim] theorem gAugAssign {P:Stmt->Prop} (x) {q} (h:Vn x q) (k:∀ a b c d,q a b c d->P (.AugAssign a b c d)):P x:=(Y4 h).elim fun i j=>@Stmt.AugAssign.elim (fun x=>∀ i,@Stmt.AugAssign.elim (fun _=>Bool) x i q->P x) x i (fun a b c d _=>k a b c d) i j
noncomputable def qFor (x:Stmt) (q:Expr->Expr->(List Stmt)->(List Stmt)->Pos->Bool):Bool:=if h:x.ctorIdx=9 then @Stmt.For.elim (fun _=>Bool) x h q else false
@[elab_as_elim] theorem gFor {P:Stmt->Prop} (x) {q} (h:qFor x q) (k:∀ a b c d e,q a b c d e->P (.For a b c d e)):P x:=(Y4 h).elim fun i j=>@Stmt.For.elim (fun x=>∀ i,@Stmt.For.elim (fun _=>Bool) x i q->P x) x i (fun a b c d e _=>k a b c d e) i j
noncomputable def CT (x:Stmt) (q:Expr->(List Stmt)->(List Stmt)->Pos->Bool):Bool:=if h:x.ctorIdx=11 then @Stmt.While.elim (fun _=>Bool) x h q else false
@[elab_as_elim] theorem gWhile {P:Stmt->Prop} (x) {q} (h:CT x q) (k:∀ a b c d,q a b c d->P (.While a b c d)):P x:=(Y4 h).elim fun i j=>@Stmt.While.elim (fun x=>∀ i,@Stmt.While.elim (fun _=>Bool) x i q->P x) x i (fun a b c d _=>k a b c d) i j
noncomputable def qIf (x:Stmt) (q:Expr->(List Stmt)->(List Stmt)->Pos->Bool):Bool:=if h:x.ctorIdx=12 then @Stmt.If.elim (fun _=>Bool) x h q else false
@[elab_as_elim] theorem gIf {P:Stmt->Prop} (x) {q} (h:qIf x q) (k:∀ a b c d,q a b c d->P (.If a b c d)):P x:=(Y4 h).elim fun i j=>@Stmt.If.elim (fun x=>∀ i,@Stmt.If.elim (fun _=>Bool) x i q->P x) x i (fun a b c d _=>k a b c d) i j
noncomputable def Ad (x:Stmt) (q:(Option Expr)->(Option Expr)->Pos->Bool):Bool:=if h:x.ctorIdx=16 then @Stmt.Raise.elim (fun _=>Bool) x h q else false
@[elab_as_elim] theorem gRaise {P:Stmt->Prop} (x) {q} (h:Ad x q) (k:∀ a b c,q a b c->P (.Raise a b c)):P x:=(Y4 h).elim fun i j=>@Stmt.Raise.elim (fun x=>∀ i,@Stmt.Raise.elim (fun _=>Bool) x i q->P x) x i (fun a b c _=>k a b c) i j
noncomputable def qTry (x:Stmt) (q:(List Stmt)->(List ExceptHandler)->(List Stmt)->(List Stmt)->Pos->Bool):Bool:=if h:x.ctorIdx=17 then @Stmt.Try.elim (fun _=>Bool) x h q else false
@[elab_as_elim] theorem gTry {P:Stmt->Prop} (x) {q} (h:qTry x q) (k:∀ a b c d e,q a b c d e->P (.Try a b c d e)):P x:=(Y4 h).elim fun i j=>@Stmt.Try.elim (fun x=>∀ i,@Stmt.Try.elim (fun _=>Bool) x i q->P x) x i (fun a b c d e _=>k a b c d e) i j
noncomputable def CW (x:Stmt) (q:Expr->Pos->Bool):Bool:=if h:x.ctorIdx=24 then @Stmt.Expr.elim (fun _=>Bool) x h q else false
@[elab_as_elim] theorem gExpr {P:Stmt->Prop} (x) {q} (h:CW x q) (k:∀ a b,q a b->P (.Expr a b)):P x:=(Y4 h).elim fun i j=>@Stmt.Expr.elim (fun x=>∀ i,@Stmt.Expr.elim (fun _=>Bool) x i q->P x) x i (fun a b _=>k a b) i j
noncomputable def Xp (x:ExceptHandler) (q:(Option Expr)->(Option Str)->(List Stmt)->Pos->Bool):Bool:=match x with | .ExceptHandler a b c d=>q a b c d
@[elab_as_elim] theorem gExceptHandler {P:ExceptHandler->Prop} (x) {q} (h:Xp x q) (k:∀ a b c d,q a b c d->P (.ExceptHandler a b c d)):P x:=by
 cases x with
 | ExceptHandler a b c d=>exact k a b c d h
section
variable {prog:Program} {w:World} {A:Around} {E:Value->Shared->Prop} {h:Heap} {g:Array GenState} {d:Drawn} {t:Nat} {os:OsState}
variable {nm q:Str} {C N:Addr} {bs bm bmB bmN:List Value} {hdct:Bool} {sn:List Str} {sub:List Value} {ab:Bool} {col:Option Bool} {dd:Option Addr} {k0 k1 k2 k3 k5:Option Value} {B Bn newId nid initId inN:String}
theorem WO (Fn:ExcBaseFacts Bn newId inN bmN) (hBn:bmB.contains (.type Bn)=true) (F:ExcBaseFacts B nid initId bmB) (T:OwnTail h bmB bm) {mN:Str->Option Value} {rest:List Value} {fI:Addr} {oI:Obj} {Q:Fin->Shared->Prop}
  (hC:h.get? C=some (excClassObj nm q C N bs bm hdct sn sub ab col dd k0 k1 k2 k3 k5 newId)) (hn:h.Ns N mN) (hi:mN "__init__"=some (.ref fI)) (hfI:h.get? fI=some oI) (hfc:oI.cls=.type "function")
  (hq:∀ h' e,Heap.MadeExcOf h h' e (.ref C) rest->wpAny (model prog w) A (call (.ref fI) (.ref e::rest)) (fun r s'=>r=.none/\Q (.done (.ret (.ref e))) s') E ⟨h',g,d,t,os⟩) (hrest:rest.length<=sizeLine) :
  wpAny (model prog w) A (Builtin.«type.__call__» ⟨.ref C::rest,[]⟩) Q E ⟨h,g,d,t,os⟩:=by
 repeat (first|with_reducible refine wpAny_loadPart_at hC ?_|with_reducible refine wpAny_madeBy_exc hC ?_|wp_step)
 refine codeAny_call_builtin_code (Code.quiet_builtin _ Fn.quiet) (wpAny_check_new_subU Fn hBn T hC ?_);refine codeAny_exc_new_subU Fn hBn F T hC ?_ hrest;show wpAny _ _ _ _ _ _;have hC₁:=Heap.get?_push_of_some {cls:=.ref C,data:=.fields #[.ref h.objs.size,.none,.none,.none,.bool false,.none]}
  (Heap.get?_push_of_some {cls:=.type "tuple",data:=.seq rest.toArray} hC)
 have hfI₁:=Heap.get?_push_of_some {cls:=.ref C,data:=.fields #[.ref h.objs.size,.none,.none,.none,.bool false,.none]}
  (Heap.get?_push_of_some {cls:=.type "tuple",data:=.seq rest.toArray} hfI)
 have hn₁:((h.push {cls:=.type "tuple",data:=.seq rest.toArray}).push {cls:=.ref C,data:=.fields #[.ref h.objs.size,.none,.none,.none,.bool false,.none]}).Ns N mN :=
  let ⟨o,es,ep,e,r⟩:=hn;⟨o,es,ep,Heap.get?_push_of_some _ (Heap.get?_push_of_some _ e),r⟩
 have hget:((h.push {cls:=.type "tuple",data:=.seq rest.toArray}).push
   {cls:=.ref C,data:=.fields #[.ref h.objs.size,.none,.none,.none,.bool false,.none]}).get? (h.objs.size+1)=some
   {cls:=.ref C,data:=.fields #[.ref h.objs.size,.none,.none,.none,.bool false,.none]}:=by heap_get
 have hcC:(Value.ref C::bm).contains (.ref C)=true:=by simp
 have T₁:=T.keeps (h':=(h.push {cls:=.type "tuple",data:=.seq rest.toArray}).push {cls:=.ref C,data:=.fields #[.ref h.objs.size,.none,.none,.none,.bool false,.none]})
  fun b o e=>Heap.get?_push_of_some _ (Heap.get?_push_of_some _ e)
 unfold isInstance
 repeat (first|with_reducible refine wpAny_loadPart_at hget ?_|(with_reducible refine wpAny_isSubtype_exc hC₁ ?_;rw[hcC])|wp_step)
 show wpAny _ _ (typeLookup (.ref C) _) _ _ _;refine wpAny_typeLookup_tail hC₁ hn₁ T₁ F.mroIs F.init.lookup ?_;rw[hi];refine wpAny_holding (wpAny_bind ?_);unfold bindSpecial;refine wpAny_bind (wpAny_typeOf (T:="function") ⟨_,hfI₁,hfc⟩ ?_);rw[if_pos %[|4]];refine wpAny_pure (wpAny_bind (wpAny_mono (hq _ (h.objs.size+1) ⟨fun b o hb=>Heap.get?_push_of_some _ (Heap.get?_push_of_some _ hb),Heap.get?_none_of_le (Nat.le_succ _),h.objs.size,hget,Heap.get?_none_of_le %[|3],?_⟩) (fun r s' hr=>?_) fun _ _ x=>x))
 ·exact Heap.get?_push_of_some _ (Heap.get?_push_at rfl rfl)
 ·obtain⟨rfl,hQ⟩:=hr
  wp_walk
  exact hQ
theorem VJ (Fn:ExcBaseFacts Bn newId inN bmN) (hBn:bmB.contains (.type Bn)=true) (F:ExcBaseFacts B nid initId bmB) (T:OwnTail h bmB bm) {mN:Str->Option Value} {rest:List Value} {fI:Addr} {oI:Obj} {Q:Value->Shared->Prop}
  (hC:h.get? C=some (excClassObj nm q C N bs bm hdct sn sub ab col dd k0 k1 k2 k3 k5 newId)) (hn:h.Ns N mN) (hi:mN "__init__"=some (.ref fI)) (hfI:h.get? fI=some oI) (hfc:oI.cls=.type "function")
  (hq:∀ h' e,Heap.MadeExcOf h h' e (.ref C) rest->wpAny (model prog w) (A.under (.builtin "type.__call__" ⟨.ref C::rest,[]⟩)) (call (.ref fI) (.ref e::rest)) (fun r s'=>r=.none/\Q (.ref e) s') E ⟨h',g,d,t,os⟩) (hrest:rest.length<=sizeLine) :
  wpAny (model prog w) A (call (.ref C) rest) Q E ⟨h,g,d,t,os⟩:=by
 have f1:=tc_lookup;have f2:=tc_bind (.ref C);have hT:(⟨h,g,d,t,os⟩:Shared).TypeIs (.ref C) "type":=⟨_,hC,rfl⟩;refine wpAny_call (codeAny_of_tree ?_);show wpAny _ _ (callAny (.ref C) _) _ _ _
 repeat (any_goals (first|assumption|with_reducible refine wpAny_loadPart_at hC ?_|wp_step))
 refine⟨rfl,?_⟩;exact codeAny_call_builtin_at (Code.quiet_builtin _ (by decide +kernel)) entry_typeCall (wpAny_check_type_call_sub hC (WO Fn hBn F T hC hn hi hfI hfc (fun h' e hm=>hq h' e hm) hrest))
theorem DU (F:ExcBaseFacts B nid initId bmB) (T:OwnTail h bmB bm) {e t0:Addr} {ob:Obj} {vs:Array Value} {rest:List Value} {Q:Value->Shared->Prop}
  (hC:h.get? C=some (excClassObj nm q C N bs bm hdct sn sub ab col dd k0 k1 k2 k3 k5 newId)) (he:h.get? e=some ob) (hcls:ob.cls=.ref C) (hd:ob.data=.fields vs) (h0:vs[0]?=some (.ref t0))
  (hq:Q .none ⟨(h.push {cls:=.type "tuple",data:=.seq rest.toArray}).update e (Obj.mapFields (·.setIfInBounds 0 (.ref h.objs.size))),g,d,t,os⟩) (hrest:rest.length<=sizeLine) :
  wpAny (model prog w) A (call (.builtin initId) (.ref e::rest)) Q E ⟨h,g,d,t,os⟩:=by
 refine wpAny_call (codeAny_call_builtin F.init.plain F.initEntry (wpAny_check_init_subU F T hC he hcls ?_));unfold Builtin.«BaseException.__init__»;dsimp only;rw[if_neg (by simp)];unfold newTuple Builtin.BaseException.bexcPut;have hsz:0<vs.size:=(Array.getElem?_eq_some_iff.mp h0).1;have he₁:=Heap.get?_push_of_some (h:=h) {cls:=.type "tuple",data:=.seq rest.toArray} he;refine wpAny_bind (wpAny_newObj_type (wpAny_bind (wpAny_bind (wpAny_field he₁ hd h0 (wpAny_bind (wpAny_setField he₁ hd hsz ?_))))) (by show rest.toArray.size<=sizeLine;rw[List.size_toArray];exact hrest));exact wpAny_letGo (wpAny_pure hq)
theorem BG (hbase:bm.contains (.type "BaseException")=true) (hh:A.handled=none)
  (hx:wpAny M A x (fun v s₁=>∃ e ob vs,v=.ref e/\s₁.heap.get? C=some (excClassObj nm q C N bs bm hdct sn sub ab col dd k0 k1 k2 k3 k5 newId)/\s₁.heap.get? e=some ob/\ob.cls=.ref C/\ob.data=.fields vs/\vs[1]?=some .none/\E (.ref e) s₁) E s) :
  wpAny M A (raiseStmt env (some x) none) Q E s:=by
 have hcB:(Value.ref C::bm).contains (.type "BaseException")=true:=by rw[List.contains_cons,hbase,Bool.or_true]
 unfold raiseStmt;refine wpAny_bind (wpAny_mono hx (fun v s₁ h₁=>?_) fun _ _ x=>x);obtain⟨e,⟨oc,od,odt,osl⟩,vs,rfl,hC,he,hc,hdt,hv,hE⟩:=h₁;dsimp only at hc hdt;subst hc hdt;obtain⟨hp,g,d,tk,os⟩:=s₁
 repeat (first|with_reducible refine wpAny_loadPart_at he ?_|with_reducible refine wpAny_loadPart_at hC ?_|(with_reducible refine wpAny_isSubtype_exc hC ?_;rw[hcB])|wp_step)
 rw[hv];refine wpAny_pure ?_;rw[if_neg (by simp)];exact wpAny_pure (wpAny_raiseNew_none hh hE)
theorem Wo {env:Env} {s:Shared} (Fn:ExcBaseFacts Bn newId inN bmN) (hBn:bmB.contains (.type Bn)=true) (F:ExcBaseFacts B nid initId bmB) {mN:Str->Option Value} {x:Str} {np cpos pos:Pos} {args:List Expr} {fI:Addr} {Q:Flow->Shared->Prop}
  (hbase:bm.contains (.type "BaseException")=true) (hh:A.handled=none) (hplain:(backTo cpos (starEach args env)).any (·.1)=false) (hni:mN "__init__"=some (.ref fI))
  (hx:wpAny (model prog w) A (eval (.Name x np) env) (fun f s₁=>f=.ref C/\wpAny (model prog w) A (evalArgs (.ref C) true (backTo cpos (starEach args env)) [])
   (fun a s₂=>a.kw=[]/\a.pos.length<=sizeLine/\s₂.heap.get? C=some (excClassObj nm q C N bs bm hdct sn sub ab col dd k0 k1 k2 k3 k5 newId)/\s₂.heap.Ns N mN/\OwnTail s₂.heap bmB bm/\(∃ oI,s₂.heap.get? fI=some oI/\oI.cls=.type "function") /\
    ∀ h' e,Heap.MadeExcOf s₂.heap h' e (.ref C) a.pos->wpAny (model prog w) (A.under (.builtin "type.__call__" ⟨.ref C::a.pos,[]⟩)) (call (.ref fI) (.ref e::a.pos)) (fun r s'=>r=.none/\∃ ob vs,s'.heap.get? C=some (excClassObj nm q C N bs bm hdct sn sub ab col dd k0 k1 k2 k3 k5 newId)/\s'.heap.get? e=some ob/\ob.cls=.ref C/\ob.data=.fields vs/\vs[1]?=some .none/\E (.ref e) s') E {s₂ with heap:=h'}) E s₁) E s) :
  wpAny (model prog w) A (exec (.Raise (some (.Call (.Name x np) args [] cpos)) none pos) env) Q E s:=by
 rw[arm_exec_Raise];refine wpAny_bind (wpAny_standAt (BG (C:=C) (nm:=nm) (q:=q) (N:=N) (bs:=bs) (bm:=bm) (hdct:=hdct) (sn:=sn) (sub:=sub) (ab:=ab) (col:=col) (dd:=dd) (k0:=k0) (k1:=k1) (k2:=k2) (k3:=k3) (k5:=k5) (newId:=newId) hbase hh (wpAny_bind (wpAny_mono (wpAny_Call_ofName (wpAny_mono hx (fun f s₁ h₁=>?_) fun _ _ x=>x)) (fun v s₃ h₃=>wpAny_bind (wpAny_standAt (wpAny_pure h₃))) fun _ _ x=>x))));obtain⟨rfl,h₁⟩:=h₁;unfold callWith;refine wpAny_bind (wpAny_holding (wpAny_mono h₁ (fun a s₂ h₂=>wpAny_bind (wpAny_standAt ?_)) fun _ _ x=>x));obtain⟨apos,akw⟩:=a;obtain⟨hkw,hlen,hC,hn,T,⟨oI,hfI,hfc⟩,h₂⟩:=h₂;obtain rfl:akw=[]:=hkw;obtain⟨hp,g,d,tk,os⟩:=s₂;simp only[hplain];refine wpAny_bind (wpAny_keeperOf_exc hC ?_);refine wpAny_bind (VJ Fn hBn F T hC hn hni hfI hfc (fun h' e hm=>wpAny_mono (h₂ h' e hm) (fun r s' hr=>⟨hr.1,wpAny_bind (wpAny_holding (wpAny_point (wpAny_pure ?_)))⟩) fun _ _ z=>z) hlen)
 obtain⟨ob,vs,c1,c2,c3,c4,c5,c6⟩:=hr.2;exact⟨e,ob,vs,rfl,c1,c2,c3,c4,c5,c6⟩
end
noncomputable def W7:List Value->Bool
 | .ref _::r=>W7 r
 | l=>l==bmV
theorem WF (self:Value):∀ {l:List Value},W7 l=true->refuseLoop self "__setattr__" l=pure ()
 | [],e=>by simp[W7,bmV] at e
 | v::r,e=>by
  have other:v::r=bmV->refuseLoop self "__setattr__" (v::r)=pure ():=fun z=>by rw[z];exact PySem.F.store_ValueError.passes self
  cases v with
  | ref c=>rw [refuseLoop_ref];exact WF self (l:=r) (by simpa[W7] using e)
  | _=>exact other (by simpa[W7] using e)
section
variable {prog:Program} {w:World} {A:Around} {E:Value->Shared->Prop} {K:Frag} {C x:Addr} {s:Shared} {R:Result->Shared->Prop} {cd:ClassData}
theorem Fx (X:K.In s.heap) (I:InstAt s.heap x ox C od) (hc:clsIn K C=some cd) (ho:W7 cd.mro=true) (hob:mroIn K C (.type "object")=some true) (ht:findIn K (.ref C) name=some none)
  (h:wpAny (model prog w) A.in1 (storeInOwnDict (.ref x) (.ref C) (.str name tk) name v false)
   (fun fin s'=>match fin with | .done f=>R (.ok f) s' | .again c'=>c'.quiet=true/\codeAny (model prog w) A c' R s') (fun e s'=>R (.error e) s') s) :
  codeAny (model prog w) A (.call (.builtin "object.__setattr__") ⟨[.ref x,.str name tk,v],[]⟩) R s:=by
 have SF:=PySem.F.store_object;have sub:Looks (model prog w) s.heap (isInstance (.ref x) (.type "object")) true:=I.type.andThen (looks_mroIn X hob);refine codeAny_call_builtin SF.slot.plain SF.entry (@check_slot (model prog w) _ _ s "object.__setattr__" "object" "__setattr__" (.ref x) [.str name tk,v] [] _ SF.kind SF.split sub (SF.args (.ref x) (.str name tk) v) ?_);have hm:Looks (model prog w) s.heap (mroOf (.ref C)) cd.mro:=(looks_clsIn X hc).andThen .now;have L3:Looks (model prog w) s.heap (storeTaker? none) none:=.now;rw[osa_eq,refuse_eq];refine wpAny_bind (wpAny_bind (I.type.here (wpAny_bind (hm.here ?_))));rw[WF _ ho];refine wpAny_pure (wpAny_bind (I.type.here (wpAny_bind ((looks_findIn X ht).here (wpAny_bind (L3.here ?_))))));exact h
theorem FY (X:K.In s.heap) (hx:s.heap.get? x=some ox) (hcl:ox.cls=.ref C) (hd:ox.dict=none) (hdt:ox.data=.fields vs)
  (hs:findIn K (.ref C) "__setattr__"=some (some (.builtin "object.__setattr__"))) (hc:clsIn K C=some cd) (hdc:cd.hasDict=true) (ho:W7 cd.mro=true) (hob:mroIn K C (.type "object")=some true) (ht:findIn K (.ref C) name=some none)
  (h:∀ h' t',h'.get? x=some {ox with dict:=some s.heap.objs.size}->h'.Ns1 s.heap.objs.size (fun y=>if y=name then some v else none)->(∀ b o,b≠x->s.heap.get? b=some o->h'.get? b=some o)->Q () {s with heap:=h',toks:=t'}) :
  wpAny (model prog w) A (setAttr (.ref x) name v) Q E s:=by
 obtain⟨oc,odi,odt,osl⟩:=ox;dsimp only at hcl hd hdt;subst hcl hd hdt;have I:InstAt s.heap x ⟨.ref C,none,.fields vs,osl⟩ C none:=⟨hx,rfl,rfl,trivial⟩;refine set_plain X I hs (Fx (s:={s with toks:=s.toks+1}) X I hc ho hob ht ?_);have hx₁:(s.heap.push {cls:=.type "dict",data:=.dict #[]}).get? x=some ⟨.ref C,none,.fields vs,osl⟩:=Heap.get?_push_of_some _ hx;have hxs:x≠s.heap.objs.size:=Nat.ne_of_lt (Heap.lt_size hx);refine wpAny_bind (wpAny_pure (wpAny_bind (wpAny_bind (wpAny_loadPart hx (wpAny_bind (Looks.here (s:={s with toks:=s.toks+1}) (looks_clsIn X hc) ?_))))));rw[hdc];show wpAny _ _ (if (!true || !typeHasDict (.ref C))=true then _ else _) _ _ _;rw[if_neg (by simp[typeHasDict])];refine wpAny_bind (wpAny_alloc' ?_);refine wpAny_bind (wpAny_update' hx₁ ?_);refine wpAny_pure ?_;have hgd:((s.heap.push {cls:=.type "dict",data:=.dict #[]}).update x fun o=>{cls:=o.cls,dict:=some s.heap.objs.size,data:=o.data,slots:=o.slots}).get? s.heap.objs.size
   = some {cls:=.type "dict",data:=.dict #[]} :=
  (Heap.get?_update_ne _ _ _ _ hxs.symm).trans (Heap.get?_push_at rfl rfl)
 have hnd:((s.heap.push {cls:=.type "dict",data:=.dict #[]}).update x fun o=>{cls:=o.cls,dict:=some s.heap.objs.size,data:=o.data,slots:=o.slots}).Ns s.heap.objs.size (fun _=>none) :=
  ⟨_,#[],_,hgd,rfl,fun e he=>absurd he (by simp),fun _=>rfl⟩
 refine wpAny_bind (wpAny_pure (wpAny_bind (wpAny_nsSet1 (Heap.Ns1.of_empty hnd) fun h' hn' hs=>?_)));obtain⟨oD,esD,epD,hoD,hdD,hcD⟩:=hn'.count (PySem.Within.cons name v PySem.Within.nil);refine wpAny_bind (wpAny_lookBehind hoD (by rw[hdD];exact pastItsLine_dict (Nat.le_trans hcD (by rw[List.length_cons,List.length_nil,sizeLine_eq];omega))) ?_);refine wpAny_pure (h h' _ ?_ hn' fun b o hb e=>?_)
 ·refine (hs.2 x hxs).trans (Heap.get?_update_self _ hx₁ rfl)
 ·exact (hs.2 b (Nat.ne_of_lt (Heap.lt_size e))).trans ((Heap.get?_update_ne _ _ _ _ hb).trans (Heap.get?_push_of_some _ e))
end
noncomputable def Yu (n:Str):Str:=if n="NoText" then "part" else if n="NoLevel" then "number" else if n="NoCall" then "row" else "name"
noncomputable def JE (f:Str) (b:List Stmt):Bool:=Yb b fun s1 r=>CW s1 fun c1 ep=>Zo c1 fun f1 xs kw cp=>YW f1 fun o1 m ap=>Yx o1 fun c p1=>Yb xs fun a1 ys=>Yx a1 fun s p2=>Yb ys fun a2 zs=>Zu a2 fun q j p3=>qStr q fun t=>qNil zs (qNil kw (Yb r fun s2 r2=>qNil r2 (XE s2 fun tg v ap3=>Yb tg fun t1 t2=>qNil t2 (YW t1 fun o2 g ap2=>Yx o2 fun n2 p4=>Yx v fun x p5=>c == "CordError" && m == "__init__" && s == "self" && n2 == "self" && g==f&&x==f&&(ap.endLine==cp.line)))))
noncomputable def Ws (f:Str) (sc:Scope):Bool:=sc.kind==.function&&!sc.isCoroutine&&!sc.isGenerator&&(sc.names==[(("self":Str),NameKind.local),(f,.local),("CordError",.globalImplicit)])
noncomputable def US (f:Str) (p:Arguments):Bool:=p.posonlyargs.isEmpty&&(p.args.map (·.arg)==[("self":Str),f])&&p.vararg.isNone&&p.kwonlyargs.isEmpty&&p.kw_defaults.isEmpty&&p.kwarg.isNone
noncomputable def DV (K:Frag) (f:Str) (fd:FuncData):Bool:=(match fd.body with | .stmts b=>JE f b|_=>false)&&Ws f fd.scope&&US f fd.params&&fd.globals==mainGlobals&&fd.builtins==builtinsNs&&fd.closure.isEmpty&&codeIn K fd.code fd.qualname &&
 (match fd.defaults with | .ref T=>(match K.lookup T with|some ⟨_,_,.seq its _,_⟩=>its.size==1|_=>false)|_=>false)
noncomputable def UT (K:Frag) (f:Str) (fI:Addr):Bool:=match K.lookup fI with
 | some ⟨.type "function",_,.func fd,_⟩=>DV K f fd
 | _=>false
noncomputable def UW (K:Frag) (C:Addr):Option Addr:=match K.lookup C with
 | some ⟨.type "type",_,.cls cd,sl⟩=>(match cd.mro,sl.toList with
  | .ref C'::bm,[_,_,_,_,some (.builtin n),_]=>if (C'==C&&n == "ValueError.__new__" && !cd.hasDel&&tailIn K bmV bm&&nsOkIn K cd.ns&&cd.hasDict&&W7 cd.mro) then (match nsIn K cd.ns "__init__" with|some (some (.ref f))=>some f|_=>none) else none
  | _,_=>none)
 | _=>none
noncomputable def As (K:Frag) (n:Str) (D:Addr):Bool:=match XR K "CordError",UW K D with
 | some B,some fI=>(findIn K (.ref D) "__setattr__" == some (some (.builtin "object.__setattr__")))&&(findIn K (.ref D) (Yu n)==some none)&&readsIn K B (.type "type")
   && (match findCls K (.ref B) (.type "type") "__init__" with|some (.val v)=>v==.builtin "ValueError.__init__" | _=>false)&&(specialIn K (.ref B) "__getattribute__" == some (some (.builtin "type.__getattribute__")))&&keepIn K (.ref D)&&UT K (Yu n) fI
 | _,_=>false
noncomputable def DX (K:Frag):Bool:=xInit.all fun n=>match XR K n with
 | none=>true
 | some D=>As K n D
structure InitAt (K:Frag) (n:Str) (D B fI:Addr):Prop where
 ex:UW K D=some fI
 b:XR K "CordError"=some B
 sa:findIn K (.ref D) "__setattr__"=some (some (.builtin "object.__setattr__"))
 nf:findIn K (.ref D) (Yu n)=some none
 rd:readsIn K B (.type "type")=true
 fc:findCls K (.ref B) (.type "type") "__init__"=some (.val (.builtin "ValueError.__init__"))
 sp:specialIn K (.ref B) "__getattribute__"=some (some (.builtin "type.__getattribute__"))
 kp:keepIn K (.ref D)=true
 fn:UT K (Yu n) fI=true
theorem BU {K:Frag} {n:Str} {D:Addr} (h:As K n D=true):∃ B fI,InitAt K n D B fI:=by
 unfold As at h;split at h
 next B fI e1 e2 =>
  simp only[Bool.and_eq_true,beq_iff_eq] at h;obtain⟨⟨⟨⟨⟨⟨h1,h2⟩,h3⟩,h4⟩,h5⟩,h6⟩,h7⟩:=h;split at h4
  next v e=>exact⟨B,fI,e2,e1,h1,h2,h3,by rw[e,beq_iff_eq.mp h4],h5,h6,h7⟩
  next=>cases h4
 next=>cases h
theorem FF {K:Frag} {h:Heap} {N:Addr} {mg:Str->Option Value} {n:Str} {v:Value} (X:K.In h) (G:h.Ns N mg) (e:nsIn K N n=some (some v)):mg n=some v:=by
 obtain⟨o,es,ep,ho,hd,_,hf⟩:=G;unfold nsIn at e;split at e
 ·rename_i c d es' n' sl q
  have:=X _ _ q;rw[ho] at this;cases this;cases hd;split at e
  ·rename_i en he
   cases e;rw[<- hf];unfold nsFind findBy;rw[<- Array.find?_toList,he]
   rfl
  ·split at e<;>cases e
 ·cases e
theorem Bf {K:Frag} {h:Heap} {C fI:Addr} (X:K.In h) (q:UW K C=some fI) {P:Prop}
  (go:∀ bm N nm q bs sn sub ab col dd k0 k1 k2 k3 k5 mN,h.get? C=some (excClassObj nm q C N bs bm true sn sub ab col dd k0 k1 k2 k3 k5 "ValueError.__new__")->h.Ns N mN->mN "__init__"=some (.ref fI)->OwnTail h bmV bm->∀ cd,clsIn K C=some cd->cd.hasDict=true->W7 cd.mro=true->P):P:=by
 unfold UW at q;split at q
 next dd cd sl ho =>
  split at q
  next C' bm a0 a1 a2 a3 id a5 em es =>
   split at q
   next hc =>
    simp only[Bool.and_eq_true,beq_iff_eq,Bool.not_eq_true'] at hc;obtain⟨⟨⟨⟨⟨⟨z1,z2⟩,z3⟩,z4⟩,z5⟩,z6⟩,z7⟩:=hc;split at q
    next f ei =>
     cases q;have hci:clsIn K C=some cd:=by unfold clsIn;rw[ho]
     obtain⟨nm,bs,mro,ns,qn,hd,sn,sub,ab,col,del⟩:=cd;have hsl:sl=#[a0,a1,a2,a3,some (.builtin "ValueError.__new__"),a5]:=by
      rw[z2] at es;rw[<- es]
     simp only at em z3 z5 z6 z7 ei hci;subst z1 em z3 hsl z6;refine go bm ns nm qn bs sn sub ab col dd a0 a1 a2 a3 a5 _ (X _ _ ho) (.of_isNs (isNs_of_in X z5)) ?_ (tail_of_in X z4) _ hci rfl z7;exact FF X (.of_isNs (isNs_of_in X z5)) ei
    next=>cases q
   next=>cases q
  next=>cases q
 next=>cases q
theorem FK (hbase:attributeBase o m env (eval o env)=eval o env) (hpl:(backTo pos (starEach args env)).any (·.1)=false) (hn:args.length<30) (hline:(apos.endLine==pos.line)=true) :
  eval (.Call (.Attribute o m apos) args [] pos) env=(do
   let ov <- eval o env
   standAt apos.atName
   let (f,first) <- holding [ov] (getMethod ov m (do let b <- importBound o env;pure (b.getD true)))
   callWith pos f first (backTo pos (starEach args env)) (backToKw pos (keywordEach [] env))):=by
 have hf:methodCallForm (args.length+([]:List Keyword).length) (backTo pos (starEach args env)) (backToKw pos (keywordEach [] env))=true:=by
  have h1:(backTo pos (starEach args env)).all (fun x=>!x.1)=true:=by
   rw[List.all_eq_true];intro x hx;have:=List.any_eq_false.mp hpl x hx
   simpa using this
  have h2:backToKw pos (keywordEach [] env)=[]:=rfl;unfold methodCallForm;rw[h1,h2]
  simpa using hn
 rw[arm_eval_Call,hbase];unfold methodCall calleeOf methodCallPos;rw[hf,hline]
 rfl
theorem Cy (k:∀ b o,b≠e->h.get? b=some o->h'.get? b=some o):Un fs [e] H H h h' where
 keep:=fun b o q _ _ hx=>k b o (fun z=>hx (by simp[z])) q
 slot:=fun b o q _ _ hx=>⟨o.slots,k b o (fun z=>hx (by simp[z])) q⟩
 free:=fun _ _ _ n _=>n
 there:=fun b o q hx=>⟨o,k b o (fun z=>hx (by simp[z])) q⟩
 tups:=fun _ _ q=>q
 frzs:=fun _ _ _ q=>q
 tbls:=fun b ps q=>⟨#[],by simpa using q⟩
theorem B9 (hok:HOk P w H h) (hH:H e=none) (k:∀ b o,b≠e->h.get? b=some o->h'.get? b=some o):HOk P w H h':=fun a o q =>
 (hok a o q).stay (fun c u hc r=>k c u (fun z=>by
  subst z;rcases hc with rfl|hc
  ·rw[hH] at q;cases q
  ·rw[hH] at hc;cases hc) r) (fun _ q=>q) fun _ _ q=>q
theorem WY (I:L2.Inv X pins σ H s) (h:∀ p∈X.pn++pl,s.heap.get? p.1=some p.2/\H p.1=none/\p.1≠X.env.locals/\p.1 ∉ X.fs/\∀ v,p.2.data≠.cell v):L2.Inv X pl σ H s :=
 ⟨I.ok,I.os,I.bare,I.base,I.loc,I.cell,I.free,I.freeC,h,I.hok,I.len⟩
structure InitEnd (P:Program) (w:World) (outer:List Env) (H:Hp) (s:Shared) (e D:Addr) (f:Str) (v:V) (vs0:Array Value) (s':Shared):Prop where
 os:s'.os=s.os
 bare:AllBare s'.gens
 un:Un (frs outer) [e] H H s.heap s'.heap
 hok:HOk P w H s'.heap
 at_:∃ ob ws d u,s'.heap.get? e=some ob/\ob.cls=.ref D/\ob.dict=some d/\ob.data=.fields ws/\ws[1]?=some .none/\ws[2]?=some .none/\ws.size=vs0.size/\RelV v u/\s'.heap.Ns1 d (fun y=>if y=f then some u else none)/\s.heap.objs.size<=d/\H d=none
theorem InitEnd.on {P:Program} {w:World} {outer:List Env} {H:Hp} {s:Shared} {e D:Addr} {f:Str} {v:V} {vs0:Array Value} {s':Shared} (E:InitEnd P w outer H s e D f v vs0 s') {Z:Prop} (go:∀ ob ws d u,s'.heap.get? e=some ob->ob.cls=.ref D->ob.dict=some d->ob.data=.fields ws->ws[1]?=some .none->ws[2]?=some .none->ws.size=vs0.size->RelV v u->s'.heap.Ns1 d (fun y=>if y=f then some u else none)->s.heap.objs.size<=d->H d=none->Z):Z:=by
 obtain⟨ob,ws,d,u,a1,a2,a3,a4,a5,a6,a7,a8,a9,b1,b2⟩:=E.at_;exact go ob ws d u a1 a2 a3 a4 a5 a6 a7 a8 a9 b1 b2
noncomputable def IB (f:Str) (b:List Stmt):Prop:=∃ (p1 ap p2:Pos) (t:Str) (j:Nat) (p3 cp ep p4 ap2 p5 ap3:Pos),b=[.Expr (.Call (.Attribute (.Name "CordError" p1) "__init__" ap) [.Name "self" p2,.Constant (.str t) j p3] [] cp) ep,.Assign [.Attribute (.Name "self" p4) f ap2] (.Name f p5) ap3]/\(ap.endLine==cp.line)=true
theorem JD {f:Str} {b:List Stmt} (h:JE f b=true):IB f b:=by
 refine Y9 b h fun s1 r h=>?_;refine gExpr s1 h fun c1 ep h=>?_;refine gCall c1 h fun f1 xs kw cp h=>?_;refine gAttribute f1 h fun o1 m ap h=>?_;refine gNm o1 h fun c p1 h=>?_;refine Y9 xs h fun a1 ys h=>?_;refine gNm a1 h fun s p2 h=>?_;refine Y9 ys h fun a2 zs h=>?_;refine gConstant a2 h fun q j p3 h=>?_;refine gStr q h fun t h=>?_;refine gNil zs h fun h=>?_;refine gNil kw h fun h=>?_;refine Y9 r h fun s2 r2 h=>?_;refine gNil r2 h fun h=>?_;refine gAssign s2 h fun tg v ap3 h=>?_;refine Y9 tg h fun t1 t2 h=>?_;refine gNil t2 h fun h=>?_;refine gAttribute t1 h fun o2 g ap2 h=>?_;refine gNm o2 h fun n2 p4 h=>?_;refine gNm v h fun x p5 h=>?_;simp only[Bool.and_eq_true,beq_iff_eq] at h;obtain⟨⟨⟨⟨⟨⟨rfl,rfl⟩,rfl⟩,rfl⟩,rfl⟩,rfl⟩,z⟩:=h
 delta IB
 exact⟨_,_,_,_,_,_,_,_,_,_,_,_,rfl,beq_iff_eq.mpr z⟩
theorem Io (n:Str):Yu n≠"self"/\Yu n≠"CordError"/\Yu n≠"__debug__"/\Yu n≠"__classdict__":=by
 unfold Yu;split
 ·decide
 split
 ·decide
 split
 ·decide
 ·decide
theorem Ip (n:Str):Yu n="part"\/Yu n="number"\/Yu n="row"\/Yu n="name":=by
 unfold Yu;split
 ·exact .inl rfl
 split
 ·exact .inr (.inl rfl)
 split
 ·exact .inr (.inr (.inl rfl))
 ·exact .inr (.inr (.inr rfl))
theorem Aq {f:Str} {sc:Scope} (hf:f≠"self") (h:Ws f sc=true):FnScope ["self",f] ["self",f] sc/\sc.names=[(("self":Str),NameKind.local),(f,.local),("CordError",.globalImplicit)]:=by
 unfold Ws at h;simp only[Bool.and_eq_true,beq_iff_eq,Bool.not_eq_true'] at h;obtain⟨⟨⟨h1,h2⟩,h3⟩,h4⟩:=h;refine⟨⟨h1,h2,h3,?_,rfl,fun x hx=>?_,fun y hy=>?_⟩,h4⟩
 ·simp[Ne.symm hf]
 ·rw[h4]
  simp only[List.mem_cons,List.not_mem_nil,or_false] at hx;rcases hx with rfl|rfl
  ·exact .inl rfl
  ·have hb:(x==("self":Str))=false:=by simpa using hf
   exact .inl (by simp only[List.lookup_cons,hb];simp)
 ·rw[h4] at hy
  simp only[List.mem_cons,List.not_mem_nil,or_false] at hy;rcases hy with rfl|rfl|rfl<;>exact (fun z=>nomatch z)
theorem Ar {K:Frag} {s:Shared} {f name qual:Str} {par:Arguments} {body:List Stmt} {sc:Scope} {dV kw doc pm:Value} {an:Option Addr} {cd ct:Value} {a b:Value} (X:K.In s.heap) (hf:f="part"\/f="number"\/f="row"\/f="name") (hp:US f par=true)
  (hd:(match dV with | .ref T=>(match K.lookup T with|some ⟨_,_,.seq its _,_⟩=>its.size==1|_=>false)|_=>false)=true) :
  BindsTo s (PySem.W.fnOf name qual par body sc dV kw doc pm an cd ct) ⟨[a,b],[]⟩ ((["self",f]:List Str).zip [a,b]):=by
 split at hd
 next T =>
  split at hd
  next cc dd its mm sl lk =>
   unfold US at hp;simp only[Bool.and_eq_true,beq_iff_eq,List.isEmpty_iff,Option.isNone_iff_eq_none] at hp;obtain⟨po,ar,va,ko,kd,ka,df⟩:=par;obtain⟨⟨⟨⟨⟨rfl,h2⟩,rfl⟩,rfl⟩,rfl⟩,rfl⟩:=hp;obtain⟨n1,q1,n2,q2,rfl⟩:∃ n1 q1 n2 q2,ar=[⟨"self",n1,q1⟩,⟨f,n2,q2⟩]:=by
    rcases ar with _|⟨⟨a1,n1,q1⟩,_|⟨⟨a2,n2,q2⟩,_|⟨a3,r⟩⟩⟩<;>simp at h2
    exact⟨n1,q1,n2,q2,by rw[h2.1,h2.2]⟩
   have sz:its.size=1:=by simpa using hd
   obtain⟨d0,rfl⟩:∃ d0,its=#[d0]:=by
    obtain⟨l⟩:=its;rcases l with _|⟨d0,_|⟨d1,r⟩⟩<;>simp at sz
    exact⟨d0,rfl⟩
   rcases hf with rfl|rfl|rfl|rfl<;>exact .of_defaults rfl (X _ _ lk) rfl rfl rfl
  next=>cases hd
 next=>cases hd
theorem CN {P:Program} {w:World} {K:Frag} {mg:Str->Option Value} {base:Heap} {A:Around} {outer:List Env} {s:Shared} {H:Hp} {n:Str} {D B fI e t0:Addr} {oe:Obj} {vs:Array Value} {u:Value} {vv:V} {R:Result->Shared->Prop}
  (T:InitAt K n D B fI) (hob:mroIn K D (.type "object")=some true) (hm:mg "CordError"=some (.ref B)) (hdep:A.depth<recursionLimit) (e0:Env0 P w K mg base A outer s H)
  (he:s.heap.get? e=some oe) (hc:oe.cls=.ref D) (hdd:oe.dict=none) (hdt:oe.data=.fields vs) (h0:vs[0]?=some (.ref t0)) (h1:vs[1]?=some .none) (h2:vs[2]?=some .none) (hH:H e=none) (hb:base.get? e=none) (hfr:e ∉ frs outer) (rv:RelV vv u)
  (hq:∀ s',InitEnd P w outer H s e D (Yu n) vv vs s'->R (.ok (.ret .none)) s') :
  codeAny (model P w) A (.call (.ref fI) ⟨[.ref e,u],[]⟩) R s:=by
 have KX:K.In s.heap:=e0.mod.kin.keeps fun b o e=>(e0.bs b o e).1;have lim:s.heap.NoLimit:=e0.mod.nolimit.keeps fun b o e=>(e0.bs b o e).1;have tf:=T.fn;unfold UT at tf;split at tf
 next od fd osl lk =>
  unfold DV at tf;simp only[Bool.and_eq_true,beq_iff_eq,List.isEmpty_iff] at tf;obtain⟨⟨⟨⟨⟨⟨⟨tb,tsc⟩,tpar⟩,tgl⟩,tbl⟩,tcl⟩,tcd⟩,tdf⟩:=tf;obtain⟨fname,fqual,fpar,fbody,fsc,fgl,fcl,fdf,fkw,fdoc,fpm,fan,fcd,fct,fbl⟩:=fd;simp only at tb tsc tpar tgl tbl tcl tcd tdf;subst tgl tbl tcl;split at tb
  next body =>
   have nf:=Io n;obtain⟨S,hnm⟩:=Aq nf.1 tsc;obtain⟨p1,ap,p2,t,j,p3,cp,ep,p4,ap2,p5,ap3,rfl,hline⟩:=JD tb;refine codeAny_call_function hdep (KX _ _ lk) rfl S.co S.gen rfl (PySem.W.codeRec_of KX tcd) (Ar KX (Ip n) tpar tdf _ _ _ _ ?_);refine wpAny_newFunctionEnv_cells S.kind (fun y hy=>?_) fun env he s1 x=>?_
   ·obtain⟨y1,y2⟩:=y
    rcases S.par y1 (List.of_mem_zip hy).1 with q|q
    ·exact .inl q
    ·exact .inr ⟨q,PySem.W.cellsFrom_some _ _ _ (.inl q)⟩
   subst he;refine⟨lim.keeps x.toInCall.keep,codeAny_func ?_⟩;have I:=Ub (A:={A with handled:=none}) (CX:=fun _ _ _ _ e s''=>R (.error e) s'') (E:=fun _ _ _=>False) (vs:=[.ref e,vv]) (us:=[.ref e,u]) S rfl ⟨e0.frames,e0.mod,e0.bs,e0.bsz,e0.funs,e0.frf,e0.hok,e0.bare⟩ rfl (.cons rfl (.cons rv .nil)) x;obtain⟨X,hX⟩:∃ X:Cx,X={cxOf (fun _ _ _ _ e s''=>R (.error e) s'') P w K mg base ["self",Yu n] fqual fsc fI fcd A outer s H (fun _ _ _=>False) with ex:=[e],calm:=false}:=⟨_,rfl⟩;have lts:=Heap.lt_size he;have Ie:L2.Inv X [] (start ([("self":Str),Yu n]:List Str) [.ref e,vv]) H s1:=by
    rw[hX];have ok:=I.ok;refine⟨⟨ok.mod,ok.kind,ok.glob,ok.blt,ok.above,ok.inj,ok.has,ok.cab,fun z=>(by cases z),Around.frames_deeper e0.frames,ok.stk,fun b hb'=>?_,ok.bs,ok.bsz,fun b o q hb'=>?_,fun b hb'=>?_,ok.funs,ok.frf⟩,I.os,I.bare,I.base.mono (fun _ z=>z) (by simp[cxOf]),I.loc,I.cell,I.free,I.freeC,I.pin,I.hok,I.len⟩
    ·obtain rfl:b=e:=by simpa using hb'
     exact⟨Nat.ne_of_lt (Nat.lt_of_lt_of_le lts ok.above),fun y c q=>Nat.ne_of_gt (Nat.lt_of_lt_of_le lts (ok.cab y c rfl q))⟩
    ·obtain rfl:b=e:=by simpa using hb'
     exact absurd ((show base.get? b=some o from q).symm.trans hb) (by simp)
    ·obtain rfl:b=e:=by simpa using hb'
     exact hfr
   have eN:X.N=([("self":Str),Yu n]:List Str):=by rw[hX];rfl
   have escope:X.env.scope=fsc:=by rw[hX];rfl
   have eenv:X.env=envOfC fqual fsc s.heap.objs.size fI fcd:=by rw[hX];rfl
   have eA:X.A=A.deeper (envOfC fqual fsc s.heap.objs.size fI fcd):=by rw[hX];rfl
   have eM:model X.prog X.w=model P w:=by rw[hX];rfl
   have eK:X.K=K:=by rw[hX];rfl
   have emg:X.mg=mg:=by rw[hX];rfl
   have eex:X.ex=[e]:=by rw[hX]
   have efs:X.fs=frs outer:=by rw[hX];rfl
   have epn:X.pn=[]:=by rw[hX];rfl
   have eloc:X.env.locals=s.heap.objs.size:=by rw[eenv];rfl
   have exe:X.xe=fun e' s'=>wpAny (model P w) (A.deeper (envOfC fqual fsc s.heap.objs.size fI fcd)) (leaving (envOfC fqual fsc s.heap.objs.size fI fcd) e') (fun _ s''=>R (.error e') s'') (fun e'' s''=>R (.error e'') s'') s':=by rw[hX];rfl
   have es0:X.s₀=s:=by rw[hX];rfl
   have eH0:X.H₀=H:=by rw[hX];rfl
   have eP:X.prog=P:=by rw[hX];rfl
   have eW:X.w=w:=by rw[hX];rfl
   clear hX;have hvs:Vis X.env.scope "self":=.inl (by rw[escope,hnm];rfl);have hb0:(Yu n==("self":Str))=false:=by simpa using nf.1
   have hvf:Vis X.env.scope (Yu n):=.inl (by rw[escope,hnm];simp only[List.lookup_cons,hb0];simp);have hgl:Gl X "CordError":=by
    show X.env.scope.names.lookup _=_;rw[escope,hnm];have hb:(("CordError":Str)==Yu n)=false:=by simpa using Ne.symm nf.2.1
    have hb2:(("CordError":Str)==("self":Str))=false:=by decide
    simp only[List.lookup_cons,hb,hb2];simp
   have pin1:∀ {ob:Obj} {s2:Shared} {H2:Hp} {ws:Array Value},s2.heap.get? e=some ob->H2 e=none->ob.data=.fields ws->∀ p∈X.pn++[(e,ob)],s2.heap.get? p.1=some p.2/\H2 p.1=none/\p.1≠X.env.locals/\p.1 ∉ X.fs/\∀ v,p.2.data≠.cell v:=fun {ob s2 H2 ws} q1 q2 q3 p hp=>by
    rw[epn,List.nil_append,List.mem_singleton] at hp;subst hp;exact⟨q1,q2,by rw[eloc];exact Nat.ne_of_lt lts,by rw[efs];exact hfr,fun v z=>by rw[q3] at z;cases z⟩
   have pin0:∀ {s2:Shared} {H2:Hp},∀ p∈X.pn++([]:List (Addr×Obj)),s2.heap.get? p.1=some p.2/\H2 p.1=none/\p.1≠X.env.locals/\p.1 ∉ X.fs/\∀ v,p.2.data≠.cell v:=fun {s2 H2} p hp=>by
    rw[epn] at hp;cases hp
   have chg:∀ b∈[e],(b∈X.ex\/X.s₀.heap.objs.size<=b)/\b≠X.env.locals/\(∀ x c,X.env.cells.lookup x=some c->c≠b)/\∀ p∈X.pn++([]:List (Addr×Obj)),p.1≠b:=fun b hb'=>by
    have:=Ie.ok.exf b (by rw[eex];exact hb');exact⟨.inl (by rw[eex];exact hb'),this.1,this.2,fun p hp=>by rw[epn] at hp;cases hp⟩
   have KIn:∀ {pl:List (Addr×Obj)} {σ2:L2.St} {H2:Hp} {s2:Shared},L2.Inv X pl σ2 H2 s2->K.In s2.heap:=fun J=>eK ▸ J.kIn;have I1:=WY Ie (pin1 (x.toInCall.keep e oe he) hH hdt);show wpAny (model P w) (A.deeper (envOfC fqual fsc s.heap.objs.size fI fcd)) (execs _ (envOfC fqual fsc s.heap.objs.size fI fcd)) _ (fun e' s'=>wpAny (model P w) (A.deeper (envOfC fqual fsc s.heap.objs.size fI fcd)) (leaving (envOfC fqual fsc s.heap.objs.size fI fcd) e') (fun _ s''=>R (.error e') s'') (fun e'' s''=>R (.error e'') s'') s') _;rw[<- exe,<- eM,<- eA,<- eenv];have hmX:X.mg "CordError"=some (.ref B):=by rw[emg];exact hm
   generalize hσ:start ([("self":Str),Yu n]:List Str) [.ref e,vv]=σ at I1 Ie;have hσ0:σ[0]?=some (some (.ref e)):=by rw[<- hσ];rfl
   have hσ1:σ[1]?=some (some vv):=by rw[<- hσ];rfl
   have hN0:X.N[0]?=some ("self":Str):=by rw[eN];rfl
   have hN1:X.N[1]?=some (Yu n):=by rw[eN];rfl
   refine wpAny_execs_cons (wpAny_Expr_any ?_ Ie.quiet rfl);refine PySem.W.methodCall_KW (X9 I1 hgl hmX ?_) (FK rfl rfl (by simp) hline);refine method_cls (KIn I1) T.sp (cls_value (KIn I1) T.rd T.fc (by decide +kernel) ?_);have I2:=I1.tok (s1.toks+1);refine PyProof.Rows.callWith_builtin1 (thn ((UG (Wq hN0 hvs) (UG Da De)) cp [(e,oe)] _ σ H (fun vs H1=>H1=H/\∃ v2,vs=[.ref e,v2]) I2 ⟨_,hσ0,⟨rfl,_,rfl⟩⟩) ?_) rfl rfl;rintro us s3 ⟨vs3,H3,I3,r3,rfl,v2,rfl⟩;obtain⟨u0,us,rfl,ra,rb⟩:∃ u0 us',us=u0::us'/\RelV (.ref e) u0/\Vals [v2] us':=by cases r3 with|cons a b=>exact⟨_,_,rfl,a,b⟩
   obtain rfl:u0=Value.ref e:=ra;obtain⟨u2,rfl⟩:∃ u2,us=[u2]:=by cases rb with|cons a b=>cases b;exact⟨_,rfl⟩
   refine Bf (KIn I3) T.ex fun bm Nn nm qn bs sn sub ab col ddc k0 k1 k2 k3 k5 mN hC hNs hni OT cd hci hdc hpm=>?_;have p3:=I3.pin (e,oe) (by simp);have sz0:0<vs.size:=(Array.getElem?_eq_some_iff.mp h0).1;have sz1:1<vs.size:=(Array.getElem?_eq_some_iff.mp h1).1;obtain⟨hp3,g3,d3,t3,os3⟩:=s3;refine DU (F:=PySem.F.excBase_ValueError) (T:=OT) hC p3.1 hc hdt h0 ?_ (by simp[sizeLine_eq]);generalize hh4:(hp3.push {cls:=.type "tuple",data:=.seq [u2].toArray}).update e (Obj.mapFields (·.setIfInBounds 0 (.ref hp3.objs.size)))=h4;have k4:∀ b o,b≠e->hp3.get? b=some o->h4.get? b=some o:=fun b o hb' q=>by
    rw[<- hh4,Heap.get?_update_other _ _ (Ne.symm hb')];exact Heap.get?_push_of_some _ q
   have d4:=Obj.data_mapFields hdt (·.setIfInBounds 0 (.ref hp3.objs.size));have e4:h4.get? e=some (oe.mapFields (·.setIfInBounds 0 (.ref hp3.objs.size))):=by
    rw[<- hh4];exact Heap.get?_update_self _ (Heap.get?_push_of_some _ p3.1) (Obj.isFreed_of_fields d4)
   have I4:L2.Inv X [] σ H3 ⟨h4,g3,d3,t3,os3⟩:=(WY I3 pin0).call' (s':=⟨h4,g3,d3,t3,os3⟩) (ch:=[e]) rfl (Cy k4) (B9 I3.hok hH k4) I3.bare chg;have I5:=WY I4 (pin1 e4 hH d4);refine wpAny_execs_cons (plainObj_wpAny_Assign_Attribute (thn (Wq hN1 hvf (by simpa using nf.2.2.1) (by simpa using nf.2.2.2) [(e,_)] _ σ H3 (fun v H'=>H'=H3/\v=vv) I5 ⟨_,hσ1,rfl,rfl⟩) ?_) rfl);rintro u5 s5 ⟨v5,H5,I6,r5,rfl,rfl⟩;refine thn (Wq hN0 hvs %[|4] %[|4] [(e,_)] _ σ H5 (fun v H'=>H'=H5/\v=.ref e) I6 ⟨_,hσ0,rfl,rfl⟩) ?_;rintro u6 s6 ⟨v6,H6,I7,r6,rfl,rfl⟩;obtain rfl:u6=Value.ref e:=r6;have p7:=I7.pin (e,_) (by rw[epn];exact List.mem_cons_self);refine FY (KIn I7) p7.1 (by rw[Obj.cls_mapFields];exact hc) (by rw[Xz];exact hdd) d4 T.sa hci hdc hpm hob T.nf fun h8 t8 e8 n8 k8=>?_;have I8:L2.Inv X [] σ H6 ⟨h8,s6.gens,s6.drawn,t8,s6.os⟩:=(WY I7 pin0).call' (s':=⟨h8,s6.gens,s6.drawn,t8,s6.os⟩) (ch:=[e]) rfl (Cy k8) (B9 I7.hok hH k8) I7.bare chg
   refine wpAny_execs_nil (hq _ ⟨I8.os.trans (by rw[es0]),I8.bare,?_,?_,_,_,s6.heap.objs.size,u5,e8,by show _=_;rw[Obj.cls_mapFields];exact hc,rfl,d4,?_,?_,?_,r5,n8,?_,?_⟩)
   ·have:=I8.base
    rw[efs,eex,eH0,es0] at this;exact this
   ·have:=I8.hok
    rw[eP,eW] at this;exact this
   ·rw[Array.getElem?_setIfInBounds_ne %[|4]];exact h1
   ·rw[Array.getElem?_setIfInBounds_ne %[|4]];exact h2
   ·simp
   ·have:=I7.sz
    rw[es0] at this;exact this
   ·exact I7.hok.fresh %[|3]
  next=>cases tb
 next=>cases tf
noncomputable def Dq (K:Frag):Bool:=xNames.all fun n=>match XR K n with
 | none=>true
 | some D=>kitOne K (.type "NoneType") (.ref D)==some false
noncomputable def Zv (K:Frag):Bool:=Cv K&&GM K&&(DX K&&Dq K)
theorem Uy {K:Frag} (t:Zv K=true):Cv K=true/\GM K=true/\DX K=true/\Dq K=true:=by
 unfold Zv at t;simp only[Bool.and_eq_true] at t;exact⟨t.1.1,t.1.2,t.2⟩
section
variable {K:Frag} {n c:Str} {C D:Addr}
theorem YM (t:Zv K=true) (hn:n∈xNames) (h:YS K n D):ExcCls K D/\(xPlain.contains n=true->excIn K D bmV "ValueError.__new__"=true)/\(∀ T,(T="int"\/T="bool"\/T="str"\/T="tuple"\/T="list"\/T="dict"\/T="ValueError")->kitOne K (.ref D) (.type T)=some (T == "ValueError")) /\
  ∀ c C,c∈xNames->YS K c C->exmOne K (.ref D) (.ref C)=some (YD n c)/\kitOne K (.ref D) (.ref C)=some (YD n c):=by
 have t:=(Uy t).1;unfold Cv at t;have r:=List.all_eq_true.mp t n hn;rw[Wj h] at r;simp only[Bool.and_eq_true,beq_iff_eq,Bool.or_eq_true,Bool.not_eq_true'] at r;obtain⟨⟨⟨⟨r1,r2⟩,r3⟩,r3b⟩,r4⟩:=r;unfold Bg at r1;simp only[Bool.and_eq_true,beq_iff_eq] at r1;obtain⟨⟨⟨⟨⟨⟨⟨q1,q2⟩,q3⟩,q4⟩,q5⟩,q6⟩,q7⟩,q8⟩:=r1;refine⟨⟨q1,q2,q3,q4,q5,q6,q7,q8⟩,fun z=>?_,fun T hT=>?_,fun c C hc hC=>?_⟩
 ·rcases r2 with r2|r2
  ·rw[z] at r2;cases r2
  ·exact r2
 ·have rT:∀ T∈["int","bool","str","tuple","list","dict"],kitOne K (.ref D) (.type T)=some false:=fun T hT=>beq_iff_eq.mp (List.all_eq_true.mp r3b T hT)
  rcases hT with rfl|rfl|rfl|rfl|rfl|rfl|rfl
  all_goals first|exact r3|exact rT _ %[|4]
 ·have r:=List.all_eq_true.mp r4 c hc
  rw[Wj hC] at r
  simpa only [Bool.and_eq_true,beq_iff_eq] using r
theorem Dp (t:Zv K=true) (hn:n∈xNames) (h:YS K n D):kitOne K (.type "NoneType") (.ref D)=some false:=by
 have t:=(Uy t).2.2.2;unfold Dq at t;have r:=List.all_eq_true.mp t n hn;rw[Wj h] at r;exact beq_iff_eq.mp r
theorem DW (t:Zv K=true) (hn:n∈xInit) (h:YS K n D):∃ B fI,InitAt K n D B fI:=by
 have t:=(Uy t).2.2.1;unfold DX at t;have r:=List.all_eq_true.mp t n hn;rw[Wj h] at r;exact BU r
end
end DL
end
noncomputable section
namespace DL
open PySem PySem.Spec PyProof.Rows L2
inductive D where
 | non|bl (b:Bool)|int (i:Int)|str (x:Str)|ty (n:String)
 | tup (ds:List D)|fz (ds:List D)|lst (a:Addr)|dct (a:Addr)|ref (a:Addr)
 | exc (n:Str) (x:D)|cls (n:Str)
 | fn (n:Str)
 | sd (xs:List Str) (ds:List D)
 | fd (xs:List Str) (ds:List D)
 deriving Inhabited
inductive MO where
 | ls (ds:List D)
 | dk (kvs:List (Key×D))
 | ob (n:Str) (fs:List (Str×D))
abbrev Mem:=Addr->Option MO
abbrev DSt:=List (Option D)
abbrev DK:=D->Mem->Prop
noncomputable def Mem.upd (M:Mem) (a:Addr) (o:MO):Mem:=fun b=>if b=a then some o else M b
theorem mupd_same {M:Mem} {a:Addr} {o:MO}:M.upd a o a=some o:=if_pos rfl
theorem YB {M:Mem} {a b:Addr} {o:MO} (h:b≠a):M.upd a o b=M b:=if_neg h
theorem Ds {M:Mem} {a:Addr} {o u:MO}:(M.upd a o).upd a u=M.upd a u:=by
 funext b;unfold Mem.upd;split<;>rfl
noncomputable def MExt (M M':Mem):Prop:=∀ a o,M a=some o->M' a=some o
theorem MExt.refl (M:Mem):MExt M M:=fun _ _ h=>h
theorem MExt.trans {M M1 M2:Mem} (a:MExt M M1) (b:MExt M1 M2):MExt M M2:=fun c o h=>b c o (a c o h)
theorem MExt.new {M:Mem} {p:Addr} {o:MO} (h:M p=none):MExt M (M.upd p o):=fun a u e=>by
 have:a≠p:=fun z=>by rw[z,h] at e;cases e
 rw[YB this];exact e
noncomputable def alloc (M:Mem) (o:MO) (Q:Addr->Mem->Prop):Prop:=∀ p M',M p=none->MExt M M'->M' p=some o->Q p M'
theorem alloc.at (h:alloc M o Q) (hp:M p=none):Q p (M.upd p o):=h p _ hp (.new hp) mupd_same
noncomputable def SqF (K:Frag) (H:Hp) (a:Addr) (xs:List V):Prop :=
 (∃ o,H a=some (.frz o (.lst xs))) \/
  ∃ (o:Obj) (its:Array Value) (n:Nat),K.lookup a=some o/\o.cls=.type "list"/\o.dict=none/\o.data=.seq its n/\its.size<=sizeLine/\Vals xs its.toList
theorem SqF.sq {K:Frag} {H:Hp} {a:Addr} {xs:List V} (h:SqF K H a xs):SqL K H a xs:=by
 rcases h with ⟨o,h⟩|h
 ·exact .inl (.inr ⟨o,h⟩)
 ·exact .inr h
inductive EntK:List DictEntry->List Str->List Value->Prop
 | nil:EntK [] [] []
 | cons {e:DictEntry} {x:Str} {t:Tok} {es:List DictEntry} {xs:List Str} {us:List Value} (k:e.key=.str x t) (r:EntK es xs us):EntK (e::es) (x::xs) (e.val::us)
noncomputable def TabK (K:Frag) (a:Addr) (xs:List Str) (vs:List V):Prop :=
 (a==sysModules)=false/\∃ (o:Obj) (es:Array DictEntry) (ep:Nat) (us:List Value),K.lookup a=some o/\o.ExactDict/\o.data=.dict es ep/\EntK es.toList xs us/\Vals vs us
noncomputable def fdK (xs:List Str) (vs:List V):List (Key×V):=(xs.zip vs).map fun p=>(Sum.inr p.1,p.2)
noncomputable def FdK (H:Hp) (a:Addr) (xs:List Str) (vs:List V):Prop:=xs.length=vs.length/\∃ o,H a=some (.frz o (.dK (fdK xs vs)))
noncomputable def GW (a C:Addr) (dd:Option Addr) (h:Heap):Prop:=∃ ob vs,h.get? a=some ob/\ob.cls=.ref C/\ob.dict=dd/\ob.data=.fields vs
noncomputable def WM (d:Addr) (f:Str) (v:V) (h:Heap):Prop:=∃ u,RelV v u/\h.Ns1 d (fun y=>if y=f then some u else none)
mutual
inductive RelD (K:Frag) (H:Hp):V->D->Prop
 | non:RelD K H .non .non
 | bl (b:Bool):RelD K H (.bl b) (.bl b)
 | int (i:Int):RelD K H (.int i) (.int i)
 | str (x:Str):RelD K H (.str x) (.str x)
 | ty (n:String):RelD K H (.ty n) (.ty n)
 | tup {a:Addr} {vs:List V} {ds:List D} (h:SqT K H a vs) (r:RelDs K H vs ds):RelD K H (.ref a) (.tup ds)
 | fz {a:Addr} {vs:List V} {ds:List D} (h:SqF K H a vs) (r:RelDs K H vs ds):RelD K H (.ref a) (.fz ds)
 | lst (a:Addr):RelD K H (.ref a) (.lst a)
 | dct (a:Addr):RelD K H (.ref a) (.dct a)
 | ref (a:Addr):RelD K H (.ref a) (.ref a)
 | cls {C:Addr} {n:Str} (hn:n∈xNames) (hc:YS K n C):RelD K H (.ref C) (.cls n)
 | fn {C:Addr} {n:Str} (hc:YS K n C):RelD K H (.ref C) (.fn n)
 | sd {a:Addr} {xs:List Str} {vs:List V} {ds:List D} (h:TabK K a xs vs) (r:RelDs K H vs ds):RelD K H (.ref a) (.sd xs ds)
 | fd {a:Addr} {xs:List Str} {vs:List V} {ds:List D} (h:FdK H a xs vs) (r:RelDs K H vs ds):RelD K H (.ref a) (.fd xs ds)
 | exc {a C:Addr} {n:Str} (hn:n∈xNames) (hi:n ∉ xInit) (hc:YS K n C) (h:H a=some (.ext (GW a C none))):RelD K H (.ref a) (.exc n .non)
 | excF {a C d:Addr} {n:Str} {v:V} {x:D} (hn:n∈xNames) (hi:n∈xInit) (hc:YS K n C) (h:H a=some (.ext (GW a C (some d)))) (hd:H d=some (.ext (WM d (Yu n) v))) (r:RelD K H v x):RelD K H (.ref a) (.exc n x)
inductive RelDs (K:Frag) (H:Hp):List V->List D->Prop
 | nil:RelDs K H [] []
 | cons {v:V} {d:D} {vs:List V} {ds:List D} (h:RelD K H v d) (r:RelDs K H vs ds):RelDs K H (v::vs) (d::ds)
end
structure HExt (K:Frag) (H H':Hp):Prop where
 tup:∀ a vs,SqT K H a vs->SqT K H' a vs
 fz:∀ a vs,SqF K H a vs->SqF K H' a vs
 ex:∀ a φ,H a=some (.ext φ)->H' a=some (.ext φ)
 fd:∀ a o kws,H a=some (.frz o (.dK kws))->H' a=some (.frz o (.dK kws))
theorem HExt.refl {K:Frag} (H:Hp):HExt K H H:=⟨fun _ _ h=>h,fun _ _ h=>h,fun _ _ h=>h,fun _ _ _ h=>h⟩
theorem HExt.trans {K:Frag} {H H1 H2:Hp} (a:HExt K H H1) (b:HExt K H1 H2):HExt K H H2:=⟨fun p vs h=>b.tup p vs (a.tup p vs h),fun p vs h=>b.fz p vs (a.fz p vs h),fun p C h=>b.ex p C (a.ex p C h),fun p o kws h=>b.fd p o kws (a.fd p o kws h)⟩
noncomputable def MutL:HO->Prop
 | .lst _=>True
 | .dK _=>True
 | .ins _ _ _=>True
 | _=>False
theorem HExt.upd {K:Frag} {H:Hp} {p:Addr} {o:HO} (h:H p=none\/∃ u,H p=some u/\MutL u):HExt K H (L2.upd H p o):=by
 refine⟨fun a vs q=>?_,fun a vs q=>?_,fun a C q=>?_,fun a ob kws q=>?_⟩
 ·rcases q with (q|⟨ob,q⟩)|q
  ·refine .inl (.inl ?_)
   rw[Yc];exact q;rintro rfl;rcases h with h|⟨u,h,m⟩
   ·rw[h] at q;cases q
   ·rw[h] at q;cases q;exact m
  ·refine .inl (.inr ⟨ob,?_⟩)
   rw[Yc];exact q;rintro rfl;rcases h with h|⟨u,h,m⟩
   ·rw[h] at q;cases q
   ·rw[h] at q;cases q;exact m
  ·exact .inr q
 ·rcases q with ⟨ob,q⟩|q
  ·refine .inl ⟨ob,?_⟩
   rw[Yc];exact q;rintro rfl;rcases h with h|⟨u,h,m⟩
   ·rw[h] at q;cases q
   ·rw[h] at q;cases q;exact m
  ·exact .inr q
 ·rw[Yc];exact q
  rintro rfl;rcases h with h|⟨u,h,m⟩
  ·rw[h] at q;cases q
  ·rw[h] at q;cases q;exact m
 ·rw[Yc];exact q
  rintro rfl;rcases h with h|⟨u,h,m⟩
  ·rw[h] at q;cases q
  ·rw[h] at q;cases q;exact m
theorem RelDs.ext {K:Frag} {H H':Hp} (x:HExt K H H') {vs:List V} {ds:List D} (h:RelDs K H vs ds):RelDs K H' vs ds:=by
 induction h using RelDs.rec (motive_1:=fun v d _=>RelD K H' v d) with
 | non=>exact .non
 | bl b=>exact .bl b
 | int i=>exact .int i
 | str y=>exact .str y
 | ty n=>exact .ty n
 | tup h r ih=>exact .tup (x.tup _ _ h) ih
 | fz h r ih=>exact .fz (x.fz _ _ h) ih
 | lst a=>exact .lst a
 | dct a=>exact .dct a
 | ref a=>exact .ref a
 | cls hn h=>exact .cls hn h
 | fn h=>exact .fn h
 | sd h r ih=>exact .sd h ih
 | fd h r ih=>exact .fd ⟨h.1,h.2.elim fun o e=>⟨o,x.fd _ _ _ e⟩⟩ ih
 | exc hn hi hc h=>exact .exc hn hi hc (x.ex _ _ h)
 | excF hn hi hc h hd r ih=>exact .excF hn hi hc (x.ex _ _ h) (x.ex _ _ hd) ih
 | nil=>exact .nil
 | cons h r i1 i2=>exact .cons i1 i2
theorem RelD.ext {K:Frag} {H H':Hp} (x:HExt K H H') {v:V} {d:D} (h:RelD K H v d):RelD K H' v d:=by
 cases RelDs.ext x (.cons h .nil) with
 | cons h _=>exact h
inductive ExD (K:Frag) (H:Hp) (n:Str):Option Addr->D->Prop
 | plain (hi:n ∉ xInit):ExD K H n none .non
 | fld {d:Addr} {v:V} {x:D} (hi:n∈xInit) (hd:H d=some (.ext (WM d (Yu n) v))) (r:RelD K H v x):ExD K H n (some d) x
noncomputable def xarg:D->D
 | .exc _ x=>x
 | d=>d
@[simp] theorem K9 (n:Str) (x:D):xarg (.exc n x)=x:=rfl
section
variable {K:Frag} {H:Hp}
theorem RelDs.length:∀ {vs:List V} {ds:List D},RelDs K H vs ds->vs.length=ds.length
 | _,_,.nil=>rfl
 | _,_,.cons _ r=>congrArg (·+1) (RelDs.length r)
theorem RelDs.append:∀ {vs ws:List V} {ds es:List D},RelDs K H vs ds->RelDs K H ws es->RelDs K H (vs++ws) (ds++es)
 | _,_,_,_,.nil,q=>q
 | _,_,_,_,.cons h r,q=>.cons h (RelDs.append r q)
theorem RelDs.drop:∀ {vs:List V} {ds:List D} (n:Nat),RelDs K H vs ds->RelDs K H (vs.drop n) (ds.drop n)
 | _,_,0,r=>r
 | _,_,_+1,.nil=>.nil
 | _,_,n+1,.cons _ r=>RelDs.drop n r
theorem RelDs.take:∀ {vs:List V} {ds:List D} (n:Nat),RelDs K H vs ds->RelDs K H (vs.take n) (ds.take n)
 | _,_,0,_=>.nil
 | _,_,_+1,.nil=>.nil
 | _,_,n+1,.cons h r=>.cons h (RelDs.take n r)
theorem RelDs.get:∀ {vs:List V} {ds:List D} {i:Nat} {d:D},RelDs K H vs ds->ds[i]?=some d->∃ v,vs[i]?=some v/\RelD K H v d
 | _,_,_,_,.nil,e=>by simp at e
 | _,_,0,_,.cons h _,e=>by simp at e;subst e;exact⟨_,rfl,h⟩
 | _,_,i+1,d,.cons _ r,e=>by
  obtain⟨v,h1,h2⟩:=RelDs.get (i:=i) (d:=d) r (by simpa using e);exact⟨v,by simpa using h1,h2⟩
theorem RelDs.set (h:RelD K H v d):∀ {vs:List V} {ds:List D} (i:Nat),RelDs K H vs ds->RelDs K H (vs.set i v) (ds.set i d)
 | _,_,_,.nil=>.nil
 | _,_,0,.cons _ r=>.cons h r
 | _,_,i+1,.cons q r=>.cons q (RelDs.set h i r)
theorem RelDs.ints:∀ (ns:List Int),RelDs K H (ns.map V.int) (ns.map D.int)
 | []=>.nil
 | n::r=>.cons (.int n) (RelDs.ints r)
end
noncomputable def MOk (K:Frag) (H:Hp) (a:Addr):MO->Prop
 | .ls ds=>∃ vs,H a=some (.lst vs)/\RelDs K H vs ds
 | .dk kvs=>∃ kws:List (Key×V),H a=some (.dK kws)/\kws.map (·.1)=kvs.map (·.1)/\RelDs K H (kws.map (·.2)) (kvs.map (·.2))
 | .ob n fs=>∃ (C dx:Addr) (vs:List (Str×V)),YS K n C/\H a=some (.ins C dx vs)/\vs.map (·.1)=fs.map (·.1)/\RelDs K H (vs.map (·.2)) (fs.map (·.2))
noncomputable def RepM (K:Frag) (H:Hp) (M:Mem):Prop:=∀ a o,M a=some o->MOk K H a o
structure LK where
 K:Frag
 ok:Hp->Prop
 mono:∀ H H',HExt K H H'->ok H->ok H'
structure Slots (K:Frag) (H:Hp) (δ:DSt) (σ:L2.St):Prop where
 len:δ.length=σ.length
 slot:∀ (i:Nat) (d:D),δ[i]?=some (some d)->∃ v,σ[i]?=some (some v)/\RelD K H v d
structure RepS (Λ:LK) (H:Hp) (δ:DSt) (σ:L2.St):Prop extends Slots Λ.K H δ σ where
 ok:Λ.ok H
section
variable {K:Frag} {Λ:LK} {H H':Hp} {M:Mem} {δ:DSt} {σ:L2.St}
theorem Slots.ext (x:HExt K H H') (r:Slots K H δ σ):Slots K H' δ σ:=⟨r.len,fun i d e=>let ⟨v,h,q⟩:=r.slot i d e;⟨v,h,q.ext x⟩⟩
theorem RepS.ext (x:HExt Λ.K H H') (r:RepS Λ H δ σ):RepS Λ H' δ σ:=⟨r.toSlots.ext x,Λ.mono _ _ x r.ok⟩
theorem Slots.set (r:Slots K H δ σ) (h:RelD K H v d) (i:Nat):Slots K H (δ.set i (some d)) (σ.set i (some v)):=by
 refine⟨by simp[r.len],fun j e q=>?_⟩;by_cases hj:j=i
 ·subst hj
  by_cases hl:j < δ.length
  ·rw[List.getElem?_set_self hl] at q;cases q
   exact⟨v,List.getElem?_set_self (by rw[<- r.len];exact hl),h⟩
  ·rw[List.getElem?_eq_none (by simp;omega)] at q;cases q
 ·rw[List.getElem?_set_ne (Ne.symm hj)] at q
  obtain⟨u,h1,h2⟩:=r.slot j e q;exact⟨u,by rw[List.getElem?_set_ne (Ne.symm hj)];exact h1,h2⟩
theorem RepS.set (r:RepS Λ H δ σ) (h:RelD Λ.K H v d) (i:Nat):RepS Λ H (δ.set i (some d)) (σ.set i (some v)):=⟨r.toSlots.set h i,r.ok⟩
theorem MOk.fresh (r:MOk K H a o):H a≠none:=by
 cases o with
 | ls ds=>obtain⟨vs,h,_⟩:=r;rw[h];simp
 | dk kvs=>obtain⟨vs,h,_⟩:=r;rw[h];simp
 | ob n fs=>obtain⟨C,dx,vs,_,h,_⟩:=r;rw[h];simp
theorem RepM.none (r:RepM K H M) (h:H p=.none):M p=.none:=by
 cases q:M p with
 | none=>rfl
 | some o=>exact absurd h (r p o q).fresh
theorem MOk.ext (x:HExt K H (upd H p u)) (h:a≠p) (r:MOk K H a o):MOk K (upd H p u) a o:=by
 cases o with
 | ls ds=>obtain⟨vs,e,q⟩:=r;exact⟨vs,by rw[Yc h];exact e,q.ext x⟩
 | dk kvs=>obtain⟨vs,e,k,q⟩:=r;exact⟨vs,by rw[Yc h];exact e,k,q.ext x⟩
 | ob n fs=>obtain⟨C,dx,vs,c,e,k,q⟩:=r;exact⟨C,dx,vs,c,by rw[Yc h];exact e,k,q.ext x⟩
theorem RepM.tup {p:Addr} {vs:List V} (r:RepM K H M) (h:H p=.none):RepM K (upd H p (.tup vs)) M:=fun a o e =>
 (r a o e).ext (.upd (.inl h)) fun z=>by subst z;rw[r.none h] at e;cases e
theorem RepM.lst {p:Addr} {vs:List V} {ds:List D} (r:RepM K H M) (h:H p=.none) (q:RelDs K H vs ds):RepM K (upd H p (.lst vs)) (M.upd p (.ls ds)):=fun a o e=>by
 by_cases z:a=p
 ·subst z;rw[mupd_same] at e;cases e;exact⟨vs,upd_same,q.ext (.upd (.inl h))⟩
 ·rw[YB z] at e;exact (r a o e).ext (.upd (.inl h)) z
theorem RepM.write {p:Addr} {ws vs:List V} {ds:List D} (r:RepM K H M) (h:H p=some (.lst ws)) (q:RelDs K H vs ds):RepM K (upd H p (.lst vs)) (M.upd p (.ls ds)):=fun a o e=>by
 have x:HExt K H (upd H p (.lst vs)):=.upd (.inr ⟨_,h,trivial⟩);by_cases z:a=p
 ·subst z;rw[mupd_same] at e;cases e;exact⟨vs,upd_same,q.ext x⟩
 ·rw[YB z] at e;exact (r a o e).ext x z
theorem RepM.nil:RepM K H (fun _=>Option.none):=fun _ _ e=>by cases e
end
abbrev DE:=DSt->Mem->DK->Prop
abbrev DT:=DSt->Mem->(Bool->Mem->Prop)->Prop
abbrev DA:=DSt->Mem->(List D->Mem->Prop)->Prop
structure DEnds where
 nx:DSt->Mem->Prop
 rt:DK
 bk:DSt->Mem->Prop:=fun _ _=>False
 ct:DSt->Mem->Prop:=fun _ _=>False
 ex:DSt->DK:=fun _ _ _=>False
abbrev DS:=DEnds->DSt->Mem->Prop
abbrev DSp:=List D->Mem->DK->DK->Prop
noncomputable def J5 (H:Hp) (dd:Option Addr):Prop:=dd=none\/∃ d f,dd=some d/\H d=some (.ext (WM d f .non))
structure Thrown (P:Program) (w:World) (outer:List Env) (H:Hp) (s:Shared) (H':Hp) (e C:Addr) (dd:Option Addr) (s':Shared):Prop where
 ex:∃ B,s'.os=s.os/\AllBare s'.gens/\Un (frs outer) [] H H' s.heap s'.heap/\(∀ b o,s.heap.get? b=some o->H b=none->b ∉ frs outer->B.get? b=some o)/\HOk P w H' B/\Flies B outer e (.ref C) dd .none s'.heap
 cl:J5 H' dd->WN s'.heap e
structure Back (P:Program) (w:World) (outer:List Env) (L:Addr) (H:Hp) (s:Shared) (H':Hp) (e C:Addr) (dd:Option Addr) (s':Shared):Prop where
 ex:∃ B,s'.os=s.os/\AllBare s'.gens/\Un (frs outer) [] H H' s.heap s'.heap/\(∀ b o,s.heap.get? b=some o->H b=none->b ∉ frs outer->B.get? b=some o)/\HOk P w H' B/\Flies B outer e (.ref C) dd (rawInt L) s'.heap
 cl:J5 H' dd->WN s'.heap e
noncomputable def CXR (P:Program) (w:World):CXT:=fun outer H s E ev s'=>∃ e C dd H',ev=.ref e/\Thrown P w outer H s H' e C dd s'/\E (.ref C) dd H'
structure XeOk (X:Cx) (rz:Bool) (E:DSt->DK) (H:Hp):Prop where
 fly:∀ pins σ H1 s1 H' e C dd s' δ M' n x,HExt X.K H H'->L2.Inv X pins σ H1 s1->Thrown X.prog X.w X.stack H1 s1 H' e C dd s'->RepM X.K H' M'->Slots X.K H' δ σ->n∈xNames->YS X.K n C->ExD X.K H' n dd x->E δ (.exc n x) M'->X.xe (.ref e) s'
 made:rz=true->∀ pins σ H' h e C dd s' δ M' n x,HExt X.K H H'->L2.Inv X pins σ H' {s' with heap:=h}->Made h s'.heap e (.ref C) dd->(J5 H' dd->WN s'.heap e)->RepM X.K H' M'->Slots X.K H' δ σ->n∈xNames->YS X.K n C->ExD X.K H' n dd x->E δ (.exc n x) M'->X.xe (.ref e) s'
 back:rz=true->∀ pins σ H1 s1 H' e C dd s' δ M' n x,HExt X.K H H'->L2.Inv X pins σ H1 s1->Back X.prog X.w X.stack X.env.locals H1 s1 H' e C dd s'->RepM X.K H' M'->Slots X.K H' δ σ->n∈xNames->YS X.K n C->ExD X.K H' n dd x->E δ (.exc n x) M'->X.xe (.ref e) s'
noncomputable def _root_.L2.Cx.L (X:Cx) (rz:Bool) (E:DSt->DK):LK where
 K:=X.K
 ok:=XeOk X rz E
 mono:=fun H H' x h=>⟨fun pins σ H1 s1 H2 e C dd s' δ M' n xd y=>h.fly pins σ H1 s1 H2 e C dd s' δ M' n xd (x.trans y),fun r pins σ H2 h0 e C dd s' δ M' n xd y=>h.made r pins σ H2 h0 e C dd s' δ M' n xd (x.trans y),fun r pins σ H1 s1 H2 e C dd s' δ M' n xd y=>h.back r pins σ H1 s1 H2 e C dd s' δ M' n xd (x.trans y)⟩
abbrev X0:DSt->DK:=fun _ _ _=>False
theorem Cu:XeOk X rz X0 H:=⟨fun _ _ _ _ _ _ _ _ _ _ _ _ _ _ _ _ _ _ _ _ _ z=>z.elim,fun _ _ _ _ _ _ _ _ _ _ _ _ _ _ _ _ _ _ _ _ _ _ z=>z.elim,fun _ _ _ _ _ _ _ _ _ _ _ _ _ _ _ _ _ _ _ _ _ _ z=>z.elim⟩
section
variable (Λ:LK) (K:Frag)
noncomputable def lift (t:DE):TE:=fun σ H Q=>∃ δ M R,RepS Λ H δ σ/\RepM Λ.K H M/\t δ M R/\∀ d M' v H',HExt Λ.K H H'->RepM Λ.K H' M'->RelD Λ.K H' v d->R d M'->Q v H'
noncomputable def Zh (t:DT):TT:=fun σ H Q=>∃ δ M R,RepS Λ H δ σ/\RepM Λ.K H M/\t δ M R/\∀ b M' H',HExt Λ.K H H'->RepM Λ.K H' M'->R b M'->Q b H'
noncomputable def Zj (t:DA):TA:=fun σ H Q=>∃ δ M R,RepS Λ H δ σ/\RepM Λ.K H M/\t δ M R/\∀ ds M' vs H',HExt Λ.K H H'->RepM Λ.K H' M'->RelDs Λ.K H' vs ds->R ds M'->Q vs H'
noncomputable def Yt (X:Cx) (rz:Bool) (t:DS):TS:=fun E σ H=>∃ δ M D,RepS (X.L rz D.ex) H δ σ/\RepM X.K H M/\t D δ M /\
 (∀ δ' M' σ' H',HExt X.K H H'->RepS (X.L rz D.ex) H' δ' σ'->RepM X.K H' M'->D.nx δ' M'->E.nx σ' H') /\
 (∀ d M' v H',HExt X.K H H'->RepM X.K H' M'->RelD X.K H' v d->D.rt d M'->E.rt v H') /\
 (∀ δ' M' σ' H',HExt X.K H H'->RepS (X.L rz D.ex) H' δ' σ'->RepM X.K H' M'->D.bk δ' M'->E.bk σ' H') /\
 (∀ δ' M' σ' H',HExt X.K H H'->RepS (X.L rz D.ex) H' δ' σ'->RepM X.K H' M'->D.ct δ' M'->E.ct σ' H')
noncomputable def Zk (f:D->D->Mem->DK->Prop):R2:=fun x y H Q=>∃ d e M R,RelD K H x d/\RelD K H y e/\RepM K H M/\f d e M R/\∀ d' M' v H',HExt K H H'->RepM K H' M'->RelD K H' v d'->R d' M'->Q v H'
noncomputable def Xs (f:List D->Mem->DK->Prop):List V->Hp->VK->Prop:=fun xs H Q=>∃ ds M R,RelDs K H xs ds/\RepM K H M/\f ds M R/\∀ d' M' v H',HExt K H H'->RepM K H' M'->RelD K H' v d'->R d' M'->Q v H'
noncomputable def XW (S:DSp):Sp:=fun xs H Q E=>∃ ds M R Ed,RelDs K H xs ds/\RepM K H M/\S ds M R Ed/\(∀ d' M' v H',HExt K H H'->RepM K H' M'->RelD K H' v d'->R d' M'->Q v H') /\
 ∀ n M' H' C dd x,HExt K H H'->RepM K H' M'->n∈xNames->YS K n C->ExD K H' n dd x->Ed (.exc n x) M'->E (.ref C) dd H'
end
theorem _root_.L2.PE.imp (h:PE X e t) (i:∀ σ H Q,t' σ H Q->t σ H Q):PE X e t':=fun pins s σ H Q I q=>h pins s σ H Q I (i _ _ _ q)
theorem _root_.L2.PT.imp (h:PT X e t) (i:∀ σ H Q,t' σ H Q->t σ H Q):PT X e t':=fun pins s σ H Q I q=>h pins s σ H Q I (i _ _ _ q)
theorem _root_.L2.PA.imp (h:PA X e t) (i:∀ σ H Q,t' σ H Q->t σ H Q):PA X e t':=fun pos pins s σ H Q I q=>h pos pins s σ H Q I (i _ _ _ q)
theorem _root_.L2.PSs.imp (h:PSs X e t) (i:∀ D σ H,t' D σ H->t D σ H):PSs X e t':=fun pins s σ H D I q=>h pins s σ H D I (i _ _ _ q)
theorem _root_.L2.OpR.imp (h:OpR X f r) (i:∀ x y H Q,r' x y H Q->r x y H Q):OpR X f r':=fun pins s σ H x y v u Q I a b q=>h pins s σ H x y v u Q I a b (i _ _ _ _ q)
theorem _root_.L2.CallR.imp (h:CallR X f r) (i:∀ x H Q,r' x H Q->r x H Q):CallR X f r':=fun pins s σ H x u Q I a q=>h pins s σ H x u Q I a (i _ _ _ q)
noncomputable def vHd:Option D->(D->Prop)->Prop
 | some d,P=>P d
 | none,_=>False
noncomputable def vAt:DSt->Nat->(D->Prop)->Prop
 | x::_,0,P=>vHd x P
 | _::r,i+1,P=>vAt r i P
 | [],_,_=>False
theorem Cw:∀ {δ:DSt} {i:Nat} {P:D->Prop},vAt δ i P->∃ d,δ[i]?=some (some d)/\P d
 | some d::_,0,_,h=>⟨d,rfl,h⟩
 | _::r,i+1,_,h=>Cw (δ:=r) h
theorem JW:∀ {δ:DSt} {i:Nat} {P:D->Prop} {d:D},δ[i]?=some (some d)->P d->vAt δ i P
 | some d::_,0,_,_,e,h=>by cases e;exact h
 | none::_,0,_,_,e,_=>by cases e
 | _::r,i+1,P,_,e,h=>show vAt r i P from JW (by simpa using e) h
noncomputable def dVar (i:Nat):DE:=fun δ M Q=>vAt δ i fun d=>Q d M
noncomputable def dC (d:D):DE:=fun _ M Q=>Q d M
noncomputable def d2 (f:D->D->Mem->DK->Prop) (ta tb:DE):DE:=fun δ M Q=>ta δ M fun x M1=>tb δ M1 fun y M2=>f x y M2 Q
noncomputable def d1 (f:D->Mem->DK->Prop) (ta:DE):DE:=fun δ M Q=>ta δ M fun x M1=>f x M1 Q
noncomputable def dNil:DA:=fun _ M Q=>Q [] M
noncomputable def YY (ta:DE) (tr:DA):DA:=fun δ M Q=>ta δ M fun x M1=>tr δ M1 fun xs M2=>Q (x::xs) M2
noncomputable def dTup (t:DA):DE:=fun δ M Q=>t δ M fun xs M1=>xs.length<=sizeLine/\Q (.tup xs) M1
noncomputable def dLst (t:DA):DE:=fun δ M Q=>t δ M fun xs M1=>xs.length<=sizeLine/\alloc M1 (.ls xs) fun p M'=>Q (.lst p) M'
noncomputable def dCB (f:List D->Mem->DK->Prop) (t:DA):DE:=fun δ M Q=>t δ M fun xs M1=>f xs M1 Q
noncomputable def Zl (S:DSp) (E:DSt->DK) (t:DA):DE:=fun δ M Q=>t δ M fun xs M1=>S xs M1 Q (E δ)
noncomputable def Bk (t:DE):DT:=fun δ M Q=>t δ M fun x M1=>∃ k,x=.bl k/\Q k M1
noncomputable def dAnd (t u:DT):DT:=fun δ M Q=>t δ M fun c M1=>if c=true then u δ M1 Q else Q false M1
noncomputable def dOr (t u:DT):DT:=fun δ M Q=>t δ M fun c M1=>if c=true then Q true M1 else u δ M1 Q
noncomputable def dNot (t:DT):DT:=fun δ M Q=>t δ M fun c M1=>Q (!c) M1
noncomputable def Bo (ta tb:DE):DE:=fun δ M Q=>ta δ M fun x M1=>∃ c,x=.bl c/\if c=true then tb δ M1 Q else Q (.bl false) M1
noncomputable def dOrV (ta tb:DE):DE:=fun δ M Q=>ta δ M fun x M1=>∃ c,x=.bl c/\if c=true then Q (.bl true) M1 else tb δ M1 Q
noncomputable def dIfE (c:DT) (ta tb:DE):DE:=fun δ M Q=>c δ M fun b M1=>if b=true then ta δ M1 Q else tb δ M1 Q
section
variable {X:Cx} {rz:Bool} {E:DSt->DK} {a b c:Expr} {ta tb tc:DE} {pos:Pos}
theorem seq2 {Λ:LK} {σ:L2.St} {H:Hp} {δ:DSt} {M:Mem} {R:D->D->Mem->Prop} {Q:V->V->Hp->Prop} (rs:RepS Λ H δ σ) (rm:RepM Λ.K H M) (h:ta δ M fun x M1=>tb δ M1 fun y M2=>R x y M2)
  (q:∀ x y M2 v u H2,HExt Λ.K H H2->RepM Λ.K H2 M2->RelD Λ.K H2 v x->RelD Λ.K H2 u y->R x y M2->Q v u H2):lift Λ ta σ H fun v H1=>lift Λ tb σ H1 fun u H2=>Q v u H2 :=
 ⟨δ,M,_,rs,rm,h,fun _ _ _ _ x1 m1 r1 h1=>⟨δ,_,_,rs.ext x1,m1,h1,fun _ _ _ _ x2 m2 r2 h2=>q _ _ _ _ _ _ (x1.trans x2) m2 (r1.ext x2) r2 h2⟩⟩
theorem IL (h:PE X a (tVar i)):PE X a (lift (X.L rz E) (dVar i)):=by
 refine h.imp ?_;rintro σ H Q ⟨δ,M,R,rs,rm,t,q⟩;obtain⟨d,e,r⟩:=Cw t;obtain⟨v,h1,h2⟩:=rs.slot i d e;exact⟨v,h1,q _ _ _ _ (.refl H) rm h2 r⟩
theorem Ww (h:PE X a (tC v)) (r:∀ H,RelD X.K H v d):PE X a (lift (X.L rz E) (dC d)):=by
 refine h.imp ?_;rintro σ H Q ⟨δ,M,R,rs,rm,t,q⟩;exact q _ _ _ _ (.refl H) rm (r H) t
theorem Bp (h:lift Λ (d2 f ta tb) σ H Q):tOp (Zk Λ.K f) (lift Λ ta) (lift Λ tb) σ H Q:=by
 obtain⟨δ,M,R,rs,rm,t,q⟩:=h;exact seq2 (R:=fun x y M2=>f x y M2 R) rs rm t fun x y M2 v u H2 x2 m2 r1 r2 t2=>⟨x,y,M2,R,r1,r2,m2,t2,fun d M' w H' x3 m3 r3=>q d M' w H' (x2.trans x3) m3 r3⟩
theorem IV (ho:OpR X (binaryOp op) (Zk X.K f)) (ha:PE X a (lift (X.L rz E) ta)) (hb:PE X b (lift (X.L rz E) tb)):PE X (.BinOp a op b pos) (lift (X.L rz E) (d2 f ta tb)) :=
 (Kr ho ha hb).imp fun _ _ _=>Bp
end
end DL
end
noncomputable section
namespace DL
open PySem PySem.Spec PyProof.Rows L2
theorem Z5:fillsNumberSlot (.type "tuple") "mul"=pure false :=
 PySem.fillsNumberSlot_seq (id:="tuple.__mul__") (r:=some (.builtin "tuple.__rmul__")) PySem.F.slot_tuple_mul.lookup (by decide +kernel) PySem.F.slot_tuple_rmul.lookup (by decide +kernel)
theorem X5:seqRepeat? (.type "tuple")=pure (some (.builtin "tuple.__mul__")):=by
 unfold seqRepeat?;rw[PySem.seqSlot_of (T:="tuple") (name:="__mul__") (id:="tuple.__mul__") PySem.F.slot_tuple_mul.lookup (by decide +kernel),PySem.seqSlot_of (T:="tuple") (name:="__rmul__") (id:="tuple.__rmul__") PySem.F.slot_tuple_rmul.lookup (by decide +kernel)]
 rfl
theorem Zy (a:Int) (t:Tok) (l:Addr) (items:Array Value) (n:Nat) (dd:Option Addr) (sl:Array (Option Value)) :
  Meets (Builtin.«int.__rmul__» ⟨[.int a t,.ref l],[]⟩) (fun _ R s=>s.heap.get? l=some {cls:=.type "tuple",dict:=dd,data:=.seq items n,slots:=sl}/\R (.ok (.ret Value.notImplemented)) s) :=
 .of_wp fun prog w A R s h=>by obtain⟨hp,g,d,tk,os⟩:=s;obtain⟨hl,h⟩:=h;wp_walk;exact⟨_,rfl,h⟩
theorem Bx (l:Addr) (items:Array Value) (n:Nat) (dd:Option Addr) (sl:Array (Option Value)) (x:Int) (u:Tok) (h0:¬ items.isEmpty=true) (h2:2<=x) (h3:x<1000000) (hs:items.size*x.toNat<=16777216) :
  Meets (Builtin.«tuple.__mul__» ⟨[.ref l,.int x u],[]⟩) (fun _ R s=>s.heap.get? l=some {cls:=.type "tuple",dict:=dd,data:=.seq items n,slots:=sl}/\R (.ok (.ret (Value.ref s.heap.objs.size))) {s with heap:=s.heap.push {cls:=Value.type "tuple",data:=Data.seq (List.foldl (fun x1 x2=>x1++x2) #[] (List.replicate x.toNat items))}}) :=
 .of_wp fun prog w A R s h=>by
  obtain⟨hp,g,d,tk,os⟩:=s;obtain⟨hl,h⟩:=h;have c1:¬ (decide (x < -2 ^ 63) || decide (x ≥ 2 ^ 63))=true:=by simp;omega
  have c2:¬ (items.isEmpty || x==1)=true:=by
   have:¬ x=1:=by omega
   simp[this];simpa using h0
  have c3:¬ (decide (x<=0) || items.isEmpty)=true:=by
   have:¬ x<=0:=by omega
   simp[this];simpa using h0
  have e:(items.size:Int)*x=((items.size*x.toNat:Nat):Int):=by
   rw[Int.natCast_mul,Int.toNat_of_nonneg %[|5]]
  have c4:¬ ((items.size:Int)*x > (2 ^ 63-1) / 8):=by rw[e];omega
  have c5:¬ Builtin.Tuple.tupleTooMany ((items.size:Int)*x)=true:=by
   rw[Bool.not_eq_true];unfold Builtin.Tuple.tupleTooMany;rw[e];refine decide_eq_false ?_;have:(sizeLine:Int)=16777216:=by decide
   omega
  have c6:¬ (List.foldl (fun x1 x2=>x1++x2) #[] (List.replicate x.toNat items)).size > sizeLine:=by
   have:(List.foldl (fun x1 x2=>x1++x2) #[] (List.replicate x.toNat items)).size=x.toNat*items.size:=by
    have:=XM items.toList x.toNat [];rw[List.nil_append] at this;have e2:(List.foldl (fun x1 x2=>x1++x2) #[] (List.replicate x.toNat items))=(List.replicate x.toNat items.toList).flatten.toArray:=this;rw[e2,List.size_toArray,UR];simp
   rw[this,Nat.mul_comm];exact Nat.not_lt.mpr hs
  wp_walk
  iterate 5
   (try (first|refine wpAny_ite_false (decide_eq_false c1) ?_|refine wpAny_ite_false (decide_eq_false c2) ?_|refine wpAny_ite_false (decide_eq_false c3) ?_|refine wpAny_ite_false (decide_eq_false c4) ?_|refine wpAny_ite_false (decide_eq_false c5) ?_))
   (try wp_walk)
  exact⟨_,rfl,h⟩
section
variable {X:Cx}
noncomputable def Kk (K:Frag):R2:=fun x y H Q=>∃ a k xs,x=.ref a/\y=.int k/\SqT K H a xs/\xs≠[]/\2<=k/\k<1000000/\xs.length*k.toNat<=sizeLine /\
 ∀ p,H p=none->Q (.ref p) (upd H p (.tup (List.replicate k.toNat xs).flatten))
theorem Fy:OpR X (binaryOp .Mult) (Kk X.K):=by
 intro pins s σ H x y v u Q I rx ry h;obtain⟨a,k,xs,rfl,rfl,ha,hx,h1,h2,hz,q⟩:=h;cases rx;obtain⟨t,rfl⟩:=ry;obtain⟨its,r1,p1,_⟩:=I.tuple ha;obtain⟨⟨cls,dd,data,sl⟩,ho,hc,n,hd⟩:=id p1;simp only at hc hd;subst hc hd;have hnew:List.foldl (fun x1 x2=>x1++x2) #[] (List.replicate k.toNat its.toArray)=(List.replicate k.toNat its).flatten.toArray:=by
  have:=XM its k.toNat [];rw[List.nil_append] at this;exact this
 have hne:¬ its.toArray.isEmpty=true:=by
  have:its≠[]:=fun z=>hx (r1.nil_iff.mp z)
  simpa using this
 have hl:xs.length=its.length:=r1.length;refine wpAny_binaryOp_repeat_ref (T:="tuple") (U:="int") %[|4] ⟨_,ho,rfl⟩ (fun s'=>typeIs_int s' k t) Z5 PySem.F.fills_int_mul PySem.F.slot_int_rmul X5 PySem.F.slot_int_index.lookup
  (call_meets PySem.F.slot_int_rmul (typeIs_int s k t) PySem.F.entry_int_rmul (PySem.F.args_int_rmul_2 _ _) (Zy k t a its.toArray n dd sl)
   ⟨ho,rfl,⟨_,ho,rfl⟩,call_meets PySem.F.slot_tuple_mul ⟨_,ho,rfl⟩ PySem.F.entry_tuple_mul (PySem.F.args_tuple_mul_2 _ _) (Bx a its.toArray n dd sl k t hne h1 h2 (by rw[List.size_toArray,<- hl];exact hz)) ⟨ho,?_⟩⟩)
 rw[hnew];refine⟨.ref s.heap.objs.size,_,I.laid (t':=s.toks) (o:=.tup (List.replicate k.toNat xs).flatten) (fun b ob q=>Heap.get?_push_of_some _ q) %[|3] ?_,rfl,q _ (I.hok.fresh %[|3])⟩;exact⟨by rw[UR,Nat.mul_comm];exact hz,_,r1.rep k.toNat,IsTup.new _ _⟩
end
end DL
end
noncomputable section
namespace DL
open PySem PySem.Spec PyProof.Rows L2
section
variable {prog:Program} {w:World} {A:Around} {E:Value->Shared->Prop} {s:Shared}
open HT
theorem XO {t sl:Addr} {items:Array Value} {vl vu:Value} {lo hi:Option Int} {Q:Value->Shared->Prop} (ht:IsTup s.heap t items) (hs:s.heap.IsSliceOf sl vl vu .none) (pl:IsPart vl lo) (pu:IsPart vu hi)
  (hw:sIx items.size 0 lo=0/\sIx items.size items.size hi=items.size) (h:Q (.ref t) s):wpAny (model prog w) A (getItem (.ref t) (.ref sl)) Q E s:=by
 obtain⟨os,hos,hcs,hds⟩:=id hs;have hTs:s.TypeIs (.ref sl) "slice":=⟨os,hos,hcs⟩;unfold getItem
 try with_reducible refine wpAny_holding ?_
 first|refine wpAny_bind (wpAny_pure ?_)|skip
 refine wpAny_bind (wpAny_sequenceKey ht.typeIs %[|4] ?_);refine wpAny_bind (wpAny_callSpecial?_slot (name:=Str.ofString "__getitem__") ht.typeIs PyProof.Rows.slot_tuple_getitem
  (wpAny_call_entry PyProof.Rows.slot_tuple_getitem ht.typeIs entry_tuple_getitem ?_ (args_tuple_getitem _ _)))
 show wpAny _ _ (Builtin.Tuple.tupleItemsOf (.ref t) >>= _) _ _ s;refine wpAny_bind (tupleItemsOf_ ht ?_);refine wpAny_bind (wpAny_typeOf hTs ?_);rw[if_pos %[|4]];refine wpAny_bind (ZS hs pl pu ?_);rw[hw.1,hw.2];show wpAny _ _ (if (((0:Nat):Int)==0&&(1:Int)==1&&(items.size-0)==items.size)=true then _ else _) _ _ s;rw[if_pos (by simp)];have hT:=ht.typeIs;unfold Builtin.Tuple.tupleIsExact;refine wpAny_bind (wpAny_bind (wpAny_typeOf hT ?_));refine wpAny_pure ?_;rw[if_pos %[|4]];refine wpAny_bind (wpAny_rule ?_);exact wpAny_pure ⟨_,rfl,wpAny_pure h⟩
end
theorem A2 (l:Addr) (items:Array Value) (n:Nat) (dd:Option Addr) (sl:Array (Option Value)) (x:Int) (u:Tok) (h0:(items.isEmpty || x==1)=true) (h2:0<=x) (h3:x<1000000) :
  Meets (Builtin.«tuple.__mul__» ⟨[.ref l,.int x u],[]⟩) (fun _ R s=>s.heap.get? l=some {cls:=.type "tuple",dict:=dd,data:=.seq items n,slots:=sl}/\R (.ok (.ret (Value.ref l))) s) :=
 .of_wp fun prog w A R s h=>by
  obtain⟨hp,g,d,tk,os⟩:=s;obtain⟨hl,h⟩:=h;have c1:¬ (decide (x < -2 ^ 63) || decide (x ≥ 2 ^ 63))=true:=by simp;omega
  wp_walk
  iterate 5
   (try (first|refine wpAny_ite_false (decide_eq_false c1) ?_|refine wpAny_ite_true (decide_eq_true h0) ?_))
   (try wp_walk)
  exact⟨_,rfl,h⟩
theorem A3 (l:Addr) (items:Array Value) (n:Nat) (dd:Option Addr) (sl:Array (Option Value)) (u:Tok) (h0:¬ items.isEmpty=true) :
  Meets (Builtin.«tuple.__mul__» ⟨[.ref l,.int 0 u],[]⟩) (fun _ R s=>s.heap.get? l=some {cls:=.type "tuple",dict:=dd,data:=.seq items n,slots:=sl}/\R (.ok (.ret (Value.ref s.heap.objs.size))) {s with heap:=s.heap.push {cls:=Value.type "tuple",data:=Data.seq #[]}}) :=
 .of_wp fun prog w A R s h=>by
  obtain⟨hp,g,d,tk,os⟩:=s;obtain⟨hl,h⟩:=h;have c2:¬ (items.isEmpty || (0:Int)==1)=true:=by simpa using h0
  have c3:(decide ((0:Int)<=0) || items.isEmpty)=true:=by simp
  wp_walk
  iterate 5
   (try (first|refine wpAny_ite_false (decide_eq_false c2) ?_|refine wpAny_ite_true (decide_eq_true c3) ?_))
   (try wp_walk)
  exact⟨_,rfl,h⟩
section
variable {X:Cx}
theorem Fb:SlR X (fun x lo hi H Q=>∃ a xs,x=.ref a/\SqT X.K H a xs/\(HT.sIx xs.length 0 lo=0/\HT.sIx xs.length xs.length hi=xs.length)/\Q (.ref a) H):=by
 intro pins s σ H x v vl vu lo hi sl Q I rx hs pl pu h;obtain⟨a,xs,rfl,hx,hw,q⟩:=h;cases rx;obtain⟨its,r,ht,hz⟩:=I.tuple hx;have hlen:its.toArray.size=xs.length:=by rw[List.size_toArray];exact r.length.symm
 refine⟨"tuple",_,PyProof.Rows.slot_tuple_getitem.lookup,ht.typeIs,?_⟩;exact XO ht hs pl pu (by rw[hlen];exact hw) ⟨.ref a,H,I,rfl,q⟩
theorem Dh:OpR X (binaryOp .Add) (fun x y H Q=>∃ a b ys,x=.ref a/\y=.ref b/\SqT X.K H a []/\SqT X.K H b ys/\Q (.ref b) H):=by
 intro pins s σ H x y v u Q I rx ry h;obtain⟨a,b,ys,rfl,rfl,ha,hb,q⟩:=h;cases rx;cases ry;obtain⟨its,r1,p1,_⟩:=I.tuple ha;obtain⟨its2,r2,p2,_⟩:=I.tuple hb;cases r1;obtain⟨⟨cls,dd,data,sl⟩,ho,hc,n,hd⟩:=id p1;obtain⟨⟨cls2,dd2,data2,sl2⟩,ho2,hc2,n2,hd2⟩:=id p2;simp only at hc hd hc2 hd2;subst hc hd hc2 hd2;exact concat_meets ⟨_,ho,rfl⟩ ⟨_,ho2,rfl⟩ noFill_tuple_add seq_tuple_add PySem.F.slot_tuple_add PySem.F.entry_tuple_add (PySem.F.args_tuple_add_2 _ _)
  (PyProof.Rows.tuple_addW0 a b _ its2.toArray n n2 dd dd2 sl sl2 rfl) ⟨ho,ho2,.ref b,H,I,rfl,q⟩
theorem Df:OpR X (binaryOp .Mult) (fun x y H Q=>∃ a k xs,x=.ref a/\y=.int k/\SqT X.K H a xs/\(xs=[]\/k=1)/\0<=k/\k<1000000/\Q (.ref a) H):=by
 intro pins s σ H x y v u Q I rx ry h;obtain⟨a,k,xs,rfl,rfl,ha,hx,h1,h2,q⟩:=h;cases rx;obtain⟨t,rfl⟩:=ry;obtain⟨its,r1,p1,_⟩:=I.tuple ha;obtain⟨⟨cls,dd,data,sl⟩,ho,hc,n,hd⟩:=id p1;simp only at hc hd;subst hc hd;have hne:(its.toArray.isEmpty || k==1)=true:=by
  rcases hx with rfl|rfl
  ·cases r1;rfl
  ·simp
 refine wpAny_binaryOp_repeat_ref (T:="tuple") (U:="int") %[|4] ⟨_,ho,rfl⟩ (fun s'=>typeIs_int s' k t) Z5 PySem.F.fills_int_mul PySem.F.slot_int_rmul X5 PySem.F.slot_int_index.lookup
  (call_meets PySem.F.slot_int_rmul (typeIs_int s k t) PySem.F.entry_int_rmul (PySem.F.args_int_rmul_2 _ _) (Zy k t a its.toArray n dd sl)
   ⟨ho,rfl,⟨_,ho,rfl⟩,call_meets PySem.F.slot_tuple_mul ⟨_,ho,rfl⟩ PySem.F.entry_tuple_mul (PySem.F.args_tuple_mul_2 _ _) (A2 a its.toArray n dd sl k t hne h1 h2) ⟨ho,?_⟩⟩)
 exact⟨.ref a,H,I,rfl,q⟩
theorem Dg:OpR X (binaryOp .Mult) (fun x y H Q=>∃ a xs,x=.ref a/\y=.int 0/\SqT X.K H a xs/\xs≠[]/\∀ p,H p=none->Q (.ref p) (upd H p (.tup []))):=by
 intro pins s σ H x y v u Q I rx ry h;obtain⟨a,xs,rfl,rfl,ha,hx,q⟩:=h;cases rx;obtain⟨t,rfl⟩:=ry;obtain⟨its,r1,p1,_⟩:=I.tuple ha;obtain⟨⟨cls,dd,data,sl⟩,ho,hc,n,hd⟩:=id p1;simp only at hc hd;subst hc hd;have hne:¬ its.toArray.isEmpty=true:=by
  have:its≠[]:=fun z=>hx (r1.nil_iff.mp z)
  simpa using this
 refine wpAny_binaryOp_repeat_ref (T:="tuple") (U:="int") %[|4] ⟨_,ho,rfl⟩ (fun s'=>typeIs_int s' 0 t) Z5 PySem.F.fills_int_mul PySem.F.slot_int_rmul X5 PySem.F.slot_int_index.lookup
  (call_meets PySem.F.slot_int_rmul (typeIs_int s 0 t) PySem.F.entry_int_rmul (PySem.F.args_int_rmul_2 _ _) (Zy 0 t a its.toArray n dd sl)
   ⟨ho,rfl,⟨_,ho,rfl⟩,call_meets PySem.F.slot_tuple_mul ⟨_,ho,rfl⟩ PySem.F.entry_tuple_mul (PySem.F.args_tuple_mul_2 _ _) (A3 a its.toArray n dd sl t hne) ⟨ho,?_⟩⟩)
 refine⟨.ref s.heap.objs.size,_,I.laid (t':=s.toks) (o:=.tup []) (fun b ob q=>Heap.get?_push_of_some _ q) %[|3] ?_,rfl,q _ (I.hok.fresh %[|3])⟩;exact⟨Nat.zero_le _,_,.nil,IsTup.new _ _⟩
end
end DL
end
noncomputable section
namespace DL
open PySem PySem.Spec PyProof.Rows L2
section
variable {prog:Program} {w:World} {A:Around} {E:Value->Shared->Prop} {s:Shared}
theorem WW (hj:s.heap.IsTupleIter j b n) (hb:s.heap.IsTuple b vs) (hv:vs[n]?=some v)
  (q:∀ g,g.IsTupleIter j b (n+1)->Heap.SameBut j s.heap g->Q v {s with heap:=g}):wpAny (model prog w) A (Builtin.SmallTypes.nextOf (.ref j)) Q E s:=by
 obtain⟨o,e1,e2,e3⟩:=id hj;obtain⟨p,f1,_,m,f3⟩:=hb;unfold Builtin.SmallTypes.nextOf;refine wpAny_bind (wpAny_callSpecial?_slot (name:=Str.ofString "__next__") hj.typeIs F.slot_tuple_iterator_next (wpAny_call_entry F.slot_tuple_iterator_next hj.typeIs F.entry_tuple_iterator_next ?_ (F.args_tuple_iterator_next_1 _)));show wpAny _ _ (field (.ref j) 0 >>= _) _ _ s;refine wpAny_bind (wpAny_field e1 e3 (x:=.ref b) rfl ?_);show wpAny _ _ (if (Value.ref b==Value.none)=true then _ else _) _ _ s;rw[if_neg (show ¬ ((Value.ref b==Value.none)=true) from Bool.false_ne_true)];show wpAny _ _ (field (.ref j) 1 >>= _) _ _ s;refine wpAny_bind (wpAny_field e1 e3 (x:=.int n 0) rfl ?_);show wpAny _ _ (seqItems? (.ref b) >>= _) _ _ s;refine wpAny_bind (wpAny_seqItems f1 f3 ?_);simp only[Int.toNat_natCast,hv];refine wpAny_bind (wpAny_setField e1 e3 (by simp) (wpAny_pure ⟨v,rfl,wpAny_pure (q _ ?_ (Heap.SameBut.update ..))⟩))
 exact⟨_,Heap.get?_update_self _ e1 (Obj.isFreed_of_fields (Obj.data_mapFields e3 _)),(Obj.cls_mapFields ..).trans e2,by rw[Obj.data_mapFields e3];simp[rawInt]⟩
theorem UI (hh:A.handled=none) (hj:s.heap.IsTupleIter j b n) (hb:s.heap.IsTuple b vs) (hv:vs[n]?=none)
  (q:∀ g e,Heap.ExtBut j s.heap g->(∃ o,g.get? e=some o/\o.cls=.type "StopIteration")->E (.ref e) {s with heap:=g}):wpAny (model prog w) A (Builtin.SmallTypes.nextOf (.ref j)) Q E s:=by
 obtain⟨o,e1,e2,e3⟩:=id hj;obtain⟨p,f1,_,m,f3⟩:=hb;unfold Builtin.SmallTypes.nextOf;refine wpAny_bind (wpAny_callSpecial?_slot (name:=Str.ofString "__next__") hj.typeIs F.slot_tuple_iterator_next (wpAny_call_entry F.slot_tuple_iterator_next hj.typeIs F.entry_tuple_iterator_next ?_ (F.args_tuple_iterator_next_1 _)));show wpAny _ _ (field (.ref j) 0 >>= _) _ _ s;refine wpAny_bind (wpAny_field e1 e3 (x:=.ref b) rfl ?_);show wpAny _ _ (if (Value.ref b==Value.none)=true then _ else _) _ _ s;rw[if_neg (show ¬ ((Value.ref b==Value.none)=true) from Bool.false_ne_true)];show wpAny _ _ (field (.ref j) 1 >>= _) _ _ s;refine wpAny_bind (wpAny_field e1 e3 (x:=.int n 0) rfl ?_);show wpAny _ _ (seqItems? (.ref b) >>= _) _ _ s;refine wpAny_bind (wpAny_seqItems f1 f3 ?_);simp only[Int.toNat_natCast,hv];refine wpAny_bind (wpAny_rule (wpAny_bind (wpAny_setField e1 e3 (by simp) ?_)));show wpAny _ _ (newExc (.type "StopIteration") [] >>= _) _ _ _;refine wpAny_bind ?_;simp only[newExc,newTuple]
 refine wpAny_bind (wpAny_newObj_type ?_ (by size_fits));refine wpAny_bind (m:=firstArgMember _ _) (wpAny_of_eq (a:=Value.none) (by first|rfl|(simp only[firstArgMember];rfl)) ?_);refine wpAny_newObj_type ?_ (by size_fits);simp only[raiseNew];refine wpAny_bind (wpAny_handled ?_)
 (first|rw [show A.in1.handled=none from hh]|rw [hh]);refine wpAny_bind (wpAny_pure (wpAny_throw ?_))
 exact q _ _ (((Heap.SameBut.update ..).extBut.push _).push _) ⟨_,Heap.get?_push_size _ rfl,rfl⟩
theorem ER {z u v i j b c:Addr} {n:Nat} {xs ys:Array Value} {x y a d:Value} {Q:Value->Shared->Prop} (D:ZipApart z u v i j b c)
  (hz:IsZip s.heap z u v .none) (hu:IsPair s.heap u (.ref i) (.ref j)) (hv:IsPair s.heap v a d) (h1:s.heap.IsTupleIter i b n) (h2:s.heap.IsTupleIter j c n) (hb:s.heap.IsTuple b xs) (hc:s.heap.IsTuple c ys) (hx:xs[n]?=some x) (hy:ys[n]?=some y)
  (q:∀ g,IsZip g z u v (rawInt s.heap.objs.size)->IsPair g v x y->g.IsTupleIter i b (n+1)->g.IsTupleIter j c (n+1)->IsPair g s.heap.objs.size x y->g.objs.size=s.heap.objs.size+1 ->
   (∀ k o,k≠z->k≠v->k≠i->k≠j->s.heap.get? k=some o->g.get? k=some o)->Q (.ref s.heap.objs.size) {s with heap:=g}) :
  wpAny (model prog w) A (Builtin.«zip.__next__» ⟨[.ref z],[]⟩) (fun r s'=>∃ t,r=.done (.ret t)/\Q t s') E s:=by
 show wpAny _ _ (field (.ref z) 2 >>= _) _ _ _;refine wpAny_bind (wpAny_field hz rfl (x:=.bool false) rfl ?_);show wpAny _ _ (field (.ref z) 3 >>= _) _ _ _;refine wpAny_bind (wpAny_field hz rfl (x:=.ref u) rfl ?_);refine wpAny_bind (wpAny_seqItems hu rfl ?_);show wpAny _ _ (Builtin.SmallTypes.ownedTupleIsFree (.ref z) >>= _) _ _ _;refine wpAny_bind ?_;unfold Builtin.SmallTypes.ownedTupleIsFree;refine wpAny_bind (wpAny_field hz rfl (x:=.none) rfl (wpAny_pure ?_));simp only[if_true];refine wpAny_bind (wpAny_rule ?_);refine wpAny_bind (wpAny_field hz rfl (x:=.ref v) rfl ?_);refine wpAny_bind (wpAny_setField_rec hz (by simp) fun g1 z1 s1=>?_)
 replace z1:IsZip g1 z u v .ellipsis:=z1
 refine wpAny_bind ?_;simp only[List.zipIdx_cons,List.zipIdx_nil,List.forIn_cons,List.forIn_nil];refine wpAny_bind (wpAny_bind (wpAny_onRaise ?_));show wpAny _ _ (Builtin.SmallTypes.nextOf (.ref i) >>= _) _ _ _;refine wpAny_bind (WW (h1.extBut s1.extBut D.i1z) (hb.extBut s1.extBut D.l1z) hx fun g2 j2 s2=>wpAny_pure ?_);have v2:IsPair g2 v a d:=s2.extBut _ _ D.TOi1 (s1.extBut _ _ D.TOz hv);refine wpAny_bind (wpAny_seqItems v2 rfl ?_);refine wpAny_bind (wpAny_updateSeq_pair v2 fun g3 v3 s3=>?_)
 replace v3:IsPair g3 v x d:=v3
 refine wpAny_bind (wpAny_letGo (wpAny_pure ?_));refine wpAny_bind (wpAny_bind (wpAny_onRaise ?_));show wpAny _ _ (Builtin.SmallTypes.nextOf (.ref j) >>= _) _ _ _;refine wpAny_bind (WW (((h2.extBut s1.extBut D.i2z).extBut s2.extBut D.i12.symm).extBut s3.extBut D.TOi2.symm) (((hc.extBut s1.extBut D.l2z).extBut s2.extBut D.l2i1).extBut s3.extBut D.l2TO) hy fun g4 j4 s4=>wpAny_pure ?_);have v4:IsPair g4 v x d:=s4.extBut _ _ D.TOi2 v3;refine wpAny_bind (wpAny_seqItems v4 rfl ?_);refine wpAny_bind (wpAny_updateSeq_pair v4 fun g5 v5 s5=>?_)
 replace v5:IsPair g5 v x y:=v5
 refine wpAny_bind (wpAny_letGo (wpAny_pure (wpAny_pure ?_)));refine wpAny_bind (wpAny_seqItems v5 rfl ?_);refine wpAny_bind (wpAny_newTuple ?_);have sz:g5.objs.size=s.heap.objs.size:=by rw[s5.1,s4.1,s3.1,s2.1,s1.1]
 have z5:IsZip g5 z u v .ellipsis:=s5.extBut _ _ D.TOz.symm (s4.extBut _ _ D.i2z.symm (s3.extBut _ _ D.TOz.symm (s2.extBut _ _ D.i1z.symm z1)));have k5:∀ k o,k≠z->k≠v->k≠i->k≠j->s.heap.get? k=some o->g5.get? k=some o:=fun k o c1 c2 c3 c4 e=>s5.extBut _ _ c2 (s4.extBut _ _ c4 (s3.extBut _ _ c2 (s2.extBut _ _ c3 (s1.extBut _ _ c1 e))));have a5:g5.IsTupleIter i b (n+1):=((j2.extBut s3.extBut D.TOi1.symm).extBut s4.extBut D.i12).extBut s5.extBut D.TOi1.symm;have b5:g5.IsTupleIter j c (n+1):=j4.extBut s5.extBut D.TOi2.symm;have lz:z<g5.objs.size:=Heap.lt_size z5;show wpAny _ _ (Builtin.SmallTypes.ownedTupleHandOut (.ref z) (.ref g5.objs.size) >>= _) _ _ _;refine wpAny_bind ?_;unfold Builtin.SmallTypes.ownedTupleHandOut;have z6:IsZip (g5.push {cls:=.type "tuple",data:=.seq #[x,y]}) z u v .ellipsis:=Heap.get?_push_of_some _ z5;refine wpAny_bind (wpAny_setField_rec z6 (by simp) fun g7 z7 s7=>?_)
 replace z7:IsZip g7 z u v (rawInt g5.objs.size):=z7
 refine wpAny_setField_rec z7 (by simp) fun g8 z8 s8=>?_
 replace z8:IsZip g8 z u v (rawInt g5.objs.size):=z8
 have up:∀ k o,k≠z->g5.get? k=some o->g8.get? k=some o:=fun k o c1 e=>s8.extBut _ _ c1 (s7.extBut _ _ c1 (Heap.get?_push_of_some _ e));have t8:IsPair g8 g5.objs.size x y:=s8.extBut _ _ (Nat.ne_of_gt lz) (s7.extBut _ _ (Nat.ne_of_gt lz) (Heap.get?_push_size _ rfl));have n8:g8.objs.size=g5.objs.size+1:=by rw[s8.1,s7.1,Heap.size_push]
 rw[sz] at z8 t8 n8;refine wpAny_pure ⟨_,rfl,?_⟩;show Q (.ref g5.objs.size) _;rw[sz];exact q g8 z8 (up _ _ D.TOz v5) (a5.at fun o e=>up _ o D.i1z e) (b5.at fun o e=>up _ o D.i2z e) t8 n8 fun k o c1 c2 c3 c4 e=>up k o c1 (k5 k o c1 c2 c3 c4 e)
theorem GX (hh:A.handled=none) (D:ZipApart z u v i j b c)
  (hz:IsZip s.heap z u v .none) (hu:IsPair s.heap u (.ref i) (.ref j)) (hv:IsPair s.heap v a d) (h1:s.heap.IsTupleIter i b n) (h2:s.heap.IsTupleIter j c n) (hb:s.heap.IsTuple b xs) (hc:s.heap.IsTuple c ys) (he:xs[n]?=none\/ys[n]?=none)
  (q:∀ g e,(∀ k o,k≠z->k≠v->k≠i->k≠j->s.heap.get? k=some o->g.get? k=some o)->(∃ o,g.get? e=some o/\o.cls=.type "StopIteration")->E (.ref e) {s with heap:=g}) :
  wpAny (model prog w) A (Builtin.«zip.__next__» ⟨[.ref z],[]⟩) Q E s:=by
 show wpAny _ _ (field (.ref z) 2 >>= _) _ _ _;refine wpAny_bind (wpAny_field hz rfl (x:=.bool false) rfl ?_);show wpAny _ _ (field (.ref z) 3 >>= _) _ _ _;refine wpAny_bind (wpAny_field hz rfl (x:=.ref u) rfl ?_);refine wpAny_bind (wpAny_seqItems hu rfl ?_);show wpAny _ _ (Builtin.SmallTypes.ownedTupleIsFree (.ref z) >>= _) _ _ _;refine wpAny_bind ?_;unfold Builtin.SmallTypes.ownedTupleIsFree;refine wpAny_bind (wpAny_field hz rfl (x:=.none) rfl (wpAny_pure ?_));simp only[if_true];refine wpAny_bind (wpAny_rule ?_);refine wpAny_bind (wpAny_field hz rfl (x:=.ref v) rfl ?_);refine wpAny_bind (wpAny_setField_rec hz (by simp) fun g1 z1 s1=>?_)
 replace z1:IsZip g1 z u v .ellipsis:=z1
 refine wpAny_bind ?_;simp only[List.zipIdx_cons,List.zipIdx_nil,List.forIn_cons,List.forIn_nil];refine wpAny_bind (wpAny_bind (wpAny_onRaise ?_));show wpAny _ _ (Builtin.SmallTypes.nextOf (.ref i) >>= _) _ _ _;have off:∀ {g:Heap} {e:Addr} {f0:Value},IsZip g z u v f0->(∃ o,g.get? e=some o/\o.cls=.type "StopIteration")->e≠z:=fun hz ⟨o,ho,hs⟩ x=>by subst x;rw[hz] at ho;cases ho;simp at hs
 cases hx:xs[n]? with
 | none =>
  refine wpAny_bind (UI hh (h1.extBut s1.extBut D.i1z) (hb.extBut s1.extBut D.l1z) hx fun g2 e s2 ho=>?_);have z2:IsZip g2 z u v .ellipsis:=s2 _ _ D.i1z.symm z1;have ez:=off z2 ho;obtain⟨o,ho,hs⟩:=ho;refine wpAny_setField_rec z2 (by simp) fun g3 _ s3=>q g3 e (fun k o c1 _ c3 _ x=>s3.extBut _ _ c1 (s2 _ _ c3 (s1.extBut _ _ c1 x))) ⟨o,s3.extBut _ _ ez ho,hs⟩
 | some x =>
  have hy:ys[n]?=none:=by rcases he with h|h;rw[hx] at h;cases h;exact h
  refine wpAny_bind (WW (h1.extBut s1.extBut D.i1z) (hb.extBut s1.extBut D.l1z) hx fun g2 j2 s2=>wpAny_pure ?_);have v2:IsPair g2 v a d:=s2.extBut _ _ D.TOi1 (s1.extBut _ _ D.TOz hv);refine wpAny_bind (wpAny_seqItems v2 rfl ?_);refine wpAny_bind (wpAny_updateSeq_pair v2 fun g3 v3 s3=>?_);refine wpAny_bind (wpAny_letGo (wpAny_pure ?_));refine wpAny_bind (wpAny_bind (wpAny_onRaise ?_));show wpAny _ _ (Builtin.SmallTypes.nextOf (.ref j) >>= _) _ _ _;refine wpAny_bind (UI hh (((h2.extBut s1.extBut D.i2z).extBut s2.extBut D.i12.symm).extBut s3.extBut D.TOi2.symm) (((hc.extBut s1.extBut D.l2z).extBut s2.extBut D.l2i1).extBut s3.extBut D.l2TO) hy fun g4 e s4 ho=>?_);have z4:IsZip g4 z u v .ellipsis:=s4 _ _ D.i2z.symm (s3.extBut _ _ D.TOz.symm (s2.extBut _ _ D.i1z.symm z1));have ez:=off z4 ho;obtain⟨o,ho,hs⟩:=ho;refine wpAny_setField_rec z4 (by simp) fun g5 _ s5=>q g5 e (fun k o c1 c2 c3 c4 x=>s5.extBut _ _ c1 (s4 _ _ c4 (s3.extBut _ _ c2 (s2.extBut _ _ c3 (s1.extBut _ _ c1 x))))) ⟨o,s5.extBut _ _ ez ho,hs⟩
theorem ES (D:ZipApart z u v i j b c)
  (hz:IsZip s.heap z u v .none) (hu:IsPair s.heap u (.ref i) (.ref j)) (hv:IsPair s.heap v a d) (h1:s.heap.IsTupleIter i b n) (h2:s.heap.IsTupleIter j c n) (hb:s.heap.IsTuple b xs) (hc:s.heap.IsTuple c ys) (hx:xs[n]?=some x) (hy:ys[n]?=some y)
  (q:∀ g,IsZip g z u v (rawInt s.heap.objs.size)->IsPair g v x y->g.IsTupleIter i b (n+1)->g.IsTupleIter j c (n+1)->IsPair g s.heap.objs.size x y->g.objs.size=s.heap.objs.size+1 ->
   (∀ k o,k≠z->k≠v->k≠i->k≠j->s.heap.get? k=some o->g.get? k=some o)->Q (some (.ref s.heap.objs.size)) {s with heap:=g}):wpAny (model prog w) A (pyNext (.ref z)) Q E s:=by
 have t:s.TypeIs (.ref z) "zip":=⟨_,hz,rfl⟩;unfold pyNext;exact wpAny_bind (wpAny_attempt (wpAny_callSpecial?_slot (name:=Str.ofString "__next__") t F.slot_zip_next (wpAny_call_entry F.slot_zip_next t F.entry_zip_next (ER D hz hu hv h1 h2 hb hc hx hy fun g a1 a2 a3 a4 a5 a6 a7=>wpAny_pure (q g a1 a2 a3 a4 a5 a6 a7)) (F.args_zip_next_1 _))))
theorem GY (hh:A.handled=none) (D:ZipApart z u v i j b c)
  (hz:IsZip s.heap z u v .none) (hu:IsPair s.heap u (.ref i) (.ref j)) (hv:IsPair s.heap v a d) (h1:s.heap.IsTupleIter i b n) (h2:s.heap.IsTupleIter j c n) (hb:s.heap.IsTuple b xs) (hc:s.heap.IsTuple c ys) (he:xs[n]?=none\/ys[n]?=none)
  (q:∀ g,(∀ k o,k≠z->k≠v->k≠i->k≠j->s.heap.get? k=some o->g.get? k=some o)->Q none {s with heap:=g}):wpAny (model prog w) A (pyNext (.ref z)) Q E s:=by
 have t:s.TypeIs (.ref z) "zip":=⟨_,hz,rfl⟩;unfold pyNext;refine wpAny_bind (wpAny_attempt (wpAny_callSpecial?_slot (name:=Str.ofString "__next__") t F.slot_zip_next (wpAny_call_entry F.slot_zip_next t F.entry_zip_next (GX hh D hz hu hv h1 h2 hb hc he fun g e hk ho=>?_) (F.args_zip_next_1 _))));obtain⟨o,ho,hs⟩:=ho;refine wpAny_bind (wpAny_isInstance (T:="StopIteration") (b:=true) ⟨o,ho,hs⟩ isSubtype_stop ?_);exact wpAny_pure (q _ hk)
end
section
variable {X:Cx} {pins:List (Addr×Obj)} {σ:L2.St} {H:Hp} {s:Shared}
theorem ZA {h':Heap} {t':Nat} {fp:List Addr} (I:Inv X pins σ H s) (k:∀ b o,b ∉ fp->s.heap.get? b=some o->h'.get? b=some o) (f:∀ b∈fp,FpOk X pins H b):Inv X pins σ H {s with heap:=h',toks:=t'}:=by
 have nit:∀ b u,H b=some u->b ∉ fp:=fun b u e z=>by rw[(f b z).1] at e;cases e
 refine I.step (g':=s.gens) (d':=s.drawn) (ch:=fp) (fun b hb=>⟨(f b hb).2.2.2.1,(f b hb).2.1,(f b hb).2.2.2.2.1,(f b hb).2.2.2.2.2⟩) (fun b o _ _ hc e _=>k b o hc e) (fun b o _ _ hc e _=>⟨o.slots,k b o hc e⟩) (fun _ _ _ _ n=>n)
  (fun b o hc e=>⟨o,k b o hc e⟩) (fun _ _ e=>e) (fun _ _ _ e=>e) (fun b ps e=>⟨#[],by rw[e];simp⟩) (fun m hm=>?_) (fun b u e=>?_) I.bare
 ·obtain⟨o,es,ep,ho,r⟩:=hm
  exact⟨o,es,ep,k _ o (fun z=>(f _ z).2.1 rfl) ho,r⟩
 ·refine (I.hok b u e).stay (fun c v hc q=>k c v ?_ q) (fun _ q=>q) fun _ _ q=>q
  rcases hc with z|z
  ·rw[z];exact nit b u e
  ·exact nit c _ z
end
noncomputable def Itz (K:Frag) (b c:Addr):It :=
  ⟨fun i H=>∃ xs ys x y,SqT K H b xs/\SqT K H c ys/\xs[i]?=some x/\ys[i]?=some y,
   fun i H x H'=>∃ T p q,H T=none/\x=.ref T/\H'=upd H T (.tup [p,q])/\(∀ xs,SqT K H b xs->xs[i]?=some p)/\∀ ys,SqT K H c ys->ys[i]?=some q,
   fun i H=>∃ xs ys,SqT K H b xs/\SqT K H c ys/\(xs.length<=i\/ys.length<=i)⟩
noncomputable def zTn (z u v i j b c:Addr) (n:Nat) (h:Heap):Prop:=IsZip h z u v .none/\IsPair h u (.ref i) (.ref j)/\(∃ a d,IsPair h v a d)/\h.IsTupleIter i b n/\h.IsTupleIter j c n
theorem CA {P:Program} {w:World} {K:Frag} {elts:List Expr} {x1:Nat} {pos:Pos} {z u v i j b c:Addr} (D:ZipApart z u v i j b c) :
  Turn P w K (.Tuple elts x1 pos) (Itz K b c) [z,u,v,i,j] z (zTn z u v i j b c) where
 mem:=by simp
 obj:=fun n h st k hk=>by
  obtain⟨hz,hu,⟨a,d,hv⟩,⟨o1,e1,_,d1⟩,⟨o2,e2,_,d2⟩⟩:=st;simp only[List.mem_cons,List.not_mem_nil,or_false] at hk;rcases hk with rfl|rfl|rfl|rfl|rfl
  ·exact⟨_,hz,fun w e=>nomatch e⟩
  ·exact⟨_,hu,fun w e=>nomatch e⟩
  ·exact⟨_,hv,fun w e=>nomatch e⟩
  ·exact⟨_,e1,fun w e=>by rw[d1] at e;cases e⟩
  ·exact⟨_,e2,fun w e=>by rw[d2] at e;cases e⟩
 keep:=fun n h h' st k=>by
  obtain⟨hz,hu,⟨a,d,hv⟩,h1,h2⟩:=st;exact⟨k z (by simp) _ hz,k u (by simp) _ hu,⟨a,d,k v (by simp) _ hv⟩,h1.at fun o e=>k i (by simp) o e,h2.at fun o e=>k j (by simp) o e⟩
 item:=by
  intro X hP hw hK hc n pins s σ H E I hf st hg;subst hP hw hK;obtain⟨hz,hu,⟨a,d,hv⟩,h1,h2⟩:=st;obtain⟨xs,ys,x,y,q1,q2,hx,hy⟩:=hg;obtain⟨its,rv,p,sz1⟩:=I.tuple q1;obtain⟨its',rv',p',sz2⟩:=I.tuple q2;obtain⟨vx,hvx,rx⟩:=rv.get hx;obtain⟨vy,hvy,ry⟩:=rv'.get hy;refine ES D hz hu hv h1 h2 (show s.heap.IsTuple b its.toArray from p) (show s.heap.IsTuple c its'.toArray from p') (x:=vx) (y:=vy) (by simpa using hvx) (by simpa using hvy) fun g a1 a2 a3 a4 a5 a6 a7=>?_;have lt:∀ {k o},s.heap.get? k=some o->k≠s.heap.objs.size:=fun e=>Nat.ne_of_lt (Heap.lt_size e);have li:i≠s.heap.objs.size:=by obtain⟨o,e,_⟩:=h1;exact lt e
  have lj:j≠s.heap.objs.size:=by obtain⟨o,e,_⟩:=h2;exact lt e
  refine⟨_,rfl,wpAny_letOwnedTupleGo_zip a1 fun g' z' sb=>?_⟩;have tp:IsPair g' s.heap.objs.size vx vy:=sb.extBut _ _ (Ne.symm (lt hz)) a5;have nf:H s.heap.objs.size=none:=I.hok.fresh %[|3];have I1:Inv X pins σ (upd H s.heap.objs.size (.tup [x,y])) {s with heap:=s.heap.push {cls:=.type "tuple",data:=.seq #[vx,vy]},toks:=s.toks} :=
   I.laid (fun k o e=>Heap.get?_push_of_some _ e) %[|3] ⟨by simp only[List.length_cons,List.length_nil];rw[sizeLine_eq];decide,[vx,vy],.cons rx (.cons ry .nil),⟨_,Heap.get?_push_size _ rfl,rfl,_,rfl⟩⟩
  have ff:∀ k∈[z,u,v,i,j],k≠s.heap.objs.size:=fun k hk=>by
   simp only[List.mem_cons,List.not_mem_nil,or_false] at hk;rcases hk with rfl|rfl|rfl|rfl|rfl
   ·exact lt hz
   ·exact lt hu
   ·exact lt hv
   ·exact li
   ·exact lj
  have f':∀ k∈[z,u,v,i,j],FpOk X pins (upd H s.heap.objs.size (.tup [x,y])) k:=fun k hk=>⟨by rw[Yc (ff k hk)];exact (hf k hk).1,(hf k hk).2⟩;have I2:Inv X pins σ (upd H s.heap.objs.size (.tup [x,y])) {s with heap:=g',toks:=s.toks}:=by
   refine ZA (s:={s with heap:=s.heap.push {cls:=.type "tuple",data:=.seq #[vx,vy]},toks:=s.toks}) (h':=g') (t':=s.toks) I1 (fun k o hk e=>?_) f';rcases Heap.get?_push_cases e with ⟨rfl,rfl⟩|e'
   ·exact tp
   ·simp only[List.mem_cons,List.not_mem_nil,or_false,not_or] at hk
    exact sb.extBut _ _ hk.1 (a7 k o hk.1 hk.2.2.1 hk.2.2.2.1 hk.2.2.2.2 e')
  refine⟨.ref s.heap.objs.size,_,I2,rfl,⟨_,x,y,nf,rfl,rfl,fun xs' q=>by rw[I.tuple_inj q q1];exact hx,fun ys' q=>by rw[I.tuple_inj q q2];exact hy⟩,?_,fun k hk=>(f' k hk).1⟩;exact⟨z',sb.extBut _ _ D.TIz (a7 _ _ D.TIz D.TITO D.TIi1 D.TIi2 hu),⟨_,_,sb.extBut _ _ D.TOz a2⟩,a3.extBut sb.extBut D.i1z,a4.extBut sb.extBut D.i2z⟩
 done:=by
  intro X hP hw hK hc n pins s σ H E I hf st hg;subst hP hw hK;obtain⟨hz,hu,⟨a,d,hv⟩,h1,h2⟩:=st;obtain⟨xs,ys,q1,q2,hx⟩:=hg;obtain⟨its,rv,p,sz1⟩:=I.tuple q1;obtain⟨its',rv',p',sz2⟩:=I.tuple q2;have l1:=rv.length;have l2:=rv'.length;refine GY (I.ok.hd hc) D hz hu hv h1 h2 (show s.heap.IsTuple b its.toArray from p) (show s.heap.IsTuple c its'.toArray from p') (by rcases hx with hx|hx;exact .inl (by simp;omega);exact .inr (by simp;omega)) fun g k=>⟨rfl,ZA (h':=g) (t':=s.toks) I (fun m o hm e=>?_) hf⟩;simp only[List.mem_cons,List.not_mem_nil,or_false,not_or] at hm;exact k m o hm.1 hm.2.2.1 hm.2.2.2.1 hm.2.2.2.2 e
 self:=fun _ _ _ _ _ st h=>wpAny_pyIter_zip st.1 h
end DL
end
noncomputable section
namespace DL
open PySem PySem.Spec PyProof.Rows L2
noncomputable def bAdd (d e:D) (M:Mem) (Q:DK):Prop :=
 match d,e with
 | .int i,.int j=>Q (.int (i+j)) M
 | .str x,.str y=>x.length+y.length<=sizeLine/\Q (.str (x++y)) M
 | .lst a,.lst b=>∃ xs ys,M a=some (.ls xs)/\M b=some (.ls ys)/\xs.length+ys.length<=sizeLine/\alloc M (.ls (xs++ys)) fun p M'=>Q (.lst p) M'
 | .tup xs,.tup ys=>xs.length+ys.length<=sizeLine/\Q (.tup (xs++ys)) M
 | _,_=>False
noncomputable def bInt (f:Int->Int->Prop) (g:Int->Int->Int) (d e:D) (M:Mem) (Q:DK):Prop :=
 match d,e with
 | .int i,.int j=>f i j/\Q (.int (g i j)) M
 | _,_=>False
noncomputable def bMul (d e:D) (M:Mem) (Q:DK):Prop :=
 match d,e with
 | .int i,.int j=>IntMulOk i j/\Q (.int (i*j)) M
 | .tup xs,.int k=>0<=k/\k<1000000/\xs.length*k.toNat<=sizeLine/\Q (.tup (List.replicate k.toNat xs).flatten) M
 | .lst a,.int k=>∃ xs,M a=some (.ls xs)/\0<=k/\k<1000000/\xs.length*k.toNat<=sizeLine/\alloc M (.ls (List.replicate k.toNat xs).flatten) fun p M'=>Q (.lst p) M'
 | _,_=>False
noncomputable def Ut (j:Int):Prop:=j≠0/\j.natAbs.log2<9000
noncomputable def bOp:Operator->D->D->Mem->DK->Prop
 | .Add=>bAdd
 | .Sub=>bInt (fun _ _=>True) fun i j=>i-j
 | .Mult=>bMul
 | .FloorDiv=>bInt (fun _ j=>Ut j) fun i j=>i.fdiv j
 | .Mod=>bInt (fun _ j=>j≠0) fun i j=>i.fmod j
 | .Pow=>bInt CPow fun i j=>i ^ j.toNat
 | _=>fun _ _ _ _=>False
theorem EM (h:bInt f g d e M Q):∃ i j,d=.int i/\e=.int j/\f i j/\Q (.int (g i j)) M:=by
 cases d with
 | int i=>cases e with
  | int j=>exact⟨i,j,rfl,rfl,h.1,h.2⟩
  | _=>exact h.elim
 | _=>exact h.elim
section
variable {X:Cx}
theorem WV
  (rule:∀ (i j:Int) (t u:Tok) (s:Shared) (Q:Value->Shared->Prop) (E:Value->Shared->Prop),C i j->Q (.int (g i j) s.toks) {s with toks:=s.toks+1}->wpAny (model X.prog X.w) X.A (f (.int i t) (.int j u)) Q E s) :
  OpR X f (Zk X.K (bInt C g)):=by
 refine (opI (X:=X) (C:=C) (g:=g) rule).imp ?_;rintro x y H Q ⟨d,e,M,R,r1,r2,rm,h,q⟩;obtain⟨i,j,rfl,rfl,h1,h2⟩:=EM h;cases r1;cases r2;exact⟨_,_,rfl,rfl,h1,q _ _ _ _ (.refl H) rm (.int _) h2⟩
theorem FB:OpR X (binaryOp .Add) (Zk X.K bAdd):=by
  rintro pins s σ H x y v u Q I rx ry ⟨d,e,M,R,r1,r2,rm,h,q⟩;cases r1 with
  | int i =>
    cases r2<;>first
      | exact (show False from h).elim
      | exact HS pins s σ H _ _ v u Q I rx ry ⟨_,_,rfl,rfl,q _ _ _ _ (.refl H) rm (.int _) h⟩
  | str x =>
    cases r2<;>first
      | exact (show False from h).elim
      | exact Af pins s σ H _ _ v u Q I rx ry ⟨_,_,rfl,rfl,h.1,q _ _ _ _ (.refl H) rm (.str _) h.2⟩
  | lst a =>
    cases r2<;>first
      | exact (show False from h).elim
      | (obtain⟨xs,ys,h1,h2,h3,h4⟩:=h
         obtain⟨vs,e1,q1⟩:=rm _ _ h1;obtain⟨ws,e2,q2⟩:=rm _ _ h2;refine HM pins s σ H _ _ v u Q I rx ry ⟨_,_,vs,ws,rfl,rfl,e1,e2,by rw[q1.length,q2.length];exact h3,fun p hp=>?_⟩;exact q _ _ _ _ (.upd (.inl hp)) (rm.lst hp (q1.append q2)) (.lst p) (h4.at (rm.none hp)))
  | tup h1 q1 =>
    cases r2<;>first
      | exact (show False from h).elim
      | (rename_i h2 q2
         obtain⟨g2,g3⟩:=h;cases q1 with
         | nil=>exact Dh pins s σ H _ _ v u Q I rx ry ⟨_,_,_,rfl,rfl,h1,h2,q _ _ _ _ (.refl H) rm (.tup h2 q2) g3⟩
         | cons qa qb =>
           have q1:=RelDs.cons qa qb;refine Fz pins s σ H _ _ v u Q I rx ry ⟨_,_,_,_,rfl,rfl,h1,h2,nofun,by rw[q1.length,q2.length];exact g2,fun z=>?_,fun z p hp=>?_⟩
           . subst z;cases q2;rw[List.append_nil] at g3;exact q _ _ _ _ (.refl H) rm (.tup h1 q1) g3
           . exact q _ _ _ _ (.upd (.inl hp)) (rm.tup hp) (.tup (.of upd_same) ((q1.append q2).ext (.upd (.inl hp)))) g3)
  | _=>exact (show False from h).elim
theorem RelDs.rep {K:Frag} {H:Hp} {vs:List V} {ds:List D} (r:RelDs K H vs ds):∀ k:Nat,RelDs K H (List.replicate k vs).flatten (List.replicate k ds).flatten
 | 0=>.nil
 | k+1=>by
  rw[List.replicate_succ,List.replicate_succ,List.flatten_cons,List.flatten_cons];exact r.append (RelDs.rep r k)
theorem FA:OpR X (binaryOp .Mult) (Zk X.K bMul):=by
  rintro pins s σ H x y v u Q I rx ry ⟨d,e,M,R,r1,r2,rm,h,q⟩;cases r1 with
  | int i =>
    cases r2<;>first
      | exact (show False from h).elim
      | exact opI (X:=X) (C:=IntMulOk) (g:=fun i j=>i*j) (fun _ _ _ _ _ _ _ hc q=>mul_int q hc) pins s σ H _ _ v u Q I rx ry ⟨_,_,rfl,rfl,h.1,q _ _ _ _ (.refl H) rm (.int _) h.2⟩
  | lst a =>
    cases r2<;>first
      | exact (show False from h).elim
      | (obtain⟨xs,h1,g1,g2,h3,h4⟩:=h
         obtain⟨vs,e1,q1⟩:=rm _ _ h1;refine HL pins s σ H _ _ v u Q I rx ry ⟨_,_,vs,rfl,rfl,e1,by omega,by omega,by rw[q1.length];exact h3,fun p hp=>?_⟩;exact q _ _ _ _ (.upd (.inl hp)) (rm.lst hp (q1.rep _)) (.lst p) (h4.at (rm.none hp)))
  | tup h1 q1 =>
    cases r2<;>first
      | exact (show False from h).elim
      | (rename_i ds k
         obtain⟨g2,g3,g4,g5⟩:=h;by_cases hx:ds=[]\/k=1
         . have e:(List.replicate k.toNat ds).flatten=ds:=by
             rcases hx with rfl|rfl
             . simp
             . simp
           rw[e] at g5;refine Df pins s σ H _ _ v u Q I rx ry ⟨_,_,_,rfl,rfl,h1,?_,g2,g3,q _ _ _ _ (.refl H) rm (.tup h1 q1) g5⟩;rcases hx with rfl|hx
           . cases q1;exact .inl rfl
           . exact .inr hx
         . have hn:ds≠[]:=fun z=>hx (.inl z);by_cases hk:k=0
           . subst hk;refine Dg pins s σ H _ _ v u Q I rx ry ⟨_,_,rfl,rfl,h1,?_,fun p hp=>?_⟩
             . intro z;subst z;cases q1;exact hn rfl
             . exact q _ _ _ _ (.upd (.inl hp)) (rm.tup hp) (.tup (.of upd_same) .nil) g5
           . refine Fy pins s σ H _ _ v u Q I rx ry ⟨_,_,_,rfl,rfl,h1,?_,by have:¬ k=1:=fun z=>hx (.inr z);omega,g3,by rw[q1.length];exact g4,fun p hp=>?_⟩
             . intro z;subst z;cases q1;exact hn rfl
             . exact q _ _ _ _ (.upd (.inl hp)) (rm.tup hp) (.tup (.of upd_same) ((q1.rep _).ext (.upd (.inl hp)))) g5)
  | _=>exact (show False from h).elim
theorem op_b (op:Operator):OpR X (binaryOp op) (Zk X.K (bOp op)):=by
 cases op with
 | Add=>exact FB
 | Sub=>exact WV fun _ _ _ _ _ _ _ _ q=>sub_int q
 | Mult=>exact FA
 | FloorDiv=>exact WV fun _ _ _ _ _ _ _ hc q=>floordiv_int hc.1 q (.inl (PyProof.noPylong_of_log2 hc.2))
 | Mod=>exact WV fun _ _ _ _ _ _ _ hc q=>mod_int' hc q
 | Pow=>exact WV fun _ _ _ _ _ _ _ hc q=>pow_int_small hc.1 hc.2.1 hc.2.2 q
 | _=>intro pins s σ H x y v u Q I rx ry ⟨d,e,M,R,r1,r2,rm,h,q⟩;exact (show False from h).elim
end
mutual
inductive Py (M:Mem):D->PyData->Prop
 | non:Py M .non .none
 | bl (b:Bool):Py M (.bl b) (.bool b)
 | int (i:Int):Py M (.int i) (.int i)
 | str (x:Str) (hx:(PyData.str x).canLay0=true):Py M (.str x) (.str x)
 | tup {ds:List D} {ps:List PyData} (h:Pys M ds ps):Py M (.tup ds) (.tuple ps)
 | fz {ds:List D} {ps:List PyData} (h:Pys M ds ps):Py M (.fz ds) (.list ps)
 | lst {a:Addr} {ds:List D} {ps:List PyData} (e:M a=some (.ls ds)) (h:Pys M ds ps):Py M (.lst a) (.list ps)
inductive Pys (M:Mem):List D->List PyData->Prop
 | nil:Pys M [] []
 | cons {d:D} {p:PyData} {ds:List D} {ps:List PyData} (h:Py M d p) (r:Pys M ds ps):Pys M (d::ds) (p::ps)
end
section
variable {X:Cx} {pins:List (Addr×Obj)} {s:Shared} {σ:L2.St} {H:Hp} {M:Mem}
theorem Pys.reads (I:L2.Inv X pins σ H s) (rm:RepM X.K H M) (h:Pys M ds ps):∀ {vs:List V} {us:List Value},RelDs X.K H vs ds->Vals vs us->∃ as,ReadsAll s.heap us ps as/\PyData.canLayAll0 ps=true:=by
 induction h using Pys.rec (motive_1:=fun d p _=>∀ (v:V) (u:Value),RelD X.K H v d->RelV v u->∃ as,Reads s.heap u p as/\p.canLay0=true) with
 | non=>rename_i v u r e;cases r;cases e;exact⟨_,.none,rfl⟩
 | bl b=>rename_i v u r e;cases r;cases e;exact⟨_,.bool b,rfl⟩
 | int i=>rename_i v u r e;cases r;obtain⟨_,rfl⟩:=e;exact⟨_,.int i _,rfl⟩
 | str x hx=>rename_i v u r e;cases r;obtain⟨_,rfl⟩:=e;exact⟨_,.str x _,hx⟩
 | tup h ih =>
  rename_i v u r e;cases r with
  | tup ht r =>
   cases e;obtain⟨its,rv,⟨o,e1,e2,n,e3⟩,_⟩:=I.tuple ht;obtain⟨as,q,c⟩:=ih r rv;exact⟨as,.tuple e1 e2 e3 q,c⟩
 | fz h ih =>
  rename_i v u r e;cases r with
  | fz hf r =>
   cases e;obtain⟨its,rv,⟨o,n,e1,e2,_,e3⟩,_⟩:=I.list hf.sq;obtain⟨as,q,c⟩:=ih r rv;exact⟨_,.list e1 e2 e3 q,c⟩
 | lst e h ih =>
  rename_i v u r z;cases r;cases z;obtain⟨vs,e0,r⟩:=rm _ _ e;obtain⟨its,rv,⟨o,n,e1,e2,_,e3⟩,_⟩:=I.list (.of e0);obtain⟨as,q,c⟩:=ih r rv;exact⟨_,.list e1 e2 e3 q,c⟩
 | nil=>intro vs us r e;cases r;cases e;exact⟨_,.nil,rfl⟩
 | cons h r i1 i2 =>
  intro vs us q z;cases q with
  | cons q qs =>
   cases z with
   | cons z zs =>
    obtain⟨as,a1,a2⟩:=i1 _ _ q z;obtain⟨bs,b1,b2⟩:=i2 qs zs;exact⟨_,.cons a1 b1,show (_&&_)=true by rw[a2,b2];rfl⟩
theorem Py.reads (I:L2.Inv X pins σ H s) (rm:RepM X.K H M) (h:Py M d p) (r:RelD X.K H v d) (e:RelV v u):∃ as,Reads s.heap u p as/\p.canLay0=true:=by
 obtain⟨as,a1,a2⟩:=Pys.reads I rm (.cons h .nil) (.cons r .nil) (.cons e .nil);cases a1 with
 | cons b1 b2=>exact⟨_,b1,by revert a2;show (_&&_)=true->_;cases p.canLay0 with|true=>exact fun _=>rfl|false=>exact fun z=>absurd z Bool.false_ne_true⟩
end
noncomputable def cInt (g:Int->Int->Bool) (d e:D) (M:Mem) (Q:DK):Prop :=
 match d,e with
 | .int i,.int j=>Q (.bl (g i j)) M
 | _,_=>False
noncomputable def cEq (neg:Bool) (d e:D) (M:Mem) (Q:DK):Prop :=
 match d with
 | .dct p=>neg=false/\(∃ kvs,M p=some (.dk kvs))/\(∃ xs,e=.tup xs)/\Q (.bl false) M
 | d=>∃ a b,Py M d a/\Py M e b/\min a.depth b.depth<=60/\Q (.bl (if neg then !PyData.eqv a b else PyData.eqv a b)) M
theorem K8 (h1:Py M d a) (h2:Py M e b) (h3:min a.depth b.depth<=60) (q:Q (.bl (if neg then !PyData.eqv a b else PyData.eqv a b)) M):cEq neg d e M Q:=by
 cases d with
 | dct p=>cases h1
 | _=>exact⟨a,b,h1,h2,h3,q⟩
theorem Bu (h:cEq neg d e M Q):(∃ p kvs xs,d=.dct p/\neg=false/\M p=some (.dk kvs)/\e=.tup xs/\Q (.bl false) M)\/∃ a b,Py M d a/\Py M e b/\min a.depth b.depth<=60/\Q (.bl (if neg then !PyData.eqv a b else PyData.eqv a b)) M:=by
 cases d with
 | dct p=>obtain⟨h0,⟨kvs,h1⟩,⟨xs,h2⟩,h3⟩:=h;exact .inl ⟨p,kvs,xs,rfl,h0,h1,h2,h3⟩
 | _=>exact .inr h
noncomputable def sdAt {α:Type}:List Str->List α->Str->Option α
 | x::xs,d::ds,k=>if k=x then some d else sdAt xs ds k
 | _,_,_=>none
theorem EntK.exact (h:EntK l xs us):(l.all fun e=>isExactStrKey e.key)=true:=by
 induction h with
 | nil=>rfl
 | cons hk _ ih=>rw [List.all_cons,hk,ih];rfl
theorem EntK.find (h:EntK l xs us):(l.find? fun e=>e.key.isStr k).map (·.val)=sdAt xs us k:=by
 induction h with
 | nil=>rfl
 | @cons e x t es xs us hk _ ih =>
  rw[List.find?_cons,hk];show _=if k=x then some e.val else sdAt xs us k
  by_cases c:k=x
  ·subst c
   rw[if_pos rfl,show (Value.str k t).isStr k=true from by simp[Value.isStr]];rfl
  ·rw[if_neg c,show (Value.str x t).isStr k=false from by simp[Value.isStr];exact fun z=>c z.symm];exact ih
theorem Jj {K:Frag} {H:Hp} {k:Str} {d:D}:∀ {xs:List Str} {vs:List V} {ds:List D},RelDs K H vs ds->sdAt xs ds k=some d->∃ v,sdAt xs vs k=some v/\RelD K H v d
 | [],_,_,_,e=>by simp[sdAt] at e
 | _::_,_,_,.nil,e=>by simp[sdAt] at e
 | x::xs,_,_,.cons h r,e=>by
  unfold sdAt at e ⊢;by_cases c:k=x
  ·rw[if_pos c] at e ⊢;cases e;exact⟨_,rfl,h⟩
  ·rw[if_neg c] at e ⊢;exact Jj r e
theorem U0:∀ {xs:List Str} {vs:List V} {us:List Value},Vals vs us->sdAt xs vs k=some v->∃ u,sdAt xs us k=some u/\RelV v u
 | [],_,_,_,e=>by simp[sdAt] at e
 | _::_,_,_,.nil,e=>by simp[sdAt] at e
 | x::xs,_,_,.cons h r,e=>by
  unfold sdAt at e ⊢;by_cases c:k=x
  ·rw[if_pos c] at e ⊢;cases e;exact⟨_,rfl,h⟩
  ·rw[if_neg c] at e ⊢;exact U0 r e
theorem EntK.mem (h:EntK l xs us):(sdAt xs us k).isSome=xs.contains k:=by
 induction h with
 | nil=>rfl
 | @cons e x t es xs us hk _ ih =>
  show (if k=x then some e.val else sdAt xs us k).isSome=_;rw[List.contains_cons];by_cases c:k=x
  ·subst c;simp
  ·rw[if_neg c,ih];simp[c]
theorem Ux
  (ho:s.heap.get? a=some o) (hd:o.data=.dict es ep) (en:EntK es.toList xs us) (h:Q (sdAt xs us k) {s with toks:=s.toks+1}):wpAny (model prog w) A (dictGet a (.str k tk)) Q E s:=by
 unfold dictGet
 try with_reducible refine wpAny_holding ?_
 refine wpAny_bind (wpAny_pyHash_str (wpAny_bind (PyProof.Rows.KTD.kt_dictFind_strs (s:={s with toks:=s.toks+1}) ho hd (by obtain⟨l⟩:=es;simpa using en.exact) ?_)));have hq:Q (findBy (fun k v=>v.isStr k) es k) {s with toks:=s.toks+1}:=by
  have hf:findBy (fun k v=>v.isStr k) es k=(es.toList.find? fun e=>e.key.isStr k).map (·.val):=by
   obtain⟨l⟩:=es;simp[findBy]
  rw[hf,en.find];exact h
 rw[findBy_of_findIdx?] at hq;cases hi:es.findIdx? fun e=>e.key.isStr k with
 | none=>rw [hi] at hq;exact wpAny_pure hq
 | some i=>rw [hi] at hq;exact wpAny_bind (wpAny_dictEntries (s:={s with toks:=s.toks+1}) ho hd (wpAny_pure hq))
noncomputable def cIs (neg:Bool) (d e:D) (M:Mem) (Q:DK):Prop :=
 match e with
 | .non=>Q (.bl (if neg then (match d with | .non=>false|_=>true) else (match d with | .non=>true|_=>false))) M
 | .bl k=>Q (.bl (if neg then (match d with | .bl j=>!(j==k)|_=>true) else (match d with | .bl j=>j==k|_=>false))) M
 | _=>False
noncomputable def We (neg:Bool) (d:D) (xs:List D) (M:Mem) (Q:DK):Prop:=∃ ps p,Pys M xs ps/\Py M d p/\p.depth<=60/\Q (.bl (if neg then !(ps.any fun q=>PyData.eqv q p) else ps.any fun q=>PyData.eqv q p)) M
noncomputable def cIn (neg:Bool) (d e:D) (M:Mem) (Q:DK):Prop :=
 match e with
 | .str y=>∃ x,d=.str x/\Q (.bl (if neg then !(!(Builtin.Str.occurrences y x 0 y.length 1).isEmpty) else !(Builtin.Str.occurrences y x 0 y.length 1).isEmpty)) M
 | .tup xs=>We neg d xs M Q
 | .fz xs=>We neg d xs M Q
 | .lst a=>∃ xs,M a=some (.ls xs)/\We neg d xs M Q
 | .sd xs _=>∃ x,d=.str x/\Q (.bl (if neg then !(xs.contains x) else xs.contains x)) M
 | _=>False
noncomputable def cOp:CmpOp->D->D->Mem->DK->Prop
 | .Eq=>cEq false
 | .NotEq=>cEq true
 | .Lt=>cInt fun i j=>decide (i<j)
 | .LtE=>cInt fun i j=>decide (i<=j)
 | .Gt=>cInt fun i j=>decide (j<i)
 | .GtE=>cInt fun i j=>decide (j<=i)
 | .In=>cIn false
 | .NotIn=>cIn true
 | .Is=>cIs false
 | .IsNot=>cIs true
section
variable {X:Cx}
theorem EL (h:cInt g d e M Q):∃ i j,d=.int i/\e=.int j/\Q (.bl (g i j)) M:=by
 cases d with
 | int i=>cases e with
  | int j=>exact⟨i,j,rfl,rfl,h⟩
  | _=>exact h.elim
 | _=>exact h.elim
theorem WU (h:OpR X f (rI0 fun i j=>.bl (g i j))):OpR X f (Zk X.K (cInt g)):=by
 refine h.imp ?_;rintro x y H Q ⟨d,e,M,R,r1,r2,rm,h,q⟩;obtain⟨i,j,rfl,rfl,h⟩:=EL h;cases r1;cases r2;exact⟨_,_,rfl,rfl,q _ _ _ _ (.refl H) rm (.bl _) h⟩
theorem Wu (ha:s.TypeIs (.ref a) "dict") (hb:s.TypeIs (.ref b) "tuple") (h:Q .notImplemented s) :
  wpAny (model prog w) A (call (.builtin "dict.__eq__") [.ref a,.ref b]) Q E s:=by
 refine wpAny_call_entry PySem.F.slot_dict_eq ha PySem.F.entry_dict_eq ?_ (PySem.F.args_dict_eq_2 _ _);show wpAny _ _ (Builtin.Dict.dictSlotArgs "__eq__" ⟨[.ref a,.ref b],[]⟩ >>= _) _ _ s;refine wpAny_bind ?_;unfold Builtin.Dict.dictSlotArgs;refine wpAny_bind (wpAny_notOrdered_dict ha ?_);show wpAny _ _ (pure (Value.ref a,Value.ref b)) _ _ s;refine wpAny_pure ?_;refine wpAny_bind (wpAny_isInstance (T:="tuple") hb PySem.F.sub_tuple_dict ?_);simp only[Bool.not_false,if_true];refine wpAny_bind (wpAny_rule ?_);exact wpAny_pure ⟨_,rfl,h⟩
theorem ZZ (l b:Addr) (items:Array Value) (n:Nat) (dd:Option Addr) (sl:Array (Option Value)) (ob:Obj) (hcb:ob.cls=.type "dict") :
  Meets (Builtin.«tuple.__eq__» ⟨[.ref l,.ref b],[]⟩) (fun _ R s=>s.heap.get? l=some {cls:=.type "tuple",dict:=dd,data:=.seq items n,slots:=sl}/\s.heap.get? b=some ob/\R (.ok (.ret .notImplemented)) s) :=
 .of_wp fun prog w A R s h=>by obtain⟨hp,g,d,tk,os⟩:=s;obtain⟨hl,hb,h⟩:=h;obtain⟨c,dd2,da2,sl2⟩:=ob;cases hcb;have f1:=F.sub_dict_tuple;wp_walk using wpAny_loadPart' hl,wpAny_loadPart' hb;exact⟨_,rfl,h⟩
theorem VQ (ha:s.heap.get? a=some oa) (hca:oa.cls=.type "dict") (hb:s.heap.IsTuple b items) (hu:A.units<cLine):SeqAt.RcAt A s (.ref a) (.ref b) false:=fun prog w E Q h=>by
 have hne:a≠b:=fun e=>by
  subst e;obtain⟨o2,ho2,hc2,_⟩:=hb;rw[ha] at ho2;cases ho2;rw[hca] at hc2;exact absurd hc2 (by simp)
 obtain⟨⟨cls2,dd2,data2,sl2⟩,ho2,hc2,n2,hd2⟩:=id hb;simp only at hc2 hd2;subst hc2 hd2;exact (SeqAt.rc_eq_decline_or (k:=false) ⟨_,ha,hca⟩ ⟨_,ho2,rfl⟩ %[|4] F.sub_tuple_dict F.slot_dict_eq F.slot_tuple_eq_refl
  (fun _ hq=>Wu ⟨_,ha,hca⟩ ⟨_,ho2,rfl⟩ hq)
  (fun _ hq=>call_meets F.slot_tuple_eq_refl ⟨_,ho2,rfl⟩ F.entry_tuple_eq (F.args_tuple_eq_2 _ _) (ZZ b a items n2 dd2 sl2 oa hca) ⟨ho2,ha,hq⟩)
  (fun _ hq=>wpAny_isSame_ref_other hne ha ho2 (by rw[hca];simp) hq) (.inr hu) h)
theorem HR (hu:X.A.units+64<cLine):OpR X (compareOp .Eq) (Zk X.K (cEq false)):=by
 rintro pins s σ H x y v u Q I rx ry ⟨d,e,M,R,r1,r2,rm,h,q⟩;rcases Bu h with ⟨p,kvs,xs,rfl,_,h1,rfl,hq⟩|⟨a,b,p1,p2,hd,h⟩
 ·cases r1;cases rx
  cases r2 with
  | tup ht r =>
   cases ry;obtain⟨vs,e1,_⟩:=rm _ _ h1;obtain⟨_,_,vs,_,pp⟩:=(show ObjOk X.prog X.w H s.heap p (.dK vs) from I.hok p _ e1);obtain⟨o,es,ep,h1,h2,_⟩:=pp;obtain⟨its,rv,hT,_⟩:=I.tuple ht;exact VQ h1 h2.1 hT %[|5] X.prog X.w _ _ ⟨.bl _,H,I,rfl,q _ _ _ _ (.refl H) rm (.bl _) hq⟩
 obtain⟨as,a1,a2⟩:=p1.reads I rm r1 rx;obtain⟨bs,b1,b2⟩:=p2.reads I rm r2 ry;exact SeqAt.compareEq_reads a1 b1 a2 b2 %[|5] ⟨.bl _,H,I,rfl,q _ _ _ _ (.refl H) rm (.bl _) h⟩
theorem HN (hu:X.A.units+64<cLine):OpR X (compareOp .NotEq) (Zk X.K (cEq true)):=by
 rintro pins s σ H x y v u Q I rx ry ⟨d,e,M,R,r1,r2,rm,h,q⟩;rcases Bu h with ⟨_,_,_,_,h0,_⟩|⟨a,b,p1,p2,hd,h⟩
 ·cases h0
 obtain⟨as,a1,a2⟩:=p1.reads I rm r1 rx;obtain⟨bs,b1,b2⟩:=p2.reads I rm r2 ry;exact SeqAt.compareNe_reads a1 b1 a2 b2 %[|5] ⟨.bl _,H,I,rfl,q _ _ _ _ (.refl H) rm (.bl _) h⟩
noncomputable def isB (d e:D):Option Bool :=
 match e with
 | .non=>some (match d with | .non=>true|_=>false)
 | .bl k=>some (match d with | .bl j=>j==k|_=>false)
 | _=>none
theorem Bs (h:cIs neg d e M Q):(e=.non\/∃ k,e=.bl k)/\∃ b,isB d e=some b/\Q (.bl (if neg then !b else b)) M:=by
 cases e with
 | non =>
  refine⟨.inl rfl,_,rfl,?_⟩;cases d<;>exact h
 | bl k =>
  refine⟨.inr ⟨k,rfl⟩,_,rfl,?_⟩;cases d<;>exact h
 | _=>exact (show False from h).elim
theorem DQ {K:Frag} {H:Hp} {x y:V} {d e:D} {v u:Value} {b:Bool} (r1:RelD K H x d) (rx:RelV x v) (r2:RelD K H y e) (ry:RelV y u) (he:e=.non\/∃ k,e=.bl k) (hb:isB d e=some b):plainIs v u=true/\(v==u)=b:=by
 rcases he with rfl|⟨k,rfl⟩
 ·cases r2;cases ry;cases hb
  cases r1<;>first|(cases rx;exact⟨rfl,rfl⟩)|(obtain⟨t,rfl⟩:=rx;exact⟨rfl,rfl⟩)
 ·cases r2;cases ry;cases hb
  cases r1<;>first|(cases rx;exact⟨rfl,rfl⟩)|(obtain⟨t,rfl⟩:=rx;exact⟨rfl,rfl⟩)|(rename_i j;cases rx;cases j<;>cases k<;>exact⟨rfl,rfl⟩)
theorem HP:OpR X (compareOp .Is) (Zk X.K (cIs false)):=by
 rintro pins s σ H x y v u Q I rx ry ⟨d,e,M,R,r1,r2,rm,h,q⟩;obtain⟨he,b,hb,h⟩:=Bs h;obtain⟨a1,a2⟩:=DQ r1 rx r2 ry he hb;refine wpAny_is_plain a1 ?_;rw[a2];exact⟨.bl _,H,I,rfl,q _ _ _ _ (.refl H) rm (.bl _) h⟩
theorem BK:OpR X (compareOp .IsNot) (Zk X.K (cIs true)):=by
 rintro pins s σ H x y v u Q I rx ry ⟨d,e,M,R,r1,r2,rm,h,q⟩;obtain⟨he,b,hb,h⟩:=Bs h;obtain⟨a1,a2⟩:=DQ r1 rx r2 ry he hb;refine wpAny_isNot_plain a1 ?_;rw[a2];exact⟨.bl _,H,I,rfl,q _ _ _ _ (.refl H) rm (.bl _) h⟩
noncomputable def eqTo (h:Heap) (p:PyData) (y:Value):Bool:=by
 classical exact decide (∃ d as,Reads h y d as/\d.canLay0=true/\PyData.eqv d p=true)
theorem UX (r:Reads h y d as) (c:d.canLay0=true):eqTo h p y=PyData.eqv d p:=by
 unfold eqTo;cases e:PyData.eqv d p with
 | true=>simpa using ⟨d,⟨as,r⟩,c,e⟩
 | false =>
  simp only[decide_eq_false_iff_not];rintro⟨d',as',r',c',e'⟩;have:=SeqAt.Reads.unique d d' y as as' c r r';subst this;rw[e] at e';cases e'
theorem EQ (h:(a&&b)=true):a=true/\b=true:=by
 cases a with
 | true=>exact⟨rfl,h⟩
 | false=>exact absurd h Bool.false_ne_true
theorem XF (r:ReadsAll h us ps as):PyData.canLayAll0 ps=true->us.any (eqTo h p)=ps.any fun q=>PyData.eqv q p:=by
 induction r using ReadsAll.rec (motive_1:=fun _ _ _ _=>True) with
 | nil=>exact fun _=>rfl
 | cons r rr _ ih =>
  intro c;obtain⟨c1,c2⟩:=EQ (show (_&&_)=true from c);rw[List.any_cons,List.any_cons,UX r c1,ih c2]
 | _=>trivial
theorem AX:∀ {us:List Value} {ps:List PyData} {as:List Addr},ReadsAll h us ps as->PyData.canLayAll0 ps=true->∀ y∈us,∃ d as,Reads h y d as/\d.canLay0=true
 | _,_,_,.nil,_,_,hy=>by cases hy
 | _,_,_,.cons r rr,c,y,hy=>by
  obtain⟨c1,c2⟩:=EQ (show (_&&_)=true from c);rcases List.mem_cons.mp hy with rfl|hy
  ·exact⟨_,_,r,c1⟩
  ·exact AX rr c2 y hy
theorem ZK (hu:A.units+64<cLine) (r:ReadsAll s.heap us ps as) (c:PyData.canLayAll0 ps=true) (rx:Reads s.heap x p bs) (cx:p.canLay0=true) (hd:p.depth<=60) :
  ∀ y∈us,SeqAt.EqAt A s y x (eqTo s.heap p y):=fun y hy=>by
 obtain⟨d,as',ry,cy⟩:=AX r c y hy;rw[UX ry cy];exact SeqAt.eqAt_reads d p A s y x _ _ ry rx cy cx %[|5]
theorem Hf (lo:(a==sysModules)=false)
  (ho:s.heap.get? a=some o) (ex:o.ExactDict) (hd:o.data=.dict es ep) (en:EntK es.toList xs us) (h:Q (.bool (xs.contains k)) {s with toks:=s.toks+1}):wpAny (model prog w) A (compareOp .In (.str k tk) (.ref a)) Q E s:=by
 have tI:s.TypeIs (.ref a) "dict":=⟨o,ho,ex.1⟩;show wpAny _ _ (do return .bool ((<- contains (.ref a) (.str k tk)))) Q E s;refine wpAny_bind ?_;unfold contains
 try with_reducible refine wpAny_holding ?_
 refine wpAny_bind (wpAny_specialOf tI PySem.F.slot_dict_contains.lookup ?_);show wpAny _ _ (if (some (Value.builtin "dict.__contains__")==some Value.none)=true then _ else _) _ E s;rw[if_neg (by rw[beq_builtin_none];exact Bool.false_ne_true)];refine wpAny_bind (wpAny_callSpecialUnlessNone?_slot (name:=Str.ofString "__contains__") tI PySem.F.slot_dict_contains
  (wpAny_call_entry PySem.F.slot_dict_contains tI PySem.F.entry_dict_contains ?_ (PySem.F.args_dict_contains_2 _ _)))
 show wpAny _ _ (dictGet a (.str k tk) >>= _) _ _ s;refine wpAny_bind (Ux ho hd en ?_);have hb:=en.mem (k:=k);cases hs:sdAt xs us k with
 | some v =>
  rw[hs] at hb;rw[<- hb] at h;show wpAny _ _ (ret (.bool true)) _ _ _;exact wpAny_pure ⟨_,rfl,wpAny_truthy_bool (wpAny_pure h)⟩
 | none =>
  rw[hs] at hb;rw[<- hb] at h;show wpAny _ _ (Builtin.Dict.pendingKey? a (.str k tk) >>= _) _ _ _;exact wpAny_bind (wpAny_pendingKey_other lo (wpAny_pure ⟨_,rfl,wpAny_truthy_bool (wpAny_pure h)⟩))
theorem EW (lo:(a==sysModules)=false)
  (ho:s.heap.get? a=some o) (ex:o.ExactDict) (hd:o.data=.dict es ep) (en:EntK es.toList xs us) (h:Q (.bool (!xs.contains k)) {s with toks:=s.toks+1}):wpAny (model prog w) A (compareOp .NotIn (.str k tk) (.ref a)) Q E s:=by
 have tI:s.TypeIs (.ref a) "dict":=⟨o,ho,ex.1⟩;show wpAny _ _ (do return .bool (!(<- contains (.ref a) (.str k tk)))) Q E s;refine wpAny_bind ?_;unfold contains
 try with_reducible refine wpAny_holding ?_
 refine wpAny_bind (wpAny_specialOf tI PySem.F.slot_dict_contains.lookup ?_);show wpAny _ _ (if (some (Value.builtin "dict.__contains__")==some Value.none)=true then _ else _) _ E s;rw[if_neg (by rw[beq_builtin_none];exact Bool.false_ne_true)];refine wpAny_bind (wpAny_callSpecialUnlessNone?_slot (name:=Str.ofString "__contains__") tI PySem.F.slot_dict_contains
  (wpAny_call_entry PySem.F.slot_dict_contains tI PySem.F.entry_dict_contains ?_ (PySem.F.args_dict_contains_2 _ _)))
 show wpAny _ _ (dictGet a (.str k tk) >>= _) _ _ s;refine wpAny_bind (Ux ho hd en ?_);have hb:=en.mem (k:=k);cases hs:sdAt xs us k with
 | some v =>
  rw[hs] at hb;rw[<- hb] at h;show wpAny _ _ (ret (.bool true)) _ _ _;exact wpAny_pure ⟨_,rfl,wpAny_truthy_bool (wpAny_pure h)⟩
 | none =>
  rw[hs] at hb;rw[<- hb] at h;show wpAny _ _ (Builtin.Dict.pendingKey? a (.str k tk) >>= _) _ _ _;exact wpAny_bind (wpAny_pendingKey_other lo (wpAny_pure ⟨_,rfl,wpAny_truthy_bool (wpAny_pure h)⟩))
theorem HQ (hu:X.A.units+66<cLine):OpR X (compareOp .In) (Zk X.K (cIn false)):=by
 rintro pins s σ H x y v u Q I rx ry ⟨d,e,M,R,r1,r2,rm,h,q⟩;cases r2 with
 | str z =>
  obtain⟨x',rfl,h2⟩:=(show ∃ x,d=.str x/\R (.bl (if false then !(!(Builtin.Str.occurrences z x 0 z.length 1).isEmpty) else !(Builtin.Str.occurrences z x 0 z.length 1).isEmpty)) M from h);cases r1;exact BI pins s σ H _ _ v u Q I rx ry ⟨_,_,rfl,rfl,q _ _ _ _ (.refl H) rm (.bl _) h2⟩
 | @tup a vs ds ht rr =>
  obtain⟨ps,p,p1,p2,hd,h⟩:=(show We false d ds M R from h);cases (show u=Value.ref a from ry);obtain⟨its,rv,ht',_⟩:=I.tuple ht;obtain⟨as,a1,a2⟩:=p1.reads I rm rr rv;obtain⟨bs,b1,b2⟩:=p2.reads I rm r1 rx;refine SeqAt.in_tupleAt (items:=its.toArray) (eqTo s.heap p) ht' (fun y hy=>ZK (A:=X.A.in1) (by show X.A.units+1+64<cLine;omega) a1 a2 b1 b2 hd y (by simpa using hy)) ⟨.bl _,H,I,rfl,q _ _ _ _ (.refl H) rm (.bl _) ?_⟩;rw[List.any_toArray,XF a1 a2];exact h
 | @fz a vs ds ht rr =>
  obtain⟨ps,p,p1,p2,hd,h⟩:=(show We false d ds M R from h);cases (show u=Value.ref a from ry);obtain⟨its,rv,ht',_⟩:=I.list ht.sq;obtain⟨as,a1,a2⟩:=p1.reads I rm rr rv;obtain⟨bs,b1,b2⟩:=p2.reads I rm r1 rx;refine SeqAt.in_listAt (items:=its.toArray) (eqTo s.heap p) ht'.isList (fun y hy=>ZK (A:=X.A.in1) (by show X.A.units+1+64<cLine;omega) a1 a2 b1 b2 hd y (by simpa using hy)) ⟨.bl _,H,I,rfl,q _ _ _ _ (.refl H) rm (.bl _) ?_⟩;rw[List.any_toArray,XF a1 a2];exact h
 | lst a =>
  obtain⟨ds,e0,ps,p,p1,p2,hd,h⟩:=(show ∃ xs,M a=some (.ls xs)/\We false d xs M R from h);cases (show u=Value.ref a from ry);obtain⟨vs,e1,rr⟩:=rm _ _ e0;obtain⟨its,rv,ht',_⟩:=I.list (.of e1);obtain⟨as,a1,a2⟩:=p1.reads I rm rr rv;obtain⟨bs,b1,b2⟩:=p2.reads I rm r1 rx;refine SeqAt.in_listAt (items:=its.toArray) (eqTo s.heap p) ht'.isList (fun y hy=>ZK (A:=X.A.in1) (by show X.A.units+1+64<cLine;omega) a1 a2 b1 b2 hd y (by simpa using hy)) ⟨.bl _,H,I,rfl,q _ _ _ _ (.refl H) rm (.bl _) ?_⟩;rw[List.any_toArray,XF a1 a2];exact h
 | @sd a xs vs ds T rr =>
  obtain⟨x',rfl,h2⟩:=(show ∃ x,d=.str x/\R (.bl (if false then !(xs.contains x) else xs.contains x)) M from h);cases r1;obtain⟨tk,rfl⟩:=rx;cases (show u=Value.ref a from ry);obtain⟨lo,o,es,ep,us,lk,ex,hd,en,rv⟩:=T;exact Hf lo (I.kIn _ _ lk) ex hd en ⟨.bl _,H,I.tok _,rfl,q _ _ _ _ (.refl H) rm (.bl _) h2⟩
 | _=>exact (show False from h).elim
theorem BJ (hu:X.A.units+66<cLine):OpR X (compareOp .NotIn) (Zk X.K (cIn true)):=by
 rintro pins s σ H x y v u Q I rx ry ⟨d,e,M,R,r1,r2,rm,h,q⟩;cases r2 with
 | str z =>
  obtain⟨x',rfl,h2⟩:=(show ∃ x,d=.str x/\R (.bl (if true then !(!(Builtin.Str.occurrences z x 0 z.length 1).isEmpty) else !(Builtin.Str.occurrences z x 0 z.length 1).isEmpty)) M from h);cases r1;exact UH pins s σ H _ _ v u Q I rx ry ⟨_,_,rfl,rfl,q _ _ _ _ (.refl H) rm (.bl _) h2⟩
 | @tup a vs ds ht rr =>
  obtain⟨ps,p,p1,p2,hd,h⟩:=(show We true d ds M R from h);cases (show u=Value.ref a from ry);obtain⟨its,rv,ht',_⟩:=I.tuple ht;obtain⟨as,a1,a2⟩:=p1.reads I rm rr rv;obtain⟨bs,b1,b2⟩:=p2.reads I rm r1 rx;refine SeqAt.notIn_tupleAt (items:=its.toArray) (eqTo s.heap p) ht' (fun y hy=>ZK (A:=X.A.in1) (by show X.A.units+1+64<cLine;omega) a1 a2 b1 b2 hd y (by simpa using hy)) ⟨.bl _,H,I,rfl,q _ _ _ _ (.refl H) rm (.bl _) ?_⟩;rw[List.any_toArray,XF a1 a2];exact h
 | @fz a vs ds ht rr =>
  obtain⟨ps,p,p1,p2,hd,h⟩:=(show We true d ds M R from h);cases (show u=Value.ref a from ry);obtain⟨its,rv,ht',_⟩:=I.list ht.sq;obtain⟨as,a1,a2⟩:=p1.reads I rm rr rv;obtain⟨bs,b1,b2⟩:=p2.reads I rm r1 rx;refine SeqAt.notIn_listAt (items:=its.toArray) (eqTo s.heap p) ht'.isList (fun y hy=>ZK (A:=X.A.in1) (by show X.A.units+1+64<cLine;omega) a1 a2 b1 b2 hd y (by simpa using hy)) ⟨.bl _,H,I,rfl,q _ _ _ _ (.refl H) rm (.bl _) ?_⟩;rw[List.any_toArray,XF a1 a2];exact h
 | lst a =>
  obtain⟨ds,e0,ps,p,p1,p2,hd,h⟩:=(show ∃ xs,M a=some (.ls xs)/\We true d xs M R from h);cases (show u=Value.ref a from ry);obtain⟨vs,e1,rr⟩:=rm _ _ e0;obtain⟨its,rv,ht',_⟩:=I.list (.of e1);obtain⟨as,a1,a2⟩:=p1.reads I rm rr rv;obtain⟨bs,b1,b2⟩:=p2.reads I rm r1 rx;refine SeqAt.notIn_listAt (items:=its.toArray) (eqTo s.heap p) ht'.isList (fun y hy=>ZK (A:=X.A.in1) (by show X.A.units+1+64<cLine;omega) a1 a2 b1 b2 hd y (by simpa using hy)) ⟨.bl _,H,I,rfl,q _ _ _ _ (.refl H) rm (.bl _) ?_⟩;rw[List.any_toArray,XF a1 a2];exact h
 | @sd a xs vs ds T rr =>
  obtain⟨x',rfl,h2⟩:=(show ∃ x,d=.str x/\R (.bl (if true then !(xs.contains x) else xs.contains x)) M from h);cases r1;obtain⟨tk,rfl⟩:=rx;cases (show u=Value.ref a from ry);obtain⟨lo,o,es,ep,us,lk,ex,hd,en,rv⟩:=T;exact EW lo (I.kIn _ _ lk) ex hd en ⟨.bl _,H,I.tok _,rfl,q _ _ _ _ (.refl H) rm (.bl _) h2⟩
 | _=>exact (show False from h).elim
theorem op_c (hu:X.A.units+66<cLine) (op:CmpOp):OpR X (compareOp op) (Zk X.K (cOp op)):=by
 cases op with
 | Eq=>exact HR %[|5]
 | NotEq=>exact HN %[|5]
 | Lt=>exact WU Ku
 | LtE=>exact WU Kv
 | Gt=>exact WU Kw
 | GtE=>exact WU Kx
 | In=>exact HQ hu
 | NotIn=>exact BJ hu
 | Is=>exact HP
 | IsNot=>exact BK
noncomputable def iOp (d e:D) (M:Mem) (Q:DK):Prop :=
 match d,e with
 | .tup xs,.int i=>∃ v,atI xs i=some v/\Q v M
 | .fz xs,.int i=>∃ v,atI xs i=some v/\Q v M
 | .lst a,.int i=>∃ xs v,M a=some (.ls xs)/\atI xs i=some v/\Q v M
 | .str z,.int i=>z.length<=sizeLine/\∃ c,atI z.cps.toList i=some c/\Q (.str ⟨#[c]⟩) M
 | .sd xs ds,.str k=>∃ v,sdAt xs ds k=some v/\Q v M
 | _,_=>False
theorem RelDs.atI {K:Frag} {H:Hp} {vs:List V} {ds:List D} {i:Int} {d:D} (r:RelDs K H vs ds) (e:L2.atI ds i=some d):∃ v,L2.atI vs i=some v/\RelD K H v d:=by
 unfold L2.atI at e ⊢;rw[r.length];cases q:ixN ds.length i with
 | none=>rw [q] at e;cases e
 | some j=>rw [q] at e;exact r.get e
theorem FT (hn:∀ i,e≠.int i) (hk:∀ i,e≠.str i) (h:iOp d e M Q):False:=by
 unfold iOp at h;split at h
 ·exact hn _ rfl
 ·exact hn _ rfl
 ·exact hn _ rfl
 ·exact hn _ rfl
 ·exact hk _ rfl
 ·exact h
theorem FS (h:iOp d (.str k) M Q):∃ xs ds v,d=.sd xs ds/\sdAt xs ds k=some v/\Q v M:=by
 cases d with
 | sd xs ds=>obtain⟨v,h1,h2⟩:=(show ∃ v,sdAt xs ds k=some v/\Q v M from h);exact⟨xs,ds,v,rfl,h1,h2⟩
 | _=>exact (show False from h).elim
theorem KC:IxR X (fun x y H Q=>∃ p xs vs k v,x=.ref p/\y=.str k/\TabK X.K p xs vs/\sdAt xs vs k=some v/\Q v H):=by
 intro value slice pins s σ H x y v u Q I rx ry h hs;obtain⟨p,xs,vs,k,z,rfl,rfl,⟨lo,o,es,ep,us,lk,ex,hd,en,rv⟩,e,q⟩:=h;cases rx;obtain⟨tk,rfl⟩:=ry;have ho:=I.kIn _ _ lk;have tI:s.TypeIs (.ref p) "dict":=⟨o,ho,ex.1⟩;obtain⟨w',ew,rw'⟩:=U0 rv e;refine subscriptTail_builtinR (x:=w') tI PySem.F.slot_dict_getitem.lookup ?_ hs;unfold getItem
 try with_reducible refine wpAny_holding ?_
 refine wpAny_bind (wpAny_sequenceKey tI %[|4] ?_);refine wpAny_bind (wpAny_callSpecial?_slot (name:=Str.ofString "__getitem__") tI PySem.F.slot_dict_getitem
  (wpAny_call_entry PySem.F.slot_dict_getitem tI PySem.F.entry_dict_getitem ?_ (PySem.F.args_dict_getitem_2 _ _)))
 show wpAny _ _ (dictGet p (.str k tk) >>= _) _ _ s;refine wpAny_bind (Ux ho hd en ?_);rw[ew];exact wpAny_pure ⟨w',rfl,wpAny_pure ⟨rfl,z,H,I.tok _,rw',q⟩⟩
theorem ix_i:IxR X (Zk X.K iOp):=by
 rintro value slice pins s σ H x y v u Q I rx ry ⟨d,e,M,R,r1,r2,rm,h,q⟩ hs;cases r2 with
 | int i =>
  cases r1 with
  | tup ht r =>
   obtain⟨d,e,h⟩:=(show ∃ v,L2.atI _ i=some v/\R v M from h);obtain⟨w,e1,r1⟩:=r.atI e;exact Ig value slice pins s σ H _ _ v u Q I rx ry ⟨_,_,_,_,rfl,rfl,ht,e1,q _ _ _ _ (.refl H) rm r1 h⟩ hs
  | fz ht r =>
   obtain⟨d,e,h⟩:=(show ∃ v,L2.atI _ i=some v/\R v M from h);obtain⟨w,e1,r1⟩:=r.atI e;exact B5 value slice pins s σ H _ _ v u Q I rx ry ⟨_,_,_,_,rfl,rfl,ht.sq,e1,q _ _ _ _ (.refl H) rm r1 h⟩ hs
  | lst a =>
   obtain⟨xs,d,e0,e,h⟩:=(show ∃ xs v,M a=some (.ls xs)/\L2.atI xs i=some v/\R v M from h);obtain⟨vs,e1,r⟩:=rm _ _ e0;obtain⟨w,e1',r1⟩:=r.atI e;exact B5 value slice pins s σ H _ _ v u Q I rx ry ⟨_,_,_,_,rfl,rfl,.of e1,e1',q _ _ _ _ (.refl H) rm r1 h⟩ hs
  | str z =>
   obtain⟨hz,c,e,h⟩:=(show z.length<=sizeLine/\∃ c,L2.atI z.cps.toList i=some c/\R (.str ⟨#[c]⟩) M from h);exact Ih value slice pins s σ H _ _ v u Q I rx ry ⟨_,_,_,rfl,rfl,hz,e,q _ _ _ _ (.refl H) rm (.str _) h⟩ hs
  | _=>exact (show False from h).elim
 | str k =>
  obtain⟨xs,ds,w',rfl,e,h⟩:=FS h;cases r1 with
  | sd T r =>
   obtain⟨z,e1,r1⟩:=Jj r e;exact KC value slice pins s σ H _ _ v u Q I rx ry ⟨_,_,_,_,_,rfl,rfl,T,e1,q _ _ _ _ (.refl H) rm r1 h⟩ hs
 | _=>exact (FT (by rintro i ⟨⟩) (by rintro i ⟨⟩) h).elim
noncomputable def cutG {α:Type} (xs:List α) (lo hi:Option Int):List α:=(xs.drop (HT.sIx xs.length 0 lo)).take (HT.sIx xs.length xs.length hi-HT.sIx xs.length 0 lo)
theorem RelDs.cut {K:Frag} {H:Hp} {vs:List V} {ds:List D} (r:RelDs K H vs ds) (lo hi:Option Int):RelDs K H (cutV vs lo hi) (cutG ds lo hi):=by
 unfold cutV cutG;rw[r.length];exact (r.drop _).take _
noncomputable def sOp (d:D) (lo hi:Option Int) (M:Mem) (Q:DK):Prop :=
 match d with
 | .fz xs=>alloc M (.ls (cutG xs lo hi)) fun p M'=>Q (.lst p) M'
 | .lst a=>∃ xs,M a=some (.ls xs)/\alloc M (.ls (cutG xs lo hi)) fun p M'=>Q (.lst p) M'
 | .tup xs=>Q (.tup (cutG xs lo hi)) M
 | _=>False
noncomputable def KA (K:Frag) (f:D->Option Int->Option Int->Mem->DK->Prop):V->Option Int->Option Int->Hp->VK->Prop:=fun x lo hi H Q=>∃ d M R,RelD K H x d/\RepM K H M/\f d lo hi M R/\∀ d' M' v H',HExt K H H'->RepM K H' M'->RelD K H' v d'->R d' M'->Q v H'
theorem sl_s:SlR X (KA X.K sOp):=by
 rintro pins s σ H x v vl vu lo hi sl Q I rx hs pl pu ⟨d,M,R,r1,rm,h,q⟩;cases r1 with
 | fz ht r =>
  exact AS pins s σ H _ v vl vu lo hi sl Q I rx hs pl pu ⟨_,_,rfl,ht.sq,fun p hp=>q _ _ _ _ (.upd (.inl hp)) (rm.lst hp (r.cut lo hi)) (.lst p) ((show alloc M (.ls (cutG _ lo hi)) fun p M'=>R (.lst p) M' from h).at (rm.none hp))⟩
 | lst a =>
  obtain⟨xs,e0,h⟩:=(show ∃ xs,M a=some (.ls xs)/\alloc M (.ls (cutG xs lo hi)) fun p M'=>R (.lst p) M' from h);obtain⟨vs,e1,r⟩:=rm _ _ e0;exact AS pins s σ H _ v vl vu lo hi sl Q I rx hs pl pu ⟨_,_,rfl,.of e1,fun p hp=>q _ _ _ _ (.upd (.inl hp)) (rm.lst hp (r.cut lo hi)) (.lst p) (h.at (rm.none hp))⟩
 | tup ht r =>
  rename_i vs ds;by_cases hw:HT.sIx vs.length 0 lo=0/\HT.sIx vs.length vs.length hi=vs.length
  ·have e:cutG ds lo hi=ds:=by
    unfold cutG;rw[<- r.length,hw.1,hw.2,List.drop_zero,Nat.sub_zero,r.length,List.take_length]
   have h':R (.tup (cutG ds lo hi)) M:=h;rw[e] at h';exact Fb pins s σ H _ v vl vu lo hi sl Q I rx hs pl pu ⟨_,_,rfl,ht,hw,q _ _ _ _ (.refl H) rm (.tup ht r) h'⟩
  ·exact Hh pins s σ H _ v vl vu lo hi sl Q I rx hs pl pu ⟨_,_,rfl,ht,hw,fun p hp=>q _ _ _ _ (.upd (.inl hp)) (rm.tup hp) (.tup (.of upd_same) ((r.cut lo hi).ext (.upd (.inl hp)))) h⟩
 | _=>exact (show False from h).elim
noncomputable def fAbs:List D->Mem->DK->Prop
 | [.int i],M,Q=>Q (.int (if i<0 then -i else i)) M
 | _,_,_=>False
noncomputable def fMax:List D->Mem->DK->Prop
 | [.int i,.int j],M,Q=>Q (.int (if j > i then j else i)) M
 | _,_,_=>False
noncomputable def fMin:List D->Mem->DK->Prop
 | [.int i,.int j],M,Q=>Q (.int (if j<i then j else i)) M
 | _,_,_=>False
noncomputable def fStr:List D->Mem->DK->Prop
 | [.int i],M,Q=>i.natAbs.log2<1920/\Q (.str (toString i)) M
 | _,_,_=>False
noncomputable def fLen:List D->Mem->DK->Prop
 | [.tup xs],M,Q=>Q (.int xs.length) M
 | [.fz xs],M,Q=>Q (.int xs.length) M
 | [.lst a],M,Q=>∃ xs,M a=some (.ls xs)/\Q (.int xs.length) M
 | [.str z],M,Q=>z.length<=sizeLine/\Q (.int z.length) M
 | _,_,_=>False
noncomputable def UV:List D->Mem->DK->Prop
 | [.int i,.int j],M,Q=>Ut j/\Q (.tup [.int (i.fdiv j),.int (i.fmod j)]) M
 | _,_,_=>False
noncomputable def Y5:List D->Mem->DK->Prop
 | [.tup xs],M,Q=>Q (.tup xs) M
 | [.fz xs],M,Q=>Q (.tup xs) M
 | [.lst a],M,Q=>∃ xs,M a=some (.ls xs)/\Q (.tup xs) M
 | _,_,_=>False
noncomputable def Yg:List D->Mem->DK->Prop
 | [.tup xs],M,Q=>alloc M (.ls xs) fun p M'=>Q (.lst p) M'
 | [.fz xs],M,Q=>alloc M (.ls xs) fun p M'=>Q (.lst p) M'
 | [.lst a],M,Q=>∃ xs,M a=some (.ls xs)/\alloc M (.ls xs) fun p M'=>Q (.lst p) M'
 | _,_,_=>False
noncomputable def fInt:List D->Mem->DK->Prop
 | [.int i],M,Q=>Q (.int i) M
 | [.bl b],M,Q=>Q (.int (if b then 1 else 0)) M
 | _,_,_=>False
theorem RelDs.one {K:Frag} {H:Hp} {vs:List V} {d:D} (r:RelDs K H vs [d]):∃ v,vs=[v]/\RelD K H v d:=by
 cases r with|cons h q=>cases q;exact⟨_,rfl,h⟩
theorem RelDs.two {K:Frag} {H:Hp} {vs:List V} {d e:D} (r:RelDs K H vs [d,e]):∃ v w,vs=[v,w]/\RelD K H v d/\RelD K H w e:=by
 cases r with|cons h q=>cases q with|cons h' q'=>cases q';exact⟨_,_,rfl,h,h'⟩
theorem K7:CallR X (.builtin "abs") (Xs X.K fAbs):=by
 refine (EJ (X:=X)).imp ?_;rintro xs H Q ⟨ds,M,R,r,rm,h,q⟩;unfold fAbs at h;split at h
 ·obtain⟨v,rfl,ra⟩:=r.one;cases ra;exact⟨_,rfl,q _ _ _ _ (.refl H) rm (.int _) h⟩
 ·exact h.elim
theorem K0 (hc:X.calm=true):CallR X (.builtin "max") (Xs X.K fMax):=by
 refine (Cp (X:=X) hc).imp ?_;rintro xs H Q ⟨ds,M,R,r,rm,h,q⟩;unfold fMax at h;split at h
 ·obtain⟨v,w,rfl,r1,r2⟩:=r.two;cases r1;cases r2;exact⟨_,_,rfl,q _ _ _ _ (.refl H) rm (.int _) h⟩
 ·exact h.elim
theorem IZ (hc:X.calm=true):CallR X (.builtin "min") (Xs X.K fMin):=by
 refine (Co (X:=X) hc).imp ?_;rintro xs H Q ⟨ds,M,R,r,rm,h,q⟩;unfold fMin at h;split at h
 ·obtain⟨v,w,rfl,r1,r2⟩:=r.two;cases r1;cases r2;exact⟨_,_,rfl,q _ _ _ _ (.refl H) rm (.int _) h⟩
 ·exact h.elim
theorem K3:CallR X (.builtin "len") (Xs X.K fLen):=by
 refine (J1 (X:=X) |>.or J0).imp ?_;rintro xs H Q ⟨ds,M,R,r,rm,h,q⟩;unfold fLen at h;split at h
 ·obtain⟨v,rfl,ra⟩:=r.one;cases ra with|tup ht r=>exact .inl ⟨_,_,rfl,.inr ht,q _ _ _ _ (.refl H) rm (by rw[r.length];exact .int _) h⟩
 ·obtain⟨v,rfl,ra⟩:=r.one;cases ra with|fz ht r=>exact .inl ⟨_,_,rfl,.inl ht.sq,q _ _ _ _ (.refl H) rm (by rw[r.length];exact .int _) h⟩
 ·obtain⟨v,rfl,ra⟩:=r.one
  obtain⟨xs,e0,h⟩:=h;obtain⟨vs,e1,r'⟩:=rm _ _ e0;cases ra;exact .inl ⟨_,_,rfl,.inl (.of e1),q _ _ _ _ (.refl H) rm (by rw[r'.length];exact .int _) h⟩
 ·obtain⟨v,rfl,ra⟩:=r.one;cases ra;exact .inr ⟨_,rfl,h.1,q _ _ _ _ (.refl H) rm (.int _) h.2⟩
 ·exact h.elim
theorem Cq:CallR X (.builtin "divmod") (Xs X.K UV):=by
 rintro pins s σ H xs us Q I rv ⟨ds,M,R,r,rm,h,q⟩;unfold UV at h;split at h
 ·rename_i i j
  obtain⟨v,w,rfl,r1,r2⟩:=r.two;cases r1;cases r2;obtain⟨u,w',rfl,⟨t,rfl⟩,⟨t',rfl⟩⟩:=WB rv;refine divmod_int h.1.1 ?_ (.inl (PyProof.noPylong_of_log2 h.1.2));have hn:H s.heap.objs.size=none:=I.hok.fresh %[|3];refine⟨.ref s.heap.objs.size,upd H s.heap.objs.size (.tup [.int (i.fdiv j),.int (i.fmod j)]),?_,rfl,q _ _ _ _ (.upd (.inl hn)) (rm.tup hn) (.tup (.of upd_same) (.cons (.int _) (.cons (.int _) .nil))) h.2⟩;refine I.laid (fun b o e=>Heap.get?_push_of_some _ e) %[|3] ⟨by simp only[List.length_cons,List.length_nil];rw[sizeLine_eq];decide,[.int (i.fdiv j) s.toks,.int (i.fmod j) (s.toks+1)],.cons ⟨_,rfl⟩ (.cons ⟨_,rfl⟩ .nil),?_⟩;exact⟨_,Heap.get?_push_size s.heap rfl,rfl,0,rfl⟩
 ·exact h.elim
theorem EK:CallR X (.type "tuple") (Xs X.K Y5):=by
 refine (VS (X:=X)).imp ?_;rintro xs H Q ⟨ds,M,R,r,rm,h,q⟩;unfold Y5 at h;split at h
 ·obtain⟨v,rfl,ra⟩:=r.one;cases ra with|tup ht r=>exact⟨_,_,rfl,.inr ⟨ht,q _ _ _ _ (.refl H) rm (.tup ht r) h⟩⟩
 ·obtain⟨v,rfl,ra⟩:=r.one;cases ra with|fz ht r=>exact⟨_,_,rfl,.inl ⟨ht.sq,fun p hp=>q _ _ _ _ (.upd (.inl hp)) (rm.tup hp) (.tup (.of upd_same) (r.ext (.upd (.inl hp)))) h⟩⟩
 ·obtain⟨v,rfl,ra⟩:=r.one
  obtain⟨xs,e0,h⟩:=h;obtain⟨vs,e1,r'⟩:=rm _ _ e0;cases ra;exact⟨_,_,rfl,.inl ⟨.of e1,fun p hp=>q _ _ _ _ (.upd (.inl hp)) (rm.tup hp) (.tup (.of upd_same) (r'.ext (.upd (.inl hp)))) h⟩⟩
 ·exact h.elim
theorem Gx:CallR X (.type "list") (Xs X.K Yg):=by
 refine (UZ (X:=X)).imp ?_;rintro xs H Q ⟨ds,M,R,r,rm,h,q⟩;unfold Yg at h;split at h
 ·obtain⟨v,rfl,ra⟩:=r.one;cases ra with|tup ht r=>exact⟨_,_,rfl,.inr ht,fun p hp=>q _ _ _ _ (.upd (.inl hp)) (rm.lst hp r) (.lst p) (h.at (rm.none hp))⟩
 ·obtain⟨v,rfl,ra⟩:=r.one;cases ra with|fz ht r=>exact⟨_,_,rfl,.inl ht.sq,fun p hp=>q _ _ _ _ (.upd (.inl hp)) (rm.lst hp r) (.lst p) (h.at (rm.none hp))⟩
 ·obtain⟨v,rfl,ra⟩:=r.one
  obtain⟨xs,e0,h⟩:=h;obtain⟨vs,e1,r'⟩:=rm _ _ e0;cases ra;exact⟨_,_,rfl,.inl (.of e1),fun p hp=>q _ _ _ _ (.upd (.inl hp)) (rm.lst hp r') (.lst p) (h.at (rm.none hp))⟩
 ·exact h.elim
end
end DL
end
noncomputable section
namespace DL
open PySem PySem.Spec PyProof.Rows L2
noncomputable def tyD (M:Mem):D->Option String
 | .non=>some "NoneType"
 | .bl _=>some "bool"
 | .int _=>some "int"
 | .str _=>some "str"
 | .tup _=>some "tuple"
 | .fz _=>some "list"
 | .lst a=>match M a with|some (.ls _)=>some "list" | _=>none
 | .dct a=>match M a with|some (.dk _)=>some "dict" | _=>none
 | .exc _ _=>some "exc"
 | _=>none
noncomputable def isiT (a b:String):Bool:=a==b || (a == "bool" && b == "int") || (a == "exc" && b == "ValueError")
noncomputable def fIsi:List D->Mem->DK->Prop
 | [d,.ty T],M,Q=>∃ t,tyD M d=some t/\(T="int"\/T="bool"\/T="str"\/T="tuple"\/T="list"\/T="dict"\/T="ValueError")/\Q (.bl (isiT t T)) M
 | [.non,.cls _],M,Q=>Q (.bl false) M
 | [d,.cls c],M,Q=>∃ m,d=.exc m (xarg d)/\Q (.bl (YD m c)) M
 | [d,.tup cs],M,Q=>∃ m,∃ ns:List Str,d=.exc m (xarg d)/\cs=ns.map .cls/\Q (.bl (ns.any (YD m))) M
 | _,_,_=>False
theorem ZI (K:Frag) (h:t="NoneType"\/t="bool"\/t="int"\/t="str"\/t="tuple"\/t="list"\/t="dict")
  (h':T="int"\/T="bool"\/T="str"\/T="tuple"\/T="list"\/T="dict"\/T="ValueError"):PySem.W.kitOne K (.type t) (.type T)=some (isiT t T):=by
 rcases h with rfl|rfl|rfl|rfl|rfl|rfl|rfl<;>rcases h' with rfl|rfl|rfl|rfl|rfl|rfl|rfl<;>kernel_rfl
section
variable {X:Cx} {rz:Bool} {Xe:DSt->DK}
theorem Wh (I:L2.Inv X pins σ H s) (r:RelD X.K H v (.exc n x)):∃ a C,v=.ref a/\n∈xNames/\YS X.K n C/\∃ ox od,PySem.W.InstAt s.heap a ox C od:=by
 cases r with
 | @exc a C n hn hi hc h =>
  obtain⟨ob,vs,h1,h2,h3,h4⟩:=(I.hok _ _ h).1;exact⟨a,C,rfl,hn,hc,ob,none,h1,h2,by unfold PySem.W.notCls;rw[h4],by rw[h3];trivial⟩
 | @excF a C d n v x hn hi hc h hd r =>
  obtain⟨ob,vs,h1,h2,h3,h4⟩:=(I.hok _ _ h).1;obtain⟨o,ho⟩:=(I.hok _ _ hd).2.1;exact⟨a,C,rfl,hn,hc,ob,some o,h1,h2,by unfold PySem.W.notCls;rw[h4],by rw[h3];exact ho⟩
theorem K4 (tab:Zv X.K=true):CallR X (.builtin "isinstance") (Xs X.K fIsi):=by
 rintro pins s σ H xs us Q I rv ⟨ds,M,R,r,rm,h,q⟩;unfold fIsi at h;split at h
 ·rename_i d T
  obtain⟨v,w,rfl,r1,r2⟩:=r.two;cases r2;obtain⟨u,w',rfl,ru,rw'⟩:=WB rv;cases (show w'=Value.type T from rw');obtain⟨t,e,hT,h⟩:=h;have fin:∀ tk,EP X pins σ Q (.bool (isiT t T)) {s with toks:=tk}:=fun tk=>⟨.bl _,H,I.tok tk,rfl,q _ _ _ _ (.refl H) rm (.bl _) h⟩;cases r1 with
  | non=>cases e;cases (show u=Value.none from ru);exact PySem.W.kia_one PySem.W.kitx_none I.kIn True.intro (ZI _ (by simp) hT) (fun z=>nomatch z) fin
  | bl b=>cases e;cases (show u=Value.bool b from ru);exact PySem.W.kia_one PySem.W.kitx_bool I.kIn True.intro (ZI _ (by simp) hT) (fun z=>nomatch z) fin
  | int i=>cases e;obtain⟨t,rfl⟩:=(show ∃ t,u=Value.int i t from ru);exact PySem.W.kia_one PySem.W.kitx_int I.kIn True.intro (ZI _ (by simp) hT) (fun z=>nomatch z) fin
  | str x=>cases e;obtain⟨t,rfl⟩:=(show ∃ t,u=Value.str x t from ru);exact PySem.W.kia_one PySem.W.kitx_str I.kIn True.intro (ZI _ (by simp) hT) (fun z=>nomatch z) fin
  | @tup a vs ds ht _ =>
   cases e;cases (show u=Value.ref a from ru);obtain⟨its,_,⟨o,h1,h2,_⟩,_⟩:=I.tuple ht;exact PySem.W.kia_one PySem.W.kitx_tuple I.kIn ⟨o,h1,h2⟩ (ZI _ (by simp) hT) (fun z=>nomatch z) fin
  | @fz a vs ds ht _ =>
   cases e;cases (show u=Value.ref a from ru);obtain⟨its,_,⟨o,n,h1,h2,_⟩,_⟩:=I.list ht.sq;exact PySem.W.kia_one PySem.W.kitx_list I.kIn ⟨o,h1,h2⟩ (ZI _ (by simp) hT) (fun z=>nomatch z) fin
  | lst a =>
   cases (show u=Value.ref a from ru);simp only[tyD] at e;split at e<;>cases e;rename_i ds e0;obtain⟨vs,e1,_⟩:=rm _ _ e0;obtain⟨its,_,⟨o,n,h1,h2,_⟩,_⟩:=I.list (.of e1);exact PySem.W.kia_one PySem.W.kitx_list I.kIn ⟨o,h1,h2⟩ (ZI _ (by simp) hT) (fun z=>nomatch z) fin
  | dct a =>
   cases (show u=Value.ref a from ru);simp only[tyD] at e;split at e<;>cases e;rename_i ds e0;obtain⟨vs,e1,_⟩:=rm _ _ e0;obtain⟨_,_,vs,_,p⟩:=(show ObjOk X.prog X.w H s.heap a (.dK vs) from I.hok a _ e1);obtain⟨o,es,ep,h1,h2,_⟩:=p;exact PySem.W.kia_one PySem.W.kitx_dict I.kIn ⟨o,h1,h2.1⟩ (ZI _ (by simp) hT) (fun z=>nomatch z) fin
  | @exc a C n hn hi hc hx =>
   obtain⟨a,C,ev,hn,hc,hx⟩:=Wh I (.exc hn hi hc hx);cases ev;cases e;cases (show u=Value.ref a from ru);have e:isiT "exc" T=(T == "ValueError"):=by rcases hT with rfl|rfl|rfl|rfl|rfl|rfl|rfl<;>decide
   rw[e] at fin;exact PySem.W.kia_one (Wb (YM tab hn hc).1) I.kIn hx ((YM tab hn hc).2.2.1 T hT) (fun z=>nomatch z) fin
  | @excF a C d n v x hn hi hc hx hd rr0 =>
   obtain⟨a,C,ev,hn,hc,hx⟩:=Wh I (.excF hn hi hc hx hd rr0);cases ev;cases e;cases (show u=Value.ref a from ru);have e:isiT "exc" T=(T == "ValueError"):=by rcases hT with rfl|rfl|rfl|rfl|rfl|rfl|rfl<;>decide
   rw[e] at fin;exact PySem.W.kia_one (Wb (YM tab hn hc).1) I.kIn hx ((YM tab hn hc).2.2.1 T hT) (fun z=>nomatch z) fin
  | _=>cases e
 ·rename_i c
  obtain⟨v,w,rfl,r1,r2⟩:=r.two;obtain⟨u,w',rfl,ru,rw'⟩:=WB rv;cases r1;cases r2 with
  | @cls D' c' hn' hc' =>
   cases (show w'=Value.ref D' from rw');cases (show u=Value.none from ru);exact PySem.W.kia_one PySem.W.kitx_none I.kIn True.intro (Dp tab hn' hc') (fun z=>nomatch z) fun tk=>⟨.bl _,H,I.tok tk,rfl,q _ _ _ _ (.refl H) rm (.bl _) h⟩
 ·rename_i d c _
  obtain⟨v,w,rfl,r1,r2⟩:=r.two;obtain⟨u,w',rfl,ru,rw'⟩:=WB rv;obtain⟨m,ed,h⟩:=h;rw[ed] at r1;cases r2 with
  | @cls D' c' hn' hc' =>
   cases (show w'=Value.ref D' from rw');obtain⟨a,C,ev,hn,hc,hx⟩:=Wh I r1;subst ev
   ·cases (show u=Value.ref a from ru)
    have fin:∀ tk,EP X pins σ Q (.bool (YD m c)) {s with toks:=tk}:=fun tk=>⟨.bl _,H,I.tok tk,rfl,q _ _ _ _ (.refl H) rm (.bl _) h⟩;exact PySem.W.kia_one (Wb (YM tab hn hc).1) I.kIn hx ((YM tab hn hc).2.2.2 c D' hn' hc').2 (fun z=>nomatch z) fin
 ·rename_i d cs
  obtain⟨v,w,rfl,r1,r2⟩:=r.two;obtain⟨u,w',rfl,ru,rw'⟩:=WB rv;obtain⟨m,ns,ed,rfl,h⟩:=h;rw[ed] at r1;cases r2 with
  | @tup b vs ds ht rr =>
   cases (show w'=Value.ref b from rw');obtain⟨a,C,ev,hn,hc,hx⟩:=Wh I r1;subst ev
   ·cases (show u=Value.ref a from ru)
    obtain⟨its,rv2,⟨o,h1,h2,n2,h3⟩,_⟩:=I.tuple ht;have key:∀ {ns:List Str} {vs:List V} {its:List Value},RelDs X.K H vs (ns.map .cls)->Vals vs its->PySem.W.kitAny X.K (.ref C) its=some (ns.any (YD m)):=by
     intro ns
     induction ns with
     | nil=>intro vs its r q;cases r;cases q;rfl
     | cons c ns ih =>
      intro vs its r q;cases r with
      | cons e r =>
       cases e with
       | @cls D' c' hn' hc' =>
        cases q with
        | cons e2 q =>
         cases e2;have k1:=((YM tab hn hc).2.2.2 c D' hn' hc').2;show (match PySem.W.kitOne X.K (.ref C) (.ref D') with|some true=>some true|some false=>PySem.W.kitAny X.K (.ref C) _|none=>none)=_;rw[k1,List.any_cons];cases YD m c with
         | true=>rfl
         | false=>exact ih r q
    have fin:∀ tk,EP X pins σ Q (.bool (ns.any (YD m))) {s with toks:=tk}:=fun tk=>⟨.bl _,H,I.tok tk,rfl,q _ _ _ _ (.refl H) rm (.bl _) h⟩;obtain⟨oc,od,odt,osl⟩:=o;cases h2;cases h3;exact PySem.W.kia_tup (Wb (YM tab hn hc).1) I.kIn hx h1 (key rr rv2) (fun z=>nomatch z) fin
 ·exact h.elim
noncomputable def fAll:List D->Mem->DK->Prop
 | [.lst a],M,Q=>∃ bs:List Bool,M a=some (.ls (bs.map .bl))/\Q (.bl (bs.all id)) M
 | _,_,_=>False
noncomputable def fAny:List D->Mem->DK->Prop
 | [.lst a],M,Q=>∃ bs:List Bool,M a=some (.ls (bs.map .bl))/\Q (.bl (bs.any id)) M
 | _,_,_=>False
theorem Uo {K:Frag} {H:Hp} {bs:List Bool}:∀ {vs:List V} {us:List Value},RelDs K H vs (bs.map .bl)->Vals vs us->LSm.BoolsAre us bs:=by
 induction bs with
 | nil=>intro vs us r q;cases r;cases q;exact .nil
 | cons b bs ih =>
  intro vs us r q;cases r with
  | cons rb r =>
   cases rb;cases q with
   | cons e q =>
    cases e;exact .cons _ (ih r q)
theorem K6 (hc:X.calm=true):CallR X (.builtin "all") (Xs X.K fAll):=by
 rintro pins s σ H xs us Q I rv ⟨ds,M,R,r,rm,h,q⟩;unfold fAll at h;split at h
 ·rename_i a
  obtain⟨v,rfl,ra⟩:=r.one;cases ra;obtain⟨u,rfl,ru⟩:=V6 rv;cases (show u=Value.ref a from ru);obtain⟨bs,e0,h⟩:=h;obtain⟨vs,e1,r1⟩:=rm _ _ e0;obtain⟨its,r2,pl,_⟩:=I.list (.of e1);have hb:=Uo r1 r2;have hl:=pl.isList;have hlt:a<s.heap.objs.size:=by obtain⟨_,e,_⟩:=hl;exact Heap.lt_size e
  refine call_all_walk (wpAny_pyIter_list hl ?_);refine⟨s.heap.objs.size,[s.heap.objs.size,a],[s.heap.objs.size],its.toArray.size,_,_,fun i=>(bs[i]?).getD true,rfl,Walks.list (A:=X.A.in1) (I.ok.hd hc) _ a (Nat.ne_of_lt hlt) its.toArray,
   ⟨⟨_,Heap.get?_push_size _ rfl,rfl,rfl⟩,hl.push _⟩,fun i v s' Q' E' hP hQ=>?_,fun h' tk hk=>?_⟩
  ·obtain⟨b,e,rfl⟩:=hb.get i v (by simpa using hP)
   simp only[e,Option.getD_some] at hQ;exact wpAny_truthy_bool hQ
  ·have e:((List.range its.toArray.size).all fun i=>(bs[i]?).getD true)=bs.all id:=by
    rw[List.size_toArray,hb.length];exact LSm.range_all bs
   rw[e];exact⟨.bl _,H,I.kept (LSm.kept_iter hk),rfl,q _ _ _ _ (.refl H) rm (.bl _) h⟩
 ·exact h.elim
theorem K5 (hc:X.calm=true):CallR X (.builtin "any") (Xs X.K fAny):=by
 rintro pins s σ H xs us Q I rv ⟨ds,M,R,r,rm,h,q⟩;unfold fAny at h;split at h
 ·rename_i a
  obtain⟨v,rfl,ra⟩:=r.one;cases ra;obtain⟨u,rfl,ru⟩:=V6 rv;cases (show u=Value.ref a from ru);obtain⟨bs,e0,h⟩:=h;obtain⟨vs,e1,r1⟩:=rm _ _ e0;obtain⟨its,r2,pl,_⟩:=I.list (.of e1);have hb:=Uo r1 r2;have hl:=pl.isList;have hlt:a<s.heap.objs.size:=by obtain⟨_,e,_⟩:=hl;exact Heap.lt_size e
  refine call_any_walk (wpAny_pyIter_list hl ?_);refine⟨s.heap.objs.size,[s.heap.objs.size,a],[s.heap.objs.size],its.toArray.size,_,_,fun i=>(bs[i]?).getD false,rfl,Walks.list (A:=X.A.in1) (I.ok.hd hc) _ a (Nat.ne_of_lt hlt) its.toArray,
   ⟨⟨_,Heap.get?_push_size _ rfl,rfl,rfl⟩,hl.push _⟩,fun i v s' Q' E' hP hQ=>?_,fun h' tk hk=>?_⟩
  ·obtain⟨b,e,rfl⟩:=hb.get i v (by simpa using hP)
   simp only[e,Option.getD_some] at hQ;exact wpAny_truthy_bool hQ
  ·have e:((List.range its.toArray.size).any fun i=>(bs[i]?).getD false)=bs.any id:=by
    rw[List.size_toArray,hb.length];exact LSm.range_any bs
   rw[e];exact⟨.bl _,H,I.kept (LSm.kept_iter hk),rfl,q _ _ _ _ (.refl H) rm (.bl _) h⟩
 ·exact h.elim
end
noncomputable def truD (d:D) (M:Mem) (Q:Bool->Mem->Prop):Prop :=
 match d with
 | .non=>Q false M
 | .bl b=>Q b M
 | .int i=>Q (i != 0) M
 | .str y=>y.length<=sizeLine/\Q ((y.length:Int) != 0) M
 | .tup xs=>Q (!xs.isEmpty) M
 | .fz xs=>Q (!xs.isEmpty) M
 | .lst a=>∃ xs,M a=some (.ls xs)/\Q (!xs.isEmpty) M
 | _=>False
noncomputable def dTru (t:DE):DT:=fun δ M Q=>t δ M fun d M1=>truD d M1 Q
section
variable {X:Cx} {rz:Bool} {Xe:DSt->DK} {a b c e:Expr} {es rest:List Expr} {ta tb tc:DE} {t:DA} {tA tB:DT} {pos:Pos}
theorem RelDs.isEmpty {K:Frag} {H:Hp} {vs:List V} {ds:List D} (r:RelDs K H vs ds):vs.isEmpty=ds.isEmpty:=by cases r<;>rfl
theorem Ir (ha:PE X a (lift (X.L rz Xe) ta)) (he:∀ whole,isTrue a X.env whole=(do let v <- whole;standAt a.pos;holding [v] (truthy v))):PT X a (Zh (X.L rz Xe) (dTru ta)) :=
 (D0 ha he).imp fun σ H Q ⟨δ,M,R,rs,rm,t,q⟩=>⟨δ,M,_,rs,rm,t,fun d M' v H' x m r h=>by
  cases r with
  | non=>exact⟨_,rfl,q _ _ _ x m h⟩
  | bl b=>exact⟨_,rfl,q _ _ _ x m h⟩
  | int i=>exact⟨_,rfl,q _ _ _ x m h⟩
  | str y=>exact⟨_,⟨h.1,rfl⟩,q _ _ _ x m h.2⟩
  | tup ht r=>exact⟨_,.inr (.inl ⟨_,ht,rfl⟩),q _ _ _ x m (by rw[r.isEmpty];exact h)⟩
  | fz ht r=>exact⟨_,.inl ⟨_,ht.sq,rfl⟩,q _ _ _ x m (by rw[r.isEmpty];exact h)⟩
  | lst a =>
   obtain⟨xs,e0,h⟩:=h;obtain⟨vs,e1,r⟩:=m _ _ e0;exact⟨_,.inl ⟨_,.of e1,rfl⟩,q _ _ _ x m (by rw[r.isEmpty];exact h)⟩
  | _=>exact (show False from h).elim⟩
theorem Iv (hu:X.A.units+66<cLine) (ha:PE X a (lift (X.L rz Xe) ta)) (hb:PE X b (lift (X.L rz Xe) tb)) (hm:behindInMarks op b=false):PT X (.Compare a [op] [b] pos) (Zh (X.L rz Xe) (Bk (d2 (cOp op) ta tb))) :=
 (Fl (op_c hu op) ha hb hm).imp fun σ H Q ⟨δ,M,R,rs,rm,t,q⟩=>Bp ⟨δ,M,_,rs,rm,t,fun d M' v H' x m r ⟨k,e,h⟩=>by
  subst e;cases r;exact⟨k,rfl,q _ _ _ x m h⟩⟩
theorem IU (hu:X.A.units+66<cLine) (ha:PE X a (lift (X.L rz Xe) ta)) (hb:PE X b (lift (X.L rz Xe) tb)) (hm:behindInMarks op b=false):PE X (.Compare a [op] [b] pos) (lift (X.L rz Xe) (d2 (cOp op) ta tb)) :=
 (Fu (op_c hu op) ha hb hm).imp fun _ _ _=>Bp
noncomputable def VG (f g:D->D->Mem->DK->Prop) (ta tb tc:DE):DE:=fun δ M Q=>ta δ M fun x M1=>tb δ M1 fun y M2=>f x y M2 fun z M3=>∃ k,z=.bl k/\if k=true then tc δ M3 fun w M4=>g y w M4 Q else Q (.bl false) M3
theorem Ui (h:lift Λ (VG f g ta tb tc) σ H Q):A5 (Zk Λ.K f) (Zk Λ.K g) (lift Λ ta) (lift Λ tb) (lift Λ tc) σ H Q:=by
 obtain⟨δ,M,R,rs,rm,t,q⟩:=h;refine seq2 (R:=fun x y M2=>f x y M2 _) rs rm t fun x y M2 v u H2 x2 m2 r1 r2 t2=>⟨x,y,M2,_,r1,r2,m2,t2,fun d M3 w H3 x3 m3 r3 hq7=>?_⟩;obtain⟨k,e,h⟩:=hq7;subst e;cases r3;refine⟨k,rfl,?_⟩;cases k with
 | true=>exact⟨δ,M3,_,rs.ext (x2.trans x3),m3,h,fun z M4 w4 H4 x4 m4 r4 h4=>⟨y,z,M4,R,(r2.ext x3).ext x4,r4,m4,h4,fun d' M' v' H' x5 m5 r5=>q d' M' v' H' (((x2.trans x3).trans x4).trans x5) m5 r5⟩⟩
 | false=>exact q _ _ _ _ (x2.trans x3) m3 (.bl false) h
theorem EC (hu:X.A.units+66<cLine) (ha:PE X a (lift (X.L rz Xe) ta)) (hb:PE X b (lift (X.L rz Xe) tb)) (hc:PE X c (lift (X.L rz Xe) tc)) (hm:lastMarks [op,op'] [b,c]=false) :
  PE X (.Compare a [op,op'] [b,c] pos) (lift (X.L rz Xe) (VG (cOp op) (cOp op') ta tb tc)):=(Dd (op_c hu op) (op_c hu op') ha hb hc hm).imp fun _ _ _=>Ui
theorem Ep (hu:X.A.units+66<cLine) (ha:PE X a (lift (X.L rz Xe) ta)) (hb:PE X b (lift (X.L rz Xe) tb)) (hc:PE X c (lift (X.L rz Xe) tc)) (hm:lastMarks [op,op'] [b,c]=false) :
  PT X (.Compare a [op,op'] [b,c] pos) (Zh (X.L rz Xe) (Bk (VG (cOp op) (cOp op') ta tb tc))):=by
 refine (D1 (op_c hu op) (op_c hu op') ha hb hc hm).imp ?_;rintro σ H Q ⟨δ,M,R,rs,rm,t,q⟩;exact Ui ⟨δ,M,_,rs,rm,t,fun d M' v H' x m r ⟨k,e,h⟩=>by
  subst e;cases r;exact⟨k,rfl,q _ _ _ x m h⟩⟩
theorem PW.imp {t t':TT} (h:PW X a t) (i:∀ σ H Q,t' σ H Q->t σ H Q):PW X a t':=fun whole pins s σ H Q I q=>h whole pins s σ H Q I (i _ _ _ q)
theorem Iq (ha:PT X a (Zh (X.L rz Xe) tA)) (hb:PW X (.BoolOp .And (b::rest) pos) (Zh (X.L rz Xe) tB)):PW X (.BoolOp .And (a::b::rest) pos) (Zh (X.L rz Xe) (dAnd tA tB)) :=
 PW.imp (Hq ha hb) fun σ H Q ⟨δ,M,R,rs,rm,t,q⟩=>⟨δ,M,_,rs,rm,t,fun k M' H' x m h=>by
  cases k with
  | true=>exact⟨δ,M',R,rs.ext x,m,h,fun b M2 H2 x2 m2=>q b M2 H2 (x.trans x2) m2⟩
  | false=>exact q _ _ _ x m h⟩
theorem KK (ha:PT X a (Zh (X.L rz Xe) tA)) (hb:PW X (.BoolOp .Or (b::rest) pos) (Zh (X.L rz Xe) tB)):PW X (.BoolOp .Or (a::b::rest) pos) (Zh (X.L rz Xe) (dOr tA tB)) :=
 PW.imp (Km ha hb) fun σ H Q ⟨δ,M,R,rs,rm,t,q⟩=>⟨δ,M,_,rs,rm,t,fun k M' H' x m h=>by
  cases k with
  | false=>exact⟨δ,M',R,rs.ext x,m,h,fun b M2 H2 x2 m2=>q b M2 H2 (x.trans x2) m2⟩
  | true=>exact q _ _ _ x m h⟩
theorem Iu (ha:PT X a (Zh (X.L rz Xe) tA)):PT X (.UnaryOp .Not a pos) (Zh (X.L rz Xe) (dNot tA)) :=
 (Hr ha).imp (by rintro σ H Q ⟨δ,M,R,rs,rm,t,q⟩;exact⟨δ,M,_,rs,rm,t,fun k M' H' x m h=>q _ _ _ x m h⟩)
theorem IX (ha:PE X a (lift (X.L rz Xe) ta)) (hb:PE X (.BoolOp .And (b::rest) pos) (lift (X.L rz Xe) tb)):PE X (.BoolOp .And (a::b::rest) pos) (lift (X.L rz Xe) (Bo ta tb)) :=
 (HI ha hb).imp fun σ H Q ⟨δ,M,R,rs,rm,t,q⟩=>⟨δ,M,_,rs,rm,t,fun d M' v H' x m r ⟨k,e,h⟩=>by
  subst e;cases r;refine⟨k,rfl,?_⟩;cases k with
  | true=>exact⟨δ,M',R,rs.ext x,m,h,fun d' M2 v' H2 x2 m2=>q d' M2 v' H2 (x.trans x2) m2⟩
  | false=>exact q _ _ _ _ x m (.bl false) h⟩
theorem KP (ha:PE X a (lift (X.L rz Xe) ta)) (hb:PE X (.BoolOp .Or (b::rest) pos) (lift (X.L rz Xe) tb)):PE X (.BoolOp .Or (a::b::rest) pos) (lift (X.L rz Xe) (dOrV ta tb)) :=
 (Kq ha hb).imp fun σ H Q ⟨δ,M,R,rs,rm,t,q⟩=>⟨δ,M,_,rs,rm,t,fun d M' v H' x m r ⟨k,e,h⟩=>by
  subst e;cases r;refine⟨k,rfl,?_⟩;cases k with
  | false=>exact⟨δ,M',R,rs.ext x,m,h,fun d' M2 v' H2 x2 m2=>q d' M2 v' H2 (x.trans x2) m2⟩
  | true=>exact q _ _ _ _ x m (.bl true) h⟩
noncomputable def EG (ta:DE):DE:=fun δ M Q=>ta δ M fun x M1=>∃ k,x=.bl k/\Q (.bl (!k)) M1
theorem IO (ha:PE X a (lift (X.L rz Xe) ta)):PE X (.UnaryOp .Not a pos) (lift (X.L rz Xe) (EG ta)) :=
 (HE ha).imp fun σ H Q ⟨δ,M,R,rs,rm,t,q⟩=>⟨δ,M,_,rs,rm,t,fun d M' v H' x m r ⟨k,e,h⟩=>by
  subst e;cases r;exact⟨k,rfl,q _ _ _ _ x m (.bl _) h⟩⟩
noncomputable def dNeg (ta:DE):DE:=fun δ M Q=>ta δ M fun x M1=>∃ i,x=.int i/\Q (.int (-i)) M1
theorem IP (ha:PE X a (lift (X.L rz Xe) ta)):PE X (.UnaryOp .USub a pos) (lift (X.L rz Xe) (dNeg ta)) :=
 (Ko Ha ha).imp fun σ H Q ⟨δ,M,R,rs,rm,t,q⟩=>⟨δ,M,_,rs,rm,t,fun d M' v H' x m r ⟨k,e,h⟩=>by
  subst e;cases r;exact⟨k,rfl,q _ _ _ _ x m (.int _) h⟩⟩
theorem IS (hc:PT X c (Zh (X.L rz Xe) tA)) (ha:PE X a (lift (X.L rz Xe) ta)) (hb:PE X b (lift (X.L rz Xe) tb)):PE X (.IfExp c a b pos) (lift (X.L rz Xe) (dIfE tA ta tb)) :=
 (Dc hc ha hb).imp fun σ H Q ⟨δ,M,R,rs,rm,t,q⟩=>⟨δ,M,_,rs,rm,t,fun k M' H' x m h=>by
  cases k with
  | true=>exact⟨δ,M',R,rs.ext x,m,h,fun d' M2 v' H2 x2 m2=>q d' M2 v' H2 (x.trans x2) m2⟩
  | false=>exact⟨δ,M',R,rs.ext x,m,h,fun d' M2 v' H2 x2 m2=>q d' M2 v' H2 (x.trans x2) m2⟩⟩
theorem Wx:PA X [] (Zj (X.L rz Xe) dNil):=by
 refine (De).imp ?_;rintro σ H Q ⟨δ,M,R,rs,rm,t,q⟩;exact q [] M [] H (.refl H) rm .nil t
theorem ZM (ha:PE X e (lift (X.L rz Xe) ta)) (hr:PA X es (Zj (X.L rz Xe) t)) (hs:starEach (e::es) X.env=(false,eval e X.env)::starEach es X.env):PA X (e::es) (Zj (X.L rz Xe) (YY ta t)) :=
 (UG ha hr hs).imp (by rintro σ H Q ⟨δ,M,R,rs,rm,t,q⟩;exact⟨δ,M,_,rs,rm,t,fun d M' v H' x m r h=>⟨δ,M',_,rs.ext x,m,h,fun ds M2 vs H2 x2 m2 r2 h2=>q _ _ _ _ (x.trans x2) m2 (.cons (r.ext x2) r2) h2⟩⟩)
theorem IM {x1} (h:PA X es (Zj (X.L rz Xe) t)):PE X (.Tuple es x1 pos) (lift (X.L rz Xe) (dTup t)) :=
 (HC h).imp (by rintro σ H Q ⟨δ,M,R,rs,rm,t,q⟩;exact⟨δ,M,_,rs,rm,t,(by rintro ds M' vs H' x m r ⟨hz,h⟩;exact⟨by rw[r.length];exact hz,fun p hp=>q _ _ _ _ (x.trans (.upd (.inl hp))) (m.tup hp) (.tup (.of upd_same) (r.ext (.upd (.inl hp)))) h⟩)⟩)
theorem IQ (h:PA X es (Zj (X.L rz Xe) t)):PE X (.List es pos) (lift (X.L rz Xe) (dLst t)) :=
 (HG h).imp (by rintro σ H Q ⟨δ,M,R,rs,rm,t,q⟩;exact⟨δ,M,_,rs,rm,t,(by rintro ds M' vs H' x m r ⟨hz,h⟩;exact⟨by rw[r.length];exact hz,fun p hp=>q _ _ _ _ (x.trans (.upd (.inl hp))) (m.lst hp r) (.lst p) (h.at (m.none hp))⟩)⟩)
theorem KQ (ha:PE X a (lift (X.L rz Xe) ta)) (hb:PE X b (lift (X.L rz Xe) tb)) (hs:J4 b):PE X (.Subscript a b pos) (lift (X.L rz Xe) (d2 iOp ta tb)):=(Ks ix_i ha hb hs).imp fun _ _ _=>Bp
abbrev DO:=DSt->Mem->(Option Int->Mem->Prop)->Prop
noncomputable def Jz (Λ:LK) (t:DO):TO:=fun σ H Q=>∃ δ M R,RepS Λ H δ σ/\RepM Λ.K H M/\t δ M R/\∀ o M' H',HExt Λ.K H H'->RepM Λ.K H' M'->R o M'->Q o H'
noncomputable def Bl:DO:=fun _ M Q=>Q none M
noncomputable def JM (t:DE):DO:=fun δ M Q=>t δ M fun x M1=>∃ i,x=.int i/\Q (some i) M1
theorem PO.imp {e:Option Expr} {t t':TO} (h:PO X e t) (i:∀ σ H Q,t' σ H Q->t σ H Q):PO X e t':=fun pins s σ H Q I q=>h pins s σ H Q I (i _ _ _ q)
theorem Gf:PO X none (Jz (X.L rz Xe) Bl):=PO.imp Fp (by rintro σ H Q ⟨δ,M,R,rs,rm,t,q⟩;exact q _ _ _ (.refl H) rm t)
theorem Ge (h:PE X e (lift (X.L rz Xe) ta)):PO X (some e) (Jz (X.L rz Xe) (JM ta)):=PO.imp (Fo h) fun σ H Q ⟨δ,M,R,rs,rm,t,q⟩=>⟨δ,M,_,rs,rm,t,fun d M' v H' x m r ⟨i,e,h⟩=>by
  subst e;cases r;exact⟨i,rfl,q _ _ _ x m h⟩⟩
noncomputable def dSl (te:DE) (tl th:DO):DE:=fun δ M Q=>te δ M fun x M1=>tl δ M1 fun l M2=>th δ M2 fun u M3=>sOp x l u M3 Q
theorem KO {lo hi:Option Expr} {tl th:DO} {p2:Pos} (he:PE X e (lift (X.L rz Xe) ta)) (hl:PO X lo (Jz (X.L rz Xe) tl)) (hu:PO X hi (Jz (X.L rz Xe) th)):PE X (.Subscript e (.Slice lo hi none p2) pos) (lift (X.L rz Xe) (dSl ta tl th)) :=
 (Db sl_s he hl hu).imp fun σ H Q ⟨δ,M,R,rs,rm,t,q⟩=>⟨δ,M,_,rs,rm,t,fun d M1 v H1 x1 m1 r1 h1=>⟨δ,M1,_,rs.ext x1,m1,h1,fun l M2 H2 x2 m2 h2=>⟨δ,M2,_,rs.ext (x1.trans x2),m2,h2,fun u M3 H3 x3 m3 h3 =>
  ⟨d,M3,R,(r1.ext x2).ext x3,m3,h3,fun d' M' v' H' x4 m4 r4=>q d' M' v' H' (((x1.trans x2).trans x3).trans x4) m4 r4⟩⟩⟩⟩
theorem ZN (h:lift Λ (dCB f t) σ H Q):tCB (Xs Λ.K f) (Zj Λ t) σ H Q:=by
 obtain⟨δ,M,R,rs,rm,t,q⟩:=h;exact⟨δ,M,_,rs,rm,t,fun ds M' vs H' x m r h=>⟨ds,M',R,r,m,h,fun d' M2 v' H2 x2 m2 r2=>q d' M2 v' H2 (x.trans x2) m2 r2⟩⟩
end
end DL
end
noncomputable section
namespace DL
open PySem PySem.Spec PyProof.Rows L2
section
variable {K:Frag} {H:Hp} {M:Mem}
end
noncomputable def keyD:D->Option Key
 | .int i=>some (.inl i)
 | .str x=>some (.inr x)
 | _=>none
noncomputable def Mt:DE:=fun _ M Q=>alloc M (.dk []) fun p M'=>Q (.dct p) M'
noncomputable def Ms (tk tv:DE):DE:=fun δ M Q=>∀ p,M p=none->tk δ (M.upd p (.dk [])) fun x M1=>tv δ M1 fun y M2=>M2 p=some (.dk [])/\∃ k,keyD x=some k/\Q (.dct p) (M2.upd p (.dk [(k,y)]))
section
variable {X:Cx} {rz:Bool} {Xe:DSt->DK} {a b:Expr} {ta tb:DE} {pos:Pos}
end
end DL
end
noncomputable section
namespace DL
open PySem PySem.Spec PyProof.Rows L2
section
variable {X:Cx} {a b c d:Expr} {pos:Pos} {ta tb tc td:TE}
end
section
variable {X:Cx} {rz:Bool} {Xe:DSt->DK} {a b c d:Expr} {pos:Pos} {ta tb tc td:DE}
end
section
variable {X:Cx} {pins:List (Addr×Obj)} {s:Shared} {σ:L2.St} {H:Hp} {M:Mem}
end
section
variable {X:Cx} {rz:Bool} {Xe:DSt->DK} {a b:Expr} {ta tb:DE} {pos:Pos}
end
end DL
end
noncomputable section
namespace HT
open PySem PySem.Spec PyProof.Rows
section
variable {prog:Program} {w:World} {A:Around} {E:Value->Shared->Prop} {s:Shared}
end
end HT
namespace DL
open PySem PySem.Spec PyProof.Rows L2
section
variable {X:Cx} {rz:Bool} {Xe:DSt->DK} {e st:Expr} {ta ts:DE} {pos p2:Pos}
noncomputable def Yi (d:D) (l:Option Int) (M:Mem) (Q:DK):Prop:=l=some (-1)/\match d with | .tup xs=>Q (.tup xs.reverse) M | .lst a=>∃ xs,M a=some (.ls xs)/\alloc M (.ls xs.reverse) fun p M'=>Q (.lst p) M' | _=>False
noncomputable def dRev (te:DE) (tl:DO):DE:=fun δ M Q=>te δ M fun x M1=>tl δ M1 fun l M2=>Yi x l M2 Q
end
end DL
end
noncomputable section
namespace PySem
open PyProof.Rows
namespace F
end F
section
variable {prog:Program} {w:World} {A:Around} {E:Value->Shared->Prop} {s:Shared}
end
section
variable {prog:Program} {w:World} {A:Around} {s:Shared} {R:Result->Shared->Prop}
variable {I l:Addr} {items:Array Value}
end
section
variable {prog:Program} {w:World} {A:Around} {E:Value->Shared->Prop} {s:Shared}
variable {I l:Addr} {items:Array Value}
end
end PySem
namespace DL
open PySem PySem.Spec PyProof.Rows L2
section
variable {X:Cx} {e:Expr} {t:TA} {p p2 pos pos2:Pos}
end
end DL
namespace DL
open PySem PySem.Spec PyProof.Rows L2
section
variable {X:Cx} {rz:Bool} {Xe:DSt->DK} {e:Expr} {t:DA} {p p2 pos pos2:Pos}
end
end DL
end
noncomputable section
namespace DL
open PySem PySem.Spec PyProof.Rows L2
noncomputable def Bm:DS:=fun D δ M=>D.nx δ M
noncomputable def dSeq (t u:DS):DS:=fun D δ M=>t {D with nx:=u D} δ M
noncomputable def Lo:DS:=fun D δ M=>D.bk δ M
noncomputable def Mu:DS:=fun D δ M=>D.ct δ M
noncomputable def GT (te:(DSt->DK)->DE):DS:=fun D δ M=>te D.ex δ M fun _ M1=>D.nx δ M1
noncomputable def dRet (te:(DSt->DK)->DE):DS:=fun D δ M=>te D.ex δ M D.rt
noncomputable def Mr:DS:=fun D _ M=>D.rt .non M
noncomputable def dIfS (c:(DSt->DK)->DT) (t u:DS):DS:=fun D δ M=>c D.ex δ M fun b M1=>if b=true then t D δ M1 else u D δ M1
noncomputable def Ln:DS:=fun _ _ _=>False
abbrev DG:=D->DSt->Mem->(DSt->Mem->Prop)->Prop
abbrev DGs:=List D->DSt->Mem->(DSt->Mem->Prop)->Prop
noncomputable def Zi (Λ:LK) (g:DG):TG:=fun v σ H Q=>∃ d δ M R,RelD Λ.K H v d/\RepS Λ H δ σ/\RepM Λ.K H M/\g d δ M R/\∀ δ' M' σ' H',HExt Λ.K H H'->RepS Λ H' δ' σ'->RepM Λ.K H' M'->R δ' M'->Q σ' H'
noncomputable def Vw (Λ:LK) (g:DGs):TGs:=fun vs σ H Q=>∃ ds δ M R,RelDs Λ.K H vs ds/\RepS Λ H δ σ/\RepM Λ.K H M/\g ds δ M R/\∀ δ' M' σ' H',HExt Λ.K H H'->RepS Λ H' δ' σ'->RepM Λ.K H' M'->R δ' M'->Q σ' H'
noncomputable def Xw (i:Nat):DG:=fun d δ M Q=>Q (δ.set i (some d)) M
noncomputable def GR:DGs:=fun ds δ M Q=>ds=[]/\Q δ M
noncomputable def Ec (t:DG) (u:DGs):DGs:=fun ds δ M Q=>∃ d r,ds=d::r/\t d δ M fun δ' M'=>u r δ' M' Q
noncomputable def Ym (n:Nat) (t:DGs):DG:=fun d δ M Q=>∃ ds,d=.tup ds/\ds.length=n/\t ds δ M Q
noncomputable def GQ (to ti:DE):DG:=fun v δ M Q=>to δ M fun o M1=>ti δ M1 fun i M2=>∃ a k xs j,o=.lst a/\i=.int k/\M2 a=some (.ls xs)/\ixN xs.length k=some j/\Q δ (M2.upd a (.ls (xs.set j v)))
noncomputable def dAsg (te:(DSt->DK)->DE) (g:(DSt->DK)->DG):DS:=fun D δ M=>te D.ex δ M fun x M1=>g D.ex x δ M1 D.nx
noncomputable def dPar (i j:Nat) (ta:(DSt->DK)->DA):DS:=fun D δ M=>ta D.ex δ M fun ds M1=>∃ v w,ds=[v,w]/\D.nx ((δ.set i (some v)).set j (some w)) M1
noncomputable def dTwo (te:(DSt->DK)->DE) (g h:(DSt->DK)->DG):DS:=fun D δ M=>te D.ex δ M fun x M1=>g D.ex x δ M1 fun δ2 M2=>h D.ex x δ2 M2 D.nx
noncomputable def dAug (i:Nat) (te:(DSt->DK)->DE) (f:Int->Int->Int):DS:=fun D δ M=>∃ x,δ[i]?=some (some (.int x))/\te D.ex δ M fun y M1=>∃ j,y=.int j/\D.nx (δ.set i (some (.int (f x j)))) M1
noncomputable def Ay (c:(DSt->DK)->DT) (tb:DS):DS:=fun D δ M=>∃ W:Nat->DSt->Mem->Prop,(∃ m,W m δ M)/\∀ m δ M,W m δ M ->
 c D.ex δ M fun b M1=>if b=true then ∃ N:DSt->Mem->Prop,(∀ δ' M',N δ' M'->∃ m',m'<m/\W m' δ' M')/\tb {D with nx:=N,ct:=N,bk:=D.nx} δ M1 else D.nx δ M1
section
variable {X:Cx} {rz:Bool} {Xe:DSt->DK} {st:Stmt} {rest:List Stmt} {t u:DS} {e tg:Expr} {es:List Expr} {te:DE} {g:DG} {gs:DGs} {pos:Pos}
theorem FZ:PSs X [] (Yt X rz Bm):=by
 refine pss_nil.imp ?_;rintro E σ H ⟨δ,M,D,rs,rm,t,n,r,b,c⟩;exact n δ M σ H (.refl H) rs rm t
theorem Gn (h:Yt X rz (dSeq t u) E σ H):tSeq (Yt X rz t) (Yt X rz u) E σ H:=by
 obtain⟨δ,M,D,rs,rm,t,n,r,b,c⟩:=h;exact⟨δ,M,{D with nx:=u D},rs,rm,t,fun δ' M' σ' H' x rs' rm' h=>⟨δ',M',D,rs',rm',h,fun a b c d x2=>n a b c d (x.trans x2),fun a b c d x2=>r a b c d (x.trans x2),fun p q s t x2=>b p q s t (x.trans x2),fun p q s t x2=>c p q s t (x.trans x2)⟩,r,b,c⟩
theorem Er (h1:PS X st (Yt X rz t)) (h2:PSs X rest (Yt X rz u)):PSs X (st::rest) (Yt X rz (dSeq t u)):=(D2 h1 h2).imp fun _ _ _=>Gn
theorem Gc {te:(DSt->DK)->DE} (he:∀ Xe,PE X e (lift (X.L rz Xe) (te Xe))) (hs:swapsWith e none pos.line X.env=pure false):PS X (.Expr e pos) (Yt X rz (GT te)):=by
 rintro pins s σ H E I ⟨δ,M,D,rs,rm,t,n,r,b,c⟩;exact (Fm (he D.ex) hs) pins s σ H E I <| ⟨δ,M,_,rs,rm,t,fun d M' v H' x m _ h=>n δ M' σ H' x (rs.ext x) m h⟩
theorem Iy {te:(DSt->DK)->DE} (he:∀ Xe,PE X e (lift (X.L rz Xe) (te Xe))):PS X (.Return (some e) pos) (Yt X rz (dRet te)):=by
 rintro pins s σ H E I ⟨δ,M,D,rs,rm,t,n,r,b,c⟩;exact (Ht (he D.ex)) pins s σ H E I <| ⟨δ,M,_,rs,rm,t,fun d M' v H' x m q h=>r d M' v H' x m q h⟩
theorem KL (hc:∀ Xe,PT X c (Zh (X.L rz Xe) (tc Xe))) (ha:PSs X a (Yt X rz t)) (hb:PSs X b (Yt X rz u)):PS X (.If c a b pos) (Yt X rz (dIfS tc t u)):=by
 rintro pins s σ H E I ⟨δ,M,D,rs,rm,t,n,r,b,c⟩;exact (Kn (hc D.ex) ha hb) pins s σ H E I <| ⟨δ,M,_,rs,rm,t,fun k M' H' x m h=>by
  cases k with
  | true=>exact⟨δ,M',D,rs.ext x,m,h,fun a b c d x2=>n a b c d (x.trans x2),fun a b c d x2=>r a b c d (x.trans x2),fun p q s t x2=>b p q s t (x.trans x2),fun p q s t x2=>c p q s t (x.trans x2)⟩
  | false=>exact⟨δ,M',D,rs.ext x,m,h,fun a b c d x2=>n a b c d (x.trans x2),fun a b c d x2=>r a b c d (x.trans x2),fun p q s t x2=>b p q s t (x.trans x2),fun p q s t x2=>c p q s t (x.trans x2)⟩⟩
theorem _root_.L2.PG.imp {t t':TG} (h:PG X tg t) (i:∀ v σ H Q,t' v σ H Q->t v σ H Q):PG X tg t':=fun pins s σ H v u Q I r q=>h pins s σ H v u Q I r (i _ _ _ _ q)
theorem _root_.L2.PGs.imp {t t':TGs} (h:PGs X es t) (i:∀ v σ H Q,t' v σ H Q->t v σ H Q):PGs X es t':=fun pins s σ H v u Q I r q=>h pins s σ H v u Q I r (i _ _ _ _ q)
theorem Gi {i:Nat} {x:Str} (hN:X.N.Nodup) (hi:X.N[i]?=some x) (hx:Loc X.env.scope x) (hf:X.fn x=true\/X.env.scope.names.lookup x=some .local):PG X (.Name x pos) (Zi (X.L rz Xe) (Xw i)) :=
 (Fq hN hi hx hf).imp (by rintro v σ H Q ⟨d,δ,M,R,r,rs,rm,h,q⟩;exact q _ _ _ _ (.refl H) (rs.set r i) rm h)
theorem Gh:PGs X [] (Vw (X.L rz Xe) GR):=by
 refine pgs_nil.imp ?_;rintro v σ H Q ⟨d,δ,M,R,r,rs,rm,h,q⟩;obtain⟨e,h⟩:=h;subst e;cases r;exact⟨rfl,q _ _ _ _ (.refl H) rs rm h⟩
theorem Ez (h1:PG X tg (Zi (X.L rz Xe) g)) (h2:PGs X es (Vw (X.L rz Xe) gs)) (hs:(assignEach (tg::es) X.env).map (·.2)=assign tg X.env::(assignEach es X.env).map (·.2)):PGs X (tg::es) (Vw (X.L rz Xe) (Ec g gs)) :=
 (D9 h1 h2 hs).imp fun v σ H Q ⟨d,δ,M,R,r,rs,rm,h,q⟩=>by
  obtain⟨d,ds,e,h⟩:=h;subst e;cases r with
  | cons ra rr=>exact⟨_,_,rfl,d,δ,M,_,ra,rs,rm,h,fun δ' M' σ' H' x rs' rm' h'=>⟨ds,δ',M',R,rr.ext x,rs',rm',h',fun a b c d x2=>q a b c d (x.trans x2)⟩⟩
theorem II {k n:Nat} (hc:X.calm=true) (h:PGs X es (Vw (X.L rz Xe) gs)) (hn:(assignEach es X.env).length=n) (hst:(assignEach es X.env).findIdx? (·.1)=none):PG X (.Tuple es k pos) (Zi (X.L rz Xe) (Ym n gs)) :=
 (HA hc h hn hst).imp fun v σ H Q ⟨d,δ,M,R,r,rs,rm,h,q⟩=>by
  obtain⟨ds,e,hl,h⟩:=h;subst e;cases r with
  | tup ht rr=>exact⟨_,_,rfl,ht,by rw[rr.length];exact hl,ds,δ,M,R,rr,rs,rm,h,q⟩
theorem IJ {o i:Expr} {to ti:DE} (ho:PE X o (lift (X.L rz Xe) to)) (hi:PE X i (lift (X.L rz Xe) ti))
  (ha:∀ v,assign (.Subscript o i pos) X.env v=(do
   let ov <- holding [v] (eval o X.env)
   let iv <- holding [v,ov] (eval i X.env)
   standAt pos
   holding [v,ov,iv] (setItem ov iv v)
   release [v,ov,iv] [])):PG X (.Subscript o i pos) (Zi (X.L rz Xe) (GQ to ti)) :=
 (HB ho hi CL ha).imp fun v σ H Q ⟨d,δ,M,R,r,rs,rm,h,q⟩=>seq2 rs rm h fun x y M2 w u H2 x2 m2 r1 r2 ⟨a,k,xs,j,e1,e2,e3,e4,h2⟩=>by
  subst e1;subst e2;cases r1;cases r2;obtain⟨vs,ev,rv⟩:=m2 _ _ e3;exact⟨a,vs,k,j,rfl,rfl,ev,by rw[rv.length];exact e4,q _ _ _ _ (x2.trans (.upd (.inr ⟨_,ev,trivial⟩))) (rs.ext (x2.trans (.upd (.inr ⟨_,ev,trivial⟩)))) (m2.write ev (rv.set (r.ext x2) j)) h2⟩
theorem IC {te:(DSt->DK)->DE} {g:(DSt->DK)->DG} (he:∀ Xe,PE X e (lift (X.L rz Xe) (te Xe))) (hg:∀ Xe,PG X tg (Zi (X.L rz Xe) (g Xe))) (hs:swapsWithSole [tg] e pos.line X.env=pure false) (hw:swappedStores [tg] e X.env=pure none)
  (h1:(assignEach [tg] X.env).map (·.2)=[assign tg X.env]):PS X (.Assign [tg] e pos) (Yt X rz (dAsg te g)) :=
 (by rintro pins s σ H E I ⟨δ,M,D,rs,rm,t,n,r,b,c⟩;exact (Hx (he D.ex) (hg D.ex) hs hw h1) pins s σ H E I <| ⟨δ,M,_,rs,rm,t,fun d M' v H' x m q h=>⟨d,δ,M',_,q,rs.ext x,m,h,fun a b c d x2=>n a b c d (x.trans x2)⟩⟩)
theorem Iw {te:(DSt->DK)->DE} {g:(DSt->DK)->DG} {tg2:Expr} {g2:(DSt->DK)->DG} (he:∀ Xe,PE X e (lift (X.L rz Xe) (te Xe))) (hg:∀ Xe,PG X tg (Zi (X.L rz Xe) (g Xe))) (hg2:∀ Xe,PG X tg2 (Zi (X.L rz Xe) (g2 Xe))) (h1:(assignEach [tg,tg2] X.env).map (·.2)=[assign tg X.env,assign tg2 X.env]) (hw:swappedStores [tg,tg2] e X.env=pure none) :
  PS X (.Assign [tg,tg2] e pos) (Yt X rz (dTwo te g g2)):=by
 rintro pins s σ H E I ⟨δ,M,D,rs,rm,t,n,r,b,c⟩;refine wpAny_Assign_two (thn (he D.ex pins s σ H (fun v H1=>∃ d M1,HExt X.K H H1/\RepM X.K H1 M1/\RelD X.K H1 v d/\g D.ex d δ M1 fun δ2 M2=>g2 D.ex d δ2 M2 D.nx) I ⟨δ,M,_,rs,rm,t,fun d M' v H' x m q h=>⟨d,M',x,m,q,h⟩⟩) fun v s1 hq2=>?_) h1 hw;obtain⟨y,H1,I1,r1,d,M1,x1,m1,q1,h1'⟩:=hq2;refine thn (hg D.ex pins s1 σ H1 y v (fun σ2 H2=>∃ δ2 M2,HExt X.K H1 H2/\RepS (X.L rz D.ex) H2 δ2 σ2/\RepM X.K H2 M2/\g2 D.ex d δ2 M2 D.nx) I1 r1 ⟨d,δ,M1,_,q1,rs.ext x1,m1,h1',fun δ' M' σ' H' y1 y2 y3 y4=>⟨δ',M',y1,y2,y3,y4⟩⟩) fun _ s2 hq2=>?_;obtain⟨σ2,H2,I2,δ2,M2,x2,rs2,m2,h2⟩:=hq2;exact hg2 D.ex pins s2 σ2 H2 y v _ I2 r1 ⟨d,δ2,M2,_,q1.ext x2,rs2,m2,h2,fun a b c d y1=>n a b c d ((x1.trans x2).trans y1)⟩
theorem Ew {te:(DSt->DK)->DE} {i:Nat} {x:Str} {op:Operator} {f:Int->Int->Int} {pos':Pos} (hN:X.N.Nodup) (hi:X.N[i]?=some x) (hx:Loc X.env.scope x) (he:∀ Xe,PE X e (lift (X.L rz Xe) (te Xe))) (ho:PIp X op (ipI f)) (hf:X.fn x=true\/X.env.scope.names.lookup x=some .local) :
  PS X (.AugAssign (.Name x pos') op e pos) (Yt X rz (dAug i te f)):=by
 rintro pins s σ H E I ⟨δ,M,D,rs,rm,⟨z,ez,t⟩,n,r,b,c⟩;exact (Hw hN hi hx (he D.ex) ho hf) pins s σ H E I <| by
  obtain⟨v,ev,rv⟩:=rs.slot i _ ez;cases rv;exact⟨_,ev,δ,M,_,rs,rm,t,fun d M' v H' x m q ⟨j,e,h⟩=>by
   subst e;cases q;exact⟨_,_,rfl,rfl,n _ _ _ _ x ((rs.ext x).set (.int _) i) m h⟩⟩
theorem Et {te:(DSt->DK)->DE} {i:Nat} {x:Str} {pos':Pos} (hN:X.N.Nodup) (hi:X.N[i]?=some x) (hx:Loc X.env.scope x) (he:∀ Xe,PE X e (lift (X.L rz Xe) (te Xe))) (hs:swapsWith e (some (.Name x pos')) pos.line X.env=pure false) (hf:X.fn x=true\/X.env.scope.names.lookup x=some .local) :
  PS X (.Assign [.Name x pos'] e pos) (Yt X rz (dAsg te fun _=>Xw i)):=by
 rintro pins s σ H E I ⟨δ,M,D,rs,rm,t,n,r,b,c⟩;exact (Hs hN hi hx (he D.ex) hs hf) pins s σ H E I <| ⟨δ,M,_,rs,rm,t,fun d M' v H' x m q h=>n _ _ _ _ x ((rs.ext x).set q i) m h⟩
theorem Iz {kt k2 pt2} (hc:X.calm=true) (hN:X.N.Nodup) (hi:X.N[i]?=some x) (hj:X.N[j]?=some y) (hij:i≠j)
  (hx:X.env.scope.names.lookup x=some .local) (hy:X.env.scope.names.lookup y=some .local) (ha:∀ Xe,PA X [a,b] (Zj (X.L rz Xe) (ta Xe)))
  (hw:swappedStores [.Tuple [.Name x px,.Name y py] kt pt] (.Tuple [a,b] k2 pt2) X.env=pure (some [x,y]))
  (hs:swapsWithSole [.Tuple [.Name x px,.Name y py] kt pt] (.Tuple [a,b] k2 pt2) pos.line X.env=pure false) :
  PS X (.Assign [.Tuple [.Name x px,.Name y py] kt pt] (.Tuple [a,b] k2 pt2) pos) (Yt X rz (dPar i j ta)):=by
 rintro pins s σ H E I ⟨δ,M,D,rs,rm,t,n,r,b,c⟩;exact (Hu hc hN hi hj hij hx hy (ha D.ex) hw hs) pins s σ H E I <| ⟨δ,M,_,rs,rm,t,fun ds M' vs H' x m q ⟨v,w,e,h⟩=>by
  subst e;obtain⟨v',w',rfl,r1,r2⟩:=q.two;exact⟨v',w',rfl,n _ _ _ _ x (((rs.ext x).set r1 i).set r2 j) m h⟩⟩
theorem Es (hp:PassesOwn (model X.prog X.w) X.A X.env X.xe) (hc:∀ Xe,PT X c (Zh (X.L rz Xe) (tc Xe))) (hb:PSs X body (Yt X rz tb)):PS X (.While c body [] pos) (Yt X rz (Ay tc tb)) :=
 fun pins s σ H E I ⟨δ,M,D,rs,rm,⟨W,⟨m0,w0⟩,turn⟩,n,r,b,c⟩=>(D3 hp (hc D.ex) hb) pins s σ H E I <| by
  refine⟨fun m σ' H'=>∃ δ' M',HExt X.K H H'/\RepS (X.L rz D.ex) H' δ' σ'/\RepM X.K H' M'/\W m δ' M',⟨m0,δ,M,.refl H,rs,rm,w0⟩,?_⟩;rintro m σ1 H1 ⟨δ1,M1,x1,rs1,rm1,w1⟩;refine⟨δ1,M1,_,rs1,rm1,turn m δ1 M1 w1,fun k M2 H2 x2 m2 h=>?_⟩;cases k with
  | true =>
   obtain⟨N,hN,h⟩:=h;refine⟨fun σ' H'=>∃ δ' M',HExt X.K H H'/\RepS (X.L rz D.ex) H' δ' σ'/\RepM X.K H' M'/\N δ' M',fun σ' H' ⟨δ',M',y1,y2,y3,y4⟩=>?_,?_⟩
   ·obtain⟨m',l,w'⟩:=hN δ' M' y4
    exact⟨m',l,δ',M',y1,y2,y3,w'⟩
   ·exact⟨δ1,M2,{D with nx:=N,ct:=N,bk:=D.nx},rs1.ext x2,m2,h,fun δ' M' σ' H' y1 y2 y3 y4=>⟨δ',M',(x1.trans x2).trans y1,y2,y3,y4⟩,fun a b c d y1=>r a b c d ((x1.trans x2).trans y1),fun δ' M' σ' H' y1 y2 y3 y4=>n _ _ _ _ ((x1.trans x2).trans y1) y2 y3 y4,fun δ' M' σ' H' y1 y2 y3 y4=>⟨δ',M',(x1.trans x2).trans y1,y2,y3,y4⟩⟩
  | false=>exact n _ _ _ _ (x1.trans x2) (rs1.ext x2) m2 h
end
abbrev DI:=DSt->Mem->(List D->(Mem->Prop)->Mem->Prop)->Prop
noncomputable def ItD (K:Frag) (H0:Hp) (J:It) (items:List D) (keep:Mem->Prop):Prop:=∀ i H M,HExt K H0 H->RepM K H M->keep M ->
 (i<items.length->J.go i H)/\(items.length<=i->J.stop i H)/\∀ x H',J.yld i H x H'->HExt K H H'/\RepM K H' M/\∀ d,items[i]?=some d->RelD K H' x d
noncomputable def ZU (Λ:LK) (t:DI):TI:=fun σ H R=>∃ δ M Rd,RepS Λ H δ σ/\RepM Λ.K H M/\t δ M Rd/\∀ items keep M' J H',HExt Λ.K H H'->RepM Λ.K H' M'->keep M'->ItD Λ.K H' J items keep->Rd items keep M'->R J H'
noncomputable def forD (g:(DSt->DK)->DG) (tb:DS) (keep:Mem->Prop):List D->DS
 | []=>fun D δ M=>D.nx δ M
 | x::xs=>fun D δ M=>g D.ex x δ M fun δ1 M1=>tb {D with nx:=fun δ2 M2=>keep M2/\forD g tb keep xs D δ2 M2,ct:=fun δ2 M2=>keep M2/\forD g tb keep xs D δ2 M2,bk:=D.nx} δ1 M1
noncomputable def dFor (ti:(DSt->DK)->DI) (g:(DSt->DK)->DG) (tb:DS):DS:=fun D δ M=>ti D.ex δ M fun items keep M1=>forD g tb keep items D δ M1
section
variable {X:Cx} {rz:Bool} {Xe:DSt->DK} {tg:Expr} {pos:Pos}
theorem IA (hp:PassesOwn (model X.prog X.w) X.A X.env X.xe) (hc:X.calm=true) (hi:∀ Xe,PI X tg iter (ZU (X.L rz Xe) (ti Xe))) (hg:∀ Xe,PG X tg (Zi (X.L rz Xe) (g Xe))) (hb:PSs X body (Yt X rz tb))
  (hs:∀ x,foldedSetIterable iter X.env x=pure x):PS X (.For tg iter body [] pos) (Yt X rz (dFor ti g tb)) :=
 fun pins s σ H E I ⟨δ,M,D,rs,rm,t,n,r,b,c⟩=>(Hv hp hc (hi D.ex) (hg D.ex) hb hs) pins s σ H E I <| by
  refine⟨δ,M,_,rs,rm,t,fun items keep M1 J H1 x1 m1 k1 it h1=>?_⟩;refine⟨fun i m σ' H'=>m=items.length-i/\i<=items.length/\∃ δ' M',HExt X.K H1 H'/\RepS (X.L rz D.ex) H' δ' σ'/\RepM X.K H' M'/\keep M'/\forD g tb keep (items.drop i) D δ' M',⟨_,rfl,Nat.zero_le _,δ,M1,.refl H1,rs.ext x1,m1,k1,h1⟩,?_⟩;rintro i m σ2 H2 ⟨rfl,hi,δ2,M2,x2,rs2,m2,k2,h2⟩;obtain⟨i1,i2,i3⟩:=it i H2 M2 x2 m2 k2;by_cases hl:i<items.length
  ·refine .inr ⟨i1 hl,fun σ' H'=>∃ δ' M',HExt X.K H1 H'/\RepS (X.L rz D.ex) H' δ' σ'/\RepM X.K H' M'/\keep M'/\forD g tb keep (items.drop (i+1)) D δ' M',fun σ' H' z=>⟨items.length-(i+1),by omega,rfl,hl,z⟩,fun x H3 y=>?_⟩
   obtain⟨x3,m3,r3⟩:=i3 x H3 y;rw[List.drop_eq_getElem_cons hl] at h2;refine⟨items[i],δ2,M2,_,r3 _ (by simp[hl]),rs2.ext x3,m3,h2,fun δ4 M4 σ4 H4 x4 rs4 m4 h4=>?_⟩;have xx:=(x2.trans x3).trans x4;exact⟨δ4,M4,{D with nx:=fun δ2 M2=>keep M2/\forD g tb keep (items.drop (i+1)) D δ2 M2,ct:=fun δ2 M2=>keep M2/\forD g tb keep (items.drop (i+1)) D δ2 M2,bk:=D.nx},rs4,m4,h4,fun δ' M' σ' H' y1 y2 y3 y4=>⟨δ',M',xx.trans y1,y2,y3,y4.1,y4.2⟩,fun a b c d y1=>r a b c d ((x1.trans xx).trans y1),fun δ' M' σ' H' y1 y2 y3 y4=>n _ _ _ _ ((x1.trans xx).trans y1) y2 y3 y4,fun δ' M' σ' H' y1 y2 y3 y4=>⟨δ',M',xx.trans y1,y2,y3,y4.1,y4.2⟩⟩
  ·have e:i=items.length:=by omega
   subst e;rw[List.drop_length] at h2;exact .inl ⟨i2 %[|3],n _ _ _ _ (x1.trans x2) rs2 m2 h2⟩
noncomputable def Yl (d:D) (M:Mem) (R:List D->(Mem->Prop)->Mem->Prop):Prop :=
 match d with
 | .lst a=>∃ xs,M a=some (.ls xs)/\R xs (fun M'=>M' a=some (.ls xs)) M
 | .fz xs=>R xs (fun _=>True) M
 | .tup xs=>R xs (fun _=>True) M
 | _=>False
noncomputable def Yn (te:DE):DI:=fun δ M R=>te δ M fun d M1=>Yl d M1 R
theorem DP {K:Frag} {H0:Hp} {a:Addr} {xs:List D}:ItD K H0 (Itl K a) xs (fun M'=>M' a=some (.ls xs)):=fun i H M x m k=>by
 obtain⟨vs,e,r⟩:=m _ _ k;refine⟨fun hl=>⟨vs,vs[i]'(by rw[r.length];exact hl),.of e,by simp[r.length,hl]⟩,fun hl=>⟨vs,.of e,by rw[r.length];exact hl⟩,fun y H' hq2=>?_⟩;obtain⟨e1,e2⟩:=hq2;subst e1;refine⟨.refl _,m,fun d hd=>?_⟩;obtain⟨v,h1,h2⟩:=r.get hd;rw[e2 vs (.of e)] at h1;cases h1;exact h2
theorem Ii {K:Frag} {H0:Hp} {a:Addr} {vs:List V} {xs:List D} (ht:SqF K H0 a vs) (r:RelDs K H0 vs xs):ItD K H0 (Itl K a) xs (fun _=>True):=fun i H M x m k=>by
 have ht':=x.fz _ _ ht;have r':=r.ext x;refine⟨fun hl=>⟨vs,vs[i]'(by rw[r.length];exact hl),ht'.sq,by simp[r.length,hl]⟩,fun hl=>⟨vs,ht'.sq,by rw[r.length];exact hl⟩,fun y H' hq2=>?_⟩;obtain⟨e1,e2⟩:=hq2;subst e1;refine⟨.refl _,m,fun d hd=>?_⟩;obtain⟨v,h1,h2⟩:=r'.get hd;rw[e2 vs ht'.sq] at h1;cases h1;exact h2
theorem FQ {K:Frag} {H0:Hp} {a:Addr} {vs:List V} {xs:List D} (ht:SqT K H0 a vs) (r:RelDs K H0 vs xs):ItD K H0 (Itt K a) xs (fun _=>True):=fun i H M x m k=>by
 have ht':=x.tup _ _ ht;have r':=r.ext x;refine⟨fun hl=>⟨vs,vs[i]'(by rw[r.length];exact hl),ht',by simp[r.length,hl]⟩,fun hl=>⟨vs,ht',by rw[r.length];exact hl⟩,fun y H' hq2=>?_⟩;obtain⟨e1,e2⟩:=hq2;subst e1;refine⟨.refl _,m,fun d hd=>?_⟩;obtain⟨v,h1,h2⟩:=r'.get hd;rw[e2 vs ht'] at h1;cases h1;exact h2
theorem IG (hl:PE X l (lift (X.L rz Xe) te)):PI X tg l (ZU (X.L rz Xe) (Yn te)):=by
 rintro pins s σ H R I ⟨δ,M,Rd,rs,rm,t,q⟩;refine thn (hl pins s σ H (fun x H1=>(∃ a xs,x=.ref a/\SqL X.K H1 a xs/\R (Itl X.K a) H1)\/(∃ a xs,x=.ref a/\SqT X.K H1 a xs/\R (Itt X.K a) H1)) I ⟨δ,M,_,rs,rm,t,fun d M1 v H1 x1 m1 r1 h1=>?_⟩) fun v s1 ⟨x,H1,I1,r1,q1⟩=>?_
 ·cases r1 with
  | lst a =>
   obtain⟨xs,e0,h1⟩:=h1;obtain⟨vs,e,r⟩:=m1 _ _ e0;exact .inl ⟨a,vs,rfl,.of e,q _ _ _ _ _ x1 m1 e0 DP h1⟩
  | fz ht r=>exact .inl ⟨_,_,rfl,ht.sq,q _ _ _ _ _ x1 m1 trivial (Ii ht r) h1⟩
  | tup ht r=>exact .inr ⟨_,_,rfl,ht,q _ _ _ _ _ x1 m1 trivial (FQ ht r) h1⟩
  | _=>exact (show False from h1).elim
 ·rcases q1 with ⟨a,xs,e,hq,q⟩|⟨a,xs,e,hq,q⟩
  ·subst e
   cases r1;obtain⟨its,rv,p,hz⟩:=I1.list hq;refine wpAny_pyIter_list p.isList ?_;refine⟨s1.heap.objs.size,[s1.heap.objs.size],_,_,H1,rfl,I1.kept (t':=s1.toks) fun b o e=>Heap.get?_push_of_some _ e,Bw a _,⟨_,Heap.get?_push_size _ rfl,rfl,rfl⟩,fun b hb=>?_,q⟩;have e:b=s1.heap.objs.size:=by simpa using hb
   subst e;exact I1.fpOk %[|3] (I1.hok.fresh %[|3])
  ·subst e
   cases r1;obtain⟨its,rv,p,hz⟩:=I1.tuple hq;refine wpAny_pyIter_tuple (show s1.heap.IsTuple a its.toArray from p) ?_;refine⟨s1.heap.objs.size,[s1.heap.objs.size],_,_,H1,rfl,I1.kept (t':=s1.toks) fun b o e=>Heap.get?_push_of_some _ e,JY a _,⟨_,Heap.get?_push_size _ rfl,rfl,rfl⟩,fun b hb=>?_,q⟩;have e:b=s1.heap.objs.size:=by simpa using hb
   subst e;exact I1.fpOk %[|3] (I1.hok.fresh %[|3])
end
noncomputable def Itr3 (lo c:Int) (n:Nat):It:=⟨fun i _=>i<n,fun i H x H'=>H'=H/\x=.int (lo+i*c),fun i _=>n<=i⟩
theorem Ja {P:Program} {w:World} {K:Frag} {tg:Expr} (it:Addr) (lo c:Int) (n:Nat):Turn P w K tg (Itr3 lo c n) [it] it (fun i h=>IsRangeIter h it (lo+(i:Nat)*c) ((n:Int)-(i:Nat)) c) where
 mem:=by simp
 obj:=fun i h st b hb=>by
  have e:b=it:=by simpa using hb
  subst e;exact⟨_,st,fun v z=>by
   have z':Data.fields _=Data.cell v:=z;cases z'⟩
 keep:=fun i h h' st k=>k it (by simp) _ st
 item:=by
  intro X hP hw hK hc i pins s σ H E I hf st hg;subst hP hw hK;obtain⟨f0,f1,f2,f3,f4,f5⟩:=hf it (by simp);have W:=Walks.range (prog:=X.prog) (w:=X.w) (I.ok.hd hc) it lo c n;refine W.item i s _ _ hg st fun v h' tk hv st' kk=>?_;obtain⟨t,rfl⟩:=hv;have I1:L2.Inv X pins σ H {s with heap:=h',toks:=tk}:=I.turned (fun b o hb e=>kk b o (by simpa using hb) e) f0 f1 f3 f4 f5;exact⟨_,rfl,Bb (s:={s with heap:=h',toks:=tk}) (n:="range_iterator") st' rfl rfl %[|4] ⟨.int (lo+i*c),H,I1,⟨t,rfl⟩,⟨rfl,rfl⟩,st',fun b hb=>(hf b hb).1⟩⟩
 done:=by
  intro X hP hw hK hc i pins s σ H E I hf st hg;subst hP hw hK;obtain⟨f0,f1,f2,f3,f4,f5⟩:=hf it (by simp);exact wpAny_pyNext_range_end (I.ok.hd hc) st (by have:n<=i:=hg;omega) fun h' eb=>⟨rfl,I.turned (t':=s.toks) (fun b o hb e=>eb b o hb e) f0 f1 f3 f4 f5⟩
 self:=fun _ _ _ _ _ st h=>wpAny_pyIter_rangeiter st h
noncomputable def rngD (lo c:Int) (n:Nat):List D:=(List.range n).map fun i=>.int (lo+(i:Nat)*c)
noncomputable def rngN (i j c:Int):Nat:=(Builtin.Range.rangeSize i j c).toNat
noncomputable def GP:List D->Mem->(List D->(Mem->Prop)->Mem->Prop)->Prop
 | [.int j],M,R=>(-(2 ^ 62)<=j/\j<2 ^ 62)/\R (rngD 0 1 j.toNat) (fun _=>True) M
 | [.int i,.int j],M,R=>(-(2 ^ 62)<=i/\i<2 ^ 62/\-(2 ^ 62)<=j/\j<2 ^ 62)/\R (rngD i 1 (j-i).toNat) (fun _=>True) M
 | [.int i,.int j,.int c],M,R=>Ut c/\Builtin.Range.small i j c=true/\0<=Builtin.Range.rangeSize i j c/\R (rngD i c (rngN i j c)) (fun _=>True) M
 | _,_,_=>False
noncomputable def YE (ta:DA):DI:=fun δ M R=>ta δ M fun ds M1=>GP ds M1 R
theorem JC {K:Frag} {H0:Hp} {lo c:Int} {n:Nat}:ItD K H0 (Itr3 lo c n) (rngD lo c n) (fun _=>True):=fun i H M x m k=>by
 have hl:(rngD lo c n).length=n:=by simp[rngD]
 rw[hl];refine⟨fun h=>h,fun h=>h,fun y H' hq2=>?_⟩;obtain⟨e1,e2⟩:=hq2;subst e1 e2;refine⟨.refl _,m,fun d hd=>?_⟩;unfold rngD at hd;rw[List.getElem?_map] at hd;cases q:(List.range n)[i]? with
 | none=>rw [q] at hd;cases hd
 | some j =>
  rw[q] at hd;have hj:j=i:=by
   obtain⟨h1,h2⟩:=List.getElem?_eq_some_iff.mp q
   simpa using h2.symm
  subst hj;cases hd;exact .int _
theorem B7 {K:Frag} {H0:Hp} {lo:Int} {n:Nat}:ItD K H0 (Itr lo n) (rngD lo 1 n) (fun _=>True):=fun i H M x m k=>by
 obtain⟨a,b,c⟩:=JC (K:=K) (H0:=H0) (lo:=lo) (c:=1) (n:=n) i H M x m k;refine⟨a,b,fun y H' ⟨e1,e2⟩=>c y H' ⟨e1,?_⟩⟩;rw[Int.mul_one];exact e2
theorem ZT {K:Frag} {H:Hp} {vs:List V}:∀ {ns:List Int},RelDs K H vs (ns.map D.int)->vs=ns.map V.int
 | [],r=>by cases r;rfl
 | _::_,r=>by cases r with|cons h q=>cases h;exact congrArg _ (ZT q)
section
variable {X:Cx} {rz:Bool} {Xe:DSt->DK} {tg:Expr} {pos:Pos}
theorem BF {pins:List (Addr×Obj)} {σ:L2.St} {H:Hp} {s:Shared} {R:It->Hp->Prop} {E:Value->Shared->Prop} {lo hi c:Int} {t u v:Tok} {tk:Nat} (I:L2.Inv X pins σ H s) (hs:Builtin.Range.small lo hi c=true) (hn:0<=Builtin.Range.rangeSize lo hi c)
  (q:R (Itr3 lo c (rngN lo hi c)) H):wpAny (model X.prog X.w) X.A (pyIter (.ref s.heap.objs.size)) (PIE X pins σ tg R) E {s with heap:=s.heap.push {cls:=.type "range",data:=.fields #[.int lo t,.int hi u,.int c v]},toks:=tk}:=by
 refine wpAny_pyIter_range (IsRange.new ..) hs ?_;have I1:L2.Inv X pins σ H {s with heap:=s.heap.push {cls:=.type "range",data:=.fields #[.int lo t,.int hi u,.int c v]},toks:=tk}:=I.kept fun b o e=>Heap.get?_push_of_some _ e;refine⟨(s.heap.push {cls:=.type "range",data:=.fields #[.int lo t,.int hi u,.int c v]}).objs.size,[(s.heap.push {cls:=.type "range",data:=.fields #[.int lo t,.int hi u,.int c v]}).objs.size],_,_,H,rfl,
  I1.kept (t':=tk) fun b o e=>Heap.get?_push_of_some _ e,Ja _ lo c (rngN lo hi c),?_,fun b hb=>?_,q⟩
 ·have e1:lo+((0:Nat):Int)*c=lo:=by simp
  have e2:((rngN lo hi c:Nat):Int)-((0:Nat):Int)=Builtin.Range.rangeSize lo hi c:=by unfold rngN;omega
  show IsRangeIter _ _ (lo+((0:Nat):Int)*c) (((rngN lo hi c:Nat):Int)-((0:Nat):Int)) c;rw[e1,e2];exact Heap.get?_push_size _ rfl
 ·have e:b=(s.heap.push {cls:=.type "range",data:=.fields #[.int lo t,.int hi u,.int c v]}).objs.size:=by simpa using hb
  subst e;exact I1.fpOk %[|3] (I1.hok.fresh %[|3])
theorem IH {a:Expr} {es:List Expr} {ta:DA} {p:Pos} (hg:Gl X "range") (hm:X.mg "range"=none) (ha:PA X (a::es) (Zj (X.L rz Xe) ta)) (hs:starEach (a::es) X.env=(false,eval a X.env)::starEach es X.env) (hpl:(backTo pos (starEach es X.env)).any (·.1)=false) :
  PI X tg (.Call (.Name "range" p) (a::es) [] pos) (ZU (X.L rz Xe) (YE ta)):=by
 rintro pins s σ H R I ⟨δ,M,Rd,rs,rm,t,q⟩;refine Call_ (Xt I hg hm boot_range (PyProof.Rows.callWith_type1 (thn (ha pos pins s σ H (fun vs H1=>(∃ j:Int,vs=[.int j]/\-(2 ^ 62)<=j/\j<2 ^ 62/\R (Itr 0 j.toNat) H1)\/(∃ i j:Int,vs=[.int i,.int j]/\(-(2 ^ 62)<=i/\i<2 ^ 62/\-(2 ^ 62)<=j/\j<2 ^ 62)/\R (Itr i (j-i).toNat) H1) \/
  (∃ i j c:Int,vs=[.int i,.int j,.int c]/\(Ut c/\Builtin.Range.small i j c=true/\0<=Builtin.Range.rangeSize i j c)/\R (Itr3 i c (rngN i j c)) H1)) I ⟨δ,M,_,rs,rm,t,fun ds M1 vs H1 x1 m1 r1 h1=>?_⟩) fun us s1 ⟨vs,H1,I1,r1,q1⟩=>?_) hs hpl))
 ·unfold GP at h1
  split at h1
  ·rename_i j;cases ZT (ns:=[j]) r1;exact .inl ⟨_,rfl,h1.1.1,h1.1.2,q _ _ _ _ _ x1 m1 trivial B7 h1.2⟩
  ·rename_i i j;cases ZT (ns:=[i,j]) r1;exact .inr (.inl ⟨_,_,rfl,h1.1,q _ _ _ _ _ x1 m1 trivial B7 h1.2⟩)
  ·rename_i i j c;cases ZT (ns:=[i,j,c]) r1;exact .inr (.inr ⟨_,_,_,rfl,⟨h1.1,h1.2.1,h1.2.2.1⟩,q _ _ _ _ _ x1 m1 trivial JC h1.2.2.2⟩)
  ·exact h1.elim
 ·rcases q1 with ⟨j,e,q1,q2,q⟩|⟨i,j,e,⟨q1,q2,q3,q4⟩,q⟩|⟨i,j,c,e,⟨q1,q2,q3⟩,q⟩
  ·subst e
   cases r1 with
   | cons r rr =>
    cases rr;obtain⟨t,rfl⟩:=r;exact call_range_1 (Jl I1 %[|5] %[|5] q1 q2 (by simpa using q))
  ·subst e
   cases r1 with
   | cons r rr =>
    cases rr with
    | cons r' rr =>
     cases rr;obtain⟨t,rfl⟩:=r;obtain⟨t',rfl⟩:=r';exact call_range_2 (Jl I1 q1 q2 q3 q4 q)
  ·subst e
   cases r1 with
   | cons r rr =>
    cases rr with
    | cons r' rr =>
     cases rr with
     | cons r'' rr =>
      cases rr;obtain⟨t,rfl⟩:=r;obtain⟨t',rfl⟩:=r';obtain⟨t'',rfl⟩:=r'';exact call_range_3 q1.1 (BF I1 q2 q3 q) (.inl (PyProof.noPylong_of_log2 q1.2))
end
section
variable {prog:Program} {w:World} {A:Around} {E:Value->Shared->Prop}
end
section
variable {X:Cx} {rz:Bool} {Xe:DSt->DK} {es:List Expr} {gs:DGs} {pos:Pos}
end
end DL
end
noncomputable section
namespace DL
open PySem PySem.Spec PyProof.Rows L2
noncomputable def clos (cells:List (Str×Addr)):List (Str×NameKind)->List (Str×Addr)->List (Str×Addr)
 | [],cs=>cs
 | (n,k)::r,cs=>if (k==.free)=true then clos cells r ((n,(cells.lookup n).getD 0)::cs) else clos cells r cs
theorem WR (h:∀ x∈scope.names,x.2=.free->∃ c,env.cells.lookup x.1=some c):closureFor scope env=pure (clos env.cells scope.names []):=by
 simp only[closureFor];generalize ([]:List (Str×Addr))=cs;generalize scope.names=names at h;have key:∀ (names:List (Str×NameKind)) (cs:List (Str×Addr)),(∀ x∈names,x.2=.free->∃ c,env.cells.lookup x.1=some c) ->
   (forIn names cs fun x r=>(if (x.2==NameKind.free)=true then do let a <- cellOf env x.1;pure (ForInStep.yield ((x.1,a)::r)) else pure (ForInStep.yield r)):Sem (List (Str×Addr)))=pure (clos env.cells names cs):=by
  intro names
  induction names with
  | nil=>intro cs _;rfl
  | cons x l ih =>
   intro cs h;obtain⟨n,k⟩:=x;rw[List.forIn_cons];by_cases hk:(k==NameKind.free)=true
   ·obtain⟨c,hc⟩:=h (n,k) List.mem_cons_self (by simpa using hk)
    have hcell:cellOf env n=pure c:=by unfold cellOf;rw[hc]
    rw[if_pos hk,hcell];simp only[pure_bind];rw[ih _ fun y hy=>h y (List.mem_cons_of_mem _ hy)];have:clos env.cells ((n,k)::l) cs=clos env.cells l ((n,c)::cs):=by
     conv=>lhs;unfold clos
     rw[if_pos hk,hc];rfl
    rw[this]
   ·rw[if_neg hk]
    simp only[pure_bind];rw[ih _ fun y hy=>h y (List.mem_cons_of_mem _ hy)]
    conv=>rhs;unfold clos
    rw[if_neg hk]
 have:=key names cs h
 first
  | exact (by simpa using this)
  | (rw [<- this];rfl)
theorem VI:∀ {names:List (Str×NameKind)} {cs:List (Str×Addr)},(∀ x∈names,x.2=.free->∃ c,cells.lookup x.1=some c)->(∀ x c,cs.lookup x=some c->cells.lookup x=some c) ->
  ∀ x c,(clos cells names cs).lookup x=some c->cells.lookup x=some c
 | [],_,_,h,x,c,e=>h x c e
 | (n,k)::r,cs,hn,h,x,c,e=>by
  unfold clos at e;by_cases hk:(k==NameKind.free)=true
  ·rw[if_pos hk] at e
   obtain⟨c0,hc0⟩:=hn (n,k) List.mem_cons_self (by simpa using hk);refine VI (fun y hy=>hn y (List.mem_cons_of_mem _ hy)) (fun y d q=>?_) x c e;rw[List.lookup_cons] at q;cases hy:y==n with
   | true=>rw [hy] at q;rw[eq_of_beq hy,hc0];rw[hc0] at q;exact q
   | false=>rw [hy] at q;exact h y d q
  ·rw[if_neg hk] at e
   exact VI (fun y hy=>hn y (List.mem_cons_of_mem _ hy)) h x c e
theorem Wk:∀ {names:List (Str×NameKind)} {cs:List (Str×Addr)} {x:Str},((∃ c,cs.lookup x=some c)\/(x,NameKind.free)∈names)->∃ c,(clos cells names cs).lookup x=some c
 | [],_,_,h=>by
  rcases h with h|h
  ·exact h
  ·cases h
 | (n,k)::r,cs,x,h=>by
  unfold clos;by_cases hk:(k==NameKind.free)=true
  ·rw[if_pos hk]
   refine Wk ?_;cases hx:x==n with
   | true=>exact .inl ⟨_,by rw[List.lookup_cons,hx]⟩
   | false =>
    rcases h with ⟨c,h⟩|h
    ·exact .inl ⟨c,by rw[List.lookup_cons,hx];exact h⟩
    ·rcases List.mem_cons.mp h with h|h
     ·cases h;simp at hx
     ·exact .inr h
  ·rw[if_neg hk]
   refine Wk ?_;rcases h with h|h
   ·exact .inl h
   ·rcases List.mem_cons.mp h with h|h
    ·cases h;simp at hk
    ·exact .inr h
theorem YN {env:Env}:∀ {names:List (Str×NameKind)} {x:Str} {k:NameKind},
  (names.map fun (n,k)=>if (k==NameKind.free&&env.scope.kind==.function&&env.kindOf n==some .cell) then (n,NameKind.cell) else (n,k)).lookup x=some k ->
  ∃ k',names.lookup x=some k'/\(k=k'\/(k'=.free/\k=.cell))
 | [],_,_,h=>by simp at h
 | (n,k0)::r,x,k,h=>by
  have ih:=@YN env r x k;simp only[List.map_cons] at h;by_cases hc:(k0==NameKind.free&&env.scope.kind==.function&&env.kindOf n==some .cell)=true
  ·rw[if_pos hc] at h
   rw[List.lookup_cons] at h ⊢;cases hx:x==n with
   | true =>
    simp only[hx] at h;cases h;simp only[Bool.and_eq_true,beq_iff_eq] at hc;exact⟨k0,rfl,.inr ⟨hc.1.1,rfl⟩⟩
   | false=>simp only[hx] at h;exact ih h
  ·rw[if_neg hc] at h
   rw[List.lookup_cons] at h ⊢;cases hx:x==n with
   | true=>simp only[hx] at h;cases h;exact⟨k0,rfl,.inl rfl⟩
   | false=>simp only[hx] at h;exact ih h
structure BlkOk (N:List Str) (env:Env) (N':List Str) (scope:Scope):Prop where
 kind:scope.kind=.function
 cell:∀ y∈scope.names,y.2≠.cell
 names:∀ y∈scope.names,y.2=.local->scope.names.lookup y.1=some .local
 free:∀ y∈scope.names,y.2=.free->env.kindOf y.1=some .cell\/env.kindOf y.1=some .free
 agree:∀ i x,i<N.length->N'[i]?=some x->∀ k,scope.names.lookup x=some k->k=.globalImplicit\/k=.globalExplicit\/(k=.free/\N[i]?=some x)
 long:N.length<=N'.length
noncomputable def YA (X:Cx) (N':List Str) (scope:Scope) (cl:List (Str×Addr)) (C:Addr) (s:Shared) (H:Hp) (ex:List Addr) (pn:List (Addr×Obj)):Cx :=
 {X with N:=N',s₀:=s,H₀:=H,env:=compEnvC scope cl C X.env,outer:=X.stack,stack:=X.stack,ex:=ex,fn:=fun _=>false,pn:=pn,xe:=fun _ _=>False}
section
variable {X:Cx} {rz:Bool} {Xe:DSt->DK} {pins:List (Addr×Obj)} {σ:L2.St} {H:Hp} {s:Shared} {N':List Str} {scope:Scope} {fp:List Addr}
theorem Cr (I:L2.Inv X pins σ H s) (B:BlkOk X.N X.env N' scope) (hf:∀ b∈fp,FpOk X pins H b) (hflt:∀ b∈fp,b<s.heap.objs.size)
  (hns:h1.Ns s.heap.objs.size (fun x=>([]:List (Str×Value)).reverse.lookup x)) (hk:∀ b o,s.heap.get? b=some o->h1.get? b=some o) :
  L2.Inv (YA X N' scope (clos X.env.cells scope.names []) s.heap.objs.size s H fp []) [] (σ++List.replicate (N'.length-X.N.length) none) H {s with heap:=h1,toks:=tk}:=by
 have hcells:∀ x∈scope.names,x.2=.free->∃ c,X.env.cells.lookup x.1=some c:=fun x hx e=>I.ok.has x.1 (B.free x hx e);have csub:=VI (cells:=X.env.cells) (names:=scope.names) (cs:=[]) hcells (fun x c e=>by simp at e);have noC:∀ x c,X.env.cells.lookup x=some c->c<s.heap.objs.size:=fun x c e=>by obtain⟨v,q⟩:=I.cell x c e;exact q.lt
 refine⟨⟨I.ok.mod,?_,I.ok.glob,I.ok.blt,Nat.le_refl _,fun x y c e1 e2=>I.ok.inj x y c (csub x c e1) (csub y c e2),fun x hx=>?_,fun x c e=>(by cases e),I.ok.hd,I.ok.frames,.inl rfl,fun b hb=>⟨Nat.ne_of_lt (hflt b hb),fun x c e=>(hf b hb).2.2.2.2.1 x c (csub x c e)⟩,
  I.bs,Nat.le_trans I.ok.bsz I.sz,fun b o e hb=>?_,fun b hb z=>?_,I.stack,I.stkFree⟩,rfl,I.bare,Un.kept hk,⟨_,hns,fun i x v e1 e2 e3=>?_⟩,fun x c e=>?_,I.hok.fresh %[|3],fun x c e=>I.freeC x c (csub x c e),fun p hp=>absurd (show p∈([]:List (Addr×Obj)) from hp) (by simp),I.hok.kept hk,?_⟩
 ·show (relabel scope X.env).kind=.function
  exact B.kind
 ·
  have hx':(relabel scope X.env).names.lookup x=some .cell\/(relabel scope X.env).names.lookup x=some .free:=hx;have fin:(x,NameKind.free)∈scope.names->∃ c,(clos X.env.cells scope.names []).lookup x=some c:=fun z=>Wk (.inr z);rcases hx' with z|z
  ·obtain⟨k',e1,e2⟩:=YN z
   have hm:=PySem.mem_of_lookup e1;rcases e2 with e2|⟨e2,_⟩
   ·subst e2;exact absurd rfl (B.cell _ hm)
   ·subst e2;exact fin hm
  ·obtain⟨k',e1,e2⟩:=YN z
   have hm:=PySem.mem_of_lookup e1;rcases e2 with e2|⟨_,e2⟩
   ·subst e2;exact fin hm
   ·cases e2
 ·
  obtain⟨_,_,_,z,_⟩:=hf b hb;rcases z with z|z
  ·exact I.ok.noex b o e z
  ·exact absurd (Nat.lt_of_lt_of_le (Heap.lt_size e) I.ok.bsz) (Nat.not_lt.mpr z)
 ·obtain⟨_,z1,z2,_⟩:=hf b hb
  rcases List.mem_cons.mp (I.stkSub b z) with q|q
  ·exact z1 q
  ·exact z2 q
 ·
  have e3':(relabel scope X.env).names.lookup x=some .local\/(relabel scope X.env).names.lookup x=some .cell\/(relabel scope X.env).names.lookup x=some .free:=e3;have hi:i < σ.length:=by
   by_cases hi:i < σ.length
   ·exact hi
   ·rw[List.getElem?_append_right %[|5],List.getElem?_replicate] at e2
    split at e2<;>cases e2
  rw[List.getElem?_append_left hi] at e2;have hiN:i<X.N.length:=by rw[<- I.len];exact hi
  obtain⟨k',q1,q2⟩:∃ k',scope.names.lookup x=some k'/\(k'=.local\/k'=.cell\/k'=.free):=by
   rcases e3' with z|z|z
   all_goals
    obtain⟨k',e1,e2⟩:=YN z;rcases e2 with e2|⟨e2,e4⟩
    ·exact⟨k',e1,by rw[<- e2];simp⟩
    ·exact⟨k',e1,by rw[e2];simp⟩
  obtain⟨hfree,hN⟩:k'=.free/\X.N[i]?=some x:=by
   rcases B.agree i x hiN e1 k' q1 with z|z|z
   ·subst z;simp at q2
   ·subst z;simp at q2
   ·exact z
  subst hfree;have hout:=B.free (x,.free) (PySem.mem_of_lookup q1) rfl;obtain⟨m,hn,hl⟩:=I.loc;have vis:Vis X.env.scope x:=by rcases hout with z|z;exact .inr (.inl z);exact .inr (.inr z)
  obtain⟨u,r,l⟩:=hl i x v hN e2 vis;refine⟨u,r,?_⟩;rcases l with ⟨hkk,_⟩|⟨_,c,hc,hcell⟩
  ·exfalso
   rcases hout with z|z
   ·rw[show X.env.kindOf x=some .cell from z] at hkk;cases hkk
   ·rw[show X.env.kindOf x=some .free from z] at hkk;cases hkk
  ·obtain⟨c',hc'⟩:=Wk (cells:=X.env.cells) (names:=scope.names) (cs:=[]) (.inr (PySem.mem_of_lookup q1))
   have:=csub x c' hc';rw[hc] at this;cases this;refine .inr ⟨?_,c,hc',(let ⟨o,e1,e2⟩:=hcell;⟨o,hk _ o e1,e2⟩)⟩;rcases e3' with z|z|z
   ·obtain⟨k',e1,e2⟩:=YN z
    rw[q1] at e1;cases e1;rcases e2 with e2|⟨_,e2⟩<;>cases e2
   ·exact .inl z
   ·exact .inr z
 ·obtain⟨v,q⟩:=I.cell x c (csub x c e)
  exact⟨v,let ⟨o,e1,e2⟩:=q;⟨o,hk _ o e1,e2⟩⟩
 ·show (σ++List.replicate (N'.length-X.N.length) none).length=N'.length
  rw[List.length_append,List.length_replicate,I.len];have:=B.long;omega
noncomputable def Z2 (g:DG) (te:DE) (keep:Mem->Prop) (p:Addr):List D->List D->DSt->Mem->(Mem->Prop)->Prop
 | [],_,_,M,Q=>Q M
 | x::xs,acc,δ,M,Q=>g x δ M fun δ1 M1=>te δ1 M1 fun d M2=>M2 p=some (.ls acc)/\acc.length<sizeLine/\keep (M2.upd p (.ls (acc++[d])))/\Z2 g te keep p xs (acc++[d]) δ1 (M2.upd p (.ls (acc++[d]))) Q
noncomputable def YG (n:Nat) (ti:DI) (g:DG) (te:DE):DE:=fun δ M Q=>ti δ M fun items keep M1=>∀ p,M1 p=none ->
 keep (M1.upd p (.ls []))/\Z2 g te keep p items [] (δ++List.replicate n none) (M1.upd p (.ls [])) fun M2=>(∃ ds,M2 p=some (.ls ds))/\Q (.lst p) M2
theorem Slots.more {K:Frag} {H:Hp} {δ:DSt} {σ:L2.St} (r:Slots K H δ σ) (n:Nat):Slots K H (δ++List.replicate n none) (σ++List.replicate n none):=by
 refine⟨by simp[r.len],fun i d e=>?_⟩;by_cases hi:i < δ.length
 ·rw[List.getElem?_append_left hi] at e
  obtain⟨v,h1,h2⟩:=r.slot i d e;exact⟨v,by rw[List.getElem?_append_left (by rw[<- r.len];exact hi)];exact h1,h2⟩
 ·rw[List.getElem?_append_right %[|5],List.getElem?_replicate] at e
  split at e<;>cases e
end
end DL
end
noncomputable section
namespace DL
open PySem PySem.Spec PyProof.Rows L2
abbrev DB:=DSt->Mem->(DSt->Mem->Prop)->Prop
abbrev BW:=Program->World->Around->(Shared->Prop)->Shared->Prop
noncomputable def Kz (Λ:LK) (b:DB) (σ:L2.St) (H:Hp) (Q:L2.St->Hp->Prop):Prop:=∃ δ M R,RepS Λ H δ σ/\RepM Λ.K H M/\b δ M R/\∀ δ' M' σ' H',HExt Λ.K H H'->RepS Λ H' δ' σ'->RepM Λ.K H' M'->R δ' M'->Q σ' H'
noncomputable def PB (Y:Cx) (W:BW) (b:DB):Prop:=∀ (pins:List (Addr×Obj)) (s:Shared) (σ:L2.St) (H:Hp) (Q:L2.St->Hp->Prop),L2.Inv Y pins σ H s->Kz (Y.L false X0) b σ H Q ->
 W Y.prog Y.w Y.A (fun s'=>∃ σ' H',L2.Inv Y pins σ' H' s'/\Q σ' H') s
noncomputable def WH (g:DG) (b:DB) (keep:Mem->Prop):List D->DB
 | []=>fun δ M Q=>Q δ M
 | x::xs=>fun δ M Q=>g x δ M fun δ1 M1=>b δ1 M1 fun δ2 M2=>keep M2/\WH g b keep xs δ2 M2 Q
noncomputable def EN (te:DE) (p:Addr):DB:=fun δ M Q=>te δ M fun d M2=>∃ acc,M2 p=some (.ls acc)/\acc.length<sizeLine/\Q δ (M2.upd p (.ls (acc++[d])))
noncomputable def UY (n:Nat) (ti:DI) (g:DG) (b:Addr->DB):DE:=fun δ M Q=>ti δ M fun items keep M1=>∀ p,M1 p=none ->
 keep (M1.upd p (.ls []))/\WH g (b p) keep items (δ++List.replicate n none) (M1.upd p (.ls [])) fun _ M2=>(∃ ds,M2 p=some (.ls ds))/\Q (.lst p) M2
noncomputable def Ug (elt:Expr) (acc:Value) (env:Env):BW:=fun prog w A Q s=>wpAny (model prog w) A (eval elt env) (fun x s1=>wpAny (model prog w) A (call (.builtin "list.append") [acc,x]) (fun _ s2=>Q s2) (fun _ _=>False) s1) (fun _ _=>False) s
noncomputable def Wz (e target:Expr) (d:Nat) (it acc:Value) (env:Env) (body:BW):Prop:=∀ {prog:Program} {w:World} {A:Around} {R:Fin->Shared->Prop} {s:Shared},
 wpAny (model prog w) A (pyNext it) (fun r s₁=>match r with
   | none=>R (.done .next) s₁
   | some v=>wpAny (model prog w) A (letOwnedTupleGo target it v) (fun _ s₂=>wpAny (model prog w) A (assign target env v) (fun _ s₃=>body prog w A (fun s₄=>R (.again (.compLoop e d it acc env)) s₄) s₃) (fun _ _=>False) s₂) (fun _ _=>False) s₁) (fun _ _=>False) s ->
 wpAny (model prog w) A (compTurn e d it acc env) R (fun _ _=>False) s
theorem DC
  (ht:Wz (.ListComp elt gs scope pos) target d it acc env body) (I:Nat->Shared->Prop)
  (turn:∀ n s,I n s->wpAny (model prog w) A (pyNext it) (fun r s₁=>match r with
   | none=>R (.ok .next) s₁
   | some v=>wpAny (model prog w) A (letOwnedTupleGo target it v) (fun _ s₂=>wpAny (model prog w) A (assign target env v) (fun _ s₃=>body prog w A (fun s₄=>∃ m,m<n/\I m s₄) s₃) (fun _ _=>False) s₂) (fun _ _=>False) s₁) (fun _ _=>False) s)
  (mono:∀ (A:Around) (Q Q':Shared->Prop) s,(∀ s',Q s'->Q' s')->body prog w A Q s->body prog w A Q' s)
  (n:Nat) (h:I n s):codeAny (model prog w) A (.compLoop (.ListComp elt gs scope pos) d it acc env) R s:=by
 refine codeAny_loop rfl I (fun n s hI=>?_) n h;show wpAny _ _ ((compTurn (.ListComp elt gs scope pos) d it acc env).onRaise (fun x=>do noteFrame x env;theTreesLotGoes x)) _ _ s;refine wpAny_noted (wpAny_mono (ht (R:=fun fin s'=>match fin with | .done f=>R (.ok f) s' | .again c'=>c'=.compLoop (.ListComp elt gs scope pos) d it acc env/\∃ m,m<n/\I m s') (wpAny_mono (turn n s hI) (fun r s₁ h₁=>?_) fun _ _ h'=>h'.elim)) (fun _ _ q=>q) fun _ _ h'=>h'.elim);cases r with
 | none=>exact h₁
 | some v=>exact wpAny_mono h₁ (fun _ s₂ h₂=>wpAny_mono h₂ (fun _ s₃ h₃=>mono _ _ _ _ (fun s' q=>⟨rfl,q⟩) h₃) fun _ _ h'=>h'.elim) fun _ _ h'=>h'.elim
theorem VE (A:Around) (Q Q':Shared->Prop) (s) (hq:∀ s',Q s'->Q' s') (h:Ug elt acc env prog w A Q s):Ug elt acc env prog w A Q' s :=
 wpAny_mono h (fun _ _ h1=>wpAny_mono h1 (fun _ _ h2=>hq _ h2) fun _ _ h'=>h') fun _ _ h'=>h'
theorem Jb:Wz (.ListComp elt [⟨target,iter,[],0⟩] scope pos) target 0 it acc env (Ug elt acc env):=by
 intro prog w A R s h;rw[compTurn_list1];refine wpAny_bind (wpAny_standAt (wpAny_bind (wpAny_mono h (fun r s₁ h₁=>?_) fun _ _ h'=>h'.elim)));cases r with
 | none=>exact wpAny_pure h₁
 | some v =>
  refine wpAny_bind (wpAny_mono h₁ (fun _ s₂ h₂=>?_) fun _ _ h'=>h'.elim);exact wpAny_bind (wpAny_mono h₂ (fun _ s₃ h₃=>wpAny_bind (wpAny_bind (wpAny_mono h₃ (fun x s₅ h₅=>wpAny_bind (wpAny_mono h₅ (fun _ s₆ h₆=>wpAny_pure (wpAny_pure h₆)) fun _ _ h'=>h'.elim)) fun _ _ h'=>h'.elim))) fun _ _ h'=>h'.elim)
noncomputable def gUp (g:DG):DG:=fun x δ M Q=>∃ R,g x δ M R/\∀ δ1 M1,R δ1 M1->Q δ1 M1
noncomputable def iUp (ti:DI):DI:=fun δ M R=>∃ R0,ti δ M R0/\∀ items keep M1,R0 items keep M1->R items keep M1
noncomputable def eUp (te:DE):DE:=fun δ M Q=>∃ R,te δ M R/\∀ d M1,R d M1->Q d M1
theorem Ul:∀ {items acc:List D} {δ:DSt} {M:Mem},Z2 g te keep p items acc δ M Q->WH (gUp g) (EN (eUp te) p) keep items δ M fun _ M2=>Q M2
 | [],_,_,_,h=>h
 | x::xs,acc,δ,M,h=>⟨_,h,fun δ1 M1 h1=>⟨_,h1,fun d M2 h2=>⟨acc,h2.1,h2.2.1,h2.2.2.1,Ul h2.2.2.2⟩⟩⟩
theorem JN (h:YG n ti g te δ M Q):UY n (iUp ti) (gUp g) (EN (eUp te)) δ M Q :=
 ⟨_,h,fun items keep M1 h1 p hp=>⟨(h1 p hp).1,Ul (h1 p hp).2⟩⟩
theorem DF
  {δ:DSt} {M:Mem} {R:DSt->Mem->Prop} {Rr:Result->Shared->Prop} {H0:Hp} (hc:Y.calm=true) (hx:Y.xe=fun _ _=>False)
  (ht:Wz (.ListComp elt gs scope pos) target d (.ref it) acc Y.env W) (mono:∀ (A:Around) (Q Q':Shared->Prop) s,(∀ s',Q s'->Q' s')->W Y.prog Y.w A Q s->W Y.prog Y.w A Q' s)
  (T:Turn Y.prog Y.w Y.K target J fp it tn) (itd:ItD Y.K H0 J items keep) (hg:PG Y target (Zi (Y.L false X0) g)) (hb:PB Y W b)
  (I:L2.Inv Y pins σ H s) (hf:∀ b∈fp,FpOk Y pins H b) (st:tn 0 s.heap) (x0:HExt Y.K H0 H) (rs:Slots Y.K H δ σ) (rm:RepM Y.K H M) (k:keep M) (h:WH g b keep items δ M R)
  (fin:∀ s' σ' H' δ' M',L2.Inv Y pins σ' H' s'->HExt Y.K H H'->Slots Y.K H' δ' σ'->RepM Y.K H' M'->R δ' M'->Rr (.ok .next) s') :
  codeAny (model Y.prog Y.w) Y.A (.compLoop (.ListComp elt gs scope pos) d (.ref it) acc Y.env) Rr s:=by
 have stat:∀ {H':Hp},(∀ b∈fp,H' b=none)->∀ b∈fp,FpOk Y pins H' b:=fun hn b hb=>⟨hn b hb,(hf b hb).2⟩;refine DC ht (fun n s'=>∃ i σ' H' δ' M',L2.Inv Y pins σ' H' s'/\tn i s'.heap/\(∀ b∈fp,H' b=none)/\n=items.length-i/\i<=items.length/\HExt Y.K H H'/\Slots Y.K H' δ' σ'/\RepM Y.K H' M'/\keep M'/\WH g b keep (items.drop i) δ' M' R) ?_ mono items.length
  ⟨0,σ,H,δ,M,I,st,fun b hbb=>(hf b hbb).1,rfl,Nat.zero_le _,.refl _,rs,rm,k,h⟩
 rintro n s5 ⟨i,σ5,H5,δ5,M5,I5,st5,fr5,rfl,hi5,x5,rs5,m5,k5,h5⟩;obtain⟨i1,i2,i3⟩:=itd i H5 M5 (x0.trans x5) m5 k5;by_cases hl:i<items.length
 ·rw[List.drop_eq_getElem_cons hl] at h5
  refine thn (T.item Y rfl rfl rfl hc i pins s5 σ5 H5 _ I5 (stat fr5) st5 (i1 hl)) fun r s6 hq2=>?_;obtain⟨u,hr,h6⟩:=hq2;subst hr;refine thn h6 fun _ s7 hq2=>?_;obtain⟨x,H7,I7,r7,y7,st7,fr7⟩:=hq2;obtain⟨x7,m7,r7'⟩:=i3 x H7 y7;have I7':=I7.pinned (stat fr7) (T.obj _ _ st7);have h8:=hg _ s7 σ5 H7 x u (fun σ8 H8=>∃ δ8 M8,HExt Y.K H7 H8/\Slots Y.K H8 δ8 σ8/\RepM Y.K H8 M8/\b δ8 M8 fun δ2 M2=>keep M2/\WH g b keep (items.drop (i+1)) δ2 M2 R) I7' r7
   ⟨items[i],δ5,M5,_,r7' _ (by simp[hl]),⟨rs5.ext x7,Cu⟩,m7,h5,fun δ8 M8 σ8 H8 x8 rs8 m8 h8=>⟨δ8,M8,x8,rs8.toSlots,m8,h8⟩⟩
  rw[hx] at h8;refine thn h8 fun _ s8 hq2=>?_;obtain⟨σ8,H8,I8,δ8,M8,x8,rs8,m8,h8⟩:=hq2;refine mono _ _ _ _ ?_ (hb _ s8 σ8 H8 (fun σ9 H9=>∃ δ9 M9,HExt Y.K H8 H9/\Slots Y.K H9 δ9 σ9/\RepM Y.K H9 M9/\keep M9/\WH g b keep (items.drop (i+1)) δ9 M9 R) I8 ⟨δ8,M8,_,⟨rs8,Cu⟩,m8,h8,fun δ9 M9 σ9 H9 x9 rs9 m9 h9=>⟨δ9,M9,x9,rs9.toSlots,m9,h9⟩⟩);rintro s9 ⟨σ9,H9,I9,δ9,M9,x9,rs9,m9,k9,h9⟩;refine⟨items.length-(i+1),by omega,i+1,σ9,H9,δ9,M9,I9.unpinned,T.keep _ _ _ st7 fun b hbb o e=>(I9.pin (b,o) (List.mem_append_right _ (List.mem_append_right _ (Zx hbb e)))).1,fun b hbb=>?_,rfl,hl,(((x5.trans x7).trans x8).trans x9),rs9,m9,k9,h9⟩;obtain⟨o,e,d'⟩:=T.obj _ _ st7 b hbb;exact (I9.pin (b,o) (List.mem_append_right _ (List.mem_append_right _ (Zx hbb e)))).2.1
 ·have e:i=items.length:=by omega
  subst e;rw[List.drop_length] at h5;refine thn (T.done Y rfl rfl rfl hc _ pins s5 σ5 H5 _ I5 (stat fr5) st5 (i2 %[|3])) fun r s6 hq2=>?_;obtain⟨hr,I6⟩:=hq2;subst hr;exact fin s6 σ5 H5 δ5 M5 I6 x5 rs5 m5 h5
theorem B2 (hx:Y.xe=fun _ _=>False) (he:PE Y elt (lift (Y.L false X0) te)):PB Y (Ug elt (.ref p) Y.env) (EN te p):=by
 rintro pins s σ H Q I ⟨δ,M,R,rs,rm,h,q⟩;have h8:=he pins s σ H (fun v H9=>∃ d M9,HExt Y.K H H9/\RepM Y.K H9 M9/\RelD Y.K H9 v d/\∃ acc,M9 p=some (.ls acc)/\acc.length<sizeLine/\R δ (M9.upd p (.ls (acc++[d])))) I
  ⟨δ,M,_,rs,rm,h,fun d M9 v H9 x9 m9 r9 h9=>⟨d,M9,x9,m9,r9,h9⟩⟩
 rw[hx] at h8;refine thn h8 fun y s9 hq2=>?_;obtain⟨v,H9,I9,r9,d,M9,x9,m9,rd9,acc,a9,z9,h9⟩:=hq2;obtain⟨vs,ev,rv⟩:=m9 _ _ a9;have xw:HExt Y.K H9 (upd H9 p (.lst (vs++[v]))):=.upd (.inr ⟨_,ev,trivial⟩);have h10:=U5 pins s9 σ H9 (.ref p) [v] (.ref p) [y] (fun _ H10=>H10=upd H9 p (.lst (vs++[v]))) I9 rfl (.cons r9 .nil) ⟨_,vs,v,rfl,rfl,ev,by rw[rv.length];exact z9,rfl⟩;rw[hx] at h10;refine thn h10 fun _ s10 hq2=>?_;obtain⟨_,H10,I10,_,e10⟩:=hq2;subst e10;exact⟨σ,_,I10,q _ _ _ _ (x9.trans xw) (rs.ext (x9.trans xw)) (m9.write ev (rv.append (.cons rd9 .nil))) h9⟩
section
variable {X:Cx} {rz:Bool} {Xe:DSt->DK} {N':List Str} {scope:Scope} {elt target iter:Expr} {ifs:List Expr} {rest:List Comprehension} {pos:Pos} {ti:DI} {g:DG} {b:Addr->DB}
theorem Um (hc:X.calm=true) (B:BlkOk X.N X.env N' scope) (hi:PI X target iter (ZU (X.L rz Xe) ti))
  (W:Addr->Env->BW) (mono:∀ p env (A:Around) (Q Q':Shared->Prop) s,(∀ s',Q s'->Q' s')->W p env X.prog X.w A Q s->W p env X.prog X.w A Q' s)
  (hb:∀ cl C s H ex p,PG (YA X N' scope cl C s H ex []) target (Zi ((YA X N' scope cl C s H ex []).L false X0) g)/\PB (YA X N' scope cl C s H ex []) (W p (YA X N' scope cl C s H ex []).env) (b p))
  (ht:∀ it p env,Wz (.ListComp elt (⟨target,iter,ifs,0⟩::rest) scope pos) target 0 it (.ref p) env (W p env))
  (hs:∀ x,foldedSetIterable iter X.env x=pure x) {use:Option (Value->Sem Unit)} {Post:Value->Shared->Prop} {pins:List (Addr×Obj)} {s:Shared} {σ:L2.St} {H:Hp} {δ:DSt} {M:Mem} {R:DK}
  (I:L2.Inv X pins σ H s) (rs:RepS (X.L rz Xe) H δ σ) (rm:RepM X.K H M) (t:UY (N'.length-X.N.length) ti g b δ M R)
  (fin:∀ (p C:Addr) (s6:Shared) (H5:Hp) (M5:Mem),HExt X.K H H5->RepM X.K H5 M5->R (.lst p) M5->L2.Inv X pins σ H5 s6->FpOk X pins H5 C->(∃ m,s6.heap.Ns C m)->(∀ h',Heap.SameBut C s6.heap h'->L2.Inv X pins σ H5 {s6 with heap:=h'})->compPost (model X.prog X.w) X.A X.xe use Post (.ref p) C (.ok .next) s6) :
  wpAny (model X.prog X.w) X.A (comprehension (.ListComp elt (⟨target,iter,ifs,0⟩::rest) scope pos) scope X.env (firstIterPos (⟨target,iter,ifs,0⟩::rest) pos) (newList []) (firstAsync (⟨target,iter,ifs,0⟩::rest)) (firstIter (⟨target,iter,ifs,0⟩::rest) X.env) use) Post X.xe s:=by
 have hcells:∀ x∈scope.names,x.2=.free->∃ c,X.env.cells.lookup x.1=some c:=fun x hx e=>I.ok.has x.1 (B.free x hx e);refine wpAny_comprehension_free (use:=use) (cl:=clos X.env.cells scope.names []) rfl hs (WR hcells) B.kind B.names ?_;refine thn (hi pins s σ H (fun J H1=>∃ items keep M1,HExt X.K H H1/\RepM X.K H1 M1/\keep M1/\ItD X.K H1 J items keep/\∀ p,M1 p=none->keep (M1.upd p (.ls []))/\WH g (b p) keep items (δ++List.replicate (N'.length-X.N.length) none) (M1.upd p (.ls [])) fun _ M2=>(∃ ds,M2 p=some (.ls ds))/\R (.lst p) M2) I
  ⟨δ,M,_,rs,rm,t,fun items keep M1 J H1 x1 m1 k1 it h1=>⟨items,keep,M1,x1,m1,k1,it,h1⟩⟩) fun v s1 h1=>thn h1 fun itv s2 h2=>?_
 obtain⟨it,fp,tn,J,H2,e,I2,T,st2,f2,items,keep,M1,x1,m1,k1,itd,h2⟩:=h2;subst e;have hflt2:∀ b∈fp,b<s2.heap.objs.size:=fun b hb=>let ⟨o,e,_⟩:=T.obj _ _ st2 b hb;Heap.lt_size e
 have hp:H2 s2.heap.objs.size=none:=I2.hok.fresh %[|3];refine wpAny_newObj_type ?_;have I3:=I2.lnew (ys:=[]) (its:=[]) (t':=s2.toks) .nil (Nat.zero_le _);have x3:HExt X.K H2 (upd H2 s2.heap.objs.size (.lst [])):=.upd (.inl hp);obtain⟨k3,h3⟩:=h2 _ (m1.none hp);have m3:=m1.lst (vs:=[]) (ds:=[]) hp .nil
 revert I3
 generalize hs3:(({s2 with heap:=s2.heap.push {cls:=.type "list",data:=.seq ([]:List Value).toArray},toks:=s2.toks}:Shared))=s3;intro I3;have hh3:s3.heap=s2.heap.push {cls:=.type "list",data:=.seq ([]:List Value).toArray}:=by rw[<- hs3]
 have sz3:s3.heap.objs.size=s2.heap.objs.size+1:=by rw[hh3,Heap.size_push]
 have st3:tn 0 s3.heap:=T.keep _ _ _ st2 fun b _ o e=>by rw[hh3];exact Heap.get?_push_of_some _ e
 have hflt3:∀ b∈fp,b<s3.heap.objs.size:=fun b hb=>by rw[sz3];exact Nat.lt_succ_of_lt (hflt2 b hb)
 have f3:∀ b∈fp,FpOk X pins (upd H2 s2.heap.objs.size (.lst [])) b:=fun b hb=>⟨by rw[Yc (Nat.ne_of_lt (hflt2 b hb))];exact (f2 b hb).1,(f2 b hb).2⟩;have goal3:wpAny (model X.prog X.w) X.A (newFunctionEnv scope X.env.globals (clos X.env.cells scope.names []) [] X.env.qual none .none (some X.env)) (fun cenv s₄ =>
   codeAny (model X.prog X.w) X.A (.compStart (.ListComp elt (⟨target,iter,ifs,0⟩::rest) scope pos) 0 (.ref it) (.ref s2.heap.objs.size) {cenv with scope:=relabel scope X.env})
    (compPost (model X.prog X.w) X.A X.xe use Post (.ref s2.heap.objs.size) cenv.locals) s₄) X.xe s3:=by
  refine wpAny_newFunctionEnv B.cell (by intro y hy;simp at hy) (fun h₁ hns₁ hsb₁=>?_) B.kind;have old:∀ b o,s3.heap.get? b=some o->h₁.get? b=some o:=fun b o e=>hsb₁.extBut b o (Nat.ne_of_lt (Heap.lt_size e)) (Heap.get?_push_of_some _ e);have I4:=Cr (N':=N') (tk:=s3.toks+([]:List (Str×Value)).length) I3 B f3 hflt3 hns₁ old;obtain⟨hg,hbb⟩:=hb (clos X.env.cells scope.names []) s3.heap.objs.size s3 (upd H2 s2.heap.objs.size (.lst [])) fp s2.heap.objs.size;have st4:tn 0 h₁:=T.keep _ _ _ st3 fun b _ o e=>old b o e;have stat:∀ {H':Hp},(∀ b∈fp,H' b=none)->∀ b∈fp,FpOk (YA X N' scope (clos X.env.cells scope.names []) s3.heap.objs.size s3 (upd H2 s2.heap.objs.size (.lst [])) fp []) [] H' b:=fun hn b hbb=>by
   obtain⟨g1,g2⟩:=I4.ok.exf b hbb;exact⟨hn b hbb,g1,I4.ok.exfs b hbb,.inl hbb,g2,fun p hp=>absurd (show p∈([]:List (Addr×Obj)) from hp) (by simp)⟩
  have loop:codeAny (model X.prog X.w) X.A (.compLoop (.ListComp elt (⟨target,iter,ifs,0⟩::rest) scope pos) 0 (.ref it) (.ref s2.heap.objs.size) (compEnvC scope (clos X.env.cells scope.names []) s3.heap.objs.size X.env))
    (compPost (model X.prog X.w) X.A X.xe use Post (.ref s2.heap.objs.size) s3.heap.objs.size) {s3 with heap:=h₁,toks:=s3.toks+([]:List (Str×Value)).length}:=by
   refine DF (Y:=YA X N' scope (clos X.env.cells scope.names []) s3.heap.objs.size s3 (upd H2 s2.heap.objs.size (.lst [])) fp []) (H0:=H2) hc rfl (ht _ _ _) (mono _ _) T itd hg hbb I4 (stat fun b hbb=>(f3 b hbb).1) st4 x3 ((rs.toSlots.ext (x1.trans x3)).more _) m3 k3 h3 ?_;intro s6 σ5 H5 δ5 M5 I6 x5 rs5 m5 h5;obtain⟨_,h5⟩:=h5;obtain⟨mC,nC,_⟩:=I6.loc;have key:∀ h',Heap.SameBut s3.heap.objs.size s6.heap h'->L2.Inv X pins σ H5 {s6 with heap:=h'}:=fun h' hsb=>by
    have ne:∀ b o,s3.heap.get? b=some o->b≠s3.heap.objs.size:=fun b o e=>Nat.ne_of_lt (Heap.lt_size e);have un:=I6.base;have un':Un (frs X.stack) fp (upd H2 s2.heap.objs.size (.lst [])) H5 s3.heap h' :=
     ⟨fun b o e n1 n2 n3=>hsb.extBut b o (ne b o e) (un.keep b o e n1 n2 n3),fun b o e n1 n2 n3=>let ⟨sl,z⟩:=un.slot b o e n1 n2 n3;⟨sl,hsb.extBut _ _ (ne b o e) z⟩,un.free,fun b o e n1=>let ⟨o',z⟩:=un.there b o e n1;⟨o',hsb.extBut _ _ (ne b o e) z⟩,un.tups,un.frzs,un.tbls⟩
    have hok':HOk X.prog X.w H5 h':=fun b ob e=>by
     refine (I6.hok b ob e).stay (fun c w' hc' q'=>hsb.extBut _ _ ?_ q') (fun _ q=>q) fun _ _ q=>q;rintro rfl;rcases hc' with rfl|hc'
     ·rw[show H5 s3.heap.objs.size=none from I6.free] at e;cases e
     ·rw[show H5 s3.heap.objs.size=none from I6.free] at hc';cases hc'
    exact I3.call' (ch:=fp) (s':={s6 with heap:=h'}) I6.os un' hok' I6.bare fun b hbb=>⟨(f3 b hbb).2.2.2.1,(f3 b hbb).2.1,(f3 b hbb).2.2.2.2.1,(f3 b hbb).2.2.2.2.2⟩
   exact fin s2.heap.objs.size s3.heap.objs.size s6 H5 M5 ((x1.trans x3).trans x5) m5 h5 (key _ (.refl _ _)) (I3.fpOk %[|3] I6.free) ⟨mC,nC⟩ key
  exact codeAny_compStart_list loop (T.self X.A 0 _ _ _ st4 loop)
 subst hs3;exact goal3
theorem EB (hc:X.calm=true) (B:BlkOk X.N X.env N' scope) (hi:PI X target iter (ZU (X.L rz Xe) ti))
  (W:Addr->Env->BW) (mono:∀ p env (A:Around) (Q Q':Shared->Prop) s,(∀ s',Q s'->Q' s')->W p env X.prog X.w A Q s->W p env X.prog X.w A Q' s)
  (hb:∀ cl C s H ex p,PG (YA X N' scope cl C s H ex []) target (Zi ((YA X N' scope cl C s H ex []).L false X0) g)/\PB (YA X N' scope cl C s H ex []) (W p (YA X N' scope cl C s H ex []).env) (b p))
  (ht:∀ it p env,Wz (.ListComp elt (⟨target,iter,ifs,0⟩::rest) scope pos) target 0 it (.ref p) env (W p env))
  (hs:∀ x,foldedSetIterable iter X.env x=pure x):PE X (.ListComp elt (⟨target,iter,ifs,0⟩::rest) scope pos) (lift (X.L rz Xe) (UY (N'.length-X.N.length) ti g b)):=by
 rintro pins s σ H Q I ⟨δ,M,R,rs,rm,t,q⟩;rw[eval_ListComp];exact Um hc B hi W mono hb ht hs (use:=none) I rs rm t (by rintro p C s6 H5 M5 x m r _ _ ⟨mC,nC⟩ key;exact⟨mC,nC,fun h' hsb=>⟨.ref p,H5,key h' hsb,rfl,q _ _ _ _ x m (.lst _) r⟩⟩)
theorem GC (hi:PI X target iter (ZU (X.L rz Xe) ti)):PI X target iter (ZU (X.L rz Xe) (iUp ti)):=by
 intro pins s σ H R I h;obtain⟨δ,M,Rd,rs,rm,⟨R0,t,q0⟩,q⟩:=h;exact hi pins s σ H R I ⟨δ,M,R0,rs,rm,t,fun items keep M' J H' x m k it h=>q items keep M' J H' x m k it (q0 _ _ _ h)⟩
theorem GD (hg:PG Y target (Zi (Y.L false X0) g)):PG Y target (Zi (Y.L false X0) (gUp g)):=by
 intro pins s σ H v u Q I r h;obtain⟨d,δ,M,R,rd,rs,rm,⟨R0,t,q0⟩,q⟩:=h;exact hg pins s σ H v u Q I r ⟨d,δ,M,R0,rd,rs,rm,t,fun δ' M' σ' H' x s' m h=>q δ' M' σ' H' x s' m (q0 _ _ h)⟩
theorem GE (he:PE Y elt (lift (Y.L false X0) te)):PE Y elt (lift (Y.L false X0) (eUp te)):=by
 intro pins s σ H Q I h;obtain⟨δ,M,R,rs,rm,⟨R0,t,q0⟩,q⟩:=h;exact he pins s σ H Q I ⟨δ,M,R0,rs,rm,t,fun d M' v H' x m r h=>q d M' v H' x m r (q0 _ _ h)⟩
theorem Gk (hc:X.calm=true) (B:BlkOk X.N X.env N' scope) (hi:PI X target iter (ZU (X.L rz Xe) ti))
  (hb:∀ cl C s H ex,PG (YA X N' scope cl C s H ex []) target (Zi ((YA X N' scope cl C s H ex []).L false X0) g)/\PE (YA X N' scope cl C s H ex []) elt (lift ((YA X N' scope cl C s H ex []).L false X0) te))
  (hs:∀ x,foldedSetIterable iter X.env x=pure x):PE X (.ListComp elt [⟨target,iter,[],0⟩] scope pos) (lift (X.L rz Xe) (YG (N'.length-X.N.length) ti g te)) :=
 (EB hc B (GC hi) (fun p env=>Ug elt (.ref p) env) (fun _ _=>VE) (fun cl C s H ex p=>⟨GD (hb cl C s H ex).1,B2 rfl (GE (hb cl C s H ex).2)⟩) (fun _ _ _=>Jb) hs).imp
  fun σ H Q h=>by obtain⟨δ,M,R,rs,rm,t,q⟩:=h;exact⟨δ,M,R,rs,rm,JN t,q⟩
theorem Gb {ti:(DSt->DK)->DI} {i:Nat} {x:Str} {pos' pos2:Pos} (hc:X.calm=true) (B:BlkOk X.N X.env N' scope) (hit:∀ Xe,PI X target iter (ZU (X.L rz Xe) (ti Xe)))
  (W:Addr->Env->BW) (mono:∀ p env (A:Around) (Q Q':Shared->Prop) s,(∀ s',Q s'->Q' s')->W p env X.prog X.w A Q s->W p env X.prog X.w A Q' s)
  (hb:∀ cl C s H ex p,PG (YA X N' scope cl C s H ex []) target (Zi ((YA X N' scope cl C s H ex []).L false X0) g)/\PB (YA X N' scope cl C s H ex []) (W p (YA X N' scope cl C s H ex []).env) (b p))
  (ht:∀ it p env,Wz (.ListComp elt (⟨target,iter,ifs,0⟩::rest) scope pos) target 0 it (.ref p) env (W p env))
  (hs:∀ x,foldedSetIterable iter X.env x=pure x) (hsw:swapsWith (.ListComp elt (⟨target,iter,ifs,0⟩::rest) scope pos) (some (.Name x pos')) pos2.line X.env=pure true)
  (hN:X.N.Nodup) (hi:X.N[i]?=some x) (hx:Loc X.env.scope x) (hf:X.fn x=true\/X.env.scope.names.lookup x=some .local) :
  PS X (.Assign [.Name x pos'] (.ListComp elt (⟨target,iter,ifs,0⟩::rest) scope pos) pos2) (Yt X rz (dAsg (fun Xe=>UY (N'.length-X.N.length) (ti Xe) g b) fun _=>Xw i)):=by
 rintro pins s σ H E I ⟨δ,M,D,rs,rm,t,n,r,b,c⟩;rw[exec_Assign_Name_used _ _ _ _ hsw,arm_evalThenUse_ListComp];refine wpAny_bind (wpAny_standAt ?_);refine wpAny_bind (wpAny_bind (Um hc B (hit D.ex) W mono hb ht hs (R:=fun d M1=>D.nx (δ.set i (some d)) M1) I rs rm t fun p C s6 H5 M5 x m r I5 fpc hq10 key=>?_));obtain⟨mC,nC⟩:=hq10;obtain⟨o,es,ep,ho,hd,hsk,hmm⟩:=id nC;have I5':=I5.pinned (fp:=[C]) (fun b hb=>by simp at hb;subst hb;exact fpc) (fun b hb=>by simp at hb;subst hb;exact⟨o,ho,fun v z=>by rw[hd] at z;cases z⟩);refine wpAny_assign_Name (ZR I5' hN hi hx (v:=.ref p) rfl (fun s7 I7=>?_) hf);have hp7:(C,o)∈Vp [C] s6.heap:=Zx (by simp) ho;have h7:=(I7.pin (C,o) (List.mem_append_right _ (List.mem_append_right _ hp7))).1;refine⟨mC,⟨o,es,ep,h7,hd,hsk,hmm⟩,fun h' hsb=>?_⟩;have I8:=(I7.unpinned (pins:=pins)).turned (it:=C) (h':=h') (t':=s7.toks) (fun b o hb e=>(hsb.2 b hb).trans e) fpc.1 fpc.2.1 fpc.2.2.2.1 fpc.2.2.2.2.1 fpc.2.2.2.2.2
 exact wpAny_pure (wpAny_pure ⟨_,H5,I8,n _ _ _ _ x ((rs.ext x).set (.lst _) i) m r⟩)
theorem Ga {te:DE} {ti:(DSt->DK)->DI} {i:Nat} {x:Str} {pos' pos2:Pos} (hc:X.calm=true) (B:BlkOk X.N X.env N' scope) (hit:∀ Xe,PI X target iter (ZU (X.L rz Xe) (ti Xe)))
  (hb:∀ cl C s H ex,PG (YA X N' scope cl C s H ex []) target (Zi ((YA X N' scope cl C s H ex []).L false X0) g)/\PE (YA X N' scope cl C s H ex []) elt (lift ((YA X N' scope cl C s H ex []).L false X0) te))
  (hs:∀ x,foldedSetIterable iter X.env x=pure x) (hsw:swapsWith (.ListComp elt [⟨target,iter,[],0⟩] scope pos) (some (.Name x pos')) pos2.line X.env=pure true)
  (hN:X.N.Nodup) (hi:X.N[i]?=some x) (hx:Loc X.env.scope x) (hf:X.fn x=true\/X.env.scope.names.lookup x=some .local) :
  PS X (.Assign [.Name x pos'] (.ListComp elt [⟨target,iter,[],0⟩] scope pos) pos2) (Yt X rz (dAsg (fun Xe=>YG (N'.length-X.N.length) (ti Xe) g te) fun _=>Xw i)):=by
 rintro pins s σ H E I ⟨δ,M,D,rs,rm,t,n,r,b,c⟩;exact Gb hc B (fun Xe=>GC (hit Xe)) (fun p env=>Ug elt (.ref p) env) (fun _ _=>VE) (fun cl C s H ex p=>⟨GD (hb cl C s H ex).1,B2 rfl (GE (hb cl C s H ex).2)⟩) (fun _ _ _=>Jb) hs hsw hN hi hx hf pins s σ H E I ⟨δ,M,D,rs,rm,JN (show YG (N'.length-X.N.length) (ti D.ex) g te δ M (fun d M1=>D.nx (δ.set i (some d)) M1) from t),n,r,b,c⟩
end
end DL
end
noncomputable section
namespace DL
open PySem PySem.Spec PyProof.Rows L2
noncomputable def fSum:List D->Mem->DK->Prop
 | [.lst a],M,Q=>∃ bs:List Bool,M a=some (.ls (bs.map .bl))/\Q (.int (bs.count true)) M
 | _,_,_=>False
section
variable {X:Cx}
noncomputable def IxAt (M:Mem) (xs:List D) (d:D) (j:Nat):Prop:=∃ ps p,Pys M xs ps/\Py M d p/\p.depth<=60/\xs.length<1000/\j<ps.length/\ps.findIdx (fun q=>PyData.eqv q p)=j
noncomputable def Hn (K:Frag):V->List V->Hp->VK->Prop:=fun x vs H Q=>∃ l y M ds d j,x=.ref l/\vs=[y]/\RepM K H M/\M l=some (.ls ds)/\RelD K H y d/\IxAt M ds d j/\Q (.int j) H
theorem Jo (r:ReadsAll h us ps as):PyData.canLayAll0 ps=true->us.length=ps.length/\us.findIdx (eqTo h p)=ps.findIdx fun q=>PyData.eqv q p:=by
 induction r using ReadsAll.rec (motive_1:=fun _ _ _ _=>True) with
 | nil=>exact fun _=>⟨rfl,rfl⟩
 | cons r rr _ ih =>
  intro c;obtain⟨c1,c2⟩:=EQ (show (_&&_)=true from c);rw[List.findIdx_cons,List.findIdx_cons,UX r c1,(ih c2).2,List.length_cons,List.length_cons,(ih c2).1];exact⟨rfl,rfl⟩
 | _=>trivial
theorem Ky (hu:X.A.units+66<cLine):MtM X "list.index" (Hn X.K):=by
 intro pins s σ H x vs v us Q I rx rv h;obtain⟨l,y,M,ds,d,j,rfl,rfl,rm,e0,rd,⟨ps,p,p1,p2,hd,hz,hj,hf⟩,q⟩:=h;cases rx;obtain⟨u,rfl,ru⟩:=rv.one;obtain⟨vs,hH,rr⟩:=rm _ _ e0;obtain⟨z,its,n,r,hl,e⟩:=I.lstM hH;obtain⟨as,a1,a2⟩:=p1.reads I rm rr r;obtain⟨bs,b1,b2⟩:=p2.reads I rm rd ru;obtain⟨f1,f2⟩:=Jo (p:=p) a1 a2;have hj':its.findIdx (eqTo s.heap p)<its.length:=by rw[f2,f1,hf];exact hj
 have l1:=r.length;have l2:=rr.length;rw[<- hf,<- f2] at q;refine call_meets F.slot_list_index ⟨_,e,rfl⟩ F.entry_list_index (F.args_list_index_2 _ _)
  (SeqAt.list_indexAt l its.toArray n _ _ u (eqTo s.heap p) (its.findIdx (eqTo s.heap p)) (by simpa using hj') %[|5] ?_ ?_) ⟨e,?_,?_⟩
 ·simp only[List.getElem_toArray]
  exact List.findIdx_getElem (w:=hj')
 ·intro m hm hlt
  simp only[List.getElem_toArray]
  simpa using List.not_of_lt_findIdx hlt
 ·intro y hy
  exact ZK (A:=X.A.in1) (by show X.A.units+1+64<cLine;omega) a1 a2 b1 b2 hd y (by simpa using hy)
 ·exact⟨.int _,H,I.tok _,⟨_,rfl⟩,q⟩
end
theorem VP (l:Addr) (items:Array Value) (n:Nat) (x:Value) (e:Value->Bool) (j:Nat) (hj:j<items.size) (hit:e items[j]=true) (k:Nat) (hs1:items.size<=sizeLine) :
  ∀ i:Nat,j-i=k->i<=j->(∀ m (hm:m<items.size),i<=m->m<j->e items[m]=false)->Meets (Builtin.«list.remove.loop» ⟨[.ref l,x,rawInt i],[]⟩)
   (fun A R s=>s.heap.get? l=some {cls:=.type "list",dict:=none,data:=.seq items n,slots:=#[]}/\(∀ y,y∈items->SeqAt.EqAt A.in1 s y x (e y))/\R (.ok (.ret .none)) {s with heap:=s.heap.update l (Obj.mapSeq fun xs=>xs.eraseIdxIfInBounds j)}):=by
 induction k with
 | zero =>
  intro i hk hij hno prog w A R s h;obtain⟨hp,g,d,tk,os⟩:=s;obtain⟨hl,he,h⟩:=h;have hij':i=j:=by omega
  subst hij'
  wp_walk using wpAny_loadPart' hl
  have hi:items[((i:Nat):Int).toNat]?=some items[i]:=by simp[hj]
  rw[hi];refine wpAny_bind (he _ (Array.getElem_mem hj) prog w _ _ ?_);rw[hit];have hz':(items.eraseIdxIfInBounds i).size<=sizeLine+1:=Nat.le_trans (MeetsSeq.size_erased items _) (Nat.le_succ_of_le hs1)
  wp_walk using (wpAny_updateSeq hl rfl (hz:=hs1) (_hz':=hz')),wpAny_loadPart' hl
  simpa using h
 | succ k ih =>
  intro i hk hij hno prog w A R s h;obtain⟨hp,g,d,tk,os⟩:=s;obtain⟨hl,he,h⟩:=h;have hlt:i<items.size:=by omega
  wp_walk using wpAny_loadPart' hl
  have hi:items[((i:Nat):Int).toNat]?=some items[i]:=by simp[hlt]
  have hc:((i:Int)+1)=((i+1:Nat):Int):=by push_cast;rfl
  rw[hi];refine wpAny_bind (he _ (Array.getElem_mem hlt) prog w _ _ ?_);rw[hno i hlt %[|3] %[|5]]
  wp_walk
  rw[hc];exact⟨plainId_quiet MeetsSeq.plain_remove_loop _,codeAny_builtin MeetsSeq.entry_remove_loop (by
   rw[Around.under_plainId MeetsSeq.plain_remove_loop _];exact ih (i+1) %[|5] %[|5] (fun m hm h1 h2=>hno m hm %[|5] h2) prog w A R _ ⟨hl,he,h⟩)⟩
theorem VR (l:Addr) (items:Array Value) (n:Nat) (x:Value) (e:Value->Bool) (j:Nat) (hj:j<items.size)
  (hit:e items[j]=true) (hno:∀ m (hm:m<items.size),m<j->e items[m]=false) (hs1:items.size<=sizeLine) :
  Meets (Builtin.«list.remove» ⟨[.ref l,x],[]⟩)
   (fun A R s=>s.heap.get? l=some {cls:=.type "list",dict:=none,data:=.seq items n,slots:=#[]}/\(∀ y,y∈items->SeqAt.EqAt A.in1 s y x (e y))/\R (.ok (.ret .none)) {s with heap:=s.heap.update l (Obj.mapSeq fun xs=>xs.eraseIdxIfInBounds j)}):=by
 intro prog w A R s h;obtain⟨hp,g,d,tk,os⟩:=s;obtain⟨hl,he,h⟩:=h
 wp_walk using wpAny_loadPart' hl
 exact⟨plainId_quiet MeetsSeq.plain_remove_loop _,codeAny_builtin MeetsSeq.entry_remove_loop (by
  rw[Around.under_plainId MeetsSeq.plain_remove_loop _];exact VP l items n x e j hj hit _ hs1 0 rfl (Nat.zero_le _) (fun m hm _ h2=>hno m hm h2) prog w A R _ ⟨hl,he,h⟩)⟩
theorem V5:∀ {xs:List V} {us:List Value} (i:Nat),Vals xs us->Vals (xs.eraseIdx i) (us.eraseIdx i)
 | _,_,_,.nil=>.nil
 | _,_,0,.cons _ t=>t
 | _,_,i+1,.cons q t=>.cons q (V5 i t)
theorem WE {K:Frag} {H:Hp}:∀ {vs:List V} {ds:List D} (i:Nat),RelDs K H vs ds->RelDs K H (vs.eraseIdx i) (ds.eraseIdx i)
 | _,_,_,.nil=>.nil
 | _,_,0,.cons _ t=>t
 | _,_,i+1,.cons q t=>.cons q (WE i t)
section
variable {X:Cx}
noncomputable def Fg (K:Frag):V->List V->Hp->VK->Prop:=fun x vs H Q=>∃ l y M ds d j,x=.ref l/\vs=[y]/\RepM K H M/\M l=some (.ls ds)/\RelD K H y d/\IxAt M ds d j/\∀ vs,H l=some (.lst vs)->Q .non (upd H l (.lst (vs.eraseIdx j)))
theorem BM (hu:X.A.units+66<cLine):MtM X "list.remove" (Fg X.K):=by
 intro pins s σ H x vs v us Q I rx rv h;obtain⟨l,y,M,ds,d,j,rfl,rfl,rm,e0,rd,⟨ps,p,p1,p2,hd,hz,hj,hf⟩,q⟩:=h;cases rx;obtain⟨u,rfl,ru⟩:=rv.one;obtain⟨vs,hH,rr⟩:=rm _ _ e0;obtain⟨z,its,n,r,hl,e⟩:=I.lstM hH;obtain⟨as,a1,a2⟩:=p1.reads I rm rr r;obtain⟨bs,b1,b2⟩:=p2.reads I rm rd ru;obtain⟨f1,f2⟩:=Jo (p:=p) a1 a2;have hj':its.findIdx (eqTo s.heap p)<its.length:=by rw[f2,f1,hf];exact hj
 have l1:=r.length;have l2:=rr.length;have q':=q vs hH;rw[<- hf,<- f2] at q';have hsz:its.toArray.size<=sizeLine:=by rw[List.size_toArray,sizeLine_eq];omega
 refine call_meets F.slot_list_remove ⟨_,e,rfl⟩ F.entry_list_remove (F.args_list_remove_2 _ _)
  (VR l its.toArray n u (eqTo s.heap p) (its.findIdx (eqTo s.heap p)) (by simpa using hj') ?_ ?_ hsz) ⟨e,?_,?_⟩
 ·simp only[List.getElem_toArray]
  exact List.findIdx_getElem (w:=hj')
 ·intro m hm hlt
  simp only[List.getElem_toArray]
  simpa using List.not_of_lt_findIdx hlt
 ·intro y hy
  exact ZK (A:=X.A.in1) (by show X.A.units+1+64<cLine;omega) a1 a2 b1 b2 hd y (by simpa using hy)
 ·refine⟨.non,_,I.lset (its':=its.eraseIdx (its.findIdx (eqTo s.heap p))) hH e ?_ (V5 _ r) ?_,rfl,q'⟩
  ·simp[Array.eraseIdxIfInBounds,hj']
  ·have:=List.length_eraseIdx_le vs (its.findIdx (eqTo s.heap p))
   rw[sizeLine_eq];omega
end
section
variable {X:Cx}
end
end DL
end
noncomputable section
namespace DL
open PySem PySem.Spec PyProof.Rows L2
noncomputable def Xi {α:Type} (xs:List α) (k:Int) (y:α):List α:=xs.take k.toNat++y::xs.drop k.toNat
noncomputable def Fh:V->List V->Hp->VK->Prop:=fun x vs H Q=>∃ l xs k y,x=.ref l/\vs=[.int k,y]/\H l=some (.lst xs)/\0<=k/\k<=xs.length/\xs.length<sizeLine/\Q .non (upd H l (.lst (Xi xs k y)))
theorem BT (xs:List α) (k:Int) (y:α):(Xi xs k y).length=xs.length+1:=by
 unfold Xi;simp;omega
section
variable {X:Cx}
theorem BN:MtM X "list.insert" Fh:=by
 intro pins s σ H x vs v us Q I rx rv h;obtain⟨l,xs,k,y,rfl,rfl,hH,k0,k1,hz,q⟩:=h;cases rx;obtain⟨u1,u2,rfl,r1,r2⟩:=WB rv;obtain⟨t,rfl⟩:=r1;obtain⟨z,its,n,r,hl,e⟩:=I.lstM hH;have sl:sizeLine=16777216:=by decide
 have hlen:=r.length;have hfit:¬ (!Builtin.List.listFitsIndex k)=true:=by
  unfold Builtin.List.listFitsIndex;simp;omega
 refine call_meets F.slot_list_insert ⟨_,e,rfl⟩ F.entry_list_insert (F.args_list_insert_3 _ _ _) (AutoListH.list_insert_list_int_val_1 l its.toArray n k t u2 hfit (by rw[List.size_toArray];omega)) ⟨e,?_⟩;refine⟨.non,_,I.lset (its':=Xi its k u2) hH e ?_ ?_ ?_,rfl,q⟩
 ·have hk:(if k<0 then (k+((its.toArray.size:Nat):Int)).toNat else min k.toNat its.toArray.size)=k.toNat:=by
   rw[if_neg %[|5],List.size_toArray];omega
  show ((its.toArray.extract 0 (if k<0 then (k+((its.toArray.size:Nat):Int)).toNat else min k.toNat its.toArray.size)).push u2++its.toArray.extract (if k<0 then (k+((its.toArray.size:Nat):Int)).toNat else min k.toNat its.toArray.size))=_;rw[hk];unfold Xi;simp[List.extract_eq_take_drop,List.take_of_length_le]
 ·exact (r.take _).append (.cons r2 (r.drop _))
 ·rw[BT];omega
end
end DL
end
noncomputable section
namespace DL
open PySem PySem.Spec PyProof.Rows L2
abbrev zh1 (h:Heap) (b:Addr):Heap:=h.push {cls:=.type "tuple_iterator",data:=.fields #[.ref b,.int 0 0]}
abbrev zh2 (h:Heap) (b c:Addr):Heap:=(zh1 h b).push {cls:=.type "tuple_iterator",data:=.fields #[.ref c,.int 0 0]}
abbrev zh3 (h:Heap) (b c:Addr):Heap:=(zh2 h b c).push {cls:=.type "tuple",data:=.seq #[.ref h.objs.size,.ref (zh1 h b).objs.size]}
abbrev zh4 (h:Heap) (b c:Addr):Heap:=(zh3 h b c).push {cls:=.type "tuple",data:=.seq #[.none,.none]}
abbrev zh5 (h:Heap) (b c:Addr):Heap:=(zh4 h b c).push {cls:=.type "zip",data:=.fields #[.none,.bool false,.bool false,.ref (zh2 h b c).objs.size,.ref (zh3 h b c).objs.size]}
theorem Dv (b c:Addr) (xs ys:Array Value) :
  Meets (Builtin.«zip.__new__» ⟨[.type "zip",.ref b,.ref c],[]⟩) (fun _ R s=>s.heap.IsTuple b xs/\s.heap.IsTuple c ys/\R (.ok (.ret (.ref (zh4 s.heap b c).objs.size))) {s with heap:=zh5 s.heap b c}) :=
 .of_wp fun prog w A R s h=>by
  obtain⟨hp,g,d,tk,os⟩:=s;obtain⟨h1,h2,h⟩:=h;have hsub:=sub_zip;have t1:Heap.IsTuple (Shared.heap ⟨hp,g,d,tk,os⟩) b xs:=h1;have t2:Heap.IsTuple (Shared.heap ⟨hp.push {cls:=.type "tuple_iterator",data:=.fields #[.ref b,.int 0 0]},g,d,tk,os⟩) c ys:=by
   obtain⟨o,e,r⟩:=h2;exact⟨o,Heap.get?_push_of_some _ e,r⟩
  wp_walk using wpAny_pyIter_tuple t1,wpAny_pyIter_tuple t2
  exact⟨_,rfl,h⟩
section
variable {prog:Program} {w:World} {A:Around} {E:Value->Shared->Prop} {s:Shared}
theorem Gw (hb:s.heap.IsTuple b xs) (hc:s.heap.IsTuple c ys)
  (q:∀ g,zTn (s.heap.objs.size+4) (s.heap.objs.size+2) (s.heap.objs.size+3) s.heap.objs.size (s.heap.objs.size+1) b c 0 g->(∀ k o,s.heap.get? k=some o->g.get? k=some o)->Q (.ref (s.heap.objs.size+4)) {s with heap:=g}) :
  wpAny (model prog w) A (call (.type "zip") [.ref b,.ref c]) Q E s:=by
 refine callType_new F.called_zip %[|4] (F.typeCall_zip_2 _ _) (F.newCall_zip_2 _ _) (fun obj=>F.args_object_init_3 obj _ _) F.entry_zip_new (Dv b c xs ys) ⟨hb,hc,?_⟩;have z1:(zh1 s.heap b).objs.size=s.heap.objs.size+1:=Heap.size_push ..;have z2:(zh2 s.heap b c).objs.size=s.heap.objs.size+2:=by rw[Heap.size_push,z1]
 have z3:(zh3 s.heap b c).objs.size=s.heap.objs.size+3:=by rw[Heap.size_push,z2]
 have z4:(zh4 s.heap b c).objs.size=s.heap.objs.size+4:=by rw[Heap.size_push,z3]
 have g5:(zh5 s.heap b c).get? (zh4 s.heap b c).objs.size=some _:=Heap.get?_push_size _ rfl;have g4:(zh5 s.heap b c).get? (zh3 s.heap b c).objs.size=some _:=Heap.get?_push_of_some _ (Heap.get?_push_size _ rfl);have g3:(zh5 s.heap b c).get? (zh2 s.heap b c).objs.size=some _:=Heap.get?_push_of_some _ (Heap.get?_push_of_some _ (Heap.get?_push_size _ rfl));have g2:(zh5 s.heap b c).get? (zh1 s.heap b).objs.size=some _:=Heap.get?_push_of_some _ (Heap.get?_push_of_some _ (Heap.get?_push_of_some _ (Heap.get?_push_size _ rfl)));have g1:(zh5 s.heap b c).get? s.heap.objs.size=some _:=Heap.get?_push_of_some _ (Heap.get?_push_of_some _ (Heap.get?_push_of_some _ (Heap.get?_push_of_some _ (Heap.get?_push_size _ rfl))));show _/\_;rw[z2,z3,z4] at g5;rw[z1,z2] at g3;rw[z3] at g4;rw[z1] at g2;rw[z4];exact⟨⟨_,g5,rfl⟩,q _ ⟨g5,g3,⟨_,_,g4⟩,⟨_,g1,rfl,rfl⟩,⟨_,g2,rfl,rfl⟩⟩ fun k o x=>Heap.get?_push_of_some _ (Heap.get?_push_of_some _ (Heap.get?_push_of_some _ (Heap.get?_push_of_some _ (Heap.get?_push_of_some _ x))))⟩
end
noncomputable def ItzL (K:Frag) (b c:Addr):It :=
  ⟨fun i H=>∃ xs ys x y,SqL K H b xs/\SqL K H c ys/\xs[i]?=some x/\ys[i]?=some y,
   fun i H x H'=>∃ T p q,H T=none/\x=.ref T/\H'=upd H T (.tup [p,q])/\(∀ xs,SqL K H b xs->xs[i]?=some p)/\∀ ys,SqL K H c ys->ys[i]?=some q,
   fun i H=>∃ xs ys,SqL K H b xs/\SqL K H c ys/\(xs.length<=i\/ys.length<=i)⟩
noncomputable def zTnL (z u v i j b c:Addr) (n:Nat) (h:Heap):Prop:=IsZip h z u v .none/\IsPair h u (.ref i) (.ref j)/\(∃ a d,IsPair h v a d)/\h.IsListIter i b n/\h.IsListIter j c n
theorem Bv {P:Program} {w:World} {K:Frag} {elts:List Expr} {x1:Nat} {pos:Pos} {z u v i j b c:Addr} (D:ZipApart z u v i j b c) :
  Turn P w K (.Tuple elts x1 pos) (ItzL K b c) [z,u,v,i,j] z (zTnL z u v i j b c) where
 mem:=by simp
 obj:=fun n h st k hk=>by
  obtain⟨hz,hu,⟨a,d,hv⟩,⟨o1,e1,_,d1⟩,⟨o2,e2,_,d2⟩⟩:=st;simp only[List.mem_cons,List.not_mem_nil,or_false] at hk;rcases hk with rfl|rfl|rfl|rfl|rfl
  ·exact⟨_,hz,fun w e=>nomatch e⟩
  ·exact⟨_,hu,fun w e=>nomatch e⟩
  ·exact⟨_,hv,fun w e=>nomatch e⟩
  ·exact⟨_,e1,fun w e=>by rw[d1] at e;cases e⟩
  ·exact⟨_,e2,fun w e=>by rw[d2] at e;cases e⟩
 keep:=fun n h h' st k=>by
  obtain⟨hz,hu,⟨a,d,hv⟩,h1,h2⟩:=st;exact⟨k z (by simp) _ hz,k u (by simp) _ hu,⟨a,d,k v (by simp) _ hv⟩,h1.at fun o e=>k i (by simp) o e,h2.at fun o e=>k j (by simp) o e⟩
 item:=by
  intro X hP hw hK hc n pins s σ H E I hf st hg;subst hP hw hK;obtain⟨hz,hu,⟨a,d,hv⟩,h1,h2⟩:=st;obtain⟨xs,ys,x,y,q1,q2,hx,hy⟩:=hg;obtain⟨its,rv,p,sz1⟩:=I.list q1;obtain⟨its',rv',p',sz2⟩:=I.list q2;obtain⟨vx,hvx,rx⟩:=rv.get hx;obtain⟨vy,hvy,ry⟩:=rv'.get hy;refine wpAny_pyNext_zip_item D hz hu hv h1 h2 p.isList p'.isList (x:=vx) (y:=vy) (by simpa using hvx) (by simpa using hvy) fun g a1 a2 a3 a4 a5 a6 a7=>?_;have lt:∀ {k o},s.heap.get? k=some o->k≠s.heap.objs.size:=fun e=>Nat.ne_of_lt (Heap.lt_size e);have li:i≠s.heap.objs.size:=by obtain⟨o,e,_⟩:=h1;exact lt e
  have lj:j≠s.heap.objs.size:=by obtain⟨o,e,_⟩:=h2;exact lt e
  refine⟨_,rfl,wpAny_letOwnedTupleGo_zip a1 fun g' z' sb=>?_⟩;have tp:IsPair g' s.heap.objs.size vx vy:=sb.extBut _ _ (Ne.symm (lt hz)) a5;have nf:H s.heap.objs.size=none:=I.hok.fresh %[|3];have I1:Inv X pins σ (upd H s.heap.objs.size (.tup [x,y])) {s with heap:=s.heap.push {cls:=.type "tuple",data:=.seq #[vx,vy]},toks:=s.toks} :=
   I.laid (fun k o e=>Heap.get?_push_of_some _ e) %[|3] ⟨by simp only[List.length_cons,List.length_nil];rw[sizeLine_eq];decide,[vx,vy],.cons rx (.cons ry .nil),⟨_,Heap.get?_push_size _ rfl,rfl,_,rfl⟩⟩
  have ff:∀ k∈[z,u,v,i,j],k≠s.heap.objs.size:=fun k hk=>by
   simp only[List.mem_cons,List.not_mem_nil,or_false] at hk;rcases hk with rfl|rfl|rfl|rfl|rfl
   ·exact lt hz
   ·exact lt hu
   ·exact lt hv
   ·exact li
   ·exact lj
  have f':∀ k∈[z,u,v,i,j],FpOk X pins (upd H s.heap.objs.size (.tup [x,y])) k:=fun k hk=>⟨by rw[Yc (ff k hk)];exact (hf k hk).1,(hf k hk).2⟩;have I2:Inv X pins σ (upd H s.heap.objs.size (.tup [x,y])) {s with heap:=g',toks:=s.toks}:=by
   refine ZA (s:={s with heap:=s.heap.push {cls:=.type "tuple",data:=.seq #[vx,vy]},toks:=s.toks}) (h':=g') (t':=s.toks) I1 (fun k o hk e=>?_) f';rcases Heap.get?_push_cases e with ⟨rfl,rfl⟩|e'
   ·exact tp
   ·simp only[List.mem_cons,List.not_mem_nil,or_false,not_or] at hk
    exact sb.extBut _ _ hk.1 (a7 k o hk.1 hk.2.2.1 hk.2.2.2.1 hk.2.2.2.2 e')
  refine⟨.ref s.heap.objs.size,_,I2,rfl,⟨_,x,y,nf,rfl,rfl,fun xs' q=>by rw[I.list_inj q q1];exact hx,fun ys' q=>by rw[I.list_inj q q2];exact hy⟩,?_,fun k hk=>(f' k hk).1⟩;exact⟨z',sb.extBut _ _ D.TIz (a7 _ _ D.TIz D.TITO D.TIi1 D.TIi2 hu),⟨_,_,sb.extBut _ _ D.TOz a2⟩,a3.extBut sb.extBut D.i1z,a4.extBut sb.extBut D.i2z⟩
 done:=by
  intro X hP hw hK hc n pins s σ H E I hf st hg;subst hP hw hK;obtain⟨hz,hu,⟨a,d,hv⟩,h1,h2⟩:=st;obtain⟨xs,ys,q1,q2,hx⟩:=hg;obtain⟨its,rv,p,sz1⟩:=I.list q1;obtain⟨its',rv',p',sz2⟩:=I.list q2;have l1:=rv.length;have l2:=rv'.length;refine wpAny_pyNext_zip_end (I.ok.hd hc) D hz hu hv h1 h2 p.isList p'.isList (by rcases hx with hx|hx;exact .inl (by simp;omega);exact .inr (by simp;omega)) fun g k=>⟨rfl,ZA (h':=g) (t':=s.toks) I (fun m o hm e=>?_) hf⟩;simp only[List.mem_cons,List.not_mem_nil,or_false,not_or] at hm;exact k m o hm.1 hm.2.2.1 hm.2.2.2.1 hm.2.2.2.2 e
 self:=fun _ _ _ _ _ st h=>wpAny_pyIter_zip st.1 h
noncomputable def zipD (xs ys:List D):List D:=List.zipWith (fun x y=>.tup [x,y]) xs ys
noncomputable def U8:List D->Mem->(List D->(Mem->Prop)->Mem->Prop)->Prop
 | [.tup xs,.tup ys],M,R=>R (zipD xs ys) (fun _=>True) M
 | [.lst a,.lst b],M,R=>∃ xs ys,M a=some (.ls xs)/\M b=some (.ls ys)/\R (zipD xs ys) (fun M'=>M' a=some (.ls xs)/\M' b=some (.ls ys)) M
 | _,_,_=>False
noncomputable def Z1 (ta:DA):DI:=fun δ M R=>ta δ M fun ds M1=>U8 ds M1 R
theorem FP {K:Frag} {H0:Hp} {a b:Addr} {vs ws:List V} {xs ys:List D} (ha:SqT K H0 a vs) (hb:SqT K H0 b ws) (r:RelDs K H0 vs xs) (q:RelDs K H0 ws ys):ItD K H0 (Itz K a b) (zipD xs ys) (fun _=>True):=fun i H M x m k=>by
 have ha':=x.tup _ _ ha;have hb':=x.tup _ _ hb;have r':=r.ext x;have q':=q.ext x;have l1:=r.length;have l2:=q.length;refine⟨fun hl=>?_,fun hl=>?_,fun y H' hy=>?_⟩
 ·simp only[zipD,List.length_zipWith] at hl
  exact⟨vs,ws,vs[i]'%[|5],ws[i]'%[|5],ha',hb',List.getElem?_eq_getElem _,List.getElem?_eq_getElem _⟩
 ·simp only[zipD,List.length_zipWith] at hl
  exact⟨vs,ws,ha',hb',by omega⟩
 ·obtain⟨T,p,p',hn,rfl,rfl,e1,e2⟩:=hy
  have ex:HExt K H (L2.upd H T (.tup [p,p'])):=HExt.upd (.inl hn);refine⟨ex,m.tup hn,fun d hd=>?_⟩;simp only[zipD,List.getElem?_zipWith] at hd;have f1:=e1 _ ha';have f2:=e2 _ hb';cases h1:xs[i]? with
  | none=>rw [h1] at hd;simp at hd
  | some dx =>
   cases h2:ys[i]? with
   | none=>rw [h1,h2] at hd;simp at hd
   | some dy =>
    rw[h1,h2] at hd;simp at hd;subst hd;obtain⟨v1,g1,g2⟩:=r'.get h1;obtain⟨v2,g3,g4⟩:=q'.get h2;rw[f1] at g1;cases g1;rw[f2] at g3;cases g3;exact .tup (.inl (.of L2.upd_same)) (.cons (g2.ext ex) (.cons (g4.ext ex) .nil))
theorem DN {K:Frag} {H0:Hp} {a b:Addr} {xs ys:List D}:ItD K H0 (ItzL K a b) (zipD xs ys) (fun M'=>M' a=some (.ls xs)/\M' b=some (.ls ys)):=fun i H M x m k=>by
 obtain⟨vs,ev,r'⟩:=m _ _ k.1;obtain⟨ws,ew,q'⟩:=m _ _ k.2;have l1:=r'.length;have l2:=q'.length;refine⟨fun hl=>?_,fun hl=>?_,fun y H' hy=>?_⟩
 ·simp only[zipD,List.length_zipWith] at hl
  exact⟨vs,ws,vs[i]'%[|5],ws[i]'%[|5],.of ev,.of ew,List.getElem?_eq_getElem _,List.getElem?_eq_getElem _⟩
 ·simp only[zipD,List.length_zipWith] at hl
  exact⟨vs,ws,.of ev,.of ew,by omega⟩
 ·obtain⟨T,p,p',hn,rfl,rfl,e1,e2⟩:=hy
  have ex:HExt K H (L2.upd H T (.tup [p,p'])):=HExt.upd (.inl hn);refine⟨ex,m.tup hn,fun d hd=>?_⟩;simp only[zipD,List.getElem?_zipWith] at hd;have f1:=e1 _ (.of ev);have f2:=e2 _ (.of ew);cases h1:xs[i]? with
  | none=>rw [h1] at hd;simp at hd
  | some dx =>
   cases h2:ys[i]? with
   | none=>rw [h1,h2] at hd;simp at hd
   | some dy =>
    rw[h1,h2] at hd;simp at hd;subst hd;obtain⟨v1,g1,g2⟩:=r'.get h1;obtain⟨v2,g3,g4⟩:=q'.get h2;rw[f1] at g1;cases g1;rw[f2] at g3;cases g3;exact .tup (.inl (.of L2.upd_same)) (.cons (g2.ext ex) (.cons (g4.ext ex) .nil))
section
variable {X:Cx} {rz:Bool} {Xe:DSt->DK} {pos:Pos}
theorem IF {a:Expr} {es:List Expr} {ta:DA} {p:Pos} {elts:List Expr} {x1:Nat} {tp:Pos} (hg:Gl X "zip") (hm:X.mg "zip"=none) (ha:PA X (a::es) (Zj (X.L rz Xe) ta)) (hs:starEach (a::es) X.env=(false,eval a X.env)::starEach es X.env) (hpl:(backTo pos (starEach es X.env)).any (·.1)=false) :
  PI X (.Tuple elts x1 tp) (.Call (.Name "zip" p) (a::es) [] pos) (ZU (X.L rz Xe) (Z1 ta)):=by
 rintro pins s σ H R I ⟨δ,M,Rd,rs,rm,t,q⟩;refine Call_ (Xt I hg hm boot_zip (PyProof.Rows.callWith_type1 (thn (ha pos pins s σ H (fun vs H1=>(∃ b c xs ys,vs=[.ref b,.ref c]/\SqT X.K H1 b xs/\SqT X.K H1 c ys/\R (Itz X.K b c) H1)\/∃ b c xs ys,vs=[.ref b,.ref c]/\SqL X.K H1 b xs/\SqL X.K H1 c ys/\R (ItzL X.K b c) H1) I ⟨δ,M,_,rs,rm,t,fun ds M1 vs H1 x1 m1 r1 h1=>?_⟩) fun us s1 ⟨vs,H1,I1,r1,q1⟩=>?_) hs hpl))
 ·unfold U8 at h1
  split at h1
  ·cases r1 with
   | cons ra rr =>
    cases rr with
    | cons rb rr =>
     cases rr;cases ra with
     | tup ha ra =>
      cases rb with
      | tup hb rb=>exact .inl ⟨_,_,_,_,rfl,ha,hb,q _ _ _ _ _ x1 m1 trivial (FP ha hb ra rb) h1⟩
  ·obtain⟨xs,ys,ea,eb,h1⟩:=h1
   cases r1 with
   | cons ra rr =>
    cases rr with
    | cons rb rr =>
     cases rr;cases ra;cases rb;obtain⟨vs,ev,_⟩:=m1 _ _ ea;obtain⟨ws,ew,_⟩:=m1 _ _ eb;exact .inr ⟨_,_,_,_,rfl,.of ev,.of ew,q _ _ _ _ _ x1 m1 ⟨ea,eb⟩ DN h1⟩
  ·exact h1.elim
 ·rcases q1 with q1|q1
  ·obtain⟨b,c,xs,ys,e,hb,hc,q⟩:=q1
   subst e;cases r1 with
   | cons r rr =>
    cases rr with
    | cons r' rr =>
     cases rr;cases r;cases r';obtain⟨its,rv,pb,_⟩:=I1.tuple hb;obtain⟨its',rv',pc,_⟩:=I1.tuple hc;have lb:b<s1.heap.objs.size:=by obtain⟨o,e,_⟩:=pb;exact Heap.lt_size e
     have lc:c<s1.heap.objs.size:=by obtain⟨o,e,_⟩:=pc;exact Heap.lt_size e
     refine Gw (show s1.heap.IsTuple b its.toArray from pb) (show s1.heap.IsTuple c its'.toArray from pc) fun g st k=>?_;refine wpAny_pyIter_zip st.1 ?_;refine⟨_,[s1.heap.objs.size+4,s1.heap.objs.size+2,s1.heap.objs.size+3,s1.heap.objs.size,s1.heap.objs.size+1],_,_,H1,rfl,I1.kept (t':=s1.toks) k,CA (zipApart_new lb lc),st,fun m hm=>?_,q⟩;have le:s1.heap.objs.size<=m:=by
      simp only[List.mem_cons,List.not_mem_nil,or_false] at hm;rcases hm with rfl|rfl|rfl|rfl|rfl
      ·exact Nat.le_add_right _ _
      ·exact Nat.le_add_right _ _
      ·exact Nat.le_add_right _ _
      ·exact Nat.le_refl _
      ·exact Nat.le_add_right _ _
     exact I1.fpOk le (I1.hok.fresh le)
  ·obtain⟨b,c,xs,ys,e,hb,hc,q⟩:=q1
   subst e;cases r1 with
   | cons r rr =>
    cases rr with
    | cons r' rr =>
     cases rr;cases r;cases r';obtain⟨its,rv,pb,_⟩:=I1.list hb;obtain⟨its',rv',pc,_⟩:=I1.list hc;have lb:b<s1.heap.objs.size:=by obtain⟨o,e,_⟩:=pb.isList;exact Heap.lt_size e
     have lc:c<s1.heap.objs.size:=by obtain⟨o,e,_⟩:=pc.isList;exact Heap.lt_size e
     refine call_zip_2 pb.isList pc.isList fun g st1 st2 st3 st4 st5 _ k=>?_;refine wpAny_pyIter_zip st1 ?_;refine⟨_,[s1.heap.objs.size+4,s1.heap.objs.size+2,s1.heap.objs.size+3,s1.heap.objs.size,s1.heap.objs.size+1],_,_,H1,rfl,I1.kept (t':=s1.toks) k,Bv (zipApart_new lb lc),⟨st1,st2,⟨_,_,st3⟩,st4,st5⟩,fun m hm=>?_,q⟩;have le:s1.heap.objs.size<=m:=by
      simp only[List.mem_cons,List.not_mem_nil,or_false] at hm;rcases hm with rfl|rfl|rfl|rfl|rfl
      ·exact Nat.le_add_right _ _
      ·exact Nat.le_add_right _ _
      ·exact Nat.le_add_right _ _
      ·exact Nat.le_refl _
      ·exact Nat.le_add_right _ _
     exact I1.fpOk le (I1.hok.fresh le)
end
end DL
end
noncomputable section
namespace DL
open PySem PySem.Spec PyProof.Rows L2
section
variable {prog:Program} {w:World} {A:Around} {E:Value->Shared->Prop} {s:Shared}
theorem Ce {e it l:Addr} {i:Nat} {items:Array Value} {old:Value} {Q:Option Value->Shared->Prop} (hh:A.handled=none)
  (he:IsEnum s.heap e it i old) (hit:s.heap.IsTupleIter it l i) (hl:s.heap.IsTuple l items) (hx:items[i]?=none)
  (hQ:∀ h',Heap.ExtBut it s.heap h'->Q none {s with heap:=h'}):wpAny (model prog w) A (pyNext (.ref e)) Q E s:=by
 have hT:s.TypeIs (.ref e) "enumerate":=⟨_,he,rfl⟩;unfold pyNext;refine wpAny_bind (wpAny_attempt (wpAny_callSpecial?_slot (name:=Str.ofString "__next__") hT F.slot_enumerate_next
  (wpAny_call_entry F.slot_enumerate_next hT F.entry_enumerate_next ?_ (F.args_enumerate_next_1 _))))
 show wpAny _ _ (field (.ref e) 2 >>= _) _ _ _;refine wpAny_bind (wpAny_field he rfl (x:=.ref it) rfl ?_);refine wpAny_bind (UI hh hit hl hx fun h' x he' hx'=>?_);obtain⟨o,ho,hc⟩:=hx';refine wpAny_bind (wpAny_isInstance (T:="StopIteration") (b:=true) ⟨o,ho,hc⟩ isSubtype_stop ?_);exact wpAny_pure (hQ _ he')
theorem Cf {e it l:Addr} {i:Nat} {items:Array Value} {old:Value} {Q:Option Value->Shared->Prop} (hh:A.handled=none)
  (he:IsEnum s.heap e it i old) (hit:s.heap.IsListIter it l i) (hl:s.heap.IsList l items) (hx:items[i]?=none)
  (hQ:∀ h',Heap.ExtBut it s.heap h'->Q none {s with heap:=h'}):wpAny (model prog w) A (pyNext (.ref e)) Q E s:=wpAny_pyNext_enum_end hh he hit hl hx hQ
theorem Dw (l:Addr) (items:Array Value) (n:Nat) (dct:Option Addr) (sl:Array (Option Value)) :
  Meets (Builtin.«enumerate.__new__» ⟨[.type "enumerate",.ref l],[]⟩) (fun _ R s=>s.heap.get? l=some {cls:=.type "tuple",dict:=dct,data:=.seq items n,slots:=sl} /\
   R (.ok (.ret (.ref (s.heap.push {cls:=.type "tuple_iterator",data:=.fields #[.ref l,.int 0 0]}).objs.size)))
    {s with heap:=(s.heap.push {cls:=.type "tuple_iterator",data:=.fields #[.ref l,.int 0 0]}).push {cls:=.type "enumerate",data:=.fields #[.none,.bool false,.ref s.heap.objs.size,rawInt 0,.none,.none]}}) :=
 .of_wp fun prog w A R s h=>by
  obtain⟨hp,g,d,tk,os⟩:=s;obtain⟨hl,h⟩:=h;have hsub:=sub_enumerate;have hL:Heap.IsTuple (Shared.heap ⟨hp,g,d,tk,os⟩) l items:=⟨_,hl,rfl,n,rfl⟩
  wp_walk using AutoSeq1.wpAny_loadPart' hl
  refine wpAny_stack_any fun st=>wpAny_pure ?_;split
  ·rename_i c _ _ _ _ _
   cases (c==Value.type "enumerate")
   ·wp_walk using AutoSeq1.wpAny_loadPart' hl,wpAny_pyIter_tuple hL
    exact⟨_,rfl,h⟩
   ·wp_walk using AutoSeq1.wpAny_loadPart' hl,wpAny_pyIter_tuple hL
    exact⟨_,rfl,h⟩
  ·wp_walk using AutoSeq1.wpAny_loadPart' hl,wpAny_pyIter_tuple hL
   exact⟨_,rfl,h⟩
theorem AC (hL:s.heap.IsTuple l items)
  (h:∀ h',IsEnum h' (s.heap.objs.size+1) s.heap.objs.size 0 .none->h'.IsTupleIter s.heap.objs.size l 0->h'.objs.size=s.heap.objs.size+2 ->
   (∀ b o,s.heap.get? b=some o->h'.get? b=some o)->Q (.ref (s.heap.objs.size+1)) {s with heap:=h'}) :
  wpAny (model prog w) A (call (.type "enumerate") [.ref l]) Q E s:=by
 obtain⟨⟨c,dct,dt,sl⟩,hl,hc,n,hd⟩:=hL
 replace hc:c=.type "tuple":=hc
 replace hd:dt=.seq items n:=hd
 subst hc hd;refine callType_new F.called_enumerate %[|4] (F.typeCall_enumerate_1 _) (F.newCall_enumerate_1 _) (fun obj=>F.args_object_init_2 obj _) F.entry_enumerate_new
  (Dw l items n dct sl) ⟨hl,?_⟩
 have hz:(s.heap.push {cls:=.type "tuple_iterator",data:=.fields #[.ref l,.int 0 0]}).objs.size=s.heap.objs.size+1:=Heap.size_push ..;show _/\_;rw[hz];have he:IsEnum ((s.heap.push {cls:=.type "tuple_iterator",data:=.fields #[.ref l,.int 0 0]}).push
   {cls:=.type "enumerate",data:=.fields #[.none,.bool false,.ref s.heap.objs.size,rawInt 0,.none,.none]}) (s.heap.objs.size+1) s.heap.objs.size 0 .none:=by
  have:=Heap.get?_push_size (s.heap.push {cls:=.type "tuple_iterator",data:=.fields #[.ref l,.int 0 0]})
   (o:={cls:=.type "enumerate",data:=.fields #[.none,.bool false,.ref s.heap.objs.size,rawInt 0,.none,.none]}) rfl
  rw[hz] at this;exact this
 refine⟨⟨_,he,rfl⟩,h _ he ⟨_,Heap.get?_push_of_some _ (Heap.get?_push_size _ rfl),rfl,rfl⟩ (by rw[Heap.size_push,hz]) fun b o x=>Heap.get?_push_of_some _ (Heap.get?_push_of_some _ x)⟩
end
theorem ID (hh:A.handled=none) (hne:it≠b) (vs:Array Value):Draws prog w A it [it,b] vs.size (fun i v=>vs[i]?=some v) (fun i h=>h.IsTupleIter it b i/\h.IsTuple b vs) where
 live:=fun _ _ st=>let ⟨o,ho,_⟩:=st.1;⟨o,ho⟩
 frame:=fun _ _ _ st hk=>⟨let ⟨o,ho,r⟩:=st.1;⟨o,hk it (by simp) o ho,r⟩,let ⟨o,ho,r⟩:=st.2;⟨o,hk b (by simp) o ho,r⟩⟩
 item:=fun i s Q E hi st hQ=>WW st.1 st.2 (show vs[i]?=some vs[i] by simp[hi]) fun g h1 sb=>hQ _ g s.toks (by simp[hi]) ⟨h1,let ⟨o,e,r⟩:=st.2;⟨o,sb.extBut _ _ hne.symm e,r⟩⟩ sb
 done:=fun s Q E st hE=>UI hh st.1 st.2 (by simp) hE
noncomputable def IteT (K:Frag) (b:Addr):It :=
  ⟨fun i H=>∃ xs x,SqT K H b xs/\xs[i]?=some x,
   fun i H x H'=>∃ T p,H T=none/\x=.ref T/\H'=upd H T (.tup [.int (i:Int),p])/\∀ xs,SqT K H b xs->xs[i]?=some p,
   fun i H=>∃ xs,SqT K H b xs/\xs.length<=i⟩
noncomputable def eTnT (e it b:Addr) (n:Nat) (h:Heap):Prop:=(∃ old,IsEnum h e it n old)/\h.IsTupleIter it b n
theorem A0 {P:Program} {w:World} {K:Frag} {elts:List Expr} {x1:Nat} {pos:Pos} {e it b:Addr} (ei:e≠it) (eb:e≠b) (ib:it≠b) :
  Turn P w K (.Tuple elts x1 pos) (IteT K b) [e,it] e (eTnT e it b) where
 mem:=by simp
 obj:=fun n h st k hk=>by
  obtain⟨⟨old,he⟩,⟨o1,e1,_,d1⟩⟩:=st;simp only[List.mem_cons,List.not_mem_nil,or_false] at hk;rcases hk with rfl|rfl
  ·exact⟨_,he,fun w e=>nomatch e⟩
  ·exact⟨_,e1,fun w e=>by rw[d1] at e;cases e⟩
 keep:=fun n h h' st k=>by
  obtain⟨⟨old,he⟩,h1⟩:=st;exact⟨⟨old,k e (by simp) _ he⟩,h1.at fun o z=>k it (by simp) o z⟩
 item:=by
  intro X hP hw hK hc n pins s σ H E I hf st hg;subst hP hw hK;obtain⟨⟨old,he⟩,h1⟩:=st;obtain⟨xs,x,q1,hx⟩:=hg;obtain⟨its,rv,p,sz1⟩:=I.tuple q1;obtain⟨vx,hvx,rx⟩:=rv.get hx;have pt:s.heap.IsTuple b its.toArray:=p;have hn:n<its.toArray.size:=by
   have:=(List.getElem?_eq_some_iff.mp hvx).1
   simpa using this
  have D:=ID (prog:=X.prog) (w:=X.w) (A:=X.A.in1) (I.ok.hd hc) ib its.toArray;refine wpAny_pyNext_enum_itemD D he ⟨h1,pt⟩ hn ei (by simp[ei,eb]) fun v g tk hv a1 a2 a3 a4 a5=>?_;have ev:v=vx:=by
   have:its.toArray[n]?=some vx:=by simpa using hvx
   rw[this] at hv;cases hv;rfl
  subst ev;have lt:∀ {k o},s.heap.get? k=some o->k≠s.heap.objs.size:=fun e=>Nat.ne_of_lt (Heap.lt_size e);have li:it≠s.heap.objs.size:=by obtain⟨o,e,_⟩:=h1;exact lt e
  refine⟨_,rfl,wpAny_letOwnedTupleGo_enum a1 fun g' z' sb=>?_⟩;have nf:H s.heap.objs.size=none:=I.hok.fresh %[|3];have tp:g'.get? s.heap.objs.size=some {cls:=.type "tuple",data:=.seq #[.int n tk,v]}:=sb.extBut _ _ (Ne.symm (lt he)) a3;have I1:Inv X pins σ (upd H s.heap.objs.size (.tup [.int (n:Int),x])) {s with heap:=s.heap.push {cls:=.type "tuple",data:=.seq #[.int n tk,v]},toks:=s.toks} :=
   I.laid (fun k o e=>Heap.get?_push_of_some _ e) %[|3] ⟨by simp only[List.length_cons,List.length_nil];rw[sizeLine_eq];decide,[.int n tk,v],.cons ⟨tk,rfl⟩ (.cons rx .nil),⟨_,Heap.get?_push_size _ rfl,rfl,_,rfl⟩⟩
  have ff:∀ k∈[e,it],k≠s.heap.objs.size:=fun k hk=>by
   simp only[List.mem_cons,List.not_mem_nil,or_false] at hk;rcases hk with rfl|rfl
   ·exact lt he
   ·exact li
  have f':∀ k∈[e,it],FpOk X pins (upd H s.heap.objs.size (.tup [.int (n:Int),x])) k:=fun k hk=>⟨by rw[Yc (ff k hk)];exact (hf k hk).1,(hf k hk).2⟩;have I2:Inv X pins σ (upd H s.heap.objs.size (.tup [.int (n:Int),x])) {s with heap:=g',toks:=tk+1}:=by
   refine ZA (s:={s with heap:=s.heap.push {cls:=.type "tuple",data:=.seq #[.int n tk,v]},toks:=s.toks}) (h':=g') (t':=tk+1) I1 (fun k o hk e=>?_) f';rcases Heap.get?_push_cases e with ⟨rfl,rfl⟩|e'
   ·exact tp
   ·simp only[List.mem_cons,List.not_mem_nil,or_false,not_or] at hk
    exact sb.extBut _ _ hk.1 (a5 k o hk.1 hk.2 e')
  refine⟨.ref s.heap.objs.size,_,I2,rfl,⟨_,x,nf,rfl,rfl,fun xs' q=>by rw[I.tuple_inj q q1];exact hx⟩,?_,fun k hk=>(f' k hk).1⟩;exact⟨⟨_,z'⟩,a2.1.extBut sb.extBut ei.symm⟩
 done:=by
  intro X hP hw hK hc n pins s σ H E I hf st hg;subst hP hw hK;obtain⟨⟨old,he⟩,h1⟩:=st;obtain⟨xs,q1,hx⟩:=hg;obtain⟨its,rv,p,sz1⟩:=I.tuple q1;have l1:=rv.length;have pt:s.heap.IsTuple b its.toArray:=p;refine Ce (I.ok.hd hc) he h1 pt (by simp;omega) fun g k=>⟨rfl,ZA (h':=g) (t':=s.toks) I (fun m o hm e=>?_) hf⟩;simp only[List.mem_cons,List.not_mem_nil,or_false,not_or] at hm;exact k m o hm.2 e
 self:=fun _ _ _ _ _ st h=>by
  obtain⟨⟨old,he⟩,_⟩:=st;exact wpAny_pyIter_enum he h
theorem IE (hh:A.handled=none) (hne:it≠b) (vs:Array Value):Draws prog w A it [it,b] vs.size (fun i v=>vs[i]?=some v) (fun i h=>h.IsListIter it b i/\h.IsList b vs) where
 live:=fun _ _ st=>let ⟨o,ho,_⟩:=st.1;⟨o,ho⟩
 frame:=fun _ _ _ st hk=>⟨let ⟨o,ho,r⟩:=st.1;⟨o,hk it (by simp) o ho,r⟩,let ⟨o,ho,r⟩:=st.2;⟨o,hk b (by simp) o ho,r⟩⟩
 item:=fun i s Q E hi st hQ=>wpAny_nextOf_list_item st.1 st.2 (show vs[i]?=some vs[i] by simp[hi]) fun g h1 sb=>hQ _ g s.toks (by simp[hi]) ⟨h1,let ⟨o,e,r⟩:=st.2;⟨o,sb.extBut _ _ hne.symm e,r⟩⟩ sb
 done:=fun s Q E st hE=>wpAny_nextOf_list_end hh st.1 st.2 (by simp) hE
noncomputable def IteL (K:Frag) (b:Addr):It :=
  ⟨fun i H=>∃ xs x,SqL K H b xs/\xs[i]?=some x,
   fun i H x H'=>∃ T p,H T=none/\x=.ref T/\H'=upd H T (.tup [.int (i:Int),p])/\∀ xs,SqL K H b xs->xs[i]?=some p,
   fun i H=>∃ xs,SqL K H b xs/\xs.length<=i⟩
noncomputable def eTnL (e it b:Addr) (n:Nat) (h:Heap):Prop:=(∃ old,IsEnum h e it n old)/\h.IsListIter it b n
theorem A1 {P:Program} {w:World} {K:Frag} {elts:List Expr} {x1:Nat} {pos:Pos} {e it b:Addr} (ei:e≠it) (eb:e≠b) (ib:it≠b) :
  Turn P w K (.Tuple elts x1 pos) (IteL K b) [e,it] e (eTnL e it b) where
 mem:=by simp
 obj:=fun n h st k hk=>by
  obtain⟨⟨old,he⟩,⟨o1,e1,_,d1⟩⟩:=st;simp only[List.mem_cons,List.not_mem_nil,or_false] at hk;rcases hk with rfl|rfl
  ·exact⟨_,he,fun w e=>nomatch e⟩
  ·exact⟨_,e1,fun w e=>by rw[d1] at e;cases e⟩
 keep:=fun n h h' st k=>by
  obtain⟨⟨old,he⟩,h1⟩:=st;exact⟨⟨old,k e (by simp) _ he⟩,h1.at fun o z=>k it (by simp) o z⟩
 item:=by
  intro X hP hw hK hc n pins s σ H E I hf st hg;subst hP hw hK;obtain⟨⟨old,he⟩,h1⟩:=st;obtain⟨xs,x,q1,hx⟩:=hg;obtain⟨its,rv,p,sz1⟩:=I.list q1;obtain⟨vx,hvx,rx⟩:=rv.get hx;have pt:s.heap.IsList b its.toArray:=p.isList;have hn:n<its.toArray.size:=by
   have:=(List.getElem?_eq_some_iff.mp hvx).1
   simpa using this
  have D:=IE (prog:=X.prog) (w:=X.w) (A:=X.A.in1) (I.ok.hd hc) ib its.toArray;refine wpAny_pyNext_enum_itemD D he ⟨h1,pt⟩ hn ei (by simp[ei,eb]) fun v g tk hv a1 a2 a3 a4 a5=>?_;have ev:v=vx:=by
   have:its.toArray[n]?=some vx:=by simpa using hvx
   rw[this] at hv;cases hv;rfl
  subst ev;have lt:∀ {k o},s.heap.get? k=some o->k≠s.heap.objs.size:=fun e=>Nat.ne_of_lt (Heap.lt_size e);have li:it≠s.heap.objs.size:=by obtain⟨o,e,_⟩:=h1;exact lt e
  refine⟨_,rfl,wpAny_letOwnedTupleGo_enum a1 fun g' z' sb=>?_⟩;have nf:H s.heap.objs.size=none:=I.hok.fresh %[|3];have tp:g'.get? s.heap.objs.size=some {cls:=.type "tuple",data:=.seq #[.int n tk,v]}:=sb.extBut _ _ (Ne.symm (lt he)) a3;have I1:Inv X pins σ (upd H s.heap.objs.size (.tup [.int (n:Int),x])) {s with heap:=s.heap.push {cls:=.type "tuple",data:=.seq #[.int n tk,v]},toks:=s.toks} :=
   I.laid (fun k o e=>Heap.get?_push_of_some _ e) %[|3] ⟨by simp only[List.length_cons,List.length_nil];rw[sizeLine_eq];decide,[.int n tk,v],.cons ⟨tk,rfl⟩ (.cons rx .nil),⟨_,Heap.get?_push_size _ rfl,rfl,_,rfl⟩⟩
  have ff:∀ k∈[e,it],k≠s.heap.objs.size:=fun k hk=>by
   simp only[List.mem_cons,List.not_mem_nil,or_false] at hk;rcases hk with rfl|rfl
   ·exact lt he
   ·exact li
  have f':∀ k∈[e,it],FpOk X pins (upd H s.heap.objs.size (.tup [.int (n:Int),x])) k:=fun k hk=>⟨by rw[Yc (ff k hk)];exact (hf k hk).1,(hf k hk).2⟩;have I2:Inv X pins σ (upd H s.heap.objs.size (.tup [.int (n:Int),x])) {s with heap:=g',toks:=tk+1}:=by
   refine ZA (s:={s with heap:=s.heap.push {cls:=.type "tuple",data:=.seq #[.int n tk,v]},toks:=s.toks}) (h':=g') (t':=tk+1) I1 (fun k o hk e=>?_) f';rcases Heap.get?_push_cases e with ⟨rfl,rfl⟩|e'
   ·exact tp
   ·simp only[List.mem_cons,List.not_mem_nil,or_false,not_or] at hk
    exact sb.extBut _ _ hk.1 (a5 k o hk.1 hk.2 e')
  refine⟨.ref s.heap.objs.size,_,I2,rfl,⟨_,x,nf,rfl,rfl,fun xs' q=>by rw[I.list_inj q q1];exact hx⟩,?_,fun k hk=>(f' k hk).1⟩;exact⟨⟨_,z'⟩,a2.1.extBut sb.extBut ei.symm⟩
 done:=by
  intro X hP hw hK hc n pins s σ H E I hf st hg;subst hP hw hK;obtain⟨⟨old,he⟩,h1⟩:=st;obtain⟨xs,q1,hx⟩:=hg;obtain⟨its,rv,p,sz1⟩:=I.list q1;have l1:=rv.length;have pt:s.heap.IsList b its.toArray:=p.isList;refine Cf (I.ok.hd hc) he h1 pt (by simp;omega) fun g k=>⟨rfl,ZA (h':=g) (t':=s.toks) I (fun m o hm e=>?_) hf⟩;simp only[List.mem_cons,List.not_mem_nil,or_false,not_or] at hm;exact k m o hm.2 e
 self:=fun _ _ _ _ _ st h=>by
  obtain⟨⟨old,he⟩,_⟩:=st;exact wpAny_pyIter_enum he h
noncomputable def enD (xs:List D):List D:=xs.mapIdx fun i x=>.tup [.int (i:Int),x]
noncomputable def Vx:List D->Mem->(List D->(Mem->Prop)->Mem->Prop)->Prop
 | [.tup xs],M,R=>R (enD xs) (fun _=>True) M
 | [.lst a],M,R=>∃ xs,M a=some (.ls xs)/\R (enD xs) (fun M'=>M' a=some (.ls xs)) M
 | _,_,_=>False
noncomputable def VF (ta:DA):DI:=fun δ M R=>ta δ M fun ds M1=>Vx ds M1 R
theorem BP {K:Frag} {H0:Hp} {a:Addr} {vs:List V} {xs:List D} (ha:SqT K H0 a vs) (r:RelDs K H0 vs xs):ItD K H0 (IteT K a) (enD xs) (fun _=>True):=fun i H M x m k=>by
 have ha':=x.tup _ _ ha;have r':=r.ext x;have l1:=r.length;refine⟨fun hl=>?_,fun hl=>?_,fun y H' hy=>?_⟩
 ·simp only[enD,List.length_mapIdx] at hl
  exact⟨vs,vs[i]'%[|5],ha',List.getElem?_eq_getElem _⟩
 ·simp only[enD,List.length_mapIdx] at hl
  exact⟨vs,ha',by omega⟩
 ·obtain⟨T,p,hn,rfl,rfl,e1⟩:=hy
  have ex:HExt K H (L2.upd H T (.tup [.int (i:Int),p])):=HExt.upd (.inl hn);refine⟨ex,m.tup hn,fun d hd=>?_⟩;simp only[enD,List.getElem?_mapIdx] at hd;have f1:=e1 _ ha';cases h1:xs[i]? with
  | none=>rw [h1] at hd;simp at hd
  | some dx =>
   rw[h1] at hd;simp at hd;subst hd;obtain⟨v1,g1,g2⟩:=r'.get h1;rw[f1] at g1;cases g1;exact .tup (.inl (.of L2.upd_same)) (.cons (.int _) (.cons (g2.ext ex) .nil))
theorem BQ {K:Frag} {H0:Hp} {a:Addr} {xs:List D}:ItD K H0 (IteL K a) (enD xs) (fun M'=>M' a=some (.ls xs)):=fun i H M x m k=>by
 obtain⟨vs,ev,r'⟩:=m _ _ k;have l1:=r'.length;refine⟨fun hl=>?_,fun hl=>?_,fun y H' hy=>?_⟩
 ·simp only[enD,List.length_mapIdx] at hl
  exact⟨vs,vs[i]'%[|5],.of ev,List.getElem?_eq_getElem _⟩
 ·simp only[enD,List.length_mapIdx] at hl
  exact⟨vs,.of ev,by omega⟩
 ·obtain⟨T,p,hn,rfl,rfl,e1⟩:=hy
  have ex:HExt K H (L2.upd H T (.tup [.int (i:Int),p])):=HExt.upd (.inl hn);refine⟨ex,m.tup hn,fun d hd=>?_⟩;simp only[enD,List.getElem?_mapIdx] at hd;have f1:=e1 _ (.of ev);cases h1:xs[i]? with
  | none=>rw [h1] at hd;simp at hd
  | some dx =>
   rw[h1] at hd;simp at hd;subst hd;obtain⟨v1,g1,g2⟩:=r'.get h1;rw[f1] at g1;cases g1;exact .tup (.inl (.of L2.upd_same)) (.cons (.int _) (.cons (g2.ext ex) .nil))
section
variable {X:Cx} {rz:Bool} {Xe:DSt->DK} {pos:Pos}
theorem Gg {a:Expr} {es:List Expr} {ta:DA} {p:Pos} {elts:List Expr} {x1:Nat} {tp:Pos} (hg:Gl X "enumerate") (hm:X.mg "enumerate"=none) (ha:PA X (a::es) (Zj (X.L rz Xe) ta)) (hs:starEach (a::es) X.env=(false,eval a X.env)::starEach es X.env) (hpl:(backTo pos (starEach es X.env)).any (·.1)=false) :
  PI X (.Tuple elts x1 tp) (.Call (.Name "enumerate" p) (a::es) [] pos) (ZU (X.L rz Xe) (VF ta)):=by
 rintro pins s σ H R I ⟨δ,M,Rd,rs,rm,t,q⟩;refine Call_ (Xt I hg hm boot_enumerate (PyProof.Rows.callWith_type1 (thn (ha pos pins s σ H (fun vs H1=>(∃ b xs,vs=[.ref b]/\SqT X.K H1 b xs/\R (IteT X.K b) H1)\/∃ b xs,vs=[.ref b]/\SqL X.K H1 b xs/\R (IteL X.K b) H1) I ⟨δ,M,_,rs,rm,t,fun ds M1 vs H1 x1 m1 r1 h1=>?_⟩) fun us s1 ⟨vs,H1,I1,r1,q1⟩=>?_) hs hpl))
 ·unfold Vx at h1
  split at h1
  ·cases r1 with
   | cons ra rr =>
    cases rr;cases ra with
    | tup ha ra=>exact .inl ⟨_,_,rfl,ha,q _ _ _ _ _ x1 m1 trivial (BP ha ra) h1⟩
  ·obtain⟨xs,ea,h1⟩:=h1
   cases r1 with
   | cons ra rr =>
    cases rr;cases ra;obtain⟨vs,ev,_⟩:=m1 _ _ ea;exact .inr ⟨_,_,rfl,.of ev,q _ _ _ _ _ x1 m1 ea BQ h1⟩
  ·exact h1.elim
 ·have fin:∀ m∈[s1.heap.objs.size+1,s1.heap.objs.size],FpOk X pins H1 m:=fun m hm=>by
   have le:s1.heap.objs.size<=m:=by
    simp only[List.mem_cons,List.not_mem_nil,or_false] at hm;rcases hm with rfl|rfl
    ·exact Nat.le_add_right _ _
    ·exact Nat.le_refl _
   exact I1.fpOk le (I1.hok.fresh le)
  rcases q1 with q1|q1
  ·obtain⟨b,xs,e,hb,q⟩:=q1
   subst e;cases r1 with
   | cons r rr =>
    cases rr;cases r;obtain⟨its,rv,pb,_⟩:=I1.tuple hb;have lb:b<s1.heap.objs.size:=by obtain⟨o,e,_⟩:=pb;exact Heap.lt_size e
    refine AC (show s1.heap.IsTuple b its.toArray from pb) fun g st1 st2 _ k=>?_;refine wpAny_pyIter_enum st1 ?_;exact⟨_,[s1.heap.objs.size+1,s1.heap.objs.size],_,_,H1,rfl,I1.kept (t':=s1.toks) k,A0 (Nat.succ_ne_self _) (Nat.ne_of_gt (Nat.lt_succ_of_lt lb)) (Nat.ne_of_gt lb),⟨⟨_,st1⟩,st2⟩,fin,q⟩
  ·obtain⟨b,xs,e,hb,q⟩:=q1
   subst e;cases r1 with
   | cons r rr =>
    cases rr;cases r;obtain⟨its,rv,pb,_⟩:=I1.list hb;have lb:b<s1.heap.objs.size:=by obtain⟨o,e,_⟩:=pb.isList;exact Heap.lt_size e
    refine call_enumerate_list pb.isList fun g st1 st2 _ k=>?_;refine wpAny_pyIter_enum st1 ?_;exact⟨_,[s1.heap.objs.size+1,s1.heap.objs.size],_,_,H1,rfl,I1.kept (t':=s1.toks) k,A1 (Nat.succ_ne_self _) (Nat.ne_of_gt (Nat.lt_succ_of_lt lb)) (Nat.ne_of_gt lb),⟨⟨_,st1⟩,st2⟩,fin,q⟩
end
end DL
end
noncomputable section
namespace DL
open PySem PySem.Spec PyProof.Rows L2
section
variable {prog:Program} {w:World} {A:Around} {E:Value->Shared->Prop} {s:Shared}
end
section
variable {prog:Program} {w:World} {A:Around} {E:Value->Shared->Prop} {s:Shared}
end
section
variable {X:Cx} {rz:Bool} {Xe:DSt->DK} {pos p2:Pos}
end
end DL
end
noncomputable section
namespace DL
open PySem PySem.Spec PyProof.Rows L2
noncomputable def ini (c x:Str):Nat:=if c="" then 0 else if x="__init__" then 1 else 0
theorem ini0:ini "" x=0:=if_pos rfl
structure RefAt (K:Frag) (mg:Str->Option Value) (c x:Str) (f:Addr):Prop where
 fn:c=""->mg x=some (.ref f)/\PySem.W.keepIn K (.ref f)=true
 mt:c≠""->c∈oNames/\∃ C,YS K c C/\mg c=some (.ref C)/\(x≠"__init__"->Meth K C x f)/\(x="__init__"->Mk K C f)
structure FnAt (X:Cx) (c x:Str) (S:DSp):Prop where
 ex:∃ k f fd ps,FnOk X.prog X.w X.K X.mg X.base (CXR X.prog X.w) (k-ini c x) f fd ps (XW X.K S)/\ini c x<=k/\(X.calm=true->Room k X.A)/\RefAt X.K X.mg c x f/\Binds X.K fd ps []
noncomputable def putD (f:Str) (d:D):List (Str×D)->List (Str×D)
 | []=>[(f,d)]
 | (g,x)::r=>if g=f then (g,d)::r else (g,x)::putD f d r
noncomputable def dFld (n f:Str) (ta:DE):DE:=fun δ M Q=>ta δ M fun x M1=>∃ a fs d,x=.ref a/\M1 a=some (.ob n fs)/\fs.lookup f=some d/\Q d M1
noncomputable def Zr (n m:Str) (S:DSp) (E:DSt->DK) (ta:DE) (t:DA):DE:=fun δ M Q=>ta δ M fun x M1=>∃ a fs,x=.ref a/\M1 a=some (.ob n fs)/\fs.lookup m=none/\t δ M1 fun xs M2=>S (.ref a::xs) M2 Q (E δ)
noncomputable def Zs (n:Str) (S:DSp) (E:DSt->DK) (t:DA):DE:=fun δ M Q=>t δ M fun xs M1=>alloc M1 (.ob n []) fun p M'=>S (.ref p::xs) M' (fun d M2=>d=.non/\Q (.ref p) M2) (E δ)
noncomputable def Zq (n f:Str) (i:Nat) (te:(DSt->DK)->DE):DS:=fun D δ M=>te D.ex δ M fun y M1=>∃ a fs,δ[i]?=some (some (.ref a))/\M1 a=some (.ob n fs)/\fs.length<1000/\D.nx δ (M1.upd a (.ob n (putD f y fs)))
section
variable {X:Cx} {rz:Bool} {Xe:DSt->DK} {e o:Expr} {es:List Expr} {t:DA} {te to:DE} {x n m f:Str} {p pos apos pos':Pos} {S:DSp}
theorem UE {k:Nat} {f:Addr} {fd:FuncData} {ps:List Str} {S:DSp} {pins:List (Addr×Obj)} {σ:L2.St} {H:Hp} {s:Shared} {Q:VK} {us:List Value} {vs:List V} {δ:DSt} {ds:List D} {M:Mem} {R:DK}
  (F:FnOk X.prog X.w X.K X.mg X.base (CXR X.prog X.w) k f fd ps (XW X.K S)) (hr:Room k X.A) (hb:Binds X.K fd ps []) (I:L2.Inv X pins σ H s) (r:Vals vs us)
  (rs:RepS (X.L rz Xe) H δ σ) (rm:RepM X.K H M) (rd:RelDs X.K H vs ds) (h:S ds M R (Xe δ)) (q:∀ d' M' v H',HExt X.K H H'->RepM X.K H' M'->RelD X.K H' v d'->R d' M'->Q v H') :
  wpAny (model X.prog X.w) X.A (call (.ref f) us) (EP X pins σ Q) X.xe s:=by
 obtain⟨Ex,hEx⟩:∃ Ex:XK,Ex=fun cv odx H'=>∃ n M' C x,cv=.ref C/\HExt X.K H H'/\RepM X.K H' M'/\n∈xNames/\YS X.K n C/\ExD X.K H' n odx x/\Xe δ (.exc n x) M':=⟨_,rfl⟩;have hsp:XW X.K S vs H Q Ex:=⟨ds,M,R,_,rd,rm,h,q,fun n M' H' C dd xd x m hn hc ed e=>by rw[hEx];exact⟨n,M',C,xd,rfl,x,m,hn,hc,ed,e⟩⟩;have hl:us.length=ps.length:=by rw[<- r.length];exact F.len _ _ _ _ hsp
 have hbb:=hb s us I.kIn (by simpa using hl);rw[List.append_nil] at hbb;refine wpAny_call (codeAny_mono (F.run X.A X.stack s H ⟨us,[]⟩ us vs Q Ex hr I.env0 hbb r hsp) fun res s' hq=>?_);cases res with
 | error e =>
  obtain⟨e0,C,dd,H',rfl,th,hE⟩:=(show CXR X.prog X.w X.stack H s Ex e s' from hq);rw[hEx] at hE;obtain⟨n,M',C',xd,hC,x,m,hn,hc,ed,hx⟩:=hE;cases hC;exact rs.ok.fly pins σ H s H' e0 C dd s' δ M' n xd x I th m (rs.toSlots.ext x) hn hc ed hx
 | ok fl =>
  cases fl with
  | ret u=>exact I.after hq
  | next=>exact False.elim hq
  | brk=>exact False.elim hq
  | cont=>exact False.elim hq
end
end DL
end
noncomputable section
namespace DL
open PySem PySem.Spec PyProof.Rows L2
theorem vals_ints:∀ {acc:List Value} {n:Nat} {k:Nat},acc.length=n->(∀ (j:Nat) (v:Value),acc[j]?=some v->∃ t,v=Value.int (i+((k+j:Nat):Int)*1) t)->Vals ((List.range' k n).map fun m:Nat=>V.int (i+(m:Int))) acc
 | [],n,k,hl,_=>by subst hl;exact .nil
 | v::acc,n,k,hl,h=>by
  subst hl;rw[List.length_cons,List.range'_succ,List.map_cons];refine .cons ?_ (vals_ints (k:=k+1) rfl fun j v hv=>?_)
  ·obtain⟨t,e⟩:=h 0 v rfl
   exact⟨t,by rw[e];simp⟩
  ·obtain⟨t,e⟩:=h (j+1) v (by simpa using hv)
   exact⟨t,by rw[e];congr 3;omega⟩
section
variable {X:Cx} {e:Expr} {es:List Expr} {t:TA} {p p2 pos pos2:Pos}
theorem Fr (hc:X.calm=true) (hg1:Gl X "list") (hm1:X.mg "list"=none) (hg2:Gl X "range") (hm2:X.mg "range"=none) (ha:PA X (e::es) t)
  (he:starEach (e::es) X.env=(false,eval e X.env)::starEach es X.env) (hpl:(backTo pos2 (starEach es X.env)).any (·.1)=false) :
  PE X (.Call (.Name "list" p) [.Call (.Name "range" p2) (e::es) [] pos2] [] pos) (tCB (fun xs H Q=>∃ i j:Int,xs=[.int i,.int j]/\i.natAbs<=1000/\j.natAbs<=1000/\∀ l,H l=none->Q (.ref l) (L2.upd H l (.lst ((List.range (j-i).toNat).map fun m:Nat=>V.int (i+(m:Int)))))) t):=by
 intro pins s σ H Q I h;refine wpAny_Call_Name_kw (Xt I hg1 hm1 (u:=.type "list") (by decide +kernel) ?_);refine PyProof.Rows.callWith_type1 ?_ rfl rfl;refine Calls.spliced_cons ?_;refine wpAny_Call_Name_kw (Xt I hg2 hm2 (u:=.type "range") (by decide +kernel) ?_);refine PyProof.Rows.callWith_type1 ?_ he hpl;refine thn (ha pos2 pins s σ H _ I h) ?_;rintro us s1 ⟨vs,H1,I1,r1,i,j,rfl,hi,hj,q⟩;cases r1 with
 | cons r rr =>
  cases rr with
  | cons r' rr =>
   cases rr;obtain⟨tk,rfl⟩:=r;obtain⟨tk',rfl⟩:=r';refine call_range_2 ?_;refine Calls.spliced_nil ?_;have hsz:Builtin.Range.rangeSize i j 1=((j-i).toNat:Int):=by
    unfold Builtin.Range.rangeSize;rw[if_pos %[|4]];split
    ·simp;omega
    ·omega
   have hsm:Builtin.Range.small i j 1=true:=small_one %[|5] %[|5] %[|5] %[|5];refine call_list_range (n:=(j-i).toNat) (I1.ok.hd hc) (IsRange.new ..) hsm hsz %[|5] fun h' tk2 acc' c' kp hS hacc=>?_;have z1:s1.heap.objs.size<=(s1.heap.push {cls:=Value.type "range",data:=Data.fields #[Value.int i tk,Value.int j tk',Value.int 1 s1.toks]}).objs.size:=by rw[Heap.size_push];exact Nat.le_succ _
   have kp':∀ b o,s1.heap.get? b=some o->h'.get? b=some o:=fun b o e=>kp b o (Heap.get?_push_of_some _ e);obtain⟨a1,a2⟩:=hacc;have va:=vals_ints (i:=i) (acc:=acc'.toList) (n:=(j-i).toNat) (k:=0) (by simpa using a1) fun m v hv=>by
    obtain⟨t,e⟩:=a2 m v (by simpa using hv);exact⟨t,by rw[e];simp⟩
   rw[<- List.range_eq_range'] at va;refine⟨.ref _,_,I1.laid (t':=tk2) kp' z1 (o:=.lst ((List.range (j-i).toNat).map fun m:Nat=>V.int (i+(m:Int)))) ⟨?_,acc'.toList,c',va,by simpa using hS⟩,rfl,q _ (I1.hok.fresh z1)⟩;rw[List.length_map,List.length_range,sizeLine_eq];omega
end
section
variable {X:Cx} {rz:Bool} {a b e:Expr} {te ta tb:(DSt->DK)->DE} {pos pos':Pos}
end
section
variable {X:Cx} {rz:Bool} {Xe:DSt->DK} {e:Expr} {es:List Expr} {t:DA} {p p2 pos pos2:Pos}
noncomputable def Be:List D->Mem->DK->Prop
 | [.int i,.int j],M,Q=>i.natAbs<=1000/\j.natAbs<=1000/\alloc M (.ls (rngD i 1 (j-i).toNat)) fun p M'=>Q (.lst p) M'
 | _,_,_=>False
theorem Jk {K:Frag} {H:Hp} {i:Int}:∀ (l:List Nat),RelDs K H (l.map fun m:Nat=>V.int (i+(m:Int))) (l.map fun m:Nat=>D.int (i+(m:Int)*1))
 | []=>.nil
 | m::l=>by
  rw[List.map_cons,List.map_cons,Int.mul_one];exact .cons (.int _) (Jk l)
theorem Gj (hc:X.calm=true) (hg1:Gl X "list") (hm1:X.mg "list"=none) (hg2:Gl X "range") (hm2:X.mg "range"=none) (ha:PA X (e::es) (Zj (X.L rz Xe) t))
  (he:starEach (e::es) X.env=(false,eval e X.env)::starEach es X.env) (hpl:(backTo pos2 (starEach es X.env)).any (·.1)=false) :
  PE X (.Call (.Name "list" p) [.Call (.Name "range" p2) (e::es) [] pos2] [] pos) (lift (X.L rz Xe) (dCB Be t)):=by
 refine (Fr hc hg1 hm1 hg2 hm2 ha he hpl).imp fun σ H Q h=>?_;obtain⟨δ,M,R,rs,rm,t,q⟩:=h;refine⟨δ,M,_,rs,rm,t,fun ds M' vs H' x m r h=>?_⟩;unfold Be at h;split at h
 ·rename_i i j
  cases ZT (ns:=[i,j]) r;obtain⟨h1,h2,h⟩:=h;exact⟨_,_,rfl,h1,h2,fun p hp=>q _ _ _ _ (x.trans (.upd (.inl hp))) (m.lst hp (Jk _)) (.lst p) (h.at (m.none hp))⟩
 ·exact h.elim
end
section
variable {X:Cx} {a b:Expr} {rest:List Expr} {pos:Pos}
end
section
variable {X:Cx} {i j k:Nat} {x y z:Str} {a b c:Expr} {px py pz pt pos:Pos} {kt k2:Nat} {pt2:Pos}
end
end DL
namespace PySem
open Sem (wp)
section
variable {prog:Program} {w:World} {A:Around} {E:Value->Shared->Prop} {s:Shared}
end
end PySem
namespace DL
open PySem PySem.Spec PyProof.Rows L2
section
variable {z u v i j b c:Addr} {n:Nat}
variable {prog:Program} {w:World} {A:Around} {E:Value->Shared->Prop} {s:Shared} {xs ys:Array Value} {x y:Value}
end
section
variable {X:Cx} {pins:List (Addr×Obj)} {σ:L2.St} {z u v i j b c S:Addr} {A:Around} {R:Result->Shared->Prop} {res:Value} {vs ws:List V}
end
end DL
namespace PySem
namespace F
end F
end PySem
namespace DL
open PySem PySem.Spec PyProof.Rows L2
section
variable {X:Cx} {pins:List (Addr×Obj)} {σ:L2.St} {z u v i j b c S:Addr} {A:Around} {R:Result->Shared->Prop} {res:Value} {vs ws:List V} {H:Hp} {s:Shared}
end
end DL
namespace DL
open PySem PySem.Spec PyProof.Rows L2
section
variable {X:Cx} {e:Expr} {es:List Expr} {t:TA} {p p2 pos pos2:Pos}
end
section
variable {X:Cx} {rz:Bool} {Xe:DSt->DK} {e:Expr} {es:List Expr} {t:DA} {p p2 pos pos2:Pos}
end
end DL
namespace DL
open PySem PySem.Spec PyProof.Rows L2
section
variable {X:Cx}
end
section
variable {X:Cx} {rz:Bool} {Xe:DSt->DK} {o e:Expr} {to ta:DE} {apos cpos:Pos}
end
section
variable {X:Cx} {a b:Expr} {p1 p2 p3 pos:Pos} {k:Nat} {x:Str}
end
section
variable {X:Cx} {rz:Bool} {Xe:DSt->DK} {a b:Expr} {ta tb:DE} {p1 p2 p3 pos:Pos} {k:Nat} {x:Str}
end
section
variable {X:Cx}
end
section
variable {X:Cx} {rz:Bool} {Xe:DSt->DK} {tg:Expr}
end
section
variable {X:Cx} {rz:Bool} {a b e:Expr} {te ta tb:(DSt->DK)->DE} {pos pos':Pos}
end
section
variable {X:Cx} {rz:Bool} {Xe:DSt->DK} {o e f:Expr} {to ta tb:DE} {apos pos:Pos}
end
end DL
end
noncomputable section
namespace DL
open PySem PySem.Spec PyProof.Rows L2
section
variable {X:Cx} {rz:Bool} {Xe:DSt->DK} {pos:Pos}
variable {a b:Expr} {ta tb:DE}
end
section
variable {X:Cx} {rz:Bool} {Xe:DSt->DK} {tg:Expr}
end
section
variable {X:Cx}
end
section
variable {X:Cx} {rz:Bool} {Xe:DSt->DK} {o:Expr} {to:DE} {apos cpos:Pos}
variable {e:Expr} {ta:DE} {pos:Pos}
end
end DL
end
noncomputable section
namespace DL
open PySem PySem.Spec PyProof.Rows L2
section
variable {X:Cx}
end
section
variable {X:Cx} {rz:Bool} {Xe:DSt->DK} {o e:Expr} {to ta:DE} {apos cpos:Pos}
end
section
variable {X:Cx} {a b:Expr} {p1 p2 p3 pos:Pos} {k:Nat} {x:Str}
end
section
variable {X:Cx} {rz:Bool} {Xe:DSt->DK} {a b:Expr} {ta tb:DE} {p1 p2 p3 pos:Pos} {k:Nat} {x:Str}
end
section
variable {X:Cx} {a b c:Expr} {p1 p2 p3 p4 p5 pos:Pos} {k k2:Nat} {x y:Str}
end
section
variable {X:Cx} {rz:Bool} {Xe:DSt->DK} {a b c:Expr} {ta tb tc:DE} {p1 p2 p3 p4 p5 pos:Pos} {k k2:Nat} {x y:Str}
end
end DL
end
noncomputable section
namespace DL
open PySem PySem.W PyProof.Rows L2
section
variable (lt:Nat->Nat->Bool) (N:Nat)
variable {lt N}
noncomputable def gA (p:Array Nat) (i:Nat):Nat:=p.getD i 0
noncomputable def St (lt:Nat->Nat->Bool) (p:Array Nat) (k:Nat):Prop:=∀ i j,i<=j->j<k->lt (gA p j) (gA p i)=false
end
section
variable {prog:Program} {w:World} {A:Around} {E:Value->Shared->Prop} {s:Shared}
end
section
variable {X:Cx}
end
end DL
end
noncomputable section
namespace DL
open PySem PySem.Spec PyProof.Rows L2
section
variable {X:Cx} {rz:Bool} {Xe:DSt->DK} {e o:Expr} {es:List Expr} {t:DA} {te to:DE} {x:Str} {p pos apos:Pos}
theorem Gm (hcal:X.calm=true) (F:FnAt X "" x S) (hg:Gl X x) (ha:PA X (e::es) (Zj (X.L rz Xe) t)) (hdb:(x==("__debug__":Str))=false) (he:starEach (e::es) X.env=(false,eval e X.env)::starEach es X.env) (hpl:(backTo pos (starEach es X.env)).any (·.1)=false) :
  PE X (.Call (.Name x p) (e::es) [] pos) (lift (X.L rz Xe) (Zl S Xe t)):=by
 obtain⟨k,f,fd,ps,F,_,hr,rf,hb⟩:=F.ex;rw[ini0,Nat.sub_zero] at F;obtain⟨hm,hk⟩:=rf.fn rfl;rintro pins s σ H Q I ⟨δ,M,R,rs,rm,t,q⟩;refine wpAny_Call_Name_kw (X9 I hg hm ?_ hdb);refine PySem.W.callWith_K (h₀:=X.base) I.ok.mod.kin hk (thn (ha pos pins s σ H (fun vs H1=>∃ ds M1,HExt X.K H H1/\RepM X.K H1 M1/\RelDs X.K H1 vs ds/\S ds M1 R (Xe δ)) I ⟨δ,M,_,rs,rm,t,fun ds M1 vs H1 x m r h=>⟨ds,M1,x,m,r,h⟩⟩) fun us s1 ⟨vs,H1,I1,r,ds,M1,x1,m1,r1,h1⟩=>⟨I1.kIn,?_⟩) he hpl;exact UE F (hr hcal) hb I1 r (rs.ext x1) m1 r1 h1 fun d' M' v H' x=>q d' M' v H' (x1.trans x)
theorem EE (hcal:X.calm=true) (F:FnAt X "" x S) (hg:Gl X x) (hdb:(x==("__debug__":Str))=false):PE X (.Call (.Name x p) [] [] pos) (lift (X.L rz Xe) (Zl S Xe dNil)):=by
 obtain⟨k,f,fd,ps,F,_,hr,rf,hb⟩:=F.ex;rw[ini0,Nat.sub_zero] at F;obtain⟨hm,hk⟩:=rf.fn rfl;rintro pins s σ H Q I ⟨δ,M,R,rs,rm,t,q⟩;refine wpAny_Call_Name_kw (X9 I hg hm ?_ hdb);exact PySem.W.callWith_K0 I.kIn hk (UE (us:=[]) F (hr hcal) hb I .nil rs rm .nil t q)
noncomputable def Y3 (alts:List (Str×DSp)) (i:Nat) (Xe:DSt->DK) (t:DA):DE:=fun δ M Q=>∃ n S,δ[i]?=some (some (.fn n))/\(n,S)∈alts/\t δ M fun ds M1=>S ds M1 Q (Xe δ)
structure GloAt (X:Cx) (x:Str) (d:D):Prop where
 ex:∃ u v,X.mg x=some u/\RelV v u/\∀ H,RelD X.K H v d
theorem ED (hcal:X.calm=true) (A:∀ n S,(n,S)∈alts->FnAt X "" n S/\GloAt X n (.fn n)) (hv:PE X (.Name x p) (tVar i)) (ha:PA X (e::es) (Zj (X.L rz Xe) t)) (he:starEach (e::es) X.env=(false,eval e X.env)::starEach es X.env) (hpl:(backTo pos (starEach es X.env)).any (·.1)=false) :
  PE X (.Call (.Name x p) (e::es) [] pos) (lift (X.L rz Xe) (Y3 alts i Xe t)):=by
 rintro pins s σ H Q I ⟨δ,M,R,rs,rm,⟨n,S,e1,mem,t⟩,q⟩;obtain⟨F1,G⟩:=A n S mem;obtain⟨k,f,fd,ps,F,_,hr,rf,hb⟩:=F1.ex;rw[ini0,Nat.sub_zero] at F;obtain⟨hm,hk⟩:=rf.fn rfl;obtain⟨v,h1,h2⟩:=rs.slot i _ e1;have hvf:v=.ref f:=by
  obtain⟨u,v',g1,g2,g3⟩:=G.ex;cases h2 with
  | fn hc =>
   cases g3 fun _=>none with
   | fn hc' =>
    have g2:u=_:=g2;rw[g2] at g1;have z1:=g1.symm.trans hm;injection z1 with z1
    injection z1 with z1
    have z2:=hc.symm.trans hc';injection z2 with z2
    injection z2 with z2
    injection z2 with z2
    rw[z2,z1]
 subst hvf;refine wpAny_Call_Name_kw (thn (hv pins s σ H (fun v' H'=>v'=.ref f/\H'=H) I ⟨_,h1,rfl,rfl⟩) ?_);rintro u s0 ⟨v',H',I0,r0,ev,eH⟩;subst ev;subst eH;have r0:u=.ref f:=r0;subst r0;refine PySem.W.callWith_K (h₀:=X.base) I0.ok.mod.kin hk (thn (ha pos pins s0 σ H' (fun vs H1=>∃ ds M1,HExt X.K H' H1/\RepM X.K H1 M1/\RelDs X.K H1 vs ds/\S ds M1 R (Xe δ)) I0 ⟨δ,M,_,rs,rm,t,fun ds M1 vs H1 x m r h=>⟨ds,M1,x,m,r,h⟩⟩) fun us s1 ⟨vs,H1,I1,r,ds,M1,x1,m1,r1,h1⟩=>⟨I1.kIn,?_⟩) he hpl;exact UE F (hr hcal) hb I1 r (rs.ext x1) m1 r1 h1 fun d' M' v H' x=>q d' M' v H' (x1.trans x)
noncomputable def dApp (to te:DE):DE:=fun δ M Q=>to δ M fun o M1=>∃ a ys,o=.lst a/\M1 a=some (.ls ys)/\te δ M1 fun y M2=>∃ xs,M2 a=some (.ls xs)/\xs.length<sizeLine/\Q .non (M2.upd a (.ls (xs++[y])))
theorem IW (ho:PE X o (lift (X.L rz Xe) to)) (he:PE X e (lift (X.L rz Xe) te)) (hbase:attributeBase o "append" X.env (eval o X.env)=eval o X.env) (hs:∀ es,starEach (e::es) X.env=(false,eval e X.env)::starEach es X.env) (hline:(apos.endLine==pos.line)=true) :
  PE X (.Call (.Attribute o "append" apos) [e] [] pos) (lift (X.L rz Xe) (dApp to te)):=by
 refine (B1 PySem.F.plainAttrs_list PySem.F.slot_list_append PySem.F.type_list_append U5 ho (ZM he Wx (hs _)) hbase (by rw[hs];rfl) hline (hs _) rfl).imp fun σ H Q h=>?_;obtain⟨δ,M,R,rs,rm,t,q⟩:=h;refine⟨δ,M,_,rs,rm,t,fun d M1 v H1 x1 m1 r1 hq7=>?_⟩;obtain⟨a,ys,e1,e2,h1⟩:=hq7;subst e1;cases r1;obtain⟨vs,ev,_⟩:=m1 _ _ e2;refine⟨.inl ⟨rfl,_,.of ev⟩,δ,M1,fun ds M2=>∃ y,ds=[y]/\∃ xs,M2 a=some (.ls xs)/\xs.length<sizeLine/\R .non (M2.upd a (.ls (xs++[y]))),rs.ext x1,m1,?_,fun ds M2 vs H2 x2 m2 r2 ⟨y,e3,xs,e4,hz,h2⟩=>?_⟩
 ·obtain⟨K',hK'⟩:∃ K':D->Mem->Prop,K'=fun y M2=>∃ xs,M2 a=some (.ls xs)/\xs.length<sizeLine/\R .non (M2.upd a (.ls (xs++[y]))):=⟨_,rfl⟩
  have:(fun x M2=>∃ y,[x]=[y]/\∃ xs,M2 a=some (.ls xs)/\xs.length<sizeLine/\R .non (M2.upd a (.ls (xs++[y]))))=K':=by
   rw[hK'];funext x M2;apply propext;constructor
   ·rintro⟨y,e,h⟩;cases e;exact h
   ·exact fun h=>⟨x,rfl,h⟩
  show te δ M1 fun x M2=>∃ y,[x]=[y]/\∃ xs,M2 a=some (.ls xs)/\xs.length<sizeLine/\R .non (M2.upd a (.ls (xs++[y])));rw[this,hK'];exact h1
 ·subst e3
  obtain⟨v,rfl,rv⟩:=r2.one;obtain⟨ws,ew,rw'⟩:=m2 _ _ e4;exact⟨a,ws,v,rfl,rfl,ew,by rw[rw'.length];exact hz,q _ _ _ _ ((x1.trans x2).trans (.upd (.inr ⟨_,ew,trivial⟩))) (m2.write ew (rw'.append (.cons rv .nil))) .non h2⟩
noncomputable def dExt (to te:DE):DE:=fun δ M Q=>to δ M fun o M1=>∃ a ys,o=.lst a/\M1 a=some (.ls ys)/\te δ M1 fun y M2=>∃ b xs zs,y=.lst b/\M2 a=some (.ls xs)/\M2 b=some (.ls zs)/\xs.length+zs.length<=sizeLine/\Q .non (M2.upd a (.ls (xs++zs)))
theorem IT (ho:PE X o (lift (X.L rz Xe) to)) (he:PE X e (lift (X.L rz Xe) te)) (hbase:attributeBase o "extend" X.env (eval o X.env)=eval o X.env) (hs:∀ es,starEach (e::es) X.env=(false,eval e X.env)::starEach es X.env) (hline:(apos.endLine==pos.line)=true) :
  PE X (.Call (.Attribute o "extend" apos) [e] [] pos) (lift (X.L rz Xe) (dExt to te)):=by
 refine (B1 PySem.F.plainAttrs_list PySem.F.slot_list_extend PySem.F.type_list_extend BO ho (ZM he Wx (hs _)) hbase (by rw[hs];rfl) hline (hs _) rfl).imp fun σ H Q h=>?_;obtain⟨δ,M,R,rs,rm,t,q⟩:=h;refine⟨δ,M,_,rs,rm,t,fun d M1 v H1 x1 m1 r1 hq7=>?_⟩;obtain⟨a,ys,e1,e2,h1⟩:=hq7;subst e1;cases r1;obtain⟨vs,ev,_⟩:=m1 _ _ e2;refine⟨.inl ⟨rfl,_,.of ev⟩,δ,M1,fun ds M2=>∃ y,ds=[y]/\∃ b xs zs,y=.lst b/\M2 a=some (.ls xs)/\M2 b=some (.ls zs)/\xs.length+zs.length<=sizeLine/\R .non (M2.upd a (.ls (xs++zs))),rs.ext x1,m1,?_,fun ds M2 vs H2 x2 m2 r2 ⟨y,e3,b,xs,zs,e5,e4,e6,hz,h2⟩=>?_⟩
 ·have:(fun (x:DL.D) (M2:Mem)=>∃ y,[x]=[y]/\∃ b xs zs,y=D.lst b/\M2 a=some (.ls xs)/\M2 b=some (.ls zs)/\xs.length+zs.length<=sizeLine/\R .non (M2.upd a (.ls (xs++zs))))=fun (y:DL.D) (M2:Mem)=>∃ b xs zs,y=D.lst b/\M2 a=some (.ls xs)/\M2 b=some (.ls zs)/\xs.length+zs.length<=sizeLine/\R .non (M2.upd a (.ls (xs++zs))):=by
   funext x M2;apply propext;constructor
   ·rintro⟨y,e,h⟩;cases e;exact h
   ·exact fun h=>⟨x,rfl,h⟩
  show te δ M1 fun x M2=>∃ y,[x]=[y]/\∃ b xs zs,y=D.lst b/\M2 a=some (.ls xs)/\M2 b=some (.ls zs)/\xs.length+zs.length<=sizeLine/\R .non (M2.upd a (.ls (xs++zs)));rw[this];exact h1
 ·subst e3
  subst e5;obtain⟨v,rfl,rv⟩:=r2.one;cases rv;obtain⟨ws,ew,rw'⟩:=m2 _ _ e4;obtain⟨us,eu,ru'⟩:=m2 _ _ e6;exact⟨a,b,ws,us,rfl,rfl,ew,eu,by rw[rw'.length,ru'.length];exact hz,q _ _ _ _ ((x1.trans x2).trans (.upd (.inr ⟨_,ew,trivial⟩))) (m2.write ew (rw'.append ru')) .non h2⟩
noncomputable def dIns (to ta te:DE):DE:=fun δ M Q=>to δ M fun o M1=>∃ a ys,o=.lst a/\M1 a=some (.ls ys)/\ta δ M1 fun x M2=>te δ M2 fun y M3=>∃ xs k,x=.int k/\M3 a=some (.ls xs)/\0<=k/\k<=xs.length/\xs.length<sizeLine/\Q .non (M3.upd a (.ls (Xi xs k y)))
theorem IR (ho:PE X o (lift (X.L rz Xe) to)) (h1:PE X e (lift (X.L rz Xe) ta)) (h2:PE X e2 (lift (X.L rz Xe) te)) (hbase:attributeBase o "insert" X.env (eval o X.env)=eval o X.env) (hs:∀ es,starEach (e::es) X.env=(false,eval e X.env)::starEach es X.env) (hs2:∀ es,starEach (e2::es) X.env=(false,eval e2 X.env)::starEach es X.env) (hline:(apos.endLine==pos.line)=true) :
  PE X (.Call (.Attribute o "insert" apos) [e,e2] [] pos) (lift (X.L rz Xe) (dIns to ta te)):=by
 refine (B1 PySem.F.plainAttrs_list PySem.F.slot_list_insert PySem.F.type_list_insert BN ho (ZM h1 (ZM h2 Wx (hs2 _)) (hs _)) hbase (by rw[hs,hs2];rfl) hline (hs _) (by rw[hs2];rfl)).imp fun σ H Q h=>?_;obtain⟨δ,M,R,rs,rm,t,q⟩:=h;refine⟨δ,M,_,rs,rm,t,fun d M1 v H1 x1 m1 r1 hq7=>?_⟩;obtain⟨a,ys,e1,e2,h1⟩:=hq7;subst e1;cases r1;obtain⟨vs,ev,_⟩:=m1 _ _ e2;refine⟨.inl ⟨rfl,_,.of ev⟩,δ,M1,fun ds M2=>∃ x y,ds=[x,y]/\∃ xs k,x=.int k/\M2 a=some (.ls xs)/\0<=k/\k<=xs.length/\xs.length<sizeLine/\R .non (M2.upd a (.ls (Xi xs k y))),rs.ext x1,m1,?_,fun ds M2 vs H2 x2 m2 r2 hq8=>?_⟩
 ·have:∀ x:DL.D,(fun (y:DL.D) (M2:Mem)=>∃ x' y',[x,y]=[x',y']/\∃ xs k,x'=D.int k/\M2 a=some (.ls xs)/\0<=k/\k<=xs.length/\xs.length<sizeLine/\R .non (M2.upd a (.ls (Xi xs k y'))))=fun (y:DL.D) (M2:Mem)=>∃ xs k,x=D.int k/\M2 a=some (.ls xs)/\0<=k/\k<=xs.length/\xs.length<sizeLine/\R .non (M2.upd a (.ls (Xi xs k y))):=fun x=>by
   funext y M2;apply propext;constructor
   ·rintro⟨x',y',e,h⟩;cases e;exact h
   ·exact fun h=>⟨x,y,rfl,h⟩
  show ta δ M1 fun x M2=>te δ M2 fun y M2=>∃ x' y',[x,y]=[x',y']/\∃ xs k,x'=D.int k/\M2 a=some (.ls xs)/\0<=k/\k<=xs.length/\xs.length<sizeLine/\R .non (M2.upd a (.ls (Xi xs k y')));simp only[this];exact h1
 ·obtain⟨x,y,e3,xs,k,e5,e4,k0,k1,hz,h2⟩:=hq8
  subst e3;subst e5;obtain⟨v,w,rfl,rv,rw'⟩:=r2.two;cases rv;obtain⟨ws,ew,rws⟩:=m2 _ _ e4;have hl:=rws.length;refine⟨a,ws,k,w,rfl,rfl,ew,k0,by omega,by omega,q _ _ _ _ ((x1.trans x2).trans (.upd (.inr ⟨_,ew,trivial⟩))) (m2.write ew ?_) .non h2⟩;unfold Xi;exact (rws.take _).append (.cons rw' (rws.drop _))
noncomputable def dIdx (to te:DE):DE:=fun δ M Q=>to δ M fun o M1=>∃ a ys,o=.lst a/\M1 a=some (.ls ys)/\te δ M1 fun y M2=>∃ xs j,M2 a=some (.ls xs)/\IxAt M2 xs y j/\Q (.int j) M2
noncomputable def dRem (to te:DE):DE:=fun δ M Q=>to δ M fun o M1=>∃ a ys,o=.lst a/\M1 a=some (.ls ys)/\te δ M1 fun y M2=>∃ xs j,M2 a=some (.ls xs)/\IxAt M2 xs y j/\Q .non (M2.upd a (.ls (xs.eraseIdx j)))
theorem IN (hu:X.A.units+66<cLine) (ho:PE X o (lift (X.L rz Xe) to)) (he:PE X e (lift (X.L rz Xe) te)) (hbase:attributeBase o "remove" X.env (eval o X.env)=eval o X.env) (hs:∀ es,starEach (e::es) X.env=(false,eval e X.env)::starEach es X.env) (hline:(apos.endLine==pos.line)=true) :
  PE X (.Call (.Attribute o "remove" apos) [e] [] pos) (lift (X.L rz Xe) (dRem to te)):=by
 refine (B1 PySem.F.plainAttrs_list PySem.F.slot_list_remove PySem.F.type_list_remove (BM hu) ho (ZM he Wx (hs _)) hbase (by rw[hs];rfl) hline (hs _) rfl).imp fun σ H Q h=>?_;obtain⟨δ,M,R,rs,rm,t,q⟩:=h;refine⟨δ,M,_,rs,rm,t,fun d M1 v H1 x1 m1 r1 hq7=>?_⟩;obtain⟨a,ys,e1,e2,h1⟩:=hq7;subst e1;cases r1;obtain⟨vs,ev,_⟩:=m1 _ _ e2;refine⟨.inl ⟨rfl,_,.of ev⟩,δ,M1,fun ds M2=>∃ y,ds=[y]/\∃ xs j,M2 a=some (.ls xs)/\IxAt M2 xs y j/\R .non (M2.upd a (.ls (xs.eraseIdx j))),rs.ext x1,m1,?_,fun ds M2 vs H2 x2 m2 r2 hq8=>?_⟩
 ·have:(fun (x:DL.D) (M2:Mem)=>∃ y,[x]=[y]/\∃ xs j,M2 a=some (.ls xs)/\IxAt M2 xs y j/\R .non (M2.upd a (.ls (xs.eraseIdx j))))=fun (y:DL.D) (M2:Mem)=>∃ xs j,M2 a=some (.ls xs)/\IxAt M2 xs y j/\R .non (M2.upd a (.ls (xs.eraseIdx j))):=by
   funext x M2;apply propext;constructor
   ·rintro⟨y,e,h⟩;cases e;exact h
   ·exact fun h=>⟨x,rfl,h⟩
  show te δ M1 fun x M2=>∃ y,[x]=[y]/\∃ (xs:List DL.D) (j:Nat),M2 a=some (.ls xs)/\IxAt M2 xs y j/\R .non (M2.upd a (.ls (xs.eraseIdx j)));rw[this];exact h1
 ·obtain⟨y,e3,xs,j,e4,hx,h2⟩:=hq8
  subst e3;obtain⟨v,rfl,rv⟩:=r2.one;refine⟨a,v,M2,xs,y,j,rfl,rfl,m2,e4,rv,hx,fun ws ew=>?_⟩;obtain⟨ws',ew',rws⟩:=m2 _ _ e4;rw[ew] at ew';cases ew';exact q _ _ _ _ ((x1.trans x2).trans (.upd (.inr ⟨_,ew,trivial⟩))) (m2.write ew (WE j rws)) .non h2
end
inductive Bi|abs|all|any|divmod|isinstance|len|max|min|tuple|list
 deriving DecidableEq
noncomputable def VL:Bi->Str
 | .abs=>"abs" | .all=>"all" | .any=>"any" | .divmod=>"divmod" | .isinstance=>"isinstance" | .len=>"len" | .max=>"max" | .min=>"min" | .tuple=>"tuple" | .list=>"list"
noncomputable def GV:Bi->List D->Mem->DK->Prop
 | .abs=>fAbs | .all=>fAll | .any=>fAny | .divmod=>UV | .isinstance=>fIsi | .len=>fLen | .max=>fMax | .min=>fMin | .tuple=>Y5 | .list=>Yg
inductive Ty|int|bool|str|tuple|list|dict|valueError
 deriving DecidableEq
noncomputable def Wm:Ty->Str
 | .int=>"int" | .bool=>"bool" | .str=>"str" | .tuple=>"tuple" | .list=>"list" | .dict=>"dict" | .valueError=>"ValueError"
noncomputable def AJ:Ty->String
 | .int=>"int" | .bool=>"bool" | .str=>"str" | .tuple=>"tuple" | .list=>"list" | .dict=>"dict" | .valueError=>"ValueError"
theorem EU (t:Ty):bootBuiltins (Wm t)=some (.type (AJ t)):=by cases t<;>kernel_rfl
noncomputable def quiet:Bi->Bool
 | .isinstance=>true
 | _=>false
structure Blt (mg:Str->Option Value):Prop where
 bi:∀ b,mg (VL b)=none
 ty:∀ t,mg (Wm t)=none
 range:mg "range"=none
 zip:mg "zip"=none
 enum:mg "enumerate"=none
 lis:mg "list"=none
section
variable {X:Cx} {rz:Bool} {Xe:DSt->DK} {e:Expr} {es:List Expr} {t:DA} {p pos:Pos}
theorem KR (b:Bi) (tab:Zv X.K=true) (hB:Blt X.mg) (hq:X.calm=true\/quiet b=true) (hg:Gl X (VL b)) (ha:PA X (e::es) (Zj (X.L rz Xe) t)) (he:starEach (e::es) X.env=(false,eval e X.env)::starEach es X.env) (hpl:(backTo pos (starEach es X.env)).any (·.1)=false) :
  PE X (.Call (.Name (VL b) p) (e::es) [] pos) (lift (X.L rz Xe) (dCB (GV b) t)):=by
 have hm:=hB.bi b;cases b with
 | abs=>exact (Zf K7 hg hm (by kernel_rfl) ha %[|4] %[|4] he hpl).imp fun _ _ _=>ZN
 | all=>exact (Zf (K6 (hq.resolve_right Bool.false_ne_true)) hg hm (by kernel_rfl) ha %[|4] %[|4] he hpl).imp fun _ _ _=>ZN
 | any=>exact (Zf (K5 (hq.resolve_right Bool.false_ne_true)) hg hm (by kernel_rfl) ha %[|4] %[|4] he hpl).imp fun _ _ _=>ZN
 | divmod=>exact (Zf Cq hg hm (by kernel_rfl) ha %[|4] %[|4] he hpl).imp fun _ _ _=>ZN
 | isinstance=>exact (Zf (K4 tab) hg hm (by kernel_rfl) ha %[|4] %[|4] he hpl).imp fun _ _ _=>ZN
 | len=>exact (Zf K3 hg hm (by kernel_rfl) ha %[|4] %[|4] he hpl).imp fun _ _ _=>ZN
 | max=>exact (Zf (K0 (hq.resolve_right Bool.false_ne_true)) hg hm (by kernel_rfl) ha %[|4] %[|4] he hpl).imp fun _ _ _=>ZN
 | min=>exact (Zf (IZ (hq.resolve_right Bool.false_ne_true)) hg hm (by kernel_rfl) ha %[|4] %[|4] he hpl).imp fun _ _ _=>ZN
 | tuple=>exact (U3 EK hg hm (by kernel_rfl) ha %[|4] %[|4] he hpl).imp fun _ _ _=>ZN
 | list=>exact (U3 Gx hg hm (by kernel_rfl) ha %[|4] %[|4] he hpl).imp fun _ _ _=>ZN
theorem KN (t:Ty) (hB:Blt X.mg) (hg:Gl X (Wm t)):PE X (.Name (Wm t) pos) (lift (X.L rz Xe) (dC (.ty (AJ t)))) :=
 Ww (Fv (v:=.ty (AJ t)) hg (hB.ty t) (EU t) rfl (by cases t<;>decide) (by cases t<;>decide)) fun H=>.ty _
end
mutual
inductive CE where
 | var (i:Nat)
 | int (i:Int)|bl (b:Bool)|non|str (x:Str)
 | glo (x:Str) (d:D)|ty (t:Ty)
 | bin (op:Operator) (a b:CE)|neg (a:CE)|not (a:CE)
 | cmp (op:CmpOp) (a b:CE)|chain (op op':CmpOp) (a b c:CE)
 | one (a:CE)|and (a b:CE)|or (a b:CE)
 | ife (c a b:CE)
 | tup (es:CEs)|lst (es:CEs)
 | ix (a b:CE)|sl (a:CE) (lo hi:CO)
 | call (x:Str) (S:DSp) (es:CEs)
 | callv (i:Nat) (alts:List (Str×DSp)) (es:CEs)
 | bi (b:Bi) (es:CEs)
 | app (i:Nat) (e:CE)|ext (i:Nat) (e:CE)|rem (i:Nat) (e:CE)|ins (i:Nat) (a e:CE)
 | lrng (es:CEs)
 | comp (N':List Str) (n:Nat) (g:CG) (it:CI) (elt:CE)
inductive CEs where
 | nil|cons (e:CE) (es:CEs)
inductive CO where
 | none|some (e:CE)
inductive CG where
 | name (i:Nat)|tup (gs:CGs)|sub (a b:CE)
inductive CGs where
 | nil|cons (g:CG) (gs:CGs)
inductive CI where
 | seq (e:CE)|rng (es:CEs)|zip (es:CEs)|enum (es:CEs)
end
structure Rd where
 e:DE
 t:DT
noncomputable def CEs.len:CEs->Nat
 | .nil=>0
 | .cons _ es=>es.len+1
noncomputable def CGs.len:CGs->Nat
 | .nil=>0
 | .cons _ es=>es.len+1
noncomputable def plain (t:DE):Rd:=⟨t,dTru t⟩
mutual
noncomputable def rE (Xe:DSt->DK):CE->Rd
 | .var i=>plain (dVar i)
 | .int i=>⟨dC (.int i),fun _ _ _=>False⟩
 | .bl b=>⟨dC (.bl b),fun _ _ _=>False⟩
 | .non=>⟨dC .non,fun _ _ _=>False⟩
 | .str x=>⟨dC (.str x),fun _ _ _=>False⟩
 | .glo _ d=>plain (dC d)
 | .ty t=>plain (dC (.ty (AJ t)))
 | .bin op a b=>plain (d2 (bOp op) (rE Xe a).e (rE Xe b).e)
 | .neg a=>plain (dNeg (rE Xe a).e)
 | .not a=>⟨EG (rE Xe a).e,dNot (rE Xe a).t⟩
 | .cmp op a b=>⟨d2 (cOp op) (rE Xe a).e (rE Xe b).e,Bk (d2 (cOp op) (rE Xe a).e (rE Xe b).e)⟩
 | .chain op op' a b c=>⟨VG (cOp op) (cOp op') (rE Xe a).e (rE Xe b).e (rE Xe c).e,Bk (VG (cOp op) (cOp op') (rE Xe a).e (rE Xe b).e (rE Xe c).e)⟩
 | .one a=>rE Xe a
 | .and a b=>⟨Bo (rE Xe a).e (rE Xe b).e,dAnd (rE Xe a).t (rE Xe b).t⟩
 | .or a b=>⟨dOrV (rE Xe a).e (rE Xe b).e,dOr (rE Xe a).t (rE Xe b).t⟩
 | .ife c a b=>⟨dIfE (rE Xe c).t (rE Xe a).e (rE Xe b).e,fun _ _ _=>False⟩
 | .tup es=>plain (dTup (rEs Xe es))
 | .lst es=>plain (dLst (rEs Xe es))
 | .ix a b=>plain (d2 iOp (rE Xe a).e (rE Xe b).e)
 | .sl a lo hi=>plain (dSl (rE Xe a).e (rO Xe lo) (rO Xe hi))
 | .lrng es=>plain (dCB Be (rEs Xe es))
 | .call _ S es=>plain (Zl S Xe (rEs Xe es))
 | .callv i alts es=>plain (Y3 alts i Xe (rEs Xe es))
 | .bi b es=>plain (dCB (GV b) (rEs Xe es))
 | .app i e=>plain (dApp (dVar i) (rE Xe e).e)
 | .ext i e=>plain (dExt (dVar i) (rE Xe e).e)
 | .rem i e=>plain (dRem (dVar i) (rE Xe e).e)
 | .ins i a e=>plain (dIns (dVar i) (rE Xe a).e (rE Xe e).e)
 | .comp _ n g it elt=>plain (YG n (rI Xe it) (rG X0 g) (rE X0 elt).e)
noncomputable def rEs (Xe:DSt->DK):CEs->DA
 | .nil=>dNil
 | .cons e es=>YY (rE Xe e).e (rEs Xe es)
noncomputable def rO (Xe:DSt->DK):CO->DO
 | .none=>Bl
 | .some e=>JM (rE Xe e).e
noncomputable def rG (Xe:DSt->DK):CG->DG
 | .name i=>Xw i
 | .tup gs=>Ym gs.len (rGs Xe gs)
 | .sub a b=>GQ (rE Xe a).e (rE Xe b).e
noncomputable def rGs (Xe:DSt->DK):CGs->DGs
 | .nil=>GR
 | .cons g gs=>Ec (rG Xe g) (rGs Xe gs)
noncomputable def rI (Xe:DSt->DK):CI->DI
 | .seq e=>Yn (rE Xe e).e
 | .rng es=>YE (rEs Xe es)
 | .zip es=>Z1 (rEs Xe es)
 | .enum es=>VF (rEs Xe es)
end
structure Ck where
 N:List Str
 sc:Scope
 top:Bool
 cal:Bool
noncomputable def Ck.kind (k:Ck) (x:Str):Option NameKind:=k.sc.names.lookup x
noncomputable def Ck.gl (k:Ck) (x:Str):Bool:=decide (k.kind x=some .globalImplicit)
noncomputable def Ck.vis (k:Ck) (x:Str):Bool:=decide (k.kind x=some .local) || decide (k.kind x=some .cell) || decide (k.kind x=some .free)
noncomputable def Ck.loc (k:Ck) (x:Str):Bool:=decide (k.kind x=some .local) || (k.top&&decide (k.kind x=some .cell))
noncomputable def Z4 (x:Str):Bool:=!(x==("__debug__":Str))&&!(x==("__classdict__":Str))
noncomputable def Ck.slot (k:Ck) (i:Nat) (x:Str):Bool:=decide (k.N[i]?=some x)&&k.vis x&&Z4 x
noncomputable def blkB (k:Ck) (N':List Str) (sc:Scope):Bool :=
 decide (sc.kind=.function)&&sc.names.all (fun y=>!decide (y.2=.cell))&&sc.names.all (fun y=>!decide (y.2=.local) || decide (sc.names.lookup y.1=some .local))
 && sc.names.all (fun y=>!decide (y.2=.free) || decide (k.kind y.1=some .cell) || decide (k.kind y.1=some .free))
 && (List.range k.N.length).all (fun i=>match N'[i]? with
   | some x=>match sc.names.lookup x with
    | some .free=>decide (k.N[i]?=some x)
    | some .local=>false
    | some .cell=>false
    | _=>true
   | none=>true)&&decide (k.N.length<=N'.length)&&decide N'.Nodup
mutual
noncomputable def isE (k:Ck):CE->Expr->Bool
 | .var i,e=>Yx e fun x p=>k.slot i x
 | .int i,e=>Zu e fun c q p=>qInt c fun j=>decide (i=j)
 | .bl b,e=>Zu e fun c q p=>GK c fun j=>decide (b=j)
 | .non,e=>Zu e fun c q p=>CY c (true)
 | .str x,e=>Zu e fun c q p=>qStr c fun j=>decide (x=j)
 | .glo x _,e=>Yx e fun y p=>decide (x=y)&&k.gl x&&Z4 x
 | .ty t,e=>Yx e fun y p=>decide (Wm t=y)&&k.gl y
 | .bin op a b,e=>CZ e fun x op' y p=>decide (op=op')&&isE k a x&&isE k b y
 | .neg a,e=>Vl e fun o x p=>GI o (isE k a x)
 | .not a,e=>Vl e fun o x p=>qNot o (isE k a x)
 | .cmp op a b,e=>Vm e fun x os ys p=>Yb os fun o os=>qNil os (Yb ys fun y ys=>qNil ys (decide (op=o)&&isE k a x&&isE k b y))
 | .chain op op' a b c,e=>Vm e fun x os ys p=>Yb os fun o os=>Yb os fun o' os=>qNil os (Yb ys fun y ys=>Yb ys fun z ys=>qNil ys (decide (op=o)&&decide (op'=o')&&isE k a x&&isE k b y&&isE k c z))
 | .one a,e=>WT e fun op xs pos=>Yb xs fun x xs=>qNil xs (isE k a x)
 | .and a b,e=>WT e fun op xs pos=>qAnd op (Yb xs fun x xs=>Yb xs fun y r=>isE k a x&&isE k b (.BoolOp .And (y::r) pos))
 | .or a b,e=>WT e fun op xs pos=>qOr op (Yb xs fun x xs=>Yb xs fun y r=>isE k a x&&isE k b (.BoolOp .Or (y::r) pos))
 | .ife c a b,e=>CV e fun x y z p=>isE k c x&&isE k a y&&isE k b z
 | .tup es,e=>X6 e fun xs q p=>isEs k es xs
 | .lst es,e=>GJ e fun xs p=>isEs k es xs
 | .ix a b,e=>X7 e fun x y p=>isE k a x&&isE k b y
 | .sl a lo hi,e=>X7 e fun x y p=>CU y fun l u s q=>Jn s (isE k a x&&isO k lo l&&isO k hi u)
 | .lrng es,e=>Zo e fun f xs kw pos=>Yx f fun y p=>Yb xs fun a r=>qNil r (Zo a fun f2 xs2 kw2 pos2=>Yx f2 fun z p2=>Yb xs2 fun x r2=>qNil kw2 (qNil kw (decide (y="list")&&k.gl y&&decide (z="range")&&k.gl z&&isEs k es (x::r2)&&k.cal)))
 | .callv i _ es,e=>Zo e fun f xs kw pos=>Yx f fun y p=>qNil kw (Yb xs fun a r=>k.slot i y&&isEs k es (a::r)&&k.cal)
 | .call x _ es,e=>Zo e fun f xs kw pos=>Yx f fun y p=>qNil kw (decide (x=y)&&k.gl x&&Z4 x&&isEs k es xs&&k.cal)
 | .bi b es,e=>Zo e fun f xs kw pos=>Yx f fun y p=>Yb xs fun a r=>qNil kw (decide (VL b=y)&&k.gl y&&isEs k es (a::r)&&(k.cal || quiet b))
 | .app i a,e=>Zo e fun f xs kw pos=>YW f fun o m ap=>Yx o fun x p=>Yb xs fun y r=>qNil r (qNil kw (decide (m="append")&&k.slot i x&&isE k a y&&(ap.endLine==pos.line)))
 | .ext i a,e=>Zo e fun f xs kw pos=>YW f fun o m ap=>Yx o fun x p=>Yb xs fun y r=>qNil r (qNil kw (decide (m="extend")&&k.slot i x&&isE k a y&&(ap.endLine==pos.line)))
 | .rem i a,e=>Zo e fun f xs kw pos=>YW f fun o m ap=>Yx o fun x p=>Yb xs fun y r=>qNil r (qNil kw (decide (m="remove")&&k.slot i x&&isE k a y&&(ap.endLine==pos.line)))
 | .ins i a b,e=>Zo e fun f xs kw pos=>YW f fun o m ap=>Yx o fun x p=>Yb xs fun y r=>Yb r fun z r=>qNil r (qNil kw (decide (m="insert")&&k.slot i x&&isE k a y&&isE k b z&&(ap.endLine==pos.line)))
 | .comp N' n g it elt,e=>U2 e fun y gs sc p=>Yb gs fun q gs=>qMk q fun tg iter ifs z=>qNil ifs (qNil gs (decide (z=0)&&blkB k N' sc&&decide (n=N'.length-k.N.length)&&isG ⟨N',sc,false,k.cal⟩ g tg&&isI k tg it iter&&isE ⟨N',sc,false,k.cal⟩ elt y&&k.cal))
noncomputable def isEs (k:Ck):CEs->List Expr->Bool
 | .nil,xs=>match xs with | []=>true|_=>false
 | .cons e es,xs=>match xs with|x::r=>isE k e x&&isEs k es r|_=>false
noncomputable def isO (k:Ck):CO->Option Expr->Bool
 | .none,x=>match x with|none=>true|_=>false
 | .some e,x=>match x with|some y=>isE k e y|_=>false
noncomputable def isG (k:Ck):CG->Expr->Bool
 | .name i,e=>Yx e fun x p=>decide (k.N[i]?=some x)&&k.loc x
 | .tup gs,e=>X6 e fun xs q p=>isGs k gs xs&&k.cal
 | .sub a b,e=>X7 e fun x y p=>isE k a x&&isE k b y
noncomputable def isGs (k:Ck):CGs->List Expr->Bool
 | .nil,xs=>match xs with | []=>true|_=>false
 | .cons e es,xs=>match xs with|x::r=>isG k e x&&isGs k es r|_=>false
noncomputable def isI (k:Ck) (tg:Expr):CI->Expr->Bool
 | .seq e,x=>isE k e x
 | .rng es,x=>Zo x fun f xs kw pos=>Yx f fun y p=>Yb xs fun a r=>qNil kw (decide (y="range")&&k.gl y&&isEs k es (a::r))
 | .zip es,x=>X6 tg fun te tx tp=>Zo x fun f xs kw pos=>Yx f fun y p=>Yb xs fun a r=>qNil kw (decide (y="zip")&&k.gl y&&isEs k es (a::r))
 | .enum es,x=>X6 tg fun te tx tp=>Zo x fun f xs kw pos=>Yx f fun y p=>Yb xs fun a r=>qNil kw (decide (y="enumerate")&&k.gl y&&isEs k es (a::r))
end
noncomputable def Vr (P:Str->Str->DSp->Prop) (G:Str->D->Prop):List (Str×DSp)->Prop
 | []=>True
 | a::r=>P "" a.1 a.2/\G a.1 (.fn a.1)/\Vr P G r
theorem Vq:∀ {l:List (Str×DSp)},Vr P G l->(n,S)∈l->P "" n S/\G n (.fn n)
 | [],_,h=>nomatch h
 | a::r,o,h=>by
  rcases List.mem_cons.mp h with e|h
  ·subst e;exact⟨o.1,o.2.1⟩
  ·exact Vq o.2.2 h
theorem WG (p:∀ c x S,P c x S->P' c x S) (g:∀ x d,G x d->G' x d):∀ {l:List (Str×DSp)},Vr P G l->Vr P' G' l
 | [],_=>trivial
 | a::r,o=>⟨p _ _ _ o.1,g _ _ o.2.1,WG p g o.2.2⟩
mutual
noncomputable def onE (P:Str->Str->DSp->Prop) (G:Str->D->Prop):CE->Prop
 | .var _ | .int _ | .bl _ | .non | .str _ | .ty _=>True
 | .glo x d=>G x d
 | .bin _ a b | .cmp _ a b | .and a b | .or a b | .ix a b | .ins _ a b=>onE P G a/\onE P G b
 | .neg a | .not a | .one a=>onE P G a
 | .chain _ _ a b c | .ife a b c=>onE P G a/\onE P G b/\onE P G c
 | .tup es | .lst es | .bi _ es=>onEs P G es
 | .sl a lo hi=>onE P G a/\onO P G lo/\onO P G hi
 | .lrng es=>onEs P G es
 | .call x S es=>P "" x S/\onEs P G es
 | .callv _ alts es=>Vr P G alts/\onEs P G es
 | .app _ e | .ext _ e | .rem _ e=>onE P G e
 | .comp _ _ g it elt=>onG P G g/\onI P G it/\onE P G elt
noncomputable def onEs (P:Str->Str->DSp->Prop) (G:Str->D->Prop):CEs->Prop
 | .nil=>True
 | .cons e es=>onE P G e/\onEs P G es
noncomputable def onO (P:Str->Str->DSp->Prop) (G:Str->D->Prop):CO->Prop
 | .none=>True
 | .some e=>onE P G e
noncomputable def onG (P:Str->Str->DSp->Prop) (G:Str->D->Prop):CG->Prop
 | .name _=>True
 | .tup gs=>onGs P G gs
 | .sub a b=>onE P G a/\onE P G b
noncomputable def onGs (P:Str->Str->DSp->Prop) (G:Str->D->Prop):CGs->Prop
 | .nil=>True
 | .cons g gs=>onG P G g/\onGs P G gs
noncomputable def onI (P:Str->Str->DSp->Prop) (G:Str->D->Prop):CI->Prop
 | .seq e=>onE P G e
 | .rng es=>onEs P G es
 | .zip es=>onEs P G es
 | .enum es=>onEs P G es
end
end DL
end
noncomputable section
namespace DL
open PySem PySem.Spec PyProof.Rows L2
structure CtxOk (X:Cx) (k:Ck):Prop where
 N:X.N=k.N
 nd:k.N.Nodup
 sc:∀ x κ,k.kind x=some κ->κ≠.free->X.env.kindOf x=some κ
 fr:∀ x,k.kind x=some .free->X.env.kindOf x=some .cell\/X.env.kindOf x=some .free
 fn:k.top=true->∀ x,X.fn x=true
 calm:k.cal=true->X.calm=true
 room:k.cal=true->Room 0 X.A
 hu:X.A.units+66<cLine
 blt:Blt X.mg
 po:PassesOwn (model X.prog X.w) X.A X.env X.xe
 tab:Zv X.K=true
 st:k.top=true->X.stack=X.env::X.outer/\X.env.frame=some X.env.locals
structure Sh (e:Expr):Prop where
 star:∀ env es,starEach (e::es) env=(false,eval e env)::starEach es env
 ix:J4 e
 mark:∀ op,behindInMarks op e=false
 set:∀ env x,foldedSetIterable e env x=pure x
 sub:∀ o pos env v,assign (.Subscript o e pos) env v=(do
   let ov <- holding [v] (eval o env)
   let iv <- holding [v,ov] (eval e env)
   standAt pos
   holding [v,ov,iv] (setItem ov iv v)
   release [v,ov,iv] [])
structure SdE (X:Cx) (rz:Bool) (Xe:DSt->DK) (c:CE) (e:Expr):Prop where
 pe:PE X e (lift (X.L rz Xe) (rE Xe c).e)
 pt:PT X e (Zh (X.L rz Xe) (rE Xe c).t)
 pw:∀ op vs pos,e=.BoolOp op vs pos->PW X e (Zh (X.L rz Xe) (rE Xe c).t)
 sh:Sh e
structure SdEs (X:Cx) (rz:Bool) (Xe:DSt->DK) (c:CEs) (es:List Expr):Prop where
 pa:PA X es (Zj (X.L rz Xe) (rEs Xe c))
 pl:∀ pos env,(backTo pos (starEach es env)).any (·.1)=false
 hd:∀ e r,es=e::r->Sh e/\∀ pos env,(backTo pos (starEach r env)).any (·.1)=false
structure SdG (X:Cx) (rz:Bool) (Xe:DSt->DK) (c:CG) (e:Expr):Prop where
 pg:PG X e (Zi (X.L rz Xe) (rG Xe c))
 as:∀ env es,assignEach (e::es) env=(false,assign e env)::assignEach es env
structure SdGs (X:Cx) (rz:Bool) (Xe:DSt->DK) (c:CGs) (es:List Expr):Prop where
 pg:PGs X es (Vw (X.L rz Xe) (rGs Xe c))
 len:∀ env,(assignEach es env).length=c.len
 st:∀ env,(assignEach es env).findIdx? (·.1)=none
structure SdI (X:Cx) (rz:Bool) (Xe:DSt->DK) (tg:Expr) (c:CI) (e:Expr):Prop where
 pi:PI X tg e (ZU (X.L rz Xe) (rI Xe c))
 set:∀ env x,foldedSetIterable e env x=pure x
section
variable {X:Cx} {rz:Bool} {Xe:DSt->DK} {k:Ck}
theorem CtxOk.vis (C:CtxOk X k) (h:k.vis x=true):Vis X.env.scope x:=by
 unfold Ck.vis at h;simp only[Bool.or_eq_true,decide_eq_true_eq] at h;rcases h with (h|h)|h
 ·exact .inl (C.sc x _ h %[|4])
 ·exact .inr (.inl (C.sc x _ h %[|4]))
 ·exact .inr (C.fr x h)
theorem CtxOk.gl (C:CtxOk X k) (h:k.gl x=true):Gl X x:=by
 unfold Ck.gl at h;exact C.sc x _ (of_decide_eq_true h) %[|4]
theorem CtxOk.loc (C:CtxOk X k) (h:k.loc x=true):Loc X.env.scope x/\(X.fn x=true\/X.env.scope.names.lookup x=some .local):=by
 unfold Ck.loc at h;simp only[Bool.or_eq_true,Bool.and_eq_true,decide_eq_true_eq] at h;rcases h with h|⟨h1,h⟩
 ·have:=C.sc x _ h %[|4];exact⟨.inl this,.inr this⟩
 ·exact⟨.inr (C.sc x _ h %[|4]),.inl (C.fn h1 x)⟩
theorem CtxOk.var (C:CtxOk X k) (h:k.slot i x=true):PE X (.Name x pos) (lift (X.L rz Xe) (dVar i)):=by
 unfold Ck.slot Z4 at h;simp only[Bool.and_eq_true,decide_eq_true_eq,Bool.not_eq_true'] at h;exact IL (Wq (by rw[C.N];exact h.1.1) (C.vis h.1.2) h.2.1 h.2.2)
theorem CtxOk.tvar (C:CtxOk X k) (h:k.slot i x=true):PE X (.Name x pos) (tVar i):=by
 unfold Ck.slot Z4 at h;simp only[Bool.and_eq_true,decide_eq_true_eq,Bool.not_eq_true'] at h;exact Wq (by rw[C.N];exact h.1.1) (C.vis h.1.2) h.2.1 h.2.2
theorem CtxOk.qt (C:CtxOk X k) (h:(k.cal || b)=true):X.calm=true\/b=true:=by
 cases hk:k.cal with
 | true=>exact .inl (C.calm hk)
 | false=>rw [hk] at h;exact .inr h
theorem ZH {env:Env}:∀ {names:List (Str×NameKind)} {x:Str} {κ:NameKind},names.lookup x=some κ->κ≠.free ->
  (names.map fun (n,k)=>if (k==NameKind.free&&env.scope.kind==.function&&env.kindOf n==some .cell) then (n,NameKind.cell) else (n,k)).lookup x=some κ
 | [],_,_,h,_=>by simp at h
 | (n,k)::r,x,κ,h,hne=>by
  have ih:=@ZH env r x κ;simp only[List.map_cons];rw[List.lookup_cons] at h;by_cases hc:(k==NameKind.free&&env.scope.kind==.function&&env.kindOf n==some .cell)=true
  ·rw[if_pos hc,List.lookup_cons]
   cases hx:x==n with
   | true =>
    simp only[hx] at h;cases h;simp only[Bool.and_eq_true,beq_iff_eq] at hc;exact absurd hc.1.1 hne
   | false=>simp only[hx] at h;exact ih h hne
  ·rw[if_neg hc,List.lookup_cons]
   cases hx:x==n with
   | true=>simp only[hx] at h;cases h;rfl
   | false=>simp only[hx] at h;exact ih h hne
theorem Zp {env:Env}:∀ {names:List (Str×NameKind)} {x:Str},names.lookup x=some .free ->
  (names.map fun (n,k)=>if (k==NameKind.free&&env.scope.kind==.function&&env.kindOf n==some .cell) then (n,NameKind.cell) else (n,k)).lookup x=some .cell \/
  (names.map fun (n,k)=>if (k==NameKind.free&&env.scope.kind==.function&&env.kindOf n==some .cell) then (n,NameKind.cell) else (n,k)).lookup x=some .free
 | [],_,h=>by simp at h
 | (n,k)::r,x,h=>by
  have ih:=@Zp env r x;simp only[List.map_cons];rw[List.lookup_cons] at h;by_cases hc:(k==NameKind.free&&env.scope.kind==.function&&env.kindOf n==some .cell)=true
  ·rw[if_pos hc,List.lookup_cons]
   cases hx:x==n with
   | true=>exact .inl rfl
   | false=>simp only[hx] at h;exact ih h
  ·rw[if_neg hc,List.lookup_cons]
   cases hx:x==n with
   | true=>simp only[hx] at h;cases h;exact .inr rfl
   | false=>simp only[hx] at h;exact ih h
theorem J2 (C:CtxOk X k) (h:blkB k N' sc=true):BlkOk X.N X.env N' sc/\N'.Nodup:=by
 unfold blkB at h;simp only[Bool.and_eq_true,decide_eq_true_eq,List.all_eq_true,Bool.or_eq_true,Bool.not_eq_true',decide_eq_false_iff_not] at h;obtain⟨⟨⟨⟨⟨⟨h1,h2⟩,h3⟩,h4⟩,h5⟩,h6⟩,h7⟩:=h;refine⟨⟨h1,fun y hy=>h2 y hy,fun y hy e=>(h3 y hy).resolve_left fun z=>z e,fun y hy e=>?_,fun i x hi hx κ hκ=>?_,by rw[C.N];exact h6⟩,h7⟩
 ·rcases h4 y hy with (z|z)|z
  ·exact absurd e z
  ·exact .inl (C.sc _ _ z %[|4])
  ·exact C.fr _ z
 ·have q:=h5 i (List.mem_range.mpr (by rw[<- C.N];exact hi))
  rw[hx] at q;simp only[hκ] at q;cases κ with
  | «local»=>simp at q
  | cell=>simp at q
  | free=>exact .inr (.inr ⟨rfl,by rw[C.N];exact of_decide_eq_true q⟩)
  | globalExplicit=>exact .inr (.inl rfl)
  | globalImplicit=>exact .inl rfl
theorem CtxOk.blk (C:CtxOk X k) {N':List Str} {sc:Scope} (h:blkB k N' sc=true) (cl:List (Str×Addr)) (Cn:Addr) (s:Shared) (H:Hp) (ex:List Addr):CtxOk (YA X N' sc cl Cn s H ex []) ⟨N',sc,false,k.cal⟩ :=
 ⟨rfl,(J2 C h).2,fun x κ e hne=>ZH (env:=X.env) e hne,fun x e=>Zp (env:=X.env) e,fun z=>(by cases z),C.calm,C.room,C.hu,C.blt,PassesOwn.never,C.tab,fun z=>(by cases z)⟩
end
theorem Do:∀ op vs pos,(Expr.BinOp a0 a1 a2 a3)≠.BoolOp op vs pos:=fun _ _ _ z=>nomatch z
theorem Dl {X:Cx} {a0:Expr} {a1:Operator} {a2:Expr} {a3:Pos}:∀ whole,isTrue (Expr.BinOp a0 a1 a2 a3) X.env whole=(do let v <- whole;standAt (Expr.pos (Expr.BinOp a0 a1 a2 a3));holding [v] (truthy v)):=fun _=>rfl
theorem CK:Sh (Expr.BinOp a0 a1 a2 a3):=%[|1]
theorem Wn:Sh (Expr.BoolOp a0 a1 a2):=%[|1]
theorem ZG:∀ op vs pos,(Expr.Call a0 a1 a2 a3)≠.BoolOp op vs pos:=fun _ _ _ z=>nomatch z
theorem ZE {X:Cx} {a0:Expr} {a1:List Expr} {a2:List Keyword} {a3:Pos}:∀ whole,isTrue (Expr.Call a0 a1 a2 a3) X.env whole=(do let v <- whole;standAt (Expr.pos (Expr.Call a0 a1 a2 a3));holding [v] (truthy v)):=fun _=>rfl
theorem ZC:Sh (Expr.Call a0 a1 a2 a3):=%[|1]
theorem Vj:Sh (Expr.Compare a0 a1 a2 a3):=%[|1]
theorem ZF:∀ op vs pos,(Expr.Constant a0 a1 a2)≠.BoolOp op vs pos:=fun _ _ _ z=>nomatch z
theorem ZB:Sh (Expr.Constant a0 a1 a2):=%[|1]
theorem Dn:∀ op vs pos,(Expr.IfExp a0 a1 a2 a3)≠.BoolOp op vs pos:=fun _ _ _ z=>nomatch z
theorem CJ:Sh (Expr.IfExp a0 a1 a2 a3):=%[|1]
theorem FJ:∀ op vs pos,(Expr.List a0 a1)≠.BoolOp op vs pos:=fun _ _ _ z=>nomatch z
theorem FI {X:Cx} {a0:List Expr} {a1:Pos}:∀ whole,isTrue (Expr.List a0 a1) X.env whole=(do let v <- whole;standAt (Expr.pos (Expr.List a0 a1));holding [v] (truthy v)):=fun _=>rfl
theorem Fd:Sh (Expr.List a0 a1):=%[|1]
theorem Jw:∀ op vs pos,(Expr.ListComp a0 a1 a2 a3)≠.BoolOp op vs pos:=fun _ _ _ z=>nomatch z
theorem Jv {X:Cx} {a0:Expr} {a1:List Comprehension} {a2:Scope} {a3:Pos}:∀ whole,isTrue (Expr.ListComp a0 a1 a2 a3) X.env whole=(do let v <- whole;standAt (Expr.pos (Expr.ListComp a0 a1 a2 a3));holding [v] (truthy v)):=fun _=>rfl
theorem Jh:Sh (Expr.ListComp a0 a1 a2 a3):=%[|1]
theorem UN:∀ op vs pos,(Expr.Name a0 a1)≠.BoolOp op vs pos:=fun _ _ _ z=>nomatch z
theorem UM {X:Cx} {a0:Str} {a1:Pos}:∀ whole,isTrue (Expr.Name a0 a1) X.env whole=(do let v <- whole;standAt (Expr.pos (Expr.Name a0 a1));holding [v] (truthy v)):=fun _=>rfl
theorem UC:Sh (Expr.Name a0 a1):=%[|1]
theorem Wa:∀ op vs pos,(Expr.Subscript a0 a1 a2)≠.BoolOp op vs pos:=fun _ _ _ z=>nomatch z
theorem W9 {X:Cx} {a0:Expr} {a1:Expr} {a2:Pos}:∀ whole,isTrue (Expr.Subscript a0 a1 a2) X.env whole=(do let v <- whole;standAt (Expr.pos (Expr.Subscript a0 a1 a2));holding [v] (truthy v)):=fun _=>rfl
theorem W3:Sh (Expr.Subscript a0 a1 a2):=%[|1]
theorem Dm:∀ op vs pos,(Expr.Tuple a0 a1 a2)≠.BoolOp op vs pos:=fun _ _ _ z=>nomatch z
theorem Dk {X:Cx} {a0:List Expr} {a1:Nat} {a2:Pos}:∀ whole,isTrue (Expr.Tuple a0 a1 a2) X.env whole=(do let v <- whole;standAt (Expr.pos (Expr.Tuple a0 a1 a2));holding [v] (truthy v)):=fun _=>rfl
theorem CH:Sh (Expr.Tuple a0 a1 a2):=%[|1]
theorem Am:∀ op vs pos,(Expr.UnaryOp a0 a1 a2)≠.BoolOp op vs pos:=fun _ _ _ z=>nomatch z
theorem Al {X:Cx} {a1:Expr} {a2:Pos}:∀ whole,isTrue (.UnaryOp .USub a1 a2) X.env whole=(do let v <- whole;standAt (Expr.pos (.UnaryOp .USub a1 a2));holding [v] (truthy v)):=fun _=>rfl
theorem Vi:Sh (Expr.UnaryOp a0 a1 a2):=%[|1]
theorem Yp (hr:rE Xe c=plain t) (h:PE X e (lift (X.L rz Xe) t)) (hb:∀ op vs pos,e≠.BoolOp op vs pos) (he:∀ whole,isTrue e X.env whole=(do let v <- whole;standAt e.pos;holding [v] (truthy v))) (sh:Sh e):SdE X rz Xe c e :=
 ⟨by rw[hr];exact h,by rw[hr];exact Ir h he,fun op vs pos z=>absurd z (hb op vs pos),sh⟩
theorem XB (hr:rE Xe c=⟨t,fun _ _ _=>False⟩) (h:PE X e (lift (X.L rz Xe) t)) (hb:∀ op vs pos,e≠.BoolOp op vs pos) (sh:Sh e):SdE X rz Xe c e :=
 ⟨by rw[hr];exact h,by rw[hr];exact fun pins s σ H Q I h=>by obtain⟨_,_,_,_,_,t,_⟩:=h;exact t.elim,fun op vs pos z=>absurd z (hb op vs pos),sh⟩
mutual
theorem Y8:∀ (c:CE),(∀ c x S,P c x S->P' c x S)->(∀ x d,G x d->G' x d)->onE P G c->onE P' G' c
 | .var _,_,_,_ | .int _,_,_,_ | .bl _,_,_,_ | .non,_,_,_ | .str _,_,_,_ | .ty _,_,_,_=>True.intro
 | .glo x d,p,g,h=>g x d h
 | .bin _ a b,p,g,h | .cmp _ a b,p,g,h | .and a b,p,g,h | .or a b,p,g,h | .ix a b,p,g,h | .ins _ a b,p,g,h=>⟨Y8 a p g h.1,Y8 b p g h.2⟩
 | .neg a,p,g,h | .not a,p,g,h | .one a,p,g,h=>Y8 a p g h
 | .chain _ _ a b c,p,g,h | .ife a b c,p,g,h=>⟨Y8 a p g h.1,Y8 b p g h.2.1,Y8 c p g h.2.2⟩
 | .tup es,p,g,h | .lst es,p,g,h | .bi _ es,p,g,h=>YI es p g h
 | .sl a lo hi,p,g,h=>⟨Y8 a p g h.1,Jr lo p g h.2.1,Jr hi p g h.2.2⟩
 | .lrng es,p,g,h=>YI es p g h
 | .call x S es,p,g,h=>⟨p "" x S h.1,YI es p g h.2⟩
 | .callv _ _ es,p,g,h=>⟨WG p g h.1,YI es p g h.2⟩
 | .app _ e,p,g,h | .ext _ e,p,g,h | .rem _ e,p,g,h=>Y8 e p g h
 | .comp _ _ t it elt,p,g,h=>⟨Zg t p g h.1,Js it p g h.2.1,Y8 elt p g h.2.2⟩
theorem YI:∀ (c:CEs),(∀ c x S,P c x S->P' c x S)->(∀ x d,G x d->G' x d)->onEs P G c->onEs P' G' c
 | .nil,_,_,_=>True.intro
 | .cons e es,p,g,h=>⟨Y8 e p g h.1,YI es p g h.2⟩
theorem Jr:∀ (c:CO),(∀ c x S,P c x S->P' c x S)->(∀ x d,G x d->G' x d)->onO P G c->onO P' G' c
 | .none,_,_,_=>True.intro
 | .some e,p,g,h=>Y8 e p g h
theorem Zg:∀ (c:CG),(∀ c x S,P c x S->P' c x S)->(∀ x d,G x d->G' x d)->onG P G c->onG P' G' c
 | .name _,_,_,_=>True.intro
 | .tup gs,p,g,h=>U4 gs p g h
 | .sub a b,p,g,h=>⟨Y8 a p g h.1,Y8 b p g h.2⟩
theorem U4:∀ (c:CGs),(∀ c x S,P c x S->P' c x S)->(∀ x d,G x d->G' x d)->onGs P G c->onGs P' G' c
 | .nil,_,_,_=>True.intro
 | .cons e es,p,g,h=>⟨Zg e p g h.1,U4 es p g h.2⟩
theorem Js:∀ (c:CI),(∀ c x S,P c x S->P' c x S)->(∀ x d,G x d->G' x d)->onI P G c->onI P' G' c
 | .seq e,p,g,h=>Y8 e p g h
 | .rng es,p,g,h=>YI es p g h
 | .zip es,p,g,h=>YI es p g h
 | .enum es,p,g,h=>YI es p g h
end
theorem and2 (h:(a&&b)=true):a=true/\b=true:=by
 cases a with
 | true=>exact⟨rfl,h⟩
 | false=>exact absurd h Bool.false_ne_true
theorem XH (h:Z4 x=true):(x==("__debug__":Str))=false:=by
 obtain⟨h,_⟩:=and2 (show (!(x==("__debug__":Str))&&_)=true from h)
 revert h
 cases (x==("__debug__":Str)) with
 | true=>exact fun h=>absurd h Bool.false_ne_true
 | false=>exact fun _=>rfl
mutual
theorem sE:∀ (c:CE) (rz:Bool) (Xe:DSt->DK) (k:Ck) (X:Cx) (e:Expr),CtxOk X k->onE (FnAt X) (GloAt X) c->isE k c e=true->SdE X rz Xe c e
 | .var i,rz,Xe,k,X,e,C,on,h=>by
  refine gNm e h fun x p h=>?_;exact Yp rfl (C.var (show k.slot i x=true from h)) UN UM UC
 | .int i,rz,Xe,k,X,e,C,on,h=>by
  refine gConstant e h fun c q p h=>?_;refine gInt c h fun j h=>?_;obtain rfl:=of_decide_eq_true (show decide (i=j)=true from h);exact XB rfl (Ww HH fun H=>.int _) ZF ZB
 | .bl i,rz,Xe,k,X,e,C,on,h=>by
  refine gConstant e h fun c q p h=>?_;refine gBool c h fun j h=>?_;obtain rfl:=of_decide_eq_true (show decide (i=j)=true from h);exact XB rfl (Ww Kt fun H=>.bl _) ZF ZB
 | .non,rz,Xe,k,X,e,C,on,h=>by
  refine gConstant e h fun c q p h=>?_;refine gCnone c h fun h=>?_;exact XB rfl (Ww HF fun H=>.non) ZF ZB
 | .str i,rz,Xe,k,X,e,C,on,h=>by
  refine gConstant e h fun c q p h=>?_;refine gStr c h fun j h=>?_;obtain rfl:=of_decide_eq_true (show decide (i=j)=true from h);exact XB rfl (Ww Da fun H=>.str _) ZF ZB
 | .glo x d,rz,Xe,k,X,e,C,on,h=>by
  refine gNm e h fun y p h=>?_;obtain⟨h1,h3⟩:=and2 (show (_&&Z4 x)=true from h);obtain⟨h1,h2⟩:=and2 (show (decide (x=y)&&k.gl x)=true from h1);obtain rfl:=of_decide_eq_true h1;obtain⟨u,v,e1,e2,e3⟩:=(show GloAt X _ d from on).ex;exact Yp rfl (Ww (Fs (C.gl h2) e1 e2 (XH h3)) e3) UN UM UC
 | .ty t,rz,Xe,k,X,e,C,on,h=>by
  refine gNm e h fun y p h=>?_;obtain⟨h1,h2⟩:=and2 (show (decide (Wm t=y)&&k.gl y)=true from h);obtain rfl:=of_decide_eq_true h1;exact Yp rfl (KN t C.blt (C.gl h2)) UN UM UC
 | .bin op a b,rz,Xe,k,X,e,C,on,h=>by
  refine gBinOp e h fun x op' y p h=>?_;obtain⟨h1,h3⟩:=and2 (show (_&&isE k b y)=true from h);obtain⟨h1,h2⟩:=and2 (show (decide (op=op')&&isE k a x)=true from h1);obtain rfl:=of_decide_eq_true h1;exact Yp rfl (IV (op_b op) (sE a rz Xe k X _ C on.1 h2).pe (sE b rz Xe k X _ C on.2 h3).pe) Do Dl CK
 | .neg a,rz,Xe,k,X,e,C,on,h=>by
  refine gUnaryOp e h fun o x p h=>?_;refine gUSub o h fun h=>?_;exact Yp rfl (IP (sE a rz Xe k X _ C on h).pe) Am Al Vi
 | .not a,rz,Xe,k,X,e,C,on,h=>by
  refine gUnaryOp e h fun o x p h=>?_;refine gNot o h fun h=>?_;have s:=sE a rz Xe k X x C on h;exact⟨IO s.pe,Iu s.pt,fun _ _ _ z=>(nomatch z),Vi⟩
 | .cmp op a b,rz,Xe,k,X,e,C,on,h=>by
  refine gCompare e h fun x os ys p h=>?_;refine Y9 os h fun o os h=>?_;refine gNil os h fun h=>?_;refine Y9 ys h fun y ys h=>?_;refine gNil ys h fun h=>?_;obtain⟨h1,h3⟩:=and2 (show (_&&isE k b y)=true from h);obtain⟨h1,h2⟩:=and2 (show (decide (op=o)&&isE k a x)=true from h1);obtain rfl:=of_decide_eq_true h1;have s1:=sE a rz Xe k X _ C on.1 h2;have s2:=sE b rz Xe k X _ C on.2 h3;exact⟨IU C.hu s1.pe s2.pe (s2.sh.mark op),Iv C.hu s1.pe s2.pe (s2.sh.mark op),fun _ _ _ z=>(nomatch z),Vj⟩
 | .chain op op' a b c,rz,Xe,k,X,e,C,on,h=>by
  refine gCompare e h fun x os ys p h=>?_;refine Y9 os h fun o os h=>?_;refine Y9 os h fun o' os h=>?_;refine gNil os h fun h=>?_;refine Y9 ys h fun y ys h=>?_;refine Y9 ys h fun z ys h=>?_;refine gNil ys h fun h=>?_;obtain⟨h1,h4⟩:=and2 (show (_&&isE k c z)=true from h);obtain⟨h1,h3⟩:=and2 (show (_&&isE k b y)=true from h1);obtain⟨h1,h2⟩:=and2 (show (_&&isE k a x)=true from h1);obtain⟨h1,h0⟩:=and2 (show (decide (op=o)&&decide (op'=o'))=true from h1);obtain rfl:=of_decide_eq_true h1;obtain rfl:=of_decide_eq_true h0;have s1:=sE a rz Xe k X _ C on.1 h2;have s2:=sE b rz Xe k X _ C on.2.1 h3;have s3:=sE c rz Xe k X _ C on.2.2 h4;exact⟨EC C.hu s1.pe s2.pe s3.pe (s3.sh.mark op'),Ep C.hu s1.pe s2.pe s3.pe (s3.sh.mark op'),fun _ _ _ z=>(nomatch z),Vj⟩
 | .one a,rz,Xe,k,X,e,C,on,h=>by
  refine gBoolOp e h fun op xs pos h=>?_;refine Y9 xs h fun x xs h=>?_;refine gNil xs h fun h=>?_;have s:=sE a rz Xe k X _ C on (show isE k a x=true from h);have w:PW X (.BoolOp op [x] pos) (Zh (X.L rz Xe) (rE Xe a).t):=by
   cases op with
   | And=>exact Fk s.pt
   | Or=>exact Ho s.pt
  exact⟨HD s.pe,w.pt,fun _ _ _ z=>by cases z;exact w,Wn⟩
 | .and a b,rz,Xe,k,X,e,C,on,h=>by
  refine gBoolOp e h fun op xs pos h=>?_;refine gAnd op h fun h=>?_;refine Y9 xs h fun x xs h=>?_;refine Y9 xs h fun y r h=>?_;obtain⟨h1,h2⟩:=and2 (show (isE k a x&&isE k b (.BoolOp .And (y::r) pos))=true from h);have s1:=sE a rz Xe k X _ C on.1 h1;have s2:=sE b rz Xe k X _ C on.2 h2;have w:=Iq s1.pt (s2.pw _ _ _ rfl);exact⟨IX s1.pe s2.pe,w.pt,fun _ _ _ z=>by cases z;exact w,Wn⟩
 | .or a b,rz,Xe,k,X,e,C,on,h=>by
  refine gBoolOp e h fun op xs pos h=>?_;refine gOr op h fun h=>?_;refine Y9 xs h fun x xs h=>?_;refine Y9 xs h fun y r h=>?_;obtain⟨h1,h2⟩:=and2 (show (isE k a x&&isE k b (.BoolOp .Or (y::r) pos))=true from h);have s1:=sE a rz Xe k X _ C on.1 h1;have s2:=sE b rz Xe k X _ C on.2 h2;have w:=KK s1.pt (s2.pw _ _ _ rfl);exact⟨KP s1.pe s2.pe,w.pt,fun _ _ _ z=>by cases z;exact w,Wn⟩
 | .ife c a b,rz,Xe,k,X,e,C,on,h=>by
  refine gIfExp e h fun x y z p h=>?_;obtain⟨h1,h3⟩:=and2 (show (_&&isE k b z)=true from h);obtain⟨h1,h2⟩:=and2 (show (isE k c x&&isE k a y)=true from h1);exact XB rfl (IS (sE c rz Xe k X _ C on.1 h1).pt (sE a rz Xe k X _ C on.2.1 h2).pe (sE b rz Xe k X _ C on.2.2 h3).pe) Dn CJ
 | .tup es,rz,Xe,k,X,e,C,on,h=>by
  refine gTuple e h fun xs q p h=>?_;exact Yp rfl (IM (sEs es rz Xe k X _ C on h).pa) Dm Dk CH
 | .lst es,rz,Xe,k,X,e,C,on,h=>by
  refine gList e h fun xs p h=>?_;exact Yp rfl (IQ (sEs es rz Xe k X _ C on h).pa) FJ FI Fd
 | .ix a b,rz,Xe,k,X,e,C,on,h=>by
  refine gSubscript e h fun x y p h=>?_;obtain⟨h1,h2⟩:=and2 (show (isE k a x&&isE k b y)=true from h);have s2:=sE b rz Xe k X _ C on.2 h2;exact Yp rfl (KQ (sE a rz Xe k X _ C on.1 h1).pe s2.pe s2.sh.ix) Wa W9 W3
 | .sl a lo hi,rz,Xe,k,X,e,C,on,h=>by
  refine gSubscript e h fun x y p h=>?_;refine gSlice y h fun l u s q h=>?_;refine gNone s h fun h=>?_;obtain⟨h1,h3⟩:=and2 (show (_&&isO k hi u)=true from h);obtain⟨h1,h2⟩:=and2 (show (isE k a x&&isO k lo l)=true from h1);exact Yp rfl (KO (sE a rz Xe k X _ C on.1 h1).pe (sO lo rz Xe k X _ C on.2.1 h2) (sO hi rz Xe k X _ C on.2.2 h3)) Wa W9 W3
 | .lrng es,rz,Xe,k,X,e,C,on,h=>by
  refine gCall e h fun f xs kw pos h=>?_;refine gNm f h fun y p h=>?_;refine Y9 xs h fun a r h=>?_;refine gNil r h fun h=>?_;refine gCall a h fun f2 xs2 kw2 pos2 h=>?_;refine gNm f2 h fun z p2 h=>?_;refine Y9 xs2 h fun x r2 h=>?_;refine gNil kw2 h fun h=>?_;refine gNil kw h fun h=>?_;obtain⟨h,hcal⟩:=and2 (show (_&&k.cal)=true from h);obtain⟨h1,h5⟩:=and2 (show (_&&isEs k es (x::r2))=true from h);obtain⟨h1,h4⟩:=and2 (show (_&&k.gl z)=true from h1);obtain⟨h1,h3⟩:=and2 (show (_&&decide (z="range"))=true from h1);obtain⟨h1,h2⟩:=and2 (show (decide (y="list")&&k.gl y)=true from h1);obtain rfl:=of_decide_eq_true h1;obtain rfl:=of_decide_eq_true h3;have s:=sEs es rz Xe k X _ C on h5;exact Yp rfl (Gj (C.calm hcal) (C.gl h2) C.blt.lis (C.gl h4) C.blt.range s.pa ((s.hd _ _ rfl).1.star _ _) ((s.hd _ _ rfl).2 _ _)) ZG ZE ZC
 | .call x S es,rz,Xe,k,X,e,C,on,h=>by
  refine gCall e h fun f xs kw pos h=>?_;refine gNm f h fun y p h=>?_;refine gNil kw h fun h=>?_;obtain⟨h,hcal⟩:=and2 (show (_&&k.cal)=true from h);obtain⟨h1,h4⟩:=and2 (show (_&&isEs k es xs)=true from h);obtain⟨h1,h3⟩:=and2 (show (_&&Z4 x)=true from h1);obtain⟨h1,h2⟩:=and2 (show (decide (x=y)&&k.gl x)=true from h1);obtain rfl:=of_decide_eq_true h1;have s:=sEs es rz Xe k X _ C on.2 h4;refine Yp rfl ?_ ZG ZE ZC;cases xs with
  | nil =>
   cases es with
   | nil=>exact EE (C.calm hcal) on.1 (C.gl h2) (XH h3)
   | cons _ _=>exact absurd h4 Bool.false_ne_true
  | cons a r=>exact Gm (C.calm hcal) on.1 (C.gl h2) s.pa (XH h3) ((s.hd a r rfl).1.star _ _) ((s.hd a r rfl).2 _ _)
 | .callv i alts es,rz,Xe,k,X,e,C,on,h=>by
  refine gCall e h fun f xs kw pos h=>?_;refine gNm f h fun y p h=>?_;refine gNil kw h fun h=>?_;refine Y9 xs h fun a r h=>?_;obtain⟨h,hcal⟩:=and2 (show (_&&k.cal)=true from h);obtain⟨h1,h4⟩:=and2 (show (k.slot i y&&isEs k es (a::r))=true from h);have s:=sEs es rz Xe k X _ C on.2 h4;exact Yp rfl (ED (C.calm hcal) (fun n S m=>Vq on.1 m) (C.tvar h1) s.pa ((s.hd a r rfl).1.star _ _) ((s.hd a r rfl).2 _ _)) ZG ZE ZC
 | .bi b es,rz,Xe,k,X,e,C,on,h=>by
  refine gCall e h fun f xs kw pos h=>?_;refine gNm f h fun y p h=>?_;refine Y9 xs h fun a r h=>?_;refine gNil kw h fun h=>?_;obtain⟨h,hq⟩:=and2 (show (_&&(k.cal || quiet b))=true from h);obtain⟨h1,h3⟩:=and2 (show (_&&isEs k es (a::r))=true from h);obtain⟨h1,h2⟩:=and2 (show (decide (VL b=y)&&k.gl y)=true from h1);obtain rfl:=of_decide_eq_true h1;have s:=sEs es rz Xe k X _ C on h3;exact Yp rfl (KR b C.tab C.blt (C.qt hq) (C.gl h2) s.pa ((s.hd _ _ rfl).1.star _ _) ((s.hd _ _ rfl).2 _ _)) ZG ZE ZC
 | .app i a,rz,Xe,k,X,e,C,on,h=>by
  refine gCall e h fun f xs kw pos h=>?_;refine gAttribute f h fun o m ap h=>?_;refine gNm o h fun x p h=>?_;refine Y9 xs h fun y r h=>?_;refine gNil r h fun h=>?_;refine gNil kw h fun h=>?_;obtain⟨h1,h4⟩:=and2 (show (_&&(ap.endLine==pos.line))=true from h);obtain⟨h1,h3⟩:=and2 (show (_&&isE k a y)=true from h1);obtain⟨h1,h2⟩:=and2 (show (decide (m="append")&&k.slot i x)=true from h1);obtain rfl:=of_decide_eq_true h1;have s:=sE a rz Xe k X _ C on h3;exact Yp rfl (IW (C.var h2) s.pe rfl (fun es=>s.sh.star _ es) h4) ZG ZE ZC
 | .ext i a,rz,Xe,k,X,e,C,on,h=>by
  refine gCall e h fun f xs kw pos h=>?_;refine gAttribute f h fun o m ap h=>?_;refine gNm o h fun x p h=>?_;refine Y9 xs h fun y r h=>?_;refine gNil r h fun h=>?_;refine gNil kw h fun h=>?_;obtain⟨h1,h4⟩:=and2 (show (_&&(ap.endLine==pos.line))=true from h);obtain⟨h1,h3⟩:=and2 (show (_&&isE k a y)=true from h1);obtain⟨h1,h2⟩:=and2 (show (decide (m="extend")&&k.slot i x)=true from h1);obtain rfl:=of_decide_eq_true h1;have s:=sE a rz Xe k X _ C on h3;exact Yp rfl (IT (C.var h2) s.pe rfl (fun es=>s.sh.star _ es) h4) ZG ZE ZC
 | .rem i a,rz,Xe,k,X,e,C,on,h=>by
  refine gCall e h fun f xs kw pos h=>?_;refine gAttribute f h fun o m ap h=>?_;refine gNm o h fun x p h=>?_;refine Y9 xs h fun y r h=>?_;refine gNil r h fun h=>?_;refine gNil kw h fun h=>?_;obtain⟨h1,h4⟩:=and2 (show (_&&(ap.endLine==pos.line))=true from h);obtain⟨h1,h3⟩:=and2 (show (_&&isE k a y)=true from h1);obtain⟨h1,h2⟩:=and2 (show (decide (m="remove")&&k.slot i x)=true from h1);obtain rfl:=of_decide_eq_true h1;have s:=sE a rz Xe k X _ C on h3;exact Yp rfl (IN C.hu (C.var h2) s.pe rfl (fun es=>s.sh.star _ es) h4) ZG ZE ZC
 | .ins i a b,rz,Xe,k,X,e,C,on,h=>by
  refine gCall e h fun f xs kw pos h=>?_;refine gAttribute f h fun o m ap h=>?_;refine gNm o h fun x p h=>?_;refine Y9 xs h fun y r h=>?_;refine Y9 r h fun z r h=>?_;refine gNil r h fun h=>?_;refine gNil kw h fun h=>?_;obtain⟨h1,h5⟩:=and2 (show (_&&(ap.endLine==pos.line))=true from h);obtain⟨h1,h4⟩:=and2 (show (_&&isE k b z)=true from h1);obtain⟨h1,h3⟩:=and2 (show (_&&isE k a y)=true from h1);obtain⟨h1,h2⟩:=and2 (show (decide (m="insert")&&k.slot i x)=true from h1);obtain rfl:=of_decide_eq_true h1;have s:=sE a rz Xe k X _ C on.1 h3;have s2:=sE b rz Xe k X _ C on.2 h4;exact Yp rfl (IR (C.var h2) s.pe s2.pe rfl (fun es=>s.sh.star _ es) (fun es=>s2.sh.star _ es) h5) ZG ZE ZC
 | .comp N' n g it elt,rz,Xe,k,X,e,C,on,h=>by
  refine gListComp e h fun y gs sc p h=>?_;refine Y9 gs h fun q gs h=>?_;refine gMk q h fun tg iter ifs z h=>?_;refine gNil ifs h fun h=>?_;refine gNil gs h fun h=>?_;obtain⟨h,hcal⟩:=and2 (show (_&&k.cal)=true from h);obtain⟨h,h5⟩:=and2 (show (_&&isE ⟨N',sc,false,k.cal⟩ elt y)=true from h);obtain⟨h,h4⟩:=and2 (show (_&&isI k tg it iter)=true from h);obtain⟨h,h3⟩:=and2 (show (_&&isG ⟨N',sc,false,k.cal⟩ g tg)=true from h);obtain⟨h,h2⟩:=and2 (show (_&&decide (n=N'.length-k.N.length))=true from h);obtain⟨h,h1⟩:=and2 (show (decide (z=0)&&blkB k N' sc)=true from h);obtain rfl:=of_decide_eq_true h;obtain rfl:=of_decide_eq_true h2;have si:=sI it rz Xe k X tg _ C on.2.1 h4;refine Yp (t:=YG (N'.length-k.N.length) (rI Xe it) (rG X0 g) (rE X0 elt).e) rfl ?_ Jw Jv Jh;rw[<- C.N];exact Gk (C.calm hcal) (J2 C h1).1 si.pi (fun cl Cn s H ex=>⟨(sG g false X0 ⟨N',_,false,k.cal⟩ (YA X N' _ cl Cn s H ex []) _ (C.blk h1 cl Cn s H ex) (Zg g (fun c x S F=>⟨F.ex⟩) (fun x d F=>⟨F.ex⟩) on.1) h3).pg,
   (sE elt false X0 ⟨N',_,false,k.cal⟩ (YA X N' _ cl Cn s H ex []) _ (C.blk h1 cl Cn s H ex) (Y8 elt (fun c x S F=>⟨F.ex⟩) (fun x d F=>⟨F.ex⟩) on.2.2) h5).pe⟩) (si.set _)
theorem sEs:∀ (c:CEs) (rz:Bool) (Xe:DSt->DK) (k:Ck) (X:Cx) (es:List Expr),CtxOk X k->onEs (FnAt X) (GloAt X) c->isEs k c es=true->SdEs X rz Xe c es
 | .nil,rz,Xe,k,X,es,C,on,h=>by
  cases es with
  | nil=>exact⟨Wx,fun _ _=>rfl,fun _ _ z=>nomatch z⟩
  | cons _ _=>exact absurd h Bool.false_ne_true
 | .cons e es,rz,Xe,k,X,xs,C,on,h=>by
  cases xs with
  | nil=>exact absurd h Bool.false_ne_true
  | cons x r =>
   obtain⟨h1,h2⟩:=and2 (show (isE k e x&&isEs k es r)=true from h);have s1:=sE e rz Xe k X _ C on.1 h1;have s2:=sEs es rz Xe k X _ C on.2 h2;refine⟨ZM s1.pe s2.pa (s1.sh.star _ _),fun pos env=>?_,fun _ _ z=>by cases z;exact⟨s1.sh,s2.pl⟩⟩;rw[s1.sh.star];show (false || _)=false;rw[Bool.false_or];exact s2.pl pos env
theorem sO:∀ (c:CO) (rz:Bool) (Xe:DSt->DK) (k:Ck) (X:Cx) (e:Option Expr),CtxOk X k->onO (FnAt X) (GloAt X) c->isO k c e=true->PO X e (Jz (X.L rz Xe) (rO Xe c))
 | .none,rz,Xe,k,X,e,C,on,h=>by
  cases e with
  | none=>exact Gf
  | some _=>exact absurd h Bool.false_ne_true
 | .some c,rz,Xe,k,X,e,C,on,h=>by
  cases e with
  | none=>exact absurd h Bool.false_ne_true
  | some e=>exact Ge (sE c rz Xe k X _ C on h).pe
theorem sG:∀ (c:CG) (rz:Bool) (Xe:DSt->DK) (k:Ck) (X:Cx) (e:Expr),CtxOk X k->onG (FnAt X) (GloAt X) c->isG k c e=true->SdG X rz Xe c e
 | .name i,rz,Xe,k,X,e,C,on,h=>by
  refine gNm e h fun x p h=>?_;obtain⟨h1,h2⟩:=and2 (show (decide (k.N[i]?=some x)&&k.loc x)=true from h);exact⟨Gi (by rw[C.N];exact C.nd) (by rw[C.N];exact of_decide_eq_true h1) (C.loc h2).1 (C.loc h2).2,fun _ _=>rfl⟩
 | .tup gs,rz,Xe,k,X,e,C,on,h=>by
  refine gTuple e h fun xs q p h=>?_;obtain⟨h,hcal⟩:=and2 (show (_&&k.cal)=true from h);have s:=sGs gs rz Xe k X _ C on (show isGs k gs xs=true from h);exact⟨II (C.calm hcal) s.pg (s.len _) (s.st _),fun _ _=>rfl⟩
 | .sub a b,rz,Xe,k,X,e,C,on,h=>by
  refine gSubscript e h fun x y p h=>?_;obtain⟨h1,h2⟩:=and2 (show (isE k a x&&isE k b y)=true from h);have s2:=sE b rz Xe k X _ C on.2 h2;exact⟨IJ (sE a rz Xe k X _ C on.1 h1).pe s2.pe (fun v=>s2.sh.sub _ _ _ v),fun _ _=>rfl⟩
theorem sGs:∀ (c:CGs) (rz:Bool) (Xe:DSt->DK) (k:Ck) (X:Cx) (es:List Expr),CtxOk X k->onGs (FnAt X) (GloAt X) c->isGs k c es=true->SdGs X rz Xe c es
 | .nil,rz,Xe,k,X,es,C,on,h=>by
  cases es with
  | nil=>exact⟨Gh,fun _=>rfl,fun _=>rfl⟩
  | cons _ _=>exact absurd h Bool.false_ne_true
 | .cons e es,rz,Xe,k,X,xs,C,on,h=>by
  cases xs with
  | nil=>exact absurd h Bool.false_ne_true
  | cons x r =>
   obtain⟨h1,h2⟩:=and2 (show (isG k e x&&isGs k es r)=true from h);have s1:=sG e rz Xe k X _ C on.1 h1;have s2:=sGs es rz Xe k X _ C on.2 h2;refine⟨Ez s1.pg s2.pg (by rw[s1.as];rfl),fun env=>?_,fun env=>?_⟩
   ·rw[s1.as,List.length_cons,s2.len];rfl
   ·rw[s1.as,List.findIdx?_cons]
    simp[s2.st]
theorem sI:∀ (c:CI) (rz:Bool) (Xe:DSt->DK) (k:Ck) (X:Cx) (tg e:Expr),CtxOk X k->onI (FnAt X) (GloAt X) c->isI k tg c e=true->SdI X rz Xe tg c e
 | .seq c,rz,Xe,k,X,tg,e,C,on,h =>
  have s:=sE c rz Xe k X e C on h
  ⟨IG s.pe,s.sh.set⟩
 | .rng es,rz,Xe,k,X,tg,e,C,on,h=>by
  refine gCall e h fun f xs kw pos h=>?_;refine gNm f h fun y p h=>?_;refine Y9 xs h fun a r h=>?_;refine gNil kw h fun h=>?_;obtain⟨h1,h3⟩:=and2 (show (_&&isEs k es (a::r))=true from h);obtain⟨h1,h2⟩:=and2 (show (decide (y="range")&&k.gl y)=true from h1);obtain rfl:=of_decide_eq_true h1;have s:=sEs es rz Xe k X _ C on h3;exact⟨IH (C.gl h2) C.blt.range s.pa ((s.hd _ _ rfl).1.star _ _) ((s.hd _ _ rfl).2 _ _),fun _ _=>rfl⟩
 | .zip es,rz,Xe,k,X,tg,e,C,on,h=>by
  refine gTuple tg h fun te tx tp h=>?_;refine gCall e h fun f xs kw pos h=>?_;refine gNm f h fun y p h=>?_;refine Y9 xs h fun a r h=>?_;refine gNil kw h fun h=>?_;obtain⟨h1,h3⟩:=and2 (show (_&&isEs k es (a::r))=true from h);obtain⟨h1,h2⟩:=and2 (show (decide (y="zip")&&k.gl y)=true from h1);obtain rfl:=of_decide_eq_true h1;have s:=sEs es rz Xe k X _ C on h3;exact⟨IF (C.gl h2) C.blt.zip s.pa ((s.hd _ _ rfl).1.star _ _) ((s.hd _ _ rfl).2 _ _),fun _ _=>rfl⟩
 | .enum es,rz,Xe,k,X,tg,e,C,on,h=>by
  refine gTuple tg h fun te tx tp h=>?_;refine gCall e h fun f xs kw pos h=>?_;refine gNm f h fun y p h=>?_;refine Y9 xs h fun a r h=>?_;refine gNil kw h fun h=>?_;obtain⟨h1,h3⟩:=and2 (show (_&&isEs k es (a::r))=true from h);obtain⟨h1,h2⟩:=and2 (show (decide (y="enumerate")&&k.gl y)=true from h1);obtain rfl:=of_decide_eq_true h1;have s:=sEs es rz Xe k X _ C on h3;exact⟨Gg (C.gl h2) C.blt.enum s.pa ((s.hd _ _ rfl).1.star _ _) ((s.hd _ _ rfl).2 _ _),fun _ _=>rfl⟩
end
end DL
end
noncomputable section
namespace DL
open PySem PySem.Spec PyProof.Rows L2
theorem Jt (x:ObjOk P w H h a o):∃ ob,h.get? a=some ob:=by
 cases o with
 | lst xs=>obtain⟨_,_,_,_,e⟩:=x;exact⟨_,e⟩
 | tup xs=>obtain⟨_,_,_,ob,e,_⟩:=x;exact⟨_,e⟩
 | dK kvs=>obtain⟨_,_,_,_,ob,_,_,e,_⟩:=x;exact⟨_,e⟩
 | dT kvs=>obtain⟨_,_,_,_,ob,_,_,e,_⟩:=x;exact⟨_,e⟩
 | set S n=>obtain⟨ob,_,_,_,e,_⟩:=x;exact⟨_,e⟩
 | ins C dx fs=>obtain⟨_,_,_,e,_⟩:=x;exact⟨_,e⟩
 | own y=>exact x
 | xd fs=>obtain⟨_,⟨ob,_,_,e,_⟩,_⟩:=x;exact⟨_,e⟩
 | rng lo hi=>obtain⟨_,_,_,e⟩:=x;exact⟨_,e⟩
 | frz ob u=>exact⟨_,x.1⟩
 | tbl ps=>exact⟨_,(show h.get? a=some _ from x)⟩
 | met f y=>exact⟨_,(show h.get? a=some _ from x)⟩
 | ext φ=>exact x.2.1
theorem XZ {fs:List Addr} {H1 H':Hp} {h1 h' h2 B:Heap} (un:Un fs [] H1 H' h1 h') (old:∀ b o,h1.get? b=some o->H1 b=none->b ∉ fs->B.get? b=some o) (st:B.StaysIn h2)
  (ff:∀ b∈fs,∃ o,h'.get? b=some o/\∀ vs,o.data≠.fields vs) (nr:Near h' h2):Un fs [] H1 H' h1 h2 where
 keep:=fun b o e n hb _=>st b o (old b o e n hb)
 slot:=fun b o e n hb hx=>by
  obtain⟨sl,e1⟩:=un.slot b o e n hb hx;obtain⟨o2,e2,d2⟩:=ff b hb;rw[e1] at e2;cases e2;obtain⟨sl2,e3⟩:=nr.1 b _ e1 d2;exact⟨sl2,e3⟩
 free:=un.free
 there:=fun b o e hx=>let ⟨o',e'⟩:=un.there b o e hx;nr.2.1 b o' e'
 tups:=un.tups
 frzs:=un.frzs
 tbls:=un.tbls
section
variable {X:Cx} {pins:List (Addr×Obj)} {σ:L2.St} {H H':Hp} {s s':Shared} {e C:Addr} {dd:Option Addr}
theorem Eh (h:env.frame=some L):frs (env::l)=L::frs l:=by simp[frs,h]
theorem XG (I:L2.Inv X pins σ H s) (hex:X.ex=[]) {B:Heap} (old:∀ b o,s.heap.get? b=some o->H b=none->b ∉ frs X.stack->B.get? b=some o) :
  ∀ b o,X.s₀.heap.get? b=some o->X.H₀ b=none->b ∉ X.fs->B.get? b=some o:=fun b o e n hb=>by
 have hx:b ∉ X.ex:=by rw[hex];simp
 refine old b o (I.base.keep b o e n hb hx) (I.base.free b o e n hx) fun z=>?_;rcases List.mem_cons.mp (I.stkSub b z) with q|q
 ·exact absurd (Nat.lt_of_lt_of_le (Heap.lt_size e) I.ok.above) (by rw[q];exact Nat.lt_irrefl _)
 ·exact hb q
theorem V7 (I:L2.Inv X pins σ H s) (hex:X.ex=[]) (st:X.stack=X.env::X.outer/\X.env.frame=some X.env.locals) {h' B:Heap} (un:Un (frs X.stack) [] H H' s.heap h') (old:∀ b o,s.heap.get? b=some o->H b=none->b ∉ frs X.stack->B.get? b=some o) (hB:B.StaysIn h') :
  Un X.fs [] X.H₀ H' X.s₀.heap h':=by
 have a:Un (frs X.stack) [] X.H₀ H X.s₀.heap s.heap:=I.base.mono (fun b hb=>by rw[st.1,Eh st.2];exact List.mem_cons_of_mem _ hb) (by rw[hex];simp);have t:=a.trans un;exact⟨fun b o e n hb hx=>hB b o (XG I hex old b o e n hb),fun b o e n hb hx=>t.any e n hx,t.free,t.there,t.tups,t.frzs,t.tbls⟩
end
section
variable {P:Program} {w:World} {K:Frag} {mg:Str->Option Value} {base:Heap} {N:List Str} {qual:Str} {scope:Scope} {f:Addr} {cd:Value} {A:Around} {outer:List Env} {s:Shared} {H:Hp} {E:XK}
theorem Ct (hE:∀ n M' H' C dd x,HExt K H H'->RepM K H' M'->n∈xNames->YS K n C->ExD K H' n dd x->Ed (.exc n x) M'->E (.ref C) dd H'):XeOk (cxOf (CXR P w) P w K mg base N qual scope f cd A outer s H E) true (fun _=>Ed) H where
 fly:=fun pins σ H1 s1 H' e C dd s' δ M' n xd x I th m sl hn hc ed hx=>by
  obtain⟨B,os,bare,un,old,hokB,fl⟩:=th.ex;show wpAny _ _ _ _ _ _;refine Ca I.ok.frames rfl fl fun h' F' nr=>?_;have ff:∀ b∈frs (cxOf (CXR P w) P w K mg base N qual scope f cd A outer s H E).stack,∃ o,s'.heap.get? b=some o/\∀ vs,o.data≠.fields vs:=fun b hb=>(fl.frames.mem hb).2;exact⟨e,C,dd,H',rfl,⟨⟨B,os.trans I.os,bare,V7 I rfl ⟨rfl,rfl⟩ (XZ un old F'.stays ff nr) old F'.stays,XG I rfl old,hokB,F'⟩,fun z=>nr.2.2 _ (th.cl z)⟩,hE n M' H' C dd xd x m hn hc ed hx⟩
 back:=fun _ pins σ H1 s1 H' e C dd s' δ M' n xd x I th m sl hn hc ed hx=>by
  obtain⟨B,os,bare,un,old,hokB,fl⟩:=th.ex;show wpAny _ _ _ _ _ _;refine Aw rfl fl fun h' F' nr=>?_;have ff:∀ b∈frs (cxOf (CXR P w) P w K mg base N qual scope f cd A outer s H E).stack,∃ o,s'.heap.get? b=some o/\∀ vs,o.data≠.fields vs:=fun b hb=>(fl.frames.mem hb).2;exact⟨e,C,dd,H',rfl,⟨⟨B,os.trans I.os,bare,V7 I rfl ⟨rfl,rfl⟩ (XZ un old F'.stays ff nr) old F'.stays,XG I rfl old,hokB,F'⟩,fun z=>nr.2.2 _ (th.cl z)⟩,hE n M' H' C dd xd x m hn hc ed hx⟩
 made:=fun _ pins σ H' h e C dd s' δ M' n xd x I mk cl m sl hn hc ed hx=>by
  show wpAny _ _ _ _ _ _;have hin:∀ env∈(cxOf (CXR P w) P w K mg base N qual scope f cd A outer s H E).stack,∀ a,env.frame=some a->a∈frs (cxOf (CXR P w) P w K mg base N qual scope f cd A outer s H E).stack:=fun env he b hb=>List.mem_filterMap.mpr ⟨env,he,hb⟩;have st:(hideAll h (frs (cxOf (CXR P w) P w K mg base N qual scope f cd A outer s H E).stack)).StaysIn h:=fun b o q=>PySem.W.of_hideAll _ q;refine Ax (h:=h) (B:=hideAll h (frs (cxOf (CXR P w) P w K mg base N qual scope f cd A outer s H E).stack)) I.ok.frames rfl (PySem.W.funFrames_hide I.stack hin) st mk fun h' F' nr=>?_;have old:∀ b o,h.get? b=some o->H' b=none->b ∉ frs (cxOf (CXR P w) P w K mg base N qual scope f cd A outer s H E).stack->(hideAll h (frs (cxOf (CXR P w) P w K mg base N qual scope f cd A outer s H E).stack)).get? b=some o:=fun b o q _ hb=>PySem.W.hideAll_get _ q hb;have ff:∀ b∈frs (cxOf (CXR P w) P w K mg base N qual scope f cd A outer s H E).stack,∃ o,h.get? b=some o/\∀ vs,o.data≠.fields vs:=fun b hb=>(I.stack.mem hb).2
  have un:Un (frs (cxOf (CXR P w) P w K mg base N qual scope f cd A outer s H E).stack) [] H' H' h h':=XZ .refl old F'.stays ff ((Near.kept mk.keeps).trans nr);refine⟨e,C,dd,H',rfl,⟨⟨_,I.os,I.bare,V7 I rfl ⟨rfl,rfl⟩ un old F'.stays,XG I rfl old,fun a o q=>?_,F'⟩,fun z=>nr.2.2 _ (cl z)⟩,hE n M' H' C dd xd x m hn hc ed hx⟩;refine (I.hok a o q).stay (fun c u hc r=>PySem.W.hideAll_get _ r fun z=>?_) (fun _ q=>q) fun _ _ q=>q;have:=I.stkFree c z;rcases hc with rfl|hc
  ·rw[q] at this;cases this
  ·rw[hc] at this;cases this
end
theorem HK {K:Frag} {h:Heap} {C:Addr} {bmB:List Value} {newId:String} (X:K.In h) (q:PySem.W.excIn K C bmB newId=true) {P:Prop}
  (go:∀ bm N nm q bs hdct sn sub ab col dd k0 k1 k2 k3 k5 mN,h.get? C=some (excClassObj nm q C N bs bm hdct sn sub ab col dd k0 k1 k2 k3 k5 newId)->h.Ns N mN->mN "__init__"=none->OwnTail h bmB bm->P):P:=by
 unfold PySem.W.excIn at q;split at q
 next dd cd sl ho =>
  split at q
  next C' bm a0 a1 a2 a3 id a5 em es =>
   simp only[Bool.and_eq_true,beq_iff_eq,Bool.not_eq_true'] at q;obtain⟨⟨⟨⟨⟨z1,z2⟩,z3⟩,z4⟩,z5⟩,z6⟩:=q;obtain⟨nm,bs,mro,ns,qn,hd,sn,sub,ab,col,del⟩:=cd;have hsl:sl=#[a0,a1,a2,a3,some (.builtin newId),a5]:=by
    rw[z2] at es;rw[<- es]
   simp only at em z3 z5 z6;subst z1 em z3 hsl;exact go bm ns nm qn bs hd sn sub ab col dd a0 a1 a2 a3 a5 _ (X _ _ ho) (.of_isNs (PySem.W.isNs_of_in X z5)) (PySem.W.nsMap_none_of_in X z5 z6) (PySem.W.tail_of_in X z4)
  next=>cases q
 next=>cases q
theorem BH (h:xPlain.contains n=true):n ∉ xInit:=by
 have:∀ m∈xPlain,m ∉ xInit:=by decide
 exact this n (by simpa using h)
noncomputable def EF (n:Str) (ta:(DSt->DK)->DA):DS:=fun D δ M=>ta D.ex δ M fun ds M1=>ds.length<=sizeLine/\D.ex δ (.exc n .non) M1
section
variable {X:Cx} {x:Str} {np cpos pos:Pos} {e:Expr} {es:List Expr} {ta:(DSt->DK)->DA}
theorem Eu {C:Addr} (hr:Room 0 X.A) (tab:Zv X.K=true) (hp:xPlain.contains x=true) (hc:YS X.K x C) (hm:X.mg x=some (.ref C)) (hg:Gl X x) (hdb:(x==("__debug__":Str))=false) (ha:∀ Xe,PA X (e::es) (Zj (X.L true Xe) (ta Xe)))
  (he:starEach (e::es) X.env=(false,eval e X.env)::starEach es X.env) (hpl:(backTo cpos (starEach es X.env)).any (·.1)=false) :
  PS X (.Raise (some (.Call (.Name x np) (e::es) [] cpos)) none pos) (Yt X true (EF x ta)):=by
 rintro pins s σ H Z I ⟨δ,M,D,rs,rm,t,n,r,b,c⟩;have hn:x∈xNames:=List.mem_cons_of_mem _ (List.mem_append_left _ (by simpa using hp));have FV:=PySem.F.excBase_ValueError;refine HK (C:=C) I.ok.mod.kin ((YM tab hn hc).2.1 hp) fun bm Nn nm q bs hdct sn sub ab col dd k0 k1 k2 k3 k5 mN hC hN hni T=>?_;refine wpAny_Raise_call_subU (C:=C) (nm:=nm) (q:=q) (N:=Nn) (bs:=bs) (bm:=bm) (bmB:=bmV) (hdct:=hdct) (sn:=sn) (sub:=sub) (ab:=ab) (col:=col) (dd:=dd) (k0:=k0) (k1:=k1) (k2:=k2) (k3:=k3) (k5:=k5) FV %[|4] FV (mN:=mN)
  (T.hasType %[|4]) hr.hd (by rw[he];show (false || (backTo cpos (starEach es X.env)).any (·.1))=false;rw[hpl];rfl) hni (X9 I hg hm ⟨rfl,?_⟩ hdb)
 rw[he];refine Calls.evalArgs_plain ?_;have sp:=ha D.ex cpos pins s σ H (fun vs H1=>∃ ds M1,HExt X.K H H1/\RepM X.K H1 M1/\RelDs X.K H1 vs ds/\ds.length<=sizeLine/\D.ex δ (.exc x .non) M1) I ⟨δ,M,_,rs,rm,t,fun ds M1 vs H1 x m r h=>⟨ds,M1,x,m,r,h.1,h.2⟩⟩;rw[he] at sp;refine wpAny_mono sp (fun us s1 ⟨vs,H1,I1,r1,ds,M1,x1,m1,rd,hl,hx⟩=>⟨rfl,by rw[<- r1.length,rd.length];exact hl,I1.bk _ _ hC,hN.keeps I1.bk,T.keeps I1.bk,fun h' e0 mk=>?_⟩) fun _ _ z=>z;exact rs.ok.made rfl pins σ H1 s1.heap e0 C none {s1 with heap:=h'} δ M1 x .non x1 I1 (Made.of mk) (fun _=>AA mk) m1 (rs.toSlots.ext x1) hn hc (.plain (BH hp)) hx
end
noncomputable def WZ (n:Str) (ta:(DSt->DK)->DA):DS:=fun D δ M=>ta D.ex δ M fun ds M1=>∃ x,ds=[x]/\D.ex δ (.exc n x) M1
section
variable {X:Cx} {x:Str} {np cpos pos:Pos} {e:Expr} {es:List Expr} {ta:(DSt->DK)->DA}
theorem Cg (hr:Room 0 X.A) (tab:Zv X.K=true) (hp:xInit.contains x=true) (hc:YS X.K x C) (hm:X.mg x=some (.ref C)) (hg:Gl X x) (hdb:(x==("__debug__":Str))=false) (ha:∀ Xe,PA X (e::es) (Zj (X.L true Xe) (ta Xe)))
  (he:starEach (e::es) X.env=(false,eval e X.env)::starEach es X.env) (hpl:(backTo cpos (starEach es X.env)).any (·.1)=false) :
  PS X (.Raise (some (.Call (.Name x np) (e::es) [] cpos)) none pos) (Yt X true (WZ x ta)):=by
 rintro pins s σ H Z I ⟨δ,M,D,rs,rm,t,n,r,b,c⟩;have hi:x∈xInit:=by simpa using hp
 have hn:x∈xNames:=List.mem_cons_of_mem _ (List.mem_append_right _ hi);have FV:=PySem.F.excBase_ValueError;obtain⟨Bc,fI,T⟩:=DW tab hi hc;refine Bf (C:=C) I.ok.mod.kin T.ex fun bm Nn nm q bs sn sub ab col dd k0 k1 k2 k3 k5 mN hC hN hni OT cd hci hdc hpm=>?_;obtain⟨oI,hfK,hfc⟩:∃ oI,X.K.lookup fI=some oI/\oI.cls=.type "function":=by
  have tf:=T.fn;unfold UT at tf;split at tf
  next lk=>exact⟨_,lk,rfl⟩
  next=>cases tf
 have hmB:X.mg "CordError"=some (.ref Bc):=by
  have e:=T.b;unfold XR at e;split at e
  next q=>cases e;exact PySem.W.mg_of I.ok.mod.kin I.ok.mod.glob q
  next=>cases e
 refine Wo (C:=C) (nm:=nm) (q:=q) (N:=Nn) (bs:=bs) (bm:=bm) (bmB:=bmV) (hdct:=true) (sn:=sn) (sub:=sub) (ab:=ab) (col:=col) (dd:=dd) (k0:=k0) (k1:=k1) (k2:=k2) (k3:=k3) (k5:=k5) (fI:=fI) FV %[|4] FV (mN:=mN)
  (OT.hasType %[|4]) hr.hd (by rw[he];show (false || (backTo cpos (starEach es X.env)).any (·.1))=false;rw[hpl];rfl) hni (X9 I hg hm ⟨rfl,?_⟩ hdb)
 rw[he];refine Calls.evalArgs_plain ?_;have sp:=ha D.ex cpos pins s σ H (fun vs H1=>∃ ds M1,HExt X.K H H1/\RepM X.K H1 M1/\RelDs X.K H1 vs ds/\∃ x0,ds=[x0]/\D.ex δ (.exc x x0) M1) I ⟨δ,M,_,rs,rm,t,fun ds M1 vs H1 x m r h=>⟨ds,M1,x,m,r,h⟩⟩;rw[he] at sp;refine wpAny_mono sp (fun us s1 hq1=>?_) fun _ _ z=>z;obtain⟨vs,H1,I1,r1,ds,M1,x1,m1,rd,x0,rfl,hx⟩:=hq1;obtain⟨v1,rfl,rx⟩:∃ v1,vs=[v1]/\RelD X.K H1 v1 x0:=by cases rd with|cons a b=>cases b;exact⟨_,rfl,a⟩
 obtain⟨u1,rfl,ru⟩:∃ u1,us=[u1]/\RelV v1 u1:=by cases r1 with|cons a b=>cases b;exact⟨_,rfl,a⟩
 refine⟨rfl,by show 1<=sizeLine;simp[sizeLine_eq],I1.bk _ _ hC,hN.keeps I1.bk,OT.keeps I1.bk,⟨oI,I1.kIn _ _ hfK,hfc⟩,fun h' e0 mk=>?_⟩;have ne1:∀ b o,s1.heap.get? b=some o->b≠e0:=fun b o q z=>by rw[z,mk.new] at q;cases q
 have H1e:H1 e0=none:=by
  cases q:H1 e0 with
  | none=>rfl
  | some u=>obtain⟨ob,z⟩:=Jt (I1.hok e0 u q);exact absurd rfl (ne1 _ _ z)
 have J:L2.Inv X pins σ H1 {s1 with heap:=h'}:=I1.call' (s':={s1 with heap:=h'}) (ch:=[]) rfl (Un.kept mk.keeps) (I1.hok.kept mk.keeps) I1.bare (fun b hb=>by cases hb);obtain⟨t0,q1,_,_⟩:=mk.there;refine wpAny_call (CN T (YM tab hn hc).1.obj hmB (by rw[L2.make_depth];have:=hr.dp;omega) (J.env0.make C [u1] []) q1 rfl rfl rfl rfl rfl rfl H1e ?_ (fun z=>?_) ru fun s3 E3=>⟨rfl,?_⟩)
 ·cases q:X.base.get? e0 with
  | none=>rfl
  | some o=>exact absurd rfl (ne1 _ _ (I1.bk _ _ q))
 ·obtain⟨_,o,q,_⟩:=I1.stack.mem z
  exact absurd rfl (ne1 _ _ q)
 refine E3.on fun ob ws d u a1 a2 a3 a4 a5 aC aZ a6 a7 a8 a9=>?_;have dn:∀ b o,s1.heap.get? b=some o->b≠d:=fun b o q z=>by
  have:=Heap.lt_size (mk.keeps b o q);rw[z] at this;exact absurd (Nat.lt_of_lt_of_le this a8) (Nat.lt_irrefl _)
 have de:d≠e0:=fun z=>by
  have:=Heap.lt_size q1;rw[<- z] at this;exact absurd (Nat.lt_of_lt_of_le this a8) (Nat.lt_irrefl _)
 have C3:s3.heap.get? C=some (excClassObj nm q C Nn bs bm true sn sub ab col dd k0 k1 k2 k3 k5 "ValueError.__new__"):=by
  have bC:=I1.bk _ _ hC;refine E3.un.keep C _ (mk.keeps _ _ bC) (I1.bs _ _ hC).2 (fun z=>?_) (by simpa using ne1 _ _ bC);have:=(I1.stack.mem z).1;rw[hC] at this;cases this
 refine⟨ob,ws,C3,a1,a2,a4,a5,?_⟩;have x5:HExt X.K H1 (upd H1 d (.ext (WM d (Yu x) v1))):=.upd (.inl a9);have m5:RepM X.K (upd H1 d (.ext (WM d (Yu x) v1))) M1:=fun a o q=>(m1 a o q).ext x5 fun z=>by subst z;exact absurd a9 (m1 a o q).fresh
 have neH:∀ b u,H1 b=some u->b≠d:=fun b u q z=>by rw[z,a9] at q;cases q
 have hid:∀ b o,b≠e0->s3.heap.get? b=some o->(hideAll s3.heap [e0]).get? b=some o:=fun b o n q=>PySem.W.hideAll_get _ q (by simpa using n);have un5:Un (frs X.stack) [] H1 (upd H1 d (.ext (WM d (Yu x) v1))) s1.heap (hideAll s3.heap [e0]):={
  keep:=fun b o q nn hf _=>hid b o (ne1 b o q) (E3.un.keep b o (mk.keeps b o q) nn hf (by simpa using ne1 b o q)),
  slot:=fun b o q nn hf _=>by obtain⟨sl,z⟩:=E3.un.slot b o (mk.keeps b o q) nn hf (by simpa using ne1 b o q);exact⟨sl,hid b _ (ne1 b o q) z⟩,
  free:=fun b o q nn _=>by rw[Yc (dn b o q)];exact nn,
  there:=fun b o q _=>by obtain⟨o',z⟩:=E3.un.there b o (mk.keeps b o q) (by simpa using ne1 b o q);exact⟨o',hid b _ (ne1 b o q) z⟩,
  tups:=fun b xs q=>by rw[Yc (neH b _ q)];exact q,
  frzs:=fun b o u q=>by rw[Yc (neH b _ q)];exact q,
  tbls:=fun b ps q=>⟨#[],by rw[Yc (neH b _ q)];simpa using q⟩}
 have hok5:HOk X.prog X.w (upd H1 d (.ext (WM d (Yu x) v1))) (hideAll s3.heap [e0]):=fun a o q=>by
  by_cases z:a=d
  ·subst z;rw[upd_same] at q;cases q
   have n7:(hideAll s3.heap [e0]).Ns1 a (fun y=>if y=Yu x then some u else none):=a7.at fun o q=>hid a o de q;obtain⟨o,es',ep',q',_⟩:=id n7;exact⟨⟨u,a6,n7⟩,⟨o,q'⟩,fun g1 g2 ⟨u',c1,c2⟩ k=>⟨u',c1,c2.at k⟩⟩
  ·rw[Yc z] at q
   refine (E3.hok a o q).stay (fun c u hc r=>hid c u (fun z=>?_) r) (fun c q=>by rw[Yc (neH c _ q)];exact q) fun c xs q=>by rw[Yc (neH c _ q)];exact q
   subst z;rcases hc with rfl|hc
   ·rw[H1e] at q;cases q
   ·rw[H1e] at hc;cases hc
 have I5:L2.Inv X pins σ (upd H1 d (.ext (WM d (Yu x) v1))) {s3 with heap:=hideAll s3.heap [e0]}:=I1.call' (s':={s3 with heap:=hideAll s3.heap [e0]}) E3.os un5 hok5 E3.bare (fun b hb=>by cases hb);exact rs.ok.made rfl pins σ _ (hideAll s3.heap [e0]) e0 C (some d) s3 δ M1 x x0 (x1.trans x5) I5 ⟨fun b o q=>PySem.W.of_hideAll _ q,PySem.W.hideAll_none _ (List.mem_cons_self),ob,ws,a1,a2,a3,a4,a5⟩ (fun _=>⟨ob,ws,a1,a4,aC⟩) m5 (rs.toSlots.ext (x1.trans x5)) hn hc (.fld hi upd_same (rx.ext x5)) hx
end
section
variable {X:Cx} {pins:List (Addr×Obj)} {σ:L2.St} {H:Hp} {s:Shared}
end
abbrev _root_.L2.Cx.hnd (X:Cx) (e:Addr):Cx:={X with A:=X.A.mark (some (.ref e)),calm:=false,xe:=fun _ _=>False}
theorem B8 (I:L2.Inv X pins σ H s) (e:Addr):L2.Inv (X.hnd e) pins σ H s :=
 ⟨⟨I.ok.mod,I.ok.kind,I.ok.glob,I.ok.blt,I.ok.above,I.ok.inj,I.ok.has,I.ok.cab,fun z=>(by cases z),I.ok.frames,I.ok.stk,I.ok.exf,I.ok.bs,I.ok.bsz,I.ok.noex,I.ok.exfs,I.ok.funs,I.ok.frf⟩,I.os,I.bare,I.base,I.loc,I.cell,I.free,I.freeC,I.pin,I.hok,I.len⟩
theorem XJ (ok:X.Ok) (I:L2.Inv (X.hnd e) pins σ H s):L2.Inv X pins σ H s :=
 ⟨ok,I.os,I.bare,I.base,I.loc,I.cell,I.free,I.freeC,I.pin,I.hok,I.len⟩
abbrev _root_.L2.Cx.tri (X:Cx) (xe:Value->Shared->Prop) (pins:List (Addr×Obj)):Cx:={X with xe:=xe,pn:=X.pn++pins}
theorem FR (I:L2.Inv X pins σ H s) (xe:Value->Shared->Prop):L2.Inv (X.tri xe pins) [] σ H s :=
 ⟨⟨I.ok.mod,I.ok.kind,I.ok.glob,I.ok.blt,I.ok.above,I.ok.inj,I.ok.has,I.ok.cab,I.ok.hd,I.ok.frames,I.ok.stk,I.ok.exf,I.ok.bs,I.ok.bsz,I.ok.noex,I.ok.exfs,I.ok.funs,I.ok.frf⟩,I.os,I.bare,I.base,I.loc,I.cell,I.free,I.freeC,fun p hp=>I.pin p (by simpa using hp),I.hok,I.len⟩
theorem ZX (ok:X.Ok) (I:L2.Inv (X.tri xe pins) pl σ H s):L2.Inv X pins σ H s :=
 ⟨ok,I.os,I.bare,I.base,I.loc,I.cell,I.free,I.freeC,fun p hp=>I.pin p (List.mem_append_left _ hp),I.hok,I.len⟩
noncomputable def dTry (t:DS) (c:Str) (ie ix:Nat):DS:=fun D δ M=>t {D with ex:=fun δ' d M'=>∃ n,d=.exc n (xarg d)/\YD n c=true/\D.nx ((δ'.set ix (some d)).set ie none) M'} δ M
section
variable {X:Cx} {rz:Bool} {body:List Stmt} {t:DS} {cx ne x:Str} {np px pe apos hpos pos:Pos} {ie ix:Nat}
end
section
variable {X:Cx} {rz:Bool} {b0:Stmt} {body hb:List Stmt} {t th:DS} {cx ne:Str} {np hpos pos:Pos} {ie:Nat}
end
noncomputable def dTrn (t th:DS) (c:Str):DS:=fun D δ M=>t {D with ex:=fun δ' d M'=>∃ n,d=.exc n (xarg d)/\YD n c=true/\th {nx:=D.nx,rt:=D.rt,bk:=fun _ _=>False,ct:=fun _ _=>False,ex:=X0} δ' M'} δ M
section
variable {X:Cx} {rz:Bool} {b0:Stmt} {body hb:List Stmt} {t th:DS} {cx:Str} {np hpos pos:Pos}
theorem Ix (st:X.stack=X.env::X.outer/\X.env.frame=some X.env.locals) (tab:Zv X.K=true) (hcx:cx∈xNames) (hc:YS X.K cx C) (hm:X.mg cx=some (.ref C)) (hg:Gl X cx) (hdb:(cx==("__debug__":Str))=false)
  (hbd:∀ xe pins,PassesOwn (model X.prog X.w) X.A X.env xe->PSs (X.tri xe pins) body (Yt (X.tri xe pins) false t)) (hh:∀ e,PSs (X.hnd e) (b0::hb) (Yt (X.hnd e) false th)) :
  PS X (.Try body [.ExceptHandler (some (.Name cx np)) none (b0::hb) hpos] [] [] pos) (Yt X rz (dTrn t th cx)):=by
 rintro pins s σ H Z I ⟨δ,M,D,rs,rm,t,n,r,b,c⟩;refine wpAny_Try_except ?_;generalize hxe:(fun e s₁=>wpAny (model X.prog X.w) X.A (noteFrame e X.env) (fun _ s₂=>wpAny (model X.prog X.w) X.A (setFlight e none) (fun _ s₃=>wpAny (model X.prog X.w) X.A (handleBy e X.env [.ExceptHandler (some (.Name cx np)) none (b0::hb) hpos]) (SP X pins Z) X.xe s₃) X.xe s₂) X.xe s₁)=xe;have po:PassesOwn (model X.prog X.w) X.A X.env xe:=by rw[<- hxe];exact PassesOwn.looking
 have ok:=I.ok;refine wpAny_mono (hbd xe pins po [] s σ H Z (FR I xe) ⟨δ,M,_,⟨rs.toSlots,⟨?_,fun z=>(by cases z),fun z=>(by cases z)⟩⟩,rm,t,fun δ' M' σ' H' x rs' m' h'=>n δ' M' σ' H' x ⟨rs'.toSlots,(X.L rz D.ex).mono _ _ x rs.ok⟩ m' h',r,fun δ' M' σ' H' x rs' m' h'=>b δ' M' σ' H' x ⟨rs'.toSlots,(X.L rz D.ex).mono _ _ x rs.ok⟩ m' h',fun δ' M' σ' H' x rs' m' h'=>c δ' M' σ' H' x ⟨rs'.toSlots,(X.L rz D.ex).mono _ _ x rs.ok⟩ m' h'⟩) (fun fl s' q=>?_) fun e s' q=>q
 ·intro pins' σ' H1 s1 H' e C' dd s' δ' M' n' xd x1 I1 th m' sl hn' hc' ed ⟨n2,en,hsub,hnx⟩
  cases en;rw[<- hxe];have I1':L2.Inv X pins σ' H1 s1:=ZX ok I1;obtain⟨B,os,bare,un,old,hokB,fl⟩:=th.ex;have fl':Flies B (X.env::X.outer) e (.ref C') dd .none s'.heap:=by rw[<- st.1];exact fl
  have fr:X.A.frames=some (X.env::X.outer):=by rw[<- st.1];exact ok.frames
  have ff:∀ b∈frs X.stack,∃ o,s'.heap.get? b=some o/\∀ vs,o.data≠.fields vs:=fun b hb=>(fl.frames.mem hb).2;refine JL fr st.2 fl' fun h2 F2 n2'=>Xx F2 fun h3 F3 n3=>?_;have I3:L2.Inv X pins σ' H' {s' with heap:=h3}:=I1'.call' (s':={s' with heap:=h3}) os (XZ un old F3.stays ff (n2'.trans n3)) (hokB.kept F3.stays) bare (fun b hb=>by cases hb);have I3h:=B8 I3 e;have LT:PySem.W.Looks (model X.prog X.w) h3 (typeOf (.ref e)) (.ref C'):=by
   obtain⟨oe,vs,T,oT,ts,q1,q2,_⟩:=F3.tr;exact q2 ▸ (PySem.W.Looks.ld q1).andThen .now
  have hx:=((YM tab hn' hc').2.2.2 cx C hcx hc).1;rw[hsub] at hx;refine wpAny_handleBy_cons (codeAny_handlers_test (X9 (X:=X.hnd e) I3h hg hm ((PySem.W.exm_one I3.kIn LT hx).at ?_) hdb)) (by intro z;cases z);show codeAny _ _ _ _ _;refine codeAny_handlers_suite (Xx (s:={s' with heap:=h3}) F3 fun h4 F4 n4=>?_);have I4:L2.Inv X pins σ' H' {s' with heap:=h4}:=I1'.call' (s':={s' with heap:=h4}) os (XZ un old F4.stays ff (n2'.trans (n3.trans n4))) (hokB.kept F4.stays) bare (fun b hb=>by cases hb);refine wpAny_mono (hh e pins {s' with heap:=h4} σ' H' Z (B8 I4 e)
   ⟨δ',M',{nx:=D.nx,rt:=D.rt,bk:=fun _ _=>False,ct:=fun _ _=>False,ex:=X0},⟨sl,Cu⟩,m',hnx,fun δ7 M7 σ7 H7 x7 rs7 m7 h7=>n δ7 M7 σ7 H7 (x1.trans x7) ⟨rs7.toSlots,(X.L rz D.ex).mono _ _ (x1.trans x7) rs.ok⟩ m7 h7,fun d M7 v H7 x7 m7 r7 h7=>r d M7 v H7 (x1.trans x7) m7 r7 h7,fun _ _ _ _ _ _ _ z=>z.elim,fun _ _ _ _ _ _ _ z=>z.elim⟩) (fun f s7 h7=>?_) fun _ _ z=>z.elim
  cases f with
  | next=>obtain⟨σ7,H7,I7,z⟩:=h7;exact⟨σ7,H7,XJ ok I7,z⟩
  | brk=>obtain⟨σ7,H7,I7,z⟩:=h7;exact⟨σ7,H7,XJ ok I7,z⟩
  | cont=>obtain⟨σ7,H7,I7,z⟩:=h7;exact⟨σ7,H7,XJ ok I7,z⟩
  | ret u=>obtain⟨v,σ7,H7,I7,rr,z⟩:=h7;exact⟨v,σ7,H7,XJ ok I7,rr,z⟩
 ·have q':SP X pins Z fl s':=by
   cases fl with
   | next=>obtain⟨σ',H',I',z⟩:=q;exact⟨σ',H',ZX ok I',z⟩
   | brk=>obtain⟨σ',H',I',z⟩:=q;exact⟨σ',H',ZX ok I',z⟩
   | cont=>obtain⟨σ',H',I',z⟩:=q;exact⟨σ',H',ZX ok I',z⟩
   | ret u=>obtain⟨v,σ',H',I',rr,z⟩:=q;exact⟨v,σ',H',ZX ok I',rr,z⟩
  cases fl with
  | next =>
   obtain⟨σ',H',I',z⟩:=q';exact pss_nil pins s' σ' H' Z I' z
  | brk=>exact q'
  | cont=>exact q'
  | ret u=>exact q'
end
end DL
end
noncomputable section
namespace DL
open PySem PySem.Spec PyProof.Rows L2
section
variable {M:Model} {A:Around} {Z:Value->Shared->Prop} {s:Shared} {B:Heap} {env:Env} {outer:List Env} {L e:Addr}
end
section
variable {prog:Program} {w:World} {A:Around} {E:Value->Shared->Prop} {h:Heap} {g:Array GenState} {d:Drawn} {t:Nat} {os:OsState}
end
section
variable {X:Cx} {body:List Stmt} {t:DS} {cx x xn:Str} {np np2 ap cpos cp rpos hpos pos:Pos} {ck i:Nat}
end
end DL
end
noncomputable section
namespace DL
open PySem PySem.Spec PyProof.Rows L2
mutual
inductive CS where
 | expr (e:CE)|ret (e:CE)
 | ife (c:CE) (a b:CSs)
 | set (i:Nat) (e:CE)
 | asg (g:CG) (e:CE)
 | two (g h:CG) (e:CE)
 | aug (i:Nat) (sub:Bool) (e:CE)
 | par (i j:Nat) (a b:CE)
 | whl (c:CE) (b:CSs)
 | fr (g:CG) (it:CI) (b:CSs)
 | rse (x:Str) (es:CEs)
 | rsi (x:Str) (es:CEs)
 | trn (b:CSs) (c:Str) (hs:CSs)
inductive CSs where
 | nil|cons (s:CS) (r:CSs)
end
mutual
noncomputable def rS:CS->DS
 | .expr e=>GT (fun Xe=>(rE Xe e).e)
 | .ret e=>dRet (fun Xe=>(rE Xe e).e)
 | .ife c a b=>dIfS (fun Xe=>(rE Xe c).t) (rSs a) (rSs b)
 | .set i e=>dAsg (fun Xe=>(rE Xe e).e) (fun _=>Xw i)
 | .asg g e=>dAsg (fun Xe=>(rE Xe e).e) (fun Xe=>rG Xe g)
 | .two g h e=>dTwo (fun Xe=>(rE Xe e).e) (fun Xe=>rG Xe g) (fun Xe=>rG Xe h)
 | .aug i sub e=>dAug i (fun Xe=>(rE Xe e).e) (if sub=true then fun i j=>i-j else fun i j=>i+j)
 | .par i j a b=>dPar i j (fun Xe=>YY (rE Xe a).e (YY (rE Xe b).e dNil))
 | .whl c b=>Ay (fun Xe=>(rE Xe c).t) (rSs b)
 | .fr g it b=>dFor (fun Xe=>rI Xe it) (fun Xe=>rG Xe g) (rSs b)
 | .rse x es=>EF x (fun Xe=>rEs Xe es)
 | .rsi x es=>WZ x (fun Xe=>rEs Xe es)
 | .trn b c hs=>dTrn (rSs b) (rSs hs) c
noncomputable def rSs:CSs->DS
 | .nil=>Bm
 | .cons s r=>dSeq (rS s) (rSs r)
end
noncomputable def Xu:Expr->Bool
 | .ListComp ..=>true
 | .SetComp ..=>true
 | .DictComp ..=>true
 | _=>false
theorem A6 (h:env.kindOf x=some .cell) (y:Expr) (px:Pos) (n:Nat):swapsWith y (some (.Name x px)) n env=pure false:=by
 unfold swapsWith;split
 ·simp only[h]
  rw[show ((some NameKind.cell==some NameKind.local)=false) from rfl];simp
 ·rfl
noncomputable def GG (k:Ck) (x:Str) (px:Pos) (e:CE) (y:Expr):Bool :=
 match e,y with
 | .comp ..,.ListComp _ _ sc p=>decide (k.sc.kind=.function)&&decide (k.kind x=some .local)&&decide (px.line=p.line)&&!(sc.names.any fun y=>y.1==x&&(y.2==.local || y.2==.cell))
 | _,_=>false
noncomputable def Aj:Expr->Expr->Bool
 | .Tuple (.Subscript ..::_) _ _,.Tuple ..=>true
 | .Tuple ..,.Tuple vs _ _=>vs.all (foldedForSure 8)
 | .List ..,_=>false
 | _,_=>true
noncomputable def EH (k:Ck) (tg y:Expr):Bool :=
 X6 tg fun xs _ _=>Yb xs fun a r=>Yx a fun x _=>Yb r fun b r=>Yx b fun z _=>qNil r (X6 y fun _ _ _=>decide (k.kind x=some .cell) || decide (k.kind z=some .cell))
noncomputable def ZD:Expr->Bool
 | .Starred ..=>false
 | _=>true
mutual
noncomputable def isS (k:Ck) (rz:Bool):CS->Stmt->Bool
 | .expr e,s=>CW s fun x p=>isE k e x&&!Xu x
 | .ret e,s=>AW s fun v p=>Jm v fun v=>isE k e v
 | .ife c a b,s=>qIf s fun x xs ys p=>isE k c x&&isSs k rz a xs&&isSs k rz b ys
 | .set i e,s=>XE s fun ts y p=>Yb ts fun tg ts=>qNil ts (Yx tg fun x px=>decide (k.N[i]?=some x)&&k.loc x&&isE k e y&&((!Xu y || decide (k.kind x=some .cell)) || GG k x px e y))
 | .asg g e,s=>XE s fun ts y p=>Yb ts fun tg ts=>qNil ts (isG k g tg&&isE k e y&&!Xu y&&(Aj tg y || EH k tg y))
 | .two g h e,s=>XE s fun ts y p=>Yb ts fun tg ts=>Yb ts fun tg2 ts=>qNil ts (isG k g tg&&isG k h tg2&&isE k e y)
 | .aug i sub e,s=>Vn s fun tg op y p=>Yx tg fun x px=>decide (k.N[i]?=some x)&&k.loc x&&isE k e y&&decide (op=if sub=true then .Sub else .Add)
 | .par i j a b,s=>XE s fun ts v p=>Yb ts fun tg ts=>X6 tg fun xs q1 p1=>Yb xs fun x xs=>Yx x fun x px=>Yb xs fun y xs=>Yx y fun y py=>qNil xs (qNil ts (X6 v fun us q2 p2=>Yb us fun u us=>Yb us fun v us=>qNil us (decide (k.N[i]?=some x)&&decide (k.N[j]?=some y)&&!decide (i=j)&&decide (k.kind x=some .local)&&decide (k.kind y=some .local)&&isE k a u&&isE k b v&&decide (px.line=py.line)&&!([u,v].all (foldedForSure 8))&&!([u,v].all (constantsAlone 8))&&ZD u&&ZD v&&decide (k.sc.kind=.function)&&k.cal)))
 | .whl c b,s=>CT s fun x xs ys p=>qNil ys (isE k c x&&isSs k rz b xs)
 | .fr g it b,s=>qFor s fun tg iter xs ys p=>qNil ys (isG k g tg&&isI k tg it iter&&isSs k rz b xs&&k.cal)
 | .rse x es,s=>Ad s fun v w p=>Jm v fun v=>Zo v fun f xs kw q=>Yx f fun y q'=>Yb xs fun a r=>qNil kw (Jn w (rz&&decide (x=y)&&xPlain.contains x&&k.gl x&&Z4 x&&isEs k es (a::r)&&k.cal))
 | .rsi x es,s=>Ad s fun v w p=>Jm v fun v=>Zo v fun f xs kw q=>Yx f fun y q'=>Yb xs fun a r=>qNil kw (Jn w (rz&&decide (x=y)&&xInit.contains x&&k.gl x&&Z4 x&&isEs k es (a::r)&&k.cal))
 | .trn b c hs,s=>qTry s fun body t1 t8 t9 p=>Yb t1 fun t2 t7=>Xp t2 fun t3 t5 t6 hp=>Jm t3 fun t4=>Yx t4 fun cx np=>Jn t5 (Yb t6 fun b0 hb=>qNil t7 (qNil t8 (qNil t9 (k.top&&decide (c=cx)&&xNames.contains c&&k.gl c&&Z4 c&&isSs ⟨k.N,k.sc,k.top,false⟩ false hs (b0::hb)&&isSs k false b body))))
noncomputable def isSs (k:Ck) (rz:Bool):CSs->List Stmt->Bool
 | .nil,xs=>match xs with | []=>true|_=>false
 | .cons s r,xs=>match xs with|x::ys=>isS k rz s x&&isSs k rz r ys|_=>false
end
mutual
noncomputable def onS (P:Str->Str->DSp->Prop) (G:Str->D->Prop):CS->Prop
 | .expr e | .ret e | .set _ e=>onE P G e
 | .ife c a b=>onE P G c/\onSs P G a/\onSs P G b
 | .asg g e=>onG P G g/\onE P G e
 | .two g h e=>onG P G g/\onG P G h/\onE P G e
 | .aug _ _ e=>onE P G e
 | .par _ _ a b=>onE P G a/\onE P G b
 | .whl c b=>onE P G c/\onSs P G b
 | .fr g it b=>onG P G g/\onI P G it/\onSs P G b
 | .rse x es=>G x (.cls x)/\onEs P G es
 | .rsi x es=>G x (.cls x)/\onEs P G es
 | .trn b c hs=>G c (.cls c)/\onSs P G b/\onSs P G hs
noncomputable def onSs (P:Str->Str->DSp->Prop) (G:Str->D->Prop):CSs->Prop
 | .nil=>True
 | .cons s r=>onS P G s/\onSs P G r
end
mutual
theorem Di:∀ (c:CS),(∀ c x S,P c x S->P' c x S)->(∀ x d,G x d->G' x d)->onS P G c->onS P' G' c
 | .expr e,p,g,h | .ret e,p,g,h | .set _ e,p,g,h=>Y8 e p g h
 | .ife c a b,p,g,h=>⟨Y8 c p g h.1,YH a p g h.2.1,YH b p g h.2.2⟩
 | .asg t e,p,g,h=>⟨Zg t p g h.1,Y8 e p g h.2⟩
 | .two t u e,p,g,h=>⟨Zg t p g h.1,Zg u p g h.2.1,Y8 e p g h.2.2⟩
 | .aug _ _ e,p,g,h=>Y8 e p g h
 | .par _ _ a b,p,g,h=>⟨Y8 a p g h.1,Y8 b p g h.2⟩
 | .whl c b,p,g,h=>⟨Y8 c p g h.1,YH b p g h.2⟩
 | .fr t it b,p,g,h=>⟨Zg t p g h.1,Js it p g h.2.1,YH b p g h.2.2⟩
 | .rse x es,p,g,h=>⟨g _ _ h.1,YI es p g h.2⟩
 | .rsi x es,p,g,h=>⟨g _ _ h.1,YI es p g h.2⟩
 | .trn b c hs,p,g,h=>⟨g _ _ h.1,YH b p g h.2.1,YH hs p g h.2.2⟩
theorem YH:∀ (c:CSs),(∀ c x S,P c x S->P' c x S)->(∀ x d,G x d->G' x d)->onSs P G c->onSs P' G' c
 | .nil,_,_,_=>True.intro
 | .cons e es,p,g,h=>⟨Di e p g h.1,YH es p g h.2⟩
end
theorem Vf (h:Xu e=false) (t:Option Expr) (l:Nat) (env:Env):swapsWith e t l env=pure false:=by
 cases e<;>first|rfl|(simp[Xu] at h)
theorem BA (hx:env.kindOf x=some .local) (hl:px.line=p.line) (hn:(sc.names.any fun y=>y.1==x&&(y.2==.local || y.2==.cell))=false) (hb:env.blockKind=.function) :
  swapsWith (.ListComp elt gs sc p) (some (.Name x px)) l env=pure true:=by
 show (pure (env.blockKind==.function&&env.kindOf x==some .local&&px.line==p.line&&!(sc.names.any fun y=>y.1==x&&(y.2==.local || y.2==.cell))):Sem Bool)=pure true;rw[hb,hx,hl,hn];simp
theorem WC (h:vs.all (foldedForSure 8)=true) (env:Env):swappedStores [.Tuple ts k p] (.Tuple vs k2 p2) env=pure none:=by
 unfold swappedStores;simp only[h,if_true]
 repeat' split
 all_goals rfl
theorem Jf (env:Env):swappedStores [.Tuple (.Subscript a b p::ts) k q] (.Tuple vs k2 p2) env=pure none:=by
 unfold swappedStores;have hl:∀ f:Expr->Option Str,f (.Subscript a b p)=none->((Expr.Subscript a b p::ts).filterMap f).length≠(Expr.Subscript a b p::ts).length:=fun f hf=>by
  rw[List.filterMap_cons_none hf];have:=List.length_filterMap_le f ts;simp only[List.length_cons];omega
 dsimp only;split
 ·rfl
 ·split
  ·rfl
  ·rw[if_pos]
   ·have:=hl (fun | .Name id pos=>if env.kindOf id==some .local&&pos.line==(((Expr.Subscript a b p::ts).head?.map (·.pos.line)).getD 0) then some id else none|_=>none) rfl
    simp only[Bool.or_eq_true,bne_iff_ne];exact .inl this
theorem A7 (h:Aj tg e=true) (env:Env):swappedStores [tg] e env=pure none:=by
 cases tg with
 | Tuple ts k p =>
  cases e with
  | Tuple vs k2 p2 =>
   cases ts with
   | nil=>exact WC h env
   | cons t ts =>
    cases t with
    | Subscript a b q=>exact Jf env
    | _=>exact WC h env
  | _=>rfl
 | List ts p=>exact absurd h Bool.false_ne_true
 | _=>rfl
theorem Je (t1 t2 y:Expr) (env:Env):swappedStores [t1,t2] y env=pure none:=by
 cases t1<;>first|rfl|(cases y<;>rfl)
theorem Jd (hx:env.kindOf x=some .local) (hy:env.kindOf y=some .local) (hne:x≠y) (hl:px.line=py.line) (hb:env.blockKind=.function)
  (h1:[u,v].all (foldedForSure 8)=false) (h2:[u,v].all (constantsAlone 8)=false) (hu:ZD u=true) (hv:ZD v=true) :
  swappedStores [.Tuple [.Name x px,.Name y py] kt pt] (.Tuple [u,v] k2 pt2) env=pure (some [x,y]):=by
 unfold swappedStores;have hs:∀ {z:Expr},ZD z=true->(match z with | .Starred ..=>true|_=>false)=false:=fun {z} hz=>by
  cases z<;>first|rfl|exact absurd hz (by simp[ZD])
 have hd:[x,y].eraseDups.length=2:=by
  have:(y==x)=false:=by simpa using Ne.symm hne
  simp[List.eraseDups_cons,this]
 have hany:([u,v].any fun | .Starred ..=>true|_=>false)=false:=by
  simp only[List.any_cons,List.any_nil,Bool.or_false];rw[hs hu,hs hv];rfl
 have ha:∀ (f:Expr->Bool),[u,v].all f=(f u&&f v):=fun f=>by simp
 rw[ha] at h1 h2;have hu':=hs hu;have hv':=hs hv;simp[hb,hx,hy,Expr.pos,hl,hd,ha,h1,h2];intro z;rcases z with z|z
 ·exact absurd (hu'.symm.trans z) %[|4]
 ·exact absurd (hv'.symm.trans z) %[|4]
theorem W8 (C:CtxOk X k):PassesOwn (model X.prog X.w) X.A X.env X.xe:=C.po
theorem CtxOk.tri (C:CtxOk X k) (pins:List (Addr×Obj)) (po:PassesOwn (model X.prog X.w) X.A X.env xe):CtxOk (X.tri xe pins) k :=
 ⟨C.N,C.nd,C.sc,C.fr,C.fn,C.calm,C.room,C.hu,C.blt,po,C.tab,C.st⟩
theorem CtxOk.hnd (C:CtxOk X k) (e:Addr):CtxOk (X.hnd e) ⟨k.N,k.sc,k.top,false⟩ :=
 ⟨C.N,C.nd,C.sc,C.fr,C.fn,fun z=>(by cases z),fun z=>(by cases z),C.hu,C.blt,PassesOwn.never,C.tab,C.st⟩
theorem UU (G:GloAt X n (.cls n)):∃ C,X.mg n=some (.ref C)/\YS X.K n C:=by
 obtain⟨u,v,e1,e2,e3⟩:=G.ex;have:=e3 fun _=>none;cases this with
 | @cls C _ hn hc=>cases e2;exact⟨C,e1,hc⟩
theorem CtxOk.bk {X:Cx} {k:Ck} (hk:X.env.scope.kind=.function):X.env.blockKind=.function:=by unfold Env.blockKind;rw[hk];rfl
theorem UA (C:CtxOk X k) (h:EH k tg y=true):swappedStores [tg] y X.env=pure none:=by
 refine gTuple tg h fun xs kt pt h=>?_;refine Y9 xs h fun a r h=>?_;refine gNm a h fun x px h=>?_;refine Y9 r h fun b r h=>?_;refine gNm b h fun z pz h=>?_;refine gNil r h fun h=>?_;refine gTuple y h fun vs k2 p2 h=>?_;have e:X.env.kindOf x=some .cell\/X.env.kindOf z=some .cell:=by
  rw[Bool.or_eq_true] at h;rcases h with h|h
  ·exact .inl (C.sc _ _ (of_decide_eq_true h) %[|4])
  ·exact .inr (C.sc _ _ (of_decide_eq_true h) %[|4])
 unfold swappedStores;simp only[];split
 ·rfl
 ·split
  ·rfl
  ·rw[if_pos]
   rcases e with e|e
   ·simp[List.filterMap,e]
    split<;>simp
   ·simp[List.filterMap,e]
    split<;>simp
theorem not1 (h:(!a)=true):a=false:=by
 cases a with
 | true=>exact absurd h Bool.false_ne_true
 | false=>rfl
theorem or2 (h:(a || b)=true):a=true\/b=true:=by
 cases a with
 | true=>exact .inl rfl
 | false=>exact .inr h
mutual
theorem sS:∀ (c:CS) (rz:Bool) (k:Ck) (X:Cx) (s:Stmt),CtxOk X k->X.env.scope.kind=.function->onS (FnAt X) (GloAt X) c->isS k rz c s=true->PS X s (Yt X rz (rS c))
 | .expr e,rz,k,X,s,C,bk,on,h=>by
  refine gExpr s h fun x p h=>?_;obtain⟨h1,h2⟩:=and2 (show (isE k e x&&!Xu x)=true from h);exact Gc (fun Xe=>(sE e rz Xe k X _ C on h1).pe) (Vf (not1 h2) _ _ _)
 | .ret e,rz,k,X,s,C,bk,on,h=>by
  refine gReturn s h fun v p h=>?_;refine gSome v h fun v h=>?_;exact Iy (fun Xe=>(sE e rz Xe k X v C on h).pe)
 | .ife c a b,rz,k,X,s,C,bk,on,h=>by
  refine gIf s h fun x xs ys p h=>?_;obtain⟨h1,h3⟩:=and2 (show (_&&isSs k rz b ys)=true from h);obtain⟨h1,h2⟩:=and2 (show (isE k c x&&isSs k rz a xs)=true from h1);exact KL (fun Xe=>(sE c rz Xe k X _ C on.1 h1).pt) (sSs a rz k X _ C bk on.2.1 h2) (sSs b rz k X _ C bk on.2.2 h3)
 | .set i e,rz,k,X,s,C,bk,on,h=>by
  refine gAssign s h fun ts y p h=>?_;refine Y9 ts h fun tg ts h=>?_;refine gNil ts h fun h=>?_;refine gNm tg h fun x px h=>?_;obtain⟨h1,h4⟩:=and2 (show (_&&((!Xu y || decide (k.kind x=some .cell)) || GG k x px e y))=true from h);obtain⟨h1,h3⟩:=and2 (show (_&&isE k e y)=true from h1);obtain⟨h1,h2⟩:=and2 (show (decide (k.N[i]?=some x)&&k.loc x)=true from h1);have hi:=of_decide_eq_true h1;clear h1;rcases or2 h4 with h4|h4
  ·rcases or2 h4 with h4|h4
   ·exact Et (by rw[C.N];exact C.nd) (by rw[C.N];exact hi) (C.loc h2).1 (fun Xe=>(sE e rz Xe k X _ C on h3).pe) (Vf (not1 h4) _ _ _) (C.loc h2).2
   ·exact Et (by rw[C.N];exact C.nd) (by rw[C.N];exact hi) (C.loc h2).1 (fun Xe=>(sE e rz Xe k X _ C on h3).pe) (A6 (C.sc _ _ (of_decide_eq_true h4) %[|4]) _ _ _) (C.loc h2).2
  ·cases e with
   | comp N' n g it elt =>
    cases y with
    | ListComp y gs sc p =>
     obtain⟨h4,h7⟩:=and2 (show (_&&!(sc.names.any fun y=>y.1==x&&(y.2==.local || y.2==.cell)))=true from h4);obtain⟨h4,h6⟩:=and2 (show (_&&decide (px.line=p.line))=true from h4);obtain⟨h4,h5⟩:=and2 (show (decide (k.sc.kind=.function)&&decide (k.kind x=some .local))=true from h4);refine Y9 gs (show Yb gs _=true from h3) fun q r h3=>?_;refine gMk q h3 fun tg iter ifs z h3=>?_;refine gNil ifs h3 fun h3=>?_;refine gNil r h3 fun h3=>?_;obtain⟨h3,hcal⟩:=and2 (show (_&&k.cal)=true from h3);obtain⟨h3,g5⟩:=and2 (show (_&&isE ⟨N',sc,false,k.cal⟩ elt y)=true from h3);obtain⟨h3,g4⟩:=and2 (show (_&&isI k tg it iter)=true from h3);obtain⟨h3,g3⟩:=and2 (show (_&&isG ⟨N',sc,false,k.cal⟩ g tg)=true from h3);obtain⟨h3,g2⟩:=and2 (show (_&&decide (n=N'.length-k.N.length))=true from h3);obtain⟨h3,g1⟩:=and2 (show (decide (z=0)&&blkB k N' sc)=true from h3);obtain rfl:=of_decide_eq_true h3;obtain rfl:=of_decide_eq_true g2
     have si:=fun Xe=>sI it rz Xe k X tg _ C on.2.1 g4;rw[<- C.N];exact Ga (C.calm hcal) (J2 C g1).1 (fun Xe=>(si Xe).pi) (fun cl Cn s H ex=>⟨(sG g false X0 ⟨N',_,false,k.cal⟩ (YA X N' _ cl Cn s H ex []) _ (C.blk g1 cl Cn s H ex) (Zg g (fun c x S F=>⟨F.ex⟩) (fun x d F=>⟨F.ex⟩) on.1) g3).pg,
      (sE elt false X0 ⟨N',_,false,k.cal⟩ (YA X N' _ cl Cn s H ex []) _ (C.blk g1 cl Cn s H ex) (Y8 elt (fun c x S F=>⟨F.ex⟩) (fun x d F=>⟨F.ex⟩) on.2.2) g5).pe⟩) ((si X0).set _)
      (BA (C.sc _ _ (of_decide_eq_true h5) %[|4]) (of_decide_eq_true h6) (not1 h7) (CtxOk.bk (k:=k) bk)) (by rw[C.N];exact C.nd) (by rw[C.N];exact hi) (C.loc h2).1 (C.loc h2).2
    | _=>exact absurd h4 Bool.false_ne_true
   | _=>exact absurd h4 Bool.false_ne_true
 | .asg g e,rz,k,X,s,C,bk,on,h=>by
  refine gAssign s h fun ts y p h=>?_;refine Y9 ts h fun tg ts h=>?_;refine gNil ts h fun h=>?_;obtain⟨h1,h4⟩:=and2 (show (_&&(Aj tg y || EH k tg y))=true from h);obtain⟨h1,h3⟩:=and2 (show (_&&!Xu y)=true from h1);obtain⟨h1,h2⟩:=and2 (show (isG k g tg&&isE k e y)=true from h1);have s1:=fun Xe=>sG g rz Xe k X _ C on.1 h1;have h5:swappedStores [tg] y X.env=pure none:=(or2 h4).elim (fun h4=>A7 h4 _) (fun h4=>UA C h4);exact IC (fun Xe=>(sE e rz Xe k X _ C on.2 h2).pe) (fun Xe=>(s1 Xe).pg) (Vf (not1 h3) _ _ _) h5 (by rw[(s1 X0).as];rfl)
 | .two g g2 e,rz,k,X,s,C,bk,on,h=>by
  refine gAssign s h fun ts y p h=>?_;refine Y9 ts h fun tg ts h=>?_;refine Y9 ts h fun tg2 ts h=>?_;refine gNil ts h fun h=>?_;obtain⟨h1,h3⟩:=and2 (show (_&&isE k e y)=true from h);obtain⟨h1,h2⟩:=and2 (show (isG k g tg&&isG k g2 tg2)=true from h1);have s1:=fun Xe=>sG g rz Xe k X _ C on.1 h1;have s2:=fun Xe=>sG g2 rz Xe k X _ C on.2.1 h2;exact Iw (fun Xe=>(sE e rz Xe k X _ C on.2.2 h3).pe) (fun Xe=>(s1 Xe).pg) (fun Xe=>(s2 Xe).pg) (by rw[(s1 X0).as,(s2 X0).as];rfl) (Je _ _ _ _)
 | .aug i sub e,rz,k,X,s,C,bk,on,h=>by
  refine gAugAssign s h fun tg op y p h=>?_;refine gNm tg h fun x px h=>?_;obtain⟨h1,h4⟩:=and2 (show (_&&decide (op=if sub=true then .Sub else .Add))=true from h);obtain⟨h1,h3⟩:=and2 (show (_&&isE k e y)=true from h1);obtain⟨h1,h2⟩:=and2 (show (decide (k.N[i]?=some x)&&k.loc x)=true from h1);have h1:=of_decide_eq_true h1;obtain rfl:=of_decide_eq_true h4;cases sub with
  | true=>exact Ew (by rw[C.N];exact C.nd) (by rw[C.N];exact h1) (C.loc h2).1 (fun Xe=>(sE e rz Xe k X _ C on h3).pe) Ij (C.loc h2).2
  | false=>exact Ew (by rw[C.N];exact C.nd) (by rw[C.N];exact h1) (C.loc h2).1 (fun Xe=>(sE e rz Xe k X _ C on h3).pe) Ik (C.loc h2).2
 | .par i j a b,rz,k,X,s,C,bk,on,h=>by
  refine gAssign s h fun ts v p h=>?_;refine Y9 ts h fun tg ts h=>?_;refine gTuple tg h fun xs q1 p1 h=>?_;refine Y9 xs h fun x xs h=>?_;refine gNm x h fun x px h=>?_;refine Y9 xs h fun y xs h=>?_;refine gNm y h fun y py h=>?_;refine gNil xs h fun h=>?_;refine gNil ts h fun h=>?_;refine gTuple v h fun us q2 p2 h=>?_;refine Y9 us h fun u us h=>?_;refine Y9 us h fun v us h=>?_;refine gNil us h fun h=>?_;obtain⟨h,hcal⟩:=and2 (show (_&&k.cal)=true from h);obtain⟨h,h13⟩:=and2 (show (_&&decide (k.sc.kind=.function))=true from h);obtain⟨h,h12⟩:=and2 (show (_&&ZD v)=true from h);obtain⟨h,h11⟩:=and2 (show (_&&ZD u)=true from h);obtain⟨h,h10⟩:=and2 (show (_&&!([u,v].all (constantsAlone 8)))=true from h);obtain⟨h,h9⟩:=and2 (show (_&&!([u,v].all (foldedForSure 8)))=true from h);obtain⟨h,h8⟩:=and2 (show (_&&decide (px.line=py.line))=true from h);obtain⟨h,h7⟩:=and2 (show (_&&isE k b v)=true from h);obtain⟨h,h6⟩:=and2 (show (_&&isE k a u)=true from h)
  obtain⟨h,h5⟩:=and2 (show (_&&decide (k.kind y=some .local))=true from h);obtain⟨h,h4⟩:=and2 (show (_&&decide (k.kind x=some .local))=true from h);obtain⟨h,h3⟩:=and2 (show (_&&!decide (i=j))=true from h);obtain⟨h,h2⟩:=and2 (show (decide (k.N[i]?=some x)&&decide (k.N[j]?=some y))=true from h);have h1:=of_decide_eq_true h;have h2:=of_decide_eq_true h2;have h3:¬ i=j:=of_decide_eq_false (not1 h3);have s1:=fun Xe=>sE a rz Xe k X _ C on.1 h6;have s2:=fun Xe=>sE b rz Xe k X _ C on.2 h7;have kx:=C.sc _ _ (of_decide_eq_true h4) %[|4];have ky:=C.sc _ _ (of_decide_eq_true h5) %[|4];exact Iz (C.calm hcal) (by rw[C.N];exact C.nd) (by rw[C.N];exact h1) (by rw[C.N];exact h2) h3 kx ky (fun Xe=>ZM (s1 Xe).pe (ZM (s2 Xe).pe Wx ((s2 Xe).sh.star _ _)) ((s1 Xe).sh.star _ _))
   (Jd kx ky (fun z=>h3 (Vt C.nd h1 (z ▸ h2))) (of_decide_eq_true h8) (CtxOk.bk (k:=k) bk) (not1 h9) (not1 h10) h11 h12) rfl
 | .whl c b,rz,k,X,s,C,bk,on,h=>by
  refine gWhile s h fun x xs ys p h=>?_;refine gNil ys h fun h=>?_;obtain⟨h1,h2⟩:=and2 (show (isE k c x&&isSs k rz b xs)=true from h);exact Es (W8 C) (fun Xe=>(sE c rz Xe k X _ C on.1 h1).pt) (sSs b rz k X _ C bk on.2 h2)
 | .fr g it b,rz,k,X,s,C,bk,on,h=>by
  refine gFor s h fun tg iter xs ys p h=>?_;refine gNil ys h fun h=>?_;obtain⟨h,hcal⟩:=and2 (show (_&&k.cal)=true from h);obtain⟨h1,h3⟩:=and2 (show (_&&isSs k rz b xs)=true from h);obtain⟨h1,h2⟩:=and2 (show (isG k g tg&&isI k tg it iter)=true from h1);have si:=fun Xe=>sI it rz Xe k X tg _ C on.2.1 h2;exact IA (W8 C) (C.calm hcal) (fun Xe=>(si Xe).pi) (fun Xe=>(sG g rz Xe k X _ C on.1 h1).pg) (sSs b rz k X _ C bk on.2.2 h3) ((si X0).set _)
 | .rse x es,rz,k,X,s,C,bk,on,h=>by
  refine gRaise s h fun v w p h=>?_;refine gSome v h fun v h=>?_;refine gCall v h fun f xs kw q h=>?_;refine gNm f h fun y q' h=>?_;refine Y9 xs h fun a r h=>?_;refine gNil kw h fun h=>?_;refine gNone w h fun h=>?_;obtain⟨h,hcal⟩:=and2 (show (_&&k.cal)=true from h);obtain⟨h,h6⟩:=and2 (show (_&&isEs k es (a::r))=true from h);obtain⟨h,h5⟩:=and2 (show (_&&Z4 x)=true from h);obtain⟨h,h4⟩:=and2 (show (_&&k.gl x)=true from h);obtain⟨h,h3⟩:=and2 (show (_&&xPlain.contains x)=true from h);obtain⟨hz,h2⟩:=and2 (show (rz&&decide (x=y))=true from h);obtain rfl:=of_decide_eq_true h2;subst hz;obtain⟨Cc,hm,hc⟩:=UU on.1;have s:=fun Xe=>sEs es true Xe k X _ C on.2 h6;exact Eu (C.room hcal) C.tab h3 hc hm (C.gl h4) (XH h5) (fun Xe=>(s Xe).pa) (((s X0).hd _ _ rfl).1.star _ _) (((s X0).hd _ _ rfl).2 _ _)
 | .rsi x es,rz,k,X,s,C,bk,on,h=>by
  refine gRaise s h fun v w p h=>?_;refine gSome v h fun v h=>?_;refine gCall v h fun f xs kw q h=>?_;refine gNm f h fun y q' h=>?_;refine Y9 xs h fun a r h=>?_;refine gNil kw h fun h=>?_;refine gNone w h fun h=>?_;obtain⟨h,hcal⟩:=and2 (show (_&&k.cal)=true from h);obtain⟨h,h6⟩:=and2 (show (_&&isEs k es (a::r))=true from h);obtain⟨h,h5⟩:=and2 (show (_&&Z4 x)=true from h);obtain⟨h,h4⟩:=and2 (show (_&&k.gl x)=true from h);obtain⟨h,h3⟩:=and2 (show (_&&xInit.contains x)=true from h);obtain⟨hz,h2⟩:=and2 (show (rz&&decide (x=y))=true from h);obtain rfl:=of_decide_eq_true h2;subst hz;obtain⟨Cc,hm,hc⟩:=UU on.1;have s:=fun Xe=>sEs es true Xe k X _ C on.2 h6;exact Cg (C.room hcal) C.tab h3 hc hm (C.gl h4) (XH h5) (fun Xe=>(s Xe).pa) (((s X0).hd _ _ rfl).1.star _ _) (((s X0).hd _ _ rfl).2 _ _)
 | .trn b c hs,rz,k,X,s,C,bk,on,h=>by
  refine gTry s h fun body t1 t8 t9 p h=>?_;refine Y9 t1 h fun t2 t7 h=>?_;refine gExceptHandler t2 h fun t3 t5 t6 hp h=>?_;refine gSome t3 h fun t4 h=>?_;refine gNm t4 h fun cx np h=>?_;refine gNone t5 h fun h=>?_;refine Y9 t6 h fun b0 hb h=>?_;refine gNil t7 h fun h=>?_;refine gNil t8 h fun h=>?_;refine gNil t9 h fun h=>?_;obtain⟨h,h9⟩:=and2 h;obtain⟨h,h8⟩:=and2 h;obtain⟨h,h5⟩:=and2 h;obtain⟨h,h4⟩:=and2 h;obtain⟨h,h3⟩:=and2 h;obtain⟨h1,h2⟩:=and2 h;obtain rfl:=of_decide_eq_true h2;obtain⟨Cc,hm,hc⟩:=UU on.1;exact Ix (C.st h1) C.tab (by simpa using h3) hc hm (C.gl h4) (XH h5)
   (fun xe pins po=>sSs b false k (X.tri xe pins) _ (C.tri pins po) bk (YH b (fun c x S F=>⟨F.ex⟩) (fun x d F=>⟨F.ex⟩) on.2.1) h9)
   (fun e=>sSs hs false ⟨k.N,k.sc,k.top,false⟩ (X.hnd e) _ (C.hnd e) bk (YH hs (fun c x S ⟨k',f',fd',ps',a1,a2,a3,a4,a5⟩=>⟨k',f',fd',ps',a1,a2,fun z=>(by cases z),a4,a5⟩) (fun x d F=>⟨F.ex⟩) on.2.2) h8)
theorem sSs:∀ (c:CSs) (rz:Bool) (k:Ck) (X:Cx) (s:List Stmt),CtxOk X k->X.env.scope.kind=.function->onSs (FnAt X) (GloAt X) c->isSs k rz c s=true->PSs X s (Yt X rz (rSs c))
 | .nil,rz,k,X,s,C,bk,on,h=>by
  cases s with
  | nil=>exact FZ
  | cons _ _=>exact absurd h Bool.false_ne_true
 | .cons c r,rz,k,X,s,C,bk,on,h=>by
  cases s with
  | nil=>exact absurd h Bool.false_ne_true
  | cons x xs =>
   obtain⟨h1,h2⟩:=and2 (show (isS k rz c x&&isSs k rz r xs)=true from h);exact Er (sS c rz k X _ C bk on.1 h1) (sSs r rz k X _ C bk on.2 h2)
end
section
variable (P:Program) (w:World) (K:Frag) (mg:Str->Option Value) (base:Heap)
structure FnE (k:Nat) (c x:Str) (S:DSp):Prop where
 ex:∃ f fd ps,FnOk P w K mg base (CXR P w) (k-ini c x) f fd ps (XW K S)/\ini c x<=k/\RefAt K mg c x f/\Binds K fd ps []
structure GloE (x:Str) (d:D):Prop where
 ex:∃ u v,mg x=some u/\RelV v u/\∀ H,RelD K H v d
end
noncomputable def Y1 (n:Nat) (ds:List D):DSt:=ds.map some++List.replicate (n-ds.length) none
theorem BD {K:Frag} {H:Hp} {N:List Str} {vs:List V} {ds:List D} (r:RelDs K H vs ds):Slots K H (Y1 N.length ds) (L2.start N vs):=by
 unfold Y1 L2.start;rw[<- r.length];refine Slots.more ⟨by simp[r.length],fun i d e=>?_⟩ _;rw[List.getElem?_map] at e;cases q:ds[i]? with
 | none=>rw [q] at e;cases e
 | some d' =>
  rw[q] at e;cases e;obtain⟨v,h1,h2⟩:=r.get q;exact⟨v,by rw[List.getElem?_map,h1];rfl,h2⟩
section
variable {P:Program} {w:World} {K:Frag} {mg:Str->Option Value} {base:Heap}
theorem FnE.mono (F:FnE P w K mg base j c x S) (h:j<=k):FnE P w K mg base k c x S:=by
 obtain⟨f,fd,ps,a,b,c,d⟩:=F.ex;exact⟨f,fd,ps,a.mono (Nat.sub_le_sub_right h _),Nat.le_trans b h,c,d⟩
theorem EA {x qu:Str} {st:Stmt} {f:Addr} {fd:FuncData} {N ps:List Str} {k:Nat} {S:DSp} (cs:CSs) (F:Fun K x qu st f fd) (hB:Blt mg) (tab:Zv K=true) (Sc:FnScope N ps (Yq st))
  (ck:isSs ⟨N,Yq st,true,true⟩ true cs (YV st)=true) (on:onSs (FnE P w K mg base k) (GloE K mg) cs)
  (len:∀ ds M R E,S ds M R E->ds.length=ps.length)
  (vc:∀ ds M R E,S ds M R E->rSs cs {nx:=fun _ M'=>R .non M',rt:=R,ex:=fun _=>E} (Y1 N.length ds) M):FnOk P w K mg base (CXR P w) (k+1) f fd ps (XW K S):=by
 obtain⟨oc,od,kV,doc,pm,an,cdv,ct,osl,rfl,lk,hcd⟩:=F.ex;refine KH lk hcd Sc (fun vs H Q E ⟨ds,M,R,Ed,r,_,h,_⟩=>by rw[r.length];exact len ds M R _ h) fun A outer s H vs Q E hr ⟨ds,M,R,Ed,r,rm,h,q,qe⟩=>?_;refine⟨Yt (cxOf (CXR P w) P w K mg base N qu (Yq st) f cdv A outer s H E) true (rSs cs),?_,?_⟩
 ·refine sSs cs true ⟨N,Yq st,true,true⟩ _ _ ⟨rfl,Sc.nd,fun x κ e _=>e,fun x e=>.inr e,fun _ _=>rfl,fun _=>rfl,fun _=>hr.mono (Nat.zero_le _),Nat.lt_of_le_of_lt (Nat.le_trans (Nat.add_le_add_left (by decide:66<=200) _) (Nat.add_le_add_right (Nat.le_add_right _ _) _)) hr.un,hB,PassesOwn.leaving,tab,fun _=>⟨rfl,rfl⟩⟩ Sc.kind ?_ ck
  exact YH cs (fun _ x S ⟨f',fd',ps',a,b,c,d⟩=>⟨k,f',fd',ps',a,b,fun _=>hr,c,d⟩) (fun x d ⟨u,v,a,b,c⟩=>⟨u,v,a,b,c⟩) on
 ·exact⟨Y1 N.length ds,M,{nx:=fun _ M'=>R .non M',rt:=R,ex:=fun _=>Ed},⟨BD r,Ct qe⟩,rm,vc ds M R Ed h,fun δ' M' σ' H' x _ m h'=>q _ _ _ _ x m .non h',fun d M' v H' x m rr h'=>q _ _ _ _ x m rr h',fun _ _ _ _ _ _ _ z=>z.elim,fun _ _ _ _ _ _ _ z=>z.elim⟩
theorem IK {x:Str} {st:Stmt} {f:Addr} {fd:FuncData} {N ps:List Str} {k:Nat} {S:DSp} (cs:CSs) (F:Fun K x x st f fd) (hm:mg x=some (.ref f)) (hb:Binds K fd ps []) (hB:Blt mg) (tab:Zv K=true) (Sc:FnScope N ps (Yq st))
  (ck:isSs ⟨N,Yq st,true,true⟩ true cs (YV st)=true) (on:onSs (FnE P w K mg base k) (GloE K mg) cs)
  (len:∀ ds M R E,S ds M R E->ds.length=ps.length)
  (vc:∀ ds M R E,S ds M R E->rSs cs {nx:=fun _ M'=>R .non M',rt:=R,ex:=fun _=>E} (Y1 N.length ds) M):FnE P w K mg base (k+1) "" x S :=
 ⟨f,fd,ps,by rw[ini0];exact EA cs F hB tab Sc ck on len vc,by rw[ini0];exact Nat.zero_le _,⟨fun _=>⟨hm,F.kp⟩,fun z=>absurd rfl z⟩,hb⟩
theorem usS (h:us.length=n+1):∃ a r,us=a::r/\r.length=n:=by
 cases us with
 | nil=>exact absurd h (Nat.succ_ne_zero n).symm
 | cons a r=>exact⟨a,r,rfl,Nat.succ.inj h⟩
theorem us0 (h:us.length=0):us=[]:=by
 cases us with
 | nil=>rfl
 | cons a r=>exact absurd h (Nat.succ_ne_zero _)
theorem us1 (h:us.length=1):∃ a,us=[a]:=by
 obtain⟨a,r,rfl,g⟩:=usS h;obtain rfl:=us0 g;exact⟨a,rfl⟩
theorem us2 (h:us.length=2):∃ a b,us=[a,b]:=by
 obtain⟨a,r,rfl,g⟩:=usS h;obtain⟨b,rfl⟩:=us1 g;exact⟨a,b,rfl⟩
theorem us3 (h:us.length=3):∃ a b c,us=[a,b,c]:=by
 obtain⟨a,r,rfl,g⟩:=usS h;obtain⟨b,c,rfl⟩:=us2 g;exact⟨a,b,c,rfl⟩
theorem us4 (h:us.length=4):∃ a b c d,us=[a,b,c,d]:=by
 obtain⟨a,r,rfl,g⟩:=usS h;obtain⟨b,c,d,rfl⟩:=us3 g;exact⟨a,b,c,d,rfl⟩
theorem BX (X:K.In h) (G:h.Ns mainGlobals mg) (e:PySem.W.nsIn K mainGlobals n=some (some (.ref C))):GloE K mg n (.fn n) :=
 ⟨.ref C,.ref C,PySem.W.mg_of X G e,rfl,fun _=>.fn e⟩
theorem Wt (X:K.In h) (G:h.Ns mainGlobals mg) (e:PySem.W.nsIn K mainGlobals n=some (some (.ref C))) (lo:(C==sysModules)=false) (lk:K.lookup C=some o) (ex:o.ExactDict) (hd:o.data=.dict es ep) (en:EntK es.toList xs us) (rv:Vals vs us) (r:∀ H,RelDs K H vs ds):GloE K mg n (.sd xs ds) :=
 ⟨.ref C,.ref C,PySem.W.mg_of X G e,rfl,fun H=>.sd ⟨lo,o,es,ep,us,lk,ex,hd,en,rv⟩ (r H)⟩
theorem Xb (X:K.In h) (G:h.Ns mainGlobals mg) (hn:n∈xNames) (e:PySem.W.nsIn K mainGlobals n=some (some (.ref C))):GloE K mg n (.cls n) :=
 ⟨.ref C,.ref C,PySem.W.mg_of X G e,rfl,fun _=>.cls hn e⟩
end
structure Script (ns:List Int):Prop where
 len:ns.length<=63
 bits:∀ n∈ns,Builtin.Int.intBits n<=1048576
noncomputable def SLaw:DSp:=fun ds M Q _=>∃ ns:List Int,ds=[.fz (ns.map .int)]/\Script ns/\∀ M',Q (.bl true) M'
theorem Xj:∀ {ns:List Int},PySem.W.WData.weightAll (ns.map PySem.W.WData.int)<=2 ^ 20->∀ n∈ns,Builtin.Int.intBits n<=1048576
 | n::r,h,m,hm=>by
  simp only[List.map_cons,PySem.W.WData.weightAll] at h;rcases List.mem_cons.mp hm with rfl|hm
  ·have e:Builtin.Int.intBits m=PySem.W.WData.weight (.int m):=by
    unfold Builtin.Int.intBits PySem.W.WData.weight
    rfl
   rw[e];omega
  ·exact Xj %[|5] m hm
theorem walkD {l:PySem.W.OpenLaw} {q:Program} {loose:List Str} {XP:(Str->Option Value)->Heap->Prop} {YP:World->Heap->Prop} {d:DefRec} {K:Params->Frag} {x:Str} {k:Nat} (hn:l.most=some 63) (hdf:d.params.defaults=[])
  (hr:Room k callerA) (hY:∀ (w:World) (h:Heap),YP w h->(K w.params).In h)
  (F:∀ (w:World) (mg:Str->Option Value) (fa:Addr) (h:Heap),(K w.params).In h->h.Ns mainGlobals mg->mg d.name=some (.ref fa) ->
   ∃ fd:FuncData,(∀ (s:Shared) (u:Value),BindsTo s fd ⟨[u],[]⟩ [(x,u)])/\∀ base:Heap,(K w.params).In base->base.Ns mainGlobals mg->FnOk l.prog w (K w.params) mg base (CXR l.prog w) k fa fd [x] (XW (K w.params) SLaw)) :
  PySem.W.WalkO q loose XP YP l.row.toRowW d [] (fun f vs=>PySem.call f vs):=by
 intro w s₀ s₁ mg mb G Y fa o pm cd doc dV kV ho hd hcd hD hmg hg args vals as hpre hlay hrd hwl hlo;obtain rfl:dV=.none:=PySem.W.Dflts.none hD hdf;obtain rfl:kV=.none:=PySem.W.Dflts.noKw hD;obtain⟨a,vs,ns,rfl,rfl,hobj,hints,hlen⟩:=Att.script_of hn hpre hwl;have KX:=hY w _ Y;obtain⟨fd,hb,hF⟩:=F w mg fa _ KX G.T.g hmg;have hbits:∀ n∈ns,Builtin.Int.intBits n<=1048576:=by
  refine Xj ?_;simp only[PySem.W.WData.layableAll,List.all_cons,List.all_nil,Bool.and_true,PySem.W.WData.layable,Bool.and_eq_true,decide_eq_true_eq] at hlay;exact hlay.2
 refine PySem.W.enter_call (codeAny_mono (DH KX G.T.g G.T.b G.T.builtins G.T.nolimit hg hobj hints (Nat.le_trans hlen %[|4]) hr hF hb (fun H hO hS=>?_) fun H e s' ⟨_,_,_,_,_,_,z⟩=>z) fun r s' hq=>?_)
 ·have hf:SqF (K w.params) H a (ns.map V.int):=by
   rcases hS with (hS|⟨o,hS⟩)|hS
   ·rcases hO a with z|⟨o,xs,z⟩<;>rw[hS] at z<;>cases z
   ·exact .inl ⟨o,hS⟩
   ·exact .inr hS
  exact⟨[.fz (ns.map .int)],fun _=>none,fun d _=>d=.bl true,fun _ _=>False,.cons (.fz hf (.ints ns)) .nil,.nil,⟨ns,rfl,⟨hlen,hbits⟩,fun _=>rfl⟩,fun d' M' v H' _ _ r h=>by subst h;cases r;rfl,fun _ _ _ _ _ _ _ _ _ _ _ z=>z.elim⟩
 ·obtain⟨rfl,h2,h3,h4⟩:=hq
  exact⟨.inl ⟨.bool true,.bool true,[],rfl,fun _=>rfl,.bool true,Att.post_true l _,fun _=>⟨List.Pairwise.nil,fun _ hm=>(nomatch hm)⟩⟩,h2,h3,h4⟩
structure DefIs (s:Stmt) (N:List Str) (n:Nat) (C:CSs) (S:DSp):Prop where
 sc:FnScope N (N.take n) (Yq s)
 ck:isSs ⟨N,Yq s,true,true⟩ true C (YV s)=true
 len:∀ ds M R E,S ds M R E->ds.length=(N.take n).length
 vc:∀ ds M R E,S ds M R E->rSs C {nx:=fun _ M'=>R .non M',rt:=R,ex:=fun _=>E} (Y1 N.length ds) M
 bd:∀ (q:Str) (kV doc pm:Value) (an:Option Addr) (cdv ct:Value) (us:List Value),us.length=(N.take n).length->bindArgs (PySem.W.fnOf q q (ZL s) (YV s) (Yq s) .none kV doc pm an cdv ct) ⟨us,[]⟩=pure ((N.take n).zip us)
inductive Has (K:Frag) (q:Str) (s:Stmt):Prop
 | mk {f:Addr} {oc:Value} {od an:Option Addr} {sl:Array (Option Value)} {kV dc pm cd ct:Value} (a:PySem.W.nsIn K mainGlobals q=some (some (.ref f))) (l:K.lookup f=some ⟨oc,od,.func (PySem.W.fnOf q q (ZL s) (YV s) (Yq s) .none kV dc pm an cd ct),sl⟩) (c:PySem.W.codeIn K cd q=true) (k:PySem.W.keepIn K (.ref f)=true):Has K q s
theorem Xa {K:Frag} {h:Heap} {mg:Str->Option Value} {q:Str} {s:Stmt} (X:K.In h) (G:h.Ns mainGlobals mg) (H:Has K q s):GloE K mg q (.fn q):=by
 obtain⟨a,_,_,_⟩:=H;exact BX X G a
structure Zc (P:Program) (w:World) (K:Frag) (h:Heap) (mg:Str->Option Value) (base:Heap):Prop where
 X:K.In h
 G:h.Ns mainGlobals mg
 B:Blt mg
 tab:Zv K=true
theorem DefIs.ok {P:Program} {w:World} {K:Frag} {h:Heap} {mg:Str->Option Value} {base:Heap} {s:Stmt} {N:List Str} {n:Nat} {C:CSs} {S:DSp} {q:Str} (k:Nat) (D:DefIs s N n C S) (H:Has K q s) (Z:Zc P w K h mg base) (on:onSs (FnE P w K mg base k) (GloE K mg) C):FnE P w K mg base (k+1) "" q S:=by
 obtain⟨a,l,c,kp⟩:=H;exact IK C (Av l c kp) (PySem.W.mg_of Z.X Z.G a) ((Av (st:=s) l c kp).binds (D.bd q)) Z.B Z.tab D.sc D.ck on D.len D.vc
end DL
end
noncomputable section
namespace Q
theorem JK {a b:Int} (h:b≠0):0<Int.gcd a b:=Int.gcd_pos_of_ne_zero_right _ h
theorem Dz (a b:Int) (h:b≠0):a.fdiv (if b<0 then -(Int.gcd a b:Int) else Int.gcd a b)=(Rat.divInt a b).num/\b.fdiv (if b<0 then -(Int.gcd a b:Int) else Int.gcd a b)=((Rat.divInt a b).den:Int):=by
 have hg:=JK (a:=a) h;obtain⟨x,hx⟩:(Int.gcd a b:Int) ∣ a:=Int.gcd_dvd_left ..;obtain⟨y,hy⟩:(Int.gcd a b:Int) ∣ b:=Int.gcd_dvd_right ..;have gc:Int.gcd b a=Int.gcd a b:=Int.gcd_comm b a;rw[Rat.num_divInt,Rat.den_divInt,if_neg h,gc];generalize hgg:Int.gcd a b=g at *;have g0:(g:Int)≠0:=by omega
 have hy0:y≠0:=fun z=>h (by rw[hy,z,Int.mul_zero]);by_cases hb:b<0
 ·rw[if_pos hb]
  have yneg:y<0:=by
   rcases Int.lt_trichotomy y 0 with z|z|z
   ·exact z
   ·exact absurd z hy0
   ·have:=Int.mul_pos (by omega:(0:Int)<g) z;omega
  have sb:b.sign=-1:=Int.sign_eq_neg_one_of_neg hb;have e1:a=(-(g:Int))*(-x):=by rw[Int.neg_mul_neg];exact hx
  have e2:b=(-(g:Int))*(-y):=by rw[Int.neg_mul_neg];exact hy
  have n0:(-(g:Int))≠0:=by omega
  constructor
  ·conv=>lhs;rw[e1]
   rw[Int.mul_fdiv_cancel_left _ n0,sb];have:(-1*a)=(g:Int)*(-x):=by rw[hx,Int.mul_neg];omega
   rw[this,Int.mul_ediv_cancel_left _ g0]
  ·conv=>lhs;rw[e2]
   rw[Int.mul_fdiv_cancel_left _ n0];have e3:b.natAbs=g*(-y).natAbs:=by rw[hy,Int.natAbs_mul];simp
   rw[e3,Nat.mul_div_cancel_left _ hg];omega
 ·rw[if_neg hb]
  have ypos:0<y:=by
   rcases Int.lt_trichotomy y 0 with z|z|z
   ·have:=Int.mul_neg_of_pos_of_neg (by omega:(0:Int)<g) z;omega
   ·exact absurd z hy0
   ·exact z
  have sb:b.sign=1:=Int.sign_eq_one_of_pos %[|5];constructor
  ·conv=>lhs;rw[hx]
   rw[Int.mul_fdiv_cancel_left _ g0,sb,Int.one_mul]
   conv=>rhs;rw[hx]
   rw[Int.mul_ediv_cancel_left _ g0]
  ·conv=>lhs;rw[hy]
   rw[Int.mul_fdiv_cancel_left _ g0];have e3:b.natAbs=g*y.natAbs:=by rw[hy,Int.natAbs_mul];simp
   rw[e3,Nat.mul_div_cancel_left _ hg];omega
theorem Ya (q:Rat):Rat.divInt q.num q.den=q:=Rat.num_divInt_den q
theorem Ee (q:Rat):Int.gcd q.num q.den=1:=q.reduced
theorem Xd (q:Rat):(0:Int)<q.den:=by have:=q.den_nz;omega
theorem Ag {a b:Int} (hb:1<=b) (hg:Int.gcd a b=1):(Rat.divInt a b).num=a/\((Rat.divInt a b).den:Int)=b:=by
 have gc:Int.gcd b a=1:=by rw[Int.gcd_comm];exact hg
 rw[Rat.num_divInt,Rat.den_divInt,if_neg %[|5],gc,Int.sign_eq_one_of_pos %[|5]];simp;omega
theorem AI (p q:Rat):Rat.divInt (p.num*q.den+q.num*p.den) (p.den*q.den)=p+q:=by
 rw[<- Rat.divInt_add_divInt _ _ (by have:=p.den_nz;omega) (by have:=q.den_nz;omega),Ya,Ya]
theorem A8 (p q:Rat):Rat.divInt (p.num*q.den-q.num*p.den) (p.den*q.den)=p-q:=by
 rw[<- Rat.divInt_sub_divInt _ _ (by have:=p.den_nz;omega) (by have:=q.den_nz;omega),Ya,Ya]
theorem Dt (p q:Rat):Rat.divInt (p.num*q.num) (p.den*q.den)=p*q:=by
 rw[<- Rat.divInt_mul_divInt,Ya,Ya]
theorem Ey (p q:Rat):Rat.divInt (p.num*q.den) (p.den*q.num)=p / q:=by
 rw[Rat.div_def,Rat.inv_def,<- Rat.divInt_mul_divInt,Ya]
theorem GN (p q:Rat):p.num*q.den<q.num*p.den ↔ p<q:=(Rat.lt_iff p q).symm
noncomputable def Sz (n:Nat) (q:Rat):Prop:=q.num.natAbs<2 ^ n/\q.den<2 ^ n
theorem Sz.mono {m n:Nat} {q:Rat} (h:Sz m q) (k:m<=n):Sz n q:=⟨Nat.lt_of_lt_of_le h.1 (Nat.pow_le_pow_right %[|4] k),Nat.lt_of_lt_of_le h.2 (Nat.pow_le_pow_right %[|4] k)⟩
theorem divInt_le (a b:Int) (h:b≠0):(Rat.divInt a b).num.natAbs<=a.natAbs/\(Rat.divInt a b).den<=b.natAbs:=by
 rw[Rat.num_divInt,Rat.den_divInt,if_neg h];constructor
 ·have:(b.sign*a).natAbs<=a.natAbs:=by
   rw[Int.natAbs_mul];have:b.sign.natAbs<=1:=by rcases Int.lt_trichotomy b 0 with z|z|z<;>simp[Int.sign_eq_neg_one_of_neg,Int.sign_eq_one_of_pos,z]
   exact Nat.le_trans (Nat.mul_le_mul_right _ this) (by simp)
  exact Nat.le_trans (Int.natAbs_ediv_le_natAbs _ _) this
 ·exact Nat.div_le_self _ _
theorem ZQ {a b:Int} {n:Nat} (h:b≠0) (ha:a.natAbs<2 ^ n) (hb:b.natAbs<2 ^ n):Sz n (Rat.divInt a b) :=
 ⟨Nat.lt_of_le_of_lt (divInt_le a b h).1 ha,Nat.lt_of_le_of_lt (divInt_le a b h).2 hb⟩
theorem An {a b m n:Nat} (ha:a<2 ^ m) (hb:b<2 ^ n):a*b<2 ^ (m+n):=by
 rw[Nat.pow_add];exact Nat.mul_lt_mul'' ha hb
theorem YR {a b:Int} {m n:Nat} (ha:a.natAbs<2 ^ m) (hb:b.natAbs<2 ^ n):(a*b).natAbs<2 ^ (m+n):=by
 rw[Int.natAbs_mul];exact An ha hb
theorem GA {a b:Int} {n:Nat} (ha:a.natAbs<2 ^ n) (hb:b.natAbs<2 ^ n):(a+b).natAbs<2 ^ (n+1):=by
 have:=Int.natAbs_add_le a b;rw[Nat.pow_succ];omega
theorem Gz {a b:Int} {n:Nat} (ha:a.natAbs<2 ^ n) (hb:b.natAbs<2 ^ n):(a-b).natAbs<2 ^ (n+1):=by
 have:=Int.natAbs_sub_le a b;rw[Nat.pow_succ];omega
theorem Yk {n:Nat} {q:Rat} (h:Sz n q):(q.den:Int).natAbs<2 ^ n:=by simpa using h.2
theorem XA (p q:Rat):(p.den:Int)*q.den≠0:=by
 have:=Xd p;have:=Xd q;exact Int.ne_of_gt (Int.mul_pos %[|5] %[|5])
theorem Sz.add {m n:Nat} {p q:Rat} (hp:Sz m p) (hq:Sz n q):Sz (m+n+1) (p+q):=by
 rw[<- AI];refine ZQ (XA p q) (GA (YR hp.1 (Yk hq)) ?_) (Nat.lt_of_lt_of_le (YR (Yk hp) (Yk hq)) (Nat.pow_le_pow_right %[|4] %[|5]));rw[Nat.add_comm];exact YR hq.1 (Yk hp)
theorem Sz.sub {m n:Nat} {p q:Rat} (hp:Sz m p) (hq:Sz n q):Sz (m+n+1) (p-q):=by
 rw[<- A8];refine ZQ (XA p q) (Gz (YR hp.1 (Yk hq)) ?_) (Nat.lt_of_lt_of_le (YR (Yk hp) (Yk hq)) (Nat.pow_le_pow_right %[|4] %[|5]));rw[Nat.add_comm];exact YR hq.1 (Yk hp)
theorem Sz.mul {m n:Nat} {p q:Rat} (hp:Sz m p) (hq:Sz n q):Sz (m+n) (p*q):=by
 rw[<- Dt];exact ZQ (XA p q) (YR hp.1 hq.1) (YR (Yk hp) (Yk hq))
theorem Dj {q:Rat} (h:q≠0):q.num≠0:=fun z=>h (Rat.num_eq_zero.mp z)
theorem Sz.div {m n:Nat} {p q:Rat} (hp:Sz m p) (hq:Sz n q) (h:q≠0):Sz (m+n) (p / q):=by
 rw[<- Ey];have:=Xd p;exact ZQ (Int.mul_ne_zero %[|5] (Dj h)) (YR hp.1 (Yk hq)) (YR (Yk hp) hq.1)
theorem Sz.int {n:Nat} {i:Int} (h:i.natAbs<2 ^ n) (h1:1<=n):Sz n (i:Rat):=⟨by simpa using h,by
 show (1:Nat) < _;exact Nat.one_lt_two_pow %[|5]⟩
end Q
end
noncomputable section
namespace Q
theorem Ki (d:Nat->Rat) (n:Nat) (h:∀ k,0<k->k<n->0<d k->d k-d (k-1)<=d (k+1)-d k):∀ m i,n-i=m->0<i->i<=n->0<d i->0<d i-d (i-1)->0<d n:=by
 intro m
 induction m with
 | zero =>
  intro i e h0 h1 h2 _;have:i=n:=by omega
  subst this;exact h2
 | succ m ih =>
  intro i e h0 h1 h2 h3;have hi:i<n:=by omega
  have:=h i h0 hi h2;refine ih (i+1) %[|5] %[|5] %[|5] (by grind) ?_;rw[Nat.add_sub_cancel];grind
theorem climbs (d:Nat->Rat) (h0:d 0<=0):∀ k,0<d k->∃ i,0<i/\i<=k/\0<d i/\0<d i-d (i-1):=by
 intro k
 induction k with
 | zero=>intro h;grind
 | succ k ih =>
  intro h;by_cases hk:0<d k
  ·obtain⟨i,a,b,c,e⟩:=ih hk
   exact⟨i,a,by omega,c,e⟩
  ·exact⟨k+1,by omega,by omega,h,by rw[Nat.add_sub_cancel];grind⟩
theorem maxp (d:Nat->Rat) (n:Nat) (h0:d 0<=0) (hn:d n<=0) (h:∀ k,0<k->k<n->0<d k->d k-d (k-1)<=d (k+1)-d k):∀ k,k<=n->d k<=0:=by
 intro k hk;by_cases hd:0<d k
 ·obtain⟨i,a,b,c,e⟩:=climbs d h0 k hd
  have:=Ki d n h (n-i) i rfl a %[|5] c e;grind
 ·grind
structure Taut (lo hi r:Nat->Rat) (n:Nat):Prop where
 low:∀ k,k<=n->lo k<=r k
 high:∀ k,k<=n->r k<=hi k
 up:∀ k,0<k->k<n->r k-r (k-1)<r (k+1)-r k->r k=hi k
 down:∀ k,0<k->k<n->r (k+1)-r k<r k-r (k-1)->r k=lo k
theorem Taut.le {lo hi r lo' hi' r':Nat->Rat} {n:Nat} (a:Taut lo hi r n) (b:Taut lo' hi' r' n) (hl:∀ k,k<=n->lo k<=lo' k) (hh:∀ k,k<=n->hi k<=hi' k) (h0:r 0<=r' 0) (hn:r n<=r' n):∀ k,k<=n->r k<=r' k:=by
 intro k hk;have:=maxp (fun k=>r k-r' k) n (by grind) (by grind) (fun k k0 kn hd=>?_) k hk
 ·grind
 ·have l1:=hl k %[|5];have l2:=hh k %[|5];have l3:=b.low k %[|5];have l4:=a.high k %[|5];have l5:=a.low k %[|5];have l6:=b.high k %[|5]
  have u:=b.up k k0 kn;have d:=a.down k k0 kn;by_cases h1:r (k+1)-r k<r k-r (k-1)
  ·have:=d h1;grind
  ·by_cases h2:r' k-r' (k-1)<r' (k+1)-r' k
   ·have:=u h2;grind
   ·grind
theorem Taut.unique {lo hi r r':Nat->Rat} {n:Nat} (a:Taut lo hi r n) (b:Taut lo hi r' n) (h0:r 0=r' 0) (hn:r n=r' n):∀ k,k<=n->r k=r' k:=by
 intro k hk;have x:=a.le b (fun _ _=>by grind) (fun _ _=>by grind) (by grind) (by grind) k hk;have y:=b.le a (fun _ _=>by grind) (fun _ _=>by grind) (by grind) (by grind) k hk;grind
noncomputable def line (b:Nat) (h s:Rat) (t:Nat):Rat:=h+s*((t:Rat)-(b:Rat))
structure Free (lo hi:Nat->Rat) (b:Nat) (h s:Rat) (e:Nat):Prop where
 low:∀ t,b<t->t<e->lo t<=line b h s t
 high:∀ t,b<t->t<e->line b h s t<=hi t
inductive Seg (lo hi:Nat->Rat) (n b:Nat) (h s:Rat) (p:Nat):Prop
 | up (at_:Nat) (hb:b<p) (hp:p<at_) (hn:at_<=n) (f:Free lo hi b h s at_) (t:line b h s p=hi p) (g:∀ t,p<t->t<at_->line b h s t<hi t) (z:line b h s at_<lo at_)
 | down (at_:Nat) (hb:b<p) (hp:p<at_) (hn:at_<=n) (f:Free lo hi b h s at_) (t:line b h s p=lo p) (g:∀ t,p<t->t<at_->lo t<line b h s t) (z:hi at_<line b h s at_)
 | fin (hb:b<p) (hp:p=n) (f:Free lo hi b h s (n+1))
theorem U7 (b:Nat) (h s:Rat) (p t:Nat):line p (line b h s p) s t=line b h s t:=by unfold line;grind
theorem B4 {b:Nat} {h s s':Rat} {t:Nat} (hb:b<t) (hl:line b h s t<line b h s' t):s<s':=by
 unfold line at hl;have hp:(0:Rat)<(t:Rat)-(b:Rat):=by
  have:(b:Rat)<(t:Rat):=by exact_mod_cast hb
  grind
 have h1:s*((t:Rat)-b)<s'*((t:Rat)-b):=by grind
 apply Decidable.byContradiction;intro hn;have:s'<=s:=by grind
 have:=Rat.mul_le_mul_of_nonneg_right this (Rat.le_of_lt hp);grind
theorem Seg.after_up {lo hi:Nat->Rat} {n b:Nat} {h s:Rat} {p at_ q:Nat} {s':Rat} (ok:∀ t,t<=n->lo t<=hi t) (hp:p<at_) (hn:at_<=n) (f:Free lo hi b h s at_) (hb:b<p)
  (g:∀ t,p<t->t<at_->line b h s t<hi t) (z:line b h s at_<lo at_) (S:Seg lo hi n p (line b h s p) s' q):s<s':=by
 have key:∀ t,p<t->line b h s t<line p (line b h s p) s' t->s<s':=fun t ht hl=>by
  rw[<- U7 b h s p t] at hl;exact B4 ht hl
 cases S with
 | up a2 h1 h2 h3 f2 t2 g2 z2 =>
  by_cases hq:q<at_
  ·exact key q h1 (by rw[t2];exact g q h1 hq)
  ·have:=f2.low at_ hp %[|5]
   exact key at_ hp (by grind)
 | down a2 h1 h2 h3 f2 t2 g2 z2 =>
  by_cases ha:a2<at_
  ·have:=g a2 %[|5] ha
   exact key a2 %[|5] (by grind)
  ·by_cases he:at_<a2
   ·have:=f2.low at_ hp he
    exact key at_ hp (by grind)
   ·have e:at_=a2:=by omega
    subst e;have:=ok at_ hn;exact key at_ hp (by grind)
 | fin h1 h2 f2 =>
  have:=f2.low at_ hp %[|5];exact key at_ hp (by grind)
theorem Seg.after_down {lo hi:Nat->Rat} {n b:Nat} {h s:Rat} {p at_ q:Nat} {s':Rat} (ok:∀ t,t<=n->lo t<=hi t) (hp:p<at_) (hn:at_<=n) (f:Free lo hi b h s at_) (hb:b<p)
  (g:∀ t,p<t->t<at_->lo t<line b h s t) (z:hi at_<line b h s at_) (S:Seg lo hi n p (line b h s p) s' q):s'<s:=by
 have key:∀ t,p<t->line p (line b h s p) s' t<line b h s t->s'<s:=fun t ht hl=>by
  rw[<- U7 b h s p t] at hl;exact B4 ht hl
 cases S with
 | up a2 h1 h2 h3 f2 t2 g2 z2 =>
  by_cases ha:a2<at_
  ·have:=g a2 %[|5] ha
   exact key a2 %[|5] (by grind)
  ·by_cases he:at_<a2
   ·have:=f2.high at_ hp he
    exact key at_ hp (by grind)
   ·have e:at_=a2:=by omega
    subst e;have:=ok at_ hn;exact key at_ hp (by grind)
 | down a2 h1 h2 h3 f2 t2 g2 z2 =>
  by_cases hq:q<at_
  ·exact key q h1 (by rw[t2];exact g q h1 hq)
  ·have:=f2.high at_ hp %[|5]
   exact key at_ hp (by grind)
 | fin h1 h2 f2 =>
  have:=f2.high at_ hp %[|5];exact key at_ hp (by grind)
structure Drawn (lo hi r:Nat->Rat) (n b:Nat):Prop where
 le:b<=n
 low:∀ k,k<=b->lo k<=r k
 high:∀ k,k<=b->r k<=hi k
 up:∀ k,0<k->k<b->r k-r (k-1)<r (k+1)-r k->r k=hi k
 down:∀ k,0<k->k<b->r (k+1)-r k<r k-r (k-1)->r k=lo k
 pend:b=0\/b=n\/∃ a h s,a<b/\r b-r (b-1)=s/\r b=line a h s b/\Seg lo hi n a h s b
theorem U6 (b:Nat) (h s:Rat) (t:Nat) (ht:0<t):line b h s t-line b h s (t-1)=s:=by
 unfold line;have:((t-1:Nat):Rat)=(t:Rat)-1:=by
  obtain⟨k,rfl⟩:∃ k,t=k+1:=⟨t-1,by omega⟩;rw[Nat.add_sub_cancel];have:((k+1:Nat):Rat)=(k:Rat)+1:=by push_cast;rfl
  grind
 grind
theorem FL (b:Nat) (h s:Rat):line b h s b=h:=by unfold line;grind
theorem Drawn.next {lo hi r:Nat->Rat} {n b:Nat} (D:Drawn lo hi r n b) (hb:b<n) (ok:∀ t,t<=n->lo t<=hi t) (tie:lo n=hi n) {s:Rat} {p:Nat} (S:Seg lo hi n b (r b) s p) (hr:∀ t,b<t->t<=p->r t=line b (r b) s t):Drawn lo hi r n p:=by
 have hbp:b<p/\p<=n:=by cases S<;>omega
 have bnd:∀ t,b<t->t<=p->lo t<=line b (r b) s t/\line b (r b) s t<=hi t:=fun t h1 h2=>by
  cases S with
  | up a _ h4 _ f=>exact⟨f.low t h1 %[|5],f.high t h1 %[|5]⟩
  | down a _ h4 _ f=>exact⟨f.low t h1 %[|5],f.high t h1 %[|5]⟩
  | fin _ h4 f=>exact⟨f.low t h1 %[|5],f.high t h1 %[|5]⟩
 have st:∀ t,b<t->t<=p->r t-r (t-1)=s:=fun t h1 h2=>by
  rw[hr t h1 h2];by_cases h3:b<t-1
  ·rw[hr (t-1) h3 %[|5]];exact U6 _ _ _ _ %[|5]
  ·have e:t-1=b:=by omega
   rw[e];have:=U6 b (r b) s t %[|5];rw[e,FL] at this;exact this
 have atb:0<b->(r b-r (b-1)<s->r b=hi b)/\(s<r b-r (b-1)->r b=lo b):=fun h0=>by
  rcases D.pend with z|z|⟨a,h,s0,ha,e1,e2,S0⟩
  ·omega
  ·omega
  ·rw[e2] at S
   cases S0 with
   | up x h1 h2 h3 f t g zz =>
    have:=Seg.after_up ok h2 h3 f h1 g zz S;exact⟨fun _=>by rw[e2];exact t,fun z=>by grind⟩
   | down x h1 h2 h3 f t g zz =>
    have:=Seg.after_down ok h2 h3 f h1 g zz S;exact⟨fun z=>by grind,fun _=>by rw[e2];exact t⟩
   | fin h1 h2 f=>omega
 refine⟨hbp.2,fun k hk=>?_,fun k hk=>?_,fun k k0 kp z=>?_,fun k k0 kp z=>?_,?_⟩
 ·by_cases h:k<=b
  ·exact D.low k h
  ·rw[hr k %[|5] hk];exact (bnd k %[|5] hk).1
 ·by_cases h:k<=b
  ·exact D.high k h
  ·rw[hr k %[|5] hk];exact (bnd k %[|5] hk).2
 ·by_cases h:k<b
  ·exact D.up k k0 h z
  ·have n1:=st (k+1) %[|5] %[|5]
   rw[Nat.add_sub_cancel] at n1;by_cases h2:k=b
   ·subst h2;exact (atb k0).1 (by grind)
   ·have n2:=st k %[|5] %[|5]
    grind
 ·by_cases h:k<b
  ·exact D.down k k0 h z
  ·have n1:=st (k+1) %[|5] %[|5]
   rw[Nat.add_sub_cancel] at n1;by_cases h2:k=b
   ·subst h2;exact (atb k0).2 (by grind)
   ·have n2:=st k %[|5] %[|5]
    grind
 ·by_cases hpn:p=n
  ·exact .inr (.inl hpn)
  ·exact .inr (.inr ⟨b,r b,s,hbp.1,st p hbp.1 %[|3],hr p hbp.1 %[|3],S⟩)
theorem Drawn.start {lo hi r:Nat->Rat} {n:Nat} (h:lo 0<=r 0) (h':r 0<=hi 0):Drawn lo hi r n 0:=by
 refine⟨Nat.zero_le _,fun k hk=>?_,fun k hk=>?_,fun k a b=>by omega,fun k a b=>by omega,.inl rfl⟩
 ·obtain rfl:k=0:=by omega
  exact h
 ·obtain rfl:k=0:=by omega
  exact h'
theorem Drawn.congr {lo hi r r':Nat->Rat} {n b:Nat} (D:Drawn lo hi r n b) (h:∀ k,k<=b->r k=r' k):Drawn lo hi r' n b:=by
 refine⟨D.le,fun k hk=>by rw[<- h k hk];exact D.low k hk,fun k hk=>by rw[<- h k hk];exact D.high k hk,fun k k0 kb z=>?_,fun k k0 kb z=>?_,?_⟩
 ·rw[<- h k %[|5]];rw[<- h k %[|5],<- h (k-1) %[|5],<- h (k+1) %[|5]] at z;exact D.up k k0 kb z
 ·rw[<- h k %[|5]];rw[<- h k %[|5],<- h (k-1) %[|5],<- h (k+1) %[|5]] at z;exact D.down k k0 kb z
 ·rcases D.pend with z|z|⟨a,hh,s,h1,h2,h3,h4⟩
  ·exact .inl z
  ·exact .inr (.inl z)
  ·exact .inr (.inr ⟨a,hh,s,h1,by rw[<- h b %[|5],<- h (b-1) %[|5]];exact h2,by rw[<- h b %[|5]];exact h3,h4⟩)
theorem Drawn.taut {lo hi r:Nat->Rat} {n:Nat} (D:Drawn lo hi r n n):Taut lo hi r n:=⟨D.low,D.high,D.up,D.down⟩
noncomputable def Y6 (b:Nat) (h:Rat) (t:Nat) (x:Rat):Rat:=(x-h) / ((t:Rat)-(b:Rat))
theorem Wg {b t:Nat} (hb:b<t):(0:Rat)<(t:Rat)-(b:Rat):=by
 have:(b:Rat)<(t:Rat):=by exact_mod_cast hb
 grind
theorem Yj {b t:Nat} (h x:Rat) (hb:b<t):line b h (Y6 b h t x) t=x:=by
 have:=Wg hb;unfold line Y6;grind
theorem Xr {b t:Nat} {h s s':Rat} (hb:b<t):line b h s t<=line b h s' t ↔ s<=s':=by
 constructor
 ·intro q
  apply Decidable.byContradiction;intro hn;have h1:s'<s:=by grind
  have h2:=Rat.mul_lt_mul_of_pos_right h1 (Wg hb);unfold line at q;grind
 ·intro q
  have h2:=Rat.mul_le_mul_of_nonneg_right q (Rat.le_of_lt (Wg hb));unfold line;grind
theorem WI {b t:Nat} {h s s':Rat} (hb:b<t):line b h s t<line b h s' t ↔ s<s':=by
 have:=Xr (h:=h) (s:=s') (s':=s) hb;grind
theorem Jg {b t:Nat} {h s x:Rat} (hb:b<t):Y6 b h t x<=s ↔ x<=line b h s t:=by
 rw[<- Xr (h:=h) hb,Yj h x hb]
theorem Xq {b t:Nat} {h s x:Rat} (hb:b<t):s<Y6 b h t x ↔ line b h s t<x:=by
 rw[<- WI (h:=h) hb,Yj h x hb]
theorem Xn {b t:Nat} {h s x:Rat} (hb:b<t):Y6 b h t x<s ↔ x<line b h s t:=by
 rw[<- WI (h:=h) hb,Yj h x hb]
structure Scan (lo hi:Nat->Rat) (b:Nat) (h:Rat) (la ha:Nat) (SL FH:Rat) (e:Nat):Prop where
 la0:b<la
 la1:la<e
 laE:SL=Y6 b h la (lo la)
 lo_le:∀ t,b<t->t<e->lo t<=line b h SL t
 lo_lt:∀ t,la<t->t<e->lo t<line b h SL t
 ha0:b<ha
 ha1:ha<e
 haE:FH=Y6 b h ha (hi ha)
 hi_le:∀ t,b<t->t<e->line b h FH t<=hi t
 hi_lt:∀ t,ha<t->t<e->line b h FH t<hi t
 le:SL<=FH
theorem Z6 {b t:Nat} {h s s':Rat} (hb:b<t) (q:s<=s'):line b h s t<=line b h s' t:=(Xr hb).mpr q
theorem Scan.first {lo hi:Nat->Rat} {b:Nat} {h:Rat} (ok:lo (b+1)<=hi (b+1)):Scan lo hi b h (b+1) (b+1) (Y6 b h (b+1) (lo (b+1))) (Y6 b h (b+1) (hi (b+1))) (b+2):=by
 have one:∀ t,b<t->t<b+2->t=b+1:=fun t a c=>by omega
 have hb:b<b+1:=by omega
 refine⟨hb,by omega,rfl,fun t a c=>?_,fun t a c=>by omega,hb,by omega,rfl,fun t a c=>?_,fun t a c=>by omega,?_⟩
 ·rw[one t a c,Yj _ _ hb];grind
 ·rw[one t a c,Yj _ _ hb];grind
 ·rw[Jg hb,Yj _ _ hb];exact ok
theorem Scan.up {lo hi:Nat->Rat} {b la ha e n:Nat} {h SL FH:Rat} (S:Scan lo hi b h la ha SL FH e) (he:e<=n) (hz:FH<Y6 b h e (lo e)):Seg lo hi n b h FH ha:=by
 have hbe:b<e:=Nat.lt_trans S.ha0 S.ha1;refine .up e S.ha0 S.ha1 he ⟨fun t a c=>?_,S.hi_le⟩ (by rw[S.haE,Yj _ _ S.ha0]) S.hi_lt ((Xq hbe).mp hz);have:=S.lo_le t a c;have:=Z6 (h:=h) a S.le;grind
theorem Scan.down {lo hi:Nat->Rat} {b la ha e n:Nat} {h SL FH:Rat} (S:Scan lo hi b h la ha SL FH e) (he:e<=n) (hz:Y6 b h e (hi e)<SL):Seg lo hi n b h SL la:=by
 have hbe:b<e:=Nat.lt_trans S.la0 S.la1;refine .down e S.la0 S.la1 he ⟨S.lo_le,fun t a c=>?_⟩ (by rw[S.laE,Yj _ _ S.la0]) S.lo_lt ((Xn hbe).mp hz);have:=S.hi_le t a c;have:=Z6 (h:=h) a S.le;grind
theorem Scan.step {lo hi:Nat->Rat} {b la ha e:Nat} {h SL FH:Rat} (S:Scan lo hi b h la ha SL FH e) (ok:lo e<=hi e) (h1:¬ FH<Y6 b h e (lo e)) (h2:¬ Y6 b h e (hi e)<SL) :
  Scan lo hi b h (if Y6 b h e (lo e)<SL then la else e) (if FH<Y6 b h e (hi e) then ha else e) (if Y6 b h e (lo e)<SL then SL else Y6 b h e (lo e)) (if FH<Y6 b h e (hi e) then FH else Y6 b h e (hi e)) (e+1):=by
 have hbe:b<e:=Nat.lt_trans S.la0 S.la1;have oks:Y6 b h e (lo e)<=Y6 b h e (hi e):=by rw[Jg hbe,Yj _ _ hbe];exact ok
 have sp:∀ t,t<e+1->t<e\/t=e:=fun t a=>by omega
 have lle:=S.le;by_cases c1:Y6 b h e (lo e)<SL<;>by_cases c2:FH<Y6 b h e (hi e)
 ·rw[if_pos c1,if_pos c2,if_pos c1,if_pos c2]
  refine⟨S.la0,by have:=S.la1;omega,S.laE,fun t a c=>?_,fun t a c=>?_,S.ha0,by have:=S.ha1;omega,S.haE,fun t a c=>?_,fun t a c=>?_,lle⟩
  ·rcases sp t c with q|rfl
   ·exact S.lo_le t a q
   ·exact Rat.le_of_lt ((Xn a).mp c1)
  ·rcases sp t c with q|rfl
   ·exact S.lo_lt t a q
   ·exact (Xn hbe).mp c1
  ·rcases sp t c with q|rfl
   ·exact S.hi_le t a q
   ·exact Rat.le_of_lt ((Xq a).mp c2)
  ·rcases sp t c with q|rfl
   ·exact S.hi_lt t a q
   ·exact (Xq hbe).mp c2
 ·rw[if_pos c1,if_neg c2,if_pos c1,if_neg c2]
  have c2':Y6 b h e (hi e)<=FH:=by grind
  refine⟨S.la0,by have:=S.la1;omega,S.laE,fun t a c=>?_,fun t a c=>?_,hbe,by omega,rfl,fun t a c=>?_,fun t a c=>by omega,by grind⟩
  ·rcases sp t c with q|rfl
   ·exact S.lo_le t a q
   ·exact Rat.le_of_lt ((Xn a).mp c1)
  ·rcases sp t c with q|rfl
   ·exact S.lo_lt t a q
   ·exact (Xn hbe).mp c1
  ·rcases sp t c with q|rfl
   ·have:=S.hi_le t a q;have:=Z6 (h:=h) a c2';grind
   ·rw[Yj _ _ a];grind
 ·rw[if_neg c1,if_pos c2,if_neg c1,if_pos c2]
  have c1':SL<=Y6 b h e (lo e):=by grind
  refine⟨hbe,by omega,rfl,fun t a c=>?_,fun t a c=>by omega,S.ha0,by have:=S.ha1;omega,S.haE,fun t a c=>?_,fun t a c=>?_,by grind⟩
  ·rcases sp t c with q|rfl
   ·have:=S.lo_le t a q;have:=Z6 (h:=h) a c1';grind
   ·rw[Yj _ _ a];grind
  ·rcases sp t c with q|rfl
   ·exact S.hi_le t a q
   ·exact Rat.le_of_lt ((Xq a).mp c2)
  ·rcases sp t c with q|rfl
   ·exact S.hi_lt t a q
   ·exact (Xq hbe).mp c2
 ·rw[if_neg c1,if_neg c2,if_neg c1,if_neg c2]
  have c1':SL<=Y6 b h e (lo e):=by grind
  have c2':Y6 b h e (hi e)<=FH:=by grind
  refine⟨hbe,by omega,rfl,fun t a c=>?_,fun t a c=>by omega,hbe,by omega,rfl,fun t a c=>?_,fun t a c=>by omega,oks⟩
  ·rcases sp t c with q|rfl
   ·have:=S.lo_le t a q;have:=Z6 (h:=h) a c1';grind
   ·rw[Yj _ _ a];grind
  ·rcases sp t c with q|rfl
   ·have:=S.hi_le t a q;have:=Z6 (h:=h) a c2';grind
   ·rw[Yj _ _ a];grind
theorem Scan.fin {lo hi:Nat->Rat} {b la ha n:Nat} {h SL FH:Rat} (S:Scan lo hi b h la ha SL FH (n+1)) (tie:lo n=hi n):ha=n/\la=n/\FH=Y6 b h n (hi n)/\Seg lo hi n b h FH n:=by
 have hbn:b<n:=by have:=S.la0;have:=S.la1;omega
 have l1:=S.lo_le n hbn %[|5];have l2:=S.hi_le n hbn %[|5];have l3:=Z6 (h:=h) hbn S.le;have e1:line b h FH n=hi n:=by grind
 have hh:ha=n:=by
  apply Decidable.byContradiction;intro hne;have:=S.hi_lt n (by have:=S.ha1;omega) %[|5];grind
 have hl:la=n:=by
  apply Decidable.byContradiction;intro hne;have:=S.lo_lt n (by have:=S.la1;omega) %[|5];grind
 have eF:FH=Y6 b h n (hi n):=by rw[<- hh];exact S.haE
 have eL:SL=Y6 b h n (lo n):=by rw[<- hl];exact S.laE
 refine⟨hh,hl,eF,.fin hbn rfl ⟨fun t a c=>?_,S.hi_le⟩⟩;have:=S.lo_le t a c;rw[eF,<- tie,<- eL];exact this
end Q
end
noncomputable section
namespace Q
abbrev Fall (v:List Rat):Prop:=v.Pairwise fun a b=>b<=a
theorem VD:∀ {u v:List Rat},u.Perm v->Fall u->Fall v->u=v
 | [],v,p,_,_=>by rw[List.nil_perm.mp p]
 | a::u,[],p,_,_=>by have:=p.length_eq;simp at this
 | a::u,b::v,p,hu,hv=>by
  have h1:b<=a:=by
   rcases List.mem_cons.mp (p.symm.subset (List.mem_cons_self:b∈b::v)) with h|h
   ·rw[h];exact Rat.le_refl
   ·exact (List.pairwise_cons.mp hu).1 b h
  have h2:a<=b:=by
   rcases List.mem_cons.mp (p.subset (List.mem_cons_self:a∈a::u)) with h|h
   ·rw[h];exact Rat.le_refl
   ·exact (List.pairwise_cons.mp hv).1 a h
  have e:a=b:=Rat.le_antisymm h2 h1;subst e;rw[VD (List.Perm.cons_inv p) (List.pairwise_cons.mp hu).2 (List.pairwise_cons.mp hv).2]
noncomputable def srt (s:List Rat):List Rat:=s.mergeSort fun a b=>decide (b<=a)
theorem Vg (s:List Rat):Fall (srt s):=by
 have:=List.pairwise_mergeSort (le:=fun a b:Rat=>decide (b<=a)) (fun a b c h1 h2=>by
  simp only[decide_eq_true_eq] at *;exact Rat.le_trans h2 h1) (fun a b=>by
  simp only[Bool.or_eq_true,decide_eq_true_eq];exact Rat.le_total) s
 exact this.imp fun h=>by simpa using h
theorem YF (s:List Rat):(srt s).Perm s:=List.mergeSort_perm s _
theorem A9 {s v:List Rat} (p:v.Perm s) (h:Fall v):v=srt s:=VD (p.trans (YF s).symm) h (Vg s)
theorem El {u v:List Rat} {x:Rat} (h:Fall (u++v)) (hu:∀ a∈u,x<=a) (hv:∀ a∈v,a<=x):Fall (u++x::v):=by
 obtain⟨h1,h2,h3⟩:=List.pairwise_append.mp h;refine List.pairwise_append.mpr ⟨h1,List.pairwise_cons.mpr ⟨hv,h2⟩,fun a ha b hb=>?_⟩;rcases List.mem_cons.mp hb with rfl|hb
 ·exact hu a ha
 ·exact h3 a ha b hb
noncomputable def tot (s:List Rat):Rat:=s.foldl (·+·) 0
theorem BY (s:List Rat):∀ q:Rat,s.foldl (·+·) q=q+tot s:=by
 induction s with
 | nil=>intro q;unfold tot;simp;grind
 | cons a s ih=>intro q;unfold tot;simp only[List.foldl_cons];rw[ih,ih];grind
theorem Y7 (a:Rat) (s:List Rat):tot (a::s)=a+tot s:=by
 unfold tot;simp only[List.foldl_cons];rw[BY];unfold tot;grind
theorem X1 (s t:List Rat):tot (s++t)=tot s+tot t:=by
 induction s with
 | nil=>unfold tot;simp;grind
 | cons a s ih=>rw [List.cons_append,Y7,Y7,ih];grind
theorem V8 {s t:List Rat} (p:s.Perm t):tot s=tot t:=by
 induction p with
 | nil=>rfl
 | cons a _ ih=>rw [Y7,Y7,ih]
 | swap a b s=>rw [Y7,Y7,Y7,Y7];grind
 | trans _ _ i1 i2=>rw [i1,i2]
noncomputable def Z0 (q:Rat):List Rat->List Rat
 | []=>[]
 | a::s=>(q+a)::Z0 (q+a) s
theorem Wf (t:List Rat):∀ (q:Rat) (s:List Rat),Z0 q (s++t)=Z0 q s++Z0 (q+tot s) t
 | q,[]=>by show Z0 q t=[]++Z0 (q+0) t;rw[Rat.add_zero];rfl
 | q,a::s=>by
  show (q+a)::Z0 (q+a) (s++t)=(q+a)::Z0 (q+a) s++_;rw[Wf t (q+a) s,Y7];rw[show q+a+tot s=q+(a+tot s) by grind]
  rfl
theorem XL:∀ (q:Rat) (s:List Rat),(Z0 q s).length=s.length
 | _,[]=>rfl
 | q,a::s=>by show (Z0 (q+a) s).length+1=_;rw[XL];rfl
theorem Ud (s:List Rat) (a:Rat):Z0 0 (s++[a])=Z0 0 s++[tot s+a]:=by
 rw[Wf];show _++[0+tot s+a]=_;rw[Rat.zero_add]
theorem X4 (s:List Rat) (a:Rat):tot (s++[a])=tot s+a:=by
 rw[X1,Y7];unfold tot;simp;grind
end Q
end
noncomputable section
namespace Q
theorem tri (a b:Rat):a<b\/a=b\/b<a:=by
 by_cases h:a<b
 ·exact .inl h
 ·by_cases h2:b<a
  ·exact .inr (.inr h2)
  ·exact .inr (.inl (by grind))
noncomputable def fs (f:Rat->Rat) (r:Nat->Rat):Nat->Rat
 | 0=>0
 | m+1=>fs f r m+f (r (m+1)-r m)
theorem Xm {a b d:Rat} (h1:a<b->d<=0) (h2:b<a->0<=d):0<=(a-b)*d:=by
 rcases tri a b with h|h|h
 ·have:=h1 h
  have:=Rat.mul_nonneg (show 0<=b-a by grind) (show 0<=-d by grind);grind
 ·subst h;grind
 ·exact Rat.mul_nonneg (by grind) (h2 h)
theorem Taut.conv {lo hi r:Nat->Rat} {n:Nat} (T:Taut lo hi r n) {f g:Rat->Rat} (hf:∀ u v,f u+g u*(v-u)<=f v) (hg:∀ u v,u<v->g u<=g v) {o:Nat->Rat} (ol:∀ k,k<=n->lo k<=o k) (oh:∀ k,k<=n->o k<=hi k) (h0:o 0=r 0) :
  ∀ m,m<n->fs f r (m+1)+g (r (m+1)-r m)*(o (m+1)-r (m+1))<=fs f o (m+1)
 | 0,_=>by
  have:=hf (r 1-r 0) (o 1-o 0);show 0+f (r 1-r 0)+_<=0+f (o 1-o 0);rw[h0] at this ⊢;have e:g (r 1-r 0)*(o 1-r 0-(r 1-r 0))=g (r (0+1)-r 0)*(o (0+1)-r (0+1)):=by
   show _=g (r 1-r 0)*(o 1-r 1)
   congr 1;grind
  grind
 | m+1,hm=>by
  have ih:=T.conv hf hg ol oh h0 m %[|5];have:=hf (r (m+2)-r (m+1)) (o (m+2)-o (m+1));have key:0<=(g (r (m+1)-r m)-g (r (m+2)-r (m+1)))*(o (m+1)-r (m+1)):=by
   refine Xm (fun h=>?_) fun h=>?_
   ·have hlt:r (m+1)-r m<r (m+2)-r (m+1):=by
     apply Decidable.byContradiction;intro hn;rcases tri (r (m+2)-r (m+1)) (r (m+1)-r m) with z|z|z
     ·have:=hg _ _ z;grind
     ·rw[z] at h;grind
     ·exact hn z
    have:=T.up (m+1) %[|5] %[|5] hlt;have:=oh (m+1) %[|5];grind
   ·have hlt:r (m+2)-r (m+1)<r (m+1)-r m:=by
     apply Decidable.byContradiction;intro hn;rcases tri (r (m+2)-r (m+1)) (r (m+1)-r m) with z|z|z
     ·exact hn z
     ·rw[z] at h;grind
     ·have:=hg _ _ z;grind
    have:=T.down (m+1) %[|5] %[|5] hlt;have:=ol (m+1) %[|5];grind
  show fs f r (m+1)+f (r (m+2)-r (m+1))+_<=fs f o (m+1)+f (o (m+2)-o (m+1));generalize g (r (m+1)-r m)=G at *;generalize hG:g (r (m+2)-r (m+1))=G' at *;generalize fs f r (m+1)=A at *;generalize fs f o (m+1)=B at *;generalize f (r (m+2)-r (m+1))=F1 at *;generalize f (o (m+2)-o (m+1))=F2 at *;have e:(G-G')*(o (m+1)-r (m+1))=G*(o (m+1)-r (m+1))-G'*(o (m+1)-r (m+1)):=by grind
  have e2:G'*(o (m+2)-o (m+1)-(r (m+2)-r (m+1)))=G'*(o (m+2)-r (m+2))-G'*(o (m+1)-r (m+1)):=by grind
  show A+F1+G'*(o (m+2)-r (m+2))<=B+F2;grind
theorem Taut.best {lo hi r:Nat->Rat} {n:Nat} (T:Taut lo hi r n) {f g:Rat->Rat} (hf:∀ u v,f u+g u*(v-u)<=f v) (hg:∀ u v,u<v->g u<=g v) {o:Nat->Rat} (ol:∀ k,k<=n->lo k<=o k) (oh:∀ k,k<=n->o k<=hi k) (h0:o 0=r 0) (hn:o n=r n):fs f r n<=fs f o n:=by
 cases n with
 | zero=>exact Rat.le_refl
 | succ m =>
  have:=T.conv hf hg ol oh h0 m %[|5];rw[hn,show r (m+1)-r (m+1)=0 by grind,Rat.mul_zero] at this;grind
theorem Taut.sq {lo hi r:Nat->Rat} {n:Nat} (T:Taut lo hi r n) {o:Nat->Rat} (ol:∀ k,k<=n->lo k<=o k) (oh:∀ k,k<=n->o k<=hi k) (h0:o 0=r 0) :
  ∀ m,m<n->fs (fun x=>x*x) r (m+1)+2*(r (m+1)-r m)*(o (m+1)-r (m+1))+fs (fun x=>x*x) (fun k=>o k-r k) (m+1)<=fs (fun x=>x*x) o (m+1)
 | 0,_=>by
  show 0+(r 1-r 0)*(r 1-r 0)+2*(r 1-r 0)*(o 1-r 1)+(0+(o 1-r 1-(o 0-r 0))*(o 1-r 1-(o 0-r 0)))<=0+(o 1-o 0)*(o 1-o 0);rw[h0];grind
 | m+1,hm=>by
  have ih:=T.sq ol oh h0 m %[|5];have key:0<=((r (m+1)-r m)-(r (m+2)-r (m+1)))*(o (m+1)-r (m+1)):=by
   refine Xm (fun h=>?_) fun h=>?_
   ·have:=T.up (m+1) %[|5] %[|5] h
    have:=oh (m+1) %[|5];grind
   ·have:=T.down (m+1) %[|5] %[|5] h
    have:=ol (m+1) %[|5];grind
  show fs (fun x=>x*x) r (m+1)+(r (m+2)-r (m+1))*(r (m+2)-r (m+1))+2*(r (m+2)-r (m+1))*(o (m+2)-r (m+2))+(fs (fun x=>x*x) (fun k=>o k-r k) (m+1)+(o (m+2)-r (m+2)-(o (m+1)-r (m+1)))*(o (m+2)-r (m+2)-(o (m+1)-r (m+1))))<=fs (fun x=>x*x) o (m+1)+(o (m+2)-o (m+1))*(o (m+2)-o (m+1));generalize fs (fun x=>x*x) r (m+1)=A at *;generalize fs (fun x=>x*x) o (m+1)=B at *;generalize fs (fun x=>x*x) (fun k=>o k-r k) (m+1)=C at *;grind
theorem VZ (x:Rat):0<=x*x:=by
 rcases Rat.le_total (a:=0) (b:=x) with h|h
 ·exact Rat.mul_nonneg h h
 ·have:=Rat.mul_nonneg (show 0<=-x by grind) (show 0<=-x by grind);grind
theorem Xc (d:Nat->Rat):∀ m,0<=fs (fun x=>x*x) d m
 | 0=>Rat.le_refl
 | m+1=>by
  show 0<=fs (fun x=>x*x) d m+(d (m+1)-d m)*(d (m+1)-d m);have:=Xc d m;have:=VZ (d (m+1)-d m);grind
theorem EZ {x:Rat} (h:x*x<=0):x=0:=by
 rcases tri x 0 with c|c|c
 ·have:=Rat.mul_pos (show 0 < -x by grind) (show 0 < -x by grind);grind
 ·exact c
 ·have:=Rat.mul_pos c c;grind
theorem VB (d:Nat->Rat):∀ m,fs (fun x=>x*x) d m<=0->∀ k,k<=m->d k=d 0
 | 0,_,k,hk=>by
  obtain rfl:k=0:=by omega
  rfl
 | m+1,h,k,hk=>by
  have h':fs (fun x=>x*x) d m+(d (m+1)-d m)*(d (m+1)-d m)<=0:=h;have a:=Xc d m;have b:=VZ (d (m+1)-d m);have ih:=VB d m (by grind);rcases (by omega:k=m+1\/k<=m) with rfl|q
  ·have:=EZ (x:=d (m+1)-d m) (by grind)
   have:=ih m %[|3];grind
  ·exact ih k q
theorem Taut.sq_lt {lo hi r:Nat->Rat} {n:Nat} (T:Taut lo hi r n) {o:Nat->Rat} (ol:∀ k,k<=n->lo k<=o k) (oh:∀ k,k<=n->o k<=hi k) (h0:o 0=r 0) (hn:o n=r n) (h1:0<n):fs (fun x=>x*x) r n<fs (fun x=>x*x) o n\/∀ k,k<=n->o k=r k:=by
 obtain⟨m,rfl⟩:∃ m,n=m+1:=⟨n-1,by omega⟩;have:=T.sq ol oh h0 m %[|5];rw[hn,show r (m+1)-r (m+1)=0 by grind,Rat.mul_zero] at this;by_cases c:fs (fun x=>x*x) (fun k=>o k-r k) (m+1)<=0
 ·refine .inr fun k hk=>?_
  have:=VB _ _ c k hk;grind
 ·exact .inl (by grind)
end Q
end
noncomputable section
namespace K
open PySem DL
abbrev ends (R E:DK):DEnds:={nx:=fun _ M'=>R .non M',rt:=R,ex:=fun _=>E}
theorem ZY {g:(DSt->DK)->DG} {tb:DS} {keep:Mem->Prop} {D:DEnds} (I:DSt->Mem->Prop) (hk:∀ δ M,I δ M->keep M) (he:∀ δ M,I δ M->D.nx δ M):∀ {items:List DL.D},
  (∀ x∈items,∀ N:DSt->Mem->Prop,(∀ δ M,I δ M->N δ M)->∀ δ M,I δ M->g D.ex x δ M fun δ1 M1=>tb {D with nx:=N,ct:=N,bk:=D.nx} δ1 M1)->∀ {δ M},I δ M->forD g tb keep items D δ M
 | [],_,δ,M,i=>he δ M i
 | x::xs,h,δ,M,i=>by
  unfold forD;exact h x List.mem_cons_self _ (fun δ' M' i'=>⟨hk δ' M' i',ZY I hk he (fun y hy=>h y (List.mem_cons_of_mem _ hy)) i'⟩) δ M i
theorem Yv {g:(DSt->DK)->DG} {tb:DS} {keep:Mem->Prop} {D:DEnds}:∀ {items:List DL.D} (I:Nat->DSt->Mem->Prop),(∀ i δ M,I i δ M->keep M)->(∀ δ M,I items.length δ M->D.nx δ M) ->
  (∀ i x,items[i]?=some x->∀ N:DSt->Mem->Prop,(∀ δ M,I (i+1) δ M->N δ M)->∀ δ M,I i δ M->g D.ex x δ M fun δ1 M1=>tb {D with nx:=N,ct:=N,bk:=D.nx} δ1 M1)->∀ {δ M},I 0 δ M->forD g tb keep items D δ M
 | [],I,hk,he,ht,δ,M,h0=>he δ M h0
 | x::xs,I,hk,he,ht,δ,M,h0=>by
  unfold forD;exact ht 0 x rfl _ (fun δ' M' i'=>⟨hk _ δ' M' i',Yv (fun i=>I (i+1)) (fun i=>hk (i+1)) he (fun i y hy N hN=>ht (i+1) y (by simpa using hy) N hN) i'⟩) δ M h0
theorem W6 (h:(rngD lo c n)[i]?=some x):x=.int (lo+i*c)/\i<n:=by
 unfold rngD at h;rw[List.getElem?_map] at h;cases q:(List.range n)[i]? with
 | none=>rw [q] at h;cases h
 | some j =>
  obtain⟨h1,h2⟩:=List.getElem?_eq_some_iff.mp q;rw[q] at h;cases h;simp at h1 h2;subst h2;exact⟨rfl,h1⟩
theorem Xo:(rngD lo c n).length=n:=by simp[rngD]
theorem XX (f:DL.D->DL.D) (I:DSt->Prop) (h0:M0 p=none) (hk:∀ M,MExt M0 M->keep M) :
  ∀ {items acc:List DL.D},(∀ x∈items,∀ δ M (R:DSt->DK),I δ->MExt M0 M->(∀ δ1 M',I δ1->MExt M M'->R δ1 (f x) M')->g x δ M fun δ1 M1=>te δ1 M1 fun d M2=>R δ1 d M2) ->
  (acc++items.map f).length<=1000->(∀ M',MExt M0 M'->M' p=some (.ls (acc++items.map f))->Q M')->∀ {δ M},I δ->MExt M0 M->M p=some (.ls acc)->Z2 g te keep p items acc δ M Q
 | [],acc,_,_,q,δ,M,i,e,l=>by unfold Z2;exact q M e (by simpa using l)
 | x::xs,acc,h,hz,q,δ,M,i,e,l=>by
  unfold Z2;refine h x List.mem_cons_self δ M (fun δ1 d M2=>M2 p=some (.ls acc)/\acc.length<sizeLine/\keep (M2.upd p (.ls (acc++[d])))/\Z2 g te keep p xs (acc++[d]) δ1 (M2.upd p (.ls (acc++[d]))) Q) i e fun δ1 M' i' e'=>?_;have e2:MExt M0 (M'.upd p (.ls (acc++[f x]))):=fun a o z=>by
   have:a≠p:=fun q=>by rw[q,h0] at z;cases z
   rw[YB this];exact e' _ _ (e _ _ z)
  refine⟨e' _ _ l,?_,hk _ e2,XX f I h0 hk (fun y hy=>h y (List.mem_cons_of_mem _ hy)) (by simpa using hz) (fun M2 e3 l3=>q M2 e3 (by simpa using l3)) i' e2 mupd_same⟩;rw[sizeLine_eq];simp at hz;omega
theorem MExt.none (e:MExt M M') (h:M' p=Option.none):M p=Option.none:=by
 cases q:M p with
 | none=>rfl
 | some o=>rw [e _ _ q] at h;cases h
theorem Yw (x:α) (l:List α):L2.atI (x::l) 0=some x:=L2.atI_nat (j:=0) rfl
theorem V3 (h:k.natAbs<2 ^ n):Builtin.Int.intBits k<=n:=by
 unfold Builtin.Int.intBits;split
 ·exact Nat.zero_le _
 ·rename_i h0
  have hp:k.natAbs≠0:=by intro z;apply h0;simp;omega
  have:=(Nat.log2_lt hp).mpr h;omega
theorem X8 (ha:a.natAbs<2 ^ m) (hb:b.natAbs<2 ^ n) (h:m+n<=134217728):IntMulOk a b:=IntMulOk.of_le (V3 ha) (V3 hb) h
theorem Xy (h:j≠0) (hj:j.natAbs<2 ^ 8000):Ut j:=⟨h,by
 have:j.natAbs≠0:=by omega
 have:=(Nat.log2_lt this).mpr hj;omega⟩
theorem JJ (h0:0<=x) (h1:0<y):Int.gcd y (x.fmod y)=Int.gcd x y:=by
 obtain⟨n,rfl⟩:=Int.eq_ofNat_of_zero_le h0;obtain⟨m,rfl⟩:=Int.eq_ofNat_of_zero_le (Int.le_of_lt h1);rw[Int.fmod_eq_emod_of_nonneg _ (Int.le_of_lt h1)];show Nat.gcd m (((n:Int) % (m:Int)).natAbs)=Nat.gcd n m;have:((n:Int) % (m:Int)).natAbs=n % m:=by
  rw[<- Int.natCast_emod];rfl
 rw[this,Nat.gcd_comm n m,Nat.gcd_comm m (n % m)];exact (Nat.gcd_rec m n).symm
theorem Bd (a b:Int):Int.gcd (if a<0 then -a else a) (if b<0 then -b else b)=Int.gcd a b:=by
 unfold Int.gcd
 congr 1<;>split<;>omega
theorem Zz {x y:Int} (h:0<y):0<=x.fmod y/\x.fmod y<y:=by
 rw[Int.fmod_eq_emod_of_nonneg _ (Int.le_of_lt h)];exact⟨Int.emod_nonneg _ %[|5],Int.emod_lt_of_pos _ h⟩
theorem Ye {s:CS} {r:CSs} {D:DEnds} {δ:DSt} {M:Mem}:rSs (.cons s r) D δ M=rS s {D with nx:=rSs r D} δ M:=rfl
theorem Yd {D:DEnds} {δ:DSt} {M:Mem}:rSs .nil D δ M=D.nx δ M:=rfl
theorem YO (neg:Bool) (h:Q (.bl (if neg then !(i==j) else (i==j))) M):cEq neg (.int i) (.int j) M Q:=⟨_,_,.int i,.int j,by simp[PyData.depth],h⟩
theorem Eo (neg:Bool) (h:Q (.bl (if neg then !(i==j) else (i==j))) M):cEq neg (.bl i) (.bl j) M Q:=⟨_,_,.bl i,.bl j,by simp[PyData.depth],h⟩
noncomputable def S_5:DSp:=fun ds M Q _=>∃ a b:Int,ds=[.int a,.int b]/\Q (.int (Int.gcd a b)) M
noncomputable def C_5:CSs:=%[.par 0 1 (.bi .abs %[.var 0|0]) (.bi .abs %[.var 1|0]),.whl (.var 1) %[.par 0 1 (.var 1) (.bin .Mod (.var 0) (.var 1))|0],.ret (.var 0)|0]
theorem vc_5:∀ ds M R E,S_5 ds M R E->rSs C_5 (ends R E) (Y1 2 ds) M:=by
 rintro ds M R E ⟨a,b,rfl,h⟩;simp[0,C_5,rSs,Ym,vAt,vHd,Y3,Yi,Yn,YE,dFor,YG,bMul,bAdd,iOp,sOp,fLen,Y5,Yg,fIsi,fAll,fAny,Yl,and_assoc,sizeLine_eq];refine⟨fun m δ M'=>∃ x y:Int,δ=[some (.int x),some (.int y)]/\M'=M/\0<=x/\0<=y/\Int.gcd x y=Int.gcd a b/\m=y.toNat,⟨_,_,_,rfl,rfl,?_,?_,?_,rfl⟩,?_⟩
 ·split<;>omega
 ·split<;>omega
 ·exact Bd a b
 ·rintro m δ M' ⟨x,y,rfl,rfl,h0,h1,hg,rfl⟩
  simp[0,rSs,Ym,vAt,vHd,Y3,Yi,Yn,YE,dFor,YG,bMul,bAdd,iOp,sOp,fLen,Y5,Yg,fIsi,fAll,fAny,Yl,and_assoc,sizeLine_eq];by_cases hy:y=0
  ·subst hy
   rw[if_pos rfl];rw[<- hg] at h;have e:((x.gcd 0:Nat):Int)=x:=by unfold Int.gcd;simp;omega
   rw[e] at h;exact h
  ·rw[if_neg hy]
   have yp:0<y:=by omega
   refine⟨fun δ' M1=>δ'=[some (.int y),some (.int (x.fmod y))]/\M1=M',?_,hy,rfl,rfl⟩;rintro δ' M1 ⟨rfl,rfl⟩;have:=Zz (x:=x) yp;exact⟨(x.fmod y).toNat,by omega,y,_,rfl,rfl,h1,this.1,by rw[JJ h0 yp];exact hg,rfl⟩
noncomputable def S_60:DSp:=fun ds M Q _=>∃ c:Int,ds=[.int c]/\Builtin.Int.intBits c<=2000000/\∀ r:Int,0<=r->r<10 ^ 60->Q (.int r) M
noncomputable def C_60:CSs:=%[.ret (.bin .Mod (.bin .Mult (.var 0) (.int 301029995663981195213738894724493026768189881462108541310427)) (.bin .Pow (.int 10) (.int 60)))|0]
theorem vc_60:∀ ds M R E,S_60 ds M R E->rSs C_60 (ends R E) (Y1 1 ds) M:=by
 rintro ds M R E ⟨c,rfl,hb,h⟩;simp[0,C_60,rSs,Ym,vAt,vHd,Y3,Yi,Yn,YE,dFor,YG,bMul,bAdd,iOp,sOp,fLen,Y5,Yg,fIsi,fAll,fAny,Yl,and_assoc,sizeLine_eq];exact⟨IntMulOk.of_le hb (V3 (n:=300) %[|4]) %[|4],⟨by decide,by decide,by decide⟩,h _ (Zz %[|4]).1 (Zz %[|4]).2⟩
noncomputable def S_1:DSp:=fun ds M Q _=>∃ a n v,ds=[.lst a,.int n]/\M a=some (.ls [.int v])/\0<n/\n.natAbs<2 ^ 8000/\∀ r v':Int,0<=r->r<n->Q (.int r) (M.upd a (.ls [.int v']))
noncomputable def C_1:CSs:=%[.asg (.tup %[.sub (.var 0) (.int 0),.name 2|0]) (.bi .divmod %[.ix (.var 0) (.int 0),.var 1|0]),.ret (.var 2)|0]
theorem vc_1:∀ ds M R E,S_1 ds M R E->rSs C_1 (ends R E) (Y1 3 ds) M:=by
 rintro ds M R E ⟨a,n,v,rfl,ha,hn,hn2,h⟩;simp[0,C_1,rSs,Ym,vAt,vHd,Y3,Yi,Yn,YE,dFor,YG,bMul,bAdd,iOp,sOp,fLen,Y5,Yg,fIsi,fAll,fAny,Yl,and_assoc,sizeLine_eq];refine⟨_,ha,.int v,rfl,?_⟩;have f:=Zz (x:=v) hn;simp[0,rSs,Ym,vAt,vHd,Y3,Yi,Yn,YE,dFor,YG,bMul,bAdd,iOp,sOp,fLen,Y5,Yg,fIsi,fAll,fAny,Yl,and_assoc,sizeLine_eq];exact⟨Xy %[|5] hn2,_,ha,0,rfl,h _ _ f.1 f.2⟩
theorem Go (h:x∈cutG xs lo hi):x∈xs:=List.mem_of_mem_drop (List.mem_of_mem_take h)
theorem Gp (xs:List α) (lo hi:Option Int):(cutG xs lo hi).length<=xs.length:=by
 unfold cutG;rw[List.length_take,List.length_drop];omega
theorem Ch (ns:List Int) (lo hi:Option Int) (e:Int):∃ c,L2.atI (cutG (ns.map D.int) lo hi++[D.int e]) 0=some (.int c)/\(c∈ns\/c=e):=by
 cases q:cutG (ns.map D.int) lo hi with
 | nil=>exact⟨e,rfl,.inr rfl⟩
 | cons x r =>
  have:x∈ns.map D.int:=Go (lo:=lo) (hi:=hi) (by rw[q];exact List.mem_cons_self);obtain⟨c,hc,rfl⟩:=List.mem_map.mp this;exact⟨c,Yw _ _,.inl hc⟩
theorem Jq (x:DL.D):[x].length<=sizeLine:=by rw[sizeLine_eq];exact (by decide:1<=16777216)
theorem Cz (x y:DL.D):[x,y].length<=sizeLine:=by rw[sizeLine_eq];exact (by decide:2<=16777216)
theorem mulI (a:IntMulOk i j) (q:Q (.int (i*j)) M):bMul (.int i) (.int j) M Q:=⟨a,q⟩
theorem addI (q:Q (.int (i+j)) M):bAdd (.int i) (.int j) M Q:=q
noncomputable def S_61:DSp:=fun ds M Q _=>∃ (ns:List Int) (k:Int),ds=[.fz (ns.map .int),.int k]/\Script ns/\0<=k/\k<=1000/\∀ (v:Int) p M',M p=none->MExt M M'->M' p=some (.ls [.int v])->Q (.lst p) M'
noncomputable def C_61:CSs:=%[.set 2 (.int 0),.fr (.name 3) (.seq (.lst %[.bin .Add (.var 1) (.int 1),.var 1|0])) %[.set 2 (.bin .Add (.bin .Mult (.var 2) (.bin .Pow (.int 10) (.int 60))) (.call "_law_mixed" S_60 %[.ix (.bin .Add (.sl (.var 0) (.some (.var 3)) (.some (.bin .Add (.var 3) (.int 1)))) (.lst %[.bin .Add (.bin .Mult (.int 7907) (.var 3)) (.int 53)|0])) (.int 0)|0]))|0],.ret (.lst %[.var 2|0])|0]
theorem vc_61:∀ ds M R E,S_61 ds M R E->rSs C_61 (ends R E) (Y1 4 ds) M:=by
 rintro ds M R E ⟨ns,k,rfl,hs,h0,h1,h⟩;have turn:∀ (t found:Int) (M:Mem) (Q:DK),0<=t->t<=1001->found.natAbs<2 ^ 1000->(∀ v M',MExt M M'->v.natAbs<(found.natAbs+1)*10 ^ 60->Q (.int v) M') ->
   d2 bAdd (d2 bMul (dVar 2) (d2 (bInt L2.CPow fun i j=>i ^ j.toNat) (dC (D.int 10)) (dC (D.int 60))))
    (Zl S_60 (fun _=>E) (YY (d2 iOp (d2 bAdd (dSl (dVar 0) (JM (dVar 3)) (JM (d2 bAdd (dVar 3) (dC (D.int 1))))) (dLst (YY (d2 bAdd (d2 bMul (dC (D.int 7907)) (dVar 3)) (dC (D.int 53))) dNil))) (dC (D.int 0))) dNil))
    [some (.fz (ns.map D.int)),some (.int k),some (.int found),some (.int t)] M Q:=by
  intro t found M Q h0 h1 hf hN;dsimp only[d2,dVar,vAt,vHd,dC,Zl,YY,dNil,dLst,dSl,JM];refine⟨⟨by decide,by decide,by decide⟩,mulI (X8 hf (n:=300) %[|4] %[|4]) ⟨_,rfl,addI ⟨_,rfl,fun p1 M1 e1 x1 l1=>mulI (X8 (m:=64) (n:=64) %[|4] %[|5] %[|4]) (addI ⟨Jq _,fun p2 M2 e2 x2 l2=>⟨_,_,x2 _ _ l1,l2,?_,fun p3 M3 e3 x3 l3=>?_⟩⟩)⟩⟩⟩
  ·have:=Gp (ns.map D.int) (some t) (some (t+1))
   rw[List.length_map] at this;have:=hs.len;rw[sizeLine_eq];show _+1<=_;omega
  obtain⟨c,hc,hm⟩:=Ch ns (some t) (some (t+1)) (7907*t+53);refine⟨_,_,l3,hc,c,rfl,?_,fun r r0 r1=>addI ?_⟩
  ·rcases hm with hm|hm
   ·exact Nat.le_trans (hs.bits c hm) %[|4]
   ·subst hm;exact Nat.le_trans (V3 (n:=64) %[|5]) %[|4]
  ·refine hN _ M3 (x1.trans (x2.trans x3)) ?_
   have a1:=Int.natAbs_add_le (found*1000000000000000000000000000000000000000000000000000000000000) r;rw[Int.natAbs_mul] at a1;have a2:r.natAbs<10 ^ 60:=by omega
   have a3:(1000000000000000000000000000000000000000000000000000000000000:Int).natAbs=10 ^ 60:=by decide
   rw[a3] at a1;rw[Nat.add_mul,Nat.one_mul];exact Nat.lt_of_le_of_lt a1 %[|5]
 unfold C_61;dsimp only[rSs,rS,rE,rEs,rG,rGs,rI,DL.plain,dSeq,dRet,dAsg,dFor,Xw,Yn,Zl,YY,dNil,dLst,dVar,vAt,vHd,List.map,List.length_cons,List.length_nil,Nat.reduceAdd,Nat.reduceSub,List.replicate_succ,List.replicate_zero,List.cons_append,List.nil_append,List.set_cons_succ,List.set_cons_zero,dC,d2,bOp,Y1,Bm,dSl];refine addI ⟨Cz (.int 0) (.int 0),fun p0 M0 e0 x0 l0=>⟨_,l0,?_⟩⟩;dsimp only[forD,Xw,dSeq,dAsg,Bm,rO];refine turn (k+1) 0 M0 _ %[|5] %[|5] %[|4] fun v1 M1 x1 b1=>?_;refine⟨x1 _ _ l0,?_⟩;refine turn k v1 M1 _ %[|5] %[|5] (Nat.lt_of_lt_of_le b1 %[|4]) fun v2 M2 x2 b2=>?_;refine⟨x2 _ _ (x1 _ _ l0),?_⟩;dsimp only[dRet,dLst,YY,dNil,dVar,List.set_cons_succ,List.set_cons_zero,vAt,vHd];refine⟨Jq _,fun p M' e x l=>?_⟩;exact h v2 p M' (K.MExt.none (x0.trans (x1.trans x2)) e) (x0.trans (x1.trans (x2.trans x))) l
end K
end
open PySem DL Q K
set_option bootstrap.genMatcherCode true
local macro_rules
 | `(tactic| sleep 1)=>`(tactic| ((try dsimp only);rw[Ye];sleep 2))
 | `(tactic| sleep 2)=>`(tactic| ((try dsimp only[0,Ym,vAt,vHd,List.set_cons_succ,List.set_cons_zero,List.cons_append,List.nil_append,List.map,List.length_cons,List.length_nil,Nat.reduceAdd,Nat.reduceSub,List.replicate_succ,List.replicate_zero,Y3,Yi,bMul,bAdd,sOp,Y5,Yg,fIsi,Yl]);try simp[0,Ym,vAt,vHd,Y3,Yi,bMul,bAdd,sOp,Y5,Yg,fIsi,Yl,and_assoc,sizeLine_eq,Yd]))
 | `(tactic| sleep 3)=>`(tactic| ((try dsimp only);rw[Ye];(try dsimp only[0,Ym,vAt,vHd,List.set_cons_succ,List.set_cons_zero,List.cons_append,List.nil_append,List.map,List.length_cons,List.length_nil,Nat.reduceAdd,Nat.reduceSub,List.replicate_succ,List.replicate_zero,Y3,Yi,bMul,bAdd,sOp,Y5,Yg,fIsi,Yl,dFor,YE,Yn,fLen]);try simp[0,Ym,vAt,vHd,Y3,Yi,bMul,bAdd,sOp,Y5,Yg,fIsi,Yl,and_assoc,sizeLine_eq,Yd,dFor,YE,Yn,fLen]))
 | `(tactic| sleep 4)=>`(tactic| ((try dsimp only);rw[Ye];(try dsimp only[0,Ym,vAt,vHd,List.set_cons_succ,List.set_cons_zero,List.cons_append,List.nil_append,List.map,List.length_cons,List.length_nil,Nat.reduceAdd,Nat.reduceSub,List.replicate_succ,List.replicate_zero,Y3,Yi,bMul,bAdd,sOp,Y5,Yg,fIsi,Yl,dFor,YE]);try simp[0,Ym,vAt,vHd,Y3,Yi,bMul,bAdd,sOp,Y5,Yg,fIsi,Yl,and_assoc,sizeLine_eq,Yd,dFor,YE]))
 | `(tactic| sleep 5)=>`(tactic| ((try dsimp only[0,rSs,Ym,vAt,vHd,List.set_cons_succ,List.set_cons_zero,List.cons_append,List.nil_append,List.map,List.length_cons,List.length_nil,Nat.reduceAdd,Nat.reduceSub,List.replicate_succ,List.replicate_zero,Y3,Yi,Yn,YE,dFor,YG,bMul,bAdd,iOp,sOp,fLen,Y5,Yg,fIsi,fAll,fAny,Yl]);try simp[0,rSs,Ym,vAt,vHd,Y3,Yi,Yn,YE,dFor,YG,bMul,bAdd,iOp,sOp,fLen,Y5,Yg,fIsi,fAll,fAny,Yl,and_assoc,sizeLine_eq]))
 | `(tactic| sleep 50)=>`(tactic| exact⟨rfl,rfl,rfl,by decide +kernel,rfl,by decide +kernel,by decide +kernel⟩)
 | `(tactic| sleep 51)=>`(tactic| repeat' (first|exact True.intro|assumption|refine And.intro ?_ ?_|exact FnE.mono (by assumption) %[|4]))
set_option bootstrap.genMatcherCode false
noncomputable section
namespace K
open PySem DL Q
noncomputable def nm (q:Rat):DL.D:=.tup [.int q.num,.int q.den]
theorem Ys (h:m<=n):2 ^ m<=2 ^ n:=Nat.pow_le_pow_right %[|4] h
theorem Uh (h:b≠0) (hb:b.natAbs<2 ^ 8000):Ut (if b<0 then -(Int.gcd a b:Int) else Int.gcd a b):=by
 have g0:=JK (a:=a) h;have gl:Int.gcd a b<=b.natAbs:=Nat.le_of_dvd %[|5] (Int.gcd_dvd_natAbs_right ..);split<;>exact Xy %[|5] (by simp;omega)
noncomputable def S_6:DSp:=fun ds M Q E=>∃ a b:Int,ds=[.int a,.int b]/\b.natAbs<2 ^ 8000/\((b≠0/\Q (nm (Rat.divInt a b)) M)\/(b=0/\E (.exc "NoNumber" .non) M))
noncomputable def C_6:CSs:=%[.ife (.cmp .Eq (.var 1) (.int 0)) %[.rse "NoNumber" %[.str "nothing is parted by 0"|0]|0] .nil,.set 2 (.call "greatest_divisor" S_5 %[.var 0,.var 1|0]),.ife (.cmp .Lt (.var 1) (.int 0)) %[.set 2 (.neg (.var 2))|0] .nil,.ret (.tup %[.bin .FloorDiv (.var 0) (.var 2),.bin .FloorDiv (.var 1) (.var 2)|0])|0]
theorem vc_6:∀ ds M R E,S_6 ds M R E->rSs C_6 (ends R E) (Y1 3 ds) M:=by
 rintro ds M R E ⟨a,b,rfl,hb,h⟩;simp[0,C_6,rSs,Ym,vAt,vHd,Y3,Yi,Yn,YE,dFor,YG,bMul,bAdd,iOp,sOp,fLen,Y5,Yg,fIsi,fAll,fAny,Yl,and_assoc,sizeLine_eq];refine YO false ?_;rcases h with ⟨h0,h⟩|⟨h0,h⟩
 ·have L:=Dz a b h0
  have D:=Uh (a:=a) h0 hb;unfold nm at h;simp[h0];refine⟨a,b,rfl,?_⟩;by_cases hn:b<0
  ·rw[if_pos hn] at L D
   simp[hn,D];rw[L.1,L.2];exact h
  ·rw[if_neg hn] at L D
   simp[hn,D];rw[L.1,L.2];exact h
 ·subst h0
  simp;exact h
noncomputable def Ok2 (p q:Rat):Prop:=∃ m n,Sz m p/\Sz n q/\m+n<=7998
theorem Ok2.mk (a:Sz m p) (b:Sz n q) (h:m+n<=7998):Ok2 p q:=⟨m,n,a,b,h⟩
theorem Ok2.nd (h:Ok2 p q):IntMulOk p.num q.den/\IntMulOk q.num p.den/\IntMulOk p.den q.den/\IntMulOk p.num q.num/\IntMulOk (p.den:Int) q.num:=by
 obtain⟨m,n,a,b,h⟩:=h;exact⟨X8 a.1 (Yk b) %[|5],X8 b.1 (Yk a) %[|5],X8 (Yk a) (Yk b) %[|5],X8 a.1 b.1 %[|5],X8 (Yk a) b.1 %[|5]⟩
theorem Ok2.dd (h:Ok2 p q):((p.den:Int)*q.den).natAbs<2 ^ 8000/\((p.den:Int)*q.num).natAbs<2 ^ 8000:=by
 obtain⟨m,n,a,b,h⟩:=h;exact⟨Nat.lt_of_lt_of_le (YR (Yk a) (Yk b)) (Ys %[|5]),Nat.lt_of_lt_of_le (YR (Yk a) b.1) (Ys %[|5])⟩
theorem ZO (x y:α) (l:List α):L2.atI (x::y::l) 1=some y:=L2.atI_nat (j:=1) rfl
theorem ix0 (q:Q (.int p.num) M):iOp (nm p) (.int 0) M Q:=⟨_,Yw _ _,q⟩
theorem ix1 (q:Q (.int p.den) M):iOp (nm p) (.int 1) M Q:=⟨_,ZO _ _ _,q⟩
theorem tx0 (q:Q x M):iOp (.tup [x,y]) (.int 0) M Q:=⟨_,Yw _ _,q⟩
theorem tx1 (q:Q y M):iOp (.tup [x,y]) (.int 1) M Q:=⟨_,ZO _ _ _,q⟩
theorem subI (q:Q (.int (i-j)) M):bInt (fun _ _=>True) (fun i j=>i-j) (.int i) (.int j) M Q:=⟨trivial,q⟩
noncomputable def S_12:DSp:=fun ds M Q E=>∃ p q:Rat,ds=[nm p,nm q]/\Ok2 p q/\Q (nm (p+q)) M
noncomputable def C_12:CSs:=%[.ret (.call "number" S_6 %[.bin .Add (.bin .Mult (.ix (.var 0) (.int 0)) (.ix (.var 1) (.int 1))) (.bin .Mult (.ix (.var 1) (.int 0)) (.ix (.var 0) (.int 1))),.bin .Mult (.ix (.var 0) (.int 1)) (.ix (.var 1) (.int 1))|0])|0]
theorem vc_12:∀ ds M R E,S_12 ds M R E->rSs C_12 (ends R E) (Y1 2 ds) M:=by
 rintro ds M R E ⟨p,q,rfl,ok,h⟩;unfold C_12;dsimp only[rSs,rS,rE,rEs,DL.plain,dSeq,dRet,Zl,YY,dNil,d2,dVar,vAt,vHd,List.map,List.length_cons,List.length_nil,Nat.reduceAdd,Nat.reduceSub,List.replicate_succ,List.replicate_zero,List.cons_append,List.nil_append,dC,bOp,Y1];have n:=ok.nd;refine (ix0 (ix1 (mulI n.1 (ix0 (ix1 (mulI n.2.1 (addI (ix1 (ix1 (mulI n.2.2.1 ?_))))))))));refine⟨_,_,rfl,ok.dd.1,.inl ⟨XA p q,?_⟩⟩;rw[AI];exact h
noncomputable def S_7:DSp:=fun ds M Q E=>∃ p q:Rat,ds=[nm p,nm q]/\Ok2 p q/\Q (nm (p-q)) M
noncomputable def C_7:CSs:=%[.ret (.call "number" S_6 %[.bin .Sub (.bin .Mult (.ix (.var 0) (.int 0)) (.ix (.var 1) (.int 1))) (.bin .Mult (.ix (.var 1) (.int 0)) (.ix (.var 0) (.int 1))),.bin .Mult (.ix (.var 0) (.int 1)) (.ix (.var 1) (.int 1))|0])|0]
theorem vc_7:∀ ds M R E,S_7 ds M R E->rSs C_7 (ends R E) (Y1 2 ds) M:=by
 rintro ds M R E ⟨p,q,rfl,ok,h⟩;unfold C_7;dsimp only[rSs,rS,rE,rEs,DL.plain,dSeq,dRet,Zl,YY,dNil,d2,dVar,vAt,vHd,List.map,List.length_cons,List.length_nil,Nat.reduceAdd,Nat.reduceSub,List.replicate_succ,List.replicate_zero,List.cons_append,List.nil_append,dC,bOp,Y1];have n:=ok.nd;refine (ix0 (ix1 (mulI n.1 (ix0 (ix1 (mulI n.2.1 (subI (ix1 (ix1 (mulI n.2.2.1 ?_))))))))));refine⟨_,_,rfl,ok.dd.1,.inl ⟨XA p q,?_⟩⟩;rw[A8];exact h
noncomputable def S_11:DSp:=fun ds M Q E=>∃ p q:Rat,ds=[nm p,nm q]/\Ok2 p q/\Q (nm (p*q)) M
noncomputable def C_11:CSs:=%[.ret (.call "number" S_6 %[.bin .Mult (.ix (.var 0) (.int 0)) (.ix (.var 1) (.int 0)),.bin .Mult (.ix (.var 0) (.int 1)) (.ix (.var 1) (.int 1))|0])|0]
theorem vc_11:∀ ds M R E,S_11 ds M R E->rSs C_11 (ends R E) (Y1 2 ds) M:=by
 rintro ds M R E ⟨p,q,rfl,ok,h⟩;unfold C_11;dsimp only[rSs,rS,rE,rEs,DL.plain,dSeq,dRet,Zl,YY,dNil,d2,dVar,vAt,vHd,List.map,List.length_cons,List.length_nil,Nat.reduceAdd,Nat.reduceSub,List.replicate_succ,List.replicate_zero,List.cons_append,List.nil_append,dC,bOp,Y1];have n:=ok.nd;refine (ix0 (ix0 (mulI n.2.2.2.1 (ix1 (ix1 (mulI n.2.2.1 ?_))))));refine⟨_,_,rfl,ok.dd.1,.inl ⟨XA p q,?_⟩⟩;rw[Dt];exact h
noncomputable def S_8:DSp:=fun ds M Q E=>∃ p q:Rat,ds=[nm p,nm q]/\Ok2 p q/\((q≠0/\Q (nm (p / q)) M)\/(q=0/\E (.exc "NoNumber" .non) M))
noncomputable def C_8:CSs:=%[.ret (.call "number" S_6 %[.bin .Mult (.ix (.var 0) (.int 0)) (.ix (.var 1) (.int 1)),.bin .Mult (.ix (.var 0) (.int 1)) (.ix (.var 1) (.int 0))|0])|0]
theorem vc_8:∀ ds M R E,S_8 ds M R E->rSs C_8 (ends R E) (Y1 2 ds) M:=by
 rintro ds M R E ⟨p,q,rfl,ok,h⟩;unfold C_8;dsimp only[rSs,rS,rE,rEs,DL.plain,dSeq,dRet,Zl,YY,dNil,d2,dVar,vAt,vHd,List.map,List.length_cons,List.length_nil,Nat.reduceAdd,Nat.reduceSub,List.replicate_succ,List.replicate_zero,List.cons_append,List.nil_append,dC,bOp,Y1];have n:=ok.nd;refine (ix0 (ix1 (mulI n.1 (ix1 (ix0 (mulI n.2.2.2.2 ?_))))));refine⟨_,_,rfl,ok.dd.2,?_⟩;rcases h with ⟨h0,h⟩|⟨h0,h⟩
 ·refine .inl ⟨Int.mul_ne_zero (by have:=Xd p;omega) (Dj h0),?_⟩
  rw[Ey];exact h
 ·subst h0;exact .inr ⟨by simp,h⟩
noncomputable def S_4:DSp:=fun ds M Q E=>∃ p q:Rat,ds=[nm p,nm q]/\Ok2 p q/\Q (.bl (decide (p<q))) M
noncomputable def C_4:CSs:=%[.ret (.cmp .Lt (.bin .Mult (.ix (.var 0) (.int 0)) (.ix (.var 1) (.int 1))) (.bin .Mult (.ix (.var 1) (.int 0)) (.ix (.var 0) (.int 1))))|0]
theorem vc_4:∀ ds M R E,S_4 ds M R E->rSs C_4 (ends R E) (Y1 2 ds) M:=by
 rintro ds M R E ⟨p,q,rfl,ok,h⟩;unfold C_4;dsimp only[rSs,rS,rE,rEs,DL.plain,dSeq,dRet,Zl,YY,dNil,d2,dVar,vAt,vHd,List.map,List.length_cons,List.length_nil,Nat.reduceAdd,Nat.reduceSub,List.replicate_succ,List.replicate_zero,List.cons_append,List.nil_append,dC,bOp,cOp,Y1];have n:=ok.nd;refine (ix0 (ix1 (mulI n.1 (ix0 (ix1 (mulI n.2.1 ?_))))));show R (.bl (decide (p.num*q.den<q.num*p.den))) M;rw[show decide (p.num*(q.den:Int)<q.num*p.den)=decide (p<q) by simp only[GN]];exact h
noncomputable def S_0:DSp:=fun ds M Q _=>∃ a b:Int,ds=[.int a,.int b]/\b≠0/\b.natAbs<2 ^ 8000/\Q (nm (Rat.divInt a b)) M
noncomputable def C_0:CSs:=%[.par 2 3 (.bi .abs %[.var 0|0]) (.bi .abs %[.var 1|0]),.whl (.cmp .NotEq (.var 3) (.int 0)) %[.par 2 3 (.var 3) (.bin .Mod (.var 2) (.var 3))|0],.ife (.cmp .Lt (.var 1) (.int 0)) %[.set 2 (.bin .Sub (.int 0) (.var 2))|0] .nil,.ret (.tup %[.bin .FloorDiv (.var 0) (.var 2),.bin .FloorDiv (.var 1) (.var 2)|0])|0]
theorem vc_0:∀ ds M R E,S_0 ds M R E->rSs C_0 (ends R E) (Y1 4 ds) M:=by
 rintro ds M R E ⟨a,b,rfl,hb,hb2,h⟩;have L:=Dz a b hb;have D:=Uh (a:=a) hb hb2;simp[0,C_0,rSs,Ym,vAt,vHd,Y3,Yi,Yn,YE,dFor,YG,bMul,bAdd,iOp,sOp,fLen,Y5,Yg,fIsi,fAll,fAny,Yl,and_assoc,sizeLine_eq];refine⟨fun m δ M'=>∃ x y:Int,δ=[some (.int a),some (.int b),some (.int x),some (.int y)]/\M'=M/\0<=x/\0<=y/\Int.gcd x y=Int.gcd a b/\m=y.toNat,⟨_,_,_,rfl,rfl,?_,?_,?_,rfl⟩,?_⟩
 ·split<;>omega
 ·split<;>omega
 ·exact Bd a b
 ·rintro m δ M' ⟨x,y,rfl,rfl,h0,h1,hg,rfl⟩
  sleep 5;refine YO true ?_;by_cases hy:y=0
  ·subst hy
   have e:((x.gcd 0:Nat):Int)=x:=by unfold Int.gcd;simp;omega
   rw[hg] at e;rw[e] at L D;unfold nm at h;by_cases nb:b<0
   ·rw[if_pos nb] at L D
    simp[nb,D];rw[L.1,L.2];exact h
   ·rw[if_neg nb] at L D
    simp[nb,D];rw[L.1,L.2];exact h
  ·have yp:0<y:=by omega
   simp[hy];refine⟨fun δ' M1=>δ'=[some (.int a),some (.int b),some (.int y),some (.int (x.fmod y))]/\M1=M',?_,rfl,rfl⟩;rintro δ' M1 ⟨rfl,rfl⟩;have:=Zz (x:=x) yp;exact⟨(x.fmod y).toNat,by omega,y,_,rfl,rfl,h1,this.1,by rw[JJ h0 yp];exact hg,rfl⟩
noncomputable def S_24:DSp:=fun ds M Q E=>∃ p q:Rat,ds=[nm p,nm q]/\Ok2 p q/\Q (nm (p+q)) M
noncomputable def C_24:CSs:=%[.ret (.call "_law_low" S_0 %[.bin .Add (.bin .Mult (.ix (.var 0) (.int 0)) (.ix (.var 1) (.int 1))) (.bin .Mult (.ix (.var 1) (.int 0)) (.ix (.var 0) (.int 1))),.bin .Mult (.ix (.var 0) (.int 1)) (.ix (.var 1) (.int 1))|0])|0]
theorem vc_24:∀ ds M R E,S_24 ds M R E->rSs C_24 (ends R E) (Y1 2 ds) M:=by
 rintro ds M R E ⟨p,q,rfl,ok,h⟩;unfold C_24;dsimp only[rSs,rS,rE,rEs,DL.plain,dSeq,dRet,Zl,YY,dNil,d2,dVar,vAt,vHd,List.map,List.length_cons,List.length_nil,Nat.reduceAdd,Nat.reduceSub,List.replicate_succ,List.replicate_zero,List.cons_append,List.nil_append,dC,bOp,Y1];have n:=ok.nd;refine (ix0 (ix1 (mulI n.1 (ix0 (ix1 (mulI n.2.1 (addI (ix1 (ix1 (mulI n.2.2.1 ?_))))))))));refine⟨_,_,rfl,XA p q,ok.dd.1,?_⟩;rw[AI];exact h
noncomputable def S_2:DSp:=fun ds M Q E=>∃ p q:Rat,ds=[nm p,nm q]/\Ok2 p q/\Q (nm (p-q)) M
noncomputable def C_2:CSs:=%[.ret (.call "_law_low" S_0 %[.bin .Sub (.bin .Mult (.ix (.var 0) (.int 0)) (.ix (.var 1) (.int 1))) (.bin .Mult (.ix (.var 1) (.int 0)) (.ix (.var 0) (.int 1))),.bin .Mult (.ix (.var 0) (.int 1)) (.ix (.var 1) (.int 1))|0])|0]
theorem vc_2:∀ ds M R E,S_2 ds M R E->rSs C_2 (ends R E) (Y1 2 ds) M:=by
 rintro ds M R E ⟨p,q,rfl,ok,h⟩;unfold C_2;dsimp only[rSs,rS,rE,rEs,DL.plain,dSeq,dRet,Zl,YY,dNil,d2,dVar,vAt,vHd,List.map,List.length_cons,List.length_nil,Nat.reduceAdd,Nat.reduceSub,List.replicate_succ,List.replicate_zero,List.cons_append,List.nil_append,dC,bOp,Y1];have n:=ok.nd;refine (ix0 (ix1 (mulI n.1 (ix0 (ix1 (mulI n.2.1 (subI (ix1 (ix1 (mulI n.2.2.1 ?_))))))))));refine⟨_,_,rfl,XA p q,ok.dd.1,?_⟩;rw[A8];exact h
noncomputable def S_54:DSp:=fun ds M Q E=>∃ (p:Rat) (a b:Int),ds=[nm p,.tup [.int a,.int b]]/\b≠0/\(∃ m n,Sz m p/\a.natAbs<2 ^ n/\b.natAbs<2 ^ n/\m+n<=7998)/\Q (nm (p*Rat.divInt a b)) M
noncomputable def C_54:CSs:=%[.ret (.call "_law_low" S_0 %[.bin .Mult (.ix (.var 0) (.int 0)) (.ix (.var 1) (.int 0)),.bin .Mult (.ix (.var 0) (.int 1)) (.ix (.var 1) (.int 1))|0])|0]
theorem vc_54:∀ ds M R E,S_54 ds M R E->rSs C_54 (ends R E) (Y1 2 ds) M:=by
 rintro ds M R E ⟨p,a,b,rfl,hb,⟨m,n,s,ha,hb2,hl⟩,h⟩;have o1:IntMulOk p.num a:=X8 s.1 ha %[|5];have o2:IntMulOk p.den b:=X8 (Yk s) hb2 %[|5];unfold C_54;dsimp only[rSs,rS,rE,rEs,DL.plain,dSeq,dRet,Zl,YY,dNil,d2,dVar,vAt,vHd,List.map,List.length_cons,List.length_nil,Nat.reduceAdd,Nat.reduceSub,List.replicate_succ,List.replicate_zero,List.cons_append,List.nil_append,dC,bOp,Y1];refine (ix0 (tx0 (mulI o1 (ix1 (tx1 (mulI o2 ?_))))));refine⟨_,_,rfl,Int.mul_ne_zero (by have:=Xd p;omega) hb,Nat.lt_of_lt_of_le (YR (Yk s) hb2) (Ys %[|5]),?_⟩;rw[<- Rat.divInt_mul_divInt,Ya];exact h
noncomputable def S_23:DSp:=fun ds M Q E=>∃ p q:Rat,ds=[nm p,nm q]/\Ok2 p q/\Q (.bl (decide (p<q))) M
noncomputable def C_23:CSs:=%[.ret (.cmp .Lt (.bin .Mult (.ix (.var 0) (.int 0)) (.ix (.var 1) (.int 1))) (.bin .Mult (.ix (.var 1) (.int 0)) (.ix (.var 0) (.int 1))))|0]
theorem vc_23:∀ ds M R E,S_23 ds M R E->rSs C_23 (ends R E) (Y1 2 ds) M:=by
 rintro ds M R E ⟨p,q,rfl,ok,h⟩;unfold C_23;dsimp only[rSs,rS,rE,rEs,DL.plain,dSeq,dRet,Zl,YY,dNil,d2,dVar,vAt,vHd,List.map,List.length_cons,List.length_nil,Nat.reduceAdd,Nat.reduceSub,List.replicate_succ,List.replicate_zero,List.cons_append,List.nil_append,dC,bOp,cOp,Y1];have n:=ok.nd;refine (ix0 (ix1 (mulI n.1 (ix0 (ix1 (mulI n.2.1 ?_))))));show R (.bl (decide (p.num*q.den<q.num*p.den))) M;rw[show decide (p.num*(q.den:Int)<q.num*p.den)=decide (p<q) by simp only[GN]];exact h
theorem MExt.upd_new (h:M0 p=Option.none) (e:MExt M0 M):MExt M0 (M.upd p o):=fun a u z=>by
 have:a≠p:=fun q=>by rw[q,h] at z;cases z
 rw[YB this];exact e a u z
theorem JR (xs:List DL.D) (f:DL.D->DL.D)
  (hti:∀ R:List DL.D->(Mem->Prop)->Mem->Prop,(∀ keep,(∀ M',MExt M M'->keep M')->R xs keep M)->ti δ M R) (hlen:xs.length<=1000)
  (hel:∀ x∈xs,∀ l M' (R:DSt->DK),l.length=n->MExt M M'->(∀ l' M'',l'.length=n->MExt M' M''->R (δ++l') (f x) M'')->g x (δ++l) M' fun δ1 M1=>te δ1 M1 fun d M2=>R δ1 d M2)
  (hq:∀ p M',M p=Option.none->MExt M M'->M' p=some (.ls (xs.map f))->Q (.lst p) M'):YG n ti g te δ M Q:=by
 refine hti _ fun keep hk p hp=>⟨hk _ (.new hp),?_⟩;refine XX (M0:=M) f (fun δ'=>∃ l,l.length=n/\δ'=δ++l) hp hk ?_ (by simpa using hlen) ?_ ⟨_,by simp,rfl⟩ (.new hp) mupd_same
 ·rintro x hx δ' M' R ⟨l,hl,rfl⟩ e r
  exact hel x hx l M' R hl e fun l' M'' h1 h2=>r _ M'' ⟨l',h1,rfl⟩ h2
 ·intro M' e l
  exact⟨⟨_,l⟩,hq p M' hp e (by simpa using l)⟩
theorem WL (e f:α->DL.D) (I:DSt->Prop) (h0:M0 p=none) (hk:∀ M,MExt M0 M->keep M) :
  ∀ {xs:List α} {acc:List DL.D},(∀ x∈xs,∀ δ M (R:DSt->DK),I δ->MExt M0 M->(∀ δ1 M',I δ1->MExt M M'->R δ1 (f x) M')->g (e x) δ M fun δ1 M1=>te δ1 M1 fun d M2=>R δ1 d M2) ->
  (acc++xs.map f).length<=1000->(∀ M',MExt M0 M'->M' p=some (.ls (acc++xs.map f))->Q M')->∀ {δ M},I δ->MExt M0 M->M p=some (.ls acc)->Z2 g te keep p (xs.map e) acc δ M Q
 | [],acc,_,_,q,δ,M,i,e',l=>by show Z2 g te keep p [] acc δ M Q;unfold Z2;exact q M e' (by simpa using l)
 | x::xs,acc,h,hz,q,δ,M,i,e',l=>by
  show Z2 g te keep p (e x::xs.map e) acc δ M Q;unfold Z2;refine h x List.mem_cons_self δ M (fun δ1 d M2=>M2 p=some (.ls acc)/\acc.length<sizeLine/\keep (M2.upd p (.ls (acc++[d])))/\Z2 g te keep p (xs.map e) (acc++[d]) δ1 (M2.upd p (.ls (acc++[d]))) Q) i e' fun δ1 M' i' e2=>?_;have e3:MExt M0 (M'.upd p (.ls (acc++[f x]))):=MExt.upd_new h0 (e'.trans e2);refine⟨e2 _ _ l,?_,hk _ e3,WL e f I h0 hk (fun y hy=>h y (List.mem_cons_of_mem _ hy)) (by simpa using hz) (fun M2 e4 l4=>q M2 e4 (by simpa using l4)) i' e3 mupd_same⟩;rw[sizeLine_eq];simp at hz;omega
theorem YJ (xs:List α) (e f:α->DL.D)
  (hti:∀ R:List DL.D->(Mem->Prop)->Mem->Prop,(∀ keep,(∀ M',MExt M M'->keep M')->R (xs.map e) keep M)->ti δ M R) (hlen:xs.length<=1000)
  (hel:∀ x∈xs,∀ l M' (R:DSt->DK),l.length=n->MExt M M'->(∀ l' M'',l'.length=n->MExt M' M''->R (δ++l') (f x) M'')->g (e x) (δ++l) M' fun δ1 M1=>te δ1 M1 fun d M2=>R δ1 d M2)
  (hq:∀ p M',M p=Option.none->MExt M M'->M' p=some (.ls (xs.map f))->Q (.lst p) M'):YG n ti g te δ M Q:=by
 refine hti _ fun keep hk p hp=>⟨hk _ (.new hp),?_⟩;refine WL (M0:=M) e f (fun δ'=>∃ l,l.length=n/\δ'=δ++l) hp hk ?_ (by simpa using hlen) ?_ ⟨_,by simp,rfl⟩ (.new hp) mupd_same
 ·rintro x hx δ' M' R ⟨l,hl,rfl⟩ e2 r
  exact hel x hx l M' R hl e2 fun l' M'' h1 h2=>r _ M'' ⟨l',h1,rfl⟩ h2
 ·intro M' e2 l
  exact⟨⟨_,l⟩,hq p M' hp e2 (by simpa using l)⟩
theorem CC (h:δ[i]?=some (some (.tup xs))):∀ R:List DL.D->(Mem->Prop)->Mem->Prop,(∀ keep,(∀ M',MExt M M'->keep M')->R xs keep M)->Yn (dVar i) δ M R :=
 fun R r=>JW h (r _ fun _ _=>trivial)
theorem Uw (h:δ[i]?=some (some (.lst a))) (l:M a=some (.ls xs)):∀ R:List DL.D->(Mem->Prop)->Mem->Prop,(∀ keep,(∀ M',MExt M M'->keep M')->R xs keep M)->Yn (dVar i) δ M R :=
 fun R r=>JW h ⟨_,l,r _ fun M' e=>e _ _ l⟩
theorem len1 (h:l.length=1):∃ a,l=[a]:=match l,h with | [a],_=>⟨a,rfl⟩
theorem len2 (h:l.length=2):∃ a b,l=[a,b]:=match l,h with | [a,b],_=>⟨a,b,rfl⟩
theorem AF {M:Mem} {p:Addr} {Q:DK} {α:Type} {xs:List α} {f:α->Bool} (l:M p=some (.ls (xs.map fun x=>.bl (f x)))) (h:Q (.bl (xs.all f)) M):fAll [.lst p] M Q :=
 ⟨xs.map f,by rw[l,List.map_map];rfl,by rw[List.all_map];exact h⟩
theorem VM {M:Mem} {p:Addr} {Q:DK} {α:Type} {xs:List α} {f:α->Bool} (l:M p=some (.ls (xs.map fun x=>.bl (f x)))) (h:Q (.bl (xs.any f)) M):fAny [.lst p] M Q :=
 ⟨xs.map f,by rw[l,List.map_map];rfl,by rw[List.any_map];exact h⟩
mutual
noncomputable def Gd (M:Mem):DL.D->Prop
 | .tup xs=>Gds M xs
 | .int i=>i.natAbs<2 ^ 3000
 | .non=>True
 | .bl _=>True
 | .str _=>True
 | .fz _=>True
 | .lst a=>∃ xs,M a=some (.ls xs)
 | .dct a=>∃ xs,M a=some (.dk xs)
 | _=>False
noncomputable def Gds (M:Mem):List DL.D->Prop
 | []=>True
 | d::r=>Gd M d/\Gds M r
end
mutual
theorem Gd.ext (e:MExt M M'):∀ d,Gd M d->Gd M' d
 | .tup xs,h=>by unfold Gd at h ⊢;exact Gds.ext e xs h
 | .lst a,h=>by unfold Gd at h ⊢;exact let ⟨xs,q⟩:=h;⟨xs,e _ _ q⟩
 | .dct a,h=>by unfold Gd at h ⊢;exact let ⟨xs,q⟩:=h;⟨xs,e _ _ q⟩
 | .int i,h=>by unfold Gd at h ⊢;exact h
 | .non,_=>by unfold Gd;trivial
 | .bl _,_=>by unfold Gd;trivial
 | .str _,_=>by unfold Gd;trivial
 | .fz _,_=>by unfold Gd;trivial
 | .ty _,h=>by unfold Gd at h;exact h.elim
 | .ref _,h=>by unfold Gd at h;exact h.elim
 | .exc _ _,h=>by unfold Gd at h;exact h.elim
 | .cls _,h=>by unfold Gd at h;exact h.elim
theorem Gds.ext (e:MExt M M'):∀ ds,Gds M ds->Gds M' ds
 | [],_=>by unfold Gds;trivial
 | d::r,h=>by unfold Gds at h ⊢;exact⟨Gd.ext e d h.1,Gds.ext e r h.2⟩
end
theorem Gds.mem:∀ {ds:List DL.D},Gds M ds->∀ d∈ds,Gd M d
 | [],_,_,h=>by cases h
 | x::r,h,d,hd=>by
  unfold Gds at h;rcases List.mem_cons.mp hd with rfl|hd
  ·exact h.1
  ·exact Gds.mem h.2 d hd
theorem Gds.of:∀ {ds:List DL.D},(∀ d∈ds,Gd M d)->Gds M ds
 | [],_=>by unfold Gds;trivial
 | x::r,h=>by unfold Gds;exact⟨h x List.mem_cons_self,Gds.of fun d hd=>h d (List.mem_cons_of_mem _ hd)⟩
theorem Gd.tup (h:Gd M (.tup ds)):∀ d∈ds,Gd M d:=by unfold Gd at h;exact h.mem
theorem Gd.mk (h:∀ d∈ds,Gd M d):Gd M (.tup ds):=by unfold Gd;exact .of h
theorem Gd.ty (h:Gd M d):∃ t,tyD M d=some t:=by
 cases d<;>unfold Gd at h<;>first|exact⟨_,rfl⟩|exact h.elim|(obtain⟨xs,q⟩:=h;simp[tyD,q])
theorem JX (hn:∀ ds,d≠.tup ds) (h:tyD M d=some t):isiT t "tuple"=false:=by
 cases d with
 | tup ds=>exact absurd rfl (hn ds)
 | lst a =>
  simp only[tyD] at h;split at h<;>cases h
  decide
 | dct a =>
  simp only[tyD] at h;split at h<;>cases h
  decide
 | _=>first|(cases h;decide)|cases h
theorem Uc (h:tyD M d=some "int"):∃ i,d=.int i:=by
 cases d with
 | int i=>exact⟨i,rfl⟩
 | lst a=>simp only[tyD] at h;split at h<;>simp at h
 | dct a=>simp only[tyD] at h;split at h<;>simp at h
 | _=>simp[tyD] at h
noncomputable def S_15:DSp:=fun ds M Q _=>∃ d t,ds=[d]/\tyD M d=some t/\Q (.bl (decide (t="int"))) M
noncomputable def C_15:CSs:=%[.ret (.and (.bi .isinstance %[.var 0,.ty .int|0]) (.one (.not (.bi .isinstance %[.var 0,.ty .bool|0]))))|0]
theorem vc_15:∀ ds M R E,S_15 ds M R E->rSs C_15 (ends R E) (Y1 1 ds) M:=by
 rintro ds M R E ⟨d,t,rfl,ht,h⟩;simp[0,C_15,rSs,Ym,vAt,vHd,Y3,Yi,Yn,YE,dFor,YG,bMul,bAdd,iOp,sOp,fLen,Y5,Yg,fIsi,fAll,fAny,Yl,and_assoc,sizeLine_eq,ht];by_cases h1:t="int"
 ·subst h1;simp[isiT];exact h
 ·by_cases h2:t="bool"
  ·subst h2;simp[isiT];exact h
  ·simp[isiT,h1,h2];simpa[h1] using h
noncomputable def num?:DL.D->Option Rat
 | .tup [.int a,.int b]=>if 1<=b/\Int.gcd a b=1 then some (Rat.divInt a b) else none
 | _=>none
theorem UK (a b:Int):num? (.tup [.int a,.int b])=if 1<=b/\Int.gcd a b=1 then some (Rat.divInt a b) else none:=rfl
theorem Vs (q:Rat):num? (nm q)=some q:=by
 unfold nm;have:=Xd q;rw[UK,if_pos ⟨by omega,Ee q⟩,Ya]
theorem Ah (h:num? d=some q):d=nm q:=by
 unfold num? at h;split at h
 ·rename_i a b
  split at h
  ·rename_i hc
   cases h;obtain⟨e1,e2⟩:=Ag hc.1 hc.2;unfold nm;rw[e1,e2]
  ·cases h
 ·cases h
noncomputable def YU (d:DL.D):Bool:=(num? d).isSome
theorem isNum_iff:YU d=true ↔ ∃ q,d=nm q:=by
 unfold YU;constructor
 ·intro h;obtain⟨q,e⟩:=Option.isSome_iff_exists.mp h;exact⟨q,Ah e⟩
 ·rintro⟨q,rfl⟩;rw[Vs];rfl
theorem Wd (q:Rat):YU (nm q)=true:=isNum_iff.mpr ⟨q,rfl⟩
theorem Ua (h:(∀ i,a≠.int i)\/∀ i,b≠.int i):YU (.tup [a,b])=false:=by
 unfold YU num?;split
 ·rename_i i j e
  simp at e;rcases h with h|h
  ·exact absurd e.1 (h i)
  ·exact absurd e.2 (h j)
 ·rfl
theorem Gd.sz (h:Gd M (nm q)):Sz 3000 q:=by
 have a:=h.tup (.int q.num) (by simp);have b:=h.tup (.int q.den) (by simp);unfold Gd at a b;exact⟨a,by simpa using b⟩
theorem Gd.nm (h:Sz n q) (hn:n<=3000):Gd M (nm q):=by
 refine .mk fun d hd=>?_;have:=h.mono hn;simp at hd;rcases hd with rfl|rfl<;>unfold Gd
 ·exact this.1
 ·simpa using this.2
noncomputable def S_16:DSp:=fun ds M Q _=>∃ d,ds=[d]/\Gd M d/\Q (.bl (YU d)) M
noncomputable def C_16:CSs:=%[.ife (.or (.not (.bi .isinstance %[.var 0,.ty .tuple|0])) (.one (.cmp .NotEq (.bi .len %[.var 0|0]) (.int 2)))) %[.ret (.bl false)|0] .nil,.asg (.tup %[.name 1,.name 2|0]) (.var 0),.ife (.or (.not (.call "is_whole" S_15 %[.var 1|0])) (.or (.not (.call "is_whole" S_15 %[.var 2|0])) (.one (.cmp .Lt (.var 2) (.int 1))))) %[.ret (.bl false)|0] .nil,.ret (.cmp .Eq (.call "greatest_divisor" S_5 %[.var 1,.var 2|0]) (.int 1))|0]
theorem vc_16:∀ ds M R E,S_16 ds M R E->rSs C_16 (ends R E) (Y1 3 ds) M:=by
 rintro ds M R E ⟨d,rfl,gd,h⟩;obtain⟨t,ht⟩:=gd.ty;by_cases hd:∃ xs,d=.tup xs
 ·obtain⟨xs,rfl⟩:=hd
  by_cases hl:xs.length=2
  ·obtain⟨a,b,rfl⟩:∃ a b,xs=[a,b]:=by
    match xs,hl with
    | [a,b],_=>exact⟨a,b,rfl⟩
   obtain⟨ta,hta⟩:=(gd.tup a (by simp)).ty;obtain⟨tb,htb⟩:=(gd.tup b (by simp)).ty;unfold C_16;rw[Ye];simp[0,Ym,vAt,vHd,Y3,Yi,bMul,bAdd,sOp,Y5,Yg,fIsi,Yl,and_assoc,sizeLine_eq,Yd,fLen,tyD,isiT];refine YO true ?_;simp;sleep 1;rw[Ye];sleep 2;refine⟨a,ta,rfl,hta,?_⟩;by_cases h1:ta="int"
   ·subst h1
    obtain⟨i,rfl⟩:=Uc hta;simp;refine⟨b,tb,rfl,htb,?_⟩;by_cases h2:tb="int"
    ·subst h2
     obtain⟨j,rfl⟩:=Uc htb;simp;by_cases h3:j<1
     ·have e:YU (.tup [.int i,.int j])=false:=by
       unfold YU;rw[UK,if_neg %[|5]];rfl
      simp[h3];rw[e] at h;exact h
     ·simp[h3]
      sleep 1;refine⟨i,j,rfl,?_⟩;refine YO false ?_;have e:YU (.tup [.int i,.int j])=(((Int.gcd i j:Nat):Int)==1):=by
       unfold YU;rw[UK];by_cases hg:Int.gcd i j=1
       ·rw[if_pos ⟨by omega,hg⟩,hg];rfl
       ·rw[if_neg %[|5]]
        have:((Int.gcd i j:Nat):Int)≠1:=by omega
        simp[this]
      rw[e] at h;exact h
    ·simp[h2]
     have e:=Ua (a:=.int i) (b:=b) (.inr fun j z=>h2 (by subst z;cases htb;rfl));rw[e] at h;exact h
   ·simp[h1]
    have e:=Ua (a:=a) (b:=b) (.inl fun j z=>h1 (by subst z;cases hta;rfl));rw[e] at h;exact h
  ·have e:YU (.tup xs)=false:=by
    unfold YU num?;split
    ·rename_i z;cases z;simp at hl
    ·rfl
   rw[e] at h;unfold C_16;rw[Ye];simp[0,Ym,vAt,vHd,Y3,Yi,bMul,bAdd,sOp,Y5,Yg,fIsi,Yl,and_assoc,sizeLine_eq,Yd,fLen,tyD,isiT];refine YO true ?_;have:¬ ((xs.length:Int)=2):=by omega
   simp[this];exact h
 ·have hn:∀ ds,d≠.tup ds:=fun ds z=>hd ⟨ds,z⟩
  have e:YU d=false:=by
   unfold YU num?;split
   ·exact absurd rfl (hn _)
   ·rfl
  rw[e] at h;unfold C_16;rw[Ye];simp[0,Ym,vAt,vHd,Y3,Yi,bMul,bAdd,sOp,Y5,Yg,fIsi,Yl,and_assoc,sizeLine_eq,Yd,ht,JX hn ht];exact h
noncomputable def Yf (l m:Int):DL.D->Bool
 | .tup xs=>decide (l<=xs.length)&&decide ((xs.length:Int)<=m)&&xs.all YU
 | _=>false
noncomputable def S_17:DSp:=fun ds M Q _=>∃ d l m,ds=[d,.int l,.int m]/\m<=1000/\Gd M d/\∀ M',MExt M M'->Q (.bl (Yf l m d)) M'
noncomputable def C_17:CSs:=%[.ife (.or (.not (.bi .isinstance %[.var 0,.ty .tuple|0])) (.one (.not (.chain .LtE .LtE (.var 1) (.bi .len %[.var 0|0]) (.var 2))))) %[.ret (.bl false)|0] .nil,.ret (.bi .all %[.comp ["thing","least","most","part"] 1 (.name 3) (.seq (.var 0)) (.call "is_number" S_16 %[.var 3|0])|0])|0]
theorem vc_17:∀ ds M R E,S_17 ds M R E->rSs C_17 (ends R E) (Y1 3 ds) M:=by
 rintro ds M R E ⟨d,l,m,rfl,hm,gd,h⟩;obtain⟨t,ht⟩:=gd.ty;by_cases hd:∃ xs,d=.tup xs
 ·obtain⟨xs,rfl⟩:=hd
  simp[0,C_17,rSs,Ym,vAt,vHd,Yi,bMul,bAdd,iOp,sOp,fLen,Y5,Yg,fIsi,Yl,and_assoc,sizeLine_eq,tyD,isiT];by_cases h1:l<=(xs.length:Int)
  ·by_cases h2:(xs.length:Int)<=m
   ·rw[if_pos h1,if_pos h2]
    refine JR xs (fun x=>.bl (YU x)) (CC rfl) %[|5] ?_ ?_
    ·intro x hx l' M' R' hl e r
     obtain⟨a,rfl⟩:=len1 hl;sleep 5;exact⟨x,rfl,(gd.tup x hx).ext e,r [some x] M' rfl (.refl _)⟩
    ·intro p M' hp e l'
     refine AF l' ?_;have:=h M' e
     simpa[Yf,h1,h2] using this
   ·rw[if_pos h1,if_neg h2]
    have:=h M (.refl M)
    simpa[Yf,h2] using this
  ·rw[if_neg h1]
   have:=h M (.refl M)
   simpa[Yf,h1] using this
 ·have hn:∀ ds,d≠.tup ds:=fun ds z=>hd ⟨ds,z⟩
  have e:Yf l m d=false:=by
   unfold Yf;split
   ·exact absurd rfl (hn _)
   ·rfl
  rw[e] at h;simp[0,C_17,rSs,Ym,vAt,vHd,Y3,Yi,Yn,YE,dFor,YG,bMul,bAdd,iOp,sOp,fLen,Y5,Yg,fIsi,fAll,fAny,Yl,and_assoc,sizeLine_eq,ht,JX hn ht];exact h M (.refl M)
structure EqEnc {α:Type} [DecidableEq α] (e:α->DL.D) (k:Nat):Prop where
 ex:∃ e':α->PyData,(∀ M a,Py M (e a) (e' a))/\(∀ a b,PyData.eqv (e' a) (e' b)=decide (a=b))/\∀ a,(e' a).depth<=k
theorem EqEnc.eq {α:Type} [DecidableEq α] {e:α->DL.D} {k:Nat} (h:EqEnc e k) (hk:k<=60) {M:Mem} {Q:DK} {a b:α} (neg:Bool) (q:Q (.bl (if neg then !decide (a=b) else decide (a=b))) M):cEq neg (e a) (e b) M Q:=by
 obtain⟨e',h1,h2,h3⟩:=h.ex;refine K8 (h1 M a) (h1 M b) ?_ (by rw[h2];exact q);have:=h3 a;omega
theorem enc_nm:EqEnc nm 3:=by
 refine⟨fun q=>.tuple [.int q.num,.int q.den],fun M q=>.tup (.cons (.int _) (.cons (.int _) .nil)),fun p q=>?_,fun q=>by simp[PyData.depth,PyData.depthAll]⟩;simp only[PyData.eqv,PyData.eqvAll];by_cases h:p=q
 ·subst h;simp
 ·have:¬ (p.num=q.num/\(p.den:Int)=q.den):=fun ⟨a,b⟩=>h (Rat.ext a %[|5])
  simp only[h,decide_false];rw[Bool.eq_false_iff];intro z;simp at z;exact this ⟨z.1,by omega⟩
theorem Wv:∀ {l:List PyData},(∀ x∈l,x.depth<=k)->PyData.depthAll l<=k
 | [],_=>by simp[PyData.depthAll]
 | x::r,h=>by
  have a:=h x List.mem_cons_self;have b:=Wv fun y hy=>h y (List.mem_cons_of_mem _ hy);simp only[PyData.depthAll];omega
theorem UF {α:Type} {e:α->DL.D} {e':α->PyData} {M:Mem} (h:∀ a,Py M (e a) (e' a)):∀ l:List α,Pys M (l.map e) (l.map e')
 | []=>.nil
 | a::r=>.cons (h a) (UF h r)
theorem Bh [DecidableEq α] (h:∀ a b,PyData.eqv (e' a) (e' b)=decide (a=b)):∀ l m:List α,PyData.eqvAll (l.map e') (m.map e')=decide (l=m)
 | [],[]=>by simp[PyData.eqvAll]
 | [],_::_=>by simp[PyData.eqvAll]
 | _::_,[]=>by simp[PyData.eqvAll]
 | a::l,b::m=>by
  simp only[List.map_cons,PyData.eqvAll,h,Bh h l m,List.cons.injEq];by_cases h1:a=b<;>by_cases h2:l=m<;>simp[h1,h2]
theorem EqEnc.tup {α:Type} [DecidableEq α] {e:α->DL.D} {k:Nat} (h:EqEnc e k):EqEnc (fun l:List α=>.tup (l.map e)) (k+1):=by
 obtain⟨e',h1,h2,h3⟩:=h.ex;refine⟨fun l=>.tuple (l.map e'),fun M l=>.tup (UF (h1 M) l),fun a b=>by simp only[PyData.eqv];exact Bh h2 a b,fun l=>?_⟩;simp only[PyData.depth];have:=Wv (k:=k) (l:=l.map e') (by simp;exact fun a _=>h3 a);omega
noncomputable def rw (r:List Rat):DL.D:=.tup (r.map nm)
noncomputable def pl (p:Rat×Rat):DL.D:=.tup [nm p.1,nm p.2]
noncomputable def tb (t:List (Rat×Rat)):DL.D:=.tup (t.map pl)
theorem enc_rw:EqEnc rw 4:=enc_nm.tup
theorem Wi {M:Mem} {Q:DK} {a b:Rat} (neg:Bool) (q:Q (.bl (if neg then !decide (a=b) else decide (a=b))) M):cEq neg (nm a) (nm b) M Q:=enc_nm.eq %[|4] neg q
theorem KJ {M:Mem} {Q:DK} {a b:List Rat} (neg:Bool) (q:Q (.bl (if neg then !decide (a=b) else decide (a=b))) M):cEq neg (rw a) (rw b) M Q:=enc_rw.eq %[|4] neg q
noncomputable def place?:DL.D->Option (Rat×Rat)
 | .tup [a,b]=>match num? a,num? b with
  | some p,some q=>if p<=q then some (p,q) else none
  | _,_=>none
 | _=>none
noncomputable def Zb (d:DL.D):Bool:=(place? d).isSome
theorem D7 (h:place? d=some p):d=pl p/\p.1<=p.2:=by
 unfold place? at h;split at h
 ·rename_i a b
  split at h
  ·rename_i x y e1 e2
   split at h
   ·rename_i hl
    cases h;exact⟨by rw[Ah e1,Ah e2];rfl,hl⟩
   ·cases h
  ·cases h
 ·cases h
theorem D6 (h:p.1<=p.2):place? (pl p)=some p:=by
 unfold pl place?;simp only[Vs];rw[if_pos h]
theorem isPlace_iff:Zb d=true ↔ ∃ p:Rat×Rat,d=pl p/\p.1<=p.2:=by
 unfold Zb;constructor
 ·intro h;obtain⟨p,e⟩:=Option.isSome_iff_exists.mp h;exact⟨p,D7 e⟩
 ·rintro⟨p,rfl,h⟩;rw[D6 h];rfl
noncomputable def S_18:DSp:=fun ds M Q _=>∃ d,ds=[d]/\Gd M d/\∀ M',MExt M M'->Q (.bl (Zb d)) M'
noncomputable def C_18:CSs:=%[.ret (.and (.call "are_numbers" S_17 %[.var 0,.int 2,.int 2|0]) (.one (.not (.call "is_less" S_4 %[.ix (.var 0) (.int 1),.ix (.var 0) (.int 0)|0]))))|0]
theorem DM {a b:Prop} (h:a):if true=true then a else b:=h
theorem KE {a b:Prop} (h:b):if false=true then a else b:=h
theorem vc_18:∀ ds M R E,S_18 ds M R E->rSs C_18 (ends R E) (Y1 1 ds) M:=by
 rintro ds M R E ⟨d,rfl,gd,h⟩;unfold C_18;dsimp only[rSs,rS,rE,rEs,DL.plain,dSeq,dRet,Zl,YY,dNil,d2,dVar,vAt,vHd,List.map,List.length_cons,List.length_nil,Nat.reduceAdd,Nat.reduceSub,List.replicate_succ,List.replicate_zero,List.cons_append,List.nil_append,List.set_cons_succ,List.set_cons_zero,dC,Y1,Bo,EG,dTru,dNot];refine⟨d,2,2,rfl,by decide,gd,fun M' e=>⟨_,rfl,?_⟩⟩;cases q:Yf 2 2 d with
 | true =>
  obtain⟨a,b,rfl,ha,hb⟩:∃ a b,d=.tup [a,b]/\YU a=true/\YU b=true:=by
   unfold Yf at q;split at q
   ·rename_i xs
    simp at q;obtain⟨a,b,rfl⟩:=len2 (l:=xs) %[|5];exact⟨a,b,rfl,by simpa using q.2 a (by simp),by simpa using q.2 b (by simp)⟩
   ·cases q
  obtain⟨x,rfl⟩:=isNum_iff.mp ha;obtain⟨y,rfl⟩:=isNum_iff.mp hb;have sx:=(gd.tup (nm x) (by simp)).sz;have sy:=(gd.tup (nm y) (by simp)).sz;refine DM ⟨_,ZO _ _ _,_,Yw _ _,y,x,rfl,.mk sy sx %[|4],?_⟩;have:=h M' e;have e2:Zb (.tup [nm x,nm y])=!decide (y<x):=by
   unfold Zb place?;simp only[Vs];by_cases z:x<=y
   ·rw[if_pos z,decide_eq_false (by grind)];rfl
   ·rw[if_neg z,decide_eq_true (by grind)];rfl
  rw[e2] at this;exact⟨_,rfl,this⟩
 | false =>
  refine KE ?_;have:=h M' e;have e2:Zb d=false:=by
   cases z:Zb d with
   | false=>rfl
   | true =>
    obtain⟨p,rfl,_⟩:=isPlace_iff.mp z;simp[Yf,pl,Wd] at q
  rw[e2] at this;exact this
abbrev Zd:DL.D:=.int 25
noncomputable def YX:DL.D->Bool
 | .tup xs=>decide (2<=xs.length)&&decide (xs.length<=25)&&xs.all Zb
 | _=>false
noncomputable def S_19:DSp:=fun ds M Q _=>∃ d,ds=[d]/\Gd M d/\∀ M',MExt M M'->Q (.bl (YX d)) M'
noncomputable def C_19:CSs:=%[.ife (.or (.not (.bi .isinstance %[.var 0,.ty .tuple|0])) (.one (.not (.chain .LtE .LtE (.int 2) (.bi .len %[.var 0|0]) (.glo "MOST_PLACES" Zd))))) %[.ret (.bl false)|0] .nil,.ret (.bi .all %[.comp ["thing","part"] 1 (.name 1) (.seq (.var 0)) (.call "is_place" S_18 %[.var 1|0])|0])|0]
theorem vc_19:∀ ds M R E,S_19 ds M R E->rSs C_19 (ends R E) (Y1 1 ds) M:=by
 rintro ds M R E ⟨d,rfl,gd,h⟩;obtain⟨t,ht⟩:=gd.ty;by_cases hd:∃ xs,d=.tup xs
 ·obtain⟨xs,rfl⟩:=hd
  simp[0,C_19,rSs,Ym,vAt,vHd,Yi,bMul,bAdd,iOp,sOp,fLen,Y5,Yg,fIsi,Yl,and_assoc,sizeLine_eq,tyD,isiT];by_cases h1:(2:Int)<=(xs.length:Int)
  ·by_cases h2:(xs.length:Int)<=25
   ·rw[if_pos h1,if_pos h2]
    refine JR xs (fun x=>.bl (Zb x)) (CC rfl) %[|5] ?_ ?_
    ·intro x hx l' M' R' hl e r
     obtain⟨a,rfl⟩:=len1 hl;sleep 5;exact⟨x,rfl,(gd.tup x hx).ext e,fun M'' e2=>r [some x] M'' rfl e2⟩
    ·intro p M' hp e l'
     refine AF l' ?_;have:=h M' e;have z1:2<=xs.length:=by omega
     have z2:xs.length<=25:=by omega
     simpa[YX,z1,z2] using this
   ·rw[if_pos h1,if_neg h2]
    have:=h M (.refl M);have z2:¬ xs.length<=25:=by omega
    simpa[YX,z2] using this
  ·rw[if_neg h1]
   have:=h M (.refl M);have z1:¬ 2<=xs.length:=by omega
   simpa[YX,z1] using this
 ·have hn:∀ ds,d≠.tup ds:=fun ds z=>hd ⟨ds,z⟩
  have e:YX d=false:=by
   unfold YX;split
   ·exact absurd rfl (hn _)
   ·rfl
  rw[e] at h;simp[0,C_19,rSs,Ym,vAt,vHd,Y3,Yi,Yn,YE,dFor,YG,bMul,bAdd,iOp,sOp,fLen,Y5,Yg,fIsi,fAll,fAny,Yl,and_assoc,sizeLine_eq,ht,JX hn ht];exact h M (.refl M)
theorem Cs (h:xs.all Zb=true):∃ t:List (Rat×Rat),xs=t.map pl/\∀ p∈t,p.1<=p.2:=by
 induction xs with
 | nil=>exact⟨[],rfl,by simp⟩
 | cons x r ih =>
  simp only[List.all_cons,Bool.and_eq_true] at h;obtain⟨p,rfl,hp⟩:=isPlace_iff.mp h.1;obtain⟨t,rfl,ht⟩:=ih h.2;refine⟨p::t,rfl,fun q hq=>?_⟩;rcases List.mem_cons.mp hq with rfl|hq
  ·exact hp
  ·exact ht q hq
structure Tube (t:List (Rat×Rat)):Prop where
 two:2<=t.length
 most:t.length<=25
 ok:∀ p∈t,p.1<=p.2
theorem isTube_iff:YX d=true ↔ ∃ t,d=tb t/\Tube t:=by
 constructor
 ·intro h
  unfold YX at h;split at h
  ·simp only[Bool.and_eq_true,decide_eq_true_eq] at h
   obtain⟨t,rfl,ht⟩:=Cs h.2;exact⟨t,rfl,by simpa using h.1.1,by simpa using h.1.2,ht⟩
  ·cases h
 ·rintro⟨t,rfl,ht⟩
  unfold YX tb;have:=ht.two;have:=ht.most;simp only[List.length_map,Bool.and_eq_true,decide_eq_true_eq];refine⟨⟨ht.two,ht.most⟩,?_⟩;rw[List.all_eq_true];intro x hx;obtain⟨p,hp,rfl⟩:=List.mem_map.mp hx;exact isPlace_iff.mpr ⟨p,rfl,ht.ok p hp⟩
noncomputable def Sq (M:Mem) (d:DL.D) (xs:List DL.D):Prop:=d=.tup xs\/d=.fz xs\/∃ a,d=.lst a/\M a=some (.ls xs)
theorem Sq.ext (h:Sq M d xs) (e:MExt M M'):Sq M' d xs:=by
 rcases h with h|h|⟨a,h,l⟩
 ·exact .inl h
 ·exact .inr (.inl h)
 ·exact .inr (.inr ⟨a,h,e _ _ l⟩)
theorem Sq.ix (h:Sq M d xs) (e:L2.atI xs i=some v) (q:Q v M):iOp d (.int i) M Q:=by
 rcases h with rfl|rfl|⟨a,rfl,l⟩
 ·exact⟨v,e,q⟩
 ·exact⟨v,e,q⟩
 ·exact⟨xs,v,l,e,q⟩
theorem Sq.len (h:Sq M d xs) (q:Q (.int xs.length) M):fLen [d] M Q:=by
 rcases h with rfl|rfl|⟨a,rfl,l⟩
 ·exact q
 ·exact q
 ·exact⟨xs,l,q⟩
theorem Yz {α:Type} {xs:List α} {i:Nat} {v:α} (h:xs[i]?=some v):L2.atI xs (i:Int)=some v:=L2.atI_nat h
theorem V4 (h:xs≠[]):L2.atI xs (-1)=some (xs.getLast h):=by
 unfold L2.atI L2.ixN;have:=List.length_pos_iff.mpr h;rw[if_neg %[|5],if_pos %[|5]];have e:(-1+(xs.length:Int)).toNat=xs.length-1:=by omega
 rw[e];simp[List.getLast_eq_getElem]
theorem Ak (i:Int):nm (i:Rat)=.tup [.int i,.int 1]:=rfl
noncomputable def lo (t:List (Rat×Rat)) (i:Nat):Rat:=(t.getD i (0,0)).1
noncomputable def hi (t:List (Rat×Rat)) (i:Nat):Rat:=(t.getD i (0,0)).2
theorem W1 (h:i<t.length):(t.map pl)[i]?=some (pl (lo t i,hi t i)):=by
 simp[h,lo,hi]
noncomputable def tied (t:List (Rat×Rat)):Bool:=decide (lo t 0=hi t 0)&&decide (lo t (t.length-1)=hi t (t.length-1))
noncomputable def Z7 (d:DL.D):Bool:=by
 classical exact decide (∃ t,d=tb t/\Tube t/\tied t=true)
theorem Hz (h:pl p=pl q):p=q:=by
 unfold pl nm at h;simp at h;exact Prod.ext (Rat.ext h.1.1 %[|5]) (Rat.ext h.2.1 %[|5])
theorem Vu:∀ {s t:List (Rat×Rat)},s.map pl=t.map pl->s=t
 | [],[],_=>rfl
 | [],_::_,h=>by simp at h
 | _::_,[],h=>by simp at h
 | a::s,b::t,h=>by
  simp only[List.map_cons,List.cons.injEq] at h;rw[Hz h.1,Vu h.2]
theorem Vc (h:tb s=tb t):s=t:=by
 unfold tb at h;injection h with h
 exact Vu h
theorem ZV (h:Tube t):Z7 (tb t)=tied t:=by
 unfold Z7;cases e:tied t with
 | true=>simpa using ⟨t,rfl,h,e⟩
 | false =>
  simp only[decide_eq_false_iff_not];rintro⟨s,e1,_,e2⟩;rw[<- Vc e1,e] at e2;cases e2
theorem Vy (h:YX d=false):Z7 d=false:=by
 unfold Z7;simp only[decide_eq_false_iff_not];rintro⟨s,rfl,ht,_⟩;rw[isTube_iff.mpr ⟨s,rfl,ht⟩] at h;cases h
noncomputable def S_20:DSp:=fun ds M Q _=>∃ d,ds=[d]/\Gd M d/\∀ M',MExt M M'->Q (.bl (Z7 d)) M'
noncomputable def C_20:CSs:=%[.ret (.and (.call "is_tube" S_19 %[.var 0|0]) (.and (.cmp .Eq (.ix (.ix (.var 0) (.int 0)) (.int 0)) (.ix (.ix (.var 0) (.int 0)) (.int 1))) (.one (.cmp .Eq (.ix (.ix (.var 0) (.neg (.int 1))) (.int 0)) (.ix (.ix (.var 0) (.neg (.int 1))) (.int 1))))))|0]
theorem tix (e:L2.atI xs i=some v) (q:Q v M):iOp (.tup xs) (.int i) M Q:=⟨v,e,q⟩
theorem pl0 (q:Q (nm p.1) M):iOp (pl p) (.int 0) M Q:=⟨_,Yw _ _,q⟩
theorem pl1 (q:Q (nm p.2) M):iOp (pl p) (.int 1) M Q:=⟨_,ZO _ _ _,q⟩
theorem EV {t:List (Rat×Rat)} (h2:2<=t.length):L2.atI (t.map pl) 0=some (pl (lo t 0,hi t 0))/\L2.atI (t.map pl) (-1)=some (pl (lo t (t.length-1),hi t (t.length-1))):=by
 refine⟨Yz (i:=0) (W1 %[|5]),?_⟩;have hne:t.map pl≠[]:=by intro z;simp at z;subst z;simp at h2
 rw[V4 hne];have:=W1 (t:=t) (i:=t.length-1) %[|5];rw[List.getElem?_eq_getElem (by simp;omega)] at this;simp only[Option.some.injEq] at this;rw[<- this];simp[List.getLast_eq_getElem]
theorem vc_20:∀ ds M R E,S_20 ds M R E->rSs C_20 (ends R E) (Y1 1 ds) M:=by
 rintro ds M R E ⟨d,rfl,gd,h⟩;unfold C_20;dsimp only[rSs,rS,rE,rEs,DL.plain,dSeq,dRet,Zl,YY,dNil,d2,dVar,vAt,vHd,List.map,List.length_cons,List.length_nil,Nat.reduceAdd,Nat.reduceSub,List.replicate_succ,List.replicate_zero,List.cons_append,List.nil_append,List.set_cons_succ,List.set_cons_zero,dC,bOp,cOp,Y1,Bo,dNeg];refine⟨d,rfl,gd,fun M' e=>⟨_,rfl,?_⟩⟩;have hm:=h M' e;cases q:YX d with
 | false =>
  rw[Vy q] at hm;exact hm
 | true =>
  obtain⟨t,rfl,ht⟩:=isTube_iff.mp q;rw[ZV ht] at hm;obtain⟨a0,a1⟩:=EV ht.two;unfold tied at hm;refine DM ?_;refine tix a0 (pl0 (tix a0 (pl1 (Wi false ⟨_,rfl,?_⟩))));by_cases z1:lo t 0=hi t 0
  ·rw[decide_eq_true z1,Bool.true_and] at hm
   show if decide (lo t 0=hi t 0)=true then _ else _
   rw[decide_eq_true z1];refine DM ?_;exact⟨_,rfl,tix a1 (pl0 ⟨_,rfl,tix a1 (pl1 (Wi false hm))⟩)⟩
  ·rw[decide_eq_false z1,Bool.false_and] at hm
   show if decide (lo t 0=hi t 0)=true then _ else _
   rw[decide_eq_false z1];exact hm
noncomputable def S_21:DSp:=fun ds M Q E=>∃ d,ds=[d]/\Gd M d/\∀ M',MExt M M'->if Z7 d=true then Q .non M' else E (.exc "NoTube" .non) M'
noncomputable def C_21:CSs:=%[.ife (.not (.call "is_tied" S_20 %[.var 0|0])) %[.rse "NoTube" %[.str "this is no tied tube"|0]|0] .nil|0]
theorem vc_21:∀ ds M R E,S_21 ds M R E->rSs C_21 (ends R E) (Y1 1 ds) M:=by
 rintro ds M R E ⟨d,rfl,gd,h⟩;simp[0,C_21,rSs,Ym,vAt,vHd,Y3,Yi,Yn,YE,dFor,YG,bMul,bAdd,iOp,sOp,fLen,Y5,Yg,fIsi,fAll,fAny,Yl,and_assoc,sizeLine_eq];refine⟨d,rfl,gd,fun M' e=>?_⟩;have:=h M' e;cases q:Z7 d<;>simp[q] at this ⊢<;>exact this
theorem Zt {b t:Nat} (h:b<=t):(((t:Int)-(b:Int):Int):Rat)=(t:Rat)-(b:Rat):=by push_cast;rfl
theorem Ze {i:Int} (h:i.natAbs<128):Sz 7 (i:Rat):=Sz.int (by simpa using h) %[|4]
theorem ZP {m n b t:Nat} {h x:Rat} (hx:Sz m x) (hh:Sz n h) (hb:b<t) (ht:t<=100):Sz (m+n+8) (Y6 b h t x):=by
 unfold Y6;have g:=Wg hb;have s:=Ze (i:=(t:Int)-(b:Int)) %[|5];rw[Zt %[|5]] at s;exact ((hx.sub hh).div s (by grind)).mono %[|5]
noncomputable def S_9:DSp:=fun ds M Q E=>∃ (b t:Nat) (h x:Rat),ds=[.int b,nm h,.int t,nm x]/\b<t/\t<=100/\(∃ m n,Sz m x/\Sz n h/\m+n<=7900)/\Q (nm (Y6 b h t x)) M
noncomputable def C_9:CSs:=%[.ret (.call "parted" S_8 %[.call "taken" S_7 %[.var 3,.var 1|0],.tup %[.bin .Sub (.var 2) (.var 0),.int 1|0]|0])|0]
theorem vc_9:∀ ds M R E,S_9 ds M R E->rSs C_9 (ends R E) (Y1 4 ds) M:=by
 rintro ds M R E ⟨b,t,h,x,rfl,hb,ht,⟨m,n,sx,sh,hl⟩,q⟩;simp[0,C_9,rSs,Ym,vAt,vHd,Y3,Yi,Yn,YE,dFor,YG,bMul,bAdd,iOp,sOp,fLen,Y5,Yg,fIsi,fAll,fAny,Yl,and_assoc,sizeLine_eq];refine⟨x,h,rfl,.mk sx sh %[|5],?_⟩;have g:=Wg hb;have s:=Ze (i:=(t:Int)-(b:Int)) %[|5];rw[Zt %[|5]] at s;refine⟨x-h,(t:Rat)-(b:Rat),?_,.mk (sx.sub sh) s %[|5],.inl ⟨by grind,q⟩⟩;rw[<- Zt %[|5],Ak]
noncomputable def NT (t:List (Rat×Rat)) (b:Nat) (h:Rat):Option (Nat×Rat)->Prop
 | none=>b+1=t.length\/∃ la ha SL FH,Scan (lo t) (hi t) b h la ha SL FH t.length
 | some (p,v)=>∃ la ha SL FH e,Scan (lo t) (hi t) b h la ha SL FH e/\e<t.length/\((FH<Y6 b h e (lo t e)/\p=ha/\v=hi t ha)\/(¬ FH<Y6 b h e (lo t e)/\Y6 b h e (hi t e)<SL/\p=la/\v=lo t la))
noncomputable def ntD:Option (Nat×Rat)->Nat->DL.D
 | none,_=>.non
 | some (p,v),e=>.tup [.tup [.int p,nm v],.int e]
structure Places (t:List (Rat×Rat)) (k:Nat):Prop where
 most:t.length<=100
 ok:∀ i,i<t.length->lo t i<=hi t i
 slo:∀ i,i<t.length->Sz k (lo t i)
 shi:∀ i,i<t.length->Sz k (hi t i)
 few:k<=1900
noncomputable def S_10:DSp:=fun ds M Q E=>∃ d t k b h,ds=[d,.int (b:Nat),nm h]/\Sq M d (t.map pl)/\Places t k/\b<t.length/\Sz k h/\∀ res e,NT t b h res->Q (ntD res e) M
noncomputable def C_10:CSs:=%[.ife (.cmp .Eq (.bin .Add (.var 1) (.int 1)) (.bi .len %[.var 0|0])) %[.ret .non|0] .nil,.two (.name 3) (.name 4) (.bin .Add (.var 1) (.int 1)),.set 5 (.call "rise" S_9 %[.var 1,.var 2,.var 3,.ix (.ix (.var 0) (.var 3)) (.int 0)|0]),.set 6 (.call "rise" S_9 %[.var 1,.var 2,.var 4,.ix (.ix (.var 0) (.var 4)) (.int 1)|0]),.fr (.name 7) (.rng %[.bin .Add (.var 1) (.int 2),.bi .len %[.var 0|0]|0]) %[.set 8 (.call "rise" S_9 %[.var 1,.var 2,.var 7,.ix (.ix (.var 0) (.var 7)) (.int 0)|0]),.set 9 (.call "rise" S_9 %[.var 1,.var 2,.var 7,.ix (.ix (.var 0) (.var 7)) (.int 1)|0]),.ife (.call "is_less" S_4 %[.var 6,.var 8|0]) %[.ret (.tup %[.tup %[.var 4,.ix (.ix (.var 0) (.var 4)) (.int 1)|0],.var 7|0])|0] .nil,.ife (.call "is_less" S_4 %[.var 9,.var 5|0]) %[.ret (.tup %[.tup %[.var 3,.ix (.ix (.var 0) (.var 3)) (.int 0)|0],.var 7|0])|0] .nil,.ife (.not (.call "is_less" S_4 %[.var 8,.var 5|0])) %[.par 3 5 (.var 7) (.var 8)|0] .nil,.ife (.not (.call "is_less" S_4 %[.var 6,.var 9|0])) %[.par 4 6 (.var 7) (.var 9)|0] .nil|0],.ret .non|0]
theorem vc_10:∀ ds M R E,S_10 ds M R E->rSs C_10 (ends R E) (Y1 10 ds) M:=by
 rintro ds M R E ⟨d,t,k,b,h,rfl,sq,P,hb,sh,q⟩;have lenD:∀ Q:DK,Q (.int t.length) M->fLen [d] M Q:=fun Q z=>sq.len (by simpa using z);have ix:∀ (i:Nat) (Q:DK),i<t.length->Q (pl (lo t i,hi t i)) M->iOp d (.int i) M Q:=fun i Q hi' z=>sq.ix (Yz (W1 hi')) z;have few:=P.few;unfold C_10;rw[Ye];sleep 2;refine lenD _ (YO false ?_);by_cases hz:b+1=t.length
 ·refine .inr ⟨?_,?_⟩
  ·have:(b:Int)+1=t.length:=by omega
   simp[this]
  ·sleep 1
   exact q none 0 (.inl hz)
 ·refine .inl ⟨?_,?_⟩
  ·have:¬ (b:Int)+1=t.length:=by omega
   simp[this]
  have hb1:b+1<t.length:=by omega
  have most:=P.most;sleep 1;sleep 1;refine ix (b+1) _ hb1 ?_;refine (Sq.ix (.inl rfl) (Yw _ _) ?_);refine⟨b,b+1,h,lo t (b+1),rfl,by omega,by omega,⟨k,k,P.slo _ hb1,sh,by omega⟩,?_⟩;sleep 1;refine ix (b+1) _ hb1 ?_;refine (Sq.ix (.inl rfl) (ZO _ _ _) ?_);refine⟨b,b+1,h,hi t (b+1),rfl,by omega,by omega,⟨k,k,P.shi _ hb1,sh,by omega⟩,?_⟩;sleep 4;refine lenD _ ⟨by omega,by omega,by omega,by omega,?_⟩;refine Yv (fun i δ M'=>M'=M/\∃ (la ha:Nat) (SL FH:Rat) (w7 w8 w9:Option DL.D),δ=[some d,some (.int b),some (nm h),some (.int la),some (.int ha),some (nm SL),some (nm FH),w7,w8,w9]/\Scan (lo t) (hi t) b h la ha SL FH (b+2+i)/\b+2+i<=t.length) (fun _ _ _ _=>trivial) ?_ ?_ ⟨rfl,b+1,b+1,_,_,_,_,_,rfl,Scan.first (P.ok _ hb1),by omega⟩
  ·rintro δ M' ⟨rfl,la,ha,SL,FH,w7,w8,w9,rfl,S,hle⟩
   rw[Xo] at S hle;have e:b+2+((t.length:Int)-((b:Int)+2)).toNat=t.length:=by omega
   rw[e] at S;sleep 1;exact q none 0 (.inr ⟨la,ha,SL,FH,S⟩)
  ·rintro i x hx N hN δ M' ⟨rfl,la,ha,SL,FH,w7,w8,w9,rfl,S,hle⟩
   obtain⟨rfl,hi'⟩:=W6 hx;have hbe:b+2+i<t.length:=by omega
   have eI:((b:Int)+2+(i:Int)*1)=((b+2+i:Nat):Int):=by omega
   rw[eI];have sSL:Sz (k+k+8) SL:=by rw[S.laE];exact ZP (P.slo _ (by have:=S.la1;omega)) sh S.la0 (by have:=S.la1;omega)
   have sFH:Sz (k+k+8) FH:=by rw[S.haE];exact ZP (P.shi _ (by have:=S.ha1;omega)) sh S.ha0 (by have:=S.ha1;omega)
   have sl1:Sz (k+k+8) (Y6 b h (b+2+i) (lo t (b+2+i))):=ZP (P.slo _ hbe) sh %[|5] %[|5];have sl2:Sz (k+k+8) (Y6 b h (b+2+i) (hi t (b+2+i))):=ZP (P.shi _ hbe) sh %[|5] %[|5];sleep 2;sleep 1;refine ix (b+2+i) _ hbe ?_;refine (Sq.ix (.inl rfl) (Yw _ _) ?_);refine⟨b,b+2+i,h,lo t (b+2+i),rfl,by omega,by omega,⟨k,k,P.slo _ hbe,sh,by omega⟩,?_⟩;sleep 1;refine ix (b+2+i) _ hbe ?_;refine (Sq.ix (.inl rfl) (ZO _ _ _) ?_);refine⟨b,b+2+i,h,hi t (b+2+i),rfl,by omega,by omega,⟨k,k,P.shi _ hbe,sh,by omega⟩,?_⟩;sleep 1;refine⟨FH,_,rfl,.mk sFH sl1 %[|5],?_⟩;by_cases c1:FH<Y6 b h (b+2+i) (lo t (b+2+i))
   ·simp[c1]
    sleep 1;refine ix ha _ (by have:=S.ha1;omega) ?_;refine (Sq.ix (.inl rfl) (ZO _ _ _) ?_);exact q (some (ha,hi t ha)) (b+2+i) ⟨la,ha,SL,FH,_,S,hbe,.inl ⟨c1,rfl,rfl⟩⟩
   ·simp[c1]
    sleep 1;refine⟨_,SL,rfl,.mk sl2 sSL %[|5],?_⟩;by_cases c2:Y6 b h (b+2+i) (hi t (b+2+i))<SL
    ·simp[c2]
     sleep 1;refine ix la _ (by have:=S.la1;omega) ?_;refine (Sq.ix (.inl rfl) (Yw _ _) ?_);exact q (some (la,lo t la)) (b+2+i) ⟨la,ha,SL,FH,_,S,hbe,.inr ⟨c1,c2,rfl,rfl⟩⟩
    ·simp[c2]
     have S':=S.step (P.ok _ hbe) c1 c2;sleep 1;refine⟨_,SL,rfl,.mk sl1 sSL %[|5],?_⟩;by_cases c3:Y6 b h (b+2+i) (lo t (b+2+i))<SL
     ·rw[if_pos c3,if_pos c3] at S'
      simp[c3];sleep 1;refine⟨FH,_,rfl,.mk sFH sl2 %[|5],?_⟩;by_cases c4:FH<Y6 b h (b+2+i) (hi t (b+2+i))
      ·rw[if_pos c4,if_pos c4] at S'
       simp[c4];exact hN _ _ ⟨rfl,_,_,_,_,_,_,_,rfl,S',by omega⟩
      ·rw[if_neg c4,if_neg c4] at S'
       simp[c4];sleep 1;exact hN _ _ ⟨rfl,_,_,_,_,_,_,_,rfl,S',by omega⟩
     ·rw[if_neg c3,if_neg c3] at S'
      simp[c3];sleep 1;sleep 1;refine⟨FH,_,rfl,.mk sFH sl2 %[|5],?_⟩;by_cases c4:FH<Y6 b h (b+2+i) (hi t (b+2+i))
      ·rw[if_pos c4,if_pos c4] at S'
       simp[c4];exact hN _ _ ⟨rfl,_,_,_,_,_,_,_,rfl,S',by omega⟩
      ·rw[if_neg c4,if_neg c4] at S'
       simp[c4];sleep 1;exact hN _ _ ⟨rfl,_,_,_,_,_,_,_,rfl,S',by omega⟩
noncomputable def ri (r:List Rat) (i:Nat):Rat:=r.getD i 0
noncomputable def seg (b p:Nat) (h s:Rat):List Rat:=(List.range (p-b)).map fun i=>line b h s (b+1+i)
theorem AT (b p:Nat) (h s:Rat):(seg b p h s).length=p-b:=by simp[seg]
theorem EY {b t k m:Nat} {h s:Rat} (hh:Sz k h) (hs:Sz m s) (hb:b<=t) (ht:t<=100):Sz (k+m+8) (line b h s t):=by
 unfold line;have s7:=Ze (i:=(t:Int)-(b:Int)) %[|5];rw[Zt hb] at s7;exact (hh.add (hs.mul s7)).mono %[|5]
noncomputable def S_13:DSp:=fun ds M Q E=>∃ (b p k:Nat) (h v:Rat),ds=[.int b,nm h,.tup [.int p,nm v]]/\b<p/\p<=100/\Sz k h/\Sz k v/\k<=1900 /\
 ∀ q M',M q=none->MExt M M'->M' q=some (.ls ((seg b p h (Y6 b h p v)).map nm))->Q (.lst q) M'
noncomputable def C_13:CSs:=%[.asg (.tup %[.name 3,.name 4|0]) (.var 2),.set 5 (.call "rise" S_9 %[.var 0,.var 1,.var 3,.var 4|0]),.ret (.comp ["begin","height","touch","at","other_height","climb","many"] 1 (.name 6) (.rng %[.int 1,.bin .Add (.bin .Sub (.var 3) (.var 0)) (.int 1)|0]) (.call "added" S_12 %[.var 1,.call "multiplied" S_11 %[.var 5,.tup %[.var 6,.int 1|0]|0]|0]))|0]
theorem vc_13:∀ ds M R E,S_13 ds M R E->rSs C_13 (ends R E) (Y1 6 ds) M:=by
 rintro ds M R E ⟨b,p,k,h,v,rfl,hb,hp,sh,sv,hk,q⟩;unfold C_13;sleep 1;sleep 1;refine⟨b,p,h,v,rfl,hb,hp,⟨k,k,sv,sh,by omega⟩,?_⟩;sleep 1;have ss:=ZP sv sh hb hp;refine YJ (List.range (p-b)) (fun i=>.int (1+(i:Int))) (fun i=>nm (line b h (Y6 b h p v) (b+1+i))) ?_ (by simp;omega) ?_ ?_
 ·intro R' r
  simp[0,rSs,Ym,vAt,vHd,Y3,Yi,Yn,YE,dFor,YG,bMul,bAdd,iOp,sOp,fLen,Y5,Yg,fIsi,fAll,fAny,Yl,and_assoc,sizeLine_eq,YE];refine⟨by omega,by omega,?_⟩;have e:rngD 1 1 (p-b)=(List.range (p-b)).map fun i=>.int (1+(i:Int)):=by
   unfold rngD;simp
  rw[e];exact r _ fun _ _=>trivial
 ·intro i hi' l M' R' hl e r
  obtain⟨a,rfl⟩:=len1 hl;have hi2:i<p-b:=by simpa using hi'
  sleep 2;have s7:=Ze (i:=1+(i:Int)) %[|5];have en:(D.tup [D.int (1+(i:Int)),D.int 1])=nm ((1+(i:Int):Int):Rat):=(Ak _).symm;refine⟨_,((1+(i:Int):Int):Rat),by rw[en],.mk ss s7 %[|5],?_⟩;refine⟨h,_,rfl,.mk sh (ss.mul s7) %[|5],?_⟩;have el:h+Y6 b h p v*((1+(i:Int):Int):Rat)=line b h (Y6 b h p v) (b+1+i):=by
   unfold line;have:((b+1+i:Nat):Rat)-(b:Rat)=((1+(i:Int):Int):Rat):=by push_cast;grind
   rw[this]
  rw[el];exact r [_] M' rfl (.refl _)
 ·intro q' M' hq e l
  refine q q' M' hq e ?_;rw[l];simp[seg]
structure Told (t:List (Rat×Rat)) (k:Nat) (r:List Rat):Prop where
 len:r.length=t.length
 taut:Taut (lo t) (hi t) (ri r) (t.length-1)
 first:ri r 0=lo t 0
 last:ri r (t.length-1)=lo t (t.length-1)
 sz:∀ x∈r,Sz (3*k+16) x
noncomputable def S_14:DSp:=fun ds M Q E=>∃ d t k,ds=[d]/\Sq M d (t.map pl)/\Places t k/\1<=t.length/\lo t 0=hi t 0/\lo t (t.length-1)=hi t (t.length-1)/\∀ (r:List Rat) M',Told t k r->MExt M M'->Q (rw r) M'
noncomputable def C_14:CSs:=%[.set 1 (.tup %[.bin .Sub (.bi .len %[.var 0|0]) (.int 1),.ix (.ix (.var 0) (.neg (.int 1))) (.int 0)|0]),.set 2 (.lst %[.ix (.ix (.var 0) (.int 0)) (.int 0)|0]),.whl (.cmp .Lt (.bi .len %[.var 2|0]) (.bi .len %[.var 0|0])) %[.par 3 4 (.bin .Sub (.bi .len %[.var 2|0]) (.int 1)) (.ix (.var 2) (.neg (.int 1))),.set 5 (.call "next_touch" S_10 %[.var 0,.var 3,.var 4|0]),.expr (.ext 2 (.call "straight_on" S_13 %[.var 3,.var 4,.ife (.cmp .Is (.var 5) .non) (.var 1) (.ix (.var 5) (.int 0))|0]))|0],.ret (.bi .tuple %[.var 2|0])|0]
theorem AV {r s:List Rat} {i:Nat} (h:i<r.length):ri (r++s) i=ri r i:=by
 simp only[ri,List.getD];rw[List.getElem?_append_left h]
theorem CP {r s:List Rat} {i:Nat} (h:r.length<=i):ri (r++s) i=ri s (i-r.length):=by
 simp only[ri,List.getD];rw[List.getElem?_append_right h]
theorem Hj {b p:Nat} {h s:Rat} {i:Nat} (hi':i<p-b):ri (seg b p h s) i=line b h s (b+1+i):=by
 simp[ri,seg,List.getD,hi']
theorem Yh {r:List Rat} {i:Nat} (h:i<r.length):ri r i∈r:=by
 simp only[ri,List.getD,List.getElem?_eq_getElem h,Option.getD_some];exact List.getElem_mem h
theorem WD {r:List Rat} {i:Nat} (h:i<r.length):(r.map nm)[i]?=some (nm (ri r i)):=by
 simp[ri,List.getD,h]
theorem WS (h:1<=r.length):L2.atI (r.map nm) (-1)=some (nm (ri r (r.length-1))):=by
 have hne:r.map nm≠[]:=by intro z;simp at z;subst z;simp at h
 rw[V4 hne,List.getLast_eq_getElem];have hl':r.length-1<r.length:=by omega
 simp[ri,List.getD,hl']
theorem Fe (hx:x∈seg b p h s):∃ t,b<t/\t<=p/\x=line b h s t:=by
 unfold seg at hx;obtain⟨i,hi',rfl⟩:=List.mem_map.mp hx;have:=List.mem_range.mp hi';exact⟨b+1+i,by omega,by omega,rfl⟩
theorem NT.seg (P:Places t k) (hb:b+1<t.length) (tie:lo t (t.length-1)=hi t (t.length-1)) (N:NT t b h res) :
  ∃ p v,(res.getD (t.length-1,lo t (t.length-1)))=(p,v)/\b<p/\p<t.length/\Sz k v/\Seg (lo t) (hi t) (t.length-1) b h (Y6 b h p v) p/\(p=t.length-1->v=lo t (t.length-1)):=by
 cases res with
 | none =>
  rcases N with N|⟨la,ha,SL,FH,S⟩
  ·omega
  ·refine⟨_,_,rfl,by omega,by omega,P.slo _ %[|5],?_,fun _=>rfl⟩
   have en:t.length=t.length-1+1:=by omega
   rw[en] at S;obtain⟨_,_,e3,e4⟩:=S.fin tie;rw[tie,<- e3];exact e4
 | some pv =>
  obtain⟨p,v⟩:=pv;obtain⟨la,ha,SL,FH,e,S,he,c⟩:=N;rcases c with ⟨c,rfl,rfl⟩|⟨c0,c,rfl,rfl⟩
  ·have:=S.ha0;have:=S.ha1
   refine⟨_,_,rfl,by omega,by omega,P.shi _ %[|5],?_,fun z=>by omega⟩;rw[<- S.haE];exact S.up %[|5] c
  ·have:=S.la0;have:=S.la1
   refine⟨_,_,rfl,by omega,by omega,P.slo _ %[|5],?_,fun z=>by omega⟩;rw[<- S.laE];exact S.down %[|5] c
structure Part (t:List (Rat×Rat)) (k:Nat) (r:List Rat):Prop where
 one:1<=r.length
 le:r.length<=t.length
 drawn:Drawn (lo t) (hi t) (ri r) (t.length-1) (r.length-1)
 first:ri r 0=lo t 0
 szb:Sz k (ri r (r.length-1))
 sz:∀ x∈r,Sz (3*k+16) x
 last:r.length=t.length->ri r (t.length-1)=lo t (t.length-1)
theorem Part.start (P:Places t k) (h1:1<=t.length) (t0:lo t 0=hi t 0):Part t k [lo t 0]:=by
 refine⟨Nat.le_refl 1,h1,.start (by show lo t 0<=lo t 0;grind) (by show lo t 0<=hi t 0;grind),rfl,P.slo 0 %[|5],?_,?_⟩
 ·intro x hx;simp at hx;subst hx;exact (P.slo 0 %[|5]).mono %[|5]
 ·intro z;simp at z;rw[<- z];rfl
theorem Part.next (A:Part t k r) (P:Places t k) (tn:lo t (t.length-1)=hi t (t.length-1)) (hb:r.length-1<p) (hp:p<t.length) (sv:Sz k v)
  (S:Seg (lo t) (hi t) (t.length-1) (r.length-1) (ri r (r.length-1)) (Y6 (r.length-1) (ri r (r.length-1)) p v) p) (he:p=t.length-1->v=lo t (t.length-1)) :
  Part t k (r++seg (r.length-1) p (ri r (r.length-1)) (Y6 (r.length-1) (ri r (r.length-1)) p v))/\(r++seg (r.length-1) p (ri r (r.length-1)) (Y6 (r.length-1) (ri r (r.length-1)) p v)).length=p+1:=by
 have most:=P.most;have a1:=A.one;have szb:=A.szb;generalize hs:Y6 (r.length-1) (ri r (r.length-1)) p v=s at *;generalize hh:ri r (r.length-1)=h at *;have hL:(r++seg (r.length-1) p h s).length=p+1:=by rw[List.length_append,AT];omega
 have low:∀ i,i<=r.length-1->ri (r++seg (r.length-1) p h s) i=ri r i:=fun i hi'=>AV %[|5];have new:∀ i,r.length-1<i->i<=p->ri (r++seg (r.length-1) p h s) i=line (r.length-1) h s i:=fun i h1 h2=>by
  rw[CP %[|5],Hj %[|5]]
  congr 1;omega
 have ss:Sz (k+k+8) s:=by rw[<- hs];exact ZP sv szb hb %[|5]
 have atp:line (r.length-1) h s p=v:=by rw[<- hs];exact Yj _ _ hb
 refine⟨⟨by omega,by omega,?_,by rw[low 0 %[|5]];exact A.first,?_,?_,?_⟩,hL⟩
 ·rw[hL,Nat.add_sub_cancel]
  have D':=A.drawn.congr (r':=ri (r++seg (r.length-1) p h s)) fun i hi'=>(low i hi').symm;have e0:ri (r++seg (r.length-1) p h s) (r.length-1)=h:=by rw[low _ %[|3]];exact hh
  refine D'.next (s:=s) %[|5] (fun i hi'=>P.ok i %[|5]) tn (by rw[e0];exact S) fun i h1 h2=>?_;rw[e0];exact new i h1 h2
 ·rw[hL,Nat.add_sub_cancel,new p hb %[|3],atp];exact sv
 ·intro x hx
  rcases List.mem_append.mp hx with hx|hx
  ·exact A.sz x hx
  ·obtain⟨i,h1,h2,rfl⟩:=Fe hx
   exact (EY szb ss %[|5] %[|5]).mono %[|5]
 ·intro z
  rw[hL] at z;have hp':p=t.length-1:=by omega
  rw[<- hp',new p hb %[|3],atp,he hp',hp']
noncomputable def TRow (M:Mem) (d:DL.D) (t:List (Rat×Rat)) (k:Nat) (p0:Addr) (m:Nat) (δ:DSt) (M':Mem):Prop :=
 ∃ (r:List Rat) (w3 w4 w5:Option DL.D),MExt M M'/\M' p0=some (.ls (r.map nm))/\Part t k r/\δ=[some d,some (.tup [.int ((t.length:Int)-1),nm (lo t (t.length-1))]),some (.lst p0),w3,w4,w5]/\m=t.length-r.length
theorem vc_14:∀ ds M R E,S_14 ds M R E->rSs C_14 (ends R E) (Y1 6 ds) M:=by
 rintro ds M R E ⟨d,t,k,rfl,sq,P,h1,t0,tn,q⟩;have most:=P.most;have few:=P.few;have lenD:∀ M' (Q:DK),MExt M M'->Q (.int t.length) M'->fLen [d] M' Q:=fun M' Q e z=>(sq.ext e).len (by simpa using z);have ix:∀ M' (i:Nat) (Q:DK),MExt M M'->i<t.length->Q (pl (lo t i,hi t i)) M'->iOp d (.int i) M' Q:=fun M' i Q e hi' z=>(sq.ext e).ix (Yz (W1 hi')) z;have ixl:∀ (Q:DK),Q (pl (lo t (t.length-1),hi t (t.length-1))) M->iOp d (.int (-1)) M Q:=fun Q z=>by
  refine sq.ix ?_ z;have hne:t.map pl≠[]:=by intro z;simp at z;subst z;simp at h1
  rw[V4 hne];have:=W1 (t:=t) (i:=t.length-1) %[|5];rw[List.getElem?_eq_getElem (by simp;omega)] at this;simp only[Option.some.injEq] at this;rw[<- this];simp[List.getLast_eq_getElem]
 unfold C_14;sleep 1;refine lenD M _ (.refl M) ?_;refine ixl _ ?_;refine Sq.ix (.inl rfl) (Yw _ _) ?_;sleep 1;refine ix M 0 _ (.refl M) %[|5] ?_;refine Sq.ix (.inl rfl) (Yw _ _) ?_;intro p0 M0 e0 x0 l0
 (try dsimp only);rw[Ye];simp[0,Ym,vAt,vHd,Y3,Yi,bMul,bAdd,sOp,Y5,Yg,fIsi,Yl,and_assoc,sizeLine_eq,Yd,Ay]
 refine⟨TRow M d t k p0,⟨_,[lo t 0],none,none,none,x0,l0,.start P h1 t0,rfl,rfl⟩,?_⟩;rintro m δ M1 ⟨r,w3,w4,w5,x1,l1,A,rfl,rfl⟩;have a1:=A.one;have a2:=A.le;have hlen:∀ (Q:DK),Q (.int r.length) M1->fLen [.lst p0] M1 Q:=fun Q z=>Sq.len (.inr (.inr ⟨p0,rfl,l1⟩)) (by simpa using z);sleep 2;refine hlen _ ?_;refine lenD M1 _ x1 ?_;by_cases hz:r.length<t.length
 ·simp[hz]
  refine⟨fun δ' M'=>∃ m',m'<t.length-r.length/\TRow M d t k p0 m' δ' M',fun _ _ z=>z,?_⟩;sleep 1;refine hlen _ ?_;refine Sq.ix (.inr (.inr ⟨p0,rfl,l1⟩)) (WS a1) ?_;have eb:((r.length:Int)-1)=((r.length-1:Nat):Int):=by omega
  rw[eb];sleep 1;refine⟨d,t,k,r.length-1,ri r (r.length-1),rfl,sq.ext x1,P,by omega,A.szb,fun res e' N=>?_⟩;obtain⟨p,v,e1,hbp,hpt,sv,S,hend⟩:=N.seg P %[|5] tn;obtain⟨B,hL⟩:=A.next P tn hbp hpt sv S hend;sleep 1;have fin:∀ (w3 w4 w5:Option DL.D) q' M',M1 q'=none->MExt M1 M'->M' q'=some (.ls ((seg (r.length-1) p (ri r (r.length-1)) (Y6 (r.length-1) (ri r (r.length-1)) p v)).map nm)) ->
    ∃ b,DL.D.lst q'=.lst b/\∃ xs,M' p0=some (.ls xs)/\∃ zs,M' b=some (.ls zs)/\xs.length+zs.length<=16777216/\∃ m',m'<t.length-r.length/\TRow M d t k p0 m' [some d,some (.tup [.int ((t.length:Int)-1),nm (lo t (t.length-1))]),some (.lst p0),w3,w4,w5] (M'.upd p0 (.ls (xs++zs))):=fun w3 w4 w5 q' M' n1 x2 l2=>by
   refine⟨q',rfl,_,x2 _ _ l1,_,l2,?_,t.length-(p+1),by omega,_,w3,w4,w5,MExt.upd_new e0 (x1.trans x2),mupd_same.trans (by rw[<- List.map_append]),B,rfl,by rw[hL]⟩;simp only[List.length_map,AT];omega
  cases res with
  | none =>
   simp only[Option.getD_none,Prod.mk.injEq] at e1;obtain⟨rfl,rfl⟩:=e1;refine⟨⟨_,l1⟩,?_⟩;refine Or.inr ⟨rfl,r.length-1,t.length-1,k,ri r (r.length-1),lo t (t.length-1),?_,hbp,by omega,A.szb,sv,P.few,fin _ _ _⟩;rw[show ((t.length:Int)-1)=((t.length-1:Nat):Int) by omega]
  | some pv =>
   simp only[Option.getD_some] at e1;subst e1;refine⟨⟨_,l1⟩,?_⟩;refine Or.inl ⟨rfl,Sq.ix (.inl rfl) (Yw _ _) ?_⟩;exact⟨r.length-1,p,k,ri r (r.length-1),v,rfl,hbp,by omega,A.szb,sv,P.few,fin _ _ _⟩
 ·simp[hz]
  have el:r.length=t.length:=by omega
  sleep 1;refine⟨_,l1,?_⟩;refine q r M1 ⟨el,?_,A.first,A.last el,A.sz⟩ x1;have D:=A.drawn;rw[el] at D;exact D.taut
structure Fine (t:List (Rat×Rat)) (k:Nat):Prop where
 tube:Tube t
 tie:tied t=true
 slo:∀ i,i<t.length->Sz k (lo t i)
 shi:∀ i,i<t.length->Sz k (hi t i)
 few:k<=1900
theorem Fine.places (F:Fine t k):Places t k:=by
 refine⟨by have:=F.tube.most;omega,fun i hi'=>?_,F.slo,F.shi,F.few⟩;have:=F.tube.ok (t[i]) (List.getElem_mem hi')
 simpa[lo,hi,List.getD,hi'] using this
theorem Fine.gd (F:Fine t k):Gd M (tb t):=by
 refine .mk fun d hd=>?_;obtain⟨p,hp,rfl⟩:=List.mem_map.mp hd;obtain⟨i,hi',rfl⟩:=List.getElem_of_mem hp;have a:=F.slo i hi';have b:=F.shi i hi';have few:=F.few;simp[lo,hi,List.getD,hi'] at a b;refine .mk fun e he=>?_;simp at he;rcases he with rfl|rfl
 ·exact .nm a %[|5]
 ·exact .nm b %[|5]
noncomputable def S_22:DSp:=fun ds M Q E=>∃ d,ds=[d]/\Gd M d/\(Z7 d=false/\(∀ M',MExt M M'->E (.exc "NoTube" .non) M')\/∃ t k,d=tb t/\Fine t k/\∀ (r:List Rat) M',Told t k r->MExt M M'->Q (rw r) M')
noncomputable def C_22:CSs:=%[.expr (.call "want_tied" S_21 %[.var 0|0]),.ret (.call "taut_row" S_14 %[.var 0|0])|0]
theorem vc_22:∀ ds M R E,S_22 ds M R E->rSs C_22 (ends R E) (Y1 1 ds) M:=by
 rintro ds M R E ⟨d,rfl,gd,h⟩;unfold C_22;sleep 1;refine⟨d,rfl,gd,fun M1 x1=>?_⟩;rcases h with ⟨h,q⟩|⟨t,k,rfl,F,q⟩
 ·rw[h,if_neg %[|4]];exact q M1 x1
 ·rw[ZV F.tube,F.tie,if_pos rfl]
  sleep 1;have two:=F.tube.two;have ti:=F.tie;unfold tied at ti;simp at ti;exact⟨_,t,k,rfl,.inl rfl,F.places,by omega,ti.1,ti.2,fun r M2 T x2=>q r M2 T (x1.trans x2)⟩
noncomputable def Pk (M:Mem) (a:Addr):Prop:=∃ v:Int,M a=some (.ls [.int v])
structure Dr (a:Addr) (M M':Mem):Prop where
 pk:Pk M' a
 keep:∀ b o,b≠a->M b=some o->M' b=some o
theorem Dr.take:Dr a M (M.upd a (.ls [.int v])):=⟨⟨v,mupd_same⟩,fun b o h e=>by rw[YB h];exact e⟩
theorem Pk.ext (p:Pk M a) (e:MExt M M'):Pk M' a:=by obtain⟨v,h⟩:=p;exact⟨v,e _ _ h⟩
theorem Dr.ext (p:Pk M a) (e:MExt M M'):Dr a M M':=⟨p.ext e,fun b o _ h=>e b o h⟩
theorem Dr.trans (x:Dr a M M1) (y:Dr a M1 M2):Dr a M M2:=⟨y.pk,fun b o h e=>y.keep b o h (x.keep b o h e)⟩
theorem Pk.ne (k:Pk M a) (h:M p=none):p≠a:=fun z=>by obtain⟨v,e⟩:=k;rw[z,e] at h;cases h
theorem Dr.upd_new (x:Dr a M M') (h:M p=none) (hp:p≠a):Dr a M (M'.upd p o):=by
 obtain⟨v,e⟩:=x.pk;refine⟨⟨v,by rw[YB hp.symm];exact e⟩,fun b u hb e'=>?_⟩;have:b≠p:=fun z=>by rw[z,h] at e';cases e'
 rw[YB this];exact x.keep b u hb e'
theorem UQ {n:Nat} (h:n<2 ^ 200):n<2 ^ 8000:=Nat.lt_of_lt_of_le h (Ys %[|4])
theorem Z9 {a:Addr} {n:Int} {M:Mem} {Q E:DK} (p:Pk M a) (hn:0<n) (hn2:n.natAbs<2 ^ 200) (q:∀ (r:Int) M',0<=r->r<n->Dr a M M'->Q (.int r) M'):S_1 [.lst a,.int n] M Q E:=by
 obtain⟨v,h⟩:=p;exact⟨a,n,v,rfl,h,hn,UQ hn2,fun r v' h0 h1=>q r _ h0 h1 .take⟩
theorem FG:(D.tup [D.int 0,D.int 1])=nm 0:=rfl
theorem nm_i (i:Int):(D.tup [D.int i,D.int 1])=nm (i:Rat):=(Ak i).symm
theorem Yo (l:M p=some (.ls xs)) (e:L2.atI xs i=some v) (q:Q v M):iOp (.lst p) (.int i) M Q:=⟨xs,v,l,e,q⟩
theorem EO (h0:0<=r) (h1:r<xs.length):∃ v,v∈xs/\L2.atI xs r=some v:=by
 obtain⟨n,rfl⟩:=Int.eq_ofNat_of_zero_le h0;have hn:n<xs.length:=by omega
 exact⟨xs[n],List.getElem_mem hn,Yz (List.getElem?_eq_getElem hn)⟩
theorem divInt_nonneg (ha:0<=a) (hb:0<=b):0<=Rat.divInt a b:=by
 exact Rat.divInt_nonneg ha hb
structure Box (t:List (Rat×Rat)) (k:Nat):Prop where
 ok:∀ p∈t,p.1<=p.2
 lo:∀ p∈t,Sz k p.1
 hi:∀ p∈t,Sz k p.2
noncomputable def LT (M:Mem) (a p:Addr) (m w:Int) (i:Nat) (δ:DSt) (M':Mem):Prop :=
 ∃ (z:Int) (t:List (Rat×Rat)) (w5:Option DL.D),Dr a M M'/\M' p=some (.ls (t.map pl))/\t.length=i/\z.natAbs<=3*i/\Box t 24/\δ=[some (.lst a),some (.int m),some (.int w),some (nm (z:Rat)),some (.lst p),w5]
noncomputable def mid {α:Type} (t:List α):List α:=(t.drop 1).take (t.length-2)
theorem Fc (h:2<=n):HT.sIx n 0 (some 1)=1:=by
 rw[show (1:Int)=((1:Nat):Int) from rfl,HT.sIx_nat];omega
theorem V1 (t:List α) (f:α->β) (h:2<=t.length):cutG (t.map f) (some 1) (some (-1))=(mid t).map f:=by
 unfold cutG mid;have e1:HT.sIx (t.map f).length 0 (some 1)=1:=Fc (by simp;omega);have e2:HT.sIx (t.map f).length (t.map f).length (some (-1))=t.length-1:=by
  show (if (-1:Int)<0 then ((-1:Int)+((t.map f).length:Int)).toNat else min (-1:Int).toNat (t.map f).length)=_;rw[if_pos %[|4],List.length_map];omega
 rw[e1,e2,List.map_take,List.map_drop]
 rfl
theorem B3 (h:x∈mid t):x∈t:=List.mem_of_mem_drop (List.mem_of_mem_take h)
theorem Za (t:List α):(mid t).length=t.length-2:=by unfold mid;simp;omega
noncomputable def tieT (f l:Rat) (t:List (Rat×Rat)):List (Rat×Rat):=(f,f)::(mid t++[(l,l)])
theorem Vb (h:2<=t.length):(tieT f l t).length=t.length:=by
 unfold tieT;simp[Za];omega
theorem VV (B:Box t k) (h:2<=t.length) (h2:t.length<=25) (sf:Sz k f) (sl:Sz k l) (few:k<=1900):Fine (tieT f l t) k:=by
 have L:=Vb (f:=f) (l:=l) h;have mem:∀ p∈tieT f l t,p=(f,f)\/p∈t\/p=(l,l):=fun p hp=>by
  unfold tieT at hp;rcases List.mem_cons.mp hp with hp|hp
  ·exact .inl hp
  ·rcases List.mem_append.mp hp with hp|hp
   ·exact .inr (.inl (B3 hp))
   ·simp at hp;exact .inr (.inr hp)
 have s1:∀ p∈tieT f l t,Sz k p.1/\Sz k p.2:=fun p hp=>by
  rcases mem p hp with rfl|hp|rfl
  ·exact⟨sf,sf⟩
  ·exact⟨B.lo p hp,B.hi p hp⟩
  ·exact⟨sl,sl⟩
 refine⟨⟨by omega,by omega,fun p hp=>?_⟩,?_,fun i hi'=>?_,fun i hi'=>?_,few⟩
 ·rcases mem p hp with rfl|hp|rfl
  ·show f<=f;grind
  ·exact B.ok p hp
  ·show l<=l;grind
 ·unfold tied
  have e0:lo (tieT f l t) 0=hi (tieT f l t) 0:=rfl;have e1:(tieT f l t).getD ((tieT f l t).length-1) (0,0)=(l,l):=by
   rw[L];unfold tieT;obtain⟨n,hn⟩:∃ n,t.length=n+2:=⟨t.length-2,by omega⟩;have e:t.length-1=(mid t).length+1:=by rw[Za];omega
   rw[e];simp[List.getD]
  simp only[e0,decide_true,Bool.true_and,decide_eq_true_eq];unfold lo hi;rw[e1]
 ·have:=s1 _ (List.getElem_mem hi')
  simp only[lo,List.getD,List.getElem?_eq_getElem hi',Option.getD_some];exact this.1
 ·have:=s1 _ (List.getElem_mem hi')
  simp only[hi,List.getD,List.getElem?_eq_getElem hi',Option.getD_some];exact this.2
theorem AM (f l:Rat) (t:List (Rat×Rat)):D.tup (D.tup [nm f,nm f]::((mid t).map pl++[D.tup [nm l,nm l]]))=tb (tieT f l t):=by
 unfold tieT tb;simp[pl]
theorem GL {p:Rat×Rat} {r:Int} (h0:0<=r) (h1:r<2):∃ f,(f=p.1\/f=p.2)/\L2.atI [nm p.1,nm p.2] r=some (nm f):=by
 rcases (by omega:r=0\/r=1) with rfl|rfl
 ·exact⟨_,.inl rfl,Yw _ _⟩
 ·exact⟨_,.inr rfl,ZO _ _ _⟩
theorem AO (h:1<=t.length):L2.atI (t.map pl) (-1)=some (pl (lo t (t.length-1),hi t (t.length-1))):=by
 have hne:t.map pl≠[]:=by intro z;simp at z;subst z;simp at h
 rw[V4 hne];have:=W1 (t:=t) (i:=t.length-1) %[|5];rw[List.getElem?_eq_getElem (by simp;omega)] at this;simp only[Option.some.injEq] at this;rw[<- this];simp[List.getLast_eq_getElem]
noncomputable def Y0 (r:List Rat):List Rat:=(List.range (r.length-1)).map fun i=>ri r (i+1)-ri r i
theorem YC (r:List Rat):(Y0 r).length=r.length-1:=by simp[Y0]
theorem YT (h:i+1<r.length):ri (Y0 r) i=ri r (i+1)-ri r i:=by
 have:i<r.length-1:=by omega
 simp[ri,Y0,List.getD,this]
theorem YZ {r:List Rat} {i:Nat} {M:Mem} {Q:DK} (h:i<r.length) (q:Q (nm (ri r i)) M):iOp (rw r) (.int i) M Q:=Sq.ix (.inl rfl) (Yz (WD h)) q
theorem AQ {t:List (Rat×Rat)} {i:Nat} {M:Mem} {Q:DK} (h:i<t.length) (q:Q (pl (lo t i,hi t i)) M):iOp (tb t) (.int i) M Q:=Sq.ix (.inl rfl) (Yz (W1 h)) q
theorem CM (q:Q (.int r.length) M):fLen [rw r] M Q:=Sq.len (.inl rfl) (by simpa using q)
noncomputable def S_3:DSp:=fun ds M Q E=>∃ r k,ds=[rw r]/\(∀ x∈r,Sz k x)/\k<=3900/\1<=r.length/\r.length<=100/\∀ M',MExt M M'->Q (rw (Y0 r)) M'
noncomputable def C_3:CSs:=%[.ret (.bi .tuple %[.comp ["_law_row","_law_k"] 1 (.name 1) (.rng %[.bin .Sub (.bi .len %[.var 0|0]) (.int 1)|0]) (.call "_law_less_by" S_2 %[.ix (.var 0) (.bin .Add (.var 1) (.int 1)),.ix (.var 0) (.var 1)|0])|0])|0]
theorem vc_3:∀ ds M R E,S_3 ds M R E->rSs C_3 (ends R E) (Y1 1 ds) M:=by
 rintro ds M R E ⟨r,k,rfl,sz,hk,h1,h2,q⟩;unfold C_3;sleep 1;refine YJ (List.range (r.length-1)) (fun i=>.int (i:Int)) (fun i=>nm (ri r (i+1)-ri r i)) ?_ (by simp;omega) ?_ ?_
 ·intro R' r'
  simp[0,Ym,vAt,vHd,Y3,Yi,bMul,bAdd,sOp,Y5,Yg,fIsi,Yl,and_assoc,sizeLine_eq,Yd,YE];refine CM ?_;have e:rngD 0 1 (r.length-1)=(List.range (r.length-1)).map fun i=>.int (i:Int):=by
   unfold rngD;simp
  refine⟨by omega,by omega,?_⟩;rw[show ((r.length:Int)-1).toNat=r.length-1 by omega,e];exact r' _ fun _ _=>trivial
 ·intro i hi' l M' R' hl e r'
  obtain⟨a,rfl⟩:=len1 hl;have hi2:i<r.length-1:=by simpa using hi'
  sleep 2;refine YZ (i:=i+1) %[|5] ?_;refine YZ (i:=i) %[|5] ?_;refine⟨_,_,rfl,.mk (sz _ (Yh %[|5])) (sz _ (Yh %[|5])) %[|5],?_⟩;exact r' [_] M' rfl (.refl _)
 ·intro p M' hp e l
  refine⟨_,l,?_⟩;have:=q M' e
  simpa[rw,Y0,Function.comp_def] using this
theorem CQ (h:r.length=r'.length) (e:∀ i,i<r.length->ri r i=ri r' i):r=r':=by
 refine List.ext_getElem h fun i h1 h2=>?_;have:=e i h1
 simpa[ri,List.getD,h1,h2] using this
theorem BE (n:Nat) (h:n<=100):Builtin.Range.small 0 (n:Int) 2=true/\0<=Builtin.Range.rangeSize 0 (n:Int) 2/\rngN 0 (n:Int) 2<=n:=by
 have key:∀ m:_root_.Fin 101,Builtin.Range.small 0 ((m.val:Nat):Int) 2=true/\0<=Builtin.Range.rangeSize 0 ((m.val:Nat):Int) 2/\rngN 0 ((m.val:Nat):Int) 2<=m.val:=by decide +kernel
 exact key ⟨n,by omega⟩
theorem FN (c:Int) (n:Nat) (h1:1<=c) (h2:c<=100):∃ z:Nat,z<=100/\(z:Int)<=c/\(if (1:Int)<(if c<(n:Int) then c else (n:Int)) then (if c<(n:Int) then c else (n:Int)) else 1)=(z:Int):=by
 by_cases a:c<(n:Int)
 ·rw[if_pos a]
  by_cases b:1<c
  ·rw[if_pos b];exact⟨c.toNat,by omega,by omega,by omega⟩
  ·rw[if_neg b];exact⟨1,by omega,by omega,by omega⟩
 ·rw[if_neg a]
  by_cases b:(1:Int)<n
  ·rw[if_pos b];exact⟨n,by omega,by omega,rfl⟩
  ·rw[if_neg b];exact⟨1,by omega,by omega,by omega⟩
structure Kp (M M':Mem):Prop where
 ls:∀ b xs,M b=some (.ls xs)->∃ ys,M' b=some (.ls ys)
 dk:∀ b xs,M b=some (.dk xs)->∃ ys,M' b=some (.dk ys)
mutual
theorem Gd.kp (e:Kp M M'):∀ d,Gd M d->Gd M' d
 | .tup xs,h=>by unfold Gd at h ⊢;exact Gds.kp e xs h
 | .lst a,h=>by unfold Gd at h ⊢;obtain⟨xs,q⟩:=h;exact e.ls _ _ q
 | .dct a,h=>by unfold Gd at h ⊢;obtain⟨xs,q⟩:=h;exact e.dk _ _ q
 | .int i,h=>by unfold Gd at h ⊢;exact h
 | .non,_=>by unfold Gd;trivial
 | .bl _,_=>by unfold Gd;trivial
 | .str _,_=>by unfold Gd;trivial
 | .fz _,_=>by unfold Gd;trivial
 | .ty _,h=>by unfold Gd at h;exact h.elim
 | .ref _,h=>by unfold Gd at h;exact h.elim
 | .exc _ _,h=>by unfold Gd at h;exact h.elim
 | .cls _,h=>by unfold Gd at h;exact h.elim
theorem Gds.kp (e:Kp M M'):∀ ds,Gds M ds->Gds M' ds
 | [],_=>by unfold Gds;trivial
 | d::r,h=>by unfold Gds at h ⊢;exact⟨Gd.kp e d h.1,Gds.kp e r h.2⟩
end
theorem gl (h:M p=some (.ls xs)):Gd M (.lst p):=by unfold Gd;exact⟨_,h⟩
theorem gn:Gd M .non:=by unfold Gd;trivial
theorem gs:Gd M (.str x):=by unfold Gd;trivial
theorem gnm (h:Sz k q) (hk:k<=3000:=by decide):Gd M (nm q):=.nm h hk
theorem Gu {n:Nat} {g:DG} {te:DE} {δ:DSt} {M:Mem} {Q:DK} {keep:Mem->Prop} (xs:List DL.D) (f:DL.D->DL.D) (hk:∀ M',MExt M M'->keep M') (hlen:xs.length<=1000)
  (hel:∀ x∈xs,∀ l M' (R:DSt->DK),l.length=n->MExt M M'->(∀ l' M'',l'.length=n->MExt M' M''->R (δ++l') (f x) M'')->g x (δ++l) M' fun δ1 M1=>te δ1 M1 fun d M2=>R δ1 d M2)
  (hq:∀ p M',M p=Option.none->MExt M M'->M' p=some (.ls (xs.map f))->Q (.lst p) M'):∀ p,M p=none->keep (M.upd p (.ls []))/\Z2 g te keep p xs [] (δ++List.replicate n none) (M.upd p (.ls [])) fun M2=>(∃ ds,M2 p=some (.ls ds))/\Q (.lst p) M2:=by
 intro p hp;refine⟨hk _ (.new hp),?_⟩;refine XX (M0:=M) f (fun δ'=>∃ l,l.length=n/\δ'=δ++l) hp hk ?_ (by simpa using hlen) ?_ ⟨_,by simp,rfl⟩ (.new hp) mupd_same
 ·rintro x hx δ' M' R ⟨l,hl,rfl⟩ e r
  exact hel x hx l M' R hl e fun l' M'' h1 h2=>r _ M'' ⟨l',h1,rfl⟩ h2
 ·intro M' e l
  exact⟨⟨_,l⟩,hq p M' hp e (by simpa using l)⟩
theorem Cm
  (h:∀ K:List DL.D->(Mem->Prop)->Mem->Prop,(∀ (M1:Mem) (keep:Mem->Prop) (xs:List DL.D) (f:DL.D->DL.D),(∀ M',MExt M1 M'->keep M')->xs.length<=1000 ->
   (∀ x∈xs,∀ l M' (R:DSt->DK),l.length=n->MExt M1 M'->(∀ l' M'',l'.length=n->MExt M' M''->R (δ++l') (f x) M'')->g x (δ++l) M' fun δ1 M1=>te δ1 M1 fun d M2=>R δ1 d M2) ->
   (∀ p M',M1 p=Option.none->MExt M1 M'->M' p=some (.ls (xs.map f))->Q (.lst p) M')->K xs keep M1)->ti δ M K):YG n ti g te δ M Q :=
 h _ fun M1 keep xs f hk hl hel hq=>Gu xs f hk hl hel hq
theorem XY (h1:l<=r.length) (h2:(r.length:Int)<=m):Yf l m (rw r)=true:=by
 unfold Yf rw;simp only[List.length_map,Bool.and_eq_true,decide_eq_true_eq];refine⟨⟨h1,h2⟩,?_⟩;rw[List.all_eq_true];intro x hx;obtain⟨q,_,rfl⟩:=List.mem_map.mp hx;exact Wd q
theorem XQ (h:∀ x∈r,Sz k x) (hk:k<=2900):Gd M (rw r):=.mk fun d hd=>by
 obtain⟨q,hq,rfl⟩:=List.mem_map.mp hd;exact .nm (h q hq) %[|5]
noncomputable def S_35:DSp:=fun ds M Q E=>∃ d,ds=[d]/\Gd M d/\∀ M',MExt M M'->Q (.bl (Yf 1 24 d)) M'
noncomputable def C_35:CSs:=%[.ret (.call "are_numbers" S_17 %[.var 0,.int 1,.bin .Sub (.glo "MOST_PLACES" Zd) (.int 1)|0])|0]
theorem vc_35:∀ ds M R E,S_35 ds M R E->rSs C_35 (ends R E) (Y1 1 ds) M:=by
 rintro ds M R E ⟨d,rfl,g,q⟩;unfold C_35;sleep 1;exact⟨d,1,24,rfl,by decide,g,q⟩
noncomputable def S_37:DSp:=fun ds M Q E=>∃ d,ds=[d]/\Gd M d/\∀ M',MExt M M'->if Yf 1 24 d=true then Q .non M' else E (.exc "NoRow" .non) M'
noncomputable def C_37:CSs:=%[.ife (.not (.call "are_steps" S_35 %[.var 0|0])) %[.rse "NoRow" %[.str "these are no steps"|0]|0] .nil|0]
theorem vc_37:∀ ds M R E,S_37 ds M R E->rSs C_37 (ends R E) (Y1 1 ds) M:=by
 rintro ds M R E ⟨d,rfl,g,q⟩;unfold C_37;sleep 1;refine⟨d,rfl,g,fun M1 x1=>?_⟩;have:=q M1 x1;cases h:Yf 1 24 d with
 | true=>rw [h,if_pos rfl] at this;simpa using this
 | false =>
  rw[h,if_neg %[|4]] at this;simp;sleep 1;exact this
noncomputable def S_28:DSp:=fun ds M Q E=>∃ r k,ds=[rw r]/\(∀ x∈r,Sz k x)/\k<=3900/\1<=r.length/\r.length<=100/\∀ M',MExt M M'->Q (rw (Y0 r)) M'
noncomputable def C_28:CSs:=%[.ret (.bi .tuple %[.comp ["row","at"] 1 (.name 1) (.rng %[.int 1,.bi .len %[.var 0|0]|0]) (.call "taken" S_7 %[.ix (.var 0) (.var 1),.ix (.var 0) (.bin .Sub (.var 1) (.int 1))|0])|0])|0]
theorem vc_28:∀ ds M R E,S_28 ds M R E->rSs C_28 (ends R E) (Y1 1 ds) M:=by
 rintro ds M R E ⟨r,k,rfl,sz,hk,h1,h2,q⟩;unfold C_28;sleep 1;refine YJ (List.range (r.length-1)) (fun i=>.int (1+(i:Int))) (fun i=>nm (ri r (i+1)-ri r i)) ?_ (by simp;omega) ?_ ?_
 ·intro R' r'
  simp[0,Ym,vAt,vHd,Y3,Yi,bMul,bAdd,sOp,Y5,Yg,fIsi,Yl,and_assoc,sizeLine_eq,Yd,YE];refine CM ?_;have e:rngD 1 1 (r.length-1)=(List.range (r.length-1)).map fun i=>.int (1+(i:Int)):=by
   unfold rngD;simp
  refine⟨by omega,by omega,?_⟩
  (try refine⟨by omega,by omega,?_⟩)
  rw[show ((r.length:Int)-1).toNat=r.length-1 by omega,e];exact r' _ fun _ _=>trivial
 ·intro i hi' l M' R' hl e r'
  obtain⟨a,rfl⟩:=len1 hl;have hi2:i<r.length-1:=by simpa using hi'
  sleep 2;rw[show (1:Int)+(i:Int)=((i+1:Nat):Int) by omega];refine YZ (i:=i+1) %[|5] ?_;rw[show ((i+1:Nat):Int)-1=(i:Int) by omega];refine YZ (i:=i) %[|5] ?_;refine⟨_,_,rfl,.mk (sz _ (Yh %[|5])) (sz _ (Yh %[|5])) %[|5],?_⟩;exact r' [_] M' rfl (.refl _)
 ·intro p M' hp e l
  refine⟨_,l,?_⟩;have:=q M' e
  simpa[rw,Y0,Function.comp_def] using this
noncomputable def S_29:DSp:=fun ds M Q E=>∃ d,ds=[d]/\Gd M d/\(Yf 2 25 d=false/\(∀ M',MExt M M'->E (.exc "NoRow" .non) M')\/∃ r k,d=rw r/\(∀ x∈r,Sz k x)/\k<=3900/\2<=r.length/\r.length<=25/\∀ M',MExt M M'->Q (rw (Y0 r)) M')
noncomputable def C_29:CSs:=%[.ife (.not (.call "are_numbers" S_17 %[.var 0,.int 2,.glo "MOST_PLACES" Zd|0])) %[.rse "NoRow" %[.str "this is no row"|0]|0] .nil,.ret (.call "differences" S_28 %[.var 0|0])|0]
theorem vc_29:∀ ds M R E,S_29 ds M R E->rSs C_29 (ends R E) (Y1 1 ds) M:=by
 rintro ds M R E ⟨d,rfl,g,h⟩;unfold C_29;sleep 1;refine⟨d,2,25,rfl,by decide,g,fun M1 x1=>?_⟩;rcases h with ⟨h,q⟩|⟨r,k,rfl,sz,hk,h1,h2,q⟩
 ·rw[h]
  simp;sleep 1;exact q M1 x1
 ·rw[XY %[|5] %[|5]]
  simp;sleep 1;exact⟨r,k,rfl,sz,hk,by omega,by omega,fun M2 x2=>q M2 (x1.trans x2)⟩
section
variable {M:Mem} {Q:DK} {r s:List Rat} {t u:List (Rat×Rat)} {p:Rat×Rat} {q:Rat} {xs ys:List DL.D} {lo hi:Option Int} {i j k:Int} {a b:Addr} {d:DL.D}
@[simp] theorem L5:D.tup [nm q]=rw [q]:=rfl
@[simp] theorem KZ:D.tup [nm x,nm y]=pl (x,y):=rfl
@[simp] theorem L6:D.tup [pl p]=tb [p]:=rfl
@[simp] theorem LG:D.tup (r.map nm++nm q::s.map nm)=rw (r++q::s):=by unfold rw;simp
@[simp] theorem L7:D.tup (t.map pl++pl p::u.map pl)=tb (t++p::u):=by unfold tb;simp
@[simp] theorem DJ:bAdd (.int i) (.int j) M Q=Q (.int (i+j)) M:=rfl
@[simp] theorem Lk:bAdd (.tup xs) (.tup ys) M Q=(xs.length+ys.length<=sizeLine/\Q (.tup (xs++ys)) M):=rfl
@[simp] theorem HZ:bAdd (.lst a) (.lst b) M Q=(∃ xs ys,M a=some (.ls xs)/\M b=some (.ls ys)/\xs.length+ys.length<=sizeLine/\DL.alloc M (.ls (xs++ys)) fun p M'=>Q (.lst p) M'):=rfl
@[simp] theorem Ll:bAdd (rw r) (rw s) M Q=(r.length+s.length<=sizeLine/\Q (rw (r++s)) M):=by
 show ((r.map nm).length+(s.map nm).length<=sizeLine/\Q (.tup (r.map nm++s.map nm)) M)=_;rw[List.length_map,List.length_map,<- List.map_append];rfl
@[simp] theorem Lm:bAdd (tb t) (tb u) M Q=(t.length+u.length<=sizeLine/\Q (tb (t++u)) M):=by
 show ((t.map pl).length+(u.map pl).length<=sizeLine/\Q (.tup (t.map pl++u.map pl)) M)=_;rw[List.length_map,List.length_map,<- List.map_append];rfl
@[simp] theorem KW:bAdd (rw r) (.tup ys) M Q=(r.length+ys.length<=sizeLine/\Q (.tup (r.map nm++ys)) M):=by
 show ((r.map nm).length+ys.length<=sizeLine/\Q (.tup (r.map nm++ys)) M)=_;rw[List.length_map]
@[simp] theorem KT:bAdd (.tup ys) (rw r) M Q=(ys.length+r.length<=sizeLine/\Q (.tup (ys++r.map nm)) M):=by
 show (ys.length+(r.map nm).length<=sizeLine/\Q (.tup (ys++r.map nm)) M)=_;rw[List.length_map]
@[simp] theorem KY:bAdd (tb t) (.tup ys) M Q=(t.length+ys.length<=sizeLine/\Q (.tup (t.map pl++ys)) M):=by
 show ((t.map pl).length+ys.length<=sizeLine/\Q (.tup (t.map pl++ys)) M)=_;rw[List.length_map]
@[simp] theorem KU:bAdd (.tup ys) (tb t) M Q=(ys.length+t.length<=sizeLine/\Q (.tup (ys++t.map pl)) M):=by
 show (ys.length+(t.map pl).length<=sizeLine/\Q (.tup (ys++t.map pl)) M)=_;rw[List.length_map]
@[simp] theorem Lb:bMul (.int i) (.int j) M Q=(IntMulOk i j/\Q (.int (i*j)) M):=rfl
@[simp] theorem L8:bMul (.tup xs) (.int k) M Q=(0<=k/\k<1000000/\xs.length*k.toNat<=sizeLine/\Q (.tup (List.replicate k.toNat xs).flatten) M):=rfl
@[simp] theorem La:bMul (.lst a) (.int k) M Q=(∃ xs,M a=some (.ls xs)/\0<=k/\k<1000000/\xs.length*k.toNat<=sizeLine/\DL.alloc M (.ls (List.replicate k.toNat xs).flatten) fun p M'=>Q (.lst p) M'):=rfl
theorem Jx (f:α->β) (n:Nat) (r:List α):(List.replicate n (r.map f)).flatten=((List.replicate n r).flatten).map f:=by
 induction n with
 | zero=>rfl
 | succ n ih=>rw [List.replicate_succ,List.replicate_succ,List.flatten_cons,List.flatten_cons,ih,List.map_append]
@[simp] theorem L9:bMul (rw r) (.int k) M Q=(0<=k/\k<1000000/\r.length*k.toNat<=sizeLine/\Q (rw (List.replicate k.toNat r).flatten) M):=by
 show (0<=k/\k<1000000/\(r.map nm).length*k.toNat<=sizeLine/\Q (.tup (List.replicate k.toNat (r.map nm)).flatten) M)=_;rw[List.length_map,Jx];rfl
@[simp] theorem Lc:bMul (tb t) (.int k) M Q=(0<=k/\k<1000000/\t.length*k.toNat<=sizeLine/\Q (tb (List.replicate k.toNat t).flatten) M):=by
 show (0<=k/\k<1000000/\(t.map pl).length*k.toNat<=sizeLine/\Q (.tup (List.replicate k.toNat (t.map pl)).flatten) M)=_;rw[List.length_map,Jx];rfl
theorem Bq (f:α->β) (xs:List α) (lo hi:Option Int):cutG (xs.map f) lo hi=(cutG xs lo hi).map f:=by
 unfold cutG;simp[List.map_take,List.map_drop]
@[simp] theorem Lz:sOp (.fz xs) lo hi M Q=DL.alloc M (.ls (cutG xs lo hi)) fun p M'=>Q (.lst p) M':=rfl
@[simp] theorem Ly:sOp (.lst a) lo hi M Q=(∃ xs,M a=some (.ls xs)/\DL.alloc M (.ls (cutG xs lo hi)) fun p M'=>Q (.lst p) M'):=rfl
@[simp] theorem Lw:sOp (.tup xs) lo hi M Q=Q (.tup (cutG xs lo hi)) M:=rfl
@[simp] theorem Lx:sOp (rw r) lo hi M Q=Q (rw (cutG r lo hi)) M:=by
 show Q (.tup (cutG (r.map nm) lo hi)) M=_;rw[Bq];rfl
@[simp] theorem LA:sOp (tb t) lo hi M Q=Q (tb (cutG t lo hi)) M:=by
 show Q (.tup (cutG (t.map pl) lo hi)) M=_;rw[Bq];rfl
@[simp] theorem LB:Yi (.tup xs) (some (-1)) M Q=Q (.tup xs.reverse) M:=by unfold Yi;simp
@[simp] theorem LC:Yi (rw r) (some (-1)) M Q=Q (rw r.reverse) M:=by
 unfold Yi;rw[show rw r=.tup (r.map nm) from rfl];simp[rw]
@[simp] theorem LD:Yi (tb t) (some (-1)) M Q=Q (tb t.reverse) M:=by
 unfold Yi;rw[show tb t=.tup (t.map pl) from rfl];simp[tb]
@[simp] theorem Le:fLen [.tup xs] M Q=Q (.int xs.length) M:=rfl
@[simp] theorem Lg:fLen [.fz xs] M Q=Q (.int xs.length) M:=rfl
@[simp] theorem Lf:fLen [.lst a] M Q=(∃ xs,M a=some (.ls xs)/\Q (.int xs.length) M):=rfl
@[simp] theorem HY:fLen [rw r] M Q=Q (.int r.length) M:=by
 show Q (.int (r.map nm).length) M=_;rw[List.length_map]
@[simp] theorem Lh:fLen [tb t] M Q=Q (.int t.length) M:=by
 show Q (.int (t.map pl).length) M=_;rw[List.length_map]
@[simp] theorem Lp:Y5 [.tup xs] M Q=Q (.tup xs) M:=rfl
@[simp] theorem Ls:Y5 [.fz xs] M Q=Q (.tup xs) M:=rfl
@[simp] theorem Lr:Y5 [.lst a] M Q=(∃ xs,M a=some (.ls xs)/\Q (.tup xs) M):=rfl
@[simp] theorem Lq:Y5 [rw r] M Q=Q (rw r) M:=rfl
@[simp] theorem Lu:Y5 [tb t] M Q=Q (tb t) M:=rfl
@[simp] theorem LH:Yg [.tup xs] M Q=DL.alloc M (.ls xs) fun p M'=>Q (.lst p) M':=rfl
@[simp] theorem LL:Yg [.fz xs] M Q=DL.alloc M (.ls xs) fun p M'=>Q (.lst p) M':=rfl
@[simp] theorem LJ:Yg [.lst a] M Q=(∃ xs,M a=some (.ls xs)/\DL.alloc M (.ls xs) fun p M'=>Q (.lst p) M'):=rfl
@[simp] theorem LI:Yg [rw r] M Q=DL.alloc M (.ls (r.map nm)) fun p M'=>Q (.lst p) M':=rfl
@[simp] theorem LM:Yg [tb t] M Q=DL.alloc M (.ls (t.map pl)) fun p M'=>Q (.lst p) M':=rfl
theorem JB:fIsi [.tup xs,.ty "tuple"] M Q=Q (.bl true) M:=by
 unfold fIsi;simp[tyD,isiT]
@[simp] theorem Li:fIsi [.tup xs,.ty "tuple"] M Q=Q (.bl true) M:=JB
@[simp] theorem Mc:fIsi [nm q,.ty "tuple"] M Q=Q (.bl true) M:=JB
@[simp] theorem Mb:fIsi [pl p,.ty "tuple"] M Q=Q (.bl true) M:=JB
@[simp] theorem Ma:fIsi [rw r,.ty "tuple"] M Q=Q (.bl true) M:=JB
@[simp] theorem Me:fIsi [tb t,.ty "tuple"] M Q=Q (.bl true) M:=JB
@[simp] theorem Mf:fIsi [.non,.ty "tuple"] M Q=Q (.bl false) M:=by unfold fIsi;simp[tyD,isiT]
@[simp] theorem Md:fIsi [.exc n x,.cls c] M Q=Q (.bl (YD n c)) M:=by unfold fIsi;simp
@[simp] theorem Lj:fIsi [.non,.cls c] M Q=Q (.bl false) M:=rfl
@[simp] theorem LZ:fIsi [.exc n x,.ty "ValueError"] M Q=Q (.bl true) M:=by unfold fIsi;simp[tyD,isiT]
@[simp] theorem LS:iOp (nm q) (.int 0) M Q=Q (.int q.num) M:=by
 refine propext ⟨fun h=>?_,fun h=>ix0 h⟩;obtain⟨v,e,h⟩:=h;rw[Yw] at e;cases e;exact h
@[simp] theorem LQ:iOp (nm q) (.int 1) M Q=Q (.int q.den) M:=by
 refine propext ⟨fun h=>?_,fun h=>ix1 h⟩;obtain⟨v,e,h⟩:=h;rw[ZO] at e;cases e;exact h
@[simp] theorem LF:iOp (pl p) (.int 0) M Q=Q (nm p.1) M:=by
 refine propext ⟨fun h=>?_,fun h=>pl0 h⟩;obtain⟨v,e,h⟩:=h;rw[Yw] at e;cases e;exact h
@[simp] theorem LE:iOp (pl p) (.int 1) M Q=Q (nm p.2) M:=by
 refine propext ⟨fun h=>?_,fun h=>pl1 h⟩;obtain⟨v,e,h⟩:=h;rw[ZO] at e;cases e;exact h
@[simp] theorem Mg {n:Nat} {g:DGs} {δ:DSt} {Q:DSt->Mem->Prop}:Ym n g (.tup xs) δ M Q=(xs.length=n/\g xs δ M Q):=by
 unfold Ym;simp
@[simp] theorem Mh {g:DGs} {δ:DSt} {Q:DSt->Mem->Prop}:Ym 2 g (pl p) δ M Q=g [nm p.1,nm p.2] δ M Q:=by
 refine propext ⟨fun h=>?_,fun h=>⟨_,rfl,rfl,h⟩⟩;obtain⟨ds,e,_,h⟩:=h;cases e;exact h
@[simp] theorem Mj {g:DGs} {δ:DSt} {Q:DSt->Mem->Prop}:Ym 2 g (nm q) δ M Q=g [.int q.num,.int q.den] δ M Q:=by
 refine propext ⟨fun h=>?_,fun h=>⟨_,rfl,rfl,h⟩⟩;obtain⟨ds,e,_,h⟩:=h;cases e;exact h
@[simp] theorem LU:Yl (.tup xs) M R=R xs (fun _=>True) M:=rfl
@[simp] theorem LX:Yl (.fz xs) M R=R xs (fun _=>True) M:=rfl
@[simp] theorem LW:Yl (.lst a) M R=(∃ xs,M a=some (.ls xs)/\R xs (fun M'=>M' a=some (.ls xs)) M):=rfl
@[simp] theorem LV:Yl (rw r) M R=R (r.map nm) (fun _=>True) M:=rfl
@[simp] theorem LY:Yl (tb t) M R=R (t.map pl) (fun _=>True) M:=rfl
@[simp] theorem LN:U8 [rw r,rw s] M R=R ((List.zip r s).map fun z=>pl z) (fun _=>True) M:=by
 show R (zipD (r.map nm) (s.map nm)) _ _=_;unfold zipD;rw[List.zipWith_map,List.zip,List.map_zipWith];rfl
@[simp] theorem LP:U8 [tb t,rw s] M R=R ((List.zip t s).map fun z=>.tup [pl z.1,nm z.2]) (fun _=>True) M:=by
 show R (zipD (t.map pl) (s.map nm)) _ _=_;unfold zipD;rw[List.zipWith_map,List.zip,List.map_zipWith]
@[simp] theorem LO:U8 [rw s,tb t] M R=R ((List.zip s t).map fun z=>.tup [nm z.1,pl z.2]) (fun _=>True) M:=by
 show R (zipD (s.map nm) (t.map pl)) _ _=_;unfold zipD;rw[List.zipWith_map,List.zip,List.map_zipWith]
@[simp] theorem Mo:cIs neg (nm q) .non M Q=Q (.bl neg) M:=by unfold cIs nm;cases neg<;>rfl
@[simp] theorem Mn:cIs neg (rw r) .non M Q=Q (.bl neg) M:=by unfold cIs rw;cases neg<;>rfl
@[simp] theorem Mp:cIs neg (tb t) .non M Q=Q (.bl neg) M:=by unfold cIs tb;cases neg<;>rfl
@[simp] theorem Mm:cIs neg (.exc n x) .non M Q=Q (.bl neg) M:=by unfold cIs;cases neg<;>rfl
@[simp] theorem Mq:cIs neg .non .non M Q=Q (.bl !neg) M:=by unfold cIs;cases neg<;>rfl
@[simp] theorem Ml {neg b c:Bool}:cIs neg (.bl b) (.bl c) M Q=Q (.bl (if neg then !(b==c) else b==c)) M:=by unfold cIs;cases neg<;>rfl
end
theorem UL (h:1<=b) (g:Int.gcd a b=1):D.tup [.int a,.int b]=nm (Rat.divInt a b):=by
 unfold nm;rw[(Ag h g).1,(Ag h g).2]
theorem Zm {s:CS} {rest:CSs} {D:DEnds} {δ:DSt} {M:Mem} (h:∀ J:DSt->Mem->Prop,(∀ δ' M',rSs rest D δ' M'->J δ' M')->rS s {D with nx:=J} δ M):rSs (.cons s rest) D δ M:=by
 rw[Ye];exact h _ fun _ _ h=>h
theorem IY (xs:List α) (n:Nat) (h:n<=xs.length):cutG xs (some (n:Int)) none=xs.drop n:=by
 unfold cutG;rw[HT.sIx_none,HT.sIx_nat,Nat.min_eq_left %[|5],List.take_of_length_le (by simp)]
end K
end
set_option bootstrap.genMatcherCode true
local macro_rules
 | `(tactic| sleep 7)=>`(tactic| ((try dsimp only);rw[Ye];sleep 8))
 | `(tactic| sleep 8)=>`(tactic| ((try dsimp only[0,vAt,vHd,List.set_cons_succ,List.set_cons_zero,List.cons_append,List.nil_append,List.map,List.length_cons,List.length_nil,Nat.reduceAdd,Nat.reduceSub,List.replicate_succ,List.replicate_zero,Y3,Z1,Yn,dFld,Zr,Zs,Zq]);try simp[0,vAt,vHd,Y3,and_assoc,sizeLine_eq,Yd,Z1,Yn,dFld,Zr,Zs,Zq]))
 | `(tactic| sleep 9)=>`(tactic| ((try dsimp only);rw[Ye];(try dsimp only[rS,rI,dFor,YE]);sleep 8))
set_option bootstrap.genMatcherCode false
noncomputable section
namespace K
open PySem DL Q
theorem JH (X:K.In h) (G:h.Ns mainGlobals mg) (e:PySem.W.nsIn K mainGlobals n=some (some (.ref a)))
  (lk:K.lookup a=some ⟨.type "tuple",dd,.seq #[.int i t,.int j u] m,sl⟩):GloE K mg n (.tup [.int i,.int j]):=by
 refine⟨.ref a,.ref a,PySem.W.mg_of X G e,rfl,fun H=>.tup (vs:=[.int i,.int j]) (.inr ⟨_,#[.int i t,.int j u],m,lk,rfl,rfl,?_,?_⟩) (.cons (.int _) (.cons (.int _) .nil))⟩
 ·rw[sizeLine_eq];show 2<=16777216;decide
 ·exact .cons ⟨_,rfl⟩ (.cons ⟨_,rfl⟩ .nil)
abbrev Wl:DL.D:=.tup [.int 0,.int 1]
noncomputable def FO (n:Str):List Bool:=[YD n "NoNumber",YD n "NoText",YD n "NoTube",YD n "NoRow",YD n "NoMeasure",YD n "NoLevel",YD n "NoData",YD n "NoPrice",YD n "NoNeeds",YD n "NoRoom",YD n "NoJobs",YD n "NoCall",YD n "NoKept"]
structure Only (n:Str) (i:Int):Prop where
 c:YD n "CordError"=true
 k:FO n=(List.range 13).map fun j:Nat=>decide ((j:Int)=i)
structure Pt where
 up:Bool
 at_:Rat
 wt:Rat
noncomputable def sd (b:Bool):DL.D:=.str (if b then "above" else "below")
noncomputable def pt (p:Pt):DL.D:=.tup [sd p.up,nm p.at_,nm p.wt]
noncomputable def Gr (L B:Nat) (x:Rat):Prop:=∃ n:Int,x=Rat.divInt n (L:Int)/\n.natAbs<=B
theorem Gr.mono (h:Gr L B x) (c:B<=C):Gr L C x:=by obtain⟨n,e,b⟩:=h;exact⟨n,e,by omega⟩
theorem Gr.sz (h:Gr L B x) (l0:0<L) (hL:L<2 ^ m) (hB:B<2 ^ m):Sz m x:=by
 obtain⟨n,rfl,b⟩:=h;exact ZQ %[|5] %[|5] (by simpa using hL)
theorem WQ (h:c≠0):Rat.divInt a c+Rat.divInt b c=Rat.divInt (a+b) c:=by
 rw[Rat.divInt_add_divInt _ _ h h,<- Int.add_mul,Rat.divInt_mul_right h]
theorem Gr.add (l0:0<L) (h:Gr L B x) (g:Gr L C y):Gr L (B+C) (x+y):=by
 obtain⟨n,rfl,b⟩:=h;obtain⟨m,rfl,c⟩:=g;refine⟨n+m,WQ %[|5],?_⟩;have:=Int.natAbs_add_le n m;omega
theorem Gr.neg (h:Gr L B x):Gr L B (-x):=by
 obtain⟨n,rfl,b⟩:=h;exact⟨-n,Rat.neg_divInt n _,by omega⟩
theorem Gr.sub (l0:0<L) (h:Gr L B x) (g:Gr L C y):Gr L (B+C) (x-y):=by
 rw[Rat.sub_eq_add_neg];exact h.add l0 g.neg
theorem Gr.zero:Gr L B 0:=⟨0,by rw[Rat.zero_divInt],by simp⟩
theorem Gr.div (h:Gr L B x) (d0:0<d) (dW:d ∣ W) (l0:0<L) (w0:0<W):Gr (L*W) (B*W) (x / (d:Rat)):=by
 obtain⟨n,rfl,b⟩:=h;obtain⟨k,rfl⟩:=dW;have k0:k≠0:=fun z=>by subst z;simp at w0
 refine⟨n*k,?_,?_⟩
 ·have e1:((d:Nat):Rat)=Rat.divInt (d:Int) 1:=(Ya ((d:Int):Rat)).symm
  rw[Rat.div_def,e1,Rat.inv_divInt,Rat.divInt_mul_divInt,Int.mul_one];have e2:((L*(d*k):Nat):Int)=((L:Int)*(d:Int))*(k:Int):=by push_cast;rw[Int.mul_assoc]
  rw[e2,Rat.divInt_mul_right %[|5]]
 ·rw[Int.natAbs_mul]
  have h1:((k:Int)).natAbs=k:=by simp
  rw[h1];exact Nat.le_trans (Nat.mul_le_mul_right _ b) (Nat.mul_le_mul_left _ (Nat.le_mul_of_pos_left k d0))
theorem Gr.up (h:Gr L B x) (l0:0<L) (w0:0<W):Gr (L*W) (B*W) x:=by
 have:=h.div (d:=1) %[|4] (Nat.one_dvd W) l0 w0
 rwa [show x / ((1:Nat):Rat)=x by rw[show ((1:Nat):Rat)=1 from rfl];grind] at this
theorem Gr.times (l0:0<L) (h:Gr L B x):∀ k:Nat,Gr L (k*B) ((k:Rat)*x)
 | 0=>by rw[show ((0:Nat):Rat)*x=0 by rw[show ((0:Nat):Rat)=0 from rfl];grind];exact .zero
 | k+1=>by
  rw[Nat.succ_mul,show ((k+1:Nat):Rat)*x=(k:Rat)*x+x by push_cast;grind];exact (Gr.times l0 h k).add l0 h
theorem KM:∀ d:_root_.Fin 25,0<d.val->d.val ∣ 5354228880:=by decide +kernel
theorem Gr.mulW (h:Gr L B x) (g:Gr W C y):Gr (L*W) (B*C) (x*y):=by
 obtain⟨n,rfl,b⟩:=h;obtain⟨m,rfl,c⟩:=g;refine⟨n*m,?_,?_⟩
 ·rw[Rat.divInt_mul_divInt];push_cast;rfl
 ·rw[Int.natAbs_mul];exact Nat.mul_le_mul b c
theorem Gr.down (h:Gr L B x) (l0:0<L) (w0:0<W):Gr (W*L) (B*W) x:=by
 rw[Nat.mul_comm W L];exact h.up l0 w0
theorem Gr.tot (l0:0<L):∀ {s:List Rat},(∀ x∈s,Gr L B x)->Gr L (s.length*B) (Q.tot s)
 | [],_=>.zero
 | x::s,h=>by
  rw[Y7,List.length_cons,Nat.succ_mul,Nat.add_comm];exact (h x List.mem_cons_self).add l0 (Gr.tot l0 fun y hy=>h y (List.mem_cons_of_mem _ hy))
theorem Z8 (hb:0<b) (hd:b.toNat ∣ L) (l0:0<L) (ha:a.natAbs*L<=B):Gr L B (Rat.divInt a b):=by
 obtain⟨k,rfl⟩:=hd;have k0:k≠0:=fun z=>by subst z;simp at l0
 refine⟨a*k,?_,?_⟩
 ·have:((b.toNat*k:Nat):Int)=b*(k:Int):=by push_cast;rw[Int.toNat_of_nonneg %[|5]]
  rw[this,Rat.divInt_mul_right %[|5]]
 ·rw[Int.natAbs_mul]
  have h1:((k:Int)).natAbs=k:=by simp
  rw[h1];exact Nat.le_trans (Nat.mul_le_mul_left _ (Nat.le_mul_of_pos_left k %[|5])) ha
theorem CD (l0:0<L) (h:∀ x∈r,Gr L B x):∀ x∈Y0 r,Gr L (B+B) x:=fun x hx=>by
 obtain⟨i,hi,rfl⟩:=List.mem_map.mp hx;have hi:=List.mem_range.mp hi;exact (h _ (Yh %[|5])).sub l0 (h _ (Yh %[|5]))
theorem Eb {L B:Nat} {z:Int} (l0:0<L) (h:z.natAbs*L<=B):Gr L B (z:Rat):=by
 ·have:=Z8 (a:=z) (b:=1) (L:=L) (B:=B) %[|4] (Nat.one_dvd _) l0 h
  rwa [show Rat.divInt z 1=(z:Rat) from Ya (z:Rat)] at this
noncomputable def sqs (r:List Rat):Rat:=tot ((Y0 r).map fun x=>x*x)
theorem CB (f:α->List Rat):∀ s:List α,tot (s.flatMap f)=tot (s.map fun x=>tot (f x))
 | []=>rfl
 | x::s=>by rw[List.flatMap_cons,List.map_cons,X1,Y7,CB f s]
theorem W0:∀ s:List α,tot (s.map fun _=>(0:Rat))=0
 | []=>rfl
 | x::s=>by rw[List.map_cons,Y7,W0 s];grind
section
variable {ms:List Pt} {s:List Rat} {L B W C:Nat}
end
noncomputable def pn (ps:List Nat):List DL.D:=ps.map fun (i:Nat)=>DL.D.int (i:Int)
structure Falls (s:List Rat) (n:Nat) (ps:List Nat):Prop where
 perm:ps.Perm (List.range n)
 fall:Fall (ps.map fun i=>s.getD i 0)
noncomputable def S_44:DSp:=fun ds M Q E=>∃ (s:List Rat) (k:Nat),ds=[rw s]/\(∀ x∈s,Sz k x)/\k<=3900/\s.length<=100/\∀ ps p M',M p=none->MExt M M'->M' p=some (.ls (pn ps))->Falls s s.length ps->Q (.lst p) M'
theorem Ac {s:List Rat} {i:Nat} (h:i<s.length) {M:Mem} {Q:DK} (q:Q (nm (s.getD i 0)) M):iOp (.tup (s.map nm)) (.int (i:Int)) M Q:=by
 refine tix (v:=nm (s.getD i 0)) (Yz ?_) q;simp[h]
theorem Falls.ins (F:Falls s n ps) (hw:w<=ps.length) (h1:∀ j,j<w->∀ a,ps[j]?=some a->¬ s.getD a 0<s.getD n 0) (h2:∀ a,ps[w]?=some a->s.getD a 0<s.getD n 0):Falls s (n+1) (ps.take w++n::ps.drop w):=by
 refine⟨?_,?_⟩
 ·rw[List.range_succ]
  have e:(ps.take w++n::ps.drop w).Perm (n::(ps.take w++ps.drop w)):=List.perm_middle;rw[List.take_append_drop] at e;exact e.trans ((F.perm.cons n).trans (List.perm_append_singleton n (List.range n)).symm)
 ·rw[List.map_append,List.map_cons]
  have hf:=F.fall;rw[<- List.take_append_drop w ps,List.map_append] at hf;refine El hf (fun a ha=>?_) fun a ha=>?_
  ·obtain⟨i,hi,rfl⟩:=List.mem_map.mp ha
   obtain⟨j,hj,e⟩:=List.getElem_of_mem hi;rw[List.length_take] at hj;have:=h1 j %[|5] i (by rw[<- e,List.getElem_take,List.getElem?_eq_getElem]);grind
  ·have hd:∃ b r,ps.drop w=b::r:=by
    cases e:ps.drop w with
    | nil=>rw [e] at ha;cases ha
    | cons b r=>exact⟨b,r,rfl⟩
   obtain⟨b,r,e⟩:=hd;have hb:ps[w]?=some b:=by
    have:=congrArg (fun l=>l[0]?) e
    simpa using this
   have hlt:=h2 b hb;rw[e] at hf;have hf2:=(List.pairwise_append.mp hf).2.1;rw[List.map_cons] at hf2;rw[e,List.map_cons] at ha;rcases List.mem_cons.mp ha with rfl|ha
   ·grind
   ·have:=(List.pairwise_cons.mp hf2).1 a ha
    grind
noncomputable def C_44:CSs:=%[.set 1 (.lst .nil),.fr (.name 2) (.rng %[.bi .len %[.var 0|0]|0]) %[.set 3 (.int 0),.whl (.and (.cmp .Lt (.var 3) (.bi .len %[.var 1|0])) (.one (.not (.call "is_less" S_4 %[.ix (.var 0) (.ix (.var 1) (.var 3)),.ix (.var 0) (.var 2)|0])))) %[.aug 3 false (.int 1)|0],.expr (.ins 1 (.var 3) (.var 2))|0],.ret (.var 1)|0]
theorem vc_44:∀ ds M R E,S_44 ds M R E->rSs C_44 (ends R E) (Y1 4 ds) M:=by
 rintro ds M R E ⟨s,k,rfl,hs,hk,hl,q⟩;rw[show rw s=.tup (s.map nm) from rfl];unfold C_44;sleep 1;intro p0 M0 e0 x0 l0;sleep 3;refine⟨by omega,?_⟩;refine Yv (fun i δ M'=>∃ ps w2 w3,MExt M M'/\M' p0=some (.ls (pn ps))/\Falls s i ps/\δ=[some (.tup (s.map nm)),some (.lst p0),w2,w3]) (fun _ _ _ _=>trivial) ?_ ?_ ⟨[],none,none,x0,l0,⟨.refl _,.nil⟩,rfl⟩
 ·rintro δ M' ⟨ps,w2,w3,x,l,F,rfl⟩
  rw[Xo] at F;sleep 1;exact q ps p0 M' e0 x l F
 ·rintro i x hx N hN δ M' ⟨ps,w2,w3,xm,l,F,rfl⟩
  obtain⟨rfl,hi'⟩:=W6 hx;simp[0,Ym,vAt,vHd,Y3,Yi,bMul,bAdd,sOp,Y5,Yg,fIsi,Yl,and_assoc,sizeLine_eq,Yd,and_true];sleep 1;rw[Ye];have done_:∀ (w:Nat),w<=ps.length->(∀ j,j<w->∀ a,ps[j]?=some a->¬ s.getD a 0<s.getD i 0)->(∀ a,ps[w]?=some a->s.getD a 0<s.getD i 0)->∀ DD:DEnds,DD.nx=N->rSs (.cons (.expr (.ins 1 (.var 3) (.var 2))) .nil) DD [some (.tup (s.map nm)),some (.lst p0),some (.int (i:Int)),some (.int (w:Int))] M':=by
   intro w hw h1 h2 DD hD;have pl:=F.perm.length_eq;rw[List.length_range] at pl;sleep 1;rw[hD];refine⟨⟨_,l⟩,_,l,by simpa[pn] using hw,by simp[pn];omega,?_⟩;refine hN _ _ ⟨ps.take w++i::ps.drop w,_,_,MExt.upd_new e0 xm,?_,F.ins hw h1 h2,rfl⟩;rw[mupd_same];unfold Xi pn;simp
  refine⟨fun m δ M1=>∃ w:Nat,w<=ps.length/\(∀ j,j<w->∀ a,ps[j]?=some a->¬ s.getD a 0<s.getD i 0)/\δ=[some (.tup (s.map nm)),some (.lst p0),some (.int (i:Int)),some (.int (w:Int))]/\M1=M'/\m=ps.length-w,⟨_,0,by omega,by omega,rfl,rfl,rfl⟩,?_⟩;rintro m δ M1 ⟨w,hw,hb,rfl,rfl,rfl⟩;simp[0,Ym,vAt,vHd,Y3,Yi,bMul,bAdd,sOp,Y5,Yg,fIsi,Yl,and_assoc,sizeLine_eq,Yd,fLen,and_true];refine⟨_,l,?_⟩;have hlen:(pn ps).length=ps.length:=by simp[pn]
  rw[hlen];by_cases h1:w<ps.length
  ·rw[if_pos h1]
   have ea:ps[w]?=some ps[w]:=List.getElem?_eq_getElem h1;have ha:ps[w]<i:=by
    have:=F.perm.subset (List.getElem_mem h1);exact List.mem_range.mp this
   refine Yo (v:=.int ((ps[w]:Nat):Int)) l (Yz (by simp[pn,h1])) ?_;refine Ac %[|5] ?_;refine Ac %[|5] ?_;have sz:∀ j,j<s.length->Sz k (s.getD j 0):=fun j hj=>by
    have:=hs _ (List.getElem_mem hj)
    simpa[hj] using this
   refine⟨_,_,rfl,.mk (sz _ %[|5]) (sz _ %[|5]) %[|5],?_⟩;by_cases h2:s.getD ps[w] 0<s.getD i 0
   ·rw[decide_eq_true h2]
    dsimp only;simp;exact done_ w hw hb (fun a e=>by rw[ea] at e;cases e;exact h2) _ rfl
   ·rw[decide_eq_false h2]
    dsimp only;simp;refine⟨fun δ' M2=>δ'=[some (.tup (s.map nm)),some (.lst p0),some (.int (i:Int)),some (.int ((w+1:Nat):Int))]/\M2=M1,?_,?_⟩
    ·rintro δ' M2 ⟨rfl,rfl⟩
     refine⟨_,by omega,w+1,by omega,fun j hj a e=>?_,rfl,rfl,rfl⟩;by_cases hjw:j=w
     ·subst hjw;rw[ea] at e;cases e;simpa using h2
     ·simpa using hb j %[|5] a e
    ·sleep 1
  ·rw[if_neg h1]
   exact done_ w hw hb (fun a e=>by rw[List.getElem?_eq_none %[|5]] at e;cases e) _ rfl
theorem Falls.vals (F:Falls s s.length ps):(ps.map fun i=>s.getD i 0)=srt s:=by
 refine A9 ?_ F.fall;have h:=F.perm.map fun i=>s.getD i 0;have e:(List.range s.length).map (fun i=>s.getD i 0)=s:=by
  apply List.ext_getElem
  ·simp
  ·intro i h1 h2;simp at h1;simp[h1]
 rw[e] at h;exact h
noncomputable def Gs (s:List Rat):Prop:=∃ L B,0<L/\L<2 ^ 1900/\B<2 ^ 1900/\∀ x∈s,Gr L B x
theorem Gs.sz (h:Gs s):∀ x∈s,Sz 1900 x:=fun x hx=>by
 obtain⟨L,B,l0,hL,hB,g⟩:=h;exact (g x hx).sz l0 hL hB
theorem Gs.tot (h:Gs s) (ht:∀ x∈t,x∈s) (hl:t.length<=25):Sz 1910 (tot t):=by
 obtain⟨L,B,l0,hL,hB,g⟩:=h;have:=Gr.tot l0 fun x hx=>g x (ht x hx);refine (this.mono (Nat.mul_le_mul_right _ hl)).sz l0 (Nat.lt_of_lt_of_le hL (Ys %[|4])) ?_;have:25*B<2 ^ 5*2 ^ 1900:=by omega
 exact Nat.lt_of_lt_of_le this (by decide +kernel)
noncomputable def Y2 (s:List Rat):List Rat:=Z0 0 (srt s)
noncomputable def S_45:DSp:=fun ds M Q E=>∃ (s:List Rat),ds=[rw s]/\Gs s/\s.length<=25/\∀ p M',M p=none->MExt M M'->M' p=some (.ls ((Y2 s).map nm))->Q (.lst p) M'
noncomputable def C_45:CSs:=%[.set 1 (.lst .nil),.set 2 (.glo "NOUGHT" Wl),.fr (.name 3) (.seq (.call "falling" S_44 %[.var 0|0])) %[.set 2 (.call "added" S_12 %[.var 2,.ix (.var 0) (.var 3)|0]),.expr (.app 1 (.var 2))|0],.ret (.var 1)|0]
theorem vc_45:∀ ds M R E,S_45 ds M R E->rSs C_45 (ends R E) (Y1 4 ds) M:=by
 rintro ds M R E ⟨s,rfl,G,hl,q⟩;rw[show rw s=.tup (s.map nm) from rfl];have hs:=G.sz;obtain⟨k,hk⟩:∃ k,k=1900:=⟨_,rfl⟩;rw[<- hk] at hs;unfold C_45;sleep 1;intro p0 M0 e0 x0 l0;sleep 1;sleep 3;refine⟨s,k,rfl,hs,by omega,by omega,fun ps p1 M1 e1 x1 l1 F=>?_⟩;have hpp:p0≠p1:=fun z=>by rw[<- z,l0] at e1;cases e1
 have pln:=F.perm.length_eq;rw[List.length_range] at pln;have lt:∀ a∈ps,a<s.length:=fun a ha=>List.mem_range.mp (F.perm.subset ha);have sz:∀ j,j<s.length->Sz k (s.getD j 0):=fun j hj=>by
  have:=hs _ (List.getElem_mem hj)
  simpa[hj] using this
 have hv:=F.vals;obtain⟨vs,hvs⟩:∃ vs,vs=ps.map fun i=>s.getD i 0:=⟨_,rfl⟩;have vz:∀ x∈vs,Sz k x:=fun x hx=>by
  rw[hvs] at hx;obtain⟨a,ha,rfl⟩:=List.mem_map.mp hx;exact sz a (lt a ha)
 have gv:∀ x∈vs,x∈s:=fun x hx=>by
  rw[hvs] at hx;obtain⟨a,ha,rfl⟩:=List.mem_map.mp hx;have:=lt a ha;simp[List.getD,this]
 have vl:vs.length=ps.length:=by rw[hvs];simp
 rw[<- hvs] at hv;dsimp only;refine⟨_,l1,?_⟩;refine Yv (fun i δ M'=>∃ w,MExt M M'/\M' p1=some (.ls (pn ps))/\M' p0=some (.ls ((Z0 0 (vs.take i)).map nm))/\δ=[some (.tup (s.map nm)),some (.lst p0),some (nm (tot (vs.take i))),w]) (fun _ _ _ h=>by obtain⟨_,_,h,_⟩:=h;exact h) ?_ ?_ ⟨none,x0.trans x1,l1,x1 _ _ l0,rfl⟩
 ·rintro δ M' ⟨w,x,_,l,rfl⟩
  sleep 1;refine q p0 M' e0 x ?_;rw[l,show (pn ps).length=vs.length by rw[vl];simp[pn],List.take_length,hv];rfl
 ·rintro i x hx N hN δ M' ⟨w,xm,lp,l,rfl⟩
  obtain⟨hi,rfl⟩:∃ hi:i<ps.length,x=.int ((ps[i]:Nat):Int):=by
   obtain⟨h,e⟩:=List.getElem?_eq_some_iff.mp hx;have h':i<ps.length:=by simpa[pn] using h
   refine⟨h',?_⟩;rw[<- e];simp[pn]
  have ai:=lt _ (List.getElem_mem hi);have vi:vs[i]'%[|5]=s.getD ps[i] 0:=by subst hvs;simp
  have tk:vs.take (i+1)=vs.take i++[s.getD ps[i] 0]:=by rw[List.take_succ_eq_append_getElem %[|5],vi]
  have st:Sz 1910 (tot (vs.take i)):=G.tot (fun x hx=>gv x (List.mem_of_mem_take hx)) (by rw[List.length_take];omega);simp[0,Ym,vAt,vHd,Y3,Yi,bMul,bAdd,sOp,Y5,Yg,fIsi,Yl,and_assoc,sizeLine_eq,Yd,and_true];sleep 1;refine Ac ai ?_;refine⟨_,_,rfl,.mk st (sz _ ai) %[|5],?_⟩;sleep 1;refine⟨⟨_,l⟩,_,l,?_,?_⟩
  ·rw[List.length_map,XL,List.length_take];omega
  ·refine hN _ _ ⟨some (.int ((ps[i]:Nat):Int)),MExt.upd_new e0 xm,by rw[YB hpp.symm];exact lp,?_,?_⟩
   ·rw[mupd_same,tk,Ud,List.map_append];rfl
   ·rw[tk,X4];rfl
theorem Xv (s:List Rat):(Y2 s).length=s.length:=by unfold Y2;rw[XL,(YF s).length_eq]
theorem FW (p:s.Perm t):Y2 s=Y2 t:=by
 unfold Y2;rw[A9 ((YF s).trans p) (Vg s)]
theorem JF:∀ {q:Rat} {s:List Rat} {i:Nat},i<s.length->ri (Z0 q s) i=q+tot (s.take (i+1))
 | q,a::s,0,_=>by
  show q+a=q+tot [a];rw[Y7];show q+a=q+(a+0);grind
 | q,a::s,i+1,h=>by
  show ri (Z0 (q+a) s) i=_;rw[JF (by simpa using h),List.take_succ_cons,Y7];grind
theorem Ue (h:i<s.length):ri (Y2 s) i=tot ((srt s).take (i+1)):=by
 unfold Y2;rw[JF (by rw[(YF s).length_eq];exact h),Rat.zero_add]
noncomputable def cutP (c x:Rat):Rat:=if c<x then x-c else 0
theorem JO (c x:Rat):0<=cutP c x:=by unfold cutP;split<;>grind
theorem Gq (c x:Rat):x-c<=cutP c x:=by unfold cutP;split<;>grind
theorem V9:∀ {s:List Rat},(∀ x∈s,0<=x)->0<=tot s
 | [],_=>Rat.le_refl
 | x::s,h=>by
  rw[Y7];have:=h x List.mem_cons_self;have:=V9 fun y hy=>h y (List.mem_cons_of_mem _ hy);grind
theorem Va:∀ {s:List α},(∀ x∈s,f x<=g x)->tot (s.map f)<=tot (s.map g)
 | [],_=>Rat.le_refl
 | x::s,h=>by
  rw[List.map_cons,List.map_cons,Y7,Y7];have:=h x List.mem_cons_self;have:=Va fun y hy=>h y (List.mem_cons_of_mem _ hy);grind
theorem Uu (c:Rat):∀ s:List Rat,tot (s.map fun x=>x-c)=tot s-(s.length:Rat)*c
 | []=>by show (0:Rat)=0-(0:Rat)*c;grind
 | x::s=>by
  rw[List.map_cons,Y7,Y7,Uu c s,List.length_cons]
  push_cast
  grind
theorem Hd (c:Rat) (hk:k<=s.length):tot ((srt s).take k)<=(k:Rat)*c+tot (s.map (cutP c)):=by
 have hl:=(YF s).length_eq;rw[<- V8 ((YF s).map (cutP c))];rw[<- List.take_append_drop k (srt s),List.map_append,X1,List.take_append_drop];have h1:=Uu c ((srt s).take k);have h2:tot (((srt s).take k).map fun x=>x-c)<=tot (((srt s).take k).map (cutP c)):=Va fun x _=>Gq c x;have h3:0<=tot (((srt s).drop k).map (cutP c)):=V9 fun y hy=>by
  obtain⟨x,_,rfl⟩:=List.mem_map.mp hy;exact JO c x
 rw[List.length_take,Nat.min_eq_left %[|5]] at h1;grind
theorem He (hk:k<s.length):∃ c,tot ((srt s).take (k+1))=((k+1:Nat):Rat)*c+tot (s.map (cutP c)):=by
 have hl:=(YF s).length_eq;have hk':k<(srt s).length:=by omega
 have F:List.Pairwise (fun a b=>b<=a) (srt s):=Vg s;refine⟨(srt s)[k],?_⟩;rw[<- V8 ((YF s).map (cutP _))];have h1:=Uu (srt s)[k] ((srt s).take (k+1));have up:∀ x∈(srt s).take (k+1),cutP (srt s)[k] x=x-(srt s)[k]:=fun x hx=>by
  obtain⟨j,hj,rfl⟩:=List.getElem_of_mem hx;rw[List.length_take] at hj;rw[List.getElem_take];have:(srt s)[k]<=(srt s)[j]:=by
   rcases (by omega:j=k\/j<k) with rfl|h
   ·exact Rat.le_refl
   ·exact List.pairwise_iff_getElem.mp F j k %[|5] hk' h
  unfold cutP;split<;>grind
 have dn:∀ x∈(srt s).drop (k+1),cutP (srt s)[k] x=0:=fun x hx=>by
  obtain⟨j,hj,rfl⟩:=List.getElem_of_mem hx;rw[List.length_drop] at hj;rw[List.getElem_drop];have:(srt s)[k+1+j]<=(srt s)[k]:=List.pairwise_iff_getElem.mp F k (k+1+j) hk' %[|5] %[|5];unfold cutP;rw[if_neg (by grind)]
 have e:tot ((srt s).map (cutP (srt s)[k]))=tot (((srt s).take (k+1)).map fun x=>x-(srt s)[k]):=by
  generalize (srt s)[k]=c at up dn;have e0:(srt s).map (cutP c)=((srt s).take (k+1)).map (cutP c)++((srt s).drop (k+1)).map (cutP c):=by rw[<- List.map_append,List.take_append_drop]
  rw[e0,X1];rw[List.map_congr_left (l:=(srt s).take (k+1)) up,List.map_congr_left (l:=(srt s).drop (k+1)) dn,W0];grind
 rw[e,h1,List.length_take,Nat.min_eq_left %[|5]];grind
theorem KG (hl:s.length=t.length) (h:∀ c,tot (s.map (cutP c))<=tot (t.map (cutP c))) (hi:i<t.length):ri (Y2 s) i<=ri (Y2 t) i:=by
 rw[Ue %[|5],Ue hi];obtain⟨c,hc⟩:=He hi;have:=Hd (s:=s) c (k:=i+1) %[|5];have:=h c;rw[hc];grind
theorem Ef:∀ n,n<r.length->tot (((Y0 r).map f).take n)=fs f (ri r) n
 | 0,_=>rfl
 | n+1,h=>by
  have hn:n<((Y0 r).map f).length:=by rw[List.length_map,YC];omega
  rw[List.take_succ_eq_append_getElem hn,X4,Ef n %[|5]];show _=fs f (ri r) n+f (ri r (n+1)-ri r n)
  congr 1
  simp[Y0]
theorem Eg (h:1<=r.length):tot ((Y0 r).map f)=fs f (ri r) (r.length-1):=by
 rw[<- Ef _ %[|5],List.take_of_length_le (by rw[List.length_map,YC];omega)]
structure Rival (lo hi:Nat->Rat) (r o:List Rat):Prop where
 taut:Taut lo hi (ri r) (r.length-1)
 len:o.length=r.length
 one:1<=r.length
 low:∀ k,k<r.length->lo k<=ri o k
 high:∀ k,k<r.length->ri o k<=hi k
 first:ri o 0=ri r 0
 last:ri o (r.length-1)=ri r (r.length-1)
theorem Rival.squares {lo hi:Nat->Rat} {r o:List Rat} (V:Rival lo hi r o) (h2:2<=r.length) (hne:o≠r):sqs r<sqs o:=by
 unfold sqs;rw[Eg V.one,Eg (by rw[V.len];exact V.one),V.len];have len:=V.len;rcases V.taut.sq_lt (o:=ri o) (fun k hk=>V.low k %[|5]) (fun k hk=>V.high k %[|5]) V.first V.last %[|5] with h|h
 ·exact h
 ·exact absurd (CQ V.len fun i hi'=>h i %[|5]) hne
theorem JG (h:Gs s) (h25:s.length<=25):∀ x∈Y2 s,Sz 1910 x:=fun x hx=>by
 obtain⟨i,hi,rfl⟩:=List.getElem_of_mem hx;have hi':i<s.length:=by rw[Xv] at hi;exact hi
 have e:(Y2 s)[i]=ri (Y2 s) i:=by simp[ri,List.getD,hi]
 rw[e,Ue hi'];refine h.tot (fun x hx=>(YF s).subset (List.mem_of_mem_take hx)) ?_;have:=(YF s).length_eq;rw[List.length_take];omega
theorem KB (l:M a=some (.ls (r.map nm))) (l':M b=some (.ls (s.map nm))) (q:∀ keep:Mem->Prop,(∀ M',MExt M M'->keep M')->R ((List.zip r s).map fun z=>pl z) keep M):U8 [.lst a,.lst b] M R:=by
 refine⟨_,_,l,l',?_⟩;have e:zipD (r.map nm) (s.map nm)=(List.zip r s).map fun z=>pl z:=by
  unfold zipD;rw[List.zipWith_map,List.zip,List.map_zipWith];rfl
 rw[e];exact q _ fun M' x=>⟨x _ _ l,x _ _ l'⟩
theorem GZ (hl:r.length=s.length) (h:∀ i,i<s.length->ri s i<=ri r i):∀ z∈List.zip r s,¬ z.1<z.2:=fun z hz=>by
 obtain⟨i,hi,rfl⟩:=List.getElem_of_mem hz;rw[List.length_zip] at hi;have h1:i<r.length:=by omega
 have h2:i<s.length:=by omega
 have:=h i h2;simp only[ri,List.getD,List.getElem?_eq_getElem h1,List.getElem?_eq_getElem h2,Option.getD_some] at this;rw[List.getElem_zip];grind
structure Lv where
 g:Nat
 l:Nat
 x:Rat
noncomputable def lv (v:Lv):DL.D:=.tup [.int (v.g:Int),.int (v.l:Int),nm v.x]
noncomputable def doL (v:Lv) (s:List Rat):List Rat:=(s.set v.g (ri s v.g-v.x)).set v.l (ri (s.set v.g (ri s v.g-v.x)) v.l+v.x)
theorem XN (v:Lv) (s:List Rat):(doL v s).length=s.length:=by unfold doL;rw[List.length_set,List.length_set]
theorem UD {s:List Rat} {i:Nat} {y x:Rat} (h:x∈s.set i y):x∈s\/x=y:=List.mem_or_eq_of_mem_set h
structure Can (v:Lv) (s:List Rat):Prop where
 g:v.g<s.length
 l:v.l<s.length
 pos:0<v.x
 le:v.x<=ri s v.g-ri s v.l
 sx:Sz 900 v.x
 ss:∀ y∈s,Sz 900 y
noncomputable def runL (vs:List Lv) (s:List Rat):List Rat:=vs.foldl (fun s v=>doL v s) s
theorem W4:∀ (vs:List Lv) (s:List Rat),(runL vs s).length=s.length
 | [],_=>rfl
 | v::vs,s=>by
  show (runL vs (doL v s)).length=_;rw[W4 vs,XN]
theorem W5 (vs:List Lv) (v:Lv) (s:List Rat):runL (vs++[v]) s=doL v (runL vs s):=by unfold runL;rw[List.foldl_append];rfl
noncomputable def Way (s:List Rat) (vs:List Lv):Prop:=∀ i (h:i<vs.length),Can vs[i] (runL (vs.take i) s)
theorem Way.nil (s:List Rat):Way s []:=fun i h=>absurd h (Nat.not_lt_zero i)
theorem Way.add (h:Way s vs) (c:Can v (runL vs s)):Way s (vs++[v]):=fun i hi=>by
 rw[List.length_append] at hi;by_cases q:i<vs.length
 ·rw[List.getElem_append_left q,List.take_append_of_le_length %[|5]]
  exact h i q
 ·have e:i=vs.length:=by simp at hi;omega
  subst e;rw[List.getElem_append_right %[|3],List.take_left]
  simpa using c
noncomputable def S_36:DSp:=fun ds M Q E=>∃ p s v,ds=[.lst p,lv v]/\M p=some (.ls (s.map nm))/\Can v s/\s.length<=100/\Q .non (M.upd p (.ls ((doL v s).map nm)))
noncomputable def C_36:CSs:=%[.asg (.tup %[.name 2,.name 3,.name 4|0]) (.var 1),.asg (.sub (.var 0) (.var 2)) (.call "taken" S_7 %[.ix (.var 0) (.var 2),.var 4|0]),.asg (.sub (.var 0) (.var 3)) (.call "added" S_12 %[.ix (.var 0) (.var 3),.var 4|0])|0]
theorem vc_36:∀ ds M R E,S_36 ds M R E->rSs C_36 (ends R E) (Y1 5 ds) M:=by
 rintro ds M R E ⟨p,s,v,rfl,l,c,hl,q⟩;have c1:=c.g;have c2:=c.l;have c5:=c.sx;have c6:=c.ss;rw[show lv v=.tup [.int (v.g:Int),.int (v.l:Int),nm v.x] from rfl];unfold C_36;sleep 7;sleep 7;refine Yo (v:=nm (ri s v.g)) l (Yz (WD c1)) ?_;refine⟨_,_,rfl,.mk (c6 _ (Yh c1)) c5 %[|4],?_⟩;sleep 8;refine⟨_,l,v.g,by simp[L2.ixN];omega,?_⟩;rw[<- List.map_set];have h1:v.l<(s.set v.g (ri s v.g-v.x)).length:=by rw[List.length_set];exact c2
 have s1:∀ y∈s.set v.g (ri s v.g-v.x),Sz 1810 y:=fun y hy=>by
  rcases UD hy with hy|rfl
  ·exact (c6 y hy).mono %[|4]
  ·exact ((c6 _ (Yh c1)).sub c5).mono %[|4]
 have q':R .non ((M.upd p (.ls ((s.set v.g (ri s v.g-v.x)).map nm))).upd p (.ls (((s.set v.g (ri s v.g-v.x)).set v.l (ri (s.set v.g (ri s v.g-v.x)) v.l+v.x)).map nm))):=by rw[Ds];exact q
 generalize s.set v.g (ri s v.g-v.x)=s' at h1 s1 q';have l1:(M.upd p (.ls (s'.map nm))) p=some (.ls (s'.map nm)):=mupd_same;generalize M.upd p (.ls (s'.map nm))=M' at l1 q';sleep 7;refine Yo (v:=nm (ri s' v.l)) l1 (Yz (WD h1)) ?_;refine⟨_,_,rfl,.mk (s1 _ (Yh h1)) c5 %[|4],?_⟩;sleep 8;refine⟨_,l1,v.l,by simp[L2.ixN];omega,?_⟩;rw[<- List.map_set];exact q'
noncomputable def canB (v:Lv) (s:List Rat):Bool:=decide (v.g<s.length)&&decide (v.l<s.length)&&decide (0<v.x)&&decide (v.x<=ri s v.g-ri s v.l)
theorem canB_iff:canB v s=true ↔ v.g<s.length/\v.l<s.length/\0<v.x/\v.x<=ri s v.g-ri s v.l:=by
 unfold canB;simp[and_assoc]
noncomputable def walkP:List Rat->List Lv->Option (List Rat)
 | s,[]=>some s
 | s,v::vs=>if canB v s=true then walkP (doL v s) vs else none
theorem XD:∀ {a b:List Lv} {s r:List Rat},walkP s a=some r->walkP s (a++b)=walkP r b
 | [],b,s,r,h=>by cases h;rfl
 | v::a,b,s,r,h=>by
  unfold walkP at h;split at h
  ·rename_i c
   rw[List.cons_append,show walkP s (v::(a++b))=(if canB v s=true then walkP (doL v s) (a++b) else none) from rfl,if_pos c];exact XD h
  ·cases h
theorem VT:∀ {a:List Lv} {s r:List Rat},walkP s a=some r->r.length=s.length
 | [],s,r,h=>by cases h;rfl
 | v::a,s,r,h=>by
  unfold walkP at h;split at h
  ·rw[VT h,XN]
  ·cases h
theorem Way.walkP:∀ {vs:List Lv},Way s vs->∀ i,i<=vs.length->K.walkP s (vs.take i)=some (runL (vs.take i) s):=by
 intro vs W i
 induction i with
 | zero=>intro _;rfl
 | succ i ih =>
  intro h;have e:=ih %[|5];have c:=W i %[|5];have tk:vs.take (i+1)=vs.take i++[vs[i]]:=List.take_succ_eq_append_getElem %[|5];rw[tk,XD e,W5];unfold K.walkP;rw[if_pos (canB_iff.mpr ⟨c.g,c.l,c.pos,c.le⟩)]
  rfl
noncomputable def S_38:DSp:=fun ds M Q E=>∃ p s v,ds=[.lst p,lv v]/\M p=some (.ls (s.map nm))/\Sz 900 v.x/\v.g<100/\v.l<100/\(∀ y∈s,Sz 900 y)/\s.length<=100/\Q (.bl (canB v s)) M
noncomputable def C_38:CSs:=%[.ife (.or (.not (.bi .isinstance %[.var 1,.ty .tuple|0])) (.one (.cmp .NotEq (.bi .len %[.var 1|0]) (.int 3)))) %[.ret (.bl false)|0] .nil,.asg (.tup %[.name 2,.name 3,.name 4|0]) (.var 1),.ife (.or (.not (.call "is_whole" S_15 %[.var 2|0])) (.or (.not (.call "is_whole" S_15 %[.var 3|0])) (.one (.not (.call "is_number" S_16 %[.var 4|0]))))) %[.ret (.bl false)|0] .nil,.ife (.or (.not (.chain .LtE .Lt (.int 0) (.var 2) (.bi .len %[.var 0|0]))) (.one (.not (.chain .LtE .Lt (.int 0) (.var 3) (.bi .len %[.var 0|0]))))) %[.ret (.bl false)|0] .nil,.ret (.and (.call "is_less" S_4 %[.glo "NOUGHT" Wl,.var 4|0]) (.one (.not (.call "is_less" S_4 %[.call "taken" S_7 %[.ix (.var 0) (.var 2),.ix (.var 0) (.var 3)|0],.var 4|0]))))|0]
theorem vc_38:∀ ds M R E,S_38 ds M R E->rSs C_38 (ends R E) (Y1 5 ds) M:=by
 rintro ds M R E ⟨p,s,v,rfl,l,c5,_,_,c6,hl,q⟩;obtain⟨g,k,x⟩:=v;dsimp only at c5;rw[show lv ⟨g,k,x⟩=.tup [.int (g:Int),.int (k:Int),nm x] from rfl];unfold C_38;sleep 7;refine YO true ?_;simp;sleep 7;sleep 7;refine⟨_,"int",rfl,rfl,?_⟩;simp;refine⟨_,"int",rfl,rfl,?_⟩;simp;refine⟨_,rfl,gnm c5,?_⟩;rw[Wd];simp;sleep 7;have no:¬ (g<s.length/\k<s.length/\0<x/\x<=ri s g-ri s k)->R (.bl false) M:=fun z=>by
  have:canB ⟨g,k,x⟩ s=false:=by rw[<- Bool.not_eq_true,canB_iff];exact z
  rwa [this] at q
 refine⟨_,l,?_⟩;rw[List.length_map];by_cases c1:g<s.length
 ·rw[if_pos c1]
  refine⟨_,l,?_⟩;rw[List.length_map];by_cases c2:k<s.length
  ·rw[if_pos c2]
   sleep 7;refine⟨0,x,rfl,.mk (show Sz 1 (0:Rat) from ⟨by decide,by decide⟩) c5 %[|4],?_⟩;by_cases c3:0<x
   ·rw[decide_eq_true c3]
    simp;refine Yo (v:=nm (ri s g)) l (Yz (WD c1)) ?_;refine Yo (v:=nm (ri s k)) l (Yz (WD c2)) ?_;refine⟨_,_,rfl,.mk (c6 _ (Yh c1)) (c6 _ (Yh c2)) %[|4],?_⟩;refine⟨_,_,rfl,.mk ((c6 _ (Yh c1)).sub (c6 _ (Yh c2))) c5 %[|4],?_⟩;by_cases c7:ri s g-ri s k<x
    ·rw[decide_eq_true c7]
     simpa using no fun z=>by have:=z.2.2.2;grind
    ·rw[decide_eq_false c7]
     have:canB ⟨g,k,x⟩ s=true:=canB_iff.mpr ⟨c1,c2,c3,by show x<=ri s g-ri s k;grind⟩;rw[this] at q
     simpa using q
   ·rw[decide_eq_false c3]
    simpa using no fun z=>c3 z.2.2.1
  ·rw[if_neg c2]
   sleep 7;exact no fun z=>c2 z.2.1
 ·rw[if_neg c1]
  sleep 7;exact no fun z=>c1 z.1
structure SzR (s:List Rat) (vs:List Lv):Prop where
 x:∀ v∈vs,Sz 900 v.x/\v.g<100/\v.l<100
 r:∀ i,i<vs.length->∀ r,walkP s (vs.take i)=some r->∀ y∈r,Sz 900 y
noncomputable def S_39:DSp:=fun ds M Q E=>∃ (s:List Rat) (f:DL.D),ds=[rw s,f]/\(∀ y∈s,Sz 900 y)/\1<=s.length/\s.length<=24/\((f=.non/\∀ M',MExt M M'->E (.exc "NoLevel" .non) M')\/∃ vs:List Lv,f=.tup (vs.map lv)/\SzR s vs/\(∀ r,walkP s vs=some r->∀ M',MExt M M'->Q (rw r) M')/\(walkP s vs=none->∀ (i:Nat) M',MExt M M'->E (.exc "NoLevel" (.int i)) M'))
theorem XI (s1:1<=s.length) (s24:s.length<=24):Yf 1 24 (rw s)=true:=by
 have hl:(s.map nm).length=s.length:=List.length_map ..;have ha:(s.map nm).all YU=true:=List.all_eq_true.mpr fun d hd=>by
  obtain⟨x,_,rfl⟩:=List.mem_map.mp hd;exact Wd x
 show (decide ((1:Int)<=((s.map nm).length:Int))&&decide (((s.map nm).length:Int)<=24)&&(s.map nm).all YU)=true;rw[ha,hl,decide_eq_true (show (1:Int)<=s.length by omega),decide_eq_true (show (s.length:Int)<=24 by omega)];rfl
theorem HW (W:Way s vs) (sz:∀ y∈s,Sz 900 y) (s1:1<=s.length) (s24:s.length<=24) (q:∀ M',MExt M M'->Q (rw (runL vs s)) M'):S_39 [rw s,.tup (vs.map lv)] M Q E:=by
 have e:=W.walkP vs.length %[|3];rw[List.take_length] at e;have rl:=fun i=>W4 (vs.take i) s;refine⟨s,_,rfl,sz,s1,s24,.inr ⟨vs,rfl,⟨fun v hv=>?_,fun i hi r hr=>?_⟩,fun r hr=>?_,fun h=>?_⟩⟩
 ·obtain⟨i,hi,rfl⟩:=List.getElem_of_mem hv
  have c:=W i hi;have:=rl i;exact⟨c.sx,by have:=c.g;omega,by have:=c.l;omega⟩
 ·rw[W.walkP i %[|5]] at hr
  cases hr;exact (W i hi).ss
 ·rw[e] at hr;cases hr;exact q
 ·rw[e] at h;cases h
noncomputable def C_39:CSs:=%[.expr (.call "want_steps" S_37 %[.var 0|0]),.ife (.not (.bi .isinstance %[.var 1,.ty .tuple|0])) %[.rsi "NoLevel" %[.non|0]|0] .nil,.set 2 (.bi .list %[.var 0|0]),.fr (.tup %[.name 3,.name 4|0]) (.enum %[.var 1|0]) %[.ife (.not (.call "can_be_done" S_38 %[.var 2,.var 4|0])) %[.rsi "NoLevel" %[.var 3|0]|0] .nil,.expr (.call "walk" S_36 %[.var 2,.var 4|0])|0],.ret (.bi .tuple %[.var 2|0])|0]
theorem vc_39:∀ ds M R E,S_39 ds M R E->rSs C_39 (ends R E) (Y1 5 ds) M:=by
 rintro ds M R E ⟨s,f,rfl,sz,s1,s24,⟨rfl,q⟩|⟨vs,rfl,SZ,q1,q2⟩⟩
 ·unfold C_39
  sleep 7;refine⟨_,rfl,XQ sz %[|4],fun M1 x1=>?_⟩;rw[if_pos (XI s1 s24)];sleep 7;sleep 7
  (try simp only[WZ])
  sleep 8;exact q M1 x1
 ·unfold C_39
  sleep 7;refine⟨_,rfl,XQ sz %[|4],fun M1 x1=>?_⟩;rw[if_pos (XI s1 s24)];sleep 7;sleep 7;intro p M2 e2 x2 l2;have ep:M p=none:=MExt.none x1 e2
  (try dsimp only);rw[Ye];simp[0,vAt,vHd,Y3,and_assoc,sizeLine_eq,Yd,Z1,Yn,dFld,Zr,Zs,Zq,dFor,VF,Vx]
  refine Yv (fun i δ M'=>∃ (r:List Rat) (w3 w4:Option DL.D),walkP s (vs.take i)=some r/\MExt M M'/\M' p=some (.ls (r.map nm))/\δ=[some (rw s),some (.tup (vs.map lv)),some (.lst p),w3,w4]) (fun _ _ _ _=>trivial) ?_ ?_ ⟨s,_,_,rfl,x1.trans x2,l2,rfl⟩
  ·rintro δ M' ⟨r,w3,w4,hr,x,l,rfl⟩
   rw[show (enD (vs.map lv)).length=vs.length by unfold enD;simp,List.take_length] at hr;sleep 7;exact⟨_,l,q1 r hr M' x⟩
  ·rintro i y hy N hN δ M' ⟨r,w3,w4,hr,x,l,rfl⟩
   obtain⟨hi,rfl⟩:∃ hi:i<vs.length,y=.tup [.int (i:Int),lv vs[i]]:=by
    obtain⟨h,e⟩:=List.getElem?_eq_some_iff.mp hy;have h':i<vs.length:=by simpa[enD] using h
    exact⟨h',by rw[<- e];simp[enD]⟩
   have sr:=SZ.r i hi r hr;obtain⟨sx,sg,sl⟩:=SZ.x _ (List.getElem_mem hi);have rl:=VT hr;have tk:vs.take (i+1)=vs.take i++[vs[i]]:=List.take_succ_eq_append_getElem hi;have all:vs=vs.take i++vs[i]::vs.drop (i+1):=by rw[List.getElem_cons_drop_succ_eq_drop hi,List.take_append_drop]
   sleep 8;sleep 7;refine⟨p,r,_,rfl,l,sx,sg,sl,sr,by omega,?_⟩;cases c:canB vs[i] r with
   | true =>
    obtain⟨h1,h2,h3,h4⟩:=canB_iff.mp c;simp;sleep 7;refine⟨p,r,_,rfl,l,⟨h1,h2,h3,h4,sx,sr⟩,by omega,?_⟩;refine hN _ _ ⟨_,_,_,?_,MExt.upd_new ep x,mupd_same,rfl⟩;rw[tk,XD hr];unfold walkP;rw[if_pos c]
    rfl
   | false =>
    simp;sleep 7
    (try simp only[WZ])
    sleep 8;refine q2 ?_ i M' x;rw[all,XD hr];unfold walkP;rw[c,if_neg %[|4]]
noncomputable def pat (ps:List Nat) (k:Nat):Nat:=ps.getD k 0
noncomputable def al (ps:List Nat) (s:List Rat) (k:Nat):Rat:=ri s (pat ps k)
structure Pls (n:Nat) (ps:List Nat):Prop where
 len:ps.length=n
 lt:∀ k,k<n->pat ps k<n
 inj:∀ i j,i<n->j<n->pat ps i=pat ps j->i=j
 sur:∀ m,m<n->∃ k,k<n/\pat ps k=m
theorem Hy (p:ps.Perm (List.range n)):Pls n ps:=by
 have len:ps.length=n:=by rw[p.length_eq,List.length_range]
 have nd:ps.Nodup:=p.nodup_iff.mpr List.nodup_range;have gd:∀ k (h:k<ps.length),pat ps k=ps[k]:=fun k h=>by simp[pat,List.getD,h]
 refine⟨len,fun k hk=>?_,fun i j hi hj e=>?_,fun m hm=>?_⟩
 ·rw[gd k %[|5]]
  exact List.mem_range.mp (p.subset (List.getElem_mem _))
 ·rw[gd i %[|5],gd j %[|5]] at e
  exact (List.getElem_inj nd).mp e
 ·have:=p.symm.subset (List.mem_range.mpr hm)
  obtain⟨k,hk,e⟩:=List.getElem_of_mem this;exact⟨k,by omega,by rw[gd k hk];exact e⟩
theorem Z3 (h:i≠j):ri (s.set i y) j=ri s j:=by
 unfold ri;simp only[List.getD,List.getElem?_set_ne h]
theorem U1 {s:List Rat} {i:Nat} {y:Rat} (h:i<s.length):ri (s.set i y) i=y:=by
 unfold ri;simp[List.getD,h]
theorem Hm (hg:g<s.length) (hl:l<s.length) (ne:g≠l) (j:Nat):ri (doL ⟨g,l,x⟩ s) j=if j=g then ri s g-x else if j=l then ri s l+x else ri s j:=by
 unfold doL;dsimp only;by_cases c1:j=l
 ·subst c1
  rw[if_neg (Ne.symm ne),if_pos rfl,U1 (by rw[List.length_set];exact hl),Z3 ne]
 ·rw[Z3 (Ne.symm c1),if_neg c1]
  by_cases c2:j=g
  ·subst c2
   rw[if_pos rfl,U1 hg]
  ·rw[if_neg c2,Z3 (Ne.symm c2)]
theorem AG (P:Pls n ps) (hn:s.length=n) (hg:g<n) (hl:l<n) (ne:g≠l) (hj:j<n):al ps (doL ⟨pat ps g,pat ps l,x⟩ s) j=if j=g then al ps s g-x else if j=l then al ps s l+x else al ps s j:=by
 unfold al;rw[Hm (by have:=P.lt g hg;omega) (by have:=P.lt l hl;omega) (fun e=>ne (P.inj g l hg hl e))];by_cases c1:j=g
 ·subst c1;rw[if_pos rfl,if_pos rfl]
 ·rw[if_neg (fun e=>c1 (P.inj j g hj hg e)),if_neg c1]
  by_cases c2:j=l
  ·subst c2;rw[if_pos rfl,if_pos rfl]
  ·rw[if_neg (fun e=>c2 (P.inj j l hj hl e)),if_neg c2]
noncomputable def pre (f:Nat->Rat):Nat->Rat
 | 0=>0
 | k+1=>pre f k+f k
theorem Wp:∀ {k:Nat},(∀ i,i<k->f i=g i)->pre f k=pre g k
 | 0,_=>rfl
 | k+1,h=>by
  unfold pre;rw[Wp fun i hi=>h i %[|5],h k %[|5]]
theorem B0 (f g:Nat->Rat):∀ k,pre (fun i=>f i-g i) k=pre f k-pre g k
 | 0=>by unfold pre;grind
 | k+1=>by
  have:=B0 f g k;unfold pre;grind
theorem AY (gl:g<l) (h1:f' g=f g-x) (h2:f' l=f l+x) (h3:∀ i,i≠g->i≠l->f' i=f i):∀ k,pre f' k=if g<k/\k<=l then pre f k-x else pre f k
 | 0=>by rw[if_neg %[|5]];rfl
 | k+1=>by
  have ih:=AY gl h1 h2 h3 k;unfold pre;rw[ih];rcases (by omega:k<g\/k=g\/(g<k/\k<l)\/k=l\/l<k) with c|c|c|c|c
  ·rw[if_neg %[|5],if_neg %[|5],h3 k %[|5] %[|5]]
  ·subst c
   rw[if_neg %[|5],if_pos %[|5],h1];grind
  ·rw[if_pos %[|5],if_pos %[|5],h3 k %[|5] %[|5]];grind
  ·subst c
   rw[if_pos %[|5],if_neg %[|5],h2];grind
  ·rw[if_neg %[|5],if_neg %[|5],h3 k %[|5] %[|5]]
theorem Vo:∀ b,a<=b->(∀ i,a<=i->i<b->f i=0)->pre f b=pre f a
 | 0,h,_=>by rw[show a=0 by omega]
 | b+1,h,z=>by
  rcases (by omega:a=b+1\/a<=b) with rfl|c
  ·rfl
  ·show pre f b+f b=pre f a
   rw[Vo b c fun i h1 h2=>z i h1 %[|5],z b c %[|5]];grind
theorem D4:∀ b,a<=b->(∀ i,a<=i->i<b->f i<=0)->pre f b<=pre f a
 | 0,h,_=>by rw[show a=0 by omega];exact Rat.le_refl
 | b+1,h,z=>by
  rcases (by omega:a=b+1\/a<=b) with rfl|c
  ·exact Rat.le_refl
  ·have:=D4 b c fun i h1 h2=>z i h1 %[|5]
   have:=z b c %[|5];show pre f b+f b<=pre f a;grind
theorem Jp:∀ b,(∀ i,i<b->f i<=0)->pre f b=0->∀ i,i<b->f i=0
 | 0,_,_,i,h=>by omega
 | b+1,z,e,i,h=>by
  have l:=D4 (f:=f) (a:=0) b %[|5] fun i _ h2=>z i %[|5];have l0:pre f 0=0:=rfl;have zb:=z b %[|5];unfold pre at e;rcases (by omega:i<b\/i=b) with c|rfl
  ·exact Jp b (fun i hi=>z i %[|5]) (by grind) i c
  ·grind
theorem VA (l0:0<L) (hy:Gr L B y) (hz:Gr L B z) (hx:∃ C,Gr L C x) (h1:y<=x) (h2:x<=z):Gr L B x:=by
 obtain⟨m,rfl,hm⟩:=hy;obtain⟨k,rfl,hk⟩:=hz;obtain⟨C,n,rfl,_⟩:=hx;have le:∀ a b:Int,Rat.divInt a (L:Int)<=Rat.divInt b (L:Int)->a<=b:=fun a b h=>by
  rw[Rat.divInt_eq_div,Rat.divInt_eq_div] at h;have lp:(0:Rat)<((L:Int):Rat):=by exact_mod_cast (show (0:Int)<L by omega)
  have:=Rat.mul_le_mul_of_nonneg_right h (Rat.le_of_lt lp);rw[Rat.div_mul_cancel (by grind),Rat.div_mul_cancel (by grind)] at this
  exact_mod_cast this
 have a:=le _ _ h1;have b:=le _ _ h2;exact⟨n,rfl,by omega⟩
structure Ev (n:Nat) (ps:List Nat) (t a:List Rat) (L B:Nat):Prop where
 len:a.length=n
 dom:∀ k,k<=n->0<=pre (fun i=>al ps a i-al ps t i) k
 fin:pre (fun i=>al ps a i-al ps t i) n=0
 gr:∀ x∈a,Gr L B x
structure Aim (n:Nat) (ps:List Nat) (t:List Rat) (L B:Nat):Prop where
 P:Pls n ps
 len:t.length=n
 fall:∀ i j,i<=j->j<n->al ps t j<=al ps t i
 gr:∀ x∈t,Gr L B x
 l0:0<L
 hL:L<2 ^ 850
 hB:B<2 ^ 850
structure Eve (n:Nat) (ps:List Nat) (t a:List Rat) (g l:Nat):Prop where
 gl:g<l
 ln:l<n
 up:al ps t g<al ps a g
 low:al ps a l<al ps t l
 mid:∀ i,g<i->i<l->al ps a i=al ps t i
noncomputable def amt (ps:List Nat) (t a:List Rat) (g l:Nat):Rat:=if al ps a g-al ps t g<al ps t l-al ps a l then al ps a g-al ps t g else al ps t l-al ps a l
noncomputable def evL (ps:List Nat) (t a:List Rat) (g l:Nat):Lv:=⟨pat ps g,pat ps l,amt ps t a g l⟩
section
variable {n:Nat} {ps:List Nat} {t a:List Rat} {L B g l:Nat}
theorem Zn (P:Pls n ps) (hn:a.length=n) (hk:k<n):al ps a k∈a:=Yh (by have:=P.lt k hk;omega)
theorem Eve.x (E:Eve n ps t a g l):0<amt ps t a g l/\amt ps t a g l<=al ps a g-al ps t g/\amt ps t a g l<=al ps t l-al ps a l:=by
 have u:=E.up;have w:=E.low;unfold amt;split<;>refine⟨?_,?_,?_⟩<;>grind
theorem szL (A:Aim n ps t L B) (h:Gr L C x) (hC:C<2 ^ 900):Sz 900 x:=h.sz A.l0 (Nat.lt_of_lt_of_le A.hL (Ys %[|4])) hC
theorem Eve.can (A:Aim n ps t L B) (V:Ev n ps t a L B) (E:Eve n ps t a g l):Can (evL ps t a g l) a:=by
 have P:=A.P;have hg:g<n:=by have:=E.gl;have:=E.ln;omega
 have hl:=E.ln;have len:=V.len;obtain⟨x0,x1,x2⟩:=E.x;have f:=A.fall g l (by have:=E.gl;omega) hl;have hb2:B+B<2 ^ 900:=by
  have:=A.hB;have:(2:Nat) ^ 850+2 ^ 850<2 ^ 900:=by decide +kernel
  omega
 refine⟨by have:=P.lt g hg;show pat ps g<a.length;omega,by have:=P.lt l hl;show pat ps l<a.length;omega,x0,?_,?_,fun y hy=>szL A (V.gr y hy) %[|5]⟩
 ·show amt ps t a g l<=al ps a g-al ps a l
  grind
 ·have g1:=(V.gr _ (Zn P len hg)).sub A.l0 (A.gr _ (Zn P A.len hg))
  have g2:=(A.gr _ (Zn P A.len hl)).sub A.l0 (V.gr _ (Zn P len hl));show Sz 900 (amt ps t a g l);unfold amt;split
  ·exact szL A g1 hb2
  ·exact szL A g2 hb2
theorem Eve.al (A:Aim n ps t L B) (V:Ev n ps t a L B) (E:Eve n ps t a g l) (hj:j<n):al ps (doL (evL ps t a g l) a) j=if j=g then al ps a g-amt ps t a g l else if j=l then al ps a l+amt ps t a g l else al ps a j :=
 AG A.P V.len (by have:=E.gl;have:=E.ln;omega) E.ln (by have:=E.gl;omega) hj
theorem Eve.next (A:Aim n ps t L B) (V:Ev n ps t a L B) (E:Eve n ps t a g l):Ev n ps t (doL (evL ps t a g l) a) L B:=by
 have P:=A.P;have gl:=E.gl;have hl:=E.ln;have hg:g<n:=by omega
 have len:=V.len;obtain⟨x0,x1,x2⟩:=E.x;have AL:=fun {j} hj=>E.al A V (j:=j) hj;have dl:(doL (evL ps t a g l) a).length=n:=by rw[XN];exact len
 have key:∀ k,k<=n->pre (fun i=>K.al ps (doL (evL ps t a g l) a) i-K.al ps t i) k=if g<k/\k<=l then pre (fun i=>K.al ps a i-K.al ps t i) k-amt ps t a g l else pre (fun i=>K.al ps a i-K.al ps t i) k:=by
  intro k hk;have e:=AY (f:=fun i=>K.al ps a i-K.al ps t i) (f':=fun i=>if i=g then K.al ps a g-K.al ps t g-amt ps t a g l else if i=l then K.al ps a l-K.al ps t l+amt ps t a g l else K.al ps a i-K.al ps t i) (x:=amt ps t a g l) gl (by simp) (by rw[if_neg %[|5],if_pos rfl]) (fun i h1 h2=>by rw[if_neg h1,if_neg h2]) k;rw[<- e];refine Wp fun i hi=>?_;rw[AL (show i<n by omega)];by_cases c1:i=g
  ·subst c1;rw[if_pos rfl,if_pos rfl];grind
  ·rw[if_neg c1,if_neg c1]
   by_cases c2:i=l
   ·subst c2;rw[if_pos rfl,if_pos rfl];grind
   ·rw[if_neg c2,if_neg c2]
 refine⟨dl,fun k hk=>?_,?_,fun y hy=>?_⟩
 ·rw[key k hk]
  split
  ·rename_i c
   have s:=Vo (f:=fun i=>K.al ps a i-K.al ps t i) (a:=g+1) k %[|5] fun i h1 h2=>by
    have:=E.mid i %[|5] %[|5];grind
   have d:=V.dom g %[|5];rw[s];unfold pre;grind
  ·exact V.dom k hk
 ·rw[key n %[|3],if_neg %[|5]];exact V.fin
 ·obtain⟨m,hm,rfl⟩:=List.getElem_of_mem hy
  obtain⟨k,hk,e⟩:=P.sur m %[|5];have ey:(doL (evL ps t a g l) a)[m]=K.al ps (doL (evL ps t a g l) a) k:=by
   unfold K.al ri;rw[e];simp[List.getD,hm]
  rw[ey,AL hk];have gag:=V.gr _ (Zn P len hg);have gal:=V.gr _ (Zn P len hl);have gtg:=A.gr _ (Zn P A.len hg);have gtl:=A.gr _ (Zn P A.len hl);have ga:∃ C,Gr L C (amt ps t a g l):=by
   unfold amt;split
   ·exact⟨_,gag.sub A.l0 gtg⟩
   ·exact⟨_,gtl.sub A.l0 gal⟩
  obtain⟨C,ga⟩:=ga;split
  ·exact VA A.l0 gtg gag ⟨_,gag.sub A.l0 ga⟩ (by grind) (by grind)
  ·split
   ·exact VA A.l0 gal gtl ⟨_,gal.add A.l0 ga⟩ (by grind) (by grind)
   ·exact V.gr _ (Zn P len hk)
end
noncomputable def offN (n:Nat) (ps:List Nat) (t a:List Rat):Nat:=((List.range n).map fun k=>decide (al ps a k≠al ps t k)).count true
theorem JP (h:∀ k,k<n->g k=true->f k=true) (hj:j<n) (fj:f j=true) (gj:g j=false):((List.range n).map g).count true<((List.range n).map f).count true:=by
 have le:∀ m,m<=n->((List.range m).map g).count true<=((List.range m).map f).count true/\(j<m->((List.range m).map g).count true<((List.range m).map f).count true):=by
  intro m
  induction m with
  | zero=>intro _;exact⟨Nat.le_refl _,fun h=>by omega⟩
  | succ m ih =>
   intro hm;obtain⟨i1,i2⟩:=ih %[|5];simp only[List.range_succ,List.map_append,List.count_append,List.map_cons,List.map_nil];have hm':=h m %[|5];have c1:∀ b:Bool,[b].count true=if b=true then 1 else 0:=fun b=>by cases b<;>rfl
   rw[c1,c1];constructor
   ·cases hg:g m with
    | false=>simp;omega
    | true=>rw [hm' hg];simp;omega
   ·intro hj'
    rcases (by omega:j<m\/j=m) with q|rfl
    ·have:=i2 q
     cases hg:g m with
     | false=>simp;omega
     | true=>rw [hm' hg];simp;omega
    ·rw[fj,gj];simp;omega
 exact (le n %[|3]).2 hj
theorem FC (n:Nat) (ps:List Nat) (t a:List Rat):offN n ps t a<=n:=by
 unfold offN;have:=List.count_le_length (a:=true) (l:=(List.range n).map fun k=>decide (al ps a k≠al ps t k))
 simpa using this
theorem Eve.less (A:Aim n ps t L B) (V:Ev n ps t a L B) (E:Eve n ps t a g l):offN n ps t (doL (evL ps t a g l) a)<offN n ps t a:=by
 have gl:=E.gl;have hl:=E.ln;have hg:g<n:=by omega
 have up:=E.up;have low:=E.low;have imp:∀ k,k<n->decide (K.al ps (doL (evL ps t a g l) a) k≠K.al ps t k)=true->decide (K.al ps a k≠K.al ps t k)=true:=by
  intro k hk h;rw[E.al A V hk] at h;simp only[decide_eq_true_eq] at h ⊢;by_cases c1:k=g
  ·subst c1;grind
  ·rw[if_neg c1] at h
   by_cases c2:k=l
   ·subst c2;grind
   ·rw[if_neg c2] at h;exact h
 unfold offN;by_cases c:K.al ps a g-K.al ps t g<K.al ps t l-K.al ps a l
 ·refine JP imp hg (by simp only[decide_eq_true_eq];grind) ?_
  rw[E.al A V hg,if_pos rfl];unfold amt;rw[if_pos c,decide_eq_false_iff_not];grind
 ·refine JP imp hl (by simp only[decide_eq_true_eq];grind) ?_
  rw[E.al A V hl,if_neg %[|5],if_pos rfl];unfold amt;rw[if_neg c,decide_eq_false_iff_not];grind
theorem Ev.done (A:Aim n ps t L B) (V:Ev n ps t a L B) (h:∀ i,i<n->al ps a i<=al ps t i):a=t:=by
 have z:=Jp (f:=fun i=>al ps a i-al ps t i) n (fun i hi=>by have:=h i hi;grind) V.fin;have len:=V.len;have tl:=A.len;refine CQ %[|5] fun m hm=>?_;obtain⟨k,hk,e⟩:=A.P.sur m %[|5];have:=z k hk;unfold al at this;rw[e] at this;grind
theorem Ev.lack (V:Ev n ps t a L B) (hg:g<n) (up:al ps t g<al ps a g) (h:∀ i,g<i->i<n->al ps a i=al ps t i):False:=by
 have s:=Vo (f:=fun i=>al ps a i-al ps t i) (a:=g+1) n %[|5] fun i h1 h2=>by have:=h i %[|5] h2;grind
 have d:=V.dom g %[|5];have f:=V.fin;rw[s] at f;unfold pre at f;grind
theorem Vk (vs ws:List Lv) (s:List Rat):runL (vs++ws) s=runL ws (runL vs s):=by unfold runL;rw[List.foldl_append]
theorem Way.app (h:Way s vs):∀ {ws:List Lv},Way (runL vs s) ws->Way s (vs++ws):=by
 intro ws h2 i hi;by_cases q:i<vs.length
 ·rw[List.getElem_append_left q,List.take_append_of_le_length %[|5]]
  exact h i q
 ·have hi':i-vs.length<ws.length:=by rw[List.length_append] at hi;omega
  rw[List.getElem_append_right %[|5],List.take_append,List.take_of_length_le %[|5],Vk];exact h2 (i-vs.length) hi'
noncomputable def PG (s:List Rat) (vs:List Lv) (L B:Nat):Prop:=∀ i,i<=vs.length->∀ x∈runL (vs.take i) s,Gr L B x
theorem PG.nil {s:List Rat} {L B:Nat} (h:∀ x∈s,Gr L B x):PG s [] L B:=fun i _ x hx=>h x (by simpa[runL] using hx)
theorem PG.add {s:List Rat} {vs:List Lv} {v:Lv} {L B:Nat} (p:PG s vs L B) (h:∀ x∈runL (vs++[v]) s,Gr L B x):PG s (vs++[v]) L B:=fun i hi x hx=>by
 rw[List.length_append] at hi;by_cases c:i<=vs.length
 ·rw[List.take_append_of_le_length c] at hx
  exact p i c x hx
 ·rw[List.take_of_length_le (by simp at hi ⊢;omega)] at hx
  exact h x hx
theorem PG.app {s:List Rat} {vs ws:List Lv} {L B:Nat} (p:PG s vs L B) (q:PG (runL vs s) ws L B):PG s (vs++ws) L B:=fun i hi x hx=>by
 rw[List.length_append] at hi;by_cases c:i<=vs.length
 ·rw[List.take_append_of_le_length c] at hx
  exact p i c x hx
 ·rw[List.take_append,List.take_of_length_le %[|5],Vk] at hx
  exact q (i-vs.length) %[|5] x hx
structure Leads (s t:List Rat):Prop where
 dom:∀ i,i<s.length->ri (Y2 t) i<=ri (Y2 s) i
 fin:ri (Y2 s) (s.length-1)=ri (Y2 t) (s.length-1)
noncomputable def S_49:DSp:=fun ds M Q E=>∃ s t,ds=[rw s,rw t]/\Gs s/\Gs t/\s.length=t.length/\1<=s.length/\s.length<=24/\∀ (b:Bool) M',(b=true ↔ Leads s t)->MExt M M'->Q (.bl b) M'
noncomputable def C_49:CSs:=%[.par 2 3 (.call "sums_of_greatest" S_45 %[.var 0|0]) (.call "sums_of_greatest" S_45 %[.var 1|0]),.ret (.and (.cmp .Eq (.ix (.var 2) (.neg (.int 1))) (.ix (.var 3) (.neg (.int 1)))) (.one (.not (.bi .any %[.comp ["steps","aim","sums","wanted","one","other"] 2 (.tup %[.name 4,.name 5|0]) (.zip %[.var 2,.var 3|0]) (.call "is_less" S_4 %[.var 4,.var 5|0])|0]))))|0]
theorem vc_49:∀ ds M R E,S_49 ds M R E->rSs C_49 (ends R E) (Y1 4 ds) M:=by
 rintro ds M R E ⟨s,t,rfl,gs,gt,hl,h1,h24,q⟩;have l1:=Xv s;have l2:=Xv t;unfold C_49;sleep 7;refine⟨s,rfl,gs,by omega,fun p1 M1 e1 x1 m1=>?_⟩;refine⟨t,rfl,gt,by omega,fun p2 M2 e2 x2 m2=>?_⟩;have m1':=x2 _ _ m1;sleep 7;refine Yo m1' (WS %[|5]) ?_;refine Yo m2 (WS %[|5]) ?_;refine Wi false ?_;rw[l1,l2,<- hl];by_cases c:ri (Y2 s) (s.length-1)=ri (Y2 t) (s.length-1)
 ·simp[c]
  refine YJ (List.zip (Y2 s) (Y2 t)) pl (fun z=>.bl (decide (z.1<z.2))) ?_ (by rw[List.length_zip];omega) ?_ ?_
  ·intro R' r'
   simp only[0,vAt,vHd,Y3,and_assoc,sizeLine_eq,Yd,Z1,Yn,dFld,Zr,Zs,Zq,Z1];exact KB m1' m2 r'
  ·intro z hz l M' R' hl' e r'
   obtain⟨u1,u2,rfl⟩:=len2 hl';obtain⟨a,b⟩:=z;have ha:=JG gs %[|5] a (List.of_mem_zip hz).1;have hb:=JG gt %[|5] b (List.of_mem_zip hz).2;sleep 8;exact⟨_,_,rfl,.mk ha hb %[|4],r' [_,_] M' rfl (.refl _)⟩
  intro p3 M3 e3 x3 m3;refine VM (f:=fun z:Rat×Rat=>decide (z.1<z.2)) m3 ?_;have iff:(!(List.zip (Y2 s) (Y2 t)).any fun z=>decide (z.1<z.2))=true ↔ Leads s t:=by
   rw[Bool.not_eq_true',List.any_eq_false];constructor
   ·intro h
    refine⟨fun i hi=>?_,c⟩;have hz:(ri (Y2 s) i,ri (Y2 t) i)∈List.zip (Y2 s) (Y2 t):=by
     have a1:i<(Y2 s).length:=by omega
     have a2:i<(Y2 t).length:=by omega
     have:(List.zip (Y2 s) (Y2 t))[i]'(by rw[List.length_zip];omega)=(ri (Y2 s) i,ri (Y2 t) i):=by simp[ri,List.getD,a1,a2]
     rw[<- this];exact List.getElem_mem _
    have:=h _ hz;simp at this;grind
   ·intro L z hz
    have:=GZ (r:=Y2 s) (s:=Y2 t) %[|5] (fun i hi=>L.dom i %[|5]) z hz
    simpa using this
  have X3:=x1.trans (x2.trans x3);cases hb:(List.zip (Y2 s) (Y2 t)).any fun z=>decide (z.1<z.2) with
  | false =>
   rw[hb] at iff;exact .inl ⟨rfl,q true M3 ⟨fun _=>iff.mp rfl,fun _=>rfl⟩ X3⟩
  | true =>
   rw[hb] at iff;exact .inr ⟨rfl,q false M3 ⟨fun h=>by simp at h,fun h=>by have:=iff.mpr h;simp at this⟩ X3⟩
 ·simp[c]
  exact q false M2 ⟨fun h=>by simp at h,fun L=>absurd L.fin c⟩ (x1.trans x2)
theorem BB (hg:g<s.length) (hl:l<s.length) (ne:g≠l):(doL ⟨g,l,ri s g-ri s l⟩ s).Perm s:=by
 have e1:ri s g=s[g]:=by simp[ri,List.getD,hg]
 have e2:ri s l=s[l]:=by simp[ri,List.getD,hl]
 have:doL ⟨g,l,ri s g-ri s l⟩ s=(s.set g s[l]).set l s[g]:=by
  unfold doL;dsimp only;rw[Z3 ne,show ri s g-(ri s g-ri s l)=s[l] by rw[<- e2];grind,show ri s l+(ri s g-ri s l)=s[g] by rw[<- e1];grind]
 rw[this];exact List.set_set_perm hg hl
structure Bnd (L B:Nat):Prop where
 l0:0<L
 hL:L<2 ^ 850
 hB:B<2 ^ 850
theorem Bnd.sz (b:Bnd L B) (h:Gr L B x):Sz 900 x:=h.sz b.l0 (Nat.lt_of_lt_of_le b.hL (Ys %[|4])) (Nat.lt_of_lt_of_le b.hB (Ys %[|4]))
theorem Bnd.sub (b:Bnd L B) (h:Gr L B x) (g:Gr L B y):Sz 900 (x-y):=by
 refine (h.sub b.l0 g).sz b.l0 (Nat.lt_of_lt_of_le b.hL (Ys %[|4])) ?_;have:=b.hB;have:(2:Nat) ^ 850+2 ^ 850<2 ^ 900:=by decide +kernel
 omega
noncomputable def S_48:DSp:=fun ds M Q E=>∃ s pp ps n L B,ds=[rw s,.lst pp]/\M pp=some (.ls (pn ps))/\Pls n ps/\s.length=n/\n<=24/\Bnd L B/\(∀ x∈s,Gr L B x) /\
 ∀ vs p M',M p=none->MExt M M'->M' p=some (.ls (vs.map lv))->Way s vs->PG s vs L B->(runL vs s).Perm s->(∀ i j,i<=j->j<n->al ps (runL vs s) j<=al ps (runL vs s) i)->vs.length<=n->Q (.lst p) M'
noncomputable def C_48:CSs:=%[.set 2 (.bi .list %[.var 0|0]),.set 3 (.lst .nil),.fr (.tup %[.name 4,.name 5|0]) (.enum %[.var 1|0]) %[.set 6 (.var 5),.fr (.name 7) (.seq (.sl (.var 1) (.some (.bin .Add (.var 4) (.int 1))) .none)) %[.ife (.call "is_less" S_4 %[.ix (.var 2) (.var 6),.ix (.var 2) (.var 7)|0]) %[.set 6 (.var 7)|0] .nil|0],.ife (.cmp .NotEq (.var 6) (.var 5)) %[.set 8 (.tup %[.var 6,.var 5,.call "taken" S_7 %[.ix (.var 2) (.var 6),.ix (.var 2) (.var 5)|0]|0]),.expr (.call "walk" S_36 %[.var 2,.var 8|0]),.expr (.app 3 (.var 8))|0] .nil|0],.ret (.var 3)|0]
theorem vc_48:∀ ds M R E,S_48 ds M R E->rSs C_48 (ends R E) (Y1 9 ds) M:=by
 rintro ds M R E ⟨s,pp,ps,n,L,B,rfl,lp,P,hn,n24,bd,gr,q⟩;have pl:=P.len;unfold C_48;sleep 7;intro p1 M1 e1 x1 m1;sleep 7;intro p2 M2 e2 x2 m2;have e2':M p2=none:=MExt.none x1 e2;have h12:p1≠p2:=fun z=>by rw[<- z,m1] at e2;cases e2
 have hp1:pp≠p1:=fun z=>by rw[<- z,lp] at e1;cases e1
 have hp2:pp≠p2:=fun z=>by rw[<- z,lp] at e2';cases e2'
 (try dsimp only);rw[Ye];simp[0,vAt,vHd,Y3,and_assoc,sizeLine_eq,Yd,Z1,Yn,dFld,Zr,Zs,Zq,dFor,VF,Vx]
 refine⟨_,x2 _ _ (x1 _ _ lp),?_⟩;refine Yv (fun w δ M'=>∃ (vs:List Lv) (w4 w5 w6 w7 w8:Option DL.D),MExt M M'/\M' p1=some (.ls ((runL vs s).map nm))/\M' p2=some (.ls (vs.map lv))/\Way s vs/\PG s vs L B/\(runL vs s).Perm s/\(∀ i j,i<w->i<=j->j<n->al ps (runL vs s) j<=al ps (runL vs s) i)/\vs.length<=w/\δ=[some (rw s),some (.lst pp),some (.lst p1),some (.lst p2),w4,w5,w6,w7,w8]) (fun _ _ _ h=>by obtain⟨_,_,_,_,_,_,x,_⟩:=h;exact x _ _ lp) ?_ ?_ ⟨[],_,_,_,_,_,x1.trans x2,x2 _ _ m1,m2,.nil _,.nil gr,List.Perm.refl _,fun i j h=>absurd h %[|5],Nat.le_refl _,rfl⟩
 ·rintro δ M3 ⟨vs,w4,w5,w6,w7,w8,x3,m3,m3',W,pg,pm,so,vl,rfl⟩
  rw[show (enD (pn ps)).length=n by unfold enD;simp[pn,pl]] at so vl;sleep 7;exact q vs p2 M3 e2' x3 m3' W pg pm (fun i j h1 h2=>so i j %[|5] h1 h2) vl
 ·rintro w y hy N hN δ M3 ⟨vs,w4,w5,w6,w7,w8,x3,m3,m3',W,pg,pm,so,vl,rfl⟩
  obtain⟨hw,rfl⟩:∃ hw:w<n,y=.tup [.int (w:Int),.int ((pat ps w:Nat):Int)]:=by
   obtain⟨h,e⟩:=List.getElem?_eq_some_iff.mp hy;have h':w<ps.length:=by simpa[enD,pn] using h
   exact⟨by omega,by rw[<- e];simp[enD,pn,pat,List.getD,h']⟩
  have al_len:(runL vs s).length=n:=by rw[W4];exact hn
  have grr:∀ x∈runL vs s,Gr L B x:=fun x hx=>gr x (pm.subset hx);have pm0:=pm;generalize ha:runL vs s=a at m3 pm so al_len grr;have at1:∀ k,k<n->L2.atI (a.map nm) ((pat ps k:Nat):Int)=some (nm (al ps a k)):=fun k hk=>Yz (WD (by have:=P.lt k hk;omega));have ga:∀ k,k<n->Gr L B (al ps a k):=fun k hk=>grr _ (Zn P al_len hk);sleep 8;sleep 7;sleep 9;have lp3:=x3 _ _ lp;refine⟨_,lp3,?_⟩;have ec:cutG (pn ps) (some ((w:Int)+1)) none=pn (ps.drop (w+1)):=by
   rw[show ((w:Int)+1)=((w+1:Nat):Int) by omega,IY _ _ (by simp[pn];omega)];simp[pn,List.map_drop]
  rw[ec];intro p4 M4 e4 x4 m4;have m34:=x4 _ _ m3;have m34':=x4 _ _ m3';refine⟨_,m4,?_⟩;refine Yv (fun i δ M'=>∃ (gk:Nat) (w7:Option DL.D),M'=M4/\w<=gk/\gk<n/\(∀ j,w<=j->j<w+1+i->j<n->al ps a j<=al ps a gk)/\(gk=w\/al ps a w<al ps a gk)/\δ=[some (rw s),some (.lst pp),some (.lst p1),some (.lst p2),some (.int (w:Int)),some (.int ((pat ps w:Nat):Int)),some (.int ((pat ps gk:Nat):Int)),w7,w8]) (fun _ _ _ h=>by obtain⟨_,_,rfl,_⟩:=h;exact m4) ?_ ?_ ⟨w,_,rfl,Nat.le_refl _,hw,fun j h1 h2 h3=>by rw[show j=w by omega];exact Rat.le_refl,.inl rfl,rfl⟩
  ·rintro δ M' ⟨gk,w7,rfl,wg,gn,mx,cs,rfl⟩
   rw[show (pn (ps.drop (w+1))).length=n-(w+1) by simp[pn,pl]] at mx;have mx':∀ j,w<=j->j<n->al ps a j<=al ps a gk:=fun j h1 h2=>mx j h1 %[|5] h2;sleep 7;refine YO true ?_;by_cases c:gk=w
   ·subst c
    simp;refine hN _ _ ⟨vs,_,_,_,_,_,x3.trans x4,by rw[ha];exact m34,m34',W,pg,pm0,?_,by omega,rfl⟩;rw[ha];intro i j h1 h2 h3;rcases (by omega:i<gk\/i=gk) with h|rfl
    ·exact so i j h h2 h3
    ·exact mx' j h2 h3
   ·have ne:pat ps gk≠pat ps w:=fun e=>c (P.inj gk w gn hw e)
    have lt:al ps a w<al ps a gk:=by
     rcases cs with h|h
     ·exact absurd h c
     ·exact h
    have ne':¬ (((pat ps gk:Nat):Int)=((pat ps w:Nat):Int)):=by omega
    simp only[if_true];rw[show (((pat ps gk:Nat):Int)==((pat ps w:Nat):Int))=false by simpa using ne'];simp;have can:Can ⟨pat ps gk,pat ps w,al ps a gk-al ps a w⟩ a:=⟨by have:=P.lt gk gn;show pat ps gk<a.length;omega,by have:=P.lt w hw;show pat ps w<a.length;omega,by show 0<al ps a gk-al ps a w;grind,Rat.le_refl,bd.sub (ga gk gn) (ga w hw),fun y hy=>bd.sz (grr y hy)⟩;sleep 7;refine Yo m34 (at1 gk gn) ?_;refine Yo m34 (at1 w hw) ?_;refine⟨_,_,rfl,.mk (bd.sz (ga gk gn)) (bd.sz (ga w hw)) %[|4],?_⟩;dsimp only;rw[show D.tup [D.int ((pat ps gk:Nat):Int),D.int ((pat ps w:Nat):Int),nm (al ps a gk-al ps a w)]=lv ⟨pat ps gk,pat ps w,al ps a gk-al ps a w⟩ from rfl];sleep 7;refine⟨p1,a,_,rfl,m34,can,by omega,?_⟩;have m5:(M'.upd p1 (.ls ((doL ⟨pat ps gk,pat ps w,al ps a gk-al ps a w⟩ a).map nm))) p1=some (.ls ((doL ⟨pat ps gk,pat ps w,al ps a gk-al ps a w⟩ a).map nm)):=mupd_same;have m5':(M'.upd p1 (.ls ((doL ⟨pat ps gk,pat ps w,al ps a gk-al ps a w⟩ a).map nm))) p2=some (.ls (vs.map lv)):=by rw[YB h12.symm];exact m34'
    have x5:MExt M (M'.upd p1 (.ls ((doL ⟨pat ps gk,pat ps w,al ps a gk-al ps a w⟩ a).map nm))):=MExt.upd_new e1 (x3.trans x4);generalize M'.upd p1 (.ls ((doL ⟨pat ps gk,pat ps w,al ps a gk-al ps a w⟩ a).map nm))=M5 at m5 m5' x5;sleep 7;refine⟨⟨_,m5'⟩,_,m5',by rw[List.length_map];omega,?_⟩;have rn:runL (vs++[⟨pat ps gk,pat ps w,al ps a gk-al ps a w⟩]) s=doL ⟨pat ps gk,pat ps w,al ps a gk-al ps a w⟩ a:=by rw[W5,ha]
    have pm5:(doL ⟨pat ps gk,pat ps w,al ps a gk-al ps a w⟩ a).Perm a:=BB (by have:=P.lt gk gn;omega) (by have:=P.lt w hw;omega) ne;refine hN _ _ ⟨vs++[⟨pat ps gk,pat ps w,al ps a gk-al ps a w⟩],_,_,_,_,_,MExt.upd_new e2' x5,?_,?_,W.add (by rw[ha];exact can),pg.add (by rw[rn];exact fun x hx=>gr x ((pm5.trans pm).subset hx)),?_,?_,by simp;omega,rfl⟩
    ·rw[YB h12,rn];exact m5
    ·rw[mupd_same,List.map_append];rfl
    ·rw[rn];exact pm5.trans pm
    ·rw[rn]
     intro i j h1 h2 h3;have hi:i<n:=by omega
     rw[AG P al_len gn hw %[|5] h3,AG P al_len gn hw %[|5] hi];rcases (by omega:i<w\/i=w) with h|rfl
     ·rw[if_neg (show ¬ i=gk by omega),if_neg (show ¬ i=w by omega)]
      have s1:=so i gk h %[|5] gn;have s2:=so i w h %[|5] hw;have s3:=so i j h h2 h3;split
      ·grind
      ·split
       ·grind
       ·exact s3
     ·rw[if_neg (show ¬ i=gk by omega),if_pos rfl]
      have s1:=mx' j h2 h3;have s2:=mx' i %[|3] hi;split
      ·grind
      ·split
       ·grind
       ·grind
  ·rintro i z hz N' hN' δ M' ⟨gk,w7,rfl,wg,gn,mx,cs,rfl⟩
   obtain⟨hi,rfl⟩:∃ hi:w+1+i<n,z=.int ((pat ps (w+1+i):Nat):Int):=by
    obtain⟨h,e⟩:=List.getElem?_eq_some_iff.mp hz;have h':w+1+i<ps.length:=by simp[pn] at h;omega
    exact⟨by omega,by rw[<- e];simp[pn,pat,List.getD,h']⟩
   sleep 8;sleep 7;refine Yo m34 (at1 gk gn) ?_;refine Yo m34 (at1 _ hi) ?_;refine⟨_,_,rfl,.mk (bd.sz (ga gk gn)) (bd.sz (ga _ hi)) %[|4],?_⟩;by_cases c:al ps a gk<al ps a (w+1+i)
   ·rw[decide_eq_true c]
    simp;sleep 7;refine hN' _ _ ⟨w+1+i,_,rfl,by omega,hi,fun j h1 h2 h3=>?_,.inr ?_,rfl⟩
    ·rcases (by omega:j<w+1+i\/j=w+1+i) with h|rfl
     ·have:=mx j h1 h h3;grind
     ·exact Rat.le_refl
    ·have:=mx w %[|3] %[|5] hw;grind
   ·rw[decide_eq_false c]
    simp;refine hN' _ _ ⟨gk,_,rfl,wg,gn,fun j h1 h2 h3=>?_,cs,rfl⟩;rcases (by omega:j<w+1+i\/j=w+1+i) with h|rfl
    ·exact mx j h1 h h3
    ·grind
inductive NE (n:Nat) (ps:List Nat) (t a:List Rat) (k:Nat):DL.D->DL.D->Prop
 | none (x:DL.D):(∀ i,i<k->i<n->al ps a i<=al ps t i)->(x=.non\/∃ i:Int,x=.int i)->NE n ps t a k .non x
 | up (g:Nat):g<k->g<n->al ps t g<al ps a g->(∀ i,g<i->i<k->i<n->al ps a i=al ps t i)->NE n ps t a k (.int ((pat ps g:Nat):Int)) .non
 | both (g l:Nat):Eve n ps t a g l->l<k->NE n ps t a k (.int ((pat ps g:Nat):Int)) (.int ((pat ps l:Nat):Int))
noncomputable def S_50:DSp:=fun ds M Q E=>∃ p pp a t ps n L B,ds=[.lst p,rw t,.lst pp]/\M p=some (.ls (a.map nm))/\M pp=some (.ls (pn ps))/\Aim n ps t L B/\Ev n ps t a L B/\(a=t->Q .non M)/\∀ g l,Eve n ps t a g l->Q (lv (evL ps t a g l)) M
noncomputable def C_50:CSs:=%[.two (.name 3) (.name 4) .non,.fr (.name 5) (.seq (.var 2)) %[.ife (.call "is_less" S_4 %[.ix (.var 1) (.var 5),.ix (.var 0) (.var 5)|0]) %[.par 3 4 (.var 5) .non|0] %[.ife (.and (.cmp .Is (.var 4) .non) (.one (.call "is_less" S_4 %[.ix (.var 0) (.var 5),.ix (.var 1) (.var 5)|0]))) %[.set 4 (.var 5)|0] .nil|0]|0],.ife (.cmp .Is (.var 3) .non) %[.ret .non|0] .nil,.par 6 7 (.call "taken" S_7 %[.ix (.var 0) (.var 3),.ix (.var 1) (.var 3)|0]) (.call "taken" S_7 %[.ix (.var 1) (.var 4),.ix (.var 0) (.var 4)|0]),.ret (.tup %[.var 3,.var 4,.ife (.call "is_less" S_4 %[.var 6,.var 7|0]) (.var 6) (.var 7)|0])|0]
theorem vc_50:∀ ds M R E,S_50 ds M R E->rSs C_50 (ends R E) (Y1 8 ds) M:=by
 rintro ds M R E ⟨p,pp,a,t,ps,n,L,B,rfl,lp,lpp,A,V,q1,q2⟩;have P:=A.P;have pl:=P.len;have al':=V.len;have tl:=A.len;have bd:Bnd L B:=⟨A.l0,A.hL,A.hB⟩;have at1:∀ k,k<n->L2.atI (a.map nm) ((pat ps k:Nat):Int)=some (nm (al ps a k)):=fun k hk=>Yz (WD (by have:=P.lt k hk;omega));have at2:∀ k,k<n->∀ (M':Mem) (Q':DK),Q' (nm (al ps t k)) M'->iOp (rw t) (.int ((pat ps k:Nat):Int)) M' Q':=fun k hk M' Q' h=>YZ (by have:=P.lt k hk;omega) h;have ga:∀ k,k<n->Gr L B (al ps a k):=fun k hk=>V.gr _ (Zn P al' hk);have gt:∀ k,k<n->Gr L B (al ps t k):=fun k hk=>A.gr _ (Zn P tl hk);unfold C_50;sleep 7;sleep 9;refine⟨_,lpp,?_⟩;refine Yv (fun k δ M'=>∃ (x y:DL.D) (w5:Option DL.D),M'=M/\NE n ps t a k x y/\δ=[some (.lst p),some (rw t),some (.lst pp),some x,some y,w5,none,none]) (fun _ _ _ h=>by obtain⟨_,_,_,rfl,_⟩:=h;exact lpp) ?_ ?_ ⟨_,_,_,rfl,.none .non (fun i h=>absurd h %[|5]) (.inl rfl),rfl⟩
 ·rintro δ M' ⟨x,y,w5,rfl,ne,rfl⟩
  rw[show (pn ps).length=n by simp[pn,pl]] at ne;cases ne with
  | none x h1 h2 =>
   sleep 7;exact q1 (V.done A fun i hi=>h1 i hi hi)
  | up g h1 h2 h3 h4=>exact (V.lack h2 h3 fun i c d=>h4 i c d d).elim
  | both g l E' h =>
   have hl:=E'.ln;have hg:g<n:=by have:=E'.gl;omega
   sleep 7;simp[cIs];sleep 7;refine Yo lp (at1 g hg) ?_;refine at2 g hg _ _ ?_;refine⟨_,_,rfl,.mk (bd.sz (ga g hg)) (bd.sz (gt g hg)) %[|4],?_⟩;refine at2 l hl _ _ ?_;refine Yo lp (at1 l hl) ?_;refine⟨_,_,rfl,.mk (bd.sz (gt l hl)) (bd.sz (ga l hl)) %[|4],?_⟩;sleep 8;sleep 7;refine⟨_,_,rfl,.mk (bd.sub (ga g hg) (gt g hg)) (bd.sub (gt l hl) (ga l hl)) %[|4],?_⟩;have:=q2 g l E';rw[show lv (evL ps t a g l)=.tup [.int ((pat ps g:Nat):Int),.int ((pat ps l:Nat):Int),nm (amt ps t a g l)] from rfl] at this;unfold amt at this;by_cases c:al ps a g-al ps t g<al ps t l-al ps a l
   ·rw[if_pos c] at this
    simp[c];exact this
   ·rw[if_neg c] at this
    simp[c];exact this
 ·rintro k z hz N hN δ M' ⟨x,y,w5,rfl,ne,rfl⟩
  obtain⟨hk,rfl⟩:∃ hk:k<n,z=.int ((pat ps k:Nat):Int):=by
   obtain⟨h,e⟩:=List.getElem?_eq_some_iff.mp hz;have h':k<ps.length:=by simpa[pn] using h
   exact⟨by omega,by rw[<- e];simp[pn,pat,List.getD,h']⟩
  sleep 8;sleep 7;refine at2 k hk _ _ ?_;refine Yo lp (at1 k hk) ?_;refine⟨_,_,rfl,.mk (bd.sz (gt k hk)) (bd.sz (ga k hk)) %[|4],?_⟩;by_cases c:al ps t k<al ps a k
  ·rw[decide_eq_true c]
   simp;sleep 7;exact hN _ _ ⟨_,_,_,rfl,.up k %[|5] hk c (fun i h1 h2=>absurd h1 %[|5]),rfl⟩
  ·rw[decide_eq_false c]
   simp;sleep 7;have low:∀ DD:Prop,(al ps a k<al ps t k->DD)->(¬ al ps a k<al ps t k->DD)->DD:=fun DD h1 h2=>by
    by_cases h:al ps a k<al ps t k
    ·exact h1 h
    ·exact h2 h
   cases ne with
   | none y h1 h2 =>
    have h1':∀ i,i<k+1->i<n->al ps a i<=al ps t i:=fun i hi hn=>by
     rcases (by omega:i<k\/i=k) with h|rfl
     ·exact h1 i h hn
     ·grind
    rcases h2 with rfl|⟨i,rfl⟩
    ·simp[cIs]
     refine Yo lp (at1 k hk) ?_;refine at2 k hk _ _ ?_;refine⟨_,_,rfl,.mk (bd.sz (ga k hk)) (bd.sz (gt k hk)) %[|4],?_⟩;by_cases c2:al ps a k<al ps t k
     ·rw[decide_eq_true c2]
      simp;sleep 7;exact hN _ _ ⟨_,_,_,rfl,.none _ h1' (.inr ⟨_,rfl⟩),rfl⟩
     ·rw[decide_eq_false c2]
      simp;exact hN _ _ ⟨_,_,_,rfl,.none _ h1' (.inl rfl),rfl⟩
    ·simp[cIs]
     exact hN _ _ ⟨_,_,_,rfl,.none _ h1' (.inr ⟨_,rfl⟩),rfl⟩
   | up g h1 h2 h3 h4 =>
    simp[cIs];refine Yo lp (at1 k hk) ?_;refine at2 k hk _ _ ?_;refine⟨_,_,rfl,.mk (bd.sz (ga k hk)) (bd.sz (gt k hk)) %[|4],?_⟩;by_cases c2:al ps a k<al ps t k
    ·rw[decide_eq_true c2]
     simp;sleep 7;exact hN _ _ ⟨_,_,_,rfl,.both g k ⟨h1,hk,h3,c2,fun i a b=>h4 i a b %[|5]⟩ %[|5],rfl⟩
    ·rw[decide_eq_false c2]
     simp;refine hN _ _ ⟨_,_,_,rfl,.up g %[|5] h2 h3 (fun i a b d=>?_),rfl⟩;rcases (by omega:i<k\/i=k) with h|rfl
     ·exact h4 i a h d
     ·grind
   | both g l E' h =>
    simp[cIs];exact hN _ _ ⟨_,_,_,rfl,.both g l E' %[|5],rfl⟩
noncomputable def S_51:DSp:=fun ds M Q E=>∃ pp s t ps n L B,ds=[rw s,rw t,.lst pp]/\M pp=some (.ls (pn ps))/\Aim n ps t L B/\Ev n ps t s L B/\n<=24/\∀ vs p M',M p=none->MExt M M'->M' p=some (.ls (vs.map lv))->Way s vs->PG s vs L B->runL vs s=t->vs.length<=n->Q (.lst p) M'
noncomputable def C_51:CSs:=%[.set 3 (.bi .list %[.var 0|0]),.set 4 (.lst .nil),.set 5 (.call "next_evening" S_50 %[.var 3,.var 1,.var 2|0]),.whl (.cmp .IsNot (.var 5) .non) %[.expr (.call "walk" S_36 %[.var 3,.var 5|0]),.expr (.app 4 (.var 5)),.set 5 (.call "next_evening" S_50 %[.var 3,.var 1,.var 2|0])|0],.ret (.var 4)|0]
theorem vc_51:∀ ds M R E,S_51 ds M R E->rSs C_51 (ends R E) (Y1 6 ds) M:=by
 rintro ds M R E ⟨pp,s,t,ps,n,L,B,rfl,lpp,A,V0,n24,q⟩;have sl:=V0.len;unfold C_51;sleep 7;intro p1 M1 e1 x1 m1;sleep 7;intro p2 M2 e2 x2 m2;have e2':M p2=none:=MExt.none x1 e2;have h12:p1≠p2:=fun z=>by rw[<- z,m1] at e2;cases e2
 have m1':=x2 _ _ m1;have X2:=x1.trans x2;refine Zm fun J hJ=>?_;have start:∀ X,(X=.non/\s=t\/∃ g l,X=lv (evL ps t s g l)/\Eve n ps t s g l)->J [some (rw s),some (rw t),some (.lst pp),some (.lst p1),some (.lst p2),some X] M2:=by
  intro X hX;refine hJ _ _ ?_;clear hJ;rw[Ye];refine⟨fun m δ M'=>∃ (vs:List Lv) (X:DL.D),MExt M M'/\M' p1=some (.ls ((runL vs s).map nm))/\M' p2=some (.ls (vs.map lv))/\Way s vs/\PG s vs L B/\Ev n ps t (runL vs s) L B/\vs.length+offN n ps t (runL vs s)<=n/\(X=.non/\runL vs s=t\/∃ g l,X=lv (evL ps t (runL vs s) g l)/\Eve n ps t (runL vs s) g l)/\δ=[some (rw s),some (rw t),some (.lst pp),some (.lst p1),some (.lst p2),some X]/\m=offN n ps t (runL vs s),⟨_,[],X,X2,m1',m2,.nil _,.nil V0.gr,V0,by have:=FC n ps t s;simpa[runL] using this,hX,rfl,rfl⟩,?_⟩;rintro m δ M3 ⟨vs,X,x3,k1,k2,W,pg,V,cn,hX,rfl,rfl⟩;rcases hX with ⟨rfl,e⟩|⟨g,l,rfl,Ev'⟩
  ·sleep 8
   sleep 7;exact q vs p2 M3 e2' x3 k2 W pg e %[|5]
  ·obtain⟨Post,hP⟩:∃ Pt:DSt->Mem->Prop,Pt=fun δ' M'=>∃ (vs':List Lv) (X:DL.D),MExt M M'/\M' p1=some (.ls ((runL vs' s).map nm))/\M' p2=some (.ls (vs'.map lv))/\Way s vs'/\PG s vs' L B/\Ev n ps t (runL vs' s) L B/\vs'.length+offN n ps t (runL vs' s)<=n/\(X=.non/\runL vs' s=t\/∃ g l,X=lv (evL ps t (runL vs' s) g l)/\Eve n ps t (runL vs' s) g l)/\δ'=[some (rw s),some (rw t),some (.lst pp),some (.lst p1),some (.lst p2),some X]/\offN n ps t (runL vs' s)<offN n ps t (runL vs s):=⟨_,rfl⟩
   have hc:∀ (M':Mem) (Q':DK),Q' (.bl true) M'->cIs true (lv (evL ps t (runL vs s) g l)) .non M' Q':=fun M' Q' h=>by unfold cIs lv;exact h
   sleep 8;refine hc _ _ ?_;simp;refine⟨Post,?_,?_⟩
   ·intro δ' M' h
    rw[hP] at h;obtain⟨vs',X,h1,h2,h3,h4,h4',h5,h6,h7,h8,h9⟩:=h;exact⟨_,h9,h1,vs',h2,h3,h4,h4',h5,h6,X,h7,h8,rfl⟩
   have can:=Ev'.can A V;have nx:=Ev'.next A V;have le:=Ev'.less A V;have rl:(runL vs s).length=n:=V.len;generalize evL ps t (runL vs s) g l=v at can nx le;sleep 7;refine⟨p1,_,v,rfl,k1,can,by omega,?_⟩;have k5:(M3.upd p1 (.ls ((doL v (runL vs s)).map nm))) p1=some (.ls ((doL v (runL vs s)).map nm)):=mupd_same;have k5':(M3.upd p1 (.ls ((doL v (runL vs s)).map nm))) p2=some (.ls (vs.map lv)):=by rw[YB h12.symm];exact k2
   have x5:MExt M (M3.upd p1 (.ls ((doL v (runL vs s)).map nm))):=MExt.upd_new e1 x3;generalize M3.upd p1 (.ls ((doL v (runL vs s)).map nm))=M5 at k5 k5' x5;sleep 7;refine⟨⟨_,k5'⟩,_,k5',by rw[List.length_map];omega,?_⟩;have k6:(M5.upd p2 (.ls (vs.map lv++[lv v]))) p2=some (.ls ((vs++[v]).map lv)):=by rw[mupd_same,List.map_append];rfl
   have k6':(M5.upd p2 (.ls (vs.map lv++[lv v]))) p1=some (.ls ((doL v (runL vs s)).map nm)):=by rw[YB h12];exact k5
   have x6:MExt M (M5.upd p2 (.ls (vs.map lv++[lv v]))):=MExt.upd_new e2' x5;generalize M5.upd p2 (.ls (vs.map lv++[lv v]))=M6 at k6 k6' x6;have rn:runL (vs++[v]) s=doL v (runL vs s):=W5 vs v s;have fin:∀ X,(X=.non/\runL (vs++[v]) s=t\/∃ g l,X=lv (evL ps t (runL (vs++[v]) s) g l)/\Eve n ps t (runL (vs++[v]) s) g l)->Post [some (rw s),some (rw t),some (.lst pp),some (.lst p1),some (.lst p2),some X] M6:=fun X hX=>by
    rw[hP];exact⟨vs++[v],X,x6,by rw[rn];exact k6',k6,W.add can,pg.add (by rw[rn];exact nx.gr),by rw[rn];exact nx,by rw[rn,List.length_append];simp;omega,hX,rfl,by rw[rn];exact le⟩
   sleep 7;refine⟨p1,pp,_,t,ps,n,L,B,rfl,k6',x6 _ _ lpp,A,nx,fun e=>?_,fun g l E''=>?_⟩
   ·sleep 8
    exact fin _ (.inl ⟨rfl,by rw[rn];exact e⟩)
   ·sleep 8
    exact fin _ (.inr ⟨g,l,by rw[rn],by rw[rn];exact E''⟩)
 sleep 8;refine⟨p1,pp,s,t,ps,n,L,B,rfl,m1',X2 _ _ lpp,A,V0,fun e=>start _ (.inl ⟨rfl,e⟩),fun g l E'=>start _ (.inr ⟨g,l,rfl,E'⟩)⟩
theorem AZ (l:List Rat):∀ k,k<=l.length->pre (fun i=>ri l i) k=tot (l.take k)
 | 0,_=>rfl
 | k+1,h=>by
  have ih:=AZ l k %[|5];rw[List.take_succ_eq_append_getElem %[|5],X4,<- ih];show pre (fun i=>ri l i) k+ri l k=_;have:k<l.length:=by omega
  simp[ri,List.getD,this]
section
variable {n:Nat} {ps:List Nat} {s t a:List Rat} {L B:Nat}
theorem VN (P:Pls n ps) (hk:k<n):al ps s k=ri (ps.map fun i=>s.getD i 0) k:=by
 have pl:=P.len;have:k<ps.length:=by omega
 simp[al,pat,ri,List.getD,this]
theorem D5 (P:Pls n ps) (hs:s.length=n) (F:Falls s s.length ps):∀ k,k<=n->pre (fun i=>al ps s i) k=tot ((srt s).take k):=fun k hk=>by
 rw[<- F.vals,<- AZ _ k (by rw[List.length_map,P.len];exact hk)];exact Wp fun i hi=>VN P %[|5]
theorem Ek (P:Pls n ps) (pm:ps.Perm (List.range n)) (hs:s.length=n) (so:∀ i j,i<=j->j<n->al ps s j<=al ps s i):Falls s s.length ps:=by
 refine⟨by rw[hs];exact pm,?_⟩;refine List.pairwise_iff_getElem.mpr fun i j hi hj hij=>?_;have pl:=P.len;rw[List.length_map] at hi hj;have:=so i j %[|5] %[|5];rw[VN P %[|5],VN P %[|5]] at this
 simpa[ri,List.getD,hi,hj] using this
theorem Kh (P:Pls n ps) (hs:s.length=n) (F:Falls s s.length ps):∀ i j,i<=j->j<n->al ps s j<=al ps s i:=fun i j hij hj=>by
 have pl:=P.len;rcases (by omega:i=j\/i<j) with rfl|h
 ·exact Rat.le_refl
 ·have:=List.pairwise_iff_getElem.mp F.fall i j (by rw[List.length_map];omega) (by rw[List.length_map];omega) h
  have a1:i<ps.length:=by omega
  have a2:j<ps.length:=by omega
  rw[VN P hj,VN P (show i<n by omega)]
  simpa[ri,List.getD,a1,a2] using this
theorem KI (P:Pls n ps) (pm:ps.Perm (List.range n)) (hs:s.length=n) (ht:t.length=n) (n1:1<=n) (F:Falls t t.length ps) (Ld:Leads s t) (pa:a.Perm s) (so:∀ i j,i<=j->j<n->al ps a j<=al ps a i) (gr:∀ x∈s,Gr L B x):Ev n ps t a L B:=by
 have la:a.length=n:=by rw[pa.length_eq];exact hs
 have Fa:=Ek P pm la so;have gp:=FW pa;have key:∀ k,k<=n->pre (fun i=>al ps a i-al ps t i) k=tot ((srt a).take k)-tot ((srt t).take k):=fun k hk=>by
  rw[B0,D5 P la Fa k hk,D5 P ht F k hk]
 have at1:∀ i,i<n->tot ((srt a).take (i+1))=ri (Y2 s) i:=fun i hi=>by rw[<- Ue %[|5],gp]
 have at2:∀ i,i<n->tot ((srt t).take (i+1))=ri (Y2 t) i:=fun i hi=>by rw[<- Ue %[|5]]
 refine⟨la,fun k hk=>?_,?_,fun x hx=>gr x (pa.subset hx)⟩
 ·rw[key k hk]
  cases k with
  | zero=>simp[tot];grind
  | succ i =>
   rw[at1 i %[|5],at2 i %[|5]];have:=Ld.dom i %[|5];grind
 ·rw[key n %[|3]]
  obtain⟨m,rfl⟩:∃ m,n=m+1:=⟨n-1,by omega⟩;rw[at1 m %[|5],at2 m %[|5]];have:=Ld.fin;rw[hs,Nat.add_sub_cancel] at this;grind
end
theorem UJ (h1:1<=s.length) (h24:s.length<=24):Yf 1 24 (rw s)=true:=XY %[|5] %[|5]
inductive Bt (M:Mem) (d e:DL.D) (Q E:DK):Prop
 | one:Yf 1 24 d=false->(∀ M',MExt M M'->E (.exc "NoRow" .non) M')->Bt M d e Q E
 | two:Yf 1 24 d=true->Yf 1 24 e=false->(∀ M',MExt M M'->E (.exc "NoRow" .non) M')->Bt M d e Q E
 | len (s t:List Rat):d=rw s->e=rw t->1<=s.length->s.length<=24->1<=t.length->t.length<=24->s.length≠t.length->(∀ M',MExt M M'->E (.exc "NoRow" .non) M')->Bt M d e Q E
 | good (s t:List Rat) (L B:Nat):d=rw s->e=rw t->1<=s.length->s.length<=24->s.length=t.length->Bnd L B->(∀ x∈s,Gr L B x)->(∀ x∈t,Gr L B x) ->
   (Leads s t->∀ vs M',Way s vs->PG s vs L B->runL vs s=t->vs.length<=2*s.length->MExt M M'->Q (.tup (vs.map lv)) M')->(¬ Leads s t->∀ M',MExt M M'->Q .non M')->Bt M d e Q E
noncomputable def S_52:DSp:=fun ds M Q E=>∃ d e,ds=[d,e]/\Gd M d/\Gd M e/\Bt M d e Q E
noncomputable def C_52:CSs:=%[.expr (.call "want_steps" S_37 %[.var 0|0]),.expr (.call "want_steps" S_37 %[.var 1|0]),.ife (.cmp .NotEq (.bi .len %[.var 0|0]) (.bi .len %[.var 1|0])) %[.rse "NoRow" %[.str "these are not as many steps"|0]|0] .nil,.ife (.not (.call "lead_there" S_49 %[.var 0,.var 1|0])) %[.ret .non|0] .nil,.set 2 (.call "falling" S_44 %[.var 1|0]),.set 3 (.call "exchanges" S_48 %[.var 0,.var 2|0]),.ret (.bi .tuple %[.bin .Add (.var 3) (.call "evenings" S_51 %[.call "levelled" S_39 %[.var 0,.bi .tuple %[.var 3|0]|0],.var 1,.var 2|0])|0])|0]
theorem vc_52:∀ ds M R E,S_52 ds M R E->rSs C_52 (ends R E) (Y1 4 ds) M:=by
 rintro ds M R E ⟨d,e,rfl,gd,ge,h⟩;unfold C_52;sleep 7;refine⟨d,rfl,gd,fun M1 x1=>?_⟩;cases h with
 | one h q =>
  rw[h,if_neg %[|4]];exact q M1 x1
 | two h h2 q =>
  rw[h,if_pos rfl];sleep 7;refine⟨e,rfl,Gd.ext x1 _ ge,fun M2 x2=>?_⟩;rw[h2,if_neg %[|4]];exact q M2 (x1.trans x2)
 | len s t hd he s1 s24 t1 t24 ne q =>
  subst hd he;rw[UJ s1 s24,if_pos rfl];sleep 7;refine⟨rw t,rfl,Gd.ext x1 _ ge,fun M2 x2=>?_⟩;rw[UJ t1 t24,if_pos rfl];sleep 7;refine YO true ?_;have:¬ ((s.length:Int)=t.length):=by omega
  simp[this];sleep 7;exact q M2 (x1.trans x2)
 | good s t L B hd he s1 s24 sl bd gs gt q1 q2 =>
  subst hd he;have Gs1:Gs s:=⟨L,B,bd.l0,Nat.lt_of_lt_of_le bd.hL (Ys %[|4]),Nat.lt_of_lt_of_le bd.hB (Ys %[|4]),gs⟩;have Gs2:Gs t:=⟨L,B,bd.l0,Nat.lt_of_lt_of_le bd.hL (Ys %[|4]),Nat.lt_of_lt_of_le bd.hB (Ys %[|4]),gt⟩;rw[UJ s1 s24,if_pos rfl];sleep 7;refine⟨rw t,rfl,Gd.ext x1 _ ge,fun M2 x2=>?_⟩;rw[UJ %[|5] %[|5],if_pos rfl];sleep 7;refine YO true ?_;have:((s.length:Int)=t.length):=by omega
  simp[this];sleep 7;refine⟨s,t,rfl,Gs1,Gs2,sl,s1,s24,fun b M3 hb x3=>?_⟩;have X3:=x1.trans (x2.trans x3);by_cases c:Leads s t
  ·rw[hb.mpr c]
   simp;sleep 7;refine⟨t,900,rfl,fun x hx=>bd.sz (gt x hx),by decide,by omega,fun ps pp M4 e4 x4 m4 F=>?_⟩;have P:=Hy F.perm;sleep 7;refine⟨s,pp,ps,s.length,L,B,rfl,m4,by rw[sl];exact P,rfl,s24,bd,gs,fun vs p5 M5 e5 x5 m5 W pg pm so vl=>?_⟩;have P':Pls s.length ps:=by rw[sl];exact P
   have V:Ev s.length ps t (runL vs s) L B:=KI P' (by rw[sl];exact F.perm) rfl sl.symm s1 F c pm so gs;have A:Aim s.length ps t L B:=⟨P',sl.symm,Kh P' sl.symm F,gt,bd.l0,bd.hL,bd.hB⟩;sleep 7;refine⟨_,m5,?_⟩;refine HW W (fun y hy=>bd.sz (gs y hy)) s1 s24 fun M6 x6=>?_;refine⟨pp,_,t,ps,s.length,L,B,rfl,x6 _ _ (x5 _ _ m4),A,V,s24,fun ws p7 M7 e7 x7 m7 W2 pg2 r2 wl=>?_⟩;sleep 8;have m57:=x7 _ _ (x6 _ _ m5);refine⟨_,m57,_,m7,by simp;omega,?_⟩;intro p8 M8 e8 x8 m8;refine⟨_,m8,?_⟩;have:=q1 c (vs++ws) M8 (W.app W2) (pg.app pg2) (by rw[Vk];exact r2) (by rw[List.length_append];omega) (X3.trans (x4.trans (x5.trans (x6.trans (x7.trans x8)))));rw[List.map_append] at this;exact this
  ·have hb':b=false:=by
    cases b with
    | false=>rfl
    | true=>exact absurd (hb.mp rfl) c
   rw[hb'];simp;exact q2 c M3 X3
noncomputable def inPl (z:(Rat×Rat)×Rat):Bool:=!decide (z.2<z.1.1)&&!decide (z.1.2<z.2)
noncomputable def Yr (t:List (Rat×Rat)) (r:List Rat):Bool:=(t.zip r).all inPl
theorem HU (h:nm p=nm q):p=q:=by
 unfold nm at h;simp at h;exact Rat.ext h.1 %[|5]
theorem Vv:∀ {s t:List Rat},s.map nm=t.map nm->s=t
 | [],[],_=>rfl
 | [],_::_,h=>by simp at h
 | _::_,[],h=>by simp at h
 | a::s,b::t,h=>by
  simp only[List.map_cons,List.cons.injEq] at h;rw[HU h.1,Vv h.2]
theorem XU (h:rw s=rw t):s=t:=by
 unfold rw at h;injection h with h
 exact Vv h
noncomputable def ZJ (t:List (Rat×Rat)) (d:DL.D):Bool:=by
 classical exact decide (∃ r,d=rw r/\r.length=t.length/\Yr t r=true)
theorem ZW (h:r.length=t.length):ZJ t (rw r)=Yr t r:=by
 unfold ZJ;cases e:Yr t r with
 | true=>simpa using ⟨r,rfl,h,e⟩
 | false =>
  simp only[decide_eq_false_iff_not];rintro⟨s,e1,_,e2⟩;rw[<- XU e1,e] at e2;cases e2
theorem BS (h:Yf t.length t.length d=false):ZJ t d=false:=by
 unfold ZJ;simp only[decide_eq_false_iff_not];rintro⟨s,rfl,hs,_⟩;rw[XY %[|5] %[|5]] at h;cases h
theorem JV (h:Yf l m d=true):∃ s:List Rat,d=rw s/\l<=s.length/\(s.length:Int)<=m:=by
 cases d with
 | tup xs =>
  unfold Yf at h;simp only[Bool.and_eq_true,decide_eq_true_eq] at h;have go:∀ {xs:List DL.D},xs.all YU=true->∃ s:List Rat,xs=s.map nm:=by
   intro xs
   induction xs with
   | nil=>exact fun _=>⟨[],rfl⟩
   | cons x xs ih =>
    intro h;simp only[List.all_cons,Bool.and_eq_true] at h;obtain⟨p,rfl⟩:=isNum_iff.mp h.1;obtain⟨s,rfl⟩:=ih h.2;exact⟨p::s,rfl⟩
  obtain⟨s,rfl⟩:=go h.2;exact⟨s,rfl,by simpa using h.1.1,by simpa using h.1.2⟩
 | _=>cases h
theorem Au (h:Gd M (nm q)):Sz 3000 q:=Gd.sz h
theorem Im (h:Gd M (rw r)):∀ x∈r,Sz 3000 x:=fun x hx=>Au (h.tup _ (List.mem_map_of_mem hx))
theorem FX (h:Gd M (tb t)):∀ p∈t,Sz 3000 p.1/\Sz 3000 p.2:=fun p hp=>by
 have:=h.tup _ (List.mem_map_of_mem hp);exact⟨Au (this.tup (nm p.1) (by simp)),Au (this.tup (nm p.2) (by simp))⟩
noncomputable def S_32:DSp:=fun ds M Q E=>∃ (p:Rat×Rat) (h:Rat),ds=[pl p,nm h]/\Sz 3900 p.1/\Sz 3900 p.2/\Sz 3900 h/\Q (.bl (inPl (p,h))) M
noncomputable def C_32:CSs:=%[.asg (.tup %[.name 2,.name 3|0]) (.var 0),.ret (.and (.not (.call "is_less" S_4 %[.var 1,.var 2|0])) (.one (.not (.call "is_less" S_4 %[.var 3,.var 1|0]))))|0]
theorem vc_32:∀ ds M R E,S_32 ds M R E->rSs C_32 (ends R E) (Y1 4 ds) M:=by
 rintro ds M R E ⟨p,h,rfl,s1,s2,s3,q⟩;unfold C_32;sleep 7;sleep 7;refine⟨_,_,rfl,.mk s3 s1 %[|4],?_⟩;unfold inPl at q;by_cases c:h<p.1
 ·simp[c] at q ⊢
  exact q
 ·simp[c] at q ⊢
  refine⟨_,_,rfl,.mk s2 s3 %[|4],?_⟩;by_cases c2:p.2<h<;>simp[c2] at q ⊢<;>exact q
noncomputable def S_31:DSp:=fun ds M Q E=>∃ d,ds=[d]/\Gd M d/\∀ M',MExt M M'->if YX d=true then Q .non M' else E (.exc "NoTube" .non) M'
noncomputable def C_31:CSs:=%[.ife (.not (.call "is_tube" S_19 %[.var 0|0])) %[.rse "NoTube" %[.str "this is no tube"|0]|0] .nil|0]
theorem vc_31:∀ ds M R E,S_31 ds M R E->rSs C_31 (ends R E) (Y1 1 ds) M:=by
 rintro ds M R E ⟨d,rfl,gd,h⟩;unfold C_31;sleep 7;refine⟨d,rfl,gd,fun M' e=>?_⟩;have:=h M' e;cases q:YX d with
 | true=>rw [q,if_pos rfl] at this;simpa using this
 | false =>
  rw[q,if_neg %[|4]] at this;simp;sleep 7;exact this
noncomputable def S_33:DSp:=fun ds M Q E=>∃ d e,ds=[d,e]/\Gd M d/\Gd M e/\(YX d=false/\(∀ M',MExt M M'->E (.exc "NoTube" .non) M')\/∃ t,d=tb t/\Tube t/\∀ M',MExt M M'->Q (.bl (ZJ t e)) M')
noncomputable def C_33:CSs:=%[.expr (.call "want_tube" S_31 %[.var 0|0]),.ife (.not (.call "are_numbers" S_17 %[.var 1,.bi .len %[.var 0|0],.bi .len %[.var 0|0]|0])) %[.ret (.bl false)|0] .nil,.ret (.bi .all %[.comp ["tube","thing","place","height"] 2 (.tup %[.name 2,.name 3|0]) (.zip %[.var 0,.var 1|0]) (.call "is_within" S_32 %[.var 2,.var 3|0])|0])|0]
theorem vc_33:∀ ds M R E,S_33 ds M R E->rSs C_33 (ends R E) (Y1 2 ds) M:=by
 rintro ds M R E ⟨d,e,rfl,gd,ge,h⟩;unfold C_33;sleep 7;refine⟨d,rfl,gd,fun M1 x1=>?_⟩;rcases h with ⟨h,q⟩|⟨t,rfl,ht,q⟩
 ·rw[h,if_neg %[|4]]
  exact q M1 x1
 ·rw[isTube_iff.mpr ⟨t,rfl,ht⟩,if_pos rfl]
  have two:=ht.two;have most:=ht.most;have gt:=FX gd;sleep 7;refine⟨e,t.length,t.length,rfl,by omega,ge.ext x1,fun M2 x2=>?_⟩;cases hn:Yf t.length t.length e with
  | false =>
   have:=q M2 (x1.trans x2);rw[BS hn] at this;simp;sleep 7;exact this
  | true =>
   obtain⟨r,rfl,h1,h2⟩:=JV hn;have gr:=Im ge;simp;sleep 7;refine YJ (t.zip r) (fun z=>.tup [pl z.1,nm z.2]) (fun z=>.bl (inPl z)) (fun R r=>?_) (by rw[List.length_zip];omega) ?_ ?_
   ·sleep 8
    exact r _ fun _ _=>trivial
   ·rintro⟨p,h⟩ hx l M' R' hl ee rr
    obtain⟨z1,z2,rfl⟩:=len2 hl;have g1:=gt p (List.of_mem_zip hx).1;have g2:=gr h (List.of_mem_zip hx).2;sleep 8;exact⟨p,h,rfl,g1.1.mono %[|4],g1.2.mono %[|4],g2.mono %[|4],rr [_,_] M' rfl (.refl _)⟩
   intro p3 M3 e3 x3 l3;refine AF l3 ?_;have:=q M3 (x1.trans (x2.trans x3));rw[ZW %[|5]] at this;exact this
theorem YQ (h:r.length=t.length):Yr t r=true ↔ ∀ i,i<t.length->lo t i<=ri r i/\ri r i<=hi t i:=by
 unfold Yr;rw[List.all_eq_true];constructor
 ·intro H i hi'
  have hi2:i<(t.zip r).length:=by rw[List.length_zip];omega
  have:=H _ (List.getElem_mem hi2);have hr:i<r.length:=by omega
  rw[List.getElem_zip] at this;unfold inPl at this;simp at this;simp only[lo,hi,ri,List.getD,List.getElem?_eq_getElem hi',List.getElem?_eq_getElem hr,Option.getD_some];exact⟨Rat.not_lt.mp this.1,Rat.not_lt.mp this.2⟩
 ·intro H z hz
  obtain⟨i,hi2,rfl⟩:=List.getElem_of_mem hz;rw[List.length_zip] at hi2;have hi':i<t.length:=by omega
  have hr:i<r.length:=by omega
  have:=H i hi';simp only[lo,hi,ri,List.getD,List.getElem?_eq_getElem hi',List.getElem?_eq_getElem hr,Option.getD_some] at this;rw[List.getElem_zip];unfold inPl;simp;exact⟨Rat.not_lt.mpr this.1,Rat.not_lt.mpr this.2⟩
theorem Hl:ri (r++[q]) r.length=q:=by simp[ri,List.getD]
theorem Hk (h:j<r.length):ri (r++[q]) j=ri r j:=AV h
structure Gt (B:Nat) (t:List (Rat×Rat)):Prop where
 ok:∀ p∈t,p.1<=p.2
 lo:∀ p∈t,Gr 2 B p.1
 hi:∀ p∈t,Gr 2 B p.2
theorem Gt.box (hB:B<2 ^ 24) (h:Gt B t):Box t 24:=⟨h.ok,fun p hp=>(h.lo p hp).sz %[|4] %[|4] hB,fun p hp=>(h.hi p hp).sz %[|4] %[|4] hB⟩
theorem Gt.add (b:Gt B t) (h:p.1<=p.2) (s1:Gr 2 B p.1) (s2:Gr 2 B p.2):Gt B (t++[p]):=by
 refine⟨fun x hx=>?_,fun x hx=>?_,fun x hx=>?_⟩<;>rcases List.mem_append.mp hx with hx|hx
 ·exact b.ok x hx
 ·simp at hx;subst hx;exact h
 ·exact b.lo x hx
 ·simp at hx;subst hx;exact s1
 ·exact b.hi x hx
 ·simp at hx;subst hx;exact s2
theorem Gt.at0 (G:Gt B t) (h:i<t.length):Gr 2 B (K.lo t i)/\Gr 2 B (K.hi t i):=by
 have a:=G.lo _ (List.getElem_mem h);have b:=G.hi _ (List.getElem_mem h);simp only[K.lo,K.hi,List.getD,List.getElem?_eq_getElem h,Option.getD_some];exact⟨a,b⟩
theorem AN (G:Gt B t) (sf:Gr 2 B f) (sl:Gr 2 B l):Gt B (tieT f l t):=by
 have mem:∀ p∈tieT f l t,p=(f,f)\/p∈t\/p=(l,l):=fun p hp=>by
  unfold tieT at hp;rcases List.mem_cons.mp hp with hp|hp
  ·exact .inl hp
  ·rcases List.mem_append.mp hp with hp|hp
   ·exact .inr (.inl (B3 hp))
   ·simp at hp;exact .inr (.inr hp)
 refine⟨fun p hp=>?_,fun p hp=>?_,fun p hp=>?_⟩<;>rcases mem p hp with rfl|hp|rfl
 ·show f<=f;grind
 ·exact G.ok p hp
 ·show l<=l;grind
 ·exact sf
 ·exact G.lo p hp
 ·exact sl
 ·exact sf
 ·exact G.hi p hp
 ·exact sl
noncomputable def S_62:DSp:=fun ds M Q E=>∃ a w,ds=[.lst a,.int w]/\Pk M a/\0<=w/\w<500/\∀ q M',0<=q->Gr 2 1000 q->Dr a M M'->Q (nm q) M'
noncomputable def C_62:CSs:=%[.set 2 (.call "_law_take" S_1 %[.var 0,.int 4|0]),.ife (.cmp .Eq (.var 2) (.int 0)) %[.ret (.tup %[.int 0,.int 1|0])|0] .nil,.ret (.call "_law_low" S_0 %[.call "_law_take" S_1 %[.var 0,.bin .Add (.var 1) (.int 1)|0],.ix (.lst %[.int 1,.int 1,.int 1,.int 2|0]) (.var 2)|0])|0]
theorem vc_62:∀ ds M R E,S_62 ds M R E->rSs C_62 (ends R E) (Y1 3 ds) M:=by
 rintro ds M R E ⟨a,w,rfl,p,w0,w1,q⟩;unfold C_62;sleep 1;refine Z9 p %[|4] %[|4] fun r M1 r0 r1 y1=>?_;sleep 1;refine YO false ?_;by_cases hr:r=0
 ·simp[hr]
  sleep 1;rw[FG];exact q 0 M1 %[|4] .zero y1
 ·simp[hr]
  sleep 1;refine Z9 y1.pk %[|5] (Nat.lt_of_lt_of_le (show (w+1).natAbs<2 ^ 10 by omega) (Ys %[|4])) fun v M2 v0 v1 y2=>?_;intro p0 M3 e0 x3 l3;obtain⟨z,hz,hv⟩:=EO (xs:=[D.int 1,D.int 1,D.int 1,D.int 2]) r0 (by simpa using r1);refine Yo l3 hv ?_;have fin:∀ b:Int,(b=1\/b=2)->R (nm (Rat.divInt v b)) M3:=fun b hb=>by
   refine q _ M3 (divInt_nonneg v0 %[|5]) (Z8 %[|5] (by rcases hb with rfl|rfl<;>decide) %[|4] %[|5]) (y1.trans (y2.trans (.ext y2.pk x3)))
  simp at hz;rcases hz with rfl|rfl|rfl|rfl<;>exact⟨_,_,rfl,by decide,UQ %[|4],fin _ %[|5]⟩
noncomputable def S_63:DSp:=fun ds M Q E=>∃ a m w,ds=[.lst a,.int m,.int w]/\Pk M a/\2<=m/\m<=25/\0<=w/\w<500/\∀ t M',2<=t.length->t.length<=25->Gt 1400 t->Dr a M M'->(t.length:Int)<=m->Q (tb t) M'
noncomputable def LT3 (M:Mem) (a p:Addr) (m w:Int) (i:Nat) (δ:DSt) (M':Mem):Prop :=
 ∃ (z:Int) (t:List (Rat×Rat)) (w5:Option DL.D),Dr a M M'/\M' p=some (.ls (t.map pl))/\t.length=i/\z.natAbs<=3*i/\Gt 1400 t/\δ=[some (.lst a),some (.int m),some (.int w),some (nm (z:Rat)),some (.lst p),w5]
noncomputable def C_63:CSs:=%[.set 3 (.tup %[.int 0,.int 1|0]),.set 4 (.lst .nil),.fr (.name 5) (.rng %[.bin .Add (.int 2) (.call "_law_take" S_1 %[.var 0,.bin .Sub (.var 1) (.int 1)|0])|0]) %[.set 3 (.call "_law_more" S_24 %[.var 3,.tup %[.bin .Sub (.call "_law_take" S_1 %[.var 0,.int 7|0]) (.int 3),.int 1|0]|0]),.expr (.app 4 (.tup %[.var 3,.call "_law_more" S_24 %[.var 3,.call "_law_width" S_62 %[.var 0,.var 2|0]|0]|0]))|0],.ret (.bi .tuple %[.var 4|0])|0]
theorem vc_63:∀ ds M R E,S_63 ds M R E->rSs C_63 (ends R E) (Y1 6 ds) M:=by
 rintro ds M R E ⟨a,m,w,rfl,p,m0,m1,w0,w1,q⟩;unfold C_63;sleep 1;sleep 1;intro p0 M0 e0 x0 l0;have hpa:=p.ne e0;sleep 4;refine Z9 (p.ext x0) %[|5] (Nat.lt_of_lt_of_le (show (m-1).natAbs<2 ^ 10 by omega) (Ys %[|4])) fun n M1 n0 n1 y1=>?_;refine⟨by omega,by omega,?_⟩;refine Yv (LT3 M a p0 m w) (fun _ _ _ _=>trivial) ?_ ?_ ⟨0,[],none,(Dr.ext p x0).trans y1,y1.keep _ _ hpa l0,rfl,by decide,⟨nofun,nofun,nofun⟩,rfl⟩
 ·rintro δ M' ⟨z,t,w5,d,l,hl,hz,B,rfl⟩
  rw[Xo] at hl hz;sleep 1;refine⟨_,l,?_⟩;exact q t M' %[|5] %[|5] B d %[|5]
 ·rintro i x hx N hN δ M' ⟨z,t,w5,d,l,hl,hz,B,rfl⟩
  obtain⟨rfl,hi'⟩:=W6 hx;sleep 2;sleep 1;refine Z9 d.pk %[|4] %[|4] fun r M2 r0 r1 y2=>?_;have sz:Sz 7 (z:Rat):=Ze %[|5];have sr:Sz 7 ((r-3:Int):Rat):=Ze %[|5];refine⟨_,_,by rw[nm_i],.mk sz sr %[|5],?_⟩;have e1:(z:Rat)+((r-3:Int):Rat)=((z+(r-3):Int):Rat):=by push_cast;rfl
  rw[e1];have hz':(z+(r-3)).natAbs<=3*(i+1):=by omega
  generalize z+(r-3)=z' at *;have sz1:Sz 7 (z':Rat):=Ze %[|5];have gz1:Gr 2 300 (z':Rat):=Eb %[|4] %[|5];sleep 1;have y02:=d.trans y2;refine⟨⟨_,y2.keep _ _ hpa l⟩,a,w,rfl,y2.pk,w0,w1,fun v M3 v0 gv y3=>?_⟩;have sv:Sz 12 v:=gv.sz %[|4] %[|4] %[|4];refine⟨_,_,rfl,.mk sz1 sv %[|4],?_⟩;refine⟨_,y3.keep _ _ hpa (y2.keep _ _ hpa l),?_,?_⟩
  ·simp;omega
  ·refine hN _ _ ⟨z',t++[((z':Rat),(z':Rat)+v)],_,(y02.trans y3).upd_new e0 hpa,?_,by simp[hl],by omega,B.add ?_ (gz1.mono %[|4]) ((gz1.add %[|4] gv).mono %[|4]),rfl⟩
   ·rw[mupd_same,List.map_append];rfl
   ·show _<=_;grind
noncomputable def S_64:DSp:=fun ds M Q E=>∃ a m w,ds=[.lst a,.int m,.int w]/\Pk M a/\2<=m/\m<=25/\0<=w/\w<500/\∀ t M',Fine t 24->Gt 1400 t->Dr a M M'->(t.length:Int)<=m->Q (tb t) M'
noncomputable def C_64:CSs:=%[.set 3 (.call "_law_loose_tube" S_63 %[.var 0,.var 1,.var 2|0]),.par 4 5 (.ix (.ix (.var 3) (.int 0)) (.call "_law_take" S_1 %[.var 0,.int 2|0])) (.ix (.ix (.var 3) (.neg (.int 1))) (.call "_law_take" S_1 %[.var 0,.int 2|0])),.ret (.bin .Add (.bin .Add (.tup %[.tup %[.var 4,.var 4|0]|0]) (.sl (.var 3) (.some (.int 1)) (.some (.neg (.int 1))))) (.tup %[.tup %[.var 5,.var 5|0]|0]))|0]
theorem vc_64:∀ ds M R E,S_64 ds M R E->rSs C_64 (ends R E) (Y1 6 ds) M:=by
 rintro ds M R E ⟨a,m,w,rfl,p,m0,m1,w0,w1,q⟩;unfold C_64;sleep 1;refine⟨a,m,w,rfl,p,m0,m1,w0,w1,fun t M1 h1 h2 B y1 hm=>?_⟩;sleep 1;refine Sq.ix (.inl rfl) (Yz (i:=0) (W1 %[|5])) ?_;refine Z9 y1.pk %[|4] %[|4] fun r M2 r0 r1 y2=>?_;obtain⟨f,hf,ef⟩:=GL (p:=(lo t 0,hi t 0)) r0 r1;refine Sq.ix (.inl rfl) ef ?_;refine Sq.ix (.inl rfl) (AO %[|5]) ?_;refine Z9 y2.pk %[|4] %[|4] fun r' M3 r0' r1' y3=>?_;obtain⟨l,hl,el⟩:=GL (p:=(lo t (t.length-1),hi t (t.length-1))) r0' r1';refine Sq.ix (.inl rfl) el ?_;sleep 1;have z0:=B.at0 (i:=0) %[|5];have z1:=B.at0 (i:=t.length-1) %[|5];have sf:Gr 2 1400 f:=by rcases hf with rfl|rfl;exact z0.1;exact z0.2
 have sl:Gr 2 1400 l:=by rcases hl with rfl|rfl;exact z1.1;exact z1.2
 have gs:=AN B sf sl;rw[show tb t=.tup (t.map pl) from rfl];dsimp only;rw[V1 t pl h1,show D.tup (pl (f,f)::((mid t).map pl++[pl (l,l)]))=tb (tieT f l t) from AM f l t];refine⟨?_,?_,q _ M3 (VV (B.box %[|4]) h1 h2 (sf.sz %[|4] %[|4] %[|4]) (sl.sz %[|4] %[|4] %[|4]) %[|4]) gs (y1.trans (y2.trans y3)) (by rw[Vb h1];exact hm)⟩
 ·rw[List.length_map,Za];omega
 ·rw[List.length_map,Za];omega
noncomputable def S_55:DSp:=fun ds M Q E=>∃ a t n,ds=[.lst a,tb t]/\Pk M a/\Gt n t/\n<=2400/\t.length<=100/\∀ r M',r.length=t.length->(∀ x∈r,Gr 24 (2 ^ 18) x)->Yr t r=true->Dr a M M'->Q (rw r) M'
noncomputable def IT3 (M:Mem) (a p:Addr) (t:List (Rat×Rat)) (i:Nat) (δ:DSt) (M':Mem):Prop :=
 ∃ (r:List Rat) (w3 w4 w5:Option DL.D),Dr a M M'/\M' p=some (.ls (r.map nm))/\r.length=i/\(∀ x∈r,Gr 24 (2 ^ 18) x)/\(∀ j,j<i->lo t j<=ri r j/\ri r j<=hi t j)/\δ=[some (.lst a),some (tb t),some (.lst p),w3,w4,w5]
noncomputable def C_55:CSs:=%[.set 2 (.lst .nil),.fr (.tup %[.name 3,.name 4|0]) (.seq (.var 1)) %[.set 5 (.ix (.lst %[.tup %[.int 0,.int 1|0],.tup %[.int 1,.int 1|0],.tup %[.int 1,.int 2|0],.tup %[.int 1,.int 3|0],.tup %[.int 3,.int 4|0]|0]) (.call "_law_take" S_1 %[.var 0,.int 5|0])),.expr (.app 2 (.call "_law_more" S_24 %[.var 3,.call "_law_by" S_54 %[.var 5,.call "_law_less_by" S_2 %[.var 4,.var 3|0]|0]|0]))|0],.ret (.bi .tuple %[.var 2|0])|0]
theorem vc_55:∀ ds M R E,S_55 ds M R E->rSs C_55 (ends R E) (Y1 6 ds) M:=by
 rintro ds M R E ⟨a,t,n,rfl,pk,G,n24,ht,q⟩;have B:=G.box %[|5];obtain⟨k,hk⟩:∃ k,k=24:=⟨_,rfl⟩;rw[<- hk] at B;unfold C_55;sleep 7;intro p M1 e1 x1 l1;have hpa:=pk.ne e1;sleep 9;refine Yv (IT3 M a p t) (fun _ _ _ _=>trivial) ?_ ?_ ⟨[],_,_,_,Dr.ext pk x1,l1,rfl,nofun,nofun,rfl⟩
 ·rintro δ M' ⟨r,w3,w4,w5,y,l,hl,hs,hb,rfl⟩
  rw[List.length_map] at hl hb;sleep 7;refine⟨_,l,?_⟩;exact q r M' hl hs ((YQ hl).mpr hb) y
 ·rintro i x hx N hN δ M' ⟨r,w3,w4,w5,y,l,hl,hs,hb,rfl⟩
  obtain⟨hi',rfl⟩:∃ hi':i<t.length,x=pl t[i]:=by
   obtain⟨h,e⟩:=List.getElem?_eq_some_iff.mp hx;have h':i<t.length:=by simpa using h
   exact⟨h',by rw[<- e];simp⟩
  have s1:=B.lo _ (List.getElem_mem hi');have s2:=B.hi _ (List.getElem_mem hi');have ok:=B.ok _ (List.getElem_mem hi');have g1:=(G.lo _ (List.getElem_mem hi')).mono n24;have g2:=(G.hi _ (List.getElem_mem hi')).mono n24;have elo:lo t i=t[i].1:=by simp[lo,List.getD,hi']
  have ehi:hi t i=t[i].2:=by simp[hi,List.getD,hi']
  sleep 8;sleep 7;intro p3 M3 e3 x3 l3;refine Z9 (y.pk.ext x3) %[|4] %[|4] fun c M4 c0 c1 y4=>?_;obtain⟨zz,hz1,hv1⟩:=EO (xs:=[D.tup [D.int 0,D.int 1],D.tup [D.int 1,D.int 1],D.tup [D.int 1,D.int 2],D.tup [D.int 1,D.int 3],D.tup [D.int 3,D.int 4]]) c0 (by simpa using c1);refine Yo (y4.keep _ _ (y.pk.ne e3) l3) hv1 ?_;obtain⟨u,rfl,u0,u1,su,gu⟩:∃ u:Rat,zz=nm u/\0<=u/\u<=1/\Sz 3 u/\Gr 12 36 u:=by
   simp only[List.mem_cons,List.not_mem_nil,or_false] at hz1;rcases hz1 with rfl|rfl|rfl|rfl|rfl
   ·exact⟨0,rfl,by decide,by decide,⟨by decide,by decide⟩,.zero⟩
   ·exact⟨1,rfl,by decide,by decide,⟨by decide,by decide⟩,(Z8 (a:=1) (b:=1) %[|4] %[|4] %[|4] %[|4])⟩
   ·exact⟨Rat.divInt 1 2,UL %[|4] %[|4],by decide +kernel,by decide +kernel,⟨by decide +kernel,by decide +kernel⟩,Z8 %[|4] %[|4] %[|4] %[|4]⟩
   ·exact⟨Rat.divInt 1 3,UL %[|4] %[|4],by decide +kernel,by decide +kernel,⟨by decide +kernel,by decide +kernel⟩,Z8 %[|4] %[|4] %[|4] %[|4]⟩
   ·exact⟨Rat.divInt 3 4,UL %[|4] %[|4],by decide +kernel,by decide +kernel,⟨by decide +kernel,by decide +kernel⟩,Z8 %[|4] %[|4] %[|4] %[|4]⟩
  sleep 7;have y14:=y.trans ((Dr.ext y.pk x3).trans y4);have l4:=y4.keep _ _ hpa (x3 _ _ l);refine⟨⟨_,l4⟩,?_⟩;refine⟨_,_,rfl,.mk s2 s1 %[|5],?_⟩;have sd:=s2.sub s1;refine⟨u,_,_,rfl,by have:=Xd (t[i].2-t[i].1);omega,⟨3,_,su,sd.1,Yk sd,by omega⟩,?_⟩;rw[Ya];refine⟨_,_,rfl,.mk s1 (su.mul sd) %[|5],?_⟩;refine⟨_,l4,?_,?_⟩
  ·simp only[List.length_map];omega
  ·refine hN _ _ ⟨r++[t[i].1+u*(t[i].2-t[i].1)],_,_,_,y14.upd_new e1 hpa,by rw[mupd_same,List.map_append];rfl,by simp[hl],?_,?_,rfl⟩
   ·intro x hx
    rcases List.mem_append.mp hx with hx|hx
    ·exact hs x hx
    ·simp at hx;subst hx
     have m:=gu.mulW (g2.sub %[|4] g1);have n:=g1.down (W:=12) %[|4] %[|4];exact (n.add %[|4] m).mono %[|4]
   ·intro j hj
    by_cases c:j<r.length
    ·rw[Hk c];exact hb j %[|5]
    ·have:j=r.length:=by omega
     subst this;rw[Hl,hl,elo,ehi];have d0:0<=t[i].2-t[i].1:=by grind
     have m0:=Rat.mul_nonneg u0 d0;have m1:=Rat.mul_le_mul_of_nonneg_right u1 d0;constructor<;>grind
noncomputable def wy (b:Bool):DL.D:=.str (if b then "up" else "down")
noncomputable def bd (z:Nat×Bool):DL.D:=.tup [.int z.1,wy z.2]
noncomputable def YL (s:List Rat) (i:Nat):Option (Nat×Bool):=if ri s i<ri s (i+1) then some (i+1,true) else if ri s (i+1)<ri s i then some (i+1,false) else none
noncomputable def XC (s:List Rat) (n:Nat):List (Nat×Bool):=(List.range n).filterMap (YL s)
noncomputable def Xf (s:List Rat):List (Nat×Bool):=XC s (s.length-1)
theorem JU (s:List Rat) (n:Nat):XC s (n+1)=XC s n++(YL s n).toList:=by
 unfold XC;rw[List.range_succ,List.filterMap_append];cases h:YL s n<;>simp[h]
theorem Uz (h:∀ x∈r,Sz k x):∀ x∈Y0 r,Sz (k+k+1) x:=fun x hx=>by
 obtain⟨i,hi,rfl⟩:=List.mem_map.mp hx;have hi:=List.mem_range.mp hi;exact (h _ (Yh %[|5])).sub (h _ (Yh %[|5]))
noncomputable def YK (t:List (Rat×Rat)) (r:List Rat) (z:Nat×Bool):Bool:=decide (ri r z.1=if z.2 then hi t z.1 else lo t z.1)
noncomputable def Xl (t:List (Rat×Rat)) (d:DL.D):Bool:=by
 classical exact decide (∃ r,d=rw r/\r.length=t.length/\Taut (lo t) (hi t) (ri r) (t.length-1))
theorem bend_mem:z∈Xf s ↔ ∃ i,i+1<s.length/\YL s i=some z:=by
 unfold Xf XC;rw[List.mem_filterMap];constructor
 ·rintro⟨i,hi,e⟩;exact⟨i,by have:=List.mem_range.mp hi;omega,e⟩
 ·rintro⟨i,hi,e⟩;exact⟨i,List.mem_range.mpr %[|5],e⟩
theorem XT (h:r.length=t.length) (h2:2<=t.length):(Yr t r&&(Xf (Y0 r)).all (YK t r))=true ↔ Taut (lo t) (hi t) (ri r) (t.length-1):=by
 have sl:=YC r;rw[Bool.and_eq_true,YQ h,List.all_eq_true];constructor
 ·rintro⟨a,b⟩
  refine⟨fun k hk=>(a k %[|5]).1,fun k hk=>(a k %[|5]).2,fun k k0 kn hu=>?_,fun k k0 kn hu=>?_⟩
  ·obtain⟨i,rfl⟩:∃ i,k=i+1:=⟨k-1,by omega⟩
   have e1:=YT (r:=r) (i:=i) %[|5];have e2:=YT (r:=r) (i:=i+1) %[|5];rw[Nat.add_sub_cancel,<- e1,<- e2] at hu;have:=b (i+1,true) (bend_mem.mpr ⟨i,by omega,by unfold YL;rw[if_pos hu]⟩);unfold YK at this
   simpa using this
  ·obtain⟨i,rfl⟩:∃ i,k=i+1:=⟨k-1,by omega⟩
   have e1:=YT (r:=r) (i:=i) %[|5];have e2:=YT (r:=r) (i:=i+1) %[|5];rw[Nat.add_sub_cancel,<- e1,<- e2] at hu;have:=b (i+1,false) (bend_mem.mpr ⟨i,by omega,by unfold YL;rw[if_neg (by grind),if_pos hu]⟩);unfold YK at this
   simpa using this
 ·intro T
  refine⟨fun i hi'=>⟨T.low i %[|5],T.high i %[|5]⟩,fun z hz=>?_⟩;obtain⟨i,hi',e⟩:=bend_mem.mp hz;have e1:=YT (r:=r) (i:=i) %[|5];have e2:=YT (r:=r) (i:=i+1) %[|5];unfold YL at e;split at e
  ·rename_i c
   cases e;rw[e1,e2] at c;unfold YK
   simpa using T.up (i+1) %[|5] %[|5] (by rw[Nat.add_sub_cancel];exact c)
  ·split at e
   ·rename_i c
    cases e;rw[e1,e2] at c;unfold YK
    simpa using T.down (i+1) %[|5] %[|5] (by rw[Nat.add_sub_cancel];exact c)
   ·cases e
theorem Ve (h:r.length=t.length) (h2:2<=t.length):Xl t (rw r)=(Yr t r&&(Xf (Y0 r)).all (YK t r)):=by
 unfold Xl;rw[Bool.eq_iff_iff,XT h h2];simp only[decide_eq_true_eq];constructor
 ·rintro⟨s,e,_,T⟩;rw[XU e];exact T
 ·intro T;exact⟨r,rfl,h,T⟩
theorem Wc (h:ZJ t d=true):∃ r,d=rw r/\r.length=t.length/\Yr t r=true:=by
 unfold ZJ at h
 simpa using h
noncomputable def S_56:DSp:=fun ds M Q E=>∃ t r,ds=[tb t,rw r]/\r.length=t.length/\t.length<=100/\(∀ i,i<t.length->Sz 1900 (lo t i)/\Sz 1900 (hi t i))/\(∀ x∈r,Sz 1900 x)/\Q (.bl (Yr t r)) M
noncomputable def C_56:CSs:=%[.ife (.cmp .NotEq (.bi .len %[.var 1|0]) (.bi .len %[.var 0|0])) %[.ret (.bl false)|0] .nil,.fr (.name 2) (.rng %[.bi .len %[.var 0|0]|0]) %[.ife (.or (.call "_law_under" S_23 %[.ix (.var 1) (.var 2),.ix (.ix (.var 0) (.var 2)) (.int 0)|0]) (.one (.call "_law_under" S_23 %[.ix (.ix (.var 0) (.var 2)) (.int 1),.ix (.var 1) (.var 2)|0]))) %[.ret (.bl false)|0] .nil|0],.ret (.bl true)|0]
theorem vc_56:∀ ds M R E,S_56 ds M R E->rSs C_56 (ends R E) (Y1 3 ds) M:=by
 rintro ds M R E ⟨t,r,rfl,rl,hl,sb,sr,q⟩;unfold C_56;sleep 7;refine YO true ?_;simp[rl];sleep 9;refine⟨by omega,?_⟩;refine Yv (fun i δ M'=>∃ w,M'=M/\(∀ j,j<i->lo t j<=ri r j/\ri r j<=hi t j)/\δ=[some (tb t),some (rw r),w]) (fun _ _ _ _=>trivial) ?_ ?_ ⟨_,rfl,nofun,rfl⟩
 ·rintro δ M' ⟨w,rfl,hb,rfl⟩
  rw[Xo] at hb;sleep 7;rw[(YQ rl).mpr hb] at q;exact q
 ·rintro i x hx N hN δ M' ⟨w,rfl,hb,rfl⟩
  obtain⟨rfl,hi'⟩:=W6 hx;have hi2:i<t.length:=by omega
  have s0:=sr _ (Yh (show i<r.length by omega));have sbi:=sb i hi2;have no:(ri r i<lo t i\/hi t i<ri r i)->R (.bl false) M':=fun h=>by
   have e:Yr t r=false:=by
    cases e:Yr t r with
    | false=>rfl
    | true =>
     have:=(YQ rl).mp e i hi2;rcases h with h|h<;>grind
   rw[e] at q;exact q
  rw[show ((0:Int)+(i:Int)*1)=((i:Nat):Int) by omega];sleep 8;sleep 7;refine YZ %[|5] ?_;refine AQ hi2 ?_;sleep 8;refine⟨_,_,rfl,.mk s0 sbi.1 %[|4],?_⟩;by_cases c:ri r i<lo t i
  ·simp[c]
   sleep 7;exact no (.inl c)
  ·simp[c]
   refine AQ hi2 ?_;sleep 8;refine YZ %[|5] ?_;refine⟨_,_,rfl,.mk sbi.2 s0 %[|4],?_⟩;by_cases c2:hi t i<ri r i
   ·simp[c2]
    sleep 7;exact no (.inr c2)
   ·simp[c2]
    refine hN _ _ ⟨_,rfl,fun j hj=>?_,rfl⟩;rcases (by omega:j<i\/j=i) with h|rfl
    ·exact hb j h
    ·constructor<;>grind
noncomputable def S_57:DSp:=fun ds M Q E=>∃ t r,ds=[tb t,rw r]/\r.length=t.length/\2<=t.length/\t.length<=100/\(∀ i,i<t.length->Sz 1900 (lo t i)/\Sz 1900 (hi t i))/\(∀ x∈r,Sz 1900 x)/\∀ M',MExt M M'->Q (.bl (Xl t (rw r))) M'
theorem VU:(XC (Y0 r) (n+1)).all (YK t r)=((XC (Y0 r) n).all (YK t r)&&((YL (Y0 r) n).toList).all (YK t r)):=by
 rw[JU,List.all_append]
theorem A4 (hn:n+1<(Y0 r).length) (h:YL (Y0 r) n=some z) (hz:YK t r z=false):(Xf (Y0 r)).all (YK t r)=false:=by
 rw[List.all_eq_false];exact⟨z,bend_mem.mpr ⟨n,hn,h⟩,by rw[hz];decide⟩
noncomputable def C_57:CSs:=%[.set 2 (.call "_law_steps" S_3 %[.var 1|0]),.fr (.name 3) (.rng %[.int 1,.bin .Sub (.bi .len %[.var 1|0]) (.int 1)|0]) %[.ife (.and (.call "_law_under" S_23 %[.ix (.var 2) (.bin .Sub (.var 3) (.int 1)),.ix (.var 2) (.var 3)|0]) (.one (.cmp .NotEq (.ix (.var 1) (.var 3)) (.ix (.ix (.var 0) (.var 3)) (.int 1))))) %[.ret (.bl false)|0] .nil,.ife (.and (.call "_law_under" S_23 %[.ix (.var 2) (.var 3),.ix (.var 2) (.bin .Sub (.var 3) (.int 1))|0]) (.one (.cmp .NotEq (.ix (.var 1) (.var 3)) (.ix (.ix (.var 0) (.var 3)) (.int 0))))) %[.ret (.bl false)|0] .nil|0],.ret (.call "_law_within" S_56 %[.var 0,.var 1|0])|0]
theorem vc_57:∀ ds M R E,S_57 ds M R E->rSs C_57 (ends R E) (Y1 4 ds) M:=by
 rintro ds M R E ⟨t,r,rfl,rl,h2,h100,sb,sr,q⟩;have sl:=YC r;have ss:=Uz sr;unfold C_57;sleep 7;refine⟨r,1900,rfl,sr,by decide,by omega,by omega,fun M1 x1=>?_⟩;sleep 9;refine⟨by omega,by omega,?_⟩;have q1:=q M1 x1;rw[Ve rl h2] at q1;refine Yv (fun i δ M'=>∃ w,M'=M1/\(XC (Y0 r) i).all (YK t r)=true/\δ=[some (tb t),some (rw r),some (rw (Y0 r)),w]) (fun _ _ _ _=>trivial) ?_ ?_ ⟨_,rfl,rfl,rfl⟩
 ·rintro δ M' ⟨w,rfl,hb,rfl⟩
  rw[Xo] at hb;sleep 7;have e:(Xf (Y0 r)).all (YK t r)=true:=by
   unfold Xf;rw[show (Y0 r).length-1=r.length-1-1 by omega];exact hb
  rw[e,Bool.and_true] at q1;exact⟨t,r,rfl,rl,h100,sb,sr,q1⟩
 ·rintro i x hx N hN δ M' ⟨w,rfl,hb,rfl⟩
  obtain⟨rfl,hi'⟩:=W6 hx;have hi2:i+2<t.length:=by omega
  have hin:i+1<(Y0 r).length:=by omega
  have s0:=ss _ (Yh (show i<(Y0 r).length by omega));have s1:=ss _ (Yh hin);have no:∀ z,YL (Y0 r) i=some z->YK t r z=false->R (.bl false) M':=fun z h1 h2=>by
   rw[A4 hin h1 h2,Bool.and_false] at q1;exact q1
  rw[show ((1:Int)+(i:Int)*1)=((i+1:Nat):Int) by omega];sleep 8;refine Zm fun J hJ=>?_;have tail:(ri (Y0 r) i<ri (Y0 r) (i+1)->ri r (i+1)=hi t (i+1))->J [some (tb t),some (rw r),some (rw (Y0 r)),some (.int ((i:Int)+1))] M':=by
   intro up;refine hJ _ _ ?_;sleep 7;refine YZ (i:=i+1) %[|5] ?_;refine YZ (i:=i) %[|5] ?_;refine⟨_,_,rfl,.mk s1 s0 %[|4],?_⟩;by_cases c2:ri (Y0 r) (i+1)<ri (Y0 r) i
   ·have nc:¬ ri (Y0 r) i<ri (Y0 r) (i+1):=by grind
    have hb2:YL (Y0 r) i=some (i+1,false):=by unfold YL;rw[if_neg nc,if_pos c2]
    simp[c2];refine YZ (i:=i+1) %[|5] ?_;refine AQ (i:=i+1) %[|5] ?_;sleep 8;refine Wi true ?_;by_cases c3:ri r (i+1)=lo t (i+1)
    ·simp[c3]
     refine hN _ _ ⟨_,rfl,?_,rfl⟩;rw[VU,hb,hb2];simp[YK,c3]
    ·simp[c3]
     sleep 7;exact no _ hb2 (by simp[YK,c3])
   ·simp[c2]
    refine hN _ _ ⟨_,rfl,?_,rfl⟩;rw[VU,hb];by_cases c1:ri (Y0 r) i<ri (Y0 r) (i+1)
    ·rw[show YL (Y0 r) i=some (i+1,true) by unfold YL;rw[if_pos c1]]
     simp[YK,up c1]
    ·rw[show YL (Y0 r) i=none by unfold YL;rw[if_neg c1,if_neg c2]]
     rfl
  sleep 8;refine YZ (i:=i) %[|5] ?_;refine YZ (i:=i+1) %[|5] ?_;refine⟨_,_,rfl,.mk s0 s1 %[|4],?_⟩;by_cases c:ri (Y0 r) i<ri (Y0 r) (i+1)
  ·have hb2:YL (Y0 r) i=some (i+1,true):=by unfold YL;rw[if_pos c]
   simp[c];refine YZ (i:=i+1) %[|5] ?_;refine AQ (i:=i+1) %[|5] ?_;sleep 8;refine Wi true ?_;by_cases c3:ri r (i+1)=hi t (i+1)
   ·simp[c3]
    exact tail fun _=>c3
   ·simp[c3]
    sleep 7;exact no _ hb2 (by simp[YK,c3])
  ·simp[c]
   exact tail fun z=>absurd z c
theorem VW {lo hi r:Nat->Rat} {n:Nat} (T:Taut lo hi r n) (h0:r 0=lo 0):∀ i,i<n->∃ b,b<=i/\(r b=lo b\/r b=hi b)/\∀ m,b<=m->m<=i+1->r m=r b+((m-b:Nat):Rat)*(r (i+1)-r i)
 | 0,_=>⟨0,Nat.le_refl _,.inl h0,fun m _ h=>by
   rcases (by omega:m=0\/m=1) with rfl|rfl
   ·show r 0=r 0+(0:Rat)*_;grind
   ·show r 1=r 0+(1:Rat)*(r 1-r 0);grind⟩
 | i+1,h=>by
  by_cases c:r (i+1)-r i=r (i+2)-r (i+1)
  ·obtain⟨b,b1,b2,b3⟩:=VW T h0 i %[|5]
   refine⟨b,by omega,b2,fun m m1 m2=>?_⟩;show r m=r b+_*(r (i+2)-r (i+1));rcases (by omega:m=i+2\/m<=i+1) with rfl|q
   ·have:=b3 (i+1) %[|5] %[|5]
    rw[show i+2-b=(i+1-b)+1 by omega];have e:((i+1-b+1:Nat):Rat)=((i+1-b:Nat):Rat)+1:=by push_cast;rfl
    rw[e,<- c];grind
   ·rw[b3 m m1 q,c]
  ·refine⟨i+1,Nat.le_refl _,?_,fun m m1 m2=>?_⟩
   ·rcases tri (r (i+1)-r i) (r (i+2)-r (i+1)) with z|z|z
    ·exact .inr (T.up (i+1) %[|5] h (by rw[Nat.add_sub_cancel];exact z))
    ·exact absurd z c
    ·exact .inl (T.down (i+1) %[|5] h (by rw[Nat.add_sub_cancel];exact z))
   ·rcases (by omega:m=i+1\/m=i+2) with rfl|rfl
    ·rw[Nat.sub_self];show r (i+1)=r (i+1)+(0:Rat)*_;grind
    ·rw[show i+2-(i+1)=1 by omega];show r (i+2)=r (i+1)+(1:Rat)*(r (i+2)-r (i+1));grind
theorem Vd {lo hi r:Nat->Rat} {n:Nat} (T:Taut lo hi r n) (hn:r n=lo n):∀ d i,n-i=d->i<n->∃ e,i<e/\e<=n/\(r e=lo e\/r e=hi e)/\r e=r i+((e-i:Nat):Rat)*(r (i+1)-r i)
 | 0,i,q,h=>by omega
 | d+1,i,q,h=>by
  by_cases hl:i+1=n
  ·refine⟨i+1,by omega,by omega,.inl (by rw[hl];exact hn),?_⟩
   rw[show i+1-i=1 by omega];show r (i+1)=r i+(1:Rat)*_;grind
  ·by_cases c:r (i+1)-r i=r (i+2)-r (i+1)
   ·obtain⟨e,e1,e2,e3,e4⟩:=Vd T hn d (i+1) %[|5] %[|5]
    refine⟨e,by omega,e2,e3,?_⟩;rw[e4,show r (i+1+1)-r (i+1)=r (i+1)-r i from c.symm,show e-i=(e-(i+1))+1 by omega];have e':((e-(i+1)+1:Nat):Rat)=((e-(i+1):Nat):Rat)+1:=by push_cast;rfl
    rw[e'];grind
   ·refine⟨i+1,by omega,by omega,?_,?_⟩
    ·rcases tri (r (i+1)-r i) (r (i+2)-r (i+1)) with z|z|z
     ·exact .inr (T.up (i+1) %[|5] %[|5] (by rw[Nat.add_sub_cancel];exact z))
     ·exact absurd z c
     ·exact .inl (T.down (i+1) %[|5] %[|5] (by rw[Nat.add_sub_cancel];exact z))
    ·rw[show i+1-i=1 by omega];show r (i+1)=r i+(1:Rat)*_;grind
theorem By {lo hi r:Nat->Rat} {n L B:Nat} (T:Taut lo hi r n) (h0:r 0=lo 0) (hn:r n=lo n) (h1:1<=n) (h2:n<=24) (l0:0<L) (g:∀ k,k<=n->Gr L B (lo k)/\Gr L B (hi k)):∀ i,i<=n->Gr (L*5354228880) (49*(B*5354228880)) (r i):=by
 have lw:0<L*5354228880:=by omega
 have gt:∀ k,k<=n->(r k=lo k\/r k=hi k)->Gr L B (r k):=fun k hk h=>by
  rcases h with h|h<;>rw[h]
  ·exact (g k hk).1
  ·exact (g k hk).2
 have main:∀ i,i<n->Gr (L*5354228880) (49*(B*5354228880)) (r i):=fun i hi'=>by
  obtain⟨b,b1,b2,b3⟩:=VW T h0 i hi';obtain⟨e,e1,e2,e3,e4⟩:=Vd T hn _ i rfl hi';have rb:=gt b %[|5] b2;have re:=gt e e2 e3;have ri':=b3 i b1 %[|5];have d0:(0:Rat)<((e-b:Nat):Rat):=by exact_mod_cast (by omega:0<e-b)
  have es:r e-r b=((e-b:Nat):Rat)*(r (i+1)-r i):=by
   rw[e4,ri',show e-b=(e-i)+(i-b) by omega];have:((e-i+(i-b):Nat):Rat)=((e-i:Nat):Rat)+((i-b:Nat):Rat):=by push_cast;rfl
   rw[this];grind
  have s:r (i+1)-r i=(r e-r b) / ((e-b:Nat):Rat):=by
   rw[es,Rat.mul_comm,Rat.mul_div_cancel (by grind)]
  have gs:=(re.sub l0 rb).div (W:=5354228880) (d:=e-b) %[|5] (KM ⟨e-b,by omega⟩ (by show 0<e-b;omega)) l0 %[|4];rw[<- s] at gs;rw[ri'];refine ((rb.up l0 (W:=5354228880) %[|4]).add lw (gs.times lw (i-b))).mono ?_;have:(i-b)*((B+B)*5354228880)<=24*((B+B)*5354228880):=Nat.mul_le_mul_right _ %[|5];omega
 intro i hi';rcases (by omega:i<n\/i=n) with q|rfl
 ·exact main i q
 ·exact ((gt i %[|3] (.inl hn)).up l0 (W:=5354228880) %[|4]).mono %[|5]
noncomputable def sizesK:List Str:=["taut","loose","ring","leveller","no leveller","not taut","smooth","stair","settled","store","speeds","done"]
noncomputable def Ab:List DL.D:=[.int 2,.int 2,.int 2,.int 2,.int 2,.int 2,.int 3,.int 2,.int 2,.int 3,.int 2,.int 3]
noncomputable def J8:List Str:=["taut","loose","ring","smooth","stair","store","speeds","done"]
noncomputable def J7:List DL.D:=[.fn "taut_holds",.fn "loose_holds",.fn "ring_holds",.fn "smooth_holds",.fn "stair_holds",.fn "store_holds",.fn "speeds_hold",.fn "done_holds"]
noncomputable def withK:List Str:=["leveller","no leveller","not taut","settled"]
noncomputable def GB:List DL.D:=[.fn "leveller_holds",.fn "no_leveller_holds",.fn "not_taut_holds",.fn "settled_holds"]
noncomputable def J6:DL.D:=.sd sizesK Ab
noncomputable def Xk:DL.D:=.sd J8 J7
noncomputable def Xh:DL.D:=.sd withK GB
theorem GH (h:xs.contains w=b) (q:Q (.bl b) M):cIn false (.str w) (.sd xs ds) M Q:=⟨w,rfl,by rw[h];exact q⟩
theorem Ji (h:xs.contains w=b) (q:Q (.bl !b) M):cIn true (.str w) (.sd xs ds) M Q:=⟨w,rfl,by rw[h];exact q⟩
theorem AU (h:sdAt xs ds w=some d) (q:Q d M):iOp (.sd xs ds) (.str w) M Q:=⟨d,h,q⟩
theorem DR (q:Q (.bl true) M):fIsi [.str w,.ty "str"] M Q:=by unfold fIsi;simpa[tyD,isiT] using q
noncomputable def XS (t:List (Rat×Rat)) (r c:List Rat) (i:Nat):Bool:=(!decide (ri c i<ri c (i+1)) || decide (ri r i=hi t i))&&(!decide (ri c (i+1)<ri c i) || decide (ri r i=lo t i))
noncomputable def Xg (t:List (Rat×Rat)) (r c:List Rat):Bool:=(List.range t.length).all (XS t r c)
theorem AE:Xg t r c=true ↔ ∀ i,i<t.length->(ri c i<ri c (i+1)->ri r i=hi t i)/\(ri c (i+1)<ri c i->ri r i=lo t i):=by
 unfold Xg;rw[List.all_eq_true];constructor
 ·intro h i hi'
  have:=h i (List.mem_range.mpr hi');unfold XS at this;simp only[Bool.and_eq_true,Bool.or_eq_true,Bool.not_eq_true',decide_eq_false_iff_not,decide_eq_true_eq] at this;exact⟨fun z=>this.1.resolve_left fun w=>w z,fun z=>this.2.resolve_left fun w=>w z⟩
 ·intro h i hi'
  have:=h i (List.mem_range.mp hi');unfold XS;simp only[Bool.and_eq_true,Bool.or_eq_true,Bool.not_eq_true',decide_eq_false_iff_not,decide_eq_true_eq];exact⟨Decidable.not_or_of_imp this.1,Decidable.not_or_of_imp this.2⟩
theorem AD (h:i<t.length) (h2:XS t r c i=false):Xg t r c=false:=by
 cases e:Xg t r c with
 | false=>rfl
 | true =>
  unfold Xg at e;rw[List.all_eq_true.mp e i (List.mem_range.mpr h)] at h2;cases h2
noncomputable def S_41:DSp:=fun ds M Q E=>∃ (t:List (Rat×Rat)) (r c:List Rat) (k:Nat),ds=[tb t,rw r,rw c]/\r.length=t.length/\c.length=t.length+1/\(∀ x∈c,Sz k x)/\k<=3990/\t.length<=100/\Q (.bl (Xg t r c)) M
noncomputable def C_41:CSs:=%[.fr (.tup %[.name 3,.tup %[.name 4,.name 5|0]|0]) (.enum %[.var 0|0]) %[.ife (.and (.call "is_less" S_4 %[.ix (.var 2) (.var 3),.ix (.var 2) (.bin .Add (.var 3) (.int 1))|0]) (.one (.cmp .NotEq (.ix (.var 1) (.var 3)) (.var 5)))) %[.ret (.bl false)|0] .nil,.ife (.and (.call "is_less" S_4 %[.ix (.var 2) (.bin .Add (.var 3) (.int 1)),.ix (.var 2) (.var 3)|0]) (.one (.cmp .NotEq (.ix (.var 1) (.var 3)) (.var 4)))) %[.ret (.bl false)|0] .nil|0],.ret (.bl true)|0]
theorem vc_41:∀ ds M R E,S_41 ds M R E->rSs C_41 (ends R E) (Y1 6 ds) M:=by
 rintro ds M R E ⟨t,r,c,k,rfl,rl,cl,sc,hk,t100,q⟩;unfold C_41;rw[show tb t=.tup (t.map pl) from rfl]
 (try dsimp only);rw[Ye];simp[0,vAt,vHd,Y3,and_assoc,sizeLine_eq,Yd,Z1,Yn,dFld,Zr,Zs,Zq,dFor,VF,Vx]
 rw[show D.tup (t.map pl)=tb t from rfl];refine Yv (fun i δ M'=>∃ (w3 w4 w5:Option DL.D),M'=M/\(∀ j,j<i->XS t r c j=true)/\δ=[some (tb t),some (rw r),some (rw c),w3,w4,w5]) (fun _ _ _ _=>trivial) ?_ ?_ ⟨_,_,_,rfl,nofun,rfl⟩
 ·rintro δ M' ⟨w3,w4,w5,rfl,al,rfl⟩
  rw[show (enD (t.map pl)).length=t.length by unfold enD;simp] at al;sleep 7;have:Xg t r c=true:=by
   unfold Xg;exact List.all_eq_true.mpr fun j hj=>al j (List.mem_range.mp hj)
  rw[this] at q;exact q
 ·rintro i y hy N hN δ M' ⟨w3,w4,w5,rfl,al,rfl⟩
  obtain⟨hi',rfl⟩:∃ h:i<t.length,y=.tup [.int (i:Int),pl t[i]]:=by
   obtain⟨h,e⟩:=List.getElem?_eq_some_iff.mp hy;have h':i<t.length:=by simpa[enD] using h
   exact⟨h',by rw[<- e];simp[enD]⟩
  sleep 8;have elo:t[i].1=lo t i:=by simp[lo,List.getD,hi']
  have ehi:t[i].2=hi t i:=by simp[hi,List.getD,hi']
  rw[elo,ehi];have s0:=sc _ (Yh (r:=c) (i:=i) %[|5]);have s1:=sc _ (Yh (r:=c) (i:=i+1) %[|5]);have no:XS t r c i=false->R (.bl false) M':=fun h=>by
   rw[AD hi' h] at q;exact q
  refine Zm fun J hJ=>?_;have tail:(ri c i<ri c (i+1)->ri r i=hi t i)->J [some (tb t),some (rw r),some (rw c),some (.int (i:Int)),some (nm (lo t i)),some (nm (hi t i))] M':=by
   intro up;refine hJ _ _ ?_;sleep 7;rw[show ((i:Int)+1)=((i+1:Nat):Int) by omega];refine YZ %[|5] ?_;refine YZ %[|5] ?_;refine⟨_,_,rfl,.mk s1 s0 %[|5],?_⟩;by_cases cc:ri c (i+1)<ri c i
   ·simp[cc]
    refine YZ %[|5] ?_;refine Wi true ?_;by_cases e:ri r i=lo t i
    ·simp[e]
     refine hN _ _ ⟨_,_,_,rfl,fun j hj=>?_,rfl⟩;by_cases z:j<i
     ·exact al j z
     ·obtain rfl:j=i:=by omega
      have nu:¬ ri c j<ri c (j+1):=by grind
      unfold XS;simp[nu,e]
    ·simp[e]
     sleep 7;refine no ?_;unfold XS;simp[cc,e]
   ·simp[cc]
    refine hN _ _ ⟨_,_,_,rfl,fun j hj=>?_,rfl⟩;by_cases z:j<i
    ·exact al j z
    ·obtain rfl:j=i:=by omega
     unfold XS;simp[cc];by_cases u:ri c j<ri c (j+1)
     ·exact .inr (up u)
     ·exact .inl (by grind)
  sleep 8;rw[show ((i:Int)+1)=((i+1:Nat):Int) by omega];refine YZ %[|5] ?_;refine YZ %[|5] ?_;refine⟨_,_,rfl,.mk s0 s1 %[|5],?_⟩;by_cases cc:ri c i<ri c (i+1)
  ·simp[cc]
   refine YZ %[|5] ?_;refine Wi true ?_;by_cases e:ri r i=hi t i
   ·simp[e]
    exact tail fun _=>e
   ·simp[e]
    sleep 7;refine no ?_;unfold XS;simp[cc,e]
  ·simp[cc]
   exact tail fun z=>absurd z cc
theorem Du (h:i<r.length-2):ri (mid r) i=ri r (i+1):=by
 have:(mid r)[i]?=r[i+1]?:=by
  unfold mid;rw[List.getElem?_take_of_lt h,List.getElem?_drop,Nat.add_comm]
 unfold ri;simp only[List.getD,this]
theorem UP (h:i<t.length-2):lo (mid t) i=lo t (i+1)/\hi (mid t) i=hi t (i+1):=by
 have:(mid t)[i]?=t[i+1]?:=by
  unfold mid;rw[List.getElem?_take_of_lt h,List.getElem?_drop,Nat.add_comm]
 unfold lo hi;simp only[List.getD,this,and_self]
noncomputable def Uk (t:List (Rat×Rat)) (r:List Rat):Bool:=Xg (mid t) (mid r) (Y0 r)
theorem Cj (h:r.length=t.length) (h2:2<=t.length):Uk t r=true ↔ ∀ i,0<i->i<t.length-1->(ri r i-ri r (i-1)<ri r (i+1)-ri r i->ri r i=hi t i)/\(ri r (i+1)-ri r i<ri r i-ri r (i-1)->ri r i=lo t i):=by
 unfold Uk;rw[AE,Za];constructor
 ·intro H i i0 i1
  have:=H (i-1) %[|5];rw[Du %[|5],(UP %[|5]).1,(UP %[|5]).2,YT %[|5],YT %[|5],show i-1+1=i by omega] at this;exact this
 ·intro H i hi'
  have:=H (i+1) %[|5] %[|5];rw[Du %[|5],(UP hi').1,(UP hi').2,YT %[|5],YT %[|5]];exact this
theorem Az (h:r.length=t.length) (h2:2<=t.length):(Yr t r&&Uk t r)=true ↔ Taut (lo t) (hi t) (ri r) (t.length-1):=by
 rw[Bool.and_eq_true,YQ h,Cj h h2];constructor
 ·rintro⟨a,b⟩
  exact⟨fun i hi'=>(a i %[|5]).1,fun i hi'=>(a i %[|5]).2,fun i i0 i1 z=>(b i i0 i1).1 z,fun i i0 i1 z=>(b i i0 i1).2 z⟩
 ·intro T
  exact⟨fun i hi'=>⟨T.low i %[|5],T.high i %[|5]⟩,fun i i0 i1=>⟨T.up i i0 i1,T.down i i0 i1⟩⟩
noncomputable def WK (t:List (Rat×Rat)) (e:DL.D):Bool:=by
 classical exact decide (∃ r,e=rw r/\r.length=t.length/\Yr t r=true/\Uk t r=true)
theorem Uj (h:ZJ t e=false):WK t e=false:=by
 unfold WK;simp only[decide_eq_false_iff_not];rintro⟨r,rfl,rl,hin,_⟩;rw[ZW rl,hin] at h;cases h
theorem JQ (rl:r.length=t.length) (hin:Yr t r=true):WK t (rw r)=Uk t r:=by
 unfold WK;cases e:Uk t r with
 | true=>simp only[decide_eq_true_eq];exact⟨r,rfl,rl,hin,e⟩
 | false =>
  simp only[decide_eq_false_iff_not];rintro⟨r',er,_,_,h⟩;cases XU er;rw[e] at h;cases h
noncomputable def VX (d e:DL.D):Bool:=by
 classical exact decide (∃ t,d=tb t/\Tube t/\tied t=true/\WK t e=true)
theorem Bz (h:Z7 d=false):VX d e=false:=by
 unfold VX;simp only[decide_eq_false_iff_not];rintro⟨t,rfl,T,ti,_⟩;rw[ZV T,ti] at h;cases h
theorem Jc (T:Tube t) (ti:tied t=true):VX (tb t) e=WK t e:=by
 unfold VX;cases z:WK t e with
 | true=>simp only[decide_eq_true_eq];exact⟨t,rfl,T,ti,z⟩
 | false =>
  simp only[decide_eq_false_iff_not];rintro⟨t',et,_,_,h⟩;cases Vc et;rw[z] at h;cases h
noncomputable def S_42:DSp:=fun ds M Q E=>∃ t e,ds=[tb t,e]/\Tube t/\Gd M (tb t)/\Gd M e/\(∀ r,e=rw r->∀ x∈r,Sz 1900 x)/\∀ M',MExt M M'->Q (.bl (WK t e)) M'
noncomputable def C_42:CSs:=%[.ret (.and (.call "is_row" S_33 %[.var 0,.var 1|0]) (.one (.call "bends_at_touches" S_41 %[.sl (.var 0) (.some (.int 1)) (.some (.neg (.int 1))),.sl (.var 1) (.some (.int 1)) (.some (.neg (.int 1))),.call "differences" S_28 %[.var 1|0]|0])))|0]
theorem vc_42:∀ ds M R E,S_42 ds M R E->rSs C_42 (ends R E) (Y1 2 ds) M:=by
 rintro ds M R E ⟨t,e,rfl,T,gt,ge,se,q⟩;have two:=T.two;have most:=T.most;unfold C_42;sleep 7;refine⟨tb t,e,rfl,gt,ge,.inr ⟨t,rfl,T,fun M1 x1=>?_⟩⟩;cases hr:ZJ t e with
 | false =>
  have:=q M1 x1;rw[Uj hr] at this
  simpa using this
 | true =>
  obtain⟨r,rfl,rl,hin⟩:=Wc hr;have sr:=se r rfl;have sl:=YC r;have c1:cutG t (some 1) (some (-1))=mid t:=by simpa using V1 t id two
  have c2:cutG r (some 1) (some (-1))=mid r:=by simpa using V1 r id %[|5]
  simp;rw[c1,c2];refine⟨r,1900,rfl,sr,by decide,by omega,by omega,fun M2 x2=>?_⟩;refine⟨mid t,mid r,Y0 r,3801,rfl,by rw[Za,Za,rl],by rw[Za];omega,Uz sr,by decide,by rw[Za];omega,?_⟩;have:=q M2 (x1.trans x2)
  rwa [JQ rl hin] at this
theorem U9 (h:Z7 d=true):∃ t,d=tb t/\Tube t/\tied t=true:=by
 cases ht:YX d with
 | false=>rw [Vy ht] at h;cases h
 | true =>
  obtain⟨t,rfl,T⟩:=isTube_iff.mp ht;rw[ZV T] at h;exact⟨t,rfl,T,h⟩
noncomputable def S_43:DSp:=fun ds M Q E=>∃ d e,ds=[.tup [d,e]]/\Gd M d/\Gd M e/\(∀ r,e=rw r->∀ x∈r,Sz 1900 x)/\∀ M',MExt M M'->Q (.bl (VX d e)) M'
noncomputable def C_43:CSs:=%[.asg (.tup %[.name 1,.name 2|0]) (.var 0),.ret (.and (.call "is_tied" S_20 %[.var 1|0]) (.one (.call "is_cord_of" S_42 %[.var 1,.var 2|0])))|0]
theorem vc_43:∀ ds M R E,S_43 ds M R E->rSs C_43 (ends R E) (Y1 3 ds) M:=by
 rintro ds M R E ⟨d,e,rfl,gd,ge,se,q⟩;unfold C_43;sleep 7;sleep 7;refine⟨d,rfl,gd,fun M1 x1=>?_⟩;cases ht:Z7 d with
 | false =>
  have:=q M1 x1;rw[Bz ht] at this
  simpa using this
 | true =>
  obtain⟨t,rfl,T,ti⟩:=U9 ht;simp;refine⟨t,e,rfl,T,gd.ext x1,ge.ext x1,se,fun M2 x2=>?_⟩;have:=q M2 (x1.trans x2)
  rwa [Jc T ti] at this
noncomputable def sq2 (s:List Rat):Rat:=tot (s.map fun x=>x*x)
theorem CF (hn:n<s.length):tot ((s.map fun x=>x*x).take (n+1))=tot ((s.map fun x=>x*x).take n)+ri s n*ri s n:=by
 have hl:n<(s.map fun x=>x*x).length:=by simpa using hn
 rw[List.take_succ_eq_append_getElem hl,X4]
 congr 1
 simp[ri,List.getD,hn]
theorem Aa {s:List Rat} {k:Nat} (h:∀ x∈s,Sz k x):∀ n,n<=s.length->Sz (1+(2*k+1)*n) (tot ((s.map fun x=>x*x).take n))
 | 0,_=>by
  show Sz (1+0) (0:Rat);exact⟨by decide,by decide⟩
 | n+1,hn=>by
  rw[CF %[|5]];have a:=h _ (Yh (show n<s.length by omega));refine ((Aa h n %[|5]).add (a.mul a)).mono ?_;rw[Nat.mul_succ];omega
theorem AR {s:List Rat} {k:Nat} (h:∀ x∈s,Sz k x) (hb:1+(2*k+1)*s.length<=3990):Sz 3990 (sq2 s):=by
 have:=Aa h s.length %[|3];rw[List.take_of_length_le (by simp)] at this;exact this.mono hb
noncomputable def S_27:DSp:=fun ds M Q E=>∃ (p:Addr) (s:List Rat),ds=[.lst p]/\M p=some (.ls (s.map nm))/\(∀ x∈s,Sz 3990 x)/\(∀ i,Sz 3990 (tot (s.take i)))/\Q (nm (tot s)) M
noncomputable def C_27:CSs:=%[.set 1 (.glo "NOUGHT" Wl),.fr (.name 2) (.seq (.var 0)) %[.set 1 (.call "added" S_12 %[.var 1,.var 2|0])|0],.ret (.var 1)|0]
theorem vc_27:∀ ds M R E,S_27 ds M R E->rSs C_27 (ends R E) (Y1 3 ds) M:=by
 rintro ds M R E ⟨p,s,rfl,l,hs,ht,q⟩;unfold C_27;sleep 7;sleep 9;refine⟨_,l,?_⟩;refine Yv (fun i δ M'=>∃ w,M'=M/\δ=[some (.lst p),some (nm (tot (s.take i))),w]) (fun _ _ _ h=>by obtain⟨_,h,_⟩:=h;rw[h];exact l) ?_ ?_ ⟨none,rfl,rfl⟩
 ·rintro δ M' ⟨w,rfl,rfl⟩
  sleep 7;exact q
 ·rintro i x hx N hN δ M' ⟨w,rfl,rfl⟩
  obtain⟨hi,rfl⟩:∃ hi:i<s.length,x=nm s[i]:=by
   obtain⟨h,e⟩:=List.getElem?_eq_some_iff.mp hx;have h':i<s.length:=by simpa using h
   exact⟨h',by rw[<- e];simp⟩
  sleep 8;sleep 7;refine⟨_,_,rfl,.mk (ht i) (hs _ (List.getElem_mem hi)) %[|4],?_⟩;refine hN _ _ ⟨some (nm s[i]),rfl,?_⟩;rw[List.take_succ_eq_append_getElem hi,X4]
noncomputable def S_30:DSp:=fun ds M Q E=>∃ (r:List Rat) (k:Nat),ds=[rw r]/\(∀ x∈r,Sz k x)/\k<=1000/\2<=r.length/\r.length<=25/\1+(2*(2*k+1)+1)*(r.length-1)<=3990/\∀ M',MExt M M'->Q (nm (sq2 (Y0 r))) M'
noncomputable def C_30:CSs:=%[.ret (.call "total" S_27 %[.comp ["row","step"] 1 (.name 1) (.seq (.call "steps" S_29 %[.var 0|0])) (.call "multiplied" S_11 %[.var 1,.var 1|0])|0])|0]
theorem vc_30:∀ ds M R E,S_30 ds M R E->rSs C_30 (ends R E) (Y1 1 ds) M:=by
 rintro ds M R E ⟨r,k,rfl,sr,hk,r2,r25,hb,q⟩;unfold C_30;have sl:=YC r;have ss:∀ x∈Y0 r,Sz (2*k+1) x:=fun x hx=>(Uz sr x hx).mono %[|5];rw[<- sl] at hb;sleep 7;refine Cm fun K hK=>?_;refine⟨rw r,rfl,XQ sr %[|5],.inr ⟨r,k,rfl,sr,by omega,r2,r25,fun M1 x1=>?_⟩⟩;refine hK M1 _ ((Y0 r).map nm) (fun d=>match num? d with|some x=>nm (x*x)|none=>.non) (fun _ _=>trivial) (by rw[List.length_map];omega) ?_ ?_
 ·intro y hy l M' R' hl e r'
  obtain⟨x,hx,rfl⟩:=List.mem_map.mp hy;obtain⟨u1,rfl⟩:=len1 hl;rw[Vs] at r';sleep 8;exact⟨x,x,rfl,.mk (ss x hx) (ss x hx) %[|5],r' [_] M' rfl (.refl M')⟩
 ·intro p M' hp e l
  refine⟨p,(Y0 r).map fun x=>x*x,rfl,?_,?_,fun i=>?_,q M' (x1.trans e)⟩
  ·rw[l];simp[Vs]
  ·intro y hy
   obtain⟨x,hx,rfl⟩:=List.mem_map.mp hy;have:1<=(Y0 r).length:=by omega
   have:=Nat.mul_le_mul_left (2*(2*k+1)+1) this;exact ((ss x hx).mul (ss x hx)).mono %[|5]
  ·by_cases c:i<=(Y0 r).length
   ·have:=Nat.mul_le_mul_left (2*(2*k+1)+1) c
    exact (Aa ss i c).mono %[|5]
   ·rw[List.take_of_length_le (by rw[List.length_map];omega)]
    exact AR ss hb
noncomputable def Fw (d:DL.D):Prop:=∀ r,d=rw r->r.length<=9->∀ x∈r,Sz 100 x
noncomputable def Ft (d:DL.D):Prop:=∀ t,d=tb t->t.length<=9/\∀ p∈t,Sz 1900 p.1/\Sz 1900 p.2
noncomputable def ntC (d e f:DL.D):Bool:=by
 classical exact decide (∃ t r s,d=tb t/\Tube t/\tied t=true/\e=rw r/\r.length=t.length/\Yr t r=true/\f=rw s/\s.length=t.length/\Yr t s=true/\sq2 (Y0 s)<sq2 (Y0 r))
theorem FE (h:Z7 d=false):ntC d e f=false:=by
 unfold ntC;simp only[decide_eq_false_iff_not];rintro⟨t,r,s,rfl,T,ti,_⟩;rw[ZV T,ti] at h;cases h
theorem WX (h:ZJ t e=false\/ZJ t f=false):ntC (tb t) e f=false:=by
 unfold ntC;simp only[decide_eq_false_iff_not];rintro⟨t',r,s,et,_,_,rfl,rl,hin,rfl,sl,hs,_⟩;cases Vc et;rcases h with h|h
 ·rw[ZW rl,hin] at h;cases h
 ·rw[ZW sl,hs] at h;cases h
theorem Ai (T:Tube t) (ti:tied t=true) (rl:r.length=t.length) (hr:Yr t r=true) (sl:s.length=t.length) (hs:Yr t s=true):ntC (tb t) (rw r) (rw s)=decide (sq2 (Y0 s)<sq2 (Y0 r)):=by
 unfold ntC;by_cases c:sq2 (Y0 s)<sq2 (Y0 r)
 ·rw[decide_eq_true c]
  simp only[decide_eq_true_eq];exact⟨t,r,s,rfl,T,ti,rfl,rl,hr,rfl,sl,hs,c⟩
 ·rw[decide_eq_false c]
  simp only[decide_eq_false_iff_not];rintro⟨t',r',s',et,_,_,er,_,_,es,_,_,h⟩;cases Vc et;cases XU er;cases XU es;exact c h
theorem Ej (h:∀ x∈r,Sz 100 x) (h9:r.length<=9) (h2:2<=r.length):1+(2*(2*100+1)+1)*(r.length-1)<=3990/\Sz 3990 (sq2 (Y0 r)):=by
 have sl:=YC r;have b:1+(2*(2*100+1)+1)*(r.length-1)<=3990:=by
  have:=Nat.mul_le_mul_left (2*(2*100+1)+1) (show r.length-1<=8 by omega);omega
 exact⟨b,AR (k:=2*100+1) (fun x hx=>(Uz h x hx).mono %[|5]) (by rw[sl];exact b)⟩
noncomputable def S_34:DSp:=fun ds M Q E=>∃ d e f,ds=[.tup [d,e],f]/\Gd M d/\Gd M e/\Gd M f/\Ft d/\Fw e/\Fw f/\∀ M',MExt M M'->Q (.bl (ntC d e f)) M'
noncomputable def C_34:CSs:=%[.asg (.tup %[.name 2,.name 3|0]) (.var 0),.ife (.or (.not (.call "is_tied" S_20 %[.var 2|0])) (.or (.not (.call "is_row" S_33 %[.var 2,.var 3|0])) (.one (.not (.call "is_row" S_33 %[.var 2,.var 1|0]))))) %[.ret (.bl false)|0] .nil,.ret (.call "is_less" S_4 %[.call "squares" S_30 %[.var 1|0],.call "squares" S_30 %[.var 3|0]|0])|0]
theorem vc_34:∀ ds M R E,S_34 ds M R E->rSs C_34 (ends R E) (Y1 4 ds) M:=by
 rintro ds M R E ⟨d,e,f,rfl,gd,ge,gf,fd,fe,ff,q⟩;unfold C_34;sleep 7;refine Zm fun J hJ=>?_;have tail:∀ t r s,d=tb t->Tube t->tied t=true->e=rw r->r.length=t.length->Yr t r=true->f=rw s->s.length=t.length->Yr t s=true->∀ M',MExt M M'->J [some (.tup [d,e]),some f,some d,some e] M':=by
  rintro t r s rfl T ti rfl rl hr rfl sl hs M1 x1;have two:=T.two;have t9:=(fd t rfl).1;have sr:=fe r rfl %[|5];have ss:=ff s rfl %[|5];have b1:=Ej sr %[|5] %[|5];have b2:=Ej ss %[|5] %[|5];refine hJ _ _ ?_;sleep 7;refine⟨s,100,rfl,ss,by decide,by omega,by omega,b2.1,fun M2 x2=>?_⟩;refine⟨r,100,rfl,sr,by decide,by omega,by omega,b1.1,fun M3 x3=>?_⟩;refine⟨_,_,rfl,.mk b2.2 b1.2 %[|4],?_⟩;have:=q M3 (x1.trans (x2.trans x3))
  rwa [Ai T ti rl hr sl hs] at this
 sleep 8;refine⟨d,rfl,gd,fun M1 x1=>?_⟩;cases ht:Z7 d with
 | false =>
  simp;sleep 7;have:=q M1 x1
  rwa [FE ht] at this
 | true =>
  obtain⟨t,rfl,T,ti⟩:=U9 ht;simp;refine⟨tb t,e,rfl,gd.ext x1,ge.ext x1,.inr ⟨t,rfl,T,fun M2 x2=>?_⟩⟩;cases hr:ZJ t e with
  | false =>
   simp;sleep 7;have:=q M2 (x1.trans x2)
   rwa [WX (.inl hr)] at this
  | true =>
   obtain⟨r,rfl,rl,hin⟩:=Wc hr;simp;refine⟨tb t,f,rfl,(gd.ext x1).ext x2,(gf.ext x1).ext x2,.inr ⟨t,rfl,T,fun M3 x3=>?_⟩⟩;cases hs:ZJ t f with
   | false =>
    simp;sleep 7;have:=q M3 (x1.trans (x2.trans x3))
    rwa [WX (.inr hs)] at this
   | true =>
    obtain⟨s,rfl,sl,hin2⟩:=Wc hs;simp;exact tail t r s rfl T ti rfl rl hin rfl sl hin2 M3 (x1.trans (x2.trans x3))
theorem Dy:∀ n,n<r.length->tot (((Y0 r).map f).take n)=fs f (ri r) n
 | 0,_=>rfl
 | n+1,h=>by
  have hn:n<((Y0 r).map f).length:=by rw[List.length_map,YC];omega
  rw[List.take_succ_eq_append_getElem hn,X4,Dy n %[|5]];show _=fs f (ri r) n+f (ri r (n+1)-ri r n)
  congr 1
  simp[Y0]
theorem Told.least (X:Told t k r) (T:Tube t) (ti:tied t=true) (ol:o.length=t.length) (hin:Yr t o=true):sq2 (Y0 r)<=sq2 (Y0 o):=by
 have two:=T.two;have rl:=X.len;have b:=(YQ ol).mp hin;unfold tied at ti;simp only[Bool.and_eq_true,decide_eq_true_eq] at ti;have b0:=b 0 %[|5];have b1:=b (t.length-1) %[|5];have e0:ri o 0=ri r 0:=by rw[X.first];grind
 have e1:ri o (t.length-1)=ri r (t.length-1):=by rw[X.last];grind
 have key:=X.taut.sq (o:=ri o) (fun k hk=>(b k %[|5]).1) (fun k hk=>(b k %[|5]).2) e0;have c1:sq2 (Y0 r)=fs (fun x=>x*x) (ri r) (t.length-1):=by
  rw[<- Dy _ %[|5]];unfold sq2;rw[List.take_of_length_le (by rw[List.length_map,YC];omega)]
 have c2:sq2 (Y0 o)=fs (fun x=>x*x) (ri o) (t.length-1):=by
  rw[<- Dy _ %[|5]];unfold sq2;rw[List.take_of_length_le (by rw[List.length_map,YC];omega)]
 rw[c1,c2];have key:=key (t.length-2) %[|5];rw[show t.length-2+1=t.length-1 by omega,e1] at key;have:=Xc (fun k=>ri o k-ri r k) (t.length-1);grind
theorem Told.no_less (X:Told t k r) (T:Tube t) (ti:tied t=true) (f:DL.D):ntC (tb t) (K.rw r) f=false:=by
 have hr:Yr t r=true:=(YQ X.len).mpr fun i hi'=>⟨X.taut.low i %[|5],X.taut.high i %[|5]⟩;cases hf:ZJ t f with
 | false=>exact WX (.inr hf)
 | true =>
  obtain⟨s,rfl,sl,hs⟩:=Wc hf;rw[Ai T ti X.len hr sl hs];have:=X.least T ti sl hs;exact decide_eq_false (by grind)
theorem Uv:∀ {s:List Rat} {i:Nat} {y:Rat},i<s.length->tot ((s.set i y).map f)=tot (s.map f)-f (ri s i)+f y
 | a::s,0,y,_=>by
  have e1:=Y7 (f a) (s.map f);have e2:=Y7 (f y) (s.map f);simp only[List.set_cons_zero,List.map_cons,ri,List.getD,List.getElem?_cons_zero,Option.getD_some];grind
 | a::s,i+1,y,h=>by
  have ih:=Uv (s:=s) (f:=f) (i:=i) (y:=y) (by simpa using h);have e1:=Y7 (f a) (s.map f);have e2:=Y7 (f a) ((s.set i y).map f);have e3:ri (a::s) (i+1)=ri s i:=by simp[ri,List.getD]
  simp only[List.set_cons_succ,List.map_cons,e3];grind
theorem V2 (c:canB v s=true):v.g≠v.l:=fun z=>by
 obtain⟨_,_,h1,h2⟩:=canB_iff.mp c;rw[z] at h2;grind
theorem Bj (hg:v.g<s.length) (hl:v.l<s.length) (ne:v.g≠v.l) (f:Rat->Rat):tot ((doL v s).map f)=tot (s.map f)-f (ri s v.g)+f (ri s v.g-v.x)-f (ri s v.l)+f (ri s v.l+v.x):=by
 unfold doL;rw[Uv (by rw[List.length_set];exact hl),Uv hg,Z3 ne]
theorem EI (c:canB v s=true) (k:Rat):tot ((doL v s).map (cutP k))<=tot (s.map (cutP k)):=by
 obtain⟨hg,hl,h1,h2⟩:=canB_iff.mp c;rw[Bj hg hl (V2 c)];have:cutP k (ri s v.g-v.x)+cutP k (ri s v.l+v.x)<=cutP k (ri s v.g)+cutP k (ri s v.l):=by
  unfold cutP
  repeat' split<;>grind
 grind
theorem Ba (h:1<=s.length):ri (Y2 s) (s.length-1)=tot s:=by
 rw[Ue %[|5],List.take_of_length_le (by rw[(YF s).length_eq];omega)];exact V8 (YF s)
theorem AB (c:canB v s=true) (s1:1<=s.length):Leads s (doL v s):=by
 obtain⟨hg,hl,h1,h2⟩:=canB_iff.mp c;have dl:=XN v s;refine⟨fun i h=>KG dl (EI c) h,?_⟩;have e:=Bj hg hl (V2 c) fun x=>x;rw[List.map_id',List.map_id'] at e;rw[Ba s1,<- dl,Ba %[|5],e];grind
theorem JA (hl:s.length=t.length) (a:Leads s t) (b:Leads t u):Leads s u :=
 ⟨fun i h=>Rat.le_trans (b.dom i (hl ▸ h)) (a.dom i h),by rw[a.fin,hl];exact b.fin⟩
theorem WA:∀ {vs:List Lv} {s t:List Rat},1<=s.length->walkP s vs=some t->Leads s t
 | [],s,t,_,h=>by cases h;exact⟨fun i _=>Rat.le_refl,rfl⟩
 | v::vs,s,t,s1,h=>by
  unfold walkP at h;split at h
  ·rename_i c
   have dl:=XN v s;exact JA dl.symm (AB c s1) (WA %[|5] h)
  ·cases h
theorem divInt_le {L:Nat} {p m:Int} (l0:0<L) (h:Rat.divInt p (L:Int)<=Rat.divInt m (L:Int)):p<=m:=by
 have L0:(0:Rat)<(((L:Nat):Int):Rat):=by exact_mod_cast (show (0:Int)<(L:Int) by omega)
 have e:∀ n:Int,Rat.divInt n (L:Int)*(((L:Nat):Int):Rat)=(n:Rat):=fun n=>by
  rw[Rat.divInt_eq_div,Rat.div_mul_cancel (by intro z;rw[z] at L0;exact absurd L0 %[|4])]
 have:=Rat.mul_le_mul_of_nonneg_right h (Rat.le_of_lt L0);rw[e,e] at this
 exact_mod_cast this
theorem Ea {L B C:Nat} (l0:0<L) {a y b:Rat} (ha:Gr L B a) (hb:Gr L B b) (hy:Gr L C y) (h1:a<=y) (h2:y<=b):Gr L B y:=by
 obtain⟨p,rfl,hp⟩:=ha;obtain⟨q,rfl,hq⟩:=hb;obtain⟨m,rfl,_⟩:=hy;have a1:=divInt_le l0 h1;have a2:=divInt_le l0 h2;exact⟨m,rfl,by omega⟩
theorem Gv (l0:0<L) (c:canB v s=true) (gs:∀ y∈s,Gr L B y) (gx:Gr L C v.x):∀ y∈doL v s,Gr L B y:=fun y hy=>by
 obtain⟨hg,hl,h1,h2⟩:=canB_iff.mp c;have g1:=gs _ (Yh hg);have g2:=gs _ (Yh hl);have ne:=V2 c;unfold doL at hy;rcases UD hy with hy|rfl
 ·rcases UD hy with hy|rfl
  ·exact gs y hy
  ·exact Ea l0 g2 g1 (g1.sub l0 gx) (by grind) (by grind)
 ·rw[Z3 ne]
  exact Ea l0 g2 g1 (g2.add l0 gx) (by grind) (by grind)
theorem J9 (l0:0<L):∀ {vs:List Lv} {s t:List Rat},(∀ v∈vs,Gr L C v.x)->(∀ y∈s,Gr L B y)->walkP s vs=some t->∀ y∈t,Gr L B y
 | [],s,t,_,gs,h=>by cases h;exact gs
 | v::vs,s,t,gv,gs,h=>by
  unfold walkP at h;split at h
  ·rename_i c
   exact J9 l0 (fun w hw=>gv w (List.mem_cons_of_mem _ hw)) (Gv l0 c gs (gv v List.mem_cons_self)) h
  ·cases h
structure Pap (L C:Nat) (vs:List Lv):Prop where
 x:∀ v∈vs,Gr L C v.x
 g:∀ v∈vs,v.g<100/\v.l<100
theorem Pap.szr (p:Pap L C vs) (l0:0<L) (hL:L<2 ^ 900) (hB:B<2 ^ 900) (hC:C<2 ^ 900) (gs:∀ y∈s,Gr L B y):SzR s vs :=
 ⟨fun v hv=>⟨(p.x v hv).sz l0 hL hC,p.g v hv⟩,fun i hi r hr y hy=>(J9 l0 (fun v hv=>p.x v (List.mem_of_mem_take hv)) gs hr y hy).sz l0 hL hB⟩
theorem ET (l0:0<L) (W:Way s vs) (pg:PG s vs L B) (h24:s.length<=24):Pap L (B+B) vs:=by
 have key:∀ i (h:i<vs.length),Gr L (B+B) (vs[i]).x/\vs[i].g<100/\vs[i].l<100:=fun i h=>by
  have c:=W i h;have rl:=W4 (vs.take i) s;have c1:=c.g;have c2:=c.l;have tk:vs.take (i+1)=vs.take i++[vs[i]]:=List.take_succ_eq_append_getElem h;have ne:=V2 (canB_iff.mpr ⟨c.g,c.l,c.pos,c.le⟩);have g1:=pg i %[|5] _ (Yh c.g);have h2:vs[i].g<(doL vs[i] (runL (vs.take i) s)).length:=by rw[XN];exact c.g
  have g2:=pg (i+1) %[|5] (ri (doL vs[i] (runL (vs.take i) s)) vs[i].g) (by
   rw[tk,W5];exact Yh h2)
  have e:ri (doL vs[i] (runL (vs.take i) s)) vs[i].g=ri (runL (vs.take i) s) vs[i].g-vs[i].x:=by
   unfold doL;rw[Z3 (Ne.symm ne)];simp[ri,List.getD,c.g]
  rw[e] at g2;have:=g1.sub l0 g2;rw[show ri (runL (vs.take i) s) vs[i].g-(ri (runL (vs.take i) s) vs[i].g-vs[i].x)=vs[i].x by grind] at this;exact⟨this,by omega,by omega⟩
 refine⟨fun v hv=>?_,fun v hv=>?_⟩<;>obtain⟨i,hi,rfl⟩:=List.getElem_of_mem hv
 ·exact (key i hi).1
 ·exact (key i hi).2
noncomputable def pp:Option (List Lv)->DL.D
 | none=>.non
 | some vs=>.tup (vs.map lv)
noncomputable def lvB (s o:List Rat):Option (List Lv)->Bool
 | none=>false
 | some vs=>decide (walkP o vs=some s)
noncomputable def S_40:DSp:=fun ds M Q E=>∃ (s o:List Rat) (w:Option (List Lv)),ds=[.tup [rw s,rw o],pp w]/\(∀ y∈s,Sz 900 y)/\(∀ y∈o,Sz 900 y)/\1<=s.length/\s.length<=24/\o.length=s.length/\(∀ vs,w=some vs->SzR o vs)/\∀ M',MExt M M'->Q (.bl (lvB s o w)) M'
noncomputable def C_40:CSs:=%[.asg (.tup %[.name 2,.name 3|0]) (.var 0),.ife (.or (.not (.call "are_steps" S_35 %[.var 2|0])) (.one (.not (.call "are_steps" S_35 %[.var 3|0])))) %[.ret (.bl false)|0] .nil,.trn %[.ret (.cmp .Eq (.call "levelled" S_39 %[.var 3,.var 1|0]) (.var 2))|0] "NoLevel" %[.ret (.bl false)|0]|0]
theorem vc_40:∀ ds M R E,S_40 ds M R E->rSs C_40 (ends R E) (Y1 4 ds) M:=by
 rintro ds M R E ⟨s,o,w,rfl,ss,so,s1,s24,ol,sw,q⟩;unfold C_40;sleep 7;sleep 7;refine⟨_,rfl,XQ ss %[|4],fun M1 x1=>?_⟩;rw[XI s1 s24];simp;refine⟨_,rfl,XQ so %[|4],fun M2 x2=>?_⟩;rw[XI %[|5] %[|5]];simp;have xx:=x1.trans x2
 (try dsimp only);rw[Ye];simp[0,vAt,vHd,Y3,and_assoc,sizeLine_eq,Yd,Z1,Yn,dFld,Zr,Zs,Zq,dTrn]
 sleep 7;cases w with
 | none =>
  refine⟨o,.non,rfl,so,by omega,by omega,.inl ⟨rfl,fun M3 x3=>?_⟩⟩;refine⟨_,rfl,.inl rfl,?_⟩;sleep 7;exact q M3 (xx.trans x3)
 | some vs =>
  refine⟨o,_,rfl,so,by omega,by omega,.inr ⟨vs,rfl,sw vs rfl,fun r hr M3 x3=>?_,fun hn i M3 x3=>?_⟩⟩
  ·refine KJ false ?_
   have:=q M3 (xx.trans x3);have e:lvB s o (some vs)=decide (r=s):=by
    show decide (walkP o vs=some s)=_;rw[hr];simp
   rw[e] at this;exact this
  ·refine⟨_,rfl,.inl rfl,?_⟩
   sleep 7;have:=q M3 (xx.trans x3);have e:lvB s o (some vs)=false:=by
    show decide (walkP o vs=some s)=_;rw[hn];simp
   rw[e] at this;exact this
noncomputable def nlB (s o:List Rat):DL.D->Bool
 | .non=>!decide (ri (Y2 s) (s.length-1)=ri (Y2 o) (s.length-1))
 | .int k=>decide (ri (Y2 o) (k.toNat-1)<ri (Y2 s) (k.toNat-1))
 | _=>false
theorem DZ (G:Gs s) (hl:s.length<=25) (h:i<s.length):Sz 1910 (ri (Y2 s) i):=by
 have:=JG G hl (ri (Y2 s) i) (by
  have e:=Xv s;have:i<(Y2 s).length:=by omega
  simp only[ri,List.getD,List.getElem?_eq_getElem this,Option.getD_some];exact List.getElem_mem this)
 exact this
theorem atI_last (h:1<=r.length):L2.atI (r.map nm) (-1)=some (nm (ri r (r.length-1))):=by
 have:=WS (r:=r) %[|5];exact this
noncomputable def S_46:DSp:=fun ds M Q E=>∃ (s o:List Rat) (f:DL.D),ds=[.tup [rw s,rw o],f]/\Gs s/\Gs o/\(∀ y∈s,Sz 900 y)/\(∀ y∈o,Sz 900 y)/\1<=s.length/\s.length<=24/\o.length=s.length/\(f=.non\/∃ k:Nat,f=.int k/\1<=k/\k<=s.length)/\∀ M',MExt M M'->Q (.bl (nlB s o f)) M'
noncomputable def C_46:CSs:=%[.asg (.tup %[.name 2,.name 3|0]) (.var 0),.ife (.or (.not (.call "are_steps" S_35 %[.var 2|0])) (.or (.not (.call "are_steps" S_35 %[.var 3|0])) (.one (.cmp .NotEq (.bi .len %[.var 2|0]) (.bi .len %[.var 3|0]))))) %[.ret (.bl false)|0] .nil,.par 4 5 (.call "sums_of_greatest" S_45 %[.var 2|0]) (.call "sums_of_greatest" S_45 %[.var 3|0]),.ife (.cmp .Is (.var 1) .non) %[.ret (.cmp .NotEq (.ix (.var 4) (.neg (.int 1))) (.ix (.var 5) (.neg (.int 1))))|0] .nil,.ife (.or (.not (.call "is_whole" S_15 %[.var 1|0])) (.one (.not (.chain .LtE .LtE (.int 1) (.var 1) (.bi .len %[.var 2|0]))))) %[.ret (.bl false)|0] .nil,.ret (.call "is_less" S_4 %[.ix (.var 5) (.bin .Sub (.var 1) (.int 1)),.ix (.var 4) (.bin .Sub (.var 1) (.int 1))|0])|0]
theorem vc_46:∀ ds M R E,S_46 ds M R E->rSs C_46 (ends R E) (Y1 6 ds) M:=by
 rintro ds M R E ⟨s,o,f,rfl,Gs1,Gs2,ss,so,h1,h24,hl,hf,q⟩;unfold C_46;sleep 7;sleep 7;refine⟨_,rfl,XQ ss %[|4],fun M1 x1=>?_⟩;rw[XI h1 h24];simp;refine⟨_,rfl,XQ so %[|4],fun M2 x2=>?_⟩;rw[XI %[|5] %[|5]];simp;refine YO true ?_;simp[hl];sleep 7;refine⟨s,rfl,Gs1,by omega,fun p2 M3 e2 x3 l2=>?_⟩;refine⟨o,rfl,Gs2,by omega,fun p3 M4 e3 x4 l3=>?_⟩;have l2':=x4 _ _ l2;have xx:MExt M M4:=x1.trans (x2.trans (x3.trans x4));have q':=q M4 xx;have lg:(Y2 s).length=s.length:=Xv s;have lo':(Y2 o).length=s.length:=(Xv o).trans hl;have at_:∀ (v:List Rat) (i:Nat),i<v.length->L2.atI (v.map nm) (i:Int)=some (nm (ri v i)):=fun v i h=>Yz (WD h);sleep 7;rcases hf with rfl|⟨k,rfl,k1,k2⟩
 ·refine Or.inr ⟨rfl,?_⟩
  sleep 7;refine Yo l2' (atI_last %[|5]) ?_;refine Yo l3 (atI_last %[|5]) ?_;refine Wi true ?_;rw[lg,lo'];exact q'
 ·refine Or.inl ⟨rfl,?_⟩
  sleep 7;refine⟨_,"int",rfl,rfl,?_⟩;simp;rw[if_pos %[|5]];simp[k2];sleep 7;rw[show (k:Int)-1=((k-1:Nat):Int) by omega];refine Yo l3 (at_ _ _ %[|5]) (Yo l2' (at_ _ _ %[|5]) ?_);refine⟨_,_,rfl,.mk (DZ Gs2 %[|5] %[|5]) (DZ Gs1 %[|5] %[|5]) %[|4],?_⟩;exact q'
noncomputable def S_47:DSp:=fun ds M Q E=>∃ (w:Str) (d e p:DL.D),ds=[.tup [.str w,d,e],p] /\
 ((w="taut"/\p=.non/\S_43 [.tup [d,e]] M Q E)\/(w="not taut"/\S_34 [.tup [d,e],p] M Q E)\/(w="leveller"/\S_40 [.tup [d,e],p] M Q E)\/(w="no leveller"/\S_46 [.tup [d,e],p] M Q E))
noncomputable def C_47:CSs:=%[.ife (.or (.not (.bi .isinstance %[.var 0,.ty .tuple|0])) (.or (.cmp .Eq (.bi .len %[.var 0|0]) (.int 0)) (.one (.not (.bi .isinstance %[.ix (.var 0) (.int 0),.ty .str|0]))))) %[.ret (.bl false)|0] .nil,.par 2 3 (.ix (.var 0) (.int 0)) (.sl (.var 0) (.some (.int 1)) .none),.ife (.or (.cmp .NotIn (.var 2) (.glo "SIZES" J6)) (.one (.cmp .NotEq (.bi .len %[.var 3|0]) (.ix (.glo "SIZES" J6) (.var 2))))) %[.ret (.bl false)|0] .nil,.ife (.cmp .In (.var 2) (.glo "WITH_PAPER" Xh)) %[.set 4 (.ix (.glo "WITH_PAPER" Xh) (.var 2)),.ret (.callv 4 [("leveller_holds",S_40),("no_leveller_holds",S_46),("not_taut_holds",S_34)] %[.var 3,.var 1|0])|0] .nil,.set 5 (.ix (.glo "WITHOUT_PAPER" Xk) (.var 2)),.ret (.and (.cmp .Is (.var 1) .non) (.one (.callv 5 [("taut_holds",S_43)] %[.var 3|0])))|0]
theorem At (n1:sizesK.contains w=true) (n2:sdAt sizesK Ab w=some (.int 2)) (n3:withK.contains w=true) (n4:sdAt withK GB w=some (.fn fn))
  (hc:∃ S:DSp,(fn="leveller_holds"/\S=S_40\/fn="no_leveller_holds"/\S=S_46\/fn="not_taut_holds"/\S=S_34)/\S [.tup [d,e],p] M R E):rSs C_47 (ends R E) (Y1 6 [.tup [.str w,d,e],p]) M:=by
 unfold C_47;refine Zm fun J hJ=>?_;have t1:J [some (.tup [.str w,d,e]),some p,none,none,none,none] M:=by
  refine hJ _ _ ?_;sleep 7;refine⟨.str w,Yw _ _,?_⟩;rw[show cutG [D.str w,d,e] (some 1) none=[d,e] from rfl]
  (try dsimp only)
  refine Zm fun J hJ=>?_;have t2:J [some (.tup [.str w,d,e]),some p,some (.str w),some (.tup [d,e]),none,none] M:=by
   refine hJ _ _ ?_;refine Zm fun J hJ=>?_;sleep 8;refine GH n3 ?_;simp;sleep 7;refine AU n4 ?_;sleep 7;exact hc
  sleep 8;refine Ji n1 ?_;simp;refine AU n2 ?_;refine YO true ?_;simp;exact t2
 sleep 8;refine YO false ?_;simp;refine⟨.str w,Yw _ _,?_⟩;refine DR ?_;simp;exact t1
theorem Il (hc:S_43 [.tup [d,e]] M R E):rSs C_47 (ends R E) (Y1 6 [.tup [.str "taut",d,e],.non]) M:=by
 unfold C_47;obtain⟨w,hw⟩:∃ w:Str,w="taut":=⟨_,rfl⟩;rw[<- hw];have n1:sizesK.contains w=true:=by subst hw;decide +kernel
 have n2:sdAt sizesK Ab w=some (.int 2):=by subst hw;rfl
 have n3:withK.contains w=false:=by subst hw;decide +kernel
 have n4:sdAt J8 J7 w=some (.fn "taut_holds"):=by subst hw;rfl
 refine Zm fun J hJ=>?_;have t1:J [some (.tup [.str w,d,e]),some .non,none,none,none,none] M:=by
  refine hJ _ _ ?_;sleep 7;refine⟨.str w,Yw _ _,?_⟩;rw[show cutG [D.str w,d,e] (some 1) none=[d,e] from rfl]
  (try dsimp only)
  refine Zm fun J hJ=>?_;have t2:J [some (.tup [.str w,d,e]),some .non,some (.str w),some (.tup [d,e]),none,none] M:=by
   refine hJ _ _ ?_;refine Zm fun J hJ=>?_;have t3:J [some (.tup [.str w,d,e]),some .non,some (.str w),some (.tup [d,e]),none,none] M:=by
    refine hJ _ _ ?_;sleep 7;refine AU n4 ?_;sleep 7;exact hc
   sleep 8;refine GH n3 ?_;simp;exact t3
  sleep 8;refine Ji n1 ?_;simp;refine AU n2 ?_;refine YO true ?_;simp;exact t2
 sleep 8;refine YO false ?_;simp;refine⟨.str w,Yw _ _,?_⟩;refine DR ?_;simp;exact t1
theorem vc_47:∀ ds M R E,S_47 ds M R E->rSs C_47 (ends R E) (Y1 6 ds) M:=by
 rintro ds M R E ⟨w,d,e,p,rfl,⟨rfl,rfl,h⟩|⟨rfl,h⟩|⟨rfl,h⟩|⟨rfl,h⟩⟩
 ·exact Il h
 ·exact At (fn:="not_taut_holds") (by decide +kernel) rfl (by decide +kernel) rfl ⟨_,.inr (.inr ⟨rfl,rfl⟩),h⟩
 ·exact At (fn:="leveller_holds") (by decide +kernel) rfl (by decide +kernel) rfl ⟨_,.inl ⟨rfl,rfl⟩,h⟩
 ·exact At (fn:="no_leveller_holds") (by decide +kernel) rfl (by decide +kernel) rfl ⟨_,.inr (.inl ⟨rfl,rfl⟩),h⟩
theorem KD (hg:g∈s) (hl:s.length<1000):∃ j,j<s.length/\ri s j=g/\(∀ m,m<j->ri s m≠g)/\IxAt M (s.map nm) (nm g) j:=by
 obtain⟨e',h1,h2,h3⟩:=enc_nm.ex;have hex:∃ x∈s.map e',PyData.eqv x (e' g)=true:=⟨e' g,List.mem_map_of_mem hg,by rw[h2];simp⟩;have hj:=List.findIdx_lt_length_of_exists hex;have h4:=List.findIdx_getElem (p:=fun q=>PyData.eqv q (e' g)) (w:=hj);have h5:∀ m (hm:m<(s.map e').findIdx (fun q=>PyData.eqv q (e' g))),PyData.eqv (s.map e')[m] (e' g)=false:=fun m hm=>by simpa using List.not_of_lt_findIdx hm
 obtain⟨j,ej⟩:∃ j,j=(s.map e').findIdx (fun q=>PyData.eqv q (e' g)):=⟨_,rfl⟩;have hj2:j<(s.map e').length:=by rw[ej];exact hj
 have hj':j<s.length:=by simpa using hj2
 refine⟨j,hj',?_,fun m hm=>?_,s.map e',e' g,UF (h1 M) s,h1 M g,by have:=h3 g;omega,by simpa using hl,hj2,ej.symm⟩
 ·simp only[<- ej] at h4
  rw[List.getElem_map,h2] at h4;have e:ri s j=s[j]:=by simp[ri,List.getD,hj']
  rw[e];simpa using h4
 ·have hm':m<s.length:=by omega
  have h6:=h5 m %[|5];rw[List.getElem_map,h2] at h6;have e:ri s m=s[m]:=by simp[ri,List.getD,hm']
  rw[e];simpa using h6
structure Sel (s dn lf:List Rat):Prop where
 perm:(dn++lf).Perm s
 fall:Fall dn
 ge:∀ a∈dn,∀ b∈lf,b<=a
theorem Sel.step (S:Sel s dn lf) (ha:a<lf.length) (hm:∀ b∈lf,b<=lf[a]):Sel s (dn++[lf[a]]) (lf.take a++lf.drop (a+1)):=by
 have e:lf.take a++lf[a]::lf.drop (a+1)=lf:=by rw[List.getElem_cons_drop_succ_eq_drop ha,List.take_append_drop]
 refine⟨?_,?_,?_⟩
 ·refine .trans ?_ S.perm
  have h1:(dn++[lf[a]]++(lf.take a++lf.drop (a+1))).Perm (dn++(lf.take a++lf[a]::lf.drop (a+1))):=by
   rw[List.append_assoc];refine List.Perm.append_left dn ?_;show (lf[a]::(lf.take a++lf.drop (a+1))).Perm _;exact List.perm_middle.symm
  rw[e] at h1;exact h1
 ·refine List.pairwise_append.mpr ⟨S.fall,List.pairwise_singleton _ _,fun x hx y hy=>?_⟩
  simp at hy;subst hy;exact S.ge x hx _ (List.getElem_mem ha)
 ·intro x hx y hy
  have hy':y∈lf:=by
   rcases List.mem_append.mp hy with h|h
   ·exact List.mem_of_mem_take h
   ·exact List.mem_of_mem_drop h
  rcases List.mem_append.mp hx with hx|hx
  ·exact S.ge x hx y hy'
  ·simp at hx;subst hx;exact hm y hy'
theorem En (f:α->β) (l:List α) (j:Nat):(l.map f).eraseIdx j=(l.take j++l.drop (j+1)).map f:=by
 rw[List.eraseIdx_eq_take_drop_succ,List.map_append,List.map_take,List.map_drop]
theorem HX {M:Mem} {Q:DK} {p p':Addr} {r:List Rat} (l:M p=some (.ls (r.map nm))) (l':M p'=some (.ls [])) (q:Q (.bl (!r.isEmpty)) M):cEq true (.lst p) (.lst p') M Q:=by
 obtain⟨e',h1,h2,h3⟩:=enc_nm.ex;refine⟨_,_,.lst l (UF (h1 M) r),.lst l' .nil,?_,?_⟩
 ·simp only[PyData.depth]
  have:=Wv (k:=3) (l:=r.map e') (by simp;exact fun a _=>h3 a);simp only[PyData.depthAll];omega
 ·cases r with
  | nil=>simpa[PyData.eqv,PyData.eqvAll] using q
  | cons a r=>simpa[PyData.eqv,PyData.eqvAll] using q
noncomputable def S_25:DSp:=fun ds M Q E=>∃ s:List Rat,ds=[rw s]/\Gs s/\s.length<=24/\∀ p M',M p=none->MExt M M'->M' p=some (.ls ((Y2 s).map nm))->Q (.lst p) M'
noncomputable def C_25:CSs:=%[.set 1 (.bi .list %[.var 0|0]),.set 2 (.lst .nil),.set 3 (.tup %[.int 0,.int 1|0]),.whl (.cmp .NotEq (.var 1) (.lst .nil)) %[.set 4 (.ix (.var 1) (.int 0)),.fr (.name 5) (.seq (.var 1)) %[.ife (.call "_law_under" S_23 %[.var 4,.var 5|0]) %[.set 4 (.var 5)|0] .nil|0],.expr (.rem 1 (.var 4)),.set 3 (.call "_law_more" S_24 %[.var 3,.var 4|0]),.expr (.app 2 (.var 3))|0],.ret (.var 2)|0]
theorem vc_25:∀ ds M R E,S_25 ds M R E->rSs C_25 (ends R E) (Y1 6 ds) M:=by
 rintro ds M R E ⟨s,rfl,G,s24,q⟩;have sz:=G.sz;unfold C_25;sleep 7;intro p1 M1 e1 x1 l1;sleep 7;intro p0 M2 e0 x2 l2;have l12:=x2 _ _ l1;have hpp:p0≠p1:=fun z=>by rw[z,l1] at e0;cases e0
 have e0':M p0=none:=MExt.none x1 e0;have xx:=x1.trans x2;sleep 7;rw[Ye];refine⟨fun m δ M'=>∃ (dn lf:List Rat) (w4 w5:Option DL.D),Sel s dn lf/\MExt M M'/\M' p0=some (.ls ((Z0 0 dn).map nm))/\M' p1=some (.ls (lf.map nm))/\δ=[some (rw s),some (.lst p1),some (.lst p0),some (nm (tot dn)),w4,w5]/\m=lf.length,⟨_,[],s,_,_,⟨.refl _,.nil,nofun⟩,xx,l2,l12,rfl,rfl⟩,?_⟩;rintro m δ M3 ⟨dn,lf,w4,w5,S,x3,la,lb,rfl,rfl⟩;have ll:=S.perm.length_eq;rw[List.length_append] at ll;have inl:∀ x∈lf,x∈s:=fun x hx=>S.perm.subset (List.mem_append_right _ hx);have ind:∀ x∈dn,x∈s:=fun x hx=>S.perm.subset (List.mem_append_left _ hx);sleep 8;intro p4 M4 e4 x4 l4;refine HX (x4 _ _ lb) l4 ?_;cases lf with
 | nil =>
  simp;sleep 7;have hs:srt s=dn:=(A9 (by simpa using S.perm) S.fall).symm;exact q p0 M4 e0' (x3.trans x4) (by rw[x4 _ _ la];unfold Y2;rw[hs])
 | cons b0 lf =>
  obtain⟨l,hl⟩:∃ l,l=b0::lf:=⟨_,rfl⟩;have hb0:b0∈l:=by rw[hl];exact List.mem_cons_self
  have h0:l[0]?=some b0:=by rw[hl];rfl
  rw[<- hl] at S ll inl lb ⊢;have ln:(!l.isEmpty)=true:=by rw[hl];rfl
  rw[ln];simp;refine⟨fun δ' M'=>∃ (dn' lf':List Rat) (w4 w5:Option DL.D),Sel s dn' lf'/\MExt M M'/\M' p0=some (.ls ((Z0 0 dn').map nm))/\M' p1=some (.ls (lf'.map nm))/\δ'=[some (rw s),some (.lst p1),some (.lst p0),some (nm (tot dn')),w4,w5]/\lf'.length<l.length,?_,?_⟩
  ·rintro δ' M' ⟨dn',lf',w4,w5,h1,h2,h3,h4,h5,h6⟩
   exact⟨_,h6,dn',lf',h1,h2,h3,h4,⟨w4,w5,h5⟩,rfl⟩
  have lb4:=x4 _ _ lb;have la4:=x4 _ _ la;sleep 7;refine Yo (v:=nm b0) lb4 (Yz (i:=0) (by simp[h0])) ?_;sleep 9;refine⟨_,lb4,?_⟩;refine Yv (fun i δ M'=>∃ (b:Rat) (w5:Option DL.D),b∈l/\(∀ j,j<i->ri l j<=b)/\M'=M4/\δ=[some (rw s),some (.lst p1),some (.lst p0),some (nm (tot dn)),some (nm b),w5]) (fun _ _ _ h=>by obtain⟨_,_,_,_,rfl,_⟩:=h;exact lb4) ?_ ?_ ⟨b0,_,hb0,nofun,rfl,rfl⟩
  ·rintro δ M' ⟨b,w,hb,hm,rfl,rfl⟩
   rw[List.length_map] at hm;obtain⟨j,hj,ej,_,hix⟩:=KD (M:=M') hb %[|5];have ejl:l[j]=b:=by rw[<- ej];simp[ri,List.getD,hj]
   have bm:∀ c∈l,c<=l[j]:=fun c hc=>by
    obtain⟨i,hi',rfl⟩:=List.getElem_of_mem hc;have:=hm i hi';rw[ejl]
    simpa[ri,List.getD,hi'] using this
   have S':=S.step hj bm;rw[ejl] at S';sleep 7;simp[0,dRem,vAt,vHd,Y3,and_assoc,sizeLine_eq,Yd,Z1,Yn,dFld,Zr,Zs,Zq];refine⟨⟨_,lb4⟩,_,lb4,_,hix,?_⟩;rw[En];obtain⟨l',el⟩:∃ l',l'=l.take j++l.drop (j+1):=⟨_,rfl⟩;have hl':l'.length<l.length:=by rw[el,List.length_append,List.length_take,List.length_drop];omega
   rw[<- el] at S' ⊢;have la5:(M'.upd p1 (.ls (l'.map nm))) p0=some (.ls ((Z0 0 dn).map nm)):=by rw[YB hpp];exact la4
   have st:Sz 1910 (tot dn):=G.tot ind %[|5];sleep 7;refine⟨_,_,rfl,.mk st (sz _ (inl _ hb)) %[|4],?_⟩;sleep 7;refine⟨⟨_,la5⟩,_,la5,by rw[List.length_map,XL];omega,?_⟩;refine⟨dn++[b],l',S',MExt.upd_new e0' (MExt.upd_new e1 (x3.trans x4)),?_,?_,by rw[X4],hl'⟩
   ·rw[mupd_same,Ud,List.map_append];rfl
   ·rw[YB hpp.symm,mupd_same]
  ·rintro i y hy N hN δ M' ⟨b,w,hb,hm,rfl,rfl⟩
   obtain⟨hi',rfl⟩:∃ hi':i<l.length,y=nm (ri l i):=by
    obtain⟨h,e⟩:=List.getElem?_eq_some_iff.mp hy;have h':i<l.length:=by simpa using h
    exact⟨h',by rw[<- e];simp[ri,List.getD,h']⟩
   have hmem:=Yh hi';sleep 8;sleep 7;refine⟨_,_,rfl,.mk (sz _ (inl _ hb)) (sz _ (inl _ hmem)) %[|4],?_⟩;by_cases hc:b<ri l i
   ·rw[decide_eq_true hc]
    simp;sleep 7;refine hN _ _ ⟨ri l i,_,hmem,fun j hj=>?_,rfl,rfl⟩;rcases (by omega:j<i\/j=i) with h|rfl
    ·have:=hm j h;grind
    ·exact Rat.le_refl
   ·rw[decide_eq_false hc]
    simp;refine hN _ _ ⟨b,_,hb,fun j hj=>?_,rfl,rfl⟩;rcases (by omega:j<i\/j=i) with h|rfl
    ·exact hm j h
    ·grind
noncomputable def ldB (o s:List Rat):Bool:=decide (ri (Y2 s) (s.length-1)=ri (Y2 o) (s.length-1))&&!((List.range s.length).any fun i=>decide (ri (Y2 o) i<ri (Y2 s) i))
theorem FM (hl:o.length=s.length):ldB o s=true ↔ Leads o s:=by
 unfold ldB;rw[Bool.and_eq_true,Bool.not_eq_true',List.any_eq_false,decide_eq_true_eq];constructor
 ·rintro⟨a,b⟩
  refine⟨fun i h=>?_,by rw[hl];exact a.symm⟩;have:=b i (List.mem_range.mpr %[|5]);simp at this;grind
 ·rintro⟨a,b⟩
  rw[hl] at b;refine⟨b.symm,fun i hi=>?_⟩;have:=a i (by rw[hl];exact List.mem_range.mp hi);simp;grind
noncomputable def S_26:DSp:=fun ds M Q E=>∃ (o s:List Rat),ds=[rw o,rw s]/\Gs o/\Gs s/\o.length=s.length/\1<=s.length/\s.length<=24/\∀ M',MExt M M'->Q (.bl (ldB o s)) M'
noncomputable def C_26:CSs:=%[.asg (.tup %[.name 2,.name 3|0]) (.tup %[.call "_law_sums" S_25 %[.var 1|0],.call "_law_sums" S_25 %[.var 0|0]|0]),.ife (.cmp .NotEq (.ix (.var 2) (.neg (.int 1))) (.ix (.var 3) (.neg (.int 1)))) %[.ret (.bl false)|0] .nil,.ret (.not (.bi .any %[.comp ["_law_other","_law_some","_law_mine","_law_theirs","_law_k"] 1 (.name 4) (.rng %[.bi .len %[.var 2|0]|0]) (.call "_law_under" S_23 %[.ix (.var 3) (.var 4),.ix (.var 2) (.var 4)|0])|0]))|0]
theorem vc_26:∀ ds M R E,S_26 ds M R E->rSs C_26 (ends R E) (Y1 4 ds) M:=by
 rintro ds M R E ⟨o,s,rfl,go,gs,hl,s1,s24,q⟩;unfold C_26;sleep 7;refine⟨s,rfl,gs,s24,fun p2 M2 e2 x2 l2=>?_⟩;refine⟨o,rfl,go,by omega,fun p3 M3 e3 x3 l3=>?_⟩;have l2':=x3 _ _ l2;have xx:=x2.trans x3;have lg:(Y2 s).length=s.length:=Xv s;have lo':(Y2 o).length=s.length:=(Xv o).trans hl;sleep 7;refine Yo l2' (atI_last %[|5]) ?_;refine Yo l3 (atI_last %[|5]) ?_;refine Wi true ?_;rw[lg,lo'];by_cases c:ri (Y2 s) (s.length-1)=ri (Y2 o) (s.length-1)
 ·refine .inl ⟨by simp[c],?_⟩
  sleep 7;refine YJ (List.range s.length) (fun i=>.int (i:Int)) (fun i=>.bl (decide (ri (Y2 o) i<ri (Y2 s) i))) ?_ (by simp;omega) ?_ ?_
  ·intro R' r'
   simp[0,vAt,vHd,Y3,and_assoc,sizeLine_eq,Yd,Z1,Yn,dFld,Zr,Zs,Zq,YE,fLen];refine⟨_,l2',?_⟩;have e:rngD 0 1 (List.map nm (Y2 s)).length=(List.range s.length).map fun i=>.int (i:Int):=by
    unfold rngD;rw[List.length_map,lg];simp
   rw[e];exact⟨by rw[List.length_map];omega,r' _ fun _ _=>trivial⟩
  ·intro i hi' l M' R' hl' e r'
   have hi2:=List.mem_range.mp hi';obtain⟨u,rfl⟩:=len1 hl';sleep 8;have h1:i<(Y2 o).length:=by omega
   have h2:i<(Y2 s).length:=by omega
   refine Yo (v:=nm (ri (Y2 o) i)) (e _ _ l3) (Yz (by simp[ri,List.getD,h1])) ?_;refine Yo (v:=nm (ri (Y2 s) i)) (e _ _ l2') (Yz (by simp[ri,List.getD,h2])) ?_;exact⟨_,_,rfl,.mk (JG go %[|5] _ (Yh h1)) (JG gs %[|5] _ (Yh h2)) %[|4],r' [_] M' rfl (.refl _)⟩
  intro p4 M4 e4 x4 l4;refine VM l4 ?_;have:=q M4 (xx.trans x4);unfold ldB at this;rw[decide_eq_true c,Bool.true_and] at this;generalize ((List.range s.length).any fun i=>decide (ri (Y2 o) i<ri (Y2 s) i))=b at this ⊢;cases b with
  | true=>exact .inr ⟨rfl,this⟩
  | false=>exact .inl ⟨rfl,this⟩
 ·refine .inr ⟨by simp[c],?_⟩
  sleep 7;have:=q M3 xx;unfold ldB at this;rw[decide_eq_false c,Bool.false_and] at this;exact this
theorem VH {α β:Type} {P:α->β->Prop} {f:β->DL.D} {e:α->DL.D} {g:DG} {te:DE} {keep:Mem->Prop} {p:Addr} {Q:Mem->Prop} {M0:Mem} (I:DSt->Prop) (h0:M0 p=none) (hk:∀ M',MExt M0 M'->keep M') :
  ∀ {xs:List α} {acc:List β},(∀ x∈xs,∀ δ M (R:DSt->DK),I δ->MExt M0 M->(∀ δ1 r M',I δ1->P x r->MExt M M'->R δ1 (f r) M')->g (e x) δ M fun δ1 M1=>te δ1 M1 fun d M2=>R δ1 d M2)->acc.length+xs.length<=1000 ->
   (∀ (rs:List β) M',rs.length=xs.length->(∀ i (h:i<xs.length) (h':i<rs.length),P xs[i] rs[i])->MExt M0 M'->M' p=some (.ls ((acc++rs).map f))->Q M')->∀ {δ M},I δ->MExt M0 M->M p=some (.ls (acc.map f))->Z2 g te keep p (xs.map e) (acc.map f) δ M Q
 | [],acc,_,_,q,δ,M,i,y,l=>by
  unfold Z2;exact q [] M rfl nofun y (by rw[List.append_nil];exact l)
 | x::xs,acc,h,hz,q,δ,M,i,y,l=>by
  rw[List.map_cons];unfold Z2;refine h x List.mem_cons_self δ M (fun δ1 d M2=>M2 p=some (.ls (acc.map f))/\(acc.map f).length<sizeLine/\keep (M2.upd p (.ls (acc.map f++[d])))/\Z2 g te keep p (xs.map e) (acc.map f++[d]) δ1 (M2.upd p (.ls (acc.map f++[d]))) Q) i y fun δ1 r M' i' pr y'=>?_;have e1:acc.map f++[f r]=(acc++[r]).map f:=by simp
  rw[e1];have x2:MExt M0 (M'.upd p (.ls ((acc++[r]).map f))):=MExt.upd_new h0 (y.trans y');simp only[List.length_cons] at hz;refine⟨y' _ _ l,by rw[List.length_map,sizeLine_eq];omega,hk _ x2,VH I h0 hk (fun z hz'=>h z (List.mem_cons_of_mem _ hz')) (by simp only[List.length_append,List.length_cons,List.length_nil];omega) (fun rs M3 hl hp y3 l3=>?_) i' x2 mupd_same⟩;refine q (r::rs) M3 (by simp[hl]) (fun j h1 h2=>?_) y3 (by rw[l3];simp);cases j with
  | zero=>exact pr
  | succ j=>exact hp j (by simpa using h1) (by simpa using h2)
theorem Cl {α β:Type} {P:α->β->Prop} {f:β->DL.D} {n:Nat} {ti:DI} {g:DG} {te:DE} {δ:DSt} {M:Mem} {Q:DK} (xs:List α) (e:α->DL.D)
  (hti:∀ R:List DL.D->(Mem->Prop)->Mem->Prop,(∀ keep,(∀ M',MExt M M'->keep M')->R (xs.map e) keep M)->ti δ M R) (hlen:xs.length<=1000)
  (hel:∀ x∈xs,∀ l M' (R:DSt->DK),l.length=n->MExt M M'->(∀ r l' M'',P x r->l'.length=n->MExt M' M''->R (δ++l') (f r) M'')->g (e x) (δ++l) M' fun δ1 M1=>te δ1 M1 fun d M2=>R δ1 d M2)
  (hq:∀ p M' (rs:List β),M p=none->MExt M M'->rs.length=xs.length->(∀ i (h:i<xs.length) (h':i<rs.length),P xs[i] rs[i])->M' p=some (.ls (rs.map f))->Q (.lst p) M'):YG n ti g te δ M Q:=by
 refine hti _ fun keep hk p hp=>⟨hk _ (.new hp),?_⟩;refine VH (f:=f) (P:=P) (e:=e) (M0:=M) (acc:=[]) (fun δ'=>∃ l,l.length=n/\δ'=δ++l) hp hk ?_ (by simpa using hlen) ?_ ⟨_,by simp,rfl⟩ (.new hp) mupd_same
 ·rintro x hx δ' M' R ⟨l,hl,rfl⟩ e2 r
  exact hel x hx l M' R hl e2 fun y l' M'' py h1 h2=>r _ y M'' ⟨l',h1,rfl⟩ py h2
 ·intro rs M' hl hp' e2 l
  exact⟨⟨_,l⟩,hq p M' rs hp e2 hl hp' l⟩
noncomputable def LR:Nat:=24*5354228880
noncomputable def BR:Nat:=2 ^ 21*5354228880
theorem Wr:0<LR:=by decide
theorem Jy:LR<2 ^ 60:=by decide
theorem JT:BR+BR<2 ^ 60:=by decide
structure Rk (n:Nat) (r:List Rat):Prop where
 len:r.length=n
 gr:∀ x∈r,Gr LR BR x
theorem Rk.sz (h:Rk n r):∀ x∈r,Sz 60 x:=fun x hx=>(h.gr x hx).sz Wr Jy (by have:=JT;omega)
structure Tk (n:Nat) (t:List (Rat×Rat)):Prop where
 len:t.length=n
 fine:Fine t 24
 gt:Gt 2400 t
theorem AK (T:Told t k r) (G:Tk n t):Rk n r:=by
 have t2:=G.fine.tube.two;have t25:=G.fine.tube.most;have l:=T.len;refine⟨by rw[l,G.len],fun x hx=>?_⟩;obtain⟨i,hi,rfl⟩:=List.getElem_of_mem hx;have e:r[i]=ri r i:=by simp[ri,List.getD,hi]
 rw[e];have:=By T.taut T.first T.last %[|5] %[|5] (by decide:0<2) (fun k hk=>G.gt.at0 %[|5]) i %[|5];have:=this.up (W:=12) %[|4] %[|4];exact this.mono %[|4]
theorem KF (G:Tk n t) (l:r.length=t.length) (h:∀ x∈r,Gr 24 (2 ^ 18) x):Rk n r :=
 ⟨by rw[l,G.len],fun x hx=>((h x hx).up (W:=5354228880) %[|4] %[|4]).mono %[|4]⟩
theorem Ff (G:Tk n t) (h:Rk n r) (T:Taut (lo t) (hi t) (ri r) (t.length-1)):Told t 40 r:=by
 have t2:=G.fine.tube.two;have td:=G.fine.tie;unfold tied at td;simp only[Bool.and_eq_true,decide_eq_true_eq] at td;have a1:=T.low 0 %[|5];have a2:=T.high 0 %[|5];have b1:=T.low (t.length-1) %[|3];have b2:=T.high (t.length-1) %[|3];exact⟨by rw[h.len,G.len],T,by grind,by grind,fun x hx=>(h.sz x hx).mono %[|4]⟩
theorem Ka (T:Tube t) (ti:tied t=true) (rl:r.length=t.length):VX (tb t) (rw r)=Xl t (rw r):=by
 have t2:=T.two;rw[Bool.eq_iff_iff,Ve rl t2,XT rl t2,Jc T ti,<- Az rl t2];cases h:Yr t r with
 | true=>rw [JQ rl h,Bool.true_and]
 | false=>rw [Uj (by rw[ZW rl,h])];simp
theorem VY (t2:2<=t.length) (rl:r.length=t.length):Xl t (rw r)=true ↔ Taut (lo t) (hi t) (ri r) (t.length-1):=by
 rw[Ve rl t2,XT rl t2]
theorem Ci (F:Fine t 24) (X:Told t k c) (rl:r.length=t.length) (hin:Yr t r=true) (ne:r≠c):sq2 (Y0 c)<sq2 (Y0 r):=by
 have t2:=F.tube.two;have H:=(YQ rl).mp hin;have l:=X.len;have td:=F.tie;unfold tied at td;simp only[Bool.and_eq_true,decide_eq_true_eq] at td;have V:Rival (lo t) (hi t) c r:=⟨by rw[l];exact X.taut,by omega,by omega,fun k hk=>(H k %[|5]).1,fun k hk=>(H k %[|5]).2,by
  have a:=H 0 %[|5];rw[X.first];have:=td.1;grind,by
  have a:=H (t.length-1) %[|5];rw[l,X.last];have:=td.2;grind⟩
 exact V.squares %[|5] ne
theorem JI (h:Rk n r):Gd M (rw r):=XQ h.sz %[|4]
noncomputable def S_58:DSp:=fun ds M Q E=>∃ (p q:Addr) (n:Nat) (ts:List (List (Rat×Rat))) (rs:List (List Rat)),ds=[.lst p,.lst q]/\M p=some (.ls (ts.map tb))/\M q=some (.ls (rs.map rw))/\n<=7/\(∀ t∈ts,Tk n t)/\(∀ r∈rs,Rk n r)/\ts.length<=100/\rs.length<=100/\∀ M',MExt M M'->Q (.bl true) M'
noncomputable def C_58:CSs:=%[.fr (.name 2) (.seq (.var 0)) %[.fr (.name 3) (.seq (.var 1)) %[.set 4 (.call "_law_bent_right" S_57 %[.var 2,.var 3|0]),.ife (.cmp .NotEq (.call "holds" S_47 %[.tup %[.str "taut",.var 2,.var 3|0],.non|0]) (.var 4)) %[.ret (.bl false)|0] .nil,.set 5 (.bi .any %[.comp ["_law_tubes","_law_rows","_law_tube_here","_law_row","_law_due","_law_shown","_law_paper"] 1 (.name 6) (.seq (.var 1)) (.call "holds" S_47 %[.tup %[.str "not taut",.var 2,.var 3|0],.var 6|0])|0]),.ife (.and (.var 5) (.one (.or (.var 4) (.one (.not (.call "_law_within" S_56 %[.var 2,.var 3|0])))))) %[.ret (.bl false)|0] .nil,.ife (.and (.call "_law_within" S_56 %[.var 2,.var 3|0]) (.and (.not (.var 4)) (.one (.not (.call "holds" S_47 %[.tup %[.str "not taut",.var 2,.var 3|0],.call "cord" S_22 %[.var 2|0]|0]))))) %[.ret (.bl false)|0] .nil|0]|0],.ret (.bl true)|0]
theorem vc_58:∀ ds M R E,S_58 ds M R E->rSs C_58 (ends R E) (Y1 6 ds) M:=by
 rintro ds M R E ⟨p,q,n,ts,rs,rfl,lp,lq,n7,hts,hrs,tl,rl,z⟩;unfold C_58;sleep 9;refine⟨_,lp,?_⟩;refine ZY (fun δ M'=>MExt M M'/\∃ w2 w3 w4 w5,δ=[some (.lst p),some (.lst q),w2,w3,w4,w5]) (fun _ _ h=>h.1 _ _ lp) ?_ ?_ ⟨.refl _,_,_,_,_,rfl⟩
 ·rintro δ M1 ⟨x1,w2,w3,w4,w5,rfl⟩
  sleep 7;exact z M1 x1
 ·rintro y hy N hN δ M1 ⟨x1,w2,w3,w4,w5,rfl⟩
  obtain⟨t,ht,rfl⟩:=List.mem_map.mp hy;have G:=hts t ht;have T:=G.fine.tube;have ti:=G.fine.tie;have t2:=T.two;have tn:=G.len;simp[0,vAt,vHd,Y3,and_assoc,sizeLine_eq,Yd,Z1,Yn,dFld,Zr,Zs,Zq];sleep 9;refine⟨_,x1 _ _ lq,?_⟩;refine ZY (fun δ M'=>MExt M M'/\∃ w3 w4 w5,δ=[some (.lst p),some (.lst q),some (tb t),w3,w4,w5]) (fun _ _ h=>h.1 _ _ lq) ?_ ?_ ⟨x1,_,_,_,rfl⟩
  ·rintro δ M2 ⟨x2,w3,w4,w5,rfl⟩
   sleep 8;exact hN _ _ ⟨x2,_,_,_,_,rfl⟩
  ·rintro y hy N2 hN2 δ M2 ⟨x2,w3,w4,w5,rfl⟩
   obtain⟨r,hr,rfl⟩:=List.mem_map.mp hy;have K1:=hrs r hr;have rln:r.length=t.length:=by rw[K1.len,tn]
   have sr:∀ x∈r,Sz 1900 x:=fun x hx=>(K1.sz x hx).mono %[|4];have st:∀ i,i<t.length->Sz 1900 (lo t i)/\Sz 1900 (hi t i):=fun i hi'=>⟨(G.fine.slo i hi').mono %[|4],(G.fine.shi i hi').mono %[|4]⟩;simp[0,vAt,vHd,Y3,and_assoc,sizeLine_eq,Yd,Z1,Yn,dFld,Zr,Zs,Zq];sleep 7;refine⟨t,r,rfl,rln,t2,by omega,st,sr,fun M3 x3=>?_⟩;sleep 7;have gt:∀ M,Gd M (tb t):=fun M=>G.fine.gd;refine⟨_,_,_,_,rfl,.inl ⟨rfl,rfl,tb t,rw r,rfl,gt _,JI K1,fun r' e x hx=>by cases XU e;exact sr x hx,fun M4 x4=>?_⟩⟩;rw[Ka T ti rln];refine Eo true ?_;refine .inl ⟨by simp,?_⟩;have ft:Ft (tb t):=fun t' e=>by
    cases Vc e;exact⟨by omega,fun p hp=>⟨(G.gt.lo p hp).sz %[|4] %[|4] %[|4],(G.gt.hi p hp).sz %[|4] %[|4] %[|4]⟩⟩
   have fw:∀ s,Rk n s->Fw (rw s):=fun s hs s' e _=>by
    cases XU e;exact fun x hx=>(hs.sz x hx).mono %[|4]
   sleep 7;have shB:∀ s,Rk n s->ntC (tb t) (rw r) (rw s)=true->Yr t r=true/\Xl t (rw r)=false:=fun s hs h=>by
    cases hr':Yr t r with
    | false=>rw [WX (.inl (by rw[ZW rln,hr']))] at h;cases h
    | true =>
     refine⟨rfl,?_⟩;cases hb:Xl t (rw r) with
     | false=>rfl
     | true =>
      rw[(Ff G K1 ((VY t2 rln).mp hb)).no_less T ti] at h;cases h
   refine YJ rs rw (fun s=>.bl (ntC (tb t) (rw r) (rw s))) (Uw rfl (x4 _ _ (x3 _ _ (x2 _ _ lq)))) %[|5] ?_ ?_
   ·intro s hs l M' R' hl ee r'
    obtain⟨u,rfl⟩:=len1 hl;sleep 8;refine⟨_,_,_,_,rfl,.inr (.inl ⟨rfl,tb t,rw r,rw s,rfl,gt _,JI K1,JI (hrs s hs),ft,fw r K1,fw s (hrs s hs),fun M'' x''=>?_⟩)⟩;exact r' [_] M'' rfl x''
   intro p5 M5 e5 x5 l5;refine VM l5 ?_;have sh:(rs.any fun s=>ntC (tb t) (rw r) (rw s))=true->Yr t r=true/\Xl t (rw r)=false:=fun h=>by
    obtain⟨s,hs,h⟩:=List.any_eq_true.mp h;exact shB s (hrs s hs) h
   generalize (rs.any fun s=>ntC (tb t) (rw r) (rw s))=b at sh;have x35:=x2.trans (x3.trans (x4.trans x5));have wi:∀ (M6:Mem) (Q6 E6:DK),Q6 (.bl (Yr t r)) M6->S_56 [tb t,rw r] M6 Q6 E6:=fun M6 Q6 E6 h=>⟨t,r,rfl,rln,by omega,st,sr,h⟩;refine Zm fun J hJ=>?_;have tail:J [some (.lst p),some (.lst q),some (tb t),some (rw r),some (.bl (Xl t (rw r))),some (.bl b)] M5:=by
    refine hJ _ _ ?_;refine Zm fun J hJ=>?_;have tail2:∀ M6,MExt M M6->J [some (.lst p),some (.lst q),some (tb t),some (rw r),some (.bl (Xl t (rw r))),some (.bl b)] M6:=by
     intro M6 x6;refine hJ _ _ ?_;sleep 8;exact hN2 _ _ ⟨x6,_,_,_,rfl⟩
    sleep 8;refine wi _ _ _ ?_;cases hin:Yr t r with
    | false =>
     simp;exact tail2 M5 x35
    | true =>
     simp;cases hb:Xl t (rw r) with
     | true =>
      rw[hb] at tail2;simp;exact tail2 M5 x35
     | false =>
      rw[hb] at tail2;simp;refine⟨_,rfl,G.fine.gd,.inr ⟨t,24,rfl,G.fine,fun c M6 X x6=>?_⟩⟩;have kc:=AK X G;have hc:Yr t c=true:=(YQ X.len).mpr fun i hi'=>⟨X.taut.low i %[|5],X.taut.high i %[|5]⟩;have ne:r≠c:=fun z=>by
       rw[z,(VY t2 X.len).mpr X.taut] at hb;cases hb
      refine⟨_,_,_,_,rfl,.inr (.inl ⟨rfl,tb t,rw r,rw c,rfl,gt _,JI K1,JI kc,ft,fw r K1,fw c kc,fun M7 x7=>?_⟩)⟩;rw[Ai T ti rln hin X.len hc,decide_eq_true (Ci G.fine X rln hin ne)];simp;exact tail2 M7 (x35.trans (x6.trans x7))
   sleep 8;cases b with
   | false =>
    simp;exact tail
   | true =>
    obtain⟨h1,h2⟩:=sh rfl;simp;rw[h2] at tail ⊢;simp;refine wi _ _ _ ?_;rw[h1];simp;exact tail
noncomputable def PB:Nat:=(BR+BR)+(BR+BR)
theorem KS:Bnd LR (BR+BR):=⟨by decide,Nat.lt_of_lt_of_le Jy (Ys %[|4]),Nat.lt_of_lt_of_le JT (Ys %[|4])⟩
structure Sk (m:Nat) (s:List Rat):Prop where
 len:s.length=m
 gr:∀ x∈s,Gr LR (BR+BR) x
theorem Sk.sz (h:Sk m s):∀ x∈s,Sz 60 x:=fun x hx=>(h.gr x hx).sz Wr Jy JT
theorem Sk.s9 (h:Sk m s):∀ x∈s,Sz 900 x:=fun x hx=>(h.sz x hx).mono %[|4]
theorem Sk.gs (h:Sk m s):Gs s:=⟨LR,BR+BR,Wr,Nat.lt_of_lt_of_le Jy (Ys %[|4]),Nat.lt_of_lt_of_le JT (Ys %[|4]),h.gr⟩
theorem Dx (o1:1<=o.length) (h:lvB s o w=true):Leads o s:=by
 cases w with
 | none=>cases h
 | some vs=>exact WA o1 (of_decide_eq_true h)
noncomputable def papD (m:Nat):List DL.D:=.non::(List.range m).map fun i:Nat=>.int ((i:Int)+1)
theorem HJ (h:d∈papD m):d=.non\/∃ k:Nat,d=.int k/\1<=k/\k<=m:=by
 unfold papD at h;rcases List.mem_cons.mp h with rfl|h
 ·exact .inl rfl
 ·obtain⟨i,hi,rfl⟩:=List.mem_map.mp h
  have:=List.mem_range.mp hi;exact .inr ⟨i+1,by push_cast;rfl,by omega,by omega⟩
theorem HV:((papD s.length).any (nlB s o))=!ldB o s:=by
 unfold papD ldB;rw[List.any_cons,List.any_map,Bool.not_and,Bool.not_not]
 rfl
noncomputable def S_53:DSp:=fun ds M Q E=>∃ (p:Addr) (m:Nat) (ss:List (List Rat)),ds=[.lst p]/\M p=some (.ls (ss.map rw))/\1<=m/\m<=24/\1<=ss.length/\ss.length<=10/\(∀ s∈ss,Sk m s)/\∀ M',MExt M M'->Q (.bl true) M'
noncomputable def C_53:CSs:=%[.set 1 (.bin .Add (.lst %[.non|0]) (.lrng %[.int 1,.bin .Add (.bi .len %[.ix (.var 0) (.int 0)|0]) (.int 1)|0])),.set 2 (.lst %[.tup .nil|0]),.fr (.name 3) (.seq (.var 0)) %[.expr (.ext 2 (.comp ["_law_some","_law_papers","_law_levellings","_law_one","<4>","_law_due","_law_other"] 1 (.name 6) (.seq (.var 0)) (.call "between" S_52 %[.var 6,.var 3|0])))|0],.fr (.name 3) (.seq (.var 0)) %[.fr (.name 4) (.seq (.var 0)) %[.set 5 (.call "_law_leads" S_26 %[.var 4,.var 3|0]),.ife (.cmp .NotEq (.bi .any %[.comp ["_law_some","_law_papers","_law_levellings","_law_one","_law_other","_law_due","_law_paper"] 1 (.name 6) (.seq (.var 2)) (.call "holds" S_47 %[.tup %[.str "leveller",.var 3,.var 4|0],.var 6|0])|0]) (.var 5)) %[.ret (.bl false)|0] .nil,.ife (.cmp .Eq (.bi .any %[.comp ["_law_some","_law_papers","_law_levellings","_law_one","_law_other","_law_due","_law_paper"] 1 (.name 6) (.seq (.var 1)) (.call "holds" S_47 %[.tup %[.str "no leveller",.var 3,.var 4|0],.var 6|0])|0]) (.var 5)) %[.ret (.bl false)|0] .nil|0]|0],.ret (.bl true)|0]
theorem vc_53:∀ ds M R E,S_53 ds M R E->rSs C_53 (ends R E) (Y1 6 ds) M:=by
 rintro ds M R E ⟨p,m,ss,rfl,lp,m1,m24,h1,h10,hs,z⟩;unfold C_53
 (try dsimp only);rw[Ye];simp[0,vAt,vHd,Y3,and_assoc,sizeLine_eq,Yd,Z1,Yn,dFld,Zr,Zs,Zq,Be]
 intro p9 M9 e9 x9 l9;obtain⟨s0,hs0,e0⟩:∃ s0∈ss,(ss.map rw)[0]?=some (rw s0):=by
  cases ss with
  | nil=>simp at h1
  | cons a l=>exact⟨a,by simp,rfl⟩
 have sl0:=(hs s0 hs0).len;refine Yo (v:=rw s0) (x9 _ _ lp) (Yz (i:=0) e0) ?_;rw[HY,DJ];dsimp only;refine⟨by decide,by omega,?_⟩;intro p8 M8 e8 x8 l8;rw[HZ];refine⟨_,_,x8 _ _ l9,l8,by rw[sizeLine_eq];simp[rngD];omega,?_⟩;intro p1 M1 e1 x1 l1;have el:[DL.D.non]++rngD 1 1 ((s0.length:Int)+1-1).toNat=papD m:=by
  unfold papD rngD;rw[show ((s0.length:Int)+1-1).toNat=m by omega];simp only[List.singleton_append,List.cons.injEq,true_and];exact List.map_congr_left fun i _=>by rw[Int.mul_one,Int.add_comm]
 rw[el] at l1;sleep 7;intro p2 M2 e2 x2 l2;have x02:MExt M M2:=x9.trans (x8.trans (x1.trans x2));have e2':M p2=none:=MExt.none (x9.trans (x8.trans x1)) e2;have lp1:=x2 _ _ l1;have n1:p1≠p2:=fun h=>by rw[h] at l1;rw[l1] at e2;cases e2
 have n0:p≠p2:=fun h=>by rw[h] at lp;rw[lp] at e2';cases e2'
 clear l9 l8 e9 e8 e1 x9 x8 x1 x2 l1 el;sleep 9;refine⟨_,x02 _ _ lp,?_⟩;refine Yv (fun i δ M'=>∃ (P:List (Option (List Lv))) (w3:Option DL.D),MExt M M'/\M' p1=some (.ls (papD m))/\M' p2=some (.ls (P.map pp))/\P.length=1+i*ss.length/\(∀ vs,some vs∈P->Pap LR PB vs)/\(∀ i' (h:i'<ss.length),i'<i->∀ o∈ss,Leads o ss[i']->∃ vs,some vs∈P/\walkP o vs=some ss[i'])/\δ=[some (.lst p),some (.lst p1),some (.lst p2),w3,none,none]) (fun _ _ _ h=>by obtain⟨_,_,x,_⟩:=h;exact x _ _ lp) ?_ ?_ ⟨[some []],_,x02,lp1,l2,by simp,fun vs h=>by
  simp at h;rw[h];exact⟨nofun,nofun⟩,fun _ _ h=>absurd h (Nat.not_lt_zero _),rfl⟩
 ·rintro δ M3 ⟨P,w3,x3,a1,a2,Pl,pap,led,rfl⟩
  rw[List.length_map] at Pl led;have P1:P.length<=200:=by
   have:=Nat.mul_le_mul h10 h10;omega
  sleep 9;refine⟨_,x3 _ _ lp,?_⟩;refine ZY (fun δ M'=>MExt M3 M'/\∃ w3 w4 w5,δ=[some (.lst p),some (.lst p1),some (.lst p2),w3,w4,w5]) (fun _ _ h=>h.1 _ _ (x3 _ _ lp)) ?_ ?_ ⟨.refl _,_,_,_,rfl⟩
  ·rintro δ M4 ⟨x4,w3,w4,w5,rfl⟩
   sleep 7;exact z M4 (x3.trans x4)
  ·rintro y hy N hN δ M4 ⟨x4,w3,w4,w5,rfl⟩
   obtain⟨s,hsm,rfl⟩:=List.mem_map.mp hy;have K1:=hs s hsm;have sl:=K1.len;simp[0,vAt,vHd,Y3,and_assoc,sizeLine_eq,Yd,Z1,Yn,dFld,Zr,Zs,Zq];sleep 9;refine⟨_,x4 _ _ (x3 _ _ lp),?_⟩;refine ZY (fun δ M'=>MExt M3 M'/\∃ w4 w5,δ=[some (.lst p),some (.lst p1),some (.lst p2),some (rw s),w4,w5]) (fun _ _ h=>h.1 _ _ (x3 _ _ lp)) ?_ ?_ ⟨x4,_,_,rfl⟩
   ·rintro δ M5 ⟨x5,w4,w5,rfl⟩
    sleep 8;exact hN _ _ ⟨x5,_,_,_,rfl⟩
   ·rintro y hy N2 hN2 δ M5 ⟨x5,w4,w5,rfl⟩
    obtain⟨o,hom,rfl⟩:=List.mem_map.mp hy;have K2:=hs o hom;have ol:=K2.len;simp[0,vAt,vHd,Y3,and_assoc,sizeLine_eq,Yd,Z1,Yn,dFld,Zr,Zs,Zq];sleep 7;refine⟨o,s,rfl,K2.gs,K1.gs,by omega,by omega,by omega,fun M6 x6=>?_⟩;have szp:∀ vs,some vs∈P->SzR o vs:=fun vs h=>(pap vs h).szr Wr (Nat.lt_of_lt_of_le Jy (Ys %[|4])) (Nat.lt_of_lt_of_le JT (Ys %[|4])) (Nat.lt_of_lt_of_le (show PB<2 ^ 62 by decide) (Ys %[|4])) K2.gr;have anyL:(P.any fun w=>lvB s o w)=ldB o s:=by
     rw[Bool.eq_iff_iff,FM %[|5],List.any_eq_true];constructor
     ·rintro⟨w,_,h⟩
      exact Dx %[|5] h
     ·intro h
      obtain⟨i,hi,rfl⟩:=List.getElem_of_mem hsm;obtain⟨vs,hv,hw⟩:=led i hi hi o hom h;exact⟨some vs,hv,decide_eq_true hw⟩
    have x56:=x5.trans x6;sleep 7;refine YJ P pp (fun w=>.bl (lvB s o w)) (Uw rfl (x56 _ _ a2)) %[|5] ?_ ?_
    ·intro w hw l M' R' hl ee r'
     obtain⟨u,rfl⟩:=len1 hl;sleep 8;refine⟨_,_,_,_,rfl,.inr (.inr (.inl ⟨rfl,s,o,w,rfl,K1.s9,K2.s9,by omega,by omega,by omega,fun vs e=>szp vs (by rw[<- e];exact hw),fun M'' x''=>?_⟩))⟩;exact r' [_] M'' rfl x''
    intro p7 M7 e7 x7 l7;refine VM l7 ?_;rw[anyL];refine Eo true ?_;refine .inl ⟨by simp,?_⟩;sleep 7;refine YJ (papD m) (fun d=>d) (fun d=>.bl (nlB s o d)) (fun R' r'=>?_) (by unfold papD;simp;omega) ?_ ?_
    ·refine⟨_,x7 _ _ (x56 _ _ a1),?_⟩
     have:=r' (fun M''=>M'' p1=some (.ls (papD m))) fun M'' x''=>x'' _ _ (x7 _ _ (x56 _ _ a1));rw[List.map_id'] at this;exact this
    ·intro d hd l M' R' hl ee r'
     obtain⟨u,rfl⟩:=len1 hl;sleep 8;refine⟨_,_,_,_,rfl,.inr (.inr (.inr ⟨rfl,s,o,d,rfl,K1.gs,K2.gs,K1.s9,K2.s9,by omega,by omega,by omega,?_,fun M'' x''=>?_⟩))⟩
     ·rw[sl];exact HJ hd
     ·exact r' [_] M'' rfl x''
    intro p10 M10 e10 x10 l10;refine VM l10 ?_;rw[<- sl,HV];refine Eo false ?_;refine .inl ⟨by cases ldB o s<;>rfl,?_⟩;sleep 8;exact hN2 _ _ ⟨x56.trans (x7.trans x10),_,_,rfl⟩
 ·rintro i y hy N hN δ M3 ⟨P,w3,x3,a1,a2,Pl,pap,led,rfl⟩
  obtain⟨hi,rfl⟩:∃ hi:i<ss.length,y=rw ss[i]:=by
   obtain⟨h,e⟩:=List.getElem?_eq_some_iff.mp hy;have h':i<ss.length:=by simpa using h
   exact⟨h',by rw[<- e];simp⟩
  obtain⟨s,hse⟩:∃ s,s=ss[i]:=⟨_,rfl⟩;have hsm:s∈ss:=by rw[hse];exact List.getElem_mem hi
  have K1:=hs s hsm;have sl:=K1.len;rw[<- hse];simp[0,vAt,vHd,Y3,and_assoc,sizeLine_eq,Yd,Z1,Yn,dFld,Zr,Zs,Zq];sleep 7;refine⟨⟨_,a2⟩,?_⟩;refine Cl (f:=pp) (P:=fun o w=>(∀ vs,w=some vs->Pap LR PB vs)/\(Leads o s->∃ vs,w=some vs/\walkP o vs=some s)) ss rw (Uw rfl (x3 _ _ lp)) %[|5] ?_ ?_
  ·intro o ho l M' R' hl ee r'
   obtain⟨u,rfl⟩:=len1 hl;have K2:=hs o ho;have ol:=K2.len;sleep 8;refine⟨_,_,rfl,XQ K2.s9 %[|4],XQ K1.s9 %[|4],.good o s LR (BR+BR) rfl rfl %[|5] %[|5] %[|5] KS K2.gr K1.gr (fun ld vs M'' W pg rv vl x''=>?_) (fun nl M'' x''=>?_)⟩
   ·refine r' (some vs) [_] M'' ⟨fun vs' e=>?_,fun _=>⟨vs,rfl,?_⟩⟩ rfl x''
    ·cases e
     exact ET Wr W pg %[|5]
    ·have:=W.walkP vs.length %[|3]
     rw[List.take_length,rv] at this;exact this
   ·exact r' none [_] M'' ⟨nofun,fun h=>absurd h nl⟩ rfl x''
  intro p7 M7 ws e7 x7 wl hP l7;have n7:p7≠p2:=fun h=>by rw[h,a2] at e7;cases e7
  have Mi:i*ss.length<=10*10:=Nat.mul_le_mul %[|5] h10;refine⟨p7,rfl,_,x7 _ _ a2,_,l7,by simp;omega,?_⟩;refine hN _ _ ⟨P++ws,_,MExt.upd_new e2' (x3.trans x7),by rw[YB n1];exact x7 _ _ a1,by rw[mupd_same,List.map_append],by rw[List.length_append,wl,Pl,Nat.succ_mul];omega,fun vs hv=>?_,fun i' h' hi' o ho ld=>?_,rfl⟩
  ·rcases List.mem_append.mp hv with hv|hv
   ·exact pap vs hv
   ·obtain⟨j,hj,ej⟩:=List.getElem_of_mem hv
    exact (hP j %[|5] hj).1 vs ej
  ·by_cases c:i'<i
   ·obtain⟨vs,h1,h2⟩:=led i' h' c o ho ld
    exact⟨vs,List.mem_append_left _ h1,h2⟩
   ·obtain rfl:i'=i:=by omega
    obtain⟨j,hj,ej⟩:=List.getElem_of_mem ho;have hj':j<ws.length:=by omega
    obtain⟨vs,h1,h2⟩:=(hP j hj hj').2 (by rw[ej,hse];exact ld);refine⟨vs,List.mem_append_right _ (by rw[<- h1];exact List.getElem_mem hj'),?_⟩;rw[<- hse,<- ej];exact h2
noncomputable def S_59:DSp:=fun ds M Q E=>∃ (a p:Addr) (n:Nat) (ts:List (List (Rat×Rat))),ds=[.lst a,.lst p]/\Pk M a/\p≠a/\M p=some (.ls (ts.map tb))/\ts.length=2/\n<=7/\(∀ t∈ts,Tk n t)/\∀ M',Q (.bl true) M'
noncomputable def C_59:CSs:=%[.set 2 (.lst .nil),.fr (.name 3) (.seq (.var 1)) %[.set 2 (.bin .Add (.var 2) (.lst %[.call "cord" S_22 %[.var 3|0],.call "_law_in_tube" S_55 %[.var 0,.var 3|0]|0]))|0],.ret (.and (.call "_law_tubes_right" S_58 %[.var 1,.var 2|0]) (.one (.call "_law_steps_right" S_53 %[.comp ["_law_pack_here","_law_tubes","_law_rows","_law_tube_here","_law_row"] 1 (.name 4) (.seq (.var 2)) (.call "_law_steps" S_3 %[.var 4|0])|0])))|0]
theorem vc_59:∀ ds M R E,S_59 ds M R E->rSs C_59 (ends R E) (Y1 4 ds) M:=by
 rintro ds M R E ⟨a,p,n,ts,rfl,pk,pa,lp,t2,n7,hts,z⟩;have n2:2<=n:=by
  cases ts with
  | nil=>simp at t2
  | cons t l =>
   have T:=hts t (by simp);have:=T.fine.tube.two;have:=T.len;omega
 unfold C_59;sleep 7;intro q0 M1 e1 x1 l1;have lp1:=x1 _ _ lp;sleep 9;refine⟨_,lp1,?_⟩;refine Yv (fun i δ M'=>∃ (q:Addr) (rs:List (List Rat)) (w3:Option DL.D),Dr a M M'/\M' q=some (.ls (rs.map rw))/\rs.length=2*i/\(∀ r∈rs,Rk n r)/\δ=[some (.lst a),some (.lst p),some (.lst q),w3]) (fun _ _ _ h=>by obtain⟨_,_,_,y,_⟩:=h;exact y.keep _ _ pa lp) ?_ ?_ ⟨q0,[],_,Dr.ext pk x1,l1,rfl,nofun,rfl⟩
 ·rintro δ M2 ⟨q,rs,w3,y2,l2,rl,hr,rfl⟩
  rw[List.length_map,t2] at rl;sleep 7;refine⟨p,q,n,ts,rs,rfl,y2.keep _ _ pa lp,l2,n7,hts,hr,by omega,by omega,fun M3 x3=>?_⟩;refine .inr ⟨rfl,?_⟩;refine YJ rs rw (fun r=>rw (Y0 r)) (Uw rfl (x3 _ _ l2)) %[|5] ?_ ?_
  ·intro r hr' l M' R' hl ee r'
   obtain⟨u,rfl⟩:=len1 hl;have K1:=hr r hr';have:=K1.len;sleep 8;exact⟨r,60,rfl,K1.sz,by decide,by omega,by omega,fun M'' x''=>r' [_] M'' rfl x''⟩
  intro p4 M4 e4 x4 l4;refine⟨p4,n-1,rs.map Y0,rfl,by rw[l4,List.map_map];rfl,by omega,by omega,by rw[List.length_map];omega,by rw[List.length_map];omega,fun s hs=>?_,fun M5 x5=>z M5⟩;obtain⟨r,hr',rfl⟩:=List.mem_map.mp hs;have K1:=hr r hr';exact⟨by rw[YC,K1.len],CD Wr K1.gr⟩
 ·rintro i y hy N hN δ M2 ⟨q,rs,w3,y2,l2,rl,hr,rfl⟩
  obtain⟨hi,rfl⟩:∃ hi:i<ts.length,y=tb ts[i]:=by
   obtain⟨h,e⟩:=List.getElem?_eq_some_iff.mp hy;have h':i<ts.length:=by simpa using h
   exact⟨h',by rw[<- e];simp⟩
  obtain⟨t,hte⟩:∃ t,t=ts[i]:=⟨_,rfl⟩;have G:=hts t (by rw[hte];exact List.getElem_mem hi);have tn:=G.len;rw[<- hte];simp[0,vAt,vHd,Y3,and_assoc,sizeLine_eq,Yd,Z1,Yn,dFld,Zr,Zs,Zq];sleep 7;refine⟨_,rfl,G.fine.gd,.inr ⟨t,24,rfl,G.fine,fun c M3 X x3=>?_⟩⟩;refine⟨a,t,2400,rfl,y2.pk.ext x3,G.gt,by decide,by omega,fun r M4 l4 g4 _ y4=>?_⟩;intro p5 M5 e5 x5 l5;have qa:q≠a:=fun h=>by
   obtain⟨v,hv⟩:=y2.pk;rw[h,hv] at l2;injection l2 with l2
   injection l2 with l2
   cases rs with
   | nil=>cases l2
   | cons b rs =>
    rw[List.map_cons] at l2;injection l2 with l2 _
    cases l2
  refine⟨_,x5 _ _ (y4.keep _ _ qa (x3 _ _ l2)),_,l5,by rw[List.length_map];simp;omega,?_⟩;intro p6 M6 e6 x6 l6;refine hN _ _ ⟨p6,rs++[c,r],_,((y2.trans (Dr.ext y2.pk x3)).trans y4).trans (Dr.ext y4.pk (x5.trans x6)),by rw[l6];simp,by simp;omega,fun s hs=>?_,rfl⟩;rcases List.mem_append.mp hs with hs|hs
  ·exact hr s hs
  ·simp at hs
   rcases hs with rfl|rfl
   ·exact AK X G
   ·exact KF G l4 g4
noncomputable def C_65:CSs:=%[.fr (.name 1) (.rng %[.int 0,.bi .max %[.int 1,.bi .min %[.bi .len %[.var 0|0],.int 6|0]|0],.int 2|0]) %[.set 2 (.call "_law_tube" S_64 %[.call "_law_pack" S_61 %[.var 0,.var 1|0],.int 7,.int 5|0]),.set 3 (.call "_law_pack" S_61 %[.var 0,.bin .Add (.var 1) (.int 1)|0]),.set 4 (.lst .nil),.fr (.tup %[.name 5,.name 6|0]) (.seq (.var 2)) %[.set 7 (.call "_law_low" S_0 %[.call "_law_take" S_1 %[.var 3,.int 3|0],.bin .Add (.int 1) (.call "_law_take" S_1 %[.var 3,.int 2|0])|0]),.expr (.app 4 (.tup %[.call "_law_less_by" S_2 %[.var 5,.var 7|0],.call "_law_more" S_24 %[.var 6,.tup %[.call "_law_take" S_1 %[.var 3,.int 3|0],.int 1|0]|0]|0]))|0],.set 4 (.bin .Add (.bin .Add (.tup %[.ix (.var 2) (.int 0)|0]) (.bi .tuple %[.sl (.var 4) (.some (.int 1)) (.some (.neg (.int 1)))|0])) (.tup %[.ix (.var 2) (.neg (.int 1))|0])),.ife (.not (.call "_law_right" S_59 %[.var 3,.lst %[.var 2,.var 4|0]|0])) %[.ret (.bl false)|0] .nil|0],.ret (.bl true)|0]
theorem vc_65:∀ ds M R E,SLaw ds M R E->rSs C_65 (ends R E) (Y1 8 ds) M:=by
 rintro ds M R E ⟨ns,rfl,hs,h⟩;unfold C_65;sleep 9;obtain⟨z,hz,hc,e⟩:=FN 6 ns.length %[|4] %[|4];rw[e];obtain⟨r1,r2,r3⟩:=BE z hz;refine⟨Xy %[|4] (UQ %[|4]),r1,r2,?_⟩;refine ZY (fun δ M'=>∃ w1 w2 w3 w4 w5 w6 w7,δ=[some (.fz (ns.map .int)),w1,w2,w3,w4,w5,w6,w7]) (fun _ _ _=>trivial) ?_ ?_ ⟨_,_,_,_,_,_,_,rfl⟩
 ·rintro δ M' ⟨w1,w2,w3,w4,w5,w6,w7,rfl⟩
  sleep 7;exact h M'
 ·rintro x hx N hN δ M0 ⟨w1,w2,w3,w4,w5,w6,w7,rfl⟩
  obtain⟨i,hI,rfl⟩:=List.mem_map.mp hx;have hi2:=List.mem_range.mp hI;sleep 8;sleep 7;refine⟨ns,_,rfl,hs,by omega,by omega,fun v a M1 e1 x1 l1=>?_⟩;refine⟨a,7,5,rfl,⟨v,l1⟩,by decide,by decide,by decide,by decide,fun t M2 F G y2 t7=>?_⟩;have T:=F.tube;have two:=T.two;sleep 7;refine⟨ns,_,rfl,hs,by omega,by omega,fun v' a' M3 e3 x3 l3=>?_⟩;have pk3:Pk M3 a':=⟨v',l3⟩;sleep 7;intro q0 M4 e4 x4 l4;have qa:=pk3.ne e4;sleep 9;refine Yv (fun j δ M'=>∃ (us:List (Rat×Rat)) (w5 w6 w7:Option DL.D),Dr a' M3 M'/\M' q0=some (.ls (us.map pl))/\us.length=j/\Gt 2400 us/\δ=[some (.fz (ns.map .int)),some (.int ((i:Int)*2)),some (tb t),some (.lst a'),some (.lst q0),w5,w6,w7]) (fun _ _ _ _=>trivial) ?_ ?_ ⟨[],w5,w6,w7,Dr.ext pk3 x4,l4,rfl,⟨nofun,nofun,nofun⟩,by simp⟩
  ·rintro δ M5 ⟨us,w5,w6,w7,y5,l5,ul,U,rfl⟩
   rw[List.length_map] at ul;have td:=F.tie;unfold tied at td;simp only[Bool.and_eq_true,decide_eq_true_eq] at td;sleep 7;refine Sq.ix (.inl rfl) (Yz (i:=0) (W1 %[|5])) ?_;refine⟨_,l5,?_⟩;intro q6 M6 e6 x6 l6;refine⟨_,l6,?_⟩;rw[V1 us pl %[|5]];have ml:=Za us;refine⟨by rw[List.length_map];omega,?_⟩;refine Sq.ix (.inl rfl) (AO %[|5]) ?_;refine⟨by rw[List.length_map];omega,?_⟩;have z0:=G.at0 (i:=0) %[|5];have z1:=G.at0 (i:=t.length-1) %[|5];have eu:D.tup (pl (lo t 0,hi t 0)::((mid us).map pl++[pl (lo t (t.length-1),hi t (t.length-1))]))=tb (tieT (lo t 0) (lo t (t.length-1)) us):=by
    rw[<- td.1,<- td.2];exact AM _ _ us
   rw[eu];have s0:Sz 24 (lo t 0):=z0.1.sz %[|4] %[|4] %[|4];have s1:Sz 24 (lo t (t.length-1)):=z1.1.sz %[|4] %[|4] %[|4];have FU:=VV (U.box %[|4]) %[|5] %[|5] s0 s1 %[|4];have GU:=AN U (z0.1.mono %[|4]) (z1.1.mono %[|4]);have lu:=Vb (f:=lo t 0) (l:=lo t (t.length-1)) (t:=us) %[|5];generalize tieT (lo t 0) (lo t (t.length-1)) us=u at FU GU lu;sleep 7;intro q7 M7 e7 x7 l7;have y7:=(Dr.ext y5.pk x6).trans (Dr.ext (y5.pk.ext x6) x7);have G24:Gt 2400 t:=⟨G.ok,fun p hp=>(G.lo p hp).mono %[|4],fun p hp=>(G.hi p hp).mono %[|4]⟩;refine⟨a',q7,t.length,[t,u],rfl,y7.pk,(y5.pk.ext x6).ne e7,l7,rfl,by omega,fun w hw=>?_,fun M8=>?_⟩
   ·simp at hw
    rcases hw with rfl|rfl
    ·exact⟨rfl,F,G24⟩
    ·exact⟨by omega,FU,GU⟩
   ·sleep 8
    exact hN _ _ ⟨_,_,_,_,_,_,_,rfl⟩
  ·rintro j y hy N2 hN2 δ M5 ⟨us,w5,w6,w7,y5,l5,ul,U,rfl⟩
   obtain⟨hj,rfl⟩:∃ hj:j<t.length,y=pl t[j]:=by
    obtain⟨h,e⟩:=List.getElem?_eq_some_iff.mp hy;have h':j<t.length:=by simpa using h
    exact⟨h',by rw[<- e];simp⟩
   have ok:=T.ok _ (List.getElem_mem hj);have g1:=G.lo _ (List.getElem_mem hj);have g2:=G.hi _ (List.getElem_mem hj);generalize t[j]=pr at ok g1 g2;obtain⟨lo1,hi1⟩:=pr;dsimp only at ok g1 g2;have s1:Sz 12 lo1:=g1.sz %[|4] %[|4] %[|4];have s2:Sz 12 hi1:=g2.sz %[|4] %[|4] %[|4];sleep 8;sleep 7;refine Z9 y5.pk %[|4] %[|4] fun c M6 c0 c1 y6=>?_;refine Z9 y6.pk %[|4] %[|4] fun d M7 d0 d1 y7=>?_;rw[DJ];refine⟨_,_,rfl,by omega,UQ (Nat.lt_of_lt_of_le (show (1+d).natAbs<2 ^ 8 by omega) (Ys %[|4])),?_⟩;have gm:Gr 2 4 (Rat.divInt c (1+d)):=Z8 %[|5] (by rcases (by omega:d=0\/d=1) with rfl|rfl<;>decide) %[|4] %[|5];have m0:0<=Rat.divInt c (1+d):=divInt_nonneg c0 %[|5];generalize Rat.divInt c (1+d)=mo at gm m0;have sm:Sz 12 mo:=gm.sz %[|4] %[|4] %[|4];have y57:=y5.trans (y6.trans y7);have l7:=(y6.trans y7).keep _ _ qa l5
   sleep 7;refine⟨⟨_,l7⟩,?_⟩;refine⟨_,_,rfl,.mk s1 sm %[|4],?_⟩;refine Z9 y7.pk %[|4] %[|4] fun k M8 k0 k1 y8=>?_;have gk:Gr 2 4 ((k:Int):Rat):=Eb %[|4] %[|5];have sk:Sz 7 ((k:Int):Rat):=Ze %[|5];refine⟨_,_,by rw[nm_i],.mk s2 sk %[|4],?_⟩;have k0':(0:Rat)<=((k:Int):Rat):=by exact_mod_cast k0
   generalize ((k:Int):Rat)=kk at gk sk k0';have l8:=y8.keep _ _ qa l7;refine⟨_,l8,by rw[List.length_map];omega,?_⟩;refine hN2 _ _ ⟨us++[(lo1-mo,hi1+kk)],_,_,_,(y57.trans y8).upd_new e4 qa,by rw[mupd_same,List.map_append];rfl,by simp[ul],U.add ?_ ?_ ?_,rfl⟩
   ·show lo1-mo<=hi1+kk
    grind
   ·exact (g1.sub %[|4] gm).mono %[|4]
   ·exact (g2.add %[|4] gk).mono %[|4]
end K
end
namespace PySem.W.Fast
set_option bootstrap.genMatcherCode true
local macro_rules | `(command| universe $xs*)=>do
  let cs<-xs.mapM fun x=>`(command| theorem $x :True:=⟨⟩)
  return Lean.mkNullNode cs
set_option bootstrap.genMatcherCode false
universe tw14270946293659621446 tw3918337065307960278 tw10165794478269579142 tw9517167966582200908 tw8759411093593367885 tw16287813093983856316 tw5665787714739854665 tw11757054224775583527 tw10339151857914192689 tw9518560494372263116 tw17764388664398983451 tw3994067367736441295 tw1215928964827569705 tw15589981538446573314 tw993833370706061037 tw15495116930091179402 tw12525977521799190838 tw5766520430042330503 tw7169417505529201174 tw8975445525835540652 tw17541451047808449523 tw17952313139215996203 tw13223019950698708451 tw5346701454490526692 tw7355523057281962778 tw5566440808211988446 tw13258169314999815905 tw18302180262384476281 tw16290090008762102822 tw7787302881137551285 tw11229964542155827486 tw11874858033975056449 tw5516878710434529383 tw319032572347823032 tw12499173186746352114 tw18230264903624250693 tw17880459641763459063 tw10720399071571220694 tw13406579702952213067 tw10595556201276401693
universe tw8077908469331002136 tw2208218830393159051 tw7675224934808657750 tw9973888228562901029 tw1839967873561072468 tw16439221690614210136 tw2635703151733472797 tw6370735315382199214 tw939131087065876134 tw5132596652617010761 tw5362214282129885723 tw3906806854531605509 tw2351777008569695964 tw12234358882100732582 tw17881931246180419994 tw3466432853458249724 tw8798393331944007565 tw18066365896392216169 tw17155954624124731177 tw16989208468788705527 tw13204840961734322416 tw3652454093039874120 tw210148296891359712 tw6161245920845081288 tw16469757499082402361 tw12417232441585142141 tw5678756520784033638 tw7172238835806267646 tw716539203697505199 tw752568124657614742 tw15524053947328765364 tw16375392916671478011 tw12892178634697071725 tw6853835567513396064 tw846986952018889750 tw5101555068280852188 tw2160156670396550667 tw16369760738143322487 tw14556027961965962353 tw11525320669378360221
universe tw2861780133795619945 tw15343192167561215624 tw9907585692633141463 tw929688316437115030 tw15579924627270703633 tw1499494395186997828 tw5482043333936888759 tw4431693788250102509 tw8357236966412077382 tw770676124934331909 tw16744468087503081659 tw10343886210670428259 tw1405802164182703423 tw12872745850370322616 tw8948373776520260453 tw6913192445165889302 tw17772592381002160124 tw15551744570269531568 tw4116325466552798055 tw11200710167799069681 tw15482029915425394122 tw7000854301107867005 tw4121379413503830302 tw7877939915663415322 tw7955252614396330665 tw15766291308225627742 tw9085012910296430766 tw2746638012293246645 tw17094411035687160643 tw10106011112525960350 tw16848167228115302972 tw11582868619796300635 tw10426400135987110084 tw9598742250592371371 tw8699957952410125247 tw13455091654650657525 tw7104008970727155114 tw7948351871225719025 tw16574225242574966124 tw8770473713780971835
universe tw5358574426588926722 tw5221638256093385650 tw3344999793332217422 tw4197730597703535517 tw7197524747298824832 tw16122502762301392300 tw443319803869129468 tw2792240872335806261 tw15842860161382711198 tw9786449428449973616 tw3946698786262205606 tw7638456210554391161 tw16972197666241482948 tw17213804266951944031 tw11485057912790638648 tw6938916397079021800 tw4007785109502678335 tw6324254854316071946 tw4793769347373901978 tw16932253358265637755 tw498749610595165212 tw9363688194158168238 tw14995296194786757767 tw14606280357014384745 tw10347682482420600559 tw15148748448736557324 tw4136149238770070073 tw11842448851506499802 tw13389353102281423337 tw6709996917237907068 tw14941772492633379507 tw8338132270697245502 tw4651836068264537862 tw10099456422621150589 tw9716135845381366640 tw12268053112234628726 tw12950721200167725555 tw14780592193191480002 tw10536434188220449824 tw3406480256066515601
universe tw8637346511724071788 tw4651076044609278334 tw7896739801837560698 tw10086478800775688854 tw2523027116143677839 tw1950626112164988229 tw17311562777976186154 tw10283021596296396092 tw15010824936882416563 tw3865214567158086545 tw8710734801677406451 tw10145859052121278183 tw9547198914959981379 tw12948287089228476428 tw3551597632580224424 tw2143359416151019717 tw5824886204390107752 tw1369511578233419588 tw15052339570343446192 tw406987059676486843 tw1630591614434688435 tw5479236127395724338 tw8296008156262173445 tw13243018221708120998 tw17028460819083101364 tw759684448508656964 tw3597507340068004236 tw2220550988895375553 tw13454431965854348512 tw8894798391341321607 tw11337607678632237688 tw17918744652152649263 tw3232551355207694218 tw9684636061691013490 tw9527567793414960377 tw2968574054947796887 tw13373943988660424849 tw8129755347620846036 tw2391412974981116117 tw17844076338126943019
universe tw6756537078822280431 tw8945934148534216991 tw3788602905535733937 tw18323181018033234877 tw2224455221429044729 tw8707429953437766682 tw4841441005347571303 tw15646992769079296754 tw5861928769216406705 tw16460399860710374355 tw6335386706195590991 tw8514858790482394283 tw12876357224105908017 tw15254269234018293943 tw12210096960365880569 tw5465320333953966071 tw6224646049675516860 tw10543970605213859254 tw18076513266967422375 tw3171406956797708748 tw13137118086144078493 tw4511800836183651858 tw2322051928018252054 tw6712068707256452157 tw2024174850369973831 tw10360697134414997935 tw6779755515782789907 tw18207266802904528258 tw915720956802537828 tw15365919983305874520 tw17006231874814999145 tw15642349679967974270 tw2633262400532331755 tw5816955349543662717 tw15531194605814457108 tw4819860436881465849 tw2480367700442514142 tw12886442163383770886 tw8353424533984741303 tw4826486509002646449
universe tw14410027933627083752 tw10941743255105344992 tw13596074779611490368 tw3243749035947450828 tw5812783980266671331 tw6221337414275277437 tw4381983670930586383 tw11417228184549978685 tw12333556426535358470 tw939338813579174979 tw10865329097820239068 tw9350199373476096234 tw6023679972359000243 tw4578220912594079238 tw6871881804159251426 tw2337010629793320817 tw7387752886179696150 tw2925461317926660261 tw3320415360198675562 tw2160935712368891593 tw8039805670440428601 tw3051803926115496638 tw18022446176566988128 tw5746578565935127496 tw2579421453005124788 tw11309643516647274826 tw14487428626165147947 tw2794082716847706075 tw2191356065021300272 tw5638345596293691250 tw7774623936088937240 tw15604181799326272873 tw4380965367411995033 tw4532998088631179188 tw11020184742062907638 tw2354204809596121942 tw6702810045711968410 tw8373162657572291976 tw10428557199255688785 tw6099280549649381384
universe tw13397304146170593110 tw8852177577893443424 tw9876158840461263264 tw918108123112836434 tw2526548332304894563 tw13561670130207242521 tw4620930404562135120 tw1737689077196663337 tw18007398218713874775 tw16870696844496440973 tw15125348589714371420 tw14280255135286410126 tw6647170050586053738 tw169463786347953838 tw259724519527306390 tw5750681577182537427 tw7649089923358392223 tw15597006132293218869 tw4888050951696754360 tw15213405467836527848 tw12228626028160807614 tw16048174774216235630 tw9875650888919344341 tw6504861266519105132 tw10503922314109892232 tw3508377366314367014 tw294202276362090688 tw13028910704312531360 tw18445602796076929879 tw18128137692634883170 tw14376565529411010005 tw7901532167689765198 tw13297934783437120300 tw15295239050418435084 tw9526750408819545112 tw14717667651085065915 tw8942672444305037634 tw7281764263263635613 tw8113355578426247665 tw9217487566176347617
universe tw7743223398622383601 tw412092687569967458 tw333558839784015828 tw16299410694808734023 tw14308271180473709134 tw17536679559483653868 tw10029618611587351237 tw10769765578428130178 tw1343591450868802614 tw11492376199257262195 tw5209756774175457382 tw15520068119339889911 tw8573335963510960972 tw5842672660516312931 tw7340321705253389373 tw16951093372938757844 tw16062403432807212814 tw3900801737556254329 tw1101922986427004625 tw17218649275345910490 tw15432129289719811297 tw6819751475437415457 tw1375945330329693787 tw2816819966859111696 tw10081750029106493237 tw6176832021898390352 tw2500661543639210212 tw11188727795924610513 tw4495619382069467143 tw13500953194771452826 tw8469498377866344277 tw2674853783967495039 tw572423525583296418 tw9987218491533449142 tw13537248511930655943 tw2397273187952386575 tw5374972998562086411 tw16028619126353876386 tw6320568633842820312 tw6356569617950286242
universe tw13223118767770890491 tw18210484460550408570 tw16918865846887128823 tw14164757839479247478 tw9818566693058754399 tw2264849725606819277 tw8901212782087390249 tw7917052490384427310 tw3753847769206526372 tw17757264565622293145 tw4355817959672271303 tw2040097748094954075 tw11681527313208519241 tw6108209895581867977 tw8973554918747510839 tw8105923185100675774 tw1032920040372516779 tw16992656183701414557 tw15029780089055404912 tw4949509759010382551 tw4205249927448903017 tw6162588820699970326 tw3289322481869406983 tw6893885502495035128 tw13675560440359383657 tw420475061023893198 tw4010519739556974150 tw9421523152651501971 tw7877101577746836410 tw11197204865766094555 tw12622897085985259664 tw3273463022187706866 tw10888599574039390028 tw14154581216587878018 tw5776329507840156418 tw13611947589684970989 tw2527767645733615860 tw13970618335067521935 tw12996241938225713963 tw13385360268663723255
universe tw4978674573704193099 tw6282702920057446090 tw3466116925416831858 tw3074868474377956835 tw16155976829927906632 tw1753657459911385314 tw13254990559262390798 tw4246357190154655434 tw11845095286549584109 tw16871451965608425293 tw17343163663318062874 tw7778109783483814301 tw9602371889209374280 tw6333620086722164254 tw13324701572791510615 tw15926044164168473779 tw11317557863894632437 tw6548786960703714551 tw10073933776883199845 tw17485589148844142472 tw2065514385008663396 tw8102506122106130603 tw6091111246827476632 tw12127844605540893544 tw17761686924233881819 tw9472643243108423799 tw1962544811999158950 tw3596992623502968834 tw18182841577342638001 tw680768028669722245 tw9032638856656759594 tw11509557255733675662 tw8850584622157480673 tw4594665905380175503 tw15260754345182923118 tw4941798303739306206 tw14063090360806795616 tw10789651036464448680 tw15869819651201811002 tw17315065081467248707
universe tw15956905332106851870 tw3629072010209652603 tw3895950119909232045 tw14457729937905730561 tw3048258746361808975 tw13842674262048471914 tw11822551042482925472 tw17646243967040329421 tw12027486319423519934 tw14609937076518395890 tw15423952120459295669 tw12235002806328525117 tw5073960852208327597 tw18219745622101016404 tw14507836970270015030 tw4304685452406692287 tw4513407475986057815 tw10696447922273781780 tw3846609158551951760 tw13728000684885068772 tw10747574567225512848 tw6990541879163024798 tw7406213625226895338 tw14236236814335745544 tw15096485332438719682 tw10914229291569230232 tw3037327757054027157 tw3280707032847382789 tw10671259582370351329 tw11537781659479428579 tw3524631221869321477 tw16254565365168229128 tw7440293324436038918 tw5762938827115540675 tw18329366162175179330 tw16132069149401631286 tw7415373264952533007 tw963567873513382509 tw17119376182806517936 tw1365329288237884363
universe tw7727856994110335124 tw5865305647450854319 tw2114581120146670710 tw2012890363131968745 tw8173406406195485361 tw8569902449220582214 tw7234005212003011484 tw15477459375970315460 tw12308748423913238395 tw17127594682708384116 tw3933995146989847773 tw5800411427261890250 tw10434925992721735653 tw11776929239972916016 tw8387797339900562520 tw10120927802035170013 tw5333686161934476153 tw17196397976250726986 tw9764137497607089044 tw5382944969754293011 tw7586827816125270020 tw3257990827835035948 tw18282972819240500013 tw7725472448286777086 tw16637300694119709320 tw2140457717850662432 tw3110031627476293265 tw15185522690826051247 tw8495881592856314112 tw14628574598379734956 tw12312277551595665379 tw17271700875954530039 tw1960781808452821300 tw621475582207851572 tw1631070156267453413 tw17613435058657708955 tw8968671837424050865 tw6177067043575976074 tw3393869447330373074 tw8091165778221767359
universe tw2174408721815970443 tw2011808266424709367 tw1040943306828834353 tw4560462123029631004 tw1888885361144339593 tw3518800228850148185 tw17253499381730023566 tw17297769987075539060 tw11169720369516651321 tw1449504672980871486 tw2295863043462031257 tw6537659600288840828 tw14364263622362603106 tw1061729975913971147 tw17030728244574864838 tw3468588247799004661 tw15801080194724086338 tw15148968626407347177 tw4094242690799228917 tw642521037987074543 tw3435560966603252724 tw7587611278477296504 tw5414471412252705997 tw6364085486622619207 tw8924429510275076699 tw11399480026367826777 tw10314594114847946722 tw14654822317891709965 tw17610654425260174859 tw6214741606469792639 tw8713389211668638155 tw2053615058485572349 tw12391430015514896770 tw3864045941761701655 tw2253359642861261362 tw12106935108843222535 tw4830464953849010783 tw2268458351641258638 tw6380683463579124495 tw5622175973189895673
universe tw16993354588883458969 tw16837161259575922091 tw5146287795967564046 tw6823177717357456193 tw16456312909915233438 tw853030326116467024 tw15918379331896797225 tw6522251077947234208 tw14518950010538953235 tw3130366122105202548 tw1416772881234885567 tw6946570685797801383 tw2557083158626477949 tw776342369134530549 tw9067385685002448031 tw17574398784008968116 tw12885335533133897798 tw6867837739685597400 tw16430749221458316719 tw16924241950731912328 tw13705679720098230065 tw2663596084445996995 tw9161653439285622868 tw9854373825687904824 tw8436724454250042008 tw3839614171113339711 tw12582764766792065471 tw6594734509665066990 tw13914256632885433337 tw4360967938343359030 tw887022724956561979 tw12488109736007064989 tw8900799904402636987 tw11034357989482823241 tw1884899199195774101 tw4134700214145407897 tw3489648731567031745 tw1605243013971982134 tw92316834363880724 tw3821184471042634347
universe tw10317825979592201760 tw1073721390456633800 tw13015324085569970148 tw8550275189288461869 tw929183426878842916 tw7085150454786542267 tw14274912196972121455 tw3335669939146589205 tw12867574297396780535 tw3618961839487005979 tw15902178313690182320 tw16174806033382029204 tw1453366796457130883 tw15169789585818876222 tw5801929303593929270 tw2953401313477465721 tw5068202982590710515 tw16766018270336370253 tw14386023012868442901 tw1985021542276760450 tw8834611852582227435 tw2435780949842444537 tw12842588644066918174 tw12719167634997575651 tw11259040445276029194 tw9268368939733190604
end PySem.W.Fast
namespace K
open PySem DL L2 PySem.W
set_option bootstrap.genMatcherCode true
local macro_rules
 | `(tactic| sleep 61)=>`(tactic| (rintro _ _ _ _ ⟨_,e,_⟩;rw[e];rfl))
 | `(tactic| sleep 62)=>`(tactic| (rintro _ _ _ _ ⟨_,_,e,_⟩;rw[e];rfl))
 | `(tactic| sleep 63)=>`(tactic| (rintro _ _ _ _ ⟨_,_,_,e,_⟩;rw[e];rfl))
 | `(tactic| sleep 64)=>`(tactic| (rintro _ _ _ _ ⟨_,_,_,_,e,_⟩;rw[e];rfl))
 | `(tactic| sleep 65)=>`(tactic| (rintro _ _ _ _ ⟨_,_,_,_,_,e,_⟩;rw[e];rfl))
 | `(tactic| sleep 66)=>`(tactic| (rintro _ _ _ _ ⟨_,_,_,_,_,_,e,_⟩;rw[e];rfl))
 | `(tactic| sleep 67)=>`(tactic| (rintro _ _ _ _ ⟨_,_,_,_,_,_,_,e,_⟩;rw[e];rfl))
 | `(tactic| sleep 68)=>`(tactic| (rintro _ _ _ _ ⟨_,_,_,_,_,_,_,_,e,_⟩;rw[e];rfl))
 | `(tactic| sleep 69)=>`(tactic| (rintro _ _ _ _ ⟨_,_,_,_,_,_,_,_,_,e,_⟩;rw[e];rfl))
 | `(tactic| sleep 71)=>`(tactic| (intros;rename_i us hl;obtain⟨_,e⟩:=us1 hl;subst e;rfl))
 | `(tactic| sleep 72)=>`(tactic| (intros;rename_i us hl;obtain⟨_,_,e⟩:=us2 hl;subst e;rfl))
 | `(tactic| sleep 73)=>`(tactic| (intros;rename_i us hl;obtain⟨_,_,_,e⟩:=us3 hl;subst e;rfl))
 | `(tactic| sleep 74)=>`(tactic| (intros;rename_i us hl;obtain⟨_,_,_,_,e⟩:=us4 hl;subst e;rfl))
set_option bootstrap.genMatcherCode false
set_option bootstrap.genMatcherCode true
local macro_rules | `(~~~$n:str)=>`(nsIn $(Lean.mkIdent `K) mainGlobals $n)
set_option bootstrap.genMatcherCode false
set_option bootstrap.genMatcherCode true
local macro_rules | `(#[$n:str,$s:ident,$f:ident,$o:ident,$p:ident,$a:ident,$b:ident,$c:ident,$d:ident,$e:ident,$g:ident,$h:ident])=>`($(Lean.mkIdent `K.lookup) $f=some ⟨$o,$p,.func (fnOf $n $n (ZL $s) (YV $s) (Yq $s) .none $a $b $c $d $e $g),$h⟩)
set_option bootstrap.genMatcherCode false
noncomputable def top (i:Nat):Stmt:=PySem.Challenge.pw_levelcord_k94_whole_what_is_taken_is_so.main.body.getD i (.Pass ⟨0,0,0,0⟩)
theorem D_0:DefIs (top 95) ["_law_top","_law_bottom","_law_one","_law_other"] 2 C_0 S_0:=⟨by sleep 50,by decide +kernel,by sleep 62,vc_0,(by sleep 72)⟩
theorem D_1:DefIs (top 94) ["_law_pack_here","_law_size","_law_digit"] 2 C_1 S_1:=⟨by sleep 50,by decide +kernel,by sleep 63,vc_1,(by sleep 72)⟩
theorem D_2:DefIs (top 97) ["_law_one","_law_other"] 2 C_2 S_2:=⟨by sleep 50,by decide +kernel,by sleep 62,vc_2,(by sleep 72)⟩
theorem D_3:DefIs (top 104) ["_law_row"] 1 C_3 S_3:=⟨by sleep 50,by decide +kernel,by sleep 62,vc_3,(by sleep 71)⟩
theorem D_4:DefIs (top 16) ["one","other"] 2 C_4 S_4:=⟨by sleep 50,by decide +kernel,by sleep 62,vc_4,(by sleep 72)⟩
theorem D_5:DefIs (top 9) ["one","other"] 2 C_5 S_5:=⟨by sleep 50,by decide +kernel,by sleep 62,vc_5,(by sleep 72)⟩
theorem D_6:DefIs (top 11) ["top","bottom","divisor"] 2 C_6 S_6:=⟨by sleep 50,by decide +kernel,by sleep 62,vc_6,(by sleep 72)⟩
theorem D_7:DefIs (top 13) ["one","other"] 2 C_7 S_7:=⟨by sleep 50,by decide +kernel,by sleep 62,vc_7,(by sleep 72)⟩
theorem D_8:DefIs (top 15) ["one","other"] 2 C_8 S_8:=⟨by sleep 50,by decide +kernel,by sleep 62,vc_8,(by sleep 72)⟩
theorem D_9:DefIs (top 34) ["begin","height","at","other_height"] 4 C_9 S_9:=⟨by sleep 50,by decide +kernel,by sleep 64,vc_9,(by sleep 74)⟩
theorem D_10:DefIs (top 35) ["places","begin","height","low_at","high_at","steepest_low","flattest_high","at","to_low","to_high"] 3 C_10 S_10:=⟨by sleep 50,by decide +kernel,by sleep 65,vc_10,(by sleep 73)⟩
theorem D_11:DefIs (top 14) ["one","other"] 2 C_11 S_11:=⟨by sleep 50,by decide +kernel,by sleep 62,vc_11,(by sleep 72)⟩
theorem D_12:DefIs (top 12) ["one","other"] 2 C_12 S_12:=⟨by sleep 50,by decide +kernel,by sleep 62,vc_12,(by sleep 72)⟩
theorem D_13:DefIs (top 36) ["begin","height","touch","at","other_height","climb"] 3 C_13 S_13:=⟨by sleep 50,by decide +kernel,by sleep 65,vc_13,(by sleep 73)⟩
theorem D_14:DefIs (top 37) ["places","end","row","begin","height","shown"] 1 C_14 S_14:=⟨by sleep 50,by decide +kernel,by sleep 63,vc_14,(by sleep 71)⟩
theorem D_15:DefIs (top 8) ["thing"] 1 C_15 S_15:=⟨by sleep 50,by decide +kernel,by sleep 62,vc_15,(by sleep 71)⟩
theorem D_16:DefIs (top 10) ["thing","top","bottom"] 1 C_16 S_16:=⟨by sleep 50,by decide +kernel,by sleep 61,vc_16,(by sleep 71)⟩
theorem D_17:DefIs (top 19) ["thing","least","most"] 3 C_17 S_17:=⟨by sleep 50,by decide +kernel,by sleep 63,vc_17,(by sleep 73)⟩
theorem D_18:DefIs (top 21) ["thing"] 1 C_18 S_18:=⟨by sleep 50,by decide +kernel,by sleep 61,vc_18,(by sleep 71)⟩
theorem D_19:DefIs (top 22) ["thing"] 1 C_19 S_19:=⟨by sleep 50,by decide +kernel,by sleep 61,vc_19,(by sleep 71)⟩
theorem D_20:DefIs (top 23) ["thing"] 1 C_20 S_20:=⟨by sleep 50,by decide +kernel,by sleep 61,vc_20,(by sleep 71)⟩
theorem D_21:DefIs (top 27) ["tube"] 1 C_21 S_21:=⟨by sleep 50,by decide +kernel,by sleep 61,vc_21,(by sleep 71)⟩
theorem D_22:DefIs (top 38) ["tube"] 1 C_22 S_22:=⟨by sleep 50,by decide +kernel,by sleep 61,vc_22,(by sleep 71)⟩
theorem D_23:DefIs (top 99) ["_law_one","_law_other"] 2 C_23 S_23:=⟨by sleep 50,by decide +kernel,by sleep 62,vc_23,(by sleep 72)⟩
theorem D_24:DefIs (top 96) ["_law_one","_law_other"] 2 C_24 S_24:=⟨by sleep 50,by decide +kernel,by sleep 62,vc_24,(by sleep 72)⟩
theorem D_25:DefIs (top 107) ["_law_some","_law_left","_law_found","_law_here","_law_first","_law_one"] 1 C_25 S_25:=⟨by sleep 50,by decide +kernel,by sleep 61,vc_25,(by sleep 71)⟩
theorem D_26:DefIs (top 108) ["_law_other","_law_some","_law_mine","_law_theirs"] 2 C_26 S_26:=⟨by sleep 50,by decide +kernel,by sleep 62,vc_26,(by sleep 72)⟩
theorem D_27:DefIs (top 40) ["numbers","together","one"] 1 C_27 S_27:=⟨by sleep 50,by decide +kernel,by sleep 62,vc_27,(by sleep 71)⟩
theorem D_28:DefIs (top 29) ["row"] 1 C_28 S_28:=⟨by sleep 50,by decide +kernel,by sleep 62,vc_28,(by sleep 71)⟩
theorem D_29:DefIs (top 30) ["row"] 1 C_29 S_29:=⟨by sleep 50,by decide +kernel,by sleep 61,vc_29,(by sleep 71)⟩
theorem D_30:DefIs (top 43) ["row"] 1 C_30 S_30:=⟨by sleep 50,by decide +kernel,by sleep 62,vc_30,(by sleep 71)⟩
theorem D_31:DefIs (top 26) ["tube"] 1 C_31 S_31:=⟨by sleep 50,by decide +kernel,by sleep 61,vc_31,(by sleep 71)⟩
theorem D_32:DefIs (top 24) ["place","height","low","high"] 2 C_32 S_32:=⟨by sleep 50,by decide +kernel,by sleep 62,vc_32,(by sleep 72)⟩
theorem D_33:DefIs (top 25) ["tube","thing"] 2 C_33 S_33:=⟨by sleep 50,by decide +kernel,by sleep 62,vc_33,(by sleep 72)⟩
theorem D_34:DefIs (top 67) ["parts","paper","tube","row"] 2 C_34 S_34:=⟨by sleep 50,by decide +kernel,by sleep 63,vc_34,(by sleep 72)⟩
theorem D_35:DefIs (top 20) ["thing"] 1 C_35 S_35:=⟨by sleep 50,by decide +kernel,by sleep 61,vc_35,(by sleep 71)⟩
theorem D_36:DefIs (top 46) ["walked","levelling","greater","less","amount"] 2 C_36 S_36:=⟨by sleep 50,by decide +kernel,by sleep 63,vc_36,(by sleep 72)⟩
theorem D_37:DefIs (top 28) ["thing"] 1 C_37 S_37:=⟨by sleep 50,by decide +kernel,by sleep 61,vc_37,(by sleep 71)⟩
theorem D_38:DefIs (top 45) ["steps","thing","greater","less","amount"] 2 C_38 S_38:=⟨by sleep 50,by decide +kernel,by sleep 63,vc_38,(by sleep 72)⟩
theorem D_39:DefIs (top 47) ["steps","levellings","walked","at","levelling"] 2 C_39 S_39:=⟨by sleep 50,by decide +kernel,by sleep 62,vc_39,(by sleep 72)⟩
theorem D_40:DefIs (top 65) ["parts","paper","steps","other"] 2 C_40 S_40:=⟨by sleep 50,by decide +kernel,by sleep 63,vc_40,(by sleep 72)⟩
theorem D_41:DefIs (top 59) ["places","row","climbs","at","low","high"] 3 C_41 S_41:=⟨by sleep 50,by decide +kernel,by sleep 64,vc_41,(by sleep 73)⟩
theorem D_42:DefIs (top 60) ["tube","thing"] 2 C_42 S_42:=⟨by sleep 50,by decide +kernel,by sleep 62,vc_42,(by sleep 72)⟩
theorem D_43:DefIs (top 62) ["parts","tube","row"] 1 C_43 S_43:=⟨by sleep 50,by decide +kernel,by sleep 62,vc_43,(by sleep 71)⟩
theorem D_44:DefIs (top 41) ["numbers","places","at","where"] 1 C_44 S_44:=⟨by sleep 50,by decide +kernel,by sleep 62,vc_44,(by sleep 71)⟩
theorem D_45:DefIs (top 42) ["numbers","sums","together","at"] 1 C_45 S_45:=⟨by sleep 50,by decide +kernel,by sleep 61,vc_45,(by sleep 71)⟩
theorem D_46:DefIs (top 66) ["parts","paper","steps","other","sums","other_sums"] 2 C_46 S_46:=⟨by sleep 50,by decide +kernel,by sleep 63,vc_46,(by sleep 72)⟩
theorem D_47:DefIs (top 90) ["claim","paper","word","parts","check_with","check"] 2 C_47 S_47:=⟨by sleep 50,by decide +kernel,by sleep 64,vc_47,(by sleep 72)⟩
theorem D_48:DefIs (top 48) ["steps","places","walked","told","where","less","greater","at","levelling"] 2 C_48 S_48:=⟨by sleep 50,by decide +kernel,by sleep 66,vc_48,(by sleep 72)⟩
theorem D_49:DefIs (top 51) ["steps","aim","sums","wanted"] 2 C_49 S_49:=⟨by sleep 50,by decide +kernel,by sleep 62,vc_49,(by sleep 72)⟩
theorem D_50:DefIs (top 49) ["steps","aim","places","greater","less","at","over","lack"] 3 C_50 S_50:=⟨by sleep 50,by decide +kernel,by sleep 68,vc_50,(by sleep 73)⟩
theorem D_51:DefIs (top 50) ["steps","aim","places","walked","told","levelling"] 3 C_51 S_51:=⟨by sleep 50,by decide +kernel,by sleep 67,vc_51,(by sleep 73)⟩
theorem D_52:DefIs (top 52) ["other","steps","places","first"] 2 C_52 S_52:=⟨by sleep 50,by decide +kernel,by sleep 62,vc_52,(by sleep 72)⟩
theorem D_53:DefIs (top 110) ["_law_some","_law_papers","_law_levellings","_law_one","_law_other","_law_due"] 1 C_53 S_53:=⟨by sleep 50,by decide +kernel,by sleep 63,vc_53,(by sleep 71)⟩
theorem D_54:DefIs (top 98) ["_law_one","_law_other"] 2 C_54 S_54:=⟨by sleep 50,by decide +kernel,by sleep 63,vc_54,(by sleep 72)⟩
theorem D_55:DefIs (top 103) ["_law_pack_here","_law_tube_here","_law_found","_law_low_here","_law_high","_law_part"] 2 C_55 S_55:=⟨by sleep 50,by decide +kernel,by sleep 63,vc_55,(by sleep 72)⟩
theorem D_56:DefIs (top 105) ["_law_tube_here","_law_row","_law_k"] 2 C_56 S_56:=⟨by sleep 50,by decide +kernel,by sleep 62,vc_56,(by sleep 72)⟩
theorem D_57:DefIs (top 106) ["_law_tube_here","_law_row","_law_some","_law_k"] 2 C_57 S_57:=⟨by sleep 50,by decide +kernel,by sleep 62,vc_57,(by sleep 72)⟩
theorem D_58:DefIs (top 109) ["_law_tubes","_law_rows","_law_tube_here","_law_row","_law_due","_law_shown"] 2 C_58 S_58:=⟨by sleep 50,by decide +kernel,by sleep 65,vc_58,(by sleep 72)⟩
theorem D_59:DefIs (top 111) ["_law_pack_here","_law_tubes","_law_rows","_law_tube_here"] 2 C_59 S_59:=⟨by sleep 50,by decide +kernel,by sleep 64,vc_59,(by sleep 72)⟩
theorem D_60:DefIs (top 92) ["_law_cell"] 1 C_60 S_60:=⟨by sleep 50,by decide +kernel,by sleep 61,vc_60,(by sleep 71)⟩
theorem D_61:DefIs (top 93) ["_law_script","_law_k","_law_found","_law_at"] 2 C_61 S_61:=⟨by sleep 50,by decide +kernel,by sleep 62,vc_61,(by sleep 72)⟩
theorem D_62:DefIs (top 100) ["_law_pack_here","_law_wide","_law_pick"] 2 C_62 S_62:=⟨by sleep 50,by decide +kernel,by sleep 62,vc_62,(by sleep 72)⟩
theorem D_63:DefIs (top 101) ["_law_pack_here","_law_most","_law_wide","_law_here","_law_found","_law_turn"] 3 C_63 S_63:=⟨by sleep 50,by decide +kernel,by sleep 63,vc_63,(by sleep 73)⟩
theorem D_64:DefIs (top 102) ["_law_pack_here","_law_most","_law_wide","_law_tube_here","_law_first","_law_last"] 3 C_64 S_64:=⟨by sleep 50,by decide +kernel,by sleep 63,vc_64,(by sleep 73)⟩
noncomputable abbrev s_65:Stmt:=top 112
theorem ck_65:isSs ⟨["_law_script","_law_k","_law_tube_here","_law_pack_here","_law_other","_law_low_here","_law_high","_law_more_here"],Yq s_65,true,true⟩ true C_65 (YV s_65)=true:=by decide +kernel
theorem sc_65:FnScope ["_law_script","_law_k","_law_tube_here","_law_pack_here","_law_other","_law_low_here","_law_high","_law_more_here"] ["_law_script"] (Yq s_65):=by sleep 50
theorem len_65:∀ ds M R E,SLaw ds M R E->ds.length=1:=by sleep 61
set_option maxHeartbeats 0 in
theorem all_mk {l:OpenLaw} {w:World} {K:Frag} {h:Heap} {mg:Str->Option Value} {fa:Addr} (X:K.In h) (G:h.Ns mainGlobals mg) (hfa:mg "law"=some (.ref fa))
  (h0:Has K "_law_low" (top 95))
  (h1:Has K "_law_take" (top 94))
  (h2:Has K "_law_less_by" (top 97))
  (h3:Has K "_law_steps" (top 104))
  (h4:Has K "is_less" (top 16))
  (h5:Has K "greatest_divisor" (top 9))
  (h6:Has K "number" (top 11))
  (h7:Has K "taken" (top 13))
  (h8:Has K "parted" (top 15))
  (h9:Has K "rise" (top 34))
  (h10:Has K "next_touch" (top 35))
  (h11:Has K "multiplied" (top 14))
  (h12:Has K "added" (top 12))
  (h13:Has K "straight_on" (top 36))
  (h14:Has K "taut_row" (top 37))
  (h15:Has K "is_whole" (top 8))
  (h16:Has K "is_number" (top 10))
  (h17:Has K "are_numbers" (top 19))
  (h18:Has K "is_place" (top 21))
  (h19:Has K "is_tube" (top 22))
  (h20:Has K "is_tied" (top 23))
  (h21:Has K "want_tied" (top 27))
  (h22:Has K "cord" (top 38))
  (h23:Has K "_law_under" (top 99))
  (h24:Has K "_law_more" (top 96))
  (h25:Has K "_law_sums" (top 107))
  (h26:Has K "_law_leads" (top 108))
  (h27:Has K "total" (top 40))
  (h28:Has K "differences" (top 29))
  (h29:Has K "steps" (top 30))
  (h30:Has K "squares" (top 43))
  (h31:Has K "want_tube" (top 26))
  (h32:Has K "is_within" (top 24))
  (h33:Has K "is_row" (top 25))
  (h34:Has K "not_taut_holds" (top 67))
  (h35:Has K "are_steps" (top 20))
  (h36:Has K "walk" (top 46))
  (h37:Has K "want_steps" (top 28))
  (h38:Has K "can_be_done" (top 45))
  (h39:Has K "levelled" (top 47))
  (h40:Has K "leveller_holds" (top 65))
  (h41:Has K "bends_at_touches" (top 59))
  (h42:Has K "is_cord_of" (top 60))
  (h43:Has K "taut_holds" (top 62))
  (h44:Has K "falling" (top 41))
  (h45:Has K "sums_of_greatest" (top 42))
  (h46:Has K "no_leveller_holds" (top 66))
  (h47:Has K "holds" (top 90))
  (h48:Has K "exchanges" (top 48))
  (h49:Has K "lead_there" (top 51))
  (h50:Has K "next_evening" (top 49))
  (h51:Has K "evenings" (top 50))
  (h52:Has K "between" (top 52))
  (h53:Has K "_law_steps_right" (top 110))
  (h54:Has K "_law_by" (top 98))
  (h55:Has K "_law_in_tube" (top 103))
  (h56:Has K "_law_within" (top 105))
  (h57:Has K "_law_bent_right" (top 106))
  (h58:Has K "_law_tubes_right" (top 109))
  (h59:Has K "_law_right" (top 111))
  (h60:Has K "_law_mixed" (top 92))
  (h61:Has K "_law_pack" (top 93))
  (h62:Has K "_law_width" (top 100))
  (h63:Has K "_law_loose_tube" (top 101))
  (h64:Has K "_law_tube" (top 102))
  (h65:Has K "law" s_65)
  (z0: ~~~"abs"=some none)
  (z1: ~~~"all"=some none)
  (z2: ~~~"any"=some none)
  (z3: ~~~"divmod"=some none)
  (z4: ~~~"isinstance"=some none)
  (z5: ~~~"len"=some none)
  (z6: ~~~"max"=some none)
  (z7: ~~~"min"=some none)
  (z8: ~~~"str"=some none)
  (z9: ~~~"tuple"=some none)
  (z10: ~~~"list"=some none)
  (z11: ~~~"int"=some none)
  (z12: ~~~"bool"=some none)
  (z13: ~~~"dict"=some none)
  (z14: ~~~"range"=some none)
  (z15: ~~~"ValueError"=some none)
  (z16: ~~~"sum"=some none)
  (z17: ~~~"zip"=some none)
  (z18: ~~~"enumerate"=some none)
  {C0:Tok} (gl0: ~~~"MOST_PLACES"=some (some (.int 25 C0)))
  {C1:Addr} {ta1 tb1:Tok} {dx1:Option Addr} {sx1:Array (Option Value)} {mx1:Nat} (gl1: ~~~"NOUGHT"=some (some (.ref C1))) (lk1:K.lookup C1=some ⟨.type "tuple",dx1,.seq #[.int 0 ta1,.int 1 tb1] mx1,sx1⟩)
  {C2:Addr} (gl2: ~~~"NoLevel"=some (some (.ref C2)))
  {C3:Addr} (gl3: ~~~"NoNumber"=some (some (.ref C3)))
  {C4:Addr} (gl4: ~~~"NoRow"=some (some (.ref C4)))
  {C5:Addr} (gl5: ~~~"NoTube"=some (some (.ref C5)))
  {C6:Addr} {ep6:Nat} {hh6_0 hh6_1 hh6_2 hh6_3 hh6_4 hh6_5 hh6_6 hh6_7 hh6_8 hh6_9 hh6_10 hh6_11:Int} {tt6_0 tt6_1 tt6_2 tt6_3 tt6_4 tt6_5 tt6_6 tt6_7 tt6_8 tt6_9 tt6_10 tt6_11:Tok} {vt6_0:Tok} {vt6_1:Tok} {vt6_2:Tok} {vt6_3:Tok} {vt6_4:Tok} {vt6_5:Tok} {vt6_6:Tok} {vt6_7:Tok} {vt6_8:Tok} {vt6_9:Tok} {vt6_10:Tok} {vt6_11:Tok} (gl6: ~~~"SIZES"=some (some (.ref C6))) (lo6:(C6==sysModules)=false)
  (lk6:K.lookup C6=some ⟨.type "dict",none,.dict #[⟨hh6_0,.str "taut" tt6_0,.int 2 vt6_0⟩,⟨hh6_1,.str "loose" tt6_1,.int 2 vt6_1⟩,⟨hh6_2,.str "ring" tt6_2,.int 2 vt6_2⟩,⟨hh6_3,.str "leveller" tt6_3,.int 2 vt6_3⟩,⟨hh6_4,.str "no leveller" tt6_4,.int 2 vt6_4⟩,⟨hh6_5,.str "not taut" tt6_5,.int 2 vt6_5⟩,⟨hh6_6,.str "smooth" tt6_6,.int 3 vt6_6⟩,⟨hh6_7,.str "stair" tt6_7,.int 2 vt6_7⟩,⟨hh6_8,.str "settled" tt6_8,.int 2 vt6_8⟩,⟨hh6_9,.str "store" tt6_9,.int 3 vt6_9⟩,⟨hh6_10,.str "speeds" tt6_10,.int 2 vt6_10⟩,⟨hh6_11,.str "done" tt6_11,.int 3 vt6_11⟩] ep6,#[]⟩)
  {C7:Addr} {ep7:Nat} {hh7_0 hh7_1 hh7_2 hh7_3 hh7_4 hh7_5 hh7_6 hh7_7:Int} {tt7_0 tt7_1 tt7_2 tt7_3 tt7_4 tt7_5 tt7_6 tt7_7:Tok} {vt7_0:Addr} {vt7_1:Addr} {vt7_2:Addr} {vt7_3:Addr} {vt7_4:Addr} {vt7_5:Addr} {vt7_6:Addr} {vt7_7:Addr} (gl7: ~~~"WITHOUT_PAPER"=some (some (.ref C7))) (lo7:(C7==sysModules)=false)
  (lk7:K.lookup C7=some ⟨.type "dict",none,.dict #[⟨hh7_0,.str "taut" tt7_0,.ref vt7_0⟩,⟨hh7_1,.str "loose" tt7_1,.ref vt7_1⟩,⟨hh7_2,.str "ring" tt7_2,.ref vt7_2⟩,⟨hh7_3,.str "smooth" tt7_3,.ref vt7_3⟩,⟨hh7_4,.str "stair" tt7_4,.ref vt7_4⟩,⟨hh7_5,.str "store" tt7_5,.ref vt7_5⟩,⟨hh7_6,.str "speeds" tt7_6,.ref vt7_6⟩,⟨hh7_7,.str "done" tt7_7,.ref vt7_7⟩] ep7,#[]⟩)
  (fn7_0: ~~~"taut_holds"=some (some (.ref vt7_0)))
  (fn7_1: ~~~"loose_holds"=some (some (.ref vt7_1)))
  (fn7_2: ~~~"ring_holds"=some (some (.ref vt7_2)))
  (fn7_3: ~~~"smooth_holds"=some (some (.ref vt7_3)))
  (fn7_4: ~~~"stair_holds"=some (some (.ref vt7_4)))
  (fn7_5: ~~~"store_holds"=some (some (.ref vt7_5)))
  (fn7_6: ~~~"speeds_hold"=some (some (.ref vt7_6)))
  (fn7_7: ~~~"done_holds"=some (some (.ref vt7_7)))
  {C8:Addr} {ep8:Nat} {hh8_0 hh8_1 hh8_2 hh8_3:Int} {tt8_0 tt8_1 tt8_2 tt8_3:Tok} {vt8_0:Addr} {vt8_1:Addr} {vt8_2:Addr} {vt8_3:Addr} (gl8: ~~~"WITH_PAPER"=some (some (.ref C8))) (lo8:(C8==sysModules)=false)
  (lk8:K.lookup C8=some ⟨.type "dict",none,.dict #[⟨hh8_0,.str "leveller" tt8_0,.ref vt8_0⟩,⟨hh8_1,.str "no leveller" tt8_1,.ref vt8_1⟩,⟨hh8_2,.str "not taut" tt8_2,.ref vt8_2⟩,⟨hh8_3,.str "settled" tt8_3,.ref vt8_3⟩] ep8,#[]⟩)
  (fn8_0: ~~~"leveller_holds"=some (some (.ref vt8_0)))
  (fn8_1: ~~~"no_leveller_holds"=some (some (.ref vt8_1)))
  (fn8_2: ~~~"not_taut_holds"=some (some (.ref vt8_2)))
  (fn8_3: ~~~"settled_holds"=some (some (.ref vt8_3)))
  (tab:Zv K=true)
  : ∃ fd:FuncData,(∀ (s:Shared) (v:Value),BindsTo s fd ⟨[v],[]⟩ [("_law_script",v)])/\∀ base:Heap,K.In base->base.Ns mainGlobals mg->FnOk l.prog w K mg base (CXR l.prog w) 66 fa fd ["_law_script"] (XW K SLaw):=by
 obtain @⟨f65,oc65,od65,an65,sl65,kV65,dc65,pm65,cd65,ct65,a65,l65,c65,k65⟩:=h65;have e:=hfa.symm.trans (mg_of X G a65);cases e;have B:Blt mg:=⟨fun b=>by cases b<;>first|exact mg_none_of X G z0|exact mg_none_of X G z1|exact mg_none_of X G z2|exact mg_none_of X G z3|exact mg_none_of X G z4|exact mg_none_of X G z5|exact mg_none_of X G z6|exact mg_none_of X G z7|exact mg_none_of X G z8|exact mg_none_of X G z9|exact mg_none_of X G z10|exact mg_none_of X G z11|exact mg_none_of X G z16,fun t=>by cases t<;>first|exact mg_none_of X G z0|exact mg_none_of X G z1|exact mg_none_of X G z2|exact mg_none_of X G z3|exact mg_none_of X G z4|exact mg_none_of X G z5|exact mg_none_of X G z6|exact mg_none_of X G z7|exact mg_none_of X G z8|exact mg_none_of X G z9|exact mg_none_of X G z10|exact mg_none_of X G z11|exact mg_none_of X G z12|exact mg_none_of X G z13|exact mg_none_of X G z15,mg_none_of X G z14,mg_none_of X G z17,mg_none_of X G z18,mg_none_of X G z10⟩
 have F65:=Av (st:=s_65) l65 c65 k65;refine⟨fnOf "law" "law" (ZL s_65) (YV s_65) (Yq s_65) .none kV65 dc65 pm65 an65 cd65 ct65,fun s v=>.of_eq rfl,fun base _ _=>?_⟩;have Z:Zc l.prog w K h mg base:=⟨X,G,B,tab⟩;have G0:GloE K mg "MOST_PLACES" Zd:=⟨_,.int 25,mg_of X G gl0,⟨_,rfl⟩,fun _=>.int _⟩;have G1:GloE K mg "NOUGHT" Wl:=JH X G gl1 lk1;have G2:GloE K mg "NoLevel" (.cls "NoLevel"):=Xb X G %[|4] gl2;have G3:GloE K mg "NoNumber" (.cls "NoNumber"):=Xb X G %[|4] gl3;have G4:GloE K mg "NoRow" (.cls "NoRow"):=Xb X G %[|4] gl4;have G5:GloE K mg "NoTube" (.cls "NoTube"):=Xb X G %[|4] gl5;have G6:GloE K mg "SIZES" J6:=Wt (us:=[.int 2 vt6_0,.int 2 vt6_1,.int 2 vt6_2,.int 2 vt6_3,.int 2 vt6_4,.int 2 vt6_5,.int 3 vt6_6,.int 2 vt6_7,.int 2 vt6_8,.int 3 vt6_9,.int 2 vt6_10,.int 3 vt6_11]) (vs:=[.int 2,.int 2,.int 2,.int 2,.int 2,.int 2,.int 3,.int 2,.int 2,.int 3,.int 2,.int 3]) X G gl6 lo6 lk6 ⟨rfl,rfl,rfl⟩ rfl (.cons rfl (.cons rfl (.cons rfl (.cons rfl (.cons rfl (.cons rfl (.cons rfl (.cons rfl (.cons rfl (.cons rfl (.cons rfl (.cons rfl .nil)))))))))))) (.cons ⟨_,rfl⟩ (.cons ⟨_,rfl⟩ (.cons ⟨_,rfl⟩ (.cons ⟨_,rfl⟩ (.cons ⟨_,rfl⟩ (.cons ⟨_,rfl⟩ (.cons ⟨_,rfl⟩ (.cons ⟨_,rfl⟩ (.cons ⟨_,rfl⟩ (.cons ⟨_,rfl⟩ (.cons ⟨_,rfl⟩ (.cons ⟨_,rfl⟩ .nil)))))))))))) (fun _=>.cons (.int _) (.cons (.int _) (.cons (.int _) (.cons (.int _) (.cons (.int _) (.cons (.int _) (.cons (.int _) (.cons (.int _) (.cons (.int _) (.cons (.int _) (.cons (.int _) (.cons (.int _) (.nil)))))))))))))
 have G7:GloE K mg "WITHOUT_PAPER" Xk:=Wt (us:=[.ref vt7_0,.ref vt7_1,.ref vt7_2,.ref vt7_3,.ref vt7_4,.ref vt7_5,.ref vt7_6,.ref vt7_7]) (vs:=[.ref vt7_0,.ref vt7_1,.ref vt7_2,.ref vt7_3,.ref vt7_4,.ref vt7_5,.ref vt7_6,.ref vt7_7]) X G gl7 lo7 lk7 ⟨rfl,rfl,rfl⟩ rfl (.cons rfl (.cons rfl (.cons rfl (.cons rfl (.cons rfl (.cons rfl (.cons rfl (.cons rfl .nil)))))))) (.cons rfl (.cons rfl (.cons rfl (.cons rfl (.cons rfl (.cons rfl (.cons rfl (.cons rfl .nil)))))))) (fun _=>.cons (.fn fn7_0) (.cons (.fn fn7_1) (.cons (.fn fn7_2) (.cons (.fn fn7_3) (.cons (.fn fn7_4) (.cons (.fn fn7_5) (.cons (.fn fn7_6) (.cons (.fn fn7_7) (.nil)))))))));have G8:GloE K mg "WITH_PAPER" Xh:=Wt (us:=[.ref vt8_0,.ref vt8_1,.ref vt8_2,.ref vt8_3]) (vs:=[.ref vt8_0,.ref vt8_1,.ref vt8_2,.ref vt8_3]) X G gl8 lo8 lk8 ⟨rfl,rfl,rfl⟩ rfl (.cons rfl (.cons rfl (.cons rfl (.cons rfl .nil)))) (.cons rfl (.cons rfl (.cons rfl (.cons rfl .nil)))) (fun _=>.cons (.fn fn8_0) (.cons (.fn fn8_1) (.cons (.fn fn8_2) (.cons (.fn fn8_3) (.nil)))))
 have GF40:GloE K mg "leveller_holds" (.fn "leveller_holds"):=Xa X G h40;have GF46:GloE K mg "no_leveller_holds" (.fn "no_leveller_holds"):=Xa X G h46;have GF34:GloE K mg "not_taut_holds" (.fn "not_taut_holds"):=Xa X G h34;have GF43:GloE K mg "taut_holds" (.fn "taut_holds"):=Xa X G h43;have E0:=DefIs.ok 0 D_0 h0 Z (by sleep 51);have E1:=DefIs.ok 1 D_1 h1 Z (by sleep 51);have E2:=DefIs.ok 2 D_2 h2 Z (by sleep 51);have E3:=DefIs.ok 3 D_3 h3 Z (by sleep 51);have E4:=DefIs.ok 4 D_4 h4 Z (by sleep 51);have E5:=DefIs.ok 5 D_5 h5 Z (by sleep 51);have E6:=DefIs.ok 6 D_6 h6 Z (by sleep 51);have E7:=DefIs.ok 7 D_7 h7 Z (by sleep 51);have E8:=DefIs.ok 8 D_8 h8 Z (by sleep 51);have E9:=DefIs.ok 9 D_9 h9 Z (by sleep 51);have E10:=DefIs.ok 10 D_10 h10 Z (by sleep 51);have E11:=DefIs.ok 11 D_11 h11 Z (by sleep 51);have E12:=DefIs.ok 12 D_12 h12 Z (by sleep 51);have E13:=DefIs.ok 13 D_13 h13 Z (by sleep 51)
 have E14:=DefIs.ok 14 D_14 h14 Z (by sleep 51);have E15:=DefIs.ok 15 D_15 h15 Z (by sleep 51);have E16:=DefIs.ok 16 D_16 h16 Z (by sleep 51);have E17:=DefIs.ok 17 D_17 h17 Z (by sleep 51);have E18:=DefIs.ok 18 D_18 h18 Z (by sleep 51);have E19:=DefIs.ok 19 D_19 h19 Z (by sleep 51);have E20:=DefIs.ok 20 D_20 h20 Z (by sleep 51);have E21:=DefIs.ok 21 D_21 h21 Z (by sleep 51);have E22:=DefIs.ok 22 D_22 h22 Z (by sleep 51);have E23:=DefIs.ok 23 D_23 h23 Z (by sleep 51);have E24:=DefIs.ok 24 D_24 h24 Z (by sleep 51);have E25:=DefIs.ok 25 D_25 h25 Z (by sleep 51);have E26:=DefIs.ok 26 D_26 h26 Z (by sleep 51);have E27:=DefIs.ok 27 D_27 h27 Z (by sleep 51);have E28:=DefIs.ok 28 D_28 h28 Z (by sleep 51);have E29:=DefIs.ok 29 D_29 h29 Z (by sleep 51);have E30:=DefIs.ok 30 D_30 h30 Z (by sleep 51);have E31:=DefIs.ok 31 D_31 h31 Z (by sleep 51);have E32:=DefIs.ok 32 D_32 h32 Z (by sleep 51);have E33:=DefIs.ok 33 D_33 h33 Z (by sleep 51)
 have E34:=DefIs.ok 34 D_34 h34 Z (by sleep 51);have E35:=DefIs.ok 35 D_35 h35 Z (by sleep 51);have E36:=DefIs.ok 36 D_36 h36 Z (by sleep 51);have E37:=DefIs.ok 37 D_37 h37 Z (by sleep 51);have E38:=DefIs.ok 38 D_38 h38 Z (by sleep 51);have E39:=DefIs.ok 39 D_39 h39 Z (by sleep 51);have E40:=DefIs.ok 40 D_40 h40 Z (by sleep 51);have E41:=DefIs.ok 41 D_41 h41 Z (by sleep 51);have E42:=DefIs.ok 42 D_42 h42 Z (by sleep 51);have E43:=DefIs.ok 43 D_43 h43 Z (by sleep 51);have E44:=DefIs.ok 44 D_44 h44 Z (by sleep 51);have E45:=DefIs.ok 45 D_45 h45 Z (by sleep 51);have E46:=DefIs.ok 46 D_46 h46 Z (by sleep 51);have E47:=DefIs.ok 47 D_47 h47 Z (by sleep 51);have E48:=DefIs.ok 48 D_48 h48 Z (by sleep 51);have E49:=DefIs.ok 49 D_49 h49 Z (by sleep 51);have E50:=DefIs.ok 50 D_50 h50 Z (by sleep 51);have E51:=DefIs.ok 51 D_51 h51 Z (by sleep 51);have E52:=DefIs.ok 52 D_52 h52 Z (by sleep 51);have E53:=DefIs.ok 53 D_53 h53 Z (by sleep 51)
 have E54:=DefIs.ok 54 D_54 h54 Z (by sleep 51);have E55:=DefIs.ok 55 D_55 h55 Z (by sleep 51);have E56:=DefIs.ok 56 D_56 h56 Z (by sleep 51);have E57:=DefIs.ok 57 D_57 h57 Z (by sleep 51);have E58:=DefIs.ok 58 D_58 h58 Z (by sleep 51);have E59:=DefIs.ok 59 D_59 h59 Z (by sleep 51);have E60:=DefIs.ok 60 D_60 h60 Z (by sleep 51);have E61:=DefIs.ok 61 D_61 h61 Z (by sleep 51);have E62:=DefIs.ok 62 D_62 h62 Z (by sleep 51);have E63:=DefIs.ok 63 D_63 h63 Z (by sleep 51);have E64:=DefIs.ok 64 D_64 h64 Z (by sleep 51);exact EA (k:=65) C_65 F65 B tab sc_65 ck_65 (by sleep 51) len_65 vc_65
end K
set_option bootstrap.genMatcherCode true
open PySem PySem.W PyProof.Rows
set_option maxRecDepth 100000 in
set_option maxHeartbeats 0 in
theorem PySem.Challenge.cw_levelcord_k94_whole_what_is_taken_is_so_holds : PySem.Challenge.rw_levelcord_k94_whole_what_is_taken_is_so.Holds := by
 w_on;o_law;k_head;(case hw=>w_witness2)
 k_fill
 refine DL.walkD (l:=PySem.Challenge.rw_levelcord_k94_whole_what_is_taken_is_so) (k:=66) (x:="_law_script") rfl rfl ⟨rfl,by decide,by decide⟩ (fun w h Y=>PySem.W.kIn_of Y) ?F
 case F =>
  intro w mg fa h KX G hmg;refine' K.all_mk KX G hmg ?h0 ?h1 ?h2 ?h3 ?h4 ?h5 ?h6 ?h7 ?h8 ?h9 ?h10 ?h11 ?h12 ?h13 ?h14 ?h15 ?h16 ?h17 ?h18 ?h19 ?h20 ?h21 ?h22 ?h23 ?h24 ?h25 ?h26 ?h27 ?h28 ?h29 ?h30 ?h31 ?h32 ?h33 ?h34 ?h35 ?h36 ?h37 ?h38 ?h39 ?h40 ?h41 ?h42 ?h43 ?h44 ?h45 ?h46 ?h47 ?h48 ?h49 ?h50 ?h51 ?h52 ?h53 ?h54 ?h55 ?h56 ?h57 ?h58 ?h59 ?h60 ?h61 ?h62 ?h63 ?h64 ?h65 ?z0 ?z1 ?z2 ?z3 ?z4 ?z5 ?z6 ?z7 ?z8 ?z9 ?z10 ?z11 ?z12 ?z13 ?z14 ?z15 ?z16 ?z17 ?z18 ?gl0 ?gl1 ?lk1 ?gl2 ?gl3 ?gl4 ?gl5 ?gl6 ?lo6 ?lk6 ?gl7 ?lo7 ?lk7 ?fn7_0 ?fn7_1 ?fn7_2 ?fn7_3 ?fn7_4 ?fn7_5 ?fn7_6 ?fn7_7 ?gl8 ?lo8 ?lk8 ?fn8_0 ?fn8_1 ?fn8_2 ?fn8_3 ?tab
  case h0|h1|h2|h3|h4|h5|h6|h7|h8|h9|h10|h11|h12|h13|h14|h15|h16|h17|h18|h19|h20|h21|h22|h23|h24|h25|h26|h27|h28|h29|h30|h31|h32|h33|h34|h35|h36|h37|h38|h39|h40|h41|h42|h43|h44|h45|h46|h47|h48|h49|h50|h51|h52|h53|h54|h55|h56|h57|h58|h59|h60|h61|h62|h63|h64|h65=>(refine' DL.Has.mk ?a ?l ?c ?k;case a|l|c|k=>k_is)
  case z0|z1|z2|z3|z4|z5|z6|z7|z8|z9|z10|z11|z12|z13|z14|z15|z16|z17|z18|gl0|gl1|lk1|gl2|gl3|gl4|gl5|gl6|lk6|gl7|lk7|fn7_0|fn7_1|fn7_2|fn7_3|fn7_4|fn7_5|fn7_6|fn7_7|gl8|lk8|fn8_0|fn8_1|fn8_2|fn8_3=>k_is
  case lo6|lo7|lo8=>kernel_rfl
  (case tab=>kernel_rfl)
